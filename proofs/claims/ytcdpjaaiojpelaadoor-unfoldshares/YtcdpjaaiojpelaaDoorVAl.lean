/- The contracts of ref's Alike and Equal. -/
import Derived.Test.YtcdpjaaiojpelaaDoorVLaw
namespace Go.Proofs.YtcdpjaaiojpelaaDoor
open Go.RowKit Go.Maps Go.WideMaps Go.Sort

/-- A row: where it lies. -/
structure Rw where
  a : Option Addr
  c : Nat
def noRw : Rw := ⟨none, 0⟩
def rwV (n : Nat) (R : List Rw) : List Value := R.map fun x => Value.slice x.a n x.c
def bbV (l : List Bool) : List Value := l.map Value.bool
theorem rwV_at (n : Nat) (R : List Rw) (i : Nat) (h : i < R.length) : (rwV n R)[i]? = some (.slice (R.getD i noRw).a n (R.getD i noRw).c) := by simp [rwV, h]
theorem rwV_len (n : Nat) (R : List Rw) : (rwV n R).length = R.length := by simp [rwV]
/-- What is told of the row i. -/
def rowB (f : Nat → Nat → Bool) (n i : Nat) : List Bool := (List.range n).map (f i)
theorem rowB_len (f : Nat → Nat → Bool) (n i : Nat) : (rowB f n i).length = n := by simp [rowB]
theorem rowB_at (f : Nat → Nat → Bool) (n i j : Nat) (h : j < n) : (bbV (rowB f n i))[j]? = some (.bool (f i j)) := by simp [bbV, rowB, h]
theorem rowB_snoc (f : Nat → Nat → Bool) (i j : Nat) : bbV (rowB f (j + 1) i) = bbV (rowB f j i) ++ [.bool (f i j)] := by simp [bbV, rowB, List.range_succ]
theorem bbV_len (l : List Bool) : (bbV l).length = l.length := by simp [bbV]

/-- Rows that are made, in blocks that aren't the list's own. -/
structure AlR (w : World) (B : Nat) (v : Value) (n : Nat) (f : Nat → Nat → Bool) (R : List Rw) : Prop where
  own : w.ownsRow B 50 1 v R.length (rwV n R)
  each : ∀ i, i < R.length → LsQ (fun b => v.ownBlock ≠ some b) w (R.getD i noRw).a (bbV (rowB f n i))
theorem AlR.below {w w' : World} {B : Nat} {v : Value} {n : Nat} {f : Nat → Nat → Bool} {R : List Rw} (h : AlR w B v n f R) (hb : Below w.heap.size w w') : AlR w' B v n f R := ⟨own_below h.own hb (Nat.le_refl _), fun i hi => (h.each i hi).below hb⟩
theorem AlR.next {w w' : World} {B C n g g2 cap2 k : Nat} {v : Value} {f : Nat → Nat → Bool} {R : List Rw} {x : Rw} {ob : Obj} (h : AlR w B v n f R) (hr : w.ownsRow C 4 1 (.slice x.a n x.c) n (bbV (rowB f n R.length))) (hk : k = w.heap.size + 1) (ho : w'.ownsRow B 50 1 (.slice (some ⟨g2, 0, none⟩) g cap2) g (rwV n R ++ [.slice x.a n x.c])) (hgr : (w.alloc ob).grownBy w' v.ownBlock) (hl : v.ownBlock = some g2 ∨ g2 = k) (hg : g = R.length + 1) : AlR w' B (.slice (some ⟨g2, 0, none⟩) g cap2) n f (R ++ [x]) := by
  subst hg
  have hlen : (R ++ [x]).length = R.length + 1 := by simp
  have hF : Fr (fun b => v.ownBlock = some b) w w' := ((Fr.refl (fun b => v.ownBlock = some b) w).alloc ob).trans (Fr.of_grown hgr (fun _ q => q)) (fun _ q _ => q)
  have hup : ∀ a cs, LsQ (fun b => v.ownBlock ≠ some b) w a cs → LsQ (fun b => (Value.slice (some ⟨g2, 0, none⟩) (R.length + 1) cap2).ownBlock ≠ some b) w' a cs := fun a cs hq => by
    have h1 : LsQ (fun b => v.ownBlock ≠ some b ∧ b < w.heap.size) w a cs := hq.mono (fun b q hb => ⟨q, hb⟩)
    refine (h1.fr hF (fun b q _ => q.1)).mono (fun b q _ e => ?_)
    simp only [Value.ownBlock, Option.some.injEq] at e
    rcases hl with e' | e'
    · exact q.1 (by rw [e', e])
    · omega
  refine ⟨by rw [hlen]; simpa [rwV] using ho, fun i hi => ?_⟩
  by_cases e : i < R.length
  · rw [show (R ++ [x]).getD i noRw = R.getD i noRw by rw [List.getD_eq_getElem?_getD, List.getElem?_append_left e, ← List.getD_eq_getElem?_getD]]
    exact hup _ _ (h.each i e)
  · rw [show i = R.length by omega, show (R ++ [x]).getD R.length noRw = x by simp]
    refine hup _ _ ((LsQ.of_own hr).mono (fun b q _ => ?_))
    exact fun e => own_apart9 h.own hr (by decide) e q

/-- What Alike tells. -/
def AlikeOut (X Y : List Nx) (f : Nat → Nat → Bool) (w w' : World) (e : Ending) : Prop := ∃ a c R, e = .returned (.slice a X.length c) ∧ List.length R = X.length ∧ LsAt w' a (rwV Y.length R) ∧ (∀ i, i < X.length → LsAt w' (R.getD i noRw).a (bbV (rowB f Y.length i))) ∧ Below w.heap.size w w'
theorem Tryd.infoRow : (Tryd.prog.info? 50).map (fun i => (i.zero, i.size, i.bytes)) = some (some (.slice none 0 0), 1, 24) := by kernel_rfl
structure AlI (w W : World) (a b : Option Addr) (X Y : List Nx) (c d : Nat) (r s : Int) : Prop where
  a_ : AtN 24 W w.heap.size #[.slice a X.length c, .int .i64 r]
  b_ : AtN 24 W (w.heap.size + 1) #[.slice b Y.length d, .int .i64 s]
  bel : Below w.heap.size w W
theorem AlI.more {w W W' : World} {a b : Option Addr} {X Y : List Nx} {c d : Nat} {r s : Int} (h : AlI w W a b X Y c d r s) (hb : Below W.heap.size W W') : AlI w W' a b X Y c d r s := ⟨h.a_.belowAll hb, h.b_.belowAll hb, h.bel.trans (hb.mono h.bel.size)⟩
theorem AlI.fr {w W W' : World} {S : Nat → Prop} {a b : Option Addr} {X Y : List Nx} {c d : Nat} {r s : Int} (h : AlI w W a b X Y c d r s) (hf : Fr S W W') (hs : ∀ k, S k → w.heap.size + 2 ≤ k) : AlI w W' a b X Y c d r s := ⟨h.a_.fr hf (fun q => by have := hs _ q; omega), h.b_.fr hf (fun q => by have := hs _ q; omega), Fr.below h.bel hf (fun k q => by have := hs k q; omega) h.bel.size⟩

set_option maxRecDepth 100000 in
set_option maxHeartbeats 4000000 in
theorem alike_any (X Y : List Nx) (a b : Option Addr) (c d : Nat) (r s : Int) (w : World) (f : Nat → Nat → Bool) (h : ScAt w a X) (h' : ScAt w b Y) (hX : Small X) (hY : Small Y) (dX : Dn (X.map Nx.nd)) (dY : Dn (Y.map Nx.nd)) (hf : ∀ i j, f i j = true ↔ Alk (X.map Nx.nd) (Y.map Nx.nd) i j) :
    Calls Tryd.prog 29 #[.agg #[.slice a X.length c, .int .i64 r], .agg #[.slice b Y.length d, .int .i64 s]] w fun e w' => AlikeOut X Y f w w' e := by
  obtain ⟨i0, hi0, hz0, hz1, hz2⟩ := info_parts Tryd.infoRow
  obtain ⟨j0, hj0, hy0, hy1, hy2⟩ := info_parts Tryd.infoB9
  have hnx := hX.1
  have hny := hY.1
  have HS : Hid (ScAt w a X ∧ ScAt w b Y ∧ Small X ∧ Small Y ∧ Dn (X.map Nx.nd) ∧ Dn (Y.map Nx.nd)) := ⟨h, h', hX, hY, dX, dY⟩
  have HF : Hid (∀ i j, f i j = true ↔ ownB (X.getD i noNx).nd (Y.getD j noNx).nd = true ∧ (X.getD i noNx).nd.kids.length = (Y.getD j noNx).nd.kids.length ∧ ∀ k, k < (X.getD i noNx).nd.kids.length → f (kidN (X.getD i noNx).nd k) (kidN (Y.getD j noNx).nd k) = true) := fun i j => by
    rw [hf, alk_iff, nds_atN, nds_atN]
    simp only [hf]
  have HI0 : Hid (∀ o1 o2 o3 : Obj, o1 = .cells #[.slice a X.length c, .int .i64 r] 24 → o2 = .cells #[.slice b Y.length d, .int .i64 s] 24 → o3 = .cells #[] 50 → AlI w (((w.alloc o1).alloc o2).alloc o3) a b X Y c d r s ∧ AlR (((w.alloc o1).alloc o2).alloc o3) (w.heap.size + 2) (.slice (some ⟨w.heap.size + 1 + 1, 0, none⟩) 0 0) Y.length f []) := by
    rintro _ _ _ rfl rfl rfl
    refine ⟨⟨((AtN.new w 24 _).alloc _).alloc _, (mk_at (AtN.new (w.alloc _) 24 _) (show _ = w.heap.size + 1 by simp)).alloc _, (((Below.refl w.heap.size w).alloc (Nat.le_refl _) _).alloc (by simp) _).alloc (by simp; omega) _⟩, ⟨?_, fun i hi => by simp at hi⟩⟩
    have := World.ownsRow_lit (base := w.heap.size + 2) (e := 50) (size := 1) ((w.alloc (.cells #[.slice a X.length c, .int .i64 r] 24)).alloc (.cells #[.slice b Y.length d, .int .i64 s] 24)) #[] 0 (by simp) (by decide) (by simp)
    simpa [rwV] using this
  clear h h' hX hY dX dY hf
  go_enter Tryd.func29, Tryd.ntmps29
  go_wp2_with fail
  go_loopw [5, 6] (fun ov iv wr => ∃ (i : Nat) (R : List Rw) (ao : Option Addr) (co : Nat), iv = .int .i64 i ∧ i ≤ X.length ∧ R.length = i ∧ ov = .slice ao i co ∧ Hid (AlI w wr a b X Y c d r s) ∧ Hid (AlR wr (w.heap.size + 2) (.slice ao i co) Y.length f R)) (fun _ iv _ => X.length - (intOf iv).toNat)
  case atStart =>
    obtain ⟨k1, k2⟩ := HI0.out _ _ _ rfl rfl rfl
    exact ⟨0, [], _, _, rfl, by omega, rfl, rfl, k1, k2⟩
  case round =>
    clear HI0
    obtain ⟨i, R, ao, co, rfl, hi, hRl, rfl, HI, HR⟩ := hrel
    have x0 : wr.cell? ⟨w.heap.size, 0, none⟩ = some (.slice a X.length c) := HI.out.a_.cell 0
    by_cases hlt : i < X.length
    · have hlt' : (i : Int) < X.length := by omega
      obtain ⟨u, hu⟩ : ∃ u, u = wr := ⟨_, rfl⟩
      subst hu
      have hla := HI.out.a_.lt
      have hlb := HI.out.b_.lt
      have HU0 : Hid (∀ o : Obj, o = .cells #[] 4 → (u.alloc o).ownsRow u.heap.size 4 1 (.slice (some ⟨u.heap.size, 0, none⟩) 0 0) 0 (bbV (rowB f 0 i)) ∧ Below u.heap.size u (u.alloc o)) := by
        rintro _ rfl
        refine ⟨?_, (Below.refl u.heap.size u).alloc (Nat.le_refl _) _⟩
        have := World.ownsRow_lit (base := u.heap.size) (e := 4) (size := 1) u #[] 0 (Nat.le_refl _) (by decide) (by simp)
        simpa [bbV, rowB] using this
      go_wp2_with fail
      go_loopw [7, 8] (fun rv jv wr => ∃ (j : Nat) (ar : Option Addr) (cr : Nat), jv = .int .i64 j ∧ j ≤ Y.length ∧ rv = .slice ar j cr ∧ Hid (wr.ownsRow u.heap.size 4 1 (.slice ar j cr) j (bbV (rowB f j i))) ∧ Hid (Below u.heap.size u wr)) (fun _ jv _ => Y.length - (intOf jv).toNat)
      case atStart =>
        obtain ⟨k1, k2⟩ := HU0.out _ rfl
        exact ⟨0, _, _, rfl, by omega, rfl, k1, k2⟩
      case round =>
        clear HU0 x0
        obtain ⟨j, ar, cr, rfl, hj, rfl, HO, HB⟩ := hrel
        have HIw : Hid (AlI w wr a b X Y c d r s) := HI.out.more HB.out
        have x0 : wr.cell? ⟨w.heap.size, 0, none⟩ = some (.slice a X.length c) := HIw.out.a_.cell 0
        have x1 : wr.cell? ⟨w.heap.size + 1, 0, none⟩ = some (.slice b Y.length d) := HIw.out.b_.cell 0
        by_cases hjl : j < Y.length
        · have hjl' : (j : Int) < Y.length := by omega
          obtain ⟨u2, hu2⟩ : ∃ u2, u2 = wr := ⟨_, rfl⟩
          subst hu2
          obtain ⟨bx, ox, rfl, hbx, d0, d1, d2, d3⟩ := (HS.out.1.belowB HIw.out.bel).node hlt
          obtain ⟨bq, oq, rfl, hbq, e0, e1, e2, e3⟩ := (HS.out.2.1.belowB HIw.out.bel).node hjl
          have hk1 := HS.out.2.2.1.kids hlt
          have hk2 := HS.out.2.2.2.1.kids hjl
          have hsz2 := HB.out.size
          have hla2 : w.heap.size < u2.heap.size := by omega
          have hlb2 : w.heap.size + 1 < u2.heap.size := by omega
          have HW : Hid (∀ o1 o2 : Obj, o1 = .cells #[.int .i64 (X.getD i noNx).nd.kind, .slice (X.getD i noNx).a1 (X.getD i noNx).nd.ints.length (X.getD i noNx).c1, .slice (X.getD i noNx).a2 (X.getD i noNx).nd.texts.length (X.getD i noNx).c2, .slice (X.getD i noNx).a3 (X.getD i noNx).nd.kids.length (X.getD i noNx).c3] 42 → o2 = .cells #[.int .i64 (Y.getD j noNx).nd.kind, .slice (Y.getD j noNx).a1 (Y.getD j noNx).nd.ints.length (Y.getD j noNx).c1, .slice (Y.getD j noNx).a2 (Y.getD j noNx).nd.texts.length (Y.getD j noNx).c2, .slice (Y.getD j noNx).a3 (Y.getD j noNx).nd.kids.length (Y.getD j noNx).c3] 42 → AtN 42 ((u2.alloc o1).alloc o2) u2.heap.size #[.int .i64 (X.getD i noNx).nd.kind, .slice (X.getD i noNx).a1 (X.getD i noNx).nd.ints.length (X.getD i noNx).c1, .slice (X.getD i noNx).a2 (X.getD i noNx).nd.texts.length (X.getD i noNx).c2, .slice (X.getD i noNx).a3 (X.getD i noNx).nd.kids.length (X.getD i noNx).c3] ∧ AtN 42 ((u2.alloc o1).alloc o2) (u2.heap.size + 1) #[.int .i64 (Y.getD j noNx).nd.kind, .slice (Y.getD j noNx).a1 (Y.getD j noNx).nd.ints.length (Y.getD j noNx).c1, .slice (Y.getD j noNx).a2 (Y.getD j noNx).nd.texts.length (Y.getD j noNx).c2, .slice (Y.getD j noNx).a3 (Y.getD j noNx).nd.kids.length (Y.getD j noNx).c3] ∧ Below u2.heap.size u2 ((u2.alloc o1).alloc o2) ∧ Calls Tryd.prog 42 #[.agg #[.int .i64 (X.getD i noNx).nd.kind, .slice (X.getD i noNx).a1 (X.getD i noNx).nd.ints.length (X.getD i noNx).c1, .slice (X.getD i noNx).a2 (X.getD i noNx).nd.texts.length (X.getD i noNx).c2, .slice (X.getD i noNx).a3 (X.getD i noNx).nd.kids.length (X.getD i noNx).c3], .agg #[.int .i64 (Y.getD j noNx).nd.kind, .slice (Y.getD j noNx).a1 (Y.getD j noNx).nd.ints.length (Y.getD j noNx).c1, .slice (Y.getD j noNx).a2 (Y.getD j noNx).nd.texts.length (Y.getD j noNx).c2, .slice (Y.getD j noNx).a3 (Y.getD j noNx).nd.kids.length (Y.getD j noNx).c3]] ((u2.alloc o1).alloc o2) fun e w' => e = .returned (.bool (ownB (X.getD i noNx).nd (Y.getD j noNx).nd)) ∧ Below ((u2.alloc o1).alloc o2).heap.size ((u2.alloc o1).alloc o2) w') := by
            rintro _ _ rfl rfl
            have hb : Below u2.heap.size u2 ((u2.alloc (.cells #[.int .i64 (X.getD i noNx).nd.kind, .slice (X.getD i noNx).a1 (X.getD i noNx).nd.ints.length (X.getD i noNx).c1, .slice (X.getD i noNx).a2 (X.getD i noNx).nd.texts.length (X.getD i noNx).c2, .slice (X.getD i noNx).a3 (X.getD i noNx).nd.kids.length (X.getD i noNx).c3] 42)).alloc (.cells #[.int .i64 (Y.getD j noNx).nd.kind, .slice (Y.getD j noNx).a1 (Y.getD j noNx).nd.ints.length (Y.getD j noNx).c1, .slice (Y.getD j noNx).a2 (Y.getD j noNx).nd.texts.length (Y.getD j noNx).c2, .slice (Y.getD j noNx).a3 (Y.getD j noNx).nd.kids.length (Y.getD j noNx).c3] 42)) := ((Below.refl u2.heap.size u2).alloc (Nat.le_refl _) _).alloc (by simp) _
            have hbw := HIw.out.bel.trans (hb.mono HIw.out.bel.size)
            have hg1 := great_no (HS.out.2.2.1.2 i hlt)
            exact ⟨(AtN.new u2 42 _).alloc _, mk_at (AtN.new (u2.alloc _) 42 _) (show _ = u2.heap.size + 1 by simp), hb, own_any (X.getD i noNx).nd (Y.getD j noNx).nd (X.getD i noNx).a1 (X.getD i noNx).a2 (X.getD i noNx).a3 (Y.getD j noNx).a1 (Y.getD j noNx).a2 (Y.getD j noNx).a3 (X.getD i noNx).c1 (X.getD i noNx).c2 (X.getD i noNx).c3 (Y.getD j noNx).c1 (Y.getD j noNx).c2 (Y.getD j noNx).c3 _ ((HS.out.1.belowB hbw).each i hlt) ((HS.out.2.1.belowB hbw).each j hjl) hg1.1 hg1.2.1⟩
          have HKx : Hid (∀ W, Below u2.heap.size u2 W → LsAt W (X.getD i noNx).a3 (iV (X.getD i noNx).nd.kids) ∧ LsAt W (Y.getD j noNx).a3 (iV (Y.getD j noNx).nd.kids)) := fun W hW => ⟨((HS.out.1.belowB (HIw.out.bel.trans (hW.mono HIw.out.bel.size))).each i hlt).k, ((HS.out.2.1.belowB (HIw.out.bel.trans (hW.mono HIw.out.bel.size))).each j hjl).k⟩
          have HKd : Hid ((∀ k, k < (X.getD i noNx).nd.kids.length → (X.getD i noNx).nd.kids.getD k 0 = ((kidN (X.getD i noNx).nd k : Nat) : Int) ∧ kidN (X.getD i noNx).nd k < i) ∧ ∀ k, k < (Y.getD j noNx).nd.kids.length → (Y.getD j noNx).nd.kids.getD k 0 = ((kidN (Y.getD j noNx).nd k : Nat) : Int) ∧ kidN (Y.getD j noNx).nd k < j) := by
            constructor
            · intro k hk
              have := HS.out.2.2.2.2.1.kid (i := i) (k := k) (by simpa using hlt) (by rw [nds_atN]; exact hk)
              rw [nds_atN] at this
              exact ⟨this.2.symm, this.1⟩
            · intro k hk
              have := HS.out.2.2.2.2.2.kid (i := j) (k := k) (by simpa using hjl) (by rw [nds_atN]; exact hk)
              rw [nds_atN] at this
              exact ⟨this.2.symm, this.1⟩
          have HFf : Hid (f i j = true ↔ (ownB (X.getD i noNx).nd (Y.getD j noNx).nd = true ∧ (X.getD i noNx).nd.kids.length = (Y.getD j noNx).nd.kids.length) ∧ ∀ k, k < (X.getD i noNx).nd.kids.length → f (kidN (X.getD i noNx).nd k) (kidN (Y.getD j noNx).nd k) = true) := by
            have := HF.out i j
            rw [← and_assoc] at this
            exact this
          have HRw : Hid (∀ W, Below u2.heap.size u2 W → ∀ p, p < i → ∀ q, q < Y.length → ∃ br orr b3 o3, ao = some ⟨br, orr, none⟩ ∧ W.cell? ⟨br, orr + p, none⟩ = some (.slice (some ⟨b3, o3, none⟩) Y.length (R.getD p noRw).c) ∧ W.cell? ⟨b3, o3 + q, none⟩ = some (.bool (f p q)) ∧ br < W.heap.size ∧ b3 < W.heap.size) := fun W hW p hp q hq => by
            have hr := (HR.out.below HB.out).below hW
            have h1 := hr.own
            rw [hRl] at h1
            obtain ⟨br, orr, e1, l1, c1⟩ := (LsAt.of_own h1).at (rwV_at Y.length R p (by omega))
            obtain ⟨b3, o3, e2, l2, c2⟩ := (hr.each p (by omega)).at (rowB_at f Y.length p q hq)
            rw [e2] at c1
            exact ⟨br, orr, b3, o3, e1, c1, c2, l1, l2⟩
          have HOB : Hid (u2.ownsRow u.heap.size 4 1 (.slice ar j cr) j (bbV (rowB f j i)) ∧ Below u.heap.size u u2) := ⟨HO.out, HB.out⟩
          clear HO HB HIw HS HF HI HR
          generalize X.getD i noNx = N at *
          generalize Y.getD j noNx = M at *
          obtain ⟨N, p1, l1, p2, l2, p3, l3⟩ := N
          obtain ⟨M, q1, m1, q2, m2, q3, m3⟩ := M
          have hk1' : N.kids.length ≤ 300 := hk1
          have hk2' : M.kids.length ≤ 300 := hk2
          clear hk1 hk2
          go_wp2_with fail
          obtain ⟨t1, t2, t3, t4⟩ := HW.out _ _ rfl rfl
          refine Calls.mono t4 ?_
          rintro e w3 ⟨rfl, hb3⟩
          have HB3 : Hid (Below u2.heap.size u2 w3) := t3.trans (hb3.mono t3.size)
          have HX3 : Hid (AtN 42 w3 u2.heap.size #[.int .i64 N.kind, .slice p1 N.ints.length l1, .slice p2 N.texts.length l2, .slice p3 N.kids.length l3] ∧ AtN 42 w3 (u2.heap.size + 1) #[.int .i64 M.kind, .slice q1 M.ints.length m1, .slice q2 M.texts.length m2, .slice q3 M.kids.length m3]) := ⟨t1.belowAll hb3, t2.belowAll hb3⟩
          have z3 : w3.cell? ⟨u2.heap.size, 3, none⟩ = some (.slice p3 N.kids.length l3) := HX3.out.1.cell 3
          have z4 : w3.cell? ⟨u2.heap.size + 1, 3, none⟩ = some (.slice q3 M.kids.length m3) := HX3.out.2.cell 3
          clear HW t1 t2 t3 t4 hb3 d0 d1 d2 d3 e0 e1 e2 e3 x0 x1
          obtain ⟨PO, hPO⟩ : ∃ PO : Prop, PO = (ownB N M = true) := ⟨_, rfl⟩
          have HGf : Hid (f i j = true ↔ (PO ∧ N.kids.length = M.kids.length) ∧ ∀ k, k < N.kids.length → f (kidN N k) (kidN M k) = true) := by
            rw [hPO]
            exact HFf.out
          have HSt : Hid (∀ q : Bool, q = (ownB N M && decide ((N.kids.length : Int) = M.kids.length)) → (q = true ↔ (PO ∧ N.kids.length = M.kids.length) ∧ ∀ k, k < 0 → f (kidN N k) (kidN M k) = true)) := fun q hq => by
            rw [hq, Bool.and_eq_true, decide_eq_true_iff, hPO]
            constructor
            · exact fun h => ⟨⟨h.1, by omega⟩, fun k hk => by omega⟩
            · exact fun h => ⟨h.1.1, by omega⟩
          clear hPO HFf
          generalize ownB N M = p at *
          cases p with
          | false =>
            go_wp2_with fail
            go_loopw [11, 12] (fun isv kv wr => ∃ (k : Nat) (q : Bool), kv = .int .i64 k ∧ k ≤ N.kids.length ∧ isv = .bool q ∧ Hid (q = true ↔ (PO ∧ N.kids.length = M.kids.length) ∧ ∀ t, t < k → f (kidN N t) (kidN M t) = true) ∧ Hid (Below w3.heap.size w3 wr)) (fun _ kv _ => N.kids.length - (intOf kv).toNat)
            case atStart => exact ⟨0, _, rfl, by omega, rfl, HSt.out _ (by simp), Below.refl _ _⟩
            case round =>
              clear HSt z3 z4
              obtain ⟨k, q, rfl, hk, rfl, Hq, HBw⟩ := hrel
              have HB4 : Hid (Below u2.heap.size u2 wr) := HB3.out.trans (HBw.out.mono HB3.out.size)
              have y3 : wr.cell? ⟨u2.heap.size, 3, none⟩ = some (.slice p3 N.kids.length l3) := (HX3.out.1.belowAll HBw.out).cell 3
              have y4 : wr.cell? ⟨u2.heap.size + 1, 3, none⟩ = some (.slice q3 M.kids.length m3) := (HX3.out.2.belowAll HBw.out).cell 3
              have HOr : Hid (wr.ownsRow u.heap.size 4 1 (.slice ar j cr) j (bbV (rowB f j i))) := own_below HOB.out.1 HB4.out (Nat.le_refl _)
              have HBr : Hid (Below u.heap.size u wr) := HOB.out.2.trans (HB4.out.mono HOB.out.2.size)
              have hszr : u.heap.size ≤ wr.heap.size := HBr.out.size
              by_cases hkl : k < N.kids.length
              · have hkl' : (k : Int) < N.kids.length := by omega
                cases q with
                | false =>
                  have HQ : Hid (false = f i j) := by
                    show false = f i j
                    cases hfe : f i j with
                    | false => rfl
                    | true =>
                      have h1 := HGf.out.1 hfe
                      have h2 := Hq.out.2 ⟨h1.1, fun t ht => h1.2 t (by omega)⟩
                      cases h2
                  clear Hq HBw HB4 HB3 HX3 HKx HKd HRw HGf HOB
                  go_wp2_with (at_builtin; refine wpList_append_lies _ rfl (.tmp 92) (.tmp 94) 50 rfl u.heap.size 4 j0 (.bool false) 1 1 Tryd.underlying50 hj0 hy0 hy1 hy2 rfl (by decide) _ j (bbV (rowB f j i)) rfl (World.ownsRow.alloc (w := wr) HOr.out _) ⟨wr.heap.size, 0, none⟩ 1 1 [.bool false] rfl rfl (cell_one_new _ _ _) (by intro v hv; simp at hv; subst hv; rfl) (by decide) (by unfold maxLen; omega) (by omega) (by simp; omega) _ rfl ?_)
                  intro g4 c4 w4 hown4 hgrow4 hlie hlt4
                  have O4 : Hid (w4.ownsRow u.heap.size 4 1 (.slice (some ⟨g4, 0, none⟩) (j + 1) c4) (j + 1) (bbV (rowB f (j + 1) i))) := by
                    show World.ownsRow _ _ _ _ _ _ _
                    rw [rowB_snoc, ← HQ.out]
                    exact hown4
                  have B4 : Hid (Below u.heap.size u w4) := (HBr.out.alloc hszr _).grown hgrow4 (by simp; omega) (fun z hz => (HOr.out.lt z hz).1)
                  clear hown4 hgrow4 hlie HOr HBr
                  go_wp2_with fail
                  go_roundw
                  case rel => exact ⟨j + 1, some ⟨g4, 0, none⟩, c4, by go_num, by omega, rfl, O4, B4⟩
                  case measure => simp [intOf]; omega
                | true =>
                  obtain ⟨hb0, ht0⟩ := Hq.out.1 rfl
                  have hkm : k < M.kids.length := by omega
                  have hkm' : (k : Int) < M.kids.length := by omega
                  obtain ⟨hx1, hx2⟩ := HKd.out.1 k hkl
                  obtain ⟨hy1', hy2'⟩ := HKd.out.2 k hkm
                  obtain ⟨lx, ly⟩ := HKx.out wr HB4.out
                  obtain ⟨b5, o5, rfl, hb5, c5⟩ := lx.at (iV_at N.kids k hkl)
                  obtain ⟨b6, o6, rfl, hb6, c6⟩ := ly.at (iV_at M.kids k hkm)
                  rw [hx1] at c5
                  rw [hy1'] at c6
                  obtain ⟨br, orr, b3, o3, rfl, cr1, cr2, lr1, lr2⟩ := HRw.out wr HB4.out (kidN N k) hx2 (kidN M k) (by omega)
                  have HN : Hid (f (kidN N k) (kidN M k) = true ↔ (PO ∧ N.kids.length = M.kids.length) ∧ ∀ t, t < k + 1 → f (kidN N t) (kidN M t) = true) := by
                    constructor
                    · intro h
                      refine ⟨hb0, fun t ht => ?_⟩
                      by_cases e : t = k
                      · rw [e]; exact h
                      · exact ht0 t (by omega)
                    · exact fun h => h.2 k (by omega)
                  have hy3' : kidN M k < Y.length := by omega
                  clear Hq hb0 ht0 hx1 hy1' lx ly HKx HKd HRw HGf HOB HOr HBr
                  generalize f (kidN N k) (kidN M k) = q at *
                  generalize kidN N k = mx at *
                  generalize kidN M k = my at *
                  have g1 : (mx : Int) < i := by omega
                  have g2 : (my : Int) < Y.length := by omega
                  have g3 : (my : Int) < j := by omega
                  have g4 : ¬ (i : Int) ≤ mx := by omega
                  have g5 : ¬ (j : Int) ≤ my := by omega
                  go_wp2_with fail
                  go_quiet (fail)
                  go_wp2_with fail
                  go_roundw
                  case rel => exact ⟨k + 1, q, by go_num, by omega, rfl, HN, dn_below HBw.out _⟩
                  case measure => simp [intOf]; omega
              · have hkl' : ¬ (k : Int) < N.kids.length := by omega
                have HQ : Hid (q = f i j) := by
                  show q = f i j
                  rw [Bool.eq_iff_iff, Hq.out, HGf.out]
                  obtain rfl : k = N.kids.length := by omega
                  exact Iff.rfl
                clear Hq HBw HB4 HB3 HX3 HKx HKd HRw HGf HOB
                go_wp2_with (at_builtin; refine wpList_append_lies _ rfl (.tmp 92) (.tmp 94) 50 rfl u.heap.size 4 j0 (.bool false) 1 1 Tryd.underlying50 hj0 hy0 hy1 hy2 rfl (by decide) _ j (bbV (rowB f j i)) rfl (World.ownsRow.alloc (w := wr) HOr.out _) ⟨wr.heap.size, 0, none⟩ 1 1 [.bool q] rfl rfl (cell_one_new _ _ _) (by intro v hv; simp at hv; subst hv; rfl) (by decide) (by unfold maxLen; omega) (by omega) (by simp; omega) _ rfl ?_)
                intro g4 c4 w4 hown4 hgrow4 hlie hlt4
                have O4 : Hid (w4.ownsRow u.heap.size 4 1 (.slice (some ⟨g4, 0, none⟩) (j + 1) c4) (j + 1) (bbV (rowB f (j + 1) i))) := by
                  show World.ownsRow _ _ _ _ _ _ _
                  rw [rowB_snoc, ← HQ.out]
                  exact hown4
                have B4 : Hid (Below u.heap.size u w4) := (HBr.out.alloc hszr _).grown hgrow4 (by simp; omega) (fun z hz => (HOr.out.lt z hz).1)
                clear hown4 hgrow4 hlie HOr HBr
                go_wp2_with fail
                go_roundw
                case rel => exact ⟨j + 1, some ⟨g4, 0, none⟩, c4, by go_num, by omega, rfl, O4, B4⟩
                case measure => simp [intOf]; omega
          | true =>
            go_wp2_with fail
            go_loopw [11, 12] (fun isv kv wr => ∃ (k : Nat) (q : Bool), kv = .int .i64 k ∧ k ≤ N.kids.length ∧ isv = .bool q ∧ Hid (q = true ↔ (PO ∧ N.kids.length = M.kids.length) ∧ ∀ t, t < k → f (kidN N t) (kidN M t) = true) ∧ Hid (Below w3.heap.size w3 wr)) (fun _ kv _ => N.kids.length - (intOf kv).toNat)
            case atStart => exact ⟨0, _, rfl, by omega, rfl, HSt.out _ (by simp [Bool.beq_eq_decide_eq]), Below.refl _ _⟩
            case round =>
              clear HSt z3 z4
              obtain ⟨k, q, rfl, hk, rfl, Hq, HBw⟩ := hrel
              have HB4 : Hid (Below u2.heap.size u2 wr) := HB3.out.trans (HBw.out.mono HB3.out.size)
              have y3 : wr.cell? ⟨u2.heap.size, 3, none⟩ = some (.slice p3 N.kids.length l3) := (HX3.out.1.belowAll HBw.out).cell 3
              have y4 : wr.cell? ⟨u2.heap.size + 1, 3, none⟩ = some (.slice q3 M.kids.length m3) := (HX3.out.2.belowAll HBw.out).cell 3
              have HOr : Hid (wr.ownsRow u.heap.size 4 1 (.slice ar j cr) j (bbV (rowB f j i))) := own_below HOB.out.1 HB4.out (Nat.le_refl _)
              have HBr : Hid (Below u.heap.size u wr) := HOB.out.2.trans (HB4.out.mono HOB.out.2.size)
              have hszr : u.heap.size ≤ wr.heap.size := HBr.out.size
              by_cases hkl : k < N.kids.length
              · have hkl' : (k : Int) < N.kids.length := by omega
                cases q with
                | false =>
                  have HQ : Hid (false = f i j) := by
                    show false = f i j
                    cases hfe : f i j with
                    | false => rfl
                    | true =>
                      have h1 := HGf.out.1 hfe
                      have h2 := Hq.out.2 ⟨h1.1, fun t ht => h1.2 t (by omega)⟩
                      cases h2
                  clear Hq HBw HB4 HB3 HX3 HKx HKd HRw HGf HOB
                  go_wp2_with (at_builtin; refine wpList_append_lies _ rfl (.tmp 92) (.tmp 94) 50 rfl u.heap.size 4 j0 (.bool false) 1 1 Tryd.underlying50 hj0 hy0 hy1 hy2 rfl (by decide) _ j (bbV (rowB f j i)) rfl (World.ownsRow.alloc (w := wr) HOr.out _) ⟨wr.heap.size, 0, none⟩ 1 1 [.bool false] rfl rfl (cell_one_new _ _ _) (by intro v hv; simp at hv; subst hv; rfl) (by decide) (by unfold maxLen; omega) (by omega) (by simp; omega) _ rfl ?_)
                  intro g4 c4 w4 hown4 hgrow4 hlie hlt4
                  have O4 : Hid (w4.ownsRow u.heap.size 4 1 (.slice (some ⟨g4, 0, none⟩) (j + 1) c4) (j + 1) (bbV (rowB f (j + 1) i))) := by
                    show World.ownsRow _ _ _ _ _ _ _
                    rw [rowB_snoc, ← HQ.out]
                    exact hown4
                  have B4 : Hid (Below u.heap.size u w4) := (HBr.out.alloc hszr _).grown hgrow4 (by simp; omega) (fun z hz => (HOr.out.lt z hz).1)
                  clear hown4 hgrow4 hlie HOr HBr
                  go_wp2_with fail
                  go_roundw
                  case rel => exact ⟨j + 1, some ⟨g4, 0, none⟩, c4, by go_num, by omega, rfl, O4, B4⟩
                  case measure => simp [intOf]; omega
                | true =>
                  obtain ⟨hb0, ht0⟩ := Hq.out.1 rfl
                  have hkm : k < M.kids.length := by omega
                  have hkm' : (k : Int) < M.kids.length := by omega
                  obtain ⟨hx1, hx2⟩ := HKd.out.1 k hkl
                  obtain ⟨hy1', hy2'⟩ := HKd.out.2 k hkm
                  obtain ⟨lx, ly⟩ := HKx.out wr HB4.out
                  obtain ⟨b5, o5, rfl, hb5, c5⟩ := lx.at (iV_at N.kids k hkl)
                  obtain ⟨b6, o6, rfl, hb6, c6⟩ := ly.at (iV_at M.kids k hkm)
                  rw [hx1] at c5
                  rw [hy1'] at c6
                  obtain ⟨br, orr, b3, o3, rfl, cr1, cr2, lr1, lr2⟩ := HRw.out wr HB4.out (kidN N k) hx2 (kidN M k) (by omega)
                  have HN : Hid (f (kidN N k) (kidN M k) = true ↔ (PO ∧ N.kids.length = M.kids.length) ∧ ∀ t, t < k + 1 → f (kidN N t) (kidN M t) = true) := by
                    constructor
                    · intro h
                      refine ⟨hb0, fun t ht => ?_⟩
                      by_cases e : t = k
                      · rw [e]; exact h
                      · exact ht0 t (by omega)
                    · exact fun h => h.2 k (by omega)
                  have hy3' : kidN M k < Y.length := by omega
                  clear Hq hb0 ht0 hx1 hy1' lx ly HKx HKd HRw HGf HOB HOr HBr
                  generalize f (kidN N k) (kidN M k) = q at *
                  generalize kidN N k = mx at *
                  generalize kidN M k = my at *
                  have g1 : (mx : Int) < i := by omega
                  have g2 : (my : Int) < Y.length := by omega
                  have g3 : (my : Int) < j := by omega
                  have g4 : ¬ (i : Int) ≤ mx := by omega
                  have g5 : ¬ (j : Int) ≤ my := by omega
                  go_wp2_with fail
                  go_quiet (fail)
                  go_wp2_with fail
                  go_roundw
                  case rel => exact ⟨k + 1, q, by go_num, by omega, rfl, HN, dn_below HBw.out _⟩
                  case measure => simp [intOf]; omega
              · have hkl' : ¬ (k : Int) < N.kids.length := by omega
                have HQ : Hid (q = f i j) := by
                  show q = f i j
                  rw [Bool.eq_iff_iff, Hq.out, HGf.out]
                  obtain rfl : k = N.kids.length := by omega
                  exact Iff.rfl
                clear Hq HBw HB4 HB3 HX3 HKx HKd HRw HGf HOB
                go_wp2_with (at_builtin; refine wpList_append_lies _ rfl (.tmp 92) (.tmp 94) 50 rfl u.heap.size 4 j0 (.bool false) 1 1 Tryd.underlying50 hj0 hy0 hy1 hy2 rfl (by decide) _ j (bbV (rowB f j i)) rfl (World.ownsRow.alloc (w := wr) HOr.out _) ⟨wr.heap.size, 0, none⟩ 1 1 [.bool q] rfl rfl (cell_one_new _ _ _) (by intro v hv; simp at hv; subst hv; rfl) (by decide) (by unfold maxLen; omega) (by omega) (by simp; omega) _ rfl ?_)
                intro g4 c4 w4 hown4 hgrow4 hlie hlt4
                have O4 : Hid (w4.ownsRow u.heap.size 4 1 (.slice (some ⟨g4, 0, none⟩) (j + 1) c4) (j + 1) (bbV (rowB f (j + 1) i))) := by
                  show World.ownsRow _ _ _ _ _ _ _
                  rw [rowB_snoc, ← HQ.out]
                  exact hown4
                have B4 : Hid (Below u.heap.size u w4) := (HBr.out.alloc hszr _).grown hgrow4 (by simp; omega) (fun z hz => (HOr.out.lt z hz).1)
                clear hown4 hgrow4 hlie HOr HBr
                go_wp2_with fail
                go_roundw
                case rel => exact ⟨j + 1, some ⟨g4, 0, none⟩, c4, by go_num, by omega, rfl, O4, B4⟩
                case measure => simp [intOf]; omega
        · have hjl' : ¬ (j : Int) < Y.length := by omega
          obtain rfl : j = Y.length := by omega
          have hszr := HB.out.size
          have HRr : Hid (AlR wr (w.heap.size + 2) (.slice ao i co) Y.length f R) := HR.out.below HB.out
          have HRo : Hid (wr.ownsRow (w.heap.size + 2) 50 1 (.slice ao i co) i (rwV Y.length R)) := by
            have := HRr.out.own
            rw [hRl] at this
            exact this
          have hbig : w.heap.size + 2 ≤ wr.heap.size := by omega
          clear HI HR
          go_wp2_with (at_builtin; refine wpList_append_lies _ rfl (.tmp 96) (.tmp 98) 51 rfl (w.heap.size + 2) 50 i0 (.slice none 0 0) 1 24 Tryd.underlying51 hi0 hz0 hz1 hz2 rfl (by decide) _ i (rwV Y.length R) rfl (World.ownsRow.alloc (w := wr) HRo.out _) ⟨wr.heap.size, 0, none⟩ 1 1 [.slice ar Y.length cr] rfl rfl (cell_one_new _ _ _) (by intro v hv; simp at hv; subst hv; rfl) (by decide) (by unfold maxLen; omega) (by omega) (by simp; omega) _ rfl ?_)
          intro g4 c4 w4 hown4 hgrow4 hlie hlt4
          have HR4 : Hid (AlR w4 (w.heap.size + 2) (.slice (some ⟨g4, 0, none⟩) (i + 1) c4) Y.length f (R ++ [⟨ar, cr⟩])) := by
            refine AlR.next (x := ⟨ar, cr⟩) (C := u.heap.size) (k := wr.heap.size + 1) HRr.out (by rw [hRl]; exact HO.out) rfl hown4 hgrow4 ?_ (by omega)
            rcases hlie with q | q
            · exact .inl q
            · exact .inr (by simpa using q)
          have HI4 : Hid (AlI w w4 a b X Y c d r s) := (HIw.out.more ((Below.refl wr.heap.size wr).alloc (Nat.le_refl _) _)).fr (Fr.of_grown (S := fun k => (Value.slice ao i co).ownBlock = some k) hgrow4 (fun _ q => q)) (fun k q => (HRo.out.lt k q).1)
          clear hown4 hgrow4 hlie HO HB HRr HRo HIw
          go_wp2_with fail
          go_roundw
          case rel => exact ⟨i + 1, R ++ [⟨ar, cr⟩], some ⟨g4, 0, none⟩, c4, by go_num, by omega, by simp [hRl], rfl, HI4, HR4⟩
          case measure => simp [intOf]; omega
    · have hlt' : ¬ (i : Int) < X.length := by omega
      obtain rfl : i = X.length := by omega
      have HE : Hid (AlikeOut X Y f w wr (.returned (.slice ao X.length co))) := by
        refine ⟨ao, co, R, rfl, hRl, ?_, fun q hq => (HR.out.each q (by omega)).toAt, HI.out.bel⟩
        have := HR.out.own
        rw [hRl] at this
        exact LsAt.of_own this
      clear HI HR
      go_wp2_with fail
      go_ret
      exact HE.out

theorem alk_bools (A B : List Nd) : ∃ f : Nat → Nat → Bool, ∀ i j, f i j = true ↔ Alk A B i j := by
  have h1 : ∀ i, ∃ g : Nat → Bool, ∀ j, g j = true ↔ Alk A B i j := fun i => Classical.skolem.1 (fun j => bool_of (Alk A B i j))
  exact Classical.skolem.1 h1

end Go.Proofs.YtcdpjaaiojpelaaDoor
