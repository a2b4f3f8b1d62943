/- The contract of ref's Share. -/
import Derived.Test.YtcdpjaaiojpelaaDoorVAl
namespace Go.Proofs.YtcdpjaaiojpelaaDoor
open Go.RowKit Go.Maps Go.WideMaps Go.Sort

theorem addA_len {L A : List Nd} : ∀ i, i ≤ A.length → (addA L (A.take i)).2.length = i
  | 0, _ => by simp [addA]
  | i + 1, h => by rw [addA_take h]; simp [addS, addA_len (L := L) (A := A) i (by omega)]
theorem addA_pre {L A : List Nd} {i : Nat} : ∀ d, i + d ≤ A.length → ∀ k, k < i → (addA L (A.take (i + d))).2.getD k 0 = (addA L (A.take i)).2.getD k 0
  | 0, _, k, _ => rfl
  | d + 1, h, k, hk => by
    rw [show i + (d + 1) = i + d + 1 by omega, addA_take (by omega)]
    simp only [addS]
    rw [getD_snoc1 (by rw [addA_len _ (by omega)]; omega)]
    exact addA_pre d (by omega) k hk
theorem addA_old {L A : List Nd} {i : Nat} (h : i ≤ A.length) {k : Nat} (hk : k < i) : (addA L (A.take i)).2.getD k 0 = (addA L A).2.getD k 0 := by
  have := addA_pre (L := L) (A := A) (i := i) (A.length - i) (by omega) k hk
  rw [show i + (A.length - i) = A.length by omega, List.take_length] at this
  exact this.symm
theorem addA_new {L A : List Nd} {i : Nat} (h : i < A.length) : (addA L A).2.getD i 0 = fdN (addA L (A.take i)).1 (rnN (addA L (A.take i)).2 (atN A i)) := by
  rw [← addA_old (i := i + 1) h (by omega), addA_take h]
  simp only [addS]
  have := getD_snoc2 (addA L (A.take i)).2 (fdN (addA L (A.take i)).1 (rnN (addA L (A.take i)).2 (atN A i)))
  rwa [addA_len i (by omega)] at this
/-- A node whose tree was met. -/
theorem sh_old {A : List Nd} (hA : Dn A) {i j : Nat} (hi : i < A.length) (hj : j < i) (h : Alk A A i j) : fdN (addA [] (A.take i)).1 (rnN (addA [] (A.take i)).2 (atN A i)) = (addA [] (A.take i)).2.getD j 0 ∧ addN (addA [] (A.take i)).1 (rnN (addA [] (A.take i)).2 (atN A i)) = (addA [] (A.take i)).1 := by
  have hn := sh_num hA
  have h1 := (hn.iff hn hi (by omega)).2 h
  rw [addA_new hi, ← addA_old (i := i) (by omega) hj] at h1
  have ht := addA_is (L := []) (by simp) (fun i hi => by simp at hi) hA i (by omega)
  refine ⟨h1, ?_⟩
  unfold addN
  rw [if_pos (by rw [h1]; exact ht.lt j hj)]
/-- One whose tree wasn't. -/
theorem sh_new {A : List Nd} (hA : Dn A) {i : Nat} (hi : i < A.length) (h : ∀ j, j < i → ¬ Alk A A i j) : fdN (addA [] (A.take i)).1 (rnN (addA [] (A.take i)).2 (atN A i)) = (addA [] (A.take i)).1.length ∧ addN (addA [] (A.take i)).1 (rnN (addA [] (A.take i)).2 (atN A i)) = (addA [] (A.take i)).1 ++ [rnN (addA [] (A.take i)).2 (atN A i)] := by
  have hn := sh_num hA
  have ht := addA_is (L := []) (by simp) (fun i hi => by simp at hi) hA i (by omega)
  have hle := fdN_le (addA [] (A.take i)).1 (rnN (addA [] (A.take i)).2 (atN A i))
  have hno : ¬ fdN (addA [] (A.take i)).1 (rnN (addA [] (A.take i)).2 (atN A i)) < (addA [] (A.take i)).1.length := fun q => by
    obtain ⟨k, hk, e⟩ := ht.onto _ (by simp) q
    refine h k hk ((hn.iff hn hi (by omega)).1 ?_)
    rw [addA_new hi, ← addA_old (i := i) (by omega) hk, e]
  exact ⟨by omega, if_neg hno⟩

/-- Not the blocks that are still written. -/
def ShQ (go : Nat) (v tv : Value) (b : Nat) : Prop := b ≠ go ∧ v.ownBlock ≠ some b ∧ tv.ownBlock ≠ some b
/-- While the shared scene is made. -/
structure ShI (wr : World) (B go : Nat) (v tv : Value) (L : List Nx) (ns : List Nat) : Prop where
  sc : AtN 24 wr go #[v, .int .i64 0]
  row : wr.ownsRow B 42 4 v L.length (nxV L)
  to : wr.ownsRow B 3 1 tv ns.length (nV ns)
  each : ∀ j, j < L.length → NdQ (ShQ go v tv) wr (L.getD j noNx)
  ge : B ≤ go
section
variable {wr w' : World} {B go : Nat} {v tv : Value} {L : List Nx} {ns : List Nat}
theorem ShI.below (h : ShI wr B go v tv L ns) (hb : Below wr.heap.size wr w') : ShI w' B go v tv L ns := ⟨h.sc.belowAll hb, own_below h.row hb (Nat.le_refl _), own_below h.to hb (Nat.le_refl _), fun j hj => (h.each j hj).below hb, h.ge⟩
theorem ShI.v_ne (h : ShI wr B go v tv L ns) : v.ownBlock ≠ some go := fun q => own_ne_at h.row h.sc (by decide) go q rfl
theorem ShI.t_ne (h : ShI wr B go v tv L ns) : tv.ownBlock ≠ some go := fun q => own_ne_at h.to h.sc (by decide) go q rfl
/-- A number is put behind. -/
theorem ShI.num {ob : Obj} {g2 cap2 k n : Nat} (h : ShI wr B go v tv L ns) (hn : ns.length = n) (ho : w'.ownsRow B 3 1 (.slice (some ⟨g2, 0, none⟩) (n + 1) cap2) (n + 1) (nV ns ++ [.int .i64 ((k : Nat) : Int)])) (hg : (wr.alloc ob).grownBy w' tv.ownBlock) (hl : tv.ownBlock = some g2 ∨ g2 = wr.heap.size + 1) : ShI w' B go v (.slice (some ⟨g2, 0, none⟩) (n + 1) cap2) L (ns ++ [k]) := by
  subst hn
  have hF : Fr (fun b => tv.ownBlock = some b) wr w' := ((Fr.refl (fun b => tv.ownBlock = some b) wr).alloc ob).trans (Fr.of_grown hg (fun _ q => q)) (fun _ q _ => q)
  refine ⟨h.sc.fr hF h.t_ne, own_fr h.row hF (fun r hr q => own_apart9 h.row h.to (by decide) hr q), by rw [List.length_append, nV_snoc]; exact ho, fun j hj => ?_, h.ge⟩
  have h1 : NdQ (fun b => ShQ go v tv b ∧ b < wr.heap.size) wr (L.getD j noNx) := (h.each j hj).mono (fun b q hb => ⟨q, hb⟩)
  refine (h1.fr hF (fun b q _ => q.1.2.2)).mono (fun b q _ => ⟨q.1.1, q.1.2.1, fun e => ?_⟩)
  simp only [Value.ownBlock, Option.some.injEq] at e
  rcases hl with e' | e'
  · exact q.1.2.2 (by rw [e', e])
  · omega
/-- A node is put behind. -/
theorem ShI.node {ob : Obj} {g2 cap2 : Nat} {x : Nx} (h : ShI wr B go v tv L ns) (hx : NdQ (ShQ go v tv) wr x) (ho : w'.ownsRow B 42 4 (.slice (some ⟨g2, 0, none⟩) (L.length + 1) cap2) (L.length + 1) (nxV L ++ nxC x)) (hg : (wr.alloc ob).grownBy w' v.ownBlock) (hl : v.ownBlock = some g2 ∨ g2 = wr.heap.size + 1) : ShI (w'.setCell ⟨go, 0, none⟩ (.slice (some ⟨g2, 0, none⟩) (L.length + 1) cap2)) B go (.slice (some ⟨g2, 0, none⟩) (L.length + 1) cap2) tv (L ++ [x]) ns := by
  have hF : Fr (fun b => v.ownBlock = some b) wr w' := ((Fr.refl (fun b => v.ownBlock = some b) wr).alloc ob).trans (Fr.of_grown hg (fun _ q => q)) (fun _ q _ => q)
  have hlt := h.sc.lt
  have g2g : g2 ≠ go := by
    rcases hl with e | e
    · intro q; subst q; exact h.v_ne e
    · omega
  have hS : Fr (fun b => b = go) w' (w'.setCell ⟨go, 0, none⟩ (.slice (some ⟨g2, 0, none⟩) (L.length + 1) cap2)) := (Fr.refl (fun b => b = go) w').set ⟨go, 0, none⟩ rfl _
  have hlen : (L ++ [x]).length = L.length + 1 := by simp
  have hE : ∀ y : Nx, NdQ (ShQ go v tv) wr y → NdQ (ShQ go (.slice (some ⟨g2, 0, none⟩) (L.length + 1) cap2) tv) (w'.setCell ⟨go, 0, none⟩ (.slice (some ⟨g2, 0, none⟩) (L.length + 1) cap2)) y := fun y hy => by
    have h1 : NdQ (fun b => ShQ go v tv b ∧ b < wr.heap.size) wr y := hy.mono (fun b q hb => ⟨q, hb⟩)
    refine ((h1.fr hF (fun b q _ => q.1.2.1)).fr hS (fun b q _ => q.1.1)).mono (fun b q _ => ⟨q.1.1, fun e => ?_, q.1.2.2⟩)
    simp only [Value.ownBlock, Option.some.injEq] at e
    rcases hl with e' | e'
    · exact q.1.2.1 (by rw [e', e])
    · omega
  refine ⟨?_, ?_, own_fr (own_fr h.to hF (fun r hr q => own_apart9 h.to h.row (by decide) hr q)) hS (fun r hr q => h.t_ne (by rw [hr, q])), fun j hj => ?_, h.ge⟩
  · simpa using (h.sc.fr hF h.v_ne).set 0 (.slice (some ⟨g2, 0, none⟩) (L.length + 1) cap2)
  · rw [hlen, nxV_snoc]
    exact own_fr ho hS (fun r hr e => by simp [Value.ownBlock] at hr; omega)
  · by_cases e : j < L.length
    · rw [show (L ++ [x]).getD j noNx = L.getD j noNx by rw [List.getD_eq_getElem?_getD, List.getElem?_append_left e, ← List.getD_eq_getElem?_getD]]
      exact hE _ (h.each j e)
    · rw [show j = L.length by omega, show (L ++ [x]).getD L.length noNx = x by simp]
      exact hE _ hx
/-- A node whose lists are all new. -/
theorem fresh_q {C : Nat} {x : Nx} (hx : OwnNx wr C x) (hgo : go < C) (hv : ∀ b, v.ownBlock = some b → b < C) (ht : ∀ b, tv.ownBlock = some b → b < C) : NdQ (ShQ go v tv) wr x := by
  have hq : ∀ b, C ≤ b → ShQ go v tv b := fun b hb => ⟨by omega, fun e => by have := hv b e; omega, fun e => by have := ht b e; omega⟩
  exact ⟨(LsQ.of_own hx.i).mono (fun b q _ => hq b (hx.i.lt b q).1), (LsQ.of_own hx.t).mono (fun b q _ => hq b (hx.t.lt b q).1), (LsQ.of_own hx.k).mono (fun b q _ => hq b (hx.k.lt b q).1)⟩
end

/-- What ref's Share tells. -/
def RShOut (X : List Nx) (r : Int) (w w' : World) (e : Ending) : Prop := ∃ Z a c, e = .returned (.agg #[.slice a (List.length Z) c, .int .i64 ((List.length Z : Int) - 1)]) ∧ Z.map Nx.nd = shL (cX X r) ∧ ScAt w' a Z ∧ Below w.heap.size w w'

set_option maxRecDepth 100000 in
set_option maxHeartbeats 8000000 in
theorem rshare_any (X : List Nx) (a : Option Addr) (c : Nat) (r : Int) (w : World) (h : ScAt w a X) (hX : Small X) (rX : RgX X) (hR : RightIs X r) :
    Calls Tryd.prog 19 #[.agg #[.slice a X.length c, .int .i64 r]] w fun e w' => RShOut X r w w' e := by
  obtain ⟨i0, hi0, hz0, hz1, hz2⟩ := info_parts Tryd.infoI7
  obtain ⟨j0, hj0, hy0, hy1, hy2⟩ := info_parts Tryd.infoD9
  obtain ⟨p, hp⟩ : ∃ p : Nat, (X.length : Int) - 1 = (p : Int) ∧ p + 1 = X.length ∧ X.length - 1 = p := ⟨X.length - 1, by have := hR.root; omega, by have := hR.root; omega, by omega⟩
  have HP : Hid ((X.length : Int) - 1 = (p : Int) ∧ p + 1 = X.length ∧ X.length - 1 = p) := hp
  clear hp
  have HC : Hid (∀ o1 o2 : Obj, o1 = .cells #[.slice a X.length c, .int .i64 r] 24 → o2 = .cells #[.slice none 0 0, .int .i64 0] 24 → AtN 24 ((w.alloc o1).alloc o2) (w.heap.size + 1) #[.slice none 0 0, .int .i64 0] ∧ Below w.heap.size w ((w.alloc o1).alloc o2) ∧ Calls Tryd.prog 28 #[.agg #[.slice a X.length c, .int .i64 r]] ((w.alloc o1).alloc o2) fun e w' => RCanOut X r ((w.alloc o1).alloc o2) w' e) := by
    rintro _ _ rfl rfl
    exact ⟨mk_at (AtN.new (w.alloc _) 24 _) (show _ = w.heap.size + 1 by simp), ((Below.refl w.heap.size w).alloc (Nat.le_refl _) _).alloc (by simp) _, rcanon_any X a c r _ ((h.alloc _).alloc _) hX hR⟩
  have HS : Hid (Small X ∧ RightIs X r ∧ RgX X) := ⟨hX, hR, rX⟩
  clear h hX hR rX
  go_enter Tryd.func19, Tryd.ntmps19
  go_wp2_with fail
  obtain ⟨hr0, hb0, hc0⟩ := HC.out _ _ rfl rfl
  refine Calls.mono hc0 ?_
  rintro e w1 ⟨Z, az, cz, rfl, hZ, sZ, hb1⟩
  rw [HP.out.1]
  have hren := can_ren HS.out.2.1 hZ
  have hnZ : Z.length ≤ 61 := by have := hren.len; have := HS.out.1.1; omega
  have HZ : Hid (Z.map Nx.nd = cX X r ∧ Small Z ∧ Z.length = X.length ∧ Dn (cX X r) ∧ (cX X r).length = Z.length) := ⟨hZ, hren.small HS.out.1, hren.len, (cX_cn HS.out.2.1).dn, by rw [cX_len HS.out.2.1, hren.len]⟩
  obtain ⟨f, hf⟩ := alk_bools (Z.map Nx.nd) (Z.map Nx.nd)
  have HF : Hid (∀ i j, f i j = true ↔ Alk (cX X r) (cX X r) i j) := fun i j => by rw [← HZ.out.1]; exact hf i j
  have HW1 : Hid (∀ o : Obj, o = .cells #[.slice az Z.length cz, .int .i64 (p : Int)] 24 → AtN 24 (w1.alloc o) w1.heap.size #[.slice az Z.length cz, .int .i64 (p : Int)] ∧ ScAt (w1.alloc o) az Z ∧ AtN 24 (w1.alloc o) (w.heap.size + 1) #[.slice none 0 0, .int .i64 0] ∧ Below w.heap.size w (w1.alloc o) ∧ Calls Tryd.prog 29 #[.agg #[.slice az Z.length cz, .int .i64 (p : Int)], .agg #[.slice az Z.length cz, .int .i64 (p : Int)]] (w1.alloc o) fun e w' => AlikeOut Z Z f (w1.alloc o) w' e) := by
    rintro _ rfl
    have hbw := hb0.trans (hb1.mono hb0.size)
    have hd : Dn (Z.map Nx.nd) := by rw [HZ.out.1]; exact HZ.out.2.2.2.1
    exact ⟨AtN.new w1 24 _, sZ.alloc _, (hr0.belowAll hb1).alloc _, hbw.alloc hbw.size _, alike_any Z Z az az cz cz _ _ _ f (sZ.alloc _) (sZ.alloc _) HZ.out.2.1 HZ.out.2.1 hd hd hf⟩
  clear HC hr0 hb0 hc0 hb1 hZ sZ hren hf
  go_wp2_with fail
  obtain ⟨k1, k2, k3, k4, k5⟩ := HW1.out _ rfl
  refine Calls.mono k5 ?_
  rintro e w2 ⟨aa, ca, R, rfl, hRl, hRt, hRe, hb2⟩
  have HK : Hid (AtN 24 w2 w1.heap.size #[.slice az Z.length cz, .int .i64 (p : Int)] ∧ ScAt w2 az Z ∧ AtN 24 w2 (w.heap.size + 1) #[.slice none 0 0, .int .i64 0] ∧ Below w.heap.size w w2) := ⟨k1.belowAll hb2, k2.belowB hb2, k3.belowAll hb2, k4.trans (hb2.mono k4.size)⟩
  have HR : Hid (∀ W, Below w2.heap.size w2 W → ∀ i, i < Z.length → ∀ j, j < Z.length → ∃ br orr b3 o3, aa = some ⟨br, orr, none⟩ ∧ W.cell? ⟨br, orr + i, none⟩ = some (.slice (some ⟨b3, o3, none⟩) Z.length (R.getD i noRw).c) ∧ W.cell? ⟨b3, o3 + j, none⟩ = some (.bool (f i j)) ∧ br < W.heap.size ∧ b3 < W.heap.size) := fun W hW i hi j hj => by
    obtain ⟨br, orr, e1, l1, c1⟩ := (hRt.belowB hW).at (rwV_at Z.length R i (by omega))
    obtain ⟨b3, o3, e2, l2, c2⟩ := ((hRe i hi).belowB hW).at (rowB_at f Z.length i j hj)
    rw [e2] at c1
    exact ⟨br, orr, b3, o3, e1, c1, c2, l1, l2⟩
  have HI0 : Hid (∀ o1 o2 : Obj, o1 = .cells #[.slice none 0 0, .int .i64 0] 24 → o2 = .cells #[] 3 → ShI ((w2.alloc o1).alloc o2) w2.heap.size w2.heap.size (.slice none 0 0) (.slice (some ⟨w2.heap.size + 1, 0, none⟩) 0 0) [] (addA [] ((cX X r).take 0)).2 ∧ Below w2.heap.size w2 ((w2.alloc o1).alloc o2)) := by
    rintro _ _ rfl rfl
    refine ⟨⟨(AtN.new w2 24 _).alloc _, ⟨rfl, .inl ⟨rfl, rfl⟩⟩, ?_, fun j hj => by simp at hj, Nat.le_refl _⟩, ((Below.refl w2.heap.size w2).alloc (Nat.le_refl _) _).alloc (by simp) _⟩
    have := World.ownsRow_lit (base := w2.heap.size) (e := 3) (size := 1) (w2.alloc (.cells #[.slice none 0 0, .int .i64 0] 24)) #[] 0 (by simp) (by decide) (by simp)
    simpa [nV, addA] using this
  clear HW1 k1 k2 k3 k4 k5 hRl hRt hRe hb2
  go_wp2_with fail
  go_loopw [6, 7] (fun tv iv wr => ∃ (i : Nat) (at' : Option Addr) (ct : Nat) (v : Value) (L : List Nx), iv = .int .i64 i ∧ i ≤ Z.length ∧ tv = .slice at' i ct ∧ Hid (ShI wr w2.heap.size w2.heap.size v (.slice at' i ct) L (addA [] ((cX X r).take i)).2 ∧ L.map Nx.nd = (addA [] ((cX X r).take i)).1) ∧ Hid (Below w2.heap.size w2 wr)) (fun _ iv _ => Z.length - (intOf iv).toNat)
  case atStart =>
    obtain ⟨t1, t2⟩ := HI0.out _ _ rfl rfl
    exact ⟨0, _, _, _, [], rfl, by omega, rfl, ⟨t1, rfl⟩, t2⟩
  case round =>
    clear HI0
    obtain ⟨i, at', ct, v, L, rfl, hi, rfl, HSL, HBu⟩ := hrel
    have x0 : wr.cell? ⟨w1.heap.size, 0, none⟩ = some (.slice az Z.length cz) := (HK.out.1.belowAll HBu.out).cell 0
    obtain ⟨av, cv, rfl⟩ := own_shape4 HSL.out.1.row
    have HSh : Hid (ShI wr w2.heap.size w2.heap.size (.slice av L.length cv) (.slice at' i ct) L (addA [] ((cX X r).take i)).2) := HSL.out.1
    have HNL : Hid ((addA [] ((cX X r).take i)).2.length = i) := addA_len i (by have := HZ.out.2.2.2.2; omega)
    by_cases hlt : i < Z.length
    · have hlt' : (i : Int) < Z.length := by omega
      obtain ⟨u, hu⟩ : ∃ u, u = wr := ⟨_, rfl⟩
      subst hu
      have hiC : i < (cX X r).length := by have := HZ.out.2.2.2.2; omega
      have htake : addA [] ((cX X r).take (i + 1)) = addS (addA [] ((cX X r).take i)) (atN (cX X r) i) := addA_take hiC
      have HOld : Hid (∀ t : Nat, (∃ j, j < i ∧ f i j = true ∧ t = (addA [] ((cX X r).take i)).2.getD j 0) → L.map Nx.nd = (addA [] ((cX X r).take (i + 1))).1 ∧ (addA [] ((cX X r).take (i + 1))).2 = (addA [] ((cX X r).take i)).2 ++ [t]) := by
        rintro t ⟨j, hj, hfj, rfl⟩
        obtain ⟨o1, o2⟩ := sh_old HZ.out.2.2.2.1 hiC hj ((HF.out i j).1 hfj)
        rw [htake]
        simp only [addS]
        rw [o1, o2]
        exact ⟨HSL.out.2, rfl⟩
      have hLl : L.length = (addA [] ((cX X r).take i)).1.length := by simpa using congrArg List.length HSL.out.2
      have hLs : L.length ≤ 61 := by
        have := (addA_is (L := []) (by simp) (fun i hi => by simp at hi) HZ.out.2.2.2.1 i (by omega)).few
        simp only [List.length_nil] at this
        omega
      have HNew : Hid ((∀ j, j < i → f i j = false) → (addA [] ((cX X r).take (i + 1))).1 = L.map Nx.nd ++ [rnN (addA [] ((cX X r).take i)).2 (Z.getD i noNx).nd] ∧ (addA [] ((cX X r).take (i + 1))).2 = (addA [] ((cX X r).take i)).2 ++ [L.length]) := fun hno => by
        obtain ⟨o1, o2⟩ := sh_new HZ.out.2.2.2.1 hiC (fun j hj q => by have := (HF.out i j).2 q; rw [hno j hj] at this; cases this)
        rw [htake]
        simp only [addS]
        rw [o1, o2, hLl, HSL.out.2, ← HZ.out.1, nds_atN]
        exact ⟨rfl, rfl⟩
      have HSame : Hid (∀ j, j < i → ∃ br orr b3 o3 c3, aa = some ⟨br, orr, none⟩ ∧ u.cell? ⟨br, orr + i, none⟩ = some (.slice (some ⟨b3, o3, none⟩) Z.length c3) ∧ u.cell? ⟨b3, o3 + j, none⟩ = some (.bool (f i j)) ∧ br < u.heap.size ∧ b3 < u.heap.size) := fun j hj => by
        obtain ⟨br, orr, b3, o3, g1, g2, g3, g4, g5⟩ := HR.out u HBu.out i hlt j (by omega)
        exact ⟨br, orr, b3, o3, _, g1, g2, g3, g4, g5⟩
      have HRd : Hid (∀ W, Below u.heap.size u W → ∀ m, m < i → ∃ gt ot, at' = some ⟨gt, ot, none⟩ ∧ gt < W.heap.size ∧ W.cell? ⟨gt, ot + m, none⟩ = some (.int .i64 (((addA [] ((cX X r).take i)).2.getD m 0 : Nat) : Int))) := fun W hW m hm => by
        have h1 := (HSh.out.below hW).to
        rw [HNL.out] at h1
        obtain ⟨gt, ot, e1, l1, c1⟩ := (LsAt.of_own h1).at (nV_at (addA [] ((cX X r).take i)).2 m (by rw [HNL.out]; exact hm))
        exact ⟨gt, ot, e1, l1, c1⟩
      have HKd : Hid (∀ k, k < (Z.getD i noNx).nd.kids.length → ∃ m : Nat, (Z.getD i noNx).nd.kids.getD k 0 = (m : Int) ∧ m < i) := fun k hk => by
        have e : (Z.getD i noNx).nd = atN (cX X r) i := by rw [← nds_atN, HZ.out.1]
        rw [e] at hk ⊢
        have := HZ.out.2.2.2.1.kid (i := i) hiC hk
        exact ⟨_, this.2.symm, this.1⟩
      have HBd : Hid (∀ j, j < i → (addA [] ((cX X r).take i)).2.getD j 0 < 1000) := fun j hj => by
        have ht := addA_is (L := []) (by simp) (fun i hi => by simp at hi) HZ.out.2.2.2.1 i (by omega)
        have h1 := ht.lt j hj
        have h2 := ht.few
        simp only [List.length_nil] at h2
        omega
      obtain ⟨b, o, rfl, hbl, d0, d1, d2, d3⟩ := (HK.out.2.1.belowB HBu.out).node hlt
      have hk3 := HZ.out.2.1.kids hlt
      have HCp : Hid (Calls Tryd.prog 27 #[.agg #[.int .i64 (Z.getD i noNx).nd.kind, .slice (Z.getD i noNx).a1 (Z.getD i noNx).nd.ints.length (Z.getD i noNx).c1, .slice (Z.getD i noNx).a2 (Z.getD i noNx).nd.texts.length (Z.getD i noNx).c2, .slice (Z.getD i noNx).a3 (Z.getD i noNx).nd.kids.length (Z.getD i noNx).c3]] u fun e w' => NdOut u w' e (Z.getD i noNx).nd) := by
        have hg := great_no (HZ.out.2.1.2 i hlt)
        exact rcopy_any (Z.getD i noNx).nd (Z.getD i noNx).a1 (Z.getD i noNx).a2 (Z.getD i noNx).a3 (Z.getD i noNx).c1 (Z.getD i noNx).c2 (Z.getD i noNx).c3 u ((HK.out.2.1.belowB HBu.out).each i hlt) hg.1 hg.2.1 hg.2.2.1
      clear HSL HR HK htake hiC hLl
      generalize (addA [] ((cX X r).take i)).2 = ns at *
      generalize Z.getD i noNx = N at *
      obtain ⟨N, a1, c1, a2, c2, a3, c3⟩ := N
      have hk4 : N.kids.length ≤ 300 := hk3
      clear hk3
      go_wp2_with fail
      go_loopw [8, 9] (fun zv jv wr => ∃ (j : Nat) (z : Int), jv = .int .i64 j ∧ j ≤ i ∧ zv = .int .i64 z ∧ Hid ((z = -1 ∧ ∀ t, t < j → f i t = false) ∨ ∃ t : Nat, z = (t : Int) ∧ t < 1000 ∧ ∃ q, q < i ∧ f i q = true ∧ t = ns.getD q 0) ∧ wr = u) (fun _ jv _ => i - (intOf jv).toNat)
      case atStart => exact ⟨0, -1, rfl, by omega, rfl, .inl ⟨rfl, fun t ht => by omega⟩, rfl⟩
      case round =>
        obtain ⟨j, z, rfl, hj, rfl, HZt, rfl⟩ := hrel
        by_cases hjl : j < i
        · have hjl' : (j : Int) < i := by omega
          rcases HZt.out with ⟨rfl, hno⟩ | ⟨t, rfl, ht, htl⟩
          · obtain ⟨br, orr, b3, o3, c3', rfl, g2, g3, g4, g5⟩ := HSame.out j hjl
            obtain ⟨gt, ot, rfl, hgt, p0⟩ := HRd.out wr (Below.refl _ _) j hjl
            have hbnd := HBd.out j hjl
            have hjz : (j : Int) < Z.length := by omega
            have hjz' : j < Z.length := by omega
            cases hfj : f i j with
            | true =>
              have HN : Hid ((((ns.getD j 0 : Nat) : Int) = -1 ∧ ∀ t, t < j + 1 → f i t = false) ∨ ∃ t : Nat, ((ns.getD j 0 : Nat) : Int) = (t : Int) ∧ t < 1000 ∧ ∃ q, q < i ∧ f i q = true ∧ t = ns.getD q 0) := .inr ⟨_, rfl, hbnd, j, hjl, hfj, rfl⟩
              rw [hfj] at g3
              clear hfj hno HZt HSame HRd HOld HNew HCp HKd hbnd
              generalize ns.getD j 0 = y at *
              go_wp2_with fail
              go_roundw
              case rel => exact ⟨j + 1, _, by go_num, by omega, rfl, HN, by trivial⟩
              case measure => simp [intOf]; omega
            | false =>
              have HN : Hid (((-1 : Int) = -1 ∧ ∀ t, t < j + 1 → f i t = false) ∨ ∃ t : Nat, (-1 : Int) = (t : Int) ∧ t < 1000 ∧ ∃ q, q < i ∧ f i q = true ∧ t = ns.getD q 0) := .inl ⟨rfl, fun t ht => by
                by_cases e : t = j
                · rw [e]; exact hfj
                · exact hno t (by omega)⟩
              rw [hfj] at g3
              clear hfj hno HZt HSame HRd HOld HNew HCp HKd hbnd p0
              go_wp2_with fail
              go_roundw
              case rel => exact ⟨j + 1, -1, by go_num, by omega, rfl, HN, by trivial⟩
              case measure => simp [intOf]; omega
          · clear HZt
            have HN2 : Hid (L.map Nx.nd = (addA [] ((cX X r).take (i + 1))).1 ∧ (addA [] ((cX X r).take (i + 1))).2 = ns ++ [t]) := HOld.out t htl
            clear HOld HNew HCp HRd HKd HSame
            have hszx := HBu.out.size
            have htl : ns.length = i := HNL.out
            have HTo : Hid (wr.ownsRow w2.heap.size 3 1 (.slice at' i ct) i (nV ns)) := by
              have := HSh.out.to
              rw [htl] at this
              exact this
            clear htl
            go_wp2_with (at_builtin; refine wpList_append_lies _ rfl (.tmp 82) (.tmp 84) 38 rfl w2.heap.size 3 i0 (.int .i64 0) 1 8 Tryd.underlying38 hi0 hz0 hz1 hz2 rfl (by decide) _ i (nV ns) rfl (World.ownsRow.alloc (w := wr) HTo.out _) ⟨wr.heap.size, 0, none⟩ 1 1 [.int .i64 ((t : Nat) : Int)] rfl rfl (cell_one_new _ _ _) (by intro v hv; simp at hv; subst hv; rfl) (by decide) (by unfold maxLen; omega) (by omega) (by simp; omega) _ rfl ?_)
            intro g9 c9 w9 hown9 hgrow9 hlie9 hlt9
            have HS9 : Hid (ShI w9 w2.heap.size w2.heap.size (.slice av L.length cv) (.slice (some ⟨g9, 0, none⟩) (i + 1) c9) L (ns ++ [t])) := by
              refine HSh.out.num HNL.out hown9 hgrow9 ?_
              rcases hlie9 with q | q
              · exact .inl q
              · exact .inr (by simpa using q)
            have HB9 : Hid (Below w2.heap.size w2 w9) := (HBu.out.alloc HBu.out.size _).grown hgrow9 (by simp; omega) (fun z hz => (HTo.out.lt z hz).1)
            clear hown9 hgrow9 hlie9 HSh HBu HTo
            go_wp2_with fail
            go_roundw
            case rel =>
              obtain ⟨n1, n2⟩ := HN2.out
              exact ⟨i + 1, some ⟨g9, 0, none⟩, c9, .slice av L.length cv, L, by go_num, by omega, rfl, ⟨by rw [n2]; exact HS9.out, n1⟩, HB9⟩
            case measure => simp [intOf]; omega
        · have hjl' : ¬ (j : Int) < i := by omega
          rcases HZt.out with ⟨rfl, hno0⟩ | ⟨t, rfl, ht, htl⟩
          · have hno : ∀ t, t < i → f i t = false := fun t ht => hno0 t (by omega)
            clear HZt hno0
            obtain ⟨u, hu⟩ : ∃ u, u = wr := ⟨_, rfl⟩
            subst hu
            have HN2 := HNew.out hno
            have HN3 : Hid _ := HN2
            clear HN2 HOld HNew HSame
            go_wp2_with fail
            refine Calls.mono (HCp.out) ?_
            rintro e w5 ⟨b1, e1, b2, e2, b3, e3, rfl, hO5, hb5⟩
            have HB5 : Hid (Below u.heap.size u w5) := hb5
            have HT0 : Hid (∀ o : Obj, o = .cells #[.int .i64 N.kind, .slice b1 N.ints.length e1, .slice b2 N.texts.length e2, .slice b3 N.kids.length e3] 42 → Tgf (w5.alloc o) u.heap.size w5.heap.size N (fun z => ((ns.getD z.toNat 0 : Nat) : Int)) 0 b1 b2 b3 e1 e2 e3 ∧ Below u.heap.size u (w5.alloc o)) := by
              rintro _ rfl
              exact ⟨⟨AtN.new w5 42 _, hO5.i.alloc _, hO5.t.alloc _, by rw [tkf_zero]; exact hO5.k.alloc _⟩, HB5.out.alloc HB5.out.size _⟩
            have hb5s := hb5.size
            clear HCp hO5 hb5 HB5 d0 d1 d2 d3
            go_wp2_with fail
            go_loopw [11] (fun kv wr => ∃ k : Nat, kv = .int .i64 k ∧ k ≤ N.kids.length ∧ Hid (Tgf wr u.heap.size w5.heap.size N (fun z => ((ns.getD z.toNat 0 : Nat) : Int)) k b1 b2 b3 e1 e2 e3) ∧ Hid (Below u.heap.size u wr)) (fun kv _ => N.kids.length - (intOf kv).toNat)
            case atStart =>
              obtain ⟨t1, t2⟩ := HT0.out _ rfl
              exact ⟨0, rfl, by omega, t1, t2⟩
            case round =>
              clear HT0
              obtain ⟨k, rfl, hk, HT, HBk⟩ := hrel
              have y3 : wr.cell? ⟨w5.heap.size, 3, none⟩ = some (.slice b3 N.kids.length e3) := HT.out.nd.cell 3
              by_cases hkl : k < N.kids.length
              · have hkl' : (k : Int) < N.kids.length := by omega
                obtain ⟨q, rfl, f1, f2, f3, f4, hT2⟩ := HT.out.next hkl
                obtain ⟨m, hm, hmi⟩ := HKd.out k hkl
                obtain ⟨gt, ot, rfl, hgt, p0⟩ := HRd.out wr HBk.out m hmi
                have hm' : N.kids.getD k 0 = (m : Int) := hm
                rw [hm'] at f1 hT2
                rw [Int.toNat_natCast] at hT2
                have hmi' : (m : Int) < i := by omega
                have HT2 : Hid (Tgf ((wr.setCell ⟨q, k, none⟩ (.int .i64 ((ns.getD m 0 : Nat) : Int))).drew) u.heap.size w5.heap.size N (fun z => ((ns.getD z.toNat 0 : Nat) : Int)) (k + 1) b1 b2 (some ⟨q, 0, none⟩) e1 e2 e3 ∧ Below u.heap.size u ((wr.setCell ⟨q, k, none⟩ (.int .i64 ((ns.getD m 0 : Nat) : Int))).drew)) := ⟨hT2.drew, (HBk.out.setCell (p := ⟨q, k, none⟩) f3 _).drew⟩
                generalize ((ns.getD m 0 : Nat) : Int) = pm at *
                clear HT HBk hT2 hm hm' HRd HKd
                go_wp2_with fail
                go_region
                go_wp2_with fail
                go_roundw
                case rel => exact ⟨k + 1, by go_num, by omega, HT2.out.1, HT2.out.2⟩
                case measure => simp [intOf]; omega
              · have hkl' : ¬ (k : Int) < N.kids.length := by omega
                obtain rfl : k = N.kids.length := by omega
                have y0 : wr.cell? ⟨w5.heap.size, 0, none⟩ = some (.int .i64 N.kind) := HT.out.nd.cell 0
                have y1 : wr.cell? ⟨w5.heap.size, 1, none⟩ = some (.slice b1 N.ints.length e1) := HT.out.nd.cell 1
                have y2 : wr.cell? ⟨w5.heap.size, 2, none⟩ = some (.slice b2 N.texts.length e2) := HT.out.nd.cell 2
                have ly := HT.out.nd.lt
                have HSk : Hid (ShI wr w2.heap.size w2.heap.size (.slice av L.length cv) (.slice at' i ct) L ns) := HSh.out.below HBk.out
                have HXk : Hid (NdQ (ShQ w2.heap.size (.slice av L.length cv) (.slice at' i ct)) wr (renNx (fun z => ((ns.getD z.toNat 0 : Nat) : Int)) N b1 b2 b3 e1 e2 e3)) := fresh_q HT.out.own HSh.out.sc.lt (fun b q => (HSh.out.row.lt b q).2) (fun b q => (HSh.out.to.lt b q).2)
                have HBw : Hid (Below w2.heap.size w2 wr) := HBu.out.trans (HBk.out.mono HBu.out.size)
                have g0 : wr.cell? ⟨w2.heap.size, 0, none⟩ = some (.slice av L.length cv) := HSk.out.sc.cell 0
                have lg := HSk.out.sc.lt
                have hszw := HBw.out.size
                clear HT HBk HSh HBu HRd HKd
                go_wp2_with (at_builtin; refine wpList_append_lies _ rfl (.tmp 77) (.tmp 79) 22 rfl w2.heap.size 42 j0 (.agg #[.int .i64 0, .slice none 0 0, .slice none 0 0, .slice none 0 0]) 4 80 Tryd.underlying22 hj0 hy0 hy1 hy2 rfl (by decide) _ L.length (nxV L) rfl (World.ownsRow.alloc (w := wr) HSk.out.row _) ⟨wr.heap.size, 0, none⟩ 1 1 [.int .i64 N.kind, .slice b1 N.ints.length e1, .slice b2 N.texts.length e2, .slice b3 N.kids.length e3] rfl rfl (World.news_of_block (heap_alloc_new wr _)) (by intro z hz; simp at hz; rcases hz with rfl | rfl | rfl | rfl <;> rfl) (by decide) (by unfold maxLen; omega) (by omega) (by simp; omega) _ rfl ?_)
                intro g6 c6 w6 hown6 hgrow6 hlie6 hlt6
                have hA6 : AtN 24 w6 w2.heap.size #[.slice av L.length cv, .int .i64 0] := (HSk.out.sc.alloc _).kept hgrow6 (fun e => HSk.out.v_ne e.symm)
                have z0 : w6.cell? ⟨w2.heap.size, 0, none⟩ = some (.slice av L.length cv) := hA6.cell 0
                have zf := hA6.fz 0
                have HS7 : Hid (ShI (w6.setCell ⟨w2.heap.size, 0, none⟩ (.slice (some ⟨g6, 0, none⟩) (L.length + 1) c6)) w2.heap.size w2.heap.size (.slice (some ⟨g6, 0, none⟩) (L.length + 1) c6) (.slice at' i ct) (L ++ [renNx (fun z => ((ns.getD z.toNat 0 : Nat) : Int)) N b1 b2 b3 e1 e2 e3]) ns) := by
                  refine HSk.out.node HXk.out (by rw [renNx_cells]; exact hown6) hgrow6 ?_
                  rcases hlie6 with q | q
                  · exact .inl q
                  · exact .inr (by simpa using q)
                have HB7 : Hid (Below w2.heap.size w2 (w6.setCell ⟨w2.heap.size, 0, none⟩ (.slice (some ⟨g6, 0, none⟩) (L.length + 1) c6))) := ((HBw.out.alloc HBw.out.size _).grown hgrow6 (by simp; omega) (fun z hz => (HSk.out.row.lt z hz).1)).setCell (p := ⟨w2.heap.size, 0, none⟩) (Nat.le_refl _) _
                have HL7 : Hid ((L ++ [renNx (fun z => ((ns.getD z.toNat 0 : Nat) : Int)) N b1 b2 b3 e1 e2 e3]).map Nx.nd = (addA [] ((cX X r).take (i + 1))).1 ∧ (addA [] ((cX X r).take (i + 1))).2 = ns ++ [L.length]) := by
                  obtain ⟨n1, n2⟩ := HN3.out
                  refine ⟨?_, n2⟩
                  rw [List.map_append, n1]
                  rfl
                have hlen7 : (L ++ [renNx (fun z => ((ns.getD z.toNat 0 : Nat) : Int)) N b1 b2 b3 e1 e2 e3]).length = L.length + 1 := by simp
                have hs6 : w2.heap.size ≤ w6.heap.size := by have := hgrow6.size; simp at this; omega
                clear hown6 hgrow6 hlie6 hA6 HSk HXk HBw HN3 y0 y1 y2 y3
                have hszx := HB7.out.size
                have htl : ns.length = i := HNL.out
                have HTo : Hid ((w6.setCell ⟨w2.heap.size, 0, none⟩ (.slice (some ⟨g6, 0, none⟩) (L.length + 1) c6)).ownsRow w2.heap.size 3 1 (.slice at' i ct) i (nV ns)) := by
                  have := HS7.out.to
                  rw [htl] at this
                  exact this
                clear htl
                go_wp2_with (at_builtin; refine wpList_append_lies _ rfl (.tmp 82) (.tmp 84) 38 rfl w2.heap.size 3 i0 (.int .i64 0) 1 8 Tryd.underlying38 hi0 hz0 hz1 hz2 rfl (by decide) _ i (nV ns) rfl (World.ownsRow.alloc (w := (w6.setCell ⟨w2.heap.size, 0, none⟩ (.slice (some ⟨g6, 0, none⟩) (L.length + 1) c6))) HTo.out _) ⟨w6.heap.size, 0, none⟩ 1 1 [.int .i64 ((L.length : Nat) : Int)] rfl rfl (fun j u hu => by have := cell_one_new (w6.setCell ⟨w2.heap.size, 0, none⟩ (.slice (some ⟨g6, 0, none⟩) (L.length + 1) c6)) (.int .i64 ((L.length : Nat) : Int)) 3 j u hu; simpa using this) (by intro v hv; simp at hv; subst hv; rfl) (by decide) (by unfold maxLen; omega) (by omega) (by simp; omega) _ rfl ?_)
                intro g9 c9 w9 hown9 hgrow9 hlie9 hlt9
                have HS9 : Hid (ShI w9 w2.heap.size w2.heap.size (.slice (some ⟨g6, 0, none⟩) (L.length + 1) c6) (.slice (some ⟨g9, 0, none⟩) (i + 1) c9) (L ++ [renNx (fun z => ((ns.getD z.toNat 0 : Nat) : Int)) N b1 b2 b3 e1 e2 e3]) (ns ++ [L.length])) := by
                  refine HS7.out.num HNL.out hown9 hgrow9 ?_
                  rcases hlie9 with q | q
                  · exact .inl q
                  · exact .inr (by simpa using q)
                have HB9 : Hid (Below w2.heap.size w2 w9) := (HB7.out.alloc HB7.out.size _).grown hgrow9 (by simp; omega) (fun z hz => (HTo.out.lt z hz).1)
                clear hown9 hgrow9 hlie9 HS7 HB7 HTo
                go_wp2_with fail
                go_roundw
                case rel =>
                  obtain ⟨n1, n2⟩ := HL7.out
                  exact ⟨i + 1, some ⟨g9, 0, none⟩, c9, .slice (some ⟨g6, 0, none⟩) (L.length + 1) c6, (L ++ [renNx (fun z => ((ns.getD z.toNat 0 : Nat) : Int)) N b1 b2 b3 e1 e2 e3]), by go_num, by omega, rfl, ⟨by rw [n2]; exact HS9.out, n1⟩, HB9⟩
                case measure => simp [intOf]; omega
          · clear HZt
            have HN2 : Hid (L.map Nx.nd = (addA [] ((cX X r).take (i + 1))).1 ∧ (addA [] ((cX X r).take (i + 1))).2 = ns ++ [t]) := HOld.out t htl
            clear HOld HNew HCp HRd HKd HSame
            have hszx := HBu.out.size
            have htl : ns.length = i := HNL.out
            have HTo : Hid (wr.ownsRow w2.heap.size 3 1 (.slice at' i ct) i (nV ns)) := by
              have := HSh.out.to
              rw [htl] at this
              exact this
            clear htl
            go_wp2_with (at_builtin; refine wpList_append_lies _ rfl (.tmp 82) (.tmp 84) 38 rfl w2.heap.size 3 i0 (.int .i64 0) 1 8 Tryd.underlying38 hi0 hz0 hz1 hz2 rfl (by decide) _ i (nV ns) rfl (World.ownsRow.alloc (w := wr) HTo.out _) ⟨wr.heap.size, 0, none⟩ 1 1 [.int .i64 ((t : Nat) : Int)] rfl rfl (cell_one_new _ _ _) (by intro v hv; simp at hv; subst hv; rfl) (by decide) (by unfold maxLen; omega) (by omega) (by simp; omega) _ rfl ?_)
            intro g9 c9 w9 hown9 hgrow9 hlie9 hlt9
            have HS9 : Hid (ShI w9 w2.heap.size w2.heap.size (.slice av L.length cv) (.slice (some ⟨g9, 0, none⟩) (i + 1) c9) L (ns ++ [t])) := by
              refine HSh.out.num HNL.out hown9 hgrow9 ?_
              rcases hlie9 with q | q
              · exact .inl q
              · exact .inr (by simpa using q)
            have HB9 : Hid (Below w2.heap.size w2 w9) := (HBu.out.alloc HBu.out.size _).grown hgrow9 (by simp; omega) (fun z hz => (HTo.out.lt z hz).1)
            clear hown9 hgrow9 hlie9 HSh HBu HTo
            go_wp2_with fail
            go_roundw
            case rel =>
              obtain ⟨n1, n2⟩ := HN2.out
              exact ⟨i + 1, some ⟨g9, 0, none⟩, c9, .slice av L.length cv, L, by go_num, by omega, rfl, ⟨by rw [n2]; exact HS9.out, n1⟩, HB9⟩
            case measure => simp [intOf]; omega
    · have hlt' : ¬ (i : Int) < Z.length := by omega
      obtain rfl : i = Z.length := by omega
      have htk : (cX X r).take Z.length = cX X r := by rw [← HZ.out.2.2.2.2, List.take_length]
      have hpZ : p < Z.length := by have h1 := HP.out.2.1; have h2 := HZ.out.2.2.1; omega
      have hpZ' : (p : Int) < Z.length := by omega
      have hto := HSh.out.to
      rw [HNL.out] at hto
      obtain ⟨gt, ot, rfl, hgt, p0⟩ := (LsAt.of_own hto).at (nV_at (addA [] ((cX X r).take Z.length)).2 p (by rw [HNL.out]; exact hpZ))
      have hsh : L.map Nx.nd = shL (cX X r) := by
        have := HSL.out.2
        rw [htk] at this
        exact this
      have HFc : Hid (ShF X L r) := sh_facts HS.out.2.1 HS.out.1 HS.out.2.2 hsh
      have HLr : Hid ((((addA [] ((cX X r).take Z.length)).2.getD p 0 : Nat) : Int) = (L.length : Int) - 1) := by
        have h1 := sh_root (cX_cn HS.out.2.1)
        unfold shR at h1
        rw [cX_len HS.out.2.1, HP.out.2.2] at h1
        have h2 := congrArg List.length hsh
        rw [List.length_map] at h2
        show _ = _
        rw [htk, h1, h2]
      have x1 : wr.cell? ⟨w1.heap.size, 1, none⟩ = some (.int .i64 (p : Int)) := (HK.out.1.belowAll HBu.out).cell 1
      have s0 : wr.cell? ⟨w2.heap.size, 0, none⟩ = some (.slice av L.length cv) := HSh.out.sc.cell 0
      have s1 : wr.cell? ⟨w2.heap.size, 1, none⟩ = some (.int .i64 0) := HSh.out.sc.cell 1
      have sf := HSh.out.sc.fz 1
      have sl := HSh.out.sc.lt
      have HLs : Hid (L.map Nx.nd = shL (cX X r)) := hsh
      have HW3 : Hid (∀ x, AtN 24 (wr.setCell ⟨w2.heap.size, 1, none⟩ x) w2.heap.size #[.slice av L.length cv, x] ∧ ScAt (wr.setCell ⟨w2.heap.size, 1, none⟩ x) av L ∧ AtN 24 (wr.setCell ⟨w2.heap.size, 1, none⟩ x) (w.heap.size + 1) #[.slice none 0 0, .int .i64 0] ∧ Below w.heap.size w (wr.setCell ⟨w2.heap.size, 1, none⟩ x)) := fun x => by
        have hF : Fr (fun b => b = w2.heap.size) wr (wr.setCell ⟨w2.heap.size, 1, none⟩ x) := (Fr.refl (fun b => b = w2.heap.size) wr).set ⟨w2.heap.size, 1, none⟩ rfl x
        have hbw := HK.out.2.2.2.trans (HBu.out.mono HK.out.2.2.2.size)
        have hrl := HK.out.2.2.1.lt
        refine ⟨by simpa using HSh.out.sc.set 1 x, ⟨LsAt.of_own4' (own_fr HSh.out.row hF (fun z hz e => HSh.out.v_ne (by rw [hz, e]))), fun j hj => ((HSh.out.each j hj).fr hF (fun b q _ => q.1)).ndAt⟩, (HK.out.2.2.1.belowAll HBu.out).fr hF (by omega), Fr.below hbw hF (fun b e => by have := HK.out.2.2.2.size; omega) hbw.size⟩
      clear hto hsh htk HSL HSh HBu HK HR HZ HF HS HNL HP
      generalize (addA [] ((cX X r).take Z.length)).2.getD p 0 = y at *
      go_wp2_with fail
      obtain ⟨q1, q2, q3, q4⟩ := HW3.out (.int .i64 ((y : Nat) : Int))
      have HW4 : Hid _ := And.intro q1 (And.intro q2 (And.intro q3 q4))
      clear HW3 q1 q2 q3 q4 s0 s1 sf
      generalize wr.setCell ⟨w2.heap.size, 1, none⟩ (.int .i64 ((y : Nat) : Int)) = w4 at *
      have s0 : w4.cell? ⟨w2.heap.size, 0, none⟩ = some (.slice av L.length cv) := HW4.out.1.cell 0
      have s1 : w4.cell? ⟨w2.heap.size, 1, none⟩ = some (.int .i64 ((y : Nat) : Int)) := HW4.out.1.cell 1
      have HCn : Hid (Calls Tryd.prog 28 #[.agg #[.slice av L.length cv, .int .i64 ((y : Nat) : Int)]] w4 fun e w' => RCanOut2 L ((y : Nat) : Int) w4 w' e) := rcanon2_any L av cv _ w4 HW4.out.2.1 HFc.out.small (by rw [HLr.out]; exact HFc.out.can.1)
      go_wp2_with fail
      refine Calls.mono HCn.out ?_
      rintro e w5 ⟨V, av5, cv5, rfl, hV, sV, hb5⟩
      have hVL : V.map Nx.nd = L.map Nx.nd := by rw [hV, HLr.out]; exact HFc.out.cx
      have hVl : V.length = L.length := by simpa using congrArg List.length hVL
      have A5 : AtN 24 w5 (w.heap.size + 1) #[.slice none 0 0, .int .i64 0] := HW4.out.2.2.1.belowAll hb5
      have HW5 : Hid (∀ v0 v1, AtN 24 ((w5.setCell ⟨w.heap.size + 1, 0, none⟩ v0).setCell ⟨w.heap.size + 1, 1, none⟩ v1) (w.heap.size + 1) #[v0, v1] ∧ Below w.heap.size w ((w5.setCell ⟨w.heap.size + 1, 0, none⟩ v0).setCell ⟨w.heap.size + 1, 1, none⟩ v1) ∧ ScAt ((w5.setCell ⟨w.heap.size + 1, 0, none⟩ v0).setCell ⟨w.heap.size + 1, 1, none⟩ v1) av5 V) := fun v0 v1 => by
        have hbw := HW4.out.2.2.2.trans (hb5.mono HW4.out.2.2.2.size)
        have hF : Fr (fun b => b = w.heap.size + 1) w5 ((w5.setCell ⟨w.heap.size + 1, 0, none⟩ v0).setCell ⟨w.heap.size + 1, 1, none⟩ v1) := ((Fr.refl (fun b => b = w.heap.size + 1) w5).set ⟨w.heap.size + 1, 0, none⟩ rfl v0).set ⟨w.heap.size + 1, 1, none⟩ rfl v1
        have hal : Alien w5 (fun b => b = w.heap.size + 1) := fun b hb _ => ⟨_, _, _, hb ▸ A5, by decide, by decide, by decide⟩
        exact ⟨by simpa using (A5.set 0 v0).set 1 v1, Fr.below hbw hF (fun b e => by omega) hbw.size, ⟨LsAt.of_own4' (own_fr sV.1 hF (fun b hb e => own_ne_at sV.1 A5 (by decide) b hb e)), fun j hj => ((sV.2 j hj).fr hF hal).ndAt⟩⟩
      have a0 : w5.cell? ⟨w.heap.size + 1, 0, none⟩ = some (.slice none 0 0) := A5.cell 0
      have a1 : w5.cell? ⟨w.heap.size + 1, 1, none⟩ = some (.int .i64 0) := A5.cell 1
      have af0 := A5.fz 0
      have af1 := A5.fz 1
      have al := A5.lt
      have HV : Hid (V.map Nx.nd = shL (cX X r) ∧ V.length = L.length) := ⟨by rw [hVL, HLs.out], hVl⟩
      clear HCn hV sV hb5 hVL hVl A5 HW4 HLs HLr HFc s0 s1
      go_wp2_with fail
      obtain ⟨A, Bq, Sq⟩ := HW5.out (.slice av5 V.length cv5) (.int .i64 ((L.length : Int) - 1))
      have k0 := A.cell 0
      have k1 := A.cell 1
      exact bodyPost_ret (v := .agg #[.slice av5 V.length cv5, .int .i64 ((L.length : Int) - 1)]) (by simp [results, Tryd.results19, go_sem, k0, k1]) rfl ⟨V, av5, cv5, by rw [HV.out.2], HV.out.1, Sq, Bq⟩

end Go.Proofs.YtcdpjaaiojpelaaDoor
