/- The contracts of ref's Numbers, Canon and Is. -/
import Derived.Test.YtcdpjaaiojpelaaDoorCRef
import Derived.Test.YtcdpjaaiojpelaaDoorGReg4
namespace Go.Proofs.YtcdpjaaiojpelaaDoor
open Go.RowKit Go.Maps Go.WideMaps Go.Sort

/-- Of each node its place. -/
def plX (X : List Nx) (r : Int) : List Nat := (List.range X.length).map fun i => (oX X r).idxOf i
theorem plX_length (X : List Nx) (r : Int) : (plX X r).length = X.length := by simp [plX]
theorem plX_at (X : List Nx) (r : Int) (i : Nat) (h : i < X.length) : (plX X r).getD i 0 = (oX X r).idxOf i := by simp [plX, h]
theorem plX_cells (X : List Nx) (r : Int) : (zV X.length (fun i => ((oX X r).idxOf i : Int))) = (nV (plX X r)).toArray := by
  unfold zV nV plX
  rw [List.map_map]
  rfl
theorem plX_take (X : List Nx) (r : Int) (i : Nat) (h : i < X.length) : (plX X r).take (i + 1) = (plX X r).take i ++ [(oX X r).idxOf i] := by
  rw [take_at (by rw [plX_length]; exact h), plX_at X r i h]
theorem oX_length {X : List Nx} {r : Int} (h : RightIs X r) : (oX X r).length = X.length := by have := h.ord.len; rwa [kX_length] at this
theorem oX_all {X : List Nx} {r : Int} (h : RightIs X r) (i : Nat) (hi : i < X.length) : i ∈ oX X r := h.ord.all i (by rw [kX_length]; exact hi)
theorem oX_lt {X : List Nx} {r : Int} (h : RightIs X r) (j : Nat) (hj : j < (oX X r).length) : (oX X r).getD j 0 < X.length := by have := h.ord.good.lt _ (getD_mem hj); rwa [kX_length] at this

def RNumOut (X : List Nx) (r : Int) (w w' : World) (e : Ending) : Prop := ∃ a c, e = .returned (.slice a X.length c) ∧ LsAt w' a (nV (plX X r)) ∧ Below w.heap.size w w'

/-! ### Canon -/

/-- The facts of the region that copies a node. -/
def r6F (n b o c b0 m bl ol cl i x : Nat) (N : Nx) (B : Nat) : Nat → (Option Tmp → Value) → World → Prop
  | 0, V, _ => V (some 20) = .pointer (some ⟨b0, 0, none⟩)
  | 1, V, _ => V (some 21) = .slice (some ⟨b, o, none⟩) n c
  | 2, V, _ => V (some 22) = .slice (some ⟨bl, ol, none⟩) m cl
  | 3, V, _ => V (some 23) = .int .i64 (i : Int)
  | 4, V, _ => V (some 24) = .pointer (some ⟨bl, ol + i, none⟩)
  | 5, V, _ => V (some 25) = .int .i64 (x : Int)
  | 6, V, _ => V (some 26) = .pointer (some ⟨b, o + x * 4, none⟩)
  | 7, V, _ => V (some 27) = .agg #[.int .i64 N.nd.kind, .slice N.a1 N.nd.ints.length N.c1, .slice N.a2 N.nd.texts.length N.c2, .slice N.a3 N.nd.kids.length N.c3]
  | 8, V, W => ∃ y : Nx, y.nd = N.nd ∧ V (some 28) = .agg (nxC y).toArray ∧ OwnNx W B y
  | 9, V, W => ∃ g, V (some 6) = .pointer (some ⟨g, 0, none⟩) ∧ B ≤ g ∧ ∃ v0 v1 v2 v3, AtN 42 W g #[v0, v1, v2, v3]
  | 10, V, W => ∃ (g : Nat) (y : Nx), V (some 6) = .pointer (some ⟨g, 0, none⟩) ∧ B ≤ g ∧ y.nd = N.nd ∧ AtN 42 W g (nxC y).toArray ∧ OwnNx W B y
  | _, _, _ => True
section
variable {n b o c b0 m bl ol cl i x B : Nat} {N : Nx} {W W' : World}
theorem r6F_below (hb : Below W.heap.size W W') (s : Nat) : ∀ j V, s ≠ j → r6F n b o c b0 m bl ol cl i x N B j V W → r6F n b o c b0 m bl ol cl i x N B j V W' := by
  intro j V _ h
  have key : ∀ y : Nx, OwnNx W B y → OwnNx W' B y := fun y hy => hy.fr (Fr.of_below (S := fun _ => False) hb) (fun _ q => q.elim)
  match j, h with
  | 0, h | 1, h | 2, h | 3, h | 4, h | 5, h | 6, h | 7, h => exact h
  | 8, h =>
    obtain ⟨y, h1, h2, h3⟩ := h
    exact ⟨y, h1, h2, key y h3⟩
  | 9, h =>
    obtain ⟨g, h1, h2, v0, v1, v2, v3, h3⟩ := h
    exact ⟨g, h1, h2, v0, v1, v2, v3, h3.belowAll hb⟩
  | 10, h =>
    obtain ⟨g, y, h1, h2, h3, h4, h5⟩ := h
    exact ⟨g, y, h1, h2, h3, h4.belowAll hb, key y h5⟩
  | q + 11, _ => trivial
theorem r6F_set {g : Nat} {u0 u1 u2 u3 : Value} (hf : Fr (fun b => b = g) W W') (ha : Alien W (fun b => b = g)) (hA : AtN 42 W' g #[u0, u1, u2, u3]) : ∀ j V, 10 ≠ j → r6F n b o c b0 m bl ol cl i x N B j V W → r6F n b o c b0 m bl ol cl i x N B j V W' := by
  intro j V hj h
  match j, h with
  | 0, h | 1, h | 2, h | 3, h | 4, h | 5, h | 6, h | 7, h => exact h
  | 8, h =>
    obtain ⟨y, h1, h2, h3⟩ := h
    exact ⟨y, h1, h2, h3.fr hf ha⟩
  | 9, h =>
    obtain ⟨g', h1, h2, v0, v1, v2, v3, h3⟩ := h
    by_cases e : g' = g
    · subst e
      exact ⟨g', h1, h2, _, _, _, _, hA⟩
    · exact ⟨g', h1, h2, v0, v1, v2, v3, h3.fr hf e⟩
  | 10, _ => exact absurd rfl hj
  | q + 11, _ => trivial
end
/-- The facts of the region that renumbers a kid. -/
def r10F (m bl ol cl g q k kd : Nat) (pk : Int) (kl e3 : Nat) (TT : World → Prop) : Nat → (Option Tmp → Value) → World → Prop
  | 0, V, _ => V (some 36) = .pointer (some ⟨g, 3, none⟩)
  | 1, V, _ => V (some 37) = .slice (some ⟨q, 0, none⟩) kl e3
  | 2, V, _ => V (some 38) = .int .i64 (k : Int)
  | 3, V, _ => V (some 39) = .slice (some ⟨bl, ol, none⟩) m cl
  | 4, V, _ => V (some 40) = .pointer (some ⟨g, 3, none⟩)
  | 5, V, _ => V (some 41) = .slice (some ⟨q, 0, none⟩) kl e3
  | 6, V, _ => V (some 42) = .int .i64 (k : Int)
  | 7, V, _ => V (some 43) = .pointer (some ⟨q, k, none⟩)
  | 8, V, _ => V (some 44) = .int .i64 (kd : Int)
  | 9, V, _ => V (some 45) = .int .i64 pk
  | 10, V, _ => V (some 46) = .pointer (some ⟨q, k, none⟩)
  | 11, _, W => TT W
  | _, _, _ => True
theorem r10F_set {m bl ol cl g q k kd : Nat} {pk : Int} {kl e3 : Nat} {TT : World → Prop} {W W' : World} {j : Nat} {V : Option Tmp → Value} (hj : 11 ≠ j) (h : r10F m bl ol cl g q k kd pk kl e3 TT j V W) : r10F m bl ol cl g q k kd pk kl e3 TT j V W' := by
  match j, h with
  | 0, h | 1, h | 2, h | 3, h | 4, h | 5, h | 6, h | 7, h | 8, h | 9, h | 10, h => exact h
  | 11, _ => exact absurd rfl hj
  | q + 12, _ => trivial
def r10I (q k kd : Nat) (pk : Int) (TT : World → Prop) (W : World) : Prop := W.cell? ⟨q, k, none⟩ = some (.int .i64 (kd : Int)) ∧ W.frozen? ⟨q, k, none⟩ = false ∧ q < W.heap.size ∧ TT (W.setCell ⟨q, k, none⟩ (.int .i64 pk))

/-- What ref's Canon tells. -/
def RCanOut (X : List Nx) (r : Int) (w w' : World) (e : Ending) : Prop := ∃ Y a c, e = .returned (.agg #[.slice a (List.length Y) c, .int .i64 ((X.length : Int) - 1)]) ∧ Y.map Nx.nd = cX X r ∧ ScAt w' a Y ∧ Below w.heap.size w w'
/-- The same, and all of it is new. -/
def RCanOut2 (X : List Nx) (r : Int) (w w' : World) (e : Ending) : Prop := ∃ Y a c, e = .returned (.agg #[.slice a (List.length Y) c, .int .i64 ((X.length : Int) - 1)]) ∧ Y.map Nx.nd = cX X r ∧ (w'.ownsRow w.heap.size 42 4 (.slice a Y.length c) Y.length (nxV Y) ∧ ∀ j, j < Y.length → OwnNx w' w.heap.size (Y.getD j noNx)) ∧ Below w.heap.size w w'
theorem cX_at {X : List Nx} {r : Int} (hR : RightIs X r) (j : Nat) (hj : j < (oX X r).length) : (cX X r)[j]? = some (renNd (fun z => plZ (oX X r) z.toNat) (X.getD ((oX X r).getD j 0) noNx).nd) := by
  unfold cX
  rw [List.getElem?_map, List.getElem?_eq_getElem hj]
  have e : (oX X r).getD j 0 = (oX X r)[j] := by rw [List.getD_eq_getElem?_getD, List.getElem?_eq_getElem hj]; rfl
  simp only [Option.map_some, Option.some.injEq]
  rw [e]
  have hx : (oX X r)[j] < X.length := by rw [← e]; exact oX_lt hR j hj
  unfold renNd
  congr 1
  refine List.map_congr_left fun z hz => ?_
  obtain ⟨t, ht, rfl⟩ := List.getElem_of_mem hz
  have hp := hR.2.1 _ hx t ht
  have hp' : isPb X.length (X.getD (oX X r)[j] noNx).nd.kids[t] = true := by
    rwa [show (X.getD (oX X r)[j] noNx).nd.kids.getD t 0 = (X.getD (oX X r)[j] noNx).nd.kids[t] by rw [List.getD_eq_getElem?_getD, List.getElem?_eq_getElem ht]; rfl] at hp
  have := isPb_iff.1 hp'
  unfold pX
  rw [plZ_in (oX_all hR _ (by omega))]

set_option maxRecDepth 10000 in
set_option maxHeartbeats 2000000 in
theorem rcanon2_any (X : List Nx) (a : Option Addr) (c : Nat) (r : Int) (w : World) (h : ScAt w a X) (hX : Small X) (hR : RightIs X r) :
    Calls Tryd.prog 28 #[.agg #[.slice a X.length c, .int .i64 r]] w fun e w' => RCanOut2 X r w w' e := by
  obtain ⟨i0, hi, hz0, hz1, hz2⟩ := info_parts Tryd.infoD9
  have hn := hX.1
  have hol := oX_length hR
  have hn1 : 1 ≤ X.length := by have := hR.root.2; omega
  have HS : Hid (ScAt w a X ∧ Small X ∧ RightIs X r) := ⟨h, hX, hR⟩
  clear h hX hR
  have HA : Hid (∀ (o1 o2 : Obj), o1 = .cells #[.slice a X.length c, .int .i64 r] 24 → o2 = .cells #[.slice none 0 0, .int .i64 0] 24 → AtN 24 ((w.alloc o1).alloc o2) w.heap.size #[.slice a X.length c, .int .i64 r] ∧ AtN 24 ((w.alloc o1).alloc o2) (w.heap.size + 1) #[.slice none 0 0, .int .i64 0] ∧ Below w.heap.size w ((w.alloc o1).alloc o2)) := by
    rintro _ _ rfl rfl
    exact ⟨(AtN.new w 24 _).alloc _, mk_at (AtN.new (w.alloc _) 24 _) (show _ = w.heap.size + 1 by simp), ((Below.refl w.heap.size w).alloc (Nat.le_refl _) _).alloc (by simp) _⟩
  go_enter Tryd.func28, Tryd.ntmps28
  go_wp2_with fail
  obtain ⟨h1, h2, h3⟩ := HA.out _ _ rfl rfl
  refine (order_any X a c r _ (HS.out.1.belowB h3) HS.out.2.1 HS.out.2.2).mono ?_
  rintro e w1 ⟨al, cl, rfl, hl1, hb1⟩
  have HA1 : Hid (AtN 24 w1 w.heap.size #[.slice a X.length c, .int .i64 r]) := h1.belowAll hb1
  have HR1 : Hid (AtN 24 w1 (w.heap.size + 1) #[.slice none 0 0, .int .i64 0]) := h2.belowAll hb1
  have HB1 : Hid (Below w.heap.size w w1) := h3.trans (hb1.mono h3.size)
  have HO1 : Hid (LsAt w1 al (nV (oX X r))) := hl1
  have hs1 : w.heap.size + 1 < w1.heap.size := HR1.out.lt
  have HX1 : Hid (ScAt w1 a X) := HS.out.1.belowB HB1.out
  clear HA h1 h2 h3 hb1 hl1
  have HM0 : Hid (∀ o : Obj, o = .cells #[.slice none 0 0, .int .i64 ((X.length : Int) - 1)] 24 → Mkg (w1.alloc o) w1.heap.size w1.heap.size ((X.length : Int) - 1) (.slice none 0 0) [] ∧ Below w1.heap.size w1 (w1.alloc o)) := by
    rintro _ rfl
    exact ⟨⟨AtN.new w1 24 _, ⟨rfl, .inl ⟨rfl, rfl⟩⟩, fun j hj => by simp at hj⟩, (Below.refl w1.heap.size w1).alloc (Nat.le_refl _) _⟩
  obtain ⟨O, hO⟩ : ∃ O, oX X r = O := ⟨_, rfl⟩
  have Hcx : Hid (∀ j, j < O.length → (cX X r)[j]? = some (renNd (fun z => plZ O z.toNat) (X.getD (O.getD j 0) noNx).nd)) := by rw [← hO]; exact cX_at HS.out.2.2
  have HcL : Hid ((cX X r).length = X.length) := by rw [show (cX X r).length = (oX X r).length by simp [cX]]; exact hol
  have HOl : Hid (∀ j, j < O.length → O.getD j 0 < X.length) := by rw [← hO]; exact oX_lt HS.out.2.2
  rw [hO] at hol HO1 ⊢
  clear hO
  go_wp2_with fail
  go_loopw [5] (fun iv wr => ∃ (i : Nat) (v : Value) (Y : List Nx), iv = .int .i64 i ∧ i ≤ X.length ∧ Hid (∀ j, j < Y.length → (Y.getD j noNx).nd = renNd (fun z => plZ O z.toNat) (X.getD (O.getD j 0) noNx).nd) ∧ Hid (Y.length = i) ∧ Hid (Mkg wr w1.heap.size w1.heap.size ((X.length : Int) - 1) v Y) ∧ Hid (Below w1.heap.size w1 wr)) (fun iv _ => X.length - (intOf iv).toNat)
  case atStart =>
    obtain ⟨h1, h2⟩ := HM0.out _ rfl
    exact ⟨0, .slice none 0 0, [], rfl, by omega, (by intro j hj; simp at hj), rfl, h1, h2⟩
  case round =>
    clear HM0
    obtain ⟨i, v, Y, rfl, hi', HM, HL, HK, HB⟩ := hrel
    have x0 : wr.cell? ⟨w.heap.size, 0, none⟩ = some (.slice a X.length c) := (HA1.out.belowAll HB.out).cell 0
    have hszw := HB.out.size
    by_cases hlt : i < X.length
    · have hlt' : (i : Int) < X.length := by omega
      obtain ⟨u, hu⟩ : ∃ u, u = wr := ⟨_, rfl⟩
      subst hu
      obtain ⟨bl, ol, hal, hbl, l0⟩ := (LsAt.belowB HO1.out HB.out).at (nV_at O i (by omega))
      subst hal
      have hxl : O.getD i 0 < X.length := HOl.out i (by omega)
      obtain ⟨b, o, ea, hbn, d0, d1, d2, d3⟩ := (ScAt.belowB HX1.out HB.out).node hxl
      subst ea
      have HCp : Hid (∀ W, Below u.heap.size u W → Calls Tryd.prog 27 #[.agg #[.int .i64 (X.getD (O.getD i 0) noNx).nd.kind, .slice (X.getD (O.getD i 0) noNx).a1 (X.getD (O.getD i 0) noNx).nd.ints.length (X.getD (O.getD i 0) noNx).c1, .slice (X.getD (O.getD i 0) noNx).a2 (X.getD (O.getD i 0) noNx).nd.texts.length (X.getD (O.getD i 0) noNx).c2, .slice (X.getD (O.getD i 0) noNx).a3 (X.getD (O.getD i 0) noNx).nd.kids.length (X.getD (O.getD i 0) noNx).c3]] W fun e w' => NdOut W w' e (X.getD (O.getD i 0) noNx).nd) := fun W hW => by
        have hgr := great_no (HS.out.2.1.2 _ hxl)
        exact rcopy_any (X.getD (O.getD i 0) noNx).nd (X.getD (O.getD i 0) noNx).a1 (X.getD (O.getD i 0) noNx).a2 (X.getD (O.getD i 0) noNx).a3 (X.getD (O.getD i 0) noNx).c1 (X.getD (O.getD i 0) noNx).c2 (X.getD (O.getD i 0) noNx).c3 W (((ScAt.belowB HX1.out HB.out).belowB hW).each _ hxl) hgr.1 hgr.2.1 hgr.2.2.1
      have HX : Hid (∀ y : Nx, y.nd = renNd (fun z => plZ O z.toNat) (X.getD (O.getD i 0) noNx).nd → ∀ j, j < (Y ++ [y]).length → ((Y ++ [y]).getD j noNx).nd = renNd (fun z => plZ O z.toNat) (X.getD (O.getD j 0) noNx).nd) := fun y hy j hj => by
        have hl : Y.length = i := HL.out
        by_cases hjl : j < Y.length
        · rw [show (Y ++ [y]).getD j noNx = Y.getD j noNx by rw [List.getD_eq_getElem?_getD, List.getElem?_append_left hjl, ← List.getD_eq_getElem?_getD]]
          exact HM.out j hjl
        · obtain rfl : j = Y.length := by simp at hj; omega
          rw [show (Y ++ [y]).getD Y.length noNx = y by simp, hy, hl]
      have hYl : Y.length ≤ 61 := by have hl : Y.length = i := HL.out; omega
      have HL2 : Hid (∀ y : Nx, (Y ++ [y]).length = i + 1) := fun y => by have hl : Y.length = i := HL.out; simp; omega
      have hsz : w1.heap.size < u.heap.size := HK.out.sc.lt
      have Hv : Hid (v.ownBlock ≠ some w1.heap.size ∧ (∀ k, v.ownBlock = some k → k < u.heap.size) ∧ ∀ k, v.ownBlock = some k → w1.heap.size ≤ k) := ⟨HK.out.ne, fun k hk => (HK.out.row.lt k hk).2, fun k hk => (HK.out.row.lt k hk).1⟩
      have Hpb : Hid (∀ j, j < (X.getD (O.getD i 0) noNx).nd.kids.length → isPb X.length ((X.getD (O.getD i 0) noNx).nd.kids.getD j 0) = true) := HS.out.2.2.2.1 _ hxl
      have hk3 : (X.getD (O.getD i 0) noNx).nd.kids.length ≤ 300 := HS.out.2.1.kids hxl
      have hg0 : w.heap.size < u.heap.size := by omega
      have hxl' : ((O.getD i 0 : Nat) : Int) < X.length := by omega
      generalize O.getD i 0 = x at *
      generalize X.getD x noNx = N at *
      clear HM HL HS
      go_wp2_with fail
      refine facts_region7 (fun W => Below u.heap.size u W) (r6F X.length b o c w.heap.size X.length bl ol cl i x N u.heap.size) 99 (fun _ => True) (by kernel_rfl) (by kernel_rfl) (Below.refl _ _).drew trivial ?loc ?step ?fin
      case loc =>
        intro j' o' V V' W ho hd hk h
        rcases j' with _|_|_|_|_|_|_|_|_|_|_|j'
        · obtain rfl := Option.some.inj ho
          have e : V (some 20) = V' (some 20) := hd
          simp only [r6F] at h ⊢
          rw [← e]; exact h
        · obtain rfl := Option.some.inj ho
          have e : V (some 21) = V' (some 21) := hd
          simp only [r6F] at h ⊢
          rw [← e]; exact h
        · obtain rfl := Option.some.inj ho
          have e : V (some 22) = V' (some 22) := hd
          simp only [r6F] at h ⊢
          rw [← e]; exact h
        · obtain rfl := Option.some.inj ho
          have e : V (some 23) = V' (some 23) := hd
          simp only [r6F] at h ⊢
          rw [← e]; exact h
        · obtain rfl := Option.some.inj ho
          have e : V (some 24) = V' (some 24) := hd
          simp only [r6F] at h ⊢
          rw [← e]; exact h
        · obtain rfl := Option.some.inj ho
          have e : V (some 25) = V' (some 25) := hd
          simp only [r6F] at h ⊢
          rw [← e]; exact h
        · obtain rfl := Option.some.inj ho
          have e : V (some 26) = V' (some 26) := hd
          simp only [r6F] at h ⊢
          rw [← e]; exact h
        · obtain rfl := Option.some.inj ho
          have e : V (some 27) = V' (some 27) := hd
          simp only [r6F] at h ⊢
          rw [← e]; exact h
        · obtain rfl := Option.some.inj ho
          have e : V (some 28) = V' (some 28) := hd
          simp only [r6F] at h ⊢
          rw [← e]; exact h
        · obtain rfl := Option.some.inj ho
          have e : V (some 6) = V' (some 6) := hd
          simp only [r6F] at h ⊢
          rw [← e]; exact h
        · obtain rfl := Option.some.inj ho
          obtain ⟨g, y, h1, h2⟩ := h
          exact ⟨g, y, (hk 9 _ (by kernel_rfl) rfl).symm.trans h1, h2⟩
        · exact absurd ho (by simp)
      case step =>
        intro i' o' ho a W hG hoff hdep hI K hQ hK
        have x0W : W.cell? ⟨w.heap.size, 0, none⟩ = some (.slice (some ⟨b, o, none⟩) X.length c) := (hG.cell (p := ⟨w.heap.size, 0, none⟩) hg0).trans x0
        have l0W : W.cell? ⟨bl, ol + i, none⟩ = some (.int .i64 (x : Int)) := (hG.cell (p := ⟨bl, ol + i, none⟩) hbl).trans l0
        have d0W : W.cell? ⟨b, o + x * 4, none⟩ = some (.int .i64 N.nd.kind) := (hG.cell (p := ⟨b, o + x * 4, none⟩) hbn).trans d0
        have d1W : W.cell? ⟨b, o + x * 4 + 1, none⟩ = some (.slice N.a1 N.nd.ints.length N.c1) := (hG.cell (p := ⟨b, o + x * 4 + 1, none⟩) hbn).trans d1
        have d2W : W.cell? ⟨b, o + x * 4 + 2, none⟩ = some (.slice N.a2 N.nd.texts.length N.c2) := (hG.cell (p := ⟨b, o + x * 4 + 2, none⟩) hbn).trans d2
        have d3W : W.cell? ⟨b, o + x * 4 + 3, none⟩ = some (.slice N.a3 N.nd.kids.length N.c3) := (hG.cell (p := ⟨b, o + x * 4 + 3, none⟩) hbn).trans d3
        rcases i' with _|_|_|_|_|_|_|_|_|_|_|i'
        · obtain rfl := Option.some.inj ho
          have t1 : a.tmps[1]?.getD undef = .pointer (some ⟨w.heap.size, 0, none⟩) := hoff 1 (by kernel_rfl)
          clear hdep hoff x0W l0W d0W d1W d2W d3W
          go_simp
          exact hQ _ (fun _ h1 _ => h1)
        · obtain rfl := Option.some.inj ho
          have e0 : a.tmps[20]?.getD undef = .pointer (some ⟨w.heap.size, 0, none⟩) := hdep 0 (by kernel_rfl)
          clear hdep hoff l0W d0W d1W d2W d3W
          go_simp
          exact hQ _ (fun _ h1 _ => h1)
        · obtain rfl := Option.some.inj ho
          have t3 : a.tmps[3]?.getD undef = .slice (some ⟨bl, ol, none⟩) X.length cl := hoff 3 (by kernel_rfl)
          clear hdep hoff
          go_simp
          exact hQ _ (fun _ h1 _ => h1)
        · obtain rfl := Option.some.inj ho
          have t5 : a.tmps[5]?.getD undef = .int .i64 (i : Int) := hoff 5 (by kernel_rfl)
          clear hdep hoff
          go_simp
          exact hQ _ (fun _ h1 _ => h1)
        · obtain rfl := Option.some.inj ho
          have e2 : a.tmps[22]?.getD undef = .slice (some ⟨bl, ol, none⟩) X.length cl := hdep 2 (by kernel_rfl)
          have e3 : a.tmps[23]?.getD undef = .int .i64 (i : Int) := hdep 3 (by kernel_rfl)
          clear hdep hoff x0W l0W d0W d1W d2W d3W
          go_simp
          exact hQ _ (fun _ h1 _ => h1)
        · obtain rfl := Option.some.inj ho
          have e4 : a.tmps[24]?.getD undef = .pointer (some ⟨bl, ol + i, none⟩) := hdep 4 (by kernel_rfl)
          clear hdep hoff x0W d0W d1W d2W d3W
          go_simp
          exact hQ _ (fun _ h1 _ => h1)
        · obtain rfl := Option.some.inj ho
          have e1 : a.tmps[21]?.getD undef = .slice (some ⟨b, o, none⟩) X.length c := hdep 1 (by kernel_rfl)
          have e5 : a.tmps[25]?.getD undef = .int .i64 (x : Int) := hdep 5 (by kernel_rfl)
          clear hdep hoff x0W l0W d0W d1W d2W d3W
          go_simp
          exact hQ _ (fun _ h1 _ => h1)
        · obtain rfl := Option.some.inj ho
          have e6 : a.tmps[26]?.getD undef = .pointer (some ⟨b, o + x * 4, none⟩) := hdep 6 (by kernel_rfl)
          clear hdep hoff x0W l0W
          go_simp
          exact hQ _ (fun _ h1 _ => h1)
        · obtain rfl := Option.some.inj ho
          have e7 : a.tmps[27]?.getD undef = .agg #[.int .i64 N.nd.kind, .slice N.a1 N.nd.ints.length N.c1, .slice N.a2 N.nd.texts.length N.c2, .slice N.a3 N.nd.kids.length N.c3] := hdep 7 (by kernel_rfl)
          clear hdep hoff
          have HC : Hid (Calls Tryd.prog 27 #[.agg #[.int .i64 N.nd.kind, .slice N.a1 N.nd.ints.length N.c1, .slice N.a2 N.nd.texts.length N.c2, .slice N.a3 N.nd.kids.length N.c3]] W fun e w' => NdOut W w' e N.nd) := HCp.out W hG
          have HG : Hid (Below u.heap.size u W) := hG
          clear hG hI x0W l0W d0W d1W d2W d3W
          go_simp
          refine Calls.mono HC.out ?_
          rintro e w' ⟨a1, c1, a2, c2, a3, c3, rfl, hO, hb⟩
          exact hK _ _ (HG.out.trans (hb.mono HG.out.size)) (fun _ q => q) (r6F_below hb 8) (fun V' h1 _ => ⟨⟨N.nd, a1, c1, a2, c2, a3, c3⟩, rfl, h1, OwnNd.mono hO HG.out.size⟩)
        · obtain rfl := Option.some.inj ho
          clear hdep hoff
          have HG : Hid (Below u.heap.size u W) := hG
          clear hG hI x0W l0W d0W d1W d2W d3W
          go_simp
          exact hK _ _ (HG.out.alloc HG.out.size _) (fun _ q => q) (r6F_below ((Below.refl W.heap.size W).alloc (Nat.le_refl _) _) 9) (fun V' h1 _ => ⟨W.heap.size, h1, HG.out.size, _, _, _, _, AtN.new W 42 _⟩)
        · obtain rfl := Option.some.inj ho
          have e8 : ∃ y : Nx, y.nd = N.nd ∧ a.tmps[28]?.getD undef = .agg (nxC y).toArray ∧ OwnNx W u.heap.size y := hdep 8 (by kernel_rfl)
          have e9 : ∃ g, a.tmps[6]?.getD undef = .pointer (some ⟨g, 0, none⟩) ∧ u.heap.size ≤ g ∧ ∃ v0 v1 v2 v3, AtN 42 W g #[v0, v1, v2, v3] := hdep 9 (by kernel_rfl)
          clear hdep hoff
          obtain ⟨y, hy, ey, hO⟩ := e8
          have ey' : a.tmps[28]?.getD undef = .agg #[.int .i64 y.nd.kind, .slice y.a1 y.nd.ints.length y.c1, .slice y.a2 y.nd.texts.length y.c2, .slice y.a3 y.nd.kids.length y.c3] := ey
          obtain ⟨g, eg, hg, v0, v1, v2, v3, hA⟩ := e9
          have q0 : W.cell? ⟨g, 0, none⟩ = some v0 := hA.cell 0
          have q1 : W.cell? ⟨g, 1, none⟩ = some v1 := hA.cell 1
          have q2 : W.cell? ⟨g, 2, none⟩ = some v2 := hA.cell 2
          have q3 : W.cell? ⟨g, 3, none⟩ = some v3 := hA.cell 3
          have f0 := hA.fz 0
          have f1 := hA.fz 1
          have f2 := hA.fz 2
          have f3 := hA.fz 3
          have hgl := hA.lt
          have HS4 : Hid (∀ u0 u1 u2 u3, AtN 42 ((((W.setCell ⟨g, 0, none⟩ u0).setCell ⟨g, 1, none⟩ u1).setCell ⟨g, 2, none⟩ u2).setCell ⟨g, 3, none⟩ u3) g #[u0, u1, u2, u3]) := fun u0 u1 u2 u3 => at_set4 hA u0 u1 u2 u3
          have HF4 : Hid (∀ u0 u1 u2 u3, Fr (fun b => b = g) W ((((W.setCell ⟨g, 0, none⟩ u0).setCell ⟨g, 1, none⟩ u1).setCell ⟨g, 2, none⟩ u2).setCell ⟨g, 3, none⟩ u3)) := fun u0 u1 u2 u3 => ((((Fr.refl (fun b => b = g) W).set ⟨g, 0, none⟩ rfl u0).set ⟨g, 1, none⟩ rfl u1).set ⟨g, 2, none⟩ rfl u2).set ⟨g, 3, none⟩ rfl u3
          have HAl : Hid (Alien W (fun b => b = g)) := fun b hb _ => by
            subst hb
            exact ⟨_, _, _, hA, by decide, by decide, by decide⟩
          have HG : Hid (Below u.heap.size u W) := hG
          have HY : Hid (y.nd = N.nd ∧ OwnNx W u.heap.size y) := ⟨hy, hO⟩
          have Heg : Hid (a.tmps[6]?.getD undef = .pointer (some ⟨g, 0, none⟩)) := eg
          clear hy ey hO hA hG hI x0W l0W d0W d1W d2W d3W
          go_simp
          exact hK undef _ (Fr.below HG.out (HF4.out _ _ _ _) (fun b e => by omega) HG.out.size) (fun _ q => q) (r6F_set (HF4.out _ _ _ _) HAl.out (HS4.out _ _ _ _)) (fun V' _ h2 => ⟨g, y, (h2 9 _ (by kernel_rfl) rfl).trans Heg.out, hg, HY.out.1, HS4.out _ _ _ _, HY.out.2.fr (HF4.out _ _ _ _) HAl.out⟩)
        · exact absurd ho (by simp)
      case fin =>
        intro V W hG hF
        have y10 : ∃ (g : Nat) (y : Nx), V (some 6) = .pointer (some ⟨g, 0, none⟩) ∧ u.heap.size ≤ g ∧ y.nd = N.nd ∧ AtN 42 W g (nxC y).toArray ∧ OwnNx W u.heap.size y := hF 10 _ rfl
        obtain ⟨g6, y, ev, hg6, hy, hA6, hO6⟩ := y10
        have HT0 : Hid (Tgf W u.heap.size g6 N.nd (fun z => plZ O z.toNat) 0 y.a1 y.a2 y.a3 y.c1 y.c2 y.c3) := by
          rw [← hy]
          exact ⟨hA6, hO6.i, hO6.t, by rw [tkf_zero]; exact hO6.k⟩
        have HB0 : Hid (Below u.heap.size u W) := hG
        clear hF hG hA6 hO6 hy HCp x0 l0 d0 d1 d2 d3
        simp only [fillA, Act.put, List.setIfInBounds_toArray, List.set_cons_zero, List.set_cons_succ, ev]
        generalize V (some 20) = z20
        generalize V (some 21) = z21
        generalize V (some 22) = z22
        generalize V (some 23) = z23
        generalize V (some 24) = z24
        generalize V (some 25) = z25
        generalize V (some 26) = z26
        generalize V (some 27) = z27
        generalize V (some 28) = z28
        clear ev
        obtain ⟨_, b1, e1, b2, e2, b3, e3⟩ := y
        go_wp2_with fail
        go_loopw [7] (fun kv w2 => ∃ k : Nat, kv = .int .i64 k ∧ k ≤ N.nd.kids.length ∧ Hid (Tgf w2 u.heap.size g6 N.nd (fun z => plZ O z.toNat) k b1 b2 b3 e1 e2 e3) ∧ Hid (Below u.heap.size u w2)) (fun kv _ => N.nd.kids.length - (intOf kv).toNat)
        case atStart => exact ⟨0, rfl, by omega, HT0, HB0⟩
        case round =>
          clear HT0 HB0
          obtain ⟨k, rfl, hk, HT, HB2⟩ := hrel
          have y3 : wr.cell? ⟨g6, 3, none⟩ = some (.slice b3 N.nd.kids.length e3) := HT.out.nd.cell 3
          have hg6l := HT.out.nd.lt
          by_cases hkl : k < N.nd.kids.length
          · have hkl' : (k : Int) < N.nd.kids.length := by omega
            obtain ⟨q, rfl, k1, k2, hqB, k3, hT2⟩ := HT.out.next hkl
            obtain ⟨kd, hkd, hkn⟩ : ∃ kd : Nat, N.nd.kids.getD k 0 = (kd : Int) ∧ kd < X.length := by
              have := isPb_iff.1 (Hpb.out k hkl)
              exact ⟨(N.nd.kids.getD k 0).toNat, by omega, by omega⟩
            have hqg : q ≠ g6 := own_ne_atB HT.out.k HT.out.nd (by decide)
            rw [hkd] at k1 hT2
            rw [Int.toNat_natCast] at hT2
            have HFL : Hid (∀ W, Fr (fun b => b = q) wr W → LsAt W (some ⟨bl, ol, none⟩) (nV O)) := fun W hW => by
              have h0 : LsQ (fun b => b < u.heap.size) wr (some ⟨bl, ol, none⟩) (nV O) := by
                obtain ⟨b', o', k1, k2⟩ := LsAt.belowB HO1.out HB.out
                exact ⟨b', o', k1, fun i hi => ⟨⟨(k2 i hi).1, Nat.lt_of_lt_of_le (k2 i hi).1 HB2.out.size⟩, (HB2.out.cell (p := ⟨b', o' + i, none⟩) (k2 i hi).1).trans (k2 i hi).2⟩⟩
              exact (h0.fr hW (fun b hb _ e => by omega)).toAt
            clear HT HX HL2 Hv HK HB hkd
            go_wp2_with fail
            refine facts_region7 (fun W => Fr (fun b => b = q) wr W) (r10F X.length bl ol cl g6 q k kd (plZ O kd) N.nd.kids.length e3 (fun W => Tgf W u.heap.size g6 N.nd (fun z => plZ O z.toNat) (k + 1) b1 b2 (some ⟨q, 0, none⟩) e1 e2 e3)) 11 (r10I q k kd (plZ O kd) (fun W => Tgf W u.heap.size g6 N.nd (fun z => plZ O z.toNat) (k + 1) b1 b2 (some ⟨q, 0, none⟩) e1 e2 e3)) (by kernel_rfl) (by kernel_rfl) (Fr.refl _ _).drew ⟨k1, k2, ⟨k3, hT2.drew⟩⟩ ?loc ?step ?fin
            case loc =>
              intro j' o' V V' W ho hd hk h
              rcases j' with _|_|_|_|_|_|_|_|_|_|_|_|j'
              · obtain rfl := Option.some.inj ho
                have e : V (some 36) = V' (some 36) := hd
                simp only [r10F] at h ⊢
                rw [← e]; exact h
              · obtain rfl := Option.some.inj ho
                have e : V (some 37) = V' (some 37) := hd
                simp only [r10F] at h ⊢
                rw [← e]; exact h
              · obtain rfl := Option.some.inj ho
                have e : V (some 38) = V' (some 38) := hd
                simp only [r10F] at h ⊢
                rw [← e]; exact h
              · obtain rfl := Option.some.inj ho
                have e : V (some 39) = V' (some 39) := hd
                simp only [r10F] at h ⊢
                rw [← e]; exact h
              · obtain rfl := Option.some.inj ho
                have e : V (some 40) = V' (some 40) := hd
                simp only [r10F] at h ⊢
                rw [← e]; exact h
              · obtain rfl := Option.some.inj ho
                have e : V (some 41) = V' (some 41) := hd
                simp only [r10F] at h ⊢
                rw [← e]; exact h
              · obtain rfl := Option.some.inj ho
                have e : V (some 42) = V' (some 42) := hd
                simp only [r10F] at h ⊢
                rw [← e]; exact h
              · obtain rfl := Option.some.inj ho
                have e : V (some 43) = V' (some 43) := hd
                simp only [r10F] at h ⊢
                rw [← e]; exact h
              · obtain rfl := Option.some.inj ho
                have e : V (some 44) = V' (some 44) := hd
                simp only [r10F] at h ⊢
                rw [← e]; exact h
              · obtain rfl := Option.some.inj ho
                have e : V (some 45) = V' (some 45) := hd
                simp only [r10F] at h ⊢
                rw [← e]; exact h
              · obtain rfl := Option.some.inj ho
                have e : V (some 46) = V' (some 46) := hd
                simp only [r10F] at h ⊢
                rw [← e]; exact h
              · obtain rfl := Option.some.inj ho
                exact h
              · exact absurd ho (by simp)
            case step =>
              intro i' o' ho a W hG hoff hdep hI K hQ hK
              rcases i' with _|_|_|_|_|_|_|_|_|_|_|_|i'
              · obtain rfl := Option.some.inj ho
                have t6 : a.tmps[6]?.getD undef = .pointer (some ⟨g6, 0, none⟩) := hoff 6 (by kernel_rfl)
                clear hdep hoff hI
                go_simp
                exact hQ _ (fun _ h1 _ => h1)
              · obtain rfl := Option.some.inj ho
                have e0 : a.tmps[36]?.getD undef = .pointer (some ⟨g6, 3, none⟩) := hdep 0 (by kernel_rfl)
                clear hdep hoff hI
                have y3W : W.cell? ⟨g6, 3, none⟩ = some (.slice (some ⟨q, 0, none⟩) N.nd.kids.length e3) := (World.cell?_of_block (hG.block g6 hg6l (by omega))).trans y3
                go_simp
                exact hQ _ (fun _ h1 _ => h1)
              · obtain rfl := Option.some.inj ho
                have t7 : a.tmps[7]?.getD undef = .int .i64 (k : Int) := hoff 7 (by kernel_rfl)
                clear hdep hoff hI
                go_simp
                exact hQ _ (fun _ h1 _ => h1)
              · obtain rfl := Option.some.inj ho
                have t3 : a.tmps[3]?.getD undef = .slice (some ⟨bl, ol, none⟩) X.length cl := hoff 3 (by kernel_rfl)
                clear hdep hoff hI
                go_simp
                exact hQ _ (fun _ h1 _ => h1)
              · obtain rfl := Option.some.inj ho
                have t6 : a.tmps[6]?.getD undef = .pointer (some ⟨g6, 0, none⟩) := hoff 6 (by kernel_rfl)
                clear hdep hoff hI
                go_simp
                exact hQ _ (fun _ h1 _ => h1)
              · obtain rfl := Option.some.inj ho
                have e4 : a.tmps[40]?.getD undef = .pointer (some ⟨g6, 3, none⟩) := hdep 4 (by kernel_rfl)
                clear hdep hoff hI
                have y3W : W.cell? ⟨g6, 3, none⟩ = some (.slice (some ⟨q, 0, none⟩) N.nd.kids.length e3) := (World.cell?_of_block (hG.block g6 hg6l (by omega))).trans y3
                go_simp
                exact hQ _ (fun _ h1 _ => h1)
              · obtain rfl := Option.some.inj ho
                have t7 : a.tmps[7]?.getD undef = .int .i64 (k : Int) := hoff 7 (by kernel_rfl)
                clear hdep hoff hI
                go_simp
                exact hQ _ (fun _ h1 _ => h1)
              · obtain rfl := Option.some.inj ho
                have e5 : a.tmps[41]?.getD undef = .slice (some ⟨q, 0, none⟩) N.nd.kids.length e3 := hdep 5 (by kernel_rfl)
                have e6 : a.tmps[42]?.getD undef = .int .i64 (k : Int) := hdep 6 (by kernel_rfl)
                clear hdep hoff hI
                go_simp
                exact hQ _ (fun _ h1 _ => h1)
              · obtain rfl := Option.some.inj ho
                have e7 : a.tmps[43]?.getD undef = .pointer (some ⟨q, k, none⟩) := hdep 7 (by kernel_rfl)
                clear hdep hoff
                have kW : W.cell? ⟨q, k, none⟩ = some (.int .i64 (kd : Int)) := (hI (by kernel_rfl)).1
                clear hI
                go_simp
                exact hQ _ (fun _ h1 _ => h1)
              · obtain rfl := Option.some.inj ho
                have e3 : a.tmps[39]?.getD undef = .slice (some ⟨bl, ol, none⟩) X.length cl := hdep 3 (by kernel_rfl)
                have e8 : a.tmps[44]?.getD undef = .int .i64 (kd : Int) := hdep 8 (by kernel_rfl)
                clear hdep hoff hI
                have HC : Hid (Calls Tryd.prog 41 #[.slice (some ⟨bl, ol, none⟩) X.length cl, .int .i64 (kd : Int)] W fun e w' => e = .returned (.int .i64 (plZ O kd)) ∧ w' = W) := by
                  have := find_any O (some ⟨bl, ol, none⟩) cl kd W (HFL.out W hG) (by omega)
                  rw [hol] at this
                  exact this
                clear hG
                go_simp
                refine Calls.mono HC.out ?_
                rintro e w' ⟨rfl, rfl⟩
                exact hQ _ (fun _ h1 _ => h1)
              · obtain rfl := Option.some.inj ho
                have e1 : a.tmps[37]?.getD undef = .slice (some ⟨q, 0, none⟩) N.nd.kids.length e3 := hdep 1 (by kernel_rfl)
                have e2 : a.tmps[38]?.getD undef = .int .i64 (k : Int) := hdep 2 (by kernel_rfl)
                clear hdep hoff hI
                go_simp
                exact hQ _ (fun _ h1 _ => h1)
              · obtain rfl := Option.some.inj ho
                have e9 : a.tmps[45]?.getD undef = .int .i64 (plZ O kd) := hdep 9 (by kernel_rfl)
                have e10 : a.tmps[46]?.getD undef = .pointer (some ⟨q, k, none⟩) := hdep 10 (by kernel_rfl)
                clear hdep hoff
                obtain ⟨kW, kf, hT⟩ := hI (by kernel_rfl)
                have hql := hT.1
                have HT : Hid (Tgf (W.setCell ⟨q, k, none⟩ (.int .i64 (plZ O kd))) u.heap.size g6 N.nd (fun z => plZ O z.toNat) (k + 1) b1 b2 (some ⟨q, 0, none⟩) e1 e2 e3) := hT.2
                have HG : Hid (Fr (fun b => b = q) wr (W.setCell ⟨q, k, none⟩ (.int .i64 (plZ O kd)))) := hG.set ⟨q, k, none⟩ rfl _
                clear hI hG hT
                generalize plZ O kd = pk at *
                go_simp
                exact hK undef _ HG.out (fun h => absurd rfl h) (fun j V hj h => r10F_set hj h) (fun _ _ _ => HT.out)
              · exact absurd ho (by simp)
            case fin =>
              intro V W hG hF
              have HT2 : Hid (Tgf W u.heap.size g6 N.nd (fun z => plZ O z.toNat) (k + 1) b1 b2 (some ⟨q, 0, none⟩) e1 e2 e3) := hF 11 _ rfl
              have HB3 : Hid (Below u.heap.size u W) := Fr.below HB2.out hG (fun b e => by omega) HB2.out.size
              clear hF hG HB2
              simp only [fillA, Act.put, List.setIfInBounds_toArray, List.set_cons_zero, List.set_cons_succ]
              generalize V (some 36) = z36
              generalize V (some 37) = z37
              generalize V (some 38) = z38
              generalize V (some 39) = z39
              generalize V (some 40) = z40
              generalize V (some 41) = z41
              generalize V (some 42) = z42
              generalize V (some 43) = z43
              generalize V (some 44) = z44
              generalize V (some 45) = z45
              generalize V (some 46) = z46
              go_wp2_with fail
              go_roundw
              case rel => exact ⟨k + 1, by go_num, by omega, HT2, HB3⟩
              case measure => simp [intOf]; omega
          · have hkl' : ¬ (k : Int) < N.nd.kids.length := by omega
            obtain rfl : k = N.nd.kids.length := by omega
            have y0 : wr.cell? ⟨g6, 0, none⟩ = some (.int .i64 N.nd.kind) := HT.out.nd.cell 0
            have y1 : wr.cell? ⟨g6, 1, none⟩ = some (.slice b1 N.nd.ints.length e1) := HT.out.nd.cell 1
            have y2 : wr.cell? ⟨g6, 2, none⟩ = some (.slice b2 N.nd.texts.length e2) := HT.out.nd.cell 2
            have HKr : Hid (Mkg wr w1.heap.size w1.heap.size ((X.length : Int) - 1) v Y) := HK.out.below HB2.out
            have x0 : wr.cell? ⟨w1.heap.size, 0, none⟩ = some v := HKr.out.sc.cell 0
            have HO : Hid (OwnNx wr u.heap.size (renNx (fun z => plZ O z.toNat) N.nd b1 b2 b3 e1 e2 e3)) := HT.out.own
            have HBr : Hid (Below w1.heap.size w1 wr) := HB.out.trans (HB2.out.mono HB.out.size)
            have hszr := HB2.out.size
            have HY : Hid ((renNx (fun z => plZ O z.toNat) N.nd b1 b2 b3 e1 e2 e3).nd = renNd (fun z => plZ O z.toNat) N.nd ∧ nxC (renNx (fun z => plZ O z.toNat) N.nd b1 b2 b3 e1 e2 e3) = [.int .i64 N.nd.kind, .slice b1 N.nd.ints.length e1, .slice b2 N.nd.texts.length e2, .slice b3 N.nd.kids.length e3]) := ⟨rfl, renNx_cells _ _ _ _ _ _ _ _⟩
            clear HT HB2 HK HB
            obtain ⟨av, cv, rfl⟩ := own_shape4 HKr.out.row
            generalize renNx (fun z => plZ O z.toNat) N.nd b1 b2 b3 e1 e2 e3 = yn at *
            go_wp2_with (at_builtin; refine wpList_append_lies _ rfl (.tmp 48) (.tmp 50) 22 rfl w1.heap.size 42 i0 (.agg #[.int .i64 0, .slice none 0 0, .slice none 0 0, .slice none 0 0]) 4 80 Tryd.underlying22 hi hz0 hz1 hz2 rfl (by decide) _ Y.length (nxV Y) rfl (HKr.out.row.alloc _) ⟨wr.heap.size, 0, none⟩ 1 1 [.int .i64 N.nd.kind, .slice b1 N.nd.ints.length e1, .slice b2 N.nd.texts.length e2, .slice b3 N.nd.kids.length e3] rfl rfl (fun j z hz => World.news_of_block (AtN.new wr 42 _) j z (by simpa using hz)) (by intro z hz; simp at hz; rcases hz with rfl | rfl | rfl | rfl <;> rfl) (by decide) (by unfold maxLen; omega) (by omega) (by simp; omega) _ rfl ?_)
            intro g2 cap2 w4 hown4 hgrow4 hlie hlt4
            have hAw : AtN 24 w4 w1.heap.size #[.slice av Y.length cv, .int .i64 ((X.length : Int) - 1)] := (HKr.out.sc.alloc _).kept hgrow4 (fun e => Hv.out.1 e.symm)
            have x4 : w4.cell? ⟨w1.heap.size, 0, none⟩ = some (.slice av Y.length cv) := hAw.cell 0
            have f4 := hAw.fz 0
            have hfr : Fr (MkS w1.heap.size (.slice av Y.length cv)) wr (w4.setCell ⟨w1.heap.size, 0, none⟩ (.slice (some ⟨g2, 0, none⟩) (Y.length + 1) cap2)) := (((Fr.refl (MkS w1.heap.size (.slice av Y.length cv)) wr).alloc _).trans (Fr.of_grown hgrow4 (fun q e => .inl e)) (fun i hi _ => hi)).set ⟨w1.heap.size, 0, none⟩ (.inr rfl) _
            have hne : (Value.slice (some ⟨g2, 0, none⟩) (Y.length + 1) cap2).ownBlock ≠ some w1.heap.size := by
              intro q
              simp only [Value.ownBlock, Option.some.injEq] at q
              rcases hlie with p | p
              · rw [q] at p; exact Hv.out.1 p
              · first | omega | (simp at p; omega)
            have hOw : OwnNx w4 u.heap.size yn := OwnNx.kept (OwnNx.kept HO.out (World.grownBy_alloc wr _ none) (by simp)) hgrow4 Hv.out.2.1
            have HK5 : Hid (Mkg (w4.setCell ⟨w1.heap.size, 0, none⟩ (.slice (some ⟨g2, 0, none⟩) (Y.length + 1) cap2)) w1.heap.size w1.heap.size ((X.length : Int) - 1) (.slice (some ⟨g2, 0, none⟩) (Y.length + 1) cap2) (Y ++ [yn])) := by
              refine HKr.out.next hfr (by simpa using AtN.set hAw 0 (.slice (some ⟨g2, 0, none⟩) (Y.length + 1) cap2)) ?_ (OwnNx.mono (hOw.kept (grown_set (grown_refl w4 (some w1.heap.size)) 0 _) (fun k hk => by cases hk; omega)) (by omega))
              rw [HY.out.2]
              exact own_set' hown4 hne _
            have hS : ∀ z, MkS w1.heap.size (.slice av Y.length cv) z → w1.heap.size ≤ z := fun z hz => by
              rcases hz with hz | hz
              · exact Hv.out.2.2 z hz
              · omega
            have HB5 : Hid (Below w1.heap.size w1 (w4.setCell ⟨w1.heap.size, 0, none⟩ (.slice (some ⟨g2, 0, none⟩) (Y.length + 1) cap2))) := Fr.below HBr.out hfr hS (by omega)
            have HX5 := HX.out yn HY.out.1
            have HX6 : Hid (∀ j, j < (Y ++ [yn]).length → ((Y ++ [yn]).getD j noNx).nd = renNd (fun z => plZ O z.toNat) (X.getD (O.getD j 0) noNx).nd) := HX5
            have HL5 : Hid ((Y ++ [yn]).length = i + 1) := HL2.out yn
            clear hown4 hgrow4 hlie hAw hfr hne hOw hS HX5 HX HL2 HKr HO HBr HY Hv y0 y1 y2 y3 x0
            go_wp2_with fail
            go_roundw
            case rel => exact ⟨i + 1, _, Y ++ [yn], by go_num, by omega, HX6, HL5, HK5, HB5⟩
            case measure => simp [intOf]; omega
    · have hlt' : ¬ (i : Int) < X.length := by omega
      obtain ⟨ay, cy, rfl⟩ := own_shape4 HK.out.row
      have y0 : wr.cell? ⟨w1.heap.size, 0, none⟩ = some (.slice ay Y.length cy) := HK.out.sc.cell 0
      have y1 : wr.cell? ⟨w1.heap.size, 1, none⟩ = some (.int .i64 ((X.length : Int) - 1)) := HK.out.sc.cell 1
      have HR2 : Hid (AtN 24 wr (w.heap.size + 1) #[.slice none 0 0, .int .i64 0]) := HR1.out.belowAll HB.out
      have z0 : wr.cell? ⟨w.heap.size + 1, 0, none⟩ = some (.slice none 0 0) := HR2.out.cell 0
      have z1 : wr.cell? ⟨w.heap.size + 1, 1, none⟩ = some (.int .i64 0) := HR2.out.cell 1
      have f0 := HR2.out.fz 0
      have f1 := HR2.out.fz 1
      have hg1 := HR2.out.lt
      have HV : Hid (∀ W, W = (wr.setCell ⟨w.heap.size + 1, 0, none⟩ (.slice ay Y.length cy)).setCell ⟨w.heap.size + 1, 1, none⟩ (.int .i64 ((X.length : Int) - 1)) → RCanOut2 X r w W (.returned (.agg #[.slice ay Y.length cy, .int .i64 ((X.length : Int) - 1)])) ∧ AtN 24 W (w.heap.size + 1) #[.slice ay Y.length cy, .int .i64 ((X.length : Int) - 1)]) := fun W hW => by
        subst hW
        have hfr : Fr (fun z => z = w.heap.size + 1) wr ((wr.setCell ⟨w.heap.size + 1, 0, none⟩ (.slice ay Y.length cy)).setCell ⟨w.heap.size + 1, 1, none⟩ (.int .i64 ((X.length : Int) - 1))) := ((Fr.refl (fun z => z = w.heap.size + 1) wr).set ⟨w.heap.size + 1, 0, none⟩ rfl _).set ⟨w.heap.size + 1, 1, none⟩ rfl _
        have hal : Alien wr (fun z => z = w.heap.size + 1) := fun z hz _ => ⟨_, _, _, hz ▸ HR2.out, by decide, by decide, by decide⟩
        have hrw : ∀ z, (Value.slice ay Y.length cy).ownBlock = some z → ¬ z = w.heap.size + 1 := fun z hz e => own_ne_at HK.out.row HR2.out (by decide) z hz e
        have hl : Y.length = i := HL.out
        have hlc : (cX X r).length = X.length := HcL.out
        refine ⟨⟨Y, ay, cy, rfl, ?_, ⟨own_mono (own_fr HK.out.row hfr hrw) HB1.out.size, fun j hj => ((HK.out.each j hj).fr hfr hal).mono HB1.out.size⟩, Fr.below (HB1.out.trans (HB.out.mono HB1.out.size)) hfr (fun z e => by omega) (by have := HB1.out.size; omega)⟩, ?_⟩
        · refine List.ext_getElem? (fun j => ?_)
          by_cases hj : j < Y.length
          · rw [Hcx.out j (by omega), ← HM.out j hj, List.getElem?_map, List.getElem?_eq_getElem hj, List.getD_eq_getElem?_getD, List.getElem?_eq_getElem hj]
            rfl
          · rw [List.getElem?_eq_none (by rw [List.length_map]; omega), List.getElem?_eq_none (by omega)]
        · have := AtN.set (AtN.set HR2.out 0 (.slice ay Y.length cy)) 1 (.int .i64 ((X.length : Int) - 1))
          simpa using this
      clear HM HL HK HB HS HR2
      go_wp2_with fail
      obtain ⟨v1, v2⟩ := HV.out _ rfl
      have c0 := v2.cell 0
      have c1 := v2.cell 1
      exact bodyPost_ret (v := .agg #[.slice ay Y.length cy, .int .i64 ((X.length : Int) - 1)]) (by simp [results, Tryd.results28, go_sem, c0, c1]) rfl v1

theorem rcanon_any (X : List Nx) (a : Option Addr) (c : Nat) (r : Int) (w : World) (h : ScAt w a X) (hX : Small X) (hR : RightIs X r) :
    Calls Tryd.prog 28 #[.agg #[.slice a X.length c, .int .i64 r]] w fun e w' => RCanOut X r w w' e := by
  refine Calls.mono (rcanon2_any X a c r w h hX hR) ?_
  rintro e w' ⟨Y, a', c', h1, h2, h3, h4⟩
  exact ⟨Y, a', c', h1, h2, ⟨LsAt.of_own4' h3.1, fun j hj => (h3.2 j hj).ndAt⟩, h4⟩

end Go.Proofs.YtcdpjaaiojpelaaDoor
