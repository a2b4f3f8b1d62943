/- The contract of ref11's Apart. -/
import Derived.Test.YtcdpjaaiojpelaaDoorVLaw
import Derived.Test.YtcdpjaaiojpelaaDoorCScp2
import Derived.Test.YtcdpjaaiojpelaaDoorGReg5
namespace Go.Proofs.YtcdpjaaiojpelaaDoor
open Go.RowKit Go.Maps Go.WideMaps Go.Sort

theorem getD_memI {l : List Int} {j : Nat} (h : j < l.length) : l.getD j 0 ∈ l := by rw [List.getD_eq_getElem?_getD, List.getElem?_eq_getElem h]; exact List.getElem_mem h
/-- A scene with a kid made a node of its own. -/
structure Apt (X T : List Nx) (t q k : Nat) : Prop where
  tl : t < X.length
  ql : q < (X.getD t noNx).nd.kids.length
  kk : (X.getD t noNx).nd.kids.getD q 0 = (k : Int)
  kl : k < X.length
  len : T.length = X.length + 1
  oth : ∀ j, j < X.length → j ≠ t → (T.getD j noNx).nd = (X.getD j noNx).nd
  at_ : (T.getD t noNx).nd = ⟨(X.getD t noNx).nd.kind, (X.getD t noNx).nd.ints, (X.getD t noNx).nd.texts, (X.getD t noNx).nd.kids.set q (X.length : Int)⟩
  new : (T.getD X.length noNx).nd = (X.getD k noNx).nd
section
variable {X T : List Nx} {t q k : Nat}
theorem Apt.kid (h : Apt X T t q k) (hok : ∀ i, i < X.length → okAt X i) {j : Nat} (hj : j < T.length) {z : Int} (hz : z ∈ (T.getD j noNx).nd.kids) : (z = (X.length : Int) ∧ j = t) ∨ (0 ≤ z ∧ z.toNat < X.length ∧ z ∈ (X.getD (if j = X.length then k else j) noNx).nd.kids) := by
  rw [h.len] at hj
  by_cases hn : j = X.length
  · subst hn
    rw [h.new] at hz
    have := kid_place hok h.kl hz
    rw [if_pos rfl]
    exact .inr ⟨this.1, this.2, hz⟩
  · rw [if_neg hn]
    by_cases ht : j = t
    · subst ht
      rw [h.at_] at hz
      rcases List.mem_or_eq_of_mem_set hz with hz | hz
      · have := kid_place hok h.tl hz
        exact .inr ⟨this.1, this.2, hz⟩
      · exact .inl ⟨hz, rfl⟩
    · rw [h.oth j (by omega) ht] at hz
      have := kid_place hok (by omega) hz
      exact .inr ⟨this.1, this.2, hz⟩
theorem Apt.ok (h : Apt X T t q k) (hok : ∀ i, i < X.length → okAt X i) : ∀ i, i < T.length → okAt T i := by
  intro i hi j hj
  have hz : (T.getD i noNx).nd.kids.getD j 0 ∈ (T.getD i noNx).nd.kids := getD_memI hj
  rw [isPb_iff, h.len]
  rcases h.kid hok hi hz with ⟨e, _⟩ | ⟨h1, h2, _⟩
  · omega
  · omega
theorem Apt.ed (h : Apt X T t q k) (hok : ∀ i, i < X.length → okAt X i) {a b : Nat} (e : Ed (kX T) a b) : Ed (kX X) (if a = X.length then k else a) (if b = X.length then k else b) := by
  have ha : a < T.length := by have := e.lt; rwa [kX_length] at this
  have hphi : (if a = X.length then k else a) < X.length := by
    have := h.kl
    rw [h.len] at ha
    split <;> omega
  unfold Ed at e ⊢
  rw [kX_at T a ha] at e
  obtain ⟨z, hz, rfl⟩ := List.mem_map.1 e
  rw [kX_at X _ hphi]
  rcases h.kid hok ha hz with ⟨rfl, rfl⟩ | ⟨h1, h2, h3⟩
  · rw [Int.toNat_natCast, if_pos rfl, if_neg (by have := h.tl; omega)]
    refine List.mem_map.2 ⟨(k : Int), ?_, by simp⟩
    rw [← h.kk]
    exact getD_memI h.ql
  · rw [if_neg (show ¬ z.toNat = X.length by omega)]
    exact List.mem_map_of_mem h3
theorem Apt.rt (h : Apt X T t q k) (hok : ∀ i, i < X.length → okAt X i) {a b : Nat} (e : Rt (Ed (kX T)) a b) : Rt (Ed (kX X)) (if a = X.length then k else a) (if b = X.length then k else b) :=
  e (fun x => Rt (Ed (kX X)) (if a = X.length then k else a) (if x = X.length then k else x)) (Rt.refl _ _) (fun _ _ p q => p.tail (h.ed hok q))
theorem Apt.code (h : Apt X T t q k) {r : Int} (hR : RightIs X r) {e z : Int} (hc : CheckIs T r e z) (hne : e ≠ 0) : e = 15 := by
  have hp : isPb T.length r = true := by
    have := isPb_iff.1 hR.1
    rw [isPb_iff, h.len]
    omega
  have hok := h.ok hR.2.1
  have hno : ∀ x, ¬ Lead (Ed (kX T)) x x := by
    rintro x ⟨c, e, r⟩
    exact hR.2.2.1 _ ⟨_, h.ed hR.2.1 e, h.rt hR.2.1 r⟩
  rcases hc with ⟨q, _⟩ | ⟨_, j, hj, _, _, q, _⟩ | ⟨_, _, ⟨j, _, _, q⟩ | ⟨_, ⟨j, q, _⟩ | ⟨q, _⟩⟩⟩
  · rw [hp] at q; cases q
  · exact absurd (hok j hj) q
  · exact absurd q.1 (hno j)
  · exact q
  · exact absurd q hne
theorem Apt.small (h : Apt X T t q k) (hX : Small X) (h60 : X.length ≤ 60) : Small T := by
  refine ⟨by rw [h.len]; omega, fun j hj => ?_⟩
  rw [h.len] at hj
  by_cases hn : j = X.length
  · subst hn
    rw [h.new]
    exact hX.2 k h.kl
  · by_cases ht : j = t
    · subst ht
      have := hX.2 j h.tl
      rw [h.at_]
      unfold great at this ⊢
      simpa using this
    · rw [h.oth j (by omega) ht]
      exact hX.2 j (by omega)
end

/-- A node with other kids, where its lists are. -/
def kidNx (y : Nx) (ks : List Int) : Nx := ⟨⟨y.nd.kind, y.nd.ints, y.nd.texts, ks⟩, y.a1, y.c1, y.a2, y.c2, y.a3, y.c3⟩
theorem nxV_kid : ∀ (T : List Nx) (t : Nat) (ks : List Int), t < T.length → ks.length = (T.getD t noNx).nd.kids.length → nxV (T.set t (kidNx (T.getD t noNx) ks)) = nxV T
  | x :: r, 0, ks, _, h => by
    have h' : ks.length = x.nd.kids.length := by simpa using h
    simp [nxV, nxC, kidNx, h']
  | x :: r, t + 1, ks, hl, h => by
    have := nxV_kid r t ks (by simpa using hl) (by simpa using h)
    simp only [nxV, List.set_cons_succ, List.flatMap_cons, List.getD_cons_succ] at this ⊢
    rw [this]
/-- Behind a store into a node's kids. -/
theorem own_kid {W : World} {B q3 : Nat} {av : Option Addr} {cv : Nat} {T : List Nx} {t q : Nat} (hrow : W.ownsRow B 42 4 (.slice av T.length cv) T.length (nxV T)) (heach : ∀ j, j < T.length → OwnNx W B (T.getD j noNx)) (hap : Aprt T) (ht : t < T.length) (hq : q < (T.getD t noNx).nd.kids.length) (hk : kidB (T.getD t noNx) = some q3) (z : Int) :
    ScAt (W.setCell ⟨q3, q, none⟩ (.int .i64 z)) av (T.set t (kidNx (T.getD t noNx) ((T.getD t noNx).nd.kids.set q z))) := by
  have hkt := (heach t ht).k
  have hfr : Fr (fun b => b = q3) W (W.setCell ⟨q3, q, none⟩ (.int .i64 z)) := (Fr.refl (fun b => b = q3) W).set ⟨q3, q, none⟩ rfl _
  refine ⟨?_, fun j hj => ?_⟩
  · rw [nxV_kid T t _ ht (by simp)]
    exact LsAt.of_own4' (own_fr hrow hfr (fun b hb e => by subst e; exact own_apart9 hrow hkt (by decide) hb hk))
  · rw [List.length_set] at hj
    by_cases e : j = t
    · subst e
      rw [show (T.set j (kidNx (T.getD j noNx) ((T.getD j noNx).nd.kids.set q z))).getD j noNx = kidNx (T.getD j noNx) ((T.getD j noNx).nd.kids.set q z) by rw [List.getD_eq_getElem?_getD, List.getElem?_set, if_pos rfl, if_pos ht]; rfl]
      refine ⟨?_, ?_, ?_⟩
      · exact LsAt.of_own (own_fr (heach j ht).i hfr (fun b hb e => by subst e; exact own_apart9 hkt (heach j ht).i (by decide) hk hb))
      · exact LsAt.of_own (own_fr (heach j ht).t hfr (fun b hb e => by subst e; exact own_apart9 hkt (heach j ht).t (by decide) hk hb))
      · obtain ⟨g, e1, _, _, _, _, h5⟩ := own_store9 hkt q hq
        have hg : g = q3 := by
          unfold kidB at hk
          rw [e1] at hk
          simpa [Value.ownBlock] using hk
        subst hg
        have h6 := h5 (.int .i64 z)
        have h7 : (iV (T.getD j noNx).nd.kids).set q (.int .i64 z) = iV ((T.getD j noNx).nd.kids.set q z) := by unfold iV; rw [List.map_set]
        rw [h7] at h6
        have h8 := LsAt.of_own h6
        rw [← e1] at h8
        exact h8
    · rw [show (T.set t (kidNx (T.getD t noNx) ((T.getD t noNx).nd.kids.set q z))).getD j noNx = T.getD j noNx by rw [List.getD_eq_getElem?_getD, List.getElem?_set, if_neg (fun x => e x.symm), ← List.getD_eq_getElem?_getD]]
      refine ⟨?_, ?_, ?_⟩
      · exact LsAt.of_own (own_fr (heach j hj).i hfr (fun b hb e => by subst e; exact own_apart9 hkt (heach j hj).i (by decide) hk hb))
      · exact LsAt.of_own (own_fr (heach j hj).t hfr (fun b hb e => by subst e; exact own_apart9 hkt (heach j hj).t (by decide) hk hb))
      · exact LsAt.of_own (own_fr (heach j hj).k hfr (fun b hb e' => by subst e'; exact hap.ne ht hj (fun x => e x.symm) hk hb))

/-- The facts of the region that puts the copy behind. -/
def apF (n b o c b0 gt t q k b3 o3 : Nat) (N Nk : Nx) (r : Int) (v : Value) (Y : List Nx) (B B0 : Nat) : Nat → (Option Tmp → Value) → World → Prop
  | 0, V, _ => V (some 47) = .pointer (some ⟨gt, 0, none⟩)
  | 1, V, _ => V (some 48) = v
  | 2, V, _ => V (some 49) = .pointer (some ⟨b0, 0, none⟩)
  | 3, V, _ => V (some 50) = .slice (some ⟨b, o, none⟩) n c
  | 4, V, _ => V (some 51) = .pointer (some ⟨b0, 0, none⟩)
  | 5, V, _ => V (some 52) = .slice (some ⟨b, o, none⟩) n c
  | 6, V, _ => V (some 53) = .int .i64 (t : Int)
  | 7, V, _ => V (some 54) = .pointer (some ⟨b, o + t * 4, none⟩)
  | 8, V, _ => V (some 55) = .pointer (some ⟨b, o + t * 4 + 3, none⟩)
  | 9, V, _ => V (some 56) = .slice (some ⟨b3, o3, none⟩) N.nd.kids.length N.c3
  | 10, V, _ => V (some 57) = .int .i64 (q : Int)
  | 11, V, _ => V (some 58) = .pointer (some ⟨b3, o3 + q, none⟩)
  | 12, V, _ => V (some 59) = .int .i64 (k : Int)
  | 13, V, _ => V (some 60) = .pointer (some ⟨b, o + k * 4, none⟩)
  | 14, V, _ => V (some 61) = .agg #[.int .i64 Nk.nd.kind, .slice Nk.a1 Nk.nd.ints.length Nk.c1, .slice Nk.a2 Nk.nd.texts.length Nk.c2, .slice Nk.a3 Nk.nd.kids.length Nk.c3]
  | 15, V, W => ∃ y : Nx, y.nd = Nk.nd ∧ V (some 62) = .agg (nxC y).toArray ∧ OwnNx W B0 y
  | 16, V, W => ∃ (y : Nx) (g8 : Nat), y.nd = Nk.nd ∧ V (some 63) = .slice (some ⟨g8, 0, none⟩) 1 1 ∧ B0 ≤ g8 ∧ AtN 42 W g8 (nxC y).toArray ∧ OwnNx W B0 y
  | 17, V, W => ∃ y : Nx, y.nd = Nk.nd ∧ W.ownsRow B 42 4 (V (some 64)) (Y.length + 1) (nxV Y ++ nxC y) ∧ (V (some 64)).ownBlock ≠ some gt ∧ OwnNx W B0 y
  | 18, V, _ => V (some 65) = .pointer (some ⟨gt, 0, none⟩)
  | 19, _, W => ∃ (v' : Value) (y : Nx), y.nd = Nk.nd ∧ AtN 24 W gt #[v', .int .i64 r] ∧ W.ownsRow B 42 4 v' (Y.length + 1) (nxV Y ++ nxC y) ∧ OwnNx W B0 y
  | _, _, _ => True
def apC (u : Nat) : Nat := if u = 0 then 17 else 19
def apFI (B gt : Nat) (r : Int) (v : Value) (Y : List Nx) : Nat → World → Prop
  | 0, W => W.ownsRow B 42 4 v Y.length (nxV Y)
  | _, W => AtN 24 W gt #[v, .int .i64 r]
section
variable {B gt : Nat} {r : Int} {v : Value} {Y : List Nx} {W W' : World} {i : Nat}
theorem apFI_drew (h1 : W.ownsRow B 42 4 v Y.length (nxV Y)) (h2 : AtN 24 W gt #[v, .int .i64 r]) : ∀ u, apFI B gt r v Y u W.drew := fun u => by
  match u with
  | 0 => exact h1
  | _ + 1 => exact h2
theorem apFI_below (hb : Below W.heap.size W W') : ∀ u, apC u ≠ i → apFI B gt r v Y u W → apFI B gt r v Y u W' := fun u _ h => by
  match u, h with
  | 0, h => exact own_below h hb (Nat.le_refl _)
  | _ + 1, h => exact AtN.belowAll h hb
theorem apFI_app {n cap g : Nat} (hg : W.grownBy W' (Value.slice (some ⟨g, 0, none⟩) n cap).ownBlock) (hne : g ≠ gt) : ∀ u, apC u ≠ 17 → apFI B gt r v Y u W → apFI B gt r v Y u W' := fun u hu h => by
  match u, h with
  | 0, _ => exact absurd rfl hu
  | _ + 1, h => exact AtN.kept h hg (fun e => by simp only [Value.ownBlock, Option.some.injEq] at e; exact hne e.symm)
theorem apFI_set {x : Value} (hv : v.ownBlock ≠ some gt) : ∀ u, apC u ≠ 19 → apFI B gt r v Y u W → apFI B gt r v Y u (W.setCell ⟨gt, 0, none⟩ x) := fun u hu h => by
  match u, h with
  | 0, h => exact own_set' h hv x
  | k + 1, _ => exact absurd (by simp [apC]) hu
end
def apD (i j : Nat) : Bool := (i == 17 && j == 19)
section
variable {n b o c b0 gt t q k b3 o3 : Nat} {N Nk : Nx} {r : Int} {v : Value} {Y : List Nx} {B B0 : Nat} {W W' : World}
theorem apF_kept (i : Nat) {row : Option Nat} (hg : W.grownBy W' row) (hr : ∀ z, row = some z → z < B0 ∧ z ≠ gt) (hrow : row = none ∨ i = 17) : ∀ j V, i ≠ j → apD i j = false → apF n b o c b0 gt t q k b3 o3 N Nk r v Y B B0 j V W → apF n b o c b0 gt t q k b3 o3 N Nk r v Y B B0 j V W' := by
  intro j V hne hd h
  have ko : ∀ y : Nx, OwnNx W B0 y → OwnNx W' B0 y := fun y hy => hy.kept hg (fun z hz => (hr z hz).1)
  have kr : i ≠ 17 → ∀ {e m u xs}, W.ownsRow B e 4 u m xs → W'.ownsRow B e 4 u m xs := fun hi {e m u xs} ho => by
    rcases hrow with rfl | h17
    · exact ho.kept hg (by cases hb : u.ownBlock with | none => exact .inl rfl | some z => exact .inr (by simp))
    · exact absurd h17 hi
  match j, h with
  | 0, h | 1, h | 2, h | 3, h | 4, h | 5, h | 6, h | 7, h | 8, h | 9, h | 10, h | 11, h | 12, h | 13, h | 14, h | 18, h => exact h
  | 15, h =>
    obtain ⟨y, h1, h2, h3⟩ := h
    exact ⟨y, h1, h2, ko y h3⟩
  | 16, h =>
    obtain ⟨y, g8, h1, h2, h3, h4, h5⟩ := h
    exact ⟨y, g8, h1, h2, h3, h4.kept hg (fun e => by have := (hr g8 e.symm).1; omega), ko y h5⟩
  | 17, h =>
    obtain ⟨y, h1, h2, h3, h4⟩ := h
    exact ⟨y, h1, kr hne h2, h3, ko y h4⟩
  | 19, h =>
    obtain ⟨v', y, h1, h2, h3, h4⟩ := h
    have hi : i ≠ 17 := fun e => by subst e; simp [apD] at hd
    exact ⟨v', y, h1, h2.kept hg (fun e => (hr gt e.symm).2 rfl), kr hi h3, ko y h4⟩
  | z + 20, _ => trivial
theorem apF_set (x : Value) (hgt : gt < B0) : ∀ j V, 19 ≠ j → apF n b o c b0 gt t q k b3 o3 N Nk r v Y B B0 j V W → apF n b o c b0 gt t q k b3 o3 N Nk r v Y B B0 j V (W.setCell ⟨gt, 0, none⟩ x) := by
  intro j V hne h
  have ko : ∀ y : Nx, OwnNx W B0 y → OwnNx (W.setCell ⟨gt, 0, none⟩ x) B0 y := fun y hy => hy.kept (grown_set (grown_refl W (some gt)) 0 x) (fun z hz => by cases hz; exact hgt)
  match j, h with
  | 0, h | 1, h | 2, h | 3, h | 4, h | 5, h | 6, h | 7, h | 8, h | 9, h | 10, h | 11, h | 12, h | 13, h | 14, h | 18, h => exact h
  | 15, h =>
    obtain ⟨y, h1, h2, h3⟩ := h
    exact ⟨y, h1, h2, ko y h3⟩
  | 16, h =>
    obtain ⟨y, g8, h1, h2, h3, h4, h5⟩ := h
    exact ⟨y, g8, h1, h2, h3, h4.setOther _ (by show gt ≠ g8; omega) _, ko y h5⟩
  | 17, h =>
    obtain ⟨y, h1, h2, h3, h4⟩ := h
    exact ⟨y, h1, own_set' h2 h3 x, h3, ko y h4⟩
  | 19, _ => exact absurd rfl hne
  | z + 20, _ => trivial
end

/-- The facts of the region that copies the kid. -/
def p4F (n b o c b0 t q k b3 o3 kl c3 : Nat) (Nk : Nx) (B : Nat) : Nat → (Option Tmp → Value) → World → Prop
  | 0, V, _ => V (some 31) = .pointer (some ⟨b0, 0, none⟩)
  | 1, V, _ => V (some 32) = .slice (some ⟨b, o, none⟩) n c
  | 2, V, _ => V (some 33) = .pointer (some ⟨b0, 0, none⟩)
  | 3, V, _ => V (some 34) = .slice (some ⟨b, o, none⟩) n c
  | 4, V, _ => V (some 35) = .int .i64 (t : Int)
  | 5, V, _ => V (some 36) = .pointer (some ⟨b, o + t * 4, none⟩)
  | 6, V, _ => V (some 37) = .pointer (some ⟨b, o + t * 4 + 3, none⟩)
  | 7, V, _ => V (some 38) = .slice (some ⟨b3, o3, none⟩) kl c3
  | 8, V, _ => V (some 39) = .int .i64 (q : Int)
  | 9, V, _ => V (some 40) = .pointer (some ⟨b3, o3 + q, none⟩)
  | 10, V, _ => V (some 41) = .int .i64 (k : Int)
  | 11, V, _ => V (some 42) = .pointer (some ⟨b, o + k * 4, none⟩)
  | 12, V, _ => V (some 43) = .agg #[.int .i64 Nk.nd.kind, .slice Nk.a1 Nk.nd.ints.length Nk.c1, .slice Nk.a2 Nk.nd.texts.length Nk.c2, .slice Nk.a3 Nk.nd.kids.length Nk.c3]
  | 13, V, W => ∃ y : Nx, y.nd = Nk.nd ∧ V (some 44) = .agg (nxC y).toArray ∧ OwnNx W B y
  | 14, V, W => ∃ g, V (some 8) = .pointer (some ⟨g, 0, none⟩) ∧ B ≤ g ∧ ∃ v0 v1 v2 v3, AtN 42 W g #[v0, v1, v2, v3]
  | 15, V, W => ∃ (g : Nat) (y : Nx), V (some 8) = .pointer (some ⟨g, 0, none⟩) ∧ B ≤ g ∧ y.nd = Nk.nd ∧ AtN 42 W g (nxC y).toArray ∧ OwnNx W B y
  | _, _, _ => True
section
variable {n b o c b0 t q k b3 o3 kl c3 B : Nat} {Nk : Nx} {W W' : World}
theorem p4F_below (hb : Below W.heap.size W W') (s : Nat) : ∀ j V, s ≠ j → p4F n b o c b0 t q k b3 o3 kl c3 Nk B j V W → p4F n b o c b0 t q k b3 o3 kl c3 Nk B j V W' := by
  intro j V _ h
  have key : ∀ y : Nx, OwnNx W B y → OwnNx W' B y := fun y hy => hy.fr (Fr.of_below (S := fun _ => False) hb) (fun _ q => q.elim)
  match j, h with
  | 0, h | 1, h | 2, h | 3, h | 4, h | 5, h | 6, h | 7, h | 8, h | 9, h | 10, h | 11, h | 12, h => exact h
  | 13, h =>
    obtain ⟨y, h1, h2, h3⟩ := h
    exact ⟨y, h1, h2, key y h3⟩
  | 14, h =>
    obtain ⟨g, h1, h2, v0, v1, v2, v3, h3⟩ := h
    exact ⟨g, h1, h2, v0, v1, v2, v3, h3.belowAll hb⟩
  | 15, h =>
    obtain ⟨g, y, h1, h2, h3, h4, h5⟩ := h
    exact ⟨g, y, h1, h2, h3, h4.belowAll hb, key y h5⟩
  | q + 16, _ => trivial
theorem p4F_set {g : Nat} {u0 u1 u2 u3 : Value} (hf : Fr (fun b => b = g) W W') (ha : Alien W (fun b => b = g)) (hA : AtN 42 W' g #[u0, u1, u2, u3]) : ∀ j V, 15 ≠ j → p4F n b o c b0 t q k b3 o3 kl c3 Nk B j V W → p4F n b o c b0 t q k b3 o3 kl c3 Nk B j V W' := by
  intro j V hj h
  match j, h with
  | 0, h | 1, h | 2, h | 3, h | 4, h | 5, h | 6, h | 7, h | 8, h | 9, h | 10, h | 11, h | 12, h => exact h
  | 13, h =>
    obtain ⟨y, h1, h2, h3⟩ := h
    exact ⟨y, h1, h2, h3.fr hf ha⟩
  | 14, h =>
    obtain ⟨g', h1, h2, v0, v1, v2, v3, h3⟩ := h
    by_cases e : g' = g
    · subst e
      exact ⟨g', h1, h2, _, _, _, _, hA⟩
    · exact ⟨g', h1, h2, v0, v1, v2, v3, h3.fr hf e⟩
  | 15, _ => exact absurd rfl hj
  | q + 16, _ => trivial
end
theorem own_zero {W : World} {B gy oy m c : Nat} {e : TypeId} {sz : Nat} {xs : List Value} (h : W.ownsRow B e sz (.slice (some ⟨gy, oy, none⟩) m c) m xs) : oy = 0 := by
  rcases h.2 with ⟨h1, _⟩ | ⟨g, cap, cur, h1, _⟩
  · simp at h1
  · simp only [Value.slice.injEq, Option.some.injEq, Addr.mk.injEq] at h1
    exact h1.1.2.1
/-- A kid of a node is another one. -/
theorem Mkg.kid {W : World} {B go q3 : Nat} {r : Int} {av : Option Addr} {cv : Nat} {Y : List Nx} {t q : Nat} (h : Mkg W B go r (.slice av Y.length cv) Y) (hap : Aprt Y) (ht : t < Y.length) (hq : q < (Y.getD t noNx).nd.kids.length) (hk : kidB (Y.getD t noNx) = some q3) (z : Int) :
    Mkg (W.setCell ⟨q3, q, none⟩ (.int .i64 z)) B go r (.slice av Y.length cv) (Y.set t (kidNx (Y.getD t noNx) ((Y.getD t noNx).nd.kids.set q z))) := by
  have hkt := (h.each t ht).k
  have hfr : Fr (fun b => b = q3) W (W.setCell ⟨q3, q, none⟩ (.int .i64 z)) := (Fr.refl (fun b => b = q3) W).set ⟨q3, q, none⟩ rfl _
  refine ⟨h.sc.fr hfr (fun e => own_ne_at hkt h.sc (by decide) q3 hk e.symm), ?_, fun j hj => ?_⟩
  · rw [List.length_set, nxV_kid Y t _ ht (by simp)]
    exact own_fr h.row hfr (fun b hb e => by subst e; exact own_apart9 h.row hkt (by decide) hb hk)
  · rw [List.length_set] at hj
    by_cases e : j = t
    · subst e
      rw [show (Y.set j (kidNx (Y.getD j noNx) ((Y.getD j noNx).nd.kids.set q z))).getD j noNx = kidNx (Y.getD j noNx) ((Y.getD j noNx).nd.kids.set q z) by rw [List.getD_eq_getElem?_getD, List.getElem?_set, if_pos rfl, if_pos ht]; rfl]
      refine ⟨own_fr (h.each j ht).i hfr (fun b hb e => by subst e; exact own_apart9 hkt (h.each j ht).i (by decide) hk hb), own_fr (h.each j ht).t hfr (fun b hb e => by subst e; exact own_apart9 hkt (h.each j ht).t (by decide) hk hb), ?_⟩
      obtain ⟨g, e1, _, _, _, _, h5⟩ := own_store9 hkt q hq
      have hg : g = q3 := by
        unfold kidB at hk
        rw [e1] at hk
        simpa [Value.ownBlock] using hk
      subst hg
      have h6 := h5 (.int .i64 z)
      have h7 : (iV (Y.getD j noNx).nd.kids).set q (.int .i64 z) = iV ((Y.getD j noNx).nd.kids.set q z) := by unfold iV; rw [List.map_set]
      rw [h7] at h6
      rw [← e1] at h6
      simp only [kidNx, List.length_set]
      exact h6
    · rw [show (Y.set t (kidNx (Y.getD t noNx) ((Y.getD t noNx).nd.kids.set q z))).getD j noNx = Y.getD j noNx by rw [List.getD_eq_getElem?_getD, List.getElem?_set, if_neg (fun x => e x.symm), ← List.getD_eq_getElem?_getD]]
      exact ⟨own_fr (h.each j hj).i hfr (fun b hb e => by subst e; exact own_apart9 hkt (h.each j hj).i (by decide) hk hb), own_fr (h.each j hj).t hfr (fun b hb e => by subst e; exact own_apart9 hkt (h.each j hj).t (by decide) hk hb), own_fr (h.each j hj).k hfr (fun b hb e' => by subst e'; exact hap.ne ht hj (fun x => e x.symm) hk hb)⟩
theorem Mkg.drew {W : World} {B go : Nat} {r : Int} {v : Value} {Y : List Nx} (h : Mkg W B go r v Y) : Mkg W.drew B go r v Y := h.below ⟨rfl, rfl, rfl, Nat.le_refl _, fun _ _ => rfl⟩
/-- The answer is put where it is told from. -/
theorem Mkg.tell {W : World} {B go gr : Nat} {r : Int} {av : Option Addr} {cv : Nat} {Y : List Nx} {x0 x1 : Value} (h : Mkg W B go r (.slice av Y.length cv) Y) (hr : AtN 24 W gr #[x0, x1]) (v0 v1 : Value) : AtN 24 ((W.setCell ⟨gr, 0, none⟩ v0).setCell ⟨gr, 1, none⟩ v1) gr #[v0, v1] ∧ Fr (fun b => b = gr) W ((W.setCell ⟨gr, 0, none⟩ v0).setCell ⟨gr, 1, none⟩ v1) ∧ ScAt ((W.setCell ⟨gr, 0, none⟩ v0).setCell ⟨gr, 1, none⟩ v1) av Y := by
  have hF : Fr (fun b => b = gr) W ((W.setCell ⟨gr, 0, none⟩ v0).setCell ⟨gr, 1, none⟩ v1) := ((Fr.refl (fun b => b = gr) W).set ⟨gr, 0, none⟩ rfl v0).set ⟨gr, 1, none⟩ rfl v1
  have hal : Alien W (fun b => b = gr) := fun b hb _ => ⟨_, _, _, hb ▸ hr, by decide, by decide, by decide⟩
  exact ⟨by simpa using (hr.set 0 v0).set 1 v1, hF, LsAt.of_own4' (own_fr h.row hF (fun b hb e => own_ne_at h.row hr (by decide) b hb e)), fun j hj => ((h.each j hj).fr hF hal).ndAt⟩

/-- What Apart tells. -/
def ApOut (X : List Nx) (r : Int) (w w' : World) (e : Ending) : Prop := ∃ T a c, e = .returned (.agg #[.slice a (List.length T) c, .int .i64 r]) ∧ ScAt w' a T ∧ (T.map Nx.nd = X.map Nx.nd ∨ ∃ t q k, Apt X T t q k) ∧ Below w.heap.size w w'

set_option maxRecDepth 100000 in
set_option maxHeartbeats 8000000 in
theorem rapart_any (X : List Nx) (a : Option Addr) (c : Nat) (r t0 q0 : Int) (w : World) (h : ScAt w a X) (hX : Small X) (hok : ∀ i, i < X.length → okAt X i) :
    Calls Tryd.prog 21 #[.agg #[.slice a X.length c, .int .i64 r], .int .i64 t0, .int .i64 q0] w fun e w' => ApOut X r w w' e := by
  obtain ⟨i0, hi0, hz0, hz1, hz2⟩ := info_parts Tryd.infoD9
  have hn := hX.1
  have HC : Hid (∀ o1 o2 : Obj, o1 = .cells #[.slice a X.length c, .int .i64 r] 24 → o2 = .cells #[.slice none 0 0, .int .i64 0] 24 → AtN 24 ((w.alloc o1).alloc o2) w.heap.size #[.slice a X.length c, .int .i64 r] ∧ AtN 24 ((w.alloc o1).alloc o2) (w.heap.size + 1) #[.slice none 0 0, .int .i64 0] ∧ Below w.heap.size w ((w.alloc o1).alloc o2) ∧ ((w.alloc o1).alloc o2).heap.size = w.heap.size + 2 ∧ Calls Tryd.prog 11 #[.agg #[.slice a X.length c, .int .i64 r]] ((w.alloc o1).alloc o2) fun e w' => SCopyOut2 X r ((w.alloc o1).alloc o2) w' e) := by
    rintro _ _ rfl rfl
    exact ⟨(AtN.new w 24 _).alloc _, mk_at (AtN.new (w.alloc _) 24 _) (show _ = w.heap.size + 1 by simp), ((Below.refl w.heap.size w).alloc (Nat.le_refl _) _).alloc (by simp) _, by simp, scopy2_any X a c r _ ((h.alloc _).alloc _) hX⟩
  have HS : Hid (ScAt w a X ∧ Small X ∧ ∀ i, i < X.length → okAt X i) := ⟨h, hX, hok⟩
  clear h hX hok
  go_enter Tryd.func21, Tryd.ntmps21
  go_wp2_with fail
  obtain ⟨h1, h2, h3, h4, h5⟩ := HC.out _ _ rfl rfl
  refine Calls.mono h5 ?_
  rintro e w1 ⟨Y, ay, cy, rfl, hY, hrow, heach, hap, hb1⟩
  rw [h4] at hrow heach
  have hYl : Y.length = X.length := same_len hY
  have hnY : Y.length ≤ 61 := by omega
  have HYX : Hid (Y.map Nx.nd = X.map Nx.nd ∧ Aprt Y ∧ Y.length = X.length) := ⟨hY, hap, hYl⟩
  have HW2 : Hid (∀ o : Obj, o = .cells #[.slice ay Y.length cy, .int .i64 r] 24 → AtN 24 (w1.alloc o) w.heap.size #[.slice a X.length c, .int .i64 r] ∧ AtN 24 (w1.alloc o) (w.heap.size + 1) #[.slice none 0 0, .int .i64 0] ∧ Mkg (w1.alloc o) (w.heap.size + 2) w1.heap.size r (.slice ay Y.length cy) Y ∧ Below w.heap.size w (w1.alloc o)) := by
    rintro _ rfl
    have hbw := h3.trans (hb1.mono h3.size)
    exact ⟨(h1.belowAll hb1).alloc _, (h2.belowAll hb1).alloc _, ⟨AtN.new w1 24 _, hrow.alloc _, fun j hj => OwnNd.belowB (heach j hj) ((Below.refl w1.heap.size w1).alloc (Nat.le_refl _) _)⟩, hbw.alloc hbw.size _⟩
  have x00 := (h1.belowAll hb1).cell 0
  have x0 : w1.cell? ⟨w.heap.size, 0, none⟩ = some (.slice a X.length c) := x00
  have x1 : w1.cell? ⟨w.heap.size, 1, none⟩ = some (.int .i64 r) := (h1.belowAll hb1).cell 1
  have hx0 := (h1.belowAll hb1).lt
  have hgo : w.heap.size + 2 ≤ w1.heap.size := by have := hb1.size; rw [h4] at this; exact this
  clear HC h1 h2 h3 h4 h5 hb1 hY hrow heach hap hYl x00
  have HPl : Hid (∀ W, Calls Tryd.prog 31 #[.agg #[.slice a X.length c, .int .i64 r], .int .i64 t0] W fun e w' => e = .returned (.bool (isPb X.length t0)) ∧ Below W.heap.size W w') := fun W => place_any a X.length c r t0 W
  go_wp2_with fail
  refine Calls.mono (HPl.out _) ?_
  rintro e w3 ⟨rfl, hb3⟩
  obtain ⟨m1, m2, m3, m4⟩ := HW2.out _ rfl
  have HMk0 : Hid (AtN 24 w3 w.heap.size #[.slice a X.length c, .int .i64 r] ∧ AtN 24 w3 (w.heap.size + 1) #[.slice none 0 0, .int .i64 0] ∧ Mkg w3 (w.heap.size + 2) w1.heap.size r (.slice ay Y.length cy) Y ∧ Below w.heap.size w w3) := ⟨m1.belowAll hb3, m2.belowAll hb3, m3.below hb3, m4.trans (hb3.mono m4.size)⟩
  clear HW2 HPl m1 m2 m3 m4 hb3 x0 x1 hx0
  have HRc : Hid (w3.cell? ⟨w.heap.size + 1, 0, none⟩ = some (.slice none 0 0) ∧ w3.cell? ⟨w.heap.size + 1, 1, none⟩ = some (.int .i64 0) ∧ w3.frozen? ⟨w.heap.size + 1, 0, none⟩ = false ∧ w3.frozen? ⟨w.heap.size + 1, 1, none⟩ = false ∧ w.heap.size + 1 < w3.heap.size ∧ w3.cell? ⟨w1.heap.size, 0, none⟩ = some (.slice ay Y.length cy) ∧ w3.cell? ⟨w1.heap.size, 1, none⟩ = some (.int .i64 r) ∧ ∀ v0 v1, AtN 24 ((w3.setCell ⟨w.heap.size + 1, 0, none⟩ v0).setCell ⟨w.heap.size + 1, 1, none⟩ v1) (w.heap.size + 1) #[v0, v1] ∧ ApOut X r w ((w3.setCell ⟨w.heap.size + 1, 0, none⟩ v0).setCell ⟨w.heap.size + 1, 1, none⟩ v1) (.returned (.agg #[.slice ay Y.length cy, .int .i64 r]))) := by
    refine ⟨HMk0.out.2.1.cell 0, HMk0.out.2.1.cell 1, HMk0.out.2.1.fz 0, HMk0.out.2.1.fz 1, HMk0.out.2.1.lt, HMk0.out.2.2.1.sc.cell 0, HMk0.out.2.2.1.sc.cell 1, fun v0 v1 => ?_⟩
    obtain ⟨g1, g2, g3⟩ := HMk0.out.2.2.1.tell HMk0.out.2.1 v0 v1
    exact ⟨g1, Y, ay, cy, rfl, g3, .inl HYX.out.1, Fr.below HMk0.out.2.2.2 g2 (fun b e => by omega) HMk0.out.2.2.2.size⟩
  have xs0 : w3.cell? ⟨w.heap.size, 0, none⟩ = some (.slice a X.length c) := HMk0.out.1.cell 0
  have hxs := HMk0.out.1.lt
  by_cases hpl : isPb X.length t0 = true
  · obtain ⟨t, rfl, htl⟩ : ∃ t : Nat, t0 = (t : Int) ∧ t < X.length := by
      have := isPb_iff.1 hpl
      exact ⟨t0.toNat, by omega, by omega⟩
    rw [hpl]
    clear hpl
    by_cases hq0 : q0 < 0
    · clear HYX
      have HRes : Hid _ := HRc.out
      clear HRc HMk0 HS
      obtain ⟨ha0, ha1, haf0, haf1, hal, y0, y1, hf⟩ := HRes.out
      have HRes' : Hid _ := hf
      clear HRes hf
      go_wp2_with fail
      obtain ⟨hAA, hR⟩ := HRes'.out (.slice ay Y.length cy) (.int .i64 r)
      have k0 := hAA.cell 0
      have k1 := hAA.cell 1
      exact bodyPost_ret (v := .agg #[.slice ay Y.length cy, .int .i64 r]) (by simp [results, Tryd.results21, go_sem, k0, k1]) rfl hR
    · obtain ⟨q, rfl⟩ : ∃ q : Nat, q0 = (q : Int) := ⟨q0.toNat, by omega⟩
      have htl' : (t : Int) < X.length := by omega
      obtain ⟨b, o, rfl, hbl, d0, d1, d2, d3⟩ := (HS.out.1.belowB HMk0.out.2.2.2).node htl
      by_cases hql : q < (X.getD t noNx).nd.kids.length
      · have hql' : ¬ ((X.getD t noNx).nd.kids.length : Int) ≤ q := by omega
        have hql2 : (q : Int) < (X.getD t noNx).nd.kids.length := by omega
        obtain ⟨k, hk, hkl⟩ : ∃ k : Nat, (X.getD t noNx).nd.kids.getD q 0 = (k : Int) ∧ k < X.length := by
          have := isPb_iff.1 (HS.out.2.2 t htl q hql)
          exact ⟨((X.getD t noNx).nd.kids.getD q 0).toNat, by omega, by omega⟩
        have hkl' : (k : Int) < X.length := by omega
        obtain ⟨b', o', hbo, _, f0, f1, f2, f3⟩ := (HS.out.1.belowB HMk0.out.2.2.2).node hkl
        simp only [Option.some.injEq, Addr.mk.injEq, and_true] at hbo
        obtain ⟨rfl, rfl⟩ := hbo
        obtain ⟨b3, o3, hb3e, hb3, k0⟩ := ((HS.out.1.belowB HMk0.out.2.2.2).each t htl).k.at (iV_at (X.getD t noNx).nd.kids q hql)
        rw [hk] at k0
        rw [hb3e] at d3
        have hYnd : (Y.getD t noNx).nd = (X.getD t noNx).nd := same_nd HYX.out.1 t
        have htY : t < Y.length := by have := HYX.out.2.2; omega
        have hqY : q < (Y.getD t noNx).nd.kids.length := by rw [hYnd]; exact hql
        have HMk : Hid (∀ W, Below w3.heap.size w3 W → ∃ q3, (Y.getD t noNx).a3 = some ⟨q3, 0, none⟩ ∧ Mkg W (w.heap.size + 2) w1.heap.size r (.slice ay Y.length cy) Y ∧ (W.cell? ⟨q3, q, none⟩ = some (.int .i64 (k : Int)) ∧ W.frozen? ⟨q3, q, none⟩ = false ∧ q3 < W.heap.size) ∧ q3 < w3.heap.size ∧ w.heap.size + 2 ≤ q3 ∧ Mkg ((W.setCell ⟨q3, q, none⟩ (.int .i64 (Y.length : Int))).drew) (w.heap.size + 2) w1.heap.size r (.slice ay Y.length cy) (Y.set t (kidNx (Y.getD t noNx) ((Y.getD t noNx).nd.kids.set q (Y.length : Int))))) := fun W hW => by
          have hm := HMk0.out.2.2.1.below hW
          obtain ⟨q3, e1, e2, e3, e4, e5, _⟩ := own_store9 (hm.each t htY).k q hqY
          rw [iV_at _ q hqY, hYnd, hk] at e2
          have hkb : kidB (Y.getD t noNx) = some q3 := by unfold kidB; rw [e1]; rfl
          exact ⟨q3, e1, hm, ⟨e2, e3, e5⟩, ((HMk0.out.2.2.1.each t htY).k.lt q3 hkb).2, e4, (hm.kid HYX.out.2.1 htY hqY hkb _).drew⟩
        have HHd : Hid (∀ W, Below w3.heap.size w3 W → ∃ gy oy, ay = some ⟨gy, oy, none⟩ ∧ W.cell? ⟨gy, oy + t * 4 + 3, none⟩ = some (.slice (Y.getD t noNx).a3 (X.getD t noNx).nd.kids.length (Y.getD t noNx).c3) ∧ gy < W.heap.size) := fun W hW => by
          obtain ⟨gy, oy, e1, e2, _, _, _, e6⟩ := ((HMk0.out.2.2.1.below hW).scAt).node htY
          rw [hYnd] at e6
          exact ⟨gy, oy, e1, e6, e2⟩
        have HRz : Hid (∀ (W w5 w7 : World) (g6 c6 : Nat) (y : Nx) (q3 gy oy : Nat), Below w3.heap.size w3 W → w.heap.size + 2 ≤ q3 → Fr (fun b => b = q3) W w5 → Mkg w7 (w.heap.size + 2) w1.heap.size r (.slice (some ⟨g6, 0, none⟩) (Y.length + 1) c6) (Y.set t (kidNx (Y.getD t noNx) ((Y.getD t noNx).nd.kids.set q (Y.length : Int))) ++ [y]) → Fr (MkS w1.heap.size (.slice (some ⟨gy, oy, none⟩) Y.length cy)) w5 w7 → y.nd = (X.getD k noNx).nd → (∀ b, (Value.slice (some ⟨gy, oy, none⟩) Y.length cy).ownBlock = some b → w.heap.size + 2 ≤ b) →
            w7.cell? ⟨w.heap.size + 1, 0, none⟩ = some (.slice none 0 0) ∧ w7.cell? ⟨w.heap.size + 1, 1, none⟩ = some (.int .i64 0) ∧ w7.frozen? ⟨w.heap.size + 1, 0, none⟩ = false ∧ w7.frozen? ⟨w.heap.size + 1, 1, none⟩ = false ∧ w.heap.size + 1 < w7.heap.size ∧ ∀ v0 v1, AtN 24 ((w7.setCell ⟨w.heap.size + 1, 0, none⟩ v0).setCell ⟨w.heap.size + 1, 1, none⟩ v1) (w.heap.size + 1) #[v0, v1] ∧ ApOut X r w ((w7.setCell ⟨w.heap.size + 1, 0, none⟩ v0).setCell ⟨w.heap.size + 1, 1, none⟩ v1) (.returned (.agg #[.slice (some ⟨g6, 0, none⟩) (Y.length + 1) c6, .int .i64 r]))) := fun W w5 w7 g6 c6 y q3 gy oy hW hq3 hF5 hM hF7 hy hv => by
          have hbW := HMk0.out.2.2.2.trans (hW.mono HMk0.out.2.2.2.size)
          have hb5 : Below w.heap.size w w5 := Fr.below hbW hF5 (fun b e => by omega) hbW.size
          have hb7 : Below w.heap.size w w7 := Fr.below hb5 hF7 (fun b e => by rcases e with e | e; (have := hv b e; omega); omega) hb5.size
          have hr7 : AtN 24 w7 (w.heap.size + 1) #[.slice none 0 0, .int .i64 0] := ((HMk0.out.2.1.belowAll hW).fr hF5 (by omega)).fr hF7 (fun e => by rcases e with e | e; (have := hv _ e; omega); omega)
          have hTl : (Y.set t (kidNx (Y.getD t noNx) ((Y.getD t noNx).nd.kids.set q (Y.length : Int))) ++ [y]).length = Y.length + 1 := by simp
          refine ⟨hr7.cell 0, hr7.cell 1, hr7.fz 0, hr7.fz 1, hr7.lt, fun v0 v1 => ?_⟩
          rw [← hTl] at hM ⊢
          obtain ⟨g1, g2, g3⟩ := hM.tell hr7 v0 v1
          refine ⟨g1, _, _, _, rfl, g3, .inr ⟨t, q, k, htl, hql, hk, hkl, ?_, fun j hj hne => ?_, ?_, ?_⟩, Fr.below hb7 g2 (fun b e => by omega) hb7.size⟩
          · rw [hTl, HYX.out.2.2]
          · rw [getD_snocN _ y j (by rw [List.length_set, HYX.out.2.2]; exact hj), List.getD_eq_getElem?_getD, List.getElem?_set, if_neg (fun x => hne x.symm), ← List.getD_eq_getElem?_getD]
            exact same_nd HYX.out.1 j
          · rw [getD_snocN _ y t (by rw [List.length_set]; exact htY), List.getD_eq_getElem?_getD, List.getElem?_set, if_pos rfl, if_pos htY]
            show (kidNx (Y.getD t noNx) ((Y.getD t noNx).nd.kids.set q (Y.length : Int))).nd = _
            simp only [kidNx]
            rw [hYnd, HYX.out.2.2]
          · have : (Y.set t (kidNx (Y.getD t noNx) ((Y.getD t noNx).nd.kids.set q (Y.length : Int))) ++ [y]).getD X.length noNx = y := by
              rw [show X.length = (Y.set t (kidNx (Y.getD t noNx) ((Y.getD t noNx).nd.kids.set q (Y.length : Int)))).length by rw [List.length_set, HYX.out.2.2]]
              simp
            rw [this, hy]
        have HCp : Hid (∀ W, Below w3.heap.size w3 W → Calls Tryd.prog 27 #[.agg #[.int .i64 (X.getD k noNx).nd.kind, .slice (X.getD k noNx).a1 (X.getD k noNx).nd.ints.length (X.getD k noNx).c1, .slice (X.getD k noNx).a2 (X.getD k noNx).nd.texts.length (X.getD k noNx).c2, .slice (X.getD k noNx).a3 (X.getD k noNx).nd.kids.length (X.getD k noNx).c3]] W fun e w' => NdOut W w' e (X.getD k noNx).nd) := fun W hW => by
          have hg := great_no (HS.out.2.1.2 k hkl)
          exact rcopy_any (X.getD k noNx).nd (X.getD k noNx).a1 (X.getD k noNx).a2 (X.getD k noNx).a3 (X.getD k noNx).c1 (X.getD k noNx).c2 (X.getD k noNx).c3 W ((HS.out.1.belowB (HMk0.out.2.2.2.trans (hW.mono HMk0.out.2.2.2.size))).each k hkl) hg.1 hg.2.1 hg.2.2.1
        have htY' : (t : Int) < Y.length := by omega
        have x0 : w3.cell? ⟨w.heap.size, 0, none⟩ = some (.slice (some ⟨b, o, none⟩) X.length c) := xs0
        have hx0 := hxs
        clear xs0 hxs HRc HYX hYnd hqY HMk0 HS hk hb3e d0 d1 d2 hq0
        generalize (X.getD t noNx).nd.kids.length = kl at *
        generalize (X.getD t noNx).c3 = c3 at *
        generalize X.getD k noNx = Nk at *
        have hqd : decide ((q : Int) < 0) = false := by simp
        have hld : decide (kl ≤ q) = false := by simp; omega
        go_wp2_with fail
        clear hqd hld
        refine facts_region7 (fun W => Below w3.heap.size w3 W) (p4F X.length b o c w.heap.size t q k b3 o3 kl c3 Nk w3.heap.size) 99 (fun _ => True) (by kernel_rfl) (by kernel_rfl) (Below.refl _ _).drew trivial ?loc ?step ?fin
        case loc =>
          intro j' o' V V' W ho hd hk h
          rcases j' with _|_|_|_|_|_|_|_|_|_|_|_|_|_|_|_|j'
          · obtain rfl := Option.some.inj ho
            have e : V (some 31) = V' (some 31) := hd
            simp only [p4F] at h ⊢
            rw [← e]; exact h
          · obtain rfl := Option.some.inj ho
            have e : V (some 32) = V' (some 32) := hd
            simp only [p4F] at h ⊢
            rw [← e]; exact h
          · obtain rfl := Option.some.inj ho
            have e : V (some 33) = V' (some 33) := hd
            simp only [p4F] at h ⊢
            rw [← e]; exact h
          · obtain rfl := Option.some.inj ho
            have e : V (some 34) = V' (some 34) := hd
            simp only [p4F] at h ⊢
            rw [← e]; exact h
          · obtain rfl := Option.some.inj ho
            have e : V (some 35) = V' (some 35) := hd
            simp only [p4F] at h ⊢
            rw [← e]; exact h
          · obtain rfl := Option.some.inj ho
            have e : V (some 36) = V' (some 36) := hd
            simp only [p4F] at h ⊢
            rw [← e]; exact h
          · obtain rfl := Option.some.inj ho
            have e : V (some 37) = V' (some 37) := hd
            simp only [p4F] at h ⊢
            rw [← e]; exact h
          · obtain rfl := Option.some.inj ho
            have e : V (some 38) = V' (some 38) := hd
            simp only [p4F] at h ⊢
            rw [← e]; exact h
          · obtain rfl := Option.some.inj ho
            have e : V (some 39) = V' (some 39) := hd
            simp only [p4F] at h ⊢
            rw [← e]; exact h
          · obtain rfl := Option.some.inj ho
            have e : V (some 40) = V' (some 40) := hd
            simp only [p4F] at h ⊢
            rw [← e]; exact h
          · obtain rfl := Option.some.inj ho
            have e : V (some 41) = V' (some 41) := hd
            simp only [p4F] at h ⊢
            rw [← e]; exact h
          · obtain rfl := Option.some.inj ho
            have e : V (some 42) = V' (some 42) := hd
            simp only [p4F] at h ⊢
            rw [← e]; exact h
          · obtain rfl := Option.some.inj ho
            have e : V (some 43) = V' (some 43) := hd
            simp only [p4F] at h ⊢
            rw [← e]; exact h
          · obtain rfl := Option.some.inj ho
            have e : V (some 44) = V' (some 44) := hd
            simp only [p4F] at h ⊢
            rw [← e]; exact h
          · obtain rfl := Option.some.inj ho
            have e : V (some 8) = V' (some 8) := hd
            simp only [p4F] at h ⊢
            rw [← e]; exact h
          · obtain rfl := Option.some.inj ho
            obtain ⟨g, y, h1, h2⟩ := h
            exact ⟨g, y, (hk 14 _ (by kernel_rfl) rfl).symm.trans h1, h2⟩
          · exact absurd ho (by simp)
        case step =>
          intro i' o' ho a W hG hoff hdep hI K hQ hK
          rcases i' with _|_|_|_|_|_|_|_|_|_|_|_|_|_|_|_|i'
          · obtain rfl := Option.some.inj ho
            have t3 : a.tmps[3]?.getD undef = .pointer (some ⟨w.heap.size, 0, none⟩) := hoff 3 (by kernel_rfl)
            clear hdep hoff hI
            go_simp
            exact hQ _ (fun _ h1 _ => h1)
          · obtain rfl := Option.some.inj ho
            have e0 : a.tmps[31]?.getD undef = .pointer (some ⟨w.heap.size, 0, none⟩) := hdep 0 (by kernel_rfl)
            clear hdep hoff hI
            have x0W := (hG.cell (p := ⟨w.heap.size, 0, none⟩) hx0).trans x0
            go_simp
            exact hQ _ (fun _ h1 _ => h1)
          · obtain rfl := Option.some.inj ho
            have t3 : a.tmps[3]?.getD undef = .pointer (some ⟨w.heap.size, 0, none⟩) := hoff 3 (by kernel_rfl)
            clear hdep hoff hI
            go_simp
            exact hQ _ (fun _ h1 _ => h1)
          · obtain rfl := Option.some.inj ho
            have e2 : a.tmps[33]?.getD undef = .pointer (some ⟨w.heap.size, 0, none⟩) := hdep 2 (by kernel_rfl)
            clear hdep hoff hI
            have x0W := (hG.cell (p := ⟨w.heap.size, 0, none⟩) hx0).trans x0
            go_simp
            exact hQ _ (fun _ h1 _ => h1)
          · obtain rfl := Option.some.inj ho
            have t1 : a.tmps[1]?.getD undef = .int .i64 (t : Int) := hoff 1 (by kernel_rfl)
            clear hdep hoff hI
            go_simp
            exact hQ _ (fun _ h1 _ => h1)
          · obtain rfl := Option.some.inj ho
            have e3 : a.tmps[34]?.getD undef = .slice (some ⟨b, o, none⟩) X.length c := hdep 3 (by kernel_rfl)
            have e4 : a.tmps[35]?.getD undef = .int .i64 (t : Int) := hdep 4 (by kernel_rfl)
            clear hdep hoff hI
            go_simp
            exact hQ _ (fun _ h1 _ => h1)
          · obtain rfl := Option.some.inj ho
            have e5 : a.tmps[36]?.getD undef = .pointer (some ⟨b, o + t * 4, none⟩) := hdep 5 (by kernel_rfl)
            clear hdep hoff hI
            go_simp
            exact hQ _ (fun _ h1 _ => h1)
          · obtain rfl := Option.some.inj ho
            have e6 : a.tmps[37]?.getD undef = .pointer (some ⟨b, o + t * 4 + 3, none⟩) := hdep 6 (by kernel_rfl)
            clear hdep hoff hI
            have d3W := (hG.cell (p := ⟨b, o + t * 4 + 3, none⟩) hbl).trans d3
            go_simp
            exact hQ _ (fun _ h1 _ => h1)
          · obtain rfl := Option.some.inj ho
            have t2 : a.tmps[2]?.getD undef = .int .i64 (q : Int) := hoff 2 (by kernel_rfl)
            clear hdep hoff hI
            go_simp
            exact hQ _ (fun _ h1 _ => h1)
          · obtain rfl := Option.some.inj ho
            have e7 : a.tmps[38]?.getD undef = .slice (some ⟨b3, o3, none⟩) kl c3 := hdep 7 (by kernel_rfl)
            have e8 : a.tmps[39]?.getD undef = .int .i64 (q : Int) := hdep 8 (by kernel_rfl)
            clear hdep hoff hI
            go_simp
            exact hQ _ (fun _ h1 _ => h1)
          · obtain rfl := Option.some.inj ho
            have e9 : a.tmps[40]?.getD undef = .pointer (some ⟨b3, o3 + q, none⟩) := hdep 9 (by kernel_rfl)
            clear hdep hoff hI
            have k0W := (hG.cell (p := ⟨b3, o3 + q, none⟩) hb3).trans k0
            go_simp
            exact hQ _ (fun _ h1 _ => h1)
          · obtain rfl := Option.some.inj ho
            have e1 : a.tmps[32]?.getD undef = .slice (some ⟨b, o, none⟩) X.length c := hdep 1 (by kernel_rfl)
            have e10 : a.tmps[41]?.getD undef = .int .i64 (k : Int) := hdep 10 (by kernel_rfl)
            clear hdep hoff hI
            go_simp
            exact hQ _ (fun _ h1 _ => h1)
          · obtain rfl := Option.some.inj ho
            have e11 : a.tmps[42]?.getD undef = .pointer (some ⟨b, o + k * 4, none⟩) := hdep 11 (by kernel_rfl)
            clear hdep hoff hI
            have f0W := (hG.cell (p := ⟨b, o + k * 4, none⟩) hbl).trans f0
            have f1W := (hG.cell (p := ⟨b, o + k * 4 + 1, none⟩) hbl).trans f1
            have f2W := (hG.cell (p := ⟨b, o + k * 4 + 2, none⟩) hbl).trans f2
            have f3W := (hG.cell (p := ⟨b, o + k * 4 + 3, none⟩) hbl).trans f3
            go_simp
            exact hQ _ (fun _ h1 _ => h1)
          · obtain rfl := Option.some.inj ho
            have e12 : a.tmps[43]?.getD undef = .agg #[.int .i64 Nk.nd.kind, .slice Nk.a1 Nk.nd.ints.length Nk.c1, .slice Nk.a2 Nk.nd.texts.length Nk.c2, .slice Nk.a3 Nk.nd.kids.length Nk.c3] := hdep 12 (by kernel_rfl)
            clear hdep hoff hI
            have HC : Hid _ := HCp.out W hG
            have HG : Hid (Below w3.heap.size w3 W) := hG
            clear hG
            go_simp
            refine Calls.mono HC.out ?_
            rintro e w' ⟨a1, c1, a2, c2, a3, c3, rfl, hO, hb⟩
            exact hK _ _ (HG.out.trans (hb.mono HG.out.size)) (fun _ q => q) (p4F_below hb 13) (fun V' h1 _ => ⟨⟨Nk.nd, a1, c1, a2, c2, a3, c3⟩, rfl, h1, OwnNd.mono hO HG.out.size⟩)
          · obtain rfl := Option.some.inj ho
            clear hdep hoff hI
            have HG : Hid (Below w3.heap.size w3 W) := hG
            clear hG
            go_simp
            exact hK _ _ (HG.out.alloc HG.out.size _) (fun _ q => q) (p4F_below ((Below.refl W.heap.size W).alloc (Nat.le_refl _) _) 14) (fun V' h1 _ => ⟨W.heap.size, h1, HG.out.size, _, _, _, _, AtN.new W 42 _⟩)
          · obtain rfl := Option.some.inj ho
            have e13 : ∃ y : Nx, y.nd = Nk.nd ∧ a.tmps[44]?.getD undef = .agg (nxC y).toArray ∧ OwnNx W w3.heap.size y := hdep 13 (by kernel_rfl)
            have e14 : ∃ g, a.tmps[8]?.getD undef = .pointer (some ⟨g, 0, none⟩) ∧ w3.heap.size ≤ g ∧ ∃ v0 v1 v2 v3, AtN 42 W g #[v0, v1, v2, v3] := hdep 14 (by kernel_rfl)
            clear hdep hoff hI
            obtain ⟨y, hy, ey, hO⟩ := e13
            have ey' : a.tmps[44]?.getD undef = .agg #[.int .i64 y.nd.kind, .slice y.a1 y.nd.ints.length y.c1, .slice y.a2 y.nd.texts.length y.c2, .slice y.a3 y.nd.kids.length y.c3] := ey
            obtain ⟨g, eg, hg, v0, v1, v2, v3, hA⟩ := e14
            have q0 : W.cell? ⟨g, 0, none⟩ = some v0 := hA.cell 0
            have q1 : W.cell? ⟨g, 1, none⟩ = some v1 := hA.cell 1
            have q2 : W.cell? ⟨g, 2, none⟩ = some v2 := hA.cell 2
            have q3 : W.cell? ⟨g, 3, none⟩ = some v3 := hA.cell 3
            have g0 := hA.fz 0
            have g1 := hA.fz 1
            have g2 := hA.fz 2
            have g3 := hA.fz 3
            have hgl := hA.lt
            have HS4 : Hid (∀ u0 u1 u2 u3, AtN 42 ((((W.setCell ⟨g, 0, none⟩ u0).setCell ⟨g, 1, none⟩ u1).setCell ⟨g, 2, none⟩ u2).setCell ⟨g, 3, none⟩ u3) g #[u0, u1, u2, u3]) := fun u0 u1 u2 u3 => at_set4 hA u0 u1 u2 u3
            have HF4 : Hid (∀ u0 u1 u2 u3, Fr (fun b => b = g) W ((((W.setCell ⟨g, 0, none⟩ u0).setCell ⟨g, 1, none⟩ u1).setCell ⟨g, 2, none⟩ u2).setCell ⟨g, 3, none⟩ u3)) := fun u0 u1 u2 u3 => ((((Fr.refl (fun b => b = g) W).set ⟨g, 0, none⟩ rfl u0).set ⟨g, 1, none⟩ rfl u1).set ⟨g, 2, none⟩ rfl u2).set ⟨g, 3, none⟩ rfl u3
            have HAl : Hid (Alien W (fun b => b = g)) := fun b hb _ => by
              subst hb
              exact ⟨_, _, _, hA, by decide, by decide, by decide⟩
            have HG : Hid (Below w3.heap.size w3 W) := hG
            have HY : Hid (y.nd = Nk.nd ∧ OwnNx W w3.heap.size y) := ⟨hy, hO⟩
            have Heg : Hid (a.tmps[8]?.getD undef = .pointer (some ⟨g, 0, none⟩)) := eg
            clear hy ey hO hA hG
            go_simp
            exact hK undef _ (Fr.below HG.out (HF4.out _ _ _ _) (fun b e => by omega) HG.out.size) (fun _ q => q) (p4F_set (HF4.out _ _ _ _) HAl.out (HS4.out _ _ _ _)) (fun V' _ h2 => ⟨g, y, (h2 14 _ (by kernel_rfl) rfl).trans Heg.out, hg, HY.out.1, HS4.out _ _ _ _, HY.out.2.fr (HF4.out _ _ _ _) HAl.out⟩)
          · exact absurd ho (by simp)
        case fin =>
          intro V W hG hF
          have y15 : ∃ (g : Nat) (y : Nx), V (some 8) = .pointer (some ⟨g, 0, none⟩) ∧ w3.heap.size ≤ g ∧ y.nd = Nk.nd ∧ AtN 42 W g (nxC y).toArray ∧ OwnNx W w3.heap.size y := hF 15 _ rfl
          obtain ⟨g8, y, ev, hg8, hy, hA8, hO8⟩ := y15
          have HY : Hid (y.nd = Nk.nd ∧ AtN 42 W g8 (nxC y).toArray ∧ OwnNx W w3.heap.size y ∧ Below w3.heap.size w3 W) := ⟨hy, hA8, hO8, hG⟩
          clear hF hG hA8 hO8 hy HCp x0 d3 k0 f0 f1 f2 f3
          simp only [fillA, Act.put, List.setIfInBounds_toArray, List.set_cons_zero, List.set_cons_succ, ev]
          generalize V (some 31) = z31
          generalize V (some 32) = z32
          generalize V (some 33) = z33
          generalize V (some 34) = z34
          generalize V (some 35) = z35
          generalize V (some 36) = z36
          generalize V (some 37) = z37
          generalize V (some 38) = z38
          generalize V (some 39) = z39
          generalize V (some 40) = z40
          generalize V (some 41) = z41
          generalize V (some 42) = z42
          generalize V (some 43) = z43
          generalize V (some 44) = z44
          clear ev
          obtain ⟨q3, hq3, hm, ⟨hz0', hzf, hzl⟩, hq3u, hq3B, hmk⟩ := HMk.out W HY.out.2.2.2
          obtain ⟨gy, oy, hgy, m3, lgy⟩ := HHd.out W HY.out.2.2.2
          subst hgy
          have m0 : W.cell? ⟨w1.heap.size, 0, none⟩ = some (.slice (some ⟨gy, oy, none⟩) Y.length cy) := hm.sc.cell 0
          have lgo := hm.sc.lt
          have hvB : ∀ b, (Value.slice (some ⟨gy, oy, none⟩) Y.length cy).ownBlock = some b → w.heap.size + 2 ≤ b := fun b hb => (hm.row.lt b hb).1
          have HvB : Hid _ := hvB
          have HM5 : Hid (Mkg ((W.setCell ⟨q3, q, none⟩ (.int .i64 (Y.length : Int))).drew) (w.heap.size + 2) w1.heap.size r (.slice (some ⟨gy, oy, none⟩) Y.length cy) (Y.set t (kidNx (Y.getD t noNx) ((Y.getD t noNx).nd.kids.set q (Y.length : Int))))) := hmk
          have HF5 : Hid (Fr (fun b => b = q3) W ((W.setCell ⟨q3, q, none⟩ (.int .i64 (Y.length : Int))).drew)) := ((Fr.refl (fun b => b = q3) W).set ⟨q3, q, none⟩ rfl _).drew
          have HA5 : Hid (AtN 42 ((W.setCell ⟨q3, q, none⟩ (.int .i64 (Y.length : Int))).drew) g8 (nxC y).toArray ∧ OwnNx ((W.setCell ⟨q3, q, none⟩ (.int .i64 (Y.length : Int))).drew) w3.heap.size y ∧ y.nd = Nk.nd ∧ Fr (fun b => b = q3) W ((W.setCell ⟨q3, q, none⟩ (.int .i64 (Y.length : Int))).drew)) := by
            refine ⟨HY.out.2.1.fr HF5.out (by omega), ?_, HY.out.1, HF5.out⟩
            exact ⟨own_fr HY.out.2.2.1.i HF5.out (fun b hb e => by have := (HY.out.2.2.1.i.lt b hb).1; omega), own_fr HY.out.2.2.1.t HF5.out (fun b hb e => by have := (HY.out.2.2.1.t.lt b hb).1; omega), own_fr HY.out.2.2.1.k HF5.out (fun b hb e => by have := (HY.out.2.2.1.k.lt b hb).1; omega)⟩
          have HBW : Hid (Below w3.heap.size w3 W) := HY.out.2.2.2
          rw [hq3] at m3
          clear hm hmk hvB HY HMk HHd HF5 hq3
          go_wp2_with fail
          go_region
          obtain ⟨w5, hw5⟩ : ∃ w5, w5 = (W.setCell ⟨q3, q, none⟩ (.int .i64 (Y.length : Int))).drew := ⟨_, rfl⟩
          rw [← hw5] at HM5 HA5 ⊢
          clear hw5 m0 m3 hz0' hzf
          obtain ⟨yn, b1, e1, b2, e2, b3', e3⟩ := y
          have n0 : w5.cell? ⟨g8, 0, none⟩ = some (.int .i64 yn.kind) := HA5.out.1.cell 0
          have n1 : w5.cell? ⟨g8, 1, none⟩ = some (.slice b1 yn.ints.length e1) := HA5.out.1.cell 1
          have n2 : w5.cell? ⟨g8, 2, none⟩ = some (.slice b2 yn.texts.length e2) := HA5.out.1.cell 2
          have n3 : w5.cell? ⟨g8, 3, none⟩ = some (.slice b3' yn.kids.length e3) := HA5.out.1.cell 3
          have lg8 := HA5.out.1.lt
          have hYl : (Y.set t (kidNx (Y.getD t noNx) ((Y.getD t noNx).nd.kids.set q (Y.length : Int)))).length = Y.length := by simp
          obtain ⟨Y', hY'⟩ : ∃ Y', Y' = Y.set t (kidNx (Y.getD t noNx) ((Y.getD t noNx).nd.kids.set q (Y.length : Int))) := ⟨_, rfl⟩
          rw [← hY'] at HM5 hYl
          have HY' : Hid _ := hY'
          have HYl : Hid (Y'.length = Y.length) := hYl
          clear hY' hYl
          have m5 : w5.cell? ⟨w1.heap.size, 0, none⟩ = some (.slice (some ⟨gy, oy, none⟩) Y.length cy) := HM5.out.sc.cell 0
          have lg5 := HM5.out.sc.lt
          have HRow : Hid (w5.ownsRow (w.heap.size + 2) 42 4 (.slice (some ⟨gy, oy, none⟩) Y.length cy) Y.length (nxV Y')) := by
            have := HM5.out.row
            rw [HYl.out] at this
            exact this
          have hsz5 : w.heap.size + 2 ≤ w5.heap.size := by omega
          go_wp2_with (at_builtin; refine wpList_append_lies _ rfl (.tmp 57) (.tmp 59) 22 rfl (w.heap.size + 2) 42 i0 (.agg #[.int .i64 0, .slice none 0 0, .slice none 0 0, .slice none 0 0]) 4 80 Tryd.underlying22 hi0 hz0 hz1 hz2 rfl (by decide) _ Y.length (nxV Y') rfl (World.ownsRow.alloc (w := w5) HRow.out _) ⟨w5.heap.size, 0, none⟩ 1 1 [.int .i64 yn.kind, .slice b1 yn.ints.length e1, .slice b2 yn.texts.length e2, .slice b3' yn.kids.length e3] rfl rfl (World.news_of_block (heap_alloc_new w5 _)) (by intro z hz; simp at hz; rcases hz with rfl | rfl | rfl | rfl <;> rfl) (by decide) (by unfold maxLen; omega) (by omega) (by simp; omega) _ rfl ?_)
          intro g6 c6 w6 hown6 hgrow6 hlie6 hlt6
          have hA6 : AtN 24 w6 w1.heap.size #[.slice (some ⟨gy, oy, none⟩) Y.length cy, .int .i64 r] := (HM5.out.sc.alloc _).kept hgrow6 (fun e => HM5.out.ne e.symm)
          have p0 : w6.cell? ⟨w1.heap.size, 0, none⟩ = some (.slice (some ⟨gy, oy, none⟩) Y.length cy) := hA6.cell 0
          have p1 : w6.cell? ⟨w1.heap.size, 1, none⟩ = some (.int .i64 r) := hA6.cell 1
          have pf := hA6.fz 0
          have pl := hA6.lt
          have HM7 : Hid (Mkg (w6.setCell ⟨w1.heap.size, 0, none⟩ (.slice (some ⟨g6, 0, none⟩) (Y.length + 1) c6)) (w.heap.size + 2) w1.heap.size r (.slice (some ⟨g6, 0, none⟩) (Y.length + 1) c6) (Y' ++ [⟨yn, b1, e1, b2, e2, b3', e3⟩]) ∧ Fr (MkS w1.heap.size (.slice (some ⟨gy, oy, none⟩) Y.length cy)) w5 (w6.setCell ⟨w1.heap.size, 0, none⟩ (.slice (some ⟨g6, 0, none⟩) (Y.length + 1) c6))) := by
            have hF6 : Fr (MkS w1.heap.size (.slice (some ⟨gy, oy, none⟩) Y.length cy)) w5 w6 := ((Fr.refl (MkS w1.heap.size (.slice (some ⟨gy, oy, none⟩) Y.length cy)) w5).alloc _).trans (Fr.of_grown (S := MkS w1.heap.size (.slice (some ⟨gy, oy, none⟩) Y.length cy)) hgrow6 (fun b e => .inl e)) (fun _ e _ => e)
            have hF7 := hF6.set ⟨w1.heap.size, 0, none⟩ (.inr rfl) (.slice (some ⟨g6, 0, none⟩) (Y.length + 1) c6)
            have g6g : g6 ≠ w1.heap.size := by
              rcases hlie6 with e | e
              · intro z; subst z
                exact HM5.out.ne e
              · have : g6 = w5.heap.size + 1 := by simpa using e
                omega
            have hM5 := HM5.out
            exact ⟨Mkg.next hM5 hF7 (by simpa using hA6.set 0 (.slice (some ⟨g6, 0, none⟩) (Y.length + 1) c6)) (by rw [HYl.out]; exact own_set' hown6 (by simp [Value.ownBlock]; exact g6g) _) (OwnNx.mono (HA5.out.2.1.fr hF7 hM5.alien) (by omega)), hF7⟩
          have HRes : Hid _ := HRz.out W w5 (w6.setCell ⟨w1.heap.size, 0, none⟩ (.slice (some ⟨g6, 0, none⟩) (Y.length + 1) c6)) g6 c6 ⟨yn, b1, e1, b2, e2, b3', e3⟩ q3 gy oy HBW.out hq3B HA5.out.2.2.2 (by rw [← HY'.out]; exact HM7.out.1) HM7.out.2 HA5.out.2.2.1 HvB.out
          clear hown6 hgrow6 hlie6 hA6 HM5 HA5 HRow HM7 HBW HY' HYl m5 n0 n1 n2 n3
          obtain ⟨ha, hb, hc, hd, he, hf⟩ := HRes.out
          have HRes' : Hid _ := hf
          clear HRes hf
          go_wp2_with fail
          obtain ⟨hAA, hR⟩ := HRes'.out (.slice (some ⟨g6, 0, none⟩) (Y.length + 1) c6) (.int .i64 r)
          have k0 := hAA.cell 0
          have k1 := hAA.cell 1
          exact bodyPost_ret (v := .agg #[.slice (some ⟨g6, 0, none⟩) (Y.length + 1) c6, .int .i64 r]) (by simp [results, Tryd.results21, go_sem, k0, k1]) rfl hR
      · have hql' : ((X.getD t noNx).nd.kids.length : Int) ≤ q := by omega
        clear HYX d0 d1 d2 hq0
        generalize X.getD t noNx = N at *
        have hqd : decide ((q : Int) < 0) = false := by simp
        have hld : decide (N.nd.kids.length ≤ q) = true := by simp; omega
        have HRes : Hid _ := HRc.out
        clear HRc HMk0 HS
        obtain ⟨ha0, ha1, haf0, haf1, hal, y0, y1, hf⟩ := HRes.out
        have HRes' : Hid _ := hf
        clear HRes hf
        go_wp2_with fail
        obtain ⟨hAA, hR⟩ := HRes'.out (.slice ay Y.length cy) (.int .i64 r)
        have k0 := hAA.cell 0
        have k1 := hAA.cell 1
        exact bodyPost_ret (v := .agg #[.slice ay Y.length cy, .int .i64 r]) (by simp [results, Tryd.results21, go_sem, k0, k1]) rfl hR
  · have hpl' : isPb X.length t0 = false := by
      cases hh : isPb X.length t0 with
      | false => rfl
      | true => exact absurd hh hpl
    rw [hpl']
    clear hpl hpl' HYX
    have HRes : Hid _ := HRc.out
    clear HRc HMk0 HS
    obtain ⟨ha0, ha1, haf0, haf1, hal, y0, y1, hf⟩ := HRes.out
    have HRes' : Hid _ := hf
    clear HRes hf
    go_wp2_with fail
    obtain ⟨hAA, hR⟩ := HRes'.out (.slice ay Y.length cy) (.int .i64 r)
    have k0 := hAA.cell 0
    have k1 := hAA.cell 1
    exact bodyPost_ret (v := .agg #[.slice ay Y.length cy, .int .i64 r]) (by simp [results, Tryd.results21, go_sem, k0, k1]) rfl hR

theorem Apt.sameT {X T : List Nx} {t q k : Nat} (h : Apt X T t q k) (hok : ∀ i, i < X.length → okAt X i) {r : Int} (hr : r.toNat < X.length) : SameT X T r r := by
  refine ⟨fun i j => j < T.length ∧ i = if j = X.length then k else j, ?_, by rw [h.len]; omega, by rw [if_neg (by omega)]⟩
  rintro i j ⟨hj, rfl⟩
  rw [nds_atN, nds_atN]
  have hkp : ∀ (m p : Nat), m < X.length → p < (X.getD m noNx).nd.kids.length → kidN (X.getD m noNx).nd p < X.length := fun m p hm hp => by
    have := isPb_iff.1 (hok m hm p hp)
    unfold kidN
    omega
  by_cases hn : j = X.length
  · rw [if_pos hn, hn, h.new]
    refine ⟨ownB_self _, rfl, fun p hp => ?_⟩
    have := hkp k p h.kl hp
    exact ⟨by rw [h.len]; omega, by rw [if_neg (by omega)]⟩
  · rw [if_neg hn]
    have hjX : j < X.length := by rw [h.len] at hj; omega
    by_cases ht : j = t
    · subst ht
      rw [h.at_]
      refine ⟨(ownB_iff _ _).2 ⟨rfl, rfl, rfl⟩, by simp, fun p hp => ?_⟩
      have hb := hkp j p hjX hp
      by_cases e : p = q
      · subst e
        have e1 : kidN ⟨(X.getD j noNx).nd.kind, (X.getD j noNx).nd.ints, (X.getD j noNx).nd.texts, (X.getD j noNx).nd.kids.set p (X.length : Int)⟩ p = X.length := by
          unfold kidN
          rw [List.getD_eq_getElem?_getD, List.getElem?_set, if_pos rfl, if_pos hp]
          simp
        have e2 : kidN (X.getD j noNx).nd p = k := by unfold kidN; rw [h.kk]; simp
        rw [e1, e2]
        exact ⟨by rw [h.len]; omega, by rw [if_pos rfl]⟩
      · have e1 : kidN ⟨(X.getD j noNx).nd.kind, (X.getD j noNx).nd.ints, (X.getD j noNx).nd.texts, (X.getD j noNx).nd.kids.set q (X.length : Int)⟩ p = kidN (X.getD j noNx).nd p := by
          unfold kidN
          rw [List.getD_eq_getElem?_getD, List.getElem?_set, if_neg (fun x => e x.symm), ← List.getD_eq_getElem?_getD]
        rw [e1]
        exact ⟨by rw [h.len]; omega, by rw [if_neg (by omega)]⟩
    · rw [h.oth j hjX ht]
      refine ⟨ownB_self _, rfl, fun p hp => ?_⟩
      have := hkp j p hjX hp
      exact ⟨by rw [h.len]; omega, by rw [if_neg (by omega)]⟩
theorem Apt.rg {X T : List Nx} {t q k : Nat} (h : Apt X T t q k) (hX : RgX X) (h60 : X.length ≤ 60) : RgX T := by
  intro j hj
  rw [h.len] at hj
  by_cases hn : j = X.length
  · rw [hn, h.new]; exact hX k h.kl
  · by_cases ht : j = t
    · subst ht
      have := hX j h.tl
      rw [h.at_]
      refine ⟨this.kind, this.ints, fun z hz => ?_⟩
      rcases List.mem_or_eq_of_mem_set hz with hz | hz
      · exact this.kids z hz
      · rw [hz]; exact inR_nat (by omega)
    · rw [h.oth j (by omega) ht]
      exact hX j (by omega)
theorem ap_facts {X T : List Nx} {r : Int} (h : T.map Nx.nd = X.map Nx.nd ∨ ∃ t q k, Apt X T t q k) (hX : Small X) (h60 : X.length ≤ 60) (rX : RgX X) (hR : RightIs X r) : Small T ∧ RgX T ∧ SameT X T r r ∧ (T.map Nx.nd = X.map Nx.nd ∨ T.length = X.length + 1) := by
  rcases h with h | ⟨t, q, k, h⟩
  · refine ⟨same_small h hX, rX.same h, ?_, .inl h⟩
    unfold SameT
    rw [h]
    exact Alk.refl _ _
  · exact ⟨h.small hX h60, h.rg rX h60, h.sameT hR.2.1 hR.root.2, .inr h.len⟩

end Go.Proofs.YtcdpjaaiojpelaaDoor
