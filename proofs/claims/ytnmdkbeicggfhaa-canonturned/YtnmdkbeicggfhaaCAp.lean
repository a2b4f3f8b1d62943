/- A scene with a kid made a node of its own: the words, and the memory. -/
import Derived.Test.YtnmdkbeicggfhaaCScp2
import Derived.Test.YtnmdkbeicggfhaaCIs
namespace Go.Proofs.Ytnmdkbeicggfhaa
open Go.RowKit Go.Maps Go.WideMaps Go.Sort

theorem getD_memI {l : List Int} {j : Nat} (h : j < l.length) : l.getD j 0 ∈ l := by rw [List.getD_eq_getElem?_getD, List.getElem?_eq_getElem h]; exact List.getElem_mem h
/-- A scene with a kid made a node of its own. -/
structure Apt (X T : List Nx) (t q k : Nat) : Prop where
  tl : t < X.length
  ql : q < (X.getD t noNx).nd.kids.length
  kk : (X.getD t noNx).nd.kids.getD q 0 = (k : Int)
  kl : k < X.length
  len : T.length = X.length + 1
  oth : ∀ j, j < X.length → j ≠ t → (T.getD j noNx).nd = (X.getD j noNx).nd
  at_ : (T.getD t noNx).nd = ⟨(X.getD t noNx).nd.kind, (X.getD t noNx).nd.ints, (X.getD t noNx).nd.texts, (X.getD t noNx).nd.kids.set q (X.length : Int)⟩
  new : (T.getD X.length noNx).nd = (X.getD k noNx).nd
section
variable {X T : List Nx} {t q k : Nat}
theorem Apt.kid (h : Apt X T t q k) (hok : ∀ i, i < X.length → okAt X i) {j : Nat} (hj : j < T.length) {z : Int} (hz : z ∈ (T.getD j noNx).nd.kids) : (z = (X.length : Int) ∧ j = t) ∨ (0 ≤ z ∧ z.toNat < X.length ∧ z ∈ (X.getD (if j = X.length then k else j) noNx).nd.kids) := by
  rw [h.len] at hj
  by_cases hn : j = X.length
  · subst hn
    rw [h.new] at hz
    have := kid_place hok h.kl hz
    rw [if_pos rfl]
    exact .inr ⟨this.1, this.2, hz⟩
  · rw [if_neg hn]
    by_cases ht : j = t
    · subst ht
      rw [h.at_] at hz
      rcases List.mem_or_eq_of_mem_set hz with hz | hz
      · have := kid_place hok h.tl hz
        exact .inr ⟨this.1, this.2, hz⟩
      · exact .inl ⟨hz, rfl⟩
    · rw [h.oth j (by omega) ht] at hz
      have := kid_place hok (by omega) hz
      exact .inr ⟨this.1, this.2, hz⟩
theorem Apt.ok (h : Apt X T t q k) (hok : ∀ i, i < X.length → okAt X i) : ∀ i, i < T.length → okAt T i := by
  intro i hi j hj
  have hz : (T.getD i noNx).nd.kids.getD j 0 ∈ (T.getD i noNx).nd.kids := getD_memI hj
  rw [isPb_iff, h.len]
  rcases h.kid hok hi hz with ⟨e, _⟩ | ⟨h1, h2, _⟩
  · omega
  · omega
theorem Apt.ed (h : Apt X T t q k) (hok : ∀ i, i < X.length → okAt X i) {a b : Nat} (e : Ed (kX T) a b) : Ed (kX X) (if a = X.length then k else a) (if b = X.length then k else b) := by
  have ha : a < T.length := by have := e.lt; rwa [kX_length] at this
  have hphi : (if a = X.length then k else a) < X.length := by
    have := h.kl
    rw [h.len] at ha
    split <;> omega
  unfold Ed at e ⊢
  rw [kX_at T a ha] at e
  obtain ⟨z, hz, rfl⟩ := List.mem_map.1 e
  rw [kX_at X _ hphi]
  rcases h.kid hok ha hz with ⟨rfl, rfl⟩ | ⟨h1, h2, h3⟩
  · rw [Int.toNat_natCast, if_pos rfl, if_neg (by have := h.tl; omega)]
    refine List.mem_map.2 ⟨(k : Int), ?_, by simp⟩
    rw [← h.kk]
    exact getD_memI h.ql
  · rw [if_neg (show ¬ z.toNat = X.length by omega)]
    exact List.mem_map_of_mem h3
theorem Apt.rt (h : Apt X T t q k) (hok : ∀ i, i < X.length → okAt X i) {a b : Nat} (e : Rt (Ed (kX T)) a b) : Rt (Ed (kX X)) (if a = X.length then k else a) (if b = X.length then k else b) :=
  e (fun x => Rt (Ed (kX X)) (if a = X.length then k else a) (if x = X.length then k else x)) (Rt.refl _ _) (fun _ _ p q => p.tail (h.ed hok q))
theorem Apt.code (h : Apt X T t q k) {r : Int} (hR : RightIs X r) {e z : Int} (hc : CheckIs T r e z) (hne : e ≠ 0) : e = 15 := by
  have hp : isPb T.length r = true := by
    have := isPb_iff.1 hR.1
    rw [isPb_iff, h.len]
    omega
  have hok := h.ok hR.2.1
  have hno : ∀ x, ¬ Lead (Ed (kX T)) x x := by
    rintro x ⟨c, e, r⟩
    exact hR.2.2.1 _ ⟨_, h.ed hR.2.1 e, h.rt hR.2.1 r⟩
  rcases hc with ⟨q, _⟩ | ⟨_, j, hj, _, _, q, _⟩ | ⟨_, _, ⟨j, _, _, q⟩ | ⟨_, ⟨j, q, _⟩ | ⟨q, _⟩⟩⟩
  · rw [hp] at q; cases q
  · exact absurd (hok j hj) q
  · exact absurd q.1 (hno j)
  · exact q
  · exact absurd q hne
theorem Apt.small (h : Apt X T t q k) (hX : Small X) (h60 : X.length ≤ 60) : Small T := by
  refine ⟨by rw [h.len]; omega, fun j hj => ?_⟩
  rw [h.len] at hj
  by_cases hn : j = X.length
  · subst hn
    rw [h.new]
    exact hX.2 k h.kl
  · by_cases ht : j = t
    · subst ht
      have := hX.2 j h.tl
      rw [h.at_]
      unfold great at this ⊢
      simpa using this
    · rw [h.oth j (by omega) ht]
      exact hX.2 j (by omega)
end

/-- A node with other kids, where its lists are. -/
def kidNx (y : Nx) (ks : List Int) : Nx := ⟨⟨y.nd.kind, y.nd.ints, y.nd.texts, ks⟩, y.a1, y.c1, y.a2, y.c2, y.a3, y.c3⟩
theorem nxV_kid : ∀ (T : List Nx) (t : Nat) (ks : List Int), t < T.length → ks.length = (T.getD t noNx).nd.kids.length → nxV (T.set t (kidNx (T.getD t noNx) ks)) = nxV T
  | x :: r, 0, ks, _, h => by
    have h' : ks.length = x.nd.kids.length := by simpa using h
    simp [nxV, nxC, kidNx, h']
  | x :: r, t + 1, ks, hl, h => by
    have := nxV_kid r t ks (by simpa using hl) (by simpa using h)
    simp only [nxV, List.set_cons_succ, List.flatMap_cons, List.getD_cons_succ] at this ⊢
    rw [this]
/-- Behind a store into a node's kids. -/
theorem own_kid {W : World} {B q3 : Nat} {av : Option Addr} {cv : Nat} {T : List Nx} {t q : Nat} (hrow : W.ownsRow B 40 4 (.slice av T.length cv) T.length (nxV T)) (heach : ∀ j, j < T.length → OwnNx W B (T.getD j noNx)) (hap : Aprt T) (ht : t < T.length) (hq : q < (T.getD t noNx).nd.kids.length) (hk : kidB (T.getD t noNx) = some q3) (z : Int) :
    ScAt (W.setCell ⟨q3, q, none⟩ (.int .i64 z)) av (T.set t (kidNx (T.getD t noNx) ((T.getD t noNx).nd.kids.set q z))) := by
  have hkt := (heach t ht).k
  have hfr : Fr (fun b => b = q3) W (W.setCell ⟨q3, q, none⟩ (.int .i64 z)) := (Fr.refl (fun b => b = q3) W).set ⟨q3, q, none⟩ rfl _
  refine ⟨?_, fun j hj => ?_⟩
  · rw [nxV_kid T t _ ht (by simp)]
    exact LsAt.of_own4' (own_fr hrow hfr (fun b hb e => by subst e; exact own_apart9 hrow hkt (by decide) hb hk))
  · rw [List.length_set] at hj
    by_cases e : j = t
    · subst e
      rw [show (T.set j (kidNx (T.getD j noNx) ((T.getD j noNx).nd.kids.set q z))).getD j noNx = kidNx (T.getD j noNx) ((T.getD j noNx).nd.kids.set q z) by rw [List.getD_eq_getElem?_getD, List.getElem?_set, if_pos rfl, if_pos ht]; rfl]
      refine ⟨?_, ?_, ?_⟩
      · exact LsAt.of_own (own_fr (heach j ht).i hfr (fun b hb e => by subst e; exact own_apart9 hkt (heach j ht).i (by decide) hk hb))
      · exact LsAt.of_own (own_fr (heach j ht).t hfr (fun b hb e => by subst e; exact own_apart9 hkt (heach j ht).t (by decide) hk hb))
      · obtain ⟨g, e1, _, _, _, _, h5⟩ := own_store9 hkt q hq
        have hg : g = q3 := by
          unfold kidB at hk
          rw [e1] at hk
          simpa [Value.ownBlock] using hk
        subst hg
        have h6 := h5 (.int .i64 z)
        have h7 : (iV (T.getD j noNx).nd.kids).set q (.int .i64 z) = iV ((T.getD j noNx).nd.kids.set q z) := by unfold iV; rw [List.map_set]
        rw [h7] at h6
        have h8 := LsAt.of_own h6
        rw [← e1] at h8
        exact h8
    · rw [show (T.set t (kidNx (T.getD t noNx) ((T.getD t noNx).nd.kids.set q z))).getD j noNx = T.getD j noNx by rw [List.getD_eq_getElem?_getD, List.getElem?_set, if_neg (fun x => e x.symm), ← List.getD_eq_getElem?_getD]]
      refine ⟨?_, ?_, ?_⟩
      · exact LsAt.of_own (own_fr (heach j hj).i hfr (fun b hb e => by subst e; exact own_apart9 hkt (heach j hj).i (by decide) hk hb))
      · exact LsAt.of_own (own_fr (heach j hj).t hfr (fun b hb e => by subst e; exact own_apart9 hkt (heach j hj).t (by decide) hk hb))
      · exact LsAt.of_own (own_fr (heach j hj).k hfr (fun b hb e' => by subst e'; exact hap.ne ht hj (fun x => e x.symm) hk hb))

/-- The facts of the region that puts the copy behind. -/
def apF (n b o c b0 gt t q k b3 o3 : Nat) (N Nk : Nx) (r : Int) (v : Value) (Y : List Nx) (B B0 : Nat) : Nat → (Option Tmp → Value) → World → Prop
  | 0, V, _ => V (some 47) = .pointer (some ⟨gt, 0, none⟩)
  | 1, V, _ => V (some 48) = v
  | 2, V, _ => V (some 49) = .pointer (some ⟨b0, 0, none⟩)
  | 3, V, _ => V (some 50) = .slice (some ⟨b, o, none⟩) n c
  | 4, V, _ => V (some 51) = .pointer (some ⟨b0, 0, none⟩)
  | 5, V, _ => V (some 52) = .slice (some ⟨b, o, none⟩) n c
  | 6, V, _ => V (some 53) = .int .i64 (t : Int)
  | 7, V, _ => V (some 54) = .pointer (some ⟨b, o + t * 4, none⟩)
  | 8, V, _ => V (some 55) = .pointer (some ⟨b, o + t * 4 + 3, none⟩)
  | 9, V, _ => V (some 56) = .slice (some ⟨b3, o3, none⟩) N.nd.kids.length N.c3
  | 10, V, _ => V (some 57) = .int .i64 (q : Int)
  | 11, V, _ => V (some 58) = .pointer (some ⟨b3, o3 + q, none⟩)
  | 12, V, _ => V (some 59) = .int .i64 (k : Int)
  | 13, V, _ => V (some 60) = .pointer (some ⟨b, o + k * 4, none⟩)
  | 14, V, _ => V (some 61) = .agg #[.int .i64 Nk.nd.kind, .slice Nk.a1 Nk.nd.ints.length Nk.c1, .slice Nk.a2 Nk.nd.texts.length Nk.c2, .slice Nk.a3 Nk.nd.kids.length Nk.c3]
  | 15, V, W => ∃ y : Nx, y.nd = Nk.nd ∧ V (some 62) = .agg (nxC y).toArray ∧ OwnNx W B0 y
  | 16, V, W => ∃ (y : Nx) (g8 : Nat), y.nd = Nk.nd ∧ V (some 63) = .slice (some ⟨g8, 0, none⟩) 1 1 ∧ B0 ≤ g8 ∧ AtN 40 W g8 (nxC y).toArray ∧ OwnNx W B0 y
  | 17, V, W => ∃ y : Nx, y.nd = Nk.nd ∧ W.ownsRow B 40 4 (V (some 64)) (Y.length + 1) (nxV Y ++ nxC y) ∧ (V (some 64)).ownBlock ≠ some gt ∧ OwnNx W B0 y
  | 18, V, _ => V (some 65) = .pointer (some ⟨gt, 0, none⟩)
  | 19, _, W => ∃ (v' : Value) (y : Nx), y.nd = Nk.nd ∧ AtN 24 W gt #[v', .int .i64 r] ∧ W.ownsRow B 40 4 v' (Y.length + 1) (nxV Y ++ nxC y) ∧ OwnNx W B0 y
  | _, _, _ => True
def apC (u : Nat) : Nat := if u = 0 then 17 else 19
def apFI (B gt : Nat) (r : Int) (v : Value) (Y : List Nx) : Nat → World → Prop
  | 0, W => W.ownsRow B 40 4 v Y.length (nxV Y)
  | _, W => AtN 24 W gt #[v, .int .i64 r]
section
variable {B gt : Nat} {r : Int} {v : Value} {Y : List Nx} {W W' : World} {i : Nat}
theorem apFI_drew (h1 : W.ownsRow B 40 4 v Y.length (nxV Y)) (h2 : AtN 24 W gt #[v, .int .i64 r]) : ∀ u, apFI B gt r v Y u W.drew := fun u => by
  match u with
  | 0 => exact h1
  | _ + 1 => exact h2
theorem apFI_below (hb : Below W.heap.size W W') : ∀ u, apC u ≠ i → apFI B gt r v Y u W → apFI B gt r v Y u W' := fun u _ h => by
  match u, h with
  | 0, h => exact own_below h hb (Nat.le_refl _)
  | _ + 1, h => exact AtN.belowAll h hb
theorem apFI_app {n cap g : Nat} (hg : W.grownBy W' (Value.slice (some ⟨g, 0, none⟩) n cap).ownBlock) (hne : g ≠ gt) : ∀ u, apC u ≠ 17 → apFI B gt r v Y u W → apFI B gt r v Y u W' := fun u hu h => by
  match u, h with
  | 0, _ => exact absurd rfl hu
  | _ + 1, h => exact AtN.kept h hg (fun e => by simp only [Value.ownBlock, Option.some.injEq] at e; exact hne e.symm)
theorem apFI_set {x : Value} (hv : v.ownBlock ≠ some gt) : ∀ u, apC u ≠ 19 → apFI B gt r v Y u W → apFI B gt r v Y u (W.setCell ⟨gt, 0, none⟩ x) := fun u hu h => by
  match u, h with
  | 0, h => exact own_set' h hv x
  | k + 1, _ => exact absurd (by simp [apC]) hu
end
def apD (i j : Nat) : Bool := (i == 17 && j == 19)
section
variable {n b o c b0 gt t q k b3 o3 : Nat} {N Nk : Nx} {r : Int} {v : Value} {Y : List Nx} {B B0 : Nat} {W W' : World}
theorem apF_kept (i : Nat) {row : Option Nat} (hg : W.grownBy W' row) (hr : ∀ z, row = some z → z < B0 ∧ z ≠ gt) (hrow : row = none ∨ i = 17) : ∀ j V, i ≠ j → apD i j = false → apF n b o c b0 gt t q k b3 o3 N Nk r v Y B B0 j V W → apF n b o c b0 gt t q k b3 o3 N Nk r v Y B B0 j V W' := by
  intro j V hne hd h
  have ko : ∀ y : Nx, OwnNx W B0 y → OwnNx W' B0 y := fun y hy => hy.kept hg (fun z hz => (hr z hz).1)
  have kr : i ≠ 17 → ∀ {e m u xs}, W.ownsRow B e 4 u m xs → W'.ownsRow B e 4 u m xs := fun hi {e m u xs} ho => by
    rcases hrow with rfl | h17
    · exact ho.kept hg (by cases hb : u.ownBlock with | none => exact .inl rfl | some z => exact .inr (by simp))
    · exact absurd h17 hi
  match j, h with
  | 0, h | 1, h | 2, h | 3, h | 4, h | 5, h | 6, h | 7, h | 8, h | 9, h | 10, h | 11, h | 12, h | 13, h | 14, h | 18, h => exact h
  | 15, h =>
    obtain ⟨y, h1, h2, h3⟩ := h
    exact ⟨y, h1, h2, ko y h3⟩
  | 16, h =>
    obtain ⟨y, g8, h1, h2, h3, h4, h5⟩ := h
    exact ⟨y, g8, h1, h2, h3, h4.kept hg (fun e => by have := (hr g8 e.symm).1; omega), ko y h5⟩
  | 17, h =>
    obtain ⟨y, h1, h2, h3, h4⟩ := h
    exact ⟨y, h1, kr hne h2, h3, ko y h4⟩
  | 19, h =>
    obtain ⟨v', y, h1, h2, h3, h4⟩ := h
    have hi : i ≠ 17 := fun e => by subst e; simp [apD] at hd
    exact ⟨v', y, h1, h2.kept hg (fun e => (hr gt e.symm).2 rfl), kr hi h3, ko y h4⟩
  | z + 20, _ => trivial
theorem apF_set (x : Value) (hgt : gt < B0) : ∀ j V, 19 ≠ j → apF n b o c b0 gt t q k b3 o3 N Nk r v Y B B0 j V W → apF n b o c b0 gt t q k b3 o3 N Nk r v Y B B0 j V (W.setCell ⟨gt, 0, none⟩ x) := by
  intro j V hne h
  have ko : ∀ y : Nx, OwnNx W B0 y → OwnNx (W.setCell ⟨gt, 0, none⟩ x) B0 y := fun y hy => hy.kept (grown_set (grown_refl W (some gt)) 0 x) (fun z hz => by cases hz; exact hgt)
  match j, h with
  | 0, h | 1, h | 2, h | 3, h | 4, h | 5, h | 6, h | 7, h | 8, h | 9, h | 10, h | 11, h | 12, h | 13, h | 14, h | 18, h => exact h
  | 15, h =>
    obtain ⟨y, h1, h2, h3⟩ := h
    exact ⟨y, h1, h2, ko y h3⟩
  | 16, h =>
    obtain ⟨y, g8, h1, h2, h3, h4, h5⟩ := h
    exact ⟨y, g8, h1, h2, h3, h4.setOther _ (by show gt ≠ g8; omega) _, ko y h5⟩
  | 17, h =>
    obtain ⟨y, h1, h2, h3, h4⟩ := h
    exact ⟨y, h1, own_set' h2 h3 x, h3, ko y h4⟩
  | 19, _ => exact absurd rfl hne
  | z + 20, _ => trivial
end

end Go.Proofs.Ytnmdkbeicggfhaa
