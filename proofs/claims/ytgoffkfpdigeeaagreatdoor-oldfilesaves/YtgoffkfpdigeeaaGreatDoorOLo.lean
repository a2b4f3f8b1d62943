/- What Load of a file of version 1 leaves; what lies in memory while it reads. -/
import Derived.Test.YtgoffkfpdigeeaaGreatDoorOFm
import Derived.Test.YtgoffkfpdigeeaaGreatDoorRA
import Derived.Test.YtgoffkfpdigeeaaGreatDoorGI
import Derived.Test.YtgoffkfpdigeeaaGreatDoorOLm
import Derived.Test.YtgoffkfpdigeeaaGreatDoorNGx
namespace Go.Proofs.YtgoffkfpdigeeaaGreatDoor
open Go.RowKit Go.Maps Go.WideMaps Go.Sort

/-- What Load leaves. -/
def LoOut (b : ByteArray) (l : Lm) (w w' : World) (e : Ending) : Prop := ∃ (X : List Nx) (a : Option Addr) (c : Nat) (k : Int), e = .returned (.tuple #[.agg #[.slice a X.length c, .int .i64 0], .int .i64 k]) ∧ LoIs b l (X.map Nx.nd) k ∧ (∀ W, Fr (fun b => b < w.heap.size) w' W → ScAt W a X) ∧ Small X ∧ FnX X ∧ Below w.heap.size w w'
theorem LoIs.bad {b : ByteArray} {l : Lm} {k : Int} (h : (opK b l).1 = k) (hk : k ≠ 0) : LoIs b l (([] : List Nx).map Nx.nd) k := .inl ⟨by rw [h]; exact hk, h.symm, rfl⟩
theorem LoIs.pay {b R : ByteArray} {l : Lm} {k : Int} (h0 : opK b l = (0, R)) (h : (oPay R l.n l.e l.x).2 = k) (hk : k ≠ 0) : LoIs b l (([] : List Nx).map Nx.nd) k := by
  refine .inr ⟨by rw [h0], ?_⟩
  rw [h0]
  exact .inl ⟨by rw [h]; exact hk, h.symm, rfl⟩
theorem LoIs.fin {b R : ByteArray} {l : Lm} {X : List Nx} {d : Nat} {n z : Int} (h0 : opK b l = (0, R)) (h : oPay R l.n l.e l.x = (X.map Nx.nd, 0)) (hd : DepthIs X 0 d) (hc : CheckIs X 0 n z) :
    (n ≠ 0 → LoIs b l (([] : List Nx).map Nx.nd) n) ∧ (n = 0 → (inL (meL X d) l = false → LoIs b l (([] : List Nx).map Nx.nd) 19) ∧ (inL (meL X d) l = true → LoIs b l (X.map Nx.nd) 0)) := by
  have hs : (bare (X.map Nx.nd)).map Nx.nd = X.map Nx.nd := bare_nd _
  have key : ∀ P e, ((n ≠ 0 ∧ e = n ∧ P = []) ∨ (n = 0 ∧ ((inL (meL X d) l = false ∧ e = 19 ∧ P = []) ∨ (inL (meL X d) l = true ∧ e = 0 ∧ P = X.map Nx.nd)))) → LoIs b l P e := fun P e q => by
    refine .inr ⟨by rw [h0], ?_⟩
    rw [h0]
    refine .inr ⟨by rw [h], d, n, z, ?_, ?_, ?_⟩
    · rw [h]
      exact same_depth hs.symm hd
    · rw [h]
      exact same_check hs.symm hc
    · rw [h]
      dsimp only
      rw [same_meL hs]
      exact q
  exact ⟨fun q => key _ _ (.inl ⟨q, rfl, rfl⟩), fun q => ⟨fun q2 => key _ _ (.inr ⟨q, .inl ⟨q2, rfl, rfl⟩⟩), fun q2 => key _ _ (.inr ⟨q, .inr ⟨q2, rfl, rfl⟩⟩)⟩⟩
section
variable (R : ByteArray) (n ed tx : Int)
theorem oPay_3 {x e : Int} {k : Nat} (h : pUint R 0 0 n = (x, k, e)) (he : e ≠ 0) : (oPay R n ed tx).2 = e := by
  unfold oPay; rw [h]; dsimp only; rw [if_pos he]
theorem oPay_4 {k : Nat} (h : pUint R 0 0 n = (0, k, 0)) : (oPay R n ed tx).2 = 13 := by
  unfold oPay; rw [h]; dsimp only; rw [if_neg (by simp), if_pos rfl]
theorem oPay_5 {x : Int} {k : Nat} (h : pUint R 0 0 n = (x, k, 0)) (hx : x ≠ 0) {P : List Nd} {k' : Nat} {e : Int} (h2 : oNds R x tx x.toNat 0 ed k = (P, k', e)) (he : e ≠ 0) : (oPay R n ed tx).2 = e := by
  unfold oPay; rw [h]; dsimp only; rw [if_neg (by simp), if_neg hx, h2]; dsimp only; rw [if_pos he]
theorem oPay_6 {x : Int} {k : Nat} (h : pUint R 0 0 n = (x, k, 0)) (hx : x ≠ 0) {P : List Nd} {k' : Nat} (h2 : oNds R x tx x.toNat 0 ed k = (P, k', 0)) (hk : k' < R.size) : (oPay R n ed tx).2 = 8 := by
  unfold oPay; rw [h]; dsimp only; rw [if_neg (by simp), if_neg hx, h2]; dsimp only; rw [if_neg (by simp), if_pos hk]
theorem oPay_7 {x : Int} {k : Nat} (h : pUint R 0 0 n = (x, k, 0)) (hx : x ≠ 0) {P : List Nd} {k' : Nat} (h2 : oNds R x tx x.toNat 0 ed k = (P, k', 0)) (hk : ¬ k' < R.size) : oPay R n ed tx = (P, 0) := by
  unfold oPay; rw [h]; dsimp only; rw [if_neg (by simp), if_neg hx, h2]; dsimp only; rw [if_neg (by simp), if_neg hk]
end
theorem put_one (n : Nat) : 1 ≤ (put n).length := (put_length n).1
theorem oK_len : ∀ K : List Int, K.length ≤ (oK K).length
  | [] => Nat.le_refl _
  | x :: K => by
    have := put_one x.toNat
    have := oK_len K
    rw [show oK (x :: K) = put x.toNat ++ oK K from rfl, List.length_append, List.length_cons]
    omega
theorem oT_mem : ∀ (T : List ByteArray) (s : ByteArray), s ∈ T → s.size ≤ (oT T).length
  | x :: T, s, h => by
    rw [show oT (x :: T) = (put x.size ++ x.data.toList) ++ oT T by simp [oT], List.length_append, List.length_append, list_size]
    rcases List.mem_cons.1 h with rfl | h
    · omega
    · have := oT_mem T s h
      omega
/-- A node that is read takes two bytes or more. -/
theorem oNd_two {b : ByteArray} {N : Nd} {p c tx ed : Int} {k k1 : Nat} (hk : k ≤ b.size) (h : oNd b p c tx ed k 0 = (N, k1, 0)) : k + 2 ≤ k1 ∧ k1 ≤ b.size ∧ N.kids.length ≤ b.size ∧ (b.size ≤ 3000 → big N = false) ∧ fine N.ints ∧ (N.kids.length : Int) ≤ ed := by
  obtain ⟨h1, h2, h3⟩ := oNd_bytes hk h
  have hk1 := oNd_at b p c tx ed k 0 hk
  rw [h] at hk1
  dsimp only at hk1
  have hl := congrArg List.length h1
  rw [List.length_append, List.length_drop, List.length_drop, list_size] at hl
  have e1 : (oB N).length = (put N.kind.toNat).length + (rI N.ints).length + (oT N.texts).length + (put N.kids.length).length + (oK N.kids).length := by
    unfold oB
    simp only [List.length_append]
  have p1 := put_one N.kind.toNat
  have p2 := put_one N.kids.length
  have p3 := oK_len N.kids
  refine ⟨by omega, hk1.2, by omega, fun hz => ?_, h2.fn, h3⟩
  obtain ⟨g1, g2, g3, _⟩ := tyNo_zero h2.ty
  have hsm := oldSp_small N.kind
  unfold fitI at g2
  rw [Bool.and_eq_true, decide_eq_true_eq] at g2
  unfold fitT at g3
  rw [Bool.and_eq_true, decide_eq_true_eq] at g3
  cases hb : big N with
  | false => rfl
  | true =>
    exfalso
    simp only [big, Bool.or_eq_true, decide_eq_true_eq, List.any_eq_true] at hb
    rcases hb with hb | hb | hb | ⟨s, hs, hb⟩
    · omega
    · omega
    · omega
    · have := oT_mem N.texts s hs
      omega

/-- What stands while a file is loaded: the limits, the answer's place, an empty scene. -/
structure Fq (w W : World) (l : Lm) : Prop where
  a : AtN 26 W w.heap.size #[.int .i64 l.b, .int .i64 l.n, .int .i64 l.e, .int .i64 l.d, .int .i64 l.x]
  r : AtN 24 W (w.heap.size + 1) #[.slice none 0 0, .int .i64 0]
  n : AtN 24 W (w.heap.size + 2) #[.slice none 0 0, .int .i64 0]
  bel : Below w.heap.size w W
theorem Fq.more {w W W' : World} {l : Lm} (h : Fq w W l) (hb : Below W.heap.size W W') : Fq w W' l := ⟨h.a.belowAll hb, h.r.belowAll hb, h.n.belowAll hb, h.bel.trans (hb.mono h.bel.size)⟩
/-- .. and while its payload is read: all that lies below lim. -/
structure Gq (w W : World) (lim gS : Nat) (l : Lm) (R : ByteArray) : Prop where
  f : Fq w W l
  s : W.cell? ⟨gS, 1, none⟩ = some (.string R)
  hs : gS < lim
  hl : lim ≤ W.heap.size
  hw : w.heap.size + 3 ≤ lim
section
variable {w W W' : World} {lim gS : Nat} {l : Lm} {R : ByteArray}
theorem Gq.fr {S : Nat → Prop} (h : Gq w W lim gS l R) (k : Fr S W W') (hs : ∀ i, S i → lim ≤ i) : Gq w W' lim gS l R := by
  have hw := h.hw
  have hne : ∀ i, S i → i ≠ w.heap.size ∧ i ≠ w.heap.size + 1 ∧ i ≠ w.heap.size + 2 ∧ w.heap.size ≤ i := fun i hi => by have := hs i hi; omega
  refine ⟨⟨h.f.a.fr k (fun q => (hne _ q).1 rfl), h.f.r.fr k (fun q => (hne _ q).2.1 rfl), h.f.n.fr k (fun q => (hne _ q).2.2.1 rfl), Fr.below h.f.bel k (fun i hi => (hne i hi).2.2.2) h.f.bel.size⟩, ?_, h.hs, Nat.le_trans h.hl k.size, h.hw⟩
  rw [World.cell?_of_block (k.block gS (Nat.lt_of_lt_of_le h.hs h.hl) (fun q => by have := hs _ q; have := h.hs; omega))]
  exact h.s
theorem Gq.more (h : Gq w W lim gS l R) (hb : Below W.heap.size W W') : Gq w W' lim gS l R := h.fr (Fr.of_below (S := fun _ => False) hb) (fun _ q => q.elim)
theorem Gq.cur {gc : Nat} (h : Gq w W lim gS l R) (hg : W.grownBy W' (some gc)) (hc : lim ≤ gc) : Gq w W' lim gS l R :=
  h.fr (Fr.of_grown (S := fun k => k = gc) hg (fun k e => by cases e; rfl)) (fun i e => by rw [e]; exact hc)
theorem lo_bad {b : ByteArray} {k : Int} (hG : LoIs b l (([] : List Nx).map Nx.nd) k) (hb : Below w.heap.size w W) {x0 x1 : Value} (hr : AtN 24 W (w.heap.size + 1) #[x0, x1]) :
    ∀ W', W' = (W.setCell ⟨w.heap.size + 1, 0, none⟩ (.slice none 0 0)).setCell ⟨w.heap.size + 1, 1, none⟩ (.int .i64 0) → AtN 24 W' (w.heap.size + 1) #[.slice none 0 0, .int .i64 0] ∧ LoOut b l w W' (.returned (.tuple #[.agg #[.slice none 0 0, .int .i64 0], .int .i64 k])) := by
  rintro _ rfl
  have hF : Fr (fun b => b = w.heap.size + 1) W ((W.setCell ⟨w.heap.size + 1, 0, none⟩ (.slice none 0 0)).setCell ⟨w.heap.size + 1, 1, none⟩ (.int .i64 0)) := ((Fr.refl (fun b => b = w.heap.size + 1) W).set ⟨w.heap.size + 1, 0, none⟩ rfl _).set ⟨w.heap.size + 1, 1, none⟩ rfl _
  refine ⟨by simpa using (hr.set 0 (.slice none 0 0)).set 1 (.int .i64 0), [], none, 0, k, rfl, hG, fun _ _ => ⟨LsAt.nil _ _, fun i hi => by simp at hi⟩, ⟨by simp, fun i hi => by simp at hi⟩, fun i hi => by simp at hi, Fr.below hb hF (fun i e => by omega) hb.size⟩
end
/-- A scene is told. -/
theorem lo_good {b : ByteArray} {l : Lm} {w W : World} {B gs c : Nat} {a : Option Addr} {Y : List Nx} (hG : LoIs b l (Y.map Nx.nd) 0) (hb : Below w.heap.size w W) {x0 x1 : Value} (hr : AtN 24 W (w.heap.size + 1) #[x0, x1]) (hm : Mkg W B gs 0 (.slice a Y.length c) Y) (hB : w.heap.size + 1 < B) (hs : Small Y) (hf : FnX Y) :
    ∀ W', W' = (W.setCell ⟨w.heap.size + 1, 0, none⟩ (.slice a Y.length c)).setCell ⟨w.heap.size + 1, 1, none⟩ (.int .i64 0) → AtN 24 W' (w.heap.size + 1) #[.slice a Y.length c, .int .i64 0] ∧ LoOut b l w W' (.returned (.tuple #[.agg #[.slice a Y.length c, .int .i64 0], .int .i64 0])) := by
  rintro _ rfl
  have hF : Fr (fun b => b = w.heap.size + 1) W ((W.setCell ⟨w.heap.size + 1, 0, none⟩ (.slice a Y.length c)).setCell ⟨w.heap.size + 1, 1, none⟩ (.int .i64 0)) := ((Fr.refl (fun b => b = w.heap.size + 1) W).set ⟨w.heap.size + 1, 0, none⟩ rfl _).set ⟨w.heap.size + 1, 1, none⟩ rfl _
  exact ⟨by simpa using (hr.set 0 (.slice a Y.length c)).set 1 (.int .i64 0), Y, a, c, 0, rfl, hG, fun W2 f => hm.low (S := fun b => b < B) (((Fr.refl (fun b => b < B) W).trans hF (fun i hi _ => by omega)).trans f (fun i hi _ => by omega)) (fun i q => q), hs, hf, Fr.below hb hF (fun i e => by omega) hb.size⟩
theorem At3.frO {S : Nat → Prop} {T : TypeId} {w w' : World} {g : Nat} {x y z : Value} (h : At3 T w g x y z) (k : Fr S w w') (hb : ¬ S g) : At3 T w' g x y z := by
  have h' : AtN T w g #[x, y, z] := h
  exact (h'.fr k hb : AtN T w' g #[x, y, z])
theorem LoOut.drew {b : ByteArray} {l : Lm} {w w' : World} {e : Ending} (h : LoOut b l w w' e) : LoOut b l w w'.drew e := by
  obtain ⟨X, a, c, k, h1, h2, h3, h4, h5, h6⟩ := h
  have hd : Below w'.heap.size w' w'.drew := ⟨rfl, rfl, rfl, Nat.le_refl _, fun _ _ => rfl⟩
  exact ⟨X, a, c, k, h1, h2, fun W f => h3 W ((Fr.of_below (S := fun b => b < w.heap.size) hd).trans f (fun i hi _ => hi)), h4, h5, h6.trans (hd.mono h6.size)⟩
end Go.Proofs.YtgoffkfpdigeeaaGreatDoor
