/- How deep: heights of places, by an order from below, and by rounds; plain mathematics. -/
import Derived.Test.YtcdpjaaiojpelaaDoorGLoose
namespace Go.Proofs.YtcdpjaaiojpelaaDoor
open Go.RowKit Go.Maps Go.WideMaps Go.Sort

/-- The greatest of them. -/
def fold1 (f : Nat → Nat) (l : List Nat) : Nat := l.foldl (fun m k => max m (f k)) 0
theorem fold1_snoc (f : Nat → Nat) (l : List Nat) (k : Nat) : fold1 f (l ++ [k]) = max (fold1 f l) (f k) := by simp [fold1, List.foldl_append]
theorem foldl_le (f : Nat → Nat) (l : List Nat) (m b : Nat) (hm : m ≤ b) (h : ∀ k ∈ l, f k ≤ b) : l.foldl (fun m k => max m (f k)) m ≤ b := by
  induction l generalizing m with
  | nil => exact hm
  | cons x r ih => exact ih (max m (f x)) (Nat.max_le.2 ⟨hm, h x (by simp)⟩) (fun k hk => h k (by simp [hk]))
theorem fold1_le (f : Nat → Nat) (l : List Nat) (b : Nat) (h : ∀ k ∈ l, f k ≤ b) : fold1 f l ≤ b := foldl_le f l 0 b (Nat.zero_le _) h
theorem foldl_congr {f g : Nat → Nat} (l : List Nat) (m : Nat) (h : ∀ k ∈ l, f k = g k) : l.foldl (fun m k => max m (f k)) m = l.foldl (fun m k => max m (g k)) m := by
  induction l generalizing m with
  | nil => rfl
  | cons x r ih =>
    simp only [List.foldl_cons]
    rw [h x (by simp)]
    exact ih _ (fun k hk => h k (by simp [hk]))
theorem fold1_congr {f g : Nat → Nat} (l : List Nat) (h : ∀ k ∈ l, f k = g k) : fold1 f l = fold1 g l := foldl_congr l 0 h
theorem foldl_ge (f : Nat → Nat) (l : List Nat) (m : Nat) : m ≤ l.foldl (fun m k => max m (f k)) m := by
  induction l generalizing m with
  | nil => exact Nat.le_refl _
  | cons x r ih => exact Nat.le_trans (Nat.le_max_left _ _) (ih (max m (f x)))
theorem foldl_mono {f g : Nat → Nat} (l : List Nat) (m m' : Nat) (hm : m ≤ m') (h : ∀ k ∈ l, f k ≤ g k) : l.foldl (fun m k => max m (f k)) m ≤ l.foldl (fun m k => max m (g k)) m' := by
  induction l generalizing m m' with
  | nil => exact hm
  | cons x r ih =>
    simp only [List.foldl_cons]
    exact ih _ _ (by have := h x (by simp); omega) (fun k hk => h k (by simp [hk]))
theorem fold1_mono {f g : Nat → Nat} (l : List Nat) (h : ∀ k ∈ l, f k ≤ g k) : fold1 f l ≤ fold1 g l := foldl_mono l 0 0 (Nat.le_refl _) h

/-- Heights: one more than the greatest of the kids'. -/
def HtIs (K : List (List Nat)) (h : Nat → Nat) : Prop := ∀ a, a < K.length → h a = fold1 h (K.getD a []) + 1
/-- By an order. -/
def hts (K : List (List Nat)) (order : List Nat) : Nat → Nat := order.foldl (fun f a => upd f a (fold1 f (K.getD a []) + 1)) (fun _ => 0)
theorem hts_snoc (K : List (List Nat)) (p : List Nat) (a : Nat) : hts K (p ++ [a]) = upd (hts K p) a (fold1 (hts K p) (K.getD a []) + 1) := by simp [hts, List.foldl_append]
theorem hts_far (K : List (List Nat)) (q : List Nat) (f : Nat → Nat) (x : Nat) (h : x ∉ q) : q.foldl (fun f a => upd f a (fold1 f (K.getD a []) + 1)) f x = f x := by
  induction q generalizing f with
  | nil => rfl
  | cons y r ih =>
    rw [List.foldl_cons, ih _ (fun m => h (by simp [m]))]
    exact upd_other _ _ (fun e => h (by simp [e]))
theorem hts_app (K : List (List Nat)) (p q : List Nat) (x : Nat) (h : x ∉ q) : hts K (p ++ q) x = hts K p x := by
  unfold hts
  rw [List.foldl_append]
  exact hts_far K q _ x h
theorem hts_zero (K : List (List Nat)) (p : List Nat) (x : Nat) (h : x ∉ p) : hts K p x = 0 := hts_far K p _ x h
theorem idx_split {p q : List Nat} {a : Nat} (hn : (p ++ a :: q).Nodup) : (p ++ a :: q).idxOf a = p.length := by
  have hap : a ∉ p := fun m => by
    rw [List.nodup_append] at hn
    exact hn.2.2 a m a (by simp) rfl
  rw [List.idxOf_append, if_neg hap]
  simp
theorem idx_lt_mem {p q : List Nat} {a k : Nat} (hn : (p ++ a :: q).Nodup) (hk : (p ++ a :: q).idxOf k < (p ++ a :: q).idxOf a) : k ∈ p := by
  rw [idx_split hn] at hk
  refine Classical.byContradiction fun m => ?_
  rw [List.idxOf_append, if_neg m] at hk
  omega
theorem hts_is {K : List (List Nat)} {order : List Nat} (hb : BOut K order) (hB : Behind K order) : HtIs K (hts K order) := by
  intro a ha
  obtain ⟨p, q, rfl⟩ := List.append_of_mem ((hb.2.1 a).2 ha)
  have hn := hb.1
  have haq : a ∉ q := fun m => by
    rw [List.nodup_append] at hn
    have := (List.nodup_cons.1 hn.2.1).1
    exact this m
  rw [show p ++ a :: q = (p ++ [a]) ++ q by simp, hts_app K _ q a haq, hts_snoc, upd_same]
  congr 1
  refine fold1_congr _ (fun k hk => ?_)
  have hkp : k ∈ p := idx_lt_mem hn (hB a k hk)
  have hkq : k ∉ q := fun m => by
    rw [List.nodup_append] at hn
    exact hn.2.2 k hkp k (by simp [m]) rfl
  have hka : k ≠ a := fun e => by
    rw [List.nodup_append] at hn
    exact hn.2.2 k hkp a (by simp) e
  rw [hts_app K _ q k hkq, hts_snoc, upd_other _ _ hka]
theorem HtIs.le {K : List (List Nat)} {order : List Nat} {h : Nat → Nat} (hh : HtIs K h) (hB : Behind K order) (hk : Ok9 K) : ∀ (n a : Nat), order.idxOf a = n → a < K.length → h a ≤ n + 1 := by
  intro n
  induction n using Nat.strongRecOn with
  | _ n ih =>
    intro a hn ha
    rw [hh a ha]
    have := fold1_le h (K.getD a []) n (fun k e => by
      have h1 := hB a k e
      have := ih (order.idxOf k) (by omega) k rfl (hk a k e)
      omega)
    omega
theorem HtIs.one {K : List (List Nat)} {order : List Nat} {h h' : Nat → Nat} (hh : HtIs K h) (hh' : HtIs K h') (hB : Behind K order) (hk : Ok9 K) : ∀ (n a : Nat), order.idxOf a = n → a < K.length → h a = h' a := by
  intro n
  induction n using Nat.strongRecOn with
  | _ n ih =>
    intro a hn ha
    rw [hh a ha, hh' a ha]
    congr 1
    exact fold1_congr _ (fun k e => ih (order.idxOf k) (by have := hB a k e; omega) k rfl (hk a k e))
theorem HtIs.top {K : List (List Nat)} {order : List Nat} {h : Nat → Nat} (hh : HtIs K h) (hb : BOut K order) (hB : Behind K order) (hk : Ok9 K) {a : Nat} (ha : a < K.length) : 1 ≤ h a ∧ h a ≤ K.length := by
  have h1 := hh.le hB hk _ a rfl ha
  have h2 := List.idxOf_lt_length_of_mem ((hb.2.1 a).2 ha)
  rw [hb.len] at h2
  have h3 := hh a ha
  omega

/-- Heights by rounds: what is right behind r rounds, and i places of one more. -/
structure RdInv (K : List (List Nat)) (h : Nat → Nat) (r i : Nat) (out : Nat → Nat) : Prop where
  le : ∀ x, x < K.length → out x ≤ h x
  old : ∀ x, x < K.length → h x ≤ r → out x = h x
  new : ∀ x, x < i → x < K.length → h x ≤ r + 1 → out x = h x
theorem RdInv.start {K : List (List Nat)} {h : Nat → Nat} (hh : HtIs K h) : RdInv K h 0 0 (fun _ => 0) := ⟨fun _ _ => Nat.zero_le _, fun x hx q => by have := hh x hx; omega, fun x q => by omega⟩
theorem RdInv.step {K : List (List Nat)} {h : Nat → Nat} {r i : Nat} {out : Nat → Nat} (hI : RdInv K h r i out) (hh : HtIs K h) (hk : Ok9 K) (hi : i < K.length) : RdInv K h r (i + 1) (upd out i (max (out i) (fold1 out (K.getD i []) + 1))) := by
  have hle : fold1 out (K.getD i []) + 1 ≤ h i := by
    rw [hh i hi]
    have := fold1_mono (f := out) (g := h) (K.getD i []) (fun k e => hI.le k (hk i k e))
    omega
  have hri : h i ≤ r + 1 → max (out i) (fold1 out (K.getD i []) + 1) = h i := fun q => by
    have e1 : fold1 out (K.getD i []) = fold1 h (K.getD i []) := by
      have hb : ∀ k ∈ K.getD i [], h k ≤ r := by
        have h1 := hh i hi
        intro k e
        have : ∀ (l : List Nat) (m : Nat), k ∈ l → h k ≤ l.foldl (fun m k => max m (h k)) m := by
          intro l
          induction l with
          | nil => intro m q; simp at q
          | cons x t ih =>
            intro m q
            rw [List.foldl_cons]
            rcases List.mem_cons.1 q with rfl | q
            · exact Nat.le_trans (Nat.le_max_right _ _) (foldl_ge h t _)
            · exact ih _ q
        have := this (K.getD i []) 0 e
        unfold fold1 at h1
        omega
      exact fold1_congr _ (fun k e => hI.old k (hk i k e) (hb k e))
    have := hI.le i hi
    have := hh i hi
    rw [e1]
    omega
  refine ⟨fun x hx => ?_, fun x hx q => ?_, fun x hx hl q => ?_⟩
  · by_cases e : x = i
    · subst e
      rw [upd_same]
      have := hI.le x hx
      omega
    · rw [upd_other _ _ e]; exact hI.le x hx
  · by_cases e : x = i
    · subst e
      rw [upd_same]
      exact hri (by omega)
    · rw [upd_other _ _ e]; exact hI.old x hx q
  · by_cases e : x = i
    · subst e
      rw [upd_same]
      exact hri q
    · rw [upd_other _ _ e]; exact hI.new x (by omega) hl q
theorem RdInv.next {K : List (List Nat)} {h : Nat → Nat} {r i : Nat} {out : Nat → Nat} (hI : RdInv K h r i out) (hi : K.length ≤ i) : RdInv K h (r + 1) 0 out := ⟨hI.le, fun x hx q => hI.new x (by omega) hx q, fun x q => by omega⟩

end Go.Proofs.YtcdpjaaiojpelaaDoor
