/- Plain mathematics of a table of texts. -/
import Derived.Test.YtfblmibdcodipaaMath
namespace Go.Proofs.Ytfblmibdcodipaa

/-- The place of a text; as many as there are: it isn't there. -/
def idx6 (s : ByteArray) : List ByteArray → Nat
  | [] => 0
  | x :: r => if x = s then 0 else idx6 s r + 1

theorem idx6_le (s : ByteArray) (L : List ByteArray) : idx6 s L ≤ L.length := by
  induction L with
  | nil => exact Nat.le_refl _
  | cons x r ih => unfold idx6; split <;> simp <;> omega
theorem idx6_at (s : ByteArray) : ∀ (L : List ByteArray) (i : Nat) (h : i < L.length), L[i] = s → (∀ j (hj : j < L.length), j < i → L[j] ≠ s) → idx6 s L = i := by
  intro L
  induction L with
  | nil => intro i h; simp at h
  | cons x r ih =>
    intro i h he hn
    unfold idx6
    match i, h, he with
    | 0, _, he => rw [if_pos (by simpa using he)]
    | i + 1, h, he =>
      have h0 := hn 0 (by simp) (by omega)
      rw [if_neg (by simpa using h0), ih i (by simpa using h) (by simpa using he) (fun j hj hji => by have := hn (j + 1) (by simpa using hj) (by omega); simpa using this)]
theorem idx6_no (s : ByteArray) (L : List ByteArray) (h : ∀ j (hj : j < L.length), L[j] ≠ s) : idx6 s L = L.length := by
  induction L with
  | nil => rfl
  | cons x r ih =>
    have h0 := h 0 (by simp)
    unfold idx6
    rw [if_neg (by simpa using h0), ih (fun j hj => by have := h (j + 1) (by simpa using hj); simpa using this)]
    rfl
theorem idx6_get (s : ByteArray) (L : List ByteArray) (h : idx6 s L < L.length) : L[idx6 s L] = s := by
  induction L with
  | nil => simp at h
  | cons x r ih =>
    unfold idx6 at h
    by_cases e : x = s
    · have h0 : idx6 s (x :: r) = 0 := by unfold idx6; rw [if_pos e]
      simp only [h0]
      exact e
    · rw [if_neg e] at h
      have h0 : idx6 s (x :: r) = idx6 s r + 1 := if_neg e
      simp only [h0, List.getElem_cons_succ]
      exact ih (by simpa using h)
theorem idx6_mem (s : ByteArray) (L : List ByteArray) : idx6 s L < L.length ↔ s ∈ L := by
  constructor
  · intro h
    have := List.getElem_mem h
    rw [idx6_get s L h] at this
    exact this
  · intro h
    have hle := idx6_le s L
    by_cases e : idx6 s L = L.length
    · exfalso
      induction L with
      | nil => simp at h
      | cons x r ih =>
        unfold idx6 at e
        by_cases q : x = s
        · rw [if_pos q] at e; simp at e
        · rw [if_neg q] at e
          refine ih ?_ (idx6_le s r) (by simpa using e)
          rcases List.mem_cons.1 h with rfl | h
          · exact absurd rfl q
          · exact h
    · omega
theorem idx6_append (s : ByteArray) (L M : List ByteArray) (h : idx6 s L < L.length) : idx6 s (L ++ M) = idx6 s L := by
  induction L with
  | nil => simp at h
  | cons x r ih =>
    rw [List.cons_append]
    unfold idx6 at h ⊢
    split
    · rfl
    · rename_i q
      rw [if_neg q] at h
      rw [ih (by simpa using h)]

def pFind (L : List ByteArray) (s : ByteArray) : Int := if idx6 s L < L.length then (idx6 s L : Int) else -1
/-- With a text, if it isn't there. -/
def pIntern (L : List ByteArray) (s : ByteArray) : List ByteArray := if idx6 s L < L.length then L else L ++ [s]
theorem pIntern_idx (L : List ByteArray) (s : ByteArray) : idx6 s L < (pIntern L s).length ∧ idx6 s (pIntern L s) = idx6 s L := by
  unfold pIntern
  have hle := idx6_le s L
  by_cases h : idx6 s L < L.length
  · rw [if_pos h]; exact ⟨h, rfl⟩
  · rw [if_neg h]
    have e : idx6 s L = L.length := by omega
    refine ⟨by simp; omega, ?_⟩
    rw [e]
    refine idx6_at s _ L.length (by simp) (by simp) (fun j hj hji => ?_)
    intro hh
    rw [List.getElem_append_left hji] at hh
    have := (idx6_mem s L).2 (hh ▸ List.getElem_mem hji)
    omega
/-- How many bytes all have. -/
def sum6 (L : List ByteArray) : Nat := (L.map ByteArray.size).sum
theorem sum6_append (L M : List ByteArray) : sum6 (L ++ M) = sum6 L + sum6 M := by simp [sum6]
theorem sum6_take (L : List ByteArray) (i : Nat) (h : i < L.length) : sum6 (L.take (i + 1)) = sum6 (L.take i) + L[i].size := by
  rw [List.take_add_one, List.getElem?_eq_getElem h, sum6_append]
  simp [sum6]
theorem sum6_le (L : List ByteArray) (m : Nat) (h : ∀ s ∈ L, s.size ≤ m) : sum6 L ≤ m * L.length := by
  induction L with
  | nil => simp [sum6]
  | cons x r ih =>
    have h1 := ih (fun s hs => h s (by simp [hs]))
    have h2 := h x (by simp)
    have h3 : sum6 (x :: r) = x.size + sum6 r := by simp [sum6]
    rw [h3, List.length_cons, Nat.mul_add]
    omega
/-- The table's bytes. -/
def body6 (L : List ByteArray) : List UInt8 := L.flatMap fun s => put s.size ++ s.data.toList
def pPut6 (L : List ByteArray) : List UInt8 := put L.length ++ body6 L
theorem body6_append (L M : List ByteArray) : body6 (L ++ M) = body6 L ++ body6 M := by simp [body6]
theorem body6_take (L : List ByteArray) (i : Nat) (h : i < L.length) : body6 (L.take (i + 1)) = body6 (L.take i) ++ (put L[i].size ++ L[i].data.toList) := by
  rw [List.take_add_one, List.getElem?_eq_getElem h, body6_append]
  simp [body6]

theorem body6_le (L : List ByteArray) : (body6 L).length ≤ sum6 L + 10 * L.length := by
  induction L with
  | nil => simp [body6]
  | cons x r ih =>
    have h1 := (put_length x.size).2
    have h2 : (body6 (x :: r)).length = (put x.size).length + x.size + (body6 r).length := by
      have : x.data.toList.length = x.size := by rw [Array.length_toList]; rfl
      simp only [body6, List.flatMap_cons, List.length_append, this]
    have h3 : sum6 (x :: r) = x.size + sum6 r := by simp [sum6]
    rw [h2, h3, List.length_cons]
    omega

end Go.Proofs.Ytfblmibdcodipaa
