/- Texts interned one after the other: plain mathematics; and a list beside a table. -/
import Derived.Test.YtfblmibdcodipaaAwake06
import Derived.Test.YtfblmibdcodipaaTMath2
namespace Go.Proofs.Ytfblmibdcodipaa
open Go.RowKit Go.Maps Go.WideMaps

/-- What is interned of texts, one after the other. -/
def ints6 (L : List ByteArray) : List ByteArray := L.foldl pIntern []
theorem ints6_take (L : List ByteArray) (i : Nat) (h : i < L.length) : ints6 (L.take (i + 1)) = pIntern (ints6 (L.take i)) L[i] := by
  unfold ints6
  rw [List.take_add_one, List.getElem?_eq_getElem h, List.foldl_append]
  rfl
theorem pIntern_len (M : List ByteArray) (s : ByteArray) : (pIntern M s).length ≤ M.length + 1 ∧ 0 < (pIntern M s).length ∧ sum6 (pIntern M s) ≤ sum6 M + s.size := by
  unfold pIntern
  split
  · exact ⟨by omega, by omega, by omega⟩
  · rw [sum6_append]
    simp [sum6]
theorem ints6_nodup (L : List ByteArray) : (ints6 L).Nodup := by
  have : ∀ (L M : List ByteArray), M.Nodup → (L.foldl pIntern M).Nodup := by
    intro L
    induction L with
    | nil => intro M h; exact h
    | cons x r ih => intro M h; exact ih _ (pIntern_nodup M x h)
  exact this L [] (by simp)
theorem pIntern_mem (M : List ByteArray) (s t : ByteArray) : t ∈ pIntern M s ↔ t ∈ M ∨ t = s := by
  unfold pIntern
  split
  · rename_i h
    rw [idx6_mem] at h
    exact ⟨.inl, fun q => q.elim id (fun e => e ▸ h)⟩
  · simp
theorem ints6_mem (L : List ByteArray) (t : ByteArray) : t ∈ ints6 L ↔ t ∈ L := by
  have : ∀ (L M : List ByteArray), t ∈ L.foldl pIntern M ↔ t ∈ M ∨ t ∈ L := by
    intro L
    induction L with
    | nil => intro M; simp
    | cons x r ih =>
      intro M
      rw [List.foldl_cons, ih, pIntern_mem, List.mem_cons, or_assoc]
  rw [ints6, this]
  simp
/-- Numbers stay as they were. -/
theorem idx6_intern (M : List ByteArray) (s t : ByteArray) (h : t ∈ M) : idx6 t (pIntern M s) = idx6 t M := by
  unfold pIntern
  split
  · rfl
  · exact idx6_append t M [s] ((idx6_mem t M).2 h)

/-- A list of texts beside a table. -/
structure Beside (w : World) (a : Option Addr) (cap b o g gm : Nat) (v : Value) (M : List ByteArray) : Prop where
  addr : 0 < M.length → a = some ⟨b, o, none⟩
  text : TextAt w b o M
  cap_le : M.length ≤ cap
  nil : a = none → cap = 0
  apart : ¬ TbS g gm v b

theorem Beside.below {w w' : World} {a : Option Addr} {cap b o g gm : Nat} {v : Value} {M : List ByteArray} (h : Beside w a cap b o g gm v M) (hb : Below w.heap.size w w') : Beside w' a cap b o g gm v M :=
  ⟨h.addr, h.text.below hb, h.cap_le, h.nil, h.apart⟩

/-- Behind the document's Intern and the program's. -/
theorem Beside.step {w w4 w5 : World} {a a' : Option Addr} {cap cap' b b' o o' g gm B : Nat} {v v' : Value} {M M' : List ByteArray} (h : Beside w a cap b o g gm v M) (hT : Tb w B g gm v M) (_hb : Below w.heap.size w w4)
    (h1 : 0 < M'.length → a' = some ⟨b', o', none⟩) (h2 : TextAt w4 b' o' M') (h3 : M'.length ≤ cap') (h4 : a' = none → cap' = 0) (h5 : (b' = b ∧ o' = o) ∨ w.heap.size ≤ b') (h0 : 0 < M'.length)
    (hf : Fr (TbS g gm v) w4 w5) (hn : ∀ k, TbS g gm v' k → TbS g gm v k ∨ w4.heap.size ≤ k) : Beside w5 a' cap' b' o' g gm v' M' := by
  have hlt := (h2 0 h0).1
  have hap : ¬ TbS g gm v b' := by
    rcases h5 with ⟨rfl, _⟩ | h5
    · exact h.apart
    · exact fun q => by have := hT.lt _ q; omega
  refine ⟨h1, h2.fr hf hap, h3, h4, fun q => ?_⟩
  rcases hn _ q with q | q
  · exact hap q
  · omega

end Go.Proofs.Ytfblmibdcodipaa
