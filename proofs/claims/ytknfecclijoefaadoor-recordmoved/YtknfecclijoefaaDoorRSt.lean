/- What layer 13's laws hold while they ask: the node that came in, a table, the same texts as a list. -/
import Derived.Test.YtknfecclijoefaaDoorAwake13
import Derived.Test.YtknfecclijoefaaDoorRIn
import Derived.Test.YtknfecclijoefaaDoorRPt
import Derived.Test.YtknfecclijoefaaDoorGD
namespace Go.Proofs.YtknfecclijoefaaDoor
open Go.RowKit

theorem PutIs.uniq {N : Nd} {p : Int} {L M M' : List ByteArray} {S S' : ByteArray} {k k' : Int} (h : PutIs N p L S M k) (h' : PutIs N p L S' M' k') : S' = S ∧ M' = M ∧ k' = k := by
  obtain ⟨h1, h2, h3⟩ := h
  obtain ⟨g1, g2, g3⟩ := h'
  have hk : k' = k := g1.trans h1.symm
  subst hk
  by_cases hz : k' = 0
  · obtain ⟨e1, e2⟩ := h3 hz
    obtain ⟨f1, f2⟩ := g3 hz
    exact ⟨(text_of f1).trans (text_of e1).symm, f2.trans e2.symm, rfl⟩
  · obtain ⟨e1, e2⟩ := h2 hz
    obtain ⟨f1, f2⟩ := g2 hz
    exact ⟨f1.trans e1.symm, f2.trans e2.symm, rfl⟩

theorem list_sz (S : ByteArray) : S.data.toList.length = S.size := by rw [Array.length_toList]; rfl
theorem flat_le {α : Type} (f : α → Nat) (l : List α) : (l.flatMap fun z => put (f z)).length ≤ 10 * l.length := flat_ten f l
theorem rB_len (N : Nd) (p : Int) (L : List ByteArray) : 0 < (rB N p L).length ∧ (rB N p L).length ≤ 20 + 10 * (N.ints.length + N.texts.length + N.kids.length) := by
  have h1 := put_length N.kind.toNat
  have h2 := put_length N.kids.length
  have h3 : (rI N.ints).length ≤ 10 * N.ints.length := flat_ten _ _
  have h4 : (rT (itF L N.texts) N.texts).length ≤ 10 * N.texts.length := flat_ten _ _
  have h5 : (rK p N.kids).length ≤ 10 * N.kids.length := flat_ten _ _
  unfold rB
  simp only [List.length_append]
  omega
/-- The bytes of a text behind another. -/
theorem drop_zero_app (S T : ByteArray) : (S ++ T).data.toList.drop 0 = S.data.toList ++ T.data.toList := by
  rw [List.drop_zero, ByteArray.data_append, Array.toList_append]
theorem PutIs.len {N : Nd} {p : Int} {L M : List ByteArray} {S : ByteArray} {k : Int} (h : PutIs N p L S M k) : M.length ≤ L.length + N.texts.length := by
  by_cases hz : k = 0
  · rw [(h.2.2 hz).2]
    exact itF_len _ _
  · rw [(h.2.1 hz).2]
    omega
theorem OwnNd.frAt {S : Nat → Prop} {W W' : World} {B : Nat} {N : Nd} {a1 a2 a3 : Option Addr} {c1 c2 c3 : Nat} (h : OwnNd W B N (.slice a1 N.ints.length c1) (.slice a2 N.texts.length c2) (.slice a3 N.kids.length c3)) (k : Fr S W W') (hs : ∀ i, S i → i < B) : NdAt W' N a1 a2 a3 := by
  have key : ∀ {e n v xs}, W.ownsRow B e 1 v n xs → W'.ownsRow B e 1 v n xs := fun {e n v xs} ho => own_fr ho k (fun r hr q => by have := (ho.lt r hr).1; have := hs r q; omega)
  exact OwnNd.ndAt ⟨key h.i, key h.t, key h.k⟩

/-- The node that came in, in the law's own block; a table, from the next block on. -/
structure Pw (w W : World) (cs : Array Value) (g gm : Nat) (v : Value) (M : List ByteArray) : Prop where
  a : AtN 26 W w.heap.size cs
  tb : Tb W (w.heap.size + 1) g gm v M
  bel : Below w.heap.size w W
section
variable {w W W' : World} {cs : Array Value} {g gm : Nat} {v : Value} {M M' : List ByteArray}
theorem Pw.more (h : Pw w W cs g gm v M) (hb : Below W.heap.size W W') : Pw w W' cs g gm v M := ⟨h.a.belowAll hb, h.tb.below hb, h.bel.trans (hb.mono h.bel.size)⟩
theorem Pw.put (h : Pw w W cs g gm v M) (hi : TIn W W' (w.heap.size + 1) g gm v M') : ∃ v', Pw w W' cs g gm v' M' ∧ Fr (TbS g gm v) W W' ∧ ∀ k, TbS g gm v' k → TbS g gm v k ∨ W.heap.size ≤ k := by
  obtain ⟨v', ht, hf, hr⟩ := hi
  exact ⟨v', ⟨h.a.fr hf (fun q => by have := h.tb.ge _ q; omega), ht, Fr.below h.bel hf (fun i hi => by have := h.tb.ge i hi; omega) h.bel.size⟩, hf, hr⟩
theorem Pw.cur {gc : Nat} (h : Pw w W cs g gm v M) (hg : W.grownBy W' (some gc)) (hc : w.heap.size < gc) (hn : ¬ TbS g gm v gc) : Pw w W' cs g gm v M :=
  ⟨h.a.kept hg (by simp; omega), h.tb.fr (Fr.of_grown (S := fun k => k = gc) hg (fun k e => by cases e; rfl)) (fun i hi e => hn (e ▸ hi)), below_but h.bel hg (by omega) h.bel.size⟩
end
theorem IsTexts.tx {w : World} {a : Option Addr} {len cap : Nat} {L : List ByteArray} (h : IsTexts w a len cap L) : ∃ b o, TxI w a cap b o L ∧ len = L.length ∧ L.length ≤ 9223372036854775807 := by
  obtain ⟨h1, h2, h3, h4, b, o, h5, h6⟩ := h
  subst h1
  unfold maxLen at h3
  exact ⟨b, o, ⟨h5, h6, h2, fun q => (h4 q).2⟩, rfl, by omega⟩
theorem wf64 {n : Int} (h : (Lit.int .i64 n).wf = true) : -9223372036854775808 ≤ n ∧ n ≤ 9223372036854775807 := wf_i64 h

end Go.Proofs.YtknfecclijoefaaDoor
