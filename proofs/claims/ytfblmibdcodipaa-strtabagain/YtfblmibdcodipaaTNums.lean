/- A map of numbers beside a table. -/
import Derived.Test.YtfblmibdcodipaaTInts
namespace Go.Proofs.Ytfblmibdcodipaa
open Go.RowKit Go.Maps Go.WideMaps

theorem NumsIs.again {D : DataW Unit} {L : List ByteArray} (h : NumsIs D L) (s : ByteArray) (hs : idx6 s L < L.length) : NumsIs (D.put (kS s) (iE (idx6 s L : Nat))) L := by
  obtain ⟨hm, h⟩ := h
  refine ⟨hm.put _ _, fun t => ?_⟩
  by_cases e : s = t
  · subst e
    exact ⟨by rw [has_put_same hm (kS_is s), decide_eq_true hs], fun _ => atKey_put_same hm (kS_is s) _ _⟩
  · obtain ⟨h1, h2⟩ := h t
    refine ⟨by rw [has_put_other (kS_ne (fun q => e q.symm)), h1], fun q => ?_⟩
    rw [atKey_put_other (kS_ne (fun q => e q.symm)), h2 q]
theorem NumsIs.intern {D : DataW Unit} {L : List ByteArray} (h : NumsIs D L) (s : ByteArray) : NumsIs (D.put (kS s) (iE (idx6 s L : Nat))) (pIntern L s) := by
  have hle := idx6_le s L
  unfold pIntern
  split
  · rename_i q; exact h.again s q
  · rename_i q
    have := h.snoc s q
    rw [show idx6 s L = L.length by omega]
    exact this
theorem NumsIs.size {D : DataW Unit} {L : List ByteArray} (h : NumsIs D L) (ht : Tidy D) (s : ByteArray) (hz : Maps.size D = L.length) : Maps.size (D.put (kS s) (iE (idx6 s L : Nat))) = (pIntern L s).length := by
  rw [size_put ht, (h.2 s).1, hz]
  unfold pIntern
  by_cases q : idx6 s L < L.length
  · rw [if_pos q, decide_eq_true q]; rfl
  · rw [if_neg q, decide_eq_false q]; simp

/-- The laws' own map of numbers, in a block of its own. -/
def Nums (w : World) (gn n : Nat) (M : List ByteArray) : Prop := ∃ D : DataW Unit, w.ownsMap Try.prog 9 (plainElem Try.prog 3) gn n D ∧ NumsIs D M ∧ Maps.size D = M.length
theorem Nums.lt {w : World} {gn n : Nat} {M : List ByteArray} (h : Nums w gn n M) : gn < w.heap.size := by obtain ⟨D, h1, _⟩ := h; exact h1.lt
theorem Nums.fr {S : Nat → Prop} {w w' : World} {gn n : Nat} {M : List ByteArray} (h : Nums w gn n M) (k : Fr S w w') (hn : ¬ S gn) : Nums w' gn n M := by
  obtain ⟨D, h1, h2⟩ := h
  exact ⟨D, map_fr h1 k hn, h2⟩
theorem Nums.below {w w' : World} {gn n : Nat} {M : List ByteArray} (h : Nums w gn n M) (k : Below w.heap.size w w') : Nums w' gn n M := h.fr (Fr.of_below (S := fun _ => False) k) id
theorem Nums.drewN {w : World} {gn n : Nat} {M : List ByteArray} (h : Nums w gn n M) (q : Nat) : Nums (w.drewN q) gn n M := by
  obtain ⟨D, h1, h2⟩ := h
  exact ⟨D, h1, h2⟩
theorem Nums.look {w : World} {gn n : Nat} {M : List ByteArray} (h : Nums w gn n M) (s : ByteArray) (hs : s.size ≤ 1000000000) (hi : idx6 s M < M.length) :
    (Instr.lookup 47 (.map (some gn)) (.string s) false).run Try.prog w = .ok (.int .i64 (idx6 s M : Nat)) w := by
  obtain ⟨D, h1, h2, _⟩ := h
  obtain ⟨c, hr, hat, _⟩ := h1.lookup_int lawS6 Try.underlying47 Try.underlying3 (zeroI6 _) (kS_key s (by unfold maxLen; omega))
  have := hat.symm.trans ((h2.2 s).2 hi)
  injection this with this
  injection this with _ this
  rw [hr, this]

end Go.Proofs.Ytfblmibdcodipaa
