/- The contract of the document's own Get of a record. -/
import Derived.Test.YtgoffkfpdigeeaaGreatDoorRA
import Derived.Deep.CutBlock
import Derived.Deep.DeepCutAuto
namespace Go.Proofs.YtgoffkfpdigeeaaGreatDoor
open Go.RowKit

theorem own_nil (w : World) (B : Nat) (e : TypeId) : w.ownsRow B e 1 (.slice none 0 0) 0 [] := ⟨rfl, .inl ⟨rfl, rfl⟩⟩
theorem Gi.start {w w1 w2 : World} {g : Nat} {bs : ByteArray} {k : Nat} {e q : Int} {sb : Option Addr} {sc : Nat} {S : Sp} (hf : w.grownBy w1 (some g)) (hc : Rf w1 g bs k e) (hR : AtN 51 w1 w.heap.size #[.int .i64 0, .slice none 0 0, .slice none 0 0, .slice none 0 0])
    (hb : Below (w1.heap.size + 1) (w1.alloc (.cells #[.int .i64 q, .slice none 0 0, .slice none 0 0, .slice none 0 0] 51)) w2) (hS : Ints w2 (w1.heap.size + 1) (.slice sb S.ints.length sc) S.ints) (hg : g < w.heap.size) (hw : w.heap.size < w1.heap.size) (hk : k ≤ bs.size) :
    Gi w (w2.alloc (.cells #[.slice sb S.ints.length sc, .int .i64 S.texts, .int .i64 S.least, .int .i64 S.most] 117)) g w1.heap.size w2.heap.size bs k e ⟨q, [], [], []⟩ (.slice none 0 0) (.slice none 0 0) (.slice none 0 0) sb sc S := by
  have hb' : Below (w1.alloc (.cells #[.int .i64 q, .slice none 0 0, .slice none 0 0, .slice none 0 0] 51)).heap.size (w1.alloc (.cells #[.int .i64 q, .slice none 0 0, .slice none 0 0, .slice none 0 0] 51)) w2 := by simpa using hb
  have hs := hb'.size
  simp at hs
  refine ⟨At3.alloc (At3.belowAll (At3.alloc hc _) hb') _, ((AtN.new w1 51 _).belowAll hb').alloc _, ⟨own_nil _ _ _, own_nil _ _ _, own_nil _ _ _⟩, AtN.new w2 117 _, ?_, ?_, ((hR.alloc _).belowAll hb').alloc _, ?_, hg, hw, by omega, hk⟩
  · exact own_mono (hS.alloc _) (by omega)
  · intro r hr
    exact (hS.lt r hr).2
  · exact gtrans (gtrans (gtrans hf (World.grownBy_alloc _ _ _)) (gbelow hb')) (World.grownBy_alloc _ _ _)

theorem Gi.szS {w wr : World} {g gN gS : Nat} {bs : ByteArray} {k : Nat} {e : Int} {N : Nd} {v1 v2 v3 : Value} {sb : Option Addr} {sc : Nat} {S : Sp} (h : Gi w wr g gN gS bs k e N v1 v2 v3 sb sc S) : gS + 1 ≤ wr.heap.size := by
  have := (Array.getElem?_eq_some_iff.1 h.sp).1
  omega
theorem Gi.fin {w wr : World} {g gN gS : Nat} {bs : ByteArray} {k : Nat} {e : Int} {N : Nd} {v1 v2 v3 : Value} {sb : Option Addr} {sc : Nat} {S : Sp} (h : Gi w wr g gN gS bs k e N v1 v2 v3 sb sc S) (x0 x1 x2 x3 : Value) (y : Nd) {a1 a2 a3 : Option Addr} {c1 c2 c3 : Nat}
    (ho : OwnNd wr (gS + 1) y (.slice a1 y.ints.length c1) (.slice a2 y.texts.length c2) (.slice a3 y.kids.length c3)) :
    NdGot w ((((wr.setCell ⟨w.heap.size, 0, none⟩ x0).setCell ⟨w.heap.size, 1, none⟩ x1).setCell ⟨w.heap.size, 2, none⟩ x2).setCell ⟨w.heap.size, 3, none⟩ x3) g bs (.returned (.agg #[.int .i64 y.kind, .slice a1 y.ints.length c1, .slice a2 y.texts.length c2, .slice a3 y.kids.length c3])) (y, k, e) := by
  have h1 := h.hg
  have h2 := h.hN
  have h3 := h.hS
  have hb : ∀ o : Nat, (⟨w.heap.size, o, none⟩ : Addr).block < gS + 1 := fun o => by show w.heap.size < gS + 1; omega
  refine ⟨a1, c1, a2, c2, a3, c3, rfl, ?_, ?_, ?_⟩
  · exact OwnNd.mono ((((ho.set _ (hb 0) x0).set _ (hb 1) x1).set _ (hb 2) x2).set _ (hb 3) x3) (by omega)
  · exact At3.setOther (At3.setOther (At3.setOther (At3.setOther h.cur _ (by show w.heap.size ≠ g; omega) _) _ (by show w.heap.size ≠ g; omega) _) _ (by show w.heap.size ≠ g; omega) _) _ (by show w.heap.size ≠ g; omega) _
  · exact gnew (gnew (gnew (gnew h.fr _ (Nat.le_refl _) _) _ (Nat.le_refl _) _) _ (Nat.le_refl _) _) _ (Nat.le_refl _) _
theorem newSp_small (k : Int) : (newSp k).ints.length ≤ 4 ∧ 0 ≤ (newSp k).texts ∧ (newSp k).texts ≤ 2 ∧ -1 ≤ (newSp k).least ∧ (newSp k).least ≤ 1 ∧ -1 ≤ (newSp k).most ∧ (newSp k).most ≤ 1 := by
  unfold newSp noSp
  repeat' split
  all_goals decide
theorem gIs_next (b : ByteArray) (C : List Int) (i k : Nat) (h : i < C.length) {q : Int} {k3 : Nat} {e3 : Int} (hq : pInt b k 0 = (q, k3, e3)) :
    gIs b (C.drop i) k 0 = (q :: (gIs b (C.drop (i + 1)) k3 (if in7 (C.getD i 0) q = true then e3 else fl e3 10)).1, (gIs b (C.drop (i + 1)) k3 (if in7 (C.getD i 0) q = true then e3 else fl e3 10)).2) := by
  rw [List.drop_eq_getElem_cons h, show C[i] = C.getD i 0 by simp [List.getD_eq_getElem?_getD, List.getElem?_eq_getElem h]]
  conv => lhs; unfold gIs
  rw [if_neg (by decide), hq]
theorem gIs_end (b : ByteArray) (C : List Int) (i k : Nat) (e : Int) (h : C.length ≤ i ∨ e ≠ 0) : gIs b (C.drop i) k e = ([], k, e) := by
  rcases h with h | h
  · rw [List.drop_eq_nil_of_le h]; rfl
  · exact gIs_stop b _ k h

theorem gTs_next (b : ByteArray) (L : List ByteArray) (n k : Nat) {x : Int} {k3 : Nat} {e3 : Int} (hq : pUint b k 0 16777216 = (x, k3, e3)) :
    gTs b L (n + 1) k 0 = if e3 ≠ 0 then ([], k3, e3) else if (L.length : Int) ≤ x then ([], k3, 13) else (L.getD x.toNat noT :: (gTs b L n k3 0).1, (gTs b L n k3 0).2) := by
  conv => lhs; unfold gTs
  rw [if_neg (by decide), hq]
theorem gTs_end (b : ByteArray) (L : List ByteArray) (n k : Nat) (e : Int) (h : n = 0 ∨ e ≠ 0) : gTs b L n k e = ([], k, e) := by
  rcases h with rfl | h
  · rfl
  · exact gTs_stop b L n k h
theorem gKs_next (b : ByteArray) (p : Int) (n k : Nat) {x : Int} {k3 : Nat} {e3 : Int} (hq : pUint b k 0 16777216 = (x, k3, e3)) :
    gKs b p (n + 1) k 0 = (wrap64 (p - x) :: (gKs b p n k3 (if decide (x < 1 ∨ p < x) = true then fl e3 13 else e3)).1, (gKs b p n k3 (if decide (x < 1 ∨ p < x) = true then fl e3 13 else e3)).2) := by
  conv => lhs; unfold gKs
  rw [if_neg (by decide), hq]
  simp only [decide_eq_true_eq]
theorem gKs_end (b : ByteArray) (p : Int) (n k : Nat) (e : Int) (h : n = 0 ∨ e ≠ 0) : gKs b p n k e = ([], k, e) := by
  rcases h with rfl | h
  · rfl
  · exact gKs_stop b p n k h
theorem gRest_eq {b : ByteArray} {p : Int} {L : List ByteArray} {edges : Int} {S : Sp} {k1 : Nat} {e2 : Int} {A : List Int} {k4 : Nat} {e4 : Int} {B : List ByteArray} {k5 : Nat} {e5 m : Int} {k6 : Nat} {e6 e7 : Int} {K : List Int} {k8 : Nat} {e8 : Int} (hA : gIs b S.ints k1 e2 = (A, k4, e4)) (hB : gTs b L S.texts.toNat k4 e4 = (B, k5, e5))
    (hM : pUint b k5 e5 (max edges 0) = (m, k6, e6)) (h7 : (if decide (m < S.least ∨ (0 ≤ S.most ∧ S.most < m)) = true then fl e6 12 else e6) = e7) (hK : gKs b p m.toNat k6 e7 = (K, k8, e8)) : gRest b p L edges S k1 e2 = ((A, B, K), k8, e8) := by
  unfold gRest
  simp only [decide_eq_true_eq] at h7
  simp only [hA, hB, hM, h7, hK]

end Go.Proofs.YtgoffkfpdigeeaaGreatDoor
