/- The contract of the document's own Text: it reads with a cursor of its own first. -/
import Derived.Test.YtfblmibdcodipaaRefs
import Derived.Deep.RegionHeld3
namespace Go.Proofs.Ytfblmibdcodipaa
open Go.RowKit

theorem pText_two (b : ByteArray) (k : Nat) (m : Int) : pText b k 0 m =
    if (pBytes b (pUint b k 0 (max m 0)).2.1 (pUint b k 0 (max m 0)).2.2 (pUint b k 0 (max m 0)).1).2.2 ≠ 0 then (⟨#[]⟩, k, (pBytes b (pUint b k 0 (max m 0)).2.1 (pUint b k 0 (max m 0)).2.2 (pUint b k 0 (max m 0)).1).2.2)
    else ((pBytes b (pUint b k 0 (max m 0)).2.1 (pUint b k 0 (max m 0)).2.2 (pUint b k 0 (max m 0)).1).1, (pBytes b (pUint b k 0 (max m 0)).2.1 (pUint b k 0 (max m 0)).2.2 (pUint b k 0 (max m 0)).1).2.1, 0) := by
  unfold pText
  rw [if_neg (by simp)]
  by_cases hd : (num b k).2.2 = 0
  · rw [if_neg (by simpa using hd)]
    by_cases hl : max m 0 < (num b k).1 ∨ 16777216 < (num b k).1
    · have hp : pUint b k 0 (max m 0) = (0, k, 19) := by unfold pUint; rw [if_neg (by simp), if_neg (by simpa using hd), if_pos hl]
      rw [if_pos hl, hp]
      rfl
    · have hp : pUint b k 0 (max m 0) = (((num b k).1 : Int), k + (num b k).2.1, 0) := by unfold pUint; rw [if_neg (by simp), if_neg (by simpa using hd), if_neg hl]
      rw [if_neg hl, hp]
      dsimp only
      by_cases hc : (b.size : Int) - (k + (num b k).2.1 : Nat) < (num b k).1
      · have hq : pBytes b (k + (num b k).2.1) 0 (num b k).1 = (⟨#[]⟩, k + (num b k).2.1, 2) := by unfold pBytes; rw [if_neg (by simp), if_neg (by omega), if_pos hc]
        rw [if_pos hc, hq]
        rfl
      · have hq : pBytes b (k + (num b k).2.1) 0 (num b k).1 = (b.extract (k + (num b k).2.1) (k + (num b k).2.1 + (num b k).1), k + (num b k).2.1 + (num b k).1, 0) := by unfold pBytes; rw [if_neg (by simp), if_neg (by omega), if_neg hc]; rfl
        rw [if_neg hc, hq]
        rfl
  · have hp : pUint b k 0 (max m 0) = (0, k, ((num b k).2.2 : Int)) := by unfold pUint; rw [if_neg (by simp), if_pos hd]
    rw [if_pos hd, hp]
    dsimp only
    have hq : pBytes b k ((num b k).2.2 : Int) 0 = (⟨#[]⟩, k, ((num b k).2.2 : Int)) := by unfold pBytes; rw [if_pos (by omega)]
    rw [hq, if_pos (by dsimp only; omega)]

set_option maxRecDepth 10000 in
set_option maxHeartbeats 400000 in
theorem rtext_err (w : World) (g : Nat) (b : ByteArray) (k e m : Int) (h : Rf w g b k e) (he : e ≠ 0) :
    Calls Try.prog 38 #[.pointer (some ⟨g, 0, none⟩), .int .i64 m] w fun r w' => r = .returned (.string ⟨#[]⟩) ∧ Rf w' g b k e ∧ w.grownBy w' (some g) := by
  have he' : (e != 0) = true := by simpa using he
  have c2 := h.c2
  go_enter Try.func38, Try.ntmps38
  go_wp2_with fail
  go_ret
  exact ⟨rfl, h, World.grownBy.refl _ _⟩

set_option maxRecDepth 10000 in
set_option maxHeartbeats 400000 in
theorem rtext_go (w : World) (g : Nat) (b : ByteArray) (k : Nat) (m M : Int) (h : Rf w g b k 0) (hM : M = max m 0) (hm : m ≤ 9223372036854775807) (u : Int) (k1 k2 : Nat) (e1 e2 : Int) (s : ByteArray)
    (hu : Hid (∀ (W : World) (g' : Nat), Rf W g' b k 0 → Calls Try.prog 37 #[.pointer (some ⟨g', 0, none⟩), .int .u64 M] W fun r w' => r = .returned (.int .i64 u) ∧ Rf w' g' b k1 e1 ∧ W.grownBy w' (some g')))
    (hb : Hid (∀ (W : World) (g' : Nat), Rf W g' b k1 e1 → Calls Try.prog 46 #[.pointer (some ⟨g', 0, none⟩), .int .i64 u] W fun r w' => r = .returned (.string s) ∧ Rf w' g' b k2 e2 ∧ W.grownBy w' (some g'))) :
    Calls Try.prog 38 #[.pointer (some ⟨g, 0, none⟩), .int .i64 m] w fun r w' => r = .returned (.string (if e2 ≠ 0 then ⟨#[]⟩ else s)) ∧ Rf w' g b (if e2 ≠ 0 then k else k2) e2 ∧ w.grownBy w' (some g) := by
  have c0 := h.c0
  have c1 := h.c1
  have c2 := h.c2
  have hc : (m < 0 ∧ M = 0) ∨ (0 ≤ m ∧ M = m) := by omega
  clear hM
  have HN : Rf (w.alloc (.cells #[.string b, .int .i64 (k : Int), .int .i64 0] 71)).drew w.heap.size b k 0 := At3.new _ _ _ _ _
  have HG : Rf (w.alloc (.cells #[.string b, .int .i64 (k : Int), .int .i64 0] 71)).drew g b k 0 := h.alloc _
  have hgr : w.grownBy (w.alloc (.cells #[.string b, .int .i64 (k : Int), .int .i64 0] 71)).drew (some g) := gdrew (galloc (World.grownBy.refl _ _) _)
  have hne : some g ≠ some w.heap.size := by have := h.lt; simp; omega
  rcases hc with ⟨h1, rfl⟩ | ⟨h1, rfl⟩
  all_goals
    by_cases he : e2 = 0
    · subst he
      go_enter Try.func38, Try.ntmps38
      go_wp2_with fail
      go_region_held3 (fun W => W.cell? ⟨g, 0, none⟩ = some (.string b) ∧ W.cell? ⟨g, 1, none⟩ = some (.int .i64 k)) (go_keep) (fail)
      go_wp2_with fail
      refine (hu.out _ _ HN).mono ?_
      rintro r w2 ⟨rfl, h2, g2⟩
      have G2 := HG.kept g2 hne
      go_wp2_with fail
      refine (hb.out _ _ h2).mono ?_
      rintro r w3 ⟨rfl, h3, g3⟩
      have G3 := G2.kept g3 hne
      have d1 := h3.c1
      have d2 := h3.c2
      have e1 := G3.c1
      have f1 := G3.fz 1
      go_wp2_with fail
      go_ret
      exact ⟨by simp, Rf.to (G3.set1 _) (by simp) rfl, gset (gother (gother hgr g2 (Nat.le_refl _)) g3 (Nat.le_refl _)) _ rfl _⟩
    · have he' : (e2 != 0) = true := by simpa using he
      rw [if_pos he, if_pos he]
      go_enter Try.func38, Try.ntmps38
      go_wp2_with fail
      go_region_held3 (fun W => W.cell? ⟨g, 0, none⟩ = some (.string b) ∧ W.cell? ⟨g, 1, none⟩ = some (.int .i64 k)) (go_keep) (fail)
      go_wp2_with fail
      refine (hu.out _ _ HN).mono ?_
      rintro r w2 ⟨rfl, h2, g2⟩
      have G2 := HG.kept g2 hne
      go_wp2_with fail
      refine (hb.out _ _ h2).mono ?_
      rintro r w3 ⟨rfl, h3, g3⟩
      have G3 := G2.kept g3 hne
      have d2 := h3.c2
      have e1 := G3.c2
      have f1 := G3.fz 2
      go_wp2_with fail
      go_ret
      exact ⟨rfl, G3.set2 _, gset (gother (gother hgr g2 (Nat.le_refl _)) g3 (Nat.le_refl _)) _ rfl _⟩

/-- Text, of the document. -/
theorem rtext_any (w : World) (g : Nat) (b : ByteArray) (k : Nat) (e m : Int) (h : Rf w g b k e) (hs : b.size ≤ maxLen) (hk : k ≤ b.size) (hm : m ≤ 9223372036854775807) :
    Calls Try.prog 38 #[.pointer (some ⟨g, 0, none⟩), .int .i64 m] w fun r w' => r = .returned (.string (pText b k e m).1) ∧ Rf w' g b ((pText b k e m).2.1 : Nat) (pText b k e m).2.2 ∧ w.grownBy w' (some g) := by
  by_cases he : e = 0
  · subst he
    have hu := fun W g' hW => ruint_any W g' b k 0 (max m 0) hW hs hk
    have hk1 := (pUint_at b k 0 (max m 0) hk).2
    have hb := fun W g' hW => rbytes_any W g' b (pUint b k 0 (max m 0)).2.1 (pUint b k 0 (max m 0)).2.2 (pUint b k 0 (max m 0)).1 hW hs hk1
    refine (rtext_go w g b k m _ h rfl hm _ _ _ _ _ _ hu hb).mono ?_
    rw [pText_two b k m]
    rintro r w' ⟨rfl, h1, h2⟩
    refine ⟨?_, ?_, h2⟩
    · split <;> rfl
    · refine h1.to ?_ ?_
      · split <;> rfl
      · split
        · rfl
        · rename_i hz
          exact Classical.not_not.1 hz
  · have hp : pText b k e m = (⟨#[]⟩, k, e) := by unfold pText; rw [if_pos he]
    rw [hp]
    exact rtext_err w g b k e m h he

end Go.Proofs.Ytfblmibdcodipaa
