/- The contract of 'awake', which each of the six laws asks first: it returns true; nothing that was there before is changed. -/
import Derived.Test.YtipljconbnaffaaFSame
import Derived.Test.YtipljconbnaffaaFPut2
namespace Go.Proofs.Ytipljconbnaffaa
open Go.RowKit

theorem aw_put : pPut ⟨#[68, 73, 79, 82]⟩ 2 [(1, ⟨#[]⟩)] = ([68, 73, 79, 82, 2, 1, 0, 0, 0, 0, 0], 0) := by kernel_rfl
theorem aw_get : pGet [68, 73, 79, 82] [68, 73, 79, 82, 2, 1, 0, 0, 0, 0, 0] = (0, 2, [(1, ⟨#[]⟩)]) := by kernel_rfl
theorem aw_no : pGet [68, 73, 79, 80] [68, 73, 79, 82, 2, 1, 0, 0, 0, 0, 0] = (6, 0, []) := by kernel_rfl

theorem SecAt.one (w : World) (s : Sec) : SecAt (w.alloc (.cells #[.int .i64 s.1, .string s.2] 41)) w.heap.size 0 [s] := fun i hi => by
  have h := heap_alloc_new w (.cells #[.int .i64 s.1, .string s.2] 41)
  obtain rfl : i = 0 := by simp at hi; omega
  refine ⟨by simp, ?_, ?_⟩
  · rw [Lib.cell_of_heap h]; rfl
  · rw [Lib.cell_of_heap h]; rfl

set_option maxRecDepth 10000 in
set_option maxHeartbeats 400000 in
theorem awake_any (w : World) :
    Calls Try.prog 9 #[] w fun e w' => e = .returned (.bool true) ∧ Below w.heap.size w w' := by
  have P1 : ∀ W : World, Calls Try.prog 11 #[.string ⟨#[68, 73, 79, 82]⟩, .int .i64 2, .slice (some ⟨W.heap.size, 0, none⟩) 1 1] (W.alloc (.cells #[.int .i64 1, .string ⟨#[]⟩] 41)) fun e w' => e = .returned (.tuple #[.string ⟨#[68, 73, 79, 82, 2, 1, 0, 0, 0, 0, 0]⟩, .int .i64 0]) ∧ Below W.heap.size W w' := fun W => by
    have h := fput_any ⟨#[68, 73, 79, 82]⟩ 2 (some ⟨W.heap.size, 0, none⟩) 1 W.heap.size 0 [(1, ⟨#[]⟩)] _ (by decide) (fun _ => rfl) (SecAt.one W (1, ⟨#[]⟩)) (by intro s hs; simp at hs; subst hs; exact Nat.zero_le _)
    rw [aw_put] at h
    refine h.mono ?_
    rintro e w' ⟨rfl, hb⟩
    exact ⟨rfl, ((Below.refl _ _).alloc (Nat.le_refl _) _).trans (hb.mono (by simp))⟩
  have G1 : ∀ W : World, Calls Try.prog 13 #[.string ⟨#[68, 73, 79, 82]⟩, .string ⟨#[68, 73, 79, 82, 2, 1, 0, 0, 0, 0, 0]⟩] W fun e w' => ∃ gk cap, e = .returned (.tuple #[.int .i64 2, .slice (some ⟨gk, 0, none⟩) 1 cap, .int .i64 0]) ∧ gk < w'.heap.size ∧ w'.cell? ⟨gk, 0, none⟩ = some (.int .i64 1) ∧ Below W.heap.size W w' := fun W => by
    refine (fget_any ⟨#[68, 73, 79, 82]⟩ ⟨#[68, 73, 79, 82, 2, 1, 0, 0, 0, 0, 0]⟩ W (by decide)).mono ?_
    rintro e w' h
    rw [aw_get] at h
    obtain ⟨a, cap, gk, rfl, h2, h3, h4⟩ := h
    obtain rfl := h2 (by decide)
    obtain ⟨q1, q2, _⟩ := h3 0 (by decide)
    exact ⟨gk, cap, rfl, q1, q2, h4⟩
  have G2 : ∀ W : World, Calls Try.prog 13 #[.string ⟨#[68, 73, 79, 80]⟩, .string ⟨#[68, 73, 79, 82, 2, 1, 0, 0, 0, 0, 0]⟩] W fun e w' => ∃ a cap, e = .returned (.tuple #[.int .i64 0, .slice a 0 cap, .int .i64 6]) ∧ Below W.heap.size W w' := fun W => by
    refine (fget_any ⟨#[68, 73, 79, 80]⟩ ⟨#[68, 73, 79, 82, 2, 1, 0, 0, 0, 0, 0]⟩ W (by decide)).mono ?_
    rintro e w' h
    rw [aw_no] at h
    obtain ⟨a, cap, gk, rfl, _, _, h4⟩ := h
    exact ⟨a, cap, rfl, h4⟩
  have HP1 : Hid _ := P1
  have HG1 : Hid _ := G1
  have HG2 : Hid _ := G2
  clear P1 G1 G2
  go_enter Try.func9, Try.ntmps9
  go_wp2_with fail
  refine (HP1.out _).mono ?_
  rintro e w1 ⟨rfl, b1⟩
  go_wp2_with fail
  refine (HG1.out _).mono ?_
  rintro e w2 ⟨gk, cap, rfl, hg, hc, b2⟩
  have B2 := b1.trans (b2.mono b1.size)
  clear b1 b2
  go_wp2_with fail
  refine (HG2.out _).mono ?_
  rintro e w3 ⟨a3, cap3, rfl, b3⟩
  have B3 := B2.trans (b3.mono B2.size)
  rw [← (bcell b3).1 gk _ hg] at hc
  clear B2 b3
  go_wp2_with fail
  go_ret
  exact ⟨rfl, B3⟩

end Go.Proofs.Ytipljconbnaffaa
