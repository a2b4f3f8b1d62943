/- The law's own awake, walked. -/
import Derived.Test.YtlfibkfjklggeaaAwake09
namespace Go.Proofs.Ytlfibkfjklggeaa
open Go.RowKit Go.Maps Go.WideMaps Go.Sort

set_option maxRecDepth 10000 in
set_option maxHeartbeats 1000000 in
theorem awake_any (w : World) :
    Calls Try.prog 8 #[] w fun e w' => e = .returned (.bool true) ∧ Below w.heap.size w w' := by
  have HA0 : Hid (∀ o1 o2 o3 : Obj, o1 = .cells #[.int .i64 1, .int .i64 1] 3 → o2 = .cells #[.int .i64 0, .slice none 0 0, .slice none 0 0, .slice (some ⟨w.heap.size, 0, none⟩) 2 2, .int .i64 0, .slice none 0 0, .slice none 0 0, .slice none 0 0] 45 → o3 = .cells #[.slice (some ⟨w.heap.size + 1, 0, none⟩) 2 2, .int .i64 0] 24 → Aw (((w.alloc o1).alloc o2).alloc o3) w.heap.size (w.heap.size + 1) (w.heap.size + 1 + 1) (.slice none 0 0) 0 ∧ Below w.heap.size w (((w.alloc o1).alloc o2).alloc o3)) := by
    rintro _ _ _ rfl rfl rfl
    exact ⟨⟨((AtN.new w 3 _).alloc _).alloc _, (mk_at (AtN.new (w.alloc _) 45 _) (show _ = w.heap.size + 1 by simp)).alloc _, mk_at (AtN.new ((w.alloc _).alloc _) 24 _) (show _ = w.heap.size + 1 + 1 by simp)⟩, (((Below.refl w.heap.size w).alloc (Nat.le_refl _) _).alloc (by simp) _).alloc (by simp; omega) _⟩
  go_enter Try.func8, Try.ntmps8
  go_wp2_with fail
  obtain ⟨h1, h2⟩ := HA0.out _ _ _ rfl rfl rfl
  refine (aw_check0 h1).mono ?_
  rintro e w1 ⟨rfl, hb1⟩
  have HA1 : Hid (Aw w1 w.heap.size (w.heap.size + 1) (w.heap.size + 1 + 1) (.slice none 0 0) 0 ∧ Below w.heap.size w w1) := ⟨h1.below hb1, h2.trans (hb1.mono h2.size)⟩
  clear HA0 h1 h2 hb1
  have x0 : w1.cell? ⟨w.heap.size + 1 + 1, 0, none⟩ = some (.slice (some ⟨w.heap.size + 1, 0, none⟩) 2 2) := HA1.out.1.s.cell 0
  have x1 : w1.cell? ⟨w.heap.size + 1 + 1, 1, none⟩ = some (.int .i64 0) := HA1.out.1.s.cell 1
  have m0 := fun d os => cell_regrown x0 d os
  have m1 := fun d os => cell_regrown x1 d os
  have cD := fun d os => Calls.regrown_of (aw_depth (HA1.out.1.below (below_regrown w1 d os)))
  have cE := fun d os => Calls.regrown_of (aw_edges (HA1.out.1.below (below_regrown w1 d os)))
  clear x0 x1
  go_wp2_with fail
  refine wp_region_quiet_below (by kernel_rfl) (by kernel_rfl) ?_
  repeat (first | go_big_quiet_step (first | (go_at_call 20; exact cD _ _) | (go_at_call 13; exact cE _ _)) | quiet_step (first | (go_at_call 20; exact cD _ _) | (go_at_call 13; exact cE _ _)))
  refine wpQuiet_nil ?_
  intro _ hw'
  obtain ⟨⟨dq, osq⟩, hw''⟩ := hw'
  subst hw''
  have HA2 : Hid (Aw (grow (redrawn w1 dq) osq) w.heap.size (w.heap.size + 1) (w.heap.size + 1 + 1) (.slice none 0 0) 0 ∧ Below w.heap.size w (grow (redrawn w1 dq) osq)) := ⟨HA1.out.1.below (below_regrown w1 dq osq), HA1.out.2.trans ((below_regrown w1 dq osq).mono HA1.out.2.size)⟩
  clear HA1 m0 m1 cD cE
  generalize grow (redrawn w1 dq) osq = w2 at *
  have x1 : w2.cell? ⟨w.heap.size + 1 + 1, 1, none⟩ = some (.int .i64 0) := HA2.out.1.s.cell 1
  have f1 := HA2.out.1.s.fz 1
  have hlt := HA2.out.1.s.lt
  have HA3 : Hid (Aw (w2.setCell ⟨w.heap.size + 1 + 1, 1, none⟩ (.int .i64 1)) w.heap.size (w.heap.size + 1) (w.heap.size + 1 + 1) (.slice none 0 0) 1 ∧ Below w.heap.size w (w2.setCell ⟨w.heap.size + 1 + 1, 1, none⟩ (.int .i64 1))) := by
    refine ⟨⟨HA2.out.1.i.setOther _ (by show w.heap.size + 1 + 1 ≠ w.heap.size; omega) _, HA2.out.1.n.setOther _ (by show w.heap.size + 1 + 1 ≠ w.heap.size + 1; omega) _, ?_⟩, set_below HA2.out.2 _ (by show w.heap.size ≤ w.heap.size + 1 + 1; omega) _⟩
    have := HA2.out.1.s.set 1 (.int .i64 1)
    simpa using this
  have y0 : (w2.setCell ⟨w.heap.size + 1 + 1, 1, none⟩ (.int .i64 1)).cell? ⟨w.heap.size + 1 + 1, 0, none⟩ = some (.slice (some ⟨w.heap.size + 1, 0, none⟩) 2 2) := HA3.out.1.s.cell 0
  have y1 : (w2.setCell ⟨w.heap.size + 1 + 1, 1, none⟩ (.int .i64 1)).cell? ⟨w.heap.size + 1 + 1, 1, none⟩ = some (.int .i64 1) := HA3.out.1.s.cell 1
  have x0 : w2.cell? ⟨w.heap.size + 1 + 1, 0, none⟩ = some (.slice (some ⟨w.heap.size + 1, 0, none⟩) 2 2) := HA2.out.1.s.cell 0
  clear HA2
  go_wp2_with fail
  refine (aw_check1 HA3.out.1).mono ?_
  rintro e w3 ⟨rfl, hb3⟩
  have HA4 : Hid (Aw w3 w.heap.size (w.heap.size + 1) (w.heap.size + 1 + 1) (.slice none 0 0) 1 ∧ Below w.heap.size w w3) := ⟨HA3.out.1.below hb3, HA3.out.2.trans (hb3.mono HA3.out.2.size)⟩
  clear HA3 hb3 y0 y1 x1 f1 hlt x0
  have x0 : w3.cell? ⟨w.heap.size + 1 + 1, 0, none⟩ = some (.slice (some ⟨w.heap.size + 1, 0, none⟩) 2 2) := HA4.out.1.s.cell 0
  have x1 : w3.cell? ⟨w.heap.size + 1 + 1, 1, none⟩ = some (.int .i64 1) := HA4.out.1.s.cell 1
  have hn7 : w3.cell? ⟨w.heap.size + 1, 7, none⟩ = some (.slice none 0 0) := HA4.out.1.n.cell 7
  have fn7 := HA4.out.1.n.fz 7
  have hlt := HA4.out.1.s.lt
  have hltn := HA4.out.1.n.lt
  have hn7' : ∀ o, (w3.alloc o).cell? ⟨w.heap.size + 1, 7, none⟩ = some (.slice none 0 0) := fun o => (HA4.out.1.n.alloc o).cell 7
  have fn7' : ∀ o, (w3.alloc o).frozen? ⟨w.heap.size + 1, 7, none⟩ = false := fun o => (HA4.out.1.n.alloc o).fz 7
  have HA5 : Hid (∀ o W, o = .cells #[.int .i64 0] 3 → W = (w3.setCell ⟨w.heap.size + 1, 7, none⟩ (.slice (some ⟨w3.heap.size, 0, none⟩) 1 1)).alloc o → Aw W w.heap.size (w.heap.size + 1) (w.heap.size + 1 + 1) (.slice (some ⟨w3.heap.size, 0, none⟩) 1 1) 1 ∧ Below w.heap.size w W ∧ AtN 3 W w3.heap.size #[.int .i64 0]) := by
    rintro _ _ rfl rfl
    refine ⟨⟨(HA4.out.1.i.setOther _ (by show w.heap.size + 1 ≠ w.heap.size; omega) _).alloc _, ?_, (HA4.out.1.s.setOther _ (by show w.heap.size + 1 ≠ w.heap.size + 1 + 1; omega) _).alloc _⟩, (set_below HA4.out.2 _ (by show w.heap.size ≤ w.heap.size + 1; omega) _).alloc (by have := HA4.out.2.size; simpa [World.setCell] using this) _, mk_at (AtN.new _ 3 _) (by simp [World.setCell])⟩
    have := (HA4.out.1.n.set 7 (.slice (some ⟨w3.heap.size, 0, none⟩) 1 1)).alloc (.cells #[.int .i64 0] 3)
    simpa using this
  clear HA4
  go_wp2_with fail
  obtain ⟨h5, h6, h7⟩ := HA5.out _ _ rfl rfl
  refine (aw_check2 h5 h7).mono ?_
  rintro e w5 ⟨rfl, hb5⟩
  have HA6 : Hid (Aw w5 w.heap.size (w.heap.size + 1) (w.heap.size + 1 + 1) (.slice (some ⟨w3.heap.size, 0, none⟩) 1 1) 1 ∧ Below w.heap.size w w5 ∧ AtN 3 w5 w3.heap.size #[.int .i64 0]) := ⟨h5.below hb5, h6.trans (hb5.mono h6.size), h7.belowAll hb5⟩
  clear HA5 h5 h6 h7 hb5 x0 x1 hn7 fn7 hlt hltn hn7' fn7'
  have x0 : w5.cell? ⟨w.heap.size + 1 + 1, 0, none⟩ = some (.slice (some ⟨w.heap.size + 1, 0, none⟩) 2 2) := HA6.out.1.s.cell 0
  have x1 : w5.cell? ⟨w.heap.size + 1 + 1, 1, none⟩ = some (.int .i64 1) := HA6.out.1.s.cell 1
  go_wp2_with fail
  refine (aw_below HA6.out.1 HA6.out.2.2).mono ?_
  rintro e w6 ⟨al, cl, rfl, hl6, hb6⟩
  have HA7 : Hid (Below w.heap.size w w6 ∧ LsAt w6 al (nV [0, 1])) := ⟨HA6.out.2.1.trans (hb6.mono HA6.out.2.1.size), hl6⟩
  have HI : Hid (∀ o, o = .cells #[.int .i64 0, .int .i64 1] 3 → Calls Try.prog 19 #[.slice al 2 cl, .slice (some ⟨w6.heap.size, 0, none⟩) 2 2] (w6.alloc o) fun e w' => e = .returned (.bool true) ∧ Below (w6.alloc o).heap.size (w6.alloc o) w') := by
    rintro _ rfl
    exact ints_any [0, 1] [0, 1] al (some ⟨w6.heap.size, 0, none⟩) cl 2 _ (hl6.alloc _) (at_ls (AtN.new w6 3 _)) (by simp)
  clear HA6 hl6 hb6 x0 x1
  go_wp2_with fail
  refine (HI.out _ rfl).mono ?_
  rintro e w7 ⟨rfl, hb7⟩
  have HB7 : Hid (Below w.heap.size w w7) := (HA7.out.1.alloc HA7.out.1.size _).trans (hb7.mono (by have := HA7.out.1.size; simp; omega))
  clear HI HA7 hb7
  go_wp2_with fail
  go_ret
  exact ⟨rfl, HB7.out⟩

end Go.Proofs.Ytlfibkfjklggeaa
