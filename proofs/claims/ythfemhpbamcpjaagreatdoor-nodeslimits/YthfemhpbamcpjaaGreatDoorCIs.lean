/- The contract of ref's Is. -/
import Derived.Test.YthfemhpbamcpjaaGreatDoorGB
import Derived.Test.YthfemhpbamcpjaaGreatDoorCC
namespace Go.Proofs.YthfemhpbamcpjaaGreatDoor
open Go.RowKit Go.Maps Go.WideMaps Go.Sort
set_option maxRecDepth 10000 in
set_option maxHeartbeats 1000000 in
theorem ris_any (X : List Nx) (a : Option Addr) (c : Nat) (r : Int) (w : World) (h : ScAt w a X) (hX : Small X) :
    Calls Tryz.prog 31 #[.agg #[.slice a X.length c, .int .i64 r]] w fun e w' => IsOut X r w w' e := by
  have HL : Hid (∀ o : Obj, o = .cells #[.slice a X.length c, .int .i64 r] 24 → AtN 24 (w.alloc o) w.heap.size #[.slice a X.length c, .int .i64 r] ∧ Below w.heap.size w (w.alloc o)) := by
    rintro _ rfl
    exact ⟨AtN.new w 24 _, (Below.refl w.heap.size w).alloc (Nat.le_refl _) _⟩
  have HS : Hid (ScAt w a X ∧ Small X) := ⟨h, hX⟩
  clear h hX
  go_enter Tryz.func31, Tryz.ntmps31
  go_wp2_with fail
  obtain ⟨hA, hB⟩ := HL.out _ rfl
  have HB1 : Hid (Below w.heap.size w (w.alloc (.cells #[.slice a X.length c, .int .i64 r] 24))) := hB
  generalize w.alloc (.cells #[.slice a X.length c, .int .i64 r] 24) = W0 at *
  have x0 : W0.cell? ⟨w.heap.size, 0, none⟩ = some (.slice a X.length c) := hA.cell 0
  have x1 : W0.cell? ⟨w.heap.size, 1, none⟩ = some (.int .i64 r) := hA.cell 1
  have hg0 := hA.lt
  have HX : Hid (∀ W, Below W0.heap.size W0 W → ScAt W a X) := fun W hW => HS.out.1.belowB (hB.trans (hW.mono hB.size))
  clear HL hA hB
  by_cases hR : RightIs X r
  · obtain ⟨b, hb⟩ := bool_of (IsCan X r)
    have HRt : Hid (∀ W, Below W0.heap.size W0 W → Calls Tryz.prog 46 #[.agg #[.slice a X.length c, .int .i64 r]] W fun e w' => e = .returned (.bool true) ∧ Below W.heap.size W w') := fun W hW => by
      refine Calls.mono (right_any X a c r W (HX.out W hW) HS.out.2) ?_
      rintro e w' ⟨q, rfl, hq, hb'⟩
      rw [hq.2 hR]
      exact ⟨rfl, hb'⟩
    have HCn : Hid (∀ W, Below W0.heap.size W0 W → Calls Tryz.prog 16 #[.agg #[.slice a X.length c, .int .i64 r]] W fun e w' => RCanOut X r W w' e) := fun W hW => rcanon_any X a c r W (HX.out W hW) HS.out.2 hR
    have HSm : Hid (∀ W, Below W0.heap.size W0 W → ∀ (Y : List Nx) (a' : Option Addr) (c' : Nat), Y.map Nx.nd = cX X r → ScAt W a' Y → Calls Tryz.prog 14 #[.agg #[.slice a' Y.length c', .int .i64 ((X.length : Int) - 1)], .agg #[.slice a X.length c, .int .i64 r]] W fun e w' => e = .returned (.bool b) ∧ Below W.heap.size W w') := fun W hW Y a' c' hY hs => by
      refine Calls.mono (ssame_any Y X a' a c' c _ r W hs (HX.out W hW) ((can_ren hR hY).small HS.out.2)) ?_
      rintro e w' ⟨q, rfl, hq, hb'⟩
      have : q = b := by
        rw [Bool.eq_iff_iff, hq, hb, isCan_iff, hY]
        exact ⟨fun h => ⟨hR, h⟩, fun h => h.2⟩
      rw [this]
      exact ⟨rfl, hb'⟩
    clear HX HS hR
    refine facts_region6 (fun W => Below W0.heap.size W0 W) (fun i v W => match i with | 0 => v = .agg #[.slice a X.length c, .int .i64 r] | 1 => v = .bool true | 2 => v = .bool true | 3 => v = .agg #[.slice a X.length c, .int .i64 r] | 4 => ∃ (Y : List Nx) (a' : Option Addr) (c' : Nat), v = .agg #[.slice a' Y.length c', .int .i64 ((X.length : Int) - 1)] ∧ Y.map Nx.nd = cX X r ∧ ScAt W a' Y | 5 => v = .agg #[.slice a X.length c, .int .i64 r] | 6 => v = .bool b | 7 => v = .bool b | 8 => v = .bool b | _ => True) (by kernel_rfl) (by kernel_rfl) (Below.refl _ _).drew ?step ?fin
    case step =>
      intro i' o' ho act W hG hoff hdep K hQ hK
      rcases i' with _|_|_|_|_|_|_|_|_|i'
      · obtain rfl := Option.some.inj ho
        have t1 : act.tmps[1]?.getD undef = .pointer (some ⟨w.heap.size, 0, none⟩) := hoff 1 (by kernel_rfl)
        have x0W := (hG.cell (p := ⟨w.heap.size, 0, none⟩) hg0).trans x0
        have x1W := (hG.cell (p := ⟨w.heap.size, 1, none⟩) hg0).trans x1
        clear hdep hoff hG
        go_simp
        exact hQ _ (rfl)
      · obtain rfl := Option.some.inj ho
        have e0 : act.tmps[3]?.getD undef = .agg #[.slice a X.length c, .int .i64 r] := hdep 0 _ (by kernel_rfl) rfl
        clear hdep hoff
        have HG : Hid (Below W0.heap.size W0 W) := hG
        have HC : Hid _ := HRt.out W hG
        clear hG
        go_simp
        refine Calls.mono HC.out ?_
        rintro e w' ⟨rfl, hb⟩
        exact hK _ _ (HG.out.trans (hb.mono HG.out.size)) (fun j u hj h => by
            rcases j with _|_|_|_|_|_|_|_|_|j
            · exact h
            · exact absurd rfl hj
            · exact h
            · exact h
            · obtain ⟨Y, a', c', h1, h2, h3⟩ := h; exact ⟨Y, a', c', h1, h2, h3.belowB hb⟩
            · exact h
            · exact h
            · exact h
            · exact h
            · trivial) (rfl)
      · obtain rfl := Option.some.inj ho
        have e1 : act.tmps[4]?.getD undef = .bool true := hdep 1 _ (by kernel_rfl) rfl
        clear hdep hoff hG
        go_simp
        exact hQ _ (rfl)
      · obtain rfl := Option.some.inj ho
        have hgd : act.tmps[5]?.getD undef = .bool true := hdep 2 _ (by kernel_rfl) rfl
        have hgd' := getD_bool hgd
        have t1 : act.tmps[1]?.getD undef = .pointer (some ⟨w.heap.size, 0, none⟩) := hoff 1 (by kernel_rfl)
        have x0W := (hG.cell (p := ⟨w.heap.size, 0, none⟩) hg0).trans x0
        have x1W := (hG.cell (p := ⟨w.heap.size, 1, none⟩) hg0).trans x1
        clear hdep hoff hG
        go_simp
        exact hQ _ (rfl)
      · obtain rfl := Option.some.inj ho
        have hgd : act.tmps[5]?.getD undef = .bool true := hdep 2 _ (by kernel_rfl) rfl
        have hgd' := getD_bool hgd
        have e3 : act.tmps[6]?.getD undef = .agg #[.slice a X.length c, .int .i64 r] := hdep 3 _ (by kernel_rfl) rfl
        clear hdep hoff
        have HG : Hid (Below W0.heap.size W0 W) := hG
        have HC : Hid _ := HCn.out W hG
        clear hG
        go_simp
        refine Calls.mono HC.out ?_
        rintro e w' ⟨Y, a', c', rfl, hY, hs, hb⟩
        exact hK _ _ (HG.out.trans (hb.mono HG.out.size)) (fun j u hj h => by
            rcases j with _|_|_|_|_|_|_|_|_|j
            · exact h
            · exact h
            · exact h
            · exact h
            · exact absurd rfl hj
            · exact h
            · exact h
            · exact h
            · exact h
            · trivial) (⟨Y, a', c', rfl, hY, hs⟩)
      · obtain rfl := Option.some.inj ho
        have hgd : act.tmps[5]?.getD undef = .bool true := hdep 2 _ (by kernel_rfl) rfl
        have hgd' := getD_bool hgd
        have t1 : act.tmps[1]?.getD undef = .pointer (some ⟨w.heap.size, 0, none⟩) := hoff 1 (by kernel_rfl)
        have x0W := (hG.cell (p := ⟨w.heap.size, 0, none⟩) hg0).trans x0
        have x1W := (hG.cell (p := ⟨w.heap.size, 1, none⟩) hg0).trans x1
        clear hdep hoff hG
        go_simp
        exact hQ _ (rfl)
      · obtain rfl := Option.some.inj ho
        have hgd : act.tmps[5]?.getD undef = .bool true := hdep 2 _ (by kernel_rfl) rfl
        have hgd' := getD_bool hgd
        have e4 : ∃ (Y : List Nx) (a' : Option Addr) (c' : Nat), act.tmps[7]?.getD undef = .agg #[.slice a' Y.length c', .int .i64 ((X.length : Int) - 1)] ∧ Y.map Nx.nd = cX X r ∧ ScAt W a' Y := hdep 4 _ (by kernel_rfl) rfl
        have e5 : act.tmps[8]?.getD undef = .agg #[.slice a X.length c, .int .i64 r] := hdep 5 _ (by kernel_rfl) rfl
        clear hdep hoff
        obtain ⟨Y, a', c', e4', hY, hs⟩ := e4
        have HG : Hid (Below W0.heap.size W0 W) := hG
        have HC : Hid _ := HSm.out W hG Y a' c' hY hs
        clear hG
        go_simp
        refine Calls.mono HC.out ?_
        rintro e w' ⟨rfl, hb⟩
        exact hK _ _ (HG.out.trans (hb.mono HG.out.size)) (fun j u hj h => by
            rcases j with _|_|_|_|_|_|_|_|_|j
            · exact h
            · exact h
            · exact h
            · exact h
            · obtain ⟨Y, a', c', h1, h2, h3⟩ := h; exact ⟨Y, a', c', h1, h2, h3.belowB hb⟩
            · exact h
            · exact absurd rfl hj
            · exact h
            · exact h
            · trivial) (rfl)
      · obtain rfl := Option.some.inj ho
        have e2 : act.tmps[5]?.getD undef = .bool true := hdep 2 _ (by kernel_rfl) rfl
        have e6 : act.tmps[9]?.getD undef = .bool b := hdep 6 _ (by kernel_rfl) rfl
        clear hdep hoff hG
        go_simp
        exact hQ _ (rfl)
      · obtain rfl := Option.some.inj ho
        have e7 : act.tmps[10]?.getD undef = .bool b := hdep 7 _ (by kernel_rfl) rfl
        clear hdep hoff hG
        go_simp
        exact hQ _ (rfl)
      · exact absurd ho (by simp)
    case fin =>
      intro V W hG hF
      have y8 : V (some 2) = .bool b := hF 8 _ rfl
      have HB2 : Hid (Below w.heap.size w W) := HB1.out.trans (hG.mono HB1.out.size)
      clear hF hG
      simp only [fillA, Act.put, List.setIfInBounds_toArray, List.set_cons_zero, List.set_cons_succ, y8]
      generalize V (some 3) = z3
      generalize V (some 4) = z4
      generalize V (some 5) = z5
      generalize V (some 6) = z6
      generalize V (some 7) = z7
      generalize V (some 8) = z8
      generalize V (some 9) = z9
      generalize V (some 10) = z10
      clear y8
      go_wp2_with fail
      go_ret
      exact ⟨b, rfl, hb, HB2.out⟩
  · have HR : Hid (¬ RightIs X r) := hR
    have HRt : Hid (∀ W, Below W0.heap.size W0 W → Calls Tryz.prog 46 #[.agg #[.slice a X.length c, .int .i64 r]] W fun e w' => e = .returned (.bool false) ∧ Below W.heap.size W w') := fun W hW => by
      refine Calls.mono (right_any X a c r W (HX.out W hW) HS.out.2) ?_
      rintro e w' ⟨q, rfl, hq, hb'⟩
      cases q with
      | true => exact absurd (hq.1 rfl) hR
      | false => exact ⟨rfl, hb'⟩
    clear HX HS hR
    refine facts_region6 (fun W => Below W0.heap.size W0 W) (fun i v W => match i with | 0 => v = .agg #[.slice a X.length c, .int .i64 r] | 1 => v = .bool false | 2 => v = .bool false | 3 => True | 4 => True | 5 => True | 6 => True | 7 => v = .bool false | 8 => v = .bool false | _ => True) (by kernel_rfl) (by kernel_rfl) (Below.refl _ _).drew ?step ?fin
    case step =>
      intro i' o' ho act W hG hoff hdep K hQ hK
      rcases i' with _|_|_|_|_|_|_|_|_|i'
      · obtain rfl := Option.some.inj ho
        have t1 : act.tmps[1]?.getD undef = .pointer (some ⟨w.heap.size, 0, none⟩) := hoff 1 (by kernel_rfl)
        have x0W := (hG.cell (p := ⟨w.heap.size, 0, none⟩) hg0).trans x0
        have x1W := (hG.cell (p := ⟨w.heap.size, 1, none⟩) hg0).trans x1
        clear hdep hoff hG
        go_simp
        exact hQ _ (rfl)
      · obtain rfl := Option.some.inj ho
        have e0 : act.tmps[3]?.getD undef = .agg #[.slice a X.length c, .int .i64 r] := hdep 0 _ (by kernel_rfl) rfl
        clear hdep hoff
        have HG : Hid (Below W0.heap.size W0 W) := hG
        have HC : Hid _ := HRt.out W hG
        clear hG
        go_simp
        refine Calls.mono HC.out ?_
        rintro e w' ⟨rfl, hb⟩
        exact hK _ _ (HG.out.trans (hb.mono HG.out.size)) (fun j u hj h => by
            rcases j with _|_|_|_|_|_|_|_|_|j
            · exact h
            · exact absurd rfl hj
            · exact h
            · exact h
            · exact h
            · exact h
            · exact h
            · exact h
            · exact h
            · trivial) (rfl)
      · obtain rfl := Option.some.inj ho
        have e1 : act.tmps[4]?.getD undef = .bool false := hdep 1 _ (by kernel_rfl) rfl
        clear hdep hoff hG
        go_simp
        exact hQ _ (rfl)
      · obtain rfl := Option.some.inj ho
        have hgd : act.tmps[5]?.getD undef = .bool false := hdep 2 _ (by kernel_rfl) rfl
        have hgd' := getD_bool hgd
        clear hdep hoff hG
        go_simp
        exact hQ _ (trivial)
      · obtain rfl := Option.some.inj ho
        have hgd : act.tmps[5]?.getD undef = .bool false := hdep 2 _ (by kernel_rfl) rfl
        have hgd' := getD_bool hgd
        clear hdep hoff hG
        go_simp
        exact hQ _ (trivial)
      · obtain rfl := Option.some.inj ho
        have hgd : act.tmps[5]?.getD undef = .bool false := hdep 2 _ (by kernel_rfl) rfl
        have hgd' := getD_bool hgd
        clear hdep hoff hG
        go_simp
        exact hQ _ (trivial)
      · obtain rfl := Option.some.inj ho
        have hgd : act.tmps[5]?.getD undef = .bool false := hdep 2 _ (by kernel_rfl) rfl
        have hgd' := getD_bool hgd
        clear hdep hoff hG
        go_simp
        exact hQ _ (trivial)
      · obtain rfl := Option.some.inj ho
        have e2 : act.tmps[5]?.getD undef = .bool false := hdep 2 _ (by kernel_rfl) rfl
        clear hdep hoff hG
        go_simp
        exact hQ _ (rfl)
      · obtain rfl := Option.some.inj ho
        have e7 : act.tmps[10]?.getD undef = .bool false := hdep 7 _ (by kernel_rfl) rfl
        clear hdep hoff hG
        go_simp
        exact hQ _ (rfl)
      · exact absurd ho (by simp)
    case fin =>
      intro V W hG hF
      have y8 : V (some 2) = .bool false := hF 8 _ rfl
      have HB2 : Hid (Below w.heap.size w W) := HB1.out.trans (hG.mono HB1.out.size)
      clear hF hG
      simp only [fillA, Act.put, List.setIfInBounds_toArray, List.set_cons_zero, List.set_cons_succ, y8]
      generalize V (some 3) = z3
      generalize V (some 4) = z4
      generalize V (some 5) = z5
      generalize V (some 6) = z6
      generalize V (some 7) = z7
      generalize V (some 8) = z8
      generalize V (some 9) = z9
      generalize V (some 10) = z10
      clear y8
      go_wp2_with fail
      go_ret
      exact ⟨false, rfl, ⟨fun q => by simp at q, fun q => absurd q.1 HR.out⟩, HB2.out⟩
end Go.Proofs.YthfemhpbamcpjaaGreatDoor
