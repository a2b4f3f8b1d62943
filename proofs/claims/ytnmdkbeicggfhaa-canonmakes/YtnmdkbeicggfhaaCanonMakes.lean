/- For every scene: if the document says that nothing is wrong with how its nodes lead to each other, the program's Canon tells the document's canonical scene, and its Numbers the document's places; else Canon tells the document's error and an empty scene, and Numbers none (scenes greater than the law plays with are let go by the law itself); the argument reads afterwards as before. -/
import Derived.Test.YtnmdkbeicggfhaaRows
import Derived.WalkKit
import Derived.ProofKit
import Derived.OpenShut
import Derived.ShutString
import Derived.Below
import Derived.Test.YtnmdkbeicggfhaaCIs
import Derived.ChangeOld
namespace Go.Proofs.Ytnmdkbeicggfhaa.canonMakes
open Go.ChangeShapes Go.WideShapes Go.ChangeAt Go.RowKit
open Go.ChangeMaps (open_string shut_string)
set_option linter.unusedVariables false

theorem own : ownKnob Try.prog.godebug = none := by kernel_rfl
theorem laidOut : laidOutB Try.prog = true := by kernel_rfl

theorem intsB_self (A : List Nat) : intsB A A = true := by simp [intsB]

set_option maxRecDepth 10000 in
set_option maxHeartbeats 400000 in
theorem walk (X0 : List Nx) (a0 : Option Addr) (c0 : Nat) (r0 : Int) (w : World) (w0 : IsSc w a0 X0 r0) :
    Calls Try.prog 3 #[.agg #[.slice a0 X0.length c0, .int .i64 r0]] w fun e w' => e = .returned (.bool true) ∧ Below w.heap.size w w' := by
  have HA : Hid (∀ W, Calls Try.prog 9 #[] W fun e w' => e = .returned (.bool true) ∧ Below W.heap.size W w') := awake_any
  have HS : Hid (IsSc w a0 X0 r0) := w0
  have HL : Hid (Lw w (w.alloc (.cells #[.slice a0 X0.length c0, .int .i64 r0] 24)) a0 X0 c0 r0) := Lw.start w a0 X0 c0 r0
  clear w0
  go_enter Try.func3, Try.ntmps3
  go_wp2_with fail
  refine (HA.out _).mono ?_
  rintro e w1 ⟨rfl, hb1⟩
  have HL1 : Hid (Lw w w1 a0 X0 c0 r0) := HL.out.more hb1
  have x0 := HL1.out.c0
  have x1 := HL1.out.c1
  have HG : Hid (Calls Try.prog 10 #[.agg #[.slice a0 X0.length c0, .int .i64 r0]] w1 fun e w' => GreatOut X0 w1 w' e) := sgreat_any X0 a0 c0 r0 w1 (HL1.out.sc HS.out)
  clear HL hb1
  go_wp2_with fail
  refine Calls.mono HG.out ?_
  rintro e w2 ⟨g, rfl, hg, hb2⟩
  have HL2 : Hid (Lw w w2 a0 X0 c0 r0) := HL1.out.more hb2
  clear HG HL1 hb2 x0 x1
  cases g with
  | true =>
    go_wp2_with fail
    refine (HA.out _).mono ?_
    rintro e w3 ⟨rfl, hb3⟩
    have HB : Hid (Below w.heap.size w w3) := (HL2.out.more hb3).bel
    clear HL2 hb3
    go_wp2_with fail
    go_ret
    exact ⟨rfl, HB.out⟩
  | false =>
    have HSm : Hid (Small X0) := (hg rfl).1
    have x0 := HL2.out.c0
    have x1 := HL2.out.c1
    have HC : Hid (Calls Try.prog 12 #[.agg #[.slice a0 X0.length c0, .int .i64 r0]] w2 fun e w' => SCopyOut X0 r0 w2 w' e) := scopy_any X0 a0 c0 r0 w2 (HL2.out.sc HS.out) HSm.out
    clear hg HA
    go_wp2_with fail
    refine Calls.mono HC.out ?_
    rintro e w3' ⟨Y, ay, cy, rfl, hY, hs3, hb3⟩
    have HL3' : Hid (Lw w w3' a0 X0 c0 r0) := HL2.out.more hb3
    have HCn : Hid (Calls Try.prog 11 #[.agg #[.slice ay Y.length cy, .int .i64 r0]] w3' fun e w' => CanonOut Y r0 w3' w' e) := canon_any Y ay cy r0 w3' hs3 (same_small hY HSm.out)
    have HY : Hid (Y.map Nx.nd = X0.map Nx.nd) := hY
    clear HC HL2 hs3 hb3 x0 x1 hY
    by_cases hR : RightIs X0 r0
    · have HR : Hid (RightIs X0 r0) := hR
      clear hR
      go_wp2_with fail
      refine Calls.mono HCn.out ?_
      rintro e w3 ⟨hc, -, hb3⟩
      obtain ⟨Z, az, cz, rfl, hZ, hsZ⟩ := hc ((same_right HY.out).2 HR.out)
      rw [same_len HY.out]
      rw [same_cX HY.out HR.out] at hZ
      have HL3 : Hid (Lw w w3 a0 X0 c0 r0) := HL3'.out.more hb3
      have HZ : Hid (Z.map Nx.nd = cX X0 r0) := hZ
      have HW4 : Hid (∀ o : Obj, o = .cells #[.slice az Z.length cz, .int .i64 ((X0.length : Int) - 1)] 24 → AtN 24 (w3.alloc o) w3.heap.size #[.slice az Z.length cz, .int .i64 ((X0.length : Int) - 1)] ∧ ScAt (w3.alloc o) az Z ∧ Lw w (w3.alloc o) a0 X0 c0 r0) := by
        rintro _ rfl
        exact ⟨AtN.new w3 24 _, hsZ.alloc _, HL3.out.more ((Below.refl w3.heap.size w3).alloc (Nat.le_refl _) _)⟩
      have x0 : ∀ o, (w3.alloc o).cell? ⟨w.heap.size, 0, none⟩ = some (.slice a0 X0.length c0) := fun o => (HL3.out.at_.alloc o).cell 0
      have x1 : ∀ o, (w3.alloc o).cell? ⟨w.heap.size, 1, none⟩ = some (.int .i64 r0) := fun o => (HL3.out.at_.alloc o).cell 1
      clear HCn HL3' HL3 hb3 hZ hsZ hc HY
      go_wp2_with fail
      obtain ⟨hz4, hs4, hl4⟩ := HW4.out _ rfl
      refine (scopy_any X0 a0 c0 r0 _ (hl4.sc HS.out) HSm.out).mono ?_
      rintro e w5 ⟨Y, ay, cy, rfl, hY, hs5, hb5⟩
      have HW5 : Hid (AtN 24 w5 w3.heap.size #[.slice az Z.length cz, .int .i64 ((X0.length : Int) - 1)] ∧ ScAt w5 az Z ∧ Lw w w5 a0 X0 c0 r0) := ⟨hz4.belowAll hb5, hs4.belowB hb5, hl4.more hb5⟩
      have HCn : Hid (Calls Try.prog 13 #[.agg #[.slice ay Y.length cy, .int .i64 r0]] w5 fun e w' => NumOut Y r0 w5 w' e) := numbers_any Y ay cy r0 w5 hs5 (same_small hY HSm.out)
      have HY : Hid (Y.map Nx.nd = X0.map Nx.nd) := hY
      clear HW4 hz4 hs4 hl4 hb5 hs5 hY x0 x1
      go_wp2_with fail
      refine Calls.mono HCn.out ?_
      rintro e w6 ⟨hc, -, hb6⟩
      obtain ⟨gl, rfl, hgl⟩ := hc ((same_right HY.out).2 HR.out)
      rw [plX_cells, show plX Y r0 = plX X0 r0 by unfold plX; rw [same_len HY.out, same_oX HY.out]] at hgl
      rw [same_len HY.out]
      have HW6 : Hid (AtN 24 w6 w3.heap.size #[.slice az Z.length cz, .int .i64 ((X0.length : Int) - 1)] ∧ ScAt w6 az Z ∧ Lw w w6 a0 X0 c0 r0 ∧ LsAt w6 (some ⟨gl, 0, none⟩) (nV (plX X0 r0))) := ⟨HW5.out.1.belowAll hb6, HW5.out.2.1.belowB hb6, HW5.out.2.2.more hb6, at_ls hgl⟩
      clear HCn HW5 hb6 hgl hc HY
      have x0 := HW6.out.2.2.1.c0
      have x1 := HW6.out.2.2.1.c1
      have HCk : Hid (Calls Try.prog 14 #[.agg #[.slice a0 X0.length c0, .int .i64 r0]] w6 fun e w' => CheckOut X0 r0 w6 w' e) := rcheck_any X0 a0 c0 r0 w6 (HW6.out.2.2.1.sc HS.out) HSm.out
      go_wp2_with fail
      refine Calls.mono HCk.out ?_
      rintro e W0 ⟨n, z, rfl, hck, hb7⟩
      obtain ⟨rfl, rfl⟩ := hck.zero HR.out
      have HL7 : Hid (Lw w W0 a0 X0 c0 r0) := HW6.out.2.2.1.more hb7
      have HW7 : Hid (ScAt W0 az Z ∧ LsAt W0 (some ⟨gl, 0, none⟩) (nV (plX X0 r0))) := ⟨HW6.out.2.1.belowB hb7, HW6.out.2.2.2.belowB hb7⟩
      have hA7 : AtN 24 W0 w3.heap.size #[.slice az Z.length cz, .int .i64 ((X0.length : Int) - 1)] := HW6.out.1.belowAll hb7
      have z0 : W0.cell? ⟨w3.heap.size, 0, none⟩ = some (.slice az Z.length cz) := hA7.cell 0
      have z1 : W0.cell? ⟨w3.heap.size, 1, none⟩ = some (.int .i64 ((X0.length : Int) - 1)) := hA7.cell 1
      have hg1 := hA7.lt
      clear HCk HW6 hck hb7 x0 x1 hA7
      have x0 := HL7.out.c0
      have x1 := HL7.out.c1
      have hg0 := HL7.out.at_.lt
      have HCn : Hid (∀ W, Below W0.heap.size W0 W → Calls Try.prog 16 #[.agg #[.slice a0 X0.length c0, .int .i64 r0]] W fun e w' => RCanOut X0 r0 W w' e) := fun W hW => rcanon_any X0 a0 c0 r0 W ((HL7.out.sc HS.out).belowB hW) HSm.out HR.out
      have HSa : Hid (∀ W, Below W0.heap.size W0 W → ∀ (Y : List Nx) (a' : Option Addr) (c' : Nat), Y.map Nx.nd = cX X0 r0 → ScAt W a' Y → Calls Try.prog 15 #[.agg #[.slice az Z.length cz, .int .i64 ((X0.length : Int) - 1)], .agg #[.slice a' Y.length c', .int .i64 ((X0.length : Int) - 1)]] W fun e w' => e = .returned (.bool true) ∧ Below W.heap.size W w') := fun W hW Y a' c' hY hs => ssame_yes Z Y az a' cz c' _ W (HW7.out.1.belowB hW) hs ((can_ren HR.out HZ.out).small HSm.out) (by rw [hY, HZ.out])
      have HNu : Hid (∀ W, Below W0.heap.size W0 W → Calls Try.prog 18 #[.agg #[.slice a0 X0.length c0, .int .i64 r0]] W fun e w' => RNumOut X0 r0 W w' e) := fun W hW => rnumbers_any X0 a0 c0 r0 W ((HL7.out.sc HS.out).belowB hW) HSm.out HR.out
      have HIn : Hid (∀ W, Below W0.heap.size W0 W → ∀ (a' : Option Addr) (c' : Nat), LsAt W a' (nV (plX X0 r0)) → Calls Try.prog 17 #[.slice (some ⟨gl, 0, none⟩) X0.length X0.length, .slice a' X0.length c'] W fun e w' => e = .returned (.bool true) ∧ Below W.heap.size W w') := fun W hW a' c' hl => by
        have := ints_any (plX X0 r0) (plX X0 r0) (some ⟨gl, 0, none⟩) a' X0.length c' W (HW7.out.2.belowB hW) hl (by rw [plX_length]; have := HSm.out.1; omega)
        rw [plX_length, intsB_self] at this
        exact this
      clear HS HSm HR HZ HW7
      go_wp2_with fail
      refine facts_region6 (fun W => Below W0.heap.size W0 W) (fun i v W => match i with | 0 => v = .int .i64 0 | 1 => v = .bool true | 2 => v = .bool true | 3 => v = .agg #[.slice az Z.length cz, .int .i64 ((X0.length : Int) - 1)] | 4 => v = .agg #[.slice a0 X0.length c0, .int .i64 r0] | 5 => ∃ (Y : List Nx) (a' : Option Addr) (c' : Nat), v = .agg #[.slice a' Y.length c', .int .i64 ((X0.length : Int) - 1)] ∧ Y.map Nx.nd = cX X0 r0 ∧ ScAt W a' Y | 6 => v = .bool true | 7 => v = .bool true | 8 => v = .bool true | 9 => v = .slice (some ⟨gl, 0, none⟩) X0.length X0.length | 10 => v = .agg #[.slice a0 X0.length c0, .int .i64 r0] | 11 => ∃ (a' : Option Addr) (c' : Nat), v = .slice a' X0.length c' ∧ LsAt W a' (nV (plX X0 r0)) | 12 => v = .bool true | 13 => v = .bool true | 14 => v = .bool true | _ => True) (by kernel_rfl) (by kernel_rfl) (Below.refl _ _).drew ?step ?fin
      case step =>
        intro i' o' ho act W hG hoff hdep K hQ hK
        rcases i' with _|_|_|_|_|_|_|_|_|_|_|_|_|_|_|i'
        · obtain rfl := Option.some.inj ho
          have t4 : act.tmps[4]?.getD undef = .int .i64 0 := hoff 4 (by kernel_rfl)
          clear hdep hoff hG
          go_simp
          exact hQ _ (rfl)
        · obtain rfl := Option.some.inj ho
          have e0 : act.tmps[44]?.getD undef = .int .i64 0 := hdep 0 _ (by kernel_rfl) rfl
          clear hdep hoff hG
          go_simp
          exact hQ _ (rfl)
        · obtain rfl := Option.some.inj ho
          have e1 : act.tmps[45]?.getD undef = .bool true := hdep 1 _ (by kernel_rfl) rfl
          clear hdep hoff hG
          go_simp
          exact hQ _ (rfl)
        · obtain rfl := Option.some.inj ho
          have hgd : act.tmps[46]?.getD undef = .bool true := hdep 2 _ (by kernel_rfl) rfl
          have hgd' := getD_bool hgd
          have t3 : act.tmps[3]?.getD undef = .pointer (some ⟨w3.heap.size, 0, none⟩) := hoff 3 (by kernel_rfl)
          have c0W := (hG.cell (p := ⟨w3.heap.size, 0, none⟩) hg1).trans z0
          have c1W := (hG.cell (p := ⟨w3.heap.size, 1, none⟩) hg1).trans z1
          clear hdep hoff hG
          go_simp
          exact hQ _ (rfl)
        · obtain rfl := Option.some.inj ho
          have hgd : act.tmps[46]?.getD undef = .bool true := hdep 2 _ (by kernel_rfl) rfl
          have hgd' := getD_bool hgd
          have t1 : act.tmps[1]?.getD undef = .pointer (some ⟨w.heap.size, 0, none⟩) := hoff 1 (by kernel_rfl)
          have x0W := (hG.cell (p := ⟨w.heap.size, 0, none⟩) hg0).trans x0
          have x1W := (hG.cell (p := ⟨w.heap.size, 1, none⟩) hg0).trans x1
          clear hdep hoff hG
          go_simp
          exact hQ _ (rfl)
        · obtain rfl := Option.some.inj ho
          have hgd : act.tmps[46]?.getD undef = .bool true := hdep 2 _ (by kernel_rfl) rfl
          have hgd' := getD_bool hgd
          have e4 : act.tmps[48]?.getD undef = .agg #[.slice a0 X0.length c0, .int .i64 r0] := hdep 4 _ (by kernel_rfl) rfl
          clear hdep hoff
          have HG : Hid (Below W0.heap.size W0 W) := hG
          have HC : Hid _ := HCn.out W hG
          clear hG
          go_simp
          refine Calls.mono HC.out ?_
          rintro e w' ⟨Y, a', c', rfl, hY, hs, hb⟩
          exact hK _ _ (HG.out.trans (hb.mono HG.out.size)) (fun j u hj h => by
              rcases j with _|_|_|_|_|_|_|_|_|_|_|_|_|_|_|j
              · exact h
              · exact h
              · exact h
              · exact h
              · exact h
              · exact absurd rfl hj
              · exact h
              · exact h
              · exact h
              · exact h
              · exact h
              · obtain ⟨a', c', h1, h2⟩ := h; exact ⟨a', c', h1, h2.belowB hb⟩
              · exact h
              · exact h
              · exact h
              · trivial) (⟨Y, a', c', rfl, hY, hs⟩)
        · obtain rfl := Option.some.inj ho
          have hgd : act.tmps[46]?.getD undef = .bool true := hdep 2 _ (by kernel_rfl) rfl
          have hgd' := getD_bool hgd
          have e3 : act.tmps[47]?.getD undef = .agg #[.slice az Z.length cz, .int .i64 ((X0.length : Int) - 1)] := hdep 3 _ (by kernel_rfl) rfl
          have e5 : ∃ (Y : List Nx) (a' : Option Addr) (c' : Nat), act.tmps[49]?.getD undef = .agg #[.slice a' Y.length c', .int .i64 ((X0.length : Int) - 1)] ∧ Y.map Nx.nd = cX X0 r0 ∧ ScAt W a' Y := hdep 5 _ (by kernel_rfl) rfl
          clear hdep hoff
          obtain ⟨Y, a', c', e5', hY, hs⟩ := e5
          have HG : Hid (Below W0.heap.size W0 W) := hG
          have HC : Hid _ := HSa.out W hG Y a' c' hY hs
          clear hG
          go_simp
          refine Calls.mono HC.out ?_
          rintro e w' ⟨rfl, hb⟩
          exact hK _ _ (HG.out.trans (hb.mono HG.out.size)) (fun j u hj h => by
              rcases j with _|_|_|_|_|_|_|_|_|_|_|_|_|_|_|j
              · exact h
              · exact h
              · exact h
              · exact h
              · exact h
              · obtain ⟨Y, a', c', h1, h2, h3⟩ := h; exact ⟨Y, a', c', h1, h2, h3.belowB hb⟩
              · exact absurd rfl hj
              · exact h
              · exact h
              · exact h
              · exact h
              · obtain ⟨a', c', h1, h2⟩ := h; exact ⟨a', c', h1, h2.belowB hb⟩
              · exact h
              · exact h
              · exact h
              · trivial) (rfl)
        · obtain rfl := Option.some.inj ho
          have e2 : act.tmps[46]?.getD undef = .bool true := hdep 2 _ (by kernel_rfl) rfl
          have e6 : act.tmps[50]?.getD undef = .bool true := hdep 6 _ (by kernel_rfl) rfl
          clear hdep hoff hG
          go_simp
          exact hQ _ (rfl)
        · obtain rfl := Option.some.inj ho
          have e7 : act.tmps[51]?.getD undef = .bool true := hdep 7 _ (by kernel_rfl) rfl
          clear hdep hoff hG
          go_simp
          exact hQ _ (rfl)
        · obtain rfl := Option.some.inj ho
          have hgd : act.tmps[52]?.getD undef = .bool true := hdep 8 _ (by kernel_rfl) rfl
          have hgd' := getD_bool hgd
          have t5 : act.tmps[5]?.getD undef = .slice (some ⟨gl, 0, none⟩) X0.length X0.length := hoff 5 (by kernel_rfl)
          clear hdep hoff hG
          go_simp
          exact hQ _ (rfl)
        · obtain rfl := Option.some.inj ho
          have hgd : act.tmps[52]?.getD undef = .bool true := hdep 8 _ (by kernel_rfl) rfl
          have hgd' := getD_bool hgd
          have t1 : act.tmps[1]?.getD undef = .pointer (some ⟨w.heap.size, 0, none⟩) := hoff 1 (by kernel_rfl)
          have x0W := (hG.cell (p := ⟨w.heap.size, 0, none⟩) hg0).trans x0
          have x1W := (hG.cell (p := ⟨w.heap.size, 1, none⟩) hg0).trans x1
          clear hdep hoff hG
          go_simp
          exact hQ _ (rfl)
        · obtain rfl := Option.some.inj ho
          have hgd : act.tmps[52]?.getD undef = .bool true := hdep 8 _ (by kernel_rfl) rfl
          have hgd' := getD_bool hgd
          have e10 : act.tmps[54]?.getD undef = .agg #[.slice a0 X0.length c0, .int .i64 r0] := hdep 10 _ (by kernel_rfl) rfl
          clear hdep hoff
          have HG : Hid (Below W0.heap.size W0 W) := hG
          have HC : Hid _ := HNu.out W hG
          clear hG
          go_simp
          refine Calls.mono HC.out ?_
          rintro e w' ⟨a', c', rfl, hl, hb⟩
          exact hK _ _ (HG.out.trans (hb.mono HG.out.size)) (fun j u hj h => by
              rcases j with _|_|_|_|_|_|_|_|_|_|_|_|_|_|_|j
              · exact h
              · exact h
              · exact h
              · exact h
              · exact h
              · obtain ⟨Y, a', c', h1, h2, h3⟩ := h; exact ⟨Y, a', c', h1, h2, h3.belowB hb⟩
              · exact h
              · exact h
              · exact h
              · exact h
              · exact h
              · exact absurd rfl hj
              · exact h
              · exact h
              · exact h
              · trivial) (⟨a', c', rfl, hl⟩)
        · obtain rfl := Option.some.inj ho
          have hgd : act.tmps[52]?.getD undef = .bool true := hdep 8 _ (by kernel_rfl) rfl
          have hgd' := getD_bool hgd
          have e9 : act.tmps[53]?.getD undef = .slice (some ⟨gl, 0, none⟩) X0.length X0.length := hdep 9 _ (by kernel_rfl) rfl
          have e11 : ∃ (a' : Option Addr) (c' : Nat), act.tmps[55]?.getD undef = .slice a' X0.length c' ∧ LsAt W a' (nV (plX X0 r0)) := hdep 11 _ (by kernel_rfl) rfl
          clear hdep hoff
          obtain ⟨a', c', e11', hl⟩ := e11
          have HG : Hid (Below W0.heap.size W0 W) := hG
          have HC : Hid _ := HIn.out W hG a' c' hl
          clear hG
          go_simp
          refine Calls.mono HC.out ?_
          rintro e w' ⟨rfl, hb⟩
          exact hK _ _ (HG.out.trans (hb.mono HG.out.size)) (fun j u hj h => by
              rcases j with _|_|_|_|_|_|_|_|_|_|_|_|_|_|_|j
              · exact h
              · exact h
              · exact h
              · exact h
              · exact h
              · obtain ⟨Y, a', c', h1, h2, h3⟩ := h; exact ⟨Y, a', c', h1, h2, h3.belowB hb⟩
              · exact h
              · exact h
              · exact h
              · exact h
              · exact h
              · obtain ⟨a', c', h1, h2⟩ := h; exact ⟨a', c', h1, h2.belowB hb⟩
              · exact absurd rfl hj
              · exact h
              · exact h
              · trivial) (rfl)
        · obtain rfl := Option.some.inj ho
          have e8 : act.tmps[52]?.getD undef = .bool true := hdep 8 _ (by kernel_rfl) rfl
          have e12 : act.tmps[56]?.getD undef = .bool true := hdep 12 _ (by kernel_rfl) rfl
          clear hdep hoff hG
          go_simp
          exact hQ _ (rfl)
        · obtain rfl := Option.some.inj ho
          have e13 : act.tmps[57]?.getD undef = .bool true := hdep 13 _ (by kernel_rfl) rfl
          clear hdep hoff hG
          go_simp
          exact hQ _ (rfl)
        · exact absurd ho (by simp)
      case fin =>
        intro V W hG hF
        have y14 : V (some 2) = .bool true := hF 14 _ rfl
        have HB : Hid (Below w.heap.size w W) := (HL7.out.more hG).bel
        clear hF hG HL7
        simp only [fillA, Act.put, List.setIfInBounds_toArray, List.set_cons_zero, List.set_cons_succ, y14]
        generalize V (some 44) = z44
        generalize V (some 45) = z45
        generalize V (some 46) = z46
        generalize V (some 47) = z47
        generalize V (some 48) = z48
        generalize V (some 49) = z49
        generalize V (some 50) = z50
        generalize V (some 51) = z51
        generalize V (some 52) = z52
        generalize V (some 53) = z53
        generalize V (some 54) = z54
        generalize V (some 55) = z55
        generalize V (some 56) = z56
        generalize V (some 57) = z57
        clear y14
        go_wp2_with fail
        go_ret
        exact ⟨rfl, HB.out⟩
    · have HR : Hid (¬ RightIs X0 r0) := hR
      clear hR
      go_wp2_with fail
      refine Calls.mono HCn.out ?_
      rintro e w3 ⟨-, hc, hb3⟩
      obtain ⟨n1, z1, rfl, hck1, hn1⟩ := hc (fun q => HR.out ((same_right HY.out).1 q))
      have HL3 : Hid (Lw w w3 a0 X0 c0 r0) := HL3'.out.more hb3
      have HK1 : Hid (CheckIs X0 r0 n1 z1) := same_check HY.out hck1
      have HW4 : Hid (∀ o : Obj, o = .cells #[.slice none 0 0, .int .i64 0] 24 → AtN 24 (w3.alloc o) w3.heap.size #[.slice none 0 0, .int .i64 0] ∧ Lw w (w3.alloc o) a0 X0 c0 r0) := by
        rintro _ rfl
        exact ⟨AtN.new w3 24 _, HL3.out.more ((Below.refl w3.heap.size w3).alloc (Nat.le_refl _) _)⟩
      have x0 : ∀ o, (w3.alloc o).cell? ⟨w.heap.size, 0, none⟩ = some (.slice a0 X0.length c0) := fun o => (HL3.out.at_.alloc o).cell 0
      have x1 : ∀ o, (w3.alloc o).cell? ⟨w.heap.size, 1, none⟩ = some (.int .i64 r0) := fun o => (HL3.out.at_.alloc o).cell 1
      clear HCn HL3' HL3 hb3 hc HY hck1
      go_wp2_with fail
      obtain ⟨hz4, hl4⟩ := HW4.out _ rfl
      refine (scopy_any X0 a0 c0 r0 _ (hl4.sc HS.out) HSm.out).mono ?_
      rintro e w5 ⟨Y, ay, cy, rfl, hY, hs5, hb5⟩
      have HW5 : Hid (AtN 24 w5 w3.heap.size #[.slice none 0 0, .int .i64 0] ∧ Lw w w5 a0 X0 c0 r0) := ⟨hz4.belowAll hb5, hl4.more hb5⟩
      have HCn : Hid (Calls Try.prog 13 #[.agg #[.slice ay Y.length cy, .int .i64 r0]] w5 fun e w' => NumOut Y r0 w5 w' e) := numbers_any Y ay cy r0 w5 hs5 (same_small hY HSm.out)
      have HY : Hid (Y.map Nx.nd = X0.map Nx.nd) := hY
      clear HW4 hz4 hl4 hb5 hs5 hY x0 x1
      go_wp2_with fail
      refine Calls.mono HCn.out ?_
      rintro e w6 ⟨-, hc, hb6⟩
      obtain rfl := hc (fun q => HR.out ((same_right HY.out).1 q))
      have HW6 : Hid (AtN 24 w6 w3.heap.size #[.slice none 0 0, .int .i64 0] ∧ Lw w w6 a0 X0 c0 r0) := ⟨HW5.out.1.belowAll hb6, HW5.out.2.more hb6⟩
      clear HCn HW5 hb6 hc HY
      have x0 := HW6.out.2.c0
      have x1 := HW6.out.2.c1
      have HCk : Hid (Calls Try.prog 14 #[.agg #[.slice a0 X0.length c0, .int .i64 r0]] w6 fun e w' => CheckOut X0 r0 w6 w' e) := rcheck_any X0 a0 c0 r0 w6 (HW6.out.2.sc HS.out) HSm.out
      go_wp2_with fail
      refine Calls.mono HCk.out ?_
      rintro e w7 ⟨n, z, rfl, hck, hb7⟩
      obtain ⟨rfl, -⟩ := HK1.out.uniq hck
      have HW7 : Hid (AtN 24 w7 w3.heap.size #[.slice none 0 0, .int .i64 0] ∧ Lw w w7 a0 X0 c0 r0) := ⟨HW6.out.1.belowAll hb7, HW6.out.2.more hb7⟩
      have z0 : w7.cell? ⟨w3.heap.size, 0, none⟩ = some (.slice none 0 0) := HW7.out.1.cell 0
      have z1 : w7.cell? ⟨w3.heap.size, 1, none⟩ = some (.int .i64 0) := HW7.out.1.cell 1
      have HSa : Hid (Calls Try.prog 15 #[.agg #[.slice none 0 0, .int .i64 0], .agg #[.slice none 0 0, .int .i64 0]] w7 fun e w' => e = .returned (.bool true) ∧ Below w7.heap.size w7 w') := ssame_yes [] [] none none 0 0 0 w7 ⟨LsAt.nil _ _, fun i hi => by simp at hi⟩ ⟨LsAt.nil _ _, fun i hi => by simp at hi⟩ ⟨by simp, fun i hi => by simp at hi⟩ rfl
      clear HCk HW6 hck hb7 x0 x1 HS HSm HR HK1
      go_wp2_with fail
      refine Calls.mono HSa.out ?_
      rintro e w8 ⟨rfl, hb8⟩
      have HB : Hid (Below w.heap.size w w8) := (HW7.out.2.more hb8).bel
      clear HSa HW7 hb8 z0 z1
      go_wp2_with fail
      go_ret
      exact ⟨rfl, HB.out⟩

set_option maxRecDepth 100000 in
theorem lifted (os : Os) (started : os.Started) (H : Type) (enc : TypeId × Value → H) :
    ReturnsInHanded {} Try.checked os 3 .any (Rows.canonMakesSpec.pre6 enc Try.prog Try.f3 Rows.canonMakesRow.domain false) (Rows.canonMakesSpec.post enc Try.prog Try.f3 false true false false) := by
  refine returnsInHanded_of_change (C := Try.checked) own started (by kernel_rfl) Try.func3
    (ChangeSpec.witness6 (enc := enc) (C := Try.checked) false ⟨#[], #[.agg #[.slice none 0 0, .int .i64 0]], []⟩ 8 (by kernel_rfl) (by kernel_rfl) (by kernel_rfl) (by kernel_rfl)) ?_
  intro W base args ds gs before hval0 hW hcnd _
  have hval : ∀ (j : Nat) t v, Try.f3.params[j]? = some t → args[j]? = some v → Value.okWide Try.prog W .any base t v := hval0
  have hW' := hW
  obtain ⟨p, q, hA0, hV, rfl, hfz, hnd⟩ := hW
  have hA : DataW.TrodAll enc Try.prog W 0 (fun _ => true) true Try.f3.params.toList args.toList ds p := hA0
  rw [Try.params3] at hA hval
  obtain ⟨v0, vs0, d0, ds0, p0, q0, hargs, rfl, rfl, h0, r0⟩ := trodAll_cons hA
  obtain ⟨rfl, rfl, rfl⟩ := trodAll_nil r0
  obtain rfl : args = #[v0] := by cases args; simp_all
  obtain ⟨rfl, rfl⟩ := trodVars_none hV
  have K0 := h0
  have lt0 : ∀ x ∈ p0, x.block < W.heap.size := by obtain ⟨m, hm⟩ := K0; exact DataW.trod_lt m _ _ _ hm
  obtain ⟨X0, a0, c0, rt0, rfl, w0⟩ := open_scene Try.underlying24 (by kernel_rfl) (by kernel_rfl) Try.underlying22 Try.underlying3 Try.underlying40 (by kernel_rfl) rfl rfl rfl rfl (by kernel_rfl) (by kernel_rfl) (by kernel_rfl) (by kernel_rfl) Try.underlying3 Try.underlying37 Try.underlying38 Try.underlying31 Try.underlying2 Try.underlying9 Try.underlying3 (by kernel_rfl) (by kernel_rfl) (by kernel_rfl) (hval 0 24 v0 rfl rfl) h0
  clear hA0 hval0
  refine (walk X0 a0 c0 rt0 W w0).mono fun e W' ⟨he, bel⟩ => ?_
  subst he
  exact ⟨_, rfl, _, _, _, [], _, [], hW', trodAll_mk1 (shut_bool Try.underlying4 _), (trodAll_cons_mk (Below.trod laidOut (by kernel_rfl) (of_decide_eq_true (by kernel_rfl)) K0 bel lt0) trodAll_mk0), rfl, bel.frame _, fun h => by cases h⟩

theorem over : Rows.canonMakesRow.holds Try.pinned (OpenSpec.ofChange Rows.canonMakesSpec) :=
  OpenClaim.holds_of_wide 3 Try.f3 rfl rfl rfl rfl rfl rfl rfl ⟨rfl, rfl, rfl, rfl, rfl⟩ rfl rfl rfl rfl rfl (by kernel_rfl) Try.func3 (by kernel_rfl)
    (of_decide_eq_true (by kernel_rfl)) (by unfold Func.isWrapper; first | (rw [if_pos (by decide +kernel)]; kernel_rfl) | (rw [if_neg (by decide +kernel)]; exact ⟨rfl, rfl⟩))
    (fun os started H enc _ => lifted os started H enc)

end Go.Proofs.Ytnmdkbeicggfhaa.canonMakes

namespace Go.Proofs.Ytnmdkbeicggfhaa
theorem canonMakes_holds : Rows.CanonMakesSaid := canonMakes.over
#print axioms canonMakes_holds
end Go.Proofs.Ytnmdkbeicggfhaa
