/- For every scene that is right and typed: of the bytes that the program's Put answers of its canonical scene, the program's Get answers just that, within the scene's own measure (scenes greater than the law plays with are let go by the law itself); the argument reads afterwards as before. The package schema's tables hold what the program's text lays into them when the call begins (the card ties them). -/
import Derived.Test.YthfemhpbamcpjaaGreatDoorRows
import Derived.Test.YthfemhpbamcpjaaGreatDoorCards
import Derived.Test.YthfemhpbamcpjaaGreatDoorTie
import Derived.WalkKit
import Derived.ProofKit
import Derived.OpenShut
import Derived.ShutString
import Derived.Below
import Derived.Test.YthfemhpbamcpjaaGreatDoorNRn
import Derived.Test.YthfemhpbamcpjaaGreatDoorNAw
import Derived.Test.YthfemhpbamcpjaaGreatDoorLM
import Derived.ChangeOld
import Derived.LaidMore
import Derived.SevenTiedAt
namespace Go.Proofs.YthfemhpbamcpjaaGreatDoor.nodesBack
open Go.ChangeShapes Go.WideShapes Go.ChangeAt Go.RowKit
open Go.ChangeMaps (open_string shut_string)
set_option linter.unusedVariables false
theorem own : ownKnob Tryz.prog.godebug = none := by kernel_rfl
theorem laidOut : laidOutB Tryz.prog = true := by kernel_rfl
theorem me_ok {X : List Nx} {d : Nat} (h1 : X.length ≤ 60) (h2 : edg X ≤ 60000) (h3 : d ≤ 60) (h4 : txb X ≤ 16777216) : okL (meL X d) = true := decide_eq_true ⟨⟨by show (0 : Int) ≤ 0; decide, by show (0 : Int) ≤ 16777216; decide⟩, ⟨by show (0 : Int) ≤ X.length; omega, by show (X.length : Int) ≤ 16777216; omega⟩, ⟨by show (0 : Int) ≤ (edg X : Nat); omega, by show ((edg X : Nat) : Int) ≤ 16777216; omega⟩, ⟨by show (0 : Int) ≤ (d : Nat); omega, by show ((d : Nat) : Int) ≤ 16777216; omega⟩, ⟨by show (0 : Int) ≤ (txb X : Nat); omega, by show ((txb X : Nat) : Int) ≤ 16777216; omega⟩⟩
theorem me_rg {X : List Nx} {d : Nat} (h1 : X.length ≤ 60) (h2 : edg X ≤ 60000) (h3 : d ≤ 60) (h4 : txb X ≤ 16777216) : ∀ i, i < 5 → -9223372036854775808 ≤ (lmL (meL X d)).getD i 0 ∧ (lmL (meL X d)).getD i 0 ≤ 9223372036854775807 := fun i hi => by
  rcases five_cases hi with rfl | rfl | rfl | rfl | rfl
  · exact ⟨by show (-9223372036854775808 : Int) ≤ 0; decide, by show (0 : Int) ≤ 9223372036854775807; decide⟩
  · exact ⟨by show (-9223372036854775808 : Int) ≤ X.length; omega, by show (X.length : Int) ≤ 9223372036854775807; omega⟩
  · exact ⟨by show (-9223372036854775808 : Int) ≤ (edg X : Nat); omega, by show ((edg X : Nat) : Int) ≤ 9223372036854775807; omega⟩
  · exact ⟨by show (-9223372036854775808 : Int) ≤ (d : Nat); omega, by show ((d : Nat) : Int) ≤ 9223372036854775807; omega⟩
  · exact ⟨by show (-9223372036854775808 : Int) ≤ (txb X : Nat); omega, by show ((txb X : Nat) : Int) ≤ 9223372036854775807; omega⟩
set_option maxRecDepth 10000 in
set_option maxHeartbeats 4000000 in
theorem walk (X0 : List Nx) (a0 : Option Addr) (c0 : Nat) (r0 : Int) (w : World) (w0 : IsSc w a0 X0 r0) (hT : Tabs12 w) :
    Calls Tryz.prog 5 #[.agg #[.slice a0 X0.length c0, .int .i64 r0]] w fun e w' => e = .returned (.bool true) ∧ Below w.heap.size w w' := by
  have HA : Hid (∀ W, Below w.heap.size w W → Calls Tryz.prog 7 #[] W fun e w' => e = .returned (.bool true) ∧ Below W.heap.size W w') := fun W hb => awake_any W (hT.on hb)
  have HT : Hid (Tabs12 w) := hT
  have HS : Hid (IsSc w a0 X0 r0) := w0
  have HL : Hid (Lw w (w.alloc (.cells #[.slice a0 X0.length c0, .int .i64 r0] 24)) a0 X0 c0 r0) := Lw.start w a0 X0 c0 r0
  clear w0 hT
  go_enter Tryz.func5, Tryz.ntmps5
  go_wp2_with fail
  refine Calls.mono (HA.out _ HL.out.bel) ?_
  rintro e w2 ⟨rfl, hb2⟩
  have HL2 : Hid (Lw w w2 a0 X0 c0 r0) := HL.out.more hb2
  clear HL hb2
  have xa0 := HL2.out.c0
  have xa1 := HL2.out.c1
  have HG : Hid (Calls Tryz.prog 8 #[.agg #[.slice a0 X0.length c0, .int .i64 r0]] w2 fun e w' => GreatOut X0 w2 w' e) := sgreat_any X0 a0 c0 r0 w2 (HL2.out.sc HS.out)
  go_wp2_with fail
  refine Calls.mono HG.out ?_
  rintro e w3 ⟨g, rfl, hg, hb3⟩
  have HL3 : Hid (Lw w w3 a0 X0 c0 r0) := HL2.out.more hb3
  clear HG HL2 hb3 xa0 xa1
  cases g with
  | true =>
    go_wp2_with fail
    refine Calls.mono (HA.out _ HL3.out.bel) ?_
    rintro e wz ⟨rfl, hbz⟩
    have HB : Hid (Below w.heap.size w wz) := (HL3.out.more hbz).bel
    clear HL3 hbz
    go_wp2_with fail
    go_ret
    exact ⟨rfl, HB.out⟩
  | false =>
    have HSm : Hid (Small X0 ∧ X0.length ≤ 60) := hg rfl
    have HFn : Hid (FnX X0) := HS.out.fn
    have xa0 := HL3.out.c0
    have xa1 := HL3.out.c1
    have HW : Hid _ := rwhole_any X0 a0 c0 r0 w3 (HL3.out.sc HS.out) HSm.out.1 HFn.out
    clear hg
    go_wp2_with fail
    refine Calls.mono HW.out ?_
    rintro e w4 ⟨bw, rfl, hbw, hb4⟩
    have HL4 : Hid (Lw w w4 a0 X0 c0 r0) := HL3.out.more hb4
    have HBw : Hid (bw = true ↔ Whole X0 r0) := hbw
    clear HW HL3 hb4 xa0 xa1 hbw
    cases bw with
    | false =>
      clear HBw
      go_wp2_with fail
      refine Calls.mono (HA.out _ HL4.out.bel) ?_
      rintro e wz ⟨rfl, hbz⟩
      have HB : Hid (Below w.heap.size w wz) := (HL4.out.more hbz).bel
      clear HL4 hbz
      go_wp2_with fail
      go_ret
      exact ⟨rfl, HB.out⟩
    | true =>
      have HWh : Hid (Whole X0 r0) := HBw.out.1 rfl
      have xa0 := HL4.out.c0
      have xa1 := HL4.out.c1
      have HC : Hid _ := rcanon_any X0 a0 c0 r0 w4 (HL4.out.sc HS.out) HSm.out.1 HWh.out.2
      clear HA HBw
      go_wp2_with fail
      refine Calls.mono HC.out ?_
      rintro e w5 ⟨Y, ay, cy, rfl, hY, hsY, hb5⟩
      obtain ⟨w6, hw6⟩ : ∃ w6, w5.alloc (.cells #[.slice ay Y.length cy, .int .i64 ((X0.length : Int) - 1)] 24) = w6 := ⟨_, rfl⟩
      have hb6 : Below w5.heap.size w5 w6 := by rw [← hw6]; exact (Below.refl w5.heap.size w5).alloc (Nat.le_refl _) _
      have HM6 : Hid (AtN 24 w6 w5.heap.size #[.slice ay Y.length cy, .int .i64 ((X0.length : Int) - 1)]) := by rw [← hw6]; exact AtN.new w5 24 _
      have HL6 : Hid (Lw w w6 a0 X0 c0 r0) := (HL4.out.more hb5).more hb6
      have HY6 : Hid (ScAt w6 ay Y) := hsY.belowB hb6
      have HYc : Hid (Y.map Nx.nd = cX X0 r0) := hY
      have hsm : Small Y ∧ FnX Y := ⟨(can_ren HWh.out.2 hY).small HSm.out.1, (can_ren HWh.out.2 hY).fnx HFn.out⟩
      have HSY : Hid (Small Y ∧ FnX Y) := hsm
      clear HC HL4 hb5 hb6 hsY hY hsm xa0 xa1
      have m0 : w6.cell? ⟨w5.heap.size, 0, none⟩ = some (.slice ay Y.length cy) := HM6.out.cell 0
      have m1 : w6.cell? ⟨w5.heap.size, 1, none⟩ = some (.int .i64 ((X0.length : Int) - 1)) := HM6.out.cell 1
      have HP : Hid _ := pnput_any Y ay cy ((X0.length : Int) - 1) w6 HY6.out HSY.out.1 HSY.out.2 (HT.out.on HL6.out.bel)
      go_wp2_with fail
      clear hw6
      refine Calls.mono HP.out ?_
      rintro e w7 ⟨A, C, k, rfl, hpu, hb7⟩
      obtain ⟨rfl, hbk⟩ := bk_of HSm.out.1 HSm.out.2 HFn.out HWh.out HYc.out hpu
      have HBk : Hid (Bk Y ((X0.length : Int) - 1) A C) := hbk
      have HM7 : Hid (AtN 24 w7 w5.heap.size #[.slice ay Y.length cy, .int .i64 ((X0.length : Int) - 1)]) := HM6.out.belowAll hb7
      have HL7 : Hid (Lw w w7 a0 X0 c0 r0) := HL6.out.more hb7
      have HY7 : Hid (ScAt w7 ay Y) := HY6.out.belowB hb7
      clear HP HL6 HM6 HY6 hb7 hpu hbk m0 m1
      obtain ⟨d, hd⟩ := depth_there X0 r0
      have HD : Hid (DepthIs X0 r0 d) := hd
      have xa0 := HL7.out.c0
      have xa1 := HL7.out.c1
      have HMe : Hid _ := rmeasure_any X0 a0 c0 r0 d w7 (HL7.out.sc HS.out) HSm.out.1 hd
      clear hd
      go_wp2_with fail
      refine Calls.mono HMe.out ?_
      rintro e w8 ⟨rfl, hb8⟩
      have HM8 : Hid (AtN 24 w8 w5.heap.size #[.slice ay Y.length cy, .int .i64 ((X0.length : Int) - 1)]) := HM7.out.belowAll hb8
      have HL8 : Hid (Lw w w8 a0 X0 c0 r0) := HL7.out.more hb8
      have HY8 : Hid (ScAt w8 ay Y) := HY7.out.belowB hb8
      clear HMe HL7 HM7 HY7 hb8 xa0 xa1
      have hren := can_ren HWh.out.2 HYc.out
      have e1 : Y.length = X0.length := hren.len
      have e2 : edg Y = edg X0 := hren.edg
      have e3 : txb Y = txb X0 := hren.txb
      have htb := HBk.out.tab
      have hed := HBk.out.edg
      have hd60 : d ≤ 60 := by
        obtain ⟨h, _, h2, h3⟩ := HD.out.2 HWh.out.2
        have hp := HBk.out.pos
        have hr := HWh.out.2.1
        have := of_decide_eq_true (show decide (0 ≤ r0 ∧ r0 < X0.length) = true from hr)
        have := (h3 r0.toNat (by omega)).2
        have := HSm.out.2
        omega
      have ht4 : txb X0 ≤ 16777216 := by rw [← e3]; exact htb.2.2.2
      have hok : okL (meL X0 d) = true := me_ok HSm.out.2 (by omega) hd60 ht4
      have hgt : GeIs A C (meL X0 d) (Y.map Nx.nd) ((X0.length : Int) - 1) 0 := HBk.out.got hok (by show ((txb X0 : Nat) : Int) = _; rw [← e3]; rfl) (by show (Y.length : Int) ≤ X0.length; omega) (by show ((edg Y : Nat) : Int) ≤ (edg X0 : Nat); omega) (can_depth HWh.out.2 HYc.out HD.out) (Int.le_refl _)
      have HGt : Hid (GeIs A C (meL X0 d) (Y.map Nx.nd) ((X0.length : Int) - 1) 0) := hgt
      obtain ⟨hszA, hszC⟩ := HBk.out.size
      have HPg : Hid (Calls Tryz.prog 12 #[.string A, .string C, .agg #[.int .i64 0, .int .i64 X0.length, .int .i64 (edg X0 : Nat), .int .i64 (d : Nat), .int .i64 (txb X0 : Nat)]] w8 fun e w' => GeOut A C (meL X0 d) w8 w' e) := pnget_any A C (meL X0 d) w8 (HT.out.on HL8.out.bel) hszA hszC (fun L hL => by
        have q := HBk.out.ks hok (by show ((txb X0 : Nat) : Int) = _; rw [← e3]; rfl) (by show (Y.length : Int) ≤ X0.length; omega) (by show ((edg Y : Nat) : Int) ≤ (edg X0 : Nat); omega)
        obtain ⟨_, _, _, _, L2, _, i2, _, _, _, _, i7⟩ := geK_inv (by rw [q])
        rw [i7] at q
        simp only [Prod.mk.injEq] at q
        rw [hL] at i2
        simp only [Prod.mk.injEq, true_and] at i2
        rw [i2, q.2.2]
        exact HBk.out.qn (by show (0 : Int) ≤ (edg X0 : Nat); omega)) (me_rg HSm.out.2 (by omega) hd60 ht4)
      clear hgt htb hed hok hszA hszC ht4 hd60 e1 e2 e3 hren HD
      go_wp2_with fail
      refine Calls.mono HPg.out ?_
      rintro e w9 ⟨Z, az, cz, rz, kz, rfl, hg9, hsZ, hsmZ, -, hb9⟩
      obtain ⟨hZ, rfl, rfl⟩ := HGt.out.uniq hg9
      obtain ⟨wa, hwa⟩ : ∃ wa, w9.alloc (.cells #[.slice az Z.length cz, .int .i64 ((X0.length : Int) - 1)] 24) = wa := ⟨_, rfl⟩
      have hba : Below w9.heap.size w9 wa := by rw [← hwa]; exact (Below.refl w9.heap.size w9).alloc (Nat.le_refl _) _
      have HNa : Hid (AtN 24 wa w9.heap.size #[.slice az Z.length cz, .int .i64 ((X0.length : Int) - 1)]) := by rw [← hwa]; exact AtN.new w9 24 _
      have HMa : Hid (AtN 24 wa w5.heap.size #[.slice ay Y.length cy, .int .i64 ((X0.length : Int) - 1)]) := (HM8.out.belowAll hb9).belowAll hba
      have HBa : Hid (Below w.heap.size w wa) := ((HL8.out.more hb9).more hba).bel
      have HSa : Hid _ := ssame_yes Z Y az ay cz cy ((X0.length : Int) - 1) wa (hsZ.belowB hba) ((HY8.out.belowB hb9).belowB hba) hsmZ hZ.symm
      clear HPg hg9 hsZ hsmZ hb9 hba hZ HM8 HL8 HY8 HGt HBk HSY HYc
      have m0 : wa.cell? ⟨w5.heap.size, 0, none⟩ = some (.slice ay Y.length cy) := HMa.out.cell 0
      have m1 : wa.cell? ⟨w5.heap.size, 1, none⟩ = some (.int .i64 ((X0.length : Int) - 1)) := HMa.out.cell 1
      have n0 : wa.cell? ⟨w9.heap.size, 0, none⟩ = some (.slice az Z.length cz) := HNa.out.cell 0
      have n1 : wa.cell? ⟨w9.heap.size, 1, none⟩ = some (.int .i64 ((X0.length : Int) - 1)) := HNa.out.cell 1
      go_wp2_with fail
      clear hwa
      refine Calls.mono HSa.out ?_
      rintro e wb ⟨rfl, hbb⟩
      have HBb : Hid (Below w.heap.size w wb) := HBa.out.trans (hbb.mono HBa.out.size)
      clear HSa hbb
      go_wp2_with fail
      go_ret
      exact ⟨rfl, HBb.out⟩
set_option maxRecDepth 100000 in
theorem lifted (os : Os) (started : os.Started) (H : Type) (enc : TypeId × Value → H) :
    ReturnsInHanded {} Tryz.checked os 5 .any (fun w args => (Rows.nodesBackSpec.pre enc Tryz.prog Tryz.f5 [] false w args ∧ laidMetH Tryz.prog laid2 w) ∧ sizedMet enc Tryz.prog Tryz.f5 (OpenSpec.ofChange Rows.nodesBackSpec) false w args)
      (Rows.nodesBackSpec.post enc Tryz.prog Tryz.f5 false true false false) := by
  refine returnsInHanded_of_change_and (C := Tryz.checked) (X := fun w _ => laidMetH Tryz.prog laid2 w) (fun _ _ _ hh h => h.of_heap hh) own started (by kernel_rfl) Tryz.func5
    (ChangeSpec.witness_shaped (enc := enc) (C := Tryz.checked) (os := os) (X := fun w _ => laidMetH Tryz.prog laid2 w) false (World.doorLaid Tryz.prog 400 os) #[.agg #[.slice none 0 0, .int .i64 0]] 8 rfl (World.shaped_of_RefB (by kernel_rfl) (by kernel_rfl)) (by kernel_rfl) (by kernel_rfl) (by kernel_rfl) (door_met os _)) ?_
  intro W base args ds gs before hval0 hW _ _ hL _
  have hval : ∀ (j : Nat) t v, Tryz.f5.params[j]? = some t → args[j]? = some v → Value.okWide Tryz.prog W .any base t v := hval0
  have hW' := hW
  obtain ⟨p, q, hA0, hV, rfl, hfz, hnd⟩ := hW
  have hA : DataW.TrodAll enc Tryz.prog W 0 (fun _ => true) true Tryz.f5.params.toList args.toList ds p := hA0
  rw [Tryz.params5] at hA hval
  obtain ⟨v0, vs0, d0, ds0, p0, q0, hargs, rfl, rfl, h0, r0⟩ := trodAll_cons hA
  obtain ⟨rfl, rfl, rfl⟩ := trodAll_nil r0
  obtain rfl : args = #[v0] := by cases args; simp_all
  obtain ⟨rfl, rfl⟩ := trodVars_none hV
  have K0 := h0
  have lt0 : ∀ x ∈ p0, x.block < W.heap.size := by obtain ⟨m, hm⟩ := K0; exact DataW.trod_lt m _ _ _ hm
  obtain ⟨X0, a0, c0, rt0, rfl, w0⟩ := open_scene Tryz.underlying24 (by kernel_rfl) (by kernel_rfl) Tryz.underlying22 Tryz.underlying3 Tryz.underlying49 (by kernel_rfl) rfl rfl rfl rfl (by kernel_rfl) (by kernel_rfl) (by kernel_rfl) (by kernel_rfl) Tryz.underlying3 Tryz.underlying45 Tryz.underlying46 Tryz.underlying47 Tryz.underlying2 Tryz.underlying9 Tryz.underlying3 (by kernel_rfl) (by kernel_rfl) (by kernel_rfl) (hval 0 24 v0 rfl rfl) h0
  clear hA0 hval0
  refine (walk X0 a0 c0 rt0 W w0 (tabs_of hL)).mono fun e W' ⟨he, bel⟩ => ?_
  subst he
  exact ⟨_, rfl, _, _, _, [], _, [], hW', trodAll_mk1 (shut_bool Tryz.underlying4 _), (trodAll_cons_mk (Below.trod laidOut (by kernel_rfl) (of_decide_eq_true (by kernel_rfl)) K0 bel lt0) trodAll_mk0), rfl, bel.frame _, fun h => by cases h⟩
theorem row : Rows.nodesBackRow.holds Tryz.pinned (OpenSpec.ofChange Rows.nodesBackSpec) :=
  OpenClaim.holds_of_wide 5 Tryz.f5 rfl rfl rfl rfl rfl rfl rfl ⟨rfl, rfl, rfl, rfl, rfl⟩ rfl rfl rfl rfl rfl (by kernel_rfl) Tryz.func5 (by kernel_rfl)
    (of_decide_eq_true (by kernel_rfl)) (by unfold Func.isWrapper; first | (rw [if_pos (by decide +kernel)]; kernel_rfl) | (rw [if_neg (by decide +kernel)]; exact ⟨rfl, rfl⟩))
    (fun os started H enc _ => lifted os started H enc)
theorem plain (f : FuncId) (fn : Func) (hf : Tryz.pinned.checked.prog.funcNamed Rows.nodesBackRow.func = some f) (hfn : Tryz.pinned.checked.prog.funcs[f]? = some fn) :
    true = Tryz.pinned.checked.prog.looks [] ∧ ∀ (j : Nat) t, fn.params[j]? = some t → Tryz.pinned.checked.prog.wantsStandIn t = false := by
  obtain rfl : f = 5 := Option.some.inj ((show Tryz.prog.funcNamed Rows.nodesBackRow.func = some 5 by kernel_rfl).symm.trans hf) |>.symm
  obtain rfl : fn = Tryz.f5 := (Option.some.inj (Tryz.func5.symm.trans hfn)).symm
  refine ⟨by kernel_rfl, fun j t ht => ?_⟩
  have hm := Array.mem_of_getElem? ht
  have hall : (Tryz.f5.params.toList.all fun u => !Tryz.prog.wantsStandIn u) = true := by kernel_rfl
  exact (show Tryz.prog.wantsStandIn t = false by simpa using List.all_eq_true.1 hall t (by simpa using hm))
theorem over : Rows.NodesBackCardSaid :=
  Claim7.holds_tied_plain_at .later [] _ _ _ _ row (fun _ h => by cases h) (by kernel_rfl) (fun _ h => by cases h) nodesBack_row_tie rfl ⟨rfl, rfl⟩ (by kernel_rfl) rfl plain (by kernel_rfl)
end Go.Proofs.YthfemhpbamcpjaaGreatDoor.nodesBack
namespace Go.Proofs.YthfemhpbamcpjaaGreatDoor
theorem nodesBack_holds : Rows.NodesBackCardSaid := nodesBack.over
#print axioms nodesBack_holds
end Go.Proofs.YthfemhpbamcpjaaGreatDoor
