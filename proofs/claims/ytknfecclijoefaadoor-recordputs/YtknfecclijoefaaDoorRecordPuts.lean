/- For every node, every place and all texts that a table has: the program's Put answers the record that the document says, or none for the reason that it says, and the table has the texts then that the document says (more than the law plays with is let go by the law itself); what came in reads afterwards as before. The package schema's tables hold what the program's text lays into them when the call begins (the card ties that). -/
import Derived.Test.YtknfecclijoefaaDoorRows
import Derived.Test.YtknfecclijoefaaDoorCards
import Derived.Test.YtknfecclijoefaaDoorTie
import Derived.WalkKit
import Derived.ProofKit
import Derived.OpenShut
import Derived.ShutString
import Derived.Below
import Derived.Test.YtknfecclijoefaaDoorRSt
import Derived.ChangeOld
import Derived.LaidMore
import Derived.SevenTiedAt
namespace Go.Proofs.YtknfecclijoefaaDoor.recordPuts
open Go.ChangeShapes Go.WideShapes Go.ChangeAt Go.RowKit
open Go.ChangeMaps (open_string shut_string)
set_option linter.unusedVariables false

theorem own : ownKnob Tryd.prog.godebug = none := by kernel_rfl
theorem laidOut : laidOutB Tryd.prog = true := by kernel_rfl

set_option maxRecDepth 10000 in
set_option maxHeartbeats 4000000 in
theorem walk (N0 : Nd) (a0 b0 k0 : Option Addr) (c0 d0 m0 : Nat) (a1 : Int) (a2 : Option Addr) (len2 cap2 : Nat) (L2 : List ByteArray) (w : World) (w0 : IsNd w N0 a0 b0 k0) (w1 : (Lit.int .i64 a1).wf = true) (w2 : IsTexts w a2 len2 cap2 L2) (hT : Tabs12 w) :
    Calls Tryd.prog 3 #[.agg #[.int .i64 N0.kind, .slice a0 N0.ints.length c0, .slice b0 N0.texts.length d0, .slice k0 N0.kids.length m0], .int .i64 a1, .slice a2 len2 cap2] w fun e w' => e = .returned (.bool true) ∧ Below w.heap.size w w' := by
  have hp := wf64 w1
  obtain ⟨b, o, hx, rfl, hxl⟩ := w2.tx
  have HA : Hid (∀ W, Below w.heap.size w W → Calls Tryd.prog 10 #[] W fun e w' => e = .returned (.bool true) ∧ Below W.heap.size W w') := fun W hb => awake_any W (hT.on hb)
  have HTab : Hid (∀ W, Below w.heap.size w W → Calls Tryd.prog 9 #[.slice a2 L2.length cap2] W fun e w' => if grt6 L2 = true then e = .returned (.tuple #[.pointer none, .slice none 0 0, .bool false]) ∧ Below W.heap.size W w' else TabOut W w' e (itF [] L2)) := fun W hb => table_any a2 cap2 b o L2 W hx.ptr (hx.at_.below hb) hxl
  have HN : Hid (IsNd w N0 a0 b0 k0) := w0
  have HT : Hid (Tabs12 w) := hT
  have HB0 : Hid (Below w.heap.size w (w.alloc (.cells #[.int .i64 N0.kind, .slice a0 N0.ints.length c0, .slice b0 N0.texts.length d0, .slice k0 N0.kids.length m0] 26))) := (Below.refl _ _).alloc (Nat.le_refl _) _
  have HA0 : Hid (AtN 26 (w.alloc (.cells #[.int .i64 N0.kind, .slice a0 N0.ints.length c0, .slice b0 N0.texts.length d0, .slice k0 N0.kids.length m0] 26)) w.heap.size #[.int .i64 N0.kind, .slice a0 N0.ints.length c0, .slice b0 N0.texts.length d0, .slice k0 N0.kids.length m0]) := AtN.new w 26 _
  have HGt : Hid (grt6 L2 = false → (itF [] L2).length ≤ 200 ∧ sum6 (itF [] L2) ≤ 100000) := fun q => by
    have h := itF_big q L2.length
    rw [List.take_length] at h
    exact ⟨h.1, h.2.1⟩
  clear w0 w1 w2 hT hx
  go_enter Tryd.func3, Tryd.ntmps3
  go_wp2_with fail
  refine Calls.mono (HTab.out _ HB0.out) ?_
  intro e w1 h1
  cases hg6 : grt6 L2 with
  | true =>
    rw [if_pos hg6] at h1
    obtain ⟨rfl, hb1⟩ := h1
    have HB1 : Hid (Below w.heap.size w w1) := HB0.out.trans (hb1.mono HB0.out.size)
    clear HTab HA0 HB0 hb1 HGt
    go_wp2_with fail
    refine Calls.mono (HA.out _ HB1.out) ?_
    rintro e w2 ⟨rfl, hb2⟩
    have HB2 : Hid (Below w.heap.size w w2) := HB1.out.trans (hb2.mono HB1.out.size)
    clear HB1 hb2
    go_wp2_with fail
    refine Calls.mono (HA.out _ HB2.out) ?_
    rintro e w3 ⟨rfl, hb3⟩
    have HB3 : Hid (Below w.heap.size w w3) := HB2.out.trans (hb3.mono HB2.out.size)
    clear HB2 hb3
    go_wp2_with fail
    go_ret
    exact ⟨rfl, HB3.out⟩
  | false =>
    rw [if_neg (by rw [hg6]; decide)] at h1
    obtain ⟨g, gm, v, y, cap, b1, o1, rfl, hTb, hTx, hbl, hb1⟩ := h1
    obtain ⟨hml, hms⟩ := HGt.out hg6
    have hs0 : (w.alloc (.cells #[.int .i64 N0.kind, .slice a0 N0.ints.length c0, .slice b0 N0.texts.length d0, .slice k0 N0.kids.length m0] 26)).heap.size = w.heap.size + 1 := by simp
    rw [hs0] at hTb hbl
    have HP1 : Hid (Pw w w1 #[.int .i64 N0.kind, .slice a0 N0.ints.length c0, .slice b0 N0.texts.length d0, .slice k0 N0.kids.length m0] g gm v (itF [] L2)) := ⟨HA0.out.belowAll hb1, hTb, HB0.out.trans (hb1.mono HB0.out.size)⟩
    have HX1 : Hid (TxI w1 y cap b1 o1 (itF [] L2)) := hTx
    have HBl : Hid (0 < (itF [] L2).length → ¬ TbS g gm v b1) := fun q => (hbl q).2
    clear HTab HA0 HB0 hb1 HGt hTb hTx hbl hs0 hg6 hxl
    generalize itF [] L2 = M at *
    go_wp2_with fail
    refine Calls.mono (HA.out _ HP1.out.bel) ?_
    rintro e w2 ⟨rfl, hb2⟩
    have HP2 : Hid _ := HP1.out.more hb2
    have HX2 : Hid _ := HX1.out.below hb2
    clear HP1 HX1 hb2
    have q0 : w2.cell? ⟨w.heap.size, 0, none⟩ = some (.int .i64 N0.kind) := HP2.out.a.cell 0
    have q1 : w2.cell? ⟨w.heap.size, 1, none⟩ = some (.slice a0 N0.ints.length c0) := HP2.out.a.cell 1
    have q2 : w2.cell? ⟨w.heap.size, 2, none⟩ = some (.slice b0 N0.texts.length d0) := HP2.out.a.cell 2
    have q3 : w2.cell? ⟨w.heap.size, 3, none⟩ = some (.slice k0 N0.kids.length m0) := HP2.out.a.cell 3
    go_wp2_with fail
    refine Calls.mono (great_any N0 a0 b0 k0 c0 d0 m0 w2 (HN.out.at_.t.belowB HP2.out.bel)) ?_
    rintro e w3 ⟨rfl, hb3⟩
    have HP3 : Hid _ := HP2.out.more hb3
    have HX3 : Hid _ := HX2.out.below hb3
    clear HP2 HX2 hb3 q0 q1 q2 q3
    cases hgr : great N0 with
    | true =>
      go_wp2_with fail
      refine Calls.mono (HA.out _ HP3.out.bel) ?_
      rintro e w4 ⟨rfl, hb4⟩
      have HB4 : Hid (Below w.heap.size w w4) := (HP3.out.more hb4).bel
      clear HP3 HX3 hb4
      go_wp2_with fail
      go_ret
      exact ⟨rfl, HB4.out⟩
    | false =>
      obtain ⟨n1, n2, n3, n4⟩ := great_no hgr
      have HGr : Hid (great N0 = false) := hgr
      have HS : Hid (∀ s ∈ N0.texts, s.size ≤ 500) := n4
      clear hgr n4 HA
      have q0 : w3.cell? ⟨w.heap.size, 0, none⟩ = some (.int .i64 N0.kind) := HP3.out.a.cell 0
      have q1 : w3.cell? ⟨w.heap.size, 1, none⟩ = some (.slice a0 N0.ints.length c0) := HP3.out.a.cell 1
      have q2 : w3.cell? ⟨w.heap.size, 2, none⟩ = some (.slice b0 N0.texts.length d0) := HP3.out.a.cell 2
      have q3 : w3.cell? ⟨w.heap.size, 3, none⟩ = some (.slice k0 N0.kids.length m0) := HP3.out.a.cell 3
      go_wp2_with fail
      refine Calls.mono (rcopy_any N0 a0 b0 k0 c0 d0 m0 w3 (HN.out.at_.belowB HP3.out.bel) n1 n2 n3) ?_
      rintro e w4 ⟨u1, e1, u2, e2, u3, e3, rfl, hO, hb4⟩
      have HP4 : Hid _ := HP3.out.more hb4
      have HX4 : Hid _ := HX3.out.below hb4
      have HO : Hid (∀ W, Fr (TbS g gm v) w4 W → NdAt W N0 u1 u2 u3) := fun W k => hO.frAt k (fun i hi => HP3.out.tb.lt i hi)
      clear HP3 HX3 hb4 hO q0 q1 q2 q3
      go_wp2_with fail
      refine Calls.mono (pput_any N0 u1 u2 u3 e1 e2 e3 a1 w4 HP4.out.tb (by omega) (by omega) (HT.out.on HP4.out.bel) HO.out (fine_of HN.out.i) n1 n2 (by omega) HS.out hp.2) ?_
      rintro e w5 ⟨S, M2, k, rfl, hP, hI⟩
      obtain ⟨v2, hp5, hf5, hr5⟩ := HP4.out.put hI
      have HP5 : Hid _ := hp5
      have HX5 : Hid (TxI w5 y cap b1 o1 M) := HX4.out.fr hf5 HBl.out
      have HPI : Hid _ := hP
      have hM2 : M2.length ≤ 1000000 := by have := hP.len; omega
      clear HP4 HX4 HO hP hI hp5 hf5 hr5 HBl
      have q0 : w5.cell? ⟨w.heap.size, 0, none⟩ = some (.int .i64 N0.kind) := HP5.out.a.cell 0
      have q1 : w5.cell? ⟨w.heap.size, 1, none⟩ = some (.slice a0 N0.ints.length c0) := HP5.out.a.cell 1
      have q2 : w5.cell? ⟨w.heap.size, 2, none⟩ = some (.slice b0 N0.texts.length d0) := HP5.out.a.cell 2
      have q3 : w5.cell? ⟨w.heap.size, 3, none⟩ = some (.slice k0 N0.kids.length m0) := HP5.out.a.cell 3
      go_wp2_with fail
      refine Calls.mono (rrput_any N0 a0 b0 k0 c0 d0 m0 a1 y cap b1 o1 M w5 (HN.out.at_.belowB HP5.out.bel) HGr.out (fine_of HN.out.i) hp.2 HX5.out (by omega)) ?_
      rintro e w6 ⟨S', y6, cap6, b6, o6, M', k', rfl, hx6, hP, hb6⟩
      obtain ⟨rfl, rfl, rfl⟩ := PutIs.uniq hP HPI.out
      have HP6 : Hid _ := HP5.out.more hb6
      have HX6 : Hid _ := hx6
      clear hP HPI HP5 HX5 hx6 hb6 q0 q1 q2 q3
      go_wp2_with fail
      refine Calls.mono (texts_any HP6.out.tb y6 cap6 b6 o6 M2 HX6.out.ptr HX6.out.at_ hM2) ?_
      rintro e w7 ⟨rfl, hw7⟩
      rw [hw7, decide_eq_true (show M2 = M2 from rfl)]
      clear hw7
      go_wp2_with fail
      go_ret
      exact ⟨rfl, HP6.out.bel⟩

set_option maxRecDepth 100000 in
theorem lifted (os : Os) (started : os.Started) (H : Type) (enc : TypeId × Value → H) :
    ReturnsInHanded {} Tryd.checked os 3 .any (fun w args => (Rows.recordPutsSpec.pre enc Tryd.prog Tryd.f3 [] false w args ∧ laidMetH Tryd.prog laid2 w) ∧ sizedMet enc Tryd.prog Tryd.f3 (OpenSpec.ofChange Rows.recordPutsSpec) false w args)
      (Rows.recordPutsSpec.post enc Tryd.prog Tryd.f3 false true false false) := by
  refine returnsInHanded_of_change_and (C := Tryd.checked) (X := fun w _ => laidMetH Tryd.prog laid2 w) (fun _ _ _ hh h => h.of_heap hh) own started (by kernel_rfl) Tryd.func3
    (ChangeSpec.witness_shaped (enc := enc) (C := Tryd.checked) (os := os) (X := fun w _ => laidMetH Tryd.prog laid2 w) false (World.doorLaid Tryd.prog 400 os) #[.agg #[.int .i64 0, .slice none 0 0, .slice none 0 0, .slice none 0 0], .int .i64 0, .slice none 0 0] 8 rfl (World.shaped_of_RefB (by kernel_rfl) (by kernel_rfl)) (by kernel_rfl) (by kernel_rfl) (by kernel_rfl) (door_met os _)) ?_
  intro W base args ds gs before hval0 hW _ _ hL _
  have hval : ∀ (j : Nat) t v, Tryd.f3.params[j]? = some t → args[j]? = some v → Value.okWide Tryd.prog W .any base t v := hval0
  have hW' := hW
  obtain ⟨p, q, hA0, hV, rfl, hfz, hnd⟩ := hW
  have hA : DataW.TrodAll enc Tryd.prog W 0 (fun _ => true) true Tryd.f3.params.toList args.toList ds p := hA0
  rw [Tryd.params3] at hA hval
  obtain ⟨v0, vs0, d0, ds0, p0, q0, hargs, rfl, rfl, h0, r0⟩ := trodAll_cons hA
  obtain ⟨v1, vs1, d1, ds1, p1, q1, rfl, rfl, rfl, h1, r1⟩ := trodAll_cons r0
  obtain ⟨v2, vs2, d2, ds2, p2, q2, rfl, rfl, rfl, h2, r2⟩ := trodAll_cons r1
  obtain ⟨rfl, rfl, rfl⟩ := trodAll_nil r2
  obtain rfl : args = #[v0, v1, v2] := by cases args; simp_all
  obtain ⟨rfl, rfl⟩ := trodVars_none hV
  have K0 := h0
  have lt0 : ∀ x ∈ p0, x.block < W.heap.size := by obtain ⟨m, hm⟩ := K0; exact DataW.trod_lt m _ _ _ hm
  obtain ⟨N0, a0, b0, k0, c0, d0, m0, rfl, w0⟩ := open_node Tryd.underlying26 (by kernel_rfl) (by kernel_rfl) Tryd.underlying3 Tryd.underlying22 Tryd.underlying23 Tryd.underlying24 Tryd.underlying2 Tryd.underlying9 Tryd.underlying3 (by kernel_rfl) (by kernel_rfl) (by kernel_rfl) (hval 0 26 v0 rfl rfl) h0
  obtain ⟨a1, rfl, rfl, rfl, w1⟩ := open_int Tryd.underlying3 (hval 1 3 v1 rfl rfl) h1
  obtain ⟨a2, len2, cap2, rfl⟩ := okWide_slice Tryd.underlying23 (hval 2 23 v2 rfl rfl)
  have k2 := h2
  have lt2 : ∀ x ∈ p2, x.block < W.heap.size := by obtain ⟨m, hm⟩ := k2; exact DataW.trod_lt m _ _ _ hm
  obtain ⟨L2, w2⟩ := open_texts Tryd.underlying23 Tryd.underlying9 (by kernel_rfl) h2
  clear hA0 hval0
  refine (walk N0 a0 b0 k0 c0 d0 m0 a1 a2 len2 cap2 L2 W w0 w1 w2 (tabs_of hL)).mono fun e W' ⟨he, bel⟩ => ?_
  subst he
  exact ⟨_, rfl, _, _, _, [], _, [], hW', trodAll_mk1 (shut_bool Tryd.underlying4 _), (trodAll_cons_mk (Below.trod laidOut (by kernel_rfl) (of_decide_eq_true (by kernel_rfl)) K0 bel lt0) (trodAll_cons_mk (shut_int Tryd.underlying3 w1) (trodAll_cons_mk (Below.trod laidOut (by kernel_rfl) (of_decide_eq_true (by kernel_rfl)) k2 bel lt2) trodAll_mk0))), rfl, bel.frame _, fun h => by cases h⟩

theorem row : Rows.recordPutsRow.holds Tryd.pinned (OpenSpec.ofChange Rows.recordPutsSpec) :=
  OpenClaim.holds_of_wide 3 Tryd.f3 rfl rfl rfl rfl rfl rfl rfl ⟨rfl, rfl, rfl, rfl, rfl⟩ rfl rfl rfl rfl rfl (by kernel_rfl) Tryd.func3 (by kernel_rfl)
    (of_decide_eq_true (by kernel_rfl)) (by unfold Func.isWrapper; first | (rw [if_pos (by decide +kernel)]; kernel_rfl) | (rw [if_neg (by decide +kernel)]; exact ⟨rfl, rfl⟩))
    (fun os started H enc _ => lifted os started H enc)

/-- No parameter wants a stand-in; the program's own looks are as the card says. -/
theorem plain (f : FuncId) (fn : Func) (hf : Tryd.pinned.checked.prog.funcNamed Rows.recordPutsRow.func = some f) (hfn : Tryd.pinned.checked.prog.funcs[f]? = some fn) :
    true = Tryd.pinned.checked.prog.looks [] ∧ ∀ (j : Nat) t, fn.params[j]? = some t → Tryd.pinned.checked.prog.wantsStandIn t = false := by
  obtain rfl : f = 3 := Option.some.inj ((show Tryd.prog.funcNamed Rows.recordPutsRow.func = some 3 by kernel_rfl).symm.trans hf) |>.symm
  obtain rfl : fn = Tryd.f3 := (Option.some.inj (Tryd.func3.symm.trans hfn)).symm
  refine ⟨by kernel_rfl, fun j t ht => ?_⟩
  have hm := Array.mem_of_getElem? ht
  have hall : (Tryd.f3.params.toList.all fun u => !Tryd.prog.wantsStandIn u) = true := by kernel_rfl
  exact (show Tryd.prog.wantsStandIn t = false by simpa using List.all_eq_true.1 hall t (by simpa using hm))

/-- ████ THE CARD ████ -/
theorem over : Rows.RecordPutsCardSaid :=
  Claim7.holds_tied_plain_at .later [] _ _ _ _ row (fun _ h => by cases h) (by kernel_rfl) (fun _ h => by cases h) recordPuts_row_tie rfl ⟨rfl, rfl⟩ (by kernel_rfl) rfl plain (by kernel_rfl)

end Go.Proofs.YtknfecclijoefaaDoor.recordPuts

namespace Go.Proofs.YtknfecclijoefaaDoor
theorem recordPuts_holds : Rows.RecordPutsCardSaid := recordPuts.over
#print axioms recordPuts_holds
end Go.Proofs.YtknfecclijoefaaDoor
