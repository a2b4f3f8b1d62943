/- For every node and every place, and whatever stands behind: a node that the program's Put puts is got by its Get as it was, and what stands behind is left (more than the law plays with is let go by the law itself); what came in reads afterwards as before. The package schema's tables hold what the program's text lays into them when the call begins (the card ties that). -/
import Derived.Test.YtknfecclijoefaaDoorRows
import Derived.Test.YtknfecclijoefaaDoorCards
import Derived.Test.YtknfecclijoefaaDoorTie
import Derived.WalkKit
import Derived.ProofKit
import Derived.OpenShut
import Derived.ShutString
import Derived.Below
import Derived.Test.YtknfecclijoefaaDoorRSu
import Derived.Test.YtknfecclijoefaaDoorRBk
import Derived.Test.YtknfecclijoefaaDoorRSq
import Derived.ChangeOld
import Derived.LaidMore
import Derived.SevenTiedAt
namespace Go.Proofs.YtknfecclijoefaaDoor.recordBack
open Go.ChangeShapes Go.WideShapes Go.ChangeAt Go.RowKit
open Go.ChangeMaps (open_string shut_string)
set_option linter.unusedVariables false

theorem own : ownKnob Tryd.prog.godebug = none := by kernel_rfl
theorem laidOut : laidOutB Tryd.prog = true := by kernel_rfl

theorem grt_nil : grt6 [] = false := by decide
theorem got_back {S T : ByteArray} {N : Nd} {p : Int} {M : List ByteArray} (hP : PutIs N p [] S M 0) (hf : fine N.ints) (hp : p ≤ 16777216) (ht : N.texts.length ≤ 100) (hk : N.kids.length ≤ 300) :
    gNd (S ++ T) p M N.kids.length 0 0 = (N, S.size, 0) := by
  obtain ⟨h1, -, h3⟩ := hP
  obtain ⟨h4, rfl⟩ := h3 rfl
  have h5 := itF_len N.texts []
  have h6 := gNd_put (S ++ T) N p N.kids.length [] (itF [] N.texts) 0 T.data.toList (by rw [drop_zero_app, h4]) h1.symm hf hp (by simp at h5; omega) (fun s hs => ⟨rfl, (idx6_mem _ _).2 (itF_sub _ _ _ (.inr hs))⟩) (by omega) (Int.le_refl _)
  rw [h6, ← h4, list_sz, Nat.zero_add]

set_option maxRecDepth 10000 in
set_option maxHeartbeats 4000000 in
theorem walk (N0 : Nd) (a0 b0 k0 : Option Addr) (c0 d0 m0 : Nat) (a1 : Int) (a2 : ByteArray) (w : World) (w0 : IsNd w N0 a0 b0 k0) (w1 : (Lit.int .i64 a1).wf = true) (w2 : a2.size ≤ maxLen) (hT : Tabs12 w) :
    Calls Tryd.prog 5 #[.agg #[.int .i64 N0.kind, .slice a0 N0.ints.length c0, .slice b0 N0.texts.length d0, .slice k0 N0.kids.length m0], .int .i64 a1, .string a2] w fun e w' => e = .returned (.bool true) ∧ Below w.heap.size w w' := by
  have hp := wf64 w1
  have hm2 := w2
  unfold maxLen at hm2
  have HA : Hid (∀ W, Below w.heap.size w W → Calls Tryd.prog 10 #[] W fun e w' => e = .returned (.bool true) ∧ Below W.heap.size W w') := fun W hb => awake_any W (hT.on hb)
  have HN : Hid (IsNd w N0 a0 b0 k0) := w0
  have HT : Hid (Tabs12 w) := hT
  have HB0 : Hid (Below w.heap.size w (w.alloc (.cells #[.int .i64 N0.kind, .slice a0 N0.ints.length c0, .slice b0 N0.texts.length d0, .slice k0 N0.kids.length m0] 26))) := (Below.refl _ _).alloc (Nat.le_refl _) _
  have HA0 : Hid (AtN 26 (w.alloc (.cells #[.int .i64 N0.kind, .slice a0 N0.ints.length c0, .slice b0 N0.texts.length d0, .slice k0 N0.kids.length m0] 26)) w.heap.size #[.int .i64 N0.kind, .slice a0 N0.ints.length c0, .slice b0 N0.texts.length d0, .slice k0 N0.kids.length m0]) := AtN.new w 26 _
  have HTab := table_any none 0 0 0 [] (w.alloc (.cells #[.int .i64 N0.kind, .slice a0 N0.ints.length c0, .slice b0 N0.texts.length d0, .slice k0 N0.kids.length m0] 26)) (by simp) (fun i hi => by simp at hi) (by simp)
  rw [grt_nil] at HTab
  simp only [Bool.false_eq_true, if_false] at HTab
  have HTb : Hid _ := HTab
  clear w0 w1 w2 hT HTab
  go_enter Tryd.func5, Tryd.ntmps5
  go_wp2_with fail
  refine Calls.mono HTb.out ?_
  rintro e w1 ⟨g, gm, v, y, cap, b1, o1, rfl, hTb, hTx, hbl, hb1⟩
  have hs0 : (w.alloc (.cells #[.int .i64 N0.kind, .slice a0 N0.ints.length c0, .slice b0 N0.texts.length d0, .slice k0 N0.kids.length m0] 26)).heap.size = w.heap.size + 1 := by simp
  rw [hs0] at hTb
  have HP1 : Hid (Pw w w1 #[.int .i64 N0.kind, .slice a0 N0.ints.length c0, .slice b0 N0.texts.length d0, .slice k0 N0.kids.length m0] g gm v []) := ⟨HA0.out.belowAll hb1, hTb, HB0.out.trans (hb1.mono HB0.out.size)⟩
  clear HTb HA0 HB0 hb1 hTb hTx hbl hs0
  go_wp2_with fail
  refine Calls.mono (HA.out _ HP1.out.bel) ?_
  rintro e w2 ⟨rfl, hb2⟩
  have HP2 : Hid _ := HP1.out.more hb2
  clear HP1 hb2
  have q0 : w2.cell? ⟨w.heap.size, 0, none⟩ = some (.int .i64 N0.kind) := HP2.out.a.cell 0
  have q1 : w2.cell? ⟨w.heap.size, 1, none⟩ = some (.slice a0 N0.ints.length c0) := HP2.out.a.cell 1
  have q2 : w2.cell? ⟨w.heap.size, 2, none⟩ = some (.slice b0 N0.texts.length d0) := HP2.out.a.cell 2
  have q3 : w2.cell? ⟨w.heap.size, 3, none⟩ = some (.slice k0 N0.kids.length m0) := HP2.out.a.cell 3
  go_wp2_with fail
  refine Calls.mono (great_any N0 a0 b0 k0 c0 d0 m0 w2 (HN.out.at_.t.belowB HP2.out.bel)) ?_
  rintro e w3 ⟨rfl, hb3⟩
  have HP3 : Hid _ := HP2.out.more hb3
  clear HP2 hb3 q0 q1 q2 q3
  cases hgr : great N0 with
  | true =>
    go_wp2_with fail
    refine Calls.mono (HA.out _ HP3.out.bel) ?_
    rintro e w4 ⟨rfl, hb4⟩
    have HB4 : Hid (Below w.heap.size w w4) := (HP3.out.more hb4).bel
    clear HP3 hb4
    go_wp2_with fail
    go_ret
    exact ⟨rfl, HB4.out⟩
  | false =>
    by_cases hsz : a2.size ≤ 100
    · have hsz' : ¬ (100 : Int) < a2.size := by omega
      obtain ⟨n1, n2, n3, n4⟩ := great_no hgr
      have HS : Hid (∀ s ∈ N0.texts, s.size ≤ 500) := n4
      clear hgr n4 HA
      have q0 : w3.cell? ⟨w.heap.size, 0, none⟩ = some (.int .i64 N0.kind) := HP3.out.a.cell 0
      have q1 : w3.cell? ⟨w.heap.size, 1, none⟩ = some (.slice a0 N0.ints.length c0) := HP3.out.a.cell 1
      have q2 : w3.cell? ⟨w.heap.size, 2, none⟩ = some (.slice b0 N0.texts.length d0) := HP3.out.a.cell 2
      have q3 : w3.cell? ⟨w.heap.size, 3, none⟩ = some (.slice k0 N0.kids.length m0) := HP3.out.a.cell 3
      go_wp2_with fail
      refine Calls.mono (rcopy_any N0 a0 b0 k0 c0 d0 m0 w3 (HN.out.at_.belowB HP3.out.bel) n1 n2 n3) ?_
      rintro e w4 ⟨u1, e1, u2, e2, u3, e3, rfl, hO, hb4⟩
      have HP4 : Hid _ := HP3.out.more hb4
      have HO : Hid (∀ W, Fr (TbS g gm v) w4 W → NdAt W N0 u1 u2 u3) := fun W k => hO.frAt k (fun i hi => HP3.out.tb.lt i hi)
      clear HP3 hb4 hO q0 q1 q2 q3
      go_wp2_with fail
      refine Calls.mono (pput_any N0 u1 u2 u3 e1 e2 e3 a1 w4 HP4.out.tb (by simp) (by simp [sum6]) (HT.out.on HP4.out.bel) HO.out (fine_of HN.out.i) n1 n2 (by omega) HS.out hp.2) ?_
      rintro e w5 ⟨S, M2, k, rfl, hP, hI⟩
      obtain ⟨v2, hp5, hf5, hr5⟩ := HP4.out.put hI
      have HP5 : Hid _ := hp5
      have HPI : Hid _ := hP
      clear HP4 HO hP hI hp5 hf5 hr5
      by_cases hk : k = 0
      · subst hk
        have hS : S.size ≤ 20 + 10 * 500 := by
          have h1 := (rB_len N0 a1 []).2
          rw [← (HPI.out.2.2 rfl).1, list_sz] at h1
          omega
        by_cases hat : a1 ≤ 16777216
        · have hat' : ¬ (16777216 : Int) < a1 := by omega
          have A1 := fun (W : World) => run_string_add_sum (P := Tryd.prog) W S a2 (by omega)
          have HG1 : Hid _ := got_back (T := a2) HPI.out (fine_of HN.out.i) hat n2 n3
          obtain ⟨V, hV⟩ : ∃ V, S ++ a2 = V := ⟨_, rfl⟩
          have zV : V.size = S.size + a2.size := by rw [← hV, ByteArray.size_append]
          rw [hV] at HG1 A1
          have hM2 : M2.length ≤ 100 := by have := PutIs.len HPI.out; simp at this; omega
          clear HPI hV
          go_wp2_with fail
          refine Calls.mono (cnew_any V w5) ?_
          rintro e w6 ⟨rfl, hw6⟩
          have HNt : Hid (¬ TbS g gm v2 w5.heap.size) := fun q => by have := HP5.out.tb.lt _ q; omega
          have hgc : w.heap.size < w5.heap.size := HP5.out.a.lt
          have HP6 : Hid _ := HP5.out.more (show Below w5.heap.size w5 w6 by rw [hw6]; exact (Below.refl _ _).alloc (Nat.le_refl _) _)
          have HC6 : Hid (Cu w6 w5.heap.size V 0 0) := by rw [hw6]; exact At3.new w5 _ _ _ _
          clear HP5 hw6 A1
          generalize w5.heap.size = gc at *
          have q3 : w6.cell? ⟨w.heap.size, 3, none⟩ = some (.slice k0 N0.kids.length m0) := HP6.out.a.cell 3
          go_wp2_with fail
          have HG := pget_any V gc a1 N0.kids.length 0 0 w6 HC6.out (by omega) (by omega) (fun W hW => ⟨(HP6.out.cur hW hgc HNt.out).tb, HT.out.on (HP6.out.cur hW hgc HNt.out).bel⟩) (by omega)
          rw [HG1.out] at HG
          refine Calls.mono HG ?_
          rintro e w7 ⟨t1, i1, t2, i2, t3, i3, rfl, hO, hcu, hgr⟩
          dsimp only at hO hcu ⊢
          have hp7 := HP6.out.cur hgr hgc HNt.out
          have hbl : Below w7.heap.size w7 (w7.alloc (.cells #[.int .i64 N0.kind, .slice t1 N0.ints.length i1, .slice t2 N0.texts.length i2, .slice t3 N0.kids.length i3] 26)) := (Below.refl _ _).alloc (Nat.le_refl _) _
          have HP7 : Hid _ := hp7.more hbl
          have HC7 : Hid (Cu (w7.alloc (.cells #[.int .i64 N0.kind, .slice t1 N0.ints.length i1, .slice t2 N0.texts.length i2, .slice t3 N0.kids.length i3] 26)) gc V S.size 0) := At3.belowAll hcu hbl
          have HN7 : Hid (NdAt (w7.alloc (.cells #[.int .i64 N0.kind, .slice t1 N0.ints.length i1, .slice t2 N0.texts.length i2, .slice t3 N0.kids.length i3] 26)) N0 t1 t2 t3) := hO.ndAt.alloc _
          have hlt7 : w.heap.size < w7.heap.size := hp7.a.lt
          have q0 : w7.cell? ⟨w.heap.size, 0, none⟩ = some (.int .i64 N0.kind) := hp7.a.cell 0
          have q1 : w7.cell? ⟨w.heap.size, 1, none⟩ = some (.slice a0 N0.ints.length c0) := hp7.a.cell 1
          have q2 : w7.cell? ⟨w.heap.size, 2, none⟩ = some (.slice b0 N0.texts.length d0) := hp7.a.cell 2
          have q3 : w7.cell? ⟨w.heap.size, 3, none⟩ = some (.slice k0 N0.kids.length m0) := hp7.a.cell 3
          clear HG HP6 HC6 hO hcu hgr hp7 hbl HG1
          go_wp2_with fail
          refine Calls.mono (same8_any N0 N0 t1 t2 t3 a0 b0 k0 i1 i2 i3 c0 d0 m0 _ HN7.out (HN.out.at_.belowB HP7.out.bel) n1 n2 n3) ?_
          rintro e w8 ⟨rfl, hb8⟩
          rw [(sameB_iff N0 N0).2 rfl]
          have HP8 : Hid _ := HP7.out.more hb8
          have HC8 : Hid (Cu w8 gc V S.size 0) := At3.belowAll HC7.out hb8
          clear HP7 HC7 HN7 hb8 q0 q1 q2 q3
          go_wp2_with fail
          refine Calls.mono (err_any w8 gc V S.size 0 HC8.out) ?_
          rintro e w9 ⟨rfl, hb9⟩
          have HP9 : Hid _ := HP8.out.more hb9
          have HC9 : Hid (Cu w9 gc V S.size 0) := At3.belowAll HC8.out hb9
          clear HP8 HC8 hb9
          go_wp2_with fail
          refine Calls.mono (left_bel w9 gc V S.size 0 HC9.out (by unfold maxLen; omega) (by omega) (by omega)) ?_
          rintro e w10 ⟨rfl, hb10⟩
          have HB : Hid (Below w.heap.size w w10) := (HP9.out.more hb10).bel
          have hle : (V.size : Int) - S.size = a2.size := by omega
          rw [hle]
          clear HP9 HC9 hb10
          go_wp2_with fail
          go_ret
          exact ⟨rfl, HB.out⟩
        · have hat' : (16777216 : Int) < a1 := by omega
          clear HPI
          go_wp2_with fail
          go_ret
          exact ⟨rfl, HP5.out.bel⟩
      · obtain ⟨rfl, rfl⟩ := HPI.out.2.1 hk
        have hk' : (k != 0) = true := by simpa using hk
        clear HPI
        go_wp2_with fail
        refine Calls.mono (tlen_any HP5.out.tb) ?_
        rintro e w6 ⟨rfl, hw6⟩
        rw [hw6]
        clear hw6
        go_wp2_with fail
        go_ret
        exact ⟨rfl, HP5.out.bel⟩
    · have hsz' : (100 : Int) < a2.size := by omega
      go_wp2_with fail
      refine Calls.mono (HA.out _ HP3.out.bel) ?_
      rintro e w4 ⟨rfl, hb4⟩
      have HB4 : Hid (Below w.heap.size w w4) := (HP3.out.more hb4).bel
      clear HP3 hb4
      go_wp2_with fail
      go_ret
      exact ⟨rfl, HB4.out⟩

set_option maxRecDepth 100000 in
theorem lifted (os : Os) (started : os.Started) (H : Type) (enc : TypeId × Value → H) :
    ReturnsInHanded {} Tryd.checked os 5 .any (fun w args => (Rows.recordBackSpec.pre enc Tryd.prog Tryd.f5 [] false w args ∧ laidMetH Tryd.prog laid2 w) ∧ sizedMet enc Tryd.prog Tryd.f5 (OpenSpec.ofChange Rows.recordBackSpec) false w args)
      (Rows.recordBackSpec.post enc Tryd.prog Tryd.f5 false true false false) := by
  refine returnsInHanded_of_change_and (C := Tryd.checked) (X := fun w _ => laidMetH Tryd.prog laid2 w) (fun _ _ _ hh h => h.of_heap hh) own started (by kernel_rfl) Tryd.func5
    (ChangeSpec.witness_shaped (enc := enc) (C := Tryd.checked) (os := os) (X := fun w _ => laidMetH Tryd.prog laid2 w) false (World.doorLaid Tryd.prog 400 os) #[.agg #[.int .i64 0, .slice none 0 0, .slice none 0 0, .slice none 0 0], .int .i64 0, .string ByteArray.empty] 8 rfl (World.shaped_of_RefB (by kernel_rfl) (by kernel_rfl)) (by kernel_rfl) (by kernel_rfl) (by kernel_rfl) (door_met os _)) ?_
  intro W base args ds gs before hval0 hW _ _ hL _
  have hval : ∀ (j : Nat) t v, Tryd.f5.params[j]? = some t → args[j]? = some v → Value.okWide Tryd.prog W .any base t v := hval0
  have hW' := hW
  obtain ⟨p, q, hA0, hV, rfl, hfz, hnd⟩ := hW
  have hA : DataW.TrodAll enc Tryd.prog W 0 (fun _ => true) true Tryd.f5.params.toList args.toList ds p := hA0
  rw [Tryd.params5] at hA hval
  obtain ⟨v0, vs0, d0, ds0, p0, q0, hargs, rfl, rfl, h0, r0⟩ := trodAll_cons hA
  obtain ⟨v1, vs1, d1, ds1, p1, q1, rfl, rfl, rfl, h1, r1⟩ := trodAll_cons r0
  obtain ⟨v2, vs2, d2, ds2, p2, q2, rfl, rfl, rfl, h2, r2⟩ := trodAll_cons r1
  obtain ⟨rfl, rfl, rfl⟩ := trodAll_nil r2
  obtain rfl : args = #[v0, v1, v2] := by cases args; simp_all
  obtain ⟨rfl, rfl⟩ := trodVars_none hV
  have K0 := h0
  have lt0 : ∀ x ∈ p0, x.block < W.heap.size := by obtain ⟨m, hm⟩ := K0; exact DataW.trod_lt m _ _ _ hm
  obtain ⟨N0, a0, b0, k0, c0, d0, m0, rfl, w0⟩ := open_node Tryd.underlying26 (by kernel_rfl) (by kernel_rfl) Tryd.underlying3 Tryd.underlying22 Tryd.underlying23 Tryd.underlying24 Tryd.underlying2 Tryd.underlying9 Tryd.underlying3 (by kernel_rfl) (by kernel_rfl) (by kernel_rfl) (hval 0 26 v0 rfl rfl) h0
  obtain ⟨a1, rfl, rfl, rfl, w1⟩ := open_int Tryd.underlying3 (hval 1 3 v1 rfl rfl) h1
  obtain ⟨a2, rfl, rfl, rfl, w2⟩ := open_string Tryd.underlying9 (hval 2 9 v2 rfl rfl) h2
  clear hA0 hval0
  refine (walk N0 a0 b0 k0 c0 d0 m0 a1 a2 W w0 w1 w2 (tabs_of hL)).mono fun e W' ⟨he, bel⟩ => ?_
  subst he
  exact ⟨_, rfl, _, _, _, [], _, [], hW', trodAll_mk1 (shut_bool Tryd.underlying4 _), (trodAll_cons_mk (Below.trod laidOut (by kernel_rfl) (of_decide_eq_true (by kernel_rfl)) K0 bel lt0) (trodAll_cons_mk (shut_int Tryd.underlying3 w1) (trodAll_cons_mk (shut_string Tryd.underlying9 w2) trodAll_mk0))), rfl, bel.frame _, fun h => by cases h⟩

theorem row : Rows.recordBackRow.holds Tryd.pinned (OpenSpec.ofChange Rows.recordBackSpec) :=
  OpenClaim.holds_of_wide 5 Tryd.f5 rfl rfl rfl rfl rfl rfl rfl ⟨rfl, rfl, rfl, rfl, rfl⟩ rfl rfl rfl rfl rfl (by kernel_rfl) Tryd.func5 (by kernel_rfl)
    (of_decide_eq_true (by kernel_rfl)) (by unfold Func.isWrapper; first | (rw [if_pos (by decide +kernel)]; kernel_rfl) | (rw [if_neg (by decide +kernel)]; exact ⟨rfl, rfl⟩))
    (fun os started H enc _ => lifted os started H enc)

/-- No parameter wants a stand-in; the program's own looks are as the card says. -/
theorem plain (f : FuncId) (fn : Func) (hf : Tryd.pinned.checked.prog.funcNamed Rows.recordBackRow.func = some f) (hfn : Tryd.pinned.checked.prog.funcs[f]? = some fn) :
    true = Tryd.pinned.checked.prog.looks [] ∧ ∀ (j : Nat) t, fn.params[j]? = some t → Tryd.pinned.checked.prog.wantsStandIn t = false := by
  obtain rfl : f = 5 := Option.some.inj ((show Tryd.prog.funcNamed Rows.recordBackRow.func = some 5 by kernel_rfl).symm.trans hf) |>.symm
  obtain rfl : fn = Tryd.f5 := (Option.some.inj (Tryd.func5.symm.trans hfn)).symm
  refine ⟨by kernel_rfl, fun j t ht => ?_⟩
  have hm := Array.mem_of_getElem? ht
  have hall : (Tryd.f5.params.toList.all fun u => !Tryd.prog.wantsStandIn u) = true := by kernel_rfl
  exact (show Tryd.prog.wantsStandIn t = false by simpa using List.all_eq_true.1 hall t (by simpa using hm))

/-- ████ THE CARD ████ -/
theorem over : Rows.RecordBackCardSaid :=
  Claim7.holds_tied_plain_at .later [] _ _ _ _ row (fun _ h => by cases h) (by kernel_rfl) (fun _ h => by cases h) recordBack_row_tie rfl ⟨rfl, rfl⟩ (by kernel_rfl) rfl plain (by kernel_rfl)

end Go.Proofs.YtknfecclijoefaaDoor.recordBack

namespace Go.Proofs.YtknfecclijoefaaDoor
theorem recordBack_holds : Rows.RecordBackCardSaid := recordBack.over
#print axioms recordBack_holds
end Go.Proofs.YtknfecclijoefaaDoor
