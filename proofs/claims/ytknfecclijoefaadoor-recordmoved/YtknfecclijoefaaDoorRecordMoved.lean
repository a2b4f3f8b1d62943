/- For every node and every place and distance: where a node has a record, the same node with its kids as far ahead has the same record at the place that is as far on (more than the law plays with is let go by the law itself); what came in reads afterwards as before. The package schema's tables hold what the program's text lays into them when the call begins (the card ties that). -/
import Derived.Test.YtknfecclijoefaaDoorRows
import Derived.Test.YtknfecclijoefaaDoorCards
import Derived.Test.YtknfecclijoefaaDoorTie
import Derived.WalkKit
import Derived.ProofKit
import Derived.OpenShut
import Derived.ShutString
import Derived.Below
import Derived.Test.YtknfecclijoefaaDoorRMv
import Derived.ChangeOld
import Derived.LaidMore
import Derived.SevenTiedAt
namespace Go.Proofs.YtknfecclijoefaaDoor.recordMoved
open Go.ChangeShapes Go.WideShapes Go.ChangeAt Go.RowKit
open Go.ChangeMaps (open_string shut_string)
set_option linter.unusedVariables false

theorem own : ownKnob Tryd.prog.godebug = none := by kernel_rfl
theorem laidOut : laidOutB Tryd.prog = true := by kernel_rfl

theorem grt_nil : grt6 [] = false := by decide
theorem moved_yes {N : Nd} {p d : Int} {S S' : ByteArray} {M M' : List ByteArray} {k k' : Int} (h : PutIs N p [] S M k) (h' : PutIs (mvN N d) (p + d) [] S' M' k') (hd : 0 ≤ d) (hk : k = 0) : k' = 0 ∧ S' = S := by
  subst hk
  have h1 : k' = 0 := h'.1.trans (mvN_rE N p d hd h.1.symm)
  subst h1
  refine ⟨rfl, ?_⟩
  rw [text_of ((h'.2.2 rfl).1), text_of ((h.2.2 rfl).1), mvN_rB]
theorem few_ways {b : Bool} {x y : Int} (h : ¬ (b = false ∧ (0 ≤ x ∧ x ≤ 1048576) ∧ 0 ≤ y ∧ y ≤ 1048576)) : b = true ∨ (b = false ∧ x < 0) ∨ (b = false ∧ ¬ x < 0 ∧ (1048576 : Int) < x) ∨ (b = false ∧ ¬ x < 0 ∧ ¬ (1048576 : Int) < x ∧ y < 0) ∨ (b = false ∧ ¬ x < 0 ∧ ¬ (1048576 : Int) < x ∧ ¬ y < 0 ∧ (1048576 : Int) < y) := by
  cases b with
  | true => exact .inl rfl
  | false =>
    have hn : ¬ ((0 ≤ x ∧ x ≤ 1048576) ∧ 0 ≤ y ∧ y ≤ 1048576) := fun q => h ⟨rfl, q⟩
    by_cases h1 : x < 0
    · exact .inr (.inl ⟨rfl, h1⟩)
    by_cases h2 : (1048576 : Int) < x
    · exact .inr (.inr (.inl ⟨rfl, h1, h2⟩))
    by_cases h3 : y < 0
    · exact .inr (.inr (.inr (.inl ⟨rfl, h1, h2, h3⟩)))
    · exact .inr (.inr (.inr (.inr ⟨rfl, h1, h2, h3, by omega⟩)))

set_option maxRecDepth 10000 in
set_option maxHeartbeats 4000000 in
theorem walk (N0 : Nd) (a0 b0 k0 : Option Addr) (c0 d0 m0 : Nat) (a1 : Int) (a2 : Int) (w : World) (w0 : IsNd w N0 a0 b0 k0) (w1 : (Lit.int .i64 a1).wf = true) (w2 : (Lit.int .i64 a2).wf = true) (hT : Tabs12 w) :
    Calls Tryd.prog 8 #[.agg #[.int .i64 N0.kind, .slice a0 N0.ints.length c0, .slice b0 N0.texts.length d0, .slice k0 N0.kids.length m0], .int .i64 a1, .int .i64 a2] w fun e w' => e = .returned (.bool true) ∧ Below w.heap.size w w' := by
  have hp1 := wf64 w1
  have hp2 := wf64 w2
  have HA : Hid (∀ W, Below w.heap.size w W → Calls Tryd.prog 10 #[] W fun e w' => e = .returned (.bool true) ∧ Below W.heap.size W w') := fun W hb => awake_any W (hT.on hb)
  have HN : Hid (IsNd w N0 a0 b0 k0) := w0
  have HT : Hid (Tabs12 w) := hT
  have HB0 : Hid (Below w.heap.size w (w.alloc (.cells #[.int .i64 N0.kind, .slice a0 N0.ints.length c0, .slice b0 N0.texts.length d0, .slice k0 N0.kids.length m0] 26))) := (Below.refl _ _).alloc (Nat.le_refl _) _
  have HA0 : Hid (AtN 26 (w.alloc (.cells #[.int .i64 N0.kind, .slice a0 N0.ints.length c0, .slice b0 N0.texts.length d0, .slice k0 N0.kids.length m0] 26)) w.heap.size #[.int .i64 N0.kind, .slice a0 N0.ints.length c0, .slice b0 N0.texts.length d0, .slice k0 N0.kids.length m0]) := AtN.new w 26 _
  have HTab : Hid (∀ W : World, Calls Tryd.prog 9 #[.slice none 0 0] W fun e w' => TabOut W w' e []) := fun W => by
    have h := table_any none 0 0 0 [] W (by simp) (fun i hi => by simp at hi) (by simp)
    rw [grt_nil] at h
    simp only [Bool.false_eq_true, if_false] at h
    exact h
  clear w0 w1 w2 hT
  go_enter Tryd.func8, Tryd.ntmps8
  go_wp2_with fail
  refine Calls.mono (HTab.out _) ?_
  rintro e w1 ⟨g, gm, v, y, cap, b1, o1, rfl, hTb, hTx, hbl, hb1⟩
  have hs0 : (w.alloc (.cells #[.int .i64 N0.kind, .slice a0 N0.ints.length c0, .slice b0 N0.texts.length d0, .slice k0 N0.kids.length m0] 26)).heap.size = w.heap.size + 1 := by simp
  rw [hs0] at hTb
  have HP1 : Hid (Pw w w1 #[.int .i64 N0.kind, .slice a0 N0.ints.length c0, .slice b0 N0.texts.length d0, .slice k0 N0.kids.length m0] g gm v []) := ⟨HA0.out.belowAll hb1, hTb, HB0.out.trans (hb1.mono HB0.out.size)⟩
  clear HA0 HB0 hb1 hTb hTx hbl hs0
  go_wp2_with fail
  refine Calls.mono (HTab.out _) ?_
  rintro e w1' ⟨g2, gm2, v2, y', cap', b1', o1', rfl, hTb, hTx, hbl, hb1⟩
  have hlt1 : w.heap.size < w1.heap.size := HP1.out.a.lt
  have HAp : Hid (∀ k, TbS g gm v k → ¬ TbS g2 gm2 v2 k) := fun k hk q => by have := HP1.out.tb.lt k hk; have := hTb.ge k q; omega
  have HU1 : Hid (Tb w1' (w.heap.size + 1) g2 gm2 v2 []) := hTb.mono (by omega)
  have HP1' : Hid _ := HP1.out.more hb1
  clear HP1 HTab hTb hTx hbl hb1 hlt1
  go_wp2_with fail
  refine Calls.mono (HA.out _ HP1'.out.bel) ?_
  rintro e w2 ⟨rfl, hb2⟩
  have HP2 : Hid _ := HP1'.out.more hb2
  have HU2 : Hid _ := HU1.out.below hb2
  clear HP1' HU1 hb2
  have q0 : w2.cell? ⟨w.heap.size, 0, none⟩ = some (.int .i64 N0.kind) := HP2.out.a.cell 0
  have q1 : w2.cell? ⟨w.heap.size, 1, none⟩ = some (.slice a0 N0.ints.length c0) := HP2.out.a.cell 1
  have q2 : w2.cell? ⟨w.heap.size, 2, none⟩ = some (.slice b0 N0.texts.length d0) := HP2.out.a.cell 2
  have q3 : w2.cell? ⟨w.heap.size, 3, none⟩ = some (.slice k0 N0.kids.length m0) := HP2.out.a.cell 3
  go_wp2_with fail
  refine Calls.mono (great_any N0 a0 b0 k0 c0 d0 m0 w2 (HN.out.at_.t.belowB HP2.out.bel)) ?_
  rintro e w3 ⟨rfl, hb3⟩
  have HP3 : Hid _ := HP2.out.more hb3
  have HU3 : Hid _ := HU2.out.below hb3
  clear HP2 HU2 hb3 q0 q1 q2 q3
  by_cases hall : great N0 = false ∧ (0 ≤ a2 ∧ a2 ≤ 1048576) ∧ 0 ≤ a1 ∧ a1 ≤ 1048576
  · obtain ⟨hgr, ⟨hd0, hd1⟩, hq0, hq1⟩ := hall
    obtain ⟨n1, n2, n3, n4⟩ := great_no hgr
    have HS : Hid (∀ s ∈ N0.texts, s.size ≤ 500) := n4
    rw [hgr]
    have hi1 : ¬ a2 < 0 := by omega
    have hi2 : ¬ (1048576 : Int) < a2 := by omega
    have hi3 : ¬ a1 < 0 := by omega
    have hi4 : ¬ (1048576 : Int) < a1 := by omega
    clear hgr n4 HA
    have q0 : w3.cell? ⟨w.heap.size, 0, none⟩ = some (.int .i64 N0.kind) := HP3.out.a.cell 0
    have q1 : w3.cell? ⟨w.heap.size, 1, none⟩ = some (.slice a0 N0.ints.length c0) := HP3.out.a.cell 1
    have q2 : w3.cell? ⟨w.heap.size, 2, none⟩ = some (.slice b0 N0.texts.length d0) := HP3.out.a.cell 2
    have q3 : w3.cell? ⟨w.heap.size, 3, none⟩ = some (.slice k0 N0.kids.length m0) := HP3.out.a.cell 3
    go_wp2_with fail
    refine Calls.mono (rcopy_any N0 a0 b0 k0 c0 d0 m0 w3 (HN.out.at_.belowB HP3.out.bel) n1 n2 n3) ?_
    rintro e w4 ⟨u1, e1, u2, e2, u3, e3, rfl, hO, hb4⟩
    have hbl : Below w4.heap.size w4 (w4.alloc (.cells #[.int .i64 N0.kind, .slice u1 N0.ints.length e1, .slice u2 N0.texts.length e2, .slice u3 N0.kids.length e3] 26)) := (Below.refl _ _).alloc (Nat.le_refl _) _
    have HLo : Hid (∀ k, TbS g gm v k → k < w3.heap.size) := fun k hk => HP3.out.tb.lt k hk
    have HM4 : Hid (Mv w (w4.alloc (.cells #[.int .i64 N0.kind, .slice u1 N0.ints.length e1, .slice u2 N0.texts.length e2, .slice u3 N0.kids.length e3] 26)) #[.int .i64 N0.kind, .slice a0 N0.ints.length c0, .slice b0 N0.texts.length d0, .slice k0 N0.kids.length m0] g gm v g2 gm2 v2 [] [] w4.heap.size w3.heap.size N0 u1 u2 u3 e1 e2 e3 a2 0) :=
      ⟨(HP3.out.more hb4).more hbl, (HU3.out.below hb4).below hbl, HAp.out, fun k hk => HU3.out.lt k hk, AtN.new w4 26 _, by rw [mvK_zero]; exact hO.alloc _, HP3.out.a.lt, hb4.size, fun k hk => ⟨by have := HP3.out.tb.lt k hk; have := hb4.size; omega, .inl (HP3.out.tb.lt k hk)⟩⟩
    clear HP3 HU3 HAp hO hb4 hbl q0 q1 q2 q3
    go_wp2_with fail
    generalize w4.alloc (.cells #[.int .i64 N0.kind, .slice u1 N0.ints.length e1, .slice u2 N0.texts.length e2, .slice u3 N0.kids.length e3] 26) = W4 at *
    generalize w4.heap.size = nm at *
    generalize w3.heap.size = Bm at *
    have HLoB : Hid (∀ k, TbS g gm v k → k < Bm) := HLo.out
    clear HLo
    go_loopw [65] (fun iv wr => ∃ i : Nat, iv = .int .i64 i ∧ i ≤ N0.kids.length ∧ Hid (Mv w wr #[.int .i64 N0.kind, .slice a0 N0.ints.length c0, .slice b0 N0.texts.length d0, .slice k0 N0.kids.length m0] g gm v g2 gm2 v2 [] [] nm Bm N0 u1 u2 u3 e1 e2 e3 a2 i)) (fun iv _ => N0.kids.length - (intOf iv).toNat)
    case atStart => exact ⟨0, rfl, by omega, HM4⟩
    case round =>
      clear HM4
      obtain ⟨i, rfl, hi, HM⟩ := hrel
      by_cases hlt : i < N0.kids.length
      · have hlt' : (i : Int) < N0.kids.length := by omega
        obtain ⟨q, rfl, hc, hf, hqm, hM⟩ := HM.out.store hlt HLoB.out
        have y3 : wr.cell? ⟨nm, 3, none⟩ = some (.slice (some ⟨q, 0, none⟩) N0.kids.length e3) := HM.out.m.cell 3
        have hz := fine_of HN.out.k i hlt
        have HM2 : Hid _ := hM
        clear hM
        generalize N0.kids.getD i 0 = z at *
        by_cases hbig : (1048576 : Int) < z
        · clear HM2
          go_wp2_with fail
          go_ret
          exact ⟨rfl, HM.out.p.bel⟩
        · clear HM
          go_wp2_with fail
          go_roundw
          case rel => exact ⟨i + 1, by go_num, by omega, HM2⟩
          case measure => simp [intOf]; omega
      · have hlt' : ¬ (i : Int) < N0.kids.length := by omega
        have q0 : wr.cell? ⟨w.heap.size, 0, none⟩ = some (.int .i64 N0.kind) := HM.out.p.a.cell 0
        have q1 : wr.cell? ⟨w.heap.size, 1, none⟩ = some (.slice a0 N0.ints.length c0) := HM.out.p.a.cell 1
        have q2 : wr.cell? ⟨w.heap.size, 2, none⟩ = some (.slice b0 N0.texts.length d0) := HM.out.p.a.cell 2
        have q3 : wr.cell? ⟨w.heap.size, 3, none⟩ = some (.slice k0 N0.kids.length m0) := HM.out.p.a.cell 3
        go_wp2_with fail
        refine Calls.mono (rcopy_any N0 a0 b0 k0 c0 d0 m0 wr (HN.out.at_.belowB HM.out.p.bel) n1 n2 n3) ?_
        rintro e w5 ⟨t1, i1, t2, i2, t3, i3, rfl, hO, hb5⟩
        have HM5 : Hid _ := HM.out.more hb5
        have HO : Hid (∀ W, Fr (TbS g gm v) w5 W → NdAt W N0 t1 t2 t3) := fun W k => hO.frAt k (fun i hi => HM.out.p.tb.lt i hi)
        clear HM hO hb5 q0 q1 q2 q3
        go_wp2_with fail
        refine Calls.mono (pput_any N0 t1 t2 t3 i1 i2 i3 a1 w5 HM5.out.p.tb (by simp) (by simp [sum6]) (HT.out.on HM5.out.p.bel) HO.out (fine_of HN.out.i) n1 n2 (by omega) HS.out hp1.2) ?_
        rintro e w6 ⟨S, M1, k, rfl, hP, hI⟩
        obtain ⟨v', hm6⟩ := HM5.out.put hI
        have HM6 : Hid _ := hm6
        have HPI : Hid _ := hP
        clear HM5 HO hI hm6 hP
        have y0 : w6.cell? ⟨nm, 0, none⟩ = some (.int .i64 N0.kind) := HM6.out.m.cell 0
        have y1 : w6.cell? ⟨nm, 1, none⟩ = some (.slice u1 N0.ints.length e1) := HM6.out.m.cell 1
        have y2 : w6.cell? ⟨nm, 2, none⟩ = some (.slice u2 N0.texts.length e2) := HM6.out.m.cell 2
        have y3 : w6.cell? ⟨nm, 3, none⟩ = some (.slice u3 N0.kids.length e3) := HM6.out.m.cell 3
        have hkl : (mvN N0 a2).kids.length = N0.kids.length := by simp [mvN]
        have hown : OwnNd w6 Bm (mvN N0 a2) (.slice u1 (mvN N0 a2).ints.length e1) (.slice u2 (mvN N0 a2).texts.length e2) (.slice u3 (mvN N0 a2).kids.length e3) := by
          have h := HM6.out.own
          rw [mvK_all N0.kids a2 i (by omega)] at h
          rw [hkl]
          exact h
        have hPu := pput_any (mvN N0 a2) u1 u2 u3 e1 e2 e3 (a1 + a2) w6 HM6.out.u (by simp) (by simp [sum6]) (HT.out.on HM6.out.p.bel) (fun W k => hown.frAt k (fun i hi => HM6.out.lo i hi)) (fine_of HN.out.i) n1 n2 (by rw [hkl]; omega) HS.out (by omega)
        rw [hkl] at hPu
        have HPu : Hid _ := hPu
        clear hPu hown hkl
        go_wp2_with fail
        refine Calls.mono HPu.out ?_
        rintro e w7 ⟨S', M2, k', rfl, hP', v'', ht7, hf7, hr7⟩
        have HB : Hid (Below w.heap.size w w7) := Fr.below HM6.out.p.bel hf7 (fun i hi => by have := HM6.out.u.ge i hi; omega) HM6.out.p.bel.size
        clear HM6 HPu ht7 hf7 hr7 y0 y1 y2 y3
        by_cases hk : k = 0
        · obtain ⟨hk2, hS⟩ := moved_yes HPI.out hP' hd0 hk
          subst hk
          subst hk2
          subst hS
          clear HPI hP'
          go_wp2_with fail
          go_ret
          exact ⟨rfl, HB.out⟩
        · have hk' : (k != 0) = true := by simpa using hk
          clear HPI hP'
          go_wp2_with fail
          go_ret
          exact ⟨rfl, HB.out⟩
  · have hfin : ∀ W, Below w.heap.size w W → Calls Tryd.prog 10 #[] W fun e w' => e = .returned (.bool true) ∧ Below w.heap.size w w' := fun W hb => (HA.out W hb).mono fun e w' ⟨h1, h2⟩ => ⟨h1, hb.trans (h2.mono hb.size)⟩
    have HF : Hid _ := hfin w3 HP3.out.bel
    clear HP3 HU3 HA HAp hfin
    rcases few_ways hall with hg | ⟨hg, h1⟩ | ⟨hg, h1, h2⟩ | ⟨hg, h1, h2, h3⟩ | ⟨hg, h1, h2, h3, h4⟩
    all_goals
      rw [hg]
      clear hall hg
      go_wp2_with fail
      refine Calls.mono HF.out ?_
      rintro e w4 ⟨rfl, hb4⟩
      have HB : Hid _ := hb4
      clear HF hb4
      go_wp2_with fail
      go_ret
      exact ⟨rfl, HB.out⟩

set_option maxRecDepth 100000 in
theorem lifted (os : Os) (started : os.Started) (H : Type) (enc : TypeId × Value → H) :
    ReturnsInHanded {} Tryd.checked os 8 .any (fun w args => (Rows.recordMovedSpec.pre enc Tryd.prog Tryd.f8 [] false w args ∧ laidMetH Tryd.prog laid2 w) ∧ sizedMet enc Tryd.prog Tryd.f8 (OpenSpec.ofChange Rows.recordMovedSpec) false w args)
      (Rows.recordMovedSpec.post enc Tryd.prog Tryd.f8 false true false false) := by
  refine returnsInHanded_of_change_and (C := Tryd.checked) (X := fun w _ => laidMetH Tryd.prog laid2 w) (fun _ _ _ hh h => h.of_heap hh) own started (by kernel_rfl) Tryd.func8
    (ChangeSpec.witness_shaped (enc := enc) (C := Tryd.checked) (os := os) (X := fun w _ => laidMetH Tryd.prog laid2 w) false (World.doorLaid Tryd.prog 400 os) #[.agg #[.int .i64 0, .slice none 0 0, .slice none 0 0, .slice none 0 0], .int .i64 0, .int .i64 0] 8 rfl (World.shaped_of_RefB (by kernel_rfl) (by kernel_rfl)) (by kernel_rfl) (by kernel_rfl) (by kernel_rfl) (door_met os _)) ?_
  intro W base args ds gs before hval0 hW _ _ hL _
  have hval : ∀ (j : Nat) t v, Tryd.f8.params[j]? = some t → args[j]? = some v → Value.okWide Tryd.prog W .any base t v := hval0
  have hW' := hW
  obtain ⟨p, q, hA0, hV, rfl, hfz, hnd⟩ := hW
  have hA : DataW.TrodAll enc Tryd.prog W 0 (fun _ => true) true Tryd.f8.params.toList args.toList ds p := hA0
  rw [Tryd.params8] at hA hval
  obtain ⟨v0, vs0, d0, ds0, p0, q0, hargs, rfl, rfl, h0, r0⟩ := trodAll_cons hA
  obtain ⟨v1, vs1, d1, ds1, p1, q1, rfl, rfl, rfl, h1, r1⟩ := trodAll_cons r0
  obtain ⟨v2, vs2, d2, ds2, p2, q2, rfl, rfl, rfl, h2, r2⟩ := trodAll_cons r1
  obtain ⟨rfl, rfl, rfl⟩ := trodAll_nil r2
  obtain rfl : args = #[v0, v1, v2] := by cases args; simp_all
  obtain ⟨rfl, rfl⟩ := trodVars_none hV
  have K0 := h0
  have lt0 : ∀ x ∈ p0, x.block < W.heap.size := by obtain ⟨m, hm⟩ := K0; exact DataW.trod_lt m _ _ _ hm
  obtain ⟨N0, a0, b0, k0, c0, d0, m0, rfl, w0⟩ := open_node Tryd.underlying26 (by kernel_rfl) (by kernel_rfl) Tryd.underlying3 Tryd.underlying22 Tryd.underlying23 Tryd.underlying24 Tryd.underlying2 Tryd.underlying9 Tryd.underlying3 (by kernel_rfl) (by kernel_rfl) (by kernel_rfl) (hval 0 26 v0 rfl rfl) h0
  obtain ⟨a1, rfl, rfl, rfl, w1⟩ := open_int Tryd.underlying3 (hval 1 3 v1 rfl rfl) h1
  obtain ⟨a2, rfl, rfl, rfl, w2⟩ := open_int Tryd.underlying3 (hval 2 3 v2 rfl rfl) h2
  clear hA0 hval0
  refine (walk N0 a0 b0 k0 c0 d0 m0 a1 a2 W w0 w1 w2 (tabs_of hL)).mono fun e W' ⟨he, bel⟩ => ?_
  subst he
  exact ⟨_, rfl, _, _, _, [], _, [], hW', trodAll_mk1 (shut_bool Tryd.underlying4 _), (trodAll_cons_mk (Below.trod laidOut (by kernel_rfl) (of_decide_eq_true (by kernel_rfl)) K0 bel lt0) (trodAll_cons_mk (shut_int Tryd.underlying3 w1) (trodAll_cons_mk (shut_int Tryd.underlying3 w2) trodAll_mk0))), rfl, bel.frame _, fun h => by cases h⟩

theorem row : Rows.recordMovedRow.holds Tryd.pinned (OpenSpec.ofChange Rows.recordMovedSpec) :=
  OpenClaim.holds_of_wide 8 Tryd.f8 rfl rfl rfl rfl rfl rfl rfl ⟨rfl, rfl, rfl, rfl, rfl⟩ rfl rfl rfl rfl rfl (by kernel_rfl) Tryd.func8 (by kernel_rfl)
    (of_decide_eq_true (by kernel_rfl)) (by unfold Func.isWrapper; first | (rw [if_pos (by decide +kernel)]; kernel_rfl) | (rw [if_neg (by decide +kernel)]; exact ⟨rfl, rfl⟩))
    (fun os started H enc _ => lifted os started H enc)

/-- No parameter wants a stand-in; the program's own looks are as the card says. -/
theorem plain (f : FuncId) (fn : Func) (hf : Tryd.pinned.checked.prog.funcNamed Rows.recordMovedRow.func = some f) (hfn : Tryd.pinned.checked.prog.funcs[f]? = some fn) :
    true = Tryd.pinned.checked.prog.looks [] ∧ ∀ (j : Nat) t, fn.params[j]? = some t → Tryd.pinned.checked.prog.wantsStandIn t = false := by
  obtain rfl : f = 8 := Option.some.inj ((show Tryd.prog.funcNamed Rows.recordMovedRow.func = some 8 by kernel_rfl).symm.trans hf) |>.symm
  obtain rfl : fn = Tryd.f8 := (Option.some.inj (Tryd.func8.symm.trans hfn)).symm
  refine ⟨by kernel_rfl, fun j t ht => ?_⟩
  have hm := Array.mem_of_getElem? ht
  have hall : (Tryd.f8.params.toList.all fun u => !Tryd.prog.wantsStandIn u) = true := by kernel_rfl
  exact (show Tryd.prog.wantsStandIn t = false by simpa using List.all_eq_true.1 hall t (by simpa using hm))

/-- ████ THE CARD ████ -/
theorem over : Rows.RecordMovedCardSaid :=
  Claim7.holds_tied_plain_at .later [] _ _ _ _ row (fun _ h => by cases h) (by kernel_rfl) (fun _ h => by cases h) recordMoved_row_tie rfl ⟨rfl, rfl⟩ (by kernel_rfl) rfl plain (by kernel_rfl)

end Go.Proofs.YtknfecclijoefaaDoor.recordMoved

namespace Go.Proofs.YtknfecclijoefaaDoor
theorem recordMoved_holds : Rows.RecordMovedCardSaid := recordMoved.over
#print axioms recordMoved_holds
end Go.Proofs.YtknfecclijoefaaDoor
