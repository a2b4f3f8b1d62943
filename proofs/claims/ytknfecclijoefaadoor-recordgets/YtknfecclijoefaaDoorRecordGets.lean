/- For all bytes, every place and count of kids, and all texts that a table has: the program's Get tells the node that the document says, or none for the reason that it says, reads as many bytes, and leaves the table as it was (more than the law plays with is let go by the law itself); what came in reads afterwards as before. The package schema's tables hold what the program's text lays into them when the call begins (the card ties that). -/
import Derived.Test.YtknfecclijoefaaDoorRows
import Derived.Test.YtknfecclijoefaaDoorCards
import Derived.Test.YtknfecclijoefaaDoorTie
import Derived.WalkKit
import Derived.ProofKit
import Derived.OpenShut
import Derived.ShutString
import Derived.Below
import Derived.Test.YtknfecclijoefaaDoorRSu
import Derived.ChangeOld
import Derived.LaidMore
import Derived.SevenTiedAt
namespace Go.Proofs.YtknfecclijoefaaDoor.recordGets
open Go.ChangeShapes Go.WideShapes Go.ChangeAt Go.RowKit
open Go.ChangeMaps (open_string shut_string)
set_option linter.unusedVariables false

theorem own : ownKnob Tryd.prog.godebug = none := by kernel_rfl
theorem laidOut : laidOutB Tryd.prog = true := by kernel_rfl

set_option maxRecDepth 10000 in
set_option maxHeartbeats 4000000 in
theorem walk (a0 : ByteArray) (x1 y1 : Int) (a2 : Option Addr) (len2 cap2 : Nat) (L2 : List ByteArray) (w : World) (w0 : a0.size ≤ maxLen) (w1 : (Lit.int .i64 x1).wf = true ∧ (Lit.int .i64 y1).wf = true) (w2 : IsTexts w a2 len2 cap2 L2) (hT : Tabs12 w) :
    Calls Tryd.prog 4 #[.string a0, .agg #[.int .i64 x1, .int .i64 y1], .slice a2 len2 cap2] w fun e w' => e = .returned (.bool true) ∧ Below w.heap.size w w' := by
  have hm := w0
  unfold maxLen at hm
  have hx1 := wf64 w1.1
  have hy1 := wf64 w1.2
  obtain ⟨b, o, hx, rfl, hxl⟩ := w2.tx
  have HA : Hid (∀ W, Below w.heap.size w W → Calls Tryd.prog 10 #[] W fun e w' => e = .returned (.bool true) ∧ Below W.heap.size W w') := fun W hb => awake_any W (hT.on hb)
  have HB0 : Hid (Below w.heap.size w (w.alloc (.cells #[.int .i64 x1, .int .i64 y1] 40))) := (Below.refl _ _).alloc (Nat.le_refl _) _
  have HA0 : Hid (AtN 40 (w.alloc (.cells #[.int .i64 x1, .int .i64 y1] 40)) w.heap.size #[.int .i64 x1, .int .i64 y1]) := AtN.new w 40 _
  have HTab : Hid _ := table_any a2 cap2 b o L2 (w.alloc (.cells #[.int .i64 x1, .int .i64 y1] 40)) hx.ptr (hx.at_.below HB0.out) hxl
  have HT : Hid (Tabs12 w) := hT
  have HGt : Hid (grt6 L2 = false → (itF [] L2).length ≤ 200) := fun q => by
    have h := itF_big q L2.length
    rw [List.take_length] at h
    exact h.1
  clear w0 w1 w2 hT hx
  go_enter Tryd.func4, Tryd.ntmps4
  go_wp2_with fail
  refine Calls.mono HTab.out ?_
  intro e w1 h1
  cases hg6 : grt6 L2 with
  | true =>
    rw [if_pos hg6] at h1
    obtain ⟨rfl, hb1⟩ := h1
    have HB1 : Hid (Below w.heap.size w w1) := HB0.out.trans (hb1.mono HB0.out.size)
    clear HTab HA0 HB0 hb1 HGt
    go_wp2_with fail
    refine Calls.mono (cnew_any a0 w1) ?_
    rintro e w2 ⟨rfl, hw2⟩
    have HB2 : Hid (Below w.heap.size w w2) := by rw [hw2]; exact HB1.out.alloc HB1.out.size _
    clear HB1 hw2
    go_wp2_with fail
    refine Calls.mono (HA.out _ HB2.out) ?_
    rintro e w3 ⟨rfl, hb3⟩
    have HB3 : Hid (Below w.heap.size w w3) := HB2.out.trans (hb3.mono HB2.out.size)
    clear HB2 hb3
    go_wp2_with fail
    refine Calls.mono (HA.out _ HB3.out) ?_
    rintro e w4 ⟨rfl, hb4⟩
    have HB4 : Hid (Below w.heap.size w w4) := HB3.out.trans (hb4.mono HB3.out.size)
    clear HB3 hb4
    go_wp2_with fail
    go_ret
    exact ⟨rfl, HB4.out⟩
  | false =>
    rw [if_neg (by rw [hg6]; decide)] at h1
    have hml := HGt.out hg6
    obtain ⟨hTO, hbW⟩ : TabOut (w.alloc (.cells #[.int .i64 x1, .int .i64 y1] 40)) w1 e (itF [] L2) ∧ Below (w.alloc (.cells #[.int .i64 x1, .int .i64 y1] 40)).heap.size (w.alloc (.cells #[.int .i64 x1, .int .i64 y1] 40)) w1 := ⟨h1, by obtain ⟨_, _, _, _, _, _, _, _, _, _, _, q⟩ := h1; exact q⟩
    have hA1 : AtN 40 w1 w.heap.size #[.int .i64 x1, .int .i64 y1] := HA0.out.belowAll hbW
    obtain ⟨g, gm, v, y, cap, b1, o1, rfl, hP1⟩ := Px.start HB0.out hTO
    have hlim : w.heap.size < w1.heap.size := hA1.lt
    have HP1 : Hid _ := hP1
    have HA1 : Hid _ := hA1
    clear HTab HA0 HB0 h1 hTO hbW hP1 hA1 HGt hg6 hxl
    generalize itF [] L2 = M at *
    go_wp2_with fail
    refine Calls.mono (cnew_any a0 w1) ?_
    rintro e w2 ⟨rfl, hw2⟩
    have hbl : Below w1.heap.size w1 w2 := by rw [hw2]; exact (Below.refl _ _).alloc (Nat.le_refl _) _
    have HP2 : Hid _ := HP1.out.more hbl
    have HA2 : Hid (AtN 40 w2 w.heap.size #[.int .i64 x1, .int .i64 y1]) := AtN.belowAll HA1.out hbl
    have HC2 : Hid (Cu w2 w1.heap.size a0 0 0) := by rw [hw2]; exact At3.new w1 _ _ _ _
    clear HP1 HA1 hw2 hbl
    generalize w1.heap.size = gc at *
    go_wp2_with fail
    refine Calls.mono (HA.out _ HP2.out.bel) ?_
    rintro e w3 ⟨rfl, hb3⟩
    have HP3 : Hid _ := HP2.out.more hb3
    have HA3 : Hid (AtN 40 w3 w.heap.size #[.int .i64 x1, .int .i64 y1]) := AtN.belowAll HA2.out hb3
    have HC3 : Hid (Cu w3 gc a0 0 0) := At3.belowAll HC2.out hb3
    clear HP2 HA2 HC2 hb3
    by_cases hsz : a0.size ≤ 1000
    · have hsz' : ¬ (1000 : Int) < a0.size := by omega
      have hgc3 : gc < w3.heap.size := HC3.out.lt
      have hbl : Below w3.heap.size w3 (w3.alloc (.cells #[.string a0, .int .i64 0, .int .i64 0] 45)) := (Below.refl _ _).alloc (Nat.le_refl _) _
      have HP4 : Hid _ := HP3.out.more hbl
      have HA4 : Hid (AtN 40 (w3.alloc (.cells #[.string a0, .int .i64 0, .int .i64 0] 45)) w.heap.size #[.int .i64 x1, .int .i64 y1]) := HA3.out.belowAll hbl
      have HC4 : Hid (Cu (w3.alloc (.cells #[.string a0, .int .i64 0, .int .i64 0] 45)) gc a0 0 0) := At3.belowAll HC3.out hbl
      have HR4 : Hid (Rf (w3.alloc (.cells #[.string a0, .int .i64 0, .int .i64 0] 45)) w3.heap.size a0 0 0) := At3.new w3 _ _ _ _
      have z0 : w3.cell? ⟨w.heap.size, 0, none⟩ = some (.int .i64 x1) := HA3.out.cell 0
      have z1 : w3.cell? ⟨w.heap.size, 1, none⟩ = some (.int .i64 y1) := HA3.out.cell 1
      have hlt3 : w.heap.size < w3.heap.size := HA3.out.lt
      clear HP3 HA3 HC3 hbl HA
      go_wp2_with fail
      generalize w3.heap.size = gr at *
      generalize w3.alloc (.cells #[.string a0, .int .i64 0, .int .i64 0] 45) = w4 at *
      have hR := gNd_small a0 x1 M y1 0 0 hx1.2
      have hRk := gNd_at a0 x1 M y1 0 0 (Nat.zero_le _)
      have HG := pget_any a0 gc x1 y1 0 0 w4 HC4.out (by omega) (by omega) (fun W hW => ⟨(HP4.out.cur hW (Nat.le_refl _)).tb, HT.out.on (HP4.out.cur hW (Nat.le_refl _)).bel⟩) hy1
      have HRr := fun W q1 q2 => rrget_any a0 gr x1 y1 y cap b1 o1 M 0 0 W q1 (by omega) (by omega) q2 (by omega) (fun hm => by have := HP4.out.hb hm; omega) hx1 hy1
      generalize gNd a0 x1 M y1 0 0 = R at *
      obtain ⟨N, kk, ee⟩ := R
      dsimp only at hR hRk
      refine Calls.mono HG ?_
      rintro e w5 ⟨u1, e1, u2, e2, u3, e3, rfl, hO, hcu, hgr⟩
      dsimp only at hO hcu ⊢
      have hbl : Below w5.heap.size w5 (w5.alloc (.cells #[.int .i64 N.kind, .slice u1 N.ints.length e1, .slice u2 N.texts.length e2, .slice u3 N.kids.length e3] 26)) := (Below.refl _ _).alloc (Nat.le_refl _) _
      have HP5 : Hid _ := (HP4.out.cur hgr (Nat.le_refl _)).more hbl
      have HA5 : Hid (AtN 40 (w5.alloc (.cells #[.int .i64 N.kind, .slice u1 N.ints.length e1, .slice u2 N.texts.length e2, .slice u3 N.kids.length e3] 26)) w.heap.size #[.int .i64 x1, .int .i64 y1]) := (HA4.out.kept hgr (by simp; omega)).belowAll hbl
      have HC5 : Hid (Cu (w5.alloc (.cells #[.int .i64 N.kind, .slice u1 N.ints.length e1, .slice u2 N.texts.length e2, .slice u3 N.kids.length e3] 26)) gc a0 kk ee) := At3.belowAll hcu hbl
      have HR5 : Hid (Rf (w5.alloc (.cells #[.int .i64 N.kind, .slice u1 N.ints.length e1, .slice u2 N.texts.length e2, .slice u3 N.kids.length e3] 26)) gr a0 0 0) := At3.belowAll (At3.kept HR4.out hgr (by simp; omega)) hbl
      have HO5 : Hid (OwnNd (w5.alloc (.cells #[.int .i64 N.kind, .slice u1 N.ints.length e1, .slice u2 N.texts.length e2, .slice u3 N.kids.length e3] 26)) w4.heap.size N (.slice u1 N.ints.length e1) (.slice u2 N.texts.length e2) (.slice u3 N.kids.length e3)) := hO.alloc _
      have HM5 : Hid (AtN 26 (w5.alloc (.cells #[.int .i64 N.kind, .slice u1 N.ints.length e1, .slice u2 N.texts.length e2, .slice u3 N.kids.length e3] 26)) w5.heap.size #[.int .i64 N.kind, .slice u1 N.ints.length e1, .slice u2 N.texts.length e2, .slice u3 N.kids.length e3]) := AtN.new w5 26 _
      have hgr4 : gr < w4.heap.size := HR4.out.lt
      have hs5 : w4.heap.size ≤ w5.heap.size := hgr.size
      have HRf : Hid _ := HRr _ HR5.out HP5.out.x
      have z0 : w5.cell? ⟨w.heap.size, 0, none⟩ = some (.int .i64 x1) := (HA4.out.kept hgr (by simp; omega)).cell 0
      have z1 : w5.cell? ⟨w.heap.size, 1, none⟩ = some (.int .i64 y1) := (HA4.out.kept hgr (by simp; omega)).cell 1
      have hlt5 : w.heap.size < w5.heap.size := by omega
      clear HG HRr HP4 HA4 HC4 HR4 HR5 hO hcu hgr hbl
      go_wp2_with fail
      refine Calls.mono HRf.out ?_
      rintro e w7 ⟨t1, i1, t2, i2, t3, i3, rfl, hO7, hrf, hgr7⟩
      dsimp only at hO7 hrf ⊢
      have hs7 := hgr7.size
      simp at hs7
      have hbl : Below w7.heap.size w7 (w7.alloc (.cells #[.int .i64 N.kind, .slice t1 N.ints.length i1, .slice t2 N.texts.length i2, .slice t3 N.kids.length i3] 26)) := (Below.refl _ _).alloc (Nat.le_refl _) _
      have HP7 : Hid _ := (HP5.out.cur hgr7 (by omega)).more hbl
      have HC7 : Hid (Cu (w7.alloc (.cells #[.int .i64 N.kind, .slice t1 N.ints.length i1, .slice t2 N.texts.length i2, .slice t3 N.kids.length i3] 26)) gc a0 kk ee) := At3.belowAll (At3.kept HC5.out hgr7 (by simp; omega)) hbl
      have HR7 : Hid (Rf (w7.alloc (.cells #[.int .i64 N.kind, .slice t1 N.ints.length i1, .slice t2 N.texts.length i2, .slice t3 N.kids.length i3] 26)) gr a0 kk ee) := At3.belowAll hrf hbl
      have HN7 : Hid (NdAt (w7.alloc (.cells #[.int .i64 N.kind, .slice t1 N.ints.length i1, .slice t2 N.texts.length i2, .slice t3 N.kids.length i3] 26)) N u1 u2 u3) := ((HO5.out.kept hgr7 (fun k hk => by cases hk; exact hgr4)).alloc _).ndAt
      have HQ7 : Hid (NdAt (w7.alloc (.cells #[.int .i64 N.kind, .slice t1 N.ints.length i1, .slice t2 N.texts.length i2, .slice t3 N.kids.length i3] 26)) N t1 t2 t3) := hO7.ndAt.alloc _
      have HM7 : Hid (AtN 26 (w7.alloc (.cells #[.int .i64 N.kind, .slice t1 N.ints.length i1, .slice t2 N.texts.length i2, .slice t3 N.kids.length i3] 26)) w5.heap.size #[.int .i64 N.kind, .slice u1 N.ints.length e1, .slice u2 N.texts.length e2, .slice u3 N.kids.length e3]) := (HM5.out.kept hgr7 (by simp; omega)).alloc _
      have HK7 : Hid (AtN 26 (w7.alloc (.cells #[.int .i64 N.kind, .slice t1 N.ints.length i1, .slice t2 N.texts.length i2, .slice t3 N.kids.length i3] 26)) w7.heap.size #[.int .i64 N.kind, .slice t1 N.ints.length i1, .slice t2 N.texts.length i2, .slice t3 N.kids.length i3]) := AtN.new w7 26 _
      clear HRf HP5 HA5 HC5 HO5 HM5 hO7 hrf hgr7 hbl z0 z1
      go_wp2_with fail
      generalize w7.alloc (.cells #[.int .i64 N.kind, .slice t1 N.ints.length i1, .slice t2 N.texts.length i2, .slice t3 N.kids.length i3] 26) = W7 at *
      generalize w7.heap.size = n2 at *
      generalize w5.heap.size = n1 at *
      have hss : sameB N N = true := (sameB_iff N N).2 rfl
      have hml2 : M.length ≤ 1000000 := by omega
      have cS := fun d os => Calls.regrown_of (by have h := same8_big N N u1 u2 u3 t1 t2 t3 e1 e2 e3 i1 i2 i3 (Sort.grow (redrawn W7 d) os) (HN7.out.belowB (below_regrown W7 d os)) (HQ7.out.belowB (below_regrown W7 d os)) hR.1 hR.2.1 (by omega); rw [hss] at h; exact h)
      have cE := fun d os => Calls.regrown_of (err_any (Sort.grow (redrawn W7 d) os) gc a0 kk ee (At3.belowAll HC7.out (below_regrown W7 d os)))
      have cL := fun d os => Calls.regrown_of (left_bel (Sort.grow (redrawn W7 d) os) gc a0 kk ee (At3.belowAll HC7.out (below_regrown W7 d os)) (by unfold maxLen; omega) (by omega) (by omega))
      have cT := fun d os => Calls.regrown_of (texts_bel (HP7.out.more (below_regrown W7 d os)).tb y cap b1 o1 (HP7.out.more (below_regrown W7 d os)).x hml2)
      have p0 : W7.cell? ⟨n1, 0, none⟩ = some (.int .i64 N.kind) := HM7.out.cell 0
      have p1 : W7.cell? ⟨n1, 1, none⟩ = some (.slice u1 N.ints.length e1) := HM7.out.cell 1
      have p2 : W7.cell? ⟨n1, 2, none⟩ = some (.slice u2 N.texts.length e2) := HM7.out.cell 2
      have p3 : W7.cell? ⟨n1, 3, none⟩ = some (.slice u3 N.kids.length e3) := HM7.out.cell 3
      have q0 : W7.cell? ⟨n2, 0, none⟩ = some (.int .i64 N.kind) := HK7.out.cell 0
      have q1 : W7.cell? ⟨n2, 1, none⟩ = some (.slice t1 N.ints.length i1) := HK7.out.cell 1
      have q2 : W7.cell? ⟨n2, 2, none⟩ = some (.slice t2 N.texts.length i2) := HK7.out.cell 2
      have q3 : W7.cell? ⟨n2, 3, none⟩ = some (.slice t3 N.kids.length i3) := HK7.out.cell 3
      have m0 := fun d os => cell_regrown p0 d os
      have m1 := fun d os => cell_regrown p1 d os
      have m2 := fun d os => cell_regrown p2 d os
      have m3 := fun d os => cell_regrown p3 d os
      have m4 := fun d os => cell_regrown q0 d os
      have m5 := fun d os => cell_regrown q1 d os
      have m6 := fun d os => cell_regrown q2 d os
      have m7 := fun d os => cell_regrown q3 d os
      have m8 := fun d os => cell_regrown (At3.c1 HR7.out) d os
      have m9 := fun d os => cell_regrown (At3.c2 HR7.out) d os
      have hkk : (kk : Int) ≤ a0.size := by omega
      clear p0 p1 p2 p3 q0 q1 q2 q3 HM7 HK7 HC7 HR7 HN7 HQ7 hss
      refine wp_region_quiet_below (by kernel_rfl) (by kernel_rfl) ?_
      repeat (first | go_big_quiet_step (first | (go_at_call 19; exact cS _ _) | (go_at_call 20; exact cE _ _) | (go_at_call 21; exact cL _ _) | (go_at_call 15; exact cT _ _)) | quiet_step (first | (go_at_call 19; exact cS _ _) | (go_at_call 20; exact cE _ _) | (go_at_call 21; exact cL _ _) | (go_at_call 15; exact cT _ _)))
      refine wpQuiet_nil ?_
      intro _ hw'
      obtain ⟨⟨dq, osq⟩, hw''⟩ := hw'
      subst hw''
      have HB : Hid (Below w.heap.size w (Sort.grow (redrawn W7 dq) osq)) := (HP7.out.more (below_regrown W7 dq osq)).bel
      clear HP7 m0 m1 m2 m3 m4 m5 m6 m7 m8 m9 cS cE cL cT
      go_wp2_with fail
      go_ret
      exact ⟨rfl, HB.out⟩
    · have hsz' : (1000 : Int) < a0.size := by omega
      clear HA3 HC3
      go_wp2_with fail
      refine Calls.mono (HA.out _ HP3.out.bel) ?_
      rintro e w4 ⟨rfl, hb4⟩
      have HB4 : Hid (Below w.heap.size w w4) := (HP3.out.more hb4).bel
      clear HP3 hb4
      go_wp2_with fail
      go_ret
      exact ⟨rfl, HB4.out⟩

set_option maxRecDepth 100000 in
theorem lifted (os : Os) (started : os.Started) (H : Type) (enc : TypeId × Value → H) :
    ReturnsInHanded {} Tryd.checked os 4 .any (fun w args => (Rows.recordGetsSpec.pre enc Tryd.prog Tryd.f4 [] false w args ∧ laidMetH Tryd.prog laid2 w) ∧ sizedMet enc Tryd.prog Tryd.f4 (OpenSpec.ofChange Rows.recordGetsSpec) false w args)
      (Rows.recordGetsSpec.post enc Tryd.prog Tryd.f4 false true false false) := by
  refine returnsInHanded_of_change_and (C := Tryd.checked) (X := fun w _ => laidMetH Tryd.prog laid2 w) (fun _ _ _ hh h => h.of_heap hh) own started (by kernel_rfl) Tryd.func4
    (ChangeSpec.witness_shaped (enc := enc) (C := Tryd.checked) (os := os) (X := fun w _ => laidMetH Tryd.prog laid2 w) false (World.doorLaid Tryd.prog 400 os) #[.string ByteArray.empty, .agg #[.int .i64 0, .int .i64 0], .slice none 0 0] 8 rfl (World.shaped_of_RefB (by kernel_rfl) (by kernel_rfl)) (by kernel_rfl) (by kernel_rfl) (by kernel_rfl) (door_met os _)) ?_
  intro W base args ds gs before hval0 hW _ _ hL _
  have hval : ∀ (j : Nat) t v, Tryd.f4.params[j]? = some t → args[j]? = some v → Value.okWide Tryd.prog W .any base t v := hval0
  have hW' := hW
  obtain ⟨p, q, hA0, hV, rfl, hfz, hnd⟩ := hW
  have hA : DataW.TrodAll enc Tryd.prog W 0 (fun _ => true) true Tryd.f4.params.toList args.toList ds p := hA0
  rw [Tryd.params4] at hA hval
  obtain ⟨v0, vs0, d0, ds0, p0, q0, hargs, rfl, rfl, h0, r0⟩ := trodAll_cons hA
  obtain ⟨v1, vs1, d1, ds1, p1, q1, rfl, rfl, rfl, h1, r1⟩ := trodAll_cons r0
  obtain ⟨v2, vs2, d2, ds2, p2, q2, rfl, rfl, rfl, h2, r2⟩ := trodAll_cons r1
  obtain ⟨rfl, rfl, rfl⟩ := trodAll_nil r2
  obtain rfl : args = #[v0, v1, v2] := by cases args; simp_all
  obtain ⟨rfl, rfl⟩ := trodVars_none hV
  obtain ⟨a0, rfl, rfl, rfl, w0⟩ := open_string Tryd.underlying9 (hval 0 9 v0 rfl rfl) h0
  have k1 := h1
  have lt1 : ∀ x ∈ p1, x.block < W.heap.size := by obtain ⟨m, hm⟩ := k1; exact DataW.trod_lt m _ _ _ hm
  obtain ⟨x1, y1, rfl, w1⟩ := open_arr2 Tryd.underlying40 Tryd.underlying3 (by kernel_rfl) (by kernel_rfl) (hval 1 40 v1 rfl rfl) h1
  obtain ⟨a2, len2, cap2, rfl⟩ := okWide_slice Tryd.underlying23 (hval 2 23 v2 rfl rfl)
  have k2 := h2
  have lt2 : ∀ x ∈ p2, x.block < W.heap.size := by obtain ⟨m, hm⟩ := k2; exact DataW.trod_lt m _ _ _ hm
  obtain ⟨L2, w2⟩ := open_texts Tryd.underlying23 Tryd.underlying9 (by kernel_rfl) h2
  clear hA0 hval0
  refine (walk a0 x1 y1 a2 len2 cap2 L2 W w0 w1 w2 (tabs_of hL)).mono fun e W' ⟨he, bel⟩ => ?_
  subst he
  exact ⟨_, rfl, _, _, _, [], _, [], hW', trodAll_mk1 (shut_bool Tryd.underlying4 _), (trodAll_cons_mk (shut_string Tryd.underlying9 w0) (trodAll_cons_mk (Below.trod laidOut (by kernel_rfl) (of_decide_eq_true (by kernel_rfl)) k1 bel lt1) (trodAll_cons_mk (Below.trod laidOut (by kernel_rfl) (of_decide_eq_true (by kernel_rfl)) k2 bel lt2) trodAll_mk0))), rfl, bel.frame _, fun h => by cases h⟩

theorem row : Rows.recordGetsRow.holds Tryd.pinned (OpenSpec.ofChange Rows.recordGetsSpec) :=
  OpenClaim.holds_of_wide 4 Tryd.f4 rfl rfl rfl rfl rfl rfl rfl ⟨rfl, rfl, rfl, rfl, rfl⟩ rfl rfl rfl rfl rfl (by kernel_rfl) Tryd.func4 (by kernel_rfl)
    (of_decide_eq_true (by kernel_rfl)) (by unfold Func.isWrapper; first | (rw [if_pos (by decide +kernel)]; kernel_rfl) | (rw [if_neg (by decide +kernel)]; exact ⟨rfl, rfl⟩))
    (fun os started H enc _ => lifted os started H enc)

/-- No parameter wants a stand-in; the program's own looks are as the card says. -/
theorem plain (f : FuncId) (fn : Func) (hf : Tryd.pinned.checked.prog.funcNamed Rows.recordGetsRow.func = some f) (hfn : Tryd.pinned.checked.prog.funcs[f]? = some fn) :
    true = Tryd.pinned.checked.prog.looks [] ∧ ∀ (j : Nat) t, fn.params[j]? = some t → Tryd.pinned.checked.prog.wantsStandIn t = false := by
  obtain rfl : f = 4 := Option.some.inj ((show Tryd.prog.funcNamed Rows.recordGetsRow.func = some 4 by kernel_rfl).symm.trans hf) |>.symm
  obtain rfl : fn = Tryd.f4 := (Option.some.inj (Tryd.func4.symm.trans hfn)).symm
  refine ⟨by kernel_rfl, fun j t ht => ?_⟩
  have hm := Array.mem_of_getElem? ht
  have hall : (Tryd.f4.params.toList.all fun u => !Tryd.prog.wantsStandIn u) = true := by kernel_rfl
  exact (show Tryd.prog.wantsStandIn t = false by simpa using List.all_eq_true.1 hall t (by simpa using hm))

/-- ████ THE CARD ████ -/
theorem over : Rows.RecordGetsCardSaid :=
  Claim7.holds_tied_plain_at .later [] _ _ _ _ row (fun _ h => by cases h) (by kernel_rfl) (fun _ h => by cases h) recordGets_row_tie rfl ⟨rfl, rfl⟩ (by kernel_rfl) rfl plain (by kernel_rfl)

end Go.Proofs.YtknfecclijoefaaDoor.recordGets

namespace Go.Proofs.YtknfecclijoefaaDoor
theorem recordGets_holds : Rows.RecordGetsCardSaid := recordGets.over
#print axioms recordGets_holds
end Go.Proofs.YtknfecclijoefaaDoor
