/- For all bytes, every place and all texts in UTF-8 that a table has: a record that the program's Get gets is put by its Put as it was, and the table stays as it was (more than the law plays with is let go by the law itself); what came in reads afterwards as before. The package schema's tables hold what the program's text lays into them when the call begins (the card ties that). -/
import Derived.Test.YtknfecclijoefaaDoorRows
import Derived.Test.YtknfecclijoefaaDoorCards
import Derived.Test.YtknfecclijoefaaDoorTie
import Derived.WalkKit
import Derived.ProofKit
import Derived.OpenShut
import Derived.ShutString
import Derived.Below
import Derived.Test.YtknfecclijoefaaDoorRSu
import Derived.Test.YtknfecclijoefaaDoorRSq
import Derived.ChangeOld
import Derived.LaidMore
import Derived.SevenTiedAt
namespace Go.Proofs.YtknfecclijoefaaDoor.recordOne
open Go.ChangeShapes Go.WideShapes Go.ChangeAt Go.RowKit
open Go.ChangeMaps (open_string shut_string)
set_option linter.unusedVariables false

theorem own : ownKnob Tryd.prog.godebug = none := by kernel_rfl
theorem laidOut : laidOutB Tryd.prog = true := by kernel_rfl

theorem take_of {b S : ByteArray} {k : Nat} {r : List UInt8} (h : b.data.toList.drop 0 = r ++ b.data.toList.drop k) (hk : k ≤ b.size) (hS : S.data.toList = r) : S = b.extract 0 k := by
  have hl := congrArg List.length h
  rw [List.length_append, List.length_drop, List.length_drop, list_sz] at hl
  have hr : r.length = k := by omega
  have h1 : (b.extract 0 k).data.toList = r := by
    rw [Lib.extract_data, Nat.sub_zero, h, List.take_append_of_le_length (by omega), List.take_of_length_le (by omega)]
  rw [text_of hS, text_of h1]
/-- A node that is got, where a table has texts in UTF-8 alone. -/
theorem one_got {b : ByteArray} {p : Int} {X : List ByteArray} {N : Nd} {k : Nat} {S : ByteArray} {M2 : List ByteArray} {e : Int} (h : gNd b p (itF [] X) 1000 0 0 = (N, k, 0)) (hk : k ≤ b.size) (hp : p ≤ 9223372036854775807) (hr : ∀ s ∈ itF [] X, ok8 s = true) (hP : PutIs N p (itF [] X) S M2 e) : e = 0 ∧ M2 = itF [] X ∧ S = b.extract 0 k := by
  obtain ⟨h1, h2, h3, h4, h5, h6⟩ := gNd_bytes h hp (itF_nodup X [] (by simp)) hr
  obtain ⟨g1, g2, g3⟩ := hP
  have he : e = 0 := g1.trans h2
  subst he
  obtain ⟨q1, q2⟩ := g3 rfl
  exact ⟨rfl, q2.trans h3, take_of h1 hk q1⟩

set_option maxRecDepth 10000 in
set_option maxHeartbeats 4000000 in
theorem walk (a0 : ByteArray) (a1 : Int) (a2 : Option Addr) (len2 cap2 : Nat) (L2 : List ByteArray) (w : World) (w0 : a0.size ≤ maxLen) (w1 : (Lit.int .i64 a1).wf = true) (w2 : IsTexts w a2 len2 cap2 L2) (hT : Tabs12 w) :
    Calls Tryd.prog 6 #[.string a0, .int .i64 a1, .slice a2 len2 cap2] w fun e w' => e = .returned (.bool true) ∧ Below w.heap.size w w' := by
  have hm := w0
  unfold maxLen at hm
  have hp := wf64 w1
  obtain ⟨b, o, hx, rfl, hxl⟩ := w2.tx
  have HA : Hid (∀ W, Below w.heap.size w W → Calls Tryd.prog 10 #[] W fun e w' => e = .returned (.bool true) ∧ Below W.heap.size W w') := fun W hb => awake_any W (hT.on hb)
  have HTab : Hid _ := table_any a2 cap2 b o L2 w hx.ptr hx.at_ hxl
  have HT : Hid (Tabs12 w) := hT
  have HGt : Hid (grt6 L2 = false → (itF [] L2).length ≤ 200 ∧ sum6 (itF [] L2) ≤ 100000 ∧ ∀ s ∈ itF [] L2, s.size ≤ 500) := fun q => by
    have h := itF_big q L2.length
    rw [List.take_length] at h
    exact h
  clear w0 w1 w2 hT hx
  go_enter Tryd.func6, Tryd.ntmps6
  go_wp2_with fail
  refine Calls.mono HTab.out ?_
  intro e w1 h1
  cases hg6 : grt6 L2 with
  | true =>
    rw [if_pos hg6] at h1
    obtain ⟨rfl, hb1⟩ := h1
    have HB1 : Hid (Below w.heap.size w w1) := hb1
    clear HTab hb1 HGt
    go_wp2_with fail
    refine Calls.mono (cnew_any a0 w1) ?_
    rintro e w2 ⟨rfl, hw2⟩
    have HB2 : Hid (Below w.heap.size w w2) := by rw [hw2]; exact HB1.out.alloc HB1.out.size _
    clear HB1 hw2
    go_wp2_with fail
    refine Calls.mono (HA.out _ HB2.out) ?_
    rintro e w3 ⟨rfl, hb3⟩
    have HB3 : Hid (Below w.heap.size w w3) := HB2.out.trans (hb3.mono HB2.out.size)
    clear HB2 hb3
    go_wp2_with fail
    refine Calls.mono (HA.out _ HB3.out) ?_
    rintro e w4 ⟨rfl, hb4⟩
    have HB4 : Hid (Below w.heap.size w w4) := HB3.out.trans (hb4.mono HB3.out.size)
    clear HB3 hb4
    go_wp2_with fail
    go_ret
    exact ⟨rfl, HB4.out⟩
  | false =>
    rw [if_neg (by rw [hg6]; decide)] at h1
    obtain ⟨hml, hms, hmz⟩ := HGt.out hg6
    obtain ⟨g, gm, v, y, cap, b1, o1, rfl, hP1⟩ := Px.start (Below.refl _ w) h1
    have HP1 : Hid _ := hP1
    have HOne : Hid (∀ (N : Nd) (k : Nat) (S : ByteArray) (M2 : List ByteArray) (e : Int), gNd a0 a1 (itF [] L2) 1000 0 0 = (N, k, 0) → k ≤ a0.size → (∀ s ∈ itF [] L2, ok8 s = true) → PutIs N a1 (itF [] L2) S M2 e → e = 0 ∧ M2 = itF [] L2 ∧ S = a0.extract 0 k) := fun N k S M2 e h1 h2 h3 h4 => one_got h1 h2 hp.2 h3 h4
    have HGb : Hid (∀ (N : Nd) (k : Nat), gNd a0 a1 (itF [] L2) 1000 0 0 = (N, k, 0) → (∀ s ∈ itF [] L2, ok8 s = true) → fine N.ints ∧ ∀ s ∈ N.texts, s.size ≤ 500) := fun N k h1 h3 => by
      obtain ⟨_, _, _, q4, q5, _⟩ := gNd_bytes h1 hp.2 (itF_nodup L2 [] (by simp)) h3
      exact ⟨q4, fun s hs => hmz s (q5 s hs)⟩
    have HMz : Hid (∀ s ∈ itF [] L2, s.size ≤ 500) := hmz
    clear HTab h1 hP1 HGt hg6 hxl hmz
    generalize itF [] L2 = M at *
    go_wp2_with fail
    refine Calls.mono (cnew_any a0 w1) ?_
    rintro e w2 ⟨rfl, hw2⟩
    have hbl : Below w1.heap.size w1 w2 := by rw [hw2]; exact (Below.refl _ _).alloc (Nat.le_refl _) _
    have HP2 : Hid _ := HP1.out.more hbl
    have HC2 : Hid (Cu w2 w1.heap.size a0 0 0) := by rw [hw2]; exact At3.new w1 _ _ _ _
    clear HP1 hw2 hbl
    generalize w1.heap.size = gc at *
    go_wp2_with fail
    refine Calls.mono (HA.out _ HP2.out.bel) ?_
    rintro e w3 ⟨rfl, hb3⟩
    have HP3 : Hid _ := HP2.out.more hb3
    have HC3 : Hid (Cu w3 gc a0 0 0) := At3.belowAll HC2.out hb3
    clear HP2 HC2 hb3
    by_cases hsz : a0.size ≤ 1000
    · have hsz' : ¬ (1000 : Int) < a0.size := by omega
      clear HA
      go_wp2_with fail
      go_loopw [42] (fun iv wr => ∃ i : Nat, iv = .int .i64 i ∧ i ≤ M.length ∧ Hid (∀ j (h : j < M.length), j < i → ok8 M[j] = true) ∧ Hid (Px w wr g gm v M y cap b1 o1 gc) ∧ Hid (Cu wr gc a0 0 0)) (fun iv _ => M.length - (intOf iv).toNat)
      case atStart => exact ⟨0, rfl, by omega, fun j h hj => by omega, HP3, HC3⟩
      case round =>
        clear HP3 HC3
        obtain ⟨i, rfl, hi, HO, HP, HC⟩ := hrel
        by_cases hlt : i < M.length
        · have hlt' : (i : Int) < M.length := by omega
          have hyp := HP.out.x.ptr (by omega)
          subst hyp
          obtain ⟨hbl, c0⟩ := HP.out.x.at_ i hlt
          have hz := HMz.out _ (List.getElem_mem hlt)
          have HOi : Hid (ok8 M[i] = true → ∀ j (h : j < M.length), j < i + 1 → ok8 M[j] = true) := fun q j h hj => by
            by_cases e : j = i
            · subst e; exact q
            · exact HO.out j h (by omega)
          clear HO
          generalize M[i] = s at *
          have H8 : Hid _ := utf8_any s wr hz
          generalize ok8 s = bb at *
          go_wp2_with fail
          refine Calls.mono H8.out ?_
          rintro e w5 ⟨rfl, hb5⟩
          have HP5 : Hid _ := HP.out.more hb5
          have HC5 : Hid (Cu w5 gc a0 0 0) := At3.belowAll HC.out hb5
          clear HP HC hb5 H8 c0 hbl
          cases bb
          · go_wp2_with fail
            go_ret
            exact ⟨rfl, HP5.out.bel⟩
          · have HQ : Hid _ := HOi.out rfl
            go_wp2_with fail
            go_roundw
            case rel => exact ⟨i + 1, by go_num, by omega, HQ, HP5, HC5⟩
            case measure => simp [intOf]; omega
        · have hlt' : ¬ (i : Int) < M.length := by omega
          have HOk : Hid (∀ s ∈ M, ok8 s = true) := fun s hs => by
            obtain ⟨j, hj, rfl⟩ := List.getElem_of_mem hs
            exact HO.out j hj (by omega)
          clear HO
          go_wp2_with fail
          have hR := gNd_small a0 a1 M 1000 0 0 hp.2
          have hRk := gNd_at a0 a1 M 1000 0 0 (Nat.zero_le _)
          have HG := pget_any a0 gc a1 1000 0 0 wr HC.out (by omega) (by omega) (fun W hW => ⟨(HP.out.cur hW (Nat.le_refl _)).tb, HT.out.on (HP.out.cur hW (Nat.le_refl _)).bel⟩) (by decide)
          generalize gNd a0 a1 M 1000 0 0 = R at *
          obtain ⟨N, kk, ee⟩ := R
          dsimp only at hR hRk
          refine Calls.mono HG ?_
          rintro e w5 ⟨u1, e1, u2, e2, u3, e3, rfl, hO, hcu, hgr⟩
          dsimp only at hO hcu ⊢
          have hbl : Below w5.heap.size w5 (w5.alloc (.cells #[.int .i64 N.kind, .slice u1 N.ints.length e1, .slice u2 N.texts.length e2, .slice u3 N.kids.length e3] 26)) := (Below.refl _ _).alloc (Nat.le_refl _) _
          have HP5 : Hid _ := (HP.out.cur hgr (Nat.le_refl _)).more hbl
          have HC5 : Hid (Cu (w5.alloc (.cells #[.int .i64 N.kind, .slice u1 N.ints.length e1, .slice u2 N.texts.length e2, .slice u3 N.kids.length e3] 26)) gc a0 kk ee) := At3.belowAll hcu hbl
          have HO5 : Hid (OwnNd (w5.alloc (.cells #[.int .i64 N.kind, .slice u1 N.ints.length e1, .slice u2 N.texts.length e2, .slice u3 N.kids.length e3] 26)) wr.heap.size N (.slice u1 N.ints.length e1) (.slice u2 N.texts.length e2) (.slice u3 N.kids.length e3)) := hO.alloc _
          have HM5 : Hid (AtN 26 (w5.alloc (.cells #[.int .i64 N.kind, .slice u1 N.ints.length e1, .slice u2 N.texts.length e2, .slice u3 N.kids.length e3] 26)) w5.heap.size #[.int .i64 N.kind, .slice u1 N.ints.length e1, .slice u2 N.texts.length e2, .slice u3 N.kids.length e3]) := AtN.new w5 26 _
          have hTl : ∀ k, TbS g gm v k → k < wr.heap.size := fun k hk => HP.out.tb.lt k hk
          clear HG hO hcu hgr hbl HP HC
          go_wp2_with fail
          generalize w5.alloc (.cells #[.int .i64 N.kind, .slice u1 N.ints.length e1, .slice u2 N.texts.length e2, .slice u3 N.kids.length e3] 26) = W5 at *
          generalize w5.heap.size = nm at *
          refine Calls.mono (err_any W5 gc a0 kk ee HC5.out) ?_
          rintro e w6 ⟨rfl, hb6⟩
          have HP6 : Hid _ := HP5.out.more hb6
          have HC6 : Hid (Cu w6 gc a0 kk ee) := At3.belowAll HC5.out hb6
          have HO6 : Hid (OwnNd w6 wr.heap.size N (.slice u1 N.ints.length e1) (.slice u2 N.texts.length e2) (.slice u3 N.kids.length e3)) := HO5.out.belowB hb6
          have HM6 : Hid (AtN 26 w6 nm #[.int .i64 N.kind, .slice u1 N.ints.length e1, .slice u2 N.texts.length e2, .slice u3 N.kids.length e3]) := AtN.belowAll HM5.out hb6
          clear HP5 HC5 HO5 HM5 hb6
          by_cases hee : ee = 0
          · subst hee
            obtain ⟨hfi, hzt⟩ := HGb.out N kk rfl HOk.out
            have HFi : Hid (fine N.ints) := hfi
            have HZt : Hid (∀ s ∈ N.texts, s.size ≤ 500) := hzt
            have HAt : Hid (∀ W, Fr (TbS g gm v) w6 W → NdAt W N u1 u2 u3) := fun W k => HO6.out.frAt k hTl
            have y0 : w6.cell? ⟨nm, 0, none⟩ = some (.int .i64 N.kind) := HM6.out.cell 0
            have y1 : w6.cell? ⟨nm, 1, none⟩ = some (.slice u1 N.ints.length e1) := HM6.out.cell 1
            have y2 : w6.cell? ⟨nm, 2, none⟩ = some (.slice u2 N.texts.length e2) := HM6.out.cell 2
            have y3 : w6.cell? ⟨nm, 3, none⟩ = some (.slice u3 N.kids.length e3) := HM6.out.cell 3
            clear HO6 HM6 hfi hzt HGb
            go_wp2_with fail
            refine Calls.mono (pput_any N u1 u2 u3 e1 e2 e3 a1 w6 HP6.out.tb (by omega) (by omega) (HT.out.on HP6.out.bel) HAt.out HFi.out hR.1 hR.2.1 (by omega) HZt.out hp.2) ?_
            rintro e w7 ⟨S, M2, k, rfl, hP, hI⟩
            obtain ⟨hk0, hM2, hS⟩ := HOne.out N kk S M2 k rfl hRk HOk.out hP
            subst hk0
            subst hM2
            obtain ⟨v', ht7, hf7, hr7⟩ := hI
            have HTb : Hid (Tb w7 w.heap.size g gm v' M2) := ht7
            have HX7 : Hid (TxI w7 y cap b1 o1 M2) := HP6.out.x.fr hf7 HP6.out.nb
            have HC7 : Hid (Cu w7 gc a0 kk 0) := At3.fr HC6.out hf7 (fun q => by have := HP6.out.ht gc q; omega)
            have HB7 : Hid (Below w.heap.size w w7) := Fr.below HP6.out.bel hf7 (fun i hi => HP6.out.tb.ge i hi) HP6.out.bel.size
            have hbq : (S.toList == (a0.extract 0 kk).toList) = true := by rw [eq_text]; exact decide_eq_true hS
            obtain ⟨r, hr⟩ : ∃ r : Nat, (a0.size : Int) - kk = r := ⟨a0.size - kk, by omega⟩
            have hr2 : (r : Int) ≤ a0.size := by omega
            have hr3 : (a0.size : Int) - r = kk := by omega
            have hkk : (kk : Int) ≤ a0.size := by omega
            have HL : Hid (∀ W, Cu W gc a0 kk 0 → Calls Tryd.prog 21 #[.pointer (some ⟨gc, 0, none⟩)] W fun q w' => q = .returned (.int .i64 r) ∧ Below W.heap.size W w') := fun W hc => by
              have h := left_bel W gc a0 kk 0 hc (by unfold maxLen; omega) (by omega) (by omega)
              rw [hr] at h
              exact h
            clear hP hS ht7 hf7 hr7 HP6 HC6 HOne HAt HFi HZt y0 y1 y2 y3 hr hR
            go_wp2_with fail
            refine Calls.mono (HL.out w7 HC7.out) ?_
            rintro e w8 ⟨rfl, hb8⟩
            have HTb8 : Hid _ := HTb.out.below hb8
            have HX8 : Hid _ := HX7.out.below hb8
            have HC8 : Hid (Cu w8 gc a0 kk 0) := At3.belowAll HC7.out hb8
            have HB8 : Hid (Below w.heap.size w w8) := HB7.out.trans (hb8.mono HB7.out.size)
            clear HTb HX7 HC7 HB7 hb8
            go_wp2_with fail
            refine Calls.mono (HL.out w8 HC8.out) ?_
            rintro e w9 ⟨rfl, hb9⟩
            have HTb9 : Hid _ := HTb8.out.below hb9
            have HX9 : Hid _ := HX8.out.below hb9
            have HC9 : Hid (Cu w9 gc a0 kk 0) := At3.belowAll HC8.out hb9
            have HB9 : Hid (Below w.heap.size w w9) := HB8.out.trans (hb9.mono HB8.out.size)
            clear HTb8 HX8 HC8 HB8 hb9
            go_wp2_with fail
            refine Calls.mono (HL.out w9 HC9.out) ?_
            rintro e w10 ⟨rfl, hb10⟩
            have HTb10 : Hid _ := HTb9.out.below hb10
            have HX10 : Hid _ := HX9.out.below hb10
            have HB10 : Hid (Below w.heap.size w w10) := HB9.out.trans (hb10.mono HB9.out.size)
            clear HTb9 HX9 HC9 HB9 hb10 HL
            go_wp2_with fail
            refine Calls.mono (texts_bel HTb10.out y cap b1 o1 HX10.out (by omega)) ?_
            rintro e w11 ⟨rfl, hb11⟩
            have HB11 : Hid (Below w.heap.size w w11) := HB10.out.trans (hb11.mono HB10.out.size)
            clear HTb10 HX10 HB10 hb11
            go_wp2_with fail
            go_ret
            exact ⟨rfl, HB11.out⟩
          · have hee' : (ee != 0) = true := by simpa using hee
            go_wp2_with fail
            go_ret
            exact ⟨rfl, HP6.out.bel⟩
    · have hsz' : (1000 : Int) < a0.size := by omega
      clear HC3
      go_wp2_with fail
      refine Calls.mono (HA.out _ HP3.out.bel) ?_
      rintro e w4 ⟨rfl, hb4⟩
      have HB4 : Hid (Below w.heap.size w w4) := (HP3.out.more hb4).bel
      clear HP3 hb4
      go_wp2_with fail
      go_ret
      exact ⟨rfl, HB4.out⟩

set_option maxRecDepth 100000 in
theorem lifted (os : Os) (started : os.Started) (H : Type) (enc : TypeId × Value → H) :
    ReturnsInHanded {} Tryd.checked os 6 .any (fun w args => (Rows.recordOneSpec.pre enc Tryd.prog Tryd.f6 [] false w args ∧ laidMetH Tryd.prog laid2 w) ∧ sizedMet enc Tryd.prog Tryd.f6 (OpenSpec.ofChange Rows.recordOneSpec) false w args)
      (Rows.recordOneSpec.post enc Tryd.prog Tryd.f6 false true false false) := by
  refine returnsInHanded_of_change_and (C := Tryd.checked) (X := fun w _ => laidMetH Tryd.prog laid2 w) (fun _ _ _ hh h => h.of_heap hh) own started (by kernel_rfl) Tryd.func6
    (ChangeSpec.witness_shaped (enc := enc) (C := Tryd.checked) (os := os) (X := fun w _ => laidMetH Tryd.prog laid2 w) false (World.doorLaid Tryd.prog 400 os) #[.string ByteArray.empty, .int .i64 0, .slice none 0 0] 8 rfl (World.shaped_of_RefB (by kernel_rfl) (by kernel_rfl)) (by kernel_rfl) (by kernel_rfl) (by kernel_rfl) (door_met os _)) ?_
  intro W base args ds gs before hval0 hW _ _ hL _
  have hval : ∀ (j : Nat) t v, Tryd.f6.params[j]? = some t → args[j]? = some v → Value.okWide Tryd.prog W .any base t v := hval0
  have hW' := hW
  obtain ⟨p, q, hA0, hV, rfl, hfz, hnd⟩ := hW
  have hA : DataW.TrodAll enc Tryd.prog W 0 (fun _ => true) true Tryd.f6.params.toList args.toList ds p := hA0
  rw [Tryd.params6] at hA hval
  obtain ⟨v0, vs0, d0, ds0, p0, q0, hargs, rfl, rfl, h0, r0⟩ := trodAll_cons hA
  obtain ⟨v1, vs1, d1, ds1, p1, q1, rfl, rfl, rfl, h1, r1⟩ := trodAll_cons r0
  obtain ⟨v2, vs2, d2, ds2, p2, q2, rfl, rfl, rfl, h2, r2⟩ := trodAll_cons r1
  obtain ⟨rfl, rfl, rfl⟩ := trodAll_nil r2
  obtain rfl : args = #[v0, v1, v2] := by cases args; simp_all
  obtain ⟨rfl, rfl⟩ := trodVars_none hV
  obtain ⟨a0, rfl, rfl, rfl, w0⟩ := open_string Tryd.underlying9 (hval 0 9 v0 rfl rfl) h0
  obtain ⟨a1, rfl, rfl, rfl, w1⟩ := open_int Tryd.underlying3 (hval 1 3 v1 rfl rfl) h1
  obtain ⟨a2, len2, cap2, rfl⟩ := okWide_slice Tryd.underlying23 (hval 2 23 v2 rfl rfl)
  have k2 := h2
  have lt2 : ∀ x ∈ p2, x.block < W.heap.size := by obtain ⟨m, hm⟩ := k2; exact DataW.trod_lt m _ _ _ hm
  obtain ⟨L2, w2⟩ := open_texts Tryd.underlying23 Tryd.underlying9 (by kernel_rfl) h2
  clear hA0 hval0
  refine (walk a0 a1 a2 len2 cap2 L2 W w0 w1 w2 (tabs_of hL)).mono fun e W' ⟨he, bel⟩ => ?_
  subst he
  exact ⟨_, rfl, _, _, _, [], _, [], hW', trodAll_mk1 (shut_bool Tryd.underlying4 _), (trodAll_cons_mk (shut_string Tryd.underlying9 w0) (trodAll_cons_mk (shut_int Tryd.underlying3 w1) (trodAll_cons_mk (Below.trod laidOut (by kernel_rfl) (of_decide_eq_true (by kernel_rfl)) k2 bel lt2) trodAll_mk0))), rfl, bel.frame _, fun h => by cases h⟩

theorem row : Rows.recordOneRow.holds Tryd.pinned (OpenSpec.ofChange Rows.recordOneSpec) :=
  OpenClaim.holds_of_wide 6 Tryd.f6 rfl rfl rfl rfl rfl rfl rfl ⟨rfl, rfl, rfl, rfl, rfl⟩ rfl rfl rfl rfl rfl (by kernel_rfl) Tryd.func6 (by kernel_rfl)
    (of_decide_eq_true (by kernel_rfl)) (by unfold Func.isWrapper; first | (rw [if_pos (by decide +kernel)]; kernel_rfl) | (rw [if_neg (by decide +kernel)]; exact ⟨rfl, rfl⟩))
    (fun os started H enc _ => lifted os started H enc)

/-- No parameter wants a stand-in; the program's own looks are as the card says. -/
theorem plain (f : FuncId) (fn : Func) (hf : Tryd.pinned.checked.prog.funcNamed Rows.recordOneRow.func = some f) (hfn : Tryd.pinned.checked.prog.funcs[f]? = some fn) :
    true = Tryd.pinned.checked.prog.looks [] ∧ ∀ (j : Nat) t, fn.params[j]? = some t → Tryd.pinned.checked.prog.wantsStandIn t = false := by
  obtain rfl : f = 6 := Option.some.inj ((show Tryd.prog.funcNamed Rows.recordOneRow.func = some 6 by kernel_rfl).symm.trans hf) |>.symm
  obtain rfl : fn = Tryd.f6 := (Option.some.inj (Tryd.func6.symm.trans hfn)).symm
  refine ⟨by kernel_rfl, fun j t ht => ?_⟩
  have hm := Array.mem_of_getElem? ht
  have hall : (Tryd.f6.params.toList.all fun u => !Tryd.prog.wantsStandIn u) = true := by kernel_rfl
  exact (show Tryd.prog.wantsStandIn t = false by simpa using List.all_eq_true.1 hall t (by simpa using hm))

/-- ████ THE CARD ████ -/
theorem over : Rows.RecordOneCardSaid :=
  Claim7.holds_tied_plain_at .later [] _ _ _ _ row (fun _ h => by cases h) (by kernel_rfl) (fun _ h => by cases h) recordOne_row_tie rfl ⟨rfl, rfl⟩ (by kernel_rfl) rfl plain (by kernel_rfl)

end Go.Proofs.YtknfecclijoefaaDoor.recordOne

namespace Go.Proofs.YtknfecclijoefaaDoor
theorem recordOne_holds : Rows.RecordOneCardSaid := recordOne.over
#print axioms recordOne_holds
end Go.Proofs.YtknfecclijoefaaDoor
