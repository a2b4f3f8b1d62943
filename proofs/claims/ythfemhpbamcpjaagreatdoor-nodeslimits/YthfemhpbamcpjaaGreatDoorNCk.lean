/- The contracts of the program's own checkRead and textsOf. -/
import Derived.Test.YthfemhpbamcpjaaGreatDoorNMa
import Derived.Test.YthfemhpbamcpjaaGreatDoorGG
import Derived.Test.YthfemhpbamcpjaaGreatDoorCB
import Derived.Test.YthfemhpbamcpjaaGreatDoorTB
namespace Go.Proofs.YthfemhpbamcpjaaGreatDoor
open Go.RowKit Go.Maps Go.WideMaps
set_option maxRecDepth 10000 in
set_option maxHeartbeats 1000000 in
theorem pcr_any (X : List Nx) (a : Option Addr) (c : Nat) (r dp : Int) (w : World) (h : ScAt w a X) (hX : Small X) :
    Calls Tryz.prog 38 #[.agg #[.slice a X.length c, .int .i64 r], .int .i64 dp] w fun e w' => ∃ k, e = .returned (.int .i64 k) ∧ CkIs X r dp k ∧ Below w.heap.size w w' := by
  have HA0 : Hid (AtN 24 (w.alloc (.cells #[.slice a X.length c, .int .i64 r] 24)) w.heap.size #[.slice a X.length c, .int .i64 r]) := AtN.new w 24 _
  have HB0 : Hid (Below w.heap.size w (w.alloc (.cells #[.slice a X.length c, .int .i64 r] 24))) := (Below.refl _ _).alloc (Nat.le_refl _) _
  have HCk : Hid (∀ W, Below w.heap.size w W → Calls Tryz.prog 52 #[.agg #[.slice a X.length c, .int .i64 r]] W fun e w' => CheckOut X r W w' e) := fun W hW => check_any X a c r W (h.belowB hW) hX
  have HDp : Hid (∀ W, Below w.heap.size w W → Calls Tryz.prog 75 #[.agg #[.slice a X.length c, .int .i64 r]] W fun e w' => DepthOut X r W w' e) := fun W hW => depth_any X a c r W (h.belowB hW) hX
  have HIs : Hid (∀ W, Below w.heap.size w W → Calls Tryz.prog 53 #[.agg #[.slice a X.length c, .int .i64 r]] W fun e w' => IsOut X r W w' e) := fun W hW => is_any X a c r W (h.belowB hW) hX
  have HDt : Hid (∃ d, DepthIs X r d) := depth_there X r
  clear h hX
  go_enter Tryz.func38, Tryz.ntmps38
  go_wp2_with fail
  refine Calls.mono (HCk.out _ HB0.out) ?_
  rintro e w2 ⟨n, z, rfl, hck, hb2⟩
  have HA2 : Hid (AtN 24 w2 w.heap.size #[.slice a X.length c, .int .i64 r]) := AtN.belowAll HA0.out hb2
  have HB2 : Hid (Below w.heap.size w w2) := HB0.out.trans (hb2.mono HB0.out.size)
  have HCi : Hid (CheckIs X r n z) := hck
  clear HA0 HB0 HCk hb2 hck
  by_cases hn0 : n = 0
  · subst hn0
    have x0 : w2.cell? ⟨w.heap.size, 0, none⟩ = some (.slice a X.length c) := HA2.out.cell 0
    have x1 : w2.cell? ⟨w.heap.size, 1, none⟩ = some (.int .i64 r) := HA2.out.cell 1
    go_wp2_with fail
    refine Calls.mono (HDp.out _ HB2.out) ?_
    rintro e w3 ⟨d, rfl, hd, hb3⟩
    have HA3 : Hid (AtN 24 w3 w.heap.size #[.slice a X.length c, .int .i64 r]) := AtN.belowAll HA2.out hb3
    have HB3 : Hid (Below w.heap.size w w3) := HB2.out.trans (hb3.mono HB2.out.size)
    have HD : Hid (DepthIs X r d) := hd
    clear HA2 HB2 HDp hb3 hd x0 x1 HDt
    by_cases hdd : dp < (d : Int)
    · have HP : Hid (CkIs X r dp 19) := ⟨0, z, d, HCi.out, HD.out, .inr ⟨rfl, .inl ⟨hdd, rfl⟩⟩⟩
      clear HCi HIs HA3
      go_wp2_with fail
      go_ret
      exact ⟨_, rfl, HP.out, HB3.out⟩
    · have hdd' : ¬ dp < (d : Int) := hdd
      have x0 : w3.cell? ⟨w.heap.size, 0, none⟩ = some (.slice a X.length c) := HA3.out.cell 0
      have x1 : w3.cell? ⟨w.heap.size, 1, none⟩ = some (.int .i64 r) := HA3.out.cell 1
      go_wp2_with fail
      refine Calls.mono (HIs.out _ HB3.out) ?_
      rintro e w4 ⟨bc, rfl, hbc, hb4⟩
      have HB4 : Hid (Below w.heap.size w w4) := HB3.out.trans (hb4.mono HB3.out.size)
      clear HA3 HB3 HIs hb4 x0 x1
      cases bc with
      | false =>
        have HP : Hid (CkIs X r dp 16) := ⟨0, z, d, HCi.out, HD.out, .inr ⟨rfl, .inr ⟨by omega, .inl ⟨fun q => by simpa using hbc.2 q, rfl⟩⟩⟩⟩
        clear HCi hbc HD
        go_wp2_with fail
        go_ret
        exact ⟨_, rfl, HP.out, HB4.out⟩
      | true =>
        have HP : Hid (CkIs X r dp 0) := ⟨0, z, d, HCi.out, HD.out, .inr ⟨rfl, .inr ⟨by omega, .inr ⟨hbc.1 rfl, rfl⟩⟩⟩⟩
        clear HCi hbc HD
        go_wp2_with fail
        go_ret
        exact ⟨_, rfl, HP.out, HB4.out⟩
  · have hn0' : (n != 0) = true := by simpa using hn0
    have HP : Hid (CkIs X r dp n) := by
      obtain ⟨d, hd⟩ := HDt.out
      exact ⟨n, z, d, HCi.out, hd, .inl ⟨hn0, rfl⟩⟩
    clear HCi HDt
    go_wp2_with fail
    go_ret
    exact ⟨_, rfl, HP.out, HB2.out⟩
structure Tq (w wr : World) (cS : Array Value) (g gm : Nat) (v : Value) (M : List ByteArray) : Prop where
  tb : Tb wr w.heap.size g gm v M
  sc : AtN 24 wr w.heap.size cS
  bel : Below w.heap.size w wr
  hg : ∀ k, TbS g gm v k → w.heap.size < k
section
variable {w wr w' : World} {cS : Array Value} {g gm : Nat} {v : Value} {M M' : List ByteArray}
theorem Tq.more (h : Tq w wr cS g gm v M) (hb : Below wr.heap.size wr w') : Tq w w' cS g gm v M :=
  ⟨h.tb.below hb, h.sc.belowAll hb, h.bel.trans (hb.mono h.bel.size), h.hg⟩
theorem Tq.interned (h : Tq w wr cS g gm v M) (hi : TIn wr w' w.heap.size g gm v M') : ∃ v2, Tq w w' cS g gm v2 M' := by
  obtain ⟨v2, ht, hf, hr⟩ := hi
  have h1 := h.sc.lt
  refine ⟨v2, ht, h.sc.fr hf (fun q => by have := h.hg _ q; omega), Fr.below h.bel hf (fun i hi => h.tb.ge i hi) h.bel.size, fun k hk => ?_⟩
  rcases hr k hk with q | q
  · exact h.hg k q
  · omega
end
def PtxOut (X : List Nx) (w w' : World) (e : Ending) : Prop := ∃ g gm v, e = .returned (.pointer (some ⟨g, 0, none⟩)) ∧ Tb w' w.heap.size g gm v (itn (allT X)) ∧ Below w.heap.size w w'
set_option maxRecDepth 10000 in
set_option maxHeartbeats 1000000 in
theorem ptx_any (X : List Nx) (a : Option Addr) (c : Nat) (r : Int) (w : World) (h : ScAt w a X) (hX : Small X) :
    Calls Tryz.prog 39 #[.agg #[.slice a X.length c, .int .i64 r]] w fun e w' => PtxOut X w w' e := by
  have HS : Hid (ScAt w a X ∧ Small X) := ⟨h, hX⟩
  have HA0 : Hid (AtN 24 (w.alloc (.cells #[.slice a X.length c, .int .i64 r] 24)) w.heap.size #[.slice a X.length c, .int .i64 r]) := AtN.new w 24 _
  have HB0 : Hid (Below w.heap.size w (w.alloc (.cells #[.slice a X.length c, .int .i64 r] 24))) := (Below.refl _ _).alloc (Nat.le_refl _) _
  have hn := hX.1
  clear h hX
  go_enter Tryz.func39, Tryz.ntmps39
  go_wp2_with fail
  refine Calls.mono (tnew_any _) ?_
  rintro e w1 ⟨rfl, ht1, hb1⟩
  have hsz : (w.alloc (.cells #[.slice a X.length c, .int .i64 r] 24)).heap.size = w.heap.size + 1 := by simp
  rw [hsz] at ht1
  have hbd : Below w.heap.size w w1 := HB0.out.trans (hb1.mono HB0.out.size)
  have HQ0 : Hid (Tq w w1 #[.slice a X.length c, .int .i64 r] (w.heap.size + 1 + 1) (w.heap.size + 1) (.slice none 0 0) []) :=
    ⟨ht1.mono (by omega), AtN.belowAll HA0.out hb1, hbd, fun k hk => by
      rcases hk with rfl | rfl | hk
      · omega
      · omega
      · simp [Value.ownBlock] at hk⟩
  clear HA0 HB0 ht1 hb1 hbd hsz
  obtain ⟨gm, hgm⟩ : ∃ gm, w.heap.size + 1 = gm := ⟨_, rfl⟩
  rw [hgm] at HQ0
  rw [show (w.alloc (.cells #[.slice a X.length c, .int .i64 r] 24)).heap.size = gm by simp; exact hgm]
  have x0 : w1.cell? ⟨w.heap.size, 0, none⟩ = some (.slice a X.length c) := HQ0.out.sc.cell 0
  clear hgm
  go_wp2_with fail
  go_loopw [12] (fun iv wr => ∃ (i : Nat) (v : Value), iv = .int .i64 i ∧ i ≤ X.length ∧ Hid (Tq w wr #[.slice a X.length c, .int .i64 r] (gm + 1) gm v (itn (allT (X.take i))))) (fun iv _ => X.length - (intOf iv).toNat)
  case atStart => exact ⟨0, _, rfl, by omega, by simpa [itn, allT] using HQ0⟩
  case round =>
    clear HQ0 x0
    obtain ⟨i, v, rfl, hi, HQ⟩ := hrel
    by_cases hlt : i < X.length
    · have hlt' : (i : Int) < X.length := by omega
      obtain ⟨bb, ob, rfl, hbb, z0, z1, z2, z3⟩ := (HS.out.1.belowB HQ.out.bel).node hlt
      have HE : Hid (∀ W, Below w.heap.size w W → LsAt W (X.getD i noNx).a2 (tV (X.getD i noNx).nd.texts)) := fun W hW => ((HS.out.1.belowB hW).each i hlt).t
      have HZ : Hid (∀ k, (upT X i k).length ≤ 30100 ∧ ∀ s ∈ upT X i k, s.size ≤ 1000) := fun k => upT_small X HS.out.2 i k hlt
      have HU0 : Hid (itn (allT (X.take i)) = itn (upT X i 0)) := by show _ = _; rw [upT_zero]
      have HU1 : Hid (∀ k, k < (X.getD i noNx).nd.texts.length → upT X i (k + 1) = upT X i k ++ [(X.getD i noNx).nd.texts.getD k noT]) := fun k hk => upT_next X i k hk
      have HU2 : Hid (itn (upT X i (X.getD i noNx).nd.texts.length) = itn (allT (X.take (i + 1)))) := by show _ = _; rw [upT_full X i hlt]
      have HSz : Hid (∀ s ∈ (X.getD i noNx).nd.texts, s.size ≤ 1000) := (big_no (HS.out.2.2 i hlt)).2.2.2
      have hng := (big_no (HS.out.2.2 i hlt)).2.1
      rw [HU0.out] at HQ
      generalize upT X i = U at *
      generalize X.getD i noNx = N at *
      obtain ⟨⟨kd, I, T, K⟩, a1, c1, a2, c2, a3, c3⟩ := N
      dsimp only at *
      obtain ⟨W9, hW9⟩ : ∃ W9, wr.alloc (.cells #[.int .i64 kd, .slice a1 I.length c1, .slice a2 T.length c2, .slice a3 K.length c3] 49) = W9 := ⟨_, rfl⟩
      have hb9 : Below wr.heap.size wr W9 := by rw [← hW9]; exact (Below.refl _ _).alloc (Nat.le_refl _) _
      have hA9 : AtN 49 W9 wr.heap.size #[.int .i64 kd, .slice a1 I.length c1, .slice a2 T.length c2, .slice a3 K.length c3] := by rw [← hW9]; exact AtN.new wr 49 _
      have HQ9 : Hid (Tq w W9 #[.slice (some ⟨bb, ob, none⟩) X.length c, .int .i64 r] (gm + 1) gm v (itn (U 0))) := HQ.out.more hb9
      have n2 : W9.cell? ⟨wr.heap.size, 2, none⟩ = some (.slice a2 T.length c2) := hA9.cell 2
      clear HQ HU0 hA9 hb9
      go_wp2_with fail
      clear hW9 n2
      go_loopw [19] (fun kv wr => ∃ (k : Nat) (v : Value), kv = .int .i64 k ∧ k ≤ T.length ∧ Hid (Tq w wr #[.slice (some ⟨bb, ob, none⟩) X.length c, .int .i64 r] (gm + 1) gm v (itn (U k)))) (fun kv _ => T.length - (intOf kv).toNat)
      case atStart => exact ⟨0, v, rfl, by omega, HQ9⟩
      case round =>
        clear HQ9 z0 z1 z2 z3
        obtain ⟨k, v, rfl, hk, HQ⟩ := hrel
        by_cases hkl : k < T.length
        · have hkl' : (k : Int) < T.length := by omega
          obtain ⟨g2, o2, e2, hb2, d4⟩ := (HE.out _ HQ.out.bel).at (tV_at T k hkl)
          subst e2
          have hsz : (T.getD k noT).size ≤ 1000 := HSz.out _ (by rw [List.getD_eq_getElem?_getD, List.getElem?_eq_getElem hkl]; exact List.getElem_mem hkl)
          have HL1 : Hid (itn (U (k + 1)) = pIntern (itn (U k)) (T.getD k noT)) := by show _ = _; rw [HU1.out k hkl, itn_snoc]
          have hle0 := itn_sum (U k) (HZ.out k).1 (HZ.out k).2
          have HI : Hid _ := tintern_any HQ.out.tb (T.getD k noT) (by omega) (by omega) (by omega)
          rw [← HL1.out] at HI
          generalize T.getD k noT = s at *
          clear hle0 HL1
          go_wp2_with fail
          refine Calls.mono HI.out ?_
          rintro e w5 ⟨rfl, hI5⟩
          obtain ⟨v5, hq5⟩ := HQ.out.interned hI5
          have HQ5 : Hid _ := hq5
          clear HI hI5 hq5 HQ d4 hb2
          go_wp2_with fail
          go_roundw
          case rel => exact ⟨k + 1, v5, by go_num, by omega, HQ5⟩
          case measure => simp [intOf]; omega
        · have hkl' : ¬ (k : Int) < T.length := by omega
          obtain rfl : k = T.length := by omega
          rw [HU2.out] at HQ
          clear HU1 HU2 HZ HE HSz
          go_wp2_with fail
          go_roundw
          case rel => exact ⟨i + 1, v, by go_num, by omega, HQ⟩
          case measure => simp [intOf]; omega
    · have hlt' : ¬ (i : Int) < X.length := by omega
      rw [List.take_of_length_le (show X.length ≤ i by omega)] at HQ
      go_wp2_with fail
      go_ret
      exact ⟨_, _, _, rfl, HQ.out.tb, HQ.out.bel⟩
end Go.Proofs.YthfemhpbamcpjaaGreatDoor
