/- How much a scene has: the contracts of the program's Measure, of the document's Texts and Measure. -/
import Derived.Test.YtdioecmpcppleaaDoorLMea
import Derived.Test.YtdioecmpcppleaaDoorLLim
import Derived.Test.YtdioecmpcppleaaDoorGH
import Derived.Test.YtdioecmpcppleaaDoorGB
namespace Go.Proofs.YtdioecmpcppleaaDoor
open Go.RowKit Go.Maps Go.WideMaps Go.Sort

/-- A list of texts that a call leaves. -/
structure TxI (w : World) (a : Option Addr) (cap b o : Nat) (L : List ByteArray) : Prop where
  ptr : 0 < L.length → a = some ⟨b, o, none⟩
  at_ : TextAt w b o L
  cap_ : L.length ≤ cap
  nil : a = none → cap = 0
theorem TxI.below {w w' : World} {a : Option Addr} {cap b o : Nat} {L : List ByteArray} (h : TxI w a cap b o L) (hb : Below w.heap.size w w') : TxI w' a cap b o L := ⟨h.ptr, h.at_.below hb, h.cap_, h.nil⟩
def TxOut (L : List ByteArray) (w w' : World) (e : Ending) : Prop := ∃ a cap b o, e = .returned (.slice a L.length cap) ∧ TxI w' a cap b o L ∧ Below w.heap.size w w'

set_option maxRecDepth 10000 in
set_option maxHeartbeats 1000000 in
theorem rtexts_any (X : List Nx) (a : Option Addr) (c : Nat) (r : Int) (w : World) (h : ScAt w a X) (hX : Small X) :
    Calls Tryd.prog 35 #[.agg #[.slice a X.length c, .int .i64 r]] w fun e w' => TxOut (itn (allT X)) w w' e := by
  have HS : Hid (ScAt w a X ∧ Small X) := ⟨h, hX⟩
  have HA0 : Hid (AtN 24 ((w.alloc (.cells #[.slice a X.length c, .int .i64 r] 24)).alloc (.cells #[] 9)) w.heap.size #[.slice a X.length c, .int .i64 r]) := (AtN.new w 24 _).alloc _
  have HB0 : Hid (Below w.heap.size w ((w.alloc (.cells #[.slice a X.length c, .int .i64 r] 24)).alloc (.cells #[] 9))) := ((Below.refl w.heap.size w).alloc (Nat.le_refl _) _).alloc (by simp) _
  have hn := hX.1
  clear h hX
  go_enter Tryd.func35, Tryd.ntmps35
  go_wp2_with fail
  go_loopw [3, 4] (fun sv iv wr => ∃ (i : Nat) (L : List ByteArray) (y : Option Addr) (cap b o : Nat), iv = .int .i64 i ∧ sv = .slice y L.length cap ∧ i ≤ X.length ∧ Hid (L = itn (allT (X.take i))) ∧ Hid (TxI wr y cap b o L) ∧ Hid (AtN 24 wr w.heap.size #[.slice a X.length c, .int .i64 r]) ∧ Hid (Below w.heap.size w wr)) (fun _ iv _ => X.length - (intOf iv).toNat)
  case atStart => exact ⟨0, [], _, _, 0, 0, rfl, rfl, by omega, by simp [Hid, itn, allT], ⟨fun q => by simp at q, fun i hi => by simp at hi, by simp, fun q => by simp at q⟩, HA0, HB0⟩
  case round =>
    clear HA0 HB0
    obtain ⟨i, L, y, cap, bt, ot, rfl, rfl, hi, HL, HX, HA, HB⟩ := hrel
    have x0 : wr.cell? ⟨w.heap.size, 0, none⟩ = some (.slice a X.length c) := HA.out.cell 0
    by_cases hlt : i < X.length
    · have hlt' : (i : Int) < X.length := by omega
      have HE : Hid (∀ W, Below w.heap.size w W → ∃ b o, a = some ⟨b, o, none⟩ ∧ b < w.heap.size ∧ W.cell? ⟨b, o + i * 4 + 2, none⟩ = some (.slice (X.getD i noNx).a2 (X.getD i noNx).nd.texts.length (X.getD i noNx).c2) ∧ LsAt W (X.getD i noNx).a2 (tV (X.getD i noNx).nd.texts)) := fun W hW => by
        obtain ⟨b, o, e, hb, _⟩ := HS.out.1.node hlt
        have hs := HS.out.1.belowB hW
        obtain ⟨b', o', e', _, _, _, d, _⟩ := hs.node hlt
        rw [e] at e'
        cases e'
        exact ⟨b, o, e, hb, d, (hs.each i hlt).t⟩
      have HZ : Hid (∀ k, (upT X i k).length ≤ 6100 ∧ ∀ s ∈ upT X i k, s.size ≤ 500) := fun k => upT_small X HS.out.2 i k hlt
      have HU0 : Hid (L = itn (upT X i 0)) := by show _ = _; rw [upT_zero]; exact HL.out
      have HU1 : Hid (∀ k, k < (X.getD i noNx).nd.texts.length → upT X i (k + 1) = upT X i k ++ [(X.getD i noNx).nd.texts.getD k noT]) := fun k hk => upT_next X i k hk
      have HU2 : Hid (itn (upT X i (X.getD i noNx).nd.texts.length) = itn (allT (X.take (i + 1)))) := by show _ = _; rw [upT_full X i hlt]
      have hng := (great_no (HS.out.2.2 i hlt)).2.1
      generalize upT X i = U at *
      generalize X.getD i noNx = N at *
      obtain ⟨⟨kd, I, T, K⟩, a1, c1, a2, c2, a3, c3⟩ := N
      dsimp only at *
      clear HL
      go_wp2_with fail
      go_loopw [3, 5] (fun sv kv wr => ∃ (k : Nat) (L : List ByteArray) (y : Option Addr) (cap b o : Nat), kv = .int .i64 k ∧ sv = .slice y L.length cap ∧ k ≤ T.length ∧ Hid (L = itn (U k)) ∧ Hid (TxI wr y cap b o L) ∧ Hid (AtN 24 wr w.heap.size #[.slice a X.length c, .int .i64 r]) ∧ Hid (Below w.heap.size w wr)) (fun _ kv _ => T.length - (intOf kv).toNat)
      case atStart => exact ⟨0, L, y, cap, bt, ot, rfl, rfl, by omega, HU0, HX, HA, HB⟩
      case round =>
        clear HU0 HX HA HB x0
        obtain ⟨k, L, y, cap, bt, ot, rfl, rfl, hk, HL, HX, HA, HB⟩ := hrel
        have x0 : wr.cell? ⟨w.heap.size, 0, none⟩ = some (.slice a X.length c) := HA.out.cell 0
        obtain ⟨b, o, rfl, hbl, d2, hl2⟩ := HE.out wr HB.out
        by_cases hkl : k < T.length
        · have hkl' : (k : Int) < T.length := by omega
          obtain ⟨g2, o2, e2, hb2, d4⟩ := hl2.at (tV_at T k hkl)
          rw [e2] at d2
          have HL1 : Hid (itn (U (k + 1)) = pIntern L (T.getD k noT)) := by show _ = _; rw [HU1.out k hkl, itn_snoc, ← HL.out]
          have hle0 := (itn_sum (U k) (HZ.out k).1 (HZ.out k).2).2
          rw [← HL.out] at hle0
          have HI : Hid (Calls Tryd.prog 52 #[.slice y L.length cap, .string (T.getD k noT)] wr fun e w' => TGot wr w' e (pIntern L (T.getD k noT)) (idx6 (T.getD k noT) L : Nat)) :=
            intern6_any y cap bt ot L (T.getD k noT) wr HX.out.ptr HX.out.at_ HX.out.cap_ HX.out.nil (by omega)
          clear HU1 HL HZ HX hl2
          generalize idx6 (T.getD k noT) L = ix at *
          generalize pIntern L (T.getD k noT) = M at *
          generalize T.getD k noT = s at *
          go_wp2_with fail
          refine Calls.mono HI.out ?_
          rintro e w1 ⟨y1, cap1, b1, o1, rfl, q1, q2, q3, q4, hb1⟩
          have HX1 : Hid (TxI w1 y1 cap1 b1 o1 M) := ⟨q1, q2, q3, q4⟩
          have HA1 : Hid (AtN 24 w1 w.heap.size #[.slice (some ⟨b, o, none⟩) X.length c, .int .i64 r]) := AtN.belowAll HA.out hb1
          have HB1 : Hid (Below w.heap.size w w1) := HB.out.trans (hb1.mono HB.out.size)
          clear HI q1 q2 q3 q4 hb1 HA HB d2 d4 x0
          go_wp2_with fail
          go_roundw
          case rel => exact ⟨k + 1, M, y1, cap1, b1, o1, by go_num, rfl, by omega, HL1.out.symm, HX1, HA1, HB1⟩
          case measure => simp [intOf]; omega
        · have hkl' : ¬ (k : Int) < T.length := by omega
          obtain rfl : k = T.length := by omega
          have HL1 : Hid (L = itn (allT (X.take (i + 1)))) := by show _ = _; rw [HL.out, HU2.out]
          clear HL HU1 HU2 HZ HE hl2
          go_wp2_with fail
          go_roundw
          case rel => exact ⟨i + 1, L, y, cap, bt, ot, by go_num, rfl, by omega, HL1, HX, HA, HB⟩
          case measure => simp [intOf]; omega
    · have hlt' : ¬ (i : Int) < X.length := by omega
      have HQ : Hid (itn (allT X) = L) := by
        show _ = _
        rw [HL.out, List.take_of_length_le (by omega)]
      clear HL HA
      go_wp2_with fail
      go_ret
      rw [HQ.out]
      exact ⟨y, cap, bt, ot, rfl, HX.out, HB.out⟩

end Go.Proofs.YtdioecmpcppleaaDoor
