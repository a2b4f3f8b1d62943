/- The contract of the document's own Put of a record. -/
import Derived.Test.YtknfecclijoefaaDoorRMa
import Derived.Test.YtknfecclijoefaaDoorVA
import Derived.Test.YtknfecclijoefaaDoorGD
import Derived.Lib.Strings
namespace Go.Proofs.YtknfecclijoefaaDoor
open Go.RowKit

def PutOut (N : Nd) (p : Int) (L : List ByteArray) (w w' : World) (e : Ending) : Prop :=
  ∃ (S : ByteArray) (a : Option Addr) (cap b o : Nat) (M : List ByteArray) (k : Int), e = .returned (.tuple #[.string S, .slice a M.length cap, .int .i64 k]) ∧ TxI w' a cap b o M ∧ PutIs N p L S M k ∧ Below w.heap.size w w'

set_option maxRecDepth 10000 in
set_option maxHeartbeats 2000000 in
theorem rrput_any (N : Nd) (a1 a2 a3 : Option Addr) (c1 c2 c3 : Nat) (p : Int) (a : Option Addr) (cap b o : Nat) (L : List ByteArray) (w : World) (h : NdAt w N a1 a2 a3) (hg : great N = false) (hf : fine N.ints) (hp : p ≤ 9223372036854775807) (hx : TxI w a cap b o L) (hL : L.length ≤ 1000) :
    Calls Tryd.prog 14 #[.agg #[.int .i64 N.kind, .slice a1 N.ints.length c1, .slice a2 N.texts.length c2, .slice a3 N.kids.length c3], .int .i64 p, .slice a L.length cap] w fun e w' => PutOut N p L w w' e := by
  have hgr := great_no hg
  have HN : Hid (NdAt w N a1 a2 a3) := h
  have HF : Hid (fine N.ints) := hf
  have HX : Hid (TxI w a cap b o L) := hx
  have l1 := hgr.1
  have l2 := hgr.2.1
  have l3 := hgr.2.2.1
  have HA0 : Hid (AtN 26 (w.alloc (.cells #[.int .i64 N.kind, .slice a1 N.ints.length c1, .slice a2 N.texts.length c2, .slice a3 N.kids.length c3] 26)) w.heap.size #[.int .i64 N.kind, .slice a1 N.ints.length c1, .slice a2 N.texts.length c2, .slice a3 N.kids.length c3]) := AtN.new w 26 _
  have HB0 : Hid (Below w.heap.size w (w.alloc (.cells #[.int .i64 N.kind, .slice a1 N.ints.length c1, .slice a2 N.texts.length c2, .slice a3 N.kids.length c3] 26))) := (Below.refl w.heap.size w).alloc (Nat.le_refl _) _
  have HSp : Hid (∀ W, Calls Tryd.prog 34 #[.int .i64 2, .int .i64 N.kind] W fun e w' => SpIs W w' e (newSp N.kind)) := fun W => rspec2_any N.kind W
  have HC : Hid (∀ (W : World) (S : Sp) (sb : Option Addr) (d : Nat), Below w.heap.size w W → LsAt W sb (iV S.ints) → Calls Tryd.prog 35 #[.agg #[.int .i64 N.kind, .slice a1 N.ints.length c1, .slice a2 N.texts.length c2, .slice a3 N.kids.length c3], .agg #[.slice sb S.ints.length d, .int .i64 S.texts, .int .i64 S.least, .int .i64 S.most]] W fun e w' => e = .returned (.int .i64 (chkN N S.ints S.texts S.least S.most)) ∧ Below W.heap.size W w') :=
    fun W S sb d hW hb => frcheck_any N S.ints S.texts S.least S.most a1 a2 a3 sb c1 c2 c3 d W (h.belowB hW) hb hf hgr.1 hgr.2.1 hgr.2.2.2
  have HV : Hid (tyN N = if (newSp N.kind).ok = false then 9 else chkN N (newSp N.kind).ints (newSp N.kind).texts (newSp N.kind).least (newSp N.kind).most) := rfl
  have HK : Hid ((newSp N.kind).ok = true → 1 ≤ N.kind ∧ N.kind < 9) := fun q => by
    by_cases hk : N.kind < 1 ∨ 9 ≤ N.kind
    · rw [newSp_no N.kind hk] at q; cases q
    · omega
  have HE : Hid (∀ (S : ByteArray) (M : List ByteArray) (k : Int), PutIs N p L S M k ↔ (k = rE N p ∧ (k ≠ 0 → S = ⟨#[]⟩ ∧ M = L) ∧ (k = 0 → S.data.toList = rB N p L ∧ M = itF L N.texts))) := fun _ _ _ => Iff.rfl
  have HRE : Hid (rE N p = if tyN N = 0 then (if rOk N p = true then 0 else 13) else tyN N) := rfl
  clear h hg hf hx hgr
  generalize tyN N = ty at *
  generalize newSp N.kind = S at *
  obtain ⟨ok, ci, ct, cl, cm⟩ := S
  go_enter Tryd.func14, Tryd.ntmps14
  go_wp2_with fail
  refine Calls.mono (HSp.out _) ?_
  rintro e w1 ⟨v, rfl, hI, hb1⟩
  obtain ⟨sb, sc, rfl⟩ := own_shape7 hI
  have HL : Hid (LsAt w1 sb (iV ci)) := LsAt.of_own hI
  have HA1 : Hid (AtN 26 w1 w.heap.size #[.int .i64 N.kind, .slice a1 N.ints.length c1, .slice a2 N.texts.length c2, .slice a3 N.kids.length c3]) := AtN.belowAll HA0.out hb1
  have HB1 : Hid (Below w.heap.size w w1) := HB0.out.trans (hb1.mono HB0.out.size)
  clear HSp hI hb1 HA0 HB0
  dsimp only at *
  cases ok with
  | false =>
    have ht : ty = 9 := HV.out
    subst ht
    have HP : Hid (PutIs N p L ⟨#[]⟩ L 9) := (HE.out _ _ _).2 ⟨by rw [HRE.out]; rfl, fun _ => ⟨rfl, rfl⟩, fun q => by omega⟩
    clear HV HE HRE HC HL HA1
    go_wp2_with fail
    go_ret3
    exact ⟨_, _, _, _, _, L, _, rfl, (HX.out.below HB1.out).below ((Below.refl _ _).alloc (Nat.le_refl _) _), HP.out, HB1.out.alloc HB1.out.size _⟩
  | true =>
    have ht : ty = chkN N ci ct cl cm := HV.out
    have hk := HK.out rfl
    have HC1 : Hid (Calls Tryd.prog 35 #[.agg #[.int .i64 N.kind, .slice a1 N.ints.length c1, .slice a2 N.texts.length c2, .slice a3 N.kids.length c3], .agg #[.slice sb ci.length sc, .int .i64 ct, .int .i64 cl, .int .i64 cm]] (w1.alloc (.cells #[.slice sb ci.length sc, .int .i64 ct, .int .i64 cl, .int .i64 cm] 78)) fun e w' => e = .returned (.int .i64 ty) ∧ Below (w1.alloc (.cells #[.slice sb ci.length sc, .int .i64 ct, .int .i64 cl, .int .i64 cm] 78)).heap.size (w1.alloc (.cells #[.slice sb ci.length sc, .int .i64 ct, .int .i64 cl, .int .i64 cm] 78)) w') := by
      have := HC.out (w1.alloc (.cells #[.slice sb ci.length sc, .int .i64 ct, .int .i64 cl, .int .i64 cm] 78)) ⟨true, ci, ct, cl, cm⟩ sb sc (HB1.out.alloc HB1.out.size _) (HL.out.alloc _)
      rw [ht]
      exact this
    have n1 := HA1.out.lt
    have y0 : w1.cell? ⟨w.heap.size, 0, none⟩ = some (.int .i64 N.kind) := HA1.out.cell 0
    have y1 : w1.cell? ⟨w.heap.size, 1, none⟩ = some (.slice a1 N.ints.length c1) := HA1.out.cell 1
    have y2 : w1.cell? ⟨w.heap.size, 2, none⟩ = some (.slice a2 N.texts.length c2) := HA1.out.cell 2
    have y3 : w1.cell? ⟨w.heap.size, 3, none⟩ = some (.slice a3 N.kids.length c3) := HA1.out.cell 3
    clear HV HC HL HK ht
    go_wp2_with fail
    refine Calls.mono HC1.out ?_
    rintro e w2 ⟨rfl, hb2⟩
    have HB2 : Hid (Below w.heap.size w w2) := (HB1.out.alloc HB1.out.size _).trans (hb2.mono (by have := HB1.out.size; simp; omega))
    have HA2 : Hid (AtN 26 w2 w.heap.size #[.int .i64 N.kind, .slice a1 N.ints.length c1, .slice a2 N.texts.length c2, .slice a3 N.kids.length c3]) := AtN.belowAll (AtN.alloc HA1.out _) hb2
    clear HC1 HB1 HA1 hb2 y0 y1 y2 y3 n1
    by_cases ht : ty = 0
    · subst ht
      have HY : Hid ((∀ i, i < N.kids.length → 0 ≤ N.kids.getD i 0 ∧ N.kids.getD i 0 < p) → rE N p = 0) := fun q => by rw [HRE.out, if_pos rfl, if_pos (rOk_yes q)]
      have HNo : Hid (∀ i, i < N.kids.length → ¬ (0 ≤ N.kids.getD i 0 ∧ N.kids.getD i 0 < p) → rE N p = 13) := fun i hi q => by rw [HRE.out, if_pos rfl, if_neg (by rw [rOk_no hi q]; simp)]
      clear HRE
      go_wp2_with fail
      go_loopw [12] (fun iv wr => ∃ i : Nat, iv = .int .i64 i ∧ i ≤ N.kids.length ∧ wr = w2 ∧ Hid (∀ k, k < i → 0 ≤ N.kids.getD k 0 ∧ N.kids.getD k 0 < p)) (fun iv _ => N.kids.length - (intOf iv).toNat)
      case atStart => exact ⟨0, rfl, by omega, rfl, fun k hk => by omega⟩
      case round =>
        obtain ⟨i, rfl, hi, rfl, HI⟩ := hrel
        have y3 : wr.cell? ⟨w.heap.size, 3, none⟩ = some (.slice a3 N.kids.length c3) := HA2.out.cell 3
        have n2 := HA2.out.lt
        by_cases hlt : i < N.kids.length
        · have hlt' : (i : Int) < N.kids.length := by omega
          obtain ⟨b3, o3, rfl, hb3, d3⟩ := (HN.out.k.belowB HB2.out).at (iV_at N.kids i hlt)
          have HNi : Hid (¬ (0 ≤ N.kids.getD i 0 ∧ N.kids.getD i 0 < p) → rE N p = 13) := HNo.out i hlt
          have HIi : Hid (0 ≤ N.kids.getD i 0 ∧ N.kids.getD i 0 < p → ∀ k, k < i + 1 → 0 ≤ N.kids.getD k 0 ∧ N.kids.getD k 0 < p) := fun q k hk => by
            by_cases e : k = i
            · subst e; exact q
            · exact HI.out k (by omega)
          clear HI HNo HY
          generalize N.kids.getD i 0 = z at *
          by_cases hz : z < 0
          · have HP : Hid (PutIs N p L ⟨#[]⟩ L 13) := (HE.out _ _ _).2 ⟨(HNi.out (by omega)).symm, fun _ => ⟨rfl, rfl⟩, fun q => by omega⟩
            clear HE HNi HIi
            go_wp2_with fail
            go_ret3
            exact ⟨_, _, _, _, _, L, _, rfl, HX.out.below HB2.out, HP.out, HB2.out⟩
          · by_cases hz2 : p ≤ z
            · have HP : Hid (PutIs N p L ⟨#[]⟩ L 13) := (HE.out _ _ _).2 ⟨(HNi.out (by omega)).symm, fun _ => ⟨rfl, rfl⟩, fun q => by omega⟩
              clear HE HNi HIi
              go_wp2_with fail
              go_ret3
              exact ⟨_, _, _, _, _, L, _, rfl, HX.out.below HB2.out, HP.out, HB2.out⟩
            · clear HNi
              go_wp2_with fail
              go_roundw
              case rel => exact ⟨i + 1, by go_num, by omega, by first | rfl | trivial, HIi.out ⟨by omega, by omega⟩⟩
              case measure => simp [intOf]; omega
        · have hlt' : ¬ (i : Int) < N.kids.length := by omega
          have HKr : Hid (∀ k, k < N.kids.length → 0 ≤ N.kids.getD k 0 ∧ N.kids.getD k 0 < p) := fun k hk => HI.out k (by omega)
          have HR0 : Hid (rE N p = 0) := HY.out HKr.out
          clear HI HY HNo
          have y0 : wr.cell? ⟨w.heap.size, 0, none⟩ = some (.int .i64 N.kind) := HA2.out.cell 0
          have P0 := refput_any N.kind wr (by omega) (by omega)
          obtain ⟨X0, hX0⟩ : ∃ X0 : ByteArray, X0 = ⟨(put N.kind.toNat).toArray⟩ := ⟨_, rfl⟩
          have z0 : X0.size ≤ 10 := by
            have h1 : X0.size = X0.data.toList.length := by rw [Array.length_toList]; rfl
            rw [h1, hX0]
            exact (put_length _).2
          rw [← hX0] at P0
          have HX0 : Hid (X0.data.toList = put N.kind.toNat) := by show _ = _; rw [hX0]
          have HP0 : Hid _ := P0
          clear P0 hX0
          go_wp2_with fail
          refine Calls.mono (Hid.out HP0) ?_
          rintro e w3 ⟨rfl, hb3⟩
          have HB3 : Hid (Below w.heap.size w w3) := HB2.out.trans (hb3.mono HB2.out.size)
          have HA3 : Hid (AtN 26 w3 w.heap.size #[.int .i64 N.kind, .slice a1 N.ints.length c1, .slice a2 N.texts.length c2, .slice a3 N.kids.length c3]) := AtN.belowAll HA2.out hb3
          clear HP0 hb3 HA2 HB2 y0 y3 n2
          go_wp2_with fail
          go_loopw [13, 14] (fun xv iv wr => ∃ (i : Nat) (X : ByteArray), xv = .string X ∧ iv = .int .i64 i ∧ i ≤ N.ints.length ∧ X.size ≤ 10 + 10 * i ∧ Hid (X.data.toList = X0.data.toList ++ rI (N.ints.take i)) ∧ Hid (AtN 26 wr w.heap.size #[.int .i64 N.kind, .slice a1 N.ints.length c1, .slice a2 N.texts.length c2, .slice a3 N.kids.length c3]) ∧ Hid (Below w.heap.size w wr)) (fun _ iv _ => N.ints.length - (intOf iv).toNat)
          case atStart => exact ⟨0, X0, rfl, rfl, by omega, by omega, by simp [Hid, rI], HA3, HB3⟩
          case round =>
            clear HA3 HB3
            obtain ⟨i, X, rfl, rfl, hi, hX, HXi, HA3, HB3⟩ := hrel
            have y1 : wr.cell? ⟨w.heap.size, 1, none⟩ = some (.slice a1 N.ints.length c1) := HA3.out.cell 1
            have n2 := HA3.out.lt
            by_cases hlt : i < N.ints.length
            · have hlt' : (i : Int) < N.ints.length := by omega
              obtain ⟨b3, o3, rfl, hb3, d3⟩ := (HN.out.i.belowB HB3.out).at (iV_at N.ints i hlt)
              have hz := HF.out i hlt
              have HXn : Hid (X.data.toList ++ put (zig (N.ints.getD i 0)).toNat = X0.data.toList ++ rI (N.ints.take (i + 1))) := by
                show _ = _
                unfold rI at HXi ⊢
                rw [flat_take _ N.ints 0 i hlt, HXi.out, List.append_assoc]
              clear HXi
              generalize N.ints.getD i 0 = z at *
              have hzr := zig_range z hz.1 hz.2
              have HZ : Hid _ := fun W => zig_ref z W hz.1 hz.2
              have HP1 := fun W => refput_any (zig z) W hzr.1 hzr.2
              obtain ⟨Y, hY⟩ : ∃ Y : ByteArray, Y = ⟨(put (zig z).toNat).toArray⟩ := ⟨_, rfl⟩
              rw [← hY] at HP1
              have dY : Y.data.toList = put (zig z).toNat := by rw [hY]
              have zY : Y.size ≤ 10 := by
                have h1 : Y.size = Y.data.toList.length := by rw [Array.length_toList]; rfl
                rw [h1, dY]
                exact (put_length _).2
              rw [← dY] at HXn
              have HP2 : Hid _ := HP1
              have A1 := fun (W : World) => run_string_add_sum (P := Tryd.prog) W X Y (by omega)
              have hsz : (X ++ Y).size ≤ 10 + 10 * (i + 1) := by rw [ByteArray.size_append]; omega
              have HXn2 : Hid ((X ++ Y).data.toList = X0.data.toList ++ rI (N.ints.take (i + 1))) := by
                show _ = _
                rw [ByteArray.data_append, Array.toList_append]
                exact HXn.out
              generalize zig z = zz at *
              clear HXn HP1 hY dY hz
              go_wp2_with fail
              refine Calls.mono (HZ.out _) ?_
              rintro e w4 ⟨rfl, rfl⟩
              clear HZ
              go_wp2_with fail
              refine Calls.mono (Hid.out HP2 _) ?_
              rintro e w5 ⟨rfl, hb5⟩
              have HB5 : Hid (Below w.heap.size w w5) := HB3.out.trans (hb5.mono HB3.out.size)
              have HA5 : Hid (AtN 26 w5 w.heap.size #[.int .i64 N.kind, .slice (some ⟨b3, o3, none⟩) N.ints.length c1, .slice a2 N.texts.length c2, .slice a3 N.kids.length c3]) := AtN.belowAll HA3.out hb5
              clear HP2 hb5 HB3 HA3 y1 d3 n2
              go_wp2_with fail
              go_roundw
              case rel => exact ⟨i + 1, X ++ Y, rfl, by go_num, by omega, hsz, HXn2, HA5, HB5⟩
              case measure => simp [intOf]; omega
            · have hlt' : ¬ (i : Int) < N.ints.length := by omega
              have HXe : Hid (X.data.toList = X0.data.toList ++ rI N.ints) := by
                have := HXi.out
                rw [List.take_of_length_le (by omega)] at this
                exact this
              clear HXi
              have z1 : X.size ≤ 1010 := by omega
              have HTx : Hid (TxI wr a cap b o L) := HX.out.below HB3.out
              clear hX
              go_wp2_with fail
              go_loopw [2, 13, 15] (fun sv xv iv wr => ∃ (i : Nat) (Z : ByteArray) (M : List ByteArray) (y : Option Addr) (cp bt ot : Nat), iv = .int .i64 i ∧ xv = .string Z ∧ sv = .slice y M.length cp ∧ i ≤ N.texts.length ∧ Z.size ≤ 1010 + 10 * i ∧ M.length ≤ 1000 + i ∧ Hid (M = itF L (N.texts.take i)) ∧ Hid (Z.data.toList = X.data.toList ++ rT (itF L N.texts) (N.texts.take i)) ∧ Hid (TxI wr y cp bt ot M) ∧ Hid (AtN 26 wr w.heap.size #[.int .i64 N.kind, .slice a1 N.ints.length c1, .slice a2 N.texts.length c2, .slice a3 N.kids.length c3]) ∧ Hid (Below w.heap.size w wr)) (fun _ _ iv _ => N.texts.length - (intOf iv).toNat)
              case atStart => exact ⟨0, X, L, a, cap, b, o, rfl, rfl, rfl, by omega, by omega, by omega, by simp [Hid, itF], by simp [Hid, rT], HTx, HA3, HB3⟩
              case round =>
                clear HA3 HB3 HTx
                obtain ⟨i, Z, M, y, cp, bt, ot, rfl, rfl, rfl, hi, hZ, hM, HMi, HZi, HTx, HA3, HB3⟩ := hrel
                have y2 : wr.cell? ⟨w.heap.size, 2, none⟩ = some (.slice a2 N.texts.length c2) := HA3.out.cell 2
                have n2 := HA3.out.lt
                by_cases hlt : i < N.texts.length
                · have hlt' : (i : Int) < N.texts.length := by omega
                  obtain ⟨b3, o3, rfl, hb3, d3⟩ := (HN.out.t.belowB HB3.out).at (tV_at N.texts i hlt)
                  have HI : Hid (Calls Tryd.prog 27 #[.slice y M.length cp, .string (N.texts.getD i noT)] wr fun e w' => TGot wr w' e (pIntern M (N.texts.getD i noT)) (idx6 (N.texts.getD i noT) M : Nat)) :=
                    intern6_any y cp bt ot M (N.texts.getD i noT) wr HTx.out.ptr HTx.out.at_ HTx.out.cap_ HTx.out.nil (by omega)
                  have HMn : Hid (pIntern M (N.texts.getD i noT) = itF L (N.texts.take (i + 1))) := by
                    show _ = _
                    rw [show N.texts.take (i + 1) = N.texts.take i ++ [N.texts.getD i noT] by rw [List.take_add_one, List.getElem?_eq_getElem hlt, List.getD_eq_getElem?_getD, List.getElem?_eq_getElem hlt]; rfl, itF_snoc, ← HMi.out]
                  have hMn : (pIntern M (N.texts.getD i noT)).length ≤ 1000 + (i + 1) := by
                    have := pIntern_le M (N.texts.getD i noT)
                    omega
                  have hix : idx6 (N.texts.getD i noT) M ≤ 2000 := by
                    have := idx6_le (N.texts.getD i noT) M
                    omega
                  have HZn : Hid (Z.data.toList ++ put (idx6 (N.texts.getD i noT) M) = X.data.toList ++ rT (itF L N.texts) (N.texts.take (i + 1))) := by
                    show _ = _
                    unfold rT at HZi ⊢
                    rw [flat_take _ N.texts noT i hlt, HZi.out, List.append_assoc, ← itF_num L N.texts i hlt, ← HMi.out]
                  clear HZi HMi HTx
                  generalize idx6 (N.texts.getD i noT) M = ix at *
                  generalize pIntern M (N.texts.getD i noT) = M2 at *
                  generalize N.texts.getD i noT = s at *
                  have HP1 := fun W => refput_any (ix : Int) W (by omega) (by omega)
                  rw [Int.toNat_natCast] at HP1
                  obtain ⟨Y, hY⟩ : ∃ Y : ByteArray, Y = ⟨(put ix).toArray⟩ := ⟨_, rfl⟩
                  rw [← hY] at HP1
                  have dY : Y.data.toList = put ix := by rw [hY]
                  have zY : Y.size ≤ 10 := by
                    have h1 : Y.size = Y.data.toList.length := by rw [Array.length_toList]; rfl
                    rw [h1, dY]
                    exact (put_length _).2
                  rw [← dY] at HZn
                  have HP2 : Hid _ := HP1
                  have A1 := fun (W : World) => run_string_add_sum (P := Tryd.prog) W Z Y (by omega)
                  have hsz : (Z ++ Y).size ≤ 1010 + 10 * (i + 1) := by rw [ByteArray.size_append]; omega
                  have HZn2 : Hid ((Z ++ Y).data.toList = X.data.toList ++ rT (itF L N.texts) (N.texts.take (i + 1))) := by
                    show _ = _
                    rw [ByteArray.data_append, Array.toList_append]
                    exact HZn.out
                  clear HZn HP1 hY dY
                  go_wp2_with fail
                  refine Calls.mono HI.out ?_
                  rintro e w4 ⟨y4, cp4, b4, o4, rfl, q1, q2, q3, q4, hb4⟩
                  have HT4 : Hid (TxI w4 y4 cp4 b4 o4 M2) := ⟨q1, q2, q3, q4⟩
                  have HB4 : Hid (Below w.heap.size w w4) := HB3.out.trans (hb4.mono HB3.out.size)
                  have HA4 : Hid (AtN 26 w4 w.heap.size #[.int .i64 N.kind, .slice a1 N.ints.length c1, .slice (some ⟨b3, o3, none⟩) N.texts.length c2, .slice a3 N.kids.length c3]) := AtN.belowAll HA3.out hb4
                  clear HI q1 q2 q3 q4 hb4 HB3 HA3 y2 d3 n2
                  go_wp2_with fail
                  refine Calls.mono (Hid.out HP2 _) ?_
                  rintro e w5 ⟨rfl, hb5⟩
                  have HB5 : Hid (Below w.heap.size w w5) := HB4.out.trans (hb5.mono HB4.out.size)
                  have HA5 : Hid (AtN 26 w5 w.heap.size #[.int .i64 N.kind, .slice a1 N.ints.length c1, .slice (some ⟨b3, o3, none⟩) N.texts.length c2, .slice a3 N.kids.length c3]) := AtN.belowAll HA4.out hb5
                  have HT5 : Hid (TxI w5 y4 cp4 b4 o4 M2) := HT4.out.below hb5
                  clear HP2 hb5 HB4 HA4 HT4
                  go_wp2_with fail
                  go_roundw
                  case rel => exact ⟨i + 1, Z ++ Y, M2, y4, cp4, b4, o4, by go_num, rfl, rfl, by omega, hsz, hMn, HMn, HZn2, HT5, HA5, HB5⟩
                  case measure => simp [intOf]; omega
                · have hlt' : ¬ (i : Int) < N.texts.length := by omega
                  have HZe : Hid (Z.data.toList = X.data.toList ++ rT (itF L N.texts) N.texts) := by
                    have := HZi.out
                    rw [List.take_of_length_le (show N.texts.length ≤ i by omega)] at this
                    exact this
                  have HMe : Hid (M = itF L N.texts) := by
                    have := HMi.out
                    rw [List.take_of_length_le (by omega)] at this
                    exact this
                  have z2 : Z.size ≤ 2010 := by omega
                  have y3 : wr.cell? ⟨w.heap.size, 3, none⟩ = some (.slice a3 N.kids.length c3) := HA3.out.cell 3
                  have P0 := refput_any (N.kids.length : Int) wr (by omega) (by omega)
                  rw [Int.toNat_natCast] at P0
                  obtain ⟨Y, hY⟩ : ∃ Y : ByteArray, Y = ⟨(put N.kids.length).toArray⟩ := ⟨_, rfl⟩
                  rw [← hY] at P0
                  have dY : Y.data.toList = put N.kids.length := by rw [hY]
                  have zY : Y.size ≤ 10 := by
                    have h1 : Y.size = Y.data.toList.length := by rw [Array.length_toList]; rfl
                    rw [h1, dY]
                    exact (put_length _).2
                  have A1 := fun (W : World) => run_string_add_sum (P := Tryd.prog) W Z Y (by omega)
                  have HP0 : Hid _ := P0
                  have HY : Hid (Y.data.toList = put N.kids.length) := dY
                  clear HZi HMi P0 hY dY hZ
                  go_wp2_with fail
                  refine Calls.mono (Hid.out HP0) ?_
                  rintro e w6 ⟨rfl, hb6⟩
                  have HB6 : Hid (Below w.heap.size w w6) := HB3.out.trans (hb6.mono HB3.out.size)
                  have HA6 : Hid (AtN 26 w6 w.heap.size #[.int .i64 N.kind, .slice a1 N.ints.length c1, .slice a2 N.texts.length c2, .slice a3 N.kids.length c3]) := AtN.belowAll HA3.out hb6
                  have HT6 : Hid (TxI w6 y cp bt ot M) := HTx.out.below hb6
                  obtain ⟨V, hV⟩ : ∃ V, Z ++ Y = V := ⟨_, rfl⟩
                  have zV : V.size ≤ 2020 := by rw [← hV, ByteArray.size_append]; omega
                  have HVV : Hid (V.data.toList = X.data.toList ++ rT (itF L N.texts) N.texts ++ put N.kids.length) := by
                    show _ = _
                    rw [← hV, ByteArray.data_append, Array.toList_append, HZe.out, HY.out]
                  clear HP0 hb6 HB3 HA3 HTx y2 y3 n2 HZe HY
                  go_wp2_with fail
                  clear A1 hV
                  go_loopw [13, 17] (fun xv iv wr => ∃ (i : Nat) (F : ByteArray), xv = .string F ∧ iv = .int .i64 i ∧ i ≤ N.kids.length ∧ F.size ≤ 2020 + 10 * i ∧ Hid (F.data.toList = V.data.toList ++ rK p (N.kids.take i)) ∧ Hid (TxI wr y cp bt ot M) ∧ Hid (AtN 26 wr w.heap.size #[.int .i64 N.kind, .slice a1 N.ints.length c1, .slice a2 N.texts.length c2, .slice a3 N.kids.length c3]) ∧ Hid (Below w.heap.size w wr)) (fun _ iv _ => N.kids.length - (intOf iv).toNat)
                  case atStart => exact ⟨0, V, rfl, rfl, by omega, by omega, by simp [Hid, rK], HT6, HA6, HB6⟩
                  case round =>
                    clear HA6 HB6 HT6
                    obtain ⟨i, F, rfl, rfl, hi, hF, HFi, HT6, HA6, HB6⟩ := hrel
                    have y3 : wr.cell? ⟨w.heap.size, 3, none⟩ = some (.slice a3 N.kids.length c3) := HA6.out.cell 3
                    have n2 := HA6.out.lt
                    by_cases hlt : i < N.kids.length
                    · have hlt' : (i : Int) < N.kids.length := by omega
                      obtain ⟨b3, o3, rfl, hb3, d3⟩ := (HN.out.k.belowB HB6.out).at (iV_at N.kids i hlt)
                      have hz := HKr.out i hlt
                      have HFn : Hid (F.data.toList ++ put (p - N.kids.getD i 0).toNat = V.data.toList ++ rK p (N.kids.take (i + 1))) := by
                        show _ = _
                        unfold rK at HFi ⊢
                        rw [flat_take _ N.kids 0 i hlt, HFi.out, List.append_assoc]
                      clear HFi
                      generalize N.kids.getD i 0 = z at *
                      have HP1 := fun W => refput_any (p - z) W (by omega) (by omega)
                      obtain ⟨Y, hY⟩ : ∃ Y : ByteArray, Y = ⟨(put (p - z).toNat).toArray⟩ := ⟨_, rfl⟩
                      rw [← hY] at HP1
                      have dY : Y.data.toList = put (p - z).toNat := by rw [hY]
                      have zY : Y.size ≤ 10 := by
                        have h1 : Y.size = Y.data.toList.length := by rw [Array.length_toList]; rfl
                        rw [h1, dY]
                        exact (put_length _).2
                      rw [← dY] at HFn
                      have HP2 : Hid _ := HP1
                      have A1 := fun (W : World) => run_string_add_sum (P := Tryd.prog) W F Y (by omega)
                      have hsz : (F ++ Y).size ≤ 2020 + 10 * (i + 1) := by rw [ByteArray.size_append]; omega
                      have HFn2 : Hid ((F ++ Y).data.toList = V.data.toList ++ rK p (N.kids.take (i + 1))) := by
                        show _ = _
                        rw [ByteArray.data_append, Array.toList_append]
                        exact HFn.out
                      have hz1 := hz.1
                      have hz2 := hz.2
                      clear HFn HP1 hY dY hz
                      go_wp2_with fail
                      refine Calls.mono (Hid.out HP2 _) ?_
                      rintro e w7 ⟨rfl, hb7⟩
                      have HB7 : Hid (Below w.heap.size w w7) := HB6.out.trans (hb7.mono HB6.out.size)
                      have HA7 : Hid (AtN 26 w7 w.heap.size #[.int .i64 N.kind, .slice a1 N.ints.length c1, .slice a2 N.texts.length c2, .slice (some ⟨b3, o3, none⟩) N.kids.length c3]) := AtN.belowAll HA6.out hb7
                      have HT7 : Hid (TxI w7 y cp bt ot M) := HT6.out.below hb7
                      clear HP2 hb7 HB6 HA6 HT6 y3 d3 n2
                      go_wp2_with fail
                      go_roundw
                      case rel => exact ⟨i + 1, F ++ Y, rfl, by go_num, by omega, hsz, HFn2, HT7, HA7, HB7⟩
                      case measure => simp [intOf]; omega
                    · have hlt' : ¬ (i : Int) < N.kids.length := by omega
                      have HFe : Hid (F.data.toList = V.data.toList ++ rK p N.kids) := by
                        have := HFi.out
                        rw [List.take_of_length_le (by omega)] at this
                        exact this
                      have HP : Hid (PutIs N p L F M 0) := (HE.out _ _ _).2 ⟨HR0.out.symm, fun q => absurd rfl q, fun _ => ⟨by rw [HFe.out, HVV.out, HXe.out, HX0.out]; simp [rB], HMe.out⟩⟩
                      clear HFi HFe HVV HXe HX0 HMe HR0 HE HKr
                      go_wp2_with fail
                      go_ret3
                      exact ⟨_, _, _, _, _, M, _, rfl, HT6.out, HP.out, HB6.out⟩
    · have HP : Hid (PutIs N p L ⟨#[]⟩ L ty) := (HE.out _ _ _).2 ⟨by rw [HRE.out, if_neg ht], fun _ => ⟨rfl, rfl⟩, fun q => absurd q ht⟩
      clear HE HRE
      go_wp2_with fail
      go_ret3
      exact ⟨_, _, _, _, _, L, _, rfl, HX.out.below HB2.out, HP.out, HB2.out⟩

end Go.Proofs.YtknfecclijoefaaDoor
