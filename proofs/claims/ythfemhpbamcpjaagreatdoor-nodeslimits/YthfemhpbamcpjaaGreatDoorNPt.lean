/- The contract of the document's own Put of a scene. -/
import Derived.Test.YthfemhpbamcpjaaGreatDoorRA
import Derived.Test.YthfemhpbamcpjaaGreatDoorRB
import Derived.Test.YthfemhpbamcpjaaGreatDoorTC
import Derived.Test.YthfemhpbamcpjaaGreatDoorLTyp
import Derived.Test.YthfemhpbamcpjaaGreatDoorGH
import Derived.Test.YthfemhpbamcpjaaGreatDoorCIs
namespace Go.Proofs.YthfemhpbamcpjaaGreatDoor
open Go.RowKit
def PuIs (X : List Nx) (r : Int) (A C : ByteArray) (e : Int) : Prop :=
  (tyE X ≠ 0 ∧ e = tyE X ∧ A = ⟨#[]⟩ ∧ C = ⟨#[]⟩) ∨
    (tyE X = 0 ∧ ∃ n y, CheckIs X r n y ∧ ((n ≠ 0 ∧ e = n ∧ A = ⟨#[]⟩ ∧ C = ⟨#[]⟩) ∨ (n = 0 ∧ ((¬ IsCan X r ∧ e = 16 ∧ A = ⟨#[]⟩ ∧ C = ⟨#[]⟩) ∨
      (IsCan X r ∧ e = 0 ∧ A.data.toList = pPut6 (rTab (X.map Nx.nd) []) ∧ C.data.toList = put X.length ++ rAllN 0 (X.map Nx.nd) [])))))
def PuOut (X : List Nx) (r : Int) (w w' : World) (e : Ending) : Prop := ∃ (A C : ByteArray) (k : Int), e = .returned (.tuple #[.string A, .string C, .int .i64 k]) ∧ PuIs X r A C k ∧ Below w.heap.size w w'
theorem rB_size (N : Nd) (p : Int) (L : List ByteArray) (hb : big N = false) : (rB N p L).length ≤ 12020 := by
  obtain ⟨h0, h6, h7, _⟩ := big_no hb
  have h1 := put_length N.kind.toNat
  have h2 := put_length N.kids.length
  have h3 : (rI N.ints).length ≤ 10 * N.ints.length := flat_ten _ _
  have h4 : (rT (itF L N.texts) N.texts).length ≤ 10 * N.texts.length := flat_ten _ _
  have h5 : (rK p N.kids).length ≤ 10 * N.kids.length := flat_ten _ _
  unfold rB
  simp only [List.length_append]
  omega
theorem itF_sumB (T : List ByteArray) : ∀ L : List ByteArray, (∀ s ∈ T, s.size ≤ 1000) → sum6 (itF L T) ≤ sum6 L + 1000 * T.length := by
  induction T with
  | nil => intro L _; simp [itF]
  | cons x r ih =>
    intro L h
    have h1 := ih (pIntern L x) (fun s hs => h s (by simp [hs]))
    have h2 : sum6 (pIntern L x) ≤ sum6 L + x.size := by
      unfold pIntern
      split
      · omega
      · rw [sum6_append]; simp [sum6]
    have h3 := h x (by simp)
    have h4 : itF L (x :: r) = itF (pIntern L x) r := rfl
    rw [h4, List.length_cons]
    omega
theorem tyE_all {X : List Nx} (h : tyE X = 0) : ∀ i, i < X.length → tyN (X.getD i noNx).nd = 0 := by
  have key : ∀ (X : List Nx) (k : Nat), (tyG X k).1 = 0 → ∀ i, i < X.length → tyN (X.getD i noNx).nd = 0 := by
    intro X
    induction X with
    | nil => intro k _ i hi; simp at hi
    | cons x r ih =>
      intro k hk i hi
      unfold tyG at hk
      by_cases hx : tyN x.nd = 0
      · rw [if_pos hx] at hk
        match i with
        | 0 => simpa using hx
        | i + 1 => simpa using ih (k + 1) hk i (by simpa using hi)
      · rw [if_neg hx] at hk
        exact absurd hk hx
  exact key X 0 h
theorem tyN_texts {N : Nd} (h : tyN N = 0) : N.texts.length ≤ 2 := by
  have h1 : rE N 0 = 0 ∨ rE N 0 = 13 := by
    unfold rE
    rw [if_pos h]
    split
    · exact .inl rfl
    · exact .inr rfl
  unfold tyN at h
  split at h
  · cases h
  · unfold chkN at h
    split at h
    · cases h
    · split at h
      · cases h
      · rename_i h2 h3
        have h4 : fitT N.texts (newSp N.kind).texts = true := by simpa using h3
        unfold fitT at h4
        rw [Bool.and_eq_true, decide_eq_true_eq] at h4
        have := newSp_small N.kind
        omega
theorem getD_in {L : List Int} {j : Nat} (h : j < L.length) : L.getD j 0 ∈ L := by
  rw [List.getD_eq_getElem?_getD, List.getElem?_eq_getElem h]
  exact List.getElem_mem h
theorem can_kids {X : List Nx} {r : Int} (h : IsCan X r) {i : Nat} (hi : i < X.length) (j : Nat) (hj : j < (X.getD i noNx).nd.kids.length) : 0 ≤ (X.getD i noNx).nd.kids.getD j 0 ∧ (X.getD i noNx).nd.kids.getD j 0 < i := by
  have h1 := h.1.2.1 i hi j hj
  unfold isPb at h1
  have h2 := of_decide_eq_true h1
  have hm : (X.getD i noNx).nd.kids.getD j 0 ∈ (X.getD i noNx).nd.kids := getD_in hj
  have hE : Ed (kX X) i ((X.getD i noNx).nd.kids.getD j 0).toNat := by
    unfold Ed
    rw [kX_at X i hi]
    exact List.mem_map_of_mem hm
  have h3 := h.1.ord.good.kids i (oX_all h.1 i hi) _ hE
  have h4 : ((X.getD i noNx).nd.kids.getD j 0).toNat < X.length := by omega
  have h5 := h3.2
  have e1 : (ordO (kX X) r.toNat).idxOf i = i := h.2 i hi
  have e2 : (ordO (kX X) r.toNat).idxOf ((X.getD i noNx).nd.kids.getD j 0).toNat = ((X.getD i noNx).nd.kids.getD j 0).toNat := h.2 _ h4
  unfold oX at h5
  rw [e1, e2] at h5
  omega
theorem can_rE {X : List Nx} {r : Int} (h : IsCan X r) (ht : tyE X = 0) {i : Nat} (hi : i < X.length) : rE (X.getD i noNx).nd i = 0 := by
  unfold rE
  rw [if_pos (tyE_all ht i hi), if_pos (rOk_yes (fun j hj => can_kids h hi j hj))]
set_option maxRecDepth 10000 in
set_option maxHeartbeats 2000000 in
theorem rnput_any (X : List Nx) (a : Option Addr) (c : Nat) (r : Int) (w : World) (h : ScAt w a X) (hX : Small X) (hF : FnX X) :
    Calls Tryz.prog 11 #[.agg #[.slice a X.length c, .int .i64 r]] w fun e w' => PuOut X r w w' e := by
  have HS : Hid (ScAt w a X ∧ Small X) := ⟨h, hX⟩
  have HFn : Hid (FnX X) := hF
  have hn := hX.1
  have HA0 : Hid (AtN 24 (w.alloc (.cells #[.slice a X.length c, .int .i64 r] 24)) w.heap.size #[.slice a X.length c, .int .i64 r]) := AtN.new w 24 _
  have HB0 : Hid (Below w.heap.size w (w.alloc (.cells #[.slice a X.length c, .int .i64 r] 24))) := (Below.refl _ _).alloc (Nat.le_refl _) _
  have HTy : Hid (∀ W, Below w.heap.size w W → Calls Tryz.prog 29 #[.agg #[.slice a X.length c, .int .i64 r], .int .i64 2] W fun e w' => e = .returned (.tuple #[.int .i64 (tyE X), .int .i64 (tyZ X)]) ∧ Below W.heap.size W w') := fun W hW => rtyped_any X a c r W (h.belowB hW) hX hF
  have HCk : Hid (∀ W, Below w.heap.size w W → Calls Tryz.prog 30 #[.agg #[.slice a X.length c, .int .i64 r]] W fun e w' => CheckOut X r W w' e) := fun W hW => rcheck_any X a c r W (h.belowB hW) hX
  have HIs : Hid (∀ W, Below w.heap.size w W → Calls Tryz.prog 31 #[.agg #[.slice a X.length c, .int .i64 r]] W fun e w' => IsOut X r W w' e) := fun W hW => ris_any X a c r W (h.belowB hW) hX
  have HV : Hid (∀ A C e, PuIs X r A C e ↔ ((tyE X ≠ 0 ∧ e = tyE X ∧ A = ⟨#[]⟩ ∧ C = ⟨#[]⟩) ∨ (tyE X = 0 ∧ ∃ n y, CheckIs X r n y ∧ ((n ≠ 0 ∧ e = n ∧ A = ⟨#[]⟩ ∧ C = ⟨#[]⟩) ∨ (n = 0 ∧ ((¬ IsCan X r ∧ e = 16 ∧ A = ⟨#[]⟩ ∧ C = ⟨#[]⟩) ∨
      (IsCan X r ∧ e = 0 ∧ A.data.toList = pPut6 (rTab (X.map Nx.nd) []) ∧ C.data.toList = put X.length ++ rAllN 0 (X.map Nx.nd) []))))))) := fun _ _ _ => Iff.rfl
  have HTe : Hid (tyE X = 0 → ∀ i, i < X.length → (X.getD i noNx).nd.texts.length ≤ 2) := fun q i hi => tyN_texts (tyE_all q i hi)
  have HRe : Hid (IsCan X r → tyE X = 0 → ∀ i, i < X.length → rE (X.getD i noNx).nd i = 0) := fun q1 q2 i hi => can_rE q1 q2 hi
  obtain ⟨te, hte⟩ : ∃ te, tyE X = te := ⟨_, rfl⟩
  rw [hte] at HTy HV HTe HRe
  generalize tyZ X = tz at *
  clear h hX hF hte
  go_enter Tryz.func11, Tryz.ntmps11
  go_wp2_with fail
  refine Calls.mono (HTy.out _ HB0.out) ?_
  rintro e w1 ⟨rfl, hb1⟩
  have HA1 : Hid (AtN 24 w1 w.heap.size #[.slice a X.length c, .int .i64 r]) := AtN.belowAll HA0.out hb1
  have HB1 : Hid (Below w.heap.size w w1) := HB0.out.trans (hb1.mono HB0.out.size)
  clear HA0 HB0 HTy hb1
  by_cases ht : te = 0
  · have HV0 : Hid (∀ A C e, (∃ n y, CheckIs X r n y ∧ ((n ≠ 0 ∧ e = n ∧ A = ⟨#[]⟩ ∧ C = ⟨#[]⟩) ∨ (n = 0 ∧ ((¬ IsCan X r ∧ e = 16 ∧ A = ⟨#[]⟩ ∧ C = ⟨#[]⟩) ∨
      (IsCan X r ∧ e = 0 ∧ A.data.toList = pPut6 (rTab (X.map Nx.nd) []) ∧ C.data.toList = put X.length ++ rAllN 0 (X.map Nx.nd) []))))) → PuIs X r A C e) := fun A C e q => (HV.out A C e).2 (.inr ⟨ht, q⟩)
    have HT2 : Hid (∀ i, i < X.length → (X.getD i noNx).nd.texts.length ≤ 2) := HTe.out ht
    have HR2 : Hid (IsCan X r → ∀ i, i < X.length → rE (X.getD i noNx).nd i = 0) := fun q => HRe.out q ht
    clear HV HTe HRe
    subst ht
    have x0 : w1.cell? ⟨w.heap.size, 0, none⟩ = some (.slice a X.length c) := HA1.out.cell 0
    have x1 : w1.cell? ⟨w.heap.size, 1, none⟩ = some (.int .i64 r) := HA1.out.cell 1
    go_wp2_with fail
    refine Calls.mono (HCk.out _ HB1.out) ?_
    rintro e w2 ⟨n, z, rfl, hck, hb2⟩
    have HA2 : Hid (AtN 24 w2 w.heap.size #[.slice a X.length c, .int .i64 r]) := AtN.belowAll HA1.out hb2
    have HB2 : Hid (Below w.heap.size w w2) := HB1.out.trans (hb2.mono HB1.out.size)
    have HCi : Hid (CheckIs X r n z) := hck
    clear HA1 HB1 HCk hb2 hck x0 x1
    by_cases hn0 : n = 0
    · subst hn0
      have x0 : w2.cell? ⟨w.heap.size, 0, none⟩ = some (.slice a X.length c) := HA2.out.cell 0
      have x1 : w2.cell? ⟨w.heap.size, 1, none⟩ = some (.int .i64 r) := HA2.out.cell 1
      go_wp2_with fail
      refine Calls.mono (HIs.out _ HB2.out) ?_
      rintro e w3 ⟨bc, rfl, hbc, hb3⟩
      have HA3 : Hid (AtN 24 w3 w.heap.size #[.slice a X.length c, .int .i64 r]) := AtN.belowAll HA2.out hb3
      have HB3 : Hid (Below w.heap.size w w3) := HB2.out.trans (hb3.mono HB2.out.size)
      clear HA2 HB2 HIs hb3 x0 x1
      cases bc with
      | false =>
        have HP : Hid (PuIs X r ⟨#[]⟩ ⟨#[]⟩ 16) := HV0.out _ _ _ ⟨0, z, HCi.out, .inr ⟨rfl, .inl ⟨fun q => by simpa using hbc.2 q, rfl, rfl, rfl⟩⟩⟩
        clear HV0 HCi hbc HT2 HR2
        go_wp2_with fail
        go_ret3
        exact ⟨_, _, _, rfl, HP.out, HB3.out⟩
      | true =>
        have HCan : Hid (IsCan X r) := hbc.1 rfl
        have HR0 : Hid (∀ i, i < X.length → rE (X.getD i noNx).nd i = 0) := HR2.out HCan.out
        have P0 := refput_any (X.length : Int) (w3.alloc (.cells #[] 9)) (by omega) (by omega)
        rw [Int.toNat_natCast] at P0
        obtain ⟨T0, hT0⟩ : ∃ T0 : ByteArray, T0 = ⟨(put X.length).toArray⟩ := ⟨_, rfl⟩
        rw [← hT0] at P0
        have dT0 : T0.data.toList = put X.length := by rw [hT0]
        have zT0 : T0.size ≤ 10 := by
          have h1 : T0.size = T0.data.toList.length := by rw [Array.length_toList]; rfl
          rw [h1, dT0]
          exact (put_length _).2
        have HP0 : Hid _ := P0
        have x0 : w3.cell? ⟨w.heap.size, 0, none⟩ = some (.slice a X.length c) := HA3.out.cell 0
        have hlt3 : w.heap.size < w3.heap.size := HA3.out.lt
        clear hbc HR2 P0 hT0
        go_wp2_with fail
        refine Calls.mono HP0.out ?_
        rintro e w4 ⟨rfl, hb4⟩
        have hbl : Below w3.heap.size w3 (w3.alloc (.cells #[] 9)) := (Below.refl _ _).alloc (Nat.le_refl _) _
        have HA4 : Hid (AtN 24 w4 w.heap.size #[.slice a X.length c, .int .i64 r]) := AtN.belowAll (AtN.belowAll HA3.out hbl) hb4
        have HB4 : Hid (Below w.heap.size w w4) := (HB3.out.trans (hbl.mono HB3.out.size)).trans (hb4.mono (by have := HB3.out.size; simp; omega))
        have HX4 : Hid (TxI w4 (some ⟨w3.heap.size, 0, none⟩) 0 w3.heap.size 0 []) := ⟨fun q => by simp at q, fun i hi => by simp at hi, Nat.le_refl _, fun q => by cases q⟩
        have HD0 : Hid (T0.data.toList = put X.length) := dT0
        clear HP0 hb4 hbl HA3 HB3 x0 dT0
        go_wp2_with fail
        go_loopw [9, 10, 11] (fun lv ov iv wr => ∃ (i : Nat) (T : ByteArray) (M : List ByteArray) (y : Option Addr) (cp b o : Nat), iv = .int .i64 i ∧ ov = .string T ∧ .slice y M.length cp = lv ∧ i ≤ X.length ∧ T.size ≤ 10 + 12020 * i ∧ M.length ≤ 2 * i ∧ sum6 M ≤ 2000 * i ∧ Hid (T.data.toList = put X.length ++ rAllN 0 ((X.take i).map Nx.nd) []) ∧ Hid (M = rTab ((X.take i).map Nx.nd) []) ∧ Hid (TxI wr y cp b o M) ∧ Hid (AtN 24 wr w.heap.size #[.slice a X.length c, .int .i64 r]) ∧ Hid (Below w.heap.size w wr)) (fun _ _ iv _ => X.length - (intOf iv).toNat)
        case atStart => exact ⟨0, T0, [], _, 0, _, _, rfl, rfl, rfl, by omega, by omega, by simp, by simp [sum6], by show _ = _; rw [HD0.out]; simp [rAllN], rfl, HX4, HA4, HB4⟩
        case round =>
          clear HA4 HB4 HX4
          obtain ⟨i, T, M, y, cp, bt, ot, rfl, rfl, rfl, hi, hTz, hMl, hMs, HT, HM, HXt, HA, HB⟩ := hrel
          have x0 : wr.cell? ⟨w.heap.size, 0, none⟩ = some (.slice a X.length c) := HA.out.cell 0
          by_cases hlt : i < X.length
          · have hlt' : (i : Int) < X.length := by omega
            obtain ⟨bb, ob, rfl, hbb, z0, z1, z2, z3⟩ := (HS.out.1.belowB HB.out).node hlt
            have hE := (HS.out.1.belowB HB.out).each i hlt
            have hbig := HS.out.2.2 i hlt
            have hfi := HFn.out i hlt
            have hr0 := HR0.out i hlt
            have ht2 := HT2.out i hlt
            have htk : (X.take (i + 1)).map Nx.nd = (X.take i).map Nx.nd ++ [(X.getD i noNx).nd] := by
              rw [List.take_add_one, List.getElem?_eq_getElem hlt, List.map_append]
              simp [hlt]
            have hlen : ((X.take i).map Nx.nd).length = i := by simp; omega
            have HPn := rrput_any (X.getD i noNx).nd (X.getD i noNx).a1 (X.getD i noNx).a2 (X.getD i noNx).a3 (X.getD i noNx).c1 (X.getD i noNx).c2 (X.getD i noNx).c3 (i : Int) y cp bt ot M wr hE hbig hfi (by omega) HXt.out (by omega)
            generalize X.getD i noNx = x at *
            have HPc : Hid _ := HPn
            clear HPn hE
            go_wp2_with fail
            refine Calls.mono HPc.out ?_
            rintro e w5 ⟨Sx, y5, cp5, b5, o5, M5, k5, rfl, hx5, hP5, hb5⟩
            obtain ⟨hk5, -, hz5⟩ := hP5
            obtain ⟨hS5, hM5⟩ := hz5 (hk5.trans hr0)
            have hSz : Sx.size ≤ 12020 := by
              have h1 := rB_size x.nd (i : Int) M hbig
              rw [← hS5] at h1
              have h2 : Sx.size = Sx.data.toList.length := by rw [Array.length_toList]; rfl
              omega
            have A1 := fun (W : World) => run_string_add_sum (P := Tryz.prog) W T Sx (by omega)
            have HT5 : Hid ((T ++ Sx).data.toList = put X.length ++ rAllN 0 ((X.take (i + 1)).map Nx.nd) []) := by
              show _ = _
              rw [ByteArray.data_append, Array.toList_append, HT.out, hS5, htk, rAllN_snoc, hlen, ← HM.out, List.append_assoc, Nat.zero_add]
            have HM5 : Hid (M5 = rTab ((X.take (i + 1)).map Nx.nd) []) := by
              show _ = _
              rw [htk, rTab_snoc, ← HM.out, hM5]
            have hMl5 : M5.length ≤ 2 * (i + 1) := by have := itF_len x.nd.texts M; rw [← hM5] at this; omega
            have hMs5 : sum6 M5 ≤ 2000 * (i + 1) := by
              have := itF_sumB x.nd.texts M (big_no hbig).2.2.2
              rw [← hM5] at this
              omega
            have hTz5 : (T ++ Sx).size ≤ 10 + 12020 * (i + 1) := by rw [ByteArray.size_append]; omega
            have HX5 : Hid _ := hx5
            have HA5 : Hid (AtN 24 w5 w.heap.size #[.slice (some ⟨bb, ob, none⟩) X.length c, .int .i64 r]) := AtN.belowAll HA.out hb5
            have HB5 : Hid (Below w.heap.size w w5) := HB.out.trans (hb5.mono HB.out.size)
            clear HPc HT HM HXt HA HB hx5 hb5 hk5 hz5 hS5 hM5 hr0 ht2 htk hlen x0 z0 z1 z2 z3 hbb hfi hbig
            go_wp2_with fail
            go_roundw
            case rel => exact ⟨i + 1, T ++ Sx, M5, y5, cp5, b5, o5, by go_num, rfl, rfl, by omega, hTz5, hMl5, hMs5, HT5, HM5, HX5, HA5, HB5⟩
            case measure => simp [intOf]; omega
          · have hlt' : ¬ (i : Int) < X.length := by omega
            have hall : (X.take i).map Nx.nd = X.map Nx.nd := by rw [List.take_of_length_le (by omega)]
            have hT := HT.out
            have hM := HM.out
            rw [hall] at hT hM
            have HP : Hid (PuIs X r ⟨(pPut6 M).toArray⟩ T 0) := HV0.out _ _ _ ⟨0, z, HCi.out, .inr ⟨rfl, .inr ⟨HCan.out, rfl, by rw [← hM], hT⟩⟩⟩
            have HPt : Hid _ := rput6_any y cp bt ot M wr HXt.out.ptr HXt.out.at_ (by omega) (by omega)
            clear HV0 HT HM HXt hall hT hM HCi HCan HR0 HT2
            generalize (⟨(pPut6 M).toArray⟩ : ByteArray) = A at *
            go_wp2_with fail
            refine Calls.mono HPt.out ?_
            rintro e w5 ⟨rfl, hb5⟩
            have HB5 : Hid (Below w.heap.size w w5) := HB.out.trans (hb5.mono HB.out.size)
            clear HPt HB HA hb5
            go_wp2_with fail
            go_ret3
            exact ⟨_, _, _, rfl, HP.out, HB5.out⟩
    · have hn0' : (n != 0) = true := by simpa using hn0
      have HP : Hid (PuIs X r ⟨#[]⟩ ⟨#[]⟩ n) := HV0.out _ _ _ ⟨n, z, HCi.out, .inl ⟨hn0, rfl, rfl, rfl⟩⟩
      clear HV0 HCi HT2 HR2
      go_wp2_with fail
      go_ret3
      exact ⟨_, _, _, rfl, HP.out, HB2.out⟩
  · have ht' : (te != 0) = true := by simpa using ht
    have HP : Hid (PuIs X r ⟨#[]⟩ ⟨#[]⟩ te) := (HV.out _ _ _).2 (.inl ⟨ht, rfl, rfl, rfl⟩)
    clear HV HTe HRe
    go_wp2_with fail
    go_ret3
    exact ⟨_, _, _, rfl, HP.out, HB1.out⟩
end Go.Proofs.YthfemhpbamcpjaaGreatDoor
