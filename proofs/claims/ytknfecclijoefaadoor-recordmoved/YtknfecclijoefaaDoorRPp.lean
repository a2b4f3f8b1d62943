/- The contract of the program's own Put of a record. -/
import Derived.Test.YtknfecclijoefaaDoorRCh
import Derived.Test.YtknfecclijoefaaDoorRPk
import Derived.Test.YtknfecclijoefaaDoorVA
namespace Go.Proofs.YtknfecclijoefaaDoor
open Go.RowKit

def PPut (N : Nd) (p : Int) (L : List ByteArray) (B g gm : Nat) (v : Value) (w w' : World) (e : Ending) : Prop :=
  ∃ (S : ByteArray) (M : List ByteArray) (k : Int), e = .returned (.tuple #[.string S, .int .i64 k]) ∧ PutIs N p L S M k ∧ TIn w w' B g gm v M

theorem pIntern_sum (L : List ByteArray) (s : ByteArray) : sum6 (pIntern L s) ≤ sum6 L + s.size := by
  unfold pIntern
  split
  · omega
  · rw [sum6_append]; simp [sum6]

theorem pE_zero {N : Nd} {p : Int} (h : rE N p = 0) : (1 ≤ N.kind ∧ N.kind < 9) ∧ ∀ i, i < N.kids.length → 0 ≤ N.kids.getD i 0 ∧ N.kids.getD i 0 < p := by
  unfold rE at h
  by_cases h1 : tyN N = 0
  · rw [if_pos h1] at h
    by_cases h2 : rOk N p = true
    · refine ⟨?_, fun i hi => ?_⟩
      · by_cases hk : N.kind < 1 ∨ 9 ≤ N.kind
        · unfold tyN at h1
          rw [newSp_no N.kind hk, if_pos (show noSp.ok = false from rfl)] at h1
          exact absurd h1 (by decide)
        · omega
      · unfold rOk at h2
        rw [List.all_eq_true] at h2
        exact of_decide_eq_true (h2 i (by simpa using hi))
    · rw [if_neg h2] at h
      exact absurd h (by decide)
  · rw [if_neg h1] at h
    exact absurd h h1
theorem Bu.lower {B C g : Nat} {l : List UInt8} {w : World} (h : Bu B g l w) (hc : C ≤ B) : Bu C g l w := by
  have own : ∀ {v : Value} {n : Nat} {xs : List Value}, w.ownsRow B 5 1 v n xs → w.ownsRow C 5 1 v n xs := fun q => by
    refine ⟨q.1, ?_⟩
    rcases q.2 with hv | ⟨gx, cap, cur, hv, hx, r⟩
    · exact .inl hv
    · exact .inr ⟨gx, cap, cur, hv, Nat.le_trans hc hx, r⟩
  rcases h with ⟨q1, q2, q3, q4, q5⟩ | ⟨q1, q2, q3, q4, q5⟩
  · exact .inl ⟨Nat.le_trans hc q1, q2, q3, own q4, q5⟩
  · exact .inr ⟨Nat.le_trans hc q1, q2, q3, own q4, q5⟩

set_option maxRecDepth 10000 in
set_option maxHeartbeats 2000000 in
theorem pput_any (N : Nd) (a1 a2 a3 : Option Addr) (c1 c2 c3 : Nat) (p : Int) (w : World) {B g gm : Nat} {v : Value} {L : List ByteArray} (ht : Tb w B g gm v L) (hl : L.length ≤ 900000) (hm : sum6 L ≤ 900000000) (hT : Tabs12 w) (h : ∀ W, Fr (TbS g gm v) w W → NdAt W N a1 a2 a3) (hf : fine N.ints) (h1 : N.ints.length ≤ 100) (h2 : N.texts.length ≤ 100) (h3 : N.kids.length ≤ 1000) (h4 : ∀ s ∈ N.texts, s.size ≤ 500) (hp : p ≤ 9223372036854775807) :
    Calls Tryd.prog 12 #[.agg #[.int .i64 N.kind, .slice a1 N.ints.length c1, .slice a2 N.texts.length c2, .slice a3 N.kids.length c3], .int .i64 p, .pointer (some ⟨g, 0, none⟩)] w fun e w' => PPut N p L B g gm v w w' e := by
  have HN : Hid (∀ W, Fr (TbS g gm v) w W → NdAt W N a1 a2 a3) := h
  have HF : Hid (fine N.ints) := hf
  have HTx : Hid (∀ i, i < N.texts.length → (N.texts.getD i noT).size ≤ 500) := fun i hi => by
    rw [List.getD_eq_getElem?_getD, List.getElem?_eq_getElem hi]
    exact h4 _ (List.getElem_mem hi)
  have HB0 : Hid (Below w.heap.size w (w.alloc (.cells #[.int .i64 N.kind, .slice a1 N.ints.length c1, .slice a2 N.texts.length c2, .slice a3 N.kids.length c3] 26))) := (Below.refl w.heap.size w).alloc (Nat.le_refl _) _
  have HA0 : Hid (AtN 26 (w.alloc (.cells #[.int .i64 N.kind, .slice a1 N.ints.length c1, .slice a2 N.texts.length c2, .slice a3 N.kids.length c3] 26)) w.heap.size #[.int .i64 N.kind, .slice a1 N.ints.length c1, .slice a2 N.texts.length c2, .slice a3 N.kids.length c3]) := AtN.new w 26 _
  have HC : Hid (∀ W, Below w.heap.size w W → Calls Tryd.prog 28 #[.agg #[.int .i64 N.kind, .slice a1 N.ints.length c1, .slice a2 N.texts.length c2, .slice a3 N.kids.length c3], .int .i64 p] W fun e w' => e = .returned (.int .i64 (rE N p)) ∧ Below W.heap.size W w') :=
    fun W hb => pcheck_any N a1 a2 a3 c1 c2 c3 p W (hT.on hb) (h W (Fr.of_below hb)) hf h1 h2 (by omega) h4
  have HE : Hid (∀ (S : ByteArray) (M : List ByteArray) (k : Int), PutIs N p L S M k ↔ (k = rE N p ∧ (k ≠ 0 → S = ⟨#[]⟩ ∧ M = L) ∧ (k = 0 → S.data.toList = rB N p L ∧ M = itF L N.texts))) := fun _ _ _ => Iff.rfl
  have HK : Hid (rE N p = 0 → (1 ≤ N.kind ∧ N.kind < 9) ∧ ∀ i, i < N.kids.length → 0 ≤ N.kids.getD i 0 ∧ N.kids.getD i 0 < p) := pE_zero
  have HTb : Hid (Tb w B g gm v L) := ht
  have g1 : g < w.heap.size := ht.lt g (.inl rfl)
  have g2 : gm < w.heap.size := ht.lt gm (.inr (.inl rfl))
  clear h hf h4 hT ht
  generalize rE N p = ty at *
  go_enter Tryd.func12, Tryd.ntmps12
  have n0 := HA0.out.lt
  go_wp2_with fail
  refine Calls.mono (HC.out _ HB0.out) ?_
  rintro e w1 ⟨rfl, hb1⟩
  have HB1 : Hid (Below w.heap.size w w1) := HB0.out.trans (hb1.mono HB0.out.size)
  have HA1 : Hid (AtN 26 w1 w.heap.size #[.int .i64 N.kind, .slice a1 N.ints.length c1, .slice a2 N.texts.length c2, .slice a3 N.kids.length c3]) := HA0.out.belowAll hb1
  clear HC HA0 HB0 hb1 n0
  by_cases hty : ty = 0
  · subst hty
    obtain ⟨hk, HKr⟩ : (1 ≤ N.kind ∧ N.kind < 9) ∧ Hid (∀ i, i < N.kids.length → 0 ≤ N.kids.getD i 0 ∧ N.kids.getD i 0 < p) := HK.out rfl
    have s1 := HB1.out.size
    have s2 := HA1.out.lt
    have HP1 : Hid (Pk w (w1.alloc (.cells #[.pointer none, .slice none 0 0] 67)) B g gm v w1.heap.size #[.int .i64 N.kind, .slice a1 N.ints.length c1, .slice a2 N.texts.length c2, .slice a3 N.kids.length c3] v L []) :=
      ⟨HTb.out.below (HB1.out.alloc s1 _), (Bu.new w1).lower s1, HA1.out.alloc _, Fr.of_below (HB1.out.alloc s1 _), fun k hk => .inl hk, g1, g2, s2⟩
    have y0 : (w1.alloc (.cells #[.pointer none, .slice none 0 0] 67)).cell? ⟨w.heap.size, 0, none⟩ = some (.int .i64 N.kind) := HP1.out.nd.cell 0
    have HU0 : Hid (Bu w.heap.size w1.heap.size [] (w1.alloc (.cells #[.pointer none, .slice none 0 0] 67))) := HP1.out.bu
    have s3 : w.heap.size ≤ (w1.alloc (.cells #[.pointer none, .slice none 0 0] 67)).heap.size := HP1.out.size
    have hmf : ∀ (fn : Fn) (first cap : Array Value) (w : World), (Instr.makeFunc fn first cap).run Tryd.prog w = .ok (.func fn first cap) w := fun _ _ _ _ => rfl
    clear HK HA1
    go_wp2_with (go_at_call 29; refine (put1_any w.heap.size w1.heap.size [] N.kind _ HU0.out (by omega) (by omega) (by simp) s3).mono ?_; rintro e w2 ⟨rfl, hu2, hb2, hk2⟩; have HP2 : Hid (Pk w w2 B g gm v w1.heap.size #[.int .i64 N.kind, .slice a1 N.ints.length c1, .slice a2 N.texts.length c2, .slice a3 N.kids.length c3] v L (put N.kind.toNat)) := HP1.out.wrote hb2 hk2 hu2; have y1 : w2.cell? ⟨w.heap.size, 1, none⟩ = some (.slice a1 N.ints.length c1) := HP2.out.nd.cell 1)
    have hp0 : (put N.kind.toNat).length ≤ 10 := (put_length _).2
    clear HP1 y0 HU0 s3 hu2 hb2 hk2 hmf HB1 HTb
    generalize hL0 : put N.kind.toNat = l0 at *
    have HL0 : Hid (put N.kind.toNat = l0) := hL0
    clear hL0
    generalize w1.heap.size = gb at *
    go_loopw [32] (fun iv wr => ∃ (i : Nat) (l : List UInt8), iv = .int .i64 i ∧ i ≤ N.ints.length ∧ l.length ≤ 10 + 10 * i ∧ Hid (l = l0 ++ rI (N.ints.take i)) ∧ Hid (Pk w wr B g gm v gb #[.int .i64 N.kind, .slice a1 N.ints.length c1, .slice a2 N.texts.length c2, .slice a3 N.kids.length c3] v L l)) (fun iv _ => N.ints.length - (intOf iv).toNat)
    case atStart => exact ⟨0, l0, rfl, by omega, by omega, by simp [Hid, rI], HP2⟩
    case round =>
      clear HP2 y1
      obtain ⟨i, l, rfl, hi, hl1, HL, HP⟩ := hrel
      have sr := HP.out.size
      by_cases hlt : i < N.ints.length
      · have hlt' : (i : Int) < N.ints.length := by omega
        obtain ⟨b3, o3, rfl, hb3, d3⟩ := (HN.out wr HP.out.fr).i.at (iV_at N.ints i hlt)
        have hz := HF.out i hlt
        have HLn : Hid (l ++ put (zig (N.ints.getD i 0)).toNat = l0 ++ rI (N.ints.take (i + 1))) := by
          show _ = _
          unfold rI at HL ⊢
          rw [flat_take _ N.ints 0 i hlt, HL.out, List.append_assoc]
        clear HL
        generalize N.ints.getD i 0 = z at *
        have HZ : Hid _ := fun W => zig_any z W hz.1 hz.2
        have hzz := zig_range z hz.1 hz.2
        have hput := (put_length (zig z).toNat).2
        have hlen : (l ++ put (zig z).toNat).length ≤ 10 + 10 * (i + 1) := by rw [List.length_append]; omega
        generalize zig z = zz at *
        have HU : Hid (Bu w.heap.size gb l wr) := HP.out.bu
        clear hz
        go_wp2_with fail
        refine Calls.mono (HZ.out _) ?_
        rintro e w4 ⟨rfl, rfl⟩
        clear HZ
        go_wp2_with (go_at_call 29; refine (put1_any w.heap.size gb l zz _ HU.out (by omega) (by omega) (by omega) sr).mono ?_; rintro e w5 ⟨rfl, hu2, hb2, hk2⟩; have HP5 : Hid _ := HP.out.wrote hb2 hk2 hu2)
        go_roundw
        case rel => exact ⟨i + 1, l ++ put zz.toNat, by go_num, by omega, hlen, HLn, HP5⟩
        case measure => simp [intOf]; omega
      · have hlt' : ¬ (i : Int) < N.ints.length := by omega
        have HLe : Hid (l = l0 ++ rI N.ints) := by
          have := HL.out
          rw [List.take_of_length_le (by omega)] at this
          exact this
        clear HL
        have z1 : l.length ≤ 1010 := by omega
        have y2 : wr.cell? ⟨w.heap.size, 2, none⟩ = some (.slice a2 N.texts.length c2) := HP.out.nd.cell 2
        have n2 := HP.out.nd.lt
        clear hl1
        generalize hl0 : l = l1 at *
        go_wp2_with fail
        go_loopw [44] (fun iv wr => ∃ (i : Nat) (l : List UInt8) (M : List ByteArray) (v' : Value), iv = .int .i64 i ∧ i ≤ N.texts.length ∧ l.length ≤ 1010 + 10 * i ∧ M.length ≤ 900000 + i ∧ sum6 M ≤ 900000000 + 500 * i ∧ Hid (M = itF L (N.texts.take i)) ∧ Hid (l = l1 ++ rT (itF L N.texts) (N.texts.take i)) ∧ Hid (Pk w wr B g gm v gb #[.int .i64 N.kind, .slice a1 N.ints.length c1, .slice a2 N.texts.length c2, .slice a3 N.kids.length c3] v' M l)) (fun iv _ => N.texts.length - (intOf iv).toNat)
        case atStart => exact ⟨0, l1, L, v, rfl, by omega, by omega, by omega, by omega, by simp [Hid, itF], by simp [Hid, rT], by subst hl0; exact HP⟩
        case round =>
          clear HP y2 n2 sr
          obtain ⟨i, l, M, v', rfl, hi, hl1, hM, hS, HMi, HL, HP⟩ := hrel
          have sr := HP.out.size
          by_cases hlt : i < N.texts.length
          · have hlt' : (i : Int) < N.texts.length := by omega
            obtain ⟨b3, o3, rfl, hb3, d3⟩ := (HN.out wr HP.out.fr).t.at (tV_at N.texts i hlt)
            have hsz := HTx.out i hlt
            have HI : Hid (Calls Tryd.prog 26 #[.pointer (some ⟨g, 0, none⟩), .string (N.texts.getD i noT)] wr fun e w' => e = .returned (.int .i64 (idx6 (N.texts.getD i noT) M : Nat)) ∧ TIn wr w' B g gm v' (pIntern M (N.texts.getD i noT))) :=
              tintern_any HP.out.tb (N.texts.getD i noT) (by omega) (by omega) (by omega)
            have HMn : Hid (pIntern M (N.texts.getD i noT) = itF L (N.texts.take (i + 1))) := by
              show _ = _
              rw [show N.texts.take (i + 1) = N.texts.take i ++ [N.texts.getD i noT] by rw [List.take_add_one, List.getElem?_eq_getElem hlt, List.getD_eq_getElem?_getD, List.getElem?_eq_getElem hlt]; rfl, itF_snoc, ← HMi.out]
            have hMn : (pIntern M (N.texts.getD i noT)).length ≤ 900000 + (i + 1) := by
              have := pIntern_le M (N.texts.getD i noT)
              omega
            have hSn : sum6 (pIntern M (N.texts.getD i noT)) ≤ 900000000 + 500 * (i + 1) := by
              have := pIntern_sum M (N.texts.getD i noT)
              omega
            have hix : idx6 (N.texts.getD i noT) M ≤ 2000000 := by
              have := idx6_le (N.texts.getD i noT) M
              omega
            have HLn : Hid (l ++ put (idx6 (N.texts.getD i noT) M) = l1 ++ rT (itF L N.texts) (N.texts.take (i + 1))) := by
              show _ = _
              unfold rT at HL ⊢
              rw [flat_take _ N.texts noT i hlt, HL.out, List.append_assoc, ← itF_num L N.texts i hlt, ← HMi.out]
            have hput := (put_length (idx6 (N.texts.getD i noT) M)).2
            have hlen : (l ++ put (idx6 (N.texts.getD i noT) M)).length ≤ 1010 + 10 * (i + 1) := by rw [List.length_append]; omega
            clear HL HMi
            generalize idx6 (N.texts.getD i noT) M = ix at *
            generalize pIntern M (N.texts.getD i noT) = M2 at *
            generalize N.texts.getD i noT = s at *
            go_wp2_with fail
            refine Calls.mono HI.out ?_
            rintro e w4 ⟨rfl, hT4⟩
            obtain ⟨v2, HP4⟩ : ∃ v2, Hid (Pk w w4 B g gm v gb #[.int .i64 N.kind, .slice a1 N.ints.length c1, .slice (some ⟨b3, o3, none⟩) N.texts.length c2, .slice a3 N.kids.length c3] v2 M2 l) := HP.out.interned hT4
            have sr4 := HP4.out.size
            have HU : Hid (Bu w.heap.size gb l w4) := HP4.out.bu
            clear HI hT4 HP d3 hb3
            go_wp2_with (go_at_call 29; refine (put1_any w.heap.size gb l (ix : Nat) _ HU.out (by omega) (by omega) (by omega) sr4).mono ?_; rintro e w5 ⟨rfl, hu2, hb2, hk2⟩; have HP5 : Hid _ := HP4.out.wrote hb2 hk2 hu2)
            go_roundw
            case rel => exact ⟨i + 1, l ++ put ix, M2, v2, by go_num, by omega, hlen, hMn, hSn, HMn, HLn, by simpa using HP5⟩
            case measure => simp [intOf]; omega
          · have hlt' : ¬ (i : Int) < N.texts.length := by omega
            have HLe2 : Hid (l = l1 ++ rT (itF L N.texts) N.texts) := by
              have := HL.out
              rw [List.take_of_length_le (show N.texts.length ≤ i by omega)] at this
              exact this
            have HMe : Hid (M = itF L N.texts) := by
              have := HMi.out
              rw [List.take_of_length_le (by omega)] at this
              exact this
            clear HL HMi
            have z2 : l.length ≤ 2010 := by omega
            have y3 : wr.cell? ⟨w.heap.size, 3, none⟩ = some (.slice a3 N.kids.length c3) := HP.out.nd.cell 3
            have n2 := HP.out.nd.lt
            have HU : Hid (Bu w.heap.size gb l wr) := HP.out.bu
            clear hl1
            go_wp2_with (go_at_call 29; refine (put1_any w.heap.size gb l (N.kids.length : Nat) _ HU.out (by omega) (by omega) (by omega) sr).mono ?_; rintro e w6 ⟨rfl, hu2, hb2, hk2⟩; have HP6 : Hid _ := HP.out.wrote hb2 hk2 hu2; have y6 : w6.cell? ⟨w.heap.size, 3, none⟩ = some (.slice a3 N.kids.length c3) := HP6.out.nd.cell 3; have n6 := HP6.out.nd.lt)
            rw [Int.toNat_natCast] at HP6
            have hput := (put_length N.kids.length).2
            have z3 : (l ++ put N.kids.length).length ≤ 2020 := by rw [List.length_append]; omega
            have HLe3 : Hid (l ++ put N.kids.length = l1 ++ rT (itF L N.texts) N.texts ++ put N.kids.length) := by show _ = _; rw [HLe2.out]
            clear HP y3 n2 HU hu2 hb2 hk2 HLe2
            generalize l ++ put N.kids.length = l2 at *
            go_loopw [64] (fun iv wr => ∃ (i : Nat) (l : List UInt8), iv = .int .i64 i ∧ i ≤ N.kids.length ∧ l.length ≤ 2020 + 10 * i ∧ Hid (l = l2 ++ rK p (N.kids.take i)) ∧ Hid (Pk w wr B g gm v gb #[.int .i64 N.kind, .slice a1 N.ints.length c1, .slice a2 N.texts.length c2, .slice a3 N.kids.length c3] v' M l)) (fun iv _ => N.kids.length - (intOf iv).toNat)
            case atStart => exact ⟨0, l2, rfl, by omega, by omega, by simp [Hid, rK], HP6⟩
            case round =>
              clear HP6 y6 n6 sr
              obtain ⟨i, l, rfl, hi, hl1, HL, HP⟩ := hrel
              have sr := HP.out.size
              by_cases hlt : i < N.kids.length
              · have hlt' : (i : Int) < N.kids.length := by omega
                obtain ⟨b3, o3, rfl, hb3, d3⟩ := (HN.out wr HP.out.fr).k.at (iV_at N.kids i hlt)
                have hz := HKr.out i hlt
                have HLn : Hid (l ++ put (p - N.kids.getD i 0).toNat = l2 ++ rK p (N.kids.take (i + 1))) := by
                  show _ = _
                  unfold rK at HL ⊢
                  rw [flat_take _ N.kids 0 i hlt, HL.out, List.append_assoc]
                clear HL
                generalize N.kids.getD i 0 = z at *
                have hput := (put_length (p - z).toNat).2
                have hlen : (l ++ put (p - z).toNat).length ≤ 2020 + 10 * (i + 1) := by rw [List.length_append]; omega
                have HU : Hid (Bu w.heap.size gb l wr) := HP.out.bu
                go_wp2_with (go_at_call 29; refine (put1_any w.heap.size gb l (p - z) _ HU.out (by omega) (by omega) (by omega) sr).mono ?_; rintro e w7 ⟨rfl, hu2, hb2, hk2⟩; have HP7 : Hid _ := HP.out.wrote hb2 hk2 hu2)
                go_roundw
                case rel => exact ⟨i + 1, l ++ put (p - z).toNat, by go_num, by omega, hlen, HLn, HP7⟩
                case measure => simp [intOf]; omega
              · have hlt' : ¬ (i : Int) < N.kids.length := by omega
                have HLf : Hid (l = l2 ++ rK p N.kids) := by
                  have := HL.out
                  rw [List.take_of_length_le (by omega)] at this
                  exact this
                have hl9 : l ≠ [] := by
                  intro q
                  have e1 := HLf.out
                  rw [HLe3.out] at e1
                  have := congrArg List.length e1
                  rw [q] at this
                  have h7 := (put_length N.kids.length).1
                  simp at this
                  omega
                clear HL
                go_wp2_with fail
                refine Calls.mono (bstr2_any w.heap.size gb l wr HP.out.bu hl9) ?_
                rintro e w8 ⟨rfl, hb8, hk8⟩
                have HD : Hid _ := HP.out.done hb8 hk8
                have HPI : Hid (PutIs N p L ⟨l.toArray⟩ M 0) := (HE.out _ _ _).2 ⟨rfl, fun q => absurd rfl q, fun _ => ⟨by show l.toArray.toList = _; rw [List.toList_toArray, HLf.out, HLe3.out, HLe.out, ← HL0.out]; simp [rB], HMe.out⟩⟩
                clear hb8 hk8
                go_wp2_with fail
                go_ret2
                exact ⟨_, _, _, rfl, HPI.out, HD.out⟩
  · have HP : Hid (PutIs N p L ⟨#[]⟩ L ty) := (HE.out _ _ _).2 ⟨rfl, fun _ => ⟨rfl, rfl⟩, fun q => absurd q hty⟩
    have HD : Hid (TIn w w1 B g gm v L) := ⟨v, HTb.out.below HB1.out, Fr.of_below HB1.out, fun k hk => .inl hk⟩
    clear HK HE
    go_wp2_with fail
    go_ret2
    exact ⟨_, _, _, rfl, HP.out, HD.out⟩

end Go.Proofs.YtknfecclijoefaaDoor
