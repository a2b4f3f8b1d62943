/- The contract of the program's own look at a node that is to be put. -/
import Derived.Test.YtknfecclijoefaaDoorRMa
import Derived.Test.YtknfecclijoefaaDoorGD
namespace Go.Proofs.YtknfecclijoefaaDoor
open Go.RowKit

set_option maxRecDepth 10000 in
set_option maxHeartbeats 1000000 in
theorem pcheck_any (N : Nd) (a1 a2 a3 : Option Addr) (c1 c2 c3 : Nat) (p : Int) (w : World) (hT : Tabs12 w) (h : NdAt w N a1 a2 a3) (hf : fine N.ints) (h1 : N.ints.length ≤ 100) (h2 : N.texts.length ≤ 100) (h3 : N.kids.length ≤ 100000) (h4 : ∀ s ∈ N.texts, s.size ≤ 500) :
    Calls Tryd.prog 28 #[.agg #[.int .i64 N.kind, .slice a1 N.ints.length c1, .slice a2 N.texts.length c2, .slice a3 N.kids.length c3], .int .i64 p] w fun e w' => e = .returned (.int .i64 (rE N p)) ∧ Below w.heap.size w w' := by
  have HN : Hid (NdAt w N a1 a2 a3) := h
  have HA0 : Hid (AtN 26 (w.alloc (.cells #[.int .i64 N.kind, .slice a1 N.ints.length c1, .slice a2 N.texts.length c2, .slice a3 N.kids.length c3] 26)) w.heap.size #[.int .i64 N.kind, .slice a1 N.ints.length c1, .slice a2 N.texts.length c2, .slice a3 N.kids.length c3]) := AtN.new w 26 _
  have HB0 : Hid (Below w.heap.size w (w.alloc (.cells #[.int .i64 N.kind, .slice a1 N.ints.length c1, .slice a2 N.texts.length c2, .slice a3 N.kids.length c3] 26))) := (Below.refl w.heap.size w).alloc (Nat.le_refl _) _
  have HSp : Hid (∀ W, Below w.heap.size w W → Calls Tryd.prog 40 #[.int .i64 N.kind] W fun e w' => SpIs W w' e (newSp N.kind)) := fun W hb => new_any N.kind W (hT.on hb).k
  have HC : Hid (∀ (W : World) (S : Sp) (sb : Option Addr) (d : Nat), Below w.heap.size w W → LsAt W sb (iV S.ints) → Calls Tryd.prog 55 #[.agg #[.int .i64 N.kind, .slice a1 N.ints.length c1, .slice a2 N.texts.length c2, .slice a3 N.kids.length c3], .agg #[.slice sb S.ints.length d, .int .i64 S.texts, .int .i64 S.least, .int .i64 S.most]] W fun e w' => e = .returned (.int .i64 (chkN N S.ints S.texts S.least S.most)) ∧ Below W.heap.size W w') :=
    fun W S sb d hW hb => fcheck_any N S.ints S.texts S.least S.most a1 a2 a3 sb c1 c2 c3 d W (h.belowB hW) hb (hT.on hW).s hf h1 h2 h4
  have HV : Hid (tyN N = if (newSp N.kind).ok = false then 9 else chkN N (newSp N.kind).ints (newSp N.kind).texts (newSp N.kind).least (newSp N.kind).most) := rfl
  have HRE : Hid (rE N p = if tyN N = 0 then (if rOk N p = true then 0 else 13) else tyN N) := rfl
  clear h hT hf h4
  generalize tyN N = ty at *
  generalize newSp N.kind = S at *
  obtain ⟨ok, ci, ct, cl, cm⟩ := S
  go_enter Tryd.func28, Tryd.ntmps28
  go_wp2_with fail
  refine Calls.mono (HSp.out _ HB0.out) ?_
  rintro e w1 ⟨v, rfl, hI, hb1⟩
  obtain ⟨sb, sc, rfl⟩ := own_shape7 hI
  have HL : Hid (LsAt w1 sb (iV ci)) := LsAt.of_own hI
  have HA1 : Hid (AtN 26 w1 w.heap.size #[.int .i64 N.kind, .slice a1 N.ints.length c1, .slice a2 N.texts.length c2, .slice a3 N.kids.length c3]) := AtN.belowAll HA0.out hb1
  have HB1 : Hid (Below w.heap.size w w1) := HB0.out.trans (hb1.mono HB0.out.size)
  clear HSp hI hb1 HA0 HB0
  dsimp only at *
  cases ok with
  | false =>
    have ht : ty = 9 := HV.out
    subst ht
    have HR : Hid (rE N p = 9) := by show _ = _; rw [HRE.out]; rfl
    clear HV HRE HC HL HA1
    go_wp2_with fail
    go_ret
    rw [HR.out]
    exact ⟨rfl, HB1.out.alloc HB1.out.size _⟩
  | true =>
    have ht : ty = chkN N ci ct cl cm := HV.out
    have HC1 : Hid (Calls Tryd.prog 55 #[.agg #[.int .i64 N.kind, .slice a1 N.ints.length c1, .slice a2 N.texts.length c2, .slice a3 N.kids.length c3], .agg #[.slice sb ci.length sc, .int .i64 ct, .int .i64 cl, .int .i64 cm]] (w1.alloc (.cells #[.slice sb ci.length sc, .int .i64 ct, .int .i64 cl, .int .i64 cm] 78)) fun e w' => e = .returned (.int .i64 ty) ∧ Below (w1.alloc (.cells #[.slice sb ci.length sc, .int .i64 ct, .int .i64 cl, .int .i64 cm] 78)).heap.size (w1.alloc (.cells #[.slice sb ci.length sc, .int .i64 ct, .int .i64 cl, .int .i64 cm] 78)) w') := by
      have := HC.out (w1.alloc (.cells #[.slice sb ci.length sc, .int .i64 ct, .int .i64 cl, .int .i64 cm] 78)) ⟨true, ci, ct, cl, cm⟩ sb sc (HB1.out.alloc HB1.out.size _) (HL.out.alloc _)
      rw [ht]
      exact this
    have n1 := HA1.out.lt
    have y0 : w1.cell? ⟨w.heap.size, 0, none⟩ = some (.int .i64 N.kind) := HA1.out.cell 0
    have y1 : w1.cell? ⟨w.heap.size, 1, none⟩ = some (.slice a1 N.ints.length c1) := HA1.out.cell 1
    have y2 : w1.cell? ⟨w.heap.size, 2, none⟩ = some (.slice a2 N.texts.length c2) := HA1.out.cell 2
    have y3 : w1.cell? ⟨w.heap.size, 3, none⟩ = some (.slice a3 N.kids.length c3) := HA1.out.cell 3
    clear HV HC HL ht
    go_wp2_with fail
    refine Calls.mono HC1.out ?_
    rintro e w2 ⟨rfl, hb2⟩
    have HB2 : Hid (Below w.heap.size w w2) := (HB1.out.alloc HB1.out.size _).trans (hb2.mono (by have := HB1.out.size; simp; omega))
    have HA2 : Hid (AtN 26 w2 w.heap.size #[.int .i64 N.kind, .slice a1 N.ints.length c1, .slice a2 N.texts.length c2, .slice a3 N.kids.length c3]) := AtN.belowAll (AtN.alloc HA1.out _) hb2
    clear HC1 HB1 HA1 hb2 y0 y1 y2 y3 n1
    by_cases ht : ty = 0
    · subst ht
      have HY : Hid ((∀ i, i < N.kids.length → 0 ≤ N.kids.getD i 0 ∧ N.kids.getD i 0 < p) → rE N p = 0) := fun q => by rw [HRE.out, if_pos rfl, if_pos (rOk_yes q)]
      have HNo : Hid (∀ i, i < N.kids.length → ¬ (0 ≤ N.kids.getD i 0 ∧ N.kids.getD i 0 < p) → rE N p = 13) := fun i hi q => by rw [HRE.out, if_pos rfl, if_neg (by rw [rOk_no hi q]; simp)]
      clear HRE
      have y3 : w2.cell? ⟨w.heap.size, 3, none⟩ = some (.slice a3 N.kids.length c3) := HA2.out.cell 3
      have n2 := HA2.out.lt
      go_wp2_with fail
      go_loopw [27] (fun iv wr => ∃ i : Nat, iv = .int .i64 i ∧ i ≤ N.kids.length ∧ wr = w2 ∧ Hid (∀ k, k < i → 0 ≤ N.kids.getD k 0 ∧ N.kids.getD k 0 < p)) (fun iv _ => N.kids.length - (intOf iv).toNat)
      case atStart => exact ⟨0, rfl, by omega, rfl, fun k hk => by omega⟩
      case round =>
        obtain ⟨i, rfl, hi, rfl, HI⟩ := hrel
        by_cases hlt : i < N.kids.length
        · have hlt' : (i : Int) < N.kids.length := by omega
          obtain ⟨b3, o3, rfl, hb3, d3⟩ := (HN.out.k.belowB HB2.out).at (iV_at N.kids i hlt)
          have HNi : Hid (¬ (0 ≤ N.kids.getD i 0 ∧ N.kids.getD i 0 < p) → rE N p = 13) := HNo.out i hlt
          have HIi : Hid (0 ≤ N.kids.getD i 0 ∧ N.kids.getD i 0 < p → ∀ k, k < i + 1 → 0 ≤ N.kids.getD k 0 ∧ N.kids.getD k 0 < p) := fun q k hk => by
            by_cases e : k = i
            · subst e; exact q
            · exact HI.out k (by omega)
          clear HI HNo HY
          generalize N.kids.getD i 0 = z at *
          by_cases hz : z < 0
          · have HP : Hid (rE N p = 13) := HNi.out (by omega)
            clear HNi HIi
            go_wp2_with fail
            go_ret
            rw [HP.out]
            exact ⟨rfl, HB2.out⟩
          · by_cases hz2 : p ≤ z
            · have HP : Hid (rE N p = 13) := HNi.out (by omega)
              clear HNi HIi
              go_wp2_with fail
              go_ret
              rw [HP.out]
              exact ⟨rfl, HB2.out⟩
            · clear HNi
              go_wp2_with fail
              go_roundw
              case rel => exact ⟨i + 1, by go_num, by omega, by first | rfl | trivial, HIi.out ⟨by omega, by omega⟩⟩
              case measure => simp [intOf]; omega
        · have hlt' : ¬ (i : Int) < N.kids.length := by omega
          have HKr : Hid (∀ k, k < N.kids.length → 0 ≤ N.kids.getD k 0 ∧ N.kids.getD k 0 < p) := fun k hk => HI.out k (by omega)
          have HR0 : Hid (rE N p = 0) := HY.out HKr.out
          clear HI HY HNo
          go_wp2_with fail
          go_ret
          rw [HR0.out]
          exact ⟨rfl, HB2.out⟩
    · have HR : Hid (rE N p = ty) := by show _ = _; rw [HRE.out, if_neg ht]
      clear HRE
      go_wp2_with fail
      go_ret
      rw [HR.out]
      exact ⟨rfl, HB2.out⟩

end Go.Proofs.YtknfecclijoefaaDoor
