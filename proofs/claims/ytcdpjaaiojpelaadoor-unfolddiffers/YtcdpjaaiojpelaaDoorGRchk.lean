/- The contracts of ref's Check, Right and Ints. -/
import Derived.Test.YtcdpjaaiojpelaaDoorGLed2
namespace Go.Proofs.YtcdpjaaiojpelaaDoor
open Go.RowKit Go.Maps Go.WideMaps Go.Sort

set_option maxRecDepth 10000 in
set_option maxHeartbeats 800000 in
theorem rcheck_any (X : List Nx) (a : Option Addr) (c : Nat) (r : Int) (w : World) (h : ScAt w a X) (hX : Small X) :
    Calls Tryd.prog 17 #[.agg #[.slice a X.length c, .int .i64 r]] w fun e w' => CheckOut X r w w' e := by
  have HS : Hid (ScAt w a X ∧ Small X) := ⟨h, hX⟩
  have hn := hX.1
  have HA0 : Hid (AtN 24 (w.alloc (.cells #[.slice a X.length c, .int .i64 r] 24)) w.heap.size #[.slice a X.length c, .int .i64 r] ∧ Below w.heap.size w (w.alloc (.cells #[.slice a X.length c, .int .i64 r] 24))) := ⟨AtN.new w 24 _, (Below.refl w.heap.size w).alloc (Nat.le_refl _) _⟩
  clear h hX
  by_cases hr : isPb X.length r = true
  · obtain ⟨rn, rfl⟩ : ∃ rn : Nat, r = rn := ⟨r.toNat, (Int.toNat_of_nonneg (isPb_iff.1 hr).1).symm⟩
    have hrn : rn < X.length := by have := isPb_iff.1 hr; omega
    have hrn' : (rn : Int) < X.length := by omega
    go_enter Tryd.func17, Tryd.ntmps17
    go_wp2_with fail
    refine (place_any _ _ _ _ _ _).mono ?_
    rintro e w1 ⟨rfl, hb1⟩
    rw [hr]
    have hA1 := AtN.belowAll HA0.out.1 hb1
    have hB1 : Below w.heap.size w w1 := HA0.out.2.trans (hb1.mono HA0.out.2.size)
    have x0 : w1.cell? ⟨w.heap.size, 0, none⟩ = some (.slice a X.length c) := hA1.cell 0
    have x1 : w1.cell? ⟨w.heap.size, 1, none⟩ = some (.int .i64 (rn : Int)) := hA1.cell 1
    have HR : Hid (Calls Tryd.prog 32 #[.agg #[.slice a X.length c, .int .i64 (rn : Int)]] w1 fun e w' => RefsOut X w1 w' e) := refs_any X a c rn w1 (HS.out.1.belowB hB1) HS.out.2
    have HA1 : Hid (AtN 24 w1 w.heap.size #[.slice a X.length c, .int .i64 (rn : Int)] ∧ Below w.heap.size w w1) := ⟨hA1, hB1⟩
    clear HA0 hb1 hA1 hB1
    go_wp2_with fail
    refine Calls.mono HR.out ?_
    rintro e w2 ⟨z, rfl, hz, hb2⟩
    have HA2 : Hid (AtN 24 w2 w.heap.size #[.slice a X.length c, .int .i64 (rn : Int)] ∧ Below w.heap.size w w2) := ⟨AtN.belowAll HA1.out.1 hb2, HA1.out.2.trans (hb2.mono HA1.out.2.size)⟩
    clear HR HA1 hb2 x0 x1
    rcases hz with ⟨rfl, hok⟩ | ⟨i, hi, rfl, hno, hbe⟩
    · have Hok : Hid (∀ i, i < X.length → okAt X i) := hok
      clear hok
      go_wp2_with fail
      go_loopw [5] (fun iv wr => ∃ i : Nat, iv = .int .i64 i ∧ i ≤ X.length ∧ Hid (∀ j, j < i → ¬ Lead (Ed (kX X)) j j) ∧ Hid (AtN 24 wr w.heap.size #[.slice a X.length c, .int .i64 (rn : Int)]) ∧ Hid (Below w.heap.size w wr)) (fun iv _ => X.length - (intOf iv).toNat)
      case atStart => exact ⟨0, rfl, by omega, fun j hj => by omega, HA2.out.1, HA2.out.2⟩
      case round =>
        clear HA2
        obtain ⟨i, rfl, hi, HI, HA, HB⟩ := hrel
        have x0 : wr.cell? ⟨w.heap.size, 0, none⟩ = some (.slice a X.length c) := HA.out.cell 0
        have x1 : wr.cell? ⟨w.heap.size, 1, none⟩ = some (.int .i64 (rn : Int)) := HA.out.cell 1
        by_cases hlt : i < X.length
        · have hlt' : (i : Int) < X.length := by omega
          have HL : Hid (Calls Tryd.prog 33 #[.agg #[.slice a X.length c, .int .i64 (rn : Int)], .int .i64 (i : Int)] wr fun e w' => LedOut (kX X) i wr w' e) := led_any X a c i rn wr (HS.out.1.belowB HB.out) HS.out.2 Hok.out hlt
          go_wp2_with fail
          refine Calls.mono HL.out ?_
          rintro e w3 ⟨g, met, rfl, ha3, hm3, hb3⟩
          rw [kX_length] at ha3 ⊢
          have y0 : w3.cell? ⟨g, i, none⟩ = some (.bool (decide (i ∈ met))) := by rw [ha3.cell, mtV_at _ _ _ hlt]
          have HA3 : Hid (AtN 24 w3 w.heap.size #[.slice a X.length c, .int .i64 (rn : Int)] ∧ Below w.heap.size w w3) := ⟨AtN.belowAll HA.out hb3, HB.out.trans (hb3.mono HB.out.size)⟩
          clear HL HA HB ha3 hb3 x0 x1
          by_cases hin : i ∈ met
          · rw [decide_eq_true hin] at y0
            have HV : Hid (CheckOut X rn w w3 (.returned (.tuple #[.int .i64 14, .int .i64 (i : Int)]))) := ⟨_, _, rfl, .inr (.inr ⟨hr, Hok.out, .inl ⟨i, rfl, rfl, (hm3 i).1 hin, HI.out⟩⟩), HA3.out.2⟩
            clear HI hin hm3 HA3 Hok HS
            go_wp2_with fail
            go_ret2
            exact HV.out
          · rw [decide_eq_false hin] at y0
            have HI2 : Hid (∀ j, j < i + 1 → ¬ Lead (Ed (kX X)) j j) := fun j hj l => by
              by_cases e : j = i
              · subst e; exact hin ((hm3 j).2 l)
              · exact HI.out j (by omega) l
            clear HI hin hm3
            go_wp2_with fail
            go_roundw
            case rel => exact ⟨i + 1, by go_num, by omega, HI2, HA3.out.1, HA3.out.2⟩
            case measure => simp [intOf]; omega
        · have hlt' : ¬ (i : Int) < X.length := by omega
          have Hno : Hid (∀ x, ¬ Lead (Ed (kX X)) x x) := fun x l => HI.out x (by have := l.lt; rw [kX_length] at this; omega) l
          have HL : Hid (Calls Tryd.prog 33 #[.agg #[.slice a X.length c, .int .i64 (rn : Int)], .int .i64 (rn : Int)] wr fun e w' => LedOut (kX X) rn wr w' e) := led_any X a c rn rn wr (HS.out.1.belowB HB.out) HS.out.2 Hok.out hrn
          clear HI
          go_wp2_with fail
          refine Calls.mono HL.out ?_
          rintro e w3 ⟨g, met, rfl, ha3, hm3, hb3⟩
          rw [kX_length] at ha3 ⊢
          have HRt : Hid (∀ x, Rt (Ed (kX X)) rn x ↔ x = rn ∨ x ∈ met) := fun x => by
            constructor
            · intro q
              rcases q.cases with q | q
              · exact .inl q.symm
              · exact .inr ((hm3 x).2 q)
            · rintro (rfl | q)
              · exact Rt.refl _ _
              · exact ((hm3 x).1 q).rt
          have HA3 : Hid (AtN 24 w3 w.heap.size #[.slice a X.length c, .int .i64 (rn : Int)] ∧ Below w.heap.size w w3 ∧ AtN 4 w3 g (mtV X.length met)) := ⟨AtN.belowAll HA.out hb3, HB.out.trans (hb3.mono HB.out.size), ha3⟩
          clear HL HA HB ha3 hb3 x0 x1 hm3 hlt hlt'
          go_wp2_with fail
          go_loopw [7] (fun iv wr => ∃ i : Nat, iv = .int .i64 i ∧ i ≤ X.length ∧ Hid (∀ j, j < i → Rt (Ed (kX X)) rn j) ∧ Hid (wr = w3)) (fun iv _ => X.length - (intOf iv).toNat)
          case atStart => exact ⟨0, rfl, by omega, fun j hj => by omega, rfl⟩
          case round =>
            obtain ⟨i, rfl, hi, HI, HWr⟩ := hrel
            obtain rfl : wr = w3 := HWr.out
            have x0 : wr.cell? ⟨w.heap.size, 0, none⟩ = some (.slice a X.length c) := HA3.out.1.cell 0
            have x1 : wr.cell? ⟨w.heap.size, 1, none⟩ = some (.int .i64 (rn : Int)) := HA3.out.1.cell 1
            by_cases hlt : i < X.length
            · have hlt' : (i : Int) < X.length := by omega
              have y0 : wr.cell? ⟨g, i, none⟩ = some (.bool (decide (i ∈ met))) := by rw [HA3.out.2.2.cell, mtV_at _ _ _ hlt]
              by_cases hin : Rt (Ed (kX X)) rn i
              · have HI2 : Hid (∀ j, j < i + 1 → Rt (Ed (kX X)) rn j) := fun j hj => by
                  by_cases e : j = i
                  · rw [e]; exact hin
                  · exact HI.out j (by omega)
                by_cases hir : i = rn
                · subst hir
                  clear HI hin HRt
                  go_wp2_with fail
                  go_roundw
                  case rel => exact ⟨i + 1, by go_num, by omega, HI2, by simp [Hid]⟩
                  case measure => simp [intOf]; omega
                · have hir' : ¬ ((i : Int) = rn) := by omega
                  rw [decide_eq_true (((HRt.out i).1 hin).resolve_left hir)] at y0
                  clear HI hin HRt
                  go_wp2_with fail
                  go_roundw
                  case rel => exact ⟨i + 1, by go_num, by omega, HI2, by simp [Hid]⟩
                  case measure => simp [intOf]; omega
              · have hir : i ≠ rn := fun e => hin (e ▸ Rt.refl _ _)
                have hir' : ¬ ((i : Int) = rn) := by omega
                rw [decide_eq_false (fun q => hin ((HRt.out i).2 (.inr q)))] at y0
                have HV : Hid (CheckOut X rn w wr (.returned (.tuple #[.int .i64 15, .int .i64 (i : Int)]))) := ⟨_, _, rfl, .inr (.inr ⟨hr, Hok.out, .inr ⟨Hno.out, .inl ⟨i, rfl, rfl, hlt, by simpa using hin, fun j hj => by simpa using HI.out j hj⟩⟩⟩), HA3.out.2.1⟩
                clear HI hin HRt Hok HS HA3 Hno
                go_wp2_with fail
                go_ret2
                exact HV.out
            · have hlt' : ¬ (i : Int) < X.length := by omega
              have HV : Hid (CheckOut X rn w wr (.returned (.tuple #[.int .i64 0, .int .i64 0]))) := ⟨_, _, rfl, .inr (.inr ⟨hr, Hok.out, .inr ⟨Hno.out, .inr ⟨rfl, rfl, fun x hx => by simpa using HI.out x (by omega)⟩⟩⟩), HA3.out.2.1⟩
              clear HI HRt Hok HS HA3 Hno
              go_wp2_with fail
              go_ret2
              exact HV.out
    · have HV : Hid (CheckOut X rn w w2 (.returned (.tuple #[.int .i64 13, .int .i64 (i : Int)]))) := ⟨_, _, rfl, .inr (.inl ⟨hr, i, hi, rfl, rfl, hno, hbe⟩), HA2.out.2⟩
      clear HS HA2 hi hno hbe
      go_wp2_with fail
      go_ret2
      exact HV.out
  · have hr' : isPb X.length r = false := by simpa using hr
    go_enter Tryd.func17, Tryd.ntmps17
    go_wp2_with (go_at_call 31; refine (place_any _ _ _ _ _ _).mono ?_; rintro e w1 ⟨rfl, hb1⟩; rw [hr'])
    go_ret2
    exact ⟨_, _, rfl, .inl ⟨hr', rfl, rfl⟩, HA0.out.2.trans (hb1.mono HA0.out.2.size)⟩

/-- Is nothing wrong? -/
def RightOut (X : List Nx) (r : Int) (w w' : World) (e : Ending) : Prop := ∃ b, e = .returned (.bool b) ∧ (b = true ↔ RightIs X r) ∧ Below w.heap.size w w'

set_option maxRecDepth 10000 in
set_option maxHeartbeats 400000 in
theorem right_any (X : List Nx) (a : Option Addr) (c : Nat) (r : Int) (w : World) (h : ScAt w a X) (hX : Small X) :
    Calls Tryd.prog 12 #[.agg #[.slice a X.length c, .int .i64 r]] w fun e w' => RightOut X r w w' e := by
  have HB : Hid (Below w.heap.size w (w.alloc (.cells #[.slice a X.length c, .int .i64 r] 24))) := (Below.refl w.heap.size w).alloc (Nat.le_refl _) _
  have HC : Hid (Calls Tryd.prog 17 #[.agg #[.slice a X.length c, .int .i64 r]] (w.alloc (.cells #[.slice a X.length c, .int .i64 r] 24)) fun e w' => CheckOut X r (w.alloc (.cells #[.slice a X.length c, .int .i64 r] 24)) w' e) := rcheck_any X a c r _ (h.alloc _) hX
  clear h hX
  go_enter Tryd.func12, Tryd.ntmps12
  go_wp2_with fail
  refine Calls.mono HC.out ?_
  rintro e w1 ⟨n, z, rfl, hck, hb1⟩
  have HB1 : Hid (Below w.heap.size w w1) := HB.out.trans (hb1.mono HB.out.size)
  have HR : Hid (n = 0 ↔ RightIs X r) := hck.right
  clear HC HB hb1 hck
  by_cases h0 : n = 0
  · have HT : Hid (RightIs X r) := HR.out.1 h0
    clear HR
    subst h0
    go_wp2_with fail
    go_ret
    exact ⟨true, rfl, ⟨fun _ => HT.out, fun _ => rfl⟩, HB1.out⟩
  · have HT : Hid (¬ RightIs X r) := fun q => h0 (HR.out.2 q)
    clear HR
    go_wp2_with fail
    go_ret
    refine ⟨false, ?_, ⟨fun q => by simp at q, fun q => absurd q HT.out⟩, HB1.out⟩
    simp [h0]

end Go.Proofs.YtcdpjaaiojpelaaDoor
