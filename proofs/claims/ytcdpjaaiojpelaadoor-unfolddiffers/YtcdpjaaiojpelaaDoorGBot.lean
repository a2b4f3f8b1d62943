/- The contract of the program's bottomUp: all places, each behind what is first met by ways down from it. -/
import Derived.Test.YtcdpjaaiojpelaaDoorGClimb
namespace Go.Proofs.YtcdpjaaiojpelaaDoor
open Go.RowKit Go.Maps Go.WideMaps Go.Sort

theorem run_makeMapN (k : Int) (W : World) : (Instr.makeMap 73 (some (.int .i64 k))).run Tryd.prog W = .ok (.map (some W.heap.size)) (W.alloc (.map #[] 0)) := by
  simp [Instr.makeMap, run_underlying Tryd.underlying73, asInt, asIntOf]

def BotOut (L : List Ln) (w w' : World) (e : Ending) : Prop :=
  ∃ order r c, e = .returned (.slice (some ⟨r, 0, none⟩) (List.length order) c) ∧ w'.ownsRow w.heap.size 3 1 (.slice (some ⟨r, 0, none⟩) order.length c) order.length (nV order) ∧ BOut (kOf L) order ∧ Below w.heap.size w w'

set_option maxRecDepth 10000 in
set_option maxHeartbeats 800000 in
theorem bottomup_any {Q : Nat → Prop} (L : List Ln) (a : Option Addr) (c : Nat) (w : World) (hl : LkQ Q w a L) (hk : Ok9 (kOf L)) (hs : Lim L) :
    Calls Tryd.prog 54 #[.slice a L.length c] w fun e w' => BotOut L w w' e := by
  obtain ⟨i0, hi, hz0, hz1, hz2⟩ := info_parts Tryd.infoI7
  have hL := hs.1
  have hmk : (Instr.makeSlice 38 (.int .i64 0) (.int .i64 (L.length : Int))).run Tryd.prog w = .ok (.slice (some ⟨w.heap.size, 0, none⟩) 0 L.length) (w.alloc (.cells (madeCells (Value.int .i64 0).cells (L.length * 1)) 3)) := by
    have := run_make (P := Tryd.prog) w 38 3 i0 (.int .i64 0) Tryd.underlying38 hi hz0 .i64 .i64 0 L.length (by omega) (by omega) (by rw [hz2]; omega) (by omega)
    rw [hz1, Int.toNat_natCast] at this
    simpa using this
  have O1 : Hid ((w.alloc (.cells (madeCells (Value.int .i64 0).cells (L.length * 1)) 3)).ownsRow w.heap.size 3 1 (.slice (some ⟨w.heap.size, 0, none⟩) 0 L.length) 0 []) := World.ownsRow_made w _ L.length (Nat.le_refl _) (by unfold maxLen; omega) (size_madeCells _ _)
  generalize madeCells (Value.int .i64 0).cells (L.length * 1) = cs at *
  have hmm := run_makeMapN (L.length : Int)
  have O2 : Hid (((w.alloc (.cells cs 3)).alloc (.map #[] 0)).ownsRow w.heap.size 3 1 (.slice (some ⟨w.heap.size, 0, none⟩) ([] : List Nat).length L.length) ([] : List Nat).length (nV [])) := O1.out.alloc _
  have M1 : Hid (Met ((w.alloc (.cells cs 3)).alloc (.map #[] 0)) (w.heap.size + 1) ([] : List Nat).length []) := by
    have := Met.made (w.alloc (.cells cs 3))
    rwa [show (w.alloc (.cells cs 3)).heap.size = w.heap.size + 1 by simp] at this
  have B1 : Hid (Below w.heap.size w ((w.alloc (.cells cs 3)).alloc (.map #[] 0))) := ((Below.refl w.heap.size w).alloc (Nat.le_refl _) _).alloc (by simp) _
  have HL : Hid _ := And.intro hl.now (And.intro hk hs)
  clear hl hk hs O1
  go_enter Tryd.func54, Tryd.ntmps54
  go_wp2_with fail
  go_loopw [3, 14] (fun ov iv wr => ∃ (order met : List Nat) (i r c : Nat), ov = .slice (some ⟨r, 0, none⟩) order.length c ∧ iv = .int .i64 i ∧ i ≤ L.length ∧ Hid (CInv (kOf L) order [] met) ∧ Hid (met.length = order.length) ∧ Hid (∀ x, x < i → x ∈ met) ∧ Hid (wr.ownsRow w.heap.size 3 1 (.slice (some ⟨r, 0, none⟩) order.length c) order.length (nV order)) ∧ Hid (Met wr (w.heap.size + 1) met.length met) ∧ Hid (Below w.heap.size w wr)) (fun _ iv _ => L.length - (intOf iv).toNat)
  case atStart => exact ⟨[], [], 0, w.heap.size, L.length, rfl, rfl, by omega, CInv.none, rfl, fun x hx => by omega, O2, M1, B1⟩
  case round =>
    clear O2 M1 B1 hmk hmm
    obtain ⟨order, met, i, r, co, rfl, rfl, hi', HC, HN, HA, HO, HM, HB⟩ := hrel
    have hlen : order.length ≤ L.length := by have := HC.out.len; rw [kOf_length] at this; simpa using this
    have hmb : met.length ≤ 61 := by have h0 : met.length = order.length := HN.out; omega
    by_cases hlt : i < L.length
    · have hlt' : (i : Int) < L.length := by omega
      by_cases hin : i ∈ met
      · have hlk := HM.out.look i (by omega)
        rw [decide_eq_true hin] at hlk
        have HA2 : Hid (∀ x, x < i + 1 → x ∈ met) := fun x hx => by
          by_cases e : x = i
          · rw [e]; exact hin
          · exact HA.out x (by omega)
        clear HL HA hin
        go_wp2_with fail
        go_roundw
        case rel => exact ⟨order, met, i + 1, r, co, rfl, by go_num, by omega, HC, HN, HA2, HO, HM, HB⟩
        case measure => simp [intOf]; omega
      · have hlk := HM.out.look i (by omega)
        rw [decide_eq_false hin] at hlk
        obtain ⟨w3, hup, hm3, hg3⟩ := HM.out.put i (by omega) (by unfold maxLen; omega)
        have hgl := HM.out.lt
        have hrg : r ≠ w.heap.size + 1 := own_ne_met HO.out HM.out
        have F3 : Fr (fun b => b = w.heap.size + 1) wr w3 := Fr.of_grown hg3 (fun k e => (Option.some.inj e).symm)
        have B3 : Below w.heap.size w w3 := Fr.below HB.out F3 (fun z e => by omega) HB.out.size
        have O3 := own_fr HO.out F3 (fun z hz => by simp [Value.ownBlock] at hz; omega)
        have hC : Hid _ := climb_any (Q := fun b => b < w.heap.size) L a c i (w.heap.size + 1) w.heap.size r co order (i :: met) w3 (HL.out.1.fr (S := fun b => w.heap.size ≤ b) ⟨B3.os, B3.tape, B3.output, B3.size, fun k _ hn => B3.block k (by omega)⟩ (fun b q _ => by omega)) (fun b q => q) (hm3.iff (fun y => by simp [or_comm])) (by omega) B3.size HL.out.2.1 HL.out.2.2 (HC.out.from i (by rw [kOf_length]; exact hlt) hin) (by have h0 : met.length = order.length := HN.out; simp [h0]) O3
        have HB3 : Hid _ := B3
        have HA2 : Hid (∀ met' : List Nat, (∀ x ∈ i :: met, x ∈ met') → ∀ x, x < i + 1 → x ∈ met') := fun m' hsub x hx => by
          by_cases e : x = i
          · rw [e]; exact hsub i (by simp)
          · exact hsub x (List.mem_cons_of_mem _ (HA.out x (by omega)))
        clear HL HC HN HA HO HM HB hm3 hg3 F3 O3 B3 hin
        go_wp2_with fail
        refine Calls.mono hC.out ?_
        rintro e w5 ⟨order', met', r', c', rfl, ho5, hc5, hn5, hm5, hsub5, hb5⟩
        have HA3 : Hid (∀ x, x < i + 1 → x ∈ met') := HA2.out met' hsub5
        have HX : Hid _ := And.intro ho5 (And.intro hc5 (And.intro hn5 (And.intro hm5 (HB3.out.trans hb5))))
        clear hC HA2 ho5 hc5 hn5 hm5 hsub5 hb5 HB3 hup hlk
        go_wp2_with fail
        go_roundw
        case rel => exact ⟨order', met', i + 1, r', c', rfl, by go_num, by omega, HX.out.2.1, HX.out.2.2.1, HA3, HX.out.1, HX.out.2.2.2.1, HX.out.2.2.2.2⟩
        case measure => simp [intOf]; omega
    · have hlt' : ¬ (i : Int) < L.length := by omega
      have HV : Hid (BotOut L w wr (.returned (.slice (some ⟨r, 0, none⟩) order.length co))) := by
        refine ⟨order, r, co, rfl, HO.out, ⟨?_, fun x => ⟨fun hx => ?_, fun hx => ?_⟩, HC.out.ko⟩, HB.out⟩
        · have := HC.out.nd
          simpa using this
        · exact HC.out.lt x (by simpa using hx)
        · rw [kOf_length] at hx
          have := (HC.out.mt x).1 (HA.out x (by omega))
          simpa using this
      clear HL HC HN HA HO HM HB
      go_wp2_with fail
      go_ret
      exact HV.out

end Go.Proofs.YtcdpjaaiojpelaaDoor
