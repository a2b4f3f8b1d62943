/- The contract of ref's Check. -/
import Derived.Test.YtaochgndednamaaDoorFChk2
namespace Go.Proofs.YtaochgndednamaaDoor
open Go.RowKit

/-- The argument's two blocks. -/
structure ChI (w wr : World) (cN cS : Array Value) : Prop where
  a : AtN 26 wr w.heap.size cN
  b : AtN 28 wr (w.heap.size + 1) cS
  bel : Below w.heap.size w wr
theorem ChI.dn {w wr : World} {cN cS : Array Value} (h : ChI w wr cN cS) (n : Nat) : ChI w (wr.drewN n) cN cS := ⟨h.a, h.b, dn_below h.bel n⟩
theorem ChI.belowA {w wr w' : World} {cN cS : Array Value} (h : ChI w wr cN cS) (hb : Below wr.heap.size wr w') : ChI w w' cN cS := ⟨h.a.belowAll hb, h.b.belowAll hb, h.bel.trans (hb.mono h.bel.size)⟩

set_option maxRecDepth 10000 in
set_option maxHeartbeats 1000000 in
theorem rcheck_any (N : Nd) (C : List Int) (t l m : Int) (a1 a2 a3 b : Option Addr) (c1 c2 c3 d : Nat) (w : World) (h : NdAt w N a1 a2 a3) (hC : LsAt w b (iV C)) (hf : fine N.ints) (h1 : N.ints.length ≤ 100) (h2 : N.texts.length ≤ 100) (h4 : ∀ s ∈ N.texts, s.size ≤ 500) :
    Calls Tryd.prog 12 #[.agg #[.int .i64 N.kind, .slice a1 N.ints.length c1, .slice a2 N.texts.length c2, .slice a3 N.kids.length c3], .agg #[.slice b C.length d, .int .i64 t, .int .i64 l, .int .i64 m]] w fun e w' => e = .returned (.int .i64 (chk N C t l m)) ∧ Below w.heap.size w w' := by
  have S0 : ChI w ((w.alloc (.cells #[.int .i64 N.kind, .slice a1 N.ints.length c1, .slice a2 N.texts.length c2, .slice a3 N.kids.length c3] 26)).alloc (.cells #[.slice b C.length d, .int .i64 t, .int .i64 l, .int .i64 m] 28)) #[.int .i64 N.kind, .slice a1 N.ints.length c1, .slice a2 N.texts.length c2, .slice a3 N.kids.length c3] #[.slice b C.length d, .int .i64 t, .int .i64 l, .int .i64 m] :=
    ⟨(AtN.new w 26 _).alloc _, mk_at (AtN.new (w.alloc _) 28 _) (show _ = w.heap.size + 1 by simp), ((Below.refl w.heap.size w).alloc (Nat.le_refl _) _).alloc (by simp) _⟩
  by_cases hl : N.ints.length = C.length
  · obtain ⟨V, hV⟩ : ∃ V, chk N C t l m = V := ⟨_, rfl⟩
    have HV : Hid _ := hV
    have HE : Hid _ := hl
    have HN : Hid _ := h
    have HC : Hid _ := hC
    have HF : Hid _ := hf
    have HZ : Hid _ := h4
    have HS : Hid _ := S0
    rw [hV]
    rw [← hl] at HS ⊢
    clear hV hl h hC hf h4 S0
    go_enter Tryd.func12, Tryd.ntmps12
    go_wp2_with fail
    go_loopw [5] (fun iv wr => ∃ i : Nat, iv = .int .i64 i ∧ i ≤ N.ints.length ∧ ChI w wr #[.int .i64 N.kind, .slice a1 N.ints.length c1, .slice a2 N.texts.length c2, .slice a3 N.kids.length c3] #[.slice b N.ints.length d, .int .i64 t, .int .i64 l, .int .i64 m] ∧ Hid (∀ k, k < i → in7 (C.getD k 0) (N.ints.getD k 0) = true)) (fun iv _ => N.ints.length - (intOf iv).toNat)
    case atStart => exact ⟨0, rfl, by omega, HS.out, fun k hk => by omega⟩
    case round =>
      clear HS
      obtain ⟨i, rfl, hi, hS, HI⟩ := hrel
      have x1 : wr.cell? ⟨w.heap.size, 1, none⟩ = some (.slice a1 N.ints.length c1) := hS.a.cell 1
      have y0 : wr.cell? ⟨w.heap.size + 1, 0, none⟩ = some (.slice b N.ints.length d) := hS.b.cell 0
      by_cases hlt : i < N.ints.length
      · have hlt' : (i : Int) < N.ints.length := by omega
        obtain ⟨ga, oa, rfl, la, da⟩ := (HN.out.i.belowB hS.bel).at (iV_at N.ints i hlt)
        obtain ⟨gb, ob, rfl, lb, db⟩ := (LsAt.belowB HC.out hS.bel).at (iV_at C i (by rw [← HE.out]; exact hlt))
        have HX : Hid (in7 (C.getD i 0) (N.ints.getD i 0) = false → V = 10) := fun h => by
          rw [← HV.out]; unfold chk; rw [fitI_no C N.ints i hlt h]; rfl
        have HY : Hid (in7 (C.getD i 0) (N.ints.getD i 0) = true → ∀ k, k < i + 1 → in7 (C.getD k 0) (N.ints.getD k 0) = true) := fun h k hk => by
          by_cases hki : k = i
          · subst hki; exact h
          · exact HI.out k (by omega)
        have HR : Hid _ := fun W => rin_any (C.getD i 0) (N.ints.getD i 0) W (HF.out i hlt).1 (HF.out i hlt).2
        have HS : Hid _ := hS
        clear HI HF HN HC HV HZ HE hS
        generalize in7 (C.getD i 0) (N.ints.getD i 0) = q at *
        generalize N.ints.getD i 0 = x at *
        generalize C.getD i 0 = y at *
        cases q
        · go_wp2_with fail
          go_quiet ((go_at_call 25; exact Calls.quiet_of_same (HR.out _)))
          go_wp2_with fail
          go_ret
          rw [HX.out (by first | rfl | trivial)]
          exact ⟨rfl, (HS.out.dn _).bel⟩
        · go_wp2_with fail
          go_quiet ((go_at_call 25; exact Calls.quiet_of_same (HR.out _)))
          go_wp2_with fail
          go_roundw
          case rel => exact ⟨i + 1, by go_num, by omega, HS.out.dn _, HY.out (by first | rfl | trivial)⟩
          case measure => simp [intOf]; omega
      · have hlt' : ¬ (i : Int) < N.ints.length := by omega
        obtain rfl : i = N.ints.length := by omega
        have x2 : wr.cell? ⟨w.heap.size, 2, none⟩ = some (.slice a2 N.texts.length c2) := hS.a.cell 2
        have y1 : wr.cell? ⟨w.heap.size + 1, 1, none⟩ = some (.int .i64 t) := hS.b.cell 1
        have HI2 : Hid (fitI C N.ints = true) := fitI_yes C N.ints HE.out HI.out
        have HS : Hid _ := hS
        clear HI HC HF hS
        by_cases ht : (N.texts.length : Int) = t
        · go_wp2_with fail
          go_loopw [6] (fun iv wr => ∃ i : Nat, iv = .int .i64 i ∧ i ≤ N.texts.length ∧ ChI w wr #[.int .i64 N.kind, .slice a1 N.ints.length c1, .slice a2 N.texts.length c2, .slice a3 N.kids.length c3] #[.slice b N.ints.length d, .int .i64 t, .int .i64 l, .int .i64 m] ∧ Hid (∀ k, k < i → ok8 (N.texts.getD k noT) = true)) (fun iv _ => N.texts.length - (intOf iv).toNat)
          case atStart => exact ⟨0, rfl, by omega, HS.out, fun k hk => by omega⟩
          case round =>
            clear HS x1 y0 x2 y1
            obtain ⟨i, rfl, hi, hS, HI⟩ := hrel
            have x2 : wr.cell? ⟨w.heap.size, 2, none⟩ = some (.slice a2 N.texts.length c2) := hS.a.cell 2
            by_cases hlt : i < N.texts.length
            · have hlt' : (i : Int) < N.texts.length := by omega
              obtain ⟨ga, oa, rfl, la, da⟩ := (HN.out.t.belowB hS.bel).at (tV_at N.texts i hlt)
              have HX : Hid (ok8 (N.texts.getD i noT) = false → V = 11) := fun h => by
                rw [← HV.out]; unfold chk; rw [HI2.out, fitT_no N.texts t i hlt h]; rfl
              have HY : Hid (ok8 (N.texts.getD i noT) = true → ∀ k, k < i + 1 → ok8 (N.texts.getD k noT) = true) := fun h k hk => by
                by_cases hki : k = i
                · subst hki; exact h
                · exact HI.out k (by omega)
              have HR : Hid _ := fun W => right_any (N.texts.getD i noT) W (by have := HZ.out (N.texts.getD i noT) (by simp [hlt]); omega)
              have HS : Hid _ := hS
              clear HI HN HV HZ HE hS HI2
              generalize ok8 (N.texts.getD i noT) = q at *
              generalize N.texts.getD i noT = s at *
              go_wp2_with fail
              refine (HR.out _).mono ?_
              rintro e w1 ⟨rfl, hb⟩
              have HS1 : Hid _ := HS.out.belowA hb
              clear hb HS
              cases q
              · go_wp2_with fail
                go_ret
                rw [HX.out (by first | rfl | trivial)]
                exact ⟨rfl, HS1.out.bel⟩
              · go_wp2_with fail
                go_roundw
                case rel => exact ⟨i + 1, by go_num, by omega, HS1.out, HY.out (by first | rfl | trivial)⟩
                case measure => simp [intOf]; omega
            · have hlt' : ¬ (i : Int) < N.texts.length := by omega
              obtain rfl : i = N.texts.length := by omega
              have HI3 : Hid (fitT N.texts t = true) := fitT_yes N.texts t ht HI.out
              have x3 : wr.cell? ⟨w.heap.size, 3, none⟩ = some (.slice a3 N.kids.length c3) := hS.a.cell 3
              have y2 : wr.cell? ⟨w.heap.size + 1, 2, none⟩ = some (.int .i64 l) := hS.b.cell 2
              have y3 : wr.cell? ⟨w.heap.size + 1, 3, none⟩ = some (.int .i64 m) := hS.b.cell 3
              have HX : Hid (V = if fitK N.kids.length l m = false then 12 else 0) := by
                show _ = _
                rw [← HV.out]; unfold chk; rw [HI2.out, HI3.out]; rfl
              have HB : Hid _ := hS.bel
              clear HI hS HI2 HI3 HZ HN HV
              unfold fitK at HX
              by_cases k1 : (N.kids.length : Int) < l
              · go_wp2_with fail
                go_ret
                rw [HX.out, decide_eq_false (by omega : ¬ l ≤ (N.kids.length : Int))]
                exact ⟨rfl, HB.out⟩
              · by_cases k2 : 0 ≤ m
                · by_cases k3 : m < (N.kids.length : Int)
                  · go_wp2_with fail
                    go_ret
                    rw [HX.out, decide_eq_true (by omega : l ≤ (N.kids.length : Int)), decide_eq_false (by omega : ¬ m < 0), decide_eq_false (by omega : ¬ (N.kids.length : Int) ≤ m)]
                    exact ⟨rfl, HB.out⟩
                  · go_wp2_with fail
                    go_ret
                    rw [HX.out, decide_eq_true (by omega : l ≤ (N.kids.length : Int)), decide_eq_false (by omega : ¬ m < 0), decide_eq_true (by omega : (N.kids.length : Int) ≤ m)]
                    exact ⟨rfl, HB.out⟩
                · go_wp2_with fail
                  go_ret
                  rw [HX.out, decide_eq_true (by omega : l ≤ (N.kids.length : Int)), decide_eq_true (by omega : m < 0)]
                  exact ⟨rfl, HB.out⟩
        · have HX : Hid (V = 11) := by
            show _ = _
            rw [← HV.out]; unfold chk; rw [HI2.out, show fitT N.texts t = false by unfold fitT; rw [decide_eq_false ht, Bool.false_and]]; rfl
          go_wp2_with fail
          go_ret
          rw [HX.out]
          exact ⟨rfl, HS.out.bel⟩
  · have hl' : ¬ (N.ints.length : Int) = C.length := by omega
    rw [show chk N C t l m = 10 by unfold chk; rw [show fitI C N.ints = false by unfold fitI; rw [decide_eq_false hl, Bool.false_and]]; rfl]
    have HS : Hid _ := S0
    clear h hC hf h4 S0
    go_enter Tryd.func12, Tryd.ntmps12
    go_wp2_with fail
    go_ret
    exact ⟨rfl, HS.out.bel⟩

end Go.Proofs.YtaochgndednamaaDoor
