/- The contracts of the program's Numbers and Is. -/
import Derived.Test.YtnmdkbeicggfhaaCTg
namespace Go.Proofs.Ytnmdkbeicggfhaa
open Go.RowKit Go.Maps Go.WideMaps Go.Sort

/-- What Numbers tells. -/
def NumOut (X : List Nx) (r : Int) (w w' : World) (e : Ending) : Prop := (RightIs X r → ∃ g, e = .returned (.slice (some ⟨g, 0, none⟩) X.length X.length) ∧ AtN 3 w' g (zV X.length (fun i => ((oX X r).idxOf i : Int)))) ∧ (¬ RightIs X r → e = .returned (.slice none 0 0)) ∧ Below w.heap.size w w'

set_option maxRecDepth 10000 in
set_option maxHeartbeats 400000 in
theorem numbers_any (X : List Nx) (a : Option Addr) (c : Nat) (r : Int) (w : World) (h : ScAt w a X) (hX : Small X) :
    Calls Try.prog 13 #[.agg #[.slice a X.length c, .int .i64 r]] w fun e w' => NumOut X r w w' e := by
  have HS : Hid (ScAt w a X ∧ Small X) := ⟨h, hX⟩
  have HL : Hid (∀ o : Obj, o = .cells #[.slice a X.length c, .int .i64 r] 24 → AtN 24 (w.alloc o) w.heap.size #[.slice a X.length c, .int .i64 r] ∧ Below w.heap.size w (w.alloc o)) := by
    rintro _ rfl
    exact ⟨AtN.new w 24 _, (Below.refl w.heap.size w).alloc (Nat.le_refl _) _⟩
  clear h hX
  go_enter Try.func13, Try.ntmps13
  go_wp2_with fail
  obtain ⟨h1, h2⟩ := HL.out _ rfl
  refine (check_any X a c r _ (HS.out.1.belowB h2) HS.out.2).mono ?_
  rintro e w1 ⟨n, z, rfl, hc, hb1⟩
  have HA1 : Hid (AtN 24 w1 w.heap.size #[.slice a X.length c, .int .i64 r]) := h1.belowAll hb1
  have HB1 : Hid (Below w.heap.size w w1) := h2.trans (hb1.mono h2.size)
  have x0 : w1.cell? ⟨w.heap.size, 0, none⟩ = some (.slice a X.length c) := HA1.out.cell 0
  have x1 : w1.cell? ⟨w.heap.size, 1, none⟩ = some (.int .i64 r) := HA1.out.cell 1
  have HC : Hid (CheckIs X r n z) := hc
  clear HL h1 h2 hb1 hc
  by_cases hn : n = 0
  · subst hn
    have hR : RightIs X r := HC.out.right.1 rfl
    have HN : Hid (Calls Try.prog 31 #[.agg #[.slice a X.length c, .int .i64 r]] w1 fun e w' => CanonicalOut X r w1 w' e) := canonical_any X a c r w1 (HS.out.1.belowB HB1.out) HS.out.2 hR
    have HR : Hid (RightIs X r) := hR
    clear hR HC
    go_wp2_with fail
    refine Calls.mono HN.out ?_
    rintro e w2 ⟨g, rfl, hg, hgl, hb2⟩
    have HO : Hid (NumOut X r w w2 (.returned (.slice (some ⟨g, 0, none⟩) X.length X.length))) := ⟨fun _ => ⟨g, rfl, hg⟩, fun q => absurd HR.out q, HB1.out.trans (hb2.mono HB1.out.size)⟩
    clear HN hg hgl hb2
    go_wp2_with fail
    go_ret
    exact HO.out
  · have HO : Hid (NumOut X r w w1 (.returned (.slice none 0 0))) := ⟨fun q => absurd (HC.out.right.2 q) hn, fun _ => rfl, HB1.out⟩
    go_wp2_with fail
    go_ret
    exact HO.out

/-- Is a scene canonical? -/
def IsCan (X : List Nx) (r : Int) : Prop := RightIs X r ∧ ∀ i, i < X.length → (oX X r).idxOf i = i
def IsOut (X : List Nx) (r : Int) (w w' : World) (e : Ending) : Prop := ∃ b, e = .returned (.bool b) ∧ (b = true ↔ IsCan X r) ∧ Below w.heap.size w w'

set_option maxRecDepth 10000 in
set_option maxHeartbeats 400000 in
theorem is_any (X : List Nx) (a : Option Addr) (c : Nat) (r : Int) (w : World) (h : ScAt w a X) (hX : Small X) :
    Calls Try.prog 19 #[.agg #[.slice a X.length c, .int .i64 r]] w fun e w' => IsOut X r w w' e := by
  have hl := hX.1
  have HS : Hid (ScAt w a X ∧ Small X) := ⟨h, hX⟩
  have HL : Hid (∀ o : Obj, o = .cells #[.slice a X.length c, .int .i64 r] 24 → Below w.heap.size w (w.alloc o)) := by
    rintro _ rfl
    exact (Below.refl w.heap.size w).alloc (Nat.le_refl _) _
  clear h hX
  by_cases hR : RightIs X r
  · have HR : Hid (RightIs X r) := hR
    have hn1 : 1 ≤ X.length := by have := hR.root.2; omega
    clear hR
    go_enter Try.func19, Try.ntmps19
    go_wp2_with fail
    have h2 := HL.out _ rfl
    refine (numbers_any X a c r _ (HS.out.1.belowB h2) HS.out.2).mono ?_
    rintro e w1 ⟨ho, -, hb1⟩
    obtain ⟨g, rfl, hg⟩ := ho HR.out
    have HG : Hid (AtN 3 w1 g (zV X.length (fun i => ((oX X r).idxOf i : Int)))) := hg
    have HB1 : Hid (Below w.heap.size w w1) := h2.trans (hb1.mono h2.size)
    clear HL h2 hb1 hg ho
    go_wp2_with fail
    go_loopw [10] (fun iv wr => ∃ i : Nat, iv = .int .i64 i ∧ i ≤ X.length ∧ wr = w1 ∧ Hid (∀ k, k < i → (oX X r).idxOf k = k)) (fun iv _ => X.length - (intOf iv).toNat)
    case atStart => exact ⟨0, rfl, by omega, rfl, fun k hk => by omega⟩
    case round =>
      obtain ⟨i, rfl, hi, rfl, HI⟩ := hrel
      by_cases hlt : i < X.length
      · have hlt' : (i : Int) < X.length := by omega
        have d0 : wr.cell? ⟨g, i, none⟩ = some (.int .i64 ((oX X r).idxOf i : Int)) := by rw [HG.out.cell i, zV_at _ _ _ hlt]
        by_cases he : (oX X r).idxOf i = i
        · rw [he] at d0
          have HI2 : Hid (∀ k, k < i + 1 → (oX X r).idxOf k = k) := fun k hk => by
            by_cases e : k = i
            · rw [e]; exact he
            · exact HI.out k (by omega)
          clear he HI
          go_wp2_with fail
          go_roundw
          case rel => exact ⟨i + 1, by go_num, by omega, by trivial, HI2⟩
          case measure => simp [intOf]; omega
        · have HO : Hid (IsOut X r w wr (.returned (.bool false))) := ⟨false, rfl, ⟨fun q => by simp at q, fun q => absurd (q.2 i hlt) he⟩, HB1.out⟩
          have he' : ¬ ((oX X r).idxOf i : Int) = (i : Int) := by omega
          generalize (oX X r).idxOf i = q at *
          clear HI he
          go_wp2_with fail
          go_ret
          exact HO.out
      · have hlt' : ¬ (i : Int) < X.length := by omega
        have HO : Hid (IsOut X r w wr (.returned (.bool (decide (0 < X.length))))) := ⟨true, by rw [decide_eq_true (by omega)], ⟨fun _ => ⟨HR.out, fun k hk => HI.out k (by omega)⟩, fun _ => rfl⟩, HB1.out⟩
        clear HI
        go_wp2_with fail
        go_ret
        exact HO.out
  · have HR : Hid (¬ RightIs X r) := hR
    clear hR
    go_enter Try.func19, Try.ntmps19
    go_wp2_with fail
    have h2 := HL.out _ rfl
    refine (numbers_any X a c r _ (HS.out.1.belowB h2) HS.out.2).mono ?_
    rintro e w1 ⟨-, ho, hb1⟩
    obtain rfl := ho HR.out
    have HO : Hid (IsOut X r w w1 (.returned (.bool false))) := ⟨false, rfl, ⟨fun q => by simp at q, fun q => absurd q.1 HR.out⟩, h2.trans (hb1.mono h2.size)⟩
    clear HL h2 hb1 ho
    go_wp2_with fail
    go_loopw [10] (fun iv wr => iv = .int .i64 0 ∧ wr = w1) (fun iv _ => 0)
    case atStart => exact ⟨rfl, rfl⟩
    case round =>
      obtain ⟨rfl, rfl⟩ := hrel
      go_wp2_with fail
      go_ret
      exact HO.out

end Go.Proofs.Ytnmdkbeicggfhaa
