/- For every kind and text: the kind's name is the one that the document says, and the kind is found by it; the text is a kind's name, or none; nothing that came in is changed. The package's tables hold what the program's text lays into them when the call begins (the card ties that). -/
import Derived.Test.YtpnclcafhalaoaaDoorRows
import Derived.Test.YtpnclcafhalaoaaDoorCards
import Derived.Test.YtpnclcafhalaoaaDoorTie
import Derived.WalkKit
import Derived.ProofKit
import Derived.OpenShut
import Derived.ShutString
import Derived.Below
import Derived.Test.YtpnclcafhalaoaaDoorSLaid
import Derived.Test.YtpnclcafhalaoaaDoorSRef3
import Derived.ChangeOld
import Derived.LaidMore
import Derived.SevenTiedAt
namespace Go.Proofs.YtpnclcafhalaoaaDoor.schemaNames
open Go.ChangeShapes Go.WideShapes Go.ChangeAt Go.RowKit
open Go.ChangeMaps (open_string shut_string)
set_option linter.unusedVariables false

theorem own : ownKnob Tryd.prog.godebug = none := by kernel_rfl
theorem laidOut : laidOutB Tryd.prog = true := by kernel_rfl

theorem wf_lit {n : Int} (h : (Lit.int .i64 n).wf = true) : -9223372036854775808 ≤ n ∧ n ≤ 9223372036854775807 := by
  simp only [Lit.wf, Bool.and_eq_true, decide_eq_true_eq] at h
  exact h
theorem kindL_le (s : ByteArray) : ∀ (l : List ByteArray) (i : Nat), kindL l i s ≤ i + l.length - 1 ∨ kindL l i s = 0
  | [], _ => .inr rfl
  | x :: r, i => by
    unfold kindL
    split
    · left; simp
    · rcases kindL_le s r (i + 1) with h | h
      · left; simp; omega
      · exact .inr h
theorem kind7_le (s : ByteArray) : kind7 s ≤ 8 := by
  rcases kindL_le s names7 1 with h | h
  · simpa [names7, kind7] using h
  · unfold kind7; omega
/-- Just at the kind's own place the name is the text. -/
theorem kind7_iff (s : ByteArray) (j : Nat) (hj : j < 8) : names7.getD j ⟨#[]⟩ = s ↔ kind7 s = j + 1 := by
  constructor
  · exact kind7_at j hj s
  · intro h
    by_cases hn : ∀ i, i < 8 → names7.getD i ⟨#[]⟩ ≠ s
    · rw [kind7_no s hn] at h
      omega
    · have ⟨i, hi⟩ := Classical.not_forall.1 hn
      have ⟨h8, he⟩ := Classical.not_imp.1 hi
      have he := Classical.not_not.1 he
      have := kind7_at i h8 s he
      obtain rfl : i = j := by omega
      exact he
theorem names_cell {w : World} {g : Nat} (h : NamesAt w g) (j : Nat) (hj : j < 8) : w.cell? ⟨g, j, none⟩ = some (.string (names7.getD j ⟨#[]⟩)) := by
  rw [AtN.cell h]
  rcases (by omega : j = 0 ∨ j = 1 ∨ j = 2 ∨ j = 3 ∨ j = 4 ∨ j = 5 ∨ j = 6 ∨ j = 7) with rfl | rfl | rfl | rfl | rfl | rfl | rfl | rfl <;> rfl
theorem names_ne (j : Nat) (hj : j < 8) : (names7.getD j ⟨#[]⟩).toList.isEmpty = false := by
  rw [ByteArray.toList_eq]
  rcases (by omega : j = 0 ∨ j = 1 ∨ j = 2 ∨ j = 3 ∨ j = 4 ∨ j = 5 ∨ j = 6 ∨ j = 7) with rfl | rfl | rfl | rfl | rfl | rfl | rfl | rfl <;> rfl

/-- What has been found behind i names. -/
def fnd (K i : Nat) : Nat := if K ≤ i then K else 0
theorem fnd_zero (K : Nat) : fnd K 0 = 0 := by unfold fnd; split <;> omega
theorem fnd_hit (i : Nat) : fnd (i + 1) (i + 1) = i + 1 := if_pos (Nat.le_refl _)
theorem fnd_miss (K i : Nat) (h : K ≠ i + 1) : fnd K (i + 1) = fnd K i := by
  unfold fnd
  by_cases q : K ≤ i
  · rw [if_pos q, if_pos (by omega)]
  · rw [if_neg q, if_neg (by omega)]
theorem fnd_all (K : Nat) (h : K ≤ 8) : fnd K 8 = K := if_pos h

set_option maxRecDepth 10000 in
set_option maxHeartbeats 400000 in
theorem walk_long (a0 : Int) (a1 : ByteArray) (w : World) (h : 100 < a1.size) (hT : Tabs w) :
    Calls Tryd.prog 6 #[.int .i64 a0, .string a1] w fun e w' => e = .returned (.bool true) ∧ Below w.heap.size w w' := by
  have HT : Hid _ := hT
  have h' : (100 : Int) < a1.size := by omega
  clear hT h
  go_enter Tryd.func6, Tryd.ntmps6
  go_wp2_with fail
  refine (awake_any w HT.out).mono ?_
  rintro e w1 ⟨rfl, B1⟩
  have T1 : Hid _ := HT.out.below B1
  clear HT
  go_wp2_with fail
  refine (awake_any w1 T1.out).mono ?_
  rintro e w2 ⟨rfl, B2⟩
  go_wp2_with fail
  go_ret
  exact ⟨rfl, bjoin B1 B2 B1.size⟩

set_option maxRecDepth 10000 in
set_option maxHeartbeats 400000 in
theorem walk_kind (j : Nat) (hj : j < 8) (s : ByteArray) (w : World) (h : ¬ 100 < s.size) (hT : Tabs w) :
    Calls Tryd.prog 6 #[.int .i64 ((j + 1 : Nat) : Int), .string s] w fun e w' => e = .returned (.bool true) ∧ Below w.heap.size w w' := by
  have HT : Hid _ := hT
  have h' : ¬ (100 : Int) < s.size := by omega
  clear hT h
  have k1 : (1 : Int) ≤ ((j + 1 : Nat) : Int) := by omega
  have k2 : ((j + 1 : Nat) : Int) ≤ 8 := by omega
  have HX : Hid (∀ (W : World) (g : Nat), NamesAt W g → W.cell? ⟨g, j, none⟩ = some (.string (names7.getD j ⟨#[]⟩))) := fun W g hW => names_cell hW j hj
  have HN : Hid (name7 ((j + 1 : Nat) : Int) = names7.getD j ⟨#[]⟩) := by
    show name7 _ = _
    unfold name7
    rw [if_pos (by omega)]
    congr 1
    omega
  have HKx : Hid (kind7 (names7.getD j ⟨#[]⟩) = j + 1) := kind7_at j hj _ rfl
  have hne := names_ne j hj
  obtain ⟨x, hx⟩ : ∃ x, names7.getD j ⟨#[]⟩ = x := ⟨_, rfl⟩
  rw [hx] at HX HN HKx hne
  clear hx
  have HI : Hid (∀ j, j < 8 → (names7.getD j ⟨#[]⟩ = s ↔ kind7 s = j + 1)) := fun j hj => kind7_iff s j hj
  have HC : Hid (∀ W : World, TabAt W 3 namesC → Calls Tryd.prog 15 #[.string s] W fun e w' => e = .returned (.tuple #[.int .i64 (kind7 s : Nat), .bool (decide (kind7 s ≠ 0))]) ∧ w' = W) := fun W hW => kind_any s W hW
  have hK8 := kind7_le s
  generalize kind7 s = K at *
  go_enter Tryd.func6, Tryd.ntmps6
  go_wp2_with fail
  refine (awake_any w HT.out).mono ?_
  rintro e w1 ⟨rfl, B1⟩
  have T1 : Hid _ := HT.out.below B1
  clear HT
  go_wp2_with fail
  refine (names_any w1).mono ?_
  rintro e w2 ⟨rfl, N2, B2⟩
  have T2 : Hid _ := T1.out.below B2
  have B2' := bjoin B1 B2 B1.size
  have cx := HX.out w2 _ N2
  clear T1 B1 B2 N2
  go_wp2_with fail
  refine (kind_c x (j + 1) true w2 T2.out.n HKx.out (by simp)).mono ?_
  rintro e w3 ⟨rfl, rfl⟩
  go_wp2_with fail
  refine (HC.out w3 T2.out.n).mono ?_
  rintro e w4 ⟨rfl, rfl⟩
  go_wp2_with fail
  refine (names_any w4).mono ?_
  rintro e w5 ⟨rfl, N5, B5⟩
  have T5 : Hid _ := T2.out.below B5
  have B5' := bjoin B2' B5 B2'.size
  have HN5 : Hid _ := fun i (hi : i < 8) => names_cell N5 i hi
  clear T2 B2' B5 N5
  go_wp2_with fail
  go_loopw [11, 48] (fun fv iv wr => ∃ i F : Nat, iv = .int .i64 i ∧ fv = .int .i64 F ∧ i ≤ 8 ∧ Hid (F = fnd K i) ∧ wr = w5) (fun _ iv _ => 8 - (intOf iv).toNat)
  case atStart => exact ⟨0, 0, rfl, rfl, by omega, (fnd_zero K).symm, rfl⟩
  case round =>
    obtain ⟨i, F, rfl, rfl, hi, HF, rfl⟩ := hrel
    by_cases hlt : i < 8
    · have hlt' : (i : Int) < 8 := by omega
      have hc := HN5.out i hlt
      by_cases hq : names7.getD i ⟨#[]⟩ = s
      · have hKi := (HI.out i hlt).1 hq
        have hb : ((names7.getD i ⟨#[]⟩).toList == s.toList) = true := by rw [beq_ba, decide_eq_true hq]
        have HF' : Hid (i + 1 = fnd K (i + 1)) := by show _ = _; rw [hKi, fnd_hit]
        clear hq hKi HI
        generalize names7.getD i ⟨#[]⟩ = y at *
        go_wp2_with fail
        go_roundw
        case rel => exact ⟨i + 1, i + 1, by go_num, by go_num, by omega, HF', trivial⟩
        case measure => simp [intOf]; omega
      · have hb : ((names7.getD i ⟨#[]⟩).toList == s.toList) = false := by rw [beq_ba, decide_eq_false hq]
        have HF' : Hid (F = fnd K (i + 1)) := by show _ = _; rw [fnd_miss K i (fun e => hq ((HI.out i hlt).2 e))]; exact HF.out
        clear hq HI HF
        generalize names7.getD i ⟨#[]⟩ = y at *
        go_wp2_with fail
        go_roundw
        case rel => exact ⟨i + 1, F, by go_num, rfl, by omega, HF', trivial⟩
        case measure => simp [intOf]; omega
    · have hlt' : ¬ (i : Int) < 8 := by omega
      obtain rfl : i = 8 := by omega
      obtain rfl : F = K := HF.out.trans (fnd_all K hK8)
      clear HF HI HC HN5
      go_wp2_with fail
      refine (name_c ((j + 1 : Nat) : Int) x _ T5.out.n HN.out).mono ?_
      rintro e w7 ⟨rfl, rfl⟩
      by_cases hF : F = 0
      · subst hF
        go_wp2_with fail
        go_ret
        exact ⟨rfl, B5'⟩
      · have hF' : (0 : Int) < F := by omega
        go_wp2_with fail
        go_ret
        exact ⟨by simp; omega, B5'⟩

set_option maxRecDepth 10000 in
set_option maxHeartbeats 400000 in
theorem walk_none (a0 : Int) (hk : a0 < 1 ∨ 9 ≤ a0) (s : ByteArray) (w : World) (h : ¬ 100 < s.size) (hT : Tabs w) :
    Calls Tryd.prog 6 #[.int .i64 a0, .string s] w fun e w' => e = .returned (.bool true) ∧ Below w.heap.size w w' := by
  have HT : Hid _ := hT
  have h' : ¬ (100 : Int) < s.size := by omega
  clear hT h
  have k1 : ¬ ((1 : Int) ≤ a0 ∧ a0 ≤ 8) := by omega
  have HN : Hid (name7 a0 = ⟨#[]⟩) := if_neg (by omega)
  have HKx : Hid (kind7 ⟨#[]⟩ = 0) := by show kind7 _ = _; decide +kernel
  have HI : Hid (∀ j, j < 8 → (names7.getD j ⟨#[]⟩ = s ↔ kind7 s = j + 1)) := fun j hj => kind7_iff s j hj
  have HC : Hid (∀ W : World, TabAt W 3 namesC → Calls Tryd.prog 15 #[.string s] W fun e w' => e = .returned (.tuple #[.int .i64 (kind7 s : Nat), .bool (decide (kind7 s ≠ 0))]) ∧ w' = W) := fun W hW => kind_any s W hW
  have hK8 := kind7_le s
  generalize kind7 s = K at *
  by_cases k0 : (1 : Int) ≤ a0
  · have k2 : ¬ a0 ≤ 8 := by omega
    clear k1 hk
    go_enter Tryd.func6, Tryd.ntmps6
    go_wp2_with fail
    refine (awake_any w HT.out).mono ?_
    rintro e w1 ⟨rfl, B1⟩
    have T1 : Hid _ := HT.out.below B1
    clear HT
    go_wp2_with fail
    refine (names_any w1).mono ?_
    rintro e w2 ⟨rfl, N2, B2⟩
    have T2 : Hid _ := T1.out.below B2
    have B2' := bjoin B1 B2 B1.size
    clear T1 B1 B2 N2
    go_wp2_with fail
    refine (kind_c ⟨#[]⟩ 0 false w2 T2.out.n HKx.out rfl).mono ?_
    rintro e w3 ⟨rfl, rfl⟩
    go_wp2_with fail
    refine (HC.out w3 T2.out.n).mono ?_
    rintro e w4 ⟨rfl, rfl⟩
    go_wp2_with fail
    refine (names_any w4).mono ?_
    rintro e w5 ⟨rfl, N5, B5⟩
    have T5 : Hid _ := T2.out.below B5
    have B5' := bjoin B2' B5 B2'.size
    have HN5 : Hid _ := fun i (hi : i < 8) => names_cell N5 i hi
    clear T2 B2' B5 N5
    go_wp2_with fail
    go_loopw [11, 48] (fun fv iv wr => ∃ i F : Nat, iv = .int .i64 i ∧ fv = .int .i64 F ∧ i ≤ 8 ∧ Hid (F = fnd K i) ∧ wr = w5) (fun _ iv _ => 8 - (intOf iv).toNat)
    case atStart => exact ⟨0, 0, rfl, rfl, by omega, (fnd_zero K).symm, rfl⟩
    case round =>
      obtain ⟨i, F, rfl, rfl, hi, HF, rfl⟩ := hrel
      by_cases hlt : i < 8
      · have hlt' : (i : Int) < 8 := by omega
        have hc := HN5.out i hlt
        by_cases hq : names7.getD i ⟨#[]⟩ = s
        · have hKi := (HI.out i hlt).1 hq
          have hb : ((names7.getD i ⟨#[]⟩).toList == s.toList) = true := by rw [beq_ba, decide_eq_true hq]
          have HF' : Hid (i + 1 = fnd K (i + 1)) := by show _ = _; rw [hKi, fnd_hit]
          clear hq hKi HI
          generalize names7.getD i ⟨#[]⟩ = y at *
          go_wp2_with fail
          go_roundw
          case rel => exact ⟨i + 1, i + 1, by go_num, by go_num, by omega, HF', trivial⟩
          case measure => simp [intOf]; omega
        · have hb : ((names7.getD i ⟨#[]⟩).toList == s.toList) = false := by rw [beq_ba, decide_eq_false hq]
          have HF' : Hid (F = fnd K (i + 1)) := by show _ = _; rw [fnd_miss K i (fun e => hq ((HI.out i hlt).2 e))]; exact HF.out
          clear hq HI HF
          generalize names7.getD i ⟨#[]⟩ = y at *
          go_wp2_with fail
          go_roundw
          case rel => exact ⟨i + 1, F, by go_num, rfl, by omega, HF', trivial⟩
          case measure => simp [intOf]; omega
      · have hlt' : ¬ (i : Int) < 8 := by omega
        obtain rfl : i = 8 := by omega
        obtain rfl : F = K := HF.out.trans (fnd_all K hK8)
        clear HF HI HC HN5
        go_wp2_with fail
        refine (name_c a0 ⟨#[]⟩ _ T5.out.n HN.out).mono ?_
        rintro e w7 ⟨rfl, rfl⟩
        by_cases hF : F = 0
        · subst hF
          go_wp2_with fail
          go_ret
          exact ⟨rfl, B5'⟩
        · have hF' : (0 : Int) < F := by omega
          go_wp2_with fail
          go_ret
          exact ⟨by simp; omega, B5'⟩
  · clear k1 hk
    go_enter Tryd.func6, Tryd.ntmps6
    go_wp2_with fail
    refine (awake_any w HT.out).mono ?_
    rintro e w1 ⟨rfl, B1⟩
    have T1 : Hid _ := HT.out.below B1
    clear HT
    go_wp2_with fail
    refine (names_any w1).mono ?_
    rintro e w2 ⟨rfl, N2, B2⟩
    have T2 : Hid _ := T1.out.below B2
    have B2' := bjoin B1 B2 B1.size
    clear T1 B1 B2 N2
    go_wp2_with fail
    refine (kind_c ⟨#[]⟩ 0 false w2 T2.out.n HKx.out rfl).mono ?_
    rintro e w3 ⟨rfl, rfl⟩
    go_wp2_with fail
    refine (HC.out w3 T2.out.n).mono ?_
    rintro e w4 ⟨rfl, rfl⟩
    go_wp2_with fail
    refine (names_any w4).mono ?_
    rintro e w5 ⟨rfl, N5, B5⟩
    have T5 : Hid _ := T2.out.below B5
    have B5' := bjoin B2' B5 B2'.size
    have HN5 : Hid _ := fun i (hi : i < 8) => names_cell N5 i hi
    clear T2 B2' B5 N5
    go_wp2_with fail
    go_loopw [11, 48] (fun fv iv wr => ∃ i F : Nat, iv = .int .i64 i ∧ fv = .int .i64 F ∧ i ≤ 8 ∧ Hid (F = fnd K i) ∧ wr = w5) (fun _ iv _ => 8 - (intOf iv).toNat)
    case atStart => exact ⟨0, 0, rfl, rfl, by omega, (fnd_zero K).symm, rfl⟩
    case round =>
      obtain ⟨i, F, rfl, rfl, hi, HF, rfl⟩ := hrel
      by_cases hlt : i < 8
      · have hlt' : (i : Int) < 8 := by omega
        have hc := HN5.out i hlt
        by_cases hq : names7.getD i ⟨#[]⟩ = s
        · have hKi := (HI.out i hlt).1 hq
          have hb : ((names7.getD i ⟨#[]⟩).toList == s.toList) = true := by rw [beq_ba, decide_eq_true hq]
          have HF' : Hid (i + 1 = fnd K (i + 1)) := by show _ = _; rw [hKi, fnd_hit]
          clear hq hKi HI
          generalize names7.getD i ⟨#[]⟩ = y at *
          go_wp2_with fail
          go_roundw
          case rel => exact ⟨i + 1, i + 1, by go_num, by go_num, by omega, HF', trivial⟩
          case measure => simp [intOf]; omega
        · have hb : ((names7.getD i ⟨#[]⟩).toList == s.toList) = false := by rw [beq_ba, decide_eq_false hq]
          have HF' : Hid (F = fnd K (i + 1)) := by show _ = _; rw [fnd_miss K i (fun e => hq ((HI.out i hlt).2 e))]; exact HF.out
          clear hq HI HF
          generalize names7.getD i ⟨#[]⟩ = y at *
          go_wp2_with fail
          go_roundw
          case rel => exact ⟨i + 1, F, by go_num, rfl, by omega, HF', trivial⟩
          case measure => simp [intOf]; omega
      · have hlt' : ¬ (i : Int) < 8 := by omega
        obtain rfl : i = 8 := by omega
        obtain rfl : F = K := HF.out.trans (fnd_all K hK8)
        clear HF HI HC HN5
        go_wp2_with fail
        refine (name_c a0 ⟨#[]⟩ _ T5.out.n HN.out).mono ?_
        rintro e w7 ⟨rfl, rfl⟩
        by_cases hF : F = 0
        · subst hF
          go_wp2_with fail
          go_ret
          exact ⟨rfl, B5'⟩
        · have hF' : (0 : Int) < F := by omega
          go_wp2_with fail
          go_ret
          exact ⟨by simp; omega, B5'⟩

set_option maxRecDepth 10000 in
set_option maxHeartbeats 400000 in
theorem walk (a0 : Int) (a1 : ByteArray) (w : World) (w0 : (Lit.int .i64 a0).wf = true) (w1 : a1.size ≤ maxLen) (hT : Tabs w) :
    Calls Tryd.prog 6 #[.int .i64 a0, .string a1] w fun e w' => e = .returned (.bool true) ∧ Below w.heap.size w w' := by
  by_cases h : 100 < a1.size
  · exact walk_long a0 a1 w h hT
  · by_cases hk : a0 < 1 ∨ 9 ≤ a0
    · exact walk_none a0 hk a1 w h hT
    · obtain ⟨j, hj, rfl⟩ : ∃ j : Nat, j < 8 ∧ a0 = ((j + 1 : Nat) : Int) := ⟨(a0 - 1).toNat, by omega, by omega⟩
      exact walk_kind j hj a1 w h hT

set_option maxRecDepth 100000 in
theorem lifted (os : Os) (started : os.Started) (H : Type) (enc : TypeId × Value → H) :
    ReturnsInHanded {} Tryd.checked os 6 .any (fun w args => (Rows.schemaNamesSpec.pre enc Tryd.prog Tryd.f6 [] false w args ∧ laidMetH Tryd.prog laid4 w) ∧ sizedMet enc Tryd.prog Tryd.f6 (OpenSpec.ofChange Rows.schemaNamesSpec) false w args)
      (Rows.schemaNamesSpec.post enc Tryd.prog Tryd.f6 false true false false) := by
  refine returnsInHanded_of_change_and (C := Tryd.checked) (X := fun w _ => laidMetH Tryd.prog laid4 w) (fun _ _ _ hh h => h.of_heap hh) own started (by kernel_rfl) Tryd.func6
    (ChangeSpec.witness_shaped (enc := enc) (C := Tryd.checked) (os := os) (X := fun w _ => laidMetH Tryd.prog laid4 w) false (World.doorLaid Tryd.prog 400 os) #[.int .i64 0, .string ByteArray.empty] 8 rfl (World.shaped_of_RefB (by kernel_rfl) (by kernel_rfl)) (by kernel_rfl) (by kernel_rfl) (by kernel_rfl) (door_met os _)) ?_
  intro W base args ds gs before hval0 hW _ _ hL _
  have hval : ∀ (j : Nat) t v, Tryd.f6.params[j]? = some t → args[j]? = some v → Value.okWide Tryd.prog W .any base t v := hval0
  have hW' := hW
  obtain ⟨p, q, hA0, hV, rfl, hfz, hnd⟩ := hW
  have hA : DataW.TrodAll enc Tryd.prog W 0 (fun _ => true) true Tryd.f6.params.toList args.toList ds p := hA0
  rw [Tryd.params6] at hA hval
  obtain ⟨v0, vs0, d0, ds0, p0, q0, hargs, rfl, rfl, h0, r0⟩ := trodAll_cons hA
  obtain ⟨v1, vs1, d1, ds1, p1, q1, rfl, rfl, rfl, h1, r1⟩ := trodAll_cons r0
  obtain ⟨rfl, rfl, rfl⟩ := trodAll_nil r1
  obtain rfl : args = #[v0, v1] := by cases args; simp_all
  obtain ⟨rfl, rfl⟩ := trodVars_none hV
  obtain ⟨a0, rfl, rfl, rfl, w0⟩ := open_int Tryd.underlying3 (hval 0 3 v0 rfl rfl) h0
  obtain ⟨a1, rfl, rfl, rfl, w1⟩ := open_string Tryd.underlying9 (hval 1 9 v1 rfl rfl) h1
  clear hA0 hval0
  refine (walk a0 a1 W w0 w1 (tabs_of hL)).mono fun e W' ⟨he, bel⟩ => ?_
  subst he
  exact ⟨_, rfl, _, _, _, [], _, [], hW', trodAll_mk1 (shut_bool Tryd.underlying4 _), (trodAll_cons_mk (shut_int Tryd.underlying3 w0) (trodAll_cons_mk (shut_string Tryd.underlying9 w1) trodAll_mk0)), rfl, bel.frame _, fun h => by cases h⟩

theorem row : Rows.schemaNamesRow.holds Tryd.pinned (OpenSpec.ofChange Rows.schemaNamesSpec) :=
  OpenClaim.holds_of_wide 6 Tryd.f6 rfl rfl rfl rfl rfl rfl rfl ⟨rfl, rfl, rfl, rfl, rfl⟩ rfl rfl rfl rfl rfl (by kernel_rfl) Tryd.func6 (by kernel_rfl)
    (of_decide_eq_true (by kernel_rfl)) (by unfold Func.isWrapper; first | (rw [if_pos (by decide +kernel)]; kernel_rfl) | (rw [if_neg (by decide +kernel)]; exact ⟨rfl, rfl⟩))
    (fun os started H enc _ => lifted os started H enc)

/-- No parameter wants a stand-in; the program's own looks are off: what the card asks. -/
theorem plain (f : FuncId) (fn : Func) (hf : Tryd.pinned.checked.prog.funcNamed Rows.schemaNamesRow.func = some f) (hfn : Tryd.pinned.checked.prog.funcs[f]? = some fn) :
    false = Tryd.pinned.checked.prog.looks [] ∧ ∀ (j : Nat) t, fn.params[j]? = some t → Tryd.pinned.checked.prog.wantsStandIn t = false := by
  obtain rfl : f = 6 := Option.some.inj ((show Tryd.prog.funcNamed Rows.schemaNamesRow.func = some 6 by kernel_rfl).symm.trans hf) |>.symm
  obtain rfl : fn = Tryd.f6 := (Option.some.inj (Tryd.func6.symm.trans hfn)).symm
  refine ⟨by kernel_rfl, fun j t ht => ?_⟩
  have hm := Array.mem_of_getElem? ht
  have hall : (Tryd.f6.params.toList.all fun u => !Tryd.prog.wantsStandIn u) = true := by kernel_rfl
  exact (show Tryd.prog.wantsStandIn t = false by simpa using List.all_eq_true.1 hall t (by simpa using hm))

/-- ████ THE CARD ████ -/
theorem over : Rows.SchemaNamesCardSaid :=
  Claim7.holds_tied_plain_at .later [] _ _ _ _ row (fun _ h => by cases h) (by kernel_rfl) (fun _ h => by cases h) schemaNames_row_tie rfl ⟨rfl, rfl⟩ (by kernel_rfl) rfl plain (by kernel_rfl)

end Go.Proofs.YtpnclcafhalaoaaDoor.schemaNames

namespace Go.Proofs.YtpnclcafhalaoaaDoor
theorem schemaNames_holds : Rows.SchemaNamesCardSaid := schemaNames.over
#print axioms schemaNames_holds
end Go.Proofs.YtpnclcafhalaoaaDoor
