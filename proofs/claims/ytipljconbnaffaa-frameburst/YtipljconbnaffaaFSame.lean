/- The contracts of the statements' own helpers: are two lists of sections the same; is there more than is played. -/
import Derived.Test.YtipljconbnaffaaFGet3
import Derived.Deep.QuietTactic
import Derived.BigQuiet
import Derived.Laws.StructEq
namespace Go.Proofs.Ytipljconbnaffaa
open Go.RowKit

theorem take_same {L M : List Sec} {i : Nat} (h : L.take i = M.take i) (h1 : i < L.length) (h2 : i < M.length) (e : L[i] = M[i]) : L.take (i + 1) = M.take (i + 1) := by
  rw [take_snoc L i h1, take_snoc M i h2, h, e]

theorem neq_sec (W : World) (x y : Int) (p q : ByteArray) : (binOp .neq 41 (.agg #[.int .i64 x, .string p]) (.agg #[.int .i64 y, .string q])).run Try.prog W = .ok (.bool (!(x == y && p.toList == q.toList))) W := by
  have hs := run_equalIn_struct (P := Try.prog) W 9999 41 #[.int .i64 x, .string p] #[.int .i64 y, .string q] (by kernel_rfl) (by kernel_rfl)
  have hp0 : (part 3 #[.int .i64 x, .string p] 0).run Try.prog W = .ok (.int .i64 x) W := by kernel_rfl
  have hp1 : (part 9 #[.int .i64 x, .string p] 1).run Try.prog W = .ok (.string p) W := by kernel_rfl
  have hq0 : (part 3 #[.int .i64 y, .string q] 0).run Try.prog W = .ok (.int .i64 y) W := by kernel_rfl
  have hq1 : (part 9 #[.int .i64 y, .string q] 1).run Try.prog W = .ok (.string q) W := by kernel_rfl
  have hi : (Op.equalIn 9999 3 (.int .i64 x) (.int .i64 y)).run Try.prog W = .ok (x == y) W := run_equalIn_int (P := Try.prog) W 9998 3 .i64 .i64 x y Try.underlying3
  have hst : (Op.equalIn 9999 9 (.string p) (.string q)).run Try.prog W = .ok (p.toList == q.toList) W := run_equalIn_string (P := Try.prog) W 9998 9 p q Try.underlying9
  rw [run_neq_struct, hs]
  simp only [Program.fieldsOf, Try.underlying41, Op.eqFields]
  simp [Sem.run_bind, hp0, hp1, hq0, hq1, hi, hst]
  cases h1 : x == y <;> cases h2 : p.toList == q.toList <;> simp_all

theorem sec_eq (x y : Int) (p q : ByteArray) : (!(x == y && p.toList == q.toList)) = !decide ((x, p) = (y, q)) := by
  congr 1
  rw [Bool.eq_iff_iff]
  simp only [Bool.and_eq_true, beq_iff_eq, decide_eq_true_eq, Prod.mk.injEq, ByteArray.toList_eq]
  constructor
  · rintro ⟨h1, h2⟩; exact ⟨h1, ba_ext h2⟩
  · rintro ⟨h1, h2⟩; exact ⟨h1, by rw [h2]⟩

set_option maxRecDepth 10000 in
set_option maxHeartbeats 400000 in
theorem same_any (a a' : Option Addr) (n n' cap cap' b o b' o' : Nat) (L M : List Sec) (w : World) (hn : L.length = n) (hn' : M.length = n') (ha : 0 < n → a = some ⟨b, o, none⟩) (ha' : 0 < n' → a' = some ⟨b', o', none⟩) (hL : SecAt w b o L) (hM : SecAt w b' o' M) (hs : n ≤ 1000000) (hs' : n' ≤ 1000000) :
    Calls Try.prog 15 #[.slice a n cap, .slice a' n' cap'] w fun e w' => e = .returned (.bool (decide (L = M))) ∧ Below w.heap.size w w' := by
  by_cases hl : n = n'
  · subst hl
    go_enter Try.func15, Try.ntmps15
    go_wp2_with fail
    go_loopw [5] (fun iv wr => ∃ i : Nat, iv = .int .i64 i ∧ i ≤ n ∧ Hid (L.take i = M.take i) ∧ Below w.heap.size w wr) (fun iv _ => n - (intOf iv).toNat)
    case atStart => exact ⟨0, rfl, by omega, rfl, Below.refl _ _⟩
    case round =>
      obtain ⟨i, rfl, hi, HI, hb⟩ := hrel
      by_cases hlt : i < n
      · obtain rfl := ha (by omega)
        obtain rfl := ha' (by omega)
        obtain ⟨l1, c0, c1⟩ := hL i (by omega)
        obtain ⟨l2, d0, d1⟩ := hM i (by omega)
        rw [← (bcell hb).1 b _ l1] at c0 c1
        rw [← (bcell hb).1 b' _ l2] at d0 d1
        have HE : Hid (L[i]'(by omega) = M[i]'(by omega) → L.take (i + 1) = M.take (i + 1)) := fun e => take_same HI.out (by omega) (by omega) e
        have HF : Hid (L[i]'(by omega) ≠ M[i]'(by omega) → decide (L = M) = false) := fun e => by
          rw [decide_eq_false_iff_not]; intro h; subst h; exact e rfl
        generalize (L[i]'(by omega)) = s at *
        generalize (M[i]'(by omega)) = s' at *
        obtain ⟨x, p⟩ := s
        obtain ⟨y, q⟩ := s'
        dsimp only at c0 c1 d0 d1
        have hq := fun W => neq_sec W x y p q
        rw [sec_eq] at hq
        by_cases he : (x, p) = (y, q)
        · have HE' : Hid _ := HE.out he
          rw [decide_eq_true he] at hq
          clear HE HF he HI
          go_wp2_with fail
          go_quiet (fail)
          go_wp2_with fail
          go_roundw
          case rel => exact ⟨i + 1, by go_num, by omega, HE', bdrewN hb _⟩
          case measure => simp [intOf]; omega
        · have HF' : Hid _ := HF.out he
          rw [decide_eq_false he] at hq
          clear HE HF he HI
          go_wp2_with fail
          go_quiet (fail)
          go_wp2_with fail
          go_ret
          rw [HF'.out]
          exact ⟨rfl, bdrewN hb _⟩
      · have HD : Hid (decide (L = M) = true) := by
          show _ = _
          rw [decide_eq_true_eq]
          have h := HI.out
          rw [List.take_of_length_le (by omega), List.take_of_length_le (by omega)] at h
          exact h
        clear HI
        go_wp2_with fail
        go_ret
        rw [HD.out]
        exact ⟨rfl, hb⟩
  · have hd : decide (L = M) = false := by rw [decide_eq_false_iff_not]; intro h; subst h; omega
    rw [hd]
    have hl' : ¬ (n : Int) = n' := by omega
    go_enter Try.func15, Try.ntmps15
    go_wp2_with fail
    go_ret
    exact ⟨rfl, Below.refl _ _⟩

/-- Is there more than is played? -/
def grt (L : List Sec) : Bool := decide (20 < L.length) || L.any (fun s => decide (1000 < s.2.size))
theorem grt_no (L : List Sec) (h : grt L = false) : L.length ≤ 20 ∧ ∀ s ∈ L, s.2.size ≤ 1000 := by
  simp [grt] at h
  exact ⟨h.1, fun s hs => h.2 s.1 s.2 hs⟩
theorem grt_at (L : List Sec) (i : Nat) (h : i < L.length) : (L.drop i).any (fun s => decide (1000 < s.2.size)) = (decide (1000 < L[i].2.size) || (L.drop (i + 1)).any (fun s => decide (1000 < s.2.size))) := by
  rw [List.drop_eq_getElem_cons h, List.any_cons]

set_option maxRecDepth 10000 in
set_option maxHeartbeats 400000 in
theorem great_any (a : Option Addr) (n cap b o : Nat) (L : List Sec) (w : World) (hn : L.length = n) (ha : 0 < n → a = some ⟨b, o, none⟩) (hL : SecAt w b o L) (hs : n ≤ maxLen) :
    Calls Try.prog 10 #[.slice a n cap] w fun e w' => e = .returned (.bool (grt L)) ∧ Below w.heap.size w w' := by
  unfold maxLen at hs
  by_cases h20 : 20 < n
  · have hg : grt L = true := by unfold grt; rw [decide_eq_true (by omega), Bool.true_or]
    have h20' : (20 : Int) < n := by omega
    rw [hg]
    go_enter Try.func10, Try.ntmps10
    go_wp2_with fail
    go_ret
    exact ⟨rfl, Below.refl _ _⟩
  · have HG : Hid (grt L = (L.drop 0).any (fun s => decide (1000 < s.2.size))) := by show _ = _; unfold grt; rw [decide_eq_false (by omega), Bool.false_or, List.drop_zero]
    have h20' : ¬ (20 : Int) < n := by omega
    generalize grt L = G at *
    go_enter Try.func10, Try.ntmps10
    go_wp2_with fail
    go_loopw [10] (fun iv wr => ∃ i : Nat, iv = .int .i64 i ∧ i ≤ n ∧ Hid (G = (L.drop i).any (fun s => decide (1000 < s.2.size))) ∧ Below w.heap.size w wr) (fun iv _ => n - (intOf iv).toNat)
    case atStart => exact ⟨0, rfl, by omega, HG, Below.refl _ _⟩
    case round =>
      obtain ⟨i, rfl, hi, HI, hb⟩ := hrel
      by_cases hlt : i < n
      · obtain rfl := ha (by omega)
        obtain ⟨l1, c0, c1⟩ := hL i (by omega)
        rw [← (bcell hb).1 b _ l1] at c0 c1
        have hI := HI.out
        rw [grt_at L i (by omega)] at hI
        generalize (L[i]'(by omega)) = s at *
        obtain ⟨x, p⟩ := s
        dsimp only at c0 c1 hI
        clear HI HG
        by_cases hp : 1000 < p.size
        · have hp' : (1000 : Int) < p.size := by omega
          rw [decide_eq_true hp, Bool.true_or] at hI
          have HT : Hid (G = true) := hI
          clear hI hp
          go_wp2_with fail
          go_ret
          rw [HT.out]
          exact ⟨rfl, hb.alloc hb.size _⟩
        · have hp' : ¬ (1000 : Int) < p.size := by omega
          rw [decide_eq_false hp, Bool.false_or] at hI
          have HT : Hid (G = (L.drop (i + 1)).any (fun s => decide (1000 < s.2.size))) := hI
          clear hI hp
          go_wp2_with fail
          go_roundw
          case rel => exact ⟨i + 1, by go_num, by omega, HT, hb.alloc hb.size _⟩
          case measure => simp [intOf]; omega
      · have HT : Hid (G = false) := by
          show _ = _
          rw [HI.out, List.drop_of_length_le (by omega)]
          rfl
        clear HI HG
        go_wp2_with fail
        go_ret
        rw [HT.out]
        exact ⟨rfl, hb⟩

end Go.Proofs.Ytipljconbnaffaa
