/- The contracts of the document's own Find, Bytes, Same and Great on lists of texts. -/
import Derived.Test.YtfblmibdcodipaaTMath
import Derived.Test.YtfblmibdcodipaaKit
import Derived.Test.YtfblmibdcodipaaRefs2
import Derived.Test.YtfblmibdcodipaaRefPut
import Derived.Deep.QuietTactic
namespace Go.Proofs.Ytfblmibdcodipaa
open Go.RowKit

theorem Try.infoS6 : (Try.prog.info? 9).map (fun i => (i.zero, i.size, i.bytes)) = some (some (.string ⟨#[]⟩), 1, 16) := by kernel_rfl

/-- Texts as the cells hold them, and where they lie. -/
def tV (L : List ByteArray) : List Value := L.map Value.string
def TextAt (w : World) (b o : Nat) (L : List ByteArray) : Prop := ∀ i (h : i < L.length), b < w.heap.size ∧ w.cell? ⟨b, o + i, none⟩ = some (.string (L[i]'h))
theorem TextAt.below {w w' : World} {b o : Nat} {L : List ByteArray} (h : TextAt w b o L) (hb : Below w.heap.size w w') : TextAt w' b o L := fun i hi => by
  obtain ⟨h1, h2⟩ := h i hi
  exact ⟨Nat.lt_of_lt_of_le h1 hb.size, ((bcell hb).1 b _ h1).trans h2⟩
theorem own_texts {w : World} {B : Nat} {a : Option Addr} {n cap : Nat} {xs : List ByteArray} (h : w.ownsRow B 9 1 (.slice a n cap) n (tV xs)) (hn : xs.length = n) : ∃ gk, (0 < n → a = some ⟨gk, 0, none⟩) ∧ TextAt w gk 0 xs := by
  rcases h.2 with ⟨hv, h0⟩ | ⟨g, cap', cur, hv, hb, hg, _⟩
  · exact ⟨0, by omega, fun i hi => by omega⟩
  · have ha : a = some ⟨g, 0, none⟩ := by injection hv
    subst ha
    have hlt : g < w.heap.size := (Array.getElem?_eq_some_iff.1 hg).1
    refine ⟨g, fun _ => rfl, fun i hi => ?_⟩
    have c0 := h.cells (g := g) rfl i (.string xs[i]) (by simp [tV, hi])
    rw [show (⟨g, 0, none⟩ : Addr).add i = ⟨g, 0 + i, none⟩ by unfold Addr.add; split <;> simp_all] at c0
    exact ⟨hlt, c0⟩

theorem eq_text (N p : ByteArray) : (N.toList == p.toList) = decide (N = p) := by
  rw [ByteArray.toList_eq, ByteArray.toList_eq, Bool.eq_iff_iff]
  simp only [beq_iff_eq, decide_eq_true_eq]
  constructor
  · intro h
    cases N; cases p
    simp at h
    rw [h]
  · rintro rfl; rfl

set_option maxRecDepth 10000 in
set_option maxHeartbeats 400000 in
theorem find_any (a : Option Addr) (cap b o : Nat) (L : List ByteArray) (s : ByteArray) (w : World) (ha : 0 < L.length → a = some ⟨b, o, none⟩) (hL : TextAt w b o L) (hs : L.length ≤ 100000) :
    Calls Try.prog 24 #[.slice a L.length cap, .string s] w fun e w' => e = .returned (.int .i64 (pFind L s)) ∧ w' = w := by
  have HR : Hid ((∀ i (h : i < L.length), L[i] = s → (∀ j (hj : j < L.length), j < i → L[j] ≠ s) → pFind L s = i) ∧ ((∀ i (h : i < L.length), L[i] ≠ s) → pFind L s = -1)) := by
    constructor
    · intro i h h1 h2
      unfold pFind
      rw [idx6_at s L i h h1 h2, if_pos h]
    · intro h
      unfold pFind
      rw [idx6_no s L h, if_neg (by omega)]
  generalize pFind L s = R at *
  go_enter Try.func24, Try.ntmps24
  go_wp2_with fail
  go_loopw [5] (fun iv wr => ∃ i : Nat, iv = .int .i64 i ∧ i ≤ L.length ∧ Hid (∀ j (hj : j < L.length), j < i → L[j] ≠ s) ∧ wr = w) (fun iv _ => L.length - (intOf iv).toNat)
  case atStart => exact ⟨0, rfl, by omega, fun j _ h => by omega, rfl⟩
  case round =>
    obtain ⟨i, rfl, hi, HI, rfl⟩ := hrel
    by_cases hlt : i < L.length
    · obtain rfl := ha (by omega)
      obtain ⟨hbl, c0⟩ := hL i hlt
      have hq := eq_text L[i] s
      have HO : Hid (L[i] = s → R = i) := fun h => HR.out.1 i hlt h HI.out
      have HY : Hid (L[i] ≠ s → ∀ j (hj : j < L.length), j < i + 1 → L[j] ≠ s) := fun h j hj hji => by
        by_cases e : j = i
        · subst e; exact h
        · exact HI.out j hj (by omega)
      clear HI HR
      generalize L[i] = c at *
      by_cases he : c = s
      · have HQ : Hid (R = i) := HO.out he
        rw [decide_eq_true he] at hq
        clear HO HY he
        go_wp2_with fail
        go_ret
        rw [HQ.out]
        exact ⟨rfl, rfl⟩
      · have HQ := HY.out he
        have HQ' : Hid _ := HQ
        rw [decide_eq_false he] at hq
        clear HO HY he HQ
        go_wp2_with fail
        go_roundw
        case rel => exact ⟨i + 1, by go_num, by omega, HQ'.out, trivial⟩
        case measure => simp [intOf]; omega
    · have HQ : Hid (R = -1) := HR.out.2 (fun j hj => HI.out j hj (by omega))
      clear HI HR
      go_wp2_with fail
      go_ret
      rw [HQ.out]
      exact ⟨rfl, rfl⟩

set_option maxRecDepth 10000 in
set_option maxHeartbeats 400000 in
theorem bytes6_any (a : Option Addr) (cap b o : Nat) (L : List ByteArray) (w : World) (ha : 0 < L.length → a = some ⟨b, o, none⟩) (hL : TextAt w b o L) (hs : L.length ≤ 100000) (hm : sum6 L ≤ 1000000000) :
    Calls Try.prog 16 #[.slice a L.length cap] w fun e w' => e = .returned (.int .i64 (sum6 L : Nat)) ∧ w' = w := by
  have HT : Hid ((∀ i (h : i < L.length), sum6 (L.take (i + 1)) = sum6 (L.take i) + L[i].size) ∧ sum6 (L.take L.length) = sum6 L) := ⟨fun i h => sum6_take L i h, by rw [List.take_length]⟩
  have HM : Hid (∀ i, sum6 (L.take i) ≤ 1000000000) := fun i => by
    have h1 : sum6 L = sum6 (L.take i) + sum6 (L.drop i) := by rw [← sum6_append, List.take_append_drop]
    omega
  have H0 : Hid (sum6 (L.take 0) = 0) := rfl
  go_enter Try.func16, Try.ntmps16
  go_wp2_with fail
  go_loopw [3, 4] (fun nv iv wr => ∃ i n : Nat, iv = .int .i64 i ∧ nv = .int .i64 n ∧ i ≤ L.length ∧ Hid (n = sum6 (L.take i)) ∧ wr = w) (fun _ iv _ => L.length - (intOf iv).toNat)
  case atStart => exact ⟨0, 0, rfl, rfl, by omega, H0.out.symm, rfl⟩
  case round =>
    obtain ⟨i, n, rfl, rfl, hi, HI, rfl⟩ := hrel
    by_cases hlt : i < L.length
    · obtain rfl := ha (by omega)
      obtain ⟨hbl, c0⟩ := hL i hlt
      have hx := HT.out.1 i hlt
      have hle := HM.out (i + 1)
      have HQ : Hid (n + L[i].size = sum6 (L.take (i + 1))) := by show _ = _; rw [hx, HI.out]
      rw [← HQ.out] at hle
      have hle' : (n : Int) + L[i].size ≤ 1000000000 := by omega
      clear HI hx
      generalize L[i] = c at *
      clear hle
      go_wp2_with fail
      go_roundw
      case rel => exact ⟨i + 1, n + c.size, by go_num, by go_num, by omega, HQ.out, trivial⟩
      case measure => simp [intOf]; omega
    · have HQ : Hid (sum6 L = n) := by
        have h1 := HI.out
        rw [show i = L.length by omega, HT.out.2] at h1
        exact h1.symm
      clear HI HT
      go_wp2_with fail
      go_ret
      rw [HQ.out]
      exact ⟨rfl, rfl⟩

theorem bdrewN6 {B : Nat} {a b : World} (h : Below B a b) (n : Nat) : Below B a (b.drewN n) := ⟨h.os, h.tape, h.output, h.size, h.block⟩
theorem take_same6 {L M : List ByteArray} {i : Nat} (h : L.take i = M.take i) (h1 : i < L.length) (h2 : i < M.length) (e : L[i] = M[i]) : L.take (i + 1) = M.take (i + 1) := by
  rw [List.take_add_one, List.take_add_one, List.getElem?_eq_getElem h1, List.getElem?_eq_getElem h2, h, e]

set_option maxRecDepth 10000 in
set_option maxHeartbeats 400000 in
theorem same6_any (a a' : Option Addr) (n n' cap cap' b o b' o' : Nat) (L M : List ByteArray) (w : World) (hn : L.length = n) (hn' : M.length = n') (ha : 0 < n → a = some ⟨b, o, none⟩) (ha' : 0 < n' → a' = some ⟨b', o', none⟩) (hL : TextAt w b o L) (hM : TextAt w b' o' M) (hs : n ≤ 1000000) (hs' : n' ≤ 1000000) :
    Calls Try.prog 17 #[.slice a n cap, .slice a' n' cap'] w fun e w' => e = .returned (.bool (decide (L = M))) ∧ Below w.heap.size w w' := by
  by_cases hl : n = n'
  · subst hl
    go_enter Try.func17, Try.ntmps17
    go_wp2_with fail
    go_loopw [5] (fun iv wr => ∃ i : Nat, iv = .int .i64 i ∧ i ≤ n ∧ Hid (L.take i = M.take i) ∧ Below w.heap.size w wr) (fun iv _ => n - (intOf iv).toNat)
    case atStart => exact ⟨0, rfl, by omega, rfl, Below.refl _ _⟩
    case round =>
      obtain ⟨i, rfl, hi, HI, hb⟩ := hrel
      by_cases hlt : i < n
      · obtain rfl := ha (by omega)
        obtain rfl := ha' (by omega)
        obtain ⟨l1, c0⟩ := hL i (by omega)
        obtain ⟨l2, d0⟩ := hM i (by omega)
        rw [← (bcell hb).1 b _ l1] at c0
        rw [← (bcell hb).1 b' _ l2] at d0
        have HA : Hid _ := take_same6 HI.out (by omega) (by omega)
        have HN : Hid (L[i] ≠ M[i] → ¬ L = M) := fun h e => h (by simp only [e])
        have hq := eq_text L[i] M[i]
        generalize L[i] = x at *
        generalize M[i] = y at *
        clear HI
        by_cases e : x = y
        · have HQ : Hid _ := HA.out e
          rw [decide_eq_true e] at hq
          clear HA HN e
          go_wp2_with fail
          go_quiet (fail)
          go_wp2_with fail
          go_roundw
          case rel => exact ⟨i + 1, by go_num, by omega, HQ.out, bdrewN6 hb _⟩
          case measure => simp [intOf]; omega
        · have HQ : Hid (decide (L = M) = false) := decide_eq_false (HN.out e)
          rw [decide_eq_false e] at hq
          clear HA HN e
          go_wp2_with fail
          go_quiet (fail)
          go_wp2_with fail
          go_ret
          rw [HQ.out]
          exact ⟨rfl, bdrewN6 hb _⟩
      · have HQ : Hid (decide (L = M) = true) := by
          have h1 := HI.out
          rw [List.take_of_length_le (by omega), List.take_of_length_le (by omega)] at h1
          exact decide_eq_true h1
        clear HI
        go_wp2_with fail
        go_ret
        rw [HQ.out]
        exact ⟨rfl, hb⟩
  · have HQ : Hid (decide (L = M) = false) := decide_eq_false (fun e => hl (by rw [← hn, ← hn', e]))
    have hl' : ¬ (n : Int) = n' := by omega
    go_enter Try.func17, Try.ntmps17
    go_wp2_with fail
    go_ret
    rw [HQ.out]
    exact ⟨rfl, Below.refl _ _⟩

/-- More texts than are played. -/
def grt6 (L : List ByteArray) : Bool := decide (200 < L.length) || L.any (fun s => decide (500 < s.size))
theorem grt6_no (L : List ByteArray) (h : grt6 L = false) : L.length ≤ 200 ∧ ∀ s ∈ L, s.size ≤ 500 := by
  simp only [grt6, Bool.or_eq_false_iff, decide_eq_false_iff_not, List.any_eq_false, decide_eq_true_eq] at h
  exact ⟨by omega, fun s hs => by have := h.2 s hs; omega⟩

set_option maxRecDepth 10000 in
set_option maxHeartbeats 400000 in
theorem great6_any (a : Option Addr) (cap b o : Nat) (L : List ByteArray) (w : World) (ha : 0 < L.length → a = some ⟨b, o, none⟩) (hL : TextAt w b o L) (hm : L.length ≤ 9223372036854775807) :
    Calls Try.prog 9 #[.slice a L.length cap] w fun e w' => e = .returned (.bool (grt6 L)) ∧ w' = w := by
  have HR : Hid ((200 < L.length → grt6 L = true) ∧ (∀ i (h : i < L.length), 500 < L[i].size → grt6 L = true) ∧ (L.length ≤ 200 → (∀ i (h : i < L.length), L[i].size ≤ 500) → grt6 L = false)) := by
    refine ⟨fun h => ?_, fun i h h1 => ?_, fun h h1 => ?_⟩
    · simp [grt6, h]
    · simp only [grt6, Bool.or_eq_true, List.any_eq_true, decide_eq_true_eq]
      exact .inr ⟨_, List.getElem_mem h, h1⟩
    · simp only [grt6, Bool.or_eq_false_iff, decide_eq_false_iff_not, List.any_eq_false, decide_eq_true_eq]
      refine ⟨by omega, fun s hs => ?_⟩
      obtain ⟨i, hi, rfl⟩ := List.getElem_of_mem hs
      have := h1 i hi
      omega
  generalize grt6 L = R at *
  by_cases hl : L.length ≤ 200
  · have hl' : (L.length : Int) ≤ 200 := by omega
    go_enter Try.func9, Try.ntmps9
    go_wp2_with fail
    go_loopw [3] (fun iv wr => ∃ i : Nat, iv = .int .i64 i ∧ i ≤ L.length ∧ Hid (∀ j (hj : j < L.length), j < i → L[j].size ≤ 500) ∧ wr = w) (fun iv _ => L.length - (intOf iv).toNat)
    case atStart => exact ⟨0, rfl, by omega, fun j _ h => by omega, rfl⟩
    case round =>
      obtain ⟨i, rfl, hi, HI, rfl⟩ := hrel
      by_cases hlt : i < L.length
      · obtain rfl := ha (by omega)
        obtain ⟨hbl, c0⟩ := hL i hlt
        have HO : Hid (500 < L[i].size → R = true) := fun h => HR.out.2.1 i hlt h
        have HY : Hid (L[i].size ≤ 500 → ∀ j (hj : j < L.length), j < i + 1 → L[j].size ≤ 500) := fun h j hj hji => by
          by_cases e : j = i
          · subst e; exact h
          · exact HI.out j hj (by omega)
        clear HI HR
        generalize L[i] = c at *
        by_cases he : 500 < c.size
        · have HQ : Hid (R = true) := HO.out he
          have he' : (500 : Int) < c.size := by omega
          clear HO HY he
          go_wp2_with fail
          go_ret
          rw [HQ.out]
          exact ⟨rfl, rfl⟩
        · have HQ' : Hid _ := HY.out (by omega)
          have he' : (c.size : Int) ≤ 500 := by omega
          clear HO HY he
          go_wp2_with fail
          go_roundw
          case rel => exact ⟨i + 1, by go_num, by omega, HQ'.out, trivial⟩
          case measure => simp [intOf]; omega
      · have HQ : Hid (R = false) := HR.out.2.2 hl (fun j hj => HI.out j hj (by omega))
        clear HI HR
        go_wp2_with fail
        go_ret
        rw [HQ.out]
        exact ⟨rfl, rfl⟩
  · have hl' : (200 : Int) < L.length := by omega
    have HQ : Hid (R = true) := HR.out.1 (by omega)
    clear HR
    go_enter Try.func9, Try.ntmps9
    go_wp2_with fail
    go_ret
    rw [HQ.out]
    exact ⟨rfl, rfl⟩

end Go.Proofs.Ytfblmibdcodipaa
