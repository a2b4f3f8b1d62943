/- Has a node what a Spec says: the contracts of field's Check and of what it calls. -/
import Derived.Test.YtaochgndednamaaDoorFSame8
import Derived.Test.YtaochgndednamaaDoorSTab2
import Derived.Test.YtaochgndednamaaDoorSRef2
import Derived.Test.YtaochgndednamaaDoorUGo
namespace Go.Proofs.YtaochgndednamaaDoor
open Go.RowKit

theorem pFirst_lt8 (l : List UInt8) : pFirst l < 0 ↔ (read l).2 = l.length := by
  unfold pFirst
  split <;> omega

/-- Is a text UTF-8? -/
def ok8 (s : ByteArray) : Bool := decide (pFirst s.data.toList < 0)
/-- Do numbers, texts, kids fit? -/
def fitI (C L : List Int) : Bool := decide (L.length = C.length) && (List.range L.length).all (fun i => in7 (C.getD i 0) (L.getD i 0))
def fitT (L : List ByteArray) (t : Int) : Bool := decide ((L.length : Int) = t) && L.all ok8
def fitK (k : Nat) (l m : Int) : Bool := decide (l ≤ k) && (decide (m < 0) || decide ((k : Int) ≤ m))
def chk (N : Nd) (C : List Int) (t l m : Int) : Int := if fitI C N.ints = false then 10 else if fitT N.texts t = false then 11 else if fitK N.kids.length l m = false then 12 else 0

theorem fitI_no (C L : List Int) (i : Nat) (h : i < L.length) (hi : in7 (C.getD i 0) (L.getD i 0) = false) : fitI C L = false := by
  unfold fitI
  rw [show (List.range L.length).all (fun i => in7 (C.getD i 0) (L.getD i 0)) = false from List.all_eq_false.2 ⟨i, by simpa using h, by simp only [hi]; simp⟩, Bool.and_false]
theorem fitI_yes (C L : List Int) (hl : L.length = C.length) (h : ∀ i, i < L.length → in7 (C.getD i 0) (L.getD i 0) = true) : fitI C L = true := by
  unfold fitI
  rw [decide_eq_true hl, Bool.true_and, List.all_eq_true]
  intro i hi
  exact h i (by simpa using hi)
theorem fitT_no (L : List ByteArray) (t : Int) (i : Nat) (h : i < L.length) (hi : ok8 (L.getD i noT) = false) : fitT L t = false := by
  unfold fitT
  rw [show L.all ok8 = false from List.all_eq_false.2 ⟨L.getD i noT, by simp [h], by rw [hi]; simp⟩, Bool.and_false]
theorem fitT_yes (L : List ByteArray) (t : Int) (hl : (L.length : Int) = t) (h : ∀ i, i < L.length → ok8 (L.getD i noT) = true) : fitT L t = true := by
  unfold fitT
  rw [decide_eq_true hl, Bool.true_and, List.all_eq_true]
  intro s hs
  obtain ⟨i, hi, rfl⟩ := List.getElem_of_mem hs
  have := h i hi
  simpa [hi] using this

/-- Numbers that there are. -/
def fine (L : List Int) : Prop := ∀ i, i < L.length → -9223372036854775808 ≤ L.getD i 0 ∧ L.getD i 0 ≤ 9223372036854775807

set_option maxRecDepth 10000 in
set_option maxHeartbeats 400000 in
theorem intsFit_any (L C : List Int) (a b : Option Addr) (c d : Nat) (w : World) (hL : LsAt w a (iV L)) (hC : LsAt w b (iV C)) (hT : TabAt w 1 spansC) (hf : fine L) (hs : L.length ≤ 100) :
    Calls Tryd.prog 22 #[.slice a L.length c, .slice b C.length d] w fun e w' => e = .returned (.bool (fitI C L)) ∧ w' = w := by
  by_cases hl : L.length = C.length
  · have H : Hid _ := fun (c n : Int) (h : -9223372036854775808 ≤ n ∧ n ≤ 9223372036854775807) => in_any c n w hT h.1 h.2
    have HL : Hid _ := hL
    have HC : Hid _ := hC
    have HF : Hid _ := hf
    have HE : Hid _ := hl
    obtain ⟨G, hG⟩ : ∃ G, fitI C L = G := ⟨_, rfl⟩
    have HG : Hid _ := hG
    rw [hG, ← hl]
    clear hL hC hT hf hG hl
    go_enter Tryd.func22, Tryd.ntmps22
    go_wp2_with fail
    go_loopw [14] (fun iv wr => ∃ i : Nat, iv = .int .i64 i ∧ i ≤ L.length ∧ wr = w ∧ Hid (∀ k, k < i → in7 (C.getD k 0) (L.getD k 0) = true)) (fun iv _ => L.length - (intOf iv).toNat)
    case atStart => exact ⟨0, rfl, by omega, rfl, fun k hk => by omega⟩
    case round =>
      obtain ⟨i, rfl, hi, hw, HI⟩ := hrel
      subst hw
      by_cases hlt : i < L.length
      · have hlt' : (i : Int) < L.length := by omega
        obtain ⟨ga, oa, rfl, la, da⟩ := LsAt.at HL.out (iV_at L i hlt)
        obtain ⟨gb, ob, rfl, lb, db⟩ := LsAt.at HC.out (iV_at C i (by rw [← HE.out]; exact hlt))
        have HN : Hid (in7 (C.getD i 0) (L.getD i 0) = false → G = false) := fun h => by rw [← HG.out]; exact fitI_no C L i hlt h
        have HY : Hid (in7 (C.getD i 0) (L.getD i 0) = true → ∀ k, k < i + 1 → in7 (C.getD k 0) (L.getD k 0) = true) := fun h k hk => by
          by_cases hki : k = i
          · subst hki; exact h
          · exact HI.out k (by omega)
        have HZ : Hid _ := H.out (C.getD i 0) (L.getD i 0) (HF.out i hlt)
        clear HI H HF HL HC
        generalize in7 (C.getD i 0) (L.getD i 0) = q at *
        generalize L.getD i 0 = x at *
        generalize C.getD i 0 = y at *
        go_wp2_with fail
        refine Calls.mono (Hid.out HZ) ?_
        rintro e w1 ⟨rfl, rfl⟩
        cases q
        · go_wp2_with fail
          go_ret
          rw [HN.out (by first | rfl | trivial)]
          exact ⟨rfl, rfl⟩
        · go_wp2_with fail
          go_roundw
          case rel => exact ⟨i + 1, by go_num, by omega, by first | rfl | trivial, HY.out (by first | rfl | trivial)⟩
          case measure => simp [intOf]; omega
      · have hlt' : ¬ (i : Int) < L.length := by omega
        have HV : Hid (G = true) := by
          show _ = _
          rw [← HG.out]
          exact fitI_yes C L HE.out (fun k hk => HI.out k (by omega))
        clear HI HF HL HC H HG
        go_wp2_with fail
        go_ret
        rw [HV.out]
        exact ⟨rfl, rfl⟩
  · have hl' : ¬ (L.length : Int) = C.length := by omega
    rw [show fitI C L = false by unfold fitI; rw [decide_eq_false hl, Bool.false_and]]
    clear hL hC hT hf
    go_enter Tryd.func22, Tryd.ntmps22
    go_wp2_with fail
    go_ret
    exact ⟨rfl, rfl⟩

set_option maxRecDepth 10000 in
set_option maxHeartbeats 400000 in
theorem textsFit_any (L : List ByteArray) (t : Int) (a : Option Addr) (c : Nat) (w : World) (hL : LsAt w a (tV L)) (hs : L.length ≤ 100) (hz : ∀ s ∈ L, s.size ≤ 500) :
    Calls Tryd.prog 23 #[.slice a L.length c, .int .i64 t] w fun e w' => e = .returned (.bool (fitT L t)) ∧ Below w.heap.size w w' := by
  by_cases hl : (L.length : Int) = t
  · have HL : Hid _ := hL
    have HE : Hid _ := hl
    have HZ : Hid _ := hz
    obtain ⟨G, hG⟩ : ∃ G, fitT L t = G := ⟨_, rfl⟩
    have HG : Hid _ := hG
    rw [hG, ← hl]
    clear hL hG hl hz
    go_enter Tryd.func23, Tryd.ntmps23
    go_wp2_with fail
    go_loopw [13] (fun iv wr => ∃ i : Nat, iv = .int .i64 i ∧ i ≤ L.length ∧ Below w.heap.size w wr ∧ Hid (∀ k, k < i → ok8 (L.getD k noT) = true)) (fun iv _ => L.length - (intOf iv).toNat)
    case atStart => exact ⟨0, rfl, by omega, Below.refl _ _, fun k hk => by omega⟩
    case round =>
      obtain ⟨i, rfl, hi, hB, HI⟩ := hrel
      by_cases hlt : i < L.length
      · have hlt' : (i : Int) < L.length := by omega
        obtain ⟨ga, oa, rfl, la, da⟩ := (LsAt.belowB HL.out hB).at (tV_at L i hlt)
        have HF : Hid _ := fun (W : World) => first_any (L.getD i noT) W (by have := HZ.out (L.getD i noT) (by simp [hlt]); omega)
        have HN : Hid (¬ pFirst (L.getD i noT).data.toList < 0 → G = false) := fun h => by rw [← HG.out]; exact fitT_no L t i hlt (decide_eq_false h)
        have HY : Hid (pFirst (L.getD i noT).data.toList < 0 → ∀ k, k < i + 1 → ok8 (L.getD k noT) = true) := fun h k hk => by
          by_cases hki : k = i
          · subst hki; exact decide_eq_true h
          · exact HI.out k (by omega)
        clear HI HL HZ HG
        generalize pFirst (L.getD i noT).data.toList = f at *
        generalize L.getD i noT = s at *
        have HB : Hid _ := hB
        clear hB
        go_wp2_with fail
        refine (Hid.out HF _).mono ?_
        rintro e w1 ⟨rfl, hb1⟩
        have HB1 : Hid (Below w.heap.size w w1) := HB.out.trans (hb1.mono HB.out.size)
        clear hb1 HB HF
        by_cases hf : f < 0
        · have hf' : ¬ 0 ≤ f := by omega
          go_wp2_with fail
          go_roundw
          case rel => exact ⟨i + 1, by go_num, by omega, HB1.out, HY.out hf⟩
          case measure => simp [intOf]; omega
        · have hf' : 0 ≤ f := by omega
          go_wp2_with fail
          go_ret
          rw [HN.out (by omega)]
          exact ⟨rfl, HB1.out⟩
      · have hlt' : ¬ (i : Int) < L.length := by omega
        have HV : Hid (G = true) := by
          show _ = _
          rw [← HG.out]
          exact fitT_yes L t HE.out (fun k hk => HI.out k (by omega))
        have HB : Hid _ := hB
        clear HI HL HG HZ hB
        go_wp2_with fail
        go_ret
        rw [HV.out]
        exact ⟨rfl, HB.out⟩
  · rw [show fitT L t = false by unfold fitT; rw [decide_eq_false hl, Bool.false_and]]
    clear hL hz
    go_enter Tryd.func23, Tryd.ntmps23
    go_wp2_with fail
    go_ret
    exact ⟨rfl, Below.refl _ _⟩

set_option maxRecDepth 10000 in
set_option maxHeartbeats 400000 in
theorem kidsFit_any (k : Nat) (v : Option Addr) (n c : Nat) (t l m : Int) (w : World) :
    Calls Tryd.prog 24 #[.int .i64 k, .agg #[.slice v n c, .int .i64 t, .int .i64 l, .int .i64 m]] w fun e w' => e = .returned (.bool (fitK k l m)) ∧ Below w.heap.size w w' := by
  have HB : Hid _ := fun (o : Obj) => (Below.refl w.heap.size w).alloc (Nat.le_refl _) o
  unfold fitK
  by_cases h1 : l ≤ k
  · by_cases h2 : m < 0
    · rw [decide_eq_true h1, decide_eq_true h2]
      go_enter Tryd.func24, Tryd.ntmps24
      go_wp2_with fail
      go_ret
      exact ⟨rfl, HB.out _⟩
    · by_cases h3 : (k : Int) ≤ m
      · rw [decide_eq_true h1, decide_eq_false h2, decide_eq_true h3]
        go_enter Tryd.func24, Tryd.ntmps24
        go_wp2_with fail
        go_ret
        exact ⟨rfl, HB.out _⟩
      · rw [decide_eq_true h1, decide_eq_false h2, decide_eq_false h3]
        go_enter Tryd.func24, Tryd.ntmps24
        go_wp2_with fail
        go_ret
        exact ⟨rfl, HB.out _⟩
  · rw [decide_eq_false h1]
    go_enter Tryd.func24, Tryd.ntmps24
    go_wp2_with fail
    go_ret
    exact ⟨rfl, HB.out _⟩

end Go.Proofs.YtaochgndednamaaDoor
