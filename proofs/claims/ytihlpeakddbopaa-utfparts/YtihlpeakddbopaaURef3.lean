/- The contracts of the document's own Read, Put and Same on characters. -/
import Derived.Test.YtihlpeakddbopaaURef2
import Derived.Deep.QuietTactic
import Derived.Deep.AppendLies
import Derived.Laws.OwnMore
namespace Go.Proofs.Ytihlpeakddbopaa
open Go.RowKit

theorem Try.infoR : (Try.prog.info? 21).map (fun i => (i.zero, i.size, i.bytes)) = some (some (.int .i32 0), 1, 4) := by kernel_rfl

/-- Numbers as the cells hold them, and where they lie. -/
def rV (L : List Int) : List Value := L.map fun c => Value.int .i32 c
def RuneAt (w : World) (b o : Nat) (L : List Int) : Prop := ∀ i (h : i < L.length), b < w.heap.size ∧ w.cell? ⟨b, o + i, none⟩ = some (.int .i32 (L[i]'h))
theorem RuneAt.below {w w' : World} {b o : Nat} {L : List Int} (h : RuneAt w b o L) (hb : Below w.heap.size w w') : RuneAt w' b o L := fun i hi => by
  obtain ⟨h1, h2⟩ := h i hi
  exact ⟨Nat.lt_of_lt_of_le h1 hb.size, ((bcell hb).1 b _ h1).trans h2⟩
theorem own_runes {w : World} {B : Nat} {a : Option Addr} {n cap : Nat} {xs : List Int} (h : w.ownsRow B 21 1 (.slice a n cap) n (rV xs)) (hn : xs.length = n) : ∃ gk, (0 < n → a = some ⟨gk, 0, none⟩) ∧ RuneAt w gk 0 xs := by
  rcases h.2 with ⟨hv, h0⟩ | ⟨g, cap', cur, hv, hb, hg, _⟩
  · exact ⟨0, by omega, fun i hi => by omega⟩
  · have ha : a = some ⟨g, 0, none⟩ := by injection hv
    subst ha
    have hlt : g < w.heap.size := (Array.getElem?_eq_some_iff.1 hg).1
    refine ⟨g, fun _ => rfl, fun i hi => ?_⟩
    have c0 := h.cells (g := g) rfl i (.int .i32 xs[i]) (by simp [rV, hi])
    rw [show (⟨g, 0, none⟩ : Addr).add i = ⟨g, 0 + i, none⟩ by unfold Addr.add; split <;> simp_all] at c0
    exact ⟨hlt, c0⟩

theorem bdrewN5 {B : Nat} {a b : World} (h : Below B a b) (n : Nat) : Below B a (b.drewN n) := ⟨h.os, h.tape, h.output, h.size, h.block⟩
theorem gbelow5 {a b : World} (h : Below a.heap.size a b) : a.grownBy b Option.none := ⟨h.os, h.tape, h.output, h.size, fun i hi _ => h.block i hi⟩

def zL (L : List Nat) : List Int := L.map (fun (c : Nat) => (c : Int))
theorem zL_length (L : List Nat) : (zL L).length = L.length := by simp [zL]

/-- What Read leaves. -/
def RGot (w w' : World) (e : Ending) (L : List Int) (n : Nat) : Prop :=
  ∃ (a : Option Addr) (cap gk : Nat), e = .returned (.tuple #[.slice a L.length cap, .int .i64 (n : Int)]) ∧ (0 < L.length → a = some ⟨gk, 0, none⟩) ∧ RuneAt w' gk 0 L ∧ Below w.heap.size w w'

set_option maxRecDepth 10000 in
set_option maxHeartbeats 400000 in
theorem read_any (s : ByteArray) (w : World) (hs : s.size ≤ 100000) :
    Calls Try.prog 9 #[.string s] w fun e w' => RGot w w' e (zL (read s.data.toList).1) (read s.data.toList).2 := by
  have hown0 : (w.alloc (.cells #[] 21)).ownsRow w.heap.size 21 1 (.slice (some ⟨w.heap.size, 0, none⟩) 0 0) 0 (rV []) := World.ownsRow_lit w #[] 0 (Nat.le_refl _) (by decide) (by simp)
  have hbel : Below w.heap.size w (w.alloc (.cells #[] 21)) := (Below.refl _ _).alloc (Nat.le_refl _) _
  obtain ⟨i0, hi, hz0, hz1, hz2⟩ := info_parts Try.infoR
  obtain ⟨R, hR⟩ : ∃ R, read s.data.toList = R := ⟨_, rfl⟩
  have HR : Hid (read (s.data.toList.drop 0) = R) := by show _ = _; rw [List.drop_zero]; exact hR
  rw [hR]
  clear hR
  go_enter Try.func9, Try.ntmps9
  go_wp2_with fail
  go_loopw [4, 5] (fun ov av wr => ∃ (n A : Nat) (a : Option Addr) (cap : Nat) (xs : List Nat), ov = .slice a n cap ∧ av = .int .i64 A ∧ wr.ownsRow w.heap.size 21 1 (.slice a n cap) n (rV (zL xs)) ∧ n ≤ A ∧ A ≤ s.size ∧ Below w.heap.size w wr ∧ Hid (xs.length = n ∧ R = (xs ++ (read (s.data.toList.drop A)).1, A + (read (s.data.toList.drop A)).2))) (fun _ av _ => s.size - (intOf av).toNat)
  case atStart => exact ⟨0, 0, _, _, [], rfl, rfl, hown0, by omega, by omega, hbel, rfl, by rw [HR.out]; simp⟩
  case round =>
    clear hown0 hbel HR
    obtain ⟨n, A, a, cap, xs, rfl, rfl, hown, hn, hA, hB, HX⟩ := hrel
    by_cases hlt : A < s.size
    · have hlt' : (A : Int) < s.size := by omega
      have HAt : Hid _ := fun (W : World) => at_any s A W hlt hs
      have hok := dec8_ok (s.data.toList.drop A)
      have hl : (s.data.toList.drop A).length = s.size - A := by rw [List.length_drop, Array.length_toList]; rfl
      have hst := read_stop (s.data.toList.drop A)
      have hgo := read_go (s.data.toList.drop A)
      have hdd : ∀ k, (s.data.toList.drop A).drop k = s.data.toList.drop (A + k) := fun k => by rw [List.drop_drop]
      have hx := HX.out
      rw [hl] at hok
      rw [hdd] at hgo
      generalize dec8 (s.data.toList.drop A) = D at *
      obtain ⟨c, k⟩ := D
      dsimp only at *
      clear HX hl hdd
      by_cases hk : k = 0
      · subst hk
        have HQ : Hid (R = (xs, A) ∧ xs.length = n) := by
          rw [hst rfl] at hx
          exact ⟨by rw [hx.2]; simp, hx.1⟩
        clear hst hgo hok hx
        go_wp2_with fail
        refine (HAt.out _).mono ?_
        rintro e w1 ⟨rfl, b1⟩
        have o1 := hown.kept (gbelow5 b1) (by cases h : (Value.slice a n cap).ownBlock <;> simp)
        have B1 := hB.trans (b1.mono hB.size)
        go_wp2_with fail
        go_ret2
        obtain ⟨hq, hl⟩ := HQ.out
        rw [hq]
        obtain ⟨gk, h1, h2⟩ := own_runes o1 (by rw [zL_length]; exact hl)
        have hlz : (zL xs).length = n := by rw [zL_length]; exact hl
        refine ⟨a, cap, gk, ?_, ?_, h2, B1⟩
        · dsimp only; rw [hlz]; rfl
        · dsimp only; rw [hlz]; exact h1
      · have hk' : ¬ (k : Int) = 0 := by omega
        obtain ⟨d1, d2, _, _⟩ := hok hk
        have HQ : Hid (xs.length = n ∧ R = (xs ++ [c] ++ (read (s.data.toList.drop (A + k))).1, A + k + (read (s.data.toList.drop (A + k))).2)) := by
          rw [hgo hk] at hx
          refine ⟨hx.1, ?_⟩
          rw [hx.2]
          simp [Nat.add_assoc]
        unfold isC at d1
        clear hst hgo hok hx
        go_wp2_with fail
        refine (HAt.out _).mono ?_
        rintro e w1 ⟨rfl, b1⟩
        have o1 := hown.kept (gbelow5 b1) (by cases h : (Value.slice a n cap).ownBlock <;> simp)
        have B1 := hB.trans (b1.mono hB.size)
        have hbk := fun q hq => (o1.lt q hq).1
        clear hown hB b1 HAt
        go_wp2_with (at_builtin; refine wpList_append_lies _ rfl _ _ 23 rfl w.heap.size 21 i0 (.int .i32 0) 1 4 Try.underlying23 hi hz0 hz1 hz2 rfl (by decide) _ n (rV (zL xs)) rfl (o1.alloc _) ⟨w1.heap.size, 0, none⟩ 1 1 [.int .i32 (c : Int)] rfl rfl (cell_one_new _ _ _) (by intro u hu; simp at hu; subst hu; rfl) (by decide) (by unfold maxLen; omega) (by omega) (by have := B1.size; simp; omega) _ rfl ?_)
        intro g2 cap2 w2 hown2 hgrow2 _ _
        have B2 : Below w.heap.size w w2 := (B1.alloc B1.size _).grown hgrow2 (by have := B1.size; simp; omega) hbk
        go_wp2_with fail
        go_roundw
        case rel =>
          obtain ⟨q1, q2⟩ := HQ.out
          exact ⟨n + 1, A + k, _, cap2, xs ++ [c], rfl, by go_num, by simpa [zL, rV] using hown2, by omega, by omega, B2, by simp [q1], q2⟩
        case measure => simp [intOf]; omega
    · have HQ : Hid (R = (xs, A) ∧ xs.length = n) := by
        obtain ⟨h1, h2⟩ := HX.out
        rw [drop_end s A (by omega), read_nil] at h2
        exact ⟨by rw [h2]; simp, h1⟩
      clear HX
      go_wp2_with fail
      go_ret2
      obtain ⟨hq, hl⟩ := HQ.out
      rw [hq]
      have hlz : (zL xs).length = n := by rw [zL_length]; exact hl
      obtain ⟨gk, h1, h2⟩ := own_runes hown hlz
      refine ⟨a, cap, gk, ?_, ?_, h2, hB⟩
      · dsimp only; rw [hlz]; rfl
      · dsimp only; rw [hlz]; exact h1

theorem take_same5 {L M : List Int} {i : Nat} (h : L.take i = M.take i) (h1 : i < L.length) (h2 : i < M.length) (e : L[i] = M[i]) : L.take (i + 1) = M.take (i + 1) := by
  rw [List.take_add_one, List.take_add_one, List.getElem?_eq_getElem h1, List.getElem?_eq_getElem h2, h, e]

set_option maxRecDepth 10000 in
set_option maxHeartbeats 400000 in
theorem same5_any (a a' : Option Addr) (n n' cap cap' b o b' o' : Nat) (L M : List Int) (w : World) (hn : L.length = n) (hn' : M.length = n') (ha : 0 < n → a = some ⟨b, o, none⟩) (ha' : 0 < n' → a' = some ⟨b', o', none⟩) (hL : RuneAt w b o L) (hM : RuneAt w b' o' M) (hs : n ≤ 1000000) (hs' : n' ≤ 1000000) :
    Calls Try.prog 13 #[.slice a n cap, .slice a' n' cap'] w fun e w' => e = .returned (.bool (decide (L = M))) ∧ Below w.heap.size w w' := by
  by_cases hl : n = n'
  · subst hl
    go_enter Try.func13, Try.ntmps13
    go_wp2_with fail
    go_loopw [5] (fun iv wr => ∃ i : Nat, iv = .int .i64 i ∧ i ≤ n ∧ Hid (L.take i = M.take i) ∧ Below w.heap.size w wr) (fun iv _ => n - (intOf iv).toNat)
    case atStart => exact ⟨0, rfl, by omega, rfl, Below.refl _ _⟩
    case round =>
      obtain ⟨i, rfl, hi, HI, hb⟩ := hrel
      by_cases hlt : i < n
      · obtain rfl := ha (by omega)
        obtain rfl := ha' (by omega)
        obtain ⟨l1, c0⟩ := hL i (by omega)
        obtain ⟨l2, d0⟩ := hM i (by omega)
        rw [← (bcell hb).1 b _ l1] at c0
        rw [← (bcell hb).1 b' _ l2] at d0
        have HE : Hid (L[i]'(by omega) = M[i]'(by omega) → L.take (i + 1) = M.take (i + 1)) := fun e => take_same5 HI.out (by omega) (by omega) e
        have HF : Hid (L[i]'(by omega) ≠ M[i]'(by omega) → decide (L = M) = false) := fun e => by
          rw [decide_eq_false_iff_not]; intro h; subst h; exact e rfl
        generalize (L[i]'(by omega)) = x at *
        generalize (M[i]'(by omega)) = y at *
        by_cases he : x = y
        · have HE' : Hid _ := HE.out he
          subst he
          clear HE HF HI
          go_wp2_with fail
          go_quiet (fail)
          go_wp2_with fail
          go_roundw
          case rel => exact ⟨i + 1, by go_num, by omega, HE', bdrewN5 hb _⟩
          case measure => simp [intOf]; omega
        · have HF' : Hid _ := HF.out he
          have hne : (x != y) = true := by simpa using he
          clear HE HF he HI
          go_wp2_with fail
          go_quiet (fail)
          go_wp2_with fail
          go_ret
          rw [HF'.out]
          exact ⟨rfl, bdrewN5 hb _⟩
      · have HD : Hid (decide (L = M) = true) := by
          show _ = _
          rw [decide_eq_true_eq]
          have h := HI.out
          rw [List.take_of_length_le (by omega), List.take_of_length_le (by omega)] at h
          exact h
        clear HI
        go_wp2_with fail
        go_ret
        rw [HD.out]
        exact ⟨rfl, hb⟩
  · have hd : decide (L = M) = false := by rw [decide_eq_false_iff_not]; intro h; subst h; omega
    rw [hd]
    have hl' : ¬ (n : Int) = n' := by omega
    go_enter Try.func13, Try.ntmps13
    go_wp2_with fail
    go_ret
    exact ⟨rfl, Below.refl _ _⟩

/-- The text of numbers; none: one is no character. -/
abbrev okI (c : Int) : Prop := 0 ≤ c ∧ isC c.toNat
def putsI (L : List Int) : List UInt8 := L.flatMap chrI
def pPut5 (L : List Int) : List UInt8 × Bool := if ∀ c ∈ L, okI c then (putsI L, true) else ([], false)
theorem chrI_empty (c : Int) : chrI c = [] ↔ ¬ okI c := by
  unfold chrI okI isC
  by_cases h : c < 0 ∨ 1114111 < c ∨ (55296 ≤ c ∧ c ≤ 57343)
  · rw [if_pos h]
    exact ⟨fun _ => by omega, fun _ => rfl⟩
  · rw [if_neg h]
    refine ⟨fun e => ?_, fun e => by omega⟩
    have := chr_length c.toNat
    rw [e] at this
    simp at this
theorem chrI_le (c : Int) : (chrI c).length ≤ 4 := by
  unfold chrI
  split
  · simp
  · exact (chr_length _).2
theorem putsI_take (L : List Int) (i : Nat) (h : i < L.length) : putsI (L.take (i + 1)) = putsI (L.take i) ++ chrI L[i] := by
  unfold putsI
  rw [List.take_add_one, List.getElem?_eq_getElem h, List.flatMap_append]
  simp
theorem putsI_le (L : List Int) : (putsI L).length ≤ 4 * L.length := by
  induction L with
  | nil => simp [putsI]
  | cons c r ih =>
    have := chrI_le c
    unfold putsI at *
    rw [List.flatMap_cons, List.length_append, List.length_cons]
    omega
theorem putsI_z (L : List Nat) (h : ∀ c ∈ L, isC c) : putsI (zL L) = puts L := by
  induction L with
  | nil => rfl
  | cons c r ih =>
    have h1 := ih (fun d hd => h d (by simp [hd]))
    unfold putsI zL at *
    rw [List.map_cons, List.flatMap_cons, h1, chrI_ok c (h c (by simp))]
    rfl

set_option maxRecDepth 10000 in
set_option maxHeartbeats 400000 in
theorem rput5_any (a : Option Addr) (cap b o : Nat) (L : List Int) (w : World) (ha : 0 < L.length → a = some ⟨b, o, none⟩) (hL : RuneAt w b o L) (hs : L.length ≤ 100000) :
    Calls Try.prog 15 #[.slice a L.length cap] w fun e w' => e = .returned (.tuple #[.string ⟨(pPut5 L).1.toArray⟩, .bool (pPut5 L).2]) ∧ Below w.heap.size w w' := by
  have HR : Hid ((∀ i (h : i < L.length), ¬ okI L[i] → pPut5 L = ([], false)) ∧ ((∀ i (h : i < L.length), okI L[i]) → pPut5 L = (putsI L, true))) := by
    constructor
    · intro i h hn
      unfold pPut5
      rw [if_neg (fun hh => hn (hh _ (List.getElem_mem h)))]
    · intro h
      unfold pPut5
      rw [if_pos (fun c hc => by obtain ⟨i, hi, rfl⟩ := List.getElem_of_mem hc; exact h i hi)]
  generalize pPut5 L = R at *
  have HLe : Hid (∀ i, (putsI (L.take i)).length ≤ 400000) := fun i => by
    have h1 := putsI_le (L.take i)
    have h2 : (L.take i).length ≤ L.length := by rw [List.length_take]; omega
    omega
  go_enter Try.func15, Try.ntmps15
  go_wp2_with fail
  go_loopw [4, 5] (fun xv iv wr => ∃ (i : Nat) (X : ByteArray), xv = .string X ∧ iv = .int .i64 i ∧ i ≤ L.length ∧ X.size ≤ 400000 ∧ Hid (X.data.toList = putsI (L.take i)) ∧ Hid (∀ j (h : j < L.length), j < i → okI L[j]) ∧ Below w.heap.size w wr) (fun _ iv _ => L.length - (intOf iv).toNat)
  case atStart => exact ⟨0, ⟨#[]⟩, rfl, rfl, by omega, by decide, by simp [Hid, putsI], fun j _ h => by omega, Below.refl _ _⟩
  case round =>
    obtain ⟨i, X, rfl, rfl, hi, hX, HX, HI, hB⟩ := hrel
    by_cases hlt : i < L.length
    · obtain rfl := ha (by omega)
      obtain ⟨hbl, c0⟩ := hL i hlt
      have hbr : b < wr.heap.size := Nat.lt_of_lt_of_le hbl hB.size
      rw [← (bcell hB).1 b _ hbl] at c0
      have cC := fun (W : World) => char_any L[i] W
      have hz := chrI_le L[i]
      have he := chrI_empty L[i]
      have HT : Hid (putsI (L.take (i + 1)) = X.data.toList ++ chrI L[i]) := by show _ = _; rw [putsI_take L i hlt, HX.out]
      have hln := HLe.out (i + 1)
      rw [HT.out] at hln
      have hN := fun h => HR.out.1 i hlt h
      have hY : okI L[i] → Hid (∀ j (h : j < L.length), j < i + 1 → okI L[j]) := fun h j hj hji => by
        by_cases e : j = i
        · subst e; exact h
        · exact HI.out j hj (by omega)
      have hd : (ByteArray.mk (chrI L[i]).toArray).data.toList = chrI L[i] := rfl
      rw [← hd] at HT hln hz
      have he2 : (ByteArray.mk (chrI L[i]).toArray).toList = [] ↔ ¬ okI L[i] := by
        rw [← he, ByteArray.toList_eq, hd]
      have hz2 : (ByteArray.mk (chrI L[i]).toArray).size ≤ 4 := by
        have : (ByteArray.mk (chrI L[i]).toArray).size = (ByteArray.mk (chrI L[i]).toArray).data.toList.length := by rw [Array.length_toList]; rfl
        omega
      have HK : Hid _ := cC
      clear cC hd he hz HI HX
      generalize ByteArray.mk (chrI L[i]).toArray = Y at *
      have HO : Hid _ := hN
      have HY : Hid _ := hY
      have hq : (okI L[i] ∧ Y.toList.isEmpty = false) ∨ (¬ okI L[i] ∧ Y.toList.isEmpty = true) := by
        by_cases h : okI L[i]
        · refine .inl ⟨h, ?_⟩
          rw [List.isEmpty_eq_false_iff]
          intro e
          exact he2.1 e h
        · exact .inr ⟨h, by rw [he2.2 h]; rfl⟩
      clear hN hY he2
      generalize L[i] = c at *
      rcases hq with ⟨h1, h2⟩ | ⟨h1, h2⟩
      · have HY2 := HY.out h1
        have A1 := fun (W : World) => run_string_add_sum (P := Try.prog) W X Y (by omega)
        have hsz : (X ++ Y).size ≤ 400000 := by
          have : (X ++ Y).size = X.data.toList.length + Y.data.toList.length := by rw [ByteArray.size_append, Array.length_toList, Array.length_toList]; rfl
          rw [List.length_append] at hln
          omega
        clear HO HY h1 hln
        go_wp2_with fail
        refine (HK.out _).mono ?_
        rintro e w1 ⟨rfl, b1⟩
        have B1 := hB.trans (b1.mono hB.size)
        have c1 := ((bcell b1).1 b _ hbr).trans c0
        clear hB b1
        go_wp2_with fail
        refine (HK.out _).mono ?_
        rintro e w2 ⟨rfl, b2⟩
        have B2 := B1.trans (b2.mono B1.size)
        go_wp2_with fail
        go_roundw
        case rel => exact ⟨i + 1, X ++ Y, rfl, by go_num, by omega, hsz, by show _ = _; rw [HT.out, ByteArray.data_append, Array.toList_append], HY2, B2⟩
        case measure => simp [intOf]; omega
      · have HQ : Hid (R = ([], false)) := HO.out h1
        clear HO HY h1
        go_wp2_with fail
        refine (HK.out _).mono ?_
        rintro e w1 ⟨rfl, b1⟩
        have B1 := hB.trans (b1.mono hB.size)
        go_wp2_with fail
        go_ret2
        rw [HQ.out]
        exact ⟨rfl, B1⟩
    · have HQ : Hid (R = (X.data.toList, true)) := by
        have h1 := HR.out.2 (fun j hj => HI.out j hj (by omega))
        have h2 := HX.out
        rw [List.take_of_length_le (by omega)] at h2
        rw [h2]
        exact h1
      clear HI HX HR
      go_wp2_with fail
      go_ret2
      rw [HQ.out]
      exact ⟨rfl, hB⟩

end Go.Proofs.Ytihlpeakddbopaa
