/- The contracts of the document's own Read, Put and Same on characters. -/
import Derived.Test.YtaochgndednamaaDoorURef2
import Derived.Deep.QuietTactic
import Derived.Deep.AppendLies
import Derived.Laws.OwnMore
namespace Go.Proofs.YtaochgndednamaaDoor
open Go.RowKit

theorem Tryd.infoR : (Tryd.prog.info? 21).map (fun i => (i.zero, i.size, i.bytes)) = some (some (.int .i32 0), 1, 4) := by kernel_rfl

/-- Numbers as the cells hold them, and where they lie. -/
def rV (L : List Int) : List Value := L.map fun c => Value.int .i32 c
def RuneAt (w : World) (b o : Nat) (L : List Int) : Prop := ∀ i (h : i < L.length), b < w.heap.size ∧ w.cell? ⟨b, o + i, none⟩ = some (.int .i32 (L[i]'h))
theorem RuneAt.below {w w' : World} {b o : Nat} {L : List Int} (h : RuneAt w b o L) (hb : Below w.heap.size w w') : RuneAt w' b o L := fun i hi => by
  obtain ⟨h1, h2⟩ := h i hi
  exact ⟨Nat.lt_of_lt_of_le h1 hb.size, ((bcell hb).1 b _ h1).trans h2⟩
theorem own_runes {w : World} {B : Nat} {a : Option Addr} {n cap : Nat} {xs : List Int} (h : w.ownsRow B 21 1 (.slice a n cap) n (rV xs)) (hn : xs.length = n) : ∃ gk, (0 < n → a = some ⟨gk, 0, none⟩) ∧ RuneAt w gk 0 xs := by
  rcases h.2 with ⟨hv, h0⟩ | ⟨g, cap', cur, hv, hb, hg, _⟩
  · exact ⟨0, by omega, fun i hi => by omega⟩
  · have ha : a = some ⟨g, 0, none⟩ := by injection hv
    subst ha
    have hlt : g < w.heap.size := (Array.getElem?_eq_some_iff.1 hg).1
    refine ⟨g, fun _ => rfl, fun i hi => ?_⟩
    have c0 := h.cells (g := g) rfl i (.int .i32 xs[i]) (by simp [rV, hi])
    rw [show (⟨g, 0, none⟩ : Addr).add i = ⟨g, 0 + i, none⟩ by unfold Addr.add; split <;> simp_all] at c0
    exact ⟨hlt, c0⟩

theorem bdrewN5 {B : Nat} {a b : World} (h : Below B a b) (n : Nat) : Below B a (b.drewN n) := ⟨h.os, h.tape, h.output, h.size, h.block⟩
theorem gbelow5 {a b : World} (h : Below a.heap.size a b) : a.grownBy b Option.none := ⟨h.os, h.tape, h.output, h.size, fun i hi _ => h.block i hi⟩

def zL (L : List Nat) : List Int := L.map (fun (c : Nat) => (c : Int))
theorem zL_length (L : List Nat) : (zL L).length = L.length := by simp [zL]

/-- What Read leaves. -/
def RGot (w w' : World) (e : Ending) (L : List Int) (n : Nat) : Prop :=
  ∃ (a : Option Addr) (cap gk : Nat), e = .returned (.tuple #[.slice a L.length cap, .int .i64 (n : Int)]) ∧ (0 < L.length → a = some ⟨gk, 0, none⟩) ∧ RuneAt w' gk 0 L ∧ Below w.heap.size w w'

set_option maxRecDepth 10000 in
set_option maxHeartbeats 400000 in
theorem read_any (s : ByteArray) (w : World) (hs : s.size ≤ 100000) :
    Calls Tryd.prog 31 #[.string s] w fun e w' => RGot w w' e (zL (read s.data.toList).1) (read s.data.toList).2 := by
  have hown0 : (w.alloc (.cells #[] 21)).ownsRow w.heap.size 21 1 (.slice (some ⟨w.heap.size, 0, none⟩) 0 0) 0 (rV []) := World.ownsRow_lit w #[] 0 (Nat.le_refl _) (by decide) (by simp)
  have hbel : Below w.heap.size w (w.alloc (.cells #[] 21)) := (Below.refl _ _).alloc (Nat.le_refl _) _
  obtain ⟨i0, hi, hz0, hz1, hz2⟩ := info_parts Tryd.infoR
  obtain ⟨R, hR⟩ : ∃ R, read s.data.toList = R := ⟨_, rfl⟩
  have HR : Hid (read (s.data.toList.drop 0) = R) := by show _ = _; rw [List.drop_zero]; exact hR
  rw [hR]
  clear hR
  go_enter Tryd.func31, Tryd.ntmps31
  go_wp2_with fail
  go_loopw [4, 5] (fun ov av wr => ∃ (n A : Nat) (a : Option Addr) (cap : Nat) (xs : List Nat), ov = .slice a n cap ∧ av = .int .i64 A ∧ wr.ownsRow w.heap.size 21 1 (.slice a n cap) n (rV (zL xs)) ∧ n ≤ A ∧ A ≤ s.size ∧ Below w.heap.size w wr ∧ Hid (xs.length = n ∧ R = (xs ++ (read (s.data.toList.drop A)).1, A + (read (s.data.toList.drop A)).2))) (fun _ av _ => s.size - (intOf av).toNat)
  case atStart => exact ⟨0, 0, _, _, [], rfl, rfl, hown0, by omega, by omega, hbel, rfl, by rw [HR.out]; simp⟩
  case round =>
    clear hown0 hbel HR
    obtain ⟨n, A, a, cap, xs, rfl, rfl, hown, hn, hA, hB, HX⟩ := hrel
    by_cases hlt : A < s.size
    · have hlt' : (A : Int) < s.size := by omega
      have HAt : Hid _ := fun (W : World) => at_any s A W hlt hs
      have hok := dec8_ok (s.data.toList.drop A)
      have hl : (s.data.toList.drop A).length = s.size - A := by rw [List.length_drop, Array.length_toList]; rfl
      have hst := read_stop (s.data.toList.drop A)
      have hgo := read_go (s.data.toList.drop A)
      have hdd : ∀ k, (s.data.toList.drop A).drop k = s.data.toList.drop (A + k) := fun k => by rw [List.drop_drop]
      have hx := HX.out
      rw [hl] at hok
      rw [hdd] at hgo
      generalize dec8 (s.data.toList.drop A) = D at *
      obtain ⟨c, k⟩ := D
      dsimp only at *
      clear HX hl hdd
      by_cases hk : k = 0
      · subst hk
        have HQ : Hid (R = (xs, A) ∧ xs.length = n) := by
          rw [hst rfl] at hx
          exact ⟨by rw [hx.2]; simp, hx.1⟩
        clear hst hgo hok hx
        go_wp2_with fail
        refine (HAt.out _).mono ?_
        rintro e w1 ⟨rfl, b1⟩
        have o1 := hown.kept (gbelow5 b1) (by cases h : (Value.slice a n cap).ownBlock <;> simp)
        have B1 := hB.trans (b1.mono hB.size)
        go_wp2_with fail
        go_ret2
        obtain ⟨hq, hl⟩ := HQ.out
        rw [hq]
        obtain ⟨gk, h1, h2⟩ := own_runes o1 (by rw [zL_length]; exact hl)
        have hlz : (zL xs).length = n := by rw [zL_length]; exact hl
        refine ⟨a, cap, gk, ?_, ?_, h2, B1⟩
        · dsimp only; rw [hlz]; rfl
        · dsimp only; rw [hlz]; exact h1
      · have hk' : ¬ (k : Int) = 0 := by omega
        obtain ⟨d1, d2, _, _⟩ := hok hk
        have HQ : Hid (xs.length = n ∧ R = (xs ++ [c] ++ (read (s.data.toList.drop (A + k))).1, A + k + (read (s.data.toList.drop (A + k))).2)) := by
          rw [hgo hk] at hx
          refine ⟨hx.1, ?_⟩
          rw [hx.2]
          simp [Nat.add_assoc]
        unfold isC at d1
        clear hst hgo hok hx
        go_wp2_with fail
        refine (HAt.out _).mono ?_
        rintro e w1 ⟨rfl, b1⟩
        have o1 := hown.kept (gbelow5 b1) (by cases h : (Value.slice a n cap).ownBlock <;> simp)
        have B1 := hB.trans (b1.mono hB.size)
        have hbk := fun q hq => (o1.lt q hq).1
        clear hown hB b1 HAt
        go_wp2_with (at_builtin; refine wpList_append_lies _ rfl _ _ 64 rfl w.heap.size 21 i0 (.int .i32 0) 1 4 Tryd.underlying64 hi hz0 hz1 hz2 rfl (by decide) _ n (rV (zL xs)) rfl (o1.alloc _) ⟨w1.heap.size, 0, none⟩ 1 1 [.int .i32 (c : Int)] rfl rfl (cell_one_new _ _ _) (by intro u hu; simp at hu; subst hu; rfl) (by decide) (by unfold maxLen; omega) (by omega) (by have := B1.size; simp; omega) _ rfl ?_)
        intro g2 cap2 w2 hown2 hgrow2 _ _
        have B2 : Below w.heap.size w w2 := (B1.alloc B1.size _).grown hgrow2 (by have := B1.size; simp; omega) hbk
        go_wp2_with fail
        go_roundw
        case rel =>
          obtain ⟨q1, q2⟩ := HQ.out
          exact ⟨n + 1, A + k, _, cap2, xs ++ [c], rfl, by go_num, by simpa [zL, rV] using hown2, by omega, by omega, B2, by simp [q1], q2⟩
        case measure => simp [intOf]; omega
    · have HQ : Hid (R = (xs, A) ∧ xs.length = n) := by
        obtain ⟨h1, h2⟩ := HX.out
        rw [drop_end s A (by omega), read_nil] at h2
        exact ⟨by rw [h2]; simp, h1⟩
      clear HX
      go_wp2_with fail
      go_ret2
      obtain ⟨hq, hl⟩ := HQ.out
      rw [hq]
      have hlz : (zL xs).length = n := by rw [zL_length]; exact hl
      obtain ⟨gk, h1, h2⟩ := own_runes hown hlz
      refine ⟨a, cap, gk, ?_, ?_, h2, hB⟩
      · dsimp only; rw [hlz]; rfl
      · dsimp only; rw [hlz]; exact h1

theorem take_same5 {L M : List Int} {i : Nat} (h : L.take i = M.take i) (h1 : i < L.length) (h2 : i < M.length) (e : L[i] = M[i]) : L.take (i + 1) = M.take (i + 1) := by
  rw [List.take_add_one, List.take_add_one, List.getElem?_eq_getElem h1, List.getElem?_eq_getElem h2, h, e]

/-- The text of numbers; none: one is no character. -/
abbrev okI (c : Int) : Prop := 0 ≤ c ∧ isC c.toNat
def putsI (L : List Int) : List UInt8 := L.flatMap chrI
def pPut5 (L : List Int) : List UInt8 × Bool := if ∀ c ∈ L, okI c then (putsI L, true) else ([], false)
theorem chrI_empty (c : Int) : chrI c = [] ↔ ¬ okI c := by
  unfold chrI okI isC
  by_cases h : c < 0 ∨ 1114111 < c ∨ (55296 ≤ c ∧ c ≤ 57343)
  · rw [if_pos h]
    exact ⟨fun _ => by omega, fun _ => rfl⟩
  · rw [if_neg h]
    refine ⟨fun e => ?_, fun e => by omega⟩
    have := chr_length c.toNat
    rw [e] at this
    simp at this
theorem chrI_le (c : Int) : (chrI c).length ≤ 4 := by
  unfold chrI
  split
  · simp
  · exact (chr_length _).2
theorem putsI_take (L : List Int) (i : Nat) (h : i < L.length) : putsI (L.take (i + 1)) = putsI (L.take i) ++ chrI L[i] := by
  unfold putsI
  rw [List.take_add_one, List.getElem?_eq_getElem h, List.flatMap_append]
  simp
theorem putsI_le (L : List Int) : (putsI L).length ≤ 4 * L.length := by
  induction L with
  | nil => simp [putsI]
  | cons c r ih =>
    have := chrI_le c
    unfold putsI at *
    rw [List.flatMap_cons, List.length_append, List.length_cons]
    omega
theorem putsI_z (L : List Nat) (h : ∀ c ∈ L, isC c) : putsI (zL L) = puts L := by
  induction L with
  | nil => rfl
  | cons c r ih =>
    have h1 := ih (fun d hd => h d (by simp [hd]))
    unfold putsI zL at *
    rw [List.map_cons, List.flatMap_cons, h1, chrI_ok c (h c (by simp))]
    rfl

end Go.Proofs.YtaochgndednamaaDoor
