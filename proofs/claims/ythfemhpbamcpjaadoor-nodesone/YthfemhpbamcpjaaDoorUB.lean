/- The contracts of the document's own answers on characters: Char, At, Read, Put, Same. -/
import Derived.Test.YthfemhpbamcpjaaDoorRows
import Derived.Test.YthfemhpbamcpjaaDoorUA
import Derived.Test.YthfemhpbamcpjaaDoorGA
import Derived.Lib.QuietBelow
import Derived.BigQuiet
import Derived.Deep.QuietTactic
import Derived.Deep.AppendLies
import Derived.Laws.OwnMore
import Derived.Lib.OthersKept
import Derived.Laws.RangeAny
namespace Go.Proofs.YthfemhpbamcpjaaDoor
open Go.RowKit

/-- A number's bytes; none: it is no character. -/
def chrI (c : Int) : List UInt8 := if c < 0 ∨ 1114111 < c ∨ (55296 ≤ c ∧ c ≤ 57343) then [] else chr c.toNat
theorem chrI_no (c : Int) (h : c < 0 ∨ 1114111 < c ∨ (55296 ≤ c ∧ c ≤ 57343)) : chrI c = [] := if_pos h
theorem chrI_ok (c : Nat) (h : isC c) : chrI (c : Int) = chr c := by
  unfold chrI isC at *
  rw [if_neg (by omega), Int.toNat_natCast]

/-- A new row of bytes turned into a text. -/
theorem conv_new {P : Program} (w : World) (l : List UInt8) (src dst e : TypeId) (hs : P.underlying src = some (.slice e)) (he : P.underlying e = some (.int .u8)) (hd : P.underlying dst = some .string) (cs : Array Value) (hc : cs.toList = bV l) (n : Nat) (hn : l.length = n) :
    (convert src dst (.slice (some ⟨w.heap.size, 0, none⟩) n n)).run P (w.alloc (.cells cs e)) = .ok (.string ⟨l.toArray⟩) (w.alloc (.cells cs e)) := by
  subst hn
  refine run_convert_bytes_back _ src dst e ⟨w.heap.size, 0, none⟩ l.length l hs he hd ?_
  intro j hj
  have hadd : (⟨w.heap.size, 0, none⟩ : Addr).add j = ⟨w.heap.size, j, none⟩ := by unfold Addr.add; split <;> simp_all
  rw [hadd, cell_of_row _ w.heap.size j _ e (0, 0) (heap_alloc_new w _), ← Array.getElem?_toList, hc]
  simp [bV, hj]

/-- What At reckons out of so many bytes. -/
def sub8 (size : Nat) : Int := if size = 2 then 192 else if size = 3 then 224 else if size = 4 then 240 else 0
def nn (l : List UInt8) (size : Nat) : Nat → Int
  | 0 => 0
  | 1 => (at8 l 0 : Int) - sub8 size
  | j + 2 => 64 * nn l size (j + 1) + (at8 l (j + 1) : Int) - 128

theorem nn_range (l : List UInt8) (size : Nat) : (-240 ≤ nn l size 1 ∧ nn l size 1 ≤ 255) ∧ (-20000 ≤ nn l size 2 ∧ nn l size 2 ≤ 20000) ∧ (-1300000 ≤ nn l size 3 ∧ nn l size 3 ≤ 1300000) ∧ (-90000000 ≤ nn l size 4 ∧ nn l size 4 ≤ 90000000) := by
  have b0 := at8_lt l 0
  have b1 := at8_lt l 1
  have b2 := at8_lt l 2
  have b3 := at8_lt l 3
  have hs : 0 ≤ sub8 size ∧ sub8 size ≤ 240 := by unfold sub8; repeat' split <;> omega
  have e1 : nn l size 1 = (at8 l 0 : Int) - sub8 size := rfl
  have e2 : nn l size 2 = 64 * nn l size 1 + (at8 l 1 : Int) - 128 := rfl
  have e3 : nn l size 3 = 64 * nn l size 2 + (at8 l 2 : Int) - 128 := rfl
  have e4 : nn l size 4 = 64 * nn l size 3 + (at8 l 3 : Int) - 128 := rfl
  omega

theorem nn_of (l : List UInt8) (c n : Nat) (h : isC c) (hn : n ≤ l.length) (he : chr c = l.take n) : nn l n n = (c : Int) := by
  have hl := congrArg List.length he
  rw [List.length_take, Nat.min_eq_left hn] at hl
  have hg : ∀ k (hk : k < (chr c).length), at8 l k = ((chr c)[k]).toNat := fun k hk => by
    have h2 : (chr c)[k] = (l.take n)[k]'(by rw [← he]; exact hk) := by simp [he]
    rw [h2, List.getElem_take]
    unfold at8
    rw [List.getD_eq_getElem?_getD, List.getElem?_eq_getElem (by omega)]
    rfl
  obtain ⟨h1, h2⟩ := h
  have e1 : nn l n 1 = (at8 l 0 : Int) - sub8 n := rfl
  have e2 : nn l n 2 = 64 * nn l n 1 + (at8 l 1 : Int) - 128 := rfl
  have e3 : nn l n 3 = 64 * nn l n 2 + (at8 l 2 : Int) - 128 := rfl
  have e4 : nn l n 4 = 64 * nn l n 3 + (at8 l 3 : Int) - 128 := rfl
  by_cases c1 : c < 128
  · have hc : chr c = [b8 c] := by unfold chr; rw [if_pos c1]
    simp only [hc] at hg hl
    have g0 := hg 0 (by simp)
    simp only [List.getElem_cons_zero, b8_toNat c (by omega)] at g0
    obtain rfl : n = 1 := by simp at hl; omega
    rw [e1, g0]
    rfl
  by_cases c2 : c < 2048
  · have hc : chr c = [b8 (192 + c / 64), b8 (128 + c % 64)] := by unfold chr; rw [if_neg c1, if_pos c2]
    simp only [hc] at hg hl
    have g0 := hg 0 (by simp)
    have g1 := hg 1 (by simp)
    simp only [List.getElem_cons_zero, List.getElem_cons_succ, b8_toNat (192 + c / 64) (by omega), b8_toNat (128 + c % 64) (by omega)] at g0 g1
    obtain rfl : n = 2 := by simp at hl; omega
    rw [e2, e1, g0, g1]
    show 64 * (((192 + c / 64 : Nat) : Int) - 192) + _ - 128 = _
    omega
  by_cases c3 : c < 65536
  · have hc : chr c = [b8 (224 + c / 4096), b8 (128 + c / 64 % 64), b8 (128 + c % 64)] := by unfold chr; rw [if_neg c1, if_neg c2, if_pos c3]
    simp only [hc] at hg hl
    have g0 := hg 0 (by simp)
    have g1 := hg 1 (by simp)
    have g2 := hg 2 (by simp)
    simp only [List.getElem_cons_zero, List.getElem_cons_succ, b8_toNat (224 + c / 4096) (by omega), b8_toNat (128 + c / 64 % 64) (by omega), b8_toNat (128 + c % 64) (by omega)] at g0 g1 g2
    obtain rfl : n = 3 := by simp at hl; omega
    rw [e3, e2, e1, g0, g1, g2]
    show 64 * (64 * (((224 + c / 4096 : Nat) : Int) - 224) + _ - 128) + _ - 128 = _
    omega
  · have hc : chr c = [b8 (240 + c / 262144), b8 (128 + c / 4096 % 64), b8 (128 + c / 64 % 64), b8 (128 + c % 64)] := by unfold chr; rw [if_neg c1, if_neg c2, if_neg c3]
    simp only [hc] at hg hl
    have g0 := hg 0 (by simp)
    have g1 := hg 1 (by simp)
    have g2 := hg 2 (by simp)
    have g3 := hg 3 (by simp)
    simp only [List.getElem_cons_zero, List.getElem_cons_succ, b8_toNat (240 + c / 262144) (by omega), b8_toNat (128 + c / 4096 % 64) (by omega), b8_toNat (128 + c / 64 % 64) (by omega), b8_toNat (128 + c % 64) (by omega)] at g0 g1 g2 g3
    obtain rfl : n = 4 := by simp at hl; omega
    rw [e4, e3, e2, e1, g0, g1, g2, g3]
    show 64 * (64 * (64 * (((240 + c / 262144 : Nat) : Int) - 240) + _ - 128) + _ - 128) + _ - 128 = _
    omega

/-- The question that At asks of each size. -/
theorem at_asks (l : List UInt8) (n : Nat) (h1 : 1 ≤ n) (hn : n ≤ l.length) : (0 ≤ nn l n n ∧ nn l n n ≤ 1114111 ∧ chrI (nn l n n) = l.take n) ↔ (dec8 l).2 = n := by
  constructor
  · rintro ⟨a1, a2, a3⟩
    obtain ⟨c, hc⟩ := Int.eq_ofNat_of_zero_le a1
    rw [hc] at a2 a3
    by_cases hi : isC c
    · rw [chrI_ok c hi] at a3
      rw [dec8_take l c n hi hn a3]
    · exfalso
      rw [chrI_no _ (by unfold isC at hi; omega)] at a3
      have := congrArg List.length a3
      rw [List.length_take, List.length_nil] at this
      omega
  · intro h
    obtain ⟨d1, d2, d3, _⟩ := dec8_ok l (by omega)
    rw [h] at d3
    have e := nn_of l _ n d1 hn d3
    rw [e, chrI_ok _ d1, d3]
    unfold isC at d1
    exact ⟨by omega, by omega, rfl⟩
theorem at_val (l : List UInt8) (n : Nat) (h1 : 1 ≤ n) (hn : n ≤ l.length) (h : (dec8 l).2 = n) : nn l n n = ((dec8 l).1 : Int) := by
  obtain ⟨d1, d2, d3, _⟩ := dec8_ok l (by omega)
  rw [h] at d3
  exact nn_of l _ n d1 hn d3

end Go.Proofs.YthfemhpbamcpjaaDoor
/- The contract of the document's own At: which character stands at a place of a text. -/
namespace Go.Proofs.YthfemhpbamcpjaaDoor
open Go.RowKit

theorem dec8_four (l : List UInt8) : (dec8 l).2 ≤ 4 := by
  by_cases h : (dec8 l).2 = 0
  · omega
  · obtain ⟨_, _, _, d4⟩ := dec8_ok l h
    have := chr_length (dec8 l).1
    omega
theorem w64 (n : Nat) (h : n < 256) : wrap64 (n : Int) = n := by unfold wrap64; omega

theorem at8_is (s : ByteArray) (a k : Nat) (h : a + k < s.size) : at8 (s.data.toList.drop a) k = s[a + k].toNat := by
  rw [at8_drop s a k h]
  simp [ByteArray.get!, getElem!_pos, h]
  rfl

theorem take_ext (s : ByteArray) (a n : Nat) : (s.extract a (a + n)).data.toList = (s.data.toList.drop a).take n := by
  rw [Lib.extract_data, show a + n - a = n by omega]

end Go.Proofs.YthfemhpbamcpjaaDoor
/- The contracts of the document's own Read, Put and Same on characters. -/
namespace Go.Proofs.YthfemhpbamcpjaaDoor
open Go.RowKit

theorem Tryd.infoR : (Tryd.prog.info? 21).map (fun i => (i.zero, i.size, i.bytes)) = some (some (.int .i32 0), 1, 4) := by kernel_rfl

/-- Numbers as the cells hold them, and where they lie. -/
def rV (L : List Int) : List Value := L.map fun c => Value.int .i32 c
def RuneAt (w : World) (b o : Nat) (L : List Int) : Prop := ∀ i (h : i < L.length), b < w.heap.size ∧ w.cell? ⟨b, o + i, none⟩ = some (.int .i32 (L[i]'h))
theorem RuneAt.below {w w' : World} {b o : Nat} {L : List Int} (h : RuneAt w b o L) (hb : Below w.heap.size w w') : RuneAt w' b o L := fun i hi => by
  obtain ⟨h1, h2⟩ := h i hi
  exact ⟨Nat.lt_of_lt_of_le h1 hb.size, ((bcell hb).1 b _ h1).trans h2⟩
theorem own_runes {w : World} {B : Nat} {a : Option Addr} {n cap : Nat} {xs : List Int} (h : w.ownsRow B 21 1 (.slice a n cap) n (rV xs)) (hn : xs.length = n) : ∃ gk, (0 < n → a = some ⟨gk, 0, none⟩) ∧ RuneAt w gk 0 xs := by
  rcases h.2 with ⟨hv, h0⟩ | ⟨g, cap', cur, hv, hb, hg, _⟩
  · exact ⟨0, by omega, fun i hi => by omega⟩
  · have ha : a = some ⟨g, 0, none⟩ := by injection hv
    subst ha
    have hlt : g < w.heap.size := (Array.getElem?_eq_some_iff.1 hg).1
    refine ⟨g, fun _ => rfl, fun i hi => ?_⟩
    have c0 := h.cells (g := g) rfl i (.int .i32 xs[i]) (by simp [rV, hi])
    rw [show (⟨g, 0, none⟩ : Addr).add i = ⟨g, 0 + i, none⟩ by unfold Addr.add; split <;> simp_all] at c0
    exact ⟨hlt, c0⟩

theorem bdrewN5 {B : Nat} {a b : World} (h : Below B a b) (n : Nat) : Below B a (b.drewN n) := ⟨h.os, h.tape, h.output, h.size, h.block⟩
theorem gbelow5 {a b : World} (h : Below a.heap.size a b) : a.grownBy b Option.none := ⟨h.os, h.tape, h.output, h.size, fun i hi _ => h.block i hi⟩

def zL (L : List Nat) : List Int := L.map (fun (c : Nat) => (c : Int))
theorem zL_length (L : List Nat) : (zL L).length = L.length := by simp [zL]

/-- What Read leaves. -/
def RGot (w w' : World) (e : Ending) (L : List Int) (n : Nat) : Prop :=
  ∃ (a : Option Addr) (cap gk : Nat), e = .returned (.tuple #[.slice a L.length cap, .int .i64 (n : Int)]) ∧ (0 < L.length → a = some ⟨gk, 0, none⟩) ∧ RuneAt w' gk 0 L ∧ Below w.heap.size w w'

theorem take_same5 {L M : List Int} {i : Nat} (h : L.take i = M.take i) (h1 : i < L.length) (h2 : i < M.length) (e : L[i] = M[i]) : L.take (i + 1) = M.take (i + 1) := by
  rw [List.take_add_one, List.take_add_one, List.getElem?_eq_getElem h1, List.getElem?_eq_getElem h2, h, e]

/-- The text of numbers; none: one is no character. -/
abbrev okI (c : Int) : Prop := 0 ≤ c ∧ isC c.toNat
def putsI (L : List Int) : List UInt8 := L.flatMap chrI
def pPut5 (L : List Int) : List UInt8 × Bool := if ∀ c ∈ L, okI c then (putsI L, true) else ([], false)
theorem chrI_empty (c : Int) : chrI c = [] ↔ ¬ okI c := by
  unfold chrI okI isC
  by_cases h : c < 0 ∨ 1114111 < c ∨ (55296 ≤ c ∧ c ≤ 57343)
  · rw [if_pos h]
    exact ⟨fun _ => by omega, fun _ => rfl⟩
  · rw [if_neg h]
    refine ⟨fun e => ?_, fun e => by omega⟩
    have := chr_length c.toNat
    rw [e] at this
    simp at this
theorem chrI_le (c : Int) : (chrI c).length ≤ 4 := by
  unfold chrI
  split
  · simp
  · exact (chr_length _).2
theorem putsI_take (L : List Int) (i : Nat) (h : i < L.length) : putsI (L.take (i + 1)) = putsI (L.take i) ++ chrI L[i] := by
  unfold putsI
  rw [List.take_add_one, List.getElem?_eq_getElem h, List.flatMap_append]
  simp
theorem putsI_le (L : List Int) : (putsI L).length ≤ 4 * L.length := by
  induction L with
  | nil => simp [putsI]
  | cons c r ih =>
    have := chrI_le c
    unfold putsI at *
    rw [List.flatMap_cons, List.length_append, List.length_cons]
    omega
theorem putsI_z (L : List Nat) (h : ∀ c ∈ L, isC c) : putsI (zL L) = puts L := by
  induction L with
  | nil => rfl
  | cons c r ih =>
    have h1 := ih (fun d hd => h d (by simp [hd]))
    unfold putsI zL at *
    rw [List.map_cons, List.flatMap_cons, h1, chrI_ok c (h c (by simp))]
    rfl

end Go.Proofs.YthfemhpbamcpjaaDoor
/- The contracts of utf's First, Count, Runes and Put (over a range over a text), in the plain mathematics' words. -/
namespace Go.Proofs.YthfemhpbamcpjaaDoor
open Go.RowKit

def pFirst (l : List UInt8) : Int := if (read l).2 = l.length then -1 else ((read l).2 : Int)
def pCount (l : List UInt8) : Int := if (read l).2 = l.length then ((read l).1.length : Int) else -1
def pRunes (l : List UInt8) : List Int := if (read l).2 = l.length then zL (read l).1 else []

theorem chr_bad : chr 65533 = [239, 191, 189] := by decide

/-- What the language's reading of the next character says of the plain one's. -/
theorem next_is (l : List UInt8) (d : Nat × Nat) (hd : d = if (dec8 l).2 = 0 then (65533, 1) else dec8 l) :
    (d.1 = 65533 ∧ ¬ l.take 3 = [239, 191, 189] ∧ (dec8 l).2 = 0) ∨ ((dec8 l).2 ≠ 0 ∧ d = dec8 l ∧ (d.1 = 65533 → l.take 3 = [239, 191, 189])) := by
  by_cases h : (dec8 l).2 = 0
  · left
    rw [if_pos h] at hd
    refine ⟨by rw [hd], fun e => ?_, h⟩
    have hl : 3 ≤ l.length := by
      have := congrArg List.length e
      simp at this
      omega
    have := dec8_take l 65533 3 (by unfold isC; omega) hl (by rw [chr_bad, e])
    rw [this] at h
    simp at h
  · right
    rw [if_neg h] at hd
    refine ⟨h, hd, fun e => ?_⟩
    obtain ⟨_, _, h3, h4⟩ := dec8_ok l h
    rw [← hd] at h3 h4
    rw [e, chr_bad] at h3 h4
    simp at h4
    rw [← h4] at h3
    exact h3.symm

/-- The text of the replacement character. -/
def badT : ByteArray := ⟨#[239, 191, 189]⟩

theorem hasp2_any (s : ByteArray) (w : World) (hs : s.size ≤ 1000000) :
    Calls Tryd.prog 85 #[.string s, .string badT] w fun e w' => e = .returned (.bool (decide (s.data.toList.take 3 = [239, 191, 189]))) ∧ w' = w := by
  have hb : badT.size = 3 := rfl
  have HB : Hid (badT.data.toList = [239, 191, 189]) := rfl
  generalize badT = p at *
  go_enter Tryd.func85, Tryd.ntmps85
  by_cases h : 3 ≤ s.size
  · go_wp2_with fail
    go_ret
    refine ⟨?_, rfl⟩
    have hx : ((s.extract 0 3).toList == p.toList) = decide (s.data.toList.take 3 = [239, 191, 189]) := by
      rw [ByteArray.toList_eq, ByteArray.toList_eq, HB.out, Lib.extract_data, List.drop_zero, Bool.beq_eq_decide_eq]
    rw [← hx]
    rfl
  · go_wp2_with fail
    go_ret
    have h : ¬ (s.data.toList.take 3 = [239, 191, 189]) := fun e => by
      have := congrArg List.length e
      rw [List.length_take, Array.length_toList] at this
      have h2 : s.data.size = s.size := rfl
      simp at this
      omega
    rw [decide_eq_false h]
    exact ⟨rfl, rfl⟩

theorem hasp_any (s : ByteArray) (w : World) (hs : s.size ≤ 1000000) :
    Calls Tryd.prog 73 #[.string s, .string badT] w fun e w' => e = .returned (.bool (decide (s.data.toList.take 3 = [239, 191, 189]))) ∧ w' = w := by
  have HS : Hid _ := fun (W : World) => hasp2_any s W hs
  generalize decide (s.data.toList.take 3 = [239, 191, 189]) = d at *
  go_enter Tryd.func73, Tryd.ntmps73
  go_wp2_with fail
  refine (HS.out _).mono ?_
  rintro e w1 ⟨rfl, rfl⟩
  go_wp2_with fail
  go_ret
  exact ⟨rfl, rfl⟩

set_option maxRecDepth 10000 in
set_option maxHeartbeats 400000 in
theorem first_any (s : ByteArray) (w : World) (hs : s.size ≤ 1000000) :
    Calls Tryd.prog 52 #[.string s] w fun e w' => e = .returned (.int .i64 (pFirst s.data.toList)) ∧ Below w.heap.size w w' := by
  have hsz : s.data.toList.length = s.size := by rw [Array.length_toList]; rfl
  obtain ⟨R, hR⟩ : ∃ R, read s.data.toList = R := ⟨_, rfl⟩
  have HR : Hid (read (s.data.toList.drop 0) = R) := by show _ = _; rw [List.drop_zero]; exact hR
  obtain ⟨V, HV⟩ : ∃ V, Hid (pFirst s.data.toList = V ∧ V = if R.2 = s.size then -1 else (R.2 : Int)) := ⟨_, rfl, by unfold pFirst; rw [hR, hsz]⟩
  rw [HV.out.1]
  clear hR
  go_enter Tryd.func52, Tryd.ntmps52
  go_wp2_with fail
  go_loopw [] (fun wr => ∃ A : Nat, wr.heap[w.heap.size]? = some (.stringIter s A) ∧ A ≤ s.size ∧ Below w.heap.size w wr ∧ Hid (R.2 = A + (read (s.data.toList.drop A)).2)) (fun wr => s.size - wr.iterPos w.heap.size)
  case atStart => exact ⟨0, World.iter_heap w s 0, by omega, (Below.refl _ _).alloc (Nat.le_refl _) _, by show _ = _; rw [HR.out]; simp⟩
  case round =>
    clear HR
    obtain ⟨A, hit, hA, hB, HX⟩ := hrel
    by_cases hlt : A < s.size
    · have hnx : ∀ ty, (Instr.next (.pointer (some ⟨w.heap.size, 0, none⟩)) true ty).run Tryd.prog wr = _ := fun ty => Lib.run_next_any_at wr w.heap.size s A ty hit hlt
      have hd := decode_is s A hlt
      have hnn := next_is _ _ hd
      have hd1 := decode_le s A
      have hgo := read_go (s.data.toList.drop A)
      have hst := read_stop (s.data.toList.drop A)
      have hok := dec8_ok (s.data.toList.drop A)
      have hl : (s.data.toList.drop A).length = s.size - A := by rw [List.length_drop, hsz]
      have hdd : ∀ k, (s.data.toList.drop A).drop k = s.data.toList.drop (A + k) := fun k => by rw [List.drop_drop]
      have hx := HX.out
      rw [hl] at hok
      rw [hdd] at hgo
      have hxl : (s.extract A s.size).data.toList = s.data.toList.drop A := by rw [Lib.extract_data, List.take_of_length_le (by rw [List.length_drop, hsz]; omega)]
      have HS : Hid _ := fun (W : World) => hasp_any (s.extract A s.size) W (by rw [ByteArray.size_extract]; omega)
      rw [hxl] at HS
      clear hxl
      generalize Utf8.decode s A = D at *
      obtain ⟨c, k⟩ := D
      have hit2 := Lib.iterAt_heap wr w.heap.size s A (A + k) hit
      have hB2 := Lib.below_iterAt hB (k := w.heap.size) (Nat.le_refl _) s (A + k)
      have HI : Hid (wr.iterPos w.heap.size = A ∧ (wr.iterAt w.heap.size s (A + k)).iterPos w.heap.size = A + k) := ⟨by simp only [World.iterPos, hit], by simp only [World.iterPos, hit2]⟩
      dsimp only at *
      clear HX hl hdd hit hd
      rcases hnn with ⟨n1, n2, n3⟩ | ⟨n1, n2, n3⟩
      · subst n1
        have HQ : Hid (R.2 = A) := by show _ = _; rw [hst n3] at hx; simpa using hx
        have HS2 : Hid _ := fun (W : World) => (decide_eq_false n2) ▸ HS.out W
        clear hst hgo hok hx n3 hB n2 HS hit2
        go_wp2_with fail
        refine (HS2.out _).mono ?_
        rintro e w1 ⟨rfl, rfl⟩
        go_wp2_with fail
        go_ret
        have hq := HQ.out
        have hv := HV.out.2
        rw [if_neg (by omega), hq] at hv
        rw [hv]
        exact ⟨rfl, hB2⟩
      · obtain ⟨d1, d2, _, _⟩ := hok n1
        rw [← n2] at d1 d2 hgo n1
        have HQ : Hid (R.2 = A + k + (read (s.data.toList.drop (A + k))).2) := by
          show _ = _
          rw [hgo n1] at hx
          simpa [Nat.add_assoc] using hx
        dsimp only at *
        unfold isC at d1
        clear hst hgo hok hx n2 hB
        by_cases hc : c = 65533
        · have HS2 : Hid _ := fun (W : World) => (decide_eq_true (n3 hc)) ▸ HS.out W
          subst hc
          clear HS n3
          go_wp2_with fail
          refine (HS2.out _).mono ?_
          rintro e w1 ⟨rfl, rfl⟩
          go_wp2_with fail
          go_roundw
          case rel => exact ⟨A + k, hit2, by omega, hB2, HQ.out⟩
          case measure => rw [HI.out.1, HI.out.2]; omega
        · have hc' : ¬ (c : Int) = 65533 := by omega
          clear HS n3
          go_wp2_with fail
          go_roundw
          case rel => exact ⟨A + k, hit2, by omega, hB2, HQ.out⟩
          case measure => rw [HI.out.1, HI.out.2]; omega
    · have hnx : ∀ ty, (Instr.next (.pointer (some ⟨w.heap.size, 0, none⟩)) true ty).run Tryd.prog wr = _ := fun ty => Lib.run_next_end_at wr w.heap.size s A ty hit hlt
      have HQ : Hid (R.2 = s.size) := by
        have h2 := HX.out
        rw [drop_end s A (by omega), read_nil] at h2
        show _ = _
        simp at h2
        omega
      clear HX hit
      go_wp2_with fail
      go_ret
      have hv := HV.out.2
      rw [if_pos HQ.out] at hv
      rw [hv]
      exact ⟨rfl, hB⟩

end Go.Proofs.YthfemhpbamcpjaaDoor
