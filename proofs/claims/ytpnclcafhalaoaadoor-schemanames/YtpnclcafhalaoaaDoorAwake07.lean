/- The tables of the package schema, as a world holds them; and the contract of 'awake', which each of the four laws asks first. -/
import Derived.Test.YtpnclcafhalaoaaDoorSTab2
namespace Go.Proofs.YtpnclcafhalaoaaDoor
open Go.RowKit

/-- The four tables. -/
structure Tabs (w : World) : Prop where
  k : TabAt w 0 kindsC
  o : TabAt w 1 oldC
  s : TabAt w 2 spansC
  n : TabAt w 3 namesC

theorem Tabs.below {w w' : World} (h : Tabs w) (hb : Below w.heap.size w w') : Tabs w' := ⟨h.k.below hb, h.o.below hb, h.s.below hb, h.n.below hb⟩
theorem bjoin {B : Nat} {a b c : World} (h : Below B a b) (h2 : Below b.heap.size b c) (hs : B ≤ b.heap.size) : Below B a c := h.trans (h2.mono hs)
theorem balloc {B : Nat} {a b : World} (h : Below B a b) (hs : B ≤ b.heap.size) (o : Obj) : Below B a (b.alloc o) := h.alloc hs o
theorem Tabs.alloc {w : World} (h : Tabs w) (o : Obj) : Tabs (w.alloc o) := h.below ((Below.refl w.heap.size w).alloc (Nat.le_refl _) o)

theorem sp_shape {w w' : World} {e : Ending} {ok : Bool} {L : List Int} {t l m : Int} (n : Nat) (hn : L.length = n) (h : SpIs w w' e ⟨ok, L, t, l, m⟩) : ∃ a cap, e = .returned (.tuple #[.agg #[.slice a n cap, .int .i64 t, .int .i64 l, .int .i64 m], .bool ok]) ∧ Ints w' w.heap.size (.slice a n cap) L ∧ Below w.heap.size w w' := by
  subst hn
  obtain ⟨v, rfl, hI, hB⟩ := h
  obtain ⟨a, cap, rfl⟩ := own_shape7 hI
  exact ⟨a, cap, rfl, hI, hB⟩
theorem Ints.below {w w' : World} {B : Nat} {v : Value} {l : List Int} (h : Ints w B v l) (hb : Below w.heap.size w w') : Ints w' B v l := own_below h hb (Nat.le_refl _)
theorem Ints.alloc {w : World} {B : Nat} {v : Value} {l : List Int} (h : Ints w B v l) (o : Obj) : Ints (w.alloc o) B v l := Ints.below h ((Below.refl w.heap.size w).alloc (Nat.le_refl _) o)
theorem Ints.four {w : World} {B : Nat} {a : Option Addr} {cap : Nat} {x y z t : Int} (h : Ints w B (.slice a 4 cap) [x, y, z, t]) : ∃ g, a = some ⟨g, 0, none⟩ ∧ g < w.heap.size ∧ w.cell? ⟨g, 3, none⟩ = some (.int .i64 t) := by
  rcases h.2 with ⟨_, h2⟩ | ⟨g, cap', cur, e, h1, h2, h3⟩
  · simp at h2
  · simp only [Value.slice.injEq] at e
    obtain ⟨rfl, _, rfl⟩ := e
    exact ⟨g, rfl, (Array.getElem?_eq_some_iff.1 h2).1, World.ownsRow.cellAt h 3 (by simp)⟩

theorem new_c (k : Int) (S : Sp) (w : World) (hT : TabAt w 0 kindsC) (h : newSp k = S) : Calls Tryd.prog 8 #[.int .i64 k] w fun e w' => SpIs w w' e S := h ▸ new_any k w hT
theorem old_c (k : Int) (S : Sp) (w : World) (hT : TabAt w 1 oldC) (h : oldSp k = S) : Calls Tryd.prog 10 #[.int .i64 k] w fun e w' => SpIs w w' e S := h ▸ old_any k w hT
theorem in_c (c n : Int) (b : Bool) (w : World) (hT : TabAt w 2 spansC) (h1 : -9223372036854775808 ≤ n) (h2 : n ≤ 9223372036854775807) (h : in7 c n = b) : Calls Tryd.prog 12 #[.int .i64 c, .int .i64 n] w fun e w' => e = .returned (.bool b) ∧ w' = w := h ▸ in_any c n w hT h1 h2
theorem name_c (k : Int) (s : ByteArray) (w : World) (hT : TabAt w 3 namesC) (h : name7 k = s) : Calls Tryd.prog 16 #[.int .i64 k] w fun e w' => e = .returned (.string s) ∧ w' = w := h ▸ name_any k w hT
theorem kind_c (s : ByteArray) (k : Nat) (b : Bool) (w : World) (hT : TabAt w 3 namesC) (h : kind7 s = k) (hb : decide (k ≠ 0) = b) : Calls Tryd.prog 15 #[.string s] w fun e w' => e = .returned (.tuple #[.int .i64 (k : Nat), .bool b]) ∧ w' = w := by
  subst h; subst hb; exact kind_any s w hT

set_option maxRecDepth 10000 in
set_option maxHeartbeats 400000 in
theorem awake_any (w : World) (hT : Tabs w) :
    Calls Tryd.prog 7 #[] w fun e w' => e = .returned (.bool true) ∧ Below w.heap.size w w' := by
  have HT : Hid _ := hT
  clear hT
  go_enter Tryd.func7, Tryd.ntmps7
  go_wp2_with fail
  refine (new_c 7 ⟨true, [4, 4, 4, 5], 0, 0, 0⟩ w HT.out.k rfl).mono ?_
  rintro e w1 h1
  obtain ⟨a1, p1, rfl, I1, B1⟩ := sp_shape 4 rfl h1
  obtain ⟨g1, rfl, l1, d1⟩ := Ints.four I1
  have T1 := HT.out.below B1
  clear h1 HT I1
  go_wp2_with fail
  refine (new_c 9 noSp _ (T1.alloc _).k rfl).mono ?_
  rintro e w2 h2
  obtain ⟨a2, p2, rfl, -, B2⟩ := sp_shape 0 rfl h2
  have T2 := (T1.alloc _).below B2
  have A2 := (AtN.new w1 25 _).belowAll B2
  have d2 : w2.cell? ⟨g1, 3, none⟩ = some (.int .i64 5) := (B2.cell (p := ⟨g1, 3, none⟩) (by simp; omega)).trans ((((Below.refl w1.heap.size w1).alloc (Nat.le_refl _) _).cell (p := ⟨g1, 3, none⟩) l1).trans d1)
  have l2 : g1 < w2.heap.size := by have := B2.size; simp at this; omega
  have B2' := bjoin (balloc B1 B1.size _) B2 (by have := B1.size; simp; omega)
  clear h2 T1 B2 B1 d1 l1
  go_wp2_with fail
  refine (old_c 2 ⟨true, [2, 2, 2, 2], 0, 1, 1⟩ _ (T2.alloc _).o rfl).mono ?_
  rintro e w3 h3
  obtain ⟨a3, p3, rfl, -, B3⟩ := sp_shape 4 rfl h3
  have T3 := (T2.alloc _).below B3
  have A3 := (A2.alloc _).belowAll B3
  have d3 : w3.cell? ⟨g1, 3, none⟩ = some (.int .i64 5) := (B3.cell (p := ⟨g1, 3, none⟩) (by simp; omega)).trans ((((Below.refl w2.heap.size w2).alloc (Nat.le_refl _) _).cell (p := ⟨g1, 3, none⟩) l2).trans d2)
  have l3 : g1 < w3.heap.size := by have := B3.size; simp at this; omega
  have B3' := bjoin (balloc B2' B2'.size _) B3 (by have := B2'.size; simp; omega)
  clear h3 T2 B3 B2' d2 l2 A2
  have T4 := T3.alloc (.cells #[.slice a3 4 p3, .int .i64 0, .int .i64 1, .int .i64 1] 25)
  have A4 := A3.alloc (.cells #[.slice a3 4 p3, .int .i64 0, .int .i64 1, .int .i64 1] 25)
  have N4 := AtN.new w3 25 #[.slice a3 4 p3, .int .i64 0, .int .i64 1, .int .i64 1]
  have d4 := ((((Below.refl w3.heap.size w3).alloc (Nat.le_refl _) (.cells #[.slice a3 4 p3, .int .i64 0, .int .i64 1, .int .i64 1] 25)).cell (p := ⟨g1, 3, none⟩) l3).trans d3)
  have B4 := balloc B3' B3'.size (.cells #[.slice a3 4 p3, .int .i64 0, .int .i64 1, .int .i64 1] 25)
  clear A3 d3 l3 B3' T3
  go_wp2_with fail
  generalize w3.alloc (.cells #[.slice a3 4 p3, .int .i64 0, .int .i64 1, .int .i64 1] 25) = W at *
  refine (kind_c ⟨#[115, 99, 97, 108, 101]⟩ 8 true W T4.n (by decide +kernel) rfl).mono ?_
  rintro e w5 ⟨rfl, rfl⟩
  have c0 : w5.cell? ⟨w1.heap.size, 0, none⟩ = some (.slice (some ⟨g1, 0, none⟩) 4 p1) := A4.cell 0
  have c1 : w5.cell? ⟨w3.heap.size, 0, none⟩ = some (.slice a3 4 p3) := N4.cell 0
  have c2 : w5.cell? ⟨w3.heap.size, 3, none⟩ = some (.int .i64 1) := N4.cell 3
  have HT : Hid _ := T4
  clear A4 N4 T4
  go_wp2_with fail
  refine (in_c 3 (-1) false w5 HT.out.s (by omega) (by omega) (by decide)).mono ?_
  rintro e w6 ⟨rfl, rfl⟩
  go_wp2_with fail
  refine (in_c 1 (-1) true w6 HT.out.s (by omega) (by omega) (by decide)).mono ?_
  rintro e w7 ⟨rfl, rfl⟩
  go_wp2_with fail
  refine (name_c 3 ⟨#[98, 111, 120]⟩ w7 HT.out.n rfl).mono ?_
  rintro e w8 ⟨rfl, rfl⟩
  go_wp2_with fail
  go_ret
  exact ⟨rfl, B4⟩

end Go.Proofs.YtpnclcafhalaoaaDoor
