/- Small facts on bytes in memory that hold over any program: a row of bytes that a call owns, and the text that it is turned into. -/
import Derived.WalkKit
import Derived.WalkSpells
import Derived.WalkLawsBesides
import Derived.Laws.IdiomStrings
namespace Go.Proofs.YtcdpjaaiojpelaaDoor
open Go.RowKit

/-- Bytes as the cells hold them. -/
def bV (l : List UInt8) : List Value := l.map fun c => Value.int .u8 (c.toNat : Int)

theorem bV_length (l : List UInt8) : (bV l).length = l.length := by simp [bV]
theorem bV_append (a b : List UInt8) : bV (a ++ b) = bV a ++ bV b := by simp [bV]
theorem bV_one (k : Nat) (h : k < 256) : bV [UInt8.ofNat k] = [Value.int .u8 (k : Int)] := by
  simp [bV]; omega
theorem bV_snoc (l : List UInt8) (k : Nat) (h : k < 256) : bV (l ++ [UInt8.ofNat k]) = bV l ++ [Value.int .u8 (k : Int)] := by
  rw [bV_append, bV_one k h]
theorem bV_oneCell (l : List UInt8) : ∀ u ∈ bV l, u.oneCell' = true := by
  intro u hu
  simp only [bV, List.mem_map] at hu
  obtain ⟨c, _, rfl⟩ := hu
  rfl

/-- A row of bytes that the call owns, at least one of them, turned into a text. -/
theorem conv_own {P : Program} {w : World} {base : Nat} {v : Value} {l : List UInt8} (src dst e : TypeId) (hs : P.underlying src = some (.slice e)) (he : P.underlying e = some (.int .u8)) (hd : P.underlying dst = some .string)
    (h : w.ownsRow base e 1 v l.length (bV l)) (hn : 0 < l.length) :
    ∃ g cap, v = .slice (some ⟨g, 0, none⟩) l.length cap ∧ (convert src dst (.slice (some ⟨g, 0, none⟩) l.length cap)).run P w = .ok (.string ⟨l.toArray⟩) w := by
  have h0 := h
  rcases h.2 with ⟨_, h2⟩ | ⟨g, cap, cur, rfl, _⟩
  · omega
  · refine ⟨g, cap, rfl, run_convert_bytes_back w src dst e ⟨g, 0, none⟩ cap l hs he hd ?_⟩
    intro j hj
    have hadd : (⟨g, 0, none⟩ : Addr).add j = ⟨g, j, none⟩ := by unfold Addr.add; split <;> simp_all
    rw [hadd, h0.cellAt j (by omega)]
    simp [bV, hj]

/-- One byte in a cell, turned into a text. -/
theorem conv_one {P : Program} (w : World) (src dst e : TypeId) (hs : P.underlying src = some (.slice e)) (he : P.underlying e = some (.int .u8)) (hd : P.underlying dst = some .string) (g cap : Nat) (c : Int) (h0 : 0 ≤ c) (h1 : c ≤ 255)
    (h : w.cell? ⟨g, 0, none⟩ = some (.int .u8 c)) :
    (convert src dst (.slice (some ⟨g, 0, none⟩) 1 cap)).run P w = .ok (.string ⟨[UInt8.ofNat c.toNat].toArray⟩) w := by
  have := run_convert_bytes_back w src dst e ⟨g, 0, none⟩ cap [UInt8.ofNat c.toNat] hs he hd (by
    intro j hj
    simp at hj
    subst hj
    have hadd : (⟨g, 0, none⟩ : Addr).add 0 = ⟨g, 0, none⟩ := rfl
    rw [hadd, h]
    simp
    omega)
  exact this

/-- All old cells, and all old marks, read as before. -/
theorem bcell {W w1 : World} (hb : Below W.heap.size W w1) : (∀ b o, b < W.heap.size → w1.cell? ⟨b, o, none⟩ = W.cell? ⟨b, o, none⟩) ∧ (∀ b o, b < W.heap.size → w1.frozen? ⟨b, o, none⟩ = W.frozen? ⟨b, o, none⟩) :=
  ⟨fun b o h => hb.cell (p := ⟨b, o, none⟩) h, fun b o h => hb.frozen (p := ⟨b, o, none⟩) h⟩

/-- The world behind an append on a row of the call's own, seen from where the call began. -/
theorem below_own {B : Nat} {a w w' : World} {e : TypeId} {size : Nat} {v : Value} {n : Nat} {xs : List Value} (h : Below B a w) (ho : w.ownsRow B e size v n xs) (hg : w.grownBy w' v.ownBlock) (hB : B ≤ w.heap.size) : Below B a w' :=
  h.grown hg hB fun k hk => (ho.lt k hk).1

end Go.Proofs.YtcdpjaaiojpelaaDoor
