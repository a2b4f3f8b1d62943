/- The contracts of the small calls on scenes: isPlace, Place, the two Edges, Great. -/
import Derived.Test.YtcdpjaaiojpelaaDoorGMem
namespace Go.Proofs.YtcdpjaaiojpelaaDoor
open Go.RowKit Go.Maps Go.WideMaps

/-- Is it a place of one of n nodes? -/
def isPb (n : Nat) (k : Int) : Bool := decide (0 ≤ k ∧ k < n)
theorem isPb_yes {n : Nat} {k : Int} (h : 0 ≤ k ∧ k < n) : isPb n k = true := decide_eq_true h
theorem isPb_no {n : Nat} {k : Int} (h : ¬ (0 ≤ k ∧ k < n)) : isPb n k = false := decide_eq_false h
theorem isPb_iff {n : Nat} {k : Int} : isPb n k = true ↔ 0 ≤ k ∧ k < n := decide_eq_true_iff

/-- All kids, counted. -/
def edg (X : List Nx) : Nat := (X.map fun x => x.nd.kids.length).sum
theorem edg_take (X : List Nx) (i : Nat) (h : i < X.length) : edg (X.take (i + 1)) = edg (X.take i) + (X.getD i noNx).nd.kids.length := by
  unfold edg
  rw [List.take_add_one, List.getElem?_eq_getElem h, List.map_append, List.sum_append]
  simp [h]
/-- None has more kids than can be counted. -/
def Few (X : List Nx) : Prop := X.length ≤ 61 ∧ ∀ i, i < X.length → (X.getD i noNx).nd.kids.length ≤ 1125899906842624
theorem edg_le (X : List Nx) (h : Few X) : ∀ i, i ≤ X.length → edg (X.take i) ≤ i * 1125899906842624
  | 0, _ => by simp [edg]
  | i + 1, hi => by
    rw [edg_take X i (by omega)]
    have := edg_le X h i (by omega)
    have := h.2 i (by omega)
    omega

set_option maxRecDepth 10000 in
set_option maxHeartbeats 400000 in
theorem isplace_any (k : Int) (n : Nat) (w : World) :
    Calls Tryd.prog 53 #[.int .i64 k, .int .i64 n] w fun e w' => e = .returned (.bool (isPb n k)) ∧ w' = w := by
  by_cases h0 : 0 ≤ k
  · by_cases h1 : k < n
    · rw [isPb_yes ⟨h0, h1⟩]
      go_enter Tryd.func53, Tryd.ntmps53
      go_wp2
      go_ret
      exact ⟨rfl, rfl⟩
    · rw [isPb_no (fun q => h1 q.2)]
      go_enter Tryd.func53, Tryd.ntmps53
      go_wp2
      go_ret
      exact ⟨rfl, rfl⟩
  · rw [isPb_no (fun q => h0 q.1)]
    go_enter Tryd.func53, Tryd.ntmps53
    go_wp2
    go_ret
    exact ⟨rfl, rfl⟩

set_option maxRecDepth 10000 in
set_option maxHeartbeats 400000 in
theorem place_any (a : Option Addr) (n c : Nat) (r k : Int) (w : World) :
    Calls Tryd.prog 31 #[.agg #[.slice a n c, .int .i64 r], .int .i64 k] w fun e w' => e = .returned (.bool (isPb n k)) ∧ Below w.heap.size w w' := by
  have HB : Hid _ := fun (o : Obj) => (Below.refl w.heap.size w).alloc (Nat.le_refl _) o
  by_cases h0 : 0 ≤ k
  · by_cases h1 : k < n
    · rw [isPb_yes ⟨h0, h1⟩]
      go_enter Tryd.func31, Tryd.ntmps31
      go_wp2
      go_ret
      exact ⟨rfl, HB.out _⟩
    · rw [isPb_no (fun q => h1 q.2)]
      go_enter Tryd.func31, Tryd.ntmps31
      go_wp2
      go_ret
      exact ⟨rfl, HB.out _⟩
  · rw [isPb_no (fun q => h0 q.1)]
    go_enter Tryd.func31, Tryd.ntmps31
    go_wp2
    go_ret
    exact ⟨rfl, HB.out _⟩

set_option maxRecDepth 10000 in
set_option maxHeartbeats 400000 in
theorem redges_any (X : List Nx) (a : Option Addr) (c : Nat) (r : Int) (w : World) (h : ScAt w a X) (hn : X.length ≤ 1000000) :
    Calls Tryd.prog 23 #[.agg #[.slice a X.length c, .int .i64 r]] w fun e w' => ∃ z : Int, e = .returned (.int .i64 z) ∧ (Few X → z = (edg X : Nat)) ∧ Below w.heap.size w w' := by
  have HB : Hid _ := fun (o : Obj) => (Below.refl w.heap.size w).alloc (Nat.le_refl _) o
  have HS : Hid _ := h
  clear h
  go_enter Tryd.func23, Tryd.ntmps23
  go_wp2_with fail
  go_loopw [3, 4] (fun nv iv wr => ∃ (i : Nat) (z : Int), iv = .int .i64 i ∧ nv = .int .i64 z ∧ i ≤ X.length ∧ Hid (Few X → z = (edg (X.take i) : Nat)) ∧ AtN 24 wr w.heap.size #[.slice a X.length c, .int .i64 r] ∧ Below w.heap.size w wr) (fun _ iv _ => X.length - (intOf iv).toNat)
  case atStart => exact ⟨0, 0, rfl, rfl, by omega, fun _ => by simp [edg], AtN.new w 24 _, HB.out _⟩
  case round =>
    obtain ⟨i, z, rfl, rfl, hi, HI, n1, hb⟩ := hrel
    have x0 : wr.cell? ⟨w.heap.size, 0, none⟩ = some (.slice a X.length c) := n1.cell 0
    by_cases hlt : i < X.length
    · have hlt' : (i : Int) < X.length := by omega
      obtain ⟨b, o, rfl, hbl, d0, d1, d2, d3⟩ := (ScAt.belowB HS.out hb).node hlt
      have HV : Hid (∀ k : Nat, k = (X.getD i noNx).nd.kids.length → Few X → wrap64 (z + k) = (edg (X.take (i + 1)) : Nat)) := fun k hk hf => by
        rw [HI.out hf, edg_take X i hlt, ← hk]
        have h1 := edg_le X hf i (by omega)
        have h2 := hf.2 i hlt
        have h3 := hf.1
        rw [← hk] at h2
        rw [IntWalk.wrap64_in _ (by omega)]
        omega
      generalize (X.getD i noNx).nd.kids.length = K at *
      have HN : Hid _ := And.intro n1 hb
      clear HI n1 hb HB HS
      go_wp2_with fail
      go_roundw
      case rel => exact ⟨i + 1, _, by go_num, rfl, by omega, fun q => HV.out _ rfl q, HN.out.1, HN.out.2⟩
      case measure => simp [intOf]; omega
    · have hlt' : ¬ (i : Int) < X.length := by omega
      have HV : Hid (Few X → z = (edg X : Nat)) := fun q => by rw [HI.out q, List.take_of_length_le (by omega)]
      have HN : Hid _ := hb
      clear HI n1 hb HB HS
      go_wp2_with fail
      go_ret
      exact ⟨_, rfl, HV.out, HN.out⟩

/-- Is a scene more than is played? -/
def Small (X : List Nx) : Prop := X.length ≤ 61 ∧ ∀ i, i < X.length → great (X.getD i noNx).nd = false
theorem Small.few {X : List Nx} (h : Small X) : Few X := ⟨h.1, fun i hi => by have := (great_no (h.2 i hi)).2.2.1; omega⟩
theorem Small.kids {X : List Nx} (h : Small X) {i : Nat} (hi : i < X.length) : (X.getD i noNx).nd.kids.length ≤ 300 := (great_no (h.2 i hi)).2.2.1

/-- What the scene's Great tells. -/
def GreatIs (X : List Nx) (g : Bool) : Prop := g = false → Small X ∧ X.length ≤ 60
def GreatOut (X : List Nx) (w w' : World) (e : Ending) : Prop := ∃ g, e = .returned (.bool g) ∧ GreatIs X g ∧ Below w.heap.size w w'

set_option maxRecDepth 10000 in
set_option maxHeartbeats 400000 in
theorem sgreat_any (X : List Nx) (a : Option Addr) (c : Nat) (r : Int) (w : World) (h : ScAt w a X) :
    Calls Tryd.prog 9 #[.agg #[.slice a X.length c, .int .i64 r]] w fun e w' => GreatOut X w w' e := by
  have HB : Hid _ := fun (o : Obj) => (Below.refl w.heap.size w).alloc (Nat.le_refl _) o
  have HS : Hid _ := h
  by_cases h1 : 60 < X.length
  · have h1' : (60 : Int) < X.length := by omega
    clear h HS
    go_enter Tryd.func9, Tryd.ntmps9
    go_wp2_with fail
    go_ret
    exact ⟨_, rfl, fun q => by simp at q, HB.out _⟩
  · have h1' : ¬ (60 : Int) < X.length := by omega
    have HE : Hid _ := redges_any X a c r (w.alloc (.cells #[.slice a X.length c, .int .i64 r] 24)) (h.alloc _) (by omega)
    have HA : Hid _ := AtN.new w 24 #[.slice a X.length c, .int .i64 r]
    clear h
    go_enter Tryd.func9, Tryd.ntmps9
    go_wp2_with fail
    refine (Calls.mono HE.out ?_)
    rintro e w1 ⟨z, rfl, -, hb1⟩
    have HN : Hid _ := And.intro ((HB.out _).trans (hb1.mono (by simp))) (AtN.belowAll HA.out hb1)
    clear HE HA hb1 HB
    by_cases hz : 300 < z
    · go_wp2_with fail
      go_ret
      exact ⟨_, rfl, fun q => by simp at q, HN.out.1⟩
    · go_wp2_with fail
      go_loopw [3] (fun iv wr => ∃ i : Nat, iv = .int .i64 i ∧ i ≤ X.length ∧ Hid (∀ k, k < i → great (X.getD k noNx).nd = false) ∧ AtN 24 wr w.heap.size #[.slice a X.length c, .int .i64 r] ∧ Below w.heap.size w wr) (fun iv _ => X.length - (intOf iv).toNat)
      case atStart => exact ⟨0, rfl, by omega, fun k hk => by omega, HN.out.2, HN.out.1⟩
      case round =>
        clear HN
        obtain ⟨i, rfl, hi, HI, n1, hb⟩ := hrel
        have x0 : wr.cell? ⟨w.heap.size, 0, none⟩ = some (.slice a X.length c) := n1.cell 0
        by_cases hlt : i < X.length
        · have hlt' : (i : Int) < X.length := by omega
          have hs := ScAt.belowB HS.out hb
          obtain ⟨b, o, rfl, hbl, d0, d1, d2, d3⟩ := hs.node hlt
          have HG : Hid _ := great_any (X.getD i noNx).nd (X.getD i noNx).a1 (X.getD i noNx).a2 (X.getD i noNx).a3 (X.getD i noNx).c1 (X.getD i noNx).c2 (X.getD i noNx).c3 wr (hs.each i hlt).t
          have HV : Hid (great (X.getD i noNx).nd = false → ∀ k, k < i + 1 → great (X.getD k noNx).nd = false) := fun q k hk => by
            by_cases e : k = i
            · rw [e]; exact q
            · exact HI.out k (by omega)
          generalize X.getD i noNx = N at *
          have HN : Hid _ := And.intro n1 hb
          clear HI HS hs n1 hb
          go_wp2_with fail
          refine (Calls.mono HG.out ?_)
          rintro e w2 ⟨rfl, hb2⟩
          have HN2 : Hid _ := And.intro (AtN.belowAll HN.out.1 hb2) (HN.out.2.trans (hb2.mono HN.out.2.size))
          clear HG HN hb2
          by_cases hg : great N.nd = true
          · rw [hg]
            go_wp2_with fail
            go_ret
            exact ⟨_, rfl, fun q => by simp at q, HN2.out.2⟩
          · rw [Bool.not_eq_true] at hg
            have HV2 : Hid _ := HV.out hg
            rw [hg]
            clear HV hg
            go_wp2_with fail
            go_roundw
            case rel => exact ⟨i + 1, by go_num, by omega, HV2.out, HN2.out.1, HN2.out.2⟩
            case measure => simp [intOf]; omega
        · have hlt' : ¬ (i : Int) < X.length := by omega
          have HV : Hid (Small X ∧ X.length ≤ 60) := ⟨⟨by omega, fun k hk => HI.out k (by omega)⟩, by omega⟩
          have HN : Hid _ := hb
          clear HI HS n1 hb
          go_wp2_with fail
          go_ret
          exact ⟨_, rfl, fun _ => HV.out, HN.out⟩

end Go.Proofs.YtcdpjaaiojpelaaDoor
