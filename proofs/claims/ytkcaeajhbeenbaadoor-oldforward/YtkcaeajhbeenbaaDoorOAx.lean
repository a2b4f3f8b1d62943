/- The small scene of the law's own awake: what the document says of it: pure. -/
import Derived.Test.YtkcaeajhbeenbaaDoorOPu
import Derived.Test.YtkcaeajhbeenbaaDoorOLm
namespace Go.Proofs.YtkcaeajhbeenbaaDoor
open Go.RowKit Go.Maps Go.WideMaps Go.Sort

def bT : ByteArray := ⟨#[97]⟩
def bN0 : Nd := ⟨1, [], [], [1, 2]⟩
def bN1 : Nd := ⟨5, [], [bT], []⟩
def bN2 : Nd := ⟨6, [9], [], []⟩
/-- The scene, wherever its lists lie. -/
def bX (p q s : Nat) : List Nx := [⟨bN0, none, 0, none, 0, some ⟨p, 0, none⟩, 2⟩, ⟨bN1, none, 0, some ⟨q, 0, none⟩, 1, none, 0⟩, ⟨bN2, some ⟨s, 0, none⟩, 1, none, 0, none, 0⟩]
section
variable (p q s : Nat)
theorem bX_ed (x y : Nat) : Ed (kX (bX p q s)) x y ↔ x = 0 ∧ (y = 1 ∨ y = 2) := by
  have hk : kX (bX p q s) = [[1, 2], [], []] := rfl
  unfold Ed
  rw [hk]
  match x with
  | 0 => simp
  | 1 => simp
  | 2 => simp
  | n + 3 => simp
theorem bX_ok : ∀ i, i < (bX p q s).length → okAt (bX p q s) i := by
  intro i hi j hj
  match i, hi with
  | 0, _ =>
    match j, hj with
    | 0, _ => rfl
    | 1, _ => rfl
  | 1, _ => exact absurd hj (by simp [bX, bN1])
  | 2, _ => exact absurd hj (by simp [bX, bN2])
theorem bX_no (x : Nat) : ¬ Lead (Ed (kX (bX p q s))) x x := by
  rintro ⟨c, e, r⟩
  obtain ⟨rfl, h⟩ := (bX_ed p q s _ _).1 e
  have := r.stop (fun y k => by have := (bX_ed p q s _ _).1 k; omega)
  omega
theorem bX_right : RightIs (bX p q s) 0 := by
  refine ⟨rfl, bX_ok p q s, bX_no p q s, fun x hx => ?_⟩
  match x, hx with
  | 0, _ => exact Rt.refl _ _
  | 1, _ => exact Rt.one ((bX_ed p q s _ _).2 ⟨rfl, .inl rfl⟩)
  | 2, _ => exact Rt.one ((bX_ed p q s _ _).2 ⟨rfl, .inr rfl⟩)
theorem bX_small : Small (bX p q s) := by
  refine ⟨by simp [bX], fun i hi => ?_⟩
  match i, hi with
  | 0, _ => show big bN0 = false; decide +kernel
  | 1, _ => show big bN1 = false; decide +kernel
  | 2, _ => show big bN2 = false; decide +kernel
theorem bX_fn : FnX (bX p q s) := fun i hi j hj => by
  match i, hi with
  | 0, _ => exact absurd hj (by simp [bX, bN0])
  | 1, _ => exact absurd hj (by simp [bX, bN1])
  | 2, _ =>
    match j, hj with
    | 0, _ => exact ⟨by show (-9223372036854775808 : Int) ≤ 9; decide, by show (9 : Int) ≤ 9223372036854775807; decide⟩
theorem bX_tyn : tyNo bN0 = 0 ∧ tyNo bN1 = 0 ∧ tyNo bN2 = 0 := by decide +kernel
theorem bX_go : tyGo (bX p q s) 0 = (0, 0) := by
  obtain ⟨h0, h1, h2⟩ := bX_tyn
  show tyGo [⟨bN0, _, _, _, _, _, _⟩, ⟨bN1, _, _, _, _, _, _⟩, ⟨bN2, _, _, _, _, _, _⟩] 0 = _
  simp [tyGo, h0, h1, h2]
theorem bX_ty : tyEo (bX p q s) = 0 := by
  unfold tyEo
  rw [bX_go]
theorem bX_tz : tyZo (bX p q s) = 0 := by
  unfold tyZo
  rw [bX_go]
theorem bX_in {d : Nat} (hd : DepthIs (bX p q s) 0 d) : inL (meL (bX p q s) d) wL = true := by
  have hd1 : (d : Int) ≤ 3 := by
    obtain ⟨h, _, h2, h3⟩ := hd.2 (bX_right p q s)
    have := (h3 0 (by simp [bX])).2
    rw [h2]
    show ((h 0 : Nat) : Int) ≤ 3
    have h4 : (bX p q s).length = 3 := rfl
    omega
  have he : edg (bX p q s) = 2 := rfl
  have ht : txb (bX p q s) = 1 := by
    show sum6 (itn [bT]) = 1
    decide +kernel
  refine decide_eq_true ⟨by show (0 : Int) ≤ 16777216; decide, by show ((3 : Nat) : Int) ≤ 16777216; decide, ?_, by show (d : Int) ≤ 16777216; omega, ?_⟩
  · show ((edg (bX p q s) : Nat) : Int) ≤ 16777216
    rw [he]
    decide
  · show ((txb (bX p q s) : Nat) : Int) ≤ 16777216
    rw [ht]
    decide
theorem bX_who : WhoO (bX p q s) 0 := ⟨bX_ty p q s, bX_right p q s⟩
theorem bX_vo {d : Nat} (hd : DepthIs (bX p q s) 0 d) : VoIs (bX p q s) 0 wL d 0 0 := vo_good (by decide) (bX_who p q s) (bX_in p q s hd)
theorem bX_ord : oX (bX p q s) 0 = [1, 2, 0] := by
  show ordO [[1, 2], [], []] 0 = _
  decide
theorem bX_can : cX (bX p q s) 0 = [bN1, bN2, ⟨1, [], [], [0, 1]⟩] := by
  unfold cX pX
  rw [bX_ord]
  rfl
theorem bX_flat : fX (bX p q s) 0 = [⟨1, [], [], [2, 1]⟩, bN2, bN1] := by
  unfold fX
  rw [bX_can]
  show (List.map (trnNd 3) [bN1, bN2, ⟨1, [], [], [0, 1]⟩]).reverse = _
  simp [trnNd, bN1, bN2, trn, wrap64]
theorem bX_fw : FowIs (bX p q s) 0 := by
  refine ⟨bX_right p q s, rfl, fun i hi z hz => ?_⟩
  match i, hi with
  | 0, _ =>
    have : z ∈ [(1 : Int), 2] := hz
    simp at this
    omega
  | 1, _ => exact absurd hz (by simp [bX, bN1])
  | 2, _ => exact absurd hz (by simp [bX, bN2])
end
theorem none_fw : ¬ FowIs [] 0 := fun h => by
  have := h.1.1
  simp [isPb] at this
theorem three_nds {Y : List Nx} {n0 n1 n2 : Nd} (h : Y.map Nx.nd = [n0, n1, n2]) : ∃ y0 y1 y2, Y = [y0, y1, y2] ∧ y0.nd = n0 ∧ y1.nd = n1 ∧ y2.nd = n2 := by
  match Y, h with
  | [y0, y1, y2], h =>
    simp at h
    exact ⟨y0, y1, y2, rfl, h.1, h.2.1, h.2.2⟩
end Go.Proofs.YtkcaeajhbeenbaaDoor
