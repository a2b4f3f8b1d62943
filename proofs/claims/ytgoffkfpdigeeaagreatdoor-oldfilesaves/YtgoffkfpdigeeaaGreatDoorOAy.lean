/- The one text node of the law's own awake, its file, and a file of another version: pure. -/
import Derived.Test.YtgoffkfpdigeeaaGreatDoorOSz
import Derived.Test.YtgoffkfpdigeeaaGreatDoorOLm
namespace Go.Proofs.YtgoffkfpdigeeaaGreatDoor
open Go.RowKit Go.Maps Go.WideMaps Go.Sort

def uT : ByteArray := ⟨#[97]⟩
def uN : Nd := ⟨5, [], [uT], []⟩
/-- The scene, wherever its list lies. -/
def uX (q : Nat) : List Nx := [⟨uN, none, 0, some ⟨q, 0, none⟩, 1, none, 0⟩]
def uC : ByteArray := ⟨#[1, 5, 1, 97, 0]⟩
def uF : ByteArray := ⟨(pPut mD 1 (oS uC)).1.toArray⟩
section
variable (q : Nat)
theorem uX_ed (x y : Nat) : ¬ Ed (kX (uX q)) x y := by
  have hk : kX (uX q) = [[]] := rfl
  unfold Ed
  rw [hk]
  match x with
  | 0 => simp
  | n + 1 => simp
theorem uX_right : RightIs (uX q) 0 := by
  refine ⟨rfl, fun i hi j hj => ?_, fun x => ?_, fun x hx => ?_⟩
  · match i, hi with
    | 0, _ => exact absurd hj (by simp [uX, uN])
  · rintro ⟨c, e, r⟩
    exact uX_ed q _ _ e
  · match x, hx with
    | 0, _ => exact Rt.refl _ _
theorem uX_small : Small (uX q) := by
  refine ⟨by simp [uX], fun i hi => ?_⟩
  match i, hi with
  | 0, _ => show big uN = false; decide +kernel
theorem uX_fn : FnX (uX q) := fun i hi j hj => by
  match i, hi with
  | 0, _ => exact absurd hj (by simp [uX, uN])
theorem uX_ty : tyEo (uX q) = 0 := (tyEo_iff _).2 fun i hi => by
  match i, hi with
  | 0, _ => show tyNo uN = 0; decide +kernel
theorem uX_fw : FowIs (uX q) 0 := by
  refine ⟨uX_right q, rfl, fun i hi z hz => ?_⟩
  match i, hi with
  | 0, _ => exact absurd hz (by simp [uX, uN])
theorem uX_in {d : Nat} (hd : DepthIs (uX q) 0 d) : inL (meL (uX q) d) wL = true := by
  have hd1 : (d : Int) ≤ 1 := by
    obtain ⟨h, _, h2, h3⟩ := hd.2 (uX_right q)
    have := (h3 0 (by simp [uX])).2
    rw [h2]
    show ((h 0 : Nat) : Int) ≤ 1
    have h4 : (uX q).length = 1 := rfl
    omega
  have he : edg (uX q) = 0 := rfl
  have ht : txb (uX q) = 1 := by
    show sum6 (itn [uT]) = 1
    decide +kernel
  refine decide_eq_true ⟨by show (0 : Int) ≤ 16777216; decide, by show ((1 : Nat) : Int) ≤ 16777216; decide, ?_, by show (d : Int) ≤ 16777216; omega, ?_⟩
  · show ((edg (uX q) : Nat) : Int) ≤ 16777216
    rw [he]
    decide
  · show ((txb (uX q) : Nat) : Int) ≤ 16777216
    rw [ht]
    decide
theorem uX_c : oC ((uX q).map Nx.nd) = uC := by
  refine ba_eq ?_
  rw [oC_list]
  show oR [uN] = _
  decide +kernel
theorem uX_f : oF ((uX q).map Nx.nd) = uF := by
  unfold oF uF
  rw [uX_c]
theorem uF_size : uF.size ≤ 16777216 := by
  have := (oF_sizes (uX_small 0) (by simp [uX]) (uX_fn 0) (uX_ty 0) (uX_right 0)).2
  rw [uX_f] at this
  omega
theorem uF_save : SoIs (uX q) 0 wL uF 0 := by
  obtain ⟨d, hd⟩ := depth_there (uX q) 0
  refine ⟨d, 0, 0, hd, vo_good (by decide) ⟨uX_ty q, uX_right q⟩ (uX_in q hd), .inr ⟨rfl, .inr ⟨uX_fw q, .inr ⟨?_, rfl, (uX_f q).symm⟩⟩⟩⟩
  rw [uX_f]
  have := uF_size
  show ¬ (16777216 : Int) < _
  omega
theorem uF_load : LoIs uF wL ((uX q).map Nx.nd) 0 := by
  obtain ⟨d, hd⟩ := depth_there (uX q) 0
  have hz := uF_size
  have h := back_ofile (uX_small q) (uX_fn q) (uX_ty q) (uX_fw q) hd (by decide) (uX_in q hd) (by rw [uX_c]; decide) (by rw [uX_f]; show ¬ (16777216 : Int) < _; omega)
  rw [uX_f] at h
  exact h
theorem uF_q : ∀ R, opK uF wL = (0, R) → R.size ≤ 4000000 ∧ QnO R wL := by
  obtain ⟨d, hd⟩ := depth_there (uX 0) 0
  have h := qno_put_of (uX_small 0) (by simp [uX]) (uX_fn 0) (uX_ty 0) (uX_fw 0) (by decide) (uX_in 0 hd) (l := wL) (by decide)
  rw [uX_f] at h
  exact h
end
theorem uF_no : LoIs ⟨#[68, 73, 79, 82, 2]⟩ wL (([] : List Nx).map Nx.nd) 7 := by
  have hG : pGet mD.data.toList (⟨#[68, 73, 79, 82, 2]⟩ : ByteArray).data.toList = (0, 2, []) := by decide +kernel
  have h := opK_4 ⟨#[68, 73, 79, 82, 2]⟩ wL (by decide) (by decide) (by rw [hG]) (by rw [hG]; decide)
  exact .inl ⟨by rw [h]; decide, h.symm, rfl⟩
end Go.Proofs.YtgoffkfpdigeeaaGreatDoor
