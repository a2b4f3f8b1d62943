/- What the law's own awake asks: one ball, put and got; no nodes. -/
import Derived.Test.YthfemhpbamcpjaaGreatDoorNPp
import Derived.Test.YthfemhpbamcpjaaGreatDoorNGp
import Derived.Test.YthfemhpbamcpjaaGreatDoorCC
namespace Go.Proofs.YthfemhpbamcpjaaGreatDoor
open Go.RowKit
def aT : ByteArray := ⟨#[97]⟩
def aN : Nd := ⟨4, [1], [aT], []⟩
def aA : ByteArray := ⟨#[1, 1, 97]⟩
def aC : ByteArray := ⟨#[1, 4, 2, 0, 0]⟩
theorem aA_is : (aA.toList == [1, 1, 97]) = true := by
  have h : (aA.toList == ByteArray.toList ⟨#[1, 1, 97]⟩) = true := by rw [eq_text]; exact decide_eq_true rfl
  first | simpa using h | (simp [aA] at h ⊢) | (unfold aA; decide +kernel)
theorem aC_is : (aC.toList == [1, 4, 2, 0, 0]) = true := by
  have h : (aC.toList == ByteArray.toList ⟨#[1, 4, 2, 0, 0]⟩) = true := by rw [eq_text]; exact decide_eq_true rfl
  first | simpa using h | (simp [aC] at h ⊢) | (unfold aC; decide +kernel)
def aL : Lm := ⟨0, 1, 0, 1, 1⟩
def aX (g : Nat) : List Nx := [⟨aN, some ⟨g, 0, none⟩, 1, some ⟨g + 1, 0, none⟩, 1, none, 0⟩]
theorem aX_ed (g x y : Nat) : ¬ Ed (kX (aX g)) x y := by
  have hk : kX (aX g) = [[]] := rfl
  unfold Ed
  rw [hk]
  match x with
  | 0 => simp
  | n + 1 => simp
theorem aX_right (g : Nat) : RightIs (aX g) 0 := by
  refine ⟨rfl, fun i hi j hj => ?_, fun x => ?_, fun x hx => ?_⟩
  · match i, hi with
    | 0, _ => exact absurd hj (by simp [aX, aN])
  · rintro ⟨c, e, _⟩
    exact aX_ed g _ _ e
  · match x, hx with
    | 0, _ => exact Rt.refl _ _
theorem aX_ord (g : Nat) : oX (aX g) 0 = [0] := by
  show ordO [[]] 0 = _
  decide
theorem aX_can (g : Nat) : IsCan (aX g) 0 := by
  refine ⟨aX_right g, fun i hi => ?_⟩
  rw [aX_ord]
  match i, hi with
  | 0, _ => rfl
theorem aX_small (g : Nat) : Small (aX g) := by
  refine ⟨by simp [aX], fun i hi => ?_⟩
  match i, hi with
  | 0, _ => show big aN = false; decide +kernel
theorem aX_fn (g : Nat) : FnX (aX g) := fun i hi j hj => by
  match i, hi with
  | 0, _ =>
    match j, hj with
    | 0, _ => exact ⟨by show (-9223372036854775808 : Int) ≤ 1; decide, by show (1 : Int) ≤ 9223372036854775807; decide⟩
theorem aX_ty (g : Nat) : tyE (aX g) = 0 := by
  have h : tyN aN = 0 := by decide +kernel
  show (tyG [⟨aN, _, _, _, _, _, _⟩] 0).1 = 0
  unfold tyG
  rw [if_pos h]
  rfl
theorem aX_bk (g : Nat) : Bk (aX g) 0 aA aC := by
  have h1 : aA.data.toList = pPut6 (itn [aT]) := by decide +kernel
  have h2 : aC.data.toList = put 1 ++ rAllN 0 [aN] [] := by decide +kernel
  exact ⟨aX_small g, by simp [aX], aX_fn g, aX_ty g, aX_can g, by simp [aX], h1, h2⟩
theorem aX_put (g : Nat) : PuIs (aX g) 0 aA aC 0 :=
  .inr ⟨aX_ty g, 0, 0, check_right (aX_right g), .inr ⟨rfl, .inr ⟨aX_can g, rfl, by rw [rTab_all]; exact (aX_bk g).a, (aX_bk g).c⟩⟩⟩
theorem aX_sum (g : Nat) : sum6 (itn (allT (aX g))) = 1 := by
  show sum6 (itn [aT]) = 1
  decide +kernel
theorem aX_got (g : Nat) : GeIs aA aC aL ((aX g).map Nx.nd) 0 0 := by
  obtain ⟨d, hd⟩ := depth_there (aX g) 0
  have hd1 : (d : Int) ≤ 1 := by
    obtain ⟨h, _, h2, h3⟩ := hd.2 (aX_right g)
    have := (h3 0 (by simp [aX])).2
    rw [h2]
    show ((h 0 : Nat) : Int) ≤ 1
    have h4 : (aX g).length = 1 := rfl
    omega
  exact (aX_bk g).got (by decide) (by rw [aX_sum]; rfl) (by show ((1 : Nat) : Int) ≤ 1; decide) (by show ((edg (aX g) : Nat) : Int) ≤ 0; exact (by decide : ((edg (aX 0) : Nat) : Int) ≤ 0)) hd hd1
theorem aX_none : GeIs aA ⟨#[0]⟩ aL (([] : List Nx).map Nx.nd) 0 13 := by
  have g1 := (pGet6_putB (itn [aT]) aA 16777216 (aX_bk 0).a (aX_bk 0).tab.1 (aX_bk 0).tab.2.1 (by have := (aX_bk 0).tab.2.2.1; have e : itn (allT (aX 0)) = itn [aT] := rfl; rw [e] at this; omega) (by have := (aX_bk 0).tab.2.2.1; have e : itn (allT (aX 0)) = itn [aT] := rfl; rw [e] at this; omega)).1
  have e : sum6 (itn [aT]) = 1 := aX_sum 0
  rw [e] at g1
  exact GeIs.bad (geK_4 aA ⟨#[0]⟩ aL (by decide) g1 (k := 1) (by kernel_rfl)) (by decide)
structure Aw (w W : World) : Prop where
  i : AtN 2 W w.heap.size #[.int .i64 1]
  t : AtN 9 W (w.heap.size + 1) #[.string aT]
  n : AtN 49 W (w.heap.size + 1 + 1) #[.int .i64 4, .slice (some ⟨w.heap.size, 0, none⟩) 1 1, .slice (some ⟨w.heap.size + 1, 0, none⟩) 1 1, .slice none 0 0]
  s : AtN 24 W (w.heap.size + 1 + 1 + 1) #[.slice (some ⟨w.heap.size + 1 + 1, 0, none⟩) 1 1, .int .i64 0]
  bel : Below w.heap.size w W
section
variable {w W W' : World}
theorem Aw.more (h : Aw w W) (hb : Below W.heap.size W W') : Aw w W' := ⟨h.i.belowAll hb, h.t.belowAll hb, h.n.belowAll hb, h.s.belowAll hb, h.bel.trans (hb.mono h.bel.size)⟩
theorem Aw.sc (h : Aw w W) : ScAt W (some ⟨w.heap.size + 1 + 1, 0, none⟩) (aX w.heap.size) := ⟨at_ls (cs := nxV (aX w.heap.size)) h.n, fun j hj => by
  match j, hj with
  | 0, _ => exact ⟨at_ls (cs := iV [1]) h.i, at_ls (cs := tV [aT]) h.t, LsAt.nil _ _⟩⟩
end
set_option maxRecDepth 10000 in
set_option maxHeartbeats 1000000 in
theorem awake_any (w : World) (ht : Tabs12 w) :
    Calls Tryz.prog 7 #[] w fun e w' => e = .returned (.bool true) ∧ Below w.heap.size w w' := by
  have HT : Hid (Tabs12 w) := ht
  have HA : Hid (∀ o1 o2 o3 o4 : Obj, o1 = .cells #[.int .i64 1] 2 → o2 = .cells #[.string aT] 9 → o3 = .cells #[.int .i64 4, .slice (some ⟨w.heap.size, 0, none⟩) 1 1, .slice (some ⟨w.heap.size + 1, 0, none⟩) 1 1, .slice none 0 0] 49 → o4 = .cells #[.slice (some ⟨w.heap.size + 1 + 1, 0, none⟩) 1 1, .int .i64 0] 24 → Aw w ((((w.alloc o1).alloc o2).alloc o3).alloc o4)) := by
    rintro _ _ _ _ rfl rfl rfl rfl
    exact ⟨(((AtN.new w 2 _).alloc _).alloc _).alloc _, ((mk_at (AtN.new (w.alloc _) 9 _) (show _ = w.heap.size + 1 by simp)).alloc _).alloc _, (mk_at (AtN.new ((w.alloc _).alloc _) 49 _) (show _ = w.heap.size + 1 + 1 by simp)).alloc _, mk_at (AtN.new (((w.alloc _).alloc _).alloc _) 24 _) (show _ = w.heap.size + 1 + 1 + 1 by simp), ((((Below.refl w.heap.size w).alloc (Nat.le_refl _) _).alloc (by simp) _).alloc (by simp; omega) _).alloc (by simp; omega) _⟩
  clear ht
  go_enter Tryz.func7, Tryz.ntmps7
  go_wp2_with fail
  have h0 := HA.out _ _ _ _ rfl rfl rfl rfl
  have HPt := pnput_any (aX w.heap.size) (some ⟨w.heap.size + 1 + 1, 0, none⟩) 1 0 _ h0.sc (aX_small _) (aX_fn _) (HT.out.on h0.bel)
  refine Calls.mono HPt ?_
  rintro e w1 ⟨A, C, k, rfl, hp, hb1⟩
  obtain ⟨rfl, rfl, rfl⟩ := (aX_put w.heap.size).uniq hp
  have H1 : Hid (Aw w w1) := h0.more hb1
  clear HA h0 HPt hp hb1
  have HL1 : Hid (∀ o : Obj, o = .cells #[.int .i64 0, .int .i64 1, .int .i64 0, .int .i64 1, .int .i64 1] 34 → AtN 34 (w1.alloc o) w1.heap.size (liC aL) ∧ Aw w (w1.alloc o)) := by
    rintro _ rfl
    exact ⟨AtN.new w1 34 _, H1.out.more ((Below.refl _ _).alloc (Nat.le_refl _) _)⟩
  have hrg : ∀ i, i < 5 → -9223372036854775808 ≤ (lmL aL).getD i 0 ∧ (lmL aL).getD i 0 ≤ 9223372036854775807 := fun i hi => by
    rcases five_cases hi with rfl | rfl | rfl | rfl | rfl <;> decide
  have HRg : Hid _ := hrg
  clear hrg
  go_wp2_with fail
  obtain ⟨hl2, ha2⟩ := HL1.out _ rfl
  refine Calls.mono (pnget_any aA aC aL _ (HT.out.on ha2.bel) (by decide) (by decide) (fun L hL => qn_small hL (by decide) (by decide)) HRg.out) ?_
  rintro e w3 ⟨X, a, c, r, k, rfl, hg, hsc, hsm, _, hb3⟩
  obtain ⟨hX, rfl, rfl⟩ := (aX_got w.heap.size).uniq hg
  have H3 : Hid (Aw w w3) := ha2.more hb3
  have HL3 : Hid (AtN 34 w3 w1.heap.size (liC aL)) := hl2.belowAll hb3
  have HS3 : Hid (ScAt w3 a X ∧ Small X ∧ X.map Nx.nd = (aX w.heap.size).map Nx.nd) := ⟨hsc, hsm, hX⟩
  clear HL1 hl2 ha2 hg hsc hsm hX hb3 H1
  have hb4 : Below w3.heap.size w3 (w3.alloc (.cells #[.slice a X.length c, .int .i64 0] 24)) := (Below.refl w3.heap.size w3).alloc (Nat.le_refl _) _
  have HM4 : Hid (AtN 24 (w3.alloc (.cells #[.slice a X.length c, .int .i64 0] 24)) w3.heap.size #[.slice a X.length c, .int .i64 0]) := AtN.new w3 24 _
  have H4 : Hid (Aw w (w3.alloc (.cells #[.slice a X.length c, .int .i64 0] 24))) := H3.out.more hb4
  have HL4 : Hid (AtN 34 (w3.alloc (.cells #[.slice a X.length c, .int .i64 0] 24)) w1.heap.size (liC aL)) := HL3.out.belowAll hb4
  have HS4 : Hid (ScAt (w3.alloc (.cells #[.slice a X.length c, .int .i64 0] 24)) a X ∧ Small X ∧ X.map Nx.nd = (aX w.heap.size).map Nx.nd) := ⟨HS3.out.1.belowB hb4, HS3.out.2⟩
  clear HL3 HS3 H3 hb4
  have d0 : (w3.alloc (.cells #[.slice a X.length c, .int .i64 0] 24)).cell? ⟨w1.heap.size, 0, none⟩ = some (.int .i64 0) := HL4.out.cell 0
  have d1 : (w3.alloc (.cells #[.slice a X.length c, .int .i64 0] 24)).cell? ⟨w1.heap.size, 1, none⟩ = some (.int .i64 1) := HL4.out.cell 1
  have d2 : (w3.alloc (.cells #[.slice a X.length c, .int .i64 0] 24)).cell? ⟨w1.heap.size, 2, none⟩ = some (.int .i64 0) := HL4.out.cell 2
  have d3 : (w3.alloc (.cells #[.slice a X.length c, .int .i64 0] 24)).cell? ⟨w1.heap.size, 3, none⟩ = some (.int .i64 1) := HL4.out.cell 3
  have d4 : (w3.alloc (.cells #[.slice a X.length c, .int .i64 0] 24)).cell? ⟨w1.heap.size, 4, none⟩ = some (.int .i64 1) := HL4.out.cell 4
  go_wp2_with fail
  generalize w3.alloc (.cells #[.slice a X.length c, .int .i64 0] 24) = w4 at *
  refine Calls.mono (pnget_any aA ⟨#[0]⟩ aL _ (HT.out.on H4.out.bel) (by decide) (by decide) (fun L hL => qn_small hL (by decide) (by decide)) HRg.out) ?_
  rintro e w5 ⟨X2, a2, c2, r2, k2, rfl, hg2, -, -, -, hb5⟩
  obtain ⟨-, rfl, rfl⟩ := aX_none.uniq hg2
  have HB6 : Hid (Below w4.heap.size w4 (w5.alloc (.cells #[.slice a2 X2.length c2, .int .i64 0] 24))) := hb5.alloc hb5.size _
  have H6 : Hid (Aw w (w5.alloc (.cells #[.slice a2 X2.length c2, .int .i64 0] 24))) := H4.out.more HB6.out
  have HM6 : Hid (AtN 24 (w5.alloc (.cells #[.slice a2 X2.length c2, .int .i64 0] 24)) w3.heap.size #[.slice a X.length c, .int .i64 0]) := HM4.out.belowAll HB6.out
  have HS6 : Hid (ScAt (w5.alloc (.cells #[.slice a2 X2.length c2, .int .i64 0] 24)) a X ∧ Small X ∧ X.map Nx.nd = (aX w.heap.size).map Nx.nd) := ⟨HS4.out.1.belowB HB6.out, HS4.out.2⟩
  clear hg2 hb5 H4 HM4 HS4 HL4 d0 d1 d2 d3 d4 HB6
  have m0 : (w5.alloc (.cells #[.slice a2 X2.length c2, .int .i64 0] 24)).cell? ⟨w3.heap.size, 0, none⟩ = some (.slice a X.length c) := HM6.out.cell 0
  have m1 : (w5.alloc (.cells #[.slice a2 X2.length c2, .int .i64 0] 24)).cell? ⟨w3.heap.size, 1, none⟩ = some (.int .i64 0) := HM6.out.cell 1
  have s0 : (w5.alloc (.cells #[.slice a2 X2.length c2, .int .i64 0] 24)).cell? ⟨w.heap.size + 1 + 1 + 1, 0, none⟩ = some (.slice (some ⟨w.heap.size + 1 + 1, 0, none⟩) 1 1) := H6.out.s.cell 0
  have s1 : (w5.alloc (.cells #[.slice a2 X2.length c2, .int .i64 0] 24)).cell? ⟨w.heap.size + 1 + 1 + 1, 1, none⟩ = some (.int .i64 0) := H6.out.s.cell 1
  have q1 : (aA.toList == [1, 1, 97]) = true := aA_is
  have q2 : (aC.toList == [1, 4, 2, 0, 0]) = true := aC_is
  have HSm : Hid _ := ssame_yes X (aX w.heap.size) a (some ⟨w.heap.size + 1 + 1, 0, none⟩) c 1 0 (w5.alloc (.cells #[.slice a2 X2.length c2, .int .i64 0] 24)) HS6.out.1 H6.out.sc HS6.out.2.1 HS6.out.2.2.symm
  go_wp2_with fail
  generalize w5.alloc (.cells #[.slice a2 X2.length c2, .int .i64 0] 24) = w6 at *
  refine Calls.mono HSm.out ?_
  rintro e w7 ⟨rfl, hb7⟩
  have HB7 : Hid (Below w.heap.size w w7) := (H6.out.more hb7).bel
  clear HSm hb7
  go_wp2_with fail
  go_ret
  exact ⟨rfl, HB7.out⟩
end Go.Proofs.YthfemhpbamcpjaaGreatDoor
