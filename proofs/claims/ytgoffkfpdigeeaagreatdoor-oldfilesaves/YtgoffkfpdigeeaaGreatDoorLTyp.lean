/- Has each node what its kind has: the contracts of the program's and of the document's own Typed. -/
import Derived.Test.YtgoffkfpdigeeaaGreatDoorLTy0
import Derived.Test.YtgoffkfpdigeeaaGreatDoorGE
import Derived.Test.YtgoffkfpdigeeaaGreatDoorGG
namespace Go.Proofs.YtgoffkfpdigeeaaGreatDoor
open Go.RowKit

/-- .. with the first of some nodes of which something is. -/
def tyG : List Nx → Nat → Int × Int
  | [], _ => (0, 0)
  | x :: t, k => if tyN x.nd = 0 then tyG t (k + 1) else (tyN x.nd, (k : Int))
def tyE (X : List Nx) : Int := (tyG X 0).1
def tyZ (X : List Nx) : Int := (tyG X 0).2
theorem tyG_at (X : List Nx) (i : Nat) (h : i < X.length) : tyG (X.drop i) i = if tyN (X.getD i noNx).nd = 0 then tyG (X.drop (i + 1)) (i + 1) else (tyN (X.getD i noNx).nd, (i : Int)) := by
  rw [show X.drop i = X[i] :: X.drop (i + 1) from List.drop_eq_getElem_cons h, show X.getD i noNx = X[i] by simp [h]]
  rfl
/-- All numbers of all nodes are such as there are. -/
def FnX (X : List Nx) : Prop := ∀ i, i < X.length → fine (X.getD i noNx).nd.ints

/-- The facts of the region in which a node is checked. -/
def tcF (N : Nx) (b o n c i bx : Nat) (sb : Option Addr) (ci : List Int) (cap : Nat) (ct cl cm q : Int) : Nat → Value → World → Prop
  | 0, v, _ => v = .pointer (some ⟨bx, 0, none⟩)
  | 1, v, _ => v = .slice (some ⟨b, o, none⟩) n c
  | 2, v, _ => v = .int .i64 (i : Nat)
  | 3, v, _ => v = .pointer (some ⟨b, o + i * 4, none⟩)
  | 4, v, _ => v = .agg #[.int .i64 N.nd.kind, .slice N.a1 N.nd.ints.length N.c1, .slice N.a2 N.nd.texts.length N.c2, .slice N.a3 N.nd.kids.length N.c3]
  | 5, v, _ => v = .agg #[.slice sb ci.length cap, .int .i64 ct, .int .i64 cl, .int .i64 cm]
  | 6, v, _ => v = .int .i64 q
  | 7, v, _ => v = .int .i64 q
  | _, _, _ => True
theorem tcF_stab (N : Nx) (b o n c i bx : Nat) (sb : Option Addr) (ci : List Int) (cap : Nat) (ct cl cm q : Int) : ∀ ix jx v w w', ix ≠ jx → World.grownBy w w' (if ix = 99 then none else none) → tcF N b o n c i bx sb ci cap ct cl cm q jx v w → tcF N b o n c i bx sb ci cap ct cl cm q jx v w' := by
  intro ix jx v w w' hne hg h
  match jx, h with
  | 0, h | 1, h | 2, h | 3, h | 4, h | 5, h | 6, h | 7, h => exact h
  | n + 8, _ => trivial

set_option maxRecDepth 10000 in
set_option maxHeartbeats 1000000 in
theorem rtyped_any (X : List Nx) (a : Option Addr) (c : Nat) (r : Int) (w : World) (h : ScAt w a X) (hX : Small X) (hF : FnX X) :
    Calls Tryz.prog 42 #[.agg #[.slice a X.length c, .int .i64 r], .int .i64 2] w fun e w' => e = .returned (.tuple #[.int .i64 (tyE X), .int .i64 (tyZ X)]) ∧ Below w.heap.size w w' := by
  have HS : Hid (ScAt w a X) := h
  have hn := hX.1
  have HC : Hid (∀ (i : Nat), i < X.length → ∀ (W : World) (S : Sp) (sb : Option Addr) (d : Nat), Below w.heap.size w W → LsAt W sb (iV S.ints) → Calls Tryz.prog 90 #[.agg #[.int .i64 (X.getD i noNx).nd.kind, .slice (X.getD i noNx).a1 (X.getD i noNx).nd.ints.length (X.getD i noNx).c1, .slice (X.getD i noNx).a2 (X.getD i noNx).nd.texts.length (X.getD i noNx).c2, .slice (X.getD i noNx).a3 (X.getD i noNx).nd.kids.length (X.getD i noNx).c3], .agg #[.slice sb S.ints.length d, .int .i64 S.texts, .int .i64 S.least, .int .i64 S.most]] W fun e w' => e = .returned (.int .i64 (chkN (X.getD i noNx).nd S.ints S.texts S.least S.most)) ∧ Below W.heap.size W w') :=
    fun i hi W S sb d hW hb => by
      have hgr := big_no (hX.2 i hi)
      have hN := (h.belowB hW).each i hi
      exact frcheck_any _ S.ints S.texts S.least S.most _ _ _ sb _ _ _ d W hN hb (hF i hi) hgr.1 hgr.2.1 hgr.2.2.2
  have HB0 : Hid (Below w.heap.size w (w.alloc (.cells #[.slice a X.length c, .int .i64 r] 24))) := (Below.refl w.heap.size w).alloc (Nat.le_refl _) _
  have HA0 : Hid (AtN 24 (w.alloc (.cells #[.slice a X.length c, .int .i64 r] 24)) w.heap.size #[.slice a X.length c, .int .i64 r]) := AtN.new w 24 _
  have HE : Hid (tyE X = (tyG X 0).1 ∧ tyZ X = (tyG X 0).2) := ⟨rfl, rfl⟩
  have HI0 : Hid (tyG X 0 = tyG (X.drop 0) 0) := rfl
  have HST : Hid (∀ i, i < X.length → tyG (X.drop i) i = if tyN (X.getD i noNx).nd = 0 then tyG (X.drop (i + 1)) (i + 1) else (tyN (X.getD i noNx).nd, (i : Int))) := fun i hi => tyG_at X i hi
  have HTN : Hid (∀ N : Nd, tyN N = if (newSp N.kind).ok = false then 9 else chkN N (newSp N.kind).ints (newSp N.kind).texts (newSp N.kind).least (newSp N.kind).most) := fun _ => rfl
  have HEN : Hid (tyG (X.drop X.length) X.length = (0, 0)) := by show _ = _; rw [List.drop_length]; rfl
  generalize tyG X 0 = R at *
  generalize tyE X = E at *
  generalize tyZ X = Z at *
  obtain ⟨R1, R2⟩ := R
  obtain ⟨rfl, rfl⟩ := HE.out
  clear h hX hF HE
  go_enter Tryz.func42, Tryz.ntmps42
  go_wp2_with fail
  go_loopw [6] (fun iv wr => ∃ i : Nat, iv = .int .i64 i ∧ i ≤ X.length ∧ Hid ((E, Z) = tyG (X.drop i) i) ∧ Hid (AtN 24 wr w.heap.size #[.slice a X.length c, .int .i64 r]) ∧ Hid (Below w.heap.size w wr)) (fun iv _ => X.length - (intOf iv).toNat)
  case atStart => exact ⟨0, rfl, by omega, HI0, HA0, HB0⟩
  case round =>
    clear HI0 HB0 HA0
    obtain ⟨i, rfl, hi, HI, HA, HB⟩ := hrel
    have x0 : wr.cell? ⟨w.heap.size, 0, none⟩ = some (.slice a X.length c) := HA.out.cell 0
    by_cases hlt : i < X.length
    · have hlt' : (i : Int) < X.length := by omega
      have HE : Hid (∀ W, Below w.heap.size w W → ∃ b o, a = some ⟨b, o, none⟩ ∧ b < w.heap.size ∧ W.cell? ⟨b, o + i * 4, none⟩ = some (.int .i64 (X.getD i noNx).nd.kind) ∧ W.cell? ⟨b, o + i * 4 + 1, none⟩ = some (.slice (X.getD i noNx).a1 (X.getD i noNx).nd.ints.length (X.getD i noNx).c1) ∧ W.cell? ⟨b, o + i * 4 + 2, none⟩ = some (.slice (X.getD i noNx).a2 (X.getD i noNx).nd.texts.length (X.getD i noNx).c2) ∧ W.cell? ⟨b, o + i * 4 + 3, none⟩ = some (.slice (X.getD i noNx).a3 (X.getD i noNx).nd.kids.length (X.getD i noNx).c3)) := fun W hW => by
        obtain ⟨b, o, e, hb, _⟩ := HS.out.node hlt
        have hs := HS.out.belowB hW
        obtain ⟨b', o', e', _, d⟩ := hs.node hlt
        rw [e] at e'
        cases e'
        exact ⟨b, o, e, hb, d⟩
      have HC1 : Hid _ := HC.out i hlt
      have HS1 : Hid _ := HST.out i hlt
      have HT1 : Hid _ := HTN.out (X.getD i noNx).nd
      generalize X.getD i noNx = N at *
      obtain ⟨b, o, rfl, hbl, d0, d1, d2, d3⟩ := HE.out wr HB.out
      have HSp : Hid (Calls Tryz.prog 80 #[.int .i64 2, .int .i64 N.nd.kind] wr fun e w' => SpIs wr w' e (newSp N.nd.kind)) := rspec2_any N.nd.kind wr
      generalize newSp N.nd.kind = S at *
      obtain ⟨ok, ci, ct, cl, cm⟩ := S
      clear HC HST HTN HS
      generalize tyN N.nd = t at *
      go_wp2_with fail
      refine Calls.mono HSp.out ?_
      rintro e w1 ⟨v, rfl, hI, hb1⟩
      obtain ⟨sb, cap, rfl⟩ := own_shape7 hI
      have HL : Hid (LsAt w1 sb (iV ci)) := LsAt.of_own hI
      have HB1 : Hid (Below w.heap.size w (w1.alloc (.cells #[.slice sb ci.length cap, .int .i64 ct, .int .i64 cl, .int .i64 cm] 117))) := (HB.out.trans (hb1.mono HB.out.size)).alloc (by have := HB.out.size; have := hb1.size; omega) _
      have HA1 : Hid (AtN 24 (w1.alloc (.cells #[.slice sb ci.length cap, .int .i64 ct, .int .i64 cl, .int .i64 cm] 117)) w.heap.size #[.slice (some ⟨b, o, none⟩) X.length c, .int .i64 r]) := (AtN.belowAll HA.out hb1).alloc _
      have HG1 : Hid (AtN 117 (w1.alloc (.cells #[.slice sb ci.length cap, .int .i64 ct, .int .i64 cl, .int .i64 cm] 117)) w1.heap.size #[.slice sb ci.length cap, .int .i64 ct, .int .i64 cl, .int .i64 cm]) := AtN.new w1 117 _
      have HL1 : Hid (LsAt (w1.alloc (.cells #[.slice sb ci.length cap, .int .i64 ct, .int .i64 cl, .int .i64 cm] 117)) sb (iV ci)) := HL.out.alloc _
      have hs1 := hb1.size
      clear HSp hI hb1 HL HA d0 d1 d2 d3 x0
      dsimp only at *
      cases ok with
      | false =>
        have ht : t = 9 := HT1.out
        have HI1 : (E, Z) = (t, (i : Int)) := by
          have h1 := Hid.out HS1
          rw [if_neg (by omega)] at h1
          exact HI.out.trans h1
        obtain ⟨rfl, rfl⟩ := Prod.mk.inj HI1
        subst ht
        clear HI HS1 HI1 HT1 HC1 HE HL1 HG1 HA1 HB
        go_wp2_with fail
        go_ret2
        exact ⟨rfl, HB1.out⟩
      | true =>
        have ht : t = chkN N.nd ci ct cl cm := HT1.out
        obtain ⟨q, hq⟩ : ∃ q, chkN N.nd ci ct cl cm = q := ⟨_, rfl⟩
        have HCC0 : Hid (∀ W, Below w.heap.size w W → LsAt W sb (iV ci) → Calls Tryz.prog 90 #[.agg #[.int .i64 N.nd.kind, .slice N.a1 N.nd.ints.length N.c1, .slice N.a2 N.nd.texts.length N.c2, .slice N.a3 N.nd.kids.length N.c3], .agg #[.slice sb ci.length cap, .int .i64 ct, .int .i64 cl, .int .i64 cm]] W fun e w' => e = .returned (.int .i64 q) ∧ Below W.heap.size W w') := fun W hW hb => by
          have := Hid.out HC1 W ⟨true, ci, ct, cl, cm⟩ sb cap hW hb
          rw [← hq]
          exact this
        have htq : t = q := ht.trans hq
        subst htq
        clear HC1 hq ht HT1
        go_wp2_with fail
        refine facts_region none 99 (tcF N b o X.length c i w.heap.size sb ci cap ct cl cm t) (by kernel_rfl) (by kernel_rfl) (tcF_stab N b o X.length c i w.heap.size sb ci cap ct cl cm t) ?step ?fin
        case step =>
          intro i' o' ho act W hg hstill hoff hdep K hK
          have hb := below_of_grown hg
          have HBW : Hid (Below w.heap.size w W) := HB1.out.trans (hb.mono HB1.out.size)
          have A0 := AtN.belowAll HA1.out hb
          have x0 : W.cell? ⟨w.heap.size, 0, none⟩ = some (.slice (some ⟨b, o, none⟩) X.length c) := A0.cell 0
          have A1 := AtN.belowAll HG1.out hb
          have y0 : W.cell? ⟨w1.heap.size, 0, none⟩ = some (.slice sb ci.length cap) := A1.cell 0
          have y1 : W.cell? ⟨w1.heap.size, 1, none⟩ = some (.int .i64 ct) := A1.cell 1
          have y2 : W.cell? ⟨w1.heap.size, 2, none⟩ = some (.int .i64 cl) := A1.cell 2
          have y3 : W.cell? ⟨w1.heap.size, 3, none⟩ = some (.int .i64 cm) := A1.cell 3
          obtain ⟨b', o', e', _, d0, d1, d2, d3⟩ := HE.out W HBW.out
          cases e'
          have HCC : Hid _ := HCC0.out W HBW.out (LsAt.belowB HL1.out hb)
          clear hb A0 A1 HCC0 HE HL1 HG1 HA1 HB1 HB HBW HI HS1
          rcases i' with _|_|_|_|_|_|_|_|i'
          · obtain rfl := Option.some.inj ho
            have t2 : act.tmps[2]?.getD undef = .pointer (some ⟨w.heap.size, 0, none⟩) := hoff 2 (by kernel_rfl)
            clear hdep hoff hg hstill HCC
            go_simp
            exact hK _ _ (grown_refl _ _) rfl
          · obtain rfl := Option.some.inj ho
            have e0 : act.tmps[31]?.getD undef = .pointer (some ⟨w.heap.size, 0, none⟩) := hdep 0 _ (by kernel_rfl) rfl
            clear hdep hoff hg hstill HCC
            go_simp
            exact hK _ _ (grown_refl _ _) rfl
          · obtain rfl := Option.some.inj ho
            have t6 : act.tmps[6]?.getD undef = .int .i64 (i : Nat) := hoff 6 (by kernel_rfl)
            clear hdep hoff hg hstill HCC
            go_simp
            exact hK _ _ (grown_refl _ _) rfl
          · obtain rfl := Option.some.inj ho
            have e1 : act.tmps[32]?.getD undef = .slice (some ⟨b, o, none⟩) X.length c := hdep 1 _ (by kernel_rfl) rfl
            have e2 : act.tmps[33]?.getD undef = .int .i64 (i : Nat) := hdep 2 _ (by kernel_rfl) rfl
            clear hdep hoff hg hstill HCC
            go_simp
            exact hK _ _ (grown_refl _ _) rfl
          · obtain rfl := Option.some.inj ho
            have e3 : act.tmps[34]?.getD undef = .pointer (some ⟨b, o + i * 4, none⟩) := hdep 3 _ (by kernel_rfl) rfl
            clear hdep hoff hg hstill HCC
            go_simp
            exact hK _ _ (grown_refl _ _) rfl
          · obtain rfl := Option.some.inj ho
            have t7 : act.tmps[7]?.getD undef = .pointer (some ⟨w1.heap.size, 0, none⟩) := hoff 7 (by kernel_rfl)
            clear hdep hoff hg hstill HCC
            go_simp
            exact hK _ _ (grown_refl _ _) rfl
          · obtain rfl := Option.some.inj ho
            have e4 : act.tmps[35]?.getD undef = .agg #[.int .i64 N.nd.kind, .slice N.a1 N.nd.ints.length N.c1, .slice N.a2 N.nd.texts.length N.c2, .slice N.a3 N.nd.kids.length N.c3] := hdep 4 _ (by kernel_rfl) rfl
            have e5 : act.tmps[36]?.getD undef = .agg #[.slice sb ci.length cap, .int .i64 ct, .int .i64 cl, .int .i64 cm] := hdep 5 _ (by kernel_rfl) rfl
            clear hdep hoff hg hstill 
            go_simp
            refine Calls.mono HCC.out ?_
            rintro e w' ⟨rfl, hb⟩
            exact hK _ _ (grown_of_below hb _) rfl
          · obtain rfl := Option.some.inj ho
            have e6 : act.tmps[37]?.getD undef = .int .i64 t := hdep 6 _ (by kernel_rfl) rfl
            clear hdep hoff hg hstill HCC
            go_simp
            exact hK _ _ (grown_refl _ _) rfl
          · exact absurd ho (by simp)
        case fin =>
          intro V W hg hF
          have hb := below_of_grown hg
          have HB2 : Hid (Below w.heap.size w W) := HB1.out.trans (hb.mono HB1.out.size)
          have HA2 : Hid (AtN 24 W w.heap.size #[.slice (some ⟨b, o, none⟩) X.length c, .int .i64 r]) := AtN.belowAll HA1.out hb
          have v9 : V (some 9) = .int .i64 t := hF 7 _ rfl
          clear hF hg hb HCC0 HE HL1 HG1 HA1 HB1 HB
          simp only [fillA, Act.put, List.setIfInBounds_toArray, List.set_cons_zero, List.set_cons_succ, v9]
          generalize V (some 31) = z31
          generalize V (some 32) = z32
          generalize V (some 33) = z33
          generalize V (some 34) = z34
          generalize V (some 35) = z35
          generalize V (some 36) = z36
          generalize V (some 37) = z37
          clear v9
          by_cases ht : t = 0
          · have HI1 : Hid ((E, Z) = tyG (X.drop (i + 1)) (i + 1)) := by
              have h1 := Hid.out HS1
              rw [if_pos ht] at h1
              exact HI.out.trans h1
            clear HI HS1
            go_wp2_with fail
            go_roundw
            case rel => exact ⟨i + 1, by go_num, by omega, HI1, HA2, HB2⟩
            case measure => simp [intOf]; omega
          · have HI1 : (E, Z) = (t, (i : Int)) := by
              have h1 := Hid.out HS1
              rw [if_neg ht] at h1
              exact HI.out.trans h1
            obtain ⟨rfl, rfl⟩ := Prod.mk.inj HI1
            clear HI HS1 HI1
            go_wp2_with fail
            go_ret2
            exact ⟨rfl, HB2.out⟩
    · have hlt' : ¬ (i : Int) < X.length := by omega
      obtain rfl : i = X.length := by omega
      have HI1 : (E, Z) = ((0 : Int), (0 : Int)) := HI.out.trans HEN.out
      obtain ⟨rfl, rfl⟩ := Prod.mk.inj HI1
      clear HI HI1 HEN HC HST HTN HS
      go_wp2_with fail
      go_ret2
      exact ⟨rfl, HB.out⟩

end Go.Proofs.YtgoffkfpdigeeaaGreatDoor
