/- The contracts of the program's Equal, Share, sizeOver and Size. -/
import Derived.Test.YtcdpjaaiojpelaaDoorVAdd
import Derived.Test.YtcdpjaaiojpelaaDoorVTr
namespace Go.Proofs.YtcdpjaaiojpelaaDoor
open Go.RowKit Go.Maps Go.WideMaps Go.Sort

/-- Two scenes met one behind the other. -/
theorem two_iff {A B : List Nd} (hA : Cn A) (hB : Cn B) : (addA [] A).2.getD (A.length - 1) 0 = (addA (shL A) B).2.getD (B.length - 1) 0 ↔ Alk A B (A.length - 1) (B.length - 1) := by
  have h1 := sh_tb hA.dn
  have h2 := addA_all h1.nd h1.dn hB.dn
  obtain ⟨t, ht⟩ := h2.pre
  have n1 : Num ((addA (shL A) B).1) A (addA [] A).2 := by
    rw [ht]
    refine (h1.num hA.dn).more ?_
    rw [← ht]
    exact h2.nd
  exact n1.iff (h2.num hB.dn) (by have := hA.pos; omega) (by have := hB.pos; omega)
/-- Do they have the same tree? -/
def SameT (X Y : List Nx) (r s : Int) : Prop := Alk (X.map Nx.nd) (Y.map Nx.nd) r.toNat s.toNat
theorem sameT_iff {X Y : List Nx} {r s : Int} (hX : RightIs X r) (hY : RightIs Y s) : SameT X Y r s ↔ Alk (cX X r) (cX Y s) ((cX X r).length - 1) ((cX Y s).length - 1) := by
  have h1 := can_alk hX
  have h2 := can_alk hY
  exact ⟨fun h => h1.symm.trans (h.trans h2), fun h => h1.trans (h.trans h2.symm)⟩
theorem two_sameT {X Y : List Nx} {r s : Int} (hX : RightIs X r) (hY : RightIs Y s) : (addA [] (cX X r)).2.getD (X.length - 1) 0 = (addA (shL (cX X r)) (cX Y s)).2.getD (Y.length - 1) 0 ↔ SameT X Y r s := by
  rw [sameT_iff hX hY, ← two_iff (cX_cn hX) (cX_cn hY), cX_len hX, cX_len hY]

theorem AddOut.yes {S0 : Nat → Prop} {X : List Nx} {r : Int} {B g gm : Nat} {v : Value} {A0 : List Nd} {w : World} {K : FuncId} {args : Array Value} (h : Calls Tryd.prog K args w fun e w' => AddOut S0 X r B g gm v A0 w w' e) (hR : RightIs X r) : Calls Tryd.prog K args w fun e w' => ∃ v' L', e = .returned (.tuple #[.int .i64 ((addA A0 (cX X r)).2.getD (X.length - 1) 0 : Nat), .int .i64 0]) ∧ List.map Nx.nd L' = (addA A0 (cX X r)).1 ∧ Tr S0 w' B g gm v' L' ∧ (∀ k, TrS g gm v' k → TrS g gm v k ∨ w.heap.size ≤ k) ∧ Fr (TrS g gm v) w w' := by
  refine h.mono ?_
  rintro e w' ⟨h1, _, h3⟩
  obtain ⟨v', L', q1, q2, q3, q4⟩ := h1 hR
  exact ⟨v', L', q1, q2, q3, q4, h3⟩
theorem AddOut.no {S0 : Nat → Prop} {X : List Nx} {r : Int} {B g gm : Nat} {v : Value} {A0 : List Nd} {w : World} {K : FuncId} {args : Array Value} (h : Calls Tryd.prog K args w fun e w' => AddOut S0 X r B g gm v A0 w w' e) (hR : ¬ RightIs X r) : Calls Tryd.prog K args w fun e w' => ∃ n z, e = .returned (.tuple #[.int .i64 0, .int .i64 n]) ∧ CheckIs X r n z ∧ n ≠ 0 ∧ Fr (TrS g gm v) w w' := by
  refine h.mono ?_
  rintro e w' ⟨_, h2, h3⟩
  obtain ⟨n, z, q1, q2, q3⟩ := h2 hR
  exact ⟨n, z, q1, q2, q3, h3⟩

def EqOut (X Y : List Nx) (r s : Int) (w w' : World) (e : Ending) : Prop := ∃ b, e = .returned (.bool b) ∧ (b = true ↔ RightIs X r ∧ RightIs Y s ∧ SameT X Y r s) ∧ Below w.heap.size w w'
theorem dec_nat (m n : Nat) : decide ((m : Int) = (n : Int)) = decide (m = n) := by
  by_cases h : m = n
  · simp [h]
  · rw [decide_eq_false h, decide_eq_false (by omega)]

set_option maxRecDepth 100000 in
set_option maxHeartbeats 4000000 in
theorem uequal_any (X Y : List Nx) (a b : Option Addr) (c d : Nat) (r s : Int) (w : World) (h : ScAt w a X) (h' : ScAt w b Y) (hX : Small X) (hY : Small Y) (rX : RgX X) (rY : RgX Y) (ht : Tab w) :
    Calls Tryd.prog 10 #[.agg #[.slice a X.length c, .int .i64 r], .agg #[.slice b Y.length d, .int .i64 s]] w fun e w' => EqOut X Y r s w w' e := by
  have hnx := hX.1
  have HA : Hid (∀ (o1 o2 : Obj), o1 = .cells #[.slice a X.length c, .int .i64 r] 24 → o2 = .cells #[.slice b Y.length d, .int .i64 s] 24 → AtN 24 ((w.alloc o1).alloc o2) w.heap.size #[.slice a X.length c, .int .i64 r] ∧ AtN 24 ((w.alloc o1).alloc o2) (w.heap.size + 1) #[.slice b Y.length d, .int .i64 s] ∧ Below w.heap.size w ((w.alloc o1).alloc o2) ∧ ((w.alloc o1).alloc o2).heap.size = w.heap.size + 2) := by
    rintro _ _ rfl rfl
    exact ⟨(AtN.new w 24 _).alloc _, mk_at (AtN.new (w.alloc _) 24 _) (show _ = w.heap.size + 1 by simp), ((Below.refl w.heap.size w).alloc (Nat.le_refl _) _).alloc (by simp) _, by simp⟩
  have HS : Hid (ScAt w a X ∧ ScAt w b Y ∧ Small X ∧ Small Y ∧ RgX X ∧ RgX Y ∧ Tab w) := ⟨h, h', hX, hY, rX, rY, ht⟩
  clear h h' hX hY rX rY ht
  go_enter Tryd.func10, Tryd.ntmps10
  go_wp2_with fail
  obtain ⟨h1, h2, h3, h4⟩ := HA.out _ _ rfl rfl
  refine Calls.mono (trees_any (fun _ => False) _) ?_
  rintro e w1 ⟨rfl, ht1, hb1⟩
  have HB1 : Hid (Below w.heap.size w w1) := h3.trans (hb1.mono h3.size)
  have hsz : w.heap.size + 2 ≤ w1.heap.size := by have := hb1.size; rw [h4] at this; exact this
  have x1 := h1.belowAll hb1
  have x2 := h2.belowAll hb1
  rw [h4] at ht1 ⊢
  have k0 : w1.cell? ⟨w.heap.size, 0, none⟩ = some (.slice a X.length c) := x1.cell 0
  have k1 : w1.cell? ⟨w.heap.size, 1, none⟩ = some (.int .i64 r) := x1.cell 1
  have HX2 : Hid (AtN 24 w1 (w.heap.size + 1) #[.slice b Y.length d, .int .i64 s]) := x2
  have HC : Hid (Calls Tryd.prog 26 #[.pointer (some ⟨w.heap.size + 2 + 1, 0, none⟩), .agg #[.slice a X.length c, .int .i64 r]] w1 fun e w' => AddOut (fun _ => False) X r (w.heap.size + 2) (w.heap.size + 2 + 1) (w.heap.size + 2) (.slice none 0 0) [] w1 w' e) :=
    add_any X a c r w1 (HS.out.1.belowB HB1.out) HS.out.2.2.1 HS.out.2.2.2.2.1 ht1 (by simp) (fun i hi => by simp at hi) hsz ((HS.out.2.2.2.2.2.2.b.on HB1.out).up (by omega)) (by simp) (fun _ q => q.elim)
  clear HA h1 h2 h3 h4 ht1 hb1 x1 x2
  have hS : ∀ k, TrS (w.heap.size + 2 + 1) (w.heap.size + 2) (.slice none 0 0) k → w.heap.size + 2 ≤ k := fun k hk => by
    rcases hk with rfl | rfl | hk
    · omega
    · omega
    · cases hk
  by_cases hR : RightIs X r
  · have hCy := AddOut.yes HC.out hR
    generalize hp : (addA [] (cX X r)).2.getD (X.length - 1) 0 = p at hCy
    have HP : Hid ((addA [] (cX X r)).2.getD (X.length - 1) 0 = p) := hp
    have HCy : Hid _ := hCy
    clear hp hCy
    go_wp2_with (go_at_call 26; refine Calls.mono HCy.out ?_; rintro e w2 ⟨v2, L2, rfl, hL2, ht2, hbk, hf2⟩; refine Hid.out ?_)
    refine Lib.hid ?_
    have hB2 : Below (w.heap.size + 2) w1 w2 := Fr.below (Below.refl _ _) hf2 hS hsz
    have HB2 : Hid (Below w.heap.size w w2) := HB1.out.trans (hB2.mono (by omega))
    have hsz2 := hB2.size
    have x2 : AtN 24 w2 (w.heap.size + 1) #[.slice b Y.length d, .int .i64 s] := HX2.out.below hB2 (by omega)
    have k2 : w2.cell? ⟨w.heap.size + 1, 0, none⟩ = some (.slice b Y.length d) := x2.cell 0
    have k3 : w2.cell? ⟨w.heap.size + 1, 1, none⟩ = some (.int .i64 s) := x2.cell 1
    have htb := sh_tb (cX_cn hR).dn
    have HC2 : Hid (Calls Tryd.prog 26 #[.pointer (some ⟨w.heap.size + 2 + 1, 0, none⟩), .agg #[.slice b Y.length d, .int .i64 s]] w2 fun e w' => AddOut (fun _ => False) Y s (w.heap.size + 2) (w.heap.size + 2 + 1) (w.heap.size + 2) v2 (shL (cX X r)) w2 w' e) := by
      have := add_any Y b d s w2 (HS.out.2.1.belowB HB2.out) HS.out.2.2.2.1 HS.out.2.2.2.2.2.1 ht2 (by rw [hL2]; exact htb.nd) (by rw [hL2]; exact htb.dn) (by omega) ((HS.out.2.2.2.2.2.2.b.on HB2.out).up (by omega)) (by
        have h5 := congrArg List.length hL2
        have h6 := sh_few (cX_cn hR).dn
        rw [cX_len hR] at h6
        rw [List.length_map] at h5
        have h7 : (addA [] (cX X r)).1.length = (shL (cX X r)).length := rfl
        omega) (fun _ q => q.elim)
      rw [hL2] at this
      exact this
    have HR : Hid (RightIs X r ∧ ∀ k, TrS (w.heap.size + 2 + 1) (w.heap.size + 2) v2 k → w.heap.size + 2 ≤ k) := ⟨hR, ht2.ge⟩
    clear hf2 hS hB2 HC HCy HB1 HX2 HS hR hL2 ht2 hbk htb x2 k0 k1
    by_cases hR2 : RightIs Y s
    · have HCy : Hid _ := AddOut.yes HC2.out hR2
      have HQ : Hid (p = (addA (shL (cX X r)) (cX Y s)).2.getD (Y.length - 1) 0 ↔ SameT X Y r s) := by
        rw [← HP.out]
        exact two_sameT HR.out.1 hR2
      have HR2 : Hid (RightIs Y s) := hR2
      clear hR2 HC2
      generalize (addA (shL (cX X r)) (cX Y s)).2.getD (Y.length - 1) 0 = q at *
      go_wp2_with (go_at_call 26; refine Calls.mono HCy.out ?_; rintro e w3 ⟨v3, L3, rfl, -, -, -, hf3⟩; refine Hid.out ?_)
      refine Lib.hid ?_
      have hB3 : Below (w.heap.size + 2) w2 w3 := Fr.below (Below.refl _ _) hf3 HR.out.2 (by omega)
      have HB3 : Hid (Below w.heap.size w w3) := HB2.out.trans (hB3.mono (by omega))
      clear hf3 hB3 HB2 HCy k2 k3
      go_wp2_with fail
      go_ret
      refine ⟨((p : Int) == (q : Int)), rfl, ?_, HB3.out⟩
      rw [beq_iff_eq, show ((p : Int) = (q : Int)) ↔ p = q from ⟨fun h => by omega, fun h => by omega⟩, HQ.out]
      exact ⟨fun h => ⟨HR.out.1, HR2.out, h⟩, fun h => h.2.2⟩
    · have HCy : Hid _ := AddOut.no HC2.out hR2
      clear HC2
      go_wp2_with (go_at_call 26; refine Calls.mono HCy.out ?_; rintro e w3 ⟨n, z, rfl, -, hn, hf3⟩; refine Hid.out ?_)
      refine Lib.hid ?_
      have hB3 : Below (w.heap.size + 2) w2 w3 := Fr.below (Below.refl _ _) hf3 HR.out.2 (by omega)
      have HB3 : Hid (Below w.heap.size w w3) := HB2.out.trans (hB3.mono (by omega))
      clear hf3 hB3 HB2 HCy k2 k3
      go_wp2_with fail
      go_ret
      exact ⟨false, rfl, by simp [hR2], HB3.out⟩
  · have HCy : Hid _ := AddOut.no HC.out hR
    go_wp2_with (go_at_call 26; refine Calls.mono HCy.out ?_; rintro e w2 ⟨n, z, rfl, -, hn, hf2⟩; refine Hid.out ?_)
    refine Lib.hid ?_
    have hB2 : Below (w.heap.size + 2) w1 w2 := Fr.below (Below.refl _ _) hf2 hS hsz
    have HB2 : Hid (Below w.heap.size w w2) := HB1.out.trans (hB2.mono (by omega))
    clear hf2 hS hB2 HC HCy HB1 HX2 HS k0 k1
    go_wp2_with fail
    go_ret
    exact ⟨false, rfl, by simp [hR], HB2.out⟩

/-- What Share tells. -/
def ShOut (X : List Nx) (r : Int) (w w' : World) (e : Ending) : Prop :=
  (RightIs X r → ∃ L a c, e = .returned (.tuple #[.agg #[.slice a (List.length L) c, .int .i64 ((List.length L : Int) - 1)], .int .i64 0]) ∧ L.map Nx.nd = shL (cX X r) ∧ ScAt w' a L) ∧
  (¬ RightIs X r → ∃ n z, e = .returned (.tuple #[.agg #[.slice none 0 0, .int .i64 0], .int .i64 n]) ∧ CheckIs X r n z ∧ n ≠ 0) ∧ Below w.heap.size w w'

set_option maxRecDepth 100000 in
set_option maxHeartbeats 4000000 in
theorem ushare_any (X : List Nx) (a : Option Addr) (c : Nat) (r : Int) (w : World) (h : ScAt w a X) (hX : Small X) (rX : RgX X) (ht : Tab w) :
    Calls Tryd.prog 16 #[.agg #[.slice a X.length c, .int .i64 r]] w fun e w' => ShOut X r w w' e := by
  have HA : Hid (∀ (o1 o2 : Obj), o1 = .cells #[.slice a X.length c, .int .i64 r] 24 → o2 = .cells #[.slice none 0 0, .int .i64 0] 24 → AtN 24 ((w.alloc o1).alloc o2) w.heap.size #[.slice a X.length c, .int .i64 r] ∧ AtN 24 ((w.alloc o1).alloc o2) (w.heap.size + 1) #[.slice none 0 0, .int .i64 0] ∧ Below w.heap.size w ((w.alloc o1).alloc o2) ∧ ((w.alloc o1).alloc o2).heap.size = w.heap.size + 2) := by
    rintro _ _ rfl rfl
    exact ⟨(AtN.new w 24 _).alloc _, mk_at (AtN.new (w.alloc _) 24 _) (show _ = w.heap.size + 1 by simp), ((Below.refl w.heap.size w).alloc (Nat.le_refl _) _).alloc (by simp) _, by simp⟩
  have HS : Hid (ScAt w a X ∧ Small X ∧ RgX X ∧ Tab w) := ⟨h, hX, rX, ht⟩
  clear h hX rX ht
  go_enter Tryd.func16, Tryd.ntmps16
  go_wp2_with fail
  obtain ⟨h1, h2, h3, h4⟩ := HA.out _ _ rfl rfl
  refine Calls.mono (trees_any (fun b => b = w.heap.size + 1) _) ?_
  rintro e w1 ⟨rfl, ht1, hb1⟩
  have HB1 : Hid (Below w.heap.size w w1) := h3.trans (hb1.mono h3.size)
  have hsz : w.heap.size + 2 ≤ w1.heap.size := by have := hb1.size; rw [h4] at this; exact this
  have x1 := h1.belowAll hb1
  have x2 := h2.belowAll hb1
  rw [h4] at ht1 ⊢
  have k0 : w1.cell? ⟨w.heap.size, 0, none⟩ = some (.slice a X.length c) := x1.cell 0
  have k1 : w1.cell? ⟨w.heap.size, 1, none⟩ = some (.int .i64 r) := x1.cell 1
  have HX2 : Hid (AtN 24 w1 (w.heap.size + 1) #[.slice none 0 0, .int .i64 0]) := x2
  have HC : Hid (Calls Tryd.prog 26 #[.pointer (some ⟨w.heap.size + 2 + 1, 0, none⟩), .agg #[.slice a X.length c, .int .i64 r]] w1 fun e w' => AddOut (fun b => b = w.heap.size + 1) X r (w.heap.size + 2) (w.heap.size + 2 + 1) (w.heap.size + 2) (.slice none 0 0) [] w1 w' e) :=
    add_any X a c r w1 (HS.out.1.belowB HB1.out) HS.out.2.1 HS.out.2.2.1 ht1 (by simp) (fun i hi => by simp at hi) hsz ((HS.out.2.2.2.b.on HB1.out).up (by omega)) (by simp) (fun b e => by omega)
  clear HA h1 h2 h3 h4 ht1 hb1 x1 x2
  have hS : ∀ k, TrS (w.heap.size + 2 + 1) (w.heap.size + 2) (.slice none 0 0) k → w.heap.size + 2 ≤ k := fun k hk => by
    rcases hk with rfl | rfl | hk
    · omega
    · omega
    · cases hk
  have HW : Hid (∀ w2, Below (w.heap.size + 2) w1 w2 → AtN 24 w2 (w.heap.size + 1) #[.slice none 0 0, .int .i64 0] ∧ ∀ v0 v1, AtN 24 ((w2.setCell ⟨w.heap.size + 1, 0, none⟩ v0).setCell ⟨w.heap.size + 1, 1, none⟩ v1) (w.heap.size + 1) #[v0, v1] ∧ Below w.heap.size w ((w2.setCell ⟨w.heap.size + 1, 0, none⟩ v0).setCell ⟨w.heap.size + 1, 1, none⟩ v1) ∧ Fr (fun b => b = w.heap.size + 1) w2 ((w2.setCell ⟨w.heap.size + 1, 0, none⟩ v0).setCell ⟨w.heap.size + 1, 1, none⟩ v1)) := fun w2 hb => by
    have x2 : AtN 24 w2 (w.heap.size + 1) #[.slice none 0 0, .int .i64 0] := HX2.out.below hb (by omega)
    have hF : ∀ v0 v1, Fr (fun b => b = w.heap.size + 1) w2 ((w2.setCell ⟨w.heap.size + 1, 0, none⟩ v0).setCell ⟨w.heap.size + 1, 1, none⟩ v1) := fun v0 v1 => ((Fr.refl (fun b => b = w.heap.size + 1) w2).set ⟨w.heap.size + 1, 0, none⟩ rfl v0).set ⟨w.heap.size + 1, 1, none⟩ rfl v1
    have hBw : Below w.heap.size w w2 := HB1.out.trans (hb.mono (by omega))
    refine ⟨x2, fun v0 v1 => ⟨by simpa using (x2.set 0 v0).set 1 v1, Fr.below hBw (hF v0 v1) (fun b e => by omega) hBw.size, hF v0 v1⟩⟩
  by_cases hR : RightIs X r
  · have HCy : Hid _ := AddOut.yes HC.out hR
    have hroot := sh_root (cX_cn hR)
    have HRt : Hid ((((addA [] (cX X r)).2.getD (X.length - 1) 0 : Nat) : Int) = ((shL (cX X r)).length : Int) - 1) := by
      unfold shR at hroot
      rw [cX_len hR] at hroot
      exact hroot
    have HR : Hid (RightIs X r) := hR
    clear hR hroot HC
    generalize (((addA [] (cX X r)).2.getD (X.length - 1) 0 : Nat) : Int) = p at *
    go_wp2_with (go_at_call 26; refine Calls.mono HCy.out ?_; rintro e w2 ⟨v2, L2, rfl, hL2, ht2, hbk, hf2⟩; refine Hid.out ?_)
    refine Lib.hid ?_
    have hB2 : Below (w.heap.size + 2) w1 w2 := Fr.below (Below.refl _ _) hf2 hS hsz
    obtain ⟨ao, cap, rfl⟩ := own_shape4 ht2.own
    have n0 : w2.cell? ⟨w.heap.size + 2 + 1, 0, none⟩ = some (.slice ao L2.length cap) := ht2.cells.cell 0
    obtain ⟨x2, hw⟩ := HW.out w2 hB2
    have z0 : w2.cell? ⟨w.heap.size + 1, 0, none⟩ = some (.slice none 0 0) := x2.cell 0
    have z1 : w2.cell? ⟨w.heap.size + 1, 1, none⟩ = some (.int .i64 0) := x2.cell 1
    have f0 := x2.fz 0
    have f1 := x2.fz 1
    have hl1 := x2.lt
    have Hw : Hid _ := hw
    have HL : Hid (L2.map Nx.nd = shL (cX X r)) := hL2
    have HSc : Hid (ScAt w2 ao L2 ∧ Tr (fun b => b = w.heap.size + 1) w2 (w.heap.size + 2) (w.heap.size + 2 + 1) (w.heap.size + 2) (.slice ao L2.length cap) L2 ∧ ∀ j, j < L2.length → NdAt w2 (L2.getD j noNx).nd (L2.getD j noNx).a1 (L2.getD j noNx).a2 (L2.getD j noNx).a3) := ⟨ht2.scAt, ht2, fun j hj => (ht2.each j hj).ndAt⟩
    clear hf2 hB2 hS HCy hL2 ht2 hbk x2 hw HW HX2 HS HB1 k0 k1
    go_wp2_with fail
    obtain ⟨A, Bq, F⟩ := Hw.out (.slice ao L2.length cap) (.int .i64 p)
    have k0 := A.cell 0
    have k1 := A.cell 1
    have hlen : ((L2.length : Nat) : Int) - 1 = p := by
      have h5 := congrArg List.length HL.out
      rw [List.length_map] at h5
      rw [h5, ← HRt.out]
    have hsc : ScAt ((w2.setCell ⟨w.heap.size + 1, 0, none⟩ (.slice ao L2.length cap)).setCell ⟨w.heap.size + 1, 1, none⟩ (.int .i64 p)) ao L2 :=
      (HSc.out.2.1.fr F (fun k hk e => by have := HSc.out.2.1.ge k hk; omega) (fun b _ hno _ => hno)).scAt
    exact bodyPost_ret (v := .tuple #[.agg #[.slice ao L2.length cap, .int .i64 p], .int .i64 0]) (by simp [results, Tryd.results16, go_sem, k0, k1]) rfl ⟨fun _ => ⟨L2, ao, cap, by rw [hlen], HL.out, hsc⟩, fun q => absurd HR.out q, Bq⟩
  · have HCy : Hid _ := AddOut.no HC.out hR
    go_wp2_with (go_at_call 26; refine Calls.mono HCy.out ?_; rintro e w2 ⟨n, z, rfl, hck, hn, hf2⟩; refine Hid.out ?_)
    refine Lib.hid ?_
    have hB2 : Below (w.heap.size + 2) w1 w2 := Fr.below (Below.refl _ _) hf2 hS hsz
    obtain ⟨x2, hw⟩ := HW.out w2 hB2
    have z0 : w2.cell? ⟨w.heap.size + 1, 0, none⟩ = some (.slice none 0 0) := x2.cell 0
    have z1 : w2.cell? ⟨w.heap.size + 1, 1, none⟩ = some (.int .i64 0) := x2.cell 1
    have f0 := x2.fz 0
    have f1 := x2.fz 1
    have hl1 := x2.lt
    have Hw : Hid _ := hw
    have HCk : Hid (CheckIs X r n z) := hck
    clear hf2 hB2 hS HCy x2 hw HW HX2 HS HB1 k0 k1 HC hck
    go_wp2_with fail
    obtain ⟨A, Bq, F⟩ := Hw.out (.slice none 0 0) (.int .i64 0)
    have k0 := A.cell 0
    have k1 := A.cell 1
    exact bodyPost_ret (v := .tuple #[.agg #[.slice none 0 0, .int .i64 0], .int .i64 n]) (by simp [results, Tryd.results16, go_sem, k0, k1]) rfl ⟨fun q => absurd q hR, fun _ => ⟨n, z, rfl, HCk.out, hn⟩, Bq⟩

end Go.Proofs.YtcdpjaaiojpelaaDoor
namespace Go.Proofs.YtcdpjaaiojpelaaDoor
open Go.RowKit Go.Maps Go.WideMaps Go.Sort

theorem cap_getD (m : Nat) (l : List Nat) (j : Nat) (h : j < l.length) : (l.map (cap m)).getD j 0 = cap m (l.getD j 0) := by simp [h]
theorem sumK_mono (l : List Nat) (ks : List Int) (k : Nat) : sumK l (ks.take k) ≤ sumK l ks := by
  have h : sumK l ks = sumK l (ks.take k) + sumK l (ks.drop k) := by
    unfold sumK
    rw [← List.sum_append, ← List.map_append, List.take_append_drop]
  omega

set_option maxRecDepth 100000 in
set_option maxHeartbeats 1000000 in
theorem sizeover_any (ks : List Int) (a3 : Option Addr) (c3 gz n m : Nat) (l : List Nat) (w : World) (hk : LsAt w a3 (iV ks)) (hz : AtN 3 w gz (nsV (l.map (cap m)) n)) (hln : l.length ≤ n) (hkl : ∀ k, k < ks.length → ∃ j : Nat, ks.getD k 0 = (j : Int) ∧ j < l.length) (h3 : ks.length ≤ 300) (hm : m ≤ 1073741824) :
    Calls Tryd.prog 30 #[.slice a3 ks.length c3, .slice (some ⟨gz, 0, none⟩) n n, .int .i64 (m : Int)] w fun e w' => e = .returned (.int .i64 (cap m (1 + sumK l ks) : Nat)) ∧ w' = w := by
  have HK : Hid (LsAt w a3 (iV ks) ∧ AtN 3 w gz (nsV (l.map (cap m)) n) ∧ ∀ k, k < ks.length → ∃ j : Nat, ks.getD k 0 = (j : Int) ∧ j < l.length) := ⟨hk, hz, hkl⟩
  have hgz := hz.lt
  have hmin : min (1 : Int) (m : Int) = ((min 1 m : Nat) : Int) := by omega
  clear hk hz hkl
  go_enter Tryd.func30, Tryd.ntmps30
  go_wp2_with fail
  go_loop [7, 14] (fun sv iv => ∃ (t k : Nat), sv = .int .i64 t ∧ iv = .int .i64 k ∧ k ≤ ks.length ∧ Hid (t = min 1 m + sumK l (ks.take k)) ∧ t ≤ m ∧ (k = 0 ∨ 1 ≤ m)) (fun _ iv => ks.length - (intOf iv).toNat)
  case atStart => exact ⟨min 1 m, 0, rfl, rfl, by omega, by simp [Hid, sumK], by omega, .inl rfl⟩
  case round =>
    clear hmin
    obtain ⟨t, k, rfl, rfl, hk, HT, htm, hk0⟩ := hrel
    by_cases hlt : k < ks.length
    · have hlt' : (k : Int) < ks.length := by omega
      obtain ⟨b, o, rfl, hbl, d0⟩ := HK.out.1.at (iV_at ks k hlt)
      obtain ⟨j, hj, hjl⟩ := HK.out.2.2 k hlt
      rw [hj] at d0
      have hjn : j < n := by omega
      have hjn' : (j : Int) < n := by omega
      have z0 : w.cell? ⟨gz, j, none⟩ = some (.int .i64 (cap m (l.getD j 0) : Nat)) := by
        rw [HK.out.2.1.cell j, nsV_at (by rw [List.length_map]; exact hjl), cap_getD m l j hjl]
      have hcm : cap m (l.getD j 0) ≤ m := by unfold cap; omega
      have hst : sumK l (ks.take (k + 1)) = sumK l (ks.take k) + l.getD j 0 := by rw [sumK_take l ks k hlt, hj, Int.toNat_natCast]
      have hmo := sumK_mono l ks (k + 1)
      have HE : Hid (m - t ≤ cap m (l.getD j 0) → cap m (1 + sumK l ks) = m) := fun q => by
        have := HT.out
        unfold cap at q ⊢
        omega
      have HF : Hid (¬ m - t ≤ cap m (l.getD j 0) → t + cap m (l.getD j 0) = min 1 m + sumK l (ks.take (k + 1)) ∧ t + cap m (l.getD j 0) ≤ m ∧ 1 ≤ m) := fun q => by
        have := HT.out
        unfold cap at q ⊢
        omega
      clear hst hmo HT HK hj
      generalize cap m (l.getD j 0) = x at *
      by_cases hx : m - t ≤ x
      · have hx' : (m : Int) - t ≤ x := by omega
        have HR := HE.out hx
        have HR' : Hid _ := HR
        clear HE HF HR
        go_wp2_with fail
        go_ret
        exact ⟨by rw [HR'.out]; rfl, rfl⟩
      · have hx' : ¬ ((m : Int) - t ≤ x) := by omega
        obtain ⟨q1, q2, q3⟩ := HF.out hx
        have HQ : Hid _ := q1
        clear HE HF q1
        go_wp2_with fail
        go_round
        case rel => exact ⟨t + x, k + 1, by go_num, by go_num, by omega, HQ.out, q2, .inr q3⟩
        case measure => simp [intOf]; omega
    · have hlt' : ¬ (k : Int) < ks.length := by omega
      obtain rfl : k = ks.length := by omega
      have HR : Hid (cap m (1 + sumK l ks) = t) := by
        have h1 := HT.out
        rw [List.take_length] at h1
        show cap m (1 + sumK l ks) = t
        unfold cap
        rcases hk0 with h0 | h0
        · have : ks = [] := List.eq_nil_of_length_eq_zero h0
          subst this
          simp [sumK] at h1 ⊢
          omega
        · omega
      clear HT HK
      go_wp2_with fail
      go_ret
      exact ⟨by rw [HR.out]; rfl, rfl⟩

/-- What Size tells. -/
def SzOut (X : List Nx) (r most : Int) (w w' : World) (e : Ending) : Prop := (RightIs X r → e = .returned (.int .i64 (cap most.toNat ((szL (cX X r)).getD (X.length - 1) 0) : Nat))) ∧ (¬ RightIs X r → e = .returned (.int .i64 0)) ∧ Below w.heap.size w w'
theorem max_nat (z : Int) : max z 0 = ((z.toNat : Nat) : Int) := by omega
structure SizI (w1 wr : World) (Y : List Nx) (C : List Nd) (gn m i : Nat) : Prop where
  num : AtN 3 wr (w1.heap.size + 1) (nsV ((szL (C.take i)).map (cap m)) Y.length)
  c : AtN 24 wr w1.heap.size #[.slice (some ⟨gn, 0, none⟩) Y.length Y.length, .int .i64 ((Y.length : Int) - 1)]
  bel : Below w1.heap.size w1 wr
theorem SizI.next {w1 wr W : World} {Y : List Nx} {C : List Nd} {gn m i : Nat} (h : SizI w1 wr Y C gn m i) (hi : i < C.length) (hC : C.length = Y.length) (hb : Below wr.heap.size wr W) : SizI w1 (W.setCell ⟨w1.heap.size + 1, i, none⟩ (.int .i64 (cap m (1 + sumK (szL (C.take i)) (atN C i).kids) : Nat))) Y C gn m (i + 1) := by
  have hl := szL_len C i (by omega)
  have n2 := h.num.belowAll hb
  have F : Fr (fun b => b = w1.heap.size + 1) W (W.setCell ⟨w1.heap.size + 1, i, none⟩ (.int .i64 (cap m (1 + sumK (szL (C.take i)) (atN C i).kids) : Nat))) := (Fr.refl (fun b => b = w1.heap.size + 1) W).set ⟨w1.heap.size + 1, i, none⟩ rfl _
  have hbw : Below w1.heap.size w1 W := h.bel.trans (hb.mono h.bel.size)
  refine ⟨?_, (h.c.belowAll hb).fr F (by omega), Fr.below hbw F (fun b e => by omega) hbw.size⟩
  have := n2.set i (.int .i64 (cap m (1 + sumK (szL (C.take i)) (atN C i).kids) : Nat))
  rw [szL_take hi, List.map_append, List.map_singleton, ← nsV_set (by rw [List.length_map, hl]; omega), List.length_map, hl]
  exact this

set_option maxRecDepth 100000 in
set_option maxHeartbeats 2000000 in
theorem usize_any (X : List Nx) (a : Option Addr) (c : Nat) (r most : Int) (w : World) (h : ScAt w a X) (hX : Small X) (hm : most ≤ 1073741824) :
    Calls Tryd.prog 14 #[.agg #[.slice a X.length c, .int .i64 r], .int .i64 most] w fun e w' => SzOut X r most w w' e := by
  obtain ⟨i0, hi0, hz0, hz1, hz2⟩ := info_parts Tryd.infoI7
  have hn := hX.1
  have HS : Hid (Small X) := hX
  have HC : Hid (∀ o, o = .cells #[.slice a X.length c, .int .i64 r] 24 → Below w.heap.size w (w.alloc o) ∧ Calls Tryd.prog 22 #[.agg #[.slice a X.length c, .int .i64 r]] (w.alloc o) fun e w' => CanonOut2 X r (w.alloc o) w' e) := by
    rintro _ rfl
    exact ⟨(Below.refl w.heap.size w).alloc (Nat.le_refl _) _, canon2_any X a c r _ (h.alloc _) hX⟩
  have hmx := max_nat most
  clear h hX
  go_enter Tryd.func14, Tryd.ntmps14
  go_wp2_with fail
  obtain ⟨hb0, hc0⟩ := HC.out _ rfl
  refine Calls.mono hc0 ?_
  rintro e w1 hC
  have HB1 : Hid (Below w.heap.size w w1) := hb0.trans (hC.2.2.mono hb0.size)
  by_cases hR : RightIs X r
  · obtain ⟨Y, gn, rfl, hY, hO⟩ := hC.1 hR
    have hYl : Y.length = X.length := (can_ren hR hY).len
    have HO : Hid (ScAt w1 (some ⟨gn, 0, none⟩) Y ∧ AtN 42 w1 gn (nxV Y).toArray) := ⟨hO.scAt, hO.nodes⟩
    have HY : Hid (RightIs X r ∧ Y.map Nx.nd = cX X r ∧ Y.length = X.length ∧ (cX X r).length = Y.length ∧ Dn (cX X r)) := ⟨hR, hY, hYl, by rw [cX_len hR, hYl], (cX_cn hR).dn⟩
    rw [← hYl] at hn
    have hX1 : ((X.length : Int) - 1) = ((Y.length : Int) - 1) := by omega
    rw [hX1]
    clear hC hO hc0 hb0 HC hX1 hY hR hYl
    have hmk : (Instr.makeSlice 38 (.int .i64 (Y.length : Int)) (.int .i64 (Y.length : Int))).run Tryd.prog (w1.alloc (.cells #[.slice (some ⟨gn, 0, none⟩) Y.length Y.length, .int .i64 ((Y.length : Int) - 1)] 24)) = .ok (.slice (some ⟨w1.heap.size + 1, 0, none⟩) Y.length Y.length) ((w1.alloc (.cells #[.slice (some ⟨gn, 0, none⟩) Y.length Y.length, .int .i64 ((Y.length : Int) - 1)] 24)).alloc (.cells (nsV [] Y.length) 3)) := by
      have := run_make (P := Tryd.prog) (w1.alloc (.cells #[.slice (some ⟨gn, 0, none⟩) Y.length Y.length, .int .i64 ((Y.length : Int) - 1)] 24)) 38 3 i0 (.int .i64 0) Tryd.underlying38 hi0 hz0 .i64 .i64 Y.length Y.length (by omega) (by omega) (by rw [hz2]; omega) (by omega)
      rw [hz1, Int.toNat_natCast, nsV_new] at this
      simpa using this
    have HI0 : Hid (∀ W, W = (w1.alloc (.cells #[.slice (some ⟨gn, 0, none⟩) Y.length Y.length, .int .i64 ((Y.length : Int) - 1)] 24)).alloc (.cells (nsV [] Y.length) 3) → SizI w1 W Y (cX X r) gn most.toNat 0) := by
      rintro _ rfl
      exact ⟨mk_at (AtN.new (w1.alloc _) 3 _) (show _ = w1.heap.size + 1 by simp), (AtN.new w1 24 _).alloc _, ((Below.refl w1.heap.size w1).alloc (Nat.le_refl _) _).alloc (by simp) _⟩
    have hmt : most.toNat ≤ 1073741824 := by omega
    have HM : Hid (∀ z, z = most.toNat → True) := fun _ _ => trivial
    obtain ⟨m, hmm⟩ : ∃ m, m = most.toNat := ⟨_, rfl⟩
    rw [← hmm] at hmt hmx HI0
    have HMM : Hid (m = most.toNat) := hmm
    clear hmm HM
    go_wp2_with fail
    clear hmk
    go_loopw [26] (fun iv wr => ∃ i : Nat, iv = .int .i64 i ∧ i ≤ Y.length ∧ Hid (SizI w1 wr Y (cX X r) gn m i)) (fun iv _ => Y.length - (intOf iv).toNat)
    case atStart => exact ⟨0, rfl, by omega, HI0.out _ rfl⟩
    case round =>
      clear HI0
      obtain ⟨i, rfl, hi, HI⟩ := hrel
      by_cases hlt : i < Y.length
      · have hlt' : (i : Int) < Y.length := by omega
        have nd0 := HO.out.2.below HI.out.bel HO.out.2.lt
        have d0 : wr.cell? ⟨gn, i * 4, none⟩ = some (.int .i64 (Y.getD i noNx).nd.kind) := (nd0.cell _).trans (nxV_at' Y i 0 hlt (by omega))
        have d1 : wr.cell? ⟨gn, i * 4 + 1, none⟩ = some (.slice (Y.getD i noNx).a1 (Y.getD i noNx).nd.ints.length (Y.getD i noNx).c1) := (nd0.cell _).trans (nxV_at' Y i 1 hlt (by omega))
        have d2 : wr.cell? ⟨gn, i * 4 + 2, none⟩ = some (.slice (Y.getD i noNx).a2 (Y.getD i noNx).nd.texts.length (Y.getD i noNx).c2) := (nd0.cell _).trans (nxV_at' Y i 2 hlt (by omega))
        have d3 : wr.cell? ⟨gn, i * 4 + 3, none⟩ = some (.slice (Y.getD i noNx).a3 (Y.getD i noNx).nd.kids.length (Y.getD i noNx).c3) := (nd0.cell _).trans (nxV_at' Y i 3 hlt (by omega))
        have e : (Y.getD i noNx).nd = atN (cX X r) i := by rw [← nds_atN, HY.out.2.1]
        have hk3 : (Y.getD i noNx).nd.kids.length ≤ 300 := ((can_ren HY.out.1 HY.out.2.1).small HS.out).kids hlt
        have HW : Hid (∀ W, W = wr.alloc (.cells #[.int .i64 (Y.getD i noNx).nd.kind, .slice (Y.getD i noNx).a1 (Y.getD i noNx).nd.ints.length (Y.getD i noNx).c1, .slice (Y.getD i noNx).a2 (Y.getD i noNx).nd.texts.length (Y.getD i noNx).c2, .slice (Y.getD i noNx).a3 (Y.getD i noNx).nd.kids.length (Y.getD i noNx).c3] 42) →
            Calls Tryd.prog 30 #[.slice (Y.getD i noNx).a3 (Y.getD i noNx).nd.kids.length (Y.getD i noNx).c3, .slice (some ⟨w1.heap.size + 1, 0, none⟩) Y.length Y.length, .int .i64 (m : Int)] W fun e w' => ∃ z : Nat, e = .returned (.int .i64 (z : Int)) ∧ w' = W ∧ (∃ y : Nat, W.cell? ⟨w1.heap.size + 1, i, none⟩ = some (.int .i64 (y : Int))) ∧ W.frozen? ⟨w1.heap.size + 1, i, none⟩ = false ∧ w1.heap.size + 1 < W.heap.size ∧ SizI w1 (W.setCell ⟨w1.heap.size + 1, i, none⟩ (.int .i64 (z : Int))) Y (cX X r) gn m (i + 1)) := by
          rintro _ rfl
          have hb : Below wr.heap.size wr (wr.alloc (.cells #[.int .i64 (Y.getD i noNx).nd.kind, .slice (Y.getD i noNx).a1 (Y.getD i noNx).nd.ints.length (Y.getD i noNx).c1, .slice (Y.getD i noNx).a2 (Y.getD i noNx).nd.texts.length (Y.getD i noNx).c2, .slice (Y.getD i noNx).a3 (Y.getD i noNx).nd.kids.length (Y.getD i noNx).c3] 42)) := (Below.refl wr.heap.size wr).alloc (Nat.le_refl _) _
          have hl := szL_len (cX X r) i (by have := HY.out.2.2.2.1; omega)
          have n2 := HI.out.num.belowAll hb
          have hkk : ∀ k, k < (Y.getD i noNx).nd.kids.length → ∃ j : Nat, (Y.getD i noNx).nd.kids.getD k 0 = (j : Int) ∧ j < (szL ((cX X r).take i)).length := fun k hk => by
            rw [e] at hk ⊢
            have := HY.out.2.2.2.2.kid (i := i) (by have := HY.out.2.2.2.1; omega) hk
            exact ⟨_, this.2.symm, by omega⟩
          refine Calls.mono (sizeover_any (Y.getD i noNx).nd.kids (Y.getD i noNx).a3 (Y.getD i noNx).c3 (w1.heap.size + 1) Y.length m (szL ((cX X r).take i)) _ (((HO.out.1.belowB (HI.out.bel.trans (hb.mono HI.out.bel.size))).each i hlt).k) n2 (by omega) hkk hk3 hmt) ?_
          rintro e2 w' ⟨rfl, rfl⟩
          obtain ⟨y, hy⟩ := nsV_some (ns := ((szL ((cX X r).take i)).map (cap m))) hlt
          have hnx := HI.out.next (i := i) (by have := HY.out.2.2.2.1; omega) HY.out.2.2.2.1 hb
          rw [← e] at hnx
          exact ⟨_, rfl, rfl, ⟨y, (n2.cell i).trans hy⟩, n2.fz i, n2.lt, hnx⟩
        clear HI nd0 e HO HY HS
        generalize Y.getD i noNx = N at *
        obtain ⟨N, a1, c1, a2, c2, a3, c3⟩ := N
        go_wp2_with fail
        refine Calls.mono (HW.out _ rfl) ?_
        rintro e w' ⟨z, rfl, rfl, ⟨y, hy⟩, hf, hl, hnx⟩
        have HN : Hid _ := hnx
        clear hnx HW
        go_wp2_with fail
        go_roundw
        case rel => exact ⟨i + 1, by go_num, by omega, HN.out⟩
        case measure => simp [intOf]; omega
      · have hlt' : ¬ (i : Int) < Y.length := by omega
        obtain rfl : i = Y.length := by omega
        have hpos : 0 < Y.length := by
          have := (cX_cn HY.out.1).pos
          rw [HY.out.2.2.2.1] at this
          exact this
        obtain ⟨q, hq⟩ : ∃ q : Nat, (Y.length : Int) - 1 = (q : Int) ∧ q < Y.length ∧ q = X.length - 1 := ⟨Y.length - 1, by omega, by omega, by have := HY.out.2.2.1; omega⟩
        have c1 : wr.cell? ⟨w1.heap.size, 1, none⟩ = some (.int .i64 (q : Int)) := by rw [← hq.1]; exact HI.out.c.cell 1
        have hq2 : (q : Int) < Y.length := by omega
        have hq3 := hq.2.1
        have hgl := HI.out.num.lt
        have n0 : wr.cell? ⟨w1.heap.size + 1, q, none⟩ = some (.int .i64 (cap m ((szL (cX X r)).getD q 0) : Nat)) := by
          have h1 := HI.out.num.cell q
          have h2 := szL_len (cX X r) Y.length (by have := HY.out.2.2.2.1; omega)
          rw [show (cX X r).take Y.length = cX X r by rw [← HY.out.2.2.2.1, List.take_length]] at h1 h2
          rw [h1, nsV_at (by rw [List.length_map]; omega), cap_getD _ _ _ (by omega)]
        have HR : Hid (SzOut X r most w wr (.returned (.int .i64 (cap m ((szL (cX X r)).getD q 0) : Nat)))) := ⟨fun _ => by rw [hq.2.2, HMM.out], fun q => absurd HY.out.1 q, HB1.out.trans (HI.out.bel.mono HB1.out.size)⟩
        clear HI HY HS HO hq
        generalize cap m ((szL (cX X r)).getD q 0) = num at *
        go_wp2_with fail
        go_ret
        exact HR.out
  · obtain ⟨n, z, rfl, hck, hn0⟩ := hC.2.1 hR
    have HR : Hid (SzOut X r most w (w1.alloc (.cells #[.slice none 0 0, .int .i64 0] 24)) (.returned (.int .i64 0))) := ⟨fun q => absurd q hR, fun _ => rfl, HB1.out.alloc HB1.out.size _⟩
    clear hC hc0 hb0 HC HB1 HS hck
    go_wp2_with fail
    go_ret
    exact HR.out

end Go.Proofs.YtcdpjaaiojpelaaDoor
