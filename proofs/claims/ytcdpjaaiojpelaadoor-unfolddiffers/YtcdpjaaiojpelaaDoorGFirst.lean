/- The contract of the program's firstInCycle: the first place that leads to itself. -/
import Derived.Test.YtcdpjaaiojpelaaDoorGCyc
namespace Go.Proofs.YtcdpjaaiojpelaaDoor
open Go.RowKit Go.Maps Go.WideMaps Go.Sort

/-- Lists lie in no map's block. -/
theorem LsQ.ne_met {Q : Nat → Prop} {w : World} {a : Option Addr} {cs : List Value} {g n : Nat} {M : List Nat} (h : LsQ Q w a cs) (hm : Met w g n M) : LsQ (fun b => b ≠ g) w a cs := by
  obtain ⟨b, o, h1, h2⟩ := h
  refine ⟨b, o, h1, fun i hi => ⟨⟨?_, (h2 i hi).1.2⟩, (h2 i hi).2⟩⟩
  rintro rfl
  obtain ⟨D, ⟨es, clock, h3, _⟩, _⟩ := hm
  have h4 := (h2 i hi).2
  rw [List.getElem?_eq_getElem hi] at h4
  simp [World.cell?, h3] at h4
theorem LkQ.ne_met {Q : Nat → Prop} {w : World} {a : Option Addr} {L : List Ln} {g n : Nat} {M : List Nat} (h : LkQ Q w a L) (hm : Met w g n M) : LkQ (fun b => b ≠ g) w a L := ⟨h.top.ne_met hm, fun i hi => (h.each i hi).ne_met hm⟩
theorem below_of_grown {w w' : World} (h : w.grownBy w' none) : Below w.heap.size w w' := (Below.refl _ w).grown h (Nat.le_refl _) (fun k hk => by cases hk)
theorem grown_of_below {w w' : World} (h : Below w.heap.size w w') (row : Option Nat) : w.grownBy w' row := ⟨h.os, h.tape, h.output, h.size, fun i hi _ => h.block i hi⟩

def CycIs (K : List (List Nat)) (z : Int) (b : Bool) : Prop := (b = false ∧ z = 0 ∧ ∀ x, ¬ Lead (Ed K) x x) ∨ (b = true ∧ ∃ i : Nat, z = i ∧ FirstCyc K i)
def CycOut (K : List (List Nat)) (w w' : World) (e : Ending) : Prop := ∃ z b, e = .returned (.tuple #[.int .i64 z, .bool b]) ∧ CycIs K z b ∧ Below w.heap.size w w'

/-- What turned told. -/
def TurnV (L : List Ln) (B : Nat) (v : Value) (W : World) : Prop := ∃ L' a, v = .slice a (List.length L') (List.length L') ∧ L'.length = L.length ∧ LkQ (fun b => B ≤ b) W a L' ∧ (∀ x y, Ed (kOf L') x y ↔ Ed (kOf L) y x) ∧ Lim L'
def MapV (B : Nat) (v : Value) (W : World) : Prop := ∃ g, v = .map (some g) ∧ B ≤ g ∧ Met W g 0 []
/-- The facts of the three starts. -/
def c4F (L : List Ln) (a : Option Addr) (c B : Nat) : Nat → Value → World → Prop
  | 0, v, _ | 2, v, _ | 5, v, _ => v = .slice a L.length c
  | 1, v, W | 7, v, W => TurnV L B v W
  | 3, v, _ | 6, v, _ | 9, v, _ => v = .int .i64 (L.length : Int)
  | 4, v, W | 8, v, W => MapV B v W
  | _, _, _ => True
theorem c4F_stab (L : List Ln) (a : Option Addr) (c B : Nat) : ∀ i j v w w', i ≠ j → World.grownBy w w' (if i = 99 then none else none) → c4F L a c B j v w → c4F L a c B j v w' := by
  intro i j v w w' hne hg h
  have hb := below_of_grown (by simpa using hg)
  match j, h with
  | 0, h | 2, h | 5, h | 3, h | 6, h | 9, h => exact h
  | 1, h | 7, h =>
    obtain ⟨L', a', h1, h2, h3, h4, h5⟩ := h
    exact ⟨L', a', h1, h2, h3.below hb, h4, h5⟩
  | 4, h | 8, h =>
    obtain ⟨g, h1, h2, h3⟩ := h
    exact ⟨g, h1, h2, h3.below hb⟩
  | n + 10, _ => trivial

set_option maxRecDepth 10000 in
set_option maxHeartbeats 1000000 in
theorem firstincycle_any {Q : Nat → Prop} (L : List Ln) (a : Option Addr) (c : Nat) (w : World) (hl : LkQ Q w a L) (hk : Ok9 (kOf L)) (hs : Tight L) :
    Calls Tryd.prog 45 #[.slice a L.length c] w fun e w' => CycOut (kOf L) w w' e := by
  have hL := hs.1
  have HL : Hid (LkQ (fun b => b < w.heap.size) w a L ∧ Ok9 (kOf L) ∧ Tight L) := ⟨hl.now, hk, hs⟩
  have HBt : Hid (Calls Tryd.prog 54 #[.slice a L.length c] w fun e w' => BotOut L w w' e) := bottomup_any L a c w hl hk hs.lim
  clear hl hk hs
  go_enter Tryd.func45, Tryd.ntmps45
  go_wp2_with fail
  refine Calls.mono HBt.out ?_
  rintro e w1 ⟨order, r, co, rfl, ho1, hbo, hb1⟩
  have HO : Hid (BOut (kOf L) order ∧ LsAt w1 (some ⟨r, 0, none⟩) (nV order) ∧ Below w.heap.size w w1) := ⟨hbo, LsAt.of_own ho1, hb1⟩
  have HAr : Hid (Calls Tryd.prog 55 #[.slice a L.length c, .slice (some ⟨r, 0, none⟩) order.length co] w1 fun e w' => BehOut (kOf L) order w1 w' e) := arebehind_any L a (some ⟨r, 0, none⟩) c co order w1 (HL.out.1.below hb1) (LsAt.of_own ho1) hbo HL.out.2.1 HL.out.2.2.lim
  have Hlo : Hid (order.length = L.length) := by show _ = _; rw [hbo.len, kOf_length]
  have hob : order.length ≤ 61 := by have h0 : order.length = L.length := Hlo.out; omega
  clear HBt ho1 hbo hb1
  go_wp2_with fail
  refine Calls.mono HAr.out ?_
  rintro e w2 ⟨b, rfl, hbe, hb2⟩
  have HO2 : Hid (LsAt w2 (some ⟨r, 0, none⟩) (nV order) ∧ Below w.heap.size w w2) := ⟨HO.out.2.1.belowB hb2, HO.out.2.2.trans (hb2.mono HO.out.2.2.size)⟩
  have HBo : Hid (BOut (kOf L) order) := HO.out.1
  clear HAr hb2 HO
  cases b with
  | true =>
    have HV : Hid (CycOut (kOf L) w w2 (.returned (.tuple #[.int .i64 0, .bool false]))) := ⟨0, false, rfl, .inl ⟨rfl, rfl, (hbe.1 rfl).none⟩, HO2.out.2⟩
    clear hbe HO2 HBo HL
    go_wp2_with fail
    go_ret2
    exact HV.out
  | false =>
    have HCy : Hid (∃ x, Lead (Ed (kOf L)) x x) := HBo.out.cycle HL.out.2.1 (fun q => by have := hbe.2 q; simp at this)
    clear hbe
    go_wp2_with fail
    refine facts_region none 99 (c4F L a c w2.heap.size) (by kernel_rfl) (by kernel_rfl) (c4F_stab L a c w2.heap.size) ?step ?fin
    case step =>
      intro i o ho a' W hg hstill hoff hdep K hK
      have t0 : a'.tmps[0]?.getD undef = .slice a L.length c := hoff 0 (by kernel_rfl)
      have hb : Below w2.heap.size w2 W := below_of_grown hg
      have hsz := hb.size
      have HW : Hid (LkQ (fun b => b < w.heap.size) W a L) := (HL.out.1.below HO2.out.2).below hb
      have HT : Hid (Calls Tryd.prog 56 #[.slice a L.length c] W fun e w' => TurnOut L W w' e) := turned_any L a c W HW.out HL.out.2.1 HL.out.2.2
      clear hg hoff hb HW
      rcases i with _|_|_|_|_|_|_|_|_|_|i
      · obtain rfl := Option.some.inj ho
        clear hdep HT
        go_simp
        exact hK _ _ (grown_refl _ _) rfl
      · obtain rfl := Option.some.inj ho
        have e0 : a'.tmps[15]?.getD undef = .slice a L.length c := hdep 0 _ (by kernel_rfl) rfl
        clear hdep
        go_simp
        refine Calls.mono HT.out ?_
        rintro e w' ⟨L', b', rfl, h1, h2, h3, h4, h5⟩
        exact hK _ _ (grown_of_below h5 _) ⟨L', b', rfl, h1, h2.mono (fun _ q _ => by omega), h3, h4⟩
      · obtain rfl := Option.some.inj ho
        clear hdep HT
        go_simp
        exact hK _ _ (grown_refl _ _) rfl
      · obtain rfl := Option.some.inj ho
        have e0 : a'.tmps[17]?.getD undef = .slice a L.length c := hdep 2 _ (by kernel_rfl) rfl
        clear hdep HT
        go_simp
        exact hK _ _ (grown_refl _ _) rfl
      · obtain rfl := Option.some.inj ho
        have e0 : a'.tmps[18]?.getD undef = .int .i64 (L.length : Int) := hdep 3 _ (by kernel_rfl) rfl
        have hmm := run_makeMapN (L.length : Int) W
        clear hdep HT
        go_simp
        exact hK _ _ (World.grownBy_alloc _ _ _) ⟨W.heap.size, rfl, hsz, Met.made W⟩
      · obtain rfl := Option.some.inj ho
        clear hdep HT
        go_simp
        exact hK _ _ (grown_refl _ _) rfl
      · obtain rfl := Option.some.inj ho
        have e0 : a'.tmps[20]?.getD undef = .slice a L.length c := hdep 5 _ (by kernel_rfl) rfl
        clear hdep HT
        go_simp
        exact hK _ _ (grown_refl _ _) rfl
      · obtain rfl := Option.some.inj ho
        have e0 : TurnV L w2.heap.size (a'.tmps[16]?.getD undef) W := hdep 1 _ (by kernel_rfl) rfl
        clear hdep HT
        go_simp
        exact hK _ _ (grown_refl _ _) e0
      · obtain rfl := Option.some.inj ho
        have e0 : MapV w2.heap.size (a'.tmps[19]?.getD undef) W := hdep 4 _ (by kernel_rfl) rfl
        clear hdep HT
        go_simp
        exact hK _ _ (grown_refl _ _) e0
      · obtain rfl := Option.some.inj ho
        have e0 : a'.tmps[21]?.getD undef = .int .i64 (L.length : Int) := hdep 6 _ (by kernel_rfl) rfl
        clear hdep HT
        go_simp
        exact hK _ _ (grown_refl _ _) rfl
      · exact absurd ho (by simp)
    case fin =>
      intro V W hg hF
      have y7 : TurnV L w2.heap.size (V (some 5)) W := hF 7 _ rfl
      have y8 : MapV w2.heap.size (V (some 6)) W := hF 8 _ rfl
      have y9 : V (some 7) = .int .i64 (L.length : Int) := hF 9 _ rfl
      have hb : Below w2.heap.size w2 W := below_of_grown hg
      obtain ⟨L', a', v7, hl', hk', he', hli'⟩ := y7
      obtain ⟨g, v8, hg2, hm⟩ := y8
      have hBW : Below w.heap.size w W := HO2.out.2.trans (hb.mono HO2.out.2.size)
      have HS : Hid (LkQ (fun b => b ≠ g) W a L ∧ LsQ (fun b => b ≠ g) W (some ⟨r, 0, none⟩) (nV order) ∧ LkQ (fun b => b ≠ g) W a' L' ∧ Below w.heap.size w W ∧ w.heap.size ≤ g) := ⟨(HL.out.1.below hBW).ne_met hm, (HO2.out.1.belowB hb).toQ.ne_met hm, hk'.ne_met hm, hBW, Nat.le_trans HO2.out.2.size hg2⟩
      have HK' : Hid ((∀ x y, Ed (kOf L') x y ↔ Ed (kOf L) y x) ∧ Lim L' ∧ L'.length = L.length) := ⟨he', hli', hl'⟩
      have HM : Hid (Met W g ([] : List Nat).length []) := hm
      clear hF hg hk' he' hli' hb hBW hm HO2 hl'
      simp only [fillA, Act.put, List.setIfInBounds_toArray, List.set_cons_zero, List.set_cons_succ, v7, v8, y9]
      generalize V (some 15) = z15
      generalize V (some 16) = z16
      generalize V (some 17) = z17
      generalize V (some 18) = z18
      generalize V (some 19) = z19
      generalize V (some 20) = z20
      generalize V (some 21) = z21
      clear v7 v8 y9
      go_wp2_with fail
      go_loopw [7, 8] (fun fv iv wr => ∃ (k first : Nat) (M : List Nat), fv = .int .i64 (first : Int) ∧ iv = .int .i64 ((k : Int) - 1) ∧ k ≤ L.length ∧ first ≤ L.length ∧ Hid (KInv (kOf L) order k M first) ∧ Hid (M.length ≤ (L.length - k) * 61) ∧ Hid (Met wr g M.length M) ∧ Hid (Fr (fun b => b = g) W wr)) (fun _ iv _ => ((intOf iv) + 1).toNat)
      case atStart =>
        have hlo : order.length = L.length := Hlo.out
        refine ⟨L.length, L.length, [], rfl, by rw [← hlo], by omega, by omega, ?_, by simp [Hid], HM, Fr.refl _ _⟩
        have := KInv.start HBo.out
        rwa [kOf_length] at this
      case round =>
        clear HM
        obtain ⟨k, first, M, rfl, rfl, hkl, hfl, HI, HMl, HM, HF⟩ := hrel
        have HBw : Hid (Below w.heap.size w wr) := Fr.below HS.out.2.2.2.1 HF.out (fun z e => by have := HS.out.2.2.2.2; omega) HS.out.2.2.2.1.size
        rcases k with _ | k
        · have HV : Hid (CycOut (kOf L) w wr (.returned (.tuple #[.int .i64 (first : Int), .bool true]))) := ⟨first, true, rfl, .inr ⟨rfl, first, rfl, HI.out.fin HBo.out HCy.out⟩, HBw.out⟩
          clear HI HMl HM HF HS HK' HCy HBo HL HBw Hlo
          go_wp2_with fail
          go_ret2
          exact HV.out
        · rw [show ((k + 1 : Nat) : Int) - 1 = (k : Int) by omega]
          have hko : k < order.length := by have h0 : order.length = L.length := Hlo.out; omega
          have hko' : (k : Int) < order.length := by omega
          obtain ⟨b1, o1, e1, hq1, hb1, d1⟩ := (HS.out.2.1.fr HF.out (fun b q _ e => q e)).atQ (nV_at order k hko)
          cases e1
          rw [Nat.zero_add] at d1
          have hx : order.getD k 0 < L'.length := by have := (HBo.out.2.1 _).1 (getD_mem hko); rw [kOf_length] at this; have := HK'.out.2.2; omega
          have hM36 : M.length ≤ 3721 := by have : M.length ≤ (L.length - (k + 1)) * 61 := HMl.out; omega
          have HOk' : Hid (Ok9 (kOf L')) := fun p q e => by
            have := ((HK'.out.1 p q).1 e).lt
            rw [kOf_length] at this ⊢
            have := HK'.out.2.2
            omega
          have HWk : Hid (Calls Tryd.prog 57 #[.slice a' L'.length L'.length, .int .i64 ((order.getD k 0 : Nat) : Int), .map (some g)] wr fun e w' => WalkOut L' g M.length M (order.getD k 0) wr w' e) := walk_any (Q := fun b => b ≠ g) L' a' L'.length (order.getD k 0) g M.length M wr (HS.out.2.2.1.fr HF.out (fun b q _ e => q e)) (fun b q => q) HM.out HOk'.out hx HK'.out.2.1 (by omega)
          have HSt : Hid (∀ found, WOut (kOf L') M (order.getD k 0) found → (ringB (kOf L) found = false → KInv (kOf L) order k (M ++ found) first) ∧ (ringB (kOf L) found = true → found ≠ [] ∧ ∀ m, m ∈ found → (∀ x ∈ found, m ≤ x) → KInv (kOf L) order k (M ++ found) (min first m))) := fun found hw => HI.out.step HBo.out HL.out.2.1 HK'.out.1 hko hw
          generalize order.getD k 0 = t at *
          clear HI HM HBw
          go_wp2_with fail
          refine Calls.mono HWk.out ?_
          rintro e w5 ⟨found, af, cf, rfl, hof, hwo, hm5, hf5⟩
          have hf60 : found.length ≤ 61 := by
            have := nodup_le L'.length found hwo.1 (fun x hx => by
              have h0 : t < (kOf L').length := by rw [kOf_length]; omega
              have h1 := ((hwo.2 x).1 hx).2
              have := Ok9.rt HOk'.out h0 (h1.mono fun _ _ q => q.1)
              rwa [kOf_length] at this)
            have := HK'.out.2.2
            omega
          have hfx : ∀ x ∈ found, x < L.length := fun x hx => by
            have h0 : t < (kOf L').length := by rw [kOf_length]; omega
            have h1 := ((hwo.2 x).1 hx).2
            have := Ok9.rt HOk'.out h0 (h1.mono fun _ _ q => q.1)
            rw [kOf_length] at this
            have := HK'.out.2.2
            omega
          have F5 : Fr (fun b => b = g) W w5 := HF.out.trans hf5 (fun _ q _ => q)
          have lf5 : LsAt w5 af (nV found) := LsAt.of_own hof
          have HCc : Hid (Calls Tryd.prog 58 #[.slice a L.length c, .slice af found.length cf] w5 fun e w' => e = .returned (.bool (ringB (kOf L) found)) ∧ Below w5.heap.size w5 w') := iscycle_any L a af c cf found w5 (HS.out.1.fr F5 (fun b q _ e => q e)) lf5 HL.out.2.2.lim hfx hf60
          have HMl5 : Hid ((M ++ found).length ≤ (L.length - k) * 61) := by
            have : M.length ≤ (L.length - (k + 1)) * 61 := HMl.out
            show (M ++ found).length ≤ _
            rw [List.length_append]
            omega
          have HX5 : Hid (Fr (fun b => b = g) W w5 ∧ LsAt w5 af (nV found) ∧ Met w5 g (M ++ found).length (M ++ found)) := ⟨F5, lf5, by rw [List.length_append]; exact hm5⟩
          have HS5 := HSt.out found hwo
          clear HWk HF hof hwo hm5 hf5 F5 lf5 HMl HSt hfx HOk'
          go_wp2_with fail
          refine Calls.mono HCc.out ?_
          rintro e w6 ⟨rfl, hb6⟩
          have HX6 : Hid (Fr (fun b => b = g) W w6 ∧ LsAt w6 af (nV found) ∧ Met w6 g (M ++ found).length (M ++ found)) := ⟨HX5.out.1.trans (Fr.of_below (S := fun _ => False) hb6) (fun _ q _ => q.elim), HX5.out.2.1.belowB hb6, HX5.out.2.2.below hb6⟩
          clear HCc HX5 hb6
          cases hrb : ringB (kOf L) found with
          | false =>
            have HI6 : Hid (KInv (kOf L) order k (M ++ found) first) := HS5.1 hrb
            clear HS5 HS HK' HCy HBo HL hrb
            go_wp2_with fail
            go_roundw
            case rel => exact ⟨k, first, M ++ found, rfl, rfl, by omega, hfl, HI6, HMl5, HX6.out.2.2, HX6.out.1⟩
            case measure => simp [intOf]
          | true =>
            obtain ⟨hne, hst⟩ := HS5.2 hrb
            have HSt2 : Hid (∀ m, m ∈ found → (∀ x ∈ found, m ≤ x) → KInv (kOf L) order k (M ++ found) (min first m)) := hst
            have HMn : Hid (Calls Tryd.prog 59 #[.slice af found.length cf] w6 fun e w' => MinOut found w6 w' e) := min_any found af cf w6 HX6.out.2.1 (by omega) (List.length_pos_iff.2 hne)
            clear HS5 HS HK' HCy HBo HL hrb hne hst
            go_wp2_with fail
            refine Calls.mono HMn.out ?_
            rintro e w7 ⟨m, rfl, hm1, hm2, rfl⟩
            have HI6 : Hid (KInv (kOf L) order k (M ++ found) (min first m)) := HSt2.out m hm1 hm2
            have hm3 : min first m ≤ L.length := Nat.le_trans (Nat.min_le_left _ _) hfl
            clear HSt2 HMn hm1 hm2
            go_wp2_with fail
            go_roundw
            case rel => exact ⟨k, min first m, M ++ found, by simp; split <;> omega, rfl, by omega, hm3, HI6, HMl5, HX6.out.2.2, HX6.out.1⟩
            case measure => simp [intOf]

end Go.Proofs.YtcdpjaaiojpelaaDoor
