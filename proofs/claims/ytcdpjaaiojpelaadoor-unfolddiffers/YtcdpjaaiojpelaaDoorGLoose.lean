/- The contracts of the program's firstLoose and Check. -/
import Derived.Test.YtcdpjaaiojpelaaDoorGFirst
namespace Go.Proofs.YtcdpjaaiojpelaaDoor
open Go.RowKit Go.Maps Go.WideMaps Go.Sort

/-- The first place that the root doesn't lead to, and isn't. -/
def LooseIs (K : List (List Nat)) (r : Nat) (z : Int) (b : Bool) : Prop := (b = false ∧ z = 0 ∧ ∀ x, x < K.length → Rt (Ed K) r x) ∨ (b = true ∧ ∃ i : Nat, z = i ∧ i < K.length ∧ ¬ Rt (Ed K) r i ∧ ∀ j, j < i → Rt (Ed K) r j)
def LooseOut (K : List (List Nat)) (r : Nat) (w w' : World) (e : Ending) : Prop := ∃ z b, e = .returned (.tuple #[.int .i64 z, .bool b]) ∧ LooseIs K r z b ∧ Below w.heap.size w w'

/-- Found from a place with nothing met: all that it leads to. -/
theorem WOut.all {K : List (List Nat)} {f : Nat} {found : List Nat} (h : WOut K [] f found) (x : Nat) : x ∈ found ↔ Rt (Ed K) f x := by
  rw [h.2 x]
  constructor
  · rintro ⟨_, q⟩; exact q.mono fun _ _ e => e.1
  · intro q; exact ⟨by simp, q.mono fun _ _ e => ⟨e, by simp⟩⟩

set_option maxRecDepth 10000 in
set_option maxHeartbeats 400000 in
theorem firstloose_any {Q : Nat → Prop} (L : List Ln) (a : Option Addr) (c r : Nat) (w : World) (hl : LkQ Q w a L) (hk : Ok9 (kOf L)) (hs : Lim L) (hr : r < L.length) :
    Calls Tryd.prog 46 #[.slice a L.length c, .int .i64 (r : Int)] w fun e w' => LooseOut (kOf L) r w w' e := by
  have hL := hs.1
  have hmm := run_makeMapN (L.length : Int) w
  have hm0 := Met.made w
  have hb0 : Below w.heap.size w (w.alloc (.map #[] 0)) := (Below.refl w.heap.size w).alloc (Nat.le_refl _) _
  have HW : Hid (Calls Tryd.prog 57 #[.slice a L.length c, .int .i64 (r : Int), .map (some w.heap.size)] (w.alloc (.map #[] 0)) fun e w' => WalkOut L w.heap.size 0 [] r (w.alloc (.map #[] 0)) w' e) := walk_any (Q := fun b => b < w.heap.size) L a c r w.heap.size 0 [] _ (hl.now.below hb0) (fun b q => by omega) hm0 hk hr hs (by omega)
  have HB : Hid (Below w.heap.size w (w.alloc (.map #[] 0))) := hb0
  clear hl hk hs hm0 hb0
  go_enter Tryd.func46, Tryd.ntmps46
  go_wp2_with fail
  refine Calls.mono HW.out ?_
  rintro e w1 ⟨found, af, cf, rfl, hof, hwo, hm1, hf1⟩
  have HX : Hid (Met w1 w.heap.size (0 + found.length) found ∧ Below w.heap.size w w1 ∧ ∀ x, x ∈ found ↔ Rt (Ed (kOf L)) r x) := ⟨by simpa using hm1, Fr.below HB.out hf1 (fun z e => by omega) (by simp), hwo.all⟩
  clear HW HB hof hwo hm1 hf1 hmm
  go_wp2_with fail
  go_loopw [17] (fun iv wr => ∃ i : Nat, iv = .int .i64 i ∧ i ≤ L.length ∧ Hid (∀ j, j < i → Rt (Ed (kOf L)) r j) ∧ Hid (wr = w1)) (fun iv _ => L.length - (intOf iv).toNat)
  case atStart => exact ⟨0, rfl, by omega, fun j hj => by omega, rfl⟩
  case round =>
    obtain ⟨i, rfl, hi, HI, HWr⟩ := hrel
    obtain rfl : wr = w1 := HWr.out
    by_cases hlt : i < L.length
    · have hlt' : (i : Int) < L.length := by omega
      have hlk := HX.out.1.look i (by omega)
      by_cases hin : i ∈ found
      · rw [decide_eq_true hin] at hlk
        have HV : Hid (∀ j, j < i + 1 → Rt (Ed (kOf L)) r j) := fun j hj => by
          by_cases e : j = i
          · rw [e]; exact (HX.out.2.2 i).1 hin
          · exact HI.out j (by omega)
        clear HI hin
        go_wp2_with fail
        go_roundw
        case rel => exact ⟨i + 1, by go_num, by omega, HV, by simp [Hid]⟩
        case measure => simp [intOf]; omega
      · rw [decide_eq_false hin] at hlk
        have HV : Hid (LooseOut (kOf L) r w wr (.returned (.tuple #[.int .i64 (i : Int), .bool true]))) := ⟨_, _, rfl, .inr ⟨rfl, i, rfl, by rw [kOf_length]; exact hlt, fun q => hin ((HX.out.2.2 i).2 q), HI.out⟩, HX.out.2.1⟩
        clear HI hin HX
        go_wp2_with fail
        go_ret2
        exact HV.out
    · have hlt' : ¬ (i : Int) < L.length := by omega
      have HV : Hid (LooseOut (kOf L) r w wr (.returned (.tuple #[.int .i64 0, .bool false]))) := ⟨_, _, rfl, .inl ⟨rfl, rfl, fun x hx => HI.out x (by rw [kOf_length] at hx; omega)⟩, HX.out.2.1⟩
      clear HI HX
      go_wp2_with fail
      go_ret2
      exact HV.out

/-- What is wrong with a scene, and at which node. -/
def CheckIs (X : List Nx) (r e z : Int) : Prop :=
  (isPb X.length r = false ∧ e = 13 ∧ z = -1) ∨
  (isPb X.length r = true ∧ ∃ i : Nat, i < X.length ∧ e = 13 ∧ z = i ∧ ¬ okAt X i ∧ ∀ j, j < i → okAt X j) ∨
  (isPb X.length r = true ∧ (∀ i, i < X.length → okAt X i) ∧
    ((∃ i : Nat, e = 14 ∧ z = i ∧ FirstCyc (kX X) i) ∨
     ((∀ x, ¬ Lead (Ed (kX X)) x x) ∧
       ((∃ i : Nat, e = 15 ∧ z = i ∧ i < X.length ∧ ¬ Rt (Ed (kX X)) r.toNat i ∧ ∀ j, j < i → Rt (Ed (kX X)) r.toNat j) ∨
        (e = 0 ∧ z = 0 ∧ ∀ x, x < X.length → Rt (Ed (kX X)) r.toNat x)))))
def CheckOut (X : List Nx) (r : Int) (w w' : World) (e : Ending) : Prop := ∃ n z, e = .returned (.tuple #[.int .i64 n, .int .i64 z]) ∧ CheckIs X r n z ∧ Below w.heap.size w w'

set_option maxRecDepth 10000 in
set_option maxHeartbeats 400000 in
theorem check_any (X : List Nx) (a : Option Addr) (c : Nat) (r : Int) (w : World) (h : ScAt w a X) (hX : Small X) :
    Calls Tryd.prog 36 #[.agg #[.slice a X.length c, .int .i64 r]] w fun e w' => CheckOut X r w w' e := by
  have HS : Hid (ScAt w a X ∧ Small X) := ⟨h, hX⟩
  have HA0 : Hid (AtN 24 (w.alloc (.cells #[.slice a X.length c, .int .i64 r] 24)) w.heap.size #[.slice a X.length c, .int .i64 r]) := AtN.new w 24 _
  have HB0 : Hid (Below w.heap.size w (w.alloc (.cells #[.slice a X.length c, .int .i64 r] 24))) := (Below.refl w.heap.size w).alloc (Nat.le_refl _) _
  have HF : Hid (Calls Tryd.prog 43 #[.agg #[.slice a X.length c, .int .i64 r]] (w.alloc (.cells #[.slice a X.length c, .int .i64 r] 24)) fun e w' => FwOut X r (w.alloc (.cells #[.slice a X.length c, .int .i64 r] 24)) w' e) := firstwrong_any X a c r _ (h.alloc _) hX
  clear h hX
  go_enter Tryd.func36, Tryd.ntmps36
  go_wp2_with fail
  refine Calls.mono HF.out ?_
  rintro e w1 ⟨z, b, rfl, hfw, hb1⟩
  have HA1 : Hid (AtN 24 w1 w.heap.size #[.slice a X.length c, .int .i64 r] ∧ Below w.heap.size w w1) := ⟨AtN.belowAll HA0.out hb1, HB0.out.trans (hb1.mono HB0.out.size)⟩
  clear HF HA0 HB0 hb1
  rcases hfw with ⟨h1, rfl, rfl⟩ | ⟨hr, ⟨rfl, rfl, hok⟩ | ⟨rfl, i, hi, rfl, hno, hbe⟩⟩
  · have HV : Hid (CheckOut X r w w1 (.returned (.tuple #[.int .i64 13, .int .i64 (-1)]))) := ⟨_, _, rfl, .inl ⟨h1, rfl, rfl⟩, HA1.out.2⟩
    clear HS HA1 h1
    go_wp2_with fail
    go_ret2
    exact HV.out
  · have hr' := isPb_iff.1 hr
    have hrn : r = (r.toNat : Int) := (Int.toNat_of_nonneg hr'.1).symm
    have hrl : r.toNat < X.length := by omega
    have x0 : w1.cell? ⟨w.heap.size, 0, none⟩ = some (.slice a X.length c) := HA1.out.1.cell 0
    have x1 : w1.cell? ⟨w.heap.size, 1, none⟩ = some (.int .i64 r) := HA1.out.1.cell 1
    have HK : Hid (Calls Tryd.prog 44 #[.agg #[.slice a X.length c, .int .i64 r]] w1 fun e w' => KidsOut X w1 w' e) := kids_any X a c r w1 (HS.out.1.belowB HA1.out.2) HS.out.2 hok
    have Hok : Hid ((∀ i, i < X.length → okAt X i) ∧ isPb X.length r = true ∧ r = (r.toNat : Int) ∧ r.toNat < X.length) := ⟨hok, hr, hrn, hrl⟩
    clear hok hr hr' hrn hrl
    go_wp2_with fail
    refine Calls.mono HK.out ?_
    rintro e w2 ⟨ak, rfl, hk2, hb2⟩
    have HA2 : Hid (AtN 24 w2 w.heap.size #[.slice a X.length c, .int .i64 r] ∧ Below w.heap.size w w2 ∧ LkQ (fun _ => True) w2 ak (lks X)) := ⟨AtN.belowAll HA1.out.1 hb2, HA1.out.2.trans (hb2.mono HA1.out.2.size), hk2⟩
    have HC : Hid (Calls Tryd.prog 45 #[.slice ak (lks X).length (lks X).length] w2 fun e w' => CycOut (kOf (lks X)) w2 w' e) := firstincycle_any (lks X) ak _ w2 hk2 (kX_ok Hok.out.1) HS.out.2.tight
    clear HK hb2 hk2 x0 x1 HA1
    go_wp2_with fail
    refine Calls.mono HC.out ?_
    rintro e w3 ⟨z, b, rfl, hcy, hb3⟩
    have HA3 : Hid (AtN 24 w3 w.heap.size #[.slice a X.length c, .int .i64 r] ∧ Below w.heap.size w w3 ∧ LkQ (fun _ => True) w3 ak (lks X)) := ⟨AtN.belowAll HA2.out.1 hb3, HA2.out.2.1.trans (hb3.mono HA2.out.2.1.size), HA2.out.2.2.below hb3⟩
    clear HC HA2 hb3
    rcases hcy with ⟨rfl, rfl, hno⟩ | ⟨rfl, i, rfl, hfc⟩
    · have x1 : w3.cell? ⟨w.heap.size, 1, none⟩ = some (.int .i64 (r.toNat : Int)) := by rw [← Hok.out.2.2.1]; exact HA3.out.1.cell 1
      have HF : Hid (Calls Tryd.prog 46 #[.slice ak (lks X).length (lks X).length, .int .i64 (r.toNat : Int)] w3 fun e w' => LooseOut (kOf (lks X)) r.toNat w3 w' e) := firstloose_any (lks X) ak _ r.toNat w3 HA3.out.2.2 (kX_ok Hok.out.1) HS.out.2.lim (by rw [lks_length]; exact Hok.out.2.2.2)
      have Hno : Hid (∀ x, ¬ Lead (Ed (kX X)) x x) := hno
      have HG : Hid (isPb X.length r = true ∧ ∀ i, i < X.length → okAt X i) := ⟨Hok.out.2.1, Hok.out.1⟩
      obtain ⟨rn, hrn⟩ : ∃ rn, r.toNat = rn := ⟨_, rfl⟩
      rw [hrn] at x1 HF
      have Hrn : Hid (r.toNat = rn) := hrn
      clear hno hrn Hok HS
      go_wp2_with fail
      refine Calls.mono HF.out ?_
      rintro e w4 ⟨z, b, rfl, hlo, hb4⟩
      have HB4 : Hid (Below w.heap.size w w4) := HA3.out.2.1.trans (hb4.mono HA3.out.2.1.size)
      clear HF HA3 hb4 x1
      rcases hlo with ⟨rfl, rfl, hall⟩ | ⟨rfl, i, rfl, hil, hnr, hbe⟩
      · have HV : Hid (CheckOut X r w w4 (.returned (.tuple #[.int .i64 0, .int .i64 0]))) := ⟨_, _, rfl, .inr (.inr ⟨HG.out.1, HG.out.2, .inr ⟨Hno.out, .inr ⟨rfl, rfl, fun x hx => by rw [Hrn.out]; exact hall x (by rw [kOf_length, lks_length]; exact hx)⟩⟩⟩), HB4.out⟩
        clear HG Hno HB4 hall Hrn
        go_wp2_with fail
        go_ret2
        exact HV.out
      · have HV : Hid (CheckOut X r w w4 (.returned (.tuple #[.int .i64 15, .int .i64 (i : Int)]))) := ⟨_, _, rfl, .inr (.inr ⟨HG.out.1, HG.out.2, .inr ⟨Hno.out, .inl ⟨i, rfl, rfl, by rw [kOf_length, lks_length] at hil; exact hil, by rw [Hrn.out]; exact hnr, fun j hj => by rw [Hrn.out]; exact hbe j hj⟩⟩⟩), HB4.out⟩
        clear HG Hno HB4 hil hnr hbe Hrn
        go_wp2_with fail
        go_ret2
        exact HV.out
    · have HV : Hid (CheckOut X r w w3 (.returned (.tuple #[.int .i64 14, .int .i64 (i : Int)]))) := ⟨_, _, rfl, .inr (.inr ⟨Hok.out.2.1, Hok.out.1, .inl ⟨i, rfl, rfl, hfc⟩⟩), HA3.out.2.1⟩
      clear HS HA3 Hok hfc
      go_wp2_with fail
      go_ret2
      exact HV.out
  · have HV : Hid (CheckOut X r w w1 (.returned (.tuple #[.int .i64 13, .int .i64 (i : Int)]))) := ⟨_, _, rfl, .inr (.inl ⟨hr, i, hi, rfl, rfl, hno, hbe⟩), HA1.out.2⟩
    clear HS HA1 hr hi hno hbe
    go_wp2_with fail
    go_ret2
    exact HV.out

end Go.Proofs.YtcdpjaaiojpelaaDoor
