/- The contract of the program's Depth. -/
import Derived.Test.YtnmdkbeicggfhaaGDep
import Derived.RegionTactic
import Derived.ChangeAlike
import Derived.BigRegion
namespace Go.Proofs.Ytnmdkbeicggfhaa
open Go.RowKit Go.Maps Go.WideMaps Go.Sort

/-- Is nothing wrong? -/
def RightIs (X : List Nx) (r : Int) : Prop := isPb X.length r = true ∧ (∀ i, i < X.length → okAt X i) ∧ (∀ x, ¬ Lead (Ed (kX X)) x x) ∧ ∀ x, x < X.length → Rt (Ed (kX X)) r.toNat x
theorem CheckIs.right {X : List Nx} {r e z : Int} (h : CheckIs X r e z) : e = 0 ↔ RightIs X r := by
  rcases h with ⟨h1, rfl, _⟩ | ⟨h1, i, hi, rfl, _, hno, _⟩ | ⟨h1, h2, ⟨i, rfl, _, hf⟩ | ⟨h3, ⟨i, rfl, _, hi, hn, _⟩ | ⟨rfl, _, h4⟩⟩⟩
  · exact ⟨fun q => by omega, fun q => by rw [q.1] at h1; cases h1⟩
  · exact ⟨fun q => by omega, fun q => absurd (q.2.1 i hi) hno⟩
  · exact ⟨fun q => by omega, fun q => absurd hf.1 (q.2.2.1 i)⟩
  · exact ⟨fun q => by omega, fun q => absurd (q.2.2.2 i hi) hn⟩
  · exact ⟨fun _ => ⟨h1, h2, h3, h4⟩, fun _ => rfl⟩
def DepthIs (X : List Nx) (r : Int) (d : Nat) : Prop := (¬ RightIs X r → d = 0) ∧ (RightIs X r → ∃ h, HtIs (kX X) h ∧ d = h r.toNat ∧ ∀ x, x < X.length → 1 ≤ h x ∧ h x ≤ X.length)
def DepthOut (X : List Nx) (r : Int) (w w' : World) (e : Ending) : Prop := ∃ d : Nat, e = .returned (.int .i64 (d : Int)) ∧ DepthIs X r d ∧ Below w.heap.size w w'

theorem upd_upd (f : Nat → Nat) (a v v' : Nat) : upd (upd f a v) a v' = upd f a v' := by
  funext x
  unfold upd
  split <;> rfl
theorem upd_self (f : Nat → Nat) (a v : Nat) (h : f a = v) : upd f a v = f := by
  funext x
  unfold upd
  split
  · rename_i e; rw [e, h]
  · rfl

theorem hts_part (K : List (List Nat)) (order : List Nat) (hn : order.Nodup) (i x : Nat) : hts K (order.take i) x ≤ hts K order x := by
  by_cases hx : x ∈ order.take i
  · have h1 := hn
    rw [← List.take_append_drop i order, List.nodup_append] at h1
    have : x ∉ order.drop i := fun q => h1.2.2 x hx x q rfl
    have h2 := hts_app K (order.take i) (order.drop i) x this
    rw [List.take_append_drop] at h2
    omega
  · rw [hts_zero K _ x hx]
    exact Nat.zero_le _
theorem fold1_take (f : Nat → Nat) (l : List Nat) (j : Nat) (hj : j < l.length) : fold1 f (l.take (j + 1)) = max (fold1 f (l.take j)) (f (l.getD j 0)) := by
  rw [take_at hj, fold1_snoc]
theorem hts_take (K : List (List Nat)) (order : List Nat) (i : Nat) (hi : i < order.length) : hts K (order.take (i + 1)) = upd (hts K (order.take i)) (order.getD i 0) (fold1 (hts K (order.take i)) (K.getD (order.getD i 0) []) + 1) := by
  rw [take_at hi, hts_snoc]

set_option maxRecDepth 10000 in
set_option maxHeartbeats 1000000 in
theorem depth_any (X : List Nx) (a : Option Addr) (c : Nat) (r : Int) (w : World) (h : ScAt w a X) (hX : Small X) :
    Calls Try.prog 25 #[.agg #[.slice a X.length c, .int .i64 r]] w fun e w' => DepthOut X r w w' e := by
  obtain ⟨i0, hi, hz0, hz1, hz2⟩ := info_parts Try.infoI7
  have HS : Hid (ScAt w a X ∧ Small X) := ⟨h, hX⟩
  have hn := hX.1
  have HA0 : Hid (AtN 24 (w.alloc (.cells #[.slice a X.length c, .int .i64 r] 24)) w.heap.size #[.slice a X.length c, .int .i64 r]) := AtN.new w 24 _
  have HB0 : Hid (Below w.heap.size w (w.alloc (.cells #[.slice a X.length c, .int .i64 r] 24))) := (Below.refl w.heap.size w).alloc (Nat.le_refl _) _
  have HC : Hid (Calls Try.prog 30 #[.agg #[.slice a X.length c, .int .i64 r]] (w.alloc (.cells #[.slice a X.length c, .int .i64 r] 24)) fun e w' => CheckOut X r (w.alloc (.cells #[.slice a X.length c, .int .i64 r] 24)) w' e) := check_any X a c r _ (h.alloc _) hX
  clear h hX
  go_enter Try.func25, Try.ntmps25
  go_wp2_with fail
  refine Calls.mono HC.out ?_
  rintro e w1 ⟨n, z, rfl, hck, hb1⟩
  have HA1 : Hid (AtN 24 w1 w.heap.size #[.slice a X.length c, .int .i64 r] ∧ Below w.heap.size w w1) := ⟨AtN.belowAll HA0.out hb1, HB0.out.trans (hb1.mono HB0.out.size)⟩
  have hR := hck.right
  clear HC HA0 HB0 hb1 hck
  by_cases hn0 : n = 0
  · subst hn0
    have hri : RightIs X r := hR.1 rfl
    have HG : Hid (RightIs X r) := hri
    have x0 : w1.cell? ⟨w.heap.size, 0, none⟩ = some (.slice a X.length c) := HA1.out.1.cell 0
    have x1 : w1.cell? ⟨w.heap.size, 1, none⟩ = some (.int .i64 r) := HA1.out.1.cell 1
    have HK : Hid (Calls Try.prog 39 #[.agg #[.slice a X.length c, .int .i64 r]] w1 fun e w' => KidsOut X w1 w' e) := kids_any X a c r w1 (HS.out.1.belowB HA1.out.2) HS.out.2 hri.2.1
    clear hR hri
    go_wp2_with fail
    refine Calls.mono HK.out ?_
    rintro e w2 ⟨ak, rfl, hk2, hb2⟩
    have HA2 : Hid (AtN 24 w2 w.heap.size #[.slice a X.length c, .int .i64 r] ∧ Below w.heap.size w w2 ∧ LkQ (fun _ => True) w2 ak (lks X)) := ⟨AtN.belowAll HA1.out.1 hb2, HA1.out.2.trans (hb2.mono HA1.out.2.size), hk2⟩
    have hLl : (lks X).length ≤ 61 := by rw [lks_length]; exact hn
    have hmk : (Instr.makeSlice 31 (.int .i64 ((lks X).length : Int)) (.int .i64 ((lks X).length : Int))).run Try.prog w2 = .ok (.slice (some ⟨w2.heap.size, 0, none⟩) (lks X).length (lks X).length) (w2.alloc (.cells (fnV (lks X).length (fun _ => 0)) 3)) := by
      have := run_make (P := Try.prog) w2 31 3 i0 (.int .i64 0) Try.underlying31 hi hz0 .i64 .i64 (lks X).length (lks X).length (by omega) (by omega) (by rw [hz2]; omega) (by omega)
      rw [hz1, Int.toNat_natCast, fnV_new] at this
      simpa using this
    have hb3 : Below w2.heap.size w2 (w2.alloc (.cells (fnV (lks X).length (fun _ => 0)) 3)) := (Below.refl w2.heap.size w2).alloc (Nat.le_refl _) _
    have HBt : Hid (Calls Try.prog 40 #[.slice ak (lks X).length (lks X).length] (w2.alloc (.cells (fnV (lks X).length (fun _ => 0)) 3)) fun e w' => BotOut (lks X) (w2.alloc (.cells (fnV (lks X).length (fun _ => 0)) 3)) w' e) := bottomup_any (lks X) ak _ _ (hk2.below hb3) (kX_ok HG.out.2.1) HS.out.2.lim
    have HA3 : Hid (AtN 24 (w2.alloc (.cells (fnV (lks X).length (fun _ => 0)) 3)) w.heap.size #[.slice a X.length c, .int .i64 r] ∧ Below w.heap.size w (w2.alloc (.cells (fnV (lks X).length (fun _ => 0)) 3)) ∧ LkQ (fun b => b < w2.heap.size) (w2.alloc (.cells (fnV (lks X).length (fun _ => 0)) 3)) ak (lks X) ∧ AtN 3 (w2.alloc (.cells (fnV (lks X).length (fun _ => 0)) 3)) w2.heap.size (fnV (lks X).length (fun _ => 0)) ∧ w.heap.size < w2.heap.size) := ⟨AtN.belowAll HA2.out.1 hb3, HA2.out.2.1.trans (hb3.mono HA2.out.2.1.size), hk2.now.below hb3, AtN.new w2 3 _, HA2.out.1.lt⟩
    have Hlk : Hid ((lks X).length = X.length) := lks_length X
    have Hf0 : Hid (fnV (lks X).length (fun _ => 0) = fnV (lks X).length (hts (kX X) [])) := rfl
    clear HK hk2 hb2 x0 x1 HA1 HA2 hb3
    generalize fnV (lks X).length (fun _ => 0) = f0 at *
    go_wp2_with fail
    refine Calls.mono HBt.out ?_
    rintro e w4 ⟨order, ro, co, rfl, ho4, hbo, hb4⟩
    have hBh : Behind (kX X) order := hbo.behind (kX_ok HG.out.2.1) HG.out.2.2.1
    have HO : Hid (BOut (kX X) order ∧ Behind (kX X) order) := ⟨hbo, hBh⟩
    have hsz4 := hb4.size
    have HA4 : Hid (AtN 24 w4 w.heap.size #[.slice a X.length c, .int .i64 r] ∧ Below w.heap.size w w4 ∧ LkQ (fun b => b < w2.heap.size) w4 ak (lks X) ∧ AtN 3 w4 w2.heap.size (fnV (lks X).length (hts (kX X) [])) ∧ w.heap.size < w2.heap.size ∧ LsQ (fun b => w2.heap.size < b) w4 (some ⟨ro, 0, none⟩) (nV order)) := by
      refine ⟨AtN.belowAll HA3.out.1 hb4, HA3.out.2.1.trans (hb4.mono HA3.out.2.1.size), HA3.out.2.2.1.below hb4, Hf0.out ▸ (AtN.belowAll HA3.out.2.2.2.1 hb4), HA3.out.2.2.2.2, ?_⟩
      have hro := (ho4.lt ro rfl).1
      refine (LsQ.of_own ho4).mono (fun b q _ => ?_)
      have := (ho4.lt b q).1
      simp at this
      omega
    have hol : order.length ≤ 61 := by have := hbo.len; rw [show (kOf (lks X)).length = (lks X).length from kOf_length _] at this; omega
    clear HBt HA3 ho4 hbo hBh hb4 Hf0 hmk
    go_wp2_with fail
    go_loopw [26] (fun iv wr => ∃ (i : Nat), iv = .int .i64 i ∧ i ≤ order.length ∧ Hid (AtN 3 wr w2.heap.size (fnV (lks X).length (hts (kX X) (order.take i)))) ∧ Hid (Fr (fun b => b = w2.heap.size) w4 wr)) (fun iv _ => order.length - (intOf iv).toNat)
    case atStart => exact ⟨0, rfl, by omega, by rw [List.take_zero]; exact HA4.out.2.2.2.1, Fr.refl _ _⟩
    case round =>
      obtain ⟨i, rfl, hi', HA, HF⟩ := hrel
      by_cases hlt : i < order.length
      · have hlt' : (i : Int) < order.length := by omega
        obtain ⟨b1, o1, e1, hq1, hb1, d1⟩ := (HA4.out.2.2.2.2.2.fr HF.out (fun b q _ e => by omega)).atQ (nV_at order i hlt)
        cases e1
        rw [Nat.zero_add] at d1
        have hxK : order.getD i 0 < (kX X).length := (HO.out.1.2.1 _).1 (getD_mem hlt)
        have hx : order.getD i 0 < (lks X).length := by rw [lks_length, ← kX_length]; exact hxK
        have hx0 : hts (kX X) (order.take i) (order.getD i 0) = 0 := hts_zero _ _ _ (fun q => by
          have hnd := HO.out.1.1
          rw [drop_at hlt, List.nodup_append] at hnd
          exact hnd.2.2 _ q _ (by simp) rfl)
        have HT : Hid (hts (kX X) (order.take (i + 1)) = upd (hts (kX X) (order.take i)) (order.getD i 0) (fold1 (hts (kX X) (order.take i)) ((lks X).getD (order.getD i 0) noLn).ks + 1)) := by
          show _ = _
          rw [hts_take _ _ _ hlt, kX, kOf_at]
        have hst : ∀ y, y < (lks X).length → hts (kX X) (order.take i) y ≤ 61 := fun y hy => by
          have h1 := hts_part (kX X) order HO.out.1.1 i y
          have h2 := (hts_is HO.out.1 HO.out.2).top HO.out.1 HO.out.2 (kX_ok HG.out.2.1) (a := y) (by rw [kX_length, ← lks_length]; exact hy)
          rw [kX_length] at h2
          omega
        obtain ⟨b3, o3, e3, hq3, hb3, d3⟩ := (HA4.out.2.2.1.fr HF.out (fun b q _ e => by omega)).top.atQ (lnV_at (lks X) (order.getD i 0) hx)
        have HE : Hid (∀ W, Fr (fun b => b = w2.heap.size) w4 W → LsQ (fun b => b < w2.heap.size) W ((lks X).getD (order.getD i 0) noLn).a (nV ((lks X).getD (order.getD i 0) noLn).ks)) := fun W hW => (HA4.out.2.2.1.fr hW (fun b q _ e => by omega)).each _ hx
        have HP : Hid (∀ k ∈ ((lks X).getD (order.getD i 0) noLn).ks, k < (lks X).length ∧ k ≠ order.getD i 0) := fun k hk => by
          have he : Ed (kX X) (order.getD i 0) k := by unfold Ed; rw [kX, kOf_at]; exact hk
          refine ⟨by have := kX_ok HG.out.2.1 _ _ he; rwa [kX_length, ← lks_length] at this, fun e => ?_⟩
          rw [e] at he
          exact HG.out.2.2.1 _ ⟨_, he, Rt.refl _ _⟩
        have hkl : ((lks X).getD (order.getD i 0) noLn).ks.length ≤ 300 := HS.out.2.tight.2 _ hx
        have HA' : Hid (AtN 3 wr w2.heap.size (fnV (lks X).length (upd (hts (kX X) (order.take i)) (order.getD i 0) (fold1 (hts (kX X) (order.take i)) (((lks X).getD (order.getD i 0) noLn).ks.take 0))))) := by
          rw [List.take_zero, show fold1 (hts (kX X) (order.take i)) [] = 0 from rfl, upd_self _ _ _ hx0]
          exact HA.out
        have Hst : Hid (∀ y, y < (lks X).length → hts (kX X) (order.take i) y ≤ 61) := hst
        have hx' : ((order.getD i 0 : Nat) : Int) < (lks X).length := by omega
        generalize order.getD i 0 = x at *
        generalize (lks X).getD x noLn = N at *
        generalize hts (kX X) (order.take i) = st at *
        cases e3
        clear HA hx0 hst hxK
        go_wp2_with fail
        go_loopw [35] (fun jv wr => ∃ (j : Nat), jv = .int .i64 j ∧ j ≤ N.ks.length ∧ Hid (AtN 3 wr w2.heap.size (fnV (lks X).length (upd st x (fold1 st (N.ks.take j))))) ∧ Hid (Fr (fun b => b = w2.heap.size) w4 wr)) (fun jv _ => N.ks.length - (intOf jv).toNat)
        case atStart => exact ⟨0, rfl, by omega, HA', HF⟩
        case round =>
          clear HA' HF d1 d3 hb3 hb1
          obtain ⟨j, rfl, hj, HA, HF⟩ := hrel
          have y1 : wr.cell? ⟨w2.heap.size, x, none⟩ = some (.int .i64 (fold1 st (N.ks.take j) : Int)) := by rw [HA.out.cell, fnV_at _ _ _ hx, upd_same]
          have yf := HA.out.fz x
          by_cases hjl : j < N.ks.length
          · have hjl' : (j : Int) < N.ks.length := by omega
            obtain ⟨b2, o2, e2, hq2, hb2, d2⟩ := (HE.out wr HF.out).atQ (nV_at N.ks j hjl)
            obtain ⟨hk1, hk2⟩ := HP.out _ (getD_mem hjl)
            have y2 : wr.cell? ⟨w2.heap.size, N.ks.getD j 0, none⟩ = some (.int .i64 (st (N.ks.getD j 0) : Int)) := by rw [HA.out.cell, fnV_at _ _ _ hk1, upd_other _ _ hk2]
            have HV : Hid (AtN 3 (wr.setCell ⟨w2.heap.size, x, none⟩ (.int .i64 (max (fold1 st (N.ks.take j) : Int) (st (N.ks.getD j 0) : Int)))).drew w2.heap.size (fnV (lks X).length (upd st x (fold1 st (N.ks.take (j + 1))))) ∧ Fr (fun b => b = w2.heap.size) w4 (wr.setCell ⟨w2.heap.size, x, none⟩ (.int .i64 (max (fold1 st (N.ks.take j) : Int) (st (N.ks.getD j 0) : Int)))).drew) := by
              refine ⟨?_, (HF.out.set ⟨w2.heap.size, x, none⟩ rfl _).drew⟩
              rw [show max (fold1 st (N.ks.take j) : Int) (st (N.ks.getD j 0) : Int) = ((max (fold1 st (N.ks.take j)) (st (N.ks.getD j 0)) : Nat) : Int) by omega]
              have := AtN.set HA.out x (.int .i64 ((max (fold1 st (N.ks.take j)) (st (N.ks.getD j 0)) : Nat) : Int))
              rw [fnV_set, upd_upd] at this
              rw [fold1_take st N.ks j hjl]
              exact this
            have hk1' : ((N.ks.getD j 0 : Nat) : Int) < (lks X).length := by omega
            generalize N.ks.getD j 0 = k at *
            generalize fold1 st (N.ks.take j) = A at *
            generalize st k = C at *
            rw [e2]
            clear HA HF HE HP HT Hst HG HS HA4 HO hk2 Hlk
            go_wp2_with fail
            go_region
            go_wp2_with fail
            go_roundw
            case rel =>
              have hm : max (A : Int) (C : Int) = if A < C then (C : Int) else A := by split <;> omega
              first
                | exact ⟨j + 1, by go_num, by omega, HV.out.1, HV.out.2⟩
                | (have HV' := HV.out; rw [hm] at HV'; exact ⟨j + 1, by go_num, by omega, HV'.1, HV'.2⟩)
            case measure => simp [intOf]; omega
          · have hjl' : ¬ (j : Int) < N.ks.length := by omega
            have hA60 : fold1 st (N.ks.take j) ≤ 61 := fold1_le _ _ _ (fun k hk => Hst.out k (HP.out k (List.mem_of_mem_take hk)).1)
            have HV : Hid (AtN 3 (wr.setCell ⟨w2.heap.size, x, none⟩ (.int .i64 ((fold1 st (N.ks.take j) : Int) + 1))) w2.heap.size (fnV (lks X).length (hts (kX X) (order.take (i + 1)))) ∧ Fr (fun b => b = w2.heap.size) w4 (wr.setCell ⟨w2.heap.size, x, none⟩ (.int .i64 ((fold1 st (N.ks.take j) : Int) + 1)))) := by
              refine ⟨?_, HF.out.set ⟨w2.heap.size, x, none⟩ rfl _⟩
              have := AtN.set HA.out x (.int .i64 ((fold1 st (N.ks.take j) + 1 : Nat) : Int))
              rw [fnV_set, upd_upd] at this
              rw [HT.out, show fold1 st N.ks = fold1 st (N.ks.take j) by rw [List.take_of_length_le (by omega)]]
              exact this
            generalize fold1 st (N.ks.take j) = A at *
            clear HA HF HE HP HT Hst HG HS HA4 HO Hlk
            go_wp2_with fail
            go_roundw
            case rel => exact ⟨i + 1, by go_num, by omega, HV.out.1, HV.out.2⟩
            case measure => simp [intOf]; omega
      · have hlt' : ¬ (i : Int) < order.length := by omega
        have hrK : r.toNat < X.length := by have := isPb_iff.1 HG.out.1; omega
        have hrn : r = (r.toNat : Int) := (Int.toNat_of_nonneg (isPb_iff.1 HG.out.1).1).symm
        have x1 : wr.cell? ⟨w.heap.size, 1, none⟩ = some (.int .i64 (r.toNat : Int)) := by
          rw [← hrn]
          exact (AtN.fr HA4.out.1 HF.out (by have := HA4.out.2.2.2.2.1; omega)).cell 1
        have y1 : wr.cell? ⟨w2.heap.size, r.toNat, none⟩ = some (.int .i64 (hts (kX X) order r.toNat : Int)) := by
          rw [HA.out.cell, List.take_of_length_le (by omega), fnV_at _ _ _ (by rw [lks_length]; exact hrK)]
        have hrl : (r.toNat : Int) < (lks X).length := by rw [lks_length]; omega
        have HV : Hid (DepthOut X r w wr (.returned (.int .i64 (hts (kX X) order r.toNat : Int)))) := ⟨_, rfl, ⟨fun q => absurd HG.out q, fun _ => ⟨_, hts_is HO.out.1 HO.out.2, rfl, fun x hx => by have := (hts_is HO.out.1 HO.out.2).top HO.out.1 HO.out.2 (kX_ok HG.out.2.1) (a := x) (by rw [kX_length]; exact hx); rwa [kX_length] at this⟩⟩, Fr.below HA4.out.2.1 HF.out (fun z e => by have := HA4.out.2.2.2.2.1; omega) HA4.out.2.1.size⟩
        have Hrn : Hid (r = (r.toNat : Int)) := hrn
        generalize hts (kX X) order r.toNat = D at *
        generalize r.toNat = rn at *
        clear HA HF HG HS HA4 HO Hlk hrn
        go_wp2_with fail
        go_ret
        exact HV.out
  · have HV : Hid (DepthOut X r w w1 (.returned (.int .i64 0))) := ⟨0, rfl, ⟨fun _ => rfl, fun q => absurd (hR.2 q) hn0⟩, HA1.out.2⟩
    clear hR HA1 HS
    go_wp2_with fail
    go_ret
    exact HV.out

end Go.Proofs.Ytnmdkbeicggfhaa
