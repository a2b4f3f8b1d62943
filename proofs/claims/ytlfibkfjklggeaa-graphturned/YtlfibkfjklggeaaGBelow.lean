/- The contract of the program's Below. -/
import Derived.Test.YtlfibkfjklggeaaGSrt
namespace Go.Proofs.Ytlfibkfjklggeaa
open Go.RowKit Go.Maps Go.WideMaps Go.Sort

/-- May it be asked what is below a place? -/
def BelowOk (X : List Nx) (r k : Int) : Prop := isPb X.length r = true ∧ (∀ i, i < X.length → okAt X i) ∧ isPb X.length k = true
def BelowIs (X : List Nx) (r k : Int) (l : List Nat) : Prop := (¬ BelowOk X r k → l = []) ∧ (BelowOk X r k → l.Pairwise (· < ·) ∧ ∀ x, x ∈ l ↔ Rt (Ed (kX X)) k.toNat x)
def BelowOut (X : List Nx) (r k : Int) (w w' : World) (e : Ending) : Prop := ∃ l a c, e = .returned (.slice a (List.length l) c) ∧ LsAt w' a (nV l) ∧ BelowIs X r k l ∧ l.length ≤ 60 ∧ Below w.heap.size w w'

theorem sort_lt {l s : List Nat} (h : SortIs l s) (hn : l.Nodup) : s.Pairwise (· < ·) := by
  have hs : s.Nodup := h.1.nodup_iff.2 hn
  have h2 := h.2
  clear h hn
  induction s with
  | nil => simp
  | cons x r ih =>
    rw [List.pairwise_cons] at h2 ⊢
    rw [List.nodup_cons] at hs
    refine ⟨fun y hy => ?_, ih hs.2 h2.2⟩
    have h3 := h2.1 y hy
    have : x ≠ y := fun e => hs.1 (e ▸ hy)
    omega

set_option maxRecDepth 10000 in
set_option maxHeartbeats 400000 in
theorem below_any (X : List Nx) (a : Option Addr) (c : Nat) (r k : Int) (w : World) (h : ScAt w a X) (hX : Small X) :
    Calls Try.prog 15 #[.agg #[.slice a X.length c, .int .i64 r], .int .i64 k] w fun e w' => BelowOut X r k w w' e := by
  have HS : Hid (ScAt w a X ∧ Small X) := ⟨h, hX⟩
  have hn := hX.1
  have HA0 : Hid (AtN 24 (w.alloc (.cells #[.slice a X.length c, .int .i64 r] 24)) w.heap.size #[.slice a X.length c, .int .i64 r]) := AtN.new w 24 _
  have HB0 : Hid (Below w.heap.size w (w.alloc (.cells #[.slice a X.length c, .int .i64 r] 24))) := (Below.refl w.heap.size w).alloc (Nat.le_refl _) _
  have HF : Hid (Calls Try.prog 25 #[.agg #[.slice a X.length c, .int .i64 r]] (w.alloc (.cells #[.slice a X.length c, .int .i64 r] 24)) fun e w' => FwOut X r (w.alloc (.cells #[.slice a X.length c, .int .i64 r] 24)) w' e) := firstwrong_any X a c r _ (h.alloc _) hX
  clear h hX
  go_enter Try.func15, Try.ntmps15
  go_wp2_with fail
  refine Calls.mono HF.out ?_
  rintro e w1 ⟨z, b, rfl, hfw, hb1⟩
  have HA1 : Hid (AtN 24 w1 w.heap.size #[.slice a X.length c, .int .i64 r] ∧ Below w.heap.size w w1) := ⟨AtN.belowAll HA0.out hb1, HB0.out.trans (hb1.mono HB0.out.size)⟩
  clear HF HA0 HB0 hb1
  by_cases hgood : b = false
  · subst hgood
    have hr : isPb X.length r = true := by
      rcases hfw with ⟨_, _, q⟩ | ⟨q, _⟩
      · cases q
      · exact q
    have hok : ∀ i, i < X.length → okAt X i := by
      rcases hfw with ⟨_, _, q⟩ | ⟨_, ⟨_, _, q⟩ | ⟨q, _⟩⟩
      · cases q
      · exact q
      · cases q
    have x0 : w1.cell? ⟨w.heap.size, 0, none⟩ = some (.slice a X.length c) := HA1.out.1.cell 0
    have x1 : w1.cell? ⟨w.heap.size, 1, none⟩ = some (.int .i64 r) := HA1.out.1.cell 1
    by_cases hk : isPb X.length k = true
    · have hk' := isPb_iff.1 hk
      have hkn : k = (k.toNat : Int) := (Int.toNat_of_nonneg hk'.1).symm
      have HG : Hid (BelowOk X r k ∧ k.toNat < X.length) := ⟨⟨hr, hok, hk⟩, by omega⟩
      have HK : Hid (Calls Try.prog 26 #[.agg #[.slice a X.length c, .int .i64 r]] w1 fun e w' => KidsOut X w1 w' e) := kids_any X a c r w1 (HS.out.1.belowB HA1.out.2) HS.out.2 hok
      have Hkn : Hid (k = (k.toNat : Int)) := hkn
      have hmm := @run_makeMap Try.prog
      clear hfw hr hok hk' hkn
      go_wp2_with (go_at_call 30; refine (isplace_any _ _ _).mono ?_; rintro e w5 ⟨rfl, rfl⟩; rw [hk])
      refine Calls.mono HK.out ?_
      rintro e w2 ⟨ak, rfl, hk2, hb2⟩
      have hm0 := Met.made w2
      have hb0 : Below w2.heap.size w2 (w2.alloc (.map #[] 0)) := (Below.refl w2.heap.size w2).alloc (Nat.le_refl _) _
      have HB2 : Hid (Below w.heap.size w w2) := HA1.out.2.trans (hb2.mono HA1.out.2.size)
      have HW : Hid (Calls Try.prog 31 #[.slice ak (lks X).length (lks X).length, .int .i64 k, .map (some w2.heap.size)] (w2.alloc (.map #[] 0)) fun e w' => WalkOut (lks X) w2.heap.size 0 [] k.toNat (w2.alloc (.map #[] 0)) w' e) := by
        have := walk_any (Q := fun b => b < w2.heap.size) (lks X) ak (lks X).length k.toNat w2.heap.size 0 [] _ (hk2.now.below hb0) (fun b q => by omega) hm0 (kX_ok HG.out.1.2.1) (by rw [lks_length]; exact HG.out.2) HS.out.2.lim (by omega)
        rwa [← Hkn.out] at this
      clear HK hk2 hb2 hm0 hb0 x0 x1 HA1 hk
      go_wp2_with fail
      refine Calls.mono HW.out ?_
      rintro e w3 ⟨found, af, cf, rfl, hof, hwo, hm3, hf3⟩
      have hin : k.toNat ∈ found := (hwo.all k.toNat).2 (Rt.refl _ _)
      have hfl : found.length ≤ 60 := by
        have := nodup_le (lks X).length found hwo.1 (fun x hx => by
          have := Ok9.rt (kX_ok HG.out.1.2.1) (by rw [kX_length]; exact HG.out.2) ((hwo.all x).1 hx)
          rwa [kX_length, ← lks_length] at this)
        rw [lks_length] at this
        omega
      have hfp : 0 < found.length := List.length_pos_of_mem hin
      obtain ⟨g, rfl⟩ : ∃ g, af = some ⟨g, 0, none⟩ := by
        rcases hof.2 with ⟨q, q2⟩ | ⟨g, cap, cur, q, _⟩
        · omega
        · simp only [Value.slice.injEq] at q
          exact ⟨g, q.1⟩
      have HB3 : Hid (Below w.heap.size w w3 ∧ w.heap.size ≤ g ∧ WOut (kX X) [] k.toNat found ∧ found.length ≤ 60) := ⟨Fr.below ((HB2.out.alloc HB2.out.size _)) hf3 (fun z e => by have := HB2.out.size; omega) (by have := HB2.out.size; simp; omega), by have q1 := (hof.lt g rfl).1; have q2 := HB2.out.size; simp at q1; omega, hwo, hfl⟩
      have HSo : Hid (Calls Try.prog 32 #[.slice (some ⟨g, 0, none⟩) found.length cf] w3 fun e w' => SortOut found (w2.alloc (.map #[] 0)).heap.size g cf w3 w' e) := sort_any found _ g cf w3 hof (by omega)
      clear HW hof hwo hm3 hf3 hin hfl HB2 Hkn hfp
      go_wp2_with fail
      refine Calls.mono HSo.out ?_
      rintro e w4 ⟨rfl, s, hs, hsl, ho4, hg4⟩
      have HV : Hid (BelowOut X r k w w4 (.returned (.slice (some ⟨g, 0, none⟩) found.length cf))) := by
        refine ⟨s, some ⟨g, 0, none⟩, cf, by rw [hsl], LsAt.of_own ho4, ⟨fun q => absurd HG.out.1 q, fun _ => ⟨sort_lt hs HB3.out.2.2.1.1, fun x => ?_⟩⟩, by have := HB3.out.2.2.2; omega, ?_⟩
        · rw [hs.1.mem_iff]
          exact HB3.out.2.2.1.all x
        · exact HB3.out.1.grown hg4 HB3.out.1.size (fun q e => by cases e; exact HB3.out.2.1)
      clear HSo hs hsl ho4 hg4 HB3 HG HS
      go_wp2_with fail
      go_ret
      exact HV.out
    · have hk' : isPb X.length k = false := by simpa using hk
      have HV : Hid (BelowOut X r k w w1 (.returned (.slice none 0 0))) := ⟨[], none, 0, rfl, LsAt.nil _ _, ⟨fun _ => rfl, fun q => absurd q.2.2 hk⟩, by simp, HA1.out.2⟩
      clear hfw hr hok hk HA1 HS
      go_wp2_with (go_at_call 30; refine (isplace_any _ _ _).mono ?_; rintro e w5 ⟨rfl, rfl⟩; rw [hk'])
      go_ret
      exact HV.out
  · have hb : b = true := by simpa using hgood
    subst hb
    have HV : Hid (BelowOut X r k w w1 (.returned (.slice none 0 0))) := by
      refine ⟨[], none, 0, rfl, LsAt.nil _ _, ⟨fun _ => rfl, fun q => ?_⟩, by simp, HA1.out.2⟩
      rcases hfw with ⟨p, _, _⟩ | ⟨_, ⟨p, _⟩ | ⟨_, i, hi, _, hno, _⟩⟩
      · rw [q.1] at p; cases p
      · cases p
      · exact absurd (q.2.1 i hi) hno
    clear hfw HA1 HS hgood
    go_wp2_with fail
    go_ret
    exact HV.out

end Go.Proofs.Ytlfibkfjklggeaa
