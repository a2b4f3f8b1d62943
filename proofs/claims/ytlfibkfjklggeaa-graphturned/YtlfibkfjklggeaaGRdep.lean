/- The contracts of ref's Depths and Ints. -/
import Derived.Test.YtlfibkfjklggeaaGRchk
namespace Go.Proofs.Ytlfibkfjklggeaa
open Go.RowKit Go.Maps Go.WideMaps Go.Sort

theorem fold1_mem (f : Nat → Nat) (l : List Nat) (k : Nat) (hk : k ∈ l) : f k ≤ fold1 f l := by
  have : ∀ (l : List Nat) (m : Nat), k ∈ l → f k ≤ l.foldl (fun m k => max m (f k)) m := by
    intro l
    induction l with
    | nil => intro m q; simp at q
    | cons x t ih =>
      intro m q
      rw [List.foldl_cons]
      rcases List.mem_cons.1 q with rfl | q
      · exact Nat.le_trans (Nat.le_max_right _ _) (foldl_ge f t _)
      · exact ih _ q
  exact this l 0 hk
theorem getD_toNat (l : List Int) (j : Nat) (hj : j < l.length) : (l.map Int.toNat).getD j 0 = (l.getD j 0).toNat := by simp [hj]
/-- Heights are one. -/
theorem HtIs.uniq {K : List (List Nat)} {h h' : Nat → Nat} (hh : HtIs K h) (hh' : HtIs K h') (hk : Ok9 K) : ∀ (n a : Nat), h a = n → a < K.length → h a = h' a := by
  intro n
  induction n using Nat.strongRecOn with
  | _ n ih =>
    intro a hn ha
    rw [hh a ha, hh' a ha]
    congr 1
    refine fold1_congr _ (fun k e => ih (h k) ?_ k rfl (hk a k e))
    have := fold1_mem h _ k e
    have := hh a ha
    omega

def DepsOut (X : List Nx) (h : Nat → Nat) (w w' : World) (e : Ending) : Prop := ∃ g out, e = .returned (.slice (some ⟨g, 0, none⟩) X.length X.length) ∧ AtN 3 w' g (fnV X.length out) ∧ (∀ x, x < X.length → out x = h x) ∧ Below w.heap.size w w'

set_option maxRecDepth 10000 in
set_option maxHeartbeats 1000000 in
theorem depths_any (X : List Nx) (a : Option Addr) (c : Nat) (r : Int) (w : World) (h : Nat → Nat) (hs : ScAt w a X) (hX : Small X) (hok : ∀ i, i < X.length → okAt X i) (hh : HtIs (kX X) h) (hle : ∀ x, x < X.length → h x ≤ X.length) :
    Calls Try.prog 22 #[.agg #[.slice a X.length c, .int .i64 r]] w fun e w' => DepsOut X h w w' e := by
  obtain ⟨i0, hi, hz0, hz1, hz2⟩ := info_parts Try.infoI7
  have hn := hX.1
  have HS : Hid (ScAt w a X ∧ Small X ∧ (∀ i, i < X.length → okAt X i) ∧ HtIs (kX X) h ∧ ∀ x, x < X.length → h x ≤ X.length) := ⟨hs, hX, hok, hh, hle⟩
  have hmk : (Instr.makeSlice 34 (.int .i64 (X.length : Int)) (.int .i64 (X.length : Int))).run Try.prog (w.alloc (.cells #[.slice a X.length c, .int .i64 r] 24)) = .ok (.slice (some ⟨w.heap.size + 1, 0, none⟩) X.length X.length) ((w.alloc (.cells #[.slice a X.length c, .int .i64 r] 24)).alloc (.cells (fnV X.length (fun _ => 0)) 3)) := by
    have := run_make (P := Try.prog) (w.alloc (.cells #[.slice a X.length c, .int .i64 r] 24)) 34 3 i0 (.int .i64 0) Try.underlying34 hi hz0 .i64 .i64 X.length X.length (by omega) (by omega) (by rw [hz2]; omega) (by omega)
    rw [hz1, Int.toNat_natCast, fnV_new] at this
    simpa using this
  have HA1 : Hid (AtN 3 ((w.alloc (.cells #[.slice a X.length c, .int .i64 r] 24)).alloc (.cells (fnV X.length (fun _ => 0)) 3)) (w.heap.size + 1) (fnV X.length (fun _ => 0))) := mk_at (AtN.new _ 3 _) (by simp)
  have HA0 : Hid (AtN 24 ((w.alloc (.cells #[.slice a X.length c, .int .i64 r] 24)).alloc (.cells (fnV X.length (fun _ => 0)) 3)) w.heap.size #[.slice a X.length c, .int .i64 r]) := (AtN.new w 24 _).alloc _
  have HB1 : Hid (Below w.heap.size w ((w.alloc (.cells #[.slice a X.length c, .int .i64 r] 24)).alloc (.cells (fnV X.length (fun _ => 0)) 3))) := ((Below.refl w.heap.size w).alloc (Nat.le_refl _) _).alloc (by simp) _
  obtain ⟨f0, hf0⟩ : ∃ f, fnV X.length (fun _ => 0) = f := ⟨_, rfl⟩
  have Hf0 : Hid (fnV X.length (fun _ => 0) = f0) := hf0
  rw [hf0] at hmk HA1 HA0 HB1
  clear hs hX hok hh hle hf0
  go_enter Try.func22, Try.ntmps22
  go_wp2_with fail
  go_loopw [4] (fun rv wr => ∃ (q : Nat) (out : Nat → Nat), rv = .int .i64 q ∧ q ≤ X.length + 1 ∧ Hid (RdInv (kX X) h q 0 out) ∧ Hid (AtN 3 wr (w.heap.size + 1) (fnV X.length out)) ∧ Hid (AtN 24 wr w.heap.size #[.slice a X.length c, .int .i64 r]) ∧ Hid (Below w.heap.size w wr)) (fun rv _ => X.length + 1 - (intOf rv).toNat)
  case atStart => exact ⟨0, fun _ => 0, rfl, by omega, RdInv.start HS.out.2.2.2.1, Hf0.out ▸ HA1, HA0, HB1⟩
  case round =>
    clear HA1 HA0 HB1 hmk Hf0
    obtain ⟨q, out, rfl, hq, HR, HA, HAs, HB⟩ := hrel
    have x0 : wr.cell? ⟨w.heap.size, 0, none⟩ = some (.slice a X.length c) := HAs.out.cell 0
    by_cases hlt : q ≤ X.length
    · have hlt' : (q : Int) ≤ X.length := by omega
      go_wp2_with fail
      go_loopw [5] (fun iv wr => ∃ (i : Nat) (out : Nat → Nat), iv = .int .i64 i ∧ i ≤ X.length ∧ Hid (RdInv (kX X) h q i out) ∧ Hid (AtN 3 wr (w.heap.size + 1) (fnV X.length out)) ∧ Hid (AtN 24 wr w.heap.size #[.slice a X.length c, .int .i64 r]) ∧ Hid (Below w.heap.size w wr)) (fun iv _ => X.length - (intOf iv).toNat)
      case atStart => exact ⟨0, out, rfl, by omega, HR, HA, HAs, HB⟩
      case round =>
        clear HR HA HAs HB x0
        obtain ⟨i, out, rfl, hi', HR, HA, HAs, HB⟩ := hrel
        have x0 : wr.cell? ⟨w.heap.size, 0, none⟩ = some (.slice a X.length c) := HAs.out.cell 0
        by_cases hil : i < X.length
        · have hil' : (i : Int) < X.length := by omega
          have HN : Hid (RdInv (kX X) h q (i + 1) (upd out i (max (out i) (fold1 out ((X.getD i noNx).nd.kids.map Int.toNat) + 1)))) := by
            have := HR.out.step HS.out.2.2.2.1 (kX_ok HS.out.2.2.1) (by rw [kX_length]; exact hil)
            rwa [kX_at X i hil] at this
          have hout : ∀ x, x < X.length → out x ≤ 60 := fun x hx => by
            have h1 := HR.out.le x (by rw [kX_length]; exact hx)
            have h2 := HS.out.2.2.2.2 x hx
            omega
          have HP : Hid (∀ j, j < (X.getD i noNx).nd.kids.length → ∃ k : Nat, (X.getD i noNx).nd.kids.getD j 0 = k ∧ ((X.getD i noNx).nd.kids.map Int.toNat).getD j 0 = k ∧ k < X.length) := fun j hj => by
            have := isPb_iff.1 (HS.out.2.2.1 i hil j hj)
            refine ⟨((X.getD i noNx).nd.kids.getD j 0).toNat, (Int.toNat_of_nonneg this.1).symm, ?_, by omega⟩
            exact getD_toNat _ j hj
          have hkl := HS.out.2.1.kids hil
          have HE : Hid (∀ W, Below w.heap.size w W → ∃ b o, a = some ⟨b, o, none⟩ ∧ b < w.heap.size ∧ W.cell? ⟨b, o + i * 4 + 3, none⟩ = some (.slice (X.getD i noNx).a3 (X.getD i noNx).nd.kids.length (X.getD i noNx).c3) ∧ LsAt W (X.getD i noNx).a3 (iV (X.getD i noNx).nd.kids)) := fun W hW => by
            obtain ⟨b, o, e, hb, _⟩ := HS.out.1.node hil
            have hs := HS.out.1.belowB hW
            obtain ⟨b', o', e', _, _, _, _, d⟩ := hs.node hil
            rw [e] at e'
            cases e'
            exact ⟨b, o, e, hb, d, (hs.each i hil).k⟩
          have Hout : Hid (∀ x, x < X.length → out x ≤ 60) := hout
          have hlenK : ((X.getD i noNx).nd.kids.map Int.toNat).length = (X.getD i noNx).nd.kids.length := by simp
          have HlK : Hid (((X.getD i noNx).nd.kids.map Int.toNat).length = (X.getD i noNx).nd.kids.length) := hlenK
          generalize (X.getD i noNx).nd.kids.map Int.toNat = ks at *
          generalize X.getD i noNx = N at *
          clear hout hlenK HR
          go_wp2_with fail
          go_loopw [6, 7] (fun nv jv wr => ∃ (j A : Nat), jv = .int .i64 j ∧ nv = .int .i64 (A : Int) ∧ j ≤ N.nd.kids.length ∧ A ≤ 60 ∧ Hid (A = fold1 out (ks.take j)) ∧ Hid (AtN 3 wr (w.heap.size + 1) (fnV X.length out)) ∧ Hid (AtN 24 wr w.heap.size #[.slice a X.length c, .int .i64 r]) ∧ Hid (Below w.heap.size w wr)) (fun _ jv _ => N.nd.kids.length - (intOf jv).toNat)
          case atStart => exact ⟨0, 0, rfl, rfl, by omega, by omega, rfl, HA, HAs, HB⟩
          case round =>
            clear HA HAs HB x0
            obtain ⟨j, A, rfl, rfl, hj, hA60, Hfo, HA, HAs, HB⟩ := hrel
            have x0 : wr.cell? ⟨w.heap.size, 0, none⟩ = some (.slice a X.length c) := HAs.out.cell 0
            obtain ⟨b, o, rfl, hbl, d3, hk3⟩ := HE.out wr HB.out
            by_cases hjl : j < N.nd.kids.length
            · have hjl' : (j : Int) < N.nd.kids.length := by omega
              obtain ⟨b2, o2, e2, hb2, d4⟩ := hk3.at (iV_at _ j hjl)
              obtain ⟨k, hk1, hk2, hk3'⟩ := HP.out j hjl
              rw [hk1] at d4
              rw [e2] at d3
              have y0 : wr.cell? ⟨w.heap.size + 1, k, none⟩ = some (.int .i64 (out k : Int)) := by rw [HA.out.cell, fnV_at _ _ _ hk3']
              have hk3'' : (k : Int) < X.length := by omega
              have hok60 := Hout.out k hk3'
              have HT : Hid (max A (out k) = fold1 out (ks.take (j + 1))) := by
                show _ = _
                rw [fold1_take out ks j (by rw [HlK.out]; exact hjl), hk2, ← Hfo.out]
              generalize out k = C at *
              clear hk3 HN HP HE hk1 hk2 Hfo Hout
              by_cases hgt : A < C
              · have hgt' : (A : Int) < C := by omega
                rw [Nat.max_eq_right (by omega)] at HT
                go_wp2_with fail
                go_roundw
                case rel => exact ⟨j + 1, C, by go_num, rfl, by omega, by omega, HT, HA, HAs, HB⟩
                case measure => simp [intOf]; omega
              · have hgt' : ¬ (A : Int) < C := by omega
                rw [Nat.max_eq_left (by omega)] at HT
                go_wp2_with fail
                go_roundw
                case rel => exact ⟨j + 1, A, by go_num, rfl, by omega, by omega, HT, HA, HAs, HB⟩
                case measure => simp [intOf]; omega
            · have hjl' : ¬ (j : Int) < N.nd.kids.length := by omega
              have hfa : A = fold1 out ks := by
                have h0 : A = fold1 out (ks.take j) := Hfo.out
                rwa [List.take_of_length_le (by rw [HlK.out]; omega)] at h0
              have y0 : wr.cell? ⟨w.heap.size + 1, i, none⟩ = some (.int .i64 (out i : Int)) := by rw [HA.out.cell, fnV_at _ _ _ hil]
              have yf := HA.out.fz i
              have ho60 := Hout.out i hil
              rw [← hfa] at HN
              by_cases hgt : out i < A + 1
              · have hgt' : (out i : Int) < (A : Int) + 1 := by omega
                have HN2 : Hid (RdInv (kX X) h q (i + 1) (upd out i (A + 1))) := by
                  have := HN.out
                  rwa [Nat.max_eq_right (by omega)] at this
                have HA2 : Hid (AtN 3 (wr.setCell ⟨w.heap.size + 1, i, none⟩ (.int .i64 ((A : Int) + 1))) (w.heap.size + 1) (fnV X.length (upd out i (A + 1)))) := by
                  have := AtN.set HA.out i (.int .i64 ((A + 1 : Nat) : Int))
                  rwa [fnV_set] at this
                have HAs2 : Hid (AtN 24 (wr.setCell ⟨w.heap.size + 1, i, none⟩ (.int .i64 ((A : Int) + 1))) w.heap.size #[.slice (some ⟨b, o, none⟩) X.length c, .int .i64 r]) := AtN.setOther HAs.out _ (by show w.heap.size + 1 ≠ w.heap.size; omega) _
                have HB2 : Hid (Below w.heap.size w (wr.setCell ⟨w.heap.size + 1, i, none⟩ (.int .i64 ((A : Int) + 1)))) := set_below HB.out _ (by show w.heap.size ≤ w.heap.size + 1; omega) _
                generalize out i = D at *
                clear hfa Hfo HN HP HE HA HAs HB Hout hk3
                go_wp2_with fail
                go_roundw
                case rel => exact ⟨i + 1, _, by go_num, by omega, HN2, HA2, HAs2, HB2⟩
                case measure => simp [intOf]; omega
              · have hgt' : ¬ ((out i : Int) < (A : Int) + 1) := by omega
                have HN2 : Hid (RdInv (kX X) h q (i + 1) out) := by
                  have := HN.out
                  rwa [Nat.max_eq_left (by omega), upd_self _ _ _ rfl] at this
                generalize out i = D at *
                clear hfa Hfo HN HP HE Hout hk3
                go_wp2_with fail
                go_roundw
                case rel => exact ⟨i + 1, out, by go_num, by omega, HN2, HA, HAs, HB⟩
                case measure => simp [intOf]; omega
        · have hil' : ¬ (i : Int) < X.length := by omega
          have HN2 : Hid (RdInv (kX X) h (q + 1) 0 out) := HR.out.next (by rw [kX_length]; omega)
          clear HR
          go_wp2_with fail
          go_roundw
          case rel => exact ⟨q + 1, out, by go_num, by omega, HN2, HA, HAs, HB⟩
          case measure => simp [intOf]; omega
    · have hlt' : ¬ (q : Int) ≤ X.length := by omega
      have HV : Hid (DepsOut X h w wr (.returned (.slice (some ⟨w.heap.size + 1, 0, none⟩) X.length X.length))) := ⟨w.heap.size + 1, out, rfl, HA.out, fun x hx => HR.out.old x (by rw [kX_length]; exact hx) (by have := HS.out.2.2.2.2 x hx; omega), HB.out⟩
      clear HR HA HAs HB HS
      go_wp2_with fail
      go_ret
      exact HV.out

/-- Are two lists the same? -/
def intsB (A B : List Nat) : Bool := decide (A = B)
set_option maxRecDepth 10000 in
set_option maxHeartbeats 400000 in
theorem ints_any (A B : List Nat) (a b : Option Addr) (c d : Nat) (w : World) (ha : LsAt w a (nV A)) (hb : LsAt w b (nV B)) (hA : A.length ≤ 1000) :
    Calls Try.prog 19 #[.slice a A.length c, .slice b B.length d] w fun e w' => e = .returned (.bool (intsB A B)) ∧ Below w.heap.size w w' := by
  have HS : Hid (LsAt w a (nV A) ∧ LsAt w b (nV B)) := ⟨ha, hb⟩
  have HB0 : Hid (Below w.heap.size w w) := Below.refl _ _
  clear ha hb
  by_cases hl : A.length = B.length
  · have Hl : Hid (A.length = B.length) := hl
    rw [← hl]
    clear hl
    go_enter Try.func19, Try.ntmps19
    go_wp2_with fail
    go_loopw [5] (fun iv wr => ∃ i : Nat, iv = .int .i64 i ∧ i ≤ A.length ∧ Hid (∀ k, k < i → A.getD k 0 = B.getD k 0) ∧ Hid (Below w.heap.size w wr)) (fun iv _ => A.length - (intOf iv).toNat)
    case atStart => exact ⟨0, rfl, by omega, fun k hk => by omega, HB0⟩
    case round =>
      obtain ⟨i, rfl, hi, HI, HB⟩ := hrel
      by_cases hlt : i < A.length
      · have hlt' : (i : Int) < A.length := by omega
        obtain ⟨g1, o1, rfl, l1, d1⟩ := (HS.out.1.belowB HB.out).at (nV_at A i hlt)
        obtain ⟨g2, o2, rfl, l2, d2⟩ := (HS.out.2.belowB HB.out).at (nV_at B i (by rw [← Hl.out]; exact hlt))
        by_cases he : A.getD i 0 = B.getD i 0
        · have HV : Hid (∀ k, k < i + 1 → A.getD k 0 = B.getD k 0) := fun k hk => by
            by_cases e : k = i
            · rw [e]; exact he
            · exact HI.out k (by omega)
          rw [← he] at d2
          generalize A.getD i 0 = x at *
          clear HI HS he
          go_wp2_with fail
          go_quiet (fail)
          go_wp2_with fail
          go_roundw
          case rel => exact ⟨i + 1, by go_num, by omega, HV, dn_below HB.out _⟩
          case measure => simp [intOf]; omega
        · have HV : Hid (intsB A B = false) := decide_eq_false (fun q => he (by rw [q]))
          have he' : ¬ ((A.getD i 0 : Nat) : Int) = (B.getD i 0 : Nat) := by omega
          generalize A.getD i 0 = x at *
          generalize B.getD i 0 = y at *
          clear HI HS he
          go_wp2_with fail
          go_quiet (fail)
          go_wp2_with fail
          go_ret
          rw [HV.out]
          exact ⟨rfl, dn_below HB.out _⟩
      · have hlt' : ¬ (i : Int) < A.length := by omega
        have HV : Hid (intsB A B = true) := decide_eq_true (List.ext_getElem Hl.out (fun k h1 h2 => by
          have := HI.out k (by omega)
          rw [List.getD_eq_getElem?_getD, List.getD_eq_getElem?_getD, List.getElem?_eq_getElem h1, List.getElem?_eq_getElem h2] at this
          exact this))
        clear HI HS
        go_wp2_with fail
        go_ret
        rw [HV.out]
        exact ⟨rfl, HB.out⟩
  · have hl' : ¬ (A.length : Int) = B.length := by omega
    have HV : Hid (intsB A B = false) := decide_eq_false (fun q => hl (by rw [q]))
    clear HS
    go_enter Try.func19, Try.ntmps19
    go_wp2_with fail
    go_ret
    rw [HV.out]
    exact ⟨rfl, HB0.out⟩

end Go.Proofs.Ytlfibkfjklggeaa
