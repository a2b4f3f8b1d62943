/- The contract of the program's climb: a place, behind all that is first met by ways down from it. -/
import Derived.Test.YtcdpjaaiojpelaaDoorGWalk
import Derived.Deep.LoopGhost
import Derived.Deep.QuietTactic
import Derived.WalkSmall
namespace Go.Proofs.YtcdpjaaiojpelaaDoor
open Go.RowKit Go.Maps Go.WideMaps Go.Sort

/-- A way down, as the cells hold it. -/
def wC (p : Nat × Nat) : List Value := [.int .i64 (p.1 : Int), .int .i64 (p.2 : Int)]
def wV (way : List (Nat × Nat)) : List Value := way.flatMap wC
theorem wV_length (way : List (Nat × Nat)) : (wV way).length = way.length * 2 := by
  induction way with
  | nil => rfl
  | cons x r ih => simp only [wV, List.flatMap_cons, List.length_append, List.length_cons] at ih ⊢; rw [ih]; simp [wC]; omega
theorem wV_snoc (way : List (Nat × Nat)) (p : Nat × Nat) : wV (way ++ [p]) = wV way ++ wC p := by simp [wV]
theorem wV_last (way : List (Nat × Nat)) (p : Nat × Nat) : (wV (way ++ [p]))[way.length * 2]? = some (.int .i64 (p.1 : Int)) ∧ (wV (way ++ [p]))[way.length * 2 + 1]? = some (.int .i64 (p.2 : Int)) := by
  rw [wV_snoc]
  constructor
  · rw [List.getElem?_append_right (by rw [wV_length]; omega), wV_length, Nat.sub_self]; rfl
  · rw [List.getElem?_append_right (by rw [wV_length]; omega), wV_length, show way.length * 2 + 1 - way.length * 2 = 1 by omega]; rfl
theorem wV_set (way : List (Nat × Nat)) (x l l' : Nat) : (wV (way ++ [(x, l)])).set (way.length * 2 + 1) (.int .i64 (l' : Int)) = wV (way ++ [(x, l')]) := by
  rw [wV_snoc, wV_snoc, List.set_append_right _ _ (by rw [wV_length]; omega), wV_length, show way.length * 2 + 1 - way.length * 2 = 1 by omega]
  rfl
theorem Tryd.infoW9 : (Tryd.prog.info? 104).map (fun i => (i.zero, i.size, i.bytes)) = some (some (.agg #[.int .i64 0, .int .i64 0]), 2, 16) := by kernel_rfl

theorem LsQ.atQ {Q : Nat → Prop} {w : World} {a : Option Addr} {cs : List Value} (h : LsQ Q w a cs) {i : Nat} {v : Value} (hi : cs[i]? = some v) : ∃ b o, a = some ⟨b, o, none⟩ ∧ Q b ∧ b < w.heap.size ∧ w.cell? ⟨b, o + i, none⟩ = some v := by
  obtain ⟨b, o, h1, h2⟩ := h
  have hl : i < cs.length := (List.getElem?_eq_some_iff.1 hi).1
  exact ⟨b, o, h1 (by omega), (h2 i hl).1.1, (h2 i hl).1.2, (h2 i hl).2.trans hi⟩

/-- A list of the call's own is no map. -/
theorem own_ne_met {w : World} {B r n c g m : Nat} {e : TypeId} {size : Nat} {xs : List Value} {M : List Nat} (h : w.ownsRow B e size (.slice (some ⟨r, 0, none⟩) n c) n xs) (hm : Met w g m M) : r ≠ g := by
  rintro rfl
  rcases h.2 with ⟨h0, _⟩ | ⟨g', cap, cur, hv, _, h1, _⟩
  · cases h0
  · cases hv
    obtain ⟨D, ⟨es, clock, h2, _⟩, _⟩ := hm
    rw [h1] at h2
    cases h2
theorem own_ne_own {w : World} {B B' r r' n n' c c' : Nat} {e e' : TypeId} {size size' : Nat} {xs xs' : List Value} (h : w.ownsRow B e size (.slice (some ⟨r, 0, none⟩) n c) n xs) (h' : w.ownsRow B' e' size' (.slice (some ⟨r', 0, none⟩) n' c') n' xs') (he : e ≠ e') : r ≠ r' := by
  rintro rfl
  rcases h.2 with ⟨h0, _⟩ | ⟨g', cap, cur, hv, _, h1, _⟩
  · cases h0
  · cases hv
    rcases h'.2 with ⟨h0, _⟩ | ⟨g2, cap2, cur2, hv2, _, h2, _⟩
    · cases h0
    · cases hv2
      rw [h1] at h2
      cases h2
      exact he rfl

/-- What climb leaves. -/
def ClimbOut (L : List Ln) (B g : Nat) (met0 : List Nat) (w w' : World) (e : Ending) : Prop :=
  ∃ order met r c, e = .returned (.slice (some ⟨r, 0, none⟩) (List.length order) c) ∧ w'.ownsRow B 3 1 (.slice (some ⟨r, 0, none⟩) order.length c) order.length (nV order) ∧ CInv (kOf L) order [] met ∧ met.length = order.length ∧ Met w' g met.length met ∧ (∀ x ∈ met0, x ∈ met) ∧ Below B w w'

theorem cLeft_pop (n B o : Nat) (way : List (Nat × Nat)) (p : Nat × Nat) (h : p.2 ≤ B) : cLeft n B (o + 1) way < cLeft n B o (way ++ [p]) := by
  unfold cLeft
  simp only [List.length_append, List.length_singleton, List.map_append, List.map_cons, List.map_nil, List.sum_append, List.sum_cons, List.sum_nil]
  rw [show n - (o + 1) - way.length = n - o - (way.length + 1) by omega]
  omega
theorem cLeft_skip (n B o : Nat) (way : List (Nat × Nat)) (x l : Nat) (h : l < B) : cLeft n B o (way ++ [(x, l + 1)]) < cLeft n B o (way ++ [(x, l)]) := by
  unfold cLeft
  simp only [List.length_append, List.length_singleton, List.map_append, List.map_cons, List.map_nil, List.sum_append, List.sum_cons, List.sum_nil]
  omega
theorem cLeft_push (n B o : Nat) (way : List (Nat × Nat)) (x y l : Nat) (h : l < B) (hn : o + way.length + 2 ≤ n) : cLeft n B o (way ++ [(x, l + 1)] ++ [(y, 0)]) < cLeft n B o (way ++ [(x, l)]) := by
  unfold cLeft
  simp only [List.length_append, List.length_singleton, List.map_append, List.map_cons, List.map_nil, List.sum_append, List.sum_cons, List.sum_nil]
  rw [show n - o - (way.length + 1) = (n - o - (way.length + 1 + 1)) + 1 by omega, Nat.add_mul]
  omega

set_option maxRecDepth 10000 in
set_option maxHeartbeats 1000000 in
theorem climb_any {Q : Nat → Prop} (L : List Ln) (a : Option Addr) (c f g B ro co : Nat) (order0 met0 : List Nat) (w : World) (hl : LkQ Q w a L) (hQ : ∀ b, Q b → b < B) (hm : Met w g met0.length met0) (hB : B ≤ g) (hBw : B ≤ w.heap.size)
    (hk : Ok9 (kOf L)) (hs : Lim L) (hc : CInv (kOf L) order0 [(f, 0)] met0) (hml : met0.length = order0.length + 1) (ho : w.ownsRow B 3 1 (.slice (some ⟨ro, 0, none⟩) order0.length co) order0.length (nV order0)) :
    Calls Tryd.prog 62 #[.slice a L.length c, .int .i64 f, .map (some g), .slice (some ⟨ro, 0, none⟩) order0.length co] w fun e w' => ClimbOut L B g met0 w w' e := by
  obtain ⟨i0, hi, hz0, hz1, hz2⟩ := info_parts Tryd.infoI7
  obtain ⟨i1, hi1, hz10, hz11, hz12⟩ := info_parts Tryd.infoW9
  have hL := hs.1
  have HL : Hid _ := And.intro hl (And.intro hQ (And.intro hk hs))
  have O1 : Hid ((w.alloc (.cells #[.int .i64 (f : Int), .int .i64 0] 104)).ownsRow B 104 2 (.slice (some ⟨w.heap.size, 0, none⟩) [(f, 0)].length 1) [(f, 0)].length (wV [(f, 0)])) := World.ownsRow_lit w #[.int .i64 (f : Int), .int .i64 0] 1 hBw (by decide) (by simp)
  have O2 : Hid ((w.alloc (.cells #[.int .i64 (f : Int), .int .i64 0] 104)).ownsRow B 3 1 (.slice (some ⟨ro, 0, none⟩) order0.length co) order0.length (nV order0)) := ho.alloc _
  have M1 : Hid (Met (w.alloc (.cells #[.int .i64 (f : Int), .int .i64 0] 104)) g met0.length met0) := hm.below ((Below.refl w.heap.size w).alloc (Nat.le_refl _) _)
  have B1 : Hid (Below B w (w.alloc (.cells #[.int .i64 (f : Int), .int .i64 0] 104))) := (Below.refl B w).alloc hBw _
  have HC : Hid _ := hc
  clear hl hQ hk hm hs ho hc
  go_enter Tryd.func62, Tryd.ntmps62
  go_wp2_with fail
  go_loopg [9, 3] (cLeft L.length 20000 order0.length [(f, 0)]) (fun m wv ov wr => ∃ (way : List (Nat × Nat)) (order met : List Nat) (r1 c1 r2 c2 : Nat), wv = .slice (some ⟨r1, 0, none⟩) way.length c1 ∧ ov = .slice (some ⟨r2, 0, none⟩) order.length c2 ∧ Hid (m = cLeft L.length 20000 order.length way) ∧ Hid (CInv (kOf L) order way met) ∧ Hid (met.length = order.length + way.length) ∧ Hid (wr.ownsRow B 104 2 (.slice (some ⟨r1, 0, none⟩) way.length c1) way.length (wV way)) ∧ Hid (wr.ownsRow B 3 1 (.slice (some ⟨r2, 0, none⟩) order.length c2) order.length (nV order)) ∧ Hid (Met wr g met.length met) ∧ Hid (Below B w wr) ∧ Hid (∀ x ∈ met0, x ∈ met))
  case atStart => exact ⟨[(f, 0)], order0, met0, w.heap.size, 1, ro, co, rfl, rfl, rfl, HC, hml, O1, O2, M1, B1, fun _ h => h⟩
  case round =>
    clear HC O1 O2 M1 B1 hml
    obtain ⟨way, order, met, r1, c1, r2, c2, rfl, rfl, Hm, HC, HN, H1, H2, HM, HB, HSub⟩ := hrel
    have hlen : order.length + way.length ≤ L.length := by have := HC.out.len; rwa [kOf_length] at this
    rcases List.eq_nil_or_concat way with rfl | ⟨way, p, hw⟩
    · have HO : Hid (ClimbOut L B g met0 w wr (.returned (.slice (some ⟨r2, 0, none⟩) order.length c2))) := ⟨order, met, r2, c2, rfl, H2.out, HC.out, by have := HN.out; simpa using this, HM.out, HSub.out, HB.out⟩
      clear HC HN H1 H2 HM HB HL
      go_wp2_with fail
      go_ret
      exact HO.out
    · rw [List.concat_eq_append] at hw
      subst hw
      obtain ⟨x, l⟩ := p
      rw [List.length_append, List.length_singleton] at hlen ⊢
      have h1 := H1.out
      rw [List.length_append, List.length_singleton] at h1
      have d0 : wr.cell? ⟨r1, way.length * 2, none⟩ = some (.int .i64 (x : Int)) := by rw [h1.cellAt _ (by omega)]; exact (wV_last way (x, l)).1
      have d1 : wr.cell? ⟨r1, way.length * 2 + 1, none⟩ = some (.int .i64 (l : Int)) := by rw [h1.cellAt _ (by omega)]; exact (wV_last way (x, l)).2
      have f1 := h1.frozenAt (way.length * 2 + 1)
      have hxl : x < L.length := by have := HC.out.mem_top.1; rwa [kOf_length] at this
      have hxl' : (x : Int) < L.length := by omega
      have hlk := (HC.out.looked (x, l) (by simp)).1
      have hr1 : B ≤ r1 := (h1.lt r1 rfl).1
      have hr1l := (h1.lt r1 rfl).2
      have hr1g : r1 ≠ g := own_ne_met h1 HM.out
      have hr12 : r1 ≠ r2 := own_ne_own h1 H2.out (by decide)
      have hr2g : r2 ≠ g := own_ne_met H2.out HM.out
      have hc1 : way.length + 1 ≤ c1 := by
        rcases h1.2 with ⟨h0, _⟩ | ⟨g', cap, cur, hv, _, _, h4, _⟩
        · cases h0
        · cases hv; exact h4
      have HQB : Hid (∀ b, Q b → b < B) := HL.out.2.1
      have H1' : Hid _ := h1
      clear h1
      have hBwr : B ≤ wr.heap.size := Nat.le_trans hBw HB.out.size
      have HK : Hid (LkQ Q wr a L) := HL.out.1.fr (S := fun b => B ≤ b) ⟨HB.out.os, HB.out.tape, HB.out.output, HB.out.size, fun k _ hn => HB.out.block k (by omega)⟩ (fun b q _ => by have := HL.out.2.1 b q; omega)
      obtain ⟨b1, o1, rfl, hq1, hb1, d2⟩ := HK.out.top.atQ (lnV_at L x hxl)
      have hb1B : b1 < B := HL.out.2.1 b1 hq1
      have hne1 : b1 ≠ r1 := by omega
      have hkl : (L.getD x noLn).ks.length ≤ 20000 := HL.out.2.2.2.2 x hxl
      rw [kOf_at] at hlk
      have HP : Hid (∀ k ∈ (L.getD x noLn).ks, k < 61) := fun k hk => by
        have := HL.out.2.2.1 x k (by unfold Ed; rw [kOf_at]; exact hk)
        rw [kOf_length] at this
        omega
      have HE : Hid (LsQ Q wr (L.getD x noLn).a (nV (L.getD x noLn).ks)) := HK.out.each x hxl
      have HX : Hid ((kOf L).getD x [] = (L.getD x noLn).ks) := kOf_at L x
      have HOk : Hid (Ok9 (kOf L)) := HL.out.2.2.1
      generalize L.getD x noLn = N at *
      clear HK
      by_cases hend : l = N.ks.length
      · have HC2 : Hid (CInv (kOf L) (order ++ [x]) way met) := HC.out.pop (by rw [HX.out]; omega)
        have Hm2 : Hid (cLeft L.length 20000 (order.length + 1) way < gk) := by
          rw [Hm.out]
          exact cLeft_pop _ _ _ _ _ (by show l ≤ 20000; omega)
        have HN2 : Hid (met.length = (order ++ [x]).length + way.length) := by
          have h0 : met.length = order.length + (way ++ [(x, l)]).length := HN.out
          rw [List.length_append, List.length_singleton] at h0
          show met.length = (order ++ [x]).length + way.length
          rw [List.length_append, List.length_singleton]
          omega
        have H1p : Hid (wr.ownsRow B 104 2 (.slice (some ⟨r1, 0, none⟩) way.length c1) way.length (wV way)) := by
          have := H1'.out
          rw [wV_snoc] at this
          exact ownsRow_pop (wV_length way) this
        clear HC HN H1 H1' HP HE HX HOk HQB HL Hm
        go_wp2_with fail
        go_quiet (fail)
        go_wp2_with (at_builtin; refine wpList_append_lies _ rfl (.tmp 40) (.tmp 42) 38 rfl B 3 i0 (.int .i64 0) 1 8 Tryd.underlying38 hi hz0 hz1 hz2 rfl (by decide) _ order.length (nV order) rfl (World.ownsRow.alloc (w := wr.drewN nq) H2.out _) ⟨wr.heap.size, 0, none⟩ 1 1 [.int .i64 (x : Int)] rfl rfl (cell_one_new _ _ _) (by intro u hu; simp at hu; subst hu; rfl) (by decide) (by unfold maxLen; omega) (by omega) (by simp; omega) _ rfl ?_)
        intro g2 cap2 w4 hown4 hgrow4 hlie hlt4
        have O4 : Hid (w4.ownsRow B 3 1 (.slice (some ⟨g2, 0, none⟩) (order ++ [x]).length cap2) (order ++ [x]).length (nV (order ++ [x]))) := by
          show World.ownsRow _ _ _ _ _ _ _
          rw [nV_snoc, List.length_append]
          exact hown4
        have F4 : Hid (Fr (fun b => b = r2) wr w4) := ((Fr.refl (fun b => b = r2) wr).drewN nq).alloc _ |>.trans (Fr.of_grown (S := fun b => b = r2) hgrow4 (fun q e => by simpa [Value.ownBlock] using e.symm)) (fun _ q _ => q)
        have hr2 : B ≤ r2 := (H2.out.lt r2 rfl).1
        have M4 : Hid (Met w4 g met.length met) := HM.out.fr F4.out (by omega)
        have W4 : Hid (w4.ownsRow B 104 2 (.slice (some ⟨r1, 0, none⟩) way.length c1) way.length (wV way)) := own_fr H1p.out F4.out (fun q hq => by simp [Value.ownBlock] at hq; omega)
        have B4 : Hid (Below B w w4) := Fr.below HB.out F4.out (fun q e => by omega) hBwr
        clear hown4 hgrow4 F4 H2 HM HB H1p
        go_wp2_with fail
        go_roundg (cLeft L.length 20000 (order.length + 1) way)
        case measure => exact Hm2.out
        case rel => exact ⟨way, order ++ [x], met, r1, c1, g2, cap2, rfl, by simp, by simp [Hid], HC2, HN2, W4, O4, M4, B4, HSub⟩
      · have hlt : l < N.ks.length := by omega
        have hlt' : (l : Int) < N.ks.length := by omega
        have hne' : ¬ ((l : Int) = N.ks.length) := by omega
        obtain ⟨b2, o2, e2, hq2, hb2, d3⟩ := HE.out.atQ (nV_at N.ks l hlt)
        have hb2B : b2 < B := HQB.out b2 hq2
        have hne2 : b2 ≠ r1 := by omega
        have hk60 := HP.out _ (getD_mem hlt)
        rw [e2] at d2
        have H1s : Hid (∀ q, ((wr.drewN q).setCell ⟨r1, way.length * 2 + 1, none⟩ (.int .i64 ((l : Int) + 1))).ownsRow B 104 2 (.slice (some ⟨r1, 0, none⟩) (way ++ [(x, l + 1)]).length c1) (way ++ [(x, l + 1)]).length (wV (way ++ [(x, l + 1)]))) := fun q => by
          rw [← wV_set way x l (l + 1), List.length_append, List.length_singleton]
          exact (World.ownsRow.stored (w := wr.drewN q) H1'.out (way.length * 2 + 1) _).1
        have HF1 : Hid (∀ q, Fr (fun b => b = r1) wr ((wr.drewN q).setCell ⟨r1, way.length * 2 + 1, none⟩ (.int .i64 ((l : Int) + 1)))) := fun q => ((Fr.refl (fun b => b = r1) wr).drewN q).set ⟨r1, way.length * 2 + 1, none⟩ rfl _
        have HS : Hid (N.ks.getD l 0 ∈ met → CInv (kOf L) order (way ++ [(x, l + 1)]) met) := fun q => HC.out.skip (by rw [HX.out]; exact hlt) (by rw [HX.out]; exact q)
        have HPu : Hid (N.ks.getD l 0 ∉ met → CInv (kOf L) order (way ++ [(x, l + 1)] ++ [(N.ks.getD l 0, 0)]) (N.ks.getD l 0 :: met)) := fun q => by
          have := HC.out.push HOk.out (l := l) (by rw [HX.out]; exact hlt) (by rw [HX.out]; exact q)
          rwa [HX.out] at this
        have Hlen : Hid (∀ k, CInv (kOf L) order (way ++ [(x, l + 1)] ++ [(k, 0)]) (k :: met) → order.length + way.length + 2 ≤ L.length) := fun k hc => by
          have := hc.len
          rw [kOf_length] at this
          simp at this
          omega
        generalize N.ks.getD l 0 = k at *
        have HMq : Hid (∀ q, Met ((wr.drewN q).setCell ⟨r1, way.length * 2 + 1, none⟩ (.int .i64 ((l : Int) + 1))) g met.length met) := fun q => HM.out.fr (HF1.out q) (by omega)
        have hmb : met.length ≤ 61 := by
          have h0 : met.length = order.length + (way ++ [(x, l)]).length := HN.out
          rw [List.length_append, List.length_singleton] at h0
          omega
        by_cases hin : k ∈ met
        · have hlk : ∀ q, (Instr.lookup 73 (.map (some g)) (.int .i64 (k : Int)) false).run Tryd.prog ((wr.drewN q).setCell ⟨r1, way.length * 2 + 1, none⟩ (.int .i64 ((l : Int) + 1))) = .ok (.bool true) ((wr.drewN q).setCell ⟨r1, way.length * 2 + 1, none⟩ (.int .i64 ((l : Int) + 1))) := fun q => by
            rw [(HMq.out q).look k (by omega), decide_eq_true hin]
          have HC2 : Hid (CInv (kOf L) order (way ++ [(x, l + 1)]) met) := HS.out hin
          have Hm2 : Hid (cLeft L.length 20000 order.length (way ++ [(x, l + 1)]) < gk) := by
            rw [Hm.out]
            exact cLeft_skip _ _ _ _ _ _ (by omega)
          have HN2 : Hid (met.length = order.length + (way ++ [(x, l + 1)]).length) := by
            have h0 : met.length = order.length + (way ++ [(x, l)]).length := HN.out
            rw [List.length_append, List.length_singleton] at h0
            show met.length = order.length + (way ++ [(x, l + 1)]).length
            rw [List.length_append, List.length_singleton]
            omega
          have O4 : Hid (∀ q, ((wr.drewN q).setCell ⟨r1, way.length * 2 + 1, none⟩ (.int .i64 ((l : Int) + 1))).ownsRow B 3 1 (.slice (some ⟨r2, 0, none⟩) order.length c2) order.length (nV order)) := fun q => own_fr H2.out (HF1.out q) (fun z hz => by simp [Value.ownBlock] at hz; omega)
          have B4 : Hid (∀ q, Below B w ((wr.drewN q).setCell ⟨r1, way.length * 2 + 1, none⟩ (.int .i64 ((l : Int) + 1)))) := fun q => Fr.below HB.out (HF1.out q) (fun z e => by omega) hBwr
          clear HC H1 H1' HP HE HX HOk HQB HL HS HPu Hlen HM HB H2 HN Hm HF1 hin
          go_wp2_with fail
          go_quiet (fail)
          go_wp2_with fail
          go_roundg (cLeft L.length 20000 order.length (way ++ [(x, l + 1)]))
          case measure => exact Hm2.out
          case rel => exact ⟨way ++ [(x, l + 1)], order, met, r1, c1, r2, c2, by simp, rfl, by simp [Hid], HC2, HN2, H1s.out _, O4.out _, HMq.out _, B4.out _, HSub⟩
        · have hlk : ∀ q, (Instr.lookup 73 (.map (some g)) (.int .i64 (k : Int)) false).run Tryd.prog ((wr.drewN q).setCell ⟨r1, way.length * 2 + 1, none⟩ (.int .i64 ((l : Int) + 1))) = .ok (.bool false) ((wr.drewN q).setCell ⟨r1, way.length * 2 + 1, none⟩ (.int .i64 ((l : Int) + 1))) := fun q => by
            rw [(HMq.out q).look k (by omega), decide_eq_false hin]
          obtain ⟨W3, hW3⟩ := Classical.skolem.1 (fun q => (HMq.out q).put k (by omega) (by unfold maxLen; omega))
          have hup := fun q => (hW3 q).1
          have HW : Hid _ := fun q => (hW3 q).2
          clear hW3
          have HC2 : Hid (CInv (kOf L) order (way ++ [(x, l + 1)] ++ [(k, 0)]) (k :: met)) := HPu.out hin
          have hl2 := Hlen.out k HC2.out
          have HSub2 : Hid (∀ x ∈ met0, x ∈ k :: met) := fun x hx => List.mem_cons_of_mem _ (HSub.out x hx)
          have Hm2 : Hid (cLeft L.length 20000 order.length (way ++ [(x, l + 1)] ++ [(k, 0)]) < gk) := by
            rw [Hm.out]
            exact cLeft_push _ _ _ _ _ _ _ (by omega) hl2
          have HN2 : Hid ((k :: met).length = order.length + (way ++ [(x, l + 1)] ++ [(k, 0)]).length) := by
            have h0 : met.length = order.length + (way ++ [(x, l)]).length := HN.out
            rw [List.length_append, List.length_singleton] at h0
            show (k :: met).length = order.length + (way ++ [(x, l + 1)] ++ [(k, 0)]).length
            rw [List.length_append, List.length_append, List.length_singleton, List.length_singleton, List.length_cons]
            omega
          have HF3 : Hid (∀ q, Fr (fun b => b = r1 ∨ b = g) wr (W3 q)) := fun q => ((HF1.out q).mono (S' := fun b => b = r1 ∨ b = g) (fun _ _ e => .inl e)).trans (Fr.of_grown (S := fun b => b = g) (HW.out q).2 (fun z e => (Option.some.inj e).symm)) (fun _ e _ => .inr e)
          have O4 : Hid (∀ q, (W3 q).ownsRow B 3 1 (.slice (some ⟨r2, 0, none⟩) order.length c2) order.length (nV order)) := fun q => own_fr H2.out (HF3.out q) (fun z hz => by simp [Value.ownBlock] at hz; omega)
          have W4 : Hid (∀ q, (W3 q).ownsRow B 104 2 (.slice (some ⟨r1, 0, none⟩) (way.length + 1) c1) (way.length + 1) (wV (way ++ [(x, l + 1)]))) := fun q => by
            have := own_fr (H1s.out q) (Fr.of_grown (S := fun b => b = g) (HW.out q).2 (fun z e => (Option.some.inj e).symm)) (fun z hz => by simp [Value.ownBlock] at hz; omega)
            simpa using this
          have B4 : Hid (∀ q, Below B w (W3 q)) := fun q => Fr.below HB.out (HF3.out q) (fun z e => by omega) hBwr
          have M4 : Hid (∀ q, Met (W3 q) g (k :: met).length (k :: met)) := fun q => (HW.out q).1.iff (fun y => by simp [or_comm])
          clear HC H1 H1' HP HE HX HOk HQB HL HS HPu Hlen HM HB H2 HN Hm HF1 hin HW HF3 H1s HMq
          go_wp2_with fail
          go_quiet (fail)
          have W5 := W4.out nq
          have hs5 := (B4.out nq).size
          go_wp2_with (at_builtin; refine wpList_append_lies _ rfl (.tmp 68) (.tmp 71) 105 rfl B 104 i1 (.agg #[.int .i64 0, .int .i64 0]) 2 16 Tryd.underlying105 hi1 hz10 hz11 hz12 rfl (by decide) _ (way.length + 1) (wV (way ++ [(x, l + 1)])) rfl (W5.alloc _) ⟨(W3 nq).heap.size, 0, none⟩ 1 1 [.int .i64 (k : Int), .int .i64 0] rfl rfl (World.news_of_block (heap_alloc_new (W3 nq) _)) (by intro u hu; simp at hu; rcases hu with rfl | rfl <;> rfl) (by decide) (by unfold maxLen; omega) (by omega) (by simp; omega) _ rfl ?_)
          intro g2 cap2 w6 hown6 hgrow6 hlie hlt6
          have O6 : Hid (w6.ownsRow B 104 2 (.slice (some ⟨g2, 0, none⟩) (way ++ [(x, l + 1)] ++ [(k, 0)]).length cap2) (way ++ [(x, l + 1)] ++ [(k, 0)]).length (wV (way ++ [(x, l + 1)] ++ [(k, 0)]))) := by
            have hl6 : (way ++ [(x, l + 1)] ++ [(k, 0)]).length = way.length + 1 + 1 := by simp
            show World.ownsRow _ _ _ _ _ _ _
            rw [wV_snoc (way ++ [(x, l + 1)]), hl6]
            exact hown6
          have F6 : Hid (Fr (fun b => b = r1) (W3 nq) w6) := ((Fr.refl (fun b => b = r1) (W3 nq)).alloc _).trans (Fr.of_grown (S := fun b => b = r1) hgrow6 (fun z e => by simpa [Value.ownBlock] using e.symm)) (fun _ e _ => e)
          have M6 : Hid (Met w6 g (k :: met).length (k :: met)) := (M4.out nq).fr F6.out (by omega)
          have P6 : Hid (w6.ownsRow B 3 1 (.slice (some ⟨r2, 0, none⟩) order.length c2) order.length (nV order)) := own_fr (O4.out nq) F6.out (fun z hz => by simp [Value.ownBlock] at hz; omega)
          have B6 : Hid (Below B w w6) := Fr.below (B4.out nq) F6.out (fun z e => by omega) (by omega)
          clear hown6 hgrow6 F6 M4 O4 B4 W4 W5
          go_wp2_with fail
          go_roundg (cLeft L.length 20000 order.length (way ++ [(x, l + 1)] ++ [(k, 0)]))
          case measure => exact Hm2.out
          case rel => exact ⟨way ++ [(x, l + 1)] ++ [(k, 0)], order, k :: met, g2, cap2, r2, c2, by simp, rfl, by simp [Hid], HC2, HN2, O6, P6, M6, B6, HSub2⟩

end Go.Proofs.YtcdpjaaiojpelaaDoor
