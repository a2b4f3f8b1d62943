/- The program's Flat. -/
import Derived.Test.YtkcaeajhbeenbaaDoorOTn
namespace Go.Proofs.YtkcaeajhbeenbaaDoor
open Go.RowKit Go.Maps Go.WideMaps Go.Sort

def OFlatOut (X : List Nx) (r : Int) (w w' : World) (e : Ending) : Prop := (RightIs X r → ∃ (T : List Nx) (a : Option Addr) (c : Nat), e = .returned (.tuple #[.agg #[.slice a T.length c, .int .i64 0], .int .i64 0]) ∧ T.map Nx.nd = fX X r ∧ T.length = X.length ∧ ScAt w' a T) ∧ (¬ RightIs X r → ∃ n z, e = .returned (.tuple #[.agg #[.slice none 0 0, .int .i64 0], .int .i64 n]) ∧ CheckIs X r n z ∧ n ≠ 0) ∧ Below w.heap.size w w'

set_option maxRecDepth 10000 in
set_option maxHeartbeats 1000000 in
theorem oflat_any (X : List Nx) (a : Option Addr) (c : Nat) (r : Int) (w : World) (h : ScAt w a X) (hX : Small X) :
    Calls Tryd.prog 15 #[.agg #[.slice a X.length c, .int .i64 r]] w fun e w' => OFlatOut X r w w' e := by
  have HA0 : Hid (∀ o1 o2 : Obj, o1 = .cells #[.slice a X.length c, .int .i64 r] 24 → o2 = .cells #[.slice none 0 0, .int .i64 0] 24 → AtN 24 ((w.alloc o1).alloc o2) (w.heap.size + 1) #[.slice none 0 0, .int .i64 0] ∧ Below w.heap.size w ((w.alloc o1).alloc o2)) := by
    rintro _ _ rfl rfl
    exact ⟨mk_at (AtN.new (w.alloc _) 24 _) (show _ = w.heap.size + 1 by simp), ((Below.refl w.heap.size w).alloc (Nat.le_refl _) _).alloc (by simp) _⟩
  have HC : Hid (∀ W, Below w.heap.size w W → Calls Tryd.prog 22 #[.agg #[.slice a X.length c, .int .i64 r]] W fun e w' => CanonOut2 X r W w' e) := fun W hb => canon2_any X a c r W (h.belowB hb) hX
  have HS : Hid (Small X) := hX
  have hn := hX.1
  clear h hX
  go_enter Tryd.func15, Tryd.ntmps15
  go_wp2_with fail
  obtain ⟨hA2, hB⟩ := HA0.out _ _ rfl rfl
  generalize ((w.alloc (.cells #[.slice a X.length c, .int .i64 r] 24)).alloc (.cells #[.slice none 0 0, .int .i64 0] 24)) = w0 at *
  have HB0 : Hid (Below w.heap.size w w0) := hB
  have HR0 : Hid (AtN 24 w0 (w.heap.size + 1) #[.slice none 0 0, .int .i64 0]) := hA2
  clear HA0 hA2 hB
  refine Calls.mono (HC.out _ HB0.out) ?_
  rintro e w1 ⟨hc1, hc2, hb1⟩
  have HB1 : Hid (Below w.heap.size w w1) := HB0.out.trans (hb1.mono HB0.out.size)
  have HR1 : Hid (AtN 24 w1 (w.heap.size + 1) #[.slice none 0 0, .int .i64 0]) := HR0.out.belowAll hb1
  have hz01 := hb1.size
  have hlt0 : w.heap.size + 1 < w0.heap.size := HR0.out.lt
  clear HB0 HR0 HC hb1
  by_cases hR : RightIs X r
  · obtain ⟨Y, gn, rfl, hY, hO⟩ := hc1 hR
    have hRn := can_ren hR hY
    have HY : Hid (Y.map Nx.nd = cX X r ∧ Y.length = X.length ∧ RightIs X r) := ⟨hY, hRn.len, hR⟩
    have HW3 : Hid (∀ o : Obj, o = .cells #[.slice (some ⟨gn, 0, none⟩) Y.length Y.length, .int .i64 ((X.length : Int) - 1)] 24 → AtN 24 (w1.alloc o) (w.heap.size + 1) #[.slice none 0 0, .int .i64 0] ∧ Below w.heap.size w (w1.alloc o) ∧ Calls Tryd.prog 41 #[.pointer (some ⟨w1.heap.size, 0, none⟩)] (w1.alloc o) fun e w' => OTurnOut Y w1.heap.size gn w0.heap.size ((X.length : Int) - 1) (w1.alloc o) w' e) := by
      rintro _ rfl
      exact ⟨HR1.out.alloc _, HB1.out.alloc HB1.out.size _, oturn_any Y w1.heap.size gn w0.heap.size ((X.length : Int) - 1) _ (hO.belowB ((Below.refl w1.heap.size w1).alloc (Nat.le_refl _) _)) (AtN.new w1 24 _) (hRn.small HS.out) hz01⟩
    clear hc1 hc2 hR hO hRn HR1 HB1 hY
    go_wp2_with fail
    obtain ⟨hr3, hb3, hc3⟩ := HW3.out _ rfl
    generalize (w1.alloc (.cells #[.slice (some ⟨gn, 0, none⟩) Y.length Y.length, .int .i64 ((X.length : Int) - 1)] 24)) = w3 at *
    have HR3 : Hid (AtN 24 w3 (w.heap.size + 1) #[.slice none 0 0, .int .i64 0]) := hr3
    have HB3 : Hid (Below w.heap.size w w3) := hb3
    have HC3 : Hid _ := hc3
    clear HW3 hr3 hb3 hc3
    refine Calls.mono HC3.out ?_
    rintro e w4 ⟨T, rfl, hTl, hTn, hTo, hTs, hb4⟩
    have HF : Hid (T.map Nx.nd = fX X r ∧ T.length = X.length) := ⟨flat_nds HY.out.1 HY.out.2.1 hTl hTn, hTl.trans HY.out.2.1⟩
    have hr4 : trn Y.length ((X.length : Int) - 1) = 0 := by rw [HY.out.2.1]; exact trn_last _
    rw [hr4, ← hTl] at hTs
    have x0 : w4.cell? ⟨w1.heap.size, 0, none⟩ = some (.slice (some ⟨gn, 0, none⟩) T.length T.length) := hTs.cell 0
    have x1 : w4.cell? ⟨w1.heap.size, 1, none⟩ = some (.int .i64 0) := hTs.cell 1
    have HR4 : AtN 24 w4 (w.heap.size + 1) #[.slice none 0 0, .int .i64 0] := HR3.out.below hb4 hlt0
    have HR4 : Hid (AtN 24 w4 (w.heap.size + 1) #[.slice none 0 0, .int .i64 0]) := HR4
    have z0 : w4.cell? ⟨w.heap.size + 1, 0, none⟩ = some (.slice none 0 0) := HR4.out.cell 0
    have z1 : w4.cell? ⟨w.heap.size + 1, 1, none⟩ = some (.int .i64 0) := HR4.out.cell 1
    have f0 := HR4.out.fz 0
    have f1 := HR4.out.fz 1
    have hg1 := HR4.out.lt
    have HO : Hid (∀ W, W = (w4.setCell ⟨w.heap.size + 1, 0, none⟩ (.slice (some ⟨gn, 0, none⟩) T.length T.length)).setCell ⟨w.heap.size + 1, 1, none⟩ (.int .i64 0) → OFlatOut X r w W (.returned (.tuple #[.agg #[.slice (some ⟨gn, 0, none⟩) T.length T.length, .int .i64 0], .int .i64 0])) ∧ AtN 24 W (w.heap.size + 1) #[.slice (some ⟨gn, 0, none⟩) T.length T.length, .int .i64 0]) := by
      rintro _ rfl
      have hfr : Fr (fun z => z = w.heap.size + 1) w4 ((w4.setCell ⟨w.heap.size + 1, 0, none⟩ (.slice (some ⟨gn, 0, none⟩) T.length T.length)).setCell ⟨w.heap.size + 1, 1, none⟩ (.int .i64 0)) := ((Fr.refl (fun z => z = w.heap.size + 1) w4).set ⟨w.heap.size + 1, 0, none⟩ rfl _).set ⟨w.heap.size + 1, 1, none⟩ rfl _
      have hal : Alien w4 (fun z => z = w.heap.size + 1) := fun z hz _ => ⟨_, _, _, hz ▸ HR4.out, by decide, by decide, by decide⟩
      have hB4 : Below w.heap.size w w4 := HB3.out.trans (hb4.mono (by omega))
      have hO5 : OwnSc ((w4.setCell ⟨w.heap.size + 1, 0, none⟩ (.slice (some ⟨gn, 0, none⟩) T.length T.length)).setCell ⟨w.heap.size + 1, 1, none⟩ (.int .i64 0)) w0.heap.size gn T := ⟨hTo.nodes.fr hfr (by have := hTo.ge; omega), fun j hj => (hTo.own j hj).fr hfr hal, hTo.ap, hTo.ge⟩
      refine ⟨⟨fun _ => ⟨T, _, _, rfl, HF.out.1, HF.out.2, hO5.scAt⟩, fun q => absurd HY.out.2.2 q, Fr.below hB4 hfr (fun z e => by omega) hB4.size⟩, ?_⟩
      have := AtN.set (AtN.set HR4.out 0 (.slice (some ⟨gn, 0, none⟩) T.length T.length)) 1 (.int .i64 0)
      simpa using this
    clear HC3 HB3 HR3 HR4 hTl hTn hTo hTs hb4 HF HY
    go_wp2_with fail
    obtain ⟨v1, v2⟩ := HO.out _ rfl
    have c0 := v2.cell 0
    have c1 := v2.cell 1
    have e0 : (#[Value.slice (some ⟨gn, 0, none⟩) T.length T.length, Value.int .i64 0] : Array Value)[0]? = some (.slice (some ⟨gn, 0, none⟩) T.length T.length) := rfl
    have e1 : (#[Value.slice (some ⟨gn, 0, none⟩) T.length T.length, Value.int .i64 0] : Array Value)[1]? = some (.int .i64 0) := rfl
    rw [e0] at c0
    rw [e1] at c1
    exact bodyPost_ret (v := .tuple #[.agg #[.slice (some ⟨gn, 0, none⟩) T.length T.length, .int .i64 0], .int .i64 0]) (by simp [results, Tryd.results15, go_sem, c0, c1]) rfl v1
  · obtain ⟨n, z, rfl, hck, hn0⟩ := hc2 hR
    have HK : Hid (CheckIs X r n z ∧ ¬ RightIs X r) := ⟨hck, hR⟩
    have z0 : w1.cell? ⟨w.heap.size + 1, 0, none⟩ = some (.slice none 0 0) := HR1.out.cell 0
    have z1 : w1.cell? ⟨w.heap.size + 1, 1, none⟩ = some (.int .i64 0) := HR1.out.cell 1
    have f0 := HR1.out.fz 0
    have f1 := HR1.out.fz 1
    have hg1 := HR1.out.lt
    have HO : Hid (∀ W o, W = ((w1.setCell ⟨w.heap.size + 1, 0, none⟩ (.slice none 0 0)).setCell ⟨w.heap.size + 1, 1, none⟩ (.int .i64 0)).alloc o → OFlatOut X r w W (.returned (.tuple #[.agg #[.slice none 0 0, .int .i64 0], .int .i64 n])) ∧ AtN 24 W (w.heap.size + 1) #[.slice none 0 0, .int .i64 0]) := by
      rintro _ o rfl
      have hfr : Fr (fun z => z = w.heap.size + 1) w1 ((w1.setCell ⟨w.heap.size + 1, 0, none⟩ (.slice none 0 0)).setCell ⟨w.heap.size + 1, 1, none⟩ (.int .i64 0)) := ((Fr.refl (fun z => z = w.heap.size + 1) w1).set ⟨w.heap.size + 1, 0, none⟩ rfl _).set ⟨w.heap.size + 1, 1, none⟩ rfl _
      have hbb : Below w.heap.size w ((w1.setCell ⟨w.heap.size + 1, 0, none⟩ (.slice none 0 0)).setCell ⟨w.heap.size + 1, 1, none⟩ (.int .i64 0)) := Fr.below HB1.out hfr (fun z e => by omega) HB1.out.size
      refine ⟨⟨fun q => absurd q HK.out.2, fun _ => ⟨n, z, rfl, HK.out.1, hn0⟩, hbb.alloc hbb.size _⟩, AtN.alloc ?_ _⟩
      have := AtN.set (AtN.set HR1.out 0 (.slice none 0 0)) 1 (.int .i64 0)
      simpa using this
    clear hc1 hc2 hR HR1 HB1 hck HK
    go_wp2_with fail
    obtain ⟨v1, v2⟩ := HO.out _ _ rfl
    have c0 := v2.cell 0
    have c1 := v2.cell 1
    have e0 : (#[Value.slice none 0 0, Value.int .i64 0] : Array Value)[0]? = some (.slice none 0 0) := rfl
    have e1 : (#[Value.slice none 0 0, Value.int .i64 0] : Array Value)[1]? = some (.int .i64 0) := rfl
    rw [e0] at c0
    rw [e1] at c1
    exact bodyPost_ret (v := .tuple #[.agg #[.slice none 0 0, .int .i64 0], .int .i64 n]) (by simp [results, Tryd.results15, go_sem, c0, c1]) rfl v1
/-- What Flat tells, whatever the scene. -/
def FlIs (X : List Nx) (r : Int) (T : List Nx) (n : Int) : Prop := (∃ z, CheckIs X r n z) ∧ ((n = 0 ∧ RightIs X r ∧ T.map Nx.nd = fX X r) ∨ (n ≠ 0 ∧ T = []))
theorem oflat2_any (X : List Nx) (a : Option Addr) (c : Nat) (r : Int) (w : World) (h : ScAt w a X) (hX : Small X) :
    Calls Tryd.prog 15 #[.agg #[.slice a X.length c, .int .i64 r]] w fun e w' => ∃ (T : List Nx) (a' : Option Addr) (c' : Nat) (n : Int), e = .returned (.tuple #[.agg #[.slice a' T.length c', .int .i64 0], .int .i64 n]) ∧ FlIs X r T n ∧ ScAt w' a' T ∧ Below w.heap.size w w' := by
  refine Calls.mono (oflat_any X a c r w h hX) ?_
  rintro e w' ⟨h1, h2, hb⟩
  by_cases hR : RightIs X r
  · obtain ⟨T, a', c', rfl, hT, hl, hs⟩ := h1 hR
    exact ⟨T, a', c', 0, rfl, ⟨⟨0, check_right hR⟩, .inl ⟨rfl, hR, hT⟩⟩, hs, hb⟩
  · obtain ⟨n, z, rfl, hc, hn⟩ := h2 hR
    exact ⟨[], none, 0, n, rfl, ⟨⟨z, hc⟩, .inr ⟨hn, rfl⟩⟩, ⟨LsAt.nil _ _, fun i hi => by simp at hi⟩, hb⟩
theorem same_fX {X Y : List Nx} (h : Y.map Nx.nd = X.map Nx.nd) {r : Int} (hR : RightIs X r) : fX Y r = fX X r := by
  unfold fX
  rw [same_cX h hR, same_len h]
theorem FlIs.same {X Y T : List Nx} {r n : Int} (h : Y.map Nx.nd = X.map Nx.nd) (hf : FlIs Y r T n) : FlIs X r T n := by
  obtain ⟨⟨z, hz⟩, h2⟩ := hf
  refine ⟨⟨z, same_check h hz⟩, ?_⟩
  rcases h2 with ⟨h0, hR, hT⟩ | q
  · have hR' := (same_right h).1 hR
    exact .inl ⟨h0, hR', by rw [hT, same_fX h hR']⟩
  · exact .inr q
theorem FlIs.err {X T : List Nx} {r n m z : Int} (hf : FlIs X r T n) (hc : CheckIs X r m z) : m = n := by
  obtain ⟨⟨y, hy⟩, _⟩ := hf
  exact (hy.uniq hc).1
end Go.Proofs.YtkcaeajhbeenbaaDoor
