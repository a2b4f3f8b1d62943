/- The contracts of field's Check and ref's Check. -/
import Derived.Test.YtaochgndednamaaDoorFChk
namespace Go.Proofs.YtaochgndednamaaDoor
open Go.RowKit

theorem TabAt.bel {w w' : World} {g : Nat} {l : List Value} (h : TabAt w g l) (hb : Below w.heap.size w w') : TabAt w' g l := h.below hb

set_option maxRecDepth 10000 in
set_option maxHeartbeats 400000 in
theorem check_any (N : Nd) (C : List Int) (t l m : Int) (a1 a2 a3 b : Option Addr) (c1 c2 c3 d : Nat) (w : World) (h : NdAt w N a1 a2 a3) (hC : LsAt w b (iV C)) (hT : TabAt w 1 spansC) (hf : fine N.ints) (h1 : N.ints.length ≤ 100) (h2 : N.texts.length ≤ 100) (h4 : ∀ s ∈ N.texts, s.size ≤ 500) :
    Calls Tryd.prog 10 #[.agg #[.int .i64 N.kind, .slice a1 N.ints.length c1, .slice a2 N.texts.length c2, .slice a3 N.kids.length c3], .agg #[.slice b C.length d, .int .i64 t, .int .i64 l, .int .i64 m]] w fun e w' => e = .returned (.int .i64 (chk N C t l m)) ∧ Below w.heap.size w w' := by
  have HB : Hid _ := fun (o p : Obj) => ((Below.refl w.heap.size w).alloc (Nat.le_refl _) o).alloc (by simp) p
  have H1 : Hid _ := fun (W : World) (hb : Below w.heap.size w W) => intsFit_any N.ints C a1 b c1 d W (h.i.belowB hb) (hC.belowB hb) (hT.below hb) hf h1
  have H2 : Hid _ := fun (W : World) (hb : Below w.heap.size w W) => textsFit_any N.texts t a2 c2 W (h.t.belowB hb) h2 h4
  have H3 : Hid _ := fun (W : World) => kidsFit_any N.kids.length b C.length d t l m W
  clear h hC hT hf h4
  unfold chk
  generalize fitI C N.ints = q1 at *
  generalize fitT N.texts t = q2 at *
  generalize fitK N.kids.length l m = q3 at *
  have n1 := (AtN.new w 26 #[.int .i64 N.kind, .slice a1 N.ints.length c1, .slice a2 N.texts.length c2, .slice a3 N.kids.length c3]).alloc (.cells #[.slice b C.length d, .int .i64 t, .int .i64 l, .int .i64 m] 28)
  have n2 := mk_at (AtN.new (w.alloc (.cells #[.int .i64 N.kind, .slice a1 N.ints.length c1, .slice a2 N.texts.length c2, .slice a3 N.kids.length c3] 26)) 28 #[.slice b C.length d, .int .i64 t, .int .i64 l, .int .i64 m]) (show _ = w.heap.size + 1 by simp)
  have HN : Hid _ := And.intro n1 (And.intro n2 (HB.out (.cells #[.int .i64 N.kind, .slice a1 N.ints.length c1, .slice a2 N.texts.length c2, .slice a3 N.kids.length c3] 26) (.cells #[.slice b C.length d, .int .i64 t, .int .i64 l, .int .i64 m] 28)))
  clear n1 n2 HB
  go_enter Tryd.func10, Tryd.ntmps10
  go_wp2_with fail
  refine (H1.out _ HN.out.2.2).mono ?_
  rintro e w1 ⟨rfl, rfl⟩
  cases q1
  · go_wp2_with fail
    go_ret
    exact ⟨rfl, HN.out.2.2⟩
  · go_wp2_with fail
    refine (H2.out _ HN.out.2.2).mono ?_
    rintro e w2 ⟨rfl, hb2⟩
    have n1 := HN.out.1.belowAll hb2
    have n2 := HN.out.2.1.belowAll hb2
    have B2 : Below w.heap.size w w2 := HN.out.2.2.trans (hb2.mono HN.out.2.2.size)
    have x3 : w2.cell? ⟨w.heap.size, 3, none⟩ = some (.slice a3 N.kids.length c3) := n1.cell 3
    have y0 : w2.cell? ⟨w.heap.size + 1, 0, none⟩ = some (.slice b C.length d) := n2.cell 0
    have y1 : w2.cell? ⟨w.heap.size + 1, 1, none⟩ = some (.int .i64 t) := n2.cell 1
    have y2 : w2.cell? ⟨w.heap.size + 1, 2, none⟩ = some (.int .i64 l) := n2.cell 2
    have y3 : w2.cell? ⟨w.heap.size + 1, 3, none⟩ = some (.int .i64 m) := n2.cell 3
    have HB2 : Hid _ := B2
    clear n1 n2 B2 hb2 HN
    cases q2
    · go_wp2_with fail
      go_ret
      exact ⟨rfl, HB2.out⟩
    · go_wp2_with fail
      refine (H3.out _).mono ?_
      rintro e w3 ⟨rfl, hb3⟩
      have HB3 : Hid _ := HB2.out.trans (hb3.mono HB2.out.size)
      clear hb3
      cases q3
      · go_wp2_with fail
        go_ret
        exact ⟨rfl, HB3.out⟩
      · go_wp2_with fail
        go_ret
        exact ⟨rfl, HB3.out⟩

set_option maxRecDepth 10000 in
set_option maxHeartbeats 400000 in
theorem right_any (s : ByteArray) (w : World) (hs : s.size ≤ 500) :
    Calls Tryd.prog 26 #[.string s] w fun e w' => e = .returned (.bool (ok8 s)) ∧ Below w.heap.size w w' := by
  have hsz : s.data.toList.length = s.size := by rw [Array.length_toList]; rfl
  have H : Hid _ := read_any s w (by omega)
  have hk : ok8 s = decide ((read s.data.toList).2 = s.size) := by
    unfold ok8
    rw [← hsz]
    exact decide_eq_decide.2 (pFirst_lt8 _)
  rw [hk]
  clear hk
  generalize (read s.data.toList).2 = n at *
  by_cases hn : n = s.size
  · rw [decide_eq_true hn]
    have hn' : (n : Int) = s.size := by omega
    go_enter Tryd.func26, Tryd.ntmps26
    go_wp2_with fail
    refine Calls.mono H.out ?_
    rintro e w1 ⟨a, cap, gk, rfl, -, -, hb⟩
    have HB : Hid _ := hb
    clear hb H
    go_wp2_with fail
    go_ret
    exact ⟨by simp_all, HB.out⟩
  · rw [decide_eq_false hn]
    have hn' : ¬ (n : Int) = s.size := by omega
    go_enter Tryd.func26, Tryd.ntmps26
    go_wp2_with fail
    refine Calls.mono H.out ?_
    rintro e w1 ⟨a, cap, gk, rfl, -, -, hb⟩
    have HB : Hid _ := hb
    clear hb H
    go_wp2_with fail
    go_ret
    exact ⟨by simp_all, HB.out⟩

end Go.Proofs.YtaochgndednamaaDoor
