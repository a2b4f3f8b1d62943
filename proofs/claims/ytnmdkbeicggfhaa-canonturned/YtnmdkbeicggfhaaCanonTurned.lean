/- For every scene with which nothing is wrong, and any two of its places: with the two nodes exchanged, and with all nodes in the other order, Canon tells no error, and the same canonical scene (scenes greater than the law plays with are let go by the law itself); the arguments read afterwards as before. -/
import Derived.Test.YtnmdkbeicggfhaaRows
import Derived.WalkKit
import Derived.ProofKit
import Derived.OpenShut
import Derived.ShutString
import Derived.Below
import Derived.Test.YtnmdkbeicggfhaaCSw
import Derived.ChangeOld
namespace Go.Proofs.Ytnmdkbeicggfhaa.canonTurned
open Go.ChangeShapes Go.WideShapes Go.ChangeAt Go.RowKit
open Go.ChangeMaps (open_string shut_string)
set_option linter.unusedVariables false

theorem own : ownKnob Try.prog.godebug = none := by kernel_rfl
theorem laidOut : laidOutB Try.prog = true := by kernel_rfl

theorem tkf_setI (f : Int → Int) (l : List Int) (k : Nat) (h : k < l.length) : (tkf f l k).set k (f (l.getD k 0)) = tkf f l (k + 1) := by
  unfold tkf
  have hm : ((l.take k).map f).length = k := by simp; omega
  rw [List.set_append_right _ _ (by omega), hm, Nat.sub_self, List.take_add_one, List.getD_eq_getElem?_getD, List.getElem?_eq_getElem h, show l.drop k = l[k] :: l.drop (k + 1) from List.drop_eq_getElem_cons h, List.map_append, List.append_assoc]
  rfl
theorem tkf_len (f : Int → Int) (l : List Int) (k : Nat) (h : k ≤ l.length) : (tkf f l k).length = l.length := by unfold tkf; simp; omega
theorem tkf_get (f : Int → Int) (l : List Int) (k : Nat) (h : k < l.length) : (tkf f l k).getD k 0 = l.getD k 0 := by
  unfold tkf
  rw [List.getD_eq_getElem?_getD, List.getElem?_append_right (by simp; omega)]
  simp [h, Nat.min_eq_left (Nat.le_of_lt h)]
theorem tkf_same (f : Int → Int) (l : List Int) (k : Nat) (h : k < l.length) (e : f (l.getD k 0) = l.getD k 0) : tkf f l (k + 1) = tkf f l k := by
  rw [← tkf_setI f l k h, e]
  have hl := tkf_len f l k (by omega)
  have hg := tkf_get f l k h
  rw [List.getD_eq_getElem?_getD, List.getElem?_eq_getElem (by omega)] at hg
  have hg' : (tkf f l k)[k]'(by omega) = l.getD k 0 := hg
  rw [← hg']
  exact List.set_getElem_self _
theorem kidNx_two (y : Nx) (x z : List Int) : kidNx (kidNx y x) z = kidNx y z := rfl
theorem set_at (Z : List Nx) (i : Nat) (y : Nx) (h : i < Z.length) : (Z.set i y).getD i noNx = y := by rw [List.getD_eq_getElem?_getD, List.getElem?_set, if_pos rfl, if_pos h]; rfl
theorem set_off (Z : List Nx) (i j : Nat) (y : Nx) (h : i ≠ j) : (Z.set i y).getD j noNx = Z.getD j noNx := by rw [List.getD_eq_getElem?_getD, List.getElem?_set, if_neg h, ← List.getD_eq_getElem?_getD]
theorem getD_set_self (l : List Int) (k : Nat) (z : Int) (h : k < l.length) : (l.set k z).getD k 0 = z := by rw [List.getD_eq_getElem?_getD, List.getElem?_set, if_pos rfl, if_pos h]; rfl
theorem set_getD_self (l : List Int) (k : Nat) (h : k < l.length) : l.set k (l.getD k 0) = l := by rw [List.getD_eq_getElem?_getD, List.getElem?_eq_getElem h]; exact List.set_getElem_self _
/-- What is stored is stored once more. -/
theorem Swg.again {W : World} {B gt gy cy : Nat} {r : Int} {Z : List Nx} {N : Nx} {l : List Int} {i k q3 : Nat} (h : Swg W B gt gy cy r (Z.set i (kidNx N l))) (hi : i < Z.length) (hk : k < l.length) (h3 : N.a3 = some ⟨q3, 0, none⟩) : W.cell? ⟨q3, k, none⟩ = some (.int .i64 (l.getD k 0)) ∧ W.frozen? ⟨q3, k, none⟩ = false ∧ q3 < W.heap.size ∧ Swg (W.setCell ⟨q3, k, none⟩ (.int .i64 (l.getD k 0))) B gt gy cy r (Z.set i (kidNx N l)) := by
  have hi' : i < (Z.set i (kidNx N l)).length := by rw [List.length_set]; exact hi
  have hat := set_at Z i (kidNx N l) hi
  have ho := (h.each i hi').k
  have hkl : k < ((Z.set i (kidNx N l)).getD i noNx).nd.kids.length := by rw [hat]; exact hk
  have ha3 : ((Z.set i (kidNx N l)).getD i noNx).a3 = some ⟨q3, 0, none⟩ := by rw [hat]; exact h3
  obtain ⟨g, e1, c1, f1, b1, l1, _⟩ := own_store9 ho k hkl
  rw [ha3] at e1
  have hg : g = q3 := by simpa using e1.symm
  subst hg
  rw [iV_at _ k hkl, hat] at c1
  refine ⟨c1, f1, l1, ?_⟩
  have h7 := h.kid hi' hkl ha3 (l.getD k 0)
  rw [hat] at h7
  have e7 : (kidNx N l).nd.kids.set k (l.getD k 0) = l := set_getD_self l k hk
  rw [e7, List.set_set, kidNx_two] at h7
  exact h7
/-- A round of the inner loop that stores. -/
theorem Swg.put {W : World} {B gt gy cy : Nat} {r : Int} {Z : List Nx} {i k q3 : Nat} {f : Int → Int} (h : Swg W B gt gy cy r (Z.set i (kidNx (Z.getD i noNx) (tkf f (Z.getD i noNx).nd.kids k)))) (hi : i < Z.length) (hk : k < (Z.getD i noNx).nd.kids.length) (h3 : (Z.getD i noNx).a3 = some ⟨q3, 0, none⟩) : W.cell? ⟨q3, k, none⟩ = some (.int .i64 ((Z.getD i noNx).nd.kids.getD k 0)) ∧ W.frozen? ⟨q3, k, none⟩ = false ∧ q3 < W.heap.size ∧ B ≤ q3 ∧ q3 ≠ gt ∧
    Swg (W.setCell ⟨q3, k, none⟩ (.int .i64 (f ((Z.getD i noNx).nd.kids.getD k 0)))) B gt gy cy r (Z.set i (kidNx (Z.getD i noNx) (tkf f (Z.getD i noNx).nd.kids (k + 1)))) := by
  have hl := tkf_len f (Z.getD i noNx).nd.kids k (by omega)
  have hi' : i < (Z.set i (kidNx (Z.getD i noNx) (tkf f (Z.getD i noNx).nd.kids k))).length := by rw [List.length_set]; exact hi
  have hat := set_at Z i (kidNx (Z.getD i noNx) (tkf f (Z.getD i noNx).nd.kids k)) hi
  have ho := (h.each i hi').k
  have hkl : k < ((Z.set i (kidNx (Z.getD i noNx) (tkf f (Z.getD i noNx).nd.kids k))).getD i noNx).nd.kids.length := by rw [hat]; show k < (tkf f (Z.getD i noNx).nd.kids k).length; omega
  have ha3 : ((Z.set i (kidNx (Z.getD i noNx) (tkf f (Z.getD i noNx).nd.kids k))).getD i noNx).a3 = some ⟨q3, 0, none⟩ := by rw [hat]; exact h3
  obtain ⟨g, e1, c1, f1, b1, l1, _⟩ := own_store9 ho k hkl
  rw [ha3] at e1
  have hg : g = q3 := by simpa using e1.symm
  subst hg
  have hne : g ≠ gt := fun e => own_ne_at ho h.sc (by decide) g (by rw [ha3]; rfl) e
  rw [iV_at _ k hkl] at c1
  have c2 : ((Z.set i (kidNx (Z.getD i noNx) (tkf f (Z.getD i noNx).nd.kids k))).getD i noNx).nd.kids.getD k 0 = (Z.getD i noNx).nd.kids.getD k 0 := by rw [hat]; exact tkf_get f _ k hk
  rw [c2] at c1
  refine ⟨c1, f1, l1, b1, hne, ?_⟩
  have h7 := h.kid hi' hkl ha3 (f ((Z.getD i noNx).nd.kids.getD k 0))
  rw [hat] at h7
  have e7 : (kidNx (Z.getD i noNx) (tkf f (Z.getD i noNx).nd.kids k)).nd.kids.set k (f ((Z.getD i noNx).nd.kids.getD k 0)) = tkf f (Z.getD i noNx).nd.kids (k + 1) := tkf_setI f _ k hk
  rw [e7, List.set_set, kidNx_two] at h7
  exact h7

theorem row_cells {W : World} {B gy cy n : Nat} {Z : List Nx} (h : W.ownsRow B 40 4 (.slice (some ⟨gy, 0, none⟩) n cy) n (nxV Z)) (hn : n = Z.length) (j : Nat) (hj : j < Z.length) : W.cell? ⟨gy, j * 4, none⟩ = some (.int .i64 (Z.getD j noNx).nd.kind) ∧ W.cell? ⟨gy, j * 4 + 1, none⟩ = some (.slice (Z.getD j noNx).a1 (Z.getD j noNx).nd.ints.length (Z.getD j noNx).c1) ∧ W.cell? ⟨gy, j * 4 + 2, none⟩ = some (.slice (Z.getD j noNx).a2 (Z.getD j noNx).nd.texts.length (Z.getD j noNx).c2) ∧ W.cell? ⟨gy, j * 4 + 3, none⟩ = some (.slice (Z.getD j noNx).a3 (Z.getD j noNx).nd.kids.length (Z.getD j noNx).c3) ∧ gy < W.heap.size ∧ ∀ k, W.frozen? ⟨gy, k, none⟩ = false := by
  subst hn
  exact ⟨(h.cellAt (j * 4) (by omega)).trans (nxV_at Z j 0 hj (by omega)), (h.cellAt (j * 4 + 1) (by omega)).trans (nxV_at Z j 1 hj (by omega)), (h.cellAt (j * 4 + 2) (by omega)).trans (nxV_at Z j 2 hj (by omega)), (h.cellAt (j * 4 + 3) (by omega)).trans (nxV_at Z j 3 hj (by omega)), (h.lt gy rfl).2, fun k => h.frozenAt k⟩
theorem row_setNx' {w : World} {B gy cy n : Nat} {Z : List Nx} (h : w.ownsRow B 40 4 (.slice (some ⟨gy, 0, none⟩) n cy) n (nxV Z)) (hl : Z.length = n) (j : Nat) (hj : j < n) (y : Nx) : ((((w.setCell ⟨gy, j * 4, none⟩ (.int .i64 y.nd.kind)).setCell ⟨gy, j * 4 + 1, none⟩ (.slice y.a1 y.nd.ints.length y.c1)).setCell ⟨gy, j * 4 + 2, none⟩ (.slice y.a2 y.nd.texts.length y.c2)).setCell ⟨gy, j * 4 + 3, none⟩ (.slice y.a3 y.nd.kids.length y.c3)).ownsRow B 40 4 (.slice (some ⟨gy, 0, none⟩) n cy) n (nxV (Z.set j y)) := by
  subst hl
  have := row_setNx h j hj y
  rw [List.length_set] at this
  exact this
theorem row_one {w : World} {B gy cy n : Nat} {xs ys : List Value} (h : w.ownsRow B 40 4 (.slice (some ⟨gy, 0, none⟩) n cy) n xs) (h' : w.ownsRow B 40 4 (.slice (some ⟨gy, 0, none⟩) n cy) n ys) : xs = ys := by
  have hl : xs.length = ys.length := by rw [h.1, h'.1]
  refine List.ext_getElem? (fun i => ?_)
  by_cases hi : i < xs.length
  · rw [← h.cellAt i (by rw [← h.1]; exact hi), ← h'.cellAt i (by rw [← h'.1]; omega)]
  · rw [List.getElem?_eq_none (by omega), List.getElem?_eq_none (by omega)]
/-- The facts of the region that exchanges two nodes. -/
def swF (n cy gy gt a b : Nat) (Ya Yb : Nx) (Y : List Nx) (B : Nat) : Nat → (Option Tmp → Value) → World → Prop
  | 0, V, _ => V (some 44) = .pointer (some ⟨gt, 0, none⟩)
  | 1, V, _ => V (some 45) = .slice (some ⟨gy, 0, none⟩) n cy
  | 2, V, _ => V (some 46) = .int .i64 (a : Int)
  | 3, V, _ => V (some 47) = .pointer (some ⟨gt, 0, none⟩)
  | 4, V, _ => V (some 48) = .slice (some ⟨gy, 0, none⟩) n cy
  | 5, V, _ => V (some 49) = .int .i64 (b : Int)
  | 6, V, _ => V (some 50) = .pointer (some ⟨gt, 0, none⟩)
  | 7, V, _ => V (some 51) = .slice (some ⟨gy, 0, none⟩) n cy
  | 8, V, _ => V (some 52) = .int .i64 (b : Int)
  | 9, V, _ => V (some 53) = .pointer (some ⟨gy, b * 4, none⟩)
  | 10, V, _ => V (some 54) = .agg #[.int .i64 Yb.nd.kind, .slice Yb.a1 Yb.nd.ints.length Yb.c1, .slice Yb.a2 Yb.nd.texts.length Yb.c2, .slice Yb.a3 Yb.nd.kids.length Yb.c3]
  | 11, V, _ => V (some 55) = .pointer (some ⟨gt, 0, none⟩)
  | 12, V, _ => V (some 56) = .slice (some ⟨gy, 0, none⟩) n cy
  | 13, V, _ => V (some 57) = .int .i64 (a : Int)
  | 14, V, _ => V (some 58) = .pointer (some ⟨gy, a * 4, none⟩)
  | 15, V, _ => V (some 59) = .agg #[.int .i64 Ya.nd.kind, .slice Ya.a1 Ya.nd.ints.length Ya.c1, .slice Ya.a2 Ya.nd.texts.length Ya.c2, .slice Ya.a3 Ya.nd.kids.length Ya.c3]
  | 16, V, _ => V (some 60) = .pointer (some ⟨gy, a * 4, none⟩)
  | 17, _, W => ∃ Z : List Nx, (Z = Y.set a Yb ∨ Z = (Y.set a Yb).set b Ya) ∧ W.ownsRow B 40 4 (.slice (some ⟨gy, 0, none⟩) n cy) n (nxV Z)
  | 18, V, _ => V (some 61) = .pointer (some ⟨gy, b * 4, none⟩)
  | 19, _, W => W.ownsRow B 40 4 (.slice (some ⟨gy, 0, none⟩) n cy) n (nxV ((Y.set a Yb).set b Ya))
  | _, _, _ => True
def swC (_ : Nat) : Nat := 17
def swI (n cy gy : Nat) (Y : List Nx) (B : Nat) : Nat → World → Prop
  | 0, W => W.ownsRow B 40 4 (.slice (some ⟨gy, 0, none⟩) n cy) n (nxV Y)
  | _, _ => True
def swD (i j : Nat) : Bool := (i == 17 && j == 19)
theorem swF_any {n cy gy gt a b : Nat} {Ya Yb : Nx} {Y : List Nx} {B : Nat} {W W' : World} {j : Nat} {V : Option Tmp → Value} (hj : 17 ≠ j) (hd : swD 17 j = false) (h : swF n cy gy gt a b Ya Yb Y B j V W) : swF n cy gy gt a b Ya Yb Y B j V W' := by
  match j, h with
  | 0, h | 1, h | 2, h | 3, h | 4, h | 5, h | 6, h | 7, h | 8, h | 9, h | 10, h | 11, h | 12, h | 13, h | 14, h | 15, h | 16, h | 18, h => exact h
  | 17, _ => exact absurd rfl hj
  | 19, _ => simp [swD] at hd
  | _ + 20, _ => trivial
theorem nxC_eq {Z Z' : List Nx} (h : nxV Z = nxV Z') {j : Nat} (hj : j < Z.length) (hj' : j < Z'.length) : nxC (Z.getD j noNx) = nxC (Z'.getD j noNx) := by
  refine List.ext_getElem? (fun i => ?_)
  by_cases hi : i < 4
  · rw [← nxV_at Z j i hj hi, ← nxV_at Z' j i hj' hi, h]
  · rw [List.getElem?_eq_none (by simp [nxC]; omega), List.getElem?_eq_none (by simp [nxC]; omega)]
theorem nxV_setC {Z Z' : List Nx} {y y' : Nx} (h : nxV Z = nxV Z') (hy : nxC y = nxC y') {j : Nat} (hj : j < Z.length) (hj' : j < Z'.length) : nxV (Z.set j y) = nxV (Z'.set j y') := by
  simp only [nxC, List.cons.injEq, and_true] at hy
  rw [← nxV_set y Z j hj, ← nxV_set y' Z' j hj', h, hy.1, hy.2.1, hy.2.2.1, hy.2.2.2]
/-- If the first store turns nothing, the second doesn't. -/
theorem sw_same {W W' : World} {n cy gy a b B : Nat} {Ya Yb : Nx} {Y Z : List Nx} (ha : Y.getD a noNx = Ya) (hb : Y.getD b noNx = Yb) (hal : a < Y.length) (hbl : b < Y.length) (hZ : Z = Y.set a Yb ∨ Z = (Y.set a Yb).set b Ya) (h1 : W.ownsRow B 40 4 (.slice (some ⟨gy, 0, none⟩) n cy) n (nxV Z)) (h2 : swI n cy gy Y B 0 W) (h3 : W'.ownsRow B 40 4 (.slice (some ⟨gy, 0, none⟩) n cy) n (nxV ((Y.set a Yb).set b Ya))) : swI n cy gy Y B 0 W' := by
  have e : nxV Y = nxV Z := row_one h2 h1
  have key : nxV ((Y.set a Yb).set b Ya) = nxV Y := by
    rcases hZ with rfl | rfl
    · have ec := nxC_eq e hal (by simpa using hal)
      rw [set_at Y a Yb hal, ha] at ec
      have h5 := nxV_setC e.symm ec (j := b) (by simpa using hbl) hbl
      rw [h5, ← hb, List.getD_eq_getElem?_getD, List.getElem?_eq_getElem hbl]
      simp
    · exact e.symm
  show World.ownsRow _ _ _ _ _ _ _
  rw [← key]
  exact h3

set_option maxRecDepth 10000 in
set_option maxHeartbeats 8000000 in
theorem walk (X0 : List Nx) (a0 : Option Addr) (c0 : Nat) (r0 : Int) (a1 : Int) (a2 : Int) (w : World) (w0 : IsSc w a0 X0 r0) (w1 : (Lit.int .i64 a1).wf = true) (w2 : (Lit.int .i64 a2).wf = true) :
    Calls Try.prog 6 #[.agg #[.slice a0 X0.length c0, .int .i64 r0], .int .i64 a1, .int .i64 a2] w fun e w' => e = .returned (.bool true) ∧ Below w.heap.size w w' := by
  have HA : Hid (∀ W, Calls Try.prog 9 #[] W fun e w' => e = .returned (.bool true) ∧ Below W.heap.size W w') := awake_any
  have HS : Hid (IsSc w a0 X0 r0) := w0
  have HL : Hid (Lw w (w.alloc (.cells #[.slice a0 X0.length c0, .int .i64 r0] 24)) a0 X0 c0 r0) := Lw.start w a0 X0 c0 r0
  clear w0
  go_enter Try.func6, Try.ntmps6
  go_wp2_with fail
  refine (HA.out _).mono ?_
  rintro e w1 ⟨rfl, hb1⟩
  have HL1 : Hid (Lw w w1 a0 X0 c0 r0) := HL.out.more hb1
  have x0 := HL1.out.c0
  have x1 := HL1.out.c1
  have HG : Hid (Calls Try.prog 10 #[.agg #[.slice a0 X0.length c0, .int .i64 r0]] w1 fun e w' => GreatOut X0 w1 w' e) := sgreat_any X0 a0 c0 r0 w1 (HL1.out.sc HS.out)
  clear HL hb1
  go_wp2_with fail
  refine Calls.mono HG.out ?_
  rintro e w2 ⟨g, rfl, hg, hb2⟩
  have HL2 : Hid (Lw w w2 a0 X0 c0 r0) := HL1.out.more hb2
  clear HG HL1 hb2 x0 x1
  cases g with
  | true =>
    go_wp2_with fail
    refine (HA.out _).mono ?_
    rintro e w3 ⟨rfl, hb3⟩
    have HB : Hid (Below w.heap.size w w3) := (HL2.out.more hb3).bel
    clear HL2 hb3
    go_wp2_with fail
    go_ret
    exact ⟨rfl, HB.out⟩
  | false =>
    have HSm : Hid (Small X0) := (hg rfl).1
    have x0 := HL2.out.c0
    have x1 := HL2.out.c1
    have HRt : Hid (Calls Try.prog 21 #[.agg #[.slice a0 X0.length c0, .int .i64 r0]] w2 fun e w' => RightOut X0 r0 w2 w' e) := right_any X0 a0 c0 r0 w2 (HL2.out.sc HS.out) HSm.out
    clear hg
    go_wp2_with fail
    refine Calls.mono HRt.out ?_
    rintro e w2' ⟨q, rfl, hq, hb2⟩
    have HL3 : Hid (Lw w w2' a0 X0 c0 r0) := HL2.out.more hb2
    clear HRt HL2 hb2 x0 x1
    cases q with
    | false =>
      go_wp2_with fail
      refine (HA.out _).mono ?_
      rintro e w9 ⟨rfl, hb9⟩
      have HB : Hid (Below w.heap.size w w9) := (HL3.out.more hb9).bel
      clear hb9
      go_wp2_with fail
      go_ret
      exact ⟨rfl, HB.out⟩
    | true =>
      have HR : Hid (RightIs X0 r0) := hq.1 rfl
      have hn := HSm.out.1
      clear hq
      have x0 := HL3.out.c0
      have x1 := HL3.out.c1
      have HPl : Hid (Calls Try.prog 22 #[.agg #[.slice a0 X0.length c0, .int .i64 r0], .int .i64 a1] w2' fun e w' => e = .returned (.bool (isPb X0.length a1)) ∧ Below w2'.heap.size w2' w') := place_any a0 X0.length c0 r0 a1 w2'
      go_wp2_with fail
      refine Calls.mono HPl.out ?_
      rintro e w3 ⟨rfl, hb4⟩
      have HL35 : Hid (Lw w w3 a0 X0 c0 r0) := HL3.out.more hb4
      clear HPl HL3 hb4 x0 x1
      by_cases hpt : isPb X0.length a1 = false
      · rw [hpt]
        go_wp2_with fail
        refine (HA.out _).mono ?_
        rintro e w9 ⟨rfl, hb9⟩
        have HB : Hid (Below w.heap.size w w9) := (HL35.out.more hb9).bel
        clear hb9
        go_wp2_with fail
        go_ret
        exact ⟨rfl, HB.out⟩
      rw [Bool.not_eq_false] at hpt
      rw [hpt]
      have x0 := HL35.out.c0
      have x1 := HL35.out.c1
      have HPl : Hid (Calls Try.prog 22 #[.agg #[.slice a0 X0.length c0, .int .i64 r0], .int .i64 a2] w3 fun e w' => e = .returned (.bool (isPb X0.length a2)) ∧ Below w3.heap.size w3 w') := place_any a0 X0.length c0 r0 a2 w3
      go_wp2_with fail
      refine Calls.mono HPl.out ?_
      rintro e w4 ⟨rfl, hb4⟩
      have HL4 : Hid (Lw w w4 a0 X0 c0 r0) := HL35.out.more hb4
      clear HPl HL35 hb4 x0 x1
      by_cases hpu : isPb X0.length a2 = false
      · rw [hpu]
        go_wp2_with fail
        refine (HA.out _).mono ?_
        rintro e w9 ⟨rfl, hb9⟩
        have HB : Hid (Below w.heap.size w w9) := (HL4.out.more hb9).bel
        clear hb9
        go_wp2_with fail
        go_ret
        exact ⟨rfl, HB.out⟩
      rw [Bool.not_eq_false] at hpu
      rw [hpu]
      obtain ⟨a, rfl, hal⟩ : ∃ a : Nat, a1 = (a : Int) ∧ a < X0.length := by
        have := isPb_iff.1 hpt
        exact ⟨a1.toNat, by omega, by omega⟩
      obtain ⟨b, rfl, hbl⟩ : ∃ b : Nat, a2 = (b : Int) ∧ b < X0.length := by
        have := isPb_iff.1 hpu
        exact ⟨a2.toNat, by omega, by omega⟩
      clear hpt hpu HA
      have hal' : (a : Int) < X0.length := by omega
      have hbl' : (b : Int) < X0.length := by omega
      have x0 := HL4.out.c0
      have x1 := HL4.out.c1
      have HCp2 : Hid (Calls Try.prog 12 #[.agg #[.slice a0 X0.length c0, .int .i64 r0]] w4 fun e w' => SCopyOut2 X0 r0 w4 w' e) := scopy2_any X0 a0 c0 r0 w4 (HL4.out.sc HS.out) HSm.out
      go_wp2_with fail
      refine Calls.mono HCp2.out ?_
      rintro e w5 ⟨Y, ay, cy, rfl, hY, hrow5, heach5, hap5, hb5⟩
      have hYl : Y.length = X0.length := by simpa using congrArg List.length hY
      obtain ⟨gy, rfl⟩ : ∃ gy, ay = some ⟨gy, 0, none⟩ := by
        rcases hrow5.2 with ⟨h0, h1⟩ | ⟨g', cap, cur, hv, _⟩
        · omega
        · cases hv; exact ⟨g', rfl⟩
      rw [hYl]
      have HY5 : Hid (Y.map Nx.nd = X0.map Nx.nd ∧ Y.length = X0.length) := ⟨hY, hYl⟩
      have HT5 : Hid (∀ ob : Obj, ob = .cells #[.slice (some ⟨gy, 0, none⟩) X0.length cy, .int .i64 r0] 24 → Swg (w5.alloc ob) w4.heap.size w5.heap.size gy cy r0 Y ∧ Below w4.heap.size w4 (w5.alloc ob)) := by
        rw [← hYl]
        rintro _ rfl
        exact ⟨⟨AtN.new w5 24 _, hrow5.alloc _, fun j hj => (heach5 j hj).kept (World.grownBy_alloc w5 _ none) (by simp), hap5⟩, hb5.alloc hb5.size _⟩
      have hw5 : w4.heap.size ≤ w5.heap.size := hb5.size
      clear HCp2 hrow5 heach5 hap5 hb5 hY hYl x0 x1
      go_wp2_with fail
      obtain ⟨hS6, hB6⟩ := HT5.out _ rfl
      clear HT5
      generalize w5.alloc (.cells #[.slice (some ⟨gy, 0, none⟩) X0.length cy, .int .i64 r0] 24) = W0 at *
      have hYl := HY5.out.2
      have haY : a < Y.length := by omega
      have hbY : b < Y.length := by omega
      have s0 : W0.cell? ⟨w5.heap.size, 0, none⟩ = some (.slice (some ⟨gy, 0, none⟩) X0.length cy) := by rw [← hYl]; exact hS6.sc.cell 0
      have hgtl := hS6.sc.lt
      have hgne := hS6.ne
      have Hrow0 : Hid (W0.ownsRow w4.heap.size 40 4 (.slice (some ⟨gy, 0, none⟩) X0.length cy) X0.length (nxV Y)) := by rw [← hYl]; exact hS6.row
      have hgyB : w4.heap.size ≤ gy := (hS6.row.lt gy rfl).1
      have Hsw : Hid (∀ W, Fr (fun b => b = gy) W0 W → W.ownsRow w4.heap.size 40 4 (.slice (some ⟨gy, 0, none⟩) X0.length cy) X0.length (nxV ((Y.set a (Y.getD b noNx)).set b (Y.getD a noNx))) → Swg W w4.heap.size w5.heap.size gy cy r0 (swN Y a b) ∧ Below w4.heap.size w4 W) := fun W hf hrow => by
        have hal : Alien W0 (fun z => z = gy) := fun z hz _ => by
          rcases hS6.row.2 with ⟨h0, _⟩ | ⟨g', cap, cur, hv, _, h5, _⟩
          · cases h0
          · cases hv
            subst hz
            exact ⟨_, _, _, h5, by decide, by decide, by decide⟩
        refine ⟨⟨?_, ?_, fun j hj => ?_, swN_apart hS6.ap haY hbY⟩, Fr.below hB6 hf (fun z e => by omega) hB6.size⟩
        · rw [swN_length]
          exact hS6.sc.fr hf (fun e => hgne e.symm)
        · rw [swN_length, hYl]
          exact hrow
        · rw [swN_length] at hj
          rw [swN_at Y haY hbY]
          exact (hS6.each _ ((swp_per haY hbY).lt j hj)).fr hf hal
      obtain ⟨Ya, hYa⟩ : ∃ Ya, Y.getD a noNx = Ya := ⟨_, rfl⟩
      obtain ⟨Yb, hYb⟩ : ∃ Yb, Y.getD b noNx = Yb := ⟨_, rfl⟩
      rw [hYa, hYb] at Hsw
      have HYa : Hid (Y.getD a noNx = Ya) := hYa
      have HYb : Hid (Y.getD b noNx = Yb) := hYb
      clear hYa hYb hS6 hB6 hYl
      go_wp2_with fail
      refine facts_region8 (fun W => Fr (fun b => b = gy) W0 W) (swF X0.length cy gy w5.heap.size a b Ya Yb Y w4.heap.size) swC (swI X0.length cy gy Y w4.heap.size) swD (by kernel_rfl) (by kernel_rfl) (Fr.refl _ _).drew (fun u => by match u with | 0 => exact Hrow0.out | _ + 1 => trivial) ?hdead ?loc ?step ?fin
      case hdead =>
        intro i' j' oi oj hi' hj' hd
        simp only [swD, Bool.and_eq_true, beq_iff_eq] at hd
        obtain ⟨rfl, rfl⟩ := hd
        obtain rfl := Option.some.inj hj'
        kernel_rfl
      case loc =>
        intro j' o' V V' W ho hd hk h
        rcases j' with _|_|_|_|_|_|_|_|_|_|_|_|_|_|_|_|_|_|_|_|j'
        · obtain rfl := Option.some.inj ho
          have e : V (some 44) = V' (some 44) := hd
          simp only [swF] at h ⊢
          rw [← e]; exact h
        · obtain rfl := Option.some.inj ho
          have e : V (some 45) = V' (some 45) := hd
          simp only [swF] at h ⊢
          rw [← e]; exact h
        · obtain rfl := Option.some.inj ho
          have e : V (some 46) = V' (some 46) := hd
          simp only [swF] at h ⊢
          rw [← e]; exact h
        · obtain rfl := Option.some.inj ho
          have e : V (some 47) = V' (some 47) := hd
          simp only [swF] at h ⊢
          rw [← e]; exact h
        · obtain rfl := Option.some.inj ho
          have e : V (some 48) = V' (some 48) := hd
          simp only [swF] at h ⊢
          rw [← e]; exact h
        · obtain rfl := Option.some.inj ho
          have e : V (some 49) = V' (some 49) := hd
          simp only [swF] at h ⊢
          rw [← e]; exact h
        · obtain rfl := Option.some.inj ho
          have e : V (some 50) = V' (some 50) := hd
          simp only [swF] at h ⊢
          rw [← e]; exact h
        · obtain rfl := Option.some.inj ho
          have e : V (some 51) = V' (some 51) := hd
          simp only [swF] at h ⊢
          rw [← e]; exact h
        · obtain rfl := Option.some.inj ho
          have e : V (some 52) = V' (some 52) := hd
          simp only [swF] at h ⊢
          rw [← e]; exact h
        · obtain rfl := Option.some.inj ho
          have e : V (some 53) = V' (some 53) := hd
          simp only [swF] at h ⊢
          rw [← e]; exact h
        · obtain rfl := Option.some.inj ho
          have e : V (some 54) = V' (some 54) := hd
          simp only [swF] at h ⊢
          rw [← e]; exact h
        · obtain rfl := Option.some.inj ho
          have e : V (some 55) = V' (some 55) := hd
          simp only [swF] at h ⊢
          rw [← e]; exact h
        · obtain rfl := Option.some.inj ho
          have e : V (some 56) = V' (some 56) := hd
          simp only [swF] at h ⊢
          rw [← e]; exact h
        · obtain rfl := Option.some.inj ho
          have e : V (some 57) = V' (some 57) := hd
          simp only [swF] at h ⊢
          rw [← e]; exact h
        · obtain rfl := Option.some.inj ho
          have e : V (some 58) = V' (some 58) := hd
          simp only [swF] at h ⊢
          rw [← e]; exact h
        · obtain rfl := Option.some.inj ho
          have e : V (some 59) = V' (some 59) := hd
          simp only [swF] at h ⊢
          rw [← e]; exact h
        · obtain rfl := Option.some.inj ho
          have e : V (some 60) = V' (some 60) := hd
          simp only [swF] at h ⊢
          rw [← e]; exact h
        · obtain rfl := Option.some.inj ho
          exact h
        · obtain rfl := Option.some.inj ho
          have e : V (some 61) = V' (some 61) := hd
          simp only [swF] at h ⊢
          rw [← e]; exact h
        · obtain rfl := Option.some.inj ho
          exact h
        · exact absurd ho (by simp)
      case step =>
        intro i' o' ho act W hG hoff hdep hI K hQ hK
        rcases i' with _|_|_|_|_|_|_|_|_|_|_|_|_|_|_|_|_|_|_|_|i'
        · obtain rfl := Option.some.inj ho
          have t7 : act.tmps[7]?.getD undef = .pointer (some ⟨w5.heap.size, 0, none⟩) := hoff 7 (by kernel_rfl)
          clear hdep hoff hI
          go_simp
          exact hQ _ (fun _ h1 _ => h1)
        · obtain rfl := Option.some.inj ho
          have e0 : act.tmps[44]?.getD undef = .pointer (some ⟨w5.heap.size, 0, none⟩) := hdep 0 (by kernel_rfl)
          clear hdep hoff hI
          have s0W : W.cell? ⟨w5.heap.size, 0, none⟩ = some (.slice (some ⟨gy, 0, none⟩) X0.length cy) := (World.cell?_of_block (hG.block w5.heap.size hgtl (fun e => hgne e.symm))).trans s0
          go_simp
          exact hQ _ (fun _ h1 _ => h1)
        · obtain rfl := Option.some.inj ho
          have t1 : act.tmps[1]?.getD undef = .int .i64 (a : Int) := hoff 1 (by kernel_rfl)
          clear hdep hoff hI
          go_simp
          exact hQ _ (fun _ h1 _ => h1)
        · obtain rfl := Option.some.inj ho
          have t7 : act.tmps[7]?.getD undef = .pointer (some ⟨w5.heap.size, 0, none⟩) := hoff 7 (by kernel_rfl)
          clear hdep hoff hI
          go_simp
          exact hQ _ (fun _ h1 _ => h1)
        · obtain rfl := Option.some.inj ho
          have e3 : act.tmps[47]?.getD undef = .pointer (some ⟨w5.heap.size, 0, none⟩) := hdep 3 (by kernel_rfl)
          clear hdep hoff hI
          have s0W : W.cell? ⟨w5.heap.size, 0, none⟩ = some (.slice (some ⟨gy, 0, none⟩) X0.length cy) := (World.cell?_of_block (hG.block w5.heap.size hgtl (fun e => hgne e.symm))).trans s0
          go_simp
          exact hQ _ (fun _ h1 _ => h1)
        · obtain rfl := Option.some.inj ho
          have t2 : act.tmps[2]?.getD undef = .int .i64 (b : Int) := hoff 2 (by kernel_rfl)
          clear hdep hoff hI
          go_simp
          exact hQ _ (fun _ h1 _ => h1)
        · obtain rfl := Option.some.inj ho
          have t7 : act.tmps[7]?.getD undef = .pointer (some ⟨w5.heap.size, 0, none⟩) := hoff 7 (by kernel_rfl)
          clear hdep hoff hI
          go_simp
          exact hQ _ (fun _ h1 _ => h1)
        · obtain rfl := Option.some.inj ho
          have e6 : act.tmps[50]?.getD undef = .pointer (some ⟨w5.heap.size, 0, none⟩) := hdep 6 (by kernel_rfl)
          clear hdep hoff hI
          have s0W : W.cell? ⟨w5.heap.size, 0, none⟩ = some (.slice (some ⟨gy, 0, none⟩) X0.length cy) := (World.cell?_of_block (hG.block w5.heap.size hgtl (fun e => hgne e.symm))).trans s0
          go_simp
          exact hQ _ (fun _ h1 _ => h1)
        · obtain rfl := Option.some.inj ho
          have t2 : act.tmps[2]?.getD undef = .int .i64 (b : Int) := hoff 2 (by kernel_rfl)
          clear hdep hoff hI
          go_simp
          exact hQ _ (fun _ h1 _ => h1)
        · obtain rfl := Option.some.inj ho
          have e7 : act.tmps[51]?.getD undef = .slice (some ⟨gy, 0, none⟩) X0.length cy := hdep 7 (by kernel_rfl)
          have e8 : act.tmps[52]?.getD undef = .int .i64 (b : Int) := hdep 8 (by kernel_rfl)
          clear hdep hoff hI
          go_simp
          exact hQ _ (fun _ h1 _ => h1)
        · obtain rfl := Option.some.inj ho
          have e9 : act.tmps[53]?.getD undef = .pointer (some ⟨gy, b * 4, none⟩) := hdep 9 (by kernel_rfl)
          clear hdep hoff
          obtain ⟨c0, c1, c2, c3, -, -⟩ := row_cells (hI 0 (by kernel_rfl)) HY5.out.2.symm b (by omega)
          rw [HYb.out] at c0 c1 c2 c3
          clear hI
          go_simp
          exact hQ _ (fun _ h1 _ => h1)
        · obtain rfl := Option.some.inj ho
          have t7 : act.tmps[7]?.getD undef = .pointer (some ⟨w5.heap.size, 0, none⟩) := hoff 7 (by kernel_rfl)
          clear hdep hoff hI
          go_simp
          exact hQ _ (fun _ h1 _ => h1)
        · obtain rfl := Option.some.inj ho
          have e11 : act.tmps[55]?.getD undef = .pointer (some ⟨w5.heap.size, 0, none⟩) := hdep 11 (by kernel_rfl)
          clear hdep hoff hI
          have s0W : W.cell? ⟨w5.heap.size, 0, none⟩ = some (.slice (some ⟨gy, 0, none⟩) X0.length cy) := (World.cell?_of_block (hG.block w5.heap.size hgtl (fun e => hgne e.symm))).trans s0
          go_simp
          exact hQ _ (fun _ h1 _ => h1)
        · obtain rfl := Option.some.inj ho
          have t1 : act.tmps[1]?.getD undef = .int .i64 (a : Int) := hoff 1 (by kernel_rfl)
          clear hdep hoff hI
          go_simp
          exact hQ _ (fun _ h1 _ => h1)
        · obtain rfl := Option.some.inj ho
          have e12 : act.tmps[56]?.getD undef = .slice (some ⟨gy, 0, none⟩) X0.length cy := hdep 12 (by kernel_rfl)
          have e13 : act.tmps[57]?.getD undef = .int .i64 (a : Int) := hdep 13 (by kernel_rfl)
          clear hdep hoff hI
          go_simp
          exact hQ _ (fun _ h1 _ => h1)
        · obtain rfl := Option.some.inj ho
          have e14 : act.tmps[58]?.getD undef = .pointer (some ⟨gy, a * 4, none⟩) := hdep 14 (by kernel_rfl)
          clear hdep hoff
          obtain ⟨c0, c1, c2, c3, -, -⟩ := row_cells (hI 0 (by kernel_rfl)) HY5.out.2.symm a (by omega)
          rw [HYa.out] at c0 c1 c2 c3
          clear hI
          go_simp
          exact hQ _ (fun _ h1 _ => h1)
        · obtain rfl := Option.some.inj ho
          have e1 : act.tmps[45]?.getD undef = .slice (some ⟨gy, 0, none⟩) X0.length cy := hdep 1 (by kernel_rfl)
          have e2 : act.tmps[46]?.getD undef = .int .i64 (a : Int) := hdep 2 (by kernel_rfl)
          clear hdep hoff hI
          go_simp
          exact hQ _ (fun _ h1 _ => h1)
        · obtain rfl := Option.some.inj ho
          have e16 : act.tmps[60]?.getD undef = .pointer (some ⟨gy, a * 4, none⟩) := hdep 16 (by kernel_rfl)
          have e10 : act.tmps[54]?.getD undef = .agg #[.int .i64 Yb.nd.kind, .slice Yb.a1 Yb.nd.ints.length Yb.c1, .slice Yb.a2 Yb.nd.texts.length Yb.c2, .slice Yb.a3 Yb.nd.kids.length Yb.c3] := hdep 10 (by kernel_rfl)
          clear hdep hoff
          obtain ⟨Z, hZ⟩ : ∃ Z, Z = Y := ⟨_, rfl⟩
          have hrow : W.ownsRow w4.heap.size 40 4 (.slice (some ⟨gy, 0, none⟩) X0.length cy) X0.length (nxV Z) := by rw [hZ]; exact hI 0 (by kernel_rfl)
          have hZl : Z.length = X0.length := by rw [hZ]; exact HY5.out.2
          have HZ : Hid (Z = Y) := hZ
          clear hI hZ
          obtain ⟨c0, c1, c2, c3, hgl, hfz⟩ := row_cells hrow (by rw [hZl]) a (by rw [hZl]; omega)
          have f0 := hfz (a * 4)
          have f1 := hfz (a * 4 + 1)
          have f2 := hfz (a * 4 + 2)
          have f3 := hfz (a * 4 + 3)
          have HR4 : Hid _ := row_setNx' hrow hZl a (by omega) Yb
          have HG : Hid (∀ v0 v1 v2 v3, Fr (fun b => b = gy) W0 ((((W.setCell ⟨gy, a * 4, none⟩ v0).setCell ⟨gy, a * 4 + 1, none⟩ v1).setCell ⟨gy, a * 4 + 2, none⟩ v2).setCell ⟨gy, a * 4 + 3, none⟩ v3)) := fun v0 v1 v2 v3 => (((hG.set ⟨gy, a * 4, none⟩ rfl v0).set ⟨gy, a * 4 + 1, none⟩ rfl v1).set ⟨gy, a * 4 + 2, none⟩ rfl v2).set ⟨gy, a * 4 + 3, none⟩ rfl v3
          have HO : Hid _ := hrow
          clear hrow hG hfz
          generalize Z.getD a noNx = M at *
          go_simp
          exact hK undef _ (HG.out _ _ _ _) (fun u hu => (hu rfl).elim) (fun j V hj hd h => swF_any hj hd h) (fun _ _ _ => ⟨Z.set a Yb, .inl (by rw [HZ.out]), HR4.out⟩)
        · obtain rfl := Option.some.inj ho
          have e4 : act.tmps[48]?.getD undef = .slice (some ⟨gy, 0, none⟩) X0.length cy := hdep 4 (by kernel_rfl)
          have e5 : act.tmps[49]?.getD undef = .int .i64 (b : Int) := hdep 5 (by kernel_rfl)
          clear hdep hoff hI
          go_simp
          exact hQ _ (fun _ h1 _ => h1)
        · obtain rfl := Option.some.inj ho
          have e18 : act.tmps[61]?.getD undef = .pointer (some ⟨gy, b * 4, none⟩) := hdep 18 (by kernel_rfl)
          have e15 : act.tmps[59]?.getD undef = .agg #[.int .i64 Ya.nd.kind, .slice Ya.a1 Ya.nd.ints.length Ya.c1, .slice Ya.a2 Ya.nd.texts.length Ya.c2, .slice Ya.a3 Ya.nd.kids.length Ya.c3] := hdep 15 (by kernel_rfl)
          have e17 : ∃ Z : List Nx, (Z = Y.set a Yb ∨ Z = (Y.set a Yb).set b Ya) ∧ W.ownsRow w4.heap.size 40 4 (.slice (some ⟨gy, 0, none⟩) X0.length cy) X0.length (nxV Z) := hdep 17 (by kernel_rfl)
          clear hdep hoff
          obtain ⟨Z, hZ, hrow⟩ := e17
          have hZl : Z.length = X0.length := by rcases hZ with rfl | rfl <;> simp [HY5.out.2]
          have HZ : Hid (Z.set b Ya = (Y.set a Yb).set b Ya) := by rcases hZ with rfl | rfl; exact rfl; show List.set _ _ _ = _; rw [List.set_set]
          have HZ' : Hid (Z = Y.set a Yb ∨ Z = (Y.set a Yb).set b Ya) := hZ
          clear hI hZ
          obtain ⟨c0, c1, c2, c3, hgl, hfz⟩ := row_cells hrow (by rw [hZl]) b (by rw [hZl]; omega)
          have f0 := hfz (b * 4)
          have f1 := hfz (b * 4 + 1)
          have f2 := hfz (b * 4 + 2)
          have f3 := hfz (b * 4 + 3)
          have HR4 : Hid _ := row_setNx' hrow hZl b (by omega) Ya
          have HG : Hid (∀ v0 v1 v2 v3, Fr (fun b => b = gy) W0 ((((W.setCell ⟨gy, b * 4, none⟩ v0).setCell ⟨gy, b * 4 + 1, none⟩ v1).setCell ⟨gy, b * 4 + 2, none⟩ v2).setCell ⟨gy, b * 4 + 3, none⟩ v3)) := fun v0 v1 v2 v3 => (((hG.set ⟨gy, b * 4, none⟩ rfl v0).set ⟨gy, b * 4 + 1, none⟩ rfl v1).set ⟨gy, b * 4 + 2, none⟩ rfl v2).set ⟨gy, b * 4 + 3, none⟩ rfl v3
          have HO : Hid _ := hrow
          clear hrow hG hfz
          generalize Z.getD b noNx = M at *
          go_simp
          exact hK undef _ (HG.out _ _ _ _) (fun u _ h => by match u, h with | 0, h => exact sw_same (HYa.out) (HYb.out) (by omega) (by omega) HZ'.out HO.out h (HZ.out ▸ HR4.out) | _ + 1, _ => trivial) (fun j V hj hd h => by match j, h with | 17, _ => exact ⟨_, .inr HZ.out, HR4.out⟩ | 0, h | 1, h | 2, h | 3, h | 4, h | 5, h | 6, h | 7, h | 8, h | 9, h | 10, h | 11, h | 12, h | 13, h | 14, h | 15, h | 16, h | 18, h => exact h | 19, _ => exact absurd rfl hj | _ + 20, _ => trivial) (fun _ _ _ => by show World.ownsRow _ _ _ _ _ _ _; rw [← HZ.out]; exact HR4.out)
        · exact absurd ho (by simp)
      case fin =>
        intro V W hG hF
        have hR2 : W.ownsRow w4.heap.size 40 4 (.slice (some ⟨gy, 0, none⟩) X0.length cy) X0.length (nxV ((Y.set a Yb).set b Ya)) := hF 19 _ rfl
        have H7 : Hid _ := Hsw.out W hG hR2
        clear hF hG hR2 Hsw s0
        simp only [fillA, Act.put, List.setIfInBounds_toArray, List.set_cons_zero, List.set_cons_succ]
        generalize V (some 44) = z44
        generalize V (some 45) = z45
        generalize V (some 46) = z46
        generalize V (some 47) = z47
        generalize V (some 48) = z48
        generalize V (some 49) = z49
        generalize V (some 50) = z50
        generalize V (some 51) = z51
        generalize V (some 52) = z52
        generalize V (some 53) = z53
        generalize V (some 54) = z54
        generalize V (some 55) = z55
        generalize V (some 56) = z56
        generalize V (some 57) = z57
        generalize V (some 58) = z58
        generalize V (some 59) = z59
        generalize V (some 60) = z60
        generalize V (some 61) = z61
        obtain ⟨hS7, hB7⟩ := H7.out
        obtain ⟨Y0, hY0⟩ : ∃ Y0, swN Y a b = Y0 := ⟨_, rfl⟩
        rw [hY0] at hS7
        have HY0 : Hid (Y0.length = X0.length ∧ ∀ j, j < X0.length → (Y0.getD j noNx).nd = (X0.getD (swp a b j) noNx).nd) := by
          rw [← hY0]
          refine ⟨by rw [swN_length]; exact HY5.out.2, fun j hj => ?_⟩
          rw [swN_at Y haY hbY]
          exact nds_at HY5.out.1 _ ((swp_per hal hbl).lt j hj)
        have HS7 : Hid (Swg W w4.heap.size w5.heap.size gy cy r0 Y0) := hS7
        have HB7 : Hid (Below w4.heap.size w4 W) := hB7
        have s0 : W.cell? ⟨w5.heap.size, 0, none⟩ = some (.slice (some ⟨gy, 0, none⟩) X0.length cy) := by rw [← HY0.out.1]; exact hS7.sc.cell 0
        clear H7 hS7 hB7 hY0 HYa HYb Hrow0
        go_wp2_with fail
        clear s0
        go_loopw [65] (fun iv wr => ∃ (i : Nat) (Z : List Nx), iv = .int .i64 i ∧ i ≤ X0.length ∧ Hid (Z.length = X0.length ∧ ∀ j, j < X0.length → (Z.getD j noNx).nd = if j < i then renNd (swZ a b) (X0.getD (swp a b j) noNx).nd else (X0.getD (swp a b j) noNx).nd) ∧ Hid (Swg wr w4.heap.size w5.heap.size gy cy r0 Z) ∧ Hid (Below w4.heap.size w4 wr)) (fun iv _ => X0.length - (intOf iv).toNat)
        case atStart => exact ⟨0, Y0, rfl, by omega, ⟨HY0.out.1, fun j hj => by rw [if_neg (by omega)]; exact HY0.out.2 j hj⟩, HS7, HB7⟩
        case round =>
          clear HS7 HB7 HY0
          obtain ⟨i, Z, rfl, hi, HZ, HSw, HBw⟩ := hrel
          by_cases hlt : i < X0.length
          · have hlt' : (i : Int) < X0.length := by omega
            obtain ⟨u, hu⟩ : ∃ u, u = wr := ⟨_, rfl⟩
            subst hu
            have hiZ : i < Z.length := by rw [HZ.out.1]; exact hlt
            obtain ⟨g', o', hgo, hgl, d0, d1, d2, d3⟩ := HSw.out.scAt.node hiZ
            simp only [Option.some.injEq, Addr.mk.injEq, and_true] at hgo
            obtain ⟨rfl, rfl⟩ := hgo
            rw [Nat.zero_add] at d0 d1 d2 d3
            have hpi : swp a b i < X0.length := (swp_per hal hbl).lt i hlt
            have hnd : (Z.getD i noNx).nd = (X0.getD (swp a b i) noNx).nd := by
              have := HZ.out.2 i hlt
              rwa [if_neg (by omega)] at this
            have hkl : (Z.getD i noNx).nd.kids.length ≤ 300 := by rw [hnd]; exact HSm.out.kids hpi
            have HPb : Hid (∀ j, j < (Z.getD i noNx).nd.kids.length → isPb X0.length ((Z.getD i noNx).nd.kids.getD j 0) = true) := by rw [hnd]; exact HR.out.2.1 _ hpi
            have HNx : Hid (∀ Z', Z' = Z.set i (kidNx (Z.getD i noNx) ((Z.getD i noNx).nd.kids.map (swZ a b))) → Z'.length = X0.length ∧ ∀ j, j < X0.length → (Z'.getD j noNx).nd = if j < i + 1 then renNd (swZ a b) (X0.getD (swp a b j) noNx).nd else (X0.getD (swp a b j) noNx).nd) := fun Z' hZ' => by
              subst hZ'
              refine ⟨by rw [List.length_set]; exact HZ.out.1, fun j hj => ?_⟩
              by_cases e : j = i
              · subst e
                rw [set_at Z j _ hiZ, if_pos (by omega), ← hnd]
                rfl
              · rw [set_off Z i j _ (fun x => e x.symm), HZ.out.2 j hj]
                by_cases h : j < i
                · rw [if_pos h, if_pos (by omega)]
                · rw [if_neg h, if_neg (by omega)]
            have HA1 : Hid (∀ W1 : World, W1 = u.alloc (.cells #[.int .i64 (Z.getD i noNx).nd.kind, .slice (Z.getD i noNx).a1 (Z.getD i noNx).nd.ints.length (Z.getD i noNx).c1, .slice (Z.getD i noNx).a2 (Z.getD i noNx).nd.texts.length (Z.getD i noNx).c2, .slice (Z.getD i noNx).a3 (Z.getD i noNx).nd.kids.length (Z.getD i noNx).c3] 40) → Swg W1 w4.heap.size w5.heap.size gy cy r0 (Z.set i (kidNx (Z.getD i noNx) (tkf (swZ a b) (Z.getD i noNx).nd.kids 0))) ∧ AtN 40 W1 u.heap.size #[.int .i64 (Z.getD i noNx).nd.kind, .slice (Z.getD i noNx).a1 (Z.getD i noNx).nd.ints.length (Z.getD i noNx).c1, .slice (Z.getD i noNx).a2 (Z.getD i noNx).nd.texts.length (Z.getD i noNx).c2, .slice (Z.getD i noNx).a3 (Z.getD i noNx).nd.kids.length (Z.getD i noNx).c3] ∧ Below w4.heap.size w4 W1) := by
              rintro _ rfl
              refine ⟨?_, AtN.new u 40 _, HBw.out.alloc HBw.out.size _⟩
              rw [tkf_zero, show kidNx (Z.getD i noNx) (Z.getD i noNx).nd.kids = Z.getD i noNx from rfl, show Z.set i (Z.getD i noNx) = Z by rw [List.getD_eq_getElem?_getD, List.getElem?_eq_getElem hiZ]; simp]
              exact HSw.out.below ((Below.refl u.heap.size u).alloc (Nat.le_refl _) _)
            obtain ⟨N, hN⟩ : ∃ N, Z.getD i noNx = N := ⟨_, rfl⟩
            have HN : Hid (Z.getD i noNx = N) := hN
            rw [hN] at d0 d1 d2 d3 hkl HPb HNx HA1
            have hul : w4.heap.size ≤ u.heap.size := HBw.out.size
            have hgtu : w5.heap.size < u.heap.size := HSw.out.sc.lt
            clear hN hnd HZ HSw HBw
            go_wp2_with fail
            obtain ⟨h1, h2, h3⟩ := HA1.out _ rfl
            have HL1 : Hid _ := And.intro h1 (And.intro h2 h3)
            have y3 := h2.cell 3
            clear HA1 h1 h2 h3 d0 d1 d2 d3 y3
            generalize u.alloc (.cells #[.int .i64 N.nd.kind, .slice N.a1 N.nd.ints.length N.c1, .slice N.a2 N.nd.texts.length N.c2, .slice N.a3 N.nd.kids.length N.c3] 40) = W1 at *
            go_loopw [72] (fun kv wr => ∃ k : Nat, kv = .int .i64 k ∧ k ≤ N.nd.kids.length ∧ Hid (Swg wr w4.heap.size w5.heap.size gy cy r0 (Z.set i (kidNx N (tkf (swZ a b) N.nd.kids k))) ∧ AtN 40 wr u.heap.size #[.int .i64 N.nd.kind, .slice N.a1 N.nd.ints.length N.c1, .slice N.a2 N.nd.texts.length N.c2, .slice N.a3 N.nd.kids.length N.c3] ∧ Below w4.heap.size w4 wr)) (fun kv _ => N.nd.kids.length - (intOf kv).toNat)
            case atStart => exact ⟨0, rfl, by omega, HL1⟩
            case round =>
              clear HL1
              obtain ⟨k, rfl, hk, HL1⟩ := hrel
              by_cases hkn : k < N.nd.kids.length
              · have hkn' : (k : Int) < N.nd.kids.length := by omega
                have hiS : i < (Z.set i (kidNx N (tkf (swZ a b) N.nd.kids k))).length := by rw [List.length_set]; exact hiZ
                obtain ⟨q3, h3⟩ : ∃ q3, N.a3 = some ⟨q3, 0, none⟩ := by
                  have ho := (HL1.out.1.each i hiS).k
                  rw [set_at Z i _ hiZ] at ho
                  obtain ⟨g, e, _⟩ := own_store9 ho k (by show k < (tkf (swZ a b) N.nd.kids k).length; rw [tkf_len (swZ a b) N.nd.kids k (by omega)]; exact hkn)
                  exact ⟨g, e⟩
                have key := Swg.put (Z := Z) (i := i) (k := k) (q3 := q3) (f := swZ a b) (by rw [HN.out]; exact HL1.out.1) hiZ (by rw [HN.out]; exact hkn) (by rw [HN.out]; exact h3)
                rw [HN.out] at key
                obtain ⟨e1, e2, e3, e4, e5, e6⟩ := key
                obtain ⟨kd, hkd, hkdn⟩ : ∃ kd : Nat, N.nd.kids.getD k 0 = (kd : Int) ∧ kd < X0.length := by
                  have := isPb_iff.1 (HPb.out k hkn)
                  exact ⟨(N.nd.kids.getD k 0).toNat, by omega, by omega⟩
                have y3 : wr.cell? ⟨u.heap.size, 3, none⟩ = some (.slice N.a3 N.nd.kids.length N.c3) := HL1.out.2.1.cell 3
                have hqu : q3 ≠ u.heap.size := by
                  have ho := (HL1.out.1.each i hiS).k
                  rw [set_at Z i _ hiZ] at ho
                  exact fun e => own_ne_at ho HL1.out.2.1 (by decide) q3 (by show (Value.slice N.a3 _ _).ownBlock = _; rw [h3]; rfl) e
                have HAu : Hid (∀ v, AtN 40 (wr.setCell ⟨q3, k, none⟩ v) u.heap.size #[.int .i64 N.nd.kind, .slice N.a1 N.nd.ints.length N.c1, .slice N.a2 N.nd.texts.length N.c2, .slice N.a3 N.nd.kids.length N.c3] ∧ Below w4.heap.size w4 (wr.setCell ⟨q3, k, none⟩ v)) := fun v => ⟨HL1.out.2.1.setOther _ hqu _, HL1.out.2.2.setCell (p := ⟨q3, k, none⟩) e4 _⟩
                rw [hkd] at e1 e6
                rw [h3] at y3 HAu
                rw [h3]
                by_cases hka : kd = a
                · subst hka
                  rw [swZ_a] at e6
                  by_cases hab : kd = b
                  · subst hab
                    have hz : (tkf (swZ kd kd) N.nd.kids (k + 1)).getD k 0 = (kd : Int) := by rw [← tkf_setI _ _ _ hkn, getD_set_self _ _ _ (by rw [tkf_len _ _ _ (by omega)]; exact hkn), hkd, swZ_a]
                    obtain ⟨f1, f2, f3, f4⟩ := Swg.again e6 hiZ (by rw [tkf_len _ _ _ (by omega)]; exact hkn) h3
                    rw [hz] at f1 f4
                    have HF4 : Hid _ := f4
                    have HA2 : Hid (∀ v v', AtN 40 ((wr.setCell ⟨q3, k, none⟩ v).setCell ⟨q3, k, none⟩ v') u.heap.size #[.int .i64 N.nd.kind, .slice N.a1 N.nd.ints.length N.c1, .slice N.a2 N.nd.texts.length N.c2, .slice N.a3 N.nd.kids.length N.c3] ∧ Below w4.heap.size w4 ((wr.setCell ⟨q3, k, none⟩ v).setCell ⟨q3, k, none⟩ v')) := fun v v' => ⟨by rw [h3]; exact (HAu.out v).1.setOther _ hqu _, (HAu.out v).2.setCell (p := ⟨q3, k, none⟩) e4 _⟩
                    rw [h3] at HA2
                    clear e6 f4 HL1 HAu hz
                    go_wp2_with fail
                    go_roundw
                    case rel => exact ⟨k + 1, by go_num, by omega, ⟨HF4.out, (HA2.out _ _).1, (HA2.out _ _).2⟩⟩
                    case measure => simp [intOf]; omega
                  · have hab' : ¬ (kd : Int) = b := by omega
                    have HF4 : Hid _ := e6
                    clear e6 HL1
                    go_wp2_with fail
                    go_roundw
                    case rel => exact ⟨k + 1, by go_num, by omega, ⟨HF4.out, (HAu.out _).1, (HAu.out _).2⟩⟩
                    case measure => simp [intOf]; omega
                · by_cases hkb : kd = b
                  · subst hkb
                    have hka' : ¬ (kd : Int) = a := by omega
                    rw [swZ_b] at e6
                    have HF4 : Hid _ := e6
                    clear e6 HL1
                    go_wp2_with fail
                    go_roundw
                    case rel => exact ⟨k + 1, by go_num, by omega, ⟨HF4.out, (HAu.out _).1, (HAu.out _).2⟩⟩
                    case measure => simp [intOf]; omega
                  · have hka' : ¬ (kd : Int) = a := by omega
                    have hkb' : ¬ (kd : Int) = b := by omega
                    have hsm := tkf_same (swZ a b) N.nd.kids k hkn (by rw [hkd]; exact swZ_other hka hkb)
                    have HF4 : Hid (Swg wr w4.heap.size w5.heap.size gy cy r0 (Z.set i (kidNx N (tkf (swZ a b) N.nd.kids (k + 1)))) ∧ AtN 40 wr u.heap.size #[.int .i64 N.nd.kind, .slice N.a1 N.nd.ints.length N.c1, .slice N.a2 N.nd.texts.length N.c2, .slice (some ⟨q3, 0, none⟩) N.nd.kids.length N.c3] ∧ Below w4.heap.size w4 wr) := by
                      rw [hsm, ← h3]
                      exact HL1.out
                    clear e6 HL1 hsm
                    go_wp2_with fail
                    go_roundw
                    case rel => exact ⟨k + 1, by go_num, by omega, HF4⟩
                    case measure => simp [intOf]; omega
              · have hkn' : ¬ (k : Int) < N.nd.kids.length := by omega
                have hke : k = N.nd.kids.length := by omega
                have HE : Hid (Swg wr w4.heap.size w5.heap.size gy cy r0 (Z.set i (kidNx N (N.nd.kids.map (swZ a b))))) := by
                  have := HL1.out.1
                  rw [hke, tkf_all] at this
                  exact this
                have HEb : Hid (Below w4.heap.size w4 wr) := HL1.out.2.2
                have HE2 : Hid _ := HNx.out _ rfl
                clear HL1 hke
                go_wp2_with fail
                go_roundw
                case rel =>
                  first
                    | exact ⟨i + 1, _, by go_num, by omega, HE2, HE, HEb⟩
                    | exact ⟨_, _, _, _, _, _, .int .i64 ((i : Int) + 1), ⟨i + 1, _, by simp, by omega, HE2, HE, HEb⟩, rfl, rfl, rfl, rfl, rfl, rfl, rfl⟩
                case measure => simp [intOf]; omega
          · have hlt' : ¬ (i : Int) < X0.length := by omega
            have HZl : Hid (Z.length = X0.length) := HZ.out.1
            have HRn : Hid (Ren X0 Z (swp a b)) := swap_ren hal hbl HZ.out.1 (fun j hj => by rw [HZ.out.2 j hj, if_pos (by omega)])
            clear HZ
            have HLw : Hid (Lw w wr a0 X0 c0 r0) := HL4.out.more HBw.out
            have hne : w5.heap.size ≠ w.heap.size := by
              have h1 := HL4.out.at_.lt
              have h2 := HSw.out.sc.lt
              have h3 := hw5
              omega
            have hr0 : isPb X0.length r0 = true := HR.out.1
            have hr1 := isPb_iff.1 hr0
            have p1 : wr.cell? ⟨w5.heap.size, 1, none⟩ = some (.int .i64 r0) := HSw.out.sc.cell 1
            have p2 : wr.frozen? ⟨w5.heap.size, 1, none⟩ = false := HSw.out.sc.fz 1
            have x0 := HLw.out.c0
            have x1 := HLw.out.c1
            have HRt : Hid (∀ v : Int, Swg (wr.setCell ⟨w5.heap.size, 1, none⟩ (.int .i64 v)) w4.heap.size w5.heap.size gy cy v Z ∧ Below w4.heap.size w4 (wr.setCell ⟨w5.heap.size, 1, none⟩ (.int .i64 v))) := fun v => ⟨HSw.out.root v, HBw.out.setCell (p := ⟨w5.heap.size, 1, none⟩) hw5 _⟩
            clear HLw hr0
            by_cases hra : r0 = (a : Int)
            · have HRa : Hid (r0 = (a : Int)) := hra
              rw [hra] at x1
              by_cases hab : a = b
              · subst hab
                have HSB : Hid (∀ W : World, W = ((wr.setCell ⟨w5.heap.size, 1, none⟩ (.int .i64 (a : Int))).setCell ⟨w5.heap.size, 1, none⟩ (.int .i64 (a : Int))) → Swg W w4.heap.size w5.heap.size gy cy (a : Int) Z ∧ Below w4.heap.size w4 W) := fun W hW => by
                  subst hW
                  exact ⟨(HRt.out _).1.root _, (HRt.out _).2.setCell (p := ⟨w5.heap.size, 1, none⟩) hw5 _⟩
                have q1 := (HRt.out (a : Int)).1.sc.cell 1
                have q2 := (HRt.out (a : Int)).1.sc.fz 1
                have Hrt : Hid ((a : Int) = (swp a a r0.toNat : Int)) := by
                  show _ = _
                  rw [hra]; simp [swp]
                clear hra HSw HBw HRt hr1
                go_wp2_with fail
                obtain ⟨h1, h2⟩ := HSB.out _ rfl
                clear HSB x0 x1 p1 p2 q1 q2 hne
                generalize ((wr.setCell ⟨w5.heap.size, 1, none⟩ (.int .i64 (a : Int))).setCell ⟨w5.heap.size, 1, none⟩ (.int .i64 (a : Int))) = wt at *
                obtain ⟨rt, hrt⟩ : ∃ rt : Int, rt = (a : Int) := ⟨_, rfl⟩
                rw [← hrt] at h1 Hrt
                clear hrt
                have HSt : Hid (Swg wt w4.heap.size w5.heap.size gy cy rt Z) := h1
                have HBt : Hid (Below w4.heap.size w4 wt) := h2
                clear h1 h2
                have HL8 : Hid (Lw w wt a0 X0 c0 r0) := HL4.out.more HBt.out
                have x0 := HL8.out.c0
                have x1 := HL8.out.c1
                have HC : Hid (Calls Try.prog 11 #[.agg #[.slice a0 X0.length c0, .int .i64 r0]] wt fun e w' => CanonOut X0 r0 wt w' e) := canon_any X0 a0 c0 r0 wt (HL8.out.sc HS.out) HSm.out
                rw [← HRa.out]
                refine Calls.mono HC.out ?_
                rintro e w9 ⟨hc, -, hb9⟩
                obtain ⟨P, ap, cp, rfl, hP, hsP⟩ := hc HR.out
                have HL9 : Hid (Lw w w9 a0 X0 c0 r0) := HL8.out.more hb9
                have HP : Hid (P.map Nx.nd = cX X0 r0 ∧ Small P) := ⟨hP, (can_ren HR.out hP).small HSm.out⟩
                have HW10 : Hid (∀ ob : Obj, ob = .cells #[.slice ap P.length cp, .int .i64 ((X0.length : Int) - 1)] 24 → ScAt (w9.alloc ob) (some ⟨gy, 0, none⟩) Z ∧ AtN 24 (w9.alloc ob) w9.heap.size #[.slice ap P.length cp, .int .i64 ((X0.length : Int) - 1)] ∧ ScAt (w9.alloc ob) ap P ∧ Lw w (w9.alloc ob) a0 X0 c0 r0) := by
                  rintro _ rfl
                  exact ⟨(HSt.out.scAt.belowB hb9).alloc _, AtN.new w9 24 _, hsP.alloc _, HL9.out.more ((Below.refl w9.heap.size w9).alloc (Nat.le_refl _) _)⟩
                have y0 : ∀ ob, (w9.alloc ob).cell? ⟨w5.heap.size, 0, none⟩ = some (.slice (some ⟨gy, 0, none⟩) X0.length cy) := fun ob => by rw [← HZl.out]; exact ((HSt.out.sc.belowAll hb9).alloc ob).cell 0
                have y1 : ∀ ob, (w9.alloc ob).cell? ⟨w5.heap.size, 1, none⟩ = some (.int .i64 rt) := fun ob => ((HSt.out.sc.belowAll hb9).alloc ob).cell 1
                clear HC HL8 HL9 HSt HBt hb9 hc hP hsP x0 x1
                go_wp2_with fail
                obtain ⟨hs10, hc10, hp10, hl10⟩ := HW10.out _ rfl
                have hcan := canon_any Z (some ⟨gy, 0, none⟩) cy rt _ hs10 (HRn.out.small HSm.out)
                rw [HZl.out] at hcan
                refine Calls.mono hcan ?_
                rintro e w11 ⟨hc1, -, hb11⟩
                have hRZ : RightIs Z rt := by rw [Hrt.out]; exact HRn.out.right HR.out
                obtain ⟨Q, aq, cq, rfl, hQ, hsQ⟩ := hc1 hRZ
                rw [HZl.out]
                have HQ : Hid (Q.map Nx.nd = cX X0 r0) := by
                  show _ = _
                  rw [hQ, Hrt.out, HRn.out.can HR.out]
                have HW11 : Hid (AtN 24 w11 w9.heap.size #[.slice ap P.length cp, .int .i64 ((X0.length : Int) - 1)] ∧ ScAt w11 ap P ∧ Lw w w11 a0 X0 c0 r0) := ⟨hc10.belowAll hb11, hp10.belowB hb11, hl10.more hb11⟩
                have HW12 : Hid (∀ ob : Obj, ob = .cells #[.slice aq Q.length cq, .int .i64 ((X0.length : Int) - 1)] 24 → AtN 24 (w11.alloc ob) w9.heap.size #[.slice ap P.length cp, .int .i64 ((X0.length : Int) - 1)] ∧ ScAt (w11.alloc ob) ap P ∧ AtN 24 (w11.alloc ob) w11.heap.size #[.slice aq Q.length cq, .int .i64 ((X0.length : Int) - 1)] ∧ ScAt (w11.alloc ob) aq Q ∧ Lw w (w11.alloc ob) a0 X0 c0 r0) := by
                  rintro _ rfl
                  exact ⟨HW11.out.1.alloc _, HW11.out.2.1.alloc _, AtN.new w11 24 _, hsQ.alloc _, HW11.out.2.2.more ((Below.refl w11.heap.size w11).alloc (Nat.le_refl _) _)⟩
                have x0 : ∀ ob, (w11.alloc ob).cell? ⟨w.heap.size, 0, none⟩ = some (.slice a0 X0.length c0) := fun ob => (HW11.out.2.2.at_.alloc ob).cell 0
                have x1 : ∀ ob, (w11.alloc ob).cell? ⟨w.heap.size, 1, none⟩ = some (.int .i64 r0) := fun ob => (HW11.out.2.2.at_.alloc ob).cell 1
                clear hcan HW10 hs10 hc10 hp10 hl10 hb11 y0 y1 hc1 hQ hsQ hRZ HW11
                go_wp2_with fail
                obtain ⟨k1, k2, k3, k4, k5⟩ := HW12.out _ rfl
                refine (sturn_any X0 a0 c0 r0 _ (k5.sc HS.out) HSm.out).mono ?_
                rintro e w13 ⟨T, aT, cT, rfl, hTl, hTn, hs13, hb13⟩
                obtain ⟨hTr, hTroot⟩ := turn_ren HSm.out HR.out hTl hTn
                have HTr : Hid (Ren X0 T (fun i => X0.length - 1 - i)) := hTr
                obtain ⟨rT, hrT⟩ : ∃ rT, trn X0.length r0 = rT := ⟨_, rfl⟩
                rw [hrT] at hTroot ⊢
                have HrT : Hid (rT = ((X0.length - 1 - r0.toNat : Nat) : Int)) := hTroot
                have HW13 : Hid (AtN 24 w13 w9.heap.size #[.slice ap P.length cp, .int .i64 ((X0.length : Int) - 1)] ∧ ScAt w13 ap P ∧ AtN 24 w13 w11.heap.size #[.slice aq Q.length cq, .int .i64 ((X0.length : Int) - 1)] ∧ ScAt w13 aq Q ∧ Lw w w13 a0 X0 c0 r0) := ⟨k1.belowAll hb13, k2.belowB hb13, k3.belowAll hb13, k4.belowB hb13, k5.more hb13⟩
                have HCt : Hid (Calls Try.prog 11 #[.agg #[.slice aT T.length cT, .int .i64 rT]] w13 fun e w' => CanonOut T rT w13 w' e) := canon_any T aT cT rT w13 hs13 (HTr.out.small HSm.out)
                have HTl : Hid (T.length = X0.length) := hTl
                clear HW12 k1 k2 k3 k4 k5 hTl hTn hs13 hb13 hTr hTroot hrT x0 x1
                go_wp2_with fail
                refine Calls.mono HCt.out ?_
                rintro e w14 ⟨hc2, -, hb14⟩
                obtain ⟨R, aR, cR, rfl, hRn, hsR⟩ := hc2 (by rw [HrT.out]; exact HTr.out.right HR.out)
                rw [HTl.out]
                have HRc : Hid (R.map Nx.nd = cX X0 r0) := by
                  show _ = _
                  rw [hRn, HrT.out]
                  exact HTr.out.can HR.out
                have HW15 : Hid (∀ ob : Obj, ob = .cells #[.slice aR R.length cR, .int .i64 ((X0.length : Int) - 1)] 24 → AtN 24 (w14.alloc ob) w9.heap.size #[.slice ap P.length cp, .int .i64 ((X0.length : Int) - 1)] ∧ ScAt (w14.alloc ob) ap P ∧ AtN 24 (w14.alloc ob) w11.heap.size #[.slice aq Q.length cq, .int .i64 ((X0.length : Int) - 1)] ∧ ScAt (w14.alloc ob) aq Q ∧ AtN 24 (w14.alloc ob) w14.heap.size #[.slice aR R.length cR, .int .i64 ((X0.length : Int) - 1)] ∧ ScAt (w14.alloc ob) aR R ∧ Below w.heap.size w (w14.alloc ob)) := by
                  rintro _ rfl
                  exact ⟨(HW13.out.1.belowAll hb14).alloc _, (HW13.out.2.1.belowB hb14).alloc _, (HW13.out.2.2.1.belowAll hb14).alloc _, (HW13.out.2.2.2.1.belowB hb14).alloc _, AtN.new w14 24 _, hsR.alloc _, (HW13.out.2.2.2.2.more hb14).bel.alloc (Nat.le_trans HW13.out.2.2.2.2.bel.size hb14.size) _⟩
                have u0 : ∀ ob, (w14.alloc ob).cell? ⟨w9.heap.size, 0, none⟩ = some (.slice ap P.length cp) := fun ob => ((HW13.out.1.belowAll hb14).alloc ob).cell 0
                have u1 : ∀ ob, (w14.alloc ob).cell? ⟨w9.heap.size, 1, none⟩ = some (.int .i64 ((X0.length : Int) - 1)) := fun ob => ((HW13.out.1.belowAll hb14).alloc ob).cell 1
                have v0 : ∀ ob, (w14.alloc ob).cell? ⟨w11.heap.size, 0, none⟩ = some (.slice aq Q.length cq) := fun ob => ((HW13.out.2.2.1.belowAll hb14).alloc ob).cell 0
                have v1 : ∀ ob, (w14.alloc ob).cell? ⟨w11.heap.size, 1, none⟩ = some (.int .i64 ((X0.length : Int) - 1)) := fun ob => ((HW13.out.2.2.1.belowAll hb14).alloc ob).cell 1
                clear HCt HW13 hb14 hc2 hRn hsR
                go_wp2_with fail
                obtain ⟨m1, m2, m3, m4, m5, m6, m7⟩ := HW15.out _ rfl
                refine (ssame_yes P Q ap aq cp cq ((X0.length : Int) - 1) _ m2 m4 HP.out.2 (by rw [HQ.out, HP.out.1])).mono ?_
                rintro e w16 ⟨rfl, hb16⟩
                have n1 := m1.belowAll hb16
                have n5 := m5.belowAll hb16
                have HW16 : Hid (ScAt w16 ap P ∧ ScAt w16 aR R ∧ Below w.heap.size w w16) := ⟨m2.belowB hb16, m6.belowB hb16, m7.trans (hb16.mono m7.size)⟩
                clear HW15 m1 m2 m3 m4 m5 m6 m7 hb16 u0 u1 v0 v1
                have u0 : w16.cell? ⟨w9.heap.size, 0, none⟩ = some (.slice ap P.length cp) := n1.cell 0
                have u1 : w16.cell? ⟨w9.heap.size, 1, none⟩ = some (.int .i64 ((X0.length : Int) - 1)) := n1.cell 1
                have v0 : w16.cell? ⟨w14.heap.size, 0, none⟩ = some (.slice aR R.length cR) := n5.cell 0
                have v1 : w16.cell? ⟨w14.heap.size, 1, none⟩ = some (.int .i64 ((X0.length : Int) - 1)) := n5.cell 1
                clear n1 n5
                go_wp2_with fail
                refine (ssame_yes P R ap aR cp cR ((X0.length : Int) - 1) _ HW16.out.1 HW16.out.2.1 HP.out.2 (by rw [HRc.out, HP.out.1])).mono ?_
                rintro e w17 ⟨rfl, hb17⟩
                have HB : Hid (Below w.heap.size w w17) := HW16.out.2.2.trans (hb17.mono HW16.out.2.2.size)
                clear HW16 hb17 u0 u1 v0 v1
                go_wp2_with fail
                go_ret
                exact ⟨rfl, HB.out⟩
              · have hab' : ¬ (a : Int) = b := by omega
                have HSB : Hid (∀ W : World, W = (wr.setCell ⟨w5.heap.size, 1, none⟩ (.int .i64 (b : Int))) → Swg W w4.heap.size w5.heap.size gy cy (b : Int) Z ∧ Below w4.heap.size w4 W) := fun W hW => by
                  subst hW
                  exact HRt.out _
                have Hrt : Hid ((b : Int) = (swp a b r0.toNat : Int)) := by
                  show _ = _
                  rw [hra]; simp [swp]
                clear hra HSw HBw HRt hr1
                go_wp2_with fail
                obtain ⟨h1, h2⟩ := HSB.out _ rfl
                clear HSB x0 x1 p1 p2 hne hab hab'
                generalize (wr.setCell ⟨w5.heap.size, 1, none⟩ (.int .i64 (b : Int))) = wt at *
                obtain ⟨rt, hrt⟩ : ∃ rt : Int, rt = (b : Int) := ⟨_, rfl⟩
                rw [← hrt] at h1 Hrt
                clear hrt
                have HSt : Hid (Swg wt w4.heap.size w5.heap.size gy cy rt Z) := h1
                have HBt : Hid (Below w4.heap.size w4 wt) := h2
                clear h1 h2
                have HL8 : Hid (Lw w wt a0 X0 c0 r0) := HL4.out.more HBt.out
                have x0 := HL8.out.c0
                have x1 := HL8.out.c1
                have HC : Hid (Calls Try.prog 11 #[.agg #[.slice a0 X0.length c0, .int .i64 r0]] wt fun e w' => CanonOut X0 r0 wt w' e) := canon_any X0 a0 c0 r0 wt (HL8.out.sc HS.out) HSm.out
                rw [← HRa.out]
                refine Calls.mono HC.out ?_
                rintro e w9 ⟨hc, -, hb9⟩
                obtain ⟨P, ap, cp, rfl, hP, hsP⟩ := hc HR.out
                have HL9 : Hid (Lw w w9 a0 X0 c0 r0) := HL8.out.more hb9
                have HP : Hid (P.map Nx.nd = cX X0 r0 ∧ Small P) := ⟨hP, (can_ren HR.out hP).small HSm.out⟩
                have HW10 : Hid (∀ ob : Obj, ob = .cells #[.slice ap P.length cp, .int .i64 ((X0.length : Int) - 1)] 24 → ScAt (w9.alloc ob) (some ⟨gy, 0, none⟩) Z ∧ AtN 24 (w9.alloc ob) w9.heap.size #[.slice ap P.length cp, .int .i64 ((X0.length : Int) - 1)] ∧ ScAt (w9.alloc ob) ap P ∧ Lw w (w9.alloc ob) a0 X0 c0 r0) := by
                  rintro _ rfl
                  exact ⟨(HSt.out.scAt.belowB hb9).alloc _, AtN.new w9 24 _, hsP.alloc _, HL9.out.more ((Below.refl w9.heap.size w9).alloc (Nat.le_refl _) _)⟩
                have y0 : ∀ ob, (w9.alloc ob).cell? ⟨w5.heap.size, 0, none⟩ = some (.slice (some ⟨gy, 0, none⟩) X0.length cy) := fun ob => by rw [← HZl.out]; exact ((HSt.out.sc.belowAll hb9).alloc ob).cell 0
                have y1 : ∀ ob, (w9.alloc ob).cell? ⟨w5.heap.size, 1, none⟩ = some (.int .i64 rt) := fun ob => ((HSt.out.sc.belowAll hb9).alloc ob).cell 1
                clear HC HL8 HL9 HSt HBt hb9 hc hP hsP x0 x1
                go_wp2_with fail
                obtain ⟨hs10, hc10, hp10, hl10⟩ := HW10.out _ rfl
                have hcan := canon_any Z (some ⟨gy, 0, none⟩) cy rt _ hs10 (HRn.out.small HSm.out)
                rw [HZl.out] at hcan
                refine Calls.mono hcan ?_
                rintro e w11 ⟨hc1, -, hb11⟩
                have hRZ : RightIs Z rt := by rw [Hrt.out]; exact HRn.out.right HR.out
                obtain ⟨Q, aq, cq, rfl, hQ, hsQ⟩ := hc1 hRZ
                rw [HZl.out]
                have HQ : Hid (Q.map Nx.nd = cX X0 r0) := by
                  show _ = _
                  rw [hQ, Hrt.out, HRn.out.can HR.out]
                have HW11 : Hid (AtN 24 w11 w9.heap.size #[.slice ap P.length cp, .int .i64 ((X0.length : Int) - 1)] ∧ ScAt w11 ap P ∧ Lw w w11 a0 X0 c0 r0) := ⟨hc10.belowAll hb11, hp10.belowB hb11, hl10.more hb11⟩
                have HW12 : Hid (∀ ob : Obj, ob = .cells #[.slice aq Q.length cq, .int .i64 ((X0.length : Int) - 1)] 24 → AtN 24 (w11.alloc ob) w9.heap.size #[.slice ap P.length cp, .int .i64 ((X0.length : Int) - 1)] ∧ ScAt (w11.alloc ob) ap P ∧ AtN 24 (w11.alloc ob) w11.heap.size #[.slice aq Q.length cq, .int .i64 ((X0.length : Int) - 1)] ∧ ScAt (w11.alloc ob) aq Q ∧ Lw w (w11.alloc ob) a0 X0 c0 r0) := by
                  rintro _ rfl
                  exact ⟨HW11.out.1.alloc _, HW11.out.2.1.alloc _, AtN.new w11 24 _, hsQ.alloc _, HW11.out.2.2.more ((Below.refl w11.heap.size w11).alloc (Nat.le_refl _) _)⟩
                have x0 : ∀ ob, (w11.alloc ob).cell? ⟨w.heap.size, 0, none⟩ = some (.slice a0 X0.length c0) := fun ob => (HW11.out.2.2.at_.alloc ob).cell 0
                have x1 : ∀ ob, (w11.alloc ob).cell? ⟨w.heap.size, 1, none⟩ = some (.int .i64 r0) := fun ob => (HW11.out.2.2.at_.alloc ob).cell 1
                clear hcan HW10 hs10 hc10 hp10 hl10 hb11 y0 y1 hc1 hQ hsQ hRZ HW11
                go_wp2_with fail
                obtain ⟨k1, k2, k3, k4, k5⟩ := HW12.out _ rfl
                refine (sturn_any X0 a0 c0 r0 _ (k5.sc HS.out) HSm.out).mono ?_
                rintro e w13 ⟨T, aT, cT, rfl, hTl, hTn, hs13, hb13⟩
                obtain ⟨hTr, hTroot⟩ := turn_ren HSm.out HR.out hTl hTn
                have HTr : Hid (Ren X0 T (fun i => X0.length - 1 - i)) := hTr
                obtain ⟨rT, hrT⟩ : ∃ rT, trn X0.length r0 = rT := ⟨_, rfl⟩
                rw [hrT] at hTroot ⊢
                have HrT : Hid (rT = ((X0.length - 1 - r0.toNat : Nat) : Int)) := hTroot
                have HW13 : Hid (AtN 24 w13 w9.heap.size #[.slice ap P.length cp, .int .i64 ((X0.length : Int) - 1)] ∧ ScAt w13 ap P ∧ AtN 24 w13 w11.heap.size #[.slice aq Q.length cq, .int .i64 ((X0.length : Int) - 1)] ∧ ScAt w13 aq Q ∧ Lw w w13 a0 X0 c0 r0) := ⟨k1.belowAll hb13, k2.belowB hb13, k3.belowAll hb13, k4.belowB hb13, k5.more hb13⟩
                have HCt : Hid (Calls Try.prog 11 #[.agg #[.slice aT T.length cT, .int .i64 rT]] w13 fun e w' => CanonOut T rT w13 w' e) := canon_any T aT cT rT w13 hs13 (HTr.out.small HSm.out)
                have HTl : Hid (T.length = X0.length) := hTl
                clear HW12 k1 k2 k3 k4 k5 hTl hTn hs13 hb13 hTr hTroot hrT x0 x1
                go_wp2_with fail
                refine Calls.mono HCt.out ?_
                rintro e w14 ⟨hc2, -, hb14⟩
                obtain ⟨R, aR, cR, rfl, hRn, hsR⟩ := hc2 (by rw [HrT.out]; exact HTr.out.right HR.out)
                rw [HTl.out]
                have HRc : Hid (R.map Nx.nd = cX X0 r0) := by
                  show _ = _
                  rw [hRn, HrT.out]
                  exact HTr.out.can HR.out
                have HW15 : Hid (∀ ob : Obj, ob = .cells #[.slice aR R.length cR, .int .i64 ((X0.length : Int) - 1)] 24 → AtN 24 (w14.alloc ob) w9.heap.size #[.slice ap P.length cp, .int .i64 ((X0.length : Int) - 1)] ∧ ScAt (w14.alloc ob) ap P ∧ AtN 24 (w14.alloc ob) w11.heap.size #[.slice aq Q.length cq, .int .i64 ((X0.length : Int) - 1)] ∧ ScAt (w14.alloc ob) aq Q ∧ AtN 24 (w14.alloc ob) w14.heap.size #[.slice aR R.length cR, .int .i64 ((X0.length : Int) - 1)] ∧ ScAt (w14.alloc ob) aR R ∧ Below w.heap.size w (w14.alloc ob)) := by
                  rintro _ rfl
                  exact ⟨(HW13.out.1.belowAll hb14).alloc _, (HW13.out.2.1.belowB hb14).alloc _, (HW13.out.2.2.1.belowAll hb14).alloc _, (HW13.out.2.2.2.1.belowB hb14).alloc _, AtN.new w14 24 _, hsR.alloc _, (HW13.out.2.2.2.2.more hb14).bel.alloc (Nat.le_trans HW13.out.2.2.2.2.bel.size hb14.size) _⟩
                have u0 : ∀ ob, (w14.alloc ob).cell? ⟨w9.heap.size, 0, none⟩ = some (.slice ap P.length cp) := fun ob => ((HW13.out.1.belowAll hb14).alloc ob).cell 0
                have u1 : ∀ ob, (w14.alloc ob).cell? ⟨w9.heap.size, 1, none⟩ = some (.int .i64 ((X0.length : Int) - 1)) := fun ob => ((HW13.out.1.belowAll hb14).alloc ob).cell 1
                have v0 : ∀ ob, (w14.alloc ob).cell? ⟨w11.heap.size, 0, none⟩ = some (.slice aq Q.length cq) := fun ob => ((HW13.out.2.2.1.belowAll hb14).alloc ob).cell 0
                have v1 : ∀ ob, (w14.alloc ob).cell? ⟨w11.heap.size, 1, none⟩ = some (.int .i64 ((X0.length : Int) - 1)) := fun ob => ((HW13.out.2.2.1.belowAll hb14).alloc ob).cell 1
                clear HCt HW13 hb14 hc2 hRn hsR
                go_wp2_with fail
                obtain ⟨m1, m2, m3, m4, m5, m6, m7⟩ := HW15.out _ rfl
                refine (ssame_yes P Q ap aq cp cq ((X0.length : Int) - 1) _ m2 m4 HP.out.2 (by rw [HQ.out, HP.out.1])).mono ?_
                rintro e w16 ⟨rfl, hb16⟩
                have n1 := m1.belowAll hb16
                have n5 := m5.belowAll hb16
                have HW16 : Hid (ScAt w16 ap P ∧ ScAt w16 aR R ∧ Below w.heap.size w w16) := ⟨m2.belowB hb16, m6.belowB hb16, m7.trans (hb16.mono m7.size)⟩
                clear HW15 m1 m2 m3 m4 m5 m6 m7 hb16 u0 u1 v0 v1
                have u0 : w16.cell? ⟨w9.heap.size, 0, none⟩ = some (.slice ap P.length cp) := n1.cell 0
                have u1 : w16.cell? ⟨w9.heap.size, 1, none⟩ = some (.int .i64 ((X0.length : Int) - 1)) := n1.cell 1
                have v0 : w16.cell? ⟨w14.heap.size, 0, none⟩ = some (.slice aR R.length cR) := n5.cell 0
                have v1 : w16.cell? ⟨w14.heap.size, 1, none⟩ = some (.int .i64 ((X0.length : Int) - 1)) := n5.cell 1
                clear n1 n5
                go_wp2_with fail
                refine (ssame_yes P R ap aR cp cR ((X0.length : Int) - 1) _ HW16.out.1 HW16.out.2.1 HP.out.2 (by rw [HRc.out, HP.out.1])).mono ?_
                rintro e w17 ⟨rfl, hb17⟩
                have HB : Hid (Below w.heap.size w w17) := HW16.out.2.2.trans (hb17.mono HW16.out.2.2.size)
                clear HW16 hb17 u0 u1 v0 v1
                go_wp2_with fail
                go_ret
                exact ⟨rfl, HB.out⟩
            · by_cases hrb : r0 = (b : Int)
              · have HRa : Hid (r0 = (b : Int)) := hrb
                rw [hrb] at x1
                have hab' : ¬ (b : Int) = a := by omega
                have HSB : Hid (∀ W : World, W = (wr.setCell ⟨w5.heap.size, 1, none⟩ (.int .i64 (a : Int))) → Swg W w4.heap.size w5.heap.size gy cy (a : Int) Z ∧ Below w4.heap.size w4 W) := fun W hW => by
                  subst hW
                  exact HRt.out _
                have Hrt : Hid ((a : Int) = (swp a b r0.toNat : Int)) := by
                  show _ = _
                  rw [hrb]
                  exact (swZ_b (a := a) (b := b)).symm
                clear hra hrb HSw HBw HRt hr1
                go_wp2_with fail
                obtain ⟨h1, h2⟩ := HSB.out _ rfl
                clear HSB x0 x1 p1 p2 hne hab'
                generalize (wr.setCell ⟨w5.heap.size, 1, none⟩ (.int .i64 (a : Int))) = wt at *
                obtain ⟨rt, hrt⟩ : ∃ rt : Int, rt = (a : Int) := ⟨_, rfl⟩
                rw [← hrt] at h1 Hrt
                clear hrt
                have HSt : Hid (Swg wt w4.heap.size w5.heap.size gy cy rt Z) := h1
                have HBt : Hid (Below w4.heap.size w4 wt) := h2
                clear h1 h2
                have HL8 : Hid (Lw w wt a0 X0 c0 r0) := HL4.out.more HBt.out
                have x0 := HL8.out.c0
                have x1 := HL8.out.c1
                have HC : Hid (Calls Try.prog 11 #[.agg #[.slice a0 X0.length c0, .int .i64 r0]] wt fun e w' => CanonOut X0 r0 wt w' e) := canon_any X0 a0 c0 r0 wt (HL8.out.sc HS.out) HSm.out
                rw [← HRa.out]
                refine Calls.mono HC.out ?_
                rintro e w9 ⟨hc, -, hb9⟩
                obtain ⟨P, ap, cp, rfl, hP, hsP⟩ := hc HR.out
                have HL9 : Hid (Lw w w9 a0 X0 c0 r0) := HL8.out.more hb9
                have HP : Hid (P.map Nx.nd = cX X0 r0 ∧ Small P) := ⟨hP, (can_ren HR.out hP).small HSm.out⟩
                have HW10 : Hid (∀ ob : Obj, ob = .cells #[.slice ap P.length cp, .int .i64 ((X0.length : Int) - 1)] 24 → ScAt (w9.alloc ob) (some ⟨gy, 0, none⟩) Z ∧ AtN 24 (w9.alloc ob) w9.heap.size #[.slice ap P.length cp, .int .i64 ((X0.length : Int) - 1)] ∧ ScAt (w9.alloc ob) ap P ∧ Lw w (w9.alloc ob) a0 X0 c0 r0) := by
                  rintro _ rfl
                  exact ⟨(HSt.out.scAt.belowB hb9).alloc _, AtN.new w9 24 _, hsP.alloc _, HL9.out.more ((Below.refl w9.heap.size w9).alloc (Nat.le_refl _) _)⟩
                have y0 : ∀ ob, (w9.alloc ob).cell? ⟨w5.heap.size, 0, none⟩ = some (.slice (some ⟨gy, 0, none⟩) X0.length cy) := fun ob => by rw [← HZl.out]; exact ((HSt.out.sc.belowAll hb9).alloc ob).cell 0
                have y1 : ∀ ob, (w9.alloc ob).cell? ⟨w5.heap.size, 1, none⟩ = some (.int .i64 rt) := fun ob => ((HSt.out.sc.belowAll hb9).alloc ob).cell 1
                clear HC HL8 HL9 HSt HBt hb9 hc hP hsP x0 x1
                go_wp2_with fail
                obtain ⟨hs10, hc10, hp10, hl10⟩ := HW10.out _ rfl
                have hcan := canon_any Z (some ⟨gy, 0, none⟩) cy rt _ hs10 (HRn.out.small HSm.out)
                rw [HZl.out] at hcan
                refine Calls.mono hcan ?_
                rintro e w11 ⟨hc1, -, hb11⟩
                have hRZ : RightIs Z rt := by rw [Hrt.out]; exact HRn.out.right HR.out
                obtain ⟨Q, aq, cq, rfl, hQ, hsQ⟩ := hc1 hRZ
                rw [HZl.out]
                have HQ : Hid (Q.map Nx.nd = cX X0 r0) := by
                  show _ = _
                  rw [hQ, Hrt.out, HRn.out.can HR.out]
                have HW11 : Hid (AtN 24 w11 w9.heap.size #[.slice ap P.length cp, .int .i64 ((X0.length : Int) - 1)] ∧ ScAt w11 ap P ∧ Lw w w11 a0 X0 c0 r0) := ⟨hc10.belowAll hb11, hp10.belowB hb11, hl10.more hb11⟩
                have HW12 : Hid (∀ ob : Obj, ob = .cells #[.slice aq Q.length cq, .int .i64 ((X0.length : Int) - 1)] 24 → AtN 24 (w11.alloc ob) w9.heap.size #[.slice ap P.length cp, .int .i64 ((X0.length : Int) - 1)] ∧ ScAt (w11.alloc ob) ap P ∧ AtN 24 (w11.alloc ob) w11.heap.size #[.slice aq Q.length cq, .int .i64 ((X0.length : Int) - 1)] ∧ ScAt (w11.alloc ob) aq Q ∧ Lw w (w11.alloc ob) a0 X0 c0 r0) := by
                  rintro _ rfl
                  exact ⟨HW11.out.1.alloc _, HW11.out.2.1.alloc _, AtN.new w11 24 _, hsQ.alloc _, HW11.out.2.2.more ((Below.refl w11.heap.size w11).alloc (Nat.le_refl _) _)⟩
                have x0 : ∀ ob, (w11.alloc ob).cell? ⟨w.heap.size, 0, none⟩ = some (.slice a0 X0.length c0) := fun ob => (HW11.out.2.2.at_.alloc ob).cell 0
                have x1 : ∀ ob, (w11.alloc ob).cell? ⟨w.heap.size, 1, none⟩ = some (.int .i64 r0) := fun ob => (HW11.out.2.2.at_.alloc ob).cell 1
                clear hcan HW10 hs10 hc10 hp10 hl10 hb11 y0 y1 hc1 hQ hsQ hRZ HW11
                go_wp2_with fail
                obtain ⟨k1, k2, k3, k4, k5⟩ := HW12.out _ rfl
                refine (sturn_any X0 a0 c0 r0 _ (k5.sc HS.out) HSm.out).mono ?_
                rintro e w13 ⟨T, aT, cT, rfl, hTl, hTn, hs13, hb13⟩
                obtain ⟨hTr, hTroot⟩ := turn_ren HSm.out HR.out hTl hTn
                have HTr : Hid (Ren X0 T (fun i => X0.length - 1 - i)) := hTr
                obtain ⟨rT, hrT⟩ : ∃ rT, trn X0.length r0 = rT := ⟨_, rfl⟩
                rw [hrT] at hTroot ⊢
                have HrT : Hid (rT = ((X0.length - 1 - r0.toNat : Nat) : Int)) := hTroot
                have HW13 : Hid (AtN 24 w13 w9.heap.size #[.slice ap P.length cp, .int .i64 ((X0.length : Int) - 1)] ∧ ScAt w13 ap P ∧ AtN 24 w13 w11.heap.size #[.slice aq Q.length cq, .int .i64 ((X0.length : Int) - 1)] ∧ ScAt w13 aq Q ∧ Lw w w13 a0 X0 c0 r0) := ⟨k1.belowAll hb13, k2.belowB hb13, k3.belowAll hb13, k4.belowB hb13, k5.more hb13⟩
                have HCt : Hid (Calls Try.prog 11 #[.agg #[.slice aT T.length cT, .int .i64 rT]] w13 fun e w' => CanonOut T rT w13 w' e) := canon_any T aT cT rT w13 hs13 (HTr.out.small HSm.out)
                have HTl : Hid (T.length = X0.length) := hTl
                clear HW12 k1 k2 k3 k4 k5 hTl hTn hs13 hb13 hTr hTroot hrT x0 x1
                go_wp2_with fail
                refine Calls.mono HCt.out ?_
                rintro e w14 ⟨hc2, -, hb14⟩
                obtain ⟨R, aR, cR, rfl, hRn, hsR⟩ := hc2 (by rw [HrT.out]; exact HTr.out.right HR.out)
                rw [HTl.out]
                have HRc : Hid (R.map Nx.nd = cX X0 r0) := by
                  show _ = _
                  rw [hRn, HrT.out]
                  exact HTr.out.can HR.out
                have HW15 : Hid (∀ ob : Obj, ob = .cells #[.slice aR R.length cR, .int .i64 ((X0.length : Int) - 1)] 24 → AtN 24 (w14.alloc ob) w9.heap.size #[.slice ap P.length cp, .int .i64 ((X0.length : Int) - 1)] ∧ ScAt (w14.alloc ob) ap P ∧ AtN 24 (w14.alloc ob) w11.heap.size #[.slice aq Q.length cq, .int .i64 ((X0.length : Int) - 1)] ∧ ScAt (w14.alloc ob) aq Q ∧ AtN 24 (w14.alloc ob) w14.heap.size #[.slice aR R.length cR, .int .i64 ((X0.length : Int) - 1)] ∧ ScAt (w14.alloc ob) aR R ∧ Below w.heap.size w (w14.alloc ob)) := by
                  rintro _ rfl
                  exact ⟨(HW13.out.1.belowAll hb14).alloc _, (HW13.out.2.1.belowB hb14).alloc _, (HW13.out.2.2.1.belowAll hb14).alloc _, (HW13.out.2.2.2.1.belowB hb14).alloc _, AtN.new w14 24 _, hsR.alloc _, (HW13.out.2.2.2.2.more hb14).bel.alloc (Nat.le_trans HW13.out.2.2.2.2.bel.size hb14.size) _⟩
                have u0 : ∀ ob, (w14.alloc ob).cell? ⟨w9.heap.size, 0, none⟩ = some (.slice ap P.length cp) := fun ob => ((HW13.out.1.belowAll hb14).alloc ob).cell 0
                have u1 : ∀ ob, (w14.alloc ob).cell? ⟨w9.heap.size, 1, none⟩ = some (.int .i64 ((X0.length : Int) - 1)) := fun ob => ((HW13.out.1.belowAll hb14).alloc ob).cell 1
                have v0 : ∀ ob, (w14.alloc ob).cell? ⟨w11.heap.size, 0, none⟩ = some (.slice aq Q.length cq) := fun ob => ((HW13.out.2.2.1.belowAll hb14).alloc ob).cell 0
                have v1 : ∀ ob, (w14.alloc ob).cell? ⟨w11.heap.size, 1, none⟩ = some (.int .i64 ((X0.length : Int) - 1)) := fun ob => ((HW13.out.2.2.1.belowAll hb14).alloc ob).cell 1
                clear HCt HW13 hb14 hc2 hRn hsR
                go_wp2_with fail
                obtain ⟨m1, m2, m3, m4, m5, m6, m7⟩ := HW15.out _ rfl
                refine (ssame_yes P Q ap aq cp cq ((X0.length : Int) - 1) _ m2 m4 HP.out.2 (by rw [HQ.out, HP.out.1])).mono ?_
                rintro e w16 ⟨rfl, hb16⟩
                have n1 := m1.belowAll hb16
                have n5 := m5.belowAll hb16
                have HW16 : Hid (ScAt w16 ap P ∧ ScAt w16 aR R ∧ Below w.heap.size w w16) := ⟨m2.belowB hb16, m6.belowB hb16, m7.trans (hb16.mono m7.size)⟩
                clear HW15 m1 m2 m3 m4 m5 m6 m7 hb16 u0 u1 v0 v1
                have u0 : w16.cell? ⟨w9.heap.size, 0, none⟩ = some (.slice ap P.length cp) := n1.cell 0
                have u1 : w16.cell? ⟨w9.heap.size, 1, none⟩ = some (.int .i64 ((X0.length : Int) - 1)) := n1.cell 1
                have v0 : w16.cell? ⟨w14.heap.size, 0, none⟩ = some (.slice aR R.length cR) := n5.cell 0
                have v1 : w16.cell? ⟨w14.heap.size, 1, none⟩ = some (.int .i64 ((X0.length : Int) - 1)) := n5.cell 1
                clear n1 n5
                go_wp2_with fail
                refine (ssame_yes P R ap aR cp cR ((X0.length : Int) - 1) _ HW16.out.1 HW16.out.2.1 HP.out.2 (by rw [HRc.out, HP.out.1])).mono ?_
                rintro e w17 ⟨rfl, hb17⟩
                have HB : Hid (Below w.heap.size w w17) := HW16.out.2.2.trans (hb17.mono HW16.out.2.2.size)
                clear HW16 hb17 u0 u1 v0 v1
                go_wp2_with fail
                go_ret
                exact ⟨rfl, HB.out⟩
              · obtain ⟨rt, hrt⟩ : ∃ rt : Int, rt = r0 := ⟨_, rfl⟩
                have Hrt : Hid (rt = (swp a b r0.toNat : Int)) := by
                  show _ = _
                  have := swZ_other (a := a) (b := b) (k := r0.toNat) (by omega) (by omega)
                  rw [Int.toNat_of_nonneg hr1.1] at this
                  rw [hrt]
                  exact this.symm
                have HSt : Hid (Swg wr w4.heap.size w5.heap.size gy cy rt Z) := by rw [hrt]; exact HSw
                have HBt : Hid (Below w4.heap.size w4 wr) := HBw
                clear hrt HSw HBw HRt hr1 p1 p2
                go_wp2_with fail
                clear x0 x1 hne hra hrb
                generalize wr = wt at *
                have HL8 : Hid (Lw w wt a0 X0 c0 r0) := HL4.out.more HBt.out
                have x0 := HL8.out.c0
                have x1 := HL8.out.c1
                have HC : Hid (Calls Try.prog 11 #[.agg #[.slice a0 X0.length c0, .int .i64 r0]] wt fun e w' => CanonOut X0 r0 wt w' e) := canon_any X0 a0 c0 r0 wt (HL8.out.sc HS.out) HSm.out
                refine Calls.mono HC.out ?_
                rintro e w9 ⟨hc, -, hb9⟩
                obtain ⟨P, ap, cp, rfl, hP, hsP⟩ := hc HR.out
                have HL9 : Hid (Lw w w9 a0 X0 c0 r0) := HL8.out.more hb9
                have HP : Hid (P.map Nx.nd = cX X0 r0 ∧ Small P) := ⟨hP, (can_ren HR.out hP).small HSm.out⟩
                have HW10 : Hid (∀ ob : Obj, ob = .cells #[.slice ap P.length cp, .int .i64 ((X0.length : Int) - 1)] 24 → ScAt (w9.alloc ob) (some ⟨gy, 0, none⟩) Z ∧ AtN 24 (w9.alloc ob) w9.heap.size #[.slice ap P.length cp, .int .i64 ((X0.length : Int) - 1)] ∧ ScAt (w9.alloc ob) ap P ∧ Lw w (w9.alloc ob) a0 X0 c0 r0) := by
                  rintro _ rfl
                  exact ⟨(HSt.out.scAt.belowB hb9).alloc _, AtN.new w9 24 _, hsP.alloc _, HL9.out.more ((Below.refl w9.heap.size w9).alloc (Nat.le_refl _) _)⟩
                have y0 : ∀ ob, (w9.alloc ob).cell? ⟨w5.heap.size, 0, none⟩ = some (.slice (some ⟨gy, 0, none⟩) X0.length cy) := fun ob => by rw [← HZl.out]; exact ((HSt.out.sc.belowAll hb9).alloc ob).cell 0
                have y1 : ∀ ob, (w9.alloc ob).cell? ⟨w5.heap.size, 1, none⟩ = some (.int .i64 rt) := fun ob => ((HSt.out.sc.belowAll hb9).alloc ob).cell 1
                clear HC HL8 HL9 HSt HBt hb9 hc hP hsP x0 x1
                go_wp2_with fail
                obtain ⟨hs10, hc10, hp10, hl10⟩ := HW10.out _ rfl
                have hcan := canon_any Z (some ⟨gy, 0, none⟩) cy rt _ hs10 (HRn.out.small HSm.out)
                rw [HZl.out] at hcan
                refine Calls.mono hcan ?_
                rintro e w11 ⟨hc1, -, hb11⟩
                have hRZ : RightIs Z rt := by rw [Hrt.out]; exact HRn.out.right HR.out
                obtain ⟨Q, aq, cq, rfl, hQ, hsQ⟩ := hc1 hRZ
                rw [HZl.out]
                have HQ : Hid (Q.map Nx.nd = cX X0 r0) := by
                  show _ = _
                  rw [hQ, Hrt.out, HRn.out.can HR.out]
                have HW11 : Hid (AtN 24 w11 w9.heap.size #[.slice ap P.length cp, .int .i64 ((X0.length : Int) - 1)] ∧ ScAt w11 ap P ∧ Lw w w11 a0 X0 c0 r0) := ⟨hc10.belowAll hb11, hp10.belowB hb11, hl10.more hb11⟩
                have HW12 : Hid (∀ ob : Obj, ob = .cells #[.slice aq Q.length cq, .int .i64 ((X0.length : Int) - 1)] 24 → AtN 24 (w11.alloc ob) w9.heap.size #[.slice ap P.length cp, .int .i64 ((X0.length : Int) - 1)] ∧ ScAt (w11.alloc ob) ap P ∧ AtN 24 (w11.alloc ob) w11.heap.size #[.slice aq Q.length cq, .int .i64 ((X0.length : Int) - 1)] ∧ ScAt (w11.alloc ob) aq Q ∧ Lw w (w11.alloc ob) a0 X0 c0 r0) := by
                  rintro _ rfl
                  exact ⟨HW11.out.1.alloc _, HW11.out.2.1.alloc _, AtN.new w11 24 _, hsQ.alloc _, HW11.out.2.2.more ((Below.refl w11.heap.size w11).alloc (Nat.le_refl _) _)⟩
                have x0 : ∀ ob, (w11.alloc ob).cell? ⟨w.heap.size, 0, none⟩ = some (.slice a0 X0.length c0) := fun ob => (HW11.out.2.2.at_.alloc ob).cell 0
                have x1 : ∀ ob, (w11.alloc ob).cell? ⟨w.heap.size, 1, none⟩ = some (.int .i64 r0) := fun ob => (HW11.out.2.2.at_.alloc ob).cell 1
                clear hcan HW10 hs10 hc10 hp10 hl10 hb11 y0 y1 hc1 hQ hsQ hRZ HW11
                go_wp2_with fail
                obtain ⟨k1, k2, k3, k4, k5⟩ := HW12.out _ rfl
                refine (sturn_any X0 a0 c0 r0 _ (k5.sc HS.out) HSm.out).mono ?_
                rintro e w13 ⟨T, aT, cT, rfl, hTl, hTn, hs13, hb13⟩
                obtain ⟨hTr, hTroot⟩ := turn_ren HSm.out HR.out hTl hTn
                have HTr : Hid (Ren X0 T (fun i => X0.length - 1 - i)) := hTr
                obtain ⟨rT, hrT⟩ : ∃ rT, trn X0.length r0 = rT := ⟨_, rfl⟩
                rw [hrT] at hTroot ⊢
                have HrT : Hid (rT = ((X0.length - 1 - r0.toNat : Nat) : Int)) := hTroot
                have HW13 : Hid (AtN 24 w13 w9.heap.size #[.slice ap P.length cp, .int .i64 ((X0.length : Int) - 1)] ∧ ScAt w13 ap P ∧ AtN 24 w13 w11.heap.size #[.slice aq Q.length cq, .int .i64 ((X0.length : Int) - 1)] ∧ ScAt w13 aq Q ∧ Lw w w13 a0 X0 c0 r0) := ⟨k1.belowAll hb13, k2.belowB hb13, k3.belowAll hb13, k4.belowB hb13, k5.more hb13⟩
                have HCt : Hid (Calls Try.prog 11 #[.agg #[.slice aT T.length cT, .int .i64 rT]] w13 fun e w' => CanonOut T rT w13 w' e) := canon_any T aT cT rT w13 hs13 (HTr.out.small HSm.out)
                have HTl : Hid (T.length = X0.length) := hTl
                clear HW12 k1 k2 k3 k4 k5 hTl hTn hs13 hb13 hTr hTroot hrT x0 x1
                go_wp2_with fail
                refine Calls.mono HCt.out ?_
                rintro e w14 ⟨hc2, -, hb14⟩
                obtain ⟨R, aR, cR, rfl, hRn, hsR⟩ := hc2 (by rw [HrT.out]; exact HTr.out.right HR.out)
                rw [HTl.out]
                have HRc : Hid (R.map Nx.nd = cX X0 r0) := by
                  show _ = _
                  rw [hRn, HrT.out]
                  exact HTr.out.can HR.out
                have HW15 : Hid (∀ ob : Obj, ob = .cells #[.slice aR R.length cR, .int .i64 ((X0.length : Int) - 1)] 24 → AtN 24 (w14.alloc ob) w9.heap.size #[.slice ap P.length cp, .int .i64 ((X0.length : Int) - 1)] ∧ ScAt (w14.alloc ob) ap P ∧ AtN 24 (w14.alloc ob) w11.heap.size #[.slice aq Q.length cq, .int .i64 ((X0.length : Int) - 1)] ∧ ScAt (w14.alloc ob) aq Q ∧ AtN 24 (w14.alloc ob) w14.heap.size #[.slice aR R.length cR, .int .i64 ((X0.length : Int) - 1)] ∧ ScAt (w14.alloc ob) aR R ∧ Below w.heap.size w (w14.alloc ob)) := by
                  rintro _ rfl
                  exact ⟨(HW13.out.1.belowAll hb14).alloc _, (HW13.out.2.1.belowB hb14).alloc _, (HW13.out.2.2.1.belowAll hb14).alloc _, (HW13.out.2.2.2.1.belowB hb14).alloc _, AtN.new w14 24 _, hsR.alloc _, (HW13.out.2.2.2.2.more hb14).bel.alloc (Nat.le_trans HW13.out.2.2.2.2.bel.size hb14.size) _⟩
                have u0 : ∀ ob, (w14.alloc ob).cell? ⟨w9.heap.size, 0, none⟩ = some (.slice ap P.length cp) := fun ob => ((HW13.out.1.belowAll hb14).alloc ob).cell 0
                have u1 : ∀ ob, (w14.alloc ob).cell? ⟨w9.heap.size, 1, none⟩ = some (.int .i64 ((X0.length : Int) - 1)) := fun ob => ((HW13.out.1.belowAll hb14).alloc ob).cell 1
                have v0 : ∀ ob, (w14.alloc ob).cell? ⟨w11.heap.size, 0, none⟩ = some (.slice aq Q.length cq) := fun ob => ((HW13.out.2.2.1.belowAll hb14).alloc ob).cell 0
                have v1 : ∀ ob, (w14.alloc ob).cell? ⟨w11.heap.size, 1, none⟩ = some (.int .i64 ((X0.length : Int) - 1)) := fun ob => ((HW13.out.2.2.1.belowAll hb14).alloc ob).cell 1
                clear HCt HW13 hb14 hc2 hRn hsR
                go_wp2_with fail
                obtain ⟨m1, m2, m3, m4, m5, m6, m7⟩ := HW15.out _ rfl
                refine (ssame_yes P Q ap aq cp cq ((X0.length : Int) - 1) _ m2 m4 HP.out.2 (by rw [HQ.out, HP.out.1])).mono ?_
                rintro e w16 ⟨rfl, hb16⟩
                have n1 := m1.belowAll hb16
                have n5 := m5.belowAll hb16
                have HW16 : Hid (ScAt w16 ap P ∧ ScAt w16 aR R ∧ Below w.heap.size w w16) := ⟨m2.belowB hb16, m6.belowB hb16, m7.trans (hb16.mono m7.size)⟩
                clear HW15 m1 m2 m3 m4 m5 m6 m7 hb16 u0 u1 v0 v1
                have u0 : w16.cell? ⟨w9.heap.size, 0, none⟩ = some (.slice ap P.length cp) := n1.cell 0
                have u1 : w16.cell? ⟨w9.heap.size, 1, none⟩ = some (.int .i64 ((X0.length : Int) - 1)) := n1.cell 1
                have v0 : w16.cell? ⟨w14.heap.size, 0, none⟩ = some (.slice aR R.length cR) := n5.cell 0
                have v1 : w16.cell? ⟨w14.heap.size, 1, none⟩ = some (.int .i64 ((X0.length : Int) - 1)) := n5.cell 1
                clear n1 n5
                go_wp2_with fail
                refine (ssame_yes P R ap aR cp cR ((X0.length : Int) - 1) _ HW16.out.1 HW16.out.2.1 HP.out.2 (by rw [HRc.out, HP.out.1])).mono ?_
                rintro e w17 ⟨rfl, hb17⟩
                have HB : Hid (Below w.heap.size w w17) := HW16.out.2.2.trans (hb17.mono HW16.out.2.2.size)
                clear HW16 hb17 u0 u1 v0 v1
                go_wp2_with fail
                go_ret
                exact ⟨rfl, HB.out⟩

set_option maxRecDepth 100000 in
theorem lifted (os : Os) (started : os.Started) (H : Type) (enc : TypeId × Value → H) :
    ReturnsInHanded {} Try.checked os 6 .any (Rows.canonTurnedSpec.pre6 enc Try.prog Try.f6 Rows.canonTurnedRow.domain false) (Rows.canonTurnedSpec.post enc Try.prog Try.f6 false true false false) := by
  refine returnsInHanded_of_change (C := Try.checked) own started (by kernel_rfl) Try.func6
    (ChangeSpec.witness6 (enc := enc) (C := Try.checked) false ⟨#[], #[.agg #[.slice none 0 0, .int .i64 0], .int .i64 0, .int .i64 0], []⟩ 8 (by kernel_rfl) (by kernel_rfl) (by kernel_rfl) (by kernel_rfl)) ?_
  intro W base args ds gs before hval0 hW hcnd _
  have hval : ∀ (j : Nat) t v, Try.f6.params[j]? = some t → args[j]? = some v → Value.okWide Try.prog W .any base t v := hval0
  have hW' := hW
  obtain ⟨p, q, hA0, hV, rfl, hfz, hnd⟩ := hW
  have hA : DataW.TrodAll enc Try.prog W 0 (fun _ => true) true Try.f6.params.toList args.toList ds p := hA0
  rw [Try.params6] at hA hval
  obtain ⟨v0, vs0, d0, ds0, p0, q0, hargs, rfl, rfl, h0, r0⟩ := trodAll_cons hA
  obtain ⟨v1, vs1, d1, ds1, p1, q1, rfl, rfl, rfl, h1, r1⟩ := trodAll_cons r0
  obtain ⟨v2, vs2, d2, ds2, p2, q2, rfl, rfl, rfl, h2, r2⟩ := trodAll_cons r1
  obtain ⟨rfl, rfl, rfl⟩ := trodAll_nil r2
  obtain rfl : args = #[v0, v1, v2] := by cases args; simp_all
  obtain ⟨rfl, rfl⟩ := trodVars_none hV
  have K0 := h0
  have lt0 : ∀ x ∈ p0, x.block < W.heap.size := by obtain ⟨m, hm⟩ := K0; exact DataW.trod_lt m _ _ _ hm
  obtain ⟨X0, a0, c0, rt0, rfl, w0⟩ := open_scene Try.underlying24 (by kernel_rfl) (by kernel_rfl) Try.underlying22 Try.underlying3 Try.underlying40 (by kernel_rfl) rfl rfl rfl rfl (by kernel_rfl) (by kernel_rfl) (by kernel_rfl) (by kernel_rfl) Try.underlying3 Try.underlying37 Try.underlying38 Try.underlying31 Try.underlying2 Try.underlying9 Try.underlying3 (by kernel_rfl) (by kernel_rfl) (by kernel_rfl) (hval 0 24 v0 rfl rfl) h0
  obtain ⟨a1, rfl, rfl, rfl, w1⟩ := open_int Try.underlying3 (hval 1 3 v1 rfl rfl) h1
  obtain ⟨a2, rfl, rfl, rfl, w2⟩ := open_int Try.underlying3 (hval 2 3 v2 rfl rfl) h2
  clear hA0 hval0
  refine (walk X0 a0 c0 rt0 a1 a2 W w0 w1 w2).mono fun e W' ⟨he, bel⟩ => ?_
  subst he
  exact ⟨_, rfl, _, _, _, [], _, [], hW', trodAll_mk1 (shut_bool Try.underlying4 _), (trodAll_cons_mk (Below.trod laidOut (by kernel_rfl) (of_decide_eq_true (by kernel_rfl)) K0 bel lt0) (trodAll_cons_mk (shut_int Try.underlying3 w1) (trodAll_cons_mk (shut_int Try.underlying3 w2) trodAll_mk0))), rfl, bel.frame _, fun h => by cases h⟩

theorem over : Rows.canonTurnedRow.holds Try.pinned (OpenSpec.ofChange Rows.canonTurnedSpec) :=
  OpenClaim.holds_of_wide 6 Try.f6 rfl rfl rfl rfl rfl rfl rfl ⟨rfl, rfl, rfl, rfl, rfl⟩ rfl rfl rfl rfl rfl (by kernel_rfl) Try.func6 (by kernel_rfl)
    (of_decide_eq_true (by kernel_rfl)) (by unfold Func.isWrapper; first | (rw [if_pos (by decide +kernel)]; kernel_rfl) | (rw [if_neg (by decide +kernel)]; exact ⟨rfl, rfl⟩))
    (fun os started H enc _ => lifted os started H enc)

end Go.Proofs.Ytnmdkbeicggfhaa.canonTurned

namespace Go.Proofs.Ytnmdkbeicggfhaa
theorem canonTurned_holds : Rows.CanonTurnedSaid := canonTurned.over
#print axioms canonTurned_holds
end Go.Proofs.Ytnmdkbeicggfhaa
