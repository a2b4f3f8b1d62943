/- The contracts of ref's Own, Same, SameSets and Great. -/
import Derived.Test.YtaochgndednamaaDoorFDiff2
import Derived.Laws.StructEq
namespace Go.Proofs.YtaochgndednamaaDoor
open Go.RowKit

/-- Have two nodes the same fields? -/
def own8 (A B : Nd) : Bool := cmp A B && decide (dL A B = [])

theorem list_len {α : Type} (L : List α) : decide ((L.length : Int) = 0) = decide (L.length = 0) := by
  by_cases h : L.length = 0 <;> simp [h]

set_option maxRecDepth 10000 in
set_option maxHeartbeats 400000 in
theorem own_any (A B : Nd) (a1 a2 a3 b1 b2 b3 : Option Addr) (c1 c2 c3 d1 d2 d3 : Nat) (w : World) (hA : NdAt w A a1 a2 a3) (hB : NdAt w B b1 b2 b3) (h1 : A.ints.length ≤ 100) (h2 : A.texts.length ≤ 100) :
    Calls Tryd.prog 19 #[.agg #[.int .i64 A.kind, .slice a1 A.ints.length c1, .slice a2 A.texts.length c2, .slice a3 A.kids.length c3], .agg #[.int .i64 B.kind, .slice b1 B.ints.length d1, .slice b2 B.texts.length d2, .slice b3 B.kids.length d3]] w fun e w' => e = .returned (.bool (cmp A B && decide ((dL A B).length = 0))) ∧ Below w.heap.size w w' := by
  have H : Hid _ := fun (W : World) (h : Below w.heap.size w W) => rdiff_any A B a1 a2 a3 b1 b2 b3 c1 c2 c3 d1 d2 d3 W (hA.belowB h) (hB.belowB h) h1 h2
  have hb := fun (o p : Obj) => ((Below.refl w.heap.size w).alloc (Nat.le_refl _) o).alloc (by simp) p
  have HB : Hid _ := hb
  clear hA hB hb
  generalize dL A B = L at *
  generalize cmp A B = b at *
  cases b
  · rw [Bool.false_and]
    go_enter Tryd.func19, Tryd.ntmps19
    go_wp2_with fail
    refine (H.out _ (HB.out _ _)).mono ?_
    rintro e w1 ⟨a, c, rfl, -, hb1⟩
    have HB1 : Hid _ := (HB.out (.cells #[.int .i64 A.kind, .slice a1 A.ints.length c1, .slice a2 A.texts.length c2, .slice a3 A.kids.length c3] 26) (.cells #[.int .i64 B.kind, .slice b1 B.ints.length d1, .slice b2 B.texts.length d2, .slice b3 B.kids.length d3] 26)).trans (hb1.mono (by simp; omega))
    clear hb1 HB H
    go_wp2_with fail
    go_ret
    exact ⟨rfl, HB1.out⟩
  · rw [Bool.true_and]
    by_cases hl : L.length = 0
    · rw [decide_eq_true hl]
      have hl' : (L.length : Int) = 0 := by omega
      go_enter Tryd.func19, Tryd.ntmps19
      go_wp2_with fail
      refine (H.out _ (HB.out _ _)).mono ?_
      rintro e w1 ⟨a, c, rfl, -, hb1⟩
      have HB1 : Hid _ := (HB.out (.cells #[.int .i64 A.kind, .slice a1 A.ints.length c1, .slice a2 A.texts.length c2, .slice a3 A.kids.length c3] 26) (.cells #[.int .i64 B.kind, .slice b1 B.ints.length d1, .slice b2 B.texts.length d2, .slice b3 B.kids.length d3] 26)).trans (hb1.mono (by simp; omega))
      clear hb1 HB H
      go_wp2_with fail
      go_ret
      exact ⟨by simp, HB1.out⟩
    · rw [decide_eq_false hl]
      have hl' : ¬ (L.length : Int) = 0 := by omega
      go_enter Tryd.func19, Tryd.ntmps19
      go_wp2_with fail
      refine (H.out _ (HB.out _ _)).mono ?_
      rintro e w1 ⟨a, c, rfl, -, hb1⟩
      have HB1 : Hid _ := (HB.out (.cells #[.int .i64 A.kind, .slice a1 A.ints.length c1, .slice a2 A.texts.length c2, .slice a3 A.kids.length c3] 26) (.cells #[.int .i64 B.kind, .slice b1 B.ints.length d1, .slice b2 B.texts.length d2, .slice b3 B.kids.length d3] 26)).trans (hb1.mono (by simp; omega))
      clear hb1 HB H
      go_wp2_with fail
      go_ret
      exact ⟨by simp_all, HB1.out⟩

theorem dI_same (a : List Int) (k : Nat) : dI a a k = [] := by
  induction k with
  | zero => rfl
  | succ k ih => simp [dI, ih]
theorem dT_same (a : List ByteArray) (k : Nat) : dT a a k = [] := by
  induction k with
  | zero => rfl
  | succ k ih => simp [dT, ih]
theorem own_same (A B : Nd) (h1 : A.kind = B.kind) (h2 : A.ints = B.ints) (h3 : A.texts = B.texts) : (cmp A B && decide ((dL A B).length = 0)) = true := by
  have hc : cmp A B = true := by unfold cmp; rw [decide_eq_true_eq]; exact ⟨h1, by rw [h2], by rw [h3]⟩
  rw [hc, show dL A B = [] by unfold dL; rw [hc]; simp only [if_true, DL, h2, h3, dI_same, dT_same]; rfl]
  rfl

set_option maxRecDepth 10000 in
set_option maxHeartbeats 400000 in
/-- Two nodes that are the same. -/
theorem same8_yes (A : Nd) (a1 a2 a3 b1 b2 b3 : Option Addr) (c1 c2 c3 d1 d2 d3 : Nat) (w : World) (hA : NdAt w A a1 a2 a3) (hB : NdAt w A b1 b2 b3) (h1 : A.ints.length ≤ 100) (h2 : A.texts.length ≤ 100) (h3 : A.kids.length ≤ 300) :
    Calls Tryd.prog 15 #[.agg #[.int .i64 A.kind, .slice a1 A.ints.length c1, .slice a2 A.texts.length c2, .slice a3 A.kids.length c3], .agg #[.int .i64 A.kind, .slice b1 A.ints.length d1, .slice b2 A.texts.length d2, .slice b3 A.kids.length d3]] w fun e w' => e = .returned (.bool true) ∧ Below w.heap.size w w' := by
  have H : Hid (∀ (W : World) (h : Below w.heap.size w W), Calls Tryd.prog 19 #[.agg #[.int .i64 A.kind, .slice a1 A.ints.length c1, .slice a2 A.texts.length c2, .slice a3 A.kids.length c3], .agg #[.int .i64 A.kind, .slice b1 A.ints.length d1, .slice b2 A.texts.length d2, .slice b3 A.kids.length d3]] W fun e w' => e = .returned (.bool true) ∧ Below W.heap.size W w') := fun W h => by
    have := own_any A A a1 a2 a3 b1 b2 b3 c1 c2 c3 d1 d2 d3 W (hA.belowB h) (hB.belowB h) h1 h2
    rw [own_same A A rfl rfl rfl] at this
    exact this
  have HB : Hid _ := fun (o p : Obj) => ((Below.refl w.heap.size w).alloc (Nat.le_refl _) o).alloc (by simp) p
  have HA1 : Hid _ := hA.k
  have HA2 : Hid _ := hB.k
  clear hA hB
  go_enter Tryd.func15, Tryd.ntmps15
  go_wp2_with fail
  refine (H.out _ (HB.out _ _)).mono ?_
  rintro e w1 ⟨rfl, hb1⟩
  have n1 := ((AtN.new w 26 #[.int .i64 A.kind, .slice a1 A.ints.length c1, .slice a2 A.texts.length c2, .slice a3 A.kids.length c3]).alloc (.cells #[.int .i64 A.kind, .slice b1 A.ints.length d1, .slice b2 A.texts.length d2, .slice b3 A.kids.length d3] 26)).belowAll hb1
  have n2 := (mk_at (AtN.new (w.alloc (.cells #[.int .i64 A.kind, .slice a1 A.ints.length c1, .slice a2 A.texts.length c2, .slice a3 A.kids.length c3] 26)) 26 #[.int .i64 A.kind, .slice b1 A.ints.length d1, .slice b2 A.texts.length d2, .slice b3 A.kids.length d3]) (show _ = w.heap.size + 1 by simp)).belowAll hb1
  have B1 := (HB.out (.cells #[.int .i64 A.kind, .slice a1 A.ints.length c1, .slice a2 A.texts.length c2, .slice a3 A.kids.length c3] 26) (.cells #[.int .i64 A.kind, .slice b1 A.ints.length d1, .slice b2 A.texts.length d2, .slice b3 A.kids.length d3] 26)).trans (hb1.mono (by simp; omega))
  have x3 : w1.cell? ⟨w.heap.size, 3, none⟩ = some (.slice a3 A.kids.length c3) := n1.cell 3
  have y3 : w1.cell? ⟨w.heap.size + 1, 3, none⟩ = some (.slice b3 A.kids.length d3) := n2.cell 3
  have HN : Hid _ := And.intro n1 (And.intro n2 B1)
  clear n1 n2 B1 hb1 HB H
  go_wp2_with fail
  go_loopw [5] (fun iv wr => ∃ (i : Nat), iv = .int .i64 i ∧ i ≤ A.kids.length ∧ Below w.heap.size w wr ∧ AtN 26 wr w.heap.size #[.int .i64 A.kind, .slice a1 A.ints.length c1, .slice a2 A.texts.length c2, .slice a3 A.kids.length c3] ∧ AtN 26 wr (w.heap.size + 1) #[.int .i64 A.kind, .slice b1 A.ints.length d1, .slice b2 A.texts.length d2, .slice b3 A.kids.length d3]) (fun iv _ => A.kids.length - (intOf iv).toNat)
  case atStart => exact ⟨0, rfl, by omega, HN.out.2.2, HN.out.1, HN.out.2.1⟩
  case round =>
    clear HN x3 y3
    obtain ⟨i, rfl, hi, hB, n1, n2⟩ := hrel
    have x3 : wr.cell? ⟨w.heap.size, 3, none⟩ = some (.slice a3 A.kids.length c3) := n1.cell 3
    have y3 : wr.cell? ⟨w.heap.size + 1, 3, none⟩ = some (.slice b3 A.kids.length d3) := n2.cell 3
    by_cases hlt : i < A.kids.length
    · have hlt' : (i : Int) < A.kids.length := by omega
      obtain ⟨ga, oa, rfl, la, da⟩ := (LsAt.belowB HA1.out hB).at (iV_at A.kids i hlt)
      obtain ⟨gb, ob, rfl, lb, db⟩ := (LsAt.belowB HA2.out hB).at (iV_at A.kids i hlt)
      generalize A.kids.getD i 0 = z at *
      have HN : Hid _ := And.intro n1 (And.intro n2 hB)
      clear n1 n2 hB HA1 HA2
      go_wp2_with fail
      go_quiet (fail)
      go_wp2_with fail
      go_roundw
      case rel => exact ⟨i + 1, by go_num, by omega, dn_below HN.out.2.2 _, HN.out.1, HN.out.2.1⟩
      case measure => simp [intOf]; omega
    · have hlt' : ¬ (i : Int) < A.kids.length := by omega
      have HN : Hid _ := hB
      clear hB n1 n2
      go_wp2_with fail
      go_ret
      exact ⟨rfl, HN.out⟩

theorem neq_set (W : World) (t : Bool) (f n : Int) (q : ByteArray) : (binOp .neq 51 (.agg #[.bool t, .int .i64 f, .int .i64 n, .string q]) (.agg #[.bool t, .int .i64 f, .int .i64 n, .string q])).run Tryd.prog W = .ok (.bool false) W := by
  have hs := run_equalIn_struct (P := Tryd.prog) W 9999 51 #[.bool t, .int .i64 f, .int .i64 n, .string q] #[.bool t, .int .i64 f, .int .i64 n, .string q] (by kernel_rfl) (by kernel_rfl)
  have p0 : (part 4 #[.bool t, .int .i64 f, .int .i64 n, .string q] 0).run Tryd.prog W = .ok (.bool t) W := by kernel_rfl
  have p1 : (part 3 #[.bool t, .int .i64 f, .int .i64 n, .string q] 1).run Tryd.prog W = .ok (.int .i64 f) W := by kernel_rfl
  have p2 : (part 2 #[.bool t, .int .i64 f, .int .i64 n, .string q] 2).run Tryd.prog W = .ok (.int .i64 n) W := by kernel_rfl
  have p3 : (part 9 #[.bool t, .int .i64 f, .int .i64 n, .string q] 3).run Tryd.prog W = .ok (.string q) W := by kernel_rfl
  have e0 : (Op.equalIn 9999 4 (.bool t) (.bool t)).run Tryd.prog W = .ok (t == t) W := run_equalIn_bool (P := Tryd.prog) W 9998 4 t t Tryd.underlying4
  have e1 : (Op.equalIn 9999 3 (.int .i64 f) (.int .i64 f)).run Tryd.prog W = .ok (f == f) W := run_equalIn_int (P := Tryd.prog) W 9998 3 .i64 .i64 f f Tryd.underlying3
  have e2 : (Op.equalIn 9999 2 (.int .i64 n) (.int .i64 n)).run Tryd.prog W = .ok (n == n) W := run_equalIn_int (P := Tryd.prog) W 9998 2 .i64 .i64 n n Tryd.underlying2
  have e3 : (Op.equalIn 9999 9 (.string q) (.string q)).run Tryd.prog W = .ok (q.toList == q.toList) W := run_equalIn_string (P := Tryd.prog) W 9998 9 q q Tryd.underlying9
  rw [run_neq_struct, hs]
  simp only [Program.fieldsOf, Tryd.underlying51, Op.eqFields]
  simp [Sem.run_bind, p0, p1, p2, p3, e0, e1, e2, e3]

/-- What a list of sets holds at a place. -/
theorem stV_at (L : List St) (i : Nat) (h : i < L.length) : (stV L)[i * 4]? = some (.bool L[i].text) ∧ (stV L)[i * 4 + 1]? = some (.int .i64 L[i].field) ∧ (stV L)[i * 4 + 2]? = some (.int .i64 L[i].n) ∧ (stV L)[i * 4 + 3]? = some (.string L[i].s) := by
  induction L generalizing i with
  | nil => simp at h
  | cons x r ih =>
    cases i with
    | zero => simp [stV, stC]
    | succ k =>
      have := ih k (by simpa using h)
      have e : ∀ j, (stV (x :: r))[(k + 1) * 4 + j]? = (stV r)[k * 4 + j]? := fun j => by
        have : stV (x :: r) = stC x ++ stV r := by simp [stV]
        rw [this, List.getElem?_append_right (by simp [stC]; omega)]
        congr 1
        simp [stC]; omega
      have e0 := e 0
      simp only [Nat.add_zero] at e0
      rw [e0, e 1, e 2, e 3]
      simpa using this

/-- A list of sets, where it lies. -/
theorem LsAt.of_own4 {w : World} {B n cap : Nat} {e : TypeId} {a : Option Addr} {cs : List Value} (h : w.ownsRow B e 4 (.slice a n cap) n cs) : LsAt w a cs := by
  have hl := h.1
  rcases h.2 with ⟨h1, h2⟩ | ⟨g, cap', cur, h1, _, h3, _⟩
  · subst h2
    have : cs = [] := List.length_eq_zero_iff.1 (by simpa using hl)
    subst this
    exact LsAt.nil _ _
  · simp only [Value.slice.injEq] at h1
    obtain ⟨rfl, -, rfl⟩ := h1
    refine ⟨g, 0, fun _ => rfl, fun i hi => ⟨(Array.getElem?_eq_some_iff.1 h3).1, ?_⟩⟩
    rw [Nat.zero_add]
    exact World.ownsRow.cellAt h i (by omega)
theorem LsAt.set4 {w : World} {a : Option Addr} {L : List St} (h : LsAt w a (stV L)) (i : Nat) (hi : i < L.length) : ∃ b o, a = some ⟨b, o, none⟩ ∧ b < w.heap.size ∧ w.cell? ⟨b, o + i * 4, none⟩ = some (.bool L[i].text) ∧ w.cell? ⟨b, o + i * 4 + 1, none⟩ = some (.int .i64 L[i].field) ∧ w.cell? ⟨b, o + i * 4 + 2, none⟩ = some (.int .i64 L[i].n) ∧ w.cell? ⟨b, o + i * 4 + 3, none⟩ = some (.string L[i].s) := by
  obtain ⟨b, o, h1, h2⟩ := h
  have hl := stV_length L
  obtain ⟨s0, s1, s2, s3⟩ := stV_at L i hi
  refine ⟨b, o, h1 (by omega), (h2 (i * 4) (by omega)).1, ?_, ?_, ?_, ?_⟩
  · rw [(h2 (i * 4) (by omega)).2, s0]
  · rw [Nat.add_assoc, (h2 (i * 4 + 1) (by omega)).2, s1]
  · rw [Nat.add_assoc, (h2 (i * 4 + 2) (by omega)).2, s2]
  · rw [Nat.add_assoc, (h2 (i * 4 + 3) (by omega)).2, s3]

set_option maxRecDepth 10000 in
set_option maxHeartbeats 400000 in
/-- Two lists of sets that are the same. -/
theorem samesets_yes (L : List St) (a b : Option Addr) (c d : Nat) (w : World) (hA : LsAt w a (stV L)) (hB : LsAt w b (stV L)) (hL : L.length ≤ 1000) :
    Calls Tryd.prog 18 #[.slice a L.length c, .slice b L.length d] w fun e w' => e = .returned (.bool true) ∧ Below w.heap.size w w' := by
  have HA1 : Hid _ := hA
  have HA2 : Hid _ := hB
  clear hA hB
  go_enter Tryd.func18, Tryd.ntmps18
  go_wp2_with fail
  go_loopw [5] (fun iv wr => ∃ (i : Nat), iv = .int .i64 i ∧ i ≤ L.length ∧ Below w.heap.size w wr) (fun iv _ => L.length - (intOf iv).toNat)
  case atStart => exact ⟨0, rfl, by omega, Below.refl _ _⟩
  case round =>
    obtain ⟨i, rfl, hi, hB⟩ := hrel
    by_cases hlt : i < L.length
    · have hlt' : (i : Int) < L.length := by omega
      obtain ⟨ga, oa, rfl, la, x0, x1, x2, x3⟩ := (LsAt.belowB HA1.out hB).set4 i hlt
      obtain ⟨gb, ob, rfl, lb, y0, y1, y2, y3⟩ := (LsAt.belowB HA2.out hB).set4 i hlt
      have hq := fun W => neq_set W L[i].text L[i].field L[i].n L[i].s
      generalize L[i] = z at *
      obtain ⟨t, f, n, q⟩ := z
      have HN : Hid _ := hB
      clear hB HA1 HA2
      go_wp2_with fail
      go_quiet (fail)
      go_wp2_with fail
      go_roundw
      case rel => exact ⟨i + 1, by go_num, by omega, dn_below HN.out _⟩
      case measure => simp [intOf]; omega
    · have hlt' : ¬ (i : Int) < L.length := by omega
      go_wp2_with fail
      go_ret
      exact ⟨rfl, hB⟩

/-- Is a node more than is played? -/
def great (N : Nd) : Bool := decide (100 < N.ints.length) || (decide (100 < N.texts.length) || (decide (300 < N.kids.length) || N.texts.any (fun s => decide (500 < s.size))))

end Go.Proofs.YtaochgndednamaaDoor
