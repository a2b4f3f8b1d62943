/- Fields set: as lists; a store into a node of the call's own; the contracts of isPlace and setFits. -/
import Derived.Test.YtaochgndednamaaDoorFSame8
import Derived.Test.YtaochgndednamaaDoorFCopy
namespace Go.Proofs.YtaochgndednamaaDoor
open Go.RowKit

/-- Can a field be set? -/
def fits (N : Nd) (x : St) : Bool := if x.text = true then decide (0 ≤ x.field ∧ x.field < N.texts.length ∧ x.n = 0) else decide (0 ≤ x.field ∧ x.field < N.ints.length ∧ x.s = noT)
def put1 (N : Nd) (x : St) : Nd := if x.text = true then ⟨N.kind, N.ints, N.texts.set x.field.toNat x.s, N.kids⟩ else ⟨N.kind, N.ints.set x.field.toNat x.n, N.texts, N.kids⟩
def putL (N : Nd) : List St → Nd
  | [] => N
  | x :: r => putL (put1 N x) r
def zeroN : Nd := ⟨0, [], [], []⟩
def setR (N : Nd) (L : List St) : Nd × Int := if L.all (fits N) = true then (putL N L, 0) else (zeroN, 21)

theorem put1_kind (N : Nd) (x : St) : (put1 N x).kind = N.kind := by unfold put1; split <;> rfl
theorem put1_kids (N : Nd) (x : St) : (put1 N x).kids = N.kids := by unfold put1; split <;> rfl
theorem put1_ints (N : Nd) (x : St) : (put1 N x).ints.length = N.ints.length := by unfold put1; split <;> simp
theorem put1_texts (N : Nd) (x : St) : (put1 N x).texts.length = N.texts.length := by unfold put1; split <;> simp
theorem putL_len (L : List St) : ∀ N : Nd, (putL N L).kind = N.kind ∧ (putL N L).kids = N.kids ∧ (putL N L).ints.length = N.ints.length ∧ (putL N L).texts.length = N.texts.length := by
  induction L with
  | nil => intro N; exact ⟨rfl, rfl, rfl, rfl⟩
  | cons x r ih =>
    intro N
    have := ih (put1 N x)
    rw [put1_kind, put1_kids, put1_ints, put1_texts] at this
    exact this
theorem putL_snoc (L : List St) (x : St) : ∀ N : Nd, putL N (L ++ [x]) = put1 (putL N L) x := by
  induction L with
  | nil => intro N; rfl
  | cons y r ih => intro N; exact ih (put1 N y)
theorem putL_take (N : Nd) (L : List St) (i : Nat) (h : i < L.length) : putL N (L.take (i + 1)) = put1 (putL N (L.take i)) L[i] := by
  rw [List.take_add_one, List.getElem?_eq_getElem h]
  exact putL_snoc _ _ _
theorem fits_no (N : Nd) (L : List St) (i : Nat) (h : i < L.length) (hf : fits N L[i] = false) : setR N L = (zeroN, 21) := by
  unfold setR
  rw [if_neg]
  intro ha
  have := List.all_eq_true.1 ha L[i] (List.getElem_mem h)
  rw [hf] at this
  cases this
theorem fits_yes (N : Nd) (L : List St) (h : ∀ i (h : i < L.length), fits N L[i] = true) : setR N L = (putL N L, 0) := by
  unfold setR
  rw [if_pos]
  rw [List.all_eq_true]
  intro x hx
  obtain ⟨i, hi, rfl⟩ := List.getElem_of_mem hx
  exact h i hi

/-- A node, and an error, that a call answers. -/
def NdErr (w w' : World) (e : Ending) (R : Nd × Int) : Prop :=
  ∃ a1 c1 a2 c2 a3 c3, e = .returned (.tuple #[.agg #[.int .i64 R.1.kind, .slice a1 R.1.ints.length c1, .slice a2 R.1.texts.length c2, .slice a3 R.1.kids.length c3], .int .i64 R.2]) ∧ OwnNd w' w.heap.size R.1 (.slice a1 R.1.ints.length c1) (.slice a2 R.1.texts.length c2) (.slice a3 R.1.kids.length c3) ∧ Below w.heap.size w w'

theorem own_store {w : World} {B n : Nat} {e : TypeId} {a : Option Addr} {cap : Nat} {xs : List Value} (h : w.ownsRow B e 1 (.slice a n cap) n xs) (j : Nat) (hj : j < n) : ∃ g u, a = some ⟨g, 0, none⟩ ∧ w.cell? ⟨g, j, none⟩ = some u ∧ w.frozen? ⟨g, j, none⟩ = false ∧ B ≤ g ∧
    ∀ v, (w.setCell ⟨g, j, none⟩ v).ownsRow B e 1 (.slice (some ⟨g, 0, none⟩) n cap) n (xs.set j v) := by
  rcases h.2 with ⟨_, h2⟩ | ⟨g, cap', cur, he, h1, h2, h3⟩
  · omega
  · simp only [Value.slice.injEq] at he
    obtain ⟨rfl, _, rfl⟩ := he
    have hl := h.1
    refine ⟨g, xs[j], rfl, ?_, h.frozenAt j, h1, fun v => (h.stored j v).1⟩
    rw [h.cellAt j (by omega)]
    simp
/-- Rows of two types lie apart. -/
theorem own_apart {w : World} {B B' n n' c : Nat} {e e' : TypeId} {g : Nat} {v : Value} {xs xs' : List Value} (h : w.ownsRow B e 1 (.slice (some ⟨g, 0, none⟩) n c) n xs) (h' : w.ownsRow B' e' 1 v n' xs') (he : e ≠ e') : ∀ r, v.ownBlock = some r → r ≠ g := by
  intro r hr hrg
  rcases h.2 with ⟨h1, _⟩ | ⟨g1, _, cur, h1, _, h2, _⟩
  · simp at h1
  · simp only [Value.slice.injEq, Option.some.injEq, Addr.mk.injEq, and_true] at h1
    obtain ⟨rfl, -⟩ := h1
    rcases h'.2 with ⟨rfl, _⟩ | ⟨g2, _, cur', rfl, _, h3, _⟩
    · simp [Value.ownBlock] at hr
    · simp only [Value.ownBlock, Option.some.injEq] at hr
      rw [← hrg, ← hr, h3] at h2
      simp only [Option.some.injEq, Obj.cells.injEq] at h2
      exact he h2.2.1.symm
theorem own_at {w : World} {B n c : Nat} {e T : TypeId} {g k : Nat} {cs : Array Value} {xs : List Value} (h : w.ownsRow B e 1 (.slice (some ⟨g, 0, none⟩) n c) n xs) (h' : AtN T w k cs) (he : e ≠ T) : g ≠ k := by
  intro hgk
  rcases h.2 with ⟨h1, _⟩ | ⟨g1, _, cur, h1, _, h2, _⟩
  · simp at h1
  · simp only [Value.slice.injEq, Option.some.injEq, Addr.mk.injEq, and_true] at h1
    obtain ⟨rfl, -⟩ := h1
    have h'' : w.heap[k]? = _ := h'
    rw [hgk, h''] at h2
    simp only [Option.some.injEq, Obj.cells.injEq] at h2
    exact he h2.2.1.symm

theorem iV_set (l : List Int) (j : Nat) (z : Int) : iV (l.set j z) = (iV l).set j (.int .i64 z) := by simp [iV, List.map_set]
theorem tV_set (l : List ByteArray) (j : Nat) (s : ByteArray) : tV (l.set j s) = (tV l).set j (.string s) := by simp [tV, List.map_set]

/-- A number stored into a node of the call's own. -/
theorem OwnNd.storeI {w : World} {B : Nat} {N : Nd} {a : Option Addr} {n c : Nat} {v2 v3 : Value} (h : OwnNd w B N (.slice a n c) v2 v3) (hn : N.ints.length = n) (j : Nat) (hj : j < n) : ∃ g u, a = some ⟨g, 0, none⟩ ∧ w.cell? ⟨g, j, none⟩ = some u ∧ w.frozen? ⟨g, j, none⟩ = false ∧ B ≤ g ∧
    (∀ (T : TypeId) (k : Nat) (cs : Array Value), 2 ≠ T → AtN T w k cs → g ≠ k) ∧ ∀ z, OwnNd (w.setCell ⟨g, j, none⟩ (.int .i64 z)) B ⟨N.kind, N.ints.set j z, N.texts, N.kids⟩ (.slice (some ⟨g, 0, none⟩) n c) v2 v3 := by
  subst hn
  obtain ⟨g, u, rfl, h1, h2, h3, h4⟩ := own_store h.i j hj
  refine ⟨g, u, rfl, h1, h2, h3, fun T k cs hT hk => own_at h.i hk hT, fun z => ⟨?_, own_set h.t _ (own_apart h.i h.t (by decide)) _, own_set h.k _ (own_apart h.i h.k (by decide)) _⟩⟩
  have := h4 (.int .i64 z)
  rw [← iV_set] at this
  simpa using this
/-- A text stored into one. -/
theorem OwnNd.storeT {w : World} {B : Nat} {N : Nd} {a : Option Addr} {n c : Nat} {v1 v3 : Value} (h : OwnNd w B N v1 (.slice a n c) v3) (hn : N.texts.length = n) (j : Nat) (hj : j < n) : ∃ g u, a = some ⟨g, 0, none⟩ ∧ w.cell? ⟨g, j, none⟩ = some u ∧ w.frozen? ⟨g, j, none⟩ = false ∧ B ≤ g ∧
    (∀ (T : TypeId) (k : Nat) (cs : Array Value), 9 ≠ T → AtN T w k cs → g ≠ k) ∧ ∀ s, OwnNd (w.setCell ⟨g, j, none⟩ (.string s)) B ⟨N.kind, N.ints, N.texts.set j s, N.kids⟩ v1 (.slice (some ⟨g, 0, none⟩) n c) v3 := by
  subst hn
  obtain ⟨g, u, rfl, h1, h2, h3, h4⟩ := own_store h.t j hj
  refine ⟨g, u, rfl, h1, h2, h3, fun T k cs hT hk => own_at h.t hk hT, fun s => ⟨own_set h.i _ (own_apart h.t h.i (by decide)) _, ?_, own_set h.k _ (own_apart h.t h.k (by decide)) _⟩⟩
  have := h4 (.string s)
  rw [← tV_set] at this
  simpa using this
/-- A kid stored into one. -/
theorem OwnNd.storeK {w : World} {B : Nat} {N : Nd} {a : Option Addr} {n c : Nat} {v1 v2 : Value} (h : OwnNd w B N v1 v2 (.slice a n c)) (hn : N.kids.length = n) (j : Nat) (hj : j < n) : ∃ g u, a = some ⟨g, 0, none⟩ ∧ w.cell? ⟨g, j, none⟩ = some u ∧ w.frozen? ⟨g, j, none⟩ = false ∧ B ≤ g ∧
    (∀ (T : TypeId) (k : Nat) (cs : Array Value), 3 ≠ T → AtN T w k cs → g ≠ k) ∧ ∀ z, OwnNd (w.setCell ⟨g, j, none⟩ (.int .i64 z)) B ⟨N.kind, N.ints, N.texts, N.kids.set j z⟩ v1 v2 (.slice (some ⟨g, 0, none⟩) n c) := by
  subst hn
  obtain ⟨g, u, rfl, h1, h2, h3, h4⟩ := own_store h.k j hj
  refine ⟨g, u, rfl, h1, h2, h3, fun T k cs hT hk => own_at h.k hk hT, fun z => ⟨own_set h.i _ (own_apart h.k h.i (by decide)) _, own_set h.t _ (own_apart h.k h.t (by decide)) _, ?_⟩⟩
  have := h4 (.int .i64 z)
  rw [← iV_set] at this
  simpa using this

set_option maxRecDepth 10000 in
set_option maxHeartbeats 400000 in
theorem isPlace_any (f n : Int) (w : World) :
    Calls Tryd.prog 32 #[.int .i64 f, .int .i64 n] w fun e w' => e = .returned (.bool (decide (0 ≤ f ∧ f < n))) ∧ w' = w := by
  by_cases h1 : 0 ≤ f
  · by_cases h2 : f < n
    · rw [decide_eq_true ⟨h1, h2⟩]
      go_enter Tryd.func32, Tryd.ntmps32
      go_wp2_with fail
      go_ret
      exact ⟨rfl, rfl⟩
    · rw [decide_eq_false (fun h => h2 h.2)]
      go_enter Tryd.func32, Tryd.ntmps32
      go_wp2_with fail
      go_ret
      exact ⟨rfl, rfl⟩
  · rw [decide_eq_false (fun h => h1 h.1)]
    go_enter Tryd.func32, Tryd.ntmps32
    go_wp2_with fail
    go_ret
    exact ⟨rfl, rfl⟩

set_option maxRecDepth 10000 in
set_option maxHeartbeats 400000 in
theorem setFits_any (N : Nd) (t : Bool) (f n : Int) (s : ByteArray) (a1 a2 a3 : Option Addr) (c1 c2 c3 : Nat) (w : World) :
    Calls Tryd.prog 27 #[.agg #[.int .i64 N.kind, .slice a1 N.ints.length c1, .slice a2 N.texts.length c2, .slice a3 N.kids.length c3], .agg #[.bool t, .int .i64 f, .int .i64 n, .string s]] w fun e w' => e = .returned (.bool (fits N ⟨t, f, n, s⟩)) ∧ Below w.heap.size w w' := by
  have HB : Hid _ := fun (o p : Obj) => ((Below.refl w.heap.size w).alloc (Nat.le_refl _) o).alloc (by simp) p
  have HP : Hid _ := fun (n : Int) (W : World) => isPlace_any f n W
  cases t
  · have hq := eq_text s noT
    by_cases h1 : 0 ≤ f ∧ f < N.ints.length
    · by_cases h2 : s = noT
      · rw [show fits N ⟨false, f, n, s⟩ = true by simp only [fits]; simp [h1, h2]]
        rw [decide_eq_true h2] at hq
        subst h2
        go_enter Tryd.func27, Tryd.ntmps27
        go_wp2_with fail
        refine (HP.out _ _).mono ?_
        rw [decide_eq_true h1]
        rintro e w1 ⟨rfl, rfl⟩
        go_wp2_with fail
        go_ret
        exact ⟨by simp [noT], HB.out _ _⟩
      · rw [show fits N ⟨false, f, n, s⟩ = false by simp only [fits]; simp [h2]]
        rw [decide_eq_false h2] at hq
        have h2' : ¬ s = ⟨#[]⟩ := h2
        go_enter Tryd.func27, Tryd.ntmps27
        go_wp2_with fail
        refine (HP.out _ _).mono ?_
        rw [decide_eq_true h1]
        rintro e w1 ⟨rfl, rfl⟩
        go_wp2_with fail
        go_ret
        exact ⟨by simp_all [noT], HB.out _ _⟩
    · rw [show fits N ⟨false, f, n, s⟩ = false by
        simp only [fits]
        simp only [Bool.false_eq_true, if_false, decide_eq_false_iff_not]
        exact fun h => h1 ⟨h.1, h.2.1⟩]
      go_enter Tryd.func27, Tryd.ntmps27
      go_wp2_with fail
      refine (HP.out _ _).mono ?_
      rw [decide_eq_false h1]
      rintro e w1 ⟨rfl, rfl⟩
      go_wp2_with fail
      go_ret
      exact ⟨rfl, HB.out _ _⟩
  · by_cases h1 : 0 ≤ f ∧ f < N.texts.length
    · by_cases h2 : n = 0
      · rw [show fits N ⟨true, f, n, s⟩ = true by simp only [fits]; simp [h1, h2]]
        go_enter Tryd.func27, Tryd.ntmps27
        go_wp2_with fail
        refine (HP.out _ _).mono ?_
        rw [decide_eq_true h1]
        rintro e w1 ⟨rfl, rfl⟩
        go_wp2_with fail
        go_ret
        exact ⟨by simp_all, HB.out _ _⟩
      · rw [show fits N ⟨true, f, n, s⟩ = false by simp only [fits]; simp [h2]]
        go_enter Tryd.func27, Tryd.ntmps27
        go_wp2_with fail
        refine (HP.out _ _).mono ?_
        rw [decide_eq_true h1]
        rintro e w1 ⟨rfl, rfl⟩
        go_wp2_with fail
        go_ret
        exact ⟨by simp_all, HB.out _ _⟩
    · rw [show fits N ⟨true, f, n, s⟩ = false by
        simp only [fits]
        simp only [if_true, decide_eq_false_iff_not]
        exact fun h => h1 ⟨h.1, h.2.1⟩]
      go_enter Tryd.func27, Tryd.ntmps27
      go_wp2_with fail
      refine (HP.out _ _).mono ?_
      rw [decide_eq_false h1]
      rintro e w1 ⟨rfl, rfl⟩
      go_wp2_with fail
      go_ret
      exact ⟨rfl, HB.out _ _⟩

end Go.Proofs.YtaochgndednamaaDoor
