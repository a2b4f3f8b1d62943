/- A list of numbers behind a list of the call's own, whatever its length: at the operation, and at a step of a region that draws its order. -/
import Derived.Test.YtcdpjaaiojpelaaDoorGLed
namespace Go.Proofs.YtcdpjaaiojpelaaDoor
open Go.RowKit Go.Maps Go.WideMaps Go.Sort

theorem run_app9 (W : World) {B n : Nat} {v : Value} {xs : List Value} (hown : W.ownsRow B 3 1 v n xs) (a : Option Addr) (m c : Nat) (l : List Value) (hl : l.length = m) (hls : LsAt W a l) (h1 : ∀ u ∈ l, u.oneCell' = true) (hb : n + m ≤ 1000000) (hB : B ≤ W.heap.size) (ty : TypeId) :
    ∃ v' W', (Builtin.append_ #[38, 38] ty #[v, .slice a m c]).run Tryd.prog W = .ok v' W' ∧ W'.ownsRow B 3 1 v' (n + m) (xs ++ l) ∧ W.grownBy W' v.ownBlock := by
  obtain ⟨i0, hi, hz0, hz1, hz2⟩ := info_parts Tryd.infoI7
  cases a with
  | some ad =>
    obtain ⟨v', W', hr, h2, h3, _⟩ := run_append_own (P := Tryd.prog) W B 38 ty 3 i0 (.int .i64 0) 1 8 Tryd.underlying38 hi hz0 hz1 hz2 rfl (by decide) v n xs hown ad m c l (by omega) hls.news h1 (by unfold maxLen; omega) (by omega) hB
    exact ⟨v', W', hr, h2, h3⟩
  | none =>
    have hm : l = [] := by
      obtain ⟨b, o, h, _⟩ := hls
      cases l with
      | nil => rfl
      | cons x r => exact absurd (h (by simp)) (by simp)
    subst hm
    simp at hl
    subst hl
    refine ⟨v, W, ?_, by simpa using hown, grown_refl _ _⟩
    rcases hown.2 with ⟨rfl, rfl⟩ | ⟨g, cap, cur, rfl, _, _, hnc, _⟩
    · simp [Builtin.append_, run_underlying Tryd.underlying38, sizeOf, typeInfo, hi, Builtin.lenOf, Builtin.firstCells]
    · simp [Builtin.append_, run_underlying Tryd.underlying38, sizeOf, typeInfo, hi, Builtin.lenOf, Builtin.firstCells, hnc, storeCells]

theorem wp_app9 {w : World} {o : Oper} {a : Act} {K : Act → World → Prop} {Q : Exit → Act → World → Prop} (s x : Operand)
    (ho : o.op = .call { callee := .builtin .append, args := #[s, x], argTypes := #[38, 38] }) (B : Nat) (v : Value) (n : Nat) (xs : List Value) (hs : a.eval s = v) (hown : w.ownsRow B 3 1 v n xs)
    (ad : Option Addr) (m c : Nat) (l : List Value) (hx : a.eval x = .slice ad m c) (hl : l.length = m) (hls : LsAt w ad l) (h1 : ∀ u ∈ l, u.oneCell' = true) (hb : n + m ≤ 1000000) (hB : B ≤ w.heap.size)
    (h : ∀ v' w', w'.ownsRow B 3 1 v' (n + m) (xs ++ l) → w.grownBy w' v.ownBlock → K (a.put o.dst v') w') : o.wp Tryd.prog a w K Q := by
  obtain ⟨v', w', hr, h2, h3⟩ := run_app9 w hown ad m c l hl hls h1 hb hB o.type
  unfold Oper.wp execOp
  simp only [ho, resolve, invoke, builtin, Sem.run_bind, Sem.run_pure, Result.andThen_ok, List.map_toArray, List.map_cons, List.map_nil, hs, hx, hr]
  exact h v' w' h2 h3

theorem wpList_app9 {w : World} {ops : Array Oper} {rest : List Oper} {o : Oper} {a : Act} {Q : Exit → Act → World → Prop} (hgd : o.guard = none) (s x : Operand)
    (ho : o.op = .call { callee := .builtin .append, args := #[s, x], argTypes := #[38, 38] }) (B : Nat) (v : Value) (n : Nat) (xs : List Value) (hs : a.eval s = v) (hown : w.ownsRow B 3 1 v n xs)
    (ad : Option Addr) (m c : Nat) (l : List Value) (hx : a.eval x = .slice ad m c) (hl : l.length = m) (hls : LsAt w ad l) (h1 : ∀ u ∈ l, u.oneCell' = true) (hb : n + m ≤ 1000000) (hB : B ≤ w.heap.size)
    (h : ∀ v' w', w'.ownsRow B 3 1 v' (n + m) (xs ++ l) → w.grownBy w' v.ownBlock → wpList Tryd.prog ops Q rest (a.put o.dst v') w') : wpList Tryd.prog ops Q (o :: rest) a w :=
  wpList_plain hgd fun _ hK => wp_app9 s x ho B v n xs hs hown ad m c l hx hl hls h1 hb hB fun v' w' h2 h3 => hK _ _ (h v' w' h2 h3)

theorem step_app9 {w : World} {ops : Array Oper} {o : Oper} {a : Act} {K : Act → World → Prop} {Q : Exit → Act → World → Prop} {E : Prop} (hgd : o.guard = none) (s x : Operand)
    (ho : o.op = .call { callee := .builtin .append, args := #[s, x], argTypes := #[38, 38] }) (B : Nat) (v : Value) (n : Nat) (xs : List Value) (hs : a.eval s = v) (hown : w.ownsRow B 3 1 v n xs)
    (ad : Option Addr) (m c : Nat) (l : List Value) (hx : a.eval x = .slice ad m c) (hl : l.length = m) (hls : LsAt w ad l) (h1 : ∀ u ∈ l, u.oneCell' = true) (hb : n + m ≤ 1000000) (hB : B ≤ w.heap.size)
    (h : ∀ v' w', w'.ownsRow B 3 1 v' (n + m) (xs ++ l) → w.grownBy w' v.ownBlock → K (a.put o.dst v') w') : if Region.wanted o (yielded ops a.tmps) = true then Oper.wp Tryd.prog o a w K Q else E := by
  have hw : Region.wanted o (yielded ops a.tmps) = true := by simp [Region.wanted, hgd]
  rw [if_pos hw]
  exact wp_app9 s x ho B v n xs hs hown ad m c l hx hl hls h1 hb hB h

theorem nV_cell (l : List Nat) : ∀ u ∈ nV l, u.oneCell' = true := by
  intro u hu
  simp only [nV, List.mem_map] at hu
  obtain ⟨_, _, rfl⟩ := hu
  rfl

/-- What is looked at now, and what is left of it. -/
theorem LsQ.rest {Q : Nat → Prop} {w : World} {b o x : Nat} {l : List Nat} (h : LsQ Q w (some ⟨b, o, none⟩) (nV (x :: l))) : LsQ Q w (some ⟨b, o + 1, none⟩) (nV l) ∧ w.cell? ⟨b, o, none⟩ = some (.int .i64 (x : Int)) := by
  obtain ⟨b', o', h1, h2⟩ := h
  have h3 := h1 (by simp [nV])
  simp only [Option.some.injEq, Addr.mk.injEq, and_true] at h3
  obtain ⟨rfl, rfl⟩ := h3
  refine ⟨⟨b, o + 1, fun _ => rfl, fun i hi => ?_⟩, ?_⟩
  · have := h2 (i + 1) (by simp [nV] at hi ⊢; omega)
    rw [show o + (i + 1) = o + 1 + i by omega] at this
    exact ⟨this.1, by rw [this.2]; simp [nV]⟩
  · have := (h2 0 (by simp [nV])).2
    rw [Nat.add_zero] at this
    rw [this]
    rfl
/-- The list of what is to be looked at. -/
def Work (w : World) (g : Nat) (v : Value) (l : List Nat) : Prop := ∃ a c, v = .slice a l.length c ∧ l.length ≤ c ∧ LsQ (fun b => b ≠ g) w a (nV l)
theorem Work.of_own {w : World} {B g n : Nat} {T : TypeId} {v : Value} {l : List Nat} {cs : Array Value} (h : w.ownsRow B 3 1 v n (nV l)) (hn : n = l.length) (ha : AtN T w g cs) (hT : 3 ≠ T) : Work w g v l := by
  subst hn
  have hne := own_ne_at h ha hT
  obtain ⟨a, c, rfl⟩ := own_shape7 h
  refine ⟨a, c, rfl, ?_, (LsQ.of_own h).mono (fun q e _ => hne q e)⟩
  rcases h.2 with ⟨q, q2⟩ | ⟨b, c', cur, q, h1, h2, h3, h4⟩
  · omega
  · simp only [Value.slice.injEq] at q
    omega
theorem LsQ.some {Q : Nat → Prop} {w : World} {a : Option Addr} {x : Nat} {l : List Nat} (h : LsQ Q w a (nV (x :: l))) : ∃ b o, a = Option.some ⟨b, o, none⟩ := by
  obtain ⟨b, o, h1, _⟩ := h
  exact ⟨b, o, h1 (by simp [nV])⟩

/-- All but the first. -/
theorem slice_one (W : World) (b o n c : Nat) (h : n + 1 ≤ c) : ∃ y : Addr, (Instr.slice 38 (.slice (some ⟨b, o, none⟩) (n + 1) c) (some (.int .i64 1)) none none).run Tryd.prog W = .ok (.slice (some y) n (c - 1)) W ∧ (0 < n → y = ⟨b, o + 1, none⟩) := by
  by_cases hc1 : c = 1
  · refine ⟨⟨b, o, none⟩, ?_, fun q => by omega⟩
    simp [Instr.slice, run_underlying Tryd.underlying38, go_sem, hc1]
    omega
  · refine ⟨⟨b, o + 1, none⟩, ?_, fun q => rfl⟩
    simp [Instr.slice, run_underlying Tryd.underlying38, go_sem, hc1]
    intro q
    omega
theorem LsQ.rest' {Q : Nat → Prop} {w : World} {b o x : Nat} {y : Addr} {l : List Nat} (h : LsQ Q w (Option.some ⟨b, o, none⟩) (nV (x :: l))) (hy : 0 < l.length → y = ⟨b, o + 1, none⟩) : LsQ Q w (Option.some y) (nV l) := by
  by_cases h0 : 0 < l.length
  · rw [hy h0]; exact h.rest.1
  · have : l = [] := List.length_eq_zero_iff.1 (by omega)
    subst this
    exact ⟨0, 0, fun q => by simp [nV] at q, fun i hi => by simp [nV] at hi⟩

end Go.Proofs.YtcdpjaaiojpelaaDoor
