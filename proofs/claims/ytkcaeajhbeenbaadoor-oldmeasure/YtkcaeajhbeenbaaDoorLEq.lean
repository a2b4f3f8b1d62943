/- Limits that are held against each other as structs. -/
import Derived.Test.YtkcaeajhbeenbaaDoorLLim
import Derived.Laws.StructEq
namespace Go.Proofs.YtkcaeajhbeenbaaDoor
open Go.RowKit

/-- Are they the same? -/
def sameL (l m : Lm) : Bool := decide (l.b = m.b ∧ l.n = m.n ∧ l.e = m.e ∧ l.d = m.d ∧ l.x = m.x)

theorem eql_lim (l m : Lm) (W : World) : (binOp .eql 26 (.agg #[.int .i64 l.b, .int .i64 l.n, .int .i64 l.e, .int .i64 l.d, .int .i64 l.x]) (.agg #[.int .i64 m.b, .int .i64 m.n, .int .i64 m.e, .int .i64 m.d, .int .i64 m.x])).run Tryd.prog W = .ok (.bool (sameL l m)) W := by
  obtain ⟨a0, a1, a2, a3, a4⟩ := l
  obtain ⟨b0, b1, b2, b3, b4⟩ := m
  have hs := run_equalIn_struct (P := Tryd.prog) W 9999 26 #[.int .i64 a0, .int .i64 a1, .int .i64 a2, .int .i64 a3, .int .i64 a4] #[.int .i64 b0, .int .i64 b1, .int .i64 b2, .int .i64 b3, .int .i64 b4] (by kernel_rfl) (by kernel_rfl)
  have p0 : (part 3 #[.int .i64 a0, .int .i64 a1, .int .i64 a2, .int .i64 a3, .int .i64 a4] 0).run Tryd.prog W = .ok (.int .i64 a0) W := by kernel_rfl
  have p1 : (part 3 #[.int .i64 a0, .int .i64 a1, .int .i64 a2, .int .i64 a3, .int .i64 a4] 1).run Tryd.prog W = .ok (.int .i64 a1) W := by kernel_rfl
  have p2 : (part 3 #[.int .i64 a0, .int .i64 a1, .int .i64 a2, .int .i64 a3, .int .i64 a4] 2).run Tryd.prog W = .ok (.int .i64 a2) W := by kernel_rfl
  have p3 : (part 3 #[.int .i64 a0, .int .i64 a1, .int .i64 a2, .int .i64 a3, .int .i64 a4] 3).run Tryd.prog W = .ok (.int .i64 a3) W := by kernel_rfl
  have p4 : (part 3 #[.int .i64 a0, .int .i64 a1, .int .i64 a2, .int .i64 a3, .int .i64 a4] 4).run Tryd.prog W = .ok (.int .i64 a4) W := by kernel_rfl
  have q0 : (part 3 #[.int .i64 b0, .int .i64 b1, .int .i64 b2, .int .i64 b3, .int .i64 b4] 0).run Tryd.prog W = .ok (.int .i64 b0) W := by kernel_rfl
  have q1 : (part 3 #[.int .i64 b0, .int .i64 b1, .int .i64 b2, .int .i64 b3, .int .i64 b4] 1).run Tryd.prog W = .ok (.int .i64 b1) W := by kernel_rfl
  have q2 : (part 3 #[.int .i64 b0, .int .i64 b1, .int .i64 b2, .int .i64 b3, .int .i64 b4] 2).run Tryd.prog W = .ok (.int .i64 b2) W := by kernel_rfl
  have q3 : (part 3 #[.int .i64 b0, .int .i64 b1, .int .i64 b2, .int .i64 b3, .int .i64 b4] 3).run Tryd.prog W = .ok (.int .i64 b3) W := by kernel_rfl
  have q4 : (part 3 #[.int .i64 b0, .int .i64 b1, .int .i64 b2, .int .i64 b3, .int .i64 b4] 4).run Tryd.prog W = .ok (.int .i64 b4) W := by kernel_rfl
  have ee : ∀ x y : Int, (Op.equalIn 9999 3 (.int .i64 x) (.int .i64 y)).run Tryd.prog W = .ok (x == y) W := fun x y => run_equalIn_int (P := Tryd.prog) W 9998 3 .i64 .i64 x y Tryd.underlying3
  rw [run_eql_struct, hs]
  simp only [Program.fieldsOf, Tryd.underlying26, Op.eqFields]
  unfold sameL
  by_cases h0 : a0 = b0
  · subst h0
    by_cases h1 : a1 = b1
    · subst h1
      by_cases h2 : a2 = b2
      · subst h2
        by_cases h3 : a3 = b3
        · subst h3
          by_cases h4 : a4 = b4
          · subst h4
            simp [Sem.run_bind, p0, p1, p2, p3, p4, ee]
          · simp [Sem.run_bind, p0, p1, p2, p3, p4, q0, q1, q2, q3, q4, ee, h4]
        · simp [Sem.run_bind, p0, p1, p2, p3, q0, q1, q2, q3, ee, h3]
      · simp [Sem.run_bind, p0, p1, p2, q0, q1, q2, ee, h2]
    · simp [Sem.run_bind, p0, p1, q0, q1, ee, h1]
  · simp [Sem.run_bind, p0, q0, ee, h0]

end Go.Proofs.YtkcaeajhbeenbaaDoor
