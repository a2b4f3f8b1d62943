/- What the laws of layer 10 have in common: scenes with the same nodes; answers are one. -/
import Derived.Test.YtnmdkbeicggfhaaCIn
namespace Go.Proofs.Ytnmdkbeicggfhaa
open Go.RowKit Go.Maps Go.WideMaps Go.Sort

theorem CheckIs.zero {X : List Nx} {r e z : Int} (h : CheckIs X r e z) (hr : RightIs X r) : e = 0 ∧ z = 0 := by
  have he := h.right.2 hr
  refine ⟨he, ?_⟩
  rcases h with ⟨h1, q, _⟩ | ⟨_, i, _, q, _⟩ | ⟨_, _, ⟨i, q, _⟩ | ⟨_, ⟨i, q, _⟩ | ⟨_, q, _⟩⟩⟩
  · omega
  · omega
  · omega
  · omega
  · exact q
theorem CheckIs.cyc {X : List Nx} {r e z : Int} {i : Nat} (h : CheckIs X r e z) (h1 : isPb X.length r = true) (h2 : ∀ i, i < X.length → okAt X i) (h3 : FirstCyc (kX X) i) : e = 14 ∧ z = i := by
  rcases h with ⟨q, _⟩ | ⟨_, j, hj, _, _, q, _⟩ | ⟨_, _, ⟨j, rfl, rfl, q⟩ | ⟨q, _⟩⟩
  · rw [h1] at q; cases q
  · exact absurd (h2 j hj) q
  · refine ⟨rfl, ?_⟩
    rcases Nat.lt_trichotomy i j with p | p | p
    · exact absurd h3.1 (q.2 i p)
    · rw [p]
    · exact absurd q.1 (h3.2 j p)
  · exact absurd h3.1 (q i)
theorem CheckIs.loose {X : List Nx} {r e z : Int} {i : Nat} (h : CheckIs X r e z) (h1 : isPb X.length r = true) (h2 : ∀ i, i < X.length → okAt X i) (h3 : ∀ x, ¬ Lead (Ed (kX X)) x x) (h4 : i < X.length) (h5 : ¬ Rt (Ed (kX X)) r.toNat i) (h6 : ∀ j, j < i → Rt (Ed (kX X)) r.toNat j) : e = 15 ∧ z = i := by
  rcases h with ⟨q, _⟩ | ⟨_, j, hj, _, _, q, _⟩ | ⟨_, _, ⟨j, _, _, q⟩ | ⟨_, ⟨j, rfl, rfl, hj, q1, q2⟩ | ⟨_, _, q⟩⟩⟩
  · rw [h1] at q; cases q
  · exact absurd (h2 j hj) q
  · exact absurd q.1 (h3 j)
  · refine ⟨rfl, ?_⟩
    rcases Nat.lt_trichotomy i j with p | p | p
    · exact absurd (q2 i p) h5
    · rw [p]
    · exact absurd (h6 j p) q1
  · exact absurd (q i h4) h5

theorem CheckIs.uniq {X : List Nx} {r e z e' z' : Int} (h : CheckIs X r e z) (h' : CheckIs X r e' z') : e' = e ∧ z' = z := by
  rcases h with ⟨h1, rfl, rfl⟩ | ⟨h1, i, hi, rfl, rfl, hno, hbe⟩ | ⟨h1, h2, ⟨i, rfl, rfl, hf⟩ | ⟨h3, ⟨i, rfl, rfl, hi, hn, hb⟩ | ⟨rfl, rfl, h4⟩⟩⟩
  · rcases h' with ⟨_, q1, q2⟩ | ⟨q, _⟩ | ⟨q, _⟩
    · exact ⟨q1, q2⟩
    · rw [h1] at q; cases q
    · rw [h1] at q; cases q
  · rcases h' with ⟨q, _⟩ | ⟨_, j, hj, rfl, rfl, q1, q2⟩ | ⟨_, q, _⟩
    · rw [h1] at q; cases q
    · refine ⟨rfl, ?_⟩
      rcases Nat.lt_trichotomy i j with p | p | p
      · exact absurd (q2 i p) hno
      · rw [p]
      · exact absurd (hbe j p) q1
    · exact absurd (q i hi) hno
  · exact h'.cyc h1 h2 hf
  · exact h'.loose h1 h2 h3 hi hn hb
  · exact h'.zero ⟨h1, h2, h3, h4⟩

section
variable {X Y : List Nx}
theorem same_len (h : Y.map Nx.nd = X.map Nx.nd) : Y.length = X.length := by simpa using congrArg List.length h
theorem same_nd (h : Y.map Nx.nd = X.map Nx.nd) (i : Nat) : (Y.getD i noNx).nd = (X.getD i noNx).nd := by
  have h1 : (Y.map Nx.nd)[i]? = (X.map Nx.nd)[i]? := by rw [h]
  rw [List.getElem?_map, List.getElem?_map] at h1
  rw [List.getD_eq_getElem?_getD, List.getD_eq_getElem?_getD]
  cases hy : Y[i]? with
  | none =>
    rw [hy] at h1
    cases hx : X[i]? with
    | none => rfl
    | some x => rw [hx] at h1; cases h1
  | some y =>
    rw [hy] at h1
    cases hx : X[i]? with
    | none => rw [hx] at h1; cases h1
    | some x => rw [hx] at h1; simpa using h1
theorem same_k (h : Y.map Nx.nd = X.map Nx.nd) : kX Y = kX X := by
  have : ∀ Z : List Nx, kX Z = (Z.map Nx.nd).map fun N => N.kids.map Int.toNat := fun Z => by simp [kX, kOf, lks, lnOf]
  rw [this, this, h]
theorem same_ok (h : Y.map Nx.nd = X.map Nx.nd) (i : Nat) : okAt Y i ↔ okAt X i := by
  unfold okAt
  rw [same_len h, same_nd h]
theorem same_small (h : Y.map Nx.nd = X.map Nx.nd) (hX : Small X) : Small Y := ⟨by rw [same_len h]; exact hX.1, fun i hi => by rw [same_nd h]; exact hX.2 i (by rw [← same_len h]; exact hi)⟩
theorem same_check (h : Y.map Nx.nd = X.map Nx.nd) {r e z : Int} (hc : CheckIs Y r e z) : CheckIs X r e z := by
  unfold CheckIs at hc ⊢
  simp only [same_len h, same_k h, same_ok h] at hc
  exact hc
theorem same_right (h : Y.map Nx.nd = X.map Nx.nd) {r : Int} : RightIs Y r ↔ RightIs X r := by
  unfold RightIs
  simp only [same_len h, same_k h, same_ok h]
theorem same_depth (h : Y.map Nx.nd = X.map Nx.nd) {r : Int} {d : Nat} (hc : DepthIs Y r d) : DepthIs X r d := by
  unfold DepthIs at hc ⊢
  simp only [same_len h, same_k h, same_right h] at hc
  exact hc
end

theorem at_ls {T : TypeId} {W : World} {g : Nat} {cs : List Value} (h : AtN T W g cs.toArray) : LsAt W (some ⟨g, 0, none⟩) cs := h.lsQ.toAt
/-- What the law holds of its argument. -/
structure Lw (w W : World) (a : Option Addr) (X : List Nx) (c : Nat) (r : Int) : Prop where
  at_ : AtN 24 W w.heap.size #[.slice a X.length c, .int .i64 r]
  bel : Below w.heap.size w W
theorem Lw.more {w W W' : World} {a : Option Addr} {X : List Nx} {c : Nat} {r : Int} (h : Lw w W a X c r) (hb : Below W.heap.size W W') : Lw w W' a X c r := ⟨h.at_.belowAll hb, h.bel.trans (hb.mono h.bel.size)⟩
theorem Lw.start (w : World) (a : Option Addr) (X : List Nx) (c : Nat) (r : Int) : Lw w (w.alloc (.cells #[.slice a X.length c, .int .i64 r] 24)) a X c r := ⟨AtN.new w 24 _, (Below.refl w.heap.size w).alloc (Nat.le_refl _) _⟩
theorem Lw.sc {w W : World} {a : Option Addr} {X : List Nx} {c : Nat} {r q : Int} (h : Lw w W a X c r) (hs : IsSc w a X q) : ScAt W a X := hs.sc.belowB h.bel
theorem Lw.c0 {w W : World} {a : Option Addr} {X : List Nx} {c : Nat} {r : Int} (h : Lw w W a X c r) : W.cell? ⟨w.heap.size, 0, none⟩ = some (.slice a X.length c) := h.at_.cell 0
theorem Lw.c1 {w W : World} {a : Option Addr} {X : List Nx} {c : Nat} {r : Int} (h : Lw w W a X c r) : W.cell? ⟨w.heap.size, 1, none⟩ = some (.int .i64 r) := h.at_.cell 1

/-- The document's Edges, of a scene that is played. -/
theorem redges_few (X : List Nx) (a : Option Addr) (c : Nat) (r : Int) (w : World) (h : ScAt w a X) (hX : Small X) :
    Calls Try.prog 28 #[.agg #[.slice a X.length c, .int .i64 r]] w fun e w' => e = .returned (.int .i64 (edg X : Nat)) ∧ Below w.heap.size w w' := by
  refine Calls.mono (redges_any X a c r w h (by have := hX.1; omega)) ?_
  rintro e w' ⟨z, rfl, hz, hb⟩
  rw [hz hX.few]
  exact ⟨rfl, hb⟩

end Go.Proofs.Ytnmdkbeicggfhaa
