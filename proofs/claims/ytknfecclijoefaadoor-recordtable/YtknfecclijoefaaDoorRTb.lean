/- Records that are put one behind the other, and the nodes that were put: what RecordTable holds. -/
import Derived.Test.YtknfecclijoefaaDoorRSu
import Derived.Test.YtknfecclijoefaaDoorRSq
namespace Go.Proofs.YtknfecclijoefaaDoor
open Go.RowKit

theorem row_kind4 {w : World} {B sz : Nat} {e : TypeId} {v : Value} {n k : Nat} {xs : List Value} (h : w.ownsRow B e sz v n xs) (hv : v.ownBlock = some k) : ∃ c, w.heap[k]? = some (.cells c e (0, 0)) := by
  rcases h.2 with ⟨rfl, _⟩ | ⟨g', cap, cur, rfl, _, hgg, _⟩
  · simp [Value.ownBlock] at hv
  · simp [Value.ownBlock] at hv
    subst hv
    exact ⟨cur, hgg⟩
theorem own_below4 {w w' : World} {B sz : Nat} {e : TypeId} {v : Value} {n : Nat} {xs : List Value} (h : w.ownsRow B e sz v n xs) (hb : Below w.heap.size w w') : w'.ownsRow B e sz v n xs := own_fr h (Fr.of_below (S := fun _ => False) hb) (fun _ _ q => q)
theorem LsAt.of_own4x {w : World} {B : Nat} {e : TypeId} {sz n cap : Nat} {a : Option Addr} {cs : List Value} (h : w.ownsRow B e sz (.slice a n cap) n cs) : LsAt w a cs := by
  have hl := h.1
  rcases h.2 with ⟨h1, h2⟩ | ⟨g, cap', cur, h1, _, h3, _⟩
  · subst h2
    have : cs = [] := List.length_eq_zero_iff.1 (by simpa using hl)
    subst this
    exact LsAt.nil _ _
  · simp only [Value.slice.injEq] at h1
    obtain ⟨rfl, -, rfl⟩ := h1
    refine ⟨g, 0, fun _ => rfl, fun i hi => ⟨(Array.getElem?_eq_some_iff.1 h3).1, ?_⟩⟩
    rw [Nat.zero_add]
    exact World.ownsRow.cellAt h i (by omega)

/-- A node that was put, where it came from. -/
structure Gd (w : World) (p : Int) (x : Nx) : Prop where
  at_ : NdAt w x.nd x.a1 x.a2 x.a3
  gr : great x.nd = false
  ok : rE x.nd p = 0
  fi : fine x.nd.ints
/-- The table, and the row of the nodes that were put. -/
structure Pt (w W : World) (g gm : Nat) (v : Value) (M : List ByteArray) (vp : Value) (PX : List Nx) : Prop where
  tb : Tb W w.heap.size g gm v M
  row : W.ownsRow w.heap.size 26 4 vp PX.length (nxV PX)
  bel : Below w.heap.size w W
section
variable {w W W' : World} {g gm : Nat} {v : Value} {M M' : List ByteArray} {vp vp' : Value} {PX PX' : List Nx}
theorem Pt.more (h : Pt w W g gm v M vp PX) (hb : Below W.heap.size W W') : Pt w W' g gm v M vp PX := ⟨h.tb.below hb, own_below4 h.row hb, h.bel.trans (hb.mono h.bel.size)⟩
theorem Pt.apart (h : Pt w W g gm v M vp PX) {k : Nat} (hk : TbS g gm v k) : vp.ownBlock ≠ some k := fun e => by
  obtain ⟨c, hc⟩ := row_kind4 h.row e
  rcases h.tb.kinds hk hc with q | q
  · revert q; decide
  · revert q; decide
theorem Tb.noNode {B : Nat} (h : Tb W B g gm v M) {k : Nat} {cs : Array Value} (ha : AtN 26 W k cs) : ¬ TbS g gm v k := fun hk => by
  have hc : W.heap[k]? = _ := ha
  rcases h.kinds hk hc with q | q
  · revert q; decide
  · revert q; decide
theorem Pt.put (h : Pt w W g gm v M vp PX) (hi : TIn W W' w.heap.size g gm v M') : ∃ v', Pt w W' g gm v' M' vp PX ∧ Fr (TbS g gm v) W W' := by
  obtain ⟨v', ht, hf, _⟩ := hi
  exact ⟨v', ⟨ht, own_fr h.row hf (fun r hr q => h.apart q hr), Fr.below h.bel hf h.tb.ge h.bel.size⟩, hf⟩
theorem Pt.app (h : Pt w W g gm v M vp PX) (hg : W.grownBy W' vp.ownBlock) (ho : W'.ownsRow w.heap.size 26 4 vp' PX'.length (nxV PX')) : Pt w W' g gm v M vp' PX' :=
  ⟨h.tb.fr (Fr.of_grown (S := fun k => vp.ownBlock = some k) hg (fun _ e => e)) (fun _ hi => h.apart hi), ho, h.bel.grown hg h.bel.size (fun k hk => (h.row.lt k hk).1)⟩
theorem Pt.cur {gc : Nat} (h : Pt w W g gm v M vp PX) (hg : W.grownBy W' (some gc)) (hc : w.heap.size ≤ gc) (hT : ¬ TbS g gm v gc) (hR : vp.ownBlock ≠ some gc) : Pt w W' g gm v M vp PX :=
  have k : Fr (fun b => b = gc) W W' := Fr.of_grown hg (fun k e => by cases e; rfl)
  ⟨h.tb.fr k (fun i hi e => hT (e ▸ hi)), own_fr h.row k (fun r hr e => hR (by rw [← e]; exact hr)), below_but h.bel hg hc h.bel.size⟩
end
theorem ScAt.of_put {w W : World} {g gm : Nat} {v : Value} {M : List ByteArray} {a : Option Addr} {c : Nat} {PX : List Nx} {p : Int} (h : Pt w W g gm v M (.slice a PX.length c) PX) (hG : ∀ x ∈ PX, Gd w p x) : ScAt W a PX :=
  ⟨LsAt.of_own4x h.row, fun i hi => by
    have hm : PX.getD i noNx ∈ PX := by
      rw [List.getD_eq_getElem?_getD, List.getElem?_eq_getElem hi]
      exact List.getElem_mem hi
    exact (hG _ hm).at_.belowB h.bel⟩

theorem itF_sum (T : List ByteArray) : ∀ L : List ByteArray, (∀ s ∈ T, s.size ≤ 500) → sum6 (itF L T) ≤ sum6 L + 500 * T.length := by
  induction T with
  | nil => intro L _; simp [itF]
  | cons x r ih =>
    intro L h
    have h1 := ih (pIntern L x) (fun s hs => h s (by simp [hs]))
    have h2 := pIntern_sum L x
    have h3 := h x (by simp)
    have h4 : itF L (x :: r) = itF (pIntern L x) r := rfl
    rw [h4, List.length_cons]
    omega

/-- One more of them is got. -/
theorem put_next {b : ByteArray} {p : Int} {P : List Nd} {M : List ByteArray} {j k : Nat} (hj : j < P.length) (h : b.data.toList.drop k = rAll p (P.drop j) (rTab (P.take j) [])) (hM : M = rTab (P.drop j) (rTab (P.take j) [])) (hl : M.length ≤ 16777216) (hp : p ≤ 16777216) (hE : rE (P.getD j ⟨0, [], [], []⟩) p = 0) (hf : fine (P.getD j ⟨0, [], [], []⟩).ints) (hk : (P.getD j ⟨0, [], [], []⟩).kids.length ≤ 300) :
    ∃ k', gNd b p M 1000 k 0 = (P.getD j ⟨0, [], [], []⟩, k', 0) ∧ b.data.toList.drop k' = rAll p (P.drop (j + 1)) (rTab (P.take (j + 1)) []) ∧ M = rTab (P.drop (j + 1)) (rTab (P.take (j + 1)) []) := by
  have hd : P.drop j = P.getD j ⟨0, [], [], []⟩ :: P.drop (j + 1) := by
    rw [List.drop_eq_getElem_cons hj]
    simp [hj]
  have ht : rTab (P.take (j + 1)) [] = itF (rTab (P.take j) []) (P.getD j ⟨0, [], [], []⟩).texts := by
    rw [← rTab_snoc, List.take_add_one, List.getElem?_eq_getElem hj]
    simp [hj]
  rw [hd] at h hM
  obtain ⟨h1, h2⟩ := rAll_got b p 1000 _ _ _ k [] (by rw [List.append_nil]; exact h) hE hf hp (by rw [← hM]; exact hl) (by omega) (by omega)
  rw [← hM] at h1
  rw [List.append_nil, ← ht] at h2
  exact ⟨_, h1, h2, by rw [ht]; exact hM⟩

end Go.Proofs.YtknfecclijoefaaDoor
