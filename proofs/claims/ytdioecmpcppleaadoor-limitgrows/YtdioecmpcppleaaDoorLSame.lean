/- Scenes of the same nodes have the same measure, and are valid alike; what Valid answers is one thing. -/
import Derived.Test.YtdioecmpcppleaaDoorLLaw
import Derived.Test.YtdioecmpcppleaaDoorGI
namespace Go.Proofs.YtdioecmpcppleaaDoor
open Go.RowKit Go.Maps Go.WideMaps Go.Sort

section
variable {X Y : List Nx} {r : Int} {l : Lm} {d : Nat}
theorem same_tyG : ∀ (X Y : List Nx) (k : Nat), Y.map Nx.nd = X.map Nx.nd → tyG Y k = tyG X k
  | [], [], _, _ => rfl
  | x :: t, y :: u, k, h => by
    simp only [List.map_cons, List.cons.injEq] at h
    unfold tyG
    rw [h.1, same_tyG t u (k + 1) h.2]
  | [], _ :: _, _, h => by simp at h
  | _ :: _, [], _, h => by simp at h
theorem same_tyE (h : Y.map Nx.nd = X.map Nx.nd) : tyE Y = tyE X := congrArg Prod.fst (same_tyG X Y 0 h)
theorem same_tyZ (h : Y.map Nx.nd = X.map Nx.nd) : tyZ Y = tyZ X := congrArg Prod.snd (same_tyG X Y 0 h)
theorem same_edg (h : Y.map Nx.nd = X.map Nx.nd) : edg Y = edg X := by
  have e : ∀ Z : List Nx, edg Z = ((Z.map Nx.nd).map fun N => N.kids.length).sum := fun Z => by simp [edg, Function.comp_def]
  rw [e, e, h]
theorem same_allT (h : Y.map Nx.nd = X.map Nx.nd) : allT Y = allT X := by
  have e : ∀ Z : List Nx, allT Z = (Z.map Nx.nd).flatMap fun N => N.texts := fun Z => by simp [allT, List.flatMap_map]
  rw [e, e, h]
theorem same_txb (h : Y.map Nx.nd = X.map Nx.nd) : txb Y = txb X := by
  unfold txb
  rw [same_allT h]
theorem same_meL (h : Y.map Nx.nd = X.map Nx.nd) : meL Y d = meL X d := by
  unfold meL
  rw [same_len h, same_edg h, same_txb h]
theorem same_meC (h : Y.map Nx.nd = X.map Nx.nd) : meC Y d = meC X d := by
  unfold meC
  rw [same_len h, same_edg h, same_txb h]
theorem same_fn (h : Y.map Nx.nd = X.map Nx.nd) (hX : FnX X) : FnX Y := fun i hi => by
  rw [same_nd h]
  exact hX i (by rw [← same_len h]; exact hi)
theorem same_va (h : Y.map Nx.nd = X.map Nx.nd) {e z : Int} (hv : VaIs Y r l d e z) : VaIs X r l d e z := by
  unfold VaIs at hv ⊢
  rw [same_tyE h, same_tyZ h, same_meL h] at hv
  rcases hv with q | q | ⟨q1, q2, n, y, q3, q4⟩
  · exact .inl q
  · exact .inr (.inl q)
  · exact .inr (.inr ⟨q1, q2, n, y, same_check h q3, q4⟩)
theorem va_fix (X : List Nx) (r : Int) (l : Lm) (d : Nat) : ∃ e0 z0 : Int, ∀ e z, VaIs X r l d e z → e = e0 ∧ z = z0 := by
  by_cases h : ∃ e z, VaIs X r l d e z
  · obtain ⟨e0, z0, h0⟩ := h
    exact ⟨e0, z0, fun e z q => h0.uniq q⟩
  · exact ⟨0, 0, fun e z q => absurd ⟨e, z, q⟩ h⟩
end

end Go.Proofs.YtdioecmpcppleaaDoor
