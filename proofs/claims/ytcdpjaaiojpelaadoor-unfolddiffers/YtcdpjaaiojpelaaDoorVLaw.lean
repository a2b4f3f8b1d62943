/- What the given rows' list of package-level variables gives; scenes that came in, one or two; what Equal and Share tell of scenes that are right. -/
import Derived.Test.YtcdpjaaiojpelaaDoorAwake11
import Derived.Stop.Joined
import Derived.Stop.LaidErr
import Derived.Lib.LaidTab
import Derived.LaidLaws
import Derived.LaidMore
import Derived.MakeChecks
import Derived.Test.YtcdpjaaiojpelaaDoorCLaw
namespace Go.Proofs.YtcdpjaaiojpelaaDoor
open Go Go.RowKit

/-- The list, as each of the given rows has it. -/
def laid3 : List (String × DataW Unit) := Rows.unfoldEqualRow.laid

theorem tP : (Tryd.prog.globals[0]?).map (·.type) = some 115 := by kernel_rfl
theorem laid3_is : laid3 = (laid3.getD 0 (powN, .nil)) :: (laid3.getD 1 (powN, .nil)) :: [(powN, Lib.tabData .u64 Lib.pow10Tab)] := by kernel_rfl
theorem tab_of11 {W : World} (h : laidMetH Tryd.prog laid3 W) : Tab W := by
  rw [MakeChecks.laidMetH_plain _ _ _ (by kernel_rfl), laid3_is] at h
  exact Lib.tabIs_of_head (n := 20) (g := 0) (by kernel_rfl) tP Tryd.underlying115 Tryd.underlying99 (by kernel_rfl) (by kernel_rfl) h.tail.tail

/-- The heap that the program's own start leaves meets the list. -/
theorem door_met (os : Os) (args : Array Value) : laidMetH Tryd.prog laid3 ((World.doorLaid Tryd.prog 400 os).forCall (fun _ _ => 0) ⟨#[], args, []⟩).memory :=
  laidMetH_of_parts3 (fuel := 8) (laidMet_of_run' 8 (by kernel_rfl) (by kernel_rfl)) (by kernel_rfl) (by kernel_rfl)

end Go.Proofs.YtcdpjaaiojpelaaDoor
namespace Go.Proofs.YtcdpjaaiojpelaaDoor
open Go.RowKit Go.Maps Go.WideMaps Go.Sort

/-- What the law holds of its scene. -/
structure L1 (w W : World) (a : Option Addr) (X : List Nx) (c : Nat) (r : Int) : Prop where
  at_ : AtN 24 W w.heap.size #[.slice a X.length c, .int .i64 r]
  bel : Below w.heap.size w W
  tab : Tab W
section
variable {w W W' : World} {a : Option Addr} {X : List Nx} {c : Nat} {r : Int}
theorem L1.more (h : L1 w W a X c r) (hb : Below W.heap.size W W') : L1 w W' a X c r := ⟨h.at_.belowAll hb, h.bel.trans (hb.mono h.bel.size), h.tab.on hb⟩
theorem L1.start (w : World) (a : Option Addr) (X : List Nx) (c : Nat) (r : Int) (ht : Tab w) : L1 w (w.alloc (.cells #[.slice a X.length c, .int .i64 r] 24)) a X c r := by
  have hb : Below w.heap.size w (w.alloc (.cells #[.slice a X.length c, .int .i64 r] 24)) := (Below.refl w.heap.size w).alloc (Nat.le_refl _) _
  exact ⟨AtN.new w 24 _, hb, ht.on hb⟩
theorem L1.c0 (h : L1 w W a X c r) : W.cell? ⟨w.heap.size, 0, none⟩ = some (.slice a X.length c) := h.at_.cell 0
theorem L1.c1 (h : L1 w W a X c r) : W.cell? ⟨w.heap.size, 1, none⟩ = some (.int .i64 r) := h.at_.cell 1
end

/-- What the law holds of its two scenes. -/
structure L2 (w W : World) (a : Option Addr) (X : List Nx) (c : Nat) (r : Int) (b : Option Addr) (Y : List Nx) (d : Nat) (s : Int) : Prop where
  a_ : AtN 24 W w.heap.size #[.slice a X.length c, .int .i64 r]
  b_ : AtN 24 W (w.heap.size + 1) #[.slice b Y.length d, .int .i64 s]
  bel : Below w.heap.size w W
  tab : Tab W
section
variable {w W W' : World} {a : Option Addr} {X : List Nx} {c : Nat} {r : Int} {b : Option Addr} {Y : List Nx} {d : Nat} {s : Int}
theorem L2.more (h : L2 w W a X c r b Y d s) (hb : Below W.heap.size W W') : L2 w W' a X c r b Y d s := ⟨h.a_.belowAll hb, h.b_.belowAll hb, h.bel.trans (hb.mono h.bel.size), h.tab.on hb⟩
theorem L2.start (w : World) (a : Option Addr) (X : List Nx) (c : Nat) (r : Int) (b : Option Addr) (Y : List Nx) (d : Nat) (s : Int) (ht : Tab w) : L2 w ((w.alloc (.cells #[.slice a X.length c, .int .i64 r] 24)).alloc (.cells #[.slice b Y.length d, .int .i64 s] 24)) a X c r b Y d s := by
  have hb : Below w.heap.size w ((w.alloc (.cells #[.slice a X.length c, .int .i64 r] 24)).alloc (.cells #[.slice b Y.length d, .int .i64 s] 24)) := ((Below.refl w.heap.size w).alloc (Nat.le_refl _) _).alloc (by simp) _
  exact ⟨(AtN.new w 24 _).alloc _, mk_at (AtN.new (w.alloc _) 24 _) (show _ = w.heap.size + 1 by simp), hb, ht.on hb⟩
theorem L2.a0 (h : L2 w W a X c r b Y d s) : W.cell? ⟨w.heap.size, 0, none⟩ = some (.slice a X.length c) := h.a_.cell 0
theorem L2.a1 (h : L2 w W a X c r b Y d s) : W.cell? ⟨w.heap.size, 1, none⟩ = some (.int .i64 r) := h.a_.cell 1
theorem L2.b0 (h : L2 w W a X c r b Y d s) : W.cell? ⟨w.heap.size + 1, 0, none⟩ = some (.slice b Y.length d) := h.b_.cell 0
theorem L2.b1 (h : L2 w W a X c r b Y d s) : W.cell? ⟨w.heap.size + 1, 1, none⟩ = some (.int .i64 s) := h.b_.cell 1
theorem IsSc.bel {q : Int} (h : IsSc w a X q) (hb : Below w.heap.size w W) : ScAt W a X := h.sc.belowB hb
theorem IsSc.rgx {q : Int} (h : IsSc w a X q) : RgX X := h.rg

/-- Of scenes whose answer is known. -/
theorem uequal_is (hX : Small X) (hY : Small Y) (rX : RgX X) (rY : RgX Y) {q : Bool} (hq : q = true ↔ RightIs X r ∧ RightIs Y s ∧ SameT X Y r s) (h : ScAt W a X) (h' : ScAt W b Y) (ht : Tab W) :
    Calls Tryd.prog 10 #[.agg #[.slice a X.length c, .int .i64 r], .agg #[.slice b Y.length d, .int .i64 s]] W fun e w' => e = .returned (.bool q) ∧ Below W.heap.size W w' := by
  refine Calls.mono (uequal_any X Y a b c d r s W h h' hX hY rX rY ht) ?_
  rintro e w' ⟨q', rfl, hq', hb⟩
  rw [show q' = q by rw [Bool.eq_iff_iff, hq, hq']]
  exact ⟨rfl, hb⟩
theorem ushare_yes (hX : Small X) (rX : RgX X) (hR : RightIs X r) (h : ScAt W a X) (ht : Tab W) :
    Calls Tryd.prog 16 #[.agg #[.slice a X.length c, .int .i64 r]] W fun e w' => ∃ L a' c', e = .returned (.tuple #[.agg #[.slice a' (List.length L) c', .int .i64 ((List.length L : Int) - 1)], .int .i64 0]) ∧ L.map Nx.nd = shL (cX X r) ∧ ScAt w' a' L ∧ Below W.heap.size W w' := by
  refine Calls.mono (ushare_any X a c r W h hX rX ht) ?_
  rintro e w' ⟨h1, -, hb⟩
  obtain ⟨L, a', c', q1, q2, q3⟩ := h1 hR
  exact ⟨L, a', c', q1, q2, q3, hb⟩
end

theorem RgX.same {X Y : List Nx} (h : RgX X) (hY : Y.map Nx.nd = X.map Nx.nd) : RgX Y := fun i hi => by
  rw [same_nd hY]
  exact h i (by rw [← same_len hY]; exact hi)
theorem SameT.symm {X Y : List Nx} {r s : Int} (h : SameT X Y r s) : SameT Y X s r := Alk.symm h
theorem sameT_sh {X Y : List Nx} {r s : Int} (hX : RightIs X r) (hY : RightIs Y s) : SameT X Y r s ↔ shL (cX X r) = shL (cX Y s) := by rw [sameT_iff hX hY, sh_same (cX_cn hX) (cX_cn hY)]
theorem same_isCan {X Y : List Nx} (h : Y.map Nx.nd = X.map Nx.nd) {r : Int} : IsCan Y r ↔ IsCan X r := by
  unfold IsCan
  rw [same_right h, same_oX h, same_len h]
/-- A scene, shared. -/
structure ShF (X L : List Nx) (r : Int) : Prop where
  small : Small L
  rg : RgX L
  can : IsCan L ((L.length : Int) - 1)
  cx : cX L ((L.length : Int) - 1) = L.map Nx.nd
  sh : shL (cX L ((L.length : Int) - 1)) = L.map Nx.nd
  tree : SameT X L r ((L.length : Int) - 1)
  few : L.length ≤ X.length
theorem sh_nodes {A : List Nd} (hA : Dn A) {m : Nat} (hm : m < (shL A).length) : ∃ k, k < A.length ∧ atN (shL A) m = rnN (addA [] A).2 (atN A k) := by
  have ht := sh_tb hA
  obtain ⟨k, hk, e⟩ := ht.onto m (by simp) hm
  exact ⟨k, hk, by rw [← e]; exact ht.at_ k hk⟩
theorem sh_facts {X L : List Nx} {r : Int} (hR : RightIs X r) (hX : Small X) (rX : RgX X) (hL : L.map Nx.nd = shL (cX X r)) : ShF X L r := by
  have hc := cX_cn hR
  have hd := hc.dn
  have hren := can_ren hR (asNx_nd (cX X r))
  have hsm := hren.small hX
  have hrg := rX.ren hren hR.2.1 hX.1
  have hlen : L.length = (shL (cX X r)).length := by simpa using congrArg List.length hL
  have hfew : L.length ≤ X.length := by
    have := sh_few hd
    rw [cX_len hR] at this
    omega
  have hat : ∀ m, m < L.length → ∃ k, k < (cX X r).length ∧ (L.getD m noNx).nd = rnN (addA [] (cX X r)).2 (atN (cX X r) k) := fun m hm => by
    obtain ⟨k, hk, e⟩ := sh_nodes hd (m := m) (by omega)
    exact ⟨k, hk, by rw [← nds_atN, hL]; exact e⟩
  have hnum : ∀ k, (addA [] (cX X r)).2.getD k 0 < 1000 := fun k => by
    have ht := sh_tb hd
    have hl := ht.len
    by_cases hk : k < (cX X r).length
    · have h1 := ht.lt k hk
      have := hX.1
      omega
    · have : (addA [] (cX X r)).2.getD k 0 = 0 := by
        rw [List.getD_eq_getElem?_getD, List.getElem?_eq_none (by omega)]
        rfl
      omega
  have hsame : L.map Nx.nd = (asNx (shL (cX X r))).map Nx.nd := by rw [asNx_nd, hL]
  have hcan : IsCan L ((L.length : Int) - 1) := by
    rw [same_isCan hsame]
    have := sh_cn hc
    unfold Cn at this
    rw [hlen]
    exact this
  have hcx : cX L ((L.length : Int) - 1) = L.map Nx.nd := ((isCan_iff _ _).1 hcan).2.2.symm
  refine ⟨⟨by have := hX.1; omega, fun m hm => ?_⟩, fun m hm => ?_, hcan, hcx, ?_, ?_, hfew⟩
  · obtain ⟨k, hk, e⟩ := hat m hm
    rw [e]
    unfold rnN
    rw [renNd_great]
    have := hsm.2 k (by rw [asNx_len]; exact hk)
    rwa [asNx_at] at this
  · obtain ⟨k, hk, e⟩ := hat m hm
    rw [e]
    have := hrg k (by rw [asNx_len]; exact hk)
    rw [asNx_at] at this
    exact rnN_rg this _ hnum
  · rw [hcx, hL]
    exact sh_sh hc
  · have h1 := can_alk hR
    have h2 := sh_alk hc
    unfold SameT
    rw [hL]
    have : ((L.length : Int) - 1).toNat = (shL (cX X r)).length - 1 := by omega
    rw [this]
    exact h1.trans h2

end Go.Proofs.YtcdpjaaiojpelaaDoor
