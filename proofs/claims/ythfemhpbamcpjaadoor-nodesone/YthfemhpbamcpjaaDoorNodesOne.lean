/- For all bytes of texts and of nodes and all limits: what the program's Get answers is put by the program's Put as it was, and is valid within the limits; or there is an error alone (bytes longer than the law plays with are let go by the law itself); the arguments read afterwards as before. The package schema's tables hold what the program's text lays into them when the call begins (the card ties them). -/
import Derived.Test.YthfemhpbamcpjaaDoorRows
import Derived.Test.YthfemhpbamcpjaaDoorCards
import Derived.Test.YthfemhpbamcpjaaDoorTie
import Derived.WalkKit
import Derived.ProofKit
import Derived.OpenShut
import Derived.ShutString
import Derived.Below
import Derived.Test.YthfemhpbamcpjaaDoorNLa
import Derived.Test.YthfemhpbamcpjaaDoorNAw
import Derived.Test.YthfemhpbamcpjaaDoorLVal
import Derived.ChangeOld
import Derived.LaidMore
import Derived.SevenTiedAt
namespace Go.Proofs.YthfemhpbamcpjaaDoor.nodesOne
open Go.ChangeShapes Go.WideShapes Go.ChangeAt Go.RowKit
open Go.ChangeMaps (open_string shut_string)
set_option linter.unusedVariables false

theorem own : ownKnob Tryd.prog.godebug = none := by kernel_rfl
theorem laidOut : laidOutB Tryd.prog = true := by kernel_rfl

theorem lm_all {l : Lm} (h : LmR l) : ∀ i, i < 5 → -9223372036854775808 ≤ (lmL l).getD i 0 ∧ (lmL l).getD i 0 ≤ 9223372036854775807 := fun i hi => by
  rcases five_cases hi with rfl | rfl | rfl | rfl | rfl
  · exact h.b
  · exact h.n
  · exact h.e
  · exact h.d
  · exact h.x
/-- The limits in the law's own block. -/
structure Lg (w W : World) (l : Lm) : Prop where
  a : AtN 23 W w.heap.size (liC l)
  bel : Below w.heap.size w W
theorem Lg.more {w W W' : World} {l : Lm} (h : Lg w W l) (hb : Below W.heap.size W W') : Lg w W' l := ⟨h.a.belowAll hb, h.bel.trans (hb.mono h.bel.size)⟩
theorem va_none {X : List Nx} {r : Int} {l : Lm} {d : Nat} {e z : Int} (h : VaIs X r l d e z) (h1 : okL l = true) (h2 : tyE X = 0) (h3 : RightIs X r) (h4 : inL (meL X d) l = true) : e = 0 := by
  rcases h with ⟨q, _⟩ | ⟨_, q, _⟩ | ⟨_, _, n, y, hc, ⟨p, _⟩ | ⟨p, ⟨p1, _⟩ | ⟨p1, rfl, _⟩⟩⟩
  · rw [h1] at q; cases q
  · exact absurd h2 q
  · exact absurd (hc.right.2 h3) p
  · rw [h4] at p1; cases p1
  · rfl
theorem ge_bad {tx nb : ByteArray} {l : Lm} {X : List Nx} {r k : Int} (h : GeIs tx nb l (X.map Nx.nd) r k) (hk : k ≠ 0) : X = [] ∧ r = 0 := by
  rcases h with ⟨_, _, h3, h4⟩ | ⟨_, q, _, ⟨_, _, h3, h4⟩ | ⟨_, h3, _⟩⟩
  · exact ⟨by simpa using h3, h4⟩
  · exact ⟨by simpa using h3, h4⟩
  · exact absurd h3 hk

set_option maxRecDepth 10000 in
set_option maxHeartbeats 4000000 in
theorem walk (a0 : ByteArray) (a1 : ByteArray) (l2 : Lm) (w : World) (w0 : a0.size ≤ maxLen) (w1 : a1.size ≤ maxLen) (w2 : LmR l2) (hT : Tabs12 w) :
    Calls Tryd.prog 3 #[.string a0, .string a1, .agg #[.int .i64 l2.b, .int .i64 l2.n, .int .i64 l2.e, .int .i64 l2.d, .int .i64 l2.x]] w fun e w' => e = .returned (.bool true) ∧ Below w.heap.size w w' := by
  have HA : Hid (∀ W, Below w.heap.size w W → Calls Tryd.prog 4 #[] W fun e w' => e = .returned (.bool true) ∧ Below W.heap.size W w') := fun W hb => awake_any W (hT.on hb)
  have HT : Hid (Tabs12 w) := hT
  have HRg : Hid _ := lm_all w2
  have hlC : liC l2 = #[.int .i64 l2.b, .int .i64 l2.n, .int .i64 l2.e, .int .i64 l2.d, .int .i64 l2.x] := rfl
  have HG0 : Hid (∀ o : Obj, o = .cells (liC l2) 23 → Lg w (w.alloc o) l2) := by
    rintro _ rfl
    exact ⟨AtN.new w 23 _, (Below.refl w.heap.size w).alloc (Nat.le_refl _) _⟩
  unfold maxLen at w0 w1
  clear hT w2
  go_enter Tryd.func3, Tryd.ntmps3
  go_wp2_with fail
  have hg0 := HG0.out _ rfl
  rw [hlC] at hg0
  refine Calls.mono (HA.out _ hg0.bel) ?_
  rintro e w3 ⟨rfl, hb3⟩
  have HG3 : Hid (Lg w w3 l2) := hg0.more hb3
  clear HG0 hg0 hb3 hlC
  by_cases h0 : a0.size ≤ 800
  · have h0' : ¬ (800 : Int) < a0.size := by omega
    by_cases h1 : a1.size ≤ 800
    · have h1' : ¬ (800 : Int) < a1.size := by omega
      clear HA
      have a0c : w3.cell? ⟨w.heap.size, 0, none⟩ = some (.int .i64 l2.b) := HG3.out.a.cell 0
      have a1c : w3.cell? ⟨w.heap.size, 1, none⟩ = some (.int .i64 l2.n) := HG3.out.a.cell 1
      have a2c : w3.cell? ⟨w.heap.size, 2, none⟩ = some (.int .i64 l2.e) := HG3.out.a.cell 2
      have a3c : w3.cell? ⟨w.heap.size, 3, none⟩ = some (.int .i64 l2.d) := HG3.out.a.cell 3
      have a4c : w3.cell? ⟨w.heap.size, 4, none⟩ = some (.int .i64 l2.x) := HG3.out.a.cell 4
      have HP : Hid (Calls Tryd.prog 5 #[.string a0, .string a1, .agg #[.int .i64 l2.b, .int .i64 l2.n, .int .i64 l2.e, .int .i64 l2.d, .int .i64 l2.x]] w3 fun e w' => GeOut a0 a1 l2 w3 w' e) := pnget_any a0 a1 l2 w3 (HT.out.on HG3.out.bel) (by omega) (by omega) (fun L hL => qn_small hL (by omega) (by omega)) HRg.out
      go_wp2_with fail
      refine Calls.mono HP.out ?_
      rintro e w4 ⟨X, a, c, r, k, rfl, hg4, hsc, hsm, hfn, hb4⟩
      have HE : Hid (GeIs a0 a1 l2 (X.map Nx.nd) r k) := hg4
      have HZ : Hid (k ≠ 0 → X = [] ∧ r = 0) := ge_bad hg4
      obtain ⟨w5, hw5⟩ : ∃ w5, w4.alloc (.cells #[.slice a X.length c, .int .i64 r] 27) = w5 := ⟨_, rfl⟩
      have hb5 : Below w4.heap.size w4 w5 := by rw [← hw5]; exact (Below.refl w4.heap.size w4).alloc (Nat.le_refl _) _
      have HM5 : Hid (AtN 27 w5 w4.heap.size #[.slice a X.length c, .int .i64 r]) := by rw [← hw5]; exact AtN.new w4 27 _
      have HG5 : Hid (Lg w w5 l2) := (HG3.out.more hb4).more hb5
      have HS5 : Hid (ScAt w5 a X ∧ Small X ∧ FnX X) := ⟨hsc.belowB hb5, hsm, hfn⟩
      clear HP HG3 hg4 hsc hsm hfn hb4 hb5 a0c a1c a2c a3c a4c
      have m0 : w5.cell? ⟨w4.heap.size, 0, none⟩ = some (.slice a X.length c) := HM5.out.cell 0
      have m1 : w5.cell? ⟨w4.heap.size, 1, none⟩ = some (.int .i64 r) := HM5.out.cell 1
      by_cases hk : k = 0
      · subst hk
        obtain ⟨p1, p2, p3, p4, d, p5, p6⟩ := got_all HE.out
        have HPu : Hid (PuIs X r a0 a1 0) := p1
        have HVa : Hid (∀ W, ScAt W a X → Tabs12 W → Calls Tryd.prog 7 #[.agg #[.slice a X.length c, .int .i64 r], .agg #[.int .i64 l2.b, .int .i64 l2.n, .int .i64 l2.e, .int .i64 l2.d, .int .i64 l2.x]] W fun e w' => ∃ z, e = .returned (.tuple #[.int .i64 0, .int .i64 z]) ∧ Below W.heap.size W w') := fun W hs ht => by
          refine Calls.mono (valid_any X a c r l2 d W hs HS5.out.2.1 HS5.out.2.2 ht p5) ?_
          rintro e w' ⟨e1, z1, rfl, hv, hb⟩
          obtain rfl := va_none hv p2 p3 p4 p6
          exact ⟨z1, rfl, hb⟩
        have HP : Hid _ := pnput_any X a c r w5 HS5.out.1 HS5.out.2.1 HS5.out.2.2 (HT.out.on HG5.out.bel)
        clear p1 p2 p3 p4 p5 p6 HE HZ
        go_wp2_with fail
        clear hw5
        refine Calls.mono HP.out ?_
        rintro e w6 ⟨A, C, k, rfl, hpu, hb6⟩
        obtain ⟨rfl, rfl, rfl⟩ := HPu.out.uniq hpu
        have HG6 : Hid (Lg w w6 l2) := HG5.out.more hb6
        have HM6 : Hid (AtN 27 w6 w4.heap.size #[.slice a X.length c, .int .i64 r]) := HM5.out.belowAll hb6
        have HS6 : Hid (ScAt w6 a X) := HS5.out.1.belowB hb6
        clear HP HG5 HM5 hb6 hpu m0 m1 HPu
        have m0 : w6.cell? ⟨w4.heap.size, 0, none⟩ = some (.slice a X.length c) := HM6.out.cell 0
        have m1 : w6.cell? ⟨w4.heap.size, 1, none⟩ = some (.int .i64 r) := HM6.out.cell 1
        have a0c : w6.cell? ⟨w.heap.size, 0, none⟩ = some (.int .i64 l2.b) := HG6.out.a.cell 0
        have a1c : w6.cell? ⟨w.heap.size, 1, none⟩ = some (.int .i64 l2.n) := HG6.out.a.cell 1
        have a2c : w6.cell? ⟨w.heap.size, 2, none⟩ = some (.int .i64 l2.e) := HG6.out.a.cell 2
        have a3c : w6.cell? ⟨w.heap.size, 3, none⟩ = some (.int .i64 l2.d) := HG6.out.a.cell 3
        have a4c : w6.cell? ⟨w.heap.size, 4, none⟩ = some (.int .i64 l2.x) := HG6.out.a.cell 4
        go_wp2_with fail
        refine Calls.mono (HVa.out w6 HS6.out (HT.out.on HG6.out.bel)) ?_
        rintro e w7 ⟨z, rfl, hb7⟩
        have HB7 : Hid (Below w.heap.size w w7) := (HG6.out.more hb7).bel
        have q1 : (A.toList == A.toList) = true := by simp
        have q2 : (C.toList == C.toList) = true := by simp
        clear HVa hb7 HG6 HM6 HS6 m0 m1 a0c a1c a2c a3c a4c
        go_wp2_with fail
        go_ret
        exact ⟨rfl, HB7.out⟩
      · have hq1 : ((X.length : Int) == 0) = true := by rw [(HZ.out hk).1]; rfl
        have hq2 : (r == 0) = true := by rw [(HZ.out hk).2]; rfl
        have hk' : (k != 0) = true := by simpa using hk
        have HB5 : Hid (Below w.heap.size w w5) := HG5.out.bel
        clear HE HZ
        go_wp2_with fail
        go_ret
        exact ⟨rfl, HB5.out⟩
    · have h1' : (800 : Int) < a1.size := by omega
      go_wp2_with fail
      refine Calls.mono (HA.out _ HG3.out.bel) ?_
      rintro e w4 ⟨rfl, hb4⟩
      have HB4 : Hid (Below w.heap.size w w4) := (HG3.out.more hb4).bel
      clear HG3 hb4
      go_wp2_with fail
      go_ret
      exact ⟨rfl, HB4.out⟩
  · have h0' : (800 : Int) < a0.size := by omega
    go_wp2_with fail
    refine Calls.mono (HA.out _ HG3.out.bel) ?_
    rintro e w4 ⟨rfl, hb4⟩
    have HB4 : Hid (Below w.heap.size w w4) := (HG3.out.more hb4).bel
    clear HG3 hb4
    go_wp2_with fail
    go_ret
    exact ⟨rfl, HB4.out⟩

set_option maxRecDepth 100000 in
theorem lifted (os : Os) (started : os.Started) (H : Type) (enc : TypeId × Value → H) :
    ReturnsInHanded {} Tryd.checked os 3 .any (fun w args => (Rows.nodesOneSpec.pre enc Tryd.prog Tryd.f3 [] false w args ∧ laidMetH Tryd.prog laid2 w) ∧ sizedMet enc Tryd.prog Tryd.f3 (OpenSpec.ofChange Rows.nodesOneSpec) false w args)
      (Rows.nodesOneSpec.post enc Tryd.prog Tryd.f3 false true false false) := by
  refine returnsInHanded_of_change_and (C := Tryd.checked) (X := fun w _ => laidMetH Tryd.prog laid2 w) (fun _ _ _ hh h => h.of_heap hh) own started (by kernel_rfl) Tryd.func3
    (ChangeSpec.witness_shaped (enc := enc) (C := Tryd.checked) (os := os) (X := fun w _ => laidMetH Tryd.prog laid2 w) false (World.doorLaid Tryd.prog 400 os) #[.string ByteArray.empty, .string ByteArray.empty, .agg #[.int .i64 0, .int .i64 0, .int .i64 0, .int .i64 0, .int .i64 0]] 8 rfl (World.shaped_of_RefB (by kernel_rfl) (by kernel_rfl)) (by kernel_rfl) (by kernel_rfl) (by kernel_rfl) (door_met os _)) ?_
  intro W base args ds gs before hval0 hW _ _ hL _
  have hval : ∀ (j : Nat) t v, Tryd.f3.params[j]? = some t → args[j]? = some v → Value.okWide Tryd.prog W .any base t v := hval0
  have hW' := hW
  obtain ⟨p, q, hA0, hV, rfl, hfz, hnd⟩ := hW
  have hA : DataW.TrodAll enc Tryd.prog W 0 (fun _ => true) true Tryd.f3.params.toList args.toList ds p := hA0
  rw [Tryd.params3] at hA hval
  obtain ⟨v0, vs0, d0, ds0, p0, q0, hargs, rfl, rfl, h0, r0⟩ := trodAll_cons hA
  obtain ⟨v1, vs1, d1, ds1, p1, q1, rfl, rfl, rfl, h1, r1⟩ := trodAll_cons r0
  obtain ⟨v2, vs2, d2, ds2, p2, q2, rfl, rfl, rfl, h2, r2⟩ := trodAll_cons r1
  obtain ⟨rfl, rfl, rfl⟩ := trodAll_nil r2
  obtain rfl : args = #[v0, v1, v2] := by cases args; simp_all
  obtain ⟨rfl, rfl⟩ := trodVars_none hV
  obtain ⟨a0, rfl, rfl, rfl, w0⟩ := open_string Tryd.underlying9 (hval 0 9 v0 rfl rfl) h0
  obtain ⟨a1, rfl, rfl, rfl, w1⟩ := open_string Tryd.underlying9 (hval 1 9 v1 rfl rfl) h1
  have K2 := h2
  have lt2 : ∀ x ∈ p2, x.block < W.heap.size := by obtain ⟨m, hm⟩ := K2; exact DataW.trod_lt m _ _ _ hm
  obtain ⟨l2, rfl, w2⟩ := open_lim Tryd.underlying23 (by kernel_rfl) (by kernel_rfl) Tryd.underlying3 Tryd.underlying3 Tryd.underlying3 Tryd.underlying3 Tryd.underlying3 (hval 2 23 v2 rfl rfl) h2
  clear hA0 hval0
  refine (walk a0 a1 l2 W w0 w1 w2 (tabs_of hL)).mono fun e W' ⟨he, bel⟩ => ?_
  subst he
  exact ⟨_, rfl, _, _, _, [], _, [], hW', trodAll_mk1 (shut_bool Tryd.underlying4 _), (trodAll_cons_mk (shut_string Tryd.underlying9 w0) (trodAll_cons_mk (shut_string Tryd.underlying9 w1) (trodAll_cons_mk (Below.trod laidOut (by kernel_rfl) (of_decide_eq_true (by kernel_rfl)) K2 bel lt2) trodAll_mk0))), rfl, bel.frame _, fun h => by cases h⟩

theorem row : Rows.nodesOneRow.holds Tryd.pinned (OpenSpec.ofChange Rows.nodesOneSpec) :=
  OpenClaim.holds_of_wide 3 Tryd.f3 rfl rfl rfl rfl rfl rfl rfl ⟨rfl, rfl, rfl, rfl, rfl⟩ rfl rfl rfl rfl rfl (by kernel_rfl) Tryd.func3 (by kernel_rfl)
    (of_decide_eq_true (by kernel_rfl)) (by unfold Func.isWrapper; first | (rw [if_pos (by decide +kernel)]; kernel_rfl) | (rw [if_neg (by decide +kernel)]; exact ⟨rfl, rfl⟩))
    (fun os started H enc _ => lifted os started H enc)

/-- No parameter wants a stand-in; the program's own looks are as the card says. -/
theorem plain (f : FuncId) (fn : Func) (hf : Tryd.pinned.checked.prog.funcNamed Rows.nodesOneRow.func = some f) (hfn : Tryd.pinned.checked.prog.funcs[f]? = some fn) :
    true = Tryd.pinned.checked.prog.looks [] ∧ ∀ (j : Nat) t, fn.params[j]? = some t → Tryd.pinned.checked.prog.wantsStandIn t = false := by
  obtain rfl : f = 3 := Option.some.inj ((show Tryd.prog.funcNamed Rows.nodesOneRow.func = some 3 by kernel_rfl).symm.trans hf) |>.symm
  obtain rfl : fn = Tryd.f3 := (Option.some.inj (Tryd.func3.symm.trans hfn)).symm
  refine ⟨by kernel_rfl, fun j t ht => ?_⟩
  have hm := Array.mem_of_getElem? ht
  have hall : (Tryd.f3.params.toList.all fun u => !Tryd.prog.wantsStandIn u) = true := by kernel_rfl
  exact (show Tryd.prog.wantsStandIn t = false by simpa using List.all_eq_true.1 hall t (by simpa using hm))

/-- ████ THE CARD ████ -/
theorem over : Rows.NodesOneCardSaid :=
  Claim7.holds_tied_plain_at .later [] _ _ _ _ row (fun _ h => by cases h) (by kernel_rfl) (fun _ h => by cases h) nodesOne_row_tie rfl ⟨rfl, rfl⟩ (by kernel_rfl) rfl plain (by kernel_rfl)

end Go.Proofs.YthfemhpbamcpjaaDoor.nodesOne

namespace Go.Proofs.YthfemhpbamcpjaaDoor
theorem nodesOne_holds : Rows.NodesOneCardSaid := nodesOne.over
#print axioms nodesOne_holds
end Go.Proofs.YthfemhpbamcpjaaDoor
