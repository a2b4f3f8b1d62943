/- For every kind: it has, in both versions, what the document says, or isn't; and what is answered is the caller's: written into, it changes no later answer; nothing that came in is changed. The package's tables hold what the program's text lays into them when the call begins (the card ties that). -/
import Derived.Test.YtpnclcafhalaoaaDoorRows
import Derived.Test.YtpnclcafhalaoaaDoorCards
import Derived.Test.YtpnclcafhalaoaaDoorTie
import Derived.WalkKit
import Derived.ProofKit
import Derived.OpenShut
import Derived.ShutString
import Derived.Below
import Derived.Laws.OwnMore
import Derived.Test.YtpnclcafhalaoaaDoorSLaid
import Derived.Test.YtpnclcafhalaoaaDoorSRef
import Derived.Test.YtpnclcafhalaoaaDoorSRef3
import Derived.ChangeOld
import Derived.LaidMore
import Derived.SevenTiedAt
namespace Go.Proofs.YtpnclcafhalaoaaDoor.schemaSpecs
open Go.ChangeShapes Go.WideShapes Go.ChangeAt Go.RowKit
open Go.ChangeMaps (open_string shut_string)
set_option linter.unusedVariables false

theorem own : ownKnob Tryd.prog.godebug = none := by kernel_rfl
theorem laidOut : laidOutB Tryd.prog = true := by kernel_rfl

theorem newSp_len (k : Int) : (newSp k).ints.length ≤ 4 := by
  unfold newSp
  repeat' split
  all_goals decide
theorem oldSp_len (k : Int) : (oldSp k).ints.length ≤ 4 := by
  unfold oldSp
  repeat' split
  all_goals decide
theorem ne_self (b : Bool) : (b != b) = false := by cases b <;> rfl

theorem row_at {w : World} {B n : Nat} {a : Option Addr} {cap : Nat} {xs : List Value} (h : w.ownsRow B 3 1 (.slice a n cap) n xs) (j : Nat) (hj : j < n) : ∃ g u, a = some ⟨g, 0, none⟩ ∧ w.cell? ⟨g, j, none⟩ = some u ∧ w.frozen? ⟨g, j, none⟩ = false ∧ B ≤ g ∧
    (w.setCell ⟨g, j, none⟩ (.int .i64 9)).ownsRow B 3 1 (.slice a n cap) n (xs.set j (.int .i64 9)) := by
  rcases h.2 with ⟨_, h2⟩ | ⟨g, cap', cur, e, h1, h2, h3⟩
  · omega
  · simp only [Value.slice.injEq] at e
    obtain ⟨rfl, _, rfl⟩ := e
    have hl := h.1
    refine ⟨g, xs[j], rfl, ?_, h.frozenAt j, h1, (h.stored j _).1⟩
    rw [h.cellAt j (by omega)]
    simp

set_option maxRecDepth 10000 in
set_option maxHeartbeats 400000 in
theorem walk' (k : Int) (ok oq : Bool) (L M : List Int) (t l m t' l' m' : Int) (w : World) (hS : newSp k = ⟨ok, L, t, l, m⟩) (hO : oldSp k = ⟨oq, M, t', l', m'⟩) (hL : L.length ≤ 4) (hM : M.length ≤ 4) (hT : Tabs w) :
    Calls Tryd.prog 3 #[.int .i64 k] w fun e w' => e = .returned (.bool true) ∧ Below w.heap.size w w' := by
  have HT : Hid _ := hT
  have H1 : Hid _ := fun (W : World) (hW : TabAt W 0 kindsC) => new_c k _ W hW hS
  have H2 : Hid (∀ W : World, Calls Tryd.prog 9 #[.int .i64 2, .int .i64 k] W fun e w' => SpIs W w' e ⟨ok, L, t, l, m⟩) := fun W => hS ▸ rspec2_any k W
  have H3 : Hid _ := fun (W : World) (hW : TabAt W 1 oldC) => old_c k _ W hW hO
  have H4 : Hid (∀ W : World, Calls Tryd.prog 9 #[.int .i64 1, .int .i64 k] W fun e w' => SpIs W w' e ⟨oq, M, t', l', m'⟩) := fun W => hO ▸ rspec1_any k W
  have n1 := ne_self ok
  have n2 := ne_self oq
  clear hT hS hO
  go_enter Tryd.func3, Tryd.ntmps3
  go_wp2_with fail
  refine (awake_any w HT.out).mono ?_
  rintro e w0 ⟨rfl, B0⟩
  go_wp2_with fail
  go_loopw [14] (fun iv wr => ∃ (i : Nat), iv = .int .i64 i ∧ i ≤ 2 ∧ Below w.heap.size w wr) (fun iv _ => 2 - (intOf iv).toNat)
  case atStart => exact ⟨0, rfl, by omega, B0⟩
  case round =>
    obtain ⟨i, rfl, hi, hB⟩ := hrel
    by_cases hlt : i < 2
    · have hlt' : (i : Int) < 2 := by omega
      have T0 := HT.out.below hB
      go_wp2_with fail
      refine (H1.out wr T0.k).mono ?_
      rintro e w1 h1
      obtain ⟨a1, p1, rfl, I1, C1⟩ := sp_shape _ rfl h1
      have B1 := bjoin hB C1 hB.size
      have A1 := AtN.new w1 25 #[.slice a1 L.length p1, .int .i64 t, .int .i64 l, .int .i64 m]
      have J1 := Ints.alloc I1 (.cells #[.slice a1 L.length p1, .int .i64 t, .int .i64 l, .int .i64 m] 25)
      have D1 := balloc B1 B1.size (.cells #[.slice a1 L.length p1, .int .i64 t, .int .i64 l, .int .i64 m] 25)
      have hne : ∀ r, (Value.slice a1 L.length p1).ownBlock = some r → r ≠ w1.heap.size ∧ wr.heap.size ≤ r := fun r hr => by have := World.ownsRow.lt I1 r hr; omega
      have hwr : w.heap.size ≤ wr.heap.size := hB.size
      clear h1 T0 hB I1 B1 C1
      go_wp2_with fail
      refine (H2.out _).mono ?_
      rintro e w2 h2
      obtain ⟨a2, p2, rfl, I2, C2⟩ := sp_shape _ rfl h2
      have E1 := (A1.belowAll C2).alloc (.cells #[.slice a2 L.length p2, .int .i64 t, .int .i64 l, .int .i64 m] 25)
      have K1 := Ints.alloc (Ints.below J1 C2) (.cells #[.slice a2 L.length p2, .int .i64 t, .int .i64 l, .int .i64 m] 25)
      have A2 := AtN.new w2 25 #[.slice a2 L.length p2, .int .i64 t, .int .i64 l, .int .i64 m]
      have K2 := Ints.alloc I2 (.cells #[.slice a2 L.length p2, .int .i64 t, .int .i64 l, .int .i64 m] 25)
      have B2 := bjoin D1 C2 D1.size
      have D2 := balloc B2 B2.size (.cells #[.slice a2 L.length p2, .int .i64 t, .int .i64 l, .int .i64 m] 25)
      clear h2 A1 J1 D1 I2 B2 C2
      go_wp2_with fail
      generalize w2.alloc (.cells #[.slice a2 L.length p2, .int .i64 t, .int .i64 l, .int .i64 m] 25) = W2 at *
      refine (H3.out W2 (HT.out.below D2).o).mono ?_
      rintro e w3 h3
      obtain ⟨a3, p3, rfl, I3, C3⟩ := sp_shape _ rfl h3
      have F1 := (E1.belowAll C3).alloc (.cells #[.slice a3 M.length p3, .int .i64 t', .int .i64 l', .int .i64 m'] 25)
      have F2 := (A2.belowAll C3).alloc (.cells #[.slice a3 M.length p3, .int .i64 t', .int .i64 l', .int .i64 m'] 25)
      have M1 := Ints.alloc (Ints.below K1 C3) (.cells #[.slice a3 M.length p3, .int .i64 t', .int .i64 l', .int .i64 m'] 25)
      have M2 := Ints.alloc (Ints.below K2 C3) (.cells #[.slice a3 M.length p3, .int .i64 t', .int .i64 l', .int .i64 m'] 25)
      have A3 := AtN.new w3 25 #[.slice a3 M.length p3, .int .i64 t', .int .i64 l', .int .i64 m']
      have M3 := Ints.alloc I3 (.cells #[.slice a3 M.length p3, .int .i64 t', .int .i64 l', .int .i64 m'] 25)
      have B3 := bjoin D2 C3 D2.size
      have D3 := balloc B3 B3.size (.cells #[.slice a3 M.length p3, .int .i64 t', .int .i64 l', .int .i64 m'] 25)
      clear h3 E1 K1 A2 K2 D2 I3 B3 C3
      go_wp2_with fail
      generalize w3.alloc (.cells #[.slice a3 M.length p3, .int .i64 t', .int .i64 l', .int .i64 m'] 25) = W3 at *
      refine (H4.out W3).mono ?_
      rintro e w4 h4
      obtain ⟨a4, p4, rfl, I4, C4⟩ := sp_shape _ rfl h4
      have G1 := (F1.belowAll C4).alloc (.cells #[.slice a4 M.length p4, .int .i64 t', .int .i64 l', .int .i64 m'] 25)
      have G2 := (F2.belowAll C4).alloc (.cells #[.slice a4 M.length p4, .int .i64 t', .int .i64 l', .int .i64 m'] 25)
      have G3 := (A3.belowAll C4).alloc (.cells #[.slice a4 M.length p4, .int .i64 t', .int .i64 l', .int .i64 m'] 25)
      have O1 := Ints.alloc (Ints.below M1 C4) (.cells #[.slice a4 M.length p4, .int .i64 t', .int .i64 l', .int .i64 m'] 25)
      have O2 := Ints.alloc (Ints.below M2 C4) (.cells #[.slice a4 M.length p4, .int .i64 t', .int .i64 l', .int .i64 m'] 25)
      have O3 := Ints.alloc (Ints.below M3 C4) (.cells #[.slice a4 M.length p4, .int .i64 t', .int .i64 l', .int .i64 m'] 25)
      have G4 := AtN.new w4 25 #[.slice a4 M.length p4, .int .i64 t', .int .i64 l', .int .i64 m']
      have O4 := Ints.alloc I4 (.cells #[.slice a4 M.length p4, .int .i64 t', .int .i64 l', .int .i64 m'] 25)
      have B4 := bjoin D3 C4 D3.size
      have D4 := balloc B4 B4.size (.cells #[.slice a4 M.length p4, .int .i64 t', .int .i64 l', .int .i64 m'] 25)
      clear h4 F1 F2 M1 M2 A3 M3 D3 I4 B4 C4
      obtain ⟨W4, hW4⟩ : ∃ W4, w4.alloc (.cells #[.slice a4 M.length p4, .int .i64 t', .int .i64 l', .int .i64 m'] 25) = W4 := ⟨_, rfl⟩
      rw [hW4] at G1 G2 G3 G4 O1 O2 O3 O4 D4
      have c10 : W4.cell? ⟨w1.heap.size, 0, none⟩ = some (.slice a1 L.length p1) := G1.cell 0
      have c11 : W4.cell? ⟨w1.heap.size, 1, none⟩ = some (.int .i64 t) := G1.cell 1
      have c12 : W4.cell? ⟨w1.heap.size, 2, none⟩ = some (.int .i64 l) := G1.cell 2
      have c13 : W4.cell? ⟨w1.heap.size, 3, none⟩ = some (.int .i64 m) := G1.cell 3
      have c20 : W4.cell? ⟨w2.heap.size, 0, none⟩ = some (.slice a2 L.length p2) := G2.cell 0
      have c21 : W4.cell? ⟨w2.heap.size, 1, none⟩ = some (.int .i64 t) := G2.cell 1
      have c22 : W4.cell? ⟨w2.heap.size, 2, none⟩ = some (.int .i64 l) := G2.cell 2
      have c23 : W4.cell? ⟨w2.heap.size, 3, none⟩ = some (.int .i64 m) := G2.cell 3
      have HG : Hid _ := (⟨G1, G3, G4, O1, O2, O3, O4, D4⟩ : _ ∧ _ ∧ _ ∧ _ ∧ _ ∧ _ ∧ _ ∧ _)
      clear G1 G2 G3 G4 O1 O2 O3 O4 D4
      subst hW4
      go_wp2_with fail
      obtain ⟨G1, G3, G4, O1, O2, O3, O4, D4⟩ := HG.out
      refine (same_yes _ _ _ _ _ t l m L O1 O2 (by omega)).mono ?_
      rintro e w5 ⟨rfl, B5⟩
      clear HG c10 c11 c12 c13 c20 c21 c22 c23
      have Q1 := G1.belowAll B5
      have Q3 := G3.belowAll B5
      have Q4 := G4.belowAll B5
      have P1 := Ints.below O1 B5
      have P3 := Ints.below O3 B5
      have P4 := Ints.below O4 B5
      have D5 := bjoin D4 B5 D4.size
      clear G1 G3 G4 O1 O2 O3 O4 D4 B5
      have c30 : w5.cell? ⟨w3.heap.size, 0, none⟩ = some (.slice a3 M.length p3) := Q3.cell 0
      have c31 : w5.cell? ⟨w3.heap.size, 1, none⟩ = some (.int .i64 t') := Q3.cell 1
      have c32 : w5.cell? ⟨w3.heap.size, 2, none⟩ = some (.int .i64 l') := Q3.cell 2
      have c33 : w5.cell? ⟨w3.heap.size, 3, none⟩ = some (.int .i64 m') := Q3.cell 3
      have c40 : w5.cell? ⟨w4.heap.size, 0, none⟩ = some (.slice a4 M.length p4) := Q4.cell 0
      have c41 : w5.cell? ⟨w4.heap.size, 1, none⟩ = some (.int .i64 t') := Q4.cell 1
      have c42 : w5.cell? ⟨w4.heap.size, 2, none⟩ = some (.int .i64 l') := Q4.cell 2
      have c43 : w5.cell? ⟨w4.heap.size, 3, none⟩ = some (.int .i64 m') := Q4.cell 3
      clear Q3 Q4
      go_wp2_with fail
      refine (same_yes _ _ _ _ _ t' l' m' M P3 P4 (by omega)).mono ?_
      rintro e w6 ⟨rfl, B6⟩
      have R1 := Q1.belowAll B6
      have S1 := Ints.below P1 B6
      have D6 := bjoin D5 B6 D5.size
      have e10 : w6.cell? ⟨w1.heap.size, 0, none⟩ = some (.slice a1 L.length p1) := R1.cell 0
      clear Q1 P1 P3 P4 D5 B6 c30 c31 c32 c33 c40 c41 c42 c43
      go_wp2_with fail
      go_loopw [59] (fun iv wq => ∃ (q : Nat) (xs : List Value), iv = .int .i64 q ∧ q ≤ L.length ∧ AtN 25 wq w1.heap.size #[.slice a1 L.length p1, .int .i64 t, .int .i64 l, .int .i64 m] ∧ wq.ownsRow w.heap.size 3 1 (.slice a1 L.length p1) L.length xs ∧ Below w.heap.size w wq) (fun iv _ => L.length - (intOf iv).toNat)
      case atStart => exact ⟨0, _, rfl, by omega, R1, own_mono S1 hwr, D6⟩
      case round =>
        obtain ⟨q, xs, rfl, hq, hA, hO, hB⟩ := hrel
        have f10 : wr.cell? ⟨w1.heap.size, 0, none⟩ = some (.slice a1 L.length p1) := hA.cell 0
        by_cases hql : q < L.length
        · have hql' : (q : Int) < L.length := by omega
          obtain ⟨g, u, rfl, hc, hf, hg, hO'⟩ := row_at hO q hql
          have hgn : g ≠ w1.heap.size := (hne g rfl).1
          have A' := hA.setOther ⟨g, q, none⟩ hgn (.int .i64 9)
          have B' := set_below hB ⟨g, q, none⟩ hg (.int .i64 9)
          clear hA hO hB
          go_wp2_with fail
          go_roundw
          case rel => exact ⟨q + 1, _, by go_num, by omega, A', hO', B'⟩
          case measure => simp [intOf]; omega
        · have hql' : ¬ (q : Int) < L.length := by omega
          go_wp2_with fail
          go_roundw
          case rel => exact ⟨i + 1, by go_num, by omega, hB⟩
          case measure => simp [intOf]; omega
    · have hlt' : ¬ (i : Int) < 2 := by omega
      go_wp2_with fail
      go_ret
      exact ⟨rfl, hB⟩

set_option maxRecDepth 10000 in
set_option maxHeartbeats 400000 in
theorem walk (a0 : Int) (w : World) (w0 : (Lit.int .i64 a0).wf = true) (hT : Tabs w) :
    Calls Tryd.prog 3 #[.int .i64 a0] w fun e w' => e = .returned (.bool true) ∧ Below w.heap.size w w' := by
  have hL := newSp_len a0
  have hM := oldSp_len a0
  obtain ⟨ok, L, t, l, m, hS⟩ : ∃ ok L t l m, newSp a0 = ⟨ok, L, t, l, m⟩ := ⟨_, _, _, _, _, rfl⟩
  obtain ⟨oq, M, t', l', m', hO⟩ : ∃ ok L t l m, oldSp a0 = ⟨ok, L, t, l, m⟩ := ⟨_, _, _, _, _, rfl⟩
  rw [hS] at hL
  rw [hO] at hM
  exact walk' a0 ok oq L M t l m t' l' m' w hS hO hL hM hT

set_option maxRecDepth 100000 in
theorem lifted (os : Os) (started : os.Started) (H : Type) (enc : TypeId × Value → H) :
    ReturnsInHanded {} Tryd.checked os 3 .any (fun w args => (Rows.schemaSpecsSpec.pre enc Tryd.prog Tryd.f3 [] false w args ∧ laidMetH Tryd.prog laid4 w) ∧ sizedMet enc Tryd.prog Tryd.f3 (OpenSpec.ofChange Rows.schemaSpecsSpec) false w args)
      (Rows.schemaSpecsSpec.post enc Tryd.prog Tryd.f3 false true false false) := by
  refine returnsInHanded_of_change_and (C := Tryd.checked) (X := fun w _ => laidMetH Tryd.prog laid4 w) (fun _ _ _ hh h => h.of_heap hh) own started (by kernel_rfl) Tryd.func3
    (ChangeSpec.witness_shaped (enc := enc) (C := Tryd.checked) (os := os) (X := fun w _ => laidMetH Tryd.prog laid4 w) false (World.doorLaid Tryd.prog 400 os) #[.int .i64 0] 8 rfl (World.shaped_of_RefB (by kernel_rfl) (by kernel_rfl)) (by kernel_rfl) (by kernel_rfl) (by kernel_rfl) (door_met os _)) ?_
  intro W base args ds gs before hval0 hW _ _ hL _
  have hval : ∀ (j : Nat) t v, Tryd.f3.params[j]? = some t → args[j]? = some v → Value.okWide Tryd.prog W .any base t v := hval0
  have hW' := hW
  obtain ⟨p, q, hA0, hV, rfl, hfz, hnd⟩ := hW
  have hA : DataW.TrodAll enc Tryd.prog W 0 (fun _ => true) true Tryd.f3.params.toList args.toList ds p := hA0
  rw [Tryd.params3] at hA hval
  obtain ⟨v0, vs0, d0, ds0, p0, q0, hargs, rfl, rfl, h0, r0⟩ := trodAll_cons hA
  obtain ⟨rfl, rfl, rfl⟩ := trodAll_nil r0
  obtain rfl : args = #[v0] := by cases args; simp_all
  obtain ⟨rfl, rfl⟩ := trodVars_none hV
  obtain ⟨a0, rfl, rfl, rfl, w0⟩ := open_int Tryd.underlying3 (hval 0 3 v0 rfl rfl) h0
  clear hA0 hval0
  refine (walk a0 W w0 (tabs_of hL)).mono fun e W' ⟨he, bel⟩ => ?_
  subst he
  exact ⟨_, rfl, _, _, _, [], _, [], hW', trodAll_mk1 (shut_bool Tryd.underlying4 _), (trodAll_cons_mk (shut_int Tryd.underlying3 w0) trodAll_mk0), rfl, bel.frame _, fun h => by cases h⟩

theorem row : Rows.schemaSpecsRow.holds Tryd.pinned (OpenSpec.ofChange Rows.schemaSpecsSpec) :=
  OpenClaim.holds_of_wide 3 Tryd.f3 rfl rfl rfl rfl rfl rfl rfl ⟨rfl, rfl, rfl, rfl, rfl⟩ rfl rfl rfl rfl rfl (by kernel_rfl) Tryd.func3 (by kernel_rfl)
    (of_decide_eq_true (by kernel_rfl)) (by unfold Func.isWrapper; first | (rw [if_pos (by decide +kernel)]; kernel_rfl) | (rw [if_neg (by decide +kernel)]; exact ⟨rfl, rfl⟩))
    (fun os started H enc _ => lifted os started H enc)

/-- No parameter wants a stand-in; the program's own looks are off: what the card asks. -/
theorem plain (f : FuncId) (fn : Func) (hf : Tryd.pinned.checked.prog.funcNamed Rows.schemaSpecsRow.func = some f) (hfn : Tryd.pinned.checked.prog.funcs[f]? = some fn) :
    false = Tryd.pinned.checked.prog.looks [] ∧ ∀ (j : Nat) t, fn.params[j]? = some t → Tryd.pinned.checked.prog.wantsStandIn t = false := by
  obtain rfl : f = 3 := Option.some.inj ((show Tryd.prog.funcNamed Rows.schemaSpecsRow.func = some 3 by kernel_rfl).symm.trans hf) |>.symm
  obtain rfl : fn = Tryd.f3 := (Option.some.inj (Tryd.func3.symm.trans hfn)).symm
  refine ⟨by kernel_rfl, fun j t ht => ?_⟩
  have hm := Array.mem_of_getElem? ht
  have hall : (Tryd.f3.params.toList.all fun u => !Tryd.prog.wantsStandIn u) = true := by kernel_rfl
  exact (show Tryd.prog.wantsStandIn t = false by simpa using List.all_eq_true.1 hall t (by simpa using hm))

/-- ████ THE CARD ████ -/
theorem over : Rows.SchemaSpecsCardSaid :=
  Claim7.holds_tied_plain_at .later [] _ _ _ _ row (fun _ h => by cases h) (by kernel_rfl) (fun _ h => by cases h) schemaSpecs_row_tie rfl ⟨rfl, rfl⟩ (by kernel_rfl) rfl plain (by kernel_rfl)

end Go.Proofs.YtpnclcafhalaoaaDoor.schemaSpecs

namespace Go.Proofs.YtpnclcafhalaoaaDoor
theorem schemaSpecs_holds : Rows.SchemaSpecsCardSaid := schemaSpecs.over
#print axioms schemaSpecs_holds
end Go.Proofs.YtpnclcafhalaoaaDoor
