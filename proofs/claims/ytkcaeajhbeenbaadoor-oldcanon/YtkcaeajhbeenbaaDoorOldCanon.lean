/- For every scene of which the document says that nothing is wrong with how its nodes lead to each other: made flat by the program it is forward, has the same canonical scene, and, made flat again, is as it was (scenes greater than the law plays with are let go by the law itself); the argument reads afterwards as before. The package schema's tables hold what the program's text lays into them when the call begins (the card ties them). -/
import Derived.Test.YtkcaeajhbeenbaaDoorRows
import Derived.Test.YtkcaeajhbeenbaaDoorCards
import Derived.Test.YtkcaeajhbeenbaaDoorTie
import Derived.WalkKit
import Derived.ProofKit
import Derived.OpenShut
import Derived.ShutString
import Derived.Below
import Derived.Test.YtkcaeajhbeenbaaDoorOAw
import Derived.ChangeOld
import Derived.LaidMore
import Derived.SevenTiedAt
namespace Go.Proofs.YtkcaeajhbeenbaaDoor.oldCanon
open Go.ChangeShapes Go.WideShapes Go.ChangeAt Go.RowKit
open Go.ChangeMaps (open_string shut_string)
set_option linter.unusedVariables false

theorem own : ownKnob Tryd.prog.godebug = none := by kernel_rfl
theorem laidOut : laidOutB Tryd.prog = true := by kernel_rfl

/-- The four scenes' cells. -/
def Qc (w : World) (gT gC gU : Nat) (W : World) (a0 aT aC aU : Option Addr) (X0 T C U : List Nx) (c0 cT cC cU : Nat) (r0 : Int) : Prop := W.cell? ⟨w.heap.size, 0, none⟩ = some (.slice a0 X0.length c0) ∧ W.cell? ⟨w.heap.size, 1, none⟩ = some (.int .i64 r0) ∧ W.cell? ⟨gT, 0, none⟩ = some (.slice aT X0.length cT) ∧ W.cell? ⟨gT, 1, none⟩ = some (.int .i64 0) ∧ W.cell? ⟨gC, 0, none⟩ = some (.slice aC C.length cC) ∧ W.cell? ⟨gC, 1, none⟩ = some (.int .i64 ((X0.length : Int) - 1)) ∧ W.cell? ⟨gU, 0, none⟩ = some (.slice aU X0.length cU) ∧ W.cell? ⟨gU, 1, none⟩ = some (.int .i64 0)
/-- The four scenes. -/
structure Qd (w : World) (gT gC gU : Nat) (W : World) (a0 aT aC aU : Option Addr) (X0 T C U : List Nx) (c0 cT cC cU : Nat) (r0 : Int) : Prop where
  u : AtN 24 W gU #[.slice aU X0.length cU, .int .i64 0]
  us : ScAt W aU U
  c : AtN 24 W gC #[.slice aC C.length cC, .int .i64 ((X0.length : Int) - 1)]
  cs : ScAt W aC C
  t : AtN 24 W gT #[.slice aT X0.length cT, .int .i64 0]
  ts : ScAt W aT T
  l : Lw w W a0 X0 c0 r0
section
variable {w : World} {gT gC gU : Nat} {W W' : World} {a0 aT aC aU : Option Addr} {X0 T C U : List Nx} {c0 cT cC cU : Nat} {r0 : Int}
theorem Qd.more (h : Qd w gT gC gU W a0 aT aC aU X0 T C U c0 cT cC cU r0) (hb : Below W.heap.size W W') : Qd w gT gC gU W' a0 aT aC aU X0 T C U c0 cT cC cU r0 := ⟨h.u.belowAll hb, h.us.belowB hb, h.c.belowAll hb, h.cs.belowB hb, h.t.belowAll hb, h.ts.belowB hb, h.l.more hb⟩
theorem Qd.all (h : Qd w gT gC gU W a0 aT aC aU X0 T C U c0 cT cC cU r0) : Qc w gT gC gU W a0 aT aC aU X0 T C U c0 cT cC cU r0 := ⟨h.l.c0, h.l.c1, h.t.cell 0, h.t.cell 1, h.c.cell 0, h.c.cell 1, h.u.cell 0, h.u.cell 1⟩
end

set_option maxRecDepth 10000 in
set_option maxHeartbeats 4000000 in
theorem walk (X0 : List Nx) (a0 : Option Addr) (c0 : Nat) (r0 : Int) (w : World) (w0 : IsSc w a0 X0 r0) (hT : Tabs16 w) :
    Calls Tryd.prog 5 #[.agg #[.slice a0 X0.length c0, .int .i64 r0]] w fun e w' => e = .returned (.bool true) ∧ Below w.heap.size w w' := by
  have HA : Hid (∀ W, Below w.heap.size w W → Calls Tryd.prog 8 #[] W fun e w' => e = .returned (.bool true) ∧ Below W.heap.size W w') := fun W hb => awake_any W (hT.on hb)
  have HS : Hid (IsSc w a0 X0 r0) := w0
  have HL : Hid (Lw w (w.alloc (.cells #[.slice a0 X0.length c0, .int .i64 r0] 24)) a0 X0 c0 r0) := Lw.start w a0 X0 c0 r0
  clear w0 hT
  go_enter Tryd.func5, Tryd.ntmps5
  go_wp2_with fail
  refine (HA.out _ HL.out.bel).mono ?_
  rintro e w1 ⟨rfl, hb1⟩
  have HL1 : Hid (Lw w w1 a0 X0 c0 r0) := HL.out.more hb1
  have x0 := HL1.out.c0
  have x1 := HL1.out.c1
  have HG : Hid (Calls Tryd.prog 9 #[.agg #[.slice a0 X0.length c0, .int .i64 r0]] w1 fun e w' => GreatOut X0 w1 w' e) := sgreat_any X0 a0 c0 r0 w1 (HL1.out.sc HS.out)
  clear HL hb1
  go_wp2_with fail
  refine Calls.mono HG.out ?_
  rintro e w2 ⟨g, rfl, hg, hb2⟩
  have HL2 : Hid (Lw w w2 a0 X0 c0 r0) := HL1.out.more hb2
  clear HG HL1 hb2 x0 x1
  cases g with
  | true =>
    go_wp2_with fail
    refine (HA.out _ HL2.out.bel).mono ?_
    rintro e w3 ⟨rfl, hb3⟩
    have HB : Hid (Below w.heap.size w w3) := (HL2.out.more hb3).bel
    clear HL2 hb3
    go_wp2_with fail
    go_ret
    exact ⟨rfl, HB.out⟩
  | false =>
    have HSm : Hid (Small X0) := (hg rfl).1
    have x0 := HL2.out.c0
    have x1 := HL2.out.c1
    have HRt : Hid (Calls Tryd.prog 21 #[.agg #[.slice a0 X0.length c0, .int .i64 r0]] w2 fun e w' => RightOut X0 r0 w2 w' e) := right_any X0 a0 c0 r0 w2 (HL2.out.sc HS.out) HSm.out
    clear hg
    go_wp2_with fail
    refine Calls.mono HRt.out ?_
    rintro e w3 ⟨q, rfl, hq, hb3⟩
    have HL3 : Hid (Lw w w3 a0 X0 c0 r0) := HL2.out.more hb3
    have HQ : Hid (q = true ↔ RightIs X0 r0) := hq
    clear HRt HL2 hb3 hq x0 x1
    cases q with
    | false =>
      clear HQ HSm
      go_wp2_with fail
      refine (HA.out _ HL3.out.bel).mono ?_
      rintro e w4 ⟨rfl, hb4⟩
      have HB : Hid (Below w.heap.size w w4) := (HL3.out.more hb4).bel
      clear HL3 hb4
      go_wp2_with fail
      go_ret
      exact ⟨rfl, HB.out⟩
    | true =>
      have HR : Hid (RightIs X0 r0) := HQ.out.1 rfl
      have x0 := HL3.out.c0
      have x1 := HL3.out.c1
      have HFl : Hid (Calls Tryd.prog 15 #[.agg #[.slice a0 X0.length c0, .int .i64 r0]] w3 fun e w' => OFlatOut X0 r0 w3 w' e) := oflat_any X0 a0 c0 r0 w3 (HL3.out.sc HS.out) HSm.out
      clear HQ HA
      go_wp2_with fail
      refine Calls.mono HFl.out ?_
      rintro e w4 ⟨hf1, -, hb4⟩
      obtain ⟨T, aT, cT, rfl, hT, hlT, hs4⟩ := hf1 HR.out
      rw [hlT]
      have HF : Hid (Flt X0 T r0 ∧ T.map Nx.nd = fX X0 r0) := ⟨flt_of HSm.out HR.out hT, hT⟩
      have HTs : Hid (Small T) := HF.out.1.small HSm.out
      have HW5 : Hid (∀ o : Obj, o = .cells #[.slice aT X0.length cT, .int .i64 0] 24 → AtN 24 (w4.alloc o) w4.heap.size #[.slice aT X0.length cT, .int .i64 0] ∧ ScAt (w4.alloc o) aT T ∧ Lw w (w4.alloc o) a0 X0 c0 r0) := by
        rintro _ rfl
        exact ⟨AtN.new w4 24 _, hs4.alloc _, (HL3.out.more hb4).more ((Below.refl w4.heap.size w4).alloc (Nat.le_refl _) _)⟩
      clear HFl HL3 hf1 hb4 hs4 hT hlT x0 x1
      go_wp2_with fail
      obtain ⟨hz5, hs5, hl5⟩ := HW5.out _ rfl
      generalize (w4.alloc (.cells #[.slice aT X0.length cT, .int .i64 0] 24)) = w5 at *
      have HT5 : Hid (AtN 24 w5 w4.heap.size #[.slice aT X0.length cT, .int .i64 0] ∧ ScAt w5 aT T ∧ Lw w w5 a0 X0 c0 r0) := ⟨hz5, hs5, hl5⟩
      clear HW5 hz5 hs5 hl5
      have hcn := canon_any T aT cT 0 w5 HT5.out.2.1 HTs.out
      rw [HF.out.1.len] at hcn
      refine Calls.mono hcn ?_
      clear hcn
      rintro e w6 ⟨hc1, -, hb6⟩
      obtain ⟨C, aC, cC, rfl, hC, hs6⟩ := hc1 HF.out.1.right
      rw [HF.out.1.len]
      rw [HF.out.1.can] at hC
      have HC : Hid (C.map Nx.nd = cX X0 r0) := hC
      have HW7 : Hid (∀ o : Obj, o = .cells #[.slice aC C.length cC, .int .i64 ((X0.length : Int) - 1)] 24 → AtN 24 (w6.alloc o) w6.heap.size #[.slice aC C.length cC, .int .i64 ((X0.length : Int) - 1)] ∧ ScAt (w6.alloc o) aC C ∧ AtN 24 (w6.alloc o) w4.heap.size #[.slice aT X0.length cT, .int .i64 0] ∧ ScAt (w6.alloc o) aT T ∧ Lw w (w6.alloc o) a0 X0 c0 r0) := by
        rintro _ rfl
        have hb := hb6.alloc hb6.size (.cells #[.slice aC C.length cC, .int .i64 ((X0.length : Int) - 1)] 24)
        exact ⟨AtN.new w6 24 _, hs6.alloc _, HT5.out.1.belowAll hb, HT5.out.2.1.belowB hb, HT5.out.2.2.more hb⟩
      have t0 : ∀ o, (w6.alloc o).cell? ⟨w4.heap.size, 0, none⟩ = some (.slice aT X0.length cT) := fun o => ((HT5.out.1.belowAll hb6).alloc o).cell 0
      have t1 : ∀ o, (w6.alloc o).cell? ⟨w4.heap.size, 1, none⟩ = some (.int .i64 0) := fun o => ((HT5.out.1.belowAll hb6).alloc o).cell 1
      clear HT5 hc1 hb6 hs6 hC
      go_wp2_with fail
      obtain ⟨hu7, hv7, hz7, hs7, hl7⟩ := HW7.out _ rfl
      generalize (w6.alloc (.cells #[.slice aC C.length cC, .int .i64 ((X0.length : Int) - 1)] 24)) = w7 at *
      have HT7 : Hid (AtN 24 w7 w6.heap.size #[.slice aC C.length cC, .int .i64 ((X0.length : Int) - 1)] ∧ ScAt w7 aC C ∧ AtN 24 w7 w4.heap.size #[.slice aT X0.length cT, .int .i64 0] ∧ ScAt w7 aT T ∧ Lw w w7 a0 X0 c0 r0) := ⟨hu7, hv7, hz7, hs7, hl7⟩
      clear HW7 hu7 hv7 hz7 hs7 hl7 t0 t1
      have hfl := oflat_any T aT cT 0 w7 HT7.out.2.2.2.1 HTs.out
      rw [HF.out.1.len] at hfl
      refine Calls.mono hfl ?_
      clear hfl
      rintro e w8 ⟨hf1, -, hb8⟩
      obtain ⟨U, aU, cU, rfl, hU, hlU, hs8⟩ := hf1 HF.out.1.right
      rw [hlU, HF.out.1.len]
      have HU : Hid (U.map Nx.nd = T.map Nx.nd) := HF.out.1.again HF.out.2 hU
      have HUs : Hid (Small U) := same_small HU.out HTs.out
      have HW9 : Hid (∀ o : Obj, o = .cells #[.slice aU X0.length cU, .int .i64 0] 24 → AtN 24 (w8.alloc o) w8.heap.size #[.slice aU X0.length cU, .int .i64 0] ∧ ScAt (w8.alloc o) aU U ∧ AtN 24 (w8.alloc o) w6.heap.size #[.slice aC C.length cC, .int .i64 ((X0.length : Int) - 1)] ∧ ScAt (w8.alloc o) aC C ∧ AtN 24 (w8.alloc o) w4.heap.size #[.slice aT X0.length cT, .int .i64 0] ∧ ScAt (w8.alloc o) aT T ∧ Lw w (w8.alloc o) a0 X0 c0 r0) := by
        rintro _ rfl
        have hb := hb8.alloc hb8.size (.cells #[.slice aU X0.length cU, .int .i64 0] 24)
        exact ⟨AtN.new w8 24 _, hs8.alloc _, HT7.out.1.belowAll hb, HT7.out.2.1.belowB hb, HT7.out.2.2.1.belowAll hb, HT7.out.2.2.2.1.belowB hb, HT7.out.2.2.2.2.more hb⟩
      clear HT7 hf1 hb8 hs8 hU hlU
      go_wp2_with fail
      obtain ⟨hp9, hq9, hu9, hv9, hz9, hs9, hl9⟩ := HW9.out _ rfl
      generalize (w8.alloc (.cells #[.slice aU X0.length cU, .int .i64 0] 24)) = w9 at *
      have HT9 : Hid (Qd w w4.heap.size w6.heap.size w8.heap.size w9 a0 aT aC aU X0 T C U c0 cT cC cU r0) := ⟨hp9, hq9, hu9, hv9, hz9, hs9, hl9⟩
      have hQ := HT9.out
      have hIs : ∀ W, Below w9.heap.size w9 W → Calls Tryd.prog 16 #[.agg #[.slice aT X0.length cT, .int .i64 0]] W fun e w' => e = .returned (.bool true) ∧ Below W.heap.size W w' := fun W hW => by
        have := fow_yes (c := cT) (hQ.more hW).ts HTs.out HF.out.1.fw
        rw [HF.out.1.len] at this
        exact this
      have hRn : ∀ W, Below w9.heap.size w9 W → Calls Tryd.prog 23 #[.agg #[.slice a0 X0.length c0, .int .i64 r0]] W fun e w' => RCanOut X0 r0 W w' e := fun W hW => rcanon_any X0 a0 c0 r0 W ((hQ.more hW).l.sc HS.out) HSm.out HR.out
      have hS1 : ∀ W, Below w9.heap.size w9 W → ∀ (Z : List Nx) (a' : Option Addr) (c' : Nat), Z.map Nx.nd = cX X0 r0 → ScAt W a' Z → Calls Tryd.prog 19 #[.agg #[.slice aC C.length cC, .int .i64 ((X0.length : Int) - 1)], .agg #[.slice a' Z.length c', .int .i64 ((X0.length : Int) - 1)]] W fun e w' => e = .returned (.bool true) ∧ Below W.heap.size W w' := fun W hW Z a' c' hZ hs => ssame_yes C Z aC a' cC c' ((X0.length : Int) - 1) W (hQ.more hW).cs hs ((can_ren HR.out HC.out).small HSm.out) (hZ.trans HC.out.symm)
      have hS2 : ∀ W, Below w9.heap.size w9 W → Calls Tryd.prog 19 #[.agg #[.slice aU X0.length cU, .int .i64 0], .agg #[.slice aT X0.length cT, .int .i64 0]] W fun e w' => e = .returned (.bool true) ∧ Below W.heap.size W w' := fun W hW => by
        have := ssame_yes U T aU aT cU cT 0 W (hQ.more hW).us (hQ.more hW).ts HUs.out HU.out.symm
        rw [same_len HU.out, HF.out.1.len] at this
        exact this
      have HIs : Hid _ := hIs
      have HRn : Hid _ := hRn
      have HS1 : Hid _ := hS1
      have HS2 : Hid _ := hS2
      have x0 := hQ.l.c0
      have x1 := hQ.l.c1
      have t0 : w9.cell? ⟨w4.heap.size, 0, none⟩ = some (.slice aT X0.length cT) := hQ.t.cell 0
      have t1 : w9.cell? ⟨w4.heap.size, 1, none⟩ = some (.int .i64 0) := hQ.t.cell 1
      have k0 : w9.cell? ⟨w6.heap.size, 0, none⟩ = some (.slice aC C.length cC) := hQ.c.cell 0
      have k1 : w9.cell? ⟨w6.heap.size, 1, none⟩ = some (.int .i64 ((X0.length : Int) - 1)) := hQ.c.cell 1
      have u0 : w9.cell? ⟨w8.heap.size, 0, none⟩ = some (.slice aU X0.length cU) := hQ.u.cell 0
      have u1 : w9.cell? ⟨w8.heap.size, 1, none⟩ = some (.int .i64 0) := hQ.u.cell 1
      have hgx := hQ.l.at_.lt
      have hgt := hQ.t.lt
      have hgk := hQ.c.lt
      have hgu := hQ.u.lt
      clear HW9 hp9 hq9 hu9 hv9 hz9 hs9 hl9 HF HR HU HUs HTs HC HS HSm hQ hIs hRn hS1 hS2
      refine facts_region6 (fun W => Below w9.heap.size w9 W) (fun ix v W => match ix with | 0 => v = .int .i64 0 | 1 => v = .bool true | 2 => v = .bool true | 3 => v = .int .i64 0 | 4 => v = .bool true | 5 => v = .bool true | 6 => v = .bool true | 7 => v = .int .i64 0 | 8 => v = .bool true | 9 => v = .bool true | 10 => v = .bool true | 11 => v = .agg #[.slice aT X0.length cT, .int .i64 0] | 12 => v = .bool true | 13 => v = .bool true | 14 => v = .bool true | 15 => v = .agg #[.slice aC C.length cC, .int .i64 ((X0.length : Int) - 1)] | 16 => v = .agg #[.slice a0 X0.length c0, .int .i64 r0] | 17 => ∃ (Z : List Nx) (a' : Option Addr) (c' : Nat), v = .agg #[.slice a' Z.length c', .int .i64 ((X0.length : Int) - 1)] ∧ Z.map Nx.nd = cX X0 r0 ∧ ScAt W a' Z | 18 => v = .bool true | 19 => v = .bool true | 20 => v = .bool true | 21 => v = .agg #[.slice aU X0.length cU, .int .i64 0] | 22 => v = .agg #[.slice aT X0.length cT, .int .i64 0] | 23 => v = .bool true | 24 => v = .bool true | 25 => v = .bool true | _ => True) (by kernel_rfl) (by kernel_rfl) (Below.refl _ _).drew ?step ?fin
      case step =>
        intro i' o' ho act W hG hoff hdep K hQ hK
        rcases i' with _|_|_|_|_|_|_|_|_|_|_|_|_|_|_|_|_|_|_|_|_|_|_|_|_|_|i'
        · obtain rfl := Option.some.inj ho
          have t4 : act.tmps[4]?.getD undef = .int .i64 0 := hoff 4 (by kernel_rfl)
          clear hdep hoff hG
          go_simp
          exact hQ _ (rfl)
        · obtain rfl := Option.some.inj ho
          have e0 : act.tmps[36]?.getD undef = .int .i64 0 := hdep 0 _ (by kernel_rfl) rfl
          clear hdep hoff hG
          go_simp
          exact hQ _ (rfl)
        · obtain rfl := Option.some.inj ho
          have e1 : act.tmps[37]?.getD undef = .bool true := hdep 1 _ (by kernel_rfl) rfl
          clear hdep hoff hG
          go_simp
          exact hQ _ (rfl)
        · obtain rfl := Option.some.inj ho
          have hgd : act.tmps[38]?.getD undef = .bool true := hdep 2 _ (by kernel_rfl) rfl
          have hgd' := getD_bool hgd
          have t6 : act.tmps[6]?.getD undef = .int .i64 0 := hoff 6 (by kernel_rfl)
          clear hdep hoff hG
          go_simp
          exact hQ _ (rfl)
        · obtain rfl := Option.some.inj ho
          have hgd : act.tmps[38]?.getD undef = .bool true := hdep 2 _ (by kernel_rfl) rfl
          have hgd' := getD_bool hgd
          have e3 : act.tmps[39]?.getD undef = .int .i64 0 := hdep 3 _ (by kernel_rfl) rfl
          clear hdep hoff hG
          go_simp
          exact hQ _ (rfl)
        · obtain rfl := Option.some.inj ho
          have e2 : act.tmps[38]?.getD undef = .bool true := hdep 2 _ (by kernel_rfl) rfl
          have e4 : act.tmps[40]?.getD undef = .bool true := hdep 4 _ (by kernel_rfl) rfl
          clear hdep hoff hG
          go_simp
          exact hQ _ (rfl)
        · obtain rfl := Option.some.inj ho
          have e5 : act.tmps[41]?.getD undef = .bool true := hdep 5 _ (by kernel_rfl) rfl
          clear hdep hoff hG
          go_simp
          exact hQ _ (rfl)
        · obtain rfl := Option.some.inj ho
          have hgd : act.tmps[42]?.getD undef = .bool true := hdep 6 _ (by kernel_rfl) rfl
          have hgd' := getD_bool hgd
          have t8 : act.tmps[8]?.getD undef = .int .i64 0 := hoff 8 (by kernel_rfl)
          clear hdep hoff hG
          go_simp
          exact hQ _ (rfl)
        · obtain rfl := Option.some.inj ho
          have hgd : act.tmps[42]?.getD undef = .bool true := hdep 6 _ (by kernel_rfl) rfl
          have hgd' := getD_bool hgd
          have e7 : act.tmps[43]?.getD undef = .int .i64 0 := hdep 7 _ (by kernel_rfl) rfl
          clear hdep hoff hG
          go_simp
          exact hQ _ (rfl)
        · obtain rfl := Option.some.inj ho
          have e6 : act.tmps[42]?.getD undef = .bool true := hdep 6 _ (by kernel_rfl) rfl
          have e8 : act.tmps[44]?.getD undef = .bool true := hdep 8 _ (by kernel_rfl) rfl
          clear hdep hoff hG
          go_simp
          exact hQ _ (rfl)
        · obtain rfl := Option.some.inj ho
          have e9 : act.tmps[45]?.getD undef = .bool true := hdep 9 _ (by kernel_rfl) rfl
          clear hdep hoff hG
          go_simp
          exact hQ _ (rfl)
        · obtain rfl := Option.some.inj ho
          have hgd : act.tmps[46]?.getD undef = .bool true := hdep 10 _ (by kernel_rfl) rfl
          have hgd' := getD_bool hgd
          have t3 : act.tmps[3]?.getD undef = .pointer (some ⟨w4.heap.size, 0, none⟩) := hoff 3 (by kernel_rfl)
          have t0W := (hG.cell (p := ⟨w4.heap.size, 0, none⟩) hgt).trans t0
          have t1W := (hG.cell (p := ⟨w4.heap.size, 1, none⟩) hgt).trans t1
          clear hdep hoff hG
          go_simp
          exact hQ _ (rfl)
        · obtain rfl := Option.some.inj ho
          have hgd : act.tmps[46]?.getD undef = .bool true := hdep 10 _ (by kernel_rfl) rfl
          have hgd' := getD_bool hgd
          have e11 : act.tmps[47]?.getD undef = .agg #[.slice aT X0.length cT, .int .i64 0] := hdep 11 _ (by kernel_rfl) rfl
          clear hdep hoff
          have HG : Hid (Below w9.heap.size w9 W) := hG
          have HC : Hid _ := HIs.out W hG
          clear hG
          go_simp
          refine Calls.mono HC.out ?_
          rintro e w' ⟨rfl, hb⟩
          exact hK _ _ (HG.out.trans (hb.mono HG.out.size)) (fun j u hj h => by
              rcases j with _|_|_|_|_|_|_|_|_|_|_|_|_|_|_|_|_|_|_|_|_|_|_|_|_|_|j
              · exact h
              · exact h
              · exact h
              · exact h
              · exact h
              · exact h
              · exact h
              · exact h
              · exact h
              · exact h
              · exact h
              · exact h
              · exact absurd rfl hj
              · exact h
              · exact h
              · exact h
              · exact h
              · obtain ⟨Z, a', c', h1, h2, h3⟩ := h; exact ⟨Z, a', c', h1, h2, h3.belowB hb⟩
              · exact h
              · exact h
              · exact h
              · exact h
              · exact h
              · exact h
              · exact h
              · exact h
              · trivial) (rfl)
        · obtain rfl := Option.some.inj ho
          have e10 : act.tmps[46]?.getD undef = .bool true := hdep 10 _ (by kernel_rfl) rfl
          have e12 : act.tmps[48]?.getD undef = .bool true := hdep 12 _ (by kernel_rfl) rfl
          clear hdep hoff hG
          go_simp
          exact hQ _ (rfl)
        · obtain rfl := Option.some.inj ho
          have e13 : act.tmps[49]?.getD undef = .bool true := hdep 13 _ (by kernel_rfl) rfl
          clear hdep hoff hG
          go_simp
          exact hQ _ (rfl)
        · obtain rfl := Option.some.inj ho
          have hgd : act.tmps[50]?.getD undef = .bool true := hdep 14 _ (by kernel_rfl) rfl
          have hgd' := getD_bool hgd
          have t5 : act.tmps[5]?.getD undef = .pointer (some ⟨w6.heap.size, 0, none⟩) := hoff 5 (by kernel_rfl)
          have k0W := (hG.cell (p := ⟨w6.heap.size, 0, none⟩) hgk).trans k0
          have k1W := (hG.cell (p := ⟨w6.heap.size, 1, none⟩) hgk).trans k1
          clear hdep hoff hG
          go_simp
          exact hQ _ (rfl)
        · obtain rfl := Option.some.inj ho
          have hgd : act.tmps[50]?.getD undef = .bool true := hdep 14 _ (by kernel_rfl) rfl
          have hgd' := getD_bool hgd
          have t1 : act.tmps[1]?.getD undef = .pointer (some ⟨w.heap.size, 0, none⟩) := hoff 1 (by kernel_rfl)
          have x0W := (hG.cell (p := ⟨w.heap.size, 0, none⟩) hgx).trans x0
          have x1W := (hG.cell (p := ⟨w.heap.size, 1, none⟩) hgx).trans x1
          clear hdep hoff hG
          go_simp
          exact hQ _ (rfl)
        · obtain rfl := Option.some.inj ho
          have hgd : act.tmps[50]?.getD undef = .bool true := hdep 14 _ (by kernel_rfl) rfl
          have hgd' := getD_bool hgd
          have e16 : act.tmps[52]?.getD undef = .agg #[.slice a0 X0.length c0, .int .i64 r0] := hdep 16 _ (by kernel_rfl) rfl
          clear hdep hoff
          have HG : Hid (Below w9.heap.size w9 W) := hG
          have HC : Hid _ := HRn.out W hG
          clear hG
          go_simp
          refine Calls.mono HC.out ?_
          rintro e w' ⟨Z, a', c', rfl, hZ, hs, hb⟩
          exact hK _ _ (HG.out.trans (hb.mono HG.out.size)) (fun j u hj h => by
              rcases j with _|_|_|_|_|_|_|_|_|_|_|_|_|_|_|_|_|_|_|_|_|_|_|_|_|_|j
              · exact h
              · exact h
              · exact h
              · exact h
              · exact h
              · exact h
              · exact h
              · exact h
              · exact h
              · exact h
              · exact h
              · exact h
              · exact h
              · exact h
              · exact h
              · exact h
              · exact h
              · exact absurd rfl hj
              · exact h
              · exact h
              · exact h
              · exact h
              · exact h
              · exact h
              · exact h
              · exact h
              · trivial) (⟨Z, a', c', rfl, hZ, hs⟩)
        · obtain rfl := Option.some.inj ho
          have hgd : act.tmps[50]?.getD undef = .bool true := hdep 14 _ (by kernel_rfl) rfl
          have hgd' := getD_bool hgd
          have e15 : act.tmps[51]?.getD undef = .agg #[.slice aC C.length cC, .int .i64 ((X0.length : Int) - 1)] := hdep 15 _ (by kernel_rfl) rfl
          have e17 : ∃ (Z : List Nx) (a' : Option Addr) (c' : Nat), act.tmps[53]?.getD undef = .agg #[.slice a' Z.length c', .int .i64 ((X0.length : Int) - 1)] ∧ Z.map Nx.nd = cX X0 r0 ∧ ScAt W a' Z := hdep 17 _ (by kernel_rfl) rfl
          clear hdep hoff
          obtain ⟨Z, a', c', e17', hZ, hs⟩ := e17
          have HG : Hid (Below w9.heap.size w9 W) := hG
          have HC : Hid _ := HS1.out W hG Z a' c' hZ hs
          clear hG
          go_simp
          refine Calls.mono HC.out ?_
          rintro e w' ⟨rfl, hb⟩
          exact hK _ _ (HG.out.trans (hb.mono HG.out.size)) (fun j u hj h => by
              rcases j with _|_|_|_|_|_|_|_|_|_|_|_|_|_|_|_|_|_|_|_|_|_|_|_|_|_|j
              · exact h
              · exact h
              · exact h
              · exact h
              · exact h
              · exact h
              · exact h
              · exact h
              · exact h
              · exact h
              · exact h
              · exact h
              · exact h
              · exact h
              · exact h
              · exact h
              · exact h
              · obtain ⟨Z, a', c', h1, h2, h3⟩ := h; exact ⟨Z, a', c', h1, h2, h3.belowB hb⟩
              · exact absurd rfl hj
              · exact h
              · exact h
              · exact h
              · exact h
              · exact h
              · exact h
              · exact h
              · trivial) (rfl)
        · obtain rfl := Option.some.inj ho
          have e14 : act.tmps[50]?.getD undef = .bool true := hdep 14 _ (by kernel_rfl) rfl
          have e18 : act.tmps[54]?.getD undef = .bool true := hdep 18 _ (by kernel_rfl) rfl
          clear hdep hoff hG
          go_simp
          exact hQ _ (rfl)
        · obtain rfl := Option.some.inj ho
          have e19 : act.tmps[55]?.getD undef = .bool true := hdep 19 _ (by kernel_rfl) rfl
          clear hdep hoff hG
          go_simp
          exact hQ _ (rfl)
        · obtain rfl := Option.some.inj ho
          have hgd : act.tmps[56]?.getD undef = .bool true := hdep 20 _ (by kernel_rfl) rfl
          have hgd' := getD_bool hgd
          have t7 : act.tmps[7]?.getD undef = .pointer (some ⟨w8.heap.size, 0, none⟩) := hoff 7 (by kernel_rfl)
          have u0W := (hG.cell (p := ⟨w8.heap.size, 0, none⟩) hgu).trans u0
          have u1W := (hG.cell (p := ⟨w8.heap.size, 1, none⟩) hgu).trans u1
          clear hdep hoff hG
          go_simp
          exact hQ _ (rfl)
        · obtain rfl := Option.some.inj ho
          have hgd : act.tmps[56]?.getD undef = .bool true := hdep 20 _ (by kernel_rfl) rfl
          have hgd' := getD_bool hgd
          have t3 : act.tmps[3]?.getD undef = .pointer (some ⟨w4.heap.size, 0, none⟩) := hoff 3 (by kernel_rfl)
          have t0W := (hG.cell (p := ⟨w4.heap.size, 0, none⟩) hgt).trans t0
          have t1W := (hG.cell (p := ⟨w4.heap.size, 1, none⟩) hgt).trans t1
          clear hdep hoff hG
          go_simp
          exact hQ _ (rfl)
        · obtain rfl := Option.some.inj ho
          have hgd : act.tmps[56]?.getD undef = .bool true := hdep 20 _ (by kernel_rfl) rfl
          have hgd' := getD_bool hgd
          have e21 : act.tmps[57]?.getD undef = .agg #[.slice aU X0.length cU, .int .i64 0] := hdep 21 _ (by kernel_rfl) rfl
          have e22 : act.tmps[58]?.getD undef = .agg #[.slice aT X0.length cT, .int .i64 0] := hdep 22 _ (by kernel_rfl) rfl
          clear hdep hoff
          have HG : Hid (Below w9.heap.size w9 W) := hG
          have HC : Hid _ := HS2.out W hG
          clear hG
          go_simp
          refine Calls.mono HC.out ?_
          rintro e w' ⟨rfl, hb⟩
          exact hK _ _ (HG.out.trans (hb.mono HG.out.size)) (fun j u hj h => by
              rcases j with _|_|_|_|_|_|_|_|_|_|_|_|_|_|_|_|_|_|_|_|_|_|_|_|_|_|j
              · exact h
              · exact h
              · exact h
              · exact h
              · exact h
              · exact h
              · exact h
              · exact h
              · exact h
              · exact h
              · exact h
              · exact h
              · exact h
              · exact h
              · exact h
              · exact h
              · exact h
              · obtain ⟨Z, a', c', h1, h2, h3⟩ := h; exact ⟨Z, a', c', h1, h2, h3.belowB hb⟩
              · exact h
              · exact h
              · exact h
              · exact h
              · exact h
              · exact absurd rfl hj
              · exact h
              · exact h
              · trivial) (rfl)
        · obtain rfl := Option.some.inj ho
          have e20 : act.tmps[56]?.getD undef = .bool true := hdep 20 _ (by kernel_rfl) rfl
          have e23 : act.tmps[59]?.getD undef = .bool true := hdep 23 _ (by kernel_rfl) rfl
          clear hdep hoff hG
          go_simp
          exact hQ _ (rfl)
        · obtain rfl := Option.some.inj ho
          have e24 : act.tmps[60]?.getD undef = .bool true := hdep 24 _ (by kernel_rfl) rfl
          clear hdep hoff hG
          go_simp
          exact hQ _ (rfl)
        · exact absurd ho (by simp)
      case fin =>
        intro V W hG hF
        have yz : V (some 2) = .bool true := hF 25 _ rfl
        have HB : Hid (Below w.heap.size w W) := (HT9.out.more hG).l.bel
        clear hF hG HT9
        simp only [fillA, Act.put, List.setIfInBounds_toArray, List.set_cons_zero, List.set_cons_succ, yz]
        generalize V (some 36) = z36
        generalize V (some 37) = z37
        generalize V (some 38) = z38
        generalize V (some 39) = z39
        generalize V (some 40) = z40
        generalize V (some 41) = z41
        generalize V (some 42) = z42
        generalize V (some 43) = z43
        generalize V (some 44) = z44
        generalize V (some 45) = z45
        generalize V (some 46) = z46
        generalize V (some 47) = z47
        generalize V (some 48) = z48
        generalize V (some 49) = z49
        generalize V (some 50) = z50
        generalize V (some 51) = z51
        generalize V (some 52) = z52
        generalize V (some 53) = z53
        generalize V (some 54) = z54
        generalize V (some 55) = z55
        generalize V (some 56) = z56
        generalize V (some 57) = z57
        generalize V (some 58) = z58
        generalize V (some 59) = z59
        generalize V (some 60) = z60
        clear yz
        go_wp2_with fail
        go_ret
        exact ⟨rfl, HB.out⟩

set_option maxRecDepth 100000 in
theorem lifted (os : Os) (started : os.Started) (H : Type) (enc : TypeId × Value → H) :
    ReturnsInHanded {} Tryd.checked os 5 .any (fun w args => (Rows.oldCanonSpec.pre enc Tryd.prog Tryd.f5 [] false w args ∧ laidMetH Tryd.prog laid16 w) ∧ sizedMet enc Tryd.prog Tryd.f5 (OpenSpec.ofChange Rows.oldCanonSpec) false w args)
      (Rows.oldCanonSpec.post enc Tryd.prog Tryd.f5 false true false false) := by
  refine returnsInHanded_of_change_and (C := Tryd.checked) (X := fun w _ => laidMetH Tryd.prog laid16 w) (fun _ _ _ hh h => h.of_heap hh) own started (by kernel_rfl) Tryd.func5
    (ChangeSpec.witness_shaped (enc := enc) (C := Tryd.checked) (os := os) (X := fun w _ => laidMetH Tryd.prog laid16 w) false (World.doorLaid Tryd.prog 400 os) #[.agg #[.slice none 0 0, .int .i64 0]] 8 rfl (World.shaped_of_RefB (by kernel_rfl) (by kernel_rfl)) (by kernel_rfl) (by kernel_rfl) (by kernel_rfl) (door16 os _)) ?_
  intro W base args ds gs before hval0 hW _ _ hL _
  have hval : ∀ (j : Nat) t v, Tryd.f5.params[j]? = some t → args[j]? = some v → Value.okWide Tryd.prog W .any base t v := hval0
  have hW' := hW
  obtain ⟨p, q, hA0, hV, rfl, hfz, hnd⟩ := hW
  have hA : DataW.TrodAll enc Tryd.prog W 0 (fun _ => true) true Tryd.f5.params.toList args.toList ds p := hA0
  rw [Tryd.params5] at hA hval
  obtain ⟨v0, vs0, d0, ds0, p0, q0, hargs, rfl, rfl, h0, r0⟩ := trodAll_cons hA
  obtain ⟨rfl, rfl, rfl⟩ := trodAll_nil r0
  obtain rfl : args = #[v0] := by cases args; simp_all
  obtain ⟨rfl, rfl⟩ := trodVars_none hV
  have K0 := h0
  have lt0 : ∀ x ∈ p0, x.block < W.heap.size := by obtain ⟨m, hm⟩ := K0; exact DataW.trod_lt m _ _ _ hm
  obtain ⟨X0, a0, c0, rt0, rfl, w0⟩ := open_scene Tryd.underlying24 (by kernel_rfl) (by kernel_rfl) Tryd.underlying22 Tryd.underlying3 Tryd.underlying48 (by kernel_rfl) rfl rfl rfl rfl (by kernel_rfl) (by kernel_rfl) (by kernel_rfl) (by kernel_rfl) Tryd.underlying3 Tryd.underlying44 Tryd.underlying45 Tryd.underlying46 Tryd.underlying2 Tryd.underlying9 Tryd.underlying3 (by kernel_rfl) (by kernel_rfl) (by kernel_rfl) (hval 0 24 v0 rfl rfl) h0
  clear hA0 hval0
  refine (walk X0 a0 c0 rt0 W w0 (tabs16_of hL)).mono fun e W' ⟨he, bel⟩ => ?_
  subst he
  exact ⟨_, rfl, _, _, _, [], _, [], hW', trodAll_mk1 (shut_bool Tryd.underlying4 _), (trodAll_cons_mk (Below.trod laidOut (by kernel_rfl) (of_decide_eq_true (by kernel_rfl)) K0 bel lt0) trodAll_mk0), rfl, bel.frame _, fun h => by cases h⟩

theorem row : Rows.oldCanonRow.holds Tryd.pinned (OpenSpec.ofChange Rows.oldCanonSpec) :=
  OpenClaim.holds_of_wide 5 Tryd.f5 rfl rfl rfl rfl rfl rfl rfl ⟨rfl, rfl, rfl, rfl, rfl⟩ rfl rfl rfl rfl rfl (by kernel_rfl) Tryd.func5 (by kernel_rfl)
    (of_decide_eq_true (by kernel_rfl)) (by unfold Func.isWrapper; first | (rw [if_pos (by decide +kernel)]; kernel_rfl) | (rw [if_neg (by decide +kernel)]; exact ⟨rfl, rfl⟩))
    (fun os started H enc _ => lifted os started H enc)

/-- No parameter wants a stand-in; the program's own looks are as the card says. -/
theorem plain (f : FuncId) (fn : Func) (hf : Tryd.pinned.checked.prog.funcNamed Rows.oldCanonRow.func = some f) (hfn : Tryd.pinned.checked.prog.funcs[f]? = some fn) :
    false = Tryd.pinned.checked.prog.looks [] ∧ ∀ (j : Nat) t, fn.params[j]? = some t → Tryd.pinned.checked.prog.wantsStandIn t = false := by
  obtain rfl : f = 5 := Option.some.inj ((show Tryd.prog.funcNamed Rows.oldCanonRow.func = some 5 by kernel_rfl).symm.trans hf) |>.symm
  obtain rfl : fn = Tryd.f5 := (Option.some.inj (Tryd.func5.symm.trans hfn)).symm
  refine ⟨by kernel_rfl, fun j t ht => ?_⟩
  have hm := Array.mem_of_getElem? ht
  have hall : (Tryd.f5.params.toList.all fun u => !Tryd.prog.wantsStandIn u) = true := by kernel_rfl
  exact (show Tryd.prog.wantsStandIn t = false by simpa using List.all_eq_true.1 hall t (by simpa using hm))

/-- ████ THE CARD ████ -/
theorem over : Rows.OldCanonCardSaid :=
  Claim7.holds_tied_plain_at .later [] _ _ _ _ row (fun _ h => by cases h) (by kernel_rfl) (fun _ h => by cases h) oldCanon_row_tie rfl ⟨rfl, rfl⟩ (by kernel_rfl) rfl plain (by kernel_rfl)

end Go.Proofs.YtkcaeajhbeenbaaDoor.oldCanon

namespace Go.Proofs.YtkcaeajhbeenbaaDoor
theorem oldCanon_holds : Rows.OldCanonCardSaid := oldCanon.over
#print axioms oldCanon_holds
end Go.Proofs.YtkcaeajhbeenbaaDoor
