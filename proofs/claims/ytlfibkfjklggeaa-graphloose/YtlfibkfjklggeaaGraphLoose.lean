/- For every scene in which nothing is wrong, and every node of it: the nodes that the program's Below answers for the node are itself and those below its kids, it isn't below any of these, and all nodes are below the root (scenes greater than the law plays with, and scenes with something wrong, are let go by the law itself); the arguments read afterwards as before. -/
import Derived.Test.YtlfibkfjklggeaaRows
import Derived.WalkKit
import Derived.ProofKit
import Derived.OpenShut
import Derived.ShutString
import Derived.Below
import Derived.Test.YtlfibkfjklggeaaGLoo
import Derived.ChangeOld
namespace Go.Proofs.Ytlfibkfjklggeaa.graphLoose
open Go.ChangeShapes Go.WideShapes Go.ChangeAt Go.RowKit
open Go.ChangeMaps (open_string shut_string)
set_option linter.unusedVariables false

theorem own : ownKnob Try.prog.godebug = none := by kernel_rfl
theorem laidOut : laidOutB Try.prog = true := by kernel_rfl

/-- The facts of the region that counts. -/
def glF (X : List Nx) (a : Option Addr) (c : Nat) (r : Int) (L g bx : Nat) (al : Option Addr) (cl : Nat) : Nat → Value → World → Prop
  | 0, v, _ => v = .slice al L cl
  | 1, v, _ => v = .int .i64 (L : Int)
  | 2, v, _ => v = .map (some g)
  | 3, v, _ => v = .int .i64 (L : Int)
  | 4, v, _ => v = .bool true
  | 5, v, _ => v = .bool true
  | 6, v, _ => v = .agg #[.slice a X.length c, .int .i64 r]
  | 7, v, _ => v = .pointer (some ⟨bx, 1, none⟩)
  | 8, v, _ => v = .int .i64 r
  | 9, v, _ => ∃ a2 c2, v = .slice a2 X.length c2
  | 10, v, _ => v = .int .i64 (X.length : Int)
  | 11, v, _ => v = .pointer (some ⟨bx, 0, none⟩)
  | 12, v, _ => v = .slice a X.length c
  | 13, v, _ => v = .int .i64 (X.length : Int)
  | 14, v, _ => v = .bool true
  | 15, v, _ => v = .bool true
  | 16, v, _ => v = .bool true
  | _, _, _ => True
theorem glF_stab (X : List Nx) (a : Option Addr) (c : Nat) (r : Int) (L g bx : Nat) (al : Option Addr) (cl : Nat) : ∀ i j v w w', i ≠ j → World.grownBy w w' (if i = 99 then none else none) → glF X a c r L g bx al cl j v w → glF X a c r L g bx al cl j v w' := by
  intro i j v w w' hne hg h
  match j, h with
  | 0, h | 1, h | 2, h | 3, h | 4, h | 5, h | 6, h | 7, h | 8, h | 9, h | 10, h | 11, h | 12, h | 13, h | 14, h | 15, h | 16, h => exact h
  | n + 17, _ => trivial
theorem getD_bool {o : Option Value} {b : Bool} (h : o.getD undef = .bool b) : o = some (.bool b) := by
  cases o with
  | none => exact absurd h (by unfold undef; simp)
  | some v => simpa using h
theorem take_more {l : List Nat} {j x : Nat} (h : j < l.length) : x ∈ l.take (j + 1) ↔ x ∈ l.take j ∨ x = l.getD j 0 := by
  rw [List.take_add_one, List.mem_append, List.getD_eq_getElem?_getD, List.getElem?_eq_getElem h]
  simp only [Option.toList_some, List.mem_singleton, Option.getD_some]

set_option maxRecDepth 10000 in
set_option maxHeartbeats 400000 in
theorem walk (X0 : List Nx) (a0 : Option Addr) (c0 : Nat) (r0 : Int) (a1 : Int) (w : World) (w0 : IsSc w a0 X0 r0) (w1 : (Lit.int .i64 a1).wf = true) :
    Calls Try.prog 6 #[.agg #[.slice a0 X0.length c0, .int .i64 r0], .int .i64 a1] w fun e w' => e = .returned (.bool true) ∧ Below w.heap.size w w' := by
  have HA : Hid (∀ W, Calls Try.prog 8 #[] W fun e w' => e = .returned (.bool true) ∧ Below W.heap.size W w') := awake_any
  have HS : Hid (IsSc w a0 X0 r0) := w0
  have HL : Hid (Lw w (w.alloc (.cells #[.slice a0 X0.length c0, .int .i64 r0] 24)) a0 X0 c0 r0) := Lw.start w a0 X0 c0 r0
  clear w0
  go_enter Try.func6, Try.ntmps6
  go_wp2_with fail
  refine (HA.out _).mono ?_
  rintro e w1 ⟨rfl, hb1⟩
  have HL1 : Hid (Lw w w1 a0 X0 c0 r0) := HL.out.more hb1
  have x0 := HL1.out.c0
  have x1 := HL1.out.c1
  have HG : Hid (Calls Try.prog 9 #[.agg #[.slice a0 X0.length c0, .int .i64 r0]] w1 fun e w' => GreatOut X0 w1 w' e) := sgreat_any X0 a0 c0 r0 w1 (HL1.out.sc HS.out)
  clear HL hb1
  go_wp2_with fail
  refine Calls.mono HG.out ?_
  rintro e w2 ⟨g, rfl, hg, hb2⟩
  have HL2 : Hid (Lw w w2 a0 X0 c0 r0) := HL1.out.more hb2
  clear HG HL1 hb2 x0 x1
  cases g with
  | true =>
    go_wp2_with fail
    refine (HA.out _).mono ?_
    rintro e w3 ⟨rfl, hb3⟩
    have HB : Hid (Below w.heap.size w w3) := (HL2.out.more hb3).bel
    clear HL2 hb3
    go_wp2_with fail
    go_ret
    exact ⟨rfl, HB.out⟩
  | false =>
    have hsm : Small X0 := hg rfl
    have HSm : Hid (Small X0) := hsm
    have x0 := HL2.out.c0
    have x1 := HL2.out.c1
    have HR : Hid (Calls Try.prog 21 #[.agg #[.slice a0 X0.length c0, .int .i64 r0]] w2 fun e w' => RightOut X0 r0 w2 w' e) := right_any X0 a0 c0 r0 w2 (HL2.out.sc HS.out) hsm
    clear hg hsm
    go_wp2_with fail
    refine Calls.mono HR.out ?_
    rintro e w3 ⟨b, rfl, hbr, hb3⟩
    have HL3 : Hid (Lw w w3 a0 X0 c0 r0) := HL2.out.more hb3
    clear HR HL2 hb3 x0 x1
    cases b with
    | false =>
      clear hbr
      go_wp2_with fail
      refine (HA.out _).mono ?_
      rintro e w4 ⟨rfl, hb4⟩
      have HB : Hid (Below w.heap.size w w4) := (HL3.out.more hb4).bel
      clear HL3 hb4
      go_wp2_with fail
      go_ret
      exact ⟨rfl, HB.out⟩
    | true =>
      have HRi : Hid (RightIs X0 r0) := hbr.1 rfl
      have x0 := HL3.out.c0
      have x1 := HL3.out.c1
      clear hbr
      by_cases hp : isPb X0.length a1 = true
      · go_wp2_with fail
        refine (place_any _ _ _ _ _ _).mono ?_
        rintro e w4 ⟨rfl, hb4⟩
        rw [hp]
        have HL4 : Hid (Lw w w4 a0 X0 c0 r0) := HL3.out.more hb4
        clear HL3 hb4 x0 x1 HA
        obtain ⟨k, hk⟩ : ∃ k : Nat, a1 = k := ⟨a1.toNat, (Int.toNat_of_nonneg (isPb_iff.1 hp).1).symm⟩
        subst hk
        have hkl : k < X0.length := by have := isPb_iff.1 hp; omega
        have hkl' : (k : Int) < X0.length := by omega
        have hn60 := HSm.out.1
        obtain ⟨w5, hup, hm5, hg5⟩ := (MetS.made w4).put k (by omega) (by unfold maxLen; omega)
        have hmm := @run_makeMap Try.prog
        have HB5 : Hid (Below w4.heap.size w4 w5) := ((Below.refl w4.heap.size w4).alloc (Nat.le_refl _) _).grown hg5 (by simp) (fun q hq => by have := Option.some.inj hq; omega)
        have HM5 : Hid (MetS w5 w4.heap.size 1 [k]) := hm5
        obtain ⟨b1, o1, rfl, hb1, _, _, _, y3⟩ := ((HL4.out.more HB5.out).sc HS.out).node hkl
        have HNd : Hid (∀ W, Lw w W (some ⟨b1, o1, none⟩) X0 c0 r0 → LsAt W (X0.getD k noNx).a3 (iV (X0.getD k noNx).nd.kids)) := fun W hW => ((hW.sc HS.out).each k hkl).k
        have HKd : Hid (∀ j, j < (X0.getD k noNx).nd.kids.length → ∃ m : Nat, (X0.getD k noNx).nd.kids.getD j 0 = m ∧ m < X0.length ∧ Ed (kX X0) k m) := fun j hj => kid_is HRi.out.2.1 hkl hj
        have HSame : Hid (∀ l M : List Nat, BelowIs X0 r0 k l → M.Nodup → (∀ x, x ∈ M ↔ x = k ∨ ∃ j, j < (X0.getD k noNx).nd.kids.length ∧ Rt (Ed (kX X0)) ((X0.getD k noNx).nd.kids.getD j 0).toNat x) → (∀ x, x ∈ l ↔ x ∈ M) ∧ l.length = M.length) := fun l M h1 h2 h3 => loose_same HRi.out hkl h1 h2 h3
        have hk3 := HSm.out.kids hkl
        generalize X0.getD k noNx = N at *
        have hsz5 := HB5.out.size
        have x0 := (HL4.out.more HB5.out).c0
        have x1 := (HL4.out.more HB5.out).c1
        clear hm5 hg5 hp
        go_wp2_with fail
        go_loopw [41] (fun iv wr => ∃ (i n : Nat) (M : List Nat), iv = .int .i64 i ∧ i ≤ N.nd.kids.length ∧ n ≤ 1 + 60 * i ∧ Hid (MetS wr w4.heap.size n M) ∧ Hid (∀ x, x ∈ M ↔ x = k ∨ ∃ j, j < i ∧ Rt (Ed (kX X0)) (N.nd.kids.getD j 0).toNat x) ∧ Hid (Below w4.heap.size w4 wr)) (fun iv _ => N.nd.kids.length - (intOf iv).toNat)
        case atStart => exact ⟨0, 1, [k], rfl, by omega, by omega, HM5, (by intro x; simp), HB5⟩
        case round =>
          clear HM5 HB5 hup hmm y3 hb1 hsz5 x0 x1
          obtain ⟨i, n, M, rfl, hi, hn, HM, HMi, HB⟩ := hrel
          have hsz := HB.out.size
          have HLr : Hid (Lw w wr (some ⟨b1, o1, none⟩) X0 c0 r0) := HL4.out.more HB.out
          have x0 := HLr.out.c0
          have x1 := HLr.out.c1
          by_cases hlt : i < N.nd.kids.length
          · have hlt' : (i : Int) < N.nd.kids.length := by omega
            obtain ⟨m, hm, hml, hed⟩ := HKd.out i hlt
            obtain ⟨b2, o2, e2, hb2, d2⟩ := LsAt.at (HNd.out wr HLr.out) (iV_at N.nd.kids i hlt)
            rw [hm] at d2
            rw [e2]
            have HD : Hid (Calls Try.prog 15 #[.agg #[.slice (some ⟨b1, o1, none⟩) X0.length c0, .int .i64 r0], .int .i64 (m : Int)] wr fun e w' => BelowOut X0 r0 m wr w' e) := below_any X0 (some ⟨b1, o1, none⟩) c0 r0 m wr (HLr.out.sc HS.out) HSm.out
            have Hm : Hid (N.nd.kids.getD i 0 = m ∧ m < X0.length ∧ Ed (kX X0) k m) := ⟨hm, hml, hed⟩
            clear hm hml hed
            go_wp2_with fail
            refine Calls.mono HD.out ?_
            rintro e wq ⟨l, al, cl, rfl, hl, hbi, hl60, hb⟩
            have HBq : Hid (Below w4.heap.size w4 wq) := HB.out.trans (hb.mono hsz)
            have HMq : Hid (MetS wq w4.heap.size n M) := HM.out.below hb
            have Hl : Hid (LsQ (fun b => b ≠ w4.heap.size) wq al (nV l)) := (LsAt.qTrue hl).ne_met HMq.out.met
            have Hbi : Hid (∀ x, x ∈ l ↔ Rt (Ed (kX X0)) m x) := fun x => by
              have := (hbi.2 ⟨HRi.out.1, HRi.out.2.1, isPb_iff.2 ⟨by omega, by have := Hm.out.2.1; omega⟩⟩).2 x
              rwa [Int.toNat_natCast] at this
            clear HD HB HM hl hbi hb x0 x1 HLr d2 e2 hb2 hsz
            go_wp2_with fail
            go_loopw [49] (fun jv wr => ∃ (j n2 : Nat) (M2 : List Nat), jv = .int .i64 j ∧ j ≤ l.length ∧ n2 ≤ 1 + 60 * i + j ∧ Hid (MetS wr w4.heap.size n2 M2) ∧ Hid (∀ x, x ∈ M2 ↔ x ∈ M ∨ x ∈ l.take j) ∧ Hid (Fr (fun b => b = w4.heap.size) wq wr) ∧ Hid (Below w4.heap.size w4 wr)) (fun jv _ => l.length - (intOf jv).toNat)
            case atStart => exact ⟨0, n, M, rfl, by omega, by omega, HMq, (by intro x; simp), Fr.refl _ _, HBq⟩
            case round =>
              clear HMq HBq
              obtain ⟨j, n2, M2, rfl, hj, hn2, HM, HM2, HF, HB⟩ := hrel
              by_cases hjl : j < l.length
              · have hjl' : (j : Int) < l.length := by omega
                obtain ⟨b3, o3, e3, hb3, d3⟩ := LsQ.at (Hl.out.fr HF.out (fun b q _ e => q e)) (nV_at l j hjl)
                have hxm := (Hbi.out _).1 (getD_mem hjl)
                have hxl : l.getD j 0 < X0.length := by have := Ok9.rt (kX_ok HRi.out.2.1) (by rw [kX_length]; exact Hm.out.2.1) hxm; rwa [kX_length] at this
                have hxk : ¬ ((l.getD j 0 : Nat) : Int) = k := fun e => by
                  have e' : l.getD j 0 = k := by omega
                  rw [e'] at hxm
                  exact HRi.out.2.2.1 k ⟨m, Hm.out.2.2, hxm⟩
                obtain ⟨w6, hup, hm6, hg6⟩ := HM.out.put (l.getD j 0) (by omega) (by unfold maxLen; omega)
                have HM6 : Hid (MetS w6 w4.heap.size (n2 + 1) (addN M2 (l.getD j 0))) := hm6
                have HX6 : Hid (∀ x, x ∈ addN M2 (l.getD j 0) ↔ x ∈ M ∨ x ∈ l.take (j + 1)) := fun x => by rw [mem_addN, HM2.out x, take_more hjl, or_assoc]
                have HF6 : Hid (Fr (fun b => b = w4.heap.size) wq w6) := HF.out.trans (Fr.of_grown hg6 (fun q e => (Option.some.inj e).symm)) (fun i hi _ => hi)
                have HB6 : Hid (Below w4.heap.size w4 w6) := HB.out.grown hg6 HB.out.size (fun q hq => by have := Option.some.inj hq; omega)
                rw [e3]
                generalize l.getD j 0 = x at *
                clear hm6 hg6 HM HM2 HF HB hxm
                go_wp2_with fail
                go_roundw
                case rel => exact ⟨j + 1, n2 + 1, _, by go_num, by omega, by omega, HM6, HX6, HF6, HB6⟩
                case measure => simp [intOf]; omega
              · have hjl' : ¬ (j : Int) < l.length := by omega
                have HX6 : Hid (∀ x, x ∈ M2 ↔ x = k ∨ ∃ j, j < i + 1 ∧ Rt (Ed (kX X0)) (N.nd.kids.getD j 0).toNat x) := fun x => by
                  rw [HM2.out x, HMi.out x, List.take_of_length_le (by omega), Hbi.out x]
                  constructor
                  · rintro ((q | ⟨j, h1, h2⟩) | q)
                    · exact .inl q
                    · exact .inr ⟨j, by omega, h2⟩
                    · exact .inr ⟨i, by omega, by rw [Hm.out.1, Int.toNat_natCast]; exact q⟩
                  · rintro (q | ⟨j, h1, h2⟩)
                    · exact .inl (.inl q)
                    · by_cases h3 : j < i
                      · exact .inl (.inr ⟨j, h3, h2⟩)
                      · obtain rfl : j = i := by omega
                        rw [Hm.out.1, Int.toNat_natCast] at h2
                        exact .inr h2
                clear HM2 HMi HF Hl Hbi
                go_wp2_with fail
                go_roundw
                case rel => exact ⟨i + 1, n2, M2, by go_num, by omega, by omega, HM, HX6, HB⟩
                case measure => simp [intOf]; omega
          · have hlt' : ¬ (i : Int) < N.nd.kids.length := by omega
            obtain rfl : i = N.nd.kids.length := by omega
            have HD : Hid (Calls Try.prog 15 #[.agg #[.slice (some ⟨b1, o1, none⟩) X0.length c0, .int .i64 r0], .int .i64 (k : Int)] wr fun e w' => BelowOut X0 r0 k wr w' e) := below_any X0 (some ⟨b1, o1, none⟩) c0 r0 k wr (HLr.out.sc HS.out) HSm.out
            clear HNd HKd
            go_wp2_with fail
            refine Calls.mono HD.out ?_
            rintro e wq ⟨l, al, cl, rfl, hl, hbi, hl60, hb⟩
            have HLq : Hid (Lw w wq (some ⟨b1, o1, none⟩) X0 c0 r0) := HLr.out.more hb
            have HMq : Hid (MetS wq w4.heap.size n M) := HM.out.below hb
            have Hl : Hid (LsAt wq al (nV l)) := hl
            have HE : Hid ((∀ x, x ∈ l ↔ x ∈ M) ∧ l.length = M.length) := HSame.out l M hbi HM.out.1 HMi.out
            have Hlt : Hid (∀ x, x ∈ l → x < X0.length) := fun x hx => by
              have h1 := (hbi.2 ⟨HRi.out.1, HRi.out.2.1, isPb_iff.2 ⟨by omega, by omega⟩⟩).2 x
              have := Ok9.rt (kX_ok HRi.out.2.1) (by rw [kX_length, Int.toNat_natCast]; exact hkl) (h1.1 hx)
              rwa [kX_length] at this
            clear HD HB HM HMi HSame hl hbi hb x0 x1 HLr HL4
            go_wp2_with fail
            go_loopw [65] (fun jv wr => ∃ (j : Nat), jv = .int .i64 j ∧ j ≤ l.length ∧ wr = wq) (fun jv _ => l.length - (intOf jv).toNat)
            case atStart => exact ⟨0, rfl, by omega, rfl⟩
            case round =>
              obtain ⟨j, rfl, hj, rfl⟩ := hrel
              by_cases hjl : j < l.length
              · have hjl' : (j : Int) < l.length := by omega
                obtain ⟨b3, o3, e3, hb3, d3⟩ := LsAt.at Hl.out (nV_at l j hjl)
                have hxl := Hlt.out _ (getD_mem hjl)
                have hlk := HMq.out.met.look (l.getD j 0) (by omega)
                rw [decide_eq_true ((HE.out.1 _).1 (getD_mem hjl))] at hlk
                rw [e3]
                generalize l.getD j 0 = x at *
                go_wp2_with fail
                go_roundw
                case rel => exact ⟨j + 1, by go_num, by omega, trivial⟩
                case measure => simp [intOf]; omega
              · have hjl' : ¬ (j : Int) < l.length := by omega
                have HDp : Hid (∀ W, Lw w W (some ⟨b1, o1, none⟩) X0 c0 r0 → Calls Try.prog 15 #[.agg #[.slice (some ⟨b1, o1, none⟩) X0.length c0, .int .i64 r0], .int .i64 r0] W fun e w' => (∃ a2 c2, e = .returned (.slice a2 X0.length c2)) ∧ Below W.heap.size W w') := fun W hW => by
                  refine Calls.mono (below_any X0 (some ⟨b1, o1, none⟩) c0 r0 r0 W (hW.sc HS.out) HSm.out) ?_
                  rintro e w' ⟨l2, a2, c2, rfl, _, h2, _, h3⟩
                  exact ⟨⟨a2, c2, by rw [loose_root HRi.out h2]⟩, h3⟩
                have Hlen : Hid (l.length = M.length) := HE.out.2
                generalize l.length = L at *
                clear HE Hlt Hl HRi HS HSm hj hjl
                go_wp2_with fail
                refine facts_region none 99 (glF X0 (some ⟨b1, o1, none⟩) c0 r0 L w4.heap.size w.heap.size al cl) (by kernel_rfl) (by kernel_rfl) (glF_stab X0 (some ⟨b1, o1, none⟩) c0 r0 L w4.heap.size w.heap.size al cl) ?step ?fin
                case step =>
                  intro i o ho a' W hg hstill hoff hdep K hK
                  have t2 : a'.tmps[2]?.getD undef = .pointer (some ⟨w.heap.size, 0, none⟩) := hoff 2 (by kernel_rfl)
                  have t5 : a'.tmps[5]?.getD undef = .map (some w4.heap.size) := hoff 5 (by kernel_rfl)
                  have t10 : a'.tmps[10]?.getD undef = .slice al L cl := hoff 10 (by kernel_rfl)
                  have hLW : Lw w W (some ⟨b1, o1, none⟩) X0 c0 r0 := HLq.out.more (below_of_grown hg)
                  have x0 := hLW.c0
                  have x1 := hLW.c1
                  have HMW : Hid (MetS W w4.heap.size n M) := HMq.out.below (below_of_grown hg)
                  have HC := HDp.out W hLW
                  clear hg hstill hoff hLW HLq HDp HMq
                  rcases i with _|_|_|_|_|_|_|_|_|_|_|_|_|_|_|_|_|i
                  · obtain rfl := Option.some.inj ho
                    clear hdep HC
                    go_simp
                    exact hK _ _ (grown_refl _ _) rfl
                  · obtain rfl := Option.some.inj ho
                    have e0 : a'.tmps[74]?.getD undef = .slice al L cl := hdep 0 _ (by kernel_rfl) rfl
                    clear hdep HC
                    go_simp
                    exact hK _ _ (grown_refl _ _) rfl
                  · obtain rfl := Option.some.inj ho
                    clear hdep HC
                    go_simp
                    exact hK _ _ (grown_refl _ _) rfl
                  · obtain rfl := Option.some.inj ho
                    have e0 : a'.tmps[76]?.getD undef = .map (some w4.heap.size) := hdep 2 _ (by kernel_rfl) rfl
                    have hln := HMW.out.len 3
                    rw [← Hlen.out] at hln
                    clear hdep HC
                    go_simp
                    exact hK _ _ (grown_refl _ _) rfl
                  · obtain rfl := Option.some.inj ho
                    have e0 : a'.tmps[75]?.getD undef = .int .i64 (L : Int) := hdep 1 _ (by kernel_rfl) rfl
                    have e1 : a'.tmps[77]?.getD undef = .int .i64 (L : Int) := hdep 3 _ (by kernel_rfl) rfl
                    clear hdep HC
                    go_simp
                    exact hK _ _ (grown_refl _ _) rfl
                  · obtain rfl := Option.some.inj ho
                    have e0 : a'.tmps[78]?.getD undef = .bool true := hdep 4 _ (by kernel_rfl) rfl
                    clear hdep HC
                    go_simp
                    exact hK _ _ (grown_refl _ _) rfl
                  · obtain rfl := Option.some.inj ho
                    have hgd : a'.tmps[79]?.getD undef = .bool true := hdep 5 _ (by kernel_rfl) rfl
                    have hgd' := getD_bool hgd
                    clear hdep HC
                    go_simp
                    exact hK _ _ (grown_refl _ _) rfl
                  · obtain rfl := Option.some.inj ho
                    have hgd : a'.tmps[79]?.getD undef = .bool true := hdep 5 _ (by kernel_rfl) rfl
                    have hgd' := getD_bool hgd
                    clear hdep HC
                    go_simp
                    exact hK _ _ (grown_refl _ _) rfl
                  · obtain rfl := Option.some.inj ho
                    have e0 : a'.tmps[81]?.getD undef = .pointer (some ⟨w.heap.size, 1, none⟩) := hdep 7 _ (by kernel_rfl) rfl
                    have hgd : a'.tmps[79]?.getD undef = .bool true := hdep 5 _ (by kernel_rfl) rfl
                    have hgd' := getD_bool hgd
                    clear hdep HC
                    go_simp
                    exact hK _ _ (grown_refl _ _) rfl
                  · obtain rfl := Option.some.inj ho
                    have e0 : a'.tmps[80]?.getD undef = .agg #[.slice (some ⟨b1, o1, none⟩) X0.length c0, .int .i64 r0] := hdep 6 _ (by kernel_rfl) rfl
                    have e1 : a'.tmps[82]?.getD undef = .int .i64 r0 := hdep 8 _ (by kernel_rfl) rfl
                    have hgd : a'.tmps[79]?.getD undef = .bool true := hdep 5 _ (by kernel_rfl) rfl
                    have hgd' := getD_bool hgd
                    clear hdep
                    go_simp
                    refine Calls.mono HC ?_
                    rintro e w' ⟨⟨a2, c2, rfl⟩, h3⟩
                    exact hK _ _ (grown_of_below h3 _) ⟨a2, c2, rfl⟩
                  · obtain rfl := Option.some.inj ho
                    have hgd : a'.tmps[79]?.getD undef = .bool true := hdep 5 _ (by kernel_rfl) rfl
                    have hgd' := getD_bool hgd
                    have e0 : ∃ a2 c2, a'.tmps[83]?.getD undef = .slice a2 X0.length c2 := hdep 9 _ (by kernel_rfl) rfl
                    clear hdep HC
                    obtain ⟨a2, c2, e0⟩ := e0
                    go_simp
                    exact hK _ _ (grown_refl _ _) rfl
                  · obtain rfl := Option.some.inj ho
                    have hgd : a'.tmps[79]?.getD undef = .bool true := hdep 5 _ (by kernel_rfl) rfl
                    have hgd' := getD_bool hgd
                    clear hdep HC
                    go_simp
                    exact hK _ _ (grown_refl _ _) rfl
                  · obtain rfl := Option.some.inj ho
                    have e0 : a'.tmps[85]?.getD undef = .pointer (some ⟨w.heap.size, 0, none⟩) := hdep 11 _ (by kernel_rfl) rfl
                    have hgd : a'.tmps[79]?.getD undef = .bool true := hdep 5 _ (by kernel_rfl) rfl
                    have hgd' := getD_bool hgd
                    clear hdep HC
                    go_simp
                    exact hK _ _ (grown_refl _ _) rfl
                  · obtain rfl := Option.some.inj ho
                    have e0 : a'.tmps[86]?.getD undef = .slice (some ⟨b1, o1, none⟩) X0.length c0 := hdep 12 _ (by kernel_rfl) rfl
                    have hgd : a'.tmps[79]?.getD undef = .bool true := hdep 5 _ (by kernel_rfl) rfl
                    have hgd' := getD_bool hgd
                    clear hdep HC
                    go_simp
                    exact hK _ _ (grown_refl _ _) rfl
                  · obtain rfl := Option.some.inj ho
                    have e0 : a'.tmps[84]?.getD undef = .int .i64 (X0.length : Int) := hdep 10 _ (by kernel_rfl) rfl
                    have e1 : a'.tmps[87]?.getD undef = .int .i64 (X0.length : Int) := hdep 13 _ (by kernel_rfl) rfl
                    have hgd : a'.tmps[79]?.getD undef = .bool true := hdep 5 _ (by kernel_rfl) rfl
                    have hgd' := getD_bool hgd
                    clear hdep HC
                    go_simp
                    exact hK _ _ (grown_refl _ _) rfl
                  · obtain rfl := Option.some.inj ho
                    have e0 : a'.tmps[79]?.getD undef = .bool true := hdep 5 _ (by kernel_rfl) rfl
                    have e1 : a'.tmps[88]?.getD undef = .bool true := hdep 14 _ (by kernel_rfl) rfl
                    clear hdep HC
                    go_simp
                    exact hK _ _ (grown_refl _ _) rfl
                  · obtain rfl := Option.some.inj ho
                    have e0 : a'.tmps[89]?.getD undef = .bool true := hdep 15 _ (by kernel_rfl) rfl
                    clear hdep HC
                    go_simp
                    exact hK _ _ (grown_refl _ _) rfl
                  · exact absurd ho (by simp)
                case fin =>
                  intro V W hg hF
                  have y16 : V (some 4) = .bool true := hF 16 _ rfl
                  have HB : Hid (Below w.heap.size w W) := (HLq.out.more (below_of_grown hg)).bel
                  clear hF hg HLq HDp HMq Hlen
                  simp only [fillA, Act.put, List.setIfInBounds_toArray, List.set_cons_zero, List.set_cons_succ, y16]
                  generalize V (some 74) = z74
                  generalize V (some 75) = z75
                  generalize V (some 76) = z76
                  generalize V (some 77) = z77
                  generalize V (some 78) = z78
                  generalize V (some 79) = z79
                  generalize V (some 80) = z80
                  generalize V (some 81) = z81
                  generalize V (some 82) = z82
                  generalize V (some 83) = z83
                  generalize V (some 84) = z84
                  generalize V (some 85) = z85
                  generalize V (some 86) = z86
                  generalize V (some 87) = z87
                  generalize V (some 88) = z88
                  generalize V (some 89) = z89
                  clear y16
                  go_wp2_with fail
                  go_ret
                  exact ⟨rfl, HB.out⟩
      · have hp' : isPb X0.length a1 = false := by simpa using hp
        clear hp HRi
        go_wp2_with fail
        refine (place_any _ _ _ _ _ _).mono ?_
        rintro e w4 ⟨rfl, hb4⟩
        rw [hp']
        have HL4 : Hid (Lw w w4 a0 X0 c0 r0) := HL3.out.more hb4
        clear HL3 hb4 x0 x1
        go_wp2_with fail
        refine (HA.out _).mono ?_
        rintro e w5 ⟨rfl, hb5⟩
        have HB : Hid (Below w.heap.size w w5) := (HL4.out.more hb5).bel
        clear HL4 hb5
        go_wp2_with fail
        go_ret
        exact ⟨rfl, HB.out⟩

set_option maxRecDepth 100000 in
theorem lifted (os : Os) (started : os.Started) (H : Type) (enc : TypeId × Value → H) :
    ReturnsInHanded {} Try.checked os 6 .any (Rows.graphLooseSpec.pre6 enc Try.prog Try.f6 Rows.graphLooseRow.domain false) (Rows.graphLooseSpec.post enc Try.prog Try.f6 false true false false) := by
  refine returnsInHanded_of_change (C := Try.checked) own started (by kernel_rfl) Try.func6
    (ChangeSpec.witness6 (enc := enc) (C := Try.checked) false ⟨#[], #[.agg #[.slice none 0 0, .int .i64 0], .int .i64 0], []⟩ 8 (by kernel_rfl) (by kernel_rfl) (by kernel_rfl) (by kernel_rfl)) ?_
  intro W base args ds gs before hval0 hW hcnd _
  have hval : ∀ (j : Nat) t v, Try.f6.params[j]? = some t → args[j]? = some v → Value.okWide Try.prog W .any base t v := hval0
  have hW' := hW
  obtain ⟨p, q, hA0, hV, rfl, hfz, hnd⟩ := hW
  have hA : DataW.TrodAll enc Try.prog W 0 (fun _ => true) true Try.f6.params.toList args.toList ds p := hA0
  rw [Try.params6] at hA hval
  obtain ⟨v0, vs0, d0, ds0, p0, q0, hargs, rfl, rfl, h0, r0⟩ := trodAll_cons hA
  obtain ⟨v1, vs1, d1, ds1, p1, q1, rfl, rfl, rfl, h1, r1⟩ := trodAll_cons r0
  obtain ⟨rfl, rfl, rfl⟩ := trodAll_nil r1
  obtain rfl : args = #[v0, v1] := by cases args; simp_all
  obtain ⟨rfl, rfl⟩ := trodVars_none hV
  have K0 := h0
  have lt0 : ∀ x ∈ p0, x.block < W.heap.size := by obtain ⟨m, hm⟩ := K0; exact DataW.trod_lt m _ _ _ hm
  obtain ⟨X0, a0, c0, rt0, rfl, w0⟩ := open_scene Try.underlying24 (by kernel_rfl) (by kernel_rfl) Try.underlying22 Try.underlying3 Try.underlying45 (by kernel_rfl) rfl rfl rfl rfl (by kernel_rfl) (by kernel_rfl) (by kernel_rfl) (by kernel_rfl) Try.underlying3 Try.underlying42 Try.underlying43 Try.underlying34 Try.underlying2 Try.underlying9 Try.underlying3 (by kernel_rfl) (by kernel_rfl) (by kernel_rfl) (hval 0 24 v0 rfl rfl) h0
  obtain ⟨a1, rfl, rfl, rfl, w1⟩ := open_int Try.underlying3 (hval 1 3 v1 rfl rfl) h1
  clear hA0 hval0
  refine (walk X0 a0 c0 rt0 a1 W w0 w1).mono fun e W' ⟨he, bel⟩ => ?_
  subst he
  exact ⟨_, rfl, _, _, _, [], _, [], hW', trodAll_mk1 (shut_bool Try.underlying4 _), (trodAll_cons_mk (Below.trod laidOut (by kernel_rfl) (of_decide_eq_true (by kernel_rfl)) K0 bel lt0) (trodAll_cons_mk (shut_int Try.underlying3 w1) trodAll_mk0)), rfl, bel.frame _, fun h => by cases h⟩

theorem over : Rows.graphLooseRow.holds Try.pinned (OpenSpec.ofChange Rows.graphLooseSpec) :=
  OpenClaim.holds_of_wide 6 Try.f6 rfl rfl rfl rfl rfl rfl rfl ⟨rfl, rfl, rfl, rfl, rfl⟩ rfl rfl rfl rfl rfl (by kernel_rfl) Try.func6 (by kernel_rfl)
    (of_decide_eq_true (by kernel_rfl)) (by unfold Func.isWrapper; first | (rw [if_pos (by decide +kernel)]; kernel_rfl) | (rw [if_neg (by decide +kernel)]; exact ⟨rfl, rfl⟩))
    (fun os started H enc _ => lifted os started H enc)

end Go.Proofs.Ytlfibkfjklggeaa.graphLoose

namespace Go.Proofs.Ytlfibkfjklggeaa
theorem graphLoose_holds : Rows.GraphLooseSaid := graphLoose.over
#print axioms graphLoose_holds
end Go.Proofs.Ytlfibkfjklggeaa
