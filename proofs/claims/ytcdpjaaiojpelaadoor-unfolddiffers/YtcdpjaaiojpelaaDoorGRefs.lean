/- The contracts of ref's Refs, the program's firstWrong and kids. -/
import Derived.Test.YtcdpjaaiojpelaaDoorGEdg
import Derived.Lib.QuietBelow
import Derived.BigQuiet
namespace Go.Proofs.YtcdpjaaiojpelaaDoor
open Go.RowKit Go.Maps Go.WideMaps Go.Sort

/-- Are all kids of a node places? -/
def okAt (X : List Nx) (i : Nat) : Prop := ∀ j, j < (X.getD i noNx).nd.kids.length → isPb X.length ((X.getD i noNx).nd.kids.getD j 0) = true
/-- The first node one of whose kids is no place. -/
def RefsIs (X : List Nx) (z : Int) : Prop := (z = -1 ∧ ∀ i, i < X.length → okAt X i) ∨ ∃ i : Nat, i < X.length ∧ z = i ∧ ¬ okAt X i ∧ ∀ j, j < i → okAt X j
def RefsOut (X : List Nx) (w w' : World) (e : Ending) : Prop := ∃ z : Int, e = .returned (.int .i64 z) ∧ RefsIs X z ∧ Below w.heap.size w w'

set_option maxRecDepth 10000 in
set_option maxHeartbeats 400000 in
theorem refs_any (X : List Nx) (a : Option Addr) (c : Nat) (r : Int) (w : World) (h : ScAt w a X) (hX : Small X) :
    Calls Tryd.prog 32 #[.agg #[.slice a X.length c, .int .i64 r]] w fun e w' => RefsOut X w w' e := by
  have HB : Hid _ := fun (o : Obj) => (Below.refl w.heap.size w).alloc (Nat.le_refl _) o
  have HS : Hid _ := And.intro h hX
  have hn := hX.1
  clear h hX
  go_enter Tryd.func32, Tryd.ntmps32
  go_wp2_with fail
  go_loopw [3] (fun iv wr => ∃ i : Nat, iv = .int .i64 i ∧ i ≤ X.length ∧ Hid (∀ k, k < i → okAt X k) ∧ AtN 24 wr w.heap.size #[.slice a X.length c, .int .i64 r] ∧ Below w.heap.size w wr) (fun iv _ => X.length - (intOf iv).toNat)
  case atStart => exact ⟨0, rfl, by omega, fun k hk => by omega, AtN.new w 24 _, HB.out _⟩
  case round =>
    obtain ⟨i, rfl, hi, HI, n1, hb⟩ := hrel
    have x0 : wr.cell? ⟨w.heap.size, 0, none⟩ = some (.slice a X.length c) := n1.cell 0
    by_cases hlt : i < X.length
    · have hlt' : (i : Int) < X.length := by omega
      have hk : (X.getD i noNx).nd.kids.length ≤ 300 := HS.out.2.kids hlt
      have HN : Hid _ := And.intro n1 hb
      clear n1 hb HB
      go_wp2_with fail
      go_loopw [4] (fun jv wr2 => ∃ j : Nat, jv = .int .i64 j ∧ j ≤ (X.getD i noNx).nd.kids.length ∧ Hid (∀ k, k < j → isPb X.length ((X.getD i noNx).nd.kids.getD k 0) = true) ∧ AtN 24 wr2 w.heap.size #[.slice a X.length c, .int .i64 r] ∧ Below w.heap.size w wr2) (fun jv _ => (X.getD i noNx).nd.kids.length - (intOf jv).toNat)
      case atStart => exact ⟨0, rfl, by omega, fun k hk => by omega, HN.out.1, HN.out.2⟩
      case round =>
        clear HN
        obtain ⟨j, rfl, hj, HJ, n1, hb⟩ := hrel
        have hs := ScAt.belowB HS.out.1 hb
        have x0 : wr.cell? ⟨w.heap.size, 0, none⟩ = some (.slice a X.length c) := n1.cell 0
        have x1 : wr.cell? ⟨w.heap.size, 1, none⟩ = some (.int .i64 r) := n1.cell 1
        obtain ⟨b, o, rfl, hbl, d0, d1, d2, d3⟩ := hs.node hlt
        by_cases hjl : j < (X.getD i noNx).nd.kids.length
        · have hjl' : (j : Int) < (X.getD i noNx).nd.kids.length := by omega
          obtain ⟨b2, o2, e2, hb2, d4⟩ := (hs.each i hlt).k.at (iV_at _ j hjl)
          rw [e2] at d3
          have HV : Hid (∀ P : isPb X.length ((X.getD i noNx).nd.kids.getD j 0) = true, ∀ k, k < j + 1 → isPb X.length ((X.getD i noNx).nd.kids.getD k 0) = true) := fun P k hk => by
            by_cases e : k = j
            · rw [e]; exact P
            · exact HJ.out k (by omega)
          have HW : Hid (¬ (isPb X.length ((X.getD i noNx).nd.kids.getD j 0) = true) → RefsIs X (i : Nat)) := fun q => .inr ⟨i, hlt, rfl, fun g => q (g j hjl), HI.out⟩
          generalize (X.getD i noNx).nd.kids.getD j 0 = K at *
          generalize hKL : (X.getD i noNx).nd.kids.length = KL at *
          generalize (X.getD i noNx).c3 = c3 at *
          have m0 := fun d os => cell_regrown x0 d os
          have m1 := fun d os => cell_regrown x1 d os
          have m2 := fun d os => cell_regrown d3 d os
          have m3 := fun d os => cell_regrown d4 d os
          have cP := fun d os => Calls.regrown_of (place_any (some ⟨b, o, none⟩) X.length c r K (grow (redrawn wr d) os))
          have HN : Hid _ := And.intro n1 hb
          clear n1 hb hs HI HJ HS
          go_wp2_with fail
          refine wp_region_quiet_below (by kernel_rfl) (by kernel_rfl) ?_
          repeat (first | go_big_quiet_step (first | (go_at_call 31; exact cP _ _)) | quiet_step (first | (go_at_call 31; exact cP _ _)))
          refine wpQuiet_nil ?_
          intro _ hw'
          obtain ⟨⟨dq, osq⟩, hw''⟩ := hw'
          subst hw''
          have HN2 : Hid _ := And.intro (AtN.belowAll HN.out.1 (below_regrown wr dq osq)) (HN.out.2.trans ((below_regrown wr dq osq).mono HN.out.2.size))
          clear HN m0 m1 m2 m3 cP
          by_cases hP : isPb X.length K = true
          · have hd := hP
            have HV2 : Hid _ := HV.out hP
            clear HV HW hP
            rw [hd]
            go_wp2_with fail
            go_roundw
            case rel => exact ⟨j + 1, by go_num, by omega, HV2.out, HN2.out.1, HN2.out.2⟩
            case measure => simp [intOf]; omega
          · have hd : isPb X.length K = false := by simpa using hP
            have HW2 : Hid _ := HW.out hP
            clear HV HW hP
            rw [hd]
            go_wp2_with fail
            go_ret
            exact ⟨_, rfl, HW2.out, HN2.out.2⟩
        · have hjl' : ¬ (j : Int) < (X.getD i noNx).nd.kids.length := by omega
          have HV : Hid (∀ k, k < i + 1 → okAt X k) := fun k hk => by
            by_cases e : k = i
            · rw [e]; exact fun q hq => HJ.out q (by omega)
            · exact HI.out k (by omega)
          have HN : Hid _ := And.intro n1 hb
          generalize (X.getD i noNx).nd.kids.length = KL at *
          clear n1 hb hs HI HJ HS
          go_wp2_with fail
          go_roundw
          case rel => exact ⟨i + 1, by go_num, by omega, HV.out, HN.out.1, HN.out.2⟩
          case measure => simp [intOf]; omega
    · have hlt' : ¬ (i : Int) < X.length := by omega
      have HV : Hid (RefsIs X (-1)) := .inl ⟨rfl, fun k hk => HI.out k (by omega)⟩
      have HN : Hid _ := hb
      clear HI n1 hb HB HS
      go_wp2_with fail
      go_ret
      exact ⟨_, rfl, HV.out, HN.out⟩

/-- What firstWrong tells. -/
def FwIs (X : List Nx) (r z : Int) (b : Bool) : Prop := (isPb X.length r = false ∧ z = -1 ∧ b = true) ∨ (isPb X.length r = true ∧ ((b = false ∧ z = 0 ∧ ∀ i, i < X.length → okAt X i) ∨ (b = true ∧ ∃ i : Nat, i < X.length ∧ z = i ∧ ¬ okAt X i ∧ ∀ j, j < i → okAt X j)))
def FwOut (X : List Nx) (r : Int) (w w' : World) (e : Ending) : Prop := ∃ z b, e = .returned (.tuple #[.int .i64 z, .bool b]) ∧ FwIs X r z b ∧ Below w.heap.size w w'

set_option maxRecDepth 10000 in
set_option maxHeartbeats 400000 in
theorem firstwrong_any (X : List Nx) (a : Option Addr) (c : Nat) (r : Int) (w : World) (h : ScAt w a X) (hX : Small X) :
    Calls Tryd.prog 43 #[.agg #[.slice a X.length c, .int .i64 r]] w fun e w' => FwOut X r w w' e := by
  have HB : Hid _ := fun (o : Obj) => (Below.refl w.heap.size w).alloc (Nat.le_refl _) o
  have HS : Hid _ := And.intro h hX
  have hn := hX.1
  clear h hX
  by_cases hr : isPb X.length r = true
  · go_enter Tryd.func43, Tryd.ntmps43
    go_wp2_with (go_at_call 53; refine (isplace_any _ _ _).mono ?_; rintro e w1 ⟨rfl, rfl⟩; rw [hr])
    go_loopw [18] (fun iv wr => ∃ i : Nat, iv = .int .i64 i ∧ i ≤ X.length ∧ Hid (∀ k, k < i → okAt X k) ∧ AtN 24 wr w.heap.size #[.slice a X.length c, .int .i64 r] ∧ Below w.heap.size w wr) (fun iv _ => X.length - (intOf iv).toNat)
    case atStart => exact ⟨0, rfl, by omega, fun k hk => by omega, AtN.new w 24 _, HB.out _⟩
    case round =>
      obtain ⟨i, rfl, hi, HI, n1, hb⟩ := hrel
      by_cases hlt : i < X.length
      · have hlt' : (i : Int) < X.length := by omega
        have hk : (X.getD i noNx).nd.kids.length ≤ 300 := HS.out.2.kids hlt
        obtain ⟨b, o, rfl, hbl, d0, d1, d2, d3⟩ := (ScAt.belowB HS.out.1 hb).node hlt
        have HE : Hid (∀ W, Below w.heap.size w W → LsAt W (X.getD i noNx).a3 (iV (X.getD i noNx).nd.kids)) := fun W hW => ((ScAt.belowB HS.out.1 hW).each i hlt).k
        have HO : Hid (okAt X i ↔ ∀ j, j < (X.getD i noNx).nd.kids.length → isPb X.length ((X.getD i noNx).nd.kids.getD j 0) = true) := Iff.rfl
        generalize X.getD i noNx = N at *
        have HN : Hid _ := And.intro n1 hb
        have hbs := hb.size
        clear n1 hb HB HS
        go_wp2_with fail
        go_loopw [26] (fun jv wr2 => ∃ j : Nat, jv = .int .i64 j ∧ j ≤ N.nd.kids.length ∧ Hid (∀ k, k < j → isPb X.length (N.nd.kids.getD k 0) = true) ∧ AtN 24 wr2 w.heap.size #[.slice (some ⟨b, o, none⟩) X.length c, .int .i64 r] ∧ Below w.heap.size w wr2) (fun jv _ => N.nd.kids.length - (intOf jv).toNat)
        case atStart => exact ⟨0, rfl, by omega, fun k hk => by omega, AtN.alloc HN.out.1 _, HN.out.2.alloc HN.out.2.size _⟩
        case round =>
          clear HN d0 d1 d2 d3 hbl hbs
          obtain ⟨j, rfl, hj, HJ, n1, hb⟩ := hrel
          have x0 : wr.cell? ⟨w.heap.size, 0, none⟩ = some (.slice (some ⟨b, o, none⟩) X.length c) := n1.cell 0
          by_cases hjl : j < N.nd.kids.length
          · have hjl' : (j : Int) < N.nd.kids.length := by omega
            obtain ⟨b2, o2, e2, hb2, d4⟩ := (LsAt.at (HE.out wr hb) (iV_at _ j hjl))
            have HV : Hid (∀ P : isPb X.length (N.nd.kids.getD j 0) = true, ∀ k, k < j + 1 → isPb X.length (N.nd.kids.getD k 0) = true) := fun P k hk => by
              by_cases e : k = j
              · rw [e]; exact P
              · exact HJ.out k (by omega)
            have HW : Hid (¬ (isPb X.length (N.nd.kids.getD j 0) = true) → FwIs X r (i : Nat) true) := fun q => .inr ⟨hr, .inr ⟨rfl, i, hlt, rfl, fun g => q (HO.out.1 g j hjl), HI.out⟩⟩
            generalize N.nd.kids.getD j 0 = K at *
            rw [e2]
            have HN : Hid _ := And.intro n1 hb
            clear n1 hb HI HJ HE HO
            by_cases hP : isPb X.length K = true
            · have HV2 : Hid _ := HV.out hP
              clear HV HW
              go_wp2_with (go_at_call 53; refine (isplace_any _ _ _).mono ?_; rintro e w1 ⟨rfl, rfl⟩; rw [hP])
              go_roundw
              case rel => exact ⟨j + 1, by go_num, by omega, HV2.out, HN.out.1, HN.out.2⟩
              case measure => simp [intOf]; omega
            · have HW2 : Hid (FwIs X r (i : Nat) true) := HW.out hP
              have hP' : isPb X.length K = false := by simpa using hP
              clear HV HW hP
              go_wp2_with (go_at_call 53; refine (isplace_any _ _ _).mono ?_; rintro e w1 ⟨rfl, rfl⟩; rw [hP'])
              go_ret2
              exact ⟨_, _, rfl, HW2.out, HN.out.2⟩
          · have hjl' : ¬ (j : Int) < N.nd.kids.length := by omega
            have HV : Hid (∀ k, k < i + 1 → okAt X k) := fun k hk => by
              by_cases e : k = i
              · rw [e]; exact HO.out.2 fun q hq => HJ.out q (by omega)
              · exact HI.out k (by omega)
            have HN : Hid _ := And.intro n1 hb
            clear n1 hb HI HJ HE HO
            go_wp2_with fail
            go_roundw
            case rel => exact ⟨i + 1, by go_num, by omega, HV.out, HN.out.1, HN.out.2⟩
            case measure => simp [intOf]; omega
      · have hlt' : ¬ (i : Int) < X.length := by omega
        have HV : Hid (FwIs X r 0 false) := .inr ⟨hr, .inl ⟨rfl, rfl, fun k hk => HI.out k (by omega)⟩⟩
        have HN : Hid _ := hb
        clear HI n1 hb HB HS
        go_wp2_with fail
        go_ret2
        exact ⟨_, _, rfl, HV.out, HN.out⟩
  · have hr' : isPb X.length r = false := by simpa using hr
    go_enter Tryd.func43, Tryd.ntmps43
    go_wp2_with (go_at_call 53; refine (isplace_any _ _ _).mono ?_; rintro e w1 ⟨rfl, rfl⟩; rw [hr'])
    go_ret2
    exact ⟨_, _, rfl, .inl ⟨hr', rfl, rfl⟩, HB.out _⟩


end Go.Proofs.YtcdpjaaiojpelaaDoor
