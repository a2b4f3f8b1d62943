/- For every text b and every list of sizes the law CursorAll returns true: byte by byte, or in any parts, all bytes are read as they are, and then none is left (texts of more than 1000 bytes, and lists of more than 200 sizes, are let go by the law itself); no condition. -/
import Derived.Test.YtcpbcedpehecdaaRows
import Derived.WalkKit
import Derived.ProofKit
import Derived.OpenShut
import Derived.ShutString
import Derived.Below
import Derived.Deep.QuietTactic
import Derived.BigQuiet
import Derived.Test.YtcpbcedpehecdaaAwake02
import Derived.Test.YtcpbcedpehecdaaJoins
import Derived.ChangeOld
namespace Go.Proofs.Ytcpbcedpehecdaa.cursorAll
open Go.ChangeShapes Go.WideShapes Go.ChangeAt Go.RowKit
open Go.ChangeMaps (open_string shut_string)
set_option linter.unusedVariables false

theorem own : ownKnob Try.prog.godebug = none := by kernel_rfl
theorem laidOut : laidOutB Try.prog = true := by kernel_rfl

/-- WHAT THE WALK IS TOLD OF A SLICE OF INTEGERS THAT CAME IN: it is nil; or it leads to a row of 'cap' cells, the numbers 'zs' (the first 'len' are its elements, the rest its spare room), each fitting its kind. -/
def IsRow (k : IntKind) (w : World) (a : Option Addr) (len cap : Nat) (zs : List Int) : Prop :=
  (a = none ∧ len = 0 ∧ cap = 0 ∧ zs = []) ∨
  ∃ x, a = some x ∧ len ≤ cap ∧ cap ≤ maxLen ∧ zs.length = cap ∧ (∀ i, i < zs.length → w.cell? (x.add i) = some (.int k (zs.getD i 0))) ∧ ∀ n ∈ zs, (Lit.int k n).wf = true

set_option maxRecDepth 10000 in
set_option maxHeartbeats 400000 in
theorem walk (a0 : ByteArray) (a1 : Option Addr) (len1 cap1 : Nat) (z1 : List Int) (w : World) (w0 : a0.size ≤ maxLen) (w1 : IsRow .i64 w a1 len1 cap1 z1) :
    Calls Try.prog 5 #[.string a0, .slice a1 len1 cap1] w fun e w' => e = .returned (.bool true) ∧ Below w.heap.size w w' := by
  have w0' := w0
  unfold maxLen at w0'
  by_cases hl : a0.size ≤ 1000 ∧ len1 ≤ 200
  · obtain ⟨hl, hn⟩ := hl
    have hcells : ∃ xb xo : Nat, (0 < len1 → a1 = some ⟨xb, xo, none⟩) ∧ ∀ i, i < len1 → xb < w.heap.size ∧ w.cell? ⟨xb, xo + i, none⟩ = some (.int .i64 (z1.getD i 0)) := by
      rcases w1 with ⟨_, rfl, _⟩ | ⟨⟨xb, xo, xs⟩, rfl, hlc, _, hzl, hx, _⟩
      · exact ⟨0, 0, by omega, by omega⟩
      · by_cases h0 : 0 < len1
        · have hs : xs = none := by
            have h0 := World.cell?_spot (hx 0 (by omega))
            simpa [Addr.add] using h0
          subst hs
          refine ⟨xb, xo, fun _ => rfl, fun i hi => ?_⟩
          have h1 := hx i (by omega)
          rw [show (⟨xb, xo, none⟩ : Addr).add i = ⟨xb, xo + i, none⟩ by unfold Addr.add; split <;> simp_all] at h1
          exact ⟨block_lt_of_cell h1, h1⟩
        · exact ⟨0, 0, by omega, by omega⟩
    obtain ⟨xb, xo, hx, hcell⟩ := hcells
    clear w1
    go_enter Try.func5, Try.ntmps5
    go_wp2_with fail
    refine (awake_any _).mono ?_
    rintro e w1 ⟨rfl, hb1⟩
    go_wp2_with fail
    refine (new_any _ _).mono ?_
    rintro e w2 ⟨rfl, hw2⟩
    have k2 : Cu w2 w1.heap.size a0 ((0 : Nat) : Int) 0 := by rw [hw2]; exact At3.new _ _ _ _ _
    have c2 : Below w.heap.size w w2 := by rw [hw2]; exact hb1.alloc hb1.size _
    have hg : w.heap.size ≤ w1.heap.size := hb1.size
    clear hw2
    generalize w1.heap.size = g at *
    go_wp2_with fail
    go_loopw [29, 6] (fun iv gv wr => ∃ (i k : Nat) (G : ByteArray), iv = .int .i64 i ∧ gv = .string G ∧ Hid (G = a0.extract 0 k) ∧ i ≤ len1 ∧ k ≤ a0.size ∧ Cu wr g a0 k 0 ∧ Below w.heap.size w wr) (fun iv _ _ => len1 - (intOf iv).toNat)
    case atStart => exact ⟨0, 0, ⟨#[]⟩, rfl, rfl, (ext_zero a0).symm, by omega, by omega, k2, c2⟩
    case round =>
      obtain ⟨i, k, G, rfl, rfl, HG, hi, hk, hC, hB⟩ := hrel
      have hGs : G.size = k := by rw [HG.out]; exact ext_size a0 k hk
      by_cases hlt : i < len1
      · obtain ⟨hxb, q0⟩ := hcell i hlt
        have hxa := hx (by omega)
        subst hxa
        have p0 := (hB.cell (p := ⟨xb, xo + i, none⟩) hxb).trans q0
        have hgl := hC.lt
        clear hcell hx q0
        generalize z1.getD i 0 = n at *
        by_cases hn0 : 0 ≤ n
        · by_cases hn1 : n ≤ (a0.size : Int) - k
          · obtain ⟨m, rfl⟩ := Int.eq_ofNat_of_zero_le hn0
            have hp : pBytes a0 k 0 (m : Int) = (a0.extract k (k + m), k + m, 0) := by unfold pBytes; rw [if_neg (by simp), if_neg (by omega), if_neg (by omega)]; rfl
            have hP := fun (W : World) (hW : Cu W g a0 k 0) => bytes_any W g a0 k 0 (m : Int) hW (by omega) hk
            rw [hp] at hP
            have HP : Hid _ := hP
            have hxs : (a0.extract k (k + m)).size ≤ 1000 := by rw [ByteArray.size_extract]; omega
            have HJ : Hid (G ++ a0.extract k (k + m) = a0.extract 0 (k + m)) := by rw [HG.out]; exact ext_join a0 k m
            generalize a0.extract k (k + m) = X at *
            have hadd := fun (W : World) => run_string_add_sum (P := Try.prog) W G X (by omega)
            clear hP hp
            go_wp2_with fail
            refine (left_any _ g a0 k 0 hC w0 (by omega) (by omega)).mono ?_
            rintro r w3 ⟨rfl, j1, rfl⟩
            go_wp2_with fail
            refine (HP.out _ (At3.drewN hC j1)).mono ?_
            rintro r w4 ⟨rfl, hC4, g4⟩
            have hB4 := below_but (bdrewN hB j1) g4 hg hB.size
            go_wp2_with fail
            go_roundw
            case rel => exact ⟨i + 1, k + m, G ++ X, by go_num, rfl, HJ, by omega, by omega, hC4, hB4⟩
            case measure => simp [intOf]; omega
          · go_wp2_with fail
            refine (left_any _ g a0 k 0 hC w0 (by omega) (by omega)).mono ?_
            rintro r w3 ⟨rfl, j1, rfl⟩
            go_wp2_with fail
            go_roundw
            case rel => exact ⟨i + 1, k, G, by go_num, rfl, HG, by omega, by omega, At3.drewN hC j1, bdrewN hB j1⟩
            case measure => simp [intOf]; omega
        · go_wp2_with fail
          go_roundw
          case rel => exact ⟨i + 1, k, G, by go_num, rfl, HG, by omega, by omega, hC, hB⟩
          case measure => simp [intOf]; omega
      · go_wp2_with fail
        refine (left_any _ g a0 k 0 hC w0 (by omega) (by omega)).mono ?_
        rintro r w3 ⟨rfl, j1, rfl⟩
        have hd0 : (0 : Int) ≤ (a0.size : Int) - k := by omega
        have hd1 : (a0.size : Int) - k ≤ 1000 := by omega
        have hC1 := At3.drewN hC j1
        have hB1 := bdrewN hB j1
        generalize wr.drewN j1 = wm at *
        clear hC hB hcell hx
        go_wp2_with fail
        go_loopw [51, 6] (fun jv gv ws => ∃ (j : Nat) (G' : ByteArray), jv = .int .i64 j ∧ gv = .string G' ∧ Hid (G' = a0.extract 0 (k + j)) ∧ k + j ≤ a0.size ∧ Cu ws g a0 ((k + j : Nat) : Int) 0 ∧ Below w.heap.size w ws) (fun jv _ _ => a0.size - (intOf jv).toNat)
        case atStart => exact ⟨0, G, rfl, rfl, HG, by omega, hC1, hB1⟩
        case round =>
          clear hC1 hB1 HG
          obtain ⟨j, G', rfl, rfl, HG, hkj, hC, hB⟩ := hrel
          have hGs' : G'.size = k + j := by rw [HG.out]; exact ext_size a0 (k + j) hkj
          by_cases hjl : k + j < a0.size
          · have hp : pByte a0 (k + j) 0 = ((a0[k + j].toNat : Int), k + j + 1, 0) := by unfold pByte; rw [if_neg (by simp), dif_pos hjl]
            have hP := byte_any _ g a0 (k + j) 0 hC w0 hkj
            rw [hp] at hP
            have HP : Hid _ := hP
            have HJ : Hid (G' ++ ⟨[a0[k + j]].toArray⟩ = a0.extract 0 (k + j + 1)) := by rw [HG.out]; exact ext_snoc a0 (k + j) hjl
            have hc255 : a0[k + j].toNat < 256 := a0[k + j].toNat_lt
            have hof : UInt8.ofNat (a0[k + j].toNat : Int).toNat = a0[k + j] := by simp
            have hcv := fun (W : World) (g' : Nat) => conv_one (P := Try.prog) W 44 9 5 Try.underlying44 Try.underlying5 Try.underlying9 g' 1 (a0[k + j].toNat : Int) (by omega) (by omega)
            rw [hof] at hcv
            have hzs : (ByteArray.mk [a0[k + j]].toArray).size = 1 := rfl
            generalize ByteArray.mk [a0[k + j]].toArray = X at *
            have hadd := fun (W : World) => run_string_add_sum (P := Try.prog) W G' X (by omega)
            have hltI : (j : Int) < (a0.size : Int) - k := by omega
            clear hP hp hof
            go_wp2_with fail
            refine Calls.mono HP.out ?_
            rintro r w4 ⟨rfl, hC4, g4⟩
            have hB4 := below_but hB g4 hg hB.size
            go_wp2_with fail
            go_roundw
            case rel => exact ⟨j + 1, G' ++ X, by go_num, rfl, HJ, by omega, hC4.alloc _, hB4.alloc hB4.size _⟩
            case measure => simp [intOf]; omega
          · have hkj' : k + j = a0.size := by omega
            have hGa : G' = a0 := by rw [HG.out, hkj']; exact ext_all a0
            subst hGa
            have hnlt : (G'.size : Int) - k ≤ j := by omega
            rw [hkj'] at hC
            clear HG hGs hGs' hkj'
            go_wp2_with fail
            refine (err_any _ g G' _ 0 hC).mono ?_
            rintro r w4 ⟨rfl, b4⟩
            have hC4 := hC.belowAll b4
            have hB4 := hB.trans (b4.mono hB.size)
            go_wp2_with fail
            refine (left_any _ g G' _ 0 hC4 w0 (by omega) (by omega)).mono ?_
            rintro r w5 ⟨rfl, j5, rfl⟩
            go_wp2_with fail
            refine (byte_cut _ g G' _ (At3.drewN hC4 j5) w0 rfl).mono ?_
            rintro r w6 ⟨rfl, hC6, g6⟩
            have hB6 := below_but (bdrewN hB4 j5) g6 hg hB4.size
            go_wp2_with fail
            refine (err_any _ g G' _ 2 hC6).mono ?_
            rintro r w7 ⟨rfl, b7⟩
            go_wp2_with fail
            go_ret
            exact ⟨by simp, hB6.trans (b7.mono hB6.size)⟩
  · have hc : 1000 < a0.size ∨ (a0.size ≤ 1000 ∧ 200 < len1) := by omega
    rcases hc with h1 | ⟨h1, h2⟩
    all_goals
      go_enter Try.func5, Try.ntmps5
      go_wp2_with fail
      refine (awake_any _).mono ?_
      rintro e w1 ⟨rfl, hb1⟩
      go_wp2_with fail
      refine (awake_any _).mono ?_
      rintro e w2 ⟨rfl, hb2⟩
      go_wp2_with fail
      go_ret
      exact ⟨rfl, hb1.trans (hb2.mono hb1.size)⟩

set_option maxRecDepth 100000 in
theorem lifted (os : Os) (started : os.Started) (H : Type) (enc : TypeId × Value → H) :
    ReturnsInHanded {} Try.checked os 5 .any (Rows.cursorAllSpec.pre6 enc Try.prog Try.f5 Rows.cursorAllRow.domain false) (Rows.cursorAllSpec.post enc Try.prog Try.f5 false true false false) := by
  refine returnsInHanded_of_change (C := Try.checked) own started (by kernel_rfl) Try.func5
    (ChangeSpec.witness6 (enc := enc) (C := Try.checked) false ⟨#[], #[.string ByteArray.empty, .slice none 0 0], []⟩ 8 (by kernel_rfl) (by kernel_rfl) (by kernel_rfl) (by kernel_rfl)) ?_
  intro W base args ds gs before hval0 hW hcnd _
  have hval : ∀ (j : Nat) t v, Try.f5.params[j]? = some t → args[j]? = some v → Value.okWide Try.prog W .any base t v := hval0
  have hW' := hW
  obtain ⟨p, q, hA0, hV, rfl, hfz, hnd⟩ := hW
  have hA : DataW.TrodAll enc Try.prog W 0 (fun _ => true) true Try.f5.params.toList args.toList ds p := hA0
  rw [Try.params5] at hA hval
  obtain ⟨v0, vs0, d0, ds0, p0, q0, hargs, rfl, rfl, h0, r0⟩ := trodAll_cons hA
  obtain ⟨v1, vs1, d1, ds1, p1, q1, rfl, rfl, rfl, h1, r1⟩ := trodAll_cons r0
  obtain ⟨rfl, rfl, rfl⟩ := trodAll_nil r1
  obtain rfl : args = #[v0, v1] := by cases args; simp_all
  obtain ⟨rfl, rfl⟩ := trodVars_none hV
  obtain ⟨a0, rfl, rfl, rfl, w0⟩ := open_string Try.underlying9 (hval 0 9 v0 rfl rfl) h0
  obtain ⟨a1, len1, cap1, rfl⟩ := okWide_slice Try.underlying43 (hval 1 43 v1 rfl rfl)
  have k1 := h1
  have lt1 : ∀ x ∈ p1, x.block < W.heap.size := by obtain ⟨m, hm⟩ := k1; exact DataW.trod_lt m _ _ _ hm
  obtain ⟨z1, w1⟩ : ∃ zs, IsRow .i64 W a1 len1 cap1 zs := by
    obtain ⟨fuel, hf⟩ := h1
    rcases open_ints Try.underlying43 Try.underlying3 (by kernel_rfl) hf with ⟨hcs, _⟩ | ⟨x, l, c, zs, hcs, _, hl, hm, hz, _, hcell, hwz⟩
    · simp [Value.cells] at hcs
      obtain ⟨rfl, rfl, rfl⟩ := hcs
      exact ⟨[], .inl ⟨rfl, rfl, rfl, rfl⟩⟩
    · simp [Value.cells] at hcs
      obtain ⟨rfl, rfl, rfl⟩ := hcs
      exact ⟨zs, .inr ⟨_, rfl, hl, hm, by simpa using hz, hcell, hwz⟩⟩
  clear hA0 hval0
  refine (walk a0 a1 len1 cap1 z1 W w0 w1).mono fun e W' ⟨he, bel⟩ => ?_
  subst he
  exact ⟨_, rfl, _, _, _, [], _, [], hW', trodAll_mk1 (shut_bool Try.underlying4 _), (trodAll_cons_mk (shut_string Try.underlying9 w0) (trodAll_cons_mk (Below.trod laidOut (by kernel_rfl) (of_decide_eq_true (by kernel_rfl)) k1 bel lt1) trodAll_mk0)), rfl, bel.frame _, fun h => by cases h⟩

theorem over : Rows.cursorAllRow.holds Try.pinned (OpenSpec.ofChange Rows.cursorAllSpec) :=
  OpenClaim.holds_of_wide 5 Try.f5 rfl rfl rfl rfl rfl rfl rfl ⟨rfl, rfl, rfl, rfl, rfl⟩ rfl rfl rfl rfl rfl (by kernel_rfl) Try.func5 (by kernel_rfl)
    (of_decide_eq_true (by kernel_rfl)) (by unfold Func.isWrapper; first | (rw [if_pos (by decide +kernel)]; kernel_rfl) | (rw [if_neg (by decide +kernel)]; exact ⟨rfl, rfl⟩))
    (fun os started H enc _ => lifted os started H enc)

end Go.Proofs.Ytcpbcedpehecdaa.cursorAll

namespace Go.Proofs.Ytcpbcedpehecdaa
theorem cursorAll_holds : Rows.CursorAllSaid := cursorAll.over
#print axioms cursorAll_holds
end Go.Proofs.Ytcpbcedpehecdaa
