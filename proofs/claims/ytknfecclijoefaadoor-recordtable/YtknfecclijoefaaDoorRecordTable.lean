/- For every list of nodes and every place: the records that the program's Put puts into one table, one behind the other, are got from it by its Get so (more than the law plays with is let go by the law itself); what came in reads afterwards as before. The package schema's tables hold what the program's text lays into them when the call begins (the card ties that). -/
import Derived.Test.YtknfecclijoefaaDoorRows
import Derived.Test.YtknfecclijoefaaDoorCards
import Derived.Test.YtknfecclijoefaaDoorTie
import Derived.WalkKit
import Derived.ProofKit
import Derived.OpenShut
import Derived.ShutString
import Derived.Below
import Derived.Test.YtknfecclijoefaaDoorRTb
import Derived.ChangeOld
import Derived.LaidMore
import Derived.SevenTiedAt
namespace Go.Proofs.YtknfecclijoefaaDoor.recordTable
open Go.ChangeShapes Go.WideShapes Go.ChangeAt Go.RowKit
open Go.ChangeMaps (open_string shut_string)
set_option linter.unusedVariables false

theorem own : ownKnob Tryd.prog.godebug = none := by kernel_rfl
theorem laidOut : laidOutB Tryd.prog = true := by kernel_rfl

theorem grt_nil : grt6 [] = false := by decide
theorem few_ways {n : Nat} {y : Int} (h : ¬ (n ≤ 30 ∧ 0 ≤ y ∧ y ≤ 1048576)) : (30 : Int) < n ∨ (¬ (30 : Int) < n ∧ y < 0) ∨ (¬ (30 : Int) < n ∧ ¬ y < 0 ∧ (1048576 : Int) < y) := by omega
theorem map_at (PX : List Nx) (j : Nat) (h : j < PX.length) : (PX.map Nx.nd).getD j ⟨0, [], [], []⟩ = (PX.getD j noNx).nd := by simp [h]

set_option maxRecDepth 10000 in
set_option maxHeartbeats 8000000 in
theorem walk (X0 : List Nx) (a0 : Option Addr) (c0 : Nat) (a1 : Int) (w : World) (w0 : IsNds w a0 X0) (w1 : (Lit.int .i64 a1).wf = true) (hT : Tabs12 w) :
    Calls Tryd.prog 7 #[.slice a0 X0.length c0, .int .i64 a1] w fun e w' => e = .returned (.bool true) ∧ Below w.heap.size w w' := by
  obtain ⟨i0, hi0, hz0, hz1, hz2⟩ := info_parts (show (Tryd.prog.info? 26).map (fun i => (i.zero, i.size, i.bytes)) = some (some (.agg #[.int .i64 0, .slice none 0 0, .slice none 0 0, .slice none 0 0]), 4, 80) by kernel_rfl)
  have hp := wf64 w1
  have HA : Hid (∀ W, Below w.heap.size w W → Calls Tryd.prog 10 #[] W fun e w' => e = .returned (.bool true) ∧ Below W.heap.size W w') := fun W hb => awake_any W (hT.on hb)
  have HX : Hid (IsNds w a0 X0) := w0
  have HT : Hid (Tabs12 w) := hT
  have HTab : Hid (Calls Tryd.prog 9 #[.slice none 0 0] w fun e w' => TabOut w w' e []) := by
    have h := table_any none 0 0 0 [] w (by simp) (fun i hi => by simp at hi) (by simp)
    rw [grt_nil] at h
    simp only [Bool.false_eq_true, if_false] at h
    exact h
  clear w0 w1 hT
  go_enter Tryd.func7, Tryd.ntmps7
  go_wp2_with fail
  refine Calls.mono HTab.out ?_
  rintro e w1 ⟨g, gm, v, y, cap, b1, o1, rfl, hTb, hTx, hbl, hb1⟩
  have HP1 : Hid (Pt w w1 g gm v [] (.slice none 0 0) []) := ⟨hTb, ⟨rfl, .inl ⟨rfl, rfl⟩⟩, hb1⟩
  clear HTab hTb hTx hbl hb1
  go_wp2_with fail
  refine Calls.mono (HA.out _ HP1.out.bel) ?_
  rintro e w2 ⟨rfl, hb2⟩
  have HP2 : Hid _ := HP1.out.more hb2
  clear HP1 hb2
  by_cases hall : X0.length ≤ 30 ∧ 0 ≤ a1 ∧ a1 ≤ 1048576
  · obtain ⟨hn, hq0, hq1⟩ := hall
    have hi1 : ¬ (30 : Int) < X0.length := by omega
    have hi2 : ¬ a1 < 0 := by omega
    have hi3 : ¬ (1048576 : Int) < a1 := by omega
    clear HA
    go_wp2_with fail
    go_loopw [8, 9, 45] (fun allv putv iv wr => ∃ (i : Nat) (V : ByteArray) (M : List ByteArray) (vt : Value) (PX : List Nx) (ap : Option Addr) (cp : Nat), iv = .int .i64 i ∧ allv = .string V ∧ .slice ap PX.length cp = putv ∧ i ≤ X0.length ∧ V.size ≤ 5020 * i ∧ PX.length ≤ i ∧ M.length ≤ 100 * i ∧ sum6 M ≤ 50000 * i ∧ Hid (V.data.toList = rAll a1 (PX.map Nx.nd) []) ∧ Hid (M = rTab (PX.map Nx.nd) []) ∧ Hid (∀ x ∈ PX, Gd w a1 x) ∧ Hid (Pt w wr g gm vt M (.slice ap PX.length cp) PX)) (fun _ _ iv _ => X0.length - (intOf iv).toNat)
    case atStart => exact ⟨0, ⟨#[]⟩, [], v, [], none, 0, rfl, rfl, rfl, by omega, (by show (0 : Nat) ≤ _; omega), by simp, by simp, by simp [sum6], rfl, rfl, (fun x hx => by simp at hx), HP2⟩
    case round =>
      clear HP2
      obtain ⟨i, V, M, vt, PX, ap, cp, rfl, rfl, rfl, hi, hV, hPl, hMl, hMs, HV, HM, HG, HP⟩ := hrel
      by_cases hlt : i < X0.length
      · have hlt' : (i : Int) < X0.length := by omega
        obtain ⟨bb, ob, rfl, hbb, z0, z1, z2, z3⟩ := (HX.out.sc.belowB HP.out.bel).node hlt
        have HE : Hid (NdAt w (X0.getD i noNx).nd (X0.getD i noNx).a1 (X0.getD i noNx).a2 (X0.getD i noNx).a3) := HX.out.sc.each i hlt
        have HF : Hid (fine (X0.getD i noNx).nd.ints) := fine_of (HX.out.rg i hlt).1
        generalize X0.getD i noNx = x at *
        obtain ⟨N, u1, e1, u2, e2, u3, e3⟩ := x
        dsimp only at z0 z1 z2 z3 HE HF
        have hbl : Below wr.heap.size wr (wr.alloc (.cells #[.int .i64 N.kind, .slice u1 N.ints.length e1, .slice u2 N.texts.length e2, .slice u3 N.kids.length e3] 26)) := (Below.refl _ _).alloc (Nat.le_refl _) _
        have HP3 : Hid _ := HP.out.more hbl
        have HN3 : Hid (AtN 26 (wr.alloc (.cells #[.int .i64 N.kind, .slice u1 N.ints.length e1, .slice u2 N.texts.length e2, .slice u3 N.kids.length e3] 26)) wr.heap.size #[.int .i64 N.kind, .slice u1 N.ints.length e1, .slice u2 N.texts.length e2, .slice u3 N.kids.length e3]) := AtN.new wr 26 _
        clear HP hbl
        go_wp2_with fail
        generalize wr.alloc (.cells #[.int .i64 N.kind, .slice u1 N.ints.length e1, .slice u2 N.texts.length e2, .slice u3 N.kids.length e3] 26) = W3 at *
        generalize wr.heap.size = nb at *
        refine Calls.mono (great_any N u1 u2 u3 e1 e2 e3 W3 (HE.out.t.belowB HP3.out.bel)) ?_
        rintro e w4 ⟨rfl, hb4⟩
        have HP4 : Hid _ := HP3.out.more hb4
        have HN4 : Hid (AtN 26 w4 nb #[.int .i64 N.kind, .slice u1 N.ints.length e1, .slice u2 N.texts.length e2, .slice u3 N.kids.length e3]) := AtN.belowAll HN3.out hb4
        clear HP3 HN3 hb4 z0 z1 z2 z3
        cases hgr : great N with
        | true =>
          go_wp2_with fail
          go_ret
          exact ⟨rfl, HP4.out.bel⟩
        | false =>
          obtain ⟨n1, n2, n3, n4⟩ := great_no hgr
          have HS : Hid (∀ s ∈ N.texts, s.size ≤ 500) := n4
          have HGr : Hid (great N = false) := hgr
          have y0 : w4.cell? ⟨nb, 0, none⟩ = some (.int .i64 N.kind) := HN4.out.cell 0
          have y1 : w4.cell? ⟨nb, 1, none⟩ = some (.slice u1 N.ints.length e1) := HN4.out.cell 1
          have y2 : w4.cell? ⟨nb, 2, none⟩ = some (.slice u2 N.texts.length e2) := HN4.out.cell 2
          have y3 : w4.cell? ⟨nb, 3, none⟩ = some (.slice u3 N.kids.length e3) := HN4.out.cell 3
          clear hgr n4
          go_wp2_with fail
          refine Calls.mono (rcopy_any N u1 u2 u3 e1 e2 e3 w4 (HE.out.belowB HP4.out.bel) n1 n2 n3) ?_
          rintro e w5 ⟨t1, i1, t2, i2, t3, i3, rfl, hO, hb5⟩
          have HP5 : Hid _ := HP4.out.more hb5
          have HN5 : Hid (AtN 26 w5 nb #[.int .i64 N.kind, .slice u1 N.ints.length e1, .slice u2 N.texts.length e2, .slice u3 N.kids.length e3]) := AtN.belowAll HN4.out hb5
          have HO : Hid (∀ W, Fr (TbS g gm vt) w5 W → NdAt W N t1 t2 t3) := fun W k => hO.frAt k (fun i hi => HP4.out.tb.lt i hi)
          clear HP4 HN4 hO hb5 y0 y1 y2 y3
          go_wp2_with fail
          refine Calls.mono (pput_any N t1 t2 t3 i1 i2 i3 a1 w5 HP5.out.tb (by omega) (by omega) (HT.out.on HP5.out.bel) HO.out HF.out n1 n2 (by omega) HS.out hp.2) ?_
          rintro e w6 ⟨S, M2, k, rfl, hP, hI⟩
          obtain ⟨vt2, hp6, hf6⟩ := HP5.out.put hI
          have HP6 : Hid _ := hp6
          have HN6 : Hid (AtN 26 w6 nb #[.int .i64 N.kind, .slice u1 N.ints.length e1, .slice u2 N.texts.length e2, .slice u3 N.kids.length e3]) := AtN.fr HN5.out hf6 (Tb.noNode HP5.out.tb HN5.out)
          have HPI : Hid _ := hP
          clear HP5 HN5 HO hP hI hp6 hf6
          by_cases hk : k = 0
          · subst hk
            obtain ⟨hS1, hM2⟩ := HPI.out.2.2 rfl
            have hSz : S.size ≤ 5020 := by
              have h1 := (rB_len N a1 M).2
              rw [← hS1, list_sz] at h1
              omega
            have hE : Hid (rE N a1 = 0) := HPI.out.1.symm
            have A1 := fun (W : World) => run_string_add_sum (P := Tryd.prog) W V S (by omega)
            have HV2 : Hid ((V ++ S).data.toList = rAll a1 ((PX ++ [(⟨N, u1, e1, u2, e2, u3, e3⟩ : Nx)]).map Nx.nd) []) := by
              show _ = _
              rw [List.map_append, List.map_cons, List.map_nil, rAll_snoc, ByteArray.data_append, Array.toList_append, HV.out, hS1, ← HM.out]
            have HM2 : Hid (M2 = rTab ((PX ++ [(⟨N, u1, e1, u2, e2, u3, e3⟩ : Nx)]).map Nx.nd) []) := by
              show _ = _
              rw [List.map_append, List.map_cons, List.map_nil, rTab_snoc, hM2, ← HM.out]
            have hMl2 : M2.length ≤ 100 * (i + 1) := by have := itF_len N.texts M; rw [← hM2] at this; omega
            have hMs2 : sum6 M2 ≤ 50000 * (i + 1) := by
              have : sum6 (itF M N.texts) ≤ sum6 M + 500 * N.texts.length := itF_sum N.texts M (fun s hs => HS.out s hs)
              rw [← hM2] at this
              omega
            have HG2 : Hid (∀ x ∈ PX ++ [(⟨N, u1, e1, u2, e2, u3, e3⟩ : Nx)], Gd w a1 x) := fun x hx => by
              rcases List.mem_append.1 hx with q | q
              · exact HG.out x q
              · simp at q
                subst q
                exact ⟨HE.out, HGr.out, hE.out, HF.out⟩
            have hVs : (V ++ S).size ≤ 5020 * (i + 1) := by rw [ByteArray.size_append]; omega
            have y0 : w6.cell? ⟨nb, 0, none⟩ = some (.int .i64 N.kind) := HN6.out.cell 0
            have y1 : w6.cell? ⟨nb, 1, none⟩ = some (.slice u1 N.ints.length e1) := HN6.out.cell 1
            have y2 : w6.cell? ⟨nb, 2, none⟩ = some (.slice u2 N.texts.length e2) := HN6.out.cell 2
            have y3 : w6.cell? ⟨nb, 3, none⟩ = some (.slice u3 N.kids.length e3) := HN6.out.cell 3
            have hsz6 := HP6.out.bel.size
            clear HPI HV HM HG hS1 hM2 HE HF HS HGr
            go_wp2_with (at_builtin; refine wpList_append_lies _ rfl (.tmp 64) (.tmp 66) 55 rfl w.heap.size 26 i0 (.agg #[.int .i64 0, .slice none 0 0, .slice none 0 0, .slice none 0 0]) 4 80 Tryd.underlying55 hi0 hz0 hz1 hz2 rfl (by decide) (.slice ap PX.length cp) PX.length (nxV PX) rfl (World.ownsRow.alloc (w := w6) HP6.out.row _) ⟨w6.heap.size, 0, none⟩ 1 1 [.int .i64 N.kind, .slice u1 N.ints.length e1, .slice u2 N.texts.length e2, .slice u3 N.kids.length e3] rfl rfl (World.news_of_block (heap_alloc_new w6 _)) (by intro z hz; simp at hz; rcases hz with rfl | rfl | rfl | rfl <;> rfl) (by decide) (by unfold maxLen; omega) (by omega) (by simp; omega) _ rfl ?_)
            intro gr2 capr w7 hown7 hgrow7 _ _
            have hbl : Below w6.heap.size w6 (w6.alloc (.cells #[.int .i64 N.kind, .slice u1 N.ints.length e1, .slice u2 N.texts.length e2, .slice u3 N.kids.length e3] 26)) := (Below.refl _ _).alloc (Nat.le_refl _) _
            have HP7 : Hid (Pt w w7 g gm vt2 M2 (.slice (some ⟨gr2, 0, none⟩) (PX ++ [(⟨N, u1, e1, u2, e2, u3, e3⟩ : Nx)]).length capr) (PX ++ [(⟨N, u1, e1, u2, e2, u3, e3⟩ : Nx)])) :=
              (HP6.out.more hbl).app hgrow7 (by rw [nxV_snoc, List.length_append]; exact hown7)
            clear HP6 HN6 hown7 hgrow7 hbl y0 y1 y2 y3
            go_wp2_with fail
            go_roundw
            case rel => exact ⟨i + 1, V ++ S, M2, vt2, PX ++ [(⟨N, u1, e1, u2, e2, u3, e3⟩ : Nx)], some ⟨gr2, 0, none⟩, capr, by go_num, rfl, by simp, by omega, hVs, by simp; omega, hMl2, hMs2, HV2, HM2, HG2, HP7⟩
            case measure => simp [intOf]; omega
          · obtain ⟨rfl, rfl⟩ := HPI.out.2.1 hk
            have hk' : (k == 0) = false := by simpa using hk
            clear HPI HN6
            go_wp2_with fail
            go_roundw
            case rel => exact ⟨i + 1, V, M2, vt2, PX, ap, cp, by go_num, rfl, rfl, by omega, by omega, by omega, by omega, by omega, HV, HM, HG, HP6⟩
            case measure => simp [intOf]; omega
      · have hlt' : ¬ (i : Int) < X0.length := by omega
        have hVs : V.size ≤ 150600 := by omega
        have hMl2 : M.length ≤ 16777216 := by omega
        have hPl2 : PX.length ≤ 30 := by omega
        clear hV hPl hMl hMs HX
        go_wp2_with fail
        refine Calls.mono (cnew_any V wr) ?_
        rintro e w3 ⟨rfl, hw3⟩
        have HP3 : Hid _ := HP.out.more (show Below wr.heap.size wr w3 by rw [hw3]; exact (Below.refl _ _).alloc (Nat.le_refl _) _)
        have HC3 : Hid (Cu w3 wr.heap.size V 0 0) := by rw [hw3]; exact At3.new wr _ _ _ _
        have HNt : Hid (¬ TbS g gm vt wr.heap.size) := fun q => by have := HP.out.tb.lt _ q; omega
        have HNr : Hid ((Value.slice ap PX.length cp).ownBlock ≠ some wr.heap.size) := fun q => by have := (HP.out.row.lt _ q).2; omega
        have hgc : w.heap.size ≤ wr.heap.size := HP.out.bel.size
        clear HP hw3
        generalize wr.heap.size = gc at *
        go_wp2_with fail
        go_loopw [75] (fun iv wr => ∃ (j kk : Nat), iv = .int .i64 j ∧ j ≤ PX.length ∧ kk ≤ V.size ∧ Hid (V.data.toList.drop kk = rAll a1 ((PX.map Nx.nd).drop j) (rTab ((PX.map Nx.nd).take j) [])) ∧ Hid (M = rTab ((PX.map Nx.nd).drop j) (rTab ((PX.map Nx.nd).take j) [])) ∧ Hid (Cu wr gc V kk 0) ∧ Hid (Pt w wr g gm vt M (.slice ap PX.length cp) PX)) (fun iv _ => PX.length - (intOf iv).toNat)
        case atStart => exact ⟨0, 0, rfl, by omega, by omega, by show _ = _; rw [List.drop_zero, HV.out]; rfl, by show _ = _; rw [HM.out]; rfl, HC3, HP3⟩
        case round =>
          clear HP3 HC3 HV HM
          obtain ⟨j, kk, rfl, hj, hkk, HV, HM, HC, HP⟩ := hrel
          by_cases hlj : j < PX.length
          · have hlj' : (j : Int) < PX.length := by omega
            have hmem : PX.getD j noNx ∈ PX := by
              rw [List.getD_eq_getElem?_getD, List.getElem?_eq_getElem hlj]
              exact List.getElem_mem hlj
            have hgd := HG.out _ hmem
            have hsmall := great_no hgd.gr
            obtain ⟨k', hG1, hV1, hM1⟩ := put_next (b := V) (by simpa using hlj) HV.out HM.out hMl2 (by omega) (by rw [map_at PX j hlj]; exact hgd.ok) (by rw [map_at PX j hlj]; exact hgd.fi) (by rw [map_at PX j hlj]; exact hsmall.2.2.1)
            rw [map_at PX j hlj] at hG1
            obtain ⟨bb, ob, hap, hbb, z0, z1, z2, z3⟩ := (ScAt.of_put HP.out HG.out).node hlj
            subst hap
            have HGd : Hid (Gd w a1 (PX.getD j noNx)) := hgd
            have HG1 : Hid _ := hG1
            have HV1 : Hid _ := hV1
            have HM1 : Hid _ := hM1
            have hk2 : k' ≤ V.size := by have := gNd_at V a1 M 1000 kk 0 hkk; rw [hG1] at this; exact this
            clear hgd hG1 hV1 hM1 HV HM hmem
            generalize PX.getD j noNx = x at *
            obtain ⟨N, u1, e1, u2, e2, u3, e3⟩ := x
            dsimp only at z0 z1 z2 z3 hsmall HG1
            obtain ⟨n1, n2, n3, -⟩ := hsmall
            have hbl : Below wr.heap.size wr (wr.alloc (.cells #[.int .i64 N.kind, .slice u1 N.ints.length e1, .slice u2 N.texts.length e2, .slice u3 N.kids.length e3] 26)) := (Below.refl _ _).alloc (Nat.le_refl _) _
            have HP4 : Hid _ := HP.out.more hbl
            have HC4 : Hid (Cu (wr.alloc (.cells #[.int .i64 N.kind, .slice u1 N.ints.length e1, .slice u2 N.texts.length e2, .slice u3 N.kids.length e3] 26)) gc V kk 0) := At3.belowAll HC.out hbl
            have HN4 : Hid (AtN 26 (wr.alloc (.cells #[.int .i64 N.kind, .slice u1 N.ints.length e1, .slice u2 N.texts.length e2, .slice u3 N.kids.length e3] 26)) wr.heap.size #[.int .i64 N.kind, .slice u1 N.ints.length e1, .slice u2 N.texts.length e2, .slice u3 N.kids.length e3]) := AtN.new wr 26 _
            have hgcl : gc < wr.heap.size := HC.out.lt
            clear HP HC hbl
            go_wp2_with fail
            generalize wr.alloc (.cells #[.int .i64 N.kind, .slice u1 N.ints.length e1, .slice u2 N.texts.length e2, .slice u3 N.kids.length e3] 26) = W4 at *
            generalize wr.heap.size = nb at *
            have hGt := pget_any V gc a1 1000 kk 0 W4 HC4.out (by omega) hkk (fun W hW => ⟨(HP4.out.cur hW hgc HNt.out HNr.out).tb, HT.out.on (HP4.out.cur hW hgc HNt.out HNr.out).bel⟩) (by decide)
            rw [HG1.out] at hGt
            refine Calls.mono hGt ?_
            rintro e w5 ⟨t1, i1, t2, i2, t3, i3, rfl, hO, hcu, hgr⟩
            dsimp only at hO hcu ⊢
            have hp5 := HP4.out.cur hgr hgc HNt.out HNr.out
            have hn5 : AtN 26 w5 nb #[.int .i64 N.kind, .slice u1 N.ints.length e1, .slice u2 N.texts.length e2, .slice u3 N.kids.length e3] := AtN.kept HN4.out hgr (by simp; omega)
            have hbl : Below w5.heap.size w5 (w5.alloc (.cells #[.int .i64 N.kind, .slice t1 N.ints.length i1, .slice t2 N.texts.length i2, .slice t3 N.kids.length i3] 26)) := (Below.refl _ _).alloc (Nat.le_refl _) _
            have HP5 : Hid _ := hp5.more hbl
            have HC5 : Hid (Cu (w5.alloc (.cells #[.int .i64 N.kind, .slice t1 N.ints.length i1, .slice t2 N.texts.length i2, .slice t3 N.kids.length i3] 26)) gc V k' 0) := At3.belowAll hcu hbl
            have HN5 : Hid (NdAt (w5.alloc (.cells #[.int .i64 N.kind, .slice t1 N.ints.length i1, .slice t2 N.texts.length i2, .slice t3 N.kids.length i3] 26)) N t1 t2 t3) := hO.ndAt.alloc _
            have hlt5 : nb < w5.heap.size := hn5.lt
            have y0 : w5.cell? ⟨nb, 0, none⟩ = some (.int .i64 N.kind) := hn5.cell 0
            have y1 : w5.cell? ⟨nb, 1, none⟩ = some (.slice u1 N.ints.length e1) := hn5.cell 1
            have y2 : w5.cell? ⟨nb, 2, none⟩ = some (.slice u2 N.texts.length e2) := hn5.cell 2
            have y3 : w5.cell? ⟨nb, 3, none⟩ = some (.slice u3 N.kids.length e3) := hn5.cell 3
            clear hGt hp5 hn5 hbl hO hcu hgr HP4 HC4 HN4 HG1 z0 z1 z2 z3
            go_wp2_with fail
            refine Calls.mono (same8_any N N t1 t2 t3 u1 u2 u3 i1 i2 i3 e1 e2 e3 _ HN5.out (HGd.out.at_.belowB HP5.out.bel) n1 n2 n3) ?_
            rintro e w6 ⟨rfl, hb6⟩
            rw [(sameB_iff N N).2 rfl]
            have HP6 : Hid _ := HP5.out.more hb6
            have HC6 : Hid (Cu w6 gc V k' 0) := At3.belowAll HC5.out hb6
            clear HP5 HC5 HN5 hb6 y0 y1 y2 y3
            go_wp2_with fail
            go_roundw
            case rel => exact ⟨j + 1, k', by go_num, by omega, hk2, HV1, HM1, HC6, HP6⟩
            case measure => simp [intOf]; omega
          · have hlj' : ¬ (j : Int) < PX.length := by omega
            have hz : V.size - kk = 0 := by
              have h1 := HV.out
              rw [List.drop_of_length_le (show (PX.map Nx.nd).length ≤ j by simp; omega)] at h1
              have h2 := congrArg List.length h1
              rw [List.length_drop, list_sz] at h2
              exact h2
            have hz2 : (V.size : Int) - kk = 0 := by omega
            have HL := left_bel wr gc V kk 0 HC.out (by unfold maxLen; omega) (by omega) (by omega)
            rw [hz2] at HL
            have HL2 : Hid _ := HL
            clear HL hz hz2 HV HM
            go_wp2_with fail
            refine Calls.mono HL2.out ?_
            rintro e w4 ⟨rfl, hb4⟩
            have HP4 : Hid _ := HP.out.more hb4
            have HC4 : Hid (Cu w4 gc V kk 0) := At3.belowAll HC.out hb4
            clear HL2 HP HC hb4
            go_wp2_with fail
            refine Calls.mono (err_any w4 gc V kk 0 HC4.out) ?_
            rintro e w5 ⟨rfl, hb5⟩
            have HB : Hid (Below w.heap.size w w5) := (HP4.out.more hb5).bel
            clear HP4 HC4 hb5
            go_wp2_with fail
            go_ret
            exact ⟨rfl, HB.out⟩
  · have hfin : ∀ W, Below w.heap.size w W → Calls Tryd.prog 10 #[] W fun e w' => e = .returned (.bool true) ∧ Below w.heap.size w w' := fun W hb => (HA.out W hb).mono fun e w' ⟨h1, h2⟩ => ⟨h1, hb.trans (h2.mono hb.size)⟩
    have HF : Hid _ := hfin w2 HP2.out.bel
    clear HP2 HA hfin HX
    rcases few_ways hall with h1 | ⟨h1, h2⟩ | ⟨h1, h2, h3⟩
    all_goals
      clear hall
      go_wp2_with fail
      refine Calls.mono HF.out ?_
      rintro e w4 ⟨rfl, hb4⟩
      have HB : Hid _ := hb4
      clear HF hb4
      go_wp2_with fail
      go_ret
      exact ⟨rfl, HB.out⟩

set_option maxRecDepth 100000 in
theorem lifted (os : Os) (started : os.Started) (H : Type) (enc : TypeId × Value → H) :
    ReturnsInHanded {} Tryd.checked os 7 .any (fun w args => (Rows.recordTableSpec.pre enc Tryd.prog Tryd.f7 [] false w args ∧ laidMetH Tryd.prog laid2 w) ∧ sizedMet enc Tryd.prog Tryd.f7 (OpenSpec.ofChange Rows.recordTableSpec) false w args)
      (Rows.recordTableSpec.post enc Tryd.prog Tryd.f7 false true false false) := by
  refine returnsInHanded_of_change_and (C := Tryd.checked) (X := fun w _ => laidMetH Tryd.prog laid2 w) (fun _ _ _ hh h => h.of_heap hh) own started (by kernel_rfl) Tryd.func7
    (ChangeSpec.witness_shaped (enc := enc) (C := Tryd.checked) (os := os) (X := fun w _ => laidMetH Tryd.prog laid2 w) false (World.doorLaid Tryd.prog 400 os) #[.slice none 0 0, .int .i64 0] 8 rfl (World.shaped_of_RefB (by kernel_rfl) (by kernel_rfl)) (by kernel_rfl) (by kernel_rfl) (by kernel_rfl) (door_met os _)) ?_
  intro W base args ds gs before hval0 hW _ _ hL _
  have hval : ∀ (j : Nat) t v, Tryd.f7.params[j]? = some t → args[j]? = some v → Value.okWide Tryd.prog W .any base t v := hval0
  have hW' := hW
  obtain ⟨p, q, hA0, hV, rfl, hfz, hnd⟩ := hW
  have hA : DataW.TrodAll enc Tryd.prog W 0 (fun _ => true) true Tryd.f7.params.toList args.toList ds p := hA0
  rw [Tryd.params7] at hA hval
  obtain ⟨v0, vs0, d0, ds0, p0, q0, hargs, rfl, rfl, h0, r0⟩ := trodAll_cons hA
  obtain ⟨v1, vs1, d1, ds1, p1, q1, rfl, rfl, rfl, h1, r1⟩ := trodAll_cons r0
  obtain ⟨rfl, rfl, rfl⟩ := trodAll_nil r1
  obtain rfl : args = #[v0, v1] := by cases args; simp_all
  obtain ⟨rfl, rfl⟩ := trodVars_none hV
  obtain ⟨a0, len0, c0, rfl⟩ := okWide_slice Tryd.underlying55 (hval 0 55 v0 rfl rfl)
  have K0 := h0
  have lt0 : ∀ x ∈ p0, x.block < W.heap.size := by obtain ⟨m, hm⟩ := K0; exact DataW.trod_lt m _ _ _ hm
  obtain ⟨fu0, hf0⟩ := h0
  obtain ⟨X0, a'0, c'0, he0, w0⟩ := open_nodes Tryd.underlying55 Tryd.underlying26 (by kernel_rfl) rfl rfl rfl rfl (by kernel_rfl) (by kernel_rfl) (by kernel_rfl) (by kernel_rfl) Tryd.underlying3 Tryd.underlying22 Tryd.underlying23 Tryd.underlying24 Tryd.underlying2 Tryd.underlying9 Tryd.underlying3 (by kernel_rfl) (by kernel_rfl) (by kernel_rfl) hf0
  obtain ⟨rfl, rfl, rfl⟩ : a0 = a'0 ∧ len0 = X0.length ∧ c0 = c'0 := by injection he0 with x y z; exact ⟨x, y, z⟩
  obtain ⟨a1, rfl, rfl, rfl, w1⟩ := open_int Tryd.underlying3 (hval 1 3 v1 rfl rfl) h1
  clear hA0 hval0
  refine (walk X0 a0 c0 a1 W w0 w1 (tabs_of hL)).mono fun e W' ⟨he, bel⟩ => ?_
  subst he
  exact ⟨_, rfl, _, _, _, [], _, [], hW', trodAll_mk1 (shut_bool Tryd.underlying4 _), (trodAll_cons_mk (Below.trod laidOut (by kernel_rfl) (of_decide_eq_true (by kernel_rfl)) K0 bel lt0) (trodAll_cons_mk (shut_int Tryd.underlying3 w1) trodAll_mk0)), rfl, bel.frame _, fun h => by cases h⟩

theorem row : Rows.recordTableRow.holds Tryd.pinned (OpenSpec.ofChange Rows.recordTableSpec) :=
  OpenClaim.holds_of_wide 7 Tryd.f7 rfl rfl rfl rfl rfl rfl rfl ⟨rfl, rfl, rfl, rfl, rfl⟩ rfl rfl rfl rfl rfl (by kernel_rfl) Tryd.func7 (by kernel_rfl)
    (of_decide_eq_true (by kernel_rfl)) (by unfold Func.isWrapper; first | (rw [if_pos (by decide +kernel)]; kernel_rfl) | (rw [if_neg (by decide +kernel)]; exact ⟨rfl, rfl⟩))
    (fun os started H enc _ => lifted os started H enc)

/-- No parameter wants a stand-in; the program's own looks are as the card says. -/
theorem plain (f : FuncId) (fn : Func) (hf : Tryd.pinned.checked.prog.funcNamed Rows.recordTableRow.func = some f) (hfn : Tryd.pinned.checked.prog.funcs[f]? = some fn) :
    true = Tryd.pinned.checked.prog.looks [] ∧ ∀ (j : Nat) t, fn.params[j]? = some t → Tryd.pinned.checked.prog.wantsStandIn t = false := by
  obtain rfl : f = 7 := Option.some.inj ((show Tryd.prog.funcNamed Rows.recordTableRow.func = some 7 by kernel_rfl).symm.trans hf) |>.symm
  obtain rfl : fn = Tryd.f7 := (Option.some.inj (Tryd.func7.symm.trans hfn)).symm
  refine ⟨by kernel_rfl, fun j t ht => ?_⟩
  have hm := Array.mem_of_getElem? ht
  have hall : (Tryd.f7.params.toList.all fun u => !Tryd.prog.wantsStandIn u) = true := by kernel_rfl
  exact (show Tryd.prog.wantsStandIn t = false by simpa using List.all_eq_true.1 hall t (by simpa using hm))

/-- ████ THE CARD ████ -/
theorem over : Rows.RecordTableCardSaid :=
  Claim7.holds_tied_plain_at .later [] _ _ _ _ row (fun _ h => by cases h) (by kernel_rfl) (fun _ h => by cases h) recordTable_row_tie rfl ⟨rfl, rfl⟩ (by kernel_rfl) rfl plain (by kernel_rfl)

end Go.Proofs.YtknfecclijoefaaDoor.recordTable

namespace Go.Proofs.YtknfecclijoefaaDoor
theorem recordTable_holds : Rows.RecordTableCardSaid := recordTable.over
#print axioms recordTable_holds
end Go.Proofs.YtknfecclijoefaaDoor
