/- The contract of ref's Set. -/
import Derived.Test.YtaochgndednamaaDoorFSet2
namespace Go.Proofs.YtaochgndednamaaDoor
open Go.RowKit

set_option maxRecDepth 10000 in
set_option maxHeartbeats 1000000 in
theorem rset_any (N : Nd) (L : List St) (a1 a2 a3 b : Option Addr) (c1 c2 c3 d : Nat) (w : World) (h : NdAt w N a1 a2 a3) (hL : LsAt w b (stV L)) (h1 : N.ints.length ≤ 100) (h2 : N.texts.length ≤ 100) (h3 : N.kids.length ≤ 300) (hs : L.length ≤ 1000) :
    Calls Tryd.prog 14 #[.agg #[.int .i64 N.kind, .slice a1 N.ints.length c1, .slice a2 N.texts.length c2, .slice a3 N.kids.length c3], .slice b L.length d] w fun e w' => NdErr w w' e (setR N L) := by
  have S0 : SI1 w ((w.alloc (.cells #[.int .i64 N.kind, .slice a1 N.ints.length c1, .slice a2 N.texts.length c2, .slice a3 N.kids.length c3] 26)).alloc (.cells #[.int .i64 0, .slice none 0 0, .slice none 0 0, .slice none 0 0] 26)) #[.int .i64 N.kind, .slice a1 N.ints.length c1, .slice a2 N.texts.length c2, .slice a3 N.kids.length c3] :=
    ⟨(AtN.new w 26 _).alloc _, mk_at (AtN.new (w.alloc _) 26 _) (show _ = w.heap.size + 1 by simp), ((Below.refl w.heap.size w).alloc (Nat.le_refl _) _).alloc (by simp) _⟩
  have HS : Hid _ := S0
  have HL : Hid _ := hL
  have HC : Hid _ := fun (W : World) (hb : Below w.heap.size w W) => rcopy_any N a1 a2 a3 c1 c2 c3 W (h.belowB hb) h1 h2 h3
  obtain ⟨R, hR⟩ : ∃ R, setR N L = R := ⟨_, rfl⟩
  have HR : Hid _ := hR
  rw [hR]
  clear S0 h hL hR
  go_enter Tryd.func14, Tryd.ntmps14
  go_wp2_with fail
  refine (HC.out _ HS.out.bel).mono ?_
  rintro e w2 ⟨b1, k1, b2, k2, b3, k3, rfl, hO, hb2⟩
  have S2 : SI2 w (w2.alloc (.cells #[.int .i64 N.kind, .slice b1 N.ints.length k1, .slice b2 N.texts.length k2, .slice b3 N.kids.length k3] 26)) w2.heap.size (putL N (L.take 0)) N.kind (.slice b1 N.ints.length k1) (.slice b2 N.texts.length k2) (.slice b3 N.kids.length k3) := by
    have := HS.out.more hb2
    exact ⟨AtN.new w2 26 _, this.z.alloc _, (hO.mono HS.out.bel.size).alloc _, this.bel.alloc this.bel.size _⟩
  have HS2 : Hid _ := S2
  clear S2 hO hb2 HC HS
  go_wp2_with fail
  go_loopw [7] (fun iv wr => ∃ i : Nat, iv = .int .i64 i ∧ i ≤ L.length ∧ SI2 w wr w2.heap.size (putL N (L.take i)) N.kind (.slice b1 N.ints.length k1) (.slice b2 N.texts.length k2) (.slice b3 N.kids.length k3) ∧ Hid (∀ k (hk : k < L.length), k < i → fits N L[k] = true)) (fun iv _ => L.length - (intOf iv).toNat)
  case atStart => exact ⟨0, rfl, by omega, HS2.out, fun k hk hki => by omega⟩
  case round =>
    clear HS2
    obtain ⟨i, rfl, hi, hS, HI⟩ := hrel
    obtain ⟨-, p2, p3, p4⟩ := putL_len (L.take i) N
    have x1 : wr.cell? ⟨w2.heap.size, 1, none⟩ = some (.slice b1 N.ints.length k1) := hS.c.cell 1
    have x2 : wr.cell? ⟨w2.heap.size, 2, none⟩ = some (.slice b2 N.texts.length k2) := hS.c.cell 2
    have m0 : wr.cell? ⟨w.heap.size + 1, 0, none⟩ = some (.int .i64 0) := hS.z.cell 0
    have m1 : wr.cell? ⟨w.heap.size + 1, 1, none⟩ = some (.slice none 0 0) := hS.z.cell 1
    have m2 : wr.cell? ⟨w.heap.size + 1, 2, none⟩ = some (.slice none 0 0) := hS.z.cell 2
    have m3 : wr.cell? ⟨w.heap.size + 1, 3, none⟩ = some (.slice none 0 0) := hS.z.cell 3
    have f0 := hS.z.fz 0
    have f1 := hS.z.fz 1
    have f2 := hS.z.fz 2
    have f3 := hS.z.fz 3
    have lg := hS.c.lt
    have lz := hS.z.lt
    by_cases hlt : i < L.length
    · have hlt' : (i : Int) < L.length := by omega
      obtain ⟨gb, ob, rfl, lb, y0, y1, y2, y3⟩ := (LsAt.belowB HL.out hS.bel).set4 i hlt
      have HX : Hid (fits N L[i] = false → R = (zeroN, 21)) := fun h => by rw [← HR.out]; exact fits_no N L i hlt h
      have HY : Hid (fits N L[i] = true → ∀ k (hk : k < L.length), k < i + 1 → fits N L[k] = true) := fun h k hk hki => by
        by_cases e : k = i
        · subst e; exact h
        · exact HI.out k hk (by omega)
      have HP : Hid (putL N (L.take (i + 1)) = put1 (putL N (L.take i)) L[i]) := putL_take N L i hlt
      have HB1 : Hid _ := set_below (set_below (set_below (set_below hS.bel ⟨w.heap.size + 1, 0, none⟩ (by simp) (.int .i64 0)) ⟨w.heap.size + 1, 1, none⟩ (by simp) (.slice none 0 0)) ⟨w.heap.size + 1, 2, none⟩ (by simp) (.slice none 0 0)) ⟨w.heap.size + 1, 3, none⟩ (by simp) (.slice none 0 0)
      generalize putL N (L.take i) = M at *
      generalize L[i] = z at *
      obtain ⟨t, f, n, s⟩ := z
      dsimp only at y0 y1 y2 y3
      clear HI
      cases t
      · by_cases hs1 : s = noT
        · subst hs1
          by_cases hf0 : f < 0
          · have hF : fits N ⟨false, f, n, noT⟩ = false := by simp only [fits, Bool.false_eq_true, if_false, decide_eq_false_iff_not]; omega
            clear hS HY HP HL HR
            unfold noT at *
            go_wp2_with fail
            obtain rfl := HX.out hF
            exact bodyPost_ret (v := .tuple #[.agg #[.int .i64 0, .slice none 0 0, .slice none 0 0, .slice none 0 0], .int .i64 21]) (by simp [results, Tryd.results14, go_sem, *]) rfl ⟨_, _, _, _, _, _, rfl, ⟨World.ownsRow_nil _ _ _ _, World.ownsRow_nil _ _ _ _, World.ownsRow_nil _ _ _ _⟩, HB1.out.alloc HB1.out.size _⟩
          · obtain ⟨q, rfl⟩ : ∃ q : Nat, f = (q : Int) := ⟨f.toNat, by omega⟩
            by_cases hq : q < N.ints.length
            · have hq' : (q : Int) < N.ints.length := by omega
              have hF : fits N ⟨false, (q : Int), n, noT⟩ = true := by simp only [fits, Bool.false_eq_true, if_false, decide_eq_true_eq]; exact ⟨by omega, by omega, by first | rfl | trivial⟩
              obtain ⟨g, u, rfl, s1, s2, s3, s4, s5⟩ := hS.own.storeI p3 q hq
              have hg := s4 _ _ _ (by decide) hS.c
              have hz := s4 _ _ _ (by decide) hS.z
              have lg := hS.c.lt
              have lg2 := block_lt_of_cell s1
              have S3 : ∀ z, SI2 w (wr.setCell ⟨g, q, none⟩ (.int .i64 z)) w2.heap.size ⟨M.kind, M.ints.set q z, M.texts, M.kids⟩ N.kind (.slice (some ⟨g, 0, none⟩) N.ints.length k1) (.slice b2 N.texts.length k2) (.slice b3 N.kids.length k3) := fun z => ⟨hS.c.setOther _ hg _, hS.z.setOther _ hz _, s5 z, set_below hS.bel _ s3 _⟩
              unfold noT at y3
              have HS3 : Hid _ := S3
              have HY' : Hid _ := HY.out hF
              clear S3 hS s5 s4 HL HR p2 p3 p4 HX HY hF HB1
              go_wp2_with fail
              go_roundw
              case rel => exact ⟨i + 1, by go_num, by omega, by rw [HP.out]; exact (HS3.out _).alloc _, HY'.out⟩
              case measure => simp [intOf]; omega
            · have hq' : ¬ (q : Int) < N.ints.length := by omega
              have hF : fits N ⟨false, (q : Int), n, noT⟩ = false := by simp only [fits, Bool.false_eq_true, if_false, decide_eq_false_iff_not]; omega
              clear hS HY HP HL HR
              unfold noT at *
              go_wp2_with fail
              obtain rfl := HX.out hF
              exact bodyPost_ret (v := .tuple #[.agg #[.int .i64 0, .slice none 0 0, .slice none 0 0, .slice none 0 0], .int .i64 21]) (by simp [results, Tryd.results14, go_sem, *]) rfl ⟨_, _, _, _, _, _, rfl, ⟨World.ownsRow_nil _ _ _ _, World.ownsRow_nil _ _ _ _, World.ownsRow_nil _ _ _ _⟩, HB1.out.alloc HB1.out.size _⟩
        · have hF : fits N ⟨false, f, n, s⟩ = false := by simp only [fits, Bool.false_eq_true, if_false, decide_eq_false_iff_not]; exact fun h => hs1 h.2.2
          have hs2 : ¬ s = ⟨#[]⟩ := hs1
          have hq : s.toList.isEmpty = false := by
            rw [ByteArray.toList_eq, List.isEmpty_eq_false_iff]
            intro h
            apply hs2
            cases s
            simp at h
            rw [h]
          clear hS HY HP HL HR
          go_wp2_with fail
          obtain rfl := HX.out hF
          exact bodyPost_ret (v := .tuple #[.agg #[.int .i64 0, .slice none 0 0, .slice none 0 0, .slice none 0 0], .int .i64 21]) (by simp [results, Tryd.results14, go_sem, *]) rfl ⟨_, _, _, _, _, _, rfl, ⟨World.ownsRow_nil _ _ _ _, World.ownsRow_nil _ _ _ _, World.ownsRow_nil _ _ _ _⟩, HB1.out.alloc HB1.out.size _⟩
      · by_cases hn : n = 0
        · subst hn
          by_cases hf0 : f < 0
          · have hF : fits N ⟨true, f, 0, s⟩ = false := by simp only [fits, if_true, decide_eq_false_iff_not]; omega
            clear hS HY HP HL HR
            go_wp2_with fail
            obtain rfl := HX.out hF
            exact bodyPost_ret (v := .tuple #[.agg #[.int .i64 0, .slice none 0 0, .slice none 0 0, .slice none 0 0], .int .i64 21]) (by simp [results, Tryd.results14, go_sem, *]) rfl ⟨_, _, _, _, _, _, rfl, ⟨World.ownsRow_nil _ _ _ _, World.ownsRow_nil _ _ _ _, World.ownsRow_nil _ _ _ _⟩, HB1.out.alloc HB1.out.size _⟩
          · obtain ⟨q, rfl⟩ : ∃ q : Nat, f = (q : Int) := ⟨f.toNat, by omega⟩
            by_cases hq : q < N.texts.length
            · have hq' : (q : Int) < N.texts.length := by omega
              have hF : fits N ⟨true, (q : Int), 0, s⟩ = true := by simp only [fits, if_true, decide_eq_true_eq]; exact ⟨by omega, by omega, by first | rfl | trivial⟩
              obtain ⟨g, u, rfl, s1, s2, s3, s4, s5⟩ := hS.own.storeT p4 q hq
              have hg := s4 _ _ _ (by decide) hS.c
              have hz := s4 _ _ _ (by decide) hS.z
              have lg := hS.c.lt
              have lg2 := block_lt_of_cell s1
              have S3 : ∀ z, SI2 w (wr.setCell ⟨g, q, none⟩ (.string z)) w2.heap.size ⟨M.kind, M.ints, M.texts.set q z, M.kids⟩ N.kind (.slice b1 N.ints.length k1) (.slice (some ⟨g, 0, none⟩) N.texts.length k2) (.slice b3 N.kids.length k3) := fun z => ⟨hS.c.setOther _ hg _, hS.z.setOther _ hz _, s5 z, set_below hS.bel _ s3 _⟩
              have HS3 : Hid _ := S3
              have HY' : Hid _ := HY.out hF
              clear S3 hS s5 s4 HL HR p2 p3 p4 HX HY hF HB1
              go_wp2_with fail
              go_roundw
              case rel => exact ⟨i + 1, by go_num, by omega, by rw [HP.out]; exact (HS3.out _).alloc _, HY'.out⟩
              case measure => simp [intOf]; omega
            · have hq' : ¬ (q : Int) < N.texts.length := by omega
              have hF : fits N ⟨true, (q : Int), 0, s⟩ = false := by simp only [fits, if_true, decide_eq_false_iff_not]; omega
              clear hS HY HP HL HR
              go_wp2_with fail
              obtain rfl := HX.out hF
              exact bodyPost_ret (v := .tuple #[.agg #[.int .i64 0, .slice none 0 0, .slice none 0 0, .slice none 0 0], .int .i64 21]) (by simp [results, Tryd.results14, go_sem, *]) rfl ⟨_, _, _, _, _, _, rfl, ⟨World.ownsRow_nil _ _ _ _, World.ownsRow_nil _ _ _ _, World.ownsRow_nil _ _ _ _⟩, HB1.out.alloc HB1.out.size _⟩
        · have hF : fits N ⟨true, f, n, s⟩ = false := by simp only [fits, if_true, decide_eq_false_iff_not]; exact fun h => hn h.2.2
          clear hS HY HP HL HR
          go_wp2_with fail
          obtain rfl := HX.out hF
          exact bodyPost_ret (v := .tuple #[.agg #[.int .i64 0, .slice none 0 0, .slice none 0 0, .slice none 0 0], .int .i64 21]) (by simp [results, Tryd.results14, go_sem, *]) rfl ⟨_, _, _, _, _, _, rfl, ⟨World.ownsRow_nil _ _ _ _, World.ownsRow_nil _ _ _ _, World.ownsRow_nil _ _ _ _⟩, HB1.out.alloc HB1.out.size _⟩
    · have hlt' : ¬ (i : Int) < L.length := by omega
      obtain rfl : i = L.length := by omega
      have HA : Hid (∀ k (hk : k < L.length), fits N L[k] = true) := fun k hk => HI.out k hk hk
      have x0 : wr.cell? ⟨w2.heap.size, 0, none⟩ = some (.int .i64 N.kind) := hS.c.cell 0
      have x3 : wr.cell? ⟨w2.heap.size, 3, none⟩ = some (.slice b3 N.kids.length k3) := hS.c.cell 3
      have B1 : Hid _ := set_below (set_below (set_below (set_below hS.bel ⟨w.heap.size + 1, 0, none⟩ (by simp) (.int .i64 N.kind)) ⟨w.heap.size + 1, 1, none⟩ (by simp) (.slice b1 N.ints.length k1)) ⟨w.heap.size + 1, 2, none⟩ (by simp) (.slice b2 N.texts.length k2)) ⟨w.heap.size + 1, 3, none⟩ (by simp) (.slice b3 N.kids.length k3)
      have hR : R = (putL N L, 0) := by rw [← HR.out]; exact fits_yes N L HA.out
      rw [List.take_length] at p2 p3 p4
      have pk := (putL_len L N).1
      have HO : Hid _ := (((hS.own.setZ (j := 0) hS.z (.int .i64 N.kind)).setZ (j := 1) (hS.z.set 0 _) (.slice b1 N.ints.length k1)).setZ (j := 2) ((hS.z.set 0 _).set 1 _) (.slice b2 N.texts.length k2)).setZ (j := 3) (((hS.z.set 0 _).set 1 _).set 2 _) (.slice b3 N.kids.length k3)
      rw [List.take_length] at HO
      clear hS HA HL HR HI
      go_wp2_with fail
      subst hR
      have HO' := HO.out
      have HB' := B1.out
      refine bodyPost_ret (v := .tuple #[.agg #[.int .i64 N.kind, .slice b1 N.ints.length k1, .slice b2 N.texts.length k2, .slice b3 N.kids.length k3], .int .i64 0]) (by simp [results, Tryd.results14, go_sem, *]) rfl ⟨b1, k1, b2, k2, b3, k3, ?_, ?_, HB'⟩
      · dsimp only
        rw [pk, p3, p4, p2]
      · dsimp only
        rw [p3, p4, p2]
        exact HO'

end Go.Proofs.YtaochgndednamaaDoor
