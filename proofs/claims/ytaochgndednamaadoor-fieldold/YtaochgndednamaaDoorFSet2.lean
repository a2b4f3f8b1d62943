/- The contract of field's Set. -/
import Derived.Test.YtaochgndednamaaDoorFSet
namespace Go.Proofs.YtaochgndednamaaDoor
open Go.RowKit

/-- Ahead of the copy. -/
structure SI1 (w wr : World) (cN : Array Value) : Prop where
  a : AtN 26 wr w.heap.size cN
  z : AtN 26 wr (w.heap.size + 1) #[.int .i64 0, .slice none 0 0, .slice none 0 0, .slice none 0 0]
  bel : Below w.heap.size w wr
theorem SI1.more {w wr w' : World} {cN : Array Value} (h : SI1 w wr cN) (hb : Below wr.heap.size wr w') : SI1 w w' cN := ⟨h.a.belowAll hb, h.z.belowAll hb, h.bel.trans (hb.mono h.bel.size)⟩

/-- Behind it: g the copy's block. -/
structure SI2 (w wr : World) (g : Nat) (N : Nd) (k : Int) (v1 v2 v3 : Value) : Prop where
  c : AtN 26 wr g #[.int .i64 k, v1, v2, v3]
  z : AtN 26 wr (w.heap.size + 1) #[.int .i64 0, .slice none 0 0, .slice none 0 0, .slice none 0 0]
  own : OwnNd wr w.heap.size N v1 v2 v3
  bel : Below w.heap.size w wr
theorem SI2.alloc {w wr : World} {g : Nat} {N : Nd} {k : Int} {v1 v2 v3 : Value} (h : SI2 w wr g N k v1 v2 v3) (o : Obj) : SI2 w (wr.alloc o) g N k v1 v2 v3 := ⟨h.c.alloc o, h.z.alloc o, h.own.alloc o, h.bel.alloc h.bel.size o⟩

/-- The answer's block is no row. -/
theorem OwnNd.setZ {w : World} {B k j : Nat} {N : Nd} {v1 v2 v3 : Value} {cs : Array Value} (h : OwnNd w B N v1 v2 v3) (hz : AtN 26 w k cs) (v : Value) : OwnNd (w.setCell ⟨k, j, none⟩ v) B N v1 v2 v3 := by
  have key : ∀ {e n u xs}, w.ownsRow B e 1 u n xs → e ≠ 26 → (w.setCell ⟨k, j, none⟩ v).ownsRow B e 1 u n xs := fun {e n u xs} ho hne => by
    refine own_set ho _ (fun r hr => ?_) v
    obtain ⟨a, c, rfl⟩ := own_shape8 ho
    rcases ho.2 with ⟨h1, h2⟩ | ⟨g1, _, cur, h1, _, _⟩
    · rw [h1] at hr; simp [Value.ownBlock] at hr
    · simp only [Value.slice.injEq] at h1
      obtain ⟨rfl, -, -⟩ := h1
      simp only [Value.ownBlock, Option.some.injEq] at hr
      subst hr
      exact own_at ho hz hne
  exact ⟨key h.i (by decide), key h.t (by decide), key h.k (by decide)⟩

theorem fits_t {N : Nd} {f n : Int} {s : ByteArray} (h : fits N ⟨true, f, n, s⟩ = true) : ∃ q : Nat, f = (q : Int) ∧ q < N.texts.length ∧ n = 0 := by
  simp only [fits, if_true, decide_eq_true_eq] at h
  exact ⟨f.toNat, by omega, by omega, h.2.2⟩
theorem fits_i {N : Nd} {f n : Int} {s : ByteArray} (h : fits N ⟨false, f, n, s⟩ = true) : ∃ q : Nat, f = (q : Int) ∧ q < N.ints.length ∧ s = noT := by
  simp only [fits, Bool.false_eq_true, if_false, decide_eq_true_eq] at h
  exact ⟨f.toNat, by omega, by omega, h.2.2⟩

set_option maxRecDepth 10000 in
set_option maxHeartbeats 1000000 in
theorem set_any (N : Nd) (L : List St) (a1 a2 a3 b : Option Addr) (c1 c2 c3 d : Nat) (w : World) (h : NdAt w N a1 a2 a3) (hL : LsAt w b (stV L)) (h1 : N.ints.length ≤ 100) (h2 : N.texts.length ≤ 100) (h3 : N.kids.length ≤ 300) (hs : L.length ≤ 1000) :
    Calls Tryd.prog 13 #[.agg #[.int .i64 N.kind, .slice a1 N.ints.length c1, .slice a2 N.texts.length c2, .slice a3 N.kids.length c3], .slice b L.length d] w fun e w' => NdErr w w' e (setR N L) := by
  have S0 : SI1 w ((w.alloc (.cells #[.int .i64 N.kind, .slice a1 N.ints.length c1, .slice a2 N.texts.length c2, .slice a3 N.kids.length c3] 26)).alloc (.cells #[.int .i64 0, .slice none 0 0, .slice none 0 0, .slice none 0 0] 26)) #[.int .i64 N.kind, .slice a1 N.ints.length c1, .slice a2 N.texts.length c2, .slice a3 N.kids.length c3] :=
    ⟨(AtN.new w 26 _).alloc _, mk_at (AtN.new (w.alloc _) 26 _) (show _ = w.heap.size + 1 by simp), ((Below.refl w.heap.size w).alloc (Nat.le_refl _) _).alloc (by simp) _⟩
  have HS : Hid _ := S0
  have HN : Hid _ := h
  have HL : Hid _ := hL
  have HF : Hid _ := fun (t : Bool) (f n : Int) (s : ByteArray) (W : World) => setFits_any N t f n s a1 a2 a3 c1 c2 c3 W
  have HC : Hid _ := fun (W : World) (hb : Below w.heap.size w W) => copy_any N a1 a2 a3 c1 c2 c3 W (h.belowB hb) h1 h2 h3
  obtain ⟨R, hR⟩ : ∃ R, setR N L = R := ⟨_, rfl⟩
  have HR : Hid _ := hR
  rw [hR]
  clear S0 h hL hR
  go_enter Tryd.func13, Tryd.ntmps13
  go_wp2_with fail
  go_loopw [13] (fun iv wr => ∃ i : Nat, iv = .int .i64 i ∧ i ≤ L.length ∧ SI1 w wr #[.int .i64 N.kind, .slice a1 N.ints.length c1, .slice a2 N.texts.length c2, .slice a3 N.kids.length c3] ∧ Hid (∀ k (hk : k < L.length), k < i → fits N L[k] = true)) (fun iv _ => L.length - (intOf iv).toNat)
  case atStart => exact ⟨0, rfl, by omega, HS.out, fun k hk hki => by omega⟩
  case round =>
    clear HS
    obtain ⟨i, rfl, hi, hS, HI⟩ := hrel
    have l1 := hS.a.lt
    have l2 := hS.z.lt
    have n0 : wr.cell? ⟨w.heap.size, 0, none⟩ = some (.int .i64 N.kind) := hS.a.cell 0
    have n1 : wr.cell? ⟨w.heap.size, 1, none⟩ = some (.slice a1 N.ints.length c1) := hS.a.cell 1
    have n2 : wr.cell? ⟨w.heap.size, 2, none⟩ = some (.slice a2 N.texts.length c2) := hS.a.cell 2
    have n3 : wr.cell? ⟨w.heap.size, 3, none⟩ = some (.slice a3 N.kids.length c3) := hS.a.cell 3
    by_cases hlt : i < L.length
    · have hlt' : (i : Int) < L.length := by omega
      obtain ⟨gb, ob, rfl, lb, y0, y1, y2, y3⟩ := (LsAt.belowB HL.out hS.bel).set4 i hlt
      have HX : Hid (fits N L[i] = false → R = (zeroN, 21)) := fun h => by rw [← HR.out]; exact fits_no N L i hlt h
      have HY : Hid (fits N L[i] = true → ∀ k (hk : k < L.length), k < i + 1 → fits N L[k] = true) := fun h k hk hki => by
        by_cases e : k = i
        · subst e; exact h
        · exact HI.out k hk (by omega)
      generalize L[i] = z at *
      obtain ⟨t, f, n, s⟩ := z
      have HZ : Hid _ := fun (W : World) => HF.out t f n s W
      have HS : Hid _ := hS
      clear HI hS HN HL HC HR HF
      dsimp only at y0 y1 y2 y3
      generalize fits N ⟨t, f, n, s⟩ = q at *
      go_wp2_with fail
      refine (Hid.out HZ _).mono ?_
      rintro e w1 ⟨rfl, hb⟩
      have S1 : SI1 w w1 _ := (HS.out.more ((Below.refl wr.heap.size wr).alloc (Nat.le_refl _) _)).more hb
      have m0 : w1.cell? ⟨w.heap.size + 1, 0, none⟩ = some (.int .i64 0) := S1.z.cell 0
      have m1 : w1.cell? ⟨w.heap.size + 1, 1, none⟩ = some (.slice none 0 0) := S1.z.cell 1
      have m2 : w1.cell? ⟨w.heap.size + 1, 2, none⟩ = some (.slice none 0 0) := S1.z.cell 2
      have m3 : w1.cell? ⟨w.heap.size + 1, 3, none⟩ = some (.slice none 0 0) := S1.z.cell 3
      have f0 := S1.z.fz 0
      have f1 := S1.z.fz 1
      have f2 := S1.z.fz 2
      have f3 := S1.z.fz 3
      have HS1 : Hid _ := S1
      clear S1 hb HS HZ
      cases q
      · go_wp2_with fail
        have B1 : Hid _ := set_below (set_below (set_below (set_below HS1.out.bel ⟨w.heap.size + 1, 0, none⟩ (by simp) (.int .i64 0)) ⟨w.heap.size + 1, 1, none⟩ (by simp) (.slice none 0 0)) ⟨w.heap.size + 1, 2, none⟩ (by simp) (.slice none 0 0)) ⟨w.heap.size + 1, 3, none⟩ (by simp) (.slice none 0 0)
        obtain rfl := HX.out (by first | rfl | trivial)
        exact bodyPost_ret (v := .tuple #[.agg #[.int .i64 0, .slice none 0 0, .slice none 0 0, .slice none 0 0], .int .i64 21]) (by simp [results, Tryd.results13, go_sem, *]) rfl ⟨_, _, _, _, _, _, rfl, ⟨World.ownsRow_nil _ _ _ _, World.ownsRow_nil _ _ _ _, World.ownsRow_nil _ _ _ _⟩, B1.out⟩
      · go_wp2_with fail
        go_roundw
        case rel => exact ⟨i + 1, by go_num, by omega, HS1.out, HY.out (by first | rfl | trivial)⟩
        case measure => simp [intOf]; omega
    · have hlt' : ¬ (i : Int) < L.length := by omega
      have HA : Hid (∀ k (hk : k < L.length), fits N L[k] = true) := fun k hk => HI.out k hk (by omega)
      have HS : Hid _ := hS
      clear HI hS HF
      go_wp2_with fail
      refine (HC.out _ HS.out.bel).mono ?_
      rintro e w2 ⟨b1, k1, b2, k2, b3, k3, rfl, hO, hb2⟩
      have S2 : SI2 w (w2.alloc (.cells #[.int .i64 N.kind, .slice b1 N.ints.length k1, .slice b2 N.texts.length k2, .slice b3 N.kids.length k3] 26)) w2.heap.size (putL N (L.take 0)) N.kind (.slice b1 N.ints.length k1) (.slice b2 N.texts.length k2) (.slice b3 N.kids.length k3) := by
        have := HS.out.more hb2
        exact ⟨AtN.new w2 26 _, this.z.alloc _, (hO.mono HS.out.bel.size).alloc _, this.bel.alloc this.bel.size _⟩
      have HS2 : Hid _ := S2
      clear S2 hO hb2 HC HS n0 n1 n2 n3
      go_wp2_with fail
      go_loopw [27] (fun iv wr => ∃ i : Nat, iv = .int .i64 i ∧ i ≤ L.length ∧ SI2 w wr w2.heap.size (putL N (L.take i)) N.kind (.slice b1 N.ints.length k1) (.slice b2 N.texts.length k2) (.slice b3 N.kids.length k3)) (fun iv _ => L.length - (intOf iv).toNat)
      case atStart => exact ⟨0, rfl, by omega, HS2.out⟩
      case round =>
        clear HS2
        obtain ⟨i, rfl, hi, hS⟩ := hrel
        obtain ⟨-, p2, p3, p4⟩ := putL_len (L.take i) N
        have x1 : wr.cell? ⟨w2.heap.size, 1, none⟩ = some (.slice b1 N.ints.length k1) := hS.c.cell 1
        have x2 : wr.cell? ⟨w2.heap.size, 2, none⟩ = some (.slice b2 N.texts.length k2) := hS.c.cell 2
        by_cases hlt : i < L.length
        · have hlt' : (i : Int) < L.length := by omega
          obtain ⟨gb, ob, rfl, lb, y0, y1, y2, y3⟩ := (LsAt.belowB HL.out hS.bel).set4 i hlt
          have hF := HA.out i hlt
          have HP : Hid (putL N (L.take (i + 1)) = put1 (putL N (L.take i)) L[i]) := putL_take N L i hlt
          generalize putL N (L.take i) = M at *
          generalize L[i] = z at *
          obtain ⟨t, f, n, s⟩ := z
          dsimp only at y0 y1 y2 y3
          cases t
          · obtain ⟨q, rfl, hq, rfl⟩ := fits_i hF
            have hq' : (q : Int) < N.ints.length := by omega
            obtain ⟨g, u, rfl, s1, s2, s3, s4, s5⟩ := hS.own.storeI p3 q hq
            have hg := s4 _ _ _ (by decide) hS.c
            have hz := s4 _ _ _ (by decide) hS.z
            have lg := hS.c.lt
            have lg2 := block_lt_of_cell s1
            have S3 : ∀ z, SI2 w (wr.setCell ⟨g, q, none⟩ (.int .i64 z)) w2.heap.size ⟨M.kind, M.ints.set q z, M.texts, M.kids⟩ N.kind (.slice (some ⟨g, 0, none⟩) N.ints.length k1) (.slice b2 N.texts.length k2) (.slice b3 N.kids.length k3) := fun z => ⟨hS.c.setOther _ hg _, hS.z.setOther _ hz _, s5 z, set_below hS.bel _ s3 _⟩
            have HS3 : Hid _ := S3
            clear S3 hS s5 s4 HA HL hF HN HR p2 p3 p4
            go_wp2_with fail
            go_roundw
            case rel => exact ⟨i + 1, by go_num, by omega, by rw [HP.out]; exact (HS3.out _).alloc _⟩
            case measure => simp [intOf]; omega
          · obtain ⟨q, rfl, hq, rfl⟩ := fits_t hF
            have hq' : (q : Int) < N.texts.length := by omega
            obtain ⟨g, u, rfl, s1, s2, s3, s4, s5⟩ := hS.own.storeT p4 q hq
            have hg := s4 _ _ _ (by decide) hS.c
            have hz := s4 _ _ _ (by decide) hS.z
            have lg := hS.c.lt
            have lg2 := block_lt_of_cell s1
            have S3 : ∀ z, SI2 w (wr.setCell ⟨g, q, none⟩ (.string z)) w2.heap.size ⟨M.kind, M.ints, M.texts.set q z, M.kids⟩ N.kind (.slice b1 N.ints.length k1) (.slice (some ⟨g, 0, none⟩) N.texts.length k2) (.slice b3 N.kids.length k3) := fun z => ⟨hS.c.setOther _ hg _, hS.z.setOther _ hz _, s5 z, set_below hS.bel _ s3 _⟩
            have HS3 : Hid _ := S3
            clear S3 hS s5 s4 HA HL hF HN HR p2 p3 p4
            go_wp2_with fail
            go_roundw
            case rel => exact ⟨i + 1, by go_num, by omega, by rw [HP.out]; exact (HS3.out _).alloc _⟩
            case measure => simp [intOf]; omega
        · have hlt' : ¬ (i : Int) < L.length := by omega
          obtain rfl : i = L.length := by omega
          have x0 : wr.cell? ⟨w2.heap.size, 0, none⟩ = some (.int .i64 N.kind) := hS.c.cell 0
          have x3 : wr.cell? ⟨w2.heap.size, 3, none⟩ = some (.slice b3 N.kids.length k3) := hS.c.cell 3
          have m0 : wr.cell? ⟨w.heap.size + 1, 0, none⟩ = some (.int .i64 0) := hS.z.cell 0
          have m1 : wr.cell? ⟨w.heap.size + 1, 1, none⟩ = some (.slice none 0 0) := hS.z.cell 1
          have m2 : wr.cell? ⟨w.heap.size + 1, 2, none⟩ = some (.slice none 0 0) := hS.z.cell 2
          have m3 : wr.cell? ⟨w.heap.size + 1, 3, none⟩ = some (.slice none 0 0) := hS.z.cell 3
          have f0 := hS.z.fz 0
          have f1 := hS.z.fz 1
          have f2 := hS.z.fz 2
          have f3 := hS.z.fz 3
          have B1 : Hid _ := set_below (set_below (set_below (set_below hS.bel ⟨w.heap.size + 1, 0, none⟩ (by simp) (.int .i64 N.kind)) ⟨w.heap.size + 1, 1, none⟩ (by simp) (.slice b1 N.ints.length k1)) ⟨w.heap.size + 1, 2, none⟩ (by simp) (.slice b2 N.texts.length k2)) ⟨w.heap.size + 1, 3, none⟩ (by simp) (.slice b3 N.kids.length k3)
          have hR : R = (putL N L, 0) := by rw [← HR.out]; exact fits_yes N L HA.out
          rw [List.take_length] at p2 p3 p4
          have pk := (putL_len L N).1
          have HO : Hid _ := (((hS.own.setZ (j := 0) hS.z (.int .i64 N.kind)).setZ (j := 1) (hS.z.set 0 _) (.slice b1 N.ints.length k1)).setZ (j := 2) ((hS.z.set 0 _).set 1 _) (.slice b2 N.texts.length k2)).setZ (j := 3) (((hS.z.set 0 _).set 1 _).set 2 _) (.slice b3 N.kids.length k3)
          rw [List.take_length] at HO
          clear hS HA HL HN HR
          go_wp2_with fail
          subst hR
          have HO' := HO.out
          have HB' := B1.out
          refine bodyPost_ret (v := .tuple #[.agg #[.int .i64 N.kind, .slice b1 N.ints.length k1, .slice b2 N.texts.length k2, .slice b3 N.kids.length k3], .int .i64 0]) (by simp [results, Tryd.results13, go_sem, *]) rfl ⟨b1, k1, b2, k2, b3, k3, ?_, ?_, HB'⟩
          · dsimp only
            rw [pk, p3, p4, p2]
          · dsimp only
            rw [p3, p4, p2]
            exact HO'

end Go.Proofs.YtaochgndednamaaDoor
