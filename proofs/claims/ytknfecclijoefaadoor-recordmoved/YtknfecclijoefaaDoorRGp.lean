/- The contract of the program's own Get of a record. -/
import Derived.Test.YtknfecclijoefaaDoorRGi
import Derived.Test.YtknfecclijoefaaDoorRGj
namespace Go.Proofs.YtknfecclijoefaaDoor
open Go.RowKit

/-- What the program's reading of a node holds: gN the node's block, gS the Spec's. -/
structure Gj (w wr : World) (g gN gS : Nat) (bs : ByteArray) (k : Nat) (e : Int) (N : Nd) (v1 v2 v3 : Value) (sb : Option Addr) (sc : Nat) (S : Sp) : Prop where
  cur : Cu wr g bs k e
  nd : AtN 26 wr gN #[.int .i64 N.kind, v1, v2, v3]
  own : OwnNd wr (gS + 1) N v1 v2 v3
  sp : AtN 78 wr gS #[.slice sb S.ints.length sc, .int .i64 S.texts, .int .i64 S.least, .int .i64 S.most]
  cls : wr.ownsRow w.heap.size 3 1 (.slice sb S.ints.length sc) S.ints.length (iV S.ints)
  low : ∀ r, (Value.slice sb S.ints.length sc).ownBlock = some r → r < gS
  res : AtN 26 wr w.heap.size #[.int .i64 0, .slice none 0 0, .slice none 0 0, .slice none 0 0]
  fr : w.grownBy wr (some g)
  hg : g < w.heap.size
  hN : w.heap.size < gN
  hS : gN < gS
  kb : k ≤ bs.size
section
variable {w wr w' : World} {g gN gS : Nat} {bs : ByteArray} {k k' : Nat} {e e' : Int} {N : Nd} {v v1 v2 v3 : Value} {sb : Option Addr} {sc : Nat} {S : Sp}
theorem Gj.start {w1 w2 : World} {q : Int} (hf : w.grownBy w1 (some g)) (hc : Cu w1 g bs k e) (hR : AtN 26 w1 w.heap.size #[.int .i64 0, .slice none 0 0, .slice none 0 0, .slice none 0 0])
    (hb : Below (w1.heap.size + 1) (w1.alloc (.cells #[.int .i64 q, .slice none 0 0, .slice none 0 0, .slice none 0 0] 26)) w2) (hS : Ints w2 (w1.heap.size + 1) (.slice sb S.ints.length sc) S.ints) (hg : g < w.heap.size) (hw : w.heap.size < w1.heap.size) (hk : k ≤ bs.size) :
    Gj w (w2.alloc (.cells #[.slice sb S.ints.length sc, .int .i64 S.texts, .int .i64 S.least, .int .i64 S.most] 78)) g w1.heap.size w2.heap.size bs k e ⟨q, [], [], []⟩ (.slice none 0 0) (.slice none 0 0) (.slice none 0 0) sb sc S := by
  have hb' : Below (w1.alloc (.cells #[.int .i64 q, .slice none 0 0, .slice none 0 0, .slice none 0 0] 26)).heap.size (w1.alloc (.cells #[.int .i64 q, .slice none 0 0, .slice none 0 0, .slice none 0 0] 26)) w2 := by simpa using hb
  have hs := hb'.size
  simp at hs
  refine ⟨At3.alloc (At3.belowAll (At3.alloc hc _) hb') _, ((AtN.new w1 26 _).belowAll hb').alloc _, ⟨own_nil _ _ _, own_nil _ _ _, own_nil _ _ _⟩, AtN.new w2 78 _, ?_, ?_, ((hR.alloc _).belowAll hb').alloc _, ?_, hg, hw, by omega, hk⟩
  · exact own_mono (hS.alloc _) (by omega)
  · intro r hr
    exact (hS.lt r hr).2
  · exact gtrans (gtrans (gtrans hf (World.grownBy_alloc _ _ _)) (gbelow hb')) (World.grownBy_alloc _ _ _)
theorem Gj.read (h : Gj w wr g gN gS bs k e N v1 v2 v3 sb sc S) (hw : wr.grownBy w' (some g)) (hc : Cu w' g bs k' e') (hk : k' ≤ bs.size) : Gj w w' g gN gS bs k' e' N v1 v2 v3 sb sc S := by
  have h1 := h.hg
  have h2 := h.hN
  have h3 := h.hS
  exact ⟨hc, h.nd.kept hw (by simp; omega), h.own.kept hw (fun q hq => by cases hq; omega), h.sp.kept hw (by simp; omega), row_kept h.cls hw (row_low h.cls (fun q hq => by cases hq; omega)), h.low, h.res.kept hw (by simp; omega), gtrans h.fr hw, h.hg, h.hN, h.hS, hk⟩
theorem Gj.more (h : Gj w wr g gN gS bs k e N v1 v2 v3 sb sc S) (hb : Below wr.heap.size wr w') : Gj w w' g gN gS bs k e N v1 v2 v3 sb sc S :=
  ⟨At3.belowAll h.cur hb, h.nd.belowAll hb, h.own.belowB hb, h.sp.belowAll hb, own_below h.cls hb (Nat.le_refl _), h.low, h.res.belowAll hb, gtrans h.fr (gbelow hb), h.hg, h.hN, h.hS, h.kb⟩
theorem Gj.szS (h : Gj w wr g gN gS bs k e N v1 v2 v3 sb sc S) : gS + 1 ≤ wr.heap.size := by
  have := (Array.getElem?_eq_some_iff.1 h.sp).1
  omega
theorem Gj.setN (h : Gj w wr g gN gS bs k e N v1 v2 v3 sb sc S) (o : Nat) (x : Value) : Cu (wr.setCell ⟨gN, o, none⟩ x) g bs k e ∧ OwnNd (wr.setCell ⟨gN, o, none⟩ x) (gS + 1) N v1 v2 v3 ∧ AtN 78 (wr.setCell ⟨gN, o, none⟩ x) gS #[.slice sb S.ints.length sc, .int .i64 S.texts, .int .i64 S.least, .int .i64 S.most] ∧
    (wr.setCell ⟨gN, o, none⟩ x).ownsRow w.heap.size 3 1 (.slice sb S.ints.length sc) S.ints.length (iV S.ints) ∧ AtN 26 (wr.setCell ⟨gN, o, none⟩ x) w.heap.size #[.int .i64 0, .slice none 0 0, .slice none 0 0, .slice none 0 0] ∧ w.grownBy (wr.setCell ⟨gN, o, none⟩ x) (some g) := by
  have h1 := h.hg
  have h2 := h.hN
  have h3 := h.hS
  exact ⟨At3.setOther h.cur _ (by simp; omega) _, h.own.set ⟨gN, o, none⟩ (by show gN < gS + 1; omega) x, h.sp.setOther _ (by simp; omega) _, own_set h.cls _ (fun q hq e => row_at h.cls h.nd (by decide) (by rw [hq, e])) _, h.res.setOther _ (by simp; omega) _, gnew h.fr ⟨gN, o, none⟩ (by show w.heap.size ≤ gN; omega) _⟩
theorem Gj.set1 {l : List Int} (h : Gj w wr g gN gS bs k e N v1 v2 v3 sb sc S) (ho : wr.ownsRow (gS + 1) 2 1 v l.length (iV l)) :
    Gj w (wr.setCell ⟨gN, 1, none⟩ v) g gN gS bs k e ⟨N.kind, l, N.texts, N.kids⟩ v v2 v3 sb sc S := by
  obtain ⟨k1, k2, k3, k4, k5, k6⟩ := h.setN 1 v
  have h3 := h.hS
  exact ⟨k1, by simpa using h.nd.set 1 v, ⟨own_set ho ⟨gN, 1, none⟩ (fun q hq => by have := (ho.lt q hq).1; show q ≠ gN; omega) v, k2.t, k2.k⟩, k3, k4, h.low, k5, k6, h.hg, h.hN, h.hS, h.kb⟩
theorem Gj.set2 {l : List ByteArray} (h : Gj w wr g gN gS bs k e N v1 v2 v3 sb sc S) (ho : wr.ownsRow (gS + 1) 9 1 v l.length (tV l)) :
    Gj w (wr.setCell ⟨gN, 2, none⟩ v) g gN gS bs k e ⟨N.kind, N.ints, l, N.kids⟩ v1 v v3 sb sc S := by
  obtain ⟨k1, k2, k3, k4, k5, k6⟩ := h.setN 2 v
  have h3 := h.hS
  exact ⟨k1, by simpa using h.nd.set 2 v, ⟨k2.i, own_set ho ⟨gN, 2, none⟩ (fun q hq => by have := (ho.lt q hq).1; show q ≠ gN; omega) v, k2.k⟩, k3, k4, h.low, k5, k6, h.hg, h.hN, h.hS, h.kb⟩
theorem Gj.set3 {l : List Int} (h : Gj w wr g gN gS bs k e N v1 v2 v3 sb sc S) (ho : wr.ownsRow (gS + 1) 3 1 v l.length (iV l)) :
    Gj w (wr.setCell ⟨gN, 3, none⟩ v) g gN gS bs k e ⟨N.kind, N.ints, N.texts, l⟩ v1 v2 v sb sc S := by
  obtain ⟨k1, k2, k3, k4, k5, k6⟩ := h.setN 3 v
  have h3 := h.hS
  exact ⟨k1, by simpa using h.nd.set 3 v, ⟨k2.i, k2.t, own_set ho ⟨gN, 3, none⟩ (fun q hq => by have := (ho.lt q hq).1; show q ≠ gN; omega) v⟩, k3, k4, h.low, k5, k6, h.hg, h.hN, h.hS, h.kb⟩
end

theorem Gj.clsAt {w wr w' : World} {g gN gS : Nat} {bs : ByteArray} {k : Nat} {e : Int} {N : Nd} {v1 v2 v3 : Value} {sb : Option Addr} {sc : Nat} {S : Sp} (h : Gj w wr g gN gS bs k e N v1 v2 v3 sb sc S) (hw : wr.grownBy w' (some g)) : LsAt w' sb (iV S.ints) :=
  LsAt.of_own (row_kept h.cls hw (row_low h.cls (fun q hq => by cases hq; exact h.hg)))

/-- What the program's Get leaves. -/
def NdGotC (w w' : World) (g : Nat) (bs : ByteArray) (r : Ending) (R : Nd × Nat × Int) : Prop :=
  ∃ a1 c1 a2 c2 a3 c3, r = .returned (.agg #[.int .i64 R.1.kind, .slice a1 R.1.ints.length c1, .slice a2 R.1.texts.length c2, .slice a3 R.1.kids.length c3]) ∧ OwnNd w' w.heap.size R.1 (.slice a1 R.1.ints.length c1) (.slice a2 R.1.texts.length c2) (.slice a3 R.1.kids.length c3) ∧ Cu w' g bs R.2.1 R.2.2 ∧ w.grownBy w' (some g)

theorem Gj.fin {w wr : World} {g gN gS : Nat} {bs : ByteArray} {k : Nat} {e : Int} {N : Nd} {v1 v2 v3 : Value} {sb : Option Addr} {sc : Nat} {S : Sp} (h : Gj w wr g gN gS bs k e N v1 v2 v3 sb sc S) (x0 x1 x2 x3 : Value) (y : Nd) {a1 a2 a3 : Option Addr} {c1 c2 c3 : Nat}
    (ho : OwnNd wr (gS + 1) y (.slice a1 y.ints.length c1) (.slice a2 y.texts.length c2) (.slice a3 y.kids.length c3)) :
    NdGotC w ((((wr.setCell ⟨w.heap.size, 0, none⟩ x0).setCell ⟨w.heap.size, 1, none⟩ x1).setCell ⟨w.heap.size, 2, none⟩ x2).setCell ⟨w.heap.size, 3, none⟩ x3) g bs (.returned (.agg #[.int .i64 y.kind, .slice a1 y.ints.length c1, .slice a2 y.texts.length c2, .slice a3 y.kids.length c3])) (y, k, e) := by
  have h1 := h.hg
  have h2 := h.hN
  have h3 := h.hS
  have hb : ∀ o : Nat, (⟨w.heap.size, o, none⟩ : Addr).block < gS + 1 := fun o => by show w.heap.size < gS + 1; omega
  refine ⟨a1, c1, a2, c2, a3, c3, rfl, ?_, ?_, ?_⟩
  · exact OwnNd.mono ((((ho.set _ (hb 0) x0).set _ (hb 1) x1).set _ (hb 2) x2).set _ (hb 3) x3) (by omega)
  · exact At3.setOther (At3.setOther (At3.setOther (At3.setOther h.cur _ (by show w.heap.size ≠ g; omega) _) _ (by show w.heap.size ≠ g; omega) _) _ (by show w.heap.size ≠ g; omega) _) _ (by show w.heap.size ≠ g; omega) _
  · exact gnew (gnew (gnew (gnew h.fr _ (Nat.le_refl _) _) _ (Nat.le_refl _) _) _ (Nat.le_refl _) _) _ (Nat.le_refl _) _

theorem gKs_ok {b : ByteArray} {p : Int} {n k : Nat} {e : Int} (h : (gKs b p n k e).2.2 = 0) : e = 0 := by
  by_cases he : e = 0
  · exact he
  · rw [gKs_stop b p n k he] at h; exact h
theorem gTs_ok {b : ByteArray} {L : List ByteArray} {n k : Nat} {e : Int} (h : (gTs b L n k e).2.2 = 0) : e = 0 := by
  by_cases he : e = 0
  · exact he
  · rw [gTs_stop b L n k he] at h; exact h
theorem pUint_ok {b : ByteArray} {k : Nat} {e m : Int} (h : (pUint b k e m).2.2 = 0) : e = 0 := by
  by_cases he : e = 0
  · exact he
  · rw [pUint_had b k m he] at h; exact h
theorem fl_ok {e d : Int} {P : Prop} [Decidable P] (h : (if P then fl e d else e) = 0) : e = 0 := by
  by_cases he : e = 0
  · exact he
  · rw [fl_had d he, ite_self] at h; exact h

set_option maxRecDepth 10000 in
set_option maxHeartbeats 4000000 in
theorem pget_any (bs : ByteArray) (gc : Nat) (p edges : Int) (k : Nat) (e : Int) (w : World) {B g gm : Nat} {v : Value} {L : List ByteArray} (h : Cu w gc bs k e) (hs : bs.size ≤ 1000000) (hk : k ≤ bs.size) (hT : ∀ W, w.grownBy W (some gc) → Tb W B g gm v L ∧ Tabs12 W) (he : -9223372036854775808 ≤ edges ∧ edges ≤ 9223372036854775807) :
    Calls Tryd.prog 17 #[.pointer (some ⟨gc, 0, none⟩), .int .i64 p, .pointer (some ⟨g, 0, none⟩), .int .i64 edges] w fun r w' => NdGotC w w' gc bs r (gNd bs p L edges k e) := by
  have HTT : Hid (∀ W, w.grownBy W (some gc) → Tb W B g gm v L ∧ Tabs12 W) := hT
  have hgl := h.lt
  have HC : Hid (Cu (w.alloc (.cells #[.int .i64 0, .slice none 0 0, .slice none 0 0, .slice none 0 0] 26)) gc bs k e) := At3.alloc h _
  have HR0 : Hid (AtN 26 (w.alloc (.cells #[.int .i64 0, .slice none 0 0, .slice none 0 0, .slice none 0 0] 26)) w.heap.size #[.int .i64 0, .slice none 0 0, .slice none 0 0, .slice none 0 0]) := AtN.new w 26 _
  have HF0 : Hid (w.grownBy (w.alloc (.cells #[.int .i64 0, .slice none 0 0, .slice none 0 0, .slice none 0 0] 26)) (some gc)) := World.grownBy_alloc _ _ _
  have hsm : bs.size ≤ maxLen := by unfold maxLen; omega
  have HU : Hid (∀ (W : World) (k : Nat) (e m : Int), Cu W gc bs k e → k ≤ bs.size → Calls Tryd.prog 39 #[.pointer (some ⟨gc, 0, none⟩), .int .u64 m] W fun r w' => r = .returned (.int .i64 (pUint bs k e m).1) ∧ Cu w' gc bs ((pUint bs k e m).2.1 : Nat) (pUint bs k e m).2.2 ∧ W.grownBy w' (some gc)) := fun W k e m q1 q2 => uint_any W gc bs k e m q1 hsm q2
  have HFl : Hid (∀ (W : World) (k : Nat) (e d : Int), Cu W gc bs k e → Calls Tryd.prog 41 #[.pointer (some ⟨gc, 0, none⟩), .int .i64 d] W fun r w' => r = .returned (.tuple #[]) ∧ Cu w' gc bs k (fl e d) ∧ W.grownBy w' (some gc)) := fun W k e d q => fail_any W gc bs k e d q
  have HEr : Hid (∀ (W : World) (k : Nat) (e : Int), Cu W gc bs k e → Calls Tryd.prog 20 #[.pointer (some ⟨gc, 0, none⟩)] W fun r w' => r = .returned (.int .i64 e) ∧ Below W.heap.size W w') := fun W k e q => err_any W gc bs k e q
  have HSp : Hid (∀ k W, w.grownBy W (some gc) → Calls Tryd.prog 40 #[.int .i64 k] W fun e w' => SpIs W w' e (newSp k)) := fun k W hW => new_any k W (hT W hW).2.k
  have he1 := he.1
  have he2 := he.2
  obtain ⟨R, hR⟩ : ∃ R, gNd bs p L edges k e = R := ⟨_, rfl⟩
  have HRD : Hid (gNd bs p L edges k e = R) := hR
  rw [hR]
  clear hR he h hT
  go_enter Tryd.func17, Tryd.ntmps17
  go_wp2_with fail
  refine Calls.mono (HU.out _ k e 16777216 HC.out hk) ?_
  rintro r w1 ⟨rfl, hc1, hg1⟩
  have hk1 := pUint_at bs k e 16777216 hk
  have hq1 := pUint_top bs k e 16777216
  obtain ⟨q, k1, e1, hqk⟩ : ∃ q k1 e1, pUint bs k e 16777216 = (q, k1, e1) := ⟨_, _, _, rfl⟩
  rw [hqk] at hc1 hk1 hq1 ⊢
  dsimp only at hc1 hk1 hq1 ⊢
  have HR1 : Hid (AtN 26 w1 w.heap.size #[.int .i64 0, .slice none 0 0, .slice none 0 0, .slice none 0 0]) := AtN.kept HR0.out hg1 (by simp; omega)
  have HF1 : Hid (w.grownBy w1 (some gc)) := gtrans HF0.out hg1
  have HC1 : Hid (Cu w1 gc bs k1 e1) := hc1
  have HQ : Hid (gNd bs p L edges k e = if (gRest bs p L edges (newSp q) k1 (if (newSp q).ok = true then e1 else fl e1 9)).2.2 = 0 then (⟨q, (gRest bs p L edges (newSp q) k1 (if (newSp q).ok = true then e1 else fl e1 9)).1.1, (gRest bs p L edges (newSp q) k1 (if (newSp q).ok = true then e1 else fl e1 9)).1.2.1, (gRest bs p L edges (newSp q) k1 (if (newSp q).ok = true then e1 else fl e1 9)).1.2.2⟩, (gRest bs p L edges (newSp q) k1 (if (newSp q).ok = true then e1 else fl e1 9)).2.1, 0) else (⟨0, [], [], []⟩, (gRest bs p L edges (newSp q) k1 (if (newSp q).ok = true then e1 else fl e1 9)).2.1, (gRest bs p L edges (newSp q) k1 (if (newSp q).ok = true then e1 else fl e1 9)).2.2)) := by
    show _ = _
    unfold gNd
    rw [hqk]
  rw [HRD.out] at HQ
  have hw1 := hg1.size
  simp at hw1
  clear HC HR0 HF0 hqk hc1 hg1 HRD hk
  have HF1a : Hid (w.grownBy (w1.alloc (.cells #[.int .i64 q, .slice none 0 0, .slice none 0 0, .slice none 0 0] 26)) (some gc)) := gtrans HF1.out (World.grownBy_alloc _ _ _)
  go_wp2_with fail
  refine Calls.mono (HSp.out q _ HF1a.out) ?_
  rintro r w2 ⟨v0, rfl, hS, hb2⟩
  obtain ⟨S, hSq⟩ : ∃ S, newSp q = S := ⟨_, rfl⟩
  rw [hSq] at hS HQ ⊢
  obtain ⟨sb, sc, hv⟩ : ∃ sb sc, v0 = .slice sb S.ints.length sc := by
    rcases hS.2 with ⟨rfl, h0⟩ | ⟨g', cap', cur', rfl, _⟩
    · exact ⟨_, _, by rw [h0]⟩
    · exact ⟨_, _, rfl⟩
  subst hv
  simp at hS hb2
  have HGi := Gj.start HF1.out HC1.out HR1.out hb2 hS hgl hw1 hk1.2
  have HG : Hid _ := HGi
  clear HGi HR1 HF1 HF1a HC1 hS hb2 hw1 HSp
  go_upto_if 22 with fail
  go_cut [11] (fun _ wc => Hid (Gj w wc gc w1.heap.size w2.heap.size bs k1 (if S.ok = true then e1 else fl e1 9) ⟨q, [], [], []⟩ (.slice none 0 0) (.slice none 0 0) (.slice none 0 0) sb sc S))
  case first =>
    cases hok : S.ok
    · go_wp2_with fail
      refine Calls.mono (HFl.out _ k1 e1 9 HG.out.cur) ?_
      rintro r w3 ⟨rfl, hc3, hg3⟩
      go_wp2_with fail
      go_meet
      show Gj _ _ _ _ _ _ _ _ _ _ _ _ _ _ _
      rw [if_neg (by rw [hok]; decide)]
      exact HG.out.read hg3 hc3 hk1.2
    · go_wp2_with fail
      go_meet
      show Gj _ _ _ _ _ _ _ _ _ _ _ _ _ _ _
      rw [if_pos hok]
      exact HG.out
  case rest =>
    clear HG
    obtain ⟨e2, he2⟩ : ∃ e2, (if S.ok = true then e1 else fl e1 9) = e2 := ⟨_, rfl⟩
    rw [he2] at HQ hcut
    clear he2
    generalize w1.heap.size = gN at hcut ⊢
    generalize w2.heap.size = gS at hcut ⊢
    have HG := hcut
    clear hcut
    obtain ⟨hsn, hst1, hst2, hsl1, hsl2, hsm1, hsm2⟩ := newSp_small q
    rw [hSq] at hsn hst1 hst2 hsl1 hsl2 hsm1 hsm2
    clear hSq
    obtain ⟨A, k4, e4, hA⟩ : ∃ A k4 e4, gIs bs S.ints k1 e2 = (A, k4, e4) := ⟨_, _, _, rfl⟩
    obtain ⟨D, k5, e5, hD⟩ : ∃ D k5 e5, gTs bs L S.texts.toNat k4 e4 = (D, k5, e5) := ⟨_, _, _, rfl⟩
    obtain ⟨m, k6, e6, hM⟩ : ∃ m k6 e6, pUint bs k5 e5 (max edges 0) = (m, k6, e6) := ⟨_, _, _, rfl⟩
    obtain ⟨bm, hbm⟩ : ∃ bm, decide (m < S.least ∨ (0 ≤ S.most ∧ S.most < m)) = bm := ⟨_, rfl⟩
    obtain ⟨e7, h7⟩ : ∃ e7, (if bm = true then fl e6 12 else e6) = e7 := ⟨_, rfl⟩
    obtain ⟨K, k8, e8, hK⟩ : ∃ K k8 e8, gKs bs p m.toNat k6 e7 = (K, k8, e8) := ⟨_, _, _, rfl⟩
    rw [gRest_eq hA hD hM (by rw [hbm]; exact h7) hK] at HQ
    dsimp only at HQ
    have hm := pUint_top bs k5 e5 (max edges 0)
    rw [hM] at hm
    dsimp only at hm
    have HOk : Hid (e8 = 0 → e4 = 0 ∧ e5 = 0) := fun q8 => by
      have q7 : e7 = 0 := gKs_ok (b := bs) (p := p) (n := m.toNat) (k := k6) (by rw [hK]; exact q8)
      have q6 : e6 = 0 := fl_ok (h7.trans q7)
      have q5 : e5 = 0 := pUint_ok (b := bs) (k := k5) (m := max edges 0) (by rw [hM]; exact q6)
      exact ⟨gTs_ok (b := bs) (L := L) (n := S.texts.toNat) (k := k4) (by rw [hD]; exact q5), q5⟩
    have HA : Hid _ := hA
    have HD : Hid _ := hD
    have HM : Hid _ := hM
    have HBm : Hid _ := hbm
    have H7 : Hid _ := h7
    have HK : Hid _ := hK
    clear hA hD hM hbm h7 hK
    have hgS := HG.out.hS
    have d0 : wc.cell? ⟨gS, 0, none⟩ = some (.slice sb S.ints.length sc) := HG.out.sp.cell 0
    have sz1 := HG.out.szS
    go_wp2_with fail
    refine Calls.mono (pints_any bs gc S.ints sb sc k1 e2 _ HG.out.cur hs HG.out.kb (fun W hW => HG.out.clsAt hW) (fun W hW => (HTT.out W (gtrans HG.out.fr hW)).2.s) (by omega)) ?_
    rintro r w3 ⟨l1, u1, rfl, hB, hl⟩
    obtain ⟨a1, x1, rfl⟩ := own_shape6 hB.own
    rw [HA.out] at hB hl
    dsimp only at hB hl
    have HG3 : Hid (Gj w w3 gc gN gS bs k4 e4 ⟨q, [], [], []⟩ (.slice none 0 0) (.slice none 0 0) (.slice none 0 0) sb sc S) := HG.out.read hB.fr hB.cur hB.kb
    have HG4 : Hid (Gj w (w3.setCell ⟨gN, 1, none⟩ (.slice a1 l1.length x1)) gc gN gS bs k4 e4 ⟨q, l1, [], []⟩ (.slice a1 l1.length x1) (.slice none 0 0) (.slice none 0 0) sb sc S) := HG3.out.set1 (own_mono hB.own sz1)
    have HL1 : Hid (e4 = 0 → l1 = A) := hl
    have c1 : w3.cell? ⟨gN, 1, none⟩ = some (.slice none 0 0) := HG3.out.nd.cell 1
    have f1 := HG3.out.nd.fz 1
    have d1 : w3.cell? ⟨gS, 1, none⟩ = some (.int .i64 S.texts) := HG3.out.sp.cell 1
    have sz3 := HG4.out.szS
    have htt := ptexts_any bs gc S.texts.toNat k4 e4 _ HG4.out.cur hs HG4.out.kb (fun W hW => (HTT.out W (gtrans HG4.out.fr hW)).1) (by omega)
    rw [HD.out, show ((S.texts.toNat : Nat) : Int) = S.texts by omega] at htt
    dsimp only at htt
    have HTt : Hid _ := htt
    clear htt
    clear HG hB hl HG3 d0 HA sz1
    go_wp2_with fail
    refine Calls.mono HTt.out ?_
    rintro r w4 ⟨l2, u2, rfl, hB, hl⟩
    obtain ⟨a2, x2, rfl⟩ := own_shape6 hB.own
    have HG5 : Hid (Gj w w4 gc gN gS bs k5 e5 ⟨q, l1, [], []⟩ (.slice a1 l1.length x1) (.slice none 0 0) (.slice none 0 0) sb sc S) := HG4.out.read hB.fr hB.cur hB.kb
    have HG6 : Hid (Gj w (w4.setCell ⟨gN, 2, none⟩ (.slice a2 l2.length x2)) gc gN gS bs k5 e5 ⟨q, l1, l2, []⟩ (.slice a1 l1.length x1) (.slice a2 l2.length x2) (.slice none 0 0) sb sc S) := HG5.out.set2 (own_mono hB.own sz3)
    have HL2 : Hid (e5 = 0 → l2 = D) := hl
    have c2 : w4.cell? ⟨gN, 2, none⟩ = some (.slice none 0 0) := HG5.out.nd.cell 2
    have f2 := HG5.out.nd.fz 2
    have d0 : w4.cell? ⟨gS, 0, none⟩ = some (.slice sb S.ints.length sc) := HG5.out.sp.cell 0
    have d1 : w4.cell? ⟨gS, 1, none⟩ = some (.int .i64 S.texts) := HG5.out.sp.cell 1
    have d2 : w4.cell? ⟨gS, 2, none⟩ = some (.int .i64 S.least) := HG5.out.sp.cell 2
    have d3 : w4.cell? ⟨gS, 3, none⟩ = some (.int .i64 S.most) := HG5.out.sp.cell 3
    have sz5 := HG6.out.szS
    have hpc := pcount_any bs gc edges S sb sc k5 e5 (w4.setCell ⟨gN, 2, none⟩ (.slice a2 l2.length x2)) HG6.out.cur hs HG6.out.kb he1 he2
    rw [HM.out] at hpc
    dsimp only at hpc
    have h7e : (if m < S.least ∨ (0 ≤ S.most ∧ S.most < m) then fl e6 12 else e6) = e7 := by
      rw [← H7.out, ← HBm.out]; simp
    rw [h7e] at hpc
    have HPc : Hid _ := hpc
    have hk6 := pUint_at bs k5 e5 (max edges 0) HG6.out.kb
    rw [HM.out] at hk6
    dsimp only at hk6
    clear HG4 hB hl HG5 HD sz3 HTt hpc h7e HM HBm H7 c1 f1
    go_wp2_with fail
    refine Calls.mono HPc.out ?_
    rintro r w5 ⟨rfl, hc5, hg5⟩
    have HG7 : Hid (Gj w w5 gc gN gS bs k6 e7 ⟨q, l1, l2, []⟩ (.slice a1 l1.length x1) (.slice a2 l2.length x2) (.slice none 0 0) sb sc S) := HG6.out.read hg5 hc5 hk6.2
    have sz7 := HG7.out.szS
    have hpk := pkids_any bs gc m.toNat p k6 e7 w5 HG7.out.cur hs HG7.out.kb (by omega)
    rw [HK.out, show ((m.toNat : Nat) : Int) = m by omega] at hpk
    dsimp only at hpk
    have HPk : Hid _ := hpk
    clear HG6 HPc hpk hc5 hg5 c2 f2 d0 d1 d2 d3 HK
    go_wp2_with fail
    refine Calls.mono HPk.out ?_
    rintro r w6 ⟨l3, u3, rfl, hB, hl⟩
    obtain ⟨a3, x3, rfl⟩ := own_shape6 hB.own
    have HG8 : Hid (Gj w w6 gc gN gS bs k8 e8 ⟨q, l1, l2, []⟩ (.slice a1 l1.length x1) (.slice a2 l2.length x2) (.slice none 0 0) sb sc S) := HG7.out.read hB.fr hB.cur hB.kb
    have HG9 : Hid (Gj w (w6.setCell ⟨gN, 3, none⟩ (.slice a3 l3.length x3)) gc gN gS bs k8 e8 ⟨q, l1, l2, l3⟩ (.slice a1 l1.length x1) (.slice a2 l2.length x2) (.slice a3 l3.length x3) sb sc S) := HG8.out.set3 (own_mono hB.own sz7)
    have HL3 : Hid (e8 = 0 → l3 = K) := hl
    have c3 : w6.cell? ⟨gN, 3, none⟩ = some (.slice none 0 0) := HG8.out.nd.cell 3
    have f3 := HG8.out.nd.fz 3
    clear HG7 hB hl HG8 HPk
    go_wp2_with fail
    refine Calls.mono (HEr.out _ k8 e8 HG9.out.cur) ?_
    rintro r w7 ⟨rfl, hb7⟩
    have HN : Hid _ := HG9.out.more hb7
    clear HG9 hb7 c3 f3
    have r0 := HN.out.res.cell 0
    have r1 := HN.out.res.cell 1
    have r2 := HN.out.res.cell 2
    have r3 := HN.out.res.cell 3
    have f0 := HN.out.res.fz 0
    have f1 := HN.out.res.fz 1
    have f2 := HN.out.res.fz 2
    have f3 := HN.out.res.fz 3
    by_cases h8 : e8 = 0
    · subst h8
      obtain ⟨q4, q5⟩ := HOk.out rfl
      obtain rfl := HL1.out q4
      obtain rfl := HL2.out q5
      obtain rfl := HL3.out rfl
      have n0 := HN.out.nd.cell 0
      have n1 := HN.out.nd.cell 1
      have n2 := HN.out.nd.cell 2
      have n3 := HN.out.nd.cell 3
      have HR : Hid (R = (⟨q, l1, l2, l3⟩, k8, 0)) := by
        have h := HQ.out
        rw [if_pos rfl] at h
        exact h
      clear HQ HL1 HL2 HL3
      go_wp2_with fail
      have A4 := at_set4 HN.out.res (.int .i64 q) (.slice a1 l1.length x1) (.slice a2 l2.length x2) (.slice a3 l3.length x3)
      have z0 := A4.cell 0
      have z1 := A4.cell 1
      have z2 := A4.cell 2
      have z3 := A4.cell 3
      refine bodyPost_ret (v := .agg #[.int .i64 q, .slice a1 l1.length x1, .slice a2 l2.length x2, .slice a3 l3.length x3]) (by simp [results, Tryd.results17, go_sem, *]) rfl ?_
      rw [HR.out]
      exact HN.out.fin _ _ _ _ ⟨q, l1, l2, l3⟩ HN.out.own
    · have HR : Hid (R = (⟨0, [], [], []⟩, k8, e8)) := by
        have h := HQ.out
        rw [if_neg h8] at h
        exact h
      have h8' : (e8 != 0) = true := by simpa using h8
      clear HQ
      go_wp2_with fail
      have A4 := at_set4 HN.out.res (.int .i64 0) (.slice none 0 0) (.slice none 0 0) (.slice none 0 0)
      have z0 := A4.cell 0
      have z1 := A4.cell 1
      have z2 := A4.cell 2
      have z3 := A4.cell 3
      refine bodyPost_ret (v := .agg #[.int .i64 0, .slice none 0 0, .slice none 0 0, .slice none 0 0]) (by simp [results, Tryd.results17, go_sem, *]) rfl ?_
      rw [HR.out]
      exact HN.out.fin _ _ _ _ ⟨0, [], [], []⟩ ⟨own_nil _ _ _, own_nil _ _ _, own_nil _ _ _⟩

end Go.Proofs.YtknfecclijoefaaDoor
