/- A node of the call's own whose kids are being renumbered; the contract of the program's renumbered. -/
import Derived.Test.YtcdpjaaiojpelaaDoorCCopy
import Derived.Test.YtcdpjaaiojpelaaDoorCCan
namespace Go.Proofs.YtcdpjaaiojpelaaDoor
open Go.RowKit Go.Maps Go.WideMaps Go.Sort

/-- A node with its kids by other numbers. -/
def renNd (f : Int → Int) (N : Nd) : Nd := ⟨N.kind, N.ints, N.texts, N.kids.map f⟩
theorem renNd_great (f : Int → Int) (N : Nd) : great (renNd f N) = great N := by
  unfold great renNd
  simp only [List.length_map]
theorem own_store9 {w : World} {B n : Nat} {e : TypeId} {a : Option Addr} {cap : Nat} {xs : List Value} (h : w.ownsRow B e 1 (.slice a n cap) n xs) (j : Nat) (hj : j < n) : ∃ g, a = some ⟨g, 0, none⟩ ∧ w.cell? ⟨g, j, none⟩ = xs[j]? ∧ w.frozen? ⟨g, j, none⟩ = false ∧ B ≤ g ∧ g < w.heap.size ∧
    ∀ v, (w.setCell ⟨g, j, none⟩ v).ownsRow B e 1 (.slice (some ⟨g, 0, none⟩) n cap) n (xs.set j v) := by
  rcases h.2 with ⟨_, h2⟩ | ⟨g, cap', cur, he, h1, h2, h3⟩
  · omega
  · simp only [Value.slice.injEq] at he
    obtain ⟨rfl, _, rfl⟩ := he
    exact ⟨g, rfl, h.cellAt j (by have := h.1; omega), h.frozenAt j, h1, (h.lt g rfl).2, fun v => (h.stored j v).1⟩
/-- Rows of two types lie apart. -/
theorem own_apart9 {w : World} {B B' n n' s s' : Nat} {e e' : TypeId} {v v' : Value} {xs xs' : List Value} (h : w.ownsRow B e s v n xs) (h' : w.ownsRow B' e' s' v' n' xs') (he : e ≠ e') {g : Nat} (hv : v.ownBlock = some g) : v'.ownBlock ≠ some g := by
  intro hr
  rcases h.2 with ⟨rfl, _⟩ | ⟨g1, _, cur, rfl, _, h2, _⟩
  · cases hv
  · simp only [Value.ownBlock, Option.some.injEq] at hv
    subst hv
    rcases h'.2 with ⟨rfl, _⟩ | ⟨g2, _, cur', rfl, _, h3, _⟩
    · cases hr
    · simp only [Value.ownBlock, Option.some.injEq] at hr
      subst hr
      rw [h3] at h2
      cases h2
      exact he rfl
/-- Kids that are being turned. -/
def tkf (f : Int → Int) (l : List Int) (k : Nat) : List Int := (l.take k).map (f) ++ l.drop k
theorem tkf_zero (f : Int → Int) (l : List Int) : tkf f l 0 = l := by simp [tkf]
theorem tkf_all (f : Int → Int) (l : List Int) : tkf f l l.length = l.map (f) := by simp [tkf]
theorem tkf_at (f : Int → Int) (l : List Int) (k : Nat) (h : k < l.length) : (iV (tkf f l k))[k]? = some (.int .i64 (l.getD k 0)) := by
  have h1 : (tkf f l k)[k]? = some (l.getD k 0) := by
    unfold tkf
    rw [List.getElem?_append_right (by simp; omega)]
    simp [h, Nat.min_eq_left (Nat.le_of_lt h)]
  unfold iV
  rw [List.getElem?_map, h1]
  rfl
theorem tkf_set (f : Int → Int) (l : List Int) (k : Nat) (h : k < l.length) : (iV (tkf f l k)).set k (.int .i64 (f (l.getD k 0))) = iV (tkf f l (k + 1)) := by
  have h1 : (tkf f l k).set k (f (l.getD k 0)) = tkf f l (k + 1) := by
    unfold tkf
    have hm : ((l.take k).map (f)).length = k := by simp; omega
    rw [List.set_append_right _ _ (by omega), hm, Nat.sub_self, List.take_add_one, List.getD_eq_getElem?_getD, List.getElem?_eq_getElem h, show l.drop k = l[k] :: l.drop (k + 1) from List.drop_eq_getElem_cons h, List.map_append, List.append_assoc]
    rfl
  rw [← h1]
  unfold iV
  rw [List.map_set]

/-- A node of the call's own whose kids are being turned. -/
structure Tgf (w : World) (B g : Nat) (N : Nd) (f : Int → Int) (k : Nat) (a1 a2 a3 : Option Addr) (c1 c2 c3 : Nat) : Prop where
  nd : AtN 42 w g #[.int .i64 N.kind, .slice a1 N.ints.length c1, .slice a2 N.texts.length c2, .slice a3 N.kids.length c3]
  i : w.ownsRow B 2 1 (.slice a1 N.ints.length c1) N.ints.length (iV N.ints)
  t : w.ownsRow B 9 1 (.slice a2 N.texts.length c2) N.texts.length (tV N.texts)
  k : w.ownsRow B 3 1 (.slice a3 N.kids.length c3) N.kids.length (iV (tkf f N.kids k))
theorem Tgf.drew {w : World} {B g : Nat} {N : Nd} {f : Int → Int} {k : Nat} {a1 a2 a3 : Option Addr} {c1 c2 c3 : Nat} (h : Tgf w B g N f k a1 a2 a3 c1 c2 c3) : Tgf w.drew B g N f k a1 a2 a3 c1 c2 c3 := ⟨h.nd, h.i, h.t, h.k⟩
theorem Tgf.next {w : World} {B g : Nat} {N : Nd} {f : Int → Int} {k : Nat} {a1 a2 a3 : Option Addr} {c1 c2 c3 : Nat} (h : Tgf w B g N f k a1 a2 a3 c1 c2 c3) (hk : k < N.kids.length) : ∃ q, a3 = some ⟨q, 0, none⟩ ∧ w.cell? ⟨q, k, none⟩ = some (.int .i64 (N.kids.getD k 0)) ∧ w.frozen? ⟨q, k, none⟩ = false ∧ B ≤ q ∧ q < w.heap.size ∧
    Tgf (w.setCell ⟨q, k, none⟩ (.int .i64 (f (N.kids.getD k 0)))) B g N f (k + 1) a1 a2 a3 c1 c2 c3 := by
  obtain ⟨q, rfl, h1, h2, h3, h4, h5⟩ := own_store9 h.k k hk
  have hq : (Value.slice (some ⟨q, 0, none⟩) N.kids.length c3).ownBlock = some q := rfl
  refine ⟨q, rfl, by rw [h1, tkf_at f N.kids k hk], h2, h3, h4, ?_, ?_, ?_, ?_⟩
  · exact h.nd.setOther _ (fun e => own_ne_at h.k h.nd (by decide) q hq e) _
  · exact own_set h.i _ (fun r hr e => own_apart9 h.k h.i (by decide) hq (by rw [hr]; exact congrArg some e)) _
  · exact own_set h.t _ (fun r hr e => own_apart9 h.k h.t (by decide) hq (by rw [hr]; exact congrArg some e)) _
  · have := h5 (.int .i64 (f (N.kids.getD k 0)))
    rwa [tkf_set f N.kids k hk] at this
/-- The node when all its kids are turned. -/
def renNx (f : Int → Int) (N : Nd) (a1 a2 a3 : Option Addr) (c1 c2 c3 : Nat) : Nx := ⟨renNd f N, a1, c1, a2, c2, a3, c3⟩
theorem Tgf.own {w : World} {B g : Nat} {N : Nd} {f : Int → Int} {a1 a2 a3 : Option Addr} {c1 c2 c3 : Nat} (h : Tgf w B g N f N.kids.length a1 a2 a3 c1 c2 c3) : OwnNx w B (renNx f N a1 a2 a3 c1 c2 c3) := by
  refine ⟨h.i, h.t, ?_⟩
  have := h.k
  rw [tkf_all] at this
  simpa [renNx, renNd] using this
theorem renNx_cells (f : Int → Int) (N : Nd) (a1 a2 a3 : Option Addr) (c1 c2 c3 : Nat) : nxC (renNx f N a1 a2 a3 c1 c2 c3) = [.int .i64 N.kind, .slice a1 N.ints.length c1, .slice a2 N.texts.length c2, .slice a3 N.kids.length c3] := by simp [nxC, renNx, renNd]


set_option maxRecDepth 10000 in
set_option maxHeartbeats 1000000 in
theorem renum_any (N : Nd) (a1 a2 a3 : Option Addr) (c1 c2 c3 gp n cp : Nat) (p : Nat → Int) (w : World) (h : NdAt w N a1 a2 a3) (hg : great N = false) (hp : AtN 3 w gp (zV n p)) (hk : ∀ j, j < N.kids.length → isPb n (N.kids.getD j 0) = true) :
    Calls Tryd.prog 38 #[.agg #[.int .i64 N.kind, .slice a1 N.ints.length c1, .slice a2 N.texts.length c2, .slice a3 N.kids.length c3], .slice (some ⟨gp, 0, none⟩) n cp] w fun e w' => NdOut w w' e (renNd (fun z => p z.toNat) N) := by
  have hgr := great_no hg
  have HA : Hid (∀ (o1 o2 : Obj), o1 = .cells #[.int .i64 N.kind, .slice a1 N.ints.length c1, .slice a2 N.texts.length c2, .slice a3 N.kids.length c3] 42 → o2 = .cells #[.int .i64 0, .slice none 0 0, .slice none 0 0, .slice none 0 0] 42 → AtN 42 ((w.alloc o1).alloc o2) (w.heap.size + 1) #[.int .i64 0, .slice none 0 0, .slice none 0 0, .slice none 0 0] ∧ NdAt ((w.alloc o1).alloc o2) N a1 a2 a3 ∧ Below w.heap.size w ((w.alloc o1).alloc o2) ∧ ((w.alloc o1).alloc o2).heap.size = w.heap.size + 2) := by
    rintro _ _ rfl rfl
    exact ⟨mk_at (AtN.new (w.alloc _) 42 _) (show _ = w.heap.size + 1 by simp), (h.alloc _).alloc _, ((Below.refl w.heap.size w).alloc (Nat.le_refl _) _).alloc (by simp) _, by simp⟩
  have HP : Hid (AtN 3 w gp (zV n p) ∧ ∀ j, j < N.kids.length → isPb n (N.kids.getD j 0) = true) := ⟨hp, hk⟩
  have hgp := hp.lt
  have hk3 := hgr.2.2.1
  clear h hp hk
  go_enter Tryd.func38, Tryd.ntmps38
  go_wp2_with fail
  obtain ⟨h1, h2, h3, h4⟩ := HA.out _ _ rfl rfl
  refine (copy_any N a1 a2 a3 c1 c2 c3 _ h2 hgr.1 hgr.2.1 hgr.2.2.1).mono ?_
  rintro e wq ⟨b1, d1, b2, d2, b3, d3, rfl, hO, hb⟩
  rw [h4] at hO
  have hsq : w.heap.size + 2 ≤ wq.heap.size := by have := hb.size; rw [h4] at this; exact this
  have HT0 : Hid (Tgf (wq.alloc (.cells #[.int .i64 N.kind, .slice b1 N.ints.length d1, .slice b2 N.texts.length d2, .slice b3 N.kids.length d3] 42)) (w.heap.size + 2) wq.heap.size N (fun z => p z.toNat) 0 b1 b2 b3 d1 d2 d3) := ⟨AtN.new wq 42 _, hO.i.alloc _, hO.t.alloc _, by rw [tkf_zero]; exact hO.k.alloc _⟩
  have HB0 : Hid (Below w.heap.size w (wq.alloc (.cells #[.int .i64 N.kind, .slice b1 N.ints.length d1, .slice b2 N.texts.length d2, .slice b3 N.kids.length d3] 42))) := (h3.trans (hb.mono (by rw [h4]; omega))).alloc (by omega) _
  have HR0 : Hid (AtN 42 (wq.alloc (.cells #[.int .i64 N.kind, .slice b1 N.ints.length d1, .slice b2 N.texts.length d2, .slice b3 N.kids.length d3] 42)) (w.heap.size + 1) #[.int .i64 0, .slice none 0 0, .slice none 0 0, .slice none 0 0]) := (h1.belowAll hb).alloc _
  clear hO hb HA h1 h2 h3 h4
  go_wp2_with fail
  go_loopw [13] (fun kv w2 => ∃ k : Nat, kv = .int .i64 k ∧ k ≤ N.kids.length ∧ Hid (Tgf w2 (w.heap.size + 2) wq.heap.size N (fun z => p z.toNat) k b1 b2 b3 d1 d2 d3) ∧ Hid (Below w.heap.size w w2) ∧ Hid (AtN 42 w2 (w.heap.size + 1) #[.int .i64 0, .slice none 0 0, .slice none 0 0, .slice none 0 0])) (fun kv _ => N.kids.length - (intOf kv).toNat)
  case atStart => exact ⟨0, rfl, by omega, HT0, HB0, HR0⟩
  case round =>
    clear HT0 HB0 HR0
    obtain ⟨k, rfl, hk, HT, HB2, HR⟩ := hrel
    have y3 : wr.cell? ⟨wq.heap.size, 3, none⟩ = some (.slice b3 N.kids.length d3) := HT.out.nd.cell 3
    by_cases hkl : k < N.kids.length
    · have hkl' : (k : Int) < N.kids.length := by omega
      obtain ⟨q, rfl, e1, e2, e3, e4, hT2⟩ := HT.out.next hkl
      have hpl := HP.out.2 k hkl
      obtain ⟨m, hm, hmn⟩ : ∃ m : Nat, N.kids.getD k 0 = (m : Int) ∧ m < n := by
        have := isPb_iff.1 hpl
        exact ⟨(N.kids.getD k 0).toNat, by omega, by omega⟩
      have hmn' : (m : Int) < n := by omega
      have p0 : wr.cell? ⟨gp, m, none⟩ = some (.int .i64 (p m)) := by rw [(AtN.below HP.out.1 HB2.out hgp).cell m, zV_at _ _ _ hmn]
      rw [hm] at e1 hT2
      rw [Int.toNat_natCast] at hT2
      have HT2 : Hid (Tgf ((wr.setCell ⟨q, k, none⟩ (.int .i64 (p m))).drew) (w.heap.size + 2) wq.heap.size N (fun z => p z.toNat) (k + 1) b1 b2 (some ⟨q, 0, none⟩) d1 d2 d3 ∧ Below w.heap.size w ((wr.setCell ⟨q, k, none⟩ (.int .i64 (p m))).drew) ∧ AtN 42 ((wr.setCell ⟨q, k, none⟩ (.int .i64 (p m))).drew) (w.heap.size + 1) #[.int .i64 0, .slice none 0 0, .slice none 0 0, .slice none 0 0]) := ⟨hT2.drew, (HB2.out.setCell (p := ⟨q, k, none⟩) (by show w.heap.size ≤ q; omega) _).drew, (HR.out.setOther ⟨q, k, none⟩ (by show q ≠ w.heap.size + 1; omega) _).drew⟩
      generalize p m = pm at *
      clear HT HB2 hT2 HR hm hpl
      go_wp2_with fail
      go_region
      go_wp2_with fail
      go_roundw
      case rel => exact ⟨k + 1, by go_num, by omega, HT2.out.1, HT2.out.2.1, HT2.out.2.2⟩
      case measure => simp [intOf]; omega
    · have hkl' : ¬ (k : Int) < N.kids.length := by omega
      obtain rfl : k = N.kids.length := by omega
      have y0 : wr.cell? ⟨wq.heap.size, 0, none⟩ = some (.int .i64 N.kind) := HT.out.nd.cell 0
      have y1 : wr.cell? ⟨wq.heap.size, 1, none⟩ = some (.slice b1 N.ints.length d1) := HT.out.nd.cell 1
      have y2 : wr.cell? ⟨wq.heap.size, 2, none⟩ = some (.slice b2 N.texts.length d2) := HT.out.nd.cell 2
      have f0 := HR.out.fz 0
      have f1 := HR.out.fz 1
      have f2 := HR.out.fz 2
      have f3 := HR.out.fz 3
      have z0 : wr.cell? ⟨w.heap.size + 1, 0, none⟩ = some (.int .i64 0) := HR.out.cell 0
      have z1 : wr.cell? ⟨w.heap.size + 1, 1, none⟩ = some (.slice none 0 0) := HR.out.cell 1
      have z2 : wr.cell? ⟨w.heap.size + 1, 2, none⟩ = some (.slice none 0 0) := HR.out.cell 2
      have z3 : wr.cell? ⟨w.heap.size + 1, 3, none⟩ = some (.slice none 0 0) := HR.out.cell 3
      have hl1 := HR.out.lt
      have HO : Hid (OwnNx wr (w.heap.size + 2) (renNx (fun z => p z.toNat) N b1 b2 b3 d1 d2 d3)) := HT.out.own
      have HO4 : Hid (∀ v0 v1 v2 v3, OwnNd ((((wr.setCell ⟨w.heap.size + 1, 0, none⟩ v0).setCell ⟨w.heap.size + 1, 1, none⟩ v1).setCell ⟨w.heap.size + 1, 2, none⟩ v2).setCell ⟨w.heap.size + 1, 3, none⟩ v3) w.heap.size (renNd (fun z => p z.toNat) N) (.slice b1 N.ints.length d1) (.slice b2 N.texts.length d2) (.slice b3 (renNd (fun z => p z.toNat) N).kids.length d3)) := fun v0 v1 v2 v3 => by
        have h0 : OwnNd wr (w.heap.size + 2) (renNd (fun z => p z.toNat) N) (.slice b1 N.ints.length d1) (.slice b2 N.texts.length d2) (.slice b3 (renNd (fun z => p z.toNat) N).kids.length d3) := HO.out
        exact ((((h0.set ⟨w.heap.size + 1, 0, none⟩ (by simp) v0).set ⟨w.heap.size + 1, 1, none⟩ (by simp) v1).set ⟨w.heap.size + 1, 2, none⟩ (by simp) v2).set ⟨w.heap.size + 1, 3, none⟩ (by simp) v3).mono (by omega)
      have HB4 : Hid (∀ v0 v1 v2 v3, Below w.heap.size w ((((wr.setCell ⟨w.heap.size + 1, 0, none⟩ v0).setCell ⟨w.heap.size + 1, 1, none⟩ v1).setCell ⟨w.heap.size + 1, 2, none⟩ v2).setCell ⟨w.heap.size + 1, 3, none⟩ v3)) := fun v0 v1 v2 v3 => (((HB2.out.setCell (p := ⟨w.heap.size + 1, 0, none⟩) (by show w.heap.size ≤ w.heap.size + 1; omega) v0).setCell (p := ⟨w.heap.size + 1, 1, none⟩) (by show w.heap.size ≤ w.heap.size + 1; omega) v1).setCell (p := ⟨w.heap.size + 1, 2, none⟩) (by show w.heap.size ≤ w.heap.size + 1; omega) v2).setCell (p := ⟨w.heap.size + 1, 3, none⟩) (by show w.heap.size ≤ w.heap.size + 1; omega) v3
      have HA4 : Hid (∀ v0 v1 v2 v3, AtN 42 ((((wr.setCell ⟨w.heap.size + 1, 0, none⟩ v0).setCell ⟨w.heap.size + 1, 1, none⟩ v1).setCell ⟨w.heap.size + 1, 2, none⟩ v2).setCell ⟨w.heap.size + 1, 3, none⟩ v3) (w.heap.size + 1) #[v0, v1, v2, v3]) := fun v0 v1 v2 v3 => at_set4 HR.out v0 v1 v2 v3
      clear HT HB2 HR HO
      go_wp2_with fail
      have A := HA4.out (.int .i64 N.kind) (.slice b1 N.ints.length d1) (.slice b2 N.texts.length d2) (.slice b3 N.kids.length d3)
      have O := HO4.out (.int .i64 N.kind) (.slice b1 N.ints.length d1) (.slice b2 N.texts.length d2) (.slice b3 N.kids.length d3)
      have Bq := HB4.out (.int .i64 N.kind) (.slice b1 N.ints.length d1) (.slice b2 N.texts.length d2) (.slice b3 N.kids.length d3)
      have k0 := A.cell 0
      have k1 := A.cell 1
      have k2 := A.cell 2
      have k3 := A.cell 3
      have hkk : (renNd (fun z => p z.toNat) N).kids.length = N.kids.length := by simp [renNd]
      rw [hkk] at O
      exact bodyPost_ret (v := .agg #[.int .i64 N.kind, .slice b1 N.ints.length d1, .slice b2 N.texts.length d2, .slice b3 N.kids.length d3]) (by simp [results, Tryd.results38, go_sem, k0, k1, k2, k3]) rfl ⟨b1, d1, b2, d2, b3, d3, by rw [hkk]; rfl, by rw [hkk]; exact O, Bq⟩

end Go.Proofs.YtcdpjaaiojpelaaDoor

namespace Go.Proofs.YtcdpjaaiojpelaaDoor
open Go.RowKit Go.Maps Go.WideMaps Go.Sort

/-- What Numbers tells. -/
def NumOut (X : List Nx) (r : Int) (w w' : World) (e : Ending) : Prop := (RightIs X r → ∃ g, e = .returned (.slice (some ⟨g, 0, none⟩) X.length X.length) ∧ AtN 3 w' g (zV X.length (fun i => ((oX X r).idxOf i : Int)))) ∧ (¬ RightIs X r → e = .returned (.slice none 0 0)) ∧ Below w.heap.size w w'

set_option maxRecDepth 10000 in
set_option maxHeartbeats 400000 in
theorem numbers_any (X : List Nx) (a : Option Addr) (c : Nat) (r : Int) (w : World) (h : ScAt w a X) (hX : Small X) :
    Calls Tryd.prog 35 #[.agg #[.slice a X.length c, .int .i64 r]] w fun e w' => NumOut X r w w' e := by
  have HS : Hid (ScAt w a X ∧ Small X) := ⟨h, hX⟩
  have HL : Hid (∀ o : Obj, o = .cells #[.slice a X.length c, .int .i64 r] 24 → AtN 24 (w.alloc o) w.heap.size #[.slice a X.length c, .int .i64 r] ∧ Below w.heap.size w (w.alloc o)) := by
    rintro _ rfl
    exact ⟨AtN.new w 24 _, (Below.refl w.heap.size w).alloc (Nat.le_refl _) _⟩
  clear h hX
  go_enter Tryd.func35, Tryd.ntmps35
  go_wp2_with fail
  obtain ⟨h1, h2⟩ := HL.out _ rfl
  refine (check_any X a c r _ (HS.out.1.belowB h2) HS.out.2).mono ?_
  rintro e w1 ⟨n, z, rfl, hc, hb1⟩
  have HA1 : Hid (AtN 24 w1 w.heap.size #[.slice a X.length c, .int .i64 r]) := h1.belowAll hb1
  have HB1 : Hid (Below w.heap.size w w1) := h2.trans (hb1.mono h2.size)
  have x0 : w1.cell? ⟨w.heap.size, 0, none⟩ = some (.slice a X.length c) := HA1.out.cell 0
  have x1 : w1.cell? ⟨w.heap.size, 1, none⟩ = some (.int .i64 r) := HA1.out.cell 1
  have HC : Hid (CheckIs X r n z) := hc
  clear HL h1 h2 hb1 hc
  by_cases hn : n = 0
  · subst hn
    have hR : RightIs X r := HC.out.right.1 rfl
    have HN : Hid (Calls Tryd.prog 37 #[.agg #[.slice a X.length c, .int .i64 r]] w1 fun e w' => CanonicalOut X r w1 w' e) := canonical_any X a c r w1 (HS.out.1.belowB HB1.out) HS.out.2 hR
    have HR : Hid (RightIs X r) := hR
    clear hR HC
    go_wp2_with fail
    refine Calls.mono HN.out ?_
    rintro e w2 ⟨g, rfl, hg, hgl, hb2⟩
    have HO : Hid (NumOut X r w w2 (.returned (.slice (some ⟨g, 0, none⟩) X.length X.length))) := ⟨fun _ => ⟨g, rfl, hg⟩, fun q => absurd HR.out q, HB1.out.trans (hb2.mono HB1.out.size)⟩
    clear HN hg hgl hb2
    go_wp2_with fail
    go_ret
    exact HO.out
  · have HO : Hid (NumOut X r w w1 (.returned (.slice none 0 0))) := ⟨fun q => absurd (HC.out.right.2 q) hn, fun _ => rfl, HB1.out⟩
    go_wp2_with fail
    go_ret
    exact HO.out

/-- Is a scene canonical? -/
def IsCan (X : List Nx) (r : Int) : Prop := RightIs X r ∧ ∀ i, i < X.length → (oX X r).idxOf i = i
def IsOut (X : List Nx) (r : Int) (w w' : World) (e : Ending) : Prop := ∃ b, e = .returned (.bool b) ∧ (b = true ↔ IsCan X r) ∧ Below w.heap.size w w'

set_option maxRecDepth 10000 in
set_option maxHeartbeats 400000 in
theorem is_any (X : List Nx) (a : Option Addr) (c : Nat) (r : Int) (w : World) (h : ScAt w a X) (hX : Small X) :
    Calls Tryd.prog 20 #[.agg #[.slice a X.length c, .int .i64 r]] w fun e w' => IsOut X r w w' e := by
  have hl := hX.1
  have HS : Hid (ScAt w a X ∧ Small X) := ⟨h, hX⟩
  have HL : Hid (∀ o : Obj, o = .cells #[.slice a X.length c, .int .i64 r] 24 → Below w.heap.size w (w.alloc o)) := by
    rintro _ rfl
    exact (Below.refl w.heap.size w).alloc (Nat.le_refl _) _
  clear h hX
  by_cases hR : RightIs X r
  · have HR : Hid (RightIs X r) := hR
    have hn1 : 1 ≤ X.length := by have := hR.root.2; omega
    clear hR
    go_enter Tryd.func20, Tryd.ntmps20
    go_wp2_with fail
    have h2 := HL.out _ rfl
    refine (numbers_any X a c r _ (HS.out.1.belowB h2) HS.out.2).mono ?_
    rintro e w1 ⟨ho, -, hb1⟩
    obtain ⟨g, rfl, hg⟩ := ho HR.out
    have HG : Hid (AtN 3 w1 g (zV X.length (fun i => ((oX X r).idxOf i : Int)))) := hg
    have HB1 : Hid (Below w.heap.size w w1) := h2.trans (hb1.mono h2.size)
    clear HL h2 hb1 hg ho
    go_wp2_with fail
    go_loopw [10] (fun iv wr => ∃ i : Nat, iv = .int .i64 i ∧ i ≤ X.length ∧ wr = w1 ∧ Hid (∀ k, k < i → (oX X r).idxOf k = k)) (fun iv _ => X.length - (intOf iv).toNat)
    case atStart => exact ⟨0, rfl, by omega, rfl, fun k hk => by omega⟩
    case round =>
      obtain ⟨i, rfl, hi, rfl, HI⟩ := hrel
      by_cases hlt : i < X.length
      · have hlt' : (i : Int) < X.length := by omega
        have d0 : wr.cell? ⟨g, i, none⟩ = some (.int .i64 ((oX X r).idxOf i : Int)) := by rw [HG.out.cell i, zV_at _ _ _ hlt]
        by_cases he : (oX X r).idxOf i = i
        · rw [he] at d0
          have HI2 : Hid (∀ k, k < i + 1 → (oX X r).idxOf k = k) := fun k hk => by
            by_cases e : k = i
            · rw [e]; exact he
            · exact HI.out k (by omega)
          clear he HI
          go_wp2_with fail
          go_roundw
          case rel => exact ⟨i + 1, by go_num, by omega, by trivial, HI2⟩
          case measure => simp [intOf]; omega
        · have HO : Hid (IsOut X r w wr (.returned (.bool false))) := ⟨false, rfl, ⟨fun q => by simp at q, fun q => absurd (q.2 i hlt) he⟩, HB1.out⟩
          have he' : ¬ ((oX X r).idxOf i : Int) = (i : Int) := by omega
          generalize (oX X r).idxOf i = q at *
          clear HI he
          go_wp2_with fail
          go_ret
          exact HO.out
      · have hlt' : ¬ (i : Int) < X.length := by omega
        have HO : Hid (IsOut X r w wr (.returned (.bool (decide (0 < X.length))))) := ⟨true, by rw [decide_eq_true (by omega)], ⟨fun _ => ⟨HR.out, fun k hk => HI.out k (by omega)⟩, fun _ => rfl⟩, HB1.out⟩
        clear HI
        go_wp2_with fail
        go_ret
        exact HO.out
  · have HR : Hid (¬ RightIs X r) := hR
    clear hR
    go_enter Tryd.func20, Tryd.ntmps20
    go_wp2_with fail
    have h2 := HL.out _ rfl
    refine (numbers_any X a c r _ (HS.out.1.belowB h2) HS.out.2).mono ?_
    rintro e w1 ⟨-, ho, hb1⟩
    obtain rfl := ho HR.out
    have HO : Hid (IsOut X r w w1 (.returned (.bool false))) := ⟨false, rfl, ⟨fun q => by simp at q, fun q => absurd q.1 HR.out⟩, h2.trans (hb1.mono h2.size)⟩
    clear HL h2 hb1 ho
    go_wp2_with fail
    go_loopw [10] (fun iv wr => iv = .int .i64 0 ∧ wr = w1) (fun iv _ => 0)
    case atStart => exact ⟨rfl, rfl⟩
    case round =>
      obtain ⟨rfl, rfl⟩ := hrel
      go_wp2_with fail
      go_ret
      exact HO.out

end Go.Proofs.YtcdpjaaiojpelaaDoor
