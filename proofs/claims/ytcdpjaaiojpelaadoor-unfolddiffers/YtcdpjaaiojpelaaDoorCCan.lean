/- The contract of the program's canonical: of each node its place in the canonical order. -/
import Derived.Test.YtcdpjaaiojpelaaDoorCPush
import Derived.Test.YtcdpjaaiojpelaaDoorCSame
namespace Go.Proofs.YtcdpjaaiojpelaaDoor
open Go.RowKit Go.Maps Go.WideMaps Go.Sort

/-- Numbers in a row. -/
def zV (n : Nat) (f : Nat → Int) : Array Value := ((List.range n).map fun x => Value.int .i64 (f x)).toArray
theorem zV_at (n : Nat) (f : Nat → Int) (k : Nat) (h : k < n) : (zV n f)[k]? = some (.int .i64 (f k)) := by simp [zV, h]
theorem zV_set (n : Nat) (f g : Nat → Int) (k : Nat) (v : Int) (h : ∀ i, g i = if i = k then v else f i) : (zV n f).setIfInBounds k (.int .i64 v) = zV n g := by
  apply Array.ext
  · simp [zV]
  · intro i h1 h2
    rw [Array.getElem_setIfInBounds (by simpa using h1)]
    simp only [zV, List.getElem_toArray, List.getElem_map, List.getElem_range, h i]
    by_cases e : k = i
    · simp [e]
    · rw [if_neg e, if_neg (fun q => e q.symm)]
theorem zV_same (n : Nat) (z : Int) : (List.replicate n (Value.int .i64 z)).toArray = zV n (fun _ => z) := by
  unfold zV
  congr 1
  refine List.ext_getElem (by simp) (fun i h1 h2 => by simp)
theorem zV_congr (n : Nat) {f g : Nat → Int} (h : ∀ i, i < n → f i = g i) : zV n f = zV n g := by
  unfold zV
  congr 1
  refine List.map_congr_left fun i hi => ?_
  rw [h i (List.mem_range.1 hi)]

/-- A scene that is right, as a graph. -/
theorem RightIs.dag {X : List Nx} {r : Int} (h : RightIs X r) : Dag (kX X) := ⟨kX_ok h.2.1, h.2.2.1⟩
theorem RightIs.root {X : List Nx} {r : Int} (h : RightIs X r) : r = (r.toNat : Int) ∧ r.toNat < X.length := by
  have := isPb_iff.1 h.1
  omega
theorem RightIs.ord {X : List Nx} {r : Int} (h : RightIs X r) : Ord (kX X) r.toNat (ordO (kX X) r.toNat) := ordO_is h.dag (by rw [kX_length]; exact h.root.2) (fun x hx => h.2.2.2 x (by rwa [kX_length] at hx))
/-- The canonical order of a scene. -/
def oX (X : List Nx) (r : Int) : List Nat := ordO (kX X) r.toNat

def CanonicalOut (X : List Nx) (r : Int) (w w' : World) (e : Ending) : Prop := ∃ g, e = .returned (.slice (some ⟨g, 0, none⟩) X.length X.length) ∧ AtN 3 w' g (zV X.length (fun i => ((oX X r).idxOf i : Int))) ∧ w.heap.size ≤ g ∧ Below w.heap.size w w'

theorem own_ne_atB {w : World} {B r n c g : Nat} {e T : TypeId} {size : Nat} {xs : List Value} {cs : Array Value} (h : w.ownsRow B e size (.slice (some ⟨r, 0, none⟩) n c) n xs) (ha : AtN T w g cs) (he : e ≠ T) : r ≠ g := fun q => own_ne_at h ha he r rfl q
theorem Met.ne_at {w : World} {g n h : Nat} {M : List Nat} {T : TypeId} {cs : Array Value} (hm : Met w g n M) (ha : AtN T w h cs) : g ≠ h := by
  rintro rfl
  obtain ⟨D, ⟨es, clock, h2, _⟩, _⟩ := hm
  have : w.heap[g]? = _ := ha
  rw [this] at h2
  cases h2

set_option maxRecDepth 10000 in
set_option maxHeartbeats 2000000 in
theorem canonical_any (X : List Nx) (a : Option Addr) (c : Nat) (r : Int) (w : World) (h : ScAt w a X) (hX : Small X) (hR : RightIs X r) :
    Calls Tryd.prog 37 #[.agg #[.slice a X.length c, .int .i64 r]] w fun e w' => CanonicalOut X r w w' e := by
  have hn := hX.1
  have hr := hR.root
  obtain ⟨r0, hr0⟩ : ∃ r0, r.toNat = r0 := ⟨_, rfl⟩
  rw [hr0] at hr
  obtain ⟨hr, hrl⟩ := hr
  have Hr : Hid (r = (r0 : Int)) := hr
  clear hr
  have Hord : Hid (Ord (kX X) r0 (ordO (kX X) r0)) := by rw [← hr0]; exact hR.ord
  have HoX : Hid (oX X r = ordO (kX X) r0) := by unfold oX; rw [hr0]; rfl
  obtain ⟨rk, hrk⟩ := hR.dag.rank
  have HS : Hid (ScAt w a X ∧ Small X ∧ (∀ i, i < X.length → okAt X i) ∧ Dag (kX X) ∧ Rank (kX X) rk) := ⟨h, hX, hR.2.1, hR.dag, hrk⟩
  have hn1 : 1 ≤ X.length := by omega
  clear h hX hR hrk hr0
  have HA : Hid (∀ (o1 o2 : Obj), o1 = .cells #[.slice a X.length c, .int .i64 r] 24 → o2 = .cells #[.int .i64 (-1)] 3 → AtN 24 ((w.alloc o1).alloc o2) w.heap.size #[.slice a X.length c, .int .i64 r] ∧ LsAt ((w.alloc o1).alloc o2) (some ⟨w.heap.size + 1, 0, none⟩) [.int .i64 (-1)] ∧ Below w.heap.size w ((w.alloc o1).alloc o2) ∧ ((w.alloc o1).alloc o2).heap.size = w.heap.size + 2) := by
    rintro _ _ rfl rfl
    exact ⟨(AtN.new w 24 _).alloc _, (mk_at (AtN.new (w.alloc _) 3 #[.int .i64 (-1)]) (show _ = w.heap.size + 1 by simp)).lsQ (vs := [.int .i64 (-1)]).toAt, ((Below.refl w.heap.size w).alloc (Nat.le_refl _) _).alloc (by simp) _, by simp⟩
  go_enter Tryd.func37, Tryd.ntmps37
  go_wp2_with fail
  obtain ⟨h1, h2, h3, h4⟩ := HA.out _ _ rfl rfl
  refine (repeat_any ⟨w.heap.size + 1, 0, none⟩ 1 (-1) X.length hn1 hn _ h2).mono ?_
  rintro e w2 ⟨gp, rfl, hp2, hgp, hb2⟩
  rw [h4] at hgp
  have HA2 : Hid (AtN 24 w2 w.heap.size #[.slice a X.length c, .int .i64 r]) := h1.belowAll hb2
  have HP2 : Hid (AtN 3 w2 gp (zV X.length (plZ []))) := by
    rw [zV_same, zV_congr X.length (g := plZ []) (fun i _ => by simp [plZ])] at hp2
    exact hp2
  have HB2 : Hid (Below w.heap.size w w2) := h3.trans (hb2.mono (by rw [h4]; omega))
  have hs2 : w.heap.size + 2 ≤ w2.heap.size := by have := hb2.size; rw [h4] at this; exact this
  clear HA h1 h2 h3 h4 hp2 hb2
  have x0 : w2.cell? ⟨w.heap.size, 0, none⟩ = some (.slice a X.length c) := HA2.out.cell 0
  have x1 : ∀ o, (w2.alloc o).cell? ⟨w.heap.size, 1, none⟩ = some (.int .i64 r) := fun o => (HA2.out.alloc o).cell 1
  have hgpl := HP2.out.lt
  have HC : Hid (∀ (o1 o2 : Obj), o1 = .map #[] 0 → o2 = .cells #[.int .i64 r] 3 → AtN 24 ((w2.alloc o1).alloc o2) w.heap.size #[.slice a X.length c, .int .i64 r] ∧ AtN 3 ((w2.alloc o1).alloc o2) gp (zV X.length (plZ [])) ∧ Met ((w2.alloc o1).alloc o2) w2.heap.size 0 [] ∧ ((w2.alloc o1).alloc o2).ownsRow w.heap.size 3 1 (.slice (some ⟨w2.heap.size + 1, 0, none⟩) (stk [(r0, false)]).length 1) (stk [(r0, false)]).length (nV (stk [(r0, false)])) ∧ Below w.heap.size w ((w2.alloc o1).alloc o2)) := by
    rintro _ _ rfl rfl
    refine ⟨(HA2.out.alloc _).alloc _, (HP2.out.alloc _).alloc _, (Met.made w2).below ((Below.refl _ _).alloc (Nat.le_refl _) _), ?_, (HB2.out.alloc HB2.out.size _).alloc (by have := HB2.out.size; simp; omega) _⟩
    have := World.ownsRow_lit (base := w.heap.size) (e := 3) (size := 1) (w2.alloc (.map #[] 0)) #[.int .i64 r] 1 (by have := HB2.out.size; simp; omega) (by decide) (by simp)
    have e : nV (stk [(r0, false)]) = [.int .i64 r] := by rw [Hr.out]; rfl
    rw [e]
    rw [show (w2.alloc (.map #[] 0)).heap.size = w2.heap.size + 1 by simp] at this
    exact this
  clear HA2 HP2 HB2
  have hmm := run_makeMapN (X.length : Int)
  go_wp2_with fail
  clear hmm
  go_loopg [5, 6] ((X.length - 0) * 301 + 1) (fun m pv av wr => ∃ (T : List (Nat × Bool)) (order met : List Nat) (r1 c1 : Nat), pv = .int .i64 (order.length : Int) ∧ av = .slice (some ⟨r1, 0, none⟩) T.length c1 ∧ Hid (m = (X.length - met.length) * 301 + T.length) ∧ Hid (SInv (kX X) rk r0 T order met) ∧ Hid (wr.ownsRow w.heap.size 3 1 (.slice (some ⟨r1, 0, none⟩) T.length c1) T.length (nV (stk T))) ∧ r1 ≠ gp ∧ Hid (Met wr w2.heap.size met.length met) ∧ Hid (AtN 3 wr gp (zV X.length (plZ order))) ∧ Hid (AtN 24 wr w.heap.size #[.slice a X.length c, .int .i64 r]) ∧ Hid (Below w.heap.size w wr))
  case atStart =>
    obtain ⟨h1, h2, h3, h4, h5⟩ := HC.out _ _ rfl rfl
    exact ⟨[(r0, false)], [], [], w2.heap.size + 1, 1, rfl, rfl, rfl, SInv.start (by rw [kX_length]; exact hrl), h4, by omega, h3, h2, h1, h5⟩
  case round =>
    clear HC x0 x1
    obtain ⟨T, order, met, r1, c1, rfl, rfl, Hm, HI, HO, hrg, HM, HP, HA, HB⟩ := hrel
    have hml : met.length ≤ X.length := by have := HI.out.metl; rwa [kX_length] at this
    have hol := HI.out.ordl
    cases T with
    | nil =>
      have HR : Hid (CanonicalOut X r w wr (.returned (.slice (some ⟨gp, 0, none⟩) X.length X.length))) := by
        have he : order = ordO (kX X) r0 := HI.out.fin
        refine ⟨gp, rfl, ?_, by omega, HB.out⟩
        have h0 := HP.out
        rw [he] at h0
        rw [HoX.out, ← zV_congr X.length (f := plZ (ordO (kX X) r0)) (fun i hi => plZ_in (Hord.out.all i (by rw [kX_length]; exact hi)))]
        exact h0
      clear Hm HI HO HM HP HA HB
      go_wp2_with fail
      go_ret
      exact HR.out
    | cons p T =>
      obtain ⟨x, b⟩ := p
      have hTl : T.length ≤ 20000 := by have := HI.out.len; simp only [List.length_cons] at this; omega
      have hxl : x < X.length := by have := HI.out.tl (x, b) (by simp); rwa [kX_length] at this
      have hxl' : (x : Int) < X.length := by omega
      rw [List.length_cons] at *
      have ho := HO.out
      rw [stk_cons] at ho
      have d0 : wr.cell? ⟨r1, T.length, none⟩ = some (.int .i64 (x : Int)) := by
        rw [ho.cellAt _ (by omega), nV_snoc, List.getElem?_append_right (by rw [nV_length, stk_length]; omega), nV_length, stk_length, Nat.sub_self]
        rfl
      have hc1 : T.length + 1 ≤ c1 := by
        rcases ho.2 with ⟨h0, _⟩ | ⟨g', cap, cur, hv, _, _, h4, _⟩
        · cases h0
        · cases hv; exact h4
      have hr1 : w.heap.size ≤ r1 := (ho.lt r1 rfl).1
      have hrm : r1 ≠ w2.heap.size := own_ne_met ho HM.out
      have hra : r1 ≠ w.heap.size := own_ne_atB ho HA.out (by decide)
      have hma : w2.heap.size ≠ w.heap.size := by omega
      have x0 : wr.cell? ⟨w.heap.size, 0, none⟩ = some (.slice a X.length c) := HA.out.cell 0
      have p0 : wr.cell? ⟨gp, x, none⟩ = some (.int .i64 (plZ order x)) := by rw [HP.out.cell x, zV_at _ _ _ hxl]
      have pf := HP.out.fz x
      have HO1 : Hid (wr.ownsRow w.heap.size 3 1 (.slice (some ⟨r1, 0, none⟩) (T.length + 1) c1) (T.length + 1) (nV (stk T ++ [x]))) := ho
      clear ho HO
      by_cases hin : x ∈ met
      · have hlk := HM.out.look x (by omega)
        rw [decide_eq_true hin] at hlk
        have HOp : Hid (wr.ownsRow w.heap.size 3 1 (.slice (some ⟨r1, 0, none⟩) T.length c1) T.length (nV (stk T))) := by
          have := HO1.out
          rw [nV_snoc] at this
          exact ownsRow_pop (by rw [nV_length, stk_length]; omega) this
        by_cases hpl : x ∈ order
        · have hpz : plZ order x = (order.idxOf x : Int) := plZ_in hpl
          have hne : ¬ (order.idxOf x : Int) = -1 := by omega
          rw [hpz] at p0
          have HI2 : Hid (SInv (kX X) rk r0 T order met) := HI.out.pop HS.out.2.2.2.1 hpl
          have Hm2 : Hid ((X.length - met.length) * 301 + T.length < gk) := by rw [Hm.out]; show _ < _; omega
          clear hpz HI Hm hin hpl HO1
          generalize order.idxOf x = ix at *
          go_wp2_with fail
          go_roundg ((X.length - met.length) * 301 + T.length)
          case measure => exact Hm2.out
          case rel => exact ⟨T, order, met, r1, c1, rfl, rfl, rfl, HI2, HOp, hrg, HM, HP, HA, HB⟩
        · have hpz : plZ order x = -1 := plZ_out hpl
          rw [hpz] at p0
          have HI2 : Hid (SInv (kX X) rk r0 T (order ++ [x]) met) := HI.out.place hin hpl
          have Hm2 : Hid ((X.length - met.length) * 301 + T.length < gk) := by rw [Hm.out]; show _ < _; omega
          have HPs : Hid (AtN 3 (wr.setCell ⟨gp, x, none⟩ (.int .i64 (order.length : Int))) gp (zV X.length (plZ (order ++ [x])))) := by
            have := AtN.set HP.out x (.int .i64 (order.length : Int))
            rw [zV_set X.length _ (plZ (order ++ [x])) x _ (fun i => plZ_snoc hpl i)] at this
            exact this
          have HF : Hid (Fr (fun q => q = gp) wr (wr.setCell ⟨gp, x, none⟩ (.int .i64 (order.length : Int)))) := (Fr.refl (fun q => q = gp) wr).set ⟨gp, x, none⟩ rfl _
          have HO2 : Hid ((wr.setCell ⟨gp, x, none⟩ (.int .i64 (order.length : Int))).ownsRow w.heap.size 3 1 (.slice (some ⟨r1, 0, none⟩) T.length c1) T.length (nV (stk T))) := own_fr HOp.out HF.out (fun q hq => by simp [Value.ownBlock] at hq; omega)
          have HM2 : Hid (Met (wr.setCell ⟨gp, x, none⟩ (.int .i64 (order.length : Int))) w2.heap.size met.length met) := HM.out.fr HF.out (by omega)
          have HA2 : Hid (AtN 24 (wr.setCell ⟨gp, x, none⟩ (.int .i64 (order.length : Int))) w.heap.size #[.slice a X.length c, .int .i64 r]) := HA.out.fr HF.out (by omega)
          have HB2 : Hid (Below w.heap.size w (wr.setCell ⟨gp, x, none⟩ (.int .i64 (order.length : Int)))) := set_below HB.out _ (by show w.heap.size ≤ gp; omega) _
          clear hpz HI Hm hin hpl HO1 HOp HM HA HB HP HF
          go_wp2_with fail
          go_roundg ((X.length - met.length) * 301 + T.length)
          case measure => exact Hm2.out
          case rel => exact ⟨T, order ++ [x], met, r1, c1, by simp, rfl, rfl, HI2, HO2, hrg, HM2, HPs, HA2, HB2⟩
      · have hlk := HM.out.look x (by omega)
        rw [decide_eq_false hin] at hlk
        have hkl : (X.getD x noNx).nd.kids.length ≤ 300 := HS.out.2.1.kids hxl
        have hkx : (kX X).getD x [] = (X.getD x noNx).nd.kids.map Int.toNat := kX_at X x hxl
        obtain ⟨hI2, hmm⟩ := HI.out.open_ HS.out.2.2.2.1 HS.out.2.2.2.2 hin (by rw [hkx]; simpa using hkl)
        rw [kX_length] at hmm
        obtain ⟨w3, hup, hm3, hg3⟩ := HM.out.put x (by omega) (by unfold maxLen; omega)
        have hF3 : Fr (fun q => q = w2.heap.size) wr w3 := Fr.of_grown (S := fun q => q = w2.heap.size) hg3 (fun z e => (Option.some.inj e).symm)
        have HB3 : Hid (Below w.heap.size w w3) := Fr.below HB.out hF3 (fun z e => by omega) HB.out.size
        have hsc := ScAt.belowB HS.out.1 HB3.out
        obtain ⟨gb, ob, rfl, hgb, q0, q1, q2, q3⟩ := HS.out.1.node hxl
        have q3' : w3.cell? ⟨gb, ob + x * 4 + 3, none⟩ = some (.slice (X.getD x noNx).a3 (X.getD x noNx).nd.kids.length (X.getD x noNx).c3) := (HB3.out.cell (p := ⟨gb, ob + x * 4 + 3, none⟩) hgb).trans q3
        have x0' : w3.cell? ⟨w.heap.size, 0, none⟩ = some (.slice (some ⟨gb, ob, none⟩) X.length c) := (HA.out.fr hF3 (by omega)).cell 0
        have HL3 : Hid (LsQ (fun q => q < w.heap.size) w3 (X.getD x noNx).a3 (nV ((kX X).getD x []))) := by
          have h0 := (HS.out.1.each x hxl).k.toQ
          have h1 : LsQ (fun q => q < w.heap.size) w3 (X.getD x noNx).a3 (iV (X.getD x noNx).nd.kids) := by
            obtain ⟨b, o, k1, k2⟩ := h0
            exact ⟨b, o, k1, fun i hi => ⟨⟨(k2 i hi).1.1, Nat.lt_of_lt_of_le (k2 i hi).1.2 HB3.out.size⟩, (HB3.out.cell (p := ⟨b, o + i, none⟩) (k2 i hi).1.1).trans (k2 i hi).2⟩⟩
          rw [hkx, nV_toNat (n := X.length) _ (HS.out.2.2.1 x hxl)]
          exact h1
        have HO3 : Hid (w3.ownsRow w.heap.size 3 1 (.slice (some ⟨r1, 0, none⟩) (stk T ++ [x]).length c1) (stk T ++ [x]).length (nV (stk T ++ [x]))) := by
          have := own_fr HO1.out hF3 (fun q hq => by simp [Value.ownBlock] at hq; omega)
          rw [show (stk T ++ [x]).length = T.length + 1 by simp [stk_length]]
          exact this
        have HP3 : Hid (AtN 3 w3 gp (zV X.length (plZ order))) := HP.out.fr hF3 (by have := HM.out.ne_at HP.out; omega)
        have HA3 : Hid (AtN 24 w3 w.heap.size #[.slice (some ⟨gb, ob, none⟩) X.length c, .int .i64 r]) := HA.out.fr hF3 (by omega)
        have HM3 : Hid (Met w3 w2.heap.size (met ++ [x]).length (met ++ [x])) := by rw [List.length_append]; exact hm3
        have HI3 : Hid (SInv (kX X) rk r0 (((kX X).getD x []).map (fun k => (k, false)) ++ (x, true) :: T) order (met ++ [x])) := hI2
        have hlen3 : (((kX X).getD x []).map (fun k => (k, false)) ++ (x, true) :: T).length = T.length + 1 + (X.getD x noNx).nd.kids.length := by rw [hkx]; simp; omega
        have Hm3 : Hid ((X.length - (met ++ [x]).length) * 301 + (((kX X).getD x []).map (fun k => (k, false)) ++ (x, true) :: T).length < gk) := by
          rw [Hm.out, hlen3, List.length_append, List.length_singleton]
          show _ < _
          rw [show X.length - met.length = (X.length - (met.length + 1)) + 1 by omega, Nat.add_mul]
          omega
        have hkl2 : ((kX X).getD x []).length = (X.getD x noNx).nd.kids.length := by rw [hkx]; simp
        have HSt : Hid (stk T ++ [x] ++ ((kX X).getD x []).reverse = stk (((kX X).getD x []).map (fun k => (k, false)) ++ (x, true) :: T)) := (stk_push x _ T).symm
        have hst1 : (stk T ++ [x]).length = T.length + 1 := by simp [stk_length]
        have hPC := pushkids_any (stk T ++ [x]) ((kX X).getD x []) (X.getD x noNx).a3 c1 (X.getD x noNx).c3 w.heap.size r1 w3 HB3.out.size HO3.out HL3.out (by omega) (by omega)
        rw [hst1, hkl2] at hPC
        have HPC : Hid _ := hPC
        clear hPC hsc HO1 HM HP HA HB HI Hm hin hm3 hg3 hI2 HL3 HO3 q0 q1 q2 q3 hF3 hkx
        generalize (kX X).getD x [] = ks at *
        generalize X.getD x noNx = N at *
        go_wp2_with fail
        refine Calls.mono HPC.out ?_
        rintro e w4 ⟨r4, c4, rfl, hO4, hr4, hF4⟩
        rw [HSt.out, stk_length] at hO4 ⊢
        have hs3 := HB3.out.size
        have HO4 : Hid _ := hO4
        have hg4 : r4 ≠ gp := by have := HP3.out.lt; omega
        have HM4 : Hid (Met w4 w2.heap.size (met ++ [x]).length (met ++ [x])) := HM3.out.fr hF4 (by omega)
        have HP4 : Hid (AtN 3 w4 gp (zV X.length (plZ order))) := HP3.out.fr hF4 (by omega)
        have HA4 : Hid (AtN 24 w4 w.heap.size #[.slice (some ⟨gb, ob, none⟩) X.length c, .int .i64 r]) := HA3.out.fr hF4 (by omega)
        have HB4 : Hid (Below w.heap.size w w4) := Fr.below HB3.out hF4 (fun z e => by omega) HB3.out.size
        clear HPC hO4 hF4 HM3 HP3 HA3 HB3
        generalize ks.map (fun k => (k, false)) ++ (x, true) :: T = T2 at *
        go_wp2_with fail
        go_roundg ((X.length - (met ++ [x]).length) * 301 + T2.length)
        case measure => exact Hm3.out
        case rel => exact ⟨T2, order, met ++ [x], r4, c4, rfl, by rw [hlen3], rfl, HI3, HO4, hg4, HM4, HP4, HA4, HB4⟩

end Go.Proofs.YtcdpjaaiojpelaaDoor
