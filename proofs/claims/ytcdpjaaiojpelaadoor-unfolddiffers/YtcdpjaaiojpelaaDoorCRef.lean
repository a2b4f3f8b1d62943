/- The contracts of ref's Find, meet and Order. -/
import Derived.Test.YtcdpjaaiojpelaaDoorCCn
namespace Go.Proofs.YtcdpjaaiojpelaaDoor
open Go.RowKit Go.Maps Go.WideMaps Go.Sort

theorem idx_first {L : List Nat} {m i : Nat} (hi : i < L.length) (he : L.getD i 0 = m) (hb : ∀ j, j < i → L.getD j 0 ≠ m) : m ∈ L ∧ L.idxOf m = i := by
  induction L generalizing i with
  | nil => simp at hi
  | cons y r ih =>
    cases i with
    | zero =>
      have : y = m := by simpa using he
      subst this
      simp
    | succ i =>
      have hy : y ≠ m := by simpa using hb 0 (by omega)
      obtain ⟨h1, h2⟩ := ih (i := i) (by simpa using hi) (by simpa using he) (fun j hj => by simpa using hb (j + 1) (by omega))
      refine ⟨by simp [h1], ?_⟩
      rw [List.idxOf_cons, beq_eq_false_iff_ne.2 hy, h2]
      rfl

set_option maxRecDepth 10000 in
set_option maxHeartbeats 400000 in
theorem find_any (L : List Nat) (a : Option Addr) (c m : Nat) (w : World) (h : LsAt w a (nV L)) (hl : L.length ≤ 1000) :
    Calls Tryd.prog 41 #[.slice a L.length c, .int .i64 (m : Int)] w fun e w' => e = .returned (.int .i64 (plZ L m)) ∧ w' = w := by
  have HS : Hid (LsAt w a (nV L)) := h
  clear h
  go_enter Tryd.func41, Tryd.ntmps41
  go_wp2_with fail
  go_loopw [5] (fun iv wr => ∃ i : Nat, iv = .int .i64 i ∧ i ≤ L.length ∧ wr = w ∧ Hid (∀ j, j < i → L.getD j 0 ≠ m)) (fun iv _ => L.length - (intOf iv).toNat)
  case atStart => exact ⟨0, rfl, by omega, rfl, fun j hj => by omega⟩
  case round =>
    obtain ⟨i, rfl, hi, rfl, HI⟩ := hrel
    by_cases hlt : i < L.length
    · have hlt' : (i : Int) < L.length := by omega
      obtain ⟨b, o, rfl, hb, d0⟩ := LsAt.at HS.out (nV_at L i hlt)
      by_cases he : L.getD i 0 = m
      · have HV : Hid (plZ L m = (i : Int)) := by
          obtain ⟨h1, h2⟩ := idx_first hlt he HI.out
          show plZ L m = (i : Int)
          rw [plZ_in h1, h2]
        rw [he] at d0
        clear he HI
        go_wp2_with fail
        go_ret
        exact ⟨by rw [HV.out]; rfl, rfl⟩
      · have he' : ¬ ((L.getD i 0 : Nat) : Int) = (m : Int) := by omega
        have HI2 : Hid (∀ j, j < i + 1 → L.getD j 0 ≠ m) := fun j hj => by
          by_cases e : j = i
          · rw [e]; exact he
          · exact HI.out j (by omega)
        clear he HI
        generalize L.getD i 0 = q at *
        go_wp2_with fail
        go_roundw
        case rel => exact ⟨i + 1, by go_num, by omega, by trivial, HI2⟩
        case measure => simp [intOf]; omega
    · have hlt' : ¬ (i : Int) < L.length := by omega
      have HV : Hid (plZ L m = -1) := by
        refine plZ_out fun q => ?_
        obtain ⟨j, hj, e⟩ := List.getElem_of_mem q
        exact HI.out j (by omega) (by rw [List.getD_eq_getElem?_getD, List.getElem?_eq_getElem hj]; exact e)
      clear HI
      go_wp2_with fail
      go_ret
      exact ⟨by rw [HV.out]; rfl, rfl⟩

/-- What meet answers. -/
def MeetOut (X : List Nx) (M : List Nat) (x : Nat) (w w' : World) (e : Ending) : Prop := ∃ a c, e = .returned (.slice a (meetO (kX X) M x).length c) ∧ LsAt w' a (nV (meetO (kX X) M x)) ∧ Below w.heap.size w w'

/-- The facts of a round of meet. -/
def mtF (X : List Nx) (b o c : Nat) (r : Int) (g x k kd b3 o3 : Nat) (N : Nx) (am : Option Addr) (cm : Nat) (M : List Nat) : Nat → Value → World → Prop
  | 0, v, _ => v = .agg #[.slice (some ⟨b, o, none⟩) X.length c, .int .i64 r]
  | 1, v, _ => v = .pointer (some ⟨g, 0, none⟩)
  | 2, v, _ => v = .slice (some ⟨b, o, none⟩) X.length c
  | 3, v, _ => v = .int .i64 (x : Int)
  | 4, v, _ => v = .pointer (some ⟨b, o + x * 4, none⟩)
  | 5, v, _ => v = .pointer (some ⟨b, o + x * 4 + 3, none⟩)
  | 6, v, _ => v = .slice (some ⟨b3, o3, none⟩) N.nd.kids.length N.c3
  | 7, v, _ => v = .int .i64 (k : Int)
  | 8, v, _ => v = .pointer (some ⟨b3, o3 + k, none⟩)
  | 9, v, _ => v = .int .i64 (kd : Int)
  | 10, v, _ => v = .slice am M.length cm
  | 11, v, W | 12, v, W => ∃ a' c', v = .slice a' (meetO (kX X) M kd).length c' ∧ LsAt W a' (nV (meetO (kX X) M kd))
  | _, _, _ => True
theorem mtF_below {X : List Nx} {b o c : Nat} {r : Int} {g x k kd b3 o3 : Nat} {N : Nx} {am : Option Addr} {cm : Nat} {M : List Nat} {W W' : World} (hb : Below W.heap.size W W') : ∀ j u, 11 ≠ j → mtF X b o c r g x k kd b3 o3 N am cm M j u W → mtF X b o c r g x k kd b3 o3 N am cm M j u W' := by
  intro j u hj h
  match j, h with
  | 0, h | 1, h | 2, h | 3, h | 4, h | 5, h | 6, h | 7, h | 8, h | 9, h | 10, h => exact h
  | 11, _ => exact absurd rfl hj
  | 12, h =>
    obtain ⟨a', c', h1, h2⟩ := h
    exact ⟨a', c', h1, h2.belowB hb⟩
  | q + 13, _ => trivial

theorem getD_toNat10 (l : List Int) (k : Nat) (h : k < l.length) : (l.map Int.toNat).getD k 0 = (l.getD k 0).toNat := by simp [h]
theorem Good.len {K : List (List Nat)} {M : List Nat} (h : Good K M) : M.length ≤ K.length := nodup_le _ _ h.nd h.lt
theorem take_fold {K : List (List Nat)} {M : List Nat} {l : List Nat} {k : Nat} (hk : k < l.length) : (l.take (k + 1)).foldl (meetO K) M = meetO K ((l.take k).foldl (meetO K) M) (l.getD k 0) := by
  rw [take_at hk, List.foldl_append]
  rfl

set_option maxRecDepth 10000 in
set_option maxHeartbeats 2000000 in
theorem meet_any (X : List Nx) (a : Option Addr) (c : Nat) (r : Int) (hX : Small X) (hok : ∀ i, i < X.length → okAt X i) (hD : Dag (kX X)) (rk : Nat → Nat) (hR : Rank (kX X) rk) :
    ∀ (m x : Nat) (M : List Nat) (am : Option Addr) (cm : Nat) (w : World), rk x ≤ m → x < X.length → Good (kX X) M → ScAt w a X → LsAt w am (nV M) →
    Calls Tryd.prog 51 #[.agg #[.slice a X.length c, .int .i64 r], .int .i64 (x : Int), .slice am M.length cm] w fun e w' => MeetOut X M x w w' e := by
  intro m
  induction m with
  | zero =>
    intro x M am cm w hm hx
    have := (hR.2 x (by rw [kX_length]; exact hx)).1
    omega
  | succ m ih =>
    intro x M am cm w hm hx hM h hl
    obtain ⟨i0, hi, hz0, hz1, hz2⟩ := info_parts Tryd.infoI7
    have hn := hX.1
    have hML := hM.len
    rw [kX_length] at hML
    have hxK : x < (kX X).length := by rw [kX_length]; exact hx
    have HS : Hid (ScAt w a X ∧ Small X ∧ LsAt w am (nV M)) := ⟨h, hX, hl⟩
    have HV : Hid (meetO (kX X) M x = if x ∈ M then M else ((kX X).getD x []).foldl (meetO (kX X)) M ++ [x]) := meetO_is hD M x hxK
    have HIH : Hid (∀ (k : Nat) (M2 : List Nat) (am2 : Option Addr) (cm2 : Nat) (W : World), Ed (kX X) x k → Good (kX X) M2 → ScAt W a X → LsAt W am2 (nV M2) → Calls Tryd.prog 51 #[.agg #[.slice a X.length c, .int .i64 r], .int .i64 (k : Int), .slice am2 M2.length cm2] W fun e w' => MeetOut X M2 k W w' e) := fun k M2 am2 cm2 W hk hM2 hs hl2 => by
      have h1 := hR.1 x k hk
      have h2 := hD.1 x k hk
      rw [kX_length] at h2
      exact ih k M2 am2 cm2 W (by omega) h2 hM2 hs hl2
    have HG : Hid (∀ k, k ≤ ((kX X).getD x []).length → Good (kX X) ((((kX X).getD x []).take k).foldl (meetO (kX X)) M)) := fun k => by
      induction k with
      | zero => intro _; exact hM
      | succ k ihk =>
        intro hk
        rw [take_fold (by omega)]
        have e : Ed (kX X) x (((kX X).getD x []).getD k 0) := getD_mem (by omega)
        exact (meetO_good hD hR _ _ _ (Nat.le_refl _) (hD.1 _ _ e) (ihk (by omega))).good
    have HB0 : Hid (∀ o : Obj, Below w.heap.size w (w.alloc o)) := fun o => (Below.refl w.heap.size w).alloc (Nat.le_refl _) o
    have HA0 : Hid (AtN 24 (w.alloc (.cells #[.slice a X.length c, .int .i64 r] 24)) w.heap.size #[.slice a X.length c, .int .i64 r]) := AtN.new w 24 _
    have hkl := hX.kids hx
    have Hks : Hid ((kX X).getD x [] = (X.getD x noNx).nd.kids.map Int.toNat ∧ ∀ j, j < (X.getD x noNx).nd.kids.length → isPb X.length ((X.getD x noNx).nd.kids.getD j 0) = true) := ⟨kX_at X x hx, hok x hx⟩
    clear ih h hl hX hok hD hR hM hm hxK
    have hx' : (x : Int) < X.length := by omega
    go_enter Tryd.func51, Tryd.ntmps51
    go_wp2_with fail
    have HB1 : Hid (Below w.heap.size w (w.alloc (.cells #[.slice a X.length c, .int .i64 r] 24))) := HB0.out _
    clear HB0
    generalize w.alloc (.cells #[.slice a X.length c, .int .i64 r] 24) = w1 at *
    go_loopw [7] (fun iv wr => ∃ i : Nat, iv = .int .i64 i ∧ i ≤ M.length ∧ wr = w1 ∧ Hid (∀ j, j < i → M.getD j 0 ≠ x)) (fun iv _ => M.length - (intOf iv).toNat)
    case atStart => exact ⟨0, rfl, by omega, rfl, fun j hj => by omega⟩
    case round =>
      obtain ⟨i, rfl, hi', rfl, HI⟩ := hrel
      by_cases hlt : i < M.length
      · have hlt' : (i : Int) < M.length := by omega
        obtain ⟨b, o, rfl, hb, d0⟩ := LsAt.at (LsAt.belowB HS.out.2.2 HB1.out) (nV_at M i hlt)
        by_cases he : M.getD i 0 = x
        · have HO : Hid (MeetOut X M x w wr (.returned (.slice (some ⟨b, o, none⟩) M.length cm))) := by
            have hin : x ∈ M := by rw [← he]; exact getD_mem hlt
            have e := HV.out
            rw [if_pos hin] at e
            refine ⟨some ⟨b, o, none⟩, cm, by rw [e], ?_, HB1.out⟩
            rw [e]
            exact LsAt.belowB HS.out.2.2 HB1.out
          rw [he] at d0
          clear he HI HV HIH HG HA0
          go_wp2_with fail
          go_ret
          exact HO.out
        · have he' : ¬ ((M.getD i 0 : Nat) : Int) = (x : Int) := by omega
          have HI2 : Hid (∀ j, j < i + 1 → M.getD j 0 ≠ x) := fun j hj => by
            by_cases e : j = i
            · rw [e]; exact he
            · exact HI.out j (by omega)
          clear he HI
          generalize M.getD i 0 = q at *
          go_wp2_with fail
          go_roundw
          case rel => exact ⟨i + 1, by go_num, by omega, by trivial, HI2⟩
          case measure => simp [intOf]; omega
      · have hlt' : ¬ (i : Int) < M.length := by omega
        have HV2 : Hid (meetO (kX X) M x = ((kX X).getD x []).foldl (meetO (kX X)) M ++ [x]) := by
          have e := HV.out
          rw [if_neg (fun q => by
            obtain ⟨j, hj, e⟩ := List.getElem_of_mem q
            exact HI.out j (by omega) (by rw [List.getD_eq_getElem?_getD, List.getElem?_eq_getElem hj]; exact e))] at e
          exact e
        obtain ⟨b, o, rfl, hbl0, _⟩ := HS.out.1.node hx
        obtain ⟨w1, hw1⟩ : ∃ w1, w1 = wr := ⟨_, rfl⟩
        subst hw1
        have HL1 : Hid (LsAt w1 am (nV M)) := LsAt.belowB HS.out.2.2 HB1.out
        clear HI HV
        go_wp2_with fail
        go_loopw [2, 8] (fun mv kv wr => ∃ (k : Nat) (am2 : Option Addr) (cm2 : Nat), mv = .slice am2 ((((kX X).getD x []).take k).foldl (meetO (kX X)) M).length cm2 ∧ kv = .int .i64 (k : Int) ∧ k ≤ (X.getD x noNx).nd.kids.length ∧ Hid (LsAt wr am2 (nV ((((kX X).getD x []).take k).foldl (meetO (kX X)) M))) ∧ Hid (AtN 24 wr w.heap.size #[.slice (some ⟨b, o, none⟩) X.length c, .int .i64 r]) ∧ Hid (Below w.heap.size w wr)) (fun _ kv _ => (X.getD x noNx).nd.kids.length - (intOf kv).toNat)
        case atStart => exact ⟨0, am, cm, rfl, rfl, by omega, HL1, HA0, HB1⟩
        case round =>
          clear HL1 HA0 HB1
          obtain ⟨k, am, cm, rfl, rfl, hk, HL, HA, HB⟩ := hrel
          obtain ⟨b', o', hbo, hbl, _, _, _, d3⟩ := (ScAt.belowB HS.out.1 HB.out).node hx
          simp only [Option.some.injEq, Addr.mk.injEq, and_true] at hbo
          obtain ⟨rfl, rfl⟩ := hbo
          have x0 : wr.cell? ⟨w.heap.size, 0, none⟩ = some (.slice (some ⟨b, o, none⟩) X.length c) := HA.out.cell 0
          have x1 : wr.cell? ⟨w.heap.size, 1, none⟩ = some (.int .i64 r) := HA.out.cell 1
          have hg0 := HA.out.lt
          have hkx : ((kX X).getD x []).length = (X.getD x noNx).nd.kids.length := by rw [Hks.out.1]; simp
          by_cases hkl2 : k < (X.getD x noNx).nd.kids.length
          · have hkl' : (k : Int) < (X.getD x noNx).nd.kids.length := by omega
            obtain ⟨b3, o3, ea3, hb3, d4⟩ := ((ScAt.belowB HS.out.1 HB.out).each x hx).k.at (iV_at _ k hkl2)
            have hpb := isPb_iff.1 (Hks.out.2 k hkl2)
            have hkd : ((kX X).getD x []).getD k 0 = ((X.getD x noNx).nd.kids.getD k 0).toNat := by
              rw [Hks.out.1]
              exact getD_toNat10 _ k hkl2
            have hEd : Ed (kX X) x (((kX X).getD x []).getD k 0) := getD_mem (by omega)
            have hG2 := HG.out k (by omega)
            have HI2 : Hid (∀ W, Below wr.heap.size wr W → Calls Tryd.prog 51 #[.agg #[.slice (some ⟨b, o, none⟩) X.length c, .int .i64 r], .int .i64 ((((kX X).getD x []).getD k 0 : Nat) : Int), .slice am ((((kX X).getD x []).take k).foldl (meetO (kX X)) M).length cm] W fun e w' => MeetOut X ((((kX X).getD x []).take k).foldl (meetO (kX X)) M) (((kX X).getD x []).getD k 0) W w' e) := fun W hW => HIH.out _ _ am cm W hEd hG2 (ScAt.belowB HS.out.1 (HB.out.trans (hW.mono HB.out.size))) (HL.out.belowB hW)
            have H0 : Hid (∀ (W : World) (a' : Option Addr) (c' : Nat), Below wr.heap.size wr W → LsAt W a' (nV (meetO (kX X) ((((kX X).getD x []).take k).foldl (meetO (kX X)) M) (((kX X).getD x []).getD k 0))) → ∃ (k2 : Nat) (am2 : Option Addr) (cm2 : Nat), Value.slice a' (meetO (kX X) ((((kX X).getD x []).take k).foldl (meetO (kX X)) M) (((kX X).getD x []).getD k 0)).length c' = .slice am2 ((((kX X).getD x []).take k2).foldl (meetO (kX X)) M).length cm2 ∧ Value.int .i64 ((k : Int) + 1) = .int .i64 (k2 : Int) ∧ k2 ≤ (X.getD x noNx).nd.kids.length ∧ Hid (LsAt W am2 (nV ((((kX X).getD x []).take k2).foldl (meetO (kX X)) M))) ∧ Hid (AtN 24 W w.heap.size #[.slice (some ⟨b, o, none⟩) X.length c, .int .i64 r]) ∧ Hid (Below w.heap.size w W)) := fun W a' c' hW hl' => by
              have e := take_fold (K := kX X) (M := M) (l := (kX X).getD x []) (k := k) (by omega)
              rw [← e] at hl' ⊢
              exact ⟨k + 1, a', c', rfl, by simp, by omega, hl', HA.out.belowAll hW, HB.out.trans (hW.mono HB.out.size)⟩
            have hM2 : ((((kX X).getD x []).take k).foldl (meetO (kX X)) M).length ≤ 61 := by have := hG2.len; rw [kX_length] at this; omega
            rw [show (X.getD x noNx).nd.kids.getD k 0 = ((((kX X).getD x []).getD k 0 : Nat) : Int) by rw [hkd]; omega] at d4
            rw [ea3] at d3
            have hk3 : k ≤ 300 := by omega
            clear hpb hkd hEd hG2 HIH HG HL HA HB hkx ea3 HS Hks HV2 hkl
            generalize ((kX X).getD x []).getD k 0 = kd at *
            generalize (((kX X).getD x []).take k).foldl (meetO (kX X)) M = M2 at *
            generalize X.getD x noNx = N at *
            obtain ⟨W0, hW0⟩ : ∃ W0, W0 = wr := ⟨_, rfl⟩
            subst hW0
            go_wp2_with fail
            refine facts_region6 (fun W => Below W0.heap.size W0 W) (mtF X b o c r w.heap.size x k kd b3 o3 N am cm M2) (by kernel_rfl) (by kernel_rfl) (Below.refl _ _).drew ?step ?fin
            case step =>
              intro i' o' ho a W hG hoff hdep K hQ hK
              have x0W : W.cell? ⟨w.heap.size, 0, none⟩ = some (.slice (some ⟨b, o, none⟩) X.length c) := (hG.cell (p := ⟨w.heap.size, 0, none⟩) hg0).trans x0
              have x1W : W.cell? ⟨w.heap.size, 1, none⟩ = some (.int .i64 r) := (hG.cell (p := ⟨w.heap.size, 1, none⟩) hg0).trans x1
              have d3W : W.cell? ⟨b, o + x * 4 + 3, none⟩ = some (.slice (some ⟨b3, o3, none⟩) N.nd.kids.length N.c3) := (hG.cell (p := ⟨b, o + x * 4 + 3, none⟩) hbl).trans d3
              have d4W : W.cell? ⟨b3, o3 + k, none⟩ = some (.int .i64 (kd : Int)) := (hG.cell (p := ⟨b3, o3 + k, none⟩) hb3).trans d4
              rcases i' with _|_|_|_|_|_|_|_|_|_|_|_|_|i'
              · obtain rfl := Option.some.inj ho
                have t3 : a.tmps[3]?.getD undef = .pointer (some ⟨w.heap.size, 0, none⟩) := hoff 3 (by kernel_rfl)
                clear hdep hoff d3W d4W
                go_simp
                exact hQ _ (rfl)
              · obtain rfl := Option.some.inj ho
                have t3 : a.tmps[3]?.getD undef = .pointer (some ⟨w.heap.size, 0, none⟩) := hoff 3 (by kernel_rfl)
                clear hdep hoff x0W x1W d3W d4W
                go_simp
                exact hQ _ (rfl)
              · obtain rfl := Option.some.inj ho
                have e1 : a.tmps[34]?.getD undef = .pointer (some ⟨w.heap.size, 0, none⟩) := hdep 1 _ (by kernel_rfl) rfl
                clear hdep hoff x1W d3W d4W
                go_simp
                exact hQ _ (rfl)
              · obtain rfl := Option.some.inj ho
                have t1 : a.tmps[1]?.getD undef = .int .i64 (x : Int) := hoff 1 (by kernel_rfl)
                clear hdep hoff
                go_simp
                exact hQ _ (rfl)
              · obtain rfl := Option.some.inj ho
                have e2 : a.tmps[35]?.getD undef = .slice (some ⟨b, o, none⟩) X.length c := hdep 2 _ (by kernel_rfl) rfl
                have e3 : a.tmps[36]?.getD undef = .int .i64 (x : Int) := hdep 3 _ (by kernel_rfl) rfl
                clear hdep hoff x0W x1W d3W d4W
                go_simp
                exact hQ _ (rfl)
              · obtain rfl := Option.some.inj ho
                have e4 : a.tmps[37]?.getD undef = .pointer (some ⟨b, o + x * 4, none⟩) := hdep 4 _ (by kernel_rfl) rfl
                clear hdep hoff x0W x1W d3W d4W
                go_simp
                exact hQ _ (rfl)
              · obtain rfl := Option.some.inj ho
                have e5 : a.tmps[38]?.getD undef = .pointer (some ⟨b, o + x * 4 + 3, none⟩) := hdep 5 _ (by kernel_rfl) rfl
                clear hdep hoff x0W x1W d4W
                go_simp
                exact hQ _ (rfl)
              · obtain rfl := Option.some.inj ho
                have t8 : a.tmps[8]?.getD undef = .int .i64 (k : Int) := hoff 8 (by kernel_rfl)
                clear hdep hoff
                go_simp
                exact hQ _ (rfl)
              · obtain rfl := Option.some.inj ho
                have e6 : a.tmps[39]?.getD undef = .slice (some ⟨b3, o3, none⟩) N.nd.kids.length N.c3 := hdep 6 _ (by kernel_rfl) rfl
                have e7 : a.tmps[40]?.getD undef = .int .i64 (k : Int) := hdep 7 _ (by kernel_rfl) rfl
                clear hdep hoff x0W x1W d3W d4W
                go_simp
                exact hQ _ (rfl)
              · obtain rfl := Option.some.inj ho
                have e8 : a.tmps[41]?.getD undef = .pointer (some ⟨b3, o3 + k, none⟩) := hdep 8 _ (by kernel_rfl) rfl
                clear hdep hoff x0W x1W d3W
                go_simp
                exact hQ _ (rfl)
              · obtain rfl := Option.some.inj ho
                have t2 : a.tmps[2]?.getD undef = .slice am M2.length cm := hoff 2 (by kernel_rfl)
                clear hdep hoff
                go_simp
                exact hQ _ (rfl)
              · obtain rfl := Option.some.inj ho
                have e0 : a.tmps[33]?.getD undef = .agg #[.slice (some ⟨b, o, none⟩) X.length c, .int .i64 r] := hdep 0 _ (by kernel_rfl) rfl
                have e9 : a.tmps[42]?.getD undef = .int .i64 (kd : Int) := hdep 9 _ (by kernel_rfl) rfl
                have e10 : a.tmps[43]?.getD undef = .slice am M2.length cm := hdep 10 _ (by kernel_rfl) rfl
                clear hdep hoff
                have HC : Hid (Calls Tryd.prog 51 #[.agg #[.slice (some ⟨b, o, none⟩) X.length c, .int .i64 r], .int .i64 (kd : Int), .slice am M2.length cm] W fun e w' => MeetOut X M2 kd W w' e) := HI2.out W hG
                have HG : Hid (Below W0.heap.size W0 W) := hG
                clear hG x0W x1W d3W d4W
                go_simp
                refine Calls.mono HC.out ?_
                rintro e w' ⟨a', c', rfl, hl, hb⟩
                exact hK _ _ (HG.out.trans (hb.mono HG.out.size)) (mtF_below hb) ⟨a', c', rfl, hl⟩
              · obtain rfl := Option.some.inj ho
                have e11 : ∃ a' c', a.tmps[44]?.getD undef = .slice a' (meetO (kX X) M2 kd).length c' ∧ LsAt W a' (nV (meetO (kX X) M2 kd)) := hdep 11 _ (by kernel_rfl) rfl
                clear hdep hoff
                obtain ⟨a', c', ev, hl⟩ := e11
                have HL : Hid (LsAt W a' (nV (meetO (kX X) M2 kd))) := hl
                clear hl hG x0W x1W d3W d4W
                go_simp
                exact hQ _ ⟨a', c', rfl, HL.out⟩
              · exact absurd ho (by simp)
            case fin =>
              intro V W hG hF
              have y12 : ∃ a' c', V (some 2) = .slice a' (meetO (kX X) M2 kd).length c' ∧ LsAt W a' (nV (meetO (kX X) M2 kd)) := hF 12 _ rfl
              obtain ⟨a', c', ev, hl⟩ := y12
              have HN : Hid _ := H0.out W a' c' hG hl
              clear hF hG H0 hl
              simp only [fillA, Act.put, List.setIfInBounds_toArray, List.set_cons_zero, List.set_cons_succ, ev]
              generalize V (some 33) = z33
              generalize V (some 34) = z34
              generalize V (some 35) = z35
              generalize V (some 36) = z36
              generalize V (some 37) = z37
              generalize V (some 38) = z38
              generalize V (some 39) = z39
              generalize V (some 40) = z40
              generalize V (some 41) = z41
              generalize V (some 42) = z42
              generalize V (some 43) = z43
              generalize V (some 44) = z44
              clear ev
              generalize meetO (kX X) M2 kd = M3 at *
              go_wp2_with fail
              go_roundw
              case rel => exact HN.out
              case measure => simp [intOf]; omega
          · have hkl' : ¬ (k : Int) < (X.getD x noNx).nd.kids.length := by omega
            have HM2 : Hid ((((kX X).getD x []).take k).foldl (meetO (kX X)) M = ((kX X).getD x []).foldl (meetO (kX X)) M) := by
              show _ = _
              rw [List.take_of_length_le (by omega)]
            have hM2 : ((((kX X).getD x []).take k).foldl (meetO (kX X)) M).length ≤ 61 := by have := (HG.out k (by omega)).len; rw [kX_length] at this; omega
            clear HIH HG HA hkx Hks hkl
            generalize (((kX X).getD x []).take k).foldl (meetO (kX X)) M = M2 at *
            generalize X.getD x noNx = N at *
            have hsz := HB.out.size
            go_wp2_with (at_builtin; refine wpList_app9 rfl (.tmp 45) (.tmp 46) rfl wr.heap.size _ 0 [] rfl (World.ownsRow_lit wr #[] 0 (Nat.le_refl _) (by decide) (by simp)) am M2.length cm (nV M2) rfl (nV_length _) (LsAt.alloc HL.out _) (nV_cell _) (by omega) (by simp) ?_)
            intro v5 w5 hown5 hgrow5
            obtain ⟨a5, c5, rfl⟩ := own_shape7 hown5
            have HB5 : Hid (Below wr.heap.size wr w5) := ((Below.refl wr.heap.size wr).alloc (Nat.le_refl _) _).grown hgrow5 (by simp) (fun q hq => by simp [Value.ownBlock] at hq; omega)
            have hs5 := HB5.out.size
            have HO5 : Hid _ := hown5
            clear hown5 hgrow5 HL
            go_wp2_with (at_builtin; refine wpList_append_lies _ rfl (.tmp 47) (.tmp 49) 38 rfl wr.heap.size 3 i0 (.int .i64 0) 1 8 Tryd.underlying38 hi hz0 hz1 hz2 rfl (by decide) _ M2.length (nV M2) rfl (World.ownsRow.alloc (w := w5) HO5.out _) ⟨w5.heap.size, 0, none⟩ 1 1 [.int .i64 (x : Int)] rfl rfl (cell_one_new _ _ _) (by intro u hu; simp at hu; subst hu; rfl) (by decide) (by unfold maxLen; omega) (by omega) (by simp; omega) _ rfl ?_)
            intro g6 c6 w6 hown6 hgrow6 hlie hlt6
            have hrow : ∀ q, (Value.slice a5 M2.length c5).ownBlock = some q → wr.heap.size ≤ q := fun q hq => (World.ownsRow.lt HO5.out q hq).1
            have HO : Hid (MeetOut X M x w w6 (.returned (.slice (some ⟨g6, 0, none⟩) (M2.length + 1) c6))) := by
              have e : meetO (kX X) M x = M2 ++ [x] := by rw [HV2.out, ← HM2.out]
              refine ⟨some ⟨g6, 0, none⟩, c6, by rw [e]; simp, ?_, ?_⟩
              · rw [e, nV_snoc]
                exact LsAt.of_own hown6
              · exact (HB.out.trans ((HB5.out.alloc HB5.out.size _).mono hsz)).grown hgrow6 (by simp; omega) (fun q hq => Nat.le_trans hsz (hrow q hq))
            clear hown6 hgrow6 HB HB5 HO5 HV2 HM2
            go_wp2_with fail
            go_ret
            exact HO.out

def OrderOut (X : List Nx) (r : Int) (w w' : World) (e : Ending) : Prop := ∃ a c, e = .returned (.slice a (oX X r).length c) ∧ LsAt w' a (nV (oX X r)) ∧ Below w.heap.size w w'
set_option maxRecDepth 10000 in
set_option maxHeartbeats 400000 in
theorem order_any (X : List Nx) (a : Option Addr) (c : Nat) (r : Int) (w : World) (h : ScAt w a X) (hX : Small X) (hR : RightIs X r) :
    Calls Tryd.prog 40 #[.agg #[.slice a X.length c, .int .i64 r]] w fun e w' => OrderOut X r w w' e := by
  have HS : Hid (ScAt w a X ∧ Small X ∧ RightIs X r) := ⟨h, hX, hR⟩
  have HB : Hid (∀ o : Obj, Below w.heap.size w (w.alloc o)) := fun o => (Below.refl w.heap.size w).alloc (Nat.le_refl _) o
  have Hr : Hid (r = (r.toNat : Int)) := hR.root.1
  clear h hX hR
  go_enter Tryd.func40, Tryd.ntmps40
  go_wp2_with fail
  obtain ⟨rk, hrk⟩ := HS.out.2.2.dag.rank
  have hb := HB.out (.cells #[.slice a X.length c, .int .i64 r] 24)
  have hm := meet_any X a c r HS.out.2.1 HS.out.2.2.2.1 HS.out.2.2.dag rk hrk (rk r.toNat) r.toNat [] none 0 (w.alloc (.cells #[.slice a X.length c, .int .i64 r] 24)) (Nat.le_refl _) HS.out.2.2.root.2 Good.nil (HS.out.1.alloc _) (LsAt.nil _ _)
  rw [← Hr.out] at hm
  refine Calls.mono hm ?_
  rintro e w1 ⟨a1, c1, rfl, hl, hb1⟩
  have HO : Hid (OrderOut X r w w1 (.returned (.slice a1 (meetO (kX X) [] r.toNat).length c1))) := ⟨a1, c1, rfl, hl, hb.trans (hb1.mono hb.size)⟩
  clear hm hl hb1 hb
  generalize (meetO (kX X) [] r.toNat).length = q at *
  go_wp2_with fail
  go_ret
  exact HO.out

end Go.Proofs.YtcdpjaaiojpelaaDoor
