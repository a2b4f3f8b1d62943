/- The contract of the program's own Get of a scene. -/
import Derived.Test.YthfemhpbamcpjaaGreatDoorNRg
import Derived.Test.YthfemhpbamcpjaaGreatDoorNCk
import Derived.Test.YthfemhpbamcpjaaGreatDoorTD
import Derived.Test.YthfemhpbamcpjaaGreatDoorTC
import Derived.Test.YthfemhpbamcpjaaGreatDoorLLim
namespace Go.Proofs.YthfemhpbamcpjaaGreatDoor
open Go.RowKit Go.Maps Go.WideMaps Go.Sort
structure Gx (w W : World) (l : Lm) : Prop where
  a : AtN 34 W w.heap.size (liC l)
  r : AtN 24 W (w.heap.size + 1) #[.slice none 0 0, .int .i64 0]
  bel : Below w.heap.size w W
theorem Gx.more {w W W' : World} {l : Lm} (h : Gx w W l) (hb : Below W.heap.size W W') : Gx w W' l := ⟨h.a.belowAll hb, h.r.belowAll hb, h.bel.trans (hb.mono h.bel.size)⟩
theorem tell_scene {tx nb : ByteArray} {l : Lm} {w W0 W : World} {B c : Nat} {r : Int} {a : Option Addr} {Y : List Nx} (hG : GeIs tx nb l (Y.map Nx.nd) r 0) (hx : Gx w W l) (hB : w.heap.size + 1 < B) (hs0 : ∀ W, Fr (fun b => b < B) W0 W → ScAt W a Y) (h0 : Below W0.heap.size W0 W) (hs : Small Y) (hf : FnX Y) :
    ∀ W', W' = (W.setCell ⟨w.heap.size + 1, 0, none⟩ (.slice a Y.length c)).setCell ⟨w.heap.size + 1, 1, none⟩ (.int .i64 r) → AtN 24 W' (w.heap.size + 1) #[.slice a Y.length c, .int .i64 r] ∧ GeOut tx nb l w W' (.returned (.tuple #[.agg #[.slice a Y.length c, .int .i64 r], .int .i64 0])) := by
  rintro _ rfl
  have hF : Fr (fun b => b = w.heap.size + 1) W ((W.setCell ⟨w.heap.size + 1, 0, none⟩ (.slice a Y.length c)).setCell ⟨w.heap.size + 1, 1, none⟩ (.int .i64 r)) := ((Fr.refl (fun b => b = w.heap.size + 1) W).set ⟨w.heap.size + 1, 0, none⟩ rfl _).set ⟨w.heap.size + 1, 1, none⟩ rfl _
  exact ⟨by simpa using (hx.r.set 0 (.slice a Y.length c)).set 1 (.int .i64 r), Y, a, c, r, 0, rfl, hG, hs0 _ ((Fr.of_below (S := fun b => b < B) h0).trans hF (fun i e _ => by omega)), hs, hf, Fr.below hx.bel hF (fun i e => by omega) hx.bel.size⟩
theorem put_iff {tx : ByteArray} {x : Int} {L : List ByteArray} {X : List Nx} (h : pGet6 tx 16777216 x = (0, L)) (hz : tx.size ≤ 1000000) (hX : Small X) : (⟨(pPut6 (itn (allT X))).toArray⟩ : ByteArray) = tx ↔ itn (allT X) = L := by
  have hok := pGet6_ok tx 16777216 x (by rw [h])
  rw [h] at hok
  dsimp only at hok
  obtain ⟨h1, h2, h3⟩ := hok
  have hs := allT_small X hX X.length (Nat.le_refl _)
  rw [List.take_of_length_le (Nat.le_refl _)] at hs
  have hn := hX.1
  have hi := itn_len (allT X)
  constructor
  · intro e
    have e1 : pPut6 (itn (allT X)) = tx.data.toList := by rw [← e]
    refine pPut6_inj (by rw [e1, h1]) (by omega) (by omega) (fun s q => by have := hs.2 s ((itn_mem _ _).1 q); omega) (fun s q => by have := sum6_at q; omega)
  · intro e
    rw [e, h1]
set_option maxRecDepth 10000 in
set_option maxHeartbeats 4000000 in
theorem pnget_any (tx nb : ByteArray) (l : Lm) (w : World) (hT : Tabs12 w) (hz : tx.size ≤ 1000000) (hy : nb.size ≤ 1000000) (hQ : ∀ L, pGet6 tx 16777216 l.x = (0, L) → Qn nb L l) (hl : ∀ i, i < 5 → -9223372036854775808 ≤ (lmL l).getD i 0 ∧ (lmL l).getD i 0 ≤ 9223372036854775807) :
    Calls Tryz.prog 12 #[.string tx, .string nb, .agg (liC l)] w fun e w' => GeOut tx nb l w w' e := by
  have HA : Hid (∀ (o1 o2 : Obj), o1 = .cells (liC l) 34 → o2 = .cells #[.slice none 0 0, .int .i64 0] 24 → Gx w ((w.alloc o1).alloc o2) l) := by
    rintro _ _ rfl rfl
    exact ⟨(AtN.new w 34 _).alloc _, mk_at (AtN.new (w.alloc _) 24 _) (show _ = w.heap.size + 1 by simp), ((Below.refl w.heap.size w).alloc (Nat.le_refl _) _).alloc (by simp) _⟩
  have hlC : liC l = #[.int .i64 l.b, .int .i64 l.n, .int .i64 l.e, .int .i64 l.d, .int .i64 l.x] := rfl
  have HT : Hid (Tabs12 w) := hT
  have HQ : Hid (∀ L, pGet6 tx 16777216 l.x = (0, L) → Qn nb L l) := hQ
  have hlx := hl 4 (by omega)
  rw [show (lmL l).getD 4 0 = l.x from rfl] at hlx
  clear hT hl hQ
  go_enter Tryz.func12, Tryz.ntmps12
  rw [hlC]
  go_wp2_with fail
  have hx0 := HA.out _ _ rfl rfl
  rw [hlC] at hx0
  refine (okl_any l _).mono ?_
  rintro e w1 ⟨rfl, hb1⟩
  have HX1 : Hid (Gx w w1 l) := hx0.more hb1
  have hs1 : w.heap.size + 1 < w1.heap.size := HX1.out.r.lt
  clear HA hx0 hb1 hlC
  have r0 : w1.cell? ⟨w.heap.size + 1, 0, none⟩ = some (.slice none 0 0) := HX1.out.r.cell 0
  have r1 : w1.cell? ⟨w.heap.size + 1, 1, none⟩ = some (.int .i64 0) := HX1.out.r.cell 1
  have f0 := HX1.out.r.fz 0
  have f1 := HX1.out.r.fz 1
  cases hok : okL l with
  | false =>
    have HV : Hid _ := tell_bad (GeIs.bad (geK_1 tx nb l hok) (by decide)) HX1.out.bel HX1.out.r
    go_wp2_with fail
    obtain ⟨v2, v1⟩ := HV.out _ rfl
    have c0 := v2.cell 0
    have c1 := v2.cell 1
    exact bodyPost_ret (v := .tuple #[.agg #[.slice none 0 0, .int .i64 0], .int .i64 1]) (by simp [results, Tryz.results12, go_sem, c0, c1]) rfl v1
  | true =>
    have a4 : w1.cell? ⟨w.heap.size, 4, none⟩ = some (.int .i64 l.x) := HX1.out.a.cell 4
    obtain ⟨te, L, hG⟩ : ∃ te L, pGet6 tx 16777216 l.x = (te, L) := ⟨_, _, rfl⟩
    have HG : Hid _ := tget_any tx 16777216 l.x w1 (by omega) (by omega) hlx.2
    rw [hG] at HG
    go_wp2_with fail
    refine Calls.mono HG.out ?_
    rintro e w2 ⟨hb2, hor⟩
    dsimp only at hor
    have HX2 : Hid (Gx w w2 l) := HX1.out.more hb2
    clear HG r0 r1 f0 f1 a4
    have r0 : w2.cell? ⟨w.heap.size + 1, 0, none⟩ = some (.slice none 0 0) := HX2.out.r.cell 0
    have r1 : w2.cell? ⟨w.heap.size + 1, 1, none⟩ = some (.int .i64 0) := HX2.out.r.cell 1
    have f0 := HX2.out.r.fz 0
    have f1 := HX2.out.r.fz 1
    rcases hor with ⟨hte, rfl⟩ | ⟨hte, g, gm, v, rfl, ht⟩
    · have hte' : (te != 0) = true := by simpa using hte
      have HV : Hid _ := tell_bad (GeIs.bad (geK_2 tx nb l hok hG hte) hte) HX2.out.bel HX2.out.r
      go_wp2_with fail
      obtain ⟨v2, v1⟩ := HV.out _ rfl
      have c0 := v2.cell 0
      have c1 := v2.cell 1
      exact bodyPost_ret (v := .tuple #[.agg #[.slice none 0 0, .int .i64 0], .int .i64 te]) (by simp [results, Tryz.results12, go_sem, c0, c1]) rfl v1
    · subst hte
      have a0 : w2.cell? ⟨w.heap.size, 0, none⟩ = some (.int .i64 l.b) := HX2.out.a.cell 0
      have a1 : w2.cell? ⟨w.heap.size, 1, none⟩ = some (.int .i64 l.n) := HX2.out.a.cell 1
      have a2 : w2.cell? ⟨w.heap.size, 2, none⟩ = some (.int .i64 l.e) := HX2.out.a.cell 2
      have a3 : w2.cell? ⟨w.heap.size, 3, none⟩ = some (.int .i64 l.d) := HX2.out.a.cell 3
      have a4 : w2.cell? ⟨w.heap.size, 4, none⟩ = some (.int .i64 l.x) := HX2.out.a.cell 4
      have HRd : Hid (Calls Tryz.prog 37 #[.string nb, .pointer (some ⟨g, 0, none⟩), .agg #[.int .i64 l.b, .int .i64 l.n, .int .i64 l.e, .int .i64 l.d, .int .i64 l.x]] w2 fun e w' => RdnOut tx nb l L w2 w' e) := pread_any tx nb l L w2 ht (HT.out.on HX2.out.bel) hy (HQ.out L hG) hok hG
      have hs2 : w.heap.size + 1 < w2.heap.size := HX2.out.r.lt
      clear ht HX1 hs1 hb2
      go_wp2_with fail
      refine Calls.mono HRd.out ?_
      rintro e w3 ⟨X, a, c, k, rfl, hk1, hk2, hb3⟩
      obtain ⟨w4, hw4⟩ : ∃ w4, w3.alloc (.cells #[.slice a X.length c, .int .i64 ((X.length : Int) - 1)] 24) = w4 := ⟨_, rfl⟩
      have hb4 : Below w3.heap.size w3 w4 := by rw [← hw4]; exact (Below.refl w3.heap.size w3).alloc (Nat.le_refl _) _
      have HA4 : Hid (AtN 24 w4 w3.heap.size #[.slice a X.length c, .int .i64 ((X.length : Int) - 1)]) := by rw [← hw4]; exact AtN.new w3 24 _
      have HX4 : Hid (Gx w w4 l) := (HX2.out.more hb3).more hb4
      have HK1 : Hid (k ≠ 0 → (geK tx nb l).1 = k) := hk1
      have HK2 : Hid (k = 0 → geK tx nb l = (0, X.map Nx.nd, L) ∧ Small X ∧ FnX X ∧ ∀ W, Fr (fun b => b < w2.heap.size) w4 W → ScAt W a X) := fun q => by
        obtain ⟨q1, q2, q3, q4⟩ := hk2 q
        exact ⟨q1, q2, q3, fun W f => q4 W ((Fr.of_below (S := fun b => b < w2.heap.size) hb4).trans f (fun i hi _ => hi))⟩
      clear hk1 hk2 hb3 hb4 HRd r0 r1 f0 f1 a0 a1 a2 a3 a4 HX2
      have s0 : w4.cell? ⟨w3.heap.size, 0, none⟩ = some (.slice a X.length c) := HA4.out.cell 0
      have s1 : w4.cell? ⟨w3.heap.size, 1, none⟩ = some (.int .i64 ((X.length : Int) - 1)) := HA4.out.cell 1
      have r0 : w4.cell? ⟨w.heap.size + 1, 0, none⟩ = some (.slice none 0 0) := HX4.out.r.cell 0
      have r1 : w4.cell? ⟨w.heap.size + 1, 1, none⟩ = some (.int .i64 0) := HX4.out.r.cell 1
      have f0 := HX4.out.r.fz 0
      have f1 := HX4.out.r.fz 1
      by_cases hk : k = 0
      · obtain ⟨q1, q2, q3, q4⟩ := HK2.out hk
        subst hk
        have HGe : Hid (geK tx nb l = (0, X.map Nx.nd, L)) := q1
        have HSm : Hid (Small X ∧ FnX X) := ⟨q2, q3⟩
        have HSc : Hid (∀ W, Fr (fun b => b < w2.heap.size) w4 W → ScAt W a X) := q4
        have a3 : w4.cell? ⟨w.heap.size, 3, none⟩ = some (.int .i64 l.d) := HX4.out.a.cell 3
        have HCr : Hid _ := pcr_any X a c ((X.length : Int) - 1) l.d w4 (q4 w4 (Fr.refl _ _)) q2
        clear q1 q2 q3 q4 HK1 HK2
        go_wp2_with fail
        clear hw4
        refine Calls.mono HCr.out ?_
        rintro e w5 ⟨k5, rfl, hck, hb5⟩
        have HA5 : Hid (AtN 24 w5 w3.heap.size #[.slice a X.length c, .int .i64 ((X.length : Int) - 1)]) := HA4.out.belowAll hb5
        have HX5 : Hid (Gx w w5 l) := HX4.out.more hb5
        have HB5 : Hid (Below w4.heap.size w4 w5) := hb5
        have HCk : Hid (CkIs X ((X.length : Int) - 1) l.d k5) := hck
        clear HCr hck hb5 HA4 HX4 s0 s1 r0 r1 f0 f1 a3
        have s0 : w5.cell? ⟨w3.heap.size, 0, none⟩ = some (.slice a X.length c) := HA5.out.cell 0
        have s1 : w5.cell? ⟨w3.heap.size, 1, none⟩ = some (.int .i64 ((X.length : Int) - 1)) := HA5.out.cell 1
        have r0 : w5.cell? ⟨w.heap.size + 1, 0, none⟩ = some (.slice none 0 0) := HX5.out.r.cell 0
        have r1 : w5.cell? ⟨w.heap.size + 1, 1, none⟩ = some (.int .i64 0) := HX5.out.r.cell 1
        have f0 := HX5.out.r.fz 0
        have f1 := HX5.out.r.fz 1
        by_cases hk5 : k5 = 0
        · subst hk5
          have HOf : Hid (∀ q, ((itn (allT X) ≠ L ∧ q = 18) ∨ (itn (allT X) = L ∧ q = 0)) → (q ≠ 0 → GeIs tx nb l (([] : List Nx).map Nx.nd) 0 q) ∧ (q = 0 → GeIs tx nb l (X.map Nx.nd) ((X.length : Int) - 1) 0)) := fun q hq => GeIs.of HGe.out rfl (HCk.out.good q hq)
          have HIf : Hid ((⟨(pPut6 (itn (allT X))).toArray⟩ : ByteArray) = tx ↔ itn (allT X) = L) := put_iff hG hz HSm.out.1
          have HTx : Hid _ := ptx_any X a c ((X.length : Int) - 1) w5 (HSc.out w5 (Fr.of_below HB5.out)) HSm.out.1
          have HZ : Hid ((itn (allT X)).length ≤ 30100 ∧ sum6 (itn (allT X)) ≤ 30100000) := by
            have h1 := allT_small X HSm.out.1 X.length (Nat.le_refl _)
            rw [List.take_of_length_le (Nat.le_refl _)] at h1
            have hn := HSm.out.1.1
            have := itn_sum (allT X) (by omega) h1.2
            exact ⟨this.2, this.1⟩
          clear HGe HCk
          go_wp2_with fail
          refine Calls.mono HTx.out ?_
          rintro e w6 ⟨g6, gm6, v6, rfl, ht6, hb6⟩
          have HA6 : Hid (AtN 24 w6 w3.heap.size #[.slice a X.length c, .int .i64 ((X.length : Int) - 1)]) := HA5.out.belowAll hb6
          have HX6 : Hid (Gx w w6 l) := HX5.out.more hb6
          have HB6 : Hid (Below w4.heap.size w4 w6) := HB5.out.trans (hb6.mono HB5.out.size)
          have HPt : Hid _ := tput_any ht6 (by have := HZ.out.1; omega) (by have := HZ.out.2; omega)
          clear HTx hb6 HA5 HX5 HB5 s0 s1 r0 r1 f0 f1 HZ
          obtain ⟨A, hA⟩ : ∃ A : ByteArray, (⟨(pPut6 (itn (allT X))).toArray⟩ : ByteArray) = A := ⟨_, rfl⟩
          rw [hA] at HPt HIf
          clear hA ht6
          go_wp2_with fail
          refine Calls.mono HPt.out ?_
          rintro e w7 ⟨rfl, hb7⟩
          have HA7 : Hid (AtN 24 w7 w3.heap.size #[.slice a X.length c, .int .i64 ((X.length : Int) - 1)]) := HA6.out.belowAll hb7
          have HX7 : Hid (Gx w w7 l) := HX6.out.more hb7
          have HB7 : Hid (Below w4.heap.size w4 w7) := HB6.out.trans (hb7.mono HB6.out.size)
          clear HPt hb7 HA6 HX6 HB6
          have s0 : w7.cell? ⟨w3.heap.size, 0, none⟩ = some (.slice a X.length c) := HA7.out.cell 0
          have s1 : w7.cell? ⟨w3.heap.size, 1, none⟩ = some (.int .i64 ((X.length : Int) - 1)) := HA7.out.cell 1
          have r0 : w7.cell? ⟨w.heap.size + 1, 0, none⟩ = some (.slice none 0 0) := HX7.out.r.cell 0
          have r1 : w7.cell? ⟨w.heap.size + 1, 1, none⟩ = some (.int .i64 0) := HX7.out.r.cell 1
          have f0 := HX7.out.r.fz 0
          have f1 := HX7.out.r.fz 1
          by_cases hAt : A = tx
          · have hbq : (A.toList == tx.toList) = true := by rw [eq_text]; exact decide_eq_true hAt
            have HV : Hid _ := tell_scene (c := c) ((HOf.out 0 (.inr ⟨HIf.out.1 hAt, rfl⟩)).2 rfl) HX7.out hs2 HSc.out HB7.out HSm.out.1 HSm.out.2
            clear HOf HIf hAt
            go_wp2_with fail
            obtain ⟨v2, v1⟩ := HV.out _ rfl
            have c0 := v2.cell 0
            have c1 := v2.cell 1
            exact bodyPost_ret (v := .tuple #[.agg #[.slice a X.length c, .int .i64 ((X.length : Int) - 1)], .int .i64 0]) (by simp [results, Tryz.results12, go_sem, c0, c1]) rfl v1
          · have hbq : (A.toList == tx.toList) = false := by rw [eq_text]; exact decide_eq_false hAt
            have HV : Hid _ := tell_bad ((HOf.out 18 (.inl ⟨fun q => hAt (HIf.out.2 q), rfl⟩)).1 (by decide)) HX7.out.bel HX7.out.r
            clear HOf HIf hAt
            go_wp2_with fail
            obtain ⟨v2, v1⟩ := HV.out _ rfl
            have c0 := v2.cell 0
            have c1 := v2.cell 1
            exact bodyPost_ret (v := .tuple #[.agg #[.slice none 0 0, .int .i64 0], .int .i64 18]) (by simp [results, Tryz.results12, go_sem, c0, c1]) rfl v1
        · have hk5' : (k5 == 0) = false := by simpa using hk5
          have hk5'' : (k5 != 0) = true := by simpa using hk5
          have HV : Hid _ := tell_bad ((GeIs.of HGe.out rfl (HCk.out.bad hk5)).1 hk5) HX5.out.bel HX5.out.r
          clear HGe HCk HSc HSm
          go_wp2_with fail
          obtain ⟨v2, v1⟩ := HV.out _ rfl
          have c0 := v2.cell 0
          have c1 := v2.cell 1
          exact bodyPost_ret (v := .tuple #[.agg #[.slice none 0 0, .int .i64 0], .int .i64 k5]) (by simp [results, Tryz.results12, go_sem, c0, c1]) rfl v1
      · have hk' : (k == 0) = false := by simpa using hk
        have hk'' : (k != 0) = true := by simpa using hk
        have HV : Hid _ := tell_bad (GeIs.bad (HK1.out hk) hk) HX4.out.bel HX4.out.r
        clear HK1 HK2
        go_wp2_with fail
        clear hw4
        obtain ⟨v2, v1⟩ := HV.out _ rfl
        have c0 := v2.cell 0
        have c1 := v2.cell 1
        exact bodyPost_ret (v := .tuple #[.agg #[.slice none 0 0, .int .i64 0], .int .i64 k]) (by simp [results, Tryz.results12, go_sem, c0, c1]) rfl v1
end Go.Proofs.YthfemhpbamcpjaaGreatDoor
