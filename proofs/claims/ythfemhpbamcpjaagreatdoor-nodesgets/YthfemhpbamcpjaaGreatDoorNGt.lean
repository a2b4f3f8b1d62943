/- The contract of the document's own Get of a scene. -/
import Derived.Test.YthfemhpbamcpjaaGreatDoorNGw
import Derived.Test.YthfemhpbamcpjaaGreatDoorRGt
import Derived.Test.YthfemhpbamcpjaaGreatDoorTC
import Derived.Test.YthfemhpbamcpjaaGreatDoorGH
import Derived.Deep.QuietTactic
import Derived.BigQuiet
import Derived.BigRegion
import Derived.Lib.QuietBelow
namespace Go.Proofs.YthfemhpbamcpjaaGreatDoor
open Go.RowKit Go.Maps Go.WideMaps Go.Sort
set_option maxRecDepth 10000 in
set_option maxHeartbeats 2000000 in
theorem rnget_any (tx nb : ByteArray) (l : Lm) (w : World) (hz : tx.size ≤ 1000) (hy : nb.size ≤ 900) (hl : ∀ i, i < 5 → -9223372036854775808 ≤ (lmL l).getD i 0 ∧ (lmL l).getD i 0 ≤ 9223372036854775807) :
    Calls Tryz.prog 13 #[.string tx, .string nb, .agg (liC l)] w fun e w' => GeOut tx nb l w w' e := by
  have HA : Hid (∀ (o1 o2 o3 : Obj), o1 = .cells (liC l) 34 → o2 = .cells #[.slice none 0 0, .int .i64 0] 24 → o3 = .cells #[.slice none 0 0, .int .i64 0] 24 → AtN 34 (((w.alloc o1).alloc o2).alloc o3) w.heap.size (liC l) ∧ AtN 24 (((w.alloc o1).alloc o2).alloc o3) (w.heap.size + 1) #[.slice none 0 0, .int .i64 0] ∧ AtN 24 (((w.alloc o1).alloc o2).alloc o3) (w.heap.size + 2) #[.slice none 0 0, .int .i64 0] ∧ Below w.heap.size w (((w.alloc o1).alloc o2).alloc o3)) := by
    rintro _ _ _ rfl rfl rfl
    exact ⟨((AtN.new w 34 _).alloc _).alloc _, (mk_at (AtN.new (w.alloc _) 24 _) (show _ = w.heap.size + 1 by simp)).alloc _, mk_at (AtN.new ((w.alloc _).alloc _) 24 _) (show _ = w.heap.size + 2 by simp), (((Below.refl w.heap.size w).alloc (Nat.le_refl _) _).alloc (by simp) _).alloc (by simp; omega) _⟩
  have hlC : liC l = #[.int .i64 l.b, .int .i64 l.n, .int .i64 l.e, .int .i64 l.d, .int .i64 l.x] := rfl
  go_enter Tryz.func13, Tryz.ntmps13
  rw [hlC]
  go_wp2_with fail
  obtain ⟨h1, h2, h3, h4⟩ := HA.out _ _ _ rfl rfl rfl
  refine (rokl_any l _).mono ?_
  rintro e w1 ⟨rfl, hb1⟩
  have HA1 : Hid (AtN 34 w1 w.heap.size (liC l)) := h1.belowAll hb1
  have HR1 : Hid (AtN 24 w1 (w.heap.size + 1) #[.slice none 0 0, .int .i64 0]) := h2.belowAll hb1
  have HN1 : Hid (AtN 24 w1 (w.heap.size + 2) #[.slice none 0 0, .int .i64 0]) := h3.belowAll hb1
  have HB1 : Hid (Below w.heap.size w w1) := h4.trans (hb1.mono h4.size)
  have hs1 : w.heap.size + 3 ≤ w1.heap.size := by have := HN1.out.lt; omega
  clear HA h1 h2 h3 h4 hb1
  have x0 : w1.cell? ⟨w.heap.size + 1 + 1, 0, none⟩ = some (.slice none 0 0) := HN1.out.cell 0
  have x1 : w1.cell? ⟨w.heap.size + 1 + 1, 1, none⟩ = some (.int .i64 0) := HN1.out.cell 1
  have r0 : w1.cell? ⟨w.heap.size + 1, 0, none⟩ = some (.slice none 0 0) := HR1.out.cell 0
  have r1 : w1.cell? ⟨w.heap.size + 1, 1, none⟩ = some (.int .i64 0) := HR1.out.cell 1
  have f0 := HR1.out.fz 0
  have f1 := HR1.out.fz 1
  cases hok : okL l with
  | false =>
    have HV : Hid _ := tell_bad (GeIs.bad (geK_1 tx nb l hok) (by decide)) HB1.out HR1.out
    go_wp2_with fail
    obtain ⟨v2, v1⟩ := HV.out _ rfl
    have c0 := v2.cell 0
    have c1 := v2.cell 1
    exact bodyPost_ret (v := .tuple #[.agg #[.slice none 0 0, .int .i64 0], .int .i64 1]) (by simp [results, Tryz.results13, go_sem, c0, c1]) rfl v1
  | true =>
    have a4 : w1.cell? ⟨w.heap.size, 4, none⟩ = some (.int .i64 l.x) := HA1.out.cell 4
    obtain ⟨te, L, hT⟩ : ∃ te L, pGet6 tx 16777216 l.x = (te, L) := ⟨_, _, rfl⟩
    have HG : Hid _ := rget6_any tx 16777216 l.x w1 (by omega) (by omega) (by have := hl 4 (by omega); simpa [lmL] using this.2)
    rw [hT] at HG
    go_wp2_with fail
    refine Calls.mono HG.out ?_
    rintro e w2 ⟨y, cap, bt, ot, rfl, hp, ht, hcp, hnil, hb2⟩
    dsimp only at hp ht hcp hnil ⊢
    have HX2 : Hid (TxI w2 y cap bt ot L) := ⟨hp, ht, hcp, hnil⟩
    have HA2 : Hid (AtN 34 w2 w.heap.size (liC l)) := HA1.out.belowAll hb2
    have HR2 : Hid (AtN 24 w2 (w.heap.size + 1) #[.slice none 0 0, .int .i64 0]) := HR1.out.belowAll hb2
    have HN2 : Hid (AtN 24 w2 (w.heap.size + 2) #[.slice none 0 0, .int .i64 0]) := HN1.out.belowAll hb2
    have HB2 : Hid (Below w.heap.size w w2) := HB1.out.trans (hb2.mono HB1.out.size)
    have hs2 : w.heap.size + 3 ≤ w2.heap.size := by have := HN2.out.lt; omega
    clear hp ht hcp hnil hb2 HG HA1 HR1 HN1 HB1 x0 x1 r0 r1 f0 f1 a4
    have x0 : w2.cell? ⟨w.heap.size + 1 + 1, 0, none⟩ = some (.slice none 0 0) := HN2.out.cell 0
    have x1 : w2.cell? ⟨w.heap.size + 1 + 1, 1, none⟩ = some (.int .i64 0) := HN2.out.cell 1
    have r0 : w2.cell? ⟨w.heap.size + 1, 0, none⟩ = some (.slice none 0 0) := HR2.out.cell 0
    have r1 : w2.cell? ⟨w.heap.size + 1, 1, none⟩ = some (.int .i64 0) := HR2.out.cell 1
    have f0 := HR2.out.fz 0
    have f1 := HR2.out.fz 1
    by_cases hte : te = 0
    · subst hte
      obtain ⟨n, k0, ne, hU⟩ : ∃ n k0 ne, pUint nb 0 0 l.n = (n, k0, ne) := ⟨_, _, _, rfl⟩
      have HGl : Hid (∀ o : Obj, Gl w (w2.alloc o) w2.heap.size l y cap bt ot L) := fun o => ⟨HB2.out.alloc HB2.out.size o, HA2.out.alloc o, HR2.out.alloc o, HN2.out.alloc o, HX2.out.below ((Below.refl w2.heap.size w2).alloc (Nat.le_refl _) o), fun q => (HX2.out.at_ 0 q).1, by simp, hs2⟩
      have HRf : Hid (Rf (w2.alloc (.cells #[.string nb, .int .i64 0, .int .i64 0] 84)) w2.heap.size nb 0 0) := At3.new w2 _ _ _ _
      have HUi : Hid _ := ruint_any (w2.alloc (.cells #[.string nb, .int .i64 0, .int .i64 0] 84)) w2.heap.size nb 0 0 l.n HRf.out (by unfold maxLen; omega) (Nat.zero_le _)
      rw [hU] at HUi
      have a1 : (w2.alloc (.cells #[.string nb, .int .i64 0, .int .i64 0] 84)).cell? ⟨w.heap.size, 1, none⟩ = some (.int .i64 l.n) := (HGl.out _).a.cell 1
      have a0 := (HA2.out.alloc (.cells #[.string nb, .int .i64 0, .int .i64 0] 84)).lt
      have hln : 0 ≤ l.n ∧ l.n ≤ 16777216 := (okL_in hok).2.1
      go_wp2_with fail
      refine Calls.mono HUi.out ?_
      rintro e w3 ⟨rfl, hr3, hb3⟩
      dsimp only at hr3 ⊢
      have HGl3 : Hid (Gl w w3 w2.heap.size l y cap bt ot L) := (HGl.out _).cur hb3 (Nat.le_refl _)
      have HRf3 : Hid (Rf w3 w2.heap.size nb (k0 : Nat) ne) := hr3
      have hk0 : k0 ≤ nb.size := by have := (pUint_at nb 0 0 l.n (Nat.zero_le _)).2; rw [hU] at this; exact this
      have hnt : 0 ≤ n ∧ n ≤ 16777216 := by have := pUint_top nb 0 0 l.n; rw [hU] at this; exact ⟨this.1, this.2.1⟩
      clear HUi hr3 hb3 HGl HRf HX2 HA2 HR2 HN2 HB2 x0 x1 r0 r1 f0 f1 a0 a1
      have e2 : w3.cell? ⟨w2.heap.size, 2, none⟩ = some (.int .i64 ne) := HRf3.out.c2
      have x0 : w3.cell? ⟨w.heap.size + 1 + 1, 0, none⟩ = some (.slice none 0 0) := HGl3.out.n.cell 0
      have x1 : w3.cell? ⟨w.heap.size + 1 + 1, 1, none⟩ = some (.int .i64 0) := HGl3.out.n.cell 1
      have r0 : w3.cell? ⟨w.heap.size + 1, 0, none⟩ = some (.slice none 0 0) := HGl3.out.r.cell 0
      have r1 : w3.cell? ⟨w.heap.size + 1, 1, none⟩ = some (.int .i64 0) := HGl3.out.r.cell 1
      have f0 := HGl3.out.r.fz 0
      have f1 := HGl3.out.r.fz 1
      have q1 : (w.heap.size + 1 = w2.heap.size) = False := by simp; omega
      by_cases hne : ne = 0
      · subst hne
        by_cases hn0 : n = 0
        · subst hn0
          have HV : Hid _ := tell_bad (GeIs.bad (geK_4 tx nb l hok hT hU) (by decide)) HGl3.out.bel HGl3.out.r
          go_wp2_with fail
          obtain ⟨v2, v1⟩ := HV.out _ rfl
          have c0 := v2.cell 0
          have c1 := v2.cell 1
          exact bodyPost_ret (v := .tuple #[.agg #[.slice none 0 0, .int .i64 0], .int .i64 13]) (by simp [results, Tryz.results13, go_sem, c0, c1]) rfl v1
        · have hn0' : (n == 0) = false := by simpa using hn0
          have hs3 := HGl3.out.hl
          have hgc := HRf3.out.lt
          have a2 : (w3.alloc (.cells #[.slice none 0 0, .int .i64 (n - 1)] 24)).cell? ⟨w.heap.size, 2, none⟩ = some (.int .i64 l.e) := (HGl3.out.a.alloc _).cell 2
          have a0 := (HGl3.out.a.alloc (.cells #[.slice none 0 0, .int .i64 (n - 1)] 24)).lt
          have HM0 : Hid (Mkg (w3.alloc (.cells #[.slice none 0 0, .int .i64 (n - 1)] 24)) w3.heap.size w3.heap.size (n - 1) (.slice none 0 0) []) := ⟨AtN.new w3 24 _, ⟨rfl, .inl ⟨rfl, rfl⟩⟩, fun j hj => by simp at hj⟩
          have HG0 : Hid (Gl w (w3.alloc (.cells #[.slice none 0 0, .int .i64 (n - 1)] 24)) w2.heap.size l y cap bt ot L) := HGl3.out.more ((Below.refl w3.heap.size w3).alloc (Nat.le_refl _) _)
          have HR0 : Hid (Rf (w3.alloc (.cells #[.slice none 0 0, .int .i64 (n - 1)] 24)) w2.heap.size nb (k0 : Nat) 0) := At3.alloc HRf3.out _
          have hle := (okL_in hok).2.2.1
          have hLs : L.Nodup ∧ sum6 L + L.length ≤ 1000 ∧ ∀ s ∈ L, ok8 s = true := by
            have h1 := pGet6_ok tx 16777216 l.x (by rw [hT])
            have h2 := pGet6_ok8 tx 16777216 l.x (by rw [hT])
            rw [hT] at h1 h2
            exact ⟨h1.2.1, by have := h1.2.2; dsimp only at this; omega, h2⟩
          have HLs : Hid (L.Nodup ∧ sum6 L + L.length ≤ 1000 ∧ ∀ s ∈ L, ok8 s = true) := hLs
          have hLl : L.length ≤ 1000 := by omega
          obtain ⟨m, rfl⟩ : ∃ m : Nat, n = m := ⟨n.toNat, by omega⟩
          obtain ⟨P, kz, ez, hS⟩ : ∃ P kz ez, gNs nb L m 0 k0 l.e = (P, kz, ez) := ⟨_, _, _, rfl⟩
          have HS : Hid (gNs nb L (m : Int).toNat 0 k0 l.e = (P, kz, ez)) := by rw [Int.toNat_natCast]; exact hS
          obtain ⟨i0, hi, hz0, hz1, hz2⟩ := info_parts Tryz.infoD9
          clear hLs x0 x1 r0 r1 f0 f1 q1 HGl3 HRf3
          go_wp2_with fail
          go_loopw [14, 15] (fun dv iv wr => ∃ (i k : Nat) (ed : Int) (v : Value) (Y : List Nx), iv = .int .i64 i ∧ dv = .int .i64 ed ∧ i ≤ m ∧ Hid (Y.length = i) ∧ 3 * i ≤ k ∧ k ≤ nb.size ∧ l.e - 900 * i ≤ ed ∧ ed ≤ l.e ∧ Hid (∀ T k' e', gNs nb L (m - i) i k ed = (T, k', e') → (P, kz, ez) = (Y.map Nx.nd ++ T, k', e')) ∧ Hid (Mkg wr w3.heap.size w3.heap.size ((m : Int) - 1) v Y) ∧ Hid (Gl w wr w2.heap.size l y cap bt ot L) ∧ Hid (Rf wr w2.heap.size nb (k : Nat) 0) ∧ Hid (∀ j, j < Y.length → big (Y.getD j noNx).nd = false ∧ fine (Y.getD j noNx).nd.ints)) (fun _ iv _ => m - (intOf iv).toNat)
          case atStart => exact ⟨0, k0, l.e, _, [], rfl, rfl, by omega, rfl, by omega, hk0, by omega, by omega, (fun T k' e' q => by rw [Nat.sub_zero] at q; rw [← hS, q]; simp), HM0, HG0, HR0, (fun j hj => by simp at hj)⟩
          case round =>
            clear HM0 HG0 HR0 hS a0 a2 e2
            obtain ⟨i, k, ed, v, Y, rfl, rfl, him, HYl, hk3, hkb, hd1, hd2, HC, HM, HGl, HR, HY⟩ := hrel
            by_cases hlt : i < m
            · have hlt' : (i : Int) < m := by omega
              obtain ⟨N, k1, e1, hN⟩ : ∃ N k1 e1, gNd nb i L ed k 0 = (N, k1, e1) := ⟨_, _, _, rfl⟩
              have HN : Hid _ := rrget_any nb w2.heap.size (i : Int) ed y cap bt ot L k 0 wr HR.out (by omega) hkb HGl.out.x hLl (fun q => by have := HGl.out.hb q; omega) (by omega) (by omega)
              rw [hN] at HN
              go_wp2_with fail
              refine Calls.mono HN.out ?_
              rintro e w5 ⟨a1, c1, a2, c2, a3, c3, rfl, ho5, hr5, hb5⟩
              dsimp only at ho5 hr5 ⊢
              obtain ⟨w6, hw6⟩ : ∃ w6, w5.alloc (.cells #[.int .i64 N.kind, .slice a1 N.ints.length c1, .slice a2 N.texts.length c2, .slice a3 N.kids.length c3] 49) = w6 := ⟨_, rfl⟩
              have hb6 : Below w5.heap.size w5 w6 := by rw [← hw6]; exact (Below.refl w5.heap.size w5).alloc (Nat.le_refl _) _
              have hA6 : AtN 49 w6 w5.heap.size #[.int .i64 N.kind, .slice a1 N.ints.length c1, .slice a2 N.texts.length c2, .slice a3 N.kids.length c3] := by rw [← hw6]; exact AtN.new w5 49 _
              have HO6 : Hid (OwnNx w6 wr.heap.size ⟨N, a1, c1, a2, c2, a3, c3⟩) := OwnNd.belowB ho5 hb6
              have HR6 : Hid (Rf w6 w2.heap.size nb (k1 : Nat) e1) := At3.belowAll hr5 hb6
              have HG6 : Hid (Gl w w6 w2.heap.size l y cap bt ot L) := (HGl.out.cur hb5 (Nat.le_refl _)).more hb6
              have HM6 : Hid (Mkg w6 w3.heap.size w3.heap.size ((m : Int) - 1) v Y) := (HM.out.cur hb5 HR.out).below hb6
              have hsz : wr.heap.size ≤ w6.heap.size := Nat.le_trans hb5.size hb6.size
              have h3r : w3.heap.size < wr.heap.size := HM.out.sc.lt
              have hvb : ∀ z, v.ownBlock = some z → w3.heap.size ≤ z ∧ z < wr.heap.size := fun z q => HM.out.row.lt z q
              clear HN ho5 hr5 hb5 HM HGl HR
              have n3 : w6.cell? ⟨w5.heap.size, 3, none⟩ = some (.slice a3 N.kids.length c3) := hA6.cell 3
              have n0 : w6.cell? ⟨w5.heap.size, 0, none⟩ = some (.int .i64 N.kind) := hA6.cell 0
              have n1 : w6.cell? ⟨w5.heap.size, 1, none⟩ = some (.slice a1 N.ints.length c1) := hA6.cell 1
              have n2 : w6.cell? ⟨w5.heap.size, 2, none⟩ = some (.slice a2 N.texts.length c2) := hA6.cell 2
              have e2 : w6.cell? ⟨w2.heap.size, 2, none⟩ = some (.int .i64 e1) := HR6.out.c2
              by_cases he1 : e1 = 0
              · subst he1
                have HLn : Hid (L.Nodup ∧ sum6 L + L.length ≤ 1000 ∧ ∀ s ∈ L, ok8 s = true) := HLs.out
                obtain ⟨q1, q2, q3, q4⟩ := gNd_three hN (by omega) HLs.out.1 HLs.out.2.2
                have hbg := q3 1000 (Nat.le_refl _) (by omega) (by have := HLs.out.2.1; omega)
                have hk1 : k1 ≤ nb.size := by have := gNd_le nb i L ed k 0 hkb; rw [hN] at this; exact this
                have hv3 : v.ownBlock ≠ some w3.heap.size := HM6.out.ne
                have HC6 : Hid (∀ T k' e', gNs nb L (m - (i + 1)) (i + 1) k1 (ed - N.kids.length) = (T, k', e') → (P, kz, ez) = (Y.map Nx.nd ++ N :: T, k', e')) := fun T k' e' hq => HC.out (N :: T) k' e' (by
                  rw [show m - i = (m - (i + 1)) + 1 by omega]
                  unfold gNs
                  rw [hN, if_neg (by simp)]
                  dsimp only
                  rw [hq])
                have hkl : N.kids.length ≤ 900 := by omega
                clear HC hN q3
                obtain ⟨av, cv, rfl⟩ := own_shape4 HM6.out.row
                have x0 : w6.cell? ⟨w3.heap.size, 0, none⟩ = some (.slice av Y.length cv) := HM6.out.sc.cell 0
                have x1 := HM6.out.sc.lt
                have f0 := HM6.out.sc.fz 0
                go_wp2_with (at_builtin; refine wpList_append_lies _ rfl (.tmp 87) (.tmp 89) 22 rfl w3.heap.size 49 i0 (.agg #[.int .i64 0, .slice none 0 0, .slice none 0 0, .slice none 0 0]) 4 80 Tryz.underlying22 hi hz0 hz1 hz2 rfl (by decide) _ Y.length (nxV Y) rfl (HM6.out.row.alloc _) ⟨w6.heap.size, 0, none⟩ 1 1 [.int .i64 N.kind, .slice a1 N.ints.length c1, .slice a2 N.texts.length c2, .slice a3 N.kids.length c3] rfl rfl (fun j z hz => World.news_of_block (AtN.new w6 49 _) j z (by simpa using hz)) (by intro z hz; simp at hz; rcases hz with rfl | rfl | rfl | rfl <;> rfl) (by decide) (by have := HYl.out; unfold maxLen; omega) (by have := HYl.out; omega) (by simp; omega) _ rfl ?_)
                intro g2 cap2 w7 hown hgrow hlie hlt7
                clear hw6
                have hg0 : w3.heap.size < w6.heap.size := x1
                have hA7 : AtN 24 w7 w3.heap.size #[.slice av Y.length cv, .int .i64 ((m : Int) - 1)] := (HM6.out.sc.alloc _).kept hgrow (fun e => hv3 e.symm)
                have x7 : w7.cell? ⟨w3.heap.size, 0, none⟩ = some (.slice av Y.length cv) := hA7.cell 0
                have f7 := hA7.fz 0
                have hfr : Fr (MkS w3.heap.size (.slice av Y.length cv)) w6 (w7.setCell ⟨w3.heap.size, 0, none⟩ (.slice (some ⟨g2, 0, none⟩) (Y.length + 1) cap2)) := (((Fr.refl (MkS w3.heap.size (.slice av Y.length cv)) w6).alloc _).trans (Fr.of_grown hgrow (fun q e => .inl e)) (fun i hi _ => hi)).set ⟨w3.heap.size, 0, none⟩ (.inr rfl) _
                have hne : (Value.slice (some ⟨g2, 0, none⟩) (Y.length + 1) cap2).ownBlock ≠ some w3.heap.size := by
                  intro q
                  simp only [Value.ownBlock, Option.some.injEq] at q
                  rcases hlie with p | p
                  · rw [q] at p; exact hv3 p
                  · first | omega | (simp at p; omega)
                have hOw : OwnNx w7 wr.heap.size ⟨N, a1, c1, a2, c2, a3, c3⟩ := OwnNx.kept (OwnNx.kept HO6.out (World.grownBy_alloc w6 _ none) (by simp)) hgrow (fun z q => (hvb z q).2)
                have HM8 : Hid (Mkg (w7.setCell ⟨w3.heap.size, 0, none⟩ (.slice (some ⟨g2, 0, none⟩) (Y.length + 1) cap2)) w3.heap.size w3.heap.size ((m : Int) - 1) (.slice (some ⟨g2, 0, none⟩) (Y.length + 1) cap2) (Y ++ [⟨N, a1, c1, a2, c2, a3, c3⟩])) := by
                  refine HM6.out.next hfr (by simpa using AtN.set hA7 0 (.slice (some ⟨g2, 0, none⟩) (Y.length + 1) cap2)) (own_set' hown hne _) (OwnNx.mono (hOw.kept (grown_set (grown_refl w7 (some w3.heap.size)) 0 _) (fun k hk => by cases hk; omega)) (by omega))
                have hS : ∀ z, MkS w3.heap.size (.slice av Y.length cv) z → w3.heap.size ≤ z := fun z hz => by
                  rcases hz with hz | hz
                  · exact (hvb z hz).1
                  · omega
                have HG8 : Hid (Gl w (w7.setCell ⟨w3.heap.size, 0, none⟩ (.slice (some ⟨g2, 0, none⟩) (Y.length + 1) cap2)) w2.heap.size l y cap bt ot L) := HG6.out.fr hfr (fun z hz => by have := hS z hz; omega)
                have HR8 : Hid (Rf (w7.setCell ⟨w3.heap.size, 0, none⟩ (.slice (some ⟨g2, 0, none⟩) (Y.length + 1) cap2)) w2.heap.size nb (k1 : Nat) 0) := At3.fr HR6.out hfr (fun hz => by have := hS _ hz; omega)
                have HY8 : Hid (∀ j, j < (Y ++ [(⟨N, a1, c1, a2, c2, a3, c3⟩ : Nx)]).length → big ((Y ++ [(⟨N, a1, c1, a2, c2, a3, c3⟩ : Nx)]).getD j noNx).nd = false ∧ fine ((Y ++ [(⟨N, a1, c1, a2, c2, a3, c3⟩ : Nx)]).getD j noNx).nd.ints) := fun j hj => by
                  by_cases hlt : j < Y.length
                  · rw [show (Y ++ [(⟨N, a1, c1, a2, c2, a3, c3⟩ : Nx)]).getD j noNx = Y.getD j noNx by rw [List.getD_eq_getElem?_getD, List.getElem?_append_left hlt, ← List.getD_eq_getElem?_getD]]
                    exact HY.out j hlt
                  · obtain rfl : j = Y.length := by simp at hj; omega
                    rw [show (Y ++ [(⟨N, a1, c1, a2, c2, a3, c3⟩ : Nx)]).getD Y.length noNx = ⟨N, a1, c1, a2, c2, a3, c3⟩ by simp]
                    exact ⟨hbg, q4⟩
                have HC8 : Hid (∀ T k' e', gNs nb L (m - (i + 1)) (i + 1) k1 (ed - N.kids.length) = (T, k', e') → (P, kz, ez) = ((Y ++ [(⟨N, a1, c1, a2, c2, a3, c3⟩ : Nx)]).map Nx.nd ++ T, k', e')) := fun T k' e' hq => by
                  rw [HC6.out T k' e' hq]; simp
                clear hown hgrow hlie hA7 hfr hne hOw hS HM6 HG6 HR6 HY HC6 HO6 hvb x0 n0 n1 n2 n3 e2
                go_wp2_with fail
                go_roundw
                case rel => exact ⟨i + 1, k1, ed - N.kids.length, _, Y ++ [⟨N, a1, c1, a2, c2, a3, c3⟩], by go_num, by go_num, by omega, by show _ = _; rw [List.length_append, HYl.out]; rfl, by omega, hk1, by omega, by omega, HC8, HM8, HG8, HR8, HY8⟩
                case measure => simp [intOf]; omega
              · have he1' : (e1 != 0) = true := by simpa using he1
                have hfin := HC.out [] k1 e1 (by obtain ⟨q, hq⟩ : ∃ q, m - i = q + 1 := ⟨m - i - 1, by omega⟩; rw [hq]; unfold gNs; rw [hN, if_pos he1])
                have hez : ez = e1 := by simp only [Prod.mk.injEq] at hfin; exact hfin.2.2
                have HV : Hid _ := tell_bad (GeIs.bad ((geK_5 tx nb l hok hT hU hn0 HS.out (by rw [hez]; exact he1)).trans hez) he1) HG6.out.bel HG6.out.r
                clear hfin HO6 HM6 HC HY n0 n1 n2 n3 hvb
                have x0 : w6.cell? ⟨w.heap.size + 1 + 1, 0, none⟩ = some (.slice none 0 0) := HG6.out.n.cell 0
                have x1 : w6.cell? ⟨w.heap.size + 1 + 1, 1, none⟩ = some (.int .i64 0) := HG6.out.n.cell 1
                have r0 : w6.cell? ⟨w.heap.size + 1, 0, none⟩ = some (.slice none 0 0) := HG6.out.r.cell 0
                have r1 : w6.cell? ⟨w.heap.size + 1, 1, none⟩ = some (.int .i64 0) := HG6.out.r.cell 1
                have f0 := HG6.out.r.fz 0
                have f1 := HG6.out.r.fz 1
                go_wp2_with fail
                go_region
                all_goals go_wp2_with fail
                all_goals obtain ⟨v2, v1⟩ := HV.out _ rfl
                all_goals have c0 := v2.cell 0
                all_goals have c1 := v2.cell 1
                all_goals exact bodyPost_ret (v := .tuple #[.agg #[.slice none 0 0, .int .i64 0], .int .i64 e1]) (by simp [results, Tryz.results13, go_sem, c0, c1]) rfl v1.drew
            · have hlt' : ¬ (i : Int) < m := by omega
              have hfin := HC.out [] k 0 (by rw [show m - i = 0 by omega]; rfl)
              simp only [Prod.mk.injEq, List.append_nil] at hfin
              obtain ⟨rfl, rfl, rfl⟩ := hfin
              have e1 : wr.cell? ⟨w2.heap.size, 1, none⟩ = some (.int .i64 (kz : Nat)) := HR.out.c1
              have x0 : wr.cell? ⟨w.heap.size + 1 + 1, 0, none⟩ = some (.slice none 0 0) := HGl.out.n.cell 0
              have x1 : wr.cell? ⟨w.heap.size + 1 + 1, 1, none⟩ = some (.int .i64 0) := HGl.out.n.cell 1
              have r0 : wr.cell? ⟨w.heap.size + 1, 0, none⟩ = some (.slice none 0 0) := HGl.out.r.cell 0
              have r1 : wr.cell? ⟨w.heap.size + 1, 1, none⟩ = some (.int .i64 0) := HGl.out.r.cell 1
              have f0 := HGl.out.r.fz 0
              have f1 := HGl.out.r.fz 1
              by_cases hkk : kz < nb.size
              · have hkk' : (kz : Int) < nb.size := by omega
                have HV : Hid _ := tell_bad (GeIs.bad (geK_6 tx nb l hok hT hU hn0 HS.out hkk) (by decide)) HGl.out.bel HGl.out.r
                clear HC HM HGl HR HY
                go_wp2_with fail
                obtain ⟨v2, v1⟩ := HV.out _ rfl
                have c0 := v2.cell 0
                have c1 := v2.cell 1
                exact bodyPost_ret (v := .tuple #[.agg #[.slice none 0 0, .int .i64 0], .int .i64 8]) (by simp [results, Tryz.results13, go_sem, c0, c1]) rfl v1
              · have hkk' : ¬ (kz : Int) < nb.size := by omega
                have hK := geK_7 tx nb l hok hT hU hn0 HS.out hkk
                have HSm : Hid (Small Y) := ⟨by have := HYl.out; omega, fun j hj => (HY.out j hj).1⟩
                have HFn : Hid (FnX Y) := fun j hj => (HY.out j hj).2
                obtain ⟨av, cv, rfl⟩ := own_shape4 HM.out.row
                have hrr : (m : Int) - 1 = (Y.length : Int) - 1 := by have := HYl.out; omega
                have HOf : Hid (∀ q, GeS Y ((m : Int) - 1) L l q → (q ≠ 0 → GeIs tx nb l (([] : List Nx).map Nx.nd) 0 q) ∧ (q = 0 → GeIs tx nb l (Y.map Nx.nd) ((m : Int) - 1) 0)) := fun q hq => GeIs.of hK hrr hq
                obtain ⟨d, hd⟩ := depth_there Y ((m : Int) - 1)
                have HSc : Hid (∀ W, Below wr.heap.size wr W → ScAt W av Y) := fun W q => HM.out.scAt.belowB q
                have HCk : Hid _ := rcheck_any Y av cv ((m : Int) - 1) wr HM.out.scAt HSm.out
                clear HC hK hrr HY HR
                have s0 : wr.cell? ⟨w3.heap.size, 0, none⟩ = some (.slice av Y.length cv) := HM.out.sc.cell 0
                have s1 : wr.cell? ⟨w3.heap.size, 1, none⟩ = some (.int .i64 ((m : Int) - 1)) := HM.out.sc.cell 1
                go_wp2_with fail
                refine Calls.mono HCk.out ?_
                rintro e w8 ⟨n, z, rfl, hck, hb8⟩
                have HW8 : Hid (Below wr.heap.size wr w8) := hb8
                have HG8 : Hid (Gl w w8 w2.heap.size l y cap bt ot L) := HGl.out.more hb8
                have HM8 : Hid (Mkg w8 w3.heap.size w3.heap.size ((m : Int) - 1) (.slice av Y.length cv) Y) := HM.out.below hb8
                have HC8 : Hid (CheckIs Y ((m : Int) - 1) n z ∧ DepthIs Y ((m : Int) - 1) d) := ⟨hck, hd⟩
                clear HCk HGl HM hck hb8 hd x0 x1 r0 r1 f0 f1 s0 s1
                have x0 : w8.cell? ⟨w.heap.size + 1 + 1, 0, none⟩ = some (.slice none 0 0) := HG8.out.n.cell 0
                have x1 : w8.cell? ⟨w.heap.size + 1 + 1, 1, none⟩ = some (.int .i64 0) := HG8.out.n.cell 1
                have r0 : w8.cell? ⟨w.heap.size + 1, 0, none⟩ = some (.slice none 0 0) := HG8.out.r.cell 0
                have r1 : w8.cell? ⟨w.heap.size + 1, 1, none⟩ = some (.int .i64 0) := HG8.out.r.cell 1
                have f0 := HG8.out.r.fz 0
                have f1 := HG8.out.r.fz 1
                by_cases hn8 : n = 0
                · subst hn8
                  have s0 : w8.cell? ⟨w3.heap.size, 0, none⟩ = some (.slice av Y.length cv) := HM8.out.sc.cell 0
                  have s1 : w8.cell? ⟨w3.heap.size, 1, none⟩ = some (.int .i64 ((m : Int) - 1)) := HM8.out.sc.cell 1
                  have a3 : w8.cell? ⟨w.heap.size, 3, none⟩ = some (.int .i64 l.d) := HG8.out.a.cell 3
                  have m0 := fun d' os => cell_regrown s0 d' os
                  have m1 := fun d' os => cell_regrown s1 d' os
                  have m3 := fun d' os => cell_regrown a3 d' os
                  have HMe : Hid (∀ W, Below wr.heap.size wr W → Calls Tryz.prog 17 #[.agg #[.slice av Y.length cv, .int .i64 ((m : Int) - 1)]] W fun e w' => e = .returned (.agg #[.int .i64 0, .int .i64 Y.length, .int .i64 (edg Y : Nat), .int .i64 (d : Nat), .int .i64 (txb Y : Nat)]) ∧ Below W.heap.size W w') := fun W q => rmeasure_any Y av cv ((m : Int) - 1) d W (HSc.out W q) HSm.out HC8.out.2
                  have cM := fun d' os => Calls.regrown_of (HMe.out (grow (redrawn w8 d') os) (HW8.out.trans ((below_regrown w8 d' os).mono HW8.out.size)))
                  have hfd : ∀ W : World, Sem.run Tryz.prog (Instr.field 34 (.agg #[.int .i64 0, .int .i64 Y.length, .int .i64 (edg Y : Nat), .int .i64 (d : Nat), .int .i64 (txb Y : Nat)]) 3) W = Result.ok (.int .i64 (d : Nat)) W := fun W => by first | rfl | simp [Instr.field, go_sem] | kernel_rfl
                  have HBd : Hid (∀ d' os, Below w8.heap.size w8 (grow (redrawn w8 d') os)) := fun d' os => below_regrown w8 d' os
                  go_wp2_with fail
                  refine wp_region_quiet_below (by kernel_rfl) (by kernel_rfl) ?_
                  repeat (first | go_big_quiet_step ((go_at_call 17; exact cM _ _)) | quiet_step ((go_at_call 17; exact cM _ _)))
                  refine wpQuiet_nil ?_
                  intro _ hw'
                  obtain ⟨⟨dq, osq⟩, hw''⟩ := hw'
                  subst hw''
                  have hb9 := HBd.out dq osq
                  have HW9 : Hid (Below wr.heap.size wr (grow (redrawn w8 dq) osq)) := HW8.out.trans (hb9.mono HW8.out.size)
                  have HG9 : Hid (Gl w (grow (redrawn w8 dq) osq) w2.heap.size l y cap bt ot L) := HG8.out.more hb9
                  have HM9 : Hid (Mkg (grow (redrawn w8 dq) osq) w3.heap.size w3.heap.size ((m : Int) - 1) (.slice av Y.length cv) Y) := HM8.out.below hb9
                  clear HW8 HG8 HM8 HBd hb9 cM m0 m1 m3 s0 s1 a3 x0 x1 r0 r1 f0 f1
                  generalize grow (redrawn w8 dq) osq = w9 at *
                  have x0 : w9.cell? ⟨w.heap.size + 1 + 1, 0, none⟩ = some (.slice none 0 0) := HG9.out.n.cell 0
                  have x1 : w9.cell? ⟨w.heap.size + 1 + 1, 1, none⟩ = some (.int .i64 0) := HG9.out.n.cell 1
                  have r0 : w9.cell? ⟨w.heap.size + 1, 0, none⟩ = some (.slice none 0 0) := HG9.out.r.cell 0
                  have r1 : w9.cell? ⟨w.heap.size + 1, 1, none⟩ = some (.int .i64 0) := HG9.out.r.cell 1
                  have f0 := HG9.out.r.fz 0
                  have f1 := HG9.out.r.fz 1
                  by_cases hdd : l.d < (d : Int)
                  · have HV : Hid _ := tell_bad ((HOf.out 19 ⟨0, z, d, HC8.out.1, HC8.out.2, .inr ⟨rfl, .inl ⟨hdd, rfl⟩⟩⟩).1 (by decide)) HG9.out.bel HG9.out.r
                    go_wp2_with fail
                    obtain ⟨v2, v1⟩ := HV.out _ rfl
                    have c0 := v2.cell 0
                    have c1 := v2.cell 1
                    exact bodyPost_ret (v := .tuple #[.agg #[.slice none 0 0, .int .i64 0], .int .i64 19]) (by simp [results, Tryz.results13, go_sem, c0, c1]) rfl v1
                  · have hdd' : ¬ l.d < (d : Int) := hdd
                    have s0 : w9.cell? ⟨w3.heap.size, 0, none⟩ = some (.slice av Y.length cv) := HM9.out.sc.cell 0
                    have s1 : w9.cell? ⟨w3.heap.size, 1, none⟩ = some (.int .i64 ((m : Int) - 1)) := HM9.out.sc.cell 1
                    have HIs : Hid _ := ris_any Y av cv ((m : Int) - 1) w9 (HSc.out _ HW9.out) HSm.out
                    go_wp2_with fail
                    refine Calls.mono HIs.out ?_
                    rintro e wa ⟨bc, rfl, hbc, hba⟩
                    have HWa : Hid (Below wr.heap.size wr wa) := HW9.out.trans (hba.mono HW9.out.size)
                    have HGa : Hid (Gl w wa w2.heap.size l y cap bt ot L) := HG9.out.more hba
                    have HMa : Hid (Mkg wa w3.heap.size w3.heap.size ((m : Int) - 1) (.slice av Y.length cv) Y) := HM9.out.below hba
                    have HBc : Hid (bc = true ↔ IsCan Y ((m : Int) - 1)) := hbc
                    clear HIs HW9 HG9 HM9 hba hbc x0 x1 r0 r1 f0 f1 s0 s1
                    have x0 : wa.cell? ⟨w.heap.size + 1 + 1, 0, none⟩ = some (.slice none 0 0) := HGa.out.n.cell 0
                    have x1 : wa.cell? ⟨w.heap.size + 1 + 1, 1, none⟩ = some (.int .i64 0) := HGa.out.n.cell 1
                    have r0 : wa.cell? ⟨w.heap.size + 1, 0, none⟩ = some (.slice none 0 0) := HGa.out.r.cell 0
                    have r1 : wa.cell? ⟨w.heap.size + 1, 1, none⟩ = some (.int .i64 0) := HGa.out.r.cell 1
                    have f0 := HGa.out.r.fz 0
                    have f1 := HGa.out.r.fz 1
                    cases bc with
                    | false =>
                      have HV : Hid _ := tell_bad ((HOf.out 16 ⟨0, z, d, HC8.out.1, HC8.out.2, .inr ⟨rfl, .inr ⟨by omega, .inl ⟨fun q => by simpa using HBc.out.2 q, rfl⟩⟩⟩⟩).1 (by decide)) HGa.out.bel HGa.out.r
                      go_wp2_with fail
                      obtain ⟨v2, v1⟩ := HV.out _ rfl
                      have c0 := v2.cell 0
                      have c1 := v2.cell 1
                      exact bodyPost_ret (v := .tuple #[.agg #[.slice none 0 0, .int .i64 0], .int .i64 16]) (by simp [results, Tryz.results13, go_sem, c0, c1]) rfl v1
                    | true =>
                      have s0 : wa.cell? ⟨w3.heap.size, 0, none⟩ = some (.slice av Y.length cv) := HMa.out.sc.cell 0
                      have s1 : wa.cell? ⟨w3.heap.size, 1, none⟩ = some (.int .i64 ((m : Int) - 1)) := HMa.out.sc.cell 1
                      have HTx : Hid _ := rtexts_any Y av cv ((m : Int) - 1) wa (HSc.out _ HWa.out) HSm.out
                      go_wp2_with fail
                      refine Calls.mono HTx.out ?_
                      rintro e wb ⟨ab, cb, bb, ob, rfl, hxt, hbb⟩
                      have HGb : Hid (Gl w wb w2.heap.size l y cap bt ot L) := HGa.out.more hbb
                      have HMb : Hid (Mkg wb w3.heap.size w3.heap.size ((m : Int) - 1) (.slice av Y.length cv) Y) := HMa.out.below hbb
                      have HSa : Hid _ := same6_any ab y (itn (allT Y)).length L.length cb cap bb ob bt ot (itn (allT Y)) L wb rfl rfl hxt.ptr HGb.out.x.ptr hxt.at_ HGb.out.x.at_ (by have h1 := (allT_small Y HSm.out Y.length (Nat.le_refl _)).1; rw [List.take_of_length_le (Nat.le_refl _)] at h1; have h2 := itn_len (allT Y); have h3 := HSm.out.1; omega) (by omega)
                      obtain ⟨U, hU⟩ : ∃ U, itn (allT Y) = U := ⟨_, rfl⟩
                      rw [hU] at HSa
                      have HOf2 : Hid (∀ q, ((U ≠ L ∧ q = 18) ∨ (U = L ∧ q = 0)) → GeS Y ((m : Int) - 1) L l q) := fun q hq => ⟨0, z, d, HC8.out.1, HC8.out.2, .inr ⟨rfl, .inr ⟨by omega, .inr ⟨(HBc.out.1 (by simp)), by rw [hU]; exact hq⟩⟩⟩⟩
                      clear HTx HGa HMa hbb hxt x0 x1 r0 r1 f0 f1 s0 s1
                      rw [hU]
                      go_wp2_with fail
                      refine Calls.mono HSa.out ?_
                      rintro e wc ⟨rfl, hbc2⟩
                      have HGc : Hid (Gl w wc w2.heap.size l y cap bt ot L) := HGb.out.more hbc2
                      have HMc : Hid (Mkg wc w3.heap.size w3.heap.size ((m : Int) - 1) (.slice av Y.length cv) Y) := HMb.out.below hbc2
                      clear HSa HGb HMb hbc2
                      have x0 : wc.cell? ⟨w.heap.size + 1 + 1, 0, none⟩ = some (.slice none 0 0) := HGc.out.n.cell 0
                      have x1 : wc.cell? ⟨w.heap.size + 1 + 1, 1, none⟩ = some (.int .i64 0) := HGc.out.n.cell 1
                      have r0 : wc.cell? ⟨w.heap.size + 1, 0, none⟩ = some (.slice none 0 0) := HGc.out.r.cell 0
                      have r1 : wc.cell? ⟨w.heap.size + 1, 1, none⟩ = some (.int .i64 0) := HGc.out.r.cell 1
                      have f0 := HGc.out.r.fz 0
                      have f1 := HGc.out.r.fz 1
                      have s0 : wc.cell? ⟨w3.heap.size, 0, none⟩ = some (.slice av Y.length cv) := HMc.out.sc.cell 0
                      have s1 : wc.cell? ⟨w3.heap.size, 1, none⟩ = some (.int .i64 ((m : Int) - 1)) := HMc.out.sc.cell 1
                      by_cases hUL : U = L
                      · have HV : Hid _ := tell_good ((HOf.out 0 (HOf2.out 0 (.inr ⟨hUL, rfl⟩))).2 rfl) HGc.out.bel HGc.out.r HMc.out HSm.out HFn.out
                        have hdL : decide (U = L) = true := by simpa using hUL
                        rw [hdL]
                        go_wp2_with fail
                        obtain ⟨v2, v1⟩ := HV.out _ rfl
                        have c0 := v2.cell 0
                        have c1 := v2.cell 1
                        exact bodyPost_ret (v := .tuple #[.agg #[.slice av Y.length cv, .int .i64 ((m : Int) - 1)], .int .i64 0]) (by simp [results, Tryz.results13, go_sem, c0, c1]) rfl v1
                      · have HV : Hid _ := tell_bad ((HOf.out 18 (HOf2.out 18 (.inl ⟨hUL, rfl⟩))).1 (by decide)) HGc.out.bel HGc.out.r
                        have hdL : decide (U = L) = false := by simpa using hUL
                        rw [hdL]
                        go_wp2_with fail
                        obtain ⟨v2, v1⟩ := HV.out _ rfl
                        have c0 := v2.cell 0
                        have c1 := v2.cell 1
                        exact bodyPost_ret (v := .tuple #[.agg #[.slice none 0 0, .int .i64 0], .int .i64 18]) (by simp [results, Tryz.results13, go_sem, c0, c1]) rfl v1
                · have hn8' : (n != 0) = true := by simpa using hn8
                  have HV : Hid _ := tell_bad ((HOf.out n ⟨n, z, d, HC8.out.1, HC8.out.2, .inl ⟨hn8, rfl⟩⟩).1 hn8) HG8.out.bel HG8.out.r
                  go_wp2_with fail
                  obtain ⟨v2, v1⟩ := HV.out _ rfl
                  have c0 := v2.cell 0
                  have c1 := v2.cell 1
                  exact bodyPost_ret (v := .tuple #[.agg #[.slice none 0 0, .int .i64 0], .int .i64 n]) (by simp [results, Tryz.results13, go_sem, c0, c1]) rfl v1
      · have hne' : (ne != 0) = true := by simpa using hne
        have HV : Hid _ := tell_bad (GeIs.bad (geK_3 tx nb l hok hT hU hne) hne) HGl3.out.bel HGl3.out.r
        go_wp2_with fail
        go_region
        all_goals go_wp2_with fail
        all_goals obtain ⟨v2, v1⟩ := HV.out _ rfl
        all_goals have c0 := v2.cell 0
        all_goals have c1 := v2.cell 1
        all_goals exact bodyPost_ret (v := .tuple #[.agg #[.slice none 0 0, .int .i64 0], .int .i64 ne]) (by simp [results, Tryz.results13, go_sem, c0, c1]) rfl v1.drew
    · have hte' : (te != 0) = true := by simpa using hte
      have HV : Hid _ := tell_bad (GeIs.bad (geK_2 tx nb l hok hT hte) hte) HB2.out HR2.out
      go_wp2_with fail
      obtain ⟨v2, v1⟩ := HV.out _ rfl
      have c0 := v2.cell 0
      have c1 := v2.cell 1
      exact bodyPost_ret (v := .tuple #[.agg #[.slice none 0 0, .int .i64 0], .int .i64 te]) (by simp [results, Tryz.results13, go_sem, c0, c1]) rfl v1
end Go.Proofs.YthfemhpbamcpjaaGreatDoor
