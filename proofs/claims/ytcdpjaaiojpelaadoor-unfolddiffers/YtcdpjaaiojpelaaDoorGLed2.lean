/- The contract of ref's Led, walked. -/
import Derived.Test.YtcdpjaaiojpelaaDoorGApp
import Derived.Test.YtcdpjaaiojpelaaDoorGReg
namespace Go.Proofs.YtcdpjaaiojpelaaDoor
open Go.RowKit Go.Maps Go.WideMaps Go.Sort

set_option maxRecDepth 10000 in
set_option maxHeartbeats 1000000 in
theorem led_any (X : List Nx) (a : Option Addr) (c f : Nat) (r : Int) (w : World) (h : ScAt w a X) (hX : Small X) (hok : ∀ i, i < X.length → okAt X i) (hf : f < X.length) :
    Calls Tryd.prog 33 #[.agg #[.slice a X.length c, .int .i64 r], .int .i64 (f : Int)] w fun e w' => LedOut (kX X) f w w' e := by
  obtain ⟨i1, hi1, hz10, hz11, hz12⟩ := info_parts Tryd.infoB9
  have hn := hX.1
  have hf' : (f : Int) < X.length := by omega
  have HS : Hid (ScAt w a X ∧ Small X ∧ ∀ i, i < X.length → okAt X i) := ⟨h, hX, hok⟩
  have hmk : (Instr.makeSlice 50 (.int .i64 (X.length : Int)) (.int .i64 (X.length : Int))).run Tryd.prog (w.alloc (.cells #[.slice a X.length c, .int .i64 r] 24)) = .ok (.slice (some ⟨w.heap.size + 1, 0, none⟩) X.length X.length) ((w.alloc (.cells #[.slice a X.length c, .int .i64 r] 24)).alloc (.cells (mtV X.length []) 4)) := by
    have := run_make (P := Tryd.prog) (w.alloc (.cells #[.slice a X.length c, .int .i64 r] 24)) 50 4 i1 (.bool false) Tryd.underlying50 hi1 hz10 .i64 .i64 X.length X.length (by omega) (by omega) (by rw [hz12]; omega) (by omega)
    rw [hz11, Int.toNat_natCast, mtV_new] at this
    simpa using this
  have hA1 : AtN 4 ((w.alloc (.cells #[.slice a X.length c, .int .i64 r] 24)).alloc (.cells (mtV X.length []) 4)) (w.heap.size + 1) (mtV X.length []) := mk_at (AtN.new _ 4 _) (by simp)
  have hA0 : AtN 24 ((w.alloc (.cells #[.slice a X.length c, .int .i64 r] 24)).alloc (.cells (mtV X.length []) 4)) w.heap.size #[.slice a X.length c, .int .i64 r] := (AtN.new w 24 _).alloc _
  have hB1 : Below w.heap.size w ((w.alloc (.cells #[.slice a X.length c, .int .i64 r] 24)).alloc (.cells (mtV X.length []) 4)) := ((Below.refl w.heap.size w).alloc (Nat.le_refl _) _).alloc (by simp) _
  obtain ⟨m0, hm0⟩ : ∃ m, mtV X.length [] = m := ⟨_, rfl⟩
  have Hm0 : Hid (mtV X.length [] = m0) := hm0
  rw [hm0] at hmk hA1 hA0 hB1
  have hs2 := h.belowB hB1
  obtain ⟨b, o, rfl, hbl, -, -, -, d3⟩ := hs2.node hf
  have hk3 := (hs2.each f hf).k
  have hkl := hX.kids hf
  have HK0 : Hid ((kX X).getD f [] = (X.getD f noNx).nd.kids.map Int.toNat) := kX_at X f hf
  have hnv := nV_toNat _ (hok f hf)
  generalize X.getD f noNx = N at *
  have x0 : ((w.alloc (.cells #[.slice (some ⟨b, o, none⟩) X.length c, .int .i64 r] 24)).alloc (.cells m0 4)).cell? ⟨w.heap.size, 0, none⟩ = some (.slice (some ⟨b, o, none⟩) X.length c) := hA0.cell 0
  obtain ⟨w1, hw1⟩ : ∃ w1, (w.alloc (.cells #[.slice (some ⟨b, o, none⟩) X.length c, .int .i64 r] 24)).alloc (.cells m0 4) = w1 := ⟨_, rfl⟩
  rw [hw1] at hmk hA1 hA0 hB1 hs2 hk3 d3 x0 hbl
  have hsz1 : w1.heap.size = w.heap.size + 2 := by rw [← hw1]; simp
  have x0' : ∀ o', (w1.alloc o').cell? ⟨w.heap.size, 0, none⟩ = some (.slice (some ⟨b, o, none⟩) X.length c) := fun o' => (hA0.alloc o').cell 0
  have d3' : ∀ o', (w1.alloc o').cell? ⟨b, o + f * 4 + 3, none⟩ = some (.slice N.a3 N.nd.kids.length N.c3) := fun o' => (((Below.refl w1.heap.size w1).alloc (Nat.le_refl _) o').cell (p := ⟨b, o + f * 4 + 3, none⟩) hbl).trans d3
  have HE : Hid (∀ o', LsAt (w1.alloc o') N.a3 (iV N.nd.kids)) := fun o' => hk3.alloc o'
  have HZ : Hid (∀ o', AtN 4 (w1.alloc o') (w.heap.size + 1) m0 ∧ AtN 24 (w1.alloc o') w.heap.size #[.slice (some ⟨b, o, none⟩) X.length c, .int .i64 r] ∧ Below w.heap.size w (w1.alloc o')) := fun o' => ⟨hA1.alloc o', hA0.alloc o', hB1.alloc (by omega) o'⟩
  have Hnv : Hid (nV (N.nd.kids.map Int.toNat) = iV N.nd.kids) := hnv
  have Hsz1 : Hid (w1.heap.size = w.heap.size + 2) := hsz1
  clear h hX hok hA1 hA0 hB1 hs2 hk3 hnv hm0 hw1 hsz1
  go_enter Tryd.func33, Tryd.ntmps33
  go_wp2_with (at_builtin; refine wpList_app9 rfl (.tmp 12) (.tmp 18) rfl w1.heap.size _ 0 [] rfl (World.ownsRow_lit w1 #[] 0 (Nat.le_refl _) (by decide) (by simp)) N.a3 N.nd.kids.length N.c3 (iV N.nd.kids) rfl (iV_length _) (HE.out _) (iV_cell _) (by omega) (by simp) ?_)
  intro v2 w2 hown2 hg2
  have hB2 : Below w1.heap.size (w1.alloc (.cells #[] 3)) w2 := below_app hg2 (fun k hk => by simp [Value.ownBlock] at hk; omega) (by simp)
  have hlt1 : w.heap.size + 1 < w1.heap.size := by have h0 : w1.heap.size = w.heap.size + 2 := Hsz1.out; omega
  have HA2 : Hid (AtN 4 w2 (w.heap.size + 1) (mtV X.length [])) := by rw [Hm0.out]; exact (HZ.out _).1.below hB2 (by omega)
  have HA3 : Hid (AtN 24 w2 w.heap.size #[.slice (some ⟨b, o, none⟩) X.length c, .int .i64 r]) := (HZ.out _).2.1.below hB2 (by omega)
  have HB3 : Hid (Below w.heap.size w w2) := (HZ.out _).2.2.trans (hB2.mono (by omega))
  have HW2 : Hid (Work w2 (w.heap.size + 1) v2 ((kX X).getD f [])) := by
    rw [HK0.out]
    refine Work.of_own (B := w1.heap.size) (n := N.nd.kids.length) ?_ (by simp) HA2.out (by decide)
    rw [Hnv.out]
    simpa using hown2
  have hwl : ((kX X).getD f []).length ≤ 300 := by rw [HK0.out, List.length_map]; exact hkl
  clear hown2 hg2 hB2 HZ HE Hnv Hsz1 HK0 Hm0 x0' d3' x0 d3 hmk hbl hkl
  go_wp2_with fail
  go_loopg [6] ((X.length - ([] : List Nat).length) * 301 + ((kX X).getD f []).length) (fun m wv wr => ∃ (work met : List Nat), Hid (m = (X.length - met.length) * 301 + work.length) ∧ work.length ≤ (met.length + 1) * 300 ∧ Hid (Work wr (w.heap.size + 1) wv work) ∧ Hid (LInv (kX X) f work met) ∧ Hid (AtN 4 wr (w.heap.size + 1) (mtV X.length met)) ∧ Hid (AtN 24 wr w.heap.size #[.slice (some ⟨b, o, none⟩) X.length c, .int .i64 r]) ∧ Hid (Below w.heap.size w wr))
  case atStart => exact ⟨_, [], rfl, by simpa using hwl, HW2, LInv.start _ _, HA2, HA3, HB3⟩
  case round =>
    clear HW2 HA2 HA3 HB3 hwl
    obtain ⟨work, met, Hm, hwl, HW, HI, HA, HAs, HB⟩ := hrel
    obtain ⟨aw, cw, rfl, hcw, hlw⟩ := HW.out
    have hml : met.length ≤ 61 := by have := HI.out.len; rw [kX_length] at this; omega
    cases work with
    | nil =>
      have HV : Hid (LedOut (kX X) f w wr (.returned (.slice (some ⟨w.heap.size + 1, 0, none⟩) X.length X.length))) := ⟨w.heap.size + 1, met, by rw [kX_length], by rw [kX_length]; exact HA.out, HI.out.fin, HB.out⟩
      clear HW HI HA HAs HB hlw HS Hm
      go_wp2_with fail
      go_ret
      exact HV.out
    | cons x l =>
      obtain ⟨b2, o2, rfl⟩ := hlw.some
      have dx := hlw.rest.2
      have hxX : x < X.length := by
        have := Ok9.rt (kX_ok HS.out.2.2) (by rw [kX_length]; exact hf) (HI.out.k x (by simp)).rt
        rwa [kX_length] at this
      have hx' : (x : Int) < X.length := by omega
      have y0 : wr.cell? ⟨w.heap.size + 1, x, none⟩ = some (.bool (decide (x ∈ met))) := by rw [HA.out.cell, mtV_at _ _ _ hxX]
      rw [List.length_cons] at hwl hcw ⊢
      obtain ⟨y, hsl, hy⟩ := slice_one wr b2 o2 l.length cw hcw
      have Hl2 : Hid (LsQ (fun b => b ≠ w.heap.size + 1) wr (some y) (nV l)) := hlw.rest' hy
      have hlc : l.length ≤ cw - 1 := by omega
      clear hy hlw HW
      by_cases hin : x ∈ met
      · rw [decide_eq_true hin] at y0
        have HI2 : Hid (LInv (kX X) f l met) := HI.out.skip hin
        have Hm2 : Hid ((X.length - met.length) * 301 + l.length < gk) := by
          show _ < _
          rw [Hm.out, List.length_cons]
          omega
        clear HI Hm hin
        go_wp2_with fail
        go_roundg ((X.length - met.length) * 301 + l.length)
        case measure => exact Hm2.out
        case rel => exact ⟨l, met, rfl, by omega, ⟨some y, cw - 1, rfl, hlc, Hl2.out⟩, HI2, HA, HAs, HB⟩
      · rw [decide_eq_false hin] at y0
        have HI2 : Hid (LInv (kX X) f (l ++ (kX X).getD x []) (met ++ [x])) := HI.out.add (kX_ok HS.out.2.2) (by rw [kX_length]; exact hf) hin
        have hml2 : met.length + 1 ≤ X.length := by
          have := HI2.out.len
          rw [kX_length] at this
          simpa using this
        have yf := HA.out.fz x
        obtain ⟨b3, o3, e3, hb3, -, -, -, d3⟩ := (HS.out.1.belowB HB.out).node hxX
        cases e3
        have hkl := HS.out.2.1.kids hxX
        have HKx : Hid ((kX X).getD x [] = (X.getD x noNx).nd.kids.map Int.toNat) := kX_at X x hxX
        have Hnv : Hid (nV ((X.getD x noNx).nd.kids.map Int.toNat) = iV (X.getD x noNx).nd.kids) := nV_toNat _ (HS.out.2.2 x hxX)
        have HEk : Hid (∀ W, Below w.heap.size w W → LsAt W (X.getD x noNx).a3 (iV (X.getD x noNx).nd.kids) ∧ W.cell? ⟨b, o + x * 4 + 3, none⟩ = some (.slice (X.getD x noNx).a3 (X.getD x noNx).nd.kids.length (X.getD x noNx).c3)) := fun W hW => by
          have hs := HS.out.1.belowB hW
          obtain ⟨b4, o4, e4, _, _, _, _, d4⟩ := hs.node hxX
          cases e4
          exact ⟨(hs.each x hxX).k, d4⟩
        generalize X.getD x noNx = N2 at *
        have hset : ∀ (W : World), W = wr.setCell ⟨w.heap.size + 1, x, none⟩ (.bool true) → AtN 4 W (w.heap.size + 1) (mtV X.length (met ++ [x])) ∧ AtN 24 W w.heap.size #[.slice (some ⟨b, o, none⟩) X.length c, .int .i64 r] ∧ Below w.heap.size w W ∧ LsQ (fun b => b ≠ w.heap.size + 1) W (some y) (nV l) := fun W hW => by
          subst hW
          refine ⟨?_, AtN.setOther HAs.out _ (by show w.heap.size + 1 ≠ w.heap.size; omega) _, set_below HB.out _ (by show w.heap.size ≤ w.heap.size + 1; omega) _, Hl2.out.fr ((Fr.refl (fun b => b = w.heap.size + 1) wr).set ⟨w.heap.size + 1, x, none⟩ rfl _) (fun b q _ e => q e)⟩
          have := AtN.set HA.out x (.bool true)
          rwa [mtV_set] at this
        have HW3 := hset _ rfl
        have Hset : Hid (AtN 4 (wr.setCell ⟨w.heap.size + 1, x, none⟩ (.bool true)) (w.heap.size + 1) (mtV X.length (met ++ [x])) ∧ AtN 24 (wr.setCell ⟨w.heap.size + 1, x, none⟩ (.bool true)) w.heap.size #[.slice (some ⟨b, o, none⟩) X.length c, .int .i64 r] ∧ Below w.heap.size w (wr.setCell ⟨w.heap.size + 1, x, none⟩ (.bool true)) ∧ LsQ (fun b => b ≠ w.heap.size + 1) (wr.setCell ⟨w.heap.size + 1, x, none⟩ (.bool true)) (some y) (nV l)) := HW3
        have hgl := HA.out.lt
        have Hlw : Hid (l.length + 1 ≤ (met.length + 1) * 300) := hwl
        have hl2k : l.length ≤ 20000 := by omega
        clear HI hin HW3 hset Hl2 HA HAs HB hwl
        go_wp2_with fail
        obtain ⟨W0, hW0⟩ : ∃ W0, wr.setCell ⟨w.heap.size + 1, x, none⟩ (.bool true) = W0 := ⟨_, rfl⟩
        rw [hW0] at Hset ⊢
        refine facts_region3 (fun W => Below W0.heap.size W0 W) (ldR W0.heap.size) ldC ldD (ldF X (some y) b o c (cw - 1) x w.heap.size W0.heap.size l N2) (by kernel_rfl) (by kernel_rfl) (Below.refl _ _).drew ?hdead (ldF_stab X (some y) b o c (cw - 1) x w.heap.size W0.heap.size l N2) ?gl ?loc ?step ?fin
        case hdead =>
          intro i j oi oj hi hj hd
          simp only [ldD, Bool.or_eq_true, Bool.and_eq_true, beq_iff_eq] at hd
          rcases hd with ((⟨rfl, rfl⟩ | ⟨rfl, rfl⟩) | ⟨rfl, rfl⟩) | ⟨rfl, rfl⟩
          · obtain rfl := Option.some.inj hi
            exact .inl (by kernel_rfl)
          · obtain rfl := Option.some.inj hj
            exact .inr (by kernel_rfl)
          · obtain rfl := Option.some.inj hj
            exact .inr (by kernel_rfl)
          · obtain rfl := Option.some.inj hj
            exact .inr (by kernel_rfl)
        case gl =>
          intro i W W' hR hb
          unfold ldR at hR
          by_cases h5 : i = 2 ∨ i = 9
          · rw [if_pos h5] at hR
            exact hb.trans hR
          · rw [if_neg h5] at hR
            exact hb.grown hR hb.size (by simp)
        case loc =>
          intro j o V V' W ho hd hk h
          rcases j with _|_|_|_|_|_|_|_|_|_|_|j
          · obtain rfl := Option.some.inj ho
            have e : V (some 36) = V' (some 36) := hd
            simp only [ldF] at h ⊢
            rw [← e]; exact h
          · obtain rfl := Option.some.inj ho
            have e : V (some 37) = V' (some 37) := hd
            simp only [ldF] at h ⊢
            rw [← e]; exact h
          · obtain rfl := Option.some.inj ho
            have e : V (some 38) = V' (some 38) := hd
            simp only [ldF] at h ⊢
            rw [← e]; exact h
          · obtain rfl := Option.some.inj ho
            have e : V (some 39) = V' (some 39) := hd
            simp only [ldF] at h ⊢
            rw [← e]; exact h
          · obtain rfl := Option.some.inj ho
            have e : V (some 40) = V' (some 40) := hd
            simp only [ldF] at h ⊢
            rw [← e]; exact h
          · obtain rfl := Option.some.inj ho
            have e : V (some 41) = V' (some 41) := hd
            simp only [ldF] at h ⊢
            rw [← e]; exact h
          · obtain rfl := Option.some.inj ho
            have e : V (some 42) = V' (some 42) := hd
            simp only [ldF] at h ⊢
            rw [← e]; exact h
          · obtain rfl := Option.some.inj ho
            have e : V (some 43) = V' (some 43) := hd
            simp only [ldF] at h ⊢
            rw [← e]; exact h
          · obtain rfl := Option.some.inj ho
            have e : V (some 44) = V' (some 44) := hd
            simp only [ldF] at h ⊢
            rw [← e]; exact h
          · obtain rfl := Option.some.inj ho
            have e : V (some 45) = V' (some 45) := hd
            simp only [ldF] at h ⊢
            rw [← e]; exact h
          · obtain rfl := Option.some.inj ho
            have e : V (some 6) = V' (some 6) := hd
            simp only [ldF] at h ⊢
            rw [← e]; exact h
          · exact absurd ho (by simp)
        case step =>
          intro i o' ho a' W hG hoff hdep K hK
          have t2 : a'.tmps[2]?.getD undef = .pointer (some ⟨w.heap.size, 0, none⟩) := hoff 2 (by kernel_rfl)
          have t7 : a'.tmps[7]?.getD undef = .int .i64 (x : Int) := hoff 7 (by kernel_rfl)
          have hbW : Below w.heap.size w W := Hset.out.2.2.1.trans (hG.mono Hset.out.2.2.1.size)
          have x0 : W.cell? ⟨w.heap.size, 0, none⟩ = some (.slice (some ⟨b, o, none⟩) X.length c) := (AtN.belowAll Hset.out.2.1 hG).cell 0
          obtain ⟨hk3, d4⟩ := HEk.out W hbW
          have Hk3 : Hid (LsAt W N2.a3 (iV N2.nd.kids)) := hk3
          have Hw3 : Hid (LsAt W (some y) (nV l)) := (Hset.out.2.2.2.below hG).toAt
          have hsz : W0.heap.size ≤ W.heap.size := hG.size
          clear hk3 hbW hG Hset HEk
          rcases i with _|_|_|_|_|_|_|_|_|_|_|i
          · obtain rfl := Option.some.inj ho
            clear hdep hoff
            go_simp
            exact hK _ _ (World.grownBy_alloc _ _ _) (fun V' h1 _ => by
              have e : V' (some 36) = _ := h1
              simp only [ldF]
              rw [e]
              exact ⟨World.ownsRow_lit W #[] 0 hsz (by decide) (by simp), _, rfl⟩)
          · obtain rfl := Option.some.inj ho
            have t6 : a'.tmps[6]?.getD undef = .slice (some y) l.length (cw - 1) := hoff 6 (by kernel_rfl)
            clear hdep hoff
            go_simp
            exact hK _ _ (grown_refl _ _) (fun V' h1 _ => by
              have e : V' (some 37) = _ := h1
              simp only [ldF]
              rw [e]
              rfl)
          · obtain rfl := Option.some.inj ho
            have e0 : W.ownsRow W0.heap.size 3 1 (a'.tmps[36]?.getD undef) 0 [] ∧ ∃ z, a'.tmps[36]?.getD undef = .slice (some ⟨z, 0, none⟩) 0 0 := hdep 0 (by kernel_rfl) (.inl (by decide))
            have e1 : a'.tmps[37]?.getD undef = .slice (some y) l.length (cw - 1) := hdep 1 (by kernel_rfl) (.inr (by decide))
            clear hdep hoff
            refine step_app9 rfl (.tmp 36) (.tmp 37) rfl W0.heap.size (a'.tmps[36]?.getD undef) 0 [] (by simp [Act.eval]) e0.1 (some y) l.length (cw - 1) (nV l) (by simpa [Act.eval] using e1) (nV_length _) Hw3.out (nV_cell _) (by omega) hsz ?_
            intro v' w' ho' hg'
            refine hK _ _ (by rw [ldR, if_pos (.inl rfl)]; exact below_app hg' (fun q hq => (e0.1.lt q hq).1) hsz) (fun V' h1 _ => ?_)
            have e : V' (some 38) = v' := h1
            simp only [ldF]
            rw [e]
            simpa using ho'
          · obtain rfl := Option.some.inj ho
            clear hdep hoff
            go_simp
            exact hK _ _ (grown_refl _ _) (fun V' h1 _ => by
              have e : V' (some 39) = _ := h1
              simp only [ldF]
              rw [e]
              rfl)
          · obtain rfl := Option.some.inj ho
            have e0 : a'.tmps[39]?.getD undef = .pointer (some ⟨w.heap.size, 0, none⟩) := hdep 3 (by kernel_rfl) (.inr (by decide))
            clear hdep hoff
            go_simp
            exact hK _ _ (grown_refl _ _) (fun V' h1 _ => by
              have e : V' (some 40) = _ := h1
              simp only [ldF]
              rw [e]
              rfl)
          · obtain rfl := Option.some.inj ho
            clear hdep hoff
            go_simp
            exact hK _ _ (grown_refl _ _) (fun V' h1 _ => by
              have e : V' (some 41) = _ := h1
              simp only [ldF]
              rw [e]
              rfl)
          · obtain rfl := Option.some.inj ho
            have e0 : a'.tmps[40]?.getD undef = .slice (some ⟨b, o, none⟩) X.length c := hdep 4 (by kernel_rfl) (.inr (by decide))
            have e1 : a'.tmps[41]?.getD undef = .int .i64 (x : Int) := hdep 5 (by kernel_rfl) (.inr (by decide))
            clear hdep hoff
            go_simp
            exact hK _ _ (grown_refl _ _) (fun V' h1 _ => by
              have e : V' (some 42) = _ := h1
              simp only [ldF]
              rw [e]
              rfl)
          · obtain rfl := Option.some.inj ho
            have e0 : a'.tmps[42]?.getD undef = .pointer (some ⟨b, o + x * 4, none⟩) := hdep 6 (by kernel_rfl) (.inr (by decide))
            clear hdep hoff
            go_simp
            exact hK _ _ (grown_refl _ _) (fun V' h1 _ => by
              have e : V' (some 43) = _ := h1
              simp only [ldF]
              rw [e]
              rfl)
          · obtain rfl := Option.some.inj ho
            have e0 : a'.tmps[43]?.getD undef = .pointer (some ⟨b, o + x * 4 + 3, none⟩) := hdep 7 (by kernel_rfl) (.inr (by decide))
            clear hdep hoff
            go_simp
            exact hK _ _ (grown_refl _ _) (fun V' h1 _ => by
              have e : V' (some 44) = _ := h1
              simp only [ldF]
              rw [e]
              rfl)
          · obtain rfl := Option.some.inj ho
            have e0 : W.ownsRow W0.heap.size 3 1 (a'.tmps[38]?.getD undef) l.length (nV l) := hdep 2 (by kernel_rfl) (.inl (by decide))
            have e1 : a'.tmps[44]?.getD undef = .slice N2.a3 N2.nd.kids.length N2.c3 := hdep 8 (by kernel_rfl) (.inr (by decide))
            clear hdep hoff
            refine step_app9 rfl (.tmp 38) (.tmp 44) rfl W0.heap.size (a'.tmps[38]?.getD undef) l.length (nV l) (by simp [Act.eval]) e0 N2.a3 N2.nd.kids.length N2.c3 (iV N2.nd.kids) (by simpa [Act.eval] using e1) (iV_length _) Hk3.out (iV_cell _) (by omega) hsz ?_
            intro v' w' ho' hg'
            refine hK _ _ (by rw [ldR, if_pos (.inr rfl)]; exact below_app hg' (fun q hq => (e0.lt q hq).1) hsz) (fun V' h1 _ => ?_)
            have e : V' (some 45) = v' := h1
            simp only [ldF]
            rw [e]
            exact ho'
          · obtain rfl := Option.some.inj ho
            have e0 : W.ownsRow W0.heap.size 3 1 (a'.tmps[45]?.getD undef) (l.length + N2.nd.kids.length) (nV l ++ iV N2.nd.kids) := hdep 9 (by kernel_rfl) (.inr (by decide))
            have HE0 : Hid (W.ownsRow W0.heap.size 3 1 (a'.tmps[45]?.getD undef) (l.length + N2.nd.kids.length) (nV l ++ iV N2.nd.kids)) := e0
            clear hdep e0 hoff
            go_simp
            exact hK _ _ (grown_refl _ _) (fun V' h1 _ => by
              have e : V' (some 6) = _ := h1
              simp only [ldF]
              rw [e]
              exact HE0.out)
          · exact absurd ho (by simp)
        case fin =>
          intro V W hG hF
          have y10 : W.ownsRow W0.heap.size 3 1 (V (some 6)) (l.length + N2.nd.kids.length) (nV l ++ iV N2.nd.kids) := hF 10 _ rfl (by decide)
          obtain ⟨a6, c6, e6⟩ := own_shape7 y10
          have HA4 : Hid (AtN 4 W (w.heap.size + 1) (mtV X.length (met ++ [x]))) := AtN.belowAll Hset.out.1 hG
          have HAs4 : Hid (AtN 24 W w.heap.size #[.slice (some ⟨b, o, none⟩) X.length c, .int .i64 r]) := AtN.belowAll Hset.out.2.1 hG
          have HB4 : Hid (Below w.heap.size w W) := Hset.out.2.2.1.trans (hG.mono Hset.out.2.2.1.size)
          have HW4 : Hid (Work W (w.heap.size + 1) (.slice a6 (l.length + N2.nd.kids.length) c6) (l ++ (kX X).getD x [])) := by
            rw [← e6]
            refine Work.of_own (B := W0.heap.size) (n := l.length + N2.nd.kids.length) ?_ (by rw [HKx.out]; simp) HA4.out (by decide)
            rw [HKx.out, show nV (l ++ N2.nd.kids.map Int.toNat) = nV l ++ nV (N2.nd.kids.map Int.toNat) by simp [nV], Hnv.out]
            exact y10
          have hlen4 : (l ++ (kX X).getD x []).length = l.length + N2.nd.kids.length := by rw [HKx.out]; simp
          have Hlen4 : Hid ((l ++ (kX X).getD x []).length ≤ ((met ++ [x]).length + 1) * 300 ∧ (X.length - (met ++ [x]).length) * 301 + (l ++ (kX X).getD x []).length < gk) := by
            rw [hlen4, List.length_append, List.length_singleton, Hm.out, List.length_cons]
            have := Hlw.out
            refine ⟨by omega, ?_⟩
            rw [show X.length - met.length = (X.length - (met.length + 1)) + 1 by omega, Nat.add_mul]
            omega
          clear hF hG y10 hlen4 Hset HEk HKx Hnv Hm Hlw
          simp only [fillA, Act.put, List.setIfInBounds_toArray, List.set_cons_zero, List.set_cons_succ, e6]
          generalize V (some 36) = z36
          generalize V (some 37) = z37
          generalize V (some 38) = z38
          generalize V (some 39) = z39
          generalize V (some 40) = z40
          generalize V (some 41) = z41
          generalize V (some 42) = z42
          generalize V (some 43) = z43
          generalize V (some 44) = z44
          generalize V (some 45) = z45
          clear e6
          go_wp2_with fail
          go_roundg ((X.length - (met ++ [x]).length) * 301 + (l ++ (kX X).getD x []).length)
          case measure => exact Hlen4.out.2
          case rel => exact ⟨l ++ (kX X).getD x [], met ++ [x], rfl, Hlen4.out.1, HW4, HI2, HA4, HAs4, HB4⟩

end Go.Proofs.YtcdpjaaiojpelaaDoor
