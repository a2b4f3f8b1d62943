/- The contracts of the program's reading of a node's texts and kids, and of how many kids there are. -/
import Derived.Test.YtknfecclijoefaaDoorRGl
import Derived.Test.YtknfecclijoefaaDoorLTg
namespace Go.Proofs.YtknfecclijoefaaDoor
open Go.RowKit

theorem tat_any {w : World} {B g gm : Nat} {v : Value} {L : List ByteArray} (h : Tb w B g gm v L) (q : Int) (h0 : 0 ≤ q) :
    Calls Tryd.prog 38 #[.pointer (some ⟨g, 0, none⟩), .int .i64 q] w fun e w' => e = .returned (.tuple #[.string (if (L.length : Int) ≤ q then noT else L.getD q.toNat noT), .bool (!decide ((L.length : Int) ≤ q))]) ∧ w' = w := by
  by_cases hq : (L.length : Int) ≤ q
  · rw [if_pos hq, decide_eq_true hq]
    exact tat_out h q (.inr hq)
  · rw [if_neg hq, decide_eq_false hq]
    obtain ⟨n, rfl⟩ := Int.eq_ofNat_of_zero_le h0
    have hn : n < L.length := by omega
    rw [Int.toNat_natCast, List.getD_eq_getElem?_getD, List.getElem?_eq_getElem hn]
    exact tat_in h n hn

set_option maxRecDepth 10000 in
set_option maxHeartbeats 1000000 in
theorem ptexts_any (bs : ByteArray) (gc n : Nat) (k : Nat) (e : Int) (w : World) {B g gm : Nat} {v : Value} {L : List ByteArray} (h : Cu w gc bs k e) (hs : bs.size ≤ 1000000) (hk : k ≤ bs.size) (hT : ∀ W, w.grownBy W (some gc) → Tb W B g gm v L) (hn : n ≤ 1000) :
    Calls Tryd.prog 43 #[.pointer (some ⟨gc, 0, none⟩), .int .i64 n, .pointer (some ⟨g, 0, none⟩)] w fun r w' => ∃ l v, r = .returned v ∧ Bl w w' gc bs (gTs bs L n k e).2.1 (gTs bs L n k e).2.2 9 v l.length (tV l) ∧ ((gTs bs L n k e).2.2 = 0 → l = (gTs bs L n k e).1) := by
  obtain ⟨i1, hi1, hz10, hz11, hz12⟩ := info_parts Tryd.infoS8
  have hsm : bs.size ≤ maxLen := by unfold maxLen; omega
  have HU : Hid (∀ (W : World) (k : Nat) (e m : Int), Cu W gc bs k e → k ≤ bs.size → Calls Tryd.prog 39 #[.pointer (some ⟨gc, 0, none⟩), .int .u64 m] W fun r w' => r = .returned (.int .i64 (pUint bs k e m).1) ∧ Cu w' gc bs ((pUint bs k e m).2.1 : Nat) (pUint bs k e m).2.2 ∧ W.grownBy w' (some gc)) := fun W k e m q1 q2 => uint_any W gc bs k e m q1 hsm q2
  have HFl : Hid (∀ (W : World) (k : Nat) (e d : Int), Cu W gc bs k e → Calls Tryd.prog 41 #[.pointer (some ⟨gc, 0, none⟩), .int .i64 d] W fun r w' => r = .returned (.tuple #[]) ∧ Cu w' gc bs k (fl e d) ∧ W.grownBy w' (some gc)) := fun W k e d q => fail_any W gc bs k e d q
  have HAt : Hid (∀ (W : World) (q : Int), w.grownBy W (some gc) → 0 ≤ q → Calls Tryd.prog 38 #[.pointer (some ⟨g, 0, none⟩), .int .i64 q] W fun e w' => e = .returned (.tuple #[.string (if (L.length : Int) ≤ q then noT else L.getD q.toNat noT), .bool (!decide ((L.length : Int) ≤ q))]) ∧ w' = W) := fun W q hW h0 => tat_any (hT W hW) q h0
  have HS : Hid (Bl w w gc bs k e 9 (.slice none 0 0) 0 []) := Bl.start h hk
  obtain ⟨R, hR⟩ : ∃ R, gTs bs L n k e = R := ⟨_, rfl⟩
  have HIn0 : Hid (InvT bs L n k e 0 [] k e) := InvT.start bs L n k e
  rw [hR]
  clear h hT
  go_enter Tryd.func43, Tryd.ntmps43
  go_wp2_with fail
  go_loopw [7, 11] (fun v5 iv wr => ∃ (i k' : Nat) (e' : Int) (l : List ByteArray) (v : Value), v = v5 ∧ iv = .int .i64 i ∧ i ≤ n ∧ l.length = i ∧ Hid (InvT bs L n k e i l k' e') ∧ Hid (Bl w wr gc bs k' e' 9 v l.length (tV l))) (fun _ iv _ => n - (intOf iv).toNat)
  case atStart => exact ⟨0, k, e, [], _, rfl, rfl, by omega, rfl, HIn0, HS⟩
  case round =>
    clear HS HIn0
    obtain ⟨i, k', e', l, v, rfl, rfl, hi, rfl, HV, HB⟩ := hrel
    have hkb := HB.out.kb
    by_cases hlt : l.length < n
    · have hlt' : (l.length : Int) < n := by omega
      obtain ⟨x, k3, e3, hq⟩ : ∃ x k3 e3, pUint bs k' e' 16777216 = (x, k3, e3) := ⟨_, _, _, rfl⟩
      have hx := pUint_top bs k' e' 16777216
      have hk3 := pUint_at bs k' e' 16777216 hkb
      have hUc := HU.out wr k' e' 16777216 HB.out.cur hkb
      rw [hq] at hx hk3 hUc
      dsimp only at hx hk3 hUc
      have HUc : Hid _ := hUc
      have hVn := HV.out.next hlt hq
      have hR2 := fun W hW => HAt.out W x hW hx.1
      obtain ⟨bb, hbb⟩ : ∃ bb, decide ((L.length : Int) ≤ x) = bb := ⟨_, rfl⟩
      have he3 : (if (L.length : Int) ≤ x then fl e3 13 else e3) = if bb = true then fl e3 13 else e3 := by rw [← hbb]; simp
      rw [he3] at hVn
      rw [hbb] at hR2
      clear he3 hbb
      generalize (if (L.length : Int) ≤ x then noT else L.getD x.toNat noT) = s at hVn hR2
      have HVn : Hid _ := hVn
      have HR : Hid (∀ W, w.grownBy W (some gc) → _) := hR2
      clear hUc hq HV hVn hR2
      go_wp2_with fail
      refine Calls.mono HUc.out ?_
      rintro r w3 ⟨rfl, hc3, hg3⟩
      have HB3 : Hid _ := HB.out.read hg3 hc3 hk3.2
      clear HB hg3 hc3 HUc
      go_wp2_with fail
      refine Calls.mono (HR.out _ HB3.out.fr) ?_
      rintro r w4 ⟨rfl, hw4⟩
      rw [hw4]
      clear hw4 HR
      go_upto_if 21 with fail
      go_cut [] (fun wc => Hid (Bl w wc gc bs k3 (if bb = true then fl e3 13 else e3) 9 v l.length (tV l)))
      case first =>
        cases bb
        · go_wp2_with fail
          go_meet
          exact HB3
        · go_wp2_with fail
          refine Calls.mono (HFl.out _ k3 e3 13 HB3.out.cur) ?_
          rintro r w5 ⟨rfl, hc5, hg5⟩
          go_wp2_with fail
          go_meet
          exact HB3.out.read hg5 hc5 hk3.2
      case rest =>
        clear HB3
        generalize (if bb = true then fl e3 13 else e3) = e4 at *
        have HB4 := hcut
        clear hcut
        have hsz := HB4.out.fr.size
        go_wp2_with (at_builtin; refine wpList_append_lies _ rfl (.tmp 24) (.tmp 26) 23 rfl w.heap.size 9 i1 (.string ⟨#[]⟩) 1 16 Tryd.underlying23 hi1 hz10 hz11 hz12 rfl (by decide) v l.length (tV l) rfl (HB4.out.own.alloc _) ⟨wc.heap.size, 0, none⟩ 1 1 [.string s] rfl rfl (cell_one_new _ _ _) (by intro u hu; simp at hu; subst hu; rfl) (by decide) (by unfold maxLen; omega) (by omega) (by simp; omega) _ rfl ?_)
        intro g2 cap2 w5 hown2 hgrow2 hlie hlt2
        have HB5 := HB4.out.more ((Below.refl _ _).alloc (Nat.le_refl _) (.cells #[.string s] 9))
        have HB6 : Hid (Bl w w5 gc bs k3 e4 9 (.slice (some ⟨g2, 0, none⟩) (l.length + 1) cap2) (l ++ [s]).length (tV (l ++ [s]))) := HB5.app hgrow2 (by simpa [tV] using hown2)
        clear HB4 HB5 hgrow2 hown2 hlie hlt2
        go_wp2_with fail
        go_roundw
        case rel => exact ⟨l.length + 1, k3, e4, l ++ [s], _, rfl, by go_num, by omega, by simp, HVn, HB6⟩
        case measure => simp [intOf]; omega
    · have hlt' : ¬ (l.length : Int) < n := by omega
      have hf := HV.out.fin (by omega)
      rw [hR] at hf
      obtain ⟨f1, f2, f3⟩ := hf
      rw [f1, f2] at HB
      have HF : Hid _ := f3
      clear HV f1 f2 f3 hkb
      obtain ⟨ao, cap, rfl⟩ := own_shape6 HB.out.own
      go_wp2_with fail
      go_ret
      exact ⟨l, _, rfl, HB.out, HF.out⟩

set_option maxRecDepth 10000 in
set_option maxHeartbeats 1000000 in
theorem pkids_any (bs : ByteArray) (gc n : Nat) (p : Int) (k : Nat) (e : Int) (w : World) (h : Cu w gc bs k e) (hs : bs.size ≤ 1000000) (hk : k ≤ bs.size) (hn : n ≤ 16777216) :
    Calls Tryd.prog 44 #[.pointer (some ⟨gc, 0, none⟩), .int .i64 p, .int .i64 n] w fun r w' => ∃ l v, r = .returned v ∧ Bl w w' gc bs (gKs bs p n k e).2.1 (gKs bs p n k e).2.2 3 v l.length (iV l) ∧ ((gKs bs p n k e).2.2 = 0 → l = (gKs bs p n k e).1) := by
  obtain ⟨i1, hi1, hz10, hz11, hz12⟩ := info_parts Tryd.infoI7
  have hsm : bs.size ≤ maxLen := by unfold maxLen; omega
  have HU : Hid (∀ (W : World) (k : Nat) (e m : Int), Cu W gc bs k e → k ≤ bs.size → Calls Tryd.prog 39 #[.pointer (some ⟨gc, 0, none⟩), .int .u64 m] W fun r w' => r = .returned (.int .i64 (pUint bs k e m).1) ∧ Cu w' gc bs ((pUint bs k e m).2.1 : Nat) (pUint bs k e m).2.2 ∧ W.grownBy w' (some gc)) := fun W k e m q1 q2 => uint_any W gc bs k e m q1 hsm q2
  have HFl : Hid (∀ (W : World) (k : Nat) (e d : Int), Cu W gc bs k e → Calls Tryd.prog 41 #[.pointer (some ⟨gc, 0, none⟩), .int .i64 d] W fun r w' => r = .returned (.tuple #[]) ∧ Cu w' gc bs k (fl e d) ∧ W.grownBy w' (some gc)) := fun W k e d q => fail_any W gc bs k e d q
  have HEr : Hid (∀ (W : World) (k : Nat) (e : Int), Cu W gc bs k e → Calls Tryd.prog 20 #[.pointer (some ⟨gc, 0, none⟩)] W fun r w' => r = .returned (.int .i64 e) ∧ Below W.heap.size W w') := fun W k e q => err_any W gc bs k e q
  have HS : Hid (Bl w w gc bs k e 3 (.slice none 0 0) 0 []) := Bl.start h hk
  obtain ⟨R, hR⟩ : ∃ R, gKs bs p n k e = R := ⟨_, rfl⟩
  have HIn0 : Hid (InvK bs p n k e 0 [] k e) := InvK.start bs p n k e
  rw [hR]
  clear h
  go_enter Tryd.func44, Tryd.ntmps44
  go_wp2_with fail
  go_loopg [7] n (fun gh v5 wr => ∃ (k' : Nat) (e' : Int) (l : List Int) (a : Option Addr) (c : Nat), .slice a l.length c = v5 ∧ gh = n - l.length ∧ l.length ≤ n ∧ Hid (InvK bs p n k e l.length l k' e') ∧ Hid (Bl w wr gc bs k' e' 3 (.slice a l.length c) l.length (iV l)))
  case atStart => exact ⟨k, e, [], none, 0, rfl, rfl, by simp, HIn0, HS⟩
  case round =>
    clear HS HIn0
    obtain ⟨k', e', l, a, c, rfl, rfl, hi, HV, HB⟩ := hrel
    have hkb := HB.out.kb
    by_cases hlt : l.length < n
    · have hlt' : (l.length : Int) < n := by omega
      obtain ⟨x, k3, e3, hq⟩ : ∃ x k3 e3, pUint bs k' e' 16777216 = (x, k3, e3) := ⟨_, _, _, rfl⟩
      have hx := pUint_top bs k' e' 16777216
      have hk3 := pUint_at bs k' e' 16777216 hkb
      have hUc := HU.out wr k' e' 16777216 HB.out.cur hkb
      rw [hq] at hx hk3 hUc
      dsimp only at hx hk3 hUc
      have HUc : Hid _ := hUc
      have hVn := HV.out.next hlt hq
      obtain ⟨bb, hbb⟩ : ∃ bb, decide (x < 1 ∨ p < x) = bb := ⟨_, rfl⟩
      rw [hbb] at hVn
      have HVn : Hid _ := hVn
      have HBb : Hid _ := hbb
      clear hUc hq HV hVn hbb
      go_wp2_with fail
      refine Calls.mono HUc.out ?_
      rintro r w3 ⟨rfl, hc3, hg3⟩
      have HB3 : Hid _ := HB.out.read hg3 hc3 hk3.2
      clear HB hg3 hc3 HUc
      go_upto_region 4 with fail
      go_cut [8, 14, 21] (fun s8 s14 s21 wc => s8 = .int .i64 x ∧ s14 = .int .i64 x ∧ s21 = .bool bb ∧ Hid (Bl w wc gc bs k3 e3 3 (.slice a l.length c) l.length (iV l)))
      case first =>
        have hx0 := hx.1
        by_cases c1 : x = 0
        · obtain rfl : bb = true := by rw [← HBb.out]; exact decide_eq_true (.inl (by omega))
          subst c1
          go_wp2_with fail
          go_meet
          exact ⟨rfl, rfl, rfl, HB3⟩
        · have c1b : (x == 0) = false := by simpa using c1
          by_cases c2 : p < x
          · obtain rfl : bb = true := by rw [← HBb.out]; exact decide_eq_true (.inr c2)
            go_wp2_with fail
            go_meet
            exact ⟨rfl, rfl, rfl, HB3⟩
          · obtain rfl : bb = false := by rw [← HBb.out]; exact decide_eq_false (by omega)
            go_wp2_with fail
            go_meet
            exact ⟨rfl, rfl, rfl, HB3⟩
      case rest =>
        clear HB3 HBb
        obtain ⟨rfl, rfl, rfl, HB4⟩ := hcut
        go_upto_if 21 with fail
        go_cut [] (fun wc => Hid (Bl w wc gc bs k3 (if bb = true then fl e3 13 else e3) 3 (.slice a l.length c) l.length (iV l)))
        case first =>
          cases bb
          · go_wp2_with fail
            go_meet
            exact HB4
          · go_wp2_with fail
            refine Calls.mono (HFl.out _ k3 e3 13 HB4.out.cur) ?_
            rintro r w5 ⟨rfl, hc5, hg5⟩
            go_wp2_with fail
            go_meet
            exact HB4.out.read hg5 hc5 hk3.2
        case rest =>
          clear HB4
          generalize (if bb = true then fl e3 13 else e3) = e4 at *
          have HB5 := hcut
          clear hcut
          go_wp2_with fail
          refine Calls.mono (HEr.out _ k3 e4 HB5.out.cur) ?_
          rintro r w6 ⟨rfl, hb6⟩
          have HB6 : Hid _ := HB5.out.more hb6
          clear HB5 hb6
          by_cases h4 : e4 = 0
          · subst h4
            have hsz := HB6.out.fr.size
            go_wp2_with (at_builtin; refine wpList_append_lies _ rfl (.tmp 27) (.tmp 31) 24 rfl w.heap.size 3 i1 (.int .i64 0) 1 8 Tryd.underlying24 hi1 hz10 hz11 hz12 rfl (by decide) (.slice a l.length c) l.length (iV l) rfl (HB6.out.own.alloc _) ⟨w6.heap.size, 0, none⟩ 1 1 [.int .i64 (wrap64 (p - x))] rfl rfl (cell_one_new _ _ _) (by intro u hu; simp at hu; subst hu; rfl) (by decide) (by unfold maxLen; omega) (by omega) (by simp; omega) _ rfl ?_)
            intro g2 cap2 w7 hown2 hgrow2 hlie hlt2
            have HB7 := HB6.out.more ((Below.refl _ _).alloc (Nat.le_refl _) (.cells #[.int .i64 (wrap64 (p - x))] 3))
            have HB8 : Hid (Bl w w7 gc bs k3 0 3 (.slice (some ⟨g2, 0, none⟩) (l ++ [wrap64 (p - x)]).length cap2) (l ++ [wrap64 (p - x)]).length (iV (l ++ [wrap64 (p - x)]))) := by
              show Bl _ _ _ _ _ _ _ _ _ _
              have := HB7.app hgrow2 hown2
              simpa [iV] using this
            have HVl : Hid (InvK bs p n k e (l ++ [wrap64 (p - x)]).length (l ++ [wrap64 (p - x)]) k3 0) := by
              rw [List.length_append]
              exact ⟨fun _ => HVn.out.1 (by trivial), fun q => absurd rfl q⟩
            clear HB6 HB7 hgrow2 hown2 hlie hlt2 HVn
            go_wp2_with fail
            go_roundg (n - (l.length + 1))
            case measure => omega
            case rel => exact ⟨k3, 0, l ++ [wrap64 (p - x)], some ⟨g2, 0, none⟩, cap2, by simp, by simp, by simp; omega, HVl, HB8⟩
          · have hf := InvK.bad HVn.out h4
            rw [hR] at hf
            obtain ⟨f1, f2⟩ := hf
            have hez : R.2.2 ≠ 0 := by rw [← f2]; exact h4
            have HB7 : Hid (Bl w w6 gc bs R.2.1 R.2.2 3 (.slice none 0 0) 0 []) := by
              have hb := HB6.out
              rw [f1, f2] at hb
              exact ⟨hb.cur, own_nil _ _ _, hb.fr, hb.hg, hb.kb⟩
            have h4' : (e4 != 0) = true := by simpa using h4
            clear HVn f1 f2 hR
            go_wp2_with fail
            go_ret
            exact ⟨[], _, rfl, HB7.out, fun q => absurd q hez⟩
    · have hlt' : ¬ (l.length : Int) < n := by omega
      have hf := HV.out.fin (by omega)
      rw [hR] at hf
      obtain ⟨f1, f2, f3⟩ := hf
      rw [f1, f2] at HB
      have HF : Hid _ := f3
      clear HV f1 f2 f3 hkb
      go_wp2_with fail
      go_ret
      exact ⟨l, _, rfl, HB.out, HF.out⟩

set_option maxRecDepth 10000 in
set_option maxHeartbeats 1000000 in
theorem pcount_any (bs : ByteArray) (gc : Nat) (edges : Int) (S : Sp) (sb : Option Addr) (sc k : Nat) (e : Int) (w : World) (h : Cu w gc bs k e) (hs : bs.size ≤ 1000000) (hk : k ≤ bs.size) (he1 : -9223372036854775808 ≤ edges) (he2 : edges ≤ 9223372036854775807) :
    Calls Tryd.prog 45 #[.pointer (some ⟨gc, 0, none⟩), .agg #[.slice sb S.ints.length sc, .int .i64 S.texts, .int .i64 S.least, .int .i64 S.most], .int .i64 edges] w fun r w' =>
      r = .returned (.int .i64 (pUint bs k e (max edges 0)).1) ∧ Cu w' gc bs (pUint bs k e (max edges 0)).2.1 (if (pUint bs k e (max edges 0)).1 < S.least ∨ (0 ≤ S.most ∧ S.most < (pUint bs k e (max edges 0)).1) then fl (pUint bs k e (max edges 0)).2.2 12 else (pUint bs k e (max edges 0)).2.2) ∧ w.grownBy w' (some gc) := by
  have hsm : bs.size ≤ maxLen := by unfold maxLen; omega
  have hgl := h.lt
  have hc0 : Cu (w.alloc (.cells #[.slice sb S.ints.length sc, .int .i64 S.texts, .int .i64 S.least, .int .i64 S.most] 78)) gc bs k e := At3.alloc h _
  have HA : Hid (AtN 78 (w.alloc (.cells #[.slice sb S.ints.length sc, .int .i64 S.texts, .int .i64 S.least, .int .i64 S.most] 78)) w.heap.size #[.slice sb S.ints.length sc, .int .i64 S.texts, .int .i64 S.least, .int .i64 S.most]) := AtN.new w 78 _
  have HG0 : Hid (w.grownBy (w.alloc (.cells #[.slice sb S.ints.length sc, .int .i64 S.texts, .int .i64 S.least, .int .i64 S.most] 78)) (some gc)) := World.grownBy_alloc _ _ _
  have HFl : Hid (∀ (W : World) (k : Nat) (e d : Int), Cu W gc bs k e → Calls Tryd.prog 41 #[.pointer (some ⟨gc, 0, none⟩), .int .i64 d] W fun r w' => r = .returned (.tuple #[]) ∧ Cu w' gc bs k (fl e d) ∧ W.grownBy w' (some gc)) := fun W k e d q => fail_any W gc bs k e d q
  have HU := uint_any _ gc bs k e (max edges 0) hc0 hsm hk
  have hk6 := pUint_at bs k e (max edges 0) hk
  generalize pUint bs k e (max edges 0) = R at *
  obtain ⟨m, k6, e6⟩ := R
  dsimp only at *
  have HUc : Hid _ := HU
  obtain ⟨bb, hbb⟩ : ∃ bb, decide (m < S.least ∨ (0 ≤ S.most ∧ S.most < m)) = bb := ⟨_, rfl⟩
  have he3 : (if m < S.least ∨ (0 ≤ S.most ∧ S.most < m) then fl e6 12 else e6) = if bb = true then fl e6 12 else e6 := by rw [← hbb]; simp
  rw [he3]
  have HBb : Hid _ := hbb
  clear HU h hc0 he3 hbb
  obtain ⟨ed, hed⟩ : ∃ ed, max edges 0 = ed := ⟨_, rfl⟩
  rw [hed] at HUc
  go_enter Tryd.func45, Tryd.ntmps45
  go_upto_region 1 with fail
  go_cut [7] (fun s7 wc => s7 = .int .i64 m ∧ Hid (Cu wc gc bs k6 e6 ∧ w.grownBy wc (some gc) ∧ AtN 78 wc w.heap.size #[.slice sb S.ints.length sc, .int .i64 S.texts, .int .i64 S.least, .int .i64 S.most]))
  case first =>
    by_cases h0 : edges < 0
    · obtain rfl : ed = 0 := by omega
      go_wp2_with fail
      refine Calls.mono HUc.out ?_
      rintro r w3 ⟨rfl, hc3, hg3⟩
      go_wp2_with fail
      go_meet
      exact ⟨rfl, hc3, gtrans HG0.out hg3, HA.out.kept hg3 (by simp; omega)⟩
    · obtain rfl : ed = edges := by omega
      go_wp2_with fail
      refine Calls.mono HUc.out ?_
      rintro r w3 ⟨rfl, hc3, hg3⟩
      go_wp2_with fail
      go_meet
      exact ⟨rfl, hc3, gtrans HG0.out hg3, HA.out.kept hg3 (by simp; omega)⟩
  case rest =>
    clear HUc hed HG0 HA
    obtain ⟨rfl, HB⟩ := hcut
    go_upto_region 2 with fail
    go_cut [27] (fun s27 wc => s27 = .bool bb ∧ Hid (Cu wc gc bs k6 e6 ∧ w.grownBy wc (some gc)))
    case first =>
      have d2 := HB.out.2.2.cell 2
      have d3 := HB.out.2.2.cell 3
      by_cases c1 : m < S.least
      · obtain rfl : bb = true := by rw [← HBb.out]; exact decide_eq_true (.inl c1)
        go_wp2_with fail
        go_meet
        exact ⟨rfl, HB.out.1, HB.out.2.1⟩
      · by_cases c2 : 0 ≤ S.most
        · by_cases c3 : S.most < m
          · obtain rfl : bb = true := by rw [← HBb.out]; exact decide_eq_true (.inr ⟨c2, c3⟩)
            go_wp2_with fail
            go_meet
            exact ⟨rfl, HB.out.1, HB.out.2.1⟩
          · obtain rfl : bb = false := by rw [← HBb.out]; exact decide_eq_false (by omega)
            go_wp2_with fail
            go_meet
            exact ⟨rfl, HB.out.1, HB.out.2.1⟩
        · obtain rfl : bb = false := by rw [← HBb.out]; exact decide_eq_false (by omega)
          go_wp2_with fail
          go_meet
          exact ⟨rfl, HB.out.1, HB.out.2.1⟩
    case rest =>
      clear HB HBb
      obtain ⟨rfl, HB⟩ := hcut
      cases bb
      · go_wp2_with fail
        go_ret
        exact ⟨rfl, HB.out.1, HB.out.2⟩
      · go_wp2_with fail
        refine Calls.mono (HFl.out _ k6 e6 12 HB.out.1) ?_
        rintro r w5 ⟨rfl, hc5, hg5⟩
        have HB5 : Hid (Cu w5 gc bs k6 (fl e6 12) ∧ w.grownBy w5 (some gc)) := ⟨hc5, gtrans HB.out.2 hg5⟩
        clear HB hc5 hg5
        go_wp2_with fail
        go_ret
        exact ⟨rfl, HB5.out.1, HB5.out.2⟩

end Go.Proofs.YtknfecclijoefaaDoor
