/- The contracts of the program's reading of a node's numbers, texts and kids. -/
import Derived.Test.YtknfecclijoefaaDoorRGl
import Derived.Test.YtknfecclijoefaaDoorLTg
namespace Go.Proofs.YtknfecclijoefaaDoor
open Go.RowKit

set_option maxRecDepth 10000 in
set_option maxHeartbeats 1000000 in
theorem pints_any (bs : ByteArray) (gc : Nat) (C : List Int) (sb : Option Addr) (sc k : Nat) (e : Int) (w : World) (h : Cu w gc bs k e) (hs : bs.size ≤ 1000000) (hk : k ≤ bs.size) (hC : ∀ W, w.grownBy W (some gc) → LsAt W sb (iV C)) (hT : ∀ W, w.grownBy W (some gc) → TabAt W 1 spansC) (hl : C.length ≤ 1000) :
    Calls Tryd.prog 42 #[.pointer (some ⟨gc, 0, none⟩), .slice sb C.length sc] w fun r w' => ∃ l v, r = .returned v ∧ Bl w w' gc bs (gIs bs C k e).2.1 (gIs bs C k e).2.2 2 v l.length (iV l) ∧ ((gIs bs C k e).2.2 = 0 → l = (gIs bs C k e).1) := by
  obtain ⟨i1, hi1, hz10, hz11, hz12⟩ := info_parts Tryd.infoN8
  have hsm : bs.size ≤ maxLen := by unfold maxLen; omega
  have HC : Hid (∀ W, w.grownBy W (some gc) → LsAt W sb (iV C)) := hC
  have HT : Hid (∀ W, w.grownBy W (some gc) → TabAt W 1 spansC) := hT
  have HI : Hid (∀ (W : World) (k : Nat) (e : Int), Cu W gc bs k e → k ≤ bs.size → Calls Tryd.prog 59 #[.pointer (some ⟨gc, 0, none⟩)] W fun r w' => r = .returned (.int .i64 (pInt bs k e).1) ∧ Cu w' gc bs ((pInt bs k e).2.1 : Nat) (pInt bs k e).2.2 ∧ W.grownBy w' (some gc)) := fun W k e q1 q2 => int_any W gc bs k e q1 hsm q2
  have HFl : Hid (∀ (W : World) (k : Nat) (e d : Int), Cu W gc bs k e → Calls Tryd.prog 41 #[.pointer (some ⟨gc, 0, none⟩), .int .i64 d] W fun r w' => r = .returned (.tuple #[]) ∧ Cu w' gc bs k (fl e d) ∧ W.grownBy w' (some gc)) := fun W k e d q => fail_any W gc bs k e d q
  have HIn : Hid (∀ (W : World) (c x : Int), w.grownBy W (some gc) → -9223372036854775808 ≤ x → x ≤ 9223372036854775807 → Calls Tryd.prog 60 #[.int .i64 c, .int .i64 x] W fun e w' => e = .returned (.bool (in7 c x)) ∧ w' = W) := fun W c x hW h1 h2 => in_any c x W (hT W hW) h1 h2
  have HS : Hid (Bl w w gc bs k e 2 (.slice none 0 0) 0 []) := Bl.start h hk
  obtain ⟨R, hR⟩ : ∃ R, gIs bs C k e = R := ⟨_, rfl⟩
  have HIn0 : Hid (InvI bs C k e 0 [] k e) := InvI.start bs C k e
  rw [hR]
  clear h hC hT
  go_enter Tryd.func42, Tryd.ntmps42
  go_wp2_with fail
  go_loopw [5, 11] (fun v5 iv wr => ∃ (i k' : Nat) (e' : Int) (l : List Int) (v : Value), v = v5 ∧ iv = .int .i64 i ∧ i ≤ C.length ∧ l.length = i ∧ Hid (InvI bs C k e i l k' e') ∧ Hid (Bl w wr gc bs k' e' 2 v l.length (iV l))) (fun _ iv _ => C.length - (intOf iv).toNat)
  case atStart => exact ⟨0, k, e, [], _, rfl, rfl, by omega, rfl, HIn0, HS⟩
  case round =>
    clear HS HIn0
    obtain ⟨i, k', e', l, v, rfl, rfl, hi, rfl, HV, HB⟩ := hrel
    have hkb := HB.out.kb
    by_cases hlt : l.length < C.length
    · have hlt' : (l.length : Int) < C.length := by omega
      obtain ⟨b3, o3, hsb, hb3, d3⟩ := (HC.out wr HB.out.fr).at (iV_at C l.length hlt)
      subst hsb
      obtain ⟨x, k3, e3, hq⟩ : ∃ x k3 e3, pInt bs k' e' = (x, k3, e3) := ⟨_, _, _, rfl⟩
      have hx := pInt_top bs k' e' hkb
      have hk3 := pInt_at bs k' e' hkb
      have hIc := HI.out wr k' e' HB.out.cur hkb
      rw [hq] at hx hk3 hIc
      dsimp only at hx hk3 hIc
      have HIc : Hid _ := hIc
      have HVn : Hid _ := HV.out.next hlt hq
      generalize C.getD l.length 0 = c at *
      have HR : Hid (∀ W, w.grownBy W (some gc) → _) := fun W hW => HIn.out W c x hW hx.1 hx.2
      generalize in7 c x = bb at *
      clear hIc hq HV
      go_wp2_with fail
      refine Calls.mono HIc.out ?_
      rintro r w3 ⟨rfl, hc3, hg3⟩
      have HB3 : Hid _ := HB.out.read hg3 hc3 hk3.2
      clear HB hg3 hc3 HIc
      go_wp2_with fail
      refine Calls.mono (HR.out _ HB3.out.fr) ?_
      rintro r w4 ⟨rfl, hw4⟩
      rw [hw4]
      clear hw4 HR d3 hb3
      go_upto_if 20 with fail
      go_cut [] (fun wc => Hid (Bl w wc gc bs k3 (if bb = true then e3 else fl e3 10) 2 v l.length (iV l)))
      case first =>
        cases bb
        · go_wp2_with fail
          refine Calls.mono (HFl.out _ k3 e3 10 HB3.out.cur) ?_
          rintro r w5 ⟨rfl, hc5, hg5⟩
          go_wp2_with fail
          go_meet
          exact HB3.out.read hg5 hc5 hk3.2
        · go_wp2_with fail
          go_meet
          exact HB3
      case rest =>
        clear HB3
        generalize (if bb = true then e3 else fl e3 10) = e4 at *
        have HB4 := hcut
        clear hcut
        have hsz := HB4.out.fr.size
        go_wp2_with (at_builtin; refine wpList_append_lies _ rfl (.tmp 23) (.tmp 25) 22 rfl w.heap.size 2 i1 (.int .i64 0) 1 8 Tryd.underlying22 hi1 hz10 hz11 hz12 rfl (by decide) v l.length (iV l) rfl (HB4.out.own.alloc _) ⟨wc.heap.size, 0, none⟩ 1 1 [.int .i64 x] rfl rfl (cell_one_new _ _ _) (by intro u hu; simp at hu; subst hu; rfl) (by decide) (by unfold maxLen; omega) (by omega) (by simp; omega) _ rfl ?_)
        intro g2 cap2 w5 hown2 hgrow2 hlie hlt2
        have HB5 := HB4.out.more ((Below.refl _ _).alloc (Nat.le_refl _) (.cells #[.int .i64 x] 2))
        have HB6 : Hid (Bl w w5 gc bs k3 e4 2 (.slice (some ⟨g2, 0, none⟩) (l.length + 1) cap2) (l ++ [x]).length (iV (l ++ [x]))) := HB5.app hgrow2 (by simpa [iV] using hown2)
        clear HB4 HB5 hgrow2 hown2 hlie hlt2
        go_wp2_with fail
        go_roundw
        case rel => exact ⟨l.length + 1, k3, e4, l ++ [x], _, rfl, by go_num, by omega, by simp, HVn, HB6⟩
        case measure => simp [intOf]; omega
    · have hlt' : ¬ (l.length : Int) < C.length := by omega
      have hf := HV.out.fin (by omega)
      rw [hR] at hf
      obtain ⟨f1, f2, f3⟩ := hf
      rw [f1, f2] at HB
      have HF : Hid _ := f3
      clear HV f1 f2 f3 hkb
      obtain ⟨ao, cap, rfl⟩ := own_shape6 HB.out.own
      go_wp2_with fail
      go_ret
      exact ⟨l, _, rfl, HB.out, HF.out⟩

end Go.Proofs.YtknfecclijoefaaDoor
