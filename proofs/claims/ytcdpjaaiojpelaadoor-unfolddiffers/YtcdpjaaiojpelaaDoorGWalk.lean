/- The contract of the program's walk: what a place leads to, but for what was met. -/
import Derived.Test.YtcdpjaaiojpelaaDoorGKids
namespace Go.Proofs.YtcdpjaaiojpelaaDoor
open Go.RowKit Go.Maps Go.WideMaps Go.Sort

/-- Links that are not too many. -/
def Lim (L : List Ln) : Prop := L.length ≤ 61 ∧ ∀ i, i < L.length → (L.getD i noLn).ks.length ≤ 20000
theorem Small.lim {X : List Nx} (h : Small X) : Lim (lks X) := by
  refine ⟨by rw [lks_length]; exact h.1, fun i hi => ?_⟩
  rw [lks_length] at hi
  rw [lks_at X i hi]
  have := h.kids hi
  unfold lnOf
  rw [List.length_map]
  omega

def WalkOut (L : List Ln) (g n : Nat) (M : List Nat) (f : Nat) (w w' : World) (e : Ending) : Prop :=
  ∃ found a c, e = .returned (.slice a (List.length found) c) ∧ w'.ownsRow w.heap.size 3 1 (.slice a found.length c) found.length (nV found) ∧ WOut (kOf L) M f found ∧ Met w' g (n + found.length) (M ++ found) ∧ Fr (fun b => b = g) w w'

section
variable {K : List (List Nat)} {M : List Nat} {f : Nat} {found : List Nat} {i j : Nat} {N : List Nat}
theorem WInv.skip' (h : WInv K M f found i j) (hN : K.getD (found.getD i 0) [] = N) (hj : j < N.length) (hm : N.getD j 0 ∈ M ++ found) : WInv K M f found i (j + 1) := by
  subst hN
  exact h.skip hj (List.mem_append.1 hm)
theorem WInv.add' (h : WInv K M f found i j) (hk : Ok9 K) (hN : K.getD (found.getD i 0) [] = N) (hi : i < found.length) (hj : j < N.length) (hm : N.getD j 0 ∉ M ++ found) : WInv K M f (found ++ [N.getD j 0]) i (j + 1) ∧ K.getD ((found ++ [N.getD j 0]).getD i 0) [] = N := by
  refine ⟨?_, by rw [getD_app hi]; exact hN⟩
  subst hN
  exact h.add hk hi hj (fun q => hm (List.mem_append_left _ q)) (fun q => hm (List.mem_append_right _ q))
theorem WInv.next' (h : WInv K M f found i j) (hN : K.getD (found.getD i 0) [] = N) (hi : i < found.length) (hj : N.length ≤ j) : WInv K M f found (i + 1) 0 := by
  subst hN
  exact h.next hi hj
end

set_option maxRecDepth 10000 in
set_option maxHeartbeats 800000 in
theorem walk_any {Q : Nat → Prop} (L : List Ln) (a : Option Addr) (c f g n : Nat) (M : List Nat) (w : World) (hl : LkQ Q w a L) (hQ : ∀ b, Q b → b ≠ g) (hm : Met w g n M) (hk : Ok9 (kOf L)) (hf : f < L.length) (hs : Lim L) (hn : n ≤ 1000000) :
    Calls Tryd.prog 57 #[.slice a L.length c, .int .i64 f, .map (some g)] w fun e w' => WalkOut L g n M f w w' e := by
  obtain ⟨i0, hi, hz0, hz1, hz2⟩ := info_parts Tryd.infoI7
  have hL := hs.1
  by_cases hfm : f ∈ M
  · have hlk := hm.look f (by omega)
    rw [decide_eq_true hfm] at hlk
    have HO : Hid (WalkOut L g n M f w w (.returned (.slice none 0 0))) := ⟨[], none, 0, rfl, ⟨rfl, .inl ⟨rfl, rfl⟩⟩, WOut.none hfm, by simpa using hm, Fr.refl _ _⟩
    clear hm hl hfm
    go_enter Tryd.func57, Tryd.ntmps57
    go_wp2_with fail
    go_ret
    exact HO.out
  · have hlk := hm.look f (by omega)
    rw [decide_eq_false hfm] at hlk
    obtain ⟨w1, hup, hm1, hg1⟩ := hm.put f (by omega) (by unfold maxLen; omega)
    have hgl := hm.lt
    have HL : Hid _ := And.intro hl (And.intro hQ (And.intro hk hs))
    have HI0 : Hid (WInv (kOf L) M f [f] 0 0) := WInv.start hfm (by rw [kOf_length]; exact hf)
    have F1 : Hid (Fr (fun b => b = g) w (w1.alloc (.cells #[.int .i64 (f : Int)] 3))) := (Fr.of_grown hg1 (fun k e => (Option.some.inj e).symm)).alloc _
    have M1 : Hid (Met (w1.alloc (.cells #[.int .i64 (f : Int)] 3)) g (n + [f].length) (M ++ [f])) := hm1.below ((Below.refl w1.heap.size w1).alloc (Nat.le_refl _) _)
    have hsz1 := hg1.size
    have O1 : Hid ((w1.alloc (.cells #[.int .i64 (f : Int)] 3)).ownsRow w.heap.size 3 1 (.slice (some ⟨w1.heap.size, 0, none⟩) [f].length 1) [f].length (nV [f])) := World.ownsRow_lit w1 #[.int .i64 (f : Int)] 1 hsz1 (by decide) (by simp)
    clear hl hQ hk hm hm1 hg1 hfm hs
    go_enter Tryd.func57, Tryd.ntmps57
    go_wp2_with fail
    go_loopw [7, 8] (fun fv iv wr => ∃ (found : List Nat) (i r cap : Nat), fv = .slice (some ⟨r, 0, none⟩) found.length cap ∧ iv = .int .i64 i ∧ Hid (WInv (kOf L) M f found i 0) ∧ Hid (wr.ownsRow w.heap.size 3 1 (.slice (some ⟨r, 0, none⟩) found.length cap) found.length (nV found)) ∧ Hid (Met wr g (n + found.length) (M ++ found)) ∧ Hid (Fr (fun b => b = g) w wr)) (fun _ iv _ => L.length - (intOf iv).toNat)
    case atStart => exact ⟨[f], 0, w1.heap.size, 1, rfl, rfl, HI0, O1, M1, F1⟩
    case round =>
      clear HI0 O1 M1 F1 hup hlk hsz1
      obtain ⟨found, i, r, cap, rfl, rfl, HI, HO, HM, HF⟩ := hrel
      have hle := HI.out.le
      have hlen : found.length ≤ L.length := by have := HI.out.len; rwa [kOf_length] at this
      by_cases hlt : i < found.length
      · have hlt' : (i : Int) < found.length := by omega
        obtain ⟨at_, hat⟩ : ∃ at_, found.getD i 0 = at_ := ⟨_, rfl⟩
        have hal : at_ < L.length := by have := HI.out.lt at_ (hat ▸ getD_mem hlt); rwa [kOf_length] at this
        have d0 : wr.cell? ⟨r, i, none⟩ = some (.int .i64 (at_ : Int)) := by
          rw [HO.out.cellAt i (by omega), nV_at found i hlt, hat]
        obtain ⟨b1, o1, rfl, hb1, d1⟩ := (HL.out.1.fr HF.out (fun b q _ e => HL.out.2.1 b q e)).top.at (lnV_at L at_ hal)
        have HE : Hid (∀ W, Fr (fun b => b = g) w W → LsQ Q W (L.getD at_ noLn).a (nV (L.getD at_ noLn).ks)) := fun W hW => (HL.out.1.fr hW (fun b q _ e => HL.out.2.1 b q e)).each at_ hal
        have HK : Hid ((kOf L).getD (found.getD i 0) [] = (L.getD at_ noLn).ks) := by
          show _ = _
          rw [hat, kOf_at]
        have hkl : (L.getD at_ noLn).ks.length ≤ 20000 := HL.out.2.2.2.2 at_ hal
        have HP : Hid (∀ k ∈ (L.getD at_ noLn).ks, k < 61) := fun k hk => by
          have := HL.out.2.2.1 at_ k (by unfold Ed; rw [kOf_at]; exact hk)
          rw [kOf_length] at this
          omega
        have HOk : Hid (Ok9 (kOf L)) := HL.out.2.2.1
        generalize L.getD at_ noLn = N at *
        have hal' : (at_ : Int) < L.length := by omega
        clear HL
        go_wp2_with fail
        go_loopw [7, 32] (fun fv jv wr => ∃ (found : List Nat) (j r cap : Nat), fv = .slice (some ⟨r, 0, none⟩) found.length cap ∧ jv = .int .i64 j ∧ j ≤ N.ks.length ∧ i < found.length ∧ Hid ((kOf L).getD (found.getD i 0) [] = N.ks) ∧ Hid (WInv (kOf L) M f found i j) ∧ Hid (wr.ownsRow w.heap.size 3 1 (.slice (some ⟨r, 0, none⟩) found.length cap) found.length (nV found)) ∧ Hid (Met wr g (n + found.length) (M ++ found)) ∧ Hid (Fr (fun b => b = g) w wr)) (fun _ jv _ => N.ks.length - (intOf jv).toNat)
        case atStart => exact ⟨found, 0, r, cap, rfl, rfl, by omega, hlt, HK, HI, HO, HM, HF⟩
        case round =>
          clear HI HO HM HF HK d0 d1 hat hlt hlt' hle hlen hb1
          obtain ⟨found, j, r, cap, rfl, rfl, hj, hlt, HK, HI, HO, HM, HF⟩ := hrel
          have hlen : found.length ≤ L.length := by have := HI.out.len; rwa [kOf_length] at this
          by_cases hjl : j < N.ks.length
          · have hjl' : (j : Int) < N.ks.length := by omega
            obtain ⟨b2, o2, e2, hb2, d2⟩ := LsQ.at (HE.out wr HF.out) (nV_at N.ks j hjl)
            have hk60 := HP.out _ (getD_mem hjl)
            have hlk := HM.out.look (N.ks.getD j 0) (by omega)
            rw [e2]
            by_cases hin : N.ks.getD j 0 ∈ M ++ found
            · have HI2 : Hid (WInv (kOf L) M f found i (j + 1)) := HI.out.skip' HK.out hjl hin
              rw [decide_eq_true hin] at hlk
              generalize N.ks.getD j 0 = k at *
              clear HI HE HP hin
              go_wp2_with fail
              go_roundw
              case rel => exact ⟨found, j + 1, r, cap, rfl, by go_num, by omega, hlt, HK, HI2, HO, HM, HF⟩
              case measure => simp [intOf]; omega
            · have HI2 : Hid (WInv (kOf L) M f (found ++ [N.ks.getD j 0]) i (j + 1) ∧ (kOf L).getD ((found ++ [N.ks.getD j 0]).getD i 0) [] = N.ks) := HI.out.add' HOk.out HK.out hlt hjl hin
              rw [decide_eq_false hin] at hlk
              obtain ⟨w3, hup, hm3, hg3⟩ := HM.out.put (N.ks.getD j 0) (by omega) (by unfold maxLen; omega)
              generalize N.ks.getD j 0 = k at *
              have hwr := HF.out.size
              have O3 : Hid (w3.ownsRow w.heap.size 3 1 (.slice (some ⟨r, 0, none⟩) found.length cap) found.length (nV found)) := own_fr HO.out (Fr.of_grown (S := fun b => b = g) hg3 (fun k e => (Option.some.inj e).symm)) (fun q hq => by
                have := (HO.out.lt q hq).1
                omega)
              have M3 : Hid (Met w3 g (n + (found ++ [k]).length) (M ++ (found ++ [k]))) := by
                show Met _ _ _ _
                rw [List.length_append, List.length_singleton, ← Nat.add_assoc, ← List.append_assoc]
                exact hm3
              have F3 : Hid (Fr (fun b => b = g) w w3) := HF.out.trans (Fr.of_grown (S := fun b => b = g) hg3 (fun k e => (Option.some.inj e).symm)) (fun _ q _ => q)
              have hs3 := hg3.size
              have hg := HM.out.lt
              clear HI HE HP hin HM HF HO hm3 hg3
              go_wp2_with (at_builtin; refine wpList_append_lies _ rfl (.tmp 42) (.tmp 44) 38 rfl w.heap.size 3 i0 (.int .i64 0) 1 8 Tryd.underlying38 hi hz0 hz1 hz2 rfl (by decide) _ found.length (nV found) rfl (O3.out.alloc _) ⟨w3.heap.size, 0, none⟩ 1 1 [.int .i64 (k : Int)] rfl rfl (cell_one_new _ _ _) (by intro u hu; simp at hu; subst hu; rfl) (by decide) (by unfold maxLen; omega) (by omega) (by simp; omega) _ rfl ?_)
              intro g2 cap2 w4 hown4 hgrow4 hlie hlt4
              have O4 : Hid (w4.ownsRow w.heap.size 3 1 (.slice (some ⟨g2, 0, none⟩) (found ++ [k]).length cap2) (found ++ [k]).length (nV (found ++ [k]))) := by
                show World.ownsRow _ _ _ _ _ _ _
                rw [nV_snoc, List.length_append]
                exact hown4
              have hr : w.heap.size ≤ r := (O3.out.lt r rfl).1
              have F34 : Hid (Fr (fun b => b = r) (w3.alloc (.cells #[.int .i64 (k : Int)] 3)) w4) := Fr.of_grown hgrow4 (fun q e => by simpa [Value.ownBlock] using e.symm)
              have M4 : Hid (Met w4 g (n + (found ++ [k]).length) (M ++ (found ++ [k]))) := (M3.out.below ((Below.refl w3.heap.size w3).alloc (Nat.le_refl _) _)).fr F34.out (by omega)
              have F4 : Hid (Fr (fun b => b = g) w w4) := (F3.out.alloc _).trans F34.out (fun q e hq => by omega)
              clear hown4 hgrow4 O3 M3 F3 F34 hup hlk
              go_wp2_with fail
              go_roundw
              case rel => exact ⟨found ++ [k], j + 1, g2, cap2, by simp, by go_num, by omega, by simp; omega, HI2.out.2, HI2.out.1, O4, M4, F4⟩
              case measure => simp [intOf]; omega
          · have hjl' : ¬ (j : Int) < N.ks.length := by omega
            have HI2 : Hid (WInv (kOf L) M f found (i + 1) 0) := HI.out.next' HK.out hlt (by omega)
            clear HI HE HP HK
            go_wp2_with fail
            go_roundw
            case rel => exact ⟨found, i + 1, r, cap, rfl, by go_num, HI2, HO, HM, HF⟩
            case measure => simp [intOf]; omega
      · have hlt' : ¬ (i : Int) < found.length := by omega
        have HW : Hid (WOut (kOf L) M f found) := HI.out.fin (by omega)
        clear HI HL
        go_wp2_with fail
        go_ret
        exact ⟨found, _, _, rfl, HO.out, HW.out, HM.out, HF.out⟩

end Go.Proofs.YtcdpjaaiojpelaaDoor
