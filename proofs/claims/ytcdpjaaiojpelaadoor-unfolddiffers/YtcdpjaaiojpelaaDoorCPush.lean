/- The contract of the program's pushKids. -/
import Derived.Test.YtcdpjaaiojpelaaDoorGClimb
import Derived.Test.YtcdpjaaiojpelaaDoorCStk
import Derived.Test.YtcdpjaaiojpelaaDoorCRep
namespace Go.Proofs.YtcdpjaaiojpelaaDoor
open Go.RowKit Go.Maps Go.WideMaps Go.Sort

def PushOut (L ks : List Nat) (B r : Nat) (w w' : World) (e : Ending) : Prop := ∃ r' c', e = .returned (.slice (some ⟨r', 0, none⟩) (L ++ ks.reverse).length c') ∧ w'.ownsRow B 3 1 (.slice (some ⟨r', 0, none⟩) (L ++ ks.reverse).length c') (L ++ ks.reverse).length (nV (L ++ ks.reverse)) ∧ (r' = r ∨ w.heap.size ≤ r') ∧ Fr (fun b => b = r) w w'

theorem drop_rev {ks : List Nat} {j : Nat} (h : j < ks.length) : (ks.drop j).reverse = (ks.drop (j + 1)).reverse ++ [ks.getD j 0] := by
  have : ks.getD j 0 = ks[j] := by rw [List.getD_eq_getElem?_getD, List.getElem?_eq_getElem h]; rfl
  rw [this, List.drop_eq_getElem_cons h, List.reverse_cons]

set_option maxRecDepth 10000 in
set_option maxHeartbeats 1000000 in
theorem pushkids_any (L ks : List Nat) (a : Option Addr) (c k B r : Nat) (w : World) (hB : B ≤ w.heap.size) (ho : w.ownsRow B 3 1 (.slice (some ⟨r, 0, none⟩) L.length c) L.length (nV L)) (hk : LsQ (fun b => b < B) w a (nV ks)) (h1 : L.length ≤ 100000) (h2 : ks.length ≤ 300) :
    Calls Tryd.prog 48 #[.slice (some ⟨r, 0, none⟩) L.length c, .slice a ks.length k] w fun e w' => PushOut L ks B r w w' e := by
  obtain ⟨i0, hi, hz0, hz1, hz2⟩ := info_parts Tryd.infoI7
  have HO : Hid (w.ownsRow B 3 1 (.slice (some ⟨r, 0, none⟩) L.length c) L.length (nV L)) := ho
  have HK : Hid (LsQ (fun b => b < B) w a (nV ks)) := hk
  have hrB : B ≤ r := (ho.lt r rfl).1
  clear ho hk
  go_enter Tryd.func48, Tryd.ntmps48
  go_wp2_with fail
  go_loopw [0, 5] (fun av iv wr => ∃ (j r2 c2 : Nat) (z : Int), iv = .int .i64 z ∧ z = (j : Int) - 1 ∧ j ≤ ks.length ∧ av = .slice (some ⟨r2, 0, none⟩) (L ++ (ks.drop j).reverse).length c2 ∧ Hid (wr.ownsRow B 3 1 (.slice (some ⟨r2, 0, none⟩) (L ++ (ks.drop j).reverse).length c2) (L ++ (ks.drop j).reverse).length (nV (L ++ (ks.drop j).reverse))) ∧ (r2 = r ∨ w.heap.size ≤ r2) ∧ Hid (Fr (fun b => b = r) w wr)) (fun _ iv _ => (intOf iv + 1).toNat)
  case atStart =>
    have e : ks.drop ks.length = [] := List.drop_length
    exact ⟨ks.length, r, c, _, rfl, rfl, Nat.le_refl _, by rw [e]; simp, by rw [e, List.reverse_nil, List.append_nil]; exact HO, .inl rfl, Fr.refl _ _⟩
  case round =>
    clear HO
    obtain ⟨j, r2, c2, z, rfl, hz, hj, rfl, HO, hr2, HF⟩ := hrel
    cases j with
    | zero =>
      obtain rfl : z = -1 := by omega
      clear hz
      rw [List.drop_zero] at *
      have HR : Hid (PushOut L ks B r w wr (.returned (.slice (some ⟨r2, 0, none⟩) (L ++ ks.reverse).length c2))) := ⟨r2, c2, rfl, HO.out, hr2, HF.out⟩
      clear HO HF
      generalize (L ++ ks.reverse).length = q at *
      go_wp2_with fail
      go_ret
      exact HR.out
    | succ j =>
      obtain rfl : z = (j : Int) := by omega
      clear hz
      have hjl : j < ks.length := by omega
      have hjl' : (j : Int) < ks.length := by omega
      have hq : LsQ (fun b => b < B) wr a (nV ks) := HK.out.fr HF.out (fun b hb _ e => by omega)
      obtain ⟨b, o, rfl, hbQ, hbl, d0⟩ := hq.atQ (nV_at ks j hjl)
      have hlen : (L ++ (ks.drop (j + 1)).reverse).length ≤ 100300 := by simp; omega
      have HE : Hid (L ++ (ks.drop j).reverse = (L ++ (ks.drop (j + 1)).reverse) ++ [ks.getD j 0]) := by
        rw [drop_rev hjl]; simp [Hid]
      have hBwr : B ≤ wr.heap.size := Nat.le_trans hB HF.out.size
      clear hq HK
      generalize L ++ (ks.drop (j + 1)).reverse = M at *
      generalize ks.getD j 0 = x at *
      go_wp2_with (at_builtin; refine wpList_append_lies _ rfl (.tmp 13) (.tmp 18) 38 rfl B 3 i0 (.int .i64 0) 1 8 Tryd.underlying38 hi hz0 hz1 hz2 rfl (by decide) _ M.length (nV M) rfl (World.ownsRow.alloc (w := wr) HO.out _) ⟨wr.heap.size, 0, none⟩ 1 1 [.int .i64 (x : Int)] rfl rfl (cell_one_new _ _ _) (by intro u hu; simp at hu; subst hu; rfl) (by decide) (by unfold maxLen; omega) (by omega) (by simp; omega) _ rfl ?_)
      intro g2 cap2 w4 hown4 hgrow4 hlie hlt4
      have O4 : Hid (w4.ownsRow B 3 1 (.slice (some ⟨g2, 0, none⟩) (L ++ (ks.drop j).reverse).length cap2) (L ++ (ks.drop j).reverse).length (nV (L ++ (ks.drop j).reverse))) := by
        show World.ownsRow _ _ _ _ _ _ _
        rw [HE.out, nV_snoc, List.length_append]
        exact hown4
      have hgr : g2 = r ∨ w.heap.size ≤ g2 := by
        have h0 := HF.out.size
        rcases hlie with h | h
        · simp only [Value.ownBlock, Option.some.injEq] at h; omega
        · omega
      have F4 : Hid (Fr (fun b => b = r) w w4) := by
        have h0 := HF.out.size
        refine (HF.out.alloc _).trans (Fr.of_grown (S := fun b => b = r2) hgrow4 (fun q e => by simpa [Value.ownBlock] using e.symm)) (fun q e hq => ?_)
        omega
      have hMl : (M.length : Nat) + 1 = (L ++ (ks.drop j).reverse).length := by rw [HE.out]; simp
      clear hown4 hgrow4 HO HF hlie
      rw [hMl]
      go_wp2_with fail
      go_roundw
      case rel => exact ⟨j, g2, cap2, _, rfl, by go_num, by omega, rfl, O4, hgr, F4⟩
      case measure => simp [intOf]

end Go.Proofs.YtcdpjaaiojpelaaDoor
