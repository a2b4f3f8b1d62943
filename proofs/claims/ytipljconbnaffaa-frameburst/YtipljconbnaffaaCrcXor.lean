/- The contracts of the document's own Xor and Put: two texts by exclusive or, a sum's four bytes; nothing that was there before is changed. -/
import Derived.Test.YtipljconbnaffaaCrcFlip
import Derived.Deep.AppendLies
import Derived.Deep.RegionLaw
import Derived.Laws.OwnMore
namespace Go.Proofs.Ytipljconbnaffaa
open Go.RowKit

theorem cinfo5 : (Try.prog.info? 5).map (fun i => (i.zero, i.size, i.bytes)) = some (some (.int .u8 0), 1, 1) := by kernel_rfl

theorem conv_row {P : Program} {w : World} {base : Nat} {l : List UInt8} {g cap : Nat} (src dst e : TypeId) (hs : P.underlying src = some (.slice e)) (he : P.underlying e = some (.int .u8)) (hd : P.underlying dst = some .string)
    (h : w.ownsRow base e 1 (.slice (some ⟨g, 0, none⟩) l.length cap) l.length (bV l)) :
    (convert src dst (.slice (some ⟨g, 0, none⟩) l.length cap)).run P w = .ok (.string ⟨l.toArray⟩) w := by
  refine run_convert_bytes_back w src dst e ⟨g, 0, none⟩ cap l hs he hd ?_
  intro j hj
  have hadd : (⟨g, 0, none⟩ : Addr).add j = ⟨g, j, none⟩ := by unfold Addr.add; split <;> simp_all
  rw [hadd, h.cellAt j (by omega)]
  simp [bV, hj]

theorem xorl_at (a b : ByteArray) (i : Nat) (h : i < a.size) (h2 : i < b.size) : (xorl a.data.toList b.data.toList).take (i + 1) = (xorl a.data.toList b.data.toList).take i ++ [a[i] ^^^ b[i]] := by
  unfold xorl
  have hl : i < (List.zipWith (· ^^^ ·) a.data.toList b.data.toList).length := by rw [List.length_zipWith]; simp; omega
  rw [List.take_succ_eq_append_getElem hl, List.getElem_zipWith]
  rfl

theorem ofNat_xor8 (c d : UInt8) : UInt8.ofNat (c.toNat ^^^ d.toNat) = c ^^^ d := by
  apply UInt8.toNat_inj.1
  rw [UInt8.toNat_xor]
  simp

/-- A number's four bytes, the lowest first. -/
def four (n : Nat) : List UInt8 := [UInt8.ofNat (n % 256), UInt8.ofNat (n / 256 % 256), UInt8.ofNat (n / 65536 % 256), UInt8.ofNat (n / 16777216 % 256)]

theorem four_take (n k : Nat) (h : k < 4) : (four n).take (k + 1) = (four n).take k ++ [UInt8.ofNat (n / 256 ^ k % 256)] := by
  match k, h with
  | 0, _ => simp [four]
  | 1, _ => simp [four]
  | 2, _ => simp [four]
  | 3, _ => simp [four]

set_option maxRecDepth 10000 in
set_option maxHeartbeats 400000 in
theorem refput4_any (n : Nat) (w : World) (hn : n < 4294967296) :
    Calls Try.prog 26 #[.int .u32 n] w fun e w' => e = .returned (.string ⟨(four n).toArray⟩) ∧ Below w.heap.size w w' := by
  obtain ⟨i0, hi, hz0, hz1, hz2⟩ := info_parts cinfo5
  have hown0 : (w.alloc (.cells #[] 5)).ownsRow w.heap.size 5 1 (.slice (some ⟨w.heap.size, 0, none⟩) 0 0) 0 [] := World.ownsRow_lit w #[] 0 (Nat.le_refl _) (by decide) (by simp)
  have hbel : Below w.heap.size w (w.alloc (.cells #[] 5)) := (Below.refl _ _).alloc (Nat.le_refl _) _
  go_enter Try.func26, Try.ntmps26
  go_wp2_with fail
  go_loopw [0, 3, 4] (fun nv ov kv wr => ∃ (m k g cap : Nat) (xs : List UInt8), nv = .int .u32 m ∧ ov = .slice (some ⟨g, 0, none⟩) k cap ∧ kv = .int .i64 k ∧ k ≤ 4 ∧ m < 4294967296 ∧ Hid (m = n / 256 ^ k) ∧ Hid (xs.length = k) ∧ wr.ownsRow w.heap.size 5 1 (.slice (some ⟨g, 0, none⟩) k cap) k (bV xs) ∧ Hid (xs = (four n).take k) ∧ Below w.heap.size w wr) (fun _ _ kv _ => 4 - (intOf kv).toNat)
  case atStart => exact ⟨n, 0, _, _, [], rfl, rfl, rfl, by omega, hn, by simp [Hid], rfl, hown0, rfl, hbel⟩
  case round =>
    clear hown0 hbel
    obtain ⟨m, k, g, cap, xs, rfl, rfl, rfl, hk, hm, HM, HL, hown, HX, hB⟩ := hrel
    by_cases hlt : k < 4
    · have HN : Hid (xs ++ [UInt8.ofNat (m % 256)] = (four n).take (k + 1)) := by show _ = _; rw [four_take n k hlt, HX.out, HM.out]
      have HQ : Hid (m / 256 = n / 256 ^ (k + 1)) := by show _ = _; rw [HM.out, Nat.div_div_eq_div_mul, ← Nat.pow_succ]
      have k1 : (m : Int) % 256 = ((m % 256 : Nat) : Int) := by omega
      have k2 : IntKind.u8.wrap ((m : Int) % 256) = (m : Int) % 256 := by rw [IntKind.wrap_u8']; omega
      clear HX HM k1
      go_wp2_with (at_builtin; refine wpList_append_lies _ rfl (.tmp 10) (.tmp 14) 48 rfl w.heap.size 5 i0 (.int .u8 0) 1 1 Try.underlying48 hi hz0 hz1 hz2 rfl (by decide) _ _ _ rfl (hown.alloc _) ⟨wr.heap.size, 0, none⟩ 1 1 [.int .u8 ((m : Int) % 256)] rfl rfl (cell_one_new _ _ _) (by intro u hu; simp at hu; subst hu; rfl) (by decide) (by unfold maxLen; omega) (by omega) (by simp; exact Nat.le_succ_of_le hB.size) _ rfl ?_; intro g2 cap2 w2 hown2 hgrow2 _ _)
      have hB2 : Below w.heap.size w w2 := below_own (hB.alloc hB.size _) (hown.alloc _) hgrow2 (by simp; exact Nat.le_succ_of_le hB.size)
      have hown3 : w2.ownsRow w.heap.size 5 1 (.slice (some ⟨g2, 0, none⟩) (k + 1) cap2) (k + 1) (bV (xs ++ [UInt8.ofNat (m % 256)])) := by
        rw [bV_snoc xs (m % 256) (by omega)]; exact hown2
      clear hown2 hgrow2 hown
      go_wp2_with fail
      go_roundw
      case rel => exact ⟨m / 256, k + 1, g2, cap2, xs ++ [UInt8.ofNat (m % 256)], by go_num, rfl, by go_num, by omega, by omega, HQ, by show _ = _; simp [HL.out], hown3, HN, hB2⟩
      case measure => simp [intOf]; omega
    · obtain rfl : k = 4 := by omega
      have hcv := conv_row (P := Try.prog) (l := xs) (g := g) (cap := cap) 48 9 5 Try.underlying48 Try.underlying5 Try.underlying9 (by rw [HL.out]; exact hown)
      rw [HL.out] at hcv
      have HE : Hid (xs = four n) := HX.out
      clear HX hown HL HM
      go_wp2_with fail
      go_ret
      exact ⟨by rw [← HE.out]; rfl, hB⟩

end Go.Proofs.Ytipljconbnaffaa
