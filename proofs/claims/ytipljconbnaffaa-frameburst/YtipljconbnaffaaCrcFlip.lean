/- The contract of the document's own Flip: the text with a mask's bits put to it; nothing that was there before is changed. -/
import Derived.Test.YtipljconbnaffaaCrcRef
import Derived.Test.YtipljconbnaffaaCrcMath2
import Derived.Lib.BufferMore
namespace Go.Proofs.Ytipljconbnaffaa
open Go.RowKit

/-- A row that '[]byte(s)' has laid, and that may have been written into since: its first cells are these bytes. -/
def BRow (w : World) (e : TypeId) (g : Nat) (l : List UInt8) : Prop := ∃ cs : Array Value, w.heap[g]? = some (.cells cs e (cs.size, cs.size + 1)) ∧ l.length ≤ cs.size ∧ cs.toList.take l.length = bV l

theorem BRow.lt {w : World} {e : TypeId} {g : Nat} {l : List UInt8} (h : BRow w e g l) : g < w.heap.size := by
  obtain ⟨cs, h1, _⟩ := h
  exact (Array.getElem?_eq_some_iff.1 h1).1

theorem BRow.new (w : World) (e : TypeId) (s : ByteArray) (cap : Nat) : BRow (w.drew.alloc (.cells (bytesRow s cap) e ((bytesRow s cap).size, (bytesRow s cap).size + 1))) e w.heap.size s.data.toList := by
  refine ⟨bytesRow s cap, heap_alloc_new w.drew _, ?_, ?_⟩
  · unfold bytesRow; simp
  · unfold bytesRow bV
    rw [Array.toList_append, List.take_append_of_le_length (by simp), List.take_of_length_le (by simp)]
    simp

theorem BRow.cell {w : World} {e : TypeId} {g : Nat} {l : List UInt8} (h : BRow w e g l) (j : Nat) (hj : j < l.length) : w.cell? ⟨g, j, none⟩ = some (.int .u8 (l[j].toNat : Int)) := by
  obtain ⟨cs, h1, h2, h3⟩ := h
  rw [cell_of_row w g j cs e _ h1]
  have h4 := congrArg (fun z => z[j]?) h3
  simp only [List.getElem?_take, if_pos hj, bV, List.getElem?_map, List.getElem?_eq_getElem hj] at h4
  simpa using h4

theorem BRow.free {w : World} {e : TypeId} {g : Nat} {l : List UInt8} (h : BRow w e g l) (j : Nat) (hj : j < l.length) : w.frozen? ⟨g, j, none⟩ = false := by
  obtain ⟨cs, h1, h2, h3⟩ := h
  simp [World.frozen?, h1]
  omega

theorem BRow.set {w : World} {e : TypeId} {g : Nat} {l : List UInt8} (h : BRow w e g l) (j : Nat) (c : UInt8) : BRow (w.setCell ⟨g, j, none⟩ (.int .u8 (c.toNat : Int))) e g (l.set j c) := by
  obtain ⟨cs, h1, h2, h3⟩ := h
  refine ⟨cs.setIfInBounds j (.int .u8 (c.toNat : Int)), ?_, by simpa using h2, ?_⟩
  · rw [Array.size_setIfInBounds]
    exact Lib.heap_setCell_same h1 _
  · rw [Array.toList_setIfInBounds, List.length_set, List.take_set, h3]
    simp [bV, List.map_set]

theorem BRow.conv {P : Program} {w : World} {g : Nat} {l : List UInt8} (src dst e : TypeId) (hs : P.underlying src = some (.slice e)) (he : P.underlying e = some (.int .u8)) (hd : P.underlying dst = some .string) (h : BRow w e g l) (cap : Nat) :
    (convert src dst (.slice (some ⟨g, 0, none⟩) l.length cap)).run P w = .ok (.string ⟨l.toArray⟩) w := by
  refine run_convert_bytes_back w src dst e ⟨g, 0, none⟩ cap l hs he hd ?_
  intro j hj
  have hadd : (⟨g, 0, none⟩ : Addr).add j = ⟨g, j, none⟩ := by unfold Addr.add; split <;> simp_all
  rw [hadd]
  exact h.cell j hj

theorem xor8 (a b : Nat) (ha : a < 256) (hb : b < 256) : bits .xor .u8 (a : Int) (b : Int) = ((a ^^^ b : Nat) : Int) := by
  have h := u8_xor (a : Int) (b : Int) (by omega) (by omega) (by omega) (by omega)
  simpa using h

theorem below_set {B : Nat} {w w' : World} (h : Below B w w') (g j : Nat) (v : Value) (hg : B ≤ g) : Below B w (w'.setCell ⟨g, j, none⟩ v) :=
  h.trans ⟨rfl, rfl, rfl, by simp, fun k hk => heap_setCell_other w' ⟨g, j, none⟩ k v (by show k ≠ g; omega)⟩

/-- What a changed byte makes of all. -/
theorem diff_set (B l : List UInt8) (a k m : Nat) (h : m / 2 ^ k % 2 = 1) (hk : a + k < 8 * B.length) (hd : lnum B ^^^ lnum l = diff a (8 * B.length) m k) (j r : Nat) (hj : j = (a + k) / 8) (hr : r = (a + k) % 8) (hjl : j < l.length) :
    lnum B ^^^ lnum (l.set j (l[j] ^^^ UInt8.ofNat (2 ^ r))) = diff a (8 * B.length) m (k + 1) := by
  rw [num_set l j r hjl (by omega), diff_odd a _ m k h hk, ← hd, show 8 * j + r = a + k by omega, Nat.xor_assoc]

set_option maxRecDepth 10000 in
set_option maxHeartbeats 400000 in
theorem flip_any (b : ByteArray) (a m : Nat) (w : World) (hb : b.size ≤ 1000) (ha : a < 8 * b.size) (hm : m < 4294967296) :
    Calls Try.prog 16 #[.string b, .int .i64 a, .int .u32 m] w fun e w' => ∃ c : List UInt8, e = .returned (.string ⟨c.toArray⟩) ∧ c.length = b.data.toList.length ∧ lnum b.data.toList ^^^ lnum c = diff a (8 * b.data.toList.length) m 32 ∧ Below w.heap.size w w' := by
  have hbs := fun (W : World) => run_bytes_of_string (P := Try.prog) W 9 48 5 b Try.underlying9 Try.underlying48 Try.underlying5
  have hnew := fun (W : World) => BRow.new W 5 b (grownCap W b.size 0 5)
  have hbel : Below w.heap.size w (w.drew.alloc (.cells (bytesRow b (grownCap w b.size 0 5)) 5 ((bytesRow b (grownCap w b.size 0 5)).size, (bytesRow b (grownCap w b.size 0 5)).size + 1))) := (Below.refl _ _).drew.alloc (Nat.le_refl _) _
  have hbl : b.data.toList.length = b.size := by simp
  go_enter Try.func16, Try.ntmps16
  go_wp2_with fail
  go_loopw [2, 8] (fun mv kv wr => ∃ (M k : Nat) (l : List UInt8), mv = .int .u32 M ∧ kv = .int .i64 k ∧ k ≤ 32 ∧ M < 4294967296 ∧ l.length = b.size ∧ BRow wr 5 w.heap.size l ∧ Hid (M = m / 2 ^ k) ∧ Hid (lnum b.data.toList ^^^ lnum l = diff a (8 * b.data.toList.length) m k) ∧ Below w.heap.size w wr) (fun _ kv _ => 32 - (intOf kv).toNat)
  case atStart => exact ⟨m, 0, b.data.toList, rfl, rfl, by omega, hm, hbl, hnew w, by simp [Hid], by show _ = _; rw [diff_zero, Nat.xor_self], hbel⟩
  case round =>
    clear hbs hnew hbel
    obtain ⟨M, k, l, rfl, rfl, hk, hM, hl, hrow, HM, HD, hB⟩ := hrel
    generalize grownCap w b.size 0 5 = cap at *
    by_cases hk32 : k < 32
    · have HN : Hid (M / 2 = m / 2 ^ (k + 1)) := by show _ = _; rw [HM.out, Nat.div_div_eq_div_mul, ← Nat.pow_succ]
      by_cases ho : M % 2 = 1
      · have k2 : (M : Int) % 2 = 1 := by omega
        have HO : Hid (m / 2 ^ k % 2 = 1) := by show _ = _; rw [← HM.out]; exact ho
        by_cases hin : a + k < 8 * b.size
        · obtain ⟨j0, hj0⟩ : ∃ j0 : Nat, j0 = (a + k) / 8 := ⟨_, rfl⟩
          obtain ⟨r0, hr0⟩ : ∃ r0 : Nat, r0 = (a + k) % 8 := ⟨_, rfl⟩
          have hdiv : ((a : Int) + k) / 8 = j0 := by omega
          have hmod : ((a : Int) + k) % 8 = r0 := by omega
          have hr8 : r0 < 8 := by omega
          have hj : j0 < b.size := by omega
          have hjl : j0 < l.length := by omega
          have hc := hrow.cell j0 hjl
          have hf := hrow.free j0 hjl
          have HX : Hid (lnum b.data.toList ^^^ lnum (l.set j0 (l[j0] ^^^ UInt8.ofNat (2 ^ r0))) = diff a (8 * b.data.toList.length) m (k + 1)) := diff_set b.data.toList l a k m HO.out (by rw [hbl]; exact hin) HD.out j0 r0 hj0 hr0 hjl
          have HR := hrow.set j0 (l[j0] ^^^ UInt8.ofNat (2 ^ r0))
          have HW : Hid (BRow (wr.setCell ⟨w.heap.size, j0, none⟩ (.int .u8 ((l[j0] ^^^ UInt8.ofNat (2 ^ r0)).toNat : Int))) 5 w.heap.size (l.set j0 (l[j0] ^^^ UInt8.ofNat (2 ^ r0)))) := HR
          have HY : Hid (∀ o : Nat, o = 2 ^ r0 → bits .xor .u8 (l[j0].toNat : Int) (o : Int) = ((l[j0] ^^^ UInt8.ofNat (2 ^ r0)).toNat : Int)) := by
            intro o ho
            have hp : 2 ^ r0 < 256 := by
              have h : 2 ^ r0 ≤ 2 ^ 7 := Nat.pow_le_pow_right (by decide) (by omega)
              omega
            have h := xor8 l[j0].toNat (2 ^ r0) l[j0].toNat_lt hp
            rw [ho, h, UInt8.toNat_xor]
            simp
            rw [Nat.mod_eq_of_lt hp]
          have hlen : (l.set j0 (l[j0] ^^^ UInt8.ofNat (2 ^ r0))).length = b.size := by rw [List.length_set]; exact hl
          generalize l.set j0 (l[j0] ^^^ UInt8.ofNat (2 ^ r0)) = l' at *
          generalize (l[j0] ^^^ UInt8.ofNat (2 ^ r0)).toNat = v at *
          generalize l[j0].toNat = u at *
          clear HM ho HD hj0 hr0 hjl HR hrow hl
          go_wp2_with fail
          go_loop [10, 11] (fun ov jv => ∃ (o j : Nat), ov = .int .u8 o ∧ jv = .int .i64 j ∧ j ≤ r0 ∧ Hid (o = 2 ^ j) ∧ o < 256) (fun _ jv => 8 - (intOf jv).toNat)
          case atStart => exact ⟨1, 0, rfl, rfl, by omega, rfl, by omega⟩
          case round =>
            obtain ⟨o, j, rfl, rfl, hjr, HP, ho⟩ := hrel
            by_cases hlt : j < r0
            · have HP2 : Hid (o * 2 = 2 ^ (j + 1)) := by show _ = _; rw [HP.out, Nat.pow_succ]
              have ho2 : o * 2 < 256 := by
                rw [HP2.out]
                exact Nat.lt_of_le_of_lt (Nat.pow_le_pow_right (by decide) (show j + 1 ≤ 7 by omega)) (by decide)
              go_wp2_with fail
              go_round
              case rel => exact ⟨o * 2, j + 1, by go_num, by go_num, by omega, HP2, ho2⟩
              case measure => simp [intOf]; omega
            · obtain rfl : j = r0 := by omega
              have hx := HY.out o HP.out
              clear HY HP
              go_wp2_with fail
              go_roundw
              case rel => exact ⟨M / 2, k + 1, l', by go_num, by go_num, by omega, by omega, hlen, HW.out, HN, HX, below_set hB _ _ _ (Nat.le_refl _)⟩
              case measure => simp [intOf]; omega
        · have hq : ¬ ((a : Int) + k) / 8 < b.size := by omega
          have HD2 : Hid (lnum b.data.toList ^^^ lnum l = diff a (8 * b.data.toList.length) m (k + 1)) := by show _ = _; rw [diff_out _ _ _ _ (by rw [hbl]; omega)]; exact HD.out
          clear HM ho
          go_wp2_with fail
          go_roundw
          case rel => exact ⟨M / 2, k + 1, l, by go_num, by go_num, by omega, by omega, hl, hrow, HN, HD2, hB⟩
          case measure => simp [intOf]; omega
      · have k2 : (M : Int) % 2 = 0 := by omega
        have HD2 : Hid (lnum b.data.toList ^^^ lnum l = diff a (8 * b.data.toList.length) m (k + 1)) := by show _ = _; rw [diff_even _ _ _ _ (by rw [← HM.out]; omega)]; exact HD.out
        clear HM ho
        go_wp2_with fail
        go_roundw
        case rel => exact ⟨M / 2, k + 1, l, by go_num, by go_num, by omega, by omega, hl, hrow, HN, HD2, hB⟩
        case measure => simp [intOf]; omega
    · obtain rfl : k = 32 := by omega
      have hcv := BRow.conv (P := Try.prog) 48 9 5 Try.underlying48 Try.underlying5 Try.underlying9 hrow cap
      rw [hl] at hcv
      clear hrow
      go_wp2_with fail
      go_ret
      exact ⟨l, rfl, by rw [hl, hbl], HD.out, hB⟩

end Go.Proofs.Ytipljconbnaffaa
