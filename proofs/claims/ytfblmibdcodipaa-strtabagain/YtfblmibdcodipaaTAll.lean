/- The contract of the laws' own 'all': a table's texts; and of Intern where the text is there. -/
import Derived.Test.YtfblmibdcodipaaTGo
namespace Go.Proofs.Ytfblmibdcodipaa
open Go.RowKit Go.Maps Go.WideMaps

/-- A list of texts, of the call's own. -/
def TOne (w w' : World) (e : Ending) (L : List ByteArray) : Prop :=
  ∃ (a : Option Addr) (cap b : Nat), e = .returned (.slice a L.length cap) ∧ (0 < L.length → a = some ⟨b, 0, none⟩) ∧ TextAt w' b 0 L ∧ (0 < L.length → w.heap.size ≤ b) ∧ Below w.heap.size w w'

set_option maxRecDepth 10000 in
set_option maxHeartbeats 400000 in
theorem all_any {w : World} {B g gm : Nat} {v : Value} {L : List ByteArray} (h : Tb w B g gm v L) (hl : L.length ≤ 5000) :
    Calls Try.prog 18 #[.pointer (some ⟨g, 0, none⟩)] w fun e w' => TOne w w' e L := by
  obtain ⟨i0, hi, hz0, hz1, hz2⟩ := info_parts Try.infoS6
  have HL : Hid _ := tlen_any h
  have h1 : ¬ (L.length : Int) < 0 := by omega
  have h2 : ¬ (5000 : Int) < L.length := by omega
  go_enter Try.func18, Try.ntmps18
  go_wp2_with fail
  refine Calls.mono HL.out ?_
  rintro e w1 ⟨rfl, rfl⟩
  clear HL
  go_wp2_with fail
  go_loopw [3, 11] (fun ov iv wr => ∃ (i : Nat) (a : Option Addr) (cap : Nat) (xs : List ByteArray), ov = .slice a i cap ∧ iv = .int .i64 i ∧ i ≤ L.length ∧ wr.ownsRow w1.heap.size 9 1 (.slice a i cap) i (tV xs) ∧ Hid (xs = L.take i) ∧ Below w1.heap.size w1 wr) (fun _ iv _ => L.length - (intOf iv).toNat)
  case atStart => exact ⟨0, none, 0, [], rfl, rfl, by omega, ⟨rfl, .inl ⟨rfl, rfl⟩⟩, by simp [Hid], Below.refl _ _⟩
  case round =>
    obtain ⟨i, a, cap, xs, rfl, rfl, hi', hown, HX, hB⟩ := hrel
    have hbk := fun q hq => (hown.lt q hq).1
    by_cases hlt : i < L.length
    · have hlt' : (i : Int) < L.length := by omega
      have HA : Hid _ := tat_in (h.below hB) i hlt
      have HY : Hid (xs ++ [L[i]] = L.take (i + 1)) := by show _ = _; rw [HX.out, List.take_add_one, List.getElem?_eq_getElem hlt]; rfl
      clear HX
      generalize L[i] = s at *
      have hwr := hB.size
      go_wp2_with fail
      refine Calls.mono HA.out ?_
      rintro e w4 ⟨rfl, rfl⟩
      clear HA
      go_wp2_with (at_builtin; refine wpList_append_lies _ rfl (.tmp 20) (.tmp 22) 22 rfl w1.heap.size 9 i0 (.string ⟨#[]⟩) 1 16 Try.underlying22 hi hz0 hz1 hz2 rfl (by decide) _ i (tV xs) rfl (hown.alloc _) ⟨w4.heap.size, 0, none⟩ 1 1 [.string s] rfl rfl (cell_one_new _ _ _) (by intro u hu; simp at hu; subst hu; rfl) (by decide) (by unfold maxLen; omega) (by omega) (by simp; omega) _ rfl ?_)
      intro g8 cap8 w8 hown8 hgrow8 _ _
      have B8 : Below w1.heap.size w1 w8 := (hB.alloc hB.size _).grown hgrow8 (by simp; omega) hbk
      clear hgrow8 hown hB
      go_wp2_with fail
      go_roundw
      case rel => exact ⟨i + 1, _, cap8, xs ++ [s], rfl, by go_num, by omega, by simpa [tV] using hown8, HY.out, B8⟩
      case measure => simp [intOf]; omega
    · have hlt' : ¬ (i : Int) < L.length := by omega
      have hxl : i = L.length := by omega
      have hx := HX.out
      rw [hxl, List.take_length] at hx
      subst hx
      have HI : Hid (i = xs.length) := hxl
      clear hxl HX
      go_wp2_with fail
      go_ret
      have hi2 := HI.out
      subst hi2
      obtain ⟨gk, k1, k2, k3⟩ := own_texts2 hown rfl
      exact ⟨a, cap, gk, rfl, k1, k2, k3, hB⟩

set_option maxRecDepth 10000 in
set_option maxHeartbeats 400000 in
theorem tintern_same {w : World} {B g gm : Nat} {v : Value} {L : List ByteArray} (h : Tb w B g gm v L) (s : ByteArray) (hs : s.size ≤ 1000000000) (hx : idx6 s L < L.length) :
    Calls Try.prog 12 #[.pointer (some ⟨g, 0, none⟩), .string s] w fun e w' => e = .returned (.int .i64 (idx6 s L : Nat)) ∧ w' = w := by
  have c1 := h.cells.c1
  obtain ⟨D, hmap, HD⟩ := h.map
  obtain ⟨h1, h2⟩ := HD.2 s
  have hkey := kS_key s (by unfold maxLen; omega)
  rw [decide_eq_true hx] at h1
  have h3 : Hid _ := h2 hx
  clear h2 HD
  go_enter Try.func12, Try.ntmps12
  go_wp2_with (at_lookup; refine wpList_lookup_own_ok_int _ rfl _ _ 47 rfl 9 3 .i64 lawS6 Try.underlying47 Try.underlying3 (zeroI6 _) gm L.length D rfl hmap _ _ rfl hkey ?_; intro c hat hwc; obtain rfl : c = (idx6 s L : Nat) := by (have := hat.symm.trans h3.out; injection this with this; injection this))
  go_ret
  exact ⟨rfl, rfl⟩

end Go.Proofs.Ytfblmibdcodipaa
