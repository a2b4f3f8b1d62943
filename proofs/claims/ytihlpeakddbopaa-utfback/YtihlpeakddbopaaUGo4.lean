/- The contract of utf's Put. -/
import Derived.Test.YtihlpeakddbopaaUGo3
import Derived.Test.YtihlpeakddbopaaUApp
namespace Go.Proofs.Ytihlpeakddbopaa
open Go.RowKit

theorem okI_no (c : Int) : ¬ okI c ↔ c < 0 ∨ 1114111 < c ∨ (55296 ≤ c ∧ c ≤ 57343) := by
  unfold okI isC
  omega
theorem chrI_enc (c : Int) (h : okI c) : (Utf8.encode c).data.toList = chrI c := by
  obtain ⟨h0, h1⟩ := h
  have := encode_is c.toNat h1
  rw [Int.toNat_of_nonneg h0] at this
  rw [this, ← chrI_ok _ h1, Int.toNat_of_nonneg h0]

set_option maxRecDepth 10000 in
set_option maxHeartbeats 400000 in
theorem put5_any (a : Option Addr) (cap b o : Nat) (L : List Int) (w : World) (ha : 0 < L.length → a = some ⟨b, o, none⟩) (hL : RuneAt w b o L) (hs : L.length ≤ 100000) :
    Calls Try.prog 14 #[.slice a L.length cap] w fun e w' => e = .returned (.tuple #[.string ⟨(pPut5 L).1.toArray⟩, .bool (pPut5 L).2]) ∧ Below w.heap.size w w' := by
  have HR : Hid ((∀ i (h : i < L.length), ¬ okI L[i] → pPut5 L = ([], false)) ∧ ((∀ i (h : i < L.length), okI L[i]) → pPut5 L = (putsI L, true))) := by
    constructor
    · intro i h hn
      unfold pPut5
      rw [if_neg (fun hh => hn (hh _ (List.getElem_mem h)))]
    · intro h
      unfold pPut5
      rw [if_pos (fun c hc => by obtain ⟨i, hi, rfl⟩ := List.getElem_of_mem hc; exact h i hi)]
  generalize pPut5 L = R at *
  have HLe : Hid (∀ i, (putsI (L.take i)).length ≤ 400000) := fun i => by
    have h1 := putsI_le (L.take i)
    have h2 : (L.take i).length ≤ L.length := by rw [List.length_take]; omega
    omega
  go_enter Try.func14, Try.ntmps14
  go_wp2_with fail
  have HB0 := Bu.new w
  have hbl0 : Below w.heap.size w (w.alloc (.cells #[.pointer none, .slice none 0 0] 41)) := (Below.refl _ _).alloc (Nat.le_refl _) _
  go_loopw [9] (fun iv wr => ∃ (i : Nat) (X : List UInt8), iv = .int .i64 i ∧ i ≤ L.length ∧ X.length ≤ 400000 ∧ Hid (X = putsI (L.take i)) ∧ Hid (∀ j (h : j < L.length), j < i → okI L[j]) ∧ Hid (X = [] → wr.cell? ⟨w.heap.size, 1, none⟩ = some (.slice none 0 0)) ∧ Bu w.heap.size w.heap.size X wr ∧ Below w.heap.size w wr) (fun iv _ => L.length - (intOf iv).toNat)
  case atStart => exact ⟨0, [], rfl, by omega, by decide, by simp [Hid, putsI], fun j _ h => by omega, fun _ => by simp, HB0, hbl0⟩
  case round =>
    clear HB0 hbl0
    obtain ⟨i, X, rfl, hi, hX, HX, HI, HE, hBu, hB⟩ := hrel
    by_cases hlt : i < L.length
    · obtain rfl := ha (by omega)
      obtain ⟨hbl, c0⟩ := hL i hlt
      have hbr : b < wr.heap.size := Nat.lt_of_lt_of_le hbl hB.size
      rw [← (bcell hB).1 b _ hbl] at c0
      have hz := chrI_le L[i]
      have HT : Hid (putsI (L.take (i + 1)) = X ++ chrI L[i]) := by show _ = _; rw [putsI_take L i hlt, HX.out]
      have hln := HLe.out (i + 1)
      rw [HT.out] at hln
      have HO : Hid _ := fun h => HR.out.1 i hlt h
      have HY : Hid _ := fun (h : okI L[i]) => show Hid (∀ j (h : j < L.length), j < i + 1 → okI L[j]) from fun j hj hji => by
        by_cases e : j = i
        · subst e; exact h
        · exact HI.out j hj (by omega)
      clear HI HX
      generalize L[i] = c at *
      have HV : Hid _ := fun (W : World) => vrune_any c W
      by_cases hok : okI c
      · have HY2 := HY.out hok
        rw [decide_eq_true hok] at HV
        have hch := chrI_ok c.toNat hok.2
        rw [Int.toNat_of_nonneg hok.1] at hch
        have hcn : ((c.toNat : Nat) : Int) = c := Int.toNat_of_nonneg hok.1
        rw [hch] at HT hln hz
        have HW : Hid _ := fun (W : World) (h : Bu w.heap.size w.heap.size X W) (hw : w.heap.size ≤ W.heap.size) => wrune_any w.heap.size w.heap.size X c.toNat W h hok.2 (by omega) hw
        rw [hcn] at HW
        have HN : Hid (∀ l : List UInt8, l ++ chr c.toNat ≠ []) := fun l e => by have := (chr_length c.toNat).1; rw [(List.append_eq_nil_iff.1 e).2] at this; simp at this
        generalize chr c.toNat = Y at *
        clear HO HY hok hch hcn
        go_wp2_with fail
        refine (HV.out _).mono ?_
        rintro e w1 ⟨rfl, rfl⟩
        go_wp2_with fail
        refine Calls.mono (HW.out _ hBu hB.size) ?_
        rintro e w2 ⟨⟨x, rfl⟩, hBu2, hB2, -⟩
        go_wp2_with fail
        go_roundw
        case rel => exact ⟨i + 1, X ++ Y, by go_num, by omega, hln, HT.out.symm, HY2, fun e => absurd e (HN.out X), hBu2, hB.trans hB2⟩
        case measure => simp [intOf]; omega
      · have HQ : Hid (R = ([], false)) := HO.out hok
        rw [decide_eq_false hok] at HV
        clear HO HY hok hln HT
        go_wp2_with fail
        refine (HV.out _).mono ?_
        rintro e w1 ⟨rfl, rfl⟩
        go_wp2_with fail
        go_ret2
        rw [HQ.out]
        exact ⟨rfl, hB⟩
    · have HQ : Hid (R = (X, true)) := by
        have h1 := HR.out.2 (fun j hj => HI.out j hj (by omega))
        show _ = _
        rw [h1, HX.out, List.take_of_length_le (by omega)]
      clear HX HI
      have HS : Hid (Calls Try.prog 20 #[.pointer (some ⟨w.heap.size, 0, none⟩)] wr fun e w' => e = .returned (.string ⟨X.toArray⟩) ∧ Below w.heap.size wr w') := by
        by_cases h0 : X = []
        · have := bstr0_any w.heap.size w.heap.size wr (HE.out h0)
          subst h0
          exact this
        · exact bstr_any w.heap.size w.heap.size X wr hBu h0
      clear HE hBu
      go_wp2_with fail
      refine Calls.mono HS.out ?_
      rintro e w2 ⟨rfl, hB2⟩
      go_wp2_with fail
      go_ret2
      rw [HQ.out]
      exact ⟨rfl, hB.trans hB2⟩

end Go.Proofs.Ytihlpeakddbopaa
