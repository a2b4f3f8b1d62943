/- The laws' own functions over tables: table and texts. -/
import Derived.Test.YtknfecclijoefaaDoorLTg
import Derived.Test.YtknfecclijoefaaDoorRMa
namespace Go.Proofs.YtknfecclijoefaaDoor
open Go.RowKit Go.Maps Go.WideMaps

/-- More texts than are played. -/
def grt6 (L : List ByteArray) : Bool := decide (200 < L.length) || L.any (fun s => decide (500 < s.size))
theorem grt6_no (L : List ByteArray) (h : grt6 L = false) : L.length ≤ 200 ∧ ∀ s ∈ L, s.size ≤ 500 := by
  simp only [grt6, Bool.or_eq_false_iff, decide_eq_false_iff_not, List.any_eq_false, decide_eq_true_eq] at h
  exact ⟨by omega, fun s hs => by have := h.2 s hs; omega⟩

set_option maxRecDepth 10000 in
set_option maxHeartbeats 400000 in
theorem great6_any (a : Option Addr) (cap b o : Nat) (L : List ByteArray) (w : World) (ha : 0 < L.length → a = some ⟨b, o, none⟩) (hL : TextAt w b o L) (hm : L.length ≤ 9223372036854775807) :
    Calls Tryd.prog 25 #[.slice a L.length cap] w fun e w' => e = .returned (.bool (grt6 L)) ∧ w' = w := by
  have HR : Hid ((200 < L.length → grt6 L = true) ∧ (∀ i (h : i < L.length), 500 < L[i].size → grt6 L = true) ∧ (L.length ≤ 200 → (∀ i (h : i < L.length), L[i].size ≤ 500) → grt6 L = false)) := by
    refine ⟨fun h => ?_, fun i h h1 => ?_, fun h h1 => ?_⟩
    · simp [grt6, h]
    · simp only [grt6, Bool.or_eq_true, List.any_eq_true, decide_eq_true_eq]
      exact .inr ⟨_, List.getElem_mem h, h1⟩
    · simp only [grt6, Bool.or_eq_false_iff, decide_eq_false_iff_not, List.any_eq_false, decide_eq_true_eq]
      refine ⟨by omega, fun s hs => ?_⟩
      obtain ⟨i, hi, rfl⟩ := List.getElem_of_mem hs
      have := h1 i hi
      omega
  generalize grt6 L = R at *
  by_cases hl : L.length ≤ 200
  · have hl' : (L.length : Int) ≤ 200 := by omega
    go_enter Tryd.func25, Tryd.ntmps25
    go_wp2_with fail
    go_loopw [3] (fun iv wr => ∃ i : Nat, iv = .int .i64 i ∧ i ≤ L.length ∧ Hid (∀ j (hj : j < L.length), j < i → L[j].size ≤ 500) ∧ wr = w) (fun iv _ => L.length - (intOf iv).toNat)
    case atStart => exact ⟨0, rfl, by omega, fun j _ h => by omega, rfl⟩
    case round =>
      obtain ⟨i, rfl, hi, HI, rfl⟩ := hrel
      by_cases hlt : i < L.length
      · obtain rfl := ha (by omega)
        obtain ⟨hbl, c0⟩ := hL i hlt
        have HO : Hid (500 < L[i].size → R = true) := fun h => HR.out.2.1 i hlt h
        have HY : Hid (L[i].size ≤ 500 → ∀ j (hj : j < L.length), j < i + 1 → L[j].size ≤ 500) := fun h j hj hji => by
          by_cases e : j = i
          · subst e; exact h
          · exact HI.out j hj (by omega)
        clear HI HR
        generalize L[i] = c at *
        by_cases he : 500 < c.size
        · have HQ : Hid (R = true) := HO.out he
          have he' : (500 : Int) < c.size := by omega
          clear HO HY he
          go_wp2_with fail
          go_ret
          rw [HQ.out]
          exact ⟨rfl, rfl⟩
        · have HQ' : Hid _ := HY.out (by omega)
          have he' : (c.size : Int) ≤ 500 := by omega
          clear HO HY he
          go_wp2_with fail
          go_roundw
          case rel => exact ⟨i + 1, by go_num, by omega, HQ'.out, trivial⟩
          case measure => simp [intOf]; omega
      · have HQ : Hid (R = false) := HR.out.2.2 hl (fun j hj => HI.out j hj (by omega))
        clear HI HR
        go_wp2_with fail
        go_ret
        rw [HQ.out]
        exact ⟨rfl, rfl⟩
  · have hl' : (200 : Int) < L.length := by omega
    have HQ : Hid (R = true) := HR.out.1 (by omega)
    clear HR
    go_enter Tryd.func25, Tryd.ntmps25
    go_wp2_with fail
    go_ret
    rw [HQ.out]
    exact ⟨rfl, rfl⟩

theorem itF_mem (T : List ByteArray) : ∀ (L : List ByteArray) (s : ByteArray), s ∈ itF L T → s ∈ L ∨ s ∈ T := by
  induction T with
  | nil => intro L s h; exact .inl h
  | cons x r ih =>
    intro L s h
    rcases ih (pIntern L x) s h with h | h
    · unfold pIntern at h
      split at h
      · exact .inl h
      · rw [List.mem_append] at h
        rcases h with h | h
        · exact .inl h
        · exact .inr (by simp at h; simp [h])
    · exact .inr (by simp [h])
theorem itF_big {X : List ByteArray} (h : grt6 X = false) (i : Nat) : (itF [] (X.take i)).length ≤ 200 ∧ sum6 (itF [] (X.take i)) ≤ 100000 ∧ (∀ s ∈ itF [] (X.take i), s.size ≤ 500) := by
  obtain ⟨h1, h2⟩ := grt6_no X h
  have h3 := itF_len (X.take i) []
  have h4 : ∀ s ∈ itF [] (X.take i), s.size ≤ 500 := fun s hs => by
    rcases itF_mem _ _ _ hs with q | q
    · simp at q
    · exact h2 s (List.mem_of_mem_take q)
  have h5 := sum6_le _ 500 h4
  simp at h3
  refine ⟨by omega, ?_, h4⟩
  have : 500 * (itF [] (X.take i)).length ≤ 500 * 200 := Nat.mul_le_mul_left _ (by omega)
  omega

theorem TxI.fr {S : Nat → Prop} {w w' : World} {a : Option Addr} {cap b o : Nat} {L : List ByteArray} (h : TxI w a cap b o L) (k : Fr S w w') (hb : 0 < L.length → ¬ S b) : TxI w' a cap b o L :=
  ⟨h.ptr, fun i hi => h.at_.fr k (hb (by omega)) i hi, h.cap_, h.nil⟩

/-- What table leaves: a table, and the same texts as a list of the law's own. -/
def TabOut (w w' : World) (e : Ending) (T : List ByteArray) : Prop :=
  ∃ g gm v y cap b o, e = .returned (.tuple #[.pointer (some ⟨g, 0, none⟩), .slice y T.length cap, .bool true]) ∧ Tb w' w.heap.size g gm v T ∧ TxI w' y cap b o T ∧ (0 < T.length → w.heap.size ≤ b ∧ ¬ TbS g gm v b) ∧ Below w.heap.size w w'

set_option maxRecDepth 10000 in
set_option maxHeartbeats 1000000 in
theorem table_any (a : Option Addr) (cap b o : Nat) (X : List ByteArray) (w : World) (ha : 0 < X.length → a = some ⟨b, o, none⟩) (hL : TextAt w b o X) (hm : X.length ≤ 9223372036854775807) :
    Calls Tryd.prog 9 #[.slice a X.length cap] w fun e w' => if grt6 X = true then e = .returned (.tuple #[.pointer none, .slice none 0 0, .bool false]) ∧ Below w.heap.size w w' else TabOut w w' e (itF [] X) := by
  have HT : Hid _ := tnew_any w
  have HGr : Hid (∀ w', Below w.heap.size w w' → Calls Tryd.prog 25 #[.slice a X.length cap] w' fun e w'' => e = .returned (.bool (grt6 X)) ∧ w'' = w') := fun w' hb => great6_any a cap b o X w' ha (hL.below hb) hm
  have HL : Hid (0 < X.length → a = some ⟨b, o, none⟩) := ha
  have HX : Hid (TextAt w b o X) := hL
  have HZ : Hid (grt6 X = false → ∀ i, (itF [] (X.take i)).length ≤ 200 ∧ sum6 (itF [] (X.take i)) ≤ 100000) := fun h i => ⟨(itF_big h i).1, (itF_big h i).2.1⟩
  have HY : Hid (grt6 X = false → X.length ≤ 200 ∧ ∀ i (h : i < X.length), X[i].size ≤ 500) := fun h => ⟨(grt6_no X h).1, fun i hi => (grt6_no X h).2 _ (List.getElem_mem hi)⟩
  clear ha hL hm
  obtain ⟨G, hG⟩ : ∃ G, grt6 X = G := ⟨_, rfl⟩
  rw [hG] at HGr HZ HY ⊢
  clear hG
  go_enter Tryd.func9, Tryd.ntmps9
  go_wp2_with fail
  refine Calls.mono HT.out ?_
  rintro e w1 ⟨rfl, hT, hb⟩
  have HT1 : Hid _ := hT
  have HB1 : Hid _ := hb
  clear HT hT hb
  go_wp2_with fail
  refine Calls.mono (HGr.out _ HB1.out) ?_
  rintro e w2 ⟨rfl, hw2⟩
  rw [hw2]
  clear hw2 HGr
  cases G
  · go_wp2_with fail
    go_loopw [6, 8, 18] (fun ov _ iv wr => ∃ (i : Nat) (L : List ByteArray) (y : Option Addr) (cp gm b2 o2 : Nat) (v : Value), iv = .int .i64 i ∧ ov = .slice y L.length cp ∧ i ≤ X.length ∧ Hid (L = itF [] (X.take i)) ∧ Hid (Tb wr w.heap.size (w.heap.size + 1) gm v L) ∧ Hid (TxI wr y cp b2 o2 L) ∧ Hid (0 < L.length → w.heap.size ≤ b2 ∧ ¬ TbS (w.heap.size + 1) gm v b2) ∧ Hid (Below w.heap.size w wr)) (fun _ _ iv _ => X.length - (intOf iv).toNat)
    case atStart => exact ⟨0, [], none, 0, w.heap.size, 0, 0, _, rfl, rfl, by omega, rfl, HT1, ⟨fun h => by simp at h, fun i hi => by simp at hi, Nat.le_refl _, fun _ => rfl⟩, (fun h => by simp at h), HB1⟩
    case round =>
      clear HT1 HB1
      obtain ⟨i, L, y, cp, gm, b2, o2, v, rfl, rfl, hi, HF, HT, HI, HN, HB⟩ := hrel
      by_cases hlt : i < X.length
      · have hlt' : (i : Int) < X.length := by omega
        obtain rfl := HL.out (by omega)
        obtain ⟨hbl, c0⟩ := HX.out.below HB.out i hlt
        have hs := (HY.out trivial).2 i hlt
        have hx2 := (HY.out trivial).1
        have HF2 : Hid (itF [] (X.take (i + 1)) = pIntern L X[i]) := by
          show _ = _
          rw [HF.out, ← itF_snoc, List.take_add_one, List.getElem?_eq_getElem hlt]
          rfl
        have hz := (HZ.out trivial) i
        rw [← HF.out] at hz
        generalize X[i] = s at hs HF2 c0
        have HTi : Hid _ := tintern_any HT.out s (by omega) (by omega) (by omega)
        clear HF
        go_wp2_with fail
        refine Calls.mono HTi.out ?_
        rintro e w3 ⟨rfl, v', hT3, hf3, hn3⟩
        have hsz := hf3.size
        have hB := HB.out.size
        have h0 : ∃ b0 o0, (0 < L.length → y = some ⟨b0, o0, none⟩) ∧ TextAt w3 b0 o0 L ∧ (w3.heap.size ≤ b0 ∨ (w.heap.size ≤ b0 ∧ b0 < wr.heap.size ∧ ¬ TbS (w.heap.size + 1) gm v b0)) := by
          by_cases hz : 0 < L.length
          · obtain ⟨n1, n2⟩ := HN.out hz
            exact ⟨b2, o2, HI.out.ptr, (HI.out.fr hf3 (fun _ => n2)).at_, .inr ⟨n1, (HI.out.at_ 0 hz).1, n2⟩⟩
          · exact ⟨w3.heap.size, 0, fun h => absurd h hz, fun i hi => by omega, .inl (Nat.le_refl _)⟩
        obtain ⟨b0, o0, q1, q2, q3⟩ := h0
        have HJ : Hid _ := intern6_at y cp b0 o0 L s w3 q1 q2 HI.out.cap_ HI.out.nil (by omega)
        have HP : Hid (∀ k, TbS (w.heap.size + 1) gm v' k → k < w3.heap.size ∧ (TbS (w.heap.size + 1) gm v k ∨ wr.heap.size ≤ k)) := fun k hk => ⟨hT3.lt k hk, hn3 k hk⟩
        have HT3 : Hid _ := hT3
        have HB3 : Hid (Below w.heap.size w w3) := Fr.below HB.out hf3 HT.out.ge HB.out.size
        have HQ3 : Hid _ := q3
        clear hT3 hf3 hn3 HI HN HT HTi q1 q2 q3 HB
        go_wp2_with fail
        refine Calls.mono HJ.out ?_
        rintro e w4 ⟨y4, cp4, b4, o4, rfl, r1, r2, r3, r4, r5, r6⟩
        have HT4 : Hid _ := HT3.out.below r6
        have HI4 : Hid (TxI w4 y4 cp4 b4 o4 (pIntern L s)) := ⟨r1, r2, r3, r4⟩
        have HB4 : Hid (Below w.heap.size w w4) := HB3.out.trans (r6.mono HB3.out.size)
        have HN4 : Hid (0 < (pIntern L s).length → w.heap.size ≤ b4 ∧ ¬ TbS (w.heap.size + 1) gm v' b4) := by
          intro _
          rcases HQ3.out with q | ⟨q, q', q''⟩
          · have hb4 : w3.heap.size ≤ b4 := by
              rcases r5 with ⟨rfl, _⟩ | r5
              · exact q
              · exact r5
            exact ⟨by omega, fun hk => by have := (HP.out b4 hk).1; omega⟩
          · rcases r5 with ⟨rfl, _⟩ | r5
            · exact ⟨q, fun hk => by
                rcases (HP.out b4 hk).2 with h | h
                · exact q'' h
                · omega⟩
            · exact ⟨by omega, fun hk => by have := (HP.out b4 hk).1; omega⟩
        clear HT3 HB3 HQ3 HP HJ r1 r2 r3 r4 r5 r6
        go_wp2_with fail
        go_roundw
        case rel => exact ⟨i + 1, pIntern L s, y4, cp4, gm, b4, o4, v', by go_num, rfl, by omega, HF2.out.symm, HT4, HI4, HN4, HB4⟩
        case measure => simp [intOf]; omega
      · have hlt' : ¬ (i : Int) < X.length := by omega
        have HF2 : Hid (itF [] X = L) := by
          show _ = _
          rw [HF.out, List.take_of_length_le (by omega)]
        clear HF
        go_wp2_with fail
        go_ret3
        rw [HF2.out]
        exact ⟨_, gm, v, y, cp, b2, o2, rfl, HT.out, HI.out, HN.out, HB.out⟩
  · go_wp2_with fail
    go_ret3
    exact ⟨rfl, HB1.out⟩

set_option maxRecDepth 10000 in
set_option maxHeartbeats 1000000 in
/-- Are these all of a table? -/
theorem texts_any {w : World} {B g gm : Nat} {v : Value} {L : List ByteArray} (h : Tb w B g gm v L) (a : Option Addr) (cap b o : Nat) (M : List ByteArray) (ha : 0 < M.length → a = some ⟨b, o, none⟩) (hM : TextAt w b o M) (hl : M.length ≤ 1000000) :
    Calls Tryd.prog 15 #[.pointer (some ⟨g, 0, none⟩), .slice a M.length cap] w fun e w' => e = .returned (.bool (decide (L = M))) ∧ w' = w := by
  have HLn : Hid _ := tlen_any h
  have HA : Hid (∀ i (hi : i < L.length), Calls Tryd.prog 38 #[.pointer (some ⟨g, 0, none⟩), .int .i64 i] w fun e w' => e = .returned (.tuple #[.string (L[i]'hi), .bool true]) ∧ w' = w) := fun i hi => tat_in h i hi
  have HL : Hid (0 < M.length → a = some ⟨b, o, none⟩) := ha
  have HX : Hid (TextAt w b o M) := hM
  clear ha hM h
  obtain ⟨D, hD⟩ : ∃ D, decide (L = M) = D := ⟨_, rfl⟩
  have HD : Hid (∀ i (h1 : i < L.length) (h2 : i < M.length), L[i] ≠ M[i] → D = false) := fun i h1 h2 q => by
    rw [← hD]
    exact decide_eq_false (fun e => by subst e; exact q rfl)
  have HE : Hid (L.length = M.length → (∀ i (h1 : i < L.length) (h2 : i < M.length), L[i] = M[i]) → D = true) := fun hn q => by
    rw [← hD]
    exact decide_eq_true (List.ext_getElem hn (fun i h1 h2 => q i h1 h2))
  have HF : Hid (L.length ≠ M.length → D = false) := fun hn => by
    rw [← hD]
    exact decide_eq_false (fun e => hn (by rw [e]))
  rw [hD]
  clear hD
  go_enter Tryd.func15, Tryd.ntmps15
  go_wp2_with fail
  refine Calls.mono HLn.out ?_
  rintro e w1 ⟨rfl, hw1⟩
  rw [hw1]
  clear hw1 HLn
  by_cases hn : L.length = M.length
  · have hn' : (L.length : Int) = M.length := by omega
    rw [hn']
    clear hn'
    have HN : Hid _ := hn
    clear hn
    go_wp2_with fail
    go_loopw [5, 6, 7, 8, 16] (fun _ _ _ _ iv wr => ∃ i : Nat, iv = .int .i64 i ∧ i ≤ M.length ∧ Hid (∀ j (h1 : j < L.length) (h2 : j < M.length), j < i → L[j] = M[j]) ∧ wr = w) (fun _ _ _ _ iv _ => M.length - (intOf iv).toNat)
    case atStart => exact ⟨0, rfl, by omega, fun j _ _ h => by omega, rfl⟩
    case round =>
      obtain ⟨i, rfl, hi, HI, rfl⟩ := hrel
      by_cases hlt : i < M.length
      · have hlt' : (i : Int) < M.length := by omega
        obtain rfl := HL.out (by omega)
        obtain ⟨hbl, c0⟩ := HX.out i hlt
        have hlL : i < L.length := by have := HN.out; omega
        have HAi : Hid _ := HA.out i hlL
        have HDi : Hid _ := HD.out i hlL hlt
        have HI2 : Hid (L[i] = M[i] → ∀ j (h1 : j < L.length) (h2 : j < M.length), j < i + 1 → L[j] = M[j]) := fun q j h1 h2 hj => by
          by_cases e : j = i
          · subst e; exact q
          · exact HI.out j h1 h2 (by omega)
        clear HI HD
        generalize L[i] = s at *
        generalize M[i] = s2 at *
        go_wp2_with fail
        refine Calls.mono HAi.out ?_
        rintro e w3 ⟨rfl, hw3⟩
        rw [hw3]
        clear hw3 HAi
        by_cases hs : s = s2
        · have HQ : Hid _ := HI2.out hs
          subst hs
          clear HI2 HDi
          go_wp2_with fail
          go_roundw
          case rel => exact ⟨i + 1, by go_num, by omega, HQ, trivial⟩
          case measure => simp [intOf]; omega
        · have HQ : Hid (D = false) := HDi.out hs
          have hbq : (s.toList == s2.toList) = false := by rw [eq_text]; exact decide_eq_false hs
          clear HI2 HDi
          go_wp2_with fail
          go_ret
          rw [HQ.out]
          exact ⟨rfl, rfl⟩
      · have hlt' : ¬ (i : Int) < M.length := by omega
        have HQ : Hid (D = true) := HE.out HN.out (fun j h1 h2 => HI.out j h1 h2 (by omega))
        clear HI HD HE
        go_wp2_with fail
        go_ret
        rw [HQ.out]
        exact ⟨rfl, rfl⟩
  · have hn' : ¬ (L.length : Int) = M.length := by omega
    have HQ : Hid (D = false) := HF.out hn
    go_wp2_with fail
    go_ret
    rw [HQ.out]
    exact ⟨rfl, rfl⟩

end Go.Proofs.YtknfecclijoefaaDoor
