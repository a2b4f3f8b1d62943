/- All of a scene's texts, each once: how many bytes they have: the contract of the program's textBytes. -/
import Derived.Test.YtdioecmpcppleaaDoorLTx
import Derived.Test.YtdioecmpcppleaaDoorGE
import Derived.StringKeys
namespace Go.Proofs.YtdioecmpcppleaaDoor
open Go.RowKit Go.Maps Go.WideMaps

/-- All texts, each once, as they are met. -/
def itn (T : List ByteArray) : List ByteArray := T.foldl pIntern []
def allT (X : List Nx) : List ByteArray := X.flatMap fun x => x.nd.texts
/-- How many bytes they have. -/
def txb (X : List Nx) : Nat := sum6 (itn (allT X))

theorem itn_snoc (T : List ByteArray) (s : ByteArray) : itn (T ++ [s]) = pIntern (itn T) s := by simp [itn, List.foldl_append]
theorem pIntern_mem (L : List ByteArray) (s t : ByteArray) : t ∈ pIntern L s ↔ t ∈ L ∨ t = s := by
  unfold pIntern
  by_cases h : idx6 s L < L.length
  · rw [if_pos h]
    exact ⟨.inl, fun q => q.elim id (fun e => e ▸ (idx6_mem s L).1 h)⟩
  · rw [if_neg h]
    simp
theorem pIntern_len (L : List ByteArray) (s : ByteArray) : (pIntern L s).length ≤ L.length + 1 := by
  unfold pIntern
  split <;> simp
theorem foldlT_mem (T : List ByteArray) (t : ByteArray) : ∀ L : List ByteArray, t ∈ T.foldl pIntern L ↔ t ∈ L ∨ t ∈ T := by
  induction T with
  | nil => intro L; simp
  | cons x r ih =>
    intro L
    rw [List.foldl_cons, ih, pIntern_mem, List.mem_cons]
    exact or_assoc
theorem itn_mem (T : List ByteArray) (t : ByteArray) : t ∈ itn T ↔ t ∈ T := by
  unfold itn
  rw [foldlT_mem]
  simp
theorem foldlT_len (T : List ByteArray) : ∀ L : List ByteArray, (T.foldl pIntern L).length ≤ L.length + T.length := by
  induction T with
  | nil => intro L; simp
  | cons x r ih =>
    intro L
    rw [List.foldl_cons]
    have := ih (pIntern L x)
    have := pIntern_len L x
    simp only [List.length_cons]
    omega
theorem itn_len (T : List ByteArray) : (itn T).length ≤ T.length := by
  have := foldlT_len T []
  simpa [itn] using this
theorem allT_take (X : List Nx) (i : Nat) (h : i < X.length) : allT (X.take (i + 1)) = allT (X.take i) ++ (X.getD i noNx).nd.texts := by
  unfold allT
  rw [List.take_add_one, List.getElem?_eq_getElem h, List.flatMap_append]
  simp [h]

/-- The texts up to the k-th one of node i. -/
def upT (X : List Nx) (i k : Nat) : List ByteArray := allT (X.take i) ++ (X.getD i noNx).nd.texts.take k
theorem upT_zero (X : List Nx) (i : Nat) : upT X i 0 = allT (X.take i) := by simp [upT]
theorem upT_next (X : List Nx) (i k : Nat) (hk : k < (X.getD i noNx).nd.texts.length) : upT X i (k + 1) = upT X i k ++ [(X.getD i noNx).nd.texts.getD k noT] := by
  unfold upT
  generalize (X.getD i noNx).nd.texts = T at *
  rw [List.append_assoc, List.take_add_one, List.getElem?_eq_getElem hk, List.getD_eq_getElem?_getD, List.getElem?_eq_getElem hk]
  rfl
theorem upT_full (X : List Nx) (i : Nat) (h : i < X.length) : upT X i (X.getD i noNx).nd.texts.length = allT (X.take (i + 1)) := by
  rw [allT_take X i h]
  simp [upT]
theorem allT_small (X : List Nx) (hX : Small X) : ∀ i, i ≤ X.length → (allT (X.take i)).length ≤ i * 100 ∧ ∀ s ∈ allT (X.take i), s.size ≤ 500
  | 0, _ => by simp [allT]
  | i + 1, hi => by
    have ih := allT_small X hX i (by omega)
    have hg := great_no (hX.2 i (by omega))
    rw [allT_take X i (by omega), List.length_append]
    refine ⟨by have := hg.2.1; omega, fun s hs => ?_⟩
    rcases List.mem_append.1 hs with h | h
    · exact ih.2 s h
    · exact hg.2.2.2 s h
theorem upT_small (X : List Nx) (hX : Small X) (i k : Nat) (hi : i < X.length) : (upT X i k).length ≤ 6100 ∧ ∀ s ∈ upT X i k, s.size ≤ 500 := by
  have h1 := allT_small X hX i (by omega)
  have hg := great_no (hX.2 i hi)
  have hn := hX.1
  unfold upT
  rw [List.length_append, List.length_take]
  refine ⟨by have := hg.2.1; omega, fun s hs => ?_⟩
  rcases List.mem_append.1 hs with h | h
  · exact h1.2 s h
  · exact hg.2.2.2 s (List.mem_of_mem_take h)
theorem itn_sum (T : List ByteArray) (h1 : T.length ≤ 6100) (h2 : ∀ s ∈ T, s.size ≤ 500) : sum6 (itn T) ≤ 3050000 ∧ (itn T).length ≤ 6100 := by
  have h3 := itn_len T
  have h4 := sum6_le (itn T) 500 (fun s hs => h2 s ((itn_mem T s).1 hs))
  omega

/-- Is a text among these? -/
def inT (s : ByteArray) (L : List ByteArray) : Bool := decide (idx6 s L < L.length)
theorem inT_iff (s : ByteArray) (L : List ByteArray) : inT s L = true ↔ s ∈ L := by
  unfold inT
  rw [decide_eq_true_iff, idx6_mem]
theorem inT_same (s : ByteArray) (L : List ByteArray) : inT s (L ++ [s]) = true := (inT_iff _ _).2 (by simp)
theorem inT_other (s t : ByteArray) (L : List ByteArray) (h : t ≠ s) : inT t (L ++ [s]) = inT t L := by
  rw [Bool.eq_iff_iff, inT_iff, inT_iff]
  simp [h]
/-- The map of the texts that were met. -/
def kS (s : ByteArray) : Lit := .string s.data.toList
theorem lawS6 : Keyed Tryd.prog 9 := string_keyed Tryd.underlying9
theorem kS_key (s : ByteArray) (h : s.size ≤ maxLen) : keyOf Tryd.prog 9 (.string s) = some (kS s) := keyOf_string_mk Tryd.underlying9 h
theorem kS_ne {s t : ByteArray} (h : s ≠ t) : kS s ≠ kS t := by
  intro e
  unfold kS at e
  injection e with e
  apply h
  cases s; cases t
  simp at e
  rw [e]
theorem kS_is (s : ByteArray) : WideAt.IsKeyLit (kS s) := trivial
def MetT (w : World) (g n : Nat) (L : List ByteArray) : Prop := ∃ D : DataW Unit, w.ownsMap Tryd.prog 9 (plainElem Tryd.prog 4) g n D ∧ ∀ s : ByteArray, D.atKey (kS s) (bE false) = bE (inT s L)
section
variable {S : Nat → Prop} {w w' : World} {g n : Nat} {L : List ByteArray}
theorem MetT.lt (h : MetT w g n L) : g < w.heap.size := by obtain ⟨D, h1, _⟩ := h; exact h1.lt
theorem MetT.fr (h : MetT w g n L) (k : Fr S w w') (hn : ¬ S g) : MetT w' g n L := by
  obtain ⟨D, h1, h2⟩ := h
  exact ⟨D, map_fr h1 k hn, h2⟩
theorem MetT.below (h : MetT w g n L) (k : Below w.heap.size w w') : MetT w' g n L := h.fr (Fr.of_below (S := fun _ => False) k) id
theorem MetT.made (w : World) : MetT (w.alloc (.map #[] 0)) w.heap.size 0 [] := ⟨_, World.ownsMap_made w Tryd.prog 9 (plainElem (H := Unit) Tryd.prog 4), fun _ => rfl⟩
theorem MetT.look (h : MetT w g n L) (s : ByteArray) (hs : s.size ≤ maxLen) : (Instr.lookup 82 (.map (some g)) (.string s) false).run Tryd.prog w = .ok (.bool (inT s L)) w := by
  obtain ⟨D, h1, h2⟩ := h
  obtain ⟨v, ps, hr, hv⟩ := h1.lookup lawS6 Tryd.underlying82 (zeroB9 w) (plainElem_bool Tryd.underlying4 false) (kS_key s hs)
  obtain ⟨b, rfl, hb⟩ := plainElem_bool_inv Tryd.underlying4 hv
  have := h2 s
  simp only [bE] at this
  rw [this] at hb
  simp only [Prod.mk.injEq, DataW.lit.injEq, Lit.bool.injEq] at hb
  rw [hr, hb.1]
theorem MetT.put (h : MetT w g n L) (s : ByteArray) (hs : s.size ≤ maxLen) (hn : n < maxLen) : ∃ w', (Instr.mapUpdate 82 (.map (some g)) (.string s) (.bool true)).run Tryd.prog w = .ok () w' ∧ MetT w' g (n + 1) (L ++ [s]) ∧ w.grownBy w' (some g) := by
  obtain ⟨D, h1, h2⟩ := h
  have hm := h1.isMap
  obtain ⟨w', hr, h3, h4⟩ := h1.update lawS6 Tryd.underlying82 hn (kS_key s hs) (plainElem_bool Tryd.underlying4 true)
  refine ⟨w', hr, ⟨_, h3, fun t => ?_⟩, h4⟩
  by_cases e : t = s
  · subst e
    rw [atKey_put_same hm (kS_is t), inT_same]
    rfl
  · rw [atKey_put_other (kS_ne e), h2 t, inT_other s t L e]
end

set_option maxRecDepth 10000 in
set_option maxHeartbeats 1000000 in
theorem textbytes_any (X : List Nx) (a : Option Addr) (c : Nat) (r : Int) (w : World) (h : ScAt w a X) (hX : Small X) :
    Calls Tryd.prog 33 #[.agg #[.slice a X.length c, .int .i64 r]] w fun e w' => e = .returned (.int .i64 (txb X : Nat)) ∧ Below w.heap.size w w' := by
  have hmm := @run_makeMap Tryd.prog
  have HS : Hid (ScAt w a X ∧ Small X) := ⟨h, hX⟩
  have hm0 : MetT ((w.alloc (.cells #[.slice a X.length c, .int .i64 r] 24)).alloc (.map #[] 0)) (w.heap.size + 1) 0 [] := by
    have := MetT.made (w.alloc (.cells #[.slice a X.length c, .int .i64 r] 24))
    simpa using this
  have HM0 : Hid (MetT ((w.alloc (.cells #[.slice a X.length c, .int .i64 r] 24)).alloc (.map #[] 0)) (w.heap.size + 1) 0 []) := hm0
  have HB0 : Hid (Below w.heap.size w ((w.alloc (.cells #[.slice a X.length c, .int .i64 r] 24)).alloc (.map #[] 0))) := ((Below.refl w.heap.size w).alloc (Nat.le_refl _) _).alloc (by simp) _
  have hn := hX.1
  clear h hX hm0
  go_enter Tryd.func33, Tryd.ntmps33
  go_wp2_with fail
  go_loopw [4, 13] (fun nv iv wr => ∃ (i n : Nat) (L : List ByteArray), iv = .int .i64 i ∧ nv = .int .i64 n ∧ i ≤ X.length ∧ Hid (L = itn (allT (X.take i))) ∧ Hid (n = sum6 L) ∧ Hid (MetT wr (w.heap.size + 1) L.length L) ∧ Hid (Below w.heap.size w wr)) (fun _ iv _ => X.length - (intOf iv).toNat)
  case atStart => exact ⟨0, 0, [], rfl, rfl, by omega, by simp [Hid, itn, allT], rfl, HM0, HB0⟩
  case round =>
    clear HM0 HB0
    obtain ⟨i, n, L, rfl, rfl, hi, HL, HN, HM, HB⟩ := hrel
    by_cases hlt : i < X.length
    · have hlt' : (i : Int) < X.length := by omega
      obtain ⟨b, o, rfl, hbl, d0, d1, d2, d3⟩ := (ScAt.belowB HS.out.1 HB.out).node hlt
      have HT : Hid (∀ W, Below w.heap.size w W → LsAt W (X.getD i noNx).a2 (tV (X.getD i noNx).nd.texts)) := fun W hW => ((ScAt.belowB HS.out.1 hW).each i hlt).t
      have HZ : Hid (∀ k, (upT X i k).length ≤ 6100 ∧ ∀ s ∈ upT X i k, s.size ≤ 500) := fun k => upT_small X HS.out.2 i k hlt
      have HU0 : Hid (L = itn (upT X i 0)) := by show _ = _; rw [upT_zero]; exact HL.out
      have HU1 : Hid (∀ k, k < (X.getD i noNx).nd.texts.length → upT X i (k + 1) = upT X i k ++ [(X.getD i noNx).nd.texts.getD k noT]) := fun k hk => upT_next X i k hk
      have HU2 : Hid (itn (upT X i (X.getD i noNx).nd.texts.length) = itn (allT (X.take (i + 1)))) := by show _ = _; rw [upT_full X i hlt]
      have hng := (great_no (HS.out.2.2 i hlt)).2.1
      generalize upT X i = U at *
      generalize X.getD i noNx = N at *
      obtain ⟨⟨kd, I, T, K⟩, a1, c1, a2, c2, a3, c3⟩ := N
      dsimp only at *
      clear HL
      go_wp2_with fail
      go_loopw [4, 20] (fun nv kv wr => ∃ (k n : Nat) (L : List ByteArray), kv = .int .i64 k ∧ nv = .int .i64 n ∧ k ≤ T.length ∧ Hid (L = itn (U k)) ∧ Hid (n = sum6 L) ∧ Hid (MetT wr (w.heap.size + 1) L.length L) ∧ Hid (Below w.heap.size w wr)) (fun _ kv _ => T.length - (intOf kv).toNat)
      case atStart =>
        refine ⟨0, n, L, rfl, rfl, by omega, HU0, HN, ?_, ?_⟩
        · exact HM.out.below ((Below.refl _ _).alloc (Nat.le_refl _) _)
        · exact Below.alloc HB.out HB.out.size _
      case round =>
        clear HU0 HN HM HB d0 d1 d2 d3
        obtain ⟨k, n, L, rfl, rfl, hk, HL, HN, HM, HB⟩ := hrel
        by_cases hkl : k < T.length
        · have hkl' : (k : Int) < T.length := by omega
          obtain ⟨g2, o2, rfl, hb2, e2⟩ := (HT.out _ HB.out).at (tV_at T k hkl)
          have HL1 : Hid (itn (U (k + 1)) = pIntern L (T.getD k noT)) := by show _ = _; rw [HU1.out k hkl, itn_snoc, ← HL.out]
          have hsz : (T.getD k noT).size ≤ 500 := (HZ.out (k + 1)).2 _ (by rw [HU1.out k hkl]; simp)
          have hle := itn_sum (U (k + 1)) (HZ.out (k + 1)).1 (HZ.out (k + 1)).2
          have hle0 := itn_sum (U k) (HZ.out k).1 (HZ.out k).2
          rw [← HL.out] at hle0
          rw [HL1.out] at hle
          clear HU1 HL HZ
          generalize T.getD k noT = s at *
          have hlk := MetT.look HM.out s (by unfold maxLen; omega)
          by_cases hin : idx6 s L < L.length
          · have hp : pIntern L s = L := by unfold pIntern; rw [if_pos hin]
            rw [hp] at HL1
            rw [show inT s L = true from decide_eq_true hin] at hlk
            clear hle hle0 hp hin
            go_wp2_with fail
            go_roundw
            case rel => exact ⟨k + 1, n, L, by go_num, rfl, by omega, HL1.out.symm, HN, HM, HB⟩
            case measure => simp [intOf]; omega
          · have hp : pIntern L s = L ++ [s] := by unfold pIntern; rw [if_neg hin]
            rw [hp] at HL1 hle
            rw [show inT s L = false from decide_eq_false hin] at hlk
            obtain ⟨w2, hput, hmet, hgr⟩ := MetT.put HM.out s (by unfold maxLen; omega) (by unfold maxLen; omega)
            have HN1 : Hid (n + s.size = sum6 (L ++ [s])) := by show _ = _; rw [sum6_append, ← HN.out]; simp [sum6]
            have hb' : (n : Int) + s.size ≤ 3050000 := by have := hle.1; rw [← HN1.out] at this; omega
            have HM2 : Hid (MetT w2 (w.heap.size + 1) (L ++ [s]).length (L ++ [s])) := by rw [List.length_append]; exact hmet
            have HB2 : Hid (Below w.heap.size w w2) := Below.grown HB.out hgr HB.out.size (fun q hq => by cases hq; omega)
            clear hle hle0 hp hin hmet hgr HM HB
            go_wp2_with fail
            go_roundw
            case rel => exact ⟨k + 1, n + s.size, L ++ [s], by go_num, by go_num, by omega, HL1.out.symm, HN1, HM2, HB2⟩
            case measure => simp [intOf]; omega
        · have hkl' : ¬ (k : Int) < T.length := by omega
          obtain rfl : k = T.length := by omega
          have HL1 : Hid (L = itn (allT (X.take (i + 1)))) := by show _ = _; rw [HL.out, HU2.out]
          clear HL HU1 HU2 HZ HT
          go_wp2_with fail
          go_roundw
          case rel => exact ⟨i + 1, n, L, by go_num, rfl, by omega, HL1, HN, HM, HB⟩
          case measure => simp [intOf]; omega
    · have hlt' : ¬ (i : Int) < X.length := by omega
      have HQ : Hid (txb X = n) := by
        show _ = _
        rw [HN.out, HL.out, List.take_of_length_le (by omega)]
        rfl
      clear HL HN HM
      go_wp2_with fail
      go_ret
      rw [HQ.out]
      exact ⟨rfl, HB.out⟩

end Go.Proofs.YtdioecmpcppleaaDoor
