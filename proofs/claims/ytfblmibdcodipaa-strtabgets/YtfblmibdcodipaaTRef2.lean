/- The contracts of the document's own Intern and Put on lists of texts. -/
import Derived.Test.YtfblmibdcodipaaTRef
import Derived.Laws.OwnMore
import Derived.Deep.AppendLies
import Derived.Lib.QuietBelow
import Derived.BigQuiet
namespace Go.Proofs.Ytfblmibdcodipaa
open Go.RowKit

theorem tV_length (L : List ByteArray) : (tV L).length = L.length := by simp [tV]
theorem tV_len1 (L : List ByteArray) : (tV L).length = L.length * 1 := by simp [tV]
theorem tV_oneCell (L : List ByteArray) : ∀ u ∈ tV L, u.oneCell' = true := by
  intro u hu
  simp only [tV, List.mem_map] at hu
  obtain ⟨_, _, rfl⟩ := hu
  rfl
theorem news_texts {w : World} {y : Addr} {b o : Nat} {L : List ByteArray} (h : TextAt w b o L) (ha : 0 < L.length → some y = some (⟨b, o, none⟩ : Addr)) : ∀ j u, (tV L)[j]? = some u → w.cell? (y.add j) = some u := by
  intro j u hu
  have hj : j < L.length := by rw [← tV_length]; exact (List.getElem?_eq_some_iff.1 hu).1
  have hy := ha (by omega)
  simp only [Option.some.injEq] at hy
  subst hy
  obtain ⟨_, c0⟩ := h j hj
  rw [show (⟨b, o, none⟩ : Addr).add j = ⟨b, o + j, none⟩ by unfold Addr.add; split <;> simp_all, c0, ← hu]
  simp [tV, hj]
theorem own_empty6 (w : World) : (w.alloc (.cells #[] 9)).ownsRow w.heap.size 9 1 (.slice (some ⟨w.heap.size, 0, none⟩) 0 0) 0 [] := World.ownsRow_lit w #[] 0 (Nat.le_refl _) (by decide) (by simp)
theorem own_shape6 {w : World} {B : Nat} {e : TypeId} {size : Nat} {v : Value} {n : Nat} {xs : List Value} (h : w.ownsRow B e size v n xs) : ∃ ao cap, v = .slice ao n cap := by
  rcases h.2 with ⟨rfl, rfl⟩ | ⟨g', cap, cur, rfl, _⟩
  · exact ⟨none, 0, rfl⟩
  · exact ⟨_, cap, rfl⟩

theorem own_cap {w : World} {B : Nat} {e : TypeId} {a : Option Addr} {n cap : Nat} {xs : List Value} (h : w.ownsRow B e 1 (.slice a n cap) n xs) : n ≤ cap := by
  rcases h.2 with ⟨hv, h0⟩ | ⟨g, cap', cur, hv, hb, hg, hr⟩
  · omega
  · injection hv with _ _ hc
    subst hc
    exact hr.1

theorem own_texts2 {w : World} {B : Nat} {a : Option Addr} {n cap : Nat} {xs : List ByteArray} (h : w.ownsRow B 9 1 (.slice a n cap) n (tV xs)) (hn : xs.length = n) : ∃ gk, (0 < n → a = some ⟨gk, 0, none⟩) ∧ TextAt w gk 0 xs ∧ (0 < n → B ≤ gk) := by
  rcases h.2 with ⟨hv, h0⟩ | ⟨g, cap', cur, hv, hb, hg, _⟩
  · exact ⟨0, by omega, fun i hi => by omega, by omega⟩
  · have ha : a = some ⟨g, 0, none⟩ := by injection hv
    subst ha
    obtain ⟨gk, h1, h2⟩ := own_texts h hn
    by_cases h0 : 0 < n
    · have h3 := h1 h0
      injection h3 with h3
      injection h3 with h3
      exact ⟨gk, h1, h2, fun _ => by omega⟩
    · exact ⟨gk, h1, h2, fun h => absurd h h0⟩

/-- What a call leaves that answers a list of texts and a number. -/
def TGot (w w' : World) (e : Ending) (L : List ByteArray) (n : Int) : Prop :=
  ∃ (a : Option Addr) (cap b o : Nat), e = .returned (.tuple #[.slice a L.length cap, .int .i64 n]) ∧ (0 < L.length → a = some ⟨b, o, none⟩) ∧ TextAt w' b o L ∧ L.length ≤ cap ∧ (a = none → cap = 0) ∧ Below w.heap.size w w'

/-- .. and where the list lies. -/
def TGotAt (w w' : World) (e : Ending) (L : List ByteArray) (n : Int) (b0 o0 : Nat) : Prop :=
  ∃ (a : Option Addr) (cap b o : Nat), e = .returned (.tuple #[.slice a L.length cap, .int .i64 n]) ∧ (0 < L.length → a = some ⟨b, o, none⟩) ∧ TextAt w' b o L ∧ L.length ≤ cap ∧ (a = none → cap = 0) ∧ ((b = b0 ∧ o = o0) ∨ w.heap.size ≤ b) ∧ Below w.heap.size w w'

set_option maxRecDepth 10000 in
set_option maxHeartbeats 400000 in
theorem intern6_at (a : Option Addr) (cap b o : Nat) (L : List ByteArray) (s : ByteArray) (w : World) (ha : 0 < L.length → a = some ⟨b, o, none⟩) (hL : TextAt w b o L) (hcap : L.length ≤ cap) (hnil : a = none → cap = 0) (hs : L.length ≤ 100000) :
    Calls Try.prog 11 #[.slice a L.length cap, .string s] w fun e w' => TGotAt w w' e (pIntern L s) (idx6 s L : Nat) b o := by
  have HF : Hid _ := find_any a cap b o L s w ha hL hs
  obtain ⟨i0, hi, hz0, hz1, hz2⟩ := info_parts Try.infoS6
  by_cases hin : idx6 s L < L.length
  · rw [show pFind L s = (idx6 s L : Int) from if_pos hin] at HF
    rw [show pIntern L s = L from if_pos hin]
    generalize idx6 s L = n at *
    go_enter Try.func11, Try.ntmps11
    go_wp2_with fail
    refine Calls.mono HF.out ?_
    rintro e w1 ⟨rfl, rfl⟩
    clear HF
    go_wp2_with fail
    go_ret2
    exact ⟨a, cap, b, o, rfl, ha, hL, hcap, hnil, .inl ⟨rfl, rfl⟩, Below.refl _ _⟩
  · have hle := idx6_le s L
    rw [show pFind L s = -1 from if_neg hin] at HF
    rw [show pIntern L s = L ++ [s] from if_neg hin, show idx6 s L = L.length by omega]
    clear hin hle
    have ho4 := own_empty6 w
    have B4 : Below w.heap.size w (w.alloc (.cells #[] 9)) := (Below.refl _ _).alloc (Nat.le_refl _) _
    have hL4 := hL.below B4
    rcases a with _ | y
    · obtain rfl := hnil rfl
      obtain rfl : L = [] := List.length_eq_zero_iff.1 (by omega)
      have HC : Hid (∀ j u, [Value.string s][j]? = some u → ((w.alloc (.cells #[] 9)).alloc (.cells #[.string s] 9)).cell? ((⟨w.heap.size + 1, 0, none⟩ : Addr).add j) = some u) := by
        have h := cell_one_new (w.alloc (.cells #[] 9)) (.string s) 9
        rw [show (w.alloc (.cells #[] 9)).heap.size = w.heap.size + 1 by simp] at h
        exact h
      go_enter Try.func11, Try.ntmps11
      go_wp2_with fail
      refine Calls.mono HF.out ?_
      rintro e w1 ⟨rfl, rfl⟩
      clear HF
      go_wp2_with (at_builtin; refine wpList_append_lies _ rfl (.tmp 16) (.tmp 18) 22 rfl w1.heap.size 9 i0 (.string ⟨#[]⟩) 1 16 Try.underlying22 hi hz0 hz1 hz2 rfl (by decide) _ 0 (tV []) rfl (ho4.alloc _) ⟨w1.heap.size + 1, 0, none⟩ 1 1 [.string s] rfl rfl HC.out (by intro u hu; simp at hu; subst hu; rfl) (by decide) (by unfold maxLen; omega) (by omega) (by simp; omega) _ rfl ?_)
      intro g2 cap2 w2 hown2 hgrow2 _ _
      have B2 : Below w1.heap.size w1 w2 := (B4.alloc (by simp) _).grown hgrow2 (by simp; omega) (fun k hk => (ho4.lt k hk).1)
      clear ho4 hgrow2 B4 hL4
      go_wp2_with fail
      go_ret2
      have hc2 := own_cap hown2
      have hown3 : w2.ownsRow w1.heap.size 9 1 (.slice (some ⟨g2, 0, none⟩) 1 cap2) 1 (tV [s]) := by simpa [tV] using hown2
      obtain ⟨gk, h1, h2, h3⟩ := own_texts2 hown3 rfl
      exact ⟨some ⟨g2, 0, none⟩, cap2, gk, 0, rfl, h1, h2, by simpa using hc2, fun h => by simp at h, .inr (h3 (by simp)), B2⟩
    · have HN : Hid _ := news_texts (y := y) hL4 ha
      go_enter Try.func11, Try.ntmps11
      go_wp2_with fail
      refine Calls.mono HF.out ?_
      rintro e w1 ⟨rfl, rfl⟩
      clear HF
      go_wp2_with (at_builtin; refine wpList_append_own _ rfl (.tmp 14) (.tmp 15) 22 rfl w1.heap.size 9 i0 (.string ⟨#[]⟩) 1 16 Try.underlying22 hi hz0 hz1 hz2 rfl (by decide) _ _ _ rfl ho4 y L.length cap (tV L) rfl (tV_len1 L) HN.out (tV_oneCell L) ?c3 ?c4 ?c5 ?_)
      case c3 => unfold maxLen; omega
      case c4 => omega
      case c5 => simp
      intro v4 w4 hown4 hgrow4 _
      obtain ⟨ao, cap4, rfl⟩ := own_shape6 hown4
      have B5 : Below w1.heap.size w1 w4 := B4.grown hgrow4 (by simp) (fun k hk => (ho4.lt k hk).1)
      have hbk := fun q hq => (hown4.lt q hq).1
      clear ho4 hgrow4 B4 hL4 HN
      have hw4 := B5.size
      go_wp2_with (at_builtin; refine wpList_append_lies _ rfl (.tmp 16) (.tmp 18) 22 rfl w1.heap.size 9 i0 (.string ⟨#[]⟩) 1 16 Try.underlying22 hi hz0 hz1 hz2 rfl (by decide) _ L.length (tV L) rfl (hown4.alloc _) ⟨w4.heap.size, 0, none⟩ 1 1 [.string s] rfl rfl (cell_one_new _ _ _) (by intro u hu; simp at hu; subst hu; rfl) (by decide) (by unfold maxLen; omega) (by omega) (by simp; omega) _ rfl ?_)
      intro g2 cap2 w2 hown2 hgrow2 _ _
      have B2 : Below w1.heap.size w1 w2 := (B5.alloc B5.size _).grown hgrow2 (by simp; omega) hbk
      clear hown4 hgrow2 B5
      go_wp2_with fail
      go_ret2
      have hc2 := own_cap hown2
      have hown3 : w2.ownsRow w1.heap.size 9 1 (.slice (some ⟨g2, 0, none⟩) (L ++ [s]).length cap2) (L ++ [s]).length (tV (L ++ [s])) := by simpa [tV] using hown2
      obtain ⟨gk, h1, h2, h3⟩ := own_texts2 hown3 rfl
      exact ⟨some ⟨g2, 0, none⟩, cap2, gk, 0, by simp, h1, h2, by simpa using hc2, fun h => by simp at h, .inr (h3 (by simp)), B2⟩

theorem intern6_any (a : Option Addr) (cap b o : Nat) (L : List ByteArray) (s : ByteArray) (w : World) (ha : 0 < L.length → a = some ⟨b, o, none⟩) (hL : TextAt w b o L) (hcap : L.length ≤ cap) (hnil : a = none → cap = 0) (hs : L.length ≤ 100000) :
    Calls Try.prog 11 #[.slice a L.length cap, .string s] w fun e w' => TGot w w' e (pIntern L s) (idx6 s L : Nat) := by
  refine (intern6_at a cap b o L s w ha hL hcap hnil hs).mono ?_
  rintro e w' ⟨a', cap', b', o', h1, h2, h3, h4, h5, -, h6⟩
  exact ⟨a', cap', b', o', h1, h2, h3, h4, h5, h6⟩

set_option maxRecDepth 10000 in
set_option maxHeartbeats 400000 in
theorem rput6_any (a : Option Addr) (cap b o : Nat) (L : List ByteArray) (w : World) (ha : 0 < L.length → a = some ⟨b, o, none⟩) (hL : TextAt w b o L) (hs : L.length ≤ 100000) (hm : sum6 L ≤ 1000000000) :
    Calls Try.prog 20 #[.slice a L.length cap] w fun e w' => e = .returned (.string ⟨(pPut6 L).toArray⟩) ∧ Below w.heap.size w w' := by
  have HT : Hid ((∀ i (h : i < L.length), body6 (L.take (i + 1)) = body6 (L.take i) ++ (put L[i].size ++ L[i].data.toList)) ∧ body6 (L.take L.length) = body6 L) := ⟨fun i h => body6_take L i h, by rw [List.take_length]⟩
  have HM : Hid (∀ i, (body6 (L.take i)).length ≤ 1001000000) := fun i => by
    have h1 : sum6 L = sum6 (L.take i) + sum6 (L.drop i) := by rw [← sum6_append, List.take_append_drop]
    have h2 := body6_le (L.take i)
    have h3 : (L.take i).length ≤ L.length := by rw [List.length_take]; omega
    omega
  have hS : ∀ i (h : i < L.length), L[i].size ≤ 1000000000 := fun i h => by
    have h1 : sum6 L = sum6 (L.take (i + 1)) + sum6 (L.drop (i + 1)) := by rw [← sum6_append, List.take_append_drop]
    rw [sum6_take L i h] at h1
    omega
  have P0 := refput_any (L.length : Int) w (by omega) (by omega)
  rw [Int.toNat_natCast] at P0
  have z0 := (put_length L.length).2
  obtain ⟨X0, hX0⟩ : ∃ X0 : ByteArray, X0 = ⟨(put L.length).toArray⟩ := ⟨_, rfl⟩
  have d0 : X0.data.toList = put L.length := by rw [hX0]
  have H0 : Hid (X0.data.toList = put L.length) := d0
  have hz0 : X0.size ≤ 10 := by
    have : X0.size = X0.data.toList.length := by rw [Array.length_toList]; rfl
    rw [this, d0]; exact z0
  rw [← hX0] at P0
  clear hX0 d0 z0
  have HP0 : Hid _ := P0
  clear P0
  go_enter Try.func20, Try.ntmps20
  go_wp2_with fail
  refine Calls.mono HP0.out ?_
  rintro e w1 ⟨rfl, b1⟩
  clear HP0
  have hL1 := hL.below b1
  go_wp2_with fail
  go_loopw [3, 4] (fun xv iv wr => ∃ (i : Nat) (X : ByteArray), xv = .string X ∧ iv = .int .i64 i ∧ i ≤ L.length ∧ X.size ≤ 1001000010 ∧ Hid (X.data.toList = X0.data.toList ++ body6 (L.take i)) ∧ Below w.heap.size w wr) (fun _ iv _ => L.length - (intOf iv).toNat)
  case atStart => exact ⟨0, X0, rfl, rfl, by omega, by omega, by simp [Hid, body6], b1⟩
  case round =>
    clear b1 hL1
    obtain ⟨i, X, rfl, rfl, hi, hX, HX, hB⟩ := hrel
    by_cases hlt : i < L.length
    · obtain rfl := ha (by omega)
      obtain ⟨hbl, c0⟩ := hL i hlt
      have hbr : b < wr.heap.size := Nat.lt_of_lt_of_le hbl hB.size
      rw [← (bcell hB).1 b _ hbl] at c0
      have hsi := hS i hlt
      have hx := HT.out.1 i hlt
      have hle := HM.out (i + 1)
      have P1 := fun W => refput_any (L[i].size : Int) W (by omega) (by omega)
      have z1 := (put_length L[i].size).2
      have HQ : Hid (X.data.toList ++ (put L[i].size ++ L[i].data.toList) = X0.data.toList ++ body6 (L.take (i + 1))) := by show _ = _; rw [hx, HX.out, List.append_assoc]
      rw [Int.toNat_natCast] at P1
      clear HX
      generalize L[i] = c at *
      obtain ⟨Y, hY⟩ : ∃ Y : ByteArray, Y = ⟨(put c.size).toArray⟩ := ⟨_, rfl⟩
      rw [← hY] at P1
      have dY : Y.data.toList = put c.size := by rw [hY]
      have zY : Y.size ≤ 10 := by
        have : Y.size = Y.data.toList.length := by rw [Array.length_toList]; rfl
        rw [this, dY]; exact z1
      have A1 := fun (W : World) => run_string_add_sum (P := Try.prog) W Y c (by omega)
      have A2 := fun (W : World) => run_string_add_sum (P := Try.prog) W X (Y ++ c) (by rw [ByteArray.size_append]; omega)
      have HP : Hid _ := P1
      have hsz : (X ++ (Y ++ c)).size ≤ 1001000010 := by
        have q1 : (X ++ (Y ++ c)).size = (X.data.toList ++ (Y.data.toList ++ c.data.toList)).length := by
          rw [List.length_append, List.length_append, Array.length_toList, Array.length_toList, Array.length_toList, ByteArray.size_append, ByteArray.size_append]; rfl
        have q2 : X0.data.toList.length = X0.size := by rw [Array.length_toList]; rfl
        rw [q1, dY, HQ.out, List.length_append, q2]
        omega
      have HQ2 : Hid ((X ++ (Y ++ c)).data.toList = X0.data.toList ++ body6 (L.take (i + 1))) := by
        show _ = _
        rw [ByteArray.data_append, ByteArray.data_append, Array.toList_append, Array.toList_append, dY, HQ.out]
      clear P1 hY dY z1 hx hle HQ hS
      have cP := fun d os => Calls.regrown_of (w := wr) (HP.out (Go.Sort.grow (redrawn wr d) os))
      have m0 := fun d os => cell_regrown c0 d os
      clear HP HM HT H0
      go_wp2_with fail
      refine wp_region_quiet_below (by kernel_rfl) (by kernel_rfl) ?_
      repeat (first | go_big_quiet_step (first | (go_at_call 30; exact cP _ _)) | quiet_step (first | (go_at_call 30; exact cP _ _)))
      refine wpQuiet_nil ?_
      intro _ hw'
      obtain ⟨⟨dq, osq⟩, hw''⟩ := hw'
      subst hw''
      go_wp2_with fail
      go_roundw
      case rel => exact ⟨i + 1, X ++ (Y ++ c), rfl, by go_num, by omega, hsz, HQ2.out, hB.trans ((below_regrown wr dq osq).mono hB.size)⟩
      case measure => simp [intOf]; omega
    · have HQ : Hid (X.data.toList = pPut6 L) := by
        have h1 := HX.out
        rw [show i = L.length by omega, HT.out.2, H0.out] at h1
        exact h1
      clear HX HT
      go_wp2_with fail
      go_ret
      rw [← HQ.out]
      exact ⟨rfl, hB⟩

end Go.Proofs.Ytfblmibdcodipaa
