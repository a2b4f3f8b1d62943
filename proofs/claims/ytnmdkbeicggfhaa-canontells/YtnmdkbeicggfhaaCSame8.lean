/- The contracts of ref's Own and Same, of nodes and of scenes. -/
import Derived.Test.YtnmdkbeicggfhaaCDiff2
import Derived.Laws.StructEq
import Derived.Lib.QuietBelow
namespace Go.Proofs.Ytnmdkbeicggfhaa
open Go.RowKit

theorem list_len {α : Type} (L : List α) : decide ((L.length : Int) = 0) = decide (L.length = 0) := by
  by_cases h : L.length = 0 <;> simp [h]

set_option maxRecDepth 10000 in
set_option maxHeartbeats 400000 in
theorem own_any (A B : Nd) (a1 a2 a3 b1 b2 b3 : Option Addr) (c1 c2 c3 d1 d2 d3 : Nat) (w : World) (hA : NdAt w A a1 a2 a3) (hB : NdAt w B b1 b2 b3) (h1 : A.ints.length ≤ 100) (h2 : A.texts.length ≤ 100) :
    Calls Try.prog 24 #[.agg #[.int .i64 A.kind, .slice a1 A.ints.length c1, .slice a2 A.texts.length c2, .slice a3 A.kids.length c3], .agg #[.int .i64 B.kind, .slice b1 B.ints.length d1, .slice b2 B.texts.length d2, .slice b3 B.kids.length d3]] w fun e w' => e = .returned (.bool (cmp A B && decide ((dL A B).length = 0))) ∧ Below w.heap.size w w' := by
  have H : Hid _ := fun (W : World) (h : Below w.heap.size w W) => rdiff_any A B a1 a2 a3 b1 b2 b3 c1 c2 c3 d1 d2 d3 W (hA.belowB h) (hB.belowB h) h1 h2
  have hb := fun (o p : Obj) => ((Below.refl w.heap.size w).alloc (Nat.le_refl _) o).alloc (by simp) p
  have HB : Hid _ := hb
  clear hA hB hb
  generalize dL A B = L at *
  generalize cmp A B = b at *
  cases b
  · rw [Bool.false_and]
    go_enter Try.func24, Try.ntmps24
    go_wp2_with fail
    refine (H.out _ (HB.out _ _)).mono ?_
    rintro e w1 ⟨a, c, rfl, -, hb1⟩
    have HB1 : Hid _ := (HB.out (.cells #[.int .i64 A.kind, .slice a1 A.ints.length c1, .slice a2 A.texts.length c2, .slice a3 A.kids.length c3] 40) (.cells #[.int .i64 B.kind, .slice b1 B.ints.length d1, .slice b2 B.texts.length d2, .slice b3 B.kids.length d3] 40)).trans (hb1.mono (by simp; omega))
    clear hb1 HB H
    go_wp2_with fail
    go_ret
    exact ⟨rfl, HB1.out⟩
  · rw [Bool.true_and]
    by_cases hl : L.length = 0
    · rw [decide_eq_true hl]
      have hl' : (L.length : Int) = 0 := by omega
      go_enter Try.func24, Try.ntmps24
      go_wp2_with fail
      refine (H.out _ (HB.out _ _)).mono ?_
      rintro e w1 ⟨a, c, rfl, -, hb1⟩
      have HB1 : Hid _ := (HB.out (.cells #[.int .i64 A.kind, .slice a1 A.ints.length c1, .slice a2 A.texts.length c2, .slice a3 A.kids.length c3] 40) (.cells #[.int .i64 B.kind, .slice b1 B.ints.length d1, .slice b2 B.texts.length d2, .slice b3 B.kids.length d3] 40)).trans (hb1.mono (by simp; omega))
      clear hb1 HB H
      go_wp2_with fail
      go_ret
      exact ⟨by simp, HB1.out⟩
    · rw [decide_eq_false hl]
      have hl' : ¬ (L.length : Int) = 0 := by omega
      go_enter Try.func24, Try.ntmps24
      go_wp2_with fail
      refine (H.out _ (HB.out _ _)).mono ?_
      rintro e w1 ⟨a, c, rfl, -, hb1⟩
      have HB1 : Hid _ := (HB.out (.cells #[.int .i64 A.kind, .slice a1 A.ints.length c1, .slice a2 A.texts.length c2, .slice a3 A.kids.length c3] 40) (.cells #[.int .i64 B.kind, .slice b1 B.ints.length d1, .slice b2 B.texts.length d2, .slice b3 B.kids.length d3] 40)).trans (hb1.mono (by simp; omega))
      clear hb1 HB H
      go_wp2_with fail
      go_ret
      exact ⟨by simp_all, HB1.out⟩

theorem dI_same (a : List Int) (k : Nat) : dI a a k = [] := by
  induction k with
  | zero => rfl
  | succ k ih => simp [dI, ih]
theorem dT_same (a : List ByteArray) (k : Nat) : dT a a k = [] := by
  induction k with
  | zero => rfl
  | succ k ih => simp [dT, ih]
theorem own_same (A B : Nd) (h1 : A.kind = B.kind) (h2 : A.ints = B.ints) (h3 : A.texts = B.texts) : (cmp A B && decide ((dL A B).length = 0)) = true := by
  have hc : cmp A B = true := by unfold cmp; rw [decide_eq_true_eq]; exact ⟨h1, by rw [h2], by rw [h3]⟩
  rw [hc, show dL A B = [] by unfold dL; rw [hc]; simp only [if_true, DL, h2, h3, dI_same, dT_same]; rfl]
  rfl

theorem dI_none (a b : List Int) : ∀ n, dI a b n = [] → ∀ k, k < n → a.getD k 0 = b.getD k 0 := by
  intro n
  induction n with
  | zero => intro _ k hk; omega
  | succ n ih =>
    intro h k hk
    simp only [dI, List.append_eq_nil_iff] at h
    by_cases hkn : k = n
    · subst hkn
      by_cases he : a.getD k 0 = b.getD k 0
      · exact he
      · rw [if_neg he] at h; simp at h
    · exact ih h.1 k (by omega)
theorem dT_none (a b : List ByteArray) : ∀ n, dT a b n = [] → ∀ k, k < n → a.getD k noT = b.getD k noT := by
  intro n
  induction n with
  | zero => intro _ k hk; omega
  | succ n ih =>
    intro h k hk
    simp only [dT, List.append_eq_nil_iff] at h
    by_cases hkn : k = n
    · subst hkn
      by_cases he : a.getD k noT = b.getD k noT
      · exact he
      · rw [if_neg he] at h; simp at h
    · exact ih h.1 k (by omega)


theorem list_eq10 {α : Type} (d : α) (a b : List α) (hl : a.length = b.length) (h : ∀ k, k < a.length → a.getD k d = b.getD k d) : a = b := by
  refine List.ext_getElem hl (fun i h1 h2 => ?_)
  have := h i h1
  simpa [h1, h2] using this
/-- Have two nodes the same fields? -/
def ownB (A B : Nd) : Bool := cmp A B && decide ((dL A B).length = 0)
theorem ownB_iff (A B : Nd) : ownB A B = true ↔ A.kind = B.kind ∧ A.ints = B.ints ∧ A.texts = B.texts := by
  constructor
  · intro h
    unfold ownB at h
    rw [Bool.and_eq_true, decide_eq_true_eq] at h
    obtain ⟨h1, h2⟩ := h
    have h3 : A.kind = B.kind ∧ A.ints.length = B.ints.length ∧ A.texts.length = B.texts.length := by
      unfold cmp at h1
      rwa [decide_eq_true_eq] at h1
    have h4 : dL A B = dI A.ints B.ints A.ints.length ++ dT A.texts B.texts A.texts.length := by
      unfold dL
      rw [if_pos h1]
      rfl
    have h5 := List.length_eq_zero_iff.1 h2
    rw [h4, List.append_eq_nil_iff] at h5
    exact ⟨h3.1, list_eq10 0 _ _ h3.2.1 (fun k hk => dI_none _ _ _ h5.1 k hk), list_eq10 noT _ _ h3.2.2 (fun k hk => dT_none _ _ _ h5.2 k hk)⟩
  · rintro ⟨h1, h2, h3⟩
    exact own_same A B h1 h2 h3
/-- Are two nodes the same? -/
def sameB (A B : Nd) : Bool := ownB A B && decide (A.kids = B.kids)
theorem sameB_iff (A B : Nd) : sameB A B = true ↔ A = B := by
  unfold sameB
  rw [Bool.and_eq_true, decide_eq_true_eq, ownB_iff]
  constructor
  · rintro ⟨⟨h1, h2, h3⟩, h4⟩
    cases A; cases B
    simp_all
  · rintro rfl
    exact ⟨⟨rfl, rfl, rfl⟩, rfl⟩

set_option maxRecDepth 10000 in
set_option maxHeartbeats 1000000 in
theorem same8_any (A B : Nd) (a1 a2 a3 b1 b2 b3 : Option Addr) (c1 c2 c3 d1 d2 d3 : Nat) (w : World) (hA : NdAt w A a1 a2 a3) (hB : NdAt w B b1 b2 b3) (h1 : A.ints.length ≤ 100) (h2 : A.texts.length ≤ 100) (h3 : A.kids.length ≤ 300) :
    Calls Try.prog 35 #[.agg #[.int .i64 A.kind, .slice a1 A.ints.length c1, .slice a2 A.texts.length c2, .slice a3 A.kids.length c3], .agg #[.int .i64 B.kind, .slice b1 B.ints.length d1, .slice b2 B.texts.length d2, .slice b3 B.kids.length d3]] w fun e w' => e = .returned (.bool (sameB A B)) ∧ Below w.heap.size w w' := by
  have H : Hid (∀ (W : World) (_ : Below w.heap.size w W), Calls Try.prog 24 #[.agg #[.int .i64 A.kind, .slice a1 A.ints.length c1, .slice a2 A.texts.length c2, .slice a3 A.kids.length c3], .agg #[.int .i64 B.kind, .slice b1 B.ints.length d1, .slice b2 B.texts.length d2, .slice b3 B.kids.length d3]] W fun e w' => e = .returned (.bool (ownB A B)) ∧ Below W.heap.size W w') := fun W h => own_any A B a1 a2 a3 b1 b2 b3 c1 c2 c3 d1 d2 d3 W (hA.belowB h) (hB.belowB h) h1 h2
  have HB : Hid _ := fun (o p : Obj) => ((Below.refl w.heap.size w).alloc (Nat.le_refl _) o).alloc (by simp) p
  have HA1 : Hid _ := hA.k
  have HA2 : Hid _ := hB.k
  clear hA hB
  have HR : Hid (sameB A B = (ownB A B && decide (A.kids = B.kids))) := rfl
  generalize sameB A B = b at *
  generalize ownB A B = b0 at *
  go_enter Try.func35, Try.ntmps35
  go_wp2_with fail
  refine (H.out _ (HB.out _ _)).mono ?_
  rintro e w1 ⟨rfl, hb1⟩
  have n1 := ((AtN.new w 40 #[.int .i64 A.kind, .slice a1 A.ints.length c1, .slice a2 A.texts.length c2, .slice a3 A.kids.length c3]).alloc (.cells #[.int .i64 B.kind, .slice b1 B.ints.length d1, .slice b2 B.texts.length d2, .slice b3 B.kids.length d3] 40)).belowAll hb1
  have n2 := (mk_at (AtN.new (w.alloc (.cells #[.int .i64 A.kind, .slice a1 A.ints.length c1, .slice a2 A.texts.length c2, .slice a3 A.kids.length c3] 40)) 40 #[.int .i64 B.kind, .slice b1 B.ints.length d1, .slice b2 B.texts.length d2, .slice b3 B.kids.length d3]) (show _ = w.heap.size + 1 by simp)).belowAll hb1
  have B1 := (HB.out (.cells #[.int .i64 A.kind, .slice a1 A.ints.length c1, .slice a2 A.texts.length c2, .slice a3 A.kids.length c3] 40) (.cells #[.int .i64 B.kind, .slice b1 B.ints.length d1, .slice b2 B.texts.length d2, .slice b3 B.kids.length d3] 40)).trans (hb1.mono (by simp; omega))
  have x3 : w1.cell? ⟨w.heap.size, 3, none⟩ = some (.slice a3 A.kids.length c3) := n1.cell 3
  have y3 : w1.cell? ⟨w.heap.size + 1, 3, none⟩ = some (.slice b3 B.kids.length d3) := n2.cell 3
  have HN : Hid _ := And.intro n1 (And.intro n2 B1)
  clear n1 n2 B1 hb1 HB H
  cases b0 with
  | false =>
    have hb : b = false := HR.out
    subst hb
    go_wp2_with fail
    go_ret
    exact ⟨rfl, HN.out.2.2⟩
  | true =>
    by_cases hlen : A.kids.length = B.kids.length
    · have hlen' : (A.kids.length : Int) = B.kids.length := by omega
      have Hl : Hid _ := hlen
      rw [← hlen] at y3 HN
      clear hlen hlen'
      go_wp2_with fail
      go_loopw [5] (fun iv wr => ∃ (i : Nat), iv = .int .i64 i ∧ i ≤ A.kids.length ∧ Hid (∀ k, k < i → A.kids.getD k 0 = B.kids.getD k 0) ∧ Below w.heap.size w wr ∧ AtN 40 wr w.heap.size #[.int .i64 A.kind, .slice a1 A.ints.length c1, .slice a2 A.texts.length c2, .slice a3 A.kids.length c3] ∧ AtN 40 wr (w.heap.size + 1) #[.int .i64 B.kind, .slice b1 B.ints.length d1, .slice b2 B.texts.length d2, .slice b3 A.kids.length d3]) (fun iv _ => A.kids.length - (intOf iv).toNat)
      case atStart => exact ⟨0, rfl, by omega, fun k hk => by omega, HN.out.2.2, HN.out.1, HN.out.2.1⟩
      case round =>
        clear HN x3 y3
        obtain ⟨i, rfl, hi, HI, hB, n1, n2⟩ := hrel
        have x3 : wr.cell? ⟨w.heap.size, 3, none⟩ = some (.slice a3 A.kids.length c3) := n1.cell 3
        have y3 : wr.cell? ⟨w.heap.size + 1, 3, none⟩ = some (.slice b3 A.kids.length d3) := n2.cell 3
        by_cases hlt : i < A.kids.length
        · have hlt' : (i : Int) < A.kids.length := by omega
          obtain ⟨ga, oa, rfl, la, da⟩ := (LsAt.belowB HA1.out hB).at (iV_at A.kids i hlt)
          obtain ⟨gb, ob, rfl, lb, db⟩ := (LsAt.belowB HA2.out hB).at (iV_at B.kids i (by rw [← Hl.out]; exact hlt))
          have HN : Hid _ := And.intro n1 (And.intro n2 hB)
          by_cases he : A.kids.getD i 0 = B.kids.getD i 0
          · have HI2 : Hid (∀ k, k < i + 1 → A.kids.getD k 0 = B.kids.getD k 0) := fun k hk => by
              by_cases e : k = i
              · rw [e]; exact he
              · exact HI.out k (by omega)
            rw [← he] at db
            clear he
            generalize A.kids.getD i 0 = z at *
            clear n1 n2 hB HA1 HA2 HI
            go_wp2_with fail
            go_quiet (fail)
            go_wp2_with fail
            go_roundw
            case rel => exact ⟨i + 1, by go_num, by omega, HI2, dn_below HN.out.2.2 _, HN.out.1, HN.out.2.1⟩
            case measure => simp [intOf]; omega
          · have hb : b = false := by
              have h0 : b = (true && decide (A.kids = B.kids)) := HR.out
              rw [h0, Bool.true_and]
              exact decide_eq_false fun q => he (by rw [q])
            subst hb
            generalize A.kids.getD i 0 = z at *
            generalize B.kids.getD i 0 = z' at *
            clear n1 n2 hB HA1 HA2 HI
            go_wp2_with fail
            go_quiet (fail)
            go_wp2_with fail
            go_ret
            exact ⟨rfl, dn_below HN.out.2.2 _⟩
        · have hlt' : ¬ (i : Int) < A.kids.length := by omega
          have hb : b = true := by
            have h0 : b = (true && decide (A.kids = B.kids)) := HR.out
            rw [h0, Bool.true_and]
            exact decide_eq_true (list_eq10 0 _ _ Hl.out (fun k hk => HI.out k (by omega)))
          subst hb
          have HN : Hid _ := hB
          clear hB n1 n2
          go_wp2_with fail
          go_ret
          exact ⟨rfl, HN.out⟩
    · have hlen' : ¬ (A.kids.length : Int) = B.kids.length := by omega
      have hb : b = false := by
        have h0 : b = (true && decide (A.kids = B.kids)) := HR.out
        rw [h0, Bool.true_and]
        exact decide_eq_false fun q => hlen (by rw [q])
      subst hb
      go_wp2_with fail
      go_ret
      exact ⟨rfl, HN.out.2.2⟩

end Go.Proofs.Ytnmdkbeicggfhaa
