/- The contract of field's Copy. -/
import Derived.Test.YtgoffkfpdigeeaaGreatDoorGD
import Derived.Test.YtgoffkfpdigeeaaGreatDoorCA
import Derived.Test.YtgoffkfpdigeeaaGreatDoorGB
namespace Go.Proofs.YtgoffkfpdigeeaaGreatDoor
open Go.RowKit

/-- The facts of field's Copy. -/
def fcF (N : Nd) (a1 a2 a3 : Option Addr) (c1 c2 c3 b : Nat) : Nat → Value → World → Prop
  | 0, v, _ => v = .pointer (some ⟨b, 0, none⟩)
  | 1, v, _ => v = .int .i64 N.kind
  | 2, v, _ => v = .pointer (some ⟨b, 1, none⟩)
  | 3, v, _ => v = .slice a1 N.ints.length c1
  | 4, v, W => W.ownsRow (b + 1 + 1) 2 1 v N.ints.length (iV N.ints)
  | 5, v, _ => v = .pointer (some ⟨b, 2, none⟩)
  | 6, v, _ => v = .slice a2 N.texts.length c2
  | 7, v, W => W.ownsRow (b + 1 + 1) 9 1 v N.texts.length (tV N.texts)
  | 8, v, _ => v = .pointer (some ⟨b, 3, none⟩)
  | 9, v, _ => v = .slice a3 N.kids.length c3
  | 10, v, W => W.ownsRow (b + 1 + 1) 3 1 v N.kids.length (iV N.kids)
  | 11, v, W => ∃ v1 v2 v3, v = .agg #[.int .i64 N.kind, v1, v2, v3] ∧ OwnNd W (b + 1 + 1) N v1 v2 v3
  | 12, _, W => ∃ v1 v2 v3, AtN 51 W (b + 1) #[.int .i64 N.kind, v1, v2, v3] ∧ OwnNd W (b + 1 + 1) N v1 v2 v3
  | _, _, _ => True

theorem fcF_stab (N : Nd) (a1 a2 a3 : Option Addr) (c1 c2 c3 b : Nat) : ∀ i j v w w', i ≠ j → World.grownBy w w' (if i = 12 then some (b + 1) else none) → fcF N a1 a2 a3 c1 c2 c3 b j v w → fcF N a1 a2 a3 c1 c2 c3 b j v w' := by
  intro i j v w w' hne hg h
  have hr : ∀ k, (if i = 12 then some (b + 1) else none) = some k → k < b + 1 + 1 := fun k hk => by
    by_cases h15 : i = 12
    · rw [if_pos h15] at hk; cases hk; omega
    · rw [if_neg h15] at hk; cases hk
  match j, h with
  | 0, h | 1, h | 2, h | 3, h | 5, h | 6, h | 8, h | 9, h => exact h
  | 4, h | 7, h | 10, h => exact own_kept8 h hg hr
  | 11, h =>
    obtain ⟨v1, v2, v3, h1, h2⟩ := h
    exact ⟨v1, v2, v3, h1, h2.kept hg hr⟩
  | 12, h =>
    obtain ⟨v1, v2, v3, h1, h2⟩ := h
    rw [if_neg hne] at hg
    exact ⟨v1, v2, v3, h1.kept hg (by simp), h2.kept hg (by simp)⟩
  | n + 13, _ => trivial

end Go.Proofs.YtgoffkfpdigeeaaGreatDoor
/- A node of the call's own whose kids are being renumbered; the contract of the program's renumbered. -/
namespace Go.Proofs.YtgoffkfpdigeeaaGreatDoor
open Go.RowKit Go.Maps Go.WideMaps Go.Sort

/-- A node with its kids by other numbers. -/
def renNd (f : Int → Int) (N : Nd) : Nd := ⟨N.kind, N.ints, N.texts, N.kids.map f⟩
theorem renNd_big (f : Int → Int) (N : Nd) : big (renNd f N) = big N := by
  unfold big renNd
  simp only [List.length_map]
theorem own_store9 {w : World} {B n : Nat} {e : TypeId} {a : Option Addr} {cap : Nat} {xs : List Value} (h : w.ownsRow B e 1 (.slice a n cap) n xs) (j : Nat) (hj : j < n) : ∃ g, a = some ⟨g, 0, none⟩ ∧ w.cell? ⟨g, j, none⟩ = xs[j]? ∧ w.frozen? ⟨g, j, none⟩ = false ∧ B ≤ g ∧ g < w.heap.size ∧
    ∀ v, (w.setCell ⟨g, j, none⟩ v).ownsRow B e 1 (.slice (some ⟨g, 0, none⟩) n cap) n (xs.set j v) := by
  rcases h.2 with ⟨_, h2⟩ | ⟨g, cap', cur, he, h1, h2, h3⟩
  · omega
  · simp only [Value.slice.injEq] at he
    obtain ⟨rfl, _, rfl⟩ := he
    exact ⟨g, rfl, h.cellAt j (by have := h.1; omega), h.frozenAt j, h1, (h.lt g rfl).2, fun v => (h.stored j v).1⟩
/-- Rows of two types lie apart. -/
theorem own_apart9 {w : World} {B B' n n' s s' : Nat} {e e' : TypeId} {v v' : Value} {xs xs' : List Value} (h : w.ownsRow B e s v n xs) (h' : w.ownsRow B' e' s' v' n' xs') (he : e ≠ e') {g : Nat} (hv : v.ownBlock = some g) : v'.ownBlock ≠ some g := by
  intro hr
  rcases h.2 with ⟨rfl, _⟩ | ⟨g1, _, cur, rfl, _, h2, _⟩
  · cases hv
  · simp only [Value.ownBlock, Option.some.injEq] at hv
    subst hv
    rcases h'.2 with ⟨rfl, _⟩ | ⟨g2, _, cur', rfl, _, h3, _⟩
    · cases hr
    · simp only [Value.ownBlock, Option.some.injEq] at hr
      subst hr
      rw [h3] at h2
      cases h2
      exact he rfl
/-- Kids that are being turned. -/
def tkf (f : Int → Int) (l : List Int) (k : Nat) : List Int := (l.take k).map (f) ++ l.drop k
theorem tkf_zero (f : Int → Int) (l : List Int) : tkf f l 0 = l := by simp [tkf]
theorem tkf_all (f : Int → Int) (l : List Int) : tkf f l l.length = l.map (f) := by simp [tkf]
theorem tkf_at (f : Int → Int) (l : List Int) (k : Nat) (h : k < l.length) : (iV (tkf f l k))[k]? = some (.int .i64 (l.getD k 0)) := by
  have h1 : (tkf f l k)[k]? = some (l.getD k 0) := by
    unfold tkf
    rw [List.getElem?_append_right (by simp; omega)]
    simp [h, Nat.min_eq_left (Nat.le_of_lt h)]
  unfold iV
  rw [List.getElem?_map, h1]
  rfl
theorem tkf_set (f : Int → Int) (l : List Int) (k : Nat) (h : k < l.length) : (iV (tkf f l k)).set k (.int .i64 (f (l.getD k 0))) = iV (tkf f l (k + 1)) := by
  have h1 : (tkf f l k).set k (f (l.getD k 0)) = tkf f l (k + 1) := by
    unfold tkf
    have hm : ((l.take k).map (f)).length = k := by simp; omega
    rw [List.set_append_right _ _ (by omega), hm, Nat.sub_self, List.take_add_one, List.getD_eq_getElem?_getD, List.getElem?_eq_getElem h, show l.drop k = l[k] :: l.drop (k + 1) from List.drop_eq_getElem_cons h, List.map_append, List.append_assoc]
    rfl
  rw [← h1]
  unfold iV
  rw [List.map_set]

/-- A node of the call's own whose kids are being turned. -/
structure Tgf (w : World) (B g : Nat) (N : Nd) (f : Int → Int) (k : Nat) (a1 a2 a3 : Option Addr) (c1 c2 c3 : Nat) : Prop where
  nd : AtN 51 w g #[.int .i64 N.kind, .slice a1 N.ints.length c1, .slice a2 N.texts.length c2, .slice a3 N.kids.length c3]
  i : w.ownsRow B 2 1 (.slice a1 N.ints.length c1) N.ints.length (iV N.ints)
  t : w.ownsRow B 9 1 (.slice a2 N.texts.length c2) N.texts.length (tV N.texts)
  k : w.ownsRow B 3 1 (.slice a3 N.kids.length c3) N.kids.length (iV (tkf f N.kids k))
theorem Tgf.drew {w : World} {B g : Nat} {N : Nd} {f : Int → Int} {k : Nat} {a1 a2 a3 : Option Addr} {c1 c2 c3 : Nat} (h : Tgf w B g N f k a1 a2 a3 c1 c2 c3) : Tgf w.drew B g N f k a1 a2 a3 c1 c2 c3 := ⟨h.nd, h.i, h.t, h.k⟩
theorem Tgf.next {w : World} {B g : Nat} {N : Nd} {f : Int → Int} {k : Nat} {a1 a2 a3 : Option Addr} {c1 c2 c3 : Nat} (h : Tgf w B g N f k a1 a2 a3 c1 c2 c3) (hk : k < N.kids.length) : ∃ q, a3 = some ⟨q, 0, none⟩ ∧ w.cell? ⟨q, k, none⟩ = some (.int .i64 (N.kids.getD k 0)) ∧ w.frozen? ⟨q, k, none⟩ = false ∧ B ≤ q ∧ q < w.heap.size ∧
    Tgf (w.setCell ⟨q, k, none⟩ (.int .i64 (f (N.kids.getD k 0)))) B g N f (k + 1) a1 a2 a3 c1 c2 c3 := by
  obtain ⟨q, rfl, h1, h2, h3, h4, h5⟩ := own_store9 h.k k hk
  have hq : (Value.slice (some ⟨q, 0, none⟩) N.kids.length c3).ownBlock = some q := rfl
  refine ⟨q, rfl, by rw [h1, tkf_at f N.kids k hk], h2, h3, h4, ?_, ?_, ?_, ?_⟩
  · exact h.nd.setOther _ (fun e => own_ne_at h.k h.nd (by decide) q hq e) _
  · exact own_set h.i _ (fun r hr e => own_apart9 h.k h.i (by decide) hq (by rw [hr]; exact congrArg some e)) _
  · exact own_set h.t _ (fun r hr e => own_apart9 h.k h.t (by decide) hq (by rw [hr]; exact congrArg some e)) _
  · have := h5 (.int .i64 (f (N.kids.getD k 0)))
    rwa [tkf_set f N.kids k hk] at this
/-- The node when all its kids are turned. -/
def renNx (f : Int → Int) (N : Nd) (a1 a2 a3 : Option Addr) (c1 c2 c3 : Nat) : Nx := ⟨renNd f N, a1, c1, a2, c2, a3, c3⟩
theorem Tgf.own {w : World} {B g : Nat} {N : Nd} {f : Int → Int} {a1 a2 a3 : Option Addr} {c1 c2 c3 : Nat} (h : Tgf w B g N f N.kids.length a1 a2 a3 c1 c2 c3) : OwnNx w B (renNx f N a1 a2 a3 c1 c2 c3) := by
  refine ⟨h.i, h.t, ?_⟩
  have := h.k
  rw [tkf_all] at this
  simpa [renNx, renNd] using this
theorem renNx_cells (f : Int → Int) (N : Nd) (a1 a2 a3 : Option Addr) (c1 c2 c3 : Nat) : nxC (renNx f N a1 a2 a3 c1 c2 c3) = [.int .i64 N.kind, .slice a1 N.ints.length c1, .slice a2 N.texts.length c2, .slice a3 N.kids.length c3] := by simp [nxC, renNx, renNd]

end Go.Proofs.YtgoffkfpdigeeaaGreatDoor

namespace Go.Proofs.YtgoffkfpdigeeaaGreatDoor
open Go.RowKit Go.Maps Go.WideMaps Go.Sort

/-- What Numbers tells. -/
def NumOut (X : List Nx) (r : Int) (w w' : World) (e : Ending) : Prop := (RightIs X r → ∃ g, e = .returned (.slice (some ⟨g, 0, none⟩) X.length X.length) ∧ AtN 3 w' g (zV X.length (fun i => ((oX X r).idxOf i : Int)))) ∧ (¬ RightIs X r → e = .returned (.slice none 0 0)) ∧ Below w.heap.size w w'

set_option maxRecDepth 10000 in
set_option maxHeartbeats 400000 in
theorem numbers_any (X : List Nx) (a : Option Addr) (c : Nat) (r : Int) (w : World) (h : ScAt w a X) (hX : Small X) :
    Calls Tryz.prog 160 #[.agg #[.slice a X.length c, .int .i64 r]] w fun e w' => NumOut X r w w' e := by
  have HS : Hid (ScAt w a X ∧ Small X) := ⟨h, hX⟩
  have HL : Hid (∀ o : Obj, o = .cells #[.slice a X.length c, .int .i64 r] 24 → AtN 24 (w.alloc o) w.heap.size #[.slice a X.length c, .int .i64 r] ∧ Below w.heap.size w (w.alloc o)) := by
    rintro _ rfl
    exact ⟨AtN.new w 24 _, (Below.refl w.heap.size w).alloc (Nat.le_refl _) _⟩
  clear h hX
  go_enter Tryz.func160, Tryz.ntmps160
  go_wp2_with fail
  obtain ⟨h1, h2⟩ := HL.out _ rfl
  refine (check_any X a c r _ (HS.out.1.belowB h2) HS.out.2).mono ?_
  rintro e w1 ⟨n, z, rfl, hc, hb1⟩
  have HA1 : Hid (AtN 24 w1 w.heap.size #[.slice a X.length c, .int .i64 r]) := h1.belowAll hb1
  have HB1 : Hid (Below w.heap.size w w1) := h2.trans (hb1.mono h2.size)
  have x0 : w1.cell? ⟨w.heap.size, 0, none⟩ = some (.slice a X.length c) := HA1.out.cell 0
  have x1 : w1.cell? ⟨w.heap.size, 1, none⟩ = some (.int .i64 r) := HA1.out.cell 1
  have HC : Hid (CheckIs X r n z) := hc
  clear HL h1 h2 hb1 hc
  by_cases hn : n = 0
  · subst hn
    have hR : RightIs X r := HC.out.right.1 rfl
    have HN : Hid (Calls Tryz.prog 173 #[.agg #[.slice a X.length c, .int .i64 r]] w1 fun e w' => CanonicalOut X r w1 w' e) := canonical_any X a c r w1 (HS.out.1.belowB HB1.out) HS.out.2 hR
    have HR : Hid (RightIs X r) := hR
    clear hR HC
    go_wp2_with fail
    refine Calls.mono HN.out ?_
    rintro e w2 ⟨g, rfl, hg, hgl, hb2⟩
    have HO : Hid (NumOut X r w w2 (.returned (.slice (some ⟨g, 0, none⟩) X.length X.length))) := ⟨fun _ => ⟨g, rfl, hg⟩, fun q => absurd HR.out q, HB1.out.trans (hb2.mono HB1.out.size)⟩
    clear HN hg hgl hb2
    go_wp2_with fail
    go_ret
    exact HO.out
  · have HO : Hid (NumOut X r w w1 (.returned (.slice none 0 0))) := ⟨fun q => absurd (HC.out.right.2 q) hn, fun _ => rfl, HB1.out⟩
    go_wp2_with fail
    go_ret
    exact HO.out

/-- Is a scene canonical? -/
def IsCan (X : List Nx) (r : Int) : Prop := RightIs X r ∧ ∀ i, i < X.length → (oX X r).idxOf i = i
def IsOut (X : List Nx) (r : Int) (w w' : World) (e : Ending) : Prop := ∃ b, e = .returned (.bool b) ∧ (b = true ↔ IsCan X r) ∧ Below w.heap.size w w'

set_option maxRecDepth 10000 in
set_option maxHeartbeats 400000 in
theorem is_any (X : List Nx) (a : Option Addr) (c : Nat) (r : Int) (w : World) (h : ScAt w a X) (hX : Small X) :
    Calls Tryz.prog 134 #[.agg #[.slice a X.length c, .int .i64 r]] w fun e w' => IsOut X r w w' e := by
  have hl := hX.1
  have HS : Hid (ScAt w a X ∧ Small X) := ⟨h, hX⟩
  have HL : Hid (∀ o : Obj, o = .cells #[.slice a X.length c, .int .i64 r] 24 → Below w.heap.size w (w.alloc o)) := by
    rintro _ rfl
    exact (Below.refl w.heap.size w).alloc (Nat.le_refl _) _
  clear h hX
  by_cases hR : RightIs X r
  · have HR : Hid (RightIs X r) := hR
    have hn1 : 1 ≤ X.length := by have := hR.root.2; omega
    clear hR
    go_enter Tryz.func134, Tryz.ntmps134
    go_wp2_with fail
    have h2 := HL.out _ rfl
    refine (numbers_any X a c r _ (HS.out.1.belowB h2) HS.out.2).mono ?_
    rintro e w1 ⟨ho, -, hb1⟩
    obtain ⟨g, rfl, hg⟩ := ho HR.out
    have HG : Hid (AtN 3 w1 g (zV X.length (fun i => ((oX X r).idxOf i : Int)))) := hg
    have HB1 : Hid (Below w.heap.size w w1) := h2.trans (hb1.mono h2.size)
    clear HL h2 hb1 hg ho
    go_wp2_with fail
    go_loopw [10] (fun iv wr => ∃ i : Nat, iv = .int .i64 i ∧ i ≤ X.length ∧ wr = w1 ∧ Hid (∀ k, k < i → (oX X r).idxOf k = k)) (fun iv _ => X.length - (intOf iv).toNat)
    case atStart => exact ⟨0, rfl, by omega, rfl, fun k hk => by omega⟩
    case round =>
      obtain ⟨i, rfl, hi, rfl, HI⟩ := hrel
      by_cases hlt : i < X.length
      · have hlt' : (i : Int) < X.length := by omega
        have d0 : wr.cell? ⟨g, i, none⟩ = some (.int .i64 ((oX X r).idxOf i : Int)) := by rw [HG.out.cell i, zV_at _ _ _ hlt]
        by_cases he : (oX X r).idxOf i = i
        · rw [he] at d0
          have HI2 : Hid (∀ k, k < i + 1 → (oX X r).idxOf k = k) := fun k hk => by
            by_cases e : k = i
            · rw [e]; exact he
            · exact HI.out k (by omega)
          clear he HI
          go_wp2_with fail
          go_roundw
          case rel => exact ⟨i + 1, by go_num, by omega, by trivial, HI2⟩
          case measure => simp [intOf]; omega
        · have HO : Hid (IsOut X r w wr (.returned (.bool false))) := ⟨false, rfl, ⟨fun q => by simp at q, fun q => absurd (q.2 i hlt) he⟩, HB1.out⟩
          have he' : ¬ ((oX X r).idxOf i : Int) = (i : Int) := by omega
          generalize (oX X r).idxOf i = q at *
          clear HI he
          go_wp2_with fail
          go_ret
          exact HO.out
      · have hlt' : ¬ (i : Int) < X.length := by omega
        have HO : Hid (IsOut X r w wr (.returned (.bool (decide (0 < X.length))))) := ⟨true, by rw [decide_eq_true (by omega)], ⟨fun _ => ⟨HR.out, fun k hk => HI.out k (by omega)⟩, fun _ => rfl⟩, HB1.out⟩
        clear HI
        go_wp2_with fail
        go_ret
        exact HO.out
  · have HR : Hid (¬ RightIs X r) := hR
    clear hR
    go_enter Tryz.func134, Tryz.ntmps134
    go_wp2_with fail
    have h2 := HL.out _ rfl
    refine (numbers_any X a c r _ (HS.out.1.belowB h2) HS.out.2).mono ?_
    rintro e w1 ⟨-, ho, hb1⟩
    obtain rfl := ho HR.out
    have HO : Hid (IsOut X r w w1 (.returned (.bool false))) := ⟨false, rfl, ⟨fun q => by simp at q, fun q => absurd q.1 HR.out⟩, h2.trans (hb1.mono h2.size)⟩
    clear HL h2 hb1 ho
    go_wp2_with fail
    go_loopw [10] (fun iv wr => iv = .int .i64 0 ∧ wr = w1) (fun iv _ => 0)
    case atStart => exact ⟨rfl, rfl⟩
    case round =>
      obtain ⟨rfl, rfl⟩ := hrel
      go_wp2_with fail
      go_ret
      exact HO.out

end Go.Proofs.YtgoffkfpdigeeaaGreatDoor
/- The contract of the program's Canon. -/
namespace Go.Proofs.YtgoffkfpdigeeaaGreatDoor
open Go.RowKit Go.Maps Go.WideMaps Go.Sort

/-- A node's place, as a kid's number. -/
def pX (X : List Nx) (r : Int) (z : Int) : Int := ((oX X r).idxOf z.toNat : Int)
/-- The canonical scene's nodes. -/
def cX (X : List Nx) (r : Int) : List Nd := (oX X r).map fun i => renNd (pX X r) (X.getD i noNx).nd

theorem nxV_at' (X : List Nx) (i j : Nat) (h : i < X.length) (hj : j < 4) : (nxV X).toArray[i * 4 + j]? = (nxC (X.getD i noNx))[j]? := by simpa using nxV_at X i j h hj
theorem nxV_set (y : Nx) : ∀ (Z : List Nx) (j : Nat), j < Z.length → ((((nxV Z).set (j * 4) (.int .i64 y.nd.kind)).set (j * 4 + 1) (.slice y.a1 y.nd.ints.length y.c1)).set (j * 4 + 2) (.slice y.a2 y.nd.texts.length y.c2)).set (j * 4 + 3) (.slice y.a3 y.nd.kids.length y.c3) = nxV (Z.set j y)
  | x :: r, 0, _ => by simp [nxV, nxC]
  | x :: r, j + 1, h => by
    have ih := nxV_set y r j (by simpa using h)
    have e : nxV (x :: r) = nxC x ++ nxV r := by simp [nxV]
    have hl : (nxC x).length = 4 := rfl
    rw [e, List.set_append_right _ _ (by omega), List.set_append_right _ _ (by omega), List.set_append_right _ _ (by omega), List.set_append_right _ _ (by omega), hl,
      show (j + 1) * 4 - 4 = j * 4 by omega, show (j + 1) * 4 + 1 - 4 = j * 4 + 1 by omega, show (j + 1) * 4 + 2 - 4 = j * 4 + 2 by omega, show (j + 1) * 4 + 3 - 4 = j * 4 + 3 by omega, ih]
    simp [nxV]
theorem at_setNx {T : TypeId} {W : World} {g : Nat} {Z : List Nx} (h : AtN T W g (nxV Z).toArray) (j : Nat) (hj : j < Z.length) (y : Nx) : AtN T ((((W.setCell ⟨g, j * 4, none⟩ (.int .i64 y.nd.kind)).setCell ⟨g, j * 4 + 1, none⟩ (.slice y.a1 y.nd.ints.length y.c1)).setCell ⟨g, j * 4 + 2, none⟩ (.slice y.a2 y.nd.texts.length y.c2)).setCell ⟨g, j * 4 + 3, none⟩ (.slice y.a3 y.nd.kids.length y.c3)) g (nxV (Z.set j y)).toArray := by
  have := (((h.set (j * 4) (.int .i64 y.nd.kind)).set (j * 4 + 1) (.slice y.a1 y.nd.ints.length y.c1)).set (j * 4 + 2) (.slice y.a2 y.nd.texts.length y.c2)).set (j * 4 + 3) (.slice y.a3 y.nd.kids.length y.c3)
  rw [← nxV_set y Z j hj]
  simpa using this
theorem nxV_none : ∀ n : Nat, nxV (List.replicate n noNx) = (List.replicate n [Value.int .i64 0, .slice none 0 0, .slice none 0 0, .slice none 0 0]).flatten
  | 0 => rfl
  | n + 1 => by
    have := nxV_none n
    simp only [nxV, List.replicate_succ, List.flatMap_cons, List.flatten_cons] at this ⊢
    rw [this]
    rfl
theorem nxV_new (n : Nat) : madeCells (Value.agg #[.int .i64 0, .slice none 0 0, .slice none 0 0, .slice none 0 0]).cells (n * 4) = (nxV (List.replicate n noNx)).toArray := by
  apply Array.ext
  · simp [size_madeCells, nxV_length]
  · intro i h1 h2
    have hi : i < n * 4 := by simpa [size_madeCells] using h1
    have h3 := nxV_at (List.replicate n noNx) (i / 4) (i % 4) (by simp; omega) (by omega)
    rw [show i / 4 * 4 + i % 4 = i by omega] at h3
    have h4 : (List.replicate n noNx).getD (i / 4) noNx = noNx := by simp [show i / 4 < n by omega]
    rw [h4] at h3
    have h5 : (nxV (List.replicate n noNx))[i]? = some (nxV (List.replicate n noNx)).toArray[i] := by
      rw [List.getElem?_eq_getElem (by simpa using h2)]
      simp
    rw [h5] at h3
    rcases (by omega : i % 4 = 0 ∨ i % 4 = 1 ∨ i % 4 = 2 ∨ i % 4 = 3) with q | q | q | q <;> rw [q] at h3 <;> rw [Option.some.inj (h3.trans (show _ = some _ from rfl))] <;> simp [madeCells, Value.cells, q, noNx]

/-- The facts of a round of Canon. -/
def cnF (gn gp n i j : Nat) (p : Int → Int) (N : Nx) (Z : List Nx) (B : Nat) : Nat → Value → World → Prop
  | 0, v, _ => v = .slice (some ⟨gn, 0, none⟩) n n
  | 1, v, _ | 6, v, _ => v = .slice (some ⟨gp, 0, none⟩) n n
  | 2, v, _ => v = .int .i64 (i : Int)
  | 3, v, _ => v = .pointer (some ⟨gp, i, none⟩)
  | 4, v, _ => v = .int .i64 (j : Int)
  | 5, v, _ => v = .agg #[.int .i64 N.nd.kind, .slice N.a1 N.nd.ints.length N.c1, .slice N.a2 N.nd.texts.length N.c2, .slice N.a3 N.nd.kids.length N.c3]
  | 7, v, W => ∃ y : Nx, y.nd = renNd p N.nd ∧ v = .agg (nxC y).toArray ∧ OwnNx W B y
  | 8, v, _ => v = .pointer (some ⟨gn, j * 4, none⟩)
  | 9, _, W => ∃ y : Nx, y.nd = renNd p N.nd ∧ AtN 51 W gn (nxV (Z.set j y)).toArray ∧ OwnNx W B y
  | _, _, _ => True
def cnG (gn j : Nat) (Z : List Nx) (W0 W : World) : Prop := (∃ Z', (Z' = Z ∨ ∃ y, Z' = Z.set j y) ∧ AtN 51 W gn (nxV Z').toArray) ∧ Fr (fun b => b = gn) W0 W
section
variable {gn gp n i j B : Nat} {p : Int → Int} {N : Nx} {Z : List Nx} {W0 W W' : World}
theorem cnG.below (h : cnG gn j Z W0 W) (hb : Below W.heap.size W W') : cnG gn j Z W0 W' := by
  obtain ⟨⟨Z', h1, h2⟩, h3⟩ := h
  exact ⟨⟨Z', h1, h2.belowAll hb⟩, h3.trans (Fr.of_below (S := fun _ => False) hb) (fun _ q _ => q.elim)⟩
theorem cnF_below (hb : Below W.heap.size W W') : ∀ k u, 7 ≠ k → cnF gn gp n i j p N Z B k u W → cnF gn gp n i j p N Z B k u W' := by
  intro k u hk h
  match k, h with
  | 0, h | 1, h | 2, h | 3, h | 4, h | 5, h | 6, h | 8, h => exact h
  | 7, _ => exact absurd rfl hk
  | 9, h =>
    obtain ⟨y, h1, h2, h3⟩ := h
    exact ⟨y, h1, h2.belowAll hb, h3.fr (Fr.of_below (S := fun _ => False) hb) (fun _ q => q.elim)⟩
  | q + 10, _ => trivial
theorem cnF_set (hf : Fr (fun b => b = gn) W W') (ha : Alien W (fun b => b = gn)) : ∀ k u, 9 ≠ k → cnF gn gp n i j p N Z B k u W → cnF gn gp n i j p N Z B k u W' := by
  intro k u hk h
  match k, h with
  | 0, h | 1, h | 2, h | 3, h | 4, h | 5, h | 6, h | 8, h => exact h
  | 7, h =>
    obtain ⟨y, h1, h2, h3⟩ := h
    exact ⟨y, h1, h2, h3.fr hf ha⟩
  | 9, _ => exact absurd rfl hk
  | q + 10, _ => trivial
end

/-- The block of a node's list of kids. -/
def kidB (y : Nx) : Option Nat := (Value.slice y.a3 y.nd.kids.length y.c3).ownBlock
/-- No two nodes share their kids' list. -/
def Aprt (Y : List Nx) : Prop := ∀ i j, i < j → j < Y.length → ∀ g, kidB (Y.getD i noNx) = some g → kidB (Y.getD j noNx) ≠ some g

/-- While the nodes are put to their places. -/
structure CnI (w wr : World) (X : List Nx) (a : Option Addr) (c : Nat) (r : Int) (gn gp i : Nat) (Z : List Nx) : Prop where
  len : Z.length = X.length
  nd : ∀ k, k < i → (Z.getD ((oX X r).idxOf k) noNx).nd = renNd (pX X r) (X.getD k noNx).nd
  own : ∀ k, k < i → OwnNx wr w.heap.size (Z.getD ((oX X r).idxOf k) noNx)
  nodes : AtN 51 wr gn (nxV Z).toArray
  places : AtN 3 wr gp (zV X.length (fun i => ((oX X r).idxOf i : Int)))
  arg : AtN 24 wr w.heap.size #[.slice a X.length c, .int .i64 r]
  res : AtN 24 wr (w.heap.size + 1) #[.slice none 0 0, .int .i64 0]
  bel : Below w.heap.size w wr
  big : w.heap.size + 2 ≤ gn
  ap : ∀ k k', k < i → k' < i → k ≠ k' → ∀ q, kidB (Z.getD ((oX X r).idxOf k) noNx) = some q → kidB (Z.getD ((oX X r).idxOf k') noNx) ≠ some q
/-- A round. -/
theorem CnI.next {w wr W0 W : World} {X : List Nx} {a : Option Addr} {c : Nat} {r : Int} {gn gp i : Nat} {Z : List Nx} {y : Nx} (h : CnI w wr X a c r gn gp i Z) (hR : RightIs X r) (hi : i < X.length) (hb : Below wr.heap.size wr W0) (hf : Fr (fun b => b = gn) W0 W) (hy : y.nd = renNd (pX X r) (X.getD i noNx).nd) (hA : AtN 51 W gn (nxV (Z.set ((oX X r).idxOf i) y)).toArray) (hO : OwnNx W W0.heap.size y) : CnI w W X a c r gn gp (i + 1) (Z.set ((oX X r).idxOf i) y) := by
  have hord := hR.ord
  have hgl := h.nodes.lt
  have hne : gp ≠ gn := fun e => by
    have h1 : wr.heap[gp]? = _ := h.places
    have h2 : wr.heap[gn]? = _ := h.nodes
    rw [e, h2] at h1
    injection h1 with h1
    injection h1 with _ h1
    exact absurd h1 (by decide)
  have hf2 : Fr (fun b => b = gn) wr W := (Fr.of_below (S := fun b => b = gn) hb).trans hf (fun _ e _ => e)
  have hal : Alien wr (fun b => b = gn) := fun b hb _ => by
    subst hb
    exact ⟨_, _, _, h.nodes, by decide, by decide, by decide⟩
  have hget : ∀ k, k < i + 1 → (Z.set ((oX X r).idxOf i) y).getD ((oX X r).idxOf k) noNx = if k = i then y else Z.getD ((oX X r).idxOf k) noNx := fun k hk => by
    have hil := hord.idx (x := i) (by rw [kX_length]; exact hi)
    rw [kX_length] at hil
    by_cases e : k = i
    · subst e
      rw [if_pos rfl, List.getD_eq_getElem?_getD, List.getElem?_set, if_pos rfl, if_pos (by rw [h.len]; exact hil)]
      rfl
    · rw [if_neg e, List.getD_eq_getElem?_getD, List.getElem?_set, if_neg (fun q => e (idx_inj (hord.all k (by rw [kX_length]; omega)) (hord.all i (by rw [kX_length]; omega)) q.symm)), ← List.getD_eq_getElem?_getD]
  refine ⟨by rw [List.length_set]; exact h.len, fun k hk => ?_, fun k hk => ?_, hA, h.places.fr hf2 hne, h.arg.fr hf2 (by have := h.big; omega), h.res.fr hf2 (by have := h.big; omega), Fr.below h.bel hf2 (fun b e => by have := h.big; omega) h.bel.size, h.big, fun k k' hk hk' hne q hq hq' => ?_⟩
  · rw [hget k hk]
    by_cases e : k = i
    · rw [if_pos e, hy, e]
    · rw [if_neg e]; exact h.nd k (by omega)
  · rw [hget k hk]
    by_cases e : k = i
    · rw [if_pos e]
      exact hO.mono (Nat.le_trans h.bel.size hb.size)
    · rw [if_neg e]; exact (h.own k (by omega)).fr hf2 hal
  · rw [hget k hk] at hq
    rw [hget k' hk'] at hq'
    have hold : ∀ m, m < i → kidB (Z.getD ((oX X r).idxOf m) noNx) = some q → q < wr.heap.size := fun m hm e => ((h.own m hm).k.lt q e).2
    have hnew : kidB y = some q → wr.heap.size ≤ q := fun e => Nat.le_trans hb.size (hO.k.lt q e).1
    by_cases e : k = i
    · rw [if_pos e] at hq
      rw [if_neg (by omega)] at hq'
      have := hold k' (by omega) hq'
      have := hnew hq
      omega
    · rw [if_neg e] at hq
      by_cases e' : k' = i
      · rw [if_pos e'] at hq'
        have := hold k (by omega) hq
        have := hnew hq'
        omega
      · rw [if_neg e'] at hq'
        exact h.ap k k' (by omega) (by omega) hne q hq hq'
/-- All are at their places. -/
theorem CnI.fin {w wr : World} {X : List Nx} {a : Option Addr} {c : Nat} {r : Int} {gn gp : Nat} {Z : List Nx} (h : CnI w wr X a c r gn gp X.length Z) (hR : RightIs X r) : Z.map Nx.nd = cX X r ∧ ScAt wr (some ⟨gn, 0, none⟩) Z := by
  have hord := hR.ord
  have hol : (oX X r).length = X.length := by have := hord.len; rwa [kX_length] at this
  have hat : ∀ j, (hj : j < X.length) → ∃ k, k < X.length ∧ (oX X r).idxOf k = j ∧ (oX X r)[j]? = some k := fun j hj => by
    have hj' : j < (oX X r).length := by omega
    refine ⟨(oX X r)[j], ?_, hord.good.nd.idxOf_getElem j hj', List.getElem?_eq_getElem hj'⟩
    have := hord.good.lt _ (List.getElem_mem hj')
    rwa [kX_length] at this
  constructor
  · refine List.ext_getElem? (fun j => ?_)
    by_cases hj : j < X.length
    · obtain ⟨k, hk, h1, h2⟩ := hat j hj
      unfold cX
      rw [List.getElem?_map, List.getElem?_map, h2, List.getElem?_eq_getElem (by rw [h.len]; exact hj)]
      have := h.nd k hk
      rw [h1, List.getD_eq_getElem?_getD, List.getElem?_eq_getElem (by rw [h.len]; exact hj)] at this
      simpa using this
    · rw [List.getElem?_eq_none (by rw [List.length_map, h.len]; omega), List.getElem?_eq_none (by unfold cX; rw [List.length_map]; omega)]
  · refine ⟨h.nodes.lsQ.toAt, fun j hj => ?_⟩
    rw [h.len] at hj
    obtain ⟨k, hk, h1, _⟩ := hat j hj
    have := h.own k hk
    rw [h1] at this
    exact this.ndAt

/-- What Canon tells. -/
def CanonOut (X : List Nx) (r : Int) (w w' : World) (e : Ending) : Prop := (RightIs X r → ∃ Y a' c', e = .returned (.tuple #[.agg #[.slice a' (List.length Y) c', .int .i64 ((X.length : Int) - 1)], .int .i64 0]) ∧ Y.map Nx.nd = cX X r ∧ ScAt w' a' Y) ∧ (¬ RightIs X r → ∃ n z, e = .returned (.tuple #[.agg #[.slice none 0 0, .int .i64 0], .int .i64 n]) ∧ CheckIs X r n z ∧ n ≠ 0) ∧ Below w.heap.size w w'

/-- A scene all of which is new. -/
structure OwnSc (w : World) (B gn : Nat) (Y : List Nx) : Prop where
  nodes : AtN 51 w gn (nxV Y).toArray
  own : ∀ j, j < Y.length → OwnNx w B (Y.getD j noNx)
  ap : Aprt Y
  ge : B ≤ gn
theorem OwnSc.scAt {w : World} {B gn : Nat} {Y : List Nx} (h : OwnSc w B gn Y) : ScAt w (some ⟨gn, 0, none⟩) Y := ⟨h.nodes.lsQ.toAt, fun j hj => (h.own j hj).ndAt⟩
/-- What Canon tells, and that it is new. -/
def CanonOut2 (X : List Nx) (r : Int) (w w' : World) (e : Ending) : Prop := (RightIs X r → ∃ (Y : List Nx) (gn : Nat), e = .returned (.tuple #[.agg #[.slice (some ⟨gn, 0, none⟩) Y.length Y.length, .int .i64 ((X.length : Int) - 1)], .int .i64 0]) ∧ Y.map Nx.nd = cX X r ∧ OwnSc w' w.heap.size gn Y) ∧ (¬ RightIs X r → ∃ n z, e = .returned (.tuple #[.agg #[.slice none 0 0, .int .i64 0], .int .i64 n]) ∧ CheckIs X r n z ∧ n ≠ 0) ∧ Below w.heap.size w w'

/-- Its numbers are numbers of the machine's. -/
structure RgN (N : Nd) : Prop where
  kind : inR N.kind
  ints : ∀ k ∈ N.ints, inR k
  kids : ∀ k ∈ N.kids, inR k

end Go.Proofs.YtgoffkfpdigeeaaGreatDoor
