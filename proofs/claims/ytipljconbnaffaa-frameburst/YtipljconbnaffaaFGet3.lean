/- The contract of frame.Get: of any bytes the version and the sections, or the error, that the plain mathematics says. -/
import Derived.Test.YtipljconbnaffaaFGet2
namespace Go.Proofs.Ytipljconbnaffaa
open Go.RowKit

theorem Try.infoS : (Try.prog.info? 41).map (fun i => (i.zero, i.size, i.bytes)) = some (some (.agg #[.int .i64 0, .string ⟨#[]⟩]), 2, 24) := by kernel_rfl

/-- The cells of sections. -/
def sV : List Sec → List Value
  | [] => []
  | s :: r => .int .i64 s.1 :: .string s.2 :: sV r
theorem sV_append (a b : List Sec) : sV (a ++ b) = sV a ++ sV b := by
  induction a with
  | nil => rfl
  | cons s r ih => simp [sV, ih]
theorem sV_at (L : List Sec) : ∀ i (h : i < L.length), (sV L)[i * 2]? = some (.int .i64 (L[i]'h).1) ∧ (sV L)[i * 2 + 1]? = some (.string (L[i]'h).2) := by
  induction L with
  | nil => intro i h; simp at h
  | cons s r ih =>
    intro i h
    cases i with
    | zero => exact ⟨rfl, rfl⟩
    | succ i =>
      have := ih i (by simpa using h)
      rw [show (i + 1) * 2 = i * 2 + 1 + 1 by omega]
      simpa [sV] using this

theorem own_secs {w : World} {B : Nat} {a : Option Addr} {n cap : Nat} {xs : List Sec} (h : w.ownsRow B 41 2 (.slice a n cap) n (sV xs)) (hn : xs.length = n) : ∃ gk, (0 < n → a = some ⟨gk, 0, none⟩) ∧ SecAt w gk 0 xs := by
  rcases h.2 with ⟨hv, h0⟩ | ⟨g, cap', cur, hv, hb, hg, _⟩
  · exact ⟨0, by omega, fun i hi => by omega⟩
  · have ha : a = some ⟨g, 0, none⟩ := by injection hv
    subst ha
    have hlt : g < w.heap.size := (Array.getElem?_eq_some_iff.1 hg).1
    refine ⟨g, fun _ => rfl, fun i hi => ?_⟩
    obtain ⟨s0, s1⟩ := sV_at xs i hi
    have c0 := h.cells (g := g) rfl _ _ s0
    have c1 := h.cells (g := g) rfl _ _ s1
    rw [show (⟨g, 0, none⟩ : Addr).add (i * 2) = ⟨g, 0 + i * 2, none⟩ by unfold Addr.add; split <;> simp_all] at c0
    rw [show (⟨g, 0, none⟩ : Addr).add (i * 2 + 1) = ⟨g, 0 + i * 2 + 1, none⟩ by unfold Addr.add; split <;> simp_all] at c1
    exact ⟨hlt, c0, c1⟩

/-- The answer out of the version and the sections. -/
def fin3 (res : Nat × List Sec) (V : Nat) : Nat × Nat × List Sec := if res.1 ≠ 0 then (res.1, 0, []) else (0, V, res.2)

/-- What Get leaves: the three answers, and the sections in memory. -/
def FGot (w w' : World) (e : Ending) (q : Nat × Nat × List Sec) : Prop :=
  ∃ (a : Option Addr) (cap gk : Nat), e = .returned (.tuple #[.int .i64 (q.2.1 : Nat), .slice a q.2.2.length cap, .int .i64 (q.1 : Nat)]) ∧ (0 < q.2.2.length → a = some ⟨gk, 0, none⟩) ∧ SecAt w' gk 0 q.2.2 ∧ Below w.heap.size w w'

theorem FGot.none {w w' : World} (e : Nat) (hb : Below w.heap.size w w') : FGot w w' (.returned (.tuple #[.int .i64 0, .slice none 0 0, .int .i64 e])) (e, 0, []) :=
  ⟨_, 0, 0, rfl, by simp, fun i hi => by simp at hi, hb⟩
theorem fin3_bad {res : Nat × List Sec} {V : Nat} (h : res.1 ≠ 0) : fin3 res V = (res.1, 0, []) := if_pos h
theorem fin3_ok {res : Nat × List Sec} {V : Nat} (h : res.1 = 0) : fin3 res V = (0, V, res.2) := if_neg (by simpa using h)

def lenV : Value → Nat
  | .slice _ n _ => n
  | _ => 0

set_option maxRecDepth 10000 in
set_option maxHeartbeats 800000 in
theorem fget_go (m b t : ByteArray) (w : World) (V k0 : Nat) (e0 : Int) (res : Nat × List Sec) (hm : m.size = 4) (hb : b.size ≤ 100000) (hp : b.data.toList.take 4 = m.data.toList) (ht : t = b.extract 4 b.size)
    (hv : ver t = ((V : Int), k0, e0)) (hk0 : k0 ≤ t.size) (hres : (e0 = 0 ∧ res = secsL 8 (t.data.toList.drop k0)) ∨ (e0 ≠ 0 ∧ (res.1 : Int) = e0)) :
    Calls Try.prog 13 #[.string m, .string b] w fun e w' => FGot w w' e (fin3 res V) := by
  have hb4 : (4 : Int) ≤ b.size := by
    have h1 := congrArg List.length hp
    rw [List.length_take, list_size, list_size] at h1
    omega
  have hts : t.size ≤ 100000 := by rw [ht, ByteArray.size_extract]; omega
  have hm' : (m.size : Int) = 4 := by omega
  have HX : Hid (∀ W, Calls Try.prog 28 #[.string b, .string m] W fun e w' => e = .returned (.bool true) ∧ w' = W) := fun W => by
    have := hp_any m b W hm (by omega)
    rw [decide_eq_true hp] at this
    exact this
  have HV : Hid (∀ (W : World) (g : Nat), Cu W g t ((0 : Nat) : Int) 0 → Calls Try.prog 30 #[.pointer (some ⟨g, 0, none⟩)] W fun e w' => e = .returned (.int .i64 (V : Int)) ∧ Cu w' g t (k0 : Int) e0 ∧ W.grownBy w' (some g)) := fun W g h => by
    have := getver_any W g t h (by unfold maxLen; omega)
    rw [hv] at this
    exact this
  have HT : Hid (b.extract 4 b.size = t) := ht.symm
  have het : (b.extract 4 b.size) = t := ht.symm
  clear hp hv ht hm
  have HRES : Hid _ := hres
  clear hres
  go_enter Try.func13, Try.ntmps13
  go_wp2_with fail
  refine (HX.out _).mono ?_
  rintro e w1 ⟨rfl, rfl⟩
  go_wp2_with fail
  refine (new_any _ _).mono ?_
  rintro e w2 ⟨rfl, hw2⟩
  have k2 : Cu w2 w1.heap.size t ((0 : Nat) : Int) 0 := by rw [hw2]; exact At3.new _ _ _ _ _
  have c2 : Below w1.heap.size w1 w2 := by rw [hw2]; exact (Below.refl _ _).alloc (Nat.le_refl _) _
  clear hw2
  go_wp2_with fail
  refine (HV.out _ _ k2).mono ?_
  rintro e w3 ⟨rfl, k3, g3⟩
  have c3 := below_but c2 g3 (Nat.le_refl _) c2.size
  clear HX HV HT het k2 c2 g3 hb4 hm'
  obtain ⟨i0, hi, hz0, hz1, hz2⟩ := info_parts Try.infoS
  go_wp2_with fail
  go_loopw [9] (fun lv wr => ∃ (n : Nat) (a : Option Addr) (cap k : Nat) (e : Int) (xs : List Sec), lv = .slice a n cap ∧ Cu wr w1.heap.size t (k : Int) e ∧ Below w1.heap.size w1 wr ∧ k ≤ t.size ∧ n ≤ 8 ∧
    ((e = 0 ∧ wr.ownsRow (w1.heap.size + 1) 41 2 (.slice a n cap) n (sV xs) ∧ Hid (xs.length = n ∧ res = cont xs (secsL (8 - n) (t.data.toList.drop k)))) ∨ (e ≠ 0 ∧ Hid ((res.1 : Int) = e)))) (fun lv _ => 10 - lenV lv)
  case atStart =>
    refine ⟨0, none, 0, k0, e0, [], rfl, k3, c3, hk0, by omega, ?_⟩
    rcases HRES.out with ⟨h1, h2⟩ | ⟨h1, h2⟩
    · exact .inl ⟨h1, World.ownsRow_nil _ _ _ _, rfl, by rw [h2, cont_nil]⟩
    · exact .inr ⟨h1, h2⟩
  case round =>
    obtain ⟨n, a, cap, k, e, xs, rfl, hC, hB, hk, hn, hst⟩ := hrel
    have hG : w1.heap.size < wr.heap.size := hC.lt
    clear k3 c3 HRES hk0
    rcases hst with ⟨rfl, hown, HX⟩ | ⟨he, HR⟩
    · by_cases hend : k = t.size
      · have hz : ¬ (0 : Int) < (t.size : Int) - k := by omega
        have hres : res = (0, xs) := by
          obtain ⟨_, h2⟩ := HX.out
          rw [h2, drop_end t k (by omega), secsL_nil, cont_ok rfl, List.append_nil]
        have hlen := HX.out.1
        have HQ : Hid (fin3 res V = (0, V, xs) ∧ xs.length = n) := ⟨by rw [hres]; rfl, hlen⟩
        clear HX hlen hres hend
        go_wp2_with fail
        refine (err_any _ _ t k 0 hC).mono ?_
        rintro r w4 ⟨rfl, b4⟩
        have C4 : Cu w4 w1.heap.size t (k : Int) 0 := hC.belowAll b4
        have o4 := hown.kept (gbelow (row := Option.none) b4) (by cases h : (Value.slice a n cap).ownBlock <;> simp)
        have B4 := hB.trans (b4.mono hB.size)
        clear hC hown hB b4
        go_wp2_with fail
        refine (left_any w4 _ t k 0 C4 (by unfold maxLen; omega) (by omega) (by omega)).mono ?_
        rintro r w5 ⟨rfl, j, rfl⟩
        go_wp2_with fail
        refine (err_any _ _ t k 0 (At3.drewN C4 j)).mono ?_
        rintro r w6 ⟨rfl, b6⟩
        have o6 := World.ownsRow.kept (w := w4.drewN j) o4 (gbelow (row := Option.none) b6) (by cases h : (Value.slice a n cap).ownBlock <;> simp)
        have B6 := (bdrewN B4 j).trans (b6.mono B4.size)
        go_wp2_with fail
        go_ret3
        obtain ⟨hq, hl⟩ := HQ.out
        rw [hq]
        obtain ⟨gk, h1, h2⟩ := own_secs o6 hl
        exact ⟨a, cap, gk, by rw [← hl]; rfl, by rw [← hl] at h1; exact h1, h2, B6⟩
      · have hz : (0 : Int) < (t.size : Int) - k := by omega
        by_cases h8 : n = 8
        · subst h8
          have hres : res = (8, []) := by
            obtain ⟨_, h2⟩ := HX.out
            rw [h2, secsL_full _ (by rw [drop_at t k (by omega)]; simp), cont_bad (by decide)]
          have HQ : Hid (fin3 res V = (8, 0, [])) := by show _ = _; rw [hres]; rfl
          clear HX hres hend
          go_wp2_with fail
          refine (err_any _ _ t k 0 hC).mono ?_
          rintro r w4 ⟨rfl, b4⟩
          have C4 : Cu w4 w1.heap.size t (k : Int) 0 := hC.belowAll b4
          have B4 := hB.trans (b4.mono hB.size)
          clear hC hown hB b4
          go_wp2_with fail
          refine (left_any w4 _ t k 0 C4 (by unfold maxLen; omega) (by omega) (by omega)).mono ?_
          rintro r w5 ⟨rfl, j, rfl⟩
          go_wp2_with fail
          refine (fail_fl _ _ t k 0 8 (At3.drewN C4 j)).mono ?_
          rintro r w6 ⟨rfl, C6, g6⟩
          rw [fl_ok] at C6
          have B6 := below_but (bdrewN B4 j) g6 (Nat.le_refl _) B4.size
          clear C4 B4 g6
          go_wp2_with fail
          refine (err_any _ _ t k 8 C6).mono ?_
          rintro r w7 ⟨rfl, b7⟩
          have B7 := B6.trans (b7.mono B6.size)
          go_wp2_with fail
          go_ret3
          rw [HQ.out]
          exact FGot.none 8 B7
        · have hP : ∃ (x : Int) (p : ByteArray) (k' : Nat) (e' : Int), pSec t k = ((x, p), k', e') ∧ k' ≤ t.size ∧ ((e' = 0 ∧ Hid (res = cont (xs ++ [(x, p)]) (secsL (8 - (n + 1)) (t.data.toList.drop k')))) ∨ (e' ≠ 0 ∧ Hid ((res.1 : Int) = e'))) := by
            obtain ⟨q1, q2⟩ := psec_is t k (by omega)
            have hne : t.data.toList.drop k ≠ [] := by rw [drop_at t k (by omega)]; simp
            obtain ⟨_, hr⟩ := HX.out
            rw [show 8 - n = (8 - (n + 1)) + 1 by omega] at hr
            by_cases hs : (sec1 (t.data.toList.drop k)).1 = 0
            · obtain ⟨e1, e2⟩ := q1 hs
              rw [secsL_go _ _ hne hs, cont_cont, List.drop_drop] at hr
              exact ⟨_, _, _, _, e1, e2, .inl ⟨rfl, hr⟩⟩
            · obtain ⟨e1, e2⟩ := q2 hs
              rw [secsL_bad _ _ hne hs, cont_bad hs] at hr
              generalize pSec t k = Q at e1 e2 ⊢
              obtain ⟨⟨x, p⟩, k', e'⟩ := Q
              dsimp only at e1 e2
              exact ⟨x, p, k', e', rfl, e2, .inr ⟨by rw [e1]; omega, by show _ = _; rw [hr, e1]⟩⟩
          have hlen := HX.out.1
          obtain ⟨x, p, k', e', hps, hk', hst⟩ := hP
          have HS := fun (W : World) (hW : Cu W w1.heap.size t (k : Int) 0) => getsec_any W w1.heap.size t k hW (by omega) hk
          rw [hps] at HS
          have HS' : Hid _ := HS
          have HL : Hid (xs.length = n) := hlen
          have HST : Hid _ := hst
          clear HX hend hps HS hlen hst
          have hbk : ∀ q, (Value.slice a n cap).ownBlock = some q → w1.heap.size + 1 ≤ q := fun q hq => (hown.lt q hq).1
          have hne : some w1.heap.size ≠ (Value.slice a n cap).ownBlock := fun h => by have := hbk _ h.symm; omega
          have HNE : Hid _ := hne
          have HBK : Hid _ := hbk
          clear hne hbk
          go_wp2_with fail
          refine (err_any _ _ t k 0 hC).mono ?_
          rintro r w4 ⟨rfl, b4⟩
          have C4 : Cu w4 w1.heap.size t (k : Int) 0 := hC.belowAll b4
          have o4 := hown.kept (gbelow (row := Option.none) b4) (by cases h : (Value.slice a n cap).ownBlock <;> simp)
          have B4 := hB.trans (b4.mono hB.size)
          clear hC hown hB b4
          go_wp2_with fail
          refine (left_any w4 _ t k 0 C4 (by unfold maxLen; omega) (by omega) (by omega)).mono ?_
          rintro r w5 ⟨rfl, j, rfl⟩
          go_wp2_with fail
          refine (HS'.out _ (At3.drewN C4 j)).mono ?_
          rintro r w6 ⟨rfl, C6, g6⟩
          have o6 := World.ownsRow.kept (w := w4.drewN j) o4 g6 (.inr (fun h => HNE.out h.symm))
          have B6 := below_but (bdrewN B4 j) g6 (Nat.le_refl _) B4.size
          have hG6 : w1.heap.size < w6.heap.size := C6.lt
          clear C4 o4 B4 g6
          go_wp2_with (at_builtin; refine wpList_append_lies _ rfl (.tmp 38) (.tmp 41) 22 rfl (w1.heap.size + 1) 41 i0 (.agg #[.int .i64 0, .string ⟨#[]⟩]) 2 24 Try.underlying22 hi hz0 hz1 hz2 rfl (by decide) _ n (sV xs) rfl (o6.alloc _) ⟨w6.heap.size, 0, none⟩ 1 1 [.int .i64 x, .string p] rfl rfl (World.news_of_block (heap_alloc_new w6 _)) ?c2 (by decide) ?c3 ?c4 ?c5 _ rfl ?_)
          case c2 => intro u hu; simp at hu; rcases hu with rfl | rfl <;> rfl
          case c3 => unfold maxLen; omega
          case c4 => omega
          case c5 => simp; omega
          intro g2 cap2 w7 hown2 hgrow2 _ _
          have C7 := At3.kept (C6.alloc (.cells #[.int .i64 x, .string p] 41)) hgrow2 HNE.out
          have B7 : Below w1.heap.size w1 w7 := (B6.alloc B6.size _).grown hgrow2 (by simp; omega) (fun q hq => by have := HBK.out q hq; omega)
          go_wp2_with fail
          go_roundw
          case rel =>
            refine ⟨n + 1, _, cap2, k', e', xs ++ [(x, p)], rfl, C7, B7, hk', by omega, ?_⟩
            rcases HST.out with ⟨h1, h2⟩ | ⟨h1, h2⟩
            · exact .inl ⟨h1, by rw [sV_append]; exact hown2, by have := HL.out; simp; omega, h2.out⟩
            · exact .inr ⟨h1, h2⟩
          case measure => simp [lenV]; omega
    · have he' : (e == 0) = false := by simpa using he
      have he'' : (e != 0) = true := by simpa using he
      have HQ : Hid (∃ E : Nat, e = (E : Int) ∧ fin3 res V = (E, 0, [])) := ⟨res.1, HR.out.symm, fin3_bad (by have := HR.out; omega)⟩
      clear HR he
      go_wp2_with fail
      refine (err_any _ _ t k e hC).mono ?_
      rintro r w4 ⟨rfl, b4⟩
      have C4 : Cu w4 w1.heap.size t (k : Int) e := hC.belowAll b4
      have B4 := hB.trans (b4.mono hB.size)
      clear hC hB b4
      go_wp2_with fail
      refine (err_any _ _ t k e C4).mono ?_
      rintro r w5 ⟨rfl, b5⟩
      have B5 := B4.trans (b5.mono B4.size)
      go_wp2_with fail
      go_ret3
      obtain ⟨E, rfl, hq⟩ := HQ.out
      rw [hq]
      exact FGot.none E B5

set_option maxRecDepth 10000 in
set_option maxHeartbeats 400000 in
theorem fget_size (m b : ByteArray) (w : World) (hm : m.size ≠ 4) :
    Calls Try.prog 13 #[.string m, .string b] w fun e w' => FGot w w' e (6, 0, []) := by
  have hm' : ¬ (m.size : Int) = 4 := by omega
  go_enter Try.func13, Try.ntmps13
  go_wp2_with fail
  go_ret3
  exact FGot.none 6 (Below.refl _ _)

set_option maxRecDepth 10000 in
set_option maxHeartbeats 400000 in
theorem fget_magic (m b : ByteArray) (w : World) (hm : m.size = 4) (hb : b.size ≤ 100000) (hp : b.data.toList.take 4 ≠ m.data.toList) :
    Calls Try.prog 13 #[.string m, .string b] w fun e w' => FGot w w' e (6, 0, []) := by
  have hm' : (m.size : Int) = 4 := by omega
  have HX : Hid (∀ W, Calls Try.prog 28 #[.string b, .string m] W fun e w' => e = .returned (.bool false) ∧ w' = W) := fun W => by
    have := hp_any m b W hm (by omega)
    rw [decide_eq_false hp] at this
    exact this
  clear hp hm
  go_enter Try.func13, Try.ntmps13
  go_wp2_with fail
  refine (HX.out _).mono ?_
  rintro e w1 ⟨rfl, rfl⟩
  go_wp2_with fail
  go_ret3
  exact FGot.none 6 (Below.refl _ _)

/-- Get, of any bytes that aren't great. -/
theorem fget_any (m b : ByteArray) (w : World) (hb : b.size ≤ 100000) :
    Calls Try.prog 13 #[.string m, .string b] w fun e w' => FGot w w' e (pGet m.data.toList b.data.toList) := by
  by_cases hm : m.size = 4
  · by_cases hp : b.data.toList.take 4 = m.data.toList
    · have h4 : 4 ≤ b.size := by
        have h1 := congrArg List.length hp
        rw [List.length_take, list_size, list_size] at h1
        omega
      obtain ⟨t, ht⟩ : ∃ t, t = b.extract 4 b.size := ⟨_, rfl⟩
      have hd : t.data.toList = b.data.toList.drop 4 := by
        rw [ht, Lib.extract_data, List.take_of_length_le (by rw [List.length_drop, list_size]; omega)]
      have hG : pGet m.data.toList b.data.toList = match t.data.toList with
          | [] => (2, 0, [])
          | v :: r => if v.toNat = 0 then (7, 0, []) else if (secsL 8 r).1 ≠ 0 then ((secsL 8 r).1, 0, []) else (0, v.toNat, (secsL 8 r).2) := by
        unfold pGet
        rw [if_neg (by simp [hp]; exact hm), hd]
        cases b.data.toList.drop 4 <;> rfl
      by_cases h0 : 0 < t.size
      · have hpb : pByte t 0 0 = ((t[0].toNat : Int), 1, 0) := by unfold pByte; rw [if_neg (by simp), dif_pos h0]
        have hl : t.data.toList = t[0] :: t.data.toList.drop 1 := by rw [← drop_at t 0 h0, List.drop_zero]
        rw [hl] at hG
        dsimp only at hG
        by_cases hz : t[0].toNat = 0
        · have hv : ver t = (((0 : Nat) : Int), 1, 7) := by unfold ver; rw [hpb, if_pos (by dsimp only; omega)]; rfl
          rw [if_pos hz] at hG
          rw [hG]
          exact fget_go m b t w 0 1 7 (7, []) hm hb hp ht hv (by omega) (.inr ⟨by decide, rfl⟩)
        · have hv : ver t = ((t[0].toNat : Int), 1, 0) := by unfold ver; rw [hpb, if_neg (by dsimp only; omega)]
          rw [if_neg hz] at hG
          rw [hG]
          exact fget_go m b t w _ 1 0 (secsL 8 (t.data.toList.drop 1)) hm hb hp ht hv (by omega) (.inl ⟨rfl, rfl⟩)
      · have hpb : pByte t 0 0 = (0, 0, 2) := by unfold pByte; rw [if_neg (by simp), dif_neg h0]
        have hl : t.data.toList = [] := by rw [← List.length_eq_zero_iff, list_size]; omega
        have hv : ver t = (((0 : Nat) : Int), 0, 2) := by unfold ver; rw [hpb, if_pos rfl]; rfl
        rw [hl] at hG
        dsimp only at hG
        rw [hG]
        exact fget_go m b t w 0 0 2 (2, []) hm hb hp ht hv (Nat.zero_le _) (.inr ⟨by decide, rfl⟩)
    · have hG : pGet m.data.toList b.data.toList = (6, 0, []) := by unfold pGet; rw [if_pos (.inr hp)]
      rw [hG]
      exact fget_magic m b w hm hb hp
  · have hG : pGet m.data.toList b.data.toList = (6, 0, []) := by unfold pGet; rw [if_pos (.inl (by rw [list_size]; exact hm))]
    rw [hG]
    exact fget_size m b w hm

end Go.Proofs.Ytipljconbnaffaa
