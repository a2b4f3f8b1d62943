/- A text that says all of a node: no two nodes have one text; the contracts of the program's appendNumber and nodeText. -/
import Derived.Test.YtcdpjaaiojpelaaDoorCSame8
import Derived.Lib.ItoaLen
import Derived.Lib.ItoaMem
import Derived.Test.YtcdpjaaiojpelaaDoorCCn
import Derived.Test.YtcdpjaaiojpelaaDoorAInt
import Derived.Shelf.Strconv.AppendIntPublic10
import Derived.Lib.AppendIntMem
import Derived.Lib.AppendStr
import Derived.Lib.UnsafeStr
import Derived.Lib.Slices
import Derived.Lib.Hide
import Derived.Laws.IdiomStrings
import Derived.OwnWalk
namespace Go.Proofs.YtcdpjaaiojpelaaDoor

theorem dec_ge (u : Nat) : ∀ c ∈ Lib.decDigits u, 48 ≤ c.toNat ∧ c.toNat < 58 := by
  induction u using Nat.strongRecOn with
  | _ u ih =>
    intro c hc
    by_cases h : u < 10
    · rw [Lib.decDigits, dif_pos h] at hc
      simp only [List.mem_singleton] at hc
      subst hc
      simp only [UInt8.toNat_ofNat']
      omega
    · rw [Lib.decDigits, dif_neg h] at hc
      rcases List.mem_append.1 hc with hc | hc
      · exact ih (u / 10) (by omega) c hc
      · simp only [List.mem_singleton] at hc
        subst hc
        simp only [UInt8.toNat_ofNat']
        omega
def decV (l : List UInt8) : Nat := l.foldl (fun a c => a * 10 + (c.toNat - 48)) 0
theorem decV_is (u : Nat) : decV (Lib.decDigits u) = u := by
  induction u using Nat.strongRecOn with
  | _ u ih =>
    by_cases h : u < 10
    · rw [Lib.decDigits, dif_pos h]
      simp only [decV, List.foldl_cons, List.foldl_nil, UInt8.toNat_ofNat']
      omega
    · rw [Lib.decDigits, dif_neg h]
      have := ih (u / 10) (by omega)
      unfold decV at this ⊢
      rw [List.foldl_append, this]
      simp only [List.foldl_cons, List.foldl_nil, UInt8.toNat_ofNat']
      omega
theorem dec_inj {u v : Nat} (h : Lib.decDigits u = Lib.decDigits v) : u = v := by rw [← decV_is u, h, decV_is]
theorem itoa_inj {m n : Int} (h : Lib.itoa m = Lib.itoa n) : m = n := by
  have no : ∀ (u v : Nat), 45 :: Lib.decDigits u = Lib.decDigits v → False := fun u v e => by
    have := (dec_ge v 45 (by rw [← e]; simp)).1
    simp at this
  unfold Lib.itoa at h
  split at h
  · split at h
    · have := dec_inj (List.cons.inj h).2
      omega
    · exact (no _ _ h).elim
  · split at h
    · exact (no _ _ h.symm).elim
    · have := dec_inj h
      omega
theorem itoa_no (n : Int) : (32 : UInt8) ∉ Lib.itoa n := by
  intro h
  have no : ∀ u, (32 : UInt8) ∉ Lib.decDigits u := fun u q => by
    have := (dec_ge u 32 q).1
    simp at this
  unfold Lib.itoa at h
  split at h
  · rcases List.mem_cons.1 h with q | q
    · exact absurd q (by decide)
    · exact no _ q
  · exact no _ h

/-- A number, and the space that ends it. -/
def numT (z : Int) : List UInt8 := Lib.itoa z ++ [32]
theorem cut_at {c : UInt8} : ∀ {l m x y : List UInt8}, c ∉ l → c ∉ m → l ++ c :: x = m ++ c :: y → l = m ∧ x = y
  | [], [], x, y, _, _, h => by simpa using h
  | [], b :: m, x, y, _, hm, h => by
    simp at h
    exact absurd h.1 (fun q => hm (by simp [q]))
  | a :: l, [], x, y, hl, _, h => by
    simp at h
    exact absurd h.1 (fun q => hl (by simp [q]))
  | a :: l, b :: m, x, y, hl, hm, h => by
    simp only [List.cons_append, List.cons.injEq] at h
    obtain ⟨h1, h2⟩ := cut_at (l := l) (m := m) (fun q => hl (by simp [q])) (fun q => hm (by simp [q])) h.2
    exact ⟨by rw [h.1, h1], h2⟩
theorem numT_cut {a b : Int} {x y : List UInt8} (h : numT a ++ x = numT b ++ y) : a = b ∧ x = y := by
  unfold numT at h
  rw [List.append_assoc, List.append_assoc] at h
  obtain ⟨h1, h2⟩ := cut_at (itoa_no a) (itoa_no b) h
  exact ⟨itoa_inj h1, h2⟩
/-- A text, with its length ahead of it. -/
def strT (s : ByteArray) : List UInt8 := numT (s.size : Int) ++ s.data.toList
theorem strT_cut {a b : ByteArray} {x y : List UInt8} (h : strT a ++ x = strT b ++ y) : a = b ∧ x = y := by
  unfold strT at h
  rw [List.append_assoc, List.append_assoc] at h
  obtain ⟨h1, h2⟩ := numT_cut h
  have hl : a.data.toList.length = b.data.toList.length := by
    have e1 : a.data.toList.length = a.size := Array.length_toList
    have e2 : b.data.toList.length = b.size := Array.length_toList
    omega
  obtain ⟨h3, h4⟩ := List.append_inj h2 hl
  refine ⟨?_, h4⟩
  cases a; cases b
  simp at h3
  rw [h3]
theorem flat_cut {α : Type} {f : α → List UInt8} (hf : ∀ {a b : α} {x y : List UInt8}, f a ++ x = f b ++ y → a = b ∧ x = y) : ∀ {l m : List α} {x y : List UInt8}, l.length = m.length → l.flatMap f ++ x = m.flatMap f ++ y → l = m ∧ x = y
  | [], [], x, y, _, h => by simpa using h
  | [], b :: m, x, y, hl, _ => by simp at hl
  | a :: l, [], x, y, hl, _ => by simp at hl
  | a :: l, b :: m, x, y, hl, h => by
    rw [List.flatMap_cons, List.flatMap_cons, List.append_assoc, List.append_assoc] at h
    obtain ⟨h1, h2⟩ := hf h
    obtain ⟨h3, h4⟩ := flat_cut hf (by simpa using hl) h2
    exact ⟨by rw [h1, h3], h4⟩
/-- All of a node. -/
def txtL (N : Nd) : List UInt8 := numT N.kind ++ (numT (N.ints.length : Int) ++ (N.ints.flatMap numT ++ (numT (N.texts.length : Int) ++ (N.texts.flatMap strT ++ (numT (N.kids.length : Int) ++ N.kids.flatMap numT)))))
def txtB (N : Nd) : ByteArray := ⟨(txtL N).toArray⟩
theorem txtL_inj {M N : Nd} (h : txtL M = txtL N) : M = N := by
  unfold txtL at h
  obtain ⟨h1, h⟩ := numT_cut h
  obtain ⟨h2, h⟩ := numT_cut h
  obtain ⟨h3, h⟩ := flat_cut numT_cut (by omega) h
  obtain ⟨h4, h⟩ := numT_cut h
  obtain ⟨h5, h⟩ := flat_cut strT_cut (by omega) h
  obtain ⟨h6, h⟩ := numT_cut h
  obtain ⟨h7, _⟩ := flat_cut numT_cut (l := M.kids) (m := N.kids) (x := []) (y := []) (by omega) (by simpa using h)
  cases M; cases N
  simp_all
theorem txtB_inj {M N : Nd} (h : txtB M = txtB N) : M = N := by
  unfold txtB at h
  refine txtL_inj ?_
  have := congrArg (fun b : ByteArray => b.data.toList) h
  simpa using this
theorem numT_len {z : Int} (h : -9223372036854775808 ≤ z ∧ z ≤ 9223372036854775807) : (numT z).length ≤ 22 := by
  have := Lib.itoa_length_le z h.1 h.2
  simp [numT]
  omega
theorem numT_nat (n : Nat) (h : n < 1000000000000) : (numT (n : Int)).length ≤ 22 := numT_len ⟨by omega, by omega⟩
theorem flat_len {α : Type} (f : α → List UInt8) (m : Nat) : ∀ (l : List α), (∀ a ∈ l, (f a).length ≤ m) → (l.flatMap f).length ≤ l.length * m
  | [], _ => by simp
  | a :: l, h => by
    have h1 := h a (by simp)
    have h2 := flat_len f m l (fun b hb => h b (by simp [hb]))
    rw [List.flatMap_cons, List.length_append, List.length_cons, Nat.add_mul]
    omega
theorem take_flat {α : Type} (f : α → List UInt8) (d : α) (l : List α) (k : Nat) (h : k < l.length) : (l.take (k + 1)).flatMap f = (l.take k).flatMap f ++ f (l.getD k d) := by
  rw [List.take_add_one, List.getElem?_eq_getElem h, List.flatMap_append, List.getD_eq_getElem?_getD, List.getElem?_eq_getElem h]
  simp

end Go.Proofs.YtcdpjaaiojpelaaDoor
namespace Go.Proofs.YtcdpjaaiojpelaaDoor
open Go.RowKit Go.Maps Go.WideMaps Go.Sort

theorem Tryd.infoU : (Tryd.prog.info? 5).map (fun i => (i.zero, i.size, i.bytes)) = some (some (.int .u8 0), 1, 1) := by kernel_rfl
/-- The library's table of powers of ten, by its name in the given rows. -/
def powN : String := Rows.unfoldEqualRow.named.headD ""
def Tab (w : World) : Prop := Lib.TabIs Tryd.prog w powN .u64 Lib.pow10Tab
def TabB (B : Nat) (w : World) : Prop := Lib.TabBelow Tryd.prog B w powN .u64 Lib.pow10Tab
theorem Tab.b {w : World} (h : Tab w) : TabB w.heap.size w := Lib.tabBelow_of_tabIs h
theorem TabB.tab {B : Nat} {w : World} (h : TabB B w) : Tab w := h.here
theorem TabB.on {B : Nat} {w w' : World} (h : TabB B w) (hb : Below B w w') : TabB B w' := Lib.TabBelow.on h hb
theorem Tab.on {w w' : World} (h : Tab w) (hb : Below w.heap.size w w') : Tab w' := (h.b.on hb).tab
theorem TabB.up {B C : Nat} {w : World} (h : TabB B w) (hc : B ≤ C) : TabB C w := fun w' hb => h w' (hb.mono hc)

theorem ai_any (B n : Nat) (i : Int) (h0 : -9223372036854775808 ≤ i) (h1 : i ≤ 9223372036854775807) (sv : Value) (xs : List Value) (w : World) (hown : w.ownsRow B 5 1 sv n xs) (hBw : B ≤ w.heap.size) (hlim : n + 21 ≤ 140737488355328) (htab : TabB B w) :
    Calls Tryd.prog 66 #[sv, .int .i64 i, .int .i64 10] w fun e w' => ∃ v', e = .returned v' ∧ w'.ownsRow B 5 1 v' (n + (Lib.itoa i).length) (xs ++ Lib.byteCells (Lib.itoa i)) ∧ Below B w w' := by
  refine (Any.strconv_AppendInt_10 Tryd.lays176 B n i h0 h1 sv xs w hown hBw hlim htab).mono ?_
  rintro e w' ⟨v', h1, h2, h3, _⟩
  exact ⟨v', h1, h2, h3⟩

/-- Bytes of the call's own. -/
def Tx (B : Nat) (w : World) (v : Value) (l : List UInt8) : Prop := w.ownsRow B 5 1 v l.length (Lib.byteCells l)
theorem Tx.nil (B : Nat) (w : World) : Tx B w (.slice none 0 0) [] := World.ownsRow_nil _ _ _ _
theorem byteCells_app (l m : List UInt8) : Lib.byteCells (l ++ m) = Lib.byteCells l ++ Lib.byteCells m := by simp [Lib.byteCells]

set_option maxRecDepth 100000 in
set_option maxHeartbeats 1000000 in
theorem appnum_any {B : Nat} {w : World} {v : Value} {l : List UInt8} (z : Int) (h : Tx B w v l) (hz : inR z) (hB : B ≤ w.heap.size) (hl : l.length ≤ 1000000) (ht : TabB B w) :
    Calls Tryd.prog 61 #[v, .int .i64 z] w fun e w' => ∃ v', e = .returned v' ∧ Tx B w' v' (l ++ numT z) ∧ Below B w w' := by
  obtain ⟨i0, hi, hz0, hz1, hz2⟩ := info_parts Tryd.infoU
  have la := Lib.itoa_length_le z hz.1 hz.2
  have HC : Hid (Calls Tryd.prog 66 #[v, .int .i64 z, .int .i64 10] w fun e w' => ∃ v', e = .returned v' ∧ w'.ownsRow B 5 1 v' (l.length + (Lib.itoa z).length) (Lib.byteCells l ++ Lib.byteCells (Lib.itoa z)) ∧ Below B w w') := ai_any B l.length z hz.1 hz.2 v _ w h hB (by omega) ht
  clear h ht
  go_enter Tryd.func61, Tryd.ntmps61
  go_wp2_with (go_at_call 66; refine Calls.mono HC.out ?_; rintro e w1 ⟨v1, rfl, hown1, hnx1⟩; refine Hid.out ?_)
  refine Lib.hid ?_
  have hs1 := hnx1.size
  go_wp2_with (at_builtin; refine wpList_append_own _ rfl _ _ 90 rfl B 5 i0 (.int .u8 0) 1 1 Tryd.underlying90 hi hz0 hz1 hz2 rfl (by decide) _ _ _ rfl (hown1.alloc _) ⟨w1.heap.size, 0, none⟩ 1 1 [Value.int .u8 32] rfl rfl (cell_one_new _ _ _) (by intro u' hu'; simp at hu'; subst hu'; rfl) (by unfold maxLen; omega) (by omega) (by simp; omega) ?_)
  intro v2 w2 hown2 hgrow _
  have hnx2 : Below B w w2 := (hnx1.alloc (by omega) _).grown hgrow (by simp; omega) (fun k hk => (hown1.lt k hk).1)
  have HO : Hid (Tx B w2 v2 (l ++ numT z)) := by
    show World.ownsRow _ _ _ _ _ _ _
    have e : (l ++ numT z).length = l.length + (Lib.itoa z).length + 1 := by simp [numT]; omega
    have e2 : Lib.byteCells (l ++ numT z) = Lib.byteCells l ++ (Lib.byteCells (Lib.itoa z) ++ [Value.int .u8 32]) := by simp [Lib.byteCells, numT]
    rw [e, e2]
    exact hown2
  clear hown1 hown2 hgrow hnx1
  go_wp2_with fail
  go_ret
  exact ⟨v2, rfl, HO.out, hnx2⟩

theorem getD_memV {α : Type} {l : List α} {d : α} {j : Nat} (h : j < l.length) : l.getD j d ∈ l := by rw [List.getD_eq_getElem?_getD, List.getElem?_eq_getElem h]; exact List.getElem_mem h

/-- While the text is made. -/
structure TxI (w wr : World) (N : Nd) (a1 a2 a3 : Option Addr) (c1 c2 c3 : Nat) (v : Value) (l : List UInt8) : Prop where
  tx : Tx (w.heap.size + 1) wr v l
  at_ : AtN 42 wr w.heap.size #[.int .i64 N.kind, .slice a1 N.ints.length c1, .slice a2 N.texts.length c2, .slice a3 N.kids.length c3]
  bel : Below w.heap.size w wr
  tab : TabB (w.heap.size + 1) wr
  big : w.heap.size + 1 ≤ wr.heap.size
theorem TxI.on {w wr w' : World} {N : Nd} {a1 a2 a3 : Option Addr} {c1 c2 c3 : Nat} {v v' : Value} {l l' : List UInt8} (h : TxI w wr N a1 a2 a3 c1 c2 c3 v l) (ht : Tx (w.heap.size + 1) w' v' l') (hb : Below (w.heap.size + 1) wr w') : TxI w w' N a1 a2 a3 c1 c2 c3 v' l' := by
  refine ⟨ht, ?_, h.bel.trans (hb.mono (by omega)), h.tab.on hb, Nat.le_trans h.big hb.size⟩
  have := h.at_
  unfold AtN at this ⊢
  rw [hb.block _ (by omega)]
  exact this
def tx1 (N : Nd) : List UInt8 := numT N.kind ++ numT (N.ints.length : Int)
def tx2 (N : Nd) : List UInt8 := tx1 N ++ N.ints.flatMap numT ++ numT (N.texts.length : Int)
def tx3 (N : Nd) : List UInt8 := tx2 N ++ N.texts.flatMap strT ++ numT (N.kids.length : Int)
theorem tx_all (N : Nd) : tx3 N ++ N.kids.flatMap numT = txtL N := by simp [tx3, tx2, tx1, txtL]
theorem strT_len {s : ByteArray} (h : s.size ≤ 500) : (strT s).length ≤ 522 := by
  have := numT_nat s.size (by omega)
  have e2 : s.data.toList.length = s.size := Array.length_toList
  unfold strT
  rw [List.length_append]
  omega
theorem flat_take_len {α : Type} (f : α → List UInt8) (m : Nat) (l : List α) (k : Nat) (h : ∀ a ∈ l, (f a).length ≤ m) : ((l.take k).flatMap f).length ≤ l.length * m := by
  refine Nat.le_trans (flat_len f m (l.take k) (fun a ha => h a (List.mem_of_mem_take ha))) (Nat.mul_le_mul_right m ?_)
  rw [List.length_take]
  omega
theorem tx1_len {N : Nd} (hg : great N = false) (hr : RgN N) : (tx1 N).length ≤ 44 := by
  have := numT_len hr.kind
  have := numT_nat N.ints.length (by have := great_no hg; omega)
  unfold tx1
  rw [List.length_append]
  omega
theorem tx2_len {N : Nd} (hg : great N = false) (hr : RgN N) : (tx2 N).length ≤ 3000 := by
  have h0 := great_no hg
  have h1 := tx1_len hg hr
  have h2 := flat_len numT 22 N.ints (fun a ha => numT_len (hr.ints a ha))
  have := numT_nat N.texts.length (by omega)
  unfold tx2
  rw [List.length_append, List.length_append]
  omega
theorem tx3_len {N : Nd} (hg : great N = false) (hr : RgN N) : (tx3 N).length ≤ 60000 := by
  have h0 := great_no hg
  have h1 := tx2_len hg hr
  have h2 := flat_len strT 522 N.texts (fun a ha => strT_len (h0.2.2.2 a ha))
  have := numT_nat N.kids.length (by omega)
  unfold tx3
  rw [List.length_append, List.length_append]
  omega
theorem txt_size {N : Nd} (hg : great N = false) (hr : RgN N) : (txtB N).size ≤ 100000 := by
  have h0 := great_no hg
  have h1 := tx3_len hg hr
  have h2 := flat_len numT 22 N.kids (fun a ha => numT_len (hr.kids a ha))
  have e := congrArg List.length (tx_all N)
  rw [List.length_append] at e
  have e2 : (txtB N).size = (txtL N).length := by
    show ((txtL N).toArray).size = _
    simp
  omega

set_option maxRecDepth 100000 in
set_option maxHeartbeats 4000000 in
theorem text_any (N : Nd) (a1 a2 a3 : Option Addr) (c1 c2 c3 : Nat) (w : World) (h : NdAt w N a1 a2 a3) (hg : great N = false) (hr : RgN N) (ht : Tab w) :
    Calls Tryd.prog 50 #[.agg #[.int .i64 N.kind, .slice a1 N.ints.length c1, .slice a2 N.texts.length c2, .slice a3 N.kids.length c3]] w fun e w' => e = .returned (.string (txtB N)) ∧ Below w.heap.size w w' := by
  obtain ⟨i0, hi, hz0, hz1, hz2⟩ := info_parts Tryd.infoU
  obtain ⟨l1, l2, l3, l4⟩ := great_no hg
  have b1 := tx1_len hg hr
  have b2 := tx2_len hg hr
  have b3 := tx3_len hg hr
  have HS : Hid (NdAt w N a1 a2 a3 ∧ great N = false ∧ RgN N) := ⟨h, hg, hr⟩
  have HA : Hid (∀ o, o = .cells #[.int .i64 N.kind, .slice a1 N.ints.length c1, .slice a2 N.texts.length c2, .slice a3 N.kids.length c3] 42 → TxI w (w.alloc o) N a1 a2 a3 c1 c2 c3 (.slice none 0 0) []) := by
    rintro _ rfl
    have hb : Below w.heap.size w (w.alloc (.cells #[.int .i64 N.kind, .slice a1 N.ints.length c1, .slice a2 N.texts.length c2, .slice a3 N.kids.length c3] 42)) := (Below.refl w.heap.size w).alloc (Nat.le_refl _) _
    exact ⟨Tx.nil _ _, AtN.new w 42 _, hb, (ht.b.on hb).up (by omega), by simp⟩
  have HN : Hid (∀ wr v l z, TxI w wr N a1 a2 a3 c1 c2 c3 v l → inR z → l.length ≤ 1000000 → Calls Tryd.prog 61 #[v, .int .i64 z] wr fun e w' => ∃ v', e = .returned v' ∧ TxI w w' N a1 a2 a3 c1 c2 c3 v' (l ++ numT z)) := fun wr v l z hI hz hl => by
    refine (appnum_any z hI.tx hz hI.big hl hI.tab).mono ?_
    rintro e w' ⟨v', rfl, q1, q2⟩
    exact ⟨v', rfl, hI.on q1 q2⟩
  clear h hg hr ht
  go_enter Tryd.func50, Tryd.ntmps50
  go_wp2_with fail
  have hI := HA.out _ rfl
  have k0 := hI.at_.cell 0
  refine Calls.mono (HN.out _ _ _ _ hI HS.out.2.2.kind (by simp)) ?_
  rintro e w1 ⟨v1, rfl, h1⟩
  have k1 : w1.cell? ⟨w.heap.size, 1, none⟩ = some (.slice a1 N.ints.length c1) := h1.at_.cell 1
  have H1 : Hid _ := h1
  clear hI k0 h1 HA
  go_wp2_with fail
  refine Calls.mono (HN.out _ _ _ (N.ints.length : Int) H1.out (inR_nat (by omega)) (by have := numT_len HS.out.2.2.kind; simp; omega)) ?_
  rintro e w2 ⟨v2, rfl, h2⟩
  have k1' : w2.cell? ⟨w.heap.size, 1, none⟩ = some (.slice a1 N.ints.length c1) := h2.at_.cell 1
  have H2 : Hid (TxI w w2 N a1 a2 a3 c1 c2 c3 v2 (tx1 N)) := h2
  clear h2 k1 H1
  go_wp2_with fail
  go_loopw [3, 21] (fun sv iv wr => ∃ k : Nat, iv = .int .i64 k ∧ k ≤ N.ints.length ∧ Hid (TxI w wr N a1 a2 a3 c1 c2 c3 sv (tx1 N ++ (N.ints.take k).flatMap numT))) (fun _ iv _ => N.ints.length - (intOf iv).toNat)
  case atStart => exact ⟨0, rfl, by omega, by simpa using H2⟩
  case round =>
    clear H2 k1'
    obtain ⟨k, rfl, hk, HI⟩ := hrel
    by_cases hlt : k < N.ints.length
    · have hlt' : (k : Int) < N.ints.length := by omega
      obtain ⟨b, o, rfl, hbl, d0⟩ := (HS.out.1.belowB HI.out.bel).i.at (iV_at N.ints k hlt)
      have HC : Hid _ := HN.out _ _ _ (N.ints.getD k 0) HI.out (HS.out.2.2.ints _ (getD_memV hlt)) (by have := flat_take_len numT 22 N.ints k (fun a ha => numT_len (HS.out.2.2.ints a ha)); rw [List.length_append]; omega)
      have HE : Hid (tx1 N ++ (N.ints.take k).flatMap numT ++ numT (N.ints.getD k 0) = tx1 N ++ (N.ints.take (k + 1)).flatMap numT) := by
        show _ = _
        rw [take_flat numT 0 N.ints k hlt, List.append_assoc]
      clear HI HN HS
      generalize N.ints.getD k 0 = z at *
      go_wp2_with (go_at_call 61; refine Calls.mono HC.out ?_; rintro e w3 ⟨v3, rfl, h3⟩; refine Hid.out ?_)
      refine Lib.hid ?_
      rw [HE.out] at h3
      have H3 : Hid _ := h3
      clear h3 HC HE d0
      go_wp2_with fail
      go_roundw
      case rel => exact ⟨k + 1, by simp, by omega, H3⟩
      case measure => simp [intOf]; omega
    · have hlt' : ¬ (k : Int) < N.ints.length := by omega
      obtain rfl : k = N.ints.length := by omega
      rw [List.take_length] at HI
      have k2 : wr.cell? ⟨w.heap.size, 2, none⟩ = some (.slice a2 N.texts.length c2) := HI.out.at_.cell 2
      have HC : Hid _ := HN.out _ _ _ (N.texts.length : Int) HI.out (inR_nat (by omega)) (by have := flat_len numT 22 N.ints (fun a ha => numT_len (HS.out.2.2.ints a ha)); rw [List.length_append]; omega)
      clear HI
      go_wp2_with (go_at_call 61; refine Calls.mono HC.out ?_; rintro e w3 ⟨v3, rfl, h3⟩; refine Hid.out ?_)
      refine Lib.hid ?_
      have H3 : Hid (TxI w w3 N a1 a2 a3 c1 c2 c3 v3 (tx2 N)) := h3
      have k2' : w3.cell? ⟨w.heap.size, 2, none⟩ = some (.slice a2 N.texts.length c2) := h3.at_.cell 2
      clear h3 HC k2
      go_wp2_with fail
      go_loopw [3, 37] (fun sv iv wr => ∃ k : Nat, iv = .int .i64 k ∧ k ≤ N.texts.length ∧ Hid (TxI w wr N a1 a2 a3 c1 c2 c3 sv (tx2 N ++ (N.texts.take k).flatMap strT))) (fun _ iv _ => N.texts.length - (intOf iv).toNat)
      case atStart => exact ⟨0, rfl, by omega, by simpa using H3⟩
      case round =>
        clear H3 k2'
        obtain ⟨k, rfl, hk, HI⟩ := hrel
        by_cases hlt : k < N.texts.length
        · have hlt' : (k : Int) < N.texts.length := by omega
          obtain ⟨b, o, rfl, hbl, d0⟩ := (HS.out.1.belowB HI.out.bel).t.at (tV_at N.texts k hlt)
          have hsz := l4 _ (getD_memV (d := noT) hlt)
          have hbd := flat_take_len strT 522 N.texts k (fun a ha => strT_len (l4 a ha))
          have hnn := numT_nat (N.texts.getD k noT).size (by omega)
          have HC : Hid _ := HN.out _ _ _ ((N.texts.getD k noT).size : Int) HI.out (inR_nat (by omega)) (by rw [List.length_append]; omega)
          have HE : Hid (tx2 N ++ (N.texts.take k).flatMap strT ++ numT ((N.texts.getD k noT).size : Int) ++ (N.texts.getD k noT).data.toList = tx2 N ++ (N.texts.take (k + 1)).flatMap strT) := by
            show _ = _
            rw [take_flat strT noT N.texts k hlt]
            simp [strT]
          have hll : (tx2 N ++ (N.texts.take k).flatMap strT ++ numT ((N.texts.getD k noT).size : Int)).length ≤ 100000 := by rw [List.length_append, List.length_append]; omega
          clear HI HN HS hbd hnn
          generalize N.texts.getD k noT = s at *
          go_wp2_with (go_at_call 61; refine Calls.mono HC.out ?_; rintro e w4 ⟨v4, rfl, h4⟩; refine Hid.out ?_)
          refine Lib.hid ?_
          obtain ⟨M, hM⟩ : ∃ M, M = tx2 N ++ (N.texts.take k).flatMap strT ++ numT (s.size : Int) := ⟨_, rfl⟩
          rw [← hM] at hll h4
          have HM : Hid _ := hM
          have H4 : Hid _ := h4
          have htx := h4.tx
          have hbg := h4.big
          unfold Tx at htx
          clear h4 HC d0 hM
          go_wp2_with (at_builtin; refine Lib.wpList_append_own_string _ rfl _ _ 90 9 rfl (w.heap.size + 1) 5 i0 Tryd.underlying90 Tryd.underlying9 hi hz0 hz1 hz2 _ _ _ rfl htx s rfl ?c3 ?c4 ?c5 ?_)
          case c3 => unfold maxLen; omega
          case c4 => omega
          case c5 => omega
          intro v5 w5 hown5 hgrow5 _
          have H5 : Hid (TxI w w5 N a1 (some ⟨b, o, none⟩) a3 c1 c2 c3 v5 (tx2 N ++ (N.texts.take (k + 1)).flatMap strT)) := by
            show TxI w w5 N a1 (some ⟨b, o, none⟩) a3 c1 c2 c3 v5 (tx2 N ++ (N.texts.take (k + 1)).flatMap strT)
            rw [← HE.out, ← HM.out]
            refine H4.out.on ?_ ((Below.refl (w.heap.size + 1) w4).grown hgrow5 hbg (fun q hq => (htx.lt q hq).1))
            show World.ownsRow _ _ _ _ _ _ _
            have e1 : (M ++ s.data.toList).length = M.length + s.size := by
              rw [List.length_append]
              congr 1
            have e2 : Lib.byteCells (M ++ s.data.toList) = Lib.byteCells M ++ Lib.strCells s := by simp [Lib.byteCells, Lib.strCells]
            rw [e1, e2]
            exact hown5
          clear hown5 hgrow5 htx HM H4 HE
          go_wp2_with fail
          go_roundw
          case rel => exact ⟨k + 1, by simp, by omega, H5⟩
          case measure => simp [intOf]; omega
        · have hlt' : ¬ (k : Int) < N.texts.length := by omega
          obtain rfl : k = N.texts.length := by omega
          rw [List.take_length] at HI
          have k3 : wr.cell? ⟨w.heap.size, 3, none⟩ = some (.slice a3 N.kids.length c3) := HI.out.at_.cell 3
          have HC : Hid _ := HN.out _ _ _ (N.kids.length : Int) HI.out (inR_nat (by omega)) (by have := flat_len strT 522 N.texts (fun a ha => strT_len (l4 a ha)); rw [List.length_append]; omega)
          clear HI
          go_wp2_with (go_at_call 61; refine Calls.mono HC.out ?_; rintro e w3 ⟨v3, rfl, h3⟩; refine Hid.out ?_)
          refine Lib.hid ?_
          have H3 : Hid (TxI w w3 N a1 a2 a3 c1 c2 c3 v3 (tx3 N)) := h3
          have k3' : w3.cell? ⟨w.heap.size, 3, none⟩ = some (.slice a3 N.kids.length c3) := h3.at_.cell 3
          clear h3 HC k3
          go_wp2_with fail
          go_loopw [3, 57] (fun sv iv wr => ∃ k : Nat, iv = .int .i64 k ∧ k ≤ N.kids.length ∧ Hid (TxI w wr N a1 a2 a3 c1 c2 c3 sv (tx3 N ++ (N.kids.take k).flatMap numT))) (fun _ iv _ => N.kids.length - (intOf iv).toNat)
          case atStart => exact ⟨0, rfl, by omega, by simpa using H3⟩
          case round =>
            clear H3 k3'
            obtain ⟨k, rfl, hk, HI⟩ := hrel
            by_cases hlt : k < N.kids.length
            · have hlt' : (k : Int) < N.kids.length := by omega
              obtain ⟨b, o, rfl, hbl, d0⟩ := (HS.out.1.belowB HI.out.bel).k.at (iV_at N.kids k hlt)
              have HC : Hid _ := HN.out _ _ _ (N.kids.getD k 0) HI.out (HS.out.2.2.kids _ (getD_memV hlt)) (by have := flat_take_len numT 22 N.kids k (fun a ha => numT_len (HS.out.2.2.kids a ha)); rw [List.length_append]; omega)
              have HE : Hid (tx3 N ++ (N.kids.take k).flatMap numT ++ numT (N.kids.getD k 0) = tx3 N ++ (N.kids.take (k + 1)).flatMap numT) := by
                show _ = _
                rw [take_flat numT 0 N.kids k hlt, List.append_assoc]
              clear HI HN HS
              generalize N.kids.getD k 0 = z at *
              go_wp2_with (go_at_call 61; refine Calls.mono HC.out ?_; rintro e w3 ⟨v3, rfl, h3⟩; refine Hid.out ?_)
              refine Lib.hid ?_
              rw [HE.out] at h3
              have H3 : Hid _ := h3
              clear h3 HC HE d0
              go_wp2_with fail
              go_roundw
              case rel => exact ⟨k + 1, by simp, by omega, H3⟩
              case measure => simp [intOf]; omega
            · have hlt' : ¬ (k : Int) < N.kids.length := by omega
              obtain rfl : k = N.kids.length := by omega
              rw [List.take_length, tx_all] at HI
              have hpos : 0 < (txtL N).length := by
                unfold txtL numT
                simp
                omega
              have hown := HI.out.tx
              have HB : Hid (Below w.heap.size w wr) := HI.out.bel
              unfold Tx at hown
              clear HI HN HS
              obtain ⟨l, hl⟩ : ∃ l, l = txtL N := ⟨_, rfl⟩
              rw [← hl] at hown hpos
              have HL : Hid (l = txtL N) := hl
              clear hl
              rcases hown.2 with ⟨-, h0⟩ | ⟨g, cap, cur, rfl, -, -, -, -, -⟩
              · omega
              · have hcv := run_convert_bytes_back (P := Tryd.prog) wr 90 9 5 ⟨g, 0, none⟩ cap l Tryd.underlying90 Tryd.underlying5 Tryd.underlying9 (fun j hj => hown.cells (g := g) rfl j _ (by simp [Lib.byteCells, hj]))
                go_wp2_with fail
                go_ret
                have hl := HL.out
                subst hl
                exact ⟨rfl, HB.out⟩

end Go.Proofs.YtcdpjaaiojpelaaDoor
