/- Trees of scenes; a table of trees, each once; a scene shared, in the canonical order; how many nodes a tree has: plain words. -/
import Derived.Test.YtcdpjaaiojpelaaDoorCRen
namespace Go.Proofs.YtcdpjaaiojpelaaDoor
open Go.RowKit Go.Maps Go.WideMaps Go.Sort

def noNd : Nd := ⟨0, [], [], []⟩
def atN (A : List Nd) (i : Nat) : Nd := A.getD i noNd
def kidN (N : Nd) (k : Nat) : Nat := (N.kids.getD k 0).toNat
theorem atN_get {A : List Nd} {i : Nat} (h : i < A.length) : atN A i = A[i] := by unfold atN; rw [List.getD_eq_getElem?_getD, List.getElem?_eq_getElem h]; rfl
theorem atN_app {A B : List Nd} {i : Nat} (h : i < A.length) : atN (A ++ B) i = atN A i := by unfold atN; rw [List.getD_eq_getElem?_getD, List.getElem?_append_left h, ← List.getD_eq_getElem?_getD]
theorem atN_end (A : List Nd) (n : Nd) : atN (A ++ [n]) A.length = n := by simp [atN]
theorem nodup_at {L : List Nd} (h : L.Nodup) {a b : Nat} (ha : a < L.length) (hb : b < L.length) (e : atN L a = atN L b) : a = b := by
  rw [atN_get ha, atN_get hb] at e
  have hp := List.pairwise_iff_getElem.1 h
  rcases Nat.lt_trichotomy a b with q | q | q
  · exact absurd e (hp a b ha hb q)
  · exact q
  · exact absurd e.symm (hp b a hb ha q)

/-- Pairs of nodes that may have the same tree. -/
def Bis (A B : List Nd) (R : Nat → Nat → Prop) : Prop := ∀ i j, R i j → ownB (atN A i) (atN B j) = true ∧ (atN A i).kids.length = (atN B j).kids.length ∧ ∀ k, k < (atN A i).kids.length → R (kidN (atN A i) k) (kidN (atN B j) k)
/-- They have the same tree. -/
def Alk (A B : List Nd) (i j : Nat) : Prop := ∃ R, Bis A B R ∧ R i j
section
variable {A B C : List Nd} {i j k : Nat}
theorem alk_iff : Alk A B i j ↔ ownB (atN A i) (atN B j) = true ∧ (atN A i).kids.length = (atN B j).kids.length ∧ ∀ k, k < (atN A i).kids.length → Alk A B (kidN (atN A i) k) (kidN (atN B j) k) := by
  constructor
  · rintro ⟨R, hb, h⟩
    obtain ⟨h1, h2, h3⟩ := hb i j h
    exact ⟨h1, h2, fun k hk => ⟨R, hb, h3 k hk⟩⟩
  · rintro ⟨h1, h2, h3⟩
    refine ⟨fun x y => Alk A B x y ∨ (x = i ∧ y = j), ?_, .inr ⟨rfl, rfl⟩⟩
    rintro x y (⟨R, hb, h⟩ | ⟨rfl, rfl⟩)
    · obtain ⟨q1, q2, q3⟩ := hb x y h
      exact ⟨q1, q2, fun k hk => .inl ⟨R, hb, q3 k hk⟩⟩
    · exact ⟨h1, h2, fun k hk => .inl (h3 k hk)⟩
theorem ownB_self (N : Nd) : ownB N N = true := (ownB_iff N N).2 ⟨rfl, rfl, rfl⟩
theorem ownB_symm {M N : Nd} (h : ownB M N = true) : ownB N M = true := by
  obtain ⟨h1, h2, h3⟩ := (ownB_iff M N).1 h
  exact (ownB_iff N M).2 ⟨h1.symm, h2.symm, h3.symm⟩
theorem ownB_trans {M N O : Nd} (h : ownB M N = true) (h' : ownB N O = true) : ownB M O = true := by
  obtain ⟨h1, h2, h3⟩ := (ownB_iff M N).1 h
  obtain ⟨q1, q2, q3⟩ := (ownB_iff N O).1 h'
  exact (ownB_iff M O).2 ⟨h1.trans q1, h2.trans q2, h3.trans q3⟩
theorem Alk.refl (A : List Nd) (i : Nat) : Alk A A i i := ⟨fun x y => x = y, by rintro x y rfl; exact ⟨ownB_self _, rfl, fun _ _ => rfl⟩, rfl⟩
theorem Alk.symm (h : Alk A B i j) : Alk B A j i := by
  obtain ⟨R, hb, h⟩ := h
  refine ⟨fun x y => R y x, fun x y q => ?_, h⟩
  obtain ⟨h1, h2, h3⟩ := hb y x q
  exact ⟨ownB_symm h1, h2.symm, fun k hk => h3 k (by omega)⟩
theorem Alk.trans (h : Alk A B i j) (h' : Alk B C j k) : Alk A C i k := by
  obtain ⟨R, hb, h⟩ := h
  obtain ⟨R', hb', h'⟩ := h'
  refine ⟨fun x y => ∃ z, R x z ∧ R' z y, ?_, j, h, h'⟩
  rintro x y ⟨z, q, q'⟩
  obtain ⟨h1, h2, h3⟩ := hb x z q
  obtain ⟨g1, g2, g3⟩ := hb' z y q'
  exact ⟨ownB_trans h1 g1, h2.trans g2, fun k hk => ⟨_, h3 k hk, g3 k (by omega)⟩⟩
end

/-- Kids stand ahead. -/
def Dn (A : List Nd) : Prop := ∀ i, i < A.length → ∀ z ∈ (atN A i).kids, 0 ≤ z ∧ z < (i : Int)
theorem Dn.kid {A : List Nd} (h : Dn A) {i k : Nat} (hi : i < A.length) (hk : k < (atN A i).kids.length) : kidN (atN A i) k < i ∧ ((kidN (atN A i) k : Nat) : Int) = (atN A i).kids.getD k 0 := by
  have hz : (atN A i).kids.getD k 0 ∈ (atN A i).kids := by rw [List.getD_eq_getElem?_getD, List.getElem?_eq_getElem hk]; exact List.getElem_mem hk
  have := h i hi _ hz
  unfold kidN
  omega

/-- The number of a node in a table. -/
def fdN (L : List Nd) (n : Nd) : Nat := L.findIdx fun x => sameB x n
def addN (L : List Nd) (n : Nd) : List Nd := if fdN L n < L.length then L else L ++ [n]
def rnN (ns : List Nat) (n : Nd) : Nd := renNd (fun z => ((ns.getD z.toNat 0 : Nat) : Int)) n
def addS (p : List Nd × List Nat) (n : Nd) : List Nd × List Nat := (addN p.1 (rnN p.2 n), p.2 ++ [fdN p.1 (rnN p.2 n)])
/-- All nodes of a scene, met in its order, behind a table. -/
def addA (L A : List Nd) : List Nd × List Nat := A.foldl addS (L, [])
theorem addA_take {L A : List Nd} {i : Nat} (h : i < A.length) : addA L (A.take (i + 1)) = addS (addA L (A.take i)) (atN A i) := by
  unfold addA
  rw [List.take_add_one, List.getElem?_eq_getElem h, Option.toList_some, List.foldl_append, atN_get h]
  rfl
theorem fdN_le (L : List Nd) (n : Nd) : fdN L n ≤ L.length := List.findIdx_le_length
theorem fdN_at {L : List Nd} {n : Nd} (h : fdN L n < L.length) : atN L (fdN L n) = n := by
  have := List.findIdx_getElem (p := fun x => sameB x n) (w := h)
  rw [atN_get h]
  exact (sameB_iff _ _).1 this
theorem fdN_mem {L : List Nd} {n : Nd} (h : n ∈ L) : fdN L n < L.length := List.findIdx_lt_length_of_exists ⟨n, h, (sameB_iff _ _).2 rfl⟩
theorem fdN_of {L : List Nd} (hn : L.Nodup) {n : Nd} {k : Nat} (hk : k < L.length) (h : atN L k = n) : fdN L n = k := by
  have hm : n ∈ L := by rw [← h, atN_get hk]; exact List.getElem_mem hk
  exact nodup_at hn (fdN_mem hm) hk ((fdN_at (fdN_mem hm)).trans h.symm)

theorem renNd_congr {f g : Int → Int} {N : Nd} (h : ∀ z ∈ N.kids, f z = g z) : renNd f N = renNd g N := by
  unfold renNd
  rw [List.map_congr_left h]

/-- After some nodes. -/
structure TbI (L0 L : List Nd) (ns : List Nat) (A : List Nd) (i : Nat) : Prop where
  len : ns.length = i
  nd : L.Nodup
  pre : ∃ t, L = L0 ++ t
  lt : ∀ k, k < i → ns.getD k 0 < L.length
  at_ : ∀ k, k < i → atN L (ns.getD k 0) = rnN ns (atN A k)
  dn : Dn L
  few : L.length ≤ L0.length + i
  onto : ∀ m, L0.length ≤ m → m < L.length → ∃ k, k < i ∧ ns.getD k 0 = m
theorem getD_snoc1 {ns : List Nat} {x k : Nat} (h : k < ns.length) : (ns ++ [x]).getD k 0 = ns.getD k 0 := by rw [List.getD_eq_getElem?_getD, List.getElem?_append_left h, ← List.getD_eq_getElem?_getD]
theorem getD_snoc2 (ns : List Nat) (x : Nat) : (ns ++ [x]).getD ns.length 0 = x := by simp
theorem rnN_snoc {A : List Nd} (hA : Dn A) {k : Nat} (hk : k < A.length) {ns : List Nat} (h : k ≤ ns.length) (x : Nat) : rnN (ns ++ [x]) (atN A k) = rnN ns (atN A k) := by
  refine renNd_congr fun z hz => ?_
  have := hA k hk z hz
  rw [getD_snoc1 (by omega)]
theorem TbI.step {L0 L A : List Nd} {ns : List Nat} {i : Nat} (h : TbI L0 L ns A i) (hA : Dn A) (hi : i < A.length) : TbI L0 (addN L (rnN ns (atN A i))) (ns ++ [fdN L (rnN ns (atN A i))]) A (i + 1) := by
  have hl := h.len
  have hle := fdN_le L (rnN ns (atN A i))
  have hat : atN (addN L (rnN ns (atN A i))) (fdN L (rnN ns (atN A i))) = rnN ns (atN A i) ∧ fdN L (rnN ns (atN A i)) < (addN L (rnN ns (atN A i))).length := by
    unfold addN
    split
    · rename_i q; exact ⟨fdN_at q, q⟩
    · rename_i q
      rw [show fdN L (rnN ns (atN A i)) = L.length by omega]
      exact ⟨atN_end _ _, by simp⟩
  have hold : ∀ m, m < L.length → atN (addN L (rnN ns (atN A i))) m = atN L m ∧ m < (addN L (rnN ns (atN A i))).length := fun m hm => by
    unfold addN
    split
    · exact ⟨rfl, hm⟩
    · exact ⟨atN_app hm, by simp; omega⟩
  refine ⟨by simp [hl], ?_, ?_, fun k hk => ?_, fun k hk => ?_, ?_, ?_, fun m h1 h2 => ?_⟩
  · unfold addN
    split
    · exact h.nd
    · rename_i q
      rw [List.nodup_append]
      refine ⟨h.nd, by simp, fun a ha b hb e => ?_⟩
      simp only [List.mem_singleton] at hb
      subst e hb
      exact q (fdN_mem ha)
  · obtain ⟨t, ht⟩ := h.pre
    unfold addN
    split
    · exact ⟨t, ht⟩
    · exact ⟨t ++ [rnN ns (atN A i)], by rw [ht]; simp⟩
  · by_cases e : k = i
    · subst e
      rw [← hl, getD_snoc2, hl]
      exact hat.2
    · rw [getD_snoc1 (by omega)]
      exact (hold _ (h.lt k (by omega))).2
  · rw [rnN_snoc hA (by omega) (by omega)]
    by_cases e : k = i
    · subst e
      have : (ns ++ [fdN L (rnN ns (atN A k))]).getD k 0 = fdN L (rnN ns (atN A k)) := by
        have := getD_snoc2 ns (fdN L (rnN ns (atN A k)))
        rwa [hl] at this
      rw [this]
      exact hat.1
    · rw [getD_snoc1 (by omega), (hold _ (h.lt k (by omega))).1]
      exact h.at_ k (by omega)
  · unfold addN
    split
    · exact h.dn
    · intro j hj z hz
      by_cases e : j < L.length
      · rw [atN_app e] at hz
        exact h.dn j e z hz
      · have hj' : j = L.length := by simp at hj; omega
        subst hj'
        rw [atN_end] at hz
        simp only [rnN, renNd] at hz
        obtain ⟨y, hy, rfl⟩ := List.mem_map.1 hz
        have := hA i hi y hy
        have := h.lt y.toNat (by omega)
        omega
  · have := h.few
    unfold addN
    split
    · omega
    · simp; omega
  · by_cases q : m < L.length
    · obtain ⟨k, hk, e⟩ := h.onto m h1 q
      exact ⟨k, by omega, by rw [getD_snoc1 (by omega)]; exact e⟩
    · refine ⟨i, by omega, ?_⟩
      have := getD_snoc2 ns (fdN L (rnN ns (atN A i)))
      rw [hl] at this
      rw [this]
      unfold addN at h2
      split at h2
      · omega
      · simp at h2; omega
theorem TbI.start {L A : List Nd} (hn : L.Nodup) (hd : Dn L) : TbI L L [] A 0 := ⟨rfl, hn, ⟨[], by simp⟩, fun k hk => by omega, fun k hk => by omega, hd, by omega, fun m h1 h2 => by omega⟩
theorem addA_is {L A : List Nd} (hn : L.Nodup) (hd : Dn L) (hA : Dn A) : ∀ i, i ≤ A.length → TbI L (addA L (A.take i)).1 (addA L (A.take i)).2 A i
  | 0, _ => by simpa [addA] using TbI.start hn hd
  | i + 1, hi => by
    rw [addA_take hi]
    exact (addA_is hn hd hA i (by omega)).step hA hi
theorem addA_all {L A : List Nd} (hn : L.Nodup) (hd : Dn L) (hA : Dn A) : TbI L (addA L A).1 (addA L A).2 A A.length := by
  have := addA_is hn hd hA A.length (Nat.le_refl _)
  rwa [List.take_length] at this

/-- All nodes have their numbers. -/
structure Num (L A : List Nd) (ns : List Nat) : Prop where
  nd : L.Nodup
  dn : Dn A
  lt : ∀ k, k < A.length → ns.getD k 0 < L.length
  at_ : ∀ k, k < A.length → atN L (ns.getD k 0) = rnN ns (atN A k)
theorem TbI.num {L0 L A : List Nd} {ns : List Nat} (h : TbI L0 L ns A A.length) (hA : Dn A) : Num L A ns := ⟨h.nd, hA, h.lt, h.at_⟩
theorem Num.more {L A t : List Nd} {ns : List Nat} (h : Num L A ns) (hn : (L ++ t).Nodup) : Num (L ++ t) A ns := by
  refine ⟨hn, h.dn, fun k hk => ?_, fun k hk => ?_⟩
  · have := h.lt k hk; rw [List.length_append]; omega
  · rw [atN_app (h.lt k hk)]; exact h.at_ k hk
theorem nd_eq {M N : Nd} (h : ownB M N = true) (hk : M.kids = N.kids) : M = N := (sameB_iff M N).1 (by simp [sameB, h, hk])
theorem num_alk {L A B : List Nd} {f g : List Nat} (h : Num L A f) (h' : Num L B g) : ∀ (n i j : Nat), i ≤ n → i < A.length → j < B.length → (f.getD i 0 = g.getD j 0 ↔ Alk A B i j) := by
  intro n
  induction n with
  | zero =>
    intro i j hi ha hb
    have hz : i = 0 := by omega
    subst hz
    have hno : (atN A 0).kids.length = 0 := by
      refine Nat.eq_zero_of_not_pos fun q => ?_
      have := (h.dn.kid ha q).1
      omega
    have e1 := h.at_ 0 ha
    have e2 := h'.at_ j hb
    constructor
    · intro e
      rw [e, e2] at e1
      refine alk_iff.2 ⟨?_, ?_, fun k hk => by omega⟩
      · refine (ownB_iff _ _).2 ?_
        have h1 := congrArg Nd.kind e1
        have h2 := congrArg Nd.ints e1
        have h3 := congrArg Nd.texts e1
        simp only [rnN, renNd] at h1 h2 h3
        exact ⟨h1.symm, h2.symm, h3.symm⟩
      · have h4 := congrArg (fun N : Nd => N.kids.length) e1
        simp only [rnN, renNd, List.length_map] at h4
        exact h4.symm
    · intro q
      obtain ⟨q1, q2, _⟩ := alk_iff.1 q
      refine nodup_at h.nd (h.lt 0 ha) (h'.lt j hb) ?_
      rw [e1, e2]
      refine nd_eq ?_ ?_
      · obtain ⟨p1, p2, p3⟩ := (ownB_iff _ _).1 q1
        exact (ownB_iff _ _).2 ⟨p1, p2, p3⟩
      · have l1 : (atN A 0).kids = [] := List.eq_nil_of_length_eq_zero hno
        have l2 : (atN B j).kids = [] := List.eq_nil_of_length_eq_zero (by omega)
        simp [rnN, renNd, l1, l2]
  | succ n ih =>
    intro i j hi ha hb
    have e1 := h.at_ i ha
    have e2 := h'.at_ j hb
    have hget : ∀ (l : List Int) (fs : List Nat) (k : Nat), k < l.length → (l.map fun z => ((fs.getD z.toNat 0 : Nat) : Int)).getD k 0 = ((fs.getD (l.getD k 0).toNat 0 : Nat) : Int) := fun l fs k hk => by simp [hk]
    constructor
    · intro e
      rw [e, e2] at e1
      have h4 := congrArg Nd.kids e1
      simp only [rnN, renNd] at h4
      have hlen : (atN A i).kids.length = (atN B j).kids.length := by
        have := congrArg List.length h4
        simpa using this.symm
      refine alk_iff.2 ⟨?_, hlen, fun k hk => ?_⟩
      · refine (ownB_iff _ _).2 ?_
        have h1 := congrArg Nd.kind e1
        have h2 := congrArg Nd.ints e1
        have h3 := congrArg Nd.texts e1
        simp only [rnN, renNd] at h1 h2 h3
        exact ⟨h1.symm, h2.symm, h3.symm⟩
      · have ka := (h.dn.kid ha hk).1
        have kb := (h'.dn.kid hb (k := k) (by omega)).1
        refine (ih _ _ (by omega) (by omega) (by omega)).1 ?_
        have h5 := congrArg (fun l : List Int => l.getD k 0) h4
        rw [hget _ _ _ hk, hget _ _ _ (by omega)] at h5
        unfold kidN
        omega
    · intro q
      obtain ⟨q1, q2, q3⟩ := alk_iff.1 q
      refine nodup_at h.nd (h.lt i ha) (h'.lt j hb) ?_
      rw [e1, e2]
      refine nd_eq ?_ ?_
      · obtain ⟨p1, p2, p3⟩ := (ownB_iff _ _).1 q1
        exact (ownB_iff _ _).2 ⟨p1, p2, p3⟩
      · simp only [rnN, renNd]
        refine list_eq10 0 _ _ (by simp [q2]) (fun k hk => ?_)
        have hk' : k < (atN A i).kids.length := by simpa using hk
        rw [hget _ _ _ hk', hget _ _ _ (by omega)]
        have ka := (h.dn.kid ha hk').1
        have kb := (h'.dn.kid hb (k := k) (by omega)).1
        have := (ih _ _ (by omega) (by omega) (by omega)).2 (q3 k hk')
        unfold kidN at this
        omega
/-- Two nodes of one scene, or of two, that were put into one table. -/
theorem Num.iff {L A B : List Nd} {f g : List Nat} (h : Num L A f) (h' : Num L B g) {i j : Nat} (hi : i < A.length) (hj : j < B.length) : f.getD i 0 = g.getD j 0 ↔ Alk A B i j := num_alk h h' i i j (Nat.le_refl _) hi hj
/-- A node, and its number. -/
theorem Num.alk {L A : List Nd} {ns : List Nat} (h : Num L A ns) {i : Nat} (hi : i < A.length) : Alk A L i (ns.getD i 0) := by
  refine ⟨fun x y => x < A.length ∧ y = ns.getD x 0, ?_, hi, rfl⟩
  rintro x y ⟨hx, rfl⟩
  rw [h.at_ x hx]
  refine ⟨(ownB_iff _ _).2 ⟨rfl, rfl, rfl⟩, by simp [rnN, renNd], fun k hk => ⟨?_, ?_⟩⟩
  · have := (h.dn.kid hx hk).1; omega
  · unfold kidN
    simp [rnN, renNd, hk]
/-- A table's own nodes have their places for numbers. -/
theorem num_self {L : List Nd} (hn : L.Nodup) (hd : Dn L) : Num L L (List.range L.length) := by
  refine ⟨hn, hd, fun k hk => by simp [hk], fun k hk => ?_⟩
  have e : (List.range L.length).getD k 0 = k := by simp [hk]
  rw [e]
  unfold rnN
  refine nd_eq ((ownB_iff _ _).2 ⟨rfl, rfl, rfl⟩) ?_
  simp only [renNd]
  have : ∀ l : List Int, (∀ z ∈ l, 0 ≤ z ∧ z < (k : Int)) → l = l.map fun z => (((List.range L.length).getD z.toNat 0 : Nat) : Int) := fun l => by
    induction l with
    | nil => exact fun _ => rfl
    | cons z t ih =>
      intro hl
      rw [List.map_cons, ← ih (fun y hy => hl y (by simp [hy]))]
      have := hl z (by simp)
      have h3 : (List.range L.length).getD z.toNat 0 = z.toNat := by simp [show z.toNat < L.length by omega]
      rw [h3]
      congr 1
      omega
  exact this _ (hd k hk)
theorem alk_self {L : List Nd} (hn : L.Nodup) (hd : Dn L) {i j : Nat} (hi : i < L.length) (hj : j < L.length) (h : Alk L L i j) : i = j := by
  have := ((num_self hn hd).iff (num_self hn hd) hi hj).2 h
  simpa [hi, hj] using this

end Go.Proofs.YtcdpjaaiojpelaaDoor
namespace Go.Proofs.YtcdpjaaiojpelaaDoor
open Go.RowKit Go.Maps Go.WideMaps Go.Sort

/-- Each once, as it is first met. -/
def ddp (M : List Nat) (l : List Nat) : List Nat := l.foldl (fun M x => if x ∈ M then M else M ++ [x]) M
theorem ddp_snoc (M l : List Nat) (x : Nat) : ddp M (l ++ [x]) = if x ∈ ddp M l then ddp M l else ddp M l ++ [x] := by
  unfold ddp
  rw [List.foldl_append]
  rfl
theorem ddp_mem : ∀ (l M : List Nat) (x : Nat), x ∈ ddp M l ↔ x ∈ M ∨ x ∈ l
  | [], M, x => by simp [ddp]
  | y :: l, M, x => by
    have := ddp_mem l (if y ∈ M then M else M ++ [y]) x
    rw [show ddp M (y :: l) = ddp (if y ∈ M then M else M ++ [y]) l from rfl, this]
    split
    · rename_i q
      simp only [List.mem_cons]
      constructor
      · rintro (h | h)
        · exact .inl h
        · exact .inr (.inr h)
      · rintro (h | rfl | h)
        · exact .inl h
        · exact .inl q
        · exact .inr h
    · simp only [List.mem_append, List.mem_cons, List.not_mem_nil, or_false]
      constructor
      · rintro ((h | h) | h)
        · exact .inl h
        · exact .inr (.inl h)
        · exact .inr (.inr h)
      · rintro (h | h | h)
        · exact .inl (.inl h)
        · exact .inl (.inr h)
        · exact .inr h

section
variable {K K' : List (List Nat)} {rk rk' : Nat → Nat} {f : Nat → Nat}
theorem fold_good (hD : Dag K) (hR : Rank K rk) : ∀ (l M : List Nat), (∀ k ∈ l, k < K.length) → Good K M → MetO K M (fun x => x ∈ l) (l.foldl (meetO K) M)
  | [], M, _, hM => ⟨hM, ⟨[], by simp⟩, fun x hx => .inl hx, fun x hx => by simp at hx⟩
  | k :: t, M, hl, hM => by
    have h1 := meetO_good hD hR (rk k) k M (Nat.le_refl _) (hl k (by simp)) hM
    have h2 := fold_good hD hR t (meetO K M k) (fun q hq => hl q (by simp [hq])) h1.good
    obtain ⟨t1, e1⟩ := h1.pre
    obtain ⟨t2, e2⟩ := h2.pre
    refine ⟨h2.good, ⟨t1 ++ t2, by rw [List.foldl_cons, e2, e1]; simp⟩, fun x hx => ?_, fun x hx => ?_⟩
    · rcases h2.new x hx with q | ⟨b, hb, q⟩
      · rcases h1.new x q with q' | ⟨b, hb, q'⟩
        · exact .inl q'
        · exact .inr ⟨b, by simp [hb], q'⟩
      · exact .inr ⟨b, by simp [hb], q⟩
    · rcases List.mem_cons.1 hx with rfl | hx
      · rw [List.foldl_cons, e2]
        exact List.mem_append_left _ (h1.has x rfl)
      · exact h2.has x hx
/-- An order that a map of places keeps. -/
theorem hom_meet (hD : Dag K) (hD' : Dag K') (hR : Rank K rk) (hR' : Rank K' rk') (hf : ∀ i, i < K.length → f i < K'.length ∧ K'.getD (f i) [] = (K.getD i []).map f) :
    ∀ (m a : Nat) (M : List Nat), rk a ≤ m → a < K.length → Good K M → Good K' (ddp [] (M.map f)) → ddp [] ((meetO K M a).map f) = meetO K' (ddp [] (M.map f)) (f a)
  | 0, a, M, hm, ha, _, _ => by have := (hR.2 a ha).1; omega
  | m + 1, a, M, hm, ha, hM, hM' => by
    have hfa := hf a ha
    rw [meetO_is hD M a ha, meetO_is hD' _ (f a) hfa.1]
    by_cases hin : a ∈ M
    · rw [if_pos hin, if_pos ((ddp_mem _ _ _).2 (.inr (List.mem_map_of_mem hin)))]
    · rw [if_neg hin]
      have key : ∀ (l M : List Nat), (∀ k ∈ l, Ed K a k) → Good K M → Good K' (ddp [] (M.map f)) → ddp [] ((l.foldl (meetO K) M).map f) = (l.map f).foldl (meetO K') (ddp [] (M.map f)) := by
        intro l
        induction l with
        | nil => intro M _ _ _; rfl
        | cons k t ih =>
          intro M hl h1 h2
          have e := hl k (by simp)
          have hk := hD.1 a k e
          have q := hom_meet hD hD' hR hR' hf m k M (by have := hR.1 a k e; omega) hk h1 h2
          have g1 := (meetO_good hD hR (rk k) k M (Nat.le_refl _) hk h1).good
          have g2 := (meetO_good hD' hR' (rk' (f k)) (f k) _ (Nat.le_refl _) (hf k hk).1 h2).good
          rw [List.foldl_cons, List.map_cons, List.foldl_cons, ← q]
          exact ih _ (fun y hy => hl y (by simp [hy])) g1 (by rw [q]; exact g2)
      have hk := key (K.getD a []) M (fun k hk => hk) hM hM'
      rw [List.map_append, List.map_singleton, ddp_snoc, hk, hfa.2]
      by_cases hin' : f a ∈ ddp [] (M.map f)
      · rw [if_pos hin']
        have hall : ∀ l : List Nat, (∀ y ∈ l, y ∈ ddp [] (M.map f)) → l.foldl (meetO K') (ddp [] (M.map f)) = ddp [] (M.map f) := by
          intro l
          induction l with
          | nil => intro _; rfl
          | cons y t ih =>
            intro hl
            have hy := hl y (by simp)
            rw [List.foldl_cons, meetO_is hD' _ y (hM'.lt y hy), if_pos hy]
            exact ih (fun z hz => hl z (by simp [hz]))
        rw [hall _ (fun y hy => (hM'.kids (f a) hin' y (by unfold Ed; rw [hfa.2]; exact hy)).1), if_pos hin']
      · rw [if_neg hin', if_neg]
        intro q
        have hg := fold_good hD' hR' ((K.getD a []).map f) (ddp [] (M.map f)) (fun y hy => hD'.1 (f a) y (by unfold Ed; rw [hfa.2]; exact hy)) hM'
        rcases hg.new _ q with q | ⟨y, hy, q⟩
        · exact hin' q
        · exact hD'.2 (f a) ⟨y, by unfold Ed; rw [hfa.2]; exact hy, q⟩
theorem hom_ord (hD : Dag K) (hD' : Dag K') (hf : ∀ i, i < K.length → f i < K'.length ∧ K'.getD (f i) [] = (K.getD i []).map f) {r : Nat} (hr : r < K.length) : ordO K' (f r) = ddp [] ((ordO K r).map f) := by
  obtain ⟨rk, hR⟩ := hD.rank
  obtain ⟨rk', hR'⟩ := hD'.rank
  exact (hom_meet hD hD' hR hR' hf (rk r) r [] (Nat.le_refl _) hr Good.nil (by simpa [ddp] using Good.nil)).symm
end

/-- Nodes, wherever they lie. -/
def asNx (A : List Nd) : List Nx := A.map fun N => ⟨N, none, 0, none, 0, none, 0⟩
theorem asNx_nd (A : List Nd) : (asNx A).map Nx.nd = A := by
  unfold asNx
  rw [List.map_map]
  exact List.map_id A
theorem asNx_len (A : List Nd) : (asNx A).length = A.length := by simp [asNx]
theorem asNx_at (A : List Nd) (i : Nat) : ((asNx A).getD i noNx).nd = atN A i := by
  unfold asNx atN
  rw [List.getD_eq_getElem?_getD, List.getD_eq_getElem?_getD, List.getElem?_map]
  cases A[i]? <;> rfl
theorem nds_atN (X : List Nx) (i : Nat) : atN (X.map Nx.nd) i = (X.getD i noNx).nd := by
  unfold atN
  rw [List.getD_eq_getElem?_getD, List.getD_eq_getElem?_getD, List.getElem?_map]
  cases X[i]? <;> rfl
theorem kAs_len (A : List Nd) : (kX (asNx A)).length = A.length := by rw [kX_length, asNx_len]
theorem kAs_at (A : List Nd) (i : Nat) (h : i < A.length) : (kX (asNx A)).getD i [] = (atN A i).kids.map Int.toNat := by rw [kX_at _ i (by rw [asNx_len]; exact h), asNx_at]
theorem Dn.ed {A : List Nd} (h : Dn A) {a b : Nat} (e : Ed (kX (asNx A)) a b) : b < a ∧ a < A.length := by
  have ha : a < A.length := by have := e.lt; rwa [kAs_len] at this
  unfold Ed at e
  rw [kAs_at A a ha] at e
  obtain ⟨z, hz, rfl⟩ := List.mem_map.1 e
  have := h a ha z hz
  omega
theorem Dn.rt {A : List Nd} (h : Dn A) {a b : Nat} (e : Rt (Ed (kX (asNx A))) a b) : b ≤ a := e (fun x => x ≤ a) (Nat.le_refl _) (fun x y q e => by have := h.ed e; omega)
theorem Dn.dag {A : List Nd} (h : Dn A) : Dag (kX (asNx A)) := by
  refine ⟨fun a b e => ?_, ?_⟩
  · have := h.ed e; rw [kAs_len]; omega
  · rintro x ⟨c, e, r⟩
    have := h.ed e
    have := h.rt r
    omega
theorem Dn.ok {A : List Nd} (h : Dn A) : ∀ i, i < (asNx A).length → okAt (asNx A) i := by
  intro i hi t ht
  rw [asNx_len] at hi
  rw [asNx_at] at ht ⊢
  have := (h.kid hi ht)
  rw [isPb_iff, asNx_len]
  omega

/-- A canonical scene, as nodes. -/
def Cn (A : List Nd) : Prop := IsCan (asNx A) ((A.length : Int) - 1)
theorem Cn.right {A : List Nd} (h : Cn A) : RightIs (asNx A) ((A.length : Int) - 1) := h.1
theorem Cn.pos {A : List Nd} (h : Cn A) : 0 < A.length := by
  have := h.1.root
  rw [asNx_len] at this
  omega
theorem cX_cn {X : List Nx} {r : Int} (hR : RightIs X r) : Cn (cX X r) := by
  have := can_isCan hR (asNx_nd (cX X r))
  unfold Cn
  rwa [show (cX X r).length = X.length by simp [cX, oX_length hR]]
theorem cX_len {X : List Nx} {r : Int} (hR : RightIs X r) : (cX X r).length = X.length := by simp [cX, oX_length hR]
theorem Cn.dn {A : List Nd} (h : Cn A) : Dn A := by
  intro i hi z hz
  have h2 := ((isCan_iff _ _).1 h).2.2
  have := can_ahead h.1 h2 i (by rw [asNx_len]; exact hi) z (by rw [asNx_at]; exact hz)
  exact this
theorem Cn.ord {A : List Nd} (h : Cn A) : ordO (kX (asNx A)) (A.length - 1) = List.range A.length := by
  have := oX_range h
  unfold oX at this
  rw [asNx_len] at this
  rw [← this]
  congr 1
  have := h.pos
  omega
theorem Cn.can {A : List Nd} (h : Cn A) : cX (asNx A) ((A.length : Int) - 1) = A := by rw [← ((isCan_iff _ _).1 h).2.2, asNx_nd]

theorem ddp_num {A L : List Nd} {ns : List Nat} {i : Nat} (h : TbI [] L ns A i) (he : (L, ns) = addA [] (A.take i)) (hA : Dn A) (hi : i ≤ A.length) : ddp [] ns = List.range L.length := by
  induction i generalizing L ns with
  | zero =>
    simp [addA] at he
    obtain ⟨rfl, rfl⟩ := he
    rfl
  | succ i ih =>
    rw [addA_take hi] at he
    have h0 := addA_is (L := []) (by simp) (fun i hi => by simp at hi) hA i (by omega)
    have h1 := ih h0 rfl (by omega)
    simp only [addS, Prod.mk.injEq] at he
    obtain ⟨rfl, rfl⟩ := he
    rw [ddp_snoc, h1]
    have hle := fdN_le (addA [] (A.take i)).1 (rnN (addA [] (A.take i)).2 (atN A i))
    unfold addN
    by_cases q : fdN (addA [] (A.take i)).1 (rnN (addA [] (A.take i)).2 (atN A i)) < (addA [] (A.take i)).1.length
    · rw [if_pos (List.mem_range.2 q), if_pos q]
    · rw [if_neg (fun p => q (List.mem_range.1 p)), if_neg q, List.length_append, List.length_singleton, List.range_succ]
      congr 2
      omega

/-- The scene shared, and its root. -/
def shL (A : List Nd) : List Nd := (addA [] A).1
def shR (A : List Nd) : Nat := (addA [] A).2.getD (A.length - 1) 0
theorem sh_tb {A : List Nd} (h : Dn A) : TbI [] (shL A) (addA [] A).2 A A.length := addA_all (by simp) (fun i hi => by simp at hi) h
theorem sh_num {A : List Nd} (h : Dn A) : Num (shL A) A (addA [] A).2 := (sh_tb h).num h
theorem kids_toNat (ns : List Nat) (l : List Int) : (l.map fun z => ((ns.getD z.toNat 0 : Nat) : Int)).map Int.toNat = (l.map Int.toNat).map fun k => ns.getD k 0 := by simp
theorem sh_hom {A : List Nd} (h : Dn A) : ∀ i, i < (kX (asNx A)).length → (addA [] A).2.getD i 0 < (kX (asNx (shL A))).length ∧ (kX (asNx (shL A))).getD ((addA [] A).2.getD i 0) [] = ((kX (asNx A)).getD i []).map fun k => (addA [] A).2.getD k 0 := by
  intro i hi
  rw [kAs_len] at hi
  have hn := sh_num h
  have hl := hn.lt i hi
  refine ⟨by rw [kAs_len]; exact hl, ?_⟩
  rw [kAs_at _ _ hl, kAs_at _ _ hi, hn.at_ i hi]
  exact kids_toNat _ _
theorem sh_ord {A : List Nd} (h : Cn A) : ordO (kX (asNx (shL A))) (shR A) = List.range (shL A).length := by
  have hd := h.dn
  have hp := h.pos
  have ht := sh_tb hd
  have := hom_ord (f := fun k => (addA [] A).2.getD k 0) hd.dag ht.dn.dag (sh_hom hd) (r := A.length - 1) (by rw [kAs_len]; omega)
  rw [h.ord] at this
  unfold shR
  rw [this]
  have e : (List.range A.length).map (fun k => (addA [] A).2.getD k 0) = (addA [] A).2 := by
    refine List.ext_getElem (by simp [ht.len]) (fun j h1 h2 => ?_)
    simp [h2]
  rw [e]
  exact ddp_num ht (by rw [List.take_length]; rfl) hd (Nat.le_refl _)
theorem sh_lt {A : List Nd} (h : Cn A) : shR A < (shL A).length := (sh_num h.dn).lt _ (by have := h.pos; omega)
theorem sh_isCan {A : List Nd} (h : Cn A) : IsCan (asNx (shL A)) (shR A : Int) := by
  have hd := h.dn
  have ht := sh_tb hd
  have ho := sh_ord h
  have hlt := sh_lt h
  have hall : ∀ x, x < (shL A).length → Rt (Ed (kX (asNx (shL A)))) (shR A) x := fun x hx => by
    obtain ⟨rk, hR⟩ := ht.dn.dag.rank
    have hg := meetO_good ht.dn.dag hR _ (shR A) [] (Nat.le_refl _) (by rw [kAs_len]; exact hlt) Good.nil
    rcases hg.new x (by show x ∈ ordO _ _; rw [ho]; exact List.mem_range.2 hx) with q | ⟨a, rfl, q⟩
    · simp at q
    · exact q
  refine ⟨⟨?_, ht.dn.ok, ht.dn.dag.2, fun x hx => ?_⟩, fun i hi => ?_⟩
  · rw [isPb_iff, asNx_len]; omega
  · rw [asNx_len] at hx
    rw [Int.toNat_natCast]
    exact hall x hx
  · rw [asNx_len] at hi
    unfold oX
    rw [Int.toNat_natCast, ho]
    have hi' : i < (List.range (shL A).length).length := by simpa using hi
    have := List.nodup_range.idxOf_getElem i hi'
    rwa [List.getElem_range] at this
theorem sh_root {A : List Nd} (h : Cn A) : (shR A : Int) = ((shL A).length : Int) - 1 := by
  have := ((isCan_iff _ _).1 (sh_isCan h)).2.1
  rw [asNx_len] at this
  exact this.symm
theorem sh_cn {A : List Nd} (h : Cn A) : Cn (shL A) := by
  have := sh_isCan h
  rw [sh_root h] at this
  exact this
theorem sh_few {A : List Nd} (h : Dn A) : (shL A).length ≤ A.length := by have := (sh_tb h).few; simpa using this
/-- The tree stays. -/
theorem sh_alk {A : List Nd} (h : Cn A) : Alk A (shL A) (A.length - 1) ((shL A).length - 1) := by
  have := (sh_num h.dn).alk (i := A.length - 1) (by have := h.pos; omega)
  have e := sh_root h
  have hp := sh_lt h
  rw [show (shL A).length - 1 = (addA [] A).2.getD (A.length - 1) 0 by show _ = shR A; omega]
  exact this

/-- Two tables of scenes with the same tree: each node of one has one of the other. -/
theorem sh_find {L M : List Nd} (hL : Cn L) (hM : Dn M) (hp : 0 < M.length) (h : Alk L M (L.length - 1) (M.length - 1)) : ∃ p : Nat → Nat, ∀ i, i < L.length → p i < M.length ∧ Alk L M i (p i) := by
  have hc : ∀ i, ∃ j, i < L.length → j < M.length ∧ Alk L M i j := fun i => by
    by_cases hi : i < L.length
    · have hr := hL.right.2.2.2 i (by rw [asNx_len]; exact hi)
      have : ((L.length : Int) - 1).toNat = L.length - 1 := by omega
      rw [this] at hr
      obtain ⟨j, hj⟩ := hr (fun x => ∃ j, j < M.length ∧ Alk L M x j) ⟨M.length - 1, by omega, h⟩ (fun x y ⟨j, hj, ha⟩ e => by
        have hx := (hL.dn.ed e).2
        unfold Ed at e
        rw [kAs_at L x hx] at e
        obtain ⟨k, hk, e⟩ := List.getElem_of_mem e
        have hk' : k < (atN L x).kids.length := by simpa using hk
        have hy : y = kidN (atN L x) k := by
          rw [← e]
          simp [kidN, hk']
        obtain ⟨_, q2, q3⟩ := alk_iff.1 ha
        refine ⟨kidN (atN M j) k, ?_, by rw [hy]; exact q3 k hk'⟩
        have := (hM.kid hj (k := k) (by omega)).1
        omega)
      exact ⟨j, fun _ => hj⟩
    · exact ⟨0, fun q => absurd q hi⟩
  exact Classical.skolem.1 hc
theorem sh_le {L M : List Nd} (hL : Cn L) (nL : L.Nodup) (hM : Cn M) (h : Alk L M (L.length - 1) (M.length - 1)) : L.length ≤ M.length := by
  obtain ⟨p, hp⟩ := sh_find hL hM.dn hM.pos h
  have := nodup_le M.length ((List.range L.length).map p) (by
    refine List.pairwise_map.2 ?_
    refine List.Pairwise.imp_of_mem (R := fun a b => a ≠ b) (fun {a b} ha hb hne q => hne ?_) ?_
    · have ha' := List.mem_range.1 ha
      have hb' := List.mem_range.1 hb
      refine alk_self nL hL.dn ha' hb' ((hp a ha').2.trans ?_)
      rw [q]
      exact (hp b hb').2.symm
    · exact List.nodup_range) (fun x hx => by
      obtain ⟨y, hy, rfl⟩ := List.mem_map.1 hx
      exact (hp y (List.mem_range.1 hy)).1)
  simpa using this
/-- Canonical scenes with one tree in which nothing is twice are one. -/
theorem sh_one {L M : List Nd} (hL : Cn L) (nL : L.Nodup) (hM : Cn M) (nM : M.Nodup) (h : Alk L M (L.length - 1) (M.length - 1)) : L = M := by
  have hlen : M.length = L.length := Nat.le_antisymm (sh_le hM nM hL h.symm) (sh_le hL nL hM h)
  obtain ⟨p, hp⟩ := sh_find hL hM.dn hM.pos h
  have hpos := hL.pos
  have hpr : p (L.length - 1) = L.length - 1 := alk_self nM hM.dn (hp _ (by omega)).1 (by omega) ((hp (L.length - 1) (by omega)).2.symm.trans (by rw [hlen] at h; exact h))
  have hren : Ren (asNx L) (asNx M) p := by
    refine ⟨⟨fun i hi => ?_, fun i j hi hj q => ?_⟩, by rw [asNx_len, asNx_len]; exact hlen, fun i hi => ?_⟩
    · rw [asNx_len] at hi ⊢
      rw [← hlen]
      exact (hp i hi).1
    · rw [asNx_len] at hi hj
      refine alk_self nL hL.dn hi hj ((hp i hi).2.trans ?_)
      rw [q]
      exact (hp j hj).2.symm
    · rw [asNx_len] at hi
      rw [asNx_at, asNx_at]
      obtain ⟨q1, q2, q3⟩ := alk_iff.1 (hp i hi).2
      refine nd_eq ?_ ?_
      · obtain ⟨p1, p2, p3⟩ := (ownB_iff _ _).1 q1
        exact (ownB_iff _ _).2 ⟨p1.symm, p2.symm, p3.symm⟩
      · refine list_eq10 0 _ _ (by simp [renNd, q2]) (fun k hk => ?_)
        have hk' : k < (atN L i).kids.length := by rw [q2]; exact hk
        have hkm : k < (atN M (p i)).kids.length := hk
        have ka := hL.dn.kid hi hk'
        have kb := hM.dn.kid (hp i hi).1 hkm
        have e := alk_self nM hM.dn (by have := (hp i hi).1; omega) (hp _ (by omega)).1 ((q3 k hk').symm.trans (hp _ (by omega)).2)
        rw [← kb.2, e]
        simp only [renNd]
        rw [show ((atN L i).kids.map fun z => ((p z.toNat : Nat) : Int)).getD k 0 = ((p ((atN L i).kids.getD k 0).toNat : Nat) : Int) by simp [hk']]
        rfl
  have hc := hren.can hL.right
  rw [hL.can, show ((L.length : Int) - 1).toNat = L.length - 1 by omega, hpr] at hc
  rw [← hc, show (((L.length - 1 : Nat) : Nat) : Int) = (M.length : Int) - 1 by omega]
  exact hM.can
theorem sh_same {A B : List Nd} (hA : Cn A) (hB : Cn B) : shL A = shL B ↔ Alk A B (A.length - 1) (B.length - 1) := by
  constructor
  · intro e
    have h2 := (sh_alk hB).symm
    rw [← e] at h2
    exact (sh_alk hA).trans h2
  · intro h
    exact sh_one (sh_cn hA) (sh_tb hA.dn).nd (sh_cn hB) (sh_tb hB.dn).nd ((sh_alk hA).symm.trans (h.trans (sh_alk hB)))
/-- What is shared stays so. -/
theorem sh_sh {A : List Nd} (h : Cn A) : shL (shL A) = shL A := (sh_same (sh_cn h) h).2 (sh_alk h).symm
/-- A scene, and its canonical one. -/
theorem ren_alk {X Y : List Nx} {p : Nat → Nat} (h : Ren X Y p) (hok : ∀ i, i < X.length → okAt X i) {i : Nat} (hi : i < X.length) : Alk (X.map Nx.nd) (Y.map Nx.nd) i (p i) := by
  refine ⟨fun x y => x < X.length ∧ y = p x, ?_, hi, rfl⟩
  rintro x y ⟨hx, rfl⟩
  rw [nds_atN, nds_atN, h.nd x hx]
  refine ⟨(ownB_iff _ _).2 ⟨rfl, rfl, rfl⟩, by simp [renNd], fun k hk => ⟨?_, ?_⟩⟩
  · have := isPb_iff.1 (hok x hx k hk)
    unfold kidN
    omega
  · unfold kidN
    generalize (X.getD x noNx).nd = N at *
    simp [renNd, hk]
theorem can_alk {X : List Nx} {r : Int} (hR : RightIs X r) : Alk (X.map Nx.nd) (cX X r) r.toNat ((cX X r).length - 1) := by
  have h := ren_alk (can_ren hR (asNx_nd (cX X r))) hR.2.1 (i := r.toNat) hR.root.2
  rw [asNx_nd] at h
  have e := can_root hR
  rw [cX_len hR]
  rw [show X.length - 1 = (oX X r).idxOf r.toNat by omega]
  exact h

end Go.Proofs.YtcdpjaaiojpelaaDoor
namespace Go.Proofs.YtcdpjaaiojpelaaDoor
open Go.RowKit Go.Maps Go.WideMaps Go.Sort

def sumK (l : List Nat) (ks : List Int) : Nat := (ks.map fun z => l.getD z.toNat 0).sum
def szS (l : List Nat) (n : Nd) : List Nat := l ++ [1 + sumK l n.kids]
/-- Of all nodes. -/
def szL (A : List Nd) : List Nat := A.foldl szS []
theorem szL_take {A : List Nd} {i : Nat} (h : i < A.length) : szL (A.take (i + 1)) = szL (A.take i) ++ [1 + sumK (szL (A.take i)) (atN A i).kids] := by
  unfold szL
  rw [List.take_add_one, List.getElem?_eq_getElem h, Option.toList_some, List.foldl_append, atN_get h]
  rfl
theorem szL_len (A : List Nd) : ∀ i, i ≤ A.length → (szL (A.take i)).length = i
  | 0, _ => by simp [szL]
  | i + 1, h => by rw [szL_take h, List.length_append, szL_len A i (by omega)]; rfl
theorem szL_pre {A : List Nd} {i : Nat} : ∀ d, i + d ≤ A.length → ∀ k, k < i → (szL (A.take (i + d))).getD k 0 = (szL (A.take i)).getD k 0
  | 0, _, k, _ => rfl
  | d + 1, h, k, hk => by
    rw [show i + (d + 1) = i + d + 1 by omega, szL_take (by omega), List.getD_eq_getElem?_getD, List.getElem?_append_left (by rw [szL_len A _ (by omega)]; omega), ← List.getD_eq_getElem?_getD]
    exact szL_pre d (by omega) k hk
theorem szL_old {A : List Nd} {i : Nat} (h : i ≤ A.length) {k : Nat} (hk : k < i) : (szL (A.take i)).getD k 0 = (szL A).getD k 0 := by
  have := szL_pre (A := A) (i := i) (A.length - i) (by omega) k hk
  rw [show i + (A.length - i) = A.length by omega, List.take_length] at this
  exact this.symm
theorem sumK_congr {l m : List Nat} {ks : List Int} (h : ∀ z ∈ ks, l.getD z.toNat 0 = m.getD z.toNat 0) : sumK l ks = sumK m ks := by
  unfold sumK
  rw [List.map_congr_left h]
theorem szL_at {A : List Nd} (hA : Dn A) {i : Nat} (h : i < A.length) : (szL A).getD i 0 = 1 + sumK (szL A) (atN A i).kids := by
  rw [← szL_old (i := i + 1) h (by omega), szL_take h]
  have hl := szL_len A i (by omega)
  have : (szL (A.take i) ++ [1 + sumK (szL (A.take i)) (atN A i).kids]).getD i 0 = 1 + sumK (szL (A.take i)) (atN A i).kids := by
    have := getD_snoc2 (szL (A.take i)) (1 + sumK (szL (A.take i)) (atN A i).kids)
    rwa [hl] at this
  rw [this, sumK_congr (m := szL A)]
  intro z hz
  have := hA i h z hz
  exact szL_old (by omega) (by omega)
theorem sum_flat (F : Nat → List Nat) (g : Nat → Nat) : ∀ l : List Nat, (∀ k ∈ l, (F k).length = g k) → (l.flatMap F).length = (l.map g).sum
  | [], _ => rfl
  | k :: l, h => by
    rw [List.flatMap_cons, List.length_append, h k (by simp), sum_flat F g l (fun y hy => h y (by simp [hy])), List.map_cons, List.sum_cons]
theorem sz_all {A : List Nd} (hA : Dn A) (i : Nat) : i < A.length → ∃ T : List Nat, T.length = (szL A).getD i 0 ∧ ∀ x, Rt (Ed (kX (asNx A))) i x → x ∈ T := by
  induction i using Nat.strongRecOn with
  | _ i ih =>
    intro hi
    have hc : ∀ j, ∃ T : List Nat, j < i → T.length = (szL A).getD j 0 ∧ ∀ x, Rt (Ed (kX (asNx A))) j x → x ∈ T := fun j => by
      by_cases hj : j < i
      · obtain ⟨T, hT⟩ := ih j hj (by omega)
        exact ⟨T, fun _ => hT⟩
      · exact ⟨[], fun q => absurd q hj⟩
    obtain ⟨F, hF⟩ := Classical.skolem.1 hc
    have hk : ∀ k ∈ (atN A i).kids.map Int.toNat, k < i := fun k hk => by
      obtain ⟨z, hz, rfl⟩ := List.mem_map.1 hk
      have := hA i hi z hz
      omega
    refine ⟨i :: ((atN A i).kids.map Int.toNat).flatMap F, ?_, fun x hx => ?_⟩
    · rw [List.length_cons, sum_flat F (fun k => (szL A).getD k 0) _ (fun k q => (hF k (hk k q)).1), szL_at hA hi]
      unfold sumK
      rw [List.map_map]
      exact Nat.add_comm _ _
    · rcases hx.cases with rfl | ⟨c, e, q⟩
      · simp
      · have e' : c ∈ (atN A i).kids.map Int.toNat := by
          unfold Ed at e
          rwa [kAs_at A i hi] at e
        exact List.mem_cons_of_mem _ (List.mem_flatMap.2 ⟨c, e', (hF c (hk c e')).2 x q⟩)
/-- Each node is led to. -/
theorem sz_ge {A : List Nd} (h : Cn A) : A.length ≤ (szL A).getD (A.length - 1) 0 := by
  have hp := h.pos
  obtain ⟨T, h1, h2⟩ := sz_all h.dn (A.length - 1) (by omega)
  rw [← h1]
  refine nodup_ge fun x hx => h2 x ?_
  have := h.right.2.2.2 x (by rw [asNx_len]; exact hx)
  rwa [show ((A.length : Int) - 1).toNat = A.length - 1 by omega] at this
/-- With a bound. -/
def cap (m n : Nat) : Nat := min n m
theorem sumK_take (l : List Nat) (ks : List Int) (k : Nat) (h : k < ks.length) : sumK l (ks.take (k + 1)) = sumK l (ks.take k) + l.getD (ks.getD k 0).toNat 0 := by
  unfold sumK
  rw [List.take_add_one, List.getElem?_eq_getElem h, List.map_append, List.sum_append, List.getD_eq_getElem?_getD (l := ks), List.getElem?_eq_getElem h]
  simp

end Go.Proofs.YtcdpjaaiojpelaaDoor
