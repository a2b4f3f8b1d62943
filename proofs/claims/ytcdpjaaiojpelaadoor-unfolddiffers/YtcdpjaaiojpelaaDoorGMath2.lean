/- Cycles by an order from below; what is wrong with a graph; how deep it is: plain mathematics. -/
import Derived.Test.YtcdpjaaiojpelaaDoorGMath
namespace Go.Proofs.YtcdpjaaiojpelaaDoor

/-- Each leads to the other one. -/
def Scc (K : List (List Nat)) (a b : Nat) : Prop := Rt (Ed K) a b ∧ Rt (Ed K) b a
theorem Scc.symm {K : List (List Nat)} {a b : Nat} (h : Scc K a b) : Scc K b a := ⟨h.2, h.1⟩
theorem Scc.trans {K : List (List Nat)} {a b c : Nat} (h : Scc K a b) (k : Scc K b c) : Scc K a c := ⟨h.1.trans k.1, k.2.trans h.2⟩

theorem last_split {P : Nat → Prop} : ∀ (L : List Nat) (y : Nat), y ∈ L → P y → ∃ pre z post, L = pre ++ z :: post ∧ P z ∧ ∀ u ∈ post, ¬ P u
  | [], y, h, _ => by simp at h
  | x :: r, y, h, hp => by
    by_cases hr : ∃ u ∈ r, P u
    · obtain ⟨u, hu, pu⟩ := hr
      obtain ⟨pre, z, post, rfl, hz, ho⟩ := last_split r u hu pu
      exact ⟨x :: pre, z, post, rfl, hz, ho⟩
    · rcases List.mem_cons.1 h with rfl | h
      · exact ⟨[], y, r, rfl, hp, fun u hu pu => hr ⟨u, hu, pu⟩⟩
      · exact absurd ⟨y, h, hp⟩ hr

/-- The last of an order that is not met finds, the other way round, just who it leads to and who leads to it. -/
theorem ring_is {K Kb : List (List Nat)} {order pre post M found : List Nat} {t : Nat} (hb : BOut K order) (hk : Ok9 K) (ht : order = pre ++ t :: post) (hM : ∀ x ∈ post, x ∈ M) (hc : ∀ x y, x ∈ M → Scc K x y → y ∈ M) (hn : t ∉ M)
    (hkb : ∀ x y, Ed Kb x y ↔ Ed K y x) (hw : WOut Kb M t found) (x : Nat) : x ∈ found ↔ Scc K t x := by
  have htl : t < K.length := (hb.2.1 t).1 (by rw [ht]; simp)
  rw [hw.2 x]
  constructor
  · rintro ⟨_, hr⟩
    have hxt : Rt (Ed K) x t := (hr.mono (E' := fun a b => Ed K b a) (fun a b e => (hkb a b).1 e.1)).turn
    have hxM : x ∉ M := by
      rcases hr.turn.cases with rfl | ⟨c, e, _⟩
      · exact hn
      · exact e.2
    have hxl : x < K.length := by
      rcases hxt.cases with rfl | ⟨c, e, _⟩
      · exact htl
      · exact e.lt
    refine Classical.byContradiction fun hq => ?_
    obtain ⟨p, z, q, hz, sz, ho⟩ := last_split (P := fun u => Scc K x u) order x ((hb.2.1 x).2 hxl) ⟨Rt.refl _ _, Rt.refl _ _⟩
    have hall := hb.2.2 p z q hz (fun u h1 h2 => by
      have su : Scc K x u := sz.trans ⟨h2, h1⟩
      have hul : u < K.length := Ok9.rt hk hxl su.1
      have hu : u ∈ order := (hb.2.1 u).2 hul
      rw [hz] at hu
      rcases List.mem_append.1 hu with hu | hu
      · exact List.mem_append_left _ hu
      · rcases List.mem_cons.1 hu with rfl | hu
        · simp
        · exact absurd su (ho u hu)) t (sz.2.trans hxt)
    have hzM : z ∉ M := fun h => hxM (hc z x h sz.symm)
    have hzt : z ≠ t := fun e => hq (e ▸ sz.symm)
    have hnd := hb.1
    rcases List.mem_append.1 hall with h1 | h1
    · -- t stands ahead of z
      have hzo : z ∈ post := by
        obtain ⟨p1, p2, rfl⟩ := List.append_of_mem h1
        rw [ht] at hz hnd
        have e1 : pre ++ t :: post = p1 ++ t :: (p2 ++ z :: q) := by rw [hz]; simp
        have hpp : pre = p1 ∧ post = p2 ++ z :: q := by
          have key : ∀ (A B C D : List Nat), A ++ t :: B = C ++ t :: D → (A ++ t :: B).Nodup → A = C ∧ B = D := by
            intro A
            induction A with
            | nil =>
              intro B C D he hn
              cases C with
              | nil => simp at he; exact ⟨rfl, he⟩
              | cons c C =>
                simp at he
                obtain ⟨rfl, rfl⟩ := he
                simp at hn
            | cons a A ih =>
              intro B C D he hn
              cases C with
              | nil =>
                simp at he
                obtain ⟨rfl, rfl⟩ := he
                simp at hn
              | cons c C =>
                simp at he
                obtain ⟨rfl, he⟩ := he
                obtain ⟨rfl, rfl⟩ := ih B C D he (by
                  rw [List.cons_append, List.nodup_cons] at hn
                  exact hn.2)
                exact ⟨rfl, rfl⟩
          exact key _ _ _ _ e1 hnd
        rw [hpp.2]
        simp
      exact hzM (hM z hzo)
    · simp only [List.mem_singleton] at h1
      exact hzt h1.symm
  · intro hs
    refine ⟨hn, ?_⟩
    have : Rt (fun a b => Ed K a b ∧ a ∉ M) x t := (hs.2 (fun u => Rt (Ed K) x u ∧ (Rt (Ed K) u t → Rt (fun a b => Ed K a b ∧ a ∉ M) x u)) ⟨Rt.refl _ _, fun _ => Rt.refl _ _⟩ (fun u v p e =>
      ⟨p.1.tail e, fun g => (p.2 (Rt.head e g)).tail ⟨e, fun h => hn (hc u t h ⟨Rt.head e g, hs.1.trans p.1⟩)⟩⟩)).2 (Rt.refl _ _)
    exact (this.turn).mono (fun a b e => ⟨(hkb a b).2 e.1, e.2⟩)


/-- Who leads to itself among those of which each leads to all others. -/
def ringB (K : List (List Nat)) (ring : List Nat) : Bool := decide (1 < ring.length) || (decide (ring.length = 1) && (K.getD (ring.getD 0 0) []).contains (ring.getD 0 0))
theorem ringB_is {K : List (List Nat)} {ring : List Nat} {t : Nat} (hnd : ring.Nodup) (hr : ∀ x, x ∈ ring ↔ Scc K t x) (x : Nat) (hx : x ∈ ring) : ringB K ring = true ↔ Lead (Ed K) x x := by
  match ring, hnd, hr, hx with
  | [y], _, hr, hx =>
    simp only [List.mem_singleton] at hx
    subst hx
    simp only [ringB, List.length_singleton, Nat.lt_irrefl, decide_false, Bool.false_or, decide_true, Bool.true_and, List.getD_cons_zero, List.contains_iff_mem]
    constructor
    · intro h; exact ⟨x, h, Rt.refl _ _⟩
    · rintro ⟨c, e, r⟩
      have hxx : Scc K t x := (hr x).1 (by simp)
      have : c ∈ [x] := (hr c).2 (hxx.trans ⟨Rt.one e, r⟩)
      simp only [List.mem_singleton] at this
      subst this
      exact e
  | y :: z :: r, hnd, hr, hx =>
    have h1 : ringB K (y :: z :: r) = true := by simp [ringB]
    refine ⟨fun _ => ?_, fun _ => h1⟩
    have hyz : y ≠ z := by
      rw [List.nodup_cons] at hnd
      intro e
      exact hnd.1 (by rw [e]; simp)
    have : ∃ u, u ∈ y :: z :: r ∧ u ≠ x := by
      by_cases e : y = x
      · exact ⟨z, by simp, fun q => hyz (e.trans q.symm)⟩
      · exact ⟨y, by simp, e⟩
    obtain ⟨u, hu, hne⟩ := this
    have s1 : Scc K x u := ((hr x).1 hx).symm.trans ((hr u).1 hu)
    exact (s1.1.cases.resolve_left (fun e => hne e.symm)).trans s1.2

/-- Behind the last ones of an order: what was met; the first that leads to itself among it. -/
structure KInv (K : List (List Nat)) (order : List Nat) (i : Nat) (M : List Nat) (first : Nat) : Prop where
  le : i ≤ order.length
  past : ∀ x ∈ order.drop i, x ∈ M
  clo : ∀ x y, x ∈ M → Scc K x y → y ∈ M
  top : first ≤ K.length
  low : ∀ x ∈ M, Lead (Ed K) x x → first ≤ x
  own : first = K.length ∨ Lead (Ed K) first first
section
variable {K Kb : List (List Nat)} {order M found : List Nat} {i first : Nat}
theorem KInv.start (hb : BOut K order) : KInv K order K.length [] K.length := ⟨by rw [hb.len]; exact Nat.le_refl _, by rw [← hb.len]; simp, by simp, Nat.le_refl _, by simp, .inl rfl⟩
theorem drop_at {L : List Nat} {i : Nat} (hi : i < L.length) : L = L.take i ++ L.getD i 0 :: L.drop (i + 1) := by
  have : L.getD i 0 = L[i] := by rw [List.getD_eq_getElem?_getD, List.getElem?_eq_getElem hi]; rfl
  rw [this, List.getElem_cons_drop, List.take_append_drop]
theorem KInv.met (h : KInv K order (i + 1) M first) (hi : i < order.length) (hm : order.getD i 0 ∈ M) : KInv K order i M first := by
  refine ⟨by omega, fun x hx => ?_, h.clo, h.top, h.low, h.own⟩
  rw [show order.drop i = order.getD i 0 :: order.drop (i + 1) by
    have : order.getD i 0 = order[i] := by rw [List.getD_eq_getElem?_getD, List.getElem?_eq_getElem hi]; rfl
    rw [this, List.getElem_cons_drop]] at hx
  rcases List.mem_cons.1 hx with rfl | hx
  · exact hm
  · exact h.past x hx
/-- A round. -/
theorem KInv.step (h : KInv K order (i + 1) M first) (hb : BOut K order) (hk : Ok9 K) (hkb : ∀ x y, Ed Kb x y ↔ Ed K y x) (hi : i < order.length) (hw : WOut Kb M (order.getD i 0) found) :
    (ringB K found = false → KInv K order i (M ++ found) first) ∧ (ringB K found = true → found ≠ [] ∧ ∀ m, m ∈ found → (∀ x ∈ found, m ≤ x) → KInv K order i (M ++ found) (min first m)) := by
  by_cases hm : order.getD i 0 ∈ M
  · have : found = [] := by
      apply List.eq_nil_iff_forall_not_mem.2
      intro x hx
      exact ((hw.2 x).1 hx).1 hm
    subst this
    refine ⟨fun _ => ?_, fun q => by simp [ringB] at q⟩
    rw [List.append_nil]
    exact h.met hi hm
  · have hr := ring_is hb hk (drop_at hi) (fun x hx => h.past x hx) h.clo hm hkb hw
    have hin : order.getD i 0 ∈ found := (hr _).2 ⟨Rt.refl _ _, Rt.refl _ _⟩
    have hpast : ∀ x ∈ order.drop i, x ∈ M ++ found := fun x hx => by
      rw [show order.drop i = order.getD i 0 :: order.drop (i + 1) by
        have : order.getD i 0 = order[i] := by rw [List.getD_eq_getElem?_getD, List.getElem?_eq_getElem hi]; rfl
        rw [this, List.getElem_cons_drop]] at hx
      rcases List.mem_cons.1 hx with rfl | hx
      · exact List.mem_append_right _ hin
      · exact List.mem_append_left _ (h.past x hx)
    have hclo : ∀ x y, x ∈ M ++ found → Scc K x y → y ∈ M ++ found := fun x y hx s => by
      rcases List.mem_append.1 hx with hx | hx
      · exact List.mem_append_left _ (h.clo x y hx s)
      · exact List.mem_append_right _ ((hr y).2 (((hr x).1 hx).trans s))
    constructor
    · intro hf
      refine ⟨by omega, hpast, hclo, h.top, fun x hx l => ?_, h.own⟩
      rcases List.mem_append.1 hx with hx | hx
      · exact h.low x hx l
      · have := (ringB_is hw.1 hr x hx).2 l
        rw [hf] at this
        exact absurd this (by simp)
    · intro hf
      refine ⟨List.ne_nil_of_mem hin, fun m hm1 hm2 => ⟨by omega, hpast, hclo, Nat.le_trans (Nat.min_le_left _ _) h.top, fun x hx l => ?_, ?_⟩⟩
      · rcases List.mem_append.1 hx with hx | hx
        · exact Nat.le_trans (Nat.min_le_left _ _) (h.low x hx l)
        · exact Nat.le_trans (Nat.min_le_right _ _) (hm2 x hx)
      · rcases Nat.le_total first m with q | q
        · rw [Nat.min_eq_left q]; exact h.own
        · rw [Nat.min_eq_right q]; exact .inr ((ringB_is hw.1 hr m hm1).1 hf)
end

/-- All kids stand ahead. -/
def Behind (K : List (List Nat)) (order : List Nat) : Prop := ∀ a k, Ed K a k → order.idxOf k < order.idxOf a
theorem Behind.rt {K : List (List Nat)} {order : List Nat} (h : Behind K order) {a b : Nat} (r : Rt (Ed K) a b) : order.idxOf b ≤ order.idxOf a := r (fun x => order.idxOf x ≤ order.idxOf a) (Nat.le_refl _) (fun x y p e => Nat.le_trans (Nat.le_of_lt (h x y e)) p)
theorem Behind.none {K : List (List Nat)} {order : List Nat} (h : Behind K order) (x : Nat) : ¬ Lead (Ed K) x x := by
  rintro ⟨c, e, r⟩
  have := h x c e
  have := h.rt r
  omega
theorem split_idx {L : List Nat} (hnd : L.Nodup) {a : Nat} (ha : a ∈ L) : ∃ pre post, L = pre ++ a :: post ∧ ∀ x, x ∈ pre ++ [a] → L.idxOf x ≤ L.idxOf a := by
  obtain ⟨pre, post, rfl⟩ := List.append_of_mem ha
  have hap : a ∉ pre := fun q => by
    rw [List.nodup_append] at hnd
    exact hnd.2.2 a q a (by simp) rfl
  refine ⟨pre, post, rfl, fun x hx => ?_⟩
  rw [List.idxOf_append, List.idxOf_append, if_neg hap]
  rcases List.mem_append.1 hx with hx | hx
  · rw [if_pos hx]
    have := List.idxOf_lt_length_of_mem hx
    omega
  · simp only [List.mem_singleton] at hx
    subst hx
    rw [if_neg hap]
    exact Nat.le_refl _
theorem idx_inj {L : List Nat} {a b : Nat} (ha : a ∈ L) (hb : b ∈ L) (h : L.idxOf a = L.idxOf b) : a = b := by
  have h1 := List.getElem_idxOf (List.idxOf_lt_length_of_mem ha)
  have h2 := List.getElem_idxOf (List.idxOf_lt_length_of_mem hb)
  rw [← h1, ← h2]
  congr 1
theorem BOut.behind {K : List (List Nat)} {order : List Nat} (h : BOut K order) (hk : Ok9 K) (hn : ∀ x, ¬ Lead (Ed K) x x) : Behind K order := by
  intro a k e
  obtain ⟨pre, post, h1, h2⟩ := split_idx h.1 ((h.2.1 a).2 e.lt)
  have := h.2.2 pre a post h1 (fun x r1 r2 => by
    rcases r1.cases with rfl | l
    · simp
    · exact absurd (r2.lead l) (hn a)) k (Rt.one e)
  have hle := h2 k this
  refine Nat.lt_of_le_of_ne hle fun q => ?_
  have : k = a := idx_inj ((h.2.1 k).2 (hk a k e)) ((h.2.1 a).2 e.lt) q
  subst this
  exact hn k ⟨k, e, Rt.refl _ _⟩
theorem BOut.cycle {K : List (List Nat)} {order : List Nat} (h : BOut K order) (hk : Ok9 K) (hn : ¬ Behind K order) : ∃ x, Lead (Ed K) x x := Classical.byContradiction fun q => hn (h.behind hk (fun x l => q ⟨x, l⟩))

/-- The first that leads to itself. -/
def FirstCyc (K : List (List Nat)) (i : Nat) : Prop := Lead (Ed K) i i ∧ ∀ j, j < i → ¬ Lead (Ed K) j j
theorem Lead.lt {K : List (List Nat)} {x y : Nat} (h : Lead (Ed K) x y) : x < K.length := by obtain ⟨c, e, _⟩ := h; exact e.lt
theorem KInv.fin {K : List (List Nat)} {order M : List Nat} {first : Nat} (h : KInv K order 0 M first) (hb : BOut K order) (hc : ∃ x, Lead (Ed K) x x) : FirstCyc K first := by
  have hM : ∀ x, Lead (Ed K) x x → x ∈ M := fun x l => h.past x (by rw [List.drop_zero]; exact (hb.2.1 x).2 l.lt)
  obtain ⟨x, hx⟩ := hc
  have h1 := h.low x (hM x hx) hx
  have h2 : first < K.length := Nat.lt_of_le_of_lt h1 hx.lt
  refine ⟨h.own.resolve_left (by omega), fun j hj l => ?_⟩
  have := h.low j (hM j l) l
  omega

end Go.Proofs.YtcdpjaaiojpelaaDoor
