/- Files of sections as plain mathematics: lists of bytes and of sections, no program in sight. -/
import Derived.Test.YtipljconbnaffaaCrcGo
import Derived.Test.YtipljconbnaffaaSpec2
namespace Go.Proofs.Ytipljconbnaffaa

/-- A section: its Id, its payload. -/
abbrev Sec := Int × ByteArray

def secL (s : Sec) : List UInt8 := UInt8.ofNat s.1.toNat :: (put s.2.size ++ (s.2.data.toList ++ four (crc s.2.data.toList)))
def bodyL : List Sec → List UInt8
  | [] => []
  | s :: r => secL s ++ bodyL r

theorem bodyL_append (a b : List Sec) : bodyL (a ++ b) = bodyL a ++ bodyL b := by
  induction a with
  | nil => rfl
  | cons s r ih => simp [bodyL, ih]
theorem bodyL_one (s : Sec) : bodyL [s] = secL s := by simp [bodyL]
theorem take_snoc {α : Type} (L : List α) (i : Nat) (h : i < L.length) : L.take (i + 1) = L.take i ++ [L[i]] := by
  rw [List.take_add_one, List.getElem?_eq_getElem h]; rfl
theorem bodyL_take (L : List Sec) (i : Nat) (h : i < L.length) : bodyL (L.take (i + 1)) = bodyL (L.take i) ++ secL L[i] := by
  rw [take_snoc L i h, bodyL_append, bodyL_one]
theorem four_length (n : Nat) : (four n).length = 4 := rfl
theorem secL_length (s : Sec) : (secL s).length = 1 + (put s.2.size).length + s.2.size + 4 := by
  simp [secL, four_length]; omega
theorem secL_le (s : Sec) : (secL s).length ≤ s.2.size + 15 := by
  have := (put_length s.2.size).2
  rw [secL_length]; omega
theorem bodyL_le (M : Nat) (L : List Sec) (h : ∀ s ∈ L, s.2.size ≤ M) : (bodyL L).length ≤ L.length * (M + 15) := by
  induction L with
  | nil => simp [bodyL]
  | cons s r ih =>
    have h1 := h s (by simp)
    have h2 := ih (fun s hs => h s (by simp [hs]))
    have h3 := secL_le s
    simp only [bodyL, List.length_append, List.length_cons, Nat.add_mul]
    omega

/-- What is wrong with the first section with which something is. -/
def chk : List Sec → Int
  | [] => 0
  | s :: r => if s.1 < 1 ∨ 255 < s.1 then 4 else if 16777216 < s.2.size then 19 else chk r

def okSec (s : Sec) : Prop := 1 ≤ s.1 ∧ s.1 ≤ 255 ∧ s.2.size ≤ 16777216

theorem chk_ok (L : List Sec) : chk L = 0 ↔ ∀ s ∈ L, okSec s := by
  induction L with
  | nil => simp [chk]
  | cons s r ih =>
    unfold chk
    split
    · constructor
      · intro h; omega
      · intro h; have := h s (by simp); unfold okSec at this; omega
    · split
      · constructor
        · intro h; omega
        · intro h; have := h s (by simp); unfold okSec at this; omega
      · rw [ih]
        constructor
        · intro h t ht
          rcases List.mem_cons.1 ht with rfl | ht
          · unfold okSec; omega
          · exact h t ht
        · intro h t ht; exact h t (by simp [ht])

/-- Put: the bytes, the error's number. -/
def pPut (m : ByteArray) (v : Int) (L : List Sec) : List UInt8 × Int :=
  if m.size ≠ 4 then ([], 6) else if v < 1 ∨ 255 < v then ([], 7) else if 8 < L.length then ([], 8) else if chk L ≠ 0 then ([], chk L) else (m.data.toList ++ UInt8.ofNat v.toNat :: bodyL L, 0)

/-- What stands in front: the error's number, the section, how many bytes it takes. -/
def sec0 (c : UInt8) (r : List UInt8) (d : Nat × Nat × Nat) : Nat × Sec × Nat :=
  if c.toNat = 0 then (4, (0, ⟨#[]⟩), 0)
  else if d.2.2 ≠ 0 then (d.2.2, (0, ⟨#[]⟩), 0)
  else if 16777216 < d.1 then (19, (0, ⟨#[]⟩), 0)
  else if r.length < d.2.1 + d.1 + 4 then (2, (0, ⟨#[]⟩), 0)
  else if (r.drop (d.2.1 + d.1)).take 4 ≠ four (crc ((r.drop d.2.1).take d.1)) then (5, (0, ⟨#[]⟩), 0)
  else (0, ((c.toNat : Int), ⟨((r.drop d.2.1).take d.1).toArray⟩), 1 + d.2.1 + d.1 + 4)
def sec1 : List UInt8 → Nat × Sec × Nat
  | [] => (2, (0, ⟨#[]⟩), 0)
  | c :: r => sec0 c r (dec 0 0 r)

theorem sec1_cons (c : UInt8) (r : List UInt8) : sec1 (c :: r) = sec0 c r (dec 0 0 r) := rfl

def cont (xs : List Sec) (q : Nat × List Sec) : Nat × List Sec := if q.1 ≠ 0 then (q.1, []) else (0, xs ++ q.2)

/-- At most so many sections, one behind the other: the error's number, the sections. -/
def secsL : Nat → List UInt8 → Nat × List Sec
  | 0, l => if l = [] then (0, []) else (8, [])
  | f + 1, l => if l = [] then (0, []) else if (sec1 l).1 ≠ 0 then ((sec1 l).1, []) else cont [(sec1 l).2.1] (secsL f (l.drop (sec1 l).2.2))

theorem secsL_nil (f : Nat) : secsL f [] = (0, []) := by cases f <;> simp [secsL]
theorem secsL_full (l : List UInt8) (h : l ≠ []) : secsL 0 l = (8, []) := by simp [secsL, h]
theorem secsL_bad (f : Nat) (l : List UInt8) (h : l ≠ []) (he : (sec1 l).1 ≠ 0) : secsL (f + 1) l = ((sec1 l).1, []) := by simp [secsL, h, he]
theorem secsL_go (f : Nat) (l : List UInt8) (h : l ≠ []) (he : (sec1 l).1 = 0) : secsL (f + 1) l = cont [(sec1 l).2.1] (secsL f (l.drop (sec1 l).2.2)) := by simp [secsL, h, he]
theorem cont_bad {xs : List Sec} {q : Nat × List Sec} (h : q.1 ≠ 0) : cont xs q = (q.1, []) := by unfold cont; rw [if_pos h]
theorem cont_ok {xs : List Sec} {q : Nat × List Sec} (h : q.1 = 0) : cont xs q = (0, xs ++ q.2) := by unfold cont; rw [if_neg (by simpa using h)]
theorem cont_cont (xs ys : List Sec) (q : Nat × List Sec) : cont xs (cont ys q) = cont (xs ++ ys) q := by
  by_cases h : q.1 = 0
  · rw [cont_ok h, cont_ok h, cont_ok rfl, List.append_assoc]
  · rw [cont_bad h, cont_bad h]; exact cont_bad h
theorem secsL_err (f : Nat) (l : List UInt8) (h : (secsL f l).1 ≠ 0) : (secsL f l).2 = [] := by
  cases f with
  | zero => simp only [secsL] at h ⊢; split <;> simp_all
  | succ f =>
    by_cases hl : l = []
    · rw [hl, secsL_nil] at h; simp at h
    by_cases he : (sec1 l).1 = 0
    · rw [secsL_go f l hl he] at h ⊢
      by_cases hq : (secsL f (l.drop (sec1 l).2.2)).1 = 0
      · rw [cont_ok hq] at h; simp at h
      · rw [cont_bad hq]
    · rw [secsL_bad f l hl he]
theorem cont_nil (f : Nat) (l : List UInt8) : cont [] (secsL f l) = secsL f l := by
  by_cases h : (secsL f l).1 = 0
  · rw [cont_ok h, List.nil_append, ← h]
  · rw [cont_bad h, ← secsL_err f l h]

/-- Get: the error's number, the version, the sections. -/
def pGet (m b : List UInt8) : Nat × Nat × List Sec :=
  if m.length ≠ 4 ∨ b.take 4 ≠ m then (6, 0, []) else match b.drop 4 with
  | [] => (2, 0, [])
  | v :: r => if v.toNat = 0 then (7, 0, []) else if (secsL 8 r).1 ≠ 0 then ((secsL 8 r).1, 0, []) else (0, v.toNat, (secsL 8 r).2)

theorem ofNat_toNat8 (c : UInt8) : UInt8.ofNat c.toNat = c := by simp
theorem toNat_ofNat8 (n : Nat) (h : n < 256) : (UInt8.ofNat n).toNat = n := by simp; omega

theorem sec1_put (s : Sec) (r : List UInt8) (h : okSec s) : sec1 (secL s ++ r) = (0, s, (secL s).length) := by
  obtain ⟨h1, h2, h3⟩ := h
  have hd : dec 0 0 (put s.2.size ++ (s.2.data.toList ++ four (crc s.2.data.toList) ++ r)) = (s.2.size, (put s.2.size).length, 0) := dec_put s.2.size (by omega) _
  have hc : (UInt8.ofNat s.1.toNat).toNat = s.1.toNat := toNat_ofNat8 _ (by omega)
  have hl : s.2.data.toList.length = s.2.size := list_size s.2
  have e : secL s ++ r = UInt8.ofNat s.1.toNat :: (put s.2.size ++ (s.2.data.toList ++ four (crc s.2.data.toList) ++ r)) := by simp [secL]
  rw [e, secL_length, sec1_cons, hd]
  unfold sec0
  rw [hc, if_neg (by omega), if_neg (by simp), if_neg (by dsimp only; omega), if_neg (by simp [four_length]; omega)]
  dsimp only
  have t1 : ((put s.2.size ++ (s.2.data.toList ++ four (crc s.2.data.toList) ++ r)).drop (put s.2.size).length).take s.2.size = s.2.data.toList := by
    rw [List.drop_left, List.append_assoc, ← hl, List.take_left]
  have t2 : ((put s.2.size ++ (s.2.data.toList ++ four (crc s.2.data.toList) ++ r)).drop ((put s.2.size).length + s.2.size)).take 4 = four (crc s.2.data.toList) := by
    rw [← List.drop_drop, List.drop_left, List.append_assoc, ← hl, List.drop_left, show 4 = (four (crc s.2.data.toList)).length from rfl, List.take_left]
  rw [t1, t2, if_neg (by simp)]
  have t3 : ((s.1.toNat : Int), (⟨s.2.data.toList.toArray⟩ : ByteArray)) = s := Prod.ext (by dsimp only; omega) rfl
  rw [t3]

theorem sec1_ok (l : List UInt8) (h : (sec1 l).1 = 0) : okSec (sec1 l).2.1 ∧ (sec1 l).2.2 ≤ l.length ∧ secL (sec1 l).2.1 = l.take (sec1 l).2.2 := by
  cases l with
  | nil => simp [sec1] at h
  | cons c r =>
    rw [sec1_cons] at h ⊢
    obtain ⟨n, m, e, hd⟩ : ∃ n m e, dec 0 0 r = (n, m, e) := ⟨_, _, _, rfl⟩
    rw [hd] at h ⊢
    unfold sec0 at h ⊢
    dsimp only at h ⊢
    by_cases h1 : c.toNat = 0
    · rw [if_pos h1] at h; simp at h
    rw [if_neg h1] at h ⊢
    by_cases h2 : e ≠ 0
    · rw [if_pos h2] at h; exact absurd h h2
    rw [if_neg h2] at h ⊢
    by_cases h3 : 16777216 < n
    · rw [if_pos h3] at h; simp at h
    rw [if_neg h3] at h ⊢
    by_cases h4 : r.length < m + n + 4
    · rw [if_pos h4] at h; simp at h
    rw [if_neg h4] at h ⊢
    by_cases h5 : (r.drop (m + n)).take 4 ≠ four (crc ((r.drop m).take n))
    · rw [if_pos h5] at h; simp at h
    rw [if_neg h5]
    obtain ⟨p1, p2, p3, p4, p5⟩ := put_dec r n m (by rw [hd, Decidable.not_not.1 h2])
    have hc := c.toNat_lt
    have hlen : ((r.drop m).take n).length = n := by rw [List.length_take, List.length_drop]; omega
    have hsz : (ByteArray.mk ((r.drop m).take n).toArray).size = n := by rw [← list_size]; exact hlen
    refine ⟨⟨by dsimp only; omega, by dsimp only; omega, by dsimp only; rw [hsz]; omega⟩, by simp; omega, ?_⟩
    unfold secL
    dsimp only
    rw [hsz, p5, Int.toNat_natCast, ofNat_toNat8, ← Decidable.not_not.1 h5]
    have e1 : 1 + m + n + 4 = (m + (n + 4)) + 1 := by omega
    rw [e1, List.take_succ_cons, List.take_add, List.take_add, List.drop_drop]

theorem sec1_pos (l : List UInt8) (h : (sec1 l).1 = 0) : 0 < (sec1 l).2.2 := by
  obtain ⟨_, h2, h3⟩ := sec1_ok l h
  have h4 := congrArg List.length h3
  rw [secL_length, List.length_take] at h4
  omega

theorem secs_put (L : List Sec) : ∀ f, (∀ s ∈ L, okSec s) → L.length ≤ f → secsL f (bodyL L) = (0, L) := by
  induction L with
  | nil => intro f _ _; exact secsL_nil f
  | cons s r ih =>
    intro f h hf
    obtain ⟨g, rfl⟩ : ∃ g, f = g + 1 := ⟨f - 1, by simp at hf; omega⟩
    have h1 := sec1_put s (bodyL r) (h s (by simp))
    have hne : secL s ++ bodyL r ≠ [] := by simp [secL]
    show secsL (g + 1) (secL s ++ bodyL r) = _
    rw [secsL_go g _ hne (by rw [h1]), h1]
    dsimp only
    rw [List.drop_left, ih g (fun t ht => h t (by simp [ht])) (by simpa using hf)]
    rfl

theorem secs_ok (f : Nat) : ∀ l, (secsL f l).1 = 0 → l = bodyL (secsL f l).2 ∧ (∀ s ∈ (secsL f l).2, okSec s) ∧ (secsL f l).2.length ≤ f := by
  induction f with
  | zero =>
    intro l h
    by_cases hl : l = []
    · subst hl; rw [secsL_nil]; simp [bodyL]
    · rw [secsL_full l hl] at h; simp at h
  | succ f ih =>
    intro l h
    by_cases hl : l = []
    · subst hl; rw [secsL_nil]; simp [bodyL]
    by_cases he : (sec1 l).1 = 0
    · rw [secsL_go f l hl he] at h ⊢
      by_cases hq : (secsL f (l.drop (sec1 l).2.2)).1 = 0
      · obtain ⟨i1, i2, i3⟩ := ih _ hq
        obtain ⟨j1, j2, j3⟩ := sec1_ok l he
        rw [cont_ok hq]
        dsimp only
        refine ⟨?_, ?_, by simp; omega⟩
        · rw [bodyL_append, bodyL_one, j3, ← i1, List.take_append_drop]
        · intro s hs
          rcases List.mem_cons.1 hs with rfl | hs
          · exact j1
          · exact i2 s hs
      · rw [cont_bad hq] at h; exact absurd h hq
    · rw [secsL_bad f l hl he] at h; exact absurd h he

theorem pPut_ok (m : ByteArray) (v : Int) (L : List Sec) (h : (pPut m v L).2 = 0) : m.size = 4 ∧ 1 ≤ v ∧ v ≤ 255 ∧ L.length ≤ 8 ∧ (∀ s ∈ L, okSec s) ∧ (pPut m v L).1 = m.data.toList ++ UInt8.ofNat v.toNat :: bodyL L := by
  unfold pPut at h ⊢
  by_cases h1 : m.size ≠ 4
  · rw [if_pos h1] at h; simp at h
  rw [if_neg h1] at h ⊢
  by_cases h2 : v < 1 ∨ 255 < v
  · rw [if_pos h2] at h; simp at h
  rw [if_neg h2] at h ⊢
  by_cases h3 : 8 < L.length
  · rw [if_pos h3] at h; simp at h
  rw [if_neg h3] at h ⊢
  by_cases h4 : chk L ≠ 0
  · rw [if_pos h4] at h; exact absurd h h4
  rw [if_neg h4]
  exact ⟨Decidable.not_not.1 h1, by omega, by omega, by omega, (chk_ok L).1 (Decidable.not_not.1 h4), rfl⟩

theorem pPut_bad (m : ByteArray) (v : Int) (L : List Sec) (h : (pPut m v L).2 ≠ 0) : (pPut m v L).1 = [] := by
  unfold pPut at h ⊢
  repeat' split
  all_goals first | rfl | (exfalso; simp_all)

theorem pPut_of (m : ByteArray) (v : Int) (L : List Sec) (h1 : m.size = 4) (h2 : 1 ≤ v) (h3 : v ≤ 255) (h4 : L.length ≤ 8) (h5 : ∀ s ∈ L, okSec s) : pPut m v L = (m.data.toList ++ UInt8.ofNat v.toNat :: bodyL L, 0) := by
  unfold pPut
  rw [if_neg (by simpa using h1), if_neg (by omega), if_neg (by omega), if_neg (by simpa using (chk_ok L).2 h5)]

theorem pGet_front (m : List UInt8) (v : UInt8) (r : List UInt8) (hm : m.length = 4) (hv : v.toNat ≠ 0) (hr : (secsL 8 r).1 = 0) : pGet m (m ++ v :: r) = (0, v.toNat, (secsL 8 r).2) := by
  unfold pGet
  have t1 : (m ++ v :: r).take 4 = m := by rw [← hm, List.take_left]
  have t2 : (m ++ v :: r).drop 4 = v :: r := by rw [← hm, List.drop_left]
  rw [t1, t2, if_neg (by simp [hm])]
  dsimp only
  rw [if_neg hv, if_neg (by simpa using hr)]

/-- What is put is got as it was. -/
theorem back_math (m : ByteArray) (v : Int) (L : List Sec) (h : (pPut m v L).2 = 0) : pGet m.data.toList (pPut m v L).1 = (0, v.toNat, L) := by
  obtain ⟨h1, h2, h3, h4, h5, h6⟩ := pPut_ok m v L h
  have hs := secs_put L 8 h5 h4
  have hv : (UInt8.ofNat v.toNat).toNat = v.toNat := toNat_ofNat8 _ (by omega)
  rw [h6, pGet_front _ _ _ (by rw [list_size]; exact h1) (by omega) (by rw [hs]), hs, hv]

/-- What is got is put as it was. -/
theorem one_math (m : ByteArray) (b : List UInt8) (h : (pGet m.data.toList b).1 = 0) : pPut m ((pGet m.data.toList b).2.1 : Int) (pGet m.data.toList b).2.2 = (b, 0) := by
  unfold pGet at h ⊢
  by_cases h1 : m.data.toList.length ≠ 4 ∨ b.take 4 ≠ m.data.toList
  · rw [if_pos h1] at h; simp at h
  rw [if_neg h1] at h ⊢
  have hb : b = m.data.toList ++ b.drop 4 := by
    have : b.take 4 = m.data.toList := by simpa using fun e => h1 (.inr e)
    rw [← this, List.take_append_drop]
  have hm : m.size = 4 := by rw [← list_size]; simpa using fun e => h1 (.inl e)
  generalize b.drop 4 = t at *
  subst hb
  cases t with
  | nil => simp at h
  | cons v r =>
    dsimp only at h ⊢
    by_cases h2 : v.toNat = 0
    · rw [if_pos h2] at h; simp at h
    rw [if_neg h2] at h ⊢
    by_cases h3 : (secsL 8 r).1 ≠ 0
    · rw [if_pos h3] at h; exact absurd h h3
    rw [if_neg h3]
    obtain ⟨i1, i2, i3⟩ := secs_ok 8 r (Decidable.not_not.1 h3)
    have hv := v.toNat_lt
    rw [pPut_of m _ _ hm (by dsimp only; omega) (by dsimp only; omega) i3 i2, ← i1]
    simp

end Go.Proofs.Ytipljconbnaffaa
