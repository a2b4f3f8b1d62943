/- A file of version 1 beyond limits: as plain mathematics. -/
import Derived.Test.YtgoffkfpdigeeaaGreatDoorOFm
namespace Go.Proofs.YtgoffkfpdigeeaaGreatDoor
open Go.RowKit Go.Maps Go.WideMaps Go.Sort

theorem uint_less {b : ByteArray} {k n : Nat} {r : List UInt8} {m : Int} (h : b.data.toList.drop k = put n ++ r) (hn : n ≤ 16777216) (hm : m < (n : Int)) : pUint b k 0 m = (0, k, 19) := by
  unfold pUint
  rw [if_neg (by simp), num_put h (by omega)]
  dsimp only
  rw [if_neg (by simp), if_pos (.inl hm)]
theorem text_less {b : ByteArray} {k n : Nat} {r : List UInt8} {m : Int} (h : b.data.toList.drop k = put n ++ r) (hn : n ≤ 16777216) (h0 : 0 ≤ m) (hm : m < (n : Int)) : pText b k 0 m = (⟨#[]⟩, k, 19) := by
  unfold pText
  rw [if_neg (by simp), num_put h (by omega)]
  dsimp only
  rw [if_neg (by simp), if_pos (.inl (by omega))]
theorem ok8_empty : ok8 ⟨#[]⟩ = true := by decide +kernel
theorem oTs_less (b : ByteArray) (tx : Int) (htx : 0 ≤ tx) : ∀ (T : List ByteArray) (k : Nat) (r : List UInt8), k ≤ b.size → b.data.toList.drop k = oT T ++ r → (∀ s ∈ T, ok8 s = true ∧ s.size ≤ 16777216) → oTs b tx T.length k 0 = (T, k + (oT T).length, 0) ∨ (oTs b tx T.length k 0).2.2 = 19
  | [], k, r, _, _, _ => .inl rfl
  | x :: T, k, r, hk, h, hi => by
    have e1 : oT (x :: T) = put x.size ++ (x.data.toList ++ oT T) := by simp [oT]
    have h' := h
    rw [e1, List.append_assoc, List.append_assoc] at h'
    obtain ⟨h1, h2⟩ := hi x (by simp)
    by_cases hx : (x.size : Int) ≤ tx
    · have hp := text_put tx h' hk h2 hx
      have hl : (put x.size ++ x.data.toList).length = (put x.size).length + x.size := by rw [List.length_append, list_size]
      have hk2 := (pText_at b k 0 tx hk).2
      rw [hp] at hk2
      have ih := oTs_less b tx htx T (k + ((put x.size).length + x.size)) r hk2 (drop_more (x := put x.size ++ x.data.toList) (by rw [h', List.append_assoc]) hl) (fun s q => hi s (by simp [q]))
      rw [List.length_cons, oTs_next b tx T.length k hp, h1, if_pos rfl]
      rcases ih with ih | ih
      · left
        rw [ih, e1]
        simp only [List.length_append, list_size]
        rw [show k + ((put x.size).length + x.size) + (oT T).length = k + ((put x.size).length + (x.size + (oT T).length)) by omega]
      · right
        exact ih
    · right
      rw [List.length_cons, oTs_next b tx T.length k (text_less h' h2 htx (by omega)), ok8_empty, if_pos rfl, oTs_stop b tx _ k (by decide)]
theorem fl_19 (d : Int) : fl 19 d = 19 := by unfold fl; rw [if_neg (by decide)]
theorem oNd_less (b : ByteArray) (N : Nd) (p c tx0 tx edges : Int) (k : Nat) (r : List UInt8) (hk : k ≤ b.size) (h : b.data.toList.drop k = oB N ++ r) (hN : OkN N p c tx0) (hp : 0 ≤ p) (hc : c ≤ 16777216) (htx : 0 ≤ tx) : (oNd b p c tx edges k 0 = (N, k + (oB N).length, 0) ∧ (N.kids.length : Int) ≤ edges) ∨ (oNd b p c tx edges k 0).2.2 = 19 := by
  obtain ⟨h1, h2, h3, h4⟩ := tyNo_zero hN.ty
  have hkd := oldSp_kind h1
  have e1 : oB N = put N.kind.toNat ++ (rI N.ints ++ (oT N.texts ++ (put N.kids.length ++ oK N.kids))) := by
    unfold oB
    simp only [List.append_assoc]
  rw [e1] at h ⊢
  simp only [List.append_assoc] at h
  have u1 := uint_put 16777216 h (by omega) (by omega)
  have a1 := (pUint_at b k 0 16777216 hk).2
  rw [u1] at a1
  have hkn : (N.kind.toNat : Int) = N.kind := by omega
  rw [hkn] at u1
  have d1 := drop_more h rfl
  unfold fitI at h2
  rw [Bool.and_eq_true, decide_eq_true_eq, List.all_eq_true] at h2
  have u2 := gIs_put b (oldSp N.kind).ints N.ints _ _ d1 h2.1 (fun i q => h2.2 i (by simpa using q)) hN.fn
  have a2 := (gIs_at b (oldSp N.kind).ints _ 0 a1).2
  rw [u2] at a2
  have d2 := drop_more d1 rfl
  unfold fitT at h3
  rw [Bool.and_eq_true, decide_eq_true_eq, List.all_eq_true] at h3
  have u3 := oTs_less b tx htx N.texts _ _ a2 d2 (fun s q => ⟨h3.2 s q, (hN.txt s q).1⟩)
  have d3 := drop_more d2 rfl
  have ht : (oldSp N.kind).texts.toNat = N.texts.length := by omega
  unfold fitK at h4
  rw [Bool.and_eq_true, Bool.or_eq_true, decide_eq_true_eq, decide_eq_true_eq, decide_eq_true_eq] at h4
  have stop : ∀ (B : List ByteArray) (k5 : Nat) (e5 : Int), oTs b tx (oldSp N.kind).texts.toNat (k + (put N.kind.toNat).length + (rI N.ints).length) 0 = (B, k5, e5) → (∃ k6, pUint b k5 e5 edges = (0, k6, 19)) → (oNd b p c tx edges k 0).2.2 = 19 := fun B k5 e5 hB ⟨k6, hM⟩ => by
    have h7 : (if decide ((0 : Int) < (oldSp N.kind).least ∨ (0 ≤ (oldSp N.kind).most ∧ (oldSp N.kind).most < 0)) = true then fl 19 12 else 19) = 19 := by
      rw [fl_19]
      split <;> rfl
    have u6 := oRest_eq (p := p) (c := c) (S := oldSp N.kind) (edges := edges) u2 hB hM h7 (oKs_stop b p c _ k6 (by decide))
    unfold oNd
    rw [u1]
    dsimp only
    rw [h1, if_pos rfl, u6]
  rcases u3 with u3 | u3
  · by_cases he : (N.kids.length : Int) ≤ edges
    · left
      have u4 := uint_put edges d3 hN.few he
      have d4 := drop_more d3 rfl
      have u5 := oKs_put b p c hc hp N.kids _ _ d4 hN.kids
      have u6 := oRest_eq (S := oldSp N.kind) (edges := edges) u2 (by rw [ht]; exact u3) u4 (if_neg (by rw [decide_eq_false (by omega)]; decide)) u5
      refine ⟨?_, he⟩
      unfold oNd
      rw [u1]
      dsimp only
      rw [h1, if_pos rfl, u6]
      simp only [List.length_append, ← Nat.add_assoc]
    · right
      exact stop _ _ _ (by rw [ht]; exact u3) ⟨_, uint_less d3 hN.few (by omega)⟩
  · right
    obtain ⟨B, k5, e5, hB⟩ : ∃ B k5 e5, oTs b tx N.texts.length (k + (put N.kind.toNat).length + (rI N.ints).length) 0 = (B, k5, e5) := ⟨_, _, _, rfl⟩
    rw [hB] at u3
    dsimp only at u3
    subst u3
    refine stop B k5 19 (by rw [ht]; exact hB) ⟨k5, ?_⟩
    unfold pUint
    rw [if_pos (by decide)]
theorem oNds_less (b : ByteArray) (c tx0 tx : Int) (hc : c ≤ 16777216) (htx : 0 ≤ tx) : ∀ (P : List Nd) (p ed : Int) (k : Nat) (r : List UInt8), k ≤ b.size → 0 ≤ p → b.data.toList.drop k = P.flatMap oB ++ r → (∀ (i : Nat) (N : Nd), P[i]? = some N → OkN N (p + i) c tx0) → oNds b c tx P.length p ed k = (P, k + (P.flatMap oB).length, 0) ∨ (oNds b c tx P.length p ed k).2.2 = 19
  | [], p, ed, k, r, _, _, _, _ => .inl rfl
  | N :: P, p, ed, k, r, hk, hp, h, hi => by
    have e1 : (N :: P).flatMap oB = oB N ++ P.flatMap oB := by simp
    rw [e1, List.append_assoc] at h
    have hN : OkN N p c tx0 := by have := hi 0 N rfl; simpa using this
    rcases oNd_less b N p c tx0 tx ed k _ hk h hN hp hc htx with ⟨hp1, he⟩ | hp1
    · have hk2 := (oNd_at b p c tx ed k 0 hk).2
      rw [hp1] at hk2
      have ih := oNds_less b c tx0 tx hc htx P (p + 1) (ed - N.kids.length) (k + (oB N).length) r hk2 (by omega) (drop_more h rfl) (fun i M hM => by
        have := hi (i + 1) M (by simpa using hM)
        rwa [show p + ((i + 1 : Nat) : Int) = p + 1 + i by omega] at this)
      rw [List.length_cons]; unfold oNds
      rw [hp1]
      dsimp only
      rw [if_neg (by simp)]
      rcases ih with ih | ih
      · left
        rw [ih, e1, List.length_append, Nat.add_assoc]
      · right
        exact ih
    · right
      rw [List.length_cons]; unfold oNds
      rw [if_pos (by rw [hp1]; decide)]
      exact hp1
theorem oPay_less {b : ByteArray} {P : List Nd} {n0 ed0 tx0 n ed tx : Int} (hb : b.data.toList = oR P) (h : OkP P n0 ed0 tx0) (htx : 0 ≤ tx) : oPay b n ed tx = (P, 0) ∨ (oPay b n ed tx).2 = 19 := by
  have h0 : b.data.toList.drop 0 = put P.length ++ (P.flatMap oB ++ []) := by rw [List.drop_zero, hb, List.append_nil]; rfl
  by_cases hn : (P.length : Int) ≤ n
  · have u1 := uint_put n h0 h.few hn
    have a1 := (pUint_at b 0 0 n (Nat.zero_le _)).2
    rw [u1] at a1
    have d1 := drop_more h0 rfl
    have u2 := oNds_less b P.length tx0 tx (by have := h.few; omega) htx P 0 ed _ [] a1 (by omega) d1 (fun i N hN => by have := h.nod i N hN; rwa [Int.zero_add])
    have hl : b.size = (put P.length).length + (P.flatMap oB).length := by rw [← list_size, hb]; unfold oR; rw [List.length_append]
    have hp : P.length ≠ 0 := fun q => h.ne (List.eq_nil_of_length_eq_zero q)
    unfold oPay
    rw [u1]
    dsimp only
    rw [if_neg (by simp), if_neg (by omega), Int.toNat_natCast]
    rcases u2 with u2 | u2
    · left
      rw [u2]
      dsimp only
      rw [if_neg (by simp), if_neg (by omega)]
    · right
      rw [if_pos (by rw [u2]; decide)]
      exact u2
  · right
    unfold oPay
    rw [uint_less h0 h.few (by omega)]
    rfl
/-- Beyond any limit the file is told to be so. -/
theorem less_ofile {X : List Nx} {l l0 : Lm} {d : Nat} (hS : Small X) (hF : FnX X) (hW : tyEo X = 0) (hf : FowIs X 0) (hd : DepthIs X 0 d) (h0 : okL l0 = true) (hi0 : inL (meL X d) l0 = true) (ho : okL l = true) (hz : (oC (X.map Nx.nd)).size ≤ 16777216) (hno : l.b < ((oF (X.map Nx.nd)).size : Int) ∨ inL (meL X d) l = false) : LoIs (oF (X.map Nx.nd)) l [] 19 := by
  by_cases hb : l.b < ((oF (X.map Nx.nd)).size : Int)
  · have := opK_2 _ _ ho hb
    exact .inl ⟨by rw [this]; decide, this.symm, rfl⟩
  have hi := hno.resolve_left hb
  have hk : opK (oF (X.map Nx.nd)) l = (0, oC (X.map Nx.nd)) := opK_put ho hz hb
  have htx : 0 ≤ l.x := (of_decide_eq_true (show decide (okP l) = true from ho)).2.2.2.2.1
  refine .inr ⟨by rw [hk], ?_⟩
  rw [hk]
  rcases oPay_less (n := l.n) (ed := l.e) (oC_list (X.map Nx.nd)) (okp_of hS hF hW hf h0 hi0) htx with hp | hp
  · have hs : (bare (X.map Nx.nd)).map Nx.nd = X.map Nx.nd := bare_nd _
    refine .inr ⟨by rw [hp], d, 0, 0, ?_, ?_, .inr ⟨rfl, .inl ⟨?_, rfl, rfl⟩⟩⟩
    · rw [hp]
      exact same_depth hs.symm hd
    · rw [hp]
      exact check_right ((same_right hs).2 hf.1)
    · rw [hp]
      rw [same_meL hs]
      exact hi
  · exact .inl ⟨by rw [hp]; decide, hp.symm, rfl⟩
end Go.Proofs.YtgoffkfpdigeeaaGreatDoor
