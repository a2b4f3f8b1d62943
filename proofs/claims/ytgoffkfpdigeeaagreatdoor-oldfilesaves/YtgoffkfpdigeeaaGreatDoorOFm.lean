/- Which file of version 1 a scene has, and which scene a file is: as plain mathematics. -/
import Derived.Test.YtgoffkfpdigeeaaGreatDoorOGb
import Derived.Test.YtgoffkfpdigeeaaGreatDoorOPu
import Derived.Test.YtgoffkfpdigeeaaGreatDoorQD
namespace Go.Proofs.YtgoffkfpdigeeaaGreatDoor
open Go.RowKit Go.Maps Go.WideMaps Go.Sort

def oS (R : ByteArray) : List Sec := [(1, R)]
/-- A scene's payload, and its file. -/
def oC (P : List Nd) : ByteArray := ⟨(oR P).toArray⟩
def oF (P : List Nd) : ByteArray := ⟨(pPut mD 1 (oS (oC P))).1.toArray⟩
theorem oC_list (P : List Nd) : (oC P).data.toList = oR P := List.toList_toArray
theorem oF_list (P : List Nd) : (oF P).data.toList = (pPut mD 1 (oS (oC P))).1 := List.toList_toArray
/-- What Save tells. -/
def SoIs (X : List Nx) (r : Int) (l : Lm) (B : ByteArray) (e : Int) : Prop :=
  ∃ d n z, DepthIs X r d ∧ VoIs X r l d n z ∧ ((n ≠ 0 ∧ e = n ∧ B = ⟨#[]⟩) ∨ (n = 0 ∧ ((¬ FowIs X r ∧ e = 16 ∧ B = ⟨#[]⟩) ∨ (FowIs X r ∧ ((l.b < (oF (X.map Nx.nd)).size ∧ e = 19 ∧ B = ⟨#[]⟩) ∨ (¬ l.b < (oF (X.map Nx.nd)).size ∧ e = 0 ∧ B = oF (X.map Nx.nd)))))))
theorem SoIs.uniq {X : List Nx} {r : Int} {l : Lm} {B B' : ByteArray} {e e' : Int} (h : SoIs X r l B e) (h' : SoIs X r l B' e') : B' = B ∧ e' = e := by
  obtain ⟨d, n, z, h1, h2, h3⟩ := h
  obtain ⟨d', n', z', g1, g2, g3⟩ := h'
  have hd := h1.only g1
  subst hd
  obtain ⟨rfl, rfl⟩ := h2.uniq g2
  rcases h3 with ⟨a, rfl, rfl⟩ | ⟨a, ⟨b, rfl, rfl⟩ | ⟨b, ⟨c, rfl, rfl⟩ | ⟨c, rfl, rfl⟩⟩⟩
  · rcases g3 with ⟨_, rfl, rfl⟩ | ⟨q, _⟩
    · exact ⟨rfl, rfl⟩
    · exact absurd q a
  · rcases g3 with ⟨q, _⟩ | ⟨_, ⟨_, rfl, rfl⟩ | ⟨q, _⟩⟩
    · exact absurd a q
    · exact ⟨rfl, rfl⟩
    · exact absurd q b
  · rcases g3 with ⟨q, _⟩ | ⟨_, ⟨q, _⟩ | ⟨_, ⟨_, rfl, rfl⟩ | ⟨q, _⟩⟩⟩
    · exact absurd a q
    · exact absurd b q
    · exact ⟨rfl, rfl⟩
    · exact absurd c q
  · rcases g3 with ⟨q, _⟩ | ⟨_, ⟨q, _⟩ | ⟨_, ⟨q, _⟩ | ⟨_, rfl, rfl⟩⟩⟩
    · exact absurd a q
    · exact absurd b q
    · exact absurd q c
    · exact ⟨rfl, rfl⟩
theorem SoIs.same {X Y : List Nx} {r : Int} {l : Lm} {B : ByteArray} {e : Int} (h : Y.map Nx.nd = X.map Nx.nd) (hs : SoIs Y r l B e) : SoIs X r l B e := by
  obtain ⟨d, n, z, h1, h2, h3⟩ := hs
  rw [same_fw h, h] at h3
  exact ⟨d, n, z, same_depth h h1, same_vo h h2, h3⟩

/-- What a file's bytes are, up to the payload. -/
def opK (b : ByteArray) (l : Lm) : Int × ByteArray :=
  if okL l = false then (1, ⟨#[]⟩) else if l.b < b.size then (19, ⟨#[]⟩) else
  if (pGet mD.data.toList b.data.toList).1 ≠ 0 then ((pGet mD.data.toList b.data.toList).1, ⟨#[]⟩) else
  if (pGet mD.data.toList b.data.toList).2.1 ≠ 1 then (7, ⟨#[]⟩) else
  match (pGet mD.data.toList b.data.toList).2.2 with
  | [s] => if s.1 = 1 then (0, s.2) else (4, ⟨#[]⟩)
  | _ => (4, ⟨#[]⟩)
/-- What is told of a payload. -/
def PyIs (R : ByteArray) (l : Lm) (P : List Nd) (e : Int) : Prop :=
  ((oPay R l.n l.e l.x).2 ≠ 0 ∧ e = (oPay R l.n l.e l.x).2 ∧ P = []) ∨ ((oPay R l.n l.e l.x).2 = 0 ∧
    ∃ d n z, DepthIs (bare (oPay R l.n l.e l.x).1) 0 d ∧ CheckIs (bare (oPay R l.n l.e l.x).1) 0 n z ∧ ((n ≠ 0 ∧ e = n ∧ P = []) ∨ (n = 0 ∧ ((inL (meL (bare (oPay R l.n l.e l.x).1) d) l = false ∧ e = 19 ∧ P = []) ∨ (inL (meL (bare (oPay R l.n l.e l.x).1) d) l = true ∧ e = 0 ∧ P = (oPay R l.n l.e l.x).1)))))
/-- What Load tells. -/
def LoIs (b : ByteArray) (l : Lm) (P : List Nd) (e : Int) : Prop := ((opK b l).1 ≠ 0 ∧ e = (opK b l).1 ∧ P = []) ∨ ((opK b l).1 = 0 ∧ PyIs (opK b l).2 l P e)
theorem PyIs.uniq {R : ByteArray} {l : Lm} {P P' : List Nd} {e e' : Int} (h : PyIs R l P e) (h' : PyIs R l P' e') : P' = P ∧ e' = e := by
  rcases h with ⟨a, rfl, rfl⟩ | ⟨a, d, n, z, h1, h2, h3⟩
  · rcases h' with ⟨_, rfl, rfl⟩ | ⟨q, _⟩
    · exact ⟨rfl, rfl⟩
    · exact absurd q a
  · rcases h' with ⟨q, _⟩ | ⟨_, d', n', z', g1, g2, g3⟩
    · exact absurd a q
    · have hd := h1.only g1
      subst hd
      obtain ⟨rfl, rfl⟩ := h2.uniq g2
      rcases h3 with ⟨p, rfl, rfl⟩ | ⟨p, ⟨p1, rfl, rfl⟩ | ⟨p1, rfl, rfl⟩⟩
      · rcases g3 with ⟨_, rfl, rfl⟩ | ⟨q, _⟩
        · exact ⟨rfl, rfl⟩
        · exact absurd q p
      · rcases g3 with ⟨q, _⟩ | ⟨_, ⟨_, rfl, rfl⟩ | ⟨q, _⟩⟩
        · exact absurd p q
        · exact ⟨rfl, rfl⟩
        · rw [p1] at q; cases q
      · rcases g3 with ⟨q, _⟩ | ⟨_, ⟨q, _⟩ | ⟨_, rfl, rfl⟩⟩
        · exact absurd p q
        · rw [p1] at q; cases q
        · exact ⟨rfl, rfl⟩
theorem LoIs.uniq {b : ByteArray} {l : Lm} {P P' : List Nd} {e e' : Int} (h : LoIs b l P e) (h' : LoIs b l P' e') : P' = P ∧ e' = e := by
  rcases h with ⟨a, rfl, rfl⟩ | ⟨a, h⟩
  · rcases h' with ⟨_, rfl, rfl⟩ | ⟨q, _⟩
    · exact ⟨rfl, rfl⟩
    · exact absurd q a
  · rcases h' with ⟨q, _⟩ | ⟨_, h'⟩
    · exact absurd a q
    · exact h.uniq h'
section
variable (b : ByteArray) (l : Lm)
theorem opK_1 (h : okL l = false) : (opK b l).1 = 1 := by unfold opK; rw [if_pos h]
theorem opK_2 (h1 : okL l = true) (h : l.b < (b.size : Int)) : (opK b l).1 = 19 := by unfold opK; rw [if_neg (by simp [h1]), if_pos h]
theorem opK_3 (h1 : okL l = true) (h2 : ¬ l.b < (b.size : Int)) (h : (pGet mD.data.toList b.data.toList).1 ≠ 0) : (opK b l).1 = (pGet mD.data.toList b.data.toList).1 := by unfold opK; rw [if_neg (by simp [h1]), if_neg h2, if_pos h]
theorem opK_4 (h1 : okL l = true) (h2 : ¬ l.b < (b.size : Int)) (h3 : (pGet mD.data.toList b.data.toList).1 = 0) (h : (pGet mD.data.toList b.data.toList).2.1 ≠ 1) : (opK b l).1 = 7 := by unfold opK; rw [if_neg (by simp [h1]), if_neg h2, if_neg (by simp [h3]), if_pos h]
theorem opK_5 (h1 : okL l = true) (h2 : ¬ l.b < (b.size : Int)) (h3 : (pGet mD.data.toList b.data.toList).1 = 0) (h4 : (pGet mD.data.toList b.data.toList).2.1 = 1) (h : ¬ ∃ s, (pGet mD.data.toList b.data.toList).2.2 = [s] ∧ s.1 = 1) : (opK b l).1 = 4 := by
  unfold opK
  rw [if_neg (by simp [h1]), if_neg h2, if_neg (by simp [h3]), if_neg (by simp [h4])]
  split
  · rename_i s hs
    rw [if_neg (fun q => h ⟨s, hs, q⟩)]
  · rfl
theorem opK_6 (h1 : okL l = true) (h2 : ¬ l.b < (b.size : Int)) (h3 : (pGet mD.data.toList b.data.toList).1 = 0) (h4 : (pGet mD.data.toList b.data.toList).2.1 = 1) {R : ByteArray} (h : (pGet mD.data.toList b.data.toList).2.2 = [(1, R)]) : opK b l = (0, R) := by
  unfold opK
  rw [if_neg (by simp [h1]), if_neg h2, if_neg (by simp [h3]), if_neg (by simp [h4]), h]
  exact if_pos rfl
end
theorem opK_inv {b : ByteArray} {l : Lm} (h : (opK b l).1 = 0) : okL l = true ∧ ¬ l.b < (b.size : Int) ∧ pGet mD.data.toList b.data.toList = (0, 1, oS (opK b l).2) := by
  cases h0 : okL l with
  | false => unfold opK at h; rw [if_pos h0] at h; cases h
  | true =>
  obtain ⟨E, V, S, hG⟩ : ∃ E V S, pGet mD.data.toList b.data.toList = (E, V, S) := ⟨_, _, _, rfl⟩
  unfold opK at h ⊢
  rw [if_neg (by simp [h0]), hG] at h ⊢
  dsimp only at h ⊢
  split at h
  · cases h
  rename_i h1
  rw [if_neg h1]
  split at h
  · rename_i q; exact absurd (by simpa using h) q
  rename_i h2
  rw [if_neg h2]
  split at h
  · cases h
  rename_i h3
  rw [if_neg h3]
  simp only [ne_eq, Decidable.not_not] at h2 h3
  match S, h with
  | [s], h =>
    dsimp only at h ⊢
    split at h
    · rename_i h4
      rw [if_pos h4]
      obtain ⟨s1, s2⟩ := s
      subst h4
      exact ⟨rfl, h1, by rw [h2, h3]; rfl⟩
    · cases h
  | [], h => cases h
  | _ :: _ :: _, h => cases h
theorem ofile_of {b : ByteArray} {l : Lm} (h : (opK b l).1 = 0) : b.data.toList = (pPut mD 1 (oS (opK b l).2)).1 ∧ (opK b l).2.size ≤ b.size := by
  obtain ⟨_, _, h3⟩ := opK_inv h
  have h4 := one_math mD b.data.toList (by rw [h3])
  rw [h3] at h4
  dsimp only at h4
  have h5 : pPut mD 1 (oS (opK b l).2) = (b.data.toList, 0) := h4
  have h6 := (pPut_sizes mD 1 (oS (opK b l).2) (by rw [h5])).2
  rw [h5] at h6
  dsimp only at h6
  rw [list_size] at h6
  exact ⟨by rw [h5], h6 (1, _) (by simp [oS])⟩
theorem oS_put {R : ByteArray} (hR : R.size ≤ 16777216) : (pPut mD 1 (oS R)).2 = 0 := by
  rw [pPut_of mD 1 (oS R) rfl (by decide) (by decide) (by simp [oS]) (fun s hs => by
    simp only [oS, List.mem_cons, List.not_mem_nil, or_false] at hs
    subst hs
    exact ⟨by show (1 : Int) ≤ 1; decide, by show (1 : Int) ≤ 255; decide, hR⟩)]
theorem opK_put {R : ByteArray} {l : Lm} (ho : okL l = true) (hR : R.size ≤ 16777216) (hb : ¬ l.b < ((⟨(pPut mD 1 (oS R)).1.toArray⟩ : ByteArray).size : Int)) : opK ⟨(pPut mD 1 (oS R)).1.toArray⟩ l = (0, R) := by
  have h1 := back_math mD 1 (oS R) (oS_put hR)
  have h2 : (⟨(pPut mD 1 (oS R)).1.toArray⟩ : ByteArray).data.toList = (pPut mD 1 (oS R)).1 := List.toList_toArray
  refine opK_6 _ _ ho hb (by rw [h2, h1]) (by rw [h2, h1]; rfl) (by rw [h2, h1]; rfl)

theorem bare_at (P : List Nd) (i : Nat) : (bare P).getD i noNx = if h : i < P.length then ⟨P[i], none, 0, none, 0, none, 0⟩ else noNx := by
  unfold bare
  by_cases h : i < P.length
  · rw [dif_pos h, List.getD_eq_getElem?_getD, List.getElem?_map, List.getElem?_eq_getElem h]
    rfl
  · rw [dif_neg h, List.getD_eq_getElem?_getD, List.getElem?_map, List.getElem?_eq_none (by omega)]
    rfl
theorem bare_len (P : List Nd) : (bare P).length = P.length := by unfold bare; rw [List.length_map]
theorem eN_edg (X : List Nx) : eN (X.map Nx.nd) = edg X := by simp [eN, edg, Function.comp_def]
theorem mem_sum6 : ∀ (L : List ByteArray) (s : ByteArray), s ∈ L → s.size ≤ sum6 L
  | x :: L, s, h => by
    have e : sum6 (x :: L) = x.size + sum6 L := by simp [sum6]
    rcases List.mem_cons.1 h with rfl | h
    · omega
    · have := mem_sum6 L s h
      omega
theorem txt_le {X : List Nx} {i : Nat} (hi : i < X.length) {s : ByteArray} (hs : s ∈ (X.getD i noNx).nd.texts) : s.size ≤ txb X :=
  mem_sum6 _ s ((itn_mem _ _).2 ((allT_mem X s).2 ⟨i, hi, hs⟩))
theorem nd_at {X : List Nx} {i : Nat} {N : Nd} (h : (X.map Nx.nd)[i]? = some N) : i < X.length ∧ N = (X.getD i noNx).nd := by
  rw [List.getElem?_map] at h
  by_cases hi : i < X.length
  · rw [List.getElem?_eq_getElem hi] at h
    refine ⟨hi, ?_⟩
    rw [List.getD_eq_getElem?_getD, List.getElem?_eq_getElem hi]
    simpa using h.symm
  · rw [List.getElem?_eq_none (by omega)] at h
    cases h
/-- A scene that is right in version 1, forward, and within limits may be put. -/
theorem okp_of {X : List Nx} {l : Lm} {d : Nat} (hS : Small X) (hF : FnX X) (hW : tyEo X = 0) (hf : FowIs X 0) (_ho : okL l = true) (hi : inL (meL X d) l = true) : OkP (X.map Nx.nd) l.n l.e l.x := by
  obtain ⟨_, i1, i2, i3, i4⟩ := of_decide_eq_true (show decide (inP (meL X d) l) = true from hi)
  have j1 : (X.length : Int) ≤ l.n := i1
  have j2 : ((edg X : Nat) : Int) ≤ l.e := i2
  have j4 : ((txb X : Nat) : Int) ≤ l.x := i4
  have hn := hS.1
  have hlen : (X.map Nx.nd).length = X.length := List.length_map _
  have hp := isPb_iff.1 hf.1.1
  refine ⟨fun i N hN => ?_, fun q => ?_, by omega, by omega, by rw [eN_edg]; exact j2⟩
  · obtain ⟨hi, rfl⟩ := nd_at hN
    have hb := big_no (hS.2 i hi)
    refine ⟨(tyEo_iff X).1 hW i hi, hF i hi, fun z hz => ⟨hf.2.2 i hi z hz, ?_⟩, by have := hb.2.2.1; omega, fun s hs => ?_⟩
    · rw [hlen]
      have := kid_place hf.1.2.1 hi hz
      omega
    · have h1 := txt_le hi hs
      have h2 := hb.2.2.2 s hs
      omega
  · have := congrArg List.length q
    rw [hlen] at this
    simp at this
    subst this
    simp at hp
/-- A payload that is read: what its nodes are. -/
theorem pay_who {R : ByteArray} {l : Lm} {X : List Nx} (he : 0 ≤ l.e) (h : oPay R l.n l.e l.x = (X.map Nx.nd, 0)) (hR : RightIs X 0) : tyEo X = 0 ∧ FowIs X 0 ∧ FnX X := by
  obtain ⟨_, h2⟩ := oPay_bytes he h
  have hN : ∀ i, i < X.length → OkN (X.getD i noNx).nd i (X.map Nx.nd).length (max l.x 0) := fun i hi => h2.nod i _ (by rw [List.getElem?_map, List.getD_eq_getElem?_getD, List.getElem?_eq_getElem hi]; rfl)
  exact ⟨(tyEo_iff X).2 fun i hi => (hN i hi).ty, ⟨hR, rfl, fun i hi z hz => ((hN i hi).kids z hz).1⟩, fun i hi => (hN i hi).fn⟩

/-- What is loaded is valid, forward, and saved as it was. -/
theorem one_ofile {b : ByteArray} {l : Lm} {X : List Nx} (h : LoIs b l (X.map Nx.nd) 0) : SoIs X 0 l b 0 ∧ okL l = true ∧ tyEo X = 0 ∧ FowIs X 0 ∧ FnX X ∧ ∃ d, DepthIs X 0 d ∧ VoIs X 0 l d 0 0 := by
  rcases h with ⟨h1, h2, _⟩ | ⟨h1, hP⟩
  · exact absurd h2.symm h1
  obtain ⟨k1, k2, _⟩ := opK_inv h1
  obtain ⟨f1, _⟩ := ofile_of h1
  generalize (opK b l).2 = R at *
  rcases hP with ⟨h1, h2, _⟩ | ⟨h1, d, n, z, hd, hc, h3⟩
  · exact absurd h2.symm h1
  rcases h3 with ⟨p, q, _⟩ | ⟨p, ⟨_, q, _⟩ | ⟨p1, _, p2⟩⟩
  · exact absurd q.symm p
  · cases q
  · subst p
    have hQ : oPay R l.n l.e l.x = (X.map Nx.nd, 0) := by rw [p2, ← h1]
    rw [← p2] at hd hc p1
    have hs : (bare (X.map Nx.nd)).map Nx.nd = X.map Nx.nd := bare_nd _
    have hR : RightIs X 0 := (same_right hs).1 (hc.right.1 rfl)
    have hle : 0 ≤ l.e := by
      have := of_decide_eq_true (show decide (okP l) = true from k1)
      exact this.2.2.1.1
    obtain ⟨w1, w2, w3⟩ := pay_who hle hQ hR
    have hd' := same_depth hs hd
    rw [same_meL hs] at p1
    have hv : VoIs X 0 l d 0 0 := vo_good k1 ⟨w1, hR⟩ p1
    have hF : oF (X.map Nx.nd) = b := by
      refine ba_eq ?_
      rw [oF_list, f1]
      have hC : oC (X.map Nx.nd) = R := ba_eq (by rw [oC_list]; exact (oPay_bytes hle hQ).1.symm)
      rw [hC]
    exact ⟨⟨d, 0, 0, hd', hv, .inr ⟨rfl, .inr ⟨w2, .inr ⟨by rw [hF]; exact k2, rfl, hF.symm⟩⟩⟩⟩, k1, w1, w2, w3, d, hd', hv⟩
/-- What is saved is loaded. -/
theorem back_ofile {X : List Nx} {l : Lm} {d : Nat} (hS : Small X) (hF : FnX X) (hW : tyEo X = 0) (hf : FowIs X 0) (hd : DepthIs X 0 d) (ho : okL l = true) (hi : inL (meL X d) l = true) (hz : (oC (X.map Nx.nd)).size ≤ 16777216) (hb : ¬ l.b < ((oF (X.map Nx.nd)).size : Int)) : LoIs (oF (X.map Nx.nd)) l (X.map Nx.nd) 0 := by
  have hk : opK (oF (X.map Nx.nd)) l = (0, oC (X.map Nx.nd)) := opK_put ho hz hb
  have hp := oPay_put (oC_list (X.map Nx.nd)) (okp_of hS hF hW hf ho hi)
  have hs : (bare (X.map Nx.nd)).map Nx.nd = X.map Nx.nd := bare_nd _
  refine .inr ⟨by rw [hk], ?_⟩
  rw [hk]
  refine .inr ⟨by rw [hp], d, 0, 0, ?_, ?_, .inr ⟨rfl, .inr ⟨?_, rfl, by rw [hp]⟩⟩⟩
  · rw [hp]
    exact same_depth hs.symm hd
  · rw [hp]
    exact check_right ((same_right hs).2 hf.1)
  · rw [hp]
    rw [same_meL hs]
    exact hi
end Go.Proofs.YtgoffkfpdigeeaaGreatDoor
