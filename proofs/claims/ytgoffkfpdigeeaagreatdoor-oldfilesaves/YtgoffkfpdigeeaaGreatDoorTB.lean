/- The program's table of texts, in memory; and the contracts of its small calls: New, Len, Bytes, At, add, Intern (layer 6's text over layer 9's lists). -/
import Derived.Test.YtgoffkfpdigeeaaGreatDoorLKs
import Derived.Test.YtgoffkfpdigeeaaGreatDoorGD
import Derived.Test.YtgoffkfpdigeeaaGreatDoorVB
import Derived.Maps.OwnSet
import Derived.Maps.OwnOps
import Derived.Maps.Views
import Derived.StringKeys
namespace Go.Proofs.YtgoffkfpdigeeaaGreatDoor
open Go.RowKit Go.Maps Go.WideMaps

theorem TextAt.fr {S : Nat → Prop} {w w' : World} {b o : Nat} {L : List ByteArray} (h : TextAt w b o L) (k : Fr S w w') (hb : ¬ S b) : TextAt w' b o L := fun i hi => by
  obtain ⟨h1, h2⟩ := h i hi
  exact ⟨Nat.lt_of_lt_of_le h1 k.size, (World.cell?_of_block (k.block b h1 hb)).trans h2⟩
theorem At3.fr {S : Nat → Prop} {T : TypeId} {w w' : World} {g : Nat} {x y z : Value} (h : At3 T w g x y z) (k : Fr S w w') (hb : ¬ S g) : At3 T w' g x y z := by
  unfold At3
  rw [k.block g h.lt hb]
  exact h

theorem zeroI6 (w : World) : (zeroValue 3).run Tryz.prog w = .ok (.int .i64 0) w := by kernel_rfl

def iE (n : Int) : DataW Unit := .lit (.int .i64 n)
/-- The numbers of texts, as the map has them. -/
def NumsIs (D : DataW Unit) (L : List ByteArray) : Prop :=
  IsMap D ∧ ∀ s : ByteArray, Maps.has D (kS s) = decide (idx6 s L < L.length) ∧ (idx6 s L < L.length → D.atKey (kS s) (iE 0) = iE (idx6 s L : Nat))
theorem NumsIs.none : NumsIs (.map []) [] := ⟨isMap_empty, fun s => ⟨rfl, fun h => by simp at h⟩⟩
theorem idx6_snoc (L : List ByteArray) (s t : ByteArray) (h : s ≠ t) : idx6 t (L ++ [s]) = if idx6 t L < L.length then idx6 t L else L.length + 1 := by
  by_cases e : idx6 t L < L.length
  · rw [if_pos e, idx6_append t L [s] e]
  · rw [if_neg e]
    have hn : ∀ j (hj : j < (L ++ [s]).length), (L ++ [s])[j] ≠ t := by
      intro j hj q
      have hm : t ∈ L ++ [s] := q ▸ List.getElem_mem hj
      rcases List.mem_append.1 hm with hm | hm
      · exact e ((idx6_mem t L).2 hm)
      · simp at hm
        exact h hm.symm
    rw [idx6_no t _ hn]
    simp
theorem NumsIs.snoc {D : DataW Unit} {L : List ByteArray} (h : NumsIs D L) (s : ByteArray) (hs : ¬ idx6 s L < L.length) : NumsIs (D.put (kS s) (iE (L.length : Nat))) (L ++ [s]) := by
  obtain ⟨hm, h⟩ := h
  refine ⟨hm.put _ _, fun t => ?_⟩
  by_cases e : s = t
  · subst e
    have hi : idx6 s (L ++ [s]) = L.length := by
      have := (pIntern_idx L s).2
      rw [show pIntern L s = L ++ [s] from if_neg hs] at this
      have hle := idx6_le s L
      omega
    refine ⟨?_, fun _ => ?_⟩
    · rw [has_put_same hm (kS_is s)]
      simp [hi]
    · rw [atKey_put_same hm (kS_is s), hi]
  · have hi := idx6_snoc L s t e
    obtain ⟨h1, h2⟩ := h t
    have hle := idx6_le t L
    rw [has_put_other (kS_ne (fun q => e q.symm)), h1]
    by_cases q : idx6 t L < L.length
    · rw [if_pos q] at hi
      refine ⟨by rw [hi, decide_eq_true q, decide_eq_true (by simp; omega)], fun _ => ?_⟩
      rw [atKey_put_other (kS_ne (fun q => e q.symm)), h2 q, hi]
    · rw [if_neg q] at hi
      refine ⟨by rw [hi, decide_eq_false q, decide_eq_false (by simp)], fun r => ?_⟩
      rw [hi] at r
      simp at r

/-- The table in block g: its list, its map in block gm, how many bytes; all in blocks from B on, each its own. -/
structure Tb (w : World) (B g gm : Nat) (v : Value) (L : List ByteArray) : Prop where
  cells : At3 182 w g v (.map (some gm)) (.int .i64 (sum6 L : Nat))
  own : w.ownsRow B 9 1 v L.length (tV L)
  map : ∃ D, w.ownsMap Tryz.prog 9 (plainElem Tryz.prog 3) gm L.length D ∧ NumsIs D L
  baseG : B ≤ g
  baseM : B ≤ gm
  gm_ne : gm ≠ g
  row_g : v.ownBlock ≠ some g
  row_m : v.ownBlock ≠ some gm

/-- The table's own blocks. -/
def TbS (g gm : Nat) (v : Value) (k : Nat) : Prop := k = g ∨ k = gm ∨ v.ownBlock = some k

theorem Tb.ge {w : World} {B g gm : Nat} {v : Value} {L : List ByteArray} (h : Tb w B g gm v L) : ∀ k, TbS g gm v k → B ≤ k := by
  intro k hk
  rcases hk with rfl | rfl | hk
  · exact h.baseG
  · exact h.baseM
  · exact (h.own.lt k hk).1
theorem Tb.lt {w : World} {B g gm : Nat} {v : Value} {L : List ByteArray} (h : Tb w B g gm v L) : ∀ k, TbS g gm v k → k < w.heap.size := by
  intro k hk
  rcases hk with rfl | rfl | hk
  · exact h.cells.lt
  · obtain ⟨D, h1, _⟩ := h.map; exact h1.lt
  · exact (h.own.lt k hk).2
theorem Tb.fr {S : Nat → Prop} {w w' : World} {B g gm : Nat} {v : Value} {L : List ByteArray} (h : Tb w B g gm v L) (k : Fr S w w') (hs : ∀ i, TbS g gm v i → ¬ S i) : Tb w' B g gm v L := by
  obtain ⟨D, h1, h2⟩ := h.map
  exact ⟨h.cells.fr k (hs g (.inl rfl)), own_fr h.own k (fun r hr => hs r (.inr (.inr hr))), ⟨D, map_fr h1 k (hs gm (.inr (.inl rfl))), h2⟩, h.baseG, h.baseM, h.gm_ne, h.row_g, h.row_m⟩
theorem Tb.below {w w' : World} {B g gm : Nat} {v : Value} {L : List ByteArray} (h : Tb w B g gm v L) (k : Below w.heap.size w w') : Tb w' B g gm v L := h.fr (Fr.of_below (S := fun _ => False) k) (fun _ _ q => q)
theorem Tb.drewN {w : World} {B g gm : Nat} {v : Value} {L : List ByteArray} (h : Tb w B g gm v L) (n : Nat) : Tb (w.drewN n) B g gm v L := ⟨h.cells, h.own, h.map, h.baseG, h.baseM, h.gm_ne, h.row_g, h.row_m⟩
theorem Tb.mono {w : World} {B C g gm : Nat} {v : Value} {L : List ByteArray} (h : Tb w B g gm v L) (hc : C ≤ B) : Tb w C g gm v L := by
  refine ⟨h.cells, ⟨h.own.1, ?_⟩, h.map, Nat.le_trans hc h.baseG, Nat.le_trans hc h.baseM, h.gm_ne, h.row_g, h.row_m⟩
  rcases h.own.2 with hv | ⟨g, cap, cur, hv, h1, r⟩
  · exact .inl hv
  · exact .inr ⟨g, cap, cur, hv, Nat.le_trans hc h1, r⟩

set_option maxRecDepth 10000 in
set_option maxHeartbeats 400000 in
theorem tnew_any (w : World) :
    Calls Tryz.prog 130 #[] w fun e w' => e = .returned (.pointer (some ⟨w.heap.size + 1, 0, none⟩)) ∧ Tb w' w.heap.size (w.heap.size + 1) w.heap.size (.slice none 0 0) [] ∧ Below w.heap.size w w' := by
  have hmm := @run_makeMap Tryz.prog
  go_enter Tryz.func130, Tryz.ntmps130
  go_wp2
  go_ret
  have hm := World.ownsMap_made w Tryz.prog 9 (plainElem (H := Unit) Tryz.prog 3)
  have ha := At3.new (w.alloc (.map #[] 0)) 182 (.slice none 0 0) (.map (some w.heap.size)) (.int .i64 0)
  rw [show (w.alloc (.map #[] 0)).heap.size = w.heap.size + 1 by simp] at ha
  refine ⟨rfl, ⟨ha, ⟨rfl, .inl ⟨rfl, rfl⟩⟩, ⟨_, hm.alloc _, NumsIs.none⟩, by omega, Nat.le_refl _, by omega, by simp [Value.ownBlock], by simp [Value.ownBlock]⟩, ((Below.refl _ _).alloc (Nat.le_refl _) _).alloc (by simp) _⟩

set_option maxRecDepth 10000 in
set_option maxHeartbeats 400000 in
theorem tlen_any {w : World} {B g gm : Nat} {v : Value} {L : List ByteArray} (h : Tb w B g gm v L) :
    Calls Tryz.prog 131 #[.pointer (some ⟨g, 0, none⟩)] w fun e w' => e = .returned (.int .i64 (L.length : Nat)) ∧ w' = w := by
  obtain ⟨ao, cap, rfl⟩ := own_shape6 h.own
  have c0 := h.cells.c0
  go_enter Tryz.func131, Tryz.ntmps131
  go_wp2
  go_ret
  exact ⟨rfl, rfl⟩

set_option maxRecDepth 10000 in
set_option maxHeartbeats 400000 in
theorem tat_in {w : World} {B g gm : Nat} {v : Value} {L : List ByteArray} (h : Tb w B g gm v L) (n : Nat) (hn : n < L.length) :
    Calls Tryz.prog 172 #[.pointer (some ⟨g, 0, none⟩), .int .i64 n] w fun e w' => e = .returned (.tuple #[.string (L[n]'hn), .bool true]) ∧ w' = w := by
  obtain ⟨ao, cap, rfl⟩ := own_shape6 h.own
  have hown := h.own
  obtain ⟨gk, hga, hgt⟩ := own_texts hown rfl
  obtain rfl := hga (by omega)
  have c0 := h.cells.c0
  obtain ⟨hlt, d0⟩ := hgt n hn
  rw [Nat.zero_add] at d0
  have hn' : (n : Int) < L.length := by omega
  generalize L[n] = s at *
  clear hown hgt
  go_enter Tryz.func172, Tryz.ntmps172
  go_wp2
  go_ret2
  exact ⟨rfl, rfl⟩

set_option maxRecDepth 10000 in
set_option maxHeartbeats 400000 in
theorem tat_out {w : World} {B g gm : Nat} {v : Value} {L : List ByteArray} (h : Tb w B g gm v L) (n : Int) (hn : n < 0 ∨ (L.length : Int) ≤ n) :
    Calls Tryz.prog 172 #[.pointer (some ⟨g, 0, none⟩), .int .i64 n] w fun e w' => e = .returned (.tuple #[.string ⟨#[]⟩, .bool false]) ∧ w' = w := by
  obtain ⟨ao, cap, rfl⟩ := own_shape6 h.own
  have c0 := h.cells.c0
  rcases hn with hn | hn
  · go_enter Tryz.func172, Tryz.ntmps172
    go_wp2
    go_ret2
    exact ⟨rfl, rfl⟩
  · by_cases h0 : n < 0
    · go_enter Tryz.func172, Tryz.ntmps172
      go_wp2
      go_ret2
      exact ⟨rfl, rfl⟩
    · go_enter Tryz.func172, Tryz.ntmps172
      go_wp2
      go_ret2
      exact ⟨rfl, rfl⟩

theorem At3.set0 {T : TypeId} {w : World} {g : Nat} {x y z : Value} (h : At3 T w g x y z) (v : Value) : At3 T (w.setCell ⟨g, 0, none⟩ v) g v y z := by
  have h' : w.heap[g]? = _ := h
  unfold At3 World.setCell
  simp [Array.getElem?_modify, h']

set_option maxRecDepth 10000 in
set_option maxHeartbeats 400000 in
theorem tadd_any {w : World} {B g gm : Nat} {v : Value} {L : List ByteArray} (h : Tb w B g gm v L) (s : ByteArray) (hx : ¬ idx6 s L < L.length) (hs : s.size ≤ 1000000000) (hl : L.length ≤ 1000000) (hm : sum6 L ≤ 1000000000) :
    Calls Tryz.prog 154 #[.pointer (some ⟨g, 0, none⟩), .string s] w fun e w' => e = .returned (.int .i64 (L.length : Nat)) ∧
      ∃ v', Tb w' B g gm v' (L ++ [s]) ∧ Fr (TbS g gm v) w w' ∧ ∀ k, TbS g gm v' k → TbS g gm v k ∨ w.heap.size ≤ k := by
  obtain ⟨ao, cap, rfl⟩ := own_shape6 h.own
  obtain ⟨i0, hi, hz0, hz1, hz2⟩ := info_parts Tryz.infoS6
  have c0 := h.cells.c0
  obtain ⟨D, hmap, HD⟩ := h.map
  have HD' : Hid (NumsIs (D.put (kS s) (iE (L.length : Nat))) (L ++ [s])) := HD.snoc s hx
  have hkey := kS_key s (by unfold maxLen; omega)
  have hwf : (Lit.int .i64 (L.length : Nat)).wf = true := WalkArith.wf_i64 (by omega)
  have HS : Hid (sum6 (L ++ [s]) = sum6 L + s.size) := by show _ = _; rw [sum6_append]; simp [sum6]
  clear HD hx
  go_enter Tryz.func154, Tryz.ntmps154
  go_wp2_with (at_builtin; refine wpList_append_lies _ rfl (.tmp 15) (.tmp 17) 47 rfl B 9 i0 (.string ⟨#[]⟩) 1 16 Tryz.underlying47 hi hz0 hz1 hz2 rfl (by decide) _ L.length (tV L) rfl (h.own.alloc _) ⟨w.heap.size, 0, none⟩ 1 1 [.string s] rfl rfl (cell_one_new _ _ _) (by intro u hu; simp at hu; subst hu; rfl) (by decide) (by unfold maxLen; omega) (by omega) (by have := h.baseG; have := h.cells.lt; simp; omega) _ rfl ?_)
  intro g2 cap2 w2 hown2 hgrow2 hlie hlt2
  have a2 := (h.cells.alloc (.cells #[.string s] 9)).kept hgrow2 (fun e => h.row_g e.symm)
  have m2 := (hmap.alloc (.cells #[.string s] 9)).kept hgrow2 (fun e => h.row_m e.symm)
  have d0 := a2.c0
  have f0 := a2.fz 0
  have g2g : g2 ≠ g := by
    have h1 := h.cells.lt
    rcases hlie with e | e
    · intro q; subst q; exact h.row_g e
    · omega
  have g2m : g2 ≠ gm := by
    have h1 := hmap.lt
    rcases hlie with e | e
    · intro q; subst q; exact h.row_m e
    · omega
  have a3 := a2.set0 (.slice (some ⟨g2, 0, none⟩) (L.length + 1) cap2)
  have m3 := m2.setCell (a := ⟨g, 0, none⟩) h.gm_ne (.slice (some ⟨g2, 0, none⟩) (L.length + 1) cap2)
  have o3 : (w2.setCell ⟨g, 0, none⟩ (.slice (some ⟨g2, 0, none⟩) (L.length + 1) cap2)).ownsRow B 9 1 (.slice (some ⟨g2, 0, none⟩) (L.length + 1) cap2) (L.length + 1) (tV L ++ [.string s]) := own_fr hown2 ((Fr.refl (fun k => k = g) w2).set ⟨g, 0, none⟩ rfl _) (fun r hr => by simp [Value.ownBlock] at hr; omega)
  have F3 : Fr (TbS g gm (.slice ao L.length cap)) w (w2.setCell ⟨g, 0, none⟩ (.slice (some ⟨g2, 0, none⟩) (L.length + 1) cap2)) :=
    ((Fr.of_below ((Below.refl _ _).alloc (Nat.le_refl _) (.cells #[.string s] 9))).trans (Fr.of_grown hgrow2 (fun k hk => .inr (.inr hk))) (fun _ q _ => q)).set ⟨g, 0, none⟩ (.inl rfl) _
  have d1 := a2.c1
  clear a2 m2 hown2 hgrow2
  go_wp2_with (at_mapUpdate; refine wpList_mapUpdate_own _ rfl _ _ _ 180 rfl 9 3 lawS6 Tryz.underlying180 _ gm L.length D rfl m3 (by unfold maxLen; omega) _ _ _ rfl rfl hkey _ [] (plainElem_int Tryz.underlying3 hwf) ?_)
  intro w4 m4 hgrow4
  have a4 := a3.kept hgrow4 (by simp; exact fun e => h.gm_ne e.symm)
  have d2 := a4.c2
  have f2 := a4.fz 2
  have o4 := own_fr o3 (Fr.of_grown (S := fun k => k = gm) hgrow4 (fun k hk => by cases hk; rfl)) (fun r hr => by simp [Value.ownBlock] at hr; omega)
  have F4 := F3.trans (Fr.of_grown (S := fun k => k = gm) hgrow4 (fun k hk => by cases hk; rfl)) (fun i hi _ => .inr (.inl hi))
  have B4 := F4.size
  clear a3 m3 o3 F3 d0 d1 f0 hgrow4
  go_wp2_with fail
  go_ret
  have hlen : (L ++ [s]).length = L.length + 1 := by simp
  refine ⟨rfl, .slice (some ⟨g2, 0, none⟩) (L.length + 1) cap2, ⟨?_, ?_, ⟨_, ?_, HD'.out⟩, h.baseG, h.baseM, h.gm_ne, by simp [Value.ownBlock]; exact g2g, by simp [Value.ownBlock]; exact g2m⟩, F4.set ⟨g, 2, none⟩ (.inl rfl) _, ?_⟩
  · rw [HS.out]
    exact a4.set2 _
  · rw [hlen]
    have := own_fr o4 ((Fr.refl (fun k => k = g) w4).set ⟨g, 2, none⟩ rfl (.int .i64 ((sum6 L : Nat) + (s.size : Int)))) (fun r hr => by simp [Value.ownBlock] at hr; omega)
    simpa [tV] using this
  · rw [hlen]
    exact m4.setCell (a := ⟨g, 2, none⟩) h.gm_ne _
  · intro k hk
    rcases hk with rfl | rfl | hk
    · exact .inl (.inl rfl)
    · exact .inl (.inr (.inl rfl))
    · simp [Value.ownBlock] at hk
      subst hk
      rcases hlie with e | e
      · exact .inl (.inr (.inr e))
      · exact .inr (by omega)

/-- What a call leaves that may intern: a text's number; the table then; all else that was there. -/
def TIn (w w' : World) (B g gm : Nat) (v : Value) (L : List ByteArray) : Prop :=
  ∃ v', Tb w' B g gm v' L ∧ Fr (TbS g gm v) w w' ∧ ∀ k, TbS g gm v' k → TbS g gm v k ∨ w.heap.size ≤ k

set_option maxRecDepth 10000 in
set_option maxHeartbeats 400000 in
theorem tintern_any {w : World} {B g gm : Nat} {v : Value} {L : List ByteArray} (h : Tb w B g gm v L) (s : ByteArray) (hs : s.size ≤ 1000000000) (hl : L.length ≤ 1000000) (hm : sum6 L ≤ 1000000000) :
    Calls Tryz.prog 135 #[.pointer (some ⟨g, 0, none⟩), .string s] w fun e w' => e = .returned (.int .i64 (idx6 s L : Nat)) ∧ TIn w w' B g gm v (pIntern L s) := by
  have c1 := h.cells.c1
  obtain ⟨D, hmap, HD⟩ := h.map
  obtain ⟨h1, h2⟩ := HD.2 s
  have hkey := kS_key s (by unfold maxLen; omega)
  by_cases hx : idx6 s L < L.length
  · rw [decide_eq_true hx] at h1
    have h3 : Hid _ := h2 hx
    rw [show pIntern L s = L from if_pos hx]
    clear h2 HD
    go_enter Tryz.func135, Tryz.ntmps135
    go_wp2_with (at_lookup; refine wpList_lookup_own_ok_int _ rfl _ _ 180 rfl 9 3 .i64 lawS6 Tryz.underlying180 Tryz.underlying3 (zeroI6 _) gm L.length D rfl hmap _ _ rfl hkey ?_; intro c hat hwc; obtain rfl : c = (idx6 s L : Nat) := by (have := hat.symm.trans h3.out; injection this with this; injection this))
    go_ret
    exact ⟨rfl, v, h, Fr.refl _ _, fun k hk => .inl hk⟩
  · rw [decide_eq_false hx] at h1
    have hle := idx6_le s L
    rw [show pIntern L s = L ++ [s] from if_neg hx, show idx6 s L = L.length by omega]
    have HA : Hid (∀ w', Below w.heap.size w w' → Calls Tryz.prog 154 #[.pointer (some ⟨g, 0, none⟩), .string s] w' fun e w'' => e = .returned (.int .i64 (L.length : Nat)) ∧ TIn w' w'' B g gm v (L ++ [s])) := fun w' hb => tadd_any (h.below hb) s hx hs hl hm
    clear h2 HD hx hle
    go_enter Tryz.func135, Tryz.ntmps135
    go_wp2_with (at_lookup; refine wpList_lookup_own_ok_int _ rfl _ _ 180 rfl 9 3 .i64 lawS6 Tryz.underlying180 Tryz.underlying3 (zeroI6 _) gm L.length D rfl hmap _ _ rfl hkey ?_; intro c hat hwc; clear hat)
    refine (clone_any s _ (by omega)).mono ?_
    rintro e w1 ⟨rfl, hb⟩
    go_wp2_with fail
    refine (HA.out w1 hb).mono ?_
    rintro e w2 ⟨rfl, v', ht, hf, hn⟩
    go_wp2_with fail
    go_ret
    refine ⟨rfl, v', ht, (Fr.of_below hb).trans hf (fun _ q _ => q), fun k hk => (hn k hk).imp id (fun q => Nat.le_trans hb.size q)⟩

end Go.Proofs.YtgoffkfpdigeeaaGreatDoor
