/- The contract of the program's turned: the same links, the other way round. -/
import Derived.Test.YtcdpjaaiojpelaaDoorGBeh
namespace Go.Proofs.YtcdpjaaiojpelaaDoor
open Go.RowKit Go.Maps Go.WideMaps Go.Sort

/-- Links of a scene that is not too great. -/
def Tight (L : List Ln) : Prop := L.length ≤ 61 ∧ ∀ i, i < L.length → (L.getD i noLn).ks.length ≤ 300
theorem Small.tight {X : List Nx} (h : Small X) : Tight (lks X) := by
  refine ⟨by rw [lks_length]; exact h.1, fun i hi => ?_⟩
  rw [lks_length] at hi
  rw [lks_at X i hi]
  have := h.kids hi
  unfold lnOf
  rw [List.length_map]
  exact this
theorem Tight.lim {L : List Ln} (h : Tight L) : Lim L := ⟨h.1, fun i hi => by have := h.2 i hi; omega⟩

/-- Who leads there, of those that were gone through. -/
structure TurnInv (K : List (List Nat)) (i j : Nat) (Kb : Nat → List Nat) : Prop where
  mem : ∀ x y, y ∈ Kb x ↔ (y < i ∧ Ed K y x) ∨ (y = i ∧ x ∈ (K.getD i []).take j)
  len : ∀ x, (Kb x).length ≤ i * 300 + j
theorem TurnInv.start (K : List (List Nat)) : TurnInv K 0 0 (fun _ => []) := ⟨fun x y => by simp, fun x => by simp⟩
def updK (Kb : Nat → List Nat) (k : Nat) (l : List Nat) : Nat → List Nat := fun x => if x = k then l else Kb x
theorem TurnInv.add {K : List (List Nat)} {i j : Nat} {Kb : Nat → List Nat} (h : TurnInv K i j Kb) (hj : j < (K.getD i []).length) : TurnInv K i (j + 1) (updK Kb ((K.getD i []).getD j 0) (Kb ((K.getD i []).getD j 0) ++ [i])) := by
  refine ⟨fun x y => ?_, fun x => ?_⟩
  · rw [take_at hj]
    have hm := h.mem x y
    unfold updK
    by_cases e : x = (K.getD i []).getD j 0
    · subst e
      rw [if_pos rfl]
      simp only [List.mem_append, List.mem_singleton, or_true, and_true]
      rw [hm]
      constructor
      · rintro ((q | q) | q)
        · exact .inl q
        · exact .inr q.1
        · exact .inr q
      · rintro (q | q)
        · exact .inl (.inl q)
        · exact .inr q
    · rw [if_neg e, hm]
      simp only [List.mem_append, List.mem_singleton, e, or_false]
  · unfold updK
    split
    · have := h.len ((K.getD i []).getD j 0)
      simp only [List.length_append, List.length_singleton]
      omega
    · have := h.len x
      omega
set_option maxRecDepth 10000 in
theorem TurnInv.next {K : List (List Nat)} {i j : Nat} {Kb : Nat → List Nat} (h : TurnInv K i j Kb) (hj : (K.getD i []).length ≤ j) (hj3 : j ≤ 300) : TurnInv K (i + 1) 0 Kb := by
  refine ⟨fun x y => ?_, fun x => by have := h.len x; omega⟩
  rw [h.mem x y, List.take_of_length_le hj]
  simp only [List.take_zero, List.not_mem_nil, and_false, or_false]
  constructor
  · rintro (⟨q, e⟩ | ⟨rfl, e⟩)
    · exact ⟨by omega, e⟩
    · exact ⟨by omega, e⟩
  · rintro ⟨q, e⟩
    by_cases h1 : y < i
    · exact .inl ⟨h1, e⟩
    · obtain rfl : y = i := by omega
      exact .inr ⟨rfl, e⟩

/-- Lists of the call's own, in a list of its own. -/
def lnC (x : Ln) : Value := .slice x.a x.ks.length x.c
structure BkAt (w : World) (B g n : Nat) (F : Nat → Ln) : Prop where
  top : AtN 38 w g ((List.range n).map fun j => lnC (F j)).toArray
  own : ∀ j, j < n → w.ownsRow B 3 1 (lnC (F j)) (F j).ks.length (nV (F j).ks)
  apart : ∀ i, i < n → ∀ j, j < n → i ≠ j → ∀ r, (lnC (F i)).ownBlock = some r → (lnC (F j)).ownBlock ≠ some r
def updL (F : Nat → Ln) (k : Nat) (l : Ln) : Nat → Ln := fun x => if x = k then l else F x
theorem updL_same (F : Nat → Ln) (k : Nat) (l : Ln) : updL F k l k = l := if_pos rfl
theorem updL_other (F : Nat → Ln) {k x : Nat} (l : Ln) (h : x ≠ k) : updL F k l x = F x := if_neg h
theorem own_ne_at {w : World} {B n g : Nat} {e T : TypeId} {v : Value} {cs : Array Value} {size : Nat} {xs : List Value} (h : w.ownsRow B e size v n xs) (h' : AtN T w g cs) (he : e ≠ T) : ∀ r, v.ownBlock = some r → r ≠ g := by
  rintro r hr rfl
  rcases h.2 with ⟨rfl, _⟩ | ⟨g', cap, cur, rfl, _, h1, _⟩
  · cases hr
  · simp only [Value.ownBlock, Option.some.injEq] at hr
    subst hr
    have h2 : w.heap[g']? = _ := h'
    rw [h1] at h2
    cases h2
    exact he rfl
theorem BkAt.cell {w : World} {B g n : Nat} {F : Nat → Ln} (h : BkAt w B g n F) {k : Nat} (hk : k < n) : w.cell? ⟨g, k, none⟩ = some (lnC (F k)) := by rw [h.top.cell]; simp [hk]
/-- Behind a block that is new, an append on one of the lists, and its store. -/
theorem BkAt.step {w w4 : World} {o : Obj} {B g n k x g2 cap2 : Nat} {F : Nat → Ln} (h : BkAt w B g n F) (hk : k < n)
    (ho : w4.ownsRow B 3 1 (.slice (some ⟨g2, 0, none⟩) ((F k).ks.length + 1) cap2) ((F k).ks.length + 1) (nV (F k).ks ++ [.int .i64 (x : Int)])) (hg : (w.alloc o).grownBy w4 (lnC (F k)).ownBlock) (hl : (lnC (F k)).ownBlock = some g2 ∨ g2 = (w.alloc o).heap.size) :
    BkAt (w4.setCell ⟨g, k, none⟩ (.slice (some ⟨g2, 0, none⟩) ((F k).ks.length + 1) cap2)) B g n (updL F k ⟨(F k).ks ++ [x], some ⟨g2, 0, none⟩, cap2⟩) := by
  have hne := own_ne_at (h.own k hk) h.top (by decide)
  have t4 : AtN 38 w4 g ((List.range n).map fun j => lnC (F j)).toArray := (h.top.alloc o).kept hg (fun e => hne g e.symm rfl)
  have hg2 : g2 ≠ g := by
    rcases hl with q | q
    · exact hne g2 q
    · have := h.top.lt
      simp at q
      omega
  have hsz : (w.alloc o).heap.size = w.heap.size + 1 := by simp
  refine ⟨?_, fun j hj => ?_, fun i hi j hj hij r hr => ?_⟩
  · have := t4.set k (.slice (some ⟨g2, 0, none⟩) ((F k).ks.length + 1) cap2)
    rw [show ((List.range n).map fun j => lnC (updL F k ⟨(F k).ks ++ [x], some ⟨g2, 0, none⟩, cap2⟩ j)).toArray = ((List.range n).map fun j => lnC (F j)).toArray.setIfInBounds k (.slice (some ⟨g2, 0, none⟩) ((F k).ks.length + 1) cap2) by
      apply Array.ext
      · simp
      · intro i h1 h2
        simp only [List.size_toArray, List.length_map, List.length_range] at h1
        rw [Array.getElem_setIfInBounds (by simpa using h1)]
        by_cases e : k = i
        · subst e
          simp [updL, lnC]
        · have e' : ¬ i = k := fun q => e q.symm
          simp [updL, e, e']]
    exact this
  · by_cases e : j = k
    · subst e
      rw [updL_same]
      have := own_set ho ⟨g, j, none⟩ (fun r hr => by simp [Value.ownBlock] at hr; show r ≠ g; omega) (.slice (some ⟨g2, 0, none⟩) ((F j).ks.length + 1) cap2)
      simpa [lnC, nV_snoc] using this
    · rw [updL_other _ _ e]
      have h1 := (h.own j hj).alloc o
      have h2 := own_fr h1 (Fr.of_grown (S := fun b => (lnC (F k)).ownBlock = some b) hg (fun q e => e)) (fun r hr q => h.apart j hj k hk e r hr q)
      exact own_set h2 ⟨g, k, none⟩ (fun r hr => own_ne_at (h.own j hj) h.top (by decide) r hr) _
  · have new : ∀ j, j < n → j ≠ k → (lnC (F j)).ownBlock ≠ some g2 := fun j hj hjk q => by
      rcases hl with p | p
      · exact h.apart j hj k hk hjk g2 q p
      · have := ((h.own j hj).lt g2 q).2
        omega
    by_cases e1 : i = k
    · subst e1
      rw [updL_same] at hr
      rw [updL_other _ _ (fun q => hij q.symm)]
      simp [lnC, Value.ownBlock] at hr
      subst hr
      exact new j hj (fun q => hij q.symm)
    · rw [updL_other _ _ e1] at hr
      by_cases e2 : j = k
      · subst e2
        rw [updL_same]
        intro q
        simp [lnC, Value.ownBlock] at q
        subst q
        exact new i hi e1 hr
      · rw [updL_other _ _ e2]
        exact h.apart i hi j hj hij r hr

def TurnOut (L : List Ln) (w w' : World) (e : Ending) : Prop :=
  ∃ L' a, e = .returned (.slice a (List.length L') (List.length L')) ∧ L'.length = L.length ∧ LkQ (fun b => w.heap.size ≤ b) w' a L' ∧ (∀ x y, Ed (kOf L') x y ↔ Ed (kOf L) y x) ∧ Lim L' ∧ Below w.heap.size w w'

theorem BkAt.out {L : List Ln} {w w' : World} {B : Nat} {F : Nat → Ln} (h : BkAt w' B w.heap.size L.length F) (hB : w.heap.size ≤ B) (ht : TurnInv (kOf L) L.length 0 (fun x => (F x).ks)) (hk : Ok9 (kOf L)) (hL : Tight L) (hb : Below w.heap.size w w') : TurnOut L w w' (.returned (.slice (some ⟨w.heap.size, 0, none⟩) L.length L.length)) := by
  have hlen : ((List.range L.length).map F).length = L.length := by simp
  have hget : ∀ i, i < L.length → ((List.range L.length).map F).getD i noLn = F i := fun i hi => by simp [hi]
  refine ⟨(List.range L.length).map F, some ⟨w.heap.size, 0, none⟩, by rw [hlen], hlen, ⟨?_, fun i hi => ?_⟩, fun x y => ?_, ⟨by rw [hlen]; exact hL.1, fun i hi => ?_⟩, hb⟩
  · have := h.top.lsQ
    rw [show lnV ((List.range L.length).map F) = (List.range L.length).map fun j => lnC (F j) by simp [lnV, lnC]]
    exact this.mono (fun b q _ => by omega)
  · rw [hlen] at hi
    rw [hget i hi]
    have := h.own i hi
    exact (LsQ.of_own this).mono (fun b q _ => by have := (this.lt b q).1; omega)
  · unfold Ed
    rw [kOf_at]
    by_cases hx : x < L.length
    · rw [hget x hx, ht.mem x y]
      constructor
      · rintro (⟨_, q⟩ | ⟨_, q⟩)
        · exact q
        · simp at q
      · intro q
        have : y < (kOf L).length := Ed.lt q
        rw [kOf_length] at this
        exact .inl ⟨this, q⟩
    · have hn : ((List.range L.length).map F).getD x noLn = noLn := by
        rw [List.getD_eq_getElem?_getD, List.getElem?_eq_none (by rw [hlen]; omega)]
        rfl
      rw [hn]
      constructor
      · intro q; simp [noLn] at q
      · intro q
        have := hk y x q
        rw [kOf_length] at this
        exact absurd this hx
  · rw [hlen] at hi
    rw [hget i hi]
    have := ht.len i
    have := hL.1
    show (F i).ks.length ≤ 20000
    omega


theorem turn_step {K : List (List Nat)} {i j : Nat} {F : Nat → Ln} {N : List Nat} {g2 cap2 : Nat} (h : TurnInv K i j (fun x => (F x).ks)) (hN : K.getD i [] = N) (hj : j < N.length) : TurnInv K i (j + 1) (fun x => (updL F (N.getD j 0) ⟨(F (N.getD j 0)).ks ++ [i], some ⟨g2, 0, none⟩, cap2⟩ x).ks) := by
  subst hN
  have := h.add hj
  rw [show (fun x => (updL F ((K.getD i []).getD j 0) ⟨(F ((K.getD i []).getD j 0)).ks ++ [i], some ⟨g2, 0, none⟩, cap2⟩ x).ks) = updK (fun x => (F x).ks) ((K.getD i []).getD j 0) ((F ((K.getD i []).getD j 0)).ks ++ [i]) by
    funext x
    unfold updL updK
    split <;> rfl]
  exact this

set_option maxRecDepth 10000 in
set_option maxHeartbeats 800000 in
theorem turned_any {Q : Nat → Prop} (L : List Ln) (a : Option Addr) (c : Nat) (w : World) (hl : LkQ Q w a L) (hk : Ok9 (kOf L)) (hs : Tight L) :
    Calls Tryd.prog 56 #[.slice a L.length c] w fun e w' => TurnOut L w w' e := by
  obtain ⟨i0, hi, hz0, hz1, hz2⟩ := info_parts Tryd.infoI7
  obtain ⟨i1, hi1, hz10, hz11, hz12⟩ := info_parts Tryd.infoL9
  have hL := hs.1
  have hmk : (Instr.makeSlice 68 (.int .i64 (L.length : Int)) (.int .i64 (L.length : Int))).run Tryd.prog w = .ok (.slice (some ⟨w.heap.size, 0, none⟩) L.length L.length) (w.alloc (.cells (filled [] L.length (.slice none 0 0)) 38)) := by
    have := run_make (P := Tryd.prog) w 68 38 i1 (.slice none 0 0) Tryd.underlying68 hi1 hz10 .i64 .i64 L.length L.length (by omega) (by omega) (by rw [hz12]; omega) (by omega)
    rw [hz11, Int.toNat_natCast, filled_new _ _ rfl] at this
    simpa using this
  have A1 : Hid (BkAt (w.alloc (.cells (filled [] L.length (.slice none 0 0)) 38)) (w.heap.size + 1) w.heap.size L.length (fun _ => noLn)) := by
    refine ⟨?_, fun j hj => ⟨rfl, .inl ⟨rfl, rfl⟩⟩, fun i hi j hj hij r hr => by simp [lnC, noLn, Value.ownBlock] at hr⟩
    have := AtN.new w 38 (filled [] L.length (.slice none 0 0))
    rw [show ((List.range L.length).map fun _ => lnC noLn).toArray = filled [] L.length (.slice none 0 0) by
      apply Array.ext
      · simp [filled]
      · intro i h1 h2
        simp [filled, lnC, noLn]]
    exact this
  have B1 : Hid (Below w.heap.size w (w.alloc (.cells (filled [] L.length (.slice none 0 0)) 38))) := (Below.refl w.heap.size w).alloc (Nat.le_refl _) _
  have HL : Hid _ := And.intro hl (And.intro hk hs)
  clear hl hk hs
  generalize filled [] L.length (.slice none 0 0) = f0 at *
  go_enter Tryd.func56, Tryd.ntmps56
  go_wp2_with fail
  go_loopw [13] (fun iv wr => ∃ (i : Nat) (F : Nat → Ln), iv = .int .i64 i ∧ i ≤ L.length ∧ Hid (TurnInv (kOf L) i 0 (fun x => (F x).ks)) ∧ Hid (BkAt wr (w.heap.size + 1) w.heap.size L.length F) ∧ Hid (Below w.heap.size w wr)) (fun iv _ => L.length - (intOf iv).toNat)
  case atStart => exact ⟨0, fun _ => noLn, rfl, by omega, TurnInv.start _, A1, B1⟩
  case round =>
    clear A1 B1 hmk
    obtain ⟨i, F, rfl, hi', HI, HA, HB⟩ := hrel
    by_cases hlt : i < L.length
    · have hlt' : (i : Int) < L.length := by omega
      obtain ⟨b1, o1, rfl, hb1, d1⟩ := (HL.out.1.below HB.out).top.at (lnV_at L i hlt)
      have HE : Hid (∀ W, Below w.heap.size w W → LsQ Q W (L.getD i noLn).a (nV (L.getD i noLn).ks)) := fun W hW => (HL.out.1.below hW).each i hlt
      have hkl : (L.getD i noLn).ks.length ≤ 300 := HL.out.2.2.2 i hlt
      have HK : Hid ((kOf L).getD i [] = (L.getD i noLn).ks) := kOf_at L i
      have HP : Hid (∀ k ∈ (L.getD i noLn).ks, k < L.length) := fun k hk => by
        have := HL.out.2.1 i k (by unfold Ed; rw [kOf_at]; exact hk)
        rwa [kOf_length] at this
      generalize L.getD i noLn = N at *
      clear HL
      go_wp2_with fail
      go_loopw [20] (fun jv wr => ∃ (j : Nat) (F : Nat → Ln), jv = .int .i64 j ∧ j ≤ N.ks.length ∧ Hid (TurnInv (kOf L) i j (fun x => (F x).ks)) ∧ Hid (BkAt wr (w.heap.size + 1) w.heap.size L.length F) ∧ Hid (Below w.heap.size w wr)) (fun jv _ => N.ks.length - (intOf jv).toNat)
      case atStart => exact ⟨0, F, rfl, by omega, HI, HA, HB⟩
      case round =>
        clear HI HA HB d1 hb1
        obtain ⟨j, F, rfl, hj, HI, HA, HB⟩ := hrel
        by_cases hjl : j < N.ks.length
        · have hjl' : (j : Int) < N.ks.length := by omega
          obtain ⟨b2, o2, e2, hb2, d2⟩ := LsQ.at (HE.out wr HB.out) (nV_at N.ks j hjl)
          have hx : N.ks.getD j 0 < L.length := HP.out _ (getD_mem hjl)
          have hx' : ((N.ks.getD j 0 : Nat) : Int) < L.length := by omega
          have HI2 : Hid (∀ g2 cap2, TurnInv (kOf L) i (j + 1) (fun x => (updL F (N.ks.getD j 0) ⟨(F (N.ks.getD j 0)).ks ++ [i], some ⟨g2, 0, none⟩, cap2⟩ x).ks)) := fun g2 cap2 => turn_step HI.out HK.out hjl
          have hlF : (F (N.ks.getD j 0)).ks.length ≤ 20000 := by
            have : (F (N.ks.getD j 0)).ks.length ≤ i * 300 + j := HI.out.len (N.ks.getD j 0)
            omega
          have y0 : wr.cell? ⟨w.heap.size, N.ks.getD j 0, none⟩ = some (.slice (F (N.ks.getD j 0)).a (F (N.ks.getD j 0)).ks.length (F (N.ks.getD j 0)).c) := HA.out.cell hx
          have O3 : wr.ownsRow (w.heap.size + 1) 3 1 (.slice (F (N.ks.getD j 0)).a (F (N.ks.getD j 0)).ks.length (F (N.ks.getD j 0)).c) (F (N.ks.getD j 0)).ks.length (nV (F (N.ks.getD j 0)).ks) := HA.out.own _ hx
          have hne : ∀ r, (Value.slice (F (N.ks.getD j 0)).a (F (N.ks.getD j 0)).ks.length (F (N.ks.getD j 0)).c).ownBlock = some r → r ≠ w.heap.size := own_ne_at O3 HA.out.top (by decide)
          generalize N.ks.getD j 0 = x at *
          have HO3 : Hid (wr.ownsRow (w.heap.size + 1) 3 1 (.slice (F x).a (F x).ks.length (F x).c) (F x).ks.length (nV (F x).ks)) := O3
          have Hne : Hid (∀ r, (Value.slice (F x).a (F x).ks.length (F x).c).ownBlock = some r → r ≠ w.heap.size) := hne
          have hgl := HA.out.top.lt
          rw [e2]
          clear HI HE HK HP O3 hne
          generalize hM : F x = M at *
          go_wp2_with (at_builtin; refine wpList_append_lies _ rfl (.tmp 29) (.tmp 31) 38 rfl (w.heap.size + 1) 3 i0 (.int .i64 0) 1 8 Tryd.underlying38 hi hz0 hz1 hz2 rfl (by decide) _ M.ks.length (nV M.ks) rfl (HO3.out.alloc _) ⟨wr.heap.size, 0, none⟩ 1 1 [.int .i64 (i : Int)] rfl rfl (cell_one_new _ _ _) (by intro u hu; simp at hu; subst hu; rfl) (by decide) (by unfold maxLen; omega) (by omega) (by simp; omega) _ rfl ?_)
          intro g2 cap2 w4 hown4 hgrow4 hlie hlt4
          have t4 : AtN 38 w4 w.heap.size _ := (HA.out.top.alloc _).kept hgrow4 (fun e => Hne.out _ e.symm rfl)
          have y4 : w4.cell? ⟨w.heap.size, x, none⟩ = some (.slice M.a M.ks.length M.c) := by
            rw [t4.cell]
            simp [hx, hM, lnC]
          have yf := t4.fz x
          have HB4 : Hid (Below w.heap.size w w4) := (HB.out.alloc HB.out.size _).grown hgrow4 (by have := HB.out.size; simp; omega) (fun k hk => by
            have := (HO3.out.lt k hk).1
            omega)
          have HA4 : Hid (BkAt (w4.setCell ⟨w.heap.size, x, none⟩ (.slice (some ⟨g2, 0, none⟩) (M.ks.length + 1) cap2)) (w.heap.size + 1) w.heap.size L.length (updL F x ⟨M.ks ++ [i], some ⟨g2, 0, none⟩, cap2⟩)) := by
            subst hM
            exact HA.out.step hx hown4 hgrow4 (hlie.imp id (fun q => by simpa using q))
          have hgl4 := t4.lt
          clear t4 hown4 hgrow4 hlie HA HB HO3 Hne y0
          go_wp2_with fail
          go_roundw
          case rel => exact ⟨j + 1, updL F x ⟨M.ks ++ [i], some ⟨g2, 0, none⟩, cap2⟩, by go_num, by omega, HI2.out g2 cap2, HA4, set_below HB4.out _ (Nat.le_refl _) _⟩
          case measure => simp [intOf]; omega
        · have hjl' : ¬ (j : Int) < N.ks.length := by omega
          have HI2 : Hid (TurnInv (kOf L) (i + 1) 0 (fun x => (F x).ks)) := HI.out.next (by rw [HK.out]; omega) (by omega)
          clear HI HE HK HP
          go_wp2_with fail
          go_roundw
          case rel => exact ⟨i + 1, F, by go_num, by omega, HI2, HA, HB⟩
          case measure => simp [intOf]; omega
    · have hlt' : ¬ (i : Int) < L.length := by omega
      have HV : Hid (TurnOut L w wr (.returned (.slice (some ⟨w.heap.size, 0, none⟩) L.length L.length))) := HA.out.out (by omega) ((show i = L.length by omega) ▸ HI.out) HL.out.2.1 HL.out.2.2 HB.out
      clear HL HI HA HB
      go_wp2_with fail
      go_ret
      exact HV.out

end Go.Proofs.YtcdpjaaiojpelaaDoor
