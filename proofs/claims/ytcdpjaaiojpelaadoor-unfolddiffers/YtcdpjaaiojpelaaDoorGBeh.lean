/- The contract of the program's areBehind; lists of numbers by places. -/
import Derived.Test.YtcdpjaaiojpelaaDoorGBot
namespace Go.Proofs.YtcdpjaaiojpelaaDoor
open Go.RowKit Go.Maps Go.WideMaps Go.Sort

/-- A number for each of n places. -/
def fnV (n : Nat) (st : Nat → Nat) : Array Value := ((List.range n).map fun x => Value.int .i64 (st x : Int)).toArray
def upd (st : Nat → Nat) (k v : Nat) : Nat → Nat := fun x => if x = k then v else st x
theorem upd_same (st : Nat → Nat) (k v : Nat) : upd st k v k = v := if_pos rfl
theorem upd_other (st : Nat → Nat) {k x : Nat} (v : Nat) (h : x ≠ k) : upd st k v x = st x := if_neg h
theorem fnV_size (n : Nat) (st : Nat → Nat) : (fnV n st).size = n := by simp [fnV]
theorem fnV_at (n : Nat) (st : Nat → Nat) (k : Nat) (h : k < n) : (fnV n st)[k]? = some (.int .i64 (st k : Int)) := by simp [fnV, h]
theorem fnV_new (n : Nat) : madeCells (Value.int .i64 0).cells (n * 1) = fnV n (fun _ => 0) := by
  apply Array.ext
  · simp [size_madeCells, fnV]
  · intro i h1 h2
    have h0 : i % 1 = 0 := Nat.mod_one i
    simp [madeCells, fnV, Value.cells, h0]
theorem fnV_set (n : Nat) (st : Nat → Nat) (k v : Nat) : (fnV n st).setIfInBounds k (.int .i64 (v : Int)) = fnV n (upd st k v) := by
  apply Array.ext
  · simp [fnV]
  · intro i h1 h2
    simp only [fnV, Array.size_setIfInBounds, List.size_toArray, List.length_map, List.length_range] at h1
    rw [Array.getElem_setIfInBounds (by simpa [fnV] using h1)]
    by_cases e : k = i
    · subst e
      simp [fnV, upd]
    · rw [if_neg e]
      have e' : ¬ i = k := fun q => e q.symm
      simp [fnV, upd, e']

theorem idx_of_list {order : List Nat} {n : Nat} {st : Nat → Nat} (_hn : order.Nodup) (hm : ∀ x, x ∈ order ↔ x < n) (h : ∀ j, j < order.length → st (order.getD j 0) = j) (x : Nat) (hx : x < n) : st x = order.idxOf x := by
  have hmx := (hm x).2 hx
  have hlt := List.idxOf_lt_length_of_mem hmx
  have h1 := h _ hlt
  rwa [show order.getD (order.idxOf x) 0 = x by rw [List.getD_eq_getElem?_getD, List.getElem?_eq_getElem hlt]; simp] at h1

def BehOut (K : List (List Nat)) (order : List Nat) (w w' : World) (e : Ending) : Prop := ∃ b, e = .returned (.bool b) ∧ (b = true ↔ Behind K order) ∧ Below w.heap.size w w'

set_option maxRecDepth 10000 in
set_option maxHeartbeats 800000 in
theorem arebehind_any {Q : Nat → Prop} (L : List Ln) (a ao : Option Addr) (c co : Nat) (order : List Nat) (w : World) (hl : LkQ Q w a L) (ho : LsAt w ao (nV order)) (hb : BOut (kOf L) order) (hk : Ok9 (kOf L)) (hs : Lim L) :
    Calls Tryd.prog 55 #[.slice a L.length c, .slice ao order.length co] w fun e w' => BehOut (kOf L) order w w' e := by
  obtain ⟨i0, hi, hz0, hz1, hz2⟩ := info_parts Tryd.infoI7
  have hL := hs.1
  have hlo : order.length = L.length := by rw [hb.len, kOf_length]
  have hmk : (Instr.makeSlice 38 (.int .i64 (L.length : Int)) (.int .i64 (L.length : Int))).run Tryd.prog w = .ok (.slice (some ⟨w.heap.size, 0, none⟩) L.length L.length) (w.alloc (.cells (fnV L.length (fun _ => 0)) 3)) := by
    have := run_make (P := Tryd.prog) w 38 3 i0 (.int .i64 0) Tryd.underlying38 hi hz0 .i64 .i64 L.length L.length (by omega) (by omega) (by rw [hz2]; omega) (by omega)
    rw [hz1, Int.toNat_natCast, fnV_new] at this
    simpa using this
  have A1 : Hid (AtN 3 (w.alloc (.cells (fnV L.length (fun _ => 0)) 3)) w.heap.size (fnV L.length (fun _ => 0))) := AtN.new w 3 _
  have B1 : Hid (Below w.heap.size w (w.alloc (.cells (fnV L.length (fun _ => 0)) 3))) := (Below.refl w.heap.size w).alloc (Nat.le_refl _) _
  have HL : Hid _ := And.intro hl (And.intro ho (And.intro hb (And.intro hk hs)))
  obtain ⟨f0, hf0⟩ : ∃ f, fnV L.length (fun _ => 0) = f := ⟨_, rfl⟩
  have HF0 : Hid _ := hf0
  rw [hf0] at hmk A1 B1
  clear hl ho hb hk hs hf0
  go_enter Tryd.func55, Tryd.ntmps55
  go_wp2_with fail
  go_loopw [17] (fun iv wr => ∃ (i : Nat) (st : Nat → Nat), iv = .int .i64 i ∧ i ≤ order.length ∧ Hid (∀ j, j < i → st (order.getD j 0) = j) ∧ Hid (AtN 3 wr w.heap.size (fnV L.length st)) ∧ Hid (Below w.heap.size w wr)) (fun iv _ => order.length - (intOf iv).toNat)
  case atStart => exact ⟨0, fun _ => 0, rfl, by omega, fun j hj => by omega, HF0.out ▸ A1, B1⟩
  case round =>
    clear A1 B1 hmk HF0
    obtain ⟨i, st, rfl, hi', HI, HA, HB⟩ := hrel
    by_cases hlt : i < order.length
    · have hlt' : (i : Int) < order.length := by omega
      obtain ⟨b1, o1, rfl, hb1, d1⟩ := (LsAt.belowB HL.out.2.1 HB.out).at (nV_at order i hlt)
      have hx : order.getD i 0 < L.length := by have := (HL.out.2.2.1.2.1 (order.getD i 0)).1 (getD_mem hlt); rwa [kOf_length] at this
      have HV : Hid (∀ j, j < i + 1 → upd st (order.getD i 0) i (order.getD j 0) = j) := fun j hj => by
        by_cases e : j = i
        · rw [e, upd_same]
        · rw [upd_other _ _ (fun q => e ?_), HI.out j (by omega)]
          have hnd := HL.out.2.2.1.1
          rw [List.getD_eq_getElem?_getD, List.getD_eq_getElem?_getD, List.getElem?_eq_getElem (by omega : j < order.length), List.getElem?_eq_getElem hlt] at q
          exact (List.getElem_inj hnd).1 (by simpa using q)
      have y0 : wr.cell? ⟨w.heap.size, order.getD i 0, none⟩ = some (.int .i64 (st (order.getD i 0) : Int)) := by rw [HA.out.cell, fnV_at _ _ _ hx]
      have yf := HA.out.fz (order.getD i 0)
      have HA2 : Hid (AtN 3 (wr.setCell ⟨w.heap.size, order.getD i 0, none⟩ (.int .i64 (i : Int))) w.heap.size (fnV L.length (upd st (order.getD i 0) i))) := by
        have := AtN.set HA.out (order.getD i 0) (.int .i64 (i : Int))
        rwa [fnV_set] at this
      have HB2 : Hid (Below w.heap.size w (wr.setCell ⟨w.heap.size, order.getD i 0, none⟩ (.int .i64 (i : Int)))) := set_below HB.out _ (Nat.le_refl _) _
      have hx' : ((order.getD i 0 : Nat) : Int) < L.length := by omega
      generalize order.getD i 0 = x at *
      clear HI HA HB HL
      go_wp2_with fail
      go_roundw
      case rel => exact ⟨i + 1, upd st x i, by go_num, by omega, HV, HA2, HB2⟩
      case measure => simp [intOf]; omega
    · have hlt' : ¬ (i : Int) < order.length := by omega
      have HS : Hid (∀ x, x < L.length → st x = order.idxOf x) := fun x hx => idx_of_list HL.out.2.2.1.1 HL.out.2.2.1.2.1 (fun j hj => HI.out j (by omega)) x (by rw [kOf_length]; exact hx)
      clear HI hlt
      go_wp2_with fail
      go_loopw [29] (fun iv wr => ∃ (i : Nat), iv = .int .i64 i ∧ i ≤ L.length ∧ Hid (∀ a, a < i → ∀ k, Ed (kOf L) a k → order.idxOf k < order.idxOf a) ∧ Hid (AtN 3 wr w.heap.size (fnV L.length st)) ∧ Hid (Below w.heap.size w wr)) (fun iv _ => L.length - (intOf iv).toNat)
      case atStart => exact ⟨0, rfl, by omega, fun j hj => by omega, HA, HB⟩
      case round =>
        clear HA HB hlt'
        obtain ⟨i, rfl, hi', HI, HA, HB⟩ := hrel
        by_cases hlt : i < L.length
        · have hlt' : (i : Int) < L.length := by omega
          obtain ⟨b1, o1, rfl, hb1, d1⟩ := (HL.out.1.below HB.out).top.at (lnV_at L i hlt)
          have HE : Hid (∀ W, Below w.heap.size w W → LsQ Q W (L.getD i noLn).a (nV (L.getD i noLn).ks)) := fun W hW => (HL.out.1.below hW).each i hlt
          have hkl : (L.getD i noLn).ks.length ≤ 20000 := HL.out.2.2.2.2.2 i hlt
          have HK : Hid (∀ k, Ed (kOf L) i k ↔ k ∈ (L.getD i noLn).ks) := fun k => by unfold Ed; rw [kOf_at]
          have HP : Hid (∀ k ∈ (L.getD i noLn).ks, k < L.length) := fun k hk => by
            have := HL.out.2.2.2.1 i k ((HK.out k).2 hk)
            rwa [kOf_length] at this
          generalize L.getD i noLn = N at *
          clear HL
          go_wp2_with fail
          go_loopw [36] (fun jv wr => ∃ (j : Nat), jv = .int .i64 j ∧ j ≤ N.ks.length ∧ Hid (∀ q, q < j → order.idxOf (N.ks.getD q 0) < order.idxOf i) ∧ Hid (AtN 3 wr w.heap.size (fnV L.length st)) ∧ Hid (Below w.heap.size w wr)) (fun jv _ => N.ks.length - (intOf jv).toNat)
          case atStart => exact ⟨0, rfl, by omega, fun j hj => by omega, HA, HB⟩
          case round =>
            clear HA HB d1 hb1
            obtain ⟨j, rfl, hj, HJ, HA, HB⟩ := hrel
            by_cases hjl : j < N.ks.length
            · have hjl' : (j : Int) < N.ks.length := by omega
              obtain ⟨b2, o2, e2, hb2, d2⟩ := LsQ.at (HE.out wr HB.out) (nV_at N.ks j hjl)
              have hx : N.ks.getD j 0 < L.length := HP.out _ (getD_mem hjl)
              have hx' : ((N.ks.getD j 0 : Nat) : Int) < L.length := by omega
              have y0 : wr.cell? ⟨w.heap.size, N.ks.getD j 0, none⟩ = some (.int .i64 (order.idxOf (N.ks.getD j 0) : Int)) := by rw [HA.out.cell, fnV_at _ _ _ hx, HS.out _ hx]
              have y1 : wr.cell? ⟨w.heap.size, i, none⟩ = some (.int .i64 (order.idxOf i : Int)) := by rw [HA.out.cell, fnV_at _ _ _ hlt, HS.out _ hlt]
              have HV : Hid (order.idxOf (N.ks.getD j 0) < order.idxOf i → ∀ q, q < j + 1 → order.idxOf (N.ks.getD q 0) < order.idxOf i) := fun h q hq => by
                by_cases e : q = j
                · rw [e]; exact h
                · exact HJ.out q (by omega)
              have HW : Hid (¬ order.idxOf (N.ks.getD j 0) < order.idxOf i → ¬ Behind (kOf L) order) := fun h q => h (q i _ ((HK.out _).2 (getD_mem hjl)))
              generalize N.ks.getD j 0 = x at *
              generalize order.idxOf x = p at *
              generalize order.idxOf i = s at *
              rw [e2]
              by_cases hps : p < s
              · have hps' : ¬ ((s : Int) ≤ p) := by omega
                have HV2 : Hid (∀ q, q < j + 1 → order.idxOf (N.ks.getD q 0) < s) := HV.out hps
                clear HJ HE HK HP HS HV HW HI hps
                go_wp2_with fail
                go_quiet (fail)
                go_wp2_with fail
                go_roundw
                case rel => exact ⟨j + 1, by go_num, by omega, HV2, HA, dn_below HB.out _⟩
                case measure => simp [intOf]; omega
              · have hps' : ((s : Int) ≤ p) := by omega
                have HW2 : Hid (¬ Behind (kOf L) order) := HW.out hps
                clear HJ HE HK HP HS HV HW HI hps
                go_wp2_with fail
                go_quiet (fail)
                go_wp2_with fail
                go_ret
                exact ⟨false, rfl, ⟨fun h => by simp at h, fun h => absurd h HW2.out⟩, dn_below HB.out _⟩
            · have hjl' : ¬ (j : Int) < N.ks.length := by omega
              have HV : Hid (∀ a, a < i + 1 → ∀ k, Ed (kOf L) a k → order.idxOf k < order.idxOf a) := fun a ha k hk => by
                by_cases e : a = i
                · subst e
                  obtain ⟨q, hq, rfl⟩ := List.getElem_of_mem ((HK.out k).1 hk)
                  have := HJ.out q (by omega)
                  rwa [show N.ks.getD q 0 = N.ks[q] by rw [List.getD_eq_getElem?_getD, List.getElem?_eq_getElem hq]; rfl] at this
                · exact HI.out a (by omega) k hk
              clear HJ HE HK HP HS HI
              go_wp2_with fail
              go_roundw
              case rel => exact ⟨i + 1, by go_num, by omega, HV, HA, HB⟩
              case measure => simp [intOf]; omega
        · have hlt' : ¬ (i : Int) < L.length := by omega
          have HV : Hid (Behind (kOf L) order) := fun a k hk => HI.out a (by have := hk.lt; rw [kOf_length] at this; omega) k hk
          clear HL HI HS HA
          go_wp2_with fail
          go_ret
          exact ⟨true, rfl, ⟨fun _ => HV.out, fun _ => rfl⟩, HB.out⟩

end Go.Proofs.YtcdpjaaiojpelaaDoor
