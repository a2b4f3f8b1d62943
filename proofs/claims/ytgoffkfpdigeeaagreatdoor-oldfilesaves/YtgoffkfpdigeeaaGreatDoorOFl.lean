/- A scene, flat: its canonical scene turned; the document's own Flat. (Laid ahead in round 15.) -/
import Derived.Test.YtgoffkfpdigeeaaGreatDoorCTrn
import Derived.Test.YtgoffkfpdigeeaaGreatDoorCC
namespace Go.Proofs.YtgoffkfpdigeeaaGreatDoor
open Go.RowKit Go.Maps Go.WideMaps Go.Sort

/-- The nodes of a scene made flat. -/
def fX (X : List Nx) (r : Int) : List Nd := ((cX X r).map (trnNd X.length)).reverse
theorem map_at {X : List Nx} {j : Nat} (h : j < X.length) : (X.map Nx.nd)[j]? = some (X.getD j noNx).nd := by
  rw [List.getElem?_map, List.getElem?_eq_getElem h, List.getD_eq_getElem?_getD, List.getElem?_eq_getElem h]
  rfl
/-- What is turned of the canonical scene is the flat one. -/
theorem flat_nds {X Y T : List Nx} {r : Int} (hY : Y.map Nx.nd = cX X r) (hl : Y.length = X.length) (ht : T.length = Y.length) (hn : ∀ j, j < Y.length → (T.getD j noNx).nd = trnNd Y.length (Y.getD (Y.length - 1 - j) noNx).nd) : T.map Nx.nd = fX X r := by
  have hc : (cX X r).length = Y.length := by rw [← hY, List.length_map]
  refine List.ext_getElem? fun j => ?_
  by_cases hj : j < Y.length
  · have hj2 : Y.length - 1 - j < Y.length := by omega
    have h3 := map_at hj2
    rw [hY] at h3
    rw [map_at (by omega), hn j hj]
    unfold fX
    rw [List.getElem?_reverse (by rw [List.length_map]; omega), List.length_map, hc, List.getElem?_map, h3, ← hl]
    rfl
  · rw [List.getElem?_eq_none (by rw [List.length_map]; omega), List.getElem?_eq_none (by unfold fX; rw [List.length_reverse, List.length_map]; omega)]
theorem trn_last (n : Nat) : trn n ((n : Int) - 1) = 0 := by
  unfold trn wrap64
  omega

/-- .. all of which is new from a place on. -/
def RFlatOut2 (X : List Nx) (r : Int) (w w' : World) (e : Ending) : Prop := ∃ (T : List Nx) (a : Option Addr) (c : Nat), e = .returned (.agg #[.slice a T.length c, .int .i64 0]) ∧ T.map Nx.nd = fX X r ∧ T.length = X.length ∧ (w'.ownsRow w.heap.size 51 4 (.slice a T.length c) T.length (nxV T) ∧ ∀ j, j < T.length → OwnNx w' w.heap.size (T.getD j noNx)) ∧ Below w.heap.size w w'
def RFlatOut (X : List Nx) (r : Int) (w w' : World) (e : Ending) : Prop := ∃ (T : List Nx) (a : Option Addr) (c : Nat), e = .returned (.agg #[.slice a T.length c, .int .i64 0]) ∧ T.map Nx.nd = fX X r ∧ T.length = X.length ∧ ScAt w' a T ∧ Below w.heap.size w w'

set_option maxRecDepth 10000 in
set_option maxHeartbeats 1000000 in
theorem rflat_any (X : List Nx) (a : Option Addr) (c : Nat) (r : Int) (w : World) (h : ScAt w a X) (hX : Small X) (hR : RightIs X r) :
    Calls Tryz.prog 17 #[.agg #[.slice a X.length c, .int .i64 r]] w fun e w' => RFlatOut X r w w' e := by
  have HA0 : Hid (∀ o1 o2 : Obj, o1 = .cells #[.slice a X.length c, .int .i64 r] 24 → o2 = .cells #[.slice none 0 0, .int .i64 0] 24 → AtN 24 ((w.alloc o1).alloc o2) w.heap.size #[.slice a X.length c, .int .i64 r] ∧ AtN 24 ((w.alloc o1).alloc o2) (w.heap.size + 1) #[.slice none 0 0, .int .i64 0] ∧ Below w.heap.size w ((w.alloc o1).alloc o2)) := by
    rintro _ _ rfl rfl
    exact ⟨(AtN.new w 24 _).alloc _, mk_at (AtN.new (w.alloc _) 24 _) (show _ = w.heap.size + 1 by simp), ((Below.refl w.heap.size w).alloc (Nat.le_refl _) _).alloc (by simp) _⟩
  have HC : Hid (∀ W, Below w.heap.size w W → Calls Tryz.prog 45 #[.agg #[.slice a X.length c, .int .i64 r]] W fun e w' => RCanOut X r W w' e) := fun W hb => rcanon_any X a c r W (h.belowB hb) hX hR
  have HTn : Hid (∀ (Y : List Nx) (a' : Option Addr) (c' : Nat) (W : World), Y.map Nx.nd = cX X r → ScAt W a' Y → Calls Tryz.prog 44 #[.agg #[.slice a' Y.length c', .int .i64 ((X.length : Int) - 1)]] W fun e w' => RFlatOut2 X r W w' e) := fun Y a' c' W hY hs => by
    have hRn := can_ren hR hY
    refine Calls.mono (sturn2_any Y a' c' ((X.length : Int) - 1) W hs (hRn.small hX)) ?_
    rintro e w' ⟨T, aT, cT, rfl, h1, h2, h3, h4⟩
    have h5 : trn Y.length ((X.length : Int) - 1) = 0 := by rw [hRn.len]; exact trn_last _
    rw [h5]
    exact ⟨T, aT, cT, rfl, flat_nds hY hRn.len h1 h2, by rw [h1, hRn.len], h3, h4⟩
  clear h hX hR
  go_enter Tryz.func17, Tryz.ntmps17
  go_wp2_with fail
  obtain ⟨hA, hA2, hB⟩ := HA0.out _ _ rfl rfl
  generalize ((w.alloc (.cells #[.slice a X.length c, .int .i64 r] 24)).alloc (.cells #[.slice none 0 0, .int .i64 0] 24)) = w0 at *
  have HB0 : Hid (Below w.heap.size w w0) := hB
  have HR0 : Hid (AtN 24 w0 (w.heap.size + 1) #[.slice none 0 0, .int .i64 0]) := hA2
  clear HA0 hA hA2 hB
  refine Calls.mono (HC.out _ HB0.out) ?_
  rintro e w1 ⟨Y, ay, cy, rfl, hY, hs, hb1⟩
  have HB1 : Hid (Below w.heap.size w w1) := HB0.out.trans (hb1.mono HB0.out.size)
  have HR1 : Hid (AtN 24 w1 (w.heap.size + 1) #[.slice none 0 0, .int .i64 0]) := HR0.out.belowAll hb1
  have HTc : Hid _ := HTn.out Y ay cy w1 hY hs
  clear HB0 HR0 HC HTn hY hs hb1
  go_wp2_with fail
  refine Calls.mono HTc.out ?_
  rintro e w2 ⟨T, aT, cT, rfl, h1, h2, h3, hb2⟩
  have HR2 : Hid (AtN 24 w2 (w.heap.size + 1) #[.slice none 0 0, .int .i64 0]) := HR1.out.belowAll hb2
  have z0 : w2.cell? ⟨w.heap.size + 1, 0, none⟩ = some (.slice none 0 0) := HR2.out.cell 0
  have z1 : w2.cell? ⟨w.heap.size + 1, 1, none⟩ = some (.int .i64 0) := HR2.out.cell 1
  have f0 := HR2.out.fz 0
  have f1 := HR2.out.fz 1
  have hg1 := HR2.out.lt
  have HO : Hid (∀ W, W = (w2.setCell ⟨w.heap.size + 1, 0, none⟩ (.slice aT T.length cT)).setCell ⟨w.heap.size + 1, 1, none⟩ (.int .i64 0) → RFlatOut X r w W (.returned (.agg #[.slice aT T.length cT, .int .i64 0])) ∧ AtN 24 W (w.heap.size + 1) #[.slice aT T.length cT, .int .i64 0]) := by
    rintro _ rfl
    have hfr : Fr (fun z => z = w.heap.size + 1) w2 ((w2.setCell ⟨w.heap.size + 1, 0, none⟩ (.slice aT T.length cT)).setCell ⟨w.heap.size + 1, 1, none⟩ (.int .i64 0)) := ((Fr.refl (fun z => z = w.heap.size + 1) w2).set ⟨w.heap.size + 1, 0, none⟩ rfl _).set ⟨w.heap.size + 1, 1, none⟩ rfl _
    have hal : Alien w2 (fun z => z = w.heap.size + 1) := fun z hz _ => ⟨_, _, _, hz ▸ HR2.out, by decide, by decide, by decide⟩
    have hlt : w.heap.size + 1 < w1.heap.size := HR1.out.lt
    have hB2 := HB1.out.trans (hb2.mono HB1.out.size)
    refine ⟨⟨T, aT, cT, rfl, h1, h2, ⟨LsAt.of_own4' (own_fr h3.1 hfr (fun z hz e => by have := (h3.1.lt z hz).1; omega)), fun j hj => ((h3.2 j hj).fr hfr hal).ndAt⟩, Fr.below hB2 hfr (fun z e => by omega) hB2.size⟩, ?_⟩
    have := AtN.set (AtN.set HR2.out 0 (.slice aT T.length cT)) 1 (.int .i64 0)
    simpa using this
  clear HTc HB1 HR1 HR2 h1 h2 h3 hb2
  go_wp2_with fail
  obtain ⟨v1, v2⟩ := HO.out _ rfl
  have c0 := v2.cell 0
  have c1 := v2.cell 1
  have e0 : (#[Value.slice aT T.length cT, Value.int .i64 0] : Array Value)[0]? = some (.slice aT T.length cT) := rfl
  have e1 : (#[Value.slice aT T.length cT, Value.int .i64 0] : Array Value)[1]? = some (.int .i64 0) := rfl
  rw [e0] at c0
  rw [e1] at c1
  exact bodyPost_ret (v := .agg #[.slice aT T.length cT, .int .i64 0]) (by simp [results, Tryz.results17, go_sem, c0, c1]) rfl v1
end Go.Proofs.YtgoffkfpdigeeaaGreatDoor
