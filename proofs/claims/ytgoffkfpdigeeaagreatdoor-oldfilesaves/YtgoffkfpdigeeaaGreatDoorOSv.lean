/- The contracts of the document's own Bytes and Save of a file of version 1. -/
import Derived.Test.YtgoffkfpdigeeaaGreatDoorORc
import Derived.Test.YtgoffkfpdigeeaaGreatDoorQE
import Derived.Test.YtgoffkfpdigeeaaGreatDoorLVaO
import Derived.Test.YtgoffkfpdigeeaaGreatDoorOIs
namespace Go.Proofs.YtgoffkfpdigeeaaGreatDoor
open Go.RowKit Go.Maps Go.WideMaps Go.Sort

theorem sec_at1 {W : World} {g : Nat} {R : ByteArray} (h : AtN 55 W g #[.int .i64 1, .string R]) : SecAt W g 0 (oS R) := fun i hi => by
  match i, hi with
  | 0, _ => exact ⟨h.lt, h.cell 0, h.cell 1⟩
/-- What Save leaves. -/
def SoOut (X : List Nx) (r : Int) (l : Lm) (w w' : World) (e : Ending) : Prop := ∃ (B : ByteArray) (k : Int), e = .returned (.tuple #[.string B, .int .i64 k]) ∧ SoIs X r l B k ∧ Below w.heap.size w w'

set_option maxRecDepth 10000 in
set_option maxHeartbeats 1000000 in
theorem robytes_any (X : List Nx) (a : Option Addr) (c : Nat) (r : Int) (w : World) (h : ScAt w a X) (hX : Small X) (hF : FnX X) (hW : tyEo X = 0) (hR : RightIs X r) (hz : (oC (X.map Nx.nd)).size ≤ 4000000) :
    Calls Tryz.prog 19 #[.agg #[.slice a X.length c, .int .i64 r]] w fun e w' => e = .returned (.string (oF (X.map Nx.nd))) ∧ Below w.heap.size w w' := by
  have HB0 : Hid (Below w.heap.size w (w.alloc (.cells #[.slice a X.length c, .int .i64 r] 24))) := (Below.refl _ _).alloc (Nat.le_refl _) _
  have HC : Hid (∀ W, Below w.heap.size w W → Calls Tryz.prog 49 #[.agg #[.slice a X.length c, .int .i64 r]] W fun e w' => e = .returned (.string (oC (X.map Nx.nd))) ∧ Below W.heap.size W w') := fun W hb => rrec_any X a c r W (h.belowB hb) hX hF hW hR
  have HS : Hid (∀ (W : World) (g : Nat), AtN 55 W g #[.int .i64 1, .string (oC (X.map Nx.nd))] → Calls Tryz.prog 23 #[.string ⟨#[68, 73, 79, 82]⟩, .int .i64 1, .slice (some ⟨g, 0, none⟩) 1 1] W fun e w' => e = .returned (.tuple #[.string (oF (X.map Nx.nd)), .int .i64 0]) ∧ Below W.heap.size W w') := fun W g hs => by
    have h := rput_any mD 1 (some ⟨g, 0, none⟩) 1 g 0 (oS (oC (X.map Nx.nd))) W (fun _ => rfl) (sec_at1 hs) (fun s q => by
      simp only [oS, List.mem_cons, List.not_mem_nil, or_false] at q
      subst q
      exact hz)
    rw [oS_put (by omega)] at h
    exact h
  clear h hX hF hW hR hz
  generalize oF (X.map Nx.nd) = F at *
  generalize oC (X.map Nx.nd) = C at *
  go_enter Tryz.func19, Tryz.ntmps19
  go_wp2_with fail
  refine Calls.mono (HC.out _ HB0.out) ?_
  rintro e w2 ⟨rfl, hb1⟩
  have HB2 : Hid (Below w.heap.size w w2) := HB0.out.trans (hb1.mono HB0.out.size)
  have HSc : Hid (∀ o : Obj, o = .cells #[.int .i64 1, .string C] 55 → Below w.heap.size w (w2.alloc o) ∧ Calls Tryz.prog 23 #[.string ⟨#[68, 73, 79, 82]⟩, .int .i64 1, .slice (some ⟨w2.heap.size, 0, none⟩) 1 1] (w2.alloc o) fun e w' => e = .returned (.tuple #[.string F, .int .i64 0]) ∧ Below (w2.alloc o).heap.size (w2.alloc o) w') := by
    rintro _ rfl
    exact ⟨HB2.out.alloc HB2.out.size _, HS.out _ _ (AtN.new w2 55 _)⟩
  clear HB0 HC hb1 HS
  go_wp2_with fail
  obtain ⟨hb3, hc3⟩ := HSc.out _ rfl
  refine Calls.mono hc3 ?_
  rintro e w4 ⟨rfl, hb4⟩
  have HB4 : Hid (Below w.heap.size w w4) := hb3.trans (hb4.mono hb3.size)
  clear HSc hb3 hc3 hb4
  go_wp2_with fail
  go_ret
  exact ⟨rfl, HB4.out⟩

set_option maxRecDepth 10000 in
set_option maxHeartbeats 1000000 in
theorem rosave_any (X : List Nx) (a : Option Addr) (c : Nat) (r : Int) (l : Lm) (w : World) (h : ScAt w a X) (hX : Small X) (hF : FnX X) (hz : tyEo X = 0 → RightIs X r → (oC (X.map Nx.nd)).size ≤ 4000000) :
    Calls Tryz.prog 12 #[.agg #[.slice a X.length c, .int .i64 r], .agg #[.int .i64 l.b, .int .i64 l.n, .int .i64 l.e, .int .i64 l.d, .int .i64 l.x]] w fun e w' => SoOut X r l w w' e := by
  obtain ⟨d, hd⟩ := depth_there X r
  have HA : Hid (∀ (o1 o2 : Obj), o1 = .cells #[.slice a X.length c, .int .i64 r] 24 → o2 = .cells #[.int .i64 l.b, .int .i64 l.n, .int .i64 l.e, .int .i64 l.d, .int .i64 l.x] 26 → AtN 24 ((w.alloc o1).alloc o2) w.heap.size #[.slice a X.length c, .int .i64 r] ∧ AtN 26 ((w.alloc o1).alloc o2) (w.heap.size + 1) #[.int .i64 l.b, .int .i64 l.n, .int .i64 l.e, .int .i64 l.d, .int .i64 l.x] ∧ Below w.heap.size w ((w.alloc o1).alloc o2)) := by
    rintro _ _ rfl rfl
    exact ⟨(AtN.new w 24 _).alloc _, mk_at (AtN.new (w.alloc _) 26 _) (show _ = w.heap.size + 1 by simp), ((Below.refl w.heap.size w).alloc (Nat.le_refl _) _).alloc (by simp) _⟩
  have HV : Hid (∀ W, Below w.heap.size w W → Calls Tryz.prog 31 #[.agg #[.slice a X.length c, .int .i64 r], .agg #[.int .i64 l.b, .int .i64 l.n, .int .i64 l.e, .int .i64 l.d, .int .i64 l.x]] W fun e w' => VoOut X r l d W w' e) := fun W hW => rvalid1_any X a c r l d W (h.belowB hW) hX hF hd
  have HIs : Hid (∀ W, Below w.heap.size w W → Calls Tryz.prog 32 #[.agg #[.slice a X.length c, .int .i64 r]] W fun e w' => FowOut X r W w' e) := fun W hW => ris16_any X a c r W (h.belowB hW) hX
  have HBy : Hid (∀ W, tyEo X = 0 → RightIs X r → Below w.heap.size w W → Calls Tryz.prog 19 #[.agg #[.slice a X.length c, .int .i64 r]] W fun e w' => e = .returned (.string (oF (X.map Nx.nd))) ∧ Below W.heap.size W w') := fun W hw hr hW => robytes_any X a c r W (h.belowB hW) hX hF hw hr (hz hw hr)
  have HI : Hid (∀ n z B e, VoIs X r l d n z → ((n ≠ 0 ∧ e = n ∧ B = ⟨#[]⟩) ∨ (n = 0 ∧ ((¬ FowIs X r ∧ e = 16 ∧ B = ⟨#[]⟩) ∨ (FowIs X r ∧ ((l.b < (oF (X.map Nx.nd)).size ∧ e = 19 ∧ B = ⟨#[]⟩) ∨ (¬ l.b < (oF (X.map Nx.nd)).size ∧ e = 0 ∧ B = oF (X.map Nx.nd))))))) → SoIs X r l B e) := fun n z B e h1 h2 => ⟨d, n, z, hd, h1, h2⟩
  generalize oF (X.map Nx.nd) = F at *
  clear h hX hF hz hd
  go_enter Tryz.func12, Tryz.ntmps12
  go_wp2_with fail
  obtain ⟨h1, h2, h3⟩ := HA.out _ _ rfl rfl
  refine Calls.mono (HV.out _ h3) ?_
  rintro e w1 ⟨n, z, rfl, hv, hb1⟩
  have HS1 : Hid (AtN 24 w1 w.heap.size #[.slice a X.length c, .int .i64 r]) := h1.belowAll hb1
  have HL1 : Hid (AtN 26 w1 (w.heap.size + 1) #[.int .i64 l.b, .int .i64 l.n, .int .i64 l.e, .int .i64 l.d, .int .i64 l.x]) := h2.belowAll hb1
  have HB1 : Hid (Below w.heap.size w w1) := h3.trans (hb1.mono h3.size)
  have HVa : Hid (VoIs X r l d n z) := hv
  clear HA HV h1 h2 h3 hb1 hv
  by_cases hn : n = 0
  · subst hn
    have HW : Hid (okL l = true ∧ WhoO X r ∧ inL (meL X d) l = true) := HVa.out.zero.1 rfl
    have x0 : w1.cell? ⟨w.heap.size, 0, none⟩ = some (.slice a X.length c) := HS1.out.cell 0
    have x1 : w1.cell? ⟨w.heap.size, 1, none⟩ = some (.int .i64 r) := HS1.out.cell 1
    have HIc : Hid _ := HIs.out w1 HB1.out
    clear HIs
    go_wp2_with fail
    refine Calls.mono HIc.out ?_
    rintro e w2 ⟨q, rfl, hq, hb2⟩
    have HS2 : Hid (AtN 24 w2 w.heap.size #[.slice a X.length c, .int .i64 r]) := HS1.out.belowAll hb2
    have HL2 : Hid (AtN 26 w2 (w.heap.size + 1) #[.int .i64 l.b, .int .i64 l.n, .int .i64 l.e, .int .i64 l.d, .int .i64 l.x]) := HL1.out.belowAll hb2
    have HB2 : Hid (Below w.heap.size w w2) := HB1.out.trans (hb2.mono HB1.out.size)
    have HQ : Hid (q = true ↔ FowIs X r) := hq
    clear HIc HS1 HL1 HB1 hb2 hq x0 x1
    cases q with
    | false =>
      have HP : Hid (SoIs X r l ⟨#[]⟩ 16) := HI.out 0 z _ _ HVa.out (.inr ⟨rfl, .inl ⟨fun p => absurd (HQ.out.2 p) (by simp), rfl, rfl⟩⟩)
      clear HI HVa HW HQ HBy
      go_wp2_with fail
      go_ret2
      exact ⟨_, _, rfl, HP.out, HB2.out⟩
    | true =>
      have HFw : Hid (FowIs X r) := HQ.out.1 rfl
      have x0 : w2.cell? ⟨w.heap.size, 0, none⟩ = some (.slice a X.length c) := HS2.out.cell 0
      have x1 : w2.cell? ⟨w.heap.size, 1, none⟩ = some (.int .i64 r) := HS2.out.cell 1
      have HBc : Hid _ := HBy.out w2 HW.out.2.1.1 HW.out.2.1.2 HB2.out
      clear HBy
      go_wp2_with fail
      refine Calls.mono HBc.out ?_
      rintro e w3 ⟨rfl, hb3⟩
      have HL3 : Hid (AtN 26 w3 (w.heap.size + 1) #[.int .i64 l.b, .int .i64 l.n, .int .i64 l.e, .int .i64 l.d, .int .i64 l.x]) := HL2.out.belowAll hb3
      have HB3 : Hid (Below w.heap.size w w3) := HB2.out.trans (hb3.mono HB2.out.size)
      have y0 : w3.cell? ⟨w.heap.size + 1, 0, none⟩ = some (.int .i64 l.b) := HL3.out.cell 0
      clear HBc HS2 HL2 HB2 hb3 x0 x1
      by_cases hlt : l.b < (F.size : Int)
      · have HP : Hid (SoIs X r l ⟨#[]⟩ 19) := HI.out 0 z _ _ HVa.out (.inr ⟨rfl, .inr ⟨HFw.out, .inl ⟨hlt, rfl, rfl⟩⟩⟩)
        clear HI HVa HW HQ HFw
        go_wp2_with fail
        go_ret2
        exact ⟨_, _, rfl, HP.out, HB3.out⟩
      · have hlt' : ¬ l.b < (F.size : Int) := hlt
        have HP : Hid (SoIs X r l F 0) := HI.out 0 z _ _ HVa.out (.inr ⟨rfl, .inr ⟨HFw.out, .inr ⟨by first | exact hlt | exact Int.not_lt.1 hlt, rfl, rfl⟩⟩⟩)
        clear HI HVa HW HQ HFw
        go_wp2_with fail
        go_ret2
        exact ⟨_, _, rfl, HP.out, HB3.out⟩
  · have hn' : (n != 0) = true := by simpa using hn
    have HP : Hid (SoIs X r l ⟨#[]⟩ n) := HI.out n z _ _ HVa.out (.inl ⟨hn, rfl, rfl⟩)
    clear HI HVa HBy HIs
    go_wp2_with fail
    go_ret2
    exact ⟨_, _, rfl, HP.out, HB1.out⟩
end Go.Proofs.YtgoffkfpdigeeaaGreatDoor
