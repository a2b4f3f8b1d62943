/- The contract of the document's own Put: of any sections what the plain mathematics says. -/
import Derived.Test.YtipljconbnaffaaFPut
import Derived.Test.YtipljconbnaffaaRefPut
import Derived.Test.YtipljconbnaffaaJoins
import Derived.Test.YtipljconbnaffaaMaker
import Derived.BigQuiet
namespace Go.Proofs.Ytipljconbnaffaa
open Go.RowKit

set_option maxRecDepth 10000 in
set_option maxHeartbeats 400000 in
theorem rput_first (m : ByteArray) (v : Int) (a : Option Addr) (n cap : Nat) (w : World) (h : cf m.size v n ≠ 0) :
    Calls Try.prog 12 #[.string m, .int .i64 v, .slice a n cap] w fun e w' => e = .returned (.tuple #[.string ⟨#[]⟩, .int .i64 (cf m.size v n)]) ∧ Below w.heap.size w w' := by
  unfold cf at h ⊢
  by_cases h1 : m.size = 4
  · have h1' : (m.size : Int) = 4 := by omega
    rw [if_neg (by simpa using h1)] at h ⊢
    by_cases h2 : v < 1
    · rw [if_pos (.inl h2)]
      go_enter Try.func12, Try.ntmps12
      go_wp2_with fail
      go_ret2
      exact ⟨rfl, Below.refl _ _⟩
    by_cases h3 : 255 < v
    · rw [if_pos (.inr h3)]
      go_enter Try.func12, Try.ntmps12
      go_wp2_with fail
      go_ret2
      exact ⟨rfl, Below.refl _ _⟩
    rw [if_neg (by omega)] at h ⊢
    by_cases h4 : (8 : Int) < n
    · rw [if_pos h4]
      go_enter Try.func12, Try.ntmps12
      go_wp2_with fail
      go_ret2
      exact ⟨rfl, Below.refl _ _⟩
    · rw [if_neg h4] at h; exact absurd rfl h
  · have h1' : ¬ (m.size : Int) = 4 := by omega
    rw [if_pos (by simpa using h1)]
    go_enter Try.func12, Try.ntmps12
    go_wp2_with fail
    go_ret2
    exact ⟨rfl, Below.refl _ _⟩

/-- The answer out of what is built. -/
theorem put_end (m : ByteArray) (v : Int) (L : List Sec) (h : cf m.size v L.length = 0) (C : Int) (hC : chk L = C) : pPut m v L = if C ≠ 0 then ([], C) else (m.data.toList ++ UInt8.ofNat v.toNat :: bodyL L, 0) := by
  obtain ⟨_, _, _, _, h5⟩ := pPut_second m v L h
  rw [h5, hC]

set_option maxRecDepth 10000 in
set_option maxHeartbeats 6000000 in
theorem rput_go (m : ByteArray) (v : Int) (a : Option Addr) (cap b o : Nat) (L : List Sec) (w : World) (h : cf m.size v L.length = 0) (ha : 0 < L.length → a = some ⟨b, o, none⟩) (hs : SecAt w b o L) (hp : ∀ s ∈ L, s.2.size ≤ 4000) :
    Calls Try.prog 12 #[.string m, .int .i64 v, .slice a L.length cap] w fun e w' => e = .returned (.tuple #[.string ⟨(pPut m v L).1.toArray⟩, .int .i64 (pPut m v L).2]) ∧ Below w.heap.size w w' := by
  obtain ⟨hm4, hv1, hv2, hL8, -⟩ := pPut_second m v L h
  obtain ⟨C, hC⟩ : ∃ C, chk L = C := ⟨_, rfl⟩
  have hR := put_end m v L h C hC
  have HR : Hid ((C ≠ 0 → pPut m v L = ([], C)) ∧ (C = 0 → pPut m v L = (m.data.toList ++ UInt8.ofNat v.toNat :: bodyL L, 0))) := ⟨fun hc => by rw [hR, if_pos hc], fun hc => by rw [hR, if_neg (by simpa using hc)]⟩
  clear hR
  generalize pPut m v L = R at *
  obtain ⟨vn, rfl⟩ := Int.eq_ofNat_of_zero_le (show 0 ≤ v by omega)
  have hm' : (m.size : Int) = 4 := by omega
  have hL' : ¬ (8 : Int) < L.length := by omega
  have hvw : IntKind.u8.wrap (vn : Int) = vn := by rw [IntKind.wrap_u8']; omega
  have hcv := fun (W : World) (g : Nat) => conv_one (P := Try.prog) W 48 9 5 Try.underlying48 Try.underlying5 Try.underlying9 g 1 (vn : Int) (by omega) (by omega)
  rw [Int.toNat_natCast] at hcv
  have dv : (ByteArray.mk [UInt8.ofNat vn].toArray).data.toList = [UInt8.ofNat vn] := rfl
  have zv : (ByteArray.mk [UInt8.ofNat vn].toArray).size = 1 := rfl
  have HD0 : Hid (m.data.toList ++ UInt8.ofNat vn :: bodyL L = m.data.toList ++ [UInt8.ofNat vn] ++ bodyL (L.take L.length)) := by show _ = _; simp
  rw [Int.toNat_natCast, HD0.out, ← dv] at HR
  generalize ByteArray.mk [UInt8.ofNat vn].toArray = Sv at *
  have A0 := fun (W : World) => run_string_add_sum (P := Try.prog) W m Sv (by omega)
  have hX0 : (m ++ Sv).data.toList = m.data.toList ++ Sv.data.toList := data_two m Sv
  have hZ0 : (m ++ Sv).size = 5 := by rw [ByteArray.size_append]; omega
  rw [← hX0] at HR
  generalize m ++ Sv = X0 at *
  have HB : Hid (∀ i, (X0.data.toList ++ bodyL (L.take i)).length ≤ 40000) := fun i => by
    have h1 := bodyL_le 4000 (L.take i) (fun s hs => hp s (List.mem_of_mem_take hs))
    have h2 : (L.take i).length ≤ 8 := by rw [List.length_take]; omega
    have h3 : (L.take i).length * (4000 + 15) ≤ 8 * 4015 := Nat.mul_le_mul h2 (Nat.le_refl _)
    rw [List.length_append, list_size]
    omega
  have HC : Hid (chk (L.drop 0) = C) := hC
  clear h hC dv zv HD0 hX0
  go_enter Try.func12, Try.ntmps12
  go_wp2_with fail
  have hb0 : Below w.heap.size w (w.alloc (.cells #[.int .u8 (vn : Int)] 5)) := (Below.refl _ _).alloc (Nat.le_refl _) _
  go_loopw [8, 9] (fun xv iv wr => ∃ (i : Nat) (X : ByteArray), xv = .string X ∧ iv = .int .i64 i ∧ i ≤ L.length ∧ X.size ≤ 40000 ∧ Hid (X.data.toList = X0.data.toList ++ bodyL (L.take i)) ∧ Hid (chk (L.drop i) = C) ∧ Below w.heap.size w wr) (fun _ iv _ => L.length - (intOf iv).toNat)
  case atStart => exact ⟨0, X0, rfl, rfl, by omega, by omega, by show _ = _; simp [bodyL], HC, hb0⟩
  case round =>
    obtain ⟨i, X, rfl, rfl, hi, hX, HX, HI, hB⟩ := hrel
    clear hb0 HC hcv A0 hvw
    by_cases hlt : i < L.length
    · obtain rfl := ha (by omega)
      obtain ⟨hbl0, c0, c1⟩ := hs i hlt
      rw [← (bcell hB).1 b _ hbl0] at c0 c1
      have hbl : b < wr.heap.size := Nat.lt_of_lt_of_le hbl0 hB.size
      have hI := HI.out
      rw [List.drop_eq_getElem_cons hlt, chk] at hI
      have hpi := hp _ (List.getElem_mem hlt)
      have HT : Hid (X0.data.toList ++ bodyL (L.take (i + 1)) = X.data.toList ++ secL L[i]) := by show _ = _; rw [bodyL_take L i hlt, ← List.append_assoc, HX.out]
      have hln := HB.out (i + 1)
      rw [HT.out] at hln
      generalize L[i] = s at *
      obtain ⟨x, p⟩ := s
      dsimp only at c0 c1 hI hpi
      clear HX HI
      by_cases h2 : x < 1
      · rw [if_pos (.inl h2)] at hI
        have HQ : Hid (R = ([], 4)) := by have := HR.out.1 (by omega); rw [← hI] at this; exact this
        clear hI
        go_wp2_with fail
        go_ret2
        rw [HQ.out]
        exact ⟨rfl, hB⟩
      by_cases h3 : 255 < x
      · rw [if_pos (.inr h3)] at hI
        have HQ : Hid (R = ([], 4)) := by have := HR.out.1 (by omega); rw [← hI] at this; exact this
        clear hI
        go_wp2_with fail
        go_ret2
        rw [HQ.out]
        exact ⟨rfl, hB⟩
      rw [if_neg (by omega), if_neg (by omega)] at hI
      have HN : Hid (chk (L.drop (i + 1)) = C) := hI
      obtain ⟨xn, rfl⟩ := Int.eq_ofNat_of_zero_le (show 0 ≤ x by omega)
      have hxw : IntKind.u8.wrap (xn : Int) = xn := by rw [IntKind.wrap_u8']; omega
      have hp4 : ¬ (16777216 : Int) < p.size := by omega
      have hcx := fun (W : World) (g : Nat) => conv_one (P := Try.prog) W 48 9 5 Try.underlying48 Try.underlying5 Try.underlying9 g 1 (xn : Int) (by omega) (by omega)
      rw [Int.toNat_natCast] at hcx
      have P1 := fun W => refput_any (p.size : Int) W (by omega) (by omega)
      rw [Int.toNat_natCast] at P1
      have z1 := (put_length p.size).2
      have d0 : (ByteArray.mk [UInt8.ofNat xn].toArray).data.toList = [UInt8.ofNat xn] := rfl
      have z0 : (ByteArray.mk [UInt8.ofNat xn].toArray).size = 1 := rfl
      have d1 : (ByteArray.mk (put p.size).toArray).data.toList = put p.size := rfl
      have P2 := fun W => refsum_any p W (by omega)
      have P3 := fun W => refput4_any (crc p.data.toList) W (crc_lt _)
      have d3 : (ByteArray.mk (four (crc p.data.toList)).toArray).data.toList = four (crc p.data.toList) := rfl
      have z3 : (ByteArray.mk (four (crc p.data.toList)).toArray).size = 4 := rfl
      have HSL : Hid (secL ((xn : Int), p) = [UInt8.ofNat xn] ++ put p.size ++ p.data.toList ++ four (crc p.data.toList)) := by show _ = _; simp [secL]
      rw [HSL.out, ← d0, ← d1, ← d3, ← data_two, ← data_two, ← data_two, ← data_two] at HT hln
      rw [← d1, list_size] at z1
      rw [list_size] at hln
      generalize ByteArray.mk [UInt8.ofNat xn].toArray = S0 at *
      generalize ByteArray.mk (put p.size).toArray = S1 at *
      generalize ByteArray.mk (four (crc p.data.toList)).toArray = S3 at *
      generalize crc p.data.toList = K at *
      have A1 := fun (W : World) => run_string_add_sum (P := Try.prog) W S0 S1 (by omega)
      have A2 := fun (W : World) => run_string_add_sum (P := Try.prog) W (S0 ++ S1) p (by rw [ByteArray.size_append]; omega)
      have A3 := fun (W : World) => run_string_add_sum (P := Try.prog) W (S0 ++ S1 ++ p) S3 (by rw [ByteArray.size_append, ByteArray.size_append]; omega)
      have A4 := fun (W : World) => run_string_add_sum (P := Try.prog) W X (S0 ++ S1 ++ p ++ S3) (by rw [ByteArray.size_append, ByteArray.size_append, ByteArray.size_append]; omega)
      have HP1 : Hid _ := P1
      have HP2 : Hid _ := P2
      have HP3 : Hid _ := P3
      clear P1 P2 P3 d0 d1 d3 HSL HB hs ha hp hI
      go_wp2_with fail
      refine maker_region 7 8 _ _ 62 63 61 (.int .u8 (xn : Int)) (.string S0) 5 ?aFin (by kernel_rfl) (by kernel_rfl) rfl rfl (by kernel_rfl) ?make ?read ?hq ?hsz ?endX ?endY ?hQ
      case make =>
        intro a W ha
        have ha' : a.tmps[61]?.getD undef = .int .u8 (xn : Int) := by simpa [Act.eval] using ha
        clear ha
        go_simp
      case read =>
        intro a W g ha hg
        have hr := hcx W g hg
        have ha' : a.tmps[62]?.getD undef = .slice (some ⟨g, 0, none⟩) 1 1 := by simpa [Act.eval] using ha
        clear ha
        go_simp
      case hq =>
        intro u hu
        unfold Cr
        simp only [mkL, List.set_cons_zero, List.set_cons_succ]
        rw [← (bcell hu).1 b _ hbl] at c0 c1
        have m0 := fun d os => cell_regrown c0 d os
        have m1 := fun d os => cell_regrown c1 d os
        have cB : ∀ d os, Calls Try.prog 25 #[.int .u64 (p.size : Int)] (Go.Sort.grow (redrawn u d) os) fun r w'' => r = .returned (.string S1) ∧ ∃ q : Regrown, w'' = Go.Sort.grow (redrawn u q.d) q.os := fun d os => Calls.regrown_of (HP1.out _)
        have cS : ∀ d os, Calls Try.prog 27 #[.string p] (Go.Sort.grow (redrawn u d) os) fun r w'' => r = .returned (.int .u32 (K : Nat)) ∧ ∃ q : Regrown, w'' = Go.Sort.grow (redrawn u q.d) q.os := fun d os => Calls.regrown_of ((HP2.out _).mono fun _ _ ⟨h1, h2⟩ => ⟨h1, by rw [h2]; exact Below.refl _ _⟩)
        have cC : ∀ d os, Calls Try.prog 26 #[.int .u32 (K : Nat)] (Go.Sort.grow (redrawn u d) os) fun r w'' => r = .returned (.string S3) ∧ ∃ q : Regrown, w'' = Go.Sort.grow (redrawn u q.d) q.os := fun d os => Calls.regrown_of (HP3.out _)
        repeat (first | go_big_quiet_step (first | (go_at_call 25; exact cB _ _) | (go_at_call 27; exact cS _ _) | (go_at_call 26; exact cC _ _)) | quiet_step (first | (go_at_call 25; exact cB _ _) | (go_at_call 27; exact cS _ _) | (go_at_call 26; exact cC _ _)))
        refine wpQuiet_nil ?_
        rfl
      case hsz => rfl
      case endX => rfl
      case endY => rfl
      case hQ =>
        intro V W hW
        have hB2 : Below w.heap.size w W := hB.trans (hW.mono hB.size)
        clear A1 A2 A3 A4 hcx HP1 HP2 HP3 c0 c1
        simp only [Act.put, List.setIfInBounds_toArray, List.set_cons_zero, List.set_cons_succ]
        go_wp2_with fail
        go_roundw
        case rel => exact ⟨i + 1, X ++ (S0 ++ S1 ++ p ++ S3), rfl, by go_num, by omega, hln, HT.out.symm, HN, hB2⟩
        case measure => simp [intOf]; omega
    · have HQ : Hid (R = ((X.data.toList), 0)) := by
        have h1 := HI.out
        rw [List.drop_of_length_le (by omega)] at h1
        have h2 := HR.out.2 h1.symm
        rw [show i = L.length by omega] at HX
        rw [← HX.out] at h2
        exact h2
      clear HR HI HX
      go_wp2_with fail
      go_ret2
      rw [HQ.out]
      exact ⟨rfl, hB⟩

/-- The document's Put, of any sections that aren't great. -/
theorem rput_any (m : ByteArray) (v : Int) (a : Option Addr) (cap b o : Nat) (L : List Sec) (w : World) (ha : 0 < L.length → a = some ⟨b, o, none⟩) (hs : SecAt w b o L) (hp : ∀ s ∈ L, s.2.size ≤ 4000) :
    Calls Try.prog 12 #[.string m, .int .i64 v, .slice a L.length cap] w fun e w' => e = .returned (.tuple #[.string ⟨(pPut m v L).1.toArray⟩, .int .i64 (pPut m v L).2]) ∧ Below w.heap.size w w' := by
  by_cases h : cf m.size v L.length = 0
  · exact rput_go m v a cap b o L w h ha hs hp
  · rw [pPut_first m v L h]
    exact rput_first m v a L.length cap w h

end Go.Proofs.Ytipljconbnaffaa
