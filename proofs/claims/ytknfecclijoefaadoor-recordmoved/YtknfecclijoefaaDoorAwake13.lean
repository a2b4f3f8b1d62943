/- What the law's own awake asks: one group, put and got. -/
import Derived.Test.YtknfecclijoefaaDoorRPp
import Derived.Test.YtknfecclijoefaaDoorRGp
import Derived.Test.YtknfecclijoefaaDoorRLw
import Derived.Test.YtknfecclijoefaaDoorCSame8
namespace Go.Proofs.YtknfecclijoefaaDoor
open Go.RowKit

theorem ls_of {T : TypeId} {W : World} {g : Nat} {cs : List Value} (h : AtN T W g cs.toArray) : LsAt W (some ⟨g, 0, none⟩) cs := by
  refine ⟨g, 0, fun _ => rfl, fun i _ => ⟨h.lt, ?_⟩⟩
  rw [Nat.zero_add, h.cell]
  simp
theorem text_of {S : ByteArray} {l : List UInt8} (h : S.data.toList = l) : S = ⟨l.toArray⟩ := by
  subst h
  cases S
  simp
theorem bjoin {B : Nat} {a b c : World} (h : Below B a b) (h2 : Below b.heap.size b c) (hs : B ≤ b.heap.size) : Below B a c := h.trans (h2.mono hs)

def aT : ByteArray := ⟨#[97]⟩
def aN : Nd := ⟨1, [], [aT], [1, 1, 0]⟩
theorem aN_2 : rE aN 2 = 0 := by decide +kernel
theorem aN_1 : rE aN 1 = 13 := by decide +kernel
theorem aN_B : rB aN 2 [] = [1, 0, 3, 1, 1, 2] := by decide +kernel
theorem aN_M : itF [] aN.texts = [aT] := by decide +kernel
theorem aN_G : gNd ⟨#[1, 0, 3, 1, 1, 2]⟩ 2 [aT] 9 0 0 = (aN, 6, 0) := by kernel_rfl
theorem aN_S : sameB aN aN = true := (sameB_iff _ _).2 rfl

/-- The node of awake in memory, and the table. -/
structure Aw (w W : World) (gt g gm : Nat) (v : Value) (M : List ByteArray) : Prop where
  t : AtN 9 W gt #[.string ⟨#[97]⟩]
  k : AtN 3 W (gt + 1) #[.int .i64 1, .int .i64 1, .int .i64 0]
  n : AtN 26 W (gt + 1 + 1) #[.int .i64 1, .slice none 0 0, .slice (some ⟨gt, 0, none⟩) 1 1, .slice (some ⟨gt + 1, 0, none⟩) 3 3]
  tb : Tb W w.heap.size g gm v M
  lo : ∀ k, TbS g gm v k → k < gt ∨ gt + 1 + 1 < k
  bel : Below w.heap.size w W
  hgt : w.heap.size ≤ gt
section
variable {w W W' : World} {gt g gm : Nat} {v : Value} {M M' : List ByteArray}
theorem Aw.more (h : Aw w W gt g gm v M) (hb : Below W.heap.size W W') : Aw w W' gt g gm v M := ⟨h.t.belowAll hb, h.k.belowAll hb, h.n.belowAll hb, h.tb.below hb, h.lo, h.bel.trans (hb.mono h.bel.size), h.hgt⟩
theorem Aw.nd (h : Aw w W gt g gm v M) (k : Fr (TbS g gm v) W W') : NdAt W' aN none (some ⟨gt, 0, none⟩) (some ⟨gt + 1, 0, none⟩) :=
  ⟨LsAt.nil _ _, ls_of (h.t.fr k (fun q => by have := h.lo _ q; omega)), ls_of (h.k.fr k (fun q => by have := h.lo _ q; omega))⟩
theorem Aw.put (h : Aw w W gt g gm v M) (hi : TIn W W' w.heap.size g gm v M') : ∃ v', Aw w W' gt g gm v' M' := by
  obtain ⟨v', ht, hf, hr⟩ := hi
  have h1 := h.n.lt
  exact ⟨v', h.t.fr hf (fun q => by have := h.lo _ q; omega), h.k.fr hf (fun q => by have := h.lo _ q; omega), h.n.fr hf (fun q => by have := h.lo _ q; omega), ht, fun k hk => by
    rcases hr k hk with q | q
    · exact h.lo k q
    · exact .inr (by omega), Fr.below h.bel hf h.tb.ge h.bel.size, h.hgt⟩
theorem Aw.cur {gc : Nat} (h : Aw w W gt g gm v M) (hg : W.grownBy W' (some gc)) (hc : gt + 1 + 1 < gc) (hn : ¬ TbS g gm v gc) : Aw w W' gt g gm v M := by
  have h1 := h.hgt
  exact ⟨h.t.kept hg (by simp; omega), h.k.kept hg (by simp; omega), h.n.kept hg (by simp; omega), h.tb.fr (Fr.of_grown (S := fun k => k = gc) hg (fun k e => by cases e; rfl)) (fun i hi e => hn (e ▸ hi)), h.lo, below_but h.bel hg (by omega) h.bel.size, h.hgt⟩
end

set_option maxRecDepth 10000 in
set_option maxHeartbeats 1000000 in
theorem awake_any (w : World) (ht : Tabs12 w) :
    Calls Tryd.prog 10 #[] w fun e w' => e = .returned (.bool true) ∧ Below w.heap.size w w' := by
  have HT : Hid (Tabs12 w) := ht
  clear ht
  go_enter Tryd.func10, Tryd.ntmps10
  go_wp2_with fail
  refine Calls.mono (tnew_any w) ?_
  rintro e w1 ⟨rfl, hT1, hb1⟩
  have s1 := hb1.size
  have HA1 : Hid (∀ o1 o2 o3 : Obj, o1 = .cells #[.string ⟨#[97]⟩] 9 → o2 = .cells #[.int .i64 1, .int .i64 1, .int .i64 0] 3 → o3 = .cells #[.int .i64 1, .slice none 0 0, .slice (some ⟨w1.heap.size, 0, none⟩) 1 1, .slice (some ⟨w1.heap.size + 1, 0, none⟩) 3 3] 26 → Aw w (((w1.alloc o1).alloc o2).alloc o3) w1.heap.size (w.heap.size + 1) w.heap.size (.slice none 0 0) []) := by
    rintro _ _ _ rfl rfl rfl
    have hB : Below w1.heap.size w1 (((w1.alloc (.cells #[.string ⟨#[97]⟩] 9)).alloc (.cells #[.int .i64 1, .int .i64 1, .int .i64 0] 3)).alloc (.cells #[.int .i64 1, .slice none 0 0, .slice (some ⟨w1.heap.size, 0, none⟩) 1 1, .slice (some ⟨w1.heap.size + 1, 0, none⟩) 3 3] 26)) := (((Below.refl w1.heap.size w1).alloc (Nat.le_refl _) _).alloc (by simp) _).alloc (by simp; omega) _
    exact ⟨((AtN.new w1 9 _).alloc _).alloc _, (mk_at (AtN.new (w1.alloc _) 3 _) (show _ = w1.heap.size + 1 by simp)).alloc _, mk_at (AtN.new ((w1.alloc _).alloc _) 26 _) (show _ = w1.heap.size + 1 + 1 by simp), hT1.below hB, fun k hk => .inl (hT1.lt k hk), hb1.trans (hB.mono s1), s1⟩
  clear hT1 hb1 s1
  go_wp2_with fail
  have h0 := HA1.out _ _ _ rfl rfl rfl
  generalize w1.heap.size = gt at *
  refine Calls.mono (pput_any aN none (some ⟨gt, 0, none⟩) (some ⟨gt + 1, 0, none⟩) 0 1 3 2 _ h0.tb (by simp) (by simp [sum6]) (HT.out.on h0.bel) (fun W k => h0.nd k) (fun i hi => by simp [aN] at hi) (by decide) (by decide) (by decide) (by decide) (by decide)) ?_
  rintro e w2 ⟨S, M, k, rfl, hP, hT⟩
  obtain ⟨v2, ha2⟩ := h0.put hT
  obtain ⟨hk, -, hz⟩ := hP
  rw [aN_2] at hk
  subst hk
  obtain ⟨hS, hM⟩ := hz rfl
  rw [aN_B] at hS
  rw [aN_M] at hM
  obtain rfl := text_of hS
  subst hM
  have HA2 : Hid (Aw w w2 gt (w.heap.size + 1) w.heap.size v2 [aT]) := ha2
  clear h0 HA1 hT ha2 hS hz
  have y0 : w2.cell? ⟨gt + 1 + 1, 0, none⟩ = some (.int .i64 1) := HA2.out.n.cell 0
  have y1 : w2.cell? ⟨gt + 1 + 1, 1, none⟩ = some (.slice none 0 0) := HA2.out.n.cell 1
  have y2 : w2.cell? ⟨gt + 1 + 1, 2, none⟩ = some (.slice (some ⟨gt, 0, none⟩) 1 1) := HA2.out.n.cell 2
  have y3 : w2.cell? ⟨gt + 1 + 1, 3, none⟩ = some (.slice (some ⟨gt + 1, 0, none⟩) 3 3) := HA2.out.n.cell 3
  go_wp2_with fail
  refine Calls.mono (pput_any aN none (some ⟨gt, 0, none⟩) (some ⟨gt + 1, 0, none⟩) 0 1 3 1 _ HA2.out.tb (by simp) (by decide) (HT.out.on HA2.out.bel) (fun W k => HA2.out.nd k) (fun i hi => by simp [aN] at hi) (by decide) (by decide) (by decide) (by decide) (by decide)) ?_
  rintro e w3 ⟨S3, M3, k3, rfl, hP, hT⟩
  obtain ⟨v3, ha3⟩ := HA2.out.put hT
  obtain ⟨hk, hz, -⟩ := hP
  rw [aN_1] at hk
  subst hk
  obtain ⟨rfl, rfl⟩ := hz (by decide)
  have HA3 : Hid (Aw w w3 gt (w.heap.size + 1) w.heap.size v3 [aT]) := ha3
  clear hT ha3 hz HA2 y0 y1 y2 y3
  go_wp2_with fail
  refine Calls.mono (cnew_any _ w3) ?_
  rintro e w4 ⟨rfl, hw4⟩
  have HC4 : Hid (Cu w4 w3.heap.size ⟨#[1, 0, 3, 1, 1, 2]⟩ 0 0) := by
    subst hw4
    exact At3.new w3 _ _ _ _
  have HA4 : Hid (Aw w w4 gt (w.heap.size + 1) w.heap.size v3 [aT]) := by
    subst hw4
    exact HA3.out.more ((Below.refl _ _).alloc (Nat.le_refl _) _)
  have hc : gt + 1 + 1 < w3.heap.size := HA3.out.n.lt
  have HNc : Hid (¬ TbS (w.heap.size + 1) w.heap.size v3 w3.heap.size) := fun q => by have := HA3.out.tb.lt _ q; omega
  clear HA3 hw4
  generalize w3.heap.size = gc at *
  go_wp2_with fail
  have HG := pget_any ⟨#[1, 0, 3, 1, 1, 2]⟩ gc 2 9 0 0 w4 HC4.out (by decide) (by decide) (fun W hW => ⟨(HA4.out.cur hW hc HNc.out).tb, HT.out.on (HA4.out.cur hW hc HNc.out).bel⟩) (by decide)
  rw [aN_G] at HG
  refine Calls.mono HG ?_
  rintro e w5 ⟨a1, c1, a2, c2, a3, c3, rfl, hO, hcu, hgr⟩
  have HA5 : Hid (Aw w (w5.alloc (.cells #[.int .i64 1, .slice a1 0 c1, .slice a2 1 c2, .slice a3 3 c3] 26)) gt (w.heap.size + 1) w.heap.size v3 [aT]) := (HA4.out.cur hgr hc HNc.out).more ((Below.refl _ _).alloc (Nat.le_refl _) _)
  have HN5 : Hid (NdAt (w5.alloc (.cells #[.int .i64 1, .slice a1 0 c1, .slice a2 1 c2, .slice a3 3 c3] 26)) aN a1 a2 a3) := hO.ndAt.alloc _
  have HC5 : Hid (Cu (w5.alloc (.cells #[.int .i64 1, .slice a1 0 c1, .slice a2 1 c2, .slice a3 3 c3] 26)) gc ⟨#[1, 0, 3, 1, 1, 2]⟩ 6 0) := At3.alloc hcu _
  have HM5 : Hid (AtN 26 (w5.alloc (.cells #[.int .i64 1, .slice a1 0 c1, .slice a2 1 c2, .slice a3 3 c3] 26)) w5.heap.size #[.int .i64 1, .slice a1 0 c1, .slice a2 1 c2, .slice a3 3 c3]) := AtN.new w5 26 _
  have n5 : gt + 1 + 1 < w5.heap.size := (HA4.out.cur hgr hc HNc.out).n.lt
  have hN5 := (HA4.out.cur hgr hc HNc.out).n
  clear HG HA4 HC4 hO hcu hgr
  have hA5 := HA5.out.n
  have y0 : w5.cell? ⟨gt + 1 + 1, 0, none⟩ = some (.int .i64 1) := hN5.cell 0
  have y1 : w5.cell? ⟨gt + 1 + 1, 1, none⟩ = some (.slice none 0 0) := hN5.cell 1
  have y2 : w5.cell? ⟨gt + 1 + 1, 2, none⟩ = some (.slice (some ⟨gt, 0, none⟩) 1 1) := hN5.cell 2
  have y3 : w5.cell? ⟨gt + 1 + 1, 3, none⟩ = some (.slice (some ⟨gt + 1, 0, none⟩) 3 3) := hN5.cell 3
  clear hA5 hN5
  go_wp2_with fail
  refine Calls.mono (same8_any aN aN a1 a2 a3 none (some ⟨gt, 0, none⟩) (some ⟨gt + 1, 0, none⟩) c1 c2 c3 0 1 3 _ HN5.out (HA5.out.nd (Fr.refl _ _)) (by decide) (by decide) (by decide)) ?_
  rintro e w6 ⟨rfl, hb6⟩
  rw [aN_S]
  have HA6 : Hid (Aw w w6 gt (w.heap.size + 1) w.heap.size v3 [aT]) := HA5.out.more hb6
  have HC6 : Hid (Cu w6 gc ⟨#[1, 0, 3, 1, 1, 2]⟩ 6 0) := At3.belowAll HC5.out hb6
  clear HA5 HC5 hb6 y0 y1 y2 y3 HN5 HM5
  go_wp2_with fail
  refine Calls.mono (err_any w6 gc _ 6 0 HC6.out) ?_
  rintro e w7 ⟨rfl, hb7⟩
  have HA7 : Hid (Aw w w7 gt (w.heap.size + 1) w.heap.size v3 [aT]) := HA6.out.more hb7
  clear HA6 HC6 hb7
  go_wp2_with fail
  refine Calls.mono (tlen_any HA7.out.tb) ?_
  rintro e w8 ⟨rfl, hw8⟩
  rw [hw8]
  clear hw8
  go_wp2_with fail
  go_ret
  exact ⟨rfl, HA7.out.bel⟩

end Go.Proofs.YtknfecclijoefaaDoor
