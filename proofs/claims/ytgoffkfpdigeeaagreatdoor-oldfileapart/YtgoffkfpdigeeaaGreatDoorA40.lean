import Derived.Deep.LoopGhost
import Derived.Test.YtgoffkfpdigeeaaGreatDoorA27
import Derived.Test.YtgoffkfpdigeeaaGreatDoorA39
import Derived.Test.YtgoffkfpdigeeaaGreatDoorA09
import Derived.Test.YtgoffkfpdigeeaaGreatDoorA06
namespace Go.Proofs.YtgoffkfpdigeeaaGreatDoor
open Go.RowKit Go.Maps Go.WideMaps
def read6 (b:ByteArray) (k:Nat) (m:Int) (L:List ByteArray):Int × Nat × List ByteArray:=
 if (pText b k 0 m).2.2≠0 then ((pText b k 0 m).2.2,(pText b k 0 m).2.1,L)
 else if right5 (pText b k 0 m).1=false then (11,(pText b k 0 m).2.1,L)
 else if idx6 (pText b k 0 m).1 L<L.length then (17,(pText b k 0 m).2.1,L)
 else (0,(pText b k 0 m).2.1,L++[(pText b k 0 m).1])
theorem pText_none (b:ByteArray) (k:Nat) (m:Int) (h:(pText b k 0 m).2.2≠0):(pText b k 0 m).1=⟨#[]⟩:=by
 unfold pText at h ⊢
 rw [if_neg (by simp)] at h ⊢
 split
 ·rfl
 ·rename_i h1
  rw [if_neg h1] at h
  split
  ·rfl
  ·rename_i h2
   rw [if_neg h2] at h
   split
   ·rfl
   ·rename_i h3
    rw [if_neg h3] at h
    exact absurd rfl h
theorem pFirst_right (s:ByteArray):(right5 s=true→pFirst s.data.toList = -1)∧(right5 s=false→0≤pFirst s.data.toList):=by
 unfold right5 pFirst
 rw [list_size]
 constructor
 ·intro h
  rw [if_pos (of_decide_eq_true h)]
 ·intro h
  rw [if_neg (of_decide_eq_false h)]
  omega
def RdS (g gm:Nat) (v:Value) (gc k:Nat):Prop:=TbS g gm v k∨k=gc
def RdOut (w w':World) (B g gm:Nat) (v:Value) (gc:Nat) (b:ByteArray) (R:Int × Nat × List ByteArray):Prop:=
 ∃v',Tb w' B g gm v' R.2.2∧Cu w' gc b (R.2.1:Nat) R.1∧Fr (RdS g gm v gc) w w'∧∀i,TbS g gm v' i→TbS g gm v i∨w.heap.size≤i
theorem fr_gc {g gm gc:Nat} {v:Value} {w w':World} (h:w.grownBy w' (some gc)):Fr (RdS g gm v gc) w w':=Fr.of_grown h (fun k hk=>by cases hk;exact .inr rfl)
theorem tb_gc {w w':World} {B g gm gc:Nat} {v:Value} {L:List ByteArray} (h:Tb w B g gm v L) (hg:w.grownBy w' (some gc)) (hne:¬TbS g gm v gc):Tb w' B g gm v L:=
 h.fr (Fr.of_grown (S:=fun k=>k=gc) hg (fun k hk=>by cases hk;rfl)) (fun i hi e=>hne (by rw [← e];exact hi))
section
variable {w:World} {B g gm gc:Nat} {v:Value} {L:List ByteArray} {b s:ByteArray} {k k1:Nat} {m e1 f:Int}
set_option maxRecDepth 10000 in
set_option maxHeartbeats 400000 in
theorem tread_bad (ht:Tb w B g gm v L) (hne:¬TbS g gm v gc) (e3:Int) (he3:e3≠0) (hs:s.size≤1000000)
  (HX:Hid (Calls Tryz.prog 151 #[.pointer (some ⟨gc,0,none⟩),.int .i64 m] w fun r w'=>r=.returned (.string s)∧Cu w' gc b (k1:Nat) e1∧w.grownBy w' (some gc)))
  (HE:Hid ((0≤pFirst s.data.toList→((idx6 s L<L.length→e3=if (if e1=0 then 11 else e1)=0 then 17 else (if e1=0 then 11 else e1))∧(¬idx6 s L<L.length→e3=if e1=0 then 11 else e1)))∧(¬0≤pFirst s.data.toList→((idx6 s L<L.length→e3=if e1=0 then 17 else e1)∧(¬idx6 s L<L.length→e3=e1))))) :
  Calls Tryz.prog 132 #[.pointer (some ⟨g,0,none⟩),.pointer (some ⟨gc,0,none⟩),.int .i64 m] w fun r w'=>r=.returned (.tuple #[])∧Tb w' B g gm v L∧Cu w' gc b (k1:Nat) e3∧Fr (RdS g gm v gc) w w':=by
 have HF:Hid _:=fun W:World=>first_any s W (Nat.le_trans hs (by decide))
 obtain ⟨f,hf⟩:∃f,f=pFirst s.data.toList:=⟨_,rfl⟩
 rw [← hf] at HE
 rw [← hf] at HF
 clear hf
 have hkey:=kS_key s (by unfold maxLen;omega)
 have he3':(e3==0)=false:=by simpa using he3
 by_cases h1:0≤f
 ·have HE1:=HE.out.1 h1
  clear HE
  go_enter Tryz.func132,Tryz.ntmps132
  go_wp2_with fail
  refine Calls.mono HX.out ?_
  rintro e w1 ⟨rfl,C1,g1⟩
  have T1:=tb_gc ht g1 hne
  have F1:Fr (RdS g gm v gc) w w1:=fr_gc g1
  clear HX g1
  go_wp2_with fail
  refine (HF.out w1).mono ?_
  rintro e w2 ⟨rfl,b2⟩
  have T2:=T1.below b2
  have C2:=C1.belowAll b2
  have F2:=F1.trans (Fr.of_below (S:=RdS g gm v gc) b2) (fun _ q _=>q)
  clear HF b2 T1 C1 F1
  go_wp2_with fail
  refine (fail_any w2 gc b _ _ 11 C2).mono ?_
  rintro e w3 ⟨rfl,C3,g3⟩
  have T3:=tb_gc T2 g3 hne
  have F3:=F2.trans (fr_gc (g:=g) (gm:=gm) (v:=v) g3) (fun _ q _=>q)
  clear g3 T2 C2 F2
  have c1:=T3.cells.c1
  obtain ⟨D,hmap,HD⟩:=T3.map
  obtain ⟨hh,-⟩:=HD.2 s
  clear HD
  by_cases hx:idx6 s L<L.length
  ·have HE2:Hid _:=HE1.1 hx
   rw [decide_eq_true hx] at hh
   clear HE1
   go_wp2_with (at_lookup;refine wpList_lookup_own_ok_int _ rfl _ _ 180 rfl 9 3 .i64 lawS6 Tryz.underlying180 Tryz.underlying3 (zeroI6 _) gm L.length D rfl hmap _ _ rfl hkey ?_;intro c hat hwc;clear hat hwc)
   refine (fail_any w3 gc b _ _ 17 C3).mono ?_
   rintro e w4 ⟨rfl,C4,g4⟩
   have T4:=tb_gc T3 g4 hne
   have F4:=F3.trans (fr_gc (g:=g) (gm:=gm) (v:=v) g4) (fun _ q _=>q)
   rw [← HE2.out] at C4
   clear g4 T3 C3 F3 hmap c1 HE2
   go_wp2_with fail
   refine (err_any w4 gc b _ _ C4).mono ?_
   rintro e w5 ⟨rfl,b5⟩
   go_wp2_with fail
   go_end0
   exact ⟨rfl,T4.below b5,C4.belowAll b5,F4.trans (Fr.of_below (S:=RdS g gm v gc) b5) (fun _ q _=>q)⟩
  ·have HE2:Hid _:=HE1.2 hx
   rw [decide_eq_false hx] at hh
   rw [← HE2.out] at C3
   clear HE1 HE2
   go_wp2_with (at_lookup;refine wpList_lookup_own_ok_int _ rfl _ _ 180 rfl 9 3 .i64 lawS6 Tryz.underlying180 Tryz.underlying3 (zeroI6 _) gm L.length D rfl hmap _ _ rfl hkey ?_;intro c hat hwc;clear hat hwc)
   refine (err_any w3 gc b _ _ C3).mono ?_
   rintro e w5 ⟨rfl,b5⟩
   go_wp2_with fail
   go_end0
   exact ⟨rfl,T3.below b5,C3.belowAll b5,F3.trans (Fr.of_below (S:=RdS g gm v gc) b5) (fun _ q _=>q)⟩
 ·have HE1:=HE.out.2 h1
  clear HE
  go_enter Tryz.func132,Tryz.ntmps132
  go_wp2_with fail
  refine Calls.mono HX.out ?_
  rintro e w1 ⟨rfl,C1,g1⟩
  have T1:=tb_gc ht g1 hne
  have F1:Fr (RdS g gm v gc) w w1:=fr_gc g1
  clear HX g1
  go_wp2_with fail
  refine (HF.out w1).mono ?_
  rintro e w2 ⟨rfl,b2⟩
  have T3:=T1.below b2
  have C3:=C1.belowAll b2
  have F3:=F1.trans (Fr.of_below (S:=RdS g gm v gc) b2) (fun _ q _=>q)
  clear HF b2 T1 C1 F1
  have c1:=T3.cells.c1
  obtain ⟨D,hmap,HD⟩:=T3.map
  obtain ⟨hh,-⟩:=HD.2 s
  clear HD
  by_cases hx:idx6 s L<L.length
  ·have HE2:Hid _:=HE1.1 hx
   rw [decide_eq_true hx] at hh
   clear HE1
   go_wp2_with (at_lookup;refine wpList_lookup_own_ok_int _ rfl _ _ 180 rfl 9 3 .i64 lawS6 Tryz.underlying180 Tryz.underlying3 (zeroI6 _) gm L.length D rfl hmap _ _ rfl hkey ?_;intro c hat hwc;clear hat hwc)
   refine (fail_any w2 gc b _ _ 17 C3).mono ?_
   rintro e w4 ⟨rfl,C4,g4⟩
   have T4:=tb_gc T3 g4 hne
   have F4:=F3.trans (fr_gc (g:=g) (gm:=gm) (v:=v) g4) (fun _ q _=>q)
   rw [← HE2.out] at C4
   clear g4 T3 C3 F3 hmap c1 HE2
   go_wp2_with fail
   refine (err_any w4 gc b _ _ C4).mono ?_
   rintro e w5 ⟨rfl,b5⟩
   go_wp2_with fail
   go_end0
   exact ⟨rfl,T4.below b5,C4.belowAll b5,F4.trans (Fr.of_below (S:=RdS g gm v gc) b5) (fun _ q _=>q)⟩
  ·have HE2:Hid _:=HE1.2 hx
   rw [decide_eq_false hx] at hh
   rw [← HE2.out] at C3
   clear HE1 HE2
   go_wp2_with (at_lookup;refine wpList_lookup_own_ok_int _ rfl _ _ 180 rfl 9 3 .i64 lawS6 Tryz.underlying180 Tryz.underlying3 (zeroI6 _) gm L.length D rfl hmap _ _ rfl hkey ?_;intro c hat hwc;clear hat hwc)
   refine (err_any w2 gc b _ _ C3).mono ?_
   rintro e w5 ⟨rfl,b5⟩
   go_wp2_with fail
   go_end0
   exact ⟨rfl,T3.below b5,C3.belowAll b5,F3.trans (Fr.of_below (S:=RdS g gm v gc) b5) (fun _ q _=>q)⟩
set_option maxRecDepth 10000 in
set_option maxHeartbeats 400000 in
theorem tread_add (ht:Tb w B g gm v L) (hne:¬TbS g gm v gc) (hs:s.size≤1000000) (hl:L.length≤1000000) (hm:sum6 L≤1000000000)
  (HX:Hid (Calls Tryz.prog 151 #[.pointer (some ⟨gc,0,none⟩),.int .i64 m] w fun r w'=>r=.returned (.string s)∧Cu w' gc b (k1:Nat) 0∧w.grownBy w' (some gc)))
  (hf:pFirst s.data.toList = -1) (hx:¬idx6 s L<L.length) :
  Calls Tryz.prog 132 #[.pointer (some ⟨g,0,none⟩),.pointer (some ⟨gc,0,none⟩),.int .i64 m] w fun r w'=>r=.returned (.tuple #[])∧RdOut w w' B g gm v gc b (0,k1,L++[s]):=by
 have HF:Hid _:=fun W:World=>first_any s W (Nat.le_trans hs (by decide))
 rw [hf] at HF
 clear hf
 have hkey:=kS_key s (by unfold maxLen;omega)
 have HA:Hid _:=fun (W:World) (h:Tb W B g gm v L)=>tadd_any h s hx (by omega) hl hm
 go_enter Tryz.func132,Tryz.ntmps132
 go_wp2_with fail
 refine Calls.mono HX.out ?_
 rintro e w1 ⟨rfl,C1,g1⟩
 have T1:=tb_gc ht g1 hne
 have F1:Fr (RdS g gm v gc) w w1:=fr_gc g1
 clear HX g1
 go_wp2_with fail
 refine (HF.out w1).mono ?_
 rintro e w2 ⟨rfl,b2⟩
 have T3:=T1.below b2
 have C3:=C1.belowAll b2
 have F3:=F1.trans (Fr.of_below (S:=RdS g gm v gc) b2) (fun _ q _=>q)
 clear HF b2 T1 C1 F1
 have c1:=T3.cells.c1
 obtain ⟨D,hmap,HD⟩:=T3.map
 obtain ⟨hh,-⟩:=HD.2 s
 clear HD
 rw [decide_eq_false hx] at hh
 clear hx
 go_wp2_with (at_lookup;refine wpList_lookup_own_ok_int _ rfl _ _ 180 rfl 9 3 .i64 lawS6 Tryz.underlying180 Tryz.underlying3 (zeroI6 _) gm L.length D rfl hmap _ _ rfl hkey ?_;intro c hat hwc;clear hat hwc)
 refine (err_any w2 gc b _ _ C3).mono ?_
 rintro e w5 ⟨rfl,b5⟩
 have T5:=T3.below b5
 have C5:=C3.belowAll b5
 have F5:=F3.trans (Fr.of_below (S:=RdS g gm v gc) b5) (fun _ q _=>q)
 clear T3 C3 F3 b5 hmap
 go_wp2_with fail
 refine (HA.out w5 T5).mono ?_
 rintro e w6 ⟨rfl,v',T6,F6,hn⟩
 go_wp2_with fail
 go_end0
 refine ⟨rfl,v',T6,C5.fr F6 hne,F5.trans F6 (fun _ q _=>.inl q),fun i hi=>(hn i hi).imp id (fun q=>Nat.le_trans F5.size q)⟩
theorem tread_any (ht:Tb w B g gm v L) (hc:Cu w gc b k 0) (hne:¬TbS g gm v gc) (hb:b.size≤1000000) (hk:k≤b.size) (hl:L.length≤1000000) (hs:sum6 L≤1000000000) (hm:m≤9223372036854775807) :
  Calls Tryz.prog 132 #[.pointer (some ⟨g,0,none⟩),.pointer (some ⟨gc,0,none⟩),.int .i64 m] w fun r w'=>r=.returned (.tuple #[])∧RdOut w w' B g gm v gc b (read6 b k m L):=by
 have HX:Hid _:=text_any w gc b k 0 m hc (by omega) hk hm
 have hn:=pText_none b k m
 have hst:=pText_step b k m hk
 unfold read6
 generalize pText b k 0 m=X at *
 obtain ⟨s,k1,e1⟩:=X
 dsimp only at *
 have hp:=pFirst_right s
 have go:∀e3:Int,e3≠0→s.size≤1000000→Hid ((0≤pFirst s.data.toList→((idx6 s L<L.length→e3=if (if e1=0 then 11 else e1)=0 then 17 else (if e1=0 then 11 else e1))∧(¬idx6 s L<L.length→e3=if e1=0 then 11 else e1)))∧(¬0≤pFirst s.data.toList→((idx6 s L<L.length→e3=if e1=0 then 17 else e1)∧(¬idx6 s L<L.length→e3=e1))))→
   Calls Tryz.prog 132 #[.pointer (some ⟨g,0,none⟩),.pointer (some ⟨gc,0,none⟩),.int .i64 m] w fun r w'=>r=.returned (.tuple #[])∧RdOut w w' B g gm v gc b (e3,k1,L):=by
  intro e3 h3 hz HE
  refine (tread_bad ht hne e3 h3 hz HX HE).mono ?_
  rintro e w' ⟨rfl,h1,h2,h3⟩
  exact ⟨rfl,v,h1,h2,h3,fun i hi=>.inl hi⟩
 by_cases he:e1≠0
 ·rw [if_pos he]
  obtain rfl:=hn he
  refine go e1 he (by decide) ⟨fun h=>absurd h (by decide),fun _=>⟨fun _=>by rw [if_neg he],fun _=>rfl⟩⟩
 ·have he':e1=0:=by simpa using he
  subst he'
  rw [if_neg he]
  obtain ⟨h1,h2⟩:=hst rfl
  by_cases hr:right5 s=false
  ·rw [if_pos hr]
   have:=hp.2 hr
   exact go 11 (by decide) (by omega) ⟨fun _=>⟨fun _=>by simp,fun _=>by simp⟩,fun h=>absurd this h⟩
  ·rw [if_neg hr]
   have h3:=hp.1 (by simpa using hr)
   by_cases hx:idx6 s L<L.length
   ·rw [if_pos hx]
    exact go 17 (by decide) (by omega) ⟨fun h=>absurd h (by omega),fun _=>⟨fun _=>by simp,fun h=>absurd hx h⟩⟩
   ·rw [if_neg hx]
    exact tread_add ht hne (by omega) hl hs HX h3 hx
end
end Go.Proofs.YtgoffkfpdigeeaaGreatDoor
namespace Go.Proofs.YtgoffkfpdigeeaaGreatDoor
open Go.RowKit Go.Maps Go.WideMaps
theorem gets6_read (b:ByteArray) (M:Int) (n k:Nat) (xs:List ByteArray):gets6 b M (n+1) k xs=if (read6 b k (M-(sum6 xs:Nat)) xs).1≠0 then ((read6 b k (M-(sum6 xs:Nat)) xs).1,[],0) else gets6 b M n (read6 b k (M-(sum6 xs:Nat)) xs).2.1 (read6 b k (M-(sum6 xs:Nat)) xs).2.2:=by
 rw [gets6_step b M n k xs _ rfl]
 unfold read6
 by_cases h1:(pText b k 0 (M-(sum6 xs:Nat))).2.2≠0
 ·simp only [if_pos h1]
 ·simp only [if_neg h1]
  by_cases h2:right5 (pText b k 0 (M-(sum6 xs:Nat))).1=false
  ·simp only [if_pos h2];rfl
  ·simp only [if_neg h2]
   by_cases h3:idx6 (pText b k 0 (M-(sum6 xs:Nat))).1 xs<xs.length
   ·simp only [if_pos h3];rfl
   ·simp only [if_neg h3];rfl
theorem read6_in (b:ByteArray) (k:Nat) (m:Int) (L:List ByteArray) (hk:k≤b.size) (hL:sum6 L+L.length≤k) :
  (read6 b k m L).2.1≤b.size∧((read6 b k m L).1=0→(read6 b k m L).2.2.length=L.length+1)∧sum6 (read6 b k m L).2.2+(read6 b k m L).2.2.length≤(read6 b k m L).2.1:=by
 have h0:=pText_at b k 0 m hk
 have h9:=pText_step b k m hk
 unfold read6
 generalize pText b k 0 m=X at *
 obtain ⟨s,k1,e1⟩:=X
 dsimp only at *
 split
 ·rename_i h;exact ⟨h0.2,fun q=>absurd q h,by dsimp only;omega⟩
 ·rename_i h
  obtain ⟨h1,h2⟩:=h9 (by simpa using h)
  split
  ·exact ⟨h2,fun q=>by simp at q,by dsimp only;omega⟩
  ·split
   ·exact ⟨h2,fun q=>by simp at q,by dsimp only;omega⟩
   ·refine ⟨h2,fun _=>by simp,?_⟩
    dsimp only
    rw [sum6_append]
    simp [sum6] at hL ⊢
    omega
def after6 (b:ByteArray) (G:Int × List ByteArray × Nat):Int × List ByteArray:=if G.1≠0 then (G.1,[]) else if G.2.2<b.size then (8,[]) else (0,G.2.1)
theorem pGet6_is (b:ByteArray) (texts bytes:Int):pGet6 b texts bytes=if (pUint b 0 0 (max texts 0)).2.2≠0 then ((pUint b 0 0 (max texts 0)).2.2,[]) else after6 b (gets6 b (max bytes 0) (pUint b 0 0 (max texts 0)).1.toNat (pUint b 0 0 (max texts 0)).2.1 []):=by
 unfold pGet6 after6
 rfl
def TbGot (w w':World) (e:Ending) (R:Int × List ByteArray):Prop:=
 Below w.heap.size w w'∧((R.1≠0∧e=.returned (.tuple #[.pointer none,.int .i64 R.1]))∨(R.1=0∧∃g gm v,e=.returned (.tuple #[.pointer (some ⟨g,0,none⟩),.int .i64 0])∧Tb w' w.heap.size g gm v R.2))
set_option maxRecDepth 10000 in
set_option maxHeartbeats 1600000 in
theorem tget_any (b:ByteArray) (texts bytes:Int) (w:World) (hs:b.size≤1000000) (ht:texts≤9223372036854775807) (hb:bytes≤9223372036854775807) :
  Calls Tryz.prog 95 #[.string b,.int .i64 texts,.int .i64 bytes] w fun e w'=>TbGot w w' e (pGet6 b texts bytes):=by
 have hmax:b.size≤maxLen:=by unfold maxLen;omega
 have HN:Cu (w.alloc (.cells #[.string b,.int .i64 0,.nilIface] 156)) w.heap.size b (0:Nat) 0:=At3.new _ _ _ _ _
 have B1:Below w.heap.size w (w.alloc (.cells #[.string b,.int .i64 0,.nilIface] 156)):=(Below.refl _ _).alloc (Nat.le_refl _) _
 obtain ⟨T,hT⟩:∃T,T=max texts 0:=⟨_,rfl⟩
 obtain ⟨M,hM⟩:∃M,M=max bytes 0:=⟨_,rfl⟩
 obtain ⟨R,HR⟩:∃R,Hid (pGet6 b texts bytes=R∧R=if (pUint b 0 0 T).2.2≠0 then ((pUint b 0 0 T).2.2,[]) else after6 b (gets6 b M (pUint b 0 0 T).1.toNat (pUint b 0 0 T).2.1 [])):=⟨_,rfl,by rw [hT,hM,pGet6_is]⟩
 rw [HR.out.1]
 have HU:Hid (∀W,Cu W w.heap.size b (0:Nat) 0→Calls Tryz.prog 117 #[.pointer (some ⟨w.heap.size,0,none⟩),.int .u64 T] W fun r w'=>r=.returned (.int .i64 (pUint b 0 0 T).1)∧Cu w' w.heap.size b ((pUint b 0 0 T).2.1:Nat) (pUint b 0 0 T).2.2∧W.grownBy w' (some w.heap.size)):=fun W hW=>uint_any W w.heap.size b 0 0 T hW hmax (Nat.zero_le _)
 obtain ⟨_,hk0⟩:=pUint_at b 0 0 T (Nat.zero_le _)
 obtain ⟨hu0,hu1,hu2⟩:=pUint_val b 0 T
 have hq:=HR.out.2
 clear HR
 generalize pUint b 0 0 T=U at *
 obtain ⟨u,k0,e0⟩:=U
 dsimp only at *
 obtain ⟨N,rfl⟩:=Int.eq_ofNat_of_zero_le hu0
 rw [show ((N:Int)).toNat=N from rfl] at hq
 have hT1:(if texts<0 then 0 else texts)=T:=by split <;> omega
 have hM1:(if bytes<0 then 0 else bytes)=M:=by split <;> omega
 have HQ:Hid (R=if e0≠0 then (e0,[]) else after6 b (gets6 b M N k0 [])):=hq
 have hT0:0≤T∧T≤9223372036854775807:=by omega
 have hM0:0≤M∧M≤9223372036854775807:=by omega
 obtain ⟨hT0,hT2⟩:=hT0
 obtain ⟨hM0,hM2⟩:=hM0
 clear hT hM hq hu2 hu0
 go_enter Tryz.func95,Tryz.ntmps95
 go_wp2_with fail
 refine (cnew_any b w).mono ?_
 rintro e w1 ⟨rfl,rfl⟩
 go_wp2_with fail
 refine (tnew_any _).mono ?_
 rintro e w2 ⟨rfl,T2,b2⟩
 have C2:=HN.belowAll b2
 have B2:=B1.trans (b2.mono B1.size)
 have hne2:¬TbS (w.heap.size+1+1) (w.heap.size+1) (.slice none 0 0) w.heap.size:=by
  rintro (h|h|h)
  ·omega
  ·omega
  ·simp [Value.ownBlock] at h
 simp only [show (w.alloc (.cells #[.string b,.int .i64 0,.nilIface] 156)).heap.size=w.heap.size+1 by simp] at *
 have T2':=T2.mono (C:=w.heap.size) (by omega)
 clear T2 HN B1 b2
 go_wp2_with fail
 refine Calls.mono (HU.out w2 C2) ?_
 rintro e w3 ⟨rfl,C3,g3⟩
 have T3:=tb_gc T2' g3 hne2
 have B3:=below_but B2 g3 (Nat.le_refl _) B2.size
 clear HU C2 T2' g3 B2
 go_wp2_with fail
 go_loopg [] (if e0=0 then N+2 else 0) (fun n wr=>∃(L:List ByteArray) (k:Nat) (e:Int) (v:Value),Tb wr w.heap.size (w.heap.size+1+1) (w.heap.size+1) v L∧Cu wr w.heap.size b k e∧¬TbS (w.heap.size+1+1) (w.heap.size+1) v w.heap.size∧k≤b.size∧sum6 L+L.length≤k∧Below w.heap.size w wr∧Hid (n=if e=0 then N+2-L.length else 0)∧Hid ((e=0→L.length≤N∧R=after6 b (gets6 b M (N-L.length) k L))∧(e≠0→R=(e,[]))))
 case atStart=>
  refine ⟨[],k0,e0,_,T3,C3,hne2,hk0,by simp [sum6],B3,rfl,fun h=>⟨Nat.zero_le _,?_⟩,fun h=>?_⟩
  ·have:=HQ.out
   rw [if_neg (by simpa using h)] at this
   exact this
  ·have:=HQ.out
   rw [if_pos h] at this
   exact this
 case round=>
  clear T3 C3 hne2 hk0 B3 HQ
  obtain ⟨L,k,e,v,hTb,hCu,hne,hk,hLk,hB,Hn,HI⟩:=hrel
  have HL:Hid _:=tlen_any hTb
  have HZ:Hid (¬(L.length<N∧e=0)→(k<b.size→∀e3:Int,e3=(if e=0 then 8 else e)→R=(e3,[]))∧(¬k<b.size→e=0→R=(0,L))∧(e≠0→R=(e,[]))):=by
   intro hno
   obtain ⟨h1,h2⟩:=HI.out
   by_cases he:e=0
   ·obtain ⟨h3,h4⟩:=h1 he
    rw [show N-L.length=0 by omega] at h4
    have h5:R=if k<b.size then (8,[]) else (0,L):=h4
    refine ⟨fun hk e3 h3=>?_,fun hk _=>?_,fun h=>absurd he h⟩
    ·rw [if_pos he] at h3
     rw [h5,if_pos hk,h3]
    ·rw [h5,if_neg hk]
   ·refine ⟨fun hk e3 h3=>?_,fun hk h=>absurd h he,fun _=>h2 he⟩
    rw [if_neg he] at h3
    rw [h2 he,h3]
  by_cases hgo:L.length<N∧e=0
  ·obtain ⟨hlt,rfl⟩:=hgo
   have hlt':(L.length:Int)<N:=by omega
   obtain ⟨h3,h4⟩:=HI.out.1 rfl
   rw [show N-L.length=(N-L.length-1)+1 by omega,gets6_read] at h4
   have hin:=read6_in b k (M-(sum6 L:Nat)) L hk hLk
   have HR:Hid (∀W,Tb W w.heap.size (w.heap.size+1+1) (w.heap.size+1) v L→Cu W w.heap.size b k 0→Calls Tryz.prog 132 #[.pointer (some ⟨w.heap.size+1+1,0,none⟩),.pointer (some ⟨w.heap.size,0,none⟩),.int .i64 (M-(sum6 L:Nat))] W fun r w'=>r=.returned (.tuple #[])∧RdOut W w' w.heap.size (w.heap.size+1+1) (w.heap.size+1) v w.heap.size b (read6 b k (M-(sum6 L:Nat)) L)):=
    fun W h1 h2=>tread_any h1 h2 hne hs hk (by omega) (by omega) (by omega)
   have H4:Hid _:=h4
   have HB:Hid ((sum6 L:Int)≤1000000):=by show _≤_;omega
   have hsz:(sum6 L:Int)≤1000000:=HB.out
   clear h4 HZ HI
   go_wp2_with fail
   refine Calls.mono HL.out ?_
   rintro r w4 ⟨rfl,rfl⟩
   clear HL
   go_wp2_with fail
   refine (err_any w4 w.heap.size b k 0 hCu).mono ?_
   rintro r w5 ⟨rfl,b5⟩
   have T5:=hTb.below b5
   have C5:=hCu.belowAll b5
   have B5:=hB.trans (b5.mono hB.size)
   have c2:=T5.cells.c2
   clear hTb hCu hB b5
   go_wp2_with fail
   refine (HR.out w5 T5 C5).mono ?_
   rintro r w6 ⟨rfl,v',T6,C6,F6,hn6⟩
   have B6:=Fr.below B5 F6 (fun i hi=>by
    rcases hi with hi|hi
    ·exact T5.ge i hi
    ·omega) B5.size
   have hne6:¬TbS (w.heap.size+1+1) (w.heap.size+1) v' w.heap.size:=fun q=>by
    rcases hn6 _ q with q|q
    ·exact hne q
    ·have:=C5.lt;omega
   clear HR T5 C5 B5 F6 hn6 c2 hne
   generalize read6 b k (M-(sum6 L:Nat)) L=X at *
   obtain ⟨e',k',L'⟩:=X
   dsimp only at *
   obtain ⟨hk',hl',hs'⟩:=hin
   go_wp2_with fail
   go_roundg (if e'=0 then N+2-L'.length else 0)
   case rel=>
    refine ⟨L',k',e',v',T6,C6,hne6,hk',hs',B6,rfl,fun h=>?_,fun h=>?_⟩
    ·have:=hl' h
     have h5:=H4.out
     rw [if_neg (by simpa using h)] at h5
     refine ⟨by omega,?_⟩
     rw [h5,show N-L.length-1=N-L'.length by omega]
    ·have h5:=H4.out
     rw [if_pos h] at h5
     rw [h5]
     unfold after6
     rw [if_pos h]
   case measure=>
    rw [Hn.out]
    simp only [if_true]
    split
    ·rename_i h
     have:=hl' h
     omega
    ·omega
  ·have HZ2:=HZ.out hgo
   clear HZ HI Hn
   have HZ:Hid _:=HZ2
   clear HZ2
   by_cases hlt:L.length<N
   ·have he:e≠0:=fun h=>hgo ⟨hlt,h⟩
    have he':(e==0)=false:=by simpa using he
    have hlt':(L.length:Int)<N:=by omega
    clear he hgo
    go_wp2_with fail
    refine Calls.mono HL.out ?_
    rintro r w4 ⟨rfl,rfl⟩
    clear HL
    go_wp2_with fail
    refine (err_any w4 w.heap.size b k e hCu).mono ?_
    rintro r w5 ⟨rfl,b5⟩
    have T5:=hTb.below b5
    have C5:=hCu.belowAll b5
    have B5:=hB.trans (b5.mono hB.size)
    clear hTb hCu hB b5
    go_wp2_with fail
    clear he' hlt'
    refine (left_any w5 w.heap.size b k e C5 hmax (by omega) (by omega)).mono ?_
    rintro r w6 ⟨rfl,n6,rfl⟩
    have C6:Cu (w5.drewN n6) w.heap.size b k e:=C5
    have T6:=T5.drewN n6
    have B6:=bdrewN B5 n6
    generalize w5.drewN n6=w6 at *
    clear C5 T5 B5
    by_cases hkb:k<b.size
    ·have hkb':(0:Int)<(b.size:Int)-k:=by omega
     obtain ⟨e3,he3⟩:∃e3:Int,e3=if e=0 then 8 else e:=⟨_,rfl⟩
     have hn3:e3≠0:=by rw [he3];split <;> simp_all
     have hn3':(e3 != 0)=true:=by simpa using hn3
     have HQ2:Hid (R=(e3,[])):=HZ.out.1 hkb e3 he3
     go_wp2_with fail
     refine (fail_any w6 w.heap.size b k e 8 C6).mono ?_
     rintro r w7 ⟨rfl,C7,g7⟩
     rw [← he3] at C7
     have B7:=below_but B6 g7 (Nat.le_refl _) B6.size
     clear he3
     go_wp2_with fail
     refine (err_any w7 w.heap.size b k e3 C7).mono ?_
     rintro r w8 ⟨rfl,b8⟩
     have B8:=B7.trans (b8.mono B7.size)
     go_wp2_with fail
     go_ret2
     rw [HQ2.out]
     exact ⟨B8,.inl ⟨hn3,rfl⟩⟩
    ·have hkb':¬(0:Int)<(b.size:Int)-k:=by omega
     by_cases he:e=0
     ·subst he
      have HQ2:Hid (R=(0,L)):=HZ.out.2.1 hkb rfl
      go_wp2_with fail
      refine (err_any w6 w.heap.size b k 0 C6).mono ?_
      rintro r w8 ⟨rfl,b8⟩
      have B8:=B6.trans (b8.mono B6.size)
      go_wp2_with fail
      go_ret2
      rw [HQ2.out]
      exact ⟨B8,.inr ⟨rfl,_,_,v,rfl,T6.below b8⟩⟩
     ·have HQ2:Hid (R=(e,[])):=HZ.out.2.2 he
      have he':(e != 0)=true:=by simpa using he
      go_wp2_with fail
      refine (err_any w6 w.heap.size b k e C6).mono ?_
      rintro r w8 ⟨rfl,b8⟩
      have B8:=B6.trans (b8.mono B6.size)
      go_wp2_with fail
      go_ret2
      rw [HQ2.out]
      exact ⟨B8,.inl ⟨he,rfl⟩⟩
   ·have hlt':¬(L.length:Int)<N:=by omega
    clear hgo
    go_wp2_with fail
    refine Calls.mono HL.out ?_
    rintro r w5 ⟨rfl,rfl⟩
    clear HL
    have T5:=hTb
    have C5:=hCu
    have B5:=hB
    clear hTb hCu hB
    go_wp2_with fail
    clear hlt'
    refine (left_any w5 w.heap.size b k e C5 hmax (by omega) (by omega)).mono ?_
    rintro r w6 ⟨rfl,n6,rfl⟩
    have C6:Cu (w5.drewN n6) w.heap.size b k e:=C5
    have T6:=T5.drewN n6
    have B6:=bdrewN B5 n6
    generalize w5.drewN n6=w6 at *
    clear C5 T5 B5
    by_cases hkb:k<b.size
    ·have hkb':(0:Int)<(b.size:Int)-k:=by omega
     obtain ⟨e3,he3⟩:∃e3:Int,e3=if e=0 then 8 else e:=⟨_,rfl⟩
     have hn3:e3≠0:=by rw [he3];split <;> simp_all
     have hn3':(e3 != 0)=true:=by simpa using hn3
     have HQ2:Hid (R=(e3,[])):=HZ.out.1 hkb e3 he3
     go_wp2_with fail
     refine (fail_any w6 w.heap.size b k e 8 C6).mono ?_
     rintro r w7 ⟨rfl,C7,g7⟩
     rw [← he3] at C7
     have B7:=below_but B6 g7 (Nat.le_refl _) B6.size
     clear he3
     go_wp2_with fail
     refine (err_any w7 w.heap.size b k e3 C7).mono ?_
     rintro r w8 ⟨rfl,b8⟩
     have B8:=B7.trans (b8.mono B7.size)
     go_wp2_with fail
     go_ret2
     rw [HQ2.out]
     exact ⟨B8,.inl ⟨hn3,rfl⟩⟩
    ·have hkb':¬(0:Int)<(b.size:Int)-k:=by omega
     by_cases he:e=0
     ·subst he
      have HQ2:Hid (R=(0,L)):=HZ.out.2.1 hkb rfl
      go_wp2_with fail
      refine (err_any w6 w.heap.size b k 0 C6).mono ?_
      rintro r w8 ⟨rfl,b8⟩
      have B8:=B6.trans (b8.mono B6.size)
      go_wp2_with fail
      go_ret2
      rw [HQ2.out]
      exact ⟨B8,.inr ⟨rfl,_,_,v,rfl,T6.below b8⟩⟩
     ·have HQ2:Hid (R=(e,[])):=HZ.out.2.2 he
      have he':(e != 0)=true:=by simpa using he
      go_wp2_with fail
      refine (err_any w6 w.heap.size b k e C6).mono ?_
      rintro r w8 ⟨rfl,b8⟩
      have B8:=B6.trans (b8.mono B6.size)
      go_wp2_with fail
      go_ret2
      rw [HQ2.out]
      exact ⟨B8,.inl ⟨he,rfl⟩⟩
end Go.Proofs.YtgoffkfpdigeeaaGreatDoor
namespace Go.Proofs.YtgoffkfpdigeeaaGreatDoor
open Go.RowKit
theorem gets6_in (b:ByteArray) (M:Int) (n:Nat):∀(k:Nat) (xs:List ByteArray),k≤b.size→sum6 xs+xs.length≤k→(gets6 b M n k xs).1=0→sum6 (gets6 b M n k xs).2.1+(gets6 b M n k xs).2.1.length≤b.size:=by
 induction n with
 | zero=>
  intro k xs hk hx _
  show sum6 xs+xs.length≤b.size
  omega
 | succ n ih=>
  intro k xs hk hx h
  rw [gets6_read] at h ⊢
  obtain ⟨h1,_,h3⟩:=read6_in b k (M-(sum6 xs:Nat)) xs hk hx
  by_cases he:(read6 b k (M-(sum6 xs:Nat)) xs).1≠0
  ·rw [if_pos he] at h
   exact absurd h he
  ·rw [if_neg he] at h ⊢
   exact ih _ _ h1 h3 h
theorem read6_snoc (b:ByteArray) (k:Nat) (m:Int) (L:List ByteArray) (h:(read6 b k m L).1=0) :
  (pText b k 0 m).2.2=0∧right5 (pText b k 0 m).1=true∧¬idx6 (pText b k 0 m).1 L<L.length∧read6 b k m L=(0,(pText b k 0 m).2.1,L++[(pText b k 0 m).1]):=by
 unfold read6 at h ⊢
 by_cases h1:(pText b k 0 m).2.2≠0
 ·rw [if_pos h1] at h
  exact absurd h h1
 rw [if_neg h1] at h ⊢
 by_cases h2:right5 (pText b k 0 m).1=false
 ·rw [if_pos h2] at h
  simp at h
 rw [if_neg h2] at h ⊢
 by_cases h3:idx6 (pText b k 0 m).1 L<L.length
 ·rw [if_pos h3] at h
  simp at h
 rw [if_neg h3]
 exact ⟨by simpa using h1,by simpa using h2,h3,rfl⟩
theorem drop_take_ext (b:ByteArray) (i n:Nat):(b.extract i (i+n)).data.toList=(b.data.toList.drop i).take n:=by
 rw [Lib.extract_data,show i+n-i=n by omega]
theorem pText_bytes (b:ByteArray) (k:Nat) (m:Int) (hk:k≤b.size) (h:(pText b k 0 m).2.2=0) :
  b.data.toList.drop k=(put (pText b k 0 m).1.size++(pText b k 0 m).1.data.toList)++b.data.toList.drop (pText b k 0 m).2.1∧(pText b k 0 m).2.1≤b.size:=by
 unfold pText at h ⊢
 rw [if_neg (by simp)] at h ⊢
 by_cases h1:(num b k).2.2≠0
 ·rw [if_pos h1] at h
  simp at h
  omega
 rw [if_neg h1] at h ⊢
 have h1':(num b k).2.2=0:=by simpa using h1
 obtain ⟨n1,n2,n3⟩:=num_ok b k h1' hk
 obtain ⟨_,_,_,_,q5⟩:=put_dec (b.data.toList.drop k) (num b k).1 (num b k).2.1 (show num b k=_ from Prod.ext rfl (Prod.ext rfl h1'))
 by_cases h2:max m 0<(num b k).1∨16777216<(num b k).1
 ·rw [if_pos h2] at h
  simp at h
 rw [if_neg h2] at h ⊢
 by_cases h3:(b.size:Int)-(k+(num b k).2.1:Nat)<(num b k).1
 ·rw [if_pos h3] at h
  simp at h
 rw [if_neg h3]
 dsimp only
 generalize num b k=d at *
 obtain ⟨n,j,er⟩:=d
 dsimp only at *
 have hsz:(b.extract (k+j) (k+j+n)).size=n:=by rw [ByteArray.size_extract];omega
 refine ⟨?_,by omega⟩
 rw [hsz,drop_take_ext,q5,List.append_assoc,← List.drop_drop (i:=n) (j:=k+j),List.take_append_drop,← List.drop_drop (i:=j) (j:=k),List.take_append_drop]
theorem gets6_bytes (b:ByteArray) (M:Int) (n:Nat):∀(k:Nat) (xs:List ByteArray),k≤b.size→xs.Nodup→(gets6 b M n k xs).1=0→
  ∃zs,(gets6 b M n k xs).2.1=xs++zs∧zs.length=n∧(xs++zs).Nodup∧b.data.toList.drop k=body6 zs++b.data.toList.drop (gets6 b M n k xs).2.2:=by
 induction n with
 | zero=>
  intro k xs hk hx _
  exact ⟨[],by simp [gets6],rfl,by simpa using hx,by simp [body6,gets6]⟩
 | succ n ih=>
  intro k xs hk hx h
  rw [gets6_read] at h ⊢
  by_cases he:(read6 b k (M-(sum6 xs:Nat)) xs).1≠0
  ·rw [if_pos he] at h
   exact absurd h he
  ·rw [if_neg he] at h ⊢
   obtain ⟨r1,r2,r3,r4⟩:=read6_snoc b k _ xs (by simpa using he)
   obtain ⟨t1,t2⟩:=pText_bytes b k _ hk r1
   rw [r4] at h ⊢
   dsimp only at h ⊢
   have hnm:(pText b k 0 (M-(sum6 xs:Nat))).1 ∉ xs:=fun q=>r3 ((idx6_mem _ _).2 q)
   generalize pText b k 0 (M-(sum6 xs:Nat))=X at *
   obtain ⟨s,k1,e1⟩:=X
   dsimp only at *
   have hnd:(xs++[s]).Nodup:=by
    rw [List.nodup_append]
    refine ⟨hx,by simp,?_⟩
    intro a ha c hc
    simp at hc
    subst hc
    exact fun q=>hnm (q ▸ ha)
   obtain ⟨zs,z1,z2,z3,z4⟩:=ih k1 (xs++[s]) t2 hnd h
   refine ⟨s :: zs,by rw [z1];simp,by simp [z2],by simpa using z3,?_⟩
   rw [t1,z4]
   simp [body6]
theorem pUint_bytes (b:ByteArray) (m:Int) (h:(pUint b 0 0 m).2.2=0):∃n:Nat,(pUint b 0 0 m).1=n∧b.data.toList=put n++b.data.toList.drop (pUint b 0 0 m).2.1∧(pUint b 0 0 m).2.1≤b.size:=by
 unfold pUint at h ⊢
 rw [if_neg (by simp)] at h ⊢
 by_cases h1:(num b 0).2.2≠0
 ·rw [if_pos h1] at h
  simp at h
  omega
 rw [if_neg h1] at h ⊢
 have h1':(num b 0).2.2=0:=by simpa using h1
 obtain ⟨n1,n2,n3⟩:=num_ok b 0 h1' (Nat.zero_le _)
 obtain ⟨_,_,_,_,q5⟩:=put_dec (b.data.toList.drop 0) (num b 0).1 (num b 0).2.1 (show num b 0=_ from Prod.ext rfl (Prod.ext rfl h1'))
 by_cases h2:m<(num b 0).1∨16777216<(num b 0).1
 ·rw [if_pos h2] at h
  simp at h
 rw [if_neg h2]
 refine ⟨(num b 0).1,rfl,?_,by dsimp only;omega⟩
 dsimp only
 rw [q5,List.drop_zero,Nat.zero_add,List.take_append_drop]
theorem pGet6_ok (b:ByteArray) (texts bytes:Int) (h:(pGet6 b texts bytes).1=0):pPut6 (pGet6 b texts bytes).2=b.data.toList∧(pGet6 b texts bytes).2.Nodup∧sum6 (pGet6 b texts bytes).2+(pGet6 b texts bytes).2.length≤b.size:=by
 rw [pGet6_is] at h ⊢
 by_cases h1:(pUint b 0 0 (max texts 0)).2.2≠0
 ·rw [if_pos h1] at h
  exact absurd h h1
 rw [if_neg h1] at h ⊢
 obtain ⟨n,u1,u2,u3⟩:=pUint_bytes b (max texts 0) (by simpa using h1)
 rw [u1] at h ⊢
 generalize (pUint b 0 0 (max texts 0)).2.1=k at *
 rw [show ((n:Int)).toNat=n from rfl] at h ⊢
 have hin:=gets6_in b (max bytes 0) n k [] u3 (by simp [sum6])
 have hby:=gets6_bytes b (max bytes 0) n k [] u3 (by simp)
 generalize gets6 b (max bytes 0) n k []=G at *
 obtain ⟨e,L,kk⟩:=G
 unfold after6 at h ⊢
 dsimp only at *
 by_cases h2:e≠0
 ·rw [if_pos h2] at h
  exact absurd h h2
 rw [if_neg h2] at h ⊢
 by_cases h3:kk<b.size
 ·rw [if_pos h3] at h
  simp at h
 rw [if_neg h3]
 dsimp only
 have he:e=0:=by simpa using h2
 obtain ⟨zs,z1,z2,z3,z4⟩:=hby he
 rw [List.nil_append] at z1 z3
 subst z1
 refine ⟨?_,z3,hin he⟩
 rw [List.drop_of_length_le (i:=kk) (by rw [list_size];omega),List.append_nil] at z4
 unfold pPut6
 rw [z2,← z4,← u2]
theorem pText_put (b:ByteArray) (k:Nat) (m:Int) (s:ByteArray) (r:List UInt8) (h:b.data.toList.drop k=(put s.size++s.data.toList)++r) (hs:s.size≤16777216) (hk:k≤b.size) :
  (max m 0<s.size→(pText b k 0 m).2.2=19)∧(¬max m 0<s.size→pText b k 0 m=(s,k+(put s.size).length+s.size,0)):=by
 have hn:num b k=(s.size,(put s.size).length,0):=by
  unfold num
  rw [h,List.append_assoc]
  exact dec_put s.size (by omega) _
 have hlen:b.size-k=(put s.size).length+s.size+r.length:=by
  have h1:(b.data.toList.drop k).length=b.size-k:=by rw [List.length_drop,list_size]
  rw [← h1,h,List.length_append,List.length_append,list_size]
 unfold pText
 rw [if_neg (by simp),hn]
 dsimp only
 rw [if_neg (by simp)]
 constructor
 ·intro q
  rw [if_pos (.inl q)]
 ·intro q
  rw [if_neg (by rintro (q'|q');exact q q';omega),if_neg (by omega)]
  have he:b.extract (k+(put s.size).length) (k+(put s.size).length+s.size)=s:=by
   have h2:=drop_take_ext b (k+(put s.size).length) s.size
   rw [← List.drop_drop,h,List.append_assoc,List.drop_left,List.take_left' (list_size s)] at h2
   generalize b.extract (k+(put s.size).length) (k+(put s.size).length+s.size)=y at *
   cases y;cases s
   simp at h2
   rw [h2]
  rw [he]
theorem gets6_put (b:ByteArray) (M:Int) (zs:List ByteArray):∀(k:Nat) (xs:List ByteArray) (r:List UInt8),k≤b.size→b.data.toList.drop k=body6 zs++r→(xs++zs).Nodup→(∀s ∈ zs,right5 s=true∧s.size≤16777216)→(sum6 xs:Int)≤M→
  (((sum6 (xs++zs):Nat):Int)≤M→gets6 b M zs.length k xs=(0,xs++zs,k+(body6 zs).length))∧(M<((sum6 (xs++zs):Nat):Int)→(gets6 b M zs.length k xs).1=19):=by
 induction zs with
 | nil=>
  intro k xs r hk hb hn hr hM
  constructor
  ·intro _
   simp [gets6,body6]
  ·intro h
   rw [List.append_nil] at h
   omega
 | cons s zs ih=>
  intro k xs r hk hb hn hr hM
  obtain ⟨hr1,hr2⟩:=hr s (by simp)
  have hb':b.data.toList.drop k=(put s.size++s.data.toList)++(body6 zs++r):=by rw [hb];simp [body6]
  obtain ⟨p1,p2⟩:=pText_put b k (M-(sum6 xs:Nat)) s _ hb' hr2 hk
  have hlen:b.size-k=(put s.size).length+s.size+(body6 zs++r).length:=by
   have h1:(b.data.toList.drop k).length=b.size-k:=by rw [List.length_drop,list_size]
   rw [← h1,hb',List.length_append,List.length_append,list_size]
  have hsum:sum6 (xs++[s])=sum6 xs+s.size:=by rw [sum6_append];simp [sum6]
  have hall:sum6 (xs++s :: zs)=sum6 xs+s.size+sum6 zs:=by rw [sum6_append];simp [sum6];omega
  rw [List.length_cons,gets6_step b M zs.length k xs _ rfl]
  by_cases hg:max (M-(sum6 xs:Nat)) 0<(s.size:Int)
  ·have h19:=p1 hg
   rw [if_pos (by omega),h19]
   exact ⟨fun h=>by omega,fun _=>rfl⟩
  ·have hp:=p2 hg
   rw [hp]
   dsimp only
   rw [if_neg (by simp),if_neg (by rw [hr1];simp)]
   have hnm:¬idx6 s xs<xs.length:=by
    rw [idx6_mem]
    rw [List.nodup_append] at hn
    intro q
    exact hn.2.2 s q s (by simp) rfl
   rw [if_neg hnm]
   have hd:b.data.toList.drop (k+(put s.size).length+s.size)=body6 zs++r:=by
    rw [Nat.add_assoc,← List.drop_drop,hb']
    exact List.drop_left' (by rw [List.length_append,list_size])
   have hih:=ih (k+(put s.size).length+s.size) (xs++[s]) r (by omega) hd (by simpa using hn) (fun t ht=>hr t (by simp [ht])) (by rw [hsum];omega)
   rw [show (xs++[s])++zs=xs++s :: zs by simp] at hih
   refine ⟨fun h=>?_,fun h=>hih.2 h⟩
   rw [hih.1 h]
   have:(body6 (s :: zs)).length=(put s.size).length+s.size+(body6 zs).length:=by simp only [body6,List.flatMap_cons,List.length_append,list_size]
   rw [this]
   simp only [Nat.add_assoc]
theorem pUint_put (b:ByteArray) (m:Int) (n:Nat) (r:List UInt8) (h:b.data.toList=put n++r) (hn:n≤16777216) :
  (m<n→(pUint b 0 0 m).2.2=19)∧(¬m<n→pUint b 0 0 m=((n:Int),(put n).length,0)):=by
 have hnum:num b 0=(n,(put n).length,0):=by
  unfold num
  rw [List.drop_zero,h]
  exact dec_put n (by omega) _
 unfold pUint
 rw [if_neg (by simp),hnum]
 dsimp only
 rw [if_neg (by simp)]
 constructor
 ·intro q
  rw [if_pos (.inl q)]
 ·intro q
  rw [if_neg (by rintro (q'|q');exact q q';omega),Nat.zero_add]
theorem pIntern_nodup (L:List ByteArray) (s:ByteArray) (h:L.Nodup):(pIntern L s).Nodup:=by
 unfold pIntern
 split
 ·exact h
 ·rename_i q
  rw [idx6_mem] at q
  rw [List.nodup_append]
  refine ⟨h,by simp,?_⟩
  intro a ha c hc
  simp at hc
  subst hc
  exact fun e=>q (e ▸ ha)
end Go.Proofs.YtgoffkfpdigeeaaGreatDoor
