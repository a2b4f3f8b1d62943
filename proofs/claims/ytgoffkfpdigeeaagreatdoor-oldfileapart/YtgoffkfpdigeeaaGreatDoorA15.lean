import Derived.RegionTactic
import Derived.ChangeAlike
import Derived.BigRegion
import Derived.Test.YtgoffkfpdigeeaaGreatDoorA14
namespace Go.Proofs.YtgoffkfpdigeeaaGreatDoor
open Go.RowKit Go.Maps Go.WideMaps Go.Sort
def IndexOut (l:List Nat) (x:Nat) (w w':World) (e:Ending):Prop:=∃z:Int,e=.returned (.int .i64 z)∧(0≤z↔x ∈ l)∧w'=w
set_option maxRecDepth 10000 in
set_option maxHeartbeats 400000 in
theorem index_any (l:List Nat) (a:Option Addr) (c x:Nat) (w:World) (h:LsAt w a (nV l)) (hl:l.length≤5000000) :
  Calls Tryz.prog 175 #[.slice a l.length c,.int .i64 (x:Int)] w fun e w'=>IndexOut l x w w' e:=by
 have HS:Hid (LsAt w a (nV l)):=h
 clear h
 go_enter Tryz.func175,Tryz.ntmps175
 go_wp2_with fail
 go_loopw [8] (fun iv wr=>∃i:Nat,iv=.int .i64 i∧i≤l.length∧Hid (∀k,k<i→l.getD k 0≠x)∧Hid (wr=w)) (fun iv _=>l.length-(intOf iv).toNat)
 case atStart=>exact ⟨0,rfl,by omega,fun k hk=>by omega,rfl⟩
 case round=>
  obtain ⟨i,rfl,hi,HI,HWr⟩:=hrel
  obtain rfl:wr=w:=HWr.out
  by_cases hlt:i<l.length
  ·have hlt':(i:Int)<l.length:=by omega
   obtain ⟨b,o,rfl,hb,d0⟩:=HS.out.at (nV_at l i hlt)
   by_cases he:x=l.getD i 0
   ·have HM:Hid (x ∈ l):=he ▸ getD_mem hlt
    rw [← he] at d0
    clear HI he
    go_wp2_with fail
    go_ret
    exact ⟨_,rfl,⟨fun _=>HM.out,fun _=>by omega⟩,rfl⟩
   ·have HV:Hid (∀k,k<i+1→l.getD k 0≠x):=fun k hk=>by
     by_cases e:k=i
     ·rw [e];exact fun q=>he q.symm
     ·exact HI.out k (by omega)
    generalize l.getD i 0=y at *
    have he':¬((x:Int)=y):=by omega
    clear HI
    go_wp2_with fail
    go_roundw
    case rel=>exact ⟨i+1,by go_num,by omega,HV,by simp [Hid]⟩
    case measure=>simp [intOf];omega
  ·have hlt':¬(i:Int)<l.length:=by omega
   have HM:Hid (x ∉ l):=fun q=>by
    obtain ⟨k,hk,e⟩:=List.getElem_of_mem q
    exact HI.out k (by omega) (by rw [List.getD_eq_getElem?_getD,List.getElem?_eq_getElem hk];exact e)
   clear HI HS
   go_wp2_with fail
   go_ret
   exact ⟨_,rfl,⟨fun q=>by omega,fun q=>absurd q HM.out⟩,rfl⟩
set_option maxRecDepth 10000 in
set_option maxHeartbeats 400000 in
theorem contains_any (l:List Nat) (a:Option Addr) (c x:Nat) (w:World) (h:LsAt w a (nV l)) (hl:l.length≤5000000) :
  Calls Tryz.prog 167 #[.slice a l.length c,.int .i64 (x:Int)] w fun e w'=>e=.returned (.bool (l.contains x))∧w'=w:=by
 have HI:Hid (Calls Tryz.prog 175 #[.slice a l.length c,.int .i64 (x:Int)] w fun e w'=>IndexOut l x w w' e):=index_any l a c x w h hl
 clear h
 by_cases hx:x ∈ l
 ·rw [show l.contains x=true by simpa using hx]
  go_enter Tryz.func167,Tryz.ntmps167
  go_wp2_with fail
  refine Calls.mono HI.out ?_
  rintro e w1 ⟨z,rfl,hz,rfl⟩
  have hz':=hz.2 hx
  clear hz HI
  go_wp2_with fail
  go_ret
  exact ⟨rfl,rfl⟩
 ·rw [show l.contains x=false by simpa using hx]
  go_enter Tryz.func167,Tryz.ntmps167
  go_wp2_with fail
  refine Calls.mono HI.out ?_
  rintro e w1 ⟨z,rfl,hz,rfl⟩
  have hz':¬(0≤z):=fun q=>hx (hz.1 q)
  clear hz HI
  go_wp2_with fail
  go_ret
  refine ⟨?_,rfl⟩
  show Ending.returned (.bool (decide (0≤z)))=_
  rw [decide_eq_false (by omega)]
def MinOut (l:List Nat) (w w':World) (e:Ending):Prop:=∃m:Nat,e=.returned (.int .i64 (m:Int))∧m ∈ l∧(∀x ∈ l,m≤x)∧w'=w
set_option maxRecDepth 10000 in
set_option maxHeartbeats 400000 in
theorem min_any (l:List Nat) (a:Option Addr) (c:Nat) (w:World) (h:LsAt w a (nV l)) (hl:l.length≤5000000) (h0:0<l.length) :
  Calls Tryz.prog 144 #[.slice a l.length c] w fun e w'=>MinOut l w w' e:=by
 have HS:Hid (LsAt w a (nV l)):=h
 have h0':¬((l.length:Int)<1):=by omega
 obtain ⟨b,o,rfl,hb,d0⟩:=h.at (nV_at l 0 h0)
 rw [Nat.add_zero] at d0
 have HM:Hid (l.getD 0 0 ∈ l∧∀k,k<1→l.getD 0 0≤l.getD k 0):=⟨getD_mem h0,fun k hk=>by rw [show k=0 by omega];exact Nat.le_refl _⟩
 generalize l.getD 0 0=m0 at *
 clear h
 go_enter Tryz.func144,Tryz.ntmps144
 go_wp2_with fail
 go_loopw [3,4] (fun mv iv wr=>∃m i:Nat,mv=.int .i64 (m:Int)∧iv=.int .i64 i∧1≤i∧i≤l.length∧Hid (m ∈ l∧∀k,k<i→m≤l.getD k 0)∧Hid (wr=w)) (fun _ iv _=>l.length-(intOf iv).toNat)
 case atStart=>exact ⟨m0,1,rfl,rfl,by omega,by omega,HM,rfl⟩
 case round=>
  clear HM d0
  obtain ⟨m,i,rfl,rfl,hi1,hi,HI,HWr⟩:=hrel
  obtain rfl:wr=w:=HWr.out
  by_cases hlt:i<l.length
  ·have hlt':(i:Int)<l.length:=by omega
   obtain ⟨b2,o2,e2,hb2,d1⟩:=HS.out.at (nV_at l i hlt)
   cases e2
   have HV:Hid (min m (l.getD i 0) ∈ l∧∀k,k<i+1→min m (l.getD i 0)≤l.getD k 0):=by
    refine ⟨?_,fun k hk=>?_⟩
    ·rcases Nat.le_total m (l.getD i 0) with q|q
     ·rw [Nat.min_eq_left q];exact HI.out.1
     ·rw [Nat.min_eq_right q];exact getD_mem hlt
    ·by_cases e:k=i
     ·rw [e];exact Nat.min_le_right _ _
     ·exact Nat.le_trans (Nat.min_le_left _ _) (HI.out.2 k (by omega))
   generalize l.getD i 0=y at *
   clear HI HS
   go_wp2_with fail
   go_roundw
   case rel=>exact ⟨min m y,i+1,by simp;split <;> omega,by go_num,by omega,by omega,HV,by simp [Hid]⟩
   case measure=>simp [intOf];omega
  ·have hlt':¬(i:Int)<l.length:=by omega
   have HV:Hid (MinOut l wr wr (.returned (.int .i64 (m:Int)))):=⟨m,rfl,HI.out.1,fun x hx=>by
    obtain ⟨k,hk,e⟩:=List.getElem_of_mem hx
    have:=HI.out.2 k (by omega)
    rw [List.getD_eq_getElem?_getD,List.getElem?_eq_getElem hk] at this
    simpa [e] using this,rfl⟩
   clear HI HS
   go_wp2_with fail
   go_ret
   exact HV.out
set_option maxRecDepth 10000 in
set_option maxHeartbeats 800000 in
theorem iscycle_any {Q:Nat→Prop} (L:List Ln) (a ar:Option Addr) (c cr:Nat) (ring:List Nat) (w:World) (hl:LkQ Q w a L) (hr:LsAt w ar (nV ring)) (hs:Lim L) (hx:∀x ∈ ring,x<L.length) (hlen:ring.length≤1401) :
  Calls Tryz.prog 143 #[.slice a L.length c,.slice ar ring.length cr] w fun e w'=>e=.returned (.bool (ringB (kOf L) ring))∧Below w.heap.size w w':=by
 have HB:Hid (∀q,Below w.heap.size w (w.drewN q)):=fun q=>dn_below (Below.refl _ _) q
 by_cases h1:1<ring.length
 ·have h1':(1:Int)<ring.length:=by omega
  rw [show ringB (kOf L) ring=true by unfold ringB;rw [decide_eq_true h1];rfl]
  clear hl hr hs hx
  go_enter Tryz.func143,Tryz.ntmps143
  go_wp2_with fail
  go_quiet (fail)
  go_wp2_with fail
  go_ret
  exact ⟨rfl,HB.out _⟩
 ·have h1':¬(1:Int)<ring.length:=by omega
  by_cases h2:ring.length=1
  ·have h2':(ring.length:Int)=1:=by omega
   have hxl:=hx _ (getD_mem (show 0<ring.length by omega))
   have HR:Hid (ringB (kOf L) ring=((kOf L).getD (ring.getD 0 0) []).contains (ring.getD 0 0)):=by
    show _=_
    unfold ringB
    rw [decide_eq_false h1,decide_eq_true h2]
    rfl
   obtain ⟨b,o,rfl,hb,d0⟩:=hr.at (nV_at ring 0 (by omega))
   rw [Nat.add_zero] at d0
   obtain ⟨b1,o1,rfl,hb1,d1⟩:=hl.top.at (lnV_at L (ring.getD 0 0) hxl)
   have hE:=(hl.each _ hxl).toAt
   have hkl:=hs.2 _ hxl
   have hK:=kOf_at L (ring.getD 0 0)
   generalize ring.getD 0 0=x at *
   generalize L.getD x noLn=N at *
   have hxl':(x:Int)<L.length:=by omega
   have hC:Hid (∀q,Calls Tryz.prog 167 #[.slice N.a N.ks.length N.c,.int .i64 (x:Int)] (w.drewN q) fun e w'=>e=.returned (.bool (N.ks.contains x))∧w'=w.drewN q):=fun q=>contains_any N.ks N.a N.c x (w.drewN q) hE hkl
   rw [hK] at HR
   rw [HR.out]
   clear hl hr hs hx hE HR hK
   rw [h2] at *
   generalize N.ks.contains x=R at *
   go_enter Tryz.func143,Tryz.ntmps143
   go_wp2_with fail
   go_quiet ((go_at_call 167;exact Calls.quiet_of_same (hC.out _)))
   go_wp2_with fail
   go_ret
   exact ⟨rfl,HB.out _⟩
  ·have h2':ring.length=0:=by omega
   rw [show ringB (kOf L) ring=false by unfold ringB;rw [decide_eq_false h1,decide_eq_false h2];rfl]
   clear hl hr hs hx
   rw [h2']
   go_enter Tryz.func143,Tryz.ntmps143
   go_wp2_with fail
   go_quiet (fail)
   go_wp2_with fail
   go_ret
   exact ⟨rfl,HB.out _⟩
end Go.Proofs.YtgoffkfpdigeeaaGreatDoor
namespace Go.Proofs.YtgoffkfpdigeeaaGreatDoor
open Go.RowKit Go.Maps Go.WideMaps Go.Sort
theorem LsQ.ne_met {Q:Nat→Prop} {w:World} {a:Option Addr} {cs:List Value} {g n:Nat} {M:List Nat} (h:LsQ Q w a cs) (hm:Met w g n M):LsQ (fun b=>b≠g) w a cs:=by
 obtain ⟨b,o,h1,h2⟩:=h
 refine ⟨b,o,h1,fun i hi=>⟨⟨?_,(h2 i hi).1.2⟩,(h2 i hi).2⟩⟩
 rintro rfl
 obtain ⟨D,⟨es,clock,h3,_⟩,_⟩:=hm
 have h4:=(h2 i hi).2
 rw [List.getElem?_eq_getElem hi] at h4
 simp [World.cell?,h3] at h4
theorem LkQ.ne_met {Q:Nat→Prop} {w:World} {a:Option Addr} {L:List Ln} {g n:Nat} {M:List Nat} (h:LkQ Q w a L) (hm:Met w g n M):LkQ (fun b=>b≠g) w a L:=⟨h.top.ne_met hm,fun i hi=>(h.each i hi).ne_met hm⟩
theorem below_of_grown {w w':World} (h:w.grownBy w' none):Below w.heap.size w w':=(Below.refl _ w).grown h (Nat.le_refl _) (fun k hk=>by cases hk)
theorem grown_of_below {w w':World} (h:Below w.heap.size w w') (row:Option Nat):w.grownBy w' row:=⟨h.os,h.tape,h.output,h.size,fun i hi _=>h.block i hi⟩
def CycIs (K:List (List Nat)) (z:Int) (b:Bool):Prop:=(b=false∧z=0∧∀x,¬Lead (Ed K) x x)∨(b=true∧∃i:Nat,z=i∧FirstCyc K i)
def CycOut (K:List (List Nat)) (w w':World) (e:Ending):Prop:=∃z b,e=.returned (.tuple #[.int .i64 z,.bool b])∧CycIs K z b∧Below w.heap.size w w'
def TurnV (L:List Ln) (B:Nat) (v:Value) (W:World):Prop:=∃L' a,v=.slice a (List.length L') (List.length L')∧L'.length=L.length∧LkQ (fun b=>B≤b) W a L'∧(∀x y,Ed (kOf L') x y↔Ed (kOf L) y x)∧Lim L'
def MapV (B:Nat) (v:Value) (W:World):Prop:=∃g,v=.map (some g)∧B≤g∧Met W g 0 []
def c4F (L:List Ln) (a:Option Addr) (c B:Nat):Nat→Value→World→Prop
 | 0,v,_|2,v,_|5,v,_=>v=.slice a L.length c
 | 1,v,W|7,v,W=>TurnV L B v W
 | 3,v,_|6,v,_|9,v,_=>v=.int .i64 (L.length:Int)
 | 4,v,W|8,v,W=>MapV B v W
 | _,_,_=>True
theorem c4F_stab (L:List Ln) (a:Option Addr) (c B:Nat):∀i j v w w',i≠j→World.grownBy w w' (if i=99 then none else none)→c4F L a c B j v w→c4F L a c B j v w':=by
 intro i j v w w' hne hg h
 have hb:=below_of_grown (by simpa using hg)
 match j,h with
 | 0,h|2,h|5,h|3,h|6,h|9,h=>exact h
 | 1,h|7,h=>
  obtain ⟨L',a',h1,h2,h3,h4,h5⟩:=h
  exact ⟨L',a',h1,h2,h3.below hb,h4,h5⟩
 | 4,h|8,h=>
  obtain ⟨g,h1,h2,h3⟩:=h
  exact ⟨g,h1,h2,h3.below hb⟩
 | n+10,_=>trivial
set_option maxRecDepth 10000 in
set_option maxHeartbeats 1000000 in
theorem firstincycle_any {Q:Nat→Prop} (L:List Ln) (a:Option Addr) (c:Nat) (w:World) (hl:LkQ Q w a L) (hk:Ok9 (kOf L)) (hs:Tight L) :
  Calls Tryz.prog 105 #[.slice a L.length c] w fun e w'=>CycOut (kOf L) w w' e:=by
 have hL:=hs.1
 have HL:Hid (LkQ (fun b=>b<w.heap.size) w a L∧Ok9 (kOf L)∧Tight L):=⟨hl.now,hk,hs⟩
 have HBt:Hid (Calls Tryz.prog 139 #[.slice a L.length c] w fun e w'=>BotOut L w w' e):=bottomup_any L a c w hl hk hs.lim
 clear hl hk hs
 go_enter Tryz.func105,Tryz.ntmps105
 go_wp2_with fail
 refine Calls.mono HBt.out ?_
 rintro e w1 ⟨order,r,co,rfl,ho1,hbo,hb1⟩
 have HO:Hid (BOut (kOf L) order∧LsAt w1 (some ⟨r,0,none⟩) (nV order)∧Below w.heap.size w w1):=⟨hbo,LsAt.of_own ho1,hb1⟩
 have HAr:Hid (Calls Tryz.prog 140 #[.slice a L.length c,.slice (some ⟨r,0,none⟩) order.length co] w1 fun e w'=>BehOut (kOf L) order w1 w' e):=arebehind_any L a (some ⟨r,0,none⟩) c co order w1 (HL.out.1.below hb1) (LsAt.of_own ho1) hbo HL.out.2.1 HL.out.2.2.lim
 have Hlo:Hid (order.length=L.length):=by show _=_;rw [hbo.len,kOf_length]
 have hob:order.length≤1401:=by have h0:order.length=L.length:=Hlo.out;omega
 clear HBt ho1 hbo hb1
 go_wp2_with fail
 refine Calls.mono HAr.out ?_
 rintro e w2 ⟨b,rfl,hbe,hb2⟩
 have HO2:Hid (LsAt w2 (some ⟨r,0,none⟩) (nV order)∧Below w.heap.size w w2):=⟨HO.out.2.1.belowB hb2,HO.out.2.2.trans (hb2.mono HO.out.2.2.size)⟩
 have HBo:Hid (BOut (kOf L) order):=HO.out.1
 clear HAr hb2 HO
 cases b with
 | true=>
  have HV:Hid (CycOut (kOf L) w w2 (.returned (.tuple #[.int .i64 0,.bool false]))):=⟨0,false,rfl,.inl ⟨rfl,rfl,(hbe.1 rfl).none⟩,HO2.out.2⟩
  clear hbe HO2 HBo HL
  go_wp2_with fail
  go_ret2
  exact HV.out
 | false=>
  have HCy:Hid (∃x,Lead (Ed (kOf L)) x x):=HBo.out.cycle HL.out.2.1 (fun q=>by have:=hbe.2 q;simp at this)
  clear hbe
  go_wp2_with fail
  refine facts_region none 99 (c4F L a c w2.heap.size) (by kernel_rfl) (by kernel_rfl) (c4F_stab L a c w2.heap.size) ?step ?fin
  case step=>
   intro i o ho a' W hg hstill hoff hdep K hK
   have t0:a'.tmps[0]?.getD undef=.slice a L.length c:=hoff 0 (by kernel_rfl)
   have hb:Below w2.heap.size w2 W:=below_of_grown hg
   have hsz:=hb.size
   have HW:Hid (LkQ (fun b=>b<w.heap.size) W a L):=(HL.out.1.below HO2.out.2).below hb
   have HT:Hid (Calls Tryz.prog 141 #[.slice a L.length c] W fun e w'=>TurnOut L W w' e):=turned_any L a c W HW.out HL.out.2.1 HL.out.2.2
   clear hg hoff hb HW
   rcases i with _|_|_|_|_|_|_|_|_|_|i
   ·obtain rfl:=Option.some.inj ho
    clear hdep HT
    go_simp
    exact hK _ _ (grown_refl _ _) rfl
   ·obtain rfl:=Option.some.inj ho
    have e0:a'.tmps[15]?.getD undef=.slice a L.length c:=hdep 0 _ (by kernel_rfl) rfl
    clear hdep
    go_simp
    refine Calls.mono HT.out ?_
    rintro e w' ⟨L',b',rfl,h1,h2,h3,h4,h5⟩
    exact hK _ _ (grown_of_below h5 _) ⟨L',b',rfl,h1,h2.mono (fun _ q _=>by omega),h3,h4⟩
   ·obtain rfl:=Option.some.inj ho
    clear hdep HT
    go_simp
    exact hK _ _ (grown_refl _ _) rfl
   ·obtain rfl:=Option.some.inj ho
    have e0:a'.tmps[17]?.getD undef=.slice a L.length c:=hdep 2 _ (by kernel_rfl) rfl
    clear hdep HT
    go_simp
    exact hK _ _ (grown_refl _ _) rfl
   ·obtain rfl:=Option.some.inj ho
    have e0:a'.tmps[18]?.getD undef=.int .i64 (L.length:Int):=hdep 3 _ (by kernel_rfl) rfl
    have hmm:=run_makeMapN (L.length:Int) W
    clear hdep HT
    go_simp
    exact hK _ _ (World.grownBy_alloc _ _ _) ⟨W.heap.size,rfl,hsz,Met.made W⟩
   ·obtain rfl:=Option.some.inj ho
    clear hdep HT
    go_simp
    exact hK _ _ (grown_refl _ _) rfl
   ·obtain rfl:=Option.some.inj ho
    have e0:a'.tmps[20]?.getD undef=.slice a L.length c:=hdep 5 _ (by kernel_rfl) rfl
    clear hdep HT
    go_simp
    exact hK _ _ (grown_refl _ _) rfl
   ·obtain rfl:=Option.some.inj ho
    have e0:TurnV L w2.heap.size (a'.tmps[16]?.getD undef) W:=hdep 1 _ (by kernel_rfl) rfl
    clear hdep HT
    go_simp
    exact hK _ _ (grown_refl _ _) e0
   ·obtain rfl:=Option.some.inj ho
    have e0:MapV w2.heap.size (a'.tmps[19]?.getD undef) W:=hdep 4 _ (by kernel_rfl) rfl
    clear hdep HT
    go_simp
    exact hK _ _ (grown_refl _ _) e0
   ·obtain rfl:=Option.some.inj ho
    have e0:a'.tmps[21]?.getD undef=.int .i64 (L.length:Int):=hdep 6 _ (by kernel_rfl) rfl
    clear hdep HT
    go_simp
    exact hK _ _ (grown_refl _ _) rfl
   ·exact absurd ho (by simp)
  case fin=>
   intro V W hg hF
   have y7:TurnV L w2.heap.size (V (some 5)) W:=hF 7 _ rfl
   have y8:MapV w2.heap.size (V (some 6)) W:=hF 8 _ rfl
   have y9:V (some 7)=.int .i64 (L.length:Int):=hF 9 _ rfl
   have hb:Below w2.heap.size w2 W:=below_of_grown hg
   obtain ⟨L',a',v7,hl',hk',he',hli'⟩:=y7
   obtain ⟨g,v8,hg2,hm⟩:=y8
   have hBW:Below w.heap.size w W:=HO2.out.2.trans (hb.mono HO2.out.2.size)
   have HS:Hid (LkQ (fun b=>b≠g) W a L∧LsQ (fun b=>b≠g) W (some ⟨r,0,none⟩) (nV order)∧LkQ (fun b=>b≠g) W a' L'∧Below w.heap.size w W∧w.heap.size≤g):=⟨(HL.out.1.below hBW).ne_met hm,(HO2.out.1.belowB hb).toQ.ne_met hm,hk'.ne_met hm,hBW,Nat.le_trans HO2.out.2.size hg2⟩
   have HK':Hid ((∀x y,Ed (kOf L') x y↔Ed (kOf L) y x)∧Lim L'∧L'.length=L.length):=⟨he',hli',hl'⟩
   have HM:Hid (Met W g ([]:List Nat).length []):=hm
   clear hF hg hk' he' hli' hb hBW hm HO2 hl'
   simp only [fillA,Act.put,List.setIfInBounds_toArray,List.set_cons_zero,List.set_cons_succ,v7,v8,y9]
   generalize V (some 15)=z15
   generalize V (some 16)=z16
   generalize V (some 17)=z17
   generalize V (some 18)=z18
   generalize V (some 19)=z19
   generalize V (some 20)=z20
   generalize V (some 21)=z21
   clear v7 v8 y9
   go_wp2_with fail
   go_loopw [7,8] (fun fv iv wr=>∃(k first:Nat) (M:List Nat),fv=.int .i64 (first:Int)∧iv=.int .i64 ((k:Int)-1)∧k≤L.length∧first≤L.length∧Hid (KInv (kOf L) order k M first)∧Hid (M.length≤(L.length-k)*1401)∧Hid (Met wr g M.length M)∧Hid (Fr (fun b=>b=g) W wr)) (fun _ iv _=>((intOf iv)+1).toNat)
   case atStart=>
    have hlo:order.length=L.length:=Hlo.out
    refine ⟨L.length,L.length,[],rfl,by rw [← hlo],by omega,by omega,?_,by simp [Hid],HM,Fr.refl _ _⟩
    have:=KInv.start HBo.out
    rwa [kOf_length] at this
   case round=>
    clear HM
    obtain ⟨k,first,M,rfl,rfl,hkl,hfl,HI,HMl,HM,HF⟩:=hrel
    have HBw:Hid (Below w.heap.size w wr):=Fr.below HS.out.2.2.2.1 HF.out (fun z e=>by have:=HS.out.2.2.2.2;omega) HS.out.2.2.2.1.size
    rcases k with _|k
    ·have HV:Hid (CycOut (kOf L) w wr (.returned (.tuple #[.int .i64 (first:Int),.bool true]))):=⟨first,true,rfl,.inr ⟨rfl,first,rfl,HI.out.fin HBo.out HCy.out⟩,HBw.out⟩
     clear HI HMl HM HF HS HK' HCy HBo HL HBw Hlo
     go_wp2_with fail
     go_ret2
     exact HV.out
    ·rw [show ((k+1:Nat):Int)-1=(k:Int) by omega]
     have hko:k<order.length:=by have h0:order.length=L.length:=Hlo.out;omega
     have hko':(k:Int)<order.length:=by omega
     obtain ⟨b1,o1,e1,hq1,hb1,d1⟩:=(HS.out.2.1.fr HF.out (fun b q _ e=>q e)).atQ (nV_at order k hko)
     cases e1
     rw [Nat.zero_add] at d1
     have hx:order.getD k 0<L'.length:=by have:=(HBo.out.2.1 _).1 (getD_mem hko);rw [kOf_length] at this;have:=HK'.out.2.2;omega
     have hM36:M.length≤1962801:=by have:M.length≤(L.length-(k+1))*1401:=HMl.out;omega
     have HOk':Hid (Ok9 (kOf L')):=fun p q e=>by
      have:=((HK'.out.1 p q).1 e).lt
      rw [kOf_length] at this ⊢
      have:=HK'.out.2.2
      omega
     have HWk:Hid (Calls Tryz.prog 142 #[.slice a' L'.length L'.length,.int .i64 ((order.getD k 0:Nat):Int),.map (some g)] wr fun e w'=>WalkOut L' g M.length M (order.getD k 0) wr w' e):=walk_any (Q:=fun b=>b≠g) L' a' L'.length (order.getD k 0) g M.length M wr (HS.out.2.2.1.fr HF.out (fun b q _ e=>q e)) (fun b q=>q) HM.out HOk'.out hx HK'.out.2.1 (by omega)
     have HSt:Hid (∀found,WOut (kOf L') M (order.getD k 0) found→(ringB (kOf L) found=false→KInv (kOf L) order k (M++found) first)∧(ringB (kOf L) found=true→found≠[]∧∀m,m ∈ found→(∀x ∈ found,m≤x)→KInv (kOf L) order k (M++found) (min first m))):=fun found hw=>HI.out.step HBo.out HL.out.2.1 HK'.out.1 hko hw
     generalize order.getD k 0=t at *
     clear HI HM HBw
     go_wp2_with fail
     refine Calls.mono HWk.out ?_
     rintro e w5 ⟨found,af,cf,rfl,hof,hwo,hm5,hf5⟩
     have hf60:found.length≤1401:=by
      have:=nodup_le L'.length found hwo.1 (fun x hx=>by
       have h0:t<(kOf L').length:=by rw [kOf_length];omega
       have h1:=((hwo.2 x).1 hx).2
       have:=Ok9.rt HOk'.out h0 (h1.mono fun _ _ q=>q.1)
       rwa [kOf_length] at this)
      have:=HK'.out.2.2
      omega
     have hfx:∀x ∈ found,x<L.length:=fun x hx=>by
      have h0:t<(kOf L').length:=by rw [kOf_length];omega
      have h1:=((hwo.2 x).1 hx).2
      have:=Ok9.rt HOk'.out h0 (h1.mono fun _ _ q=>q.1)
      rw [kOf_length] at this
      have:=HK'.out.2.2
      omega
     have F5:Fr (fun b=>b=g) W w5:=HF.out.trans hf5 (fun _ q _=>q)
     have lf5:LsAt w5 af (nV found):=LsAt.of_own hof
     have HCc:Hid (Calls Tryz.prog 143 #[.slice a L.length c,.slice af found.length cf] w5 fun e w'=>e=.returned (.bool (ringB (kOf L) found))∧Below w5.heap.size w5 w'):=iscycle_any L a af c cf found w5 (HS.out.1.fr F5 (fun b q _ e=>q e)) lf5 HL.out.2.2.lim hfx hf60
     have HMl5:Hid ((M++found).length≤(L.length-k)*1401):=by
      have:M.length≤(L.length-(k+1))*1401:=HMl.out
      show (M++found).length≤_
      rw [List.length_append]
      omega
     have HX5:Hid (Fr (fun b=>b=g) W w5∧LsAt w5 af (nV found)∧Met w5 g (M++found).length (M++found)):=⟨F5,lf5,by rw [List.length_append];exact hm5⟩
     have HS5:=HSt.out found hwo
     clear HWk HF hof hwo hm5 hf5 F5 lf5 HMl HSt hfx HOk'
     go_wp2_with fail
     refine Calls.mono HCc.out ?_
     rintro e w6 ⟨rfl,hb6⟩
     have HX6:Hid (Fr (fun b=>b=g) W w6∧LsAt w6 af (nV found)∧Met w6 g (M++found).length (M++found)):=⟨HX5.out.1.trans (Fr.of_below (S:=fun _=>False) hb6) (fun _ q _=>q.elim),HX5.out.2.1.belowB hb6,HX5.out.2.2.below hb6⟩
     clear HCc HX5 hb6
     cases hrb:ringB (kOf L) found with
     | false=>
      have HI6:Hid (KInv (kOf L) order k (M++found) first):=HS5.1 hrb
      clear HS5 HS HK' HCy HBo HL hrb
      go_wp2_with fail
      go_roundw
      case rel=>exact ⟨k,first,M++found,rfl,rfl,by omega,hfl,HI6,HMl5,HX6.out.2.2,HX6.out.1⟩
      case measure=>simp [intOf]
     | true=>
      obtain ⟨hne,hst⟩:=HS5.2 hrb
      have HSt2:Hid (∀m,m ∈ found→(∀x ∈ found,m≤x)→KInv (kOf L) order k (M++found) (min first m)):=hst
      have HMn:Hid (Calls Tryz.prog 144 #[.slice af found.length cf] w6 fun e w'=>MinOut found w6 w' e):=min_any found af cf w6 HX6.out.2.1 (by omega) (List.length_pos_iff.2 hne)
      clear HS5 HS HK' HCy HBo HL hrb hne hst
      go_wp2_with fail
      refine Calls.mono HMn.out ?_
      rintro e w7 ⟨m,rfl,hm1,hm2,rfl⟩
      have HI6:Hid (KInv (kOf L) order k (M++found) (min first m)):=HSt2.out m hm1 hm2
      have hm3:min first m≤L.length:=Nat.le_trans (Nat.min_le_left _ _) hfl
      clear HSt2 HMn hm1 hm2
      go_wp2_with fail
      go_roundw
      case rel=>exact ⟨k,min first m,M++found,by simp;split <;> omega,rfl,by omega,hm3,HI6,HMl5,HX6.out.2.2,HX6.out.1⟩
      case measure=>simp [intOf]
end Go.Proofs.YtgoffkfpdigeeaaGreatDoor
namespace Go.Proofs.YtgoffkfpdigeeaaGreatDoor
open Go.RowKit Go.Maps Go.WideMaps Go.Sort
def LooseIs (K:List (List Nat)) (r:Nat) (z:Int) (b:Bool):Prop:=(b=false∧z=0∧∀x,x<K.length→Rt (Ed K) r x)∨(b=true∧∃i:Nat,z=i∧i<K.length∧¬Rt (Ed K) r i∧∀j,j<i→Rt (Ed K) r j)
def LooseOut (K:List (List Nat)) (r:Nat) (w w':World) (e:Ending):Prop:=∃z b,e=.returned (.tuple #[.int .i64 z,.bool b])∧LooseIs K r z b∧Below w.heap.size w w'
theorem WOut.all {K:List (List Nat)} {f:Nat} {found:List Nat} (h:WOut K [] f found) (x:Nat):x ∈ found↔Rt (Ed K) f x:=by
 rw [h.2 x]
 constructor
 ·rintro ⟨_,q⟩;exact q.mono fun _ _ e=>e.1
 ·intro q;exact ⟨by simp,q.mono fun _ _ e=>⟨e,by simp⟩⟩
set_option maxRecDepth 10000 in
set_option maxHeartbeats 400000 in
theorem firstloose_any {Q:Nat→Prop} (L:List Ln) (a:Option Addr) (c r:Nat) (w:World) (hl:LkQ Q w a L) (hk:Ok9 (kOf L)) (hs:Lim L) (hr:r<L.length) :
  Calls Tryz.prog 106 #[.slice a L.length c,.int .i64 (r:Int)] w fun e w'=>LooseOut (kOf L) r w w' e:=by
 have hL:=hs.1
 have hmm:=run_makeMapN (L.length:Int) w
 have hm0:=Met.made w
 have hb0:Below w.heap.size w (w.alloc (.map #[] 0)):=(Below.refl w.heap.size w).alloc (Nat.le_refl _) _
 have HW:Hid (Calls Tryz.prog 142 #[.slice a L.length c,.int .i64 (r:Int),.map (some w.heap.size)] (w.alloc (.map #[] 0)) fun e w'=>WalkOut L w.heap.size 0 [] r (w.alloc (.map #[] 0)) w' e):=walk_any (Q:=fun b=>b<w.heap.size) L a c r w.heap.size 0 [] _ (hl.now.below hb0) (fun b q=>by omega) hm0 hk hr hs (by omega)
 have HB:Hid (Below w.heap.size w (w.alloc (.map #[] 0))):=hb0
 clear hl hk hs hm0 hb0
 go_enter Tryz.func106,Tryz.ntmps106
 go_wp2_with fail
 refine Calls.mono HW.out ?_
 rintro e w1 ⟨found,af,cf,rfl,hof,hwo,hm1,hf1⟩
 have HX:Hid (Met w1 w.heap.size (0+found.length) found∧Below w.heap.size w w1∧∀x,x ∈ found↔Rt (Ed (kOf L)) r x):=⟨by simpa using hm1,Fr.below HB.out hf1 (fun z e=>by omega) (by simp),hwo.all⟩
 clear HW HB hof hwo hm1 hf1 hmm
 go_wp2_with fail
 go_loopw [17] (fun iv wr=>∃i:Nat,iv=.int .i64 i∧i≤L.length∧Hid (∀j,j<i→Rt (Ed (kOf L)) r j)∧Hid (wr=w1)) (fun iv _=>L.length-(intOf iv).toNat)
 case atStart=>exact ⟨0,rfl,by omega,fun j hj=>by omega,rfl⟩
 case round=>
  obtain ⟨i,rfl,hi,HI,HWr⟩:=hrel
  obtain rfl:wr=w1:=HWr.out
  by_cases hlt:i<L.length
  ·have hlt':(i:Int)<L.length:=by omega
   have hlk:=HX.out.1.look i (by omega)
   by_cases hin:i ∈ found
   ·rw [decide_eq_true hin] at hlk
    have HV:Hid (∀j,j<i+1→Rt (Ed (kOf L)) r j):=fun j hj=>by
     by_cases e:j=i
     ·rw [e];exact (HX.out.2.2 i).1 hin
     ·exact HI.out j (by omega)
    clear HI hin
    go_wp2_with fail
    go_roundw
    case rel=>exact ⟨i+1,by go_num,by omega,HV,by simp [Hid]⟩
    case measure=>simp [intOf];omega
   ·rw [decide_eq_false hin] at hlk
    have HV:Hid (LooseOut (kOf L) r w wr (.returned (.tuple #[.int .i64 (i:Int),.bool true]))):=⟨_,_,rfl,.inr ⟨rfl,i,rfl,by rw [kOf_length];exact hlt,fun q=>hin ((HX.out.2.2 i).2 q),HI.out⟩,HX.out.2.1⟩
    clear HI hin HX
    go_wp2_with fail
    go_ret2
    exact HV.out
  ·have hlt':¬(i:Int)<L.length:=by omega
   have HV:Hid (LooseOut (kOf L) r w wr (.returned (.tuple #[.int .i64 0,.bool false]))):=⟨_,_,rfl,.inl ⟨rfl,rfl,fun x hx=>HI.out x (by rw [kOf_length] at hx;omega)⟩,HX.out.2.1⟩
   clear HI HX
   go_wp2_with fail
   go_ret2
   exact HV.out
def CheckIs (X:List Nx) (r e z:Int):Prop:=
 (isPb X.length r=false∧e=13∧z = -1)∨
 (isPb X.length r=true∧∃i:Nat,i<X.length∧e=13∧z=i∧¬okAt X i∧∀j,j<i→okAt X j)∨
 (isPb X.length r=true∧(∀i,i<X.length→okAt X i)∧
  ((∃i:Nat,e=14∧z=i∧FirstCyc (kX X) i)∨
   ((∀x,¬Lead (Ed (kX X)) x x)∧
    ((∃i:Nat,e=15∧z=i∧i<X.length∧¬Rt (Ed (kX X)) r.toNat i∧∀j,j<i→Rt (Ed (kX X)) r.toNat j)∨
    (e=0∧z=0∧∀x,x<X.length→Rt (Ed (kX X)) r.toNat x)))))
def CheckOut (X:List Nx) (r:Int) (w w':World) (e:Ending):Prop:=∃n z,e=.returned (.tuple #[.int .i64 n,.int .i64 z])∧CheckIs X r n z∧Below w.heap.size w w'
set_option maxRecDepth 10000 in
set_option maxHeartbeats 400000 in
theorem check_any (X:List Nx) (a:Option Addr) (c:Nat) (r:Int) (w:World) (h:ScAt w a X) (hX:Small X) :
  Calls Tryz.prog 56 #[.agg #[.slice a X.length c,.int .i64 r]] w fun e w'=>CheckOut X r w w' e:=by
 have HS:Hid (ScAt w a X∧Small X):=⟨h,hX⟩
 have HA0:Hid (AtN 24 (w.alloc (.cells #[.slice a X.length c,.int .i64 r] 24)) w.heap.size #[.slice a X.length c,.int .i64 r]):=AtN.new w 24 _
 have HB0:Hid (Below w.heap.size w (w.alloc (.cells #[.slice a X.length c,.int .i64 r] 24))):=(Below.refl w.heap.size w).alloc (Nat.le_refl _) _
 have HF:Hid (Calls Tryz.prog 103 #[.agg #[.slice a X.length c,.int .i64 r]] (w.alloc (.cells #[.slice a X.length c,.int .i64 r] 24)) fun e w'=>FwOut X r (w.alloc (.cells #[.slice a X.length c,.int .i64 r] 24)) w' e):=firstwrong_any X a c r _ (h.alloc _) hX
 clear h hX
 go_enter Tryz.func56,Tryz.ntmps56
 go_wp2_with fail
 refine Calls.mono HF.out ?_
 rintro e w1 ⟨z,b,rfl,hfw,hb1⟩
 have HA1:Hid (AtN 24 w1 w.heap.size #[.slice a X.length c,.int .i64 r]∧Below w.heap.size w w1):=⟨AtN.belowAll HA0.out hb1,HB0.out.trans (hb1.mono HB0.out.size)⟩
 clear HF HA0 HB0 hb1
 rcases hfw with ⟨h1,rfl,rfl⟩|⟨hr,⟨rfl,rfl,hok⟩|⟨rfl,i,hi,rfl,hno,hbe⟩⟩
 ·have HV:Hid (CheckOut X r w w1 (.returned (.tuple #[.int .i64 13,.int .i64 (-1)]))):=⟨_,_,rfl,.inl ⟨h1,rfl,rfl⟩,HA1.out.2⟩
  clear HS HA1 h1
  go_wp2_with fail
  go_ret2
  exact HV.out
 ·have hr':=isPb_iff.1 hr
  have hrn:r=(r.toNat:Int):=(Int.toNat_of_nonneg hr'.1).symm
  have hrl:r.toNat<X.length:=by omega
  have x0:w1.cell? ⟨w.heap.size,0,none⟩=some (.slice a X.length c):=HA1.out.1.cell 0
  have x1:w1.cell? ⟨w.heap.size,1,none⟩=some (.int .i64 r):=HA1.out.1.cell 1
  have HK:Hid (Calls Tryz.prog 104 #[.agg #[.slice a X.length c,.int .i64 r]] w1 fun e w'=>KidsOut X w1 w' e):=kids_any X a c r w1 (HS.out.1.belowB HA1.out.2) HS.out.2 hok
  have Hok:Hid ((∀i,i<X.length→okAt X i)∧isPb X.length r=true∧r=(r.toNat:Int)∧r.toNat<X.length):=⟨hok,hr,hrn,hrl⟩
  clear hok hr hr' hrn hrl
  go_wp2_with fail
  refine Calls.mono HK.out ?_
  rintro e w2 ⟨ak,rfl,hk2,hb2⟩
  have HA2:Hid (AtN 24 w2 w.heap.size #[.slice a X.length c,.int .i64 r]∧Below w.heap.size w w2∧LkQ (fun _=>True) w2 ak (lks X)):=⟨AtN.belowAll HA1.out.1 hb2,HA1.out.2.trans (hb2.mono HA1.out.2.size),hk2⟩
  have HC:Hid (Calls Tryz.prog 105 #[.slice ak (lks X).length (lks X).length] w2 fun e w'=>CycOut (kOf (lks X)) w2 w' e):=firstincycle_any (lks X) ak _ w2 hk2 (kX_ok Hok.out.1) HS.out.2.tight
  clear HK hb2 hk2 x0 x1 HA1
  go_wp2_with fail
  refine Calls.mono HC.out ?_
  rintro e w3 ⟨z,b,rfl,hcy,hb3⟩
  have HA3:Hid (AtN 24 w3 w.heap.size #[.slice a X.length c,.int .i64 r]∧Below w.heap.size w w3∧LkQ (fun _=>True) w3 ak (lks X)):=⟨AtN.belowAll HA2.out.1 hb3,HA2.out.2.1.trans (hb3.mono HA2.out.2.1.size),HA2.out.2.2.below hb3⟩
  clear HC HA2 hb3
  rcases hcy with ⟨rfl,rfl,hno⟩|⟨rfl,i,rfl,hfc⟩
  ·have x1:w3.cell? ⟨w.heap.size,1,none⟩=some (.int .i64 (r.toNat:Int)):=by rw [← Hok.out.2.2.1];exact HA3.out.1.cell 1
   have HF:Hid (Calls Tryz.prog 106 #[.slice ak (lks X).length (lks X).length,.int .i64 (r.toNat:Int)] w3 fun e w'=>LooseOut (kOf (lks X)) r.toNat w3 w' e):=firstloose_any (lks X) ak _ r.toNat w3 HA3.out.2.2 (kX_ok Hok.out.1) HS.out.2.lim (by rw [lks_length];exact Hok.out.2.2.2)
   have Hno:Hid (∀x,¬Lead (Ed (kX X)) x x):=hno
   have HG:Hid (isPb X.length r=true∧∀i,i<X.length→okAt X i):=⟨Hok.out.2.1,Hok.out.1⟩
   obtain ⟨rn,hrn⟩:∃rn,r.toNat=rn:=⟨_,rfl⟩
   rw [hrn] at x1 HF
   have Hrn:Hid (r.toNat=rn):=hrn
   clear hno hrn Hok HS
   go_wp2_with fail
   refine Calls.mono HF.out ?_
   rintro e w4 ⟨z,b,rfl,hlo,hb4⟩
   have HB4:Hid (Below w.heap.size w w4):=HA3.out.2.1.trans (hb4.mono HA3.out.2.1.size)
   clear HF HA3 hb4 x1
   rcases hlo with ⟨rfl,rfl,hall⟩|⟨rfl,i,rfl,hil,hnr,hbe⟩
   ·have HV:Hid (CheckOut X r w w4 (.returned (.tuple #[.int .i64 0,.int .i64 0]))):=⟨_,_,rfl,.inr (.inr ⟨HG.out.1,HG.out.2,.inr ⟨Hno.out,.inr ⟨rfl,rfl,fun x hx=>by rw [Hrn.out];exact hall x (by rw [kOf_length,lks_length];exact hx)⟩⟩⟩),HB4.out⟩
    clear HG Hno HB4 hall Hrn
    go_wp2_with fail
    go_ret2
    exact HV.out
   ·have HV:Hid (CheckOut X r w w4 (.returned (.tuple #[.int .i64 15,.int .i64 (i:Int)]))):=⟨_,_,rfl,.inr (.inr ⟨HG.out.1,HG.out.2,.inr ⟨Hno.out,.inl ⟨i,rfl,rfl,by rw [kOf_length,lks_length] at hil;exact hil,by rw [Hrn.out];exact hnr,fun j hj=>by rw [Hrn.out];exact hbe j hj⟩⟩⟩),HB4.out⟩
    clear HG Hno HB4 hil hnr hbe Hrn
    go_wp2_with fail
    go_ret2
    exact HV.out
  ·have HV:Hid (CheckOut X r w w3 (.returned (.tuple #[.int .i64 14,.int .i64 (i:Int)]))):=⟨_,_,rfl,.inr (.inr ⟨Hok.out.2.1,Hok.out.1,.inl ⟨i,rfl,rfl,hfc⟩⟩),HA3.out.2.1⟩
   clear HS HA3 Hok hfc
   go_wp2_with fail
   go_ret2
   exact HV.out
 ·have HV:Hid (CheckOut X r w w1 (.returned (.tuple #[.int .i64 13,.int .i64 (i:Int)]))):=⟨_,_,rfl,.inr (.inl ⟨hr,i,hi,rfl,rfl,hno,hbe⟩),HA1.out.2⟩
  clear HS HA1 hr hi hno hbe
  go_wp2_with fail
  go_ret2
  exact HV.out
end Go.Proofs.YtgoffkfpdigeeaaGreatDoor
namespace Go.Proofs.YtgoffkfpdigeeaaGreatDoor
open Go.RowKit Go.Maps Go.WideMaps Go.Sort
def fold1 (f:Nat→Nat) (l:List Nat):Nat:=l.foldl (fun m k=>max m (f k)) 0
theorem fold1_snoc (f:Nat→Nat) (l:List Nat) (k:Nat):fold1 f (l++[k])=max (fold1 f l) (f k):=by simp [fold1,List.foldl_append]
theorem foldl_le (f:Nat→Nat) (l:List Nat) (m b:Nat) (hm:m≤b) (h:∀k ∈ l,f k≤b):l.foldl (fun m k=>max m (f k)) m≤b:=by
 induction l generalizing m with
 | nil=>exact hm
 | cons x r ih=>exact ih (max m (f x)) (Nat.max_le.2 ⟨hm,h x (by simp)⟩) (fun k hk=>h k (by simp [hk]))
theorem fold1_le (f:Nat→Nat) (l:List Nat) (b:Nat) (h:∀k ∈ l,f k≤b):fold1 f l≤b:=foldl_le f l 0 b (Nat.zero_le _) h
theorem foldl_congr {f g:Nat→Nat} (l:List Nat) (m:Nat) (h:∀k ∈ l,f k=g k):l.foldl (fun m k=>max m (f k)) m=l.foldl (fun m k=>max m (g k)) m:=by
 induction l generalizing m with
 | nil=>rfl
 | cons x r ih=>
  simp only [List.foldl_cons]
  rw [h x (by simp)]
  exact ih _ (fun k hk=>h k (by simp [hk]))
theorem fold1_congr {f g:Nat→Nat} (l:List Nat) (h:∀k ∈ l,f k=g k):fold1 f l=fold1 g l:=foldl_congr l 0 h
theorem foldl_ge (f:Nat→Nat) (l:List Nat) (m:Nat):m≤l.foldl (fun m k=>max m (f k)) m:=by
 induction l generalizing m with
 | nil=>exact Nat.le_refl _
 | cons x r ih=>exact Nat.le_trans (Nat.le_max_left _ _) (ih (max m (f x)))
theorem foldl_mono {f g:Nat→Nat} (l:List Nat) (m m':Nat) (hm:m≤m') (h:∀k ∈ l,f k≤g k):l.foldl (fun m k=>max m (f k)) m≤l.foldl (fun m k=>max m (g k)) m':=by
 induction l generalizing m m' with
 | nil=>exact hm
 | cons x r ih=>
  simp only [List.foldl_cons]
  exact ih _ _ (by have:=h x (by simp);omega) (fun k hk=>h k (by simp [hk]))
theorem fold1_mono {f g:Nat→Nat} (l:List Nat) (h:∀k ∈ l,f k≤g k):fold1 f l≤fold1 g l:=foldl_mono l 0 0 (Nat.le_refl _) h
def HtIs (K:List (List Nat)) (h:Nat→Nat):Prop:=∀a,a<K.length→h a=fold1 h (K.getD a [])+1
def hts (K:List (List Nat)) (order:List Nat):Nat→Nat:=order.foldl (fun f a=>upd f a (fold1 f (K.getD a [])+1)) (fun _=>0)
theorem hts_snoc (K:List (List Nat)) (p:List Nat) (a:Nat):hts K (p++[a])=upd (hts K p) a (fold1 (hts K p) (K.getD a [])+1):=by simp [hts,List.foldl_append]
theorem hts_far (K:List (List Nat)) (q:List Nat) (f:Nat→Nat) (x:Nat) (h:x ∉ q):q.foldl (fun f a=>upd f a (fold1 f (K.getD a [])+1)) f x=f x:=by
 induction q generalizing f with
 | nil=>rfl
 | cons y r ih=>
  rw [List.foldl_cons,ih _ (fun m=>h (by simp [m]))]
  exact upd_other _ _ (fun e=>h (by simp [e]))
theorem hts_app (K:List (List Nat)) (p q:List Nat) (x:Nat) (h:x ∉ q):hts K (p++q) x=hts K p x:=by
 unfold hts
 rw [List.foldl_append]
 exact hts_far K q _ x h
theorem hts_zero (K:List (List Nat)) (p:List Nat) (x:Nat) (h:x ∉ p):hts K p x=0:=hts_far K p _ x h
theorem idx_split {p q:List Nat} {a:Nat} (hn:(p++a :: q).Nodup):(p++a :: q).idxOf a=p.length:=by
 have hap:a ∉ p:=fun m=>by
  rw [List.nodup_append] at hn
  exact hn.2.2 a m a (by simp) rfl
 rw [List.idxOf_append,if_neg hap]
 simp
theorem idx_lt_mem {p q:List Nat} {a k:Nat} (hn:(p++a :: q).Nodup) (hk:(p++a :: q).idxOf k<(p++a :: q).idxOf a):k ∈ p:=by
 rw [idx_split hn] at hk
 refine Classical.byContradiction fun m=>?_
 rw [List.idxOf_append,if_neg m] at hk
 omega
theorem hts_is {K:List (List Nat)} {order:List Nat} (hb:BOut K order) (hB:Behind K order):HtIs K (hts K order):=by
 intro a ha
 obtain ⟨p,q,rfl⟩:=List.append_of_mem ((hb.2.1 a).2 ha)
 have hn:=hb.1
 have haq:a ∉ q:=fun m=>by
  rw [List.nodup_append] at hn
  have:=(List.nodup_cons.1 hn.2.1).1
  exact this m
 rw [show p++a :: q=(p++[a])++q by simp,hts_app K _ q a haq,hts_snoc,upd_same]
 congr 1
 refine fold1_congr _ (fun k hk=>?_)
 have hkp:k ∈ p:=idx_lt_mem hn (hB a k hk)
 have hkq:k ∉ q:=fun m=>by
  rw [List.nodup_append] at hn
  exact hn.2.2 k hkp k (by simp [m]) rfl
 have hka:k≠a:=fun e=>by
  rw [List.nodup_append] at hn
  exact hn.2.2 k hkp a (by simp) e
 rw [hts_app K _ q k hkq,hts_snoc,upd_other _ _ hka]
theorem HtIs.le {K:List (List Nat)} {order:List Nat} {h:Nat→Nat} (hh:HtIs K h) (hB:Behind K order) (hk:Ok9 K):∀(n a:Nat),order.idxOf a=n→a<K.length→h a≤n+1:=by
 intro n
 induction n using Nat.strongRecOn with
 | _ n ih=>
  intro a hn ha
  rw [hh a ha]
  have:=fold1_le h (K.getD a []) n (fun k e=>by
   have h1:=hB a k e
   have:=ih (order.idxOf k) (by omega) k rfl (hk a k e)
   omega)
  omega
theorem HtIs.one {K:List (List Nat)} {order:List Nat} {h h':Nat→Nat} (hh:HtIs K h) (hh':HtIs K h') (hB:Behind K order) (hk:Ok9 K):∀(n a:Nat),order.idxOf a=n→a<K.length→h a=h' a:=by
 intro n
 induction n using Nat.strongRecOn with
 | _ n ih=>
  intro a hn ha
  rw [hh a ha,hh' a ha]
  congr 1
  exact fold1_congr _ (fun k e=>ih (order.idxOf k) (by have:=hB a k e;omega) k rfl (hk a k e))
theorem HtIs.top {K:List (List Nat)} {order:List Nat} {h:Nat→Nat} (hh:HtIs K h) (hb:BOut K order) (hB:Behind K order) (hk:Ok9 K) {a:Nat} (ha:a<K.length):1≤h a∧h a≤K.length:=by
 have h1:=hh.le hB hk _ a rfl ha
 have h2:=List.idxOf_lt_length_of_mem ((hb.2.1 a).2 ha)
 rw [hb.len] at h2
 have h3:=hh a ha
 omega
structure RdInv (K:List (List Nat)) (h:Nat→Nat) (r i:Nat) (out:Nat→Nat):Prop where
 le:∀x,x<K.length→out x≤h x
 old:∀x,x<K.length→h x≤r→out x=h x
 new:∀x,x<i→x<K.length→h x≤r+1→out x=h x
theorem RdInv.start {K:List (List Nat)} {h:Nat→Nat} (hh:HtIs K h):RdInv K h 0 0 (fun _=>0):=⟨fun _ _=>Nat.zero_le _,fun x hx q=>by have:=hh x hx;omega,fun x q=>by omega⟩
theorem RdInv.step {K:List (List Nat)} {h:Nat→Nat} {r i:Nat} {out:Nat→Nat} (hI:RdInv K h r i out) (hh:HtIs K h) (hk:Ok9 K) (hi:i<K.length):RdInv K h r (i+1) (upd out i (max (out i) (fold1 out (K.getD i [])+1))):=by
 have hle:fold1 out (K.getD i [])+1≤h i:=by
  rw [hh i hi]
  have:=fold1_mono (f:=out) (g:=h) (K.getD i []) (fun k e=>hI.le k (hk i k e))
  omega
 have hri:h i≤r+1→max (out i) (fold1 out (K.getD i [])+1)=h i:=fun q=>by
  have e1:fold1 out (K.getD i [])=fold1 h (K.getD i []):=by
   have hb:∀k ∈ K.getD i [],h k≤r:=by
    have h1:=hh i hi
    intro k e
    have:∀(l:List Nat) (m:Nat),k ∈ l→h k≤l.foldl (fun m k=>max m (h k)) m:=by
     intro l
     induction l with
     | nil=>intro m q;simp at q
     | cons x t ih=>
      intro m q
      rw [List.foldl_cons]
      rcases List.mem_cons.1 q with rfl|q
      ·exact Nat.le_trans (Nat.le_max_right _ _) (foldl_ge h t _)
      ·exact ih _ q
    have:=this (K.getD i []) 0 e
    unfold fold1 at h1
    omega
   exact fold1_congr _ (fun k e=>hI.old k (hk i k e) (hb k e))
  have:=hI.le i hi
  have:=hh i hi
  rw [e1]
  omega
 refine ⟨fun x hx=>?_,fun x hx q=>?_,fun x hx hl q=>?_⟩
 ·by_cases e:x=i
  ·subst e
   rw [upd_same]
   have:=hI.le x hx
   omega
  ·rw [upd_other _ _ e];exact hI.le x hx
 ·by_cases e:x=i
  ·subst e
   rw [upd_same]
   exact hri (by omega)
  ·rw [upd_other _ _ e];exact hI.old x hx q
 ·by_cases e:x=i
  ·subst e
   rw [upd_same]
   exact hri q
  ·rw [upd_other _ _ e];exact hI.new x (by omega) hl q
theorem RdInv.next {K:List (List Nat)} {h:Nat→Nat} {r i:Nat} {out:Nat→Nat} (hI:RdInv K h r i out) (hi:K.length≤i):RdInv K h (r+1) 0 out:=⟨hI.le,fun x hx q=>hI.new x (by omega) hx q,fun x q=>by omega⟩
end Go.Proofs.YtgoffkfpdigeeaaGreatDoor
namespace Go.Proofs.YtgoffkfpdigeeaaGreatDoor
open Go.RowKit Go.Maps Go.WideMaps Go.Sort
def RightIs (X:List Nx) (r:Int):Prop:=isPb X.length r=true∧(∀i,i<X.length→okAt X i)∧(∀x,¬Lead (Ed (kX X)) x x)∧∀x,x<X.length→Rt (Ed (kX X)) r.toNat x
theorem CheckIs.right {X:List Nx} {r e z:Int} (h:CheckIs X r e z):e=0↔RightIs X r:=by
 rcases h with ⟨h1,rfl,_⟩|⟨h1,i,hi,rfl,_,hno,_⟩|⟨h1,h2,⟨i,rfl,_,hf⟩|⟨h3,⟨i,rfl,_,hi,hn,_⟩|⟨rfl,_,h4⟩⟩⟩
 ·exact ⟨fun q=>by omega,fun q=>by rw [q.1] at h1;cases h1⟩
 ·exact ⟨fun q=>by omega,fun q=>absurd (q.2.1 i hi) hno⟩
 ·exact ⟨fun q=>by omega,fun q=>absurd hf.1 (q.2.2.1 i)⟩
 ·exact ⟨fun q=>by omega,fun q=>absurd (q.2.2.2 i hi) hn⟩
 ·exact ⟨fun _=>⟨h1,h2,h3,h4⟩,fun _=>rfl⟩
def DepthIs (X:List Nx) (r:Int) (d:Nat):Prop:=(¬RightIs X r→d=0)∧(RightIs X r→∃h,HtIs (kX X) h∧d=h r.toNat∧∀x,x<X.length→1≤h x∧h x≤X.length)
def DepthOut (X:List Nx) (r:Int) (w w':World) (e:Ending):Prop:=∃d:Nat,e=.returned (.int .i64 (d:Int))∧DepthIs X r d∧Below w.heap.size w w'
theorem upd_upd (f:Nat→Nat) (a v v':Nat):upd (upd f a v) a v'=upd f a v':=by
 funext x
 unfold upd
 split <;> rfl
theorem upd_self (f:Nat→Nat) (a v:Nat) (h:f a=v):upd f a v=f:=by
 funext x
 unfold upd
 split
 ·rename_i e;rw [e,h]
 ·rfl
theorem hts_part (K:List (List Nat)) (order:List Nat) (hn:order.Nodup) (i x:Nat):hts K (order.take i) x≤hts K order x:=by
 by_cases hx:x ∈ order.take i
 ·have h1:=hn
  rw [← List.take_append_drop i order,List.nodup_append] at h1
  have:x ∉ order.drop i:=fun q=>h1.2.2 x hx x q rfl
  have h2:=hts_app K (order.take i) (order.drop i) x this
  rw [List.take_append_drop] at h2
  omega
 ·rw [hts_zero K _ x hx]
  exact Nat.zero_le _
theorem fold1_take (f:Nat→Nat) (l:List Nat) (j:Nat) (hj:j<l.length):fold1 f (l.take (j+1))=max (fold1 f (l.take j)) (f (l.getD j 0)):=by
 rw [take_at hj,fold1_snoc]
theorem hts_take (K:List (List Nat)) (order:List Nat) (i:Nat) (hi:i<order.length):hts K (order.take (i+1))=upd (hts K (order.take i)) (order.getD i 0) (fold1 (hts K (order.take i)) (K.getD (order.getD i 0) [])+1):=by
 rw [take_at hi,hts_snoc]
set_option maxRecDepth 10000 in
set_option maxHeartbeats 1000000 in
theorem depth_any (X:List Nx) (a:Option Addr) (c:Nat) (r:Int) (w:World) (h:ScAt w a X) (hX:Small X) :
  Calls Tryz.prog 108 #[.agg #[.slice a X.length c,.int .i64 r]] w fun e w'=>DepthOut X r w w' e:=by
 obtain ⟨i0,hi,hz0,hz1,hz2⟩:=info_parts Tryz.infoI7
 have HS:Hid (ScAt w a X∧Small X):=⟨h,hX⟩
 have hn:=hX.1
 have HA0:Hid (AtN 24 (w.alloc (.cells #[.slice a X.length c,.int .i64 r] 24)) w.heap.size #[.slice a X.length c,.int .i64 r]):=AtN.new w 24 _
 have HB0:Hid (Below w.heap.size w (w.alloc (.cells #[.slice a X.length c,.int .i64 r] 24))):=(Below.refl w.heap.size w).alloc (Nat.le_refl _) _
 have HC:Hid (Calls Tryz.prog 56 #[.agg #[.slice a X.length c,.int .i64 r]] (w.alloc (.cells #[.slice a X.length c,.int .i64 r] 24)) fun e w'=>CheckOut X r (w.alloc (.cells #[.slice a X.length c,.int .i64 r] 24)) w' e):=check_any X a c r _ (h.alloc _) hX
 clear h hX
 go_enter Tryz.func108,Tryz.ntmps108
 go_wp2_with fail
 refine Calls.mono HC.out ?_
 rintro e w1 ⟨n,z,rfl,hck,hb1⟩
 have HA1:Hid (AtN 24 w1 w.heap.size #[.slice a X.length c,.int .i64 r]∧Below w.heap.size w w1):=⟨AtN.belowAll HA0.out hb1,HB0.out.trans (hb1.mono HB0.out.size)⟩
 have hR:=hck.right
 clear HC HA0 HB0 hb1 hck
 by_cases hn0:n=0
 ·subst hn0
  have hri:RightIs X r:=hR.1 rfl
  have HG:Hid (RightIs X r):=hri
  have x0:w1.cell? ⟨w.heap.size,0,none⟩=some (.slice a X.length c):=HA1.out.1.cell 0
  have x1:w1.cell? ⟨w.heap.size,1,none⟩=some (.int .i64 r):=HA1.out.1.cell 1
  have HK:Hid (Calls Tryz.prog 104 #[.agg #[.slice a X.length c,.int .i64 r]] w1 fun e w'=>KidsOut X w1 w' e):=kids_any X a c r w1 (HS.out.1.belowB HA1.out.2) HS.out.2 hri.2.1
  clear hR hri
  go_wp2_with fail
  refine Calls.mono HK.out ?_
  rintro e w2 ⟨ak,rfl,hk2,hb2⟩
  have HA2:Hid (AtN 24 w2 w.heap.size #[.slice a X.length c,.int .i64 r]∧Below w.heap.size w w2∧LkQ (fun _=>True) w2 ak (lks X)):=⟨AtN.belowAll HA1.out.1 hb2,HA1.out.2.trans (hb2.mono HA1.out.2.size),hk2⟩
  have hLl:(lks X).length≤1401:=by rw [lks_length];exact hn
  have hmk:(Instr.makeSlice 49 (.int .i64 ((lks X).length:Int)) (.int .i64 ((lks X).length:Int))).run Tryz.prog w2=.ok (.slice (some ⟨w2.heap.size,0,none⟩) (lks X).length (lks X).length) (w2.alloc (.cells (fnV (lks X).length (fun _=>0)) 3)):=by
   have:=run_make (P:=Tryz.prog) w2 49 3 i0 (.int .i64 0) Tryz.underlying49 hi hz0 .i64 .i64 (lks X).length (lks X).length (by omega) (by omega) (by rw [hz2];omega) (by omega)
   rw [hz1,Int.toNat_natCast,fnV_new] at this
   simpa using this
  have hb3:Below w2.heap.size w2 (w2.alloc (.cells (fnV (lks X).length (fun _=>0)) 3)):=(Below.refl w2.heap.size w2).alloc (Nat.le_refl _) _
  have HBt:Hid (Calls Tryz.prog 139 #[.slice ak (lks X).length (lks X).length] (w2.alloc (.cells (fnV (lks X).length (fun _=>0)) 3)) fun e w'=>BotOut (lks X) (w2.alloc (.cells (fnV (lks X).length (fun _=>0)) 3)) w' e):=bottomup_any (lks X) ak _ _ (hk2.below hb3) (kX_ok HG.out.2.1) HS.out.2.lim
  have HA3:Hid (AtN 24 (w2.alloc (.cells (fnV (lks X).length (fun _=>0)) 3)) w.heap.size #[.slice a X.length c,.int .i64 r]∧Below w.heap.size w (w2.alloc (.cells (fnV (lks X).length (fun _=>0)) 3))∧LkQ (fun b=>b<w2.heap.size) (w2.alloc (.cells (fnV (lks X).length (fun _=>0)) 3)) ak (lks X)∧AtN 3 (w2.alloc (.cells (fnV (lks X).length (fun _=>0)) 3)) w2.heap.size (fnV (lks X).length (fun _=>0))∧w.heap.size<w2.heap.size):=⟨AtN.belowAll HA2.out.1 hb3,HA2.out.2.1.trans (hb3.mono HA2.out.2.1.size),hk2.now.below hb3,AtN.new w2 3 _,HA2.out.1.lt⟩
  have Hlk:Hid ((lks X).length=X.length):=lks_length X
  have Hf0:Hid (fnV (lks X).length (fun _=>0)=fnV (lks X).length (hts (kX X) [])):=rfl
  clear HK hk2 hb2 x0 x1 HA1 HA2 hb3
  generalize fnV (lks X).length (fun _=>0)=f0 at *
  go_wp2_with fail
  refine Calls.mono HBt.out ?_
  rintro e w4 ⟨order,ro,co,rfl,ho4,hbo,hb4⟩
  have hBh:Behind (kX X) order:=hbo.behind (kX_ok HG.out.2.1) HG.out.2.2.1
  have HO:Hid (BOut (kX X) order∧Behind (kX X) order):=⟨hbo,hBh⟩
  have hsz4:=hb4.size
  have HA4:Hid (AtN 24 w4 w.heap.size #[.slice a X.length c,.int .i64 r]∧Below w.heap.size w w4∧LkQ (fun b=>b<w2.heap.size) w4 ak (lks X)∧AtN 3 w4 w2.heap.size (fnV (lks X).length (hts (kX X) []))∧w.heap.size<w2.heap.size∧LsQ (fun b=>w2.heap.size<b) w4 (some ⟨ro,0,none⟩) (nV order)):=by
   refine ⟨AtN.belowAll HA3.out.1 hb4,HA3.out.2.1.trans (hb4.mono HA3.out.2.1.size),HA3.out.2.2.1.below hb4,Hf0.out ▸ (AtN.belowAll HA3.out.2.2.2.1 hb4),HA3.out.2.2.2.2,?_⟩
   have hro:=(ho4.lt ro rfl).1
   refine (LsQ.of_own ho4).mono (fun b q _=>?_)
   have:=(ho4.lt b q).1
   simp at this
   omega
  have hol:order.length≤1401:=by have:=hbo.len;rw [show (kOf (lks X)).length=(lks X).length from kOf_length _] at this;omega
  clear HBt HA3 ho4 hbo hBh hb4 Hf0 hmk
  go_wp2_with fail
  go_loopw [26] (fun iv wr=>∃(i:Nat),iv=.int .i64 i∧i≤order.length∧Hid (AtN 3 wr w2.heap.size (fnV (lks X).length (hts (kX X) (order.take i))))∧Hid (Fr (fun b=>b=w2.heap.size) w4 wr)) (fun iv _=>order.length-(intOf iv).toNat)
  case atStart=>exact ⟨0,rfl,by omega,by rw [List.take_zero];exact HA4.out.2.2.2.1,Fr.refl _ _⟩
  case round=>
   obtain ⟨i,rfl,hi',HA,HF⟩:=hrel
   by_cases hlt:i<order.length
   ·have hlt':(i:Int)<order.length:=by omega
    obtain ⟨b1,o1,e1,hq1,hb1,d1⟩:=(HA4.out.2.2.2.2.2.fr HF.out (fun b q _ e=>by omega)).atQ (nV_at order i hlt)
    cases e1
    rw [Nat.zero_add] at d1
    have hxK:order.getD i 0<(kX X).length:=(HO.out.1.2.1 _).1 (getD_mem hlt)
    have hx:order.getD i 0<(lks X).length:=by rw [lks_length,← kX_length];exact hxK
    have hx0:hts (kX X) (order.take i) (order.getD i 0)=0:=hts_zero _ _ _ (fun q=>by
     have hnd:=HO.out.1.1
     rw [drop_at hlt,List.nodup_append] at hnd
     exact hnd.2.2 _ q _ (by simp) rfl)
    have HT:Hid (hts (kX X) (order.take (i+1))=upd (hts (kX X) (order.take i)) (order.getD i 0) (fold1 (hts (kX X) (order.take i)) ((lks X).getD (order.getD i 0) noLn).ks+1)):=by
     show _=_
     rw [hts_take _ _ _ hlt,kX,kOf_at]
    have hst:∀y,y<(lks X).length→hts (kX X) (order.take i) y≤1401:=fun y hy=>by
     have h1:=hts_part (kX X) order HO.out.1.1 i y
     have h2:=(hts_is HO.out.1 HO.out.2).top HO.out.1 HO.out.2 (kX_ok HG.out.2.1) (a:=y) (by rw [kX_length,← lks_length];exact hy)
     rw [kX_length] at h2
     omega
    obtain ⟨b3,o3,e3,hq3,hb3,d3⟩:=(HA4.out.2.2.1.fr HF.out (fun b q _ e=>by omega)).top.atQ (lnV_at (lks X) (order.getD i 0) hx)
    have HE:Hid (∀W,Fr (fun b=>b=w2.heap.size) w4 W→LsQ (fun b=>b<w2.heap.size) W ((lks X).getD (order.getD i 0) noLn).a (nV ((lks X).getD (order.getD i 0) noLn).ks)):=fun W hW=>(HA4.out.2.2.1.fr hW (fun b q _ e=>by omega)).each _ hx
    have HP:Hid (∀k ∈ ((lks X).getD (order.getD i 0) noLn).ks,k<(lks X).length∧k≠order.getD i 0):=fun k hk=>by
     have he:Ed (kX X) (order.getD i 0) k:=by unfold Ed;rw [kX,kOf_at];exact hk
     refine ⟨by have:=kX_ok HG.out.2.1 _ _ he;rwa [kX_length,← lks_length] at this,fun e=>?_⟩
     rw [e] at he
     exact HG.out.2.2.1 _ ⟨_,he,Rt.refl _ _⟩
    have hkl:((lks X).getD (order.getD i 0) noLn).ks.length≤3000:=HS.out.2.tight.2 _ hx
    have HA':Hid (AtN 3 wr w2.heap.size (fnV (lks X).length (upd (hts (kX X) (order.take i)) (order.getD i 0) (fold1 (hts (kX X) (order.take i)) (((lks X).getD (order.getD i 0) noLn).ks.take 0))))):=by
     rw [List.take_zero,show fold1 (hts (kX X) (order.take i)) []=0 from rfl,upd_self _ _ _ hx0]
     exact HA.out
    have Hst:Hid (∀y,y<(lks X).length→hts (kX X) (order.take i) y≤1401):=hst
    have hx':((order.getD i 0:Nat):Int)<(lks X).length:=by omega
    generalize order.getD i 0=x at *
    generalize (lks X).getD x noLn=N at *
    generalize hts (kX X) (order.take i)=st at *
    cases e3
    clear HA hx0 hst hxK
    go_wp2_with fail
    go_loopw [35] (fun jv wr=>∃(j:Nat),jv=.int .i64 j∧j≤N.ks.length∧Hid (AtN 3 wr w2.heap.size (fnV (lks X).length (upd st x (fold1 st (N.ks.take j)))))∧Hid (Fr (fun b=>b=w2.heap.size) w4 wr)) (fun jv _=>N.ks.length-(intOf jv).toNat)
    case atStart=>exact ⟨0,rfl,by omega,HA',HF⟩
    case round=>
     clear HA' HF d1 d3 hb3 hb1
     obtain ⟨j,rfl,hj,HA,HF⟩:=hrel
     have y1:wr.cell? ⟨w2.heap.size,x,none⟩=some (.int .i64 (fold1 st (N.ks.take j):Int)):=by rw [HA.out.cell,fnV_at _ _ _ hx,upd_same]
     have yf:=HA.out.fz x
     by_cases hjl:j<N.ks.length
     ·have hjl':(j:Int)<N.ks.length:=by omega
      obtain ⟨b2,o2,e2,hq2,hb2,d2⟩:=(HE.out wr HF.out).atQ (nV_at N.ks j hjl)
      obtain ⟨hk1,hk2⟩:=HP.out _ (getD_mem hjl)
      have y2:wr.cell? ⟨w2.heap.size,N.ks.getD j 0,none⟩=some (.int .i64 (st (N.ks.getD j 0):Int)):=by rw [HA.out.cell,fnV_at _ _ _ hk1,upd_other _ _ hk2]
      have HV:Hid (AtN 3 (wr.setCell ⟨w2.heap.size,x,none⟩ (.int .i64 (max (fold1 st (N.ks.take j):Int) (st (N.ks.getD j 0):Int)))).drew w2.heap.size (fnV (lks X).length (upd st x (fold1 st (N.ks.take (j+1)))))∧Fr (fun b=>b=w2.heap.size) w4 (wr.setCell ⟨w2.heap.size,x,none⟩ (.int .i64 (max (fold1 st (N.ks.take j):Int) (st (N.ks.getD j 0):Int)))).drew):=by
       refine ⟨?_,(HF.out.set ⟨w2.heap.size,x,none⟩ rfl _).drew⟩
       rw [show max (fold1 st (N.ks.take j):Int) (st (N.ks.getD j 0):Int)=((max (fold1 st (N.ks.take j)) (st (N.ks.getD j 0)):Nat):Int) by omega]
       have:=AtN.set HA.out x (.int .i64 ((max (fold1 st (N.ks.take j)) (st (N.ks.getD j 0)):Nat):Int))
       rw [fnV_set,upd_upd] at this
       rw [fold1_take st N.ks j hjl]
       exact this
      have hk1':((N.ks.getD j 0:Nat):Int)<(lks X).length:=by omega
      generalize N.ks.getD j 0=k at *
      generalize fold1 st (N.ks.take j)=A at *
      generalize st k=C at *
      rw [e2]
      clear HA HF HE HP HT Hst HG HS HA4 HO hk2 Hlk
      go_wp2_with fail
      go_region
      go_wp2_with fail
      go_roundw
      case rel=>
       have hm:max (A:Int) (C:Int)=if A<C then (C:Int) else A:=by split <;> omega
       first
        | exact ⟨j+1,by go_num,by omega,HV.out.1,HV.out.2⟩
        | (have HV':=HV.out;rw [hm] at HV';exact ⟨j+1,by go_num,by omega,HV'.1,HV'.2⟩)
      case measure=>simp [intOf];omega
     ·have hjl':¬(j:Int)<N.ks.length:=by omega
      have hA60:fold1 st (N.ks.take j)≤1401:=fold1_le _ _ _ (fun k hk=>Hst.out k (HP.out k (List.mem_of_mem_take hk)).1)
      have HV:Hid (AtN 3 (wr.setCell ⟨w2.heap.size,x,none⟩ (.int .i64 ((fold1 st (N.ks.take j):Int)+1))) w2.heap.size (fnV (lks X).length (hts (kX X) (order.take (i+1))))∧Fr (fun b=>b=w2.heap.size) w4 (wr.setCell ⟨w2.heap.size,x,none⟩ (.int .i64 ((fold1 st (N.ks.take j):Int)+1)))):=by
       refine ⟨?_,HF.out.set ⟨w2.heap.size,x,none⟩ rfl _⟩
       have:=AtN.set HA.out x (.int .i64 ((fold1 st (N.ks.take j)+1:Nat):Int))
       rw [fnV_set,upd_upd] at this
       rw [HT.out,show fold1 st N.ks=fold1 st (N.ks.take j) by rw [List.take_of_length_le (by omega)]]
       exact this
      generalize fold1 st (N.ks.take j)=A at *
      clear HA HF HE HP HT Hst HG HS HA4 HO Hlk
      go_wp2_with fail
      go_roundw
      case rel=>exact ⟨i+1,by go_num,by omega,HV.out.1,HV.out.2⟩
      case measure=>simp [intOf];omega
   ·have hlt':¬(i:Int)<order.length:=by omega
    have hrK:r.toNat<X.length:=by have:=isPb_iff.1 HG.out.1;omega
    have hrn:r=(r.toNat:Int):=(Int.toNat_of_nonneg (isPb_iff.1 HG.out.1).1).symm
    have x1:wr.cell? ⟨w.heap.size,1,none⟩=some (.int .i64 (r.toNat:Int)):=by
     rw [← hrn]
     exact (AtN.fr HA4.out.1 HF.out (by have:=HA4.out.2.2.2.2.1;omega)).cell 1
    have y1:wr.cell? ⟨w2.heap.size,r.toNat,none⟩=some (.int .i64 (hts (kX X) order r.toNat:Int)):=by
     rw [HA.out.cell,List.take_of_length_le (by omega),fnV_at _ _ _ (by rw [lks_length];exact hrK)]
    have hrl:(r.toNat:Int)<(lks X).length:=by rw [lks_length];omega
    have HV:Hid (DepthOut X r w wr (.returned (.int .i64 (hts (kX X) order r.toNat:Int)))):=⟨_,rfl,⟨fun q=>absurd HG.out q,fun _=>⟨_,hts_is HO.out.1 HO.out.2,rfl,fun x hx=>by have:=(hts_is HO.out.1 HO.out.2).top HO.out.1 HO.out.2 (kX_ok HG.out.2.1) (a:=x) (by rw [kX_length];exact hx);rwa [kX_length] at this⟩⟩,Fr.below HA4.out.2.1 HF.out (fun z e=>by have:=HA4.out.2.2.2.2.1;omega) HA4.out.2.1.size⟩
    have Hrn:Hid (r=(r.toNat:Int)):=hrn
    generalize hts (kX X) order r.toNat=D at *
    generalize r.toNat=rn at *
    clear HA HF HG HS HA4 HO Hlk hrn
    go_wp2_with fail
    go_ret
    exact HV.out
 ·have HV:Hid (DepthOut X r w w1 (.returned (.int .i64 0))):=⟨0,rfl,⟨fun _=>rfl,fun q=>absurd (hR.2 q) hn0⟩,HA1.out.2⟩
  clear hR HA1 HS
  go_wp2_with fail
  go_ret
  exact HV.out
end Go.Proofs.YtgoffkfpdigeeaaGreatDoor
