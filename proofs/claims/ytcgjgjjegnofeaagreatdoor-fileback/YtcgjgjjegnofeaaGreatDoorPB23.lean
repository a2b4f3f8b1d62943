import Derived.Test.YtcgjgjjegnofeaaGreatDoorPB21
import Derived.Test.YtcgjgjjegnofeaaGreatDoorPB15
import Derived.Test.YtcgjgjjegnofeaaGreatDoorPB14
import Derived.Test.YtcgjgjjegnofeaaGreatDoorPB22
import Derived.Test.YtcgjgjjegnofeaaGreatDoorPB19
namespace Go.Proofs.YtcgjgjjegnofeaaGreatDoor
open Go.RowKit Go.Maps Go.WideMaps Go.Sort
def VaIs (X:List Nx) (r:Int) (l:Lm) (d:Nat) (e z:Int):Prop:=
 (okL l=false∧e=1∧z = -1)∨(okL l=true∧tyE X≠0∧e=tyE X∧z=tyZ X)∨
  (okL l=true∧tyE X=0∧∃n y,CheckIs X r n y∧((n≠0∧e=n∧z=y)∨(n=0∧((inL (meL X d) l=false∧e=19∧z = -1)∨(inL (meL X d) l=true∧e=0∧z=0)))))
def VaOut (X:List Nx) (r:Int) (l:Lm) (d:Nat) (w w':World) (e:Ending):Prop:=∃n z:Int,e=.returned (.tuple #[.int .i64 n,.int .i64 z])∧VaIs X r l d n z∧Below w.heap.size w w'
def vlF (X:List Nx) (a:Option Addr) (c:Nat) (r:Int) (d:Nat) (b n e f x:Int) (q:Bool):Nat→Value→World→Prop
 | 0,v,_=>v=.agg #[.slice a X.length c,.int .i64 r]
 | 1,v,_=>v=.agg #[.int .i64 0,.int .i64 X.length,.int .i64 (edg X:Nat),.int .i64 (d:Nat),.int .i64 (txb X:Nat)]
 | 2,v,_=>v=.agg #[.int .i64 b,.int .i64 n,.int .i64 e,.int .i64 f,.int .i64 x]
 | 3,v,_=>v=.bool q
 | 4,v,_=>v=.bool (!q)
 | _,_,_=>True
theorem vlF_stab (X:List Nx) (a:Option Addr) (c:Nat) (r:Int) (d:Nat) (b n e f x:Int) (q:Bool):∀ix jx v w w',ix≠jx→World.grownBy w w' (if ix=99 then none else none)→vlF X a c r d b n e f x q jx v w→vlF X a c r d b n e f x q jx v w':=by
 intro ix jx v w w' hne hg h
 match jx,h with
 | 0,h|1,h|2,h|3,h|4,h=>exact h
 | n+5,_=>trivial
set_option maxRecDepth 10000 in
set_option maxHeartbeats 1000000 in
theorem valid_any (X:List Nx) (a:Option Addr) (c:Nat) (r:Int) (l:Lm) (d:Nat) (w:World) (h:ScAt w a X) (hX:Small X) (hF:FnX X) (hT:Tabs12 w) (hd:DepthIs X r d) :
  Calls Tryz.prog 19 #[.agg #[.slice a X.length c,.int .i64 r],.agg #[.int .i64 l.b,.int .i64 l.n,.int .i64 l.e,.int .i64 l.d,.int .i64 l.x]] w fun e w'=>VaOut X r l d w w' e:=by
 have HO:Hid (∀W,Calls Tryz.prog 36 #[.agg #[.int .i64 l.b,.int .i64 l.n,.int .i64 l.e,.int .i64 l.d,.int .i64 l.x]] W fun e w'=>e=.returned (.bool (okL l))∧Below W.heap.size W w'):=fun W=>okl_any l W
 have HT:Hid (∀W,Below w.heap.size w W→Calls Tryz.prog 45 #[.agg #[.slice a X.length c,.int .i64 r]] W fun e w'=>e=.returned (.tuple #[.int .i64 (tyE X),.int .i64 (tyZ X)])∧Below W.heap.size W w'):=fun W hW=>typed_any X a c r W (h.belowB hW) hX hF (hT.on hW)
 have HC:Hid (∀W,Below w.heap.size w W→Calls Tryz.prog 46 #[.agg #[.slice a X.length c,.int .i64 r]] W fun e w'=>CheckOut X r W w' e):=fun W hW=>check_any X a c r W (h.belowB hW) hX
 have HM:Hid (∀W,Below w.heap.size w W→Calls Tryz.prog 48 #[.agg #[.slice a X.length c,.int .i64 r]] W fun e w'=>e=.returned (.agg #[.int .i64 0,.int .i64 X.length,.int .i64 (edg X:Nat),.int .i64 (d:Nat),.int .i64 (txb X:Nat)])∧Below W.heap.size W w'):=fun W hW=>measure_any X a c r d W (h.belowB hW) hX hd
 have HI:Hid (∀W,Calls Tryz.prog 47 #[.agg #[.int .i64 0,.int .i64 X.length,.int .i64 (edg X:Nat),.int .i64 (d:Nat),.int .i64 (txb X:Nat)],.agg #[.int .i64 l.b,.int .i64 l.n,.int .i64 l.e,.int .i64 l.d,.int .i64 l.x]] W fun e w'=>e=.returned (.bool (inL (meL X d) l))∧Below W.heap.size W w'):=fun W=>within_any (meL X d) l W
 have HV:Hid (∀e z,((okL l=false∧e=1∧z = -1)∨(okL l=true∧tyE X≠0∧e=tyE X∧z=tyZ X)∨
  (okL l=true∧tyE X=0∧∃n y,CheckIs X r n y∧((n≠0∧e=n∧z=y)∨(n=0∧((inL (meL X d) l=false∧e=19∧z = -1)∨(inL (meL X d) l=true∧e=0∧z=0))))))→VaIs X r l d e z):=fun e z q=>q
 have HA0:Hid (∀o1 o2:Obj,o1=.cells #[.slice a X.length c,.int .i64 r] 24→o2=.cells #[.int .i64 l.b,.int .i64 l.n,.int .i64 l.e,.int .i64 l.d,.int .i64 l.x] 26→AtN 24 ((w.alloc o1).alloc o2) w.heap.size #[.slice a X.length c,.int .i64 r]∧AtN 26 ((w.alloc o1).alloc o2) (w.heap.size+1) #[.int .i64 l.b,.int .i64 l.n,.int .i64 l.e,.int .i64 l.d,.int .i64 l.x]∧Below w.heap.size w ((w.alloc o1).alloc o2)):=by
  rintro _ _ rfl rfl
  exact ⟨(AtN.new w 24 _).alloc _,mk_at (AtN.new (w.alloc _) 26 _) (by simp),((Below.refl w.heap.size w).alloc (Nat.le_refl _) _).alloc (by simp) _⟩
 clear h hX hF hd hT
 unfold VaOut
 generalize VaIs X r l d=VA at *
 generalize okL l=ok at *
 generalize inL (meL X d) l=q at *
 generalize tyE X=te at *
 generalize tyZ X=tz at *
 obtain ⟨b,n,e,f,x⟩:=l
 dsimp only at *
 go_enter Tryz.func19,Tryz.ntmps19
 go_wp2_with fail
 obtain ⟨h1,h2,h3⟩:=HA0.out _ _ rfl rfl
 refine (HO.out _).mono ?_
 rintro e1 w1 ⟨rfl,hb1⟩
 have HA1:Hid (AtN 24 w1 w.heap.size #[.slice a X.length c,.int .i64 r]):=h1.belowAll hb1
 have HL1:Hid (AtN 26 w1 (w.heap.size+1) #[.int .i64 b,.int .i64 n,.int .i64 e,.int .i64 f,.int .i64 x]):=h2.belowAll hb1
 have HB1:Hid (Below w.heap.size w w1):=h3.trans (hb1.mono h3.size)
 clear HO HA0 h1 h2 h3 hb1
 cases ok with
 | false=>
  have hv:=HV.out 1 (-1) (.inl ⟨by first|rfl|trivial,rfl,rfl⟩)
  clear HV HT HC HM HI HA1 HL1
  go_wp2_with fail
  go_ret2
  exact ⟨_,_,rfl,hv,HB1.out⟩
 | true=>
  have x0:w1.cell? ⟨w.heap.size,0,none⟩=some (.slice a X.length c):=HA1.out.cell 0
  have x1:w1.cell? ⟨w.heap.size,1,none⟩=some (.int .i64 r):=HA1.out.cell 1
  have HT1:Hid _:=HT.out w1 HB1.out
  clear HT
  go_wp2_with fail
  refine Calls.mono (Hid.out HT1) ?_
  rintro e2 w2 ⟨rfl,hb2⟩
  have HA2:Hid (AtN 24 w2 w.heap.size #[.slice a X.length c,.int .i64 r]):=AtN.belowAll HA1.out hb2
  have HL2:Hid (AtN 26 w2 (w.heap.size+1) #[.int .i64 b,.int .i64 n,.int .i64 e,.int .i64 f,.int .i64 x]):=AtN.belowAll HL1.out hb2
  have HB2:Hid (Below w.heap.size w w2):=HB1.out.trans (hb2.mono HB1.out.size)
  clear HT1 HA1 HL1 HB1 hb2 x0 x1
  by_cases hte:te=0
  ·subst hte
   have x0:w2.cell? ⟨w.heap.size,0,none⟩=some (.slice a X.length c):=HA2.out.cell 0
   have x1:w2.cell? ⟨w.heap.size,1,none⟩=some (.int .i64 r):=HA2.out.cell 1
   have HC1:Hid (Calls Tryz.prog 46 #[.agg #[.slice a X.length c,.int .i64 r]] w2 fun e w'=>CheckOut X r w2 w' e):=HC.out w2 HB2.out
   clear HC
   go_wp2_with fail
   refine Calls.mono HC1.out ?_
   rintro e3 w3 ⟨k,y,rfl,hc,hb3⟩
   have HA3:Hid (AtN 24 w3 w.heap.size #[.slice a X.length c,.int .i64 r]):=AtN.belowAll HA2.out hb3
   have HL3:Hid (AtN 26 w3 (w.heap.size+1) #[.int .i64 b,.int .i64 n,.int .i64 e,.int .i64 f,.int .i64 x]):=AtN.belowAll HL2.out hb3
   have HB3:Hid (Below w.heap.size w w3):=HB2.out.trans (hb3.mono HB2.out.size)
   have HCI:Hid (CheckIs X r k y):=hc
   clear HC1 HA2 HL2 HB2 hb3 hc x0 x1
   by_cases hk:k=0
   ·subst hk
    have HV1:Hid (∀e z,((q=false∧e=19∧z = -1)∨(q=true∧e=0∧z=0))→VA e z):=fun e z p=>HV.out e z (.inr (.inr ⟨by first|rfl|trivial,by first|rfl|trivial,0,y,HCI.out,.inr ⟨rfl,p⟩⟩))
    clear HV HCI
    go_wp2_with fail
    refine facts_region none 99 (vlF X a c r d b n e f x q) (by kernel_rfl) (by kernel_rfl) (vlF_stab X a c r d b n e f x q) ?step ?fin
    case step=>
     intro i' o' ho act W hg hstill hoff hdep K hK
     have hb:=below_of_grown hg
     have HBW:Hid (Below w.heap.size w W):=HB3.out.trans (hb.mono HB3.out.size)
     have A0:=AtN.belowAll HA3.out hb
     have x0:W.cell? ⟨w.heap.size,0,none⟩=some (.slice a X.length c):=A0.cell 0
     have x1:W.cell? ⟨w.heap.size,1,none⟩=some (.int .i64 r):=A0.cell 1
     have A1:=AtN.belowAll HL3.out hb
     have y0:W.cell? ⟨w.heap.size+1,0,none⟩=some (.int .i64 b):=A1.cell 0
     have y1:W.cell? ⟨w.heap.size+1,1,none⟩=some (.int .i64 n):=A1.cell 1
     have y2:W.cell? ⟨w.heap.size+1,2,none⟩=some (.int .i64 e):=A1.cell 2
     have y3:W.cell? ⟨w.heap.size+1,3,none⟩=some (.int .i64 f):=A1.cell 3
     have y4:W.cell? ⟨w.heap.size+1,4,none⟩=some (.int .i64 x):=A1.cell 4
     have HMW:Hid _:=HM.out W HBW.out
     have HIW:Hid _:=HI.out W
     clear hb A0 A1 HM HI HA3 HL3 HB3 HBW HV1
     rcases i' with _|_|_|_|_|i'
     ·obtain rfl:=Option.some.inj ho
      have t2:act.tmps[2]?.getD undef=.pointer (some ⟨w.heap.size,0,none⟩):=hoff 2 (by kernel_rfl)
      clear hdep hoff hg hstill HMW HIW
      go_simp
      exact hK _ _ (grown_refl _ _) rfl
     ·obtain rfl:=Option.some.inj ho
      have e0:act.tmps[31]?.getD undef=.agg #[.slice a X.length c,.int .i64 r]:=hdep 0 _ (by kernel_rfl) rfl
      clear hdep hoff hg hstill HIW
      go_simp
      refine Calls.mono HMW.out ?_
      rintro e w' ⟨rfl,hb⟩
      exact hK _ _ (grown_of_below hb _) rfl
     ·obtain rfl:=Option.some.inj ho
      have t3:act.tmps[3]?.getD undef=.pointer (some ⟨w.heap.size+1,0,none⟩):=hoff 3 (by kernel_rfl)
      clear hdep hoff hg hstill HMW HIW
      go_simp
      exact hK _ _ (grown_refl _ _) rfl
     ·obtain rfl:=Option.some.inj ho
      have e1:act.tmps[32]?.getD undef=.agg #[.int .i64 0,.int .i64 X.length,.int .i64 (edg X:Nat),.int .i64 (d:Nat),.int .i64 (txb X:Nat)]:=hdep 1 _ (by kernel_rfl) rfl
      have e2:act.tmps[33]?.getD undef=.agg #[.int .i64 b,.int .i64 n,.int .i64 e,.int .i64 f,.int .i64 x]:=hdep 2 _ (by kernel_rfl) rfl
      clear hdep hoff hg hstill HMW
      go_simp
      refine Calls.mono HIW.out ?_
      rintro e w' ⟨rfl,hb⟩
      exact hK _ _ (grown_of_below hb _) rfl
     ·obtain rfl:=Option.some.inj ho
      have e3:act.tmps[34]?.getD undef=.bool q:=hdep 3 _ (by kernel_rfl) rfl
      clear hdep hoff hg hstill HMW HIW
      go_simp
      exact hK _ _ (grown_refl _ _) rfl
     ·exact absurd ho (by simp)
    case fin=>
     intro V W hg hF
     have hb:=below_of_grown hg
     have HB4:Hid (Below w.heap.size w W):=HB3.out.trans (hb.mono HB3.out.size)
     have v35:V (some 35)=.bool (!q):=hF 4 _ rfl
     clear hF hg hb HM HI HA3 HL3 HB3
     simp only [fillA,Act.put,List.setIfInBounds_toArray,List.set_cons_zero,List.set_cons_succ,v35]
     generalize V (some 31)=z31
     generalize V (some 32)=z32
     generalize V (some 33)=z33
     generalize V (some 34)=z34
     clear v35
     cases q with
     | false=>
      have hv:=HV1.out 19 (-1) (.inl ⟨rfl,rfl,rfl⟩)
      clear HV1
      go_wp2_with fail
      go_ret2
      exact ⟨_,_,rfl,hv,HB4.out⟩
     | true=>
      have hv:=HV1.out 0 0 (.inr ⟨rfl,rfl,rfl⟩)
      clear HV1
      go_wp2_with fail
      go_ret2
      exact ⟨_,_,rfl,hv,HB4.out⟩
   ·have hv:=HV.out k y (.inr (.inr ⟨by first|rfl|trivial,by first|rfl|trivial,k,y,HCI.out,.inl ⟨hk,rfl,rfl⟩⟩))
    clear HV HCI HM HI HA3 HL3
    go_wp2_with fail
    go_ret2
    exact ⟨_,_,rfl,hv,HB3.out⟩
  ·have hv:=HV.out te tz (.inr (.inl ⟨by first|rfl|trivial,hte,rfl,rfl⟩))
   clear HV HC HM HI HA2 HL2
   go_wp2_with fail
   go_ret2
   exact ⟨_,_,rfl,hv,HB2.out⟩
end Go.Proofs.YtcgjgjjegnofeaaGreatDoor
namespace Go.Proofs.YtcgjgjjegnofeaaGreatDoor
open Go.RowKit
def mD:ByteArray:=⟨#[68,73,79,82]⟩
def cA (X:List Nx) (r:Int):ByteArray:=⟨(pPut6 (rTab (cX X r) [])).toArray⟩
def cC (X:List Nx) (r:Int):ByteArray:=⟨(put (cX X r).length++rAllN 0 (cX X r) []).toArray⟩
def secs2 (A C:ByteArray):List Sec:=[(1,A),(2,C)]
def cF (X:List Nx) (r:Int):ByteArray:=⟨(pPut mD 2 (secs2 (cA X r) (cC X r))).1.toArray⟩
theorem ba_eq {s t:ByteArray} (h:s.data.toList=t.data.toList):s=t:=by
 cases s;cases t;congr;exact Array.toList_inj.1 h
theorem put_can {X Y:List Nx} {r e:Int} {A C:ByteArray} (hW:Whole X r) (hY:Y.map Nx.nd=cX X r) (hP:PuIs Y ((X.length:Int)-1) A C e):e=0∧A=cA X r∧C=cC X r:=by
 have hR:=can_ren hW.2 hY
 have hC:=can_isCan hW.2 hY
 rcases hP with ⟨h1,_⟩|⟨_,n,y,h2,⟨h3,_⟩|⟨h3,⟨h4,_⟩|⟨h4,h5,h6,h7⟩⟩⟩
 ·exact absurd (hR.ty hW.1) h1
 ·exact absurd (h2.right.2 hC.1) h3
 ·exact absurd hC h4
 ·refine ⟨h5,ba_eq ?_,ba_eq ?_⟩
  ·rw [h6,hY]
   unfold cA
   rw [List.toList_toArray]
  ·rw [h7,hY,← List.length_map Nx.nd,hY]
   unfold cC
   rw [List.toList_toArray]
def SvIs (X:List Nx) (r:Int) (l:Lm) (B:ByteArray) (e:Int):Prop:=
 ∃d n z,DepthIs X r d∧VaIs X r l d n z∧((n≠0∧e=n∧B=⟨#[]⟩)∨(n=0∧((l.b<(cF X r).size∧e=19∧B=⟨#[]⟩)∨(¬l.b<(cF X r).size∧e=0∧B=cF X r))))
theorem va_uniq {X:List Nx} {r:Int} {l:Lm} {d:Nat} {e z e' z':Int} (h:VaIs X r l d e z) (h':VaIs X r l d e' z'):e'=e∧z'=z:=by
 rcases h with ⟨h1,rfl,rfl⟩|⟨h1,h2,rfl,rfl⟩|⟨h1,h2,n,y,hc,h3⟩
 ·rcases h' with ⟨_,rfl,rfl⟩|⟨q,_⟩|⟨q,_⟩
  ·exact ⟨rfl,rfl⟩
  ·rw [h1] at q;cases q
  ·rw [h1] at q;cases q
 ·rcases h' with ⟨q,_⟩|⟨_,_,rfl,rfl⟩|⟨_,q,_⟩
  ·rw [h1] at q;cases q
  ·exact ⟨rfl,rfl⟩
  ·exact absurd q h2
 ·rcases h' with ⟨q,_⟩|⟨_,q,_⟩|⟨_,_,n',y',hc',h3'⟩
  ·rw [h1] at q;cases q
  ·exact absurd h2 q
  ·obtain ⟨rfl,rfl⟩:=hc.uniq hc'
   rcases h3 with ⟨p,rfl,rfl⟩|⟨p,⟨p1,rfl,rfl⟩|⟨p1,rfl,rfl⟩⟩
   ·rcases h3' with ⟨_,rfl,rfl⟩|⟨q,_⟩
    ·exact ⟨rfl,rfl⟩
    ·exact absurd q p
   ·rcases h3' with ⟨q,_⟩|⟨_,⟨_,rfl,rfl⟩|⟨q,_⟩⟩
    ·exact absurd p q
    ·exact ⟨rfl,rfl⟩
    ·rw [p1] at q;cases q
   ·rcases h3' with ⟨q,_⟩|⟨_,⟨q,_⟩|⟨_,rfl,rfl⟩⟩
    ·exact absurd p q
    ·rw [p1] at q;cases q
    ·exact ⟨rfl,rfl⟩
theorem SvIs.uniq {X:List Nx} {r:Int} {l:Lm} {B B':ByteArray} {e e':Int} (h:SvIs X r l B e) (h':SvIs X r l B' e'):B'=B∧e'=e:=by
 obtain ⟨d,n,z,h1,h2,h3⟩:=h
 obtain ⟨d',n',z',g1,g2,g3⟩:=h'
 have hd:=h1.only g1
 subst hd
 obtain ⟨rfl,rfl⟩:=va_uniq h2 g2
 rcases h3 with ⟨a,rfl,rfl⟩|⟨a,⟨b,rfl,rfl⟩|⟨b,rfl,rfl⟩⟩
 ·rcases g3 with ⟨_,rfl,rfl⟩|⟨q,_⟩
  ·exact ⟨rfl,rfl⟩
  ·exact absurd q a
 ·rcases g3 with ⟨q,_⟩|⟨_,⟨_,rfl,rfl⟩|⟨q,_⟩⟩
  ·exact absurd a q
  ·exact ⟨rfl,rfl⟩
  ·exact absurd b q
 ·rcases g3 with ⟨q,_⟩|⟨_,⟨q,_⟩|⟨_,rfl,rfl⟩⟩
  ·exact absurd a q
  ·exact absurd q b
  ·exact ⟨rfl,rfl⟩
def ldK (b:ByteArray) (l:Lm):Int × ByteArray × ByteArray:=
 if okL l=false then (1,⟨#[]⟩,⟨#[]⟩) else if l.b<b.size then (19,⟨#[]⟩,⟨#[]⟩) else
 if (pGet mD.data.toList b.data.toList).1≠0 then ((pGet mD.data.toList b.data.toList).1,⟨#[]⟩,⟨#[]⟩) else
 if (pGet mD.data.toList b.data.toList).2.1≠2 then (7,⟨#[]⟩,⟨#[]⟩) else
 match (pGet mD.data.toList b.data.toList).2.2 with
 | [s,t]=>if s.1=1∧t.1=2 then (0,s.2,t.2) else (4,⟨#[]⟩,⟨#[]⟩)
 | _=>(4,⟨#[]⟩,⟨#[]⟩)
def LdIs (b:ByteArray) (l:Lm) (P:List Nd) (r e:Int):Prop:=
 ((ldK b l).1≠0∧e=(ldK b l).1∧P=[]∧r=0)∨((ldK b l).1=0∧GeIs (ldK b l).2.1 (ldK b l).2.2 l P r e)
theorem LdIs.uniq {b:ByteArray} {l:Lm} {P P':List Nd} {r r' e e':Int} (h:LdIs b l P r e) (h':LdIs b l P' r' e'):P'=P∧r'=r∧e'=e:=by
 rcases h with ⟨a,rfl,rfl,rfl⟩|⟨a,h⟩
 ·rcases h' with ⟨_,rfl,rfl,rfl⟩|⟨q,_⟩
  ·exact ⟨rfl,rfl,rfl⟩
  ·exact absurd q a
 ·rcases h' with ⟨q,_⟩|⟨_,h'⟩
  ·exact absurd a q
  ·exact h.uniq h'
section
variable (b:ByteArray) (l:Lm)
theorem ldK_1 (h:okL l=false):(ldK b l).1=1:=by unfold ldK;rw [if_pos h]
variable (h1:okL l=true)
theorem ldK_2 (h1:okL l=true) (h:l.b<(b.size:Int)):(ldK b l).1=19:=by unfold ldK;rw [if_neg (by simp [h1]),if_pos h]
theorem ldK_3 (h1:okL l=true) (h2:¬l.b<(b.size:Int)) (h:(pGet mD.data.toList b.data.toList).1≠0):(ldK b l).1=(pGet mD.data.toList b.data.toList).1:=by unfold ldK;rw [if_neg (by simp [h1]),if_neg h2,if_pos h]
theorem ldK_4 (h1:okL l=true) (h2:¬l.b<(b.size:Int)) (h3:(pGet mD.data.toList b.data.toList).1=0) (h:(pGet mD.data.toList b.data.toList).2.1≠2):(ldK b l).1=7:=by unfold ldK;rw [if_neg (by simp [h1]),if_neg h2,if_neg (by simp [h3]),if_pos h]
theorem ldK_5 (h1:okL l=true) (h2:¬l.b<(b.size:Int)) (h3:(pGet mD.data.toList b.data.toList).1=0) (h4:(pGet mD.data.toList b.data.toList).2.1=2) (h:¬∃s t,(pGet mD.data.toList b.data.toList).2.2=[s,t]∧s.1=1∧t.1=2):(ldK b l).1=4:=by
 unfold ldK
 rw [if_neg (by simp [h1]),if_neg h2,if_neg (by simp [h3]),if_neg (by simp [h4])]
 split
 ·rename_i s t hs
  rw [if_neg (fun q=>h ⟨s,t,hs,q⟩)]
 ·rfl
theorem ldK_6 (h1:okL l=true) (h2:¬l.b<(b.size:Int)) (h3:(pGet mD.data.toList b.data.toList).1=0) (h4:(pGet mD.data.toList b.data.toList).2.1=2) {A C:ByteArray} (h:(pGet mD.data.toList b.data.toList).2.2=[(1,A),(2,C)]):ldK b l=(0,A,C):=by
 unfold ldK
 rw [if_neg (by simp [h1]),if_neg h2,if_neg (by simp [h3]),if_neg (by simp [h4]),h]
 exact if_pos ⟨rfl,rfl⟩
end
theorem ldK_inv {b:ByteArray} {l:Lm} (h:(ldK b l).1=0):okL l=true∧¬l.b<(b.size:Int)∧pGet mD.data.toList b.data.toList=(0,2,secs2 (ldK b l).2.1 (ldK b l).2.2):=by
 cases h0:okL l with
 | false=>unfold ldK at h;rw [if_pos h0] at h;cases h
 | true=>
 obtain ⟨E,V,S,hG⟩:∃E V S,pGet mD.data.toList b.data.toList=(E,V,S):=⟨_,_,_,rfl⟩
 unfold ldK at h ⊢
 rw [if_neg (by simp [h0]),hG] at h ⊢
 dsimp only at h ⊢
 split at h
 ·cases h
 rename_i h1
 rw [if_neg h1]
 split at h
 ·rename_i q;exact absurd (by simpa using h) q
 rename_i h2
 rw [if_neg h2]
 split at h
 ·cases h
 rename_i h3
 rw [if_neg h3]
 simp only [ne_eq,Decidable.not_not] at h2 h3
 match S,h with
 | [s,t],h=>
  dsimp only at h ⊢
  split at h
  ·rename_i h4
   rw [if_pos h4]
   obtain ⟨s1,s2⟩:=s
   obtain ⟨t1,t2⟩:=t
   obtain ⟨rfl,rfl⟩:=h4
   exact ⟨rfl,h1,by rw [h2,h3];rfl⟩
  ·cases h
 | [],h=>cases h
 | [_],h=>cases h
 | _ :: _ :: _ :: _,h=>cases h
theorem file_of {b:ByteArray} {l:Lm} (h:(ldK b l).1=0):b.data.toList=(pPut mD 2 (secs2 (ldK b l).2.1 (ldK b l).2.2)).1∧(ldK b l).2.1.size≤b.size∧(ldK b l).2.2.size≤b.size:=by
 obtain ⟨_,_,h3⟩:=ldK_inv h
 have h4:=one_math mD b.data.toList (by rw [h3])
 rw [h3] at h4
 dsimp only at h4
 have h5:pPut mD 2 (secs2 (ldK b l).2.1 (ldK b l).2.2)=(b.data.toList,0):=h4
 have h6:=(pPut_sizes mD 2 (secs2 (ldK b l).2.1 (ldK b l).2.2) (by rw [h5])).2
 rw [h5] at h6
 dsimp only at h6
 rw [list_size] at h6
 exact ⟨by rw [h5],h6 (1,_) (by simp [secs2]),h6 (2,_) (by simp [secs2])⟩
theorem secs2_put {A C:ByteArray} (hA:A.size≤16777216) (hC:C.size≤16777216):(pPut mD 2 (secs2 A C)).2=0:=by
 rw [pPut_of mD 2 (secs2 A C) rfl (by decide) (by decide) (by simp [secs2]) (fun s hs=>by
  simp only [secs2,List.mem_cons,List.not_mem_nil,or_false] at hs
  rcases hs with rfl|rfl
  ·exact ⟨by show (1:Int)≤1;decide,by show (1:Int)≤255;decide,hA⟩
  ·exact ⟨by show (1:Int)≤2;decide,by show (2:Int)≤255;decide,hC⟩)]
theorem ldK_put {A C:ByteArray} {l:Lm} (ho:okL l=true) (hA:A.size≤16777216) (hC:C.size≤16777216) (hb:¬l.b<((⟨(pPut mD 2 (secs2 A C)).1.toArray⟩:ByteArray).size:Int)):ldK ⟨(pPut mD 2 (secs2 A C)).1.toArray⟩ l=(0,A,C):=by
 have h1:=back_math mD 2 (secs2 A C) (secs2_put hA hC)
 have h2:(⟨(pPut mD 2 (secs2 A C)).1.toArray⟩:ByteArray).data.toList=(pPut mD 2 (secs2 A C)).1:=List.toList_toArray
 refine ldK_6 _ _ ho hb (by rw [h2,h1]) (by rw [h2,h1];rfl) (by rw [h2,h1];rfl)
theorem pu_can {X Y:List Nx} {r:Int} (hW:Whole X r) (hY:Y.map Nx.nd=cX X r):PuIs Y ((X.length:Int)-1) (cA X r) (cC X r) 0:=by
 have hR:=can_ren hW.2 hY
 have hC:=can_isCan hW.2 hY
 refine .inr ⟨hR.ty hW.1,0,0,check_right hC.1,.inr ⟨rfl,.inr ⟨hC,rfl,?_,?_⟩⟩⟩
 ·unfold cA
  rw [List.toList_toArray,hY]
 ·unfold cC
  rw [List.toList_toArray,hY,← hY,List.length_map]
theorem va_good {X:List Nx} {r:Int} {l:Lm} {d:Nat} (ho:okL l=true) (hW:Whole X r) (hi:inL (meL X d) l=true):VaIs X r l d 0 0:=
 .inr (.inr ⟨ho,hW.1,0,0,check_right hW.2,.inr ⟨rfl,.inr ⟨hi,rfl,rfl⟩⟩⟩)
theorem one_file {b:ByteArray} {l:Lm} {X:List Nx} {r:Int} (h:LdIs b l (X.map Nx.nd) r 0):SvIs X r l b 0∧okL l=true∧Whole X r∧∃d,DepthIs X r d∧inL (meL X d) l=true:=by
 rcases h with ⟨h1,h2,_,_⟩|⟨h1,hG⟩
 ·exact absurd h2.symm h1
 obtain ⟨p1,p2,p3,p4,d,p5,p6⟩:=got_all hG
 have hW:Whole X r:=⟨p3,p4⟩
 have hC:IsCan X r:=by
  rcases p1 with ⟨q,_⟩|⟨_,n,y,_,⟨q,q2,_⟩|⟨_,⟨_,q,_⟩|⟨q,_⟩⟩⟩
  ·exact absurd p3 q
  ·exact absurd q2.symm q
  ·cases q
  ·exact q
 obtain ⟨_,c2,c3⟩:=(isCan_iff X r).1 hC
 have p1':=p1
 rw [← c2] at p1'
 obtain ⟨_,e1,e2⟩:=put_can hW c3 p1'
 have hF:cF X r=b:=by
  obtain ⟨f1,_,_⟩:=file_of h1
  refine ba_eq ?_
  unfold cF
  rw [List.toList_toArray,f1,e1,e2]
 obtain ⟨_,hb,_⟩:=ldK_inv h1
 refine ⟨⟨d,0,0,p5,va_good p2 hW p6,.inr ⟨rfl,.inr ⟨by rw [hF];exact hb,rfl,hF.symm⟩⟩⟩,p2,hW,d,p5,p6⟩
theorem back_file {X Y:List Nx} {r:Int} {l:Lm} {d:Nat} (hS:Small X) (hf:X.length≤60) (hF:FnX X) (hW:Whole X r) (hY:Y.map Nx.nd=cX X r) (hd:DepthIs X r d) (ho:okL l=true) (hi:inL (meL X d) l=true) (hb:¬l.b<((cF X r).size:Int)) :
  LdIs (cF X r) l (Y.map Nx.nd) ((X.length:Int)-1) 0∧Bk Y ((X.length:Int)-1) (cA X r) (cC X r):=by
 have hB:=(bk_of hS hf hF hW hY (pu_can hW hY)).2
 have hz:=hB.size
 have hR:=can_ren hW.2 hY
 have hk:ldK (cF X r) l=(0,cA X r,cC X r):=ldK_put ho (by omega) (by omega) hb
 have hi2:=of_decide_eq_true (show decide (inP (meL X d) l)=true from hi)
 obtain ⟨_,i1,i2,i3,i4⟩:=hi2
 have j1:(X.length:Int)≤l.n:=i1
 have j2:((edg X:Nat):Int)≤l.e:=i2
 have j3:((d:Nat):Int)≤l.d:=i3
 have j4:((txb X:Nat):Int)≤l.x:=i4
 refine ⟨.inr ⟨by rw [hk],?_⟩,hB⟩
 rw [hk]
 refine hB.got ho ?_ (by rw [hR.len];exact j1) (by rw [hR.edg];exact j2) (can_depth hW.2 hY hd) j3
 have h5:txb Y=txb X:=hR.txb
 have h6:sum6 (itn (allT Y))=txb Y:=rfl
 rw [h6,h5]
 exact j4
end Go.Proofs.YtcgjgjjegnofeaaGreatDoor
namespace Go.Proofs.YtcgjgjjegnofeaaGreatDoor
open Go.RowKit
def aT:ByteArray:=⟨#[97]⟩
def aN:Nd:=⟨4,[1],[aT],[]⟩
def aA:ByteArray:=⟨#[1,1,97]⟩
def aC:ByteArray:=⟨#[1,4,2,0,0]⟩
def aX (g:Nat):List Nx:=[⟨aN,some ⟨g,0,none⟩,1,some ⟨g+1,0,none⟩,1,none,0⟩]
theorem aX_ed (g x y:Nat):¬Ed (kX (aX g)) x y:=by
 have hk:kX (aX g)=[[]]:=rfl
 unfold Ed
 rw [hk]
 match x with
 | 0=>simp
 | n+1=>simp
theorem aX_right (g:Nat):RightIs (aX g) 0:=by
 refine ⟨rfl,fun i hi j hj=>?_,fun x=>?_,fun x hx=>?_⟩
 ·match i,hi with
  | 0,_=>exact absurd hj (by simp [aX,aN])
 ·rintro ⟨c,e,_⟩
  exact aX_ed g _ _ e
 ·match x,hx with
  | 0,_=>exact Rt.refl _ _
theorem aX_ord (g:Nat):oX (aX g) 0=[0]:=by
 show ordO [[]] 0=_
 decide
theorem aX_can (g:Nat):IsCan (aX g) 0:=by
 refine ⟨aX_right g,fun i hi=>?_⟩
 rw [aX_ord]
 match i,hi with
 | 0,_=>rfl
theorem aX_small (g:Nat):Small (aX g):=by
 refine ⟨by simp [aX],fun i hi=>?_⟩
 match i,hi with
 | 0,_=>show big aN=false;decide +kernel
theorem aX_fn (g:Nat):FnX (aX g):=fun i hi j hj=>by
 match i,hi with
 | 0,_=>
  match j,hj with
  | 0,_=>exact ⟨by show (-9223372036854775808:Int)≤1;decide,by show (1:Int)≤9223372036854775807;decide⟩
theorem aX_ty (g:Nat):tyE (aX g)=0:=by
 have h:tyN aN=0:=by decide +kernel
 show (tyG [⟨aN,_,_,_,_,_,_⟩] 0).1=0
 unfold tyG
 rw [if_pos h]
 rfl
theorem aX_bk (g:Nat):Bk (aX g) 0 aA aC:=by
 have h1:aA.data.toList=pPut6 (itn [aT]):=by decide +kernel
 have h2:aC.data.toList=put 1++rAllN 0 [aN] []:=by decide +kernel
 exact ⟨aX_small g,by simp [aX],aX_fn g,aX_ty g,aX_can g,by simp [aX],h1,h2⟩
theorem aX_sum (g:Nat):sum6 (itn (allT (aX g)))=1:=by
 show sum6 (itn [aT])=1
 decide +kernel
structure Aw (w W:World):Prop where
 i:AtN 2 W w.heap.size #[.int .i64 1]
 t:AtN 9 W (w.heap.size+1) #[.string aT]
 n:AtN 62 W (w.heap.size+1+1) #[.int .i64 4,.slice (some ⟨w.heap.size,0,none⟩) 1 1,.slice (some ⟨w.heap.size+1,0,none⟩) 1 1,.slice none 0 0]
 s:AtN 24 W (w.heap.size+1+1+1) #[.slice (some ⟨w.heap.size+1+1,0,none⟩) 1 1,.int .i64 0]
 bel:Below w.heap.size w W
section
variable {w W W':World}
theorem Aw.more (h:Aw w W) (hb:Below W.heap.size W W'):Aw w W':=⟨h.i.belowAll hb,h.t.belowAll hb,h.n.belowAll hb,h.s.belowAll hb,h.bel.trans (hb.mono h.bel.size)⟩
theorem Aw.sc (h:Aw w W):ScAt W (some ⟨w.heap.size+1+1,0,none⟩) (aX w.heap.size):=⟨at_ls (cs:=nxV (aX w.heap.size)) h.n,fun j hj=>by
 match j,hj with
 | 0,_=>exact ⟨at_ls (cs:=iV [1]) h.i,at_ls (cs:=tV [aT]) h.t,LsAt.nil _ _⟩⟩
end
end Go.Proofs.YtcgjgjjegnofeaaGreatDoor
namespace Go.Proofs.YtcgjgjjegnofeaaGreatDoor
open Go.RowKit
def wL:Lm:=⟨16777216,16777216,16777216,16777216,16777216⟩
def aF:ByteArray:=⟨(pPut mD 2 (secs2 aA aC)).1.toArray⟩
theorem aX_cX (g:Nat):cX (aX g) 0=(aX g).map Nx.nd:=((isCan_iff (aX g) 0).1 (aX_can g)).2.2.symm
theorem aX_cA (g:Nat):cA (aX g) 0=aA:=by
 refine ba_eq ?_
 unfold cA
 rw [List.toList_toArray,aX_cX,rTab_all]
 exact (aX_bk g).a.symm
theorem aX_cC (g:Nat):cC (aX g) 0=aC:=by
 refine ba_eq ?_
 unfold cC
 rw [List.toList_toArray,aX_cX,List.length_map]
 exact (aX_bk g).c.symm
theorem aX_cF (g:Nat):cF (aX g) 0=aF:=by
 unfold cF aF
 rw [aX_cA,aX_cC]
theorem aF_list:aF.data.toList=[68,73,79,82,2,1,3,1,1,97]++(four (crc aA.data.toList)++([2,5,1,4,2,0,0]++four (crc aC.data.toList))):=by
 have h:(pPut mD 2 (secs2 aA aC)).1=mD.data.toList++UInt8.ofNat 2 :: bodyL (secs2 aA aC):=by
  rw [pPut_of mD 2 (secs2 aA aC) rfl (by decide) (by decide) (by simp [secs2]) (fun s hs=>by
   simp only [secs2,List.mem_cons,List.not_mem_nil,or_false] at hs
   rcases hs with rfl|rfl
   ·exact ⟨by decide,by decide,by decide⟩
   ·exact ⟨by decide,by decide,by decide⟩)]
  rfl
 unfold aF
 rw [List.toList_toArray,h]
 have e1:put aA.size=[3]:=by decide +kernel
 have e2:put aC.size=[5]:=by decide +kernel
 simp only [secs2,bodyL,secL,e1,e2,List.append_nil]
 rfl
theorem aF_size:aF.size=25:=by
 rw [← list_size,aF_list]
 simp [four_length]
theorem aX_whole (g:Nat):Whole (aX g) 0:=⟨aX_ty g,aX_right g⟩
theorem aX_in (g:Nat) {d:Nat} (hd:DepthIs (aX g) 0 d):inL (meL (aX g) d) wL=true:=by
 have hd1:(d:Int)≤1:=by
  obtain ⟨h,_,h2,h3⟩:=hd.2 (aX_right g)
  have:=(h3 0 (by simp [aX])).2
  rw [h2]
  show ((h 0:Nat):Int)≤1
  have h4:(aX g).length=1:=rfl
  omega
 refine decide_eq_true ⟨by show (0:Int)≤16777216;decide,by show ((1:Nat):Int)≤16777216;decide,?_,by show (d:Int)≤16777216;omega,?_⟩
 ·show ((edg (aX g):Nat):Int)≤16777216
  exact (by decide:((edg (aX 0):Nat):Int)≤16777216)
 ·show ((txb (aX g):Nat):Int)≤16777216
  have:txb (aX g)=1:=aX_sum g
  omega
theorem aF_save (g:Nat):SvIs (aX g) 0 wL aF 0:=by
 obtain ⟨d,hd⟩:=depth_there (aX g) 0
 refine ⟨d,0,0,hd,va_good (by decide) (aX_whole g) (aX_in g hd),.inr ⟨rfl,.inr ⟨?_,rfl,(aX_cF g).symm⟩⟩⟩
 rw [aX_cF,aF_size]
 decide
theorem aF_load (g:Nat):LdIs aF wL ((aX g).map Nx.nd) 0 0:=by
 obtain ⟨d,hd⟩:=depth_there (aX g) 0
 have h:=(back_file (Y:=aX g) (aX_small g) (by simp [aX]) (aX_fn g) (aX_whole g) (aX_cX g).symm hd (by decide) (aX_in g hd) (by rw [aX_cF,aF_size];decide)).1
 rw [aX_cF] at h
 exact h
theorem aF_no:LdIs ⟨#[68,73,79,82,3]⟩ wL (([]:List Nx).map Nx.nd) 0 7:=by
 have hG:pGet mD.data.toList (⟨#[68,73,79,82,3]⟩:ByteArray).data.toList=(0,3,[]):=by decide +kernel
 have h:=ldK_4 ⟨#[68,73,79,82,3]⟩ wL (by decide) (by decide) (by rw [hG]) (by rw [hG];decide)
 exact .inl ⟨by rw [h];decide,h.symm,rfl,rfl⟩
end Go.Proofs.YtcgjgjjegnofeaaGreatDoor
namespace Go.Proofs.YtcgjgjjegnofeaaGreatDoor
open Go.RowKit Go.Maps Go.WideMaps Go.Sort
theorem secs_at {W:World} {g:Nat} {A C:ByteArray} (h:AtN 52 W g #[.int .i64 1,.string A,.int .i64 2,.string C]):SecAt W g 0 (secs2 A C):=fun i hi=>by
 match i,hi with
 | 0,_=>exact ⟨h.lt,h.cell 0,h.cell 1⟩
 | 1,_=>exact ⟨h.lt,h.cell 2,h.cell 3⟩
def SvOut (X:List Nx) (r:Int) (l:Lm) (w w':World) (e:Ending):Prop:=∃(B:ByteArray) (k:Int),e=.returned (.tuple #[.string B,.int .i64 k])∧SvIs X r l B k∧Below w.heap.size w w'
theorem va_whole {X:List Nx} {r:Int} {l:Lm} {d:Nat} {z:Int} (h:VaIs X r l d 0 z):okL l=true∧Whole X r∧inL (meL X d) l=true:=by
 rcases h with ⟨_,q,_⟩|⟨_,h2,q,_⟩|⟨h1,h2,n,y,hc,⟨p,q,_⟩|⟨p,⟨_,q,_⟩|⟨p1,_⟩⟩⟩
 ·cases q
 ·exact absurd q.symm h2
 ·exact absurd q.symm p
 ·cases q
 ·exact ⟨h1,⟨h2,hc.right.1 p⟩,p1⟩
end Go.Proofs.YtcgjgjjegnofeaaGreatDoor
