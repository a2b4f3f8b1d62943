import Derived.Test.YtgoffkfpdigeeaaGreatDoorP21
import Derived.Test.YtgoffkfpdigeeaaGreatDoorP18
namespace Go.Proofs.YtgoffkfpdigeeaaGreatDoor
open Go.RowKit
def tcFo (N:Nx) (b o n c i bx:Nat) (sb:Option Addr) (ci:List Int) (cap:Nat) (ct cl cm q:Int):Nat→Value→World→Prop
 | 0,v,_=>v=.pointer (some ⟨bx,0,none⟩)
 | 1,v,_=>v=.slice (some ⟨b,o,none⟩) n c
 | 2,v,_=>v=.int .i64 (i:Nat)
 | 3,v,_=>v=.pointer (some ⟨b,o+i*4,none⟩)
 | 4,v,_=>v=.agg #[.int .i64 N.nd.kind,.slice N.a1 N.nd.ints.length N.c1,.slice N.a2 N.nd.texts.length N.c2,.slice N.a3 N.nd.kids.length N.c3]
 | 5,v,_=>v=.agg #[.slice sb ci.length cap,.int .i64 ct,.int .i64 cl,.int .i64 cm]
 | 6,v,_=>v=.int .i64 q
 | 7,v,_=>v=.int .i64 q
 | _,_,_=>True
theorem tcFo_stab (N:Nx) (b o n c i bx:Nat) (sb:Option Addr) (ci:List Int) (cap:Nat) (ct cl cm q:Int):∀ix jx v w w',ix≠jx→World.grownBy w w' (if ix=99 then none else none)→tcFo N b o n c i bx sb ci cap ct cl cm q jx v w→tcFo N b o n c i bx sb ci cap ct cl cm q jx v w':=by
 intro ix jx v w w' hne hg h
 match jx,h with
 | 0,h|1,h|2,h|3,h|4,h|5,h|6,h|7,h=>exact h
 | n+8,_=>trivial
set_option maxRecDepth 10000 in
set_option maxHeartbeats 1000000 in
theorem rtyped1_any (X:List Nx) (a:Option Addr) (c:Nat) (r:Int) (w:World) (h:ScAt w a X) (hX:Small X) (hF:FnX X) :
  Calls Tryz.prog 42 #[.agg #[.slice a X.length c,.int .i64 r],.int .i64 1] w fun e w'=>e=.returned (.tuple #[.int .i64 (tyEo X),.int .i64 (tyZo X)])∧Below w.heap.size w w':=by
 have HS:Hid (ScAt w a X):=h
 have hn:=hX.1
 have HC:Hid (∀(i:Nat),i<X.length→∀(W:World) (S:Sp) (sb:Option Addr) (d:Nat),Below w.heap.size w W→LsAt W sb (iV S.ints)→Calls Tryz.prog 90 #[.agg #[.int .i64 (X.getD i noNx).nd.kind,.slice (X.getD i noNx).a1 (X.getD i noNx).nd.ints.length (X.getD i noNx).c1,.slice (X.getD i noNx).a2 (X.getD i noNx).nd.texts.length (X.getD i noNx).c2,.slice (X.getD i noNx).a3 (X.getD i noNx).nd.kids.length (X.getD i noNx).c3],.agg #[.slice sb S.ints.length d,.int .i64 S.texts,.int .i64 S.least,.int .i64 S.most]] W fun e w'=>e=.returned (.int .i64 (chkN (X.getD i noNx).nd S.ints S.texts S.least S.most))∧Below W.heap.size W w'):=
  fun i hi W S sb d hW hb=>by
   have hgr:=big_no (hX.2 i hi)
   have hN:=(h.belowB hW).each i hi
   exact frcheck_any _ S.ints S.texts S.least S.most _ _ _ sb _ _ _ d W hN hb (hF i hi) hgr.1 hgr.2.1 hgr.2.2.2
 have HB0:Hid (Below w.heap.size w (w.alloc (.cells #[.slice a X.length c,.int .i64 r] 24))):=(Below.refl w.heap.size w).alloc (Nat.le_refl _) _
 have HA0:Hid (AtN 24 (w.alloc (.cells #[.slice a X.length c,.int .i64 r] 24)) w.heap.size #[.slice a X.length c,.int .i64 r]):=AtN.new w 24 _
 have HE:Hid (tyEo X=(tyGo X 0).1∧tyZo X=(tyGo X 0).2):=⟨rfl,rfl⟩
 have HI0:Hid (tyGo X 0=tyGo (X.drop 0) 0):=rfl
 have HST:Hid (∀i,i<X.length→tyGo (X.drop i) i=if tyNo (X.getD i noNx).nd=0 then tyGo (X.drop (i+1)) (i+1) else (tyNo (X.getD i noNx).nd,(i:Int))):=fun i hi=>tyGo_at X i hi
 have HTN:Hid (∀N:Nd,tyNo N=if (oldSp N.kind).ok=false then 9 else chkN N (oldSp N.kind).ints (oldSp N.kind).texts (oldSp N.kind).least (oldSp N.kind).most):=fun _=>rfl
 have HEN:Hid (tyGo (X.drop X.length) X.length=(0,0)):=by show _=_;rw [List.drop_length];rfl
 generalize tyGo X 0=R at *
 generalize tyEo X=E at *
 generalize tyZo X=Z at *
 obtain ⟨R1,R2⟩:=R
 obtain ⟨rfl,rfl⟩:=HE.out
 clear h hX hF HE
 go_enter Tryz.func42,Tryz.ntmps42
 go_wp2_with fail
 go_loopw [6] (fun iv wr=>∃i:Nat,iv=.int .i64 i∧i≤X.length∧Hid ((E,Z)=tyGo (X.drop i) i)∧Hid (AtN 24 wr w.heap.size #[.slice a X.length c,.int .i64 r])∧Hid (Below w.heap.size w wr)) (fun iv _=>X.length-(intOf iv).toNat)
 case atStart=>exact ⟨0,rfl,by omega,HI0,HA0,HB0⟩
 case round=>
  clear HI0 HB0 HA0
  obtain ⟨i,rfl,hi,HI,HA,HB⟩:=hrel
  have x0:wr.cell? ⟨w.heap.size,0,none⟩=some (.slice a X.length c):=HA.out.cell 0
  by_cases hlt:i<X.length
  ·have hlt':(i:Int)<X.length:=by omega
   have HE:Hid (∀W,Below w.heap.size w W→∃b o,a=some ⟨b,o,none⟩∧b<w.heap.size∧W.cell? ⟨b,o+i*4,none⟩=some (.int .i64 (X.getD i noNx).nd.kind)∧W.cell? ⟨b,o+i*4+1,none⟩=some (.slice (X.getD i noNx).a1 (X.getD i noNx).nd.ints.length (X.getD i noNx).c1)∧W.cell? ⟨b,o+i*4+2,none⟩=some (.slice (X.getD i noNx).a2 (X.getD i noNx).nd.texts.length (X.getD i noNx).c2)∧W.cell? ⟨b,o+i*4+3,none⟩=some (.slice (X.getD i noNx).a3 (X.getD i noNx).nd.kids.length (X.getD i noNx).c3)):=fun W hW=>by
    obtain ⟨b,o,e,hb,_⟩:=HS.out.node hlt
    have hs:=HS.out.belowB hW
    obtain ⟨b',o',e',_,d⟩:=hs.node hlt
    rw [e] at e'
    cases e'
    exact ⟨b,o,e,hb,d⟩
   have HC1:Hid _:=HC.out i hlt
   have HS1:Hid _:=HST.out i hlt
   have HT1:Hid _:=HTN.out (X.getD i noNx).nd
   generalize X.getD i noNx=N at *
   obtain ⟨b,o,rfl,hbl,d0,d1,d2,d3⟩:=HE.out wr HB.out
   have HSp:Hid (Calls Tryz.prog 80 #[.int .i64 1,.int .i64 N.nd.kind] wr fun e w'=>SpIs wr w' e (oldSp N.nd.kind)):=rspec1_any N.nd.kind wr
   generalize oldSp N.nd.kind=S at *
   obtain ⟨ok,ci,ct,cl,cm⟩:=S
   clear HC HST HTN HS
   generalize tyNo N.nd=t at *
   go_wp2_with fail
   refine Calls.mono HSp.out ?_
   rintro e w1 ⟨v,rfl,hI,hb1⟩
   obtain ⟨sb,cap,rfl⟩:=own_shape7 hI
   have HL:Hid (LsAt w1 sb (iV ci)):=LsAt.of_own hI
   have HB1:Hid (Below w.heap.size w (w1.alloc (.cells #[.slice sb ci.length cap,.int .i64 ct,.int .i64 cl,.int .i64 cm] 117))):=(HB.out.trans (hb1.mono HB.out.size)).alloc (by have:=HB.out.size;have:=hb1.size;omega) _
   have HA1:Hid (AtN 24 (w1.alloc (.cells #[.slice sb ci.length cap,.int .i64 ct,.int .i64 cl,.int .i64 cm] 117)) w.heap.size #[.slice (some ⟨b,o,none⟩) X.length c,.int .i64 r]):=(AtN.belowAll HA.out hb1).alloc _
   have HG1:Hid (AtN 117 (w1.alloc (.cells #[.slice sb ci.length cap,.int .i64 ct,.int .i64 cl,.int .i64 cm] 117)) w1.heap.size #[.slice sb ci.length cap,.int .i64 ct,.int .i64 cl,.int .i64 cm]):=AtN.new w1 117 _
   have HL1:Hid (LsAt (w1.alloc (.cells #[.slice sb ci.length cap,.int .i64 ct,.int .i64 cl,.int .i64 cm] 117)) sb (iV ci)):=HL.out.alloc _
   have hs1:=hb1.size
   clear HSp hI hb1 HL HA d0 d1 d2 d3 x0
   dsimp only at *
   cases ok with
   | false=>
    have ht:t=9:=HT1.out
    have HI1:(E,Z)=(t,(i:Int)):=by
     have h1:=Hid.out HS1
     rw [if_neg (by omega)] at h1
     exact HI.out.trans h1
    obtain ⟨rfl,rfl⟩:=Prod.mk.inj HI1
    subst ht
    clear HI HS1 HI1 HT1 HC1 HE HL1 HG1 HA1 HB
    go_wp2_with fail
    go_ret2
    exact ⟨rfl,HB1.out⟩
   | true=>
    have ht:t=chkN N.nd ci ct cl cm:=HT1.out
    obtain ⟨q,hq⟩:∃q,chkN N.nd ci ct cl cm=q:=⟨_,rfl⟩
    have HCC0:Hid (∀W,Below w.heap.size w W→LsAt W sb (iV ci)→Calls Tryz.prog 90 #[.agg #[.int .i64 N.nd.kind,.slice N.a1 N.nd.ints.length N.c1,.slice N.a2 N.nd.texts.length N.c2,.slice N.a3 N.nd.kids.length N.c3],.agg #[.slice sb ci.length cap,.int .i64 ct,.int .i64 cl,.int .i64 cm]] W fun e w'=>e=.returned (.int .i64 q)∧Below W.heap.size W w'):=fun W hW hb=>by
     have:=Hid.out HC1 W ⟨true,ci,ct,cl,cm⟩ sb cap hW hb
     rw [← hq]
     exact this
    have htq:t=q:=ht.trans hq
    subst htq
    clear HC1 hq ht HT1
    go_wp2_with fail
    refine facts_region none 99 (tcFo N b o X.length c i w.heap.size sb ci cap ct cl cm t) (by kernel_rfl) (by kernel_rfl) (tcFo_stab N b o X.length c i w.heap.size sb ci cap ct cl cm t) ?step ?fin
    case step=>
     intro i' o' ho act W hg hstill hoff hdep K hK
     have hb:=below_of_grown hg
     have HBW:Hid (Below w.heap.size w W):=HB1.out.trans (hb.mono HB1.out.size)
     have A0:=AtN.belowAll HA1.out hb
     have x0:W.cell? ⟨w.heap.size,0,none⟩=some (.slice (some ⟨b,o,none⟩) X.length c):=A0.cell 0
     have A1:=AtN.belowAll HG1.out hb
     have y0:W.cell? ⟨w1.heap.size,0,none⟩=some (.slice sb ci.length cap):=A1.cell 0
     have y1:W.cell? ⟨w1.heap.size,1,none⟩=some (.int .i64 ct):=A1.cell 1
     have y2:W.cell? ⟨w1.heap.size,2,none⟩=some (.int .i64 cl):=A1.cell 2
     have y3:W.cell? ⟨w1.heap.size,3,none⟩=some (.int .i64 cm):=A1.cell 3
     obtain ⟨b',o',e',_,d0,d1,d2,d3⟩:=HE.out W HBW.out
     cases e'
     have HCC:Hid _:=HCC0.out W HBW.out (LsAt.belowB HL1.out hb)
     clear hb A0 A1 HCC0 HE HL1 HG1 HA1 HB1 HB HBW HI HS1
     rcases i' with _|_|_|_|_|_|_|_|i'
     ·obtain rfl:=Option.some.inj ho
      have t2:act.tmps[2]?.getD undef=.pointer (some ⟨w.heap.size,0,none⟩):=hoff 2 (by kernel_rfl)
      clear hdep hoff hg hstill HCC
      go_simp
      exact hK _ _ (grown_refl _ _) rfl
     ·obtain rfl:=Option.some.inj ho
      have e0:act.tmps[31]?.getD undef=.pointer (some ⟨w.heap.size,0,none⟩):=hdep 0 _ (by kernel_rfl) rfl
      clear hdep hoff hg hstill HCC
      go_simp
      exact hK _ _ (grown_refl _ _) rfl
     ·obtain rfl:=Option.some.inj ho
      have t6:act.tmps[6]?.getD undef=.int .i64 (i:Nat):=hoff 6 (by kernel_rfl)
      clear hdep hoff hg hstill HCC
      go_simp
      exact hK _ _ (grown_refl _ _) rfl
     ·obtain rfl:=Option.some.inj ho
      have e1:act.tmps[32]?.getD undef=.slice (some ⟨b,o,none⟩) X.length c:=hdep 1 _ (by kernel_rfl) rfl
      have e2:act.tmps[33]?.getD undef=.int .i64 (i:Nat):=hdep 2 _ (by kernel_rfl) rfl
      clear hdep hoff hg hstill HCC
      go_simp
      exact hK _ _ (grown_refl _ _) rfl
     ·obtain rfl:=Option.some.inj ho
      have e3:act.tmps[34]?.getD undef=.pointer (some ⟨b,o+i*4,none⟩):=hdep 3 _ (by kernel_rfl) rfl
      clear hdep hoff hg hstill HCC
      go_simp
      exact hK _ _ (grown_refl _ _) rfl
     ·obtain rfl:=Option.some.inj ho
      have t7:act.tmps[7]?.getD undef=.pointer (some ⟨w1.heap.size,0,none⟩):=hoff 7 (by kernel_rfl)
      clear hdep hoff hg hstill HCC
      go_simp
      exact hK _ _ (grown_refl _ _) rfl
     ·obtain rfl:=Option.some.inj ho
      have e4:act.tmps[35]?.getD undef=.agg #[.int .i64 N.nd.kind,.slice N.a1 N.nd.ints.length N.c1,.slice N.a2 N.nd.texts.length N.c2,.slice N.a3 N.nd.kids.length N.c3]:=hdep 4 _ (by kernel_rfl) rfl
      have e5:act.tmps[36]?.getD undef=.agg #[.slice sb ci.length cap,.int .i64 ct,.int .i64 cl,.int .i64 cm]:=hdep 5 _ (by kernel_rfl) rfl
      clear hdep hoff hg hstill
      go_simp
      refine Calls.mono HCC.out ?_
      rintro e w' ⟨rfl,hb⟩
      exact hK _ _ (grown_of_below hb _) rfl
     ·obtain rfl:=Option.some.inj ho
      have e6:act.tmps[37]?.getD undef=.int .i64 t:=hdep 6 _ (by kernel_rfl) rfl
      clear hdep hoff hg hstill HCC
      go_simp
      exact hK _ _ (grown_refl _ _) rfl
     ·exact absurd ho (by simp)
    case fin=>
     intro V W hg hF
     have hb:=below_of_grown hg
     have HB2:Hid (Below w.heap.size w W):=HB1.out.trans (hb.mono HB1.out.size)
     have HA2:Hid (AtN 24 W w.heap.size #[.slice (some ⟨b,o,none⟩) X.length c,.int .i64 r]):=AtN.belowAll HA1.out hb
     have v9:V (some 9)=.int .i64 t:=hF 7 _ rfl
     clear hF hg hb HCC0 HE HL1 HG1 HA1 HB1 HB
     simp only [fillA,Act.put,List.setIfInBounds_toArray,List.set_cons_zero,List.set_cons_succ,v9]
     generalize V (some 31)=z31
     generalize V (some 32)=z32
     generalize V (some 33)=z33
     generalize V (some 34)=z34
     generalize V (some 35)=z35
     generalize V (some 36)=z36
     generalize V (some 37)=z37
     clear v9
     by_cases ht:t=0
     ·have HI1:Hid ((E,Z)=tyGo (X.drop (i+1)) (i+1)):=by
       have h1:=Hid.out HS1
       rw [if_pos ht] at h1
       exact HI.out.trans h1
      clear HI HS1
      go_wp2_with fail
      go_roundw
      case rel=>exact ⟨i+1,by go_num,by omega,HI1,HA2,HB2⟩
      case measure=>simp [intOf];omega
     ·have HI1:(E,Z)=(t,(i:Int)):=by
       have h1:=Hid.out HS1
       rw [if_neg ht] at h1
       exact HI.out.trans h1
      obtain ⟨rfl,rfl⟩:=Prod.mk.inj HI1
      clear HI HS1 HI1
      go_wp2_with fail
      go_ret2
      exact ⟨rfl,HB2.out⟩
  ·have hlt':¬(i:Int)<X.length:=by omega
   obtain rfl:i=X.length:=by omega
   have HI1:(E,Z)=((0:Int),(0:Int)):=HI.out.trans HEN.out
   obtain ⟨rfl,rfl⟩:=Prod.mk.inj HI1
   clear HI HI1 HEN HC HST HTN HS
   go_wp2_with fail
   go_ret2
   exact ⟨rfl,HB.out⟩
end Go.Proofs.YtgoffkfpdigeeaaGreatDoor
namespace Go.Proofs.YtgoffkfpdigeeaaGreatDoor
open Go.RowKit Go.Maps Go.WideMaps Go.Sort
def rvFo (X:List Nx) (a:Option Addr) (c:Nat) (r:Int) (d:Nat) (b n e f x:Int) (q:Bool):Nat→Value→World→Prop
 | 0,v,_=>v=.agg #[.slice a X.length c,.int .i64 r]
 | 1,v,_=>v=.agg #[.int .i64 0,.int .i64 X.length,.int .i64 (edg X:Nat),.int .i64 (d:Nat),.int .i64 (txb X:Nat)]
 | 2,v,_=>v=.agg #[.int .i64 b,.int .i64 n,.int .i64 e,.int .i64 f,.int .i64 x]
 | 3,v,_=>v=.bool q
 | 4,v,_=>v=.bool (!q)
 | _,_,_=>True
theorem rvFo_stab (X:List Nx) (a:Option Addr) (c:Nat) (r:Int) (d:Nat) (b n e f x:Int) (q:Bool):∀ix jx v w w',ix≠jx→World.grownBy w w' (if ix=99 then none else none)→rvFo X a c r d b n e f x q jx v w→rvFo X a c r d b n e f x q jx v w':=by
 intro ix jx v w w' hne hg h
 match jx,h with
 | 0,h|1,h|2,h|3,h|4,h=>exact h
 | n+5,_=>trivial
set_option maxRecDepth 10000 in
set_option maxHeartbeats 1000000 in
theorem rvalid1_any (X:List Nx) (a:Option Addr) (c:Nat) (r:Int) (l:Lm) (d:Nat) (w:World) (h:ScAt w a X) (hX:Small X) (hF:FnX X) (hd:DepthIs X r d) :
  Calls Tryz.prog 31 #[.agg #[.slice a X.length c,.int .i64 r],.agg #[.int .i64 l.b,.int .i64 l.n,.int .i64 l.e,.int .i64 l.d,.int .i64 l.x]] w fun e w'=>VoOut X r l d w w' e:=by
 have HO:Hid (∀W,Calls Tryz.prog 20 #[.agg #[.int .i64 l.b,.int .i64 l.n,.int .i64 l.e,.int .i64 l.d,.int .i64 l.x]] W fun e w'=>e=.returned (.bool (okL l))∧Below W.heap.size W w'):=fun W=>rokl_any l W
 have HT:Hid (∀W,Below w.heap.size w W→Calls Tryz.prog 42 #[.agg #[.slice a X.length c,.int .i64 r],.int .i64 1] W fun e w'=>e=.returned (.tuple #[.int .i64 (tyEo X),.int .i64 (tyZo X)])∧Below W.heap.size W w'):=fun W hW=>rtyped1_any X a c r W (h.belowB hW) hX hF
 have HC:Hid (∀W,Below w.heap.size w W→Calls Tryz.prog 39 #[.agg #[.slice a X.length c,.int .i64 r]] W fun e w'=>CheckOut X r W w' e):=fun W hW=>rcheck_any X a c r W (h.belowB hW) hX
 have HM:Hid (∀W,Below w.heap.size w W→Calls Tryz.prog 18 #[.agg #[.slice a X.length c,.int .i64 r]] W fun e w'=>e=.returned (.agg #[.int .i64 0,.int .i64 X.length,.int .i64 (edg X:Nat),.int .i64 (d:Nat),.int .i64 (txb X:Nat)])∧Below W.heap.size W w'):=fun W hW=>rmeasure_any X a c r d W (h.belowB hW) hX hd
 have HI:Hid (∀W,Calls Tryz.prog 40 #[.agg #[.int .i64 0,.int .i64 X.length,.int .i64 (edg X:Nat),.int .i64 (d:Nat),.int .i64 (txb X:Nat)],.agg #[.int .i64 l.b,.int .i64 l.n,.int .i64 l.e,.int .i64 l.d,.int .i64 l.x]] W fun e w'=>e=.returned (.bool (inL (meL X d) l))∧Below W.heap.size W w'):=fun W=>rwithin_any (meL X d) l W
 have HV:Hid (∀e z,((okL l=false∧e=1∧z = -1)∨(okL l=true∧tyEo X≠0∧e=tyEo X∧z=tyZo X)∨
  (okL l=true∧tyEo X=0∧∃n y,CheckIs X r n y∧((n≠0∧e=n∧z=y)∨(n=0∧((inL (meL X d) l=false∧e=19∧z = -1)∨(inL (meL X d) l=true∧e=0∧z=0))))))→VoIs X r l d e z):=fun e z q=>q
 have HA0:Hid (∀o1 o2:Obj,o1=.cells #[.slice a X.length c,.int .i64 r] 24→o2=.cells #[.int .i64 l.b,.int .i64 l.n,.int .i64 l.e,.int .i64 l.d,.int .i64 l.x] 26→AtN 24 ((w.alloc o1).alloc o2) w.heap.size #[.slice a X.length c,.int .i64 r]∧AtN 26 ((w.alloc o1).alloc o2) (w.heap.size+1) #[.int .i64 l.b,.int .i64 l.n,.int .i64 l.e,.int .i64 l.d,.int .i64 l.x]∧Below w.heap.size w ((w.alloc o1).alloc o2)):=by
  rintro _ _ rfl rfl
  exact ⟨(AtN.new w 24 _).alloc _,mk_at (AtN.new (w.alloc _) 26 _) (by simp),((Below.refl w.heap.size w).alloc (Nat.le_refl _) _).alloc (by simp) _⟩
 clear h hX hF hd
 unfold VoOut
 generalize VoIs X r l d=VA at *
 generalize okL l=ok at *
 generalize inL (meL X d) l=q at *
 generalize tyEo X=te at *
 generalize tyZo X=tz at *
 obtain ⟨b,n,e,f,x⟩:=l
 dsimp only at *
 go_enter Tryz.func31,Tryz.ntmps31
 go_wp2_with fail
 obtain ⟨h1,h2,h3⟩:=HA0.out _ _ rfl rfl
 refine (HO.out _).mono ?_
 rintro e1 w1 ⟨rfl,hb1⟩
 have HA1:Hid (AtN 24 w1 w.heap.size #[.slice a X.length c,.int .i64 r]):=h1.belowAll hb1
 have HL1:Hid (AtN 26 w1 (w.heap.size+1) #[.int .i64 b,.int .i64 n,.int .i64 e,.int .i64 f,.int .i64 x]):=h2.belowAll hb1
 have HB1:Hid (Below w.heap.size w w1):=h3.trans (hb1.mono h3.size)
 clear HO HA0 h1 h2 h3 hb1
 cases ok with
 | false=>
  have hv:=HV.out 1 (-1) (.inl ⟨by first|rfl|trivial,rfl,rfl⟩)
  clear HV HT HC HM HI HA1 HL1
  go_wp2_with fail
  go_ret2
  exact ⟨_,_,rfl,hv,HB1.out⟩
 | true=>
  have x0:w1.cell? ⟨w.heap.size,0,none⟩=some (.slice a X.length c):=HA1.out.cell 0
  have x1:w1.cell? ⟨w.heap.size,1,none⟩=some (.int .i64 r):=HA1.out.cell 1
  have HT1:Hid _:=HT.out w1 HB1.out
  clear HT
  go_wp2_with fail
  refine Calls.mono (Hid.out HT1) ?_
  rintro e2 w2 ⟨rfl,hb2⟩
  have HA2:Hid (AtN 24 w2 w.heap.size #[.slice a X.length c,.int .i64 r]):=AtN.belowAll HA1.out hb2
  have HL2:Hid (AtN 26 w2 (w.heap.size+1) #[.int .i64 b,.int .i64 n,.int .i64 e,.int .i64 f,.int .i64 x]):=AtN.belowAll HL1.out hb2
  have HB2:Hid (Below w.heap.size w w2):=HB1.out.trans (hb2.mono HB1.out.size)
  clear HT1 HA1 HL1 HB1 hb2 x0 x1
  by_cases hte:te=0
  ·subst hte
   have x0:w2.cell? ⟨w.heap.size,0,none⟩=some (.slice a X.length c):=HA2.out.cell 0
   have x1:w2.cell? ⟨w.heap.size,1,none⟩=some (.int .i64 r):=HA2.out.cell 1
   have HC1:Hid (Calls Tryz.prog 39 #[.agg #[.slice a X.length c,.int .i64 r]] w2 fun e w'=>CheckOut X r w2 w' e):=HC.out w2 HB2.out
   clear HC
   go_wp2_with fail
   refine Calls.mono HC1.out ?_
   rintro e3 w3 ⟨k,y,rfl,hc,hb3⟩
   have HA3:Hid (AtN 24 w3 w.heap.size #[.slice a X.length c,.int .i64 r]):=AtN.belowAll HA2.out hb3
   have HL3:Hid (AtN 26 w3 (w.heap.size+1) #[.int .i64 b,.int .i64 n,.int .i64 e,.int .i64 f,.int .i64 x]):=AtN.belowAll HL2.out hb3
   have HB3:Hid (Below w.heap.size w w3):=HB2.out.trans (hb3.mono HB2.out.size)
   have HCI:Hid (CheckIs X r k y):=hc
   clear HC1 HA2 HL2 HB2 hb3 hc x0 x1
   by_cases hk:k=0
   ·subst hk
    have HV1:Hid (∀e z,((q=false∧e=19∧z = -1)∨(q=true∧e=0∧z=0))→VA e z):=fun e z p=>HV.out e z (.inr (.inr ⟨by first|rfl|trivial,by first|rfl|trivial,0,y,HCI.out,.inr ⟨rfl,p⟩⟩))
    clear HV HCI
    go_wp2_with fail
    refine facts_region none 99 (rvFo X a c r d b n e f x q) (by kernel_rfl) (by kernel_rfl) (rvFo_stab X a c r d b n e f x q) ?step ?fin
    case step=>
     intro i' o' ho act W hg hstill hoff hdep K hK
     have hb:=below_of_grown hg
     have HBW:Hid (Below w.heap.size w W):=HB3.out.trans (hb.mono HB3.out.size)
     have A0:=AtN.belowAll HA3.out hb
     have x0:W.cell? ⟨w.heap.size,0,none⟩=some (.slice a X.length c):=A0.cell 0
     have x1:W.cell? ⟨w.heap.size,1,none⟩=some (.int .i64 r):=A0.cell 1
     have A1:=AtN.belowAll HL3.out hb
     have y0:W.cell? ⟨w.heap.size+1,0,none⟩=some (.int .i64 b):=A1.cell 0
     have y1:W.cell? ⟨w.heap.size+1,1,none⟩=some (.int .i64 n):=A1.cell 1
     have y2:W.cell? ⟨w.heap.size+1,2,none⟩=some (.int .i64 e):=A1.cell 2
     have y3:W.cell? ⟨w.heap.size+1,3,none⟩=some (.int .i64 f):=A1.cell 3
     have y4:W.cell? ⟨w.heap.size+1,4,none⟩=some (.int .i64 x):=A1.cell 4
     have HMW:Hid _:=HM.out W HBW.out
     have HIW:Hid _:=HI.out W
     clear hb A0 A1 HM HI HA3 HL3 HB3 HBW HV1
     rcases i' with _|_|_|_|_|i'
     ·obtain rfl:=Option.some.inj ho
      have t2:act.tmps[2]?.getD undef=.pointer (some ⟨w.heap.size,0,none⟩):=hoff 2 (by kernel_rfl)
      clear hdep hoff hg hstill HMW HIW
      go_simp
      exact hK _ _ (grown_refl _ _) rfl
     ·obtain rfl:=Option.some.inj ho
      have e0:act.tmps[31]?.getD undef=.agg #[.slice a X.length c,.int .i64 r]:=hdep 0 _ (by kernel_rfl) rfl
      clear hdep hoff hg hstill HIW
      go_simp
      refine Calls.mono HMW.out ?_
      rintro e w' ⟨rfl,hb⟩
      exact hK _ _ (grown_of_below hb _) rfl
     ·obtain rfl:=Option.some.inj ho
      have t3:act.tmps[3]?.getD undef=.pointer (some ⟨w.heap.size+1,0,none⟩):=hoff 3 (by kernel_rfl)
      clear hdep hoff hg hstill HMW HIW
      go_simp
      exact hK _ _ (grown_refl _ _) rfl
     ·obtain rfl:=Option.some.inj ho
      have e1:act.tmps[32]?.getD undef=.agg #[.int .i64 0,.int .i64 X.length,.int .i64 (edg X:Nat),.int .i64 (d:Nat),.int .i64 (txb X:Nat)]:=hdep 1 _ (by kernel_rfl) rfl
      have e2:act.tmps[33]?.getD undef=.agg #[.int .i64 b,.int .i64 n,.int .i64 e,.int .i64 f,.int .i64 x]:=hdep 2 _ (by kernel_rfl) rfl
      clear hdep hoff hg hstill HMW
      go_simp
      refine Calls.mono HIW.out ?_
      rintro e w' ⟨rfl,hb⟩
      exact hK _ _ (grown_of_below hb _) rfl
     ·obtain rfl:=Option.some.inj ho
      have e3:act.tmps[34]?.getD undef=.bool q:=hdep 3 _ (by kernel_rfl) rfl
      clear hdep hoff hg hstill HMW HIW
      go_simp
      exact hK _ _ (grown_refl _ _) rfl
     ·exact absurd ho (by simp)
    case fin=>
     intro V W hg hF
     have hb:=below_of_grown hg
     have HB4:Hid (Below w.heap.size w W):=HB3.out.trans (hb.mono HB3.out.size)
     have v35:V (some 35)=.bool (!q):=hF 4 _ rfl
     clear hF hg hb HM HI HA3 HL3 HB3
     simp only [fillA,Act.put,List.setIfInBounds_toArray,List.set_cons_zero,List.set_cons_succ,v35]
     generalize V (some 31)=z31
     generalize V (some 32)=z32
     generalize V (some 33)=z33
     generalize V (some 34)=z34
     clear v35
     cases q with
     | false=>
      have hv:=HV1.out 19 (-1) (.inl ⟨rfl,rfl,rfl⟩)
      clear HV1
      go_wp2_with fail
      go_ret2
      exact ⟨_,_,rfl,hv,HB4.out⟩
     | true=>
      have hv:=HV1.out 0 0 (.inr ⟨rfl,rfl,rfl⟩)
      clear HV1
      go_wp2_with fail
      go_ret2
      exact ⟨_,_,rfl,hv,HB4.out⟩
   ·have hv:=HV.out k y (.inr (.inr ⟨by first|rfl|trivial,by first|rfl|trivial,k,y,HCI.out,.inl ⟨hk,rfl,rfl⟩⟩))
    clear HV HCI HM HI HA3 HL3
    go_wp2_with fail
    go_ret2
    exact ⟨_,_,rfl,hv,HB3.out⟩
  ·have hv:=HV.out te tz (.inr (.inl ⟨by first|rfl|trivial,hte,rfl,rfl⟩))
   clear HV HC HM HI HA2 HL2
   go_wp2_with fail
   go_ret2
   exact ⟨_,_,rfl,hv,HB2.out⟩
end Go.Proofs.YtgoffkfpdigeeaaGreatDoor
