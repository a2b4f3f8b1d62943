import Derived.Test.YtcgjgjjegnofeaaGreatDoorPA06
import Derived.Test.YtcgjgjjegnofeaaGreatDoorPA11
import Derived.Test.YtcgjgjjegnofeaaGreatDoorPA14
import Derived.Test.YtcgjgjjegnofeaaGreatDoorPA21
import Derived.Test.YtcgjgjjegnofeaaGreatDoorPA09
import Derived.Test.YtcgjgjjegnofeaaGreatDoorPA17
import Derived.Test.YtcgjgjjegnofeaaGreatDoorPA10
import Derived.Test.YtcgjgjjegnofeaaGreatDoorPA15
namespace Go.Proofs.YtcgjgjjegnofeaaGreatDoor
open Go.RowKit
def tyG:List Nx→Nat→Int × Int
 | [],_=>(0,0)
 | x :: t,k=>if tyN x.nd=0 then tyG t (k+1) else (tyN x.nd,(k:Int))
def tyE (X:List Nx):Int:=(tyG X 0).1
def tyZ (X:List Nx):Int:=(tyG X 0).2
theorem tyG_at (X:List Nx) (i:Nat) (h:i<X.length):tyG (X.drop i) i=if tyN (X.getD i noNx).nd=0 then tyG (X.drop (i+1)) (i+1) else (tyN (X.getD i noNx).nd,(i:Int)):=by
 rw [show X.drop i=X[i] :: X.drop (i+1) from List.drop_eq_getElem_cons h,show X.getD i noNx=X[i] by simp [h]]
 rfl
def FnX (X:List Nx):Prop:=∀i,i<X.length→fine (X.getD i noNx).nd.ints
set_option maxRecDepth 10000 in
set_option maxHeartbeats 400000 in
theorem typednode_any (N:Nd) (a1 a2 a3:Option Addr) (c1 c2 c3:Nat) (w:World) (h:NdAt w N a1 a2 a3) (hT:Tabs12 w) (hf:fine N.ints) (hg:big N=false) :
  Calls Tryz.prog 93 #[.agg #[.int .i64 N.kind,.slice a1 N.ints.length c1,.slice a2 N.texts.length c2,.slice a3 N.kids.length c3]] w fun e w'=>e=.returned (.int .i64 (tyN N))∧Below w.heap.size w w':=by
 have hgr:=big_no hg
 have n0:=AtN.new w 62 #[.int .i64 N.kind,.slice a1 N.ints.length c1,.slice a2 N.texts.length c2,.slice a3 N.kids.length c3]
 have b0:Below w.heap.size w (w.alloc (.cells #[.int .i64 N.kind,.slice a1 N.ints.length c1,.slice a2 N.texts.length c2,.slice a3 N.kids.length c3] 62)):=(Below.refl w.heap.size w).alloc (Nat.le_refl _) _
 have HN:Hid (Calls Tryz.prog 135 #[.int .i64 N.kind] (w.alloc (.cells #[.int .i64 N.kind,.slice a1 N.ints.length c1,.slice a2 N.texts.length c2,.slice a3 N.kids.length c3] 62)) fun e w'=>SpIs (w.alloc (.cells #[.int .i64 N.kind,.slice a1 N.ints.length c1,.slice a2 N.texts.length c2,.slice a3 N.kids.length c3] 62)) w' e (newSp N.kind)):=new_any N.kind _ (hT.on b0).k
 have HC:Hid (∀(W:World) (S:Sp) (b:Option Addr) (d:Nat),Below w.heap.size w W→LsAt W b (iV S.ints)→Calls Tryz.prog 136 #[.agg #[.int .i64 N.kind,.slice a1 N.ints.length c1,.slice a2 N.texts.length c2,.slice a3 N.kids.length c3],.agg #[.slice b S.ints.length d,.int .i64 S.texts,.int .i64 S.least,.int .i64 S.most]] W fun e w'=>e=.returned (.int .i64 (chkN N S.ints S.texts S.least S.most))∧Below W.heap.size W w'):=
  fun W S b d hW hb=>fcheck_any N S.ints S.texts S.least S.most a1 a2 a3 b c1 c2 c3 d W (h.belowB hW) hb (hT.on hW).s hf hgr.1 hgr.2.1 hgr.2.2.2
 have HA:Hid (AtN 62 (w.alloc (.cells #[.int .i64 N.kind,.slice a1 N.ints.length c1,.slice a2 N.texts.length c2,.slice a3 N.kids.length c3] 62)) w.heap.size #[.int .i64 N.kind,.slice a1 N.ints.length c1,.slice a2 N.texts.length c2,.slice a3 N.kids.length c3]):=n0
 have HB:Hid (Below w.heap.size w (w.alloc (.cells #[.int .i64 N.kind,.slice a1 N.ints.length c1,.slice a2 N.texts.length c2,.slice a3 N.kids.length c3] 62))):=b0
 have HV:Hid (tyN N=if (newSp N.kind).ok=false then 9 else chkN N (newSp N.kind).ints (newSp N.kind).texts (newSp N.kind).least (newSp N.kind).most):=rfl
 clear h hT hf hg hgr n0 b0
 generalize tyN N=V at *
 generalize newSp N.kind=S at *
 obtain ⟨ok,ci,ct,cl,cm⟩:=S
 go_enter Tryz.func93,Tryz.ntmps93
 go_wp2_with fail
 refine Calls.mono HN.out ?_
 rintro e w1 ⟨v,rfl,hI,hb1⟩
 obtain ⟨b,cap,rfl⟩:=own_shape7 hI
 have HL:Hid (LsAt w1 b (iV ci)):=LsAt.of_own hI
 have n1:=HA.out.belowAll hb1
 have y0:w1.cell? ⟨w.heap.size,0,none⟩=some (.int .i64 N.kind):=n1.cell 0
 have y1:w1.cell? ⟨w.heap.size,1,none⟩=some (.slice a1 N.ints.length c1):=n1.cell 1
 have y2:w1.cell? ⟨w.heap.size,2,none⟩=some (.slice a2 N.texts.length c2):=n1.cell 2
 have y3:w1.cell? ⟨w.heap.size,3,none⟩=some (.slice a3 N.kids.length c3):=n1.cell 3
 have hl1:=n1.lt
 have HB1:Hid (Below w.heap.size w w1):=HB.out.trans (hb1.mono HB.out.size)
 clear HN hI hb1 HA HB n1
 dsimp only at *
 cases ok with
 | false=>
  have hv:V=9:=HV.out
  subst hv
  clear HC HV HL
  go_wp2_with fail
  go_ret
  exact ⟨rfl,HB1.out.alloc HB1.out.size _⟩
 | true=>
  have hv:V=chkN N ci ct cl cm:=HV.out
  subst hv
  have HK:=HC.out (w1.alloc (.cells #[.slice b ci.length cap,.int .i64 ct,.int .i64 cl,.int .i64 cm] 147)) ⟨true,ci,ct,cl,cm⟩ b cap (HB1.out.alloc HB1.out.size _) (HL.out.alloc _)
  have HK1:Hid _:=HK
  clear HC HV HL HK
  go_wp2_with fail
  refine Calls.mono (Hid.out HK1) ?_
  rintro e w2 ⟨rfl,hb2⟩
  have HB2:Hid (Below w.heap.size w w2):=(HB1.out.alloc HB1.out.size _).trans (hb2.mono (by have:=HB1.out.size;simp;omega))
  clear HK1 hb2
  go_wp2_with fail
  go_ret
  exact ⟨rfl,HB2.out⟩
set_option maxRecDepth 10000 in
set_option maxHeartbeats 400000 in
theorem typed_any (X:List Nx) (a:Option Addr) (c:Nat) (r:Int) (w:World) (h:ScAt w a X) (hX:Small X) (hF:FnX X) (hT:Tabs12 w) :
  Calls Tryz.prog 45 #[.agg #[.slice a X.length c,.int .i64 r]] w fun e w'=>e=.returned (.tuple #[.int .i64 (tyE X),.int .i64 (tyZ X)])∧Below w.heap.size w w':=by
 have HS:Hid (ScAt w a X):=h
 have hn:=hX.1
 have HC:Hid (∀(i:Nat),i<X.length→∀W,Below w.heap.size w W→Calls Tryz.prog 93 #[.agg #[.int .i64 (X.getD i noNx).nd.kind,.slice (X.getD i noNx).a1 (X.getD i noNx).nd.ints.length (X.getD i noNx).c1,.slice (X.getD i noNx).a2 (X.getD i noNx).nd.texts.length (X.getD i noNx).c2,.slice (X.getD i noNx).a3 (X.getD i noNx).nd.kids.length (X.getD i noNx).c3]] W fun e w'=>e=.returned (.int .i64 (tyN (X.getD i noNx).nd))∧Below W.heap.size W w'):=
  fun i hi W hW=>typednode_any _ _ _ _ _ _ _ W ((h.belowB hW).each i hi) (hT.on hW) (hF i hi) (hX.2 i hi)
 have HB0:Hid (Below w.heap.size w (w.alloc (.cells #[.slice a X.length c,.int .i64 r] 24))):=(Below.refl w.heap.size w).alloc (Nat.le_refl _) _
 have HE:Hid (tyE X=(tyG X 0).1∧tyZ X=(tyG X 0).2):=⟨rfl,rfl⟩
 have HI0:Hid (tyG X 0=tyG (X.drop 0) 0):=rfl
 have HST:Hid (∀i,i<X.length→tyG (X.drop i) i=if tyN (X.getD i noNx).nd=0 then tyG (X.drop (i+1)) (i+1) else (tyN (X.getD i noNx).nd,(i:Int))):=fun i hi=>tyG_at X i hi
 have HEN:Hid (tyG (X.drop X.length) X.length=(0,0)):=by show _=_;rw [List.drop_length];rfl
 generalize tyG X 0=R at *
 generalize tyE X=E at *
 generalize tyZ X=Z at *
 obtain ⟨R1,R2⟩:=R
 obtain ⟨rfl,rfl⟩:=HE.out
 clear h hX hF hT HE
 go_enter Tryz.func45,Tryz.ntmps45
 go_wp2_with fail
 go_loopw [10] (fun iv wr=>∃i:Nat,iv=.int .i64 i∧i≤X.length∧Hid ((E,Z)=tyG (X.drop i) i)∧Hid (Below w.heap.size w wr)) (fun iv _=>X.length-(intOf iv).toNat)
 case atStart=>exact ⟨0,rfl,by omega,HI0,HB0⟩
 case round=>
  clear HI0 HB0
  obtain ⟨i,rfl,hi,HI,HB⟩:=hrel
  by_cases hlt:i<X.length
  ·have hlt':(i:Int)<X.length:=by omega
   obtain ⟨b,o,rfl,hbl,d0,d1,d2,d3⟩:=(ScAt.belowB HS.out HB.out).node hlt
   have HC1:Hid _:=HC.out i hlt
   have HS1:Hid _:=HST.out i hlt
   generalize X.getD i noNx=N at *
   have HB1:Hid (Below w.heap.size w (wr.alloc (.cells #[.int .i64 N.nd.kind,.slice N.a1 N.nd.ints.length N.c1,.slice N.a2 N.nd.texts.length N.c2,.slice N.a3 N.nd.kids.length N.c3] 62))):=HB.out.alloc HB.out.size _
   have HC2:Hid _:=Hid.out HC1 _ HB1.out
   clear HC HST HC1 HS HB
   generalize tyN N.nd=t at *
   go_wp2_with fail
   refine Calls.mono (Hid.out HC2) ?_
   rintro e w1 ⟨rfl,hb1⟩
   have HB2:Hid (Below w.heap.size w w1):=HB1.out.trans (hb1.mono HB1.out.size)
   clear HC2 HB1 hb1 d0 d1 d2 d3
   by_cases ht:t=0
   ·have HI1:Hid ((E,Z)=tyG (X.drop (i+1)) (i+1)):=by
     have h1:=Hid.out HS1
     rw [if_pos ht] at h1
     exact HI.out.trans h1
    clear HI HS1
    go_wp2_with fail
    go_roundw
    case rel=>exact ⟨i+1,by go_num,by omega,HI1,HB2⟩
    case measure=>simp [intOf];omega
   ·have HI1:(E,Z)=(t,(i:Int)):=by
     have h1:=Hid.out HS1
     rw [if_neg ht] at h1
     exact HI.out.trans h1
    obtain ⟨rfl,rfl⟩:=Prod.mk.inj HI1
    clear HI HS1 HI1
    go_wp2_with fail
    go_ret2
    exact ⟨rfl,HB2.out⟩
  ·have hlt':¬(i:Int)<X.length:=by omega
   obtain rfl:i=X.length:=by omega
   have HI1:(E,Z)=((0:Int),(0:Int)):=HI.out.trans HEN.out
   obtain ⟨rfl,rfl⟩:=Prod.mk.inj HI1
   clear HI HI1 HEN HC HST
   go_wp2_with fail
   go_ret2
   exact ⟨rfl,HB.out⟩
def tcF (N:Nx) (b o n c i bx:Nat) (sb:Option Addr) (ci:List Int) (cap:Nat) (ct cl cm q:Int):Nat→Value→World→Prop
 | 0,v,_=>v=.pointer (some ⟨bx,0,none⟩)
 | 1,v,_=>v=.slice (some ⟨b,o,none⟩) n c
 | 2,v,_=>v=.int .i64 (i:Nat)
 | 3,v,_=>v=.pointer (some ⟨b,o+i*4,none⟩)
 | 4,v,_=>v=.agg #[.int .i64 N.nd.kind,.slice N.a1 N.nd.ints.length N.c1,.slice N.a2 N.nd.texts.length N.c2,.slice N.a3 N.nd.kids.length N.c3]
 | 5,v,_=>v=.agg #[.slice sb ci.length cap,.int .i64 ct,.int .i64 cl,.int .i64 cm]
 | 6,v,_=>v=.int .i64 q
 | 7,v,_=>v=.int .i64 q
 | _,_,_=>True
theorem tcF_stab (N:Nx) (b o n c i bx:Nat) (sb:Option Addr) (ci:List Int) (cap:Nat) (ct cl cm q:Int):∀ix jx v w w',ix≠jx→World.grownBy w w' (if ix=99 then none else none)→tcF N b o n c i bx sb ci cap ct cl cm q jx v w→tcF N b o n c i bx sb ci cap ct cl cm q jx v w':=by
 intro ix jx v w w' hne hg h
 match jx,h with
 | 0,h|1,h|2,h|3,h|4,h|5,h|6,h|7,h=>exact h
 | n+8,_=>trivial
set_option maxRecDepth 10000 in
set_option maxHeartbeats 1000000 in
theorem rtyped_any (X:List Nx) (a:Option Addr) (c:Nat) (r:Int) (w:World) (h:ScAt w a X) (hX:Small X) (hF:FnX X) :
  Calls Tryz.prog 50 #[.agg #[.slice a X.length c,.int .i64 r],.int .i64 2] w fun e w'=>e=.returned (.tuple #[.int .i64 (tyE X),.int .i64 (tyZ X)])∧Below w.heap.size w w':=by
 have HS:Hid (ScAt w a X):=h
 have hn:=hX.1
 have HC:Hid (∀(i:Nat),i<X.length→∀(W:World) (S:Sp) (sb:Option Addr) (d:Nat),Below w.heap.size w W→LsAt W sb (iV S.ints)→Calls Tryz.prog 105 #[.agg #[.int .i64 (X.getD i noNx).nd.kind,.slice (X.getD i noNx).a1 (X.getD i noNx).nd.ints.length (X.getD i noNx).c1,.slice (X.getD i noNx).a2 (X.getD i noNx).nd.texts.length (X.getD i noNx).c2,.slice (X.getD i noNx).a3 (X.getD i noNx).nd.kids.length (X.getD i noNx).c3],.agg #[.slice sb S.ints.length d,.int .i64 S.texts,.int .i64 S.least,.int .i64 S.most]] W fun e w'=>e=.returned (.int .i64 (chkN (X.getD i noNx).nd S.ints S.texts S.least S.most))∧Below W.heap.size W w'):=
  fun i hi W S sb d hW hb=>by
   have hgr:=big_no (hX.2 i hi)
   have hN:=(h.belowB hW).each i hi
   exact frcheck_any _ S.ints S.texts S.least S.most _ _ _ sb _ _ _ d W hN hb (hF i hi) hgr.1 hgr.2.1 hgr.2.2.2
 have HB0:Hid (Below w.heap.size w (w.alloc (.cells #[.slice a X.length c,.int .i64 r] 24))):=(Below.refl w.heap.size w).alloc (Nat.le_refl _) _
 have HA0:Hid (AtN 24 (w.alloc (.cells #[.slice a X.length c,.int .i64 r] 24)) w.heap.size #[.slice a X.length c,.int .i64 r]):=AtN.new w 24 _
 have HE:Hid (tyE X=(tyG X 0).1∧tyZ X=(tyG X 0).2):=⟨rfl,rfl⟩
 have HI0:Hid (tyG X 0=tyG (X.drop 0) 0):=rfl
 have HST:Hid (∀i,i<X.length→tyG (X.drop i) i=if tyN (X.getD i noNx).nd=0 then tyG (X.drop (i+1)) (i+1) else (tyN (X.getD i noNx).nd,(i:Int))):=fun i hi=>tyG_at X i hi
 have HTN:Hid (∀N:Nd,tyN N=if (newSp N.kind).ok=false then 9 else chkN N (newSp N.kind).ints (newSp N.kind).texts (newSp N.kind).least (newSp N.kind).most):=fun _=>rfl
 have HEN:Hid (tyG (X.drop X.length) X.length=(0,0)):=by show _=_;rw [List.drop_length];rfl
 generalize tyG X 0=R at *
 generalize tyE X=E at *
 generalize tyZ X=Z at *
 obtain ⟨R1,R2⟩:=R
 obtain ⟨rfl,rfl⟩:=HE.out
 clear h hX hF HE
 go_enter Tryz.func50,Tryz.ntmps50
 go_wp2_with fail
 go_loopw [6] (fun iv wr=>∃i:Nat,iv=.int .i64 i∧i≤X.length∧Hid ((E,Z)=tyG (X.drop i) i)∧Hid (AtN 24 wr w.heap.size #[.slice a X.length c,.int .i64 r])∧Hid (Below w.heap.size w wr)) (fun iv _=>X.length-(intOf iv).toNat)
 case atStart=>exact ⟨0,rfl,by omega,HI0,HA0,HB0⟩
 case round=>
  clear HI0 HB0 HA0
  obtain ⟨i,rfl,hi,HI,HA,HB⟩:=hrel
  have x0:wr.cell? ⟨w.heap.size,0,none⟩=some (.slice a X.length c):=HA.out.cell 0
  by_cases hlt:i<X.length
  ·have hlt':(i:Int)<X.length:=by omega
   have HE:Hid (∀W,Below w.heap.size w W→∃b o,a=some ⟨b,o,none⟩∧b<w.heap.size∧W.cell? ⟨b,o+i*4,none⟩=some (.int .i64 (X.getD i noNx).nd.kind)∧W.cell? ⟨b,o+i*4+1,none⟩=some (.slice (X.getD i noNx).a1 (X.getD i noNx).nd.ints.length (X.getD i noNx).c1)∧W.cell? ⟨b,o+i*4+2,none⟩=some (.slice (X.getD i noNx).a2 (X.getD i noNx).nd.texts.length (X.getD i noNx).c2)∧W.cell? ⟨b,o+i*4+3,none⟩=some (.slice (X.getD i noNx).a3 (X.getD i noNx).nd.kids.length (X.getD i noNx).c3)):=fun W hW=>by
    obtain ⟨b,o,e,hb,_⟩:=HS.out.node hlt
    have hs:=HS.out.belowB hW
    obtain ⟨b',o',e',_,d⟩:=hs.node hlt
    rw [e] at e'
    cases e'
    exact ⟨b,o,e,hb,d⟩
   have HC1:Hid _:=HC.out i hlt
   have HS1:Hid _:=HST.out i hlt
   have HT1:Hid _:=HTN.out (X.getD i noNx).nd
   generalize X.getD i noNx=N at *
   obtain ⟨b,o,rfl,hbl,d0,d1,d2,d3⟩:=HE.out wr HB.out
   have HSp:Hid (Calls Tryz.prog 104 #[.int .i64 2,.int .i64 N.nd.kind] wr fun e w'=>SpIs wr w' e (newSp N.nd.kind)):=rspec2_any N.nd.kind wr
   generalize newSp N.nd.kind=S at *
   obtain ⟨ok,ci,ct,cl,cm⟩:=S
   clear HC HST HTN HS
   generalize tyN N.nd=t at *
   go_wp2_with fail
   refine Calls.mono HSp.out ?_
   rintro e w1 ⟨v,rfl,hI,hb1⟩
   obtain ⟨sb,cap,rfl⟩:=own_shape7 hI
   have HL:Hid (LsAt w1 sb (iV ci)):=LsAt.of_own hI
   have HB1:Hid (Below w.heap.size w (w1.alloc (.cells #[.slice sb ci.length cap,.int .i64 ct,.int .i64 cl,.int .i64 cm] 147))):=(HB.out.trans (hb1.mono HB.out.size)).alloc (by have:=HB.out.size;have:=hb1.size;omega) _
   have HA1:Hid (AtN 24 (w1.alloc (.cells #[.slice sb ci.length cap,.int .i64 ct,.int .i64 cl,.int .i64 cm] 147)) w.heap.size #[.slice (some ⟨b,o,none⟩) X.length c,.int .i64 r]):=(AtN.belowAll HA.out hb1).alloc _
   have HG1:Hid (AtN 147 (w1.alloc (.cells #[.slice sb ci.length cap,.int .i64 ct,.int .i64 cl,.int .i64 cm] 147)) w1.heap.size #[.slice sb ci.length cap,.int .i64 ct,.int .i64 cl,.int .i64 cm]):=AtN.new w1 147 _
   have HL1:Hid (LsAt (w1.alloc (.cells #[.slice sb ci.length cap,.int .i64 ct,.int .i64 cl,.int .i64 cm] 147)) sb (iV ci)):=HL.out.alloc _
   have hs1:=hb1.size
   clear HSp hI hb1 HL HA d0 d1 d2 d3 x0
   dsimp only at *
   cases ok with
   | false=>
    have ht:t=9:=HT1.out
    have HI1:(E,Z)=(t,(i:Int)):=by
     have h1:=Hid.out HS1
     rw [if_neg (by omega)] at h1
     exact HI.out.trans h1
    obtain ⟨rfl,rfl⟩:=Prod.mk.inj HI1
    subst ht
    clear HI HS1 HI1 HT1 HC1 HE HL1 HG1 HA1 HB
    go_wp2_with fail
    go_ret2
    exact ⟨rfl,HB1.out⟩
   | true=>
    have ht:t=chkN N.nd ci ct cl cm:=HT1.out
    obtain ⟨q,hq⟩:∃q,chkN N.nd ci ct cl cm=q:=⟨_,rfl⟩
    have HCC0:Hid (∀W,Below w.heap.size w W→LsAt W sb (iV ci)→Calls Tryz.prog 105 #[.agg #[.int .i64 N.nd.kind,.slice N.a1 N.nd.ints.length N.c1,.slice N.a2 N.nd.texts.length N.c2,.slice N.a3 N.nd.kids.length N.c3],.agg #[.slice sb ci.length cap,.int .i64 ct,.int .i64 cl,.int .i64 cm]] W fun e w'=>e=.returned (.int .i64 q)∧Below W.heap.size W w'):=fun W hW hb=>by
     have:=Hid.out HC1 W ⟨true,ci,ct,cl,cm⟩ sb cap hW hb
     rw [← hq]
     exact this
    have htq:t=q:=ht.trans hq
    subst htq
    clear HC1 hq ht HT1
    go_wp2_with fail
    refine facts_region none 99 (tcF N b o X.length c i w.heap.size sb ci cap ct cl cm t) (by kernel_rfl) (by kernel_rfl) (tcF_stab N b o X.length c i w.heap.size sb ci cap ct cl cm t) ?step ?fin
    case step=>
     intro i' o' ho act W hg hstill hoff hdep K hK
     have hb:=below_of_grown hg
     have HBW:Hid (Below w.heap.size w W):=HB1.out.trans (hb.mono HB1.out.size)
     have A0:=AtN.belowAll HA1.out hb
     have x0:W.cell? ⟨w.heap.size,0,none⟩=some (.slice (some ⟨b,o,none⟩) X.length c):=A0.cell 0
     have A1:=AtN.belowAll HG1.out hb
     have y0:W.cell? ⟨w1.heap.size,0,none⟩=some (.slice sb ci.length cap):=A1.cell 0
     have y1:W.cell? ⟨w1.heap.size,1,none⟩=some (.int .i64 ct):=A1.cell 1
     have y2:W.cell? ⟨w1.heap.size,2,none⟩=some (.int .i64 cl):=A1.cell 2
     have y3:W.cell? ⟨w1.heap.size,3,none⟩=some (.int .i64 cm):=A1.cell 3
     obtain ⟨b',o',e',_,d0,d1,d2,d3⟩:=HE.out W HBW.out
     cases e'
     have HCC:Hid _:=HCC0.out W HBW.out (LsAt.belowB HL1.out hb)
     clear hb A0 A1 HCC0 HE HL1 HG1 HA1 HB1 HB HBW HI HS1
     rcases i' with _|_|_|_|_|_|_|_|i'
     ·obtain rfl:=Option.some.inj ho
      have t2:act.tmps[2]?.getD undef=.pointer (some ⟨w.heap.size,0,none⟩):=hoff 2 (by kernel_rfl)
      clear hdep hoff hg hstill HCC
      go_simp
      exact hK _ _ (grown_refl _ _) rfl
     ·obtain rfl:=Option.some.inj ho
      have e0:act.tmps[31]?.getD undef=.pointer (some ⟨w.heap.size,0,none⟩):=hdep 0 _ (by kernel_rfl) rfl
      clear hdep hoff hg hstill HCC
      go_simp
      exact hK _ _ (grown_refl _ _) rfl
     ·obtain rfl:=Option.some.inj ho
      have t6:act.tmps[6]?.getD undef=.int .i64 (i:Nat):=hoff 6 (by kernel_rfl)
      clear hdep hoff hg hstill HCC
      go_simp
      exact hK _ _ (grown_refl _ _) rfl
     ·obtain rfl:=Option.some.inj ho
      have e1:act.tmps[32]?.getD undef=.slice (some ⟨b,o,none⟩) X.length c:=hdep 1 _ (by kernel_rfl) rfl
      have e2:act.tmps[33]?.getD undef=.int .i64 (i:Nat):=hdep 2 _ (by kernel_rfl) rfl
      clear hdep hoff hg hstill HCC
      go_simp
      exact hK _ _ (grown_refl _ _) rfl
     ·obtain rfl:=Option.some.inj ho
      have e3:act.tmps[34]?.getD undef=.pointer (some ⟨b,o+i*4,none⟩):=hdep 3 _ (by kernel_rfl) rfl
      clear hdep hoff hg hstill HCC
      go_simp
      exact hK _ _ (grown_refl _ _) rfl
     ·obtain rfl:=Option.some.inj ho
      have t7:act.tmps[7]?.getD undef=.pointer (some ⟨w1.heap.size,0,none⟩):=hoff 7 (by kernel_rfl)
      clear hdep hoff hg hstill HCC
      go_simp
      exact hK _ _ (grown_refl _ _) rfl
     ·obtain rfl:=Option.some.inj ho
      have e4:act.tmps[35]?.getD undef=.agg #[.int .i64 N.nd.kind,.slice N.a1 N.nd.ints.length N.c1,.slice N.a2 N.nd.texts.length N.c2,.slice N.a3 N.nd.kids.length N.c3]:=hdep 4 _ (by kernel_rfl) rfl
      have e5:act.tmps[36]?.getD undef=.agg #[.slice sb ci.length cap,.int .i64 ct,.int .i64 cl,.int .i64 cm]:=hdep 5 _ (by kernel_rfl) rfl
      clear hdep hoff hg hstill
      go_simp
      refine Calls.mono HCC.out ?_
      rintro e w' ⟨rfl,hb⟩
      exact hK _ _ (grown_of_below hb _) rfl
     ·obtain rfl:=Option.some.inj ho
      have e6:act.tmps[37]?.getD undef=.int .i64 t:=hdep 6 _ (by kernel_rfl) rfl
      clear hdep hoff hg hstill HCC
      go_simp
      exact hK _ _ (grown_refl _ _) rfl
     ·exact absurd ho (by simp)
    case fin=>
     intro V W hg hF
     have hb:=below_of_grown hg
     have HB2:Hid (Below w.heap.size w W):=HB1.out.trans (hb.mono HB1.out.size)
     have HA2:Hid (AtN 24 W w.heap.size #[.slice (some ⟨b,o,none⟩) X.length c,.int .i64 r]):=AtN.belowAll HA1.out hb
     have v9:V (some 9)=.int .i64 t:=hF 7 _ rfl
     clear hF hg hb HCC0 HE HL1 HG1 HA1 HB1 HB
     simp only [fillA,Act.put,List.setIfInBounds_toArray,List.set_cons_zero,List.set_cons_succ,v9]
     generalize V (some 31)=z31
     generalize V (some 32)=z32
     generalize V (some 33)=z33
     generalize V (some 34)=z34
     generalize V (some 35)=z35
     generalize V (some 36)=z36
     generalize V (some 37)=z37
     clear v9
     by_cases ht:t=0
     ·have HI1:Hid ((E,Z)=tyG (X.drop (i+1)) (i+1)):=by
       have h1:=Hid.out HS1
       rw [if_pos ht] at h1
       exact HI.out.trans h1
      clear HI HS1
      go_wp2_with fail
      go_roundw
      case rel=>exact ⟨i+1,by go_num,by omega,HI1,HA2,HB2⟩
      case measure=>simp [intOf];omega
     ·have HI1:(E,Z)=(t,(i:Int)):=by
       have h1:=Hid.out HS1
       rw [if_neg ht] at h1
       exact HI.out.trans h1
      obtain ⟨rfl,rfl⟩:=Prod.mk.inj HI1
      clear HI HS1 HI1
      go_wp2_with fail
      go_ret2
      exact ⟨rfl,HB2.out⟩
  ·have hlt':¬(i:Int)<X.length:=by omega
   obtain rfl:i=X.length:=by omega
   have HI1:(E,Z)=((0:Int),(0:Int)):=HI.out.trans HEN.out
   obtain ⟨rfl,rfl⟩:=Prod.mk.inj HI1
   clear HI HI1 HEN HC HST HTN HS
   go_wp2_with fail
   go_ret2
   exact ⟨rfl,HB.out⟩
end Go.Proofs.YtcgjgjjegnofeaaGreatDoor
namespace Go.Proofs.YtcgjgjjegnofeaaGreatDoor
open Go.RowKit Go.Maps Go.WideMaps Go.Sort
theorem Mkg.cur {w w':World} {B go gc:Nat} {r:Int} {v:Value} {Y:List Nx} {x y z:Value} (h:Mkg w B go r v Y) (hg:w.grownBy w' (some gc)) (hc:At3 131 w gc x y z):Mkg w' B go r v Y:=by
 have hc':AtN 131 w gc #[x,y,z]:=hc
 have hF:Fr (fun b=>b=gc) w w':=Fr.of_grown hg (fun k e=>by cases e;rfl)
 have hal:Alien w (fun b=>b=gc):=fun b hb _=>⟨_,_,_,hb ▸ hc,by decide,by decide,by decide⟩
 refine ⟨h.sc.fr hF (fun e=>?_),own_fr h.row hF (fun b hb e=>own_ne_at h.row hc' (by decide) b hb e),fun j hj=>(h.each j hj).fr hF hal⟩
 subst e
 have h1:w.heap[go]? = _:=h.sc
 have h2:w.heap[go]? = _:=hc
 rw [h1] at h2
 cases h2
theorem okL_in {l:Lm} (h:okL l=true):(0≤l.b∧l.b≤16777216)∧(0≤l.n∧l.n≤16777216)∧(0≤l.e∧l.e≤16777216)∧(0≤l.d∧l.d≤16777216)∧(0≤l.x∧l.x≤16777216):=by
 have key:∀i,i<5→0≤(lmL l).getD i 0∧(lmL l).getD i 0≤16777216:=fun i hi=>by
  by_cases q:(lmL l).getD i 0<0∨16777216<(lmL l).getD i 0
  ·have:=okL_no l i hi q
   rw [h] at this;cases this
  ·omega
 exact ⟨key 0 (by omega),key 1 (by omega),key 2 (by omega),key 3 (by omega),key 4 (by omega)⟩
def liC (l:Lm):Array Value:=#[.int .i64 l.b,.int .i64 l.n,.int .i64 l.e,.int .i64 l.d,.int .i64 l.x]
structure Gl (w W:World) (lim:Nat) (l:Lm) (y:Option Addr) (cap bt ot:Nat) (L:List ByteArray):Prop where
 bel:Below w.heap.size w W
 a:AtN 26 W w.heap.size (liC l)
 r:AtN 24 W (w.heap.size+1) #[.slice none 0 0,.int .i64 0]
 n:AtN 24 W (w.heap.size+2) #[.slice none 0 0,.int .i64 0]
 x:TxI W y cap bt ot L
 hb:0<L.length→bt<lim
 hl:lim≤W.heap.size
 hw:w.heap.size+3≤lim
section
variable {w W W':World} {lim:Nat} {l:Lm} {y:Option Addr} {cap bt ot:Nat} {L:List ByteArray}
theorem Gl.fr {S:Nat→Prop} (h:Gl w W lim l y cap bt ot L) (k:Fr S W W') (hs:∀i,S i→lim≤i):Gl w W' lim l y cap bt ot L:=
 ⟨Fr.below h.bel k (fun i hi=>by have:=hs i hi;have:=h.hw;omega) h.bel.size,h.a.fr k (fun q=>by have:=hs _ q;have:=h.hw;omega),h.r.fr k (fun q=>by have:=hs _ q;have:=h.hw;omega),h.n.fr k (fun q=>by have:=hs _ q;have:=h.hw;omega),
  ⟨h.x.ptr,fun i hi=>h.x.at_.fr k (fun q=>by have:=hs _ q;have:=h.hb (by omega);omega) i hi,h.x.cap_,h.x.nil⟩,h.hb,Nat.le_trans h.hl k.size,h.hw⟩
theorem Gl.more (h:Gl w W lim l y cap bt ot L) (hb:Below W.heap.size W W'):Gl w W' lim l y cap bt ot L:=h.fr (Fr.of_below (S:=fun _=>False) hb) (fun _ q=>q.elim)
theorem Gl.cur {gc:Nat} (h:Gl w W lim l y cap bt ot L) (hg:W.grownBy W' (some gc)) (hc:lim≤gc):Gl w W' lim l y cap bt ot L:=
 h.fr (Fr.of_grown (S:=fun k=>k=gc) hg (fun k e=>by cases e;rfl)) (fun i e=>by rw [e];exact hc)
end
theorem OwnNd.frAt {S:Nat→Prop} {W W':World} {B:Nat} {N:Nd} {a1 a2 a3:Option Addr} {c1 c2 c3:Nat} (h:OwnNd W B N (.slice a1 N.ints.length c1) (.slice a2 N.texts.length c2) (.slice a3 N.kids.length c3)) (k:Fr S W W') (hs:∀i,S i→i<B):NdAt W' N a1 a2 a3:=by
 have key:∀{e n v xs},W.ownsRow B e 1 v n xs→W'.ownsRow B e 1 v n xs:=fun {e n v xs} ho=>own_fr ho k (fun r hr q=>by have:=(ho.lt r hr).1;have:=hs r q;omega)
 exact OwnNd.ndAt ⟨key h.i,key h.t,key h.k⟩
theorem Mkg.low {w w':World} {B go c:Nat} {r:Int} {a:Option Addr} {Y:List Nx} {S:Nat→Prop} (h:Mkg w B go r (.slice a Y.length c) Y) (k:Fr S w w') (hs:∀i,S i→i<B):ScAt w' a Y:=
 ⟨LsAt.of_own4' (own_fr h.row k (fun r hr q=>by have:=(h.row.lt r hr).1;have:=hs r q;omega)),fun i hi=>OwnNd.frAt (h.each i hi) k hs⟩
def GeOut2 (tx nb:ByteArray) (l:Lm) (w w':World) (e:Ending):Prop:=∃(X:List Nx) (a:Option Addr) (c:Nat) (r k:Int),e=.returned (.tuple #[.agg #[.slice a X.length c,.int .i64 r],.int .i64 k])∧GeIs tx nb l (X.map Nx.nd) r k∧(∀W,Fr (fun b=>b<w.heap.size) w' W→ScAt W a X)∧Small X∧FnX X∧Below w.heap.size w w'
theorem GeOut2.drew {tx nb:ByteArray} {l:Lm} {w w':World} {e:Ending} (h:GeOut2 tx nb l w w' e):GeOut2 tx nb l w w'.drew e:=by
 obtain ⟨X,a,c,r,k,h1,h2,h3,h4,h5,h6⟩:=h
 have hd:Below w'.heap.size w' w'.drew:=⟨rfl,rfl,rfl,Nat.le_refl _,fun _ _=>rfl⟩
 exact ⟨X,a,c,r,k,h1,h2,fun W f=>h3 W ((Fr.of_below (S:=fun b=>b<w.heap.size) hd).trans f (fun i hi _=>hi)),h4,h5,h6.trans (hd.mono h6.size)⟩
theorem GeIs.bad {tx nb:ByteArray} {l:Lm} {k:Int} (h:(geK tx nb l).1=k) (hk:k≠0):GeIs tx nb l (([]:List Nx).map Nx.nd) 0 k:=.inl ⟨by rw [h];exact hk,h.symm,rfl,rfl⟩
theorem tell_bad {tx nb:ByteArray} {l:Lm} {w W:World} {k:Int} (hG:GeIs tx nb l (([]:List Nx).map Nx.nd) 0 k) (hb:Below w.heap.size w W) {x0 x1:Value} (hr:AtN 24 W (w.heap.size+1) #[x0,x1]) :
  ∀W',W'=(W.setCell ⟨w.heap.size+1,0,none⟩ (.slice none 0 0)).setCell ⟨w.heap.size+1,1,none⟩ (.int .i64 0)→AtN 24 W' (w.heap.size+1) #[.slice none 0 0,.int .i64 0]∧GeOut2 tx nb l w W' (.returned (.tuple #[.agg #[.slice none 0 0,.int .i64 0],.int .i64 k])):=by
 rintro _ rfl
 have hF:Fr (fun b=>b=w.heap.size+1) W ((W.setCell ⟨w.heap.size+1,0,none⟩ (.slice none 0 0)).setCell ⟨w.heap.size+1,1,none⟩ (.int .i64 0)):=((Fr.refl (fun b=>b=w.heap.size+1) W).set ⟨w.heap.size+1,0,none⟩ rfl _).set ⟨w.heap.size+1,1,none⟩ rfl _
 refine ⟨by simpa using (hr.set 0 (.slice none 0 0)).set 1 (.int .i64 0),[],none,0,0,k,rfl,hG,fun _ _=>⟨LsAt.nil _ _,fun i hi=>by simp at hi⟩,⟨by simp,fun i hi=>by simp at hi⟩,fun i hi=>by simp at hi,Fr.below hb hF (fun i e=>by omega) hb.size⟩
section
variable (tx nb:ByteArray) (l:Lm)
theorem geK_1 (h:okL l=false):(geK tx nb l).1=1:=by unfold geK;rw [if_pos h]
theorem geK_2 (h1:okL l=true) {e:Int} {L:List ByteArray} (h:pGet6 tx 16777216 l.x=(e,L)) (he:e≠0):(geK tx nb l).1=e:=by
 unfold geK;rw [if_neg (by simp [h1]),h,if_pos he]
theorem geK_3 (h1:okL l=true) {L:List ByteArray} (h2:pGet6 tx 16777216 l.x=(0,L)) {n e:Int} {k:Nat} (h:pUint nb 0 0 l.n=(n,k,e)) (he:e≠0):(geK tx nb l).1=e:=by
 unfold geK;rw [if_neg (by simp [h1]),h2,h,if_neg (by simp),if_pos he]
theorem geK_4 (h1:okL l=true) {L:List ByteArray} (h2:pGet6 tx 16777216 l.x=(0,L)) {k:Nat} (h:pUint nb 0 0 l.n=(0,k,0)):(geK tx nb l).1=13:=by
 unfold geK;rw [if_neg (by simp [h1]),h2,h,if_neg (by simp),if_neg (by simp),if_pos rfl]
theorem geK_5 (h1:okL l=true) {L:List ByteArray} (h2:pGet6 tx 16777216 l.x=(0,L)) {n:Int} {k:Nat} (h3:pUint nb 0 0 l.n=(n,k,0)) (h4:n≠0) {P:List Nd} {k':Nat} {e:Int} (h:gNs nb L n.toNat 0 k l.e=(P,k',e)) (he:e≠0):(geK tx nb l).1=e:=by
 unfold geK;rw [if_neg (by simp [h1]),h2,h3,if_neg (by simp),if_neg (by simp),if_neg h4,h,if_pos he]
theorem geK_6 (h1:okL l=true) {L:List ByteArray} (h2:pGet6 tx 16777216 l.x=(0,L)) {n:Int} {k:Nat} (h3:pUint nb 0 0 l.n=(n,k,0)) (h4:n≠0) {P:List Nd} {k':Nat} (h:gNs nb L n.toNat 0 k l.e=(P,k',0)) (hk:k'<nb.size):(geK tx nb l).1=8:=by
 unfold geK;rw [if_neg (by simp [h1]),h2,h3,if_neg (by simp),if_neg (by simp),if_neg h4,h,if_neg (by simp),if_pos hk]
theorem geK_7 (h1:okL l=true) {L:List ByteArray} (h2:pGet6 tx 16777216 l.x=(0,L)) {n:Int} {k:Nat} (h3:pUint nb 0 0 l.n=(n,k,0)) (h4:n≠0) {P:List Nd} {k':Nat} (h:gNs nb L n.toNat 0 k l.e=(P,k',0)) (hk:¬k'<nb.size):geK tx nb l=(0,P,L):=by
 unfold geK;rw [if_neg (by simp [h1]),h2,h3,if_neg (by simp),if_neg (by simp),if_neg h4,h,if_neg (by simp),if_neg hk]
end
theorem GeIs.of {tx nb:ByteArray} {l:Lm} {X:List Nx} {r k:Int} {L:List ByteArray} (h:geK tx nb l=(0,X.map Nx.nd,L)) (hr:r=(X.length:Int)-1) (hS:GeS X r L l k) :
  (k≠0→GeIs tx nb l (([]:List Nx).map Nx.nd) 0 k)∧(k=0→GeIs tx nb l (X.map Nx.nd) r 0):=by
 have hS':GeS (bare (geK tx nb l).2.1) (((geK tx nb l).2.1.length:Int)-1) (geK tx nb l).2.2 l k:=by
  rw [h]
  dsimp only
  rw [List.length_map,← hr]
  exact hS.same (by rw [bare_nd])
 have h0:(geK tx nb l).1=0:=by rw [h]
 refine ⟨fun q=>.inr ⟨h0,k,hS',.inl ⟨q,rfl,rfl,rfl⟩⟩,fun q=>.inr ⟨h0,k,hS',.inr ⟨q,rfl,by rw [h],by rw [h,hr];simp⟩⟩⟩
end Go.Proofs.YtcgjgjjegnofeaaGreatDoor
namespace Go.Proofs.YtcgjgjjegnofeaaGreatDoor
open Go.RowKit
def PuIs (X:List Nx) (r:Int) (A C:ByteArray) (e:Int):Prop:=
 (tyE X≠0∧e=tyE X∧A=⟨#[]⟩∧C=⟨#[]⟩)∨
  (tyE X=0∧∃n y,CheckIs X r n y∧((n≠0∧e=n∧A=⟨#[]⟩∧C=⟨#[]⟩)∨(n=0∧((¬IsCan X r∧e=16∧A=⟨#[]⟩∧C=⟨#[]⟩)∨
   (IsCan X r∧e=0∧A.data.toList=pPut6 (rTab (X.map Nx.nd) [])∧C.data.toList=put X.length++rAllN 0 (X.map Nx.nd) [])))))
def PuOut (X:List Nx) (r:Int) (w w':World) (e:Ending):Prop:=∃(A C:ByteArray) (k:Int),e=.returned (.tuple #[.string A,.string C,.int .i64 k])∧PuIs X r A C k∧Below w.heap.size w w'
theorem rB_size (N:Nd) (p:Int) (L:List ByteArray) (hb:big N=false):(rB N p L).length≤32020:=by
 obtain ⟨h0,h6,h7,_⟩:=big_no hb
 have h1:=put_length N.kind.toNat
 have h2:=put_length N.kids.length
 have h3:(rI N.ints).length≤10*N.ints.length:=flat_ten _ _
 have h4:(rT (itF L N.texts) N.texts).length≤10*N.texts.length:=flat_ten _ _
 have h5:(rK p N.kids).length≤10*N.kids.length:=flat_ten _ _
 unfold rB
 simp only [List.length_append]
 omega
theorem itF_sumB (T:List ByteArray):∀L:List ByteArray,(∀s ∈ T,s.size≤3000)→sum6 (itF L T)≤sum6 L+3000*T.length:=by
 induction T with
 | nil=>intro L _;simp [itF]
 | cons x r ih=>
  intro L h
  have h1:=ih (pIntern L x) (fun s hs=>h s (by simp [hs]))
  have h2:sum6 (pIntern L x)≤sum6 L+x.size:=by
   unfold pIntern
   split
   ·omega
   ·rw [sum6_append];simp [sum6]
  have h3:=h x (by simp)
  have h4:itF L (x :: r)=itF (pIntern L x) r:=rfl
  rw [h4,List.length_cons]
  omega
theorem tyE_all {X:List Nx} (h:tyE X=0):∀i,i<X.length→tyN (X.getD i noNx).nd=0:=by
 have key:∀(X:List Nx) (k:Nat),(tyG X k).1=0→∀i,i<X.length→tyN (X.getD i noNx).nd=0:=by
  intro X
  induction X with
  | nil=>intro k _ i hi;simp at hi
  | cons x r ih=>
   intro k hk i hi
   unfold tyG at hk
   by_cases hx:tyN x.nd=0
   ·rw [if_pos hx] at hk
    match i with
    | 0=>simpa using hx
    | i+1=>simpa using ih (k+1) hk i (by simpa using hi)
   ·rw [if_neg hx] at hk
    exact absurd hk hx
 exact key X 0 h
theorem tyN_texts {N:Nd} (h:tyN N=0):N.texts.length≤2:=by
 have h1:rE N 0=0∨rE N 0=13:=by
  unfold rE
  rw [if_pos h]
  split
  ·exact .inl rfl
  ·exact .inr rfl
 unfold tyN at h
 split at h
 ·cases h
 ·unfold chkN at h
  split at h
  ·cases h
  ·split at h
   ·cases h
   ·rename_i h2 h3
    have h4:fitT N.texts (newSp N.kind).texts=true:=by simpa using h3
    unfold fitT at h4
    rw [Bool.and_eq_true,decide_eq_true_eq] at h4
    have:=newSp_small N.kind
    omega
theorem getD_in {L:List Int} {j:Nat} (h:j<L.length):L.getD j 0 ∈ L:=by
 rw [List.getD_eq_getElem?_getD,List.getElem?_eq_getElem h]
 exact List.getElem_mem h
theorem can_kids {X:List Nx} {r:Int} (h:IsCan X r) {i:Nat} (hi:i<X.length) (j:Nat) (hj:j<(X.getD i noNx).nd.kids.length):0≤(X.getD i noNx).nd.kids.getD j 0∧(X.getD i noNx).nd.kids.getD j 0<i:=by
 have h1:=h.1.2.1 i hi j hj
 unfold isPb at h1
 have h2:=of_decide_eq_true h1
 have hm:(X.getD i noNx).nd.kids.getD j 0 ∈ (X.getD i noNx).nd.kids:=getD_in hj
 have hE:Ed (kX X) i ((X.getD i noNx).nd.kids.getD j 0).toNat:=by
  unfold Ed
  rw [kX_at X i hi]
  exact List.mem_map_of_mem hm
 have h3:=h.1.ord.good.kids i (oX_all h.1 i hi) _ hE
 have h4:((X.getD i noNx).nd.kids.getD j 0).toNat<X.length:=by omega
 have h5:=h3.2
 have e1:(ordO (kX X) r.toNat).idxOf i=i:=h.2 i hi
 have e2:(ordO (kX X) r.toNat).idxOf ((X.getD i noNx).nd.kids.getD j 0).toNat=((X.getD i noNx).nd.kids.getD j 0).toNat:=h.2 _ h4
 unfold oX at h5
 rw [e1,e2] at h5
 omega
theorem can_rE {X:List Nx} {r:Int} (h:IsCan X r) (ht:tyE X=0) {i:Nat} (hi:i<X.length):rE (X.getD i noNx).nd i=0:=by
 unfold rE
 rw [if_pos (tyE_all ht i hi),if_pos (rOk_yes (fun j hj=>can_kids h hi j hj))]
set_option maxRecDepth 10000 in
set_option maxHeartbeats 2000000 in
theorem rnput_any (X:List Nx) (a:Option Addr) (c:Nat) (r:Int) (w:World) (h:ScAt w a X) (hX:Small X) (hF:FnX X) :
  Calls Tryz.prog 58 #[.agg #[.slice a X.length c,.int .i64 r]] w fun e w'=>PuOut X r w w' e:=by
 have HS:Hid (ScAt w a X∧Small X):=⟨h,hX⟩
 have HFn:Hid (FnX X):=hF
 have hn:=hX.1
 have HA0:Hid (AtN 24 (w.alloc (.cells #[.slice a X.length c,.int .i64 r] 24)) w.heap.size #[.slice a X.length c,.int .i64 r]):=AtN.new w 24 _
 have HB0:Hid (Below w.heap.size w (w.alloc (.cells #[.slice a X.length c,.int .i64 r] 24))):=(Below.refl _ _).alloc (Nat.le_refl _) _
 have HTy:Hid (∀W,Below w.heap.size w W→Calls Tryz.prog 50 #[.agg #[.slice a X.length c,.int .i64 r],.int .i64 2] W fun e w'=>e=.returned (.tuple #[.int .i64 (tyE X),.int .i64 (tyZ X)])∧Below W.heap.size W w'):=fun W hW=>rtyped_any X a c r W (h.belowB hW) hX hF
 have HCk:Hid (∀W,Below w.heap.size w W→Calls Tryz.prog 49 #[.agg #[.slice a X.length c,.int .i64 r]] W fun e w'=>CheckOut X r W w' e):=fun W hW=>rcheck_any X a c r W (h.belowB hW) hX
 have HIs:Hid (∀W,Below w.heap.size w W→Calls Tryz.prog 89 #[.agg #[.slice a X.length c,.int .i64 r]] W fun e w'=>IsOut X r W w' e):=fun W hW=>ris_any X a c r W (h.belowB hW) hX
 have HV:Hid (∀A C e,PuIs X r A C e↔((tyE X≠0∧e=tyE X∧A=⟨#[]⟩∧C=⟨#[]⟩)∨(tyE X=0∧∃n y,CheckIs X r n y∧((n≠0∧e=n∧A=⟨#[]⟩∧C=⟨#[]⟩)∨(n=0∧((¬IsCan X r∧e=16∧A=⟨#[]⟩∧C=⟨#[]⟩)∨
   (IsCan X r∧e=0∧A.data.toList=pPut6 (rTab (X.map Nx.nd) [])∧C.data.toList=put X.length++rAllN 0 (X.map Nx.nd) []))))))):=fun _ _ _=>Iff.rfl
 have HTe:Hid (tyE X=0→∀i,i<X.length→(X.getD i noNx).nd.texts.length≤2):=fun q i hi=>tyN_texts (tyE_all q i hi)
 have HRe:Hid (IsCan X r→tyE X=0→∀i,i<X.length→rE (X.getD i noNx).nd i=0):=fun q1 q2 i hi=>can_rE q1 q2 hi
 obtain ⟨te,hte⟩:∃te,tyE X=te:=⟨_,rfl⟩
 rw [hte] at HTy HV HTe HRe
 generalize tyZ X=tz at *
 clear h hX hF hte
 go_enter Tryz.func58,Tryz.ntmps58
 go_wp2_with fail
 refine Calls.mono (HTy.out _ HB0.out) ?_
 rintro e w1 ⟨rfl,hb1⟩
 have HA1:Hid (AtN 24 w1 w.heap.size #[.slice a X.length c,.int .i64 r]):=AtN.belowAll HA0.out hb1
 have HB1:Hid (Below w.heap.size w w1):=HB0.out.trans (hb1.mono HB0.out.size)
 clear HA0 HB0 HTy hb1
 by_cases ht:te=0
 ·have HV0:Hid (∀A C e,(∃n y,CheckIs X r n y∧((n≠0∧e=n∧A=⟨#[]⟩∧C=⟨#[]⟩)∨(n=0∧((¬IsCan X r∧e=16∧A=⟨#[]⟩∧C=⟨#[]⟩)∨
   (IsCan X r∧e=0∧A.data.toList=pPut6 (rTab (X.map Nx.nd) [])∧C.data.toList=put X.length++rAllN 0 (X.map Nx.nd) [])))))→PuIs X r A C e):=fun A C e q=>(HV.out A C e).2 (.inr ⟨ht,q⟩)
  have HT2:Hid (∀i,i<X.length→(X.getD i noNx).nd.texts.length≤2):=HTe.out ht
  have HR2:Hid (IsCan X r→∀i,i<X.length→rE (X.getD i noNx).nd i=0):=fun q=>HRe.out q ht
  clear HV HTe HRe
  subst ht
  have x0:w1.cell? ⟨w.heap.size,0,none⟩=some (.slice a X.length c):=HA1.out.cell 0
  have x1:w1.cell? ⟨w.heap.size,1,none⟩=some (.int .i64 r):=HA1.out.cell 1
  go_wp2_with fail
  refine Calls.mono (HCk.out _ HB1.out) ?_
  rintro e w2 ⟨n,z,rfl,hck,hb2⟩
  have HA2:Hid (AtN 24 w2 w.heap.size #[.slice a X.length c,.int .i64 r]):=AtN.belowAll HA1.out hb2
  have HB2:Hid (Below w.heap.size w w2):=HB1.out.trans (hb2.mono HB1.out.size)
  have HCi:Hid (CheckIs X r n z):=hck
  clear HA1 HB1 HCk hb2 hck x0 x1
  by_cases hn0:n=0
  ·subst hn0
   have x0:w2.cell? ⟨w.heap.size,0,none⟩=some (.slice a X.length c):=HA2.out.cell 0
   have x1:w2.cell? ⟨w.heap.size,1,none⟩=some (.int .i64 r):=HA2.out.cell 1
   go_wp2_with fail
   refine Calls.mono (HIs.out _ HB2.out) ?_
   rintro e w3 ⟨bc,rfl,hbc,hb3⟩
   have HA3:Hid (AtN 24 w3 w.heap.size #[.slice a X.length c,.int .i64 r]):=AtN.belowAll HA2.out hb3
   have HB3:Hid (Below w.heap.size w w3):=HB2.out.trans (hb3.mono HB2.out.size)
   clear HA2 HB2 HIs hb3 x0 x1
   cases bc with
   | false=>
    have HP:Hid (PuIs X r ⟨#[]⟩ ⟨#[]⟩ 16):=HV0.out _ _ _ ⟨0,z,HCi.out,.inr ⟨rfl,.inl ⟨fun q=>by simpa using hbc.2 q,rfl,rfl,rfl⟩⟩⟩
    clear HV0 HCi hbc HT2 HR2
    go_wp2_with fail
    go_ret3
    exact ⟨_,_,_,rfl,HP.out,HB3.out⟩
   | true=>
    have HCan:Hid (IsCan X r):=hbc.1 rfl
    have HR0:Hid (∀i,i<X.length→rE (X.getD i noNx).nd i=0):=HR2.out HCan.out
    have P0:=refput_any (X.length:Int) (w3.alloc (.cells #[] 9)) (by omega) (by omega)
    rw [Int.toNat_natCast] at P0
    obtain ⟨T0,hT0⟩:∃T0:ByteArray,T0=⟨(put X.length).toArray⟩:=⟨_,rfl⟩
    rw [← hT0] at P0
    have dT0:T0.data.toList=put X.length:=by rw [hT0]
    have zT0:T0.size≤10:=by
     have h1:T0.size=T0.data.toList.length:=by rw [Array.length_toList];rfl
     rw [h1,dT0]
     exact (put_length _).2
    have HP0:Hid _:=P0
    have x0:w3.cell? ⟨w.heap.size,0,none⟩=some (.slice a X.length c):=HA3.out.cell 0
    have hlt3:w.heap.size<w3.heap.size:=HA3.out.lt
    clear hbc HR2 P0 hT0
    go_wp2_with fail
    refine Calls.mono HP0.out ?_
    rintro e w4 ⟨rfl,hb4⟩
    have hbl:Below w3.heap.size w3 (w3.alloc (.cells #[] 9)):=(Below.refl _ _).alloc (Nat.le_refl _) _
    have HA4:Hid (AtN 24 w4 w.heap.size #[.slice a X.length c,.int .i64 r]):=AtN.belowAll (AtN.belowAll HA3.out hbl) hb4
    have HB4:Hid (Below w.heap.size w w4):=(HB3.out.trans (hbl.mono HB3.out.size)).trans (hb4.mono (by have:=HB3.out.size;simp;omega))
    have HX4:Hid (TxI w4 (some ⟨w3.heap.size,0,none⟩) 0 w3.heap.size 0 []):=⟨fun q=>by simp at q,fun i hi=>by simp at hi,Nat.le_refl _,fun q=>by cases q⟩
    have HD0:Hid (T0.data.toList=put X.length):=dT0
    clear HP0 hb4 hbl HA3 HB3 x0 dT0
    go_wp2_with fail
    go_loopw [9,10,11] (fun lv ov iv wr=>∃(i:Nat) (T:ByteArray) (M:List ByteArray) (y:Option Addr) (cp b o:Nat),iv=.int .i64 i∧ov=.string T∧.slice y M.length cp=lv∧i≤X.length∧T.size≤10+32020*i∧M.length≤2*i∧sum6 M≤6000*i∧Hid (T.data.toList=put X.length++rAllN 0 ((X.take i).map Nx.nd) [])∧Hid (M=rTab ((X.take i).map Nx.nd) [])∧Hid (TxI wr y cp b o M)∧Hid (AtN 24 wr w.heap.size #[.slice a X.length c,.int .i64 r])∧Hid (Below w.heap.size w wr)) (fun _ _ iv _=>X.length-(intOf iv).toNat)
    case atStart=>exact ⟨0,T0,[],_,0,_,_,rfl,rfl,rfl,by omega,by omega,by simp,by simp [sum6],by show _=_;rw [HD0.out];simp [rAllN],rfl,HX4,HA4,HB4⟩
    case round=>
     clear HA4 HB4 HX4
     obtain ⟨i,T,M,y,cp,bt,ot,rfl,rfl,rfl,hi,hTz,hMl,hMs,HT,HM,HXt,HA,HB⟩:=hrel
     have x0:wr.cell? ⟨w.heap.size,0,none⟩=some (.slice a X.length c):=HA.out.cell 0
     by_cases hlt:i<X.length
     ·have hlt':(i:Int)<X.length:=by omega
      obtain ⟨bb,ob,rfl,hbb,z0,z1,z2,z3⟩:=(HS.out.1.belowB HB.out).node hlt
      have hE:=(HS.out.1.belowB HB.out).each i hlt
      have hbig:=HS.out.2.2 i hlt
      have hfi:=HFn.out i hlt
      have hr0:=HR0.out i hlt
      have ht2:=HT2.out i hlt
      have htk:(X.take (i+1)).map Nx.nd=(X.take i).map Nx.nd++[(X.getD i noNx).nd]:=by
       rw [List.take_add_one,List.getElem?_eq_getElem hlt,List.map_append]
       simp [hlt]
      have hlen:((X.take i).map Nx.nd).length=i:=by simp;omega
      have HPn:=rrput_any (X.getD i noNx).nd (X.getD i noNx).a1 (X.getD i noNx).a2 (X.getD i noNx).a3 (X.getD i noNx).c1 (X.getD i noNx).c2 (X.getD i noNx).c3 (i:Int) y cp bt ot M wr hE hbig hfi (by omega) HXt.out (by omega)
      generalize X.getD i noNx=x at *
      have HPc:Hid _:=HPn
      clear HPn hE
      go_wp2_with fail
      refine Calls.mono HPc.out ?_
      rintro e w5 ⟨Sx,y5,cp5,b5,o5,M5,k5,rfl,hx5,hP5,hb5⟩
      obtain ⟨hk5,-,hz5⟩:=hP5
      obtain ⟨hS5,hM5⟩:=hz5 (hk5.trans hr0)
      have hSz:Sx.size≤32020:=by
       have h1:=rB_size x.nd (i:Int) M hbig
       rw [← hS5] at h1
       have h2:Sx.size=Sx.data.toList.length:=by rw [Array.length_toList];rfl
       omega
      have A1:=fun (W:World)=>run_string_add_sum (P:=Tryz.prog) W T Sx (by omega)
      have HT5:Hid ((T++Sx).data.toList=put X.length++rAllN 0 ((X.take (i+1)).map Nx.nd) []):=by
       show _=_
       rw [ByteArray.data_append,Array.toList_append,HT.out,hS5,htk,rAllN_snoc,hlen,← HM.out,List.append_assoc,Nat.zero_add]
      have HM5:Hid (M5=rTab ((X.take (i+1)).map Nx.nd) []):=by
       show _=_
       rw [htk,rTab_snoc,← HM.out,hM5]
      have hMl5:M5.length≤2*(i+1):=by have:=itF_len x.nd.texts M;rw [← hM5] at this;omega
      have hMs5:sum6 M5≤6000*(i+1):=by
       have:=itF_sumB x.nd.texts M (big_no hbig).2.2.2
       rw [← hM5] at this
       omega
      have hTz5:(T++Sx).size≤10+32020*(i+1):=by rw [ByteArray.size_append];omega
      have HX5:Hid _:=hx5
      have HA5:Hid (AtN 24 w5 w.heap.size #[.slice (some ⟨bb,ob,none⟩) X.length c,.int .i64 r]):=AtN.belowAll HA.out hb5
      have HB5:Hid (Below w.heap.size w w5):=HB.out.trans (hb5.mono HB.out.size)
      clear HPc HT HM HXt HA HB hx5 hb5 hk5 hz5 hS5 hM5 hr0 ht2 htk hlen x0 z0 z1 z2 z3 hbb hfi hbig
      go_wp2_with fail
      go_roundw
      case rel=>exact ⟨i+1,T++Sx,M5,y5,cp5,b5,o5,by go_num,rfl,rfl,by omega,hTz5,hMl5,hMs5,HT5,HM5,HX5,HA5,HB5⟩
      case measure=>simp [intOf];omega
     ·have hlt':¬(i:Int)<X.length:=by omega
      have hall:(X.take i).map Nx.nd=X.map Nx.nd:=by rw [List.take_of_length_le (by omega)]
      have hT:=HT.out
      have hM:=HM.out
      rw [hall] at hT hM
      have HP:Hid (PuIs X r ⟨(pPut6 M).toArray⟩ T 0):=HV0.out _ _ _ ⟨0,z,HCi.out,.inr ⟨rfl,.inr ⟨HCan.out,rfl,by rw [← hM],hT⟩⟩⟩
      have HPt:Hid _:=rput6_any y cp bt ot M wr HXt.out.ptr HXt.out.at_ (by omega) (by omega)
      clear HV0 HT HM HXt hall hT hM HCi HCan HR0 HT2
      generalize (⟨(pPut6 M).toArray⟩:ByteArray)=A at *
      go_wp2_with fail
      refine Calls.mono HPt.out ?_
      rintro e w5 ⟨rfl,hb5⟩
      have HB5:Hid (Below w.heap.size w w5):=HB.out.trans (hb5.mono HB.out.size)
      clear HPt HB HA hb5
      go_wp2_with fail
      go_ret3
      exact ⟨_,_,_,rfl,HP.out,HB5.out⟩
  ·have hn0':(n != 0)=true:=by simpa using hn0
   have HP:Hid (PuIs X r ⟨#[]⟩ ⟨#[]⟩ n):=HV0.out _ _ _ ⟨n,z,HCi.out,.inl ⟨hn0,rfl,rfl,rfl⟩⟩
   clear HV0 HCi HT2 HR2
   go_wp2_with fail
   go_ret3
   exact ⟨_,_,_,rfl,HP.out,HB2.out⟩
 ·have ht':(te != 0)=true:=by simpa using ht
  have HP:Hid (PuIs X r ⟨#[]⟩ ⟨#[]⟩ te):=(HV.out _ _ _).2 (.inl ⟨ht,rfl,rfl,rfl⟩)
  clear HV HTe HRe
  go_wp2_with fail
  go_ret3
  exact ⟨_,_,_,rfl,HP.out,HB1.out⟩
end Go.Proofs.YtcgjgjjegnofeaaGreatDoor
