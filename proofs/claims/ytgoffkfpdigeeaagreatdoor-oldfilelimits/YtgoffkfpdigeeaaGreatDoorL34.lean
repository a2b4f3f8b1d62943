import Derived.Test.YtgoffkfpdigeeaaGreatDoorL20
import Derived.Test.YtgoffkfpdigeeaaGreatDoorL17
import Derived.Test.YtgoffkfpdigeeaaGreatDoorL28
import Derived.Test.YtgoffkfpdigeeaaGreatDoorL29
import Derived.Test.YtgoffkfpdigeeaaGreatDoorL33
import Derived.Stop.Joined
import Derived.LaidMore
import Derived.SevenTiedAt
import Derived.Test.YtgoffkfpdigeeaaGreatDoorL30
import Derived.Test.YtgoffkfpdigeeaaGreatDoorL13
namespace Go.Proofs.YtgoffkfpdigeeaaGreatDoor
open Go.RowKit
def tcFo (N:Nx) (b o n c i bx:Nat) (sb:Option Addr) (ci:List Int) (cap:Nat) (ct cl cm q:Int):Nat→Value→World→Prop
 | 0,v,_=>v=.pointer (some ⟨bx,0,none⟩)
 | 1,v,_=>v=.slice (some ⟨b,o,none⟩) n c
 | 2,v,_=>v=.int .i64 (i:Nat)
 | 3,v,_=>v=.pointer (some ⟨b,o+i*4,none⟩)
 | 4,v,_=>v=.agg #[.int .i64 N.nd.kind,.slice N.a1 N.nd.ints.length N.c1,.slice N.a2 N.nd.texts.length N.c2,.slice N.a3 N.nd.kids.length N.c3]
 | 5,v,_=>v=.agg #[.slice sb ci.length cap,.int .i64 ct,.int .i64 cl,.int .i64 cm]
 | 6,v,_=>v=.int .i64 q
 | 7,v,_=>v=.int .i64 q
 | _,_,_=>True
theorem tcFo_stab (N:Nx) (b o n c i bx:Nat) (sb:Option Addr) (ci:List Int) (cap:Nat) (ct cl cm q:Int):∀ix jx v w w',ix≠jx→World.grownBy w w' (if ix=99 then none else none)→tcFo N b o n c i bx sb ci cap ct cl cm q jx v w→tcFo N b o n c i bx sb ci cap ct cl cm q jx v w':=by
 intro ix jx v w w' hne hg h
 match jx,h with
 | 0,h|1,h|2,h|3,h|4,h|5,h|6,h|7,h=>exact h
 | n+8,_=>trivial
set_option maxRecDepth 10000 in
set_option maxHeartbeats 1000000 in
theorem rtyped1_any (X:List Nx) (a:Option Addr) (c:Nat) (r:Int) (w:World) (h:ScAt w a X) (hX:Small X) (hF:FnX X) :
  Calls Tryz.prog 42 #[.agg #[.slice a X.length c,.int .i64 r],.int .i64 1] w fun e w'=>e=.returned (.tuple #[.int .i64 (tyEo X),.int .i64 (tyZo X)])∧Below w.heap.size w w':=by
 have HS:Hid (ScAt w a X):=h
 have hn:=hX.1
 have HC:Hid (∀(i:Nat),i<X.length→∀(W:World) (S:Sp) (sb:Option Addr) (d:Nat),Below w.heap.size w W→LsAt W sb (iV S.ints)→Calls Tryz.prog 90 #[.agg #[.int .i64 (X.getD i noNx).nd.kind,.slice (X.getD i noNx).a1 (X.getD i noNx).nd.ints.length (X.getD i noNx).c1,.slice (X.getD i noNx).a2 (X.getD i noNx).nd.texts.length (X.getD i noNx).c2,.slice (X.getD i noNx).a3 (X.getD i noNx).nd.kids.length (X.getD i noNx).c3],.agg #[.slice sb S.ints.length d,.int .i64 S.texts,.int .i64 S.least,.int .i64 S.most]] W fun e w'=>e=.returned (.int .i64 (chkN (X.getD i noNx).nd S.ints S.texts S.least S.most))∧Below W.heap.size W w'):=
  fun i hi W S sb d hW hb=>by
   have hgr:=big_no (hX.2 i hi)
   have hN:=(h.belowB hW).each i hi
   exact frcheck_any _ S.ints S.texts S.least S.most _ _ _ sb _ _ _ d W hN hb (hF i hi) hgr.1 hgr.2.1 hgr.2.2.2
 have HB0:Hid (Below w.heap.size w (w.alloc (.cells #[.slice a X.length c,.int .i64 r] 24))):=(Below.refl w.heap.size w).alloc (Nat.le_refl _) _
 have HA0:Hid (AtN 24 (w.alloc (.cells #[.slice a X.length c,.int .i64 r] 24)) w.heap.size #[.slice a X.length c,.int .i64 r]):=AtN.new w 24 _
 have HE:Hid (tyEo X=(tyGo X 0).1∧tyZo X=(tyGo X 0).2):=⟨rfl,rfl⟩
 have HI0:Hid (tyGo X 0=tyGo (X.drop 0) 0):=rfl
 have HST:Hid (∀i,i<X.length→tyGo (X.drop i) i=if tyNo (X.getD i noNx).nd=0 then tyGo (X.drop (i+1)) (i+1) else (tyNo (X.getD i noNx).nd,(i:Int))):=fun i hi=>tyGo_at X i hi
 have HTN:Hid (∀N:Nd,tyNo N=if (oldSp N.kind).ok=false then 9 else chkN N (oldSp N.kind).ints (oldSp N.kind).texts (oldSp N.kind).least (oldSp N.kind).most):=fun _=>rfl
 have HEN:Hid (tyGo (X.drop X.length) X.length=(0,0)):=by show _=_;rw [List.drop_length];rfl
 generalize tyGo X 0=R at *
 generalize tyEo X=E at *
 generalize tyZo X=Z at *
 obtain ⟨R1,R2⟩:=R
 obtain ⟨rfl,rfl⟩:=HE.out
 clear h hX hF HE
 go_enter Tryz.func42,Tryz.ntmps42
 go_wp2_with fail
 go_loopw [6] (fun iv wr=>∃i:Nat,iv=.int .i64 i∧i≤X.length∧Hid ((E,Z)=tyGo (X.drop i) i)∧Hid (AtN 24 wr w.heap.size #[.slice a X.length c,.int .i64 r])∧Hid (Below w.heap.size w wr)) (fun iv _=>X.length-(intOf iv).toNat)
 case atStart=>exact ⟨0,rfl,by omega,HI0,HA0,HB0⟩
 case round=>
  clear HI0 HB0 HA0
  obtain ⟨i,rfl,hi,HI,HA,HB⟩:=hrel
  have x0:wr.cell? ⟨w.heap.size,0,none⟩=some (.slice a X.length c):=HA.out.cell 0
  by_cases hlt:i<X.length
  ·have hlt':(i:Int)<X.length:=by omega
   have HE:Hid (∀W,Below w.heap.size w W→∃b o,a=some ⟨b,o,none⟩∧b<w.heap.size∧W.cell? ⟨b,o+i*4,none⟩=some (.int .i64 (X.getD i noNx).nd.kind)∧W.cell? ⟨b,o+i*4+1,none⟩=some (.slice (X.getD i noNx).a1 (X.getD i noNx).nd.ints.length (X.getD i noNx).c1)∧W.cell? ⟨b,o+i*4+2,none⟩=some (.slice (X.getD i noNx).a2 (X.getD i noNx).nd.texts.length (X.getD i noNx).c2)∧W.cell? ⟨b,o+i*4+3,none⟩=some (.slice (X.getD i noNx).a3 (X.getD i noNx).nd.kids.length (X.getD i noNx).c3)):=fun W hW=>by
    obtain ⟨b,o,e,hb,_⟩:=HS.out.node hlt
    have hs:=HS.out.belowB hW
    obtain ⟨b',o',e',_,d⟩:=hs.node hlt
    rw [e] at e'
    cases e'
    exact ⟨b,o,e,hb,d⟩
   have HC1:Hid _:=HC.out i hlt
   have HS1:Hid _:=HST.out i hlt
   have HT1:Hid _:=HTN.out (X.getD i noNx).nd
   generalize X.getD i noNx=N at *
   obtain ⟨b,o,rfl,hbl,d0,d1,d2,d3⟩:=HE.out wr HB.out
   have HSp:Hid (Calls Tryz.prog 80 #[.int .i64 1,.int .i64 N.nd.kind] wr fun e w'=>SpIs wr w' e (oldSp N.nd.kind)):=rspec1_any N.nd.kind wr
   generalize oldSp N.nd.kind=S at *
   obtain ⟨ok,ci,ct,cl,cm⟩:=S
   clear HC HST HTN HS
   generalize tyNo N.nd=t at *
   go_wp2_with fail
   refine Calls.mono HSp.out ?_
   rintro e w1 ⟨v,rfl,hI,hb1⟩
   obtain ⟨sb,cap,rfl⟩:=own_shape7 hI
   have HL:Hid (LsAt w1 sb (iV ci)):=LsAt.of_own hI
   have HB1:Hid (Below w.heap.size w (w1.alloc (.cells #[.slice sb ci.length cap,.int .i64 ct,.int .i64 cl,.int .i64 cm] 117))):=(HB.out.trans (hb1.mono HB.out.size)).alloc (by have:=HB.out.size;have:=hb1.size;omega) _
   have HA1:Hid (AtN 24 (w1.alloc (.cells #[.slice sb ci.length cap,.int .i64 ct,.int .i64 cl,.int .i64 cm] 117)) w.heap.size #[.slice (some ⟨b,o,none⟩) X.length c,.int .i64 r]):=(AtN.belowAll HA.out hb1).alloc _
   have HG1:Hid (AtN 117 (w1.alloc (.cells #[.slice sb ci.length cap,.int .i64 ct,.int .i64 cl,.int .i64 cm] 117)) w1.heap.size #[.slice sb ci.length cap,.int .i64 ct,.int .i64 cl,.int .i64 cm]):=AtN.new w1 117 _
   have HL1:Hid (LsAt (w1.alloc (.cells #[.slice sb ci.length cap,.int .i64 ct,.int .i64 cl,.int .i64 cm] 117)) sb (iV ci)):=HL.out.alloc _
   have hs1:=hb1.size
   clear HSp hI hb1 HL HA d0 d1 d2 d3 x0
   dsimp only at *
   cases ok with
   | false=>
    have ht:t=9:=HT1.out
    have HI1:(E,Z)=(t,(i:Int)):=by
     have h1:=Hid.out HS1
     rw [if_neg (by omega)] at h1
     exact HI.out.trans h1
    obtain ⟨rfl,rfl⟩:=Prod.mk.inj HI1
    subst ht
    clear HI HS1 HI1 HT1 HC1 HE HL1 HG1 HA1 HB
    go_wp2_with fail
    go_ret2
    exact ⟨rfl,HB1.out⟩
   | true=>
    have ht:t=chkN N.nd ci ct cl cm:=HT1.out
    obtain ⟨q,hq⟩:∃q,chkN N.nd ci ct cl cm=q:=⟨_,rfl⟩
    have HCC0:Hid (∀W,Below w.heap.size w W→LsAt W sb (iV ci)→Calls Tryz.prog 90 #[.agg #[.int .i64 N.nd.kind,.slice N.a1 N.nd.ints.length N.c1,.slice N.a2 N.nd.texts.length N.c2,.slice N.a3 N.nd.kids.length N.c3],.agg #[.slice sb ci.length cap,.int .i64 ct,.int .i64 cl,.int .i64 cm]] W fun e w'=>e=.returned (.int .i64 q)∧Below W.heap.size W w'):=fun W hW hb=>by
     have:=Hid.out HC1 W ⟨true,ci,ct,cl,cm⟩ sb cap hW hb
     rw [← hq]
     exact this
    have htq:t=q:=ht.trans hq
    subst htq
    clear HC1 hq ht HT1
    go_wp2_with fail
    refine facts_region none 99 (tcFo N b o X.length c i w.heap.size sb ci cap ct cl cm t) (by kernel_rfl) (by kernel_rfl) (tcFo_stab N b o X.length c i w.heap.size sb ci cap ct cl cm t) ?step ?fin
    case step=>
     intro i' o' ho act W hg hstill hoff hdep K hK
     have hb:=below_of_grown hg
     have HBW:Hid (Below w.heap.size w W):=HB1.out.trans (hb.mono HB1.out.size)
     have A0:=AtN.belowAll HA1.out hb
     have x0:W.cell? ⟨w.heap.size,0,none⟩=some (.slice (some ⟨b,o,none⟩) X.length c):=A0.cell 0
     have A1:=AtN.belowAll HG1.out hb
     have y0:W.cell? ⟨w1.heap.size,0,none⟩=some (.slice sb ci.length cap):=A1.cell 0
     have y1:W.cell? ⟨w1.heap.size,1,none⟩=some (.int .i64 ct):=A1.cell 1
     have y2:W.cell? ⟨w1.heap.size,2,none⟩=some (.int .i64 cl):=A1.cell 2
     have y3:W.cell? ⟨w1.heap.size,3,none⟩=some (.int .i64 cm):=A1.cell 3
     obtain ⟨b',o',e',_,d0,d1,d2,d3⟩:=HE.out W HBW.out
     cases e'
     have HCC:Hid _:=HCC0.out W HBW.out (LsAt.belowB HL1.out hb)
     clear hb A0 A1 HCC0 HE HL1 HG1 HA1 HB1 HB HBW HI HS1
     rcases i' with _|_|_|_|_|_|_|_|i'
     ·obtain rfl:=Option.some.inj ho
      have t2:act.tmps[2]?.getD undef=.pointer (some ⟨w.heap.size,0,none⟩):=hoff 2 (by kernel_rfl)
      clear hdep hoff hg hstill HCC
      go_simp
      exact hK _ _ (grown_refl _ _) rfl
     ·obtain rfl:=Option.some.inj ho
      have e0:act.tmps[31]?.getD undef=.pointer (some ⟨w.heap.size,0,none⟩):=hdep 0 _ (by kernel_rfl) rfl
      clear hdep hoff hg hstill HCC
      go_simp
      exact hK _ _ (grown_refl _ _) rfl
     ·obtain rfl:=Option.some.inj ho
      have t6:act.tmps[6]?.getD undef=.int .i64 (i:Nat):=hoff 6 (by kernel_rfl)
      clear hdep hoff hg hstill HCC
      go_simp
      exact hK _ _ (grown_refl _ _) rfl
     ·obtain rfl:=Option.some.inj ho
      have e1:act.tmps[32]?.getD undef=.slice (some ⟨b,o,none⟩) X.length c:=hdep 1 _ (by kernel_rfl) rfl
      have e2:act.tmps[33]?.getD undef=.int .i64 (i:Nat):=hdep 2 _ (by kernel_rfl) rfl
      clear hdep hoff hg hstill HCC
      go_simp
      exact hK _ _ (grown_refl _ _) rfl
     ·obtain rfl:=Option.some.inj ho
      have e3:act.tmps[34]?.getD undef=.pointer (some ⟨b,o+i*4,none⟩):=hdep 3 _ (by kernel_rfl) rfl
      clear hdep hoff hg hstill HCC
      go_simp
      exact hK _ _ (grown_refl _ _) rfl
     ·obtain rfl:=Option.some.inj ho
      have t7:act.tmps[7]?.getD undef=.pointer (some ⟨w1.heap.size,0,none⟩):=hoff 7 (by kernel_rfl)
      clear hdep hoff hg hstill HCC
      go_simp
      exact hK _ _ (grown_refl _ _) rfl
     ·obtain rfl:=Option.some.inj ho
      have e4:act.tmps[35]?.getD undef=.agg #[.int .i64 N.nd.kind,.slice N.a1 N.nd.ints.length N.c1,.slice N.a2 N.nd.texts.length N.c2,.slice N.a3 N.nd.kids.length N.c3]:=hdep 4 _ (by kernel_rfl) rfl
      have e5:act.tmps[36]?.getD undef=.agg #[.slice sb ci.length cap,.int .i64 ct,.int .i64 cl,.int .i64 cm]:=hdep 5 _ (by kernel_rfl) rfl
      clear hdep hoff hg hstill
      go_simp
      refine Calls.mono HCC.out ?_
      rintro e w' ⟨rfl,hb⟩
      exact hK _ _ (grown_of_below hb _) rfl
     ·obtain rfl:=Option.some.inj ho
      have e6:act.tmps[37]?.getD undef=.int .i64 t:=hdep 6 _ (by kernel_rfl) rfl
      clear hdep hoff hg hstill HCC
      go_simp
      exact hK _ _ (grown_refl _ _) rfl
     ·exact absurd ho (by simp)
    case fin=>
     intro V W hg hF
     have hb:=below_of_grown hg
     have HB2:Hid (Below w.heap.size w W):=HB1.out.trans (hb.mono HB1.out.size)
     have HA2:Hid (AtN 24 W w.heap.size #[.slice (some ⟨b,o,none⟩) X.length c,.int .i64 r]):=AtN.belowAll HA1.out hb
     have v9:V (some 9)=.int .i64 t:=hF 7 _ rfl
     clear hF hg hb HCC0 HE HL1 HG1 HA1 HB1 HB
     simp only [fillA,Act.put,List.setIfInBounds_toArray,List.set_cons_zero,List.set_cons_succ,v9]
     generalize V (some 31)=z31
     generalize V (some 32)=z32
     generalize V (some 33)=z33
     generalize V (some 34)=z34
     generalize V (some 35)=z35
     generalize V (some 36)=z36
     generalize V (some 37)=z37
     clear v9
     by_cases ht:t=0
     ·have HI1:Hid ((E,Z)=tyGo (X.drop (i+1)) (i+1)):=by
       have h1:=Hid.out HS1
       rw [if_pos ht] at h1
       exact HI.out.trans h1
      clear HI HS1
      go_wp2_with fail
      go_roundw
      case rel=>exact ⟨i+1,by go_num,by omega,HI1,HA2,HB2⟩
      case measure=>simp [intOf];omega
     ·have HI1:(E,Z)=(t,(i:Int)):=by
       have h1:=Hid.out HS1
       rw [if_neg ht] at h1
       exact HI.out.trans h1
      obtain ⟨rfl,rfl⟩:=Prod.mk.inj HI1
      clear HI HS1 HI1
      go_wp2_with fail
      go_ret2
      exact ⟨rfl,HB2.out⟩
  ·have hlt':¬(i:Int)<X.length:=by omega
   obtain rfl:i=X.length:=by omega
   have HI1:(E,Z)=((0:Int),(0:Int)):=HI.out.trans HEN.out
   obtain ⟨rfl,rfl⟩:=Prod.mk.inj HI1
   clear HI HI1 HEN HC HST HTN HS
   go_wp2_with fail
   go_ret2
   exact ⟨rfl,HB.out⟩
end Go.Proofs.YtgoffkfpdigeeaaGreatDoor
namespace Go.Proofs.YtgoffkfpdigeeaaGreatDoor
open Go.RowKit Go.Maps Go.WideMaps Go.Sort
end Go.Proofs.YtgoffkfpdigeeaaGreatDoor
namespace Go.Proofs.YtgoffkfpdigeeaaGreatDoor
open Go.RowKit Go.Maps Go.WideMaps Go.Sort
def FowOut (X:List Nx) (r:Int) (w w':World) (e:Ending):Prop:=∃b,e=.returned (.bool b)∧(b=true↔FowIs X r)∧Below w.heap.size w w'
def bhAt (X:List Nx) (i:Nat):Prop:=∀j,j<(X.getD i noNx).nd.kids.length→¬(X.getD i noNx).nd.kids.getD j 0≤(i:Int)
theorem bhAt_iff {X:List Nx} {i:Nat}:bhAt X i↔∀z ∈ (X.getD i noNx).nd.kids,(i:Int)<z:=by
 unfold bhAt
 constructor
 ·intro h z hz
  obtain ⟨j,hj,rfl⟩:=List.getElem_of_mem hz
  have:=h j hj
  rw [List.getD_eq_getElem?_getD,List.getElem?_eq_getElem hj] at this
  simp only [Option.getD_some] at this
  omega
 ·intro h j hj
  have:=h _ (List.getElem_mem hj)
  rw [List.getD_eq_getElem?_getD,List.getElem?_eq_getElem hj]
  simp only [Option.getD_some]
  omega
theorem fow_of {X:List Nx} {r:Int} (hR:RightIs X r) (h0:r=0) (h:∀i,i<X.length→bhAt X i):FowIs X r:=⟨hR,h0,fun i hi=>bhAt_iff.1 (h i hi)⟩
theorem fow_no {X:List Nx} {r:Int} {i:Nat} (hi:i<X.length) (h:¬bhAt X i):¬FowIs X r:=fun q=>h (bhAt_iff.2 (q.2.2 i hi))
set_option maxRecDepth 10000 in
set_option maxHeartbeats 1000000 in
theorem isfow_any (X:List Nx) (a:Option Addr) (c:Nat) (r:Int) (w:World) (h:ScAt w a X) (hX:Small X) (hR:RightIs X r) :
  Calls Tryz.prog 59 #[.agg #[.slice a X.length c,.int .i64 r]] w fun e w'=>FowOut X r w w' e:=by
 have HA0:Hid (AtN 24 (w.alloc (.cells #[.slice a X.length c,.int .i64 r] 24)) w.heap.size #[.slice a X.length c,.int .i64 r]):=AtN.new w 24 _
 have HB0:Hid (Below w.heap.size w (w.alloc (.cells #[.slice a X.length c,.int .i64 r] 24))):=(Below.refl _ _).alloc (Nat.le_refl _) _
 have HS:Hid _:=And.intro h hX
 have HR:Hid (RightIs X r):=hR
 have hn:=hX.1
 clear h hX hR
 by_cases hr:r=0
 ·subst hr
  go_enter Tryz.func59,Tryz.ntmps59
  go_wp2_with fail
  go_loopw [13] (fun iv wr=>∃i:Nat,iv=.int .i64 i∧i≤X.length∧Hid (∀k,k<i→bhAt X k)∧AtN 24 wr w.heap.size #[.slice a X.length c,.int .i64 0]∧Below w.heap.size w wr) (fun iv _=>X.length-(intOf iv).toNat)
  case atStart=>exact ⟨0,rfl,by omega,fun k hk=>by omega,HA0.out,HB0.out⟩
  case round=>
   clear HA0 HB0
   obtain ⟨i,rfl,hi,HI,n1,hb⟩:=hrel
   by_cases hlt:i<X.length
   ·have hlt':(i:Int)<X.length:=by omega
    have hk:(X.getD i noNx).nd.kids.length≤3000:=HS.out.2.kids hlt
    obtain ⟨b,o,rfl,hbl,d0,d1,d2,d3⟩:=(ScAt.belowB HS.out.1 hb).node hlt
    have HE:Hid (∀W,Below w.heap.size w W→LsAt W (X.getD i noNx).a3 (iV (X.getD i noNx).nd.kids)):=fun W hW=>((ScAt.belowB HS.out.1 hW).each i hlt).k
    have HO:Hid (bhAt X i↔∀j,j<(X.getD i noNx).nd.kids.length→¬(X.getD i noNx).nd.kids.getD j 0≤(i:Int)):=Iff.rfl
    generalize X.getD i noNx=N at *
    have HN:Hid _:=And.intro n1 hb
    have hbs:=hb.size
    clear n1 hb HS
    go_wp2_with fail
    go_loopw [21] (fun jv wr2=>∃j:Nat,jv=.int .i64 j∧j≤N.nd.kids.length∧Hid (∀k,k<j→¬N.nd.kids.getD k 0≤(i:Int))∧AtN 24 wr2 w.heap.size #[.slice (some ⟨b,o,none⟩) X.length c,.int .i64 0]∧Below w.heap.size w wr2) (fun jv _=>N.nd.kids.length-(intOf jv).toNat)
    case atStart=>exact ⟨0,rfl,by omega,fun k hk=>by omega,AtN.alloc HN.out.1 _,HN.out.2.alloc HN.out.2.size _⟩
    case round=>
     clear HN d0 d1 d2 d3 hbl hbs
     obtain ⟨j,rfl,hj,HJ,n1,hb⟩:=hrel
     by_cases hjl:j<N.nd.kids.length
     ·have hjl':(j:Int)<N.nd.kids.length:=by omega
      obtain ⟨b2,o2,e2,hb2,d4⟩:=(LsAt.at (HE.out wr hb) (iV_at _ j hjl))
      have HV:Hid (¬N.nd.kids.getD j 0≤(i:Int)→∀k,k<j+1→¬N.nd.kids.getD k 0≤(i:Int)):=fun P k hk=>by
       by_cases e:k=j
       ·rw [e];exact P
       ·exact HJ.out k (by omega)
      have HW:Hid (N.nd.kids.getD j 0≤(i:Int)→¬FowIs X 0):=fun q=>fow_no hlt fun g=>by have:=HO.out.1 g j hjl;omega
      generalize N.nd.kids.getD j 0=K at *
      rw [e2]
      have HN:Hid _:=And.intro n1 hb
      clear n1 hb HI HJ HE HO
      by_cases hP:K≤(i:Int)
      ·have HW2:Hid (¬FowIs X 0):=HW.out hP
       clear HV HW
       go_wp2_with fail
       go_ret
       exact ⟨false,rfl,⟨fun p=>absurd p (by simp),fun p=>absurd p HW2.out⟩,HN.out.2⟩
      ·have HV2:Hid _:=HV.out hP
       have hP':¬K≤(i:Int):=hP
       clear HV HW
       go_wp2_with fail
       go_roundw
       case rel=>exact ⟨j+1,by go_num,by omega,HV2.out,HN.out.1,HN.out.2⟩
       case measure=>simp [intOf];omega
     ·have hjl':¬(j:Int)<N.nd.kids.length:=by omega
      have HV:Hid (∀k,k<i+1→bhAt X k):=fun k hk=>by
       by_cases e:k=i
       ·rw [e];exact HO.out.2 fun q hq=>by have:=HJ.out q (by omega);omega
       ·exact HI.out k (by omega)
      have HN:Hid _:=And.intro n1 hb
      clear n1 hb HI HJ HE HO
      go_wp2_with fail
      go_roundw
      case rel=>exact ⟨i+1,by go_num,by omega,HV.out,HN.out.1,HN.out.2⟩
      case measure=>simp [intOf];omega
   ·have hlt':¬(i:Int)<X.length:=by omega
    have HV:Hid (FowIs X 0):=fow_of HR.out rfl (fun k hk=>HI.out k (by omega))
    have HN:Hid _:=hb
    clear HI n1 hb HS HR
    go_wp2_with fail
    go_ret
    exact ⟨true,rfl,⟨fun _=>HV.out,fun _=>rfl⟩,HN.out⟩
 ·have HF:Hid (¬FowIs X r):=fun p=>hr p.2.1
  have hr':¬r=0:=hr
  clear HS HR HA0
  go_enter Tryz.func59,Tryz.ntmps59
  go_wp2_with fail
  go_ret
  exact ⟨false,rfl,⟨fun p=>absurd p (by simp),fun p=>absurd p HF.out⟩,HB0.out⟩
set_option maxRecDepth 10000 in
set_option maxHeartbeats 1000000 in
theorem ois_any (X:List Nx) (a:Option Addr) (c:Nat) (r:Int) (w:World) (h:ScAt w a X) (hX:Small X) :
  Calls Tryz.prog 27 #[.agg #[.slice a X.length c,.int .i64 r]] w fun e w'=>FowOut X r w w' e:=by
 have HA0:Hid (AtN 24 (w.alloc (.cells #[.slice a X.length c,.int .i64 r] 24)) w.heap.size #[.slice a X.length c,.int .i64 r]):=AtN.new w 24 _
 have HB0:Hid (Below w.heap.size w (w.alloc (.cells #[.slice a X.length c,.int .i64 r] 24))):=(Below.refl _ _).alloc (Nat.le_refl _) _
 have HC:Hid (∀W,Below w.heap.size w W→Calls Tryz.prog 56 #[.agg #[.slice a X.length c,.int .i64 r]] W fun e w'=>CheckOut X r W w' e):=fun W hW=>check_any X a c r W (h.belowB hW) hX
 have HF:Hid (RightIs X r→∀W,Below w.heap.size w W→Calls Tryz.prog 59 #[.agg #[.slice a X.length c,.int .i64 r]] W fun e w'=>FowOut X r W w' e):=fun hR W hW=>isfow_any X a c r W (h.belowB hW) hX hR
 clear h hX
 go_enter Tryz.func27,Tryz.ntmps27
 go_wp2_with fail
 refine Calls.mono (HC.out _ HB0.out) ?_
 rintro e w1 ⟨k,y,rfl,hc,hb1⟩
 have HA1:Hid (AtN 24 w1 w.heap.size #[.slice a X.length c,.int .i64 r]):=AtN.belowAll HA0.out hb1
 have HB1:Hid (Below w.heap.size w w1):=HB0.out.trans (hb1.mono HB0.out.size)
 have HCI:Hid (CheckIs X r k y):=hc
 clear HA0 HB0 HC hb1 hc
 by_cases hk:k=0
 ·subst hk
  have hR:=HCI.out.right.1 rfl
  have HF1:Hid _:=HF.out hR w1 HB1.out
  have x0:w1.cell? ⟨w.heap.size,0,none⟩=some (.slice a X.length c):=HA1.out.cell 0
  have x1:w1.cell? ⟨w.heap.size,1,none⟩=some (.int .i64 r):=HA1.out.cell 1
  clear HF HCI HA1 hR
  go_wp2_with fail
  refine Calls.mono (Hid.out HF1) ?_
  rintro e w2 ⟨q,rfl,hq,hb2⟩
  have HB2:Hid (Below w.heap.size w w2):=HB1.out.trans (hb2.mono HB1.out.size)
  have HQ:Hid (q=true↔FowIs X r):=hq
  clear HF1 HB1 hb2 hq x0 x1
  go_wp2_with fail
  go_ret
  exact ⟨q,rfl,HQ.out,HB2.out⟩
 ·have HN:Hid (¬FowIs X r):=fun p=>hk (HCI.out.right.2 p.1)
  clear HF HCI HA1
  go_wp2_with fail
  go_ret
  exact ⟨false,rfl,⟨fun p=>absurd p (by simp),fun p=>absurd p HN.out⟩,HB1.out⟩
end Go.Proofs.YtgoffkfpdigeeaaGreatDoor
namespace Go.Proofs.YtgoffkfpdigeeaaGreatDoor
open Go.RowKit Go.Maps Go.WideMaps Go.Sort
theorem sec_at1 {W:World} {g:Nat} {R:ByteArray} (h:AtN 55 W g #[.int .i64 1,.string R]):SecAt W g 0 (oS R):=fun i hi=>by
 match i,hi with
 | 0,_=>exact ⟨h.lt,h.cell 0,h.cell 1⟩
def SoOut (X:List Nx) (r:Int) (l:Lm) (w w':World) (e:Ending):Prop:=∃(B:ByteArray) (k:Int),e=.returned (.tuple #[.string B,.int .i64 k])∧SoIs X r l B k∧Below w.heap.size w w'
set_option maxRecDepth 10000 in
set_option maxHeartbeats 1000000 in
theorem robytes_any (X:List Nx) (a:Option Addr) (c:Nat) (r:Int) (w:World) (h:ScAt w a X) (hX:Small X) (hF:FnX X) (hW:tyEo X=0) (hR:RightIs X r) (hz:(oC (X.map Nx.nd)).size≤4000000) :
  Calls Tryz.prog 19 #[.agg #[.slice a X.length c,.int .i64 r]] w fun e w'=>e=.returned (.string (oF (X.map Nx.nd)))∧Below w.heap.size w w':=by
 have HB0:Hid (Below w.heap.size w (w.alloc (.cells #[.slice a X.length c,.int .i64 r] 24))):=(Below.refl _ _).alloc (Nat.le_refl _) _
 have HC:Hid (∀W,Below w.heap.size w W→Calls Tryz.prog 49 #[.agg #[.slice a X.length c,.int .i64 r]] W fun e w'=>e=.returned (.string (oC (X.map Nx.nd)))∧Below W.heap.size W w'):=fun W hb=>rrec_any X a c r W (h.belowB hb) hX hF hW hR
 have HS:Hid (∀(W:World) (g:Nat),AtN 55 W g #[.int .i64 1,.string (oC (X.map Nx.nd))]→Calls Tryz.prog 23 #[.string ⟨#[68,73,79,82]⟩,.int .i64 1,.slice (some ⟨g,0,none⟩) 1 1] W fun e w'=>e=.returned (.tuple #[.string (oF (X.map Nx.nd)),.int .i64 0])∧Below W.heap.size W w'):=fun W g hs=>by
  have h:=rput_any mD 1 (some ⟨g,0,none⟩) 1 g 0 (oS (oC (X.map Nx.nd))) W (fun _=>rfl) (sec_at1 hs) (fun s q=>by
   simp only [oS,List.mem_cons,List.not_mem_nil,or_false] at q
   subst q
   exact hz)
  rw [oS_put (by omega)] at h
  exact h
 clear h hX hF hW hR hz
 generalize oF (X.map Nx.nd)=F at *
 generalize oC (X.map Nx.nd)=C at *
 go_enter Tryz.func19,Tryz.ntmps19
 go_wp2_with fail
 refine Calls.mono (HC.out _ HB0.out) ?_
 rintro e w2 ⟨rfl,hb1⟩
 have HB2:Hid (Below w.heap.size w w2):=HB0.out.trans (hb1.mono HB0.out.size)
 have HSc:Hid (∀o:Obj,o=.cells #[.int .i64 1,.string C] 55→Below w.heap.size w (w2.alloc o)∧Calls Tryz.prog 23 #[.string ⟨#[68,73,79,82]⟩,.int .i64 1,.slice (some ⟨w2.heap.size,0,none⟩) 1 1] (w2.alloc o) fun e w'=>e=.returned (.tuple #[.string F,.int .i64 0])∧Below (w2.alloc o).heap.size (w2.alloc o) w'):=by
  rintro _ rfl
  exact ⟨HB2.out.alloc HB2.out.size _,HS.out _ _ (AtN.new w2 55 _)⟩
 clear HB0 HC hb1 HS
 go_wp2_with fail
 obtain ⟨hb3,hc3⟩:=HSc.out _ rfl
 refine Calls.mono hc3 ?_
 rintro e w4 ⟨rfl,hb4⟩
 have HB4:Hid (Below w.heap.size w w4):=hb3.trans (hb4.mono hb3.size)
 clear HSc hb3 hc3 hb4
 go_wp2_with fail
 go_ret
 exact ⟨rfl,HB4.out⟩
end Go.Proofs.YtgoffkfpdigeeaaGreatDoor
namespace Go.Proofs.YtgoffkfpdigeeaaGreatDoor
open Go.ChangeShapes Go.WideShapes Go.ChangeAt Go.RowKit Go.Joins Go.Deep Go.Maps Go.WideMaps Go.Sort
structure Tabs16 (w:World):Prop where
 o:TabAt w 0 oldC
 s:TabAt w 1 spansC
theorem Tabs16.on {w w':World} (h:Tabs16 w) (hb:Below w.heap.size w w'):Tabs16 w':=⟨h.o.below hb,h.s.below hb⟩
def laid16:List (String × DataW Unit):=Rows.oldfileSavesRow.laid
theorem tO16:(Tryz.prog.globals[0]?).map (·.type)=some 210:=by kernel_rfl
theorem tS16:(Tryz.prog.globals[1]?).map (·.type)=some 222:=by kernel_rfl
theorem tabs16_of {W:World} (h:laidMetH Tryz.prog laid16 W):Tabs16 W:=by
 rw [MakeChecks.laidMetH_plain _ _ _ (by kernel_rfl)] at h
 obtain ⟨ps,⟨g0,t0,cs0,f0,p0,q0,hg0,ht0,hv0,hd0,⟨g1,t1,cs1,f1,p1,q1,hg1,ht1,hv1,hd1,_,_⟩,_⟩,_,_⟩:=h
 exact ⟨tab_of (n:=8) (by kernel_rfl) tO16 (by kernel_rfl) hg0 ht0 hv0 hd0,tab_of (n:=8) (by kernel_rfl) tS16 (by kernel_rfl) hg1 ht1 hv1 hd1⟩
theorem door16 (os:Os) (args:Array Value):laidMetH Tryz.prog laid16 ((World.doorLaid Tryz.prog 400 os).forCall (fun _ _=>0) ⟨#[],args,[]⟩).memory:=
 laidMetH_of_parts3 (fuel:=8) (laidMet_of_run' 8 (by kernel_rfl) (by kernel_rfl)) (by kernel_rfl) (by kernel_rfl)
end Go.Proofs.YtgoffkfpdigeeaaGreatDoor
