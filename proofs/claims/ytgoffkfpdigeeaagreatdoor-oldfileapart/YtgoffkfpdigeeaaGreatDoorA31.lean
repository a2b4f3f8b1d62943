import Derived.Test.YtgoffkfpdigeeaaGreatDoorA25
import Derived.Test.YtgoffkfpdigeeaaGreatDoorA30
import Derived.Stop.Joined
import Derived.LaidMore
import Derived.SevenTiedAt
import Derived.Test.YtgoffkfpdigeeaaGreatDoorA26
import Derived.Test.YtgoffkfpdigeeaaGreatDoorA12
import Derived.Test.YtgoffkfpdigeeaaGreatDoorA17
import Derived.Test.YtgoffkfpdigeeaaGreatDoorA15
namespace Go.Proofs.YtgoffkfpdigeeaaGreatDoor
open Go.RowKit Go.Maps Go.WideMaps Go.Sort
def FowOut (X:List Nx) (r:Int) (w w':World) (e:Ending):Prop:=∃b,e=.returned (.bool b)∧(b=true↔FowIs X r)∧Below w.heap.size w w'
def bhAt (X:List Nx) (i:Nat):Prop:=∀j,j<(X.getD i noNx).nd.kids.length→¬(X.getD i noNx).nd.kids.getD j 0≤(i:Int)
theorem bhAt_iff {X:List Nx} {i:Nat}:bhAt X i↔∀z ∈ (X.getD i noNx).nd.kids,(i:Int)<z:=by
 unfold bhAt
 constructor
 ·intro h z hz
  obtain ⟨j,hj,rfl⟩:=List.getElem_of_mem hz
  have:=h j hj
  rw [List.getD_eq_getElem?_getD,List.getElem?_eq_getElem hj] at this
  simp only [Option.getD_some] at this
  omega
 ·intro h j hj
  have:=h _ (List.getElem_mem hj)
  rw [List.getD_eq_getElem?_getD,List.getElem?_eq_getElem hj]
  simp only [Option.getD_some]
  omega
theorem fow_of {X:List Nx} {r:Int} (hR:RightIs X r) (h0:r=0) (h:∀i,i<X.length→bhAt X i):FowIs X r:=⟨hR,h0,fun i hi=>bhAt_iff.1 (h i hi)⟩
theorem fow_no {X:List Nx} {r:Int} {i:Nat} (hi:i<X.length) (h:¬bhAt X i):¬FowIs X r:=fun q=>h (bhAt_iff.2 (q.2.2 i hi))
set_option maxRecDepth 10000 in
set_option maxHeartbeats 1000000 in
theorem isfow_any (X:List Nx) (a:Option Addr) (c:Nat) (r:Int) (w:World) (h:ScAt w a X) (hX:Small X) (hR:RightIs X r) :
  Calls Tryz.prog 59 #[.agg #[.slice a X.length c,.int .i64 r]] w fun e w'=>FowOut X r w w' e:=by
 have HA0:Hid (AtN 24 (w.alloc (.cells #[.slice a X.length c,.int .i64 r] 24)) w.heap.size #[.slice a X.length c,.int .i64 r]):=AtN.new w 24 _
 have HB0:Hid (Below w.heap.size w (w.alloc (.cells #[.slice a X.length c,.int .i64 r] 24))):=(Below.refl _ _).alloc (Nat.le_refl _) _
 have HS:Hid _:=And.intro h hX
 have HR:Hid (RightIs X r):=hR
 have hn:=hX.1
 clear h hX hR
 by_cases hr:r=0
 ·subst hr
  go_enter Tryz.func59,Tryz.ntmps59
  go_wp2_with fail
  go_loopw [13] (fun iv wr=>∃i:Nat,iv=.int .i64 i∧i≤X.length∧Hid (∀k,k<i→bhAt X k)∧AtN 24 wr w.heap.size #[.slice a X.length c,.int .i64 0]∧Below w.heap.size w wr) (fun iv _=>X.length-(intOf iv).toNat)
  case atStart=>exact ⟨0,rfl,by omega,fun k hk=>by omega,HA0.out,HB0.out⟩
  case round=>
   clear HA0 HB0
   obtain ⟨i,rfl,hi,HI,n1,hb⟩:=hrel
   by_cases hlt:i<X.length
   ·have hlt':(i:Int)<X.length:=by omega
    have hk:(X.getD i noNx).nd.kids.length≤3000:=HS.out.2.kids hlt
    obtain ⟨b,o,rfl,hbl,d0,d1,d2,d3⟩:=(ScAt.belowB HS.out.1 hb).node hlt
    have HE:Hid (∀W,Below w.heap.size w W→LsAt W (X.getD i noNx).a3 (iV (X.getD i noNx).nd.kids)):=fun W hW=>((ScAt.belowB HS.out.1 hW).each i hlt).k
    have HO:Hid (bhAt X i↔∀j,j<(X.getD i noNx).nd.kids.length→¬(X.getD i noNx).nd.kids.getD j 0≤(i:Int)):=Iff.rfl
    generalize X.getD i noNx=N at *
    have HN:Hid _:=And.intro n1 hb
    have hbs:=hb.size
    clear n1 hb HS
    go_wp2_with fail
    go_loopw [21] (fun jv wr2=>∃j:Nat,jv=.int .i64 j∧j≤N.nd.kids.length∧Hid (∀k,k<j→¬N.nd.kids.getD k 0≤(i:Int))∧AtN 24 wr2 w.heap.size #[.slice (some ⟨b,o,none⟩) X.length c,.int .i64 0]∧Below w.heap.size w wr2) (fun jv _=>N.nd.kids.length-(intOf jv).toNat)
    case atStart=>exact ⟨0,rfl,by omega,fun k hk=>by omega,AtN.alloc HN.out.1 _,HN.out.2.alloc HN.out.2.size _⟩
    case round=>
     clear HN d0 d1 d2 d3 hbl hbs
     obtain ⟨j,rfl,hj,HJ,n1,hb⟩:=hrel
     by_cases hjl:j<N.nd.kids.length
     ·have hjl':(j:Int)<N.nd.kids.length:=by omega
      obtain ⟨b2,o2,e2,hb2,d4⟩:=(LsAt.at (HE.out wr hb) (iV_at _ j hjl))
      have HV:Hid (¬N.nd.kids.getD j 0≤(i:Int)→∀k,k<j+1→¬N.nd.kids.getD k 0≤(i:Int)):=fun P k hk=>by
       by_cases e:k=j
       ·rw [e];exact P
       ·exact HJ.out k (by omega)
      have HW:Hid (N.nd.kids.getD j 0≤(i:Int)→¬FowIs X 0):=fun q=>fow_no hlt fun g=>by have:=HO.out.1 g j hjl;omega
      generalize N.nd.kids.getD j 0=K at *
      rw [e2]
      have HN:Hid _:=And.intro n1 hb
      clear n1 hb HI HJ HE HO
      by_cases hP:K≤(i:Int)
      ·have HW2:Hid (¬FowIs X 0):=HW.out hP
       clear HV HW
       go_wp2_with fail
       go_ret
       exact ⟨false,rfl,⟨fun p=>absurd p (by simp),fun p=>absurd p HW2.out⟩,HN.out.2⟩
      ·have HV2:Hid _:=HV.out hP
       have hP':¬K≤(i:Int):=hP
       clear HV HW
       go_wp2_with fail
       go_roundw
       case rel=>exact ⟨j+1,by go_num,by omega,HV2.out,HN.out.1,HN.out.2⟩
       case measure=>simp [intOf];omega
     ·have hjl':¬(j:Int)<N.nd.kids.length:=by omega
      have HV:Hid (∀k,k<i+1→bhAt X k):=fun k hk=>by
       by_cases e:k=i
       ·rw [e];exact HO.out.2 fun q hq=>by have:=HJ.out q (by omega);omega
       ·exact HI.out k (by omega)
      have HN:Hid _:=And.intro n1 hb
      clear n1 hb HI HJ HE HO
      go_wp2_with fail
      go_roundw
      case rel=>exact ⟨i+1,by go_num,by omega,HV.out,HN.out.1,HN.out.2⟩
      case measure=>simp [intOf];omega
   ·have hlt':¬(i:Int)<X.length:=by omega
    have HV:Hid (FowIs X 0):=fow_of HR.out rfl (fun k hk=>HI.out k (by omega))
    have HN:Hid _:=hb
    clear HI n1 hb HS HR
    go_wp2_with fail
    go_ret
    exact ⟨true,rfl,⟨fun _=>HV.out,fun _=>rfl⟩,HN.out⟩
 ·have HF:Hid (¬FowIs X r):=fun p=>hr p.2.1
  have hr':¬r=0:=hr
  clear HS HR HA0
  go_enter Tryz.func59,Tryz.ntmps59
  go_wp2_with fail
  go_ret
  exact ⟨false,rfl,⟨fun p=>absurd p (by simp),fun p=>absurd p HF.out⟩,HB0.out⟩
set_option maxRecDepth 10000 in
set_option maxHeartbeats 1000000 in
theorem ois_any (X:List Nx) (a:Option Addr) (c:Nat) (r:Int) (w:World) (h:ScAt w a X) (hX:Small X) :
  Calls Tryz.prog 27 #[.agg #[.slice a X.length c,.int .i64 r]] w fun e w'=>FowOut X r w w' e:=by
 have HA0:Hid (AtN 24 (w.alloc (.cells #[.slice a X.length c,.int .i64 r] 24)) w.heap.size #[.slice a X.length c,.int .i64 r]):=AtN.new w 24 _
 have HB0:Hid (Below w.heap.size w (w.alloc (.cells #[.slice a X.length c,.int .i64 r] 24))):=(Below.refl _ _).alloc (Nat.le_refl _) _
 have HC:Hid (∀W,Below w.heap.size w W→Calls Tryz.prog 56 #[.agg #[.slice a X.length c,.int .i64 r]] W fun e w'=>CheckOut X r W w' e):=fun W hW=>check_any X a c r W (h.belowB hW) hX
 have HF:Hid (RightIs X r→∀W,Below w.heap.size w W→Calls Tryz.prog 59 #[.agg #[.slice a X.length c,.int .i64 r]] W fun e w'=>FowOut X r W w' e):=fun hR W hW=>isfow_any X a c r W (h.belowB hW) hX hR
 clear h hX
 go_enter Tryz.func27,Tryz.ntmps27
 go_wp2_with fail
 refine Calls.mono (HC.out _ HB0.out) ?_
 rintro e w1 ⟨k,y,rfl,hc,hb1⟩
 have HA1:Hid (AtN 24 w1 w.heap.size #[.slice a X.length c,.int .i64 r]):=AtN.belowAll HA0.out hb1
 have HB1:Hid (Below w.heap.size w w1):=HB0.out.trans (hb1.mono HB0.out.size)
 have HCI:Hid (CheckIs X r k y):=hc
 clear HA0 HB0 HC hb1 hc
 by_cases hk:k=0
 ·subst hk
  have hR:=HCI.out.right.1 rfl
  have HF1:Hid _:=HF.out hR w1 HB1.out
  have x0:w1.cell? ⟨w.heap.size,0,none⟩=some (.slice a X.length c):=HA1.out.cell 0
  have x1:w1.cell? ⟨w.heap.size,1,none⟩=some (.int .i64 r):=HA1.out.cell 1
  clear HF HCI HA1 hR
  go_wp2_with fail
  refine Calls.mono (Hid.out HF1) ?_
  rintro e w2 ⟨q,rfl,hq,hb2⟩
  have HB2:Hid (Below w.heap.size w w2):=HB1.out.trans (hb2.mono HB1.out.size)
  have HQ:Hid (q=true↔FowIs X r):=hq
  clear HF1 HB1 hb2 hq x0 x1
  go_wp2_with fail
  go_ret
  exact ⟨q,rfl,HQ.out,HB2.out⟩
 ·have HN:Hid (¬FowIs X r):=fun p=>hk (HCI.out.right.2 p.1)
  clear HF HCI HA1
  go_wp2_with fail
  go_ret
  exact ⟨false,rfl,⟨fun p=>absurd p (by simp),fun p=>absurd p HN.out⟩,HB1.out⟩
end Go.Proofs.YtgoffkfpdigeeaaGreatDoor
namespace Go.Proofs.YtgoffkfpdigeeaaGreatDoor
open Go.RowKit Go.Maps Go.WideMaps Go.Sort
theorem sec_at1 {W:World} {g:Nat} {R:ByteArray} (h:AtN 55 W g #[.int .i64 1,.string R]):SecAt W g 0 (oS R):=fun i hi=>by
 match i,hi with
 | 0,_=>exact ⟨h.lt,h.cell 0,h.cell 1⟩
def SoOut (X:List Nx) (r:Int) (l:Lm) (w w':World) (e:Ending):Prop:=∃(B:ByteArray) (k:Int),e=.returned (.tuple #[.string B,.int .i64 k])∧SoIs X r l B k∧Below w.heap.size w w'
end Go.Proofs.YtgoffkfpdigeeaaGreatDoor
namespace Go.Proofs.YtgoffkfpdigeeaaGreatDoor
open Go.ChangeShapes Go.WideShapes Go.ChangeAt Go.RowKit Go.Joins Go.Deep Go.Maps Go.WideMaps Go.Sort
structure Tabs16 (w:World):Prop where
 o:TabAt w 0 oldC
 s:TabAt w 1 spansC
theorem Tabs16.on {w w':World} (h:Tabs16 w) (hb:Below w.heap.size w w'):Tabs16 w':=⟨h.o.below hb,h.s.below hb⟩
theorem tO16:(Tryz.prog.globals[0]?).map (·.type)=some 210:=by kernel_rfl
theorem tS16:(Tryz.prog.globals[1]?).map (·.type)=some 222:=by kernel_rfl
end Go.Proofs.YtgoffkfpdigeeaaGreatDoor
namespace Go.Proofs.YtgoffkfpdigeeaaGreatDoor
open Go.RowKit Go.Maps Go.WideMaps Go.Sort
set_option maxRecDepth 10000 in
theorem version1_any (w:World):Calls Tryz.prog 101 #[] w fun e w'=>e=.returned (.agg #[.func (.func 136) #[] #[]])∧Below w.heap.size w w':=by
 have HB:Hid (∀o,Below w.heap.size w (w.alloc o)):=fun o=>(Below.refl w.heap.size w).alloc (Nat.le_refl _) o
 have hsf:=fun (a:Addr) (W:World)=>run_store Tryz.prog W a (.func (.func 136) #[] #[]) .plain rfl
 go_enter Tryz.func101,Tryz.ntmps101
 go_wp2_with fail
 exact bodyPost_ret (v:=.agg #[.func (.func 136) #[] #[]]) (by simp [results,Tryz.results101,go_sem]) rfl ⟨rfl,HB.out _⟩
set_option maxRecDepth 10000 in
set_option maxHeartbeats 400000 in
theorem ocheck_any (N:Nd) (a1 a2 a3:Option Addr) (c1 c2 c3:Nat) (w:World) (h:NdAt w N a1 a2 a3) (hT:Tabs16 w) (hf:fine N.ints) (hg:big N=false) :
  Calls Tryz.prog 102 #[.agg #[.func (.func 136) #[] #[]],.agg #[.int .i64 N.kind,.slice a1 N.ints.length c1,.slice a2 N.texts.length c2,.slice a3 N.kids.length c3]] w fun e w'=>e=.returned (.int .i64 (tyNo N))∧Below w.heap.size w w':=by
 have hgr:=big_no hg
 have HA0:Hid (∀o1 o2:Obj,o1=.cells #[.func (.func 136) #[] #[]] 141→o2=.cells #[.int .i64 N.kind,.slice a1 N.ints.length c1,.slice a2 N.texts.length c2,.slice a3 N.kids.length c3] 51→AtN 51 ((w.alloc o1).alloc o2) (w.heap.size+1) #[.int .i64 N.kind,.slice a1 N.ints.length c1,.slice a2 N.texts.length c2,.slice a3 N.kids.length c3]∧Below w.heap.size w ((w.alloc o1).alloc o2)):=by
  rintro _ _ rfl rfl
  exact ⟨mk_at (AtN.new (w.alloc _) 51 _) (show _=w.heap.size+1 by simp),((Below.refl w.heap.size w).alloc (Nat.le_refl _) _).alloc (by simp) _⟩
 have HN:Hid (∀W,Below w.heap.size w W→Calls Tryz.prog 136 #[.int .i64 N.kind] W fun e w'=>SpIs W w' e (oldSp N.kind)):=fun W hW=>old_any N.kind W (hT.on hW).o
 have HC:Hid (∀(W:World) (S:Sp) (b:Option Addr) (d:Nat),Below w.heap.size w W→LsAt W b (iV S.ints)→Calls Tryz.prog 137 #[.agg #[.int .i64 N.kind,.slice a1 N.ints.length c1,.slice a2 N.texts.length c2,.slice a3 N.kids.length c3],.agg #[.slice b S.ints.length d,.int .i64 S.texts,.int .i64 S.least,.int .i64 S.most]] W fun e w'=>e=.returned (.int .i64 (chkN N S.ints S.texts S.least S.most))∧Below W.heap.size W w'):=
  fun W S b d hW hb=>fcheck_any N S.ints S.texts S.least S.most a1 a2 a3 b c1 c2 c3 d W (h.belowB hW) hb (hT.on hW).s hf hgr.1 hgr.2.1 (fun s q=>Nat.le_trans (hgr.2.2.2 s q) (by decide))
 have HV:Hid (tyNo N=if (oldSp N.kind).ok=false then 9 else chkN N (oldSp N.kind).ints (oldSp N.kind).texts (oldSp N.kind).least (oldSp N.kind).most):=rfl
 clear h hT hf hg hgr
 generalize tyNo N=V at *
 generalize oldSp N.kind=S at *
 obtain ⟨ok,ci,ct,cl,cm⟩:=S
 go_enter Tryz.func102,Tryz.ntmps102
 go_wp2_with fail
 obtain ⟨hA,hB⟩:=HA0.out _ _ rfl rfl
 generalize ((w.alloc (.cells #[.func (.func 136) #[] #[]] 141)).alloc (.cells #[.int .i64 N.kind,.slice a1 N.ints.length c1,.slice a2 N.texts.length c2,.slice a3 N.kids.length c3] 51))=w0 at *
 have HA:Hid (AtN 51 w0 (w.heap.size+1) #[.int .i64 N.kind,.slice a1 N.ints.length c1,.slice a2 N.texts.length c2,.slice a3 N.kids.length c3]):=hA
 have HB:Hid (Below w.heap.size w w0):=hB
 clear HA0 hA hB
 refine Calls.mono (HN.out _ HB.out) ?_
 rintro e w1 ⟨v,rfl,hI,hb1⟩
 obtain ⟨b,cap,rfl⟩:=own_shape7 hI
 have HL:Hid (LsAt w1 b (iV ci)):=LsAt.of_own hI
 have n1:=HA.out.belowAll hb1
 have y0:w1.cell? ⟨w.heap.size+1,0,none⟩=some (.int .i64 N.kind):=n1.cell 0
 have y1:w1.cell? ⟨w.heap.size+1,1,none⟩=some (.slice a1 N.ints.length c1):=n1.cell 1
 have y2:w1.cell? ⟨w.heap.size+1,2,none⟩=some (.slice a2 N.texts.length c2):=n1.cell 2
 have y3:w1.cell? ⟨w.heap.size+1,3,none⟩=some (.slice a3 N.kids.length c3):=n1.cell 3
 have hl1:=n1.lt
 have HB1:Hid (Below w.heap.size w w1):=HB.out.trans (hb1.mono HB.out.size)
 clear HN hI hb1 HA HB n1
 dsimp only at *
 cases ok with
 | false=>
  have hv:V=9:=HV.out
  subst hv
  clear HC HV HL
  go_wp2_with fail
  go_ret
  exact ⟨rfl,HB1.out.alloc HB1.out.size _⟩
 | true=>
  have hv:V=chkN N ci ct cl cm:=HV.out
  subst hv
  have HK:=HC.out (w1.alloc (.cells #[.slice b ci.length cap,.int .i64 ct,.int .i64 cl,.int .i64 cm] 117)) ⟨true,ci,ct,cl,cm⟩ b cap (HB1.out.alloc HB1.out.size _) (HL.out.alloc _)
  have HK1:Hid _:=HK
  clear HC HV HL HK
  go_wp2_with fail
  refine Calls.mono (Hid.out HK1) ?_
  rintro e w2 ⟨rfl,hb2⟩
  have HB2:Hid (Below w.heap.size w w2):=(HB1.out.alloc HB1.out.size _).trans (hb2.mono (by have:=HB1.out.size;simp;omega))
  clear HK1 hb2
  go_wp2_with fail
  go_ret
  exact ⟨rfl,HB2.out⟩
set_option maxRecDepth 10000 in
set_option maxHeartbeats 400000 in
theorem otyped_any (X:List Nx) (a:Option Addr) (c:Nat) (r:Int) (w:World) (h:ScAt w a X) (hX:Small X) (hF:FnX X) (hT:Tabs16 w) :
  Calls Tryz.prog 55 #[.agg #[.slice a X.length c,.int .i64 r]] w fun e w'=>e=.returned (.tuple #[.int .i64 (tyEo X),.int .i64 (tyZo X)])∧Below w.heap.size w w':=by
 have HS:Hid (ScAt w a X):=h
 have hn:=hX.1
 have HC:Hid (∀(i:Nat),i<X.length→∀W,Below w.heap.size w W→Calls Tryz.prog 102 #[.agg #[.func (.func 136) #[] #[]],.agg #[.int .i64 (X.getD i noNx).nd.kind,.slice (X.getD i noNx).a1 (X.getD i noNx).nd.ints.length (X.getD i noNx).c1,.slice (X.getD i noNx).a2 (X.getD i noNx).nd.texts.length (X.getD i noNx).c2,.slice (X.getD i noNx).a3 (X.getD i noNx).nd.kids.length (X.getD i noNx).c3]] W fun e w'=>e=.returned (.int .i64 (tyNo (X.getD i noNx).nd))∧Below W.heap.size W w'):=
  fun i hi W hW=>ocheck_any _ _ _ _ _ _ _ W ((h.belowB hW).each i hi) (hT.on hW) (hF i hi) (hX.2 i hi)
 have HA0:Hid (AtN 24 (w.alloc (.cells #[.slice a X.length c,.int .i64 r] 24)) w.heap.size #[.slice a X.length c,.int .i64 r]):=AtN.new w 24 _
 have HB0:Hid (Below w.heap.size w (w.alloc (.cells #[.slice a X.length c,.int .i64 r] 24))):=(Below.refl w.heap.size w).alloc (Nat.le_refl _) _
 have HE:Hid (tyEo X=(tyGo X 0).1∧tyZo X=(tyGo X 0).2):=⟨rfl,rfl⟩
 have HI0:Hid (tyGo X 0=tyGo (X.drop 0) 0):=rfl
 have HST:Hid (∀i,i<X.length→tyGo (X.drop i) i=if tyNo (X.getD i noNx).nd=0 then tyGo (X.drop (i+1)) (i+1) else (tyNo (X.getD i noNx).nd,(i:Int))):=fun i hi=>tyGo_at X i hi
 have HEN:Hid (tyGo (X.drop X.length) X.length=(0,0)):=by show _=_;rw [List.drop_length];rfl
 have hsf:=fun (a:Addr) (W:World)=>run_store Tryz.prog W a (.func (.func 136) #[] #[]) .plain rfl
 generalize tyGo X 0=R at *
 generalize tyEo X=E at *
 generalize tyZo X=Z at *
 obtain ⟨R1,R2⟩:=R
 obtain ⟨rfl,rfl⟩:=HE.out
 clear h hX hF hT HE
 go_enter Tryz.func55,Tryz.ntmps55
 go_wp2_with fail
 refine Calls.mono (version1_any _) ?_
 rintro e w1 ⟨rfl,hb1⟩
 have hA1:=HA0.out.belowAll hb1
 have x0:w1.cell? ⟨w.heap.size,0,none⟩=some (.slice a X.length c):=hA1.cell 0
 have hl1:=hA1.lt
 have HB1:Hid (∀o:Obj,o=.cells #[.func (.func 136) #[] #[]] 141→AtN 141 (w1.alloc o) w1.heap.size #[.func (.func 136) #[] #[]]∧Below w.heap.size w (w1.alloc o)):=by
  rintro _ rfl
  have hb:=HB0.out.trans (hb1.mono HB0.out.size)
  exact ⟨AtN.new w1 141 _,hb.alloc hb.size _⟩
 clear HA0 HB0 hb1 hA1
 go_wp2_with fail
 go_loopw [12] (fun iv wr=>∃i:Nat,iv=.int .i64 i∧i≤X.length∧Hid ((E,Z)=tyGo (X.drop i) i)∧Hid (AtN 141 wr w1.heap.size #[.func (.func 136) #[] #[]])∧Hid (Below w.heap.size w wr)) (fun iv _=>X.length-(intOf iv).toNat)
 case atStart=>
  obtain ⟨h1,h2⟩:=HB1.out _ rfl
  exact ⟨0,rfl,by omega,HI0,h1,h2⟩
 case round=>
  clear HI0 HB1 x0
  obtain ⟨i,rfl,hi,HI,HK,HB⟩:=hrel
  by_cases hlt:i<X.length
  ·have hlt':(i:Int)<X.length:=by omega
   obtain ⟨b,o,rfl,hbl,d0,d1,d2,d3⟩:=(ScAt.belowB HS.out HB.out).node hlt
   have HC1:Hid _:=HC.out i hlt
   have HS1:Hid _:=HST.out i hlt
   generalize X.getD i noNx=N at *
   have HB1:Hid (Below w.heap.size w (wr.alloc (.cells #[.int .i64 N.nd.kind,.slice N.a1 N.nd.ints.length N.c1,.slice N.a2 N.nd.texts.length N.c2,.slice N.a3 N.nd.kids.length N.c3] 51))):=HB.out.alloc HB.out.size _
   have k0:wr.cell? ⟨w1.heap.size,0,none⟩=some (.func (.func 136) #[] #[]):=HK.out.cell 0
   have hkl:=HK.out.lt
   have HC2:Hid _:=Hid.out HC1 _ HB1.out
   have HK1:Hid (AtN 141 (wr.alloc (.cells #[.int .i64 N.nd.kind,.slice N.a1 N.nd.ints.length N.c1,.slice N.a2 N.nd.texts.length N.c2,.slice N.a3 N.nd.kids.length N.c3] 51)) w1.heap.size #[.func (.func 136) #[] #[]]):=HK.out.alloc _
   clear HC HST HC1 HS HB HK
   generalize tyNo N.nd=t at *
   go_wp2_with fail
   refine Calls.mono (Hid.out HC2) ?_
   rintro e w2 ⟨rfl,hb2⟩
   have HB2:Hid (Below w.heap.size w w2):=HB1.out.trans (hb2.mono HB1.out.size)
   have HK2:Hid (AtN 141 w2 w1.heap.size #[.func (.func 136) #[] #[]]):=HK1.out.belowAll hb2
   clear HC2 HB1 HK1 hb2 d0 d1 d2 d3 k0
   by_cases ht:t=0
   ·have HI1:Hid ((E,Z)=tyGo (X.drop (i+1)) (i+1)):=by
     have h1:=Hid.out HS1
     rw [if_pos ht] at h1
     exact HI.out.trans h1
    clear HI HS1
    go_wp2_with fail
    go_roundw
    case rel=>exact ⟨i+1,by go_num,by omega,HI1,HK2,HB2⟩
    case measure=>simp [intOf];omega
   ·have HI1:(E,Z)=(t,(i:Int)):=by
     have h1:=Hid.out HS1
     rw [if_neg ht] at h1
     exact HI.out.trans h1
    obtain ⟨rfl,rfl⟩:=Prod.mk.inj HI1
    clear HI HS1 HI1
    go_wp2_with fail
    go_ret2
    exact ⟨rfl,HB2.out⟩
  ·have hlt':¬(i:Int)<X.length:=by omega
   obtain rfl:i=X.length:=by omega
   have HI1:(E,Z)=((0:Int),(0:Int)):=HI.out.trans HEN.out
   obtain ⟨rfl,rfl⟩:=Prod.mk.inj HI1
   clear HI HI1 HEN HC HST
   go_wp2_with fail
   go_ret2
   exact ⟨rfl,HB.out⟩
def voF (X:List Nx) (a:Option Addr) (c:Nat) (r:Int) (d:Nat) (b n e f x:Int) (q:Bool):Nat→Value→World→Prop
 | 0,v,_=>v=.agg #[.slice a X.length c,.int .i64 r]
 | 1,v,_=>v=.agg #[.int .i64 0,.int .i64 X.length,.int .i64 (edg X:Nat),.int .i64 (d:Nat),.int .i64 (txb X:Nat)]
 | 2,v,_=>v=.agg #[.int .i64 b,.int .i64 n,.int .i64 e,.int .i64 f,.int .i64 x]
 | 3,v,_=>v=.bool q
 | 4,v,_=>v=.bool (!q)
 | _,_,_=>True
theorem voF_stab (X:List Nx) (a:Option Addr) (c:Nat) (r:Int) (d:Nat) (b n e f x:Int) (q:Bool):∀ix jx v w w',ix≠jx→World.grownBy w w' (if ix=99 then none else none)→voF X a c r d b n e f x q jx v w→voF X a c r d b n e f x q jx v w':=by
 intro ix jx v w w' hne hg h
 match jx,h with
 | 0,h|1,h|2,h|3,h|4,h=>exact h
 | n+5,_=>trivial
set_option maxRecDepth 10000 in
set_option maxHeartbeats 1000000 in
theorem ovalid_any (X:List Nx) (a:Option Addr) (c:Nat) (r:Int) (l:Lm) (d:Nat) (w:World) (h:ScAt w a X) (hX:Small X) (hF:FnX X) (hT:Tabs16 w) (hd:DepthIs X r d) :
  Calls Tryz.prog 26 #[.agg #[.slice a X.length c,.int .i64 r],.agg #[.int .i64 l.b,.int .i64 l.n,.int .i64 l.e,.int .i64 l.d,.int .i64 l.x]] w fun e w'=>VoOut X r l d w w' e:=by
 have HO:Hid (∀W,Calls Tryz.prog 33 #[.agg #[.int .i64 l.b,.int .i64 l.n,.int .i64 l.e,.int .i64 l.d,.int .i64 l.x]] W fun e w'=>e=.returned (.bool (okL l))∧Below W.heap.size W w'):=fun W=>okl_any l W
 have HT:Hid (∀W,Below w.heap.size w W→Calls Tryz.prog 55 #[.agg #[.slice a X.length c,.int .i64 r]] W fun e w'=>e=.returned (.tuple #[.int .i64 (tyEo X),.int .i64 (tyZo X)])∧Below W.heap.size W w'):=fun W hW=>otyped_any X a c r W (h.belowB hW) hX hF (hT.on hW)
 have HC:Hid (∀W,Below w.heap.size w W→Calls Tryz.prog 56 #[.agg #[.slice a X.length c,.int .i64 r]] W fun e w'=>CheckOut X r W w' e):=fun W hW=>check_any X a c r W (h.belowB hW) hX
 have HM:Hid (∀W,Below w.heap.size w W→Calls Tryz.prog 58 #[.agg #[.slice a X.length c,.int .i64 r]] W fun e w'=>e=.returned (.agg #[.int .i64 0,.int .i64 X.length,.int .i64 (edg X:Nat),.int .i64 (d:Nat),.int .i64 (txb X:Nat)])∧Below W.heap.size W w'):=fun W hW=>measure_any X a c r d W (h.belowB hW) hX hd
 have HI:Hid (∀W,Calls Tryz.prog 57 #[.agg #[.int .i64 0,.int .i64 X.length,.int .i64 (edg X:Nat),.int .i64 (d:Nat),.int .i64 (txb X:Nat)],.agg #[.int .i64 l.b,.int .i64 l.n,.int .i64 l.e,.int .i64 l.d,.int .i64 l.x]] W fun e w'=>e=.returned (.bool (inL (meL X d) l))∧Below W.heap.size W w'):=fun W=>within_any (meL X d) l W
 have HV:Hid (∀e z,((okL l=false∧e=1∧z = -1)∨(okL l=true∧tyEo X≠0∧e=tyEo X∧z=tyZo X)∨
  (okL l=true∧tyEo X=0∧∃n y,CheckIs X r n y∧((n≠0∧e=n∧z=y)∨(n=0∧((inL (meL X d) l=false∧e=19∧z = -1)∨(inL (meL X d) l=true∧e=0∧z=0))))))→VoIs X r l d e z):=fun e z q=>q
 have HA0:Hid (∀o1 o2:Obj,o1=.cells #[.slice a X.length c,.int .i64 r] 24→o2=.cells #[.int .i64 l.b,.int .i64 l.n,.int .i64 l.e,.int .i64 l.d,.int .i64 l.x] 26→AtN 24 ((w.alloc o1).alloc o2) w.heap.size #[.slice a X.length c,.int .i64 r]∧AtN 26 ((w.alloc o1).alloc o2) (w.heap.size+1) #[.int .i64 l.b,.int .i64 l.n,.int .i64 l.e,.int .i64 l.d,.int .i64 l.x]∧Below w.heap.size w ((w.alloc o1).alloc o2)):=by
  rintro _ _ rfl rfl
  exact ⟨(AtN.new w 24 _).alloc _,mk_at (AtN.new (w.alloc _) 26 _) (by simp),((Below.refl w.heap.size w).alloc (Nat.le_refl _) _).alloc (by simp) _⟩
 clear h hX hF hd hT
 unfold VoOut
 generalize VoIs X r l d=VA at *
 generalize okL l=ok at *
 generalize inL (meL X d) l=q at *
 generalize tyEo X=te at *
 generalize tyZo X=tz at *
 obtain ⟨b,n,e,f,x⟩:=l
 dsimp only at *
 go_enter Tryz.func26,Tryz.ntmps26
 go_wp2_with fail
 obtain ⟨h1,h2,h3⟩:=HA0.out _ _ rfl rfl
 refine (HO.out _).mono ?_
 rintro e1 w1 ⟨rfl,hb1⟩
 have HA1:Hid (AtN 24 w1 w.heap.size #[.slice a X.length c,.int .i64 r]):=h1.belowAll hb1
 have HL1:Hid (AtN 26 w1 (w.heap.size+1) #[.int .i64 b,.int .i64 n,.int .i64 e,.int .i64 f,.int .i64 x]):=h2.belowAll hb1
 have HB1:Hid (Below w.heap.size w w1):=h3.trans (hb1.mono h3.size)
 clear HO HA0 h1 h2 h3 hb1
 cases ok with
 | false=>
  have hv:=HV.out 1 (-1) (.inl ⟨by first|rfl|trivial,rfl,rfl⟩)
  clear HV HT HC HM HI HA1 HL1
  go_wp2_with fail
  go_ret2
  exact ⟨_,_,rfl,hv,HB1.out⟩
 | true=>
  have x0:w1.cell? ⟨w.heap.size,0,none⟩=some (.slice a X.length c):=HA1.out.cell 0
  have x1:w1.cell? ⟨w.heap.size,1,none⟩=some (.int .i64 r):=HA1.out.cell 1
  have HT1:Hid _:=HT.out w1 HB1.out
  clear HT
  go_wp2_with fail
  refine Calls.mono (Hid.out HT1) ?_
  rintro e2 w2 ⟨rfl,hb2⟩
  have HA2:Hid (AtN 24 w2 w.heap.size #[.slice a X.length c,.int .i64 r]):=AtN.belowAll HA1.out hb2
  have HL2:Hid (AtN 26 w2 (w.heap.size+1) #[.int .i64 b,.int .i64 n,.int .i64 e,.int .i64 f,.int .i64 x]):=AtN.belowAll HL1.out hb2
  have HB2:Hid (Below w.heap.size w w2):=HB1.out.trans (hb2.mono HB1.out.size)
  clear HT1 HA1 HL1 HB1 hb2 x0 x1
  by_cases hte:te=0
  ·subst hte
   have x0:w2.cell? ⟨w.heap.size,0,none⟩=some (.slice a X.length c):=HA2.out.cell 0
   have x1:w2.cell? ⟨w.heap.size,1,none⟩=some (.int .i64 r):=HA2.out.cell 1
   have HC1:Hid (Calls Tryz.prog 56 #[.agg #[.slice a X.length c,.int .i64 r]] w2 fun e w'=>CheckOut X r w2 w' e):=HC.out w2 HB2.out
   clear HC
   go_wp2_with fail
   refine Calls.mono HC1.out ?_
   rintro e3 w3 ⟨k,y,rfl,hc,hb3⟩
   have HA3:Hid (AtN 24 w3 w.heap.size #[.slice a X.length c,.int .i64 r]):=AtN.belowAll HA2.out hb3
   have HL3:Hid (AtN 26 w3 (w.heap.size+1) #[.int .i64 b,.int .i64 n,.int .i64 e,.int .i64 f,.int .i64 x]):=AtN.belowAll HL2.out hb3
   have HB3:Hid (Below w.heap.size w w3):=HB2.out.trans (hb3.mono HB2.out.size)
   have HCI:Hid (CheckIs X r k y):=hc
   clear HC1 HA2 HL2 HB2 hb3 hc x0 x1
   by_cases hk:k=0
   ·subst hk
    have HV1:Hid (∀e z,((q=false∧e=19∧z = -1)∨(q=true∧e=0∧z=0))→VA e z):=fun e z p=>HV.out e z (.inr (.inr ⟨by first|rfl|trivial,by first|rfl|trivial,0,y,HCI.out,.inr ⟨rfl,p⟩⟩))
    clear HV HCI
    go_wp2_with fail
    refine facts_region none 99 (voF X a c r d b n e f x q) (by kernel_rfl) (by kernel_rfl) (voF_stab X a c r d b n e f x q) ?step ?fin
    case step=>
     intro i' o' ho act W hg hstill hoff hdep K hK
     have hb:=below_of_grown hg
     have HBW:Hid (Below w.heap.size w W):=HB3.out.trans (hb.mono HB3.out.size)
     have A0:=AtN.belowAll HA3.out hb
     have x0:W.cell? ⟨w.heap.size,0,none⟩=some (.slice a X.length c):=A0.cell 0
     have x1:W.cell? ⟨w.heap.size,1,none⟩=some (.int .i64 r):=A0.cell 1
     have A1:=AtN.belowAll HL3.out hb
     have y0:W.cell? ⟨w.heap.size+1,0,none⟩=some (.int .i64 b):=A1.cell 0
     have y1:W.cell? ⟨w.heap.size+1,1,none⟩=some (.int .i64 n):=A1.cell 1
     have y2:W.cell? ⟨w.heap.size+1,2,none⟩=some (.int .i64 e):=A1.cell 2
     have y3:W.cell? ⟨w.heap.size+1,3,none⟩=some (.int .i64 f):=A1.cell 3
     have y4:W.cell? ⟨w.heap.size+1,4,none⟩=some (.int .i64 x):=A1.cell 4
     have HMW:Hid _:=HM.out W HBW.out
     have HIW:Hid _:=HI.out W
     clear hb A0 A1 HM HI HA3 HL3 HB3 HBW HV1
     rcases i' with _|_|_|_|_|i'
     ·obtain rfl:=Option.some.inj ho
      have t2:act.tmps[2]?.getD undef=.pointer (some ⟨w.heap.size,0,none⟩):=hoff 2 (by kernel_rfl)
      clear hdep hoff hg hstill HMW HIW
      go_simp
      exact hK _ _ (grown_refl _ _) rfl
     ·obtain rfl:=Option.some.inj ho
      have e0:act.tmps[31]?.getD undef=.agg #[.slice a X.length c,.int .i64 r]:=hdep 0 _ (by kernel_rfl) rfl
      clear hdep hoff hg hstill HIW
      go_simp
      refine Calls.mono HMW.out ?_
      rintro e w' ⟨rfl,hb⟩
      exact hK _ _ (grown_of_below hb _) rfl
     ·obtain rfl:=Option.some.inj ho
      have t3:act.tmps[3]?.getD undef=.pointer (some ⟨w.heap.size+1,0,none⟩):=hoff 3 (by kernel_rfl)
      clear hdep hoff hg hstill HMW HIW
      go_simp
      exact hK _ _ (grown_refl _ _) rfl
     ·obtain rfl:=Option.some.inj ho
      have e1:act.tmps[32]?.getD undef=.agg #[.int .i64 0,.int .i64 X.length,.int .i64 (edg X:Nat),.int .i64 (d:Nat),.int .i64 (txb X:Nat)]:=hdep 1 _ (by kernel_rfl) rfl
      have e2:act.tmps[33]?.getD undef=.agg #[.int .i64 b,.int .i64 n,.int .i64 e,.int .i64 f,.int .i64 x]:=hdep 2 _ (by kernel_rfl) rfl
      clear hdep hoff hg hstill HMW
      go_simp
      refine Calls.mono HIW.out ?_
      rintro e w' ⟨rfl,hb⟩
      exact hK _ _ (grown_of_below hb _) rfl
     ·obtain rfl:=Option.some.inj ho
      have e3:act.tmps[34]?.getD undef=.bool q:=hdep 3 _ (by kernel_rfl) rfl
      clear hdep hoff hg hstill HMW HIW
      go_simp
      exact hK _ _ (grown_refl _ _) rfl
     ·exact absurd ho (by simp)
    case fin=>
     intro V W hg hF
     have hb:=below_of_grown hg
     have HB4:Hid (Below w.heap.size w W):=HB3.out.trans (hb.mono HB3.out.size)
     have v35:V (some 35)=.bool (!q):=hF 4 _ rfl
     clear hF hg hb HM HI HA3 HL3 HB3
     simp only [fillA,Act.put,List.setIfInBounds_toArray,List.set_cons_zero,List.set_cons_succ,v35]
     generalize V (some 31)=z31
     generalize V (some 32)=z32
     generalize V (some 33)=z33
     generalize V (some 34)=z34
     clear v35
     cases q with
     | false=>
      have hv:=HV1.out 19 (-1) (.inl ⟨rfl,rfl,rfl⟩)
      clear HV1
      go_wp2_with fail
      go_ret2
      exact ⟨_,_,rfl,hv,HB4.out⟩
     | true=>
      have hv:=HV1.out 0 0 (.inr ⟨rfl,rfl,rfl⟩)
      clear HV1
      go_wp2_with fail
      go_ret2
      exact ⟨_,_,rfl,hv,HB4.out⟩
   ·have hv:=HV.out k y (.inr (.inr ⟨by first|rfl|trivial,by first|rfl|trivial,k,y,HCI.out,.inl ⟨hk,rfl,rfl⟩⟩))
    clear HV HCI HM HI HA3 HL3
    go_wp2_with fail
    go_ret2
    exact ⟨_,_,rfl,hv,HB3.out⟩
  ·have hv:=HV.out te tz (.inr (.inl ⟨by first|rfl|trivial,hte,rfl,rfl⟩))
   clear HV HC HM HI HA2 HL2
   go_wp2_with fail
   go_ret2
   exact ⟨_,_,rfl,hv,HB2.out⟩
end Go.Proofs.YtgoffkfpdigeeaaGreatDoor
