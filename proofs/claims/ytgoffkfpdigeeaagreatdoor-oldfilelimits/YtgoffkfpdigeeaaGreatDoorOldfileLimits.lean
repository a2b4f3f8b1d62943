/- For every scene that is right and typed in version 1: the file of it made flat is loaded as it was, within its own measure with just as many bytes as the file has; with one less of anything, where such limits may be, the file is told to be beyond them (scenes greater than the law plays with are let go by the law itself); the argument reads afterwards as before. The package schema's tables hold what the program's text lays into them when the call begins (the card ties them). -/
import Derived.Test.YtgoffkfpdigeeaaGreatDoorRows
import Derived.Test.YtgoffkfpdigeeaaGreatDoorCards
import Derived.Test.YtgoffkfpdigeeaaGreatDoorTie
import Derived.WalkKit
import Derived.ProofKit
import Derived.OpenShut
import Derived.ShutString
import Derived.Below
import Derived.Test.YtgoffkfpdigeeaaGreatDoorL41
import Derived.Test.YtgoffkfpdigeeaaGreatDoorL27
import Derived.Test.YtgoffkfpdigeeaaGreatDoorL19
import Derived.ChangeOld
import Derived.LaidMore
import Derived.SevenTiedAt
namespace Go.Proofs.YtgoffkfpdigeeaaGreatDoor.oldfileLimits
open Go.ChangeShapes Go.WideShapes Go.ChangeAt Go.RowKit
open Go.ChangeMaps (open_string shut_string)
set_option linter.unusedVariables false
theorem own:ownKnob Tryz.prog.godebug=none:=by kernel_rfl
theorem laidOut:laidOutB Tryz.prog=true:=by kernel_rfl
structure Lq (w W0 W:World) (gT gM:Nat) (a:Option Addr) (T:List Nx) (c:Nat) (b n1 n2 n3 n4:Int):Prop where
 hw:Below w.heap.size w W0
 sc0:ScAt W0 a T
 bel0:Below W0.heap.size W0 W
 t:AtN 24 W gT #[.slice a T.length c,.int .i64 0]
 m:AtN 26 W gM #[.int .i64 b,.int .i64 n1,.int .i64 n2,.int .i64 n3,.int .i64 n4]
 hT:W0.heap.size≤gT
 hM:gT<gM
section
variable {w W0 W W':World} {gT gM:Nat} {a:Option Addr} {T:List Nx} {c:Nat} {b n1 n2 n3 n4:Int}
theorem Lq.more (h:Lq w W0 W gT gM a T c b n1 n2 n3 n4) (hb:Below W.heap.size W W'):Lq w W0 W' gT gM a T c b n1 n2 n3 n4:=⟨h.hw,h.sc0,h.bel0.trans (hb.mono h.bel0.size),h.t.belowAll hb,h.m.belowAll hb,h.hT,h.hM⟩
theorem Lq.sc (h:Lq w W0 W gT gM a T c b n1 n2 n3 n4):ScAt W a T:=h.sc0.belowB h.bel0
theorem Lq.bel (h:Lq w W0 W gT gM a T c b n1 n2 n3 n4):Below w.heap.size w W:=h.hw.trans (h.bel0.mono h.hw.size)
theorem Lq.all (h:Lq w W0 W gT gM a T c b n1 n2 n3 n4):W.cell? ⟨gM,0,none⟩=some (.int .i64 b)∧W.cell? ⟨gM,1,none⟩=some (.int .i64 n1)∧W.cell? ⟨gM,2,none⟩=some (.int .i64 n2)∧W.cell? ⟨gM,3,none⟩=some (.int .i64 n3)∧W.cell? ⟨gM,4,none⟩=some (.int .i64 n4):=
 ⟨h.m.cell 0,h.m.cell 1,h.m.cell 2,h.m.cell 3,h.m.cell 4⟩
theorem Lq.set (h:Lq w W0 W gT gM a T c b n1 n2 n3 n4) (z:Int):Lq w W0 (W.setCell ⟨gM,0,none⟩ (.int .i64 z)) gT gM a T c z n1 n2 n3 n4:=by
 have h1:=h.hT
 have h2:=h.hM
 exact ⟨h.hw,h.sc0,set_below h.bel0 _ (by show W0.heap.size≤gM;omega) _,h.t.setOther ⟨gM,0,none⟩ (by show gM≠gT;omega) _,by simpa using h.m.set 0 (.int .i64 z),h1,h2⟩
end
structure Gv (w W0 W:World) (gT gM gU:Nat) (a:Option Addr) (T:List Nx) (c:Nat) (b n1 n2 n3 n4:Int):Prop where
 q:Lq w W0 W gT gM a T c b n1 n2 n3 n4
 u:AtN 26 W gU #[.int .i64 1,.int .i64 0,.int .i64 0,.int .i64 0,.int .i64 0,.int .i64 0,.int .i64 1,.int .i64 0,.int .i64 0,.int .i64 0,.int .i64 0,.int .i64 0,.int .i64 1,.int .i64 0,.int .i64 0,.int .i64 0,.int .i64 0,.int .i64 0,.int .i64 1,.int .i64 0,.int .i64 0,.int .i64 0,.int .i64 0,.int .i64 0,.int .i64 1]
theorem Gv.more {w W0 W W':World} {gT gM gU:Nat} {a:Option Addr} {T:List Nx} {c:Nat} {b n1 n2 n3 n4:Int} (h:Gv w W0 W gT gM gU a T c b n1 n2 n3 n4) (hb:Below W.heap.size W W'):Gv w W0 W' gT gM gU a T c b n1 n2 n3 n4:=⟨h.q.more hb,h.u.belowAll hb⟩
set_option maxRecDepth 10000 in
set_option maxHeartbeats 4000000 in
theorem walk (X0:List Nx) (a0:Option Addr) (c0:Nat) (r0:Int) (w:World) (w0:IsSc w a0 X0 r0) (hT:Tabs16 w) :
  Calls Tryz.prog 6 #[.agg #[.slice a0 X0.length c0,.int .i64 r0]] w fun e w'=>e=.returned (.bool true)∧Below w.heap.size w w':=by
 have HA:Hid (∀W,Below w.heap.size w W→Calls Tryz.prog 8 #[] W fun e w'=>e=.returned (.bool true)∧Below W.heap.size W w'):=fun W hb=>awake_any W (hT.on hb)
 have HT:Hid (Tabs16 w):=hT
 have HS:Hid (IsSc w a0 X0 r0):=w0
 have HL:Hid (Lw w (w.alloc (.cells #[.slice a0 X0.length c0,.int .i64 r0] 24)) a0 X0 c0 r0):=Lw.start w a0 X0 c0 r0
 clear w0 hT
 go_enter Tryz.func6,Tryz.ntmps6
 go_wp2_with fail
 refine Calls.mono (HA.out _ HL.out.bel) ?_
 rintro e w2 ⟨rfl,hb2⟩
 have HL2:Hid (Lw w w2 a0 X0 c0 r0):=HL.out.more hb2
 clear HL hb2
 have xa0:=HL2.out.c0
 have xa1:=HL2.out.c1
 have HG:Hid (Calls Tryz.prog 9 #[.agg #[.slice a0 X0.length c0,.int .i64 r0]] w2 fun e w'=>GreatOut X0 w2 w' e):=sgreat_any X0 a0 c0 r0 w2 (HL2.out.sc HS.out)
 go_wp2_with fail
 refine Calls.mono HG.out ?_
 rintro e w3 ⟨g,rfl,hg,hb3⟩
 have HL3:Hid (Lw w w3 a0 X0 c0 r0):=HL2.out.more hb3
 clear HG HL2 hb3 xa0 xa1
 cases g with
 | true=>
  go_wp2_with fail
  refine Calls.mono (HA.out _ HL3.out.bel) ?_
  rintro e wz ⟨rfl,hbz⟩
  have HB:Hid (Below w.heap.size w wz):=(HL3.out.more hbz).bel
  clear HL3 hbz
  go_wp2_with fail
  go_ret
  exact ⟨rfl,HB.out⟩
 | false=>
  have HSm:Hid (Small X0∧X0.length≤60):=hg rfl
  have HFn:Hid (FnX X0):=HS.out.fn
  have xa0:=HL3.out.c0
  have xa1:=HL3.out.c1
  have HW:Hid _:=rwhole1_any X0 a0 c0 r0 w3 (HL3.out.sc HS.out) HSm.out.1 HFn.out
  clear hg
  go_wp2_with fail
  refine Calls.mono HW.out ?_
  rintro e w4 ⟨bw,rfl,hbw,hb4⟩
  have HL4:Hid (Lw w w4 a0 X0 c0 r0):=HL3.out.more hb4
  have HBw:Hid (bw=true↔WhoO X0 r0):=hbw
  clear HW HL3 hb4 xa0 xa1 hbw
  cases bw with
  | false=>
   clear HBw
   go_wp2_with fail
   refine Calls.mono (HA.out _ HL4.out.bel) ?_
   rintro e wz ⟨rfl,hbz⟩
   have HB:Hid (Below w.heap.size w wz):=(HL4.out.more hbz).bel
   clear HL4 hbz
   go_wp2_with fail
   go_ret
   exact ⟨rfl,HB.out⟩
  | true=>
   have HWh:Hid (WhoO X0 r0):=HBw.out.1 rfl
   have HFl:Hid (Calls Tryz.prog 17 #[.agg #[.slice a0 X0.length c0,.int .i64 r0]] w4 fun e w'=>RFlatOut X0 r0 w4 w' e):=rflat_any X0 a0 c0 r0 w4 (HL4.out.sc HS.out) HSm.out.1 HWh.out.2
   have xa0:=HL4.out.c0
   have xa1:=HL4.out.c1
   clear HA HBw
   go_wp2_with fail
   refine Calls.mono HFl.out ?_
   rintro e w5 ⟨T,aT,cT,rfl,hTn,hTl,hsT,hb5⟩
   have hF:Flt X0 T r0:=flt_of HSm.out.1 HWh.out.2 hTn
   have hTs:Small T:=hF.small HSm.out.1
   have hT60:T.length≤60:=by rw [hF.len];exact HSm.out.2
   have hTf:FnX T:=hF.fnx HFn.out
   have hTy:tyEo T=0:=hF.tyo.2 HWh.out.1
   have hTw:FowIs T 0:=hF.fw
   obtain ⟨d,hd⟩:=depth_there T 0
   have hme:=me_fewO hTs hT60 hTf hTy hTw.1 hd
   have hsz:=oF_sizes hTs hT60 hTf hTy hTw.1
   have hcz:=oC_le hTs hT60 hTf hTy hTw.1
   have hok:okL (mB T d (oF (T.map Nx.nd)).size)=true:=mB_ok hT60 hme (by omega)
   have HMe:Hid (∀W,ScAt W aT T→Calls Tryz.prog 18 #[.agg #[.slice aT T.length cT,.int .i64 0]] W fun e w'=>e=.returned (.agg #[.int .i64 0,.int .i64 T.length,.int .i64 (edg T:Nat),.int .i64 (d:Nat),.int .i64 (txb T:Nat)])∧Below W.heap.size W w'):=fun W hs=>rmeasure_any T aT cT 0 d W hs hTs hd
   have HBy:Hid (∀W,ScAt W aT T→Calls Tryz.prog 19 #[.agg #[.slice aT T.length cT,.int .i64 0]] W fun e w'=>e=.returned (.string (oF (T.map Nx.nd)))∧Below W.heap.size W w'):=fun W hs=>robytes_any T aT cT 0 W hs hTs hTf hTy hTw.1 (by omega)
   have HLd:Hid (∀W,Below w.heap.size w W→Calls Tryz.prog 13 #[.string (oF (T.map Nx.nd)),.agg #[.int .i64 (oF (T.map Nx.nd)).size,.int .i64 T.length,.int .i64 (edg T:Nat),.int .i64 (d:Nat),.int .i64 (txb T:Nat)]] W fun e w'=>∃(Y:List Nx) (a:Option Addr) (c:Nat),e=.returned (.tuple #[.agg #[.slice a Y.length c,.int .i64 0],.int .i64 0])∧Y.map Nx.nd=T.map Nx.nd∧ScAt w' a Y∧Small Y∧Below W.heap.size W w'):=fun W hb=>
    poback_any T (mB T d (oF (T.map Nx.nd)).size) W d (HT.out.on hb) hTs hT60 hTf hTy hTw hd hok (mB_in (by omega)) (Int.lt_irrefl _) (mB_rg hok)
   have HLl:Hid (∀(b n e f x:Int) W,Below w.heap.size w W→okL ⟨b,n,e,f,x⟩=true→(b<((oF (T.map Nx.nd)).size:Int)∨n<T.length∨e<edg T∨f<d∨x<txb T)→Calls Tryz.prog 13 #[.string (oF (T.map Nx.nd)),.agg #[.int .i64 b,.int .i64 n,.int .i64 e,.int .i64 f,.int .i64 x]] W fun r w'=>∃(a:Option Addr) (c:Nat),r=.returned (.tuple #[.agg #[.slice a 0 c,.int .i64 0],.int .i64 19])∧Below W.heap.size W w'):=fun b n e f x W hb ho hno=>
    poless_any T ⟨b,n,e,f,x⟩ (mB T d (oF (T.map Nx.nd)).size) W d (HT.out.on hb) hTs hT60 hTf hTy hTw hd hok (mB_in (by omega)) ho (hno.imp id mB_less) (mB_rg ho)
   have HSs:Hid (∀(Y:List Nx) a c W,ScAt W a Y→Small Y→Y.map Nx.nd=T.map Nx.nd→ScAt W aT T→Calls Tryz.prog 15 #[.agg #[.slice a Y.length c,.int .i64 0],.agg #[.slice aT T.length cT,.int .i64 0]] W fun e w'=>e=.returned (.bool true)∧Below W.heap.size W w'):=fun Y a c W h1 h2 h3 h4=>ssame_yes Y T a aT c cT 0 W h1 h4 h2 h3.symm
   have hb5':Below w5.heap.size w5 (w5.alloc (.cells #[.slice aT T.length cT,.int .i64 0] 24)):=(Below.refl w5.heap.size w5).alloc (Nat.le_refl _) _
   have HA6:Hid (AtN 24 (w5.alloc (.cells #[.slice aT T.length cT,.int .i64 0] 24)) w5.heap.size #[.slice aT T.length cT,.int .i64 0]):=AtN.new w5 24 _
   have HB5:Hid (Below w.heap.size w w5∧ScAt w5 aT T∧Below w5.heap.size w5 (w5.alloc (.cells #[.slice aT T.length cT,.int .i64 0] 24))):=⟨(HL4.out.more hb5).bel,hsT,hb5'⟩
   have HMc:Hid _:=HMe.out (w5.alloc (.cells #[.slice aT T.length cT,.int .i64 0] 24)) (hsT.belowB hb5')
   have e1:(edg T:Int)≤180000:=by omega
   have e2:(d:Int)≤60:=by omega
   have e3:(txb T:Int)≤16777216:=by omega
   have e4:(T.length:Int)≤60:=by omega
   obtain ⟨f1,f2⟩:=hsz
   clear HS HT HSm HFn HWh HL4 HFl HMe hF hTs hT60 hTf hTy hTw hd hme hcz hok hTl hTn hsT hb5 hb5' xa0 xa1
   generalize oF (T.map Nx.nd)=F at *
   generalize edg T=ne at *
   generalize txb T=nx at *
   have t0:(w5.alloc (.cells #[.slice aT T.length cT,.int .i64 0] 24)).cell? ⟨w5.heap.size,0,none⟩=some (.slice aT T.length cT):=HA6.out.cell 0
   have t1:(w5.alloc (.cells #[.slice aT T.length cT,.int .i64 0] 24)).cell? ⟨w5.heap.size,1,none⟩=some (.int .i64 0):=HA6.out.cell 1
   have hg6:=HA6.out.lt
   go_wp2_with fail
   generalize (w5.alloc (.cells #[.slice aT T.length cT,.int .i64 0] 24))=w6 at *
   refine Calls.mono HMc.out ?_
   rintro e w7 ⟨rfl,hb7⟩
   have hb8:Below w7.heap.size w7 (w7.alloc (.cells #[.int .i64 0,.int .i64 T.length,.int .i64 ne,.int .i64 d,.int .i64 nx] 26)):=(Below.refl w7.heap.size w7).alloc (Nat.le_refl _) _
   have HL8:Hid (Lq w w5 (w7.alloc (.cells #[.int .i64 0,.int .i64 T.length,.int .i64 ne,.int .i64 d,.int .i64 nx] 26)) w5.heap.size w7.heap.size aT T cT 0 T.length ne d nx):=⟨HB5.out.1,HB5.out.2.1,(HB5.out.2.2.trans (hb7.mono HB5.out.2.2.size)).trans (hb8.mono (HB5.out.2.2.trans (hb7.mono HB5.out.2.2.size)).size),(HA6.out.belowAll hb7).belowAll hb8,AtN.new w7 26 _,Nat.le_refl _,Nat.lt_of_lt_of_le hg6 hb7.size⟩
   have HBc:Hid _:=HBy.out _ HL8.out.sc
   clear HA6 HB5 HMc HBy hb7 hb8 t0 t1 hg6
   have t0:=HL8.out.t.cell 0
   have t1:=HL8.out.t.cell 1
   simp only [List.getElem?_toArray,List.getElem?_cons_zero,List.getElem?_cons_succ] at t0 t1
   generalize w5.heap.size=gT at *
   go_wp2_with fail
   generalize (w7.alloc (.cells #[.int .i64 0,.int .i64 T.length,.int .i64 ne,.int .i64 d,.int .i64 nx] 26))=w8 at *
   generalize w7.heap.size=gM at *
   refine Calls.mono HBc.out ?_
   rintro e w9 ⟨rfl,hb9⟩
   have HL9:Hid (Lq w w5 w9 gT gM aT T cT 0 T.length ne d nx):=HL8.out.more hb9
   have HLa:Hid (Lq w w5 (w9.setCell ⟨gM,0,none⟩ (.int .i64 F.size)) gT gM aT T cT F.size T.length ne d nx):=HL9.out.set F.size
   have HLc:Hid _:=HLd.out _ HLa.out.bel
   clear HL8 HBc hb9 HLd t0 t1
   obtain ⟨y0,y1,y2,y3,y4⟩:=HL9.out.all
   have yf:=HL9.out.m.fz 0
   go_wp2_with fail
   generalize w9.setCell ⟨gM,0,none⟩ (.int .i64 F.size)=wa at *
   refine Calls.mono HLc.out ?_
   rintro e wb ⟨Y,aY,cY,rfl,hY,hsY,hYs,hbb⟩
   have hbc:Below wb.heap.size wb (wb.alloc (.cells #[.slice aY Y.length cY,.int .i64 0] 24)):=(Below.refl wb.heap.size wb).alloc (Nat.le_refl _) _
   have HLb:Hid (Lq w w5 (wb.alloc (.cells #[.slice aY Y.length cY,.int .i64 0] 24)) gT gM aT T cT F.size T.length ne d nx):=(HLa.out.more hbb).more hbc
   have HAb:Hid (AtN 24 (wb.alloc (.cells #[.slice aY Y.length cY,.int .i64 0] 24)) wb.heap.size #[.slice aY Y.length cY,.int .i64 0]):=AtN.new wb 24 _
   have HSc:Hid _:=HSs.out Y aY cY (wb.alloc (.cells #[.slice aY Y.length cY,.int .i64 0] 24)) (hsY.belowB hbc) hYs hY HLb.out.sc
   clear HL9 HLa HLc HSs hbb hbc hsY hYs hY y0 y1 y2 y3 y4 yf
   have t0:(wb.alloc (.cells #[.slice aY Y.length cY,.int .i64 0] 24)).cell? ⟨gT,0,none⟩=some (.slice aT T.length cT):=HLb.out.t.cell 0
   have t1:(wb.alloc (.cells #[.slice aY Y.length cY,.int .i64 0] 24)).cell? ⟨gT,1,none⟩=some (.int .i64 0):=HLb.out.t.cell 1
   have u0:(wb.alloc (.cells #[.slice aY Y.length cY,.int .i64 0] 24)).cell? ⟨wb.heap.size,0,none⟩=some (.slice aY Y.length cY):=HAb.out.cell 0
   have u1:(wb.alloc (.cells #[.slice aY Y.length cY,.int .i64 0] 24)).cell? ⟨wb.heap.size,1,none⟩=some (.int .i64 0):=HAb.out.cell 1
   go_wp2_with fail
   generalize (wb.alloc (.cells #[.slice aY Y.length cY,.int .i64 0] 24))=wc at *
   refine Calls.mono HSc.out ?_
   rintro e wd ⟨rfl,hbd⟩
   have HLe:Hid (Lq w w5 wd gT gM aT T cT F.size T.length ne d nx):=HLb.out.more hbd
   clear HLb HAb HSc hbd t0 t1 u0 u1
   have HU:Hid (Gv w w5 (wd.alloc (.cells #[.int .i64 1,.int .i64 0,.int .i64 0,.int .i64 0,.int .i64 0,.int .i64 0,.int .i64 1,.int .i64 0,.int .i64 0,.int .i64 0,.int .i64 0,.int .i64 0,.int .i64 1,.int .i64 0,.int .i64 0,.int .i64 0,.int .i64 0,.int .i64 0,.int .i64 1,.int .i64 0,.int .i64 0,.int .i64 0,.int .i64 0,.int .i64 0,.int .i64 1] 26)) gT gM wd.heap.size aT T cT F.size T.length ne d nx):=⟨HLe.out.more ((Below.refl _ _).alloc (Nat.le_refl _) _),AtN.new wd 26 _⟩
   clear HLe
   obtain ⟨gU,hgU⟩:∃gU,wd.heap.size=gU:=⟨_,rfl⟩
   rw [hgU] at HU
   go_wp2_with fail
   try rw [hgU]
   go_loopw [55] (fun iv wr=>∃i:Nat,iv=.int .i64 i∧i≤5∧Hid (Gv w w5 wr gT gM gU aT T cT F.size T.length ne d nx)) (fun iv _=>5-(intOf iv).toNat)
   case atStart=>exact ⟨0,rfl,by omega,HU⟩
   case round=>
    clear HU hgU
    obtain ⟨i,rfl,hi,HZ⟩:=hrel
    have hgl:=AtN.lt HZ.out.u
    have hml:=AtN.lt HZ.out.q.m
    by_cases hlt:i<5
    ·have HRl:Hid (∀(b n e f x:Int) W,Calls Tryz.prog 20 #[.agg #[.int .i64 b,.int .i64 n,.int .i64 e,.int .i64 f,.int .i64 x]] W fun r w'=>r=.returned (.bool (okL ⟨b,n,e,f,x⟩))∧Below W.heap.size W w'):=fun b n e f x W=>rokl_any ⟨b,n,e,f,x⟩ W
     rcases (by omega:i=0∨i=1∨i=2∨i=3∨i=4) with rfl|rfl|rfl|rfl|rfl
     ·have xu0:wr.cell? ⟨gU,0,none⟩=some (.int .i64 1):=HZ.out.u.cell 0
      have xu1:wr.cell? ⟨gU,1,none⟩=some (.int .i64 0):=HZ.out.u.cell 1
      have xu2:wr.cell? ⟨gU,2,none⟩=some (.int .i64 0):=HZ.out.u.cell 2
      have xu3:wr.cell? ⟨gU,3,none⟩=some (.int .i64 0):=HZ.out.u.cell 3
      have xu4:wr.cell? ⟨gU,4,none⟩=some (.int .i64 0):=HZ.out.u.cell 4
      obtain ⟨y0,y1,y2,y3,y4⟩:=HZ.out.q.all
      go_wp2_with fail
      refine (HRl.out _ _ _ _ _ _).mono ?_
      rintro e wx ⟨rfl,hbx⟩
      have HZx:Hid (Gv w w5 wx gT gM gU aT T cT F.size T.length ne d nx):=(HZ.out.more (Joins.below_alloc2 wr _ _)).more hbx
      have HLs:Hid (AtN 26 wx (wr.heap.size+1) #[.int .i64 ((F.size:Int)-1),.int .i64 (T.length:Int),.int .i64 (ne:Int),.int .i64 (d:Int),.int .i64 (nx:Int)]):=AtN.belowAll (mk_at (AtN.new (wr.alloc (.cells #[.int .i64 1,.int .i64 0,.int .i64 0,.int .i64 0,.int .i64 0] 26)) 26 #[.int .i64 ((F.size:Int)-1),.int .i64 (T.length:Int),.int .i64 (ne:Int),.int .i64 (d:Int),.int .i64 (nx:Int)]) (by simp)) hbx
      obtain ⟨kk,hkk⟩:∃kk,okL ⟨((F.size:Int)-1),(T.length:Int),(ne:Int),(d:Int),(nx:Int)⟩=kk:=⟨_,rfl⟩
      rw [hkk]
      have HKl:Hid (okL ⟨((F.size:Int)-1),(T.length:Int),(ne:Int),(d:Int),(nx:Int)⟩=kk):=hkk
      clear HZ HRl hbx hkk xu0 xu1 xu2 xu3 xu4 y0 y1 y2 y3 y4
      cases kk with
      | false=>
       clear HLl HKl HLs
       go_wp2_with fail
       go_roundw
       case rel=>exact ⟨1,by first|rfl|go_num,by omega,HZx⟩
       case measure=>simp [intOf]
      | true=>
       have HVc:Hid _:=HLl.out ((F.size:Int)-1) (T.length:Int) (ne:Int) (d:Int) (nx:Int) wx HZx.out.q.bel HKl.out (by omega)
       have xs0:wx.cell? ⟨wr.heap.size+1,0,none⟩=some (.int .i64 ((F.size:Int)-1)):=HLs.out.cell 0
       have xs1:wx.cell? ⟨wr.heap.size+1,1,none⟩=some (.int .i64 (T.length:Int)):=HLs.out.cell 1
       have xs2:wx.cell? ⟨wr.heap.size+1,2,none⟩=some (.int .i64 (ne:Int)):=HLs.out.cell 2
       have xs3:wx.cell? ⟨wr.heap.size+1,3,none⟩=some (.int .i64 (d:Int)):=HLs.out.cell 3
       have xs4:wx.cell? ⟨wr.heap.size+1,4,none⟩=some (.int .i64 (nx:Int)):=HLs.out.cell 4
       have hsl:=AtN.lt HLs.out
       clear HLl HLs
       go_wp2_with fail
       refine Calls.mono (Hid.out HVc) ?_
       rintro e wy ⟨aZ,cZ,rfl,hby⟩
       have HZy:Hid (Gv w w5 wy gT gM gU aT T cT F.size T.length ne d nx):=HZx.out.more hby
       clear HVc HZx hby HKl xs0 xs1 xs2 xs3 xs4
       go_wp2_with fail
       go_roundw
       case rel=>exact ⟨1,by first|rfl|go_num,by omega,HZy.out.more ((Below.refl _ _).alloc (Nat.le_refl _) _)⟩
       case measure=>simp [intOf]
     ·have xu0:wr.cell? ⟨gU,5,none⟩=some (.int .i64 0):=HZ.out.u.cell 5
      have xu1:wr.cell? ⟨gU,6,none⟩=some (.int .i64 1):=HZ.out.u.cell 6
      have xu2:wr.cell? ⟨gU,7,none⟩=some (.int .i64 0):=HZ.out.u.cell 7
      have xu3:wr.cell? ⟨gU,8,none⟩=some (.int .i64 0):=HZ.out.u.cell 8
      have xu4:wr.cell? ⟨gU,9,none⟩=some (.int .i64 0):=HZ.out.u.cell 9
      obtain ⟨y0,y1,y2,y3,y4⟩:=HZ.out.q.all
      go_wp2_with fail
      refine (HRl.out _ _ _ _ _ _).mono ?_
      rintro e wx ⟨rfl,hbx⟩
      have HZx:Hid (Gv w w5 wx gT gM gU aT T cT F.size T.length ne d nx):=(HZ.out.more (Joins.below_alloc2 wr _ _)).more hbx
      have HLs:Hid (AtN 26 wx (wr.heap.size+1) #[.int .i64 (F.size:Int),.int .i64 ((T.length:Int)-1),.int .i64 (ne:Int),.int .i64 (d:Int),.int .i64 (nx:Int)]):=AtN.belowAll (mk_at (AtN.new (wr.alloc (.cells #[.int .i64 0,.int .i64 1,.int .i64 0,.int .i64 0,.int .i64 0] 26)) 26 #[.int .i64 (F.size:Int),.int .i64 ((T.length:Int)-1),.int .i64 (ne:Int),.int .i64 (d:Int),.int .i64 (nx:Int)]) (by simp)) hbx
      obtain ⟨kk,hkk⟩:∃kk,okL ⟨(F.size:Int),((T.length:Int)-1),(ne:Int),(d:Int),(nx:Int)⟩=kk:=⟨_,rfl⟩
      rw [hkk]
      have HKl:Hid (okL ⟨(F.size:Int),((T.length:Int)-1),(ne:Int),(d:Int),(nx:Int)⟩=kk):=hkk
      clear HZ HRl hbx hkk xu0 xu1 xu2 xu3 xu4 y0 y1 y2 y3 y4
      cases kk with
      | false=>
       clear HLl HKl HLs
       go_wp2_with fail
       go_roundw
       case rel=>exact ⟨2,by first|rfl|go_num,by omega,HZx⟩
       case measure=>simp [intOf]
      | true=>
       have HVc:Hid _:=HLl.out (F.size:Int) ((T.length:Int)-1) (ne:Int) (d:Int) (nx:Int) wx HZx.out.q.bel HKl.out (by omega)
       have xs0:wx.cell? ⟨wr.heap.size+1,0,none⟩=some (.int .i64 (F.size:Int)):=HLs.out.cell 0
       have xs1:wx.cell? ⟨wr.heap.size+1,1,none⟩=some (.int .i64 ((T.length:Int)-1)):=HLs.out.cell 1
       have xs2:wx.cell? ⟨wr.heap.size+1,2,none⟩=some (.int .i64 (ne:Int)):=HLs.out.cell 2
       have xs3:wx.cell? ⟨wr.heap.size+1,3,none⟩=some (.int .i64 (d:Int)):=HLs.out.cell 3
       have xs4:wx.cell? ⟨wr.heap.size+1,4,none⟩=some (.int .i64 (nx:Int)):=HLs.out.cell 4
       have hsl:=AtN.lt HLs.out
       clear HLl HLs
       go_wp2_with fail
       refine Calls.mono (Hid.out HVc) ?_
       rintro e wy ⟨aZ,cZ,rfl,hby⟩
       have HZy:Hid (Gv w w5 wy gT gM gU aT T cT F.size T.length ne d nx):=HZx.out.more hby
       clear HVc HZx hby HKl xs0 xs1 xs2 xs3 xs4
       go_wp2_with fail
       go_roundw
       case rel=>exact ⟨2,by first|rfl|go_num,by omega,HZy.out.more ((Below.refl _ _).alloc (Nat.le_refl _) _)⟩
       case measure=>simp [intOf]
     ·have xu0:wr.cell? ⟨gU,10,none⟩=some (.int .i64 0):=HZ.out.u.cell 10
      have xu1:wr.cell? ⟨gU,11,none⟩=some (.int .i64 0):=HZ.out.u.cell 11
      have xu2:wr.cell? ⟨gU,12,none⟩=some (.int .i64 1):=HZ.out.u.cell 12
      have xu3:wr.cell? ⟨gU,13,none⟩=some (.int .i64 0):=HZ.out.u.cell 13
      have xu4:wr.cell? ⟨gU,14,none⟩=some (.int .i64 0):=HZ.out.u.cell 14
      obtain ⟨y0,y1,y2,y3,y4⟩:=HZ.out.q.all
      go_wp2_with fail
      refine (HRl.out _ _ _ _ _ _).mono ?_
      rintro e wx ⟨rfl,hbx⟩
      have HZx:Hid (Gv w w5 wx gT gM gU aT T cT F.size T.length ne d nx):=(HZ.out.more (Joins.below_alloc2 wr _ _)).more hbx
      have HLs:Hid (AtN 26 wx (wr.heap.size+1) #[.int .i64 (F.size:Int),.int .i64 (T.length:Int),.int .i64 ((ne:Int)-1),.int .i64 (d:Int),.int .i64 (nx:Int)]):=AtN.belowAll (mk_at (AtN.new (wr.alloc (.cells #[.int .i64 0,.int .i64 0,.int .i64 1,.int .i64 0,.int .i64 0] 26)) 26 #[.int .i64 (F.size:Int),.int .i64 (T.length:Int),.int .i64 ((ne:Int)-1),.int .i64 (d:Int),.int .i64 (nx:Int)]) (by simp)) hbx
      obtain ⟨kk,hkk⟩:∃kk,okL ⟨(F.size:Int),(T.length:Int),((ne:Int)-1),(d:Int),(nx:Int)⟩=kk:=⟨_,rfl⟩
      rw [hkk]
      have HKl:Hid (okL ⟨(F.size:Int),(T.length:Int),((ne:Int)-1),(d:Int),(nx:Int)⟩=kk):=hkk
      clear HZ HRl hbx hkk xu0 xu1 xu2 xu3 xu4 y0 y1 y2 y3 y4
      cases kk with
      | false=>
       clear HLl HKl HLs
       go_wp2_with fail
       go_roundw
       case rel=>exact ⟨3,by first|rfl|go_num,by omega,HZx⟩
       case measure=>simp [intOf]
      | true=>
       have HVc:Hid _:=HLl.out (F.size:Int) (T.length:Int) ((ne:Int)-1) (d:Int) (nx:Int) wx HZx.out.q.bel HKl.out (by omega)
       have xs0:wx.cell? ⟨wr.heap.size+1,0,none⟩=some (.int .i64 (F.size:Int)):=HLs.out.cell 0
       have xs1:wx.cell? ⟨wr.heap.size+1,1,none⟩=some (.int .i64 (T.length:Int)):=HLs.out.cell 1
       have xs2:wx.cell? ⟨wr.heap.size+1,2,none⟩=some (.int .i64 ((ne:Int)-1)):=HLs.out.cell 2
       have xs3:wx.cell? ⟨wr.heap.size+1,3,none⟩=some (.int .i64 (d:Int)):=HLs.out.cell 3
       have xs4:wx.cell? ⟨wr.heap.size+1,4,none⟩=some (.int .i64 (nx:Int)):=HLs.out.cell 4
       have hsl:=AtN.lt HLs.out
       clear HLl HLs
       go_wp2_with fail
       refine Calls.mono (Hid.out HVc) ?_
       rintro e wy ⟨aZ,cZ,rfl,hby⟩
       have HZy:Hid (Gv w w5 wy gT gM gU aT T cT F.size T.length ne d nx):=HZx.out.more hby
       clear HVc HZx hby HKl xs0 xs1 xs2 xs3 xs4
       go_wp2_with fail
       go_roundw
       case rel=>exact ⟨3,by first|rfl|go_num,by omega,HZy.out.more ((Below.refl _ _).alloc (Nat.le_refl _) _)⟩
       case measure=>simp [intOf]
     ·have xu0:wr.cell? ⟨gU,15,none⟩=some (.int .i64 0):=HZ.out.u.cell 15
      have xu1:wr.cell? ⟨gU,16,none⟩=some (.int .i64 0):=HZ.out.u.cell 16
      have xu2:wr.cell? ⟨gU,17,none⟩=some (.int .i64 0):=HZ.out.u.cell 17
      have xu3:wr.cell? ⟨gU,18,none⟩=some (.int .i64 1):=HZ.out.u.cell 18
      have xu4:wr.cell? ⟨gU,19,none⟩=some (.int .i64 0):=HZ.out.u.cell 19
      obtain ⟨y0,y1,y2,y3,y4⟩:=HZ.out.q.all
      go_wp2_with fail
      refine (HRl.out _ _ _ _ _ _).mono ?_
      rintro e wx ⟨rfl,hbx⟩
      have HZx:Hid (Gv w w5 wx gT gM gU aT T cT F.size T.length ne d nx):=(HZ.out.more (Joins.below_alloc2 wr _ _)).more hbx
      have HLs:Hid (AtN 26 wx (wr.heap.size+1) #[.int .i64 (F.size:Int),.int .i64 (T.length:Int),.int .i64 (ne:Int),.int .i64 ((d:Int)-1),.int .i64 (nx:Int)]):=AtN.belowAll (mk_at (AtN.new (wr.alloc (.cells #[.int .i64 0,.int .i64 0,.int .i64 0,.int .i64 1,.int .i64 0] 26)) 26 #[.int .i64 (F.size:Int),.int .i64 (T.length:Int),.int .i64 (ne:Int),.int .i64 ((d:Int)-1),.int .i64 (nx:Int)]) (by simp)) hbx
      obtain ⟨kk,hkk⟩:∃kk,okL ⟨(F.size:Int),(T.length:Int),(ne:Int),((d:Int)-1),(nx:Int)⟩=kk:=⟨_,rfl⟩
      rw [hkk]
      have HKl:Hid (okL ⟨(F.size:Int),(T.length:Int),(ne:Int),((d:Int)-1),(nx:Int)⟩=kk):=hkk
      clear HZ HRl hbx hkk xu0 xu1 xu2 xu3 xu4 y0 y1 y2 y3 y4
      cases kk with
      | false=>
       clear HLl HKl HLs
       go_wp2_with fail
       go_roundw
       case rel=>exact ⟨4,by first|rfl|go_num,by omega,HZx⟩
       case measure=>simp [intOf]
      | true=>
       have HVc:Hid _:=HLl.out (F.size:Int) (T.length:Int) (ne:Int) ((d:Int)-1) (nx:Int) wx HZx.out.q.bel HKl.out (by omega)
       have xs0:wx.cell? ⟨wr.heap.size+1,0,none⟩=some (.int .i64 (F.size:Int)):=HLs.out.cell 0
       have xs1:wx.cell? ⟨wr.heap.size+1,1,none⟩=some (.int .i64 (T.length:Int)):=HLs.out.cell 1
       have xs2:wx.cell? ⟨wr.heap.size+1,2,none⟩=some (.int .i64 (ne:Int)):=HLs.out.cell 2
       have xs3:wx.cell? ⟨wr.heap.size+1,3,none⟩=some (.int .i64 ((d:Int)-1)):=HLs.out.cell 3
       have xs4:wx.cell? ⟨wr.heap.size+1,4,none⟩=some (.int .i64 (nx:Int)):=HLs.out.cell 4
       have hsl:=AtN.lt HLs.out
       clear HLl HLs
       go_wp2_with fail
       refine Calls.mono (Hid.out HVc) ?_
       rintro e wy ⟨aZ,cZ,rfl,hby⟩
       have HZy:Hid (Gv w w5 wy gT gM gU aT T cT F.size T.length ne d nx):=HZx.out.more hby
       clear HVc HZx hby HKl xs0 xs1 xs2 xs3 xs4
       go_wp2_with fail
       go_roundw
       case rel=>exact ⟨4,by first|rfl|go_num,by omega,HZy.out.more ((Below.refl _ _).alloc (Nat.le_refl _) _)⟩
       case measure=>simp [intOf]
     ·have xu0:wr.cell? ⟨gU,20,none⟩=some (.int .i64 0):=HZ.out.u.cell 20
      have xu1:wr.cell? ⟨gU,21,none⟩=some (.int .i64 0):=HZ.out.u.cell 21
      have xu2:wr.cell? ⟨gU,22,none⟩=some (.int .i64 0):=HZ.out.u.cell 22
      have xu3:wr.cell? ⟨gU,23,none⟩=some (.int .i64 0):=HZ.out.u.cell 23
      have xu4:wr.cell? ⟨gU,24,none⟩=some (.int .i64 1):=HZ.out.u.cell 24
      obtain ⟨y0,y1,y2,y3,y4⟩:=HZ.out.q.all
      go_wp2_with fail
      refine (HRl.out _ _ _ _ _ _).mono ?_
      rintro e wx ⟨rfl,hbx⟩
      have HZx:Hid (Gv w w5 wx gT gM gU aT T cT F.size T.length ne d nx):=(HZ.out.more (Joins.below_alloc2 wr _ _)).more hbx
      have HLs:Hid (AtN 26 wx (wr.heap.size+1) #[.int .i64 (F.size:Int),.int .i64 (T.length:Int),.int .i64 (ne:Int),.int .i64 (d:Int),.int .i64 ((nx:Int)-1)]):=AtN.belowAll (mk_at (AtN.new (wr.alloc (.cells #[.int .i64 0,.int .i64 0,.int .i64 0,.int .i64 0,.int .i64 1] 26)) 26 #[.int .i64 (F.size:Int),.int .i64 (T.length:Int),.int .i64 (ne:Int),.int .i64 (d:Int),.int .i64 ((nx:Int)-1)]) (by simp)) hbx
      obtain ⟨kk,hkk⟩:∃kk,okL ⟨(F.size:Int),(T.length:Int),(ne:Int),(d:Int),((nx:Int)-1)⟩=kk:=⟨_,rfl⟩
      rw [hkk]
      have HKl:Hid (okL ⟨(F.size:Int),(T.length:Int),(ne:Int),(d:Int),((nx:Int)-1)⟩=kk):=hkk
      clear HZ HRl hbx hkk xu0 xu1 xu2 xu3 xu4 y0 y1 y2 y3 y4
      cases kk with
      | false=>
       clear HLl HKl HLs
       go_wp2_with fail
       go_roundw
       case rel=>exact ⟨5,by first|rfl|go_num,by omega,HZx⟩
       case measure=>simp [intOf]
      | true=>
       have HVc:Hid _:=HLl.out (F.size:Int) (T.length:Int) (ne:Int) (d:Int) ((nx:Int)-1) wx HZx.out.q.bel HKl.out (by omega)
       have xs0:wx.cell? ⟨wr.heap.size+1,0,none⟩=some (.int .i64 (F.size:Int)):=HLs.out.cell 0
       have xs1:wx.cell? ⟨wr.heap.size+1,1,none⟩=some (.int .i64 (T.length:Int)):=HLs.out.cell 1
       have xs2:wx.cell? ⟨wr.heap.size+1,2,none⟩=some (.int .i64 (ne:Int)):=HLs.out.cell 2
       have xs3:wx.cell? ⟨wr.heap.size+1,3,none⟩=some (.int .i64 (d:Int)):=HLs.out.cell 3
       have xs4:wx.cell? ⟨wr.heap.size+1,4,none⟩=some (.int .i64 ((nx:Int)-1)):=HLs.out.cell 4
       have hsl:=AtN.lt HLs.out
       clear HLl HLs
       go_wp2_with fail
       refine Calls.mono (Hid.out HVc) ?_
       rintro e wy ⟨aZ,cZ,rfl,hby⟩
       have HZy:Hid (Gv w w5 wy gT gM gU aT T cT F.size T.length ne d nx):=HZx.out.more hby
       clear HVc HZx hby HKl xs0 xs1 xs2 xs3 xs4
       go_wp2_with fail
       go_roundw
       case rel=>exact ⟨5,by first|rfl|go_num,by omega,HZy.out.more ((Below.refl _ _).alloc (Nat.le_refl _) _)⟩
       case measure=>simp [intOf]
    ·have hlt':¬(i:Int)<5:=by omega
     have HBz:Hid (Below w.heap.size w wr):=HZ.out.q.bel
     go_wp2_with fail
     go_ret
     exact ⟨rfl,HBz.out⟩
set_option maxRecDepth 100000 in
theorem lifted (os:Os) (started:os.Started) (H:Type) (enc:TypeId × Value→H) :
  ReturnsInHanded {} Tryz.checked os 6 .any (fun w args=>(Rows.oldfileLimitsSpec.pre enc Tryz.prog Tryz.f6 [] false w args∧laidMetH Tryz.prog laid16 w)∧sizedMet enc Tryz.prog Tryz.f6 (OpenSpec.ofChange Rows.oldfileLimitsSpec) false w args)
   (Rows.oldfileLimitsSpec.post enc Tryz.prog Tryz.f6 false true false false):=by
 refine returnsInHanded_of_change_and (C:=Tryz.checked) (X:=fun w _=>laidMetH Tryz.prog laid16 w) (fun _ _ _ hh h=>h.of_heap hh) own started (by kernel_rfl) Tryz.func6
  (ChangeSpec.witness_shaped (enc:=enc) (C:=Tryz.checked) (os:=os) (X:=fun w _=>laidMetH Tryz.prog laid16 w) false (World.doorLaid Tryz.prog 400 os) #[.agg #[.slice none 0 0,.int .i64 0]] 8 rfl (World.shaped_of_RefB (by kernel_rfl) (by kernel_rfl)) (by kernel_rfl) (by kernel_rfl) (by kernel_rfl) (door16 os _)) ?_
 intro W base args ds gs before hval0 hW _ _ hL _
 have hval:∀(j:Nat) t v,Tryz.f6.params[j]? = some t→args[j]? = some v→Value.okWide Tryz.prog W .any base t v:=hval0
 have hW':=hW
 obtain ⟨p,q,hA0,hV,rfl,hfz,hnd⟩:=hW
 have hA:DataW.TrodAll enc Tryz.prog W 0 (fun _=>true) true Tryz.f6.params.toList args.toList ds p:=hA0
 rw [Tryz.params6] at hA hval
 obtain ⟨v0,vs0,d0,ds0,p0,q0,hargs,rfl,rfl,h0,r0⟩:=trodAll_cons hA
 obtain ⟨rfl,rfl,rfl⟩:=trodAll_nil r0
 obtain rfl:args=#[v0]:=by cases args;simp_all
 obtain ⟨rfl,rfl⟩:=trodVars_none hV
 have K0:=h0
 have lt0:∀x ∈ p0,x.block<W.heap.size:=by obtain ⟨m,hm⟩:=K0;exact DataW.trod_lt m _ _ _ hm
 obtain ⟨X0,a0,c0,rt0,rfl,w0⟩:=open_scene Tryz.underlying24 (by kernel_rfl) (by kernel_rfl) Tryz.underlying22 Tryz.underlying3 Tryz.underlying51 (by kernel_rfl) rfl rfl rfl rfl (by kernel_rfl) (by kernel_rfl) (by kernel_rfl) (by kernel_rfl) Tryz.underlying3 Tryz.underlying48 Tryz.underlying47 Tryz.underlying49 Tryz.underlying2 Tryz.underlying9 Tryz.underlying3 (by kernel_rfl) (by kernel_rfl) (by kernel_rfl) (hval 0 24 v0 rfl rfl) h0
 clear hA0 hval0
 refine (walk X0 a0 c0 rt0 W w0 (tabs16_of hL)).mono fun e W' ⟨he,bel⟩=>?_
 subst he
 exact ⟨_,rfl,_,_,_,[],_,[],hW',trodAll_mk1 (shut_bool Tryz.underlying4 _),(trodAll_cons_mk (Below.trod laidOut (by kernel_rfl) (of_decide_eq_true (by kernel_rfl)) K0 bel lt0) trodAll_mk0),rfl,bel.frame _,fun h=>by cases h⟩
theorem row:Rows.oldfileLimitsRow.holds Tryz.pinned (OpenSpec.ofChange Rows.oldfileLimitsSpec):=
 OpenClaim.holds_of_wide 6 Tryz.f6 rfl rfl rfl rfl rfl rfl rfl ⟨rfl,rfl,rfl,rfl,rfl⟩ rfl rfl rfl rfl rfl (by kernel_rfl) Tryz.func6 (by kernel_rfl)
  (of_decide_eq_true (by kernel_rfl)) (by unfold Func.isWrapper;first|(rw [if_pos (by decide +kernel)];kernel_rfl)|(rw [if_neg (by decide +kernel)];exact ⟨rfl,rfl⟩))
  (fun os started H enc _=>lifted os started H enc)
theorem plain (f:FuncId) (fn:Func) (hf:Tryz.pinned.checked.prog.funcNamed Rows.oldfileLimitsRow.func=some f) (hfn:Tryz.pinned.checked.prog.funcs[f]? = some fn) :
  true=Tryz.pinned.checked.prog.looks []∧∀(j:Nat) t,fn.params[j]? = some t→Tryz.pinned.checked.prog.wantsStandIn t=false:=by
 obtain rfl:f=6:=Option.some.inj ((show Tryz.prog.funcNamed Rows.oldfileLimitsRow.func=some 6 by kernel_rfl).symm.trans hf) |>.symm
 obtain rfl:fn=Tryz.f6:=(Option.some.inj (Tryz.func6.symm.trans hfn)).symm
 refine ⟨by kernel_rfl,fun j t ht=>?_⟩
 have hm:=Array.mem_of_getElem? ht
 have hall:(Tryz.f6.params.toList.all fun u=>!Tryz.prog.wantsStandIn u)=true:=by kernel_rfl
 exact (show Tryz.prog.wantsStandIn t=false by simpa using List.all_eq_true.1 hall t (by simpa using hm))
theorem over:Rows.OldfileLimitsCardSaid:=
 Claim7.holds_tied_plain_at .later [] _ _ _ _ row (fun _ h=>by cases h) (by kernel_rfl) (fun _ h=>by cases h) oldfileLimits_row_tie rfl ⟨rfl,rfl⟩ (by kernel_rfl) rfl plain (by kernel_rfl)
end Go.Proofs.YtgoffkfpdigeeaaGreatDoor.oldfileLimits
namespace Go.Proofs.YtgoffkfpdigeeaaGreatDoor
theorem oldfileLimits_holds:Rows.OldfileLimitsCardSaid:=oldfileLimits.over
#print axioms oldfileLimits_holds
end Go.Proofs.YtgoffkfpdigeeaaGreatDoor
