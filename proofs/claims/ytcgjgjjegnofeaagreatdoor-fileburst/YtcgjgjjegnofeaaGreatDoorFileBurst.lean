/- For every scene that is right and typed, every two ints at and every uint32 mask: with bits changed within 32 on end of one section's payload of the file that the program's Save answers, its Load tells a wrong sum, just if the payload is another one (scenes greater than the law plays with, and places outside, are let go by the law itself); the arguments read afterwards as before. The package schema's tables hold what the program's text lays into them when the call begins (the card ties them). -/
import Derived.Test.YtcgjgjjegnofeaaGreatDoorRows
import Derived.Test.YtcgjgjjegnofeaaGreatDoorCards
import Derived.Test.YtcgjgjjegnofeaaGreatDoorTie
import Derived.WalkKit
import Derived.ProofKit
import Derived.OpenShut
import Derived.ShutString
import Derived.Below
import Derived.Deep.RegionHeld3
import Derived.Lib.QuietBelow
import Derived.BigQuiet
import Derived.Test.YtcgjgjjegnofeaaGreatDoorPC42
import Derived.Test.YtcgjgjjegnofeaaGreatDoorPC43
import Derived.Test.YtcgjgjjegnofeaaGreatDoorPC44
import Derived.Test.YtcgjgjjegnofeaaGreatDoorPC02
import Derived.ChangeOld
import Derived.LaidMore
import Derived.SevenTiedAt
namespace Go.Proofs.YtcgjgjjegnofeaaGreatDoor.fileBurst
open Go.ChangeShapes Go.WideShapes Go.ChangeAt Go.RowKit
open Go.ChangeMaps (open_string shut_string)
set_option linter.unusedVariables false
theorem own:ownKnob Tryz.prog.godebug=none:=by kernel_rfl
theorem laidOut:laidOutB Tryz.prog=true:=by kernel_rfl
structure Lq (w W:World) (a:Option Addr) (X:List Nx) (c:Nat) (r x y:Int):Prop where
 s:Lw w W a X c r
 t:AtN 45 W (w.heap.size+1) #[.int .i64 x,.int .i64 y]
section
variable {w W W':World} {a:Option Addr} {X:List Nx} {c:Nat} {r x y:Int}
theorem Lq.more (h:Lq w W a X c r x y) (hb:Below W.heap.size W W'):Lq w W' a X c r x y:=⟨h.s.more hb,h.t.belowAll hb⟩
theorem Lq.start (w:World) (a:Option Addr) (X:List Nx) (c:Nat) (r x y:Int):Lq w ((w.alloc (.cells #[.slice a X.length c,.int .i64 r] 24)).alloc (.cells #[.int .i64 x,.int .i64 y] 45)) a X c r x y:=
 ⟨(Lw.start w a X c r).more ((Below.refl _ _).alloc (Nat.le_refl _) _),mk_at (AtN.new (w.alloc _) 45 _) (by simp)⟩
end
theorem secAt_take {w:World} {b o:Nat} {L:List Sec} (h:SecAt w b o L) (n:Nat):SecAt w b o (L.take n):=fun j hj=>by
 have hj2:j<L.length:=by rw [List.length_take] at hj;omega
 have e:(L.take n)[j]=L[j]:=List.getElem_take
 rw [e]
 exact h j hj2
theorem neq_text (N p:ByteArray):(N.toList==p.toList)=decide (N=p):=by
 rw [ByteArray.toList_eq,ByteArray.toList_eq,Bool.eq_iff_iff]
 simp only [beq_iff_eq,decide_eq_true_eq]
 exact ⟨fun h=>ba_ext h,fun h=>by rw [h]⟩
def buF (F Nw p E0 E1 Y:ByteArray) (An:Nat) (kE:Int) (b0:Nat):Nat→Value→World→Prop
 | 0,v,_|5,v,_=>v=.string F
 | 1,v,_|6,v,_=>v=.int .i64 (An:Int)
 | 2,v,_=>v=.string E0
 | 3,v,_=>v=.string Nw
 | 4,v,_=>v=.string (E0++Nw)
 | 7,v,_=>v=.string p
 | 8,v,_=>v=.int .i64 p.size
 | 9,v,_=>v=.int .i64 ((An:Int)+p.size)
 | 10,v,_=>v=.string E1
 | 11,v,_=>v=.string Y
 | 12,v,_=>v=.agg #[.int .i64 16777216,.int .i64 16777216,.int .i64 16777216,.int .i64 16777216,.int .i64 16777216]
 | 13,v,_|14,v,_=>∃(n cz:Nat) (a:Option Addr) (rz:Int),v=.tuple #[.agg #[.slice a n cz,.int .i64 rz],.int .i64 kE]
 | 15,v,_=>∃(n cz:Nat) (a:Option Addr) (rz:Int),v=.agg #[.slice a n cz,.int .i64 rz]
 | 16,v,_|19,v,_=>v=.int .i64 kE
 | 17,v,W=>∃(g:Nat) (x0 x1:Value),v=.pointer (some ⟨g,0,none⟩)∧b0≤g∧AtN 24 W g #[x0,x1]
 | _,_,_=>True
theorem buF_below {F Nw p E0 E1 Y:ByteArray} {An:Nat} {kE:Int} {b0:Nat} {W W':World} (hb:Below W.heap.size W W'):∀j v,buF F Nw p E0 E1 Y An kE b0 j v W→buF F Nw p E0 E1 Y An kE b0 j v W'
 | 0,_,h|1,_,h|2,_,h|3,_,h|4,_,h|5,_,h|6,_,h|7,_,h|8,_,h|9,_,h|10,_,h|11,_,h|12,_,h|13,_,h|14,_,h|15,_,h|16,_,h|18,_,h|19,_,h=>h
 | 17,_,h=>by
  obtain ⟨g,x0,x1,h1,h2,h3⟩:=h
  exact ⟨g,x0,x1,h1,h2,h3.belowAll hb⟩
 | _+20,_,_=>trivial
theorem buF_set {F Nw p E0 E1 Y:ByteArray} {An:Nat} {kE:Int} {b0:Nat} {W:World} {g:Nat} {x0 x1:Value} (hA:AtN 24 W g #[x0,x1]) (y0 y1:Value):∀j v,buF F Nw p E0 E1 Y An kE b0 j v W→buF F Nw p E0 E1 Y An kE b0 j v ((W.setCell ⟨g,0,none⟩ y0).setCell ⟨g,1,none⟩ y1)
 | 0,_,h|1,_,h|2,_,h|3,_,h|4,_,h|5,_,h|6,_,h|7,_,h|8,_,h|9,_,h|10,_,h|11,_,h|12,_,h|13,_,h|14,_,h|15,_,h|16,_,h|18,_,h|19,_,h=>h
 | 17,_,h=>by
  obtain ⟨g',z0,z1,h1,h2,h3⟩:=h
  by_cases e:g=g'
  ·subst e
   exact ⟨g,y0,y1,h1,h2,by simpa using (h3.set 0 y0).set 1 y1⟩
  ·exact ⟨g',z0,z1,h1,h2,(h3.setOther ⟨g,0,none⟩ e y0).setOther ⟨g,1,none⟩ e y1⟩
 | _+20,_,_=>trivial
set_option maxRecDepth 10000 in
set_option maxHeartbeats 8000000 in
theorem walk (X0:List Nx) (a0:Option Addr) (c0:Nat) (r0:Int) (x1 y1:Int) (a2:Int) (w:World) (w0:IsSc w a0 X0 r0) (w1:(Lit.int .i64 x1).wf=true∧(Lit.int .i64 y1).wf=true) (w2:(Lit.int .u32 a2).wf=true) (hT:Tabs12 w) :
  Calls Tryz.prog 8 #[.agg #[.slice a0 X0.length c0,.int .i64 r0],.agg #[.int .i64 x1,.int .i64 y1],.int .u32 a2] w fun e w'=>e=.returned (.bool true)∧Below w.heap.size w w':=by
 have HA:Hid (∀W,Below w.heap.size w W→Calls Tryz.prog 10 #[] W fun e w'=>e=.returned (.bool true)∧Below W.heap.size W w'):=fun W hb=>awake_any W (hT.on hb)
 have HT:Hid (Tabs12 w):=hT
 have HS:Hid (IsSc w a0 X0 r0):=w0
 have HL:=Lq.start w a0 X0 c0 r0 x1 y1
 have HL:Hid (Lq w _ a0 X0 c0 r0 x1 y1):=HL
 have b2:=bounds_u32 w2
 have HB2:Hid (0≤a2∧a2<4294967296):=⟨by omega,by omega⟩
 clear w0 hT w1 w2 b2
 go_enter Tryz.func8,Tryz.ntmps8
 go_wp2_with fail
 refine Calls.mono (HA.out _ HL.out.s.bel) ?_
 rintro e w2 ⟨rfl,hb2⟩
 have HL2:Hid (Lq w w2 a0 X0 c0 r0 x1 y1):=HL.out.more hb2
 clear HL hb2
 have xa0:=HL2.out.s.c0
 have xa1:=HL2.out.s.c1
 have HG:Hid (Calls Tryz.prog 11 #[.agg #[.slice a0 X0.length c0,.int .i64 r0]] w2 fun e w'=>GreatOut X0 w2 w' e):=sgreat_any X0 a0 c0 r0 w2 (HL2.out.s.sc HS.out)
 go_wp2_with fail
 refine Calls.mono HG.out ?_
 rintro e w3 ⟨g,rfl,hg,hb3⟩
 have HL3:Hid (Lq w w3 a0 X0 c0 r0 x1 y1):=HL2.out.more hb3
 clear HG HL2 hb3 xa0 xa1
 cases g with
 | true=>
  go_wp2_with fail
  refine Calls.mono (HA.out _ HL3.out.s.bel) ?_
  rintro e wz ⟨rfl,hbz⟩
  have HB:Hid (Below w.heap.size w wz):=(HL3.out.more hbz).s.bel
  clear HL3 hbz
  go_wp2_with fail
  go_ret
  exact ⟨rfl,HB.out⟩
 | false=>
  have HSm:Hid (Small X0∧X0.length≤60):=hg rfl
  have HFn:Hid (FnX X0):=HS.out.fn
  have xa0:=HL3.out.s.c0
  have xa1:=HL3.out.s.c1
  have HW:Hid _:=rwhole_any X0 a0 c0 r0 w3 (HL3.out.s.sc HS.out) HSm.out.1 HFn.out
  clear hg
  go_wp2_with fail
  refine Calls.mono HW.out ?_
  rintro e w4 ⟨bw,rfl,hbw,hb4⟩
  have HL4:Hid (Lq w w4 a0 X0 c0 r0 x1 y1):=HL3.out.more hb4
  have HBw:Hid (bw=true↔Whole X0 r0):=hbw
  clear HW HL3 hb4 xa0 xa1 hbw
  cases bw with
  | false=>
   clear HBw
   go_wp2_with fail
   refine Calls.mono (HA.out _ HL4.out.s.bel) ?_
   rintro e wz ⟨rfl,hbz⟩
   have HB:Hid (Below w.heap.size w wz):=(HL4.out.more hbz).s.bel
   clear HL4 hbz
   go_wp2_with fail
   go_ret
   exact ⟨rfl,HB.out⟩
  | true=>
   have hWh:Whole X0 r0:=HBw.out.1 rfl
   obtain ⟨d,hd⟩:=depth_there X0 r0
   have hme:=me_few HSm.out.1 HSm.out.2 HFn.out hWh hd
   have hsz:=cF_sizes HSm.out.1 HSm.out.2 HFn.out hWh
   have hcs:=can_few HSm.out.1 HSm.out.2 HFn.out hWh
   have hb:¬wL.b<((cF X0 r0).size:Int):=by show ¬(16777216:Int)<(cF X0 r0).size;omega
   have HSv:Hid (∀W,Below w.heap.size w W→Calls Tryz.prog 12 #[.agg #[.slice a0 X0.length c0,.int .i64 r0],.agg #[.int .i64 16777216,.int .i64 16777216,.int .i64 16777216,.int .i64 16777216,.int .i64 16777216]] W fun e w'=>e=.returned (.tuple #[.string (cF X0 r0),.int .i64 0])∧Below W.heap.size W w'):=fun W hB=>by
    refine Calls.mono (pfsave_any X0 a0 c0 r0 wL W (HS.out.sc.belowB hB) HSm.out.1 HFn.out (HT.out.on hB) (fun q=>can_sz HSm.out.1 HSm.out.2 HFn.out q)) ?_
    rintro e w' ⟨B,k,rfl,h1,h2⟩
    obtain ⟨rfl,rfl⟩:=(sv_make wL_ok hWh hd (wide_in HSm.out.2 hme) hb).uniq h1
    exact ⟨rfl,h2⟩
   have hp:(pPut mD 2 (secs2 (cA X0 r0) (cC X0 r0))).2=0:=secs2_put (by omega) (by omega)
   have hbk:=back_math mD 2 (secs2 (cA X0 r0) (cC X0 r0)) hp
   have hFl:(cF X0 r0).data.toList=(pPut mD 2 (secs2 (cA X0 r0) (cC X0 r0))).1:=by unfold cF;rw [List.toList_toArray]
   have HRg:Hid (∀W,Calls Tryz.prog 24 #[.string ⟨#[68,73,79,82]⟩,.string (cF X0 r0)] W fun e w'=>FGotC W w' e (0,2,secs2 (cA X0 r0) (cC X0 r0))):=fun W=>by
    have h:=rget2_any mD (cF X0 r0) W (by omega)
    rw [hFl,hbk] at h
    exact h
   have HLd:Hid (∀(W:World) (i:Nat) (hi:i<(secs2 (cA X0 r0) (cC X0 r0)).length) (c:List UInt8),Below w.heap.size w W→c.length=(secs2 (cA X0 r0) (cC X0 r0))[i].2.size→(crc c=crc (secs2 (cA X0 r0) (cC X0 r0))[i].2.data.toList↔c=(secs2 (cA X0 r0) (cC X0 r0))[i].2.data.toList)→∀Y:ByteArray,Y.data.toList=aheadL mD.data.toList 2 (secs2 (cA X0 r0) (cC X0 r0)) i (secs2 (cA X0 r0) (cC X0 r0))[i]++(c++behindL (secs2 (cA X0 r0) (cC X0 r0)) i (secs2 (cA X0 r0) (cC X0 r0))[i])→Y.size≤100000000→Calls Tryz.prog 15 #[.string Y,.agg #[.int .i64 16777216,.int .i64 16777216,.int .i64 16777216,.int .i64 16777216,.int .i64 16777216]] W fun e w'=>∃(Z:List Nx) (a:Option Addr) (cz:Nat) (rz kz:Int),e=.returned (.tuple #[.agg #[.slice a Z.length cz,.int .i64 rz],.int .i64 kz])∧((c=(secs2 (cA X0 r0) (cC X0 r0))[i].2.data.toList∧kz=0)∨(c≠(secs2 (cA X0 r0) (cC X0 r0))[i].2.data.toList∧kz=5))∧Below W.heap.size W w'):=
    fun W i hi c hB hl hc Y hY hYz=>pfburst_any W (HT.out.on hB) HSm.out.1 HSm.out.2 HFn.out hWh hd i hi c hl hc Y hY hYz
   have HPt:Hid (∀(W:World) (i gS cS:Nat),i<2→SecAt W gS 0 (secs2 (cA X0 r0) (cC X0 r0))→Calls Tryz.prog 25 #[.string ⟨#[68,73,79,82]⟩,.int .i64 2,.slice (some ⟨gS,0,none⟩) (i+1) cS] W fun e w'=>e=.returned (.tuple #[.string ⟨(pPut mD 2 ((secs2 (cA X0 r0) (cC X0 r0)).take (i+1))).1.toArray⟩,.int .i64 0])∧Below W.heap.size W w'):=fun W i gS cS hi hW=>by
    have hlen:(secs2 (cA X0 r0) (cC X0 r0)).length=2:=rfl
    have h:=rput_any mD 2 (some ⟨gS,0,none⟩) cS gS 0 ((secs2 (cA X0 r0) (cC X0 r0)).take (i+1)) W (fun _=>rfl) (secAt_take hW _) (fun s hs=>by
     have hs:=List.mem_of_mem_take hs
     simp only [secs2,List.mem_cons,List.not_mem_nil,or_false] at hs
     rcases hs with rfl|rfl
     ·show (cA X0 r0).size≤4000000;omega
     ·show (cC X0 r0).size≤4000000;omega)
    rw [show ((secs2 (cA X0 r0) (cC X0 r0)).take (i+1)).length=i+1 by rw [List.length_take,hlen];omega,head_split mD 2 _ i (by rw [hlen];exact hi) hp] at h
    rw [head_split mD 2 _ i (by rw [hlen];exact hi) hp]
    exact h
   have HHd:Hid (∀i (hi:i<(secs2 (cA X0 r0) (cC X0 r0)).length),pPut mD 2 ((secs2 (cA X0 r0) (cC X0 r0)).take (i+1))=(aheadL mD.data.toList 2 (secs2 (cA X0 r0) (cC X0 r0)) i (secs2 (cA X0 r0) (cC X0 r0))[i]++((secs2 (cA X0 r0) (cC X0 r0))[i].2.data.toList++four (crc (secs2 (cA X0 r0) (cC X0 r0))[i].2.data.toList)),0)∧(cF X0 r0).data.toList=aheadL mD.data.toList 2 (secs2 (cA X0 r0) (cC X0 r0)) i (secs2 (cA X0 r0) (cC X0 r0))[i]++((secs2 (cA X0 r0) (cC X0 r0))[i].2.data.toList++behindL (secs2 (cA X0 r0) (cC X0 r0)) i (secs2 (cA X0 r0) (cC X0 r0))[i])∧(secs2 (cA X0 r0) (cC X0 r0))[i].2.size≤2000000):=fun i hi=>by
    refine ⟨head_split mD 2 _ i hi hp,by rw [hFl];exact file_split mD 2 _ i hi hp,?_⟩
    rw [secs2_at hi]
    dsimp only
    split <;> omega
   have HSz:Hid ((cF X0 r0).size≤16777216):=hsz.2
   have HCs:Hid (∀W:World,∀g,SecAt W g 0 (secs2 (cA X0 r0) (cC X0 r0))→∀i (hi:i<(secs2 (cA X0 r0) (cC X0 r0)).length),g<W.heap.size∧W.cell? ⟨g,0+i*2+1,none⟩=some (.string (secs2 (cA X0 r0) (cC X0 r0))[i].2)):=fun W g h i hi=>⟨(h i hi).1,(h i hi).2.2⟩
   have hL2:(secs2 (cA X0 r0) (cC X0 r0)).length=2:=rfl
   have HLq:Hid (Lq w w4.drew a0 X0 c0 r0 x1 y1):=HL4.out.more (bel_drew w4)
   have K4:w4.cell? ⟨w.heap.size,0,none⟩=some (.slice a0 X0.length c0)∧w4.cell? ⟨w.heap.size,1,none⟩=some (.int .i64 r0):=⟨HL4.out.s.c0,HL4.out.s.c1⟩
   have Kd:w4.drew.cell? ⟨w.heap.size,0,none⟩=some (.slice a0 X0.length c0)∧w4.drew.cell? ⟨w.heap.size,1,none⟩=some (.int .i64 r0):=⟨HLq.out.s.c0,HLq.out.s.c1⟩
   have x40:=K4.1
   have x41:=K4.2
   clear HA HBw HT hWh hd hme hsz hcs hb hp hbk hFl HSm HFn HS
   generalize secs2 (cA X0 r0) (cC X0 r0)=L0 at *
   generalize cF X0 r0=F at *
   go_wp2_with fail
   clear x40 x41
   go_region_held3 (fun W=>W.cell? ⟨w.heap.size,0,none⟩=some (.slice a0 X0.length c0)∧W.cell? ⟨w.heap.size,1,none⟩=some (.int .i64 r0)) (first|exact K6|exact K5|exact Kd|exact K4)
    ((first|(go_at_call 12;refine Calls.mono (HSv.out _ HL5.out.s.bel) ?_;rintro e w6 ⟨rfl,hb6⟩;have HL6:Hid (Lq w w6 a0 X0 c0 r0 x1 y1):=HL5.out.more hb6;have K6:w6.cell? ⟨w.heap.size,0,none⟩=some (.slice a0 X0.length c0)∧w6.cell? ⟨w.heap.size,1,none⟩=some (.int .i64 r0):=⟨HL6.out.s.c0,HL6.out.s.c1⟩)|(go_at_call 21;refine Calls.mono (wide_any _) ?_;rintro e w5 ⟨rfl,hb5⟩;have HL5:Hid (Lq w w5 a0 X0 c0 r0 x1 y1):=HLq.out.more hb5;have K5:w5.cell? ⟨w.heap.size,0,none⟩=some (.slice a0 X0.length c0)∧w5.cell? ⟨w.heap.size,1,none⟩=some (.int .i64 r0):=⟨HL5.out.s.c0,HL5.out.s.c1⟩)))
   clear HL4 HLq HL5 K4 Kd K5 K6 hb5 hb6 HSv
   go_wp2_with fail
   refine Calls.mono (HRg.out w6) ?_
   rintro e w7 ⟨aS,cS,gS,rfl,haS,hsS,hb7,hcS⟩
   dsimp only at haS hsS hcS ⊢
   obtain rfl:=haS (by omega)
   rw [hL2] at hcS ⊢
   have HL7:Hid (Lq w w7 a0 X0 c0 r0 x1 y1):=HL6.out.more hb7
   have HsS:Hid (SecAt w7 gS 0 L0):=hsS
   clear HRg HL6 hb7 haS hsS
   have t0:w7.cell? ⟨w.heap.size+1,0,none⟩=some (.int .i64 x1):=HL7.out.t.cell 0
   have t1:w7.cell? ⟨w.heap.size+1,1,none⟩=some (.int .i64 y1):=HL7.out.t.cell 1
   have HBn:Hid (∀q,Below w.heap.size w (w7.drewN q)):=fun q=>bdrewN HL7.out.s.bel q
   by_cases h0:x1<0
   ·have k0:decide (x1<0)=true:=decide_eq_true h0
    clear HLd HPt HHd HCs HsS HL7 h0
    go_wp2_with fail
    go_quiet (fail)
    go_wp2_with fail
    go_ret
    exact ⟨rfl,HBn.out nq⟩
   have k0:decide (x1<0)=false:=decide_eq_false h0
   by_cases h1:1<x1
   ·have k1:decide (1<x1)=true:=decide_eq_true h1
    clear HLd HPt HHd HCs HsS HL7 h0 h1
    go_wp2_with fail
    go_quiet (fail)
    go_wp2_with fail
    go_ret
    exact ⟨rfl,HBn.out nq⟩
   have k1:decide (1<x1)=false:=decide_eq_false h1
   by_cases h2:y1<0
   ·have k2:decide (y1<0)=true:=decide_eq_true h2
    clear HLd HPt HHd HCs HsS HL7 h0 h1 h2
    go_wp2_with fail
    go_quiet (fail)
    go_wp2_with fail
    go_ret
    exact ⟨rfl,HBn.out nq⟩
   have k2:decide (y1<0)=false:=decide_eq_false h2
   obtain ⟨i,rfl⟩:=Int.eq_ofNat_of_zero_le (show 0≤x1 by omega)
   obtain ⟨k,rfl⟩:=Int.eq_ofNat_of_zero_le (show 0≤y1 by omega)
   obtain ⟨m,rfl⟩:=Int.eq_ofNat_of_zero_le HB2.out.1
   have hm:m<4294967296:=by have:=HB2.out.2;omega
   have hi2:i<2:=by omega
   have hi:i<L0.length:=by omega
   have hil:(i:Int)<2:=by omega
   obtain ⟨hgl,v1⟩:=HCs.out w7 gS HsS.out i hi
   rw [Nat.zero_add] at v1
   obtain ⟨hH,hFs,hpz⟩:=HHd.out i hi
   have HCi:Hid (∀W:World,SecAt W gS 0 L0→W.cell? ⟨gS,i*2+1,none⟩=some (.string (L0[i]).2)):=fun W h=>by
    have:=(HCs.out W gS h i hi).2
    rwa [Nat.zero_add] at this
   have HLi:Hid _:=fun (W:World) (c:List UInt8)=>HLd.out W i hi c
   have HPi:Hid (∀(W:World),SecAt W gS 0 L0→Calls Tryz.prog 25 #[.string ⟨#[68,73,79,82]⟩,.int .i64 2,.slice (some ⟨gS,0,none⟩) (i+1) cS] W fun e w'=>e=.returned (.tuple #[.string ⟨(pPut mD 2 (L0.take (i+1))).1.toArray⟩,.int .i64 0])∧Below W.heap.size W w'):=fun W h=>HPt.out W i gS cS hi2 h
   rw [hH] at HPi
   dsimp only at HPi
   clear hH HLd HPt HHd HCs
   generalize L0[i]=s at *
   obtain ⟨x,p⟩:=s
   dsimp only at hFs hpz v1 HLi HPi HCi
   obtain ⟨Ah,hAh⟩:∃Ah,aheadL mD.data.toList 2 L0 i (x,p)=Ah:=⟨_,rfl⟩
   obtain ⟨Bh,hBh⟩:∃Bh,behindL L0 i (x,p)=Bh:=⟨_,rfl⟩
   rw [hAh] at hFs HPi HLi
   rw [hBh] at hFs HLi
   obtain ⟨Hh,hHh⟩:∃Hh:ByteArray,(⟨(Ah++(p.data.toList++four (crc p.data.toList))).toArray⟩:ByteArray)=Hh:=⟨_,rfl⟩
   rw [hHh] at HPi
   have hdH:Hh.data.toList=Ah++(p.data.toList++four (crc p.data.toList)):=by rw [← hHh,List.toList_toArray]
   have hlA:=congrArg List.length hFs
   have hlH:=congrArg List.length hdH
   simp only [List.length_append,list_size,four_length] at hlA hlH
   obtain ⟨An,hAn⟩:∃An,Ah.length=An:=⟨_,rfl⟩
   obtain ⟨Bn,hBn⟩:∃Bn,Bh.length=Bn:=⟨_,rfl⟩
   rw [hAn,hBn] at hlA
   rw [hAn] at hlH
   have HFs:Hid (F.data.toList=Ah++(p.data.toList++Bh)):=hFs
   have HAn:Hid (Ah.length=An):=hAn
   have HBn2:Hid (Bh.length=Bn):=hBn
   have HlA:Hid (F.size=An+(p.size+Bn)):=hlA
   have HlH:Hid (Hh.size=An+(p.size+4)):=hlH
   clear hAh hBh hHh hdH hFs hAn hBn hlA hlH h0 h1 h2
   by_cases h4:8*(p.size:Int)≤(k:Int)
   ·have k4:decide (8*(p.size:Int)≤(k:Int))=true:=decide_eq_true h4
    clear HLi HPi HCi HsS HL7 h4
    go_wp2_with fail
    go_quiet (fail)
    go_wp2_with fail
    go_ret
    exact ⟨rfl,HBn.out nq⟩
   have k4:decide (8*(p.size:Int)≤(k:Int))=false:=decide_eq_false h4
   have hkp:k<8*p.size:=by omega
   have HLn:Hid (∀q,Lq w (w7.drewN q) a0 X0 c0 r0 (i:Int) (k:Int)):=fun q=>HL7.out.more (bdrewN (Below.refl _ _) q)
   have HSn:Hid (∀q,SecAt (w7.drewN q) gS 0 L0):=fun q=>HsS.out.below (bdrewN (Below.refl _ _) q)
   clear HL7 HsS h4
   go_wp2_with fail
   go_quiet (fail)
   have HL8:Hid (Lq w (w7.drewN nq) a0 X0 c0 r0 (i:Int) (k:Int)):=HLn.out nq
   have HS8:Hid (SecAt (w7.drewN nq) gS 0 L0):=HSn.out nq
   clear HLn HSn HBn t0 t1 v1 k0 k1 k2 k4
   generalize w7.drewN nq=w8 at *
   have t0:w8.cell? ⟨w.heap.size+1,0,none⟩=some (.int .i64 (i:Int)):=HL8.out.t.cell 0
   have hic:(i:Int)+1≤cS:=by omega
   have HPc:Hid _:=HPi.out w8 HS8.out
   go_wp2_with fail
   refine Calls.mono HPc.out ?_
   rintro e w9 ⟨rfl,hb9⟩
   have HL9:Hid (Lq w w9 a0 X0 c0 r0 (i:Int) (k:Int)):=HL8.out.more hb9
   have HS9:Hid (SecAt w9 gS 0 L0):=HS8.out.below hb9
   clear HL8 HS8 HPi HPc hb9 t0 hic
   have t0:w9.cell? ⟨w.heap.size+1,0,none⟩=some (.int .i64 (i:Int)):=HL9.out.t.cell 0
   have t1:w9.cell? ⟨w.heap.size+1,1,none⟩=some (.int .i64 (k:Int)):=HL9.out.t.cell 1
   have v1:=HCi.out w9 HS9.out
   have HFl:Hid _:=flipB_any p k m w9 (by omega) hkp hm
   clear HCi HS9
   go_wp2_with fail
   refine Calls.mono HFl.out ?_
   rintro e wa ⟨c,rfl,hcl,hcd,hba⟩
   have HBa:Hid (Below w.heap.size w wa):=(HL9.out.more hba).s.bel
   have hdN:(ByteArray.mk c.toArray).data.toList=c:=rfl
   rw [list_size] at hcl
   have hNz:(ByteArray.mk c.toArray).size=p.size:=by rw [← list_size,hdN];exact hcl
   have hiff:=crc_diff p.data.toList c k m (by rw [list_size];exact hcl) (by rw [list_size];omega) hm hcd
   generalize ByteArray.mk c.toArray=Nw at *
   have hlA:=HlA.out
   have hlH:=HlH.out
   have hFz:=HSz.out
   have hfr:(Hh.size:Int)-4-(p.size:Int)=(An:Int):=by omega
   have hHz:Hh.size≤20000000:=by omega
   have hge:¬(F.size:Int)<(An:Int)+p.size:=by omega
   have hT:((An:Int)+p.size).toNat=An+p.size:=by omega
   have g1:(An:Int)≤F.size:=by omega
   have hWr:IntKind.i64.wrap ((An:Int)+p.size)=(An:Int)+p.size:=by rw [IntKind.wrap_i64];omega
   have g2:(An:Int)+p.size≤F.size:=by omega
   have g3:(0:Int)≤(An:Int)+p.size:=by omega
   have e1:(F.extract 0 An).data.toList=Ah:=by
    rw [Lib.extract_data,HFs.out,List.drop_zero,Nat.sub_zero,← HAn.out,List.take_left]
   have e2:(F.extract (An+p.size) F.size).data.toList=Bh:=by
    rw [Lib.extract_data,HFs.out,← HAn.out,← List.drop_drop,List.drop_left,← list_size p,List.drop_left,List.take_of_length_le (by have j1:=HBn2.out;have j2:=HAn.out;have j3:=list_size p;omega)]
   have z1:(F.extract 0 An).size=An:=ext_size F An (by omega)
   have z2:(F.extract (An+p.size) F.size).size≤F.size:=by rw [ByteArray.size_extract];omega
   have g0:(0:Int)≤(An:Int):=by omega
   have S1:=fun (W:World)=>run_slice_string_h (P:=Tryz.prog) W 9 F Tryz.underlying9 .i64 (An:Int) g0 g1
   have S2:=fun (W:World)=>run_slice_string_l (P:=Tryz.prog) W 9 F Tryz.underlying9 .i64 ((An:Int)+p.size) g3 g2
   rw [hT] at S2
   rw [Int.toNat_natCast] at S1
   have A1:=fun (W:World)=>run_string_add_sum (P:=Tryz.prog) W (F.extract 0 An) Nw (by omega)
   have A2:=fun (W:World)=>run_string_add_sum (P:=Tryz.prog) W (F.extract 0 An++Nw) (F.extract (An+p.size) F.size) (by rw [ByteArray.size_append];omega)
   have hYz:(F.extract 0 An++Nw++F.extract (An+p.size) F.size).size≤100000000:=by rw [ByteArray.size_append,ByteArray.size_append];omega
   have HLc:Hid (∀W,Below w.heap.size w W→Calls Tryz.prog 15 #[.string (F.extract 0 An++Nw++F.extract (An+p.size) F.size),.agg #[.int .i64 16777216,.int .i64 16777216,.int .i64 16777216,.int .i64 16777216,.int .i64 16777216]] W fun e w'=>∃(Z:List Nx) (a:Option Addr) (cz:Nat) (rz kz:Int),e=.returned (.tuple #[.agg #[.slice a Z.length cz,.int .i64 rz],.int .i64 kz])∧((c=p.data.toList∧kz=0)∨(c≠p.data.toList∧kz=5))∧Below W.heap.size W w'):=fun W hB=>HLi.out W c hB hcl hiff _ (by rw [data_two,data_two,e1,e2,hdN,List.append_assoc]) hYz
   obtain ⟨kE,hkE⟩:∃kE:Int,(c=p.data.toList→kE=0)∧(c≠p.data.toList→kE=5):=by
    by_cases q:c=p.data.toList
    ·exact ⟨0,fun _=>rfl,fun z=>absurd q z⟩
    ·exact ⟨5,fun z=>absurd z q,fun _=>rfl⟩
   obtain ⟨E0,hE0⟩:∃E0,F.extract 0 An=E0:=⟨_,rfl⟩
   obtain ⟨E1,hE1⟩:∃E1,F.extract (An+p.size) F.size=E1:=⟨_,rfl⟩
   rw [hE0,hE1] at HLc
   rw [hE0] at S1 A1 A2
   rw [hE1] at S2 A2
   obtain ⟨Y,hY⟩:∃Y,E0++Nw++E1=Y:=⟨_,rfl⟩
   rw [hY] at HLc A2
   have HLk:Hid (∀W,Below w.heap.size w W→Calls Tryz.prog 15 #[.string Y,.agg #[.int .i64 16777216,.int .i64 16777216,.int .i64 16777216,.int .i64 16777216,.int .i64 16777216]] W fun e w'=>∃(Z:List Nx) (a:Option Addr) (cz:Nat) (rz:Int),e=.returned (.tuple #[.agg #[.slice a Z.length cz,.int .i64 rz],.int .i64 kE])∧Below W.heap.size W w'):=fun W hB=>by
    refine Calls.mono (HLc.out W hB) ?_
    rintro e w' ⟨Z,a,cz,rz,kz,rfl,hk,hb⟩
    have hkz:kz=kE:=by
     rcases hk with ⟨q,rfl⟩|⟨q,rfl⟩
     ·exact (hkE.1 q).symm
     ·exact (hkE.2 q).symm
    rw [hkz]
    exact ⟨Z,a,cz,rz,rfl,hb⟩
   have HNq:Hid (((Nw.toList==p.toList)=true∧kE=0)∨((Nw.toList==p.toList)=false∧kE=5)):=by
    by_cases q:c=p.data.toList
    ·exact .inl ⟨by rw [neq_text];exact decide_eq_true (ba_ext (by rw [hdN,q])),hkE.1 q⟩
    ·exact .inr ⟨by rw [neq_text];exact decide_eq_false (fun z=>q (by rw [← hdN,z])),hkE.2 q⟩
   have HBa2:Hid (Below w.heap.size w wa):=HBa.out
   clear HFl HL9 hcl hcd hba hiff e1 e2 HFs HAn HBn2 HlA HlH hlA hlH HLi hdN HSz t0 t1 v1 hm hkp HBa hi hgl HLc hkE hE0 hE1 hY z1 z2 hYz
   go_wp2_with fail
   refine facts_region6 (fun W=>Below w.heap.size w W) (buF F Nw p E0 E1 Y An kE w.heap.size) (by kernel_rfl) (by kernel_rfl) HBa2.out.drew ?step ?fin
   case step=>
    intro i' o' ho act W hG hoff hdep K hQ hK
    have t7:act.tmps[7]?.getD undef=.string F:=hoff 7 (by kernel_rfl)
    have t14:act.tmps[14]?.getD undef=.string p:=hoff 14 (by kernel_rfl)
    have t15:act.tmps[15]?.getD undef=.string Nw:=hoff 15 (by kernel_rfl)
    have t16:act.tmps[16]?.getD undef=.int .i64 (An:Int):=hoff 16 (by kernel_rfl)
    have HC:Hid _:=HLk.out W hG
    have HW:Hid _:=wide_any W
    have HGw:Hid (Below w.heap.size w W):=hG
    clear hG hoff HLk HNq HBa2
    rcases i' with _|_|_|_|_|_|_|_|_|_|_|_|_|_|_|_|_|_|_|_|i'
    ·obtain rfl:=Option.some.inj ho
     clear hdep HC HW hK
     go_simp
     exact hQ _ rfl
    ·obtain rfl:=Option.some.inj ho
     clear hdep HC HW hK
     go_simp
     exact hQ _ rfl
    ·obtain rfl:=Option.some.inj ho
     have e0:act.tmps[107]?.getD undef=.string F:=hdep 0 _ (by kernel_rfl) rfl
     have e1:act.tmps[108]?.getD undef=.int .i64 (An:Int):=hdep 1 _ (by kernel_rfl) rfl
     clear hdep HC HW hK
     go_simp
     exact hQ _ rfl
    ·obtain rfl:=Option.some.inj ho
     clear hdep HC HW hK
     go_simp
     exact hQ _ rfl
    ·obtain rfl:=Option.some.inj ho
     have e2:act.tmps[109]?.getD undef=.string E0:=hdep 2 _ (by kernel_rfl) rfl
     have e3:act.tmps[110]?.getD undef=.string Nw:=hdep 3 _ (by kernel_rfl) rfl
     clear hdep HC HW hK
     go_simp
     exact hQ _ rfl
    ·obtain rfl:=Option.some.inj ho
     clear hdep HC HW hK
     go_simp
     exact hQ _ rfl
    ·obtain rfl:=Option.some.inj ho
     clear hdep HC HW hK
     go_simp
     exact hQ _ rfl
    ·obtain rfl:=Option.some.inj ho
     clear hdep HC HW hK
     go_simp
     exact hQ _ rfl
    ·obtain rfl:=Option.some.inj ho
     have e7:act.tmps[114]?.getD undef=.string p:=hdep 7 _ (by kernel_rfl) rfl
     clear hdep HC HW hK
     go_simp
     exact hQ _ rfl
    ·obtain rfl:=Option.some.inj ho
     have e6:act.tmps[113]?.getD undef=.int .i64 (An:Int):=hdep 6 _ (by kernel_rfl) rfl
     have e8:act.tmps[115]?.getD undef=.int .i64 p.size:=hdep 8 _ (by kernel_rfl) rfl
     clear hdep HC HW hK
     go_simp
     exact hQ _ rfl
    ·obtain rfl:=Option.some.inj ho
     have e5:act.tmps[112]?.getD undef=.string F:=hdep 5 _ (by kernel_rfl) rfl
     have e9:act.tmps[116]?.getD undef=.int .i64 ((An:Int)+p.size):=hdep 9 _ (by kernel_rfl) rfl
     clear hdep HC HW hK
     go_simp
     exact hQ _ rfl
    ·obtain rfl:=Option.some.inj ho
     have e4:act.tmps[111]?.getD undef=.string (E0++Nw):=hdep 4 _ (by kernel_rfl) rfl
     have e10:act.tmps[117]?.getD undef=.string E1:=hdep 10 _ (by kernel_rfl) rfl
     clear hdep HC HW hK
     go_simp
     exact hQ _ rfl
    ·obtain rfl:=Option.some.inj ho
     clear hdep HC hQ
     go_simp
     refine Calls.mono (Hid.out HW) ?_
     rintro e w' ⟨rfl,hb⟩
     exact hK _ _ (HGw.out.trans (hb.mono HGw.out.size)) (fun j v _ q=>buF_below hb j v q) rfl
    ·obtain rfl:=Option.some.inj ho
     have e11:act.tmps[118]?.getD undef=.string Y:=hdep 11 _ (by kernel_rfl) rfl
     have e12:act.tmps[119]?.getD undef=.agg #[.int .i64 16777216,.int .i64 16777216,.int .i64 16777216,.int .i64 16777216,.int .i64 16777216]:=hdep 12 _ (by kernel_rfl) rfl
     clear hdep HW hQ
     go_simp
     refine Calls.mono (Hid.out HC) ?_
     rintro e w' ⟨Z,a,cz,rz,rfl,hb⟩
     exact hK _ _ (HGw.out.trans (hb.mono HGw.out.size)) (fun j v _ q=>buF_below hb j v q) ⟨Z.length,cz,a,rz,rfl⟩
    ·obtain rfl:=Option.some.inj ho
     obtain ⟨zn,zc,za,zr,e13⟩:∃(n cz:Nat) (a:Option Addr) (rz:Int),act.tmps[120]?.getD undef=.tuple #[.agg #[.slice a n cz,.int .i64 rz],.int .i64 kE]:=hdep 13 _ (by kernel_rfl) rfl
     clear hdep HC HW hK
     go_simp
     exact hQ _ ⟨zn,zc,za,zr,rfl⟩
    ·obtain rfl:=Option.some.inj ho
     obtain ⟨zn,zc,za,zr,e14⟩:∃(n cz:Nat) (a:Option Addr) (rz:Int),act.tmps[106]?.getD undef=.tuple #[.agg #[.slice a n cz,.int .i64 rz],.int .i64 kE]:=hdep 14 _ (by kernel_rfl) rfl
     clear hdep HC HW hK
     go_simp
     exact hQ _ ⟨zn,zc,za,zr,rfl⟩
    ·obtain rfl:=Option.some.inj ho
     obtain ⟨zn,zc,za,zr,e14⟩:∃(n cz:Nat) (a:Option Addr) (rz:Int),act.tmps[106]?.getD undef=.tuple #[.agg #[.slice a n cz,.int .i64 rz],.int .i64 kE]:=hdep 14 _ (by kernel_rfl) rfl
     clear hdep HC HW hK
     go_simp
     exact hQ _ rfl
    ·obtain rfl:=Option.some.inj ho
     clear hdep HC HW hQ
     go_simp
     have hb:Below W.heap.size W (W.alloc (.cells #[.slice none 0 0,.int .i64 0] 24)):=(Below.refl W.heap.size W).alloc (Nat.le_refl _) _
     exact hK _ _ (HGw.out.trans (hb.mono HGw.out.size)) (fun j v _ q=>buF_below hb j v q) ⟨W.heap.size,_,_,rfl,HGw.out.size,AtN.new W 24 _⟩
    ·obtain rfl:=Option.some.inj ho
     obtain ⟨zn,zc,za,zr,e15⟩:∃(n cz:Nat) (a:Option Addr) (rz:Int),act.tmps[121]?.getD undef=.agg #[.slice a n cz,.int .i64 rz]:=hdep 15 _ (by kernel_rfl) rfl
     obtain ⟨g,x0,x1,e17,hge,hA⟩:∃(g:Nat) (x0 x1:Value),act.tmps[17]?.getD undef=.pointer (some ⟨g,0,none⟩)∧w.heap.size≤g∧AtN 24 W g #[x0,x1]:=hdep 17 _ (by kernel_rfl) rfl
     have y0:W.cell? ⟨g,0,none⟩=some x0:=hA.cell 0
     have y1:W.cell? ⟨g,1,none⟩=some x1:=hA.cell 1
     have f0:=hA.fz 0
     have f1:=hA.fz 1
     have HAt:Hid (AtN 24 W g #[x0,x1]):=hA
     have HGe:Hid (w.heap.size≤g):=hge
     clear hA hge
     clear hdep HC HW hQ
     go_simp
     exact hK undef _ (set_below (set_below HGw.out _ HGe.out _) _ HGe.out _) (fun j v _ q=>buF_set HAt.out _ _ j v q) trivial
    ·obtain rfl:=Option.some.inj ho
     have e16:act.tmps[122]?.getD undef=.int .i64 kE:=hdep 16 _ (by kernel_rfl) rfl
     clear hdep HC HW hK
     go_simp
     exact hQ _ rfl
    ·exact absurd ho (by simp)
   case fin=>
    intro V W hG hF
    have v19:V (some 18)=.int .i64 kE:=hF 19 _ rfl
    have HB:Hid (Below w.heap.size w W):=hG
    clear hF hG HLk HBa2
    simp only [fillA,Act.put,List.setIfInBounds_toArray,List.set_cons_zero,List.set_cons_succ]
    rw [v19]
    rcases HNq.out with ⟨hNe,rfl⟩|⟨hNe,rfl⟩
    ·clear HNq
     go_wp2_with fail
     go_ret
     exact ⟨rfl,HB.out⟩
    ·clear HNq
     go_wp2_with fail
     go_ret
     exact ⟨rfl,HB.out⟩
set_option maxRecDepth 100000 in
theorem lifted (os:Os) (started:os.Started) (H:Type) (enc:TypeId × Value→H) :
  ReturnsInHanded {} Tryz.checked os 8 .any (fun w args=>(Rows.fileBurstSpec.pre enc Tryz.prog Tryz.f8 [] false w args∧laidMetH Tryz.prog laid2 w)∧sizedMet enc Tryz.prog Tryz.f8 (OpenSpec.ofChange Rows.fileBurstSpec) false w args)
   (Rows.fileBurstSpec.post enc Tryz.prog Tryz.f8 false true false false):=by
 refine returnsInHanded_of_change_and (C:=Tryz.checked) (X:=fun w _=>laidMetH Tryz.prog laid2 w) (fun _ _ _ hh h=>h.of_heap hh) own started (by kernel_rfl) Tryz.func8
  (ChangeSpec.witness_shaped (enc:=enc) (C:=Tryz.checked) (os:=os) (X:=fun w _=>laidMetH Tryz.prog laid2 w) false (World.doorLaid Tryz.prog 400 os) #[.agg #[.slice none 0 0,.int .i64 0],.agg #[.int .i64 0,.int .i64 0],.int .u32 0] 8 rfl (World.shaped_of_RefB (by kernel_rfl) (by kernel_rfl)) (by kernel_rfl) (by kernel_rfl) (by kernel_rfl) (door_met os _)) ?_
 intro W base args ds gs before hval0 hW _ _ hL _
 have hval:∀(j:Nat) t v,Tryz.f8.params[j]? = some t→args[j]? = some v→Value.okWide Tryz.prog W .any base t v:=hval0
 have hW':=hW
 obtain ⟨p,q,hA0,hV,rfl,hfz,hnd⟩:=hW
 have hA:DataW.TrodAll enc Tryz.prog W 0 (fun _=>true) true Tryz.f8.params.toList args.toList ds p:=hA0
 rw [Tryz.params8] at hA hval
 obtain ⟨v0,vs0,d0,ds0,p0,q0,hargs,rfl,rfl,h0,r0⟩:=trodAll_cons hA
 obtain ⟨v1,vs1,d1,ds1,p1,q1,rfl,rfl,rfl,h1,r1⟩:=trodAll_cons r0
 obtain ⟨v2,vs2,d2,ds2,p2,q2,rfl,rfl,rfl,h2,r2⟩:=trodAll_cons r1
 obtain ⟨rfl,rfl,rfl⟩:=trodAll_nil r2
 obtain rfl:args=#[v0,v1,v2]:=by cases args;simp_all
 obtain ⟨rfl,rfl⟩:=trodVars_none hV
 have K0:=h0
 have lt0:∀x ∈ p0,x.block<W.heap.size:=by obtain ⟨m,hm⟩:=K0;exact DataW.trod_lt m _ _ _ hm
 obtain ⟨X0,a0,c0,rt0,rfl,w0⟩:=open_scene Tryz.underlying24 (by kernel_rfl) (by kernel_rfl) Tryz.underlying22 Tryz.underlying3 Tryz.underlying62 (by kernel_rfl) rfl rfl rfl rfl (by kernel_rfl) (by kernel_rfl) (by kernel_rfl) (by kernel_rfl) Tryz.underlying3 Tryz.underlying58 Tryz.underlying59 Tryz.underlying60 Tryz.underlying2 Tryz.underlying9 Tryz.underlying3 (by kernel_rfl) (by kernel_rfl) (by kernel_rfl) (hval 0 24 v0 rfl rfl) h0
 have k1:=h1
 have lt1:∀x ∈ p1,x.block<W.heap.size:=by obtain ⟨m,hm⟩:=k1;exact DataW.trod_lt m _ _ _ hm
 obtain ⟨x1,y1,rfl,w1⟩:=open_arr2 Tryz.underlying45 Tryz.underlying3 (by kernel_rfl) (by kernel_rfl) (hval 1 45 v1 rfl rfl) h1
 obtain ⟨a2,rfl,rfl,rfl,w2⟩:=open_int Tryz.underlying46 (hval 2 46 v2 rfl rfl) h2
 clear hA0 hval0
 refine (walk X0 a0 c0 rt0 x1 y1 a2 W w0 w1 w2 (tabs_of hL)).mono fun e W' ⟨he,bel⟩=>?_
 subst he
 exact ⟨_,rfl,_,_,_,[],_,[],hW',trodAll_mk1 (shut_bool Tryz.underlying4 _),(trodAll_cons_mk (Below.trod laidOut (by kernel_rfl) (of_decide_eq_true (by kernel_rfl)) K0 bel lt0) (trodAll_cons_mk (Below.trod laidOut (by kernel_rfl) (of_decide_eq_true (by kernel_rfl)) k1 bel lt1) (trodAll_cons_mk (shut_int Tryz.underlying46 w2) trodAll_mk0))),rfl,bel.frame _,fun h=>by cases h⟩
theorem row:Rows.fileBurstRow.holds Tryz.pinned (OpenSpec.ofChange Rows.fileBurstSpec):=
 OpenClaim.holds_of_wide 8 Tryz.f8 rfl rfl rfl rfl rfl rfl rfl ⟨rfl,rfl,rfl,rfl,rfl⟩ rfl rfl rfl rfl rfl (by kernel_rfl) Tryz.func8 (by kernel_rfl)
  (of_decide_eq_true (by kernel_rfl)) (by unfold Func.isWrapper;first|(rw [if_pos (by decide +kernel)];kernel_rfl)|(rw [if_neg (by decide +kernel)];exact ⟨rfl,rfl⟩))
  (fun os started H enc _=>lifted os started H enc)
theorem plain (f:FuncId) (fn:Func) (hf:Tryz.pinned.checked.prog.funcNamed Rows.fileBurstRow.func=some f) (hfn:Tryz.pinned.checked.prog.funcs[f]? = some fn) :
  true=Tryz.pinned.checked.prog.looks []∧∀(j:Nat) t,fn.params[j]? = some t→Tryz.pinned.checked.prog.wantsStandIn t=false:=by
 obtain rfl:f=8:=Option.some.inj ((show Tryz.prog.funcNamed Rows.fileBurstRow.func=some 8 by kernel_rfl).symm.trans hf) |>.symm
 obtain rfl:fn=Tryz.f8:=(Option.some.inj (Tryz.func8.symm.trans hfn)).symm
 refine ⟨by kernel_rfl,fun j t ht=>?_⟩
 have hm:=Array.mem_of_getElem? ht
 have hall:(Tryz.f8.params.toList.all fun u=>!Tryz.prog.wantsStandIn u)=true:=by kernel_rfl
 exact (show Tryz.prog.wantsStandIn t=false by simpa using List.all_eq_true.1 hall t (by simpa using hm))
theorem over:Rows.FileBurstCardSaid:=
 Claim7.holds_tied_plain_at .later [] _ _ _ _ row (fun _ h=>by cases h) (by kernel_rfl) (fun _ h=>by cases h) fileBurst_row_tie rfl ⟨rfl,rfl⟩ (by kernel_rfl) rfl plain (by kernel_rfl)
end Go.Proofs.YtcgjgjjegnofeaaGreatDoor.fileBurst
namespace Go.Proofs.YtcgjgjjegnofeaaGreatDoor
theorem fileBurst_holds:Rows.FileBurstCardSaid:=fileBurst.over
#print axioms fileBurst_holds
end Go.Proofs.YtcgjgjjegnofeaaGreatDoor
