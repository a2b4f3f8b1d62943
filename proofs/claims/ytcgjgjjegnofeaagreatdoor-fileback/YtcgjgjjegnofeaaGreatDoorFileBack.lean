/- For every scene and all limits: what the program's Save answers is loaded by its Load as the canonical scene, within the same limits; beside an error there is no file (scenes greater than the law plays with are let go by the law itself); the arguments read afterwards as before. The package schema's tables hold what the program's text lays into them when the call begins (the card ties them). -/
import Derived.Test.YtcgjgjjegnofeaaGreatDoorRows
import Derived.Test.YtcgjgjjegnofeaaGreatDoorCards
import Derived.Test.YtcgjgjjegnofeaaGreatDoorTie
import Derived.WalkKit
import Derived.ProofKit
import Derived.OpenShut
import Derived.ShutString
import Derived.Below
import Derived.Deep.RegionHeld3
import Derived.Test.YtcgjgjjegnofeaaGreatDoorPB29
import Derived.ChangeOld
import Derived.LaidMore
import Derived.SevenTiedAt
namespace Go.Proofs.YtcgjgjjegnofeaaGreatDoor.fileBack
open Go.ChangeShapes Go.WideShapes Go.ChangeAt Go.RowKit
open Go.ChangeMaps (open_string shut_string)
set_option linter.unusedVariables false
theorem own:ownKnob Tryz.prog.godebug=none:=by kernel_rfl
theorem laidOut:laidOutB Tryz.prog=true:=by kernel_rfl
set_option maxRecDepth 10000 in
set_option maxHeartbeats 4000000 in
theorem walk (X0:List Nx) (a0:Option Addr) (c0:Nat) (r0:Int) (l1:Lm) (w:World) (w0:IsSc w a0 X0 r0) (w1:LmR l1) (hT:Tabs12 w) :
  Calls Tryz.prog 5 #[.agg #[.slice a0 X0.length c0,.int .i64 r0],.agg #[.int .i64 l1.b,.int .i64 l1.n,.int .i64 l1.e,.int .i64 l1.d,.int .i64 l1.x]] w fun e w'=>e=.returned (.bool true)∧Below w.heap.size w w':=by
 have HA:Hid (∀W,Below w.heap.size w W→Calls Tryz.prog 10 #[] W fun e w'=>e=.returned (.bool true)∧Below W.heap.size W w'):=fun W hb=>awake_any W (hT.on hb)
 have HT:Hid (Tabs12 w):=hT
 have HS:Hid (IsSc w a0 X0 r0):=w0
 have HRg:Hid _:=lm_all w1
 have HL:=L5.start w a0 X0 c0 r0 l1
 have HL:Hid (L5 w _ a0 X0 c0 r0 l1):=HL
 clear w0 hT w1
 go_enter Tryz.func5,Tryz.ntmps5
 go_wp2_with fail
 refine Calls.mono (HA.out _ HL.out.bel) ?_
 rintro e w2 ⟨rfl,hb2⟩
 have HL2:Hid (L5 w w2 a0 X0 c0 r0 l1):=HL.out.more hb2
 clear HL hb2
 obtain ⟨xa0,xa1,-⟩:=HL2.out.all
 have HG:Hid (Calls Tryz.prog 11 #[.agg #[.slice a0 X0.length c0,.int .i64 r0]] w2 fun e w'=>GreatOut X0 w2 w' e):=sgreat_any X0 a0 c0 r0 w2 (HL2.out.sc HS.out)
 go_wp2_with fail
 refine Calls.mono HG.out ?_
 rintro e w3 ⟨g,rfl,hg,hb3⟩
 have HL3:Hid (L5 w w3 a0 X0 c0 r0 l1):=HL2.out.more hb3
 clear HG HL2 hb3 xa0 xa1
 cases g with
 | true=>
  go_wp2_with fail
  refine Calls.mono (HA.out _ HL3.out.bel) ?_
  rintro e wz ⟨rfl,hbz⟩
  have HB:Hid (Below w.heap.size w wz):=(HL3.out.more hbz).bel
  clear HL3 hbz
  go_wp2_with fail
  go_ret
  exact ⟨rfl,HB.out⟩
 | false=>
  have HSm:Hid (Small X0∧X0.length≤60):=hg rfl
  have HFn:Hid (FnX X0):=HS.out.fn
  have HSv:Hid (Calls Tryz.prog 12 #[.agg #[.slice a0 X0.length c0,.int .i64 r0],.agg #[.int .i64 l1.b,.int .i64 l1.n,.int .i64 l1.e,.int .i64 l1.d,.int .i64 l1.x]] w3 fun e w'=>SvOut X0 r0 l1 w3 w' e):=pfsave_any X0 a0 c0 r0 l1 w3 (HL3.out.sc HS.out) HSm.out.1 HFn.out (HT.out.on HL3.out.bel) (fun q=>can_sz HSm.out.1 HSm.out.2 HFn.out q)
  obtain ⟨xa0,xa1,ya0,ya1,ya2,ya3,ya4⟩:=HL3.out.all
  clear hg HA
  go_wp2_with fail
  refine Calls.mono HSv.out ?_
  rintro e w4 ⟨B,k,rfl,hsv,hb4⟩
  have HL4:Hid (L5 w w4 a0 X0 c0 r0 l1):=HL3.out.more hb4
  have HSV:Hid (SvIs X0 r0 l1 B k):=hsv
  clear HSv HL3 hsv hb4 xa0 xa1 ya0 ya1 ya2 ya3 ya4
  by_cases hk:k=0
  ·subst hk
   obtain ⟨ho,hW,⟨d,hd,hi⟩,hb,rfl⟩:=HSV.out.good
   have HLd:Hid _:=pfback_any X0 r0 l1 w4 d (HT.out.on HL4.out.bel) HSm.out.1 HSm.out.2 HFn.out hW hd ho hi hb HRg.out
   have HCn:Hid (∀W,L5 w W a0 X0 c0 r0 l1→Calls Tryz.prog 18 #[.agg #[.slice a0 X0.length c0,.int .i64 r0]] W fun e w'=>RCanOut X0 r0 W w' e):=fun W hb=>rcanon_any X0 a0 c0 r0 W (hb.sc HS.out) HSm.out.1 hW.2
   have hle:((cF X0 r0).size:Int)≤l1.b:=Int.not_lt.1 hb
   obtain ⟨xa0,xa1,ya0,ya1,ya2,ya3,ya4⟩:=HL4.out.all
   clear HSV ho hW hd hi hb HT HFn HSm HRg
   generalize cF X0 r0=F at *
   go_wp2_with fail
   refine Calls.mono HLd.out ?_
   rintro e w5 ⟨Y,a,c,rfl,hY,hsc,hsm,hb5⟩
   obtain ⟨w6,hw6⟩:∃w6,w5.alloc (.cells #[.slice a Y.length c,.int .i64 ((X0.length:Int)-1)] 24)=w6:=⟨_,rfl⟩
   have hb6:Below w5.heap.size w5 w6:=by rw [← hw6];exact (Below.refl w5.heap.size w5).alloc (Nat.le_refl _) _
   have HM6:Hid (AtN 24 w6 w5.heap.size #[.slice a Y.length c,.int .i64 ((X0.length:Int)-1)]):=by rw [← hw6];exact AtN.new w5 24 _
   have HL6:Hid (L5 w w6 a0 X0 c0 r0 l1):=(HL4.out.more hb5).more hb6
   have HS6:Hid (ScAt w6 a Y∧Small Y∧Y.map Nx.nd=cX X0 r0):=⟨hsc.belowB hb6,hsm,hY⟩
   clear HLd HL4 hY hsc hsm hb5 hb6 xa0 xa1 ya0 ya1 ya2 ya3 ya4
   go_wp2_with fail
   clear hw6
   have K6:w6.cell? ⟨w5.heap.size,0,none⟩=some (.slice a Y.length c)∧w6.cell? ⟨w5.heap.size,1,none⟩=some (.int .i64 ((X0.length:Int)-1))∧w6.cell? ⟨w.heap.size,0,none⟩=some (.slice a0 X0.length c0)∧w6.cell? ⟨w.heap.size,1,none⟩=some (.int .i64 r0)∧w6.cell? ⟨w.heap.size+1,0,none⟩=some (.int .i64 l1.b):=⟨HM6.out.cell 0,HM6.out.cell 1,HL6.out.all.1,HL6.out.all.2.1,HL6.out.all.2.2.1⟩
   have HLd:Hid (L5 w w6.drew a0 X0 c0 r0 l1):=HL6.out.more (bel_drew w6)
   have HMd:Hid (AtN 24 w6.drew w5.heap.size #[.slice a Y.length c,.int .i64 ((X0.length:Int)-1)]):=HM6.out.drew
   have Kd:w6.drew.cell? ⟨w5.heap.size,0,none⟩=some (.slice a Y.length c)∧w6.drew.cell? ⟨w5.heap.size,1,none⟩=some (.int .i64 ((X0.length:Int)-1))∧w6.drew.cell? ⟨w.heap.size,0,none⟩=some (.slice a0 X0.length c0)∧w6.drew.cell? ⟨w.heap.size,1,none⟩=some (.int .i64 r0)∧w6.drew.cell? ⟨w.heap.size+1,0,none⟩=some (.int .i64 l1.b):=K6
   have HSs:Hid (∀W (Z:List Nx) az cz,Below w6.heap.size w6 W→ScAt W az Z→Z.map Nx.nd=cX X0 r0→Calls Tryz.prog 17 #[.agg #[.slice a Y.length c,.int .i64 ((X0.length:Int)-1)],.agg #[.slice az Z.length cz,.int .i64 ((X0.length:Int)-1)]] W fun e w'=>e=.returned (.bool true)∧Below W.heap.size W w'):=fun W Z az cz hb hz hq=>ssame_yes Y Z a az c cz ((X0.length:Int)-1) W (HS6.out.1.belowB hb) hz HS6.out.2.1 (by rw [hq,HS6.out.2.2])
   clear HS6 HM6 HL6
   go_region_held3 (fun W=>W.cell? ⟨w5.heap.size,0,none⟩=some (.slice a Y.length c)∧W.cell? ⟨w5.heap.size,1,none⟩=some (.int .i64 ((X0.length:Int)-1))∧W.cell? ⟨w.heap.size,0,none⟩=some (.slice a0 X0.length c0)∧W.cell? ⟨w.heap.size,1,none⟩=some (.int .i64 r0)∧W.cell? ⟨w.heap.size+1,0,none⟩=some (.int .i64 l1.b)) (first|exact K8|exact K7|exact Kd|exact K6)
    ((first|(go_at_call 17;refine Calls.mono (HSs.out _ Z az cz ((bel_drew w6).trans (hb7.mono (bel_drew w6).size)) hsz hZ) ?_;rintro e w8 ⟨rfl,hb8⟩;have HL8:Hid (L5 w w8 a0 X0 c0 r0 l1):=HL7.out.more hb8;have HM8:Hid (AtN 24 w8 w5.heap.size #[.slice a Y.length c,.int .i64 ((X0.length:Int)-1)]):=HM7.out.belowAll hb8;have K8:w8.cell? ⟨w5.heap.size,0,none⟩=some (.slice a Y.length c)∧w8.cell? ⟨w5.heap.size,1,none⟩=some (.int .i64 ((X0.length:Int)-1))∧w8.cell? ⟨w.heap.size,0,none⟩=some (.slice a0 X0.length c0)∧w8.cell? ⟨w.heap.size,1,none⟩=some (.int .i64 r0)∧w8.cell? ⟨w.heap.size+1,0,none⟩=some (.int .i64 l1.b):=⟨HM8.out.cell 0,HM8.out.cell 1,HL8.out.all.1,HL8.out.all.2.1,HL8.out.all.2.2.1⟩)|(go_at_call 18;refine Calls.mono (HCn.out _ HLd.out) ?_;rintro e w7 ⟨Z,az,cz,rfl,hZ,hsz,hb7⟩;have HL7:Hid (L5 w w7 a0 X0 c0 r0 l1):=HLd.out.more hb7;have HM7:Hid (AtN 24 w7 w5.heap.size #[.slice a Y.length c,.int .i64 ((X0.length:Int)-1)]):=HMd.out.belowAll hb7;have K7:w7.cell? ⟨w5.heap.size,0,none⟩=some (.slice a Y.length c)∧w7.cell? ⟨w5.heap.size,1,none⟩=some (.int .i64 ((X0.length:Int)-1))∧w7.cell? ⟨w.heap.size,0,none⟩=some (.slice a0 X0.length c0)∧w7.cell? ⟨w.heap.size,1,none⟩=some (.int .i64 r0)∧w7.cell? ⟨w.heap.size+1,0,none⟩=some (.int .i64 l1.b):=⟨HM7.out.cell 0,HM7.out.cell 1,HL7.out.all.1,HL7.out.all.2.1,HL7.out.all.2.2.1⟩)))
   have HB8:Hid (Below w.heap.size w w8):=HL8.out.bel
   clear HLd HMd HL7 HM7 HL8 HM8 K6 Kd K7 K8 hZ hsz hb7 hb8 HSs HCn
   go_wp2_with fail
   go_ret
   exact ⟨rfl,HB8.out⟩
  ·have hk':(k != 0)=true:=by simpa using hk
   obtain rfl:=HSV.out.bad hk
   have HB4:Hid (Below w.heap.size w w4):=HL4.out.bel
   clear HSV HL4
   go_wp2_with fail
   go_ret
   exact ⟨by first|rfl|decide|simp,HB4.out⟩
set_option maxRecDepth 100000 in
theorem lifted (os:Os) (started:os.Started) (H:Type) (enc:TypeId × Value→H) :
  ReturnsInHanded {} Tryz.checked os 5 .any (fun w args=>(Rows.fileBackSpec.pre enc Tryz.prog Tryz.f5 [] false w args∧laidMetH Tryz.prog laid2 w)∧sizedMet enc Tryz.prog Tryz.f5 (OpenSpec.ofChange Rows.fileBackSpec) false w args)
   (Rows.fileBackSpec.post enc Tryz.prog Tryz.f5 false true false false):=by
 refine returnsInHanded_of_change_and (C:=Tryz.checked) (X:=fun w _=>laidMetH Tryz.prog laid2 w) (fun _ _ _ hh h=>h.of_heap hh) own started (by kernel_rfl) Tryz.func5
  (ChangeSpec.witness_shaped (enc:=enc) (C:=Tryz.checked) (os:=os) (X:=fun w _=>laidMetH Tryz.prog laid2 w) false (World.doorLaid Tryz.prog 400 os) #[.agg #[.slice none 0 0,.int .i64 0],.agg #[.int .i64 0,.int .i64 0,.int .i64 0,.int .i64 0,.int .i64 0]] 8 rfl (World.shaped_of_RefB (by kernel_rfl) (by kernel_rfl)) (by kernel_rfl) (by kernel_rfl) (by kernel_rfl) (door_met os _)) ?_
 intro W base args ds gs before hval0 hW _ _ hL _
 have hval:∀(j:Nat) t v,Tryz.f5.params[j]? = some t→args[j]? = some v→Value.okWide Tryz.prog W .any base t v:=hval0
 have hW':=hW
 obtain ⟨p,q,hA0,hV,rfl,hfz,hnd⟩:=hW
 have hA:DataW.TrodAll enc Tryz.prog W 0 (fun _=>true) true Tryz.f5.params.toList args.toList ds p:=hA0
 rw [Tryz.params5] at hA hval
 obtain ⟨v0,vs0,d0,ds0,p0,q0,hargs,rfl,rfl,h0,r0⟩:=trodAll_cons hA
 obtain ⟨v1,vs1,d1,ds1,p1,q1,rfl,rfl,rfl,h1,r1⟩:=trodAll_cons r0
 obtain ⟨rfl,rfl,rfl⟩:=trodAll_nil r1
 obtain rfl:args=#[v0,v1]:=by cases args;simp_all
 obtain ⟨rfl,rfl⟩:=trodVars_none hV
 have K0:=h0
 have lt0:∀x ∈ p0,x.block<W.heap.size:=by obtain ⟨m,hm⟩:=K0;exact DataW.trod_lt m _ _ _ hm
 obtain ⟨X0,a0,c0,rt0,rfl,w0⟩:=open_scene Tryz.underlying24 (by kernel_rfl) (by kernel_rfl) Tryz.underlying22 Tryz.underlying3 Tryz.underlying62 (by kernel_rfl) rfl rfl rfl rfl (by kernel_rfl) (by kernel_rfl) (by kernel_rfl) (by kernel_rfl) Tryz.underlying3 Tryz.underlying58 Tryz.underlying59 Tryz.underlying60 Tryz.underlying2 Tryz.underlying9 Tryz.underlying3 (by kernel_rfl) (by kernel_rfl) (by kernel_rfl) (hval 0 24 v0 rfl rfl) h0
 have K1:=h1
 have lt1:∀x ∈ p1,x.block<W.heap.size:=by obtain ⟨m,hm⟩:=K1;exact DataW.trod_lt m _ _ _ hm
 obtain ⟨l1,rfl,w1⟩:=open_lim Tryz.underlying26 (by kernel_rfl) (by kernel_rfl) Tryz.underlying3 Tryz.underlying3 Tryz.underlying3 Tryz.underlying3 Tryz.underlying3 (hval 1 26 v1 rfl rfl) h1
 clear hA0 hval0
 refine (walk X0 a0 c0 rt0 l1 W w0 w1 (tabs_of hL)).mono fun e W' ⟨he,bel⟩=>?_
 subst he
 exact ⟨_,rfl,_,_,_,[],_,[],hW',trodAll_mk1 (shut_bool Tryz.underlying4 _),(trodAll_cons_mk (Below.trod laidOut (by kernel_rfl) (of_decide_eq_true (by kernel_rfl)) K0 bel lt0) (trodAll_cons_mk (Below.trod laidOut (by kernel_rfl) (of_decide_eq_true (by kernel_rfl)) K1 bel lt1) trodAll_mk0)),rfl,bel.frame _,fun h=>by cases h⟩
theorem row:Rows.fileBackRow.holds Tryz.pinned (OpenSpec.ofChange Rows.fileBackSpec):=
 OpenClaim.holds_of_wide 5 Tryz.f5 rfl rfl rfl rfl rfl rfl rfl ⟨rfl,rfl,rfl,rfl,rfl⟩ rfl rfl rfl rfl rfl (by kernel_rfl) Tryz.func5 (by kernel_rfl)
  (of_decide_eq_true (by kernel_rfl)) (by unfold Func.isWrapper;first|(rw [if_pos (by decide +kernel)];kernel_rfl)|(rw [if_neg (by decide +kernel)];exact ⟨rfl,rfl⟩))
  (fun os started H enc _=>lifted os started H enc)
theorem plain (f:FuncId) (fn:Func) (hf:Tryz.pinned.checked.prog.funcNamed Rows.fileBackRow.func=some f) (hfn:Tryz.pinned.checked.prog.funcs[f]? = some fn) :
  true=Tryz.pinned.checked.prog.looks []∧∀(j:Nat) t,fn.params[j]? = some t→Tryz.pinned.checked.prog.wantsStandIn t=false:=by
 obtain rfl:f=5:=Option.some.inj ((show Tryz.prog.funcNamed Rows.fileBackRow.func=some 5 by kernel_rfl).symm.trans hf) |>.symm
 obtain rfl:fn=Tryz.f5:=(Option.some.inj (Tryz.func5.symm.trans hfn)).symm
 refine ⟨by kernel_rfl,fun j t ht=>?_⟩
 have hm:=Array.mem_of_getElem? ht
 have hall:(Tryz.f5.params.toList.all fun u=>!Tryz.prog.wantsStandIn u)=true:=by kernel_rfl
 exact (show Tryz.prog.wantsStandIn t=false by simpa using List.all_eq_true.1 hall t (by simpa using hm))
theorem over:Rows.FileBackCardSaid:=
 Claim7.holds_tied_plain_at .later [] _ _ _ _ row (fun _ h=>by cases h) (by kernel_rfl) (fun _ h=>by cases h) fileBack_row_tie rfl ⟨rfl,rfl⟩ (by kernel_rfl) rfl plain (by kernel_rfl)
end Go.Proofs.YtcgjgjjegnofeaaGreatDoor.fileBack
namespace Go.Proofs.YtcgjgjjegnofeaaGreatDoor
theorem fileBack_holds:Rows.FileBackCardSaid:=fileBack.over
#print axioms fileBack_holds
end Go.Proofs.YtcgjgjjegnofeaaGreatDoor
