/- For every scene and all limits: what the program's Save of version 1 answers is loaded by its Load as it was, within the same limits; beside an error there is no file (scenes greater than the law plays with are let go by the law itself); the arguments read afterwards as before. The package schema's tables hold what the program's text lays into them when the call begins (the card ties them). -/
import Derived.Test.YtgoffkfpdigeeaaGreatDoorRows
import Derived.Test.YtgoffkfpdigeeaaGreatDoorCards
import Derived.Test.YtgoffkfpdigeeaaGreatDoorTie
import Derived.WalkKit
import Derived.ProofKit
import Derived.OpenShut
import Derived.ShutString
import Derived.Below
import Derived.Test.YtgoffkfpdigeeaaGreatDoorP45
import Derived.Test.YtgoffkfpdigeeaaGreatDoorP47
import Derived.ChangeOld
import Derived.LaidMore
import Derived.SevenTiedAt
namespace Go.Proofs.YtgoffkfpdigeeaaGreatDoor.oldfileBack
open Go.ChangeShapes Go.WideShapes Go.ChangeAt Go.RowKit
open Go.ChangeMaps (open_string shut_string)
set_option linter.unusedVariables false
theorem own:ownKnob Tryz.prog.godebug=none:=by kernel_rfl
theorem laidOut:laidOutB Tryz.prog=true:=by kernel_rfl
set_option maxRecDepth 10000 in
set_option maxHeartbeats 4000000 in
theorem walk (X0:List Nx) (a0:Option Addr) (c0:Nat) (r0:Int) (l1:Lm) (w:World) (w0:IsSc w a0 X0 r0) (w1:LmR l1) (hT:Tabs16 w) :
  Calls Tryz.prog 5 #[.agg #[.slice a0 X0.length c0,.int .i64 r0],.agg #[.int .i64 l1.b,.int .i64 l1.n,.int .i64 l1.e,.int .i64 l1.d,.int .i64 l1.x]] w fun e w'=>e=.returned (.bool true)∧Below w.heap.size w w':=by
 have HA:Hid (∀W,Below w.heap.size w W→Calls Tryz.prog 8 #[] W fun e w'=>e=.returned (.bool true)∧Below W.heap.size W w'):=fun W hb=>awake_any W (hT.on hb)
 have HT:Hid (Tabs16 w):=hT
 have HS:Hid (IsSc w a0 X0 r0):=w0
 have HRg:Hid _:=lm_all w1
 have HL:=L5.start w a0 X0 c0 r0 l1
 have HL:Hid (L5 w _ a0 X0 c0 r0 l1):=HL
 clear w0 hT w1
 go_enter Tryz.func5,Tryz.ntmps5
 go_wp2_with fail
 refine Calls.mono (HA.out _ HL.out.bel) ?_
 rintro e w2 ⟨rfl,hb2⟩
 have HL2:Hid (L5 w w2 a0 X0 c0 r0 l1):=HL.out.more hb2
 clear HL hb2
 obtain ⟨xa0,xa1,-⟩:=HL2.out.all
 have HG:Hid (Calls Tryz.prog 9 #[.agg #[.slice a0 X0.length c0,.int .i64 r0]] w2 fun e w'=>GreatOut X0 w2 w' e):=sgreat_any X0 a0 c0 r0 w2 (HL2.out.sc HS.out)
 go_wp2_with fail
 refine Calls.mono HG.out ?_
 rintro e w3 ⟨g,rfl,hg,hb3⟩
 have HL3:Hid (L5 w w3 a0 X0 c0 r0 l1):=HL2.out.more hb3
 clear HG HL2 hb3 xa0 xa1
 cases g with
 | true=>
  go_wp2_with fail
  refine Calls.mono (HA.out _ HL3.out.bel) ?_
  rintro e wz ⟨rfl,hbz⟩
  have HB:Hid (Below w.heap.size w wz):=(HL3.out.more hbz).bel
  clear HL3 hbz
  go_wp2_with fail
  go_ret
  exact ⟨rfl,HB.out⟩
 | false=>
  have HSm:Hid (Small X0∧X0.length≤60):=hg rfl
  have HFn:Hid (FnX X0):=HS.out.fn
  have HSv:Hid (Calls Tryz.prog 10 #[.agg #[.slice a0 X0.length c0,.int .i64 r0],.agg #[.int .i64 l1.b,.int .i64 l1.n,.int .i64 l1.e,.int .i64 l1.d,.int .i64 l1.x]] w3 fun e w'=>SoOut X0 r0 l1 w3 w' e):=posave_any X0 a0 c0 r0 l1 w3 (HL3.out.sc HS.out) HSm.out.1 HFn.out (HT.out.on HL3.out.bel) (fun q1 q2=>by have:=oC_le HSm.out.1 HSm.out.2 HFn.out q1 q2;omega)
  obtain ⟨xa0,xa1,ya0,ya1,ya2,ya3,ya4⟩:=HL3.out.all
  clear hg HA
  go_wp2_with fail
  refine Calls.mono HSv.out ?_
  rintro e w4 ⟨B,k,rfl,hsv,hb4⟩
  have HL4:Hid (L5 w w4 a0 X0 c0 r0 l1):=HL3.out.more hb4
  have HSV:Hid (SoIs X0 r0 l1 B k):=hsv
  clear HSv HL3 hsv hb4 xa0 xa1 ya0 ya1 ya2 ya3 ya4
  by_cases hk:k=0
  ·subst hk
   obtain ⟨ho,hW,hf,⟨d,hd,hi⟩,hb,rfl⟩:=HSV.out.good
   obtain rfl:=hf.2.1
   have HLd:Hid _:=poback_any X0 l1 w4 d (HT.out.on HL4.out.bel) HSm.out.1 HSm.out.2 HFn.out hW hf hd ho hi hb HRg.out
   have hle:((oF (X0.map Nx.nd)).size:Int)≤l1.b:=Int.not_lt.1 hb
   obtain ⟨xa0,xa1,ya0,ya1,ya2,ya3,ya4⟩:=HL4.out.all
   clear HSV ho hW hf hd hi hb HT HFn HSm HRg
   generalize oF (X0.map Nx.nd)=F at *
   go_wp2_with fail
   refine Calls.mono HLd.out ?_
   rintro e w5 ⟨Y,a,c,rfl,hY,hsc,hsm,hb5⟩
   have hb6:Below w5.heap.size w5 (w5.alloc (.cells #[.slice a Y.length c,.int .i64 0] 24)):=(Below.refl w5.heap.size w5).alloc (Nat.le_refl _) _
   have HM6:Hid (AtN 24 (w5.alloc (.cells #[.slice a Y.length c,.int .i64 0] 24)) w5.heap.size #[.slice a Y.length c,.int .i64 0]):=AtN.new w5 24 _
   have HL6:Hid (L5 w (w5.alloc (.cells #[.slice a Y.length c,.int .i64 0] 24)) a0 X0 c0 0 l1):=(HL4.out.more hb5).more hb6
   have HSm:Hid _:=ssame_yes Y X0 a a0 c c0 0 (w5.alloc (.cells #[.slice a Y.length c,.int .i64 0] 24)) (hsc.belowB hb6) (HL6.out.sc HS.out) hsm hY.symm
   clear HLd HL4 hY hsc hsm hb5 hb6 xa0 xa1 ya0 ya1 ya2 ya3 ya4
   obtain ⟨xa0,xa1,ya0,ya1,ya2,ya3,ya4⟩:=HL6.out.all
   have m0:(w5.alloc (.cells #[.slice a Y.length c,.int .i64 0] 24)).cell? ⟨w5.heap.size,0,none⟩=some (.slice a Y.length c):=HM6.out.cell 0
   have m1:(w5.alloc (.cells #[.slice a Y.length c,.int .i64 0] 24)).cell? ⟨w5.heap.size,1,none⟩=some (.int .i64 0):=HM6.out.cell 1
   go_wp2_with fail
   generalize (w5.alloc (.cells #[.slice a Y.length c,.int .i64 0] 24))=w6 at *
   refine Calls.mono HSm.out ?_
   rintro e w8 ⟨rfl,hb8⟩
   have HB8:Hid (Below w.heap.size w w8):=(HL6.out.more hb8).bel
   clear HSm HL6 HM6 hb8 xa0 xa1 ya0 ya1 ya2 ya3 ya4 m0 m1
   go_wp2_with fail
   go_ret
   exact ⟨rfl,HB8.out⟩
  ·have hk':(k != 0)=true:=by simpa using hk
   obtain rfl:=HSV.out.bad hk
   have HB4:Hid (Below w.heap.size w w4):=HL4.out.bel
   clear HSV HL4
   go_wp2_with fail
   go_ret
   exact ⟨by first|rfl|decide|simp,HB4.out⟩
set_option maxRecDepth 100000 in
theorem lifted (os:Os) (started:os.Started) (H:Type) (enc:TypeId × Value→H) :
  ReturnsInHanded {} Tryz.checked os 5 .any (fun w args=>(Rows.oldfileBackSpec.pre enc Tryz.prog Tryz.f5 [] false w args∧laidMetH Tryz.prog laid16 w)∧sizedMet enc Tryz.prog Tryz.f5 (OpenSpec.ofChange Rows.oldfileBackSpec) false w args)
   (Rows.oldfileBackSpec.post enc Tryz.prog Tryz.f5 false true false false):=by
 refine returnsInHanded_of_change_and (C:=Tryz.checked) (X:=fun w _=>laidMetH Tryz.prog laid16 w) (fun _ _ _ hh h=>h.of_heap hh) own started (by kernel_rfl) Tryz.func5
  (ChangeSpec.witness_shaped (enc:=enc) (C:=Tryz.checked) (os:=os) (X:=fun w _=>laidMetH Tryz.prog laid16 w) false (World.doorLaid Tryz.prog 400 os) #[.agg #[.slice none 0 0,.int .i64 0],.agg #[.int .i64 0,.int .i64 0,.int .i64 0,.int .i64 0,.int .i64 0]] 8 rfl (World.shaped_of_RefB (by kernel_rfl) (by kernel_rfl)) (by kernel_rfl) (by kernel_rfl) (by kernel_rfl) (door16 os _)) ?_
 intro W base args ds gs before hval0 hW _ _ hL _
 have hval:∀(j:Nat) t v,Tryz.f5.params[j]? = some t→args[j]? = some v→Value.okWide Tryz.prog W .any base t v:=hval0
 have hW':=hW
 obtain ⟨p,q,hA0,hV,rfl,hfz,hnd⟩:=hW
 have hA:DataW.TrodAll enc Tryz.prog W 0 (fun _=>true) true Tryz.f5.params.toList args.toList ds p:=hA0
 rw [Tryz.params5] at hA hval
 obtain ⟨v0,vs0,d0,ds0,p0,q0,hargs,rfl,rfl,h0,r0⟩:=trodAll_cons hA
 obtain ⟨v1,vs1,d1,ds1,p1,q1,rfl,rfl,rfl,h1,r1⟩:=trodAll_cons r0
 obtain ⟨rfl,rfl,rfl⟩:=trodAll_nil r1
 obtain rfl:args=#[v0,v1]:=by cases args;simp_all
 obtain ⟨rfl,rfl⟩:=trodVars_none hV
 have K0:=h0
 have lt0:∀x ∈ p0,x.block<W.heap.size:=by obtain ⟨m,hm⟩:=K0;exact DataW.trod_lt m _ _ _ hm
 obtain ⟨X0,a0,c0,rt0,rfl,w0⟩:=open_scene Tryz.underlying24 (by kernel_rfl) (by kernel_rfl) Tryz.underlying22 Tryz.underlying3 Tryz.underlying51 (by kernel_rfl) rfl rfl rfl rfl (by kernel_rfl) (by kernel_rfl) (by kernel_rfl) (by kernel_rfl) Tryz.underlying3 Tryz.underlying48 Tryz.underlying47 Tryz.underlying49 Tryz.underlying2 Tryz.underlying9 Tryz.underlying3 (by kernel_rfl) (by kernel_rfl) (by kernel_rfl) (hval 0 24 v0 rfl rfl) h0
 have K1:=h1
 have lt1:∀x ∈ p1,x.block<W.heap.size:=by obtain ⟨m,hm⟩:=K1;exact DataW.trod_lt m _ _ _ hm
 obtain ⟨l1,rfl,w1⟩:=open_lim Tryz.underlying26 (by kernel_rfl) (by kernel_rfl) Tryz.underlying3 Tryz.underlying3 Tryz.underlying3 Tryz.underlying3 Tryz.underlying3 (hval 1 26 v1 rfl rfl) h1
 clear hA0 hval0
 refine (walk X0 a0 c0 rt0 l1 W w0 w1 (tabs16_of hL)).mono fun e W' ⟨he,bel⟩=>?_
 subst he
 exact ⟨_,rfl,_,_,_,[],_,[],hW',trodAll_mk1 (shut_bool Tryz.underlying4 _),(trodAll_cons_mk (Below.trod laidOut (by kernel_rfl) (of_decide_eq_true (by kernel_rfl)) K0 bel lt0) (trodAll_cons_mk (Below.trod laidOut (by kernel_rfl) (of_decide_eq_true (by kernel_rfl)) K1 bel lt1) trodAll_mk0)),rfl,bel.frame _,fun h=>by cases h⟩
theorem row:Rows.oldfileBackRow.holds Tryz.pinned (OpenSpec.ofChange Rows.oldfileBackSpec):=
 OpenClaim.holds_of_wide 5 Tryz.f5 rfl rfl rfl rfl rfl rfl rfl ⟨rfl,rfl,rfl,rfl,rfl⟩ rfl rfl rfl rfl rfl (by kernel_rfl) Tryz.func5 (by kernel_rfl)
  (of_decide_eq_true (by kernel_rfl)) (by unfold Func.isWrapper;first|(rw [if_pos (by decide +kernel)];kernel_rfl)|(rw [if_neg (by decide +kernel)];exact ⟨rfl,rfl⟩))
  (fun os started H enc _=>lifted os started H enc)
theorem plain (f:FuncId) (fn:Func) (hf:Tryz.pinned.checked.prog.funcNamed Rows.oldfileBackRow.func=some f) (hfn:Tryz.pinned.checked.prog.funcs[f]? = some fn) :
  true=Tryz.pinned.checked.prog.looks []∧∀(j:Nat) t,fn.params[j]? = some t→Tryz.pinned.checked.prog.wantsStandIn t=false:=by
 obtain rfl:f=5:=Option.some.inj ((show Tryz.prog.funcNamed Rows.oldfileBackRow.func=some 5 by kernel_rfl).symm.trans hf) |>.symm
 obtain rfl:fn=Tryz.f5:=(Option.some.inj (Tryz.func5.symm.trans hfn)).symm
 refine ⟨by kernel_rfl,fun j t ht=>?_⟩
 have hm:=Array.mem_of_getElem? ht
 have hall:(Tryz.f5.params.toList.all fun u=>!Tryz.prog.wantsStandIn u)=true:=by kernel_rfl
 exact (show Tryz.prog.wantsStandIn t=false by simpa using List.all_eq_true.1 hall t (by simpa using hm))
theorem over:Rows.OldfileBackCardSaid:=
 Claim7.holds_tied_plain_at .later [] _ _ _ _ row (fun _ h=>by cases h) (by kernel_rfl) (fun _ h=>by cases h) oldfileBack_row_tie rfl ⟨rfl,rfl⟩ (by kernel_rfl) rfl plain (by kernel_rfl)
end Go.Proofs.YtgoffkfpdigeeaaGreatDoor.oldfileBack
namespace Go.Proofs.YtgoffkfpdigeeaaGreatDoor
theorem oldfileBack_holds:Rows.OldfileBackCardSaid:=oldfileBack.over
#print axioms oldfileBack_holds
end Go.Proofs.YtgoffkfpdigeeaaGreatDoor
