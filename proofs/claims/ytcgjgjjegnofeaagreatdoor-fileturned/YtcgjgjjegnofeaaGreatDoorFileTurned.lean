/- For every scene that is right: with its nodes in the other order it has the same file, or none just if it had none (scenes greater than the law plays with are let go by the law itself); the argument reads afterwards as before. The package schema's tables hold what the program's text lays into them when the call begins (the card ties them). -/
import Derived.Test.YtcgjgjjegnofeaaGreatDoorRows
import Derived.Test.YtcgjgjjegnofeaaGreatDoorCards
import Derived.Test.YtcgjgjjegnofeaaGreatDoorTie
import Derived.WalkKit
import Derived.ProofKit
import Derived.OpenShut
import Derived.ShutString
import Derived.Below
import Derived.Deep.RegionHeld3
import Derived.Test.YtcgjgjjegnofeaaGreatDoorPA31
import Derived.ChangeOld
import Derived.LaidMore
import Derived.SevenTiedAt
namespace Go.Proofs.YtcgjgjjegnofeaaGreatDoor.fileTurned
open Go.ChangeShapes Go.WideShapes Go.ChangeAt Go.RowKit
open Go.ChangeMaps (open_string shut_string)
set_option linter.unusedVariables false
theorem own:ownKnob Tryz.prog.godebug=none:=by kernel_rfl
theorem laidOut:laidOutB Tryz.prog=true:=by kernel_rfl
theorem sv_make {X:List Nx} {r:Int} {l:Lm} {d:Nat} (ho:okL l=true) (hW:Whole X r) (hd:DepthIs X r d) (hi:inL (meL X d) l=true) (hb:¬l.b<((cF X r).size:Int)):SvIs X r l (cF X r) 0:=
 ⟨d,0,0,hd,va_good ho hW hi,.inr ⟨rfl,.inr ⟨hb,rfl,rfl⟩⟩⟩
theorem ren_tyI {X Y:List Nx} {p:Nat→Nat} (h:Ren X Y p) (q:tyE Y=0):tyE X=0:=tyE_of fun i hi=>by
 have:=tyE_all q (p i) (by rw [h.len];exact h.per.lt i hi)
 rw [h.nd i hi,ren_tyN] at this
 exact this
theorem sv_ren {X Y:List Nx} {p:Nat→Nat} {r r':Int} {l:Lm} {B B':ByteArray} {e e':Int} (h:Ren X Y p) (hR:RightIs X r) (hr:r'=(p r.toNat:Int)) (h1:SvIs X r l B e) (h2:SvIs Y r' l B' e'):B'=B∧(e'=0↔e=0):=by
 subst hr
 have hR':=h.right hR
 have hF:cF Y (p r.toNat:Int)=cF X r:=by unfold cF cA cC;rw [h.can hR]
 have hm:∀d,meL Y d=meL X d:=fun d=>by unfold meL;rw [h.len,h.edg,h.txb]
 have key:e=0→B'=B∧e'=0:=fun q=>by
  subst q
  obtain ⟨ho,hW,⟨d,hd,hi⟩,hb,rfl⟩:=h1.good
  obtain ⟨d',hd'⟩:=depth_there Y (p r.toNat:Int)
  have:=h.depth hR hd hd'
  subst this
  have h3:=sv_make ho ⟨h.ty hW.1,hR'⟩ hd' (by rw [hm];exact hi) (by rw [hF];exact hb)
  obtain ⟨rfl,rfl⟩:=h3.uniq h2
  exact ⟨hF,rfl⟩
 by_cases q:e=0
 ·obtain ⟨k1,k2⟩:=key q
  exact ⟨k1,fun _=>q,fun _=>k2⟩
 ·have q':e'≠0:=fun k=>by
   subst k
   obtain ⟨ho,hW,⟨d',hd',hi⟩,hb,_⟩:=h2.good
   obtain ⟨d,hd⟩:=depth_there X r
   have:=h.depth hR hd hd'
   subst this
   have h3:=sv_make ho ⟨ren_tyI h hW.1,hR⟩ hd (by rw [← hm];exact hi) (by rw [← hF];exact hb)
   exact q (h3.uniq h1).2
  exact ⟨by rw [h1.bad q,h2.bad q'],fun k=>absurd k q',fun k=>absurd k q⟩
set_option maxRecDepth 10000 in
set_option maxHeartbeats 4000000 in
theorem walk (X0:List Nx) (a0:Option Addr) (c0:Nat) (r0:Int) (w:World) (w0:IsSc w a0 X0 r0) (hT:Tabs12 w) :
  Calls Tryz.prog 7 #[.agg #[.slice a0 X0.length c0,.int .i64 r0]] w fun e w'=>e=.returned (.bool true)∧Below w.heap.size w w':=by
 have HA:Hid (∀W,Below w.heap.size w W→Calls Tryz.prog 10 #[] W fun e w'=>e=.returned (.bool true)∧Below W.heap.size W w'):=fun W hb=>awake_any W (hT.on hb)
 have HT:Hid (Tabs12 w):=hT
 have HS:Hid (IsSc w a0 X0 r0):=w0
 have HL:Hid (Lw w (w.alloc (.cells #[.slice a0 X0.length c0,.int .i64 r0] 24)) a0 X0 c0 r0):=Lw.start w a0 X0 c0 r0
 clear w0 hT
 go_enter Tryz.func7,Tryz.ntmps7
 go_wp2_with fail
 refine Calls.mono (HA.out _ HL.out.bel) ?_
 rintro e w2 ⟨rfl,hb2⟩
 have HL2:Hid (Lw w w2 a0 X0 c0 r0):=HL.out.more hb2
 clear HL hb2
 have xa0:=HL2.out.c0
 have xa1:=HL2.out.c1
 have HG:Hid (Calls Tryz.prog 11 #[.agg #[.slice a0 X0.length c0,.int .i64 r0]] w2 fun e w'=>GreatOut X0 w2 w' e):=sgreat_any X0 a0 c0 r0 w2 (HL2.out.sc HS.out)
 go_wp2_with fail
 refine Calls.mono HG.out ?_
 rintro e w3 ⟨g,rfl,hg,hb3⟩
 have HL3:Hid (Lw w w3 a0 X0 c0 r0):=HL2.out.more hb3
 clear HG HL2 hb3 xa0 xa1
 cases g with
 | true=>
  go_wp2_with fail
  refine Calls.mono (HA.out _ HL3.out.bel) ?_
  rintro e wz ⟨rfl,hbz⟩
  have HB:Hid (Below w.heap.size w wz):=(HL3.out.more hbz).bel
  clear HL3 hbz
  go_wp2_with fail
  go_ret
  exact ⟨rfl,HB.out⟩
 | false=>
  have HSm:Hid (Small X0∧X0.length≤60):=hg rfl
  have HFn:Hid (FnX X0):=HS.out.fn
  have xa0:=HL3.out.c0
  have xa1:=HL3.out.c1
  have HW:Hid (Calls Tryz.prog 20 #[.agg #[.slice a0 X0.length c0,.int .i64 r0]] w3 fun e w'=>RightOut X0 r0 w3 w' e):=right_any X0 a0 c0 r0 w3 (HL3.out.sc HS.out) HSm.out.1
  clear hg
  go_wp2_with fail
  refine Calls.mono HW.out ?_
  rintro e w4 ⟨bw,rfl,hbw,hb4⟩
  have HL4:Hid (Lw w w4 a0 X0 c0 r0):=HL3.out.more hb4
  have HBw:Hid (bw=true↔RightIs X0 r0):=hbw
  clear HW HL3 hb4 xa0 xa1 hbw
  cases bw with
  | false=>
   clear HBw
   go_wp2_with fail
   refine Calls.mono (HA.out _ HL4.out.bel) ?_
   rintro e wz ⟨rfl,hbz⟩
   have HB:Hid (Below w.heap.size w wz):=(HL4.out.more hbz).bel
   clear HL4 hbz
   go_wp2_with fail
   go_ret
   exact ⟨rfl,HB.out⟩
  | true=>
   have HR:Hid (RightIs X0 r0):=HBw.out.1 rfl
   have HSv:Hid (∀(W:World) (Y:List Nx) (a:Option Addr) (c:Nat) (r:Int),Below w.heap.size w W→ScAt W a Y→Small Y→Y.length≤60→FnX Y→Calls Tryz.prog 12 #[.agg #[.slice a Y.length c,.int .i64 r],.agg #[.int .i64 16777216,.int .i64 16777216,.int .i64 16777216,.int .i64 16777216,.int .i64 16777216]] W fun e w'=>SvOut Y r wL W w' e):=fun W Y a c r hb hs hm h60 hf=>pfsave_any Y a c r wL W hs hm hf (HT.out.on hb) (fun q=>can_sz hm h60 hf q)
   have xa0:=HL4.out.c0
   have xa1:=HL4.out.c1
   have HLd:Hid (Lw w w4.drew a0 X0 c0 r0):=HL4.out.more (bel_drew w4)
   have K4:w4.cell? ⟨w.heap.size,0,none⟩=some (.slice a0 X0.length c0)∧w4.cell? ⟨w.heap.size,1,none⟩=some (.int .i64 r0):=⟨xa0,xa1⟩
   have Kd:w4.drew.cell? ⟨w.heap.size,0,none⟩=some (.slice a0 X0.length c0)∧w4.drew.cell? ⟨w.heap.size,1,none⟩=some (.int .i64 r0):=⟨HLd.out.c0,HLd.out.c1⟩
   clear HA HBw HT xa0 xa1
   go_wp2_with fail
   go_region_held3 (fun W=>W.cell? ⟨w.heap.size,0,none⟩=some (.slice a0 X0.length c0)∧W.cell? ⟨w.heap.size,1,none⟩=some (.int .i64 r0)) (first|exact K6|exact K5|exact Kd|exact K4)
    ((first|(go_at_call 12;refine Calls.mono (HSv.out _ X0 a0 c0 r0 HL5.out.bel (HL5.out.sc HS.out) HSm.out.1 HSm.out.2 HFn.out) ?_;rintro e w6 ⟨B,k,rfl,hsv,hb6⟩;have HL6:Hid (Lw w w6 a0 X0 c0 r0):=HL5.out.more hb6;have K6:w6.cell? ⟨w.heap.size,0,none⟩=some (.slice a0 X0.length c0)∧w6.cell? ⟨w.heap.size,1,none⟩=some (.int .i64 r0):=⟨HL6.out.c0,HL6.out.c1⟩)|(go_at_call 21;refine Calls.mono (wide_any _) ?_;rintro e w5 ⟨rfl,hb5⟩;have HL5:Hid (Lw w w5 a0 X0 c0 r0):=HLd.out.more hb5;have K5:w5.cell? ⟨w.heap.size,0,none⟩=some (.slice a0 X0.length c0)∧w5.cell? ⟨w.heap.size,1,none⟩=some (.int .i64 r0):=⟨HL5.out.c0,HL5.out.c1⟩)))
   have HSV:Hid (SvIs X0 r0 wL B k):=hsv
   have HTn:Hid _:=sturn_any X0 a0 c0 r0 w6 (HL6.out.sc HS.out) HSm.out.1
   have xa0:=HL6.out.c0
   have xa1:=HL6.out.c1
   clear hsv HL4 HLd HL5 K4 Kd K5 K6 hb5 hb6
   go_wp2_with fail
   refine Calls.mono HTn.out ?_
   rintro e w7 ⟨T,aT,cT,rfl,hTl,hTn,hTs,hb7⟩
   have hR9:=turn_ren HSm.out.1 HR.out hTl hTn
   have hTm:Small T∧T.length≤60∧FnX T:=⟨hR9.1.small HSm.out.1,by rw [hTl];exact HSm.out.2,hR9.1.fnx HFn.out⟩
   have HEq:Hid (∀B' k',SvIs T (trn X0.length r0) wL B' k'→B'=B∧(k'=0↔k=0)):=fun B' k' q=>sv_ren hR9.1 HR.out hR9.2 HSV.out q
   have HTm:Hid (Small T∧T.length≤60∧FnX T):=hTm
   have HTs:Hid (ScAt w7 aT T):=hTs
   have HB7:Hid (Below w.heap.size w w7):=(HL6.out.more hb7).bel
   clear HTn hTl hTn hTs hb7 hR9 hTm HL6 HSV xa0 xa1
   generalize trn X0.length r0=rt at *
   go_wp2_with fail
   refine Calls.mono (wide_any _) ?_
   rintro e w8 ⟨rfl,hb8⟩
   have HB8:Hid (Below w.heap.size w w8):=HB7.out.trans (hb8.mono HB7.out.size)
   have HSc:Hid _:=HSv.out w8 T aT cT rt HB8.out (HTs.out.belowB hb8) HTm.out.1 HTm.out.2.1 HTm.out.2.2
   clear HTs HB7 hb8 HSv
   go_wp2_with fail
   refine Calls.mono HSc.out ?_
   rintro e w9 ⟨B',k',rfl,hs9,hb9⟩
   have HB9:Hid (Below w.heap.size w w9):=HB8.out.trans (hb9.mono HB8.out.size)
   obtain ⟨rfl,hkk⟩:=HEq.out B' k' hs9
   have hbq:(B'.toList==B'.toList)=true:=by simp
   clear HSc HB8 hs9 hb9 HEq
   by_cases hk:k=0
   ·have hk':=hkk.2 hk
    subst hk hk'
    clear hkk
    go_wp2_with fail
    go_ret
    exact ⟨rfl,HB9.out⟩
   ·have hk':¬k'=0:=fun q=>hk (hkk.1 q)
    have q1:(k==0)=false:=by simpa using hk
    have q2:(k'==0)=false:=by simpa using hk'
    clear hkk hk hk'
    go_wp2_with fail
    go_ret
    exact ⟨rfl,HB9.out⟩
set_option maxRecDepth 100000 in
theorem lifted (os:Os) (started:os.Started) (H:Type) (enc:TypeId × Value→H) :
  ReturnsInHanded {} Tryz.checked os 7 .any (fun w args=>(Rows.fileTurnedSpec.pre enc Tryz.prog Tryz.f7 [] false w args∧laidMetH Tryz.prog laid2 w)∧sizedMet enc Tryz.prog Tryz.f7 (OpenSpec.ofChange Rows.fileTurnedSpec) false w args)
   (Rows.fileTurnedSpec.post enc Tryz.prog Tryz.f7 false true false false):=by
 refine returnsInHanded_of_change_and (C:=Tryz.checked) (X:=fun w _=>laidMetH Tryz.prog laid2 w) (fun _ _ _ hh h=>h.of_heap hh) own started (by kernel_rfl) Tryz.func7
  (ChangeSpec.witness_shaped (enc:=enc) (C:=Tryz.checked) (os:=os) (X:=fun w _=>laidMetH Tryz.prog laid2 w) false (World.doorLaid Tryz.prog 400 os) #[.agg #[.slice none 0 0,.int .i64 0]] 8 rfl (World.shaped_of_RefB (by kernel_rfl) (by kernel_rfl)) (by kernel_rfl) (by kernel_rfl) (by kernel_rfl) (door_met os _)) ?_
 intro W base args ds gs before hval0 hW _ _ hL _
 have hval:∀(j:Nat) t v,Tryz.f7.params[j]? = some t→args[j]? = some v→Value.okWide Tryz.prog W .any base t v:=hval0
 have hW':=hW
 obtain ⟨p,q,hA0,hV,rfl,hfz,hnd⟩:=hW
 have hA:DataW.TrodAll enc Tryz.prog W 0 (fun _=>true) true Tryz.f7.params.toList args.toList ds p:=hA0
 rw [Tryz.params7] at hA hval
 obtain ⟨v0,vs0,d0,ds0,p0,q0,hargs,rfl,rfl,h0,r0⟩:=trodAll_cons hA
 obtain ⟨rfl,rfl,rfl⟩:=trodAll_nil r0
 obtain rfl:args=#[v0]:=by cases args;simp_all
 obtain ⟨rfl,rfl⟩:=trodVars_none hV
 have K0:=h0
 have lt0:∀x ∈ p0,x.block<W.heap.size:=by obtain ⟨m,hm⟩:=K0;exact DataW.trod_lt m _ _ _ hm
 obtain ⟨X0,a0,c0,rt0,rfl,w0⟩:=open_scene Tryz.underlying24 (by kernel_rfl) (by kernel_rfl) Tryz.underlying22 Tryz.underlying3 Tryz.underlying62 (by kernel_rfl) rfl rfl rfl rfl (by kernel_rfl) (by kernel_rfl) (by kernel_rfl) (by kernel_rfl) Tryz.underlying3 Tryz.underlying58 Tryz.underlying59 Tryz.underlying60 Tryz.underlying2 Tryz.underlying9 Tryz.underlying3 (by kernel_rfl) (by kernel_rfl) (by kernel_rfl) (hval 0 24 v0 rfl rfl) h0
 clear hA0 hval0
 refine (walk X0 a0 c0 rt0 W w0 (tabs_of hL)).mono fun e W' ⟨he,bel⟩=>?_
 subst he
 exact ⟨_,rfl,_,_,_,[],_,[],hW',trodAll_mk1 (shut_bool Tryz.underlying4 _),(trodAll_cons_mk (Below.trod laidOut (by kernel_rfl) (of_decide_eq_true (by kernel_rfl)) K0 bel lt0) trodAll_mk0),rfl,bel.frame _,fun h=>by cases h⟩
theorem row:Rows.fileTurnedRow.holds Tryz.pinned (OpenSpec.ofChange Rows.fileTurnedSpec):=
 OpenClaim.holds_of_wide 7 Tryz.f7 rfl rfl rfl rfl rfl rfl rfl ⟨rfl,rfl,rfl,rfl,rfl⟩ rfl rfl rfl rfl rfl (by kernel_rfl) Tryz.func7 (by kernel_rfl)
  (of_decide_eq_true (by kernel_rfl)) (by unfold Func.isWrapper;first|(rw [if_pos (by decide +kernel)];kernel_rfl)|(rw [if_neg (by decide +kernel)];exact ⟨rfl,rfl⟩))
  (fun os started H enc _=>lifted os started H enc)
theorem plain (f:FuncId) (fn:Func) (hf:Tryz.pinned.checked.prog.funcNamed Rows.fileTurnedRow.func=some f) (hfn:Tryz.pinned.checked.prog.funcs[f]? = some fn) :
  true=Tryz.pinned.checked.prog.looks []∧∀(j:Nat) t,fn.params[j]? = some t→Tryz.pinned.checked.prog.wantsStandIn t=false:=by
 obtain rfl:f=7:=Option.some.inj ((show Tryz.prog.funcNamed Rows.fileTurnedRow.func=some 7 by kernel_rfl).symm.trans hf) |>.symm
 obtain rfl:fn=Tryz.f7:=(Option.some.inj (Tryz.func7.symm.trans hfn)).symm
 refine ⟨by kernel_rfl,fun j t ht=>?_⟩
 have hm:=Array.mem_of_getElem? ht
 have hall:(Tryz.f7.params.toList.all fun u=>!Tryz.prog.wantsStandIn u)=true:=by kernel_rfl
 exact (show Tryz.prog.wantsStandIn t=false by simpa using List.all_eq_true.1 hall t (by simpa using hm))
theorem over:Rows.FileTurnedCardSaid:=
 Claim7.holds_tied_plain_at .later [] _ _ _ _ row (fun _ h=>by cases h) (by kernel_rfl) (fun _ h=>by cases h) fileTurned_row_tie rfl ⟨rfl,rfl⟩ (by kernel_rfl) rfl plain (by kernel_rfl)
end Go.Proofs.YtcgjgjjegnofeaaGreatDoor.fileTurned
namespace Go.Proofs.YtcgjgjjegnofeaaGreatDoor
theorem fileTurned_holds:Rows.FileTurnedCardSaid:=fileTurned.over
#print axioms fileTurned_holds
end Go.Proofs.YtcgjgjjegnofeaaGreatDoor
