/- For all bytes and all limits: what the program's Load of version 1 answers is valid in version 1, forward, and saved by its Save as it was; or there is an error alone (bytes longer than the law plays with are let go by the law itself); the arguments read afterwards as before. The package schema's tables hold what the program's text lays into them when the call begins (the card ties them). -/
import Derived.Test.YtgoffkfpdigeeaaDoorRows
import Derived.Test.YtgoffkfpdigeeaaDoorCards
import Derived.Test.YtgoffkfpdigeeaaDoorTie
import Derived.WalkKit
import Derived.ProofKit
import Derived.OpenShut
import Derived.ShutString
import Derived.Below
import Derived.Test.YtgoffkfpdigeeaaDoorP32
import Derived.ChangeOld
import Derived.LaidMore
import Derived.SevenTiedAt
namespace Go.Proofs.YtgoffkfpdigeeaaDoor.oldfileOne
open Go.ChangeShapes Go.WideShapes Go.ChangeAt Go.RowKit
open Go.ChangeMaps (open_string shut_string)
set_option linter.unusedVariables false
theorem own:ownKnob Tryd.prog.godebug=none:=by kernel_rfl
theorem laidOut:laidOutB Tryd.prog=true:=by kernel_rfl
set_option maxRecDepth 10000 in
set_option maxHeartbeats 4000000 in
theorem walk (a0:ByteArray) (l1:Lm) (w:World) (w0:a0.size≤maxLen) (w1:LmR l1) (hT:Tabs16 w) :
  Calls Tryd.prog 3 #[.string a0,.agg #[.int .i64 l1.b,.int .i64 l1.n,.int .i64 l1.e,.int .i64 l1.d,.int .i64 l1.x]] w fun e w'=>e=.returned (.bool true)∧Below w.heap.size w w':=by
 have HA:Hid (∀W,Below w.heap.size w W→Calls Tryd.prog 4 #[] W fun e w'=>e=.returned (.bool true)∧Below W.heap.size W w'):=fun W hb=>awake_any W (hT.on hb)
 have HT:Hid (Tabs16 w):=hT
 have HRg:Hid _:=lm_all w1
 have HG0:=Lg.start w l1
 have HG0:Hid (Lg w _ l1):=HG0
 unfold maxLen at w0
 clear hT w1
 go_enter Tryd.func3,Tryd.ntmps3
 go_wp2_with fail
 refine Calls.mono (HA.out _ HG0.out.bel) ?_
 rintro e w3 ⟨rfl,hb3⟩
 have HG3:Hid (Lg w w3 l1):=HG0.out.more hb3
 clear HG0 hb3
 by_cases h0:a0.size≤2000
 ·have h0':¬(2000:Int)<a0.size:=by omega
  have HP:Hid (Calls Tryd.prog 5 #[.string a0,.agg #[.int .i64 l1.b,.int .i64 l1.n,.int .i64 l1.e,.int .i64 l1.d,.int .i64 l1.x]] w3 fun e w'=>LoOut a0 l1 w3 w' e):=poload_any a0 l1 w3 (HT.out.on HG3.out.bel) (by omega) (qno_small_of (by omega)) HRg.out
  obtain ⟨y0,y1,y2,y3,y4⟩:=HG3.out.all
  clear HA HRg
  go_wp2_with fail
  refine Calls.mono HP.out ?_
  rintro e w4 ⟨X,a,c,k,rfl,hg4,hsc,hsm,hfn,hb4⟩
  have hb5:Below w4.heap.size w4 (w4.alloc (.cells #[.slice a X.length c,.int .i64 0] 27)):=(Below.refl w4.heap.size w4).alloc (Nat.le_refl _) _
  have HM5:Hid (AtN 27 (w4.alloc (.cells #[.slice a X.length c,.int .i64 0] 27)) w4.heap.size #[.slice a X.length c,.int .i64 0]):=AtN.new w4 27 _
  have HG5:Hid (Lg w (w4.alloc (.cells #[.slice a X.length c,.int .i64 0] 27)) l1):=(HG3.out.more hb4).more hb5
  have HS5:Hid (ScAt (w4.alloc (.cells #[.slice a X.length c,.int .i64 0] 27)) a X∧Small X∧FnX X):=⟨(hsc w4 (Fr.refl _ _)).belowB hb5,hsm,hfn⟩
  have HE:Hid (LoIs a0 l1 (X.map Nx.nd) k):=hg4
  clear HP HG3 hg4 hsc hsm hfn hb4 hb5 y0 y1 y2 y3 y4
  have m0:(w4.alloc (.cells #[.slice a X.length c,.int .i64 0] 27)).cell? ⟨w4.heap.size,0,none⟩=some (.slice a X.length c):=HM5.out.cell 0
  have m1:(w4.alloc (.cells #[.slice a X.length c,.int .i64 0] 27)).cell? ⟨w4.heap.size,1,none⟩=some (.int .i64 0):=HM5.out.cell 1
  by_cases hk:k=0
  ·subst hk
   obtain ⟨p1,p2,p3,p4,p5,d,p6,p7⟩:=one_ofile HE.out
   have z1:=lo_sz HE.out
   have HSI:Hid (SoIs X 0 l1 a0 0):=p1
   have HVa:Hid (∀W,ScAt W a X→Tabs16 W→Calls Tryd.prog 7 #[.agg #[.slice a X.length c,.int .i64 0],.agg #[.int .i64 l1.b,.int .i64 l1.n,.int .i64 l1.e,.int .i64 l1.d,.int .i64 l1.x]] W fun e w'=>e=.returned (.tuple #[.int .i64 0,.int .i64 0])∧Below W.heap.size W w'):=fun W hs ht=>by
    refine Calls.mono (ovalid_any X a c 0 l1 d W hs HS5.out.2.1 HS5.out.2.2 ht p6) ?_
    rintro e w' ⟨e1,q1,rfl,hv,hb⟩
    obtain ⟨rfl,rfl⟩:=p7.uniq hv
    exact ⟨rfl,hb⟩
   have HIs:Hid (∀W,ScAt W a X→Calls Tryd.prog 8 #[.agg #[.slice a X.length c,.int .i64 0]] W fun e w'=>e=.returned (.bool true)∧Below W.heap.size W w'):=fun W hs=>fowo_yes hs HS5.out.2.1 p4
   have HP:Hid (Calls Tryd.prog 6 #[.agg #[.slice a X.length c,.int .i64 0],.agg #[.int .i64 l1.b,.int .i64 l1.n,.int .i64 l1.e,.int .i64 l1.d,.int .i64 l1.x]] (w4.alloc (.cells #[.slice a X.length c,.int .i64 0] 27)) fun e w'=>SoOut X 0 l1 (w4.alloc (.cells #[.slice a X.length c,.int .i64 0] 27)) w' e):=posave_any X a c 0 l1 (w4.alloc (.cells #[.slice a X.length c,.int .i64 0] 27)) HS5.out.1 HS5.out.2.1 HS5.out.2.2 (HT.out.on HG5.out.bel) (fun _ _=>by omega)
   obtain ⟨y0,y1,y2,y3,y4⟩:=HG5.out.all
   clear p1 p2 p3 p4 p5 p6 p7 z1 HE h0
   go_wp2_with fail
   generalize (w4.alloc (.cells #[.slice a X.length c,.int .i64 0] 27))=w5 at *
   refine Calls.mono HP.out ?_
   rintro e w6 ⟨B,k,rfl,hsv,hb6⟩
   obtain ⟨rfl,rfl⟩:=HSI.out.uniq hsv
   have HG6:Hid (Lg w w6 l1):=HG5.out.more hb6
   have HM6:Hid (AtN 27 w6 w4.heap.size #[.slice a X.length c,.int .i64 0]):=HM5.out.belowAll hb6
   have HS6:Hid (ScAt w6 a X):=HS5.out.1.belowB hb6
   clear HP HG5 HM5 hb6 hsv HSI m0 m1 y0 y1 y2 y3 y4
   have m0:w6.cell? ⟨w4.heap.size,0,none⟩=some (.slice a X.length c):=HM6.out.cell 0
   have m1:w6.cell? ⟨w4.heap.size,1,none⟩=some (.int .i64 0):=HM6.out.cell 1
   obtain ⟨y0,y1,y2,y3,y4⟩:=HG6.out.all
   go_wp2_with fail
   refine Calls.mono (HVa.out w6 HS6.out (HT.out.on HG6.out.bel)) ?_
   rintro e w7 ⟨rfl,hb7⟩
   have HB7:Hid (Below w.heap.size w w7):=(HG6.out.more hb7).bel
   have HS7:Hid (ScAt w7 a X):=HS6.out.belowB hb7
   have m0:w7.cell? ⟨w4.heap.size,0,none⟩=some (.slice a X.length c):=(HM6.out.belowAll hb7).cell 0
   have m1:w7.cell? ⟨w4.heap.size,1,none⟩=some (.int .i64 0):=(HM6.out.belowAll hb7).cell 1
   have q1:(B.toList==B.toList)=true:=by simp
   clear HVa hb7 HG6 HM6 HS6 y0 y1 y2 y3 y4
   go_wp2_with fail
   refine Calls.mono (HIs.out w7 HS7.out) ?_
   rintro e w8 ⟨rfl,hb8⟩
   have HB8:Hid (Below w.heap.size w w8):=HB7.out.trans (hb8.mono HB7.out.size)
   clear HIs HB7 HS7 hb8 m0 m1
   go_wp2_with fail
   go_ret
   exact ⟨rfl,HB8.out⟩
  ·have hx:=lo_none HE.out hk
   have hq1:((X.length:Int)==0)=true:=by rw [hx];rfl
   have hk':(k != 0)=true:=by simpa using hk
   have HB5:Hid (Below w.heap.size w (w4.alloc (.cells #[.slice a X.length c,.int .i64 0] 27))):=HG5.out.bel
   clear HE hx
   go_wp2_with fail
   go_ret
   exact ⟨rfl,HB5.out⟩
 ·have h0':(2000:Int)<a0.size:=by omega
  go_wp2_with fail
  refine Calls.mono (HA.out _ HG3.out.bel) ?_
  rintro e w4 ⟨rfl,hb4⟩
  have HB4:Hid (Below w.heap.size w w4):=(HG3.out.more hb4).bel
  clear HG3 hb4
  go_wp2_with fail
  go_ret
  exact ⟨rfl,HB4.out⟩
set_option maxRecDepth 100000 in
theorem lifted (os:Os) (started:os.Started) (H:Type) (enc:TypeId × Value→H) :
  ReturnsInHanded {} Tryd.checked os 3 .any (fun w args=>(Rows.oldfileOneSpec.pre enc Tryd.prog Tryd.f3 [] false w args∧laidMetH Tryd.prog laid16 w)∧sizedMet enc Tryd.prog Tryd.f3 (OpenSpec.ofChange Rows.oldfileOneSpec) false w args)
   (Rows.oldfileOneSpec.post enc Tryd.prog Tryd.f3 false true false false):=by
 refine returnsInHanded_of_change_and (C:=Tryd.checked) (X:=fun w _=>laidMetH Tryd.prog laid16 w) (fun _ _ _ hh h=>h.of_heap hh) own started (by kernel_rfl) Tryd.func3
  (ChangeSpec.witness_shaped (enc:=enc) (C:=Tryd.checked) (os:=os) (X:=fun w _=>laidMetH Tryd.prog laid16 w) false (World.doorLaid Tryd.prog 400 os) #[.string ByteArray.empty,.agg #[.int .i64 0,.int .i64 0,.int .i64 0,.int .i64 0,.int .i64 0]] 8 rfl (World.shaped_of_RefB (by kernel_rfl) (by kernel_rfl)) (by kernel_rfl) (by kernel_rfl) (by kernel_rfl) (door16 os _)) ?_
 intro W base args ds gs before hval0 hW _ _ hL _
 have hval:∀(j:Nat) t v,Tryd.f3.params[j]? = some t→args[j]? = some v→Value.okWide Tryd.prog W .any base t v:=hval0
 have hW':=hW
 obtain ⟨p,q,hA0,hV,rfl,hfz,hnd⟩:=hW
 have hA:DataW.TrodAll enc Tryd.prog W 0 (fun _=>true) true Tryd.f3.params.toList args.toList ds p:=hA0
 rw [Tryd.params3] at hA hval
 obtain ⟨v0,vs0,d0,ds0,p0,q0,hargs,rfl,rfl,h0,r0⟩:=trodAll_cons hA
 obtain ⟨v1,vs1,d1,ds1,p1,q1,rfl,rfl,rfl,h1,r1⟩:=trodAll_cons r0
 obtain ⟨rfl,rfl,rfl⟩:=trodAll_nil r1
 obtain rfl:args=#[v0,v1]:=by cases args;simp_all
 obtain ⟨rfl,rfl⟩:=trodVars_none hV
 obtain ⟨a0,rfl,rfl,rfl,w0⟩:=open_string Tryd.underlying9 (hval 0 9 v0 rfl rfl) h0
 have K1:=h1
 have lt1:∀x ∈ p1,x.block<W.heap.size:=by obtain ⟨m,hm⟩:=K1;exact DataW.trod_lt m _ _ _ hm
 obtain ⟨l1,rfl,w1⟩:=open_lim Tryd.underlying23 (by kernel_rfl) (by kernel_rfl) Tryd.underlying3 Tryd.underlying3 Tryd.underlying3 Tryd.underlying3 Tryd.underlying3 (hval 1 23 v1 rfl rfl) h1
 clear hA0 hval0
 refine (walk a0 l1 W w0 w1 (tabs16_of hL)).mono fun e W' ⟨he,bel⟩=>?_
 subst he
 exact ⟨_,rfl,_,_,_,[],_,[],hW',trodAll_mk1 (shut_bool Tryd.underlying4 _),(trodAll_cons_mk (shut_string Tryd.underlying9 w0) (trodAll_cons_mk (Below.trod laidOut (by kernel_rfl) (of_decide_eq_true (by kernel_rfl)) K1 bel lt1) trodAll_mk0)),rfl,bel.frame _,fun h=>by cases h⟩
theorem row:Rows.oldfileOneRow.holds Tryd.pinned (OpenSpec.ofChange Rows.oldfileOneSpec):=
 OpenClaim.holds_of_wide 3 Tryd.f3 rfl rfl rfl rfl rfl rfl rfl ⟨rfl,rfl,rfl,rfl,rfl⟩ rfl rfl rfl rfl rfl (by kernel_rfl) Tryd.func3 (by kernel_rfl)
  (of_decide_eq_true (by kernel_rfl)) (by unfold Func.isWrapper;first|(rw [if_pos (by decide +kernel)];kernel_rfl)|(rw [if_neg (by decide +kernel)];exact ⟨rfl,rfl⟩))
  (fun os started H enc _=>lifted os started H enc)
theorem plain (f:FuncId) (fn:Func) (hf:Tryd.pinned.checked.prog.funcNamed Rows.oldfileOneRow.func=some f) (hfn:Tryd.pinned.checked.prog.funcs[f]? = some fn) :
  true=Tryd.pinned.checked.prog.looks []∧∀(j:Nat) t,fn.params[j]? = some t→Tryd.pinned.checked.prog.wantsStandIn t=false:=by
 obtain rfl:f=3:=Option.some.inj ((show Tryd.prog.funcNamed Rows.oldfileOneRow.func=some 3 by kernel_rfl).symm.trans hf) |>.symm
 obtain rfl:fn=Tryd.f3:=(Option.some.inj (Tryd.func3.symm.trans hfn)).symm
 refine ⟨by kernel_rfl,fun j t ht=>?_⟩
 have hm:=Array.mem_of_getElem? ht
 have hall:(Tryd.f3.params.toList.all fun u=>!Tryd.prog.wantsStandIn u)=true:=by kernel_rfl
 exact (show Tryd.prog.wantsStandIn t=false by simpa using List.all_eq_true.1 hall t (by simpa using hm))
theorem over:Rows.OldfileOneCardSaid:=
 Claim7.holds_tied_plain_at .later [] _ _ _ _ row (fun _ h=>by cases h) (by kernel_rfl) (fun _ h=>by cases h) oldfileOne_row_tie rfl ⟨rfl,rfl⟩ (by kernel_rfl) rfl plain (by kernel_rfl)
end Go.Proofs.YtgoffkfpdigeeaaDoor.oldfileOne
namespace Go.Proofs.YtgoffkfpdigeeaaDoor
theorem oldfileOne_holds:Rows.OldfileOneCardSaid:=oldfileOne.over
#print axioms oldfileOne_holds
end Go.Proofs.YtgoffkfpdigeeaaDoor
