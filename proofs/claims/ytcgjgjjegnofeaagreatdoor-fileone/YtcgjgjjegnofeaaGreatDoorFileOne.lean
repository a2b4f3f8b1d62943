/- For all bytes and all limits: what the program's Load answers is saved by its Save as it was, and is valid within the limits; or there is an error alone (bytes longer than the law plays with are let go by the law itself); the arguments read afterwards as before. The package schema's tables hold what the program's text lays into them when the call begins (the card ties them). -/
import Derived.Test.YtcgjgjjegnofeaaGreatDoorRows
import Derived.Test.YtcgjgjjegnofeaaGreatDoorCards
import Derived.Test.YtcgjgjjegnofeaaGreatDoorTie
import Derived.WalkKit
import Derived.ProofKit
import Derived.OpenShut
import Derived.ShutString
import Derived.Below
import Derived.Test.YtcgjgjjegnofeaaGreatDoorPB28
import Derived.Test.YtcgjgjjegnofeaaGreatDoorPB23
import Derived.ChangeOld
import Derived.LaidMore
import Derived.SevenTiedAt
namespace Go.Proofs.YtcgjgjjegnofeaaGreatDoor.fileOne
open Go.ChangeShapes Go.WideShapes Go.ChangeAt Go.RowKit
open Go.ChangeMaps (open_string shut_string)
set_option linter.unusedVariables false
theorem own:ownKnob Tryz.prog.godebug=none:=by kernel_rfl
theorem laidOut:laidOutB Tryz.prog=true:=by kernel_rfl
theorem va_none {X:List Nx} {r:Int} {l:Lm} {d:Nat} {e z:Int} (h:VaIs X r l d e z) (h1:okL l=true) (h2:tyE X=0) (h3:RightIs X r) (h4:inL (meL X d) l=true):e=0:=by
 rcases h with ⟨q,_⟩|⟨_,q,_⟩|⟨_,_,n,y,hc,⟨p,_⟩|⟨p,⟨p1,_⟩|⟨p1,rfl,_⟩⟩⟩
 ·rw [h1] at q;cases q
 ·exact absurd h2 q
 ·exact absurd (hc.right.2 h3) p
 ·rw [h4] at p1;cases p1
 ·rfl
theorem ld_none {b:ByteArray} {l:Lm} {X:List Nx} {r k:Int} (h:LdIs b l (X.map Nx.nd) r k) (hk:k≠0):X=[]∧r=0:=by
 rcases h with ⟨_,_,h3,h4⟩|⟨_,⟨_,_,h3,h4⟩|⟨_,q,_,⟨_,_,h3,h4⟩|⟨_,h3,_⟩⟩⟩
 ·exact ⟨by simpa using h3,h4⟩
 ·exact ⟨by simpa using h3,h4⟩
 ·exact ⟨by simpa using h3,h4⟩
 ·exact absurd h3 hk
theorem one_sz {b:ByteArray} {l:Lm} {X:List Nx} {r:Int} (h:LdIs b l (X.map Nx.nd) r 0):(cA X r).size≤b.size∧(cC X r).size≤b.size:=by
 rcases h with ⟨h1,h2,_,_⟩|⟨h1,hG⟩
 ·exact absurd h2.symm h1
 obtain ⟨p1,p2,p3,p4,d,p5,p6⟩:=got_all hG
 have hW:Whole X r:=⟨p3,p4⟩
 have hC:IsCan X r:=by
  rcases p1 with ⟨q,_⟩|⟨_,n,y,_,⟨q,q2,_⟩|⟨_,⟨_,q,_⟩|⟨q,_⟩⟩⟩
  ·exact absurd p3 q
  ·exact absurd q2.symm q
  ·cases q
  ·exact q
 obtain ⟨_,c2,c3⟩:=(isCan_iff X r).1 hC
 have p1':=p1
 rw [← c2] at p1'
 obtain ⟨_,e1,e2⟩:=put_can hW c3 p1'
 obtain ⟨_,f2,f3⟩:=file_of h1
 rw [← e1,← e2]
 exact ⟨f2,f3⟩
set_option maxRecDepth 10000 in
set_option maxHeartbeats 4000000 in
theorem walk (a0:ByteArray) (l1:Lm) (w:World) (w0:a0.size≤maxLen) (w1:LmR l1) (hT:Tabs12 w) :
  Calls Tryz.prog 6 #[.string a0,.agg #[.int .i64 l1.b,.int .i64 l1.n,.int .i64 l1.e,.int .i64 l1.d,.int .i64 l1.x]] w fun e w'=>e=.returned (.bool true)∧Below w.heap.size w w':=by
 have HA:Hid (∀W,Below w.heap.size w W→Calls Tryz.prog 10 #[] W fun e w'=>e=.returned (.bool true)∧Below W.heap.size W w'):=fun W hb=>awake_any W (hT.on hb)
 have HT:Hid (Tabs12 w):=hT
 have HRg:Hid _:=lm_all w1
 have HG0:=Lg.start w l1
 have HG0:Hid (Lg w _ l1):=HG0
 unfold maxLen at w0
 clear hT w1
 go_enter Tryz.func6,Tryz.ntmps6
 go_wp2_with fail
 refine Calls.mono (HA.out _ HG0.out.bel) ?_
 rintro e w3 ⟨rfl,hb3⟩
 have HG3:Hid (Lg w w3 l1):=HG0.out.more hb3
 clear HG0 hb3
 by_cases h0:a0.size≤2000
 ·have h0':¬(2000:Int)<a0.size:=by omega
  have HP:Hid (Calls Tryz.prog 15 #[.string a0,.agg #[.int .i64 l1.b,.int .i64 l1.n,.int .i64 l1.e,.int .i64 l1.d,.int .i64 l1.x]] w3 fun e w'=>LdOut a0 l1 w3 w' e):=pfload_any a0 l1 w3 (HT.out.on HG3.out.bel) (by omega) (fun A C q=>few_q (by omega) q) HRg.out
  obtain ⟨y0,y1,y2,y3,y4⟩:=HG3.out.all
  clear HA HRg
  go_wp2_with fail
  refine Calls.mono HP.out ?_
  rintro e w4 ⟨X,a,c,r,k,rfl,hg4,hsc,hsm,hfn,hb4⟩
  obtain ⟨w5,hw5⟩:∃w5,w4.alloc (.cells #[.slice a X.length c,.int .i64 r] 24)=w5:=⟨_,rfl⟩
  have hb5:Below w4.heap.size w4 w5:=by rw [← hw5];exact (Below.refl w4.heap.size w4).alloc (Nat.le_refl _) _
  have HM5:Hid (AtN 24 w5 w4.heap.size #[.slice a X.length c,.int .i64 r]):=by rw [← hw5];exact AtN.new w4 24 _
  have HG5:Hid (Lg w w5 l1):=(HG3.out.more hb4).more hb5
  have HS5:Hid (ScAt w5 a X∧Small X∧FnX X):=⟨(hsc w4 (Fr.refl _ _)).belowB hb5,hsm,hfn⟩
  have HE:Hid (LdIs a0 l1 (X.map Nx.nd) r k):=hg4
  clear HP HG3 hg4 hsc hsm hfn hb4 hb5 y0 y1 y2 y3 y4
  have m0:w5.cell? ⟨w4.heap.size,0,none⟩=some (.slice a X.length c):=HM5.out.cell 0
  have m1:w5.cell? ⟨w4.heap.size,1,none⟩=some (.int .i64 r):=HM5.out.cell 1
  by_cases hk:k=0
  ·subst hk
   obtain ⟨p1,p2,p3,d,p4,p5⟩:=one_file HE.out
   obtain ⟨z1,z2⟩:=one_sz HE.out
   have HSI:Hid (SvIs X r l1 a0 0):=p1
   have HVa:Hid (∀W,ScAt W a X→Tabs12 W→Calls Tryz.prog 19 #[.agg #[.slice a X.length c,.int .i64 r],.agg #[.int .i64 l1.b,.int .i64 l1.n,.int .i64 l1.e,.int .i64 l1.d,.int .i64 l1.x]] W fun e w'=>∃z,e=.returned (.tuple #[.int .i64 0,.int .i64 z])∧Below W.heap.size W w'):=fun W hs ht=>by
    refine Calls.mono (valid_any X a c r l1 d W hs HS5.out.2.1 HS5.out.2.2 ht p4) ?_
    rintro e w' ⟨e1,q1,rfl,hv,hb⟩
    obtain rfl:=va_none hv p2 p3.1 p3.2 p5
    exact ⟨q1,rfl,hb⟩
   have HP:Hid (Calls Tryz.prog 12 #[.agg #[.slice a X.length c,.int .i64 r],.agg #[.int .i64 l1.b,.int .i64 l1.n,.int .i64 l1.e,.int .i64 l1.d,.int .i64 l1.x]] w5 fun e w'=>SvOut X r l1 w5 w' e):=pfsave_any X a c r l1 w5 HS5.out.1 HS5.out.2.1 HS5.out.2.2 (HT.out.on HG5.out.bel) (fun _=>⟨by omega,by omega⟩)
   obtain ⟨y0,y1,y2,y3,y4⟩:=HG5.out.all
   clear p1 p2 p3 p4 p5 z1 z2 HE h0
   go_wp2_with fail
   clear hw5
   refine Calls.mono HP.out ?_
   rintro e w6 ⟨B,k,rfl,hsv,hb6⟩
   obtain ⟨rfl,rfl⟩:=HSI.out.uniq hsv
   have HG6:Hid (Lg w w6 l1):=HG5.out.more hb6
   have HM6:Hid (AtN 24 w6 w4.heap.size #[.slice a X.length c,.int .i64 r]):=HM5.out.belowAll hb6
   have HS6:Hid (ScAt w6 a X):=HS5.out.1.belowB hb6
   clear HP HG5 HM5 hb6 hsv HSI m0 m1 y0 y1 y2 y3 y4
   have m0:w6.cell? ⟨w4.heap.size,0,none⟩=some (.slice a X.length c):=HM6.out.cell 0
   have m1:w6.cell? ⟨w4.heap.size,1,none⟩=some (.int .i64 r):=HM6.out.cell 1
   obtain ⟨y0,y1,y2,y3,y4⟩:=HG6.out.all
   go_wp2_with fail
   refine Calls.mono (HVa.out w6 HS6.out (HT.out.on HG6.out.bel)) ?_
   rintro e w7 ⟨z,rfl,hb7⟩
   have HB7:Hid (Below w.heap.size w w7):=(HG6.out.more hb7).bel
   have q1:(B.toList==B.toList)=true:=by simp
   clear HVa hb7 HG6 HM6 HS6 m0 m1 y0 y1 y2 y3 y4
   go_wp2_with fail
   go_ret
   exact ⟨rfl,HB7.out⟩
  ·obtain ⟨hx,hr⟩:=ld_none HE.out hk
   have hq1:((X.length:Int)==0)=true:=by rw [hx];rfl
   have hq2:(r==0)=true:=by rw [hr];rfl
   have hk':(k != 0)=true:=by simpa using hk
   have HB5:Hid (Below w.heap.size w w5):=HG5.out.bel
   clear HE hx hr
   go_wp2_with fail
   go_ret
   exact ⟨rfl,HB5.out⟩
 ·have h0':(2000:Int)<a0.size:=by omega
  go_wp2_with fail
  refine Calls.mono (HA.out _ HG3.out.bel) ?_
  rintro e w4 ⟨rfl,hb4⟩
  have HB4:Hid (Below w.heap.size w w4):=(HG3.out.more hb4).bel
  clear HG3 hb4
  go_wp2_with fail
  go_ret
  exact ⟨rfl,HB4.out⟩
set_option maxRecDepth 100000 in
theorem lifted (os:Os) (started:os.Started) (H:Type) (enc:TypeId × Value→H) :
  ReturnsInHanded {} Tryz.checked os 6 .any (fun w args=>(Rows.fileOneSpec.pre enc Tryz.prog Tryz.f6 [] false w args∧laidMetH Tryz.prog laid2 w)∧sizedMet enc Tryz.prog Tryz.f6 (OpenSpec.ofChange Rows.fileOneSpec) false w args)
   (Rows.fileOneSpec.post enc Tryz.prog Tryz.f6 false true false false):=by
 refine returnsInHanded_of_change_and (C:=Tryz.checked) (X:=fun w _=>laidMetH Tryz.prog laid2 w) (fun _ _ _ hh h=>h.of_heap hh) own started (by kernel_rfl) Tryz.func6
  (ChangeSpec.witness_shaped (enc:=enc) (C:=Tryz.checked) (os:=os) (X:=fun w _=>laidMetH Tryz.prog laid2 w) false (World.doorLaid Tryz.prog 400 os) #[.string ByteArray.empty,.agg #[.int .i64 0,.int .i64 0,.int .i64 0,.int .i64 0,.int .i64 0]] 8 rfl (World.shaped_of_RefB (by kernel_rfl) (by kernel_rfl)) (by kernel_rfl) (by kernel_rfl) (by kernel_rfl) (door_met os _)) ?_
 intro W base args ds gs before hval0 hW _ _ hL _
 have hval:∀(j:Nat) t v,Tryz.f6.params[j]? = some t→args[j]? = some v→Value.okWide Tryz.prog W .any base t v:=hval0
 have hW':=hW
 obtain ⟨p,q,hA0,hV,rfl,hfz,hnd⟩:=hW
 have hA:DataW.TrodAll enc Tryz.prog W 0 (fun _=>true) true Tryz.f6.params.toList args.toList ds p:=hA0
 rw [Tryz.params6] at hA hval
 obtain ⟨v0,vs0,d0,ds0,p0,q0,hargs,rfl,rfl,h0,r0⟩:=trodAll_cons hA
 obtain ⟨v1,vs1,d1,ds1,p1,q1,rfl,rfl,rfl,h1,r1⟩:=trodAll_cons r0
 obtain ⟨rfl,rfl,rfl⟩:=trodAll_nil r1
 obtain rfl:args=#[v0,v1]:=by cases args;simp_all
 obtain ⟨rfl,rfl⟩:=trodVars_none hV
 obtain ⟨a0,rfl,rfl,rfl,w0⟩:=open_string Tryz.underlying9 (hval 0 9 v0 rfl rfl) h0
 have K1:=h1
 have lt1:∀x ∈ p1,x.block<W.heap.size:=by obtain ⟨m,hm⟩:=K1;exact DataW.trod_lt m _ _ _ hm
 obtain ⟨l1,rfl,w1⟩:=open_lim Tryz.underlying26 (by kernel_rfl) (by kernel_rfl) Tryz.underlying3 Tryz.underlying3 Tryz.underlying3 Tryz.underlying3 Tryz.underlying3 (hval 1 26 v1 rfl rfl) h1
 clear hA0 hval0
 refine (walk a0 l1 W w0 w1 (tabs_of hL)).mono fun e W' ⟨he,bel⟩=>?_
 subst he
 exact ⟨_,rfl,_,_,_,[],_,[],hW',trodAll_mk1 (shut_bool Tryz.underlying4 _),(trodAll_cons_mk (shut_string Tryz.underlying9 w0) (trodAll_cons_mk (Below.trod laidOut (by kernel_rfl) (of_decide_eq_true (by kernel_rfl)) K1 bel lt1) trodAll_mk0)),rfl,bel.frame _,fun h=>by cases h⟩
theorem row:Rows.fileOneRow.holds Tryz.pinned (OpenSpec.ofChange Rows.fileOneSpec):=
 OpenClaim.holds_of_wide 6 Tryz.f6 rfl rfl rfl rfl rfl rfl rfl ⟨rfl,rfl,rfl,rfl,rfl⟩ rfl rfl rfl rfl rfl (by kernel_rfl) Tryz.func6 (by kernel_rfl)
  (of_decide_eq_true (by kernel_rfl)) (by unfold Func.isWrapper;first|(rw [if_pos (by decide +kernel)];kernel_rfl)|(rw [if_neg (by decide +kernel)];exact ⟨rfl,rfl⟩))
  (fun os started H enc _=>lifted os started H enc)
theorem plain (f:FuncId) (fn:Func) (hf:Tryz.pinned.checked.prog.funcNamed Rows.fileOneRow.func=some f) (hfn:Tryz.pinned.checked.prog.funcs[f]? = some fn) :
  true=Tryz.pinned.checked.prog.looks []∧∀(j:Nat) t,fn.params[j]? = some t→Tryz.pinned.checked.prog.wantsStandIn t=false:=by
 obtain rfl:f=6:=Option.some.inj ((show Tryz.prog.funcNamed Rows.fileOneRow.func=some 6 by kernel_rfl).symm.trans hf) |>.symm
 obtain rfl:fn=Tryz.f6:=(Option.some.inj (Tryz.func6.symm.trans hfn)).symm
 refine ⟨by kernel_rfl,fun j t ht=>?_⟩
 have hm:=Array.mem_of_getElem? ht
 have hall:(Tryz.f6.params.toList.all fun u=>!Tryz.prog.wantsStandIn u)=true:=by kernel_rfl
 exact (show Tryz.prog.wantsStandIn t=false by simpa using List.all_eq_true.1 hall t (by simpa using hm))
theorem over:Rows.FileOneCardSaid:=
 Claim7.holds_tied_plain_at .later [] _ _ _ _ row (fun _ h=>by cases h) (by kernel_rfl) (fun _ h=>by cases h) fileOne_row_tie rfl ⟨rfl,rfl⟩ (by kernel_rfl) rfl plain (by kernel_rfl)
end Go.Proofs.YtcgjgjjegnofeaaGreatDoor.fileOne
namespace Go.Proofs.YtcgjgjjegnofeaaGreatDoor
theorem fileOne_holds:Rows.FileOneCardSaid:=fileOne.over
#print axioms fileOne_holds
end Go.Proofs.YtcgjgjjegnofeaaGreatDoor
