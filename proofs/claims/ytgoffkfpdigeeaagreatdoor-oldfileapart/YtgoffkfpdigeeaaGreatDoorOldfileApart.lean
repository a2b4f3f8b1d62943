/- For all bytes and all limits: no file is of both versions; what the one version's Load reads the other's tells to be of another version (bytes longer than the law plays with are let go by the law itself); the arguments read afterwards as before. The package schema's tables hold what the program's text lays into them when the call begins (the card ties them). -/
import Derived.Test.YtgoffkfpdigeeaaGreatDoorRows
import Derived.Test.YtgoffkfpdigeeaaGreatDoorCards
import Derived.Test.YtgoffkfpdigeeaaGreatDoorTie
import Derived.WalkKit
import Derived.ProofKit
import Derived.OpenShut
import Derived.ShutString
import Derived.Below
import Derived.Test.YtgoffkfpdigeeaaGreatDoorA39
import Derived.Test.YtgoffkfpdigeeaaGreatDoorA45
import Derived.ChangeOld
import Derived.LaidMore
import Derived.SevenTiedAt
namespace Go.Proofs.YtgoffkfpdigeeaaGreatDoor.oldfileApart
open Go.ChangeShapes Go.WideShapes Go.ChangeAt Go.RowKit
open Go.ChangeMaps (open_string shut_string)
set_option linter.unusedVariables false
theorem own:ownKnob Tryz.prog.godebug=none:=by kernel_rfl
theorem laidOut:laidOutB Tryz.prog=true:=by kernel_rfl
theorem few_qA {b A C:ByteArray} {l:Lm} (hb:b.size≤3000) (h:ldK b l=(0,A,C)):A.size≤1000000∧C.size≤4000000∧∀L,pGet6 A 16777216 l.x=(0,L)→Qn C L l:=by
 obtain ⟨_,h1,h2⟩:=file_of (b:=b) (l:=l) (by rw [h])
 rw [h] at h1 h2
 dsimp only at h1 h2
 exact ⟨by omega,by omega,fun L hL=>qn_small hL (by omega) (by omega)⟩
theorem apart_1 {b:ByteArray} {l:Lm} {P Q:List Nd} {r k:Int} (h:LoIs b l P 0) (h':LdIs b l Q r k):k=7:=by
 have h0:(opK b l).1=0:=by
  rcases h with ⟨a,q,_⟩|⟨a,_⟩
  ·exact absurd q.symm a
  ·exact a
 obtain ⟨h1,h2,h3⟩:=opK_inv h0
 exact ((LdIs.bad (ldK_4 b l h1 h2 (by rw [h3]) (by rw [h3];dsimp only;decide)) (by decide)).uniq h').2.2
theorem apart_2 {b:ByteArray} {l:Lm} {P Q:List Nd} {r k:Int} (h:LdIs b l Q r 0) (h':LoIs b l P k):k=7:=by
 have h0:(ldK b l).1=0:=by
  rcases h with ⟨a,q,_⟩|⟨a,_⟩
  ·exact absurd q.symm a
  ·exact a
 obtain ⟨h1,h2,h3⟩:=ldK_inv h0
 exact ((LoIs.bad (opK_4 b l h1 h2 (by rw [h3]) (by rw [h3];dsimp only;decide)) (by decide)).uniq h').2
set_option maxRecDepth 10000 in
set_option maxHeartbeats 4000000 in
theorem walk (a0:ByteArray) (l1:Lm) (w:World) (w0:a0.size≤maxLen) (w1:LmR l1) (hT:Tabs17 w) :
  Calls Tryz.prog 7 #[.string a0,.agg #[.int .i64 l1.b,.int .i64 l1.n,.int .i64 l1.e,.int .i64 l1.d,.int .i64 l1.x]] w fun e w'=>e=.returned (.bool true)∧Below w.heap.size w w':=by
 have HA:Hid (∀W,Below w.heap.size w W→Calls Tryz.prog 8 #[] W fun e w'=>e=.returned (.bool true)∧Below W.heap.size W w'):=fun W hb=>awake_any W (hT.on hb).o
 have HT:Hid (Tabs17 w):=hT
 have HRg:Hid _:=lm_all w1
 have HG0:=Lg.start w l1
 have HG0:Hid (Lg w _ l1):=HG0
 unfold maxLen at w0
 clear hT w1
 go_enter Tryz.func7,Tryz.ntmps7
 go_wp2_with fail
 refine Calls.mono (HA.out _ HG0.out.bel) ?_
 rintro e w3 ⟨rfl,hb3⟩
 have HG3:Hid (Lg w w3 l1):=HG0.out.more hb3
 clear HG0 hb3
 by_cases h0:a0.size≤2000
 ·have h0':¬(2000:Int)<a0.size:=by omega
  have HP:Hid (Calls Tryz.prog 13 #[.string a0,.agg #[.int .i64 l1.b,.int .i64 l1.n,.int .i64 l1.e,.int .i64 l1.d,.int .i64 l1.x]] w3 fun e w'=>LoOut a0 l1 w3 w' e):=poload_any a0 l1 w3 (HT.out.on HG3.out.bel).o (by omega) (qno_small_of (by omega)) HRg.out
  have HR:Hid (∀W,Below w.heap.size w W→Calls Tryz.prog 21 #[.string a0,.agg #[.int .i64 l1.b,.int .i64 l1.n,.int .i64 l1.e,.int .i64 l1.d,.int .i64 l1.x]] W fun e w'=>LdOut a0 l1 W w' e):=fun W hW=>pfload_any a0 l1 W (HT.out.on hW).k (by omega) (fun A C q=>few_qA (by omega) q) HRg.out
  obtain ⟨y0,y1,y2,y3,y4⟩:=HG3.out.all
  clear HA HRg h0 HT
  go_wp2_with fail
  refine Calls.mono HP.out ?_
  rintro e w4 ⟨X,a,c,k,rfl,hg4,-,-,-,hb4⟩
  have HE:Hid (LoIs a0 l1 (X.map Nx.nd) k):=hg4
  have HG5:Hid (Lg w (w4.alloc (.cells #[.slice a X.length c,.int .i64 0] 24)) l1):=(HG3.out.more hb4).more ((Below.refl w4.heap.size w4).alloc (Nat.le_refl _) _)
  clear HP HG3 hg4 hb4 y0 y1 y2 y3 y4
  obtain ⟨y0,y1,y2,y3,y4⟩:=HG5.out.all
  go_wp2_with fail
  generalize (w4.alloc (.cells #[.slice a X.length c,.int .i64 0] 24))=w5 at *
  refine Calls.mono (HR.out _ HG5.out.bel) ?_
  rintro e w6 ⟨Y,b,d,s,q,rfl,hg6,-,-,-,hb6⟩
  have HB7:Hid (Below w.heap.size w (w6.alloc (.cells #[.slice b Y.length d,.int .i64 s] 24))):=((HG5.out.more hb6).more ((Below.refl w6.heap.size w6).alloc (Nat.le_refl _) _)).bel
  by_cases hk:k=0
  ·subst hk
   obtain rfl:=apart_1 HE.out hg6
   clear HE hg6 HR HG5 hb6 y0 y1 y2 y3 y4
   go_wp2_with fail
   go_ret
   exact ⟨rfl,HB7.out⟩
  ·have hk1:(k != 0)=true:=by simpa using hk
   by_cases hq:q=0
   ·subst hq
    obtain rfl:=apart_2 hg6 HE.out
    clear HE hg6 HR HG5 hb6 y0 y1 y2 y3 y4 hk hk1
    go_wp2_with fail
    go_ret
    exact ⟨rfl,HB7.out⟩
   ·have hq1:(q != 0)=true:=by simpa using hq
    clear HE hg6 HR HG5 hb6 y0 y1 y2 y3 y4
    go_wp2_with fail
    go_ret
    exact ⟨rfl,HB7.out⟩
 ·have h0':(2000:Int)<a0.size:=by omega
  go_wp2_with fail
  refine Calls.mono (HA.out _ HG3.out.bel) ?_
  rintro e w4 ⟨rfl,hb4⟩
  have HB4:Hid (Below w.heap.size w w4):=(HG3.out.more hb4).bel
  clear HG3 hb4
  go_wp2_with fail
  go_ret
  exact ⟨rfl,HB4.out⟩
set_option maxRecDepth 100000 in
theorem lifted (os:Os) (started:os.Started) (H:Type) (enc:TypeId × Value→H) :
  ReturnsInHanded {} Tryz.checked os 7 .any (fun w args=>(Rows.oldfileApartSpec.pre enc Tryz.prog Tryz.f7 [] false w args∧laidMetH Tryz.prog laid17 w)∧sizedMet enc Tryz.prog Tryz.f7 (OpenSpec.ofChange Rows.oldfileApartSpec) false w args)
   (Rows.oldfileApartSpec.post enc Tryz.prog Tryz.f7 false true false false):=by
 refine returnsInHanded_of_change_and (C:=Tryz.checked) (X:=fun w _=>laidMetH Tryz.prog laid17 w) (fun _ _ _ hh h=>h.of_heap hh) own started (by kernel_rfl) Tryz.func7
  (ChangeSpec.witness_shaped (enc:=enc) (C:=Tryz.checked) (os:=os) (X:=fun w _=>laidMetH Tryz.prog laid17 w) false (World.doorLaid Tryz.prog 400 os) #[.string ByteArray.empty,.agg #[.int .i64 0,.int .i64 0,.int .i64 0,.int .i64 0,.int .i64 0]] 8 rfl (World.shaped_of_RefB (by kernel_rfl) (by kernel_rfl)) (by kernel_rfl) (by kernel_rfl) (by kernel_rfl) (door17 os _)) ?_
 intro W base args ds gs before hval0 hW _ _ hL _
 have hval:∀(j:Nat) t v,Tryz.f7.params[j]? = some t→args[j]? = some v→Value.okWide Tryz.prog W .any base t v:=hval0
 have hW':=hW
 obtain ⟨p,q,hA0,hV,rfl,hfz,hnd⟩:=hW
 have hA:DataW.TrodAll enc Tryz.prog W 0 (fun _=>true) true Tryz.f7.params.toList args.toList ds p:=hA0
 rw [Tryz.params7] at hA hval
 obtain ⟨v0,vs0,d0,ds0,p0,q0,hargs,rfl,rfl,h0,r0⟩:=trodAll_cons hA
 obtain ⟨v1,vs1,d1,ds1,p1,q1,rfl,rfl,rfl,h1,r1⟩:=trodAll_cons r0
 obtain ⟨rfl,rfl,rfl⟩:=trodAll_nil r1
 obtain rfl:args=#[v0,v1]:=by cases args;simp_all
 obtain ⟨rfl,rfl⟩:=trodVars_none hV
 obtain ⟨a0,rfl,rfl,rfl,w0⟩:=open_string Tryz.underlying9 (hval 0 9 v0 rfl rfl) h0
 have K1:=h1
 have lt1:∀x ∈ p1,x.block<W.heap.size:=by obtain ⟨m,hm⟩:=K1;exact DataW.trod_lt m _ _ _ hm
 obtain ⟨l1,rfl,w1⟩:=open_lim Tryz.underlying26 (by kernel_rfl) (by kernel_rfl) Tryz.underlying3 Tryz.underlying3 Tryz.underlying3 Tryz.underlying3 Tryz.underlying3 (hval 1 26 v1 rfl rfl) h1
 clear hA0 hval0
 refine (walk a0 l1 W w0 w1 (tabs17_of hL)).mono fun e W' ⟨he,bel⟩=>?_
 subst he
 exact ⟨_,rfl,_,_,_,[],_,[],hW',trodAll_mk1 (shut_bool Tryz.underlying4 _),(trodAll_cons_mk (shut_string Tryz.underlying9 w0) (trodAll_cons_mk (Below.trod laidOut (by kernel_rfl) (of_decide_eq_true (by kernel_rfl)) K1 bel lt1) trodAll_mk0)),rfl,bel.frame _,fun h=>by cases h⟩
theorem row:Rows.oldfileApartRow.holds Tryz.pinned (OpenSpec.ofChange Rows.oldfileApartSpec):=
 OpenClaim.holds_of_wide 7 Tryz.f7 rfl rfl rfl rfl rfl rfl rfl ⟨rfl,rfl,rfl,rfl,rfl⟩ rfl rfl rfl rfl rfl (by kernel_rfl) Tryz.func7 (by kernel_rfl)
  (of_decide_eq_true (by kernel_rfl)) (by unfold Func.isWrapper;first|(rw [if_pos (by decide +kernel)];kernel_rfl)|(rw [if_neg (by decide +kernel)];exact ⟨rfl,rfl⟩))
  (fun os started H enc _=>lifted os started H enc)
theorem plain (f:FuncId) (fn:Func) (hf:Tryz.pinned.checked.prog.funcNamed Rows.oldfileApartRow.func=some f) (hfn:Tryz.pinned.checked.prog.funcs[f]? = some fn) :
  true=Tryz.pinned.checked.prog.looks []∧∀(j:Nat) t,fn.params[j]? = some t→Tryz.pinned.checked.prog.wantsStandIn t=false:=by
 obtain rfl:f=7:=Option.some.inj ((show Tryz.prog.funcNamed Rows.oldfileApartRow.func=some 7 by kernel_rfl).symm.trans hf) |>.symm
 obtain rfl:fn=Tryz.f7:=(Option.some.inj (Tryz.func7.symm.trans hfn)).symm
 refine ⟨by kernel_rfl,fun j t ht=>?_⟩
 have hm:=Array.mem_of_getElem? ht
 have hall:(Tryz.f7.params.toList.all fun u=>!Tryz.prog.wantsStandIn u)=true:=by kernel_rfl
 exact (show Tryz.prog.wantsStandIn t=false by simpa using List.all_eq_true.1 hall t (by simpa using hm))
theorem over:Rows.OldfileApartCardSaid:=
 Claim7.holds_tied_plain_at .later [] _ _ _ _ row (fun _ h=>by cases h) (by kernel_rfl) (fun _ h=>by cases h) oldfileApart_row_tie rfl ⟨rfl,rfl⟩ (by kernel_rfl) rfl plain (by kernel_rfl)
end Go.Proofs.YtgoffkfpdigeeaaGreatDoor.oldfileApart
namespace Go.Proofs.YtgoffkfpdigeeaaGreatDoor
theorem oldfileApart_holds:Rows.OldfileApartCardSaid:=oldfileApart.over
#print axioms oldfileApart_holds
end Go.Proofs.YtgoffkfpdigeeaaGreatDoor
