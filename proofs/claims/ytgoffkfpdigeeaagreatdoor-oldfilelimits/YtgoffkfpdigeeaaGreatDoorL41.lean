import Derived.Deep.RegionHeld3
import Derived.Test.YtgoffkfpdigeeaaGreatDoorL30
import Derived.Test.YtgoffkfpdigeeaaGreatDoorL35
import Derived.Test.YtgoffkfpdigeeaaGreatDoorL40
import Derived.Test.YtgoffkfpdigeeaaGreatDoorL26
import Derived.Test.YtgoffkfpdigeeaaGreatDoorL34
import Derived.Test.YtgoffkfpdigeeaaGreatDoorL28
namespace Go.Proofs.YtgoffkfpdigeeaaGreatDoor
open Go.RowKit Go.Maps Go.WideMaps Go.Sort
theorem uL_rg:∀i,i<5→-9223372036854775808≤(lmL wL).getD i 0∧(lmL wL).getD i 0≤9223372036854775807:=fun i hi=>by
 rcases five_cases hi with rfl|rfl|rfl|rfl|rfl <;> decide
structure Uw (w W:World):Prop where
 t:AtN 9 W w.heap.size #[.string uT]
 n:AtN 51 W (w.heap.size+1) #[.int .i64 5,.slice none 0 0,.slice (some ⟨w.heap.size,0,none⟩) 1 1,.slice none 0 0]
 s:AtN 24 W (w.heap.size+1+1) #[.slice (some ⟨w.heap.size+1,0,none⟩) 1 1,.int .i64 0]
 bel:Below w.heap.size w W
section
variable {w W W':World}
theorem Uw.more (h:Uw w W) (hb:Below W.heap.size W W'):Uw w W':=⟨h.t.belowAll hb,h.n.belowAll hb,h.s.belowAll hb,h.bel.trans (hb.mono h.bel.size)⟩
theorem Uw.sc (h:Uw w W):ScAt W (some ⟨w.heap.size+1,0,none⟩) (uX w.heap.size):=⟨at_ls (cs:=nxV (uX w.heap.size)) h.n,fun j hj=>by
 match j,hj with
 | 0,_=>exact ⟨LsAt.nil _ _,at_ls (cs:=tV [uT]) h.t,LsAt.nil _ _⟩⟩
theorem Uw.all (h:Uw w W):W.cell? ⟨w.heap.size+1+1,0,none⟩=some (.slice (some ⟨w.heap.size+1,0,none⟩) 1 1)∧W.cell? ⟨w.heap.size+1+1,1,none⟩=some (.int .i64 0):=⟨h.s.cell 0,h.s.cell 1⟩
theorem sec_at1' {g:Nat} {R:ByteArray} (h:AtN 55 W g #[.int .i64 1,.string R]):SecAt W g 0 (oS R):=sec_at1 h
end
set_option maxRecDepth 10000 in
set_option maxHeartbeats 2000000 in
theorem awake_any (w:World) (ht:Tabs16 w) :
  Calls Tryz.prog 8 #[] w fun e w'=>e=.returned (.bool true)∧Below w.heap.size w w':=by
 have HA:Hid (∀o2 o3 o4:Obj,o2=.cells #[.string uT] 9→o3=.cells #[.int .i64 5,.slice none 0 0,.slice (some ⟨w.heap.size,0,none⟩) 1 1,.slice none 0 0] 51→o4=.cells #[.slice (some ⟨w.heap.size+1,0,none⟩) 1 1,.int .i64 0] 24→Uw w (((w.alloc o2).alloc o3).alloc o4)):=by
  rintro _ _ _ rfl rfl rfl
  exact ⟨((AtN.new w 9 _).alloc _).alloc _,(mk_at (AtN.new (w.alloc _) 51 _) (show _=w.heap.size+1 by simp)).alloc _,mk_at (AtN.new ((w.alloc _).alloc _) 24 _) (show _=w.heap.size+1+1 by simp),(((Below.refl w.heap.size w).alloc (Nat.le_refl _) _).alloc (by simp) _).alloc (by simp;omega) _⟩
 have HSv:Hid (∀W,Uw w W→Calls Tryz.prog 10 #[.agg #[.slice (some ⟨w.heap.size+1,0,none⟩) 1 1,.int .i64 0],.agg #[.int .i64 16777216,.int .i64 16777216,.int .i64 16777216,.int .i64 16777216,.int .i64 16777216]] W fun e w'=>e=.returned (.tuple #[.string uF,.int .i64 0])∧Below W.heap.size W w'):=fun W hW=>by
  refine Calls.mono (posave_any (uX w.heap.size) (some ⟨w.heap.size+1,0,none⟩) 1 0 wL W hW.sc (uX_small _) (uX_fn _) (ht.on hW.bel) (fun _ _=>by rw [uX_c];decide)) ?_
  rintro e w' ⟨B,k,rfl,hs,hb⟩
  obtain ⟨rfl,rfl⟩:=(uF_save w.heap.size).uniq hs
  exact ⟨rfl,hb⟩
 have HPt:Hid (∀o:Obj,o=.cells #[.int .i64 1,.string uC] 55→∀W,Calls Tryz.prog 23 #[.string ⟨#[68,73,79,82]⟩,.int .i64 1,.slice (some ⟨W.heap.size,0,none⟩) 1 1] (W.alloc o) (fun e w'=>e=.returned (.tuple #[.string uF,.int .i64 0])∧Below W.heap.size W w')):=by
  rintro _ rfl W
  have h:=rput_any mD 1 (some ⟨W.heap.size,0,none⟩) 1 W.heap.size 0 (oS uC) (W.alloc (.cells #[.int .i64 1,.string uC] 55)) (fun _=>rfl) (sec_at1' (AtN.new W 55 _)) (fun s hs=>by
   simp only [oS,List.mem_cons,List.not_mem_nil,or_false] at hs
   subst hs
   show uC.size≤4000000
   decide)
  rw [oS_put (by decide)] at h
  refine Calls.mono h ?_
  rintro e w' ⟨rfl,hb⟩
  exact ⟨rfl,((Below.refl W.heap.size W).alloc (Nat.le_refl _) _).trans (hb.mono (by simp))⟩
 have HLd:Hid (∀W,Below w.heap.size w W→Calls Tryz.prog 13 #[.string uF,.agg #[.int .i64 16777216,.int .i64 16777216,.int .i64 16777216,.int .i64 16777216,.int .i64 16777216]] W fun e w'=>∃(X:List Nx) (a:Option Addr) (c:Nat),e=.returned (.tuple #[.agg #[.slice a X.length c,.int .i64 0],.int .i64 0])∧X.map Nx.nd=(uX w.heap.size).map Nx.nd∧ScAt w' a X∧Small X∧Below W.heap.size W w'):=fun W hW=>by
  refine Calls.mono (poload_any uF wL W (ht.on hW) (by have:=uF_size;omega) uF_q uL_rg) ?_
  rintro e w' ⟨X,a,c,k,rfl,hl,hs,hm,_,hb⟩
  obtain ⟨h1,rfl⟩:=(uF_load w.heap.size).uniq hl
  exact ⟨X,a,c,rfl,h1,hs w' (Fr.refl _ _),hm,hb⟩
 have HNo:Hid (∀W,Below w.heap.size w W→Calls Tryz.prog 13 #[.string ⟨#[68,73,79,82,2]⟩,.agg #[.int .i64 16777216,.int .i64 16777216,.int .i64 16777216,.int .i64 16777216,.int .i64 16777216]] W fun e w'=>∃(X:List Nx) (a:Option Addr) (c:Nat),e=.returned (.tuple #[.agg #[.slice a X.length c,.int .i64 0],.int .i64 7])∧Below W.heap.size W w'):=fun W hW=>by
  refine Calls.mono (poload_any ⟨#[68,73,79,82,2]⟩ wL W (ht.on hW) (by decide) (qno_small_of (by decide)) uL_rg) ?_
  rintro e w' ⟨X,a,c,k,rfl,hl,_,_,_,hb⟩
  obtain ⟨_,rfl⟩:=uF_no.uniq hl
  exact ⟨X,a,c,rfl,hb⟩
 have hqF:(uF.toList==uF.toList)=true:=by simp
 clear ht
 go_enter Tryz.func8,Tryz.ntmps8
 go_wp2_with fail
 have h0:Uw w (((w.alloc (.cells #[.string ⟨#[97]⟩] 9)).alloc (.cells #[.int .i64 5,.slice none 0 0,.slice (some ⟨w.heap.size,0,none⟩) 1 1,.slice none 0 0] 51)).alloc (.cells #[.slice (some ⟨w.heap.size+1,0,none⟩) 1 1,.int .i64 0] 24)):=HA.out _ _ _ rfl rfl rfl
 generalize (((w.alloc (.cells #[.string ⟨#[97]⟩] 9)).alloc (.cells #[.int .i64 5,.slice none 0 0,.slice (some ⟨w.heap.size,0,none⟩) 1 1,.slice none 0 0] 51)).alloc (.cells #[.slice (some ⟨w.heap.size+1,0,none⟩) 1 1,.int .i64 0] 24))=w0 at *
 have H0:Hid (Uw w w0):=h0
 have HD:Hid (Uw w w0.drew):=h0.more (bel_drew w0)
 have K0:=h0.all
 have Kd:=HD.out.all
 clear HA h0
 go_region_held3 (fun W=>W.cell? ⟨w.heap.size+1+1,0,none⟩=some (.slice (some ⟨w.heap.size+1,0,none⟩) 1 1)∧W.cell? ⟨w.heap.size+1+1,1,none⟩=some (.int .i64 0)) (first|exact K2|exact K1|exact Kd|exact K0)
  ((first|(go_at_call 10;refine Calls.mono (HSv.out _ H1.out) ?_;rintro e w2 ⟨rfl,hb2⟩;have H2:Hid (Uw w w2):=H1.out.more hb2;have K2:=H2.out.all)|(go_at_call 22;refine Calls.mono (wide_any _) ?_;rintro e w1 ⟨rfl,hb1⟩;have H1:Hid (Uw w w1):=HD.out.more hb1;have K1:=H1.out.all)))
 clear H0 HD H1 K0 Kd K1 K2 hb1 hb2 HSv
 go_wp2_with fail
 refine Calls.mono (HPt.out _ rfl _) ?_
 rintro e w9 ⟨rfl,hb9⟩
 have H9:Hid (Uw w w9):=H2.out.more hb9
 clear H2 hb9 HPt
 go_wp2_with fail
 refine Calls.mono (wide_any _) ?_
 rintro e w3 ⟨rfl,hb3⟩
 have H3:Hid (Uw w w3):=H9.out.more hb3
 have HLc:Hid _:=HLd.out w3 H3.out.bel
 clear H9 hb3 HLd
 go_wp2_with fail
 refine Calls.mono HLc.out ?_
 rintro e w4 ⟨X,a,c,rfl,hX,hsc,hsm,hb4⟩
 have hb5:Below w4.heap.size w4 (w4.alloc (.cells #[.slice a X.length c,.int .i64 0] 24)):=(Below.refl w4.heap.size w4).alloc (Nat.le_refl _) _
 have HM5:Hid (AtN 24 (w4.alloc (.cells #[.slice a X.length c,.int .i64 0] 24)) w4.heap.size #[.slice a X.length c,.int .i64 0]):=AtN.new w4 24 _
 have H5:Hid (Uw w (w4.alloc (.cells #[.slice a X.length c,.int .i64 0] 24))):=(H3.out.more hb4).more hb5
 have HS5:Hid (ScAt (w4.alloc (.cells #[.slice a X.length c,.int .i64 0] 24)) a X∧Small X∧X.map Nx.nd=(uX w.heap.size).map Nx.nd):=⟨hsc.belowB hb5,hsm,hX⟩
 clear HLc H3 hb4 hb5 hX hsc hsm
 go_wp2_with fail
 generalize (w4.alloc (.cells #[.slice a X.length c,.int .i64 0] 24))=w5 at *
 refine Calls.mono (wide_any _) ?_
 rintro e w6 ⟨rfl,hb6⟩
 have H6:Hid (Uw w w6):=H5.out.more hb6
 have HM6:Hid (AtN 24 w6 w4.heap.size #[.slice a X.length c,.int .i64 0]):=HM5.out.belowAll hb6
 have HS6:Hid (ScAt w6 a X∧Small X∧X.map Nx.nd=(uX w.heap.size).map Nx.nd):=⟨HS5.out.1.belowB hb6,HS5.out.2⟩
 have HNc:Hid _:=HNo.out w6 H6.out.bel
 clear H5 HM5 HS5 hb6 HNo
 go_wp2_with fail
 refine Calls.mono HNc.out ?_
 rintro e w7 ⟨X2,a2,c2,rfl,hb7⟩
 have HB8:Hid (Below w6.heap.size w6 (w7.alloc (.cells #[.slice a2 X2.length c2,.int .i64 0] 24))):=hb7.alloc hb7.size _
 have H8:Hid (Uw w (w7.alloc (.cells #[.slice a2 X2.length c2,.int .i64 0] 24))):=H6.out.more HB8.out
 have HM8:Hid (AtN 24 (w7.alloc (.cells #[.slice a2 X2.length c2,.int .i64 0] 24)) w4.heap.size #[.slice a X.length c,.int .i64 0]):=HM6.out.belowAll HB8.out
 have HS8:Hid (ScAt (w7.alloc (.cells #[.slice a2 X2.length c2,.int .i64 0] 24)) a X∧Small X∧X.map Nx.nd=(uX w.heap.size).map Nx.nd):=⟨HS6.out.1.belowB HB8.out,HS6.out.2⟩
 clear HNc H6 HM6 HS6 hb7 HB8
 have m0:(w7.alloc (.cells #[.slice a2 X2.length c2,.int .i64 0] 24)).cell? ⟨w4.heap.size,0,none⟩=some (.slice a X.length c):=HM8.out.cell 0
 have m1:(w7.alloc (.cells #[.slice a2 X2.length c2,.int .i64 0] 24)).cell? ⟨w4.heap.size,1,none⟩=some (.int .i64 0):=HM8.out.cell 1
 have s0:(w7.alloc (.cells #[.slice a2 X2.length c2,.int .i64 0] 24)).cell? ⟨w.heap.size+1+1,0,none⟩=some (.slice (some ⟨w.heap.size+1,0,none⟩) 1 1):=H8.out.s.cell 0
 have s1:(w7.alloc (.cells #[.slice a2 X2.length c2,.int .i64 0] 24)).cell? ⟨w.heap.size+1+1,1,none⟩=some (.int .i64 0):=H8.out.s.cell 1
 have HSm:Hid _:=ssame_yes X (uX w.heap.size) a (some ⟨w.heap.size+1,0,none⟩) c 1 0 (w7.alloc (.cells #[.slice a2 X2.length c2,.int .i64 0] 24)) HS8.out.1 H8.out.sc HS8.out.2.1 HS8.out.2.2.symm
 go_wp2_with fail
 generalize (w7.alloc (.cells #[.slice a2 X2.length c2,.int .i64 0] 24))=w8 at *
 refine Calls.mono HSm.out ?_
 rintro e w9 ⟨rfl,hb9⟩
 have HB9:Hid (Below w.heap.size w w9):=(H8.out.more hb9).bel
 clear HSm hb9
 go_wp2_with fail
 go_ret
 exact ⟨rfl,HB9.out⟩
end Go.Proofs.YtgoffkfpdigeeaaGreatDoor
namespace Go.Proofs.YtgoffkfpdigeeaaGreatDoor
open Go.RowKit Go.Maps Go.WideMaps Go.Sort
theorem eN_le:∀P:List Nd,(∀N ∈ P,N.kids.length≤3000)→eN P≤3000*P.length
 | [],_=>Nat.le_refl _
 | N :: P,h=>by
  have h1:=h N (by simp)
  have h2:=eN_le P fun M q=>h M (by simp [q])
  have e:eN (N :: P)=N.kids.length+eN P:=by simp [eN]
  rw [e,List.length_cons]
  omega
theorem allT_two:∀X:List Nx,(∀x ∈ X,x.nd.texts.length≤2)→(allT X).length≤2*X.length
 | [],_=>Nat.le_refl _
 | x :: X,h=>by
  have h1:=h x (by simp)
  have h2:=allT_two X fun y q=>h y (by simp [q])
  have e:allT (x :: X)=x.nd.texts++allT X:=by simp [allT]
  rw [e,List.length_append,List.length_cons]
  omega
section
variable {X:List Nx} {r:Int} {l:Lm} {d:Nat}
theorem me_fewO (hS:Small X) (hf:X.length≤60) (hF:FnX X) (hW:tyEo X=0) (hR:RightIs X r) (hd:DepthIs X r d):edg X≤180000∧d≤60∧txb X≤16777216:=by
 have hN:∀x ∈ X,SmN x.nd:=fun x hx=>by
  obtain ⟨i,hi,rfl⟩:=List.getElem_of_mem hx
  have e:X[i]=X.getD i noNx:=by rw [List.getD_eq_getElem?_getD,List.getElem?_eq_getElem hi];rfl
  rw [e]
  exact smn_of hS hF hW hR i hi
 have h1:=eN_le (X.map Nx.nd) fun N q=>by
  obtain ⟨x,hx,rfl⟩:=List.mem_map.1 q
  exact (hN x hx).k
 rw [eN_edg,List.length_map] at h1
 have h2:=allT_two X fun x hx=>(hN x hx).t
 have h3:=itn_len (allT X)
 have h4:=sum6_le (itn (allT X)) 3000 fun s hs=>by
  obtain ⟨i,hi,h⟩:=(allT_mem X s).1 ((itn_mem _ s).1 hs)
  exact (big_no (hS.2 i hi)).2.2.2 s h
 refine ⟨by omega,?_,by show sum6 (itn (allT X))≤_;omega⟩
 obtain ⟨h,_,h2,h3⟩:=hd.2 hR
 have hr:=isPb_iff.1 hR.1
 have:=(h3 r.toNat (by omega)).2
 omega
def mB (X:List Nx) (d:Nat) (b:Int):Lm:=⟨b,X.length,(edg X:Nat),(d:Nat),(txb X:Nat)⟩
theorem mB_in {b:Int} (hb:0≤b):inL (meL X d) (mB X d b)=true:=
 decide_eq_true ⟨by show (0:Int)≤b;exact hb,Int.le_refl _,Int.le_refl _,Int.le_refl _,Int.le_refl _⟩
theorem mB_ok {b:Int} (h1:X.length≤60) (h2:edg X≤180000∧d≤60∧txb X≤16777216) (hb:0≤b∧b≤16777216):okL (mB X d b)=true:=decide_eq_true ⟨hb,⟨by show (0:Int)≤X.length;omega,by show (X.length:Int)≤16777216;omega⟩,⟨by show (0:Int)≤(edg X:Nat);omega,by show ((edg X:Nat):Int)≤16777216;omega⟩,⟨by show (0:Int)≤(d:Nat);omega,by show ((d:Nat):Int)≤16777216;omega⟩,⟨by show (0:Int)≤(txb X:Nat);omega,by show ((txb X:Nat):Int)≤16777216;omega⟩⟩
theorem mB_rg (h:okL l=true):∀i,i<5→-9223372036854775808≤(lmL l).getD i 0∧(lmL l).getD i 0≤9223372036854775807:=fun i hi=>by
 obtain ⟨h1,h2,h3,h4,h5⟩:=okL_in h
 rcases five_cases hi with rfl|rfl|rfl|rfl|rfl
 ·show -9223372036854775808≤l.b∧l.b≤9223372036854775807;omega
 ·show -9223372036854775808≤l.n∧l.n≤9223372036854775807;omega
 ·show -9223372036854775808≤l.e∧l.e≤9223372036854775807;omega
 ·show -9223372036854775808≤l.d∧l.d≤9223372036854775807;omega
 ·show -9223372036854775808≤l.x∧l.x≤9223372036854775807;omega
theorem mB_less {b n e f x:Int} (h:n<X.length∨e<edg X∨f<d∨x<txb X):inL (meL X d) ⟨b,n,e,f,x⟩=false:=by
 refine decide_eq_false fun q=>?_
 obtain ⟨q0,q1,q2,q3,q4⟩:=q
 simp only [meL] at q0 q1 q2 q3 q4
 omega
end
def WhOutO (X:List Nx) (r:Int) (w w':World) (e:Ending):Prop:=∃b,e=.returned (.bool b)∧(b=true↔WhoO X r)∧Below w.heap.size w w'
set_option maxRecDepth 10000 in
set_option maxHeartbeats 1000000 in
theorem rwhole1_any (X:List Nx) (a:Option Addr) (c:Nat) (r:Int) (w:World) (h:ScAt w a X) (hX:Small X) (hF:FnX X) :
  Calls Tryz.prog 16 #[.agg #[.slice a X.length c,.int .i64 r],.int .i64 1] w fun e w'=>WhOutO X r w w' e:=by
 have HA0:Hid (AtN 24 (w.alloc (.cells #[.slice a X.length c,.int .i64 r] 24)) w.heap.size #[.slice a X.length c,.int .i64 r]):=AtN.new w 24 _
 have HB0:Hid (Below w.heap.size w (w.alloc (.cells #[.slice a X.length c,.int .i64 r] 24))):=(Below.refl _ _).alloc (Nat.le_refl _) _
 have HTy:Hid (∀W,Below w.heap.size w W→Calls Tryz.prog 42 #[.agg #[.slice a X.length c,.int .i64 r],.int .i64 1] W fun e w'=>e=.returned (.tuple #[.int .i64 (tyEo X),.int .i64 (tyZo X)])∧Below W.heap.size W w'):=fun W hW=>rtyped1_any X a c r W (h.belowB hW) hX hF
 have HRt:Hid (∀W,Below w.heap.size w W→Calls Tryz.prog 43 #[.agg #[.slice a X.length c,.int .i64 r]] W fun e w'=>RightOut X r W w' e):=fun W hW=>right_any X a c r W (h.belowB hW) hX
 have HV:Hid (WhoO X r↔(tyEo X=0∧RightIs X r)):=Iff.rfl
 obtain ⟨te,hte⟩:∃te,tyEo X=te:=⟨_,rfl⟩
 rw [hte] at HTy HV
 generalize tyZo X=tz at *
 clear h hX hF hte
 go_enter Tryz.func16,Tryz.ntmps16
 go_wp2_with fail
 refine Calls.mono (HTy.out _ HB0.out) ?_
 rintro e w1 ⟨rfl,hb1⟩
 have HA1:Hid (AtN 24 w1 w.heap.size #[.slice a X.length c,.int .i64 r]):=AtN.belowAll HA0.out hb1
 have HB1:Hid (Below w.heap.size w w1):=HB0.out.trans (hb1.mono HB0.out.size)
 clear HA0 HB0 HTy hb1
 by_cases ht:te=0
 ·have HV1:Hid (WhoO X r↔RightIs X r):=⟨fun q=>(HV.out.1 q).2,fun q=>HV.out.2 ⟨ht,q⟩⟩
  clear HV
  subst ht
  have x0:w1.cell? ⟨w.heap.size,0,none⟩=some (.slice a X.length c):=HA1.out.cell 0
  have x1:w1.cell? ⟨w.heap.size,1,none⟩=some (.int .i64 r):=HA1.out.cell 1
  go_wp2_with fail
  refine Calls.mono (HRt.out _ HB1.out) ?_
  rintro e w2 ⟨b,rfl,hb,hb2⟩
  have HB2:Hid (Below w.heap.size w w2):=HB1.out.trans (hb2.mono HB1.out.size)
  have HBb:Hid (b=true↔RightIs X r):=hb
  clear HA1 HB1 HRt hb2 hb x0 x1
  go_wp2_with fail
  go_ret
  exact ⟨_,rfl,HBb.out.trans HV1.out.symm,HB2.out⟩
 ·have ht':(te==0)=false:=by simpa using ht
  have HV1:Hid (¬WhoO X r):=fun q=>absurd (HV.out.1 q).1 ht
  clear HV
  go_wp2_with fail
  go_ret
  exact ⟨false,rfl,⟨(fun q=>by cases q),fun q=>absurd q HV1.out⟩,HB1.out⟩
end Go.Proofs.YtgoffkfpdigeeaaGreatDoor
namespace Go.Proofs.YtgoffkfpdigeeaaGreatDoor
open Go.RowKit Go.Maps Go.WideMaps Go.Sort
section
variable {X:List Nx} {r:Int} {l:Lm} {d:Nat} {B:ByteArray} {e:Int}
theorem SoIs.bad (h:SoIs X r l B e) (he:e≠0):B=⟨#[]⟩:=by
 obtain ⟨d,n,z,h1,h2,h3⟩:=h
 rcases h3 with ⟨_,_,q⟩|⟨_,⟨_,_,q⟩|⟨_,⟨_,_,q⟩|⟨_,q,_⟩⟩⟩
 ·exact q
 ·exact q
 ·exact q
 ·exact absurd q he
theorem SoIs.good (h:SoIs X r l B 0):okL l=true∧tyEo X=0∧FowIs X r∧(∃d,DepthIs X r d∧inL (meL X d) l=true)∧¬l.b<((oF (X.map Nx.nd)).size:Int)∧B=oF (X.map Nx.nd):=by
 obtain ⟨d,n,z,h1,h2,h3⟩:=h
 rcases h3 with ⟨q1,q2,_⟩|⟨rfl,⟨_,q,_⟩|⟨q1,⟨_,q,_⟩|⟨q2,_,q3⟩⟩⟩
 ·exact absurd q2.symm q1
 ·cases q
 ·cases q
 ·obtain ⟨p1,p2,p3⟩:=h2.zero.1 rfl
  exact ⟨p1,p2.1,q1,⟨d,h1,p3⟩,q2,q3⟩
end
theorem poback_any (X:List Nx) (l:Lm) (w:World) (d:Nat) (hT:Tabs16 w) (hS:Small X) (hn:X.length≤60) (hF:FnX X) (hW:tyEo X=0) (hf:FowIs X 0) (hd:DepthIs X 0 d) (ho:okL l=true) (hi:inL (meL X d) l=true) (hb:¬l.b<((oF (X.map Nx.nd)).size:Int)) (hl:∀i,i<5→-9223372036854775808≤(lmL l).getD i 0∧(lmL l).getD i 0≤9223372036854775807) :
  Calls Tryz.prog 13 #[.string (oF (X.map Nx.nd)),.agg #[.int .i64 l.b,.int .i64 l.n,.int .i64 l.e,.int .i64 l.d,.int .i64 l.x]] w fun e w'=>∃(Y:List Nx) (a:Option Addr) (c:Nat),e=.returned (.tuple #[.agg #[.slice a Y.length c,.int .i64 0],.int .i64 0])∧Y.map Nx.nd=X.map Nx.nd∧ScAt w' a Y∧Small Y∧Below w.heap.size w w':=by
 have hz:=oF_sizes hS hn hF hW hf.1
 have hz2:=oC_le hS hn hF hW hf.1
 refine Calls.mono (poload_any (oF (X.map Nx.nd)) l w hT (by omega) (qno_put_of hS hn hF hW hf ho hi ho) hl) ?_
 rintro e w' ⟨Y,a,c,k,rfl,h1,h2,h3,_,h4⟩
 obtain ⟨hY,rfl⟩:=(back_ofile hS hF hW hf hd ho hi (by omega) hb).uniq h1
 exact ⟨Y,a,c,rfl,hY,h2 w' (Fr.refl _ _),h3,h4⟩
theorem poless_any (X:List Nx) (l l0:Lm) (w:World) (d:Nat) (hT:Tabs16 w) (hS:Small X) (hn:X.length≤60) (hF:FnX X) (hW:tyEo X=0) (hf:FowIs X 0) (hd:DepthIs X 0 d) (h0:okL l0=true) (hi0:inL (meL X d) l0=true) (ho:okL l=true) (hno:l.b<((oF (X.map Nx.nd)).size:Int)∨inL (meL X d) l=false) (hl:∀i,i<5→-9223372036854775808≤(lmL l).getD i 0∧(lmL l).getD i 0≤9223372036854775807) :
  Calls Tryz.prog 13 #[.string (oF (X.map Nx.nd)),.agg #[.int .i64 l.b,.int .i64 l.n,.int .i64 l.e,.int .i64 l.d,.int .i64 l.x]] w fun e w'=>∃(a:Option Addr) (c:Nat),e=.returned (.tuple #[.agg #[.slice a 0 c,.int .i64 0],.int .i64 19])∧Below w.heap.size w w':=by
 have hz:=oF_sizes hS hn hF hW hf.1
 have hz2:=oC_le hS hn hF hW hf.1
 refine Calls.mono (poload_any (oF (X.map Nx.nd)) l w hT (by omega) (qno_put_of hS hn hF hW hf h0 hi0 ho) hl) ?_
 rintro e w' ⟨Y,a,c,k,rfl,h1,h2,h3,_,h4⟩
 obtain ⟨hY,rfl⟩:=(less_ofile hS hF hW hf hd h0 hi0 ho (by omega) hno).uniq h1
 have hl:Y.length=0:=by simpa using congrArg List.length hY
 rw [hl]
 exact ⟨a,c,rfl,h4⟩
end Go.Proofs.YtgoffkfpdigeeaaGreatDoor
