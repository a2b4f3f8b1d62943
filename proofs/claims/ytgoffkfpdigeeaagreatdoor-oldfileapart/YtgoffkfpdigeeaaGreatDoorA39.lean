import Derived.Deep.RegionHeld3
import Derived.Test.YtgoffkfpdigeeaaGreatDoorA27
import Derived.Test.YtgoffkfpdigeeaaGreatDoorA32
import Derived.Test.YtgoffkfpdigeeaaGreatDoorA38
import Derived.Test.YtgoffkfpdigeeaaGreatDoorA24
import Derived.Test.YtgoffkfpdigeeaaGreatDoorA31
import Derived.Test.YtgoffkfpdigeeaaGreatDoorA16
import Derived.Laws.OwnMore
import Derived.Deep.AppendLies
import Derived.Lib.QuietBelow
import Derived.BigQuiet
import Derived.Deep.QuietTactic
import Derived.Test.YtgoffkfpdigeeaaGreatDoorA07
import Derived.Test.YtgoffkfpdigeeaaGreatDoorA08
import Derived.Test.YtgoffkfpdigeeaaGreatDoorA10
import Derived.Test.YtgoffkfpdigeeaaGreatDoorA06
import Derived.Test.YtgoffkfpdigeeaaGreatDoorA19
import Derived.Test.YtgoffkfpdigeeaaGreatDoorA02
import Derived.Test.YtgoffkfpdigeeaaGreatDoorA25
import Derived.Test.YtgoffkfpdigeeaaGreatDoorA11
import Derived.Test.YtgoffkfpdigeeaaGreatDoorA17
namespace Go.Proofs.YtgoffkfpdigeeaaGreatDoor
open Go.RowKit Go.Maps Go.WideMaps Go.Sort
theorem uL_rg:∀i,i<5→-9223372036854775808≤(lmL wL).getD i 0∧(lmL wL).getD i 0≤9223372036854775807:=fun i hi=>by
 rcases five_cases hi with rfl|rfl|rfl|rfl|rfl <;> decide
structure Uw (w W:World):Prop where
 t:AtN 9 W w.heap.size #[.string uT]
 n:AtN 51 W (w.heap.size+1) #[.int .i64 5,.slice none 0 0,.slice (some ⟨w.heap.size,0,none⟩) 1 1,.slice none 0 0]
 s:AtN 24 W (w.heap.size+1+1) #[.slice (some ⟨w.heap.size+1,0,none⟩) 1 1,.int .i64 0]
 bel:Below w.heap.size w W
section
variable {w W W':World}
theorem Uw.more (h:Uw w W) (hb:Below W.heap.size W W'):Uw w W':=⟨h.t.belowAll hb,h.n.belowAll hb,h.s.belowAll hb,h.bel.trans (hb.mono h.bel.size)⟩
theorem Uw.sc (h:Uw w W):ScAt W (some ⟨w.heap.size+1,0,none⟩) (uX w.heap.size):=⟨at_ls (cs:=nxV (uX w.heap.size)) h.n,fun j hj=>by
 match j,hj with
 | 0,_=>exact ⟨LsAt.nil _ _,at_ls (cs:=tV [uT]) h.t,LsAt.nil _ _⟩⟩
theorem Uw.all (h:Uw w W):W.cell? ⟨w.heap.size+1+1,0,none⟩=some (.slice (some ⟨w.heap.size+1,0,none⟩) 1 1)∧W.cell? ⟨w.heap.size+1+1,1,none⟩=some (.int .i64 0):=⟨h.s.cell 0,h.s.cell 1⟩
theorem sec_at1' {g:Nat} {R:ByteArray} (h:AtN 55 W g #[.int .i64 1,.string R]):SecAt W g 0 (oS R):=sec_at1 h
end
set_option maxRecDepth 10000 in
set_option maxHeartbeats 2000000 in
theorem awake_any (w:World) (ht:Tabs16 w) :
  Calls Tryz.prog 8 #[] w fun e w'=>e=.returned (.bool true)∧Below w.heap.size w w':=by
 have HA:Hid (∀o2 o3 o4:Obj,o2=.cells #[.string uT] 9→o3=.cells #[.int .i64 5,.slice none 0 0,.slice (some ⟨w.heap.size,0,none⟩) 1 1,.slice none 0 0] 51→o4=.cells #[.slice (some ⟨w.heap.size+1,0,none⟩) 1 1,.int .i64 0] 24→Uw w (((w.alloc o2).alloc o3).alloc o4)):=by
  rintro _ _ _ rfl rfl rfl
  exact ⟨((AtN.new w 9 _).alloc _).alloc _,(mk_at (AtN.new (w.alloc _) 51 _) (show _=w.heap.size+1 by simp)).alloc _,mk_at (AtN.new ((w.alloc _).alloc _) 24 _) (show _=w.heap.size+1+1 by simp),(((Below.refl w.heap.size w).alloc (Nat.le_refl _) _).alloc (by simp) _).alloc (by simp;omega) _⟩
 have HSv:Hid (∀W,Uw w W→Calls Tryz.prog 10 #[.agg #[.slice (some ⟨w.heap.size+1,0,none⟩) 1 1,.int .i64 0],.agg #[.int .i64 16777216,.int .i64 16777216,.int .i64 16777216,.int .i64 16777216,.int .i64 16777216]] W fun e w'=>e=.returned (.tuple #[.string uF,.int .i64 0])∧Below W.heap.size W w'):=fun W hW=>by
  refine Calls.mono (posave_any (uX w.heap.size) (some ⟨w.heap.size+1,0,none⟩) 1 0 wL W hW.sc (uX_small _) (uX_fn _) (ht.on hW.bel) (fun _ _=>by rw [uX_c];decide)) ?_
  rintro e w' ⟨B,k,rfl,hs,hb⟩
  obtain ⟨rfl,rfl⟩:=(uF_save w.heap.size).uniq hs
  exact ⟨rfl,hb⟩
 have HPt:Hid (∀o:Obj,o=.cells #[.int .i64 1,.string uC] 55→∀W,Calls Tryz.prog 23 #[.string ⟨#[68,73,79,82]⟩,.int .i64 1,.slice (some ⟨W.heap.size,0,none⟩) 1 1] (W.alloc o) (fun e w'=>e=.returned (.tuple #[.string uF,.int .i64 0])∧Below W.heap.size W w')):=by
  rintro _ rfl W
  have h:=rput_any mD 1 (some ⟨W.heap.size,0,none⟩) 1 W.heap.size 0 (oS uC) (W.alloc (.cells #[.int .i64 1,.string uC] 55)) (fun _=>rfl) (sec_at1' (AtN.new W 55 _)) (fun s hs=>by
   simp only [oS,List.mem_cons,List.not_mem_nil,or_false] at hs
   subst hs
   show uC.size≤4000000
   decide)
  rw [oS_put (by decide)] at h
  refine Calls.mono h ?_
  rintro e w' ⟨rfl,hb⟩
  exact ⟨rfl,((Below.refl W.heap.size W).alloc (Nat.le_refl _) _).trans (hb.mono (by simp))⟩
 have HLd:Hid (∀W,Below w.heap.size w W→Calls Tryz.prog 13 #[.string uF,.agg #[.int .i64 16777216,.int .i64 16777216,.int .i64 16777216,.int .i64 16777216,.int .i64 16777216]] W fun e w'=>∃(X:List Nx) (a:Option Addr) (c:Nat),e=.returned (.tuple #[.agg #[.slice a X.length c,.int .i64 0],.int .i64 0])∧X.map Nx.nd=(uX w.heap.size).map Nx.nd∧ScAt w' a X∧Small X∧Below W.heap.size W w'):=fun W hW=>by
  refine Calls.mono (poload_any uF wL W (ht.on hW) (by have:=uF_size;omega) uF_q uL_rg) ?_
  rintro e w' ⟨X,a,c,k,rfl,hl,hs,hm,_,hb⟩
  obtain ⟨h1,rfl⟩:=(uF_load w.heap.size).uniq hl
  exact ⟨X,a,c,rfl,h1,hs w' (Fr.refl _ _),hm,hb⟩
 have HNo:Hid (∀W,Below w.heap.size w W→Calls Tryz.prog 13 #[.string ⟨#[68,73,79,82,2]⟩,.agg #[.int .i64 16777216,.int .i64 16777216,.int .i64 16777216,.int .i64 16777216,.int .i64 16777216]] W fun e w'=>∃(X:List Nx) (a:Option Addr) (c:Nat),e=.returned (.tuple #[.agg #[.slice a X.length c,.int .i64 0],.int .i64 7])∧Below W.heap.size W w'):=fun W hW=>by
  refine Calls.mono (poload_any ⟨#[68,73,79,82,2]⟩ wL W (ht.on hW) (by decide) (qno_small_of (by decide)) uL_rg) ?_
  rintro e w' ⟨X,a,c,k,rfl,hl,_,_,_,hb⟩
  obtain ⟨_,rfl⟩:=uF_no.uniq hl
  exact ⟨X,a,c,rfl,hb⟩
 have hqF:(uF.toList==uF.toList)=true:=by simp
 clear ht
 go_enter Tryz.func8,Tryz.ntmps8
 go_wp2_with fail
 have h0:Uw w (((w.alloc (.cells #[.string ⟨#[97]⟩] 9)).alloc (.cells #[.int .i64 5,.slice none 0 0,.slice (some ⟨w.heap.size,0,none⟩) 1 1,.slice none 0 0] 51)).alloc (.cells #[.slice (some ⟨w.heap.size+1,0,none⟩) 1 1,.int .i64 0] 24)):=HA.out _ _ _ rfl rfl rfl
 generalize (((w.alloc (.cells #[.string ⟨#[97]⟩] 9)).alloc (.cells #[.int .i64 5,.slice none 0 0,.slice (some ⟨w.heap.size,0,none⟩) 1 1,.slice none 0 0] 51)).alloc (.cells #[.slice (some ⟨w.heap.size+1,0,none⟩) 1 1,.int .i64 0] 24))=w0 at *
 have H0:Hid (Uw w w0):=h0
 have HD:Hid (Uw w w0.drew):=h0.more (bel_drew w0)
 have K0:=h0.all
 have Kd:=HD.out.all
 clear HA h0
 go_region_held3 (fun W=>W.cell? ⟨w.heap.size+1+1,0,none⟩=some (.slice (some ⟨w.heap.size+1,0,none⟩) 1 1)∧W.cell? ⟨w.heap.size+1+1,1,none⟩=some (.int .i64 0)) (first|exact K2|exact K1|exact Kd|exact K0)
  ((first|(go_at_call 10;refine Calls.mono (HSv.out _ H1.out) ?_;rintro e w2 ⟨rfl,hb2⟩;have H2:Hid (Uw w w2):=H1.out.more hb2;have K2:=H2.out.all)|(go_at_call 22;refine Calls.mono (wide_any _) ?_;rintro e w1 ⟨rfl,hb1⟩;have H1:Hid (Uw w w1):=HD.out.more hb1;have K1:=H1.out.all)))
 clear H0 HD H1 K0 Kd K1 K2 hb1 hb2 HSv
 go_wp2_with fail
 refine Calls.mono (HPt.out _ rfl _) ?_
 rintro e w9 ⟨rfl,hb9⟩
 have H9:Hid (Uw w w9):=H2.out.more hb9
 clear H2 hb9 HPt
 go_wp2_with fail
 refine Calls.mono (wide_any _) ?_
 rintro e w3 ⟨rfl,hb3⟩
 have H3:Hid (Uw w w3):=H9.out.more hb3
 have HLc:Hid _:=HLd.out w3 H3.out.bel
 clear H9 hb3 HLd
 go_wp2_with fail
 refine Calls.mono HLc.out ?_
 rintro e w4 ⟨X,a,c,rfl,hX,hsc,hsm,hb4⟩
 have hb5:Below w4.heap.size w4 (w4.alloc (.cells #[.slice a X.length c,.int .i64 0] 24)):=(Below.refl w4.heap.size w4).alloc (Nat.le_refl _) _
 have HM5:Hid (AtN 24 (w4.alloc (.cells #[.slice a X.length c,.int .i64 0] 24)) w4.heap.size #[.slice a X.length c,.int .i64 0]):=AtN.new w4 24 _
 have H5:Hid (Uw w (w4.alloc (.cells #[.slice a X.length c,.int .i64 0] 24))):=(H3.out.more hb4).more hb5
 have HS5:Hid (ScAt (w4.alloc (.cells #[.slice a X.length c,.int .i64 0] 24)) a X∧Small X∧X.map Nx.nd=(uX w.heap.size).map Nx.nd):=⟨hsc.belowB hb5,hsm,hX⟩
 clear HLc H3 hb4 hb5 hX hsc hsm
 go_wp2_with fail
 generalize (w4.alloc (.cells #[.slice a X.length c,.int .i64 0] 24))=w5 at *
 refine Calls.mono (wide_any _) ?_
 rintro e w6 ⟨rfl,hb6⟩
 have H6:Hid (Uw w w6):=H5.out.more hb6
 have HM6:Hid (AtN 24 w6 w4.heap.size #[.slice a X.length c,.int .i64 0]):=HM5.out.belowAll hb6
 have HS6:Hid (ScAt w6 a X∧Small X∧X.map Nx.nd=(uX w.heap.size).map Nx.nd):=⟨HS5.out.1.belowB hb6,HS5.out.2⟩
 have HNc:Hid _:=HNo.out w6 H6.out.bel
 clear H5 HM5 HS5 hb6 HNo
 go_wp2_with fail
 refine Calls.mono HNc.out ?_
 rintro e w7 ⟨X2,a2,c2,rfl,hb7⟩
 have HB8:Hid (Below w6.heap.size w6 (w7.alloc (.cells #[.slice a2 X2.length c2,.int .i64 0] 24))):=hb7.alloc hb7.size _
 have H8:Hid (Uw w (w7.alloc (.cells #[.slice a2 X2.length c2,.int .i64 0] 24))):=H6.out.more HB8.out
 have HM8:Hid (AtN 24 (w7.alloc (.cells #[.slice a2 X2.length c2,.int .i64 0] 24)) w4.heap.size #[.slice a X.length c,.int .i64 0]):=HM6.out.belowAll HB8.out
 have HS8:Hid (ScAt (w7.alloc (.cells #[.slice a2 X2.length c2,.int .i64 0] 24)) a X∧Small X∧X.map Nx.nd=(uX w.heap.size).map Nx.nd):=⟨HS6.out.1.belowB HB8.out,HS6.out.2⟩
 clear HNc H6 HM6 HS6 hb7 HB8
 have m0:(w7.alloc (.cells #[.slice a2 X2.length c2,.int .i64 0] 24)).cell? ⟨w4.heap.size,0,none⟩=some (.slice a X.length c):=HM8.out.cell 0
 have m1:(w7.alloc (.cells #[.slice a2 X2.length c2,.int .i64 0] 24)).cell? ⟨w4.heap.size,1,none⟩=some (.int .i64 0):=HM8.out.cell 1
 have s0:(w7.alloc (.cells #[.slice a2 X2.length c2,.int .i64 0] 24)).cell? ⟨w.heap.size+1+1,0,none⟩=some (.slice (some ⟨w.heap.size+1,0,none⟩) 1 1):=H8.out.s.cell 0
 have s1:(w7.alloc (.cells #[.slice a2 X2.length c2,.int .i64 0] 24)).cell? ⟨w.heap.size+1+1,1,none⟩=some (.int .i64 0):=H8.out.s.cell 1
 have HSm:Hid _:=ssame_yes X (uX w.heap.size) a (some ⟨w.heap.size+1,0,none⟩) c 1 0 (w7.alloc (.cells #[.slice a2 X2.length c2,.int .i64 0] 24)) HS8.out.1 H8.out.sc HS8.out.2.1 HS8.out.2.2.symm
 go_wp2_with fail
 generalize (w7.alloc (.cells #[.slice a2 X2.length c2,.int .i64 0] 24))=w8 at *
 refine Calls.mono HSm.out ?_
 rintro e w9 ⟨rfl,hb9⟩
 have HB9:Hid (Below w.heap.size w w9):=(H8.out.more hb9).bel
 clear HSm hb9
 go_wp2_with fail
 go_ret
 exact ⟨rfl,HB9.out⟩
end Go.Proofs.YtgoffkfpdigeeaaGreatDoor
namespace Go.Proofs.YtgoffkfpdigeeaaGreatDoor
open Go.ChangeShapes Go.WideShapes Go.ChangeAt Go.RowKit Go.Joins Go.Deep Go.Maps Go.WideMaps Go.Sort
structure Tabs17 (w:World):Prop where
 k:Tabs12 w
 o:Tabs16 w
theorem Tabs17.on {w w':World} (h:Tabs17 w) (hb:Below w.heap.size w w'):Tabs17 w':=⟨h.k.on hb,h.o.on hb⟩
def laid17:List (String × DataW Unit):=Rows.oldfileApartRow.laid
theorem tK17:(Tryz.prog.globals[2]?).map (·.type)=some 224:=by kernel_rfl
theorem tabs17_of {W:World} (h:laidMetH Tryz.prog laid17 W):Tabs17 W:=by
 rw [MakeChecks.laidMetH_plain _ _ _ (by kernel_rfl)] at h
 obtain ⟨ps,⟨g2,t2,cs2,f2,p2,q2,hg2,ht2,hv2,hd2,⟨g0,t0,cs0,f0,p0,q0,hg0,ht0,hv0,hd0,⟨g1,t1,cs1,f1,p1,q1,hg1,ht1,hv1,hd1,_,_⟩,_⟩,_⟩,_,_⟩:=h
 have hs:TabAt W 1 spansC:=tab_of (n:=8) (by kernel_rfl) tS16 (by kernel_rfl) hg1 ht1 hv1 hd1
 exact ⟨⟨tab_of (n:=8) (by kernel_rfl) tK17 (by kernel_rfl) hg2 ht2 hv2 hd2,hs⟩,⟨tab_of (n:=8) (by kernel_rfl) tO16 (by kernel_rfl) hg0 ht0 hv0 hd0,hs⟩⟩
theorem door17 (os:Os) (args:Array Value):laidMetH Tryz.prog laid17 ((World.doorLaid Tryz.prog 400 os).forCall (fun _ _=>0) ⟨#[],args,[]⟩).memory:=
 laidMetH_of_parts3 (fuel:=8) (laidMet_of_run' 8 (by kernel_rfl) (by kernel_rfl)) (by kernel_rfl) (by kernel_rfl)
end Go.Proofs.YtgoffkfpdigeeaaGreatDoor
namespace Go.Proofs.YtgoffkfpdigeeaaGreatDoor
open Go.RowKit
def body6 (L:List ByteArray):List UInt8:=L.flatMap fun s=>put s.size++s.data.toList
def pPut6 (L:List ByteArray):List UInt8:=put L.length++body6 L
theorem body6_append (L M:List ByteArray):body6 (L++M)=body6 L++body6 M:=by simp [body6]
theorem body6_take (L:List ByteArray) (i:Nat) (h:i<L.length):body6 (L.take (i+1))=body6 (L.take i)++(put L[i].size++L[i].data.toList):=by
 rw [List.take_add_one,List.getElem?_eq_getElem h,body6_append]
 simp [body6]
theorem body6_le (L:List ByteArray):(body6 L).length≤sum6 L+10*L.length:=by
 induction L with
 | nil=>simp [body6]
 | cons x r ih=>
  have h1:=(put_length x.size).2
  have h2:(body6 (x :: r)).length=(put x.size).length+x.size+(body6 r).length:=by
   have:x.data.toList.length=x.size:=by rw [Array.length_toList];rfl
   simp only [body6,List.flatMap_cons,List.length_append,this]
  have h3:sum6 (x :: r)=x.size+sum6 r:=by simp [sum6]
  rw [h2,h3,List.length_cons]
  omega
def right5 (s:ByteArray):Bool:=decide ((read s.data.toList).2=s.size)
def gets6 (b:ByteArray) (M:Int):Nat→Nat→List ByteArray→Int × List ByteArray × Nat
 | 0,k,xs=>(0,xs,k)
 | n+1,k,xs=>
  if (pText b k 0 (M-(sum6 xs:Nat))).2.2≠0 then ((pText b k 0 (M-(sum6 xs:Nat))).2.2,[],0)
  else if right5 (pText b k 0 (M-(sum6 xs:Nat))).1=false then (11,[],0)
  else if idx6 (pText b k 0 (M-(sum6 xs:Nat))).1 xs<xs.length then (17,[],0)
  else gets6 b M n (pText b k 0 (M-(sum6 xs:Nat))).2.1 (xs++[(pText b k 0 (M-(sum6 xs:Nat))).1])
def pGet6 (b:ByteArray) (texts bytes:Int):Int × List ByteArray:=
 if (pUint b 0 0 (max texts 0)).2.2≠0 then ((pUint b 0 0 (max texts 0)).2.2,[])
 else if (gets6 b (max bytes 0) (pUint b 0 0 (max texts 0)).1.toNat (pUint b 0 0 (max texts 0)).2.1 []).1≠0 then ((gets6 b (max bytes 0) (pUint b 0 0 (max texts 0)).1.toNat (pUint b 0 0 (max texts 0)).2.1 []).1,[])
 else if (gets6 b (max bytes 0) (pUint b 0 0 (max texts 0)).1.toNat (pUint b 0 0 (max texts 0)).2.1 []).2.2<b.size then (8,[])
 else (0,(gets6 b (max bytes 0) (pUint b 0 0 (max texts 0)).1.toNat (pUint b 0 0 (max texts 0)).2.1 []).2.1)
end Go.Proofs.YtgoffkfpdigeeaaGreatDoor
namespace Go.Proofs.YtgoffkfpdigeeaaGreatDoor
open Go.RowKit
theorem pText_step (b:ByteArray) (k:Nat) (m:Int) (hk:k≤b.size) (h:(pText b k 0 m).2.2=0):k+1+(pText b k 0 m).1.size≤(pText b k 0 m).2.1∧(pText b k 0 m).2.1≤b.size:=by
 unfold pText at h ⊢
 rw [if_neg (by simp)] at h ⊢
 by_cases h1:(num b k).2.2≠0
 ·rw [if_pos h1] at h
  simp at h
  omega
 ·rw [if_neg h1] at h ⊢
  obtain ⟨n1,n2,n3⟩:=num_ok b k (by omega) hk
  by_cases h2:max m 0<(num b k).1∨16777216<(num b k).1
  ·rw [if_pos h2] at h
   simp at h
  ·rw [if_neg h2] at h ⊢
   by_cases h3:(b.size:Int)-(k+(num b k).2.1:Nat)<(num b k).1
   ·rw [if_pos h3] at h
    simp at h
   ·rw [if_neg h3]
    dsimp only
    rw [ByteArray.size_extract]
    omega
theorem TGot.nil (w w':World) (n:Int) (h:Below w.heap.size w w'):TGot w w' (.returned (.tuple #[.slice none 0 0,.int .i64 n])) [] n:=
 ⟨none,0,0,0,rfl,fun h=>by simp at h,fun i hi=>by simp at hi,Nat.le_refl _,fun _=>rfl,h⟩
theorem pUint_val (b:ByteArray) (k:Nat) (m:Int):0≤(pUint b k 0 m).1∧(pUint b k 0 m).1≤16777216∧((pUint b k 0 m).2.2≠0→(pUint b k 0 m).1=0):=by
 unfold pUint
 rw [if_neg (by simp)]
 split
 ·exact ⟨Int.le_refl _,by dsimp only;omega,fun _=>rfl⟩
 ·split
  ·exact ⟨Int.le_refl _,by dsimp only;omega,fun _=>rfl⟩
  ·dsimp only
   exact ⟨by omega,by omega,fun h=>by simp at h⟩
theorem gets6_step (b:ByteArray) (M:Int) (n k:Nat) (xs:List ByteArray) (t:ByteArray × Nat × Int) (ht:t=pText b k 0 (M-(sum6 xs:Nat))) :
  gets6 b M (n+1) k xs=if t.2.2≠0 then (t.2.2,[],0) else if right5 t.1=false then (11,[],0) else if idx6 t.1 xs<xs.length then (17,[],0) else gets6 b M n t.2.1 (xs++[t.1]):=by
 rw [ht];rfl
end Go.Proofs.YtgoffkfpdigeeaaGreatDoor
namespace Go.Proofs.YtgoffkfpdigeeaaGreatDoor
open Go.RowKit Go.Maps Go.WideMaps
theorem put_nat (n:Nat) (w:World) (hn:n≤18446744073709551615):∃X:ByteArray,X.data.toList=put n∧X.size≤10∧
  Calls Tryz.prog 64 #[.int .u64 (n:Int)] w fun e w'=>e=.returned (.string X)∧Below w.heap.size w w':=by
 refine ⟨⟨(put n).toArray⟩,by simp,?_,?_⟩
 ·have h:=(put_length n).2
  show (put n).toArray.size≤10
  simpa using h
 ·have h:=put_any (n:Int) w (by omega) (by omega)
  rw [Int.toNat_natCast] at h
  exact h
set_option maxRecDepth 10000 in
set_option maxHeartbeats 400000 in
theorem tput_any {w:World} {B g gm:Nat} {v:Value} {L:List ByteArray} (h:Tb w B g gm v L) (hs:L.length≤200000) (hm:sum6 L≤1000000000) :
  Calls Tryz.prog 99 #[.pointer (some ⟨g,0,none⟩)] w fun e w'=>e=.returned (.string ⟨(pPut6 L).toArray⟩)∧Below w.heap.size w w':=by
 obtain ⟨ao,cap,rfl⟩:=own_shape6 h.own
 obtain ⟨gk,hga,hL⟩:=own_texts h.own rfl
 have hglt:=h.cells.lt
 have c0:=h.cells.c0
 have HC:=h.cells
 clear h
 have HT:Hid ((∀i (h:i<L.length),body6 (L.take (i+1))=body6 (L.take i)++(put L[i].size++L[i].data.toList))∧body6 (L.take L.length)=body6 L):=⟨fun i h=>body6_take L i h,by rw [List.take_length]⟩
 have HM:Hid (∀i,(body6 (L.take i)).length≤1002000000):=fun i=>by
  have h1:sum6 L=sum6 (L.take i)+sum6 (L.drop i):=by rw [← sum6_append,List.take_append_drop]
  have h2:=body6_le (L.take i)
  have h3:(L.take i).length≤L.length:=by rw [List.length_take];omega
  omega
 have hS:∀i (h:i<L.length),L[i].size≤1000000000:=fun i h=>by
  have h1:sum6 L=sum6 (L.take (i+1))+sum6 (L.drop (i+1)):=by rw [← sum6_append,List.take_append_drop]
  rw [sum6_take L i h] at h1
  omega
 have HB0:=Bu.new w
 have B0:Below w.heap.size w (w.alloc (.cells #[.pointer none,.slice none 0 0] 95)):=(Below.refl _ _).alloc (Nat.le_refl _) _
 have z0:=put_length L.length
 obtain ⟨X0,d0,hz0,P0⟩:=put_nat L.length (w.alloc (.cells #[.pointer none,.slice none 0 0] 95)) (by omega)
 have HP0:Hid _:=P0
 have H0:Hid (X0.data.toList=put L.length):=d0
 clear P0 d0
 go_enter Tryz.func99,Tryz.ntmps99
 go_wp2_with fail
 refine Calls.mono HP0.out ?_
 rintro e w1 ⟨rfl,b1⟩
 have HB1:=HB0.below b1
 have B1:Below w.heap.size w w1:=B0.trans (b1.mono B0.size)
 clear HP0 HB0 B0 b1
 go_wp2_with fail
 refine (wstr_any w.heap.size w.heap.size [] X0 w1 HB1 (by simp;omega) B1.size).mono ?_
 rintro e w2 ⟨rfl,HB2,b2,-⟩
 have B2:=B1.trans b2
 rw [List.nil_append] at HB2
 clear HB1 B1 b2
 have c2:=(HC.below B2 hglt).c0
 go_wp2_with fail
 go_loopw [19] (fun iv wr=>∃(i:Nat) (X:List UInt8),iv=.int .i64 i∧i≤L.length∧X.length≤1003000000∧X≠[]∧Hid (X=X0.data.toList++body6 (L.take i))∧Bu w.heap.size w.heap.size X wr∧Below w.heap.size w wr) (fun iv _=>L.length-(intOf iv).toNat)
 case atStart=>exact ⟨0,X0.data.toList,rfl,by omega,by rw [H0.out];omega,by rw [H0.out];exact fun e=>by rw [e] at z0;simp at z0,by simp [Hid,body6],HB2,B2⟩
 case round=>
  clear HB2 B2 c2 c0
  obtain ⟨i,X,rfl,hi,hX,hne,HX,hBu,hB⟩:=hrel
  by_cases hlt:i<L.length
  ·obtain rfl:=hga (by omega)
   obtain ⟨hbl,c0⟩:=hL i hlt
   have hbr:gk<wr.heap.size:=Nat.lt_of_lt_of_le hbl hB.size
   rw [← (bcell hB).1 gk _ hbl] at c0
   rw [Nat.zero_add] at c0
   have hsi:=hS i hlt
   have hx:=HT.out.1 i hlt
   have hle:=HM.out (i+1)
   have HQ:Hid (X++(put L[i].size++L[i].data.toList)=X0.data.toList++body6 (L.take (i+1))):=by show _=_;rw [hx,HX.out,List.append_assoc]
   clear HX
   generalize L[i]=c at *
   obtain ⟨Y,dY,zY,PY⟩:=put_nat c.size wr (by omega)
   have HP:Hid _:=PY
   rw [← dY] at HQ
   have hlen:(X++(Y.data.toList++c.data.toList)).length≤1003000000:=by
    rw [HQ.out,List.length_append,list_size]
    omega
   have hq1:X.length+Y.size≤140737488355328:=by omega
   have hq2:(X++Y.data.toList).length+c.size≤140737488355328:=by rw [List.length_append,list_size];omega
   have HL:Hid _:=hlen
   have hc':(c.size:Int)≤1000000000:=by omega
   clear PY dY hx hle hlen
   go_wp2_with fail
   refine Calls.mono HP.out ?_
   rintro e w3 ⟨rfl,b3⟩
   have HB3:=hBu.below b3
   have B3:=hB.trans (b3.mono hB.size)
   clear HP b3 hBu
   go_wp2_with fail
   refine (wstr_any w.heap.size w.heap.size X Y w3 HB3 hq1 B3.size).mono ?_
   rintro e w4 ⟨rfl,HB4,b4,-⟩
   have B4:=B3.trans b4
   clear HB3 B3 b4
   go_wp2_with fail
   refine (wstr_any w.heap.size w.heap.size _ c w4 HB4 hq2 B4.size).mono ?_
   rintro e w5 ⟨rfl,HB5,b5,-⟩
   have B5:=B4.trans b5
   clear HB4 B4 b5
   rw [List.append_assoc] at HB5
   go_wp2_with fail
   go_roundw
   case rel=>exact ⟨i+1,_,by go_num,by omega,HL.out,by simp [hne],HQ.out,HB5,B5⟩
   case measure=>simp [intOf];omega
  ·have HQ:Hid (pPut6 L=X):=by
    have h1:=HX.out
    rw [show i=L.length by omega,HT.out.2,H0.out] at h1
    exact h1.symm
   clear HX HT
   go_wp2_with fail
   refine (bstr_any w.heap.size w.heap.size X wr hBu hne).mono ?_
   rintro e w3 ⟨rfl,b3⟩
   go_wp2_with fail
   go_ret
   rw [HQ.out]
   exact ⟨rfl,hB.trans b3⟩
end Go.Proofs.YtgoffkfpdigeeaaGreatDoor
namespace Go.Proofs.YtgoffkfpdigeeaaGreatDoor
open Go.RowKit Go.Maps Go.WideMaps Go.Sort
end Go.Proofs.YtgoffkfpdigeeaaGreatDoor
namespace Go.Proofs.YtgoffkfpdigeeaaGreatDoor
open Go.RowKit
theorem can_same {X Y:List Nx} (h:Y.map Nx.nd=X.map Nx.nd) {r:Int}:IsCan Y r↔IsCan X r:=by
 unfold IsCan
 rw [same_right h,same_len h,same_oX h]
theorem allT_same {X Y:List Nx} (h:Y.map Nx.nd=X.map Nx.nd):allT Y=allT X:=by
 have key:∀Z:List Nx,allT Z=(Z.map Nx.nd).flatMap Nd.texts:=fun Z=>by
  unfold allT
  rw [List.flatMap_map]
 rw [key,key,h]
def GeS (X:List Nx) (r:Int) (L:List ByteArray) (l:Lm) (e:Int):Prop:=
 ∃n y d,CheckIs X r n y∧DepthIs X r d∧((n≠0∧e=n)∨(n=0∧((l.d<d∧e=19)∨(¬l.d<d∧((¬IsCan X r∧e=16)∨(IsCan X r∧((itn (allT X)≠L∧e=18)∨(itn (allT X)=L∧e=0))))))))
theorem GeS.same {X Y:List Nx} (h:Y.map Nx.nd=X.map Nx.nd) {r:Int} {L:List ByteArray} {l:Lm} {e:Int} (hg:GeS Y r L l e):GeS X r L l e:=by
 obtain ⟨n,y,d,h1,h2,h3⟩:=hg
 rw [can_same h,allT_same h] at h3
 exact ⟨n,y,d,same_check h h1,same_depth h h2,h3⟩
theorem GeS.uniq {X:List Nx} {r:Int} {L:List ByteArray} {l:Lm} {e e':Int} (h:GeS X r L l e) (h':GeS X r L l e'):e'=e:=by
 obtain ⟨n,y,d,h1,h2,h3⟩:=h
 obtain ⟨n',y',d',g1,g2,g3⟩:=h'
 have hn:n'=n:=(h1.uniq g1).1
 have hd:d'=d:=h2.only g2
 subst hn hd
 rcases h3 with ⟨a,rfl⟩|⟨a,⟨b,rfl⟩|⟨b,⟨c,rfl⟩|⟨c,⟨f,rfl⟩|⟨f,rfl⟩⟩⟩⟩
 all_goals
  rcases g3 with ⟨a',rfl⟩|⟨a',⟨b',rfl⟩|⟨b',⟨c',rfl⟩|⟨c',⟨f',rfl⟩|⟨f',rfl⟩⟩⟩⟩
 all_goals
  first|rfl|exact absurd a' a|exact absurd a a'|exact absurd b b'|exact absurd b' b|exact absurd c c'|exact absurd c' c|exact absurd f f'|exact absurd f' f
def geK (tx nb:ByteArray) (l:Lm):Int × List Nd × List ByteArray:=
 if okL l=false then (1,[],[]) else
 if (pGet6 tx 16777216 l.x).1≠0 then ((pGet6 tx 16777216 l.x).1,[],[]) else
 if (pUint nb 0 0 l.n).2.2≠0 then ((pUint nb 0 0 l.n).2.2,[],[]) else
 if (pUint nb 0 0 l.n).1=0 then (13,[],[]) else
 if (gNs nb (pGet6 tx 16777216 l.x).2 (pUint nb 0 0 l.n).1.toNat 0 (pUint nb 0 0 l.n).2.1 l.e).2.2≠0 then ((gNs nb (pGet6 tx 16777216 l.x).2 (pUint nb 0 0 l.n).1.toNat 0 (pUint nb 0 0 l.n).2.1 l.e).2.2,[],[]) else
 if (gNs nb (pGet6 tx 16777216 l.x).2 (pUint nb 0 0 l.n).1.toNat 0 (pUint nb 0 0 l.n).2.1 l.e).2.1<nb.size then (8,[],[]) else
 (0,(gNs nb (pGet6 tx 16777216 l.x).2 (pUint nb 0 0 l.n).1.toNat 0 (pUint nb 0 0 l.n).2.1 l.e).1,(pGet6 tx 16777216 l.x).2)
def GeIs (tx nb:ByteArray) (l:Lm) (P:List Nd) (r e:Int):Prop:=
 ((geK tx nb l).1≠0∧e=(geK tx nb l).1∧P=[]∧r=0)∨
  ((geK tx nb l).1=0∧∃k,GeS (bare (geK tx nb l).2.1) (((geK tx nb l).2.1.length:Int)-1) (geK tx nb l).2.2 l k∧((k≠0∧e=k∧P=[]∧r=0)∨(k=0∧e=0∧P=(geK tx nb l).2.1∧r=((geK tx nb l).2.1.length:Int)-1)))
theorem GeIs.uniq {tx nb:ByteArray} {l:Lm} {P P':List Nd} {r r' e e':Int} (h:GeIs tx nb l P r e) (h':GeIs tx nb l P' r' e'):P'=P∧r'=r∧e'=e:=by
 rcases h with ⟨a,rfl,rfl,rfl⟩|⟨a,k,hk,h2⟩
 ·rcases h' with ⟨_,rfl,rfl,rfl⟩|⟨a',_⟩
  ·exact ⟨rfl,rfl,rfl⟩
  ·exact absurd a' a
 ·rcases h' with ⟨a',_⟩|⟨_,k',hk',h2'⟩
  ·exact absurd a a'
  ·have hkk:=hk.uniq hk'
   subst hkk
   rcases h2 with ⟨b,rfl,rfl,rfl⟩|⟨b,rfl,rfl,rfl⟩
   ·rcases h2' with ⟨_,rfl,rfl,rfl⟩|⟨b',_⟩
    ·exact ⟨rfl,rfl,rfl⟩
    ·exact absurd b' b
   ·rcases h2' with ⟨b',_⟩|⟨_,rfl,rfl,rfl⟩
    ·exact absurd b b'
    ·exact ⟨rfl,rfl,rfl⟩
end Go.Proofs.YtgoffkfpdigeeaaGreatDoor
