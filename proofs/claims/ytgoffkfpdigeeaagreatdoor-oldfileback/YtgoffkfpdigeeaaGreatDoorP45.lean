import Derived.Deep.RegionHeld3
import Derived.Test.YtgoffkfpdigeeaaGreatDoorP33
import Derived.Test.YtgoffkfpdigeeaaGreatDoorP38
import Derived.Test.YtgoffkfpdigeeaaGreatDoorP44
import Derived.Test.YtgoffkfpdigeeaaGreatDoorP28
import Derived.Deep.QuietTactic
import Derived.BigQuiet
import Derived.Laws.StructEq
import Derived.Lib.QuietBelow
import Derived.Deep.RegionLaw
import Derived.Laws.OwnMore
import Derived.Test.YtgoffkfpdigeeaaGreatDoorP43
import Derived.Test.YtgoffkfpdigeeaaGreatDoorP10
namespace Go.Proofs.YtgoffkfpdigeeaaGreatDoor
open Go.RowKit Go.Maps Go.WideMaps Go.Sort
theorem uL_rg:∀i,i<5→-9223372036854775808≤(lmL wL).getD i 0∧(lmL wL).getD i 0≤9223372036854775807:=fun i hi=>by
 rcases five_cases hi with rfl|rfl|rfl|rfl|rfl <;> decide
structure Uw (w W:World):Prop where
 t:AtN 9 W w.heap.size #[.string uT]
 n:AtN 51 W (w.heap.size+1) #[.int .i64 5,.slice none 0 0,.slice (some ⟨w.heap.size,0,none⟩) 1 1,.slice none 0 0]
 s:AtN 24 W (w.heap.size+1+1) #[.slice (some ⟨w.heap.size+1,0,none⟩) 1 1,.int .i64 0]
 bel:Below w.heap.size w W
section
variable {w W W':World}
theorem Uw.more (h:Uw w W) (hb:Below W.heap.size W W'):Uw w W':=⟨h.t.belowAll hb,h.n.belowAll hb,h.s.belowAll hb,h.bel.trans (hb.mono h.bel.size)⟩
theorem Uw.sc (h:Uw w W):ScAt W (some ⟨w.heap.size+1,0,none⟩) (uX w.heap.size):=⟨at_ls (cs:=nxV (uX w.heap.size)) h.n,fun j hj=>by
 match j,hj with
 | 0,_=>exact ⟨LsAt.nil _ _,at_ls (cs:=tV [uT]) h.t,LsAt.nil _ _⟩⟩
theorem Uw.all (h:Uw w W):W.cell? ⟨w.heap.size+1+1,0,none⟩=some (.slice (some ⟨w.heap.size+1,0,none⟩) 1 1)∧W.cell? ⟨w.heap.size+1+1,1,none⟩=some (.int .i64 0):=⟨h.s.cell 0,h.s.cell 1⟩
theorem sec_at1' {g:Nat} {R:ByteArray} (h:AtN 55 W g #[.int .i64 1,.string R]):SecAt W g 0 (oS R):=sec_at1 h
end
set_option maxRecDepth 10000 in
set_option maxHeartbeats 2000000 in
theorem awake_any (w:World) (ht:Tabs16 w) :
  Calls Tryz.prog 8 #[] w fun e w'=>e=.returned (.bool true)∧Below w.heap.size w w':=by
 have HA:Hid (∀o2 o3 o4:Obj,o2=.cells #[.string uT] 9→o3=.cells #[.int .i64 5,.slice none 0 0,.slice (some ⟨w.heap.size,0,none⟩) 1 1,.slice none 0 0] 51→o4=.cells #[.slice (some ⟨w.heap.size+1,0,none⟩) 1 1,.int .i64 0] 24→Uw w (((w.alloc o2).alloc o3).alloc o4)):=by
  rintro _ _ _ rfl rfl rfl
  exact ⟨((AtN.new w 9 _).alloc _).alloc _,(mk_at (AtN.new (w.alloc _) 51 _) (show _=w.heap.size+1 by simp)).alloc _,mk_at (AtN.new ((w.alloc _).alloc _) 24 _) (show _=w.heap.size+1+1 by simp),(((Below.refl w.heap.size w).alloc (Nat.le_refl _) _).alloc (by simp) _).alloc (by simp;omega) _⟩
 have HSv:Hid (∀W,Uw w W→Calls Tryz.prog 10 #[.agg #[.slice (some ⟨w.heap.size+1,0,none⟩) 1 1,.int .i64 0],.agg #[.int .i64 16777216,.int .i64 16777216,.int .i64 16777216,.int .i64 16777216,.int .i64 16777216]] W fun e w'=>e=.returned (.tuple #[.string uF,.int .i64 0])∧Below W.heap.size W w'):=fun W hW=>by
  refine Calls.mono (posave_any (uX w.heap.size) (some ⟨w.heap.size+1,0,none⟩) 1 0 wL W hW.sc (uX_small _) (uX_fn _) (ht.on hW.bel) (fun _ _=>by rw [uX_c];decide)) ?_
  rintro e w' ⟨B,k,rfl,hs,hb⟩
  obtain ⟨rfl,rfl⟩:=(uF_save w.heap.size).uniq hs
  exact ⟨rfl,hb⟩
 have HPt:Hid (∀o:Obj,o=.cells #[.int .i64 1,.string uC] 55→∀W,Calls Tryz.prog 23 #[.string ⟨#[68,73,79,82]⟩,.int .i64 1,.slice (some ⟨W.heap.size,0,none⟩) 1 1] (W.alloc o) (fun e w'=>e=.returned (.tuple #[.string uF,.int .i64 0])∧Below W.heap.size W w')):=by
  rintro _ rfl W
  have h:=rput_any mD 1 (some ⟨W.heap.size,0,none⟩) 1 W.heap.size 0 (oS uC) (W.alloc (.cells #[.int .i64 1,.string uC] 55)) (fun _=>rfl) (sec_at1' (AtN.new W 55 _)) (fun s hs=>by
   simp only [oS,List.mem_cons,List.not_mem_nil,or_false] at hs
   subst hs
   show uC.size≤4000000
   decide)
  rw [oS_put (by decide)] at h
  refine Calls.mono h ?_
  rintro e w' ⟨rfl,hb⟩
  exact ⟨rfl,((Below.refl W.heap.size W).alloc (Nat.le_refl _) _).trans (hb.mono (by simp))⟩
 have HLd:Hid (∀W,Below w.heap.size w W→Calls Tryz.prog 13 #[.string uF,.agg #[.int .i64 16777216,.int .i64 16777216,.int .i64 16777216,.int .i64 16777216,.int .i64 16777216]] W fun e w'=>∃(X:List Nx) (a:Option Addr) (c:Nat),e=.returned (.tuple #[.agg #[.slice a X.length c,.int .i64 0],.int .i64 0])∧X.map Nx.nd=(uX w.heap.size).map Nx.nd∧ScAt w' a X∧Small X∧Below W.heap.size W w'):=fun W hW=>by
  refine Calls.mono (poload_any uF wL W (ht.on hW) (by have:=uF_size;omega) uF_q uL_rg) ?_
  rintro e w' ⟨X,a,c,k,rfl,hl,hs,hm,_,hb⟩
  obtain ⟨h1,rfl⟩:=(uF_load w.heap.size).uniq hl
  exact ⟨X,a,c,rfl,h1,hs w' (Fr.refl _ _),hm,hb⟩
 have HNo:Hid (∀W,Below w.heap.size w W→Calls Tryz.prog 13 #[.string ⟨#[68,73,79,82,2]⟩,.agg #[.int .i64 16777216,.int .i64 16777216,.int .i64 16777216,.int .i64 16777216,.int .i64 16777216]] W fun e w'=>∃(X:List Nx) (a:Option Addr) (c:Nat),e=.returned (.tuple #[.agg #[.slice a X.length c,.int .i64 0],.int .i64 7])∧Below W.heap.size W w'):=fun W hW=>by
  refine Calls.mono (poload_any ⟨#[68,73,79,82,2]⟩ wL W (ht.on hW) (by decide) (qno_small_of (by decide)) uL_rg) ?_
  rintro e w' ⟨X,a,c,k,rfl,hl,_,_,_,hb⟩
  obtain ⟨_,rfl⟩:=uF_no.uniq hl
  exact ⟨X,a,c,rfl,hb⟩
 have hqF:(uF.toList==uF.toList)=true:=by simp
 clear ht
 go_enter Tryz.func8,Tryz.ntmps8
 go_wp2_with fail
 have h0:Uw w (((w.alloc (.cells #[.string ⟨#[97]⟩] 9)).alloc (.cells #[.int .i64 5,.slice none 0 0,.slice (some ⟨w.heap.size,0,none⟩) 1 1,.slice none 0 0] 51)).alloc (.cells #[.slice (some ⟨w.heap.size+1,0,none⟩) 1 1,.int .i64 0] 24)):=HA.out _ _ _ rfl rfl rfl
 generalize (((w.alloc (.cells #[.string ⟨#[97]⟩] 9)).alloc (.cells #[.int .i64 5,.slice none 0 0,.slice (some ⟨w.heap.size,0,none⟩) 1 1,.slice none 0 0] 51)).alloc (.cells #[.slice (some ⟨w.heap.size+1,0,none⟩) 1 1,.int .i64 0] 24))=w0 at *
 have H0:Hid (Uw w w0):=h0
 have HD:Hid (Uw w w0.drew):=h0.more (bel_drew w0)
 have K0:=h0.all
 have Kd:=HD.out.all
 clear HA h0
 go_region_held3 (fun W=>W.cell? ⟨w.heap.size+1+1,0,none⟩=some (.slice (some ⟨w.heap.size+1,0,none⟩) 1 1)∧W.cell? ⟨w.heap.size+1+1,1,none⟩=some (.int .i64 0)) (first|exact K2|exact K1|exact Kd|exact K0)
  ((first|(go_at_call 10;refine Calls.mono (HSv.out _ H1.out) ?_;rintro e w2 ⟨rfl,hb2⟩;have H2:Hid (Uw w w2):=H1.out.more hb2;have K2:=H2.out.all)|(go_at_call 22;refine Calls.mono (wide_any _) ?_;rintro e w1 ⟨rfl,hb1⟩;have H1:Hid (Uw w w1):=HD.out.more hb1;have K1:=H1.out.all)))
 clear H0 HD H1 K0 Kd K1 K2 hb1 hb2 HSv
 go_wp2_with fail
 refine Calls.mono (HPt.out _ rfl _) ?_
 rintro e w9 ⟨rfl,hb9⟩
 have H9:Hid (Uw w w9):=H2.out.more hb9
 clear H2 hb9 HPt
 go_wp2_with fail
 refine Calls.mono (wide_any _) ?_
 rintro e w3 ⟨rfl,hb3⟩
 have H3:Hid (Uw w w3):=H9.out.more hb3
 have HLc:Hid _:=HLd.out w3 H3.out.bel
 clear H9 hb3 HLd
 go_wp2_with fail
 refine Calls.mono HLc.out ?_
 rintro e w4 ⟨X,a,c,rfl,hX,hsc,hsm,hb4⟩
 have hb5:Below w4.heap.size w4 (w4.alloc (.cells #[.slice a X.length c,.int .i64 0] 24)):=(Below.refl w4.heap.size w4).alloc (Nat.le_refl _) _
 have HM5:Hid (AtN 24 (w4.alloc (.cells #[.slice a X.length c,.int .i64 0] 24)) w4.heap.size #[.slice a X.length c,.int .i64 0]):=AtN.new w4 24 _
 have H5:Hid (Uw w (w4.alloc (.cells #[.slice a X.length c,.int .i64 0] 24))):=(H3.out.more hb4).more hb5
 have HS5:Hid (ScAt (w4.alloc (.cells #[.slice a X.length c,.int .i64 0] 24)) a X∧Small X∧X.map Nx.nd=(uX w.heap.size).map Nx.nd):=⟨hsc.belowB hb5,hsm,hX⟩
 clear HLc H3 hb4 hb5 hX hsc hsm
 go_wp2_with fail
 generalize (w4.alloc (.cells #[.slice a X.length c,.int .i64 0] 24))=w5 at *
 refine Calls.mono (wide_any _) ?_
 rintro e w6 ⟨rfl,hb6⟩
 have H6:Hid (Uw w w6):=H5.out.more hb6
 have HM6:Hid (AtN 24 w6 w4.heap.size #[.slice a X.length c,.int .i64 0]):=HM5.out.belowAll hb6
 have HS6:Hid (ScAt w6 a X∧Small X∧X.map Nx.nd=(uX w.heap.size).map Nx.nd):=⟨HS5.out.1.belowB hb6,HS5.out.2⟩
 have HNc:Hid _:=HNo.out w6 H6.out.bel
 clear H5 HM5 HS5 hb6 HNo
 go_wp2_with fail
 refine Calls.mono HNc.out ?_
 rintro e w7 ⟨X2,a2,c2,rfl,hb7⟩
 have HB8:Hid (Below w6.heap.size w6 (w7.alloc (.cells #[.slice a2 X2.length c2,.int .i64 0] 24))):=hb7.alloc hb7.size _
 have H8:Hid (Uw w (w7.alloc (.cells #[.slice a2 X2.length c2,.int .i64 0] 24))):=H6.out.more HB8.out
 have HM8:Hid (AtN 24 (w7.alloc (.cells #[.slice a2 X2.length c2,.int .i64 0] 24)) w4.heap.size #[.slice a X.length c,.int .i64 0]):=HM6.out.belowAll HB8.out
 have HS8:Hid (ScAt (w7.alloc (.cells #[.slice a2 X2.length c2,.int .i64 0] 24)) a X∧Small X∧X.map Nx.nd=(uX w.heap.size).map Nx.nd):=⟨HS6.out.1.belowB HB8.out,HS6.out.2⟩
 clear HNc H6 HM6 HS6 hb7 HB8
 have m0:(w7.alloc (.cells #[.slice a2 X2.length c2,.int .i64 0] 24)).cell? ⟨w4.heap.size,0,none⟩=some (.slice a X.length c):=HM8.out.cell 0
 have m1:(w7.alloc (.cells #[.slice a2 X2.length c2,.int .i64 0] 24)).cell? ⟨w4.heap.size,1,none⟩=some (.int .i64 0):=HM8.out.cell 1
 have s0:(w7.alloc (.cells #[.slice a2 X2.length c2,.int .i64 0] 24)).cell? ⟨w.heap.size+1+1,0,none⟩=some (.slice (some ⟨w.heap.size+1,0,none⟩) 1 1):=H8.out.s.cell 0
 have s1:(w7.alloc (.cells #[.slice a2 X2.length c2,.int .i64 0] 24)).cell? ⟨w.heap.size+1+1,1,none⟩=some (.int .i64 0):=H8.out.s.cell 1
 have HSm:Hid _:=ssame_yes X (uX w.heap.size) a (some ⟨w.heap.size+1,0,none⟩) c 1 0 (w7.alloc (.cells #[.slice a2 X2.length c2,.int .i64 0] 24)) HS8.out.1 H8.out.sc HS8.out.2.1 HS8.out.2.2.symm
 go_wp2_with fail
 generalize (w7.alloc (.cells #[.slice a2 X2.length c2,.int .i64 0] 24))=w8 at *
 refine Calls.mono HSm.out ?_
 rintro e w9 ⟨rfl,hb9⟩
 have HB9:Hid (Below w.heap.size w w9):=(H8.out.more hb9).bel
 clear HSm hb9
 go_wp2_with fail
 go_ret
 exact ⟨rfl,HB9.out⟩
end Go.Proofs.YtgoffkfpdigeeaaGreatDoor
namespace Go.Proofs.YtgoffkfpdigeeaaGreatDoor
open Go.RowKit
end Go.Proofs.YtgoffkfpdigeeaaGreatDoor
namespace Go.Proofs.YtgoffkfpdigeeaaGreatDoor
open Go.RowKit
theorem wrap64_small (n:Nat) (h:n<256):wrap64 (n:Int)=n:=by unfold wrap64;omega
def FGotC (w w':World) (e:Ending) (q:Nat × Nat × List Sec):Prop:=
 ∃(a:Option Addr) (cap gk:Nat),e=.returned (.tuple #[.int .i64 (q.2.1:Nat),.slice a q.2.2.length cap,.int .i64 (q.1:Nat)])∧(0<q.2.2.length→a=some ⟨gk,0,none⟩)∧SecAt w' gk 0 q.2.2∧Below w.heap.size w w'∧q.2.2.length≤cap
theorem FGotC.none {w w':World} (e:Nat) (hb:Below w.heap.size w w'):FGotC w w' (.returned (.tuple #[.int .i64 0,.slice none 0 0,.int .i64 e])) (e,0,[]):=
 ⟨_,0,0,rfl,by simp,fun i hi=>by simp at hi,hb,Nat.le_refl 0⟩
theorem FGotC.weak {w w':World} {e:Ending} {q:Nat × Nat × List Sec} (h:FGotC w w' e q):FGot w w' e q:=by
 obtain ⟨a,cap,gk,h1,h2,h3,h4,_⟩:=h
 exact ⟨a,cap,gk,h1,h2,h3,h4⟩
theorem own_cap4 {w:World} {B:Nat} {a:Option Addr} {n cap:Nat} {xs:List Value} (h:w.ownsRow B 55 2 (.slice a n cap) n xs):n≤cap:=by
 rcases h.2 with ⟨hv,h0⟩|⟨g,cap',cur,hv,hb,hg,hc,_⟩
 ·omega
 ·injection hv with _ _ h3
  omega
theorem fz3 {w w':World} (E:Nat) (e:Ending) (res:Nat × List Sec) (V:Nat) (hr:res=(E,[])) (hE:E≠0) (he:e=.returned (.tuple #[.int .i64 0,.slice none 0 0,.int .i64 (E:Int)])) (hb:Below w.heap.size w w'):FGotC w w' e (fin3 res V):=by
 subst hr
 subst he
 rw [fin3_bad hE]
 exact FGotC.none E hb
set_option maxRecDepth 10000 in
set_option maxHeartbeats 800000 in
theorem rget_go (m b:ByteArray) (w:World) (res:Nat × List Sec) (hm:m.size=4) (hb:b.size≤100000000) (hp:b.data.toList.take 4=m.data.toList) (h5:4<b.size) (hv:b[4].toNat≠0) (hres:res=secsL 8 (b.data.toList.drop 5)) :
  Calls Tryz.prog 36 #[.string m,.string b] w fun e w'=>FGotC w w' e (fin3 res b[4].toNat):=by
 have hm':(m.size:Int)=4:=by omega
 have hb4:¬(b.size:Int)<4:=by omega
 have hb5:(4:Int)<b.size:=by omega
 have hb6:¬(b.size:Int)=4:=by omega
 have hv':¬(b[4].toNat:Int)=0:=by omega
 have hq:((b.extract 0 4).toList==m.toList)=true:=by
  rw [ByteArray.toList_eq,ByteArray.toList_eq,(take4_eq m b).1 hp];simp
 have HRES:Hid (res=secsL 8 (b.data.toList.drop 5)):=hres
 have hown0:(w.alloc (.cells #[] 55)).ownsRow w.heap.size 55 2 (.slice (some ⟨w.heap.size,0,none⟩) 0 0) 0 (sV []):=World.ownsRow_lit w #[] 0 (Nat.le_refl _) (by decide) (by simp)
 have hbel:Below w.heap.size w (w.alloc (.cells #[] 55)):=(Below.refl _ _).alloc (Nat.le_refl _) _
 obtain ⟨i0,hi,hz0,hz1,hz2⟩:=info_parts Tryz.infoS
 have hw4:wrap64 (b[4].toNat:Int)=b[4].toNat:=wrap64_small _ b[4].toNat_lt
 clear hm hp hv hres
 go_enter Tryz.func36,Tryz.ntmps36
 go_wp2_with fail
 go_loopw [7,8] (fun ov av wr=>∃(n A:Nat) (a:Option Addr) (cap:Nat) (xs:List Sec),ov=.slice a n cap∧av=.int .i64 A∧wr.ownsRow w.heap.size 55 2 (.slice a n cap) n (sV xs)∧n≤8∧A≤b.size∧Below w.heap.size w wr∧Hid (xs.length=n∧res=cont xs (secsL (8-n) (b.data.toList.drop A)))) (fun _ av _=>b.size-(intOf av).toNat)
 case atStart=>exact ⟨0,5,_,_,[],rfl,rfl,hown0,by omega,by omega,hbel,rfl,by rw [HRES.out,cont_nil]⟩
 case round=>
  clear hown0 hbel HRES hm' hb4 hb6 hq
  obtain ⟨n,A,a,cap,xs,rfl,rfl,hown,hn,hA,hB,HX⟩:=hrel
  by_cases hlt:A<b.size
  ·have hlt':(A:Int)<b.size:=by omega
   have hdrop:=drop_atB b A hlt
   have hne:b.data.toList.drop A≠[]:=by rw [hdrop];simp
   by_cases h8:n=8
   ·subst h8
    have HQ:Hid (res=(8,[])):=by
     obtain ⟨_,h2⟩:=HX.out
     show _=_
     rw [h2,secsL_full _ hne,cont_bad (by decide)]
    clear HX hdrop hne
    go_wp2_with fail
    go_ret3
    exact fz3 8 _ res _ HQ.out (by decide) rfl hB
   have h8':¬(n:Int)=8:=by omega
   have hbad:Hid (∀E,(sec1 (b.data.toList.drop A)).1=E→E≠0→res=(E,[])):=fun E hE h0=>by
    obtain ⟨_,h2⟩:=HX.out
    rw [show 8-n=(8-(n+1))+1 by omega,secsL_bad _ _ hne (by rw [hE];exact h0),cont_bad (by rw [hE];exact h0),hE] at h2
    exact h2
   have hgood:Hid ((sec1 (b.data.toList.drop A)).1=0→xs.length=n∧res=cont (xs++[(sec1 (b.data.toList.drop A)).2.1]) (secsL (8-(n+1)) (b.data.toList.drop (A+(sec1 (b.data.toList.drop A)).2.2)))):=fun h0=>by
    obtain ⟨h1,h2⟩:=HX.out
    rw [show 8-n=(8-(n+1))+1 by omega,secsL_go _ _ hne h0,cont_cont,List.drop_drop] at h2
    exact ⟨h1,h2⟩
   rw [hdrop,sec1_cons] at hbad hgood
   have hnum:dec 0 0 (b.data.toList.drop (A+1))=num b (A+1):=rfl
   have hlen:(b.data.toList.drop (A+1)).length=b.size-(A+1):=by rw [List.length_drop,list_size]
   rw [hnum] at hbad hgood
   have G:=fun W=>refget_any b ((A+1:Nat):Int) W (by unfold maxLen;omega)
   have gy:=got_yes b (A+1) (by omega)
   have gn:=got_no b (A+1) (by omega)
   have hok:=fun h=>num_ok b (A+1) h (by omega)
   clear hdrop hne HX hnum
   generalize num b (A+1)=d at *
   obtain ⟨N,M,E⟩:=d
   dsimp only at *
   by_cases hc:b[A].toNat=0
   ·have hc':(b[A].toNat:Int)=0:=by omega
    have HQ:Hid (res=(4,[])):=hbad.out 4 (by unfold sec0;rw [if_pos hc]) (by decide)
    clear hbad hgood G gy gn hok hc
    go_wp2_with fail
    go_ret3
    exact fz3 4 _ res _ HQ.out (by decide) rfl hB
   have hc':¬(b[A].toNat:Int)=0:=by omega
   by_cases hE:E≠0
   ·have HQ:Hid (res=(E,[])):=hbad.out E (by unfold sec0;rw [if_neg hc,if_pos hE]) hE
    rw [gn hE] at G
    have hE':((E:Int) != 0)=true:=by simpa using (by omega:¬(E:Int)=0)
    have HE:Hid (E≠0):=hE
    have HG:Hid _:=G
    rw [Int.natCast_add] at HG
    clear hbad hgood G gy gn hok hc hE
    go_wp2_with fail
    refine (HG.out _).mono ?_
    rintro e w1 ⟨rfl,rfl⟩
    go_wp2_with fail
    go_ret3
    exact fz3 E _ res _ HQ.out HE.out rfl hB
   have hE0:E=0:=by omega
   subst hE0
   rw [gy rfl] at G
   obtain ⟨o1,o2,o3⟩:=hok rfl
   obtain ⟨nx,HN⟩:∃nx,Hid (nx=A+1+M):=⟨_,rfl⟩
   have hnb:nx≤b.size:=by have:=HN.out;omega
   rw [show ((A+1:Nat):Int)+(M:Int)=(nx:Int) by have:=HN.out;omega] at G
   have HG:Hid _:=G
   rw [Int.natCast_add] at HG
   clear G gy gn hok
   by_cases h3:16777216<N
   ·have h3':(16777216:Int)<N:=by omega
    have HQ:Hid (res=(19,[])):=hbad.out 19 (by unfold sec0;rw [if_neg hc,if_neg (by simp),if_pos h3]) (by decide)
    clear hbad hgood hc h3
    go_wp2_with fail
    refine (HG.out _).mono ?_
    rintro e w1 ⟨rfl,rfl⟩
    go_wp2_with fail
    go_ret3
    exact fz3 19 _ res _ HQ.out (by decide) rfl hB
   have h3':¬(16777216:Int)<N:=by omega
   by_cases h4:b.size<nx+N+4
   ·have h4':(b.size:Int)-((nx:Int)+N)<4:=by omega
    have HQ:Hid (res=(2,[])):=hbad.out 2 (by unfold sec0;rw [if_neg hc,if_neg (by simp),if_neg h3,if_pos (by dsimp only;rw [hlen];have:=HN.out;omega)]) (by decide)
    clear hbad hgood hc h3
    go_wp2_with fail
    refine (HG.out _).mono ?_
    rintro e w1 ⟨rfl,rfl⟩
    go_wp2_with fail
    go_ret3
    exact fz3 2 _ res _ HQ.out (by decide) rfl hB
   have h4':¬(b.size:Int)-((nx:Int)+N)<4:=by omega
   have hwA:wrap64 (b[A].toNat:Int)=b[A].toNat:=wrap64_small _ b[A].toNat_lt
   have hnx:=HN.out
   have hs0:sec0 b[A] (b.data.toList.drop (A+1)) (N,M,0)=if (b.extract (nx+N) (nx+N+4)).data.toList≠four (crc (b.extract nx (nx+N)).data.toList) then (5,(0,⟨#[]⟩),0) else (0,((b[A].toNat:Int),b.extract nx (nx+N)),1+M+N+4):=by
    have dS:(b.extract (nx+N) (nx+N+4)).data.toList=((b.data.toList.drop (A+1)).drop (M+N)).take 4:=by rw [drop_take_extract,List.drop_drop,hnx,← Nat.add_assoc]
    have dP:(b.extract nx (nx+N)).data.toList=((b.data.toList.drop (A+1)).drop M).take N:=by rw [drop_take_extract,List.drop_drop,hnx]
    have eP:b.extract nx (nx+N)=⟨(((b.data.toList.drop (A+1)).drop M).take N).toArray⟩:=ba_ext dP
    unfold sec0
    rw [if_neg hc,if_neg (by simp),if_neg h3,if_neg (by dsimp only;rw [hlen];omega),dS,dP,eP]
   rw [hs0] at hbad hgood
   have hPsz:(b.extract nx (nx+N)).size≤281474976710656:=by rw [ByteArray.size_extract];omega
   have cS:∀W:World,Calls Tryz.prog 54 #[.string (b.extract nx (nx+N))] W fun e w'=>e=.returned (.int .u32 (crc (b.extract nx (nx+N)).data.toList:Nat))∧w'=W:=fun W=>refsum_any _ W hPsz
   have cP:∀W:World,Calls Tryz.prog 53 #[.int .u32 (crc (b.extract nx (nx+N)).data.toList:Nat)] W fun e w'=>e=.returned (.string ⟨(four (crc (b.extract nx (nx+N)).data.toList)).toArray⟩)∧Below W.heap.size W w':=fun W=>refput4_any _ W (crc_lt _)
   have hd4:(ByteArray.mk (four (crc (b.extract nx (nx+N)).data.toList)).toArray).data.toList=four (crc (b.extract nx (nx+N)).data.toList):=rfl
   rw [← hd4] at hbad hgood
   generalize ByteArray.mk (four (crc (b.extract nx (nx+N)).data.toList)).toArray=X at *
   generalize crc (b.extract nx (nx+N)).data.toList=C at *
   have cS':∀d os,Calls Tryz.prog 54 #[.string (b.extract nx (nx+N))] (Go.Sort.grow (redrawn wr d) os) fun e w''=>e=.returned (.int .u32 (C:Nat))∧∃p:Regrown,w''=Go.Sort.grow (redrawn wr p.d) p.os:=fun d os=>Calls.regrown_of ((cS _).mono fun _ _ ⟨h1,h2⟩=>⟨h1,by rw [h2];exact Below.refl _ _⟩)
   have cP':∀d os,Calls Tryz.prog 53 #[.int .u32 (C:Nat)] (Go.Sort.grow (redrawn wr d) os) fun e w''=>e=.returned (.string X)∧∃p:Regrown,w''=Go.Sort.grow (redrawn wr p.d) p.os:=fun d os=>Calls.regrown_of (cP _)
   have KS:Hid _:=cS'
   have KP:Hid _:=cP'
   clear cS cP cS' cP' hd4 hs0 hPsz hnx
   have hcmp:((b.extract (nx+N) (nx+N+4)).toList==X.toList)=decide ((b.extract (nx+N) (nx+N+4)).data.toList=X.data.toList):=by
    rw [ByteArray.toList_eq,ByteArray.toList_eq];simp [Bool.beq_eq_decide_eq]
   have g1:(nx:Int)+N+4≤b.size:=by omega
   have g2:(nx:Int)+N≤b.size:=by omega
   have g3:(0:Int)≤(nx:Int)+N:=by omega
   have g4:(nx:Int)≤(nx:Int)+N:=by omega
   by_cases h5':(b.extract (nx+N) (nx+N+4)).data.toList=X.data.toList
   ·have HQ:=hgood.out (by rw [if_neg (by simpa using h5')])
    rw [if_neg (by simpa using h5')] at HQ
    have HW:Hid _:=HQ
    dsimp only at HW
    have hPs:(b.extract nx (nx+N)).size≤100000000:=by rw [ByteArray.size_extract];omega
    have HAd:Hid (A+(1+M+N+4)=nx+N+4):=by have:=HN.out;show _=_;omega
    rw [HAd.out] at HW
    rw [decide_eq_true h5'] at hcmp
    clear hbad hgood hc h3 h5' HQ HAd
    go_wp2_with fail
    refine (HG.out _).mono ?_
    rintro e w1 ⟨rfl,rfl⟩
    go_wp2_with fail
    refine wp_region_quiet_below (by kernel_rfl) (by kernel_rfl) ?_
    repeat (first|go_big_quiet_step (first|(go_at_call 54;exact KS.out _ _)|(go_at_call 53;exact KP.out _ _))|quiet_step (first|(go_at_call 54;exact KS.out _ _)|(go_at_call 53;exact KP.out _ _)))
    refine wpQuiet_nil ?_
    intro _ hw'
    obtain ⟨⟨dq,osq⟩,hw''⟩:=hw'
    subst hw''
    have hB5:Below w.heap.size w (Go.Sort.grow (redrawn w1 dq) osq):=hB.trans ((below_regrown w1 dq osq).mono hB.size)
    have ho5:=hown.kept (gbelow (row:=Option.none) (below_regrown w1 dq osq)) (by cases h:(Value.slice a n cap).ownBlock <;> simp)
    clear KS KP HG hown hB
    generalize Go.Sort.grow (redrawn w1 dq) osq=w5 at *
    have hT:((nx:Int)+N).toNat=nx+N:=by omega
    have hwI:IntKind.i64.wrap (b[A].toNat:Int)=b[A].toNat:=by rw [IntKind.wrap_i64];have:=b[A].toNat_lt;omega
    have hlt5:=fun q hq=>(ho5.lt q hq).1
    go_wp2_with fail
    go_region_law (refine step_append_lies _ rfl (.tmp 79) (.tmp 89) 56 rfl w.heap.size 55 i0 (.agg #[.int .i64 0,.string ⟨#[]⟩]) 2 24 Tryz.underlying56 hi hz0 hz1 hz2 rfl (by decide) _ n (sV xs) rfl (ho5.alloc _).drew ⟨w5.heap.size,0,none⟩ 1 1 [.int .i64 (b[A].toNat:Int),.string (b.extract nx (nx+N))] rfl rfl (World.news_of_block (heap_alloc_new w5 _)) (by intro u hu;simp at hu;rcases hu with rfl|rfl <;> rfl) (by decide) (by unfold maxLen;omega) (by omega) (by simp;exact Nat.le_succ_of_le hB5.size) _ rfl ?_;intro g2 cap2 w6 hown2 hgrow2 _ _)
    all_goals
     have hB6:Below w.heap.size w w6:=(hB5.alloc hB5.size _).drew.grown hgrow2 (by simp;exact Nat.le_succ_of_le hB5.size) hlt5
     go_wp2_with fail
     go_roundw
     case rel=>
      obtain ⟨q1,q2⟩:=HW.out
      exact ⟨n+1,nx+N+4,_,cap2,xs++[((b[A].toNat:Int),b.extract nx (nx+N))],rfl,by go_num,by rw [sV_append];exact hown2,by omega,by omega,hB6,by simp;omega,q2⟩
     case measure=>have:=HN.out;simp [intOf];omega
   ·have HQ:Hid (res=(5,[])):=hbad.out 5 (by rw [if_pos h5']) (by decide)
    rw [decide_eq_false h5'] at hcmp
    clear hbad hgood hc h3 h4 h5'
    go_wp2_with fail
    refine (HG.out _).mono ?_
    rintro e w1 ⟨rfl,rfl⟩
    go_wp2_with fail
    refine wp_region_quiet_below (by kernel_rfl) (by kernel_rfl) ?_
    repeat (first|go_big_quiet_step (first|(go_at_call 54;exact KS.out _ _)|(go_at_call 53;exact KP.out _ _))|quiet_step (first|(go_at_call 54;exact KS.out _ _)|(go_at_call 53;exact KP.out _ _)))
    refine wpQuiet_nil ?_
    intro _ hw'
    obtain ⟨⟨dq,osq⟩,hw''⟩:=hw'
    subst hw''
    go_wp2_with fail
    go_ret3
    exact fz3 5 _ res _ HQ.out (by decide) rfl (hB.trans ((below_regrown w1 dq osq).mono hB.size))
  ·have HQ:Hid (fin3 res b[4].toNat=(0,b[4].toNat,xs)∧xs.length=n):=by
    obtain ⟨h1,h2⟩:=HX.out
    rw [drop_end b A (by omega),secsL_nil,cont_ok rfl,List.append_nil] at h2
    exact ⟨by rw [h2];rfl,h1⟩
   clear HX
   go_wp2_with fail
   go_ret3
   obtain ⟨hq,hl⟩:=HQ.out
   rw [hq]
   obtain ⟨gk,h1,h2⟩:=own_secs hown hl
   have hcp:=own_cap4 hown
   refine ⟨a,cap,gk,?_,by rw [← hl] at h1;exact h1,h2,hB,by rw [← hl] at hcp;exact hcp⟩
   rw [← hl]
   show Ending.returned (.tuple #[.int .i64 (wrap64 (b[4].toNat:Int)),_,_])=_
   rw [hw4]
   rfl
set_option maxRecDepth 10000 in
set_option maxHeartbeats 400000 in
theorem rget_no (m b:ByteArray) (w:World) (hb:b.size≤100000000) (h:m.size≠4∨b.data.toList.take 4≠m.data.toList) :
  Calls Tryz.prog 36 #[.string m,.string b] w fun e w'=>FGotC w w' e (6,0,[]):=by
 by_cases hm:m.size=4
 ·have hm':(m.size:Int)=4:=by omega
  by_cases hb4:b.size<4
  ·have hb4':(b.size:Int)<4:=by omega
   clear h
   go_enter Tryz.func36,Tryz.ntmps36
   go_wp2_with fail
   go_ret3
   exact FGotC.none 6 (Below.refl _ _)
  ·have hb4':¬(b.size:Int)<4:=by omega
   have hq:((b.extract 0 4).toList==m.toList)=false:=by
    rw [ByteArray.toList_eq,ByteArray.toList_eq,beq_eq_false_iff_ne]
    intro e
    rcases h with h|h
    ·exact h hm
    ·exact h ((take4_eq m b).2 (ba_ext e))
   clear h
   go_enter Tryz.func36,Tryz.ntmps36
   go_wp2_with fail
   go_ret3
   exact FGotC.none 6 (Below.refl _ _)
 ·have hm':¬(m.size:Int)=4:=by omega
  clear h
  go_enter Tryz.func36,Tryz.ntmps36
  go_wp2_with fail
  go_ret3
  exact FGotC.none 6 (Below.refl _ _)
set_option maxRecDepth 10000 in
set_option maxHeartbeats 400000 in
theorem rget_early (m b:ByteArray) (w:World) (hm:m.size=4) (hb:b.size≤100000000) (hp:b.data.toList.take 4=m.data.toList) :
  (b.size=4→Calls Tryz.prog 36 #[.string m,.string b] w fun e w'=>FGotC w w' e (2,0,[]))∧(∀h:4<b.size,b[4].toNat=0→Calls Tryz.prog 36 #[.string m,.string b] w fun e w'=>FGotC w w' e (7,0,[])):=by
 have hm':(m.size:Int)=4:=by omega
 have hq:((b.extract 0 4).toList==m.toList)=true:=by
  rw [ByteArray.toList_eq,ByteArray.toList_eq,(take4_eq m b).1 hp];simp
 clear hp
 constructor
 ·intro h4
  have h4':(b.size:Int)=4:=by omega
  go_enter Tryz.func36,Tryz.ntmps36
  go_wp2_with fail
  go_ret3
  exact FGotC.none 2 (Below.refl _ _)
 ·intro h5 hz
  have hb4:¬(b.size:Int)<4:=by omega
  have hb5:(4:Int)<b.size:=by omega
  have hb6:¬(b.size:Int)=4:=by omega
  have hz':(b[4].toNat:Int)=0:=by omega
  clear hz
  go_enter Tryz.func36,Tryz.ntmps36
  go_wp2_with fail
  go_ret3
  exact FGotC.none 7 (Below.refl _ _)
theorem rget2_any (m b:ByteArray) (w:World) (hb:b.size≤100000000) :
  Calls Tryz.prog 36 #[.string m,.string b] w fun e w'=>FGotC w w' e (pGet m.data.toList b.data.toList):=by
 by_cases h:m.size≠4∨b.data.toList.take 4≠m.data.toList
 ·have hG:pGet m.data.toList b.data.toList=(6,0,[]):=by unfold pGet;rw [if_pos (by rw [list_size];exact h)]
  rw [hG]
  exact rget_no m b w hb h
 ·have hm:m.size=4:=by omega
  have hp:b.data.toList.take 4=m.data.toList:=by simpa using fun e=>h (.inr e)
  have h4:4≤b.size:=by
   have h1:=congrArg List.length hp
   rw [List.length_take,list_size,list_size] at h1
   omega
  obtain ⟨e1,e2⟩:=rget_early m b w hm hb hp
  have hG:pGet m.data.toList b.data.toList=match b.data.toList.drop 4 with
    | []=>(2,0,[])
    | v :: r=>if v.toNat=0 then (7,0,[]) else if (secsL 8 r).1≠0 then ((secsL 8 r).1,0,[]) else (0,v.toNat,(secsL 8 r).2):=by
   unfold pGet
   rw [if_neg (by rw [list_size];exact h)]
   cases b.data.toList.drop 4 <;> rfl
  by_cases h5:4<b.size
  ·rw [drop_atB b 4 h5] at hG
   dsimp only at hG
   by_cases hz:b[4].toNat=0
   ·rw [if_pos hz] at hG
    rw [hG]
    exact e2 h5 hz
   ·rw [if_neg hz] at hG
    rw [hG]
    exact rget_go m b w (secsL 8 (b.data.toList.drop 5)) hm hb hp h5 hz rfl
  ·rw [drop_end b 4 (by omega)] at hG
   dsimp only at hG
   rw [hG]
   exact e1 (by omega)
theorem rget_any (m b:ByteArray) (w:World) (hb:b.size≤100000000) :
  Calls Tryz.prog 36 #[.string m,.string b] w fun e w'=>FGot w w' e (pGet m.data.toList b.data.toList):=Calls.mono (rget2_any m b w hb) (fun _ _ h=>h.weak)
end Go.Proofs.YtgoffkfpdigeeaaGreatDoor
