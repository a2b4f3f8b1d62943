import Derived.Deep.RegionHeld3
import Derived.Test.YtcgjgjjegnofeaaGreatDoorPA27
import Derived.Test.YtcgjgjjegnofeaaGreatDoorPA29
import Derived.Test.YtcgjgjjegnofeaaGreatDoorPA25
import Derived.Test.YtcgjgjjegnofeaaGreatDoorPA26
import Derived.Test.YtcgjgjjegnofeaaGreatDoorPA23
import Derived.Test.YtcgjgjjegnofeaaGreatDoorPA20
import Derived.Test.YtcgjgjjegnofeaaGreatDoorPA17
import Derived.Lib.QuietBelow
import Derived.BigQuiet
import Derived.Test.YtcgjgjjegnofeaaGreatDoorPA24
import Derived.Test.YtcgjgjjegnofeaaGreatDoorPA07
namespace Go.Proofs.YtcgjgjjegnofeaaGreatDoor
open Go.RowKit Go.Maps Go.WideMaps Go.Sort
def isF:List Sec→Bool
 | [s,t]=>decide (s.1=1) && decide (t.1=2)
 | _=>false
theorem isF_iff (S:List Sec):isF S=true↔∃A C,S=[(1,A),(2,C)]:=by
 constructor
 ·intro h
  match S,h with
  | [(a,A),(b,B)],h=>
   simp only [isF,Bool.and_eq_true,decide_eq_true_eq] at h
   obtain ⟨rfl,rfl⟩:=h
   exact ⟨A,B,rfl⟩
  | [],h=>cases h
  | [_],h=>cases h
  | _ :: _ :: _ :: _,h=>cases h
 ·rintro ⟨A,C,rfl⟩
  rfl
set_option maxRecDepth 10000 in
set_option maxHeartbeats 800000 in
theorem isform_any (S:List Sec) (a:Option Addr) (c g:Nat) (w:World) (ha:0<S.length→a=some ⟨g,0,none⟩) (hs:SecAt w g 0 S) :
  Calls Tryz.prog 38 #[.slice a S.length c] w fun e w'=>e=.returned (.bool (isF S))∧w'=w:=by
 by_cases hn:S.length=2
 ·obtain ⟨s,t,rfl⟩:∃s t,S=[s,t]:=by
   match S,hn with
   | [s,t],_=>exact ⟨s,t,rfl⟩
  obtain ⟨n1,B1⟩:=s
  obtain ⟨n2,B2⟩:=t
  obtain rfl:=ha (by simp)
  have s0:w.cell? ⟨g,0,none⟩=some (.int .i64 n1):=by simpa using (hs 0 (by simp)).2.1
  have s2:w.cell? ⟨g,2,none⟩=some (.int .i64 n2):=by simpa using (hs 1 (by simp)).2.1
  clear hn ha hs
  by_cases h1:n1=1
  ·subst h1
   by_cases h2:n2=2
   ·subst h2
    go_enter Tryz.func38,Tryz.ntmps38
    go_wp2_with fail
    go_ret
    exact ⟨rfl,rfl⟩
   ·have h2':(n2==2)=false:=by simpa using h2
    have hf:isF [(1,B1),(n2,B2)]=false:=by simp [isF,h2]
    rw [hf]
    go_enter Tryz.func38,Tryz.ntmps38
    go_wp2_with fail
    go_ret
    exact ⟨rfl,rfl⟩
  ·have h1':(n1==1)=false:=by simpa using h1
   have hf:isF [(n1,B1),(n2,B2)]=false:=by simp [isF,h1]
   rw [hf]
   go_enter Tryz.func38,Tryz.ntmps38
   go_wp2_with fail
   go_ret
   exact ⟨rfl,rfl⟩
 ·have hf:isF S=false:=by
   cases h:isF S with
   | false=>rfl
   | true=>obtain ⟨A,C,rfl⟩:=(isF_iff S).1 h;exact absurd rfl hn
  have hn':((S.length:Int)==2)=false:=by simp;omega
  rw [hf]
  clear ha hs hf hn
  go_enter Tryz.func38,Tryz.ntmps38
  go_wp2_with fail
  go_ret
  exact ⟨rfl,rfl⟩
set_option maxRecDepth 10000 in
set_option maxHeartbeats 2000000 in
theorem pfload_any (b:ByteArray) (l:Lm) (w:World) (hT:Tabs12 w) (hz:b.size≤100000000) (hQ:∀A C,ldK b l=(0,A,C)→A.size≤1000000∧C.size≤4000000∧∀L,pGet6 A 16777216 l.x=(0,L)→Qn C L l) (hl:∀i,i<5→-9223372036854775808≤(lmL l).getD i 0∧(lmL l).getD i 0≤9223372036854775807) :
  Calls Tryz.prog 15 #[.string b,.agg (liC l)] w fun e w'=>LdOut b l w w' e:=by
 have HA:Hid (∀(o1 o2:Obj),o1=.cells (liC l) 26→o2=.cells #[.slice none 0 0,.int .i64 0] 24→Gx w ((w.alloc o1).alloc o2) l):=by
  rintro _ _ rfl rfl
  exact ⟨(AtN.new w 26 _).alloc _,mk_at (AtN.new (w.alloc _) 24 _) (show _=w.heap.size+1 by simp),((Below.refl w.heap.size w).alloc (Nat.le_refl _) _).alloc (by simp) _⟩
 have hlC:liC l=#[.int .i64 l.b,.int .i64 l.n,.int .i64 l.e,.int .i64 l.d,.int .i64 l.x]:=rfl
 have HG:Hid (∀W,Calls Tryz.prog 37 #[.string ⟨#[68,73,79,82]⟩,.string b] W fun e w'=>FGot W w' e (pGet mD.data.toList b.data.toList)):=fun W=>fget_any mD b W hz
 have HN:Hid (∀(A C:ByteArray) (W:World),Below w.heap.size w W→ldK b l=(0,A,C)→Calls Tryz.prog 39 #[.string A,.string C,.agg #[.int .i64 l.b,.int .i64 l.n,.int .i64 l.e,.int .i64 l.d,.int .i64 l.x]] W fun e w'=>GeOut2 A C l W w' e):=fun A C W hW hk=>pnget2_any A C l W (hT.on hW) (hQ A C hk).1 (hQ A C hk).2.1 (hQ A C hk).2.2 hl
 obtain ⟨E,V,S,hq⟩:∃E V S,pGet mD.data.toList b.data.toList=(E,V,S):=⟨_,_,_,rfl⟩
 rw [hq] at HG
 have HP:Hid (pGet mD.data.toList b.data.toList=(E,V,S)):=hq
 clear hq hT hl hQ hz
 go_enter Tryz.func15,Tryz.ntmps15
 rw [hlC]
 go_wp2_with fail
 have hx0:=HA.out _ _ rfl rfl
 rw [hlC] at hx0
 refine (okl_any l _).mono ?_
 rintro e w1 ⟨rfl,hb1⟩
 have HX1:Hid (Gx w w1 l):=hx0.more hb1
 clear HA hx0 hb1 hlC
 have r0:w1.cell? ⟨w.heap.size+1,0,none⟩=some (.slice none 0 0):=HX1.out.r.cell 0
 have r1:w1.cell? ⟨w.heap.size+1,1,none⟩=some (.int .i64 0):=HX1.out.r.cell 1
 have f0:=HX1.out.r.fz 0
 have f1:=HX1.out.r.fz 1
 cases hok:okL l with
 | false=>
  have HV:Hid _:=ld_bad (LdIs.bad (ldK_1 b l hok) (by decide)) HX1.out.bel HX1.out.r
  clear HG HN
  go_wp2_with fail
  obtain ⟨v2,v1⟩:=HV.out _ rfl
  have c0:=v2.cell 0
  have c1:=v2.cell 1
  exact bodyPost_ret (v:=.tuple #[.agg #[.slice none 0 0,.int .i64 0],.int .i64 1]) (by simp [results,Tryz.results15,go_sem,c0,c1]) rfl v1
 | true=>
  have a0:w1.cell? ⟨w.heap.size,0,none⟩=some (.int .i64 l.b):=HX1.out.a.cell 0
  by_cases hlb:l.b<(b.size:Int)
  ·have HV:Hid _:=ld_bad (LdIs.bad (ldK_2 b l hok hlb) (by decide)) HX1.out.bel HX1.out.r
   clear HG HN
   go_wp2_with fail
   obtain ⟨v2,v1⟩:=HV.out _ rfl
   have c0:=v2.cell 0
   have c1:=v2.cell 1
   exact bodyPost_ret (v:=.tuple #[.agg #[.slice none 0 0,.int .i64 0],.int .i64 19]) (by simp [results,Tryz.results15,go_sem,c0,c1]) rfl v1
  ·have HLB:Hid ((b.size:Int)≤l.b):=Int.not_lt.1 hlb
   go_wp2_with fail
   refine Calls.mono (HG.out _) ?_
   rintro e w2 ⟨aS,cS,gS,rfl,haS,hsS,hb2⟩
   dsimp only at haS hsS ⊢
   have HX2:Hid (Gx w w2 l):=HX1.out.more hb2
   have HsS:Hid (SecAt w2 gS 0 S):=hsS
   have HaS:Hid (0<S.length→aS=some ⟨gS,0,none⟩):=haS
   clear HX1 hb2 r0 r1 f0 f1 a0 hsS haS HG
   have r0:w2.cell? ⟨w.heap.size+1,0,none⟩=some (.slice none 0 0):=HX2.out.r.cell 0
   have r1:w2.cell? ⟨w.heap.size+1,1,none⟩=some (.int .i64 0):=HX2.out.r.cell 1
   have f0:=HX2.out.r.fz 0
   have f1:=HX2.out.r.fz 1
   have HK:Hid (∀k:Int,(ldK b l).1=k→k≠0→Hid (∀W',W'=(w2.setCell ⟨w.heap.size+1,0,none⟩ (.slice none 0 0)).setCell ⟨w.heap.size+1,1,none⟩ (.int .i64 0)→AtN 24 W' (w.heap.size+1) #[.slice none 0 0,.int .i64 0]∧LdOut b l w W' (.returned (.tuple #[.agg #[.slice none 0 0,.int .i64 0],.int .i64 k])))):=fun k h1 h2=>ld_bad (LdIs.bad h1 h2) HX2.out.bel HX2.out.r
   by_cases hE:E=0
   ·subst hE
    by_cases hV:V=2
    ·subst hV
     have HI:Hid (Calls Tryz.prog 38 #[.slice aS S.length cS] w2 fun e w'=>e=.returned (.bool (isF S))∧w'=w2):=isform_any S aS cS gS w2 HaS.out HsS.out
     cases hf:isF S with
     | true=>
      rw [hf] at HI
      obtain ⟨B1,B2,rfl⟩:=(isF_iff S).1 hf
      obtain rfl:=HaS.out (by simp)
      have s1:w2.cell? ⟨gS,1,none⟩=some (.string B1):=by simpa using (HsS.out 0 (by simp)).2.2
      have s3:w2.cell? ⟨gS,3,none⟩=some (.string B2):=by simpa using (HsS.out 1 (by simp)).2.2
      have hgS:gS<w2.heap.size:=(HsS.out 0 (by simp)).1
      have hgN:gS≠w.heap.size+1:=fun q=>by
       have h1:=s1
       have h2:=HX2.out.r.cell 1
       rw [q,h2] at h1
       cases h1
      have hk:ldK b l=(0,B1,B2):=ldK_6 b l hok (Int.not_lt.2 HLB.out) (by rw [HP.out]) (by rw [HP.out]) (by rw [HP.out])
      have HNc:Hid (Calls Tryz.prog 39 #[.string B1,.string B2,.agg #[.int .i64 l.b,.int .i64 l.n,.int .i64 l.e,.int .i64 l.d,.int .i64 l.x]] w2.drew fun e w'=>GeOut2 B1 B2 l w2.drew w' e):=HN.out B1 B2 w2.drew (HX2.out.bel.trans ((bel_drew w2).mono HX2.out.bel.size)) hk
      have HGd:Hid (∀X:List Nx,∀r k:Int,GeIs B1 B2 l (X.map Nx.nd) r k→LdIs b l (X.map Nx.nd) r k):=fun X r k h=>.inr ⟨by rw [hk],by rw [hk];exact h⟩
      have HS:Hid (∀W,Below w2.heap.size w2 W→∀v0 v1 W',W'=(W.setCell ⟨w.heap.size+1,0,none⟩ v0).setCell ⟨w.heap.size+1,1,none⟩ v1∨W'=W→W'.cell? ⟨gS,1,none⟩=some (.string B1)∧W'.cell? ⟨gS,3,none⟩=some (.string B2)∧W'.cell? ⟨w.heap.size,0,none⟩=some (.int .i64 l.b)∧W'.cell? ⟨w.heap.size,1,none⟩=some (.int .i64 l.n)∧W'.cell? ⟨w.heap.size,2,none⟩=some (.int .i64 l.e)∧W'.cell? ⟨w.heap.size,3,none⟩=some (.int .i64 l.d)∧W'.cell? ⟨w.heap.size,4,none⟩=some (.int .i64 l.x)):=by
       intro W hW v0 v1 W' hW'
       have q1:=((bcell hW).1 gS 1 hgS).trans s1
       have q3:=((bcell hW).1 gS 3 hgS).trans s3
       have hA:=HX2.out.a.belowAll hW
       rcases hW' with rfl|rfl
       ·have hA2:=(hA.setOther ⟨w.heap.size+1,0,none⟩ (by show w.heap.size+1≠_;omega) v0).setOther ⟨w.heap.size+1,1,none⟩ (by show w.heap.size+1≠_;omega) v1
        refine ⟨?_,?_,hA2.cell 0,hA2.cell 1,hA2.cell 2,hA2.cell 3,hA2.cell 4⟩
        ·rw [World.cell?_setCell_other _ _ _ _ (by intro q;simp only [Addr.mk.injEq] at q;omega),World.cell?_setCell_other _ _ _ _ (by intro q;simp only [Addr.mk.injEq] at q;omega)];exact q1
        ·rw [World.cell?_setCell_other _ _ _ _ (by intro q;simp only [Addr.mk.injEq] at q;omega),World.cell?_setCell_other _ _ _ _ (by intro q;simp only [Addr.mk.injEq] at q;omega)];exact q3
       ·exact ⟨q1,q3,hA.cell 0,hA.cell 1,hA.cell 2,hA.cell 3,hA.cell 4⟩
      have hlt2:w.heap.size+1<w2.heap.size:=HX2.out.r.lt
      have K0:=HS.out w2 (Below.refl _ _) (.bool true) (.bool true) w2 (.inr rfl)
      have K1:=HS.out w2.drew (bel_drew w2) (.bool true) (.bool true) w2.drew (.inr rfl)
      clear hk HN HP HK HsS HaS hf s1 s3
      go_wp2_with fail
      refine Calls.mono HI.out ?_
      rintro e wq ⟨rfl,hwq⟩
      have hwq:=hwq.symm
      subst hwq
      clear HI
      go_wp2_with fail
      go_region_held3 (fun W=>W.cell? ⟨gS,1,none⟩=some (.string B1)∧W.cell? ⟨gS,3,none⟩=some (.string B2)∧W.cell? ⟨w.heap.size,0,none⟩=some (.int .i64 l.b)∧W.cell? ⟨w.heap.size,1,none⟩=some (.int .i64 l.n)∧W.cell? ⟨w.heap.size,2,none⟩=some (.int .i64 l.e)∧W.cell? ⟨w.heap.size,3,none⟩=some (.int .i64 l.d)∧W.cell? ⟨w.heap.size,4,none⟩=some (.int .i64 l.x)) (first|exact K3 _ _ _ (.inl rfl)|exact K3 (.bool true) (.bool true) _ (.inr rfl)|exact K1|exact K0)
       ((go_at_call 39;refine Calls.mono HNc.out ?_;rintro e w3 ⟨X,aX,cX,rX,kX,rfl,hg,hsc,hsm,hfn,hb3⟩;have HX3:Hid (Gx w w3 l):=(HX2.out.more (bel_drew w2)).more hb3;have K3:=HS.out w3 ((bel_drew w2).trans (hb3.mono (bel_drew w2).size));have r0:w3.cell? ⟨w.heap.size+1,0,none⟩=some (.slice none 0 0):=HX3.out.r.cell 0;have r1:w3.cell? ⟨w.heap.size+1,1,none⟩=some (.int .i64 0):=HX3.out.r.cell 1;have f0:=HX3.out.r.fz 0;have f1:=HX3.out.r.fz 1))
      have HV:Hid _:=ld_good (c:=cX) (W0:=w2) (HGd.out X rX kX hg) HX3.out.bel HX3.out.r (by omega) hsc hsm hfn
      clear HNc HGd hg hsc hsm hfn hb3 HX2 K0 K1 K3 HS
      go_wp2_with fail
      obtain ⟨v2,v1⟩:=HV.out _ rfl
      have c0:=v2.cell 0
      have c1:=v2.cell 1
      exact bodyPost_ret (v:=.tuple #[.agg #[.slice aX X.length cX,.int .i64 rX],.int .i64 kX]) (by simp [results,Tryz.results15,go_sem,c0,c1]) rfl v1
     | false=>
      rw [hf] at HI
      have HV:Hid _:=(HK.out 4 (ldK_5 b l hok (Int.not_lt.2 HLB.out) (by rw [HP.out]) (by rw [HP.out]) (by
       rw [HP.out]
       rintro ⟨⟨s1,A⟩,⟨t1,C⟩,q,q1,q2⟩
       dsimp only at q q1 q2
       subst q1 q2
       rw [(isF_iff S).2 ⟨A,C,q⟩] at hf
       cases hf)) (by decide)).out
      clear HN HP HK HsS HaS hf
      go_wp2_with fail
      refine Calls.mono HI.out ?_
      rintro e wq ⟨rfl,hwq⟩
      have hwq:=hwq.symm
      subst hwq
      clear HI
      go_wp2_with fail
      obtain ⟨v2,v1⟩:=HV.out _ rfl
      have c0:=v2.cell 0
      have c1:=v2.cell 1
      exact bodyPost_ret (v:=.tuple #[.agg #[.slice none 0 0,.int .i64 0],.int .i64 4]) (by simp [results,Tryz.results15,go_sem,c0,c1]) rfl v1
    ·have hV':((V:Int)==2)=false:=by simp;omega
     have hV'':((V:Int) != 2)=true:=by simp;omega
     have HV:Hid _:=(HK.out 7 (ldK_4 b l hok (Int.not_lt.2 HLB.out) (by rw [HP.out]) (by rw [HP.out];exact hV)) (by decide)).out
     clear HN HP HK HsS HaS hV
     go_wp2_with fail
     obtain ⟨v2,v1⟩:=HV.out _ rfl
     have c0:=v2.cell 0
     have c1:=v2.cell 1
     exact bodyPost_ret (v:=.tuple #[.agg #[.slice none 0 0,.int .i64 0],.int .i64 7]) (by simp [results,Tryz.results15,go_sem,c0,c1]) rfl v1
   ·have hE':((E:Int)==0)=false:=by simp;omega
    have hE'':((E:Int) != 0)=true:=by simp;omega
    have HV:Hid _:=(HK.out E (by rw [ldK_3 b l hok (Int.not_lt.2 HLB.out) (by rw [HP.out];exact hE),HP.out]) (by omega)).out
    clear HN HP HK HsS HaS hE
    go_wp2_with fail
    obtain ⟨v2,v1⟩:=HV.out _ rfl
    have c0:=v2.cell 0
    have c1:=v2.cell 1
    exact bodyPost_ret (v:=.tuple #[.agg #[.slice none 0 0,.int .i64 0],.int .i64 (E:Int)]) (by simp [results,Tryz.results15,go_sem,c0,c1]) rfl v1
end Go.Proofs.YtcgjgjjegnofeaaGreatDoor
namespace Go.Proofs.YtcgjgjjegnofeaaGreatDoor
open Go.RowKit
set_option maxRecDepth 10000 in
theorem wide_any (w:World):Calls Tryz.prog 21 #[] w fun e w'=>e=.returned (.agg #[.int .i64 16777216,.int .i64 16777216,.int .i64 16777216,.int .i64 16777216,.int .i64 16777216])∧Below w.heap.size w w':=by
 have HA:Hid (∀o:Obj,o=.cells #[.int .i64 16777216,.int .i64 16777216,.int .i64 16777216,.int .i64 16777216,.int .i64 16777216] 26→AtN 26 (w.alloc o) w.heap.size #[.int .i64 16777216,.int .i64 16777216,.int .i64 16777216,.int .i64 16777216,.int .i64 16777216]∧Below w.heap.size w (w.alloc o)):=by
  rintro _ rfl
  exact ⟨AtN.new w 26 _,(Below.refl w.heap.size w).alloc (Nat.le_refl _) _⟩
 go_enter Tryz.func21,Tryz.ntmps21
 go_wp2_with fail
 obtain ⟨h1,h2⟩:=HA.out _ rfl
 have c0:=h1.cell 0
 have c1:=h1.cell 1
 have c2:=h1.cell 2
 have c3:=h1.cell 3
 have c4:=h1.cell 4
 exact bodyPost_ret (v:=.agg #[.int .i64 16777216,.int .i64 16777216,.int .i64 16777216,.int .i64 16777216,.int .i64 16777216]) (by simp [results,Tryz.results21,go_sem,c0,c1,c2,c3,c4]) rfl ⟨rfl,h2⟩
theorem wL_rg:∀i,i<5→-9223372036854775808≤(lmL wL).getD i 0∧(lmL wL).getD i 0≤9223372036854775807:=fun i hi=>by
 rcases five_cases hi with rfl|rfl|rfl|rfl|rfl <;> decide
theorem few_q {b A C:ByteArray} {l:Lm} (hb:b.size≤3000) (h:ldK b l=(0,A,C)):A.size≤1000000∧C.size≤4000000∧∀L,pGet6 A 16777216 l.x=(0,L)→Qn C L l:=by
 obtain ⟨_,h1,h2⟩:=file_of (b:=b) (l:=l) (by rw [h])
 rw [h] at h1 h2
 dsimp only at h1 h2
 exact ⟨by omega,by omega,fun L hL=>qn_small hL (by omega) (by omega)⟩
theorem aF_10:((aF.extract 0 10).toList==[68,73,79,82,2,1,3,1,1,97])=true:=by
 have h:(aF.extract 0 10)=⟨#[68,73,79,82,2,1,3,1,1,97]⟩:=by
  refine ba_eq ?_
  rw [Lib.extract_data,aF_list]
  rfl
 rw [h]
 decide +kernel
theorem aF_21:((aF.extract 14 21).toList==[2,5,1,4,2,0,0])=true:=by
 have h:(aF.extract 14 21)=⟨#[2,5,1,4,2,0,0]⟩:=by
  refine ba_eq ?_
  rw [Lib.extract_data,aF_list]
  have h4:=four_length (crc aA.data.toList)
  generalize four (crc aA.data.toList)=q at *
  match q,h4 with
  | [q0,q1,q2,q3],_=>rfl
 rw [h]
 decide +kernel
set_option maxRecDepth 10000 in
set_option maxHeartbeats 2000000 in
theorem awake_any (w:World) (ht:Tabs12 w) :
  Calls Tryz.prog 10 #[] w fun e w'=>e=.returned (.bool true)∧Below w.heap.size w w':=by
 have HA:Hid (∀o1 o2 o3 o4:Obj,o1=.cells #[.int .i64 1] 2→o2=.cells #[.string aT] 9→o3=.cells #[.int .i64 4,.slice (some ⟨w.heap.size,0,none⟩) 1 1,.slice (some ⟨w.heap.size+1,0,none⟩) 1 1,.slice none 0 0] 62→o4=.cells #[.slice (some ⟨w.heap.size+1+1,0,none⟩) 1 1,.int .i64 0] 24→Aw w ((((w.alloc o1).alloc o2).alloc o3).alloc o4)):=by
  rintro _ _ _ _ rfl rfl rfl rfl
  exact ⟨(((AtN.new w 2 _).alloc _).alloc _).alloc _,((mk_at (AtN.new (w.alloc _) 9 _) (show _=w.heap.size+1 by simp)).alloc _).alloc _,(mk_at (AtN.new ((w.alloc _).alloc _) 62 _) (show _=w.heap.size+1+1 by simp)).alloc _,mk_at (AtN.new (((w.alloc _).alloc _).alloc _) 24 _) (show _=w.heap.size+1+1+1 by simp),((((Below.refl w.heap.size w).alloc (Nat.le_refl _) _).alloc (by simp) _).alloc (by simp;omega) _).alloc (by simp;omega) _⟩
 have HSv:Hid (∀W,Aw w W→Calls Tryz.prog 12 #[.agg #[.slice (some ⟨w.heap.size+1+1,0,none⟩) 1 1,.int .i64 0],.agg #[.int .i64 16777216,.int .i64 16777216,.int .i64 16777216,.int .i64 16777216,.int .i64 16777216]] W fun e w'=>e=.returned (.tuple #[.string aF,.int .i64 0])∧Below W.heap.size W w'):=fun W hW=>by
  refine Calls.mono (pfsave_any (aX w.heap.size) (some ⟨w.heap.size+1+1,0,none⟩) 1 0 wL W hW.sc (aX_small _) (aX_fn _) (ht.on hW.bel) (fun _=>by rw [aX_cA,aX_cC];decide)) ?_
  rintro e w' ⟨B,k,rfl,hs,hb⟩
  obtain ⟨rfl,rfl⟩:=(aF_save w.heap.size).uniq hs
  exact ⟨rfl,hb⟩
 have HLd:Hid (∀W,Below w.heap.size w W→Calls Tryz.prog 15 #[.string aF,.agg #[.int .i64 16777216,.int .i64 16777216,.int .i64 16777216,.int .i64 16777216,.int .i64 16777216]] W fun e w'=>∃(X:List Nx) (a:Option Addr) (c:Nat),e=.returned (.tuple #[.agg #[.slice a X.length c,.int .i64 0],.int .i64 0])∧X.map Nx.nd=(aX w.heap.size).map Nx.nd∧ScAt w' a X∧Small X∧Below W.heap.size W w'):=fun W hW=>by
  refine Calls.mono (pfload_any aF wL W (ht.on hW) (by rw [aF_size];decide) (fun A C q=>few_q (by rw [aF_size];decide) q) wL_rg) ?_
  rintro e w' ⟨X,a,c,r,k,rfl,hl,hs,hm,_,hb⟩
  obtain ⟨h1,rfl,rfl⟩:=(aF_load w.heap.size).uniq hl
  exact ⟨X,a,c,rfl,h1,hs w' (Fr.refl _ _),hm,hb⟩
 have HNo:Hid (∀W,Below w.heap.size w W→Calls Tryz.prog 15 #[.string ⟨#[68,73,79,82,3]⟩,.agg #[.int .i64 16777216,.int .i64 16777216,.int .i64 16777216,.int .i64 16777216,.int .i64 16777216]] W fun e w'=>∃(X:List Nx) (a:Option Addr) (c:Nat),e=.returned (.tuple #[.agg #[.slice a X.length c,.int .i64 0],.int .i64 7])∧Below W.heap.size W w'):=fun W hW=>by
  refine Calls.mono (pfload_any ⟨#[68,73,79,82,3]⟩ wL W (ht.on hW) (by decide) (fun A C q=>few_q (by decide) q) wL_rg) ?_
  rintro e w' ⟨X,a,c,r,k,rfl,hl,_,_,_,hb⟩
  obtain ⟨_,rfl,rfl⟩:=aF_no.uniq hl
  exact ⟨X,a,c,rfl,hb⟩
 clear ht
 go_enter Tryz.func10,Tryz.ntmps10
 go_wp2_with fail
 have h0:Aw w ((((w.alloc (.cells #[.int .i64 1] 2)).alloc (.cells #[.string ⟨#[97]⟩] 9)).alloc (.cells #[.int .i64 4,.slice (some ⟨w.heap.size,0,none⟩) 1 1,.slice (some ⟨w.heap.size+1,0,none⟩) 1 1,.slice none 0 0] 62)).alloc (.cells #[.slice (some ⟨w.heap.size+1+1,0,none⟩) 1 1,.int .i64 0] 24)):=HA.out _ _ _ _ rfl rfl rfl rfl
 generalize ((((w.alloc (.cells #[.int .i64 1] 2)).alloc (.cells #[.string ⟨#[97]⟩] 9)).alloc (.cells #[.int .i64 4,.slice (some ⟨w.heap.size,0,none⟩) 1 1,.slice (some ⟨w.heap.size+1,0,none⟩) 1 1,.slice none 0 0] 62)).alloc (.cells #[.slice (some ⟨w.heap.size+1+1,0,none⟩) 1 1,.int .i64 0] 24))=w0 at *
 have H0:Hid (Aw w w0):=h0
 have HD:Hid (Aw w w0.drew):=h0.more (bel_drew w0)
 have K0:w0.cell? ⟨w.heap.size+1+1+1,0,none⟩=some (.slice (some ⟨w.heap.size+1+1,0,none⟩) 1 1)∧w0.cell? ⟨w.heap.size+1+1+1,1,none⟩=some (.int .i64 0):=⟨h0.s.cell 0,h0.s.cell 1⟩
 have Kd:w0.drew.cell? ⟨w.heap.size+1+1+1,0,none⟩=some (.slice (some ⟨w.heap.size+1+1,0,none⟩) 1 1)∧w0.drew.cell? ⟨w.heap.size+1+1+1,1,none⟩=some (.int .i64 0):=⟨HD.out.s.cell 0,HD.out.s.cell 1⟩
 clear HA h0
 go_region_held3 (fun W=>W.cell? ⟨w.heap.size+1+1+1,0,none⟩=some (.slice (some ⟨w.heap.size+1+1,0,none⟩) 1 1)∧W.cell? ⟨w.heap.size+1+1+1,1,none⟩=some (.int .i64 0)) (first|exact K2|exact K1|exact Kd|exact K0)
  ((first|(go_at_call 12;refine Calls.mono (HSv.out _ H1.out) ?_;rintro e w2 ⟨rfl,hb2⟩;have H2:Hid (Aw w w2):=H1.out.more hb2;have K2:w2.cell? ⟨w.heap.size+1+1+1,0,none⟩=some (.slice (some ⟨w.heap.size+1+1,0,none⟩) 1 1)∧w2.cell? ⟨w.heap.size+1+1+1,1,none⟩=some (.int .i64 0):=⟨H2.out.s.cell 0,H2.out.s.cell 1⟩)|(go_at_call 21;refine Calls.mono (wide_any _) ?_;rintro e w1 ⟨rfl,hb1⟩;have H1:Hid (Aw w w1):=HD.out.more hb1;have K1:w1.cell? ⟨w.heap.size+1+1+1,0,none⟩=some (.slice (some ⟨w.heap.size+1+1,0,none⟩) 1 1)∧w1.cell? ⟨w.heap.size+1+1+1,1,none⟩=some (.int .i64 0):=⟨H1.out.s.cell 0,H1.out.s.cell 1⟩)))
 clear H0 HD H1 K0 Kd K1 K2 hb1 hb2 HSv
 go_wp2_with fail
 refine Calls.mono (wide_any _) ?_
 rintro e w3 ⟨rfl,hb3⟩
 have H3:Hid (Aw w w3):=H2.out.more hb3
 have HLc:Hid _:=HLd.out w3 H3.out.bel
 clear H2 hb3 HLd
 go_wp2_with fail
 refine Calls.mono HLc.out ?_
 rintro e w4 ⟨X,a,c,rfl,hX,hsc,hsm,hb4⟩
 have hb5:Below w4.heap.size w4 (w4.alloc (.cells #[.slice a X.length c,.int .i64 0] 24)):=(Below.refl w4.heap.size w4).alloc (Nat.le_refl _) _
 have HM5:Hid (AtN 24 (w4.alloc (.cells #[.slice a X.length c,.int .i64 0] 24)) w4.heap.size #[.slice a X.length c,.int .i64 0]):=AtN.new w4 24 _
 have H5:Hid (Aw w (w4.alloc (.cells #[.slice a X.length c,.int .i64 0] 24))):=(H3.out.more hb4).more hb5
 have HS5:Hid (ScAt (w4.alloc (.cells #[.slice a X.length c,.int .i64 0] 24)) a X∧Small X∧X.map Nx.nd=(aX w.heap.size).map Nx.nd):=⟨hsc.belowB hb5,hsm,hX⟩
 clear HLc H3 hb4 hb5 hX hsc hsm
 go_wp2_with fail
 generalize (w4.alloc (.cells #[.slice a X.length c,.int .i64 0] 24))=w5 at *
 refine Calls.mono (wide_any _) ?_
 rintro e w6 ⟨rfl,hb6⟩
 have H6:Hid (Aw w w6):=H5.out.more hb6
 have HM6:Hid (AtN 24 w6 w4.heap.size #[.slice a X.length c,.int .i64 0]):=HM5.out.belowAll hb6
 have HS6:Hid (ScAt w6 a X∧Small X∧X.map Nx.nd=(aX w.heap.size).map Nx.nd):=⟨HS5.out.1.belowB hb6,HS5.out.2⟩
 have HNc:Hid _:=HNo.out w6 H6.out.bel
 clear H5 HM5 HS5 hb6 HNo
 go_wp2_with fail
 refine Calls.mono HNc.out ?_
 rintro e w7 ⟨X2,a2,c2,rfl,hb7⟩
 have HB8:Hid (Below w6.heap.size w6 (w7.alloc (.cells #[.slice a2 X2.length c2,.int .i64 0] 24))):=hb7.alloc hb7.size _
 have H8:Hid (Aw w (w7.alloc (.cells #[.slice a2 X2.length c2,.int .i64 0] 24))):=H6.out.more HB8.out
 have HM8:Hid (AtN 24 (w7.alloc (.cells #[.slice a2 X2.length c2,.int .i64 0] 24)) w4.heap.size #[.slice a X.length c,.int .i64 0]):=HM6.out.belowAll HB8.out
 have HS8:Hid (ScAt (w7.alloc (.cells #[.slice a2 X2.length c2,.int .i64 0] 24)) a X∧Small X∧X.map Nx.nd=(aX w.heap.size).map Nx.nd):=⟨HS6.out.1.belowB HB8.out,HS6.out.2⟩
 clear HNc H6 HM6 HS6 hb7 HB8
 have m0:(w7.alloc (.cells #[.slice a2 X2.length c2,.int .i64 0] 24)).cell? ⟨w4.heap.size,0,none⟩=some (.slice a X.length c):=HM8.out.cell 0
 have m1:(w7.alloc (.cells #[.slice a2 X2.length c2,.int .i64 0] 24)).cell? ⟨w4.heap.size,1,none⟩=some (.int .i64 0):=HM8.out.cell 1
 have s0:(w7.alloc (.cells #[.slice a2 X2.length c2,.int .i64 0] 24)).cell? ⟨w.heap.size+1+1+1,0,none⟩=some (.slice (some ⟨w.heap.size+1+1,0,none⟩) 1 1):=H8.out.s.cell 0
 have s1:(w7.alloc (.cells #[.slice a2 X2.length c2,.int .i64 0] 24)).cell? ⟨w.heap.size+1+1+1,1,none⟩=some (.int .i64 0):=H8.out.s.cell 1
 have q1:=aF_10
 have q2:=aF_21
 have qz:=aF_size
 have HSm:Hid _:=ssame_yes (aX w.heap.size) X (some ⟨w.heap.size+1+1,0,none⟩) a 1 c 0 (w7.alloc (.cells #[.slice a2 X2.length c2,.int .i64 0] 24)) H8.out.sc HS8.out.1 (aX_small _) HS8.out.2.2
 go_wp2_with fail
 generalize (w7.alloc (.cells #[.slice a2 X2.length c2,.int .i64 0] 24))=w8 at *
 refine Calls.mono HSm.out ?_
 rintro e w9 ⟨rfl,hb9⟩
 have HB9:Hid (Below w.heap.size w w9):=(H8.out.more hb9).bel
 clear HSm hb9
 go_wp2_with fail
 go_ret
 exact ⟨rfl,HB9.out⟩
end Go.Proofs.YtcgjgjjegnofeaaGreatDoor
namespace Go.Proofs.YtcgjgjjegnofeaaGreatDoor
open Go.RowKit Go.Maps Go.WideMaps Go.Sort
structure Lg (w W:World) (l:Lm):Prop where
 a:AtN 26 W w.heap.size #[.int .i64 l.b,.int .i64 l.n,.int .i64 l.e,.int .i64 l.d,.int .i64 l.x]
 bel:Below w.heap.size w W
structure L5 (w W:World) (a:Option Addr) (X:List Nx) (c:Nat) (r:Int) (l:Lm):Prop where
 s:AtN 24 W w.heap.size #[.slice a X.length c,.int .i64 r]
 l:AtN 26 W (w.heap.size+1) #[.int .i64 l.b,.int .i64 l.n,.int .i64 l.e,.int .i64 l.d,.int .i64 l.x]
 bel:Below w.heap.size w W
section
variable {w W W':World} {a:Option Addr} {X:List Nx} {c:Nat} {r q:Int} {l:Lm}
theorem Lg.more (h:Lg w W l) (hb:Below W.heap.size W W'):Lg w W' l:=⟨h.a.belowAll hb,h.bel.trans (hb.mono h.bel.size)⟩
theorem Lg.start (w:World) (l:Lm):Lg w (w.alloc (.cells #[.int .i64 l.b,.int .i64 l.n,.int .i64 l.e,.int .i64 l.d,.int .i64 l.x] 26)) l:=⟨AtN.new w 26 _,(Below.refl w.heap.size w).alloc (Nat.le_refl _) _⟩
theorem Lg.all (h:Lg w W l):W.cell? ⟨w.heap.size,0,none⟩=some (.int .i64 l.b)∧W.cell? ⟨w.heap.size,1,none⟩=some (.int .i64 l.n)∧W.cell? ⟨w.heap.size,2,none⟩=some (.int .i64 l.e)∧W.cell? ⟨w.heap.size,3,none⟩=some (.int .i64 l.d)∧W.cell? ⟨w.heap.size,4,none⟩=some (.int .i64 l.x):=
 ⟨h.a.cell 0,h.a.cell 1,h.a.cell 2,h.a.cell 3,h.a.cell 4⟩
theorem L5.more (h:L5 w W a X c r l) (hb:Below W.heap.size W W'):L5 w W' a X c r l:=⟨h.s.belowAll hb,h.l.belowAll hb,h.bel.trans (hb.mono h.bel.size)⟩
theorem L5.start (w:World) (a:Option Addr) (X:List Nx) (c:Nat) (r:Int) (l:Lm):L5 w ((w.alloc (.cells #[.slice a X.length c,.int .i64 r] 24)).alloc (.cells #[.int .i64 l.b,.int .i64 l.n,.int .i64 l.e,.int .i64 l.d,.int .i64 l.x] 26)) a X c r l:=
 ⟨(AtN.new w 24 _).alloc _,mk_at (AtN.new (w.alloc _) 26 _) (by simp),((Below.refl w.heap.size w).alloc (Nat.le_refl _) _).alloc (by simp) _⟩
theorem L5.sc (h:L5 w W a X c r l) (hs:IsSc w a X q):ScAt W a X:=hs.sc.belowB h.bel
theorem L5.all (h:L5 w W a X c r l):W.cell? ⟨w.heap.size,0,none⟩=some (.slice a X.length c)∧W.cell? ⟨w.heap.size,1,none⟩=some (.int .i64 r)∧W.cell? ⟨w.heap.size+1,0,none⟩=some (.int .i64 l.b)∧W.cell? ⟨w.heap.size+1,1,none⟩=some (.int .i64 l.n)∧W.cell? ⟨w.heap.size+1,2,none⟩=some (.int .i64 l.e)∧W.cell? ⟨w.heap.size+1,3,none⟩=some (.int .i64 l.d)∧W.cell? ⟨w.heap.size+1,4,none⟩=some (.int .i64 l.x):=
 ⟨h.s.cell 0,h.s.cell 1,h.l.cell 0,h.l.cell 1,h.l.cell 2,h.l.cell 3,h.l.cell 4⟩
end
section
variable {X Y:List Nx} {r:Int} {l:Lm} {d:Nat}
theorem same_tyG:∀(X Y:List Nx) (k:Nat),Y.map Nx.nd=X.map Nx.nd→tyG Y k=tyG X k
 | [],[],_,_=>rfl
 | x :: t,y :: u,k,h=>by
  simp only [List.map_cons,List.cons.injEq] at h
  unfold tyG
  rw [h.1,same_tyG t u (k+1) h.2]
 | [],_ :: _,_,h=>by simp at h
 | _ :: _,[],_,h=>by simp at h
theorem same_tyE (h:Y.map Nx.nd=X.map Nx.nd):tyE Y=tyE X:=congrArg Prod.fst (same_tyG X Y 0 h)
theorem same_tyZ (h:Y.map Nx.nd=X.map Nx.nd):tyZ Y=tyZ X:=congrArg Prod.snd (same_tyG X Y 0 h)
theorem same_edg (h:Y.map Nx.nd=X.map Nx.nd):edg Y=edg X:=by
 have e:∀Z:List Nx,edg Z=((Z.map Nx.nd).map fun N=>N.kids.length).sum:=fun Z=>by simp [edg,Function.comp_def]
 rw [e,e,h]
theorem same_allT (h:Y.map Nx.nd=X.map Nx.nd):allT Y=allT X:=by
 have e:∀Z:List Nx,allT Z=(Z.map Nx.nd).flatMap fun N=>N.texts:=fun Z=>by simp [allT,List.flatMap_map]
 rw [e,e,h]
theorem same_txb (h:Y.map Nx.nd=X.map Nx.nd):txb Y=txb X:=by
 unfold txb
 rw [same_allT h]
theorem same_meL (h:Y.map Nx.nd=X.map Nx.nd):meL Y d=meL X d:=by
 unfold meL
 rw [same_len h,same_edg h,same_txb h]
theorem same_fn (h:Y.map Nx.nd=X.map Nx.nd) (hX:FnX X):FnX Y:=fun i hi=>by
 rw [same_nd h]
 exact hX i (by rw [← same_len h];exact hi)
theorem same_va (h:Y.map Nx.nd=X.map Nx.nd) {e z:Int} (hv:VaIs Y r l d e z):VaIs X r l d e z:=by
 unfold VaIs at hv ⊢
 rw [same_tyE h,same_tyZ h,same_meL h] at hv
 rcases hv with q|q|⟨q1,q2,n,y,q3,q4⟩
 ·exact .inl q
 ·exact .inr (.inl q)
 ·exact .inr (.inr ⟨q1,q2,n,y,same_check h q3,q4⟩)
theorem SvIs.same {B:ByteArray} {e:Int} (h:Y.map Nx.nd=X.map Nx.nd) (hs:SvIs Y r l B e):SvIs X r l B e:=by
 obtain ⟨d,n,z,h1,h2,h3⟩:=hs
 refine ⟨d,n,z,same_depth h h1,same_va h h2,?_⟩
 rcases h3 with q|⟨h0,q⟩
 ·exact .inl q
 ·subst h0
  have hW:=(va_whole (same_va h h2)).2.1
  rw [show cF Y r=cF X r from by unfold cF cA cC;rw [same_cX h hW.2]] at q
  exact .inr ⟨rfl,q⟩
theorem can_sz (hS:Small X) (hf:X.length≤60) (hF:FnX X) (hW:Whole X r):(cA X r).size≤4000000∧(cC X r).size≤4000000:=by
 have h:=(bk_of hS hf hF hW (bare_nd (cX X r)) (pu_can hW (bare_nd (cX X r)))).2.size
 exact ⟨by omega,h.2⟩
end
end Go.Proofs.YtcgjgjjegnofeaaGreatDoor
namespace Go.Proofs.YtcgjgjjegnofeaaGreatDoor
open Go.RowKit
def Cr (u:World):World→Prop:=fun w'=>∃p:Regrown,w'=Go.Sort.grow (redrawn u p.d) p.os
theorem Cr.below {u W:World} (h:Cr u W):Below u.heap.size u W:=by
 obtain ⟨⟨d,os⟩,rfl⟩:=h
 exact below_regrown u d os
section
variable {P:Program} {ops ops':Array Oper} {aFin:Act}
theorem eval_end (C:World→Prop) (d:Tmp):∀(fuel:Nat) (listed:Array Bool) (a:Act),wpAnyQ P .any ops' C (fun a'=>a'=aFin) fuel listed a→
  (∀(j:Nat) (o:Oper),ops'[j]? = some o→listed.getD j true=false→o.dst≠some d)→a.eval (.tmp d)=aFin.eval (.tmp d):=by
 intro fuel
 induction fuel with
 | zero=>intro listed a h _;rw [h.2]
 | succ fuel ih=>
  intro listed a h hd
  cases hr:Region.ready .any ops' listed with
  | nil=>rw [h.1 hr]
  | cons i r=>
   have hi:i ∈ Region.ready .any ops' listed:=by rw [hr];simp
   have h1:=h.2 i hi
   obtain ⟨hu,o,ho,_⟩:=mem_ready.1 hi
   obtain ⟨v,_,h3⟩:=yieldsIn_of_qOp ho h1
   have hne:=hd i o ho hu
   have h4:=ih _ _ h3 (fun j oj hj hl=>by
    by_cases hij:i=j
    ·subst hij
     rw [ho] at hj
     cases hj
     exact hne
    ·rw [getD_set_ne true hij] at hl
     exact hd j oj hj hl)
   rw [← h4]
   exact (Act.eval_put (fun d' hd' e=>hne (by cases e;exact hd'))).symm
theorem put_put (a:Act) (d:Tmp) (v u:Value):(a.put (some d) v).put (some d) u=a.put (some d) u:=by
 simp [Act.put]
theorem put_size (a:Act) (d:Option Tmp) (v:Value):(a.put d v).tmps.size=a.tmps.size:=by
 cases d <;> simp [Act.put]
theorem put_eval (a:Act) (d:Tmp) (v:Value) (h:d<a.tmps.size):(a.put (some d) v).eval (.tmp d)=v:=by
 simp [Act.put,Act.eval,h]
theorem put_self (a:Act) (d:Tmp) (h:d<a.tmps.size):a.put (some d) (a.eval (.tmp d))=a:=by
 have e:a.tmps.setIfInBounds d a.tmps[d]=a.tmps:=by
  apply Array.ext
  ·simp
  ·intro i h1 h2
   rw [Array.getElem_setIfInBounds]
   split
   ·rename_i hi
    subst hi
    rfl
   ·rfl
 simp [Act.put,Act.eval,h,e]
structure Mk (P:Program) (ops ops':Array Oper) (aFin:Act) (i1 i2:Nat) (o1 o2 o1' o2':Oper) (d1 d2 src:Tmp) (x y:Value) (e:TypeId):Prop where
 h1:ops[i1]? = some o1
 h2:ops[i2]? = some o2
 h1':ops'[i1]? = some o1'
 h2':ops'[i2]? = some o2'
 h12:i1≠i2
 same:∀j,j≠i1→j≠i2→ops'[j]? = ops[j]?
 ready:∀listed,Region.ready .any ops listed=Region.ready .any ops' listed
 guards:∀(j:Nat) (o:Oper),ops[j]? = some o→o.guard=none
 guards':∀(j:Nat) (o:Oper),ops'[j]? = some o→o.guard=none
 srcNe:src≠d1
 noSel:∀(j:Nat) (o:Oper) cs b,ops[j]? = some o→o.op≠.select cs b
 dsts:∀(j k:Nat) (oj ok:Oper) (d:Tmp),ops'[j]? = some oj→ops'[k]? = some ok→oj.dst=some d→ok.dst=some d→j=k
 dst1:o1.dst=some d1
 dst1':o1'.dst=some d1
 dst2:o2.dst=some d2
 dst2':o2'.dst=some d2
 looks:∀(j:Nat) (o:Oper),ops[j]? = some o→j≠i2→d1 ∉ o.looksAt ops
 after:∃f ∈ o2.after,Region.binds .any f=true∧f.on=i1
 move:∀(a:Act) (W:World),(execOp a.eval o1').run P W=.ok (.value (a.eval (.tmp src))) W
 make:∀(a:Act) (W:World),a.eval (.tmp src)=x→(execOp a.eval o1).run P W=.ok (.value (.slice (some ⟨W.heap.size,0,none⟩) 1 1)) (W.alloc (.cells #[x] e))
 read:∀(a:Act) (W:World) (g:Nat),a.eval (.tmp d1)=.slice (some ⟨g,0,none⟩) 1 1→W.cell? ⟨g,0,none⟩=some x→(execOp a.eval o2).run P W=.ok (.value y) W
 has:∀(j:Nat) (o:Oper),ops'[j]? = some o→∃d,o.dst=some d∧d<aFin.tmps.size
 endX:aFin.eval (.tmp d1)=x
 endY:aFin.eval (.tmp d2)=y
variable {i1 i2:Nat} {o1 o2 o1' o2':Oper} {d1 d2 src:Tmp} {x y:Value} {e:TypeId}
theorem Mk.next (M:Mk P ops ops' aFin i1 i2 o1 o2 o1' o2' d1 d2 src x y e) {w:World} {fuel:Nat} {listed:Array Bool} {a':Act} (hsz:a'.tmps.size=aFin.tmps.size)
  (H:∀u,Below w.heap.size w u→wpAnyQ P .any ops' (Cr u) (fun a=>a=aFin) (fuel+1) listed a') {i:Nat} {o:Oper} (hi:i ∈ Region.ready .any ops' listed) (ho:ops'[i]? = some o) :
  ∃d,o.dst=some d∧d<a'.tmps.size∧(∀u,Below w.heap.size w u→YieldsIn P ops' (Cr u) o (aFin.eval (.tmp d)) a'∧wpAnyQ P .any ops' (Cr u) (fun a=>a=aFin) fuel (listed.setIfInBounds i true) (a'.put (some d) (aFin.eval (.tmp d)))):=by
 obtain ⟨d,hd,hdl⟩:=M.has i o ho
 rw [← hsz] at hdl
 refine ⟨d,hd,hdl,fun u hu=>?_⟩
 obtain ⟨v,hy,hn⟩:=yieldsIn_of_qOp ho ((H u hu).2 i hi)
 rw [hd] at hn
 have h:=eval_end (Cr u) d fuel _ _ hn (fun j oj hj hl he=>by
  have hji:=M.dsts j i oj o d hj ho he hd
  subst hji
  have hb:j<listed.size:=by
   rcases Nat.lt_or_ge j listed.size with h'|h'
   ·exact h'
   ·have:=(mem_ready.1 hi).1
    simp [Array.getElem?_eq_none h'] at this
  simp [hb] at hl)
 rw [put_eval _ _ _ hdl] at h
 rw [← h]
 exact ⟨hy,hn⟩
theorem wanted_plain {o:Oper} (h:o.guard=none) (f:Nat→Option Bool):Region.wanted o f=true:=by simp [Region.wanted,h]
theorem Mk.any (M:Mk P ops ops' aFin i1 i2 o1 o2 o1' o2' d1 d2 src x y e) {Q:Exit→Act→World→Prop} {w:World} (hQ:∀V W,Below w.heap.size w W→Q .normal (aFin.put (some d1) V) W) :
  ∀(fuel:Nat) (listed:Array Bool) (a':Act) (V:Value) (W:World),a'.tmps.size=aFin.tmps.size→(∀u,Below w.heap.size w u→wpAnyQ P .any ops' (Cr u) (fun a=>a=aFin) fuel listed a')→Below w.heap.size w W→
   (listed.getD i1 false=true→∃g,V=.slice (some ⟨g,0,none⟩) 1 1∧W.cell? ⟨g,0,none⟩=some x)→wpAny P .any ops Q fuel listed (a'.put (some d1) V) W:=by
 intro fuel
 induction fuel with
 | zero=>
  intro listed a' V W hsz H hW _
  have h:=H w (Below.refl _ _)
  exact ⟨by rw [M.ready];exact h.1,by rw [h.2];exact hQ V W hW⟩
 | succ fuel ih=>
  intro listed a' V W hsz H hW hV
  refine ⟨fun hr=>?_,fun i hi=>?_⟩
  ·rw [M.ready] at hr
   rw [(H w (Below.refl _ _)).1 hr]
   exact hQ V W hW
  ·have hi':=hi
   rw [M.ready] at hi'
   obtain ⟨_,o,ho,hall⟩:=mem_ready.1 hi
   obtain ⟨_,o',ho',_⟩:=mem_ready.1 hi'
   have hg:=M.guards i o ho
   obtain ⟨d,hd,hdl,hN⟩:=M.next hsz H hi' ho'
   have hd1l:d1<a'.tmps.size:=by
    obtain ⟨d',hd',hl⟩:=M.has i1 o1' M.h1'
    rw [M.dst1'] at hd'
    cases hd'
    rw [hsz]
    exact hl
   have hsz':(a'.put (some d) (aFin.eval (.tmp d))).tmps.size=aFin.tmps.size:=by rw [put_size];exact hsz
   have hN2:=fun u hu=>(hN u hu).2
   unfold wpOp
   rw [ho]
   dsimp only
   rw [wanted_plain hg,if_pos rfl]
   left
   unfold Oper.wp
   by_cases h1:i=i1
   ·subst h1
    rw [M.h1] at ho
    cases ho
    rw [M.h1'] at ho'
    cases ho'
    rw [M.dst1'] at hd
    cases hd
    have hb:a'.eval (.tmp src)=x:=by
     rcases (hN w (Below.refl _ _)).1 with ⟨_,hy⟩|⟨hw,_⟩
     ·have h3:=hy w (regrown_of_below (Below.refl _ _))
      unfold Oper.quietAt at h3
      rw [M.move] at h3
      rw [← M.endX]
      exact h3.2
     ·rw [wanted_plain (M.guards' _ _ M.h1')] at hw
      cases hw
    have hb2:(a'.put (some d1) V).eval (.tmp src)=x:=by
     rw [Act.eval_put (fun d' hd' he=>by cases hd';cases he;exact M.srcNe rfl)]
     exact hb
    rw [M.make _ W hb2]
    show wpAny P .any ops Q fuel _ ((a'.put (some d1) V).put o1.dst _) _
    rw [M.dst1,put_put,← put_put a' d1 (aFin.eval (.tmp d1))]
    refine ih _ _ _ _ hsz' hN2 (hW.alloc hW.size _) (fun _=>⟨W.heap.size,rfl,?_⟩)
    have hnb:=heap_alloc_new W (.cells #[x] e)
    rw [cell_of_row _ W.heap.size 0 _ e (0,0) hnb]
    rfl
   ·have hdne:∀(j:Nat) (oj:Oper),ops'[j]? = some oj→oj.dst=some d→j≠i1→d1≠d:=fun j oj hj hjd hne he=>by
     subst he
     exact hne (M.dsts j i1 oj o1' d1 hj M.h1' hjd M.dst1')
    have hd1d:d1≠d:=hdne i o' ho' hd h1
    have hcomm:∀u,(a'.put (some d1) V).put (some d) u=(a'.put (some d) u).put (some d1) V:=fun u=>Act.put_comm a' V u (fun d' hd' he=>by cases hd';cases he;exact hd1d rfl)
    by_cases h2:i=i2
    ·subst h2
     rw [M.h2] at ho
     cases ho
     rw [M.h2'] at ho'
     cases ho'
     rw [M.dst2'] at hd
     cases hd
     obtain ⟨f,hf,hfb,hfo⟩:=M.after
     have hl1:=hall f hf hfb
     rw [hfo] at hl1
     obtain ⟨g,hVg,hcell⟩:=hV hl1
     rw [M.read _ W g (by rw [put_eval _ _ _ hd1l];exact hVg) hcell]
     show wpAny P .any ops Q fuel _ ((a'.put (some d1) V).put o2.dst _) _
     rw [M.dst2,hcomm,← M.endY]
     exact ih _ _ _ _ hsz' hN2 hW (fun _=>⟨g,hVg,hcell⟩)
    ·have hoo:o'=o:=by
      have h3:=M.same i h1 h2
      rw [ho',ho] at h3
      exact Option.some.inj h3
     subst hoo
     have hsel:=fun cs b=>M.noSel i o' cs b ho
     rw [execOp_put (ops:=ops) o' hsel a' (some d1) V (fun d' hd'=>by cases hd';exact M.looks i o' ho h2)]
     rcases (hN W hW).1 with ⟨_,hy⟩|⟨hw,_⟩
     ·have h3:=hy W (regrown_of_below (Below.refl _ _))
      unfold Oper.quietAt at h3
      have hl1:(listed.setIfInBounds i true).getD i1 false=true→listed.getD i1 false=true:=fun hl=>by
       rw [getD_set_ne false h1] at hl
       exact hl
      generalize (execOp a'.eval o').run P W=r at *
      cases r with
      | ok n w'=>
       cases n <;> simp only [Oper.quietUpon] at h3 <;> simp only [Oper.upon]
       case value u=>
        obtain ⟨e1,e2⟩:=h3
        rw [e1,e2,hd,hcomm]
        exact ih _ _ _ _ hsz' hN2 hW (fun hl=>hV (hl1 hl))
       case skip=>
        obtain ⟨e1,e2⟩:=h3
        rw [e1,← e2,hd,hcomm]
        exact ih _ _ _ _ hsz' hN2 hW (fun hl=>hV (hl1 hl))
       case enter f args=>
        obtain ⟨e1,hc⟩:=h3
        rw [e1]
        refine hc.mono fun e w'' ⟨he,hw''⟩=>?_
        subst he
        have hb:=Cr.below hw''
        show wpAny P .any ops Q fuel _ ((a'.put (some d1) V).put o'.dst _) _
        rw [hd,hcomm]
        refine ih _ _ _ _ hsz' hN2 (hW.trans (hb.mono hW.size)) (fun hl=>?_)
        obtain ⟨g,hVg,hcell⟩:=hV (hl1 hl)
        exact ⟨g,hVg,by rw [hb.cell (p:=⟨g,0,none⟩) (block_lt_of_cell hcell)];exact hcell⟩
      | halt z w'=>simp only [Oper.quietUpon] at h3
     ·rw [wanted_plain (M.guards' _ _ ho')] at hw
      cases hw
theorem Mk.region (M:Mk P ops ops' aFin i1 i2 o1 o2 o1' o2' d1 d2 src x y e) {id:Nat} {Q:Exit→Act→World→Prop} {a:Act} {w:World} (hm:P.follows .mixedOrders=true) (hB:Region.lexB .any ops'=true) (hs:ops'.size=ops.size) (hsz:a.tmps.size=aFin.tmps.size)
  (hq:∀u,Below w.heap.size w u→wpQuiet P ops' (Cr u) (fun a'=>a'=aFin) ops'.toList a) (hQ:∀V W,Below w.heap.size w W→Q .normal (aFin.put (some d1) V) W):(Code.region id ops true).wp P Q a w:=by
 refine wp_region_any hm ?_
 simp only [Region.lexB,Bool.and_eq_true] at hB
 have hd1l:d1<a.tmps.size:=by
  obtain ⟨d',hd',hl⟩:=M.has i1 o1' M.h1'
  rw [M.dst1'] at hd'
  cases hd'
  rw [hsz]
  exact hl
 have h:=M.any (w:=w) hQ ops.size (Array.replicate ops.size false) a (a.eval (.tmp d1)) w.drew hsz (fun u hu=>?_) (Below.refl _ _).drew (fun hl=>?_)
 ·rw [put_self a d1 hd1l] at h
  exact h
 ·have h3:=wpAnyQ_lex (C:=Cr u) (md:=.any) hB.1 ops'.toList 0 (Array.replicate ops'.size false) a (by simp) (by simpa using hB.2) (hq u hu)
  rw [← hs]
  simpa using h3
 ·have hlt:i1<ops.size:=(Array.getElem?_eq_some_iff.1 M.h1).1
  simp [hlt] at hl
def mkB (l:List Oper) (i1 i2:Nat) (d1 d2 src:Tmp) (size:Nat):Bool:=
 (i1 != i2) && (src != d1) && Region.noSelect l.toArray && l.all (fun o=>o.guard.isNone) && l.all (fun o=>match o.dst with|some d=>decide (d<size)|none=>false) &&
 (List.range l.length).all (fun j=>(List.range l.length).all fun k=>j==k || ((l[j]?.bind (·.dst)) != (l[k]?.bind (·.dst)))) &&
 (List.range l.length).all (fun j=>j==i2 || !((l[j]?.map (fun o=>o.looksAt l.toArray)).getD []).contains d1) &&
 ((l[i2]?.map (fun o=>o.after.any fun f=>Region.binds .any f && f.on==i1)).getD false) && ((l[i1]?.bind (·.dst))==some d1) && ((l[i2]?.bind (·.dst))==some d2)
def mkL (l:List Oper) (i1 i2:Nat) (o1 o2:Oper) (src:Tmp) (y:Value):List Oper:=(l.set i1 { o1 with op:=.move (.tmp src) }).set i2 { o2 with op:=.move (.const y) }
theorem ready_congr {l l':List Oper} (h:∀j:Nat,(l[j]?).map Oper.after=(l'[j]?).map Oper.after) (hs:l.length=l'.length) (listed:Array Bool):Region.ready .any l.toArray listed=Region.ready .any l'.toArray listed:=by
 unfold Region.ready
 simp only [List.size_toArray,hs]
 apply List.filter_congr
 intro j _
 have hj:=h j
 simp only [List.getElem?_toArray]
 cases h1:l[j]? <;> cases h2:l'[j]? <;> simp_all
theorem mkL_at (l:List Oper) (i1 i2:Nat) (o1 o2:Oper) (src:Tmp) (y:Value) (h1:l[i1]? = some o1) (h2:l[i2]? = some o2) (j:Nat) :
  (mkL l i1 i2 o1 o2 src y)[j]? = if j=i2 then some { o2 with op:=.move (.const y) } else if j=i1 then some { o1 with op:=.move (.tmp src) } else l[j]? := by
 unfold mkL
 have l1:i1<l.length:=(List.getElem?_eq_some_iff.1 h1).1
 have l2:i2<l.length:=(List.getElem?_eq_some_iff.1 h2).1
 rw [List.getElem?_set,List.getElem?_set]
 by_cases e2:i2=j
 ·subst e2;simp [l2]
 ·by_cases e1:i1=j
  ·subst e1;simp [e2,Ne.symm e2,l1]
  ·simp [e2,e1,Ne.symm e2,Ne.symm e1]
theorem maker_region {id:Nat} {Q:Exit→Act→World→Prop} {a:Act} {w:World} {l:List Oper} (i1 i2:Nat) (o1 o2:Oper) (d1 d2 src:Tmp) (x y:Value) (e:TypeId) (aFin:Act) (hm:P.follows .mixedOrders=true)
  (hc:mkB l i1 i2 d1 d2 src a.tmps.size=true) (h1:l[i1]? = some o1) (h2:l[i2]? = some o2) (hB:Region.lexB .any (mkL l i1 i2 o1 o2 src y).toArray=true)
  (make:∀(a:Act) (W:World),a.eval (.tmp src)=x→(execOp a.eval o1).run P W=.ok (.value (.slice (some ⟨W.heap.size,0,none⟩) 1 1)) (W.alloc (.cells #[x] e)))
  (read:∀(a:Act) (W:World) (g:Nat),a.eval (.tmp d1)=.slice (some ⟨g,0,none⟩) 1 1→W.cell? ⟨g,0,none⟩=some x→(execOp a.eval o2).run P W=.ok (.value y) W)
  (hq:∀u,Below w.heap.size w u→wpQuiet P (mkL l i1 i2 o1 o2 src y).toArray (Cr u) (fun a'=>a'=aFin) (mkL l i1 i2 o1 o2 src y) a)
  (hsz:a.tmps.size=aFin.tmps.size) (endX:aFin.eval (.tmp d1)=x) (endY:aFin.eval (.tmp d2)=y)
  (hQ:∀V W,Below w.heap.size w W→Q .normal (aFin.put (some d1) V) W):(Code.region id l.toArray true).wp P Q a w:=by
 unfold mkB at hc
 simp only [Bool.and_eq_true] at hc
 obtain ⟨⟨⟨⟨⟨⟨⟨⟨⟨c12,csrc⟩,csel⟩,cg⟩,chas⟩,cdst⟩,clook⟩,caft⟩,cd1⟩,cd2⟩:=hc
 have h12:i1≠i2:=by simpa using c12
 have at':=mkL_at l i1 i2 o1 o2 src y h1 h2
 have hlen:(mkL l i1 i2 o1 o2 src y).length=l.length:=by simp [mkL]
 have hd1:o1.dst=some d1:=by rw [h1] at cd1;simpa using cd1
 have hd2:o2.dst=some d2:=by rw [h2] at cd2;simpa using cd2
 have hdst':∀j:Nat,((mkL l i1 i2 o1 o2 src y)[j]?).bind (·.dst)=(l[j]?).bind (·.dst):=fun j=>by
  rw [at']
  by_cases e2:j=i2
  ·subst e2;simp [h2]
  ·by_cases e1:j=i1
   ·subst e1;simp [e2,h1]
   ·simp [e2,e1]
 have hguard:∀(j:Nat) (o:Oper),l[j]? = some o→o.guard=none:=fun j o ho=>by
  have:=List.all_eq_true.1 cg o (List.mem_of_getElem? ho)
  simpa using this
 have M:Mk P l.toArray (mkL l i1 i2 o1 o2 src y).toArray aFin i1 i2 o1 o2 { o1 with op:=.move (.tmp src) } { o2 with op:=.move (.const y) } d1 d2 src x y e:=by
  refine { h1:=by simpa using h1,h2:=by simpa using h2,h1':=?_,h2':=?_,h12:=h12,same:=?_,ready:=?_,guards:=?_,guards':=?_,srcNe:=by simpa using csrc,noSel:=?_,dsts:=?_,dst1:=hd1,dst1':=hd1,dst2:=hd2,dst2':=hd2,looks:=?_,after:=?_,move:=?_,make:=make,read:=read,has:=?_,endX:=endX,endY:=endY }
  ·rw [List.getElem?_toArray,at'];simp [h12]
  ·rw [List.getElem?_toArray,at'];simp
  ·intro j e1 e2;rw [List.getElem?_toArray,List.getElem?_toArray,at'];simp [e1,e2]
  ·intro listed
   refine ready_congr (fun j=>?_) hlen.symm listed
   rw [at']
   by_cases e2:j=i2
   ·subst e2;simp [h2]
   ·by_cases e1:j=i1
    ·subst e1;simp [e2,h1]
    ·simp [e2,e1]
  ·intro j o ho
   exact hguard j o (by simpa using ho)
  ·intro j o ho
   rw [List.getElem?_toArray,at'] at ho
   by_cases e2:j=i2
   ·subst e2
    simp at ho
    subst ho
    exact hguard j o2 h2
   ·by_cases e1:j=i1
    ·subst e1
     simp [e2] at ho
     subst ho
     exact hguard j o1 h1
    ·simp [e2,e1] at ho
     exact hguard j o ho
  ·intro j o cs b ho
   exact Region.noSelect_spec csel j o cs b ho
  ·intro j k oj ok d hj hk hdj hdk
   have ej:=hdst' j
   have ek:=hdst' k
   rw [List.getElem?_toArray] at hj hk
   rw [hj] at ej
   rw [hk] at ek
   simp only [Option.bind_some,hdj,hdk] at ej ek
   have lj:j<l.length:=by rw [← hlen];exact (List.getElem?_eq_some_iff.1 hj).1
   have lk:k<l.length:=by rw [← hlen];exact (List.getElem?_eq_some_iff.1 hk).1
   have:=List.all_eq_true.1 (List.all_eq_true.1 cdst j (by simpa using lj)) k (by simpa using lk)
   rw [← ej,← ek] at this
   simpa using this
  ·intro j o ho hne hmem
   rw [List.getElem?_toArray] at ho
   have lj:j<l.length:=(List.getElem?_eq_some_iff.1 ho).1
   have:=List.all_eq_true.1 clook j (by simpa using lj)
   rw [ho] at this
   simp [hne] at this
   exact this hmem
  ·rw [h2] at caft
   simp at caft
   obtain ⟨f,hf,hb,ho⟩:=caft
   exact ⟨o2.after[f],Array.getElem_mem hf,hb,ho⟩
  ·intro a W
   rfl
  ·intro j o ho
   rw [List.getElem?_toArray] at ho
   have lj:j<l.length:=by rw [← hlen];exact (List.getElem?_eq_some_iff.1 ho).1
   have ej:=hdst' j
   rw [ho,List.getElem?_eq_getElem lj] at ej
   simp only [Option.bind_some] at ej
   have:=List.all_eq_true.1 chas l[j] (List.getElem_mem lj)
   rw [← ej] at this
   cases hd:o.dst with
   | none=>rw [hd] at this;simp at this
   | some d=>rw [hd] at this;exact ⟨d,rfl,by rw [← hsz];simpa using this⟩
 exact M.region hm hB (by simpa using hlen) hsz (fun u hu=>by simpa using hq u hu) hQ
end
end Go.Proofs.YtcgjgjjegnofeaaGreatDoor
namespace Go.Proofs.YtcgjgjjegnofeaaGreatDoor
open Go.RowKit
set_option maxRecDepth 10000 in
set_option maxHeartbeats 400000 in
theorem rput_first (m:ByteArray) (v:Int) (a:Option Addr) (n cap:Nat) (w:World) (h:cf m.size v n≠0) :
  Calls Tryz.prog 25 #[.string m,.int .i64 v,.slice a n cap] w fun e w'=>e=.returned (.tuple #[.string ⟨#[]⟩,.int .i64 (cf m.size v n)])∧Below w.heap.size w w':=by
 unfold cf at h ⊢
 by_cases h1:m.size=4
 ·have h1':(m.size:Int)=4:=by omega
  rw [if_neg (by simpa using h1)] at h ⊢
  by_cases h2:v<1
  ·rw [if_pos (.inl h2)]
   go_enter Tryz.func25,Tryz.ntmps25
   go_wp2_with fail
   go_ret2
   exact ⟨rfl,Below.refl _ _⟩
  by_cases h3:255<v
  ·rw [if_pos (.inr h3)]
   go_enter Tryz.func25,Tryz.ntmps25
   go_wp2_with fail
   go_ret2
   exact ⟨rfl,Below.refl _ _⟩
  rw [if_neg (by omega)] at h ⊢
  by_cases h4:(8:Int)<n
  ·rw [if_pos h4]
   go_enter Tryz.func25,Tryz.ntmps25
   go_wp2_with fail
   go_ret2
   exact ⟨rfl,Below.refl _ _⟩
  ·rw [if_neg h4] at h;exact absurd rfl h
 ·have h1':¬(m.size:Int)=4:=by omega
  rw [if_pos (by simpa using h1)]
  go_enter Tryz.func25,Tryz.ntmps25
  go_wp2_with fail
  go_ret2
  exact ⟨rfl,Below.refl _ _⟩
theorem put_end (m:ByteArray) (v:Int) (L:List Sec) (h:cf m.size v L.length=0) (C:Int) (hC:chk L=C):pPut m v L=if C≠0 then ([],C) else (m.data.toList++UInt8.ofNat v.toNat :: bodyL L,0):=by
 obtain ⟨_,_,_,_,h5⟩:=pPut_second m v L h
 rw [h5,hC]
set_option maxRecDepth 10000 in
set_option maxHeartbeats 6000000 in
theorem rput_go (m:ByteArray) (v:Int) (a:Option Addr) (cap b o:Nat) (L:List Sec) (w:World) (h:cf m.size v L.length=0) (ha:0<L.length→a=some ⟨b,o,none⟩) (hs:SecAt w b o L) (hp:∀s ∈ L,s.2.size≤4000000) :
  Calls Tryz.prog 25 #[.string m,.int .i64 v,.slice a L.length cap] w fun e w'=>e=.returned (.tuple #[.string ⟨(pPut m v L).1.toArray⟩,.int .i64 (pPut m v L).2])∧Below w.heap.size w w':=by
 obtain ⟨hm4,hv1,hv2,hL8,-⟩:=pPut_second m v L h
 obtain ⟨C,hC⟩:∃C,chk L=C:=⟨_,rfl⟩
 have hR:=put_end m v L h C hC
 have HR:Hid ((C≠0→pPut m v L=([],C))∧(C=0→pPut m v L=(m.data.toList++UInt8.ofNat v.toNat :: bodyL L,0))):=⟨fun hc=>by rw [hR,if_pos hc],fun hc=>by rw [hR,if_neg (by simpa using hc)]⟩
 clear hR
 generalize pPut m v L=R at *
 obtain ⟨vn,rfl⟩:=Int.eq_ofNat_of_zero_le (show 0≤v by omega)
 have hm':(m.size:Int)=4:=by omega
 have hL':¬(8:Int)<L.length:=by omega
 have hvw:IntKind.u8.wrap (vn:Int)=vn:=by rw [IntKind.wrap_u8'];omega
 have hcv:=fun (W:World) (g:Nat)=>conv_one (P:=Tryz.prog) W 90 9 5 Tryz.underlying90 Tryz.underlying5 Tryz.underlying9 g 1 (vn:Int) (by omega) (by omega)
 rw [Int.toNat_natCast] at hcv
 have dv:(ByteArray.mk [UInt8.ofNat vn].toArray).data.toList=[UInt8.ofNat vn]:=rfl
 have zv:(ByteArray.mk [UInt8.ofNat vn].toArray).size=1:=rfl
 have HD0:Hid (m.data.toList++UInt8.ofNat vn :: bodyL L=m.data.toList++[UInt8.ofNat vn]++bodyL (L.take L.length)):=by show _=_;simp
 rw [Int.toNat_natCast,HD0.out,← dv] at HR
 generalize ByteArray.mk [UInt8.ofNat vn].toArray=Sv at *
 have A0:=fun (W:World)=>run_string_add_sum (P:=Tryz.prog) W m Sv (by omega)
 have hX0:(m++Sv).data.toList=m.data.toList++Sv.data.toList:=data_two m Sv
 have hZ0:(m++Sv).size=5:=by rw [ByteArray.size_append];omega
 rw [← hX0] at HR
 generalize m++Sv=X0 at *
 have HB:Hid (∀i,(X0.data.toList++bodyL (L.take i)).length≤40000000):=fun i=>by
  have h1:=bodyL_le 4000000 (L.take i) (fun s hs=>hp s (List.mem_of_mem_take hs))
  have h2:(L.take i).length≤8:=by rw [List.length_take];omega
  have h3:(L.take i).length*(4000000+15)≤8*4000015:=Nat.mul_le_mul h2 (Nat.le_refl _)
  rw [List.length_append,list_size]
  omega
 have HC:Hid (chk (L.drop 0)=C):=hC
 clear h hC dv zv HD0 hX0
 go_enter Tryz.func25,Tryz.ntmps25
 go_wp2_with fail
 have hb0:Below w.heap.size w (w.alloc (.cells #[.int .u8 (vn:Int)] 5)):=(Below.refl _ _).alloc (Nat.le_refl _) _
 go_loopw [8,9] (fun xv iv wr=>∃(i:Nat) (X:ByteArray),xv=.string X∧iv=.int .i64 i∧i≤L.length∧X.size≤40000000∧Hid (X.data.toList=X0.data.toList++bodyL (L.take i))∧Hid (chk (L.drop i)=C)∧Below w.heap.size w wr) (fun _ iv _=>L.length-(intOf iv).toNat)
 case atStart=>exact ⟨0,X0,rfl,rfl,by omega,by omega,by show _=_;simp [bodyL],HC,hb0⟩
 case round=>
  obtain ⟨i,X,rfl,rfl,hi,hX,HX,HI,hB⟩:=hrel
  clear hb0 HC hcv A0 hvw
  by_cases hlt:i<L.length
  ·obtain rfl:=ha (by omega)
   obtain ⟨hbl0,c0,c1⟩:=hs i hlt
   rw [← (bcell hB).1 b _ hbl0] at c0 c1
   have hbl:b<wr.heap.size:=Nat.lt_of_lt_of_le hbl0 hB.size
   have hI:=HI.out
   rw [List.drop_eq_getElem_cons hlt,chk] at hI
   have hpi:=hp _ (List.getElem_mem hlt)
   have HT:Hid (X0.data.toList++bodyL (L.take (i+1))=X.data.toList++secL L[i]):=by show _=_;rw [bodyL_take L i hlt,← List.append_assoc,HX.out]
   have hln:=HB.out (i+1)
   rw [HT.out] at hln
   generalize L[i]=s at *
   obtain ⟨x,p⟩:=s
   dsimp only at c0 c1 hI hpi
   clear HX HI
   by_cases h2:x<1
   ·rw [if_pos (.inl h2)] at hI
    have HQ:Hid (R=([],4)):=by have:=HR.out.1 (by omega);rw [← hI] at this;exact this
    clear hI
    go_wp2_with fail
    go_ret2
    rw [HQ.out]
    exact ⟨rfl,hB⟩
   by_cases h3:255<x
   ·rw [if_pos (.inr h3)] at hI
    have HQ:Hid (R=([],4)):=by have:=HR.out.1 (by omega);rw [← hI] at this;exact this
    clear hI
    go_wp2_with fail
    go_ret2
    rw [HQ.out]
    exact ⟨rfl,hB⟩
   rw [if_neg (by omega),if_neg (by omega)] at hI
   have HN:Hid (chk (L.drop (i+1))=C):=hI
   obtain ⟨xn,rfl⟩:=Int.eq_ofNat_of_zero_le (show 0≤x by omega)
   have hxw:IntKind.u8.wrap (xn:Int)=xn:=by rw [IntKind.wrap_u8'];omega
   have hp4:¬(16777216:Int)<p.size:=by omega
   have hcx:=fun (W:World) (g:Nat)=>conv_one (P:=Tryz.prog) W 90 9 5 Tryz.underlying90 Tryz.underlying5 Tryz.underlying9 g 1 (xn:Int) (by omega) (by omega)
   rw [Int.toNat_natCast] at hcx
   have P1:=fun W=>refput_any (p.size:Int) W (by omega) (by omega)
   rw [Int.toNat_natCast] at P1
   have z1:=(put_length p.size).2
   have d0:(ByteArray.mk [UInt8.ofNat xn].toArray).data.toList=[UInt8.ofNat xn]:=rfl
   have z0:(ByteArray.mk [UInt8.ofNat xn].toArray).size=1:=rfl
   have d1:(ByteArray.mk (put p.size).toArray).data.toList=put p.size:=rfl
   have P2:=fun W=>refsum_any p W (by omega)
   have P3:=fun W=>refput4_any (crc p.data.toList) W (crc_lt _)
   have d3:(ByteArray.mk (four (crc p.data.toList)).toArray).data.toList=four (crc p.data.toList):=rfl
   have z3:(ByteArray.mk (four (crc p.data.toList)).toArray).size=4:=rfl
   have HSL:Hid (secL ((xn:Int),p)=[UInt8.ofNat xn]++put p.size++p.data.toList++four (crc p.data.toList)):=by show _=_;simp [secL]
   rw [HSL.out,← d0,← d1,← d3,← data_two,← data_two,← data_two,← data_two] at HT hln
   rw [← d1,list_size] at z1
   rw [list_size] at hln
   generalize ByteArray.mk [UInt8.ofNat xn].toArray=S0 at *
   generalize ByteArray.mk (put p.size).toArray=S1 at *
   generalize ByteArray.mk (four (crc p.data.toList)).toArray=S3 at *
   generalize crc p.data.toList=K at *
   have A1:=fun (W:World)=>run_string_add_sum (P:=Tryz.prog) W S0 S1 (by omega)
   have A2:=fun (W:World)=>run_string_add_sum (P:=Tryz.prog) W (S0++S1) p (by rw [ByteArray.size_append];omega)
   have A3:=fun (W:World)=>run_string_add_sum (P:=Tryz.prog) W (S0++S1++p) S3 (by rw [ByteArray.size_append,ByteArray.size_append];omega)
   have A4:=fun (W:World)=>run_string_add_sum (P:=Tryz.prog) W X (S0++S1++p++S3) (by rw [ByteArray.size_append,ByteArray.size_append,ByteArray.size_append];omega)
   have HP1:Hid _:=P1
   have HP2:Hid _:=P2
   have HP3:Hid _:=P3
   clear P1 P2 P3 d0 d1 d3 HSL HB hs ha hp hI
   go_wp2_with fail
   refine maker_region 7 8 _ _ 62 63 61 (.int .u8 (xn:Int)) (.string S0) 5 ?aFin (by kernel_rfl) (by kernel_rfl) rfl rfl (by kernel_rfl) ?make ?read ?hq ?hsz ?endX ?endY ?hQ
   case make=>
    intro a W ha
    have ha':a.tmps[61]?.getD undef=.int .u8 (xn:Int):=by simpa [Act.eval] using ha
    clear ha
    go_simp
   case read=>
    intro a W g ha hg
    have hr:=hcx W g hg
    have ha':a.tmps[62]?.getD undef=.slice (some ⟨g,0,none⟩) 1 1:=by simpa [Act.eval] using ha
    clear ha
    go_simp
   case hq=>
    intro u hu
    unfold Cr
    simp only [mkL,List.set_cons_zero,List.set_cons_succ]
    rw [← (bcell hu).1 b _ hbl] at c0 c1
    have m0:=fun d os=>cell_regrown c0 d os
    have m1:=fun d os=>cell_regrown c1 d os
    have cB:∀d os,Calls Tryz.prog 54 #[.int .u64 (p.size:Int)] (Go.Sort.grow (redrawn u d) os) fun r w''=>r=.returned (.string S1)∧∃q:Regrown,w''=Go.Sort.grow (redrawn u q.d) q.os:=fun d os=>Calls.regrown_of (HP1.out _)
    have cS:∀d os,Calls Tryz.prog 53 #[.string p] (Go.Sort.grow (redrawn u d) os) fun r w''=>r=.returned (.int .u32 (K:Nat))∧∃q:Regrown,w''=Go.Sort.grow (redrawn u q.d) q.os:=fun d os=>Calls.regrown_of ((HP2.out _).mono fun _ _ ⟨h1,h2⟩=>⟨h1,by rw [h2];exact Below.refl _ _⟩)
    have cC:∀d os,Calls Tryz.prog 52 #[.int .u32 (K:Nat)] (Go.Sort.grow (redrawn u d) os) fun r w''=>r=.returned (.string S3)∧∃q:Regrown,w''=Go.Sort.grow (redrawn u q.d) q.os:=fun d os=>Calls.regrown_of (HP3.out _)
    repeat (first|go_big_quiet_step (first|(go_at_call 54;exact cB _ _)|(go_at_call 53;exact cS _ _)|(go_at_call 52;exact cC _ _))|quiet_step (first|(go_at_call 54;exact cB _ _)|(go_at_call 53;exact cS _ _)|(go_at_call 52;exact cC _ _)))
    refine wpQuiet_nil ?_
    rfl
   case hsz=>rfl
   case endX=>rfl
   case endY=>rfl
   case hQ=>
    intro V W hW
    have hB2:Below w.heap.size w W:=hB.trans (hW.mono hB.size)
    clear A1 A2 A3 A4 hcx HP1 HP2 HP3 c0 c1
    simp only [Act.put,List.setIfInBounds_toArray,List.set_cons_zero,List.set_cons_succ]
    go_wp2_with fail
    go_roundw
    case rel=>exact ⟨i+1,X++(S0++S1++p++S3),rfl,by go_num,by omega,hln,HT.out.symm,HN,hB2⟩
    case measure=>simp [intOf];omega
  ·have HQ:Hid (R=((X.data.toList),0)):=by
    have h1:=HI.out
    rw [List.drop_of_length_le (by omega)] at h1
    have h2:=HR.out.2 h1.symm
    rw [show i=L.length by omega] at HX
    rw [← HX.out] at h2
    exact h2
   clear HR HI HX
   go_wp2_with fail
   go_ret2
   rw [HQ.out]
   exact ⟨rfl,hB⟩
theorem rput_any (m:ByteArray) (v:Int) (a:Option Addr) (cap b o:Nat) (L:List Sec) (w:World) (ha:0<L.length→a=some ⟨b,o,none⟩) (hs:SecAt w b o L) (hp:∀s ∈ L,s.2.size≤4000000) :
  Calls Tryz.prog 25 #[.string m,.int .i64 v,.slice a L.length cap] w fun e w'=>e=.returned (.tuple #[.string ⟨(pPut m v L).1.toArray⟩,.int .i64 (pPut m v L).2])∧Below w.heap.size w w':=by
 by_cases h:cf m.size v L.length=0
 ·exact rput_go m v a cap b o L w h ha hs hp
 ·rw [pPut_first m v L h]
  exact rput_first m v a L.length cap w h
end Go.Proofs.YtcgjgjjegnofeaaGreatDoor
