import Derived.Deep.RegionHeld3
import Derived.Test.YtcgjgjjegnofeaaGreatDoorPC37
import Derived.Test.YtcgjgjjegnofeaaGreatDoorPC40
import Derived.Test.YtcgjgjjegnofeaaGreatDoorPC33
import Derived.Test.YtcgjgjjegnofeaaGreatDoorPC35
import Derived.Test.YtcgjgjjegnofeaaGreatDoorPC28
import Derived.Test.YtcgjgjjegnofeaaGreatDoorPC24
import Derived.Test.YtcgjgjjegnofeaaGreatDoorPC29
import Derived.Test.YtcgjgjjegnofeaaGreatDoorPC20
namespace Go.Proofs.YtcgjgjjegnofeaaGreatDoor
open Go.RowKit Go.Maps Go.WideMaps Go.Sort
def isF:List Sec→Bool
 | [s,t]=>decide (s.1=1) && decide (t.1=2)
 | _=>false
theorem isF_iff (S:List Sec):isF S=true↔∃A C,S=[(1,A),(2,C)]:=by
 constructor
 ·intro h
  match S,h with
  | [(a,A),(b,B)],h=>
   simp only [isF,Bool.and_eq_true,decide_eq_true_eq] at h
   obtain ⟨rfl,rfl⟩:=h
   exact ⟨A,B,rfl⟩
  | [],h=>cases h
  | [_],h=>cases h
  | _ :: _ :: _ :: _,h=>cases h
 ·rintro ⟨A,C,rfl⟩
  rfl
set_option maxRecDepth 10000 in
set_option maxHeartbeats 800000 in
theorem isform_any (S:List Sec) (a:Option Addr) (c g:Nat) (w:World) (ha:0<S.length→a=some ⟨g,0,none⟩) (hs:SecAt w g 0 S) :
  Calls Tryz.prog 38 #[.slice a S.length c] w fun e w'=>e=.returned (.bool (isF S))∧w'=w:=by
 by_cases hn:S.length=2
 ·obtain ⟨s,t,rfl⟩:∃s t,S=[s,t]:=by
   match S,hn with
   | [s,t],_=>exact ⟨s,t,rfl⟩
  obtain ⟨n1,B1⟩:=s
  obtain ⟨n2,B2⟩:=t
  obtain rfl:=ha (by simp)
  have s0:w.cell? ⟨g,0,none⟩=some (.int .i64 n1):=by simpa using (hs 0 (by simp)).2.1
  have s2:w.cell? ⟨g,2,none⟩=some (.int .i64 n2):=by simpa using (hs 1 (by simp)).2.1
  clear hn ha hs
  by_cases h1:n1=1
  ·subst h1
   by_cases h2:n2=2
   ·subst h2
    go_enter Tryz.func38,Tryz.ntmps38
    go_wp2_with fail
    go_ret
    exact ⟨rfl,rfl⟩
   ·have h2':(n2==2)=false:=by simpa using h2
    have hf:isF [(1,B1),(n2,B2)]=false:=by simp [isF,h2]
    rw [hf]
    go_enter Tryz.func38,Tryz.ntmps38
    go_wp2_with fail
    go_ret
    exact ⟨rfl,rfl⟩
  ·have h1':(n1==1)=false:=by simpa using h1
   have hf:isF [(n1,B1),(n2,B2)]=false:=by simp [isF,h1]
   rw [hf]
   go_enter Tryz.func38,Tryz.ntmps38
   go_wp2_with fail
   go_ret
   exact ⟨rfl,rfl⟩
 ·have hf:isF S=false:=by
   cases h:isF S with
   | false=>rfl
   | true=>obtain ⟨A,C,rfl⟩:=(isF_iff S).1 h;exact absurd rfl hn
  have hn':((S.length:Int)==2)=false:=by simp;omega
  rw [hf]
  clear ha hs hf hn
  go_enter Tryz.func38,Tryz.ntmps38
  go_wp2_with fail
  go_ret
  exact ⟨rfl,rfl⟩
set_option maxRecDepth 10000 in
set_option maxHeartbeats 2000000 in
theorem pfload_any (b:ByteArray) (l:Lm) (w:World) (hT:Tabs12 w) (hz:b.size≤100000000) (hQ:∀A C,ldK b l=(0,A,C)→A.size≤1000000∧C.size≤4000000∧∀L,pGet6 A 16777216 l.x=(0,L)→Qn C L l) (hl:∀i,i<5→-9223372036854775808≤(lmL l).getD i 0∧(lmL l).getD i 0≤9223372036854775807) :
  Calls Tryz.prog 15 #[.string b,.agg (liC l)] w fun e w'=>LdOut b l w w' e:=by
 have HA:Hid (∀(o1 o2:Obj),o1=.cells (liC l) 26→o2=.cells #[.slice none 0 0,.int .i64 0] 24→Gx w ((w.alloc o1).alloc o2) l):=by
  rintro _ _ rfl rfl
  exact ⟨(AtN.new w 26 _).alloc _,mk_at (AtN.new (w.alloc _) 24 _) (show _=w.heap.size+1 by simp),((Below.refl w.heap.size w).alloc (Nat.le_refl _) _).alloc (by simp) _⟩
 have hlC:liC l=#[.int .i64 l.b,.int .i64 l.n,.int .i64 l.e,.int .i64 l.d,.int .i64 l.x]:=rfl
 have HG:Hid (∀W,Calls Tryz.prog 37 #[.string ⟨#[68,73,79,82]⟩,.string b] W fun e w'=>FGot W w' e (pGet mD.data.toList b.data.toList)):=fun W=>fget_any mD b W hz
 have HN:Hid (∀(A C:ByteArray) (W:World),Below w.heap.size w W→ldK b l=(0,A,C)→Calls Tryz.prog 39 #[.string A,.string C,.agg #[.int .i64 l.b,.int .i64 l.n,.int .i64 l.e,.int .i64 l.d,.int .i64 l.x]] W fun e w'=>GeOut2 A C l W w' e):=fun A C W hW hk=>pnget2_any A C l W (hT.on hW) (hQ A C hk).1 (hQ A C hk).2.1 (hQ A C hk).2.2 hl
 obtain ⟨E,V,S,hq⟩:∃E V S,pGet mD.data.toList b.data.toList=(E,V,S):=⟨_,_,_,rfl⟩
 rw [hq] at HG
 have HP:Hid (pGet mD.data.toList b.data.toList=(E,V,S)):=hq
 clear hq hT hl hQ hz
 go_enter Tryz.func15,Tryz.ntmps15
 rw [hlC]
 go_wp2_with fail
 have hx0:=HA.out _ _ rfl rfl
 rw [hlC] at hx0
 refine (okl_any l _).mono ?_
 rintro e w1 ⟨rfl,hb1⟩
 have HX1:Hid (Gx w w1 l):=hx0.more hb1
 clear HA hx0 hb1 hlC
 have r0:w1.cell? ⟨w.heap.size+1,0,none⟩=some (.slice none 0 0):=HX1.out.r.cell 0
 have r1:w1.cell? ⟨w.heap.size+1,1,none⟩=some (.int .i64 0):=HX1.out.r.cell 1
 have f0:=HX1.out.r.fz 0
 have f1:=HX1.out.r.fz 1
 cases hok:okL l with
 | false=>
  have HV:Hid _:=ld_bad (LdIs.bad (ldK_1 b l hok) (by decide)) HX1.out.bel HX1.out.r
  clear HG HN
  go_wp2_with fail
  obtain ⟨v2,v1⟩:=HV.out _ rfl
  have c0:=v2.cell 0
  have c1:=v2.cell 1
  exact bodyPost_ret (v:=.tuple #[.agg #[.slice none 0 0,.int .i64 0],.int .i64 1]) (by simp [results,Tryz.results15,go_sem,c0,c1]) rfl v1
 | true=>
  have a0:w1.cell? ⟨w.heap.size,0,none⟩=some (.int .i64 l.b):=HX1.out.a.cell 0
  by_cases hlb:l.b<(b.size:Int)
  ·have HV:Hid _:=ld_bad (LdIs.bad (ldK_2 b l hok hlb) (by decide)) HX1.out.bel HX1.out.r
   clear HG HN
   go_wp2_with fail
   obtain ⟨v2,v1⟩:=HV.out _ rfl
   have c0:=v2.cell 0
   have c1:=v2.cell 1
   exact bodyPost_ret (v:=.tuple #[.agg #[.slice none 0 0,.int .i64 0],.int .i64 19]) (by simp [results,Tryz.results15,go_sem,c0,c1]) rfl v1
  ·have HLB:Hid ((b.size:Int)≤l.b):=Int.not_lt.1 hlb
   go_wp2_with fail
   refine Calls.mono (HG.out _) ?_
   rintro e w2 ⟨aS,cS,gS,rfl,haS,hsS,hb2⟩
   dsimp only at haS hsS ⊢
   have HX2:Hid (Gx w w2 l):=HX1.out.more hb2
   have HsS:Hid (SecAt w2 gS 0 S):=hsS
   have HaS:Hid (0<S.length→aS=some ⟨gS,0,none⟩):=haS
   clear HX1 hb2 r0 r1 f0 f1 a0 hsS haS HG
   have r0:w2.cell? ⟨w.heap.size+1,0,none⟩=some (.slice none 0 0):=HX2.out.r.cell 0
   have r1:w2.cell? ⟨w.heap.size+1,1,none⟩=some (.int .i64 0):=HX2.out.r.cell 1
   have f0:=HX2.out.r.fz 0
   have f1:=HX2.out.r.fz 1
   have HK:Hid (∀k:Int,(ldK b l).1=k→k≠0→Hid (∀W',W'=(w2.setCell ⟨w.heap.size+1,0,none⟩ (.slice none 0 0)).setCell ⟨w.heap.size+1,1,none⟩ (.int .i64 0)→AtN 24 W' (w.heap.size+1) #[.slice none 0 0,.int .i64 0]∧LdOut b l w W' (.returned (.tuple #[.agg #[.slice none 0 0,.int .i64 0],.int .i64 k])))):=fun k h1 h2=>ld_bad (LdIs.bad h1 h2) HX2.out.bel HX2.out.r
   by_cases hE:E=0
   ·subst hE
    by_cases hV:V=2
    ·subst hV
     have HI:Hid (Calls Tryz.prog 38 #[.slice aS S.length cS] w2 fun e w'=>e=.returned (.bool (isF S))∧w'=w2):=isform_any S aS cS gS w2 HaS.out HsS.out
     cases hf:isF S with
     | true=>
      rw [hf] at HI
      obtain ⟨B1,B2,rfl⟩:=(isF_iff S).1 hf
      obtain rfl:=HaS.out (by simp)
      have s1:w2.cell? ⟨gS,1,none⟩=some (.string B1):=by simpa using (HsS.out 0 (by simp)).2.2
      have s3:w2.cell? ⟨gS,3,none⟩=some (.string B2):=by simpa using (HsS.out 1 (by simp)).2.2
      have hgS:gS<w2.heap.size:=(HsS.out 0 (by simp)).1
      have hgN:gS≠w.heap.size+1:=fun q=>by
       have h1:=s1
       have h2:=HX2.out.r.cell 1
       rw [q,h2] at h1
       cases h1
      have hk:ldK b l=(0,B1,B2):=ldK_6 b l hok (Int.not_lt.2 HLB.out) (by rw [HP.out]) (by rw [HP.out]) (by rw [HP.out])
      have HNc:Hid (Calls Tryz.prog 39 #[.string B1,.string B2,.agg #[.int .i64 l.b,.int .i64 l.n,.int .i64 l.e,.int .i64 l.d,.int .i64 l.x]] w2.drew fun e w'=>GeOut2 B1 B2 l w2.drew w' e):=HN.out B1 B2 w2.drew (HX2.out.bel.trans ((bel_drew w2).mono HX2.out.bel.size)) hk
      have HGd:Hid (∀X:List Nx,∀r k:Int,GeIs B1 B2 l (X.map Nx.nd) r k→LdIs b l (X.map Nx.nd) r k):=fun X r k h=>.inr ⟨by rw [hk],by rw [hk];exact h⟩
      have HS:Hid (∀W,Below w2.heap.size w2 W→∀v0 v1 W',W'=(W.setCell ⟨w.heap.size+1,0,none⟩ v0).setCell ⟨w.heap.size+1,1,none⟩ v1∨W'=W→W'.cell? ⟨gS,1,none⟩=some (.string B1)∧W'.cell? ⟨gS,3,none⟩=some (.string B2)∧W'.cell? ⟨w.heap.size,0,none⟩=some (.int .i64 l.b)∧W'.cell? ⟨w.heap.size,1,none⟩=some (.int .i64 l.n)∧W'.cell? ⟨w.heap.size,2,none⟩=some (.int .i64 l.e)∧W'.cell? ⟨w.heap.size,3,none⟩=some (.int .i64 l.d)∧W'.cell? ⟨w.heap.size,4,none⟩=some (.int .i64 l.x)):=by
       intro W hW v0 v1 W' hW'
       have q1:=((bcell hW).1 gS 1 hgS).trans s1
       have q3:=((bcell hW).1 gS 3 hgS).trans s3
       have hA:=HX2.out.a.belowAll hW
       rcases hW' with rfl|rfl
       ·have hA2:=(hA.setOther ⟨w.heap.size+1,0,none⟩ (by show w.heap.size+1≠_;omega) v0).setOther ⟨w.heap.size+1,1,none⟩ (by show w.heap.size+1≠_;omega) v1
        refine ⟨?_,?_,hA2.cell 0,hA2.cell 1,hA2.cell 2,hA2.cell 3,hA2.cell 4⟩
        ·rw [World.cell?_setCell_other _ _ _ _ (by intro q;simp only [Addr.mk.injEq] at q;omega),World.cell?_setCell_other _ _ _ _ (by intro q;simp only [Addr.mk.injEq] at q;omega)];exact q1
        ·rw [World.cell?_setCell_other _ _ _ _ (by intro q;simp only [Addr.mk.injEq] at q;omega),World.cell?_setCell_other _ _ _ _ (by intro q;simp only [Addr.mk.injEq] at q;omega)];exact q3
       ·exact ⟨q1,q3,hA.cell 0,hA.cell 1,hA.cell 2,hA.cell 3,hA.cell 4⟩
      have hlt2:w.heap.size+1<w2.heap.size:=HX2.out.r.lt
      have K0:=HS.out w2 (Below.refl _ _) (.bool true) (.bool true) w2 (.inr rfl)
      have K1:=HS.out w2.drew (bel_drew w2) (.bool true) (.bool true) w2.drew (.inr rfl)
      clear hk HN HP HK HsS HaS hf s1 s3
      go_wp2_with fail
      refine Calls.mono HI.out ?_
      rintro e wq ⟨rfl,hwq⟩
      have hwq:=hwq.symm
      subst hwq
      clear HI
      go_wp2_with fail
      go_region_held3 (fun W=>W.cell? ⟨gS,1,none⟩=some (.string B1)∧W.cell? ⟨gS,3,none⟩=some (.string B2)∧W.cell? ⟨w.heap.size,0,none⟩=some (.int .i64 l.b)∧W.cell? ⟨w.heap.size,1,none⟩=some (.int .i64 l.n)∧W.cell? ⟨w.heap.size,2,none⟩=some (.int .i64 l.e)∧W.cell? ⟨w.heap.size,3,none⟩=some (.int .i64 l.d)∧W.cell? ⟨w.heap.size,4,none⟩=some (.int .i64 l.x)) (first|exact K3 _ _ _ (.inl rfl)|exact K3 (.bool true) (.bool true) _ (.inr rfl)|exact K1|exact K0)
       ((go_at_call 39;refine Calls.mono HNc.out ?_;rintro e w3 ⟨X,aX,cX,rX,kX,rfl,hg,hsc,hsm,hfn,hb3⟩;have HX3:Hid (Gx w w3 l):=(HX2.out.more (bel_drew w2)).more hb3;have K3:=HS.out w3 ((bel_drew w2).trans (hb3.mono (bel_drew w2).size));have r0:w3.cell? ⟨w.heap.size+1,0,none⟩=some (.slice none 0 0):=HX3.out.r.cell 0;have r1:w3.cell? ⟨w.heap.size+1,1,none⟩=some (.int .i64 0):=HX3.out.r.cell 1;have f0:=HX3.out.r.fz 0;have f1:=HX3.out.r.fz 1))
      have HV:Hid _:=ld_good (c:=cX) (W0:=w2) (HGd.out X rX kX hg) HX3.out.bel HX3.out.r (by omega) hsc hsm hfn
      clear HNc HGd hg hsc hsm hfn hb3 HX2 K0 K1 K3 HS
      go_wp2_with fail
      obtain ⟨v2,v1⟩:=HV.out _ rfl
      have c0:=v2.cell 0
      have c1:=v2.cell 1
      exact bodyPost_ret (v:=.tuple #[.agg #[.slice aX X.length cX,.int .i64 rX],.int .i64 kX]) (by simp [results,Tryz.results15,go_sem,c0,c1]) rfl v1
     | false=>
      rw [hf] at HI
      have HV:Hid _:=(HK.out 4 (ldK_5 b l hok (Int.not_lt.2 HLB.out) (by rw [HP.out]) (by rw [HP.out]) (by
       rw [HP.out]
       rintro ⟨⟨s1,A⟩,⟨t1,C⟩,q,q1,q2⟩
       dsimp only at q q1 q2
       subst q1 q2
       rw [(isF_iff S).2 ⟨A,C,q⟩] at hf
       cases hf)) (by decide)).out
      clear HN HP HK HsS HaS hf
      go_wp2_with fail
      refine Calls.mono HI.out ?_
      rintro e wq ⟨rfl,hwq⟩
      have hwq:=hwq.symm
      subst hwq
      clear HI
      go_wp2_with fail
      obtain ⟨v2,v1⟩:=HV.out _ rfl
      have c0:=v2.cell 0
      have c1:=v2.cell 1
      exact bodyPost_ret (v:=.tuple #[.agg #[.slice none 0 0,.int .i64 0],.int .i64 4]) (by simp [results,Tryz.results15,go_sem,c0,c1]) rfl v1
    ·have hV':((V:Int)==2)=false:=by simp;omega
     have hV'':((V:Int) != 2)=true:=by simp;omega
     have HV:Hid _:=(HK.out 7 (ldK_4 b l hok (Int.not_lt.2 HLB.out) (by rw [HP.out]) (by rw [HP.out];exact hV)) (by decide)).out
     clear HN HP HK HsS HaS hV
     go_wp2_with fail
     obtain ⟨v2,v1⟩:=HV.out _ rfl
     have c0:=v2.cell 0
     have c1:=v2.cell 1
     exact bodyPost_ret (v:=.tuple #[.agg #[.slice none 0 0,.int .i64 0],.int .i64 7]) (by simp [results,Tryz.results15,go_sem,c0,c1]) rfl v1
   ·have hE':((E:Int)==0)=false:=by simp;omega
    have hE'':((E:Int) != 0)=true:=by simp;omega
    have HV:Hid _:=(HK.out E (by rw [ldK_3 b l hok (Int.not_lt.2 HLB.out) (by rw [HP.out];exact hE),HP.out]) (by omega)).out
    clear HN HP HK HsS HaS hE
    go_wp2_with fail
    obtain ⟨v2,v1⟩:=HV.out _ rfl
    have c0:=v2.cell 0
    have c1:=v2.cell 1
    exact bodyPost_ret (v:=.tuple #[.agg #[.slice none 0 0,.int .i64 0],.int .i64 (E:Int)]) (by simp [results,Tryz.results15,go_sem,c0,c1]) rfl v1
end Go.Proofs.YtcgjgjjegnofeaaGreatDoor
namespace Go.Proofs.YtcgjgjjegnofeaaGreatDoor
open Go.RowKit
set_option maxRecDepth 10000 in
theorem wide_any (w:World):Calls Tryz.prog 21 #[] w fun e w'=>e=.returned (.agg #[.int .i64 16777216,.int .i64 16777216,.int .i64 16777216,.int .i64 16777216,.int .i64 16777216])∧Below w.heap.size w w':=by
 have HA:Hid (∀o:Obj,o=.cells #[.int .i64 16777216,.int .i64 16777216,.int .i64 16777216,.int .i64 16777216,.int .i64 16777216] 26→AtN 26 (w.alloc o) w.heap.size #[.int .i64 16777216,.int .i64 16777216,.int .i64 16777216,.int .i64 16777216,.int .i64 16777216]∧Below w.heap.size w (w.alloc o)):=by
  rintro _ rfl
  exact ⟨AtN.new w 26 _,(Below.refl w.heap.size w).alloc (Nat.le_refl _) _⟩
 go_enter Tryz.func21,Tryz.ntmps21
 go_wp2_with fail
 obtain ⟨h1,h2⟩:=HA.out _ rfl
 have c0:=h1.cell 0
 have c1:=h1.cell 1
 have c2:=h1.cell 2
 have c3:=h1.cell 3
 have c4:=h1.cell 4
 exact bodyPost_ret (v:=.agg #[.int .i64 16777216,.int .i64 16777216,.int .i64 16777216,.int .i64 16777216,.int .i64 16777216]) (by simp [results,Tryz.results21,go_sem,c0,c1,c2,c3,c4]) rfl ⟨rfl,h2⟩
theorem wL_rg:∀i,i<5→-9223372036854775808≤(lmL wL).getD i 0∧(lmL wL).getD i 0≤9223372036854775807:=fun i hi=>by
 rcases five_cases hi with rfl|rfl|rfl|rfl|rfl <;> decide
theorem few_q {b A C:ByteArray} {l:Lm} (hb:b.size≤3000) (h:ldK b l=(0,A,C)):A.size≤1000000∧C.size≤4000000∧∀L,pGet6 A 16777216 l.x=(0,L)→Qn C L l:=by
 obtain ⟨_,h1,h2⟩:=file_of (b:=b) (l:=l) (by rw [h])
 rw [h] at h1 h2
 dsimp only at h1 h2
 exact ⟨by omega,by omega,fun L hL=>qn_small hL (by omega) (by omega)⟩
theorem aF_10:((aF.extract 0 10).toList==[68,73,79,82,2,1,3,1,1,97])=true:=by
 have h:(aF.extract 0 10)=⟨#[68,73,79,82,2,1,3,1,1,97]⟩:=by
  refine ba_eq ?_
  rw [Lib.extract_data,aF_list]
  rfl
 rw [h]
 decide +kernel
theorem aF_21:((aF.extract 14 21).toList==[2,5,1,4,2,0,0])=true:=by
 have h:(aF.extract 14 21)=⟨#[2,5,1,4,2,0,0]⟩:=by
  refine ba_eq ?_
  rw [Lib.extract_data,aF_list]
  have h4:=four_length (crc aA.data.toList)
  generalize four (crc aA.data.toList)=q at *
  match q,h4 with
  | [q0,q1,q2,q3],_=>rfl
 rw [h]
 decide +kernel
set_option maxRecDepth 10000 in
set_option maxHeartbeats 2000000 in
theorem awake_any (w:World) (ht:Tabs12 w) :
  Calls Tryz.prog 10 #[] w fun e w'=>e=.returned (.bool true)∧Below w.heap.size w w':=by
 have HA:Hid (∀o1 o2 o3 o4:Obj,o1=.cells #[.int .i64 1] 2→o2=.cells #[.string aT] 9→o3=.cells #[.int .i64 4,.slice (some ⟨w.heap.size,0,none⟩) 1 1,.slice (some ⟨w.heap.size+1,0,none⟩) 1 1,.slice none 0 0] 62→o4=.cells #[.slice (some ⟨w.heap.size+1+1,0,none⟩) 1 1,.int .i64 0] 24→Aw w ((((w.alloc o1).alloc o2).alloc o3).alloc o4)):=by
  rintro _ _ _ _ rfl rfl rfl rfl
  exact ⟨(((AtN.new w 2 _).alloc _).alloc _).alloc _,((mk_at (AtN.new (w.alloc _) 9 _) (show _=w.heap.size+1 by simp)).alloc _).alloc _,(mk_at (AtN.new ((w.alloc _).alloc _) 62 _) (show _=w.heap.size+1+1 by simp)).alloc _,mk_at (AtN.new (((w.alloc _).alloc _).alloc _) 24 _) (show _=w.heap.size+1+1+1 by simp),((((Below.refl w.heap.size w).alloc (Nat.le_refl _) _).alloc (by simp) _).alloc (by simp;omega) _).alloc (by simp;omega) _⟩
 have HSv:Hid (∀W,Aw w W→Calls Tryz.prog 12 #[.agg #[.slice (some ⟨w.heap.size+1+1,0,none⟩) 1 1,.int .i64 0],.agg #[.int .i64 16777216,.int .i64 16777216,.int .i64 16777216,.int .i64 16777216,.int .i64 16777216]] W fun e w'=>e=.returned (.tuple #[.string aF,.int .i64 0])∧Below W.heap.size W w'):=fun W hW=>by
  refine Calls.mono (pfsave_any (aX w.heap.size) (some ⟨w.heap.size+1+1,0,none⟩) 1 0 wL W hW.sc (aX_small _) (aX_fn _) (ht.on hW.bel) (fun _=>by rw [aX_cA,aX_cC];decide)) ?_
  rintro e w' ⟨B,k,rfl,hs,hb⟩
  obtain ⟨rfl,rfl⟩:=(aF_save w.heap.size).uniq hs
  exact ⟨rfl,hb⟩
 have HLd:Hid (∀W,Below w.heap.size w W→Calls Tryz.prog 15 #[.string aF,.agg #[.int .i64 16777216,.int .i64 16777216,.int .i64 16777216,.int .i64 16777216,.int .i64 16777216]] W fun e w'=>∃(X:List Nx) (a:Option Addr) (c:Nat),e=.returned (.tuple #[.agg #[.slice a X.length c,.int .i64 0],.int .i64 0])∧X.map Nx.nd=(aX w.heap.size).map Nx.nd∧ScAt w' a X∧Small X∧Below W.heap.size W w'):=fun W hW=>by
  refine Calls.mono (pfload_any aF wL W (ht.on hW) (by rw [aF_size];decide) (fun A C q=>few_q (by rw [aF_size];decide) q) wL_rg) ?_
  rintro e w' ⟨X,a,c,r,k,rfl,hl,hs,hm,_,hb⟩
  obtain ⟨h1,rfl,rfl⟩:=(aF_load w.heap.size).uniq hl
  exact ⟨X,a,c,rfl,h1,hs w' (Fr.refl _ _),hm,hb⟩
 have HNo:Hid (∀W,Below w.heap.size w W→Calls Tryz.prog 15 #[.string ⟨#[68,73,79,82,3]⟩,.agg #[.int .i64 16777216,.int .i64 16777216,.int .i64 16777216,.int .i64 16777216,.int .i64 16777216]] W fun e w'=>∃(X:List Nx) (a:Option Addr) (c:Nat),e=.returned (.tuple #[.agg #[.slice a X.length c,.int .i64 0],.int .i64 7])∧Below W.heap.size W w'):=fun W hW=>by
  refine Calls.mono (pfload_any ⟨#[68,73,79,82,3]⟩ wL W (ht.on hW) (by decide) (fun A C q=>few_q (by decide) q) wL_rg) ?_
  rintro e w' ⟨X,a,c,r,k,rfl,hl,_,_,_,hb⟩
  obtain ⟨_,rfl,rfl⟩:=aF_no.uniq hl
  exact ⟨X,a,c,rfl,hb⟩
 clear ht
 go_enter Tryz.func10,Tryz.ntmps10
 go_wp2_with fail
 have h0:Aw w ((((w.alloc (.cells #[.int .i64 1] 2)).alloc (.cells #[.string ⟨#[97]⟩] 9)).alloc (.cells #[.int .i64 4,.slice (some ⟨w.heap.size,0,none⟩) 1 1,.slice (some ⟨w.heap.size+1,0,none⟩) 1 1,.slice none 0 0] 62)).alloc (.cells #[.slice (some ⟨w.heap.size+1+1,0,none⟩) 1 1,.int .i64 0] 24)):=HA.out _ _ _ _ rfl rfl rfl rfl
 generalize ((((w.alloc (.cells #[.int .i64 1] 2)).alloc (.cells #[.string ⟨#[97]⟩] 9)).alloc (.cells #[.int .i64 4,.slice (some ⟨w.heap.size,0,none⟩) 1 1,.slice (some ⟨w.heap.size+1,0,none⟩) 1 1,.slice none 0 0] 62)).alloc (.cells #[.slice (some ⟨w.heap.size+1+1,0,none⟩) 1 1,.int .i64 0] 24))=w0 at *
 have H0:Hid (Aw w w0):=h0
 have HD:Hid (Aw w w0.drew):=h0.more (bel_drew w0)
 have K0:w0.cell? ⟨w.heap.size+1+1+1,0,none⟩=some (.slice (some ⟨w.heap.size+1+1,0,none⟩) 1 1)∧w0.cell? ⟨w.heap.size+1+1+1,1,none⟩=some (.int .i64 0):=⟨h0.s.cell 0,h0.s.cell 1⟩
 have Kd:w0.drew.cell? ⟨w.heap.size+1+1+1,0,none⟩=some (.slice (some ⟨w.heap.size+1+1,0,none⟩) 1 1)∧w0.drew.cell? ⟨w.heap.size+1+1+1,1,none⟩=some (.int .i64 0):=⟨HD.out.s.cell 0,HD.out.s.cell 1⟩
 clear HA h0
 go_region_held3 (fun W=>W.cell? ⟨w.heap.size+1+1+1,0,none⟩=some (.slice (some ⟨w.heap.size+1+1,0,none⟩) 1 1)∧W.cell? ⟨w.heap.size+1+1+1,1,none⟩=some (.int .i64 0)) (first|exact K2|exact K1|exact Kd|exact K0)
  ((first|(go_at_call 12;refine Calls.mono (HSv.out _ H1.out) ?_;rintro e w2 ⟨rfl,hb2⟩;have H2:Hid (Aw w w2):=H1.out.more hb2;have K2:w2.cell? ⟨w.heap.size+1+1+1,0,none⟩=some (.slice (some ⟨w.heap.size+1+1,0,none⟩) 1 1)∧w2.cell? ⟨w.heap.size+1+1+1,1,none⟩=some (.int .i64 0):=⟨H2.out.s.cell 0,H2.out.s.cell 1⟩)|(go_at_call 21;refine Calls.mono (wide_any _) ?_;rintro e w1 ⟨rfl,hb1⟩;have H1:Hid (Aw w w1):=HD.out.more hb1;have K1:w1.cell? ⟨w.heap.size+1+1+1,0,none⟩=some (.slice (some ⟨w.heap.size+1+1,0,none⟩) 1 1)∧w1.cell? ⟨w.heap.size+1+1+1,1,none⟩=some (.int .i64 0):=⟨H1.out.s.cell 0,H1.out.s.cell 1⟩)))
 clear H0 HD H1 K0 Kd K1 K2 hb1 hb2 HSv
 go_wp2_with fail
 refine Calls.mono (wide_any _) ?_
 rintro e w3 ⟨rfl,hb3⟩
 have H3:Hid (Aw w w3):=H2.out.more hb3
 have HLc:Hid _:=HLd.out w3 H3.out.bel
 clear H2 hb3 HLd
 go_wp2_with fail
 refine Calls.mono HLc.out ?_
 rintro e w4 ⟨X,a,c,rfl,hX,hsc,hsm,hb4⟩
 have hb5:Below w4.heap.size w4 (w4.alloc (.cells #[.slice a X.length c,.int .i64 0] 24)):=(Below.refl w4.heap.size w4).alloc (Nat.le_refl _) _
 have HM5:Hid (AtN 24 (w4.alloc (.cells #[.slice a X.length c,.int .i64 0] 24)) w4.heap.size #[.slice a X.length c,.int .i64 0]):=AtN.new w4 24 _
 have H5:Hid (Aw w (w4.alloc (.cells #[.slice a X.length c,.int .i64 0] 24))):=(H3.out.more hb4).more hb5
 have HS5:Hid (ScAt (w4.alloc (.cells #[.slice a X.length c,.int .i64 0] 24)) a X∧Small X∧X.map Nx.nd=(aX w.heap.size).map Nx.nd):=⟨hsc.belowB hb5,hsm,hX⟩
 clear HLc H3 hb4 hb5 hX hsc hsm
 go_wp2_with fail
 generalize (w4.alloc (.cells #[.slice a X.length c,.int .i64 0] 24))=w5 at *
 refine Calls.mono (wide_any _) ?_
 rintro e w6 ⟨rfl,hb6⟩
 have H6:Hid (Aw w w6):=H5.out.more hb6
 have HM6:Hid (AtN 24 w6 w4.heap.size #[.slice a X.length c,.int .i64 0]):=HM5.out.belowAll hb6
 have HS6:Hid (ScAt w6 a X∧Small X∧X.map Nx.nd=(aX w.heap.size).map Nx.nd):=⟨HS5.out.1.belowB hb6,HS5.out.2⟩
 have HNc:Hid _:=HNo.out w6 H6.out.bel
 clear H5 HM5 HS5 hb6 HNo
 go_wp2_with fail
 refine Calls.mono HNc.out ?_
 rintro e w7 ⟨X2,a2,c2,rfl,hb7⟩
 have HB8:Hid (Below w6.heap.size w6 (w7.alloc (.cells #[.slice a2 X2.length c2,.int .i64 0] 24))):=hb7.alloc hb7.size _
 have H8:Hid (Aw w (w7.alloc (.cells #[.slice a2 X2.length c2,.int .i64 0] 24))):=H6.out.more HB8.out
 have HM8:Hid (AtN 24 (w7.alloc (.cells #[.slice a2 X2.length c2,.int .i64 0] 24)) w4.heap.size #[.slice a X.length c,.int .i64 0]):=HM6.out.belowAll HB8.out
 have HS8:Hid (ScAt (w7.alloc (.cells #[.slice a2 X2.length c2,.int .i64 0] 24)) a X∧Small X∧X.map Nx.nd=(aX w.heap.size).map Nx.nd):=⟨HS6.out.1.belowB HB8.out,HS6.out.2⟩
 clear HNc H6 HM6 HS6 hb7 HB8
 have m0:(w7.alloc (.cells #[.slice a2 X2.length c2,.int .i64 0] 24)).cell? ⟨w4.heap.size,0,none⟩=some (.slice a X.length c):=HM8.out.cell 0
 have m1:(w7.alloc (.cells #[.slice a2 X2.length c2,.int .i64 0] 24)).cell? ⟨w4.heap.size,1,none⟩=some (.int .i64 0):=HM8.out.cell 1
 have s0:(w7.alloc (.cells #[.slice a2 X2.length c2,.int .i64 0] 24)).cell? ⟨w.heap.size+1+1+1,0,none⟩=some (.slice (some ⟨w.heap.size+1+1,0,none⟩) 1 1):=H8.out.s.cell 0
 have s1:(w7.alloc (.cells #[.slice a2 X2.length c2,.int .i64 0] 24)).cell? ⟨w.heap.size+1+1+1,1,none⟩=some (.int .i64 0):=H8.out.s.cell 1
 have q1:=aF_10
 have q2:=aF_21
 have qz:=aF_size
 have HSm:Hid _:=ssame_yes (aX w.heap.size) X (some ⟨w.heap.size+1+1,0,none⟩) a 1 c 0 (w7.alloc (.cells #[.slice a2 X2.length c2,.int .i64 0] 24)) H8.out.sc HS8.out.1 (aX_small _) HS8.out.2.2
 go_wp2_with fail
 generalize (w7.alloc (.cells #[.slice a2 X2.length c2,.int .i64 0] 24))=w8 at *
 refine Calls.mono HSm.out ?_
 rintro e w9 ⟨rfl,hb9⟩
 have HB9:Hid (Below w.heap.size w w9):=(H8.out.more hb9).bel
 clear HSm hb9
 go_wp2_with fail
 go_ret
 exact ⟨rfl,HB9.out⟩
end Go.Proofs.YtcgjgjjegnofeaaGreatDoor
namespace Go.Proofs.YtcgjgjjegnofeaaGreatDoor
open Go.RowKit Go.Maps Go.WideMaps Go.Sort
structure Lg (w W:World) (l:Lm):Prop where
 a:AtN 26 W w.heap.size #[.int .i64 l.b,.int .i64 l.n,.int .i64 l.e,.int .i64 l.d,.int .i64 l.x]
 bel:Below w.heap.size w W
structure L5 (w W:World) (a:Option Addr) (X:List Nx) (c:Nat) (r:Int) (l:Lm):Prop where
 s:AtN 24 W w.heap.size #[.slice a X.length c,.int .i64 r]
 l:AtN 26 W (w.heap.size+1) #[.int .i64 l.b,.int .i64 l.n,.int .i64 l.e,.int .i64 l.d,.int .i64 l.x]
 bel:Below w.heap.size w W
section
variable {w W W':World} {a:Option Addr} {X:List Nx} {c:Nat} {r q:Int} {l:Lm}
theorem Lg.more (h:Lg w W l) (hb:Below W.heap.size W W'):Lg w W' l:=⟨h.a.belowAll hb,h.bel.trans (hb.mono h.bel.size)⟩
theorem Lg.start (w:World) (l:Lm):Lg w (w.alloc (.cells #[.int .i64 l.b,.int .i64 l.n,.int .i64 l.e,.int .i64 l.d,.int .i64 l.x] 26)) l:=⟨AtN.new w 26 _,(Below.refl w.heap.size w).alloc (Nat.le_refl _) _⟩
theorem Lg.all (h:Lg w W l):W.cell? ⟨w.heap.size,0,none⟩=some (.int .i64 l.b)∧W.cell? ⟨w.heap.size,1,none⟩=some (.int .i64 l.n)∧W.cell? ⟨w.heap.size,2,none⟩=some (.int .i64 l.e)∧W.cell? ⟨w.heap.size,3,none⟩=some (.int .i64 l.d)∧W.cell? ⟨w.heap.size,4,none⟩=some (.int .i64 l.x):=
 ⟨h.a.cell 0,h.a.cell 1,h.a.cell 2,h.a.cell 3,h.a.cell 4⟩
theorem L5.more (h:L5 w W a X c r l) (hb:Below W.heap.size W W'):L5 w W' a X c r l:=⟨h.s.belowAll hb,h.l.belowAll hb,h.bel.trans (hb.mono h.bel.size)⟩
theorem L5.start (w:World) (a:Option Addr) (X:List Nx) (c:Nat) (r:Int) (l:Lm):L5 w ((w.alloc (.cells #[.slice a X.length c,.int .i64 r] 24)).alloc (.cells #[.int .i64 l.b,.int .i64 l.n,.int .i64 l.e,.int .i64 l.d,.int .i64 l.x] 26)) a X c r l:=
 ⟨(AtN.new w 24 _).alloc _,mk_at (AtN.new (w.alloc _) 26 _) (by simp),((Below.refl w.heap.size w).alloc (Nat.le_refl _) _).alloc (by simp) _⟩
theorem L5.sc (h:L5 w W a X c r l) (hs:IsSc w a X q):ScAt W a X:=hs.sc.belowB h.bel
theorem L5.all (h:L5 w W a X c r l):W.cell? ⟨w.heap.size,0,none⟩=some (.slice a X.length c)∧W.cell? ⟨w.heap.size,1,none⟩=some (.int .i64 r)∧W.cell? ⟨w.heap.size+1,0,none⟩=some (.int .i64 l.b)∧W.cell? ⟨w.heap.size+1,1,none⟩=some (.int .i64 l.n)∧W.cell? ⟨w.heap.size+1,2,none⟩=some (.int .i64 l.e)∧W.cell? ⟨w.heap.size+1,3,none⟩=some (.int .i64 l.d)∧W.cell? ⟨w.heap.size+1,4,none⟩=some (.int .i64 l.x):=
 ⟨h.s.cell 0,h.s.cell 1,h.l.cell 0,h.l.cell 1,h.l.cell 2,h.l.cell 3,h.l.cell 4⟩
end
section
variable {X Y:List Nx} {r:Int} {l:Lm} {d:Nat}
theorem same_tyG:∀(X Y:List Nx) (k:Nat),Y.map Nx.nd=X.map Nx.nd→tyG Y k=tyG X k
 | [],[],_,_=>rfl
 | x :: t,y :: u,k,h=>by
  simp only [List.map_cons,List.cons.injEq] at h
  unfold tyG
  rw [h.1,same_tyG t u (k+1) h.2]
 | [],_ :: _,_,h=>by simp at h
 | _ :: _,[],_,h=>by simp at h
theorem same_tyE (h:Y.map Nx.nd=X.map Nx.nd):tyE Y=tyE X:=congrArg Prod.fst (same_tyG X Y 0 h)
theorem same_tyZ (h:Y.map Nx.nd=X.map Nx.nd):tyZ Y=tyZ X:=congrArg Prod.snd (same_tyG X Y 0 h)
theorem same_edg (h:Y.map Nx.nd=X.map Nx.nd):edg Y=edg X:=by
 have e:∀Z:List Nx,edg Z=((Z.map Nx.nd).map fun N=>N.kids.length).sum:=fun Z=>by simp [edg,Function.comp_def]
 rw [e,e,h]
theorem same_allT (h:Y.map Nx.nd=X.map Nx.nd):allT Y=allT X:=by
 have e:∀Z:List Nx,allT Z=(Z.map Nx.nd).flatMap fun N=>N.texts:=fun Z=>by simp [allT,List.flatMap_map]
 rw [e,e,h]
theorem same_txb (h:Y.map Nx.nd=X.map Nx.nd):txb Y=txb X:=by
 unfold txb
 rw [same_allT h]
theorem same_meL (h:Y.map Nx.nd=X.map Nx.nd):meL Y d=meL X d:=by
 unfold meL
 rw [same_len h,same_edg h,same_txb h]
theorem same_va (h:Y.map Nx.nd=X.map Nx.nd) {e z:Int} (hv:VaIs Y r l d e z):VaIs X r l d e z:=by
 unfold VaIs at hv ⊢
 rw [same_tyE h,same_tyZ h,same_meL h] at hv
 rcases hv with q|q|⟨q1,q2,n,y,q3,q4⟩
 ·exact .inl q
 ·exact .inr (.inl q)
 ·exact .inr (.inr ⟨q1,q2,n,y,same_check h q3,q4⟩)
theorem SvIs.same {B:ByteArray} {e:Int} (h:Y.map Nx.nd=X.map Nx.nd) (hs:SvIs Y r l B e):SvIs X r l B e:=by
 obtain ⟨d,n,z,h1,h2,h3⟩:=hs
 refine ⟨d,n,z,same_depth h h1,same_va h h2,?_⟩
 rcases h3 with q|⟨h0,q⟩
 ·exact .inl q
 ·subst h0
  have hW:=(va_whole (same_va h h2)).2.1
  rw [show cF Y r=cF X r from by unfold cF cA cC;rw [same_cX h hW.2]] at q
  exact .inr ⟨rfl,q⟩
theorem can_sz (hS:Small X) (hf:X.length≤60) (hF:FnX X) (hW:Whole X r):(cA X r).size≤4000000∧(cC X r).size≤4000000:=by
 have h:=(bk_of hS hf hF hW (bare_nd (cX X r)) (pu_can hW (bare_nd (cX X r)))).2.size
 exact ⟨by omega,h.2⟩
end
end Go.Proofs.YtcgjgjjegnofeaaGreatDoor
