import Derived.Deep.RegionHeld3
import Derived.Test.YtcgjgjjegnofeaaGreatDoorPB25
import Derived.Test.YtcgjgjjegnofeaaGreatDoorPB27
import Derived.Test.YtcgjgjjegnofeaaGreatDoorPB23
import Derived.Test.YtcgjgjjegnofeaaGreatDoorPB24
import Derived.Test.YtcgjgjjegnofeaaGreatDoorPB21
import Derived.Test.YtcgjgjjegnofeaaGreatDoorPB19
import Derived.Test.YtcgjgjjegnofeaaGreatDoorPB15
import Derived.Deep.QuietTactic
import Derived.BigQuiet
import Derived.Laws.StructEq
import Derived.Lib.QuietBelow
import Derived.Deep.RegionLaw
import Derived.Laws.OwnMore
import Derived.Test.YtcgjgjjegnofeaaGreatDoorPB06
namespace Go.Proofs.YtcgjgjjegnofeaaGreatDoor
open Go.RowKit Go.Maps Go.WideMaps Go.Sort
def isF:List Sec→Bool
 | [s,t]=>decide (s.1=1) && decide (t.1=2)
 | _=>false
theorem isF_iff (S:List Sec):isF S=true↔∃A C,S=[(1,A),(2,C)]:=by
 constructor
 ·intro h
  match S,h with
  | [(a,A),(b,B)],h=>
   simp only [isF,Bool.and_eq_true,decide_eq_true_eq] at h
   obtain ⟨rfl,rfl⟩:=h
   exact ⟨A,B,rfl⟩
  | [],h=>cases h
  | [_],h=>cases h
  | _ :: _ :: _ :: _,h=>cases h
 ·rintro ⟨A,C,rfl⟩
  rfl
set_option maxRecDepth 10000 in
set_option maxHeartbeats 800000 in
theorem isform_any (S:List Sec) (a:Option Addr) (c g:Nat) (w:World) (ha:0<S.length→a=some ⟨g,0,none⟩) (hs:SecAt w g 0 S) :
  Calls Tryz.prog 38 #[.slice a S.length c] w fun e w'=>e=.returned (.bool (isF S))∧w'=w:=by
 by_cases hn:S.length=2
 ·obtain ⟨s,t,rfl⟩:∃s t,S=[s,t]:=by
   match S,hn with
   | [s,t],_=>exact ⟨s,t,rfl⟩
  obtain ⟨n1,B1⟩:=s
  obtain ⟨n2,B2⟩:=t
  obtain rfl:=ha (by simp)
  have s0:w.cell? ⟨g,0,none⟩=some (.int .i64 n1):=by simpa using (hs 0 (by simp)).2.1
  have s2:w.cell? ⟨g,2,none⟩=some (.int .i64 n2):=by simpa using (hs 1 (by simp)).2.1
  clear hn ha hs
  by_cases h1:n1=1
  ·subst h1
   by_cases h2:n2=2
   ·subst h2
    go_enter Tryz.func38,Tryz.ntmps38
    go_wp2_with fail
    go_ret
    exact ⟨rfl,rfl⟩
   ·have h2':(n2==2)=false:=by simpa using h2
    have hf:isF [(1,B1),(n2,B2)]=false:=by simp [isF,h2]
    rw [hf]
    go_enter Tryz.func38,Tryz.ntmps38
    go_wp2_with fail
    go_ret
    exact ⟨rfl,rfl⟩
  ·have h1':(n1==1)=false:=by simpa using h1
   have hf:isF [(n1,B1),(n2,B2)]=false:=by simp [isF,h1]
   rw [hf]
   go_enter Tryz.func38,Tryz.ntmps38
   go_wp2_with fail
   go_ret
   exact ⟨rfl,rfl⟩
 ·have hf:isF S=false:=by
   cases h:isF S with
   | false=>rfl
   | true=>obtain ⟨A,C,rfl⟩:=(isF_iff S).1 h;exact absurd rfl hn
  have hn':((S.length:Int)==2)=false:=by simp;omega
  rw [hf]
  clear ha hs hf hn
  go_enter Tryz.func38,Tryz.ntmps38
  go_wp2_with fail
  go_ret
  exact ⟨rfl,rfl⟩
set_option maxRecDepth 10000 in
set_option maxHeartbeats 2000000 in
theorem pfload_any (b:ByteArray) (l:Lm) (w:World) (hT:Tabs12 w) (hz:b.size≤100000000) (hQ:∀A C,ldK b l=(0,A,C)→A.size≤1000000∧C.size≤4000000∧∀L,pGet6 A 16777216 l.x=(0,L)→Qn C L l) (hl:∀i,i<5→-9223372036854775808≤(lmL l).getD i 0∧(lmL l).getD i 0≤9223372036854775807) :
  Calls Tryz.prog 15 #[.string b,.agg (liC l)] w fun e w'=>LdOut b l w w' e:=by
 have HA:Hid (∀(o1 o2:Obj),o1=.cells (liC l) 26→o2=.cells #[.slice none 0 0,.int .i64 0] 24→Gx w ((w.alloc o1).alloc o2) l):=by
  rintro _ _ rfl rfl
  exact ⟨(AtN.new w 26 _).alloc _,mk_at (AtN.new (w.alloc _) 24 _) (show _=w.heap.size+1 by simp),((Below.refl w.heap.size w).alloc (Nat.le_refl _) _).alloc (by simp) _⟩
 have hlC:liC l=#[.int .i64 l.b,.int .i64 l.n,.int .i64 l.e,.int .i64 l.d,.int .i64 l.x]:=rfl
 have HG:Hid (∀W,Calls Tryz.prog 37 #[.string ⟨#[68,73,79,82]⟩,.string b] W fun e w'=>FGot W w' e (pGet mD.data.toList b.data.toList)):=fun W=>fget_any mD b W hz
 have HN:Hid (∀(A C:ByteArray) (W:World),Below w.heap.size w W→ldK b l=(0,A,C)→Calls Tryz.prog 39 #[.string A,.string C,.agg #[.int .i64 l.b,.int .i64 l.n,.int .i64 l.e,.int .i64 l.d,.int .i64 l.x]] W fun e w'=>GeOut2 A C l W w' e):=fun A C W hW hk=>pnget2_any A C l W (hT.on hW) (hQ A C hk).1 (hQ A C hk).2.1 (hQ A C hk).2.2 hl
 obtain ⟨E,V,S,hq⟩:∃E V S,pGet mD.data.toList b.data.toList=(E,V,S):=⟨_,_,_,rfl⟩
 rw [hq] at HG
 have HP:Hid (pGet mD.data.toList b.data.toList=(E,V,S)):=hq
 clear hq hT hl hQ hz
 go_enter Tryz.func15,Tryz.ntmps15
 rw [hlC]
 go_wp2_with fail
 have hx0:=HA.out _ _ rfl rfl
 rw [hlC] at hx0
 refine (okl_any l _).mono ?_
 rintro e w1 ⟨rfl,hb1⟩
 have HX1:Hid (Gx w w1 l):=hx0.more hb1
 clear HA hx0 hb1 hlC
 have r0:w1.cell? ⟨w.heap.size+1,0,none⟩=some (.slice none 0 0):=HX1.out.r.cell 0
 have r1:w1.cell? ⟨w.heap.size+1,1,none⟩=some (.int .i64 0):=HX1.out.r.cell 1
 have f0:=HX1.out.r.fz 0
 have f1:=HX1.out.r.fz 1
 cases hok:okL l with
 | false=>
  have HV:Hid _:=ld_bad (LdIs.bad (ldK_1 b l hok) (by decide)) HX1.out.bel HX1.out.r
  clear HG HN
  go_wp2_with fail
  obtain ⟨v2,v1⟩:=HV.out _ rfl
  have c0:=v2.cell 0
  have c1:=v2.cell 1
  exact bodyPost_ret (v:=.tuple #[.agg #[.slice none 0 0,.int .i64 0],.int .i64 1]) (by simp [results,Tryz.results15,go_sem,c0,c1]) rfl v1
 | true=>
  have a0:w1.cell? ⟨w.heap.size,0,none⟩=some (.int .i64 l.b):=HX1.out.a.cell 0
  by_cases hlb:l.b<(b.size:Int)
  ·have HV:Hid _:=ld_bad (LdIs.bad (ldK_2 b l hok hlb) (by decide)) HX1.out.bel HX1.out.r
   clear HG HN
   go_wp2_with fail
   obtain ⟨v2,v1⟩:=HV.out _ rfl
   have c0:=v2.cell 0
   have c1:=v2.cell 1
   exact bodyPost_ret (v:=.tuple #[.agg #[.slice none 0 0,.int .i64 0],.int .i64 19]) (by simp [results,Tryz.results15,go_sem,c0,c1]) rfl v1
  ·have HLB:Hid ((b.size:Int)≤l.b):=Int.not_lt.1 hlb
   go_wp2_with fail
   refine Calls.mono (HG.out _) ?_
   rintro e w2 ⟨aS,cS,gS,rfl,haS,hsS,hb2⟩
   dsimp only at haS hsS ⊢
   have HX2:Hid (Gx w w2 l):=HX1.out.more hb2
   have HsS:Hid (SecAt w2 gS 0 S):=hsS
   have HaS:Hid (0<S.length→aS=some ⟨gS,0,none⟩):=haS
   clear HX1 hb2 r0 r1 f0 f1 a0 hsS haS HG
   have r0:w2.cell? ⟨w.heap.size+1,0,none⟩=some (.slice none 0 0):=HX2.out.r.cell 0
   have r1:w2.cell? ⟨w.heap.size+1,1,none⟩=some (.int .i64 0):=HX2.out.r.cell 1
   have f0:=HX2.out.r.fz 0
   have f1:=HX2.out.r.fz 1
   have HK:Hid (∀k:Int,(ldK b l).1=k→k≠0→Hid (∀W',W'=(w2.setCell ⟨w.heap.size+1,0,none⟩ (.slice none 0 0)).setCell ⟨w.heap.size+1,1,none⟩ (.int .i64 0)→AtN 24 W' (w.heap.size+1) #[.slice none 0 0,.int .i64 0]∧LdOut b l w W' (.returned (.tuple #[.agg #[.slice none 0 0,.int .i64 0],.int .i64 k])))):=fun k h1 h2=>ld_bad (LdIs.bad h1 h2) HX2.out.bel HX2.out.r
   by_cases hE:E=0
   ·subst hE
    by_cases hV:V=2
    ·subst hV
     have HI:Hid (Calls Tryz.prog 38 #[.slice aS S.length cS] w2 fun e w'=>e=.returned (.bool (isF S))∧w'=w2):=isform_any S aS cS gS w2 HaS.out HsS.out
     cases hf:isF S with
     | true=>
      rw [hf] at HI
      obtain ⟨B1,B2,rfl⟩:=(isF_iff S).1 hf
      obtain rfl:=HaS.out (by simp)
      have s1:w2.cell? ⟨gS,1,none⟩=some (.string B1):=by simpa using (HsS.out 0 (by simp)).2.2
      have s3:w2.cell? ⟨gS,3,none⟩=some (.string B2):=by simpa using (HsS.out 1 (by simp)).2.2
      have hgS:gS<w2.heap.size:=(HsS.out 0 (by simp)).1
      have hgN:gS≠w.heap.size+1:=fun q=>by
       have h1:=s1
       have h2:=HX2.out.r.cell 1
       rw [q,h2] at h1
       cases h1
      have hk:ldK b l=(0,B1,B2):=ldK_6 b l hok (Int.not_lt.2 HLB.out) (by rw [HP.out]) (by rw [HP.out]) (by rw [HP.out])
      have HNc:Hid (Calls Tryz.prog 39 #[.string B1,.string B2,.agg #[.int .i64 l.b,.int .i64 l.n,.int .i64 l.e,.int .i64 l.d,.int .i64 l.x]] w2.drew fun e w'=>GeOut2 B1 B2 l w2.drew w' e):=HN.out B1 B2 w2.drew (HX2.out.bel.trans ((bel_drew w2).mono HX2.out.bel.size)) hk
      have HGd:Hid (∀X:List Nx,∀r k:Int,GeIs B1 B2 l (X.map Nx.nd) r k→LdIs b l (X.map Nx.nd) r k):=fun X r k h=>.inr ⟨by rw [hk],by rw [hk];exact h⟩
      have HS:Hid (∀W,Below w2.heap.size w2 W→∀v0 v1 W',W'=(W.setCell ⟨w.heap.size+1,0,none⟩ v0).setCell ⟨w.heap.size+1,1,none⟩ v1∨W'=W→W'.cell? ⟨gS,1,none⟩=some (.string B1)∧W'.cell? ⟨gS,3,none⟩=some (.string B2)∧W'.cell? ⟨w.heap.size,0,none⟩=some (.int .i64 l.b)∧W'.cell? ⟨w.heap.size,1,none⟩=some (.int .i64 l.n)∧W'.cell? ⟨w.heap.size,2,none⟩=some (.int .i64 l.e)∧W'.cell? ⟨w.heap.size,3,none⟩=some (.int .i64 l.d)∧W'.cell? ⟨w.heap.size,4,none⟩=some (.int .i64 l.x)):=by
       intro W hW v0 v1 W' hW'
       have q1:=((bcell hW).1 gS 1 hgS).trans s1
       have q3:=((bcell hW).1 gS 3 hgS).trans s3
       have hA:=HX2.out.a.belowAll hW
       rcases hW' with rfl|rfl
       ·have hA2:=(hA.setOther ⟨w.heap.size+1,0,none⟩ (by show w.heap.size+1≠_;omega) v0).setOther ⟨w.heap.size+1,1,none⟩ (by show w.heap.size+1≠_;omega) v1
        refine ⟨?_,?_,hA2.cell 0,hA2.cell 1,hA2.cell 2,hA2.cell 3,hA2.cell 4⟩
        ·rw [World.cell?_setCell_other _ _ _ _ (by intro q;simp only [Addr.mk.injEq] at q;omega),World.cell?_setCell_other _ _ _ _ (by intro q;simp only [Addr.mk.injEq] at q;omega)];exact q1
        ·rw [World.cell?_setCell_other _ _ _ _ (by intro q;simp only [Addr.mk.injEq] at q;omega),World.cell?_setCell_other _ _ _ _ (by intro q;simp only [Addr.mk.injEq] at q;omega)];exact q3
       ·exact ⟨q1,q3,hA.cell 0,hA.cell 1,hA.cell 2,hA.cell 3,hA.cell 4⟩
      have hlt2:w.heap.size+1<w2.heap.size:=HX2.out.r.lt
      have K0:=HS.out w2 (Below.refl _ _) (.bool true) (.bool true) w2 (.inr rfl)
      have K1:=HS.out w2.drew (bel_drew w2) (.bool true) (.bool true) w2.drew (.inr rfl)
      clear hk HN HP HK HsS HaS hf s1 s3
      go_wp2_with fail
      refine Calls.mono HI.out ?_
      rintro e wq ⟨rfl,hwq⟩
      have hwq:=hwq.symm
      subst hwq
      clear HI
      go_wp2_with fail
      go_region_held3 (fun W=>W.cell? ⟨gS,1,none⟩=some (.string B1)∧W.cell? ⟨gS,3,none⟩=some (.string B2)∧W.cell? ⟨w.heap.size,0,none⟩=some (.int .i64 l.b)∧W.cell? ⟨w.heap.size,1,none⟩=some (.int .i64 l.n)∧W.cell? ⟨w.heap.size,2,none⟩=some (.int .i64 l.e)∧W.cell? ⟨w.heap.size,3,none⟩=some (.int .i64 l.d)∧W.cell? ⟨w.heap.size,4,none⟩=some (.int .i64 l.x)) (first|exact K3 _ _ _ (.inl rfl)|exact K3 (.bool true) (.bool true) _ (.inr rfl)|exact K1|exact K0)
       ((go_at_call 39;refine Calls.mono HNc.out ?_;rintro e w3 ⟨X,aX,cX,rX,kX,rfl,hg,hsc,hsm,hfn,hb3⟩;have HX3:Hid (Gx w w3 l):=(HX2.out.more (bel_drew w2)).more hb3;have K3:=HS.out w3 ((bel_drew w2).trans (hb3.mono (bel_drew w2).size));have r0:w3.cell? ⟨w.heap.size+1,0,none⟩=some (.slice none 0 0):=HX3.out.r.cell 0;have r1:w3.cell? ⟨w.heap.size+1,1,none⟩=some (.int .i64 0):=HX3.out.r.cell 1;have f0:=HX3.out.r.fz 0;have f1:=HX3.out.r.fz 1))
      have HV:Hid _:=ld_good (c:=cX) (W0:=w2) (HGd.out X rX kX hg) HX3.out.bel HX3.out.r (by omega) hsc hsm hfn
      clear HNc HGd hg hsc hsm hfn hb3 HX2 K0 K1 K3 HS
      go_wp2_with fail
      obtain ⟨v2,v1⟩:=HV.out _ rfl
      have c0:=v2.cell 0
      have c1:=v2.cell 1
      exact bodyPost_ret (v:=.tuple #[.agg #[.slice aX X.length cX,.int .i64 rX],.int .i64 kX]) (by simp [results,Tryz.results15,go_sem,c0,c1]) rfl v1
     | false=>
      rw [hf] at HI
      have HV:Hid _:=(HK.out 4 (ldK_5 b l hok (Int.not_lt.2 HLB.out) (by rw [HP.out]) (by rw [HP.out]) (by
       rw [HP.out]
       rintro ⟨⟨s1,A⟩,⟨t1,C⟩,q,q1,q2⟩
       dsimp only at q q1 q2
       subst q1 q2
       rw [(isF_iff S).2 ⟨A,C,q⟩] at hf
       cases hf)) (by decide)).out
      clear HN HP HK HsS HaS hf
      go_wp2_with fail
      refine Calls.mono HI.out ?_
      rintro e wq ⟨rfl,hwq⟩
      have hwq:=hwq.symm
      subst hwq
      clear HI
      go_wp2_with fail
      obtain ⟨v2,v1⟩:=HV.out _ rfl
      have c0:=v2.cell 0
      have c1:=v2.cell 1
      exact bodyPost_ret (v:=.tuple #[.agg #[.slice none 0 0,.int .i64 0],.int .i64 4]) (by simp [results,Tryz.results15,go_sem,c0,c1]) rfl v1
    ·have hV':((V:Int)==2)=false:=by simp;omega
     have hV'':((V:Int) != 2)=true:=by simp;omega
     have HV:Hid _:=(HK.out 7 (ldK_4 b l hok (Int.not_lt.2 HLB.out) (by rw [HP.out]) (by rw [HP.out];exact hV)) (by decide)).out
     clear HN HP HK HsS HaS hV
     go_wp2_with fail
     obtain ⟨v2,v1⟩:=HV.out _ rfl
     have c0:=v2.cell 0
     have c1:=v2.cell 1
     exact bodyPost_ret (v:=.tuple #[.agg #[.slice none 0 0,.int .i64 0],.int .i64 7]) (by simp [results,Tryz.results15,go_sem,c0,c1]) rfl v1
   ·have hE':((E:Int)==0)=false:=by simp;omega
    have hE'':((E:Int) != 0)=true:=by simp;omega
    have HV:Hid _:=(HK.out E (by rw [ldK_3 b l hok (Int.not_lt.2 HLB.out) (by rw [HP.out];exact hE),HP.out]) (by omega)).out
    clear HN HP HK HsS HaS hE
    go_wp2_with fail
    obtain ⟨v2,v1⟩:=HV.out _ rfl
    have c0:=v2.cell 0
    have c1:=v2.cell 1
    exact bodyPost_ret (v:=.tuple #[.agg #[.slice none 0 0,.int .i64 0],.int .i64 (E:Int)]) (by simp [results,Tryz.results15,go_sem,c0,c1]) rfl v1
end Go.Proofs.YtcgjgjjegnofeaaGreatDoor
namespace Go.Proofs.YtcgjgjjegnofeaaGreatDoor
open Go.RowKit
set_option maxRecDepth 10000 in
theorem wide_any (w:World):Calls Tryz.prog 21 #[] w fun e w'=>e=.returned (.agg #[.int .i64 16777216,.int .i64 16777216,.int .i64 16777216,.int .i64 16777216,.int .i64 16777216])∧Below w.heap.size w w':=by
 have HA:Hid (∀o:Obj,o=.cells #[.int .i64 16777216,.int .i64 16777216,.int .i64 16777216,.int .i64 16777216,.int .i64 16777216] 26→AtN 26 (w.alloc o) w.heap.size #[.int .i64 16777216,.int .i64 16777216,.int .i64 16777216,.int .i64 16777216,.int .i64 16777216]∧Below w.heap.size w (w.alloc o)):=by
  rintro _ rfl
  exact ⟨AtN.new w 26 _,(Below.refl w.heap.size w).alloc (Nat.le_refl _) _⟩
 go_enter Tryz.func21,Tryz.ntmps21
 go_wp2_with fail
 obtain ⟨h1,h2⟩:=HA.out _ rfl
 have c0:=h1.cell 0
 have c1:=h1.cell 1
 have c2:=h1.cell 2
 have c3:=h1.cell 3
 have c4:=h1.cell 4
 exact bodyPost_ret (v:=.agg #[.int .i64 16777216,.int .i64 16777216,.int .i64 16777216,.int .i64 16777216,.int .i64 16777216]) (by simp [results,Tryz.results21,go_sem,c0,c1,c2,c3,c4]) rfl ⟨rfl,h2⟩
theorem wL_rg:∀i,i<5→-9223372036854775808≤(lmL wL).getD i 0∧(lmL wL).getD i 0≤9223372036854775807:=fun i hi=>by
 rcases five_cases hi with rfl|rfl|rfl|rfl|rfl <;> decide
theorem few_q {b A C:ByteArray} {l:Lm} (hb:b.size≤3000) (h:ldK b l=(0,A,C)):A.size≤1000000∧C.size≤4000000∧∀L,pGet6 A 16777216 l.x=(0,L)→Qn C L l:=by
 obtain ⟨_,h1,h2⟩:=file_of (b:=b) (l:=l) (by rw [h])
 rw [h] at h1 h2
 dsimp only at h1 h2
 exact ⟨by omega,by omega,fun L hL=>qn_small hL (by omega) (by omega)⟩
theorem aF_10:((aF.extract 0 10).toList==[68,73,79,82,2,1,3,1,1,97])=true:=by
 have h:(aF.extract 0 10)=⟨#[68,73,79,82,2,1,3,1,1,97]⟩:=by
  refine ba_eq ?_
  rw [Lib.extract_data,aF_list]
  rfl
 rw [h]
 decide +kernel
theorem aF_21:((aF.extract 14 21).toList==[2,5,1,4,2,0,0])=true:=by
 have h:(aF.extract 14 21)=⟨#[2,5,1,4,2,0,0]⟩:=by
  refine ba_eq ?_
  rw [Lib.extract_data,aF_list]
  have h4:=four_length (crc aA.data.toList)
  generalize four (crc aA.data.toList)=q at *
  match q,h4 with
  | [q0,q1,q2,q3],_=>rfl
 rw [h]
 decide +kernel
set_option maxRecDepth 10000 in
set_option maxHeartbeats 2000000 in
theorem awake_any (w:World) (ht:Tabs12 w) :
  Calls Tryz.prog 10 #[] w fun e w'=>e=.returned (.bool true)∧Below w.heap.size w w':=by
 have HA:Hid (∀o1 o2 o3 o4:Obj,o1=.cells #[.int .i64 1] 2→o2=.cells #[.string aT] 9→o3=.cells #[.int .i64 4,.slice (some ⟨w.heap.size,0,none⟩) 1 1,.slice (some ⟨w.heap.size+1,0,none⟩) 1 1,.slice none 0 0] 62→o4=.cells #[.slice (some ⟨w.heap.size+1+1,0,none⟩) 1 1,.int .i64 0] 24→Aw w ((((w.alloc o1).alloc o2).alloc o3).alloc o4)):=by
  rintro _ _ _ _ rfl rfl rfl rfl
  exact ⟨(((AtN.new w 2 _).alloc _).alloc _).alloc _,((mk_at (AtN.new (w.alloc _) 9 _) (show _=w.heap.size+1 by simp)).alloc _).alloc _,(mk_at (AtN.new ((w.alloc _).alloc _) 62 _) (show _=w.heap.size+1+1 by simp)).alloc _,mk_at (AtN.new (((w.alloc _).alloc _).alloc _) 24 _) (show _=w.heap.size+1+1+1 by simp),((((Below.refl w.heap.size w).alloc (Nat.le_refl _) _).alloc (by simp) _).alloc (by simp;omega) _).alloc (by simp;omega) _⟩
 have HSv:Hid (∀W,Aw w W→Calls Tryz.prog 12 #[.agg #[.slice (some ⟨w.heap.size+1+1,0,none⟩) 1 1,.int .i64 0],.agg #[.int .i64 16777216,.int .i64 16777216,.int .i64 16777216,.int .i64 16777216,.int .i64 16777216]] W fun e w'=>e=.returned (.tuple #[.string aF,.int .i64 0])∧Below W.heap.size W w'):=fun W hW=>by
  refine Calls.mono (pfsave_any (aX w.heap.size) (some ⟨w.heap.size+1+1,0,none⟩) 1 0 wL W hW.sc (aX_small _) (aX_fn _) (ht.on hW.bel) (fun _=>by rw [aX_cA,aX_cC];decide)) ?_
  rintro e w' ⟨B,k,rfl,hs,hb⟩
  obtain ⟨rfl,rfl⟩:=(aF_save w.heap.size).uniq hs
  exact ⟨rfl,hb⟩
 have HLd:Hid (∀W,Below w.heap.size w W→Calls Tryz.prog 15 #[.string aF,.agg #[.int .i64 16777216,.int .i64 16777216,.int .i64 16777216,.int .i64 16777216,.int .i64 16777216]] W fun e w'=>∃(X:List Nx) (a:Option Addr) (c:Nat),e=.returned (.tuple #[.agg #[.slice a X.length c,.int .i64 0],.int .i64 0])∧X.map Nx.nd=(aX w.heap.size).map Nx.nd∧ScAt w' a X∧Small X∧Below W.heap.size W w'):=fun W hW=>by
  refine Calls.mono (pfload_any aF wL W (ht.on hW) (by rw [aF_size];decide) (fun A C q=>few_q (by rw [aF_size];decide) q) wL_rg) ?_
  rintro e w' ⟨X,a,c,r,k,rfl,hl,hs,hm,_,hb⟩
  obtain ⟨h1,rfl,rfl⟩:=(aF_load w.heap.size).uniq hl
  exact ⟨X,a,c,rfl,h1,hs w' (Fr.refl _ _),hm,hb⟩
 have HNo:Hid (∀W,Below w.heap.size w W→Calls Tryz.prog 15 #[.string ⟨#[68,73,79,82,3]⟩,.agg #[.int .i64 16777216,.int .i64 16777216,.int .i64 16777216,.int .i64 16777216,.int .i64 16777216]] W fun e w'=>∃(X:List Nx) (a:Option Addr) (c:Nat),e=.returned (.tuple #[.agg #[.slice a X.length c,.int .i64 0],.int .i64 7])∧Below W.heap.size W w'):=fun W hW=>by
  refine Calls.mono (pfload_any ⟨#[68,73,79,82,3]⟩ wL W (ht.on hW) (by decide) (fun A C q=>few_q (by decide) q) wL_rg) ?_
  rintro e w' ⟨X,a,c,r,k,rfl,hl,_,_,_,hb⟩
  obtain ⟨_,rfl,rfl⟩:=aF_no.uniq hl
  exact ⟨X,a,c,rfl,hb⟩
 clear ht
 go_enter Tryz.func10,Tryz.ntmps10
 go_wp2_with fail
 have h0:Aw w ((((w.alloc (.cells #[.int .i64 1] 2)).alloc (.cells #[.string ⟨#[97]⟩] 9)).alloc (.cells #[.int .i64 4,.slice (some ⟨w.heap.size,0,none⟩) 1 1,.slice (some ⟨w.heap.size+1,0,none⟩) 1 1,.slice none 0 0] 62)).alloc (.cells #[.slice (some ⟨w.heap.size+1+1,0,none⟩) 1 1,.int .i64 0] 24)):=HA.out _ _ _ _ rfl rfl rfl rfl
 generalize ((((w.alloc (.cells #[.int .i64 1] 2)).alloc (.cells #[.string ⟨#[97]⟩] 9)).alloc (.cells #[.int .i64 4,.slice (some ⟨w.heap.size,0,none⟩) 1 1,.slice (some ⟨w.heap.size+1,0,none⟩) 1 1,.slice none 0 0] 62)).alloc (.cells #[.slice (some ⟨w.heap.size+1+1,0,none⟩) 1 1,.int .i64 0] 24))=w0 at *
 have H0:Hid (Aw w w0):=h0
 have HD:Hid (Aw w w0.drew):=h0.more (bel_drew w0)
 have K0:w0.cell? ⟨w.heap.size+1+1+1,0,none⟩=some (.slice (some ⟨w.heap.size+1+1,0,none⟩) 1 1)∧w0.cell? ⟨w.heap.size+1+1+1,1,none⟩=some (.int .i64 0):=⟨h0.s.cell 0,h0.s.cell 1⟩
 have Kd:w0.drew.cell? ⟨w.heap.size+1+1+1,0,none⟩=some (.slice (some ⟨w.heap.size+1+1,0,none⟩) 1 1)∧w0.drew.cell? ⟨w.heap.size+1+1+1,1,none⟩=some (.int .i64 0):=⟨HD.out.s.cell 0,HD.out.s.cell 1⟩
 clear HA h0
 go_region_held3 (fun W=>W.cell? ⟨w.heap.size+1+1+1,0,none⟩=some (.slice (some ⟨w.heap.size+1+1,0,none⟩) 1 1)∧W.cell? ⟨w.heap.size+1+1+1,1,none⟩=some (.int .i64 0)) (first|exact K2|exact K1|exact Kd|exact K0)
  ((first|(go_at_call 12;refine Calls.mono (HSv.out _ H1.out) ?_;rintro e w2 ⟨rfl,hb2⟩;have H2:Hid (Aw w w2):=H1.out.more hb2;have K2:w2.cell? ⟨w.heap.size+1+1+1,0,none⟩=some (.slice (some ⟨w.heap.size+1+1,0,none⟩) 1 1)∧w2.cell? ⟨w.heap.size+1+1+1,1,none⟩=some (.int .i64 0):=⟨H2.out.s.cell 0,H2.out.s.cell 1⟩)|(go_at_call 21;refine Calls.mono (wide_any _) ?_;rintro e w1 ⟨rfl,hb1⟩;have H1:Hid (Aw w w1):=HD.out.more hb1;have K1:w1.cell? ⟨w.heap.size+1+1+1,0,none⟩=some (.slice (some ⟨w.heap.size+1+1,0,none⟩) 1 1)∧w1.cell? ⟨w.heap.size+1+1+1,1,none⟩=some (.int .i64 0):=⟨H1.out.s.cell 0,H1.out.s.cell 1⟩)))
 clear H0 HD H1 K0 Kd K1 K2 hb1 hb2 HSv
 go_wp2_with fail
 refine Calls.mono (wide_any _) ?_
 rintro e w3 ⟨rfl,hb3⟩
 have H3:Hid (Aw w w3):=H2.out.more hb3
 have HLc:Hid _:=HLd.out w3 H3.out.bel
 clear H2 hb3 HLd
 go_wp2_with fail
 refine Calls.mono HLc.out ?_
 rintro e w4 ⟨X,a,c,rfl,hX,hsc,hsm,hb4⟩
 have hb5:Below w4.heap.size w4 (w4.alloc (.cells #[.slice a X.length c,.int .i64 0] 24)):=(Below.refl w4.heap.size w4).alloc (Nat.le_refl _) _
 have HM5:Hid (AtN 24 (w4.alloc (.cells #[.slice a X.length c,.int .i64 0] 24)) w4.heap.size #[.slice a X.length c,.int .i64 0]):=AtN.new w4 24 _
 have H5:Hid (Aw w (w4.alloc (.cells #[.slice a X.length c,.int .i64 0] 24))):=(H3.out.more hb4).more hb5
 have HS5:Hid (ScAt (w4.alloc (.cells #[.slice a X.length c,.int .i64 0] 24)) a X∧Small X∧X.map Nx.nd=(aX w.heap.size).map Nx.nd):=⟨hsc.belowB hb5,hsm,hX⟩
 clear HLc H3 hb4 hb5 hX hsc hsm
 go_wp2_with fail
 generalize (w4.alloc (.cells #[.slice a X.length c,.int .i64 0] 24))=w5 at *
 refine Calls.mono (wide_any _) ?_
 rintro e w6 ⟨rfl,hb6⟩
 have H6:Hid (Aw w w6):=H5.out.more hb6
 have HM6:Hid (AtN 24 w6 w4.heap.size #[.slice a X.length c,.int .i64 0]):=HM5.out.belowAll hb6
 have HS6:Hid (ScAt w6 a X∧Small X∧X.map Nx.nd=(aX w.heap.size).map Nx.nd):=⟨HS5.out.1.belowB hb6,HS5.out.2⟩
 have HNc:Hid _:=HNo.out w6 H6.out.bel
 clear H5 HM5 HS5 hb6 HNo
 go_wp2_with fail
 refine Calls.mono HNc.out ?_
 rintro e w7 ⟨X2,a2,c2,rfl,hb7⟩
 have HB8:Hid (Below w6.heap.size w6 (w7.alloc (.cells #[.slice a2 X2.length c2,.int .i64 0] 24))):=hb7.alloc hb7.size _
 have H8:Hid (Aw w (w7.alloc (.cells #[.slice a2 X2.length c2,.int .i64 0] 24))):=H6.out.more HB8.out
 have HM8:Hid (AtN 24 (w7.alloc (.cells #[.slice a2 X2.length c2,.int .i64 0] 24)) w4.heap.size #[.slice a X.length c,.int .i64 0]):=HM6.out.belowAll HB8.out
 have HS8:Hid (ScAt (w7.alloc (.cells #[.slice a2 X2.length c2,.int .i64 0] 24)) a X∧Small X∧X.map Nx.nd=(aX w.heap.size).map Nx.nd):=⟨HS6.out.1.belowB HB8.out,HS6.out.2⟩
 clear HNc H6 HM6 HS6 hb7 HB8
 have m0:(w7.alloc (.cells #[.slice a2 X2.length c2,.int .i64 0] 24)).cell? ⟨w4.heap.size,0,none⟩=some (.slice a X.length c):=HM8.out.cell 0
 have m1:(w7.alloc (.cells #[.slice a2 X2.length c2,.int .i64 0] 24)).cell? ⟨w4.heap.size,1,none⟩=some (.int .i64 0):=HM8.out.cell 1
 have s0:(w7.alloc (.cells #[.slice a2 X2.length c2,.int .i64 0] 24)).cell? ⟨w.heap.size+1+1+1,0,none⟩=some (.slice (some ⟨w.heap.size+1+1,0,none⟩) 1 1):=H8.out.s.cell 0
 have s1:(w7.alloc (.cells #[.slice a2 X2.length c2,.int .i64 0] 24)).cell? ⟨w.heap.size+1+1+1,1,none⟩=some (.int .i64 0):=H8.out.s.cell 1
 have q1:=aF_10
 have q2:=aF_21
 have qz:=aF_size
 have HSm:Hid _:=ssame_yes (aX w.heap.size) X (some ⟨w.heap.size+1+1,0,none⟩) a 1 c 0 (w7.alloc (.cells #[.slice a2 X2.length c2,.int .i64 0] 24)) H8.out.sc HS8.out.1 (aX_small _) HS8.out.2.2
 go_wp2_with fail
 generalize (w7.alloc (.cells #[.slice a2 X2.length c2,.int .i64 0] 24))=w8 at *
 refine Calls.mono HSm.out ?_
 rintro e w9 ⟨rfl,hb9⟩
 have HB9:Hid (Below w.heap.size w w9):=(H8.out.more hb9).bel
 clear HSm hb9
 go_wp2_with fail
 go_ret
 exact ⟨rfl,HB9.out⟩
end Go.Proofs.YtcgjgjjegnofeaaGreatDoor
namespace Go.Proofs.YtcgjgjjegnofeaaGreatDoor
open Go.RowKit Go.Maps Go.WideMaps Go.Sort
theorem lm_all {l:Lm} (h:LmR l):∀i,i<5→-9223372036854775808≤(lmL l).getD i 0∧(lmL l).getD i 0≤9223372036854775807:=fun i hi=>by
 rcases five_cases hi with rfl|rfl|rfl|rfl|rfl
 ·exact h.b
 ·exact h.n
 ·exact h.e
 ·exact h.d
 ·exact h.x
structure Lg (w W:World) (l:Lm):Prop where
 a:AtN 26 W w.heap.size #[.int .i64 l.b,.int .i64 l.n,.int .i64 l.e,.int .i64 l.d,.int .i64 l.x]
 bel:Below w.heap.size w W
structure L5 (w W:World) (a:Option Addr) (X:List Nx) (c:Nat) (r:Int) (l:Lm):Prop where
 s:AtN 24 W w.heap.size #[.slice a X.length c,.int .i64 r]
 l:AtN 26 W (w.heap.size+1) #[.int .i64 l.b,.int .i64 l.n,.int .i64 l.e,.int .i64 l.d,.int .i64 l.x]
 bel:Below w.heap.size w W
section
variable {w W W':World} {a:Option Addr} {X:List Nx} {c:Nat} {r q:Int} {l:Lm}
theorem Lg.more (h:Lg w W l) (hb:Below W.heap.size W W'):Lg w W' l:=⟨h.a.belowAll hb,h.bel.trans (hb.mono h.bel.size)⟩
theorem Lg.start (w:World) (l:Lm):Lg w (w.alloc (.cells #[.int .i64 l.b,.int .i64 l.n,.int .i64 l.e,.int .i64 l.d,.int .i64 l.x] 26)) l:=⟨AtN.new w 26 _,(Below.refl w.heap.size w).alloc (Nat.le_refl _) _⟩
theorem Lg.all (h:Lg w W l):W.cell? ⟨w.heap.size,0,none⟩=some (.int .i64 l.b)∧W.cell? ⟨w.heap.size,1,none⟩=some (.int .i64 l.n)∧W.cell? ⟨w.heap.size,2,none⟩=some (.int .i64 l.e)∧W.cell? ⟨w.heap.size,3,none⟩=some (.int .i64 l.d)∧W.cell? ⟨w.heap.size,4,none⟩=some (.int .i64 l.x):=
 ⟨h.a.cell 0,h.a.cell 1,h.a.cell 2,h.a.cell 3,h.a.cell 4⟩
theorem L5.more (h:L5 w W a X c r l) (hb:Below W.heap.size W W'):L5 w W' a X c r l:=⟨h.s.belowAll hb,h.l.belowAll hb,h.bel.trans (hb.mono h.bel.size)⟩
theorem L5.start (w:World) (a:Option Addr) (X:List Nx) (c:Nat) (r:Int) (l:Lm):L5 w ((w.alloc (.cells #[.slice a X.length c,.int .i64 r] 24)).alloc (.cells #[.int .i64 l.b,.int .i64 l.n,.int .i64 l.e,.int .i64 l.d,.int .i64 l.x] 26)) a X c r l:=
 ⟨(AtN.new w 24 _).alloc _,mk_at (AtN.new (w.alloc _) 26 _) (by simp),((Below.refl w.heap.size w).alloc (Nat.le_refl _) _).alloc (by simp) _⟩
theorem L5.sc (h:L5 w W a X c r l) (hs:IsSc w a X q):ScAt W a X:=hs.sc.belowB h.bel
theorem L5.all (h:L5 w W a X c r l):W.cell? ⟨w.heap.size,0,none⟩=some (.slice a X.length c)∧W.cell? ⟨w.heap.size,1,none⟩=some (.int .i64 r)∧W.cell? ⟨w.heap.size+1,0,none⟩=some (.int .i64 l.b)∧W.cell? ⟨w.heap.size+1,1,none⟩=some (.int .i64 l.n)∧W.cell? ⟨w.heap.size+1,2,none⟩=some (.int .i64 l.e)∧W.cell? ⟨w.heap.size+1,3,none⟩=some (.int .i64 l.d)∧W.cell? ⟨w.heap.size+1,4,none⟩=some (.int .i64 l.x):=
 ⟨h.s.cell 0,h.s.cell 1,h.l.cell 0,h.l.cell 1,h.l.cell 2,h.l.cell 3,h.l.cell 4⟩
end
section
variable {X Y:List Nx} {r:Int} {l:Lm} {d:Nat}
theorem same_tyG:∀(X Y:List Nx) (k:Nat),Y.map Nx.nd=X.map Nx.nd→tyG Y k=tyG X k
 | [],[],_,_=>rfl
 | x :: t,y :: u,k,h=>by
  simp only [List.map_cons,List.cons.injEq] at h
  unfold tyG
  rw [h.1,same_tyG t u (k+1) h.2]
 | [],_ :: _,_,h=>by simp at h
 | _ :: _,[],_,h=>by simp at h
theorem same_tyE (h:Y.map Nx.nd=X.map Nx.nd):tyE Y=tyE X:=congrArg Prod.fst (same_tyG X Y 0 h)
theorem same_tyZ (h:Y.map Nx.nd=X.map Nx.nd):tyZ Y=tyZ X:=congrArg Prod.snd (same_tyG X Y 0 h)
theorem same_edg (h:Y.map Nx.nd=X.map Nx.nd):edg Y=edg X:=by
 have e:∀Z:List Nx,edg Z=((Z.map Nx.nd).map fun N=>N.kids.length).sum:=fun Z=>by simp [edg,Function.comp_def]
 rw [e,e,h]
theorem same_allT (h:Y.map Nx.nd=X.map Nx.nd):allT Y=allT X:=by
 have e:∀Z:List Nx,allT Z=(Z.map Nx.nd).flatMap fun N=>N.texts:=fun Z=>by simp [allT,List.flatMap_map]
 rw [e,e,h]
theorem same_txb (h:Y.map Nx.nd=X.map Nx.nd):txb Y=txb X:=by
 unfold txb
 rw [same_allT h]
theorem same_meL (h:Y.map Nx.nd=X.map Nx.nd):meL Y d=meL X d:=by
 unfold meL
 rw [same_len h,same_edg h,same_txb h]
theorem same_va (h:Y.map Nx.nd=X.map Nx.nd) {e z:Int} (hv:VaIs Y r l d e z):VaIs X r l d e z:=by
 unfold VaIs at hv ⊢
 rw [same_tyE h,same_tyZ h,same_meL h] at hv
 rcases hv with q|q|⟨q1,q2,n,y,q3,q4⟩
 ·exact .inl q
 ·exact .inr (.inl q)
 ·exact .inr (.inr ⟨q1,q2,n,y,same_check h q3,q4⟩)
theorem SvIs.same {B:ByteArray} {e:Int} (h:Y.map Nx.nd=X.map Nx.nd) (hs:SvIs Y r l B e):SvIs X r l B e:=by
 obtain ⟨d,n,z,h1,h2,h3⟩:=hs
 refine ⟨d,n,z,same_depth h h1,same_va h h2,?_⟩
 rcases h3 with q|⟨h0,q⟩
 ·exact .inl q
 ·subst h0
  have hW:=(va_whole (same_va h h2)).2.1
  rw [show cF Y r=cF X r from by unfold cF cA cC;rw [same_cX h hW.2]] at q
  exact .inr ⟨rfl,q⟩
theorem can_sz (hS:Small X) (hf:X.length≤60) (hF:FnX X) (hW:Whole X r):(cA X r).size≤4000000∧(cC X r).size≤4000000:=by
 have h:=(bk_of hS hf hF hW (bare_nd (cX X r)) (pu_can hW (bare_nd (cX X r)))).2.size
 exact ⟨by omega,h.2⟩
end
end Go.Proofs.YtcgjgjjegnofeaaGreatDoor
namespace Go.Proofs.YtcgjgjjegnofeaaGreatDoor
open Go.RowKit
end Go.Proofs.YtcgjgjjegnofeaaGreatDoor
namespace Go.Proofs.YtcgjgjjegnofeaaGreatDoor
open Go.RowKit
theorem wrap64_small (n:Nat) (h:n<256):wrap64 (n:Int)=n:=by unfold wrap64;omega
def FGotC (w w':World) (e:Ending) (q:Nat × Nat × List Sec):Prop:=
 ∃(a:Option Addr) (cap gk:Nat),e=.returned (.tuple #[.int .i64 (q.2.1:Nat),.slice a q.2.2.length cap,.int .i64 (q.1:Nat)])∧(0<q.2.2.length→a=some ⟨gk,0,none⟩)∧SecAt w' gk 0 q.2.2∧Below w.heap.size w w'∧q.2.2.length≤cap
theorem FGotC.none {w w':World} (e:Nat) (hb:Below w.heap.size w w'):FGotC w w' (.returned (.tuple #[.int .i64 0,.slice none 0 0,.int .i64 e])) (e,0,[]):=
 ⟨_,0,0,rfl,by simp,fun i hi=>by simp at hi,hb,Nat.le_refl 0⟩
theorem FGotC.weak {w w':World} {e:Ending} {q:Nat × Nat × List Sec} (h:FGotC w w' e q):FGot w w' e q:=by
 obtain ⟨a,cap,gk,h1,h2,h3,h4,_⟩:=h
 exact ⟨a,cap,gk,h1,h2,h3,h4⟩
theorem own_cap4 {w:World} {B:Nat} {a:Option Addr} {n cap:Nat} {xs:List Value} (h:w.ownsRow B 52 2 (.slice a n cap) n xs):n≤cap:=by
 rcases h.2 with ⟨hv,h0⟩|⟨g,cap',cur,hv,hb,hg,hc,_⟩
 ·omega
 ·injection hv with _ _ h3
  omega
theorem fz3 {w w':World} (E:Nat) (e:Ending) (res:Nat × List Sec) (V:Nat) (hr:res=(E,[])) (hE:E≠0) (he:e=.returned (.tuple #[.int .i64 0,.slice none 0 0,.int .i64 (E:Int)])) (hb:Below w.heap.size w w'):FGotC w w' e (fin3 res V):=by
 subst hr
 subst he
 rw [fin3_bad hE]
 exact FGotC.none E hb
set_option maxRecDepth 10000 in
set_option maxHeartbeats 800000 in
theorem rget_go (m b:ByteArray) (w:World) (res:Nat × List Sec) (hm:m.size=4) (hb:b.size≤100000000) (hp:b.data.toList.take 4=m.data.toList) (h5:4<b.size) (hv:b[4].toNat≠0) (hres:res=secsL 8 (b.data.toList.drop 5)) :
  Calls Tryz.prog 24 #[.string m,.string b] w fun e w'=>FGotC w w' e (fin3 res b[4].toNat):=by
 have hm':(m.size:Int)=4:=by omega
 have hb4:¬(b.size:Int)<4:=by omega
 have hb5:(4:Int)<b.size:=by omega
 have hb6:¬(b.size:Int)=4:=by omega
 have hv':¬(b[4].toNat:Int)=0:=by omega
 have hq:((b.extract 0 4).toList==m.toList)=true:=by
  rw [ByteArray.toList_eq,ByteArray.toList_eq,(take4_eq m b).1 hp];simp
 have HRES:Hid (res=secsL 8 (b.data.toList.drop 5)):=hres
 have hown0:(w.alloc (.cells #[] 52)).ownsRow w.heap.size 52 2 (.slice (some ⟨w.heap.size,0,none⟩) 0 0) 0 (sV []):=World.ownsRow_lit w #[] 0 (Nat.le_refl _) (by decide) (by simp)
 have hbel:Below w.heap.size w (w.alloc (.cells #[] 52)):=(Below.refl _ _).alloc (Nat.le_refl _) _
 obtain ⟨i0,hi,hz0,hz1,hz2⟩:=info_parts Tryz.infoS
 have hw4:wrap64 (b[4].toNat:Int)=b[4].toNat:=wrap64_small _ b[4].toNat_lt
 clear hm hp hv hres
 go_enter Tryz.func24,Tryz.ntmps24
 go_wp2_with fail
 go_loopw [7,8] (fun ov av wr=>∃(n A:Nat) (a:Option Addr) (cap:Nat) (xs:List Sec),ov=.slice a n cap∧av=.int .i64 A∧wr.ownsRow w.heap.size 52 2 (.slice a n cap) n (sV xs)∧n≤8∧A≤b.size∧Below w.heap.size w wr∧Hid (xs.length=n∧res=cont xs (secsL (8-n) (b.data.toList.drop A)))) (fun _ av _=>b.size-(intOf av).toNat)
 case atStart=>exact ⟨0,5,_,_,[],rfl,rfl,hown0,by omega,by omega,hbel,rfl,by rw [HRES.out,cont_nil]⟩
 case round=>
  clear hown0 hbel HRES hm' hb4 hb6 hq
  obtain ⟨n,A,a,cap,xs,rfl,rfl,hown,hn,hA,hB,HX⟩:=hrel
  by_cases hlt:A<b.size
  ·have hlt':(A:Int)<b.size:=by omega
   have hdrop:=drop_atB b A hlt
   have hne:b.data.toList.drop A≠[]:=by rw [hdrop];simp
   by_cases h8:n=8
   ·subst h8
    have HQ:Hid (res=(8,[])):=by
     obtain ⟨_,h2⟩:=HX.out
     show _=_
     rw [h2,secsL_full _ hne,cont_bad (by decide)]
    clear HX hdrop hne
    go_wp2_with fail
    go_ret3
    exact fz3 8 _ res _ HQ.out (by decide) rfl hB
   have h8':¬(n:Int)=8:=by omega
   have hbad:Hid (∀E,(sec1 (b.data.toList.drop A)).1=E→E≠0→res=(E,[])):=fun E hE h0=>by
    obtain ⟨_,h2⟩:=HX.out
    rw [show 8-n=(8-(n+1))+1 by omega,secsL_bad _ _ hne (by rw [hE];exact h0),cont_bad (by rw [hE];exact h0),hE] at h2
    exact h2
   have hgood:Hid ((sec1 (b.data.toList.drop A)).1=0→xs.length=n∧res=cont (xs++[(sec1 (b.data.toList.drop A)).2.1]) (secsL (8-(n+1)) (b.data.toList.drop (A+(sec1 (b.data.toList.drop A)).2.2)))):=fun h0=>by
    obtain ⟨h1,h2⟩:=HX.out
    rw [show 8-n=(8-(n+1))+1 by omega,secsL_go _ _ hne h0,cont_cont,List.drop_drop] at h2
    exact ⟨h1,h2⟩
   rw [hdrop,sec1_cons] at hbad hgood
   have hnum:dec 0 0 (b.data.toList.drop (A+1))=num b (A+1):=rfl
   have hlen:(b.data.toList.drop (A+1)).length=b.size-(A+1):=by rw [List.length_drop,list_size]
   rw [hnum] at hbad hgood
   have G:=fun W=>refget_any b ((A+1:Nat):Int) W (by unfold maxLen;omega)
   have gy:=got_yes b (A+1) (by omega)
   have gn:=got_no b (A+1) (by omega)
   have hok:=fun h=>num_ok b (A+1) h (by omega)
   clear hdrop hne HX hnum
   generalize num b (A+1)=d at *
   obtain ⟨N,M,E⟩:=d
   dsimp only at *
   by_cases hc:b[A].toNat=0
   ·have hc':(b[A].toNat:Int)=0:=by omega
    have HQ:Hid (res=(4,[])):=hbad.out 4 (by unfold sec0;rw [if_pos hc]) (by decide)
    clear hbad hgood G gy gn hok hc
    go_wp2_with fail
    go_ret3
    exact fz3 4 _ res _ HQ.out (by decide) rfl hB
   have hc':¬(b[A].toNat:Int)=0:=by omega
   by_cases hE:E≠0
   ·have HQ:Hid (res=(E,[])):=hbad.out E (by unfold sec0;rw [if_neg hc,if_pos hE]) hE
    rw [gn hE] at G
    have hE':((E:Int) != 0)=true:=by simpa using (by omega:¬(E:Int)=0)
    have HE:Hid (E≠0):=hE
    have HG:Hid _:=G
    rw [Int.natCast_add] at HG
    clear hbad hgood G gy gn hok hc hE
    go_wp2_with fail
    refine (HG.out _).mono ?_
    rintro e w1 ⟨rfl,rfl⟩
    go_wp2_with fail
    go_ret3
    exact fz3 E _ res _ HQ.out HE.out rfl hB
   have hE0:E=0:=by omega
   subst hE0
   rw [gy rfl] at G
   obtain ⟨o1,o2,o3⟩:=hok rfl
   obtain ⟨nx,HN⟩:∃nx,Hid (nx=A+1+M):=⟨_,rfl⟩
   have hnb:nx≤b.size:=by have:=HN.out;omega
   rw [show ((A+1:Nat):Int)+(M:Int)=(nx:Int) by have:=HN.out;omega] at G
   have HG:Hid _:=G
   rw [Int.natCast_add] at HG
   clear G gy gn hok
   by_cases h3:16777216<N
   ·have h3':(16777216:Int)<N:=by omega
    have HQ:Hid (res=(19,[])):=hbad.out 19 (by unfold sec0;rw [if_neg hc,if_neg (by simp),if_pos h3]) (by decide)
    clear hbad hgood hc h3
    go_wp2_with fail
    refine (HG.out _).mono ?_
    rintro e w1 ⟨rfl,rfl⟩
    go_wp2_with fail
    go_ret3
    exact fz3 19 _ res _ HQ.out (by decide) rfl hB
   have h3':¬(16777216:Int)<N:=by omega
   by_cases h4:b.size<nx+N+4
   ·have h4':(b.size:Int)-((nx:Int)+N)<4:=by omega
    have HQ:Hid (res=(2,[])):=hbad.out 2 (by unfold sec0;rw [if_neg hc,if_neg (by simp),if_neg h3,if_pos (by dsimp only;rw [hlen];have:=HN.out;omega)]) (by decide)
    clear hbad hgood hc h3
    go_wp2_with fail
    refine (HG.out _).mono ?_
    rintro e w1 ⟨rfl,rfl⟩
    go_wp2_with fail
    go_ret3
    exact fz3 2 _ res _ HQ.out (by decide) rfl hB
   have h4':¬(b.size:Int)-((nx:Int)+N)<4:=by omega
   have hwA:wrap64 (b[A].toNat:Int)=b[A].toNat:=wrap64_small _ b[A].toNat_lt
   have hnx:=HN.out
   have hs0:sec0 b[A] (b.data.toList.drop (A+1)) (N,M,0)=if (b.extract (nx+N) (nx+N+4)).data.toList≠four (crc (b.extract nx (nx+N)).data.toList) then (5,(0,⟨#[]⟩),0) else (0,((b[A].toNat:Int),b.extract nx (nx+N)),1+M+N+4):=by
    have dS:(b.extract (nx+N) (nx+N+4)).data.toList=((b.data.toList.drop (A+1)).drop (M+N)).take 4:=by rw [drop_take_extract,List.drop_drop,hnx,← Nat.add_assoc]
    have dP:(b.extract nx (nx+N)).data.toList=((b.data.toList.drop (A+1)).drop M).take N:=by rw [drop_take_extract,List.drop_drop,hnx]
    have eP:b.extract nx (nx+N)=⟨(((b.data.toList.drop (A+1)).drop M).take N).toArray⟩:=ba_ext dP
    unfold sec0
    rw [if_neg hc,if_neg (by simp),if_neg h3,if_neg (by dsimp only;rw [hlen];omega),dS,dP,eP]
   rw [hs0] at hbad hgood
   have hPsz:(b.extract nx (nx+N)).size≤281474976710656:=by rw [ByteArray.size_extract];omega
   have cS:∀W:World,Calls Tryz.prog 53 #[.string (b.extract nx (nx+N))] W fun e w'=>e=.returned (.int .u32 (crc (b.extract nx (nx+N)).data.toList:Nat))∧w'=W:=fun W=>refsum_any _ W hPsz
   have cP:∀W:World,Calls Tryz.prog 52 #[.int .u32 (crc (b.extract nx (nx+N)).data.toList:Nat)] W fun e w'=>e=.returned (.string ⟨(four (crc (b.extract nx (nx+N)).data.toList)).toArray⟩)∧Below W.heap.size W w':=fun W=>refput4_any _ W (crc_lt _)
   have hd4:(ByteArray.mk (four (crc (b.extract nx (nx+N)).data.toList)).toArray).data.toList=four (crc (b.extract nx (nx+N)).data.toList):=rfl
   rw [← hd4] at hbad hgood
   generalize ByteArray.mk (four (crc (b.extract nx (nx+N)).data.toList)).toArray=X at *
   generalize crc (b.extract nx (nx+N)).data.toList=C at *
   have cS':∀d os,Calls Tryz.prog 53 #[.string (b.extract nx (nx+N))] (Go.Sort.grow (redrawn wr d) os) fun e w''=>e=.returned (.int .u32 (C:Nat))∧∃p:Regrown,w''=Go.Sort.grow (redrawn wr p.d) p.os:=fun d os=>Calls.regrown_of ((cS _).mono fun _ _ ⟨h1,h2⟩=>⟨h1,by rw [h2];exact Below.refl _ _⟩)
   have cP':∀d os,Calls Tryz.prog 52 #[.int .u32 (C:Nat)] (Go.Sort.grow (redrawn wr d) os) fun e w''=>e=.returned (.string X)∧∃p:Regrown,w''=Go.Sort.grow (redrawn wr p.d) p.os:=fun d os=>Calls.regrown_of (cP _)
   have KS:Hid _:=cS'
   have KP:Hid _:=cP'
   clear cS cP cS' cP' hd4 hs0 hPsz hnx
   have hcmp:((b.extract (nx+N) (nx+N+4)).toList==X.toList)=decide ((b.extract (nx+N) (nx+N+4)).data.toList=X.data.toList):=by
    rw [ByteArray.toList_eq,ByteArray.toList_eq];simp [Bool.beq_eq_decide_eq]
   have g1:(nx:Int)+N+4≤b.size:=by omega
   have g2:(nx:Int)+N≤b.size:=by omega
   have g3:(0:Int)≤(nx:Int)+N:=by omega
   have g4:(nx:Int)≤(nx:Int)+N:=by omega
   by_cases h5':(b.extract (nx+N) (nx+N+4)).data.toList=X.data.toList
   ·have HQ:=hgood.out (by rw [if_neg (by simpa using h5')])
    rw [if_neg (by simpa using h5')] at HQ
    have HW:Hid _:=HQ
    dsimp only at HW
    have hPs:(b.extract nx (nx+N)).size≤100000000:=by rw [ByteArray.size_extract];omega
    have HAd:Hid (A+(1+M+N+4)=nx+N+4):=by have:=HN.out;show _=_;omega
    rw [HAd.out] at HW
    rw [decide_eq_true h5'] at hcmp
    clear hbad hgood hc h3 h5' HQ HAd
    go_wp2_with fail
    refine (HG.out _).mono ?_
    rintro e w1 ⟨rfl,rfl⟩
    go_wp2_with fail
    refine wp_region_quiet_below (by kernel_rfl) (by kernel_rfl) ?_
    repeat (first|go_big_quiet_step (first|(go_at_call 53;exact KS.out _ _)|(go_at_call 52;exact KP.out _ _))|quiet_step (first|(go_at_call 53;exact KS.out _ _)|(go_at_call 52;exact KP.out _ _)))
    refine wpQuiet_nil ?_
    intro _ hw'
    obtain ⟨⟨dq,osq⟩,hw''⟩:=hw'
    subst hw''
    have hB5:Below w.heap.size w (Go.Sort.grow (redrawn w1 dq) osq):=hB.trans ((below_regrown w1 dq osq).mono hB.size)
    have ho5:=hown.kept (gbelow (row:=Option.none) (below_regrown w1 dq osq)) (by cases h:(Value.slice a n cap).ownBlock <;> simp)
    clear KS KP HG hown hB
    generalize Go.Sort.grow (redrawn w1 dq) osq=w5 at *
    have hT:((nx:Int)+N).toNat=nx+N:=by omega
    have hwI:IntKind.i64.wrap (b[A].toNat:Int)=b[A].toNat:=by rw [IntKind.wrap_i64];have:=b[A].toNat_lt;omega
    have hlt5:=fun q hq=>(ho5.lt q hq).1
    go_wp2_with fail
    go_region_law (refine step_append_lies _ rfl (.tmp 79) (.tmp 89) 48 rfl w.heap.size 52 i0 (.agg #[.int .i64 0,.string ⟨#[]⟩]) 2 24 Tryz.underlying48 hi hz0 hz1 hz2 rfl (by decide) _ n (sV xs) rfl (ho5.alloc _).drew ⟨w5.heap.size,0,none⟩ 1 1 [.int .i64 (b[A].toNat:Int),.string (b.extract nx (nx+N))] rfl rfl (World.news_of_block (heap_alloc_new w5 _)) (by intro u hu;simp at hu;rcases hu with rfl|rfl <;> rfl) (by decide) (by unfold maxLen;omega) (by omega) (by simp;exact Nat.le_succ_of_le hB5.size) _ rfl ?_;intro g2 cap2 w6 hown2 hgrow2 _ _)
    all_goals
     have hB6:Below w.heap.size w w6:=(hB5.alloc hB5.size _).drew.grown hgrow2 (by simp;exact Nat.le_succ_of_le hB5.size) hlt5
     go_wp2_with fail
     go_roundw
     case rel=>
      obtain ⟨q1,q2⟩:=HW.out
      exact ⟨n+1,nx+N+4,_,cap2,xs++[((b[A].toNat:Int),b.extract nx (nx+N))],rfl,by go_num,by rw [sV_append];exact hown2,by omega,by omega,hB6,by simp;omega,q2⟩
     case measure=>have:=HN.out;simp [intOf];omega
   ·have HQ:Hid (res=(5,[])):=hbad.out 5 (by rw [if_pos h5']) (by decide)
    rw [decide_eq_false h5'] at hcmp
    clear hbad hgood hc h3 h4 h5'
    go_wp2_with fail
    refine (HG.out _).mono ?_
    rintro e w1 ⟨rfl,rfl⟩
    go_wp2_with fail
    refine wp_region_quiet_below (by kernel_rfl) (by kernel_rfl) ?_
    repeat (first|go_big_quiet_step (first|(go_at_call 53;exact KS.out _ _)|(go_at_call 52;exact KP.out _ _))|quiet_step (first|(go_at_call 53;exact KS.out _ _)|(go_at_call 52;exact KP.out _ _)))
    refine wpQuiet_nil ?_
    intro _ hw'
    obtain ⟨⟨dq,osq⟩,hw''⟩:=hw'
    subst hw''
    go_wp2_with fail
    go_ret3
    exact fz3 5 _ res _ HQ.out (by decide) rfl (hB.trans ((below_regrown w1 dq osq).mono hB.size))
  ·have HQ:Hid (fin3 res b[4].toNat=(0,b[4].toNat,xs)∧xs.length=n):=by
    obtain ⟨h1,h2⟩:=HX.out
    rw [drop_end b A (by omega),secsL_nil,cont_ok rfl,List.append_nil] at h2
    exact ⟨by rw [h2];rfl,h1⟩
   clear HX
   go_wp2_with fail
   go_ret3
   obtain ⟨hq,hl⟩:=HQ.out
   rw [hq]
   obtain ⟨gk,h1,h2⟩:=own_secs hown hl
   have hcp:=own_cap4 hown
   refine ⟨a,cap,gk,?_,by rw [← hl] at h1;exact h1,h2,hB,by rw [← hl] at hcp;exact hcp⟩
   rw [← hl]
   show Ending.returned (.tuple #[.int .i64 (wrap64 (b[4].toNat:Int)),_,_])=_
   rw [hw4]
   rfl
set_option maxRecDepth 10000 in
set_option maxHeartbeats 400000 in
theorem rget_no (m b:ByteArray) (w:World) (hb:b.size≤100000000) (h:m.size≠4∨b.data.toList.take 4≠m.data.toList) :
  Calls Tryz.prog 24 #[.string m,.string b] w fun e w'=>FGotC w w' e (6,0,[]):=by
 by_cases hm:m.size=4
 ·have hm':(m.size:Int)=4:=by omega
  by_cases hb4:b.size<4
  ·have hb4':(b.size:Int)<4:=by omega
   clear h
   go_enter Tryz.func24,Tryz.ntmps24
   go_wp2_with fail
   go_ret3
   exact FGotC.none 6 (Below.refl _ _)
  ·have hb4':¬(b.size:Int)<4:=by omega
   have hq:((b.extract 0 4).toList==m.toList)=false:=by
    rw [ByteArray.toList_eq,ByteArray.toList_eq,beq_eq_false_iff_ne]
    intro e
    rcases h with h|h
    ·exact h hm
    ·exact h ((take4_eq m b).2 (ba_ext e))
   clear h
   go_enter Tryz.func24,Tryz.ntmps24
   go_wp2_with fail
   go_ret3
   exact FGotC.none 6 (Below.refl _ _)
 ·have hm':¬(m.size:Int)=4:=by omega
  clear h
  go_enter Tryz.func24,Tryz.ntmps24
  go_wp2_with fail
  go_ret3
  exact FGotC.none 6 (Below.refl _ _)
set_option maxRecDepth 10000 in
set_option maxHeartbeats 400000 in
theorem rget_early (m b:ByteArray) (w:World) (hm:m.size=4) (hb:b.size≤100000000) (hp:b.data.toList.take 4=m.data.toList) :
  (b.size=4→Calls Tryz.prog 24 #[.string m,.string b] w fun e w'=>FGotC w w' e (2,0,[]))∧(∀h:4<b.size,b[4].toNat=0→Calls Tryz.prog 24 #[.string m,.string b] w fun e w'=>FGotC w w' e (7,0,[])):=by
 have hm':(m.size:Int)=4:=by omega
 have hq:((b.extract 0 4).toList==m.toList)=true:=by
  rw [ByteArray.toList_eq,ByteArray.toList_eq,(take4_eq m b).1 hp];simp
 clear hp
 constructor
 ·intro h4
  have h4':(b.size:Int)=4:=by omega
  go_enter Tryz.func24,Tryz.ntmps24
  go_wp2_with fail
  go_ret3
  exact FGotC.none 2 (Below.refl _ _)
 ·intro h5 hz
  have hb4:¬(b.size:Int)<4:=by omega
  have hb5:(4:Int)<b.size:=by omega
  have hb6:¬(b.size:Int)=4:=by omega
  have hz':(b[4].toNat:Int)=0:=by omega
  clear hz
  go_enter Tryz.func24,Tryz.ntmps24
  go_wp2_with fail
  go_ret3
  exact FGotC.none 7 (Below.refl _ _)
theorem rget2_any (m b:ByteArray) (w:World) (hb:b.size≤100000000) :
  Calls Tryz.prog 24 #[.string m,.string b] w fun e w'=>FGotC w w' e (pGet m.data.toList b.data.toList):=by
 by_cases h:m.size≠4∨b.data.toList.take 4≠m.data.toList
 ·have hG:pGet m.data.toList b.data.toList=(6,0,[]):=by unfold pGet;rw [if_pos (by rw [list_size];exact h)]
  rw [hG]
  exact rget_no m b w hb h
 ·have hm:m.size=4:=by omega
  have hp:b.data.toList.take 4=m.data.toList:=by simpa using fun e=>h (.inr e)
  have h4:4≤b.size:=by
   have h1:=congrArg List.length hp
   rw [List.length_take,list_size,list_size] at h1
   omega
  obtain ⟨e1,e2⟩:=rget_early m b w hm hb hp
  have hG:pGet m.data.toList b.data.toList=match b.data.toList.drop 4 with
    | []=>(2,0,[])
    | v :: r=>if v.toNat=0 then (7,0,[]) else if (secsL 8 r).1≠0 then ((secsL 8 r).1,0,[]) else (0,v.toNat,(secsL 8 r).2):=by
   unfold pGet
   rw [if_neg (by rw [list_size];exact h)]
   cases b.data.toList.drop 4 <;> rfl
  by_cases h5:4<b.size
  ·rw [drop_atB b 4 h5] at hG
   dsimp only at hG
   by_cases hz:b[4].toNat=0
   ·rw [if_pos hz] at hG
    rw [hG]
    exact e2 h5 hz
   ·rw [if_neg hz] at hG
    rw [hG]
    exact rget_go m b w (secsL 8 (b.data.toList.drop 5)) hm hb hp h5 hz rfl
  ·rw [drop_end b 4 (by omega)] at hG
   dsimp only at hG
   rw [hG]
   exact e1 (by omega)
theorem rget_any (m b:ByteArray) (w:World) (hb:b.size≤100000000) :
  Calls Tryz.prog 24 #[.string m,.string b] w fun e w'=>FGot w w' e (pGet m.data.toList b.data.toList):=Calls.mono (rget2_any m b w hb) (fun _ _ h=>h.weak)
end Go.Proofs.YtcgjgjjegnofeaaGreatDoor
