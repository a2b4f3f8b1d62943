import Derived.Deep.RegionHeld3
import Derived.Test.YtgoffkfpdigeeaaGreatDoorA42
import Derived.Test.YtgoffkfpdigeeaaGreatDoorA44
namespace Go.Proofs.YtgoffkfpdigeeaaGreatDoor
open Go.RowKit Go.Maps Go.WideMaps Go.Sort
def isF:List Sec→Bool
 | [s,t]=>decide (s.1=1) && decide (t.1=2)
 | _=>false
theorem isF_iff (S:List Sec):isF S=true↔∃A C,S=[(1,A),(2,C)]:=by
 constructor
 ·intro h
  match S,h with
  | [(a,A),(b,B)],h=>
   simp only [isF,Bool.and_eq_true,decide_eq_true_eq] at h
   obtain ⟨rfl,rfl⟩:=h
   exact ⟨A,B,rfl⟩
  | [],h=>cases h
  | [_],h=>cases h
  | _ :: _ :: _ :: _,h=>cases h
 ·rintro ⟨A,C,rfl⟩
  rfl
set_option maxRecDepth 10000 in
set_option maxHeartbeats 800000 in
theorem isform_any (S:List Sec) (a:Option Addr) (c g:Nat) (w:World) (ha:0<S.length→a=some ⟨g,0,none⟩) (hs:SecAt w g 0 S) :
  Calls Tryz.prog 50 #[.slice a S.length c] w fun e w'=>e=.returned (.bool (isF S))∧w'=w:=by
 by_cases hn:S.length=2
 ·obtain ⟨s,t,rfl⟩:∃s t,S=[s,t]:=by
   match S,hn with
   | [s,t],_=>exact ⟨s,t,rfl⟩
  obtain ⟨n1,B1⟩:=s
  obtain ⟨n2,B2⟩:=t
  obtain rfl:=ha (by simp)
  have s0:w.cell? ⟨g,0,none⟩=some (.int .i64 n1):=by simpa using (hs 0 (by simp)).2.1
  have s2:w.cell? ⟨g,2,none⟩=some (.int .i64 n2):=by simpa using (hs 1 (by simp)).2.1
  clear hn ha hs
  by_cases h1:n1=1
  ·subst h1
   by_cases h2:n2=2
   ·subst h2
    go_enter Tryz.func50,Tryz.ntmps50
    go_wp2_with fail
    go_ret
    exact ⟨rfl,rfl⟩
   ·have h2':(n2==2)=false:=by simpa using h2
    have hf:isF [(1,B1),(n2,B2)]=false:=by simp [isF,h2]
    rw [hf]
    go_enter Tryz.func50,Tryz.ntmps50
    go_wp2_with fail
    go_ret
    exact ⟨rfl,rfl⟩
  ·have h1':(n1==1)=false:=by simpa using h1
   have hf:isF [(n1,B1),(n2,B2)]=false:=by simp [isF,h1]
   rw [hf]
   go_enter Tryz.func50,Tryz.ntmps50
   go_wp2_with fail
   go_ret
   exact ⟨rfl,rfl⟩
 ·have hf:isF S=false:=by
   cases h:isF S with
   | false=>rfl
   | true=>obtain ⟨A,C,rfl⟩:=(isF_iff S).1 h;exact absurd rfl hn
  have hn':((S.length:Int)==2)=false:=by simp;omega
  rw [hf]
  clear ha hs hf hn
  go_enter Tryz.func50,Tryz.ntmps50
  go_wp2_with fail
  go_ret
  exact ⟨rfl,rfl⟩
set_option maxRecDepth 10000 in
set_option maxHeartbeats 2000000 in
theorem pfload_any (b:ByteArray) (l:Lm) (w:World) (hT:Tabs12 w) (hz:b.size≤100000000) (hQ:∀A C,ldK b l=(0,A,C)→A.size≤1000000∧C.size≤4000000∧∀L,pGet6 A 16777216 l.x=(0,L)→Qn C L l) (hl:∀i,i<5→-9223372036854775808≤(lmL l).getD i 0∧(lmL l).getD i 0≤9223372036854775807) :
  Calls Tryz.prog 21 #[.string b,.agg (liC l)] w fun e w'=>LdOut b l w w' e:=by
 have HA:Hid (∀(o1 o2:Obj),o1=.cells (liC l) 26→o2=.cells #[.slice none 0 0,.int .i64 0] 24→Gx w ((w.alloc o1).alloc o2) l):=by
  rintro _ _ rfl rfl
  exact ⟨(AtN.new w 26 _).alloc _,mk_at (AtN.new (w.alloc _) 24 _) (show _=w.heap.size+1 by simp),((Below.refl w.heap.size w).alloc (Nat.le_refl _) _).alloc (by simp) _⟩
 have hlC:liC l=#[.int .i64 l.b,.int .i64 l.n,.int .i64 l.e,.int .i64 l.d,.int .i64 l.x]:=rfl
 have HG:Hid (∀W,Calls Tryz.prog 34 #[.string ⟨#[68,73,79,82]⟩,.string b] W fun e w'=>FGot W w' e (pGet mD.data.toList b.data.toList)):=fun W=>fget_any mD b W hz
 have HN:Hid (∀(A C:ByteArray) (W:World),Below w.heap.size w W→ldK b l=(0,A,C)→Calls Tryz.prog 51 #[.string A,.string C,.agg #[.int .i64 l.b,.int .i64 l.n,.int .i64 l.e,.int .i64 l.d,.int .i64 l.x]] W fun e w'=>GeOut2 A C l W w' e):=fun A C W hW hk=>pnget2_any A C l W (hT.on hW) (hQ A C hk).1 (hQ A C hk).2.1 (hQ A C hk).2.2 hl
 obtain ⟨E,V,S,hq⟩:∃E V S,pGet mD.data.toList b.data.toList=(E,V,S):=⟨_,_,_,rfl⟩
 rw [hq] at HG
 have HP:Hid (pGet mD.data.toList b.data.toList=(E,V,S)):=hq
 clear hq hT hl hQ hz
 go_enter Tryz.func21,Tryz.ntmps21
 rw [hlC]
 go_wp2_with fail
 have hx0:=HA.out _ _ rfl rfl
 rw [hlC] at hx0
 refine (okl_any l _).mono ?_
 rintro e w1 ⟨rfl,hb1⟩
 have HX1:Hid (Gx w w1 l):=hx0.more hb1
 clear HA hx0 hb1 hlC
 have r0:w1.cell? ⟨w.heap.size+1,0,none⟩=some (.slice none 0 0):=HX1.out.r.cell 0
 have r1:w1.cell? ⟨w.heap.size+1,1,none⟩=some (.int .i64 0):=HX1.out.r.cell 1
 have f0:=HX1.out.r.fz 0
 have f1:=HX1.out.r.fz 1
 cases hok:okL l with
 | false=>
  have HV:Hid _:=ld_bad (LdIs.bad (ldK_1 b l hok) (by decide)) HX1.out.bel HX1.out.r
  clear HG HN
  go_wp2_with fail
  obtain ⟨v2,v1⟩:=HV.out _ rfl
  have c0:=v2.cell 0
  have c1:=v2.cell 1
  exact bodyPost_ret (v:=.tuple #[.agg #[.slice none 0 0,.int .i64 0],.int .i64 1]) (by simp [results,Tryz.results21,go_sem,c0,c1]) rfl v1
 | true=>
  have a0:w1.cell? ⟨w.heap.size,0,none⟩=some (.int .i64 l.b):=HX1.out.a.cell 0
  by_cases hlb:l.b<(b.size:Int)
  ·have HV:Hid _:=ld_bad (LdIs.bad (ldK_2 b l hok hlb) (by decide)) HX1.out.bel HX1.out.r
   clear HG HN
   go_wp2_with fail
   obtain ⟨v2,v1⟩:=HV.out _ rfl
   have c0:=v2.cell 0
   have c1:=v2.cell 1
   exact bodyPost_ret (v:=.tuple #[.agg #[.slice none 0 0,.int .i64 0],.int .i64 19]) (by simp [results,Tryz.results21,go_sem,c0,c1]) rfl v1
  ·have HLB:Hid ((b.size:Int)≤l.b):=Int.not_lt.1 hlb
   go_wp2_with fail
   refine Calls.mono (HG.out _) ?_
   rintro e w2 ⟨aS,cS,gS,rfl,haS,hsS,hb2⟩
   dsimp only at haS hsS ⊢
   have HX2:Hid (Gx w w2 l):=HX1.out.more hb2
   have HsS:Hid (SecAt w2 gS 0 S):=hsS
   have HaS:Hid (0<S.length→aS=some ⟨gS,0,none⟩):=haS
   clear HX1 hb2 r0 r1 f0 f1 a0 hsS haS HG
   have r0:w2.cell? ⟨w.heap.size+1,0,none⟩=some (.slice none 0 0):=HX2.out.r.cell 0
   have r1:w2.cell? ⟨w.heap.size+1,1,none⟩=some (.int .i64 0):=HX2.out.r.cell 1
   have f0:=HX2.out.r.fz 0
   have f1:=HX2.out.r.fz 1
   have HK:Hid (∀k:Int,(ldK b l).1=k→k≠0→Hid (∀W',W'=(w2.setCell ⟨w.heap.size+1,0,none⟩ (.slice none 0 0)).setCell ⟨w.heap.size+1,1,none⟩ (.int .i64 0)→AtN 24 W' (w.heap.size+1) #[.slice none 0 0,.int .i64 0]∧LdOut b l w W' (.returned (.tuple #[.agg #[.slice none 0 0,.int .i64 0],.int .i64 k])))):=fun k h1 h2=>ld_bad (LdIs.bad h1 h2) HX2.out.bel HX2.out.r
   by_cases hE:E=0
   ·subst hE
    by_cases hV:V=2
    ·subst hV
     have HI:Hid (Calls Tryz.prog 50 #[.slice aS S.length cS] w2 fun e w'=>e=.returned (.bool (isF S))∧w'=w2):=isform_any S aS cS gS w2 HaS.out HsS.out
     cases hf:isF S with
     | true=>
      rw [hf] at HI
      obtain ⟨B1,B2,rfl⟩:=(isF_iff S).1 hf
      obtain rfl:=HaS.out (by simp)
      have s1:w2.cell? ⟨gS,1,none⟩=some (.string B1):=by simpa using (HsS.out 0 (by simp)).2.2
      have s3:w2.cell? ⟨gS,3,none⟩=some (.string B2):=by simpa using (HsS.out 1 (by simp)).2.2
      have hgS:gS<w2.heap.size:=(HsS.out 0 (by simp)).1
      have hgN:gS≠w.heap.size+1:=fun q=>by
       have h1:=s1
       have h2:=HX2.out.r.cell 1
       rw [q,h2] at h1
       cases h1
      have hk:ldK b l=(0,B1,B2):=ldK_6 b l hok (Int.not_lt.2 HLB.out) (by rw [HP.out]) (by rw [HP.out]) (by rw [HP.out])
      have HNc:Hid (Calls Tryz.prog 51 #[.string B1,.string B2,.agg #[.int .i64 l.b,.int .i64 l.n,.int .i64 l.e,.int .i64 l.d,.int .i64 l.x]] w2.drew fun e w'=>GeOut2 B1 B2 l w2.drew w' e):=HN.out B1 B2 w2.drew (HX2.out.bel.trans ((bel_drew w2).mono HX2.out.bel.size)) hk
      have HGd:Hid (∀X:List Nx,∀r k:Int,GeIs B1 B2 l (X.map Nx.nd) r k→LdIs b l (X.map Nx.nd) r k):=fun X r k h=>.inr ⟨by rw [hk],by rw [hk];exact h⟩
      have HS:Hid (∀W,Below w2.heap.size w2 W→∀v0 v1 W',W'=(W.setCell ⟨w.heap.size+1,0,none⟩ v0).setCell ⟨w.heap.size+1,1,none⟩ v1∨W'=W→W'.cell? ⟨gS,1,none⟩=some (.string B1)∧W'.cell? ⟨gS,3,none⟩=some (.string B2)∧W'.cell? ⟨w.heap.size,0,none⟩=some (.int .i64 l.b)∧W'.cell? ⟨w.heap.size,1,none⟩=some (.int .i64 l.n)∧W'.cell? ⟨w.heap.size,2,none⟩=some (.int .i64 l.e)∧W'.cell? ⟨w.heap.size,3,none⟩=some (.int .i64 l.d)∧W'.cell? ⟨w.heap.size,4,none⟩=some (.int .i64 l.x)):=by
       intro W hW v0 v1 W' hW'
       have q1:=((bcell hW).1 gS 1 hgS).trans s1
       have q3:=((bcell hW).1 gS 3 hgS).trans s3
       have hA:=HX2.out.a.belowAll hW
       rcases hW' with rfl|rfl
       ·have hA2:=(hA.setOther ⟨w.heap.size+1,0,none⟩ (by show w.heap.size+1≠_;omega) v0).setOther ⟨w.heap.size+1,1,none⟩ (by show w.heap.size+1≠_;omega) v1
        refine ⟨?_,?_,hA2.cell 0,hA2.cell 1,hA2.cell 2,hA2.cell 3,hA2.cell 4⟩
        ·rw [World.cell?_setCell_other _ _ _ _ (by intro q;simp only [Addr.mk.injEq] at q;omega),World.cell?_setCell_other _ _ _ _ (by intro q;simp only [Addr.mk.injEq] at q;omega)];exact q1
        ·rw [World.cell?_setCell_other _ _ _ _ (by intro q;simp only [Addr.mk.injEq] at q;omega),World.cell?_setCell_other _ _ _ _ (by intro q;simp only [Addr.mk.injEq] at q;omega)];exact q3
       ·exact ⟨q1,q3,hA.cell 0,hA.cell 1,hA.cell 2,hA.cell 3,hA.cell 4⟩
      have hlt2:w.heap.size+1<w2.heap.size:=HX2.out.r.lt
      have K0:=HS.out w2 (Below.refl _ _) (.bool true) (.bool true) w2 (.inr rfl)
      have K1:=HS.out w2.drew (bel_drew w2) (.bool true) (.bool true) w2.drew (.inr rfl)
      clear hk HN HP HK HsS HaS hf s1 s3
      go_wp2_with fail
      refine Calls.mono HI.out ?_
      rintro e wq ⟨rfl,hwq⟩
      have hwq:=hwq.symm
      subst hwq
      clear HI
      go_wp2_with fail
      go_region_held3 (fun W=>W.cell? ⟨gS,1,none⟩=some (.string B1)∧W.cell? ⟨gS,3,none⟩=some (.string B2)∧W.cell? ⟨w.heap.size,0,none⟩=some (.int .i64 l.b)∧W.cell? ⟨w.heap.size,1,none⟩=some (.int .i64 l.n)∧W.cell? ⟨w.heap.size,2,none⟩=some (.int .i64 l.e)∧W.cell? ⟨w.heap.size,3,none⟩=some (.int .i64 l.d)∧W.cell? ⟨w.heap.size,4,none⟩=some (.int .i64 l.x)) (first|exact K3 _ _ _ (.inl rfl)|exact K3 (.bool true) (.bool true) _ (.inr rfl)|exact K1|exact K0)
       ((go_at_call 51;refine Calls.mono HNc.out ?_;rintro e w3 ⟨X,aX,cX,rX,kX,rfl,hg,hsc,hsm,hfn,hb3⟩;have HX3:Hid (Gx w w3 l):=(HX2.out.more (bel_drew w2)).more hb3;have K3:=HS.out w3 ((bel_drew w2).trans (hb3.mono (bel_drew w2).size));have r0:w3.cell? ⟨w.heap.size+1,0,none⟩=some (.slice none 0 0):=HX3.out.r.cell 0;have r1:w3.cell? ⟨w.heap.size+1,1,none⟩=some (.int .i64 0):=HX3.out.r.cell 1;have f0:=HX3.out.r.fz 0;have f1:=HX3.out.r.fz 1))
      have HV:Hid _:=ld_good (c:=cX) (W0:=w2) (HGd.out X rX kX hg) HX3.out.bel HX3.out.r (by omega) hsc hsm hfn
      clear HNc HGd hg hsc hsm hfn hb3 HX2 K0 K1 K3 HS
      go_wp2_with fail
      obtain ⟨v2,v1⟩:=HV.out _ rfl
      have c0:=v2.cell 0
      have c1:=v2.cell 1
      exact bodyPost_ret (v:=.tuple #[.agg #[.slice aX X.length cX,.int .i64 rX],.int .i64 kX]) (by simp [results,Tryz.results21,go_sem,c0,c1]) rfl v1
     | false=>
      rw [hf] at HI
      have HV:Hid _:=(HK.out 4 (ldK_5 b l hok (Int.not_lt.2 HLB.out) (by rw [HP.out]) (by rw [HP.out]) (by
       rw [HP.out]
       rintro ⟨⟨s1,A⟩,⟨t1,C⟩,q,q1,q2⟩
       dsimp only at q q1 q2
       subst q1 q2
       rw [(isF_iff S).2 ⟨A,C,q⟩] at hf
       cases hf)) (by decide)).out
      clear HN HP HK HsS HaS hf
      go_wp2_with fail
      refine Calls.mono HI.out ?_
      rintro e wq ⟨rfl,hwq⟩
      have hwq:=hwq.symm
      subst hwq
      clear HI
      go_wp2_with fail
      obtain ⟨v2,v1⟩:=HV.out _ rfl
      have c0:=v2.cell 0
      have c1:=v2.cell 1
      exact bodyPost_ret (v:=.tuple #[.agg #[.slice none 0 0,.int .i64 0],.int .i64 4]) (by simp [results,Tryz.results21,go_sem,c0,c1]) rfl v1
    ·have hV':((V:Int)==2)=false:=by simp;omega
     have hV'':((V:Int) != 2)=true:=by simp;omega
     have HV:Hid _:=(HK.out 7 (ldK_4 b l hok (Int.not_lt.2 HLB.out) (by rw [HP.out]) (by rw [HP.out];exact hV)) (by decide)).out
     clear HN HP HK HsS HaS hV
     go_wp2_with fail
     obtain ⟨v2,v1⟩:=HV.out _ rfl
     have c0:=v2.cell 0
     have c1:=v2.cell 1
     exact bodyPost_ret (v:=.tuple #[.agg #[.slice none 0 0,.int .i64 0],.int .i64 7]) (by simp [results,Tryz.results21,go_sem,c0,c1]) rfl v1
   ·have hE':((E:Int)==0)=false:=by simp;omega
    have hE'':((E:Int) != 0)=true:=by simp;omega
    have HV:Hid _:=(HK.out E (by rw [ldK_3 b l hok (Int.not_lt.2 HLB.out) (by rw [HP.out];exact hE),HP.out]) (by omega)).out
    clear HN HP HK HsS HaS hE
    go_wp2_with fail
    obtain ⟨v2,v1⟩:=HV.out _ rfl
    have c0:=v2.cell 0
    have c1:=v2.cell 1
    exact bodyPost_ret (v:=.tuple #[.agg #[.slice none 0 0,.int .i64 0],.int .i64 (E:Int)]) (by simp [results,Tryz.results21,go_sem,c0,c1]) rfl v1
end Go.Proofs.YtgoffkfpdigeeaaGreatDoor
