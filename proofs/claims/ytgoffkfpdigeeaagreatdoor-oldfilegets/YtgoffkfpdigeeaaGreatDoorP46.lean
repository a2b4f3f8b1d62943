import Derived.Deep.RegionHeld3
import Derived.Deep.QuietTactic
import Derived.BigQuiet
import Derived.BigRegion
import Derived.Lib.QuietBelow
import Derived.Test.YtgoffkfpdigeeaaGreatDoorP32
import Derived.Test.YtgoffkfpdigeeaaGreatDoorP40
import Derived.Test.YtgoffkfpdigeeaaGreatDoorP45
import Derived.Test.YtgoffkfpdigeeaaGreatDoorP19
import Derived.Test.YtgoffkfpdigeeaaGreatDoorP20
namespace Go.Proofs.YtgoffkfpdigeeaaGreatDoor
open Go.RowKit Go.Maps Go.WideMaps Go.Sort
set_option maxRecDepth 10000 in
set_option maxHeartbeats 2000000 in
theorem roload_any (b:ByteArray) (l:Lm) (w:World) (hz:b.size≤2800) :
  Calls Tryz.prog 14 #[.string b,.agg #[.int .i64 l.b,.int .i64 l.n,.int .i64 l.e,.int .i64 l.d,.int .i64 l.x]] w fun e w'=>LoOut b l w w' e:=by
 have HA:Hid (∀(o1 o2 o3:Obj),o1=.cells #[.int .i64 l.b,.int .i64 l.n,.int .i64 l.e,.int .i64 l.d,.int .i64 l.x] 26→o2=.cells #[.slice none 0 0,.int .i64 0] 24→o3=.cells #[.slice none 0 0,.int .i64 0] 24→Fq w (((w.alloc o1).alloc o2).alloc o3) l):=by
  rintro _ _ _ rfl rfl rfl
  exact ⟨((AtN.new w 26 _).alloc _).alloc _,(mk_at (AtN.new (w.alloc _) 24 _) (show _=w.heap.size+1 by simp)).alloc _,mk_at (AtN.new ((w.alloc _).alloc _) 24 _) (show _=w.heap.size+2 by simp),(((Below.refl w.heap.size w).alloc (Nat.le_refl _) _).alloc (by simp) _).alloc (by simp;omega) _⟩
 have HG:Hid (∀W,Calls Tryz.prog 36 #[.string ⟨#[68,73,79,82]⟩,.string b] W fun e w'=>FGot W w' e (pGet mD.data.toList b.data.toList)):=fun W=>rget_any mD b W (by omega)
 obtain ⟨E,V,S,hq⟩:∃E V S,pGet mD.data.toList b.data.toList=(E,V,S):=⟨_,_,_,rfl⟩
 rw [hq] at HG
 have HQ:Hid (pGet mD.data.toList b.data.toList=(E,V,S)):=hq
 clear hq
 go_enter Tryz.func14,Tryz.ntmps14
 go_wp2_with fail
 have hx0:=HA.out _ _ _ rfl rfl rfl
 refine (rokl_any l _).mono ?_
 rintro e w1 ⟨rfl,hb1⟩
 have HX1:Hid (Fq w w1 l):=hx0.more hb1
 have hs1:w.heap.size+2<w1.heap.size:=HX1.out.n.lt
 clear HA hx0 hb1
 have x0:w1.cell? ⟨w.heap.size+1+1,0,none⟩=some (.slice none 0 0):=HX1.out.n.cell 0
 have x1:w1.cell? ⟨w.heap.size+1+1,1,none⟩=some (.int .i64 0):=HX1.out.n.cell 1
 have r0:w1.cell? ⟨w.heap.size+1,0,none⟩=some (.slice none 0 0):=HX1.out.r.cell 0
 have r1:w1.cell? ⟨w.heap.size+1,1,none⟩=some (.int .i64 0):=HX1.out.r.cell 1
 have f0:=HX1.out.r.fz 0
 have f1:=HX1.out.r.fz 1
 cases hok:okL l with
 | false=>
  have HV:Hid _:=lo_bad (LoIs.bad (opK_1 b l hok) (by decide)) HX1.out.bel HX1.out.r
  go_wp2_with fail
  obtain ⟨v2,v1⟩:=HV.out _ rfl
  have c0:=v2.cell 0
  have c1:=v2.cell 1
  exact bodyPost_ret (v:=.tuple #[.agg #[.slice none 0 0,.int .i64 0],.int .i64 1]) (by simp [results,Tryz.results14,go_sem,c0,c1]) rfl v1
 | true=>
  have a0:w1.cell? ⟨w.heap.size,0,none⟩=some (.int .i64 l.b):=HX1.out.a.cell 0
  by_cases hlb:l.b<(b.size:Int)
  ·have HV:Hid _:=lo_bad (LoIs.bad (opK_2 b l hok hlb) (by decide)) HX1.out.bel HX1.out.r
   clear HG
   go_wp2_with fail
   obtain ⟨v2,v1⟩:=HV.out _ rfl
   have c0:=v2.cell 0
   have c1:=v2.cell 1
   exact bodyPost_ret (v:=.tuple #[.agg #[.slice none 0 0,.int .i64 0],.int .i64 19]) (by simp [results,Tryz.results14,go_sem,c0,c1]) rfl v1
  ·have HLB:Hid ((b.size:Int)≤l.b):=Int.not_lt.1 hlb
   go_wp2_with fail
   refine Calls.mono (HG.out _) ?_
   rintro e w2 ⟨aS,cS,gS,rfl,haS,hsS,hb2⟩
   dsimp only at haS hsS ⊢
   have HX2:Hid (Fq w w2 l):=HX1.out.more hb2
   have HsS:Hid (SecAt w2 gS 0 S):=hsS
   have HaS:Hid (0<S.length→aS=some ⟨gS,0,none⟩):=haS
   have hs2:w.heap.size+2<w2.heap.size:=HX2.out.n.lt
   clear HX1 hb2 x0 x1 r0 r1 f0 f1 a0 hsS haS HG hs1
   have x0:w2.cell? ⟨w.heap.size+1+1,0,none⟩=some (.slice none 0 0):=HX2.out.n.cell 0
   have x1:w2.cell? ⟨w.heap.size+1+1,1,none⟩=some (.int .i64 0):=HX2.out.n.cell 1
   have r0:w2.cell? ⟨w.heap.size+1,0,none⟩=some (.slice none 0 0):=HX2.out.r.cell 0
   have r1:w2.cell? ⟨w.heap.size+1,1,none⟩=some (.int .i64 0):=HX2.out.r.cell 1
   have f0:=HX2.out.r.fz 0
   have f1:=HX2.out.r.fz 1
   have key:∀k:Int,(opK b l).1=k→k≠0→Hid (∀W',W'=(w2.setCell ⟨w.heap.size+1,0,none⟩ (.slice none 0 0)).setCell ⟨w.heap.size+1,1,none⟩ (.int .i64 0)→AtN 24 W' (w.heap.size+1) #[.slice none 0 0,.int .i64 0]∧LoOut b l w W' (.returned (.tuple #[.agg #[.slice none 0 0,.int .i64 0],.int .i64 k]))):=fun k h1 h2=>lo_bad (LoIs.bad h1 h2) HX2.out.bel HX2.out.r
   have HK:Hid _:=key
   clear key
   by_cases hE:E=0
   ·subst hE
    by_cases hV:V=1
    ·subst hV
     by_cases hn:S.length=1
     ·obtain ⟨s,rfl⟩:∃s,S=[s]:=by
       match S,hn with
       | [s],_=>exact ⟨s,rfl⟩
      obtain ⟨n1,R⟩:=s
      obtain rfl:=HaS.out (by simp)
      have hgS:gS<w2.heap.size:=(HsS.out 0 (by simp)).1
      have s0:w2.cell? ⟨gS,0,none⟩=some (.int .i64 n1):=by simpa using (HsS.out 0 (by simp)).2.1
      have s1:w2.cell? ⟨gS,1,none⟩=some (.string R):=by simpa using (HsS.out 0 (by simp)).2.2
      clear hn HaS HsS
      by_cases h1:n1=1
      ·subst h1
       have hk:opK b l=(0,R):=opK_6 b l hok (Int.not_lt.2 HLB.out) (by rw [HQ.out]) (by rw [HQ.out]) (by rw [HQ.out])
       obtain ⟨_,z1⟩:=ofile_of (b:=b) (l:=l) (by rw [hk])
       rw [hk] at z1
       dsimp only at z1
       have hy:R.size≤2800:=by omega
       have hKp:∀k,(oPay R l.n l.e l.x).2=k→k≠0→LoIs b l (([]:List Nx).map Nx.nd) k:=fun k q1 q2=>LoIs.pay hk q1 q2
       have hKf:∀(X:List Nx) d n z,oPay R l.n l.e l.x=(X.map Nx.nd,0)→DepthIs X 0 d→CheckIs X 0 n z→(n≠0→LoIs b l (([]:List Nx).map Nx.nd) n)∧(n=0→(inL (meL X d) l=false→LoIs b l (([]:List Nx).map Nx.nd) 19)∧(inL (meL X d) l=true→LoIs b l (X.map Nx.nd) 0)):=fun X d n z q1 q2 q3=>LoIs.fin hk q1 q2 q3
       have HKp:Hid _:=hKp
       have HKf:Hid _:=hKf
       have HGq:Hid (∀o:Obj,Gq w (w2.alloc o) w2.heap.size gS l R):=fun o=>⟨HX2.out.more ((Below.refl w2.heap.size w2).alloc (Nat.le_refl _) o),(bcell ((Below.refl w2.heap.size w2).alloc (Nat.le_refl _) o)).1 gS 1 hgS |>.trans s1,hgS,by simp,by omega⟩
       clear hk z1 HQ HK hKp hKf HX2
       obtain ⟨n,k0,ne,hU⟩:∃n k0 ne,pUint R 0 0 l.n=(n,k0,ne):=⟨_,_,_,rfl⟩
       have HRf:Hid (Rf (w2.alloc (.cells #[.string R,.int .i64 0,.int .i64 0] 72)) w2.heap.size R 0 0):=At3.new w2 _ _ _ _
       have HUi:Hid _:=ruint_any (w2.alloc (.cells #[.string R,.int .i64 0,.int .i64 0] 72)) w2.heap.size R 0 0 l.n HRf.out (by unfold maxLen;omega) (Nat.zero_le _)
       rw [hU] at HUi
       have a1:(w2.alloc (.cells #[.string R,.int .i64 0,.int .i64 0] 72)).cell? ⟨w.heap.size,1,none⟩=some (.int .i64 l.n):=(HGq.out _).f.a.cell 1
       have a0:=(HGq.out (.cells #[.string R,.int .i64 0,.int .i64 0] 72)).f.a.lt
       have hln:0≤l.n∧l.n≤16777216:=(okL_in hok).2.1
       go_wp2_with fail
       refine Calls.mono HUi.out ?_
       rintro e w3 ⟨rfl,hr3,hb3⟩
       dsimp only at hr3 ⊢
       have HG3:Hid (Gq w w3 w2.heap.size gS l R):=(HGq.out _).cur hb3 (Nat.le_refl _)
       have HR3:Hid (Rf w3 w2.heap.size R (k0:Nat) ne):=hr3
       have hk0:k0≤R.size:=by have:=(pUint_at R 0 0 l.n (Nat.zero_le _)).2;rw [hU] at this;exact this
       have hnt:0≤n∧n≤16777216:=by have:=pUint_top R 0 0 l.n;rw [hU] at this;exact ⟨this.1,this.2.1⟩
       clear HUi hr3 hb3 HGq HRf x0 x1 r0 r1 f0 f1 a0 a1 s0 s1
       have e2:w3.cell? ⟨w2.heap.size,2,none⟩=some (.int .i64 ne):=HR3.out.c2
       have x0:w3.cell? ⟨w.heap.size+1+1,0,none⟩=some (.slice none 0 0):=HG3.out.f.n.cell 0
       have x1:w3.cell? ⟨w.heap.size+1+1,1,none⟩=some (.int .i64 0):=HG3.out.f.n.cell 1
       have r0:w3.cell? ⟨w.heap.size+1,0,none⟩=some (.slice none 0 0):=HG3.out.f.r.cell 0
       have r1:w3.cell? ⟨w.heap.size+1,1,none⟩=some (.int .i64 0):=HG3.out.f.r.cell 1
       have f0:=HG3.out.f.r.fz 0
       have f1:=HG3.out.f.r.fz 1
       have q1:(w.heap.size+1=w2.heap.size)=False:=by simp;omega
       by_cases hne:ne=0
       ·subst hne
        by_cases hn0:n=0
        ·subst hn0
         have HV:Hid _:=lo_bad (HKp.out 13 (oPay_4 R l.n l.e l.x hU) (by decide)) HG3.out.f.bel HG3.out.f.r
         go_wp2_with fail
         obtain ⟨v2,v1⟩:=HV.out _ rfl
         have c0:=v2.cell 0
         have c1:=v2.cell 1
         exact bodyPost_ret (v:=.tuple #[.agg #[.slice none 0 0,.int .i64 0],.int .i64 13]) (by simp [results,Tryz.results14,go_sem,c0,c1]) rfl v1
        ·have hn0':(n==0)=false:=by simpa using hn0
         have hs3:=HG3.out.hl
         have hgc:=HR3.out.lt
         have a2:(w3.alloc (.cells #[.slice none 0 0,.int .i64 0] 24)).cell? ⟨w.heap.size,2,none⟩=some (.int .i64 l.e):=(HG3.out.f.a.alloc _).cell 2
         have a0:=(HG3.out.f.a.alloc (.cells #[.slice none 0 0,.int .i64 0] 24)).lt
         have HM0:Hid (Mkg (w3.alloc (.cells #[.slice none 0 0,.int .i64 0] 24)) w3.heap.size w3.heap.size 0 (.slice none 0 0) []):=⟨AtN.new w3 24 _,⟨rfl,.inl ⟨rfl,rfl⟩⟩,fun j hj=>by simp at hj⟩
         have HG0:Hid (Gq w (w3.alloc (.cells #[.slice none 0 0,.int .i64 0] 24)) w2.heap.size gS l R):=HG3.out.more ((Below.refl w3.heap.size w3).alloc (Nat.le_refl _) _)
         have HR0:Hid (Rf (w3.alloc (.cells #[.slice none 0 0,.int .i64 0] 24)) w2.heap.size R (k0:Nat) 0):=At3.alloc HR3.out _
         have hle:=(okL_in hok).2.2.1
         have hlx:=(okL_in hok).2.2.2.2
         obtain ⟨m,rfl⟩:∃m:Nat,n=m:=⟨n.toNat,by omega⟩
         obtain ⟨P,kz,ez,hS⟩:∃P kz ez,oNds R (m:Int) l.x m 0 l.e k0=(P,kz,ez):=⟨_,_,_,rfl⟩
         have HS:Hid (oNds R (m:Int) l.x (m:Int).toNat 0 l.e k0=(P,kz,ez)):=by rw [Int.toNat_natCast];exact hS
         obtain ⟨i0,hi,hz0,hz1,hz2⟩:=info_parts Tryz.infoD9
         clear x0 x1 r0 r1 f0 f1 q1 HG3 HR3
         go_wp2_with fail
         go_loopw [13,14] (fun dv iv wr=>∃(i k:Nat) (ed:Int) (v:Value) (Y:List Nx),iv=.int .i64 i∧dv=.int .i64 ed∧i≤m∧Hid (Y.length=i)∧2*i≤k∧k≤R.size∧0≤ed∧ed≤l.e∧Hid (∀T k' e',oNds R (m:Int) l.x (m-i) (i:Int) ed k=(T,k',e')→(P,kz,ez)=(Y.map Nx.nd++T,k',e'))∧Hid (Mkg wr w3.heap.size w3.heap.size 0 v Y)∧Hid (Gq w wr w2.heap.size gS l R)∧Hid (Rf wr w2.heap.size R (k:Nat) 0)∧Hid (∀j,j<Y.length→big (Y.getD j noNx).nd=false∧fine (Y.getD j noNx).nd.ints)) (fun _ iv _=>m-(intOf iv).toNat)
         case atStart=>exact ⟨0,k0,l.e,_,[],rfl,rfl,by omega,rfl,by omega,hk0,by omega,by omega,(fun T k' e' q=>by rw [Nat.sub_zero] at q;rw [← hS];exact (by simpa using q)),HM0,HG0,HR0,(fun j hj=>by simp at hj)⟩
         case round=>
          clear HM0 HG0 HR0 hS a0 a2 e2
          obtain ⟨i,k,ed,v,Y,rfl,rfl,him,HYl,hk3,hkb,hd1,hd2,HC,HM,HGl,HR,HY⟩:=hrel
          by_cases hlt:i<m
          ·have hlt':(i:Int)<m:=by omega
           obtain ⟨N,k1,e1,hN⟩:∃N k1 e1,oNd R i m l.x ed k 0=(N,k1,e1):=⟨_,_,_,rfl⟩
           have HN:Hid _:=rnode_any R w2.heap.size (i:Int) (m:Int) ed l.x k 0 wr HR.out (by omega) hkb (by omega) (by omega)
           rw [hN] at HN
           have a4:wr.cell? ⟨w.heap.size,4,none⟩=some (.int .i64 l.x):=HGl.out.f.a.cell 4
           go_wp2_with fail
           refine Calls.mono HN.out ?_
           rintro e w5 ⟨a1,c1,a2,c2,a3,c3,rfl,ho5,hr5,hb5⟩
           dsimp only at ho5 hr5 ⊢
           obtain ⟨w6,hw6⟩:∃w6,w5.alloc (.cells #[.int .i64 N.kind,.slice a1 N.ints.length c1,.slice a2 N.texts.length c2,.slice a3 N.kids.length c3] 51)=w6:=⟨_,rfl⟩
           have hb6:Below w5.heap.size w5 w6:=by rw [← hw6];exact (Below.refl w5.heap.size w5).alloc (Nat.le_refl _) _
           have hA6:AtN 51 w6 w5.heap.size #[.int .i64 N.kind,.slice a1 N.ints.length c1,.slice a2 N.texts.length c2,.slice a3 N.kids.length c3]:=by rw [← hw6];exact AtN.new w5 51 _
           have HO6:Hid (OwnNx w6 wr.heap.size ⟨N,a1,c1,a2,c2,a3,c3⟩):=OwnNd.belowB ho5 hb6
           have HR6:Hid (Rf w6 w2.heap.size R (k1:Nat) e1):=At3.belowAll hr5 hb6
           have HG6:Hid (Gq w w6 w2.heap.size gS l R):=(HGl.out.cur hb5 (Nat.le_refl _)).more hb6
           have HM6:Hid (Mkg w6 w3.heap.size w3.heap.size 0 v Y):=(HM.out.cur hb5 HR.out).below hb6
           have hsz:wr.heap.size≤w6.heap.size:=Nat.le_trans hb5.size hb6.size
           have h3r:w3.heap.size<wr.heap.size:=HM.out.sc.lt
           have hvb:∀z,v.ownBlock=some z→w3.heap.size≤z∧z<wr.heap.size:=fun z q=>HM.out.row.lt z q
           clear HN ho5 hr5 hb5 HM HGl HR a4
           have n3:w6.cell? ⟨w5.heap.size,3,none⟩=some (.slice a3 N.kids.length c3):=hA6.cell 3
           have n0:w6.cell? ⟨w5.heap.size,0,none⟩=some (.int .i64 N.kind):=hA6.cell 0
           have n1:w6.cell? ⟨w5.heap.size,1,none⟩=some (.slice a1 N.ints.length c1):=hA6.cell 1
           have n2:w6.cell? ⟨w5.heap.size,2,none⟩=some (.slice a2 N.texts.length c2):=hA6.cell 2
           have e2:w6.cell? ⟨w2.heap.size,2,none⟩=some (.int .i64 e1):=HR6.out.c2
           by_cases he1:e1=0
           ·subst he1
            obtain ⟨q1,hk1,q2,q3,q4,q5⟩:=oNd_two hkb hN
            have hbg:=q3 (by omega)
            have hv3:v.ownBlock≠some w3.heap.size:=HM6.out.ne
            have HC6:Hid (∀T k' e',oNds R (m:Int) l.x (m-(i+1)) ((i+1:Nat):Int) (ed-N.kids.length) k1=(T,k',e')→(P,kz,ez)=(Y.map Nx.nd++N :: T,k',e')):=fun T k' e' hq=>HC.out (N :: T) k' e' (by
             rw [show m-i=(m-(i+1))+1 by omega]
             unfold oNds
             rw [hN,if_neg (by simp)]
             dsimp only
             rw [show (i:Int)+1=((i+1:Nat):Int) by omega,hq])
            have hkl:N.kids.length≤3000:=by omega
            clear HC hN q3
            obtain ⟨av,cv,rfl⟩:=own_shape4 HM6.out.row
            have x0:w6.cell? ⟨w3.heap.size,0,none⟩=some (.slice av Y.length cv):=HM6.out.sc.cell 0
            have x1:=HM6.out.sc.lt
            have f0:=HM6.out.sc.fz 0
            go_wp2_with (at_builtin;refine wpList_append_lies _ rfl (.tmp 108) (.tmp 110) 22 rfl w3.heap.size 51 i0 (.agg #[.int .i64 0,.slice none 0 0,.slice none 0 0,.slice none 0 0]) 4 80 Tryz.underlying22 hi hz0 hz1 hz2 rfl (by decide) _ Y.length (nxV Y) rfl (HM6.out.row.alloc _) ⟨w6.heap.size,0,none⟩ 1 1 [.int .i64 N.kind,.slice a1 N.ints.length c1,.slice a2 N.texts.length c2,.slice a3 N.kids.length c3] rfl rfl (fun j z hz=>World.news_of_block (AtN.new w6 51 _) j z (by simpa using hz)) (by intro z hz;simp at hz;rcases hz with rfl|rfl|rfl|rfl <;> rfl) (by decide) (by have:=HYl.out;unfold maxLen;omega) (by have:=HYl.out;omega) (by simp;omega) _ rfl ?_)
            intro g2 cap2 w7 hown hgrow hlie hlt7
            clear hw6
            have hg0:w3.heap.size<w6.heap.size:=x1
            have hA7:AtN 24 w7 w3.heap.size #[.slice av Y.length cv,.int .i64 0]:=(HM6.out.sc.alloc _).kept hgrow (fun e=>hv3 e.symm)
            have x7:w7.cell? ⟨w3.heap.size,0,none⟩=some (.slice av Y.length cv):=hA7.cell 0
            have f7:=hA7.fz 0
            have hfr:Fr (MkS w3.heap.size (.slice av Y.length cv)) w6 (w7.setCell ⟨w3.heap.size,0,none⟩ (.slice (some ⟨g2,0,none⟩) (Y.length+1) cap2)):=(((Fr.refl (MkS w3.heap.size (.slice av Y.length cv)) w6).alloc _).trans (Fr.of_grown hgrow (fun q e=>.inl e)) (fun i hi _=>hi)).set ⟨w3.heap.size,0,none⟩ (.inr rfl) _
            have hne:(Value.slice (some ⟨g2,0,none⟩) (Y.length+1) cap2).ownBlock≠some w3.heap.size:=by
             intro q
             simp only [Value.ownBlock,Option.some.injEq] at q
             rcases hlie with p|p
             ·rw [q] at p;exact hv3 p
             ·first|omega|(simp at p;omega)
            have hOw:OwnNx w7 wr.heap.size ⟨N,a1,c1,a2,c2,a3,c3⟩:=OwnNx.kept (OwnNx.kept HO6.out (World.grownBy_alloc w6 _ none) (by simp)) hgrow (fun z q=>(hvb z q).2)
            have HM8:Hid (Mkg (w7.setCell ⟨w3.heap.size,0,none⟩ (.slice (some ⟨g2,0,none⟩) (Y.length+1) cap2)) w3.heap.size w3.heap.size 0 (.slice (some ⟨g2,0,none⟩) (Y.length+1) cap2) (Y++[⟨N,a1,c1,a2,c2,a3,c3⟩])):=by
             refine HM6.out.next hfr (by simpa using AtN.set hA7 0 (.slice (some ⟨g2,0,none⟩) (Y.length+1) cap2)) (own_set' hown hne _) (OwnNx.mono (hOw.kept (grown_set (grown_refl w7 (some w3.heap.size)) 0 _) (fun k hk=>by cases hk;omega)) (by omega))
            have hS:∀z,MkS w3.heap.size (.slice av Y.length cv) z→w3.heap.size≤z:=fun z hz=>by
             rcases hz with hz|hz
             ·exact (hvb z hz).1
             ·omega
            have HG8:Hid (Gq w (w7.setCell ⟨w3.heap.size,0,none⟩ (.slice (some ⟨g2,0,none⟩) (Y.length+1) cap2)) w2.heap.size gS l R):=HG6.out.fr hfr (fun z hz=>by have:=hS z hz;omega)
            have HR8:Hid (Rf (w7.setCell ⟨w3.heap.size,0,none⟩ (.slice (some ⟨g2,0,none⟩) (Y.length+1) cap2)) w2.heap.size R (k1:Nat) 0):=At3.frO HR6.out hfr (fun hz=>by have:=hS _ hz;omega)
            have HY8:Hid (∀j,j<(Y++[(⟨N,a1,c1,a2,c2,a3,c3⟩:Nx)]).length→big ((Y++[(⟨N,a1,c1,a2,c2,a3,c3⟩:Nx)]).getD j noNx).nd=false∧fine ((Y++[(⟨N,a1,c1,a2,c2,a3,c3⟩:Nx)]).getD j noNx).nd.ints):=fun j hj=>by
             by_cases hlt:j<Y.length
             ·rw [show (Y++[(⟨N,a1,c1,a2,c2,a3,c3⟩:Nx)]).getD j noNx=Y.getD j noNx by rw [List.getD_eq_getElem?_getD,List.getElem?_append_left hlt,← List.getD_eq_getElem?_getD]]
              exact HY.out j hlt
             ·obtain rfl:j=Y.length:=by simp at hj;omega
              rw [show (Y++[(⟨N,a1,c1,a2,c2,a3,c3⟩:Nx)]).getD Y.length noNx=⟨N,a1,c1,a2,c2,a3,c3⟩ by simp]
              exact ⟨hbg,q4⟩
            have HC8:Hid (∀T k' e',oNds R (m:Int) l.x (m-(i+1)) ((i+1:Nat):Int) (ed-N.kids.length) k1=(T,k',e')→(P,kz,ez)=((Y++[(⟨N,a1,c1,a2,c2,a3,c3⟩:Nx)]).map Nx.nd++T,k',e')):=fun T k' e' hq=>by
             rw [HC6.out T k' e' hq];simp
            clear hown hgrow hlie hA7 hfr hne hOw hS HM6 HG6 HR6 HY HC6 HO6 hvb x0 n0 n1 n2 n3 e2
            go_wp2_with fail
            go_roundw
            case rel=>exact ⟨i+1,k1,ed-N.kids.length,_,Y++[⟨N,a1,c1,a2,c2,a3,c3⟩],by go_num,by go_num,by omega,by show _=_;rw [List.length_append,HYl.out];rfl,by omega,hk1,by omega,by omega,HC8,HM8,HG8,HR8,HY8⟩
            case measure=>simp [intOf];omega
           ·have he1':(e1 != 0)=true:=by simpa using he1
            have hfin:=HC.out [] k1 e1 (by obtain ⟨q,hq⟩:∃q,m-i=q+1:=⟨m-i-1,by omega⟩;rw [hq];unfold oNds;rw [hN,if_pos he1])
            have hez:ez=e1:=by simp only [Prod.mk.injEq] at hfin;exact hfin.2.2
            have HV:Hid _:=lo_bad (HKp.out e1 ((oPay_5 R l.n l.e l.x hU hn0 HS.out (by rw [hez];exact he1)).trans hez) he1) HG6.out.f.bel HG6.out.f.r
            clear hfin HO6 HM6 HC HY n0 n1 n2 n3 hvb
            have x0:w6.cell? ⟨w.heap.size+1+1,0,none⟩=some (.slice none 0 0):=HG6.out.f.n.cell 0
            have x1:w6.cell? ⟨w.heap.size+1+1,1,none⟩=some (.int .i64 0):=HG6.out.f.n.cell 1
            have r0:w6.cell? ⟨w.heap.size+1,0,none⟩=some (.slice none 0 0):=HG6.out.f.r.cell 0
            have r1:w6.cell? ⟨w.heap.size+1,1,none⟩=some (.int .i64 0):=HG6.out.f.r.cell 1
            have f0:=HG6.out.f.r.fz 0
            have f1:=HG6.out.f.r.fz 1
            go_wp2_with fail
            go_region
            all_goals go_wp2_with fail
            all_goals obtain ⟨v2,v1⟩:=HV.out _ rfl
            all_goals have c0:=v2.cell 0
            all_goals have c1:=v2.cell 1
            all_goals exact bodyPost_ret (v:=.tuple #[.agg #[.slice none 0 0,.int .i64 0],.int .i64 e1]) (by simp [results,Tryz.results14,go_sem,c0,c1]) rfl v1.drew
          ·have hlt':¬(i:Int)<m:=by omega
           have hfin:=HC.out [] k 0 (by rw [show m-i=0 by omega];rfl)
           simp only [Prod.mk.injEq,List.append_nil] at hfin
           obtain ⟨rfl,rfl,rfl⟩:=hfin
           have e1:wr.cell? ⟨w2.heap.size,1,none⟩=some (.int .i64 (kz:Nat)):=HR.out.c1
           have s1:=HGl.out.s
           have hgq:=HGl.out.hs
           have hgr:=HGl.out.hl
           have x0:wr.cell? ⟨w.heap.size+1+1,0,none⟩=some (.slice none 0 0):=HGl.out.f.n.cell 0
           have x1:wr.cell? ⟨w.heap.size+1+1,1,none⟩=some (.int .i64 0):=HGl.out.f.n.cell 1
           have r0:wr.cell? ⟨w.heap.size+1,0,none⟩=some (.slice none 0 0):=HGl.out.f.r.cell 0
           have r1:wr.cell? ⟨w.heap.size+1,1,none⟩=some (.int .i64 0):=HGl.out.f.r.cell 1
           have f0:=HGl.out.f.r.fz 0
           have f1:=HGl.out.f.r.fz 1
           by_cases hkk:kz<R.size
           ·have hkk':(kz:Int)<R.size:=by omega
            have HV:Hid (∀q:Nat,Gq w (wr.drewN q) w2.heap.size gS l R):=fun q=>HGl.out.more ⟨rfl,rfl,rfl,Nat.le_refl _,fun _ _=>rfl⟩
            have HV2:Hid _:=HKp.out 8 (oPay_6 R l.n l.e l.x hU hn0 HS.out hkk) (by decide)
            clear HC HM HGl HR HY
            go_wp2_with fail
            go_quiet (fail)
            go_wp2_with fail
            obtain ⟨v2,v1⟩:=lo_bad HV2.out (HV.out _).f.bel (HV.out _).f.r _ rfl
            have c0:=v2.cell 0
            have c1:=v2.cell 1
            exact bodyPost_ret (v:=.tuple #[.agg #[.slice none 0 0,.int .i64 0],.int .i64 8]) (by simp [results,Tryz.results14,go_sem,c0,c1]) rfl v1
           ·have hkk':¬(kz:Int)<R.size:=by omega
            have hK:=oPay_7 R l.n l.e l.x hU hn0 HS.out hkk
            have HSm:Hid (Small Y):=⟨by have:=HYl.out;omega,fun j hj=>(HY.out j hj).1⟩
            have HFn:Hid (FnX Y):=fun j hj=>(HY.out j hj).2
            obtain ⟨av,cv,rfl⟩:=own_shape4 HM.out.row
            obtain ⟨d,hd⟩:=depth_there Y 0
            have HOf:Hid (∀n z,CheckIs Y 0 n z→(n≠0→LoIs b l (([]:List Nx).map Nx.nd) n)∧(n=0→(inL (meL Y d) l=false→LoIs b l (([]:List Nx).map Nx.nd) 19)∧(inL (meL Y d) l=true→LoIs b l (Y.map Nx.nd) 0))):=fun n z q=>HKf.out Y d n z hK hd q
            have HM9:Hid (∀q:Nat,Gq w (wr.drewN q) w2.heap.size gS l R∧Mkg (wr.drewN q) w3.heap.size w3.heap.size 0 (.slice av Y.length cv) Y):=fun q=>⟨HGl.out.more ⟨rfl,rfl,rfl,Nat.le_refl _,fun _ _=>rfl⟩,HM.out.below ⟨rfl,rfl,rfl,Nat.le_refl _,fun _ _=>rfl⟩⟩
            have HD:Hid (DepthIs Y 0 d):=hd
            have s0:wr.cell? ⟨w3.heap.size,0,none⟩=some (.slice av Y.length cv):=HM.out.sc.cell 0
            have s3:wr.cell? ⟨w3.heap.size,1,none⟩=some (.int .i64 0):=HM.out.sc.cell 1
            clear HC hK HY HR HKp HKf HGl HM hd
            go_wp2_with fail
            go_quiet (fail)
            rename_i nq
            obtain ⟨hg9,hm9⟩:=HM9.out nq
            have HG9:Hid (Gq w (wr.drewN nq) w2.heap.size gS l R):=hg9
            have HM9:Hid (Mkg (wr.drewN nq) w3.heap.size w3.heap.size 0 (.slice av Y.length cv) Y):=hm9
            clear hg9 hm9 x0 x1 r0 r1 f0 f1 s0 s1 s3 e1
            generalize wr.drewN nq=w9 at *
            have HCk:Hid _:=rcheck_any Y av cv 0 w9 HM9.out.scAt HSm.out
            have s0:w9.cell? ⟨w3.heap.size,0,none⟩=some (.slice av Y.length cv):=HM9.out.sc.cell 0
            have s3:w9.cell? ⟨w3.heap.size,1,none⟩=some (.int .i64 0):=HM9.out.sc.cell 1
            go_wp2_with fail
            refine Calls.mono HCk.out ?_
            rintro e w8 ⟨n,z,rfl,hck,hb8⟩
            have HG8:Hid (Gq w w8 w2.heap.size gS l R):=HG9.out.more hb8
            have HM8:Hid (Mkg w8 w3.heap.size w3.heap.size 0 (.slice av Y.length cv) Y):=HM9.out.below hb8
            have HO8:Hid _:=HOf.out n z hck
            clear HCk HG9 HM9 HOf hck hb8 s0 s3
            have x0:w8.cell? ⟨w.heap.size+1+1,0,none⟩=some (.slice none 0 0):=HG8.out.f.n.cell 0
            have x1:w8.cell? ⟨w.heap.size+1+1,1,none⟩=some (.int .i64 0):=HG8.out.f.n.cell 1
            have r0:w8.cell? ⟨w.heap.size+1,0,none⟩=some (.slice none 0 0):=HG8.out.f.r.cell 0
            have r1:w8.cell? ⟨w.heap.size+1,1,none⟩=some (.int .i64 0):=HG8.out.f.r.cell 1
            have f0:=HG8.out.f.r.fz 0
            have f1:=HG8.out.f.r.fz 1
            by_cases hn8:n=0
            ·subst hn8
             have HO9:Hid _:=HO8.out.2 rfl
             clear x0 x1 r0 r1 f0 f1 HO8
             obtain ⟨q,hq⟩:∃q,inL (meL Y d) l=q:=⟨_,rfl⟩
             have HQ8:Hid (inL (meL Y d) l=q):=hq
             have HMe:Hid (∀W,ScAt W av Y→Calls Tryz.prog 18 #[.agg #[.slice av Y.length cv,.int .i64 0]] W fun e w'=>e=.returned (.agg #[.int .i64 0,.int .i64 Y.length,.int .i64 (edg Y:Nat),.int .i64 (d:Nat),.int .i64 (txb Y:Nat)])∧Below W.heap.size W w'):=fun W hW=>rmeasure_any Y av cv 0 d W hW HSm.out HD.out
             have HWi:Hid (∀W,Calls Tryz.prog 40 #[.agg #[.int .i64 0,.int .i64 Y.length,.int .i64 (edg Y:Nat),.int .i64 (d:Nat),.int .i64 (txb Y:Nat)],.agg #[.int .i64 l.b,.int .i64 l.n,.int .i64 l.e,.int .i64 l.d,.int .i64 l.x]] W fun e w'=>e=.returned (.bool q)∧Below W.heap.size W w'):=fun W=>by
              have:=rwithin_any (meL Y d) l W
              rw [hq] at this
              exact this
             have HKe:Hid (∀W,Gq w W w2.heap.size gS l R→Mkg W w3.heap.size w3.heap.size 0 (.slice av Y.length cv) Y→W.cell? ⟨w3.heap.size,0,none⟩=some (.slice av Y.length cv)∧W.cell? ⟨w3.heap.size,1,none⟩=some (.int .i64 0)∧W.cell? ⟨w.heap.size,0,none⟩=some (.int .i64 l.b)∧W.cell? ⟨w.heap.size,1,none⟩=some (.int .i64 l.n)∧W.cell? ⟨w.heap.size,2,none⟩=some (.int .i64 l.e)∧W.cell? ⟨w.heap.size,3,none⟩=some (.int .i64 l.d)∧W.cell? ⟨w.heap.size,4,none⟩=some (.int .i64 l.x)):=fun W h1 h2=>⟨h2.sc.cell 0,h2.sc.cell 1,h1.f.a.cell 0,h1.f.a.cell 1,h1.f.a.cell 2,h1.f.a.cell 3,h1.f.a.cell 4⟩
             have K8:=HKe.out w8 HG8.out HM8.out
             have hbd:Below w8.heap.size w8 w8.drew:=bel_drew w8
             have HGd:Hid (Gq w w8.drew w2.heap.size gS l R):=HG8.out.more hbd
             have HMd:Hid (Mkg w8.drew w3.heap.size w3.heap.size 0 (.slice av Y.length cv) Y):=HM8.out.below hbd
             have Kd:=HKe.out w8.drew HGd.out HMd.out
             clear hq hbd HD
             go_wp2_with fail
             go_region_held3 (fun W=>W.cell? ⟨w3.heap.size,0,none⟩=some (.slice av Y.length cv)∧W.cell? ⟨w3.heap.size,1,none⟩=some (.int .i64 0)∧W.cell? ⟨w.heap.size,0,none⟩=some (.int .i64 l.b)∧W.cell? ⟨w.heap.size,1,none⟩=some (.int .i64 l.n)∧W.cell? ⟨w.heap.size,2,none⟩=some (.int .i64 l.e)∧W.cell? ⟨w.heap.size,3,none⟩=some (.int .i64 l.d)∧W.cell? ⟨w.heap.size,4,none⟩=some (.int .i64 l.x)) (first|exact Kb|exact Ka|exact Kd|exact K8)
              ((first|(go_at_call 40;refine Calls.mono (HWi.out _) ?_;rintro e wb ⟨rfl,hbb⟩;have HGb:Hid (Gq w wb w2.heap.size gS l R):=HGa.out.more hbb;have HMb:Hid (Mkg wb w3.heap.size w3.heap.size 0 (.slice av Y.length cv) Y):=HMa.out.below hbb;have Kb:=HKe.out wb HGb.out HMb.out)|(go_at_call 18;refine Calls.mono (HMe.out _ HMd.out.scAt) ?_;rintro e wa ⟨rfl,hba⟩;have HGa:Hid (Gq w wa w2.heap.size gS l R):=HGd.out.more hba;have HMa:Hid (Mkg wa w3.heap.size w3.heap.size 0 (.slice av Y.length cv) Y):=HMd.out.below hba;have Ka:=HKe.out wa HGa.out HMa.out)))
             clear K8 Kd Ka Kb HGd HMd HGa HMa HG8 HM8 hba hbb HMe HWi HKe
             have x0:wb.cell? ⟨w.heap.size+1+1,0,none⟩=some (.slice none 0 0):=HGb.out.f.n.cell 0
             have x1:wb.cell? ⟨w.heap.size+1+1,1,none⟩=some (.int .i64 0):=HGb.out.f.n.cell 1
             have r0:wb.cell? ⟨w.heap.size+1,0,none⟩=some (.slice none 0 0):=HGb.out.f.r.cell 0
             have r1:wb.cell? ⟨w.heap.size+1,1,none⟩=some (.int .i64 0):=HGb.out.f.r.cell 1
             have f0:=HGb.out.f.r.fz 0
             have f1:=HGb.out.f.r.fz 1
             cases q with
             | false=>
              have HV:Hid _:=lo_bad (HO9.out.1 HQ8.out) HGb.out.f.bel HGb.out.f.r
              go_wp2_with fail
              obtain ⟨v2,v1⟩:=HV.out _ rfl
              have c0:=v2.cell 0
              have c1:=v2.cell 1
              exact bodyPost_ret (v:=.tuple #[.agg #[.slice none 0 0,.int .i64 0],.int .i64 19]) (by simp [results,Tryz.results14,go_sem,c0,c1]) rfl v1
             | true=>
              have s0:wb.cell? ⟨w3.heap.size,0,none⟩=some (.slice av Y.length cv):=HMb.out.sc.cell 0
              have s3:wb.cell? ⟨w3.heap.size,1,none⟩=some (.int .i64 0):=HMb.out.sc.cell 1
              have HV:Hid _:=lo_good (HO9.out.2 HQ8.out) HGb.out.f.bel HGb.out.f.r HMb.out (by omega) HSm.out HFn.out
              go_wp2_with fail
              obtain ⟨v2,v1⟩:=HV.out _ rfl
              have c0:=v2.cell 0
              have c1:=v2.cell 1
              exact bodyPost_ret (v:=.tuple #[.agg #[.slice av Y.length cv,.int .i64 0],.int .i64 0]) (by simp [results,Tryz.results14,go_sem,c0,c1]) rfl v1
            ·have hn8':(n != 0)=true:=by simpa using hn8
             have HV:Hid _:=lo_bad (HO8.out.1 hn8) HG8.out.f.bel HG8.out.f.r
             go_wp2_with fail
             obtain ⟨v2,v1⟩:=HV.out _ rfl
             have c0:=v2.cell 0
             have c1:=v2.cell 1
             exact bodyPost_ret (v:=.tuple #[.agg #[.slice none 0 0,.int .i64 0],.int .i64 n]) (by simp [results,Tryz.results14,go_sem,c0,c1]) rfl v1
       ·have hne':(ne != 0)=true:=by simpa using hne
        have HV:Hid _:=lo_bad (HKp.out ne (oPay_3 R l.n l.e l.x hU hne) hne) HG3.out.f.bel HG3.out.f.r
        go_wp2_with fail
        go_region
        all_goals go_wp2_with fail
        all_goals obtain ⟨v2,v1⟩:=HV.out _ rfl
        all_goals have c0:=v2.cell 0
        all_goals have c1:=v2.cell 1
        all_goals exact bodyPost_ret (v:=.tuple #[.agg #[.slice none 0 0,.int .i64 0],.int .i64 ne]) (by simp [results,Tryz.results14,go_sem,c0,c1]) rfl v1.drew
      ·have h1':(n1==1)=false:=by simpa using h1
       have h1'':(n1 != 1)=true:=by simpa using h1
       have HV:Hid _:=(HK.out 4 (opK_5 b l hok (Int.not_lt.2 HLB.out) (by rw [HQ.out]) (by rw [HQ.out]) (by rw [HQ.out];rintro ⟨s,q,q2⟩;simp only [List.cons.injEq,and_true] at q;rw [← q] at q2;exact h1 q2)) (by decide)).out
       clear HQ HK
       go_wp2_with fail
       obtain ⟨v2,v1⟩:=HV.out _ rfl
       have c0:=v2.cell 0
       have c1:=v2.cell 1
       exact bodyPost_ret (v:=.tuple #[.agg #[.slice none 0 0,.int .i64 0],.int .i64 4]) (by simp [results,Tryz.results14,go_sem,c0,c1]) rfl v1
     ·have hn':((S.length:Int)==1)=false:=by simp;omega
      have hn'':((S.length:Int) != 1)=true:=by simp;omega
      have hn3:¬(S.length:Int)=1:=by omega
      have HV:Hid _:=(HK.out 4 (opK_5 b l hok (Int.not_lt.2 HLB.out) (by rw [HQ.out]) (by rw [HQ.out]) (by rw [HQ.out];rintro ⟨s,q,_⟩;dsimp only at q;rw [q] at hn;exact hn rfl)) (by decide)).out
      clear HQ HK HsS HaS
      go_wp2_with fail
      obtain ⟨v2,v1⟩:=HV.out _ rfl
      have c0:=v2.cell 0
      have c1:=v2.cell 1
      exact bodyPost_ret (v:=.tuple #[.agg #[.slice none 0 0,.int .i64 0],.int .i64 4]) (by simp [results,Tryz.results14,go_sem,c0,c1]) rfl v1
    ·have hV':((V:Int)==1)=false:=by simp;omega
     have hV'':((V:Int) != 1)=true:=by simp;omega
     have hV3:¬(V:Int)=1:=by omega
     have HV:Hid _:=(HK.out 7 (opK_4 b l hok (Int.not_lt.2 HLB.out) (by rw [HQ.out]) (by rw [HQ.out];exact hV)) (by decide)).out
     clear HQ HK HsS HaS
     go_wp2_with fail
     obtain ⟨v2,v1⟩:=HV.out _ rfl
     have c0:=v2.cell 0
     have c1:=v2.cell 1
     exact bodyPost_ret (v:=.tuple #[.agg #[.slice none 0 0,.int .i64 0],.int .i64 7]) (by simp [results,Tryz.results14,go_sem,c0,c1]) rfl v1
   ·have hE':((E:Int)==0)=false:=by simp;omega
    have hE'':((E:Int) != 0)=true:=by simp;omega
    have hE3:¬(E:Int)=0:=by omega
    have HV:Hid _:=(HK.out E (by rw [opK_3 b l hok (Int.not_lt.2 HLB.out) (by rw [HQ.out];exact hE),HQ.out]) (by omega)).out
    clear HQ HK HsS HaS
    go_wp2_with fail
    obtain ⟨v2,v1⟩:=HV.out _ rfl
    have c0:=v2.cell 0
    have c1:=v2.cell 1
    exact bodyPost_ret (v:=.tuple #[.agg #[.slice none 0 0,.int .i64 0],.int .i64 (E:Int)]) (by simp [results,Tryz.results14,go_sem,c0,c1]) rfl v1
end Go.Proofs.YtgoffkfpdigeeaaGreatDoor
