import Derived.Deep.QuietTactic
import Derived.BigQuiet
import Derived.BigRegion
import Derived.Lib.QuietBelow
import Derived.Test.YtcgjgjjegnofeaaGreatDoorPB21
import Derived.Test.YtcgjgjjegnofeaaGreatDoorPB08
import Derived.Test.YtcgjgjjegnofeaaGreatDoorPB10
import Derived.Test.YtcgjgjjegnofeaaGreatDoorPB14
import Derived.Deep.RegionHeld3
import Derived.Test.YtcgjgjjegnofeaaGreatDoorPB25
import Derived.Test.YtcgjgjjegnofeaaGreatDoorPB28
namespace Go.Proofs.YtcgjgjjegnofeaaGreatDoor
open Go.RowKit Go.Maps Go.WideMaps Go.Sort
set_option maxRecDepth 10000 in
set_option maxHeartbeats 2000000 in
theorem rnget2_any (tx nb:ByteArray) (l:Lm) (w:World) (hz:tx.size≤3000) (hy:nb.size≤3000) (hl:∀i,i<5→-9223372036854775808≤(lmL l).getD i 0∧(lmL l).getD i 0≤9223372036854775807) :
  Calls Tryz.prog 41 #[.string tx,.string nb,.agg (liC l)] w fun e w'=>GeOut2 tx nb l w w' e:=by
 have HA:Hid (∀(o1 o2 o3:Obj),o1=.cells (liC l) 26→o2=.cells #[.slice none 0 0,.int .i64 0] 24→o3=.cells #[.slice none 0 0,.int .i64 0] 24→AtN 26 (((w.alloc o1).alloc o2).alloc o3) w.heap.size (liC l)∧AtN 24 (((w.alloc o1).alloc o2).alloc o3) (w.heap.size+1) #[.slice none 0 0,.int .i64 0]∧AtN 24 (((w.alloc o1).alloc o2).alloc o3) (w.heap.size+2) #[.slice none 0 0,.int .i64 0]∧Below w.heap.size w (((w.alloc o1).alloc o2).alloc o3)):=by
  rintro _ _ _ rfl rfl rfl
  exact ⟨((AtN.new w 26 _).alloc _).alloc _,(mk_at (AtN.new (w.alloc _) 24 _) (show _=w.heap.size+1 by simp)).alloc _,mk_at (AtN.new ((w.alloc _).alloc _) 24 _) (show _=w.heap.size+2 by simp),(((Below.refl w.heap.size w).alloc (Nat.le_refl _) _).alloc (by simp) _).alloc (by simp;omega) _⟩
 have hlC:liC l=#[.int .i64 l.b,.int .i64 l.n,.int .i64 l.e,.int .i64 l.d,.int .i64 l.x]:=rfl
 go_enter Tryz.func41,Tryz.ntmps41
 rw [hlC]
 go_wp2_with fail
 obtain ⟨h1,h2,h3,h4⟩:=HA.out _ _ _ rfl rfl rfl
 refine (rokl_any l _).mono ?_
 rintro e w1 ⟨rfl,hb1⟩
 have HA1:Hid (AtN 26 w1 w.heap.size (liC l)):=h1.belowAll hb1
 have HR1:Hid (AtN 24 w1 (w.heap.size+1) #[.slice none 0 0,.int .i64 0]):=h2.belowAll hb1
 have HN1:Hid (AtN 24 w1 (w.heap.size+2) #[.slice none 0 0,.int .i64 0]):=h3.belowAll hb1
 have HB1:Hid (Below w.heap.size w w1):=h4.trans (hb1.mono h4.size)
 have hs1:w.heap.size+3≤w1.heap.size:=by have:=HN1.out.lt;omega
 clear HA h1 h2 h3 h4 hb1
 have x0:w1.cell? ⟨w.heap.size+1+1,0,none⟩=some (.slice none 0 0):=HN1.out.cell 0
 have x1:w1.cell? ⟨w.heap.size+1+1,1,none⟩=some (.int .i64 0):=HN1.out.cell 1
 have r0:w1.cell? ⟨w.heap.size+1,0,none⟩=some (.slice none 0 0):=HR1.out.cell 0
 have r1:w1.cell? ⟨w.heap.size+1,1,none⟩=some (.int .i64 0):=HR1.out.cell 1
 have f0:=HR1.out.fz 0
 have f1:=HR1.out.fz 1
 cases hok:okL l with
 | false=>
  have HV:Hid _:=tell_bad (GeIs.bad (geK_1 tx nb l hok) (by decide)) HB1.out HR1.out
  go_wp2_with fail
  obtain ⟨v2,v1⟩:=HV.out _ rfl
  have c0:=v2.cell 0
  have c1:=v2.cell 1
  exact bodyPost_ret (v:=.tuple #[.agg #[.slice none 0 0,.int .i64 0],.int .i64 1]) (by simp [results,Tryz.results41,go_sem,c0,c1]) rfl v1
 | true=>
  have a4:w1.cell? ⟨w.heap.size,4,none⟩=some (.int .i64 l.x):=HA1.out.cell 4
  obtain ⟨te,L,hT⟩:∃te L,pGet6 tx 16777216 l.x=(te,L):=⟨_,_,rfl⟩
  have HG:Hid _:=rget6_any tx 16777216 l.x w1 (by omega) (by omega) (by have:=hl 4 (by omega);simpa [lmL] using this.2)
  rw [hT] at HG
  go_wp2_with fail
  refine Calls.mono HG.out ?_
  rintro e w2 ⟨y,cap,bt,ot,rfl,hp,ht,hcp,hnil,hb2⟩
  dsimp only at hp ht hcp hnil ⊢
  have HX2:Hid (TxI w2 y cap bt ot L):=⟨hp,ht,hcp,hnil⟩
  have HA2:Hid (AtN 26 w2 w.heap.size (liC l)):=HA1.out.belowAll hb2
  have HR2:Hid (AtN 24 w2 (w.heap.size+1) #[.slice none 0 0,.int .i64 0]):=HR1.out.belowAll hb2
  have HN2:Hid (AtN 24 w2 (w.heap.size+2) #[.slice none 0 0,.int .i64 0]):=HN1.out.belowAll hb2
  have HB2:Hid (Below w.heap.size w w2):=HB1.out.trans (hb2.mono HB1.out.size)
  have hs2:w.heap.size+3≤w2.heap.size:=by have:=HN2.out.lt;omega
  clear hp ht hcp hnil hb2 HG HA1 HR1 HN1 HB1 x0 x1 r0 r1 f0 f1 a4
  have x0:w2.cell? ⟨w.heap.size+1+1,0,none⟩=some (.slice none 0 0):=HN2.out.cell 0
  have x1:w2.cell? ⟨w.heap.size+1+1,1,none⟩=some (.int .i64 0):=HN2.out.cell 1
  have r0:w2.cell? ⟨w.heap.size+1,0,none⟩=some (.slice none 0 0):=HR2.out.cell 0
  have r1:w2.cell? ⟨w.heap.size+1,1,none⟩=some (.int .i64 0):=HR2.out.cell 1
  have f0:=HR2.out.fz 0
  have f1:=HR2.out.fz 1
  by_cases hte:te=0
  ·subst hte
   obtain ⟨n,k0,ne,hU⟩:∃n k0 ne,pUint nb 0 0 l.n=(n,k0,ne):=⟨_,_,_,rfl⟩
   have HGl:Hid (∀o:Obj,Gl w (w2.alloc o) w2.heap.size l y cap bt ot L):=fun o=>⟨HB2.out.alloc HB2.out.size o,HA2.out.alloc o,HR2.out.alloc o,HN2.out.alloc o,HX2.out.below ((Below.refl w2.heap.size w2).alloc (Nat.le_refl _) o),fun q=>(HX2.out.at_ 0 q).1,by simp,hs2⟩
   have HRf:Hid (Rf (w2.alloc (.cells #[.string nb,.int .i64 0,.int .i64 0] 131)) w2.heap.size nb 0 0):=At3.new w2 _ _ _ _
   have HUi:Hid _:=ruint_any (w2.alloc (.cells #[.string nb,.int .i64 0,.int .i64 0] 131)) w2.heap.size nb 0 0 l.n HRf.out (by unfold maxLen;omega) (Nat.zero_le _)
   rw [hU] at HUi
   have a1:(w2.alloc (.cells #[.string nb,.int .i64 0,.int .i64 0] 131)).cell? ⟨w.heap.size,1,none⟩=some (.int .i64 l.n):=(HGl.out _).a.cell 1
   have a0:=(HA2.out.alloc (.cells #[.string nb,.int .i64 0,.int .i64 0] 131)).lt
   have hln:0≤l.n∧l.n≤16777216:=(okL_in hok).2.1
   go_wp2_with fail
   refine Calls.mono HUi.out ?_
   rintro e w3 ⟨rfl,hr3,hb3⟩
   dsimp only at hr3 ⊢
   have HGl3:Hid (Gl w w3 w2.heap.size l y cap bt ot L):=(HGl.out _).cur hb3 (Nat.le_refl _)
   have HRf3:Hid (Rf w3 w2.heap.size nb (k0:Nat) ne):=hr3
   have hk0:k0≤nb.size:=by have:=(pUint_at nb 0 0 l.n (Nat.zero_le _)).2;rw [hU] at this;exact this
   have hnt:0≤n∧n≤16777216:=by have:=pUint_top nb 0 0 l.n;rw [hU] at this;exact ⟨this.1,this.2.1⟩
   clear HUi hr3 hb3 HGl HRf HX2 HA2 HR2 HN2 HB2 x0 x1 r0 r1 f0 f1 a0 a1
   have e2:w3.cell? ⟨w2.heap.size,2,none⟩=some (.int .i64 ne):=HRf3.out.c2
   have x0:w3.cell? ⟨w.heap.size+1+1,0,none⟩=some (.slice none 0 0):=HGl3.out.n.cell 0
   have x1:w3.cell? ⟨w.heap.size+1+1,1,none⟩=some (.int .i64 0):=HGl3.out.n.cell 1
   have r0:w3.cell? ⟨w.heap.size+1,0,none⟩=some (.slice none 0 0):=HGl3.out.r.cell 0
   have r1:w3.cell? ⟨w.heap.size+1,1,none⟩=some (.int .i64 0):=HGl3.out.r.cell 1
   have f0:=HGl3.out.r.fz 0
   have f1:=HGl3.out.r.fz 1
   have q1:(w.heap.size+1=w2.heap.size)=False:=by simp;omega
   by_cases hne:ne=0
   ·subst hne
    by_cases hn0:n=0
    ·subst hn0
     have HV:Hid _:=tell_bad (GeIs.bad (geK_4 tx nb l hok hT hU) (by decide)) HGl3.out.bel HGl3.out.r
     go_wp2_with fail
     obtain ⟨v2,v1⟩:=HV.out _ rfl
     have c0:=v2.cell 0
     have c1:=v2.cell 1
     exact bodyPost_ret (v:=.tuple #[.agg #[.slice none 0 0,.int .i64 0],.int .i64 13]) (by simp [results,Tryz.results41,go_sem,c0,c1]) rfl v1
    ·have hn0':(n==0)=false:=by simpa using hn0
     have hs3:=HGl3.out.hl
     have hgc:=HRf3.out.lt
     have a2:(w3.alloc (.cells #[.slice none 0 0,.int .i64 (n-1)] 24)).cell? ⟨w.heap.size,2,none⟩=some (.int .i64 l.e):=(HGl3.out.a.alloc _).cell 2
     have a0:=(HGl3.out.a.alloc (.cells #[.slice none 0 0,.int .i64 (n-1)] 24)).lt
     have HM0:Hid (Mkg (w3.alloc (.cells #[.slice none 0 0,.int .i64 (n-1)] 24)) w3.heap.size w3.heap.size (n-1) (.slice none 0 0) []):=⟨AtN.new w3 24 _,⟨rfl,.inl ⟨rfl,rfl⟩⟩,fun j hj=>by simp at hj⟩
     have HG0:Hid (Gl w (w3.alloc (.cells #[.slice none 0 0,.int .i64 (n-1)] 24)) w2.heap.size l y cap bt ot L):=HGl3.out.more ((Below.refl w3.heap.size w3).alloc (Nat.le_refl _) _)
     have HR0:Hid (Rf (w3.alloc (.cells #[.slice none 0 0,.int .i64 (n-1)] 24)) w2.heap.size nb (k0:Nat) 0):=At3.alloc HRf3.out _
     have hle:=(okL_in hok).2.2.1
     have hLs:L.Nodup∧sum6 L+L.length≤3000∧∀s ∈ L,ok8 s=true:=by
      have h1:=pGet6_ok tx 16777216 l.x (by rw [hT])
      have h2:=pGet6_ok8 tx 16777216 l.x (by rw [hT])
      rw [hT] at h1 h2
      exact ⟨h1.2.1,by have:=h1.2.2;dsimp only at this;omega,h2⟩
     have HLs:Hid (L.Nodup∧sum6 L+L.length≤3000∧∀s ∈ L,ok8 s=true):=hLs
     have hLl:L.length≤3000:=by omega
     obtain ⟨m,rfl⟩:∃m:Nat,n=m:=⟨n.toNat,by omega⟩
     obtain ⟨P,kz,ez,hS⟩:∃P kz ez,gNs nb L m 0 k0 l.e=(P,kz,ez):=⟨_,_,_,rfl⟩
     have HS:Hid (gNs nb L (m:Int).toNat 0 k0 l.e=(P,kz,ez)):=by rw [Int.toNat_natCast];exact hS
     obtain ⟨i0,hi,hz0,hz1,hz2⟩:=info_parts Tryz.infoD9
     clear hLs x0 x1 r0 r1 f0 f1 q1 HGl3 HRf3
     go_wp2_with fail
     go_loopw [14,15] (fun dv iv wr=>∃(i k:Nat) (ed:Int) (v:Value) (Y:List Nx),iv=.int .i64 i∧dv=.int .i64 ed∧i≤m∧Hid (Y.length=i)∧3*i≤k∧k≤nb.size∧l.e-3000*i≤ed∧ed≤l.e∧Hid (∀T k' e',gNs nb L (m-i) i k ed=(T,k',e')→(P,kz,ez)=(Y.map Nx.nd++T,k',e'))∧Hid (Mkg wr w3.heap.size w3.heap.size ((m:Int)-1) v Y)∧Hid (Gl w wr w2.heap.size l y cap bt ot L)∧Hid (Rf wr w2.heap.size nb (k:Nat) 0)∧Hid (∀j,j<Y.length→big (Y.getD j noNx).nd=false∧fine (Y.getD j noNx).nd.ints)) (fun _ iv _=>m-(intOf iv).toNat)
     case atStart=>exact ⟨0,k0,l.e,_,[],rfl,rfl,by omega,rfl,by omega,hk0,by omega,by omega,(fun T k' e' q=>by rw [Nat.sub_zero] at q;rw [← hS,q];simp),HM0,HG0,HR0,(fun j hj=>by simp at hj)⟩
     case round=>
      clear HM0 HG0 HR0 hS a0 a2 e2
      obtain ⟨i,k,ed,v,Y,rfl,rfl,him,HYl,hk3,hkb,hd1,hd2,HC,HM,HGl,HR,HY⟩:=hrel
      by_cases hlt:i<m
      ·have hlt':(i:Int)<m:=by omega
       obtain ⟨N,k1,e1,hN⟩:∃N k1 e1,gNd nb i L ed k 0=(N,k1,e1):=⟨_,_,_,rfl⟩
       have HN:Hid _:=rrget_any nb w2.heap.size (i:Int) ed y cap bt ot L k 0 wr HR.out (by omega) hkb HGl.out.x hLl (fun q=>by have:=HGl.out.hb q;omega) (by omega) (by omega)
       rw [hN] at HN
       go_wp2_with fail
       refine Calls.mono HN.out ?_
       rintro e w5 ⟨a1,c1,a2,c2,a3,c3,rfl,ho5,hr5,hb5⟩
       dsimp only at ho5 hr5 ⊢
       obtain ⟨w6,hw6⟩:∃w6,w5.alloc (.cells #[.int .i64 N.kind,.slice a1 N.ints.length c1,.slice a2 N.texts.length c2,.slice a3 N.kids.length c3] 62)=w6:=⟨_,rfl⟩
       have hb6:Below w5.heap.size w5 w6:=by rw [← hw6];exact (Below.refl w5.heap.size w5).alloc (Nat.le_refl _) _
       have hA6:AtN 62 w6 w5.heap.size #[.int .i64 N.kind,.slice a1 N.ints.length c1,.slice a2 N.texts.length c2,.slice a3 N.kids.length c3]:=by rw [← hw6];exact AtN.new w5 62 _
       have HO6:Hid (OwnNx w6 wr.heap.size ⟨N,a1,c1,a2,c2,a3,c3⟩):=OwnNd.belowB ho5 hb6
       have HR6:Hid (Rf w6 w2.heap.size nb (k1:Nat) e1):=At3.belowAll hr5 hb6
       have HG6:Hid (Gl w w6 w2.heap.size l y cap bt ot L):=(HGl.out.cur hb5 (Nat.le_refl _)).more hb6
       have HM6:Hid (Mkg w6 w3.heap.size w3.heap.size ((m:Int)-1) v Y):=(HM.out.cur hb5 HR.out).below hb6
       have hsz:wr.heap.size≤w6.heap.size:=Nat.le_trans hb5.size hb6.size
       have h3r:w3.heap.size<wr.heap.size:=HM.out.sc.lt
       have hvb:∀z,v.ownBlock=some z→w3.heap.size≤z∧z<wr.heap.size:=fun z q=>HM.out.row.lt z q
       clear HN ho5 hr5 hb5 HM HGl HR
       have n3:w6.cell? ⟨w5.heap.size,3,none⟩=some (.slice a3 N.kids.length c3):=hA6.cell 3
       have n0:w6.cell? ⟨w5.heap.size,0,none⟩=some (.int .i64 N.kind):=hA6.cell 0
       have n1:w6.cell? ⟨w5.heap.size,1,none⟩=some (.slice a1 N.ints.length c1):=hA6.cell 1
       have n2:w6.cell? ⟨w5.heap.size,2,none⟩=some (.slice a2 N.texts.length c2):=hA6.cell 2
       have e2:w6.cell? ⟨w2.heap.size,2,none⟩=some (.int .i64 e1):=HR6.out.c2
       by_cases he1:e1=0
       ·subst he1
        have HLn:Hid (L.Nodup∧sum6 L+L.length≤3000∧∀s ∈ L,ok8 s=true):=HLs.out
        obtain ⟨q1,q2,q3,q4⟩:=gNd_three hN (by omega) HLs.out.1 HLs.out.2.2
        have hbg:=q3 3000 (Nat.le_refl _) (by omega) (by have:=HLs.out.2.1;omega)
        have hk1:k1≤nb.size:=by have:=gNd_le nb i L ed k 0 hkb;rw [hN] at this;exact this
        have hv3:v.ownBlock≠some w3.heap.size:=HM6.out.ne
        have HC6:Hid (∀T k' e',gNs nb L (m-(i+1)) (i+1) k1 (ed-N.kids.length)=(T,k',e')→(P,kz,ez)=(Y.map Nx.nd++N :: T,k',e')):=fun T k' e' hq=>HC.out (N :: T) k' e' (by
         rw [show m-i=(m-(i+1))+1 by omega]
         unfold gNs
         rw [hN,if_neg (by simp)]
         dsimp only
         rw [hq])
        have hkl:N.kids.length≤3000:=by omega
        clear HC hN q3
        obtain ⟨av,cv,rfl⟩:=own_shape4 HM6.out.row
        have x0:w6.cell? ⟨w3.heap.size,0,none⟩=some (.slice av Y.length cv):=HM6.out.sc.cell 0
        have x1:=HM6.out.sc.lt
        have f0:=HM6.out.sc.fz 0
        go_wp2_with (at_builtin;refine wpList_append_lies _ rfl (.tmp 87) (.tmp 89) 22 rfl w3.heap.size 62 i0 (.agg #[.int .i64 0,.slice none 0 0,.slice none 0 0,.slice none 0 0]) 4 80 Tryz.underlying22 hi hz0 hz1 hz2 rfl (by decide) _ Y.length (nxV Y) rfl (HM6.out.row.alloc _) ⟨w6.heap.size,0,none⟩ 1 1 [.int .i64 N.kind,.slice a1 N.ints.length c1,.slice a2 N.texts.length c2,.slice a3 N.kids.length c3] rfl rfl (fun j z hz=>World.news_of_block (AtN.new w6 62 _) j z (by simpa using hz)) (by intro z hz;simp at hz;rcases hz with rfl|rfl|rfl|rfl <;> rfl) (by decide) (by have:=HYl.out;unfold maxLen;omega) (by have:=HYl.out;omega) (by simp;omega) _ rfl ?_)
        intro g2 cap2 w7 hown hgrow hlie hlt7
        clear hw6
        have hg0:w3.heap.size<w6.heap.size:=x1
        have hA7:AtN 24 w7 w3.heap.size #[.slice av Y.length cv,.int .i64 ((m:Int)-1)]:=(HM6.out.sc.alloc _).kept hgrow (fun e=>hv3 e.symm)
        have x7:w7.cell? ⟨w3.heap.size,0,none⟩=some (.slice av Y.length cv):=hA7.cell 0
        have f7:=hA7.fz 0
        have hfr:Fr (MkS w3.heap.size (.slice av Y.length cv)) w6 (w7.setCell ⟨w3.heap.size,0,none⟩ (.slice (some ⟨g2,0,none⟩) (Y.length+1) cap2)):=(((Fr.refl (MkS w3.heap.size (.slice av Y.length cv)) w6).alloc _).trans (Fr.of_grown hgrow (fun q e=>.inl e)) (fun i hi _=>hi)).set ⟨w3.heap.size,0,none⟩ (.inr rfl) _
        have hne:(Value.slice (some ⟨g2,0,none⟩) (Y.length+1) cap2).ownBlock≠some w3.heap.size:=by
         intro q
         simp only [Value.ownBlock,Option.some.injEq] at q
         rcases hlie with p|p
         ·rw [q] at p;exact hv3 p
         ·first|omega|(simp at p;omega)
        have hOw:OwnNx w7 wr.heap.size ⟨N,a1,c1,a2,c2,a3,c3⟩:=OwnNx.kept (OwnNx.kept HO6.out (World.grownBy_alloc w6 _ none) (by simp)) hgrow (fun z q=>(hvb z q).2)
        have HM8:Hid (Mkg (w7.setCell ⟨w3.heap.size,0,none⟩ (.slice (some ⟨g2,0,none⟩) (Y.length+1) cap2)) w3.heap.size w3.heap.size ((m:Int)-1) (.slice (some ⟨g2,0,none⟩) (Y.length+1) cap2) (Y++[⟨N,a1,c1,a2,c2,a3,c3⟩])):=by
         refine HM6.out.next hfr (by simpa using AtN.set hA7 0 (.slice (some ⟨g2,0,none⟩) (Y.length+1) cap2)) (own_set' hown hne _) (OwnNx.mono (hOw.kept (grown_set (grown_refl w7 (some w3.heap.size)) 0 _) (fun k hk=>by cases hk;omega)) (by omega))
        have hS:∀z,MkS w3.heap.size (.slice av Y.length cv) z→w3.heap.size≤z:=fun z hz=>by
         rcases hz with hz|hz
         ·exact (hvb z hz).1
         ·omega
        have HG8:Hid (Gl w (w7.setCell ⟨w3.heap.size,0,none⟩ (.slice (some ⟨g2,0,none⟩) (Y.length+1) cap2)) w2.heap.size l y cap bt ot L):=HG6.out.fr hfr (fun z hz=>by have:=hS z hz;omega)
        have HR8:Hid (Rf (w7.setCell ⟨w3.heap.size,0,none⟩ (.slice (some ⟨g2,0,none⟩) (Y.length+1) cap2)) w2.heap.size nb (k1:Nat) 0):=At3.fr HR6.out hfr (fun hz=>by have:=hS _ hz;omega)
        have HY8:Hid (∀j,j<(Y++[(⟨N,a1,c1,a2,c2,a3,c3⟩:Nx)]).length→big ((Y++[(⟨N,a1,c1,a2,c2,a3,c3⟩:Nx)]).getD j noNx).nd=false∧fine ((Y++[(⟨N,a1,c1,a2,c2,a3,c3⟩:Nx)]).getD j noNx).nd.ints):=fun j hj=>by
         by_cases hlt:j<Y.length
         ·rw [show (Y++[(⟨N,a1,c1,a2,c2,a3,c3⟩:Nx)]).getD j noNx=Y.getD j noNx by rw [List.getD_eq_getElem?_getD,List.getElem?_append_left hlt,← List.getD_eq_getElem?_getD]]
          exact HY.out j hlt
         ·obtain rfl:j=Y.length:=by simp at hj;omega
          rw [show (Y++[(⟨N,a1,c1,a2,c2,a3,c3⟩:Nx)]).getD Y.length noNx=⟨N,a1,c1,a2,c2,a3,c3⟩ by simp]
          exact ⟨hbg,q4⟩
        have HC8:Hid (∀T k' e',gNs nb L (m-(i+1)) (i+1) k1 (ed-N.kids.length)=(T,k',e')→(P,kz,ez)=((Y++[(⟨N,a1,c1,a2,c2,a3,c3⟩:Nx)]).map Nx.nd++T,k',e')):=fun T k' e' hq=>by
         rw [HC6.out T k' e' hq];simp
        clear hown hgrow hlie hA7 hfr hne hOw hS HM6 HG6 HR6 HY HC6 HO6 hvb x0 n0 n1 n2 n3 e2
        go_wp2_with fail
        go_roundw
        case rel=>exact ⟨i+1,k1,ed-N.kids.length,_,Y++[⟨N,a1,c1,a2,c2,a3,c3⟩],by go_num,by go_num,by omega,by show _=_;rw [List.length_append,HYl.out];rfl,by omega,hk1,by omega,by omega,HC8,HM8,HG8,HR8,HY8⟩
        case measure=>simp [intOf];omega
       ·have he1':(e1 != 0)=true:=by simpa using he1
        have hfin:=HC.out [] k1 e1 (by obtain ⟨q,hq⟩:∃q,m-i=q+1:=⟨m-i-1,by omega⟩;rw [hq];unfold gNs;rw [hN,if_pos he1])
        have hez:ez=e1:=by simp only [Prod.mk.injEq] at hfin;exact hfin.2.2
        have HV:Hid _:=tell_bad (GeIs.bad ((geK_5 tx nb l hok hT hU hn0 HS.out (by rw [hez];exact he1)).trans hez) he1) HG6.out.bel HG6.out.r
        clear hfin HO6 HM6 HC HY n0 n1 n2 n3 hvb
        have x0:w6.cell? ⟨w.heap.size+1+1,0,none⟩=some (.slice none 0 0):=HG6.out.n.cell 0
        have x1:w6.cell? ⟨w.heap.size+1+1,1,none⟩=some (.int .i64 0):=HG6.out.n.cell 1
        have r0:w6.cell? ⟨w.heap.size+1,0,none⟩=some (.slice none 0 0):=HG6.out.r.cell 0
        have r1:w6.cell? ⟨w.heap.size+1,1,none⟩=some (.int .i64 0):=HG6.out.r.cell 1
        have f0:=HG6.out.r.fz 0
        have f1:=HG6.out.r.fz 1
        go_wp2_with fail
        go_region
        all_goals go_wp2_with fail
        all_goals obtain ⟨v2,v1⟩:=HV.out _ rfl
        all_goals have c0:=v2.cell 0
        all_goals have c1:=v2.cell 1
        all_goals exact bodyPost_ret (v:=.tuple #[.agg #[.slice none 0 0,.int .i64 0],.int .i64 e1]) (by simp [results,Tryz.results41,go_sem,c0,c1]) rfl v1.drew
      ·have hlt':¬(i:Int)<m:=by omega
       have hfin:=HC.out [] k 0 (by rw [show m-i=0 by omega];rfl)
       simp only [Prod.mk.injEq,List.append_nil] at hfin
       obtain ⟨rfl,rfl,rfl⟩:=hfin
       have e1:wr.cell? ⟨w2.heap.size,1,none⟩=some (.int .i64 (kz:Nat)):=HR.out.c1
       have x0:wr.cell? ⟨w.heap.size+1+1,0,none⟩=some (.slice none 0 0):=HGl.out.n.cell 0
       have x1:wr.cell? ⟨w.heap.size+1+1,1,none⟩=some (.int .i64 0):=HGl.out.n.cell 1
       have r0:wr.cell? ⟨w.heap.size+1,0,none⟩=some (.slice none 0 0):=HGl.out.r.cell 0
       have r1:wr.cell? ⟨w.heap.size+1,1,none⟩=some (.int .i64 0):=HGl.out.r.cell 1
       have f0:=HGl.out.r.fz 0
       have f1:=HGl.out.r.fz 1
       by_cases hkk:kz<nb.size
       ·have hkk':(kz:Int)<nb.size:=by omega
        have HV:Hid _:=tell_bad (GeIs.bad (geK_6 tx nb l hok hT hU hn0 HS.out hkk) (by decide)) HGl.out.bel HGl.out.r
        clear HC HM HGl HR HY
        go_wp2_with fail
        obtain ⟨v2,v1⟩:=HV.out _ rfl
        have c0:=v2.cell 0
        have c1:=v2.cell 1
        exact bodyPost_ret (v:=.tuple #[.agg #[.slice none 0 0,.int .i64 0],.int .i64 8]) (by simp [results,Tryz.results41,go_sem,c0,c1]) rfl v1
       ·have hkk':¬(kz:Int)<nb.size:=by omega
        have hK:=geK_7 tx nb l hok hT hU hn0 HS.out hkk
        have HSm:Hid (Small Y):=⟨by have:=HYl.out;omega,fun j hj=>(HY.out j hj).1⟩
        have HFn:Hid (FnX Y):=fun j hj=>(HY.out j hj).2
        obtain ⟨av,cv,rfl⟩:=own_shape4 HM.out.row
        have hrr:(m:Int)-1=(Y.length:Int)-1:=by have:=HYl.out;omega
        have HOf:Hid (∀q,GeS Y ((m:Int)-1) L l q→(q≠0→GeIs tx nb l (([]:List Nx).map Nx.nd) 0 q)∧(q=0→GeIs tx nb l (Y.map Nx.nd) ((m:Int)-1) 0)):=fun q hq=>GeIs.of hK hrr hq
        obtain ⟨d,hd⟩:=depth_there Y ((m:Int)-1)
        have HSc:Hid (∀W,Below wr.heap.size wr W→ScAt W av Y):=fun W q=>HM.out.scAt.belowB q
        have HCk:Hid _:=rcheck_any Y av cv ((m:Int)-1) wr HM.out.scAt HSm.out
        clear HC hK hrr HY HR
        have s0:wr.cell? ⟨w3.heap.size,0,none⟩=some (.slice av Y.length cv):=HM.out.sc.cell 0
        have s1:wr.cell? ⟨w3.heap.size,1,none⟩=some (.int .i64 ((m:Int)-1)):=HM.out.sc.cell 1
        go_wp2_with fail
        refine Calls.mono HCk.out ?_
        rintro e w8 ⟨n,z,rfl,hck,hb8⟩
        have HW8:Hid (Below wr.heap.size wr w8):=hb8
        have HG8:Hid (Gl w w8 w2.heap.size l y cap bt ot L):=HGl.out.more hb8
        have HM8:Hid (Mkg w8 w3.heap.size w3.heap.size ((m:Int)-1) (.slice av Y.length cv) Y):=HM.out.below hb8
        have HC8:Hid (CheckIs Y ((m:Int)-1) n z∧DepthIs Y ((m:Int)-1) d):=⟨hck,hd⟩
        clear HCk HGl HM hck hb8 hd x0 x1 r0 r1 f0 f1 s0 s1
        have x0:w8.cell? ⟨w.heap.size+1+1,0,none⟩=some (.slice none 0 0):=HG8.out.n.cell 0
        have x1:w8.cell? ⟨w.heap.size+1+1,1,none⟩=some (.int .i64 0):=HG8.out.n.cell 1
        have r0:w8.cell? ⟨w.heap.size+1,0,none⟩=some (.slice none 0 0):=HG8.out.r.cell 0
        have r1:w8.cell? ⟨w.heap.size+1,1,none⟩=some (.int .i64 0):=HG8.out.r.cell 1
        have f0:=HG8.out.r.fz 0
        have f1:=HG8.out.r.fz 1
        by_cases hn8:n=0
        ·subst hn8
         have s0:w8.cell? ⟨w3.heap.size,0,none⟩=some (.slice av Y.length cv):=HM8.out.sc.cell 0
         have s1:w8.cell? ⟨w3.heap.size,1,none⟩=some (.int .i64 ((m:Int)-1)):=HM8.out.sc.cell 1
         have a3:w8.cell? ⟨w.heap.size,3,none⟩=some (.int .i64 l.d):=HG8.out.a.cell 3
         have m0:=fun d' os=>cell_regrown s0 d' os
         have m1:=fun d' os=>cell_regrown s1 d' os
         have m3:=fun d' os=>cell_regrown a3 d' os
         have HMe:Hid (∀W,Below wr.heap.size wr W→Calls Tryz.prog 27 #[.agg #[.slice av Y.length cv,.int .i64 ((m:Int)-1)]] W fun e w'=>e=.returned (.agg #[.int .i64 0,.int .i64 Y.length,.int .i64 (edg Y:Nat),.int .i64 (d:Nat),.int .i64 (txb Y:Nat)])∧Below W.heap.size W w'):=fun W q=>rmeasure_any Y av cv ((m:Int)-1) d W (HSc.out W q) HSm.out HC8.out.2
         have cM:=fun d' os=>Calls.regrown_of (HMe.out (grow (redrawn w8 d') os) (HW8.out.trans ((below_regrown w8 d' os).mono HW8.out.size)))
         have hfd:∀W:World,Sem.run Tryz.prog (Instr.field 26 (.agg #[.int .i64 0,.int .i64 Y.length,.int .i64 (edg Y:Nat),.int .i64 (d:Nat),.int .i64 (txb Y:Nat)]) 3) W=Result.ok (.int .i64 (d:Nat)) W:=fun W=>by first|rfl|simp [Instr.field,go_sem]|kernel_rfl
         have HBd:Hid (∀d' os,Below w8.heap.size w8 (grow (redrawn w8 d') os)):=fun d' os=>below_regrown w8 d' os
         go_wp2_with fail
         refine wp_region_quiet_below (by kernel_rfl) (by kernel_rfl) ?_
         repeat (first|go_big_quiet_step ((go_at_call 27;exact cM _ _))|quiet_step ((go_at_call 27;exact cM _ _)))
         refine wpQuiet_nil ?_
         intro _ hw'
         obtain ⟨⟨dq,osq⟩,hw''⟩:=hw'
         subst hw''
         have hb9:=HBd.out dq osq
         have HW9:Hid (Below wr.heap.size wr (grow (redrawn w8 dq) osq)):=HW8.out.trans (hb9.mono HW8.out.size)
         have HG9:Hid (Gl w (grow (redrawn w8 dq) osq) w2.heap.size l y cap bt ot L):=HG8.out.more hb9
         have HM9:Hid (Mkg (grow (redrawn w8 dq) osq) w3.heap.size w3.heap.size ((m:Int)-1) (.slice av Y.length cv) Y):=HM8.out.below hb9
         clear HW8 HG8 HM8 HBd hb9 cM m0 m1 m3 s0 s1 a3 x0 x1 r0 r1 f0 f1
         generalize grow (redrawn w8 dq) osq=w9 at *
         have x0:w9.cell? ⟨w.heap.size+1+1,0,none⟩=some (.slice none 0 0):=HG9.out.n.cell 0
         have x1:w9.cell? ⟨w.heap.size+1+1,1,none⟩=some (.int .i64 0):=HG9.out.n.cell 1
         have r0:w9.cell? ⟨w.heap.size+1,0,none⟩=some (.slice none 0 0):=HG9.out.r.cell 0
         have r1:w9.cell? ⟨w.heap.size+1,1,none⟩=some (.int .i64 0):=HG9.out.r.cell 1
         have f0:=HG9.out.r.fz 0
         have f1:=HG9.out.r.fz 1
         by_cases hdd:l.d<(d:Int)
         ·have HV:Hid _:=tell_bad ((HOf.out 19 ⟨0,z,d,HC8.out.1,HC8.out.2,.inr ⟨rfl,.inl ⟨hdd,rfl⟩⟩⟩).1 (by decide)) HG9.out.bel HG9.out.r
          go_wp2_with fail
          obtain ⟨v2,v1⟩:=HV.out _ rfl
          have c0:=v2.cell 0
          have c1:=v2.cell 1
          exact bodyPost_ret (v:=.tuple #[.agg #[.slice none 0 0,.int .i64 0],.int .i64 19]) (by simp [results,Tryz.results41,go_sem,c0,c1]) rfl v1
         ·have hdd':¬l.d<(d:Int):=hdd
          have s0:w9.cell? ⟨w3.heap.size,0,none⟩=some (.slice av Y.length cv):=HM9.out.sc.cell 0
          have s1:w9.cell? ⟨w3.heap.size,1,none⟩=some (.int .i64 ((m:Int)-1)):=HM9.out.sc.cell 1
          have HIs:Hid _:=ris_any Y av cv ((m:Int)-1) w9 (HSc.out _ HW9.out) HSm.out
          go_wp2_with fail
          refine Calls.mono HIs.out ?_
          rintro e wa ⟨bc,rfl,hbc,hba⟩
          have HWa:Hid (Below wr.heap.size wr wa):=HW9.out.trans (hba.mono HW9.out.size)
          have HGa:Hid (Gl w wa w2.heap.size l y cap bt ot L):=HG9.out.more hba
          have HMa:Hid (Mkg wa w3.heap.size w3.heap.size ((m:Int)-1) (.slice av Y.length cv) Y):=HM9.out.below hba
          have HBc:Hid (bc=true↔IsCan Y ((m:Int)-1)):=hbc
          clear HIs HW9 HG9 HM9 hba hbc x0 x1 r0 r1 f0 f1 s0 s1
          have x0:wa.cell? ⟨w.heap.size+1+1,0,none⟩=some (.slice none 0 0):=HGa.out.n.cell 0
          have x1:wa.cell? ⟨w.heap.size+1+1,1,none⟩=some (.int .i64 0):=HGa.out.n.cell 1
          have r0:wa.cell? ⟨w.heap.size+1,0,none⟩=some (.slice none 0 0):=HGa.out.r.cell 0
          have r1:wa.cell? ⟨w.heap.size+1,1,none⟩=some (.int .i64 0):=HGa.out.r.cell 1
          have f0:=HGa.out.r.fz 0
          have f1:=HGa.out.r.fz 1
          cases bc with
          | false=>
           have HV:Hid _:=tell_bad ((HOf.out 16 ⟨0,z,d,HC8.out.1,HC8.out.2,.inr ⟨rfl,.inr ⟨by omega,.inl ⟨fun q=>by simpa using HBc.out.2 q,rfl⟩⟩⟩⟩).1 (by decide)) HGa.out.bel HGa.out.r
           go_wp2_with fail
           obtain ⟨v2,v1⟩:=HV.out _ rfl
           have c0:=v2.cell 0
           have c1:=v2.cell 1
           exact bodyPost_ret (v:=.tuple #[.agg #[.slice none 0 0,.int .i64 0],.int .i64 16]) (by simp [results,Tryz.results41,go_sem,c0,c1]) rfl v1
          | true=>
           have s0:wa.cell? ⟨w3.heap.size,0,none⟩=some (.slice av Y.length cv):=HMa.out.sc.cell 0
           have s1:wa.cell? ⟨w3.heap.size,1,none⟩=some (.int .i64 ((m:Int)-1)):=HMa.out.sc.cell 1
           have HTx:Hid _:=rtexts_any Y av cv ((m:Int)-1) wa (HSc.out _ HWa.out) HSm.out
           go_wp2_with fail
           refine Calls.mono HTx.out ?_
           rintro e wb ⟨ab,cb,bb,ob,rfl,hxt,hbb⟩
           have HGb:Hid (Gl w wb w2.heap.size l y cap bt ot L):=HGa.out.more hbb
           have HMb:Hid (Mkg wb w3.heap.size w3.heap.size ((m:Int)-1) (.slice av Y.length cv) Y):=HMa.out.below hbb
           have HSa:Hid _:=same6_any ab y (itn (allT Y)).length L.length cb cap bb ob bt ot (itn (allT Y)) L wb rfl rfl hxt.ptr HGb.out.x.ptr hxt.at_ HGb.out.x.at_ (by have h1:=(allT_small Y HSm.out Y.length (Nat.le_refl _)).1;rw [List.take_of_length_le (Nat.le_refl _)] at h1;have h2:=itn_len (allT Y);have h3:=HSm.out.1;omega) (by omega)
           obtain ⟨U,hU⟩:∃U,itn (allT Y)=U:=⟨_,rfl⟩
           rw [hU] at HSa
           have HOf2:Hid (∀q,((U≠L∧q=18)∨(U=L∧q=0))→GeS Y ((m:Int)-1) L l q):=fun q hq=>⟨0,z,d,HC8.out.1,HC8.out.2,.inr ⟨rfl,.inr ⟨by omega,.inr ⟨(HBc.out.1 (by simp)),by rw [hU];exact hq⟩⟩⟩⟩
           clear HTx HGa HMa hbb hxt x0 x1 r0 r1 f0 f1 s0 s1
           rw [hU]
           go_wp2_with fail
           refine Calls.mono HSa.out ?_
           rintro e wc ⟨rfl,hbc2⟩
           have HGc:Hid (Gl w wc w2.heap.size l y cap bt ot L):=HGb.out.more hbc2
           have HMc:Hid (Mkg wc w3.heap.size w3.heap.size ((m:Int)-1) (.slice av Y.length cv) Y):=HMb.out.below hbc2
           clear HSa HGb HMb hbc2
           have x0:wc.cell? ⟨w.heap.size+1+1,0,none⟩=some (.slice none 0 0):=HGc.out.n.cell 0
           have x1:wc.cell? ⟨w.heap.size+1+1,1,none⟩=some (.int .i64 0):=HGc.out.n.cell 1
           have r0:wc.cell? ⟨w.heap.size+1,0,none⟩=some (.slice none 0 0):=HGc.out.r.cell 0
           have r1:wc.cell? ⟨w.heap.size+1,1,none⟩=some (.int .i64 0):=HGc.out.r.cell 1
           have f0:=HGc.out.r.fz 0
           have f1:=HGc.out.r.fz 1
           have s0:wc.cell? ⟨w3.heap.size,0,none⟩=some (.slice av Y.length cv):=HMc.out.sc.cell 0
           have s1:wc.cell? ⟨w3.heap.size,1,none⟩=some (.int .i64 ((m:Int)-1)):=HMc.out.sc.cell 1
           by_cases hUL:U=L
           ·have HV:Hid _:=tell_good ((HOf.out 0 (HOf2.out 0 (.inr ⟨hUL,rfl⟩))).2 rfl) HGc.out.bel HGc.out.r HMc.out (by have:=HGc.out.hw;have:=HMc.out.sc.lt;omega) HSm.out HFn.out
            have hdL:decide (U=L)=true:=by simpa using hUL
            rw [hdL]
            go_wp2_with fail
            obtain ⟨v2,v1⟩:=HV.out _ rfl
            have c0:=v2.cell 0
            have c1:=v2.cell 1
            exact bodyPost_ret (v:=.tuple #[.agg #[.slice av Y.length cv,.int .i64 ((m:Int)-1)],.int .i64 0]) (by simp [results,Tryz.results41,go_sem,c0,c1]) rfl v1
           ·have HV:Hid _:=tell_bad ((HOf.out 18 (HOf2.out 18 (.inl ⟨hUL,rfl⟩))).1 (by decide)) HGc.out.bel HGc.out.r
            have hdL:decide (U=L)=false:=by simpa using hUL
            rw [hdL]
            go_wp2_with fail
            obtain ⟨v2,v1⟩:=HV.out _ rfl
            have c0:=v2.cell 0
            have c1:=v2.cell 1
            exact bodyPost_ret (v:=.tuple #[.agg #[.slice none 0 0,.int .i64 0],.int .i64 18]) (by simp [results,Tryz.results41,go_sem,c0,c1]) rfl v1
        ·have hn8':(n != 0)=true:=by simpa using hn8
         have HV:Hid _:=tell_bad ((HOf.out n ⟨n,z,d,HC8.out.1,HC8.out.2,.inl ⟨hn8,rfl⟩⟩).1 hn8) HG8.out.bel HG8.out.r
         go_wp2_with fail
         obtain ⟨v2,v1⟩:=HV.out _ rfl
         have c0:=v2.cell 0
         have c1:=v2.cell 1
         exact bodyPost_ret (v:=.tuple #[.agg #[.slice none 0 0,.int .i64 0],.int .i64 n]) (by simp [results,Tryz.results41,go_sem,c0,c1]) rfl v1
   ·have hne':(ne != 0)=true:=by simpa using hne
    have HV:Hid _:=tell_bad (GeIs.bad (geK_3 tx nb l hok hT hU hne) hne) HGl3.out.bel HGl3.out.r
    go_wp2_with fail
    go_region
    all_goals go_wp2_with fail
    all_goals obtain ⟨v2,v1⟩:=HV.out _ rfl
    all_goals have c0:=v2.cell 0
    all_goals have c1:=v2.cell 1
    all_goals exact bodyPost_ret (v:=.tuple #[.agg #[.slice none 0 0,.int .i64 0],.int .i64 ne]) (by simp [results,Tryz.results41,go_sem,c0,c1]) rfl v1.drew
  ·have hte':(te != 0)=true:=by simpa using hte
   have HV:Hid _:=tell_bad (GeIs.bad (geK_2 tx nb l hok hT hte) hte) HB2.out HR2.out
   go_wp2_with fail
   obtain ⟨v2,v1⟩:=HV.out _ rfl
   have c0:=v2.cell 0
   have c1:=v2.cell 1
   exact bodyPost_ret (v:=.tuple #[.agg #[.slice none 0 0,.int .i64 0],.int .i64 te]) (by simp [results,Tryz.results41,go_sem,c0,c1]) rfl v1
end Go.Proofs.YtcgjgjjegnofeaaGreatDoor
namespace Go.Proofs.YtcgjgjjegnofeaaGreatDoor
open Go.RowKit Go.Maps Go.WideMaps Go.Sort
set_option maxRecDepth 10000 in
set_option maxHeartbeats 2000000 in
theorem rfload_any (b:ByteArray) (l:Lm) (w:World) (hz:b.size≤3000) (hl:∀i,i<5→-9223372036854775808≤(lmL l).getD i 0∧(lmL l).getD i 0≤9223372036854775807) :
  Calls Tryz.prog 16 #[.string b,.agg (liC l)] w fun e w'=>LdOut b l w w' e:=by
 have HA:Hid (∀(o1 o2 o3:Obj),o1=.cells (liC l) 26→o2=.cells #[.slice none 0 0,.int .i64 0] 24→o3=.cells #[.slice none 0 0,.int .i64 0] 24→Fx w (((w.alloc o1).alloc o2).alloc o3) l):=by
  rintro _ _ _ rfl rfl rfl
  exact ⟨((AtN.new w 26 _).alloc _).alloc _,(mk_at (AtN.new (w.alloc _) 24 _) (show _=w.heap.size+1 by simp)).alloc _,mk_at (AtN.new ((w.alloc _).alloc _) 24 _) (show _=w.heap.size+2 by simp),(((Below.refl w.heap.size w).alloc (Nat.le_refl _) _).alloc (by simp) _).alloc (by simp;omega) _⟩
 have hlC:liC l=#[.int .i64 l.b,.int .i64 l.n,.int .i64 l.e,.int .i64 l.d,.int .i64 l.x]:=rfl
 have HG:Hid (∀W,Calls Tryz.prog 24 #[.string ⟨#[68,73,79,82]⟩,.string b] W fun e w'=>FGot W w' e (pGet mD.data.toList b.data.toList)):=fun W=>rget_any mD b W (by omega)
 have HN:Hid (∀(A C:ByteArray) (W:World),A.size≤b.size→C.size≤b.size→Calls Tryz.prog 41 #[.string A,.string C,.agg #[.int .i64 l.b,.int .i64 l.n,.int .i64 l.e,.int .i64 l.d,.int .i64 l.x]] W fun e w'=>GeOut2 A C l W w' e):=fun A C W hA hC=>rnget2_any A C l W (by omega) (by omega) hl
 obtain ⟨E,V,S,hq⟩:∃E V S,pGet mD.data.toList b.data.toList=(E,V,S):=⟨_,_,_,rfl⟩
 rw [hq] at HG
 have HQ:Hid (pGet mD.data.toList b.data.toList=(E,V,S)):=hq
 clear hq
 go_enter Tryz.func16,Tryz.ntmps16
 rw [hlC]
 go_wp2_with fail
 have hx0:=HA.out _ _ _ rfl rfl rfl
 rw [hlC] at hx0
 refine (rokl_any l _).mono ?_
 rintro e w1 ⟨rfl,hb1⟩
 have HX1:Hid (Fx w w1 l):=hx0.more hb1
 have hs1:w.heap.size+2<w1.heap.size:=HX1.out.n.lt
 clear HA hx0 hb1 hlC
 have x0:w1.cell? ⟨w.heap.size+1+1,0,none⟩=some (.slice none 0 0):=HX1.out.n.cell 0
 have x1:w1.cell? ⟨w.heap.size+1+1,1,none⟩=some (.int .i64 0):=HX1.out.n.cell 1
 have r0:w1.cell? ⟨w.heap.size+1,0,none⟩=some (.slice none 0 0):=HX1.out.r.cell 0
 have r1:w1.cell? ⟨w.heap.size+1,1,none⟩=some (.int .i64 0):=HX1.out.r.cell 1
 have f0:=HX1.out.r.fz 0
 have f1:=HX1.out.r.fz 1
 cases hok:okL l with
 | false=>
  have HV:Hid _:=ld_bad (LdIs.bad (ldK_1 b l hok) (by decide)) HX1.out.bel HX1.out.r
  go_wp2_with fail
  obtain ⟨v2,v1⟩:=HV.out _ rfl
  have c0:=v2.cell 0
  have c1:=v2.cell 1
  exact bodyPost_ret (v:=.tuple #[.agg #[.slice none 0 0,.int .i64 0],.int .i64 1]) (by simp [results,Tryz.results16,go_sem,c0,c1]) rfl v1
 | true=>
  have a0:w1.cell? ⟨w.heap.size,0,none⟩=some (.int .i64 l.b):=HX1.out.a.cell 0
  by_cases hlb:l.b<(b.size:Int)
  ·have HV:Hid _:=ld_bad (LdIs.bad (ldK_2 b l hok hlb) (by decide)) HX1.out.bel HX1.out.r
   clear HG HN
   go_wp2_with fail
   obtain ⟨v2,v1⟩:=HV.out _ rfl
   have c0:=v2.cell 0
   have c1:=v2.cell 1
   exact bodyPost_ret (v:=.tuple #[.agg #[.slice none 0 0,.int .i64 0],.int .i64 19]) (by simp [results,Tryz.results16,go_sem,c0,c1]) rfl v1
  ·have HLB:Hid ((b.size:Int)≤l.b):=Int.not_lt.1 hlb
   go_wp2_with fail
   refine Calls.mono (HG.out _) ?_
   rintro e w2 ⟨aS,cS,gS,rfl,haS,hsS,hb2⟩
   dsimp only at haS hsS ⊢
   have HX2:Hid (Fx w w2 l):=HX1.out.more hb2
   have HsS:Hid (SecAt w2 gS 0 S):=hsS
   have HaS:Hid (0<S.length→aS=some ⟨gS,0,none⟩):=haS
   have hs2:w.heap.size+2<w2.heap.size:=HX2.out.n.lt
   clear HX1 hb2 x0 x1 r0 r1 f0 f1 a0 hsS haS HG hs1
   have x0:w2.cell? ⟨w.heap.size+1+1,0,none⟩=some (.slice none 0 0):=HX2.out.n.cell 0
   have x1:w2.cell? ⟨w.heap.size+1+1,1,none⟩=some (.int .i64 0):=HX2.out.n.cell 1
   have r0:w2.cell? ⟨w.heap.size+1,0,none⟩=some (.slice none 0 0):=HX2.out.r.cell 0
   have r1:w2.cell? ⟨w.heap.size+1,1,none⟩=some (.int .i64 0):=HX2.out.r.cell 1
   have f0:=HX2.out.r.fz 0
   have f1:=HX2.out.r.fz 1
   have key:∀k:Int,(ldK b l).1=k→k≠0→Hid (∀W',W'=(w2.setCell ⟨w.heap.size+1,0,none⟩ (.slice none 0 0)).setCell ⟨w.heap.size+1,1,none⟩ (.int .i64 0)→AtN 24 W' (w.heap.size+1) #[.slice none 0 0,.int .i64 0]∧LdOut b l w W' (.returned (.tuple #[.agg #[.slice none 0 0,.int .i64 0],.int .i64 k]))):=fun k h1 h2=>ld_bad (LdIs.bad h1 h2) HX2.out.bel HX2.out.r
   have HK:Hid _:=key
   clear key
   by_cases hE:E=0
   ·subst hE
    by_cases hV:V=2
    ·subst hV
     by_cases hn:S.length=2
     ·obtain ⟨s,t,rfl⟩:∃s t,S=[s,t]:=by
       match S,hn with
       | [s,t],_=>exact ⟨s,t,rfl⟩
      obtain ⟨n1,B1⟩:=s
      obtain ⟨n2,B2⟩:=t
      obtain rfl:=HaS.out (by simp)
      have hgS:gS<w2.heap.size:=(HsS.out 0 (by simp)).1
      have s0:w2.cell? ⟨gS,0,none⟩=some (.int .i64 n1):=by simpa using (HsS.out 0 (by simp)).2.1
      have s1:w2.cell? ⟨gS,1,none⟩=some (.string B1):=by simpa using (HsS.out 0 (by simp)).2.2
      have s2:w2.cell? ⟨gS,2,none⟩=some (.int .i64 n2):=by simpa using (HsS.out 1 (by simp)).2.1
      have s3:w2.cell? ⟨gS,3,none⟩=some (.string B2):=by simpa using (HsS.out 1 (by simp)).2.2
      clear hn HaS HsS
      by_cases h1:n1=1
      ·subst h1
       by_cases h2:n2=2
       ·subst h2
        have hk:ldK b l=(0,B1,B2):=ldK_6 b l hok (Int.not_lt.2 HLB.out) (by rw [HQ.out]) (by rw [HQ.out]) (by rw [HQ.out])
        obtain ⟨_,z1,z2⟩:=file_of (b:=b) (l:=l) (by rw [hk])
        rw [hk] at z1 z2
        have HNc:Hid _:=HN.out B1 B2 w2.drew z1 z2
        have HGd:Hid (∀X:List Nx,∀r k:Int,GeIs B1 B2 l (X.map Nx.nd) r k→LdIs b l (X.map Nx.nd) r k):=fun X r k h=>.inr ⟨by rw [hk],by rw [hk];exact h⟩
        have hgN:gS≠w.heap.size+1:=fun q=>by
         have h1:=s1
         have h2:=HX2.out.r.cell 1
         rw [q,h2] at h1
         cases h1
        have HS:Hid (∀W,Below w2.heap.size w2 W→∀v0 v1 W',W'=(W.setCell ⟨w.heap.size+1,0,none⟩ v0).setCell ⟨w.heap.size+1,1,none⟩ v1∨W'=W→W'.cell? ⟨gS,1,none⟩=some (.string B1)∧W'.cell? ⟨gS,3,none⟩=some (.string B2)∧W'.cell? ⟨w.heap.size,0,none⟩=some (.int .i64 l.b)∧W'.cell? ⟨w.heap.size,1,none⟩=some (.int .i64 l.n)∧W'.cell? ⟨w.heap.size,2,none⟩=some (.int .i64 l.e)∧W'.cell? ⟨w.heap.size,3,none⟩=some (.int .i64 l.d)∧W'.cell? ⟨w.heap.size,4,none⟩=some (.int .i64 l.x)):=by
         intro W hW v0 v1 W' hW'
         have q1:=((bcell hW).1 gS 1 hgS).trans s1
         have q3:=((bcell hW).1 gS 3 hgS).trans s3
         have hA:=HX2.out.a.belowAll hW
         rcases hW' with rfl|rfl
         ·have hA2:=(hA.setOther ⟨w.heap.size+1,0,none⟩ (by show w.heap.size+1≠_;omega) v0).setOther ⟨w.heap.size+1,1,none⟩ (by show w.heap.size+1≠_;omega) v1
          refine ⟨?_,?_,hA2.cell 0,hA2.cell 1,hA2.cell 2,hA2.cell 3,hA2.cell 4⟩
          ·rw [World.cell?_setCell_other _ _ _ _ (by intro q;simp only [Addr.mk.injEq] at q;omega),World.cell?_setCell_other _ _ _ _ (by intro q;simp only [Addr.mk.injEq] at q;omega)];exact q1
          ·rw [World.cell?_setCell_other _ _ _ _ (by intro q;simp only [Addr.mk.injEq] at q;omega),World.cell?_setCell_other _ _ _ _ (by intro q;simp only [Addr.mk.injEq] at q;omega)];exact q3
         ·exact ⟨q1,q3,hA.cell 0,hA.cell 1,hA.cell 2,hA.cell 3,hA.cell 4⟩
        have K0:=HS.out w2 (Below.refl _ _) (.bool true) (.bool true) w2 (.inr rfl)
        have K1:=HS.out w2.drew (bel_drew w2) (.bool true) (.bool true) w2.drew (.inr rfl)
        clear hk z1 z2 HN HQ HK s1 s3
        go_wp2_with fail
        go_region_held3 (fun W=>W.cell? ⟨gS,1,none⟩=some (.string B1)∧W.cell? ⟨gS,3,none⟩=some (.string B2)∧W.cell? ⟨w.heap.size,0,none⟩=some (.int .i64 l.b)∧W.cell? ⟨w.heap.size,1,none⟩=some (.int .i64 l.n)∧W.cell? ⟨w.heap.size,2,none⟩=some (.int .i64 l.e)∧W.cell? ⟨w.heap.size,3,none⟩=some (.int .i64 l.d)∧W.cell? ⟨w.heap.size,4,none⟩=some (.int .i64 l.x)) (first|exact K3 _ _ _ (.inl rfl)|exact K3 (.bool true) (.bool true) _ (.inr rfl)|exact K1|exact K0)
         ((go_at_call 41;refine Calls.mono HNc.out ?_;rintro e w3 ⟨X,aX,cX,rX,kX,rfl,hg,hsc,hsm,hfn,hb3⟩;have HX3:Hid (Fx w w3 l):=(HX2.out.more (bel_drew w2)).more hb3;have K3:=HS.out w3 ((bel_drew w2).trans (hb3.mono (bel_drew w2).size));have r0:w3.cell? ⟨w.heap.size+1,0,none⟩=some (.slice none 0 0):=HX3.out.r.cell 0;have r1:w3.cell? ⟨w.heap.size+1,1,none⟩=some (.int .i64 0):=HX3.out.r.cell 1;have f0:=HX3.out.r.fz 0;have f1:=HX3.out.r.fz 1))
        have HV:Hid _:=ld_good (c:=cX) (W0:=w2) (HGd.out X rX kX hg) HX3.out.bel HX3.out.r (by omega) hsc hsm hfn
        clear HNc HGd hg hsc hsm hfn hb3 HX2 K0 K1 K3 HS
        go_wp2_with fail
        obtain ⟨v2,v1⟩:=HV.out _ rfl
        have c0:=v2.cell 0
        have c1:=v2.cell 1
        exact bodyPost_ret (v:=.tuple #[.agg #[.slice aX X.length cX,.int .i64 rX],.int .i64 kX]) (by simp [results,Tryz.results16,go_sem,c0,c1]) rfl v1
       ·have h2':(n2==2)=false:=by simpa using h2
        have h2'':(n2 != 2)=true:=by simpa using h2
        have HV:Hid _:=(HK.out 4 (ldK_5 b l hok (Int.not_lt.2 HLB.out) (by rw [HQ.out]) (by rw [HQ.out]) (by rw [HQ.out];rintro ⟨s,t,q,_,q2⟩;simp only [List.cons.injEq] at q;rw [← q.2.1] at q2;exact h2 q2)) (by decide)).out
        clear HN HQ HK
        go_wp2_with fail
        obtain ⟨v2,v1⟩:=HV.out _ rfl
        have c0:=v2.cell 0
        have c1:=v2.cell 1
        exact bodyPost_ret (v:=.tuple #[.agg #[.slice none 0 0,.int .i64 0],.int .i64 4]) (by simp [results,Tryz.results16,go_sem,c0,c1]) rfl v1
      ·have h1':(n1==1)=false:=by simpa using h1
       have h1'':(n1 != 1)=true:=by simpa using h1
       have HV:Hid _:=(HK.out 4 (ldK_5 b l hok (Int.not_lt.2 HLB.out) (by rw [HQ.out]) (by rw [HQ.out]) (by rw [HQ.out];rintro ⟨s,t,q,q2,_⟩;simp only [List.cons.injEq] at q;rw [← q.1] at q2;exact h1 q2)) (by decide)).out
       clear HN HQ HK
       go_wp2_with fail
       obtain ⟨v2,v1⟩:=HV.out _ rfl
       have c0:=v2.cell 0
       have c1:=v2.cell 1
       exact bodyPost_ret (v:=.tuple #[.agg #[.slice none 0 0,.int .i64 0],.int .i64 4]) (by simp [results,Tryz.results16,go_sem,c0,c1]) rfl v1
     ·have hn':((S.length:Int)==2)=false:=by simp;omega
      have hn'':((S.length:Int) != 2)=true:=by simp;omega
      have hn3:¬(S.length:Int)=2:=by omega
      have HV:Hid _:=(HK.out 4 (ldK_5 b l hok (Int.not_lt.2 HLB.out) (by rw [HQ.out]) (by rw [HQ.out]) (by rw [HQ.out];rintro ⟨s,t,q,_⟩;dsimp only at q;rw [q] at hn;exact hn rfl)) (by decide)).out
      clear HN HQ HK HsS HaS
      go_wp2_with fail
      obtain ⟨v2,v1⟩:=HV.out _ rfl
      have c0:=v2.cell 0
      have c1:=v2.cell 1
      exact bodyPost_ret (v:=.tuple #[.agg #[.slice none 0 0,.int .i64 0],.int .i64 4]) (by simp [results,Tryz.results16,go_sem,c0,c1]) rfl v1
    ·have hV':((V:Int)==2)=false:=by simp;omega
     have hV'':((V:Int) != 2)=true:=by simp;omega
     have hV3:¬(V:Int)=2:=by omega
     have HV:Hid _:=(HK.out 7 (ldK_4 b l hok (Int.not_lt.2 HLB.out) (by rw [HQ.out]) (by rw [HQ.out];exact hV)) (by decide)).out
     clear HN HQ HK HsS HaS
     go_wp2_with fail
     obtain ⟨v2,v1⟩:=HV.out _ rfl
     have c0:=v2.cell 0
     have c1:=v2.cell 1
     exact bodyPost_ret (v:=.tuple #[.agg #[.slice none 0 0,.int .i64 0],.int .i64 7]) (by simp [results,Tryz.results16,go_sem,c0,c1]) rfl v1
   ·have hE':((E:Int)==0)=false:=by simp;omega
    have hE'':((E:Int) != 0)=true:=by simp;omega
    have hE3:¬(E:Int)=0:=by omega
    have HV:Hid _:=(HK.out E (by rw [ldK_3 b l hok (Int.not_lt.2 HLB.out) (by rw [HQ.out];exact hE),HQ.out]) (by omega)).out
    clear HN HQ HK HsS HaS
    go_wp2_with fail
    obtain ⟨v2,v1⟩:=HV.out _ rfl
    have c0:=v2.cell 0
    have c1:=v2.cell 1
    exact bodyPost_ret (v:=.tuple #[.agg #[.slice none 0 0,.int .i64 0],.int .i64 (E:Int)]) (by simp [results,Tryz.results16,go_sem,c0,c1]) rfl v1
end Go.Proofs.YtcgjgjjegnofeaaGreatDoor
namespace Go.Proofs.YtcgjgjjegnofeaaGreatDoor
open Go.RowKit Go.Maps Go.WideMaps Go.Sort
section
variable {X:List Nx} {r:Int} {l:Lm} {d:Nat} {B:ByteArray} {e:Int}
theorem SvIs.bad (h:SvIs X r l B e) (he:e≠0):B=⟨#[]⟩:=by
 obtain ⟨d,n,z,h1,h2,h3⟩:=h
 rcases h3 with ⟨_,_,q⟩|⟨_,⟨_,_,q⟩|⟨_,q,_⟩⟩
 ·exact q
 ·exact q
 ·exact absurd q he
theorem SvIs.good (h:SvIs X r l B 0):okL l=true∧Whole X r∧(∃d,DepthIs X r d∧inL (meL X d) l=true)∧¬l.b<((cF X r).size:Int)∧B=cF X r:=by
 obtain ⟨d,n,z,h1,h2,h3⟩:=h
 rcases h3 with ⟨q1,q2,_⟩|⟨rfl,⟨_,q,_⟩|⟨q1,_,q3⟩⟩
 ·exact absurd q2.symm q1
 ·cases q
 ·obtain ⟨p1,p2,p3⟩:=va_whole h2
  exact ⟨p1,p2,⟨d,h1,p3⟩,q1,q3⟩
theorem in_parts (hi:inL (meL X d) l=true):(X.length:Int)≤l.n∧((edg X:Nat):Int)≤l.e∧((d:Nat):Int)≤l.d∧((txb X:Nat):Int)≤l.x:=by
 have hi2:=of_decide_eq_true (show decide (inP (meL X d) l)=true from hi)
 obtain ⟨_,i1,i2,i3,i4⟩:=hi2
 exact ⟨i1,i2,i3,i4⟩
theorem back_q (hS:Small X) (hf:X.length≤60) (hF:FnX X) (hW:Whole X r) (hd:DepthIs X r d) (ho:okL l=true) (hi:inL (meL X d) l=true) (hb:¬l.b<((cF X r).size:Int)) :
  ∀A C,ldK (cF X r) l=(0,A,C)→A.size≤1000000∧C.size≤4000000∧∀L,pGet6 A 16777216 l.x=(0,L)→Qn C L l:=by
 have hY:=bare_nd (cX X r)
 have hB:=(back_file hS hf hF hW hY hd ho hi hb).2
 have hz:=hB.size
 have hR:=can_ren hW.2 hY
 have hk:ldK (cF X r) l=(0,cA X r,cC X r):=ldK_put ho (by omega) (by omega) hb
 obtain ⟨j1,j2,j3,j4⟩:=in_parts hi
 intro A C hq
 rw [hk] at hq
 simp only [Prod.mk.injEq,true_and] at hq
 obtain ⟨rfl,rfl⟩:=hq
 refine ⟨hz.1,hz.2,fun L hL=>?_⟩
 have h5:txb (bare (cX X r))=txb X:=hR.txb
 have q:=hB.ks ho (by show ((txb (bare (cX X r)):Nat):Int)≤l.x;rw [h5];exact j4) (by rw [hR.len];exact j1) (by rw [hR.edg];exact j2)
 obtain ⟨_,_,_,_,L2,_,i2,_,_,_,_,i7⟩:=geK_inv (by rw [q])
 rw [i7] at q
 simp only [Prod.mk.injEq] at q
 rw [hL] at i2
 simp only [Prod.mk.injEq,true_and] at i2
 rw [i2,q.2.2]
 exact hB.qn (by omega)
theorem cF_small (ho:okL l=true) (hb:¬l.b<((cF X r).size:Int)):(cF X r).size≤16777216:=by
 have:=(okL_in ho).1.2
 omega
end
theorem pfback_any (X:List Nx) (r:Int) (l:Lm) (w:World) (d:Nat) (hT:Tabs12 w) (hS:Small X) (hf:X.length≤60) (hF:FnX X) (hW:Whole X r) (hd:DepthIs X r d) (ho:okL l=true) (hi:inL (meL X d) l=true) (hb:¬l.b<((cF X r).size:Int)) (hl:∀i,i<5→-9223372036854775808≤(lmL l).getD i 0∧(lmL l).getD i 0≤9223372036854775807) :
  Calls Tryz.prog 15 #[.string (cF X r),.agg #[.int .i64 l.b,.int .i64 l.n,.int .i64 l.e,.int .i64 l.d,.int .i64 l.x]] w fun e w'=>∃(Y:List Nx) (a:Option Addr) (c:Nat),e=.returned (.tuple #[.agg #[.slice a Y.length c,.int .i64 ((X.length:Int)-1)],.int .i64 0])∧Y.map Nx.nd=cX X r∧ScAt w' a Y∧Small Y∧Below w.heap.size w w':=by
 refine Calls.mono (pfload_any (cF X r) l w hT (by have:=cF_small ho hb;omega) (back_q hS hf hF hW hd ho hi hb) hl) ?_
 rintro e w' ⟨Y,a,c,s,k,rfl,h1,h2,h3,_,h4⟩
 obtain ⟨hY,rfl,rfl⟩:=(back_file hS hf hF hW (bare_nd (cX X r)) hd ho hi hb).1.uniq h1
 exact ⟨Y,a,c,rfl,by rw [hY,bare_nd],h2 w' (Fr.refl _ _),h3,h4⟩
end Go.Proofs.YtcgjgjjegnofeaaGreatDoor
