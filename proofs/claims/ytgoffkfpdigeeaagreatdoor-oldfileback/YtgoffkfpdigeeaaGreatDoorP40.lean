import Derived.Test.YtgoffkfpdigeeaaGreatDoorP13
import Derived.Test.YtgoffkfpdigeeaaGreatDoorP24
import Derived.Test.YtgoffkfpdigeeaaGreatDoorP12
import Derived.Test.YtgoffkfpdigeeaaGreatDoorP08
import Derived.Test.YtgoffkfpdigeeaaGreatDoorP14
namespace Go.Proofs.YtgoffkfpdigeeaaGreatDoor
open Go.RowKit
theorem pText_size (b:ByteArray) (k:Nat) (e m:Int):(pText b k e m).1.size≤b.size:=by
 have hz:(⟨#[]⟩:ByteArray).size≤b.size:=Nat.zero_le _
 unfold pText
 split
 ·exact hz
 split
 ·exact hz
 split
 ·exact hz
 split
 ·exact hz
 ·dsimp only
  rw [ByteArray.size_extract]
  omega
set_option maxRecDepth 10000 in
set_option maxHeartbeats 4000000 in
theorem rnode_any (bs:ByteArray) (g:Nat) (p c edges tx:Int) (k:Nat) (e:Int) (w:World) (h:Rf w g bs k e) (hs:bs.size≤100000) (hk:k≤bs.size) (he:0≤edges∧edges≤9223372036854775807) (htx:tx≤9223372036854775807) :
  Calls Tryz.prog 38 #[.pointer (some ⟨g,0,none⟩),.int .i64 p,.int .i64 c,.int .i64 edges,.int .i64 tx] w fun r w'=>NdGot w w' g bs r (oNd bs p c tx edges k e):=by
 obtain ⟨i1,hi1,hz10,hz11,hz12⟩:=info_parts Tryz.infoN8
 obtain ⟨i2,hi2,hz20,hz21,hz22⟩:=info_parts Tryz.infoS8
 obtain ⟨i3,hi3,hz30,hz31,hz32⟩:=info_parts Tryz.infoI7
 have hgl:=h.lt
 have HC:Hid (Rf (w.alloc (.cells #[.int .i64 0,.slice none 0 0,.slice none 0 0,.slice none 0 0] 51)) g bs k e):=At3.alloc h _
 have HR0:Hid (AtN 51 (w.alloc (.cells #[.int .i64 0,.slice none 0 0,.slice none 0 0,.slice none 0 0] 51)) w.heap.size #[.int .i64 0,.slice none 0 0,.slice none 0 0,.slice none 0 0]):=AtN.new w 51 _
 have HF0:Hid (w.grownBy (w.alloc (.cells #[.int .i64 0,.slice none 0 0,.slice none 0 0,.slice none 0 0] 51)) (some g)):=World.grownBy_alloc _ _ _
 have hsm:bs.size≤maxLen:=by unfold maxLen;omega
 have HU:Hid (∀(W:World) (k:Nat) (e m:Int),Rf W g bs k e→k≤bs.size→Calls Tryz.prog 37 #[.pointer (some ⟨g,0,none⟩),.int .u64 m] W fun r w'=>r=.returned (.int .i64 (pUint bs k e m).1)∧Rf w' g bs ((pUint bs k e m).2.1:Nat) (pUint bs k e m).2.2∧W.grownBy w' (some g)):=fun W k e m q1 q2=>ruint_any W g bs k e m q1 hsm q2
 have HI:Hid (∀(W:World) (k:Nat) (e:Int),Rf W g bs k e→k≤bs.size→Calls Tryz.prog 82 #[.pointer (some ⟨g,0,none⟩)] W fun r w'=>r=.returned (.int .i64 (pInt bs k e).1)∧Rf w' g bs ((pInt bs k e).2.1:Nat) (pInt bs k e).2.2∧W.grownBy w' (some g)):=fun W k e q1 q2=>rint_any W g bs k e q1 hsm q2
 have HFl:Hid (∀(W:World) (k:Nat) (e d:Int),Rf W g bs k e→Calls Tryz.prog 81 #[.pointer (some ⟨g,0,none⟩),.int .i64 d] W fun r w'=>r=.returned (.tuple #[])∧Rf w' g bs k (fl e d)∧W.grownBy w' (some g)):=fun W k e d q=>rfail_any W g bs k e d q
 have HSp:Hid (∀k W,Calls Tryz.prog 80 #[.int .i64 1,.int .i64 k] W fun e w'=>SpIs W w' e (oldSp k)):=fun k W=>rspec1_any k W
 have HTx:Hid (∀(W:World) (k:Nat) (e:Int),Rf W g bs k e→k≤bs.size→Calls Tryz.prog 84 #[.pointer (some ⟨g,0,none⟩),.int .i64 tx] W fun r w'=>r=.returned (.string (pText bs k e tx).1)∧Rf w' g bs ((pText bs k e tx).2.1:Nat) (pText bs k e tx).2.2∧W.grownBy w' (some g)):=fun W k e q1 q2=>rtext_any W g bs k e tx q1 hsm q2 htx
 have HRi:Hid (∀(s:ByteArray) W,s.size≤100000→Calls Tryz.prog 85 #[.string s] W fun e w'=>e=.returned (.bool (ok8 s))∧Below W.heap.size W w'):=fun s W q=>utf8_any s W q
 have he1:=he.1
 have he2:=he.2
 have HG:Hid (∃R,oNd bs p c tx edges k e=R∧oNd bs p c tx edges k e=R):=⟨_,rfl,rfl⟩
 obtain ⟨R,hR,_⟩:=HG.out
 have HRD:Hid (oNd bs p c tx edges k e=R):=hR
 rw [hR]
 clear HG hR he h htx
 go_enter Tryz.func38,Tryz.ntmps38
 go_wp2_with fail
 refine Calls.mono (HU.out _ k e 16777216 HC.out hk) ?_
 rintro r w1 ⟨rfl,hc1,hg1⟩
 have hk1:=pUint_at bs k e 16777216 hk
 have hq1:=pUint_top bs k e 16777216
 obtain ⟨q,k1,e1,hqk⟩:∃q k1 e1,pUint bs k e 16777216=(q,k1,e1):=⟨_,_,_,rfl⟩
 rw [hqk] at hc1 hk1 hq1 ⊢
 dsimp only at hc1 hk1 hq1 ⊢
 have HR1:Hid (AtN 51 w1 w.heap.size #[.int .i64 0,.slice none 0 0,.slice none 0 0,.slice none 0 0]):=AtN.kept HR0.out hg1 (by simp;omega)
 have HF1:Hid (w.grownBy w1 (some g)):=gtrans HF0.out hg1
 have HC1:Hid (Rf w1 g bs k1 e1):=hc1
 have HQ:Hid (oNd bs p c tx edges k e=(⟨q,(oRest bs p c tx edges (oldSp q) k1 (if (oldSp q).ok=true then e1 else fl e1 9)).1.1,(oRest bs p c tx edges (oldSp q) k1 (if (oldSp q).ok=true then e1 else fl e1 9)).1.2.1,(oRest bs p c tx edges (oldSp q) k1 (if (oldSp q).ok=true then e1 else fl e1 9)).1.2.2⟩,(oRest bs p c tx edges (oldSp q) k1 (if (oldSp q).ok=true then e1 else fl e1 9)).2.1,(oRest bs p c tx edges (oldSp q) k1 (if (oldSp q).ok=true then e1 else fl e1 9)).2.2)):=by
  show _=_
  unfold oNd
  rw [hqk]
 rw [HRD.out] at HQ
 have hw1:=hg1.size
 simp at hw1
 clear HC HR0 HF0 hqk hc1 hg1 HRD hk
 go_wp2_with fail
 refine Calls.mono (HSp.out q _) ?_
 rintro r w2 ⟨v,rfl,hS,hb2⟩
 obtain ⟨S,hSq⟩:∃S,oldSp q=S:=⟨_,rfl⟩
 rw [hSq] at hS HQ ⊢
 obtain ⟨sb,sc,hv⟩:∃sb sc,v=.slice sb S.ints.length sc:=by
  rcases hS.2 with ⟨rfl,h0⟩|⟨g',cap',cur',rfl,_⟩
  ·exact ⟨_,_,by rw [h0]⟩
  ·exact ⟨_,_,rfl⟩
 subst hv
 simp at hS hb2
 have HGi:=Gi.start HF1.out HC1.out HR1.out hb2 hS hgl hw1 hk1.2
 have HG:Hid _:=HGi
 clear HGi HR1 HF1 HC1 hS hb2 hw1 HSp
 go_upto_if 31 with fail
 go_cut [13] (fun _ wc=>Hid (Gi w wc g w1.heap.size w2.heap.size bs k1 (if S.ok=true then e1 else fl e1 9) ⟨q,[],[],[]⟩ (.slice none 0 0) (.slice none 0 0) (.slice none 0 0) sb sc S))
 case first=>
  cases hok:S.ok
  ·go_wp2_with fail
   refine Calls.mono (HFl.out _ k1 e1 9 HG.out.cur) ?_
   rintro r w3 ⟨rfl,hc3,hg3⟩
   go_wp2_with fail
   go_meet
   show Gi _ _ _ _ _ _ _ _ _ _ _ _ _ _ _
   rw [if_neg (by rw [hok];decide)]
   exact HG.out.read hg3 hc3 hk1.2
  ·go_wp2_with fail
   go_meet
   show Gi _ _ _ _ _ _ _ _ _ _ _ _ _ _ _
   rw [if_pos hok]
   exact HG.out
 case rest=>
  clear HG
  obtain ⟨e2,he2⟩:∃e2,(if S.ok=true then e1 else fl e1 9)=e2:=⟨_,rfl⟩
  rw [he2] at HQ hcut
  clear he2
  generalize w1.heap.size=gN at hcut ⊢
  generalize w2.heap.size=gS at hcut ⊢
  have HG:=hcut
  clear hcut
  obtain ⟨hsn,hst1,hst2,hsl1,hsl2,hsm1,hsm2⟩:=oldSp_small q
  rw [hSq] at hsn hst1 hst2 hsl1 hsl2 hsm1 hsm2
  clear hSq
  obtain ⟨A,k4,e4,hA⟩:∃A k4 e4,gIs bs S.ints k1 e2=(A,k4,e4):=⟨_,_,_,rfl⟩
  obtain ⟨B,k5,e5,hB⟩:∃B k5 e5,oTs bs tx S.texts.toNat k4 e4=(B,k5,e5):=⟨_,_,_,rfl⟩
  obtain ⟨m,k6,e6,hM⟩:∃m k6 e6,pUint bs k5 e5 edges=(m,k6,e6):=⟨_,_,_,rfl⟩
  obtain ⟨bm,hbm⟩:∃bm,decide (m<S.least∨(0≤S.most∧S.most<m))=bm:=⟨_,rfl⟩
  obtain ⟨e7,h7⟩:∃e7,(if bm=true then fl e6 12 else e6)=e7:=⟨_,rfl⟩
  obtain ⟨K,k8,e8,hK⟩:∃K k8 e8,oKs bs p c m.toNat k6 e7=(K,k8,e8):=⟨_,_,_,rfl⟩
  rw [oRest_eq hA hB hM (by rw [hbm];exact h7) hK] at HQ
  dsimp only at HQ
  have hm:=pUint_top bs k5 e5 edges
  rw [hM] at hm
  dsimp only at hm
  have HA:Hid _:=hA
  have HB:Hid _:=hB
  have HM:Hid _:=hM
  have HBm:Hid _:=hbm
  have H7:Hid _:=h7
  have HK:Hid _:=hK
  clear hA hB hM hbm h7 hK
  go_upto_block 0 with fail
  go_cut [] (fun wc=>∃v1,Hid (Gi w wc g gN gS bs k4 e4 ⟨q,A,[],[]⟩ v1 (.slice none 0 0) (.slice none 0 0) sb sc S))
  case first=>
   go_wp2_with fail
   go_loopg [14,15] S.ints.length (fun gh s12 _ wr=>∃(i k':Nat) (e':Int) (I:List Int) (v1:Value),s12=.int .i64 i∧gh=S.ints.length-i∧i≤S.ints.length∧I.length=i∧Hid (I++(gIs bs (S.ints.drop i) k' e').1=A∧(gIs bs (S.ints.drop i) k' e').2=(k4,e4))∧Hid (Gi w wr g gN gS bs k' e' ⟨q,I,[],[]⟩ v1 (.slice none 0 0) (.slice none 0 0) sb sc S))
   case atStart=>exact ⟨0,k1,e2,[],_,rfl,rfl,Nat.zero_le _,rfl,(by show _∧_;rw [List.drop_zero,HA.out];exact ⟨rfl,rfl⟩),HG⟩
   case round=>
    clear HG
    obtain ⟨i,k',e',I,v1,rfl,rfl,hi,rfl,HE,HN⟩:=hrel
    have d0:=HN.out.d0
    have ce:=HN.out.ce
    have hkb:=HN.out.kb
    by_cases hlt:I.length<S.ints.length∧e'=0
    ·obtain ⟨hlt,rfl⟩:=hlt
     have hlt':(I.length:Int)<S.ints.length:=by omega
     obtain ⟨x,k3,e3,hq⟩:∃x k3 e3,pInt bs k' 0=(x,k3,e3):=⟨_,_,_,rfl⟩
     have hx:=pInt_top bs k' 0 hkb
     have hk3:=pInt_at bs k' 0 hkb
     have hIc:=HI.out wr k' 0 HN.out.cur hkb
     rw [hq] at hx hk3 hIc
     dsimp only at hx hk3 hIc
     have hE2:=gIs_next bs S.ints I.length k' hlt hq
     have hR:=fun W=>rin_any (S.ints.getD I.length 0) x W hx.1 hx.2
     have hcl:=iV_at S.ints I.length hlt
     generalize S.ints.getD I.length 0=c at hE2 hR hcl
     have HE2:Hid _:=hE2
     have HIc:Hid _:=hIc
     have HR:Hid _:=hR
     have HCl:Hid _:=hcl
     generalize in7 c x=bb at HE2 HR
     clear hIc hR hcl hE2 hq
     go_wp2_with fail
     refine Calls.mono HIc.out ?_
     rintro r w3 ⟨rfl,hc3,hg3⟩
     have HN3:Hid _:=HN.out.read hg3 hc3 hk3.2
     clear HN hg3 hc3 HIc d0 ce
     obtain ⟨gb,ob,hsb,lb,db⟩:=(LsAt.of_own HN3.out.cls).at HCl.out
     have d0:w3.cell? ⟨gS,0,none⟩=some (.slice (some ⟨gb,ob,none⟩) S.ints.length sc):=by rw [HN3.out.d0,hsb]
     clear hsb lb HCl
     go_wp2_with fail
     refine Calls.mono (HR.out _) ?_
     rintro r w4 ⟨rfl,hw4⟩
     rw [hw4]
     clear hw4 HR d0 db
     go_upto_if 57 with fail
     go_cut [] (fun wc=>Hid (Gi w wc g gN gS bs k3 (if bb=true then e3 else fl e3 10) ⟨q,I,[],[]⟩ v1 (.slice none 0 0) (.slice none 0 0) sb sc S))
     case first=>
      cases bb
      ·go_wp2_with fail
       refine Calls.mono (HFl.out _ k3 e3 10 HN3.out.cur) ?_
       rintro r w5 ⟨rfl,hc5,hg5⟩
       go_wp2_with fail
       go_meet
       exact HN3.out.read hg5 hc5 hk3.2
      ·go_wp2_with fail
       go_meet
       exact HN3.out
     case rest=>
      clear HN3
      obtain ⟨e4',he4⟩:∃e4',(if bb=true then e3 else fl e3 10)=e4':=⟨_,rfl⟩
      rw [he4] at HE2 hcut
      clear he4
      have HN4:=hcut
      clear hcut
      have c1:=HN4.out.c1
      have hsz:=HN4.out.szS
      go_wp2_with (at_builtin;refine wpList_append_lies _ rfl (.tmp 61) (.tmp 63) 48 rfl (gS+1) 2 i1 (.int .i64 0) 1 8 Tryz.underlying48 hi1 hz10 hz11 hz12 rfl (by decide) v1 I.length (iV I) rfl (HN4.out.own.i.alloc _) ⟨wc.heap.size,0,none⟩ 1 1 [.int .i64 x] rfl rfl (cell_one_new _ _ _) (by intro u hu;simp at hu;subst hu;rfl) (by decide) (by unfold maxLen;omega) (by omega) (by simp;omega) _ rfl ?_)
      intro g2 cap2 w5 hown2 hgrow2 hlie hlt2
      have HN5:Hid _:=HN4.out.more ((Below.refl _ _).alloc (Nat.le_refl _) (.cells #[.int .i64 x] 2))
      have HN6:Hid _:=HN5.out.app1 hgrow2 hown2
      obtain ⟨-,hnd5,-⟩:=HN5.out.keep hgrow2 HN5.out.rows.1
      have c1:=hnd5.cell 1
      have f1:=hnd5.fz 1
      clear HN4 HN5 hgrow2 hown2 hlie hlt2 hnd5
      go_wp2_with fail
      go_roundg (S.ints.length-(I.length+1))
      case measure=>omega
      case rel=>
       exact ⟨I.length+1,k3,e4',I++[x],_,by go_num,rfl,by omega,by simp,(by show _∧_;have h:=HE.out;rw [HE2.out] at h;exact ⟨by rw [← h.1,List.append_assoc];rfl,h.2⟩),HN6⟩
    ·have h:=HE.out
     rw [gIs_end bs S.ints I.length k' e' (by omega)] at h
     obtain ⟨h1,h2⟩:=h
     rw [List.append_nil] at h1
     simp only [Prod.mk.injEq] at h2
     obtain ⟨h2,h3⟩:=h2
     rw [h1,h2,h3] at HN
     rw [h3] at ce hlt
     clear HE h1 h2 h3 HA hkb
     by_cases hl2:I.length<S.ints.length
     ·have hl3:(I.length:Int)<S.ints.length:=by omega
      have hez:¬e4=0:=fun h=>hlt ⟨hl2,h⟩
      go_wp2_with fail
      go_meet
      exact ⟨v1,HN⟩
     ·have hl3:¬(I.length:Int)<S.ints.length:=by omega
      go_wp2_with fail
      go_meet
      exact ⟨v1,HN⟩
  case rest=>
   clear HG HA
   obtain ⟨v1,HN⟩:=hcut
   go_upto_block 2 with fail
   go_cut [] (fun wc=>∃v2,Hid (Gi w wc g gN gS bs k5 e5 ⟨q,A,B,[]⟩ v1 v2 (.slice none 0 0) sb sc S))
   case first=>
    go_wp2_with fail
    go_loopg [16,17] S.texts.toNat (fun gh s14 _ wr=>∃(j k':Nat) (e':Int) (T:List ByteArray) (v2:Value),s14=.int .i64 j∧gh=S.texts.toNat-j∧j≤S.texts.toNat∧T.length=j∧Hid (T++(oTs bs tx (S.texts.toNat-j) k' e').1=B∧(oTs bs tx (S.texts.toNat-j) k' e').2=(k5,e5))∧Hid (Gi w wr g gN gS bs k' e' ⟨q,A,T,[]⟩ v1 v2 (.slice none 0 0) sb sc S))
    case atStart=>exact ⟨0,k4,e4,[],_,rfl,rfl,Nat.zero_le _,rfl,(by show _∧_;rw [Nat.sub_zero,HB.out];exact ⟨rfl,rfl⟩),HN⟩
    case round=>
     clear HN HB
     obtain ⟨j,k',e',T,v2,rfl,rfl,hj,rfl,HE,HN⟩:=hrel
     have d1:=HN.out.d1
     have ce:=HN.out.ce
     have hkb:=HN.out.kb
     by_cases hlt:T.length<S.texts.toNat∧e'=0
     ·obtain ⟨hlt,rfl⟩:=hlt
      have hlt':(T.length:Int)<S.texts:=by omega
      obtain ⟨x,k3,e3,hq⟩:∃x k3 e3,pText bs k' 0 tx=(x,k3,e3):=⟨_,_,_,rfl⟩
      have hx:=pText_size bs k' 0 tx
      have hk3:=pText_at bs k' 0 tx hkb
      have hUc:=HTx.out wr k' 0 HN.out.cur hkb
      rw [hq] at hx hk3 hUc
      dsimp only at hx hk3 hUc
      have hE2:=HE.out
      rw [show S.texts.toNat-T.length=(S.texts.toNat-(T.length+1))+1 by omega,oTs_next bs tx (S.texts.toNat-(T.length+1)) k' hq] at hE2
      have hR:=fun W=>HRi.out x W (by omega)
      generalize ok8 x=bb at hE2 hR
      have HE2:Hid _:=hE2
      have HUc:Hid _:=hUc
      have HR:Hid _:=hR
      clear hUc hq hE2 HE hR
      go_wp2_with fail
      refine Calls.mono HUc.out ?_
      rintro r w3 ⟨rfl,hc3,hg3⟩
      have HN3:Hid _:=HN.out.read hg3 hc3 hk3.2
      clear HN hg3 hc3 HUc d1 ce
      go_wp2_with fail
      refine Calls.mono (HR.out _) ?_
      rintro r w4 ⟨rfl,hb4⟩
      have HN4:Hid _:=HN3.out.more hb4
      clear HN3 HR hb4
      go_upto_if 84 with fail
      go_cut [] (fun wc=>Hid (Gi w wc g gN gS bs k3 (if bb=true then e3 else fl e3 11) ⟨q,A,T,[]⟩ v1 v2 (.slice none 0 0) sb sc S))
      case first=>
       cases bb
       ·go_wp2_with fail
        refine Calls.mono (HFl.out _ k3 e3 11 HN4.out.cur) ?_
        rintro r w5 ⟨rfl,hc5,hg5⟩
        go_wp2_with fail
        go_meet
        exact HN4.out.read hg5 hc5 hk3.2
       ·go_wp2_with fail
        go_meet
        exact HN4.out
      case rest=>
       clear HN4
       obtain ⟨e4',he4⟩:∃e4',(if bb=true then e3 else fl e3 11)=e4':=⟨_,rfl⟩
       rw [he4] at HE2 hcut
       clear he4
       have HN5:=hcut
       clear hcut
       have c2:=HN5.out.c2
       have hsz:=HN5.out.szS
       go_wp2_with (at_builtin;refine wpList_append_lies _ rfl (.tmp 88) (.tmp 90) 47 rfl (gS+1) 9 i2 (.string ⟨#[]⟩) 1 16 Tryz.underlying47 hi2 hz20 hz21 hz22 rfl (by decide) v2 T.length (tV T) rfl (HN5.out.own.t.alloc _) ⟨wc.heap.size,0,none⟩ 1 1 [.string x] rfl rfl (cell_one_new _ _ _) (by intro u hu;simp at hu;subst hu;rfl) (by decide) (by unfold maxLen;omega) (by omega) (by simp;omega) _ rfl ?_)
       intro g2 cap2 w5 hown2 hgrow2 hlie hlt2
       have HN6:Hid _:=HN5.out.more ((Below.refl _ _).alloc (Nat.le_refl _) (.cells #[.string x] 9))
       have HN7:Hid _:=HN6.out.app2 hgrow2 hown2
       obtain ⟨-,hnd5,-⟩:=HN6.out.keep hgrow2 HN6.out.rows.2.1
       have c5:=hnd5.cell 2
       have f5:=hnd5.fz 2
       clear HN5 HN6 hgrow2 hown2 hlie hlt2 hnd5
       go_wp2_with fail
       go_roundg (S.texts.toNat-(T.length+1))
       case measure=>omega
       case rel=>
        exact ⟨T.length+1,k3,e4',T++[x],_,by go_num,rfl,by omega,by simp,(by show _∧_;have h:=HE2.out;exact ⟨by rw [← h.1,List.append_assoc];rfl,h.2⟩),HN7⟩
     ·have h:=HE.out
      rw [oTs_end bs tx (S.texts.toNat-T.length) k' e' (by omega)] at h
      obtain ⟨h1,h2⟩:=h
      rw [List.append_nil] at h1
      simp only [Prod.mk.injEq] at h2
      obtain ⟨h2,h3⟩:=h2
      rw [h1,h2,h3] at HN
      rw [h3] at ce hlt
      clear HE h1 h2 h3 hkb
      by_cases hl2:T.length<S.texts.toNat
      ·have hl3:(T.length:Int)<S.texts:=by omega
       have hez:¬e5=0:=fun h=>hlt ⟨hl2,h⟩
       go_wp2_with fail
       go_meet
       exact ⟨v2,HN⟩
      ·have hl3:¬(T.length:Int)<S.texts:=by omega
       go_wp2_with fail
       go_meet
       exact ⟨v2,HN⟩
   case rest=>
    clear HN HB HTx HRi
    obtain ⟨v2,HN⟩:=hcut
    have hUc:=HU.out wc k5 e5 edges HN.out.cur HN.out.kb
    have hk6:=pUint_at bs k5 e5 edges HN.out.kb
    rw [HM.out] at hUc hk6
    dsimp only at hUc hk6
    have HUc:Hid _:=hUc
    clear hUc HM
    go_wp2_with fail
    refine Calls.mono HUc.out ?_
    rintro r w3 ⟨rfl,hc3,hg3⟩
    have HN3:Hid _:=HN.out.read hg3 hc3 hk6.2
    clear HN hg3 hc3 HUc
    go_upto_region 20 with fail
    go_cut [111] (fun s111 wc=>s111=.bool bm∧Hid (Gi w wc g gN gS bs k6 e6 ⟨q,A,B,[]⟩ v1 v2 (.slice none 0 0) sb sc S))
    case first=>
     have d2:=HN3.out.d2
     have d3:=HN3.out.d3
     by_cases c1:m<S.least
     ·obtain rfl:bm=true:=by rw [← HBm.out];exact decide_eq_true (.inl c1)
      go_wp2_with fail
      go_meet
      exact ⟨rfl,HN3⟩
     ·by_cases c2:0≤S.most
      ·by_cases c3:S.most<m
       ·obtain rfl:bm=true:=by rw [← HBm.out];exact decide_eq_true (.inr ⟨c2,c3⟩)
        go_wp2_with fail
        go_meet
        exact ⟨rfl,HN3⟩
       ·obtain rfl:bm=false:=by rw [← HBm.out];exact decide_eq_false (by omega)
        go_wp2_with fail
        go_meet
        exact ⟨rfl,HN3⟩
      ·obtain rfl:bm=false:=by rw [← HBm.out];exact decide_eq_false (by omega)
       go_wp2_with fail
       go_meet
       exact ⟨rfl,HN3⟩
    case rest=>
     clear HN3 HBm
     obtain ⟨rfl,HN⟩:=hcut
     go_upto_if 111 with fail
     go_cut [] (fun wc=>Hid (Gi w wc g gN gS bs k6 e7 ⟨q,A,B,[]⟩ v1 v2 (.slice none 0 0) sb sc S))
     case first=>
      have h7:=H7.out
      clear H7
      cases bm
      ·rw [if_neg (by decide)] at h7
       subst h7
       go_wp2_with fail
       go_meet
       exact HN
      ·rw [if_pos rfl] at h7
       subst h7
       go_wp2_with fail
       refine Calls.mono (HFl.out _ k6 e6 12 HN.out.cur) ?_
       rintro r w4 ⟨rfl,hc4,hg4⟩
       go_wp2_with fail
       go_meet
       exact HN.out.read hg4 hc4 HN.out.kb
     case rest=>
      clear HN H7
      have HN:=hcut
      clear hcut
      go_upto_block 4 with fail
      go_cut [] (fun wc=>∃v3,Hid (Gi w wc g gN gS bs k8 e8 ⟨q,A,B,K⟩ v1 v2 v3 sb sc S))
      case first=>
       go_wp2_with fail
       go_loopg [19,20] m.toNat (fun gh s17 _ wr=>∃(j k':Nat) (e':Int) (I:List Int) (v3:Value),s17=.int .i64 j∧gh=m.toNat-j∧j≤m.toNat∧I.length=j∧Hid (I++(oKs bs p c (m.toNat-j) k' e').1=K∧(oKs bs p c (m.toNat-j) k' e').2=(k8,e8))∧Hid (Gi w wr g gN gS bs k' e' ⟨q,A,B,I⟩ v1 v2 v3 sb sc S))
       case atStart=>exact ⟨0,k6,e7,[],_,rfl,rfl,Nat.zero_le _,rfl,(by show _∧_;rw [Nat.sub_zero,HK.out];exact ⟨rfl,rfl⟩),HN⟩
       case round=>
        clear HN HK
        obtain ⟨j,k',e',I,v3,rfl,rfl,hj,rfl,HE,HN⟩:=hrel
        have ce:=HN.out.ce
        have hkb:=HN.out.kb
        by_cases hlt:I.length<m.toNat∧e'=0
        ·obtain ⟨hlt,rfl⟩:=hlt
         have hlt':(I.length:Int)<m:=by omega
         obtain ⟨x,k3,e3,hq⟩:∃x k3 e3,pUint bs k' 0 16777216=(x,k3,e3):=⟨_,_,_,rfl⟩
         have hx:=pUint_top bs k' 0 16777216
         have hk3:=pUint_at bs k' 0 16777216 hkb
         have hUc:=HU.out wr k' 0 16777216 HN.out.cur hkb
         rw [hq] at hx hk3 hUc
         dsimp only at hx hk3 hUc
         have hE2:=HE.out
         rw [show m.toNat-I.length=(m.toNat-(I.length+1))+1 by omega,oKs_next bs p c (m.toNat-(I.length+1)) k' hq] at hE2
         obtain ⟨bb,hbb⟩:∃bb,decide (x≤p∨c≤x)=bb:=⟨_,rfl⟩
         rw [hbb] at hE2
         have HE2:Hid _:=hE2
         have HUc:Hid _:=hUc
         have HBb:Hid _:=hbb
         clear hUc hq hE2 HE hbb
         go_wp2_with fail
         refine Calls.mono HUc.out ?_
         rintro r w3 ⟨rfl,hc3,hg3⟩
         have HN3:Hid _:=HN.out.read hg3 hc3 hk3.2
         clear HN hg3 hc3 HUc ce
         go_upto_region 26 with fail
         go_cut [135] (fun s135 wc=>s135=.bool bb∧Hid (Gi w wc g gN gS bs k3 e3 ⟨q,A,B,I⟩ v1 v2 v3 sb sc S))
         case first=>
          by_cases c1:x≤p
          ·obtain rfl:bb=true:=by rw [← HBb.out];exact decide_eq_true (.inl c1)
           go_wp2_with fail
           go_meet
           exact ⟨rfl,HN3⟩
          ·by_cases c2:c≤x
           ·obtain rfl:bb=true:=by rw [← HBb.out];exact decide_eq_true (.inr c2)
            go_wp2_with fail
            go_meet
            exact ⟨rfl,HN3⟩
           ·obtain rfl:bb=false:=by rw [← HBb.out];exact decide_eq_false (by omega)
            go_wp2_with fail
            go_meet
            exact ⟨rfl,HN3⟩
         case rest=>
          clear HN3 HBb
          obtain ⟨rfl,HN3⟩:=hcut
          go_upto_if 135 with fail
          go_cut [] (fun wc=>Hid (Gi w wc g gN gS bs k3 (if bb=true then fl e3 13 else e3) ⟨q,A,B,I⟩ v1 v2 v3 sb sc S))
          case first=>
           cases bb
           ·go_wp2_with fail
            go_meet
            exact HN3.out
           ·go_wp2_with fail
            refine Calls.mono (HFl.out _ k3 e3 13 HN3.out.cur) ?_
            rintro r w5 ⟨rfl,hc5,hg5⟩
            go_wp2_with fail
            go_meet
            exact HN3.out.read hg5 hc5 hk3.2
          case rest=>
           clear HN3
           obtain ⟨e4',he4⟩:∃e4',(if bb=true then fl e3 13 else e3)=e4':=⟨_,rfl⟩
           rw [he4] at HE2 hcut
           clear he4
           have HN4:=hcut
           clear hcut
           have c3:=HN4.out.c3
           have hsz:=HN4.out.szS
           go_wp2_with (at_builtin;refine wpList_append_lies _ rfl (.tmp 139) (.tmp 141) 49 rfl (gS+1) 3 i3 (.int .i64 0) 1 8 Tryz.underlying49 hi3 hz30 hz31 hz32 rfl (by decide) v3 I.length (iV I) rfl (HN4.out.own.k.alloc _) ⟨wc.heap.size,0,none⟩ 1 1 [.int .i64 (x)] rfl rfl (cell_one_new _ _ _) (by intro u hu;simp at hu;subst hu;rfl) (by decide) (by unfold maxLen;omega) (by omega) (by simp;omega) _ rfl ?_)
           intro g2 cap2 w5 hown2 hgrow2 hlie hlt2
           have HN5:Hid _:=HN4.out.more ((Below.refl _ _).alloc (Nat.le_refl _) (.cells #[.int .i64 (x)] 3))
           have HN6:Hid _:=HN5.out.app3 hgrow2 hown2
           obtain ⟨-,hnd5,-⟩:=HN5.out.keep hgrow2 HN5.out.rows.2.2
           have c5:=hnd5.cell 3
           have f5:=hnd5.fz 3
           clear HN4 HN5 hgrow2 hown2 hlie hlt2 hnd5
           go_wp2_with fail
           go_roundg (m.toNat-(I.length+1))
           case measure=>omega
           case rel=>
            exact ⟨I.length+1,k3,e4',I++[x],_,by go_num,rfl,by omega,by simp,(by show _∧_;have h:=HE2.out;exact ⟨by rw [← h.1,List.append_assoc];rfl,h.2⟩),HN6⟩
        ·have h:=HE.out
         rw [oKs_end bs p c (m.toNat-I.length) k' e' (by omega)] at h
         obtain ⟨h1,h2⟩:=h
         rw [List.append_nil] at h1
         simp only [Prod.mk.injEq] at h2
         obtain ⟨h2,h3⟩:=h2
         rw [h1,h2,h3] at HN
         rw [h3] at ce hlt
         clear HE h1 h2 h3 hkb
         by_cases hl2:I.length<m.toNat
         ·have hl3:(I.length:Int)<m:=by omega
          have hez:¬e8=0:=fun h=>hlt ⟨hl2,h⟩
          go_wp2_with fail
          go_meet
          exact ⟨v3,HN⟩
         ·have hl3:¬(I.length:Int)<m:=by omega
          go_wp2_with fail
          go_meet
          exact ⟨v3,HN⟩
      case rest=>
       clear HN HK
       obtain ⟨v3,HN⟩:=hcut
       have r0:=HN.out.res.cell 0
       have r1:=HN.out.res.cell 1
       have r2:=HN.out.res.cell 2
       have r3:=HN.out.res.cell 3
       have f0:=HN.out.res.fz 0
       have f1:=HN.out.res.fz 1
       have f2:=HN.out.res.fz 2
       have f3:=HN.out.res.fz 3
       obtain ⟨a1,c1,rfl⟩:=own_shape7 HN.out.own.i
       obtain ⟨a2,c2,rfl⟩:=own_shape7 HN.out.own.t
       obtain ⟨a3,c3,rfl⟩:=own_shape7 HN.out.own.k
       have n0:=HN.out.c0
       have n1:=HN.out.c1
       have n2:=HN.out.c2
       have n3:=HN.out.c3
       go_wp2_with fail
       have A4:=at_set4 HN.out.res (.int .i64 q) (.slice a1 A.length c1) (.slice a2 B.length c2) (.slice a3 K.length c3)
       have z0:=A4.cell 0
       have z1:=A4.cell 1
       have z2:=A4.cell 2
       have z3:=A4.cell 3
       refine bodyPost_ret (v:=.agg #[.int .i64 q,.slice a1 A.length c1,.slice a2 B.length c2,.slice a3 K.length c3]) (by simp [results,Tryz.results38,go_sem, *]) rfl ?_
       rw [HQ.out]
       exact HN.out.fin _ _ _ _ ⟨q,A,B,K⟩ HN.out.own
end Go.Proofs.YtgoffkfpdigeeaaGreatDoor
