import Derived.Test.YtcgjgjjegnofeaaGreatDoorPA25
import Derived.Test.YtcgjgjjegnofeaaGreatDoorPA30
import Derived.Test.YtcgjgjjegnofeaaGreatDoorPA22
import Derived.Test.YtcgjgjjegnofeaaGreatDoorPA20
import Derived.Test.YtcgjgjjegnofeaaGreatDoorPA01
namespace Go.Proofs.YtcgjgjjegnofeaaGreatDoor
open Go.RowKit Go.Maps Go.WideMaps Go.Sort
set_option maxRecDepth 10000 in
set_option maxHeartbeats 1000000 in
theorem rfbytes_any (X:List Nx) (a:Option Addr) (c:Nat) (r:Int) (w:World) (h:ScAt w a X) (hX:Small X) (hF:FnX X) (hW:Whole X r) (hz:(cA X r).size≤4000000∧(cC X r).size≤4000000) :
  Calls Tryz.prog 28 #[.agg #[.slice a X.length c,.int .i64 r]] w fun e w'=>e=.returned (.string (cF X r))∧Below w.heap.size w w':=by
 have HA0:Hid (AtN 24 (w.alloc (.cells #[.slice a X.length c,.int .i64 r] 24)) w.heap.size #[.slice a X.length c,.int .i64 r]):=AtN.new w 24 _
 have HB0:Hid (Below w.heap.size w (w.alloc (.cells #[.slice a X.length c,.int .i64 r] 24))):=(Below.refl _ _).alloc (Nat.le_refl _) _
 have HC:Hid (∀W,Below w.heap.size w W→Calls Tryz.prog 18 #[.agg #[.slice a X.length c,.int .i64 r]] W fun e w'=>RCanOut X r W w' e):=fun W hb=>rcanon_any X a c r W (h.belowB hb) hX hW.2
 have HP:Hid (∀(Y:List Nx) (a':Option Addr) (c':Nat) (W:World),Y.map Nx.nd=cX X r→ScAt W a' Y→Calls Tryz.prog 58 #[.agg #[.slice a' Y.length c',.int .i64 ((X.length:Int)-1)]] W fun e w'=>e=.returned (.tuple #[.string (cA X r),.string (cC X r),.int .i64 0])∧Below W.heap.size W w'):=fun Y a' c' W hY hs=>by
  have hR:=can_ren hW.2 hY
  refine Calls.mono (rnput_any Y a' c' _ W hs (hR.small hX) (hR.fnx hF)) ?_
  rintro e w' ⟨A,C,k,rfl,hp,hb⟩
  obtain ⟨rfl,rfl,rfl⟩:=put_can hW hY hp
  exact ⟨rfl,hb⟩
 have HS:Hid (∀(W:World) (g:Nat),AtN 52 W g #[.int .i64 1,.string (cA X r),.int .i64 2,.string (cC X r)]→Calls Tryz.prog 25 #[.string ⟨#[68,73,79,82]⟩,.int .i64 2,.slice (some ⟨g,0,none⟩) 2 2] W fun e w'=>e=.returned (.tuple #[.string (cF X r),.int .i64 0])∧Below W.heap.size W w'):=fun W g hs=>by
  have h:=rput_any mD 2 (some ⟨g,0,none⟩) 2 g 0 (secs2 (cA X r) (cC X r)) W (fun _=>rfl) (secs_at hs) (fun s q=>by
   simp only [secs2,List.mem_cons,List.not_mem_nil,or_false] at q
   rcases q with rfl|rfl
   ·exact hz.1
   ·exact hz.2)
  rw [secs2_put (by omega) (by omega)] at h
  exact h
 clear h hX hF hW hz
 generalize cF X r=F at *
 generalize cA X r=A at *
 generalize cC X r=C at *
 go_enter Tryz.func28,Tryz.ntmps28
 go_wp2_with fail
 refine Calls.mono (HC.out _ HB0.out) ?_
 rintro e w1 ⟨Y,ay,cy,rfl,hY,hs,hb1⟩
 have HB1:Hid (Below w.heap.size w w1):=HB0.out.trans (hb1.mono HB0.out.size)
 have HPc:Hid _:=HP.out Y ay cy w1 hY hs
 clear HA0 HB0 HC HP hY hs hb1
 go_wp2_with fail
 refine Calls.mono HPc.out ?_
 rintro e w2 ⟨rfl,hb2⟩
 have HB2:Hid (Below w.heap.size w w2):=HB1.out.trans (hb2.mono HB1.out.size)
 have HSc:Hid (∀o:Obj,o=.cells #[.int .i64 1,.string A,.int .i64 2,.string C] 52→Below w.heap.size w (w2.alloc o)∧Calls Tryz.prog 25 #[.string ⟨#[68,73,79,82]⟩,.int .i64 2,.slice (some ⟨w2.heap.size,0,none⟩) 2 2] (w2.alloc o) fun e w'=>e=.returned (.tuple #[.string F,.int .i64 0])∧Below (w2.alloc o).heap.size (w2.alloc o) w'):=by
  rintro _ rfl
  exact ⟨HB2.out.alloc HB2.out.size _,HS.out _ _ (AtN.new w2 52 _)⟩
 clear HPc HB1 hb2 HS
 go_wp2_with fail
 obtain ⟨hb3,hc3⟩:=HSc.out _ rfl
 refine Calls.mono hc3 ?_
 rintro e w4 ⟨rfl,hb4⟩
 have HB4:Hid (Below w.heap.size w w4):=hb3.trans (hb4.mono hb3.size)
 clear HSc hb3 hc3 hb4
 go_wp2_with fail
 go_ret
 exact ⟨rfl,HB4.out⟩
set_option maxRecDepth 10000 in
set_option maxHeartbeats 1000000 in
theorem rfsave_any (X:List Nx) (a:Option Addr) (c:Nat) (r:Int) (l:Lm) (w:World) (h:ScAt w a X) (hX:Small X) (hF:FnX X) (hz:Whole X r→(cA X r).size≤4000000∧(cC X r).size≤4000000) :
  Calls Tryz.prog 14 #[.agg #[.slice a X.length c,.int .i64 r],.agg (liC l)] w fun e w'=>SvOut X r l w w' e:=by
 obtain ⟨d,hd⟩:=depth_there X r
 have hlC:liC l=#[.int .i64 l.b,.int .i64 l.n,.int .i64 l.e,.int .i64 l.d,.int .i64 l.x]:=rfl
 have HA:Hid (∀(o1 o2:Obj),o1=.cells #[.slice a X.length c,.int .i64 r] 24→o2=.cells (liC l) 26→AtN 24 ((w.alloc o1).alloc o2) w.heap.size #[.slice a X.length c,.int .i64 r]∧AtN 26 ((w.alloc o1).alloc o2) (w.heap.size+1) (liC l)∧Below w.heap.size w ((w.alloc o1).alloc o2)):=by
  rintro _ _ rfl rfl
  exact ⟨(AtN.new w 24 _).alloc _,mk_at (AtN.new (w.alloc _) 26 _) (show _=w.heap.size+1 by simp),((Below.refl w.heap.size w).alloc (Nat.le_refl _) _).alloc (by simp) _⟩
 have HV:Hid (∀W,Below w.heap.size w W→Calls Tryz.prog 35 #[.agg #[.slice a X.length c,.int .i64 r],.agg #[.int .i64 l.b,.int .i64 l.n,.int .i64 l.e,.int .i64 l.d,.int .i64 l.x]] W fun e w'=>VaOut X r l d W w' e):=fun W hW=>rvalid_any X a c r l d W (h.belowB hW) hX hF hd
 have HBy:Hid (∀W,Whole X r→Below w.heap.size w W→Calls Tryz.prog 28 #[.agg #[.slice a X.length c,.int .i64 r]] W fun e w'=>e=.returned (.string (cF X r))∧Below W.heap.size W w'):=fun W hw hW=>rfbytes_any X a c r W (h.belowB hW) hX hF hw (hz hw)
 have HD:Hid (DepthIs X r d):=hd
 have HI:Hid (∀n z B e,VaIs X r l d n z→((n≠0∧e=n∧B=⟨#[]⟩)∨(n=0∧((l.b<(cF X r).size∧e=19∧B=⟨#[]⟩)∨(¬l.b<(cF X r).size∧e=0∧B=cF X r))))→SvIs X r l B e):=fun n z B e h1 h2=>⟨d,n,z,hd,h1,h2⟩
 generalize cF X r=F at *
 clear h hX hF hz hd
 go_enter Tryz.func14,Tryz.ntmps14
 rw [hlC]
 go_wp2_with fail
 obtain ⟨h1,h2,h3⟩:=HA.out _ _ rfl rfl
 rw [hlC] at h1 h2 h3
 refine Calls.mono (HV.out _ h3) ?_
 rintro e w1 ⟨n,z,rfl,hv,hb1⟩
 have HS1:Hid (AtN 24 w1 w.heap.size #[.slice a X.length c,.int .i64 r]):=h1.belowAll hb1
 have HL1:Hid (AtN 26 w1 (w.heap.size+1) #[.int .i64 l.b,.int .i64 l.n,.int .i64 l.e,.int .i64 l.d,.int .i64 l.x]):=h2.belowAll hb1
 have HB1:Hid (Below w.heap.size w w1):=h3.trans (hb1.mono h3.size)
 have HVa:Hid (VaIs X r l d n z):=hv
 clear HA HV h1 h2 h3 hb1 hv hlC
 by_cases hn:n=0
 ·subst hn
  have HW:Hid (Whole X r):=(va_whole HVa.out).2.1
  have x0:w1.cell? ⟨w.heap.size,0,none⟩=some (.slice a X.length c):=HS1.out.cell 0
  have x1:w1.cell? ⟨w.heap.size,1,none⟩=some (.int .i64 r):=HS1.out.cell 1
  go_wp2_with fail
  refine Calls.mono (HBy.out _ HW.out HB1.out) ?_
  rintro e w2 ⟨rfl,hb2⟩
  have HL2:Hid (AtN 26 w2 (w.heap.size+1) #[.int .i64 l.b,.int .i64 l.n,.int .i64 l.e,.int .i64 l.d,.int .i64 l.x]):=HL1.out.belowAll hb2
  have HB2:Hid (Below w.heap.size w w2):=HB1.out.trans (hb2.mono HB1.out.size)
  have y0:w2.cell? ⟨w.heap.size+1,0,none⟩=some (.int .i64 l.b):=HL2.out.cell 0
  clear HBy HS1 HL1 HB1 hb2 x0 x1
  by_cases hlt:l.b<(F.size:Int)
  ·have HP:Hid (SvIs X r l ⟨#[]⟩ 19):=HI.out 0 z _ _ HVa.out (.inr ⟨rfl,.inl ⟨hlt,rfl,rfl⟩⟩)
   clear HI HVa HD HW
   go_wp2_with fail
   go_ret2
   exact ⟨_,_,rfl,HP.out,HB2.out⟩
  ·have hlt':¬l.b<(F.size:Int):=hlt
   have HP:Hid (SvIs X r l F 0):=HI.out 0 z _ _ HVa.out (.inr ⟨rfl,.inr ⟨by first|exact hlt|exact Int.not_lt.1 hlt,rfl,rfl⟩⟩)
   clear HI HVa HD HW
   go_wp2_with fail
   go_ret2
   exact ⟨_,_,rfl,HP.out,HB2.out⟩
 ·have hn':(n != 0)=true:=by simpa using hn
  have HP:Hid (SvIs X r l ⟨#[]⟩ n):=HI.out n z _ _ HVa.out (.inl ⟨hn,rfl,rfl⟩)
  clear HI HVa HD HBy
  go_wp2_with fail
  go_ret2
  exact ⟨_,_,rfl,HP.out,HB1.out⟩
end Go.Proofs.YtcgjgjjegnofeaaGreatDoor
namespace Go.Proofs.YtcgjgjjegnofeaaGreatDoor
open Go.RowKit Go.Maps Go.WideMaps Go.Sort
theorem Aprt.nil:Aprt []:=fun i j _ h=>by simp at h
theorem getD_snocN (Y:List Nx) (y:Nx) (j:Nat) (h:j<Y.length):(Y++[y]).getD j noNx=Y.getD j noNx:=by rw [List.getD_eq_getElem?_getD,List.getElem?_append_left h,← List.getD_eq_getElem?_getD]
theorem Aprt.snoc {Y:List Nx} {y:Nx} {B:Nat} (h:Aprt Y) (h1:∀j,j<Y.length→∀g,kidB (Y.getD j noNx)=some g→g<B) (h2:∀g,kidB y=some g→B≤g):Aprt (Y++[y]):=by
 intro i j hij hj g hi hjg
 by_cases hl:j<Y.length
 ·rw [getD_snocN Y y j hl] at hjg
  rw [getD_snocN Y y i (by omega)] at hi
  exact h i j hij hl g hi hjg
 ·obtain rfl:j=Y.length:=by simp at hj;omega
  rw [getD_snocN Y y i (by omega)] at hi
  rw [show (Y++[y]).getD Y.length noNx=y by simp] at hjg
  have:=h1 i (by omega) g hi
  have:=h2 g hjg
  omega
theorem Aprt.ne {Y:List Nx} (h:Aprt Y) {i j:Nat} (hi:i<Y.length) (hj:j<Y.length) (hne:i≠j) {g:Nat} (h1:kidB (Y.getD i noNx)=some g):kidB (Y.getD j noNx)≠some g:=by
 rcases Nat.lt_or_gt_of_ne hne with q|q
 ·exact h i j q hj g h1
 ·exact fun h2=>h j i q hi g h2 h1
def SCopyOut2 (X:List Nx) (r:Int) (w w':World) (e:Ending):Prop:=∃Y a c,e=.returned (.agg #[.slice a (List.length Y) c,.int .i64 r])∧Y.map Nx.nd=X.map Nx.nd∧w'.ownsRow w.heap.size 62 4 (.slice a Y.length c) Y.length (nxV Y)∧(∀j,j<Y.length→OwnNx w' w.heap.size (Y.getD j noNx))∧Aprt Y∧Below w.heap.size w w'
set_option maxRecDepth 10000 in
set_option maxHeartbeats 1000000 in
theorem scopy2_any (X:List Nx) (a:Option Addr) (c:Nat) (r:Int) (w:World) (h:ScAt w a X) (hX:Small X) :
  Calls Tryz.prog 13 #[.agg #[.slice a X.length c,.int .i64 r]] w fun e w'=>SCopyOut2 X r w w' e:=by
 obtain ⟨i0,hi,hz0,hz1,hz2⟩:=info_parts Tryz.infoD9
 have hn:=hX.1
 have HS:Hid (ScAt w a X∧Small X):=⟨h,hX⟩
 clear h hX
 have HA:Hid (∀(o1 o2 o3:Obj),o1=.cells #[.slice a X.length c,.int .i64 r] 24→o2=.cells #[.slice none 0 0,.int .i64 0] 24→o3=.cells #[.slice none 0 0,.int .i64 r] 24→AtN 24 (((w.alloc o1).alloc o2).alloc o3) w.heap.size #[.slice a X.length c,.int .i64 r]∧AtN 24 (((w.alloc o1).alloc o2).alloc o3) (w.heap.size+1) #[.slice none 0 0,.int .i64 0]∧Mkg (((w.alloc o1).alloc o2).alloc o3) w.heap.size (w.heap.size+1+1) r (.slice none 0 0) []∧Below w.heap.size w (((w.alloc o1).alloc o2).alloc o3)):=by
  rintro _ _ _ rfl rfl rfl
  refine ⟨((AtN.new w 24 _).alloc _).alloc _,(mk_at (AtN.new (w.alloc _) 24 _) (show _=w.heap.size+1 by simp)).alloc _,⟨mk_at (AtN.new ((w.alloc _).alloc _) 24 _) (show _=w.heap.size+1+1 by simp),⟨rfl,.inl ⟨rfl,rfl⟩⟩,fun j hj=>by simp at hj⟩,(((Below.refl w.heap.size w).alloc (Nat.le_refl _) _).alloc (by simp) _).alloc (by simp;omega) _⟩
 go_enter Tryz.func13,Tryz.ntmps13
 go_wp2_with fail
 go_loopw [4] (fun iv wr=>∃(i:Nat) (v:Value) (Y:List Nx),iv=.int .i64 i∧i≤X.length∧Hid (Y.map Nx.nd=(X.take i).map Nx.nd)∧Hid (Y.length=i)∧Hid (AtN 24 wr w.heap.size #[.slice a X.length c,.int .i64 r])∧Hid (AtN 24 wr (w.heap.size+1) #[.slice none 0 0,.int .i64 0])∧Hid (Mkg wr w.heap.size (w.heap.size+1+1) r v Y)∧Hid (Aprt Y)∧Hid (Below w.heap.size w wr)) (fun iv _=>X.length-(intOf iv).toNat)
 case atStart=>
  obtain ⟨h1,h2,h3,h4⟩:=HA.out _ _ _ rfl rfl rfl
  exact ⟨0,.slice none 0 0,[],rfl,by omega,rfl,rfl,h1,h2,h3,Aprt.nil,h4⟩
 case round=>
  clear HA
  obtain ⟨i,v,Y,rfl,hi',HM,HL,HA1,HA2,HK,HP,HB⟩:=hrel
  have x0:wr.cell? ⟨w.heap.size,0,none⟩=some (.slice a X.length c):=HA1.out.cell 0
  by_cases hlt:i<X.length
  ·have hlt':(i:Int)<X.length:=by omega
   obtain ⟨b,o,ea,hbl⟩:∃b o,a=some ⟨b,o,none⟩∧b<w.heap.size:=by
    obtain ⟨b,o,e,hb,_⟩:=HS.out.1.node hlt
    exact ⟨b,o,e,hb⟩
   subst ea
   have HN:Hid (∀W,Below w.heap.size w W→ScAt W (some ⟨b,o,none⟩) X):=fun W hW=>HS.out.1.belowB hW
   have hgr:=big_no (HS.out.2.2 i hlt)
   have hsz:w.heap.size+1+1<wr.heap.size:=HK.out.sc.lt
   have hvne:=HK.out.ne
   have hvlt:∀k,v.ownBlock=some k→k<wr.heap.size:=fun k hk=>(HK.out.row.lt k hk).2
   have hvge:∀k,v.ownBlock=some k→w.heap.size≤k:=fun k hk=>(HK.out.row.lt k hk).1
   have hYl:Y.length≤1401:=by have h0:Y.length=i:=HL.out;omega
   have Hv:Hid (v.ownBlock≠some (w.heap.size+1+1)∧(∀k,v.ownBlock=some k→k<wr.heap.size)∧∀k,v.ownBlock=some k→w.heap.size≤k):=⟨hvne,hvlt,hvge⟩
   clear hvne hvlt hvge
   go_wp2_with fail
   refine facts_region4 (fun W=>Fr (MkS (w.heap.size+1+1) v) wr W) (cpR (w.heap.size+1+1) v) cpC cpD (cpF (some ⟨b,o,none⟩) X.length c i b o w.heap.size (w.heap.size+1+1) w.heap.size wr.heap.size r v Y (X.getD i noNx)) cpI (cpFI w.heap.size (w.heap.size+1+1) r v Y) (by kernel_rfl) (by kernel_rfl) (Fr.refl _ wr).drew ?hI0 ?hdead (cpF_stab (some ⟨b,o,none⟩) X.length c i b o w.heap.size (w.heap.size+1+1) w.heap.size wr.heap.size r v Y (X.getD i noNx) Hv.out.2.1 hsz) ?gl ?stabI ?loc ?step ?fin
   case hI0=>
    intro q
    match q with
    | 0=>exact HK.out.row
    | k+1=>exact HK.out.sc
   case hdead=>
    intro i j oi oj hi hj hd
    simp only [cpD,Bool.or_eq_true,Bool.and_eq_true,beq_iff_eq] at hd
    rcases hd with ⟨rfl,rfl⟩|⟨rfl,rfl⟩
    ·obtain rfl:=Option.some.inj hi
     exact .inl (by kernel_rfl)
    ·obtain rfl:=Option.some.inj hj
     exact .inr (by kernel_rfl)
   case gl=>
    intro q W W' hR hG
    unfold cpR at hR
    refine hG.trans (Fr.of_grown (S:=MkS (w.heap.size+1+1) v) hR (fun k hk=>?_)) (fun _ e _=>e)
    by_cases h9:q=9
    ·rw [if_pos h9] at hk;exact .inl hk
    ·rw [if_neg h9] at hk
     by_cases h11:q=11
     ·rw [if_pos h11] at hk;cases hk;exact .inr rfl
     ·rw [if_neg h11] at hk;cases hk
   case stabI=>
    intro q u W W' hne hR hF
    unfold cpR at hR
    match u,hF with
    | 0,hF=>
     have h9:q≠9:=fun e=>hne (by rw [e];rfl)
     rw [if_neg h9] at hR
     by_cases h11:q=11
     ·rw [if_pos h11] at hR
      exact World.ownsRow.kept hF hR (.inr Hv.out.1)
     ·rw [if_neg h11] at hR
      exact own_below hF (below_of_grown hR) (Nat.le_refl _)
    | k+1,hF=>
     have h11:q≠11:=fun e=>hne (by rw [e];rfl)
     rw [if_neg h11] at hR
     by_cases h9:q=9
     ·rw [if_pos h9] at hR
      exact AtN.kept hF hR (fun e=>Hv.out.1 e.symm)
     ·rw [if_neg h9] at hR
      exact AtN.kept hF hR (by simp)
   case loc=>
    intro j o V V' W ho hd hk h
    rcases j with _|_|_|_|_|_|_|_|_|_|_|_|j
    ·obtain rfl:=Option.some.inj ho
     have e:V (some 15)=V' (some 15):=hd
     simp only [cpF] at h ⊢
     rw [← e];exact h
    ·obtain rfl:=Option.some.inj ho
     have e:V (some 16)=V' (some 16):=hd
     simp only [cpF] at h ⊢
     rw [← e];exact h
    ·obtain rfl:=Option.some.inj ho
     have e:V (some 17)=V' (some 17):=hd
     simp only [cpF] at h ⊢
     rw [← e];exact h
    ·obtain rfl:=Option.some.inj ho
     have e:V (some 18)=V' (some 18):=hd
     simp only [cpF] at h ⊢
     rw [← e];exact h
    ·obtain rfl:=Option.some.inj ho
     have e:V (some 19)=V' (some 19):=hd
     simp only [cpF] at h ⊢
     rw [← e];exact h
    ·obtain rfl:=Option.some.inj ho
     have e:V (some 20)=V' (some 20):=hd
     simp only [cpF] at h ⊢
     rw [← e];exact h
    ·obtain rfl:=Option.some.inj ho
     have e:V (some 21)=V' (some 21):=hd
     simp only [cpF] at h ⊢
     rw [← e];exact h
    ·obtain rfl:=Option.some.inj ho
     have e:V (some 22)=V' (some 22):=hd
     simp only [cpF] at h ⊢
     rw [← e];exact h
    ·obtain rfl:=Option.some.inj ho
     have e:V (some 23)=V' (some 23):=hd
     simp only [cpF] at h ⊢
     rw [← e];exact h
    ·obtain rfl:=Option.some.inj ho
     have e:V (some 24)=V' (some 24):=hd
     simp only [cpF] at h ⊢
     rw [← e];exact h
    ·obtain rfl:=Option.some.inj ho
     have e:V (some 25)=V' (some 25):=hd
     simp only [cpF] at h ⊢
     rw [← e];exact h
    ·simp only [cpF] at h ⊢
     exact h
    ·exact absurd ho (by simp)
   case step=>
    intro q o' ho a' W hG hoff hdep hI K hK
    have t1:a'.tmps[1]?.getD undef=.pointer (some ⟨w.heap.size,0,none⟩):=hoff 1 (by kernel_rfl)
    have t3:a'.tmps[3]?.getD undef=.pointer (some ⟨w.heap.size+1+1,0,none⟩):=hoff 3 (by kernel_rfl)
    have t4:a'.tmps[4]?.getD undef=.int .i64 (i:Int):=hoff 4 (by kernel_rfl)
    have hS:∀z,MkS (w.heap.size+1+1) v z→w.heap.size+1<z∨w.heap.size≤z:=fun z hz=>by
     rcases hz with hz|hz
     ·exact .inr (Hv.out.2.2 z hz)
     ·exact .inl (by omega)
    have hbW:Below w.heap.size w W:=Fr.below HB.out hG (fun z e=>by rcases hS z e with q|q <;> omega) HB.out.size
    have hbx:AtN 24 W w.heap.size #[.slice (some ⟨b,o,none⟩) X.length c,.int .i64 r]:=AtN.fr HA1.out hG (fun e=>by
     rcases e with e|e
     ·exact own_ne_at HK.out.row HA1.out (by decide) _ e rfl
     ·omega)
    have x0:W.cell? ⟨w.heap.size,0,none⟩=some (.slice (some ⟨b,o,none⟩) X.length c):=hbx.cell 0
    have hsW:wr.heap.size≤W.heap.size:=hG.size
    have hs:=HN.out W hbW
    obtain ⟨b',o1,e1,_,d0,d1,d2,d3⟩:=hs.node hlt
    cases e1
    have HC:Hid (Calls Tryz.prog 34 #[.agg (nxC (X.getD i noNx)).toArray] W fun e w'=>NdOut W w' e (X.getD i noNx).nd):=rcopy_any (X.getD i noNx).nd (X.getD i noNx).a1 (X.getD i noNx).a2 (X.getD i noNx).a3 (X.getD i noNx).c1 (X.getD i noNx).c2 (X.getD i noNx).c3 W (hs.each i hlt) hgr.1 hgr.2.1 hgr.2.2.1
    clear hS hbx hs HA1 HA2 HK HB HN HS hgr
    generalize X.getD i noNx=N at *
    rcases q with _|_|_|_|_|_|_|_|_|_|_|_|q
    ·obtain rfl:=Option.some.inj ho
     clear hdep hoff hI HC
     go_simp
     exact hK _ _ (grown_refl _ _) (fun V' h1 _=>by
      have e:V' (some 15)=_:=h1
      simp only [cpF]
      rw [e]
      rfl)
    ·obtain rfl:=Option.some.inj ho
     have e0:a'.tmps[15]?.getD undef=.pointer (some ⟨w.heap.size+1+1,0,none⟩):=hdep 0 (by kernel_rfl) (.inr (by decide))
     have hsc:AtN 24 W (w.heap.size+1+1) #[v,.int .i64 r]:=hI 1 (by kernel_rfl)
     have y0:W.cell? ⟨w.heap.size+1+1,0,none⟩=some v:=hsc.cell 0
     clear hsc
     clear hdep hoff hI HC
     go_simp
     exact hK _ _ (grown_refl _ _) (fun V' h1 _=>by
      have e:V' (some 16)=_:=h1
      simp only [cpF]
      rw [e]
      rfl)
    ·obtain rfl:=Option.some.inj ho
     clear hdep hoff hI HC
     go_simp
     exact hK _ _ (grown_refl _ _) (fun V' h1 _=>by
      have e:V' (some 17)=_:=h1
      simp only [cpF]
      rw [e]
      rfl)
    ·obtain rfl:=Option.some.inj ho
     have e0:a'.tmps[17]?.getD undef=.pointer (some ⟨w.heap.size,0,none⟩):=hdep 2 (by kernel_rfl) (.inr (by decide))
     clear hdep hoff hI HC
     go_simp
     exact hK _ _ (grown_refl _ _) (fun V' h1 _=>by
      have e:V' (some 18)=_:=h1
      simp only [cpF]
      rw [e]
      rfl)
    ·obtain rfl:=Option.some.inj ho
     clear hdep hoff hI HC
     go_simp
     exact hK _ _ (grown_refl _ _) (fun V' h1 _=>by
      have e:V' (some 19)=_:=h1
      simp only [cpF]
      rw [e]
      rfl)
    ·obtain rfl:=Option.some.inj ho
     have e0:a'.tmps[18]?.getD undef=.slice (some ⟨b,o,none⟩) X.length c:=hdep 3 (by kernel_rfl) (.inr (by decide))
     have e1:a'.tmps[19]?.getD undef=.int .i64 (i:Int):=hdep 4 (by kernel_rfl) (.inr (by decide))
     clear hdep hoff hI HC
     go_simp
     exact hK _ _ (grown_refl _ _) (fun V' h1 _=>by
      have e:V' (some 20)=_:=h1
      simp only [cpF]
      rw [e]
      rfl)
    ·obtain rfl:=Option.some.inj ho
     have e0:a'.tmps[20]?.getD undef=.pointer (some ⟨b,o+i*4,none⟩):=hdep 5 (by kernel_rfl) (.inr (by decide))
     clear hdep hoff hI HC
     go_simp
     exact hK _ _ (grown_refl _ _) (fun V' h1 _=>by
      have e:V' (some 21)=_:=h1
      simp only [cpF]
      rw [e]
      rfl)
    ·obtain rfl:=Option.some.inj ho
     have e0:a'.tmps[21]?.getD undef=.agg (nxC N).toArray:=hdep 6 (by kernel_rfl) (.inr (by decide))
     clear hdep hoff hI
     go_simp
     refine Calls.mono HC.out ?_
     rintro e w' ⟨a1,c1,a2,c2,a3,c3,rfl,hO,hb⟩
     exact hK _ _ (by unfold cpR;exact grown_of_below hb _) (fun V' h1 _=>by
      have e:V' (some 22)=.agg #[.int .i64 N.nd.kind,.slice a1 N.nd.ints.length c1,.slice a2 N.nd.texts.length c2,.slice a3 N.nd.kids.length c3]:=h1
      simp only [cpF]
      rw [e]
      exact ⟨⟨N.nd,a1,c1,a2,c2,a3,c3⟩,rfl,rfl,OwnNd.mono hO hsW⟩)
    ·obtain rfl:=Option.some.inj ho
     have e0:∃y:Nx,y.nd=N.nd∧a'.tmps[22]?.getD undef=.agg (nxC y).toArray∧OwnNx W wr.heap.size y:=hdep 7 (by kernel_rfl) (.inr (by decide))
     obtain ⟨y,hy,e1,hO⟩:=e0
     have e2:a'.tmps[22]?.getD undef=.agg #[.int .i64 y.nd.kind,.slice y.a1 y.nd.ints.length y.c1,.slice y.a2 y.nd.texts.length y.c2,.slice y.a3 y.nd.kids.length y.c3]:=e1
     have HO:Hid (OwnNx W wr.heap.size y∧y.nd=N.nd):=⟨hO,hy⟩
     clear hdep hoff hI HC e1 hO hy
     go_simp
     exact hK _ _ (World.grownBy_alloc _ _ _) (fun V' h1 _=>by
      have e:V' (some 23)=.slice (some ⟨W.heap.size,0,none⟩) 1 1:=h1
      simp only [cpF]
      exact ⟨y,W.heap.size,HO.out.2,e,hsW,AtN.new W 62 _,HO.out.1.kept (World.grownBy_alloc W _ none) (by simp)⟩)
    ·obtain rfl:=Option.some.inj ho
     have e0:a'.tmps[16]?.getD undef=v:=hdep 1 (by kernel_rfl) (.inr (by decide))
     have e1:∃(y:Nx) (g8:Nat),y.nd=N.nd∧a'.tmps[23]?.getD undef=.slice (some ⟨g8,0,none⟩) 1 1∧wr.heap.size≤g8∧AtN 62 W g8 (nxC y).toArray∧OwnNx W wr.heap.size y:=hdep 8 (by kernel_rfl) (.inl (by decide))
     obtain ⟨y,g8,hy,e2,hg8,hA8,hO⟩:=e1
     have hrow:W.ownsRow w.heap.size 62 4 v Y.length (nxV Y):=hI 0 (by kernel_rfl)
     clear hdep hoff hI HC
     refine step_append_lies W rfl (.tmp 16) (.tmp 23) 22 rfl w.heap.size 62 i0 (.agg #[.int .i64 0,.slice none 0 0,.slice none 0 0,.slice none 0 0]) 4 80 Tryz.underlying22 hi hz0 hz1 hz2 rfl (by decide) v Y.length (nxV Y) (by simpa [Act.eval] using e0) hrow ⟨g8,0,none⟩ 1 1 (nxC y) (by simpa [Act.eval] using e2) rfl (fun j u hu=>World.news_of_block hA8 j u (by simpa using hu)) (by intro u hu;simp [nxC] at hu;rcases hu with rfl|rfl|rfl|rfl <;> rfl) (by decide) (by unfold maxLen;omega) (by omega) (by omega) _ rfl ?_
     intro g2 cap2 w4 hown4 hgrow4 hlie hlt4
     refine hK _ _ hgrow4 (fun V' h1 _=>?_)
     have e:V' (some 24)=.slice (some ⟨g2,0,none⟩) (Y.length+1) cap2:=h1
     simp only [cpF]
     rw [e]
     refine ⟨y,hy,hown4,?_,hO.kept hgrow4 Hv.out.2.1⟩
     intro q
     simp only [Value.ownBlock,Option.some.injEq] at q
     rcases hlie with p|p
     ·rw [q] at p;exact Hv.out.1 p
     ·omega
    ·obtain rfl:=Option.some.inj ho
     clear hdep hoff hI HC
     go_simp
     exact hK _ _ (grown_refl _ _) (fun V' h1 _=>by
      have e:V' (some 25)=_:=h1
      simp only [cpF]
      rw [e]
      rfl)
    ·obtain rfl:=Option.some.inj ho
     have e0:a'.tmps[25]?.getD undef=.pointer (some ⟨w.heap.size+1+1,0,none⟩):=hdep 10 (by kernel_rfl) (.inr (by decide))
     have e1:∃y:Nx,y.nd=N.nd∧W.ownsRow w.heap.size 62 4 (a'.tmps[24]?.getD undef) (Y.length+1) (nxV Y++nxC y)∧(a'.tmps[24]?.getD undef).ownBlock≠some (w.heap.size+1+1)∧OwnNx W wr.heap.size y:=hdep 9 (by kernel_rfl) (.inr (by decide))
     obtain ⟨y,hy,hrow,hne,hO⟩:=e1
     have hsc:AtN 24 W (w.heap.size+1+1) #[v,.int .i64 r]:=hI 1 (by kernel_rfl)
     have y0:W.cell? ⟨w.heap.size+1+1,0,none⟩=some v:=hsc.cell 0
     have yf:=hsc.fz 0
     obtain ⟨a6,c6,e6⟩:=own_shape4 hrow
     rw [e6] at hrow hne
     have HF:Hid (AtN 24 W (w.heap.size+1+1) #[v,.int .i64 r]∧W.ownsRow w.heap.size 62 4 (.slice a6 (Y.length+1) c6) (Y.length+1) (nxV Y++nxC y)∧(Value.slice a6 (Y.length+1) c6).ownBlock≠some (w.heap.size+1+1)∧OwnNx W wr.heap.size y∧y.nd=N.nd):=⟨hsc,hrow,hne,hO,hy⟩
     clear hdep hoff hI HC hsc hrow hne hO hy
     go_simp
     exact hK undef _ (grown_set (grown_refl W _) 0 _) (fun V' h1 _=>by
      simp only [cpF]
      refine ⟨.slice a6 (Y.length+1) c6,y,HF.out.2.2.2.2,by simpa using AtN.set HF.out.1 0 (.slice a6 (Y.length+1) c6),own_set' HF.out.2.1 HF.out.2.2.1 _,HF.out.2.2.2.1.kept (grown_set (grown_refl W (some (w.heap.size+1+1))) 0 _) (fun k hk=>by cases hk;omega)⟩)
    ·exact absurd ho (by simp)
   case fin=>
    intro V W hG hF
    have f11:∃(v':Value) (y:Nx),y.nd=(X.getD i noNx).nd∧AtN 24 W (w.heap.size+1+1) #[v',.int .i64 r]∧W.ownsRow w.heap.size 62 4 v' (Y.length+1) (nxV Y++nxC y)∧OwnNx W wr.heap.size y:=hF 11 _ rfl (by decide)
    obtain ⟨v',y,hy,h1,h2,h3⟩:=f11
    have HK2:Hid (Mkg W w.heap.size (w.heap.size+1+1) r v' (Y++[y])):=HK.out.next hG h1 h2 (h3.mono HB.out.size)
    have HP2:Hid (Aprt (Y++[y])):=HP.out.snoc (B:=wr.heap.size) (fun j hj g hg=>((HK.out.each j hj).k.lt g hg).2) (fun g hg=>(h3.k.lt g hg).1)
    have hS:∀z,MkS (w.heap.size+1+1) v z→w.heap.size≤z:=fun z hz=>by
     rcases hz with hz|hz
     ·exact Hv.out.2.2 z hz
     ·omega
    have HB2:Hid (Below w.heap.size w W):=Fr.below HB.out hG hS HB.out.size
    have HA1':Hid (AtN 24 W w.heap.size #[.slice (some ⟨b,o,none⟩) X.length c,.int .i64 r]):=AtN.fr HA1.out hG (fun e=>by
     rcases e with e|e
     ·exact own_ne_at HK.out.row HA1.out (by decide) _ e rfl
     ·omega)
    have HA2':Hid (AtN 24 W (w.heap.size+1) #[.slice none 0 0,.int .i64 0]):=AtN.fr HA2.out hG (fun e=>by
     rcases e with e|e
     ·exact own_ne_at HK.out.row HA2.out (by decide) _ e rfl
     ·omega)
    have HM2:Hid ((Y++[y]).map Nx.nd=(X.take (i+1)).map Nx.nd):=map_nd_take X Y y i hlt HM.out hy
    have HL2:Hid ((Y++[y]).length=i+1):=by
     have h0:Y.length=i:=HL.out
     show (Y++[y]).length=i+1
     simp [h0]
    clear hF hG h1 h2 h3 hy HK HB HA1 HA2 HM HL HN HS hS Hv hgr
    simp only [fillA,Act.put,List.setIfInBounds_toArray,List.set_cons_zero,List.set_cons_succ]
    generalize V (some 15)=z15
    generalize V (some 16)=z16
    generalize V (some 17)=z17
    generalize V (some 18)=z18
    generalize V (some 19)=z19
    generalize V (some 20)=z20
    generalize V (some 21)=z21
    generalize V (some 22)=z22
    generalize V (some 23)=z23
    generalize V (some 24)=z24
    generalize V (some 25)=z25
    go_wp2_with fail
    go_roundw
    case rel=>exact ⟨i+1,v',Y++[y],by go_num,by omega,HM2,HL2,HA1',HA2',HK2,HP2,HB2⟩
    case measure=>simp [intOf];omega
  ·have hlt':¬(i:Int)<X.length:=by omega
   obtain ⟨ay,cy,rfl⟩:=own_shape4 HK.out.row
   have y0:wr.cell? ⟨w.heap.size+1+1,0,none⟩=some (.slice ay Y.length cy):=HK.out.sc.cell 0
   have y1:wr.cell? ⟨w.heap.size+1+1,1,none⟩=some (.int .i64 r):=HK.out.sc.cell 1
   have z0:wr.cell? ⟨w.heap.size+1,0,none⟩=some (.slice none 0 0):=HA2.out.cell 0
   have z1:wr.cell? ⟨w.heap.size+1,1,none⟩=some (.int .i64 0):=HA2.out.cell 1
   have f0:=HA2.out.fz 0
   have f1:=HA2.out.fz 1
   have hg1:=HA2.out.lt
   have HV:Hid (∀W,W=(wr.setCell ⟨w.heap.size+1,0,none⟩ (.slice ay Y.length cy)).setCell ⟨w.heap.size+1,1,none⟩ (.int .i64 r)→SCopyOut2 X r w W (.returned (.agg #[.slice ay Y.length cy,.int .i64 r]))∧AtN 24 W (w.heap.size+1) #[.slice ay Y.length cy,.int .i64 r]):=fun W hW=>by
    subst hW
    have hfr:Fr (fun z=>z=w.heap.size+1) wr ((wr.setCell ⟨w.heap.size+1,0,none⟩ (.slice ay Y.length cy)).setCell ⟨w.heap.size+1,1,none⟩ (.int .i64 r)):=((Fr.refl (fun z=>z=w.heap.size+1) wr).set ⟨w.heap.size+1,0,none⟩ rfl _).set ⟨w.heap.size+1,1,none⟩ rfl _
    have hal:Alien wr (fun z=>z=w.heap.size+1):=fun z hz _=>⟨_,_,_,hz ▸ HA2.out,by decide,by decide,by decide⟩
    have hrw:∀z,(Value.slice ay Y.length cy).ownBlock=some z→¬z=w.heap.size+1:=fun z hz e=>own_ne_at HK.out.row HA2.out (by decide) z hz e
    refine ⟨⟨Y,ay,cy,rfl,?_,own_fr HK.out.row hfr hrw,fun j hj=>(HK.out.each j hj).fr hfr hal,HP.out,Fr.below HB.out hfr (fun z e=>by omega) HB.out.size⟩,?_⟩
    ·have h0:Y.map Nx.nd=(X.take i).map Nx.nd:=HM.out
     rwa [List.take_of_length_le (by omega)] at h0
    ·have:=AtN.set (AtN.set HA2.out 0 (.slice ay Y.length cy)) 1 (.int .i64 r)
     simpa using this
   clear HM HL HA1 HA2 HK HB HS
   go_wp2_with fail
   obtain ⟨v1,v2⟩:=HV.out _ rfl
   have c0:=v2.cell 0
   have c1:=v2.cell 1
   have e0:(#[Value.slice ay Y.length cy,Value.int .i64 r]:Array Value)[0]? = some (.slice ay Y.length cy):=rfl
   have e1:(#[Value.slice ay Y.length cy,Value.int .i64 r]:Array Value)[1]? = some (.int .i64 r):=rfl
   rw [e0] at c0
   rw [e1] at c1
   exact bodyPost_ret (v:=.agg #[.slice ay Y.length cy,.int .i64 r]) (by simp [results,Tryz.results13,go_sem,c0,c1]) rfl v1
end Go.Proofs.YtcgjgjjegnofeaaGreatDoor
namespace Go.Proofs.YtcgjgjjegnofeaaGreatDoor
open Go.RowKit Go.Maps Go.WideMaps Go.Sort
section
variable {X:List Nx} {r:Int} {l:Lm} {d:Nat} {B:ByteArray} {e:Int}
theorem SvIs.bad (h:SvIs X r l B e) (he:e≠0):B=⟨#[]⟩:=by
 obtain ⟨d,n,z,h1,h2,h3⟩:=h
 rcases h3 with ⟨_,_,q⟩|⟨_,⟨_,_,q⟩|⟨_,q,_⟩⟩
 ·exact q
 ·exact q
 ·exact absurd q he
theorem SvIs.good (h:SvIs X r l B 0):okL l=true∧Whole X r∧(∃d,DepthIs X r d∧inL (meL X d) l=true)∧¬l.b<((cF X r).size:Int)∧B=cF X r:=by
 obtain ⟨d,n,z,h1,h2,h3⟩:=h
 rcases h3 with ⟨q1,q2,_⟩|⟨rfl,⟨_,q,_⟩|⟨q1,_,q3⟩⟩
 ·exact absurd q2.symm q1
 ·cases q
 ·obtain ⟨p1,p2,p3⟩:=va_whole h2
  exact ⟨p1,p2,⟨d,h1,p3⟩,q1,q3⟩
theorem in_parts (hi:inL (meL X d) l=true):(X.length:Int)≤l.n∧((edg X:Nat):Int)≤l.e∧((d:Nat):Int)≤l.d∧((txb X:Nat):Int)≤l.x:=by
 have hi2:=of_decide_eq_true (show decide (inP (meL X d) l)=true from hi)
 obtain ⟨_,i1,i2,i3,i4⟩:=hi2
 exact ⟨i1,i2,i3,i4⟩
theorem back_q (hS:Small X) (hf:X.length≤60) (hF:FnX X) (hW:Whole X r) (hd:DepthIs X r d) (ho:okL l=true) (hi:inL (meL X d) l=true) (hb:¬l.b<((cF X r).size:Int)) :
  ∀A C,ldK (cF X r) l=(0,A,C)→A.size≤1000000∧C.size≤4000000∧∀L,pGet6 A 16777216 l.x=(0,L)→Qn C L l:=by
 have hY:=bare_nd (cX X r)
 have hB:=(back_file hS hf hF hW hY hd ho hi hb).2
 have hz:=hB.size
 have hR:=can_ren hW.2 hY
 have hk:ldK (cF X r) l=(0,cA X r,cC X r):=ldK_put ho (by omega) (by omega) hb
 obtain ⟨j1,j2,j3,j4⟩:=in_parts hi
 intro A C hq
 rw [hk] at hq
 simp only [Prod.mk.injEq,true_and] at hq
 obtain ⟨rfl,rfl⟩:=hq
 refine ⟨hz.1,hz.2,fun L hL=>?_⟩
 have h5:txb (bare (cX X r))=txb X:=hR.txb
 have q:=hB.ks ho (by show ((txb (bare (cX X r)):Nat):Int)≤l.x;rw [h5];exact j4) (by rw [hR.len];exact j1) (by rw [hR.edg];exact j2)
 obtain ⟨_,_,_,_,L2,_,i2,_,_,_,_,i7⟩:=geK_inv (by rw [q])
 rw [i7] at q
 simp only [Prod.mk.injEq] at q
 rw [hL] at i2
 simp only [Prod.mk.injEq,true_and] at i2
 rw [i2,q.2.2]
 exact hB.qn (by omega)
theorem cF_small (ho:okL l=true) (hb:¬l.b<((cF X r).size:Int)):(cF X r).size≤16777216:=by
 have:=(okL_in ho).1.2
 omega
end
theorem pfback_any (X:List Nx) (r:Int) (l:Lm) (w:World) (d:Nat) (hT:Tabs12 w) (hS:Small X) (hf:X.length≤60) (hF:FnX X) (hW:Whole X r) (hd:DepthIs X r d) (ho:okL l=true) (hi:inL (meL X d) l=true) (hb:¬l.b<((cF X r).size:Int)) (hl:∀i,i<5→-9223372036854775808≤(lmL l).getD i 0∧(lmL l).getD i 0≤9223372036854775807) :
  Calls Tryz.prog 15 #[.string (cF X r),.agg #[.int .i64 l.b,.int .i64 l.n,.int .i64 l.e,.int .i64 l.d,.int .i64 l.x]] w fun e w'=>∃(Y:List Nx) (a:Option Addr) (c:Nat),e=.returned (.tuple #[.agg #[.slice a Y.length c,.int .i64 ((X.length:Int)-1)],.int .i64 0])∧Y.map Nx.nd=cX X r∧ScAt w' a Y∧Small Y∧Below w.heap.size w w':=by
 refine Calls.mono (pfload_any (cF X r) l w hT (by have:=cF_small ho hb;omega) (back_q hS hf hF hW hd ho hi hb) hl) ?_
 rintro e w' ⟨Y,a,c,s,k,rfl,h1,h2,h3,_,h4⟩
 obtain ⟨hY,rfl,rfl⟩:=(back_file hS hf hF hW (bare_nd (cX X r)) hd ho hi hb).1.uniq h1
 exact ⟨Y,a,c,rfl,by rw [hY,bare_nd],h2 w' (Fr.refl _ _),h3,h4⟩
end Go.Proofs.YtcgjgjjegnofeaaGreatDoor
namespace Go.Proofs.YtcgjgjjegnofeaaGreatDoor
open Go.RowKit Go.Maps Go.WideMaps Go.Sort
section
variable {X:List Nx} {r:Int} {l:Lm} {d:Nat}
theorem can_few (hS:Small X) (hf:X.length≤60) (hF:FnX X) (hW:Whole X r):(cA X r).size≤1000000∧(cC X r).size≤2000000:=by
 have hB:=(bk_of hS hf hF hW (bare_nd (cX X r)) (pu_can hW (bare_nd (cX X r)))).2
 refine ⟨hB.size.1,?_⟩
 have hfw:=hB.few
 have h1:=hB.sz
 have h3:=put_length (bare (cX X r)).length
 have h4:=rAllN_len ((bare (cX X r)).map Nx.nd) 0 [] (fun N q=>by
  obtain ⟨x,hx,rfl⟩:=List.mem_map.1 q
  obtain ⟨i,hi,rfl⟩:=List.getElem_of_mem hx
  have e:(bare (cX X r))[i]=(bare (cX X r)).getD i noNx:=by rw [List.getD_eq_getElem?_getD,List.getElem?_eq_getElem hi];rfl
  rw [e]
  exact hB.sm.2 i hi)
 rw [List.length_map] at h4
 omega
theorem cF_sizes (hS:Small X) (hf:X.length≤60) (hF:FnX X) (hW:Whole X r):5≤(cF X r).size∧(cF X r).size≤16777216:=by
 obtain ⟨h1,h2⟩:=can_few hS hf hF hW
 have h3:=pPut_length mD 2 (secs2 (cA X r) (cC X r)) 2000000 (fun s hs=>by
  simp only [secs2,List.mem_cons,List.not_mem_nil,or_false] at hs
  rcases hs with rfl|rfl
  ·show (cA X r).size≤2000000;omega
  ·show (cC X r).size≤2000000;omega)
 have h4:=(pPut_ok mD 2 (secs2 (cA X r) (cC X r)) (secs2_put (by omega) (by omega))).2.2.2.2.2
 have h5:(cF X r).size=(pPut mD 2 (secs2 (cA X r) (cC X r))).1.length:=by rw [← list_size];unfold cF;rw [List.toList_toArray]
 have h6:=congrArg List.length h4
 rw [List.length_append,List.length_cons] at h6
 have h7:mD.data.toList.length=4:=rfl
 omega
theorem me_few (hS:Small X) (hf:X.length≤60) (hF:FnX X) (hW:Whole X r) (hd:DepthIs X r d):edg X≤180000∧d≤60∧txb X≤16777216:=by
 have hB:=(bk_of hS hf hF hW (bare_nd (cX X r)) (pu_can hW (bare_nd (cX X r)))).2
 have hR:=can_ren hW.2 (bare_nd (cX X r))
 have e2:edg (bare (cX X r))=edg X:=hR.edg
 have e3:txb (bare (cX X r))=txb X:=hR.txb
 have h1:=hB.edg
 have h2:=hB.tab.2.2.2
 refine ⟨by omega,?_,by rw [← e3];exact h2⟩
 obtain ⟨h,_,h2,h3⟩:=hd.2 hW.2
 have hr:=hW.2.1
 have:=of_decide_eq_true (show decide (0≤r∧r<X.length)=true from hr)
 have:=(h3 r.toNat (by omega)).2
 omega
def meB (X:List Nx) (d:Nat) (b:Int):Lm:=⟨b,X.length,(edg X:Nat),(d:Nat),(txb X:Nat)⟩
theorem meB_in {b:Int} (hb:0≤b):inL (meL X d) (meB X d b)=true:=
 decide_eq_true ⟨by show (0:Int)≤b;exact hb,Int.le_refl _,Int.le_refl _,Int.le_refl _,Int.le_refl _⟩
theorem meB_ok {b:Int} (h1:X.length≤60) (h2:edg X≤180000∧d≤60∧txb X≤16777216) (hb:0≤b∧b≤16777216):okL (meB X d b)=true:=decide_eq_true ⟨hb,⟨by show (0:Int)≤X.length;omega,by show (X.length:Int)≤16777216;omega⟩,⟨by show (0:Int)≤(edg X:Nat);omega,by show ((edg X:Nat):Int)≤16777216;omega⟩,⟨by show (0:Int)≤(d:Nat);omega,by show ((d:Nat):Int)≤16777216;omega⟩,⟨by show (0:Int)≤(txb X:Nat);omega,by show ((txb X:Nat):Int)≤16777216;omega⟩⟩
theorem okl_rg (h:okL l=true):∀i,i<5→-9223372036854775808≤(lmL l).getD i 0∧(lmL l).getD i 0≤9223372036854775807:=fun i hi=>by
 obtain ⟨h1,h2,h3,h4,h5⟩:=okL_in h
 rcases five_cases hi with rfl|rfl|rfl|rfl|rfl
 ·show -9223372036854775808≤l.b∧l.b≤9223372036854775807;omega
 ·show -9223372036854775808≤l.n∧l.n≤9223372036854775807;omega
 ·show -9223372036854775808≤l.e∧l.e≤9223372036854775807;omega
 ·show -9223372036854775808≤l.d∧l.d≤9223372036854775807;omega
 ·show -9223372036854775808≤l.x∧l.x≤9223372036854775807;omega
theorem sv_make {l:Lm} (ho:okL l=true) (hW:Whole X r) (hd:DepthIs X r d) (hi:inL (meL X d) l=true) (hb:¬l.b<((cF X r).size:Int)):SvIs X r l (cF X r) 0:=
 ⟨d,0,0,hd,va_good ho hW hi,.inr ⟨rfl,.inr ⟨hb,rfl,rfl⟩⟩⟩
theorem sv_less {l:Lm} (ho:okL l=true) (hW:Whole X r) (hd:DepthIs X r d) (hi:inL (meL X d) l=true) (hb:l.b<((cF X r).size:Int)):SvIs X r l ⟨#[]⟩ 19:=
 ⟨d,0,0,hd,va_good ho hW hi,.inr ⟨rfl,.inl ⟨hb,rfl,rfl⟩⟩⟩
end
end Go.Proofs.YtcgjgjjegnofeaaGreatDoor
namespace Go.Proofs.YtcgjgjjegnofeaaGreatDoor
open Go.RowKit Go.Maps Go.WideMaps Go.Sort
def trn (n:Nat) (z:Int):Int:=wrap64 ((n:Int)-1-z)
theorem trn_place {n:Nat} {z:Int} (hn:n≤1401) (h:isPb n z=true):isPb n (trn n z)=true∧trn n z=((n-1-z.toNat:Nat):Int):=by
 have h1:=isPb_iff.1 h
 have h2:trn n z=(n:Int)-1-z:=by
  unfold trn
  rw [IntWalk.wrap64_in _ (by omega)]
 refine ⟨isPb_iff.2 ?_,?_⟩ <;> rw [h2] <;> omega
def trnNd (n:Nat) (N:Nd):Nd:=⟨N.kind,N.ints,N.texts,N.kids.map (trn n)⟩
def STurnOut (X:List Nx) (r:Int) (w w':World) (e:Ending):Prop:=∃T a c,e=.returned (.agg #[.slice a (List.length T) c,.int .i64 (trn X.length r)])∧T.length=X.length∧(∀j,j<X.length→(T.getD j noNx).nd=trnNd X.length (X.getD (X.length-1-j) noNx).nd)∧ScAt w' a T∧Below w.heap.size w w'
def tk (n:Nat) (l:List Int) (k:Nat):List Int:=(l.take k).map (trn n)++l.drop k
theorem tk_zero (n:Nat) (l:List Int):tk n l 0=l:=by simp [tk]
theorem tk_all (n:Nat) (l:List Int):tk n l l.length=l.map (trn n):=by simp [tk]
theorem tk_at (n:Nat) (l:List Int) (k:Nat) (h:k<l.length):(iV (tk n l k))[k]? = some (.int .i64 (l.getD k 0)):=by
 have h1:(tk n l k)[k]? = some (l.getD k 0):=by
  unfold tk
  rw [List.getElem?_append_right (by simp;omega)]
  simp [h,Nat.min_eq_left (Nat.le_of_lt h)]
 unfold iV
 rw [List.getElem?_map,h1]
 rfl
theorem tk_set (n:Nat) (l:List Int) (k:Nat) (h:k<l.length):(iV (tk n l k)).set k (.int .i64 (trn n (l.getD k 0)))=iV (tk n l (k+1)):=by
 have h1:(tk n l k).set k (trn n (l.getD k 0))=tk n l (k+1):=by
  unfold tk
  have hm:((l.take k).map (trn n)).length=k:=by simp;omega
  rw [List.set_append_right _ _ (by omega),hm,Nat.sub_self,List.take_add_one,List.getD_eq_getElem?_getD,List.getElem?_eq_getElem h,show l.drop k=l[k] :: l.drop (k+1) from List.drop_eq_getElem_cons h,List.map_append,List.append_assoc]
  rfl
 rw [← h1]
 unfold iV
 rw [List.map_set]
structure Tg (w:World) (B g:Nat) (N:Nd) (n k:Nat) (a1 a2 a3:Option Addr) (c1 c2 c3:Nat):Prop where
 nd:AtN 62 w g #[.int .i64 N.kind,.slice a1 N.ints.length c1,.slice a2 N.texts.length c2,.slice a3 N.kids.length c3]
 i:w.ownsRow B 2 1 (.slice a1 N.ints.length c1) N.ints.length (iV N.ints)
 t:w.ownsRow B 9 1 (.slice a2 N.texts.length c2) N.texts.length (tV N.texts)
 k:w.ownsRow B 3 1 (.slice a3 N.kids.length c3) N.kids.length (iV (tk n N.kids k))
theorem Tg.drew {w:World} {B g:Nat} {N:Nd} {n k:Nat} {a1 a2 a3:Option Addr} {c1 c2 c3:Nat} (h:Tg w B g N n k a1 a2 a3 c1 c2 c3):Tg w.drew B g N n k a1 a2 a3 c1 c2 c3:=⟨h.nd,h.i,h.t,h.k⟩
theorem Tg.next {w:World} {B g:Nat} {N:Nd} {n k:Nat} {a1 a2 a3:Option Addr} {c1 c2 c3:Nat} (h:Tg w B g N n k a1 a2 a3 c1 c2 c3) (hk:k<N.kids.length):∃q,a3=some ⟨q,0,none⟩∧w.cell? ⟨q,k,none⟩=some (.int .i64 (N.kids.getD k 0))∧w.frozen? ⟨q,k,none⟩=false∧B≤q∧q<w.heap.size∧
  Tg (w.setCell ⟨q,k,none⟩ (.int .i64 (trn n (N.kids.getD k 0)))) B g N n (k+1) a1 a2 a3 c1 c2 c3:=by
 obtain ⟨q,rfl,h1,h2,h3,h4,h5⟩:=own_store9 h.k k hk
 have hq:(Value.slice (some ⟨q,0,none⟩) N.kids.length c3).ownBlock=some q:=rfl
 refine ⟨q,rfl,by rw [h1,tk_at n N.kids k hk],h2,h3,h4,?_,?_,?_,?_⟩
 ·exact h.nd.setOther _ (fun e=>own_ne_at h.k h.nd (by decide) q hq e) _
 ·exact own_set h.i _ (fun r hr e=>own_apart9 h.k h.i (by decide) hq (by rw [hr];exact congrArg some e)) _
 ·exact own_set h.t _ (fun r hr e=>own_apart9 h.k h.t (by decide) hq (by rw [hr];exact congrArg some e)) _
 ·have:=h5 (.int .i64 (trn n (N.kids.getD k 0)))
  rwa [tk_set n N.kids k hk] at this
def trnNx (n:Nat) (N:Nd) (a1 a2 a3:Option Addr) (c1 c2 c3:Nat):Nx:=⟨trnNd n N,a1,c1,a2,c2,a3,c3⟩
theorem Tg.own {w:World} {B g:Nat} {N:Nd} {n:Nat} {a1 a2 a3:Option Addr} {c1 c2 c3:Nat} (h:Tg w B g N n N.kids.length a1 a2 a3 c1 c2 c3):OwnNx w B (trnNx n N a1 a2 a3 c1 c2 c3):=by
 refine ⟨h.i,h.t,?_⟩
 have:=h.k
 rw [tk_all] at this
 simpa [trnNx,trnNd] using this
theorem trnNx_cells (n:Nat) (N:Nd) (a1 a2 a3:Option Addr) (c1 c2 c3:Nat):nxC (trnNx n N a1 a2 a3 c1 c2 c3)=[.int .i64 N.kind,.slice a1 N.ints.length c1,.slice a2 N.texts.length c2,.slice a3 N.kids.length c3]:=by simp [nxC,trnNx,trnNd]
set_option maxRecDepth 10000 in
set_option maxHeartbeats 1000000 in
theorem sturn_any (X:List Nx) (a:Option Addr) (c:Nat) (r:Int) (w:World) (h:ScAt w a X) (hX:Small X) :
  Calls Tryz.prog 22 #[.agg #[.slice a X.length c,.int .i64 r]] w fun e w'=>STurnOut X r w w' e:=by
 obtain ⟨i0,hi,hz0,hz1,hz2⟩:=info_parts Tryz.infoD9
 have hn:=hX.1
 have HS:Hid (ScAt w a X∧Small X):=⟨h,hX⟩
 clear h hX
 have HA:Hid (∀(r':Int) (o1 o2 o3:Obj),o1=.cells #[.slice a X.length c,.int .i64 r] 24→o2=.cells #[.slice none 0 0,.int .i64 0] 24→o3=.cells #[.slice none 0 0,.int .i64 r'] 24→AtN 24 (((w.alloc o1).alloc o2).alloc o3) w.heap.size #[.slice a X.length c,.int .i64 r]∧AtN 24 (((w.alloc o1).alloc o2).alloc o3) (w.heap.size+1) #[.slice none 0 0,.int .i64 0]∧Mkg (((w.alloc o1).alloc o2).alloc o3) w.heap.size (w.heap.size+1+1) r' (.slice none 0 0) []∧Below w.heap.size w (((w.alloc o1).alloc o2).alloc o3)):=by
  rintro _ _ _ _ rfl rfl rfl
  refine ⟨((AtN.new w 24 _).alloc _).alloc _,(mk_at (AtN.new (w.alloc _) 24 _) (show _=w.heap.size+1 by simp)).alloc _,⟨mk_at (AtN.new ((w.alloc _).alloc _) 24 _) (show _=w.heap.size+1+1 by simp),⟨rfl,.inl ⟨rfl,rfl⟩⟩,fun j hj=>by simp at hj⟩,(((Below.refl w.heap.size w).alloc (Nat.le_refl _) _).alloc (by simp) _).alloc (by simp;omega) _⟩
 go_enter Tryz.func22,Tryz.ntmps22
 go_wp2_with fail
 go_loopw [5] (fun iv wr=>∃(i:Nat) (z:Int) (v:Value) (Y:List Nx),iv=.int .i64 z∧z=(i:Int)-1∧i≤X.length∧Hid (∀j,j<Y.length→(Y.getD j noNx).nd=trnNd X.length (X.getD (X.length-1-j) noNx).nd)∧Hid (Y.length+i=X.length)∧Hid (AtN 24 wr w.heap.size #[.slice a X.length c,.int .i64 r])∧Hid (AtN 24 wr (w.heap.size+1) #[.slice none 0 0,.int .i64 0])∧Hid (Mkg wr w.heap.size (w.heap.size+1+1) (trn X.length r) v Y)∧Hid (Below w.heap.size w wr)) (fun iv _=>(intOf iv+1).toNat)
 case atStart=>
  obtain ⟨h1,h2,h3,h4⟩:=HA.out _ _ _ _ rfl rfl rfl
  exact ⟨X.length,_,.slice none 0 0,[],rfl,rfl,by omega,(by intro j hj;simp at hj),(by simp [Hid]),h1,h2,h3,h4⟩
 case round=>
  clear HA
  obtain ⟨i,z,v,Y,rfl,hz,hi',HM,HL,HA1,HA2,HK,HB⟩:=hrel
  have x0:wr.cell? ⟨w.heap.size,0,none⟩=some (.slice a X.length c):=HA1.out.cell 0
  cases i with
  | zero=>
   obtain rfl:z = -1:=by omega
   clear hz
   obtain ⟨ay,cy,rfl⟩:=own_shape4 HK.out.row
   have y0:wr.cell? ⟨w.heap.size+1+1,0,none⟩=some (.slice ay Y.length cy):=HK.out.sc.cell 0
   have y1:wr.cell? ⟨w.heap.size+1+1,1,none⟩=some (.int .i64 (trn X.length r)):=HK.out.sc.cell 1
   have z0:wr.cell? ⟨w.heap.size+1,0,none⟩=some (.slice none 0 0):=HA2.out.cell 0
   have z1:wr.cell? ⟨w.heap.size+1,1,none⟩=some (.int .i64 0):=HA2.out.cell 1
   have f0:=HA2.out.fz 0
   have f1:=HA2.out.fz 1
   have hg1:=HA2.out.lt
   have HV:Hid (∀W,W=(wr.setCell ⟨w.heap.size+1,0,none⟩ (.slice ay Y.length cy)).setCell ⟨w.heap.size+1,1,none⟩ (.int .i64 (trn X.length r))→STurnOut X r w W (.returned (.agg #[.slice ay Y.length cy,.int .i64 (trn X.length r)]))∧AtN 24 W (w.heap.size+1) #[.slice ay Y.length cy,.int .i64 (trn X.length r)]):=fun W hW=>by
    subst hW
    have hfr:Fr (fun z=>z=w.heap.size+1) wr ((wr.setCell ⟨w.heap.size+1,0,none⟩ (.slice ay Y.length cy)).setCell ⟨w.heap.size+1,1,none⟩ (.int .i64 (trn X.length r))):=((Fr.refl (fun z=>z=w.heap.size+1) wr).set ⟨w.heap.size+1,0,none⟩ rfl _).set ⟨w.heap.size+1,1,none⟩ rfl _
    have hal:Alien wr (fun z=>z=w.heap.size+1):=fun z hz _=>⟨_,_,_,hz ▸ HA2.out,by decide,by decide,by decide⟩
    have hrw:∀z,(Value.slice ay Y.length cy).ownBlock=some z→¬z=w.heap.size+1:=fun z hz e=>own_ne_at HK.out.row HA2.out (by decide) z hz e
    have hl:Y.length=X.length:=HL.out
    refine ⟨⟨Y,ay,cy,rfl,hl,fun j hj=>HM.out j (by omega),⟨LsAt.of_own4' (own_fr HK.out.row hfr hrw),fun j hj=>((HK.out.each j hj).fr hfr hal).ndAt⟩,Fr.below HB.out hfr (fun z e=>by omega) HB.out.size⟩,?_⟩
    have:=AtN.set (AtN.set HA2.out 0 (.slice ay Y.length cy)) 1 (.int .i64 (trn X.length r))
    simpa using this
   generalize trn X.length r=rr at *
   clear HM HL HA1 HA2 HK HB HS
   go_wp2_with fail
   obtain ⟨v1,v2⟩:=HV.out _ rfl
   have c0:=v2.cell 0
   have c1:=v2.cell 1
   have e0:(#[Value.slice ay Y.length cy,Value.int .i64 rr]:Array Value)[0]? = some (.slice ay Y.length cy):=rfl
   have e1:(#[Value.slice ay Y.length cy,Value.int .i64 rr]:Array Value)[1]? = some (.int .i64 rr):=rfl
   rw [e0] at c0
   rw [e1] at c1
   exact bodyPost_ret (v:=.agg #[.slice ay Y.length cy,.int .i64 rr]) (by simp [results,Tryz.results22,go_sem,c0,c1]) rfl v1
  | succ i=>
   obtain rfl:z=(i:Int):=by omega
   clear hz
   obtain ⟨u,hu⟩:∃u,u=wr:=⟨_,rfl⟩
   subst hu
   have hlt:i<X.length:=by omega
   have hlt':(i:Int)<X.length:=by omega
   obtain ⟨b,o,ea,hbl,d0,d1,d2,d3⟩:=(ScAt.belowB HS.out.1 HB.out).node hlt
   subst ea
   have hgr:=big_no (HS.out.2.2 i hlt)
   have HC:Hid (Calls Tryz.prog 34 #[.agg #[.int .i64 (X.getD i noNx).nd.kind,.slice (X.getD i noNx).a1 (X.getD i noNx).nd.ints.length (X.getD i noNx).c1,.slice (X.getD i noNx).a2 (X.getD i noNx).nd.texts.length (X.getD i noNx).c2,.slice (X.getD i noNx).a3 (X.getD i noNx).nd.kids.length (X.getD i noNx).c3]] u fun e w'=>NdOut u w' e (X.getD i noNx).nd):=rcopy_any (X.getD i noNx).nd (X.getD i noNx).a1 (X.getD i noNx).a2 (X.getD i noNx).a3 (X.getD i noNx).c1 (X.getD i noNx).c2 (X.getD i noNx).c3 u ((ScAt.belowB HS.out.1 HB.out).each i hlt) hgr.1 hgr.2.1 hgr.2.2.1
   have HX:Hid (∀y:Nx,y.nd=trnNd X.length (X.getD i noNx).nd→∀j,j<(Y++[y]).length→((Y++[y]).getD j noNx).nd=trnNd X.length (X.getD (X.length-1-j) noNx).nd):=fun y hy j hj=>by
    have hl:Y.length+(i+1)=X.length:=HL.out
    by_cases hjl:j<Y.length
    ·rw [show (Y++[y]).getD j noNx=Y.getD j noNx by rw [List.getD_eq_getElem?_getD,List.getElem?_append_left hjl,← List.getD_eq_getElem?_getD]]
     exact HM.out j hjl
    ·obtain rfl:j=Y.length:=by simp at hj;omega
     rw [show (Y++[y]).getD Y.length noNx=y by simp,hy,show X.length-1-Y.length=i by omega]
   have hYl:Y.length≤1401:=by have hl:Y.length+(i+1)=X.length:=HL.out;omega
   have HL2:Hid (∀y:Nx,(Y++[y]).length+i=X.length):=fun y=>by have hl:Y.length+(i+1)=X.length:=HL.out;simp;omega
   have hsz:w.heap.size+1+1<u.heap.size:=HK.out.sc.lt
   have Hv:Hid (v.ownBlock≠some (w.heap.size+1+1)∧(∀k,v.ownBlock=some k→k<u.heap.size)∧∀k,v.ownBlock=some k→w.heap.size≤k):=⟨HK.out.ne,fun k hk=>(HK.out.row.lt k hk).2,fun k hk=>(HK.out.row.lt k hk).1⟩
   have hk3:=hgr.2.2.1
   generalize X.getD i noNx=N at *
   clear HM HL hgr HS
   go_wp2_with fail
   refine Calls.mono HC.out ?_
   rintro e wq ⟨a1,c1,a2,c2,a3,c3,rfl,hO,hb⟩
   have HT0:Hid (Tg (wq.alloc (.cells #[.int .i64 N.nd.kind,.slice a1 N.nd.ints.length c1,.slice a2 N.nd.texts.length c2,.slice a3 N.nd.kids.length c3] 62)) u.heap.size wq.heap.size N.nd X.length 0 a1 a2 a3 c1 c2 c3):=⟨AtN.new wq 62 _,hO.i.alloc _,hO.t.alloc _,by rw [tk_zero];exact hO.k.alloc _⟩
   have HB0:Hid (Below u.heap.size u (wq.alloc (.cells #[.int .i64 N.nd.kind,.slice a1 N.nd.ints.length c1,.slice a2 N.nd.texts.length c2,.slice a3 N.nd.kids.length c3] 62))):=hb.alloc hb.size _
   clear hO hb HC d0 d1 d2 d3 x0 hbl
   go_wp2_with fail
   go_loopw [7] (fun kv w2=>∃k:Nat,kv=.int .i64 k∧k≤N.nd.kids.length∧Hid (Tg w2 u.heap.size wq.heap.size N.nd X.length k a1 a2 a3 c1 c2 c3)∧Hid (Below u.heap.size u w2)) (fun kv _=>N.nd.kids.length-(intOf kv).toNat)
   case atStart=>exact ⟨0,rfl,by omega,HT0,HB0⟩
   case round=>
    clear HT0 HB0
    obtain ⟨k,rfl,hk,HT,HB2⟩:=hrel
    have y3:wr.cell? ⟨wq.heap.size,3,none⟩=some (.slice a3 N.nd.kids.length c3):=HT.out.nd.cell 3
    by_cases hkl:k<N.nd.kids.length
    ·have hkl':(k:Int)<N.nd.kids.length:=by omega
     obtain ⟨q,rfl,e1,e2,e3,e4,hT2⟩:=HT.out.next hkl
     have HT2:Hid (Tg ((wr.setCell ⟨q,k,none⟩ (.int .i64 (trn X.length (N.nd.kids.getD k 0)))).drew) u.heap.size wq.heap.size N.nd X.length (k+1) a1 a2 (some ⟨q,0,none⟩) c1 c2 c3∧Below u.heap.size u ((wr.setCell ⟨q,k,none⟩ (.int .i64 (trn X.length (N.nd.kids.getD k 0)))).drew)):=⟨hT2.drew,(HB2.out.setCell (p:=⟨q,k,none⟩) e3 _).drew⟩
     generalize N.nd.kids.getD k 0=kd at *
     clear HT HB2 hT2 HK HA1 HA2 HB HX HL2 Hv
     go_wp2_with fail
     go_region
     go_wp2_with fail
     go_roundw
     case rel=>exact ⟨k+1,by go_num,by omega,HT2.out.1,HT2.out.2⟩
     case measure=>simp [intOf];omega
    ·have hkl':¬(k:Int)<N.nd.kids.length:=by omega
     obtain rfl:k=N.nd.kids.length:=by omega
     have y0:wr.cell? ⟨wq.heap.size,0,none⟩=some (.int .i64 N.nd.kind):=HT.out.nd.cell 0
     have y1:wr.cell? ⟨wq.heap.size,1,none⟩=some (.slice a1 N.nd.ints.length c1):=HT.out.nd.cell 1
     have y2:wr.cell? ⟨wq.heap.size,2,none⟩=some (.slice a2 N.nd.texts.length c2):=HT.out.nd.cell 2
     have HKr:Hid (Mkg wr w.heap.size (w.heap.size+1+1) (trn X.length r) v Y):=HK.out.below HB2.out
     have x0:wr.cell? ⟨w.heap.size+1+1,0,none⟩=some v:=HKr.out.sc.cell 0
     have HO:Hid (OwnNx wr u.heap.size (trnNx X.length N.nd a1 a2 a3 c1 c2 c3)):=HT.out.own
     have HAr:Hid (AtN 24 wr w.heap.size #[.slice (some ⟨b,o,none⟩) X.length c,.int .i64 r]∧AtN 24 wr (w.heap.size+1) #[.slice none 0 0,.int .i64 0]):=⟨AtN.belowAll HA1.out HB2.out,AtN.belowAll HA2.out HB2.out⟩
     have HBr:Hid (Below w.heap.size w wr):=HB.out.trans (HB2.out.mono HB.out.size)
     have hszr:=HB2.out.size
     have HY:Hid ((trnNx X.length N.nd a1 a2 a3 c1 c2 c3).nd=trnNd X.length N.nd∧nxC (trnNx X.length N.nd a1 a2 a3 c1 c2 c3)=[.int .i64 N.nd.kind,.slice a1 N.nd.ints.length c1,.slice a2 N.nd.texts.length c2,.slice a3 N.nd.kids.length c3]):=⟨rfl,trnNx_cells _ _ _ _ _ _ _ _⟩
     clear HT HB2 HK HA1 HA2 HB
     obtain ⟨av,cv,rfl⟩:=own_shape4 HKr.out.row
     generalize trnNx X.length N.nd a1 a2 a3 c1 c2 c3=yn at *
     go_wp2_with (at_builtin;refine wpList_append_lies _ rfl (.tmp 49) (.tmp 51) 22 rfl w.heap.size 62 i0 (.agg #[.int .i64 0,.slice none 0 0,.slice none 0 0,.slice none 0 0]) 4 80 Tryz.underlying22 hi hz0 hz1 hz2 rfl (by decide) _ Y.length (nxV Y) rfl (HKr.out.row.alloc _) ⟨wr.heap.size,0,none⟩ 1 1 [.int .i64 N.nd.kind,.slice a1 N.nd.ints.length c1,.slice a2 N.nd.texts.length c2,.slice a3 N.nd.kids.length c3] rfl rfl (fun j z hz=>World.news_of_block (AtN.new wr 62 _) j z (by simpa using hz)) (by intro z hz;simp at hz;rcases hz with rfl|rfl|rfl|rfl <;> rfl) (by decide) (by unfold maxLen;omega) (by omega) (by simp;omega) _ rfl ?_)
     intro g2 cap2 w4 hown4 hgrow4 hlie hlt4
     have hAw:AtN 24 w4 (w.heap.size+1+1) #[.slice av Y.length cv,.int .i64 (trn X.length r)]:=(HKr.out.sc.alloc _).kept hgrow4 (fun e=>Hv.out.1 e.symm)
     have x4:w4.cell? ⟨w.heap.size+1+1,0,none⟩=some (.slice av Y.length cv):=hAw.cell 0
     have f4:=hAw.fz 0
     have hfr:Fr (MkS (w.heap.size+1+1) (.slice av Y.length cv)) wr (w4.setCell ⟨w.heap.size+1+1,0,none⟩ (.slice (some ⟨g2,0,none⟩) (Y.length+1) cap2)):=(((Fr.refl (MkS (w.heap.size+1+1) (.slice av Y.length cv)) wr).alloc _).trans (Fr.of_grown hgrow4 (fun q e=>.inl e)) (fun i hi _=>hi)).set ⟨w.heap.size+1+1,0,none⟩ (.inr rfl) _
     have hne:(Value.slice (some ⟨g2,0,none⟩) (Y.length+1) cap2).ownBlock≠some (w.heap.size+1+1):=by
      intro q
      simp only [Value.ownBlock,Option.some.injEq] at q
      rcases hlie with p|p
      ·rw [q] at p;exact Hv.out.1 p
      ·first|omega|(simp at p;omega)
     have hOw:OwnNx w4 u.heap.size yn:=OwnNx.kept (OwnNx.kept HO.out (World.grownBy_alloc wr _ none) (by simp)) hgrow4 Hv.out.2.1
     have HK5:Hid (Mkg (w4.setCell ⟨w.heap.size+1+1,0,none⟩ (.slice (some ⟨g2,0,none⟩) (Y.length+1) cap2)) w.heap.size (w.heap.size+1+1) (trn X.length r) (.slice (some ⟨g2,0,none⟩) (Y.length+1) cap2) (Y++[yn])):=by
      refine HKr.out.next hfr (by simpa using AtN.set hAw 0 (.slice (some ⟨g2,0,none⟩) (Y.length+1) cap2)) ?_ (OwnNx.mono (hOw.kept (grown_set (grown_refl w4 (some (w.heap.size+1+1))) 0 _) (fun k hk=>by cases hk;omega)) (by omega))
      rw [HY.out.2]
      exact own_set' hown4 hne _
     have hS:∀z,MkS (w.heap.size+1+1) (.slice av Y.length cv) z→w.heap.size≤z:=fun z hz=>by
      rcases hz with hz|hz
      ·exact Hv.out.2.2 z hz
      ·omega
     have HB5:Hid (Below w.heap.size w (w4.setCell ⟨w.heap.size+1+1,0,none⟩ (.slice (some ⟨g2,0,none⟩) (Y.length+1) cap2))):=Fr.below HBr.out hfr hS HBr.out.size
     have HA5:Hid (AtN 24 (w4.setCell ⟨w.heap.size+1+1,0,none⟩ (.slice (some ⟨g2,0,none⟩) (Y.length+1) cap2)) w.heap.size #[.slice (some ⟨b,o,none⟩) X.length c,.int .i64 r]):=AtN.fr HAr.out.1 hfr (fun e=>by
      rcases e with e|e
      ·exact own_ne_at HKr.out.row HAr.out.1 (by decide) _ e rfl
      ·omega)
     have HA6:Hid (AtN 24 (w4.setCell ⟨w.heap.size+1+1,0,none⟩ (.slice (some ⟨g2,0,none⟩) (Y.length+1) cap2)) (w.heap.size+1) #[.slice none 0 0,.int .i64 0]):=AtN.fr HAr.out.2 hfr (fun e=>by
      rcases e with e|e
      ·exact own_ne_at HKr.out.row HAr.out.2 (by decide) _ e rfl
      ·omega)
     have HX5:=HX.out yn HY.out.1
     have HX6:Hid (∀j,j<(Y++[yn]).length→((Y++[yn]).getD j noNx).nd=trnNd X.length (X.getD (X.length-1-j) noNx).nd):=HX5
     have HL5:Hid ((Y++[yn]).length+i=X.length):=HL2.out yn
     clear hown4 hgrow4 hlie hAw hfr hne hOw hS HX5 HX HL2 HKr HO HAr HBr HY Hv y0 y1 y2 y3 x0
     go_wp2_with fail
     go_roundw
     case rel=>exact ⟨i,_,_,Y++[yn],rfl,by omega,by omega,HX6,HL5,HA5,HA6,HK5,HB5⟩
     case measure=>simp [intOf]
theorem turn_ren {X T:List Nx} {r:Int} (hX:Small X) (hR:RightIs X r) (hl:T.length=X.length) (hn:∀j,j<X.length→(T.getD j noNx).nd=trnNd X.length (X.getD (X.length-1-j) noNx).nd):Ren X T (fun i=>X.length-1-i)∧trn X.length r=((X.length-1-r.toNat:Nat):Int):=by
 refine ⟨⟨⟨fun i hi=>by omega,fun i j hi hj e=>by omega⟩,hl,fun i hi=>?_⟩,(trn_place hX.1 hR.1).2⟩
 rw [hn (X.length-1-i) (by omega),show X.length-1-(X.length-1-i)=i by omega]
 unfold trnNd renNd
 congr 1
 refine List.map_congr_left fun z hz=>?_
 have:=kid_place hR.2.1 hi hz
 exact (trn_place hX.1 (isPb_iff.2 (by omega))).2
end Go.Proofs.YtcgjgjjegnofeaaGreatDoor
