import Derived.Test.YtgoffkfpdigeeaaGreatDoorP28
import Derived.Test.YtgoffkfpdigeeaaGreatDoorP02
import Derived.Test.YtgoffkfpdigeeaaGreatDoorP20
import Derived.Test.YtgoffkfpdigeeaaGreatDoorP18
import Derived.Test.YtgoffkfpdigeeaaGreatDoorP25
namespace Go.Proofs.YtgoffkfpdigeeaaGreatDoor
open Go.RowKit Go.Maps Go.WideMaps Go.Sort
theorem Aprt.nil:Aprt []:=fun i j _ h=>by simp at h
theorem getD_snocN (Y:List Nx) (y:Nx) (j:Nat) (h:j<Y.length):(Y++[y]).getD j noNx=Y.getD j noNx:=by rw [List.getD_eq_getElem?_getD,List.getElem?_append_left h,← List.getD_eq_getElem?_getD]
theorem Aprt.snoc {Y:List Nx} {y:Nx} {B:Nat} (h:Aprt Y) (h1:∀j,j<Y.length→∀g,kidB (Y.getD j noNx)=some g→g<B) (h2:∀g,kidB y=some g→B≤g):Aprt (Y++[y]):=by
 intro i j hij hj g hi hjg
 by_cases hl:j<Y.length
 ·rw [getD_snocN Y y j hl] at hjg
  rw [getD_snocN Y y i (by omega)] at hi
  exact h i j hij hl g hi hjg
 ·obtain rfl:j=Y.length:=by simp at hj;omega
  rw [getD_snocN Y y i (by omega)] at hi
  rw [show (Y++[y]).getD Y.length noNx=y by simp] at hjg
  have:=h1 i (by omega) g hi
  have:=h2 g hjg
  omega
theorem Aprt.ne {Y:List Nx} (h:Aprt Y) {i j:Nat} (hi:i<Y.length) (hj:j<Y.length) (hne:i≠j) {g:Nat} (h1:kidB (Y.getD i noNx)=some g):kidB (Y.getD j noNx)≠some g:=by
 rcases Nat.lt_or_gt_of_ne hne with q|q
 ·exact h i j q hj g h1
 ·exact fun h2=>h j i q hi g h2 h1
def SCopyOut2 (X:List Nx) (r:Int) (w w':World) (e:Ending):Prop:=∃Y a c,e=.returned (.agg #[.slice a (List.length Y) c,.int .i64 r])∧Y.map Nx.nd=X.map Nx.nd∧w'.ownsRow w.heap.size 51 4 (.slice a Y.length c) Y.length (nxV Y)∧(∀j,j<Y.length→OwnNx w' w.heap.size (Y.getD j noNx))∧Aprt Y∧Below w.heap.size w w'
set_option maxRecDepth 10000 in
set_option maxHeartbeats 1000000 in
theorem scopy2_any (X:List Nx) (a:Option Addr) (c:Nat) (r:Int) (w:World) (h:ScAt w a X) (hX:Small X) :
  Calls Tryz.prog 11 #[.agg #[.slice a X.length c,.int .i64 r]] w fun e w'=>SCopyOut2 X r w w' e:=by
 obtain ⟨i0,hi,hz0,hz1,hz2⟩:=info_parts Tryz.infoD9
 have hn:=hX.1
 have HS:Hid (ScAt w a X∧Small X):=⟨h,hX⟩
 clear h hX
 have HA:Hid (∀(o1 o2 o3:Obj),o1=.cells #[.slice a X.length c,.int .i64 r] 24→o2=.cells #[.slice none 0 0,.int .i64 0] 24→o3=.cells #[.slice none 0 0,.int .i64 r] 24→AtN 24 (((w.alloc o1).alloc o2).alloc o3) w.heap.size #[.slice a X.length c,.int .i64 r]∧AtN 24 (((w.alloc o1).alloc o2).alloc o3) (w.heap.size+1) #[.slice none 0 0,.int .i64 0]∧Mkg (((w.alloc o1).alloc o2).alloc o3) w.heap.size (w.heap.size+1+1) r (.slice none 0 0) []∧Below w.heap.size w (((w.alloc o1).alloc o2).alloc o3)):=by
  rintro _ _ _ rfl rfl rfl
  refine ⟨((AtN.new w 24 _).alloc _).alloc _,(mk_at (AtN.new (w.alloc _) 24 _) (show _=w.heap.size+1 by simp)).alloc _,⟨mk_at (AtN.new ((w.alloc _).alloc _) 24 _) (show _=w.heap.size+1+1 by simp),⟨rfl,.inl ⟨rfl,rfl⟩⟩,fun j hj=>by simp at hj⟩,(((Below.refl w.heap.size w).alloc (Nat.le_refl _) _).alloc (by simp) _).alloc (by simp;omega) _⟩
 go_enter Tryz.func11,Tryz.ntmps11
 go_wp2_with fail
 go_loopw [4] (fun iv wr=>∃(i:Nat) (v:Value) (Y:List Nx),iv=.int .i64 i∧i≤X.length∧Hid (Y.map Nx.nd=(X.take i).map Nx.nd)∧Hid (Y.length=i)∧Hid (AtN 24 wr w.heap.size #[.slice a X.length c,.int .i64 r])∧Hid (AtN 24 wr (w.heap.size+1) #[.slice none 0 0,.int .i64 0])∧Hid (Mkg wr w.heap.size (w.heap.size+1+1) r v Y)∧Hid (Aprt Y)∧Hid (Below w.heap.size w wr)) (fun iv _=>X.length-(intOf iv).toNat)
 case atStart=>
  obtain ⟨h1,h2,h3,h4⟩:=HA.out _ _ _ rfl rfl rfl
  exact ⟨0,.slice none 0 0,[],rfl,by omega,rfl,rfl,h1,h2,h3,Aprt.nil,h4⟩
 case round=>
  clear HA
  obtain ⟨i,v,Y,rfl,hi',HM,HL,HA1,HA2,HK,HP,HB⟩:=hrel
  have x0:wr.cell? ⟨w.heap.size,0,none⟩=some (.slice a X.length c):=HA1.out.cell 0
  by_cases hlt:i<X.length
  ·have hlt':(i:Int)<X.length:=by omega
   obtain ⟨b,o,ea,hbl⟩:∃b o,a=some ⟨b,o,none⟩∧b<w.heap.size:=by
    obtain ⟨b,o,e,hb,_⟩:=HS.out.1.node hlt
    exact ⟨b,o,e,hb⟩
   subst ea
   have HN:Hid (∀W,Below w.heap.size w W→ScAt W (some ⟨b,o,none⟩) X):=fun W hW=>HS.out.1.belowB hW
   have hgr:=big_no (HS.out.2.2 i hlt)
   have hsz:w.heap.size+1+1<wr.heap.size:=HK.out.sc.lt
   have hvne:=HK.out.ne
   have hvlt:∀k,v.ownBlock=some k→k<wr.heap.size:=fun k hk=>(HK.out.row.lt k hk).2
   have hvge:∀k,v.ownBlock=some k→w.heap.size≤k:=fun k hk=>(HK.out.row.lt k hk).1
   have hYl:Y.length≤1401:=by have h0:Y.length=i:=HL.out;omega
   have Hv:Hid (v.ownBlock≠some (w.heap.size+1+1)∧(∀k,v.ownBlock=some k→k<wr.heap.size)∧∀k,v.ownBlock=some k→w.heap.size≤k):=⟨hvne,hvlt,hvge⟩
   clear hvne hvlt hvge
   go_wp2_with fail
   refine facts_region4 (fun W=>Fr (MkS (w.heap.size+1+1) v) wr W) (cpR (w.heap.size+1+1) v) cpC cpD (cpF (some ⟨b,o,none⟩) X.length c i b o w.heap.size (w.heap.size+1+1) w.heap.size wr.heap.size r v Y (X.getD i noNx)) cpI (cpFI w.heap.size (w.heap.size+1+1) r v Y) (by kernel_rfl) (by kernel_rfl) (Fr.refl _ wr).drew ?hI0 ?hdead (cpF_stab (some ⟨b,o,none⟩) X.length c i b o w.heap.size (w.heap.size+1+1) w.heap.size wr.heap.size r v Y (X.getD i noNx) Hv.out.2.1 hsz) ?gl ?stabI ?loc ?step ?fin
   case hI0=>
    intro q
    match q with
    | 0=>exact HK.out.row
    | k+1=>exact HK.out.sc
   case hdead=>
    intro i j oi oj hi hj hd
    simp only [cpD,Bool.or_eq_true,Bool.and_eq_true,beq_iff_eq] at hd
    rcases hd with ⟨rfl,rfl⟩|⟨rfl,rfl⟩
    ·obtain rfl:=Option.some.inj hi
     exact .inl (by kernel_rfl)
    ·obtain rfl:=Option.some.inj hj
     exact .inr (by kernel_rfl)
   case gl=>
    intro q W W' hR hG
    unfold cpR at hR
    refine hG.trans (Fr.of_grown (S:=MkS (w.heap.size+1+1) v) hR (fun k hk=>?_)) (fun _ e _=>e)
    by_cases h9:q=9
    ·rw [if_pos h9] at hk;exact .inl hk
    ·rw [if_neg h9] at hk
     by_cases h11:q=11
     ·rw [if_pos h11] at hk;cases hk;exact .inr rfl
     ·rw [if_neg h11] at hk;cases hk
   case stabI=>
    intro q u W W' hne hR hF
    unfold cpR at hR
    match u,hF with
    | 0,hF=>
     have h9:q≠9:=fun e=>hne (by rw [e];rfl)
     rw [if_neg h9] at hR
     by_cases h11:q=11
     ·rw [if_pos h11] at hR
      exact World.ownsRow.kept hF hR (.inr Hv.out.1)
     ·rw [if_neg h11] at hR
      exact own_below hF (below_of_grown hR) (Nat.le_refl _)
    | k+1,hF=>
     have h11:q≠11:=fun e=>hne (by rw [e];rfl)
     rw [if_neg h11] at hR
     by_cases h9:q=9
     ·rw [if_pos h9] at hR
      exact AtN.kept hF hR (fun e=>Hv.out.1 e.symm)
     ·rw [if_neg h9] at hR
      exact AtN.kept hF hR (by simp)
   case loc=>
    intro j o V V' W ho hd hk h
    rcases j with _|_|_|_|_|_|_|_|_|_|_|_|j
    ·obtain rfl:=Option.some.inj ho
     have e:V (some 15)=V' (some 15):=hd
     simp only [cpF] at h ⊢
     rw [← e];exact h
    ·obtain rfl:=Option.some.inj ho
     have e:V (some 16)=V' (some 16):=hd
     simp only [cpF] at h ⊢
     rw [← e];exact h
    ·obtain rfl:=Option.some.inj ho
     have e:V (some 17)=V' (some 17):=hd
     simp only [cpF] at h ⊢
     rw [← e];exact h
    ·obtain rfl:=Option.some.inj ho
     have e:V (some 18)=V' (some 18):=hd
     simp only [cpF] at h ⊢
     rw [← e];exact h
    ·obtain rfl:=Option.some.inj ho
     have e:V (some 19)=V' (some 19):=hd
     simp only [cpF] at h ⊢
     rw [← e];exact h
    ·obtain rfl:=Option.some.inj ho
     have e:V (some 20)=V' (some 20):=hd
     simp only [cpF] at h ⊢
     rw [← e];exact h
    ·obtain rfl:=Option.some.inj ho
     have e:V (some 21)=V' (some 21):=hd
     simp only [cpF] at h ⊢
     rw [← e];exact h
    ·obtain rfl:=Option.some.inj ho
     have e:V (some 22)=V' (some 22):=hd
     simp only [cpF] at h ⊢
     rw [← e];exact h
    ·obtain rfl:=Option.some.inj ho
     have e:V (some 23)=V' (some 23):=hd
     simp only [cpF] at h ⊢
     rw [← e];exact h
    ·obtain rfl:=Option.some.inj ho
     have e:V (some 24)=V' (some 24):=hd
     simp only [cpF] at h ⊢
     rw [← e];exact h
    ·obtain rfl:=Option.some.inj ho
     have e:V (some 25)=V' (some 25):=hd
     simp only [cpF] at h ⊢
     rw [← e];exact h
    ·simp only [cpF] at h ⊢
     exact h
    ·exact absurd ho (by simp)
   case step=>
    intro q o' ho a' W hG hoff hdep hI K hK
    have t1:a'.tmps[1]?.getD undef=.pointer (some ⟨w.heap.size,0,none⟩):=hoff 1 (by kernel_rfl)
    have t3:a'.tmps[3]?.getD undef=.pointer (some ⟨w.heap.size+1+1,0,none⟩):=hoff 3 (by kernel_rfl)
    have t4:a'.tmps[4]?.getD undef=.int .i64 (i:Int):=hoff 4 (by kernel_rfl)
    have hS:∀z,MkS (w.heap.size+1+1) v z→w.heap.size+1<z∨w.heap.size≤z:=fun z hz=>by
     rcases hz with hz|hz
     ·exact .inr (Hv.out.2.2 z hz)
     ·exact .inl (by omega)
    have hbW:Below w.heap.size w W:=Fr.below HB.out hG (fun z e=>by rcases hS z e with q|q <;> omega) HB.out.size
    have hbx:AtN 24 W w.heap.size #[.slice (some ⟨b,o,none⟩) X.length c,.int .i64 r]:=AtN.fr HA1.out hG (fun e=>by
     rcases e with e|e
     ·exact own_ne_at HK.out.row HA1.out (by decide) _ e rfl
     ·omega)
    have x0:W.cell? ⟨w.heap.size,0,none⟩=some (.slice (some ⟨b,o,none⟩) X.length c):=hbx.cell 0
    have hsW:wr.heap.size≤W.heap.size:=hG.size
    have hs:=HN.out W hbW
    obtain ⟨b',o1,e1,_,d0,d1,d2,d3⟩:=hs.node hlt
    cases e1
    have HC:Hid (Calls Tryz.prog 30 #[.agg (nxC (X.getD i noNx)).toArray] W fun e w'=>NdOut W w' e (X.getD i noNx).nd):=rcopy_any (X.getD i noNx).nd (X.getD i noNx).a1 (X.getD i noNx).a2 (X.getD i noNx).a3 (X.getD i noNx).c1 (X.getD i noNx).c2 (X.getD i noNx).c3 W (hs.each i hlt) hgr.1 hgr.2.1 hgr.2.2.1
    clear hS hbx hs HA1 HA2 HK HB HN HS hgr
    generalize X.getD i noNx=N at *
    rcases q with _|_|_|_|_|_|_|_|_|_|_|_|q
    ·obtain rfl:=Option.some.inj ho
     clear hdep hoff hI HC
     go_simp
     exact hK _ _ (grown_refl _ _) (fun V' h1 _=>by
      have e:V' (some 15)=_:=h1
      simp only [cpF]
      rw [e]
      rfl)
    ·obtain rfl:=Option.some.inj ho
     have e0:a'.tmps[15]?.getD undef=.pointer (some ⟨w.heap.size+1+1,0,none⟩):=hdep 0 (by kernel_rfl) (.inr (by decide))
     have hsc:AtN 24 W (w.heap.size+1+1) #[v,.int .i64 r]:=hI 1 (by kernel_rfl)
     have y0:W.cell? ⟨w.heap.size+1+1,0,none⟩=some v:=hsc.cell 0
     clear hsc
     clear hdep hoff hI HC
     go_simp
     exact hK _ _ (grown_refl _ _) (fun V' h1 _=>by
      have e:V' (some 16)=_:=h1
      simp only [cpF]
      rw [e]
      rfl)
    ·obtain rfl:=Option.some.inj ho
     clear hdep hoff hI HC
     go_simp
     exact hK _ _ (grown_refl _ _) (fun V' h1 _=>by
      have e:V' (some 17)=_:=h1
      simp only [cpF]
      rw [e]
      rfl)
    ·obtain rfl:=Option.some.inj ho
     have e0:a'.tmps[17]?.getD undef=.pointer (some ⟨w.heap.size,0,none⟩):=hdep 2 (by kernel_rfl) (.inr (by decide))
     clear hdep hoff hI HC
     go_simp
     exact hK _ _ (grown_refl _ _) (fun V' h1 _=>by
      have e:V' (some 18)=_:=h1
      simp only [cpF]
      rw [e]
      rfl)
    ·obtain rfl:=Option.some.inj ho
     clear hdep hoff hI HC
     go_simp
     exact hK _ _ (grown_refl _ _) (fun V' h1 _=>by
      have e:V' (some 19)=_:=h1
      simp only [cpF]
      rw [e]
      rfl)
    ·obtain rfl:=Option.some.inj ho
     have e0:a'.tmps[18]?.getD undef=.slice (some ⟨b,o,none⟩) X.length c:=hdep 3 (by kernel_rfl) (.inr (by decide))
     have e1:a'.tmps[19]?.getD undef=.int .i64 (i:Int):=hdep 4 (by kernel_rfl) (.inr (by decide))
     clear hdep hoff hI HC
     go_simp
     exact hK _ _ (grown_refl _ _) (fun V' h1 _=>by
      have e:V' (some 20)=_:=h1
      simp only [cpF]
      rw [e]
      rfl)
    ·obtain rfl:=Option.some.inj ho
     have e0:a'.tmps[20]?.getD undef=.pointer (some ⟨b,o+i*4,none⟩):=hdep 5 (by kernel_rfl) (.inr (by decide))
     clear hdep hoff hI HC
     go_simp
     exact hK _ _ (grown_refl _ _) (fun V' h1 _=>by
      have e:V' (some 21)=_:=h1
      simp only [cpF]
      rw [e]
      rfl)
    ·obtain rfl:=Option.some.inj ho
     have e0:a'.tmps[21]?.getD undef=.agg (nxC N).toArray:=hdep 6 (by kernel_rfl) (.inr (by decide))
     clear hdep hoff hI
     go_simp
     refine Calls.mono HC.out ?_
     rintro e w' ⟨a1,c1,a2,c2,a3,c3,rfl,hO,hb⟩
     exact hK _ _ (by unfold cpR;exact grown_of_below hb _) (fun V' h1 _=>by
      have e:V' (some 22)=.agg #[.int .i64 N.nd.kind,.slice a1 N.nd.ints.length c1,.slice a2 N.nd.texts.length c2,.slice a3 N.nd.kids.length c3]:=h1
      simp only [cpF]
      rw [e]
      exact ⟨⟨N.nd,a1,c1,a2,c2,a3,c3⟩,rfl,rfl,OwnNd.mono hO hsW⟩)
    ·obtain rfl:=Option.some.inj ho
     have e0:∃y:Nx,y.nd=N.nd∧a'.tmps[22]?.getD undef=.agg (nxC y).toArray∧OwnNx W wr.heap.size y:=hdep 7 (by kernel_rfl) (.inr (by decide))
     obtain ⟨y,hy,e1,hO⟩:=e0
     have e2:a'.tmps[22]?.getD undef=.agg #[.int .i64 y.nd.kind,.slice y.a1 y.nd.ints.length y.c1,.slice y.a2 y.nd.texts.length y.c2,.slice y.a3 y.nd.kids.length y.c3]:=e1
     have HO:Hid (OwnNx W wr.heap.size y∧y.nd=N.nd):=⟨hO,hy⟩
     clear hdep hoff hI HC e1 hO hy
     go_simp
     exact hK _ _ (World.grownBy_alloc _ _ _) (fun V' h1 _=>by
      have e:V' (some 23)=.slice (some ⟨W.heap.size,0,none⟩) 1 1:=h1
      simp only [cpF]
      exact ⟨y,W.heap.size,HO.out.2,e,hsW,AtN.new W 51 _,HO.out.1.kept (World.grownBy_alloc W _ none) (by simp)⟩)
    ·obtain rfl:=Option.some.inj ho
     have e0:a'.tmps[16]?.getD undef=v:=hdep 1 (by kernel_rfl) (.inr (by decide))
     have e1:∃(y:Nx) (g8:Nat),y.nd=N.nd∧a'.tmps[23]?.getD undef=.slice (some ⟨g8,0,none⟩) 1 1∧wr.heap.size≤g8∧AtN 51 W g8 (nxC y).toArray∧OwnNx W wr.heap.size y:=hdep 8 (by kernel_rfl) (.inl (by decide))
     obtain ⟨y,g8,hy,e2,hg8,hA8,hO⟩:=e1
     have hrow:W.ownsRow w.heap.size 51 4 v Y.length (nxV Y):=hI 0 (by kernel_rfl)
     clear hdep hoff hI HC
     refine step_append_lies W rfl (.tmp 16) (.tmp 23) 22 rfl w.heap.size 51 i0 (.agg #[.int .i64 0,.slice none 0 0,.slice none 0 0,.slice none 0 0]) 4 80 Tryz.underlying22 hi hz0 hz1 hz2 rfl (by decide) v Y.length (nxV Y) (by simpa [Act.eval] using e0) hrow ⟨g8,0,none⟩ 1 1 (nxC y) (by simpa [Act.eval] using e2) rfl (fun j u hu=>World.news_of_block hA8 j u (by simpa using hu)) (by intro u hu;simp [nxC] at hu;rcases hu with rfl|rfl|rfl|rfl <;> rfl) (by decide) (by unfold maxLen;omega) (by omega) (by omega) _ rfl ?_
     intro g2 cap2 w4 hown4 hgrow4 hlie hlt4
     refine hK _ _ hgrow4 (fun V' h1 _=>?_)
     have e:V' (some 24)=.slice (some ⟨g2,0,none⟩) (Y.length+1) cap2:=h1
     simp only [cpF]
     rw [e]
     refine ⟨y,hy,hown4,?_,hO.kept hgrow4 Hv.out.2.1⟩
     intro q
     simp only [Value.ownBlock,Option.some.injEq] at q
     rcases hlie with p|p
     ·rw [q] at p;exact Hv.out.1 p
     ·omega
    ·obtain rfl:=Option.some.inj ho
     clear hdep hoff hI HC
     go_simp
     exact hK _ _ (grown_refl _ _) (fun V' h1 _=>by
      have e:V' (some 25)=_:=h1
      simp only [cpF]
      rw [e]
      rfl)
    ·obtain rfl:=Option.some.inj ho
     have e0:a'.tmps[25]?.getD undef=.pointer (some ⟨w.heap.size+1+1,0,none⟩):=hdep 10 (by kernel_rfl) (.inr (by decide))
     have e1:∃y:Nx,y.nd=N.nd∧W.ownsRow w.heap.size 51 4 (a'.tmps[24]?.getD undef) (Y.length+1) (nxV Y++nxC y)∧(a'.tmps[24]?.getD undef).ownBlock≠some (w.heap.size+1+1)∧OwnNx W wr.heap.size y:=hdep 9 (by kernel_rfl) (.inr (by decide))
     obtain ⟨y,hy,hrow,hne,hO⟩:=e1
     have hsc:AtN 24 W (w.heap.size+1+1) #[v,.int .i64 r]:=hI 1 (by kernel_rfl)
     have y0:W.cell? ⟨w.heap.size+1+1,0,none⟩=some v:=hsc.cell 0
     have yf:=hsc.fz 0
     obtain ⟨a6,c6,e6⟩:=own_shape4 hrow
     rw [e6] at hrow hne
     have HF:Hid (AtN 24 W (w.heap.size+1+1) #[v,.int .i64 r]∧W.ownsRow w.heap.size 51 4 (.slice a6 (Y.length+1) c6) (Y.length+1) (nxV Y++nxC y)∧(Value.slice a6 (Y.length+1) c6).ownBlock≠some (w.heap.size+1+1)∧OwnNx W wr.heap.size y∧y.nd=N.nd):=⟨hsc,hrow,hne,hO,hy⟩
     clear hdep hoff hI HC hsc hrow hne hO hy
     go_simp
     exact hK undef _ (grown_set (grown_refl W _) 0 _) (fun V' h1 _=>by
      simp only [cpF]
      refine ⟨.slice a6 (Y.length+1) c6,y,HF.out.2.2.2.2,by simpa using AtN.set HF.out.1 0 (.slice a6 (Y.length+1) c6),own_set' HF.out.2.1 HF.out.2.2.1 _,HF.out.2.2.2.1.kept (grown_set (grown_refl W (some (w.heap.size+1+1))) 0 _) (fun k hk=>by cases hk;omega)⟩)
    ·exact absurd ho (by simp)
   case fin=>
    intro V W hG hF
    have f11:∃(v':Value) (y:Nx),y.nd=(X.getD i noNx).nd∧AtN 24 W (w.heap.size+1+1) #[v',.int .i64 r]∧W.ownsRow w.heap.size 51 4 v' (Y.length+1) (nxV Y++nxC y)∧OwnNx W wr.heap.size y:=hF 11 _ rfl (by decide)
    obtain ⟨v',y,hy,h1,h2,h3⟩:=f11
    have HK2:Hid (Mkg W w.heap.size (w.heap.size+1+1) r v' (Y++[y])):=HK.out.next hG h1 h2 (h3.mono HB.out.size)
    have HP2:Hid (Aprt (Y++[y])):=HP.out.snoc (B:=wr.heap.size) (fun j hj g hg=>((HK.out.each j hj).k.lt g hg).2) (fun g hg=>(h3.k.lt g hg).1)
    have hS:∀z,MkS (w.heap.size+1+1) v z→w.heap.size≤z:=fun z hz=>by
     rcases hz with hz|hz
     ·exact Hv.out.2.2 z hz
     ·omega
    have HB2:Hid (Below w.heap.size w W):=Fr.below HB.out hG hS HB.out.size
    have HA1':Hid (AtN 24 W w.heap.size #[.slice (some ⟨b,o,none⟩) X.length c,.int .i64 r]):=AtN.fr HA1.out hG (fun e=>by
     rcases e with e|e
     ·exact own_ne_at HK.out.row HA1.out (by decide) _ e rfl
     ·omega)
    have HA2':Hid (AtN 24 W (w.heap.size+1) #[.slice none 0 0,.int .i64 0]):=AtN.fr HA2.out hG (fun e=>by
     rcases e with e|e
     ·exact own_ne_at HK.out.row HA2.out (by decide) _ e rfl
     ·omega)
    have HM2:Hid ((Y++[y]).map Nx.nd=(X.take (i+1)).map Nx.nd):=map_nd_take X Y y i hlt HM.out hy
    have HL2:Hid ((Y++[y]).length=i+1):=by
     have h0:Y.length=i:=HL.out
     show (Y++[y]).length=i+1
     simp [h0]
    clear hF hG h1 h2 h3 hy HK HB HA1 HA2 HM HL HN HS hS Hv hgr
    simp only [fillA,Act.put,List.setIfInBounds_toArray,List.set_cons_zero,List.set_cons_succ]
    generalize V (some 15)=z15
    generalize V (some 16)=z16
    generalize V (some 17)=z17
    generalize V (some 18)=z18
    generalize V (some 19)=z19
    generalize V (some 20)=z20
    generalize V (some 21)=z21
    generalize V (some 22)=z22
    generalize V (some 23)=z23
    generalize V (some 24)=z24
    generalize V (some 25)=z25
    go_wp2_with fail
    go_roundw
    case rel=>exact ⟨i+1,v',Y++[y],by go_num,by omega,HM2,HL2,HA1',HA2',HK2,HP2,HB2⟩
    case measure=>simp [intOf];omega
  ·have hlt':¬(i:Int)<X.length:=by omega
   obtain ⟨ay,cy,rfl⟩:=own_shape4 HK.out.row
   have y0:wr.cell? ⟨w.heap.size+1+1,0,none⟩=some (.slice ay Y.length cy):=HK.out.sc.cell 0
   have y1:wr.cell? ⟨w.heap.size+1+1,1,none⟩=some (.int .i64 r):=HK.out.sc.cell 1
   have z0:wr.cell? ⟨w.heap.size+1,0,none⟩=some (.slice none 0 0):=HA2.out.cell 0
   have z1:wr.cell? ⟨w.heap.size+1,1,none⟩=some (.int .i64 0):=HA2.out.cell 1
   have f0:=HA2.out.fz 0
   have f1:=HA2.out.fz 1
   have hg1:=HA2.out.lt
   have HV:Hid (∀W,W=(wr.setCell ⟨w.heap.size+1,0,none⟩ (.slice ay Y.length cy)).setCell ⟨w.heap.size+1,1,none⟩ (.int .i64 r)→SCopyOut2 X r w W (.returned (.agg #[.slice ay Y.length cy,.int .i64 r]))∧AtN 24 W (w.heap.size+1) #[.slice ay Y.length cy,.int .i64 r]):=fun W hW=>by
    subst hW
    have hfr:Fr (fun z=>z=w.heap.size+1) wr ((wr.setCell ⟨w.heap.size+1,0,none⟩ (.slice ay Y.length cy)).setCell ⟨w.heap.size+1,1,none⟩ (.int .i64 r)):=((Fr.refl (fun z=>z=w.heap.size+1) wr).set ⟨w.heap.size+1,0,none⟩ rfl _).set ⟨w.heap.size+1,1,none⟩ rfl _
    have hal:Alien wr (fun z=>z=w.heap.size+1):=fun z hz _=>⟨_,_,_,hz ▸ HA2.out,by decide,by decide,by decide⟩
    have hrw:∀z,(Value.slice ay Y.length cy).ownBlock=some z→¬z=w.heap.size+1:=fun z hz e=>own_ne_at HK.out.row HA2.out (by decide) z hz e
    refine ⟨⟨Y,ay,cy,rfl,?_,own_fr HK.out.row hfr hrw,fun j hj=>(HK.out.each j hj).fr hfr hal,HP.out,Fr.below HB.out hfr (fun z e=>by omega) HB.out.size⟩,?_⟩
    ·have h0:Y.map Nx.nd=(X.take i).map Nx.nd:=HM.out
     rwa [List.take_of_length_le (by omega)] at h0
    ·have:=AtN.set (AtN.set HA2.out 0 (.slice ay Y.length cy)) 1 (.int .i64 r)
     simpa using this
   clear HM HL HA1 HA2 HK HB HS
   go_wp2_with fail
   obtain ⟨v1,v2⟩:=HV.out _ rfl
   have c0:=v2.cell 0
   have c1:=v2.cell 1
   have e0:(#[Value.slice ay Y.length cy,Value.int .i64 r]:Array Value)[0]? = some (.slice ay Y.length cy):=rfl
   have e1:(#[Value.slice ay Y.length cy,Value.int .i64 r]:Array Value)[1]? = some (.int .i64 r):=rfl
   rw [e0] at c0
   rw [e1] at c1
   exact bodyPost_ret (v:=.agg #[.slice ay Y.length cy,.int .i64 r]) (by simp [results,Tryz.results11,go_sem,c0,c1]) rfl v1
end Go.Proofs.YtgoffkfpdigeeaaGreatDoor
namespace Go.Proofs.YtgoffkfpdigeeaaGreatDoor
open Go.RowKit Go.Maps Go.WideMaps Go.Sort
def trn (n:Nat) (z:Int):Int:=wrap64 ((n:Int)-1-z)
def trnNd (n:Nat) (N:Nd):Nd:=⟨N.kind,N.ints,N.texts,N.kids.map (trn n)⟩
def tk (n:Nat) (l:List Int) (k:Nat):List Int:=(l.take k).map (trn n)++l.drop k
theorem tk_all (n:Nat) (l:List Int):tk n l l.length=l.map (trn n):=by simp [tk]
theorem tk_at (n:Nat) (l:List Int) (k:Nat) (h:k<l.length):(iV (tk n l k))[k]? = some (.int .i64 (l.getD k 0)):=by
 have h1:(tk n l k)[k]? = some (l.getD k 0):=by
  unfold tk
  rw [List.getElem?_append_right (by simp;omega)]
  simp [h,Nat.min_eq_left (Nat.le_of_lt h)]
 unfold iV
 rw [List.getElem?_map,h1]
 rfl
theorem tk_set (n:Nat) (l:List Int) (k:Nat) (h:k<l.length):(iV (tk n l k)).set k (.int .i64 (trn n (l.getD k 0)))=iV (tk n l (k+1)):=by
 have h1:(tk n l k).set k (trn n (l.getD k 0))=tk n l (k+1):=by
  unfold tk
  have hm:((l.take k).map (trn n)).length=k:=by simp;omega
  rw [List.set_append_right _ _ (by omega),hm,Nat.sub_self,List.take_add_one,List.getD_eq_getElem?_getD,List.getElem?_eq_getElem h,show l.drop k=l[k] :: l.drop (k+1) from List.drop_eq_getElem_cons h,List.map_append,List.append_assoc]
  rfl
 rw [← h1]
 unfold iV
 rw [List.map_set]
structure Tg (w:World) (B g:Nat) (N:Nd) (n k:Nat) (a1 a2 a3:Option Addr) (c1 c2 c3:Nat):Prop where
 nd:AtN 51 w g #[.int .i64 N.kind,.slice a1 N.ints.length c1,.slice a2 N.texts.length c2,.slice a3 N.kids.length c3]
 i:w.ownsRow B 2 1 (.slice a1 N.ints.length c1) N.ints.length (iV N.ints)
 t:w.ownsRow B 9 1 (.slice a2 N.texts.length c2) N.texts.length (tV N.texts)
 k:w.ownsRow B 3 1 (.slice a3 N.kids.length c3) N.kids.length (iV (tk n N.kids k))
theorem Tg.drew {w:World} {B g:Nat} {N:Nd} {n k:Nat} {a1 a2 a3:Option Addr} {c1 c2 c3:Nat} (h:Tg w B g N n k a1 a2 a3 c1 c2 c3):Tg w.drew B g N n k a1 a2 a3 c1 c2 c3:=⟨h.nd,h.i,h.t,h.k⟩
theorem Tg.next {w:World} {B g:Nat} {N:Nd} {n k:Nat} {a1 a2 a3:Option Addr} {c1 c2 c3:Nat} (h:Tg w B g N n k a1 a2 a3 c1 c2 c3) (hk:k<N.kids.length):∃q,a3=some ⟨q,0,none⟩∧w.cell? ⟨q,k,none⟩=some (.int .i64 (N.kids.getD k 0))∧w.frozen? ⟨q,k,none⟩=false∧B≤q∧q<w.heap.size∧
  Tg (w.setCell ⟨q,k,none⟩ (.int .i64 (trn n (N.kids.getD k 0)))) B g N n (k+1) a1 a2 a3 c1 c2 c3:=by
 obtain ⟨q,rfl,h1,h2,h3,h4,h5⟩:=own_store9 h.k k hk
 have hq:(Value.slice (some ⟨q,0,none⟩) N.kids.length c3).ownBlock=some q:=rfl
 refine ⟨q,rfl,by rw [h1,tk_at n N.kids k hk],h2,h3,h4,?_,?_,?_,?_⟩
 ·exact h.nd.setOther _ (fun e=>own_ne_at h.k h.nd (by decide) q hq e) _
 ·exact own_set h.i _ (fun r hr e=>own_apart9 h.k h.i (by decide) hq (by rw [hr];exact congrArg some e)) _
 ·exact own_set h.t _ (fun r hr e=>own_apart9 h.k h.t (by decide) hq (by rw [hr];exact congrArg some e)) _
 ·have:=h5 (.int .i64 (trn n (N.kids.getD k 0)))
  rwa [tk_set n N.kids k hk] at this
def trnNx (n:Nat) (N:Nd) (a1 a2 a3:Option Addr) (c1 c2 c3:Nat):Nx:=⟨trnNd n N,a1,c1,a2,c2,a3,c3⟩
theorem Tg.own {w:World} {B g:Nat} {N:Nd} {n:Nat} {a1 a2 a3:Option Addr} {c1 c2 c3:Nat} (h:Tg w B g N n N.kids.length a1 a2 a3 c1 c2 c3):OwnNx w B (trnNx n N a1 a2 a3 c1 c2 c3):=by
 refine ⟨h.i,h.t,?_⟩
 have:=h.k
 rw [tk_all] at this
 simpa [trnNx,trnNd] using this
end Go.Proofs.YtgoffkfpdigeeaaGreatDoor
namespace Go.Proofs.YtgoffkfpdigeeaaGreatDoor
open Go.RowKit Go.Maps Go.WideMaps Go.Sort
end Go.Proofs.YtgoffkfpdigeeaaGreatDoor
namespace Go.Proofs.YtgoffkfpdigeeaaGreatDoor
open Go.RowKit Go.Maps Go.WideMaps Go.Sort
theorem pIn_nd {L:List ByteArray} (h:L.Nodup) (s:ByteArray):(pIntern L s).Nodup:=by
 unfold pIntern
 by_cases q:idx6 s L<L.length
 ·rw [if_pos q];exact h
 ·rw [if_neg q,List.nodup_append]
  refine ⟨h,by simp,fun a ha b hb e=>?_⟩
  simp only [List.mem_singleton] at hb
  subst e hb
  exact q ((idx6_mem _ _).2 ha)
theorem foldlT_nd (T:List ByteArray):∀L:List ByteArray,L.Nodup→(T.foldl pIntern L).Nodup:=by
 induction T with
 | nil=>intro L h;exact h
 | cons x r ih=>
  intro L h
  rw [List.foldl_cons]
  exact ih _ (pIn_nd h x)
theorem itn_nd (T:List ByteArray):(itn T).Nodup:=foldlT_nd T [] List.nodup_nil
theorem itn_same {T U:List ByteArray} (h:∀s,s ∈ T↔s ∈ U):sum6 (itn T)=sum6 (itn U):=by
 have hp:(itn T).Perm (itn U):=(List.perm_ext_iff_of_nodup (itn_nd T) (itn_nd U)).2 (fun s=>by rw [itn_mem,itn_mem,h])
 exact List.Perm.sum_nat (hp.map ByteArray.size)
theorem allT_mem (X:List Nx) (s:ByteArray):s ∈ allT X↔∃i,i<X.length∧s ∈ (X.getD i noNx).nd.texts:=by
 unfold allT
 rw [List.mem_flatMap]
 constructor
 ·rintro ⟨x,hx,hs⟩
  obtain ⟨i,hi,rfl⟩:=List.getElem_of_mem hx
  exact ⟨i,hi,by rwa [List.getD_eq_getElem?_getD,List.getElem?_eq_getElem hi]⟩
 ·rintro ⟨i,hi,hs⟩
  rw [List.getD_eq_getElem?_getD,List.getElem?_eq_getElem hi] at hs
  exact ⟨X[i],List.getElem_mem hi,hs⟩
section
variable {X Y:List Nx} {p:Nat→Nat} {r:Int} {l:Lm} {d:Nat}
theorem Ren.txb (h:Ren X Y p):txb Y=txb X:=by
 refine itn_same fun s=>?_
 rw [allT_mem,allT_mem]
 constructor
 ·rintro ⟨j,hj,hs⟩
  rw [h.len] at hj
  obtain ⟨i,hi,rfl⟩:=h.per.onto j hj
  rw [h.nd i hi] at hs
  exact ⟨i,hi,hs⟩
 ·rintro ⟨i,hi,hs⟩
  exact ⟨p i,by rw [h.len];exact h.per.lt i hi,by rw [h.nd i hi];exact hs⟩
theorem Ren.fnx (h:Ren X Y p) (hX:FnX X):FnX Y:=fun j hj=>by
 rw [h.len] at hj
 obtain ⟨i,hi,rfl⟩:=h.per.onto j hj
 rw [h.nd i hi]
 exact hX i hi
theorem same_edg (h:Y.map Nx.nd=X.map Nx.nd):edg Y=edg X:=by
 have e:∀Z:List Nx,edg Z=((Z.map Nx.nd).map fun N=>N.kids.length).sum:=fun Z=>by simp [edg,Function.comp_def]
 rw [e,e,h]
theorem same_allT (h:Y.map Nx.nd=X.map Nx.nd):allT Y=allT X:=by
 have e:∀Z:List Nx,allT Z=(Z.map Nx.nd).flatMap fun N=>N.texts:=fun Z=>by simp [allT,List.flatMap_map]
 rw [e,e,h]
theorem same_txb (h:Y.map Nx.nd=X.map Nx.nd):txb Y=txb X:=by
 unfold txb
 rw [same_allT h]
theorem same_meL (h:Y.map Nx.nd=X.map Nx.nd):meL Y d=meL X d:=by
 unfold meL
 rw [same_len h,same_edg h,same_txb h]
theorem same_fn (h:Y.map Nx.nd=X.map Nx.nd) (hX:FnX X):FnX Y:=fun i hi=>by
 rw [same_nd h]
 exact hX i (by rw [← same_len h];exact hi)
end
def bare (P:List Nd):List Nx:=P.map fun N=>⟨N,none,0,none,0,none,0⟩
theorem bare_nd (P:List Nd):(bare P).map Nx.nd=P:=by
 unfold bare
 rw [List.map_map]
 exact List.map_id' P
theorem check_right {X:List Nx} {r:Int} (h:RightIs X r):CheckIs X r 0 0:=.inr (.inr ⟨h.1,h.2.1,.inr ⟨h.2.2.1,.inr ⟨rfl,rfl,h.2.2.2⟩⟩⟩)
end Go.Proofs.YtgoffkfpdigeeaaGreatDoor
