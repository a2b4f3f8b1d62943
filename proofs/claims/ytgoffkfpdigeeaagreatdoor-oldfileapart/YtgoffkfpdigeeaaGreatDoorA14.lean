import Derived.Deep.LoopGhost
import Derived.Deep.QuietTactic
import Derived.WalkSmall
import Derived.Test.YtgoffkfpdigeeaaGreatDoorA13
namespace Go.Proofs.YtgoffkfpdigeeaaGreatDoor
open Go.RowKit Go.Maps Go.WideMaps Go.Sort
def wC (p:Nat × Nat):List Value:=[.int .i64 (p.1:Int),.int .i64 (p.2:Int)]
def wV (way:List (Nat × Nat)):List Value:=way.flatMap wC
theorem wV_length (way:List (Nat × Nat)):(wV way).length=way.length*2:=by
 induction way with
 | nil=>rfl
 | cons x r ih=>simp only [wV,List.flatMap_cons,List.length_append,List.length_cons] at ih ⊢;rw [ih];simp [wC];omega
theorem wV_snoc (way:List (Nat × Nat)) (p:Nat × Nat):wV (way++[p])=wV way++wC p:=by simp [wV]
theorem wV_last (way:List (Nat × Nat)) (p:Nat × Nat):(wV (way++[p]))[way.length*2]? = some (.int .i64 (p.1:Int))∧(wV (way++[p]))[way.length*2+1]? = some (.int .i64 (p.2:Int)):=by
 rw [wV_snoc]
 constructor
 ·rw [List.getElem?_append_right (by rw [wV_length];omega),wV_length,Nat.sub_self];rfl
 ·rw [List.getElem?_append_right (by rw [wV_length];omega),wV_length,show way.length*2+1-way.length*2=1 by omega];rfl
theorem wV_set (way:List (Nat × Nat)) (x l l':Nat):(wV (way++[(x,l)])).set (way.length*2+1) (.int .i64 (l':Int))=wV (way++[(x,l')]):=by
 rw [wV_snoc,wV_snoc,List.set_append_right _ _ (by rw [wV_length];omega),wV_length,show way.length*2+1-way.length*2=1 by omega]
 rfl
theorem Tryz.infoW9:(Tryz.prog.info? 228).map (fun i=>(i.zero,i.size,i.bytes))=some (some (.agg #[.int .i64 0,.int .i64 0]),2,16):=by kernel_rfl
theorem LsQ.atQ {Q:Nat→Prop} {w:World} {a:Option Addr} {cs:List Value} (h:LsQ Q w a cs) {i:Nat} {v:Value} (hi:cs[i]? = some v):∃b o,a=some ⟨b,o,none⟩∧Q b∧b<w.heap.size∧w.cell? ⟨b,o+i,none⟩=some v:=by
 obtain ⟨b,o,h1,h2⟩:=h
 have hl:i<cs.length:=(List.getElem?_eq_some_iff.1 hi).1
 exact ⟨b,o,h1 (by omega),(h2 i hl).1.1,(h2 i hl).1.2,(h2 i hl).2.trans hi⟩
theorem own_ne_met {w:World} {B r n c g m:Nat} {e:TypeId} {size:Nat} {xs:List Value} {M:List Nat} (h:w.ownsRow B e size (.slice (some ⟨r,0,none⟩) n c) n xs) (hm:Met w g m M):r≠g:=by
 rintro rfl
 rcases h.2 with ⟨h0,_⟩|⟨g',cap,cur,hv,_,h1,_⟩
 ·cases h0
 ·cases hv
  obtain ⟨D,⟨es,clock,h2,_⟩,_⟩:=hm
  rw [h1] at h2
  cases h2
theorem own_ne_own {w:World} {B B' r r' n n' c c':Nat} {e e':TypeId} {size size':Nat} {xs xs':List Value} (h:w.ownsRow B e size (.slice (some ⟨r,0,none⟩) n c) n xs) (h':w.ownsRow B' e' size' (.slice (some ⟨r',0,none⟩) n' c') n' xs') (he:e≠e'):r≠r':=by
 rintro rfl
 rcases h.2 with ⟨h0,_⟩|⟨g',cap,cur,hv,_,h1,_⟩
 ·cases h0
 ·cases hv
  rcases h'.2 with ⟨h0,_⟩|⟨g2,cap2,cur2,hv2,_,h2,_⟩
  ·cases h0
  ·cases hv2
   rw [h1] at h2
   cases h2
   exact he rfl
def ClimbOut (L:List Ln) (B g:Nat) (met0:List Nat) (w w':World) (e:Ending):Prop:=
 ∃order met r c,e=.returned (.slice (some ⟨r,0,none⟩) (List.length order) c)∧w'.ownsRow B 3 1 (.slice (some ⟨r,0,none⟩) order.length c) order.length (nV order)∧CInv (kOf L) order [] met∧met.length=order.length∧Met w' g met.length met∧(∀x ∈ met0,x ∈ met)∧Below B w w'
theorem cLeft_pop (n B o:Nat) (way:List (Nat × Nat)) (p:Nat × Nat) (h:p.2≤B):cLeft n B (o+1) way<cLeft n B o (way++[p]):=by
 unfold cLeft
 simp only [List.length_append,List.length_singleton,List.map_append,List.map_cons,List.map_nil,List.sum_append,List.sum_cons,List.sum_nil]
 rw [show n-(o+1)-way.length=n-o-(way.length+1) by omega]
 omega
theorem cLeft_skip (n B o:Nat) (way:List (Nat × Nat)) (x l:Nat) (h:l<B):cLeft n B o (way++[(x,l+1)])<cLeft n B o (way++[(x,l)]):=by
 unfold cLeft
 simp only [List.length_append,List.length_singleton,List.map_append,List.map_cons,List.map_nil,List.sum_append,List.sum_cons,List.sum_nil]
 omega
theorem cLeft_push (n B o:Nat) (way:List (Nat × Nat)) (x y l:Nat) (h:l<B) (hn:o+way.length+2≤n):cLeft n B o (way++[(x,l+1)]++[(y,0)])<cLeft n B o (way++[(x,l)]):=by
 unfold cLeft
 simp only [List.length_append,List.length_singleton,List.map_append,List.map_cons,List.map_nil,List.sum_append,List.sum_cons,List.sum_nil]
 rw [show n-o-(way.length+1)=(n-o-(way.length+1+1))+1 by omega,Nat.add_mul]
 omega
set_option maxRecDepth 10000 in
set_option maxHeartbeats 1000000 in
theorem climb_any {Q:Nat→Prop} (L:List Ln) (a:Option Addr) (c f g B ro co:Nat) (order0 met0:List Nat) (w:World) (hl:LkQ Q w a L) (hQ:∀b,Q b→b<B) (hm:Met w g met0.length met0) (hB:B≤g) (hBw:B≤w.heap.size)
  (hk:Ok9 (kOf L)) (hs:Lim L) (hc:CInv (kOf L) order0 [(f,0)] met0) (hml:met0.length=order0.length+1) (ho:w.ownsRow B 3 1 (.slice (some ⟨ro,0,none⟩) order0.length co) order0.length (nV order0)) :
  Calls Tryz.prog 166 #[.slice a L.length c,.int .i64 f,.map (some g),.slice (some ⟨ro,0,none⟩) order0.length co] w fun e w'=>ClimbOut L B g met0 w w' e:=by
 obtain ⟨i0,hi,hz0,hz1,hz2⟩:=info_parts Tryz.infoI7
 obtain ⟨i1,hi1,hz10,hz11,hz12⟩:=info_parts Tryz.infoW9
 have hL:=hs.1
 have HL:Hid _:=And.intro hl (And.intro hQ (And.intro hk hs))
 have O1:Hid ((w.alloc (.cells #[.int .i64 (f:Int),.int .i64 0] 228)).ownsRow B 228 2 (.slice (some ⟨w.heap.size,0,none⟩) [(f,0)].length 1) [(f,0)].length (wV [(f,0)])):=World.ownsRow_lit w #[.int .i64 (f:Int),.int .i64 0] 1 hBw (by decide) (by simp)
 have O2:Hid ((w.alloc (.cells #[.int .i64 (f:Int),.int .i64 0] 228)).ownsRow B 3 1 (.slice (some ⟨ro,0,none⟩) order0.length co) order0.length (nV order0)):=ho.alloc _
 have M1:Hid (Met (w.alloc (.cells #[.int .i64 (f:Int),.int .i64 0] 228)) g met0.length met0):=hm.below ((Below.refl w.heap.size w).alloc (Nat.le_refl _) _)
 have B1:Hid (Below B w (w.alloc (.cells #[.int .i64 (f:Int),.int .i64 0] 228))):=(Below.refl B w).alloc hBw _
 have HC:Hid _:=hc
 clear hl hQ hk hm hs ho hc
 go_enter Tryz.func166,Tryz.ntmps166
 go_wp2_with fail
 go_loopg [9,3] (cLeft L.length 5000000 order0.length [(f,0)]) (fun m wv ov wr=>∃(way:List (Nat × Nat)) (order met:List Nat) (r1 c1 r2 c2:Nat),wv=.slice (some ⟨r1,0,none⟩) way.length c1∧ov=.slice (some ⟨r2,0,none⟩) order.length c2∧Hid (m=cLeft L.length 5000000 order.length way)∧Hid (CInv (kOf L) order way met)∧Hid (met.length=order.length+way.length)∧Hid (wr.ownsRow B 228 2 (.slice (some ⟨r1,0,none⟩) way.length c1) way.length (wV way))∧Hid (wr.ownsRow B 3 1 (.slice (some ⟨r2,0,none⟩) order.length c2) order.length (nV order))∧Hid (Met wr g met.length met)∧Hid (Below B w wr)∧Hid (∀x ∈ met0,x ∈ met))
 case atStart=>exact ⟨[(f,0)],order0,met0,w.heap.size,1,ro,co,rfl,rfl,rfl,HC,hml,O1,O2,M1,B1,fun _ h=>h⟩
 case round=>
  clear HC O1 O2 M1 B1 hml
  obtain ⟨way,order,met,r1,c1,r2,c2,rfl,rfl,Hm,HC,HN,H1,H2,HM,HB,HSub⟩:=hrel
  have hlen:order.length+way.length≤L.length:=by have:=HC.out.len;rwa [kOf_length] at this
  rcases List.eq_nil_or_concat way with rfl|⟨way,p,hw⟩
  ·have HO:Hid (ClimbOut L B g met0 w wr (.returned (.slice (some ⟨r2,0,none⟩) order.length c2))):=⟨order,met,r2,c2,rfl,H2.out,HC.out,by have:=HN.out;simpa using this,HM.out,HSub.out,HB.out⟩
   clear HC HN H1 H2 HM HB HL
   go_wp2_with fail
   go_ret
   exact HO.out
  ·rw [List.concat_eq_append] at hw
   subst hw
   obtain ⟨x,l⟩:=p
   rw [List.length_append,List.length_singleton] at hlen ⊢
   have h1:=H1.out
   rw [List.length_append,List.length_singleton] at h1
   have d0:wr.cell? ⟨r1,way.length*2,none⟩=some (.int .i64 (x:Int)):=by rw [h1.cellAt _ (by omega)];exact (wV_last way (x,l)).1
   have d1:wr.cell? ⟨r1,way.length*2+1,none⟩=some (.int .i64 (l:Int)):=by rw [h1.cellAt _ (by omega)];exact (wV_last way (x,l)).2
   have f1:=h1.frozenAt (way.length*2+1)
   have hxl:x<L.length:=by have:=HC.out.mem_top.1;rwa [kOf_length] at this
   have hxl':(x:Int)<L.length:=by omega
   have hlk:=(HC.out.looked (x,l) (by simp)).1
   have hr1:B≤r1:=(h1.lt r1 rfl).1
   have hr1l:=(h1.lt r1 rfl).2
   have hr1g:r1≠g:=own_ne_met h1 HM.out
   have hr12:r1≠r2:=own_ne_own h1 H2.out (by decide)
   have hr2g:r2≠g:=own_ne_met H2.out HM.out
   have hc1:way.length+1≤c1:=by
    rcases h1.2 with ⟨h0,_⟩|⟨g',cap,cur,hv,_,_,h4,_⟩
    ·cases h0
    ·cases hv;exact h4
   have HQB:Hid (∀b,Q b→b<B):=HL.out.2.1
   have H1':Hid _:=h1
   clear h1
   have hBwr:B≤wr.heap.size:=Nat.le_trans hBw HB.out.size
   have HK:Hid (LkQ Q wr a L):=HL.out.1.fr (S:=fun b=>B≤b) ⟨HB.out.os,HB.out.tape,HB.out.output,HB.out.size,fun k _ hn=>HB.out.block k (by omega)⟩ (fun b q _=>by have:=HL.out.2.1 b q;omega)
   obtain ⟨b1,o1,rfl,hq1,hb1,d2⟩:=HK.out.top.atQ (lnV_at L x hxl)
   have hb1B:b1<B:=HL.out.2.1 b1 hq1
   have hne1:b1≠r1:=by omega
   have hkl:(L.getD x noLn).ks.length≤5000000:=HL.out.2.2.2.2 x hxl
   rw [kOf_at] at hlk
   have HP:Hid (∀k ∈ (L.getD x noLn).ks,k<1401):=fun k hk=>by
    have:=HL.out.2.2.1 x k (by unfold Ed;rw [kOf_at];exact hk)
    rw [kOf_length] at this
    omega
   have HE:Hid (LsQ Q wr (L.getD x noLn).a (nV (L.getD x noLn).ks)):=HK.out.each x hxl
   have HX:Hid ((kOf L).getD x []=(L.getD x noLn).ks):=kOf_at L x
   have HOk:Hid (Ok9 (kOf L)):=HL.out.2.2.1
   generalize L.getD x noLn=N at *
   clear HK
   by_cases hend:l=N.ks.length
   ·have HC2:Hid (CInv (kOf L) (order++[x]) way met):=HC.out.pop (by rw [HX.out];omega)
    have Hm2:Hid (cLeft L.length 5000000 (order.length+1) way<gk):=by
     rw [Hm.out]
     exact cLeft_pop _ _ _ _ _ (by show l≤5000000;omega)
    have HN2:Hid (met.length=(order++[x]).length+way.length):=by
     have h0:met.length=order.length+(way++[(x,l)]).length:=HN.out
     rw [List.length_append,List.length_singleton] at h0
     show met.length=(order++[x]).length+way.length
     rw [List.length_append,List.length_singleton]
     omega
    have H1p:Hid (wr.ownsRow B 228 2 (.slice (some ⟨r1,0,none⟩) way.length c1) way.length (wV way)):=by
     have:=H1'.out
     rw [wV_snoc] at this
     exact ownsRow_pop (wV_length way) this
    clear HC HN H1 H1' HP HE HX HOk HQB HL Hm
    go_wp2_with fail
    go_quiet (fail)
    go_wp2_with (at_builtin;refine wpList_append_lies _ rfl (.tmp 40) (.tmp 42) 49 rfl B 3 i0 (.int .i64 0) 1 8 Tryz.underlying49 hi hz0 hz1 hz2 rfl (by decide) _ order.length (nV order) rfl (World.ownsRow.alloc (w:=wr.drewN nq) H2.out _) ⟨wr.heap.size,0,none⟩ 1 1 [.int .i64 (x:Int)] rfl rfl (cell_one_new _ _ _) (by intro u hu;simp at hu;subst hu;rfl) (by decide) (by unfold maxLen;omega) (by omega) (by simp;omega) _ rfl ?_)
    intro g2 cap2 w4 hown4 hgrow4 hlie hlt4
    have O4:Hid (w4.ownsRow B 3 1 (.slice (some ⟨g2,0,none⟩) (order++[x]).length cap2) (order++[x]).length (nV (order++[x]))):=by
     show World.ownsRow _ _ _ _ _ _ _
     rw [nV_snoc,List.length_append]
     exact hown4
    have F4:Hid (Fr (fun b=>b=r2) wr w4):=((Fr.refl (fun b=>b=r2) wr).drewN nq).alloc _ |>.trans (Fr.of_grown (S:=fun b=>b=r2) hgrow4 (fun q e=>by simpa [Value.ownBlock] using e.symm)) (fun _ q _=>q)
    have hr2:B≤r2:=(H2.out.lt r2 rfl).1
    have M4:Hid (Met w4 g met.length met):=HM.out.fr F4.out (by omega)
    have W4:Hid (w4.ownsRow B 228 2 (.slice (some ⟨r1,0,none⟩) way.length c1) way.length (wV way)):=own_fr H1p.out F4.out (fun q hq=>by simp [Value.ownBlock] at hq;omega)
    have B4:Hid (Below B w w4):=Fr.below HB.out F4.out (fun q e=>by omega) hBwr
    clear hown4 hgrow4 F4 H2 HM HB H1p
    go_wp2_with fail
    go_roundg (cLeft L.length 5000000 (order.length+1) way)
    case measure=>exact Hm2.out
    case rel=>exact ⟨way,order++[x],met,r1,c1,g2,cap2,rfl,by simp,by simp [Hid],HC2,HN2,W4,O4,M4,B4,HSub⟩
   ·have hlt:l<N.ks.length:=by omega
    have hlt':(l:Int)<N.ks.length:=by omega
    have hne':¬((l:Int)=N.ks.length):=by omega
    obtain ⟨b2,o2,e2,hq2,hb2,d3⟩:=HE.out.atQ (nV_at N.ks l hlt)
    have hb2B:b2<B:=HQB.out b2 hq2
    have hne2:b2≠r1:=by omega
    have hk60:=HP.out _ (getD_mem hlt)
    rw [e2] at d2
    have H1s:Hid (∀q,((wr.drewN q).setCell ⟨r1,way.length*2+1,none⟩ (.int .i64 ((l:Int)+1))).ownsRow B 228 2 (.slice (some ⟨r1,0,none⟩) (way++[(x,l+1)]).length c1) (way++[(x,l+1)]).length (wV (way++[(x,l+1)]))):=fun q=>by
     rw [← wV_set way x l (l+1),List.length_append,List.length_singleton]
     exact (World.ownsRow.stored (w:=wr.drewN q) H1'.out (way.length*2+1) _).1
    have HF1:Hid (∀q,Fr (fun b=>b=r1) wr ((wr.drewN q).setCell ⟨r1,way.length*2+1,none⟩ (.int .i64 ((l:Int)+1)))):=fun q=>((Fr.refl (fun b=>b=r1) wr).drewN q).set ⟨r1,way.length*2+1,none⟩ rfl _
    have HS:Hid (N.ks.getD l 0 ∈ met→CInv (kOf L) order (way++[(x,l+1)]) met):=fun q=>HC.out.skip (by rw [HX.out];exact hlt) (by rw [HX.out];exact q)
    have HPu:Hid (N.ks.getD l 0 ∉ met→CInv (kOf L) order (way++[(x,l+1)]++[(N.ks.getD l 0,0)]) (N.ks.getD l 0 :: met)):=fun q=>by
     have:=HC.out.push HOk.out (l:=l) (by rw [HX.out];exact hlt) (by rw [HX.out];exact q)
     rwa [HX.out] at this
    have Hlen:Hid (∀k,CInv (kOf L) order (way++[(x,l+1)]++[(k,0)]) (k :: met)→order.length+way.length+2≤L.length):=fun k hc=>by
     have:=hc.len
     rw [kOf_length] at this
     simp at this
     omega
    generalize N.ks.getD l 0=k at *
    have HMq:Hid (∀q,Met ((wr.drewN q).setCell ⟨r1,way.length*2+1,none⟩ (.int .i64 ((l:Int)+1))) g met.length met):=fun q=>HM.out.fr (HF1.out q) (by omega)
    have hmb:met.length≤1401:=by
     have h0:met.length=order.length+(way++[(x,l)]).length:=HN.out
     rw [List.length_append,List.length_singleton] at h0
     omega
    by_cases hin:k ∈ met
    ·have hlk:∀q,(Instr.lookup 190 (.map (some g)) (.int .i64 (k:Int)) false).run Tryz.prog ((wr.drewN q).setCell ⟨r1,way.length*2+1,none⟩ (.int .i64 ((l:Int)+1)))=.ok (.bool true) ((wr.drewN q).setCell ⟨r1,way.length*2+1,none⟩ (.int .i64 ((l:Int)+1))):=fun q=>by
      rw [(HMq.out q).look k (by omega),decide_eq_true hin]
     have HC2:Hid (CInv (kOf L) order (way++[(x,l+1)]) met):=HS.out hin
     have Hm2:Hid (cLeft L.length 5000000 order.length (way++[(x,l+1)])<gk):=by
      rw [Hm.out]
      exact cLeft_skip _ _ _ _ _ _ (by omega)
     have HN2:Hid (met.length=order.length+(way++[(x,l+1)]).length):=by
      have h0:met.length=order.length+(way++[(x,l)]).length:=HN.out
      rw [List.length_append,List.length_singleton] at h0
      show met.length=order.length+(way++[(x,l+1)]).length
      rw [List.length_append,List.length_singleton]
      omega
     have O4:Hid (∀q,((wr.drewN q).setCell ⟨r1,way.length*2+1,none⟩ (.int .i64 ((l:Int)+1))).ownsRow B 3 1 (.slice (some ⟨r2,0,none⟩) order.length c2) order.length (nV order)):=fun q=>own_fr H2.out (HF1.out q) (fun z hz=>by simp [Value.ownBlock] at hz;omega)
     have B4:Hid (∀q,Below B w ((wr.drewN q).setCell ⟨r1,way.length*2+1,none⟩ (.int .i64 ((l:Int)+1)))):=fun q=>Fr.below HB.out (HF1.out q) (fun z e=>by omega) hBwr
     clear HC H1 H1' HP HE HX HOk HQB HL HS HPu Hlen HM HB H2 HN Hm HF1 hin
     go_wp2_with fail
     go_quiet (fail)
     go_wp2_with fail
     go_roundg (cLeft L.length 5000000 order.length (way++[(x,l+1)]))
     case measure=>exact Hm2.out
     case rel=>exact ⟨way++[(x,l+1)],order,met,r1,c1,r2,c2,by simp,rfl,by simp [Hid],HC2,HN2,H1s.out _,O4.out _,HMq.out _,B4.out _,HSub⟩
    ·have hlk:∀q,(Instr.lookup 190 (.map (some g)) (.int .i64 (k:Int)) false).run Tryz.prog ((wr.drewN q).setCell ⟨r1,way.length*2+1,none⟩ (.int .i64 ((l:Int)+1)))=.ok (.bool false) ((wr.drewN q).setCell ⟨r1,way.length*2+1,none⟩ (.int .i64 ((l:Int)+1))):=fun q=>by
      rw [(HMq.out q).look k (by omega),decide_eq_false hin]
     obtain ⟨W3,hW3⟩:=Classical.skolem.1 (fun q=>(HMq.out q).put k (by omega) (by unfold maxLen;omega))
     have hup:=fun q=>(hW3 q).1
     have HW:Hid _:=fun q=>(hW3 q).2
     clear hW3
     have HC2:Hid (CInv (kOf L) order (way++[(x,l+1)]++[(k,0)]) (k :: met)):=HPu.out hin
     have hl2:=Hlen.out k HC2.out
     have HSub2:Hid (∀x ∈ met0,x ∈ k :: met):=fun x hx=>List.mem_cons_of_mem _ (HSub.out x hx)
     have Hm2:Hid (cLeft L.length 5000000 order.length (way++[(x,l+1)]++[(k,0)])<gk):=by
      rw [Hm.out]
      exact cLeft_push _ _ _ _ _ _ _ (by omega) hl2
     have HN2:Hid ((k :: met).length=order.length+(way++[(x,l+1)]++[(k,0)]).length):=by
      have h0:met.length=order.length+(way++[(x,l)]).length:=HN.out
      rw [List.length_append,List.length_singleton] at h0
      show (k :: met).length=order.length+(way++[(x,l+1)]++[(k,0)]).length
      rw [List.length_append,List.length_append,List.length_singleton,List.length_singleton,List.length_cons]
      omega
     have HF3:Hid (∀q,Fr (fun b=>b=r1∨b=g) wr (W3 q)):=fun q=>((HF1.out q).mono (S':=fun b=>b=r1∨b=g) (fun _ _ e=>.inl e)).trans (Fr.of_grown (S:=fun b=>b=g) (HW.out q).2 (fun z e=>(Option.some.inj e).symm)) (fun _ e _=>.inr e)
     have O4:Hid (∀q,(W3 q).ownsRow B 3 1 (.slice (some ⟨r2,0,none⟩) order.length c2) order.length (nV order)):=fun q=>own_fr H2.out (HF3.out q) (fun z hz=>by simp [Value.ownBlock] at hz;omega)
     have W4:Hid (∀q,(W3 q).ownsRow B 228 2 (.slice (some ⟨r1,0,none⟩) (way.length+1) c1) (way.length+1) (wV (way++[(x,l+1)]))):=fun q=>by
      have:=own_fr (H1s.out q) (Fr.of_grown (S:=fun b=>b=g) (HW.out q).2 (fun z e=>(Option.some.inj e).symm)) (fun z hz=>by simp [Value.ownBlock] at hz;omega)
      simpa using this
     have B4:Hid (∀q,Below B w (W3 q)):=fun q=>Fr.below HB.out (HF3.out q) (fun z e=>by omega) hBwr
     have M4:Hid (∀q,Met (W3 q) g (k :: met).length (k :: met)):=fun q=>(HW.out q).1.iff (fun y=>by simp [or_comm])
     clear HC H1 H1' HP HE HX HOk HQB HL HS HPu Hlen HM HB H2 HN Hm HF1 hin HW HF3 H1s HMq
     go_wp2_with fail
     go_quiet (fail)
     have W5:=W4.out nq
     have hs5:=(B4.out nq).size
     go_wp2_with (at_builtin;refine wpList_append_lies _ rfl (.tmp 68) (.tmp 71) 229 rfl B 228 i1 (.agg #[.int .i64 0,.int .i64 0]) 2 16 Tryz.underlying229 hi1 hz10 hz11 hz12 rfl (by decide) _ (way.length+1) (wV (way++[(x,l+1)])) rfl (W5.alloc _) ⟨(W3 nq).heap.size,0,none⟩ 1 1 [.int .i64 (k:Int),.int .i64 0] rfl rfl (World.news_of_block (heap_alloc_new (W3 nq) _)) (by intro u hu;simp at hu;rcases hu with rfl|rfl <;> rfl) (by decide) (by unfold maxLen;omega) (by omega) (by simp;omega) _ rfl ?_)
     intro g2 cap2 w6 hown6 hgrow6 hlie hlt6
     have O6:Hid (w6.ownsRow B 228 2 (.slice (some ⟨g2,0,none⟩) (way++[(x,l+1)]++[(k,0)]).length cap2) (way++[(x,l+1)]++[(k,0)]).length (wV (way++[(x,l+1)]++[(k,0)]))):=by
      have hl6:(way++[(x,l+1)]++[(k,0)]).length=way.length+1+1:=by simp
      show World.ownsRow _ _ _ _ _ _ _
      rw [wV_snoc (way++[(x,l+1)]),hl6]
      exact hown6
     have F6:Hid (Fr (fun b=>b=r1) (W3 nq) w6):=((Fr.refl (fun b=>b=r1) (W3 nq)).alloc _).trans (Fr.of_grown (S:=fun b=>b=r1) hgrow6 (fun z e=>by simpa [Value.ownBlock] using e.symm)) (fun _ e _=>e)
     have M6:Hid (Met w6 g (k :: met).length (k :: met)):=(M4.out nq).fr F6.out (by omega)
     have P6:Hid (w6.ownsRow B 3 1 (.slice (some ⟨r2,0,none⟩) order.length c2) order.length (nV order)):=own_fr (O4.out nq) F6.out (fun z hz=>by simp [Value.ownBlock] at hz;omega)
     have B6:Hid (Below B w w6):=Fr.below (B4.out nq) F6.out (fun z e=>by omega) (by omega)
     clear hown6 hgrow6 F6 M4 O4 B4 W4 W5
     go_wp2_with fail
     go_roundg (cLeft L.length 5000000 order.length (way++[(x,l+1)]++[(k,0)]))
     case measure=>exact Hm2.out
     case rel=>exact ⟨way++[(x,l+1)]++[(k,0)],order,k :: met,g2,cap2,r2,c2,by simp,rfl,by simp [Hid],HC2,HN2,O6,P6,M6,B6,HSub2⟩
end Go.Proofs.YtgoffkfpdigeeaaGreatDoor
namespace Go.Proofs.YtgoffkfpdigeeaaGreatDoor
open Go.RowKit Go.Maps Go.WideMaps Go.Sort
theorem run_makeMapN (k:Int) (W:World):(Instr.makeMap 190 (some (.int .i64 k))).run Tryz.prog W=.ok (.map (some W.heap.size)) (W.alloc (.map #[] 0)):=by
 simp [Instr.makeMap,run_underlying Tryz.underlying190,asInt,asIntOf]
def BotOut (L:List Ln) (w w':World) (e:Ending):Prop:=
 ∃order r c,e=.returned (.slice (some ⟨r,0,none⟩) (List.length order) c)∧w'.ownsRow w.heap.size 3 1 (.slice (some ⟨r,0,none⟩) order.length c) order.length (nV order)∧BOut (kOf L) order∧Below w.heap.size w w'
set_option maxRecDepth 10000 in
set_option maxHeartbeats 800000 in
theorem bottomup_any {Q:Nat→Prop} (L:List Ln) (a:Option Addr) (c:Nat) (w:World) (hl:LkQ Q w a L) (hk:Ok9 (kOf L)) (hs:Lim L) :
  Calls Tryz.prog 139 #[.slice a L.length c] w fun e w'=>BotOut L w w' e:=by
 obtain ⟨i0,hi,hz0,hz1,hz2⟩:=info_parts Tryz.infoI7
 have hL:=hs.1
 have hmk:(Instr.makeSlice 49 (.int .i64 0) (.int .i64 (L.length:Int))).run Tryz.prog w=.ok (.slice (some ⟨w.heap.size,0,none⟩) 0 L.length) (w.alloc (.cells (madeCells (Value.int .i64 0).cells (L.length*1)) 3)):=by
  have:=run_make (P:=Tryz.prog) w 49 3 i0 (.int .i64 0) Tryz.underlying49 hi hz0 .i64 .i64 0 L.length (by omega) (by omega) (by rw [hz2];omega) (by omega)
  rw [hz1,Int.toNat_natCast] at this
  simpa using this
 have O1:Hid ((w.alloc (.cells (madeCells (Value.int .i64 0).cells (L.length*1)) 3)).ownsRow w.heap.size 3 1 (.slice (some ⟨w.heap.size,0,none⟩) 0 L.length) 0 []):=World.ownsRow_made w _ L.length (Nat.le_refl _) (by unfold maxLen;omega) (size_madeCells _ _)
 generalize madeCells (Value.int .i64 0).cells (L.length*1)=cs at *
 have hmm:=run_makeMapN (L.length:Int)
 have O2:Hid (((w.alloc (.cells cs 3)).alloc (.map #[] 0)).ownsRow w.heap.size 3 1 (.slice (some ⟨w.heap.size,0,none⟩) ([]:List Nat).length L.length) ([]:List Nat).length (nV [])):=O1.out.alloc _
 have M1:Hid (Met ((w.alloc (.cells cs 3)).alloc (.map #[] 0)) (w.heap.size+1) ([]:List Nat).length []):=by
  have:=Met.made (w.alloc (.cells cs 3))
  rwa [show (w.alloc (.cells cs 3)).heap.size=w.heap.size+1 by simp] at this
 have B1:Hid (Below w.heap.size w ((w.alloc (.cells cs 3)).alloc (.map #[] 0))):=((Below.refl w.heap.size w).alloc (Nat.le_refl _) _).alloc (by simp) _
 have HL:Hid _:=And.intro hl.now (And.intro hk hs)
 clear hl hk hs O1
 go_enter Tryz.func139,Tryz.ntmps139
 go_wp2_with fail
 go_loopw [3,14] (fun ov iv wr=>∃(order met:List Nat) (i r c:Nat),ov=.slice (some ⟨r,0,none⟩) order.length c∧iv=.int .i64 i∧i≤L.length∧Hid (CInv (kOf L) order [] met)∧Hid (met.length=order.length)∧Hid (∀x,x<i→x ∈ met)∧Hid (wr.ownsRow w.heap.size 3 1 (.slice (some ⟨r,0,none⟩) order.length c) order.length (nV order))∧Hid (Met wr (w.heap.size+1) met.length met)∧Hid (Below w.heap.size w wr)) (fun _ iv _=>L.length-(intOf iv).toNat)
 case atStart=>exact ⟨[],[],0,w.heap.size,L.length,rfl,rfl,by omega,CInv.none,rfl,fun x hx=>by omega,O2,M1,B1⟩
 case round=>
  clear O2 M1 B1 hmk hmm
  obtain ⟨order,met,i,r,co,rfl,rfl,hi',HC,HN,HA,HO,HM,HB⟩:=hrel
  have hlen:order.length≤L.length:=by have:=HC.out.len;rw [kOf_length] at this;simpa using this
  have hmb:met.length≤1401:=by have h0:met.length=order.length:=HN.out;omega
  by_cases hlt:i<L.length
  ·have hlt':(i:Int)<L.length:=by omega
   by_cases hin:i ∈ met
   ·have hlk:=HM.out.look i (by omega)
    rw [decide_eq_true hin] at hlk
    have HA2:Hid (∀x,x<i+1→x ∈ met):=fun x hx=>by
     by_cases e:x=i
     ·rw [e];exact hin
     ·exact HA.out x (by omega)
    clear HL HA hin
    go_wp2_with fail
    go_roundw
    case rel=>exact ⟨order,met,i+1,r,co,rfl,by go_num,by omega,HC,HN,HA2,HO,HM,HB⟩
    case measure=>simp [intOf];omega
   ·have hlk:=HM.out.look i (by omega)
    rw [decide_eq_false hin] at hlk
    obtain ⟨w3,hup,hm3,hg3⟩:=HM.out.put i (by omega) (by unfold maxLen;omega)
    have hgl:=HM.out.lt
    have hrg:r≠w.heap.size+1:=own_ne_met HO.out HM.out
    have F3:Fr (fun b=>b=w.heap.size+1) wr w3:=Fr.of_grown hg3 (fun k e=>(Option.some.inj e).symm)
    have B3:Below w.heap.size w w3:=Fr.below HB.out F3 (fun z e=>by omega) HB.out.size
    have O3:=own_fr HO.out F3 (fun z hz=>by simp [Value.ownBlock] at hz;omega)
    have hC:Hid _:=climb_any (Q:=fun b=>b<w.heap.size) L a c i (w.heap.size+1) w.heap.size r co order (i :: met) w3 (HL.out.1.fr (S:=fun b=>w.heap.size≤b) ⟨B3.os,B3.tape,B3.output,B3.size,fun k _ hn=>B3.block k (by omega)⟩ (fun b q _=>by omega)) (fun b q=>q) (hm3.iff (fun y=>by simp [or_comm])) (by omega) B3.size HL.out.2.1 HL.out.2.2 (HC.out.from i (by rw [kOf_length];exact hlt) hin) (by have h0:met.length=order.length:=HN.out;simp [h0]) O3
    have HB3:Hid _:=B3
    have HA2:Hid (∀met':List Nat,(∀x ∈ i :: met,x ∈ met')→∀x,x<i+1→x ∈ met'):=fun m' hsub x hx=>by
     by_cases e:x=i
     ·rw [e];exact hsub i (by simp)
     ·exact hsub x (List.mem_cons_of_mem _ (HA.out x (by omega)))
    clear HL HC HN HA HO HM HB hm3 hg3 F3 O3 B3 hin
    go_wp2_with fail
    refine Calls.mono hC.out ?_
    rintro e w5 ⟨order',met',r',c',rfl,ho5,hc5,hn5,hm5,hsub5,hb5⟩
    have HA3:Hid (∀x,x<i+1→x ∈ met'):=HA2.out met' hsub5
    have HX:Hid _:=And.intro ho5 (And.intro hc5 (And.intro hn5 (And.intro hm5 (HB3.out.trans hb5))))
    clear hC HA2 ho5 hc5 hn5 hm5 hsub5 hb5 HB3 hup hlk
    go_wp2_with fail
    go_roundw
    case rel=>exact ⟨order',met',i+1,r',c',rfl,by go_num,by omega,HX.out.2.1,HX.out.2.2.1,HA3,HX.out.1,HX.out.2.2.2.1,HX.out.2.2.2.2⟩
    case measure=>simp [intOf];omega
  ·have hlt':¬(i:Int)<L.length:=by omega
   have HV:Hid (BotOut L w wr (.returned (.slice (some ⟨r,0,none⟩) order.length co))):=by
    refine ⟨order,r,co,rfl,HO.out,⟨?_,fun x=>⟨fun hx=>?_,fun hx=>?_⟩,HC.out.ko⟩,HB.out⟩
    ·have:=HC.out.nd
     simpa using this
    ·exact HC.out.lt x (by simpa using hx)
    ·rw [kOf_length] at hx
     have:=(HC.out.mt x).1 (HA.out x (by omega))
     simpa using this
   clear HL HC HN HA HO HM HB
   go_wp2_with fail
   go_ret
   exact HV.out
end Go.Proofs.YtgoffkfpdigeeaaGreatDoor
namespace Go.Proofs.YtgoffkfpdigeeaaGreatDoor
open Go.RowKit Go.Maps Go.WideMaps Go.Sort
def fnV (n:Nat) (st:Nat→Nat):Array Value:=((List.range n).map fun x=>Value.int .i64 (st x:Int)).toArray
def upd (st:Nat→Nat) (k v:Nat):Nat→Nat:=fun x=>if x=k then v else st x
theorem upd_same (st:Nat→Nat) (k v:Nat):upd st k v k=v:=if_pos rfl
theorem upd_other (st:Nat→Nat) {k x:Nat} (v:Nat) (h:x≠k):upd st k v x=st x:=if_neg h
theorem fnV_at (n:Nat) (st:Nat→Nat) (k:Nat) (h:k<n):(fnV n st)[k]? = some (.int .i64 (st k:Int)):=by simp [fnV,h]
theorem fnV_new (n:Nat):madeCells (Value.int .i64 0).cells (n*1)=fnV n (fun _=>0):=by
 apply Array.ext
 ·simp [size_madeCells,fnV]
 ·intro i h1 h2
  have h0:i % 1=0:=Nat.mod_one i
  simp [madeCells,fnV,Value.cells,h0]
theorem fnV_set (n:Nat) (st:Nat→Nat) (k v:Nat):(fnV n st).setIfInBounds k (.int .i64 (v:Int))=fnV n (upd st k v):=by
 apply Array.ext
 ·simp [fnV]
 ·intro i h1 h2
  simp only [fnV,Array.size_setIfInBounds,List.size_toArray,List.length_map,List.length_range] at h1
  rw [Array.getElem_setIfInBounds (by simpa [fnV] using h1)]
  by_cases e:k=i
  ·subst e
   simp [fnV,upd]
  ·rw [if_neg e]
   have e':¬i=k:=fun q=>e q.symm
   simp [fnV,upd,e']
theorem idx_of_list {order:List Nat} {n:Nat} {st:Nat→Nat} (_hn:order.Nodup) (hm:∀x,x ∈ order↔x<n) (h:∀j,j<order.length→st (order.getD j 0)=j) (x:Nat) (hx:x<n):st x=order.idxOf x:=by
 have hmx:=(hm x).2 hx
 have hlt:=List.idxOf_lt_length_of_mem hmx
 have h1:=h _ hlt
 rwa [show order.getD (order.idxOf x) 0=x by rw [List.getD_eq_getElem?_getD,List.getElem?_eq_getElem hlt];simp] at h1
def BehOut (K:List (List Nat)) (order:List Nat) (w w':World) (e:Ending):Prop:=∃b,e=.returned (.bool b)∧(b=true↔Behind K order)∧Below w.heap.size w w'
set_option maxRecDepth 10000 in
set_option maxHeartbeats 800000 in
theorem arebehind_any {Q:Nat→Prop} (L:List Ln) (a ao:Option Addr) (c co:Nat) (order:List Nat) (w:World) (hl:LkQ Q w a L) (ho:LsAt w ao (nV order)) (hb:BOut (kOf L) order) (hk:Ok9 (kOf L)) (hs:Lim L) :
  Calls Tryz.prog 140 #[.slice a L.length c,.slice ao order.length co] w fun e w'=>BehOut (kOf L) order w w' e:=by
 obtain ⟨i0,hi,hz0,hz1,hz2⟩:=info_parts Tryz.infoI7
 have hL:=hs.1
 have hlo:order.length=L.length:=by rw [hb.len,kOf_length]
 have hmk:(Instr.makeSlice 49 (.int .i64 (L.length:Int)) (.int .i64 (L.length:Int))).run Tryz.prog w=.ok (.slice (some ⟨w.heap.size,0,none⟩) L.length L.length) (w.alloc (.cells (fnV L.length (fun _=>0)) 3)):=by
  have:=run_make (P:=Tryz.prog) w 49 3 i0 (.int .i64 0) Tryz.underlying49 hi hz0 .i64 .i64 L.length L.length (by omega) (by omega) (by rw [hz2];omega) (by omega)
  rw [hz1,Int.toNat_natCast,fnV_new] at this
  simpa using this
 have A1:Hid (AtN 3 (w.alloc (.cells (fnV L.length (fun _=>0)) 3)) w.heap.size (fnV L.length (fun _=>0))):=AtN.new w 3 _
 have B1:Hid (Below w.heap.size w (w.alloc (.cells (fnV L.length (fun _=>0)) 3))):=(Below.refl w.heap.size w).alloc (Nat.le_refl _) _
 have HL:Hid _:=And.intro hl (And.intro ho (And.intro hb (And.intro hk hs)))
 obtain ⟨f0,hf0⟩:∃f,fnV L.length (fun _=>0)=f:=⟨_,rfl⟩
 have HF0:Hid _:=hf0
 rw [hf0] at hmk A1 B1
 clear hl ho hb hk hs hf0
 go_enter Tryz.func140,Tryz.ntmps140
 go_wp2_with fail
 go_loopw [17] (fun iv wr=>∃(i:Nat) (st:Nat→Nat),iv=.int .i64 i∧i≤order.length∧Hid (∀j,j<i→st (order.getD j 0)=j)∧Hid (AtN 3 wr w.heap.size (fnV L.length st))∧Hid (Below w.heap.size w wr)) (fun iv _=>order.length-(intOf iv).toNat)
 case atStart=>exact ⟨0,fun _=>0,rfl,by omega,fun j hj=>by omega,HF0.out ▸ A1,B1⟩
 case round=>
  clear A1 B1 hmk HF0
  obtain ⟨i,st,rfl,hi',HI,HA,HB⟩:=hrel
  by_cases hlt:i<order.length
  ·have hlt':(i:Int)<order.length:=by omega
   obtain ⟨b1,o1,rfl,hb1,d1⟩:=(LsAt.belowB HL.out.2.1 HB.out).at (nV_at order i hlt)
   have hx:order.getD i 0<L.length:=by have:=(HL.out.2.2.1.2.1 (order.getD i 0)).1 (getD_mem hlt);rwa [kOf_length] at this
   have HV:Hid (∀j,j<i+1→upd st (order.getD i 0) i (order.getD j 0)=j):=fun j hj=>by
    by_cases e:j=i
    ·rw [e,upd_same]
    ·rw [upd_other _ _ (fun q=>e ?_),HI.out j (by omega)]
     have hnd:=HL.out.2.2.1.1
     rw [List.getD_eq_getElem?_getD,List.getD_eq_getElem?_getD,List.getElem?_eq_getElem (by omega:j<order.length),List.getElem?_eq_getElem hlt] at q
     exact (List.getElem_inj hnd).1 (by simpa using q)
   have y0:wr.cell? ⟨w.heap.size,order.getD i 0,none⟩=some (.int .i64 (st (order.getD i 0):Int)):=by rw [HA.out.cell,fnV_at _ _ _ hx]
   have yf:=HA.out.fz (order.getD i 0)
   have HA2:Hid (AtN 3 (wr.setCell ⟨w.heap.size,order.getD i 0,none⟩ (.int .i64 (i:Int))) w.heap.size (fnV L.length (upd st (order.getD i 0) i))):=by
    have:=AtN.set HA.out (order.getD i 0) (.int .i64 (i:Int))
    rwa [fnV_set] at this
   have HB2:Hid (Below w.heap.size w (wr.setCell ⟨w.heap.size,order.getD i 0,none⟩ (.int .i64 (i:Int)))):=set_below HB.out _ (Nat.le_refl _) _
   have hx':((order.getD i 0:Nat):Int)<L.length:=by omega
   generalize order.getD i 0=x at *
   clear HI HA HB HL
   go_wp2_with fail
   go_roundw
   case rel=>exact ⟨i+1,upd st x i,by go_num,by omega,HV,HA2,HB2⟩
   case measure=>simp [intOf];omega
  ·have hlt':¬(i:Int)<order.length:=by omega
   have HS:Hid (∀x,x<L.length→st x=order.idxOf x):=fun x hx=>idx_of_list HL.out.2.2.1.1 HL.out.2.2.1.2.1 (fun j hj=>HI.out j (by omega)) x (by rw [kOf_length];exact hx)
   clear HI hlt
   go_wp2_with fail
   go_loopw [29] (fun iv wr=>∃(i:Nat),iv=.int .i64 i∧i≤L.length∧Hid (∀a,a<i→∀k,Ed (kOf L) a k→order.idxOf k<order.idxOf a)∧Hid (AtN 3 wr w.heap.size (fnV L.length st))∧Hid (Below w.heap.size w wr)) (fun iv _=>L.length-(intOf iv).toNat)
   case atStart=>exact ⟨0,rfl,by omega,fun j hj=>by omega,HA,HB⟩
   case round=>
    clear HA HB hlt'
    obtain ⟨i,rfl,hi',HI,HA,HB⟩:=hrel
    by_cases hlt:i<L.length
    ·have hlt':(i:Int)<L.length:=by omega
     obtain ⟨b1,o1,rfl,hb1,d1⟩:=(HL.out.1.below HB.out).top.at (lnV_at L i hlt)
     have HE:Hid (∀W,Below w.heap.size w W→LsQ Q W (L.getD i noLn).a (nV (L.getD i noLn).ks)):=fun W hW=>(HL.out.1.below hW).each i hlt
     have hkl:(L.getD i noLn).ks.length≤5000000:=HL.out.2.2.2.2.2 i hlt
     have HK:Hid (∀k,Ed (kOf L) i k↔k ∈ (L.getD i noLn).ks):=fun k=>by unfold Ed;rw [kOf_at]
     have HP:Hid (∀k ∈ (L.getD i noLn).ks,k<L.length):=fun k hk=>by
      have:=HL.out.2.2.2.1 i k ((HK.out k).2 hk)
      rwa [kOf_length] at this
     generalize L.getD i noLn=N at *
     clear HL
     go_wp2_with fail
     go_loopw [36] (fun jv wr=>∃(j:Nat),jv=.int .i64 j∧j≤N.ks.length∧Hid (∀q,q<j→order.idxOf (N.ks.getD q 0)<order.idxOf i)∧Hid (AtN 3 wr w.heap.size (fnV L.length st))∧Hid (Below w.heap.size w wr)) (fun jv _=>N.ks.length-(intOf jv).toNat)
     case atStart=>exact ⟨0,rfl,by omega,fun j hj=>by omega,HA,HB⟩
     case round=>
      clear HA HB d1 hb1
      obtain ⟨j,rfl,hj,HJ,HA,HB⟩:=hrel
      by_cases hjl:j<N.ks.length
      ·have hjl':(j:Int)<N.ks.length:=by omega
       obtain ⟨b2,o2,e2,hb2,d2⟩:=LsQ.at (HE.out wr HB.out) (nV_at N.ks j hjl)
       have hx:N.ks.getD j 0<L.length:=HP.out _ (getD_mem hjl)
       have hx':((N.ks.getD j 0:Nat):Int)<L.length:=by omega
       have y0:wr.cell? ⟨w.heap.size,N.ks.getD j 0,none⟩=some (.int .i64 (order.idxOf (N.ks.getD j 0):Int)):=by rw [HA.out.cell,fnV_at _ _ _ hx,HS.out _ hx]
       have y1:wr.cell? ⟨w.heap.size,i,none⟩=some (.int .i64 (order.idxOf i:Int)):=by rw [HA.out.cell,fnV_at _ _ _ hlt,HS.out _ hlt]
       have HV:Hid (order.idxOf (N.ks.getD j 0)<order.idxOf i→∀q,q<j+1→order.idxOf (N.ks.getD q 0)<order.idxOf i):=fun h q hq=>by
        by_cases e:q=j
        ·rw [e];exact h
        ·exact HJ.out q (by omega)
       have HW:Hid (¬order.idxOf (N.ks.getD j 0)<order.idxOf i→¬Behind (kOf L) order):=fun h q=>h (q i _ ((HK.out _).2 (getD_mem hjl)))
       generalize N.ks.getD j 0=x at *
       generalize order.idxOf x=p at *
       generalize order.idxOf i=s at *
       rw [e2]
       by_cases hps:p<s
       ·have hps':¬((s:Int)≤p):=by omega
        have HV2:Hid (∀q,q<j+1→order.idxOf (N.ks.getD q 0)<s):=HV.out hps
        clear HJ HE HK HP HS HV HW HI hps
        go_wp2_with fail
        go_quiet (fail)
        go_wp2_with fail
        go_roundw
        case rel=>exact ⟨j+1,by go_num,by omega,HV2,HA,dn_below HB.out _⟩
        case measure=>simp [intOf];omega
       ·have hps':((s:Int)≤p):=by omega
        have HW2:Hid (¬Behind (kOf L) order):=HW.out hps
        clear HJ HE HK HP HS HV HW HI hps
        go_wp2_with fail
        go_quiet (fail)
        go_wp2_with fail
        go_ret
        exact ⟨false,rfl,⟨fun h=>by simp at h,fun h=>absurd h HW2.out⟩,dn_below HB.out _⟩
      ·have hjl':¬(j:Int)<N.ks.length:=by omega
       have HV:Hid (∀a,a<i+1→∀k,Ed (kOf L) a k→order.idxOf k<order.idxOf a):=fun a ha k hk=>by
        by_cases e:a=i
        ·subst e
         obtain ⟨q,hq,rfl⟩:=List.getElem_of_mem ((HK.out k).1 hk)
         have:=HJ.out q (by omega)
         rwa [show N.ks.getD q 0=N.ks[q] by rw [List.getD_eq_getElem?_getD,List.getElem?_eq_getElem hq];rfl] at this
        ·exact HI.out a (by omega) k hk
       clear HJ HE HK HP HS HI
       go_wp2_with fail
       go_roundw
       case rel=>exact ⟨i+1,by go_num,by omega,HV,HA,HB⟩
       case measure=>simp [intOf];omega
    ·have hlt':¬(i:Int)<L.length:=by omega
     have HV:Hid (Behind (kOf L) order):=fun a k hk=>HI.out a (by have:=hk.lt;rw [kOf_length] at this;omega) k hk
     clear HL HI HS HA
     go_wp2_with fail
     go_ret
     exact ⟨true,rfl,⟨fun _=>HV.out,fun _=>rfl⟩,HB.out⟩
end Go.Proofs.YtgoffkfpdigeeaaGreatDoor
namespace Go.Proofs.YtgoffkfpdigeeaaGreatDoor
open Go.RowKit Go.Maps Go.WideMaps Go.Sort
def Tight (L:List Ln):Prop:=L.length≤1401∧∀i,i<L.length→(L.getD i noLn).ks.length≤3000
theorem Small.tight {X:List Nx} (h:Small X):Tight (lks X):=by
 refine ⟨by rw [lks_length];exact h.1,fun i hi=>?_⟩
 rw [lks_length] at hi
 rw [lks_at X i hi]
 have:=h.kids hi
 unfold lnOf
 rw [List.length_map]
 exact this
theorem Tight.lim {L:List Ln} (h:Tight L):Lim L:=⟨h.1,fun i hi=>by have:=h.2 i hi;omega⟩
structure TurnInv (K:List (List Nat)) (i j:Nat) (Kb:Nat→List Nat):Prop where
 mem:∀x y,y ∈ Kb x↔(y<i∧Ed K y x)∨(y=i∧x ∈ (K.getD i []).take j)
 len:∀x,(Kb x).length≤i*3000+j
theorem TurnInv.start (K:List (List Nat)):TurnInv K 0 0 (fun _=>[]):=⟨fun x y=>by simp,fun x=>by simp⟩
def updK (Kb:Nat→List Nat) (k:Nat) (l:List Nat):Nat→List Nat:=fun x=>if x=k then l else Kb x
theorem TurnInv.add {K:List (List Nat)} {i j:Nat} {Kb:Nat→List Nat} (h:TurnInv K i j Kb) (hj:j<(K.getD i []).length):TurnInv K i (j+1) (updK Kb ((K.getD i []).getD j 0) (Kb ((K.getD i []).getD j 0)++[i])):=by
 refine ⟨fun x y=>?_,fun x=>?_⟩
 ·rw [take_at hj]
  have hm:=h.mem x y
  unfold updK
  by_cases e:x=(K.getD i []).getD j 0
  ·subst e
   rw [if_pos rfl]
   simp only [List.mem_append,List.mem_singleton,or_true,and_true]
   rw [hm]
   constructor
   ·rintro ((q|q)|q)
    ·exact .inl q
    ·exact .inr q.1
    ·exact .inr q
   ·rintro (q|q)
    ·exact .inl (.inl q)
    ·exact .inr q
  ·rw [if_neg e,hm]
   simp only [List.mem_append,List.mem_singleton,e,or_false]
 ·unfold updK
  split
  ·have:=h.len ((K.getD i []).getD j 0)
   simp only [List.length_append,List.length_singleton]
   omega
  ·have:=h.len x
   omega
set_option maxRecDepth 10000 in
theorem TurnInv.next {K:List (List Nat)} {i j:Nat} {Kb:Nat→List Nat} (h:TurnInv K i j Kb) (hj:(K.getD i []).length≤j) (hj3:j≤3000):TurnInv K (i+1) 0 Kb:=by
 refine ⟨fun x y=>?_,fun x=>by have:=h.len x;omega⟩
 rw [h.mem x y,List.take_of_length_le hj]
 simp only [List.take_zero,List.not_mem_nil,and_false,or_false]
 constructor
 ·rintro (⟨q,e⟩|⟨rfl,e⟩)
  ·exact ⟨by omega,e⟩
  ·exact ⟨by omega,e⟩
 ·rintro ⟨q,e⟩
  by_cases h1:y<i
  ·exact .inl ⟨h1,e⟩
  ·obtain rfl:y=i:=by omega
   exact .inr ⟨rfl,e⟩
def lnC (x:Ln):Value:=.slice x.a x.ks.length x.c
structure BkAt (w:World) (B g n:Nat) (F:Nat→Ln):Prop where
 top:AtN 49 w g ((List.range n).map fun j=>lnC (F j)).toArray
 own:∀j,j<n→w.ownsRow B 3 1 (lnC (F j)) (F j).ks.length (nV (F j).ks)
 apart:∀i,i<n→∀j,j<n→i≠j→∀r,(lnC (F i)).ownBlock=some r→(lnC (F j)).ownBlock≠some r
def updL (F:Nat→Ln) (k:Nat) (l:Ln):Nat→Ln:=fun x=>if x=k then l else F x
theorem updL_same (F:Nat→Ln) (k:Nat) (l:Ln):updL F k l k=l:=if_pos rfl
theorem updL_other (F:Nat→Ln) {k x:Nat} (l:Ln) (h:x≠k):updL F k l x=F x:=if_neg h
theorem own_ne_at {w:World} {B n g:Nat} {e T:TypeId} {v:Value} {cs:Array Value} {size:Nat} {xs:List Value} (h:w.ownsRow B e size v n xs) (h':AtN T w g cs) (he:e≠T):∀r,v.ownBlock=some r→r≠g:=by
 rintro r hr rfl
 rcases h.2 with ⟨rfl,_⟩|⟨g',cap,cur,rfl,_,h1,_⟩
 ·cases hr
 ·simp only [Value.ownBlock,Option.some.injEq] at hr
  subst hr
  have h2:w.heap[g']? = _:=h'
  rw [h1] at h2
  cases h2
  exact he rfl
theorem BkAt.cell {w:World} {B g n:Nat} {F:Nat→Ln} (h:BkAt w B g n F) {k:Nat} (hk:k<n):w.cell? ⟨g,k,none⟩=some (lnC (F k)):=by rw [h.top.cell];simp [hk]
theorem BkAt.step {w w4:World} {o:Obj} {B g n k x g2 cap2:Nat} {F:Nat→Ln} (h:BkAt w B g n F) (hk:k<n)
  (ho:w4.ownsRow B 3 1 (.slice (some ⟨g2,0,none⟩) ((F k).ks.length+1) cap2) ((F k).ks.length+1) (nV (F k).ks++[.int .i64 (x:Int)])) (hg:(w.alloc o).grownBy w4 (lnC (F k)).ownBlock) (hl:(lnC (F k)).ownBlock=some g2∨g2=(w.alloc o).heap.size) :
  BkAt (w4.setCell ⟨g,k,none⟩ (.slice (some ⟨g2,0,none⟩) ((F k).ks.length+1) cap2)) B g n (updL F k ⟨(F k).ks++[x],some ⟨g2,0,none⟩,cap2⟩):=by
 have hne:=own_ne_at (h.own k hk) h.top (by decide)
 have t4:AtN 49 w4 g ((List.range n).map fun j=>lnC (F j)).toArray:=(h.top.alloc o).kept hg (fun e=>hne g e.symm rfl)
 have hg2:g2≠g:=by
  rcases hl with q|q
  ·exact hne g2 q
  ·have:=h.top.lt
   simp at q
   omega
 have hsz:(w.alloc o).heap.size=w.heap.size+1:=by simp
 refine ⟨?_,fun j hj=>?_,fun i hi j hj hij r hr=>?_⟩
 ·have:=t4.set k (.slice (some ⟨g2,0,none⟩) ((F k).ks.length+1) cap2)
  rw [show ((List.range n).map fun j=>lnC (updL F k ⟨(F k).ks++[x],some ⟨g2,0,none⟩,cap2⟩ j)).toArray=((List.range n).map fun j=>lnC (F j)).toArray.setIfInBounds k (.slice (some ⟨g2,0,none⟩) ((F k).ks.length+1) cap2) by
   apply Array.ext
   ·simp
   ·intro i h1 h2
    simp only [List.size_toArray,List.length_map,List.length_range] at h1
    rw [Array.getElem_setIfInBounds (by simpa using h1)]
    by_cases e:k=i
    ·subst e
     simp [updL,lnC]
    ·have e':¬i=k:=fun q=>e q.symm
     simp [updL,e,e']]
  exact this
 ·by_cases e:j=k
  ·subst e
   rw [updL_same]
   have:=own_set ho ⟨g,j,none⟩ (fun r hr=>by simp [Value.ownBlock] at hr;show r≠g;omega) (.slice (some ⟨g2,0,none⟩) ((F j).ks.length+1) cap2)
   simpa [lnC,nV_snoc] using this
  ·rw [updL_other _ _ e]
   have h1:=(h.own j hj).alloc o
   have h2:=own_fr h1 (Fr.of_grown (S:=fun b=>(lnC (F k)).ownBlock=some b) hg (fun q e=>e)) (fun r hr q=>h.apart j hj k hk e r hr q)
   exact own_set h2 ⟨g,k,none⟩ (fun r hr=>own_ne_at (h.own j hj) h.top (by decide) r hr) _
 ·have new:∀j,j<n→j≠k→(lnC (F j)).ownBlock≠some g2:=fun j hj hjk q=>by
   rcases hl with p|p
   ·exact h.apart j hj k hk hjk g2 q p
   ·have:=((h.own j hj).lt g2 q).2
    omega
  by_cases e1:i=k
  ·subst e1
   rw [updL_same] at hr
   rw [updL_other _ _ (fun q=>hij q.symm)]
   simp [lnC,Value.ownBlock] at hr
   subst hr
   exact new j hj (fun q=>hij q.symm)
  ·rw [updL_other _ _ e1] at hr
   by_cases e2:j=k
   ·subst e2
    rw [updL_same]
    intro q
    simp [lnC,Value.ownBlock] at q
    subst q
    exact new i hi e1 hr
   ·rw [updL_other _ _ e2]
    exact h.apart i hi j hj hij r hr
def TurnOut (L:List Ln) (w w':World) (e:Ending):Prop:=
 ∃L' a,e=.returned (.slice a (List.length L') (List.length L'))∧L'.length=L.length∧LkQ (fun b=>w.heap.size≤b) w' a L'∧(∀x y,Ed (kOf L') x y↔Ed (kOf L) y x)∧Lim L'∧Below w.heap.size w w'
theorem BkAt.out {L:List Ln} {w w':World} {B:Nat} {F:Nat→Ln} (h:BkAt w' B w.heap.size L.length F) (hB:w.heap.size≤B) (ht:TurnInv (kOf L) L.length 0 (fun x=>(F x).ks)) (hk:Ok9 (kOf L)) (hL:Tight L) (hb:Below w.heap.size w w'):TurnOut L w w' (.returned (.slice (some ⟨w.heap.size,0,none⟩) L.length L.length)):=by
 have hlen:((List.range L.length).map F).length=L.length:=by simp
 have hget:∀i,i<L.length→((List.range L.length).map F).getD i noLn=F i:=fun i hi=>by simp [hi]
 refine ⟨(List.range L.length).map F,some ⟨w.heap.size,0,none⟩,by rw [hlen],hlen,⟨?_,fun i hi=>?_⟩,fun x y=>?_,⟨by rw [hlen];exact hL.1,fun i hi=>?_⟩,hb⟩
 ·have:=h.top.lsQ
  rw [show lnV ((List.range L.length).map F)=(List.range L.length).map fun j=>lnC (F j) by simp [lnV,lnC]]
  exact this.mono (fun b q _=>by omega)
 ·rw [hlen] at hi
  rw [hget i hi]
  have:=h.own i hi
  exact (LsQ.of_own this).mono (fun b q _=>by have:=(this.lt b q).1;omega)
 ·unfold Ed
  rw [kOf_at]
  by_cases hx:x<L.length
  ·rw [hget x hx,ht.mem x y]
   constructor
   ·rintro (⟨_,q⟩|⟨_,q⟩)
    ·exact q
    ·simp at q
   ·intro q
    have:y<(kOf L).length:=Ed.lt q
    rw [kOf_length] at this
    exact .inl ⟨this,q⟩
  ·have hn:((List.range L.length).map F).getD x noLn=noLn:=by
    rw [List.getD_eq_getElem?_getD,List.getElem?_eq_none (by rw [hlen];omega)]
    rfl
   rw [hn]
   constructor
   ·intro q;simp [noLn] at q
   ·intro q
    have:=hk y x q
    rw [kOf_length] at this
    exact absurd this hx
 ·rw [hlen] at hi
  rw [hget i hi]
  have:=ht.len i
  have:=hL.1
  show (F i).ks.length≤5000000
  omega
theorem turn_step {K:List (List Nat)} {i j:Nat} {F:Nat→Ln} {N:List Nat} {g2 cap2:Nat} (h:TurnInv K i j (fun x=>(F x).ks)) (hN:K.getD i []=N) (hj:j<N.length):TurnInv K i (j+1) (fun x=>(updL F (N.getD j 0) ⟨(F (N.getD j 0)).ks++[i],some ⟨g2,0,none⟩,cap2⟩ x).ks):=by
 subst hN
 have:=h.add hj
 rw [show (fun x=>(updL F ((K.getD i []).getD j 0) ⟨(F ((K.getD i []).getD j 0)).ks++[i],some ⟨g2,0,none⟩,cap2⟩ x).ks)=updK (fun x=>(F x).ks) ((K.getD i []).getD j 0) ((F ((K.getD i []).getD j 0)).ks++[i]) by
  funext x
  unfold updL updK
  split <;> rfl]
 exact this
set_option maxRecDepth 10000 in
set_option maxHeartbeats 800000 in
theorem turned_any {Q:Nat→Prop} (L:List Ln) (a:Option Addr) (c:Nat) (w:World) (hl:LkQ Q w a L) (hk:Ok9 (kOf L)) (hs:Tight L) :
  Calls Tryz.prog 141 #[.slice a L.length c] w fun e w'=>TurnOut L w w' e:=by
 obtain ⟨i0,hi,hz0,hz1,hz2⟩:=info_parts Tryz.infoI7
 obtain ⟨i1,hi1,hz10,hz11,hz12⟩:=info_parts Tryz.infoL9
 have hL:=hs.1
 have hmk:(Instr.makeSlice 147 (.int .i64 (L.length:Int)) (.int .i64 (L.length:Int))).run Tryz.prog w=.ok (.slice (some ⟨w.heap.size,0,none⟩) L.length L.length) (w.alloc (.cells (filled [] L.length (.slice none 0 0)) 49)):=by
  have:=run_make (P:=Tryz.prog) w 147 49 i1 (.slice none 0 0) Tryz.underlying147 hi1 hz10 .i64 .i64 L.length L.length (by omega) (by omega) (by rw [hz12];omega) (by omega)
  rw [hz11,Int.toNat_natCast,filled_new _ _ rfl] at this
  simpa using this
 have A1:Hid (BkAt (w.alloc (.cells (filled [] L.length (.slice none 0 0)) 49)) (w.heap.size+1) w.heap.size L.length (fun _=>noLn)):=by
  refine ⟨?_,fun j hj=>⟨rfl,.inl ⟨rfl,rfl⟩⟩,fun i hi j hj hij r hr=>by simp [lnC,noLn,Value.ownBlock] at hr⟩
  have:=AtN.new w 49 (filled [] L.length (.slice none 0 0))
  rw [show ((List.range L.length).map fun _=>lnC noLn).toArray=filled [] L.length (.slice none 0 0) by
   apply Array.ext
   ·simp [filled]
   ·intro i h1 h2
    simp [filled,lnC,noLn]]
  exact this
 have B1:Hid (Below w.heap.size w (w.alloc (.cells (filled [] L.length (.slice none 0 0)) 49))):=(Below.refl w.heap.size w).alloc (Nat.le_refl _) _
 have HL:Hid _:=And.intro hl (And.intro hk hs)
 clear hl hk hs
 generalize filled [] L.length (.slice none 0 0)=f0 at *
 go_enter Tryz.func141,Tryz.ntmps141
 go_wp2_with fail
 go_loopw [13] (fun iv wr=>∃(i:Nat) (F:Nat→Ln),iv=.int .i64 i∧i≤L.length∧Hid (TurnInv (kOf L) i 0 (fun x=>(F x).ks))∧Hid (BkAt wr (w.heap.size+1) w.heap.size L.length F)∧Hid (Below w.heap.size w wr)) (fun iv _=>L.length-(intOf iv).toNat)
 case atStart=>exact ⟨0,fun _=>noLn,rfl,by omega,TurnInv.start _,A1,B1⟩
 case round=>
  clear A1 B1 hmk
  obtain ⟨i,F,rfl,hi',HI,HA,HB⟩:=hrel
  by_cases hlt:i<L.length
  ·have hlt':(i:Int)<L.length:=by omega
   obtain ⟨b1,o1,rfl,hb1,d1⟩:=(HL.out.1.below HB.out).top.at (lnV_at L i hlt)
   have HE:Hid (∀W,Below w.heap.size w W→LsQ Q W (L.getD i noLn).a (nV (L.getD i noLn).ks)):=fun W hW=>(HL.out.1.below hW).each i hlt
   have hkl:(L.getD i noLn).ks.length≤3000:=HL.out.2.2.2 i hlt
   have HK:Hid ((kOf L).getD i []=(L.getD i noLn).ks):=kOf_at L i
   have HP:Hid (∀k ∈ (L.getD i noLn).ks,k<L.length):=fun k hk=>by
    have:=HL.out.2.1 i k (by unfold Ed;rw [kOf_at];exact hk)
    rwa [kOf_length] at this
   generalize L.getD i noLn=N at *
   clear HL
   go_wp2_with fail
   go_loopw [20] (fun jv wr=>∃(j:Nat) (F:Nat→Ln),jv=.int .i64 j∧j≤N.ks.length∧Hid (TurnInv (kOf L) i j (fun x=>(F x).ks))∧Hid (BkAt wr (w.heap.size+1) w.heap.size L.length F)∧Hid (Below w.heap.size w wr)) (fun jv _=>N.ks.length-(intOf jv).toNat)
   case atStart=>exact ⟨0,F,rfl,by omega,HI,HA,HB⟩
   case round=>
    clear HI HA HB d1 hb1
    obtain ⟨j,F,rfl,hj,HI,HA,HB⟩:=hrel
    by_cases hjl:j<N.ks.length
    ·have hjl':(j:Int)<N.ks.length:=by omega
     obtain ⟨b2,o2,e2,hb2,d2⟩:=LsQ.at (HE.out wr HB.out) (nV_at N.ks j hjl)
     have hx:N.ks.getD j 0<L.length:=HP.out _ (getD_mem hjl)
     have hx':((N.ks.getD j 0:Nat):Int)<L.length:=by omega
     have HI2:Hid (∀g2 cap2,TurnInv (kOf L) i (j+1) (fun x=>(updL F (N.ks.getD j 0) ⟨(F (N.ks.getD j 0)).ks++[i],some ⟨g2,0,none⟩,cap2⟩ x).ks)):=fun g2 cap2=>turn_step HI.out HK.out hjl
     have hlF:(F (N.ks.getD j 0)).ks.length≤5000000:=by
      have:(F (N.ks.getD j 0)).ks.length≤i*3000+j:=HI.out.len (N.ks.getD j 0)
      omega
     have y0:wr.cell? ⟨w.heap.size,N.ks.getD j 0,none⟩=some (.slice (F (N.ks.getD j 0)).a (F (N.ks.getD j 0)).ks.length (F (N.ks.getD j 0)).c):=HA.out.cell hx
     have O3:wr.ownsRow (w.heap.size+1) 3 1 (.slice (F (N.ks.getD j 0)).a (F (N.ks.getD j 0)).ks.length (F (N.ks.getD j 0)).c) (F (N.ks.getD j 0)).ks.length (nV (F (N.ks.getD j 0)).ks):=HA.out.own _ hx
     have hne:∀r,(Value.slice (F (N.ks.getD j 0)).a (F (N.ks.getD j 0)).ks.length (F (N.ks.getD j 0)).c).ownBlock=some r→r≠w.heap.size:=own_ne_at O3 HA.out.top (by decide)
     generalize N.ks.getD j 0=x at *
     have HO3:Hid (wr.ownsRow (w.heap.size+1) 3 1 (.slice (F x).a (F x).ks.length (F x).c) (F x).ks.length (nV (F x).ks)):=O3
     have Hne:Hid (∀r,(Value.slice (F x).a (F x).ks.length (F x).c).ownBlock=some r→r≠w.heap.size):=hne
     have hgl:=HA.out.top.lt
     rw [e2]
     clear HI HE HK HP O3 hne
     generalize hM:F x=M at *
     go_wp2_with (at_builtin;refine wpList_append_lies _ rfl (.tmp 29) (.tmp 31) 49 rfl (w.heap.size+1) 3 i0 (.int .i64 0) 1 8 Tryz.underlying49 hi hz0 hz1 hz2 rfl (by decide) _ M.ks.length (nV M.ks) rfl (HO3.out.alloc _) ⟨wr.heap.size,0,none⟩ 1 1 [.int .i64 (i:Int)] rfl rfl (cell_one_new _ _ _) (by intro u hu;simp at hu;subst hu;rfl) (by decide) (by unfold maxLen;omega) (by omega) (by simp;omega) _ rfl ?_)
     intro g2 cap2 w4 hown4 hgrow4 hlie hlt4
     have t4:AtN 49 w4 w.heap.size _:=(HA.out.top.alloc _).kept hgrow4 (fun e=>Hne.out _ e.symm rfl)
     have y4:w4.cell? ⟨w.heap.size,x,none⟩=some (.slice M.a M.ks.length M.c):=by
      rw [t4.cell]
      simp [hx,hM,lnC]
     have yf:=t4.fz x
     have HB4:Hid (Below w.heap.size w w4):=(HB.out.alloc HB.out.size _).grown hgrow4 (by have:=HB.out.size;simp;omega) (fun k hk=>by
      have:=(HO3.out.lt k hk).1
      omega)
     have HA4:Hid (BkAt (w4.setCell ⟨w.heap.size,x,none⟩ (.slice (some ⟨g2,0,none⟩) (M.ks.length+1) cap2)) (w.heap.size+1) w.heap.size L.length (updL F x ⟨M.ks++[i],some ⟨g2,0,none⟩,cap2⟩)):=by
      subst hM
      exact HA.out.step hx hown4 hgrow4 (hlie.imp id (fun q=>by simpa using q))
     have hgl4:=t4.lt
     clear t4 hown4 hgrow4 hlie HA HB HO3 Hne y0
     go_wp2_with fail
     go_roundw
     case rel=>exact ⟨j+1,updL F x ⟨M.ks++[i],some ⟨g2,0,none⟩,cap2⟩,by go_num,by omega,HI2.out g2 cap2,HA4,set_below HB4.out _ (Nat.le_refl _) _⟩
     case measure=>simp [intOf];omega
    ·have hjl':¬(j:Int)<N.ks.length:=by omega
     have HI2:Hid (TurnInv (kOf L) (i+1) 0 (fun x=>(F x).ks)):=HI.out.next (by rw [HK.out];omega) (by omega)
     clear HI HE HK HP
     go_wp2_with fail
     go_roundw
     case rel=>exact ⟨i+1,F,by go_num,by omega,HI2,HA,HB⟩
     case measure=>simp [intOf];omega
  ·have hlt':¬(i:Int)<L.length:=by omega
   have HV:Hid (TurnOut L w wr (.returned (.slice (some ⟨w.heap.size,0,none⟩) L.length L.length))):=HA.out.out (by omega) ((show i=L.length by omega) ▸ HI.out) HL.out.2.1 HL.out.2.2 HB.out
   clear HL HI HA HB
   go_wp2_with fail
   go_ret
   exact HV.out
end Go.Proofs.YtgoffkfpdigeeaaGreatDoor
