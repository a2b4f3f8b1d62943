import Derived.Test.YtgoffkfpdigeeaaGreatDoorA42
import Derived.Test.YtgoffkfpdigeeaaGreatDoorA15
import Derived.Test.YtgoffkfpdigeeaaGreatDoorA24
import Derived.Test.YtgoffkfpdigeeaaGreatDoorA27
import Derived.Test.YtgoffkfpdigeeaaGreatDoorA43
import Derived.Test.YtgoffkfpdigeeaaGreatDoorA40
import Derived.Test.YtgoffkfpdigeeaaGreatDoorA39
import Derived.Test.YtgoffkfpdigeeaaGreatDoorA16
namespace Go.Proofs.YtgoffkfpdigeeaaGreatDoor
open Go.RowKit Go.Maps Go.WideMaps
set_option maxRecDepth 10000 in
set_option maxHeartbeats 1000000 in
theorem pcr_any (X:List Nx) (a:Option Addr) (c:Nat) (r dp:Int) (w:World) (h:ScAt w a X) (hX:Small X) :
  Calls Tryz.prog 97 #[.agg #[.slice a X.length c,.int .i64 r],.int .i64 dp] w fun e w'=>∃k,e=.returned (.int .i64 k)∧CkIs X r dp k∧Below w.heap.size w w':=by
 have HA0:Hid (AtN 24 (w.alloc (.cells #[.slice a X.length c,.int .i64 r] 24)) w.heap.size #[.slice a X.length c,.int .i64 r]):=AtN.new w 24 _
 have HB0:Hid (Below w.heap.size w (w.alloc (.cells #[.slice a X.length c,.int .i64 r] 24))):=(Below.refl _ _).alloc (Nat.le_refl _) _
 have HCk:Hid (∀W,Below w.heap.size w W→Calls Tryz.prog 56 #[.agg #[.slice a X.length c,.int .i64 r]] W fun e w'=>CheckOut X r W w' e):=fun W hW=>check_any X a c r W (h.belowB hW) hX
 have HDp:Hid (∀W,Below w.heap.size w W→Calls Tryz.prog 108 #[.agg #[.slice a X.length c,.int .i64 r]] W fun e w'=>DepthOut X r W w' e):=fun W hW=>depth_any X a c r W (h.belowB hW) hX
 have HIs:Hid (∀W,Below w.heap.size w W→Calls Tryz.prog 134 #[.agg #[.slice a X.length c,.int .i64 r]] W fun e w'=>IsOut X r W w' e):=fun W hW=>is_any X a c r W (h.belowB hW) hX
 have HDt:Hid (∃d,DepthIs X r d):=depth_there X r
 clear h hX
 go_enter Tryz.func97,Tryz.ntmps97
 go_wp2_with fail
 refine Calls.mono (HCk.out _ HB0.out) ?_
 rintro e w2 ⟨n,z,rfl,hck,hb2⟩
 have HA2:Hid (AtN 24 w2 w.heap.size #[.slice a X.length c,.int .i64 r]):=AtN.belowAll HA0.out hb2
 have HB2:Hid (Below w.heap.size w w2):=HB0.out.trans (hb2.mono HB0.out.size)
 have HCi:Hid (CheckIs X r n z):=hck
 clear HA0 HB0 HCk hb2 hck
 by_cases hn0:n=0
 ·subst hn0
  have x0:w2.cell? ⟨w.heap.size,0,none⟩=some (.slice a X.length c):=HA2.out.cell 0
  have x1:w2.cell? ⟨w.heap.size,1,none⟩=some (.int .i64 r):=HA2.out.cell 1
  go_wp2_with fail
  refine Calls.mono (HDp.out _ HB2.out) ?_
  rintro e w3 ⟨d,rfl,hd,hb3⟩
  have HA3:Hid (AtN 24 w3 w.heap.size #[.slice a X.length c,.int .i64 r]):=AtN.belowAll HA2.out hb3
  have HB3:Hid (Below w.heap.size w w3):=HB2.out.trans (hb3.mono HB2.out.size)
  have HD:Hid (DepthIs X r d):=hd
  clear HA2 HB2 HDp hb3 hd x0 x1 HDt
  by_cases hdd:dp<(d:Int)
  ·have HP:Hid (CkIs X r dp 19):=⟨0,z,d,HCi.out,HD.out,.inr ⟨rfl,.inl ⟨hdd,rfl⟩⟩⟩
   clear HCi HIs HA3
   go_wp2_with fail
   go_ret
   exact ⟨_,rfl,HP.out,HB3.out⟩
  ·have hdd':¬dp<(d:Int):=hdd
   have x0:w3.cell? ⟨w.heap.size,0,none⟩=some (.slice a X.length c):=HA3.out.cell 0
   have x1:w3.cell? ⟨w.heap.size,1,none⟩=some (.int .i64 r):=HA3.out.cell 1
   go_wp2_with fail
   refine Calls.mono (HIs.out _ HB3.out) ?_
   rintro e w4 ⟨bc,rfl,hbc,hb4⟩
   have HB4:Hid (Below w.heap.size w w4):=HB3.out.trans (hb4.mono HB3.out.size)
   clear HA3 HB3 HIs hb4 x0 x1
   cases bc with
   | false=>
    have HP:Hid (CkIs X r dp 16):=⟨0,z,d,HCi.out,HD.out,.inr ⟨rfl,.inr ⟨by omega,.inl ⟨fun q=>by simpa using hbc.2 q,rfl⟩⟩⟩⟩
    clear HCi hbc HD
    go_wp2_with fail
    go_ret
    exact ⟨_,rfl,HP.out,HB4.out⟩
   | true=>
    have HP:Hid (CkIs X r dp 0):=⟨0,z,d,HCi.out,HD.out,.inr ⟨rfl,.inr ⟨by omega,.inr ⟨hbc.1 rfl,rfl⟩⟩⟩⟩
    clear HCi hbc HD
    go_wp2_with fail
    go_ret
    exact ⟨_,rfl,HP.out,HB4.out⟩
 ·have hn0':(n != 0)=true:=by simpa using hn0
  have HP:Hid (CkIs X r dp n):=by
   obtain ⟨d,hd⟩:=HDt.out
   exact ⟨n,z,d,HCi.out,hd,.inl ⟨hn0,rfl⟩⟩
  clear HCi HDt
  go_wp2_with fail
  go_ret
  exact ⟨_,rfl,HP.out,HB2.out⟩
structure Tq (w wr:World) (cS:Array Value) (g gm:Nat) (v:Value) (M:List ByteArray):Prop where
 tb:Tb wr w.heap.size g gm v M
 sc:AtN 24 wr w.heap.size cS
 bel:Below w.heap.size w wr
 hg:∀k,TbS g gm v k→w.heap.size<k
section
variable {w wr w':World} {cS:Array Value} {g gm:Nat} {v:Value} {M M':List ByteArray}
theorem Tq.more (h:Tq w wr cS g gm v M) (hb:Below wr.heap.size wr w'):Tq w w' cS g gm v M:=
 ⟨h.tb.below hb,h.sc.belowAll hb,h.bel.trans (hb.mono h.bel.size),h.hg⟩
theorem Tq.interned (h:Tq w wr cS g gm v M) (hi:TIn wr w' w.heap.size g gm v M'):∃v2,Tq w w' cS g gm v2 M':=by
 obtain ⟨v2,ht,hf,hr⟩:=hi
 have h1:=h.sc.lt
 refine ⟨v2,ht,h.sc.fr hf (fun q=>by have:=h.hg _ q;omega),Fr.below h.bel hf (fun i hi=>h.tb.ge i hi) h.bel.size,fun k hk=>?_⟩
 rcases hr k hk with q|q
 ·exact h.hg k q
 ·omega
end
def PtxOut (X:List Nx) (w w':World) (e:Ending):Prop:=∃g gm v,e=.returned (.pointer (some ⟨g,0,none⟩))∧Tb w' w.heap.size g gm v (itn (allT X))∧Below w.heap.size w w'
set_option maxRecDepth 10000 in
set_option maxHeartbeats 1000000 in
theorem ptx_any (X:List Nx) (a:Option Addr) (c:Nat) (r:Int) (w:World) (h:ScAt w a X) (hX:Small X) :
  Calls Tryz.prog 98 #[.agg #[.slice a X.length c,.int .i64 r]] w fun e w'=>PtxOut X w w' e:=by
 have HS:Hid (ScAt w a X∧Small X):=⟨h,hX⟩
 have HA0:Hid (AtN 24 (w.alloc (.cells #[.slice a X.length c,.int .i64 r] 24)) w.heap.size #[.slice a X.length c,.int .i64 r]):=AtN.new w 24 _
 have HB0:Hid (Below w.heap.size w (w.alloc (.cells #[.slice a X.length c,.int .i64 r] 24))):=(Below.refl _ _).alloc (Nat.le_refl _) _
 have hn:=hX.1
 clear h hX
 go_enter Tryz.func98,Tryz.ntmps98
 go_wp2_with fail
 refine Calls.mono (tnew_any _) ?_
 rintro e w1 ⟨rfl,ht1,hb1⟩
 have hsz:(w.alloc (.cells #[.slice a X.length c,.int .i64 r] 24)).heap.size=w.heap.size+1:=by simp
 rw [hsz] at ht1
 have hbd:Below w.heap.size w w1:=HB0.out.trans (hb1.mono HB0.out.size)
 have HQ0:Hid (Tq w w1 #[.slice a X.length c,.int .i64 r] (w.heap.size+1+1) (w.heap.size+1) (.slice none 0 0) []):=
  ⟨ht1.mono (by omega),AtN.belowAll HA0.out hb1,hbd,fun k hk=>by
   rcases hk with rfl|rfl|hk
   ·omega
   ·omega
   ·simp [Value.ownBlock] at hk⟩
 clear HA0 HB0 ht1 hb1 hbd hsz
 obtain ⟨gm,hgm⟩:∃gm,w.heap.size+1=gm:=⟨_,rfl⟩
 rw [hgm] at HQ0
 rw [show (w.alloc (.cells #[.slice a X.length c,.int .i64 r] 24)).heap.size=gm by simp;exact hgm]
 have x0:w1.cell? ⟨w.heap.size,0,none⟩=some (.slice a X.length c):=HQ0.out.sc.cell 0
 clear hgm
 go_wp2_with fail
 go_loopw [12] (fun iv wr=>∃(i:Nat) (v:Value),iv=.int .i64 i∧i≤X.length∧Hid (Tq w wr #[.slice a X.length c,.int .i64 r] (gm+1) gm v (itn (allT (X.take i))))) (fun iv _=>X.length-(intOf iv).toNat)
 case atStart=>exact ⟨0,_,rfl,by omega,by simpa [itn,allT] using HQ0⟩
 case round=>
  clear HQ0 x0
  obtain ⟨i,v,rfl,hi,HQ⟩:=hrel
  by_cases hlt:i<X.length
  ·have hlt':(i:Int)<X.length:=by omega
   obtain ⟨bb,ob,rfl,hbb,z0,z1,z2,z3⟩:=(HS.out.1.belowB HQ.out.bel).node hlt
   have HE:Hid (∀W,Below w.heap.size w W→LsAt W (X.getD i noNx).a2 (tV (X.getD i noNx).nd.texts)):=fun W hW=>((HS.out.1.belowB hW).each i hlt).t
   have HZ:Hid (∀k,(upT X i k).length≤140100∧∀s ∈ upT X i k,s.size≤3000):=fun k=>upT_small X HS.out.2 i k hlt
   have HU0:Hid (itn (allT (X.take i))=itn (upT X i 0)):=by show _=_;rw [upT_zero]
   have HU1:Hid (∀k,k<(X.getD i noNx).nd.texts.length→upT X i (k+1)=upT X i k++[(X.getD i noNx).nd.texts.getD k noT]):=fun k hk=>upT_next X i k hk
   have HU2:Hid (itn (upT X i (X.getD i noNx).nd.texts.length)=itn (allT (X.take (i+1)))):=by show _=_;rw [upT_full X i hlt]
   have HSz:Hid (∀s ∈ (X.getD i noNx).nd.texts,s.size≤3000):=(big_no (HS.out.2.2 i hlt)).2.2.2
   have hng:=(big_no (HS.out.2.2 i hlt)).2.1
   rw [HU0.out] at HQ
   generalize upT X i=U at *
   generalize X.getD i noNx=N at *
   obtain ⟨⟨kd,I,T,K⟩,a1,c1,a2,c2,a3,c3⟩:=N
   dsimp only at *
   obtain ⟨W9,hW9⟩:∃W9,wr.alloc (.cells #[.int .i64 kd,.slice a1 I.length c1,.slice a2 T.length c2,.slice a3 K.length c3] 51)=W9:=⟨_,rfl⟩
   have hb9:Below wr.heap.size wr W9:=by rw [← hW9];exact (Below.refl _ _).alloc (Nat.le_refl _) _
   have hA9:AtN 51 W9 wr.heap.size #[.int .i64 kd,.slice a1 I.length c1,.slice a2 T.length c2,.slice a3 K.length c3]:=by rw [← hW9];exact AtN.new wr 51 _
   have HQ9:Hid (Tq w W9 #[.slice (some ⟨bb,ob,none⟩) X.length c,.int .i64 r] (gm+1) gm v (itn (U 0))):=HQ.out.more hb9
   have n2:W9.cell? ⟨wr.heap.size,2,none⟩=some (.slice a2 T.length c2):=hA9.cell 2
   clear HQ HU0 hA9 hb9
   go_wp2_with fail
   clear hW9 n2
   go_loopw [19] (fun kv wr=>∃(k:Nat) (v:Value),kv=.int .i64 k∧k≤T.length∧Hid (Tq w wr #[.slice (some ⟨bb,ob,none⟩) X.length c,.int .i64 r] (gm+1) gm v (itn (U k)))) (fun kv _=>T.length-(intOf kv).toNat)
   case atStart=>exact ⟨0,v,rfl,by omega,HQ9⟩
   case round=>
    clear HQ9 z0 z1 z2 z3
    obtain ⟨k,v,rfl,hk,HQ⟩:=hrel
    by_cases hkl:k<T.length
    ·have hkl':(k:Int)<T.length:=by omega
     obtain ⟨g2,o2,e2,hb2,d4⟩:=(HE.out _ HQ.out.bel).at (tV_at T k hkl)
     subst e2
     have hsz:(T.getD k noT).size≤3000:=HSz.out _ (by rw [List.getD_eq_getElem?_getD,List.getElem?_eq_getElem hkl];exact List.getElem_mem hkl)
     have HL1:Hid (itn (U (k+1))=pIntern (itn (U k)) (T.getD k noT)):=by show _=_;rw [HU1.out k hkl,itn_snoc]
     have hle0:=itn_sum (U k) (HZ.out k).1 (HZ.out k).2
     have HI:Hid _:=tintern_any HQ.out.tb (T.getD k noT) (by omega) (by omega) (by omega)
     rw [← HL1.out] at HI
     generalize T.getD k noT=s at *
     clear hle0 HL1
     go_wp2_with fail
     refine Calls.mono HI.out ?_
     rintro e w5 ⟨rfl,hI5⟩
     obtain ⟨v5,hq5⟩:=HQ.out.interned hI5
     have HQ5:Hid _:=hq5
     clear HI hI5 hq5 HQ d4 hb2
     go_wp2_with fail
     go_roundw
     case rel=>exact ⟨k+1,v5,by go_num,by omega,HQ5⟩
     case measure=>simp [intOf];omega
    ·have hkl':¬(k:Int)<T.length:=by omega
     obtain rfl:k=T.length:=by omega
     rw [HU2.out] at HQ
     clear HU1 HU2 HZ HE HSz
     go_wp2_with fail
     go_roundw
     case rel=>exact ⟨i+1,v,by go_num,by omega,HQ⟩
     case measure=>simp [intOf];omega
  ·have hlt':¬(i:Int)<X.length:=by omega
   rw [List.take_of_length_le (show X.length≤i by omega)] at HQ
   go_wp2_with fail
   go_ret
   exact ⟨_,_,_,rfl,HQ.out.tb,HQ.out.bel⟩
end Go.Proofs.YtgoffkfpdigeeaaGreatDoor
namespace Go.Proofs.YtgoffkfpdigeeaaGreatDoor
open Go.RowKit Go.Maps Go.WideMaps Go.Sort
structure Gx (w W:World) (l:Lm):Prop where
 a:AtN 26 W w.heap.size (liC l)
 r:AtN 24 W (w.heap.size+1) #[.slice none 0 0,.int .i64 0]
 bel:Below w.heap.size w W
theorem Gx.more {w W W':World} {l:Lm} (h:Gx w W l) (hb:Below W.heap.size W W'):Gx w W' l:=⟨h.a.belowAll hb,h.r.belowAll hb,h.bel.trans (hb.mono h.bel.size)⟩
theorem tell_scene {tx nb:ByteArray} {l:Lm} {w W0 W:World} {B c:Nat} {r:Int} {a:Option Addr} {Y:List Nx} (hG:GeIs tx nb l (Y.map Nx.nd) r 0) (hx:Gx w W l) (hB:w.heap.size+1<B) (hs0:∀W,Fr (fun b=>b<B) W0 W→ScAt W a Y) (h0:Below W0.heap.size W0 W) (hs:Small Y) (hf:FnX Y) :
  ∀W',W'=(W.setCell ⟨w.heap.size+1,0,none⟩ (.slice a Y.length c)).setCell ⟨w.heap.size+1,1,none⟩ (.int .i64 r)→AtN 24 W' (w.heap.size+1) #[.slice a Y.length c,.int .i64 r]∧GeOut2 tx nb l w W' (.returned (.tuple #[.agg #[.slice a Y.length c,.int .i64 r],.int .i64 0])):=by
 rintro _ rfl
 have hF:Fr (fun b=>b=w.heap.size+1) W ((W.setCell ⟨w.heap.size+1,0,none⟩ (.slice a Y.length c)).setCell ⟨w.heap.size+1,1,none⟩ (.int .i64 r)):=((Fr.refl (fun b=>b=w.heap.size+1) W).set ⟨w.heap.size+1,0,none⟩ rfl _).set ⟨w.heap.size+1,1,none⟩ rfl _
 exact ⟨by simpa using (hx.r.set 0 (.slice a Y.length c)).set 1 (.int .i64 r),Y,a,c,r,0,rfl,hG,fun W2 f=>hs0 W2 (((Fr.of_below (S:=fun b=>b<B) h0).trans hF (fun i e _=>by omega)).trans f (fun i hi _=>by omega)),hs,hf,Fr.below hx.bel hF (fun i e=>by omega) hx.bel.size⟩
theorem put_iff {tx:ByteArray} {x:Int} {L:List ByteArray} {X:List Nx} (h:pGet6 tx 16777216 x=(0,L)) (hz:tx.size≤1000000) (hX:Small X):(⟨(pPut6 (itn (allT X))).toArray⟩:ByteArray)=tx↔itn (allT X)=L:=by
 have hok:=pGet6_ok tx 16777216 x (by rw [h])
 rw [h] at hok
 dsimp only at hok
 obtain ⟨h1,h2,h3⟩:=hok
 have hs:=allT_small X hX X.length (Nat.le_refl _)
 rw [List.take_of_length_le (Nat.le_refl _)] at hs
 have hn:=hX.1
 have hi:=itn_len (allT X)
 constructor
 ·intro e
  have e1:pPut6 (itn (allT X))=tx.data.toList:=by rw [← e]
  refine pPut6_inj (by rw [e1,h1]) (by omega) (by omega) (fun s q=>by have:=hs.2 s ((itn_mem _ _).1 q);omega) (fun s q=>by have:=sum6_at q;omega)
 ·intro e
  rw [e,h1]
set_option maxRecDepth 10000 in
set_option maxHeartbeats 4000000 in
theorem pnget2_any (tx nb:ByteArray) (l:Lm) (w:World) (hT:Tabs12 w) (hz:tx.size≤1000000) (hy:nb.size≤4000000) (hQ:∀L,pGet6 tx 16777216 l.x=(0,L)→Qn nb L l) (hl:∀i,i<5→-9223372036854775808≤(lmL l).getD i 0∧(lmL l).getD i 0≤9223372036854775807) :
  Calls Tryz.prog 51 #[.string tx,.string nb,.agg (liC l)] w fun e w'=>GeOut2 tx nb l w w' e:=by
 have HA:Hid (∀(o1 o2:Obj),o1=.cells (liC l) 26→o2=.cells #[.slice none 0 0,.int .i64 0] 24→Gx w ((w.alloc o1).alloc o2) l):=by
  rintro _ _ rfl rfl
  exact ⟨(AtN.new w 26 _).alloc _,mk_at (AtN.new (w.alloc _) 24 _) (show _=w.heap.size+1 by simp),((Below.refl w.heap.size w).alloc (Nat.le_refl _) _).alloc (by simp) _⟩
 have hlC:liC l=#[.int .i64 l.b,.int .i64 l.n,.int .i64 l.e,.int .i64 l.d,.int .i64 l.x]:=rfl
 have HT:Hid (Tabs12 w):=hT
 have HQ:Hid (∀L,pGet6 tx 16777216 l.x=(0,L)→Qn nb L l):=hQ
 have hlx:=hl 4 (by omega)
 rw [show (lmL l).getD 4 0=l.x from rfl] at hlx
 clear hT hl hQ
 go_enter Tryz.func51,Tryz.ntmps51
 rw [hlC]
 go_wp2_with fail
 have hx0:=HA.out _ _ rfl rfl
 rw [hlC] at hx0
 refine (okl_any l _).mono ?_
 rintro e w1 ⟨rfl,hb1⟩
 have HX1:Hid (Gx w w1 l):=hx0.more hb1
 have hs1:w.heap.size+1<w1.heap.size:=HX1.out.r.lt
 clear HA hx0 hb1 hlC
 have r0:w1.cell? ⟨w.heap.size+1,0,none⟩=some (.slice none 0 0):=HX1.out.r.cell 0
 have r1:w1.cell? ⟨w.heap.size+1,1,none⟩=some (.int .i64 0):=HX1.out.r.cell 1
 have f0:=HX1.out.r.fz 0
 have f1:=HX1.out.r.fz 1
 cases hok:okL l with
 | false=>
  have HV:Hid _:=tell_bad (GeIs.bad (geK_1 tx nb l hok) (by decide)) HX1.out.bel HX1.out.r
  go_wp2_with fail
  obtain ⟨v2,v1⟩:=HV.out _ rfl
  have c0:=v2.cell 0
  have c1:=v2.cell 1
  exact bodyPost_ret (v:=.tuple #[.agg #[.slice none 0 0,.int .i64 0],.int .i64 1]) (by simp [results,Tryz.results51,go_sem,c0,c1]) rfl v1
 | true=>
  have a4:w1.cell? ⟨w.heap.size,4,none⟩=some (.int .i64 l.x):=HX1.out.a.cell 4
  obtain ⟨te,L,hG⟩:∃te L,pGet6 tx 16777216 l.x=(te,L):=⟨_,_,rfl⟩
  have HG:Hid _:=tget_any tx 16777216 l.x w1 (by omega) (by omega) hlx.2
  rw [hG] at HG
  go_wp2_with fail
  refine Calls.mono HG.out ?_
  rintro e w2 ⟨hb2,hor⟩
  dsimp only at hor
  have HX2:Hid (Gx w w2 l):=HX1.out.more hb2
  clear HG r0 r1 f0 f1 a4
  have r0:w2.cell? ⟨w.heap.size+1,0,none⟩=some (.slice none 0 0):=HX2.out.r.cell 0
  have r1:w2.cell? ⟨w.heap.size+1,1,none⟩=some (.int .i64 0):=HX2.out.r.cell 1
  have f0:=HX2.out.r.fz 0
  have f1:=HX2.out.r.fz 1
  rcases hor with ⟨hte,rfl⟩|⟨hte,g,gm,v,rfl,ht⟩
  ·have hte':(te != 0)=true:=by simpa using hte
   have HV:Hid _:=tell_bad (GeIs.bad (geK_2 tx nb l hok hG hte) hte) HX2.out.bel HX2.out.r
   go_wp2_with fail
   obtain ⟨v2,v1⟩:=HV.out _ rfl
   have c0:=v2.cell 0
   have c1:=v2.cell 1
   exact bodyPost_ret (v:=.tuple #[.agg #[.slice none 0 0,.int .i64 0],.int .i64 te]) (by simp [results,Tryz.results51,go_sem,c0,c1]) rfl v1
  ·subst hte
   have a0:w2.cell? ⟨w.heap.size,0,none⟩=some (.int .i64 l.b):=HX2.out.a.cell 0
   have a1:w2.cell? ⟨w.heap.size,1,none⟩=some (.int .i64 l.n):=HX2.out.a.cell 1
   have a2:w2.cell? ⟨w.heap.size,2,none⟩=some (.int .i64 l.e):=HX2.out.a.cell 2
   have a3:w2.cell? ⟨w.heap.size,3,none⟩=some (.int .i64 l.d):=HX2.out.a.cell 3
   have a4:w2.cell? ⟨w.heap.size,4,none⟩=some (.int .i64 l.x):=HX2.out.a.cell 4
   have HRd:Hid (Calls Tryz.prog 96 #[.string nb,.pointer (some ⟨g,0,none⟩),.agg #[.int .i64 l.b,.int .i64 l.n,.int .i64 l.e,.int .i64 l.d,.int .i64 l.x]] w2 fun e w'=>RdnOut tx nb l L w2 w' e):=pread_any tx nb l L w2 ht (HT.out.on HX2.out.bel) hy (HQ.out L hG) hok hG
   have hs2:w.heap.size+1<w2.heap.size:=HX2.out.r.lt
   clear ht HX1 hs1 hb2
   go_wp2_with fail
   refine Calls.mono HRd.out ?_
   rintro e w3 ⟨X,a,c,k,rfl,hk1,hk2,hb3⟩
   obtain ⟨w4,hw4⟩:∃w4,w3.alloc (.cells #[.slice a X.length c,.int .i64 ((X.length:Int)-1)] 24)=w4:=⟨_,rfl⟩
   have hb4:Below w3.heap.size w3 w4:=by rw [← hw4];exact (Below.refl w3.heap.size w3).alloc (Nat.le_refl _) _
   have HA4:Hid (AtN 24 w4 w3.heap.size #[.slice a X.length c,.int .i64 ((X.length:Int)-1)]):=by rw [← hw4];exact AtN.new w3 24 _
   have HX4:Hid (Gx w w4 l):=(HX2.out.more hb3).more hb4
   have HK1:Hid (k≠0→(geK tx nb l).1=k):=hk1
   have HK2:Hid (k=0→geK tx nb l=(0,X.map Nx.nd,L)∧Small X∧FnX X∧∀W,Fr (fun b=>b<w2.heap.size) w4 W→ScAt W a X):=fun q=>by
    obtain ⟨q1,q2,q3,q4⟩:=hk2 q
    exact ⟨q1,q2,q3,fun W f=>q4 W ((Fr.of_below (S:=fun b=>b<w2.heap.size) hb4).trans f (fun i hi _=>hi))⟩
   clear hk1 hk2 hb3 hb4 HRd r0 r1 f0 f1 a0 a1 a2 a3 a4 HX2
   have s0:w4.cell? ⟨w3.heap.size,0,none⟩=some (.slice a X.length c):=HA4.out.cell 0
   have s1:w4.cell? ⟨w3.heap.size,1,none⟩=some (.int .i64 ((X.length:Int)-1)):=HA4.out.cell 1
   have r0:w4.cell? ⟨w.heap.size+1,0,none⟩=some (.slice none 0 0):=HX4.out.r.cell 0
   have r1:w4.cell? ⟨w.heap.size+1,1,none⟩=some (.int .i64 0):=HX4.out.r.cell 1
   have f0:=HX4.out.r.fz 0
   have f1:=HX4.out.r.fz 1
   by_cases hk:k=0
   ·obtain ⟨q1,q2,q3,q4⟩:=HK2.out hk
    subst hk
    have HGe:Hid (geK tx nb l=(0,X.map Nx.nd,L)):=q1
    have HSm:Hid (Small X∧FnX X):=⟨q2,q3⟩
    have HSc:Hid (∀W,Fr (fun b=>b<w2.heap.size) w4 W→ScAt W a X):=q4
    have a3:w4.cell? ⟨w.heap.size,3,none⟩=some (.int .i64 l.d):=HX4.out.a.cell 3
    have HCr:Hid _:=pcr_any X a c ((X.length:Int)-1) l.d w4 (q4 w4 (Fr.refl _ _)) q2
    clear q1 q2 q3 q4 HK1 HK2
    go_wp2_with fail
    clear hw4
    refine Calls.mono HCr.out ?_
    rintro e w5 ⟨k5,rfl,hck,hb5⟩
    have HA5:Hid (AtN 24 w5 w3.heap.size #[.slice a X.length c,.int .i64 ((X.length:Int)-1)]):=HA4.out.belowAll hb5
    have HX5:Hid (Gx w w5 l):=HX4.out.more hb5
    have HB5:Hid (Below w4.heap.size w4 w5):=hb5
    have HCk:Hid (CkIs X ((X.length:Int)-1) l.d k5):=hck
    clear HCr hck hb5 HA4 HX4 s0 s1 r0 r1 f0 f1 a3
    have s0:w5.cell? ⟨w3.heap.size,0,none⟩=some (.slice a X.length c):=HA5.out.cell 0
    have s1:w5.cell? ⟨w3.heap.size,1,none⟩=some (.int .i64 ((X.length:Int)-1)):=HA5.out.cell 1
    have r0:w5.cell? ⟨w.heap.size+1,0,none⟩=some (.slice none 0 0):=HX5.out.r.cell 0
    have r1:w5.cell? ⟨w.heap.size+1,1,none⟩=some (.int .i64 0):=HX5.out.r.cell 1
    have f0:=HX5.out.r.fz 0
    have f1:=HX5.out.r.fz 1
    by_cases hk5:k5=0
    ·subst hk5
     have HOf:Hid (∀q,((itn (allT X)≠L∧q=18)∨(itn (allT X)=L∧q=0))→(q≠0→GeIs tx nb l (([]:List Nx).map Nx.nd) 0 q)∧(q=0→GeIs tx nb l (X.map Nx.nd) ((X.length:Int)-1) 0)):=fun q hq=>GeIs.of HGe.out rfl (HCk.out.good q hq)
     have HIf:Hid ((⟨(pPut6 (itn (allT X))).toArray⟩:ByteArray)=tx↔itn (allT X)=L):=put_iff hG hz HSm.out.1
     have HTx:Hid _:=ptx_any X a c ((X.length:Int)-1) w5 (HSc.out w5 (Fr.of_below HB5.out)) HSm.out.1
     have HZ:Hid ((itn (allT X)).length≤140100∧sum6 (itn (allT X))≤420300000):=by
      have h1:=allT_small X HSm.out.1 X.length (Nat.le_refl _)
      rw [List.take_of_length_le (Nat.le_refl _)] at h1
      have hn:=HSm.out.1.1
      have:=itn_sum (allT X) (by omega) h1.2
      exact ⟨this.2,this.1⟩
     clear HGe HCk
     go_wp2_with fail
     refine Calls.mono HTx.out ?_
     rintro e w6 ⟨g6,gm6,v6,rfl,ht6,hb6⟩
     have HA6:Hid (AtN 24 w6 w3.heap.size #[.slice a X.length c,.int .i64 ((X.length:Int)-1)]):=HA5.out.belowAll hb6
     have HX6:Hid (Gx w w6 l):=HX5.out.more hb6
     have HB6:Hid (Below w4.heap.size w4 w6):=HB5.out.trans (hb6.mono HB5.out.size)
     have HPt:Hid _:=tput_any ht6 (by have:=HZ.out.1;omega) (by have:=HZ.out.2;omega)
     clear HTx hb6 HA5 HX5 HB5 s0 s1 r0 r1 f0 f1 HZ
     obtain ⟨A,hA⟩:∃A:ByteArray,(⟨(pPut6 (itn (allT X))).toArray⟩:ByteArray)=A:=⟨_,rfl⟩
     rw [hA] at HPt HIf
     clear hA ht6
     go_wp2_with fail
     refine Calls.mono HPt.out ?_
     rintro e w7 ⟨rfl,hb7⟩
     have HA7:Hid (AtN 24 w7 w3.heap.size #[.slice a X.length c,.int .i64 ((X.length:Int)-1)]):=HA6.out.belowAll hb7
     have HX7:Hid (Gx w w7 l):=HX6.out.more hb7
     have HB7:Hid (Below w4.heap.size w4 w7):=HB6.out.trans (hb7.mono HB6.out.size)
     clear HPt hb7 HA6 HX6 HB6
     have s0:w7.cell? ⟨w3.heap.size,0,none⟩=some (.slice a X.length c):=HA7.out.cell 0
     have s1:w7.cell? ⟨w3.heap.size,1,none⟩=some (.int .i64 ((X.length:Int)-1)):=HA7.out.cell 1
     have r0:w7.cell? ⟨w.heap.size+1,0,none⟩=some (.slice none 0 0):=HX7.out.r.cell 0
     have r1:w7.cell? ⟨w.heap.size+1,1,none⟩=some (.int .i64 0):=HX7.out.r.cell 1
     have f0:=HX7.out.r.fz 0
     have f1:=HX7.out.r.fz 1
     by_cases hAt:A=tx
     ·have hbq:(A.toList==tx.toList)=true:=by rw [eq_text];exact decide_eq_true hAt
      have HV:Hid _:=tell_scene (c:=c) ((HOf.out 0 (.inr ⟨HIf.out.1 hAt,rfl⟩)).2 rfl) HX7.out hs2 HSc.out HB7.out HSm.out.1 HSm.out.2
      clear HOf HIf hAt
      go_wp2_with fail
      obtain ⟨v2,v1⟩:=HV.out _ rfl
      have c0:=v2.cell 0
      have c1:=v2.cell 1
      exact bodyPost_ret (v:=.tuple #[.agg #[.slice a X.length c,.int .i64 ((X.length:Int)-1)],.int .i64 0]) (by simp [results,Tryz.results51,go_sem,c0,c1]) rfl v1
     ·have hbq:(A.toList==tx.toList)=false:=by rw [eq_text];exact decide_eq_false hAt
      have HV:Hid _:=tell_bad ((HOf.out 18 (.inl ⟨fun q=>hAt (HIf.out.2 q),rfl⟩)).1 (by decide)) HX7.out.bel HX7.out.r
      clear HOf HIf hAt
      go_wp2_with fail
      obtain ⟨v2,v1⟩:=HV.out _ rfl
      have c0:=v2.cell 0
      have c1:=v2.cell 1
      exact bodyPost_ret (v:=.tuple #[.agg #[.slice none 0 0,.int .i64 0],.int .i64 18]) (by simp [results,Tryz.results51,go_sem,c0,c1]) rfl v1
    ·have hk5':(k5==0)=false:=by simpa using hk5
     have hk5'':(k5 != 0)=true:=by simpa using hk5
     have HV:Hid _:=tell_bad ((GeIs.of HGe.out rfl (HCk.out.bad hk5)).1 hk5) HX5.out.bel HX5.out.r
     clear HGe HCk HSc HSm
     go_wp2_with fail
     obtain ⟨v2,v1⟩:=HV.out _ rfl
     have c0:=v2.cell 0
     have c1:=v2.cell 1
     exact bodyPost_ret (v:=.tuple #[.agg #[.slice none 0 0,.int .i64 0],.int .i64 k5]) (by simp [results,Tryz.results51,go_sem,c0,c1]) rfl v1
   ·have hk':(k==0)=false:=by simpa using hk
    have hk'':(k != 0)=true:=by simpa using hk
    have HV:Hid _:=tell_bad (GeIs.bad (HK1.out hk) hk) HX4.out.bel HX4.out.r
    clear HK1 HK2
    go_wp2_with fail
    clear hw4
    obtain ⟨v2,v1⟩:=HV.out _ rfl
    have c0:=v2.cell 0
    have c1:=v2.cell 1
    exact bodyPost_ret (v:=.tuple #[.agg #[.slice none 0 0,.int .i64 0],.int .i64 k]) (by simp [results,Tryz.results51,go_sem,c0,c1]) rfl v1
end Go.Proofs.YtgoffkfpdigeeaaGreatDoor
