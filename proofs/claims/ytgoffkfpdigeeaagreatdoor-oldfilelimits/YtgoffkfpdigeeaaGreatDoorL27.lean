import Derived.Test.YtgoffkfpdigeeaaGreatDoorL26
import Derived.Test.YtgoffkfpdigeeaaGreatDoorL02
import Derived.Test.YtgoffkfpdigeeaaGreatDoorL19
import Derived.Test.YtgoffkfpdigeeaaGreatDoorL17
import Derived.Test.YtgoffkfpdigeeaaGreatDoorL23
namespace Go.Proofs.YtgoffkfpdigeeaaGreatDoor
open Go.RowKit Go.Maps Go.WideMaps Go.Sort
theorem Aprt.nil:Aprt []:=fun i j _ h=>by simp at h
theorem getD_snocN (Y:List Nx) (y:Nx) (j:Nat) (h:j<Y.length):(Y++[y]).getD j noNx=Y.getD j noNx:=by rw [List.getD_eq_getElem?_getD,List.getElem?_append_left h,← List.getD_eq_getElem?_getD]
theorem Aprt.snoc {Y:List Nx} {y:Nx} {B:Nat} (h:Aprt Y) (h1:∀j,j<Y.length→∀g,kidB (Y.getD j noNx)=some g→g<B) (h2:∀g,kidB y=some g→B≤g):Aprt (Y++[y]):=by
 intro i j hij hj g hi hjg
 by_cases hl:j<Y.length
 ·rw [getD_snocN Y y j hl] at hjg
  rw [getD_snocN Y y i (by omega)] at hi
  exact h i j hij hl g hi hjg
 ·obtain rfl:j=Y.length:=by simp at hj;omega
  rw [getD_snocN Y y i (by omega)] at hi
  rw [show (Y++[y]).getD Y.length noNx=y by simp] at hjg
  have:=h1 i (by omega) g hi
  have:=h2 g hjg
  omega
theorem Aprt.ne {Y:List Nx} (h:Aprt Y) {i j:Nat} (hi:i<Y.length) (hj:j<Y.length) (hne:i≠j) {g:Nat} (h1:kidB (Y.getD i noNx)=some g):kidB (Y.getD j noNx)≠some g:=by
 rcases Nat.lt_or_gt_of_ne hne with q|q
 ·exact h i j q hj g h1
 ·exact fun h2=>h j i q hi g h2 h1
end Go.Proofs.YtgoffkfpdigeeaaGreatDoor
namespace Go.Proofs.YtgoffkfpdigeeaaGreatDoor
open Go.RowKit Go.Maps Go.WideMaps Go.Sort
def trn (n:Nat) (z:Int):Int:=wrap64 ((n:Int)-1-z)
theorem trn_place {n:Nat} {z:Int} (hn:n≤1401) (h:isPb n z=true):isPb n (trn n z)=true∧trn n z=((n-1-z.toNat:Nat):Int):=by
 have h1:=isPb_iff.1 h
 have h2:trn n z=(n:Int)-1-z:=by
  unfold trn
  rw [IntWalk.wrap64_in _ (by omega)]
 refine ⟨isPb_iff.2 ?_,?_⟩ <;> rw [h2] <;> omega
def trnNd (n:Nat) (N:Nd):Nd:=⟨N.kind,N.ints,N.texts,N.kids.map (trn n)⟩
def STurnOut2 (X:List Nx) (r:Int) (w w':World) (e:Ending):Prop:=∃T a c,e=.returned (.agg #[.slice a (List.length T) c,.int .i64 (trn X.length r)])∧T.length=X.length∧(∀j,j<X.length→(T.getD j noNx).nd=trnNd X.length (X.getD (X.length-1-j) noNx).nd)∧(w'.ownsRow w.heap.size 51 4 (.slice a T.length c) T.length (nxV T)∧∀j,j<T.length→OwnNx w' w.heap.size (T.getD j noNx))∧Below w.heap.size w w'
def tk (n:Nat) (l:List Int) (k:Nat):List Int:=(l.take k).map (trn n)++l.drop k
theorem tk_zero (n:Nat) (l:List Int):tk n l 0=l:=by simp [tk]
theorem tk_all (n:Nat) (l:List Int):tk n l l.length=l.map (trn n):=by simp [tk]
theorem tk_at (n:Nat) (l:List Int) (k:Nat) (h:k<l.length):(iV (tk n l k))[k]? = some (.int .i64 (l.getD k 0)):=by
 have h1:(tk n l k)[k]? = some (l.getD k 0):=by
  unfold tk
  rw [List.getElem?_append_right (by simp;omega)]
  simp [h,Nat.min_eq_left (Nat.le_of_lt h)]
 unfold iV
 rw [List.getElem?_map,h1]
 rfl
theorem tk_set (n:Nat) (l:List Int) (k:Nat) (h:k<l.length):(iV (tk n l k)).set k (.int .i64 (trn n (l.getD k 0)))=iV (tk n l (k+1)):=by
 have h1:(tk n l k).set k (trn n (l.getD k 0))=tk n l (k+1):=by
  unfold tk
  have hm:((l.take k).map (trn n)).length=k:=by simp;omega
  rw [List.set_append_right _ _ (by omega),hm,Nat.sub_self,List.take_add_one,List.getD_eq_getElem?_getD,List.getElem?_eq_getElem h,show l.drop k=l[k] :: l.drop (k+1) from List.drop_eq_getElem_cons h,List.map_append,List.append_assoc]
  rfl
 rw [← h1]
 unfold iV
 rw [List.map_set]
structure Tg (w:World) (B g:Nat) (N:Nd) (n k:Nat) (a1 a2 a3:Option Addr) (c1 c2 c3:Nat):Prop where
 nd:AtN 51 w g #[.int .i64 N.kind,.slice a1 N.ints.length c1,.slice a2 N.texts.length c2,.slice a3 N.kids.length c3]
 i:w.ownsRow B 2 1 (.slice a1 N.ints.length c1) N.ints.length (iV N.ints)
 t:w.ownsRow B 9 1 (.slice a2 N.texts.length c2) N.texts.length (tV N.texts)
 k:w.ownsRow B 3 1 (.slice a3 N.kids.length c3) N.kids.length (iV (tk n N.kids k))
theorem Tg.drew {w:World} {B g:Nat} {N:Nd} {n k:Nat} {a1 a2 a3:Option Addr} {c1 c2 c3:Nat} (h:Tg w B g N n k a1 a2 a3 c1 c2 c3):Tg w.drew B g N n k a1 a2 a3 c1 c2 c3:=⟨h.nd,h.i,h.t,h.k⟩
theorem Tg.next {w:World} {B g:Nat} {N:Nd} {n k:Nat} {a1 a2 a3:Option Addr} {c1 c2 c3:Nat} (h:Tg w B g N n k a1 a2 a3 c1 c2 c3) (hk:k<N.kids.length):∃q,a3=some ⟨q,0,none⟩∧w.cell? ⟨q,k,none⟩=some (.int .i64 (N.kids.getD k 0))∧w.frozen? ⟨q,k,none⟩=false∧B≤q∧q<w.heap.size∧
  Tg (w.setCell ⟨q,k,none⟩ (.int .i64 (trn n (N.kids.getD k 0)))) B g N n (k+1) a1 a2 a3 c1 c2 c3:=by
 obtain ⟨q,rfl,h1,h2,h3,h4,h5⟩:=own_store9 h.k k hk
 have hq:(Value.slice (some ⟨q,0,none⟩) N.kids.length c3).ownBlock=some q:=rfl
 refine ⟨q,rfl,by rw [h1,tk_at n N.kids k hk],h2,h3,h4,?_,?_,?_,?_⟩
 ·exact h.nd.setOther _ (fun e=>own_ne_at h.k h.nd (by decide) q hq e) _
 ·exact own_set h.i _ (fun r hr e=>own_apart9 h.k h.i (by decide) hq (by rw [hr];exact congrArg some e)) _
 ·exact own_set h.t _ (fun r hr e=>own_apart9 h.k h.t (by decide) hq (by rw [hr];exact congrArg some e)) _
 ·have:=h5 (.int .i64 (trn n (N.kids.getD k 0)))
  rwa [tk_set n N.kids k hk] at this
def trnNx (n:Nat) (N:Nd) (a1 a2 a3:Option Addr) (c1 c2 c3:Nat):Nx:=⟨trnNd n N,a1,c1,a2,c2,a3,c3⟩
theorem Tg.own {w:World} {B g:Nat} {N:Nd} {n:Nat} {a1 a2 a3:Option Addr} {c1 c2 c3:Nat} (h:Tg w B g N n N.kids.length a1 a2 a3 c1 c2 c3):OwnNx w B (trnNx n N a1 a2 a3 c1 c2 c3):=by
 refine ⟨h.i,h.t,?_⟩
 have:=h.k
 rw [tk_all] at this
 simpa [trnNx,trnNd] using this
theorem trnNx_cells (n:Nat) (N:Nd) (a1 a2 a3:Option Addr) (c1 c2 c3:Nat):nxC (trnNx n N a1 a2 a3 c1 c2 c3)=[.int .i64 N.kind,.slice a1 N.ints.length c1,.slice a2 N.texts.length c2,.slice a3 N.kids.length c3]:=by simp [nxC,trnNx,trnNd]
set_option maxRecDepth 10000 in
set_option maxHeartbeats 1000000 in
theorem sturn2_any (X:List Nx) (a:Option Addr) (c:Nat) (r:Int) (w:World) (h:ScAt w a X) (hX:Small X) :
  Calls Tryz.prog 44 #[.agg #[.slice a X.length c,.int .i64 r]] w fun e w'=>STurnOut2 X r w w' e:=by
 obtain ⟨i0,hi,hz0,hz1,hz2⟩:=info_parts Tryz.infoD9
 have hn:=hX.1
 have HS:Hid (ScAt w a X∧Small X):=⟨h,hX⟩
 clear h hX
 have HA:Hid (∀(r':Int) (o1 o2 o3:Obj),o1=.cells #[.slice a X.length c,.int .i64 r] 24→o2=.cells #[.slice none 0 0,.int .i64 0] 24→o3=.cells #[.slice none 0 0,.int .i64 r'] 24→AtN 24 (((w.alloc o1).alloc o2).alloc o3) w.heap.size #[.slice a X.length c,.int .i64 r]∧AtN 24 (((w.alloc o1).alloc o2).alloc o3) (w.heap.size+1) #[.slice none 0 0,.int .i64 0]∧Mkg (((w.alloc o1).alloc o2).alloc o3) w.heap.size (w.heap.size+1+1) r' (.slice none 0 0) []∧Below w.heap.size w (((w.alloc o1).alloc o2).alloc o3)):=by
  rintro _ _ _ _ rfl rfl rfl
  refine ⟨((AtN.new w 24 _).alloc _).alloc _,(mk_at (AtN.new (w.alloc _) 24 _) (show _=w.heap.size+1 by simp)).alloc _,⟨mk_at (AtN.new ((w.alloc _).alloc _) 24 _) (show _=w.heap.size+1+1 by simp),⟨rfl,.inl ⟨rfl,rfl⟩⟩,fun j hj=>by simp at hj⟩,(((Below.refl w.heap.size w).alloc (Nat.le_refl _) _).alloc (by simp) _).alloc (by simp;omega) _⟩
 go_enter Tryz.func44,Tryz.ntmps44
 go_wp2_with fail
 go_loopw [5] (fun iv wr=>∃(i:Nat) (z:Int) (v:Value) (Y:List Nx),iv=.int .i64 z∧z=(i:Int)-1∧i≤X.length∧Hid (∀j,j<Y.length→(Y.getD j noNx).nd=trnNd X.length (X.getD (X.length-1-j) noNx).nd)∧Hid (Y.length+i=X.length)∧Hid (AtN 24 wr w.heap.size #[.slice a X.length c,.int .i64 r])∧Hid (AtN 24 wr (w.heap.size+1) #[.slice none 0 0,.int .i64 0])∧Hid (Mkg wr w.heap.size (w.heap.size+1+1) (trn X.length r) v Y)∧Hid (Below w.heap.size w wr)) (fun iv _=>(intOf iv+1).toNat)
 case atStart=>
  obtain ⟨h1,h2,h3,h4⟩:=HA.out _ _ _ _ rfl rfl rfl
  exact ⟨X.length,_,.slice none 0 0,[],rfl,rfl,by omega,(by intro j hj;simp at hj),(by simp [Hid]),h1,h2,h3,h4⟩
 case round=>
  clear HA
  obtain ⟨i,z,v,Y,rfl,hz,hi',HM,HL,HA1,HA2,HK,HB⟩:=hrel
  have x0:wr.cell? ⟨w.heap.size,0,none⟩=some (.slice a X.length c):=HA1.out.cell 0
  cases i with
  | zero=>
   obtain rfl:z = -1:=by omega
   clear hz
   obtain ⟨ay,cy,rfl⟩:=own_shape4 HK.out.row
   have y0:wr.cell? ⟨w.heap.size+1+1,0,none⟩=some (.slice ay Y.length cy):=HK.out.sc.cell 0
   have y1:wr.cell? ⟨w.heap.size+1+1,1,none⟩=some (.int .i64 (trn X.length r)):=HK.out.sc.cell 1
   have z0:wr.cell? ⟨w.heap.size+1,0,none⟩=some (.slice none 0 0):=HA2.out.cell 0
   have z1:wr.cell? ⟨w.heap.size+1,1,none⟩=some (.int .i64 0):=HA2.out.cell 1
   have f0:=HA2.out.fz 0
   have f1:=HA2.out.fz 1
   have hg1:=HA2.out.lt
   have HV:Hid (∀W,W=(wr.setCell ⟨w.heap.size+1,0,none⟩ (.slice ay Y.length cy)).setCell ⟨w.heap.size+1,1,none⟩ (.int .i64 (trn X.length r))→STurnOut2 X r w W (.returned (.agg #[.slice ay Y.length cy,.int .i64 (trn X.length r)]))∧AtN 24 W (w.heap.size+1) #[.slice ay Y.length cy,.int .i64 (trn X.length r)]):=fun W hW=>by
    subst hW
    have hfr:Fr (fun z=>z=w.heap.size+1) wr ((wr.setCell ⟨w.heap.size+1,0,none⟩ (.slice ay Y.length cy)).setCell ⟨w.heap.size+1,1,none⟩ (.int .i64 (trn X.length r))):=((Fr.refl (fun z=>z=w.heap.size+1) wr).set ⟨w.heap.size+1,0,none⟩ rfl _).set ⟨w.heap.size+1,1,none⟩ rfl _
    have hal:Alien wr (fun z=>z=w.heap.size+1):=fun z hz _=>⟨_,_,_,hz ▸ HA2.out,by decide,by decide,by decide⟩
    have hrw:∀z,(Value.slice ay Y.length cy).ownBlock=some z→¬z=w.heap.size+1:=fun z hz e=>own_ne_at HK.out.row HA2.out (by decide) z hz e
    have hl:Y.length=X.length:=HL.out
    refine ⟨⟨Y,ay,cy,rfl,hl,fun j hj=>HM.out j (by omega),⟨own_fr HK.out.row hfr hrw,fun j hj=>(HK.out.each j hj).fr hfr hal⟩,Fr.below HB.out hfr (fun z e=>by omega) HB.out.size⟩,?_⟩
    have:=AtN.set (AtN.set HA2.out 0 (.slice ay Y.length cy)) 1 (.int .i64 (trn X.length r))
    simpa using this
   generalize trn X.length r=rr at *
   clear HM HL HA1 HA2 HK HB HS
   go_wp2_with fail
   obtain ⟨v1,v2⟩:=HV.out _ rfl
   have c0:=v2.cell 0
   have c1:=v2.cell 1
   have e0:(#[Value.slice ay Y.length cy,Value.int .i64 rr]:Array Value)[0]? = some (.slice ay Y.length cy):=rfl
   have e1:(#[Value.slice ay Y.length cy,Value.int .i64 rr]:Array Value)[1]? = some (.int .i64 rr):=rfl
   rw [e0] at c0
   rw [e1] at c1
   exact bodyPost_ret (v:=.agg #[.slice ay Y.length cy,.int .i64 rr]) (by simp [results,Tryz.results44,go_sem,c0,c1]) rfl v1
  | succ i=>
   obtain rfl:z=(i:Int):=by omega
   clear hz
   obtain ⟨u,hu⟩:∃u,u=wr:=⟨_,rfl⟩
   subst hu
   have hlt:i<X.length:=by omega
   have hlt':(i:Int)<X.length:=by omega
   obtain ⟨b,o,ea,hbl,d0,d1,d2,d3⟩:=(ScAt.belowB HS.out.1 HB.out).node hlt
   subst ea
   have hgr:=big_no (HS.out.2.2 i hlt)
   have HC:Hid (Calls Tryz.prog 30 #[.agg #[.int .i64 (X.getD i noNx).nd.kind,.slice (X.getD i noNx).a1 (X.getD i noNx).nd.ints.length (X.getD i noNx).c1,.slice (X.getD i noNx).a2 (X.getD i noNx).nd.texts.length (X.getD i noNx).c2,.slice (X.getD i noNx).a3 (X.getD i noNx).nd.kids.length (X.getD i noNx).c3]] u fun e w'=>NdOut u w' e (X.getD i noNx).nd):=rcopy_any (X.getD i noNx).nd (X.getD i noNx).a1 (X.getD i noNx).a2 (X.getD i noNx).a3 (X.getD i noNx).c1 (X.getD i noNx).c2 (X.getD i noNx).c3 u ((ScAt.belowB HS.out.1 HB.out).each i hlt) hgr.1 hgr.2.1 hgr.2.2.1
   have HX:Hid (∀y:Nx,y.nd=trnNd X.length (X.getD i noNx).nd→∀j,j<(Y++[y]).length→((Y++[y]).getD j noNx).nd=trnNd X.length (X.getD (X.length-1-j) noNx).nd):=fun y hy j hj=>by
    have hl:Y.length+(i+1)=X.length:=HL.out
    by_cases hjl:j<Y.length
    ·rw [show (Y++[y]).getD j noNx=Y.getD j noNx by rw [List.getD_eq_getElem?_getD,List.getElem?_append_left hjl,← List.getD_eq_getElem?_getD]]
     exact HM.out j hjl
    ·obtain rfl:j=Y.length:=by simp at hj;omega
     rw [show (Y++[y]).getD Y.length noNx=y by simp,hy,show X.length-1-Y.length=i by omega]
   have hYl:Y.length≤1401:=by have hl:Y.length+(i+1)=X.length:=HL.out;omega
   have HL2:Hid (∀y:Nx,(Y++[y]).length+i=X.length):=fun y=>by have hl:Y.length+(i+1)=X.length:=HL.out;simp;omega
   have hsz:w.heap.size+1+1<u.heap.size:=HK.out.sc.lt
   have Hv:Hid (v.ownBlock≠some (w.heap.size+1+1)∧(∀k,v.ownBlock=some k→k<u.heap.size)∧∀k,v.ownBlock=some k→w.heap.size≤k):=⟨HK.out.ne,fun k hk=>(HK.out.row.lt k hk).2,fun k hk=>(HK.out.row.lt k hk).1⟩
   have hk3:=hgr.2.2.1
   generalize X.getD i noNx=N at *
   clear HM HL hgr HS
   go_wp2_with fail
   refine Calls.mono HC.out ?_
   rintro e wq ⟨a1,c1,a2,c2,a3,c3,rfl,hO,hb⟩
   have HT0:Hid (Tg (wq.alloc (.cells #[.int .i64 N.nd.kind,.slice a1 N.nd.ints.length c1,.slice a2 N.nd.texts.length c2,.slice a3 N.nd.kids.length c3] 51)) u.heap.size wq.heap.size N.nd X.length 0 a1 a2 a3 c1 c2 c3):=⟨AtN.new wq 51 _,hO.i.alloc _,hO.t.alloc _,by rw [tk_zero];exact hO.k.alloc _⟩
   have HB0:Hid (Below u.heap.size u (wq.alloc (.cells #[.int .i64 N.nd.kind,.slice a1 N.nd.ints.length c1,.slice a2 N.nd.texts.length c2,.slice a3 N.nd.kids.length c3] 51))):=hb.alloc hb.size _
   clear hO hb HC d0 d1 d2 d3 x0 hbl
   go_wp2_with fail
   go_loopw [7] (fun kv w2=>∃k:Nat,kv=.int .i64 k∧k≤N.nd.kids.length∧Hid (Tg w2 u.heap.size wq.heap.size N.nd X.length k a1 a2 a3 c1 c2 c3)∧Hid (Below u.heap.size u w2)) (fun kv _=>N.nd.kids.length-(intOf kv).toNat)
   case atStart=>exact ⟨0,rfl,by omega,HT0,HB0⟩
   case round=>
    clear HT0 HB0
    obtain ⟨k,rfl,hk,HT,HB2⟩:=hrel
    have y3:wr.cell? ⟨wq.heap.size,3,none⟩=some (.slice a3 N.nd.kids.length c3):=HT.out.nd.cell 3
    by_cases hkl:k<N.nd.kids.length
    ·have hkl':(k:Int)<N.nd.kids.length:=by omega
     obtain ⟨q,rfl,e1,e2,e3,e4,hT2⟩:=HT.out.next hkl
     have HT2:Hid (Tg ((wr.setCell ⟨q,k,none⟩ (.int .i64 (trn X.length (N.nd.kids.getD k 0)))).drew) u.heap.size wq.heap.size N.nd X.length (k+1) a1 a2 (some ⟨q,0,none⟩) c1 c2 c3∧Below u.heap.size u ((wr.setCell ⟨q,k,none⟩ (.int .i64 (trn X.length (N.nd.kids.getD k 0)))).drew)):=⟨hT2.drew,(HB2.out.setCell (p:=⟨q,k,none⟩) e3 _).drew⟩
     generalize N.nd.kids.getD k 0=kd at *
     clear HT HB2 hT2 HK HA1 HA2 HB HX HL2 Hv
     go_wp2_with fail
     go_region
     go_wp2_with fail
     go_roundw
     case rel=>exact ⟨k+1,by go_num,by omega,HT2.out.1,HT2.out.2⟩
     case measure=>simp [intOf];omega
    ·have hkl':¬(k:Int)<N.nd.kids.length:=by omega
     obtain rfl:k=N.nd.kids.length:=by omega
     have y0:wr.cell? ⟨wq.heap.size,0,none⟩=some (.int .i64 N.nd.kind):=HT.out.nd.cell 0
     have y1:wr.cell? ⟨wq.heap.size,1,none⟩=some (.slice a1 N.nd.ints.length c1):=HT.out.nd.cell 1
     have y2:wr.cell? ⟨wq.heap.size,2,none⟩=some (.slice a2 N.nd.texts.length c2):=HT.out.nd.cell 2
     have HKr:Hid (Mkg wr w.heap.size (w.heap.size+1+1) (trn X.length r) v Y):=HK.out.below HB2.out
     have x0:wr.cell? ⟨w.heap.size+1+1,0,none⟩=some v:=HKr.out.sc.cell 0
     have HO:Hid (OwnNx wr u.heap.size (trnNx X.length N.nd a1 a2 a3 c1 c2 c3)):=HT.out.own
     have HAr:Hid (AtN 24 wr w.heap.size #[.slice (some ⟨b,o,none⟩) X.length c,.int .i64 r]∧AtN 24 wr (w.heap.size+1) #[.slice none 0 0,.int .i64 0]):=⟨AtN.belowAll HA1.out HB2.out,AtN.belowAll HA2.out HB2.out⟩
     have HBr:Hid (Below w.heap.size w wr):=HB.out.trans (HB2.out.mono HB.out.size)
     have hszr:=HB2.out.size
     have HY:Hid ((trnNx X.length N.nd a1 a2 a3 c1 c2 c3).nd=trnNd X.length N.nd∧nxC (trnNx X.length N.nd a1 a2 a3 c1 c2 c3)=[.int .i64 N.nd.kind,.slice a1 N.nd.ints.length c1,.slice a2 N.nd.texts.length c2,.slice a3 N.nd.kids.length c3]):=⟨rfl,trnNx_cells _ _ _ _ _ _ _ _⟩
     clear HT HB2 HK HA1 HA2 HB
     obtain ⟨av,cv,rfl⟩:=own_shape4 HKr.out.row
     generalize trnNx X.length N.nd a1 a2 a3 c1 c2 c3=yn at *
     go_wp2_with (at_builtin;refine wpList_append_lies _ rfl (.tmp 49) (.tmp 51) 22 rfl w.heap.size 51 i0 (.agg #[.int .i64 0,.slice none 0 0,.slice none 0 0,.slice none 0 0]) 4 80 Tryz.underlying22 hi hz0 hz1 hz2 rfl (by decide) _ Y.length (nxV Y) rfl (HKr.out.row.alloc _) ⟨wr.heap.size,0,none⟩ 1 1 [.int .i64 N.nd.kind,.slice a1 N.nd.ints.length c1,.slice a2 N.nd.texts.length c2,.slice a3 N.nd.kids.length c3] rfl rfl (fun j z hz=>World.news_of_block (AtN.new wr 51 _) j z (by simpa using hz)) (by intro z hz;simp at hz;rcases hz with rfl|rfl|rfl|rfl <;> rfl) (by decide) (by unfold maxLen;omega) (by omega) (by simp;omega) _ rfl ?_)
     intro g2 cap2 w4 hown4 hgrow4 hlie hlt4
     have hAw:AtN 24 w4 (w.heap.size+1+1) #[.slice av Y.length cv,.int .i64 (trn X.length r)]:=(HKr.out.sc.alloc _).kept hgrow4 (fun e=>Hv.out.1 e.symm)
     have x4:w4.cell? ⟨w.heap.size+1+1,0,none⟩=some (.slice av Y.length cv):=hAw.cell 0
     have f4:=hAw.fz 0
     have hfr:Fr (MkS (w.heap.size+1+1) (.slice av Y.length cv)) wr (w4.setCell ⟨w.heap.size+1+1,0,none⟩ (.slice (some ⟨g2,0,none⟩) (Y.length+1) cap2)):=(((Fr.refl (MkS (w.heap.size+1+1) (.slice av Y.length cv)) wr).alloc _).trans (Fr.of_grown hgrow4 (fun q e=>.inl e)) (fun i hi _=>hi)).set ⟨w.heap.size+1+1,0,none⟩ (.inr rfl) _
     have hne:(Value.slice (some ⟨g2,0,none⟩) (Y.length+1) cap2).ownBlock≠some (w.heap.size+1+1):=by
      intro q
      simp only [Value.ownBlock,Option.some.injEq] at q
      rcases hlie with p|p
      ·rw [q] at p;exact Hv.out.1 p
      ·first|omega|(simp at p;omega)
     have hOw:OwnNx w4 u.heap.size yn:=OwnNx.kept (OwnNx.kept HO.out (World.grownBy_alloc wr _ none) (by simp)) hgrow4 Hv.out.2.1
     have HK5:Hid (Mkg (w4.setCell ⟨w.heap.size+1+1,0,none⟩ (.slice (some ⟨g2,0,none⟩) (Y.length+1) cap2)) w.heap.size (w.heap.size+1+1) (trn X.length r) (.slice (some ⟨g2,0,none⟩) (Y.length+1) cap2) (Y++[yn])):=by
      refine HKr.out.next hfr (by simpa using AtN.set hAw 0 (.slice (some ⟨g2,0,none⟩) (Y.length+1) cap2)) ?_ (OwnNx.mono (hOw.kept (grown_set (grown_refl w4 (some (w.heap.size+1+1))) 0 _) (fun k hk=>by cases hk;omega)) (by omega))
      rw [HY.out.2]
      exact own_set' hown4 hne _
     have hS:∀z,MkS (w.heap.size+1+1) (.slice av Y.length cv) z→w.heap.size≤z:=fun z hz=>by
      rcases hz with hz|hz
      ·exact Hv.out.2.2 z hz
      ·omega
     have HB5:Hid (Below w.heap.size w (w4.setCell ⟨w.heap.size+1+1,0,none⟩ (.slice (some ⟨g2,0,none⟩) (Y.length+1) cap2))):=Fr.below HBr.out hfr hS HBr.out.size
     have HA5:Hid (AtN 24 (w4.setCell ⟨w.heap.size+1+1,0,none⟩ (.slice (some ⟨g2,0,none⟩) (Y.length+1) cap2)) w.heap.size #[.slice (some ⟨b,o,none⟩) X.length c,.int .i64 r]):=AtN.fr HAr.out.1 hfr (fun e=>by
      rcases e with e|e
      ·exact own_ne_at HKr.out.row HAr.out.1 (by decide) _ e rfl
      ·omega)
     have HA6:Hid (AtN 24 (w4.setCell ⟨w.heap.size+1+1,0,none⟩ (.slice (some ⟨g2,0,none⟩) (Y.length+1) cap2)) (w.heap.size+1) #[.slice none 0 0,.int .i64 0]):=AtN.fr HAr.out.2 hfr (fun e=>by
      rcases e with e|e
      ·exact own_ne_at HKr.out.row HAr.out.2 (by decide) _ e rfl
      ·omega)
     have HX5:=HX.out yn HY.out.1
     have HX6:Hid (∀j,j<(Y++[yn]).length→((Y++[yn]).getD j noNx).nd=trnNd X.length (X.getD (X.length-1-j) noNx).nd):=HX5
     have HL5:Hid ((Y++[yn]).length+i=X.length):=HL2.out yn
     clear hown4 hgrow4 hlie hAw hfr hne hOw hS HX5 HX HL2 HKr HO HAr HBr HY Hv y0 y1 y2 y3 x0
     go_wp2_with fail
     go_roundw
     case rel=>exact ⟨i,_,_,Y++[yn],rfl,by omega,by omega,HX6,HL5,HA5,HA6,HK5,HB5⟩
     case measure=>simp [intOf]
theorem turn_ren {X T:List Nx} {r:Int} (hX:Small X) (hR:RightIs X r) (hl:T.length=X.length) (hn:∀j,j<X.length→(T.getD j noNx).nd=trnNd X.length (X.getD (X.length-1-j) noNx).nd):Ren X T (fun i=>X.length-1-i)∧trn X.length r=((X.length-1-r.toNat:Nat):Int):=by
 refine ⟨⟨⟨fun i hi=>by omega,fun i j hi hj e=>by omega⟩,hl,fun i hi=>?_⟩,(trn_place hX.1 hR.1).2⟩
 rw [hn (X.length-1-i) (by omega),show X.length-1-(X.length-1-i)=i by omega]
 unfold trnNd renNd
 congr 1
 refine List.map_congr_left fun z hz=>?_
 have:=kid_place hR.2.1 hi hz
 exact (trn_place hX.1 (isPb_iff.2 (by omega))).2
end Go.Proofs.YtgoffkfpdigeeaaGreatDoor
namespace Go.Proofs.YtgoffkfpdigeeaaGreatDoor
open Go.RowKit Go.Maps Go.WideMaps Go.Sort
def fX (X:List Nx) (r:Int):List Nd:=((cX X r).map (trnNd X.length)).reverse
theorem map_at {X:List Nx} {j:Nat} (h:j<X.length):(X.map Nx.nd)[j]? = some (X.getD j noNx).nd:=by
 rw [List.getElem?_map,List.getElem?_eq_getElem h,List.getD_eq_getElem?_getD,List.getElem?_eq_getElem h]
 rfl
theorem flat_nds {X Y T:List Nx} {r:Int} (hY:Y.map Nx.nd=cX X r) (hl:Y.length=X.length) (ht:T.length=Y.length) (hn:∀j,j<Y.length→(T.getD j noNx).nd=trnNd Y.length (Y.getD (Y.length-1-j) noNx).nd):T.map Nx.nd=fX X r:=by
 have hc:(cX X r).length=Y.length:=by rw [← hY,List.length_map]
 refine List.ext_getElem? fun j=>?_
 by_cases hj:j<Y.length
 ·have hj2:Y.length-1-j<Y.length:=by omega
  have h3:=map_at hj2
  rw [hY] at h3
  rw [map_at (by omega),hn j hj]
  unfold fX
  rw [List.getElem?_reverse (by rw [List.length_map];omega),List.length_map,hc,List.getElem?_map,h3,← hl]
  rfl
 ·rw [List.getElem?_eq_none (by rw [List.length_map];omega),List.getElem?_eq_none (by unfold fX;rw [List.length_reverse,List.length_map];omega)]
theorem trn_last (n:Nat):trn n ((n:Int)-1)=0:=by
 unfold trn wrap64
 omega
def RFlatOut2 (X:List Nx) (r:Int) (w w':World) (e:Ending):Prop:=∃(T:List Nx) (a:Option Addr) (c:Nat),e=.returned (.agg #[.slice a T.length c,.int .i64 0])∧T.map Nx.nd=fX X r∧T.length=X.length∧(w'.ownsRow w.heap.size 51 4 (.slice a T.length c) T.length (nxV T)∧∀j,j<T.length→OwnNx w' w.heap.size (T.getD j noNx))∧Below w.heap.size w w'
def RFlatOut (X:List Nx) (r:Int) (w w':World) (e:Ending):Prop:=∃(T:List Nx) (a:Option Addr) (c:Nat),e=.returned (.agg #[.slice a T.length c,.int .i64 0])∧T.map Nx.nd=fX X r∧T.length=X.length∧ScAt w' a T∧Below w.heap.size w w'
set_option maxRecDepth 10000 in
set_option maxHeartbeats 1000000 in
theorem rflat_any (X:List Nx) (a:Option Addr) (c:Nat) (r:Int) (w:World) (h:ScAt w a X) (hX:Small X) (hR:RightIs X r) :
  Calls Tryz.prog 17 #[.agg #[.slice a X.length c,.int .i64 r]] w fun e w'=>RFlatOut X r w w' e:=by
 have HA0:Hid (∀o1 o2:Obj,o1=.cells #[.slice a X.length c,.int .i64 r] 24→o2=.cells #[.slice none 0 0,.int .i64 0] 24→AtN 24 ((w.alloc o1).alloc o2) w.heap.size #[.slice a X.length c,.int .i64 r]∧AtN 24 ((w.alloc o1).alloc o2) (w.heap.size+1) #[.slice none 0 0,.int .i64 0]∧Below w.heap.size w ((w.alloc o1).alloc o2)):=by
  rintro _ _ rfl rfl
  exact ⟨(AtN.new w 24 _).alloc _,mk_at (AtN.new (w.alloc _) 24 _) (show _=w.heap.size+1 by simp),((Below.refl w.heap.size w).alloc (Nat.le_refl _) _).alloc (by simp) _⟩
 have HC:Hid (∀W,Below w.heap.size w W→Calls Tryz.prog 45 #[.agg #[.slice a X.length c,.int .i64 r]] W fun e w'=>RCanOut X r W w' e):=fun W hb=>rcanon_any X a c r W (h.belowB hb) hX hR
 have HTn:Hid (∀(Y:List Nx) (a':Option Addr) (c':Nat) (W:World),Y.map Nx.nd=cX X r→ScAt W a' Y→Calls Tryz.prog 44 #[.agg #[.slice a' Y.length c',.int .i64 ((X.length:Int)-1)]] W fun e w'=>RFlatOut2 X r W w' e):=fun Y a' c' W hY hs=>by
  have hRn:=can_ren hR hY
  refine Calls.mono (sturn2_any Y a' c' ((X.length:Int)-1) W hs (hRn.small hX)) ?_
  rintro e w' ⟨T,aT,cT,rfl,h1,h2,h3,h4⟩
  have h5:trn Y.length ((X.length:Int)-1)=0:=by rw [hRn.len];exact trn_last _
  rw [h5]
  exact ⟨T,aT,cT,rfl,flat_nds hY hRn.len h1 h2,by rw [h1,hRn.len],h3,h4⟩
 clear h hX hR
 go_enter Tryz.func17,Tryz.ntmps17
 go_wp2_with fail
 obtain ⟨hA,hA2,hB⟩:=HA0.out _ _ rfl rfl
 generalize ((w.alloc (.cells #[.slice a X.length c,.int .i64 r] 24)).alloc (.cells #[.slice none 0 0,.int .i64 0] 24))=w0 at *
 have HB0:Hid (Below w.heap.size w w0):=hB
 have HR0:Hid (AtN 24 w0 (w.heap.size+1) #[.slice none 0 0,.int .i64 0]):=hA2
 clear HA0 hA hA2 hB
 refine Calls.mono (HC.out _ HB0.out) ?_
 rintro e w1 ⟨Y,ay,cy,rfl,hY,hs,hb1⟩
 have HB1:Hid (Below w.heap.size w w1):=HB0.out.trans (hb1.mono HB0.out.size)
 have HR1:Hid (AtN 24 w1 (w.heap.size+1) #[.slice none 0 0,.int .i64 0]):=HR0.out.belowAll hb1
 have HTc:Hid _:=HTn.out Y ay cy w1 hY hs
 clear HB0 HR0 HC HTn hY hs hb1
 go_wp2_with fail
 refine Calls.mono HTc.out ?_
 rintro e w2 ⟨T,aT,cT,rfl,h1,h2,h3,hb2⟩
 have HR2:Hid (AtN 24 w2 (w.heap.size+1) #[.slice none 0 0,.int .i64 0]):=HR1.out.belowAll hb2
 have z0:w2.cell? ⟨w.heap.size+1,0,none⟩=some (.slice none 0 0):=HR2.out.cell 0
 have z1:w2.cell? ⟨w.heap.size+1,1,none⟩=some (.int .i64 0):=HR2.out.cell 1
 have f0:=HR2.out.fz 0
 have f1:=HR2.out.fz 1
 have hg1:=HR2.out.lt
 have HO:Hid (∀W,W=(w2.setCell ⟨w.heap.size+1,0,none⟩ (.slice aT T.length cT)).setCell ⟨w.heap.size+1,1,none⟩ (.int .i64 0)→RFlatOut X r w W (.returned (.agg #[.slice aT T.length cT,.int .i64 0]))∧AtN 24 W (w.heap.size+1) #[.slice aT T.length cT,.int .i64 0]):=by
  rintro _ rfl
  have hfr:Fr (fun z=>z=w.heap.size+1) w2 ((w2.setCell ⟨w.heap.size+1,0,none⟩ (.slice aT T.length cT)).setCell ⟨w.heap.size+1,1,none⟩ (.int .i64 0)):=((Fr.refl (fun z=>z=w.heap.size+1) w2).set ⟨w.heap.size+1,0,none⟩ rfl _).set ⟨w.heap.size+1,1,none⟩ rfl _
  have hal:Alien w2 (fun z=>z=w.heap.size+1):=fun z hz _=>⟨_,_,_,hz ▸ HR2.out,by decide,by decide,by decide⟩
  have hlt:w.heap.size+1<w1.heap.size:=HR1.out.lt
  have hB2:=HB1.out.trans (hb2.mono HB1.out.size)
  refine ⟨⟨T,aT,cT,rfl,h1,h2,⟨LsAt.of_own4' (own_fr h3.1 hfr (fun z hz e=>by have:=(h3.1.lt z hz).1;omega)),fun j hj=>((h3.2 j hj).fr hfr hal).ndAt⟩,Fr.below hB2 hfr (fun z e=>by omega) hB2.size⟩,?_⟩
  have:=AtN.set (AtN.set HR2.out 0 (.slice aT T.length cT)) 1 (.int .i64 0)
  simpa using this
 clear HTc HB1 HR1 HR2 h1 h2 h3 hb2
 go_wp2_with fail
 obtain ⟨v1,v2⟩:=HO.out _ rfl
 have c0:=v2.cell 0
 have c1:=v2.cell 1
 have e0:(#[Value.slice aT T.length cT,Value.int .i64 0]:Array Value)[0]? = some (.slice aT T.length cT):=rfl
 have e1:(#[Value.slice aT T.length cT,Value.int .i64 0]:Array Value)[1]? = some (.int .i64 0):=rfl
 rw [e0] at c0
 rw [e1] at c1
 exact bodyPost_ret (v:=.agg #[.slice aT T.length cT,.int .i64 0]) (by simp [results,Tryz.results17,go_sem,c0,c1]) rfl v1
end Go.Proofs.YtgoffkfpdigeeaaGreatDoor
namespace Go.Proofs.YtgoffkfpdigeeaaGreatDoor
open Go.RowKit Go.Maps Go.WideMaps Go.Sort
theorem pIn_nd {L:List ByteArray} (h:L.Nodup) (s:ByteArray):(pIntern L s).Nodup:=by
 unfold pIntern
 by_cases q:idx6 s L<L.length
 ·rw [if_pos q];exact h
 ·rw [if_neg q,List.nodup_append]
  refine ⟨h,by simp,fun a ha b hb e=>?_⟩
  simp only [List.mem_singleton] at hb
  subst e hb
  exact q ((idx6_mem _ _).2 ha)
theorem foldlT_nd (T:List ByteArray):∀L:List ByteArray,L.Nodup→(T.foldl pIntern L).Nodup:=by
 induction T with
 | nil=>intro L h;exact h
 | cons x r ih=>
  intro L h
  rw [List.foldl_cons]
  exact ih _ (pIn_nd h x)
theorem itn_nd (T:List ByteArray):(itn T).Nodup:=foldlT_nd T [] List.nodup_nil
theorem itn_same {T U:List ByteArray} (h:∀s,s ∈ T↔s ∈ U):sum6 (itn T)=sum6 (itn U):=by
 have hp:(itn T).Perm (itn U):=(List.perm_ext_iff_of_nodup (itn_nd T) (itn_nd U)).2 (fun s=>by rw [itn_mem,itn_mem,h])
 exact List.Perm.sum_nat (hp.map ByteArray.size)
theorem allT_mem (X:List Nx) (s:ByteArray):s ∈ allT X↔∃i,i<X.length∧s ∈ (X.getD i noNx).nd.texts:=by
 unfold allT
 rw [List.mem_flatMap]
 constructor
 ·rintro ⟨x,hx,hs⟩
  obtain ⟨i,hi,rfl⟩:=List.getElem_of_mem hx
  exact ⟨i,hi,by rwa [List.getD_eq_getElem?_getD,List.getElem?_eq_getElem hi]⟩
 ·rintro ⟨i,hi,hs⟩
  rw [List.getD_eq_getElem?_getD,List.getElem?_eq_getElem hi] at hs
  exact ⟨X[i],List.getElem_mem hi,hs⟩
section
variable {X Y:List Nx} {p:Nat→Nat} {r:Int} {l:Lm} {d:Nat}
theorem Ren.txb (h:Ren X Y p):txb Y=txb X:=by
 refine itn_same fun s=>?_
 rw [allT_mem,allT_mem]
 constructor
 ·rintro ⟨j,hj,hs⟩
  rw [h.len] at hj
  obtain ⟨i,hi,rfl⟩:=h.per.onto j hj
  rw [h.nd i hi] at hs
  exact ⟨i,hi,hs⟩
 ·rintro ⟨i,hi,hs⟩
  exact ⟨p i,by rw [h.len];exact h.per.lt i hi,by rw [h.nd i hi];exact hs⟩
theorem Ren.fnx (h:Ren X Y p) (hX:FnX X):FnX Y:=fun j hj=>by
 rw [h.len] at hj
 obtain ⟨i,hi,rfl⟩:=h.per.onto j hj
 rw [h.nd i hi]
 exact hX i hi
theorem same_edg (h:Y.map Nx.nd=X.map Nx.nd):edg Y=edg X:=by
 have e:∀Z:List Nx,edg Z=((Z.map Nx.nd).map fun N=>N.kids.length).sum:=fun Z=>by simp [edg,Function.comp_def]
 rw [e,e,h]
theorem same_allT (h:Y.map Nx.nd=X.map Nx.nd):allT Y=allT X:=by
 have e:∀Z:List Nx,allT Z=(Z.map Nx.nd).flatMap fun N=>N.texts:=fun Z=>by simp [allT,List.flatMap_map]
 rw [e,e,h]
theorem same_txb (h:Y.map Nx.nd=X.map Nx.nd):txb Y=txb X:=by
 unfold txb
 rw [same_allT h]
theorem same_meL (h:Y.map Nx.nd=X.map Nx.nd):meL Y d=meL X d:=by
 unfold meL
 rw [same_len h,same_edg h,same_txb h]
end
theorem can_depth {X Y:List Nx} {r:Int} {d:Nat} (hR:RightIs X r) (hY:Y.map Nx.nd=cX X r) (hd:DepthIs X r d):DepthIs Y ((X.length:Int)-1) d:=by
 have h:=can_ren hR hY
 have e:=can_root hR
 obtain ⟨d',hd'⟩:=depth_there Y ((X.length:Int)-1)
 have hd2:=hd'
 rw [← e] at hd2
 have:=h.depth hR hd hd2
 subst this
 exact hd'
def bare (P:List Nd):List Nx:=P.map fun N=>⟨N,none,0,none,0,none,0⟩
theorem bare_nd (P:List Nd):(bare P).map Nx.nd=P:=by
 unfold bare
 rw [List.map_map]
 exact List.map_id' P
theorem check_right {X:List Nx} {r:Int} (h:RightIs X r):CheckIs X r 0 0:=.inr (.inr ⟨h.1,h.2.1,.inr ⟨h.2.2.1,.inr ⟨rfl,rfl,h.2.2.2⟩⟩⟩)
end Go.Proofs.YtgoffkfpdigeeaaGreatDoor
