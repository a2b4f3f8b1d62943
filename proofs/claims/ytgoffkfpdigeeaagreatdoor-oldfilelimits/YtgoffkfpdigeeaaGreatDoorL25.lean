import Derived.Laws.CopyOwn
import Derived.Deep.RegionLaw
import Derived.Sort.OwnSortedInts
import Derived.Test.YtgoffkfpdigeeaaGreatDoorL23
import Derived.Test.YtgoffkfpdigeeaaGreatDoorL24
import Derived.Test.YtgoffkfpdigeeaaGreatDoorL14
import Derived.Test.YtgoffkfpdigeeaaGreatDoorL02
import Derived.Test.YtgoffkfpdigeeaaGreatDoorL15
import Derived.Test.YtgoffkfpdigeeaaGreatDoorL03
import Derived.Test.YtgoffkfpdigeeaaGreatDoorL04
namespace Go.Proofs.YtgoffkfpdigeeaaGreatDoor
open Go.RowKit Go.Maps Go.WideMaps Go.Sort
def SameOut (X Y:List Nx) (r s:Int) (w w':World) (e:Ending):Prop:=∃b,e=.returned (.bool b)∧(b=true↔r=s∧Y.map Nx.nd=X.map Nx.nd)∧Below w.heap.size w w'
theorem nds_eq {X Y:List Nx} (hl:X.length=Y.length) (h:∀k,k<X.length→(X.getD k noNx).nd=(Y.getD k noNx).nd):Y.map Nx.nd=X.map Nx.nd:=by
 refine List.ext_getElem (by simp [hl]) (fun i h1 h2=>?_)
 have hi:i<Y.length:=by simpa using h1
 have hx:i<X.length:=by omega
 have:=h i hx
 rw [show X.getD i noNx=X[i] by rw [List.getD_eq_getElem?_getD,List.getElem?_eq_getElem hx];rfl,show Y.getD i noNx=Y[i] by rw [List.getD_eq_getElem?_getD,List.getElem?_eq_getElem hi];rfl] at this
 simp [this]
theorem nds_at {X Y:List Nx} (h:Y.map Nx.nd=X.map Nx.nd) (i:Nat) (hi:i<X.length):(Y.getD i noNx).nd=(X.getD i noNx).nd:=by
 have hl:Y.length=X.length:=by simpa using congrArg List.length h
 have h1:(Y.map Nx.nd)[i]? = (X.map Nx.nd)[i]? := by rw [h]
 rw [List.getElem?_map,List.getElem?_map,List.getElem?_eq_getElem hi,List.getElem?_eq_getElem (by omega)] at h1
 rw [List.getD_eq_getElem?_getD,List.getD_eq_getElem?_getD,List.getElem?_eq_getElem hi,List.getElem?_eq_getElem (by omega)]
 simpa using h1
set_option maxRecDepth 10000 in
set_option maxHeartbeats 1000000 in
theorem ssame_any (X Y:List Nx) (a b:Option Addr) (c d:Nat) (r s:Int) (w:World) (h:ScAt w a X) (h':ScAt w b Y) (hX:Small X) :
  Calls Tryz.prog 15 #[.agg #[.slice a X.length c,.int .i64 r],.agg #[.slice b Y.length d,.int .i64 s]] w fun e w'=>SameOut X Y r s w w' e:=by
 have hn:=hX.1
 have HS:Hid (ScAt w a X∧ScAt w b Y∧Small X):=⟨h,h',hX⟩
 clear h h' hX
 have HA:Hid (∀(o1 o2:Obj),o1=.cells #[.slice a X.length c,.int .i64 r] 24→o2=.cells #[.slice b Y.length d,.int .i64 s] 24→AtN 24 ((w.alloc o1).alloc o2) w.heap.size #[.slice a X.length c,.int .i64 r]∧AtN 24 ((w.alloc o1).alloc o2) (w.heap.size+1) #[.slice b Y.length d,.int .i64 s]∧Below w.heap.size w ((w.alloc o1).alloc o2)):=by
  rintro _ _ rfl rfl
  exact ⟨(AtN.new w 24 _).alloc _,mk_at (AtN.new (w.alloc _) 24 _) (show _=w.heap.size+1 by simp),((Below.refl w.heap.size w).alloc (Nat.le_refl _) _).alloc (by simp) _⟩
 by_cases hr:r=s
 ·subst hr
  by_cases hl:X.length=Y.length
  ·have Hl:Hid _:=hl
   rw [← hl] at HA ⊢
   clear hl
   go_enter Tryz.func15,Tryz.ntmps15
   go_wp2_with fail
   go_loopw [5] (fun iv wr=>∃(i:Nat),iv=.int .i64 i∧i≤X.length∧Hid (∀k,k<i→(X.getD k noNx).nd=(Y.getD k noNx).nd)∧Hid (AtN 24 wr w.heap.size #[.slice a X.length c,.int .i64 r])∧Hid (AtN 24 wr (w.heap.size+1) #[.slice b X.length d,.int .i64 r])∧Hid (Below w.heap.size w wr)) (fun iv _=>X.length-(intOf iv).toNat)
   case atStart=>
    obtain ⟨h1,h2,h3⟩:=HA.out _ _ rfl rfl
    exact ⟨0,rfl,by omega,(fun k hk=>by omega),h1,h2,h3⟩
   case round=>
    clear HA
    obtain ⟨i,rfl,hi,HI,H1,H2,HB⟩:=hrel
    have x0:wr.cell? ⟨w.heap.size,0,none⟩=some (.slice a X.length c):=H1.out.cell 0
    have y0:wr.cell? ⟨w.heap.size+1,0,none⟩=some (.slice b X.length d):=H2.out.cell 0
    by_cases hlt:i<X.length
    ·have hlt':(i:Int)<X.length:=by omega
     have hlY:i<Y.length:=by rw [← Hl.out];exact hlt
     have sX:=ScAt.belowB HS.out.1 HB.out
     have sY:=ScAt.belowB HS.out.2.1 HB.out
     obtain ⟨ga,oa,rfl,la,p0,p1,p2,p3⟩:=sX.node hlt
     obtain ⟨gb,ob,rfl,lb,q0,q1,q2,q3⟩:=sY.node hlY
     obtain ⟨g1,g2,g3,_⟩:=big_no (HS.out.2.2.2 i hlt)
     have HX:Hid (NdAt wr (X.getD i noNx).nd (X.getD i noNx).a1 (X.getD i noNx).a2 (X.getD i noNx).a3):=sX.each i hlt
     have HY:Hid (NdAt wr (Y.getD i noNx).nd (Y.getD i noNx).a1 (Y.getD i noNx).a2 (Y.getD i noNx).a3):=sY.each i hlY
     have HE:Hid ((X.getD i noNx).nd=(Y.getD i noNx).nd→∀k,k<i+1→(X.getD k noNx).nd=(Y.getD k noNx).nd):=fun q k hk=>by
      by_cases e:k=i
      ·rw [e];exact q
      ·exact HI.out k (by omega)
     have HF:Hid (¬(X.getD i noNx).nd=(Y.getD i noNx).nd→¬Y.map Nx.nd=X.map Nx.nd):=fun q e=>q (nds_at e i hlt).symm
     clear sX sY HI
     generalize X.getD i noNx=M at *
     generalize Y.getD i noNx=N at *
     have m0:=fun dd os=>cell_regrown x0 dd os
     have m1:=fun dd os=>cell_regrown y0 dd os
     have n0:=fun dd os=>cell_regrown p0 dd os
     have n1:=fun dd os=>cell_regrown p1 dd os
     have n2:=fun dd os=>cell_regrown p2 dd os
     have n3:=fun dd os=>cell_regrown p3 dd os
     have k0:=fun dd os=>cell_regrown q0 dd os
     have k1:=fun dd os=>cell_regrown q1 dd os
     have k2:=fun dd os=>cell_regrown q2 dd os
     have k3:=fun dd os=>cell_regrown q3 dd os
     have cD:=fun dd os=>Calls.regrown_of (same8_big M.nd N.nd M.a1 M.a2 M.a3 N.a1 N.a2 N.a3 M.c1 M.c2 M.c3 N.c1 N.c2 N.c3 (grow (redrawn wr dd) os) (HX.out.belowB (below_regrown wr dd os)) (HY.out.belowB (below_regrown wr dd os)) g1 g2 (by omega))
     have HB2:Hid (∀dd os,AtN 24 (grow (redrawn wr dd) os) w.heap.size #[.slice (some ⟨ga,oa,none⟩) X.length c,.int .i64 r]∧AtN 24 (grow (redrawn wr dd) os) (w.heap.size+1) #[.slice (some ⟨gb,ob,none⟩) X.length d,.int .i64 r]∧Below w.heap.size w (grow (redrawn wr dd) os)):=fun dd os=>⟨H1.out.belowAll (below_regrown wr dd os),H2.out.belowAll (below_regrown wr dd os),HB.out.trans ((below_regrown wr dd os).mono HB.out.size)⟩
     clear HX HY H1 H2 HB
     go_wp2_with fail
     refine wp_region_quiet_below (by kernel_rfl) (by kernel_rfl) ?_
     repeat (first|go_big_quiet_step ((go_at_call 41;exact cD _ _))|quiet_step ((go_at_call 41;exact cD _ _)))
     refine wpQuiet_nil ?_
     intro _ hw'
     obtain ⟨⟨dq,osq⟩,hw''⟩:=hw'
     subst hw''
     have HB3:=HB2.out dq osq
     have HBB:Hid _:=HB3
     clear HB2 HB3 cD m0 m1 n0 n1 n2 n3 k0 k1 k2 k3
     generalize grow (redrawn wr dq) osq=w2 at *
     have HQ:Hid (sameB M.nd N.nd=true↔M.nd=N.nd):=sameB_iff _ _
     generalize sameB M.nd N.nd=q at *
     cases q with
     | true=>
      have HI2:Hid (∀k,k<i+1→(X.getD k noNx).nd=(Y.getD k noNx).nd):=HE.out (HQ.out.1 rfl)
      clear HE HF HQ
      go_wp2_with fail
      go_roundw
      case rel=>exact ⟨i+1,by go_num,by omega,HI2,HBB.out.1,HBB.out.2.1,HBB.out.2.2⟩
      case measure=>simp [intOf];omega
     | false=>
      have HN:Hid (¬Y.map Nx.nd=X.map Nx.nd):=HF.out fun q=>by have:=HQ.out.2 q;cases this
      clear HE HF HQ
      go_wp2_with fail
      go_ret
      exact ⟨_,rfl,⟨fun q=>by simp at q,fun q=>absurd q.2 HN.out⟩,HBB.out.2.2⟩
    ·have hlt':¬(i:Int)<X.length:=by omega
     have HN:Hid (Y.map Nx.nd=X.map Nx.nd):=nds_eq Hl.out (fun k hk=>HI.out k (by omega))
     clear HI H1 H2
     go_wp2_with fail
     go_ret
     exact ⟨_,rfl,⟨fun _=>⟨rfl,HN.out⟩,fun _=>rfl⟩,HB.out⟩
  ·have hl':¬(X.length:Int)=Y.length:=by omega
   have HN:Hid (¬Y.map Nx.nd=X.map Nx.nd):=fun q=>hl (by simpa using (congrArg List.length q).symm)
   have HB:Hid (Below w.heap.size w ((w.alloc (.cells #[.slice a X.length c,.int .i64 r] 24)).alloc (.cells #[.slice b Y.length d,.int .i64 r] 24))):=(HA.out _ _ rfl rfl).2.2
   clear HS HA
   go_enter Tryz.func15,Tryz.ntmps15
   go_wp2_with fail
   go_ret
   exact ⟨_,rfl,⟨fun q=>by simp at q,fun q=>absurd q.2 HN.out⟩,HB.out⟩
 ·have HN:Hid (¬r=s):=hr
  have HB:Hid (Below w.heap.size w ((w.alloc (.cells #[.slice a X.length c,.int .i64 r] 24)).alloc (.cells #[.slice b Y.length d,.int .i64 s] 24))):=(HA.out _ _ rfl rfl).2.2
  clear HS HA
  go_enter Tryz.func15,Tryz.ntmps15
  go_wp2_with fail
  go_ret
  exact ⟨_,rfl,⟨fun q=>by simp at q,fun q=>absurd q.1 HN.out⟩,HB.out⟩
theorem ssame_yes (X Y:List Nx) (a b:Option Addr) (c d:Nat) (r:Int) (w:World) (h:ScAt w a X) (h':ScAt w b Y) (hX:Small X) (he:Y.map Nx.nd=X.map Nx.nd) :
  Calls Tryz.prog 15 #[.agg #[.slice a X.length c,.int .i64 r],.agg #[.slice b Y.length d,.int .i64 r]] w fun e w'=>e=.returned (.bool true)∧Below w.heap.size w w':=by
 refine Calls.mono (ssame_any X Y a b c d r r w h h' hX) ?_
 rintro e w' ⟨q,rfl,hq,hb⟩
 rw [hq.2 ⟨rfl,he⟩]
 exact ⟨rfl,hb⟩
end Go.Proofs.YtgoffkfpdigeeaaGreatDoor
namespace Go.Proofs.YtgoffkfpdigeeaaGreatDoor
open Go.RowKit Go.Maps Go.WideMaps
theorem wrap_i64 {z:Int} (h:0≤z∧z<1000000):IntKind.i64.wrap z=z:=by
 simp [IntKind.wrap,IntKind.signed,IntKind.bits]
 omega
end Go.Proofs.YtgoffkfpdigeeaaGreatDoor
namespace Go.Proofs.YtgoffkfpdigeeaaGreatDoor
open Go.RowKit Go.Maps Go.WideMaps Go.Sort
end Go.Proofs.YtgoffkfpdigeeaaGreatDoor
namespace Go.Proofs.YtgoffkfpdigeeaaGreatDoor
open Go.RowKit Go.Maps Go.WideMaps Go.Sort
def zV (n:Nat) (f:Nat→Int):Array Value:=((List.range n).map fun x=>Value.int .i64 (f x)).toArray
theorem RightIs.dag {X:List Nx} {r:Int} (h:RightIs X r):Dag (kX X):=⟨kX_ok h.2.1,h.2.2.1⟩
theorem RightIs.root {X:List Nx} {r:Int} (h:RightIs X r):r=(r.toNat:Int)∧r.toNat<X.length:=by
 have:=isPb_iff.1 h.1
 omega
theorem RightIs.ord {X:List Nx} {r:Int} (h:RightIs X r):Ord (kX X) r.toNat (ordO (kX X) r.toNat):=ordO_is h.dag (by rw [kX_length];exact h.root.2) (fun x hx=>h.2.2.2 x (by rwa [kX_length] at hx))
def oX (X:List Nx) (r:Int):List Nat:=ordO (kX X) r.toNat
theorem own_ne_atB {w:World} {B r n c g:Nat} {e T:TypeId} {size:Nat} {xs:List Value} {cs:Array Value} (h:w.ownsRow B e size (.slice (some ⟨r,0,none⟩) n c) n xs) (ha:AtN T w g cs) (he:e≠T):r≠g:=fun q=>own_ne_at h ha he r rfl q
end Go.Proofs.YtgoffkfpdigeeaaGreatDoor
namespace Go.Proofs.YtgoffkfpdigeeaaGreatDoor
open Go.RowKit
end Go.Proofs.YtgoffkfpdigeeaaGreatDoor
namespace Go.Proofs.YtgoffkfpdigeeaaGreatDoor
open Go.RowKit Go.Maps Go.WideMaps Go.Sort
def renNd (f:Int→Int) (N:Nd):Nd:=⟨N.kind,N.ints,N.texts,N.kids.map f⟩
theorem renNd_big (f:Int→Int) (N:Nd):big (renNd f N)=big N:=by
 unfold big renNd
 simp only [List.length_map]
theorem own_store9 {w:World} {B n:Nat} {e:TypeId} {a:Option Addr} {cap:Nat} {xs:List Value} (h:w.ownsRow B e 1 (.slice a n cap) n xs) (j:Nat) (hj:j<n):∃g,a=some ⟨g,0,none⟩∧w.cell? ⟨g,j,none⟩=xs[j]?∧w.frozen? ⟨g,j,none⟩=false∧B≤g∧g<w.heap.size∧
  ∀v,(w.setCell ⟨g,j,none⟩ v).ownsRow B e 1 (.slice (some ⟨g,0,none⟩) n cap) n (xs.set j v):=by
 rcases h.2 with ⟨_,h2⟩|⟨g,cap',cur,he,h1,h2,h3⟩
 ·omega
 ·simp only [Value.slice.injEq] at he
  obtain ⟨rfl,_,rfl⟩:=he
  exact ⟨g,rfl,h.cellAt j (by have:=h.1;omega),h.frozenAt j,h1,(h.lt g rfl).2,fun v=>(h.stored j v).1⟩
theorem own_apart9 {w:World} {B B' n n' s s':Nat} {e e':TypeId} {v v':Value} {xs xs':List Value} (h:w.ownsRow B e s v n xs) (h':w.ownsRow B' e' s' v' n' xs') (he:e≠e') {g:Nat} (hv:v.ownBlock=some g):v'.ownBlock≠some g:=by
 intro hr
 rcases h.2 with ⟨rfl,_⟩|⟨g1,_,cur,rfl,_,h2,_⟩
 ·cases hv
 ·simp only [Value.ownBlock,Option.some.injEq] at hv
  subst hv
  rcases h'.2 with ⟨rfl,_⟩|⟨g2,_,cur',rfl,_,h3,_⟩
  ·cases hr
  ·simp only [Value.ownBlock,Option.some.injEq] at hr
   subst hr
   rw [h3] at h2
   cases h2
   exact he rfl
def tkf (f:Int→Int) (l:List Int) (k:Nat):List Int:=(l.take k).map (f)++l.drop k
theorem tkf_zero (f:Int→Int) (l:List Int):tkf f l 0=l:=by simp [tkf]
theorem tkf_all (f:Int→Int) (l:List Int):tkf f l l.length=l.map (f):=by simp [tkf]
theorem tkf_at (f:Int→Int) (l:List Int) (k:Nat) (h:k<l.length):(iV (tkf f l k))[k]? = some (.int .i64 (l.getD k 0)):=by
 have h1:(tkf f l k)[k]? = some (l.getD k 0):=by
  unfold tkf
  rw [List.getElem?_append_right (by simp;omega)]
  simp [h,Nat.min_eq_left (Nat.le_of_lt h)]
 unfold iV
 rw [List.getElem?_map,h1]
 rfl
theorem tkf_set (f:Int→Int) (l:List Int) (k:Nat) (h:k<l.length):(iV (tkf f l k)).set k (.int .i64 (f (l.getD k 0)))=iV (tkf f l (k+1)):=by
 have h1:(tkf f l k).set k (f (l.getD k 0))=tkf f l (k+1):=by
  unfold tkf
  have hm:((l.take k).map (f)).length=k:=by simp;omega
  rw [List.set_append_right _ _ (by omega),hm,Nat.sub_self,List.take_add_one,List.getD_eq_getElem?_getD,List.getElem?_eq_getElem h,show l.drop k=l[k] :: l.drop (k+1) from List.drop_eq_getElem_cons h,List.map_append,List.append_assoc]
  rfl
 rw [← h1]
 unfold iV
 rw [List.map_set]
structure Tgf (w:World) (B g:Nat) (N:Nd) (f:Int→Int) (k:Nat) (a1 a2 a3:Option Addr) (c1 c2 c3:Nat):Prop where
 nd:AtN 51 w g #[.int .i64 N.kind,.slice a1 N.ints.length c1,.slice a2 N.texts.length c2,.slice a3 N.kids.length c3]
 i:w.ownsRow B 2 1 (.slice a1 N.ints.length c1) N.ints.length (iV N.ints)
 t:w.ownsRow B 9 1 (.slice a2 N.texts.length c2) N.texts.length (tV N.texts)
 k:w.ownsRow B 3 1 (.slice a3 N.kids.length c3) N.kids.length (iV (tkf f N.kids k))
theorem Tgf.drew {w:World} {B g:Nat} {N:Nd} {f:Int→Int} {k:Nat} {a1 a2 a3:Option Addr} {c1 c2 c3:Nat} (h:Tgf w B g N f k a1 a2 a3 c1 c2 c3):Tgf w.drew B g N f k a1 a2 a3 c1 c2 c3:=⟨h.nd,h.i,h.t,h.k⟩
theorem Tgf.next {w:World} {B g:Nat} {N:Nd} {f:Int→Int} {k:Nat} {a1 a2 a3:Option Addr} {c1 c2 c3:Nat} (h:Tgf w B g N f k a1 a2 a3 c1 c2 c3) (hk:k<N.kids.length):∃q,a3=some ⟨q,0,none⟩∧w.cell? ⟨q,k,none⟩=some (.int .i64 (N.kids.getD k 0))∧w.frozen? ⟨q,k,none⟩=false∧B≤q∧q<w.heap.size∧
  Tgf (w.setCell ⟨q,k,none⟩ (.int .i64 (f (N.kids.getD k 0)))) B g N f (k+1) a1 a2 a3 c1 c2 c3:=by
 obtain ⟨q,rfl,h1,h2,h3,h4,h5⟩:=own_store9 h.k k hk
 have hq:(Value.slice (some ⟨q,0,none⟩) N.kids.length c3).ownBlock=some q:=rfl
 refine ⟨q,rfl,by rw [h1,tkf_at f N.kids k hk],h2,h3,h4,?_,?_,?_,?_⟩
 ·exact h.nd.setOther _ (fun e=>own_ne_at h.k h.nd (by decide) q hq e) _
 ·exact own_set h.i _ (fun r hr e=>own_apart9 h.k h.i (by decide) hq (by rw [hr];exact congrArg some e)) _
 ·exact own_set h.t _ (fun r hr e=>own_apart9 h.k h.t (by decide) hq (by rw [hr];exact congrArg some e)) _
 ·have:=h5 (.int .i64 (f (N.kids.getD k 0)))
  rwa [tkf_set f N.kids k hk] at this
def renNx (f:Int→Int) (N:Nd) (a1 a2 a3:Option Addr) (c1 c2 c3:Nat):Nx:=⟨renNd f N,a1,c1,a2,c2,a3,c3⟩
theorem Tgf.own {w:World} {B g:Nat} {N:Nd} {f:Int→Int} {a1 a2 a3:Option Addr} {c1 c2 c3:Nat} (h:Tgf w B g N f N.kids.length a1 a2 a3 c1 c2 c3):OwnNx w B (renNx f N a1 a2 a3 c1 c2 c3):=by
 refine ⟨h.i,h.t,?_⟩
 have:=h.k
 rw [tkf_all] at this
 simpa [renNx,renNd] using this
theorem renNx_cells (f:Int→Int) (N:Nd) (a1 a2 a3:Option Addr) (c1 c2 c3:Nat):nxC (renNx f N a1 a2 a3 c1 c2 c3)=[.int .i64 N.kind,.slice a1 N.ints.length c1,.slice a2 N.texts.length c2,.slice a3 N.kids.length c3]:=by simp [nxC,renNx,renNd]
end Go.Proofs.YtgoffkfpdigeeaaGreatDoor
namespace Go.Proofs.YtgoffkfpdigeeaaGreatDoor
open Go.RowKit Go.Maps Go.WideMaps Go.Sort
end Go.Proofs.YtgoffkfpdigeeaaGreatDoor
namespace Go.Proofs.YtgoffkfpdigeeaaGreatDoor
open Go.RowKit Go.Maps Go.WideMaps Go.Sort
def pX (X:List Nx) (r:Int) (z:Int):Int:=((oX X r).idxOf z.toNat:Int)
def cX (X:List Nx) (r:Int):List Nd:=(oX X r).map fun i=>renNd (pX X r) (X.getD i noNx).nd
def cnG (gn j:Nat) (Z:List Nx) (W0 W:World):Prop:=(∃Z',(Z'=Z∨∃y,Z'=Z.set j y)∧AtN 51 W gn (nxV Z').toArray)∧Fr (fun b=>b=gn) W0 W
section
variable {gn gp n i j B:Nat} {p:Int→Int} {N:Nx} {Z:List Nx} {W0 W W':World}
theorem cnG.below (h:cnG gn j Z W0 W) (hb:Below W.heap.size W W'):cnG gn j Z W0 W':=by
 obtain ⟨⟨Z',h1,h2⟩,h3⟩:=h
 exact ⟨⟨Z',h1,h2.belowAll hb⟩,h3.trans (Fr.of_below (S:=fun _=>False) hb) (fun _ q _=>q.elim)⟩
end
def kidB (y:Nx):Option Nat:=(Value.slice y.a3 y.nd.kids.length y.c3).ownBlock
def Aprt (Y:List Nx):Prop:=∀i j,i<j→j<Y.length→∀g,kidB (Y.getD i noNx)=some g→kidB (Y.getD j noNx)≠some g
structure CnI (w wr:World) (X:List Nx) (a:Option Addr) (c:Nat) (r:Int) (gn gp i:Nat) (Z:List Nx):Prop where
 len:Z.length=X.length
 nd:∀k,k<i→(Z.getD ((oX X r).idxOf k) noNx).nd=renNd (pX X r) (X.getD k noNx).nd
 own:∀k,k<i→OwnNx wr w.heap.size (Z.getD ((oX X r).idxOf k) noNx)
 nodes:AtN 51 wr gn (nxV Z).toArray
 places:AtN 3 wr gp (zV X.length (fun i=>((oX X r).idxOf i:Int)))
 arg:AtN 24 wr w.heap.size #[.slice a X.length c,.int .i64 r]
 res:AtN 24 wr (w.heap.size+1) #[.slice none 0 0,.int .i64 0]
 bel:Below w.heap.size w wr
 big:w.heap.size+2≤gn
 ap:∀k k',k<i→k'<i→k≠k'→∀q,kidB (Z.getD ((oX X r).idxOf k) noNx)=some q→kidB (Z.getD ((oX X r).idxOf k') noNx)≠some q
theorem CnI.next {w wr W0 W:World} {X:List Nx} {a:Option Addr} {c:Nat} {r:Int} {gn gp i:Nat} {Z:List Nx} {y:Nx} (h:CnI w wr X a c r gn gp i Z) (hR:RightIs X r) (hi:i<X.length) (hb:Below wr.heap.size wr W0) (hf:Fr (fun b=>b=gn) W0 W) (hy:y.nd=renNd (pX X r) (X.getD i noNx).nd) (hA:AtN 51 W gn (nxV (Z.set ((oX X r).idxOf i) y)).toArray) (hO:OwnNx W W0.heap.size y):CnI w W X a c r gn gp (i+1) (Z.set ((oX X r).idxOf i) y):=by
 have hord:=hR.ord
 have hgl:=h.nodes.lt
 have hne:gp≠gn:=fun e=>by
  have h1:wr.heap[gp]? = _:=h.places
  have h2:wr.heap[gn]? = _:=h.nodes
  rw [e,h2] at h1
  injection h1 with h1
  injection h1 with _ h1
  exact absurd h1 (by decide)
 have hf2:Fr (fun b=>b=gn) wr W:=(Fr.of_below (S:=fun b=>b=gn) hb).trans hf (fun _ e _=>e)
 have hal:Alien wr (fun b=>b=gn):=fun b hb _=>by
  subst hb
  exact ⟨_,_,_,h.nodes,by decide,by decide,by decide⟩
 have hget:∀k,k<i+1→(Z.set ((oX X r).idxOf i) y).getD ((oX X r).idxOf k) noNx=if k=i then y else Z.getD ((oX X r).idxOf k) noNx:=fun k hk=>by
  have hil:=hord.idx (x:=i) (by rw [kX_length];exact hi)
  rw [kX_length] at hil
  by_cases e:k=i
  ·subst e
   rw [if_pos rfl,List.getD_eq_getElem?_getD,List.getElem?_set,if_pos rfl,if_pos (by rw [h.len];exact hil)]
   rfl
  ·rw [if_neg e,List.getD_eq_getElem?_getD,List.getElem?_set,if_neg (fun q=>e (idx_inj (hord.all k (by rw [kX_length];omega)) (hord.all i (by rw [kX_length];omega)) q.symm)),← List.getD_eq_getElem?_getD]
 refine ⟨by rw [List.length_set];exact h.len,fun k hk=>?_,fun k hk=>?_,hA,h.places.fr hf2 hne,h.arg.fr hf2 (by have:=h.big;omega),h.res.fr hf2 (by have:=h.big;omega),Fr.below h.bel hf2 (fun b e=>by have:=h.big;omega) h.bel.size,h.big,fun k k' hk hk' hne q hq hq'=>?_⟩
 ·rw [hget k hk]
  by_cases e:k=i
  ·rw [if_pos e,hy,e]
  ·rw [if_neg e];exact h.nd k (by omega)
 ·rw [hget k hk]
  by_cases e:k=i
  ·rw [if_pos e]
   exact hO.mono (Nat.le_trans h.bel.size hb.size)
  ·rw [if_neg e];exact (h.own k (by omega)).fr hf2 hal
 ·rw [hget k hk] at hq
  rw [hget k' hk'] at hq'
  have hold:∀m,m<i→kidB (Z.getD ((oX X r).idxOf m) noNx)=some q→q<wr.heap.size:=fun m hm e=>((h.own m hm).k.lt q e).2
  have hnew:kidB y=some q→wr.heap.size≤q:=fun e=>Nat.le_trans hb.size (hO.k.lt q e).1
  by_cases e:k=i
  ·rw [if_pos e] at hq
   rw [if_neg (by omega)] at hq'
   have:=hold k' (by omega) hq'
   have:=hnew hq
   omega
  ·rw [if_neg e] at hq
   by_cases e':k'=i
   ·rw [if_pos e'] at hq'
    have:=hold k (by omega) hq
    have:=hnew hq'
    omega
   ·rw [if_neg e'] at hq'
    exact h.ap k k' (by omega) (by omega) hne q hq hq'
theorem CnI.fin {w wr:World} {X:List Nx} {a:Option Addr} {c:Nat} {r:Int} {gn gp:Nat} {Z:List Nx} (h:CnI w wr X a c r gn gp X.length Z) (hR:RightIs X r):Z.map Nx.nd=cX X r∧ScAt wr (some ⟨gn,0,none⟩) Z:=by
 have hord:=hR.ord
 have hol:(oX X r).length=X.length:=by have:=hord.len;rwa [kX_length] at this
 have hat:∀j,(hj:j<X.length)→∃k,k<X.length∧(oX X r).idxOf k=j∧(oX X r)[j]? = some k:=fun j hj=>by
  have hj':j<(oX X r).length:=by omega
  refine ⟨(oX X r)[j],?_,hord.good.nd.idxOf_getElem j hj',List.getElem?_eq_getElem hj'⟩
  have:=hord.good.lt _ (List.getElem_mem hj')
  rwa [kX_length] at this
 constructor
 ·refine List.ext_getElem? (fun j=>?_)
  by_cases hj:j<X.length
  ·obtain ⟨k,hk,h1,h2⟩:=hat j hj
   unfold cX
   rw [List.getElem?_map,List.getElem?_map,h2,List.getElem?_eq_getElem (by rw [h.len];exact hj)]
   have:=h.nd k hk
   rw [h1,List.getD_eq_getElem?_getD,List.getElem?_eq_getElem (by rw [h.len];exact hj)] at this
   simpa using this
  ·rw [List.getElem?_eq_none (by rw [List.length_map,h.len];omega),List.getElem?_eq_none (by unfold cX;rw [List.length_map];omega)]
 ·refine ⟨h.nodes.lsQ.toAt,fun j hj=>?_⟩
  rw [h.len] at hj
  obtain ⟨k,hk,h1,_⟩:=hat j hj
  have:=h.own k hk
  rw [h1] at this
  exact this.ndAt
structure RgN (N:Nd):Prop where
 kind:inR N.kind
 ints:∀k ∈ N.ints,inR k
 kids:∀k ∈ N.kids,inR k
end Go.Proofs.YtgoffkfpdigeeaaGreatDoor
