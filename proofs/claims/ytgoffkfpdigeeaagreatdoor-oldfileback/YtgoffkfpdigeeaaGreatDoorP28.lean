import Derived.ProofKit
import Derived.OpenShut
import Derived.Below
import Derived.Deep.Strs
import Derived.Lib.SmallJoins
import Derived.Test.YtgoffkfpdigeeaaGreatDoorP27
import Derived.Test.YtgoffkfpdigeeaaGreatDoorP02
namespace Go.Proofs.YtgoffkfpdigeeaaGreatDoor
open Go.RowKit Go.Maps Go.WideMaps Go.Sort
theorem Good.len {K:List (List Nat)} {M:List Nat} (h:Good K M):M.length≤K.length:=nodup_le _ _ h.nd h.lt
end Go.Proofs.YtgoffkfpdigeeaaGreatDoor
namespace Go.Proofs.YtgoffkfpdigeeaaGreatDoor
open Go.RowKit Go.Maps Go.WideMaps Go.Sort
section
variable {n b o c b0 m bl ol cl i x B:Nat} {N:Nx} {W W':World}
end
end Go.Proofs.YtgoffkfpdigeeaaGreatDoor
namespace Go.Proofs.YtgoffkfpdigeeaaGreatDoor
open Go.RowKit Go.Maps Go.WideMaps Go.Sort
structure Ren (X Y:List Nx) (p:Nat→Nat):Prop where
 per:Per X.length p
 len:Y.length=X.length
 nd:∀i,i<X.length→(Y.getD (p i) noNx).nd=renNd (fun z=>(p z.toNat:Int)) (X.getD i noNx).nd
section
variable {X Y:List Nx} {p:Nat→Nat} {r:Int}
theorem Ren.k (h:Ren X Y p):RenK (kX X) (kX Y) p:=by
 refine ⟨by rw [kX_length];exact h.per,by rw [kX_length,kX_length];exact h.len,fun i hi=>?_⟩
 rw [kX_length] at hi
 rw [kX_at X i hi,kX_at Y (p i) (by rw [h.len];exact h.per.lt i hi),h.nd i hi]
 simp only [renNd,List.map_map]
 refine List.map_congr_left fun z _=>?_
 simp
theorem getD_mapI (f:Int→Int) (l:List Int) (t:Nat) (ht:t<l.length):(l.map f).getD t 0=f l[t]:=by simp [ht]
theorem kid_place (hok:∀i,i<X.length→okAt X i) {i:Nat} (hi:i<X.length) {z:Int} (hz:z ∈ (X.getD i noNx).nd.kids):0≤z∧z.toNat<X.length:=by
 obtain ⟨t,ht,rfl⟩:=List.getElem_of_mem hz
 have:=hok i hi t ht
 rw [show (X.getD i noNx).nd.kids.getD t 0=(X.getD i noNx).nd.kids[t] by rw [List.getD_eq_getElem?_getD,List.getElem?_eq_getElem ht];rfl] at this
 have:=isPb_iff.1 this
 omega
theorem Ren.right (h:Ren X Y p) (hR:RightIs X r):RightIs Y (p r.toNat:Int):=by
 have hr:=hR.root
 have hk:=h.k
 refine ⟨?_,fun j hj t ht=>?_,(hk.dag hR.dag).2,fun y hy=>?_⟩
 ·rw [isPb_iff,h.len]
  have:=h.per.lt _ hr.2
  omega
 ·rw [h.len] at hj ⊢
  obtain ⟨i,hi,rfl⟩:=h.per.onto j hj
  rw [h.nd i hi] at ht ⊢
  simp only [renNd,List.length_map] at ht
  have hz:=kid_place hR.2.1 hi (List.getElem_mem ht)
  have hl:=h.per.lt _ hz.2
  simp only [renNd]
  rw [getD_mapI _ _ t ht,isPb_iff]
  omega
 ·rw [h.len] at hy
  obtain ⟨x,hx,rfl⟩:=h.per.onto y hy
  rw [Int.toNat_natCast]
  exact hk.rt (hR.2.2.2 x hx)
theorem Ren.ord (h:Ren X Y p) (hR:RightIs X r):oX Y (p r.toNat:Int)=(oX X r).map p:=by
 unfold oX
 rw [Int.toNat_natCast]
 exact ordO_ren h.k (kX_ok hR.2.1) (by rw [kX_length];exact hR.root.2)
theorem Ren.can (h:Ren X Y p) (hR:RightIs X r):cX Y (p r.toNat:Int)=cX X r:=by
 have ho:=h.ord hR
 have hlt:∀i ∈ oX X r,i<X.length:=fun i hi=>by have:=hR.ord.good.lt i hi;rwa [kX_length] at this
 unfold cX
 rw [ho,List.map_map]
 refine List.map_congr_left fun i hi=>?_
 simp only [Function.comp]
 rw [h.nd i (hlt i hi)]
 simp only [renNd,List.map_map]
 congr 1
 refine List.map_congr_left fun z hz=>?_
 have hz':=kid_place hR.2.1 (hlt i hi) hz
 simp only [Function.comp,pX]
 rw [ho,Int.toNat_natCast,idx_ren (K:=kX X) (by rw [kX_length];exact h.per) (fun x hx=>by rw [kX_length];exact hlt x hx) (by rw [kX_length];exact hz'.2)]
theorem Ren.small (h:Ren X Y p) (hX:Small X):Small Y:=by
 refine ⟨by rw [h.len];exact hX.1,fun j hj=>?_⟩
 rw [h.len] at hj
 obtain ⟨i,hi,rfl⟩:=h.per.onto j hj
 rw [h.nd i hi,renNd_big]
 exact hX.2 i hi
theorem fold1_ren (f g:Nat→Nat) (l:List Nat):fold1 f (l.map g)=fold1 (fun k=>f (g k)) l:=by simp [fold1,List.foldl_map]
theorem DepthIs.one {d d':Nat} (h:DepthIs X r d) (h':DepthIs X r d') (hR:RightIs X r):d'=d:=by
 obtain ⟨f,h1,rfl,_⟩:=h.2 hR
 obtain ⟨g,h2,rfl,_⟩:=h'.2 hR
 exact HtIs.uniq h2 h1 (kX_ok hR.2.1) _ _ rfl (by rw [kX_length];exact hR.root.2)
theorem Ren.depth (h:Ren X Y p) (hR:RightIs X r) {d d':Nat} (hd:DepthIs X r d) (hd':DepthIs Y (p r.toNat:Int) d'):d'=d:=by
 obtain ⟨f,h1,rfl,_⟩:=hd.2 hR
 obtain ⟨g,h2,rfl,_⟩:=hd'.2 (h.right hR)
 rw [Int.toNat_natCast]
 have hk:=h.k
 have h3:HtIs (kX X) (fun x=>g (p x)):=fun a ha=>by
  have:=h2 (p a) (by rw [hk.len];exact hk.per.lt a ha)
  rw [hk.kids a ha,fold1_ren] at this
  exact this
 exact HtIs.uniq h3 h1 (kX_ok hR.2.1) _ r.toNat rfl (by rw [kX_length];exact hR.root.2)
theorem edg_range (X:List Nx):edg X=((List.range X.length).map fun i=>(X.getD i noNx).nd.kids.length).sum:=by
 unfold edg
 congr 1
 refine List.ext_getElem (by simp) (fun i h1 h2=>?_)
 have:i<X.length:=by simpa using h1
 simp [this]
theorem Ren.edg (h:Ren X Y p):edg Y=edg X:=by
 rw [edg_range Y,edg_range X,h.len]
 have hp:((List.range X.length).map p).Perm (List.range X.length):=by
  refine (List.perm_ext_iff_of_nodup ?_ List.nodup_range).2 (fun y=>?_)
  ·refine List.pairwise_map.2 ?_
   refine List.Pairwise.imp_of_mem (R:=fun a b=>a≠b) (fun {a b} ha hb hne q=>hne (h.per.inj a b (List.mem_range.1 ha) (List.mem_range.1 hb) q)) ?_
   exact List.nodup_range
  ·constructor
   ·intro hy
    obtain ⟨x,hx,rfl⟩:=List.mem_map.1 hy
    exact List.mem_range.2 (h.per.lt x (List.mem_range.1 hx))
   ·intro hy
    obtain ⟨x,hx,rfl⟩:=h.per.onto y (List.mem_range.1 hy)
    exact List.mem_map_of_mem (List.mem_range.2 hx)
 rw [← List.Perm.sum_nat (hp.map fun i=>(Y.getD i noNx).nd.kids.length),List.map_map]
 congr 1
 refine List.map_congr_left fun i hi=>?_
 simp only [Function.comp]
 rw [h.nd i (List.mem_range.1 hi)]
 simp [renNd]
end
end Go.Proofs.YtgoffkfpdigeeaaGreatDoor
namespace Go.Proofs.YtgoffkfpdigeeaaGreatDoor
open Go.ChangeShapes Go.WideShapes Go.ChangeAt Go.RowKit Go.Joins Go.Deep
structure IsSc (w:World) (a:Option Addr) (X:List Nx) (r:Int):Prop where
 sc:ScAt w a X
 root:inR r
 rg:∀i,i<X.length→RgN (X.getD i noNx).nd
theorem IsSc.kids {w:World} {a:Option Addr} {X:List Nx} {r:Int} (h:IsSc w a X r):∀i,i<X.length→∀k ∈ (X.getD i noNx).nd.kids,inR k:=fun i hi=>(h.rg i hi).kids
section
variable {H:Type} {enc:TypeId × Value→H} {P:Program} {w:World}
theorem wf_i64 {n:Int} (h:(Lit.int .i64 n).wf=true):inR n:=by
 simp only [Lit.wf,Bool.and_eq_true,decide_eq_true_eq] at h
 exact h
theorem choose9 {α : Type} (d : α) {p:Nat→α→Prop} {m:Nat} (h:∀i,i<m→∃a,p i a):∃f:Nat→α,∀i,i<m→p i (f i):=by
 classical
 refine ⟨fun i=>if hi:i<m then Classical.choose (h i hi) else d,fun i hi=>?_⟩
 simp only [hi,dif_pos]
 exact Classical.choose_spec (h i hi)
theorem cells_in {y:Addr} {m:Nat} {V:Nat→Value} (h:∀i,i<m→w.cell? (y.add i)=some (V i)) (len:Nat) (hl:len≤m):LsAt w (some y) ((List.range len).map V):=by
 by_cases h0:len=0
 ·subst h0;exact LsAt.nil _ _
 have hs:=World.cell?_spot (h 0 (by omega))
 have hsp:y.spot=none:=by simpa [Addr.add] using hs
 obtain ⟨b,o,sp⟩:=y
 simp at hsp
 subst hsp
 refine ⟨b,o,fun _=>rfl,fun i hi=>?_⟩
 simp at hi
 have hc:=h i (by omega)
 rw [add_plain] at hc
 exact ⟨block_lt_of_cell hc,by rw [hc];simp [hi]⟩
theorem open_ints9 {t e:TypeId} {v:Value} {n:Nat} {x:DataW H × List MemPlace} (ht:P.underlying t=some (.slice e)) (he:P.underlying e=some (.int .i64)) (ce:P.cellsOf e=1) (h:DataW.trod enc P w 0 (fun _=>true) true n t [v]=some x) :
  ∃L a c,v=.slice a (List.length L) c∧LsAt w a (iV L)∧∀k ∈ L,inR k:=by
 rcases Go.Deep.open_slice1 ht ce h with ⟨hcs,_⟩|⟨y,len,cap,m,k,V,D,Pl,hcs,_,hl,hm,hmm,_,hx⟩
 ·simp at hcs
  subst hcs
  exact ⟨[],none,0,rfl,LsAt.nil _ _,fun k hk=>by simp at hk⟩
 ·simp at hcs hmm
  subst hcs hmm
  have each:∀i,i<m→∃z:Int,V i=.int .i64 z∧inR z:=fun i hi=>by
   obtain ⟨z,h1,_,h3⟩:=DataW.trod_int he (hx i hi).2
   exact ⟨z,by simpa using h1,wf_i64 h3⟩
  obtain ⟨Z,hZ⟩:=Go.Deep.choose_lt each
  refine ⟨(List.range len).map Z,some y,m,by simp,?_,?_⟩
  ·have:=cells_in (fun i hi=>(hx i hi).1) len hl
   rw [show iV ((List.range len).map Z)=(List.range len).map V by
    unfold iV
    rw [List.map_map]
    refine List.map_congr_left fun i hi=>?_
    have:=(hZ i (by have:=List.mem_range.1 hi;omega)).1
    simp [this]]
   exact this
  ·intro k hk
   obtain ⟨i,hi,rfl⟩:=List.mem_map.1 hk
   exact (hZ i (by have:=List.mem_range.1 hi;omega)).2
theorem open_texts9 {t e:TypeId} {v:Value} {n:Nat} {x:DataW H × List MemPlace} (ht:P.underlying t=some (.slice e)) (he:P.underlying e=some .string) (ce:P.cellsOf e=1) (h:DataW.trod enc P w 0 (fun _=>true) true n t [v]=some x) :
  ∃L a c,v=.slice a (List.length L) c∧LsAt w a (tV L):=by
 rcases Go.Deep.open_slice1 ht ce h with ⟨hcs,_⟩|⟨y,len,cap,m,k,V,D,Pl,hcs,_,hl,hm,hmm,_,hx⟩
 ·simp at hcs
  subst hcs
  exact ⟨[],none,0,rfl,LsAt.nil _ _⟩
 ·simp at hcs hmm
  subst hcs hmm
  have each:∀i,i<m→∃z:ByteArray,V i=.string z:=fun i hi=>by
   obtain ⟨z,h1,_,h3⟩:=DataW.trod_string he (hx i hi).2
   exact ⟨z,by simpa using h1⟩
  obtain ⟨Z,hZ⟩:=Go.Deep.choose_lt each
  refine ⟨(List.range len).map Z,some y,m,by simp,?_⟩
  have:=cells_in (fun i hi=>(hx i hi).1) len hl
  rw [show tV ((List.range len).map Z)=(List.range len).map V by
   unfold tV
   rw [List.map_map]
   refine List.map_congr_left fun i hi=>?_
   have:=hZ i (by have:=List.mem_range.1 hi;omega)
   simp [this]]
  exact this
theorem open_nodes {t e:TypeId} {f0 f1 f2 f3:Field} {e1 e2 e3:TypeId} {v:Value} {n:Nat} {x:DataW H × List MemPlace} (ht:P.underlying t=some (.slice e)) (he:P.underlying e=some (.struct #[f0,f1,f2,f3])) (ce:P.cellsOf e=4)
  (o0:f0.offset=0) (o1:f1.offset=1) (o2:f2.offset=2) (o3:f3.offset=3) (c0:P.cellsOf f0.type=1) (c1:P.cellsOf f1.type=1) (c2:P.cellsOf f2.type=1) (c3:P.cellsOf f3.type=1)
  (u0:P.underlying f0.type=some (.int .i64)) (u1:P.underlying f1.type=some (.slice e1)) (u2:P.underlying f2.type=some (.slice e2)) (u3:P.underlying f3.type=some (.slice e3)) (q1:P.underlying e1=some (.int .i64)) (q2:P.underlying e2=some .string) (q3:P.underlying e3=some (.int .i64))
  (k1:P.cellsOf e1=1) (k2:P.cellsOf e2=1) (k3:P.cellsOf e3=1) (h:DataW.trod enc P w 0 (fun _=>true) true n t [v]=some x) :
  ∃X a c,v=.slice a (List.length X) c∧ScAt w a X∧∀i,i<X.length→RgN (X.getD i noNx).nd:=by
 rcases Go.Deep.open_slice ht h with ⟨hcs,_⟩|⟨y,len,cap,m,n',D,Pl,hcs,_,hl,hm,hmm,_,hx⟩
 ·simp at hcs
  subst hcs
  exact ⟨[],none,0,rfl,⟨LsAt.nil _ _,fun i hi=>by simp at hi⟩,fun i hi=>by simp at hi⟩
 ·simp at hcs hmm
  subst hcs hmm
  rw [ce] at hx
  have each:∀i,i<m→∃q:Nx,(∀j,j<4→w.cell? (y.add (i*4+j))=(nxC q)[j]?)∧NdAt w q.nd q.a1 q.a2 q.a3∧RgN q.nd:=by
   intro i hi
   obtain ⟨cs,h1,h2⟩:=hx i hi
   obtain ⟨_,hlen,hcell⟩:=World.cells?_some h1
   match cs,hlen with
   | [g0,g1,g2,g3],_=>
    obtain ⟨y0,y1,y2,y3,k,_,_,t0,t1,t2,t3⟩:=trod_struct4 he h2
    rw [o0,c0] at t0
    rw [o1,c1] at t1
    rw [o2,c2] at t2
    rw [o3,c3] at t3
    obtain ⟨z,e0,_,hz⟩:=DataW.trod_int u0 t0
    obtain ⟨I,a1,d1,r1,l1,hI⟩:=open_ints9 (v:=g1) u1 q1 k1 t1
    obtain ⟨T,a2,d2,r2,l2⟩:=open_texts9 (v:=g2) u2 q2 k2 t2
    obtain ⟨K,a3,d3,r3,l3,hK⟩:=open_ints9 (v:=g3) u3 q3 k3 t3
    simp at e0
    subst e0 r1 r2 r3
    refine ⟨⟨⟨z,I,T,K⟩,a1,d1,a2,d2,a3,d3⟩,fun j hj=>?_,⟨l1,l2,l3⟩,⟨wf_i64 hz,hI,hK⟩⟩
    have:=hcell j (by omega)
    rw [Addr.add_add] at this
    rw [this]
    rfl
  obtain ⟨z,hz⟩:=choose9 noNx each
  have hget:∀i,i<len→((List.range len).map z).getD i noNx=z i:=fun i hi=>by simp [hi]
  refine ⟨(List.range len).map z,some y,m,by simp,⟨?_,fun i hi=>?_⟩,fun i hi=>?_⟩
  ·by_cases h0:len=0
   ·subst h0;exact LsAt.nil _ _
   have hs:=World.cell?_spot (((hz 0 (by omega)).1 0 (by omega)).trans (show _=some (Value.int .i64 (z 0).nd.kind) from rfl))
   have hsp:y.spot=none:=by simpa [Addr.add] using hs
   obtain ⟨b,o,sp⟩:=y
   simp at hsp
   subst hsp
   have hL:((List.range len).map z).length=len:=by simp
   refine ⟨b,o,fun _=>rfl,fun i hi=>?_⟩
   rw [nxV_length,hL] at hi
   have hc:=(hz (i / 4) (by omega)).1 (i % 4) (by omega)
   rw [show i / 4*4+i % 4=i by omega,add_plain] at hc
   have hv:=nxV_at ((List.range len).map z) (i / 4) (i % 4) (by rw [hL];omega) (by omega)
   rw [hget _ (by omega),show i / 4*4+i % 4=i by omega] at hv
   rw [hv,← hc]
   refine ⟨?_,rfl⟩
   have:∃u,(nxC (z (i / 4)))[i % 4]? = some u:=by
    rcases (by omega:i % 4=0∨i % 4=1∨i % 4=2∨i % 4=3) with q|q|q|q <;> rw [q] <;> exact ⟨_,rfl⟩
   obtain ⟨u,hu⟩:=this
   rw [hu] at hc
   exact block_lt_of_cell hc
  ·have hi':i<len:=by simpa using hi
   rw [hget i hi']
   exact (hz i (by omega)).2.1
  ·have hi':i<len:=by simpa using hi
   rw [hget i hi']
   exact (hz i (by omega)).2.2
theorem open_scene {r:Reach} {b0:Nat} {ts e:TypeId} {g0 g1 f0 f1 f2 f3:Field} {e1 e2 e3:TypeId} {v:Value} {d:DataW H} {p:List MemPlace} (hs:P.underlying ts=some (.struct #[g0,g1])) (hone:oneCellFields P #[g0,g1]=true) (hC:P.cellsOf ts=2)
  (ht:P.underlying g0.type=some (.slice e)) (hr:P.underlying g1.type=some (.int .i64)) (he:P.underlying e=some (.struct #[f0,f1,f2,f3])) (ce:P.cellsOf e=4)
  (o0:f0.offset=0) (o1:f1.offset=1) (o2:f2.offset=2) (o3:f3.offset=3) (c0:P.cellsOf f0.type=1) (c1:P.cellsOf f1.type=1) (c2:P.cellsOf f2.type=1) (c3:P.cellsOf f3.type=1)
  (u0:P.underlying f0.type=some (.int .i64)) (u1:P.underlying f1.type=some (.slice e1)) (u2:P.underlying f2.type=some (.slice e2)) (u3:P.underlying f3.type=some (.slice e3)) (q1:P.underlying e1=some (.int .i64)) (q2:P.underlying e2=some .string) (q3:P.underlying e3=some (.int .i64))
  (k1:P.cellsOf e1=1) (k2:P.cellsOf e2=1) (k3:P.cellsOf e3=1) (hv:Value.okWide P w r b0 ts v) (h:DataW.Trod enc P w 0 (fun _=>true) true ts v d p) :
  ∃X a c q,v=.agg #[.slice a (List.length X) c,.int .i64 q]∧IsSc w a X q:=by
 obtain ⟨v0,v1,y0,y1,n,rfl,_,_,t0,t1⟩:=open_agg2 hs hone hC hv h
 obtain ⟨X,a,c,rfl,h1,h2⟩:=open_nodes ht he ce o0 o1 o2 o3 c0 c1 c2 c3 u0 u1 u2 u3 q1 q2 q3 k1 k2 k3 t0
 obtain ⟨z,e0,_,hz⟩:=DataW.trod_int hr t1
 simp at e0
 subst e0
 exact ⟨X,a,c,z,rfl,h1,wf_i64 hz,h2⟩
end
end Go.Proofs.YtgoffkfpdigeeaaGreatDoor
namespace Go.Proofs.YtgoffkfpdigeeaaGreatDoor
open Go.RowKit Go.Maps Go.WideMaps Go.Sort
theorem CheckIs.zero {X:List Nx} {r e z:Int} (h:CheckIs X r e z) (hr:RightIs X r):e=0∧z=0:=by
 have he:=h.right.2 hr
 refine ⟨he,?_⟩
 rcases h with ⟨h1,q,_⟩|⟨_,i,_,q,_⟩|⟨_,_,⟨i,q,_⟩|⟨_,⟨i,q,_⟩|⟨_,q,_⟩⟩⟩
 ·omega
 ·omega
 ·omega
 ·omega
 ·exact q
theorem CheckIs.cyc {X:List Nx} {r e z:Int} {i:Nat} (h:CheckIs X r e z) (h1:isPb X.length r=true) (h2:∀i,i<X.length→okAt X i) (h3:FirstCyc (kX X) i):e=14∧z=i:=by
 rcases h with ⟨q,_⟩|⟨_,j,hj,_,_,q,_⟩|⟨_,_,⟨j,rfl,rfl,q⟩|⟨q,_⟩⟩
 ·rw [h1] at q;cases q
 ·exact absurd (h2 j hj) q
 ·refine ⟨rfl,?_⟩
  rcases Nat.lt_trichotomy i j with p|p|p
  ·exact absurd h3.1 (q.2 i p)
  ·rw [p]
  ·exact absurd q.1 (h3.2 j p)
 ·exact absurd h3.1 (q i)
theorem CheckIs.loose {X:List Nx} {r e z:Int} {i:Nat} (h:CheckIs X r e z) (h1:isPb X.length r=true) (h2:∀i,i<X.length→okAt X i) (h3:∀x,¬Lead (Ed (kX X)) x x) (h4:i<X.length) (h5:¬Rt (Ed (kX X)) r.toNat i) (h6:∀j,j<i→Rt (Ed (kX X)) r.toNat j):e=15∧z=i:=by
 rcases h with ⟨q,_⟩|⟨_,j,hj,_,_,q,_⟩|⟨_,_,⟨j,_,_,q⟩|⟨_,⟨j,rfl,rfl,hj,q1,q2⟩|⟨_,_,q⟩⟩⟩
 ·rw [h1] at q;cases q
 ·exact absurd (h2 j hj) q
 ·exact absurd q.1 (h3 j)
 ·refine ⟨rfl,?_⟩
  rcases Nat.lt_trichotomy i j with p|p|p
  ·exact absurd (q2 i p) h5
  ·rw [p]
  ·exact absurd (h6 j p) q1
 ·exact absurd (q i h4) h5
theorem CheckIs.uniq {X:List Nx} {r e z e' z':Int} (h:CheckIs X r e z) (h':CheckIs X r e' z'):e'=e∧z'=z:=by
 rcases h with ⟨h1,rfl,rfl⟩|⟨h1,i,hi,rfl,rfl,hno,hbe⟩|⟨h1,h2,⟨i,rfl,rfl,hf⟩|⟨h3,⟨i,rfl,rfl,hi,hn,hb⟩|⟨rfl,rfl,h4⟩⟩⟩
 ·rcases h' with ⟨_,q1,q2⟩|⟨q,_⟩|⟨q,_⟩
  ·exact ⟨q1,q2⟩
  ·rw [h1] at q;cases q
  ·rw [h1] at q;cases q
 ·rcases h' with ⟨q,_⟩|⟨_,j,hj,rfl,rfl,q1,q2⟩|⟨_,q,_⟩
  ·rw [h1] at q;cases q
  ·refine ⟨rfl,?_⟩
   rcases Nat.lt_trichotomy i j with p|p|p
   ·exact absurd (q2 i p) hno
   ·rw [p]
   ·exact absurd (hbe j p) q1
  ·exact absurd (q i hi) hno
 ·exact h'.cyc h1 h2 hf
 ·exact h'.loose h1 h2 h3 hi hn hb
 ·exact h'.zero ⟨h1,h2,h3,h4⟩
section
variable {X Y:List Nx}
theorem same_len (h:Y.map Nx.nd=X.map Nx.nd):Y.length=X.length:=by simpa using congrArg List.length h
theorem same_nd (h:Y.map Nx.nd=X.map Nx.nd) (i:Nat):(Y.getD i noNx).nd=(X.getD i noNx).nd:=by
 have h1:(Y.map Nx.nd)[i]? = (X.map Nx.nd)[i]? := by rw [h]
 rw [List.getElem?_map,List.getElem?_map] at h1
 rw [List.getD_eq_getElem?_getD,List.getD_eq_getElem?_getD]
 cases hy:Y[i]? with
 | none=>
  rw [hy] at h1
  cases hx:X[i]? with
  | none=>rfl
  | some x=>rw [hx] at h1;cases h1
 | some y=>
  rw [hy] at h1
  cases hx:X[i]? with
  | none=>rw [hx] at h1;cases h1
  | some x=>rw [hx] at h1;simpa using h1
theorem same_k (h:Y.map Nx.nd=X.map Nx.nd):kX Y=kX X:=by
 have:∀Z:List Nx,kX Z=(Z.map Nx.nd).map fun N=>N.kids.map Int.toNat:=fun Z=>by simp [kX,kOf,lks,lnOf]
 rw [this,this,h]
theorem same_ok (h:Y.map Nx.nd=X.map Nx.nd) (i:Nat):okAt Y i↔okAt X i:=by
 unfold okAt
 rw [same_len h,same_nd h]
theorem same_small (h:Y.map Nx.nd=X.map Nx.nd) (hX:Small X):Small Y:=⟨by rw [same_len h];exact hX.1,fun i hi=>by rw [same_nd h];exact hX.2 i (by rw [← same_len h];exact hi)⟩
theorem same_check (h:Y.map Nx.nd=X.map Nx.nd) {r e z:Int} (hc:CheckIs Y r e z):CheckIs X r e z:=by
 unfold CheckIs at hc ⊢
 simp only [same_len h,same_k h,same_ok h] at hc
 exact hc
theorem same_right (h:Y.map Nx.nd=X.map Nx.nd) {r:Int}:RightIs Y r↔RightIs X r:=by
 unfold RightIs
 simp only [same_len h,same_k h,same_ok h]
theorem same_depth (h:Y.map Nx.nd=X.map Nx.nd) {r:Int} {d:Nat} (hc:DepthIs Y r d):DepthIs X r d:=by
 unfold DepthIs at hc ⊢
 simp only [same_len h,same_k h,same_right h] at hc
 exact hc
end
theorem at_ls {T:TypeId} {W:World} {g:Nat} {cs:List Value} (h:AtN T W g cs.toArray):LsAt W (some ⟨g,0,none⟩) cs:=h.lsQ.toAt
structure Lw (w W:World) (a:Option Addr) (X:List Nx) (c:Nat) (r:Int):Prop where
 at_:AtN 24 W w.heap.size #[.slice a X.length c,.int .i64 r]
 bel:Below w.heap.size w W
theorem Lw.more {w W W':World} {a:Option Addr} {X:List Nx} {c:Nat} {r:Int} (h:Lw w W a X c r) (hb:Below W.heap.size W W'):Lw w W' a X c r:=⟨h.at_.belowAll hb,h.bel.trans (hb.mono h.bel.size)⟩
theorem Lw.start (w:World) (a:Option Addr) (X:List Nx) (c:Nat) (r:Int):Lw w (w.alloc (.cells #[.slice a X.length c,.int .i64 r] 24)) a X c r:=⟨AtN.new w 24 _,(Below.refl w.heap.size w).alloc (Nat.le_refl _) _⟩
theorem Lw.sc {w W:World} {a:Option Addr} {X:List Nx} {c:Nat} {r q:Int} (h:Lw w W a X c r) (hs:IsSc w a X q):ScAt W a X:=hs.sc.belowB h.bel
theorem Lw.c0 {w W:World} {a:Option Addr} {X:List Nx} {c:Nat} {r:Int} (h:Lw w W a X c r):W.cell? ⟨w.heap.size,0,none⟩=some (.slice a X.length c):=h.at_.cell 0
theorem Lw.c1 {w W:World} {a:Option Addr} {X:List Nx} {c:Nat} {r:Int} (h:Lw w W a X c r):W.cell? ⟨w.heap.size,1,none⟩=some (.int .i64 r):=h.at_.cell 1
end Go.Proofs.YtgoffkfpdigeeaaGreatDoor
namespace Go.Proofs.YtgoffkfpdigeeaaGreatDoor
end Go.Proofs.YtgoffkfpdigeeaaGreatDoor
