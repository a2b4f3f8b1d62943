import Derived.ProofKit
import Derived.OpenShut
import Derived.Below
import Derived.Deep.Strs
import Derived.Lib.SmallJoins
import Derived.Test.YtgoffkfpdigeeaaDoorP20
import Derived.Test.YtgoffkfpdigeeaaDoorP01
import Derived.Test.YtgoffkfpdigeeaaDoorP14
import Derived.Test.YtgoffkfpdigeeaaDoorP13
import Derived.Test.YtgoffkfpdigeeaaDoorP18
import Derived.Test.YtgoffkfpdigeeaaDoorP17
namespace Go.Proofs.YtgoffkfpdigeeaaDoor
open Go.RowKit Go.Maps Go.WideMaps Go.Sort
theorem Good.len {K:List (List Nat)} {M:List Nat} (h:Good K M):M.length≤K.length:=nodup_le _ _ h.nd h.lt
end Go.Proofs.YtgoffkfpdigeeaaDoor
namespace Go.Proofs.YtgoffkfpdigeeaaDoor
open Go.RowKit Go.Maps Go.WideMaps Go.Sort
section
variable {n b o c b0 m bl ol cl i x B:Nat} {N:Nx} {W W':World}
end
end Go.Proofs.YtgoffkfpdigeeaaDoor
namespace Go.Proofs.YtgoffkfpdigeeaaDoor
open Go.RowKit Go.Maps Go.WideMaps Go.Sort
structure Ren (X Y:List Nx) (p:Nat→Nat):Prop where
 per:Per X.length p
 len:Y.length=X.length
 nd:∀i,i<X.length→(Y.getD (p i) noNx).nd=renNd (fun z=>(p z.toNat:Int)) (X.getD i noNx).nd
section
variable {X Y:List Nx} {p:Nat→Nat} {r:Int}
theorem Ren.k (h:Ren X Y p):RenK (kX X) (kX Y) p:=by
 refine ⟨by rw [kX_length];exact h.per,by rw [kX_length,kX_length];exact h.len,fun i hi=>?_⟩
 rw [kX_length] at hi
 rw [kX_at X i hi,kX_at Y (p i) (by rw [h.len];exact h.per.lt i hi),h.nd i hi]
 simp only [renNd,List.map_map]
 refine List.map_congr_left fun z _=>?_
 simp
theorem getD_mapI (f:Int→Int) (l:List Int) (t:Nat) (ht:t<l.length):(l.map f).getD t 0=f l[t]:=by simp [ht]
theorem kid_place (hok:∀i,i<X.length→okAt X i) {i:Nat} (hi:i<X.length) {z:Int} (hz:z ∈ (X.getD i noNx).nd.kids):0≤z∧z.toNat<X.length:=by
 obtain ⟨t,ht,rfl⟩:=List.getElem_of_mem hz
 have:=hok i hi t ht
 rw [show (X.getD i noNx).nd.kids.getD t 0=(X.getD i noNx).nd.kids[t] by rw [List.getD_eq_getElem?_getD,List.getElem?_eq_getElem ht];rfl] at this
 have:=isPb_iff.1 this
 omega
theorem Ren.right (h:Ren X Y p) (hR:RightIs X r):RightIs Y (p r.toNat:Int):=by
 have hr:=hR.root
 have hk:=h.k
 refine ⟨?_,fun j hj t ht=>?_,(hk.dag hR.dag).2,fun y hy=>?_⟩
 ·rw [isPb_iff,h.len]
  have:=h.per.lt _ hr.2
  omega
 ·rw [h.len] at hj ⊢
  obtain ⟨i,hi,rfl⟩:=h.per.onto j hj
  rw [h.nd i hi] at ht ⊢
  simp only [renNd,List.length_map] at ht
  have hz:=kid_place hR.2.1 hi (List.getElem_mem ht)
  have hl:=h.per.lt _ hz.2
  simp only [renNd]
  rw [getD_mapI _ _ t ht,isPb_iff]
  omega
 ·rw [h.len] at hy
  obtain ⟨x,hx,rfl⟩:=h.per.onto y hy
  rw [Int.toNat_natCast]
  exact hk.rt (hR.2.2.2 x hx)
theorem Ren.ord (h:Ren X Y p) (hR:RightIs X r):oX Y (p r.toNat:Int)=(oX X r).map p:=by
 unfold oX
 rw [Int.toNat_natCast]
 exact ordO_ren h.k (kX_ok hR.2.1) (by rw [kX_length];exact hR.root.2)
theorem Ren.can (h:Ren X Y p) (hR:RightIs X r):cX Y (p r.toNat:Int)=cX X r:=by
 have ho:=h.ord hR
 have hlt:∀i ∈ oX X r,i<X.length:=fun i hi=>by have:=hR.ord.good.lt i hi;rwa [kX_length] at this
 unfold cX
 rw [ho,List.map_map]
 refine List.map_congr_left fun i hi=>?_
 simp only [Function.comp]
 rw [h.nd i (hlt i hi)]
 simp only [renNd,List.map_map]
 congr 1
 refine List.map_congr_left fun z hz=>?_
 have hz':=kid_place hR.2.1 (hlt i hi) hz
 simp only [Function.comp,pX]
 rw [ho,Int.toNat_natCast,idx_ren (K:=kX X) (by rw [kX_length];exact h.per) (fun x hx=>by rw [kX_length];exact hlt x hx) (by rw [kX_length];exact hz'.2)]
theorem Ren.small (h:Ren X Y p) (hX:Small X):Small Y:=by
 refine ⟨by rw [h.len];exact hX.1,fun j hj=>?_⟩
 rw [h.len] at hj
 obtain ⟨i,hi,rfl⟩:=h.per.onto j hj
 rw [h.nd i hi,renNd_big]
 exact hX.2 i hi
theorem fold1_ren (f g:Nat→Nat) (l:List Nat):fold1 f (l.map g)=fold1 (fun k=>f (g k)) l:=by simp [fold1,List.foldl_map]
theorem DepthIs.one {d d':Nat} (h:DepthIs X r d) (h':DepthIs X r d') (hR:RightIs X r):d'=d:=by
 obtain ⟨f,h1,rfl,_⟩:=h.2 hR
 obtain ⟨g,h2,rfl,_⟩:=h'.2 hR
 exact HtIs.uniq h2 h1 (kX_ok hR.2.1) _ _ rfl (by rw [kX_length];exact hR.root.2)
theorem Ren.depth (h:Ren X Y p) (hR:RightIs X r) {d d':Nat} (hd:DepthIs X r d) (hd':DepthIs Y (p r.toNat:Int) d'):d'=d:=by
 obtain ⟨f,h1,rfl,_⟩:=hd.2 hR
 obtain ⟨g,h2,rfl,_⟩:=hd'.2 (h.right hR)
 rw [Int.toNat_natCast]
 have hk:=h.k
 have h3:HtIs (kX X) (fun x=>g (p x)):=fun a ha=>by
  have:=h2 (p a) (by rw [hk.len];exact hk.per.lt a ha)
  rw [hk.kids a ha,fold1_ren] at this
  exact this
 exact HtIs.uniq h3 h1 (kX_ok hR.2.1) _ r.toNat rfl (by rw [kX_length];exact hR.root.2)
theorem edg_range (X:List Nx):edg X=((List.range X.length).map fun i=>(X.getD i noNx).nd.kids.length).sum:=by
 unfold edg
 congr 1
 refine List.ext_getElem (by simp) (fun i h1 h2=>?_)
 have:i<X.length:=by simpa using h1
 simp [this]
theorem Ren.edg (h:Ren X Y p):edg Y=edg X:=by
 rw [edg_range Y,edg_range X,h.len]
 have hp:((List.range X.length).map p).Perm (List.range X.length):=by
  refine (List.perm_ext_iff_of_nodup ?_ List.nodup_range).2 (fun y=>?_)
  ·refine List.pairwise_map.2 ?_
   refine List.Pairwise.imp_of_mem (R:=fun a b=>a≠b) (fun {a b} ha hb hne q=>hne (h.per.inj a b (List.mem_range.1 ha) (List.mem_range.1 hb) q)) ?_
   exact List.nodup_range
  ·constructor
   ·intro hy
    obtain ⟨x,hx,rfl⟩:=List.mem_map.1 hy
    exact List.mem_range.2 (h.per.lt x (List.mem_range.1 hx))
   ·intro hy
    obtain ⟨x,hx,rfl⟩:=h.per.onto y (List.mem_range.1 hy)
    exact List.mem_map_of_mem (List.mem_range.2 hx)
 rw [← List.Perm.sum_nat (hp.map fun i=>(Y.getD i noNx).nd.kids.length),List.map_map]
 congr 1
 refine List.map_congr_left fun i hi=>?_
 simp only [Function.comp]
 rw [h.nd i (List.mem_range.1 hi)]
 simp [renNd]
end
end Go.Proofs.YtgoffkfpdigeeaaDoor
namespace Go.Proofs.YtgoffkfpdigeeaaDoor
open Go.ChangeShapes Go.WideShapes Go.ChangeAt Go.RowKit Go.Joins Go.Deep
structure IsSc (w:World) (a:Option Addr) (X:List Nx) (r:Int):Prop where
 sc:ScAt w a X
 root:inR r
 rg:∀i,i<X.length→RgN (X.getD i noNx).nd
theorem IsSc.kids {w:World} {a:Option Addr} {X:List Nx} {r:Int} (h:IsSc w a X r):∀i,i<X.length→∀k ∈ (X.getD i noNx).nd.kids,inR k:=fun i hi=>(h.rg i hi).kids
section
variable {H:Type} {enc:TypeId × Value→H} {P:Program} {w:World}
theorem wf_i64 {n:Int} (h:(Lit.int .i64 n).wf=true):inR n:=by
 simp only [Lit.wf,Bool.and_eq_true,decide_eq_true_eq] at h
 exact h
end
end Go.Proofs.YtgoffkfpdigeeaaDoor
namespace Go.Proofs.YtgoffkfpdigeeaaDoor
open Go.RowKit Go.Maps Go.WideMaps Go.Sort
theorem CheckIs.zero {X:List Nx} {r e z:Int} (h:CheckIs X r e z) (hr:RightIs X r):e=0∧z=0:=by
 have he:=h.right.2 hr
 refine ⟨he,?_⟩
 rcases h with ⟨h1,q,_⟩|⟨_,i,_,q,_⟩|⟨_,_,⟨i,q,_⟩|⟨_,⟨i,q,_⟩|⟨_,q,_⟩⟩⟩
 ·omega
 ·omega
 ·omega
 ·omega
 ·exact q
theorem CheckIs.cyc {X:List Nx} {r e z:Int} {i:Nat} (h:CheckIs X r e z) (h1:isPb X.length r=true) (h2:∀i,i<X.length→okAt X i) (h3:FirstCyc (kX X) i):e=14∧z=i:=by
 rcases h with ⟨q,_⟩|⟨_,j,hj,_,_,q,_⟩|⟨_,_,⟨j,rfl,rfl,q⟩|⟨q,_⟩⟩
 ·rw [h1] at q;cases q
 ·exact absurd (h2 j hj) q
 ·refine ⟨rfl,?_⟩
  rcases Nat.lt_trichotomy i j with p|p|p
  ·exact absurd h3.1 (q.2 i p)
  ·rw [p]
  ·exact absurd q.1 (h3.2 j p)
 ·exact absurd h3.1 (q i)
theorem CheckIs.loose {X:List Nx} {r e z:Int} {i:Nat} (h:CheckIs X r e z) (h1:isPb X.length r=true) (h2:∀i,i<X.length→okAt X i) (h3:∀x,¬Lead (Ed (kX X)) x x) (h4:i<X.length) (h5:¬Rt (Ed (kX X)) r.toNat i) (h6:∀j,j<i→Rt (Ed (kX X)) r.toNat j):e=15∧z=i:=by
 rcases h with ⟨q,_⟩|⟨_,j,hj,_,_,q,_⟩|⟨_,_,⟨j,_,_,q⟩|⟨_,⟨j,rfl,rfl,hj,q1,q2⟩|⟨_,_,q⟩⟩⟩
 ·rw [h1] at q;cases q
 ·exact absurd (h2 j hj) q
 ·exact absurd q.1 (h3 j)
 ·refine ⟨rfl,?_⟩
  rcases Nat.lt_trichotomy i j with p|p|p
  ·exact absurd (q2 i p) h5
  ·rw [p]
  ·exact absurd (h6 j p) q1
 ·exact absurd (q i h4) h5
theorem CheckIs.uniq {X:List Nx} {r e z e' z':Int} (h:CheckIs X r e z) (h':CheckIs X r e' z'):e'=e∧z'=z:=by
 rcases h with ⟨h1,rfl,rfl⟩|⟨h1,i,hi,rfl,rfl,hno,hbe⟩|⟨h1,h2,⟨i,rfl,rfl,hf⟩|⟨h3,⟨i,rfl,rfl,hi,hn,hb⟩|⟨rfl,rfl,h4⟩⟩⟩
 ·rcases h' with ⟨_,q1,q2⟩|⟨q,_⟩|⟨q,_⟩
  ·exact ⟨q1,q2⟩
  ·rw [h1] at q;cases q
  ·rw [h1] at q;cases q
 ·rcases h' with ⟨q,_⟩|⟨_,j,hj,rfl,rfl,q1,q2⟩|⟨_,q,_⟩
  ·rw [h1] at q;cases q
  ·refine ⟨rfl,?_⟩
   rcases Nat.lt_trichotomy i j with p|p|p
   ·exact absurd (q2 i p) hno
   ·rw [p]
   ·exact absurd (hbe j p) q1
  ·exact absurd (q i hi) hno
 ·exact h'.cyc h1 h2 hf
 ·exact h'.loose h1 h2 h3 hi hn hb
 ·exact h'.zero ⟨h1,h2,h3,h4⟩
section
variable {X Y:List Nx}
theorem same_len (h:Y.map Nx.nd=X.map Nx.nd):Y.length=X.length:=by simpa using congrArg List.length h
theorem same_nd (h:Y.map Nx.nd=X.map Nx.nd) (i:Nat):(Y.getD i noNx).nd=(X.getD i noNx).nd:=by
 have h1:(Y.map Nx.nd)[i]? = (X.map Nx.nd)[i]? := by rw [h]
 rw [List.getElem?_map,List.getElem?_map] at h1
 rw [List.getD_eq_getElem?_getD,List.getD_eq_getElem?_getD]
 cases hy:Y[i]? with
 | none=>
  rw [hy] at h1
  cases hx:X[i]? with
  | none=>rfl
  | some x=>rw [hx] at h1;cases h1
 | some y=>
  rw [hy] at h1
  cases hx:X[i]? with
  | none=>rw [hx] at h1;cases h1
  | some x=>rw [hx] at h1;simpa using h1
theorem same_k (h:Y.map Nx.nd=X.map Nx.nd):kX Y=kX X:=by
 have:∀Z:List Nx,kX Z=(Z.map Nx.nd).map fun N=>N.kids.map Int.toNat:=fun Z=>by simp [kX,kOf,lks,lnOf]
 rw [this,this,h]
theorem same_ok (h:Y.map Nx.nd=X.map Nx.nd) (i:Nat):okAt Y i↔okAt X i:=by
 unfold okAt
 rw [same_len h,same_nd h]
theorem same_check (h:Y.map Nx.nd=X.map Nx.nd) {r e z:Int} (hc:CheckIs Y r e z):CheckIs X r e z:=by
 unfold CheckIs at hc ⊢
 simp only [same_len h,same_k h,same_ok h] at hc
 exact hc
theorem same_right (h:Y.map Nx.nd=X.map Nx.nd) {r:Int}:RightIs Y r↔RightIs X r:=by
 unfold RightIs
 simp only [same_len h,same_k h,same_ok h]
theorem same_depth (h:Y.map Nx.nd=X.map Nx.nd) {r:Int} {d:Nat} (hc:DepthIs Y r d):DepthIs X r d:=by
 unfold DepthIs at hc ⊢
 simp only [same_len h,same_k h,same_right h] at hc
 exact hc
end
theorem at_ls {T:TypeId} {W:World} {g:Nat} {cs:List Value} (h:AtN T W g cs.toArray):LsAt W (some ⟨g,0,none⟩) cs:=h.lsQ.toAt
structure Lw (w W:World) (a:Option Addr) (X:List Nx) (c:Nat) (r:Int):Prop where
 at_:AtN 27 W w.heap.size #[.slice a X.length c,.int .i64 r]
 bel:Below w.heap.size w W
theorem Lw.more {w W W':World} {a:Option Addr} {X:List Nx} {c:Nat} {r:Int} (h:Lw w W a X c r) (hb:Below W.heap.size W W'):Lw w W' a X c r:=⟨h.at_.belowAll hb,h.bel.trans (hb.mono h.bel.size)⟩
theorem Lw.start (w:World) (a:Option Addr) (X:List Nx) (c:Nat) (r:Int):Lw w (w.alloc (.cells #[.slice a X.length c,.int .i64 r] 27)) a X c r:=⟨AtN.new w 27 _,(Below.refl w.heap.size w).alloc (Nat.le_refl _) _⟩
theorem Lw.sc {w W:World} {a:Option Addr} {X:List Nx} {c:Nat} {r q:Int} (h:Lw w W a X c r) (hs:IsSc w a X q):ScAt W a X:=hs.sc.belowB h.bel
theorem Lw.c0 {w W:World} {a:Option Addr} {X:List Nx} {c:Nat} {r:Int} (h:Lw w W a X c r):W.cell? ⟨w.heap.size,0,none⟩=some (.slice a X.length c):=h.at_.cell 0
theorem Lw.c1 {w W:World} {a:Option Addr} {X:List Nx} {c:Nat} {r:Int} (h:Lw w W a X c r):W.cell? ⟨w.heap.size,1,none⟩=some (.int .i64 r):=h.at_.cell 1
end Go.Proofs.YtgoffkfpdigeeaaDoor
namespace Go.Proofs.YtgoffkfpdigeeaaDoor
end Go.Proofs.YtgoffkfpdigeeaaDoor
namespace Go.Proofs.YtgoffkfpdigeeaaDoor
open Go.RowKit Go.Maps Go.WideMaps Go.Sort
theorem Aprt.nil:Aprt []:=fun i j _ h=>by simp at h
theorem getD_snocN (Y:List Nx) (y:Nx) (j:Nat) (h:j<Y.length):(Y++[y]).getD j noNx=Y.getD j noNx:=by rw [List.getD_eq_getElem?_getD,List.getElem?_append_left h,← List.getD_eq_getElem?_getD]
theorem Aprt.snoc {Y:List Nx} {y:Nx} {B:Nat} (h:Aprt Y) (h1:∀j,j<Y.length→∀g,kidB (Y.getD j noNx)=some g→g<B) (h2:∀g,kidB y=some g→B≤g):Aprt (Y++[y]):=by
 intro i j hij hj g hi hjg
 by_cases hl:j<Y.length
 ·rw [getD_snocN Y y j hl] at hjg
  rw [getD_snocN Y y i (by omega)] at hi
  exact h i j hij hl g hi hjg
 ·obtain rfl:j=Y.length:=by simp at hj;omega
  rw [getD_snocN Y y i (by omega)] at hi
  rw [show (Y++[y]).getD Y.length noNx=y by simp] at hjg
  have:=h1 i (by omega) g hi
  have:=h2 g hjg
  omega
theorem Aprt.ne {Y:List Nx} (h:Aprt Y) {i j:Nat} (hi:i<Y.length) (hj:j<Y.length) (hne:i≠j) {g:Nat} (h1:kidB (Y.getD i noNx)=some g):kidB (Y.getD j noNx)≠some g:=by
 rcases Nat.lt_or_gt_of_ne hne with q|q
 ·exact h i j q hj g h1
 ·exact fun h2=>h j i q hi g h2 h1
end Go.Proofs.YtgoffkfpdigeeaaDoor
namespace Go.Proofs.YtgoffkfpdigeeaaDoor
open Go.RowKit Go.Maps Go.WideMaps Go.Sort
def trn (n:Nat) (z:Int):Int:=wrap64 ((n:Int)-1-z)
def trnNd (n:Nat) (N:Nd):Nd:=⟨N.kind,N.ints,N.texts,N.kids.map (trn n)⟩
def tk (n:Nat) (l:List Int) (k:Nat):List Int:=(l.take k).map (trn n)++l.drop k
theorem tk_all (n:Nat) (l:List Int):tk n l l.length=l.map (trn n):=by simp [tk]
theorem tk_at (n:Nat) (l:List Int) (k:Nat) (h:k<l.length):(iV (tk n l k))[k]? = some (.int .i64 (l.getD k 0)):=by
 have h1:(tk n l k)[k]? = some (l.getD k 0):=by
  unfold tk
  rw [List.getElem?_append_right (by simp;omega)]
  simp [h,Nat.min_eq_left (Nat.le_of_lt h)]
 unfold iV
 rw [List.getElem?_map,h1]
 rfl
theorem tk_set (n:Nat) (l:List Int) (k:Nat) (h:k<l.length):(iV (tk n l k)).set k (.int .i64 (trn n (l.getD k 0)))=iV (tk n l (k+1)):=by
 have h1:(tk n l k).set k (trn n (l.getD k 0))=tk n l (k+1):=by
  unfold tk
  have hm:((l.take k).map (trn n)).length=k:=by simp;omega
  rw [List.set_append_right _ _ (by omega),hm,Nat.sub_self,List.take_add_one,List.getD_eq_getElem?_getD,List.getElem?_eq_getElem h,show l.drop k=l[k] :: l.drop (k+1) from List.drop_eq_getElem_cons h,List.map_append,List.append_assoc]
  rfl
 rw [← h1]
 unfold iV
 rw [List.map_set]
structure Tg (w:World) (B g:Nat) (N:Nd) (n k:Nat) (a1 a2 a3:Option Addr) (c1 c2 c3:Nat):Prop where
 nd:AtN 41 w g #[.int .i64 N.kind,.slice a1 N.ints.length c1,.slice a2 N.texts.length c2,.slice a3 N.kids.length c3]
 i:w.ownsRow B 2 1 (.slice a1 N.ints.length c1) N.ints.length (iV N.ints)
 t:w.ownsRow B 9 1 (.slice a2 N.texts.length c2) N.texts.length (tV N.texts)
 k:w.ownsRow B 3 1 (.slice a3 N.kids.length c3) N.kids.length (iV (tk n N.kids k))
theorem Tg.drew {w:World} {B g:Nat} {N:Nd} {n k:Nat} {a1 a2 a3:Option Addr} {c1 c2 c3:Nat} (h:Tg w B g N n k a1 a2 a3 c1 c2 c3):Tg w.drew B g N n k a1 a2 a3 c1 c2 c3:=⟨h.nd,h.i,h.t,h.k⟩
theorem Tg.next {w:World} {B g:Nat} {N:Nd} {n k:Nat} {a1 a2 a3:Option Addr} {c1 c2 c3:Nat} (h:Tg w B g N n k a1 a2 a3 c1 c2 c3) (hk:k<N.kids.length):∃q,a3=some ⟨q,0,none⟩∧w.cell? ⟨q,k,none⟩=some (.int .i64 (N.kids.getD k 0))∧w.frozen? ⟨q,k,none⟩=false∧B≤q∧q<w.heap.size∧
  Tg (w.setCell ⟨q,k,none⟩ (.int .i64 (trn n (N.kids.getD k 0)))) B g N n (k+1) a1 a2 a3 c1 c2 c3:=by
 obtain ⟨q,rfl,h1,h2,h3,h4,h5⟩:=own_store9 h.k k hk
 have hq:(Value.slice (some ⟨q,0,none⟩) N.kids.length c3).ownBlock=some q:=rfl
 refine ⟨q,rfl,by rw [h1,tk_at n N.kids k hk],h2,h3,h4,?_,?_,?_,?_⟩
 ·exact h.nd.setOther _ (fun e=>own_ne_at h.k h.nd (by decide) q hq e) _
 ·exact own_set h.i _ (fun r hr e=>own_apart9 h.k h.i (by decide) hq (by rw [hr];exact congrArg some e)) _
 ·exact own_set h.t _ (fun r hr e=>own_apart9 h.k h.t (by decide) hq (by rw [hr];exact congrArg some e)) _
 ·have:=h5 (.int .i64 (trn n (N.kids.getD k 0)))
  rwa [tk_set n N.kids k hk] at this
def trnNx (n:Nat) (N:Nd) (a1 a2 a3:Option Addr) (c1 c2 c3:Nat):Nx:=⟨trnNd n N,a1,c1,a2,c2,a3,c3⟩
theorem Tg.own {w:World} {B g:Nat} {N:Nd} {n:Nat} {a1 a2 a3:Option Addr} {c1 c2 c3:Nat} (h:Tg w B g N n N.kids.length a1 a2 a3 c1 c2 c3):OwnNx w B (trnNx n N a1 a2 a3 c1 c2 c3):=by
 refine ⟨h.i,h.t,?_⟩
 have:=h.k
 rw [tk_all] at this
 simpa [trnNx,trnNd] using this
end Go.Proofs.YtgoffkfpdigeeaaDoor
namespace Go.Proofs.YtgoffkfpdigeeaaDoor
open Go.RowKit Go.Maps Go.WideMaps Go.Sort
end Go.Proofs.YtgoffkfpdigeeaaDoor
namespace Go.Proofs.YtgoffkfpdigeeaaDoor
open Go.RowKit Go.Maps Go.WideMaps Go.Sort
theorem pIn_nd {L:List ByteArray} (h:L.Nodup) (s:ByteArray):(pIntern L s).Nodup:=by
 unfold pIntern
 by_cases q:idx6 s L<L.length
 ·rw [if_pos q];exact h
 ·rw [if_neg q,List.nodup_append]
  refine ⟨h,by simp,fun a ha b hb e=>?_⟩
  simp only [List.mem_singleton] at hb
  subst e hb
  exact q ((idx6_mem _ _).2 ha)
theorem foldlT_nd (T:List ByteArray):∀L:List ByteArray,L.Nodup→(T.foldl pIntern L).Nodup:=by
 induction T with
 | nil=>intro L h;exact h
 | cons x r ih=>
  intro L h
  rw [List.foldl_cons]
  exact ih _ (pIn_nd h x)
theorem itn_nd (T:List ByteArray):(itn T).Nodup:=foldlT_nd T [] List.nodup_nil
theorem itn_same {T U:List ByteArray} (h:∀s,s ∈ T↔s ∈ U):sum6 (itn T)=sum6 (itn U):=by
 have hp:(itn T).Perm (itn U):=(List.perm_ext_iff_of_nodup (itn_nd T) (itn_nd U)).2 (fun s=>by rw [itn_mem,itn_mem,h])
 exact List.Perm.sum_nat (hp.map ByteArray.size)
theorem allT_mem (X:List Nx) (s:ByteArray):s ∈ allT X↔∃i,i<X.length∧s ∈ (X.getD i noNx).nd.texts:=by
 unfold allT
 rw [List.mem_flatMap]
 constructor
 ·rintro ⟨x,hx,hs⟩
  obtain ⟨i,hi,rfl⟩:=List.getElem_of_mem hx
  exact ⟨i,hi,by rwa [List.getD_eq_getElem?_getD,List.getElem?_eq_getElem hi]⟩
 ·rintro ⟨i,hi,hs⟩
  rw [List.getD_eq_getElem?_getD,List.getElem?_eq_getElem hi] at hs
  exact ⟨X[i],List.getElem_mem hi,hs⟩
section
variable {X Y:List Nx} {p:Nat→Nat} {r:Int} {l:Lm} {d:Nat}
theorem Ren.txb (h:Ren X Y p):txb Y=txb X:=by
 refine itn_same fun s=>?_
 rw [allT_mem,allT_mem]
 constructor
 ·rintro ⟨j,hj,hs⟩
  rw [h.len] at hj
  obtain ⟨i,hi,rfl⟩:=h.per.onto j hj
  rw [h.nd i hi] at hs
  exact ⟨i,hi,hs⟩
 ·rintro ⟨i,hi,hs⟩
  exact ⟨p i,by rw [h.len];exact h.per.lt i hi,by rw [h.nd i hi];exact hs⟩
theorem Ren.fnx (h:Ren X Y p) (hX:FnX X):FnX Y:=fun j hj=>by
 rw [h.len] at hj
 obtain ⟨i,hi,rfl⟩:=h.per.onto j hj
 rw [h.nd i hi]
 exact hX i hi
theorem same_edg (h:Y.map Nx.nd=X.map Nx.nd):edg Y=edg X:=by
 have e:∀Z:List Nx,edg Z=((Z.map Nx.nd).map fun N=>N.kids.length).sum:=fun Z=>by simp [edg,Function.comp_def]
 rw [e,e,h]
theorem same_allT (h:Y.map Nx.nd=X.map Nx.nd):allT Y=allT X:=by
 have e:∀Z:List Nx,allT Z=(Z.map Nx.nd).flatMap fun N=>N.texts:=fun Z=>by simp [allT,List.flatMap_map]
 rw [e,e,h]
theorem same_txb (h:Y.map Nx.nd=X.map Nx.nd):txb Y=txb X:=by
 unfold txb
 rw [same_allT h]
theorem same_meL (h:Y.map Nx.nd=X.map Nx.nd):meL Y d=meL X d:=by
 unfold meL
 rw [same_len h,same_edg h,same_txb h]
end
def bare (P:List Nd):List Nx:=P.map fun N=>⟨N,none,0,none,0,none,0⟩
theorem bare_nd (P:List Nd):(bare P).map Nx.nd=P:=by
 unfold bare
 rw [List.map_map]
 exact List.map_id' P
theorem check_right {X:List Nx} {r:Int} (h:RightIs X r):CheckIs X r 0 0:=.inr (.inr ⟨h.1,h.2.1,.inr ⟨h.2.2.1,.inr ⟨rfl,rfl,h.2.2.2⟩⟩⟩)
end Go.Proofs.YtgoffkfpdigeeaaDoor
namespace Go.Proofs.YtgoffkfpdigeeaaDoor
open Go.RowKit Go.Maps Go.WideMaps Go.Sort
def WhoO (X:List Nx) (r:Int):Prop:=tyEo X=0∧RightIs X r
section
variable {X Y T:List Nx} {p:Nat→Nat} {r:Int} {l:Lm} {d d':Nat}
theorem VoIs.uniq {e z e' z':Int} (h:VoIs X r l d e z) (h':VoIs X r l d e' z'):e'=e∧z'=z:=by
 rcases h with ⟨h1,rfl,rfl⟩|⟨h1,h2,rfl,rfl⟩|⟨h1,h2,n,y,hc,h3⟩
 ·rcases h' with ⟨_,rfl,rfl⟩|⟨q,_⟩|⟨q,_⟩
  ·exact ⟨rfl,rfl⟩
  ·rw [h1] at q;cases q
  ·rw [h1] at q;cases q
 ·rcases h' with ⟨q,_⟩|⟨_,_,rfl,rfl⟩|⟨_,q,_⟩
  ·rw [h1] at q;cases q
  ·exact ⟨rfl,rfl⟩
  ·exact absurd q h2
 ·rcases h' with ⟨q,_⟩|⟨_,q,_⟩|⟨_,_,n',y',hc',h3'⟩
  ·rw [h1] at q;cases q
  ·exact absurd h2 q
  ·obtain ⟨rfl,rfl⟩:=hc.uniq hc'
   rcases h3 with ⟨p,rfl,rfl⟩|⟨p,⟨p1,rfl,rfl⟩|⟨p1,rfl,rfl⟩⟩
   ·rcases h3' with ⟨_,rfl,rfl⟩|⟨q,_⟩
    ·exact ⟨rfl,rfl⟩
    ·exact absurd q p
   ·rcases h3' with ⟨q,_⟩|⟨_,⟨_,rfl,rfl⟩|⟨q,_⟩⟩
    ·exact absurd p q
    ·exact ⟨rfl,rfl⟩
    ·rw [p1] at q;cases q
   ·rcases h3' with ⟨q,_⟩|⟨_,⟨q,_⟩|⟨_,rfl,rfl⟩⟩
    ·exact absurd p q
    ·rw [p1] at q;cases q
    ·exact ⟨rfl,rfl⟩
theorem VoIs.zero {e z:Int} (h:VoIs X r l d e z):e=0↔okL l=true∧WhoO X r∧inL (meL X d) l=true:=by
 rcases h with ⟨h1,rfl,rfl⟩|⟨h1,h2,rfl,rfl⟩|⟨h1,h2,n,y,hc,h3⟩
 ·exact ⟨fun q=>by omega,fun q=>by rw [h1] at q;exact absurd q.1 (by simp)⟩
 ·exact ⟨fun q=>absurd q h2,fun q=>absurd q.2.1.1 h2⟩
 ·have hr:=hc.right
  rcases h3 with ⟨p,rfl,rfl⟩|⟨p,⟨p1,rfl,rfl⟩|⟨p1,rfl,rfl⟩⟩
  ·exact ⟨fun q=>absurd q p,fun q=>absurd (hr.2 q.2.1.2) p⟩
  ·exact ⟨fun q=>by omega,fun q=>by rw [p1] at q;exact absurd q.2.2 (by simp)⟩
  ·exact ⟨fun _=>⟨h1,⟨h2,hr.1 p⟩,p1⟩,fun _=>rfl⟩
theorem vo_good (ho:okL l=true) (hW:WhoO X r) (hi:inL (meL X d) l=true):VoIs X r l d 0 0:=
 .inr (.inr ⟨ho,hW.1,0,0,check_right hW.2,.inr ⟨rfl,.inr ⟨hi,rfl,rfl⟩⟩⟩)
theorem same_tyGo:∀(X Y:List Nx) (k:Nat),Y.map Nx.nd=X.map Nx.nd→tyGo Y k=tyGo X k
 | [],[],_,_=>rfl
 | x :: t,y :: u,k,h=>by
  simp only [List.map_cons,List.cons.injEq] at h
  unfold tyGo
  rw [h.1,same_tyGo t u (k+1) h.2]
 | [],_ :: _,_,h=>by simp at h
 | _ :: _,[],_,h=>by simp at h
theorem same_tyEo (h:Y.map Nx.nd=X.map Nx.nd):tyEo Y=tyEo X:=congrArg Prod.fst (same_tyGo X Y 0 h)
theorem same_tyZo (h:Y.map Nx.nd=X.map Nx.nd):tyZo Y=tyZo X:=congrArg Prod.snd (same_tyGo X Y 0 h)
theorem same_vo (h:Y.map Nx.nd=X.map Nx.nd) {e z:Int} (hv:VoIs Y r l d e z):VoIs X r l d e z:=by
 unfold VoIs at hv ⊢
 rw [same_tyEo h,same_tyZo h,same_meL h] at hv
 rcases hv with q|q|⟨q1,q2,n,y,q3,q4⟩
 ·exact .inl q
 ·exact .inr (.inl q)
 ·exact .inr (.inr ⟨q1,q2,n,y,same_check h q3,q4⟩)
theorem tyGo_zero:∀(X:List Nx) (k:Nat),(tyGo X k).1=0↔∀x ∈ X,tyNo x.nd=0
 | [],_=>by simp [tyGo]
 | x :: t,k=>by
  unfold tyGo
  by_cases h:tyNo x.nd=0
  ·rw [if_pos h,tyGo_zero t (k+1)]
   simp [h]
  ·rw [if_neg h]
   simp [h]
theorem tyEo_iff (X:List Nx):tyEo X=0↔∀i,i<X.length→tyNo (X.getD i noNx).nd=0:=by
 unfold tyEo
 rw [tyGo_zero]
 constructor
 ·intro h i hi
  rw [List.getD_eq_getElem?_getD,List.getElem?_eq_getElem hi]
  exact h _ (List.getElem_mem hi)
 ·intro h x hx
  obtain ⟨i,hi,rfl⟩:=List.getElem_of_mem hx
  have:=h i hi
  rwa [List.getD_eq_getElem?_getD,List.getElem?_eq_getElem hi] at this
theorem ren_tyNo (f:Int→Int) (N:Nd):tyNo (renNd f N)=tyNo N:=by simp [tyNo,chkN,renNd]
theorem Ren.tyo (h:Ren X Y p):tyEo Y=0↔tyEo X=0:=by
 rw [tyEo_iff,tyEo_iff]
 constructor
 ·intro q i hi
  have:=q (p i) (by rw [h.len];exact h.per.lt i hi)
  rwa [h.nd i hi,ren_tyNo] at this
 ·intro q j hj
  rw [h.len] at hj
  obtain ⟨i,hi,rfl⟩:=h.per.onto j hj
  rw [h.nd i hi,ren_tyNo]
  exact q i hi
structure Flt (X T:List Nx) (r:Int):Prop where
 right:RightIs T 0
 can:cX T 0=cX X r
 len:T.length=X.length
 edg:Go.Proofs.YtgoffkfpdigeeaaDoor.edg T=Go.Proofs.YtgoffkfpdigeeaaDoor.edg X
 txb:Go.Proofs.YtgoffkfpdigeeaaDoor.txb T=Go.Proofs.YtgoffkfpdigeeaaDoor.txb X
 tyo:tyEo T=0↔tyEo X=0
 depth:∀d d',DepthIs X r d→DepthIs T 0 d'→d'=d
 small:Small X→Small T
 fnx:FnX X→FnX T
 fwd:∀i,i<T.length→∀z ∈ (T.getD i noNx).nd.kids,(i:Int)<z
theorem Flt.meL (h:Flt X T r):meL T d=Go.Proofs.YtgoffkfpdigeeaaDoor.meL X d:=by
 unfold Go.Proofs.YtgoffkfpdigeeaaDoor.meL
 rw [h.len,h.edg,h.txb]
def FowIs (X:List Nx) (r:Int):Prop:=RightIs X r∧r=0∧∀i,i<X.length→∀z ∈ (X.getD i noNx).nd.kids,(i:Int)<z
theorem FowIs.none (h:FowIs X r):∀i,i<X.length→∀z ∈ (X.getD i noNx).nd.kids,z≠0:=fun i hi z hz q=>by
 have:=h.2.2 i hi z hz
 omega
theorem same_fw (h:Y.map Nx.nd=X.map Nx.nd):FowIs Y r↔FowIs X r:=by
 unfold FowIs
 rw [same_right h,same_len h]
 simp only [same_nd h]
end
end Go.Proofs.YtgoffkfpdigeeaaDoor
namespace Go.Proofs.YtgoffkfpdigeeaaDoor
theorem body_mem (L:List Sec) (s:Sec) (h:s ∈ L):s.2.size≤(bodyL L).length:=by
 induction L with
 | nil=>simp at h
 | cons t r ih=>
  simp only [bodyL,List.length_append]
  rcases List.mem_cons.1 h with rfl|h
  ·have:=secL_length s;omega
  ·have:=ih h;omega
theorem pPut_sizes (m:ByteArray) (v:Int) (L:List Sec) (h:(pPut m v L).2=0):L.length≤8∧∀s ∈ L,s.2.size≤(pPut m v L).1.length:=by
 obtain ⟨_,_,_,h4,_,h6⟩:=pPut_ok m v L h
 refine ⟨h4,fun s hs=>?_⟩
 have:=body_mem L s hs
 rw [h6]
 simp
 omega
end Go.Proofs.YtgoffkfpdigeeaaDoor
namespace Go.Proofs.YtgoffkfpdigeeaaDoor
end Go.Proofs.YtgoffkfpdigeeaaDoor
