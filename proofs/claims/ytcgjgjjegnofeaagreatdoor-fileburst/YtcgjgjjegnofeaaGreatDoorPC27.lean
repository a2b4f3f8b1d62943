import Derived.Test.YtcgjgjjegnofeaaGreatDoorPC26
import Derived.Test.YtcgjgjjegnofeaaGreatDoorPC11
import Derived.Test.YtcgjgjjegnofeaaGreatDoorPC20
import Derived.Test.YtcgjgjjegnofeaaGreatDoorPC12
import Derived.Test.YtcgjgjjegnofeaaGreatDoorPC14
import Derived.Test.YtcgjgjjegnofeaaGreatDoorPC19
import Derived.Test.YtcgjgjjegnofeaaGreatDoorPC24
namespace Go.Proofs.YtcgjgjjegnofeaaGreatDoor
open Go.RowKit Go.Maps Go.WideMaps Go.Sort
theorem Mkg.cur {w w':World} {B go gc:Nat} {r:Int} {v:Value} {Y:List Nx} {x y z:Value} (h:Mkg w B go r v Y) (hg:w.grownBy w' (some gc)) (hc:At3 131 w gc x y z):Mkg w' B go r v Y:=by
 have hc':AtN 131 w gc #[x,y,z]:=hc
 have hF:Fr (fun b=>b=gc) w w':=Fr.of_grown hg (fun k e=>by cases e;rfl)
 have hal:Alien w (fun b=>b=gc):=fun b hb _=>⟨_,_,_,hb ▸ hc,by decide,by decide,by decide⟩
 refine ⟨h.sc.fr hF (fun e=>?_),own_fr h.row hF (fun b hb e=>own_ne_at h.row hc' (by decide) b hb e),fun j hj=>(h.each j hj).fr hF hal⟩
 subst e
 have h1:w.heap[go]? = _:=h.sc
 have h2:w.heap[go]? = _:=hc
 rw [h1] at h2
 cases h2
theorem okL_in {l:Lm} (h:okL l=true):(0≤l.b∧l.b≤16777216)∧(0≤l.n∧l.n≤16777216)∧(0≤l.e∧l.e≤16777216)∧(0≤l.d∧l.d≤16777216)∧(0≤l.x∧l.x≤16777216):=by
 have key:∀i,i<5→0≤(lmL l).getD i 0∧(lmL l).getD i 0≤16777216:=fun i hi=>by
  by_cases q:(lmL l).getD i 0<0∨16777216<(lmL l).getD i 0
  ·have:=okL_no l i hi q
   rw [h] at this;cases this
  ·omega
 exact ⟨key 0 (by omega),key 1 (by omega),key 2 (by omega),key 3 (by omega),key 4 (by omega)⟩
def liC (l:Lm):Array Value:=#[.int .i64 l.b,.int .i64 l.n,.int .i64 l.e,.int .i64 l.d,.int .i64 l.x]
structure Gl (w W:World) (lim:Nat) (l:Lm) (y:Option Addr) (cap bt ot:Nat) (L:List ByteArray):Prop where
 bel:Below w.heap.size w W
 a:AtN 26 W w.heap.size (liC l)
 r:AtN 24 W (w.heap.size+1) #[.slice none 0 0,.int .i64 0]
 n:AtN 24 W (w.heap.size+2) #[.slice none 0 0,.int .i64 0]
 x:TxI W y cap bt ot L
 hb:0<L.length→bt<lim
 hl:lim≤W.heap.size
 hw:w.heap.size+3≤lim
section
variable {w W W':World} {lim:Nat} {l:Lm} {y:Option Addr} {cap bt ot:Nat} {L:List ByteArray}
theorem Gl.fr {S:Nat→Prop} (h:Gl w W lim l y cap bt ot L) (k:Fr S W W') (hs:∀i,S i→lim≤i):Gl w W' lim l y cap bt ot L:=
 ⟨Fr.below h.bel k (fun i hi=>by have:=hs i hi;have:=h.hw;omega) h.bel.size,h.a.fr k (fun q=>by have:=hs _ q;have:=h.hw;omega),h.r.fr k (fun q=>by have:=hs _ q;have:=h.hw;omega),h.n.fr k (fun q=>by have:=hs _ q;have:=h.hw;omega),
  ⟨h.x.ptr,fun i hi=>h.x.at_.fr k (fun q=>by have:=hs _ q;have:=h.hb (by omega);omega) i hi,h.x.cap_,h.x.nil⟩,h.hb,Nat.le_trans h.hl k.size,h.hw⟩
theorem Gl.more (h:Gl w W lim l y cap bt ot L) (hb:Below W.heap.size W W'):Gl w W' lim l y cap bt ot L:=h.fr (Fr.of_below (S:=fun _=>False) hb) (fun _ q=>q.elim)
theorem Gl.cur {gc:Nat} (h:Gl w W lim l y cap bt ot L) (hg:W.grownBy W' (some gc)) (hc:lim≤gc):Gl w W' lim l y cap bt ot L:=
 h.fr (Fr.of_grown (S:=fun k=>k=gc) hg (fun k e=>by cases e;rfl)) (fun i e=>by rw [e];exact hc)
end
theorem OwnNd.frAt {S:Nat→Prop} {W W':World} {B:Nat} {N:Nd} {a1 a2 a3:Option Addr} {c1 c2 c3:Nat} (h:OwnNd W B N (.slice a1 N.ints.length c1) (.slice a2 N.texts.length c2) (.slice a3 N.kids.length c3)) (k:Fr S W W') (hs:∀i,S i→i<B):NdAt W' N a1 a2 a3:=by
 have key:∀{e n v xs},W.ownsRow B e 1 v n xs→W'.ownsRow B e 1 v n xs:=fun {e n v xs} ho=>own_fr ho k (fun r hr q=>by have:=(ho.lt r hr).1;have:=hs r q;omega)
 exact OwnNd.ndAt ⟨key h.i,key h.t,key h.k⟩
theorem Mkg.low {w w':World} {B go c:Nat} {r:Int} {a:Option Addr} {Y:List Nx} {S:Nat→Prop} (h:Mkg w B go r (.slice a Y.length c) Y) (k:Fr S w w') (hs:∀i,S i→i<B):ScAt w' a Y:=
 ⟨LsAt.of_own4' (own_fr h.row k (fun r hr q=>by have:=(h.row.lt r hr).1;have:=hs r q;omega)),fun i hi=>OwnNd.frAt (h.each i hi) k hs⟩
def GeOut2 (tx nb:ByteArray) (l:Lm) (w w':World) (e:Ending):Prop:=∃(X:List Nx) (a:Option Addr) (c:Nat) (r k:Int),e=.returned (.tuple #[.agg #[.slice a X.length c,.int .i64 r],.int .i64 k])∧GeIs tx nb l (X.map Nx.nd) r k∧(∀W,Fr (fun b=>b<w.heap.size) w' W→ScAt W a X)∧Small X∧FnX X∧Below w.heap.size w w'
theorem GeOut2.drew {tx nb:ByteArray} {l:Lm} {w w':World} {e:Ending} (h:GeOut2 tx nb l w w' e):GeOut2 tx nb l w w'.drew e:=by
 obtain ⟨X,a,c,r,k,h1,h2,h3,h4,h5,h6⟩:=h
 have hd:Below w'.heap.size w' w'.drew:=⟨rfl,rfl,rfl,Nat.le_refl _,fun _ _=>rfl⟩
 exact ⟨X,a,c,r,k,h1,h2,fun W f=>h3 W ((Fr.of_below (S:=fun b=>b<w.heap.size) hd).trans f (fun i hi _=>hi)),h4,h5,h6.trans (hd.mono h6.size)⟩
theorem GeIs.bad {tx nb:ByteArray} {l:Lm} {k:Int} (h:(geK tx nb l).1=k) (hk:k≠0):GeIs tx nb l (([]:List Nx).map Nx.nd) 0 k:=.inl ⟨by rw [h];exact hk,h.symm,rfl,rfl⟩
theorem tell_bad {tx nb:ByteArray} {l:Lm} {w W:World} {k:Int} (hG:GeIs tx nb l (([]:List Nx).map Nx.nd) 0 k) (hb:Below w.heap.size w W) {x0 x1:Value} (hr:AtN 24 W (w.heap.size+1) #[x0,x1]) :
  ∀W',W'=(W.setCell ⟨w.heap.size+1,0,none⟩ (.slice none 0 0)).setCell ⟨w.heap.size+1,1,none⟩ (.int .i64 0)→AtN 24 W' (w.heap.size+1) #[.slice none 0 0,.int .i64 0]∧GeOut2 tx nb l w W' (.returned (.tuple #[.agg #[.slice none 0 0,.int .i64 0],.int .i64 k])):=by
 rintro _ rfl
 have hF:Fr (fun b=>b=w.heap.size+1) W ((W.setCell ⟨w.heap.size+1,0,none⟩ (.slice none 0 0)).setCell ⟨w.heap.size+1,1,none⟩ (.int .i64 0)):=((Fr.refl (fun b=>b=w.heap.size+1) W).set ⟨w.heap.size+1,0,none⟩ rfl _).set ⟨w.heap.size+1,1,none⟩ rfl _
 refine ⟨by simpa using (hr.set 0 (.slice none 0 0)).set 1 (.int .i64 0),[],none,0,0,k,rfl,hG,fun _ _=>⟨LsAt.nil _ _,fun i hi=>by simp at hi⟩,⟨by simp,fun i hi=>by simp at hi⟩,fun i hi=>by simp at hi,Fr.below hb hF (fun i e=>by omega) hb.size⟩
section
variable (tx nb:ByteArray) (l:Lm)
theorem geK_1 (h:okL l=false):(geK tx nb l).1=1:=by unfold geK;rw [if_pos h]
theorem geK_2 (h1:okL l=true) {e:Int} {L:List ByteArray} (h:pGet6 tx 16777216 l.x=(e,L)) (he:e≠0):(geK tx nb l).1=e:=by
 unfold geK;rw [if_neg (by simp [h1]),h,if_pos he]
theorem geK_3 (h1:okL l=true) {L:List ByteArray} (h2:pGet6 tx 16777216 l.x=(0,L)) {n e:Int} {k:Nat} (h:pUint nb 0 0 l.n=(n,k,e)) (he:e≠0):(geK tx nb l).1=e:=by
 unfold geK;rw [if_neg (by simp [h1]),h2,h,if_neg (by simp),if_pos he]
theorem geK_4 (h1:okL l=true) {L:List ByteArray} (h2:pGet6 tx 16777216 l.x=(0,L)) {k:Nat} (h:pUint nb 0 0 l.n=(0,k,0)):(geK tx nb l).1=13:=by
 unfold geK;rw [if_neg (by simp [h1]),h2,h,if_neg (by simp),if_neg (by simp),if_pos rfl]
theorem geK_5 (h1:okL l=true) {L:List ByteArray} (h2:pGet6 tx 16777216 l.x=(0,L)) {n:Int} {k:Nat} (h3:pUint nb 0 0 l.n=(n,k,0)) (h4:n≠0) {P:List Nd} {k':Nat} {e:Int} (h:gNs nb L n.toNat 0 k l.e=(P,k',e)) (he:e≠0):(geK tx nb l).1=e:=by
 unfold geK;rw [if_neg (by simp [h1]),h2,h3,if_neg (by simp),if_neg (by simp),if_neg h4,h,if_pos he]
theorem geK_6 (h1:okL l=true) {L:List ByteArray} (h2:pGet6 tx 16777216 l.x=(0,L)) {n:Int} {k:Nat} (h3:pUint nb 0 0 l.n=(n,k,0)) (h4:n≠0) {P:List Nd} {k':Nat} (h:gNs nb L n.toNat 0 k l.e=(P,k',0)) (hk:k'<nb.size):(geK tx nb l).1=8:=by
 unfold geK;rw [if_neg (by simp [h1]),h2,h3,if_neg (by simp),if_neg (by simp),if_neg h4,h,if_neg (by simp),if_pos hk]
theorem geK_7 (h1:okL l=true) {L:List ByteArray} (h2:pGet6 tx 16777216 l.x=(0,L)) {n:Int} {k:Nat} (h3:pUint nb 0 0 l.n=(n,k,0)) (h4:n≠0) {P:List Nd} {k':Nat} (h:gNs nb L n.toNat 0 k l.e=(P,k',0)) (hk:¬k'<nb.size):geK tx nb l=(0,P,L):=by
 unfold geK;rw [if_neg (by simp [h1]),h2,h3,if_neg (by simp),if_neg (by simp),if_neg h4,h,if_neg (by simp),if_neg hk]
end
theorem GeIs.of {tx nb:ByteArray} {l:Lm} {X:List Nx} {r k:Int} {L:List ByteArray} (h:geK tx nb l=(0,X.map Nx.nd,L)) (hr:r=(X.length:Int)-1) (hS:GeS X r L l k) :
  (k≠0→GeIs tx nb l (([]:List Nx).map Nx.nd) 0 k)∧(k=0→GeIs tx nb l (X.map Nx.nd) r 0):=by
 have hS':GeS (bare (geK tx nb l).2.1) (((geK tx nb l).2.1.length:Int)-1) (geK tx nb l).2.2 l k:=by
  rw [h]
  dsimp only
  rw [List.length_map,← hr]
  exact hS.same (by rw [bare_nd])
 have h0:(geK tx nb l).1=0:=by rw [h]
 refine ⟨fun q=>.inr ⟨h0,k,hS',.inl ⟨q,rfl,rfl,rfl⟩⟩,fun q=>.inr ⟨h0,k,hS',.inr ⟨q,rfl,by rw [h],by rw [h,hr];simp⟩⟩⟩
end Go.Proofs.YtcgjgjjegnofeaaGreatDoor
namespace Go.Proofs.YtcgjgjjegnofeaaGreatDoor
open Go.RowKit
def PuIs (X:List Nx) (r:Int) (A C:ByteArray) (e:Int):Prop:=
 (tyE X≠0∧e=tyE X∧A=⟨#[]⟩∧C=⟨#[]⟩)∨
  (tyE X=0∧∃n y,CheckIs X r n y∧((n≠0∧e=n∧A=⟨#[]⟩∧C=⟨#[]⟩)∨(n=0∧((¬IsCan X r∧e=16∧A=⟨#[]⟩∧C=⟨#[]⟩)∨
   (IsCan X r∧e=0∧A.data.toList=pPut6 (rTab (X.map Nx.nd) [])∧C.data.toList=put X.length++rAllN 0 (X.map Nx.nd) [])))))
def PuOut (X:List Nx) (r:Int) (w w':World) (e:Ending):Prop:=∃(A C:ByteArray) (k:Int),e=.returned (.tuple #[.string A,.string C,.int .i64 k])∧PuIs X r A C k∧Below w.heap.size w w'
theorem rB_size (N:Nd) (p:Int) (L:List ByteArray) (hb:big N=false):(rB N p L).length≤32020:=by
 obtain ⟨h0,h6,h7,_⟩:=big_no hb
 have h1:=put_length N.kind.toNat
 have h2:=put_length N.kids.length
 have h3:(rI N.ints).length≤10*N.ints.length:=flat_ten _ _
 have h4:(rT (itF L N.texts) N.texts).length≤10*N.texts.length:=flat_ten _ _
 have h5:(rK p N.kids).length≤10*N.kids.length:=flat_ten _ _
 unfold rB
 simp only [List.length_append]
 omega
theorem itF_sumB (T:List ByteArray):∀L:List ByteArray,(∀s ∈ T,s.size≤3000)→sum6 (itF L T)≤sum6 L+3000*T.length:=by
 induction T with
 | nil=>intro L _;simp [itF]
 | cons x r ih=>
  intro L h
  have h1:=ih (pIntern L x) (fun s hs=>h s (by simp [hs]))
  have h2:sum6 (pIntern L x)≤sum6 L+x.size:=by
   unfold pIntern
   split
   ·omega
   ·rw [sum6_append];simp [sum6]
  have h3:=h x (by simp)
  have h4:itF L (x :: r)=itF (pIntern L x) r:=rfl
  rw [h4,List.length_cons]
  omega
theorem tyE_all {X:List Nx} (h:tyE X=0):∀i,i<X.length→tyN (X.getD i noNx).nd=0:=by
 have key:∀(X:List Nx) (k:Nat),(tyG X k).1=0→∀i,i<X.length→tyN (X.getD i noNx).nd=0:=by
  intro X
  induction X with
  | nil=>intro k _ i hi;simp at hi
  | cons x r ih=>
   intro k hk i hi
   unfold tyG at hk
   by_cases hx:tyN x.nd=0
   ·rw [if_pos hx] at hk
    match i with
    | 0=>simpa using hx
    | i+1=>simpa using ih (k+1) hk i (by simpa using hi)
   ·rw [if_neg hx] at hk
    exact absurd hk hx
 exact key X 0 h
theorem tyN_texts {N:Nd} (h:tyN N=0):N.texts.length≤2:=by
 have h1:rE N 0=0∨rE N 0=13:=by
  unfold rE
  rw [if_pos h]
  split
  ·exact .inl rfl
  ·exact .inr rfl
 unfold tyN at h
 split at h
 ·cases h
 ·unfold chkN at h
  split at h
  ·cases h
  ·split at h
   ·cases h
   ·rename_i h2 h3
    have h4:fitT N.texts (newSp N.kind).texts=true:=by simpa using h3
    unfold fitT at h4
    rw [Bool.and_eq_true,decide_eq_true_eq] at h4
    have:=newSp_small N.kind
    omega
theorem getD_in {L:List Int} {j:Nat} (h:j<L.length):L.getD j 0 ∈ L:=by
 rw [List.getD_eq_getElem?_getD,List.getElem?_eq_getElem h]
 exact List.getElem_mem h
theorem can_kids {X:List Nx} {r:Int} (h:IsCan X r) {i:Nat} (hi:i<X.length) (j:Nat) (hj:j<(X.getD i noNx).nd.kids.length):0≤(X.getD i noNx).nd.kids.getD j 0∧(X.getD i noNx).nd.kids.getD j 0<i:=by
 have h1:=h.1.2.1 i hi j hj
 unfold isPb at h1
 have h2:=of_decide_eq_true h1
 have hm:(X.getD i noNx).nd.kids.getD j 0 ∈ (X.getD i noNx).nd.kids:=getD_in hj
 have hE:Ed (kX X) i ((X.getD i noNx).nd.kids.getD j 0).toNat:=by
  unfold Ed
  rw [kX_at X i hi]
  exact List.mem_map_of_mem hm
 have h3:=h.1.ord.good.kids i (oX_all h.1 i hi) _ hE
 have h4:((X.getD i noNx).nd.kids.getD j 0).toNat<X.length:=by omega
 have h5:=h3.2
 have e1:(ordO (kX X) r.toNat).idxOf i=i:=h.2 i hi
 have e2:(ordO (kX X) r.toNat).idxOf ((X.getD i noNx).nd.kids.getD j 0).toNat=((X.getD i noNx).nd.kids.getD j 0).toNat:=h.2 _ h4
 unfold oX at h5
 rw [e1,e2] at h5
 omega
theorem can_rE {X:List Nx} {r:Int} (h:IsCan X r) (ht:tyE X=0) {i:Nat} (hi:i<X.length):rE (X.getD i noNx).nd i=0:=by
 unfold rE
 rw [if_pos (tyE_all ht i hi),if_pos (rOk_yes (fun j hj=>can_kids h hi j hj))]
end Go.Proofs.YtcgjgjjegnofeaaGreatDoor
