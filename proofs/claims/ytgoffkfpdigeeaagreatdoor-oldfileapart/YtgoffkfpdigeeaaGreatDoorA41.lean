import Derived.Test.YtgoffkfpdigeeaaGreatDoorA39
import Derived.Test.YtgoffkfpdigeeaaGreatDoorA40
import Derived.Test.YtgoffkfpdigeeaaGreatDoorA11
import Derived.Test.YtgoffkfpdigeeaaGreatDoorA10
import Derived.Test.YtgoffkfpdigeeaaGreatDoorA26
import Derived.Test.YtgoffkfpdigeeaaGreatDoorA16
import Derived.Test.YtgoffkfpdigeeaaGreatDoorA21
namespace Go.Proofs.YtgoffkfpdigeeaaGreatDoor
open Go.RowKit
theorem gets6_right (b:ByteArray) (M:Int) (n:Nat):∀(k:Nat) (xs:List ByteArray),(∀s ∈ xs,right5 s=true)→(gets6 b M n k xs).1=0→∀s ∈ (gets6 b M n k xs).2.1,right5 s=true:=by
 induction n with
 | zero=>intro k xs hx _ s hs;exact hx s hs
 | succ n ih=>
  intro k xs hx h
  obtain ⟨t,ht⟩:∃t,t=pText b k 0 (M-(sum6 xs:Nat)):=⟨_,rfl⟩
  rw [gets6_step b M n k xs t ht] at h ⊢
  split at h
  ·rename_i h1;exact absurd h h1
  ·rename_i h1
   rw [if_neg h1]
   split at h
   ·cases h
   ·rename_i h2
    rw [if_neg h2]
    split at h
    ·cases h
    ·rename_i h3
     rw [if_neg h3]
     refine ih _ _ (fun s hs=>?_) h
     rcases List.mem_append.1 hs with hs|hs
     ·exact hx s hs
     ·obtain rfl:=List.mem_singleton.1 hs
      simpa using h2
theorem ok8_right {s:ByteArray} (h:right5 s=true):ok8 s=true:=by
 unfold ok8
 rw [(pFirst_right s).1 h]
 decide
theorem pGet6_ok8 (b:ByteArray) (texts bytes:Int) (h:(pGet6 b texts bytes).1=0):∀s ∈ (pGet6 b texts bytes).2,ok8 s=true:=by
 rw [pGet6_is] at h ⊢
 by_cases h1:(pUint b 0 0 (max texts 0)).2.2≠0
 ·rw [if_pos h1] at h
  exact absurd h h1
 rw [if_neg h1] at h ⊢
 unfold after6 at h ⊢
 split at h
 ·rename_i h2;exact absurd h h2
 ·rename_i h2
  rw [if_neg h2]
  split at h
  ·cases h
  ·rename_i h3
   rw [if_neg h3]
   exact fun s hs=>ok8_right (gets6_right b _ _ _ [] (fun s q=>by simp at q) (by simpa using h2) s hs)
theorem sum6_at {L:List ByteArray} {s:ByteArray} (h:s ∈ L):s.size≤sum6 L:=by
 induction L with
 | nil=>simp at h
 | cons x r ih=>
  have h0:sum6 (x :: r)=x.size+sum6 r:=by simp [sum6]
  rw [h0]
  rcases List.mem_cons.1 h with rfl|h
  ·omega
  ·have:=ih h;omega
theorem newSp_some (k:Int) (h:(newSp k).ok=true):1≤(newSp k).ints.length+(newSp k).texts.toNat∧(newSp k).ints.length≤3+1∧(newSp k).texts.toNat≤2:=by
 by_cases hk:k<1∨9≤k
 ·rw [newSp_no k hk] at h;cases h
 ·obtain rfl|rfl|rfl|rfl|rfl|rfl|rfl|rfl:k=1∨k=2∨k=3∨k=4∨k=5∨k=6∨k=7∨k=8:=by omega
  all_goals decide
theorem rE_some {N:Nd} {p:Int} (h:rE N p=0):1≤N.ints.length+N.texts.length∧N.ints.length≤4∧N.texts.length≤2:=by
 have h1:tyN N=0:=by
  unfold rE at h
  split at h
  ·assumption
  ·exact h
 unfold tyN at h1
 split at h1
 ·cases h1
 ·rename_i hok
  have hs:=newSp_some N.kind (by simpa using hok)
  unfold chkN at h1
  split at h1
  ·cases h1
  ·split at h1
   ·cases h1
   ·rename_i h2 h3
    have h2:fitI (newSp N.kind).ints N.ints=true:=by simpa using h2
    have h3:fitT N.texts (newSp N.kind).texts=true:=by simpa using h3
    unfold fitI at h2
    unfold fitT at h3
    rw [Bool.and_eq_true,decide_eq_true_eq] at h2 h3
    omega
theorem flat_one {α : Type} (f : α→List UInt8) (hf:∀x,0<(f x).length) (l:List α):l.length≤(l.flatMap f).length:=by
 induction l with
 | nil=>simp
 | cons x r ih=>
  rw [List.flatMap_cons,List.length_append,List.length_cons]
  have:=hf x
  omega
theorem rB_three {N:Nd} {p:Int} (L:List ByteArray) (h:rE N p=0):3≤(rB N p L).length∧N.kids.length≤(rB N p L).length:=by
 have h0:=rE_some h
 have h1:=put_length N.kind.toNat
 have h2:=put_length N.kids.length
 have h3:N.ints.length≤(rI N.ints).length:=flat_one _ (fun z=>(put_length _).1) _
 have h4:N.texts.length≤(rT (itF L N.texts) N.texts).length:=flat_one _ (fun z=>(put_length _).1) _
 have h5:N.kids.length≤(rK p N.kids).length:=flat_one _ (fun z=>(put_length _).1) _
 unfold rB
 simp only [List.length_append]
 omega
theorem gNd_three {b:ByteArray} {N:Nd} {p edges:Int} {L:List ByteArray} {k k':Nat} (h:gNd b p L edges k 0=(N,k',0)) (hp:p≤9223372036854775807) (hn:L.Nodup) (hr:∀s ∈ L,ok8 s=true) :
  k+3≤k'∧N.kids.length≤b.size∧(∀M:Nat,M≤3000→b.size≤M→sum6 L≤M→big N=false)∧fine N.ints:=by
 obtain ⟨a1,a2,_,a4,a5,_⟩:=gNd_bytes h hp hn hr
 have h1:=congrArg List.length a1
 rw [List.length_append,List.length_drop,List.length_drop,Array.length_toList] at h1
 have h2:b.data.size=b.size:=rfl
 have h3:=rB_three L a2
 have h4:=rE_some a2
 refine ⟨by omega,by omega,fun M q0 q1 q2=>?_,a4⟩
 cases hb:big N with
 | false=>rfl
 | true=>
  exfalso
  simp only [big,Bool.or_eq_true,decide_eq_true_eq,List.any_eq_true] at hb
  rcases hb with hb|hb|hb|⟨s,hs,hb⟩
  ·omega
  ·omega
  ·omega
  ·have:=sum6_at (a5 s hs);omega
theorem gNd_le (b:ByteArray) (p:Int) (L:List ByteArray) (edges:Int) (k:Nat) (e:Int) (hk:k≤b.size):(gNd b p L edges k e).2.1≤b.size:=by
 have h1:=pUint_at b k e 16777216 hk
 unfold gNd
 dsimp only
 generalize pUint b k e 16777216=Q at *
 have h2:(gRest b p L edges (newSp Q.1) Q.2.1 (if (newSp Q.1).ok=true then Q.2.2 else fl Q.2.2 9)).2.1≤b.size:=by
  unfold gRest
  dsimp only
  exact (gKs_at b p _ _ _ (pUint_at b _ _ _ (gTs_at b L _ _ _ (gIs_at b _ _ _ h1.2).2).2).2).2
 generalize gRest b p L edges (newSp Q.1) Q.2.1 (if (newSp Q.1).ok=true then Q.2.2 else fl Q.2.2 9)=R at h2 ⊢
 by_cases hz:R.2.2=0
 ·rw [if_pos hz];exact h2
 ·rw [if_neg hz];exact h2
end Go.Proofs.YtgoffkfpdigeeaaGreatDoor
namespace Go.Proofs.YtgoffkfpdigeeaaGreatDoor
open Go.RowKit Go.Maps Go.WideMaps Go.Sort
structure Gl (w W:World) (lim:Nat) (l:Lm) (y:Option Addr) (cap bt ot:Nat) (L:List ByteArray):Prop where
 bel:Below w.heap.size w W
 a:AtN 26 W w.heap.size (liC l)
 r:AtN 24 W (w.heap.size+1) #[.slice none 0 0,.int .i64 0]
 n:AtN 24 W (w.heap.size+2) #[.slice none 0 0,.int .i64 0]
 x:TxI W y cap bt ot L
 hb:0<L.length→bt<lim
 hl:lim≤W.heap.size
 hw:w.heap.size+3≤lim
section
variable {w W W':World} {lim:Nat} {l:Lm} {y:Option Addr} {cap bt ot:Nat} {L:List ByteArray}
theorem Gl.fr {S:Nat→Prop} (h:Gl w W lim l y cap bt ot L) (k:Fr S W W') (hs:∀i,S i→lim≤i):Gl w W' lim l y cap bt ot L:=
 ⟨Fr.below h.bel k (fun i hi=>by have:=hs i hi;have:=h.hw;omega) h.bel.size,h.a.fr k (fun q=>by have:=hs _ q;have:=h.hw;omega),h.r.fr k (fun q=>by have:=hs _ q;have:=h.hw;omega),h.n.fr k (fun q=>by have:=hs _ q;have:=h.hw;omega),
  ⟨h.x.ptr,fun i hi=>h.x.at_.fr k (fun q=>by have:=hs _ q;have:=h.hb (by omega);omega) i hi,h.x.cap_,h.x.nil⟩,h.hb,Nat.le_trans h.hl k.size,h.hw⟩
theorem Gl.more (h:Gl w W lim l y cap bt ot L) (hb:Below W.heap.size W W'):Gl w W' lim l y cap bt ot L:=h.fr (Fr.of_below (S:=fun _=>False) hb) (fun _ q=>q.elim)
theorem Gl.cur {gc:Nat} (h:Gl w W lim l y cap bt ot L) (hg:W.grownBy W' (some gc)) (hc:lim≤gc):Gl w W' lim l y cap bt ot L:=
 h.fr (Fr.of_grown (S:=fun k=>k=gc) hg (fun k e=>by cases e;rfl)) (fun i e=>by rw [e];exact hc)
end
def GeOut2 (tx nb:ByteArray) (l:Lm) (w w':World) (e:Ending):Prop:=∃(X:List Nx) (a:Option Addr) (c:Nat) (r k:Int),e=.returned (.tuple #[.agg #[.slice a X.length c,.int .i64 r],.int .i64 k])∧GeIs tx nb l (X.map Nx.nd) r k∧(∀W,Fr (fun b=>b<w.heap.size) w' W→ScAt W a X)∧Small X∧FnX X∧Below w.heap.size w w'
theorem GeOut2.drew {tx nb:ByteArray} {l:Lm} {w w':World} {e:Ending} (h:GeOut2 tx nb l w w' e):GeOut2 tx nb l w w'.drew e:=by
 obtain ⟨X,a,c,r,k,h1,h2,h3,h4,h5,h6⟩:=h
 have hd:Below w'.heap.size w' w'.drew:=⟨rfl,rfl,rfl,Nat.le_refl _,fun _ _=>rfl⟩
 exact ⟨X,a,c,r,k,h1,h2,fun W f=>h3 W ((Fr.of_below (S:=fun b=>b<w.heap.size) hd).trans f (fun i hi _=>hi)),h4,h5,h6.trans (hd.mono h6.size)⟩
theorem GeIs.bad {tx nb:ByteArray} {l:Lm} {k:Int} (h:(geK tx nb l).1=k) (hk:k≠0):GeIs tx nb l (([]:List Nx).map Nx.nd) 0 k:=.inl ⟨by rw [h];exact hk,h.symm,rfl,rfl⟩
theorem tell_bad {tx nb:ByteArray} {l:Lm} {w W:World} {k:Int} (hG:GeIs tx nb l (([]:List Nx).map Nx.nd) 0 k) (hb:Below w.heap.size w W) {x0 x1:Value} (hr:AtN 24 W (w.heap.size+1) #[x0,x1]) :
  ∀W',W'=(W.setCell ⟨w.heap.size+1,0,none⟩ (.slice none 0 0)).setCell ⟨w.heap.size+1,1,none⟩ (.int .i64 0)→AtN 24 W' (w.heap.size+1) #[.slice none 0 0,.int .i64 0]∧GeOut2 tx nb l w W' (.returned (.tuple #[.agg #[.slice none 0 0,.int .i64 0],.int .i64 k])):=by
 rintro _ rfl
 have hF:Fr (fun b=>b=w.heap.size+1) W ((W.setCell ⟨w.heap.size+1,0,none⟩ (.slice none 0 0)).setCell ⟨w.heap.size+1,1,none⟩ (.int .i64 0)):=((Fr.refl (fun b=>b=w.heap.size+1) W).set ⟨w.heap.size+1,0,none⟩ rfl _).set ⟨w.heap.size+1,1,none⟩ rfl _
 refine ⟨by simpa using (hr.set 0 (.slice none 0 0)).set 1 (.int .i64 0),[],none,0,0,k,rfl,hG,fun _ _=>⟨LsAt.nil _ _,fun i hi=>by simp at hi⟩,⟨by simp,fun i hi=>by simp at hi⟩,fun i hi=>by simp at hi,Fr.below hb hF (fun i e=>by omega) hb.size⟩
section
variable (tx nb:ByteArray) (l:Lm)
theorem geK_1 (h:okL l=false):(geK tx nb l).1=1:=by unfold geK;rw [if_pos h]
theorem geK_2 (h1:okL l=true) {e:Int} {L:List ByteArray} (h:pGet6 tx 16777216 l.x=(e,L)) (he:e≠0):(geK tx nb l).1=e:=by
 unfold geK;rw [if_neg (by simp [h1]),h,if_pos he]
theorem geK_3 (h1:okL l=true) {L:List ByteArray} (h2:pGet6 tx 16777216 l.x=(0,L)) {n e:Int} {k:Nat} (h:pUint nb 0 0 l.n=(n,k,e)) (he:e≠0):(geK tx nb l).1=e:=by
 unfold geK;rw [if_neg (by simp [h1]),h2,h,if_neg (by simp),if_pos he]
theorem geK_4 (h1:okL l=true) {L:List ByteArray} (h2:pGet6 tx 16777216 l.x=(0,L)) {k:Nat} (h:pUint nb 0 0 l.n=(0,k,0)):(geK tx nb l).1=13:=by
 unfold geK;rw [if_neg (by simp [h1]),h2,h,if_neg (by simp),if_neg (by simp),if_pos rfl]
theorem geK_5 (h1:okL l=true) {L:List ByteArray} (h2:pGet6 tx 16777216 l.x=(0,L)) {n:Int} {k:Nat} (h3:pUint nb 0 0 l.n=(n,k,0)) (h4:n≠0) {P:List Nd} {k':Nat} {e:Int} (h:gNs nb L n.toNat 0 k l.e=(P,k',e)) (he:e≠0):(geK tx nb l).1=e:=by
 unfold geK;rw [if_neg (by simp [h1]),h2,h3,if_neg (by simp),if_neg (by simp),if_neg h4,h,if_pos he]
theorem geK_6 (h1:okL l=true) {L:List ByteArray} (h2:pGet6 tx 16777216 l.x=(0,L)) {n:Int} {k:Nat} (h3:pUint nb 0 0 l.n=(n,k,0)) (h4:n≠0) {P:List Nd} {k':Nat} (h:gNs nb L n.toNat 0 k l.e=(P,k',0)) (hk:k'<nb.size):(geK tx nb l).1=8:=by
 unfold geK;rw [if_neg (by simp [h1]),h2,h3,if_neg (by simp),if_neg (by simp),if_neg h4,h,if_neg (by simp),if_pos hk]
theorem geK_7 (h1:okL l=true) {L:List ByteArray} (h2:pGet6 tx 16777216 l.x=(0,L)) {n:Int} {k:Nat} (h3:pUint nb 0 0 l.n=(n,k,0)) (h4:n≠0) {P:List Nd} {k':Nat} (h:gNs nb L n.toNat 0 k l.e=(P,k',0)) (hk:¬k'<nb.size):geK tx nb l=(0,P,L):=by
 unfold geK;rw [if_neg (by simp [h1]),h2,h3,if_neg (by simp),if_neg (by simp),if_neg h4,h,if_neg (by simp),if_neg hk]
end
theorem GeIs.of {tx nb:ByteArray} {l:Lm} {X:List Nx} {r k:Int} {L:List ByteArray} (h:geK tx nb l=(0,X.map Nx.nd,L)) (hr:r=(X.length:Int)-1) (hS:GeS X r L l k) :
  (k≠0→GeIs tx nb l (([]:List Nx).map Nx.nd) 0 k)∧(k=0→GeIs tx nb l (X.map Nx.nd) r 0):=by
 have hS':GeS (bare (geK tx nb l).2.1) (((geK tx nb l).2.1.length:Int)-1) (geK tx nb l).2.2 l k:=by
  rw [h]
  dsimp only
  rw [List.length_map,← hr]
  exact hS.same (by rw [bare_nd])
 have h0:(geK tx nb l).1=0:=by rw [h]
 refine ⟨fun q=>.inr ⟨h0,k,hS',.inl ⟨q,rfl,rfl,rfl⟩⟩,fun q=>.inr ⟨h0,k,hS',.inr ⟨q,rfl,by rw [h],by rw [h,hr];simp⟩⟩⟩
end Go.Proofs.YtgoffkfpdigeeaaGreatDoor
namespace Go.Proofs.YtgoffkfpdigeeaaGreatDoor
open Go.RowKit
def PuIs (X:List Nx) (r:Int) (A C:ByteArray) (e:Int):Prop:=
 (tyE X≠0∧e=tyE X∧A=⟨#[]⟩∧C=⟨#[]⟩)∨
  (tyE X=0∧∃n y,CheckIs X r n y∧((n≠0∧e=n∧A=⟨#[]⟩∧C=⟨#[]⟩)∨(n=0∧((¬IsCan X r∧e=16∧A=⟨#[]⟩∧C=⟨#[]⟩)∨
   (IsCan X r∧e=0∧A.data.toList=pPut6 (rTab (X.map Nx.nd) [])∧C.data.toList=put X.length++rAllN 0 (X.map Nx.nd) [])))))
theorem rB_size (N:Nd) (p:Int) (L:List ByteArray) (hb:big N=false):(rB N p L).length≤32020:=by
 obtain ⟨h0,h6,h7,_⟩:=big_no hb
 have h1:=put_length N.kind.toNat
 have h2:=put_length N.kids.length
 have h3:(rI N.ints).length≤10*N.ints.length:=flat_ten _ _
 have h4:(rT (itF L N.texts) N.texts).length≤10*N.texts.length:=flat_ten _ _
 have h5:(rK p N.kids).length≤10*N.kids.length:=flat_ten _ _
 unfold rB
 simp only [List.length_append]
 omega
theorem tyE_all {X:List Nx} (h:tyE X=0):∀i,i<X.length→tyN (X.getD i noNx).nd=0:=by
 have key:∀(X:List Nx) (k:Nat),(tyG X k).1=0→∀i,i<X.length→tyN (X.getD i noNx).nd=0:=by
  intro X
  induction X with
  | nil=>intro k _ i hi;simp at hi
  | cons x r ih=>
   intro k hk i hi
   unfold tyG at hk
   by_cases hx:tyN x.nd=0
   ·rw [if_pos hx] at hk
    match i with
    | 0=>simpa using hx
    | i+1=>simpa using ih (k+1) hk i (by simpa using hi)
   ·rw [if_neg hx] at hk
    exact absurd hk hx
 exact key X 0 h
theorem tyN_texts {N:Nd} (h:tyN N=0):N.texts.length≤2:=by
 have h1:rE N 0=0∨rE N 0=13:=by
  unfold rE
  rw [if_pos h]
  split
  ·exact .inl rfl
  ·exact .inr rfl
 unfold tyN at h
 split at h
 ·cases h
 ·unfold chkN at h
  split at h
  ·cases h
  ·split at h
   ·cases h
   ·rename_i h2 h3
    have h4:fitT N.texts (newSp N.kind).texts=true:=by simpa using h3
    unfold fitT at h4
    rw [Bool.and_eq_true,decide_eq_true_eq] at h4
    have:=newSp_small N.kind
    omega
theorem getD_in {L:List Int} {j:Nat} (h:j<L.length):L.getD j 0 ∈ L:=by
 rw [List.getD_eq_getElem?_getD,List.getElem?_eq_getElem h]
 exact List.getElem_mem h
theorem can_kids {X:List Nx} {r:Int} (h:IsCan X r) {i:Nat} (hi:i<X.length) (j:Nat) (hj:j<(X.getD i noNx).nd.kids.length):0≤(X.getD i noNx).nd.kids.getD j 0∧(X.getD i noNx).nd.kids.getD j 0<i:=by
 have h1:=h.1.2.1 i hi j hj
 unfold isPb at h1
 have h2:=of_decide_eq_true h1
 have hm:(X.getD i noNx).nd.kids.getD j 0 ∈ (X.getD i noNx).nd.kids:=getD_in hj
 have hE:Ed (kX X) i ((X.getD i noNx).nd.kids.getD j 0).toNat:=by
  unfold Ed
  rw [kX_at X i hi]
  exact List.mem_map_of_mem hm
 have h3:=h.1.ord.good.kids i (oX_all h.1 i hi) _ hE
 have h4:((X.getD i noNx).nd.kids.getD j 0).toNat<X.length:=by omega
 have h5:=h3.2
 have e1:(ordO (kX X) r.toNat).idxOf i=i:=h.2 i hi
 have e2:(ordO (kX X) r.toNat).idxOf ((X.getD i noNx).nd.kids.getD j 0).toNat=((X.getD i noNx).nd.kids.getD j 0).toNat:=h.2 _ h4
 unfold oX at h5
 rw [e1,e2] at h5
 omega
theorem can_rE {X:List Nx} {r:Int} (h:IsCan X r) (ht:tyE X=0) {i:Nat} (hi:i<X.length):rE (X.getD i noNx).nd i=0:=by
 unfold rE
 rw [if_pos (tyE_all ht i hi),if_pos (rOk_yes (fun j hj=>can_kids h hi j hj))]
end Go.Proofs.YtgoffkfpdigeeaaGreatDoor
