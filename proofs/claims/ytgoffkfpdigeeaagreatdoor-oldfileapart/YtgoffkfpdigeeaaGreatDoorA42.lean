import Derived.Test.YtgoffkfpdigeeaaGreatDoorA25
import Derived.Test.YtgoffkfpdigeeaaGreatDoorA41
import Derived.Test.YtgoffkfpdigeeaaGreatDoorA17
import Derived.Stop.Joined
import Derived.LaidMore
import Derived.SevenTiedAt
import Derived.Test.YtgoffkfpdigeeaaGreatDoorA24
import Derived.Test.YtgoffkfpdigeeaaGreatDoorA16
import Derived.Test.YtgoffkfpdigeeaaGreatDoorA26
import Derived.Test.YtgoffkfpdigeeaaGreatDoorA10
import Derived.Test.YtgoffkfpdigeeaaGreatDoorA20
import Derived.Test.YtgoffkfpdigeeaaGreatDoorA37
namespace Go.Proofs.YtgoffkfpdigeeaaGreatDoor
open Go.RowKit
theorem rTab_itn:∀(l:List Nd) (L:List ByteArray),rTab l L=(l.flatMap Nd.texts).foldl pIntern L
 | [],_=>rfl
 | N :: r,L=>by
  rw [List.flatMap_cons,List.foldl_append]
  exact rTab_itn r (itF L N.texts)
theorem rTab_all (X:List Nx):rTab (X.map Nx.nd) []=itn (allT X):=by
 rw [rTab_itn,List.flatMap_map]
 rfl
theorem sumK_edg (X:List Nx):sumK (X.map Nx.nd)=edg X:=by
 unfold sumK edg
 rw [List.map_map]
 rfl
theorem foldlT_nodup (T:List ByteArray):∀L:List ByteArray,L.Nodup→(T.foldl pIntern L).Nodup:=by
 induction T with
 | nil=>intro L h;exact h
 | cons x r ih=>
  intro L h
  rw [List.foldl_cons]
  exact ih _ (pIntern_nodup L x h)
theorem itn_nodup (T:List ByteArray):(itn T).Nodup:=foldlT_nodup T [] List.nodup_nil
theorem getD_map {X:List Nx} {i:Nat} (h:i<X.length):(X.map Nx.nd).getD i ⟨0,[],[],[]⟩=(X.getD i noNx).nd:=by
 rw [List.getD_eq_getElem?_getD,List.getD_eq_getElem?_getD,List.getElem?_map,List.getElem?_eq_getElem h]
 rfl
theorem put_inj {n m:Nat} {x y:List UInt8} (h:put n++x=put m++y) (hn:n≤16777216) (hm:m≤16777216):n=m∧x=y:=by
 have h1:=uint_put (b:=⟨(put n++x).toArray⟩) (k:=0) (r:=x) 16777216 (by simp) hn (by omega)
 have h2:=uint_put (b:=⟨(put n++x).toArray⟩) (k:=0) (r:=y) 16777216 (by rw [h];simp) hm (by omega)
 rw [h1] at h2
 injection h2 with h3 h4
 obtain rfl:n=m:=by omega
 exact ⟨rfl,List.append_cancel_left h⟩
theorem body6_inj:∀L M:List ByteArray,L.length=M.length→(∀s ∈ L,s.size≤16777216)→(∀s ∈ M,s.size≤16777216)→body6 L=body6 M→L=M
 | [],[],_,_,_,_=>rfl
 | [],t :: M,h,_,_,_=>by simp at h
 | s :: L,[],h,_,_,_=>by simp at h
 | s :: L,t :: M,h,hs,ht,hb=>by
  have e1:body6 (s :: L)=put s.size++(s.data.toList++body6 L):=by
   unfold body6
   rw [List.flatMap_cons,List.append_assoc]
  have e2:body6 (t :: M)=put t.size++(t.data.toList++body6 M):=by
   unfold body6
   rw [List.flatMap_cons,List.append_assoc]
  rw [e1,e2] at hb
  obtain ⟨h1,h2⟩:=put_inj hb (hs s (by simp)) (ht t (by simp))
  obtain ⟨h3,h4⟩:=List.append_inj h2 (by rw [list_size,list_size,h1])
  have h5:s=t:=by
   cases s
   cases t
   congr
   exact Array.toList_inj.1 h3
  rw [h5,body6_inj L M (by simpa using h) (fun s q=>hs s (by simp [q])) (fun s q=>ht s (by simp [q])) h4]
theorem pPut6_inj {L M:List ByteArray} (h:pPut6 L=pPut6 M) (h1:L.length≤16777216) (h2:M.length≤16777216) (hs:∀s ∈ L,s.size≤16777216) (ht:∀s ∈ M,s.size≤16777216):L=M:=by
 obtain ⟨h3,h4⟩:=put_inj h h1 h2
 exact body6_inj L M h3 hs ht h4
theorem pGet6_putB (L:List ByteArray) (b:ByteArray) (t m:Int) (hb:b.data.toList=pPut6 L) (hn:L.Nodup) (hr:∀s ∈ L,right5 s=true∧s.size≤16777216) (hl:L.length≤16777216) (ht:(L.length:Int)≤t) (hm:(sum6 L:Int)≤m):pGet6 b t m=(0,L):=by
 have hd:b.data.toList.drop (put L.length).length=body6 L++[]:=by
  rw [hb,List.append_nil]
  exact List.drop_left
 have hsz:b.size=(put L.length).length+(body6 L).length:=by
  rw [← list_size,hb]
  simp [pPut6]
 rw [pGet6_is,(pUint_put b _ L.length (body6 L) hb hl).2 (by omega)]
 dsimp only
 rw [if_neg (by simp),show ((L.length:Int)).toNat=L.length from rfl,show max m 0=m by omega,(gets6_put b _ L _ [] [] (by omega) hd (by simpa using hn) hr (by simp [sum6];omega)).1 (by simpa using hm)]
 unfold after6
 rw [if_neg (by simp),if_neg (by dsimp only;omega)]
 simp
theorem pGet6_less (L:List ByteArray) (b:ByteArray) (t:Int) (hb:b.data.toList=pPut6 L) (hn:L.Nodup) (hr:∀s ∈ L,right5 s=true∧s.size≤16777216) (hl:L.length≤16777216) (ht:(L.length:Int)≤t) (h0:sum6 L≠0):(pGet6 b t ((sum6 L:Int)-1)).1=19:=by
 have hd:b.data.toList.drop (put L.length).length=body6 L++[]:=by
  rw [hb,List.append_nil]
  exact List.drop_left
 have hsz:b.size=(put L.length).length+(body6 L).length:=by
  rw [← list_size,hb]
  simp [pPut6]
 rw [pGet6_is,(pUint_put b _ L.length (body6 L) hb hl).2 (by omega)]
 dsimp only
 have h19:=(gets6_put b ((sum6 L:Int)-1) L _ [] [] (by omega) hd (by simpa using hn) hr (by simp [sum6] at h0 ⊢;omega)).2 (by simp;omega)
 rw [if_neg (by simp),show ((L.length:Int)).toNat=L.length from rfl,show max ((sum6 L:Int)-1) 0=(sum6 L:Int)-1 by omega]
 unfold after6
 rw [h19,if_pos (by decide)]
theorem tyE_of {X:List Nx} (h:∀i,i<X.length→tyN (X.getD i noNx).nd=0):tyE X=0:=by
 have key:∀(X:List Nx) (k:Nat),(∀i,i<X.length→tyN (X.getD i noNx).nd=0)→(tyG X k).1=0:=by
  intro X
  induction X with
  | nil=>intro k _;rfl
  | cons x r ih=>
   intro k h
   unfold tyG
   rw [if_pos (by simpa using h 0 (by simp))]
   exact ih (k+1) (fun i hi=>by simpa using h (i+1) (by simpa using hi))
 exact key X 0 h
theorem right_ok8 {s:ByteArray} (h:ok8 s=true):right5 s=true:=by
 cases hr:right5 s with
 | true=>rfl
 | false=>
  have h1:=(pFirst_right s).2 hr
  unfold ok8 at h
  simp at h
  omega
theorem tyN_ok8 {N:Nd} (h:tyN N=0):∀s ∈ N.texts,ok8 s=true:=by
 unfold tyN at h
 split at h
 ·cases h
 ·unfold chkN at h
  split at h
  ·cases h
  ·split at h
   ·cases h
   ·rename_i h2 h3
    have h4:fitT N.texts (newSp N.kind).texts=true:=by simpa using h3
    unfold fitT at h4
    rw [Bool.and_eq_true,List.all_eq_true] at h4
    exact h4.2
structure Bk (X:List Nx) (r:Int) (A C:ByteArray):Prop where
 sm:Small X
 few:X.length≤60
 fn:FnX X
 ty:tyE X=0
 can:IsCan X r
 root:r=(X.length:Int)-1
 a:A.data.toList=pPut6 (itn (allT X))
 c:C.data.toList=put X.length++rAllN 0 (X.map Nx.nd) []
section
variable {X:List Nx} {r:Int} {A C:ByteArray} {d:Nat} {l:Lm}
theorem Bk.pos (h:Bk X r A C):0<X.length:=by
 have h1:=h.can.1.1
 unfold isPb at h1
 have:=of_decide_eq_true h1
 omega
theorem Bk.tab (h:Bk X r A C):(itn (allT X)).Nodup∧(∀s ∈ itn (allT X),right5 s=true∧s.size≤16777216)∧(itn (allT X)).length≤120∧sum6 (itn (allT X))≤16777216:=by
 have hT:∀s ∈ allT X,ok8 s=true∧s.size≤3000:=fun s hs=>by
  unfold allT at hs
  obtain ⟨x,hx,hs⟩:=List.mem_flatMap.1 hs
  obtain ⟨i,hi,rfl⟩:=List.getElem_of_mem hx
  have e:X[i]=X.getD i noNx:=by rw [List.getD_eq_getElem?_getD,List.getElem?_eq_getElem hi];rfl
  rw [e] at hs
  exact ⟨tyN_ok8 (tyE_all h.ty i hi) s hs,(big_no (h.sm.2 i hi)).2.2.2 s hs⟩
 have hl:(allT X).length≤120:=by
  have key:∀i,i≤X.length→(allT (X.take i)).length≤2*i:=by
   intro i
   induction i with
   | zero=>intro _;simp [allT]
   | succ i ih=>
    intro hi
    rw [allT_take X i (by omega),List.length_append]
    have:=tyN_texts (tyE_all h.ty i (by omega))
    have:=ih (by omega)
    omega
  have h1:=key X.length (Nat.le_refl _)
  rw [List.take_of_length_le (Nat.le_refl _)] at h1
  have:=h.few
  omega
 have h2:=itn_len (allT X)
 have h3:∀(T:List ByteArray),(∀s ∈ T,s.size≤3000)→sum6 T≤3000*T.length:=by
  intro T
  induction T with
  | nil=>intro _;simp [sum6]
  | cons x t ih=>
   intro q
   have h1:=q x (by simp)
   have h2:=ih (fun s hs=>q s (by simp [hs]))
   have h0:sum6 (x :: t)=x.size+sum6 t:=by simp [sum6]
   rw [h0,List.length_cons]
   omega
 have h4:=h3 (itn (allT X)) (fun s hs=>(hT s ((itn_mem _ _).1 hs)).2)
 refine ⟨itn_nodup _,fun s hs=>⟨right_ok8 (hT s ((itn_mem _ _).1 hs)).1,by have:=(hT s ((itn_mem _ _).1 hs)).2;omega⟩,by omega,by omega⟩
theorem Bk.edg (h:Bk X r A C):edg X≤180000:=by
 have key:∀i,i≤X.length→Go.Proofs.YtgoffkfpdigeeaaGreatDoor.edg (X.take i)≤3000*i:=by
  intro i
  induction i with
  | zero=>intro _;simp [Go.Proofs.YtgoffkfpdigeeaaGreatDoor.edg]
  | succ i ih=>
   intro hi
   rw [edg_take X i (by omega)]
   have:=(big_no (h.sm.2 i (by omega))).2.2.1
   have:=ih (by omega)
   omega
 have h1:=key X.length (Nat.le_refl _)
 rw [List.take_of_length_le (Nat.le_refl _)] at h1
 have:=h.few
 omega
theorem Bk.drop (h:Bk X r A C):C.data.toList.drop (put X.length).length=rAllN 0 (X.map Nx.nd) []++[]:=by
 rw [h.c,List.append_nil]
 exact List.drop_left
theorem Bk.recs (h:Bk X r A C):(∀j,j<(X.map Nx.nd).length→rE ((X.map Nx.nd).getD j ⟨0,[],[],[]⟩) ((0+j:Nat):Int)=0)∧∀N ∈ X.map Nx.nd,fine N.ints:=by
 refine ⟨fun j hj=>?_,fun N hN=>?_⟩
 ·rw [List.length_map] at hj
  rw [getD_map hj,Nat.zero_add]
  exact can_rE h.can h.ty hj
 ·obtain ⟨x,hx,rfl⟩:=List.mem_map.1 hN
  obtain ⟨i,hi,rfl⟩:=List.getElem_of_mem hx
  have:=h.fn i hi
  rwa [List.getD_eq_getElem?_getD,List.getElem?_eq_getElem hi] at this
theorem Bk.sz (h:Bk X r A C):C.size=(put X.length).length+(rAllN 0 (X.map Nx.nd) []).length:=by
 rw [← list_size,h.c,List.length_append]
theorem Bk.ks (h:Bk X r A C) (ho:okL l=true) (hx:(sum6 (itn (allT X)):Int)≤l.x) (hn:(X.length:Int)≤l.n) (he:(Go.Proofs.YtgoffkfpdigeeaaGreatDoor.edg X:Int)≤l.e):geK A C l=(0,X.map Nx.nd,itn (allT X)):=by
 obtain ⟨t1,t2,t3,t4⟩:=h.tab
 have hp:=h.pos
 have hf:=h.few
 have hed:=h.edg
 have g1:=pGet6_putB (itn (allT X)) A 16777216 l.x h.a t1 t2 (by omega) (by omega) hx
 have g2:=(pUint_put C l.n X.length _ h.c (by omega)).2 (by omega)
 have g3:=gNs_put C (X.map Nx.nd) 0 [] (put X.length).length l.e [] h.drop h.recs.1 h.recs.2 (by rw [List.length_map];omega) (by rw [rTab_all];omega) (by rw [sumK_edg];exact he) (by rw [sumK_edg];omega)
 rw [rTab_all,List.length_map] at g3
 exact geK_7 A C l ho g1 g2 (by omega) (by rw [Int.toNat_natCast];exact g3) (by rw [h.sz];omega)
theorem Bk.got (h:Bk X r A C) (ho:okL l=true) (hx:(sum6 (itn (allT X)):Int)≤l.x) (hn:(X.length:Int)≤l.n) (he:(Go.Proofs.YtgoffkfpdigeeaaGreatDoor.edg X:Int)≤l.e) (hd:DepthIs X r d) (hl:(d:Int)≤l.d):GeIs A C l (X.map Nx.nd) r 0:=by
 have hk:=h.ks ho hx hn he
 have hc:=check_right h.can.1
 exact (GeIs.of hk h.root ⟨0,0,d,hc,hd,.inr ⟨rfl,.inr ⟨by omega,.inr ⟨h.can,.inr ⟨rfl,rfl⟩⟩⟩⟩⟩).2 rfl
theorem Bk.deep (h:Bk X r A C) (ho:okL l=true) (hx:(sum6 (itn (allT X)):Int)≤l.x) (hn:(X.length:Int)≤l.n) (he:(Go.Proofs.YtgoffkfpdigeeaaGreatDoor.edg X:Int)≤l.e) (hd:DepthIs X r d) (hl:l.d<(d:Int)):GeIs A C l (([]:List Nx).map Nx.nd) 0 19:=by
 have hk:=h.ks ho hx hn he
 have hc:=check_right h.can.1
 exact (GeIs.of hk h.root ⟨0,0,d,hc,hd,.inr ⟨rfl,.inl ⟨hl,rfl⟩⟩⟩).1 (by decide)
theorem Bk.nodes (h:Bk X r A C) (ho:okL l=true) (hx:(sum6 (itn (allT X)):Int)≤l.x) (hn:l.n<(X.length:Int)):GeIs A C l (([]:List Nx).map Nx.nd) 0 19:=by
 obtain ⟨t1,t2,t3,t4⟩:=h.tab
 have hf:=h.few
 have g1:=pGet6_putB (itn (allT X)) A 16777216 l.x h.a t1 t2 (by omega) (by omega) hx
 have g2:=(pUint_put C l.n X.length _ h.c (by omega)).1 hn
 refine GeIs.bad ?_ (by decide)
 exact (geK_3 A C l ho g1 (n:=(pUint C 0 0 l.n).1) (k:=(pUint C 0 0 l.n).2.1) (e:=(pUint C 0 0 l.n).2.2) rfl (by rw [g2];decide)).trans g2
theorem Bk.ways (h:Bk X r A C) (ho:okL l=true) (hx:(sum6 (itn (allT X)):Int)≤l.x) (hn:(X.length:Int)≤l.n) (he:l.e<(Go.Proofs.YtgoffkfpdigeeaaGreatDoor.edg X:Int)):GeIs A C l (([]:List Nx).map Nx.nd) 0 19:=by
 obtain ⟨t1,t2,t3,t4⟩:=h.tab
 have hp:=h.pos
 have hf:=h.few
 have hed:=h.edg
 have g1:=pGet6_putB (itn (allT X)) A 16777216 l.x h.a t1 t2 (by omega) (by omega) hx
 have g2:=(pUint_put C l.n X.length _ h.c (by omega)).2 (by omega)
 have g3:=gNs_limit C (X.map Nx.nd) 0 [] (put X.length).length l.e [] h.drop h.recs.1 h.recs.2 (by rw [List.length_map];omega) (by rw [rTab_all];omega) (by rw [sumK_edg];exact he) (okL_in ho).2.2.1.1 (by rw [sumK_edg];omega)
 rw [rTab_all,List.length_map] at g3
 refine GeIs.bad ?_ (by decide)
 obtain ⟨P,k',e,hS⟩:∃P k' e,gNs C (itn (allT X)) X.length 0 (put X.length).length l.e=(P,k',e):=⟨_,_,_,rfl⟩
 rw [hS] at g3
 exact (geK_5 A C l ho g1 g2 (by omega) (by rw [Int.toNat_natCast];exact hS) (by rw [g3];decide)).trans g3
theorem Bk.texts (h:Bk X r A C) (ho:okL l=true) (hs:sum6 (itn (allT X))≠0) (hx:l.x=(sum6 (itn (allT X)):Int)-1):GeIs A C l (([]:List Nx).map Nx.nd) 0 19:=by
 obtain ⟨t1,t2,t3,t4⟩:=h.tab
 have g1:=pGet6_less (itn (allT X)) A 16777216 h.a t1 t2 (by omega) (by omega) hs
 rw [← hx] at g1
 refine GeIs.bad ?_ (by decide)
 obtain ⟨te,L,hT⟩:∃te L,pGet6 A 16777216 l.x=(te,L):=⟨_,_,rfl⟩
 rw [hT] at g1
 dsimp only at g1
 exact (geK_2 A C l ho hT (by rw [g1];decide)).trans g1
end
def Qn (nb:ByteArray) (L:List ByteArray) (l:Lm):Prop:=
 ∀P k' e',gNs nb L (pUint nb 0 0 l.n).1.toNat 0 (pUint nb 0 0 l.n).2.1 l.e=(P,k',e')→P.length≤1401∧∀N ∈ P,big N=false∧fine N.ints
theorem gNs_pre3 (b:ByteArray) (L:List ByteArray) (hn:L.Nodup) (hr:∀s ∈ L,ok8 s=true) (M:Nat) (hM:M≤3000) (hb:b.size≤M) (hs:sum6 L≤M):∀(n i k:Nat) (ed:Int) (l:List Nd) (k':Nat) (e':Int),gNs b L n i k ed=(l,k',e')→(i:Int)+n≤9223372036854775807→k≤b.size→
  k+3*l.length≤b.size∧∀N ∈ l,big N=false∧fine N.ints:=by
 intro n
 induction n with
 | zero=>
  intro i k ed l k' e' h _ hk
  simp only [gNs,Prod.mk.injEq] at h
  obtain ⟨rfl,rfl,_⟩:=h
  exact ⟨by simpa using hk,fun N q=>by simp at q⟩
 | succ n ih=>
  intro i k ed l k' e' h hi hk
  unfold gNs at h
  split at h
  ·simp only [Prod.mk.injEq] at h
   obtain ⟨rfl,_,_⟩:=h
   exact ⟨by simpa using hk,fun N q=>by simp at q⟩
  ·rename_i he
   have he:(gNd b i L ed k 0).2.2=0:=by simpa using he
   obtain ⟨N,k1,e1,hR⟩:∃N k1 e1,gNd b i L ed k 0=(N,k1,e1):=⟨_,_,_,rfl⟩
   rw [hR] at h he
   dsimp only at h he
   subst he
   obtain ⟨l2,k2,e2,hS⟩:∃l2 k2 e2,gNs b L n (i+1) k1 (ed-N.kids.length)=(l2,k2,e2):=⟨_,_,_,rfl⟩
   rw [hS] at h
   simp only [Prod.mk.injEq] at h
   obtain ⟨rfl,rfl,rfl⟩:=h
   obtain ⟨a1,_,a3,a4⟩:=gNd_three hR (by omega) hn hr
   have hk1:k1≤b.size:=by have:=gNd_le b i L ed k 0 hk;rw [hR] at this;exact this
   obtain ⟨b1,b2⟩:=ih (i+1) k1 _ l2 k2 e2 hS (by omega) hk1
   refine ⟨by simp only [List.length_cons];omega,fun N' q=>?_⟩
   rcases List.mem_cons.1 q with rfl|q
   ·exact ⟨a3 M hM hb hs,a4⟩
   ·exact b2 N' q
theorem qn_small {tx nb:ByteArray} {l:Lm} {L:List ByteArray} (h:pGet6 tx 16777216 l.x=(0,L)) (hz:tx.size≤3000) (hy:nb.size≤3000):Qn nb L l:=fun P k' e' hS=>by
 have h1:=pGet6_ok tx 16777216 l.x (by rw [h])
 have h2:=pGet6_ok8 tx 16777216 l.x (by rw [h])
 rw [h] at h1 h2
 dsimp only at h1 h2
 have hut:=pUint_top nb 0 0 l.n
 have h3:=gNs_pre3 nb L h1.2.1 h2 3000 (Nat.le_refl _) (by omega) (by omega) _ 0 _ _ P k' e' hS (by have:=hut.2.1;omega) (pUint_at nb 0 0 l.n (Nat.zero_le _)).2
 exact ⟨by omega,h3.2⟩
def CkIs (X:List Nx) (r dp k:Int):Prop:=∃n y d,CheckIs X r n y∧DepthIs X r d∧((n≠0∧k=n)∨(n=0∧((dp<(d:Int)∧k=19)∨(¬dp<(d:Int)∧((¬IsCan X r∧k=16)∨(IsCan X r∧k=0))))))
theorem CkIs.bad {X:List Nx} {r k:Int} {l:Lm} {L:List ByteArray} (h:CkIs X r l.d k) (hk:k≠0):GeS X r L l k:=by
 obtain ⟨n,y,d,h1,h2,h3⟩:=h
 refine ⟨n,y,d,h1,h2,?_⟩
 rcases h3 with h3|⟨h3,h4|⟨h4,h5|⟨h5,h6⟩⟩⟩
 ·exact .inl h3
 ·exact .inr ⟨h3,.inl h4⟩
 ·exact .inr ⟨h3,.inr ⟨h4,.inl h5⟩⟩
 ·exact absurd h6 hk
theorem CkIs.good {X:List Nx} {r:Int} {l:Lm} {L:List ByteArray} (h:CkIs X r l.d 0) (q:Int) (hq:(itn (allT X)≠L∧q=18)∨(itn (allT X)=L∧q=0)):GeS X r L l q:=by
 obtain ⟨n,y,d,h1,h2,h3⟩:=h
 refine ⟨n,y,d,h1,h2,?_⟩
 rcases h3 with ⟨h3,h4⟩|⟨h3,⟨_,h4⟩|⟨h4,⟨_,h5⟩|⟨h5,_⟩⟩⟩
 ·exact absurd h4.symm h3
 ·cases h4
 ·cases h5
 ·exact .inr ⟨h3,.inr ⟨h4,.inr ⟨h5,hq⟩⟩⟩
theorem PuIs.uniq {X:List Nx} {r e e':Int} {A C A' C':ByteArray} (h:PuIs X r A C e) (h':PuIs X r A' C' e'):A'=A∧C'=C∧e'=e:=by
 have key:∀{s t:ByteArray},s.data.toList=t.data.toList→s=t:=fun {s t} q=>by
  cases s;cases t;congr;exact Array.toList_inj.1 q
 rcases h with ⟨h1,rfl,rfl,rfl⟩|⟨h1,n,y,h2,h3⟩
 ·rcases h' with ⟨_,rfl,rfl,rfl⟩|⟨g1,_⟩
  ·exact ⟨rfl,rfl,rfl⟩
  ·exact absurd g1 h1
 ·rcases h' with ⟨g1,_⟩|⟨_,n',y',g2,g3⟩
  ·exact absurd h1 g1
  ·obtain ⟨rfl,rfl⟩:=h2.uniq g2
   rcases h3 with ⟨a,rfl,rfl,rfl⟩|⟨a,⟨b,rfl,rfl,rfl⟩|⟨b,rfl,hA,hC⟩⟩
   ·rcases g3 with ⟨_,rfl,rfl,rfl⟩|⟨a',_⟩
    ·exact ⟨rfl,rfl,rfl⟩
    ·exact absurd a' a
   ·rcases g3 with ⟨a',_⟩|⟨_,⟨_,rfl,rfl,rfl⟩|⟨b',_⟩⟩
    ·exact absurd a a'
    ·exact ⟨rfl,rfl,rfl⟩
    ·exact absurd b' b
   ·rcases g3 with ⟨a',_⟩|⟨_,⟨b',_⟩|⟨_,rfl,hA',hC'⟩⟩
    ·exact absurd a a'
    ·exact absurd b b'
    ·exact ⟨key (hA'.trans hA.symm),key (hC'.trans hC.symm),rfl⟩
end Go.Proofs.YtgoffkfpdigeeaaGreatDoor
namespace Go.Proofs.YtgoffkfpdigeeaaGreatDoor
open Go.ChangeShapes Go.WideShapes Go.ChangeAt Go.RowKit Go.Joins Go.Deep
end Go.Proofs.YtgoffkfpdigeeaaGreatDoor
namespace Go.Proofs.YtgoffkfpdigeeaaGreatDoor
open Go.RowKit Go.Maps Go.WideMaps Go.Sort
theorem ren_tyN (f:Int→Int) (N:Nd):tyN (renNd f N)=tyN N:=by simp [tyN,chkN,renNd]
section
variable {X Y:List Nx} {p:Nat→Nat} {r:Int} {l:Lm} {d:Nat}
theorem Ren.ty (h:Ren X Y p) (q:tyE X=0):tyE Y=0:=tyE_of fun j hj=>by
 rw [h.len] at hj
 obtain ⟨i,hi,rfl⟩:=h.per.onto j hj
 rw [h.nd i hi,ren_tyN]
 exact tyE_all q i hi
end
theorem rAllN_len:∀(l:List Nd) (i:Nat) (L:List ByteArray),(∀N ∈ l,big N=false)→(rAllN i l L).length≤32020*l.length
 | [],_,_,_=>by simp [rAllN]
 | N :: r,i,L,h=>by
  have h1:=rB_size N i L (h N (by simp))
  have h2:=rAllN_len r (i+1) (itF L N.texts) (fun M q=>h M (by simp [q]))
  show (rB N i L++rAllN (i+1) r (itF L N.texts)).length≤_
  rw [List.length_append,List.length_cons]
  omega
theorem sum6_few:∀T:List ByteArray,(∀s ∈ T,s.size≤3000)→sum6 T≤3000*T.length
 | [],_=>by simp [sum6]
 | x :: t,q=>by
  have h1:=q x (by simp)
  have h2:=sum6_few t (fun s hs=>q s (by simp [hs]))
  have h0:sum6 (x :: t)=x.size+sum6 t:=by simp [sum6]
  rw [h0,List.length_cons]
  omega
theorem Bk.size {X:List Nx} {r:Int} {A C:ByteArray} (h:Bk X r A C):A.size≤1000000∧C.size≤4000000:=by
 have hf:=h.few
 constructor
 ·have h1:=list_size A
  rw [h.a] at h1
  have h2:=body6_le (itn (allT X))
  have h3:=put_length (itn (allT X)).length
  have h4:=h.tab.2.2.1
  have hs:=allT_small X h.sm X.length (Nat.le_refl _)
  rw [List.take_of_length_le (Nat.le_refl _)] at hs
  have h5:=sum6_few (itn (allT X)) (fun s q=>hs.2 s ((itn_mem _ _).1 q))
  unfold pPut6 at h1
  rw [List.length_append] at h1
  omega
 ·have h1:=h.sz
  have h3:=put_length X.length
  have h4:=rAllN_len (X.map Nx.nd) 0 [] (fun N q=>by
   obtain ⟨x,hx,rfl⟩:=List.mem_map.1 q
   obtain ⟨i,hi,rfl⟩:=List.getElem_of_mem hx
   have e:X[i]=X.getD i noNx:=by rw [List.getD_eq_getElem?_getD,List.getElem?_eq_getElem hi];rfl
   rw [e]
   exact h.sm.2 i hi)
  rw [List.length_map] at h4
  omega
end Go.Proofs.YtgoffkfpdigeeaaGreatDoor
namespace Go.Proofs.YtgoffkfpdigeeaaGreatDoor
open Go.RowKit
def cA (X:List Nx) (r:Int):ByteArray:=⟨(pPut6 (rTab (cX X r) [])).toArray⟩
def cC (X:List Nx) (r:Int):ByteArray:=⟨(put (cX X r).length++rAllN 0 (cX X r) []).toArray⟩
def secs2 (A C:ByteArray):List Sec:=[(1,A),(2,C)]
def cF (X:List Nx) (r:Int):ByteArray:=⟨(pPut mD 2 (secs2 (cA X r) (cC X r))).1.toArray⟩
def SvIs (X:List Nx) (r:Int) (l:Lm) (B:ByteArray) (e:Int):Prop:=
 ∃d n z,DepthIs X r d∧VaIs X r l d n z∧((n≠0∧e=n∧B=⟨#[]⟩)∨(n=0∧((l.b<(cF X r).size∧e=19∧B=⟨#[]⟩)∨(¬l.b<(cF X r).size∧e=0∧B=cF X r))))
theorem va_uniq {X:List Nx} {r:Int} {l:Lm} {d:Nat} {e z e' z':Int} (h:VaIs X r l d e z) (h':VaIs X r l d e' z'):e'=e∧z'=z:=by
 rcases h with ⟨h1,rfl,rfl⟩|⟨h1,h2,rfl,rfl⟩|⟨h1,h2,n,y,hc,h3⟩
 ·rcases h' with ⟨_,rfl,rfl⟩|⟨q,_⟩|⟨q,_⟩
  ·exact ⟨rfl,rfl⟩
  ·rw [h1] at q;cases q
  ·rw [h1] at q;cases q
 ·rcases h' with ⟨q,_⟩|⟨_,_,rfl,rfl⟩|⟨_,q,_⟩
  ·rw [h1] at q;cases q
  ·exact ⟨rfl,rfl⟩
  ·exact absurd q h2
 ·rcases h' with ⟨q,_⟩|⟨_,q,_⟩|⟨_,_,n',y',hc',h3'⟩
  ·rw [h1] at q;cases q
  ·exact absurd h2 q
  ·obtain ⟨rfl,rfl⟩:=hc.uniq hc'
   rcases h3 with ⟨p,rfl,rfl⟩|⟨p,⟨p1,rfl,rfl⟩|⟨p1,rfl,rfl⟩⟩
   ·rcases h3' with ⟨_,rfl,rfl⟩|⟨q,_⟩
    ·exact ⟨rfl,rfl⟩
    ·exact absurd q p
   ·rcases h3' with ⟨q,_⟩|⟨_,⟨_,rfl,rfl⟩|⟨q,_⟩⟩
    ·exact absurd p q
    ·exact ⟨rfl,rfl⟩
    ·rw [p1] at q;cases q
   ·rcases h3' with ⟨q,_⟩|⟨_,⟨q,_⟩|⟨_,rfl,rfl⟩⟩
    ·exact absurd p q
    ·rw [p1] at q;cases q
    ·exact ⟨rfl,rfl⟩
theorem SvIs.uniq {X:List Nx} {r:Int} {l:Lm} {B B':ByteArray} {e e':Int} (h:SvIs X r l B e) (h':SvIs X r l B' e'):B'=B∧e'=e:=by
 obtain ⟨d,n,z,h1,h2,h3⟩:=h
 obtain ⟨d',n',z',g1,g2,g3⟩:=h'
 have hd:=h1.only g1
 subst hd
 obtain ⟨rfl,rfl⟩:=va_uniq h2 g2
 rcases h3 with ⟨a,rfl,rfl⟩|⟨a,⟨b,rfl,rfl⟩|⟨b,rfl,rfl⟩⟩
 ·rcases g3 with ⟨_,rfl,rfl⟩|⟨q,_⟩
  ·exact ⟨rfl,rfl⟩
  ·exact absurd q a
 ·rcases g3 with ⟨q,_⟩|⟨_,⟨_,rfl,rfl⟩|⟨q,_⟩⟩
  ·exact absurd a q
  ·exact ⟨rfl,rfl⟩
  ·exact absurd b q
 ·rcases g3 with ⟨q,_⟩|⟨_,⟨q,_⟩|⟨_,rfl,rfl⟩⟩
  ·exact absurd a q
  ·exact absurd q b
  ·exact ⟨rfl,rfl⟩
def ldK (b:ByteArray) (l:Lm):Int × ByteArray × ByteArray:=
 if okL l=false then (1,⟨#[]⟩,⟨#[]⟩) else if l.b<b.size then (19,⟨#[]⟩,⟨#[]⟩) else
 if (pGet mD.data.toList b.data.toList).1≠0 then ((pGet mD.data.toList b.data.toList).1,⟨#[]⟩,⟨#[]⟩) else
 if (pGet mD.data.toList b.data.toList).2.1≠2 then (7,⟨#[]⟩,⟨#[]⟩) else
 match (pGet mD.data.toList b.data.toList).2.2 with
 | [s,t]=>if s.1=1∧t.1=2 then (0,s.2,t.2) else (4,⟨#[]⟩,⟨#[]⟩)
 | _=>(4,⟨#[]⟩,⟨#[]⟩)
def LdIs (b:ByteArray) (l:Lm) (P:List Nd) (r e:Int):Prop:=
 ((ldK b l).1≠0∧e=(ldK b l).1∧P=[]∧r=0)∨((ldK b l).1=0∧GeIs (ldK b l).2.1 (ldK b l).2.2 l P r e)
theorem LdIs.uniq {b:ByteArray} {l:Lm} {P P':List Nd} {r r' e e':Int} (h:LdIs b l P r e) (h':LdIs b l P' r' e'):P'=P∧r'=r∧e'=e:=by
 rcases h with ⟨a,rfl,rfl,rfl⟩|⟨a,h⟩
 ·rcases h' with ⟨_,rfl,rfl,rfl⟩|⟨q,_⟩
  ·exact ⟨rfl,rfl,rfl⟩
  ·exact absurd q a
 ·rcases h' with ⟨q,_⟩|⟨_,h'⟩
  ·exact absurd a q
  ·exact h.uniq h'
section
variable (b:ByteArray) (l:Lm)
theorem ldK_1 (h:okL l=false):(ldK b l).1=1:=by unfold ldK;rw [if_pos h]
variable (h1:okL l=true)
theorem ldK_2 (h1:okL l=true) (h:l.b<(b.size:Int)):(ldK b l).1=19:=by unfold ldK;rw [if_neg (by simp [h1]),if_pos h]
theorem ldK_3 (h1:okL l=true) (h2:¬l.b<(b.size:Int)) (h:(pGet mD.data.toList b.data.toList).1≠0):(ldK b l).1=(pGet mD.data.toList b.data.toList).1:=by unfold ldK;rw [if_neg (by simp [h1]),if_neg h2,if_pos h]
theorem ldK_4 (h1:okL l=true) (h2:¬l.b<(b.size:Int)) (h3:(pGet mD.data.toList b.data.toList).1=0) (h:(pGet mD.data.toList b.data.toList).2.1≠2):(ldK b l).1=7:=by unfold ldK;rw [if_neg (by simp [h1]),if_neg h2,if_neg (by simp [h3]),if_pos h]
theorem ldK_5 (h1:okL l=true) (h2:¬l.b<(b.size:Int)) (h3:(pGet mD.data.toList b.data.toList).1=0) (h4:(pGet mD.data.toList b.data.toList).2.1=2) (h:¬∃s t,(pGet mD.data.toList b.data.toList).2.2=[s,t]∧s.1=1∧t.1=2):(ldK b l).1=4:=by
 unfold ldK
 rw [if_neg (by simp [h1]),if_neg h2,if_neg (by simp [h3]),if_neg (by simp [h4])]
 split
 ·rename_i s t hs
  rw [if_neg (fun q=>h ⟨s,t,hs,q⟩)]
 ·rfl
theorem ldK_6 (h1:okL l=true) (h2:¬l.b<(b.size:Int)) (h3:(pGet mD.data.toList b.data.toList).1=0) (h4:(pGet mD.data.toList b.data.toList).2.1=2) {A C:ByteArray} (h:(pGet mD.data.toList b.data.toList).2.2=[(1,A),(2,C)]):ldK b l=(0,A,C):=by
 unfold ldK
 rw [if_neg (by simp [h1]),if_neg h2,if_neg (by simp [h3]),if_neg (by simp [h4]),h]
 exact if_pos ⟨rfl,rfl⟩
end
theorem ldK_inv {b:ByteArray} {l:Lm} (h:(ldK b l).1=0):okL l=true∧¬l.b<(b.size:Int)∧pGet mD.data.toList b.data.toList=(0,2,secs2 (ldK b l).2.1 (ldK b l).2.2):=by
 cases h0:okL l with
 | false=>unfold ldK at h;rw [if_pos h0] at h;cases h
 | true=>
 obtain ⟨E,V,S,hG⟩:∃E V S,pGet mD.data.toList b.data.toList=(E,V,S):=⟨_,_,_,rfl⟩
 unfold ldK at h ⊢
 rw [if_neg (by simp [h0]),hG] at h ⊢
 dsimp only at h ⊢
 split at h
 ·cases h
 rename_i h1
 rw [if_neg h1]
 split at h
 ·rename_i q;exact absurd (by simpa using h) q
 rename_i h2
 rw [if_neg h2]
 split at h
 ·cases h
 rename_i h3
 rw [if_neg h3]
 simp only [ne_eq,Decidable.not_not] at h2 h3
 match S,h with
 | [s,t],h=>
  dsimp only at h ⊢
  split at h
  ·rename_i h4
   rw [if_pos h4]
   obtain ⟨s1,s2⟩:=s
   obtain ⟨t1,t2⟩:=t
   obtain ⟨rfl,rfl⟩:=h4
   exact ⟨rfl,h1,by rw [h2,h3];rfl⟩
  ·cases h
 | [],h=>cases h
 | [_],h=>cases h
 | _ :: _ :: _ :: _,h=>cases h
theorem file_of {b:ByteArray} {l:Lm} (h:(ldK b l).1=0):b.data.toList=(pPut mD 2 (secs2 (ldK b l).2.1 (ldK b l).2.2)).1∧(ldK b l).2.1.size≤b.size∧(ldK b l).2.2.size≤b.size:=by
 obtain ⟨_,_,h3⟩:=ldK_inv h
 have h4:=one_math mD b.data.toList (by rw [h3])
 rw [h3] at h4
 dsimp only at h4
 have h5:pPut mD 2 (secs2 (ldK b l).2.1 (ldK b l).2.2)=(b.data.toList,0):=h4
 have h6:=(pPut_sizes mD 2 (secs2 (ldK b l).2.1 (ldK b l).2.2) (by rw [h5])).2
 rw [h5] at h6
 dsimp only at h6
 rw [list_size] at h6
 exact ⟨by rw [h5],h6 (1,_) (by simp [secs2]),h6 (2,_) (by simp [secs2])⟩
end Go.Proofs.YtgoffkfpdigeeaaGreatDoor
namespace Go.Proofs.YtgoffkfpdigeeaaGreatDoor
open Go.RowKit Go.Maps Go.WideMaps Go.Sort
def LdOut (b:ByteArray) (l:Lm) (w w':World) (e:Ending):Prop:=∃(X:List Nx) (a:Option Addr) (c:Nat) (r k:Int),e=.returned (.tuple #[.agg #[.slice a X.length c,.int .i64 r],.int .i64 k])∧LdIs b l (X.map Nx.nd) r k∧(∀W,Fr (fun b=>b<w.heap.size) w' W→ScAt W a X)∧Small X∧FnX X∧Below w.heap.size w w'
theorem LdIs.bad {b:ByteArray} {l:Lm} {k:Int} (h:(ldK b l).1=k) (hk:k≠0):LdIs b l (([]:List Nx).map Nx.nd) 0 k:=.inl ⟨by rw [h];exact hk,h.symm,rfl,rfl⟩
structure Fx (w W:World) (l:Lm):Prop where
 a:AtN 26 W w.heap.size (liC l)
 r:AtN 24 W (w.heap.size+1) #[.slice none 0 0,.int .i64 0]
 n:AtN 24 W (w.heap.size+2) #[.slice none 0 0,.int .i64 0]
 bel:Below w.heap.size w W
theorem Fx.more {w W W':World} {l:Lm} (h:Fx w W l) (hb:Below W.heap.size W W'):Fx w W' l:=⟨h.a.belowAll hb,h.r.belowAll hb,h.n.belowAll hb,h.bel.trans (hb.mono h.bel.size)⟩
theorem ld_bad {b:ByteArray} {l:Lm} {w W:World} {k:Int} (hG:LdIs b l (([]:List Nx).map Nx.nd) 0 k) (hb:Below w.heap.size w W) {x0 x1:Value} (hr:AtN 24 W (w.heap.size+1) #[x0,x1]) :
  ∀W',W'=(W.setCell ⟨w.heap.size+1,0,none⟩ (.slice none 0 0)).setCell ⟨w.heap.size+1,1,none⟩ (.int .i64 0)→AtN 24 W' (w.heap.size+1) #[.slice none 0 0,.int .i64 0]∧LdOut b l w W' (.returned (.tuple #[.agg #[.slice none 0 0,.int .i64 0],.int .i64 k])):=by
 rintro _ rfl
 have hF:Fr (fun b=>b=w.heap.size+1) W ((W.setCell ⟨w.heap.size+1,0,none⟩ (.slice none 0 0)).setCell ⟨w.heap.size+1,1,none⟩ (.int .i64 0)):=((Fr.refl (fun b=>b=w.heap.size+1) W).set ⟨w.heap.size+1,0,none⟩ rfl _).set ⟨w.heap.size+1,1,none⟩ rfl _
 refine ⟨by simpa using (hr.set 0 (.slice none 0 0)).set 1 (.int .i64 0),[],none,0,0,k,rfl,hG,fun _ _=>⟨LsAt.nil _ _,fun i hi=>by simp at hi⟩,⟨by simp,fun i hi=>by simp at hi⟩,fun i hi=>by simp at hi,Fr.below hb hF (fun i e=>by omega) hb.size⟩
theorem ld_good {b:ByteArray} {l:Lm} {w W0 W:World} {c:Nat} {r k:Int} {a:Option Addr} {X:List Nx} (hG:LdIs b l (X.map Nx.nd) r k) (hb:Below w.heap.size w W) {x0 x1:Value} (hr:AtN 24 W (w.heap.size+1) #[x0,x1]) (hlt:w.heap.size+1<W0.heap.size) (hs0:∀W2,Fr (fun b=>b<W0.heap.size) W W2→ScAt W2 a X) (hs:Small X) (hf:FnX X) :
  ∀W',W'=(W.setCell ⟨w.heap.size+1,0,none⟩ (.slice a X.length c)).setCell ⟨w.heap.size+1,1,none⟩ (.int .i64 r)→AtN 24 W' (w.heap.size+1) #[.slice a X.length c,.int .i64 r]∧LdOut b l w W' (.returned (.tuple #[.agg #[.slice a X.length c,.int .i64 r],.int .i64 k])):=by
 rintro _ rfl
 have hF:Fr (fun b=>b=w.heap.size+1) W ((W.setCell ⟨w.heap.size+1,0,none⟩ (.slice a X.length c)).setCell ⟨w.heap.size+1,1,none⟩ (.int .i64 r)):=((Fr.refl (fun b=>b=w.heap.size+1) W).set ⟨w.heap.size+1,0,none⟩ rfl _).set ⟨w.heap.size+1,1,none⟩ rfl _
 exact ⟨by simpa using (hr.set 0 (.slice a X.length c)).set 1 (.int .i64 r),X,a,c,r,k,rfl,hG,fun W2 f=>hs0 W2 (((Fr.refl (fun b=>b<W0.heap.size) W).trans hF (fun i hi _=>by omega)).trans f (fun i hi _=>by omega)),hs,hf,Fr.below hb hF (fun i e=>by omega) hb.size⟩
end Go.Proofs.YtgoffkfpdigeeaaGreatDoor
