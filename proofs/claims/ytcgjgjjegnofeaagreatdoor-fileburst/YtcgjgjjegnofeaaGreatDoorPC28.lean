import Derived.Test.YtcgjgjjegnofeaaGreatDoorPC26
import Derived.Test.YtcgjgjjegnofeaaGreatDoorPC27
import Derived.Test.YtcgjgjjegnofeaaGreatDoorPC20
import Derived.Stop.Joined
import Derived.LaidMore
import Derived.SevenTiedAt
import Derived.Test.YtcgjgjjegnofeaaGreatDoorPC24
import Derived.Test.YtcgjgjjegnofeaaGreatDoorPC16
import Derived.Test.YtcgjgjjegnofeaaGreatDoorPC11
namespace Go.Proofs.YtcgjgjjegnofeaaGreatDoor
open Go.RowKit
theorem rTab_itn:∀(l:List Nd) (L:List ByteArray),rTab l L=(l.flatMap Nd.texts).foldl pIntern L
 | [],_=>rfl
 | N :: r,L=>by
  rw [List.flatMap_cons,List.foldl_append]
  exact rTab_itn r (itF L N.texts)
theorem rTab_all (X:List Nx):rTab (X.map Nx.nd) []=itn (allT X):=by
 rw [rTab_itn,List.flatMap_map]
 rfl
theorem sumK_edg (X:List Nx):sumK (X.map Nx.nd)=edg X:=by
 unfold sumK edg
 rw [List.map_map]
 rfl
theorem foldlT_nodup (T:List ByteArray):∀L:List ByteArray,L.Nodup→(T.foldl pIntern L).Nodup:=by
 induction T with
 | nil=>intro L h;exact h
 | cons x r ih=>
  intro L h
  rw [List.foldl_cons]
  exact ih _ (pIntern_nodup L x h)
theorem itn_nodup (T:List ByteArray):(itn T).Nodup:=foldlT_nodup T [] List.nodup_nil
theorem getD_map {X:List Nx} {i:Nat} (h:i<X.length):(X.map Nx.nd).getD i ⟨0,[],[],[]⟩=(X.getD i noNx).nd:=by
 rw [List.getD_eq_getElem?_getD,List.getD_eq_getElem?_getD,List.getElem?_map,List.getElem?_eq_getElem h]
 rfl
theorem put_inj {n m:Nat} {x y:List UInt8} (h:put n++x=put m++y) (hn:n≤16777216) (hm:m≤16777216):n=m∧x=y:=by
 have h1:=uint_put (b:=⟨(put n++x).toArray⟩) (k:=0) (r:=x) 16777216 (by simp) hn (by omega)
 have h2:=uint_put (b:=⟨(put n++x).toArray⟩) (k:=0) (r:=y) 16777216 (by rw [h];simp) hm (by omega)
 rw [h1] at h2
 injection h2 with h3 h4
 obtain rfl:n=m:=by omega
 exact ⟨rfl,List.append_cancel_left h⟩
theorem body6_inj:∀L M:List ByteArray,L.length=M.length→(∀s ∈ L,s.size≤16777216)→(∀s ∈ M,s.size≤16777216)→body6 L=body6 M→L=M
 | [],[],_,_,_,_=>rfl
 | [],t :: M,h,_,_,_=>by simp at h
 | s :: L,[],h,_,_,_=>by simp at h
 | s :: L,t :: M,h,hs,ht,hb=>by
  have e1:body6 (s :: L)=put s.size++(s.data.toList++body6 L):=by
   unfold body6
   rw [List.flatMap_cons,List.append_assoc]
  have e2:body6 (t :: M)=put t.size++(t.data.toList++body6 M):=by
   unfold body6
   rw [List.flatMap_cons,List.append_assoc]
  rw [e1,e2] at hb
  obtain ⟨h1,h2⟩:=put_inj hb (hs s (by simp)) (ht t (by simp))
  obtain ⟨h3,h4⟩:=List.append_inj h2 (by rw [list_size,list_size,h1])
  have h5:s=t:=by
   cases s
   cases t
   congr
   exact Array.toList_inj.1 h3
  rw [h5,body6_inj L M (by simpa using h) (fun s q=>hs s (by simp [q])) (fun s q=>ht s (by simp [q])) h4]
theorem pPut6_inj {L M:List ByteArray} (h:pPut6 L=pPut6 M) (h1:L.length≤16777216) (h2:M.length≤16777216) (hs:∀s ∈ L,s.size≤16777216) (ht:∀s ∈ M,s.size≤16777216):L=M:=by
 obtain ⟨h3,h4⟩:=put_inj h h1 h2
 exact body6_inj L M h3 hs ht h4
theorem pGet6_putB (L:List ByteArray) (b:ByteArray) (t m:Int) (hb:b.data.toList=pPut6 L) (hn:L.Nodup) (hr:∀s ∈ L,right5 s=true∧s.size≤16777216) (hl:L.length≤16777216) (ht:(L.length:Int)≤t) (hm:(sum6 L:Int)≤m):pGet6 b t m=(0,L):=by
 have hd:b.data.toList.drop (put L.length).length=body6 L++[]:=by
  rw [hb,List.append_nil]
  exact List.drop_left
 have hsz:b.size=(put L.length).length+(body6 L).length:=by
  rw [← list_size,hb]
  simp [pPut6]
 rw [pGet6_is,(pUint_put b _ L.length (body6 L) hb hl).2 (by omega)]
 dsimp only
 rw [if_neg (by simp),show ((L.length:Int)).toNat=L.length from rfl,show max m 0=m by omega,(gets6_put b _ L _ [] [] (by omega) hd (by simpa using hn) hr (by simp [sum6];omega)).1 (by simpa using hm)]
 unfold after6
 rw [if_neg (by simp),if_neg (by dsimp only;omega)]
 simp
theorem pGet6_less (L:List ByteArray) (b:ByteArray) (t:Int) (hb:b.data.toList=pPut6 L) (hn:L.Nodup) (hr:∀s ∈ L,right5 s=true∧s.size≤16777216) (hl:L.length≤16777216) (ht:(L.length:Int)≤t) (h0:sum6 L≠0):(pGet6 b t ((sum6 L:Int)-1)).1=19:=by
 have hd:b.data.toList.drop (put L.length).length=body6 L++[]:=by
  rw [hb,List.append_nil]
  exact List.drop_left
 have hsz:b.size=(put L.length).length+(body6 L).length:=by
  rw [← list_size,hb]
  simp [pPut6]
 rw [pGet6_is,(pUint_put b _ L.length (body6 L) hb hl).2 (by omega)]
 dsimp only
 have h19:=(gets6_put b ((sum6 L:Int)-1) L _ [] [] (by omega) hd (by simpa using hn) hr (by simp [sum6] at h0 ⊢;omega)).2 (by simp;omega)
 rw [if_neg (by simp),show ((L.length:Int)).toNat=L.length from rfl,show max ((sum6 L:Int)-1) 0=(sum6 L:Int)-1 by omega]
 unfold after6
 rw [h19,if_pos (by decide)]
theorem geK_inv {tx nb:ByteArray} {l:Lm} (h:(geK tx nb l).1=0):∃(n:Int) (k k':Nat) (P:List Nd) (L:List ByteArray),okL l=true∧pGet6 tx 16777216 l.x=(0,L)∧pUint nb 0 0 l.n=(n,k,0)∧n≠0∧gNs nb L n.toNat 0 k l.e=(P,k',0)∧¬k'<nb.size∧geK tx nb l=(0,P,L):=by
 cases h0:okL l with
 | false=>unfold geK at h;rw [if_pos h0] at h;cases h
 | true=>
 obtain ⟨te,L,hT⟩:∃te L,pGet6 tx 16777216 l.x=(te,L):=⟨_,_,rfl⟩
 obtain ⟨n,k,ne,hU⟩:∃n k ne,pUint nb 0 0 l.n=(n,k,ne):=⟨_,_,_,rfl⟩
 obtain ⟨P,k',e,hS⟩:∃P k' e,gNs nb L n.toNat 0 k l.e=(P,k',e):=⟨_,_,_,rfl⟩
 unfold geK at h ⊢
 rw [if_neg (by simp [h0]),hT,hU] at h ⊢
 dsimp only at h ⊢
 rw [hS] at h ⊢
 dsimp only at h ⊢
 split at h
 ·rename_i q;exact absurd h q
 rename_i q1
 split at h
 ·rename_i q;exact absurd h q
 rename_i q2
 split at h
 ·cases h
 rename_i q3
 split at h
 ·rename_i q;exact absurd h q
 rename_i q4
 split at h
 ·cases h
 rename_i q5
 simp only [ne_eq,Decidable.not_not] at q1 q2 q4
 subst q1 q2 q4
 exact ⟨n,k,k',P,L,rfl,rfl,rfl,q3,hS,q5,by rw [if_neg (by simp),if_neg (by simp),if_neg q3,if_neg (by simp),if_neg q5]⟩
theorem tyE_of {X:List Nx} (h:∀i,i<X.length→tyN (X.getD i noNx).nd=0):tyE X=0:=by
 have key:∀(X:List Nx) (k:Nat),(∀i,i<X.length→tyN (X.getD i noNx).nd=0)→(tyG X k).1=0:=by
  intro X
  induction X with
  | nil=>intro k _;rfl
  | cons x r ih=>
   intro k h
   unfold tyG
   rw [if_pos (by simpa using h 0 (by simp))]
   exact ih (k+1) (fun i hi=>by simpa using h (i+1) (by simpa using hi))
 exact key X 0 h
theorem right_ok8 {s:ByteArray} (h:ok8 s=true):right5 s=true:=by
 cases hr:right5 s with
 | true=>rfl
 | false=>
  have h1:=(pFirst_right s).2 hr
  unfold ok8 at h
  simp at h
  omega
theorem tyN_ok8 {N:Nd} (h:tyN N=0):∀s ∈ N.texts,ok8 s=true:=by
 unfold tyN at h
 split at h
 ·cases h
 ·unfold chkN at h
  split at h
  ·cases h
  ·split at h
   ·cases h
   ·rename_i h2 h3
    have h4:fitT N.texts (newSp N.kind).texts=true:=by simpa using h3
    unfold fitT at h4
    rw [Bool.and_eq_true,List.all_eq_true] at h4
    exact h4.2
theorem check_right {X:List Nx} {r:Int} (h:RightIs X r):CheckIs X r 0 0:=.inr (.inr ⟨h.1,h.2.1,.inr ⟨h.2.2.1,.inr ⟨rfl,rfl,h.2.2.2⟩⟩⟩)
structure Bk (X:List Nx) (r:Int) (A C:ByteArray):Prop where
 sm:Small X
 few:X.length≤60
 fn:FnX X
 ty:tyE X=0
 can:IsCan X r
 root:r=(X.length:Int)-1
 a:A.data.toList=pPut6 (itn (allT X))
 c:C.data.toList=put X.length++rAllN 0 (X.map Nx.nd) []
section
variable {X:List Nx} {r:Int} {A C:ByteArray} {d:Nat} {l:Lm}
theorem Bk.pos (h:Bk X r A C):0<X.length:=by
 have h1:=h.can.1.1
 unfold isPb at h1
 have:=of_decide_eq_true h1
 omega
theorem Bk.tab (h:Bk X r A C):(itn (allT X)).Nodup∧(∀s ∈ itn (allT X),right5 s=true∧s.size≤16777216)∧(itn (allT X)).length≤120∧sum6 (itn (allT X))≤16777216:=by
 have hT:∀s ∈ allT X,ok8 s=true∧s.size≤3000:=fun s hs=>by
  unfold allT at hs
  obtain ⟨x,hx,hs⟩:=List.mem_flatMap.1 hs
  obtain ⟨i,hi,rfl⟩:=List.getElem_of_mem hx
  have e:X[i]=X.getD i noNx:=by rw [List.getD_eq_getElem?_getD,List.getElem?_eq_getElem hi];rfl
  rw [e] at hs
  exact ⟨tyN_ok8 (tyE_all h.ty i hi) s hs,(big_no (h.sm.2 i hi)).2.2.2 s hs⟩
 have hl:(allT X).length≤120:=by
  have key:∀i,i≤X.length→(allT (X.take i)).length≤2*i:=by
   intro i
   induction i with
   | zero=>intro _;simp [allT]
   | succ i ih=>
    intro hi
    rw [allT_take X i (by omega),List.length_append]
    have:=tyN_texts (tyE_all h.ty i (by omega))
    have:=ih (by omega)
    omega
  have h1:=key X.length (Nat.le_refl _)
  rw [List.take_of_length_le (Nat.le_refl _)] at h1
  have:=h.few
  omega
 have h2:=itn_len (allT X)
 have h3:∀(T:List ByteArray),(∀s ∈ T,s.size≤3000)→sum6 T≤3000*T.length:=by
  intro T
  induction T with
  | nil=>intro _;simp [sum6]
  | cons x t ih=>
   intro q
   have h1:=q x (by simp)
   have h2:=ih (fun s hs=>q s (by simp [hs]))
   have h0:sum6 (x :: t)=x.size+sum6 t:=by simp [sum6]
   rw [h0,List.length_cons]
   omega
 have h4:=h3 (itn (allT X)) (fun s hs=>(hT s ((itn_mem _ _).1 hs)).2)
 refine ⟨itn_nodup _,fun s hs=>⟨right_ok8 (hT s ((itn_mem _ _).1 hs)).1,by have:=(hT s ((itn_mem _ _).1 hs)).2;omega⟩,by omega,by omega⟩
theorem Bk.edg (h:Bk X r A C):edg X≤180000:=by
 have key:∀i,i≤X.length→Go.Proofs.YtcgjgjjegnofeaaGreatDoor.edg (X.take i)≤3000*i:=by
  intro i
  induction i with
  | zero=>intro _;simp [Go.Proofs.YtcgjgjjegnofeaaGreatDoor.edg]
  | succ i ih=>
   intro hi
   rw [edg_take X i (by omega)]
   have:=(big_no (h.sm.2 i (by omega))).2.2.1
   have:=ih (by omega)
   omega
 have h1:=key X.length (Nat.le_refl _)
 rw [List.take_of_length_le (Nat.le_refl _)] at h1
 have:=h.few
 omega
theorem Bk.drop (h:Bk X r A C):C.data.toList.drop (put X.length).length=rAllN 0 (X.map Nx.nd) []++[]:=by
 rw [h.c,List.append_nil]
 exact List.drop_left
theorem Bk.recs (h:Bk X r A C):(∀j,j<(X.map Nx.nd).length→rE ((X.map Nx.nd).getD j ⟨0,[],[],[]⟩) ((0+j:Nat):Int)=0)∧∀N ∈ X.map Nx.nd,fine N.ints:=by
 refine ⟨fun j hj=>?_,fun N hN=>?_⟩
 ·rw [List.length_map] at hj
  rw [getD_map hj,Nat.zero_add]
  exact can_rE h.can h.ty hj
 ·obtain ⟨x,hx,rfl⟩:=List.mem_map.1 hN
  obtain ⟨i,hi,rfl⟩:=List.getElem_of_mem hx
  have:=h.fn i hi
  rwa [List.getD_eq_getElem?_getD,List.getElem?_eq_getElem hi] at this
theorem Bk.sz (h:Bk X r A C):C.size=(put X.length).length+(rAllN 0 (X.map Nx.nd) []).length:=by
 rw [← list_size,h.c,List.length_append]
theorem Bk.ks (h:Bk X r A C) (ho:okL l=true) (hx:(sum6 (itn (allT X)):Int)≤l.x) (hn:(X.length:Int)≤l.n) (he:(Go.Proofs.YtcgjgjjegnofeaaGreatDoor.edg X:Int)≤l.e):geK A C l=(0,X.map Nx.nd,itn (allT X)):=by
 obtain ⟨t1,t2,t3,t4⟩:=h.tab
 have hp:=h.pos
 have hf:=h.few
 have hed:=h.edg
 have g1:=pGet6_putB (itn (allT X)) A 16777216 l.x h.a t1 t2 (by omega) (by omega) hx
 have g2:=(pUint_put C l.n X.length _ h.c (by omega)).2 (by omega)
 have g3:=gNs_put C (X.map Nx.nd) 0 [] (put X.length).length l.e [] h.drop h.recs.1 h.recs.2 (by rw [List.length_map];omega) (by rw [rTab_all];omega) (by rw [sumK_edg];exact he) (by rw [sumK_edg];omega)
 rw [rTab_all,List.length_map] at g3
 exact geK_7 A C l ho g1 g2 (by omega) (by rw [Int.toNat_natCast];exact g3) (by rw [h.sz];omega)
theorem Bk.got (h:Bk X r A C) (ho:okL l=true) (hx:(sum6 (itn (allT X)):Int)≤l.x) (hn:(X.length:Int)≤l.n) (he:(Go.Proofs.YtcgjgjjegnofeaaGreatDoor.edg X:Int)≤l.e) (hd:DepthIs X r d) (hl:(d:Int)≤l.d):GeIs A C l (X.map Nx.nd) r 0:=by
 have hk:=h.ks ho hx hn he
 have hc:=check_right h.can.1
 exact (GeIs.of hk h.root ⟨0,0,d,hc,hd,.inr ⟨rfl,.inr ⟨by omega,.inr ⟨h.can,.inr ⟨rfl,rfl⟩⟩⟩⟩⟩).2 rfl
theorem Bk.deep (h:Bk X r A C) (ho:okL l=true) (hx:(sum6 (itn (allT X)):Int)≤l.x) (hn:(X.length:Int)≤l.n) (he:(Go.Proofs.YtcgjgjjegnofeaaGreatDoor.edg X:Int)≤l.e) (hd:DepthIs X r d) (hl:l.d<(d:Int)):GeIs A C l (([]:List Nx).map Nx.nd) 0 19:=by
 have hk:=h.ks ho hx hn he
 have hc:=check_right h.can.1
 exact (GeIs.of hk h.root ⟨0,0,d,hc,hd,.inr ⟨rfl,.inl ⟨hl,rfl⟩⟩⟩).1 (by decide)
theorem Bk.nodes (h:Bk X r A C) (ho:okL l=true) (hx:(sum6 (itn (allT X)):Int)≤l.x) (hn:l.n<(X.length:Int)):GeIs A C l (([]:List Nx).map Nx.nd) 0 19:=by
 obtain ⟨t1,t2,t3,t4⟩:=h.tab
 have hf:=h.few
 have g1:=pGet6_putB (itn (allT X)) A 16777216 l.x h.a t1 t2 (by omega) (by omega) hx
 have g2:=(pUint_put C l.n X.length _ h.c (by omega)).1 hn
 refine GeIs.bad ?_ (by decide)
 exact (geK_3 A C l ho g1 (n:=(pUint C 0 0 l.n).1) (k:=(pUint C 0 0 l.n).2.1) (e:=(pUint C 0 0 l.n).2.2) rfl (by rw [g2];decide)).trans g2
theorem Bk.ways (h:Bk X r A C) (ho:okL l=true) (hx:(sum6 (itn (allT X)):Int)≤l.x) (hn:(X.length:Int)≤l.n) (he:l.e<(Go.Proofs.YtcgjgjjegnofeaaGreatDoor.edg X:Int)):GeIs A C l (([]:List Nx).map Nx.nd) 0 19:=by
 obtain ⟨t1,t2,t3,t4⟩:=h.tab
 have hp:=h.pos
 have hf:=h.few
 have hed:=h.edg
 have g1:=pGet6_putB (itn (allT X)) A 16777216 l.x h.a t1 t2 (by omega) (by omega) hx
 have g2:=(pUint_put C l.n X.length _ h.c (by omega)).2 (by omega)
 have g3:=gNs_limit C (X.map Nx.nd) 0 [] (put X.length).length l.e [] h.drop h.recs.1 h.recs.2 (by rw [List.length_map];omega) (by rw [rTab_all];omega) (by rw [sumK_edg];exact he) (okL_in ho).2.2.1.1 (by rw [sumK_edg];omega)
 rw [rTab_all,List.length_map] at g3
 refine GeIs.bad ?_ (by decide)
 obtain ⟨P,k',e,hS⟩:∃P k' e,gNs C (itn (allT X)) X.length 0 (put X.length).length l.e=(P,k',e):=⟨_,_,_,rfl⟩
 rw [hS] at g3
 exact (geK_5 A C l ho g1 g2 (by omega) (by rw [Int.toNat_natCast];exact hS) (by rw [g3];decide)).trans g3
theorem Bk.texts (h:Bk X r A C) (ho:okL l=true) (hs:sum6 (itn (allT X))≠0) (hx:l.x=(sum6 (itn (allT X)):Int)-1):GeIs A C l (([]:List Nx).map Nx.nd) 0 19:=by
 obtain ⟨t1,t2,t3,t4⟩:=h.tab
 have g1:=pGet6_less (itn (allT X)) A 16777216 h.a t1 t2 (by omega) (by omega) hs
 rw [← hx] at g1
 refine GeIs.bad ?_ (by decide)
 obtain ⟨te,L,hT⟩:∃te L,pGet6 A 16777216 l.x=(te,L):=⟨_,_,rfl⟩
 rw [hT] at g1
 dsimp only at g1
 exact (geK_2 A C l ho hT (by rw [g1];decide)).trans g1
end
def Qn (nb:ByteArray) (L:List ByteArray) (l:Lm):Prop:=
 ∀P k' e',gNs nb L (pUint nb 0 0 l.n).1.toNat 0 (pUint nb 0 0 l.n).2.1 l.e=(P,k',e')→P.length≤1401∧∀N ∈ P,big N=false∧fine N.ints
theorem gNs_pre3 (b:ByteArray) (L:List ByteArray) (hn:L.Nodup) (hr:∀s ∈ L,ok8 s=true) (M:Nat) (hM:M≤3000) (hb:b.size≤M) (hs:sum6 L≤M):∀(n i k:Nat) (ed:Int) (l:List Nd) (k':Nat) (e':Int),gNs b L n i k ed=(l,k',e')→(i:Int)+n≤9223372036854775807→k≤b.size→
  k+3*l.length≤b.size∧∀N ∈ l,big N=false∧fine N.ints:=by
 intro n
 induction n with
 | zero=>
  intro i k ed l k' e' h _ hk
  simp only [gNs,Prod.mk.injEq] at h
  obtain ⟨rfl,rfl,_⟩:=h
  exact ⟨by simpa using hk,fun N q=>by simp at q⟩
 | succ n ih=>
  intro i k ed l k' e' h hi hk
  unfold gNs at h
  split at h
  ·simp only [Prod.mk.injEq] at h
   obtain ⟨rfl,_,_⟩:=h
   exact ⟨by simpa using hk,fun N q=>by simp at q⟩
  ·rename_i he
   have he:(gNd b i L ed k 0).2.2=0:=by simpa using he
   obtain ⟨N,k1,e1,hR⟩:∃N k1 e1,gNd b i L ed k 0=(N,k1,e1):=⟨_,_,_,rfl⟩
   rw [hR] at h he
   dsimp only at h he
   subst he
   obtain ⟨l2,k2,e2,hS⟩:∃l2 k2 e2,gNs b L n (i+1) k1 (ed-N.kids.length)=(l2,k2,e2):=⟨_,_,_,rfl⟩
   rw [hS] at h
   simp only [Prod.mk.injEq] at h
   obtain ⟨rfl,rfl,rfl⟩:=h
   obtain ⟨a1,_,a3,a4⟩:=gNd_three hR (by omega) hn hr
   have hk1:k1≤b.size:=by have:=gNd_le b i L ed k 0 hk;rw [hR] at this;exact this
   obtain ⟨b1,b2⟩:=ih (i+1) k1 _ l2 k2 e2 hS (by omega) hk1
   refine ⟨by simp only [List.length_cons];omega,fun N' q=>?_⟩
   rcases List.mem_cons.1 q with rfl|q
   ·exact ⟨a3 M hM hb hs,a4⟩
   ·exact b2 N' q
theorem qn_small {tx nb:ByteArray} {l:Lm} {L:List ByteArray} (h:pGet6 tx 16777216 l.x=(0,L)) (hz:tx.size≤3000) (hy:nb.size≤3000):Qn nb L l:=fun P k' e' hS=>by
 have h1:=pGet6_ok tx 16777216 l.x (by rw [h])
 have h2:=pGet6_ok8 tx 16777216 l.x (by rw [h])
 rw [h] at h1 h2
 dsimp only at h1 h2
 have hut:=pUint_top nb 0 0 l.n
 have h3:=gNs_pre3 nb L h1.2.1 h2 3000 (Nat.le_refl _) (by omega) (by omega) _ 0 _ _ P k' e' hS (by have:=hut.2.1;omega) (pUint_at nb 0 0 l.n (Nat.zero_le _)).2
 exact ⟨by omega,h3.2⟩
theorem gNs_pre (b:ByteArray):∀(l:List Nd) (i:Nat) (L:List ByteArray) (k:Nat) (ed:Int) (x:List UInt8),b.data.toList.drop k=rAllN i l L++x→(∀j,j<l.length→rE (l.getD j ⟨0,[],[],[]⟩) ((i+j:Nat):Int)=0)→(∀N ∈ l,fine N.ints)→
  i+l.length≤16777216→(rTab l L).length≤16777216→0≤ed→sumK l≤16777216→∀P k' e',gNs b (rTab l L) l.length i k ed=(P,k',e')→P.length≤l.length∧∀N ∈ P,N ∈ l
 | [],i,L,k,ed,x,_,_,_,_,_,_,_,P,k',e',h=>by
  simp only [List.length_nil,gNs,Prod.mk.injEq] at h
  obtain ⟨rfl,_,_⟩:=h
  exact ⟨Nat.le_refl _,fun N q=>by simp at q⟩
 | N :: r,i,L,k,ed,x,h,hE,hf,hi,hM,h0,hs2,P,k',e',hP=>by
  rw [sumK_cons] at hs2
  rw [List.length_cons] at hi
  have h':b.data.toList.drop k=rB N i L++(rAllN (i+1) r (itF L N.texts)++x):=by rw [h,← List.append_assoc];rfl
  have hx:∀s ∈ N.texts,idx6 s (rTab (N :: r) L)=idx6 s (itF L N.texts)∧idx6 s (rTab (N :: r) L)<(rTab (N :: r) L).length:=fun s q=>by
   have:=rTab_keep r (itF L N.texts) s (itF_sub _ _ _ (.inr q))
   exact ⟨this.1,(idx6_mem _ _).2 this.2⟩
  rw [List.length_cons] at hP
  unfold gNs at hP
  by_cases hk:(N.kids.length:Int)≤ed
  ·have h1:=gNd_put b N i ed L (rTab (N :: r) L) k _ h' (by have:=hE 0 (by simp);simpa using this) (hf N (by simp)) (by omega) hM hx (by omega) hk
   rw [h1] at hP
   dsimp only at hP
   rw [if_neg (by decide)] at hP
   obtain ⟨P2,k2,e2,hS⟩:∃P2 k2 e2,gNs b (rTab (N :: r) L) r.length (i+1) (k+(rB N i L).length) (ed-N.kids.length)=(P2,k2,e2):=⟨_,_,_,rfl⟩
   rw [hS] at hP
   simp only [Prod.mk.injEq] at hP
   obtain ⟨rfl,_,_⟩:=hP
   have h2:=gNs_pre b r (i+1) (itF L N.texts) (k+(rB N i L).length) (ed-N.kids.length) x (drop_more h' rfl) (fun j hj=>by
    have:=hE (j+1) (by simp;omega)
    rw [show i+(j+1)=i+1+j by omega] at this
    simpa using this) (fun M q=>hf M (by simp [q])) (by omega) hM (by omega) (by omega) P2 k2 e2 hS
   refine ⟨by simp only [List.length_cons];omega,fun M q=>?_⟩
   rcases List.mem_cons.1 q with rfl|q
   ·simp
   ·exact List.mem_cons_of_mem _ (h2.2 M q)
  ·have h1:=gNd_over b N i ed L (rTab (N :: r) L) k _ h' (by have:=hE 0 (by simp);simpa using this) (hf N (by simp)) hM hx (by omega) (by omega) (by omega)
   rw [if_pos (by rw [h1];decide)] at hP
   simp only [Prod.mk.injEq] at hP
   obtain ⟨rfl,_,_⟩:=hP
   exact ⟨Nat.zero_le _,fun M q=>by simp at q⟩
theorem Bk.qn {X:List Nx} {r:Int} {A C:ByteArray} {l:Lm} (h:Bk X r A C) (he:0≤l.e):Qn C (itn (allT X)) l:=fun P k' e' hS=>by
 obtain ⟨t1,t2,t3,t4⟩:=h.tab
 have hf:=h.few
 have hed:=h.edg
 by_cases hn:(X.length:Int)≤l.n
 ·have g2:=(pUint_put C l.n X.length _ h.c (by omega)).2 (by omega)
  rw [g2] at hS
  dsimp only at hS
  rw [Int.toNat_natCast,← rTab_all] at hS
  have hl:(X.map Nx.nd).length=X.length:=List.length_map _
  rw [← hl] at hS
  have h1:=gNs_pre C (X.map Nx.nd) 0 [] (put (X.map Nx.nd).length).length l.e [] (by rw [hl];exact h.drop) h.recs.1 h.recs.2 (by omega) (by rw [rTab_all];omega) he (by rw [sumK_edg];omega) P k' e' hS
  refine ⟨by omega,fun N q=>?_⟩
  obtain ⟨x,hx,rfl⟩:=List.mem_map.1 (h1.2 N q)
  obtain ⟨i,hi,rfl⟩:=List.getElem_of_mem hx
  have e:X[i]=X.getD i noNx:=by rw [List.getD_eq_getElem?_getD,List.getElem?_eq_getElem hi];rfl
  rw [e]
  exact ⟨h.sm.2 i hi,h.fn i hi⟩
 ·have g2:=(pUint_put C l.n X.length _ h.c (by omega)).1 (by omega)
  have g3:=(pUint_val C 0 l.n).2.2 (by rw [g2];decide)
  rw [g3] at hS
  simp only [Int.toNat_zero,gNs,Prod.mk.injEq] at hS
  obtain ⟨rfl,_,_⟩:=hS
  exact ⟨by simp,fun N q=>by simp at q⟩
def CkIs (X:List Nx) (r dp k:Int):Prop:=∃n y d,CheckIs X r n y∧DepthIs X r d∧((n≠0∧k=n)∨(n=0∧((dp<(d:Int)∧k=19)∨(¬dp<(d:Int)∧((¬IsCan X r∧k=16)∨(IsCan X r∧k=0))))))
theorem CkIs.bad {X:List Nx} {r k:Int} {l:Lm} {L:List ByteArray} (h:CkIs X r l.d k) (hk:k≠0):GeS X r L l k:=by
 obtain ⟨n,y,d,h1,h2,h3⟩:=h
 refine ⟨n,y,d,h1,h2,?_⟩
 rcases h3 with h3|⟨h3,h4|⟨h4,h5|⟨h5,h6⟩⟩⟩
 ·exact .inl h3
 ·exact .inr ⟨h3,.inl h4⟩
 ·exact .inr ⟨h3,.inr ⟨h4,.inl h5⟩⟩
 ·exact absurd h6 hk
theorem CkIs.good {X:List Nx} {r:Int} {l:Lm} {L:List ByteArray} (h:CkIs X r l.d 0) (q:Int) (hq:(itn (allT X)≠L∧q=18)∨(itn (allT X)=L∧q=0)):GeS X r L l q:=by
 obtain ⟨n,y,d,h1,h2,h3⟩:=h
 refine ⟨n,y,d,h1,h2,?_⟩
 rcases h3 with ⟨h3,h4⟩|⟨h3,⟨_,h4⟩|⟨h4,⟨_,h5⟩|⟨h5,_⟩⟩⟩
 ·exact absurd h4.symm h3
 ·cases h4
 ·cases h5
 ·exact .inr ⟨h3,.inr ⟨h4,.inr ⟨h5,hq⟩⟩⟩
theorem PuIs.uniq {X:List Nx} {r e e':Int} {A C A' C':ByteArray} (h:PuIs X r A C e) (h':PuIs X r A' C' e'):A'=A∧C'=C∧e'=e:=by
 have key:∀{s t:ByteArray},s.data.toList=t.data.toList→s=t:=fun {s t} q=>by
  cases s;cases t;congr;exact Array.toList_inj.1 q
 rcases h with ⟨h1,rfl,rfl,rfl⟩|⟨h1,n,y,h2,h3⟩
 ·rcases h' with ⟨_,rfl,rfl,rfl⟩|⟨g1,_⟩
  ·exact ⟨rfl,rfl,rfl⟩
  ·exact absurd g1 h1
 ·rcases h' with ⟨g1,_⟩|⟨_,n',y',g2,g3⟩
  ·exact absurd h1 g1
  ·obtain ⟨rfl,rfl⟩:=h2.uniq g2
   rcases h3 with ⟨a,rfl,rfl,rfl⟩|⟨a,⟨b,rfl,rfl,rfl⟩|⟨b,rfl,hA,hC⟩⟩
   ·rcases g3 with ⟨_,rfl,rfl,rfl⟩|⟨a',_⟩
    ·exact ⟨rfl,rfl,rfl⟩
    ·exact absurd a' a
   ·rcases g3 with ⟨a',_⟩|⟨_,⟨_,rfl,rfl,rfl⟩|⟨b',_⟩⟩
    ·exact absurd a a'
    ·exact ⟨rfl,rfl,rfl⟩
    ·exact absurd b' b
   ·rcases g3 with ⟨a',_⟩|⟨_,⟨b',_⟩|⟨_,rfl,hA',hC'⟩⟩
    ·exact absurd a a'
    ·exact absurd b b'
    ·exact ⟨key (hA'.trans hA.symm),key (hC'.trans hC.symm),rfl⟩
end Go.Proofs.YtcgjgjjegnofeaaGreatDoor
namespace Go.Proofs.YtcgjgjjegnofeaaGreatDoor
open Go.ChangeShapes Go.WideShapes Go.ChangeAt Go.RowKit Go.Joins Go.Deep
def laid2:List (String × DataW Unit):=Rows.fileSavesRow.laid
theorem tK:(Tryz.prog.globals[0]?).map (·.type)=some 219:=by kernel_rfl
theorem tS:(Tryz.prog.globals[1]?).map (·.type)=some 242:=by kernel_rfl
theorem tabs_of {W:World} (h:laidMetH Tryz.prog laid2 W):Tabs12 W:=by
 rw [MakeChecks.laidMetH_plain _ _ _ (by kernel_rfl)] at h
 obtain ⟨ps,⟨g0,t0,cs0,f0,p0,q0,hg0,ht0,hv0,hd0,⟨g1,t1,cs1,f1,p1,q1,hg1,ht1,hv1,hd1,_,_⟩,_⟩,_,_⟩:=h
 exact ⟨tab_of (n:=8) (by kernel_rfl) tK (by kernel_rfl) hg0 ht0 hv0 hd0,tab_of (n:=8) (by kernel_rfl) tS (by kernel_rfl) hg1 ht1 hv1 hd1⟩
theorem door_met (os:Os) (args:Array Value):laidMetH Tryz.prog laid2 ((World.doorLaid Tryz.prog 400 os).forCall (fun _ _=>0) ⟨#[],args,[]⟩).memory:=
 laidMetH_of_parts3 (fuel:=8) (laidMet_of_run' 8 (by kernel_rfl) (by kernel_rfl)) (by kernel_rfl) (by kernel_rfl)
section
variable {H:Type} {enc:TypeId × Value→H} {P:Program} {w:World}
end
theorem IsSc.fn {w:World} {a:Option Addr} {X:List Nx} {r:Int} (h:IsSc w a X r):FnX X:=fun i hi j hj=>by
 have h1:=(h.rg i hi).ints
 generalize (X.getD i noNx).nd.ints=T at *
 exact h1 _ (by rw [List.getD_eq_getElem?_getD,List.getElem?_eq_getElem hj];exact List.getElem_mem hj)
def Whole (X:List Nx) (r:Int):Prop:=tyE X=0∧RightIs X r
def WhOut (X:List Nx) (r:Int) (w w':World) (e:Ending):Prop:=∃b,e=.returned (.bool b)∧(b=true↔Whole X r)∧Below w.heap.size w w'
set_option maxRecDepth 10000 in
set_option maxHeartbeats 1000000 in
theorem rwhole_any (X:List Nx) (a:Option Addr) (c:Nat) (r:Int) (w:World) (h:ScAt w a X) (hX:Small X) (hF:FnX X) :
  Calls Tryz.prog 23 #[.agg #[.slice a X.length c,.int .i64 r],.int .i64 2] w fun e w'=>WhOut X r w w' e:=by
 have HA0:Hid (AtN 24 (w.alloc (.cells #[.slice a X.length c,.int .i64 r] 24)) w.heap.size #[.slice a X.length c,.int .i64 r]):=AtN.new w 24 _
 have HB0:Hid (Below w.heap.size w (w.alloc (.cells #[.slice a X.length c,.int .i64 r] 24))):=(Below.refl _ _).alloc (Nat.le_refl _) _
 have HTy:Hid (∀W,Below w.heap.size w W→Calls Tryz.prog 50 #[.agg #[.slice a X.length c,.int .i64 r],.int .i64 2] W fun e w'=>e=.returned (.tuple #[.int .i64 (tyE X),.int .i64 (tyZ X)])∧Below W.heap.size W w'):=fun W hW=>rtyped_any X a c r W (h.belowB hW) hX hF
 have HRt:Hid (∀W,Below w.heap.size w W→Calls Tryz.prog 20 #[.agg #[.slice a X.length c,.int .i64 r]] W fun e w'=>RightOut X r W w' e):=fun W hW=>right_any X a c r W (h.belowB hW) hX
 have HV:Hid (Whole X r↔(tyE X=0∧RightIs X r)):=Iff.rfl
 obtain ⟨te,hte⟩:∃te,tyE X=te:=⟨_,rfl⟩
 rw [hte] at HTy HV
 generalize tyZ X=tz at *
 clear h hX hF hte
 go_enter Tryz.func23,Tryz.ntmps23
 go_wp2_with fail
 refine Calls.mono (HTy.out _ HB0.out) ?_
 rintro e w1 ⟨rfl,hb1⟩
 have HA1:Hid (AtN 24 w1 w.heap.size #[.slice a X.length c,.int .i64 r]):=AtN.belowAll HA0.out hb1
 have HB1:Hid (Below w.heap.size w w1):=HB0.out.trans (hb1.mono HB0.out.size)
 clear HA0 HB0 HTy hb1
 by_cases ht:te=0
 ·have HV1:Hid (Whole X r↔RightIs X r):=⟨fun q=>(HV.out.1 q).2,fun q=>HV.out.2 ⟨ht,q⟩⟩
  clear HV
  subst ht
  have x0:w1.cell? ⟨w.heap.size,0,none⟩=some (.slice a X.length c):=HA1.out.cell 0
  have x1:w1.cell? ⟨w.heap.size,1,none⟩=some (.int .i64 r):=HA1.out.cell 1
  go_wp2_with fail
  refine Calls.mono (HRt.out _ HB1.out) ?_
  rintro e w2 ⟨b,rfl,hb,hb2⟩
  have HB2:Hid (Below w.heap.size w w2):=HB1.out.trans (hb2.mono HB1.out.size)
  have HBb:Hid (b=true↔RightIs X r):=hb
  clear HA1 HB1 HRt hb2 hb x0 x1
  go_wp2_with fail
  go_ret
  exact ⟨_,rfl,HBb.out.trans HV1.out.symm,HB2.out⟩
 ·have ht':(te==0)=false:=by simpa using ht
  have HV1:Hid (¬Whole X r):=fun q=>absurd (HV.out.1 q).1 ht
  clear HV
  go_wp2_with fail
  go_ret
  exact ⟨false,rfl,⟨(fun q=>by cases q),fun q=>absurd q HV1.out⟩,HB1.out⟩
end Go.Proofs.YtcgjgjjegnofeaaGreatDoor
