import Derived.Test.YtcgjgjjegnofeaaGreatDoorPA21
import Derived.Test.YtcgjgjjegnofeaaGreatDoorPA22
import Derived.Test.YtcgjgjjegnofeaaGreatDoorPA16
import Derived.Stop.Joined
import Derived.LaidMore
import Derived.SevenTiedAt
import Derived.Test.YtcgjgjjegnofeaaGreatDoorPA20
import Derived.Test.YtcgjgjjegnofeaaGreatDoorPA12
import Derived.Test.YtcgjgjjegnofeaaGreatDoorPA09
import Derived.Test.YtcgjgjjegnofeaaGreatDoorRows
import Derived.Lib.BufferMore
import Derived.Deep.AppendLies
import Derived.Deep.RegionLaw
import Derived.Laws.OwnMore
import Derived.Deep.QuietTactic
import Derived.BigQuiet
import Derived.Test.YtcgjgjjegnofeaaGreatDoorPA01
import Derived.Test.YtcgjgjjegnofeaaGreatDoorPA04
namespace Go.Proofs.YtcgjgjjegnofeaaGreatDoor
open Go.RowKit
theorem rTab_itn:∀(l:List Nd) (L:List ByteArray),rTab l L=(l.flatMap Nd.texts).foldl pIntern L
 | [],_=>rfl
 | N :: r,L=>by
  rw [List.flatMap_cons,List.foldl_append]
  exact rTab_itn r (itF L N.texts)
theorem rTab_all (X:List Nx):rTab (X.map Nx.nd) []=itn (allT X):=by
 rw [rTab_itn,List.flatMap_map]
 rfl
theorem sumK_edg (X:List Nx):sumK (X.map Nx.nd)=edg X:=by
 unfold sumK edg
 rw [List.map_map]
 rfl
theorem foldlT_nodup (T:List ByteArray):∀L:List ByteArray,L.Nodup→(T.foldl pIntern L).Nodup:=by
 induction T with
 | nil=>intro L h;exact h
 | cons x r ih=>
  intro L h
  rw [List.foldl_cons]
  exact ih _ (pIntern_nodup L x h)
theorem itn_nodup (T:List ByteArray):(itn T).Nodup:=foldlT_nodup T [] List.nodup_nil
theorem getD_map {X:List Nx} {i:Nat} (h:i<X.length):(X.map Nx.nd).getD i ⟨0,[],[],[]⟩=(X.getD i noNx).nd:=by
 rw [List.getD_eq_getElem?_getD,List.getD_eq_getElem?_getD,List.getElem?_map,List.getElem?_eq_getElem h]
 rfl
theorem put_inj {n m:Nat} {x y:List UInt8} (h:put n++x=put m++y) (hn:n≤16777216) (hm:m≤16777216):n=m∧x=y:=by
 have h1:=uint_put (b:=⟨(put n++x).toArray⟩) (k:=0) (r:=x) 16777216 (by simp) hn (by omega)
 have h2:=uint_put (b:=⟨(put n++x).toArray⟩) (k:=0) (r:=y) 16777216 (by rw [h];simp) hm (by omega)
 rw [h1] at h2
 injection h2 with h3 h4
 obtain rfl:n=m:=by omega
 exact ⟨rfl,List.append_cancel_left h⟩
theorem body6_inj:∀L M:List ByteArray,L.length=M.length→(∀s ∈ L,s.size≤16777216)→(∀s ∈ M,s.size≤16777216)→body6 L=body6 M→L=M
 | [],[],_,_,_,_=>rfl
 | [],t :: M,h,_,_,_=>by simp at h
 | s :: L,[],h,_,_,_=>by simp at h
 | s :: L,t :: M,h,hs,ht,hb=>by
  have e1:body6 (s :: L)=put s.size++(s.data.toList++body6 L):=by
   unfold body6
   rw [List.flatMap_cons,List.append_assoc]
  have e2:body6 (t :: M)=put t.size++(t.data.toList++body6 M):=by
   unfold body6
   rw [List.flatMap_cons,List.append_assoc]
  rw [e1,e2] at hb
  obtain ⟨h1,h2⟩:=put_inj hb (hs s (by simp)) (ht t (by simp))
  obtain ⟨h3,h4⟩:=List.append_inj h2 (by rw [list_size,list_size,h1])
  have h5:s=t:=by
   cases s
   cases t
   congr
   exact Array.toList_inj.1 h3
  rw [h5,body6_inj L M (by simpa using h) (fun s q=>hs s (by simp [q])) (fun s q=>ht s (by simp [q])) h4]
theorem pPut6_inj {L M:List ByteArray} (h:pPut6 L=pPut6 M) (h1:L.length≤16777216) (h2:M.length≤16777216) (hs:∀s ∈ L,s.size≤16777216) (ht:∀s ∈ M,s.size≤16777216):L=M:=by
 obtain ⟨h3,h4⟩:=put_inj h h1 h2
 exact body6_inj L M h3 hs ht h4
theorem pGet6_putB (L:List ByteArray) (b:ByteArray) (t m:Int) (hb:b.data.toList=pPut6 L) (hn:L.Nodup) (hr:∀s ∈ L,right5 s=true∧s.size≤16777216) (hl:L.length≤16777216) (ht:(L.length:Int)≤t) (hm:(sum6 L:Int)≤m):pGet6 b t m=(0,L):=by
 have hd:b.data.toList.drop (put L.length).length=body6 L++[]:=by
  rw [hb,List.append_nil]
  exact List.drop_left
 have hsz:b.size=(put L.length).length+(body6 L).length:=by
  rw [← list_size,hb]
  simp [pPut6]
 rw [pGet6_is,(pUint_put b _ L.length (body6 L) hb hl).2 (by omega)]
 dsimp only
 rw [if_neg (by simp),show ((L.length:Int)).toNat=L.length from rfl,show max m 0=m by omega,(gets6_put b _ L _ [] [] (by omega) hd (by simpa using hn) hr (by simp [sum6];omega)).1 (by simpa using hm)]
 unfold after6
 rw [if_neg (by simp),if_neg (by dsimp only;omega)]
 simp
theorem pGet6_less (L:List ByteArray) (b:ByteArray) (t:Int) (hb:b.data.toList=pPut6 L) (hn:L.Nodup) (hr:∀s ∈ L,right5 s=true∧s.size≤16777216) (hl:L.length≤16777216) (ht:(L.length:Int)≤t) (h0:sum6 L≠0):(pGet6 b t ((sum6 L:Int)-1)).1=19:=by
 have hd:b.data.toList.drop (put L.length).length=body6 L++[]:=by
  rw [hb,List.append_nil]
  exact List.drop_left
 have hsz:b.size=(put L.length).length+(body6 L).length:=by
  rw [← list_size,hb]
  simp [pPut6]
 rw [pGet6_is,(pUint_put b _ L.length (body6 L) hb hl).2 (by omega)]
 dsimp only
 have h19:=(gets6_put b ((sum6 L:Int)-1) L _ [] [] (by omega) hd (by simpa using hn) hr (by simp [sum6] at h0 ⊢;omega)).2 (by simp;omega)
 rw [if_neg (by simp),show ((L.length:Int)).toNat=L.length from rfl,show max ((sum6 L:Int)-1) 0=(sum6 L:Int)-1 by omega]
 unfold after6
 rw [h19,if_pos (by decide)]
theorem geK_inv {tx nb:ByteArray} {l:Lm} (h:(geK tx nb l).1=0):∃(n:Int) (k k':Nat) (P:List Nd) (L:List ByteArray),okL l=true∧pGet6 tx 16777216 l.x=(0,L)∧pUint nb 0 0 l.n=(n,k,0)∧n≠0∧gNs nb L n.toNat 0 k l.e=(P,k',0)∧¬k'<nb.size∧geK tx nb l=(0,P,L):=by
 cases h0:okL l with
 | false=>unfold geK at h;rw [if_pos h0] at h;cases h
 | true=>
 obtain ⟨te,L,hT⟩:∃te L,pGet6 tx 16777216 l.x=(te,L):=⟨_,_,rfl⟩
 obtain ⟨n,k,ne,hU⟩:∃n k ne,pUint nb 0 0 l.n=(n,k,ne):=⟨_,_,_,rfl⟩
 obtain ⟨P,k',e,hS⟩:∃P k' e,gNs nb L n.toNat 0 k l.e=(P,k',e):=⟨_,_,_,rfl⟩
 unfold geK at h ⊢
 rw [if_neg (by simp [h0]),hT,hU] at h ⊢
 dsimp only at h ⊢
 rw [hS] at h ⊢
 dsimp only at h ⊢
 split at h
 ·rename_i q;exact absurd h q
 rename_i q1
 split at h
 ·rename_i q;exact absurd h q
 rename_i q2
 split at h
 ·cases h
 rename_i q3
 split at h
 ·rename_i q;exact absurd h q
 rename_i q4
 split at h
 ·cases h
 rename_i q5
 simp only [ne_eq,Decidable.not_not] at q1 q2 q4
 subst q1 q2 q4
 exact ⟨n,k,k',P,L,rfl,rfl,rfl,q3,hS,q5,by rw [if_neg (by simp),if_neg (by simp),if_neg q3,if_neg (by simp),if_neg q5]⟩
theorem tyE_of {X:List Nx} (h:∀i,i<X.length→tyN (X.getD i noNx).nd=0):tyE X=0:=by
 have key:∀(X:List Nx) (k:Nat),(∀i,i<X.length→tyN (X.getD i noNx).nd=0)→(tyG X k).1=0:=by
  intro X
  induction X with
  | nil=>intro k _;rfl
  | cons x r ih=>
   intro k h
   unfold tyG
   rw [if_pos (by simpa using h 0 (by simp))]
   exact ih (k+1) (fun i hi=>by simpa using h (i+1) (by simpa using hi))
 exact key X 0 h
theorem right_ok8 {s:ByteArray} (h:ok8 s=true):right5 s=true:=by
 cases hr:right5 s with
 | true=>rfl
 | false=>
  have h1:=(pFirst_right s).2 hr
  unfold ok8 at h
  simp at h
  omega
theorem tyN_ok8 {N:Nd} (h:tyN N=0):∀s ∈ N.texts,ok8 s=true:=by
 unfold tyN at h
 split at h
 ·cases h
 ·unfold chkN at h
  split at h
  ·cases h
  ·split at h
   ·cases h
   ·rename_i h2 h3
    have h4:fitT N.texts (newSp N.kind).texts=true:=by simpa using h3
    unfold fitT at h4
    rw [Bool.and_eq_true,List.all_eq_true] at h4
    exact h4.2
theorem check_right {X:List Nx} {r:Int} (h:RightIs X r):CheckIs X r 0 0:=.inr (.inr ⟨h.1,h.2.1,.inr ⟨h.2.2.1,.inr ⟨rfl,rfl,h.2.2.2⟩⟩⟩)
structure Bk (X:List Nx) (r:Int) (A C:ByteArray):Prop where
 sm:Small X
 few:X.length≤60
 fn:FnX X
 ty:tyE X=0
 can:IsCan X r
 root:r=(X.length:Int)-1
 a:A.data.toList=pPut6 (itn (allT X))
 c:C.data.toList=put X.length++rAllN 0 (X.map Nx.nd) []
section
variable {X:List Nx} {r:Int} {A C:ByteArray} {d:Nat} {l:Lm}
theorem Bk.pos (h:Bk X r A C):0<X.length:=by
 have h1:=h.can.1.1
 unfold isPb at h1
 have:=of_decide_eq_true h1
 omega
theorem Bk.tab (h:Bk X r A C):(itn (allT X)).Nodup∧(∀s ∈ itn (allT X),right5 s=true∧s.size≤16777216)∧(itn (allT X)).length≤120∧sum6 (itn (allT X))≤16777216:=by
 have hT:∀s ∈ allT X,ok8 s=true∧s.size≤3000:=fun s hs=>by
  unfold allT at hs
  obtain ⟨x,hx,hs⟩:=List.mem_flatMap.1 hs
  obtain ⟨i,hi,rfl⟩:=List.getElem_of_mem hx
  have e:X[i]=X.getD i noNx:=by rw [List.getD_eq_getElem?_getD,List.getElem?_eq_getElem hi];rfl
  rw [e] at hs
  exact ⟨tyN_ok8 (tyE_all h.ty i hi) s hs,(big_no (h.sm.2 i hi)).2.2.2 s hs⟩
 have hl:(allT X).length≤120:=by
  have key:∀i,i≤X.length→(allT (X.take i)).length≤2*i:=by
   intro i
   induction i with
   | zero=>intro _;simp [allT]
   | succ i ih=>
    intro hi
    rw [allT_take X i (by omega),List.length_append]
    have:=tyN_texts (tyE_all h.ty i (by omega))
    have:=ih (by omega)
    omega
  have h1:=key X.length (Nat.le_refl _)
  rw [List.take_of_length_le (Nat.le_refl _)] at h1
  have:=h.few
  omega
 have h2:=itn_len (allT X)
 have h3:∀(T:List ByteArray),(∀s ∈ T,s.size≤3000)→sum6 T≤3000*T.length:=by
  intro T
  induction T with
  | nil=>intro _;simp [sum6]
  | cons x t ih=>
   intro q
   have h1:=q x (by simp)
   have h2:=ih (fun s hs=>q s (by simp [hs]))
   have h0:sum6 (x :: t)=x.size+sum6 t:=by simp [sum6]
   rw [h0,List.length_cons]
   omega
 have h4:=h3 (itn (allT X)) (fun s hs=>(hT s ((itn_mem _ _).1 hs)).2)
 refine ⟨itn_nodup _,fun s hs=>⟨right_ok8 (hT s ((itn_mem _ _).1 hs)).1,by have:=(hT s ((itn_mem _ _).1 hs)).2;omega⟩,by omega,by omega⟩
theorem Bk.edg (h:Bk X r A C):edg X≤180000:=by
 have key:∀i,i≤X.length→Go.Proofs.YtcgjgjjegnofeaaGreatDoor.edg (X.take i)≤3000*i:=by
  intro i
  induction i with
  | zero=>intro _;simp [Go.Proofs.YtcgjgjjegnofeaaGreatDoor.edg]
  | succ i ih=>
   intro hi
   rw [edg_take X i (by omega)]
   have:=(big_no (h.sm.2 i (by omega))).2.2.1
   have:=ih (by omega)
   omega
 have h1:=key X.length (Nat.le_refl _)
 rw [List.take_of_length_le (Nat.le_refl _)] at h1
 have:=h.few
 omega
theorem Bk.drop (h:Bk X r A C):C.data.toList.drop (put X.length).length=rAllN 0 (X.map Nx.nd) []++[]:=by
 rw [h.c,List.append_nil]
 exact List.drop_left
theorem Bk.recs (h:Bk X r A C):(∀j,j<(X.map Nx.nd).length→rE ((X.map Nx.nd).getD j ⟨0,[],[],[]⟩) ((0+j:Nat):Int)=0)∧∀N ∈ X.map Nx.nd,fine N.ints:=by
 refine ⟨fun j hj=>?_,fun N hN=>?_⟩
 ·rw [List.length_map] at hj
  rw [getD_map hj,Nat.zero_add]
  exact can_rE h.can h.ty hj
 ·obtain ⟨x,hx,rfl⟩:=List.mem_map.1 hN
  obtain ⟨i,hi,rfl⟩:=List.getElem_of_mem hx
  have:=h.fn i hi
  rwa [List.getD_eq_getElem?_getD,List.getElem?_eq_getElem hi] at this
theorem Bk.sz (h:Bk X r A C):C.size=(put X.length).length+(rAllN 0 (X.map Nx.nd) []).length:=by
 rw [← list_size,h.c,List.length_append]
theorem Bk.ks (h:Bk X r A C) (ho:okL l=true) (hx:(sum6 (itn (allT X)):Int)≤l.x) (hn:(X.length:Int)≤l.n) (he:(Go.Proofs.YtcgjgjjegnofeaaGreatDoor.edg X:Int)≤l.e):geK A C l=(0,X.map Nx.nd,itn (allT X)):=by
 obtain ⟨t1,t2,t3,t4⟩:=h.tab
 have hp:=h.pos
 have hf:=h.few
 have hed:=h.edg
 have g1:=pGet6_putB (itn (allT X)) A 16777216 l.x h.a t1 t2 (by omega) (by omega) hx
 have g2:=(pUint_put C l.n X.length _ h.c (by omega)).2 (by omega)
 have g3:=gNs_put C (X.map Nx.nd) 0 [] (put X.length).length l.e [] h.drop h.recs.1 h.recs.2 (by rw [List.length_map];omega) (by rw [rTab_all];omega) (by rw [sumK_edg];exact he) (by rw [sumK_edg];omega)
 rw [rTab_all,List.length_map] at g3
 exact geK_7 A C l ho g1 g2 (by omega) (by rw [Int.toNat_natCast];exact g3) (by rw [h.sz];omega)
theorem Bk.got (h:Bk X r A C) (ho:okL l=true) (hx:(sum6 (itn (allT X)):Int)≤l.x) (hn:(X.length:Int)≤l.n) (he:(Go.Proofs.YtcgjgjjegnofeaaGreatDoor.edg X:Int)≤l.e) (hd:DepthIs X r d) (hl:(d:Int)≤l.d):GeIs A C l (X.map Nx.nd) r 0:=by
 have hk:=h.ks ho hx hn he
 have hc:=check_right h.can.1
 exact (GeIs.of hk h.root ⟨0,0,d,hc,hd,.inr ⟨rfl,.inr ⟨by omega,.inr ⟨h.can,.inr ⟨rfl,rfl⟩⟩⟩⟩⟩).2 rfl
theorem Bk.deep (h:Bk X r A C) (ho:okL l=true) (hx:(sum6 (itn (allT X)):Int)≤l.x) (hn:(X.length:Int)≤l.n) (he:(Go.Proofs.YtcgjgjjegnofeaaGreatDoor.edg X:Int)≤l.e) (hd:DepthIs X r d) (hl:l.d<(d:Int)):GeIs A C l (([]:List Nx).map Nx.nd) 0 19:=by
 have hk:=h.ks ho hx hn he
 have hc:=check_right h.can.1
 exact (GeIs.of hk h.root ⟨0,0,d,hc,hd,.inr ⟨rfl,.inl ⟨hl,rfl⟩⟩⟩).1 (by decide)
theorem Bk.nodes (h:Bk X r A C) (ho:okL l=true) (hx:(sum6 (itn (allT X)):Int)≤l.x) (hn:l.n<(X.length:Int)):GeIs A C l (([]:List Nx).map Nx.nd) 0 19:=by
 obtain ⟨t1,t2,t3,t4⟩:=h.tab
 have hf:=h.few
 have g1:=pGet6_putB (itn (allT X)) A 16777216 l.x h.a t1 t2 (by omega) (by omega) hx
 have g2:=(pUint_put C l.n X.length _ h.c (by omega)).1 hn
 refine GeIs.bad ?_ (by decide)
 exact (geK_3 A C l ho g1 (n:=(pUint C 0 0 l.n).1) (k:=(pUint C 0 0 l.n).2.1) (e:=(pUint C 0 0 l.n).2.2) rfl (by rw [g2];decide)).trans g2
theorem Bk.ways (h:Bk X r A C) (ho:okL l=true) (hx:(sum6 (itn (allT X)):Int)≤l.x) (hn:(X.length:Int)≤l.n) (he:l.e<(Go.Proofs.YtcgjgjjegnofeaaGreatDoor.edg X:Int)):GeIs A C l (([]:List Nx).map Nx.nd) 0 19:=by
 obtain ⟨t1,t2,t3,t4⟩:=h.tab
 have hp:=h.pos
 have hf:=h.few
 have hed:=h.edg
 have g1:=pGet6_putB (itn (allT X)) A 16777216 l.x h.a t1 t2 (by omega) (by omega) hx
 have g2:=(pUint_put C l.n X.length _ h.c (by omega)).2 (by omega)
 have g3:=gNs_limit C (X.map Nx.nd) 0 [] (put X.length).length l.e [] h.drop h.recs.1 h.recs.2 (by rw [List.length_map];omega) (by rw [rTab_all];omega) (by rw [sumK_edg];exact he) (okL_in ho).2.2.1.1 (by rw [sumK_edg];omega)
 rw [rTab_all,List.length_map] at g3
 refine GeIs.bad ?_ (by decide)
 obtain ⟨P,k',e,hS⟩:∃P k' e,gNs C (itn (allT X)) X.length 0 (put X.length).length l.e=(P,k',e):=⟨_,_,_,rfl⟩
 rw [hS] at g3
 exact (geK_5 A C l ho g1 g2 (by omega) (by rw [Int.toNat_natCast];exact hS) (by rw [g3];decide)).trans g3
theorem Bk.texts (h:Bk X r A C) (ho:okL l=true) (hs:sum6 (itn (allT X))≠0) (hx:l.x=(sum6 (itn (allT X)):Int)-1):GeIs A C l (([]:List Nx).map Nx.nd) 0 19:=by
 obtain ⟨t1,t2,t3,t4⟩:=h.tab
 have g1:=pGet6_less (itn (allT X)) A 16777216 h.a t1 t2 (by omega) (by omega) hs
 rw [← hx] at g1
 refine GeIs.bad ?_ (by decide)
 obtain ⟨te,L,hT⟩:∃te L,pGet6 A 16777216 l.x=(te,L):=⟨_,_,rfl⟩
 rw [hT] at g1
 dsimp only at g1
 exact (geK_2 A C l ho hT (by rw [g1];decide)).trans g1
end
def Qn (nb:ByteArray) (L:List ByteArray) (l:Lm):Prop:=
 ∀P k' e',gNs nb L (pUint nb 0 0 l.n).1.toNat 0 (pUint nb 0 0 l.n).2.1 l.e=(P,k',e')→P.length≤1401∧∀N ∈ P,big N=false∧fine N.ints
theorem gNs_pre3 (b:ByteArray) (L:List ByteArray) (hn:L.Nodup) (hr:∀s ∈ L,ok8 s=true) (M:Nat) (hM:M≤3000) (hb:b.size≤M) (hs:sum6 L≤M):∀(n i k:Nat) (ed:Int) (l:List Nd) (k':Nat) (e':Int),gNs b L n i k ed=(l,k',e')→(i:Int)+n≤9223372036854775807→k≤b.size→
  k+3*l.length≤b.size∧∀N ∈ l,big N=false∧fine N.ints:=by
 intro n
 induction n with
 | zero=>
  intro i k ed l k' e' h _ hk
  simp only [gNs,Prod.mk.injEq] at h
  obtain ⟨rfl,rfl,_⟩:=h
  exact ⟨by simpa using hk,fun N q=>by simp at q⟩
 | succ n ih=>
  intro i k ed l k' e' h hi hk
  unfold gNs at h
  split at h
  ·simp only [Prod.mk.injEq] at h
   obtain ⟨rfl,_,_⟩:=h
   exact ⟨by simpa using hk,fun N q=>by simp at q⟩
  ·rename_i he
   have he:(gNd b i L ed k 0).2.2=0:=by simpa using he
   obtain ⟨N,k1,e1,hR⟩:∃N k1 e1,gNd b i L ed k 0=(N,k1,e1):=⟨_,_,_,rfl⟩
   rw [hR] at h he
   dsimp only at h he
   subst he
   obtain ⟨l2,k2,e2,hS⟩:∃l2 k2 e2,gNs b L n (i+1) k1 (ed-N.kids.length)=(l2,k2,e2):=⟨_,_,_,rfl⟩
   rw [hS] at h
   simp only [Prod.mk.injEq] at h
   obtain ⟨rfl,rfl,rfl⟩:=h
   obtain ⟨a1,_,a3,a4⟩:=gNd_three hR (by omega) hn hr
   have hk1:k1≤b.size:=by have:=gNd_le b i L ed k 0 hk;rw [hR] at this;exact this
   obtain ⟨b1,b2⟩:=ih (i+1) k1 _ l2 k2 e2 hS (by omega) hk1
   refine ⟨by simp only [List.length_cons];omega,fun N' q=>?_⟩
   rcases List.mem_cons.1 q with rfl|q
   ·exact ⟨a3 M hM hb hs,a4⟩
   ·exact b2 N' q
theorem qn_small {tx nb:ByteArray} {l:Lm} {L:List ByteArray} (h:pGet6 tx 16777216 l.x=(0,L)) (hz:tx.size≤3000) (hy:nb.size≤3000):Qn nb L l:=fun P k' e' hS=>by
 have h1:=pGet6_ok tx 16777216 l.x (by rw [h])
 have h2:=pGet6_ok8 tx 16777216 l.x (by rw [h])
 rw [h] at h1 h2
 dsimp only at h1 h2
 have hut:=pUint_top nb 0 0 l.n
 have h3:=gNs_pre3 nb L h1.2.1 h2 3000 (Nat.le_refl _) (by omega) (by omega) _ 0 _ _ P k' e' hS (by have:=hut.2.1;omega) (pUint_at nb 0 0 l.n (Nat.zero_le _)).2
 exact ⟨by omega,h3.2⟩
theorem gNs_pre (b:ByteArray):∀(l:List Nd) (i:Nat) (L:List ByteArray) (k:Nat) (ed:Int) (x:List UInt8),b.data.toList.drop k=rAllN i l L++x→(∀j,j<l.length→rE (l.getD j ⟨0,[],[],[]⟩) ((i+j:Nat):Int)=0)→(∀N ∈ l,fine N.ints)→
  i+l.length≤16777216→(rTab l L).length≤16777216→0≤ed→sumK l≤16777216→∀P k' e',gNs b (rTab l L) l.length i k ed=(P,k',e')→P.length≤l.length∧∀N ∈ P,N ∈ l
 | [],i,L,k,ed,x,_,_,_,_,_,_,_,P,k',e',h=>by
  simp only [List.length_nil,gNs,Prod.mk.injEq] at h
  obtain ⟨rfl,_,_⟩:=h
  exact ⟨Nat.le_refl _,fun N q=>by simp at q⟩
 | N :: r,i,L,k,ed,x,h,hE,hf,hi,hM,h0,hs2,P,k',e',hP=>by
  rw [sumK_cons] at hs2
  rw [List.length_cons] at hi
  have h':b.data.toList.drop k=rB N i L++(rAllN (i+1) r (itF L N.texts)++x):=by rw [h,← List.append_assoc];rfl
  have hx:∀s ∈ N.texts,idx6 s (rTab (N :: r) L)=idx6 s (itF L N.texts)∧idx6 s (rTab (N :: r) L)<(rTab (N :: r) L).length:=fun s q=>by
   have:=rTab_keep r (itF L N.texts) s (itF_sub _ _ _ (.inr q))
   exact ⟨this.1,(idx6_mem _ _).2 this.2⟩
  rw [List.length_cons] at hP
  unfold gNs at hP
  by_cases hk:(N.kids.length:Int)≤ed
  ·have h1:=gNd_put b N i ed L (rTab (N :: r) L) k _ h' (by have:=hE 0 (by simp);simpa using this) (hf N (by simp)) (by omega) hM hx (by omega) hk
   rw [h1] at hP
   dsimp only at hP
   rw [if_neg (by decide)] at hP
   obtain ⟨P2,k2,e2,hS⟩:∃P2 k2 e2,gNs b (rTab (N :: r) L) r.length (i+1) (k+(rB N i L).length) (ed-N.kids.length)=(P2,k2,e2):=⟨_,_,_,rfl⟩
   rw [hS] at hP
   simp only [Prod.mk.injEq] at hP
   obtain ⟨rfl,_,_⟩:=hP
   have h2:=gNs_pre b r (i+1) (itF L N.texts) (k+(rB N i L).length) (ed-N.kids.length) x (drop_more h' rfl) (fun j hj=>by
    have:=hE (j+1) (by simp;omega)
    rw [show i+(j+1)=i+1+j by omega] at this
    simpa using this) (fun M q=>hf M (by simp [q])) (by omega) hM (by omega) (by omega) P2 k2 e2 hS
   refine ⟨by simp only [List.length_cons];omega,fun M q=>?_⟩
   rcases List.mem_cons.1 q with rfl|q
   ·simp
   ·exact List.mem_cons_of_mem _ (h2.2 M q)
  ·have h1:=gNd_over b N i ed L (rTab (N :: r) L) k _ h' (by have:=hE 0 (by simp);simpa using this) (hf N (by simp)) hM hx (by omega) (by omega) (by omega)
   rw [if_pos (by rw [h1];decide)] at hP
   simp only [Prod.mk.injEq] at hP
   obtain ⟨rfl,_,_⟩:=hP
   exact ⟨Nat.zero_le _,fun M q=>by simp at q⟩
theorem Bk.qn {X:List Nx} {r:Int} {A C:ByteArray} {l:Lm} (h:Bk X r A C) (he:0≤l.e):Qn C (itn (allT X)) l:=fun P k' e' hS=>by
 obtain ⟨t1,t2,t3,t4⟩:=h.tab
 have hf:=h.few
 have hed:=h.edg
 by_cases hn:(X.length:Int)≤l.n
 ·have g2:=(pUint_put C l.n X.length _ h.c (by omega)).2 (by omega)
  rw [g2] at hS
  dsimp only at hS
  rw [Int.toNat_natCast,← rTab_all] at hS
  have hl:(X.map Nx.nd).length=X.length:=List.length_map _
  rw [← hl] at hS
  have h1:=gNs_pre C (X.map Nx.nd) 0 [] (put (X.map Nx.nd).length).length l.e [] (by rw [hl];exact h.drop) h.recs.1 h.recs.2 (by omega) (by rw [rTab_all];omega) he (by rw [sumK_edg];omega) P k' e' hS
  refine ⟨by omega,fun N q=>?_⟩
  obtain ⟨x,hx,rfl⟩:=List.mem_map.1 (h1.2 N q)
  obtain ⟨i,hi,rfl⟩:=List.getElem_of_mem hx
  have e:X[i]=X.getD i noNx:=by rw [List.getD_eq_getElem?_getD,List.getElem?_eq_getElem hi];rfl
  rw [e]
  exact ⟨h.sm.2 i hi,h.fn i hi⟩
 ·have g2:=(pUint_put C l.n X.length _ h.c (by omega)).1 (by omega)
  have g3:=(pUint_val C 0 l.n).2.2 (by rw [g2];decide)
  rw [g3] at hS
  simp only [Int.toNat_zero,gNs,Prod.mk.injEq] at hS
  obtain ⟨rfl,_,_⟩:=hS
  exact ⟨by simp,fun N q=>by simp at q⟩
def CkIs (X:List Nx) (r dp k:Int):Prop:=∃n y d,CheckIs X r n y∧DepthIs X r d∧((n≠0∧k=n)∨(n=0∧((dp<(d:Int)∧k=19)∨(¬dp<(d:Int)∧((¬IsCan X r∧k=16)∨(IsCan X r∧k=0))))))
theorem CkIs.bad {X:List Nx} {r k:Int} {l:Lm} {L:List ByteArray} (h:CkIs X r l.d k) (hk:k≠0):GeS X r L l k:=by
 obtain ⟨n,y,d,h1,h2,h3⟩:=h
 refine ⟨n,y,d,h1,h2,?_⟩
 rcases h3 with h3|⟨h3,h4|⟨h4,h5|⟨h5,h6⟩⟩⟩
 ·exact .inl h3
 ·exact .inr ⟨h3,.inl h4⟩
 ·exact .inr ⟨h3,.inr ⟨h4,.inl h5⟩⟩
 ·exact absurd h6 hk
theorem CkIs.good {X:List Nx} {r:Int} {l:Lm} {L:List ByteArray} (h:CkIs X r l.d 0) (q:Int) (hq:(itn (allT X)≠L∧q=18)∨(itn (allT X)=L∧q=0)):GeS X r L l q:=by
 obtain ⟨n,y,d,h1,h2,h3⟩:=h
 refine ⟨n,y,d,h1,h2,?_⟩
 rcases h3 with ⟨h3,h4⟩|⟨h3,⟨_,h4⟩|⟨h4,⟨_,h5⟩|⟨h5,_⟩⟩⟩
 ·exact absurd h4.symm h3
 ·cases h4
 ·cases h5
 ·exact .inr ⟨h3,.inr ⟨h4,.inr ⟨h5,hq⟩⟩⟩
theorem PuIs.uniq {X:List Nx} {r e e':Int} {A C A' C':ByteArray} (h:PuIs X r A C e) (h':PuIs X r A' C' e'):A'=A∧C'=C∧e'=e:=by
 have key:∀{s t:ByteArray},s.data.toList=t.data.toList→s=t:=fun {s t} q=>by
  cases s;cases t;congr;exact Array.toList_inj.1 q
 rcases h with ⟨h1,rfl,rfl,rfl⟩|⟨h1,n,y,h2,h3⟩
 ·rcases h' with ⟨_,rfl,rfl,rfl⟩|⟨g1,_⟩
  ·exact ⟨rfl,rfl,rfl⟩
  ·exact absurd g1 h1
 ·rcases h' with ⟨g1,_⟩|⟨_,n',y',g2,g3⟩
  ·exact absurd h1 g1
  ·obtain ⟨rfl,rfl⟩:=h2.uniq g2
   rcases h3 with ⟨a,rfl,rfl,rfl⟩|⟨a,⟨b,rfl,rfl,rfl⟩|⟨b,rfl,hA,hC⟩⟩
   ·rcases g3 with ⟨_,rfl,rfl,rfl⟩|⟨a',_⟩
    ·exact ⟨rfl,rfl,rfl⟩
    ·exact absurd a' a
   ·rcases g3 with ⟨a',_⟩|⟨_,⟨_,rfl,rfl,rfl⟩|⟨b',_⟩⟩
    ·exact absurd a a'
    ·exact ⟨rfl,rfl,rfl⟩
    ·exact absurd b' b
   ·rcases g3 with ⟨a',_⟩|⟨_,⟨b',_⟩|⟨_,rfl,hA',hC'⟩⟩
    ·exact absurd a a'
    ·exact absurd b b'
    ·exact ⟨key (hA'.trans hA.symm),key (hC'.trans hC.symm),rfl⟩
end Go.Proofs.YtcgjgjjegnofeaaGreatDoor
namespace Go.Proofs.YtcgjgjjegnofeaaGreatDoor
open Go.ChangeShapes Go.WideShapes Go.ChangeAt Go.RowKit Go.Joins Go.Deep
def laid2:List (String × DataW Unit):=Rows.fileSavesRow.laid
theorem tK:(Tryz.prog.globals[0]?).map (·.type)=some 219:=by kernel_rfl
theorem tS:(Tryz.prog.globals[1]?).map (·.type)=some 242:=by kernel_rfl
theorem tabs_of {W:World} (h:laidMetH Tryz.prog laid2 W):Tabs12 W:=by
 rw [MakeChecks.laidMetH_plain _ _ _ (by kernel_rfl)] at h
 obtain ⟨ps,⟨g0,t0,cs0,f0,p0,q0,hg0,ht0,hv0,hd0,⟨g1,t1,cs1,f1,p1,q1,hg1,ht1,hv1,hd1,_,_⟩,_⟩,_,_⟩:=h
 exact ⟨tab_of (n:=8) (by kernel_rfl) tK (by kernel_rfl) hg0 ht0 hv0 hd0,tab_of (n:=8) (by kernel_rfl) tS (by kernel_rfl) hg1 ht1 hv1 hd1⟩
theorem door_met (os:Os) (args:Array Value):laidMetH Tryz.prog laid2 ((World.doorLaid Tryz.prog 400 os).forCall (fun _ _=>0) ⟨#[],args,[]⟩).memory:=
 laidMetH_of_parts3 (fuel:=8) (laidMet_of_run' 8 (by kernel_rfl) (by kernel_rfl)) (by kernel_rfl) (by kernel_rfl)
structure LmR (l:Lm):Prop where
 b:inR l.b
 n:inR l.n
 e:inR l.e
 d:inR l.d
 x:inR l.x
section
variable {H:Type} {enc:TypeId × Value→H} {P:Program} {w:World}
theorem five_cells {α : Type} {cs:Array α} (h:cs.size=5):∃c0 c1 c2 c3 c4,cs=#[c0,c1,c2,c3,c4]:=by
 obtain ⟨l⟩:=cs
 match l,h with
 | [c0,c1,c2,c3,c4],_=>exact ⟨c0,c1,c2,c3,c4,rfl⟩
theorem five_read {xs:List (DataW H × List MemPlace)} (h:xs.length=5):∃y0 y1 y2 y3 y4,xs=[y0,y1,y2,y3,y4]:=by
 match xs,h with
 | [y0,y1,y2,y3,y4],_=>exact ⟨y0,y1,y2,y3,y4,rfl⟩
theorem open_lim {r:Reach} {b0:Nat} {t:TypeId} {f0 f1 f2 f3 f4:Field} {v:Value} {d:DataW H} {p:List MemPlace} (hs:P.underlying t=some (.struct #[f0,f1,f2,f3,f4])) (hone:oneCellFields P #[f0,f1,f2,f3,f4]=true) (hC:P.cellsOf t=5)
  (u0:P.underlying f0.type=some (.int .i64)) (u1:P.underlying f1.type=some (.int .i64)) (u2:P.underlying f2.type=some (.int .i64)) (u3:P.underlying f3.type=some (.int .i64)) (u4:P.underlying f4.type=some (.int .i64))
  (hv:Value.okWide P w r b0 t v) (h:DataW.Trod enc P w 0 (fun _=>true) true t v d p) :
  ∃l:Lm,v=.agg #[.int .i64 l.b,.int .i64 l.n,.int .i64 l.e,.int .i64 l.d,.int .i64 l.x]∧LmR l:=by
 obtain ⟨cs,rfl,hsz⟩:=okWide_struct hs hv
 obtain ⟨c0,c1,c2,c3,c4,rfl⟩:=five_cells (hsz.trans hC)
 obtain ⟨fuel,hf⟩:=h
 obtain ⟨xs,n,_,_,_,hlen,hx⟩:=DataW.trod_struct hs hf
 obtain ⟨y0,y1,y2,y3,y4,rfl⟩:=five_read (by simpa using hlen)
 obtain ⟨o0,k0⟩:=hone_of hone 0 f0 rfl
 obtain ⟨o1,k1⟩:=hone_of hone 1 f1 rfl
 obtain ⟨o2,k2⟩:=hone_of hone 2 f2 rfl
 obtain ⟨o3,k3⟩:=hone_of hone 3 f3 rfl
 obtain ⟨o4,k4⟩:=hone_of hone 4 f4 rfl
 have t0:=hx 0 f0 rfl
 have t1:=hx 1 f1 rfl
 have t2:=hx 2 f2 rfl
 have t3:=hx 3 f3 rfl
 have t4:=hx 4 f4 rfl
 simp [Value.cells,o0,k0,o1,k1,o2,k2,o3,k3,o4,k4] at t0 t1 t2 t3 t4
 obtain ⟨z0,e0,_,g0⟩:=DataW.trod_int u0 t0
 obtain ⟨z1,e1,_,g1⟩:=DataW.trod_int u1 t1
 obtain ⟨z2,e2,_,g2⟩:=DataW.trod_int u2 t2
 obtain ⟨z3,e3,_,g3⟩:=DataW.trod_int u3 t3
 obtain ⟨z4,e4,_,g4⟩:=DataW.trod_int u4 t4
 simp at e0 e1 e2 e3 e4
 subst e0 e1 e2 e3 e4
 exact ⟨⟨z0,z1,z2,z3,z4⟩,rfl,⟨wf_i64 g0,wf_i64 g1,wf_i64 g2,wf_i64 g3,wf_i64 g4⟩⟩
end
theorem IsSc.fn {w:World} {a:Option Addr} {X:List Nx} {r:Int} (h:IsSc w a X r):FnX X:=fun i hi j hj=>by
 have h1:=(h.rg i hi).ints
 generalize (X.getD i noNx).nd.ints=T at *
 exact h1 _ (by rw [List.getD_eq_getElem?_getD,List.getElem?_eq_getElem hj];exact List.getElem_mem hj)
def Whole (X:List Nx) (r:Int):Prop:=tyE X=0∧RightIs X r
def WhOut (X:List Nx) (r:Int) (w w':World) (e:Ending):Prop:=∃b,e=.returned (.bool b)∧(b=true↔Whole X r)∧Below w.heap.size w w'
set_option maxRecDepth 10000 in
set_option maxHeartbeats 1000000 in
theorem rwhole_any (X:List Nx) (a:Option Addr) (c:Nat) (r:Int) (w:World) (h:ScAt w a X) (hX:Small X) (hF:FnX X) :
  Calls Tryz.prog 23 #[.agg #[.slice a X.length c,.int .i64 r],.int .i64 2] w fun e w'=>WhOut X r w w' e:=by
 have HA0:Hid (AtN 24 (w.alloc (.cells #[.slice a X.length c,.int .i64 r] 24)) w.heap.size #[.slice a X.length c,.int .i64 r]):=AtN.new w 24 _
 have HB0:Hid (Below w.heap.size w (w.alloc (.cells #[.slice a X.length c,.int .i64 r] 24))):=(Below.refl _ _).alloc (Nat.le_refl _) _
 have HTy:Hid (∀W,Below w.heap.size w W→Calls Tryz.prog 50 #[.agg #[.slice a X.length c,.int .i64 r],.int .i64 2] W fun e w'=>e=.returned (.tuple #[.int .i64 (tyE X),.int .i64 (tyZ X)])∧Below W.heap.size W w'):=fun W hW=>rtyped_any X a c r W (h.belowB hW) hX hF
 have HRt:Hid (∀W,Below w.heap.size w W→Calls Tryz.prog 20 #[.agg #[.slice a X.length c,.int .i64 r]] W fun e w'=>RightOut X r W w' e):=fun W hW=>right_any X a c r W (h.belowB hW) hX
 have HV:Hid (Whole X r↔(tyE X=0∧RightIs X r)):=Iff.rfl
 obtain ⟨te,hte⟩:∃te,tyE X=te:=⟨_,rfl⟩
 rw [hte] at HTy HV
 generalize tyZ X=tz at *
 clear h hX hF hte
 go_enter Tryz.func23,Tryz.ntmps23
 go_wp2_with fail
 refine Calls.mono (HTy.out _ HB0.out) ?_
 rintro e w1 ⟨rfl,hb1⟩
 have HA1:Hid (AtN 24 w1 w.heap.size #[.slice a X.length c,.int .i64 r]):=AtN.belowAll HA0.out hb1
 have HB1:Hid (Below w.heap.size w w1):=HB0.out.trans (hb1.mono HB0.out.size)
 clear HA0 HB0 HTy hb1
 by_cases ht:te=0
 ·have HV1:Hid (Whole X r↔RightIs X r):=⟨fun q=>(HV.out.1 q).2,fun q=>HV.out.2 ⟨ht,q⟩⟩
  clear HV
  subst ht
  have x0:w1.cell? ⟨w.heap.size,0,none⟩=some (.slice a X.length c):=HA1.out.cell 0
  have x1:w1.cell? ⟨w.heap.size,1,none⟩=some (.int .i64 r):=HA1.out.cell 1
  go_wp2_with fail
  refine Calls.mono (HRt.out _ HB1.out) ?_
  rintro e w2 ⟨b,rfl,hb,hb2⟩
  have HB2:Hid (Below w.heap.size w w2):=HB1.out.trans (hb2.mono HB1.out.size)
  have HBb:Hid (b=true↔RightIs X r):=hb
  clear HA1 HB1 HRt hb2 hb x0 x1
  go_wp2_with fail
  go_ret
  exact ⟨_,rfl,HBb.out.trans HV1.out.symm,HB2.out⟩
 ·have ht':(te==0)=false:=by simpa using ht
  have HV1:Hid (¬Whole X r):=fun q=>absurd (HV.out.1 q).1 ht
  clear HV
  go_wp2_with fail
  go_ret
  exact ⟨false,rfl,⟨(fun q=>by cases q),fun q=>absurd q HV1.out⟩,HB1.out⟩
end Go.Proofs.YtcgjgjjegnofeaaGreatDoor
namespace Go.Proofs.YtcgjgjjegnofeaaGreatDoor
open Go.RowKit Go.Maps Go.WideMaps Go.Sort
theorem itn_same {T U:List ByteArray} (h:∀s,s ∈ T↔s ∈ U):sum6 (itn T)=sum6 (itn U):=by
 have hp:(itn T).Perm (itn U):=(List.perm_ext_iff_of_nodup (itn_nodup T) (itn_nodup U)).2 (fun s=>by rw [itn_mem,itn_mem,h])
 exact List.Perm.sum_nat (hp.map ByteArray.size)
theorem allT_mem (X:List Nx) (s:ByteArray):s ∈ allT X↔∃i,i<X.length∧s ∈ (X.getD i noNx).nd.texts:=by
 unfold allT
 rw [List.mem_flatMap]
 constructor
 ·rintro ⟨x,hx,hs⟩
  obtain ⟨i,hi,rfl⟩:=List.getElem_of_mem hx
  exact ⟨i,hi,by rwa [List.getD_eq_getElem?_getD,List.getElem?_eq_getElem hi]⟩
 ·rintro ⟨i,hi,hs⟩
  rw [List.getD_eq_getElem?_getD,List.getElem?_eq_getElem hi] at hs
  exact ⟨X[i],List.getElem_mem hi,hs⟩
theorem ren_tyN (f:Int→Int) (N:Nd):tyN (renNd f N)=tyN N:=by simp [tyN,chkN,renNd]
section
variable {X Y:List Nx} {p:Nat→Nat} {r:Int} {l:Lm} {d:Nat}
theorem Ren.txb (h:Ren X Y p):txb Y=txb X:=by
 refine itn_same fun s=>?_
 rw [allT_mem,allT_mem]
 constructor
 ·rintro ⟨j,hj,hs⟩
  rw [h.len] at hj
  obtain ⟨i,hi,rfl⟩:=h.per.onto j hj
  rw [h.nd i hi] at hs
  exact ⟨i,hi,hs⟩
 ·rintro ⟨i,hi,hs⟩
  exact ⟨p i,by rw [h.len];exact h.per.lt i hi,by rw [h.nd i hi];exact hs⟩
theorem Ren.ty (h:Ren X Y p) (q:tyE X=0):tyE Y=0:=tyE_of fun j hj=>by
 rw [h.len] at hj
 obtain ⟨i,hi,rfl⟩:=h.per.onto j hj
 rw [h.nd i hi,ren_tyN]
 exact tyE_all q i hi
theorem Ren.fnx (h:Ren X Y p) (hX:FnX X):FnX Y:=fun j hj=>by
 rw [h.len] at hj
 obtain ⟨i,hi,rfl⟩:=h.per.onto j hj
 rw [h.nd i hi]
 exact hX i hi
end
theorem bk_of {X Y:List Nx} {r e:Int} {A C:ByteArray} (hS:Small X) (hf:X.length≤60) (hF:FnX X) (hW:Whole X r) (hY:Y.map Nx.nd=cX X r) (hP:PuIs Y ((X.length:Int)-1) A C e):e=0∧Bk Y ((X.length:Int)-1) A C:=by
 have hR:=can_ren hW.2 hY
 have hT:=hR.ty hW.1
 have hC:=can_isCan hW.2 hY
 rcases hP with ⟨h1,_⟩|⟨_,n,y,h2,⟨h3,_⟩|⟨h3,⟨h4,_⟩|⟨h4,h5,h6,h7⟩⟩⟩
 ·exact absurd hT h1
 ·exact absurd (h2.right.2 hC.1) h3
 ·exact absurd hC h4
 ·exact ⟨h5,hR.small hS,by rw [hR.len];exact hf,hR.fnx hF,hT,hC,by rw [hR.len],by rw [← rTab_all];exact h6,h7⟩
theorem rAllN_len:∀(l:List Nd) (i:Nat) (L:List ByteArray),(∀N ∈ l,big N=false)→(rAllN i l L).length≤32020*l.length
 | [],_,_,_=>by simp [rAllN]
 | N :: r,i,L,h=>by
  have h1:=rB_size N i L (h N (by simp))
  have h2:=rAllN_len r (i+1) (itF L N.texts) (fun M q=>h M (by simp [q]))
  show (rB N i L++rAllN (i+1) r (itF L N.texts)).length≤_
  rw [List.length_append,List.length_cons]
  omega
theorem sum6_few:∀T:List ByteArray,(∀s ∈ T,s.size≤3000)→sum6 T≤3000*T.length
 | [],_=>by simp [sum6]
 | x :: t,q=>by
  have h1:=q x (by simp)
  have h2:=sum6_few t (fun s hs=>q s (by simp [hs]))
  have h0:sum6 (x :: t)=x.size+sum6 t:=by simp [sum6]
  rw [h0,List.length_cons]
  omega
theorem Bk.size {X:List Nx} {r:Int} {A C:ByteArray} (h:Bk X r A C):A.size≤1000000∧C.size≤4000000:=by
 have hf:=h.few
 constructor
 ·have h1:=list_size A
  rw [h.a] at h1
  have h2:=body6_le (itn (allT X))
  have h3:=put_length (itn (allT X)).length
  have h4:=h.tab.2.2.1
  have hs:=allT_small X h.sm X.length (Nat.le_refl _)
  rw [List.take_of_length_le (Nat.le_refl _)] at hs
  have h5:=sum6_few (itn (allT X)) (fun s q=>hs.2 s ((itn_mem _ _).1 q))
  unfold pPut6 at h1
  rw [List.length_append] at h1
  omega
 ·have h1:=h.sz
  have h3:=put_length X.length
  have h4:=rAllN_len (X.map Nx.nd) 0 [] (fun N q=>by
   obtain ⟨x,hx,rfl⟩:=List.mem_map.1 q
   obtain ⟨i,hi,rfl⟩:=List.getElem_of_mem hx
   have e:X[i]=X.getD i noNx:=by rw [List.getD_eq_getElem?_getD,List.getElem?_eq_getElem hi];rfl
   rw [e]
   exact h.sm.2 i hi)
  rw [List.length_map] at h4
  omega
theorem can_depth {X Y:List Nx} {r:Int} {d:Nat} (hR:RightIs X r) (hY:Y.map Nx.nd=cX X r) (hd:DepthIs X r d):DepthIs Y ((X.length:Int)-1) d:=by
 have h:=can_ren hR hY
 have e:=can_root hR
 obtain ⟨d',hd'⟩:=depth_there Y ((X.length:Int)-1)
 have hd2:=hd'
 rw [← e] at hd2
 have:=h.depth hR hd hd2
 subst this
 exact hd'
end Go.Proofs.YtcgjgjjegnofeaaGreatDoor
namespace Go.Proofs.YtcgjgjjegnofeaaGreatDoor
def hlv (x:Nat):Nat:=if x % 2=1 then (x / 2) ^^^ 3988292384 else x / 2
def hlvs:Nat→Nat→Nat
 | 0,x=>x
 | k+1,x=>hlvs k (hlv x)
theorem hlv_lt (x:Nat) (h:x<4294967296):hlv x<4294967296:=by
 unfold hlv
 split
 ·exact Nat.xor_lt_two_pow (n:=32) (by show _<4294967296;omega) (by decide)
 ·omega
theorem hlvs_lt (k x:Nat) (h:x<4294967296):hlvs k x<4294967296:=by
 induction k generalizing x with
 | zero=>exact h
 | succ k ih=>exact ih _ (hlv_lt x h)
def reg (x:Nat):List UInt8→Nat
 | []=>x
 | c :: r=>reg (hlvs 8 (x ^^^ c.toNat)) r
theorem reg_append (x:Nat) (a b:List UInt8):reg x (a++b)=reg (reg x a) b:=by
 induction a generalizing x with
 | nil=>rfl
 | cons c r ih=>exact ih _
theorem reg_lt (x:Nat) (l:List UInt8) (h:x<4294967296):reg x l<4294967296:=by
 induction l generalizing x with
 | nil=>exact h
 | cons c r ih=>exact ih _ (hlvs_lt _ _ (Nat.xor_lt_two_pow (n:=32) h (by have:=c.toNat_lt;show _<4294967296;omega)))
def crc (l:List UInt8):Nat:=4294967295-reg 4294967295 l
theorem crc_lt (l:List UInt8):crc l<4294967296:=by unfold crc;omega
def lnum:List UInt8→Nat
 | []=>0
 | c :: r=>c.toNat+256*lnum r
theorem num_lt (l:List UInt8):lnum l<2 ^ (8*l.length):=by
 induction l with
 | nil=>simp [lnum]
 | cons c r ih=>
  have e:2 ^ (8*(c :: r).length)=256*2 ^ (8*r.length):=by
   rw [show 8*(c :: r).length=8*r.length+8 by simp;omega,Nat.pow_add,Nat.mul_comm]
  have:=c.toNat_lt
  rw [lnum,e]
  omega
theorem num_inj (a b:List UInt8) (hl:a.length=b.length) (h:lnum a=lnum b):a=b:=by
 induction a generalizing b with
 | nil=>cases b with
  | nil=>rfl
  | cons=>simp at hl
 | cons c r ih=>cases b with
  | nil=>simp at hl
  | cons d s=>
   have h1:=c.toNat_lt
   have h2:=d.toNat_lt
   simp only [lnum] at h
   have h3:c.toNat=d.toNat:=by omega
   rw [UInt8.toNat_inj.1 h3,ih s (by simpa using hl) (by omega)]
theorem turn_xor (x:Nat) (h:x<4294967296):4294967295-x=4294967295 ^^^ x:=by
 apply Nat.eq_of_testBit_eq
 intro i
 have e1:=Nat.testBit_two_pow_sub_succ (n:=32) (x:=x) h i
 have e2:=Nat.testBit_two_pow_sub_one 32 i
 rw [show (4294967295:Nat)-x=2 ^ 32-(x+1) by omega,e1,Nat.testBit_xor,show (4294967295:Nat)=2 ^ 32-1 from rfl,e2]
 by_cases hi:i<32
 ·simp [hi]
 ·rw [Nat.testBit_lt_two_pow (x:=x) (Nat.lt_of_lt_of_le h (show 2 ^ 32≤2 ^ i from Nat.pow_le_pow_right (by decide) (by omega)))]
  simp [hi]
end Go.Proofs.YtcgjgjjegnofeaaGreatDoor
namespace Go.Proofs.YtcgjgjjegnofeaaGreatDoor
end Go.Proofs.YtcgjgjjegnofeaaGreatDoor
namespace Go.Proofs.YtcgjgjjegnofeaaGreatDoor
open Go.RowKit
theorem xor32 (a b:Nat) (ha:a<4294967296) (hb:b<4294967296):bits .xor .u32 (a:Int) (b:Int)=((a ^^^ b:Nat):Int):=by
 have h:=u32_xor (a:Int) (b:Int) (by omega) (by omega) (by omega) (by omega)
 simpa using h
theorem xor32_lt {a b:Nat} (ha:a<4294967296) (hb:b<4294967296):a ^^^ b<4294967296:=Nat.xor_lt_two_pow (n:=32) ha hb
theorem hlv_odd (y:Nat) (h:y % 2=1):hlv y=y / 2 ^^^ 3988292384:=by unfold hlv;rw [if_pos h]
theorem hlv_even (y:Nat) (h:¬y % 2=1):hlv y=y / 2:=by unfold hlv;rw [if_neg h]
theorem hlvs_left (k y:Nat) (h:k<8):hlvs (8-k) y=hlvs (8-(k+1)) (hlv y):=by
 rw [show 8-k=(8-(k+1))+1 by omega];rfl
set_option maxRecDepth 10000 in
set_option maxHeartbeats 400000 in
theorem refstep_to (x c z:Nat) (w:World) (hx:x<4294967296) (hc:c<256) (HZ:Hid (x ^^^ c=z)) :
  Calls Tryz.prog 106 #[.int .u32 x,.int .u8 c] w fun e w'=>e=.returned (.int .u32 (hlvs 8 z:Nat))∧w'=w:=by
 have k0:IntKind.u32.wrap (c:Int)=c:=by rw [IntKind.wrap_u32'];omega
 have k1:=xor32 x c hx (by omega)
 have hlt:x ^^^ c<4294967296:=xor32_lt hx (by omega)
 rw [HZ.out] at k1 hlt
 go_enter Tryz.func106,Tryz.ntmps106
 go_wp2
 clear k0 k1
 go_loop [0,5] (fun xv kv=>∃(y k:Nat),xv=.int .u32 y∧kv=.int .i64 k∧k≤8∧y<4294967296∧Hid (hlvs (8-k) y=hlvs 8 z)) (fun _ kv=>8-(intOf kv).toNat)
 case atStart=>exact ⟨z,0,rfl,rfl,by omega,hlt,rfl⟩
 case round=>
  obtain ⟨y,k,rfl,rfl,hk,hy,HE⟩:=hrel
  by_cases hk8:k<8
  ·have HL:Hid (hlvs (8-(k+1)) (hlv y)=hlvs 8 z):=by show _=_;rw [← hlvs_left k y hk8];exact HE.out
   have hl:=hlv_lt y hy
   by_cases ho:y % 2=1
   ·have k2:(y:Int) % 2=1:=by omega
    have k4:bits .xor .u32 ((y:Int) / 2) 3988292384=((hlv y:Nat):Int):=by
     have h:=xor32 (y / 2) 3988292384 (by omega) (by omega)
     rw [hlv_odd y ho,← h]
     rfl
    clear HE ho
    generalize hlv y=v at *
    go_wp2
    go_round
    case rel=>exact ⟨v,k+1,by go_num,by go_num,by omega,hl,HL⟩
    case measure=>simp [intOf];omega
   ·have k2:(y:Int) % 2=0:=by omega
    have k5:(y:Int) / 2=((hlv y:Nat):Int):=by rw [hlv_even y ho];omega
    clear HE ho
    generalize hlv y=v at *
    go_wp2
    go_round
    case rel=>exact ⟨v,k+1,by go_num,by go_num,by omega,hl,HL⟩
    case measure=>simp [intOf];omega
  ·obtain rfl:k=8:=by omega
   have HY:Hid (y=hlvs 8 z):=HE.out
   clear HE
   go_wp2
   go_ret
   refine ⟨?_,rfl⟩
   rw [← HY.out]
   rfl
theorem refstep_any (x c:Nat) (w:World) (hx:x<4294967296) (hc:c<256) :
  Calls Tryz.prog 106 #[.int .u32 x,.int .u8 c] w fun e w'=>e=.returned (.int .u32 (hlvs 8 (x ^^^ c):Nat))∧w'=w:=
 refstep_to x c _ w hx hc rfl
set_option maxRecDepth 10000 in
set_option maxHeartbeats 400000 in
theorem refsum_any (b:ByteArray) (w:World) (hb:b.size≤281474976710656) :
  Calls Tryz.prog 53 #[.string b] w fun e w'=>e=.returned (.int .u32 (crc b.data.toList:Nat))∧w'=w:=by
 go_enter Tryz.func53,Tryz.ntmps53
 go_wp2
 go_loop [3,4] (fun xv iv=>∃(x i:Nat),xv=.int .u32 x∧iv=.int .i64 i∧i≤b.size∧x<4294967296∧Hid (reg x (b.data.toList.drop i)=reg 4294967295 b.data.toList)) (fun _ iv=>b.size-(intOf iv).toNat)
 case atStart=>exact ⟨4294967295,0,rfl,rfl,by omega,by omega,rfl⟩
 case round=>
  obtain ⟨x,i,rfl,rfl,hi,hx,HE⟩:=hrel
  by_cases hlt:i<b.size
  ·have HN:Hid (reg (hlvs 8 (x ^^^ b[i].toNat)) (b.data.toList.drop (i+1))=reg 4294967295 b.data.toList):=by
    have h:=HE.out
    rw [drop_atB b i hlt] at h
    exact h
   have hc:=b[i].toNat_lt
   have hn:=hlvs_lt 8 _ (xor32_lt hx (show b[i].toNat<4294967296 by omega))
   have HS:Hid (∀W:World,Calls Tryz.prog 106 #[.int .u32 x,.int .u8 (b[i].toNat:Int)] W fun e w'=>e=.returned (.int .u32 (hlvs 8 (x ^^^ b[i].toNat):Nat))∧w'=W):=fun W=>refstep_any x b[i].toNat W hx hc
   generalize hlvs 8 (x ^^^ b[i].toNat)=v at *
   clear HE
   go_wp2_with fail
   refine (HS.out _).mono ?_
   rintro e w' ⟨rfl,rfl⟩
   go_wp2_with fail
   go_round
   case rel=>exact ⟨v,i+1,by go_num,by go_num,by omega,hn,HN⟩
   case measure=>simp [intOf];omega
  ·have HX:Hid (crc b.data.toList=4294967295-x):=by
    have h:=HE.out
    rw [drop_end b i (by omega)] at h
    show crc _=_
    unfold crc
    rw [← h]
    rfl
   clear HE
   have k1:IntKind.u32.wrap (4294967295-(x:Int))=((4294967295-x:Nat):Int):=by rw [IntKind.wrap_u32'];omega
   go_wp2
   go_ret
   refine ⟨?_,rfl⟩
   rw [HX.out]
   rfl
end Go.Proofs.YtcgjgjjegnofeaaGreatDoor
namespace Go.Proofs.YtcgjgjjegnofeaaGreatDoor
open Go.RowKit
def BRow (w:World) (e:TypeId) (g:Nat) (l:List UInt8):Prop:=∃cs:Array Value,w.heap[g]? = some (.cells cs e (cs.size,cs.size+1))∧l.length≤cs.size∧cs.toList.take l.length=bV l
theorem BRow.lt {w:World} {e:TypeId} {g:Nat} {l:List UInt8} (h:BRow w e g l):g<w.heap.size:=by
 obtain ⟨cs,h1,_⟩:=h
 exact (Array.getElem?_eq_some_iff.1 h1).1
theorem BRow.new (w:World) (e:TypeId) (s:ByteArray) (cap:Nat):BRow (w.drew.alloc (.cells (bytesRow s cap) e ((bytesRow s cap).size,(bytesRow s cap).size+1))) e w.heap.size s.data.toList:=by
 refine ⟨bytesRow s cap,heap_alloc_new w.drew _,?_,?_⟩
 ·unfold bytesRow;simp
 ·unfold bytesRow bV
  rw [Array.toList_append,List.take_append_of_le_length (by simp),List.take_of_length_le (by simp)]
  simp
theorem BRow.cell {w:World} {e:TypeId} {g:Nat} {l:List UInt8} (h:BRow w e g l) (j:Nat) (hj:j<l.length):w.cell? ⟨g,j,none⟩=some (.int .u8 (l[j].toNat:Int)):=by
 obtain ⟨cs,h1,h2,h3⟩:=h
 rw [cell_of_row w g j cs e _ h1]
 have h4:=congrArg (fun z=>z[j]?) h3
 simp only [List.getElem?_take,if_pos hj,bV,List.getElem?_map,List.getElem?_eq_getElem hj] at h4
 simpa using h4
theorem BRow.set {w:World} {e:TypeId} {g:Nat} {l:List UInt8} (h:BRow w e g l) (j:Nat) (c:UInt8):BRow (w.setCell ⟨g,j,none⟩ (.int .u8 (c.toNat:Int))) e g (l.set j c):=by
 obtain ⟨cs,h1,h2,h3⟩:=h
 refine ⟨cs.setIfInBounds j (.int .u8 (c.toNat:Int)),?_,by simpa using h2,?_⟩
 ·rw [Array.size_setIfInBounds]
  exact Lib.heap_setCell_same h1 _
 ·rw [Array.toList_setIfInBounds,List.length_set,List.take_set,h3]
  simp [bV,List.map_set]
theorem BRow.conv {P:Program} {w:World} {g:Nat} {l:List UInt8} (src dst e:TypeId) (hs:P.underlying src=some (.slice e)) (he:P.underlying e=some (.int .u8)) (hd:P.underlying dst=some .string) (h:BRow w e g l) (cap:Nat) :
  (convert src dst (.slice (some ⟨g,0,none⟩) l.length cap)).run P w=.ok (.string ⟨l.toArray⟩) w:=by
 refine run_convert_bytes_back w src dst e ⟨g,0,none⟩ cap l hs he hd ?_
 intro j hj
 have hadd:(⟨g,0,none⟩:Addr).add j=⟨g,j,none⟩:=by unfold Addr.add;split <;> simp_all
 rw [hadd]
 exact h.cell j hj
end Go.Proofs.YtcgjgjjegnofeaaGreatDoor
namespace Go.Proofs.YtcgjgjjegnofeaaGreatDoor
open Go.RowKit
theorem cinfo5:(Tryz.prog.info? 5).map (fun i=>(i.zero,i.size,i.bytes))=some (some (.int .u8 0),1,1):=by kernel_rfl
theorem conv_row {P:Program} {w:World} {base:Nat} {l:List UInt8} {g cap:Nat} (src dst e:TypeId) (hs:P.underlying src=some (.slice e)) (he:P.underlying e=some (.int .u8)) (hd:P.underlying dst=some .string)
  (h:w.ownsRow base e 1 (.slice (some ⟨g,0,none⟩) l.length cap) l.length (bV l)) :
  (convert src dst (.slice (some ⟨g,0,none⟩) l.length cap)).run P w=.ok (.string ⟨l.toArray⟩) w:=by
 refine run_convert_bytes_back w src dst e ⟨g,0,none⟩ cap l hs he hd ?_
 intro j hj
 have hadd:(⟨g,0,none⟩:Addr).add j=⟨g,j,none⟩:=by unfold Addr.add;split <;> simp_all
 rw [hadd,h.cellAt j (by omega)]
 simp [bV,hj]
def four (n:Nat):List UInt8:=[UInt8.ofNat (n % 256),UInt8.ofNat (n / 256 % 256),UInt8.ofNat (n / 65536 % 256),UInt8.ofNat (n / 16777216 % 256)]
theorem four_take (n k:Nat) (h:k<4):(four n).take (k+1)=(four n).take k++[UInt8.ofNat (n / 256 ^ k % 256)]:=by
 match k,h with
 | 0,_=>simp [four]
 | 1,_=>simp [four]
 | 2,_=>simp [four]
 | 3,_=>simp [four]
set_option maxRecDepth 10000 in
set_option maxHeartbeats 400000 in
theorem refput4_any (n:Nat) (w:World) (hn:n<4294967296) :
  Calls Tryz.prog 52 #[.int .u32 n] w fun e w'=>e=.returned (.string ⟨(four n).toArray⟩)∧Below w.heap.size w w':=by
 obtain ⟨i0,hi,hz0,hz1,hz2⟩:=info_parts cinfo5
 have hown0:(w.alloc (.cells #[] 5)).ownsRow w.heap.size 5 1 (.slice (some ⟨w.heap.size,0,none⟩) 0 0) 0 []:=World.ownsRow_lit w #[] 0 (Nat.le_refl _) (by decide) (by simp)
 have hbel:Below w.heap.size w (w.alloc (.cells #[] 5)):=(Below.refl _ _).alloc (Nat.le_refl _) _
 go_enter Tryz.func52,Tryz.ntmps52
 go_wp2_with fail
 go_loopw [0,3,4] (fun nv ov kv wr=>∃(m k g cap:Nat) (xs:List UInt8),nv=.int .u32 m∧ov=.slice (some ⟨g,0,none⟩) k cap∧kv=.int .i64 k∧k≤4∧m<4294967296∧Hid (m=n / 256 ^ k)∧Hid (xs.length=k)∧wr.ownsRow w.heap.size 5 1 (.slice (some ⟨g,0,none⟩) k cap) k (bV xs)∧Hid (xs=(four n).take k)∧Below w.heap.size w wr) (fun _ _ kv _=>4-(intOf kv).toNat)
 case atStart=>exact ⟨n,0,_,_,[],rfl,rfl,rfl,by omega,hn,by simp [Hid],rfl,hown0,rfl,hbel⟩
 case round=>
  clear hown0 hbel
  obtain ⟨m,k,g,cap,xs,rfl,rfl,rfl,hk,hm,HM,HL,hown,HX,hB⟩:=hrel
  by_cases hlt:k<4
  ·have HN:Hid (xs++[UInt8.ofNat (m % 256)]=(four n).take (k+1)):=by show _=_;rw [four_take n k hlt,HX.out,HM.out]
   have HQ:Hid (m / 256=n / 256 ^ (k+1)):=by show _=_;rw [HM.out,Nat.div_div_eq_div_mul,← Nat.pow_succ]
   have k1:(m:Int) % 256=((m % 256:Nat):Int):=by omega
   have k2:IntKind.u8.wrap ((m:Int) % 256)=(m:Int) % 256:=by rw [IntKind.wrap_u8'];omega
   clear HX HM k1
   go_wp2_with (at_builtin;refine wpList_append_lies _ rfl (.tmp 10) (.tmp 14) 90 rfl w.heap.size 5 i0 (.int .u8 0) 1 1 Tryz.underlying90 hi hz0 hz1 hz2 rfl (by decide) _ _ _ rfl (hown.alloc _) ⟨wr.heap.size,0,none⟩ 1 1 [.int .u8 ((m:Int) % 256)] rfl rfl (cell_one_new _ _ _) (by intro u hu;simp at hu;subst hu;rfl) (by decide) (by unfold maxLen;omega) (by omega) (by simp;exact Nat.le_succ_of_le hB.size) _ rfl ?_;intro g2 cap2 w2 hown2 hgrow2 _ _)
   have hB2:Below w.heap.size w w2:=below_own (hB.alloc hB.size _) (hown.alloc _) hgrow2 (by simp;exact Nat.le_succ_of_le hB.size)
   have hown3:w2.ownsRow w.heap.size 5 1 (.slice (some ⟨g2,0,none⟩) (k+1) cap2) (k+1) (bV (xs++[UInt8.ofNat (m % 256)])):=by
    rw [bV_snoc xs (m % 256) (by omega)];exact hown2
   clear hown2 hgrow2 hown
   go_wp2_with fail
   go_roundw
   case rel=>exact ⟨m / 256,k+1,g2,cap2,xs++[UInt8.ofNat (m % 256)],by go_num,rfl,by go_num,by omega,by omega,HQ,by show _=_;simp [HL.out],hown3,HN,hB2⟩
   case measure=>simp [intOf];omega
  ·obtain rfl:k=4:=by omega
   have hcv:=conv_row (P:=Tryz.prog) (l:=xs) (g:=g) (cap:=cap) 90 9 5 Tryz.underlying90 Tryz.underlying5 Tryz.underlying9 (by rw [HL.out];exact hown)
   rw [HL.out] at hcv
   have HE:Hid (xs=four n):=HX.out
   clear HX hown HL HM
   go_wp2_with fail
   go_ret
   exact ⟨by rw [← HE.out];rfl,hB⟩
end Go.Proofs.YtcgjgjjegnofeaaGreatDoor
namespace Go.Proofs.YtcgjgjjegnofeaaGreatDoor
open Go.RowKit
set_option maxRecDepth 10000 in
set_option maxHeartbeats 400000 in
theorem halve_any (y:Nat) (w:World) (hy:y<4294967296) :
  Calls Tryz.prog 171 #[.int .u32 y] w fun e w'=>e=.returned (.int .u32 (hlv y:Nat))∧w'=w:=by
 have k4:bits .xor .u32 ((y:Int) / 2) (3988292384*((y:Int) % 2))=((hlv y:Nat):Int):=by
  by_cases ho:y % 2=1
  ·have h:=xor32 (y / 2) 3988292384 (by omega) (by omega)
   rw [hlv_odd y ho,← h,show (3988292384*((y:Int) % 2))=((3988292384:Nat):Int) by omega]
   rfl
  ·have h:=xor32 (y / 2) 0 (by omega) (by omega)
   rw [hlv_even y ho,show (3988292384*((y:Int) % 2))=((0:Nat):Int) by omega]
   rw [Nat.xor_zero] at h
   exact h
 go_enter Tryz.func171,Tryz.ntmps171
 go_wp2_with fail
 go_ret
 exact ⟨rfl,rfl⟩
set_option maxRecDepth 10000 in
set_option maxHeartbeats 400000 in
theorem step_to (x c z:Nat) (w:World) (hx:x<4294967296) (hc:c<256) (HZ:Hid (x ^^^ c=z)) :
  Calls Tryz.prog 150 #[.int .u32 x,.int .u8 c] w fun e w'=>e=.returned (.int .u32 (hlvs 8 z:Nat))∧w'=w:=by
 have k0:IntKind.u32.wrap (c:Int)=c:=by rw [IntKind.wrap_u32'];omega
 have k1:=xor32 x c hx (by omega)
 have hlt:x ^^^ c<4294967296:=xor32_lt hx (by omega)
 rw [HZ.out] at k1 hlt
 go_enter Tryz.func150,Tryz.ntmps150
 go_wp2_with fail
 clear k0 k1
 go_loop [0,9] (fun xv kv=>∃(y k:Nat),xv=.int .u32 y∧kv=.int .i64 k∧k≤8∧y<4294967296∧Hid (hlvs (8-k) y=hlvs 8 z)) (fun _ kv=>8-(intOf kv).toNat)
 case atStart=>exact ⟨z,0,rfl,rfl,by omega,hlt,rfl⟩
 case round=>
  obtain ⟨y,k,rfl,rfl,hk,hy,HE⟩:=hrel
  by_cases hk8:k<8
  ·have HL:Hid (hlvs (8-(k+1)) (hlv y)=hlvs 8 z):=by show _=_;rw [← hlvs_left k y hk8];exact HE.out
   have hl:=hlv_lt y hy
   clear HE
   go_wp2_with fail
   refine (halve_any y _ hy).mono ?_
   rintro e w' ⟨rfl,rfl⟩
   go_wp2_with fail
   go_round
   case rel=>exact ⟨hlv y,k+1,by go_num,by go_num,by omega,hl,HL⟩
   case measure=>simp [intOf];omega
  ·obtain rfl:k=8:=by omega
   have HY:Hid (y=hlvs 8 z):=HE.out
   clear HE
   go_wp2_with fail
   go_ret
   refine ⟨?_,rfl⟩
   rw [← HY.out]
   rfl
theorem step_any (x c:Nat) (w:World) (hx:x<4294967296) (hc:c<256) :
  Calls Tryz.prog 150 #[.int .u32 x,.int .u8 c] w fun e w'=>e=.returned (.int .u32 (hlvs 8 (x ^^^ c):Nat))∧w'=w:=
 step_to x c _ w hx hc rfl
theorem not32 (s:Nat) (hs:s<4294967296):bits .xor .u32 IntKind.u32.max (s:Int)=((4294967295-s:Nat):Int):=by
 have h:=xor32 4294967295 s (by omega) hs
 rw [turn_xor s hs]
 exact h
set_option maxRecDepth 10000 in
set_option maxHeartbeats 400000 in
theorem more_to (s r0:Nat) (b:ByteArray) (w:World) (hs:s<4294967296) (hb:b.size≤281474976710656) (HR:Hid (4294967295-s=r0)) :
  Calls Tryz.prog 119 #[.int .u32 s,.string b] w fun e w'=>e=.returned (.int .u32 (4294967295-reg r0 b.data.toList:Nat))∧w'=w:=by
 have hn:=not32 s hs
 rw [HR.out] at hn
 have hr0:r0<4294967296:=by have:=HR.out;omega
 go_enter Tryz.func119,Tryz.ntmps119
 go_wp2_with fail
 clear hn
 go_loop [5,11] (fun xv iv=>∃(x i:Nat),xv=.int .u32 x∧iv=.int .i64 i∧i≤b.size∧x<4294967296∧Hid (reg x (b.data.toList.drop i)=reg r0 b.data.toList)) (fun _ iv=>b.size-(intOf iv).toNat)
 case atStart=>exact ⟨r0,0,rfl,rfl,by omega,hr0,rfl⟩
 case round=>
  obtain ⟨x,i,rfl,rfl,hi,hx,HE⟩:=hrel
  by_cases hlt:i<b.size
  ·have HN:Hid (reg (hlvs 8 (x ^^^ b[i].toNat)) (b.data.toList.drop (i+1))=reg r0 b.data.toList):=by
    have h:=HE.out
    rw [drop_atB b i hlt] at h
    exact h
   have hc:=b[i].toNat_lt
   have hn:=hlvs_lt 8 _ (xor32_lt hx (show b[i].toNat<4294967296 by omega))
   have HS:Hid (∀W:World,Calls Tryz.prog 150 #[.int .u32 x,.int .u8 (b[i].toNat:Int)] W fun e w'=>e=.returned (.int .u32 (hlvs 8 (x ^^^ b[i].toNat):Nat))∧w'=W):=fun W=>step_any x b[i].toNat W hx hc
   generalize hlvs 8 (x ^^^ b[i].toNat)=v at *
   clear HE
   go_wp2_with fail
   refine (HS.out _).mono ?_
   rintro e w' ⟨rfl,rfl⟩
   go_wp2_with fail
   go_round
   case rel=>exact ⟨v,i+1,by go_num,by go_num,by omega,hn,HN⟩
   case measure=>simp [intOf];omega
  ·have HX:Hid (x=reg r0 b.data.toList):=by
    have h:=HE.out
    rw [drop_end b i (by omega)] at h
    exact h
   clear HE
   have hn:=not32 x hx
   go_wp2_with fail
   go_ret
   refine ⟨?_,rfl⟩
   rw [← HX.out]
   rfl
theorem crc_turn (s:Nat) (l:List UInt8) (hs:s=crc l):4294967295-s=reg 4294967295 l:=by
 have h:=reg_lt 4294967295 l (by decide)
 rw [hs]
 unfold crc
 omega
theorem more_any (l:List UInt8) (b:ByteArray) (w:World) (hb:b.size≤281474976710656) :
  Calls Tryz.prog 119 #[.int .u32 (crc l:Nat),.string b] w fun e w'=>e=.returned (.int .u32 (crc (l++b.data.toList):Nat))∧Below w.heap.size w w':=by
 have h:=more_to (crc l) (reg 4294967295 l) b w (crc_lt l) hb (crc_turn _ l rfl)
 rw [← reg_append] at h
 refine h.mono ?_
 rintro e w' ⟨rfl,rfl⟩
 exact ⟨rfl,Below.refl _ _⟩
set_option maxRecDepth 10000 in
set_option maxHeartbeats 400000 in
theorem sum_any (b:ByteArray) (w:World) (hb:b.size≤281474976710656) :
  Calls Tryz.prog 72 #[.string b] w fun e w'=>e=.returned (.int .u32 (crc b.data.toList:Nat))∧Below w.heap.size w w':=by
 have h:=more_any [] b w hb
 rw [List.nil_append,show crc []=0 from rfl] at h
 have H:Hid (Calls Tryz.prog 119 #[.int .u32 0,.string b] w fun e w'=>e=.returned (.int .u32 (crc b.data.toList:Nat))∧Below w.heap.size w w'):=h
 clear h
 go_enter Tryz.func72,Tryz.ntmps72
 go_wp2_with fail
 refine Calls.mono H.out ?_
 rintro e w' ⟨rfl,hB⟩
 go_wp2_with fail
 go_ret
 exact ⟨rfl,hB⟩
theorem conv_four (P:Program) (w:World) (n:Nat) (hn:n<4294967296) (src dst e:TypeId) (hs:P.underlying src=some (.slice e)) (he:P.underlying e=some (.int .u8)) (hd:P.underlying dst=some .string) :
  (convert src dst (.slice (some ⟨w.heap.size,0,none⟩) 4 4)).run P (w.alloc (.cells #[.int .u8 ((n:Int) % 256),.int .u8 ((n:Int) / 256 % 256),.int .u8 ((n:Int) / 65536 % 256),.int .u8 ((n:Int) / 16777216)] e))=.ok (.string ⟨(four n).toArray⟩) (w.alloc (.cells #[.int .u8 ((n:Int) % 256),.int .u8 ((n:Int) / 256 % 256),.int .u8 ((n:Int) / 65536 % 256),.int .u8 ((n:Int) / 16777216)] e)):=by
 have hc : #[Value.int .u8 ((n:Int) % 256),.int .u8 ((n:Int) / 256 % 256),.int .u8 ((n:Int) / 65536 % 256),.int .u8 ((n:Int) / 16777216)].toList=bV (four n):=by
  simp [bV,four]
  omega
 refine run_convert_bytes_back _ src dst e ⟨w.heap.size,0,none⟩ 4 (four n) hs he hd ?_
 intro j hj
 have hadd:(⟨w.heap.size,0,none⟩:Addr).add j=⟨w.heap.size,j,none⟩:=by unfold Addr.add;split <;> simp_all
 rw [hadd,cell_of_row _ w.heap.size j _ e (0,0) (heap_alloc_new w _),← Array.getElem?_toList,hc]
 simp [bV,hj]
set_option maxRecDepth 10000 in
set_option maxHeartbeats 400000 in
theorem put4_any (n:Nat) (w:World) (hn:n<4294967296) :
  Calls Tryz.prog 71 #[.int .u32 n] w fun e w'=>e=.returned (.string ⟨(four n).toArray⟩)∧Below w.heap.size w w':=by
 have hcv:=conv_four Tryz.prog w n hn 90 9 5 Tryz.underlying90 Tryz.underlying5 Tryz.underlying9
 go_enter Tryz.func71,Tryz.ntmps71
 go_wp2_with fail
 go_ret
 exact ⟨rfl,(Below.refl _ _).alloc (Nat.le_refl _) _⟩
theorem or32 (a b:Nat) (ha:a<4294967296) (hb:b<4294967296):bits .or .u32 (a:Int) (b:Int)=((a ||| b:Nat):Int):=by
 have h:=u32_or (a:Int) (b:Int) (by omega) (by omega) (by omega) (by omega)
 simpa using h
theorem or_four (a b c d:Nat) (ha:a<256) (hb:b<256) (hc:c<256) (hd:d<256) :
  bits .or .u32 (bits .or .u32 (bits .or .u32 ((a:Int) % 4294967296) ((b:Int) % 4294967296*256 % 4294967296)) ((c:Int) % 4294967296*65536 % 4294967296)) ((d:Int) % 4294967296*16777216 % 4294967296)=((a+256*(b+256*(c+256*d)):Nat):Int):=by
 have e0:(a:Int) % 4294967296=(a:Int):=by omega
 have e1:(b:Int) % 4294967296*256 % 4294967296=((256*b:Nat):Int):=by omega
 have e2:(c:Int) % 4294967296*65536 % 4294967296=((65536*c:Nat):Int):=by omega
 have e3:(d:Int) % 4294967296*16777216 % 4294967296=((16777216*d:Nat):Int):=by omega
 have o1:a ||| 256*b=256*b+a:=by rw [Nat.or_comm];exact (Nat.two_pow_add_eq_or_of_lt (i:=8) (b:=a) ha b).symm
 have o2:(256*b+a) ||| 65536*c=65536*c+(256*b+a):=by rw [Nat.or_comm];exact (Nat.two_pow_add_eq_or_of_lt (i:=16) (b:=256*b+a) (by omega) c).symm
 have o3:(65536*c+(256*b+a)) ||| 16777216*d=16777216*d+(65536*c+(256*b+a)):=by rw [Nat.or_comm];exact (Nat.two_pow_add_eq_or_of_lt (i:=24) (b:=65536*c+(256*b+a)) (by omega) d).symm
 rw [e0,e1,e2,e3,or32 a (256*b) (by omega) (by omega),o1,or32 (256*b+a) (65536*c) (by omega) (by omega),o2,or32 (65536*c+(256*b+a)) (16777216*d) (by omega) (by omega),o3]
 omega
theorem num_four (b:ByteArray) (hb:b.size=4):lnum b.data.toList=b[0].toNat+256*(b[1].toNat+256*(b[2].toNat+256*b[3].toNat)):=by
 have h:b.data.toList=[b[0],b[1],b[2],b[3]]:=by
  apply List.ext_getElem
  ·simp [hb]
  ·intro i h1 h2
   simp at h2
   match i,h2 with
   | 0,_=>rfl
   | 1,_=>rfl
   | 2,_=>rfl
   | 3,_=>rfl
 rw [h]
 simp [lnum]
theorem num_of_four (n:Nat) (hn:n<4294967296):lnum (four n)=n:=by
 simp [lnum,four]
 omega
theorem four_of_num (b:ByteArray) (hb:b.size=4):four (lnum b.data.toList)=b.data.toList:=by
 apply num_inj
 ·simp [four,hb]
 ·rw [num_of_four _ (Nat.lt_of_lt_of_le (num_lt _) (by simp [hb]))]
set_option maxRecDepth 10000 in
set_option maxHeartbeats 400000 in
theorem get4_some (b:ByteArray) (w:World) (hb:b.size=4) :
  Calls Tryz.prog 124 #[.string b] w fun e w'=>e=.returned (.tuple #[.int .u32 (lnum b.data.toList:Nat),.bool true])∧Below w.heap.size w w':=by
 have ho:=or_four b[0].toNat b[1].toNat b[2].toNat b[3].toNat b[0].toNat_lt b[1].toNat_lt b[2].toNat_lt b[3].toNat_lt
 rw [← num_four b hb] at ho
 go_enter Tryz.func124,Tryz.ntmps124
 go_wp2_with fail
 go_quiet (fail)
 go_wp2_with fail
 go_ret2
 refine ⟨?_,below_drewN (Below.refl _ _) _⟩
 rw [← ho]
 rfl
set_option maxRecDepth 10000 in
set_option maxHeartbeats 400000 in
theorem get4_none (b:ByteArray) (w:World) (hb:¬b.size=4) :
  Calls Tryz.prog 124 #[.string b] w fun e w'=>e=.returned (.tuple #[.int .u32 0,.bool false])∧Below w.heap.size w w':=by
 have hI:¬(b.size:Int)=4:=by omega
 go_enter Tryz.func124,Tryz.ntmps124
 go_wp2_with fail
 go_ret2
 exact ⟨rfl,Below.refl _ _⟩
end Go.Proofs.YtcgjgjjegnofeaaGreatDoor
