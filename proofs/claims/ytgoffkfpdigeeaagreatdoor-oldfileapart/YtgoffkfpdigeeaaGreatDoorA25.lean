import Derived.Test.YtgoffkfpdigeeaaGreatDoorA24
import Derived.Test.YtgoffkfpdigeeaaGreatDoorA02
import Derived.Test.YtgoffkfpdigeeaaGreatDoorA17
import Derived.Test.YtgoffkfpdigeeaaGreatDoorA16
import Derived.Test.YtgoffkfpdigeeaaGreatDoorA21
import Derived.Test.YtgoffkfpdigeeaaGreatDoorA20
import Derived.Lib.QuietBelow
import Derived.BigQuiet
import Derived.Test.YtgoffkfpdigeeaaGreatDoorA08
import Derived.Test.YtgoffkfpdigeeaaGreatDoorA13
namespace Go.Proofs.YtgoffkfpdigeeaaGreatDoor
open Go.RowKit Go.Maps Go.WideMaps Go.Sort
def trn (n:Nat) (z:Int):Int:=wrap64 ((n:Int)-1-z)
def trnNd (n:Nat) (N:Nd):Nd:=⟨N.kind,N.ints,N.texts,N.kids.map (trn n)⟩
def tk (n:Nat) (l:List Int) (k:Nat):List Int:=(l.take k).map (trn n)++l.drop k
theorem tk_all (n:Nat) (l:List Int):tk n l l.length=l.map (trn n):=by simp [tk]
theorem tk_at (n:Nat) (l:List Int) (k:Nat) (h:k<l.length):(iV (tk n l k))[k]? = some (.int .i64 (l.getD k 0)):=by
 have h1:(tk n l k)[k]? = some (l.getD k 0):=by
  unfold tk
  rw [List.getElem?_append_right (by simp;omega)]
  simp [h,Nat.min_eq_left (Nat.le_of_lt h)]
 unfold iV
 rw [List.getElem?_map,h1]
 rfl
theorem tk_set (n:Nat) (l:List Int) (k:Nat) (h:k<l.length):(iV (tk n l k)).set k (.int .i64 (trn n (l.getD k 0)))=iV (tk n l (k+1)):=by
 have h1:(tk n l k).set k (trn n (l.getD k 0))=tk n l (k+1):=by
  unfold tk
  have hm:((l.take k).map (trn n)).length=k:=by simp;omega
  rw [List.set_append_right _ _ (by omega),hm,Nat.sub_self,List.take_add_one,List.getD_eq_getElem?_getD,List.getElem?_eq_getElem h,show l.drop k=l[k] :: l.drop (k+1) from List.drop_eq_getElem_cons h,List.map_append,List.append_assoc]
  rfl
 rw [← h1]
 unfold iV
 rw [List.map_set]
structure Tg (w:World) (B g:Nat) (N:Nd) (n k:Nat) (a1 a2 a3:Option Addr) (c1 c2 c3:Nat):Prop where
 nd:AtN 51 w g #[.int .i64 N.kind,.slice a1 N.ints.length c1,.slice a2 N.texts.length c2,.slice a3 N.kids.length c3]
 i:w.ownsRow B 2 1 (.slice a1 N.ints.length c1) N.ints.length (iV N.ints)
 t:w.ownsRow B 9 1 (.slice a2 N.texts.length c2) N.texts.length (tV N.texts)
 k:w.ownsRow B 3 1 (.slice a3 N.kids.length c3) N.kids.length (iV (tk n N.kids k))
theorem Tg.drew {w:World} {B g:Nat} {N:Nd} {n k:Nat} {a1 a2 a3:Option Addr} {c1 c2 c3:Nat} (h:Tg w B g N n k a1 a2 a3 c1 c2 c3):Tg w.drew B g N n k a1 a2 a3 c1 c2 c3:=⟨h.nd,h.i,h.t,h.k⟩
theorem Tg.next {w:World} {B g:Nat} {N:Nd} {n k:Nat} {a1 a2 a3:Option Addr} {c1 c2 c3:Nat} (h:Tg w B g N n k a1 a2 a3 c1 c2 c3) (hk:k<N.kids.length):∃q,a3=some ⟨q,0,none⟩∧w.cell? ⟨q,k,none⟩=some (.int .i64 (N.kids.getD k 0))∧w.frozen? ⟨q,k,none⟩=false∧B≤q∧q<w.heap.size∧
  Tg (w.setCell ⟨q,k,none⟩ (.int .i64 (trn n (N.kids.getD k 0)))) B g N n (k+1) a1 a2 a3 c1 c2 c3:=by
 obtain ⟨q,rfl,h1,h2,h3,h4,h5⟩:=own_store9 h.k k hk
 have hq:(Value.slice (some ⟨q,0,none⟩) N.kids.length c3).ownBlock=some q:=rfl
 refine ⟨q,rfl,by rw [h1,tk_at n N.kids k hk],h2,h3,h4,?_,?_,?_,?_⟩
 ·exact h.nd.setOther _ (fun e=>own_ne_at h.k h.nd (by decide) q hq e) _
 ·exact own_set h.i _ (fun r hr e=>own_apart9 h.k h.i (by decide) hq (by rw [hr];exact congrArg some e)) _
 ·exact own_set h.t _ (fun r hr e=>own_apart9 h.k h.t (by decide) hq (by rw [hr];exact congrArg some e)) _
 ·have:=h5 (.int .i64 (trn n (N.kids.getD k 0)))
  rwa [tk_set n N.kids k hk] at this
def trnNx (n:Nat) (N:Nd) (a1 a2 a3:Option Addr) (c1 c2 c3:Nat):Nx:=⟨trnNd n N,a1,c1,a2,c2,a3,c3⟩
theorem Tg.own {w:World} {B g:Nat} {N:Nd} {n:Nat} {a1 a2 a3:Option Addr} {c1 c2 c3:Nat} (h:Tg w B g N n N.kids.length a1 a2 a3 c1 c2 c3):OwnNx w B (trnNx n N a1 a2 a3 c1 c2 c3):=by
 refine ⟨h.i,h.t,?_⟩
 have:=h.k
 rw [tk_all] at this
 simpa [trnNx,trnNd] using this
end Go.Proofs.YtgoffkfpdigeeaaGreatDoor
namespace Go.Proofs.YtgoffkfpdigeeaaGreatDoor
open Go.RowKit Go.Maps Go.WideMaps Go.Sort
end Go.Proofs.YtgoffkfpdigeeaaGreatDoor
namespace Go.Proofs.YtgoffkfpdigeeaaGreatDoor
open Go.RowKit Go.Maps Go.WideMaps Go.Sort
theorem pIn_nd {L:List ByteArray} (h:L.Nodup) (s:ByteArray):(pIntern L s).Nodup:=by
 unfold pIntern
 by_cases q:idx6 s L<L.length
 ·rw [if_pos q];exact h
 ·rw [if_neg q,List.nodup_append]
  refine ⟨h,by simp,fun a ha b hb e=>?_⟩
  simp only [List.mem_singleton] at hb
  subst e hb
  exact q ((idx6_mem _ _).2 ha)
theorem foldlT_nd (T:List ByteArray):∀L:List ByteArray,L.Nodup→(T.foldl pIntern L).Nodup:=by
 induction T with
 | nil=>intro L h;exact h
 | cons x r ih=>
  intro L h
  rw [List.foldl_cons]
  exact ih _ (pIn_nd h x)
theorem itn_nd (T:List ByteArray):(itn T).Nodup:=foldlT_nd T [] List.nodup_nil
theorem itn_same {T U:List ByteArray} (h:∀s,s ∈ T↔s ∈ U):sum6 (itn T)=sum6 (itn U):=by
 have hp:(itn T).Perm (itn U):=(List.perm_ext_iff_of_nodup (itn_nd T) (itn_nd U)).2 (fun s=>by rw [itn_mem,itn_mem,h])
 exact List.Perm.sum_nat (hp.map ByteArray.size)
theorem allT_mem (X:List Nx) (s:ByteArray):s ∈ allT X↔∃i,i<X.length∧s ∈ (X.getD i noNx).nd.texts:=by
 unfold allT
 rw [List.mem_flatMap]
 constructor
 ·rintro ⟨x,hx,hs⟩
  obtain ⟨i,hi,rfl⟩:=List.getElem_of_mem hx
  exact ⟨i,hi,by rwa [List.getD_eq_getElem?_getD,List.getElem?_eq_getElem hi]⟩
 ·rintro ⟨i,hi,hs⟩
  rw [List.getD_eq_getElem?_getD,List.getElem?_eq_getElem hi] at hs
  exact ⟨X[i],List.getElem_mem hi,hs⟩
section
variable {X Y:List Nx} {p:Nat→Nat} {r:Int} {l:Lm} {d:Nat}
theorem Ren.txb (h:Ren X Y p):txb Y=txb X:=by
 refine itn_same fun s=>?_
 rw [allT_mem,allT_mem]
 constructor
 ·rintro ⟨j,hj,hs⟩
  rw [h.len] at hj
  obtain ⟨i,hi,rfl⟩:=h.per.onto j hj
  rw [h.nd i hi] at hs
  exact ⟨i,hi,hs⟩
 ·rintro ⟨i,hi,hs⟩
  exact ⟨p i,by rw [h.len];exact h.per.lt i hi,by rw [h.nd i hi];exact hs⟩
theorem Ren.fnx (h:Ren X Y p) (hX:FnX X):FnX Y:=fun j hj=>by
 rw [h.len] at hj
 obtain ⟨i,hi,rfl⟩:=h.per.onto j hj
 rw [h.nd i hi]
 exact hX i hi
theorem same_edg (h:Y.map Nx.nd=X.map Nx.nd):edg Y=edg X:=by
 have e:∀Z:List Nx,edg Z=((Z.map Nx.nd).map fun N=>N.kids.length).sum:=fun Z=>by simp [edg,Function.comp_def]
 rw [e,e,h]
theorem same_allT (h:Y.map Nx.nd=X.map Nx.nd):allT Y=allT X:=by
 have e:∀Z:List Nx,allT Z=(Z.map Nx.nd).flatMap fun N=>N.texts:=fun Z=>by simp [allT,List.flatMap_map]
 rw [e,e,h]
theorem same_txb (h:Y.map Nx.nd=X.map Nx.nd):txb Y=txb X:=by
 unfold txb
 rw [same_allT h]
theorem same_meL (h:Y.map Nx.nd=X.map Nx.nd):meL Y d=meL X d:=by
 unfold meL
 rw [same_len h,same_edg h,same_txb h]
end
def bare (P:List Nd):List Nx:=P.map fun N=>⟨N,none,0,none,0,none,0⟩
theorem bare_nd (P:List Nd):(bare P).map Nx.nd=P:=by
 unfold bare
 rw [List.map_map]
 exact List.map_id' P
theorem check_right {X:List Nx} {r:Int} (h:RightIs X r):CheckIs X r 0 0:=.inr (.inr ⟨h.1,h.2.1,.inr ⟨h.2.2.1,.inr ⟨rfl,rfl,h.2.2.2⟩⟩⟩)
end Go.Proofs.YtgoffkfpdigeeaaGreatDoor
namespace Go.Proofs.YtgoffkfpdigeeaaGreatDoor
open Go.RowKit Go.Maps Go.WideMaps Go.Sort
def WhoO (X:List Nx) (r:Int):Prop:=tyEo X=0∧RightIs X r
section
variable {X Y T:List Nx} {p:Nat→Nat} {r:Int} {l:Lm} {d d':Nat}
theorem VoIs.uniq {e z e' z':Int} (h:VoIs X r l d e z) (h':VoIs X r l d e' z'):e'=e∧z'=z:=by
 rcases h with ⟨h1,rfl,rfl⟩|⟨h1,h2,rfl,rfl⟩|⟨h1,h2,n,y,hc,h3⟩
 ·rcases h' with ⟨_,rfl,rfl⟩|⟨q,_⟩|⟨q,_⟩
  ·exact ⟨rfl,rfl⟩
  ·rw [h1] at q;cases q
  ·rw [h1] at q;cases q
 ·rcases h' with ⟨q,_⟩|⟨_,_,rfl,rfl⟩|⟨_,q,_⟩
  ·rw [h1] at q;cases q
  ·exact ⟨rfl,rfl⟩
  ·exact absurd q h2
 ·rcases h' with ⟨q,_⟩|⟨_,q,_⟩|⟨_,_,n',y',hc',h3'⟩
  ·rw [h1] at q;cases q
  ·exact absurd h2 q
  ·obtain ⟨rfl,rfl⟩:=hc.uniq hc'
   rcases h3 with ⟨p,rfl,rfl⟩|⟨p,⟨p1,rfl,rfl⟩|⟨p1,rfl,rfl⟩⟩
   ·rcases h3' with ⟨_,rfl,rfl⟩|⟨q,_⟩
    ·exact ⟨rfl,rfl⟩
    ·exact absurd q p
   ·rcases h3' with ⟨q,_⟩|⟨_,⟨_,rfl,rfl⟩|⟨q,_⟩⟩
    ·exact absurd p q
    ·exact ⟨rfl,rfl⟩
    ·rw [p1] at q;cases q
   ·rcases h3' with ⟨q,_⟩|⟨_,⟨q,_⟩|⟨_,rfl,rfl⟩⟩
    ·exact absurd p q
    ·rw [p1] at q;cases q
    ·exact ⟨rfl,rfl⟩
theorem VoIs.zero {e z:Int} (h:VoIs X r l d e z):e=0↔okL l=true∧WhoO X r∧inL (meL X d) l=true:=by
 rcases h with ⟨h1,rfl,rfl⟩|⟨h1,h2,rfl,rfl⟩|⟨h1,h2,n,y,hc,h3⟩
 ·exact ⟨fun q=>by omega,fun q=>by rw [h1] at q;exact absurd q.1 (by simp)⟩
 ·exact ⟨fun q=>absurd q h2,fun q=>absurd q.2.1.1 h2⟩
 ·have hr:=hc.right
  rcases h3 with ⟨p,rfl,rfl⟩|⟨p,⟨p1,rfl,rfl⟩|⟨p1,rfl,rfl⟩⟩
  ·exact ⟨fun q=>absurd q p,fun q=>absurd (hr.2 q.2.1.2) p⟩
  ·exact ⟨fun q=>by omega,fun q=>by rw [p1] at q;exact absurd q.2.2 (by simp)⟩
  ·exact ⟨fun _=>⟨h1,⟨h2,hr.1 p⟩,p1⟩,fun _=>rfl⟩
theorem vo_good (ho:okL l=true) (hW:WhoO X r) (hi:inL (meL X d) l=true):VoIs X r l d 0 0:=
 .inr (.inr ⟨ho,hW.1,0,0,check_right hW.2,.inr ⟨rfl,.inr ⟨hi,rfl,rfl⟩⟩⟩)
theorem same_tyGo:∀(X Y:List Nx) (k:Nat),Y.map Nx.nd=X.map Nx.nd→tyGo Y k=tyGo X k
 | [],[],_,_=>rfl
 | x :: t,y :: u,k,h=>by
  simp only [List.map_cons,List.cons.injEq] at h
  unfold tyGo
  rw [h.1,same_tyGo t u (k+1) h.2]
 | [],_ :: _,_,h=>by simp at h
 | _ :: _,[],_,h=>by simp at h
theorem same_tyEo (h:Y.map Nx.nd=X.map Nx.nd):tyEo Y=tyEo X:=congrArg Prod.fst (same_tyGo X Y 0 h)
theorem same_tyZo (h:Y.map Nx.nd=X.map Nx.nd):tyZo Y=tyZo X:=congrArg Prod.snd (same_tyGo X Y 0 h)
theorem same_vo (h:Y.map Nx.nd=X.map Nx.nd) {e z:Int} (hv:VoIs Y r l d e z):VoIs X r l d e z:=by
 unfold VoIs at hv ⊢
 rw [same_tyEo h,same_tyZo h,same_meL h] at hv
 rcases hv with q|q|⟨q1,q2,n,y,q3,q4⟩
 ·exact .inl q
 ·exact .inr (.inl q)
 ·exact .inr (.inr ⟨q1,q2,n,y,same_check h q3,q4⟩)
theorem tyGo_zero:∀(X:List Nx) (k:Nat),(tyGo X k).1=0↔∀x ∈ X,tyNo x.nd=0
 | [],_=>by simp [tyGo]
 | x :: t,k=>by
  unfold tyGo
  by_cases h:tyNo x.nd=0
  ·rw [if_pos h,tyGo_zero t (k+1)]
   simp [h]
  ·rw [if_neg h]
   simp [h]
theorem tyEo_iff (X:List Nx):tyEo X=0↔∀i,i<X.length→tyNo (X.getD i noNx).nd=0:=by
 unfold tyEo
 rw [tyGo_zero]
 constructor
 ·intro h i hi
  rw [List.getD_eq_getElem?_getD,List.getElem?_eq_getElem hi]
  exact h _ (List.getElem_mem hi)
 ·intro h x hx
  obtain ⟨i,hi,rfl⟩:=List.getElem_of_mem hx
  have:=h i hi
  rwa [List.getD_eq_getElem?_getD,List.getElem?_eq_getElem hi] at this
theorem ren_tyNo (f:Int→Int) (N:Nd):tyNo (renNd f N)=tyNo N:=by simp [tyNo,chkN,renNd]
theorem Ren.tyo (h:Ren X Y p):tyEo Y=0↔tyEo X=0:=by
 rw [tyEo_iff,tyEo_iff]
 constructor
 ·intro q i hi
  have:=q (p i) (by rw [h.len];exact h.per.lt i hi)
  rwa [h.nd i hi,ren_tyNo] at this
 ·intro q j hj
  rw [h.len] at hj
  obtain ⟨i,hi,rfl⟩:=h.per.onto j hj
  rw [h.nd i hi,ren_tyNo]
  exact q i hi
structure Flt (X T:List Nx) (r:Int):Prop where
 right:RightIs T 0
 can:cX T 0=cX X r
 len:T.length=X.length
 edg:Go.Proofs.YtgoffkfpdigeeaaGreatDoor.edg T=Go.Proofs.YtgoffkfpdigeeaaGreatDoor.edg X
 txb:Go.Proofs.YtgoffkfpdigeeaaGreatDoor.txb T=Go.Proofs.YtgoffkfpdigeeaaGreatDoor.txb X
 tyo:tyEo T=0↔tyEo X=0
 depth:∀d d',DepthIs X r d→DepthIs T 0 d'→d'=d
 small:Small X→Small T
 fnx:FnX X→FnX T
 fwd:∀i,i<T.length→∀z ∈ (T.getD i noNx).nd.kids,(i:Int)<z
theorem Flt.meL (h:Flt X T r):meL T d=Go.Proofs.YtgoffkfpdigeeaaGreatDoor.meL X d:=by
 unfold Go.Proofs.YtgoffkfpdigeeaaGreatDoor.meL
 rw [h.len,h.edg,h.txb]
def FowIs (X:List Nx) (r:Int):Prop:=RightIs X r∧r=0∧∀i,i<X.length→∀z ∈ (X.getD i noNx).nd.kids,(i:Int)<z
theorem FowIs.none (h:FowIs X r):∀i,i<X.length→∀z ∈ (X.getD i noNx).nd.kids,z≠0:=fun i hi z hz q=>by
 have:=h.2.2 i hi z hz
 omega
theorem same_fw (h:Y.map Nx.nd=X.map Nx.nd):FowIs Y r↔FowIs X r:=by
 unfold FowIs
 rw [same_right h,same_len h]
 simp only [same_nd h]
end
end Go.Proofs.YtgoffkfpdigeeaaGreatDoor
namespace Go.Proofs.YtgoffkfpdigeeaaGreatDoor
theorem body_mem (L:List Sec) (s:Sec) (h:s ∈ L):s.2.size≤(bodyL L).length:=by
 induction L with
 | nil=>simp at h
 | cons t r ih=>
  simp only [bodyL,List.length_append]
  rcases List.mem_cons.1 h with rfl|h
  ·have:=secL_length s;omega
  ·have:=ih h;omega
theorem pPut_sizes (m:ByteArray) (v:Int) (L:List Sec) (h:(pPut m v L).2=0):L.length≤8∧∀s ∈ L,s.2.size≤(pPut m v L).1.length:=by
 obtain ⟨_,_,_,h4,_,h6⟩:=pPut_ok m v L h
 refine ⟨h4,fun s hs=>?_⟩
 have:=body_mem L s hs
 rw [h6]
 simp
 omega
end Go.Proofs.YtgoffkfpdigeeaaGreatDoor
namespace Go.Proofs.YtgoffkfpdigeeaaGreatDoor
end Go.Proofs.YtgoffkfpdigeeaaGreatDoor
namespace Go.Proofs.YtgoffkfpdigeeaaGreatDoor
open Go.RowKit Go.Maps Go.WideMaps Go.Sort
def oS (R:ByteArray):List Sec:=[(1,R)]
def oC (P:List Nd):ByteArray:=⟨(oR P).toArray⟩
def oF (P:List Nd):ByteArray:=⟨(pPut mD 1 (oS (oC P))).1.toArray⟩
theorem oC_list (P:List Nd):(oC P).data.toList=oR P:=List.toList_toArray
theorem oF_list (P:List Nd):(oF P).data.toList=(pPut mD 1 (oS (oC P))).1:=List.toList_toArray
def SoIs (X:List Nx) (r:Int) (l:Lm) (B:ByteArray) (e:Int):Prop:=
 ∃d n z,DepthIs X r d∧VoIs X r l d n z∧((n≠0∧e=n∧B=⟨#[]⟩)∨(n=0∧((¬FowIs X r∧e=16∧B=⟨#[]⟩)∨(FowIs X r∧((l.b<(oF (X.map Nx.nd)).size∧e=19∧B=⟨#[]⟩)∨(¬l.b<(oF (X.map Nx.nd)).size∧e=0∧B=oF (X.map Nx.nd)))))))
theorem SoIs.uniq {X:List Nx} {r:Int} {l:Lm} {B B':ByteArray} {e e':Int} (h:SoIs X r l B e) (h':SoIs X r l B' e'):B'=B∧e'=e:=by
 obtain ⟨d,n,z,h1,h2,h3⟩:=h
 obtain ⟨d',n',z',g1,g2,g3⟩:=h'
 have hd:=h1.only g1
 subst hd
 obtain ⟨rfl,rfl⟩:=h2.uniq g2
 rcases h3 with ⟨a,rfl,rfl⟩|⟨a,⟨b,rfl,rfl⟩|⟨b,⟨c,rfl,rfl⟩|⟨c,rfl,rfl⟩⟩⟩
 ·rcases g3 with ⟨_,rfl,rfl⟩|⟨q,_⟩
  ·exact ⟨rfl,rfl⟩
  ·exact absurd q a
 ·rcases g3 with ⟨q,_⟩|⟨_,⟨_,rfl,rfl⟩|⟨q,_⟩⟩
  ·exact absurd a q
  ·exact ⟨rfl,rfl⟩
  ·exact absurd q b
 ·rcases g3 with ⟨q,_⟩|⟨_,⟨q,_⟩|⟨_,⟨_,rfl,rfl⟩|⟨q,_⟩⟩⟩
  ·exact absurd a q
  ·exact absurd b q
  ·exact ⟨rfl,rfl⟩
  ·exact absurd c q
 ·rcases g3 with ⟨q,_⟩|⟨_,⟨q,_⟩|⟨_,⟨q,_⟩|⟨_,rfl,rfl⟩⟩⟩
  ·exact absurd a q
  ·exact absurd b q
  ·exact absurd q c
  ·exact ⟨rfl,rfl⟩
theorem SoIs.same {X Y:List Nx} {r:Int} {l:Lm} {B:ByteArray} {e:Int} (h:Y.map Nx.nd=X.map Nx.nd) (hs:SoIs Y r l B e):SoIs X r l B e:=by
 obtain ⟨d,n,z,h1,h2,h3⟩:=hs
 rw [same_fw h,h] at h3
 exact ⟨d,n,z,same_depth h h1,same_vo h h2,h3⟩
def opK (b:ByteArray) (l:Lm):Int × ByteArray:=
 if okL l=false then (1,⟨#[]⟩) else if l.b<b.size then (19,⟨#[]⟩) else
 if (pGet mD.data.toList b.data.toList).1≠0 then ((pGet mD.data.toList b.data.toList).1,⟨#[]⟩) else
 if (pGet mD.data.toList b.data.toList).2.1≠1 then (7,⟨#[]⟩) else
 match (pGet mD.data.toList b.data.toList).2.2 with
 | [s]=>if s.1=1 then (0,s.2) else (4,⟨#[]⟩)
 | _=>(4,⟨#[]⟩)
def PyIs (R:ByteArray) (l:Lm) (P:List Nd) (e:Int):Prop:=
 ((oPay R l.n l.e l.x).2≠0∧e=(oPay R l.n l.e l.x).2∧P=[])∨((oPay R l.n l.e l.x).2=0∧
  ∃d n z,DepthIs (bare (oPay R l.n l.e l.x).1) 0 d∧CheckIs (bare (oPay R l.n l.e l.x).1) 0 n z∧((n≠0∧e=n∧P=[])∨(n=0∧((inL (meL (bare (oPay R l.n l.e l.x).1) d) l=false∧e=19∧P=[])∨(inL (meL (bare (oPay R l.n l.e l.x).1) d) l=true∧e=0∧P=(oPay R l.n l.e l.x).1)))))
def LoIs (b:ByteArray) (l:Lm) (P:List Nd) (e:Int):Prop:=((opK b l).1≠0∧e=(opK b l).1∧P=[])∨((opK b l).1=0∧PyIs (opK b l).2 l P e)
theorem PyIs.uniq {R:ByteArray} {l:Lm} {P P':List Nd} {e e':Int} (h:PyIs R l P e) (h':PyIs R l P' e'):P'=P∧e'=e:=by
 rcases h with ⟨a,rfl,rfl⟩|⟨a,d,n,z,h1,h2,h3⟩
 ·rcases h' with ⟨_,rfl,rfl⟩|⟨q,_⟩
  ·exact ⟨rfl,rfl⟩
  ·exact absurd q a
 ·rcases h' with ⟨q,_⟩|⟨_,d',n',z',g1,g2,g3⟩
  ·exact absurd a q
  ·have hd:=h1.only g1
   subst hd
   obtain ⟨rfl,rfl⟩:=h2.uniq g2
   rcases h3 with ⟨p,rfl,rfl⟩|⟨p,⟨p1,rfl,rfl⟩|⟨p1,rfl,rfl⟩⟩
   ·rcases g3 with ⟨_,rfl,rfl⟩|⟨q,_⟩
    ·exact ⟨rfl,rfl⟩
    ·exact absurd q p
   ·rcases g3 with ⟨q,_⟩|⟨_,⟨_,rfl,rfl⟩|⟨q,_⟩⟩
    ·exact absurd p q
    ·exact ⟨rfl,rfl⟩
    ·rw [p1] at q;cases q
   ·rcases g3 with ⟨q,_⟩|⟨_,⟨q,_⟩|⟨_,rfl,rfl⟩⟩
    ·exact absurd p q
    ·rw [p1] at q;cases q
    ·exact ⟨rfl,rfl⟩
theorem LoIs.uniq {b:ByteArray} {l:Lm} {P P':List Nd} {e e':Int} (h:LoIs b l P e) (h':LoIs b l P' e'):P'=P∧e'=e:=by
 rcases h with ⟨a,rfl,rfl⟩|⟨a,h⟩
 ·rcases h' with ⟨_,rfl,rfl⟩|⟨q,_⟩
  ·exact ⟨rfl,rfl⟩
  ·exact absurd q a
 ·rcases h' with ⟨q,_⟩|⟨_,h'⟩
  ·exact absurd a q
  ·exact h.uniq h'
section
variable (b:ByteArray) (l:Lm)
theorem opK_1 (h:okL l=false):(opK b l).1=1:=by unfold opK;rw [if_pos h]
theorem opK_2 (h1:okL l=true) (h:l.b<(b.size:Int)):(opK b l).1=19:=by unfold opK;rw [if_neg (by simp [h1]),if_pos h]
theorem opK_3 (h1:okL l=true) (h2:¬l.b<(b.size:Int)) (h:(pGet mD.data.toList b.data.toList).1≠0):(opK b l).1=(pGet mD.data.toList b.data.toList).1:=by unfold opK;rw [if_neg (by simp [h1]),if_neg h2,if_pos h]
theorem opK_4 (h1:okL l=true) (h2:¬l.b<(b.size:Int)) (h3:(pGet mD.data.toList b.data.toList).1=0) (h:(pGet mD.data.toList b.data.toList).2.1≠1):(opK b l).1=7:=by unfold opK;rw [if_neg (by simp [h1]),if_neg h2,if_neg (by simp [h3]),if_pos h]
theorem opK_5 (h1:okL l=true) (h2:¬l.b<(b.size:Int)) (h3:(pGet mD.data.toList b.data.toList).1=0) (h4:(pGet mD.data.toList b.data.toList).2.1=1) (h:¬∃s,(pGet mD.data.toList b.data.toList).2.2=[s]∧s.1=1):(opK b l).1=4:=by
 unfold opK
 rw [if_neg (by simp [h1]),if_neg h2,if_neg (by simp [h3]),if_neg (by simp [h4])]
 split
 ·rename_i s hs
  rw [if_neg (fun q=>h ⟨s,hs,q⟩)]
 ·rfl
theorem opK_6 (h1:okL l=true) (h2:¬l.b<(b.size:Int)) (h3:(pGet mD.data.toList b.data.toList).1=0) (h4:(pGet mD.data.toList b.data.toList).2.1=1) {R:ByteArray} (h:(pGet mD.data.toList b.data.toList).2.2=[(1,R)]):opK b l=(0,R):=by
 unfold opK
 rw [if_neg (by simp [h1]),if_neg h2,if_neg (by simp [h3]),if_neg (by simp [h4]),h]
 exact if_pos rfl
end
theorem opK_inv {b:ByteArray} {l:Lm} (h:(opK b l).1=0):okL l=true∧¬l.b<(b.size:Int)∧pGet mD.data.toList b.data.toList=(0,1,oS (opK b l).2):=by
 cases h0:okL l with
 | false=>unfold opK at h;rw [if_pos h0] at h;cases h
 | true=>
 obtain ⟨E,V,S,hG⟩:∃E V S,pGet mD.data.toList b.data.toList=(E,V,S):=⟨_,_,_,rfl⟩
 unfold opK at h ⊢
 rw [if_neg (by simp [h0]),hG] at h ⊢
 dsimp only at h ⊢
 split at h
 ·cases h
 rename_i h1
 rw [if_neg h1]
 split at h
 ·rename_i q;exact absurd (by simpa using h) q
 rename_i h2
 rw [if_neg h2]
 split at h
 ·cases h
 rename_i h3
 rw [if_neg h3]
 simp only [ne_eq,Decidable.not_not] at h2 h3
 match S,h with
 | [s],h=>
  dsimp only at h ⊢
  split at h
  ·rename_i h4
   rw [if_pos h4]
   obtain ⟨s1,s2⟩:=s
   subst h4
   exact ⟨rfl,h1,by rw [h2,h3];rfl⟩
  ·cases h
 | [],h=>cases h
 | _ :: _ :: _,h=>cases h
theorem ofile_of {b:ByteArray} {l:Lm} (h:(opK b l).1=0):b.data.toList=(pPut mD 1 (oS (opK b l).2)).1∧(opK b l).2.size≤b.size:=by
 obtain ⟨_,_,h3⟩:=opK_inv h
 have h4:=one_math mD b.data.toList (by rw [h3])
 rw [h3] at h4
 dsimp only at h4
 have h5:pPut mD 1 (oS (opK b l).2)=(b.data.toList,0):=h4
 have h6:=(pPut_sizes mD 1 (oS (opK b l).2) (by rw [h5])).2
 rw [h5] at h6
 dsimp only at h6
 rw [list_size] at h6
 exact ⟨by rw [h5],h6 (1,_) (by simp [oS])⟩
theorem oS_put {R:ByteArray} (hR:R.size≤16777216):(pPut mD 1 (oS R)).2=0:=by
 rw [pPut_of mD 1 (oS R) rfl (by decide) (by decide) (by simp [oS]) (fun s hs=>by
  simp only [oS,List.mem_cons,List.not_mem_nil,or_false] at hs
  subst hs
  exact ⟨by show (1:Int)≤1;decide,by show (1:Int)≤255;decide,hR⟩)]
theorem opK_put {R:ByteArray} {l:Lm} (ho:okL l=true) (hR:R.size≤16777216) (hb:¬l.b<((⟨(pPut mD 1 (oS R)).1.toArray⟩:ByteArray).size:Int)):opK ⟨(pPut mD 1 (oS R)).1.toArray⟩ l=(0,R):=by
 have h1:=back_math mD 1 (oS R) (oS_put hR)
 have h2:(⟨(pPut mD 1 (oS R)).1.toArray⟩:ByteArray).data.toList=(pPut mD 1 (oS R)).1:=List.toList_toArray
 refine opK_6 _ _ ho hb (by rw [h2,h1]) (by rw [h2,h1];rfl) (by rw [h2,h1];rfl)
theorem eN_edg (X:List Nx):eN (X.map Nx.nd)=edg X:=by simp [eN,edg,Function.comp_def]
theorem mem_sum6:∀(L:List ByteArray) (s:ByteArray),s ∈ L→s.size≤sum6 L
 | x :: L,s,h=>by
  have e:sum6 (x :: L)=x.size+sum6 L:=by simp [sum6]
  rcases List.mem_cons.1 h with rfl|h
  ·omega
  ·have:=mem_sum6 L s h
   omega
theorem txt_le {X:List Nx} {i:Nat} (hi:i<X.length) {s:ByteArray} (hs:s ∈ (X.getD i noNx).nd.texts):s.size≤txb X:=
 mem_sum6 _ s ((itn_mem _ _).2 ((allT_mem X s).2 ⟨i,hi,hs⟩))
theorem nd_at {X:List Nx} {i:Nat} {N:Nd} (h:(X.map Nx.nd)[i]? = some N):i<X.length∧N=(X.getD i noNx).nd:=by
 rw [List.getElem?_map] at h
 by_cases hi:i<X.length
 ·rw [List.getElem?_eq_getElem hi] at h
  refine ⟨hi,?_⟩
  rw [List.getD_eq_getElem?_getD,List.getElem?_eq_getElem hi]
  simpa using h.symm
 ·rw [List.getElem?_eq_none (by omega)] at h
  cases h
theorem okp_of {X:List Nx} {l:Lm} {d:Nat} (hS:Small X) (hF:FnX X) (hW:tyEo X=0) (hf:FowIs X 0) (_ho:okL l=true) (hi:inL (meL X d) l=true):OkP (X.map Nx.nd) l.n l.e l.x:=by
 obtain ⟨_,i1,i2,i3,i4⟩:=of_decide_eq_true (show decide (inP (meL X d) l)=true from hi)
 have j1:(X.length:Int)≤l.n:=i1
 have j2:((edg X:Nat):Int)≤l.e:=i2
 have j4:((txb X:Nat):Int)≤l.x:=i4
 have hn:=hS.1
 have hlen:(X.map Nx.nd).length=X.length:=List.length_map _
 have hp:=isPb_iff.1 hf.1.1
 refine ⟨fun i N hN=>?_,fun q=>?_,by omega,by omega,by rw [eN_edg];exact j2⟩
 ·obtain ⟨hi,rfl⟩:=nd_at hN
  have hb:=big_no (hS.2 i hi)
  refine ⟨(tyEo_iff X).1 hW i hi,hF i hi,fun z hz=>⟨hf.2.2 i hi z hz,?_⟩,by have:=hb.2.2.1;omega,fun s hs=>?_⟩
  ·rw [hlen]
   have:=kid_place hf.1.2.1 hi hz
   omega
  ·have h1:=txt_le hi hs
   have h2:=hb.2.2.2 s hs
   omega
 ·have:=congrArg List.length q
  rw [hlen] at this
  simp at this
  subst this
  simp at hp
theorem back_ofile {X:List Nx} {l:Lm} {d:Nat} (hS:Small X) (hF:FnX X) (hW:tyEo X=0) (hf:FowIs X 0) (hd:DepthIs X 0 d) (ho:okL l=true) (hi:inL (meL X d) l=true) (hz:(oC (X.map Nx.nd)).size≤16777216) (hb:¬l.b<((oF (X.map Nx.nd)).size:Int)):LoIs (oF (X.map Nx.nd)) l (X.map Nx.nd) 0:=by
 have hk:opK (oF (X.map Nx.nd)) l=(0,oC (X.map Nx.nd)):=opK_put ho hz hb
 have hp:=oPay_put (oC_list (X.map Nx.nd)) (okp_of hS hF hW hf ho hi)
 have hs:(bare (X.map Nx.nd)).map Nx.nd=X.map Nx.nd:=bare_nd _
 refine .inr ⟨by rw [hk],?_⟩
 rw [hk]
 refine .inr ⟨by rw [hp],d,0,0,?_,?_,.inr ⟨rfl,.inr ⟨?_,rfl,by rw [hp]⟩⟩⟩
 ·rw [hp]
  exact same_depth hs.symm hd
 ·rw [hp]
  exact check_right ((same_right hs).2 hf.1)
 ·rw [hp]
  rw [same_meL hs]
  exact hi
end Go.Proofs.YtgoffkfpdigeeaaGreatDoor
namespace Go.Proofs.YtgoffkfpdigeeaaGreatDoor
open Go.RowKit Go.Maps Go.WideMaps Go.Sort
theorem mem_getD {α : Type} (l:List α) (d : α) {j:Nat} (h:j<l.length):l.getD j d ∈ l:=by
 rw [List.getD_eq_getElem?_getD,List.getElem?_eq_getElem h]
 exact List.getElem_mem h
structure SmN (N:Nd):Prop where
 k0:0≤N.kind
 k1:N.kind≤6
 i:N.ints.length≤4
 fn:fine N.ints
 t:N.texts.length≤2
 s:∀i,i<N.texts.length→(N.texts.getD i noT).size≤3000
 k:N.kids.length≤3000
 z:∀i,i<N.kids.length→0≤N.kids.getD i 0∧N.kids.getD i 0≤1401
theorem smn_of {X:List Nx} {r:Int} (hX:Small X) (hF:FnX X) (hW:tyEo X=0) (hR:RightIs X r) (i:Nat) (hi:i<X.length):SmN (X.getD i noNx).nd:=by
 obtain ⟨h1,h2,h3,_⟩:=tyNo_zero ((tyEo_iff X).1 hW i hi)
 have hk:=oldSp_kind h1
 have hsm:=oldSp_small (X.getD i noNx).nd.kind
 have hb:=big_no (hX.2 i hi)
 unfold fitI at h2
 rw [Bool.and_eq_true,decide_eq_true_eq] at h2
 unfold fitT at h3
 rw [Bool.and_eq_true,decide_eq_true_eq] at h3
 have hn:=hX.1
 refine ⟨by omega,hk.2,by omega,hF i hi,by omega,fun j hj=>?_,hb.2.2.1,fun j hj=>?_⟩
 ·exact hb.2.2.2 _ (mem_getD _ _ hj)
 ·have:=kid_place hR.2.1 hi (z:=(X.getD i noNx).nd.kids.getD j 0) (mem_getD _ _ hj)
  omega
end Go.Proofs.YtgoffkfpdigeeaaGreatDoor
