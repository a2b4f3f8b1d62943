import Derived.Test.YtgoffkfpdigeeaaGreatDoorL20
import Derived.Test.YtgoffkfpdigeeaaGreatDoorL27
import Derived.Test.YtgoffkfpdigeeaaGreatDoorL22
import Derived.Test.YtgoffkfpdigeeaaGreatDoorL23
namespace Go.Proofs.YtgoffkfpdigeeaaGreatDoor
open Go.RowKit Go.Maps Go.WideMaps Go.Sort
def WhoO (X:List Nx) (r:Int):Prop:=tyEo X=0∧RightIs X r
section
variable {X Y T:List Nx} {p:Nat→Nat} {r:Int} {l:Lm} {d d':Nat}
theorem VoIs.uniq {e z e' z':Int} (h:VoIs X r l d e z) (h':VoIs X r l d e' z'):e'=e∧z'=z:=by
 rcases h with ⟨h1,rfl,rfl⟩|⟨h1,h2,rfl,rfl⟩|⟨h1,h2,n,y,hc,h3⟩
 ·rcases h' with ⟨_,rfl,rfl⟩|⟨q,_⟩|⟨q,_⟩
  ·exact ⟨rfl,rfl⟩
  ·rw [h1] at q;cases q
  ·rw [h1] at q;cases q
 ·rcases h' with ⟨q,_⟩|⟨_,_,rfl,rfl⟩|⟨_,q,_⟩
  ·rw [h1] at q;cases q
  ·exact ⟨rfl,rfl⟩
  ·exact absurd q h2
 ·rcases h' with ⟨q,_⟩|⟨_,q,_⟩|⟨_,_,n',y',hc',h3'⟩
  ·rw [h1] at q;cases q
  ·exact absurd h2 q
  ·obtain ⟨rfl,rfl⟩:=hc.uniq hc'
   rcases h3 with ⟨p,rfl,rfl⟩|⟨p,⟨p1,rfl,rfl⟩|⟨p1,rfl,rfl⟩⟩
   ·rcases h3' with ⟨_,rfl,rfl⟩|⟨q,_⟩
    ·exact ⟨rfl,rfl⟩
    ·exact absurd q p
   ·rcases h3' with ⟨q,_⟩|⟨_,⟨_,rfl,rfl⟩|⟨q,_⟩⟩
    ·exact absurd p q
    ·exact ⟨rfl,rfl⟩
    ·rw [p1] at q;cases q
   ·rcases h3' with ⟨q,_⟩|⟨_,⟨q,_⟩|⟨_,rfl,rfl⟩⟩
    ·exact absurd p q
    ·rw [p1] at q;cases q
    ·exact ⟨rfl,rfl⟩
theorem VoIs.zero {e z:Int} (h:VoIs X r l d e z):e=0↔okL l=true∧WhoO X r∧inL (meL X d) l=true:=by
 rcases h with ⟨h1,rfl,rfl⟩|⟨h1,h2,rfl,rfl⟩|⟨h1,h2,n,y,hc,h3⟩
 ·exact ⟨fun q=>by omega,fun q=>by rw [h1] at q;exact absurd q.1 (by simp)⟩
 ·exact ⟨fun q=>absurd q h2,fun q=>absurd q.2.1.1 h2⟩
 ·have hr:=hc.right
  rcases h3 with ⟨p,rfl,rfl⟩|⟨p,⟨p1,rfl,rfl⟩|⟨p1,rfl,rfl⟩⟩
  ·exact ⟨fun q=>absurd q p,fun q=>absurd (hr.2 q.2.1.2) p⟩
  ·exact ⟨fun q=>by omega,fun q=>by rw [p1] at q;exact absurd q.2.2 (by simp)⟩
  ·exact ⟨fun _=>⟨h1,⟨h2,hr.1 p⟩,p1⟩,fun _=>rfl⟩
theorem vo_good (ho:okL l=true) (hW:WhoO X r) (hi:inL (meL X d) l=true):VoIs X r l d 0 0:=
 .inr (.inr ⟨ho,hW.1,0,0,check_right hW.2,.inr ⟨rfl,.inr ⟨hi,rfl,rfl⟩⟩⟩)
theorem same_tyGo:∀(X Y:List Nx) (k:Nat),Y.map Nx.nd=X.map Nx.nd→tyGo Y k=tyGo X k
 | [],[],_,_=>rfl
 | x :: t,y :: u,k,h=>by
  simp only [List.map_cons,List.cons.injEq] at h
  unfold tyGo
  rw [h.1,same_tyGo t u (k+1) h.2]
 | [],_ :: _,_,h=>by simp at h
 | _ :: _,[],_,h=>by simp at h
theorem same_tyEo (h:Y.map Nx.nd=X.map Nx.nd):tyEo Y=tyEo X:=congrArg Prod.fst (same_tyGo X Y 0 h)
theorem same_tyZo (h:Y.map Nx.nd=X.map Nx.nd):tyZo Y=tyZo X:=congrArg Prod.snd (same_tyGo X Y 0 h)
theorem same_vo (h:Y.map Nx.nd=X.map Nx.nd) {e z:Int} (hv:VoIs Y r l d e z):VoIs X r l d e z:=by
 unfold VoIs at hv ⊢
 rw [same_tyEo h,same_tyZo h,same_meL h] at hv
 rcases hv with q|q|⟨q1,q2,n,y,q3,q4⟩
 ·exact .inl q
 ·exact .inr (.inl q)
 ·exact .inr (.inr ⟨q1,q2,n,y,same_check h q3,q4⟩)
theorem tyGo_zero:∀(X:List Nx) (k:Nat),(tyGo X k).1=0↔∀x ∈ X,tyNo x.nd=0
 | [],_=>by simp [tyGo]
 | x :: t,k=>by
  unfold tyGo
  by_cases h:tyNo x.nd=0
  ·rw [if_pos h,tyGo_zero t (k+1)]
   simp [h]
  ·rw [if_neg h]
   simp [h]
theorem tyEo_iff (X:List Nx):tyEo X=0↔∀i,i<X.length→tyNo (X.getD i noNx).nd=0:=by
 unfold tyEo
 rw [tyGo_zero]
 constructor
 ·intro h i hi
  rw [List.getD_eq_getElem?_getD,List.getElem?_eq_getElem hi]
  exact h _ (List.getElem_mem hi)
 ·intro h x hx
  obtain ⟨i,hi,rfl⟩:=List.getElem_of_mem hx
  have:=h i hi
  rwa [List.getD_eq_getElem?_getD,List.getElem?_eq_getElem hi] at this
theorem ren_tyNo (f:Int→Int) (N:Nd):tyNo (renNd f N)=tyNo N:=by simp [tyNo,chkN,renNd]
theorem Ren.tyo (h:Ren X Y p):tyEo Y=0↔tyEo X=0:=by
 rw [tyEo_iff,tyEo_iff]
 constructor
 ·intro q i hi
  have:=q (p i) (by rw [h.len];exact h.per.lt i hi)
  rwa [h.nd i hi,ren_tyNo] at this
 ·intro q j hj
  rw [h.len] at hj
  obtain ⟨i,hi,rfl⟩:=h.per.onto j hj
  rw [h.nd i hi,ren_tyNo]
  exact q i hi
structure Flt (X T:List Nx) (r:Int):Prop where
 right:RightIs T 0
 can:cX T 0=cX X r
 len:T.length=X.length
 edg:Go.Proofs.YtgoffkfpdigeeaaGreatDoor.edg T=Go.Proofs.YtgoffkfpdigeeaaGreatDoor.edg X
 txb:Go.Proofs.YtgoffkfpdigeeaaGreatDoor.txb T=Go.Proofs.YtgoffkfpdigeeaaGreatDoor.txb X
 tyo:tyEo T=0↔tyEo X=0
 depth:∀d d',DepthIs X r d→DepthIs T 0 d'→d'=d
 small:Small X→Small T
 fnx:FnX X→FnX T
 fwd:∀i,i<T.length→∀z ∈ (T.getD i noNx).nd.kids,(i:Int)<z
theorem flt_of (hX:Small X) (hR:RightIs X r) (hT:T.map Nx.nd=fX X r):Flt X T r:=by
 have hY:=bare_nd (cX X r)
 have h1:=can_ren hR hY
 have hl:(bare (cX X r)).length=X.length:=h1.len
 have hRY:=can_right hR hY
 have hYs:=h1.small hX
 have hTl:T.length=X.length:=by
  have:=congrArg List.length hT
  unfold fX at this
  rw [List.length_map,List.length_reverse,List.length_map] at this
  rw [this,← hl]
  unfold bare
  rw [List.length_map]
 have hTn:∀j,j<(bare (cX X r)).length→(T.getD j noNx).nd=trnNd (bare (cX X r)).length ((bare (cX X r)).getD ((bare (cX X r)).length-1-j) noNx).nd:=fun j hj=>by
  have h3:=map_at (X:=T) (j:=j) (by omega)
  have h4:=map_at (X:=bare (cX X r)) (j:=(bare (cX X r)).length-1-j) (by omega)
  rw [hY] at h4
  rw [hT] at h3
  unfold fX at h3
  have hc:(cX X r).length=X.length:=by rw [← hY,List.length_map,hl]
  rw [List.getElem?_reverse (by rw [List.length_map];omega),List.length_map,List.getElem?_map,hc,← hl,h4] at h3
  exact (Option.some.inj h3).symm
 obtain ⟨h2,h2r⟩:=turn_ren hYs hRY (by rw [hTl,hl]) hTn
 have h0:(((bare (cX X r)).length-1-((X.length:Int)-1).toNat:Nat):Int)=0:=by
  have hp:=hR.1
  have:=of_decide_eq_true (show decide (0≤r∧r<X.length)=true from hp)
  omega
 have hRT:=h2.right hRY
 have hcT:=h2.can hRY
 rw [h0] at hRT hcT
 refine ⟨hRT,by rw [hcT];exact can_can hR hY,hTl,by rw [h2.edg,h1.edg],by rw [h2.txb,h1.txb],h2.tyo.trans h1.tyo,fun d d' hd hd'=>?_,fun _=>h2.small hYs,fun hF=>h2.fnx (h1.fnx hF),fun i hi z hz=>?_⟩
 ·have hdY:=can_depth hR hY hd
  rw [← h0] at hd'
  exact h2.depth hRY hdY hd'
 ·have hi2:i<(bare (cX X r)).length:=by omega
  rw [hTn i hi2] at hz
  simp only [trnNd] at hz
  obtain ⟨t,ht,rfl⟩:=List.mem_map.1 hz
  have h5:=can_ahead hR hY ((bare (cX X r)).length-1-i) (by omega) t ht
  have hn:=hYs.1
  have h6:=(trn_place (n:=(bare (cX X r)).length) (z:=t) hn (isPb_iff.2 (by omega))).2
  rw [h6]
  omega
theorem Flt.meL (h:Flt X T r):meL T d=Go.Proofs.YtgoffkfpdigeeaaGreatDoor.meL X d:=by
 unfold Go.Proofs.YtgoffkfpdigeeaaGreatDoor.meL
 rw [h.len,h.edg,h.txb]
def FowIs (X:List Nx) (r:Int):Prop:=RightIs X r∧r=0∧∀i,i<X.length→∀z ∈ (X.getD i noNx).nd.kids,(i:Int)<z
theorem Flt.fw (h:Flt X T r):FowIs T 0:=⟨h.right,rfl,h.fwd⟩
theorem FowIs.none (h:FowIs X r):∀i,i<X.length→∀z ∈ (X.getD i noNx).nd.kids,z≠0:=fun i hi z hz q=>by
 have:=h.2.2 i hi z hz
 omega
theorem same_fw (h:Y.map Nx.nd=X.map Nx.nd):FowIs Y r↔FowIs X r:=by
 unfold FowIs
 rw [same_right h,same_len h]
 simp only [same_nd h]
end
end Go.Proofs.YtgoffkfpdigeeaaGreatDoor
namespace Go.Proofs.YtgoffkfpdigeeaaGreatDoor
theorem body_mem (L:List Sec) (s:Sec) (h:s ∈ L):s.2.size≤(bodyL L).length:=by
 induction L with
 | nil=>simp at h
 | cons t r ih=>
  simp only [bodyL,List.length_append]
  rcases List.mem_cons.1 h with rfl|h
  ·have:=secL_length s;omega
  ·have:=ih h;omega
theorem pPut_sizes (m:ByteArray) (v:Int) (L:List Sec) (h:(pPut m v L).2=0):L.length≤8∧∀s ∈ L,s.2.size≤(pPut m v L).1.length:=by
 obtain ⟨_,_,_,h4,_,h6⟩:=pPut_ok m v L h
 refine ⟨h4,fun s hs=>?_⟩
 have:=body_mem L s hs
 rw [h6]
 simp
 omega
end Go.Proofs.YtgoffkfpdigeeaaGreatDoor
namespace Go.Proofs.YtgoffkfpdigeeaaGreatDoor
end Go.Proofs.YtgoffkfpdigeeaaGreatDoor
namespace Go.Proofs.YtgoffkfpdigeeaaGreatDoor
open Go.RowKit Go.Maps Go.WideMaps Go.Sort
def oS (R:ByteArray):List Sec:=[(1,R)]
def oC (P:List Nd):ByteArray:=⟨(oR P).toArray⟩
def oF (P:List Nd):ByteArray:=⟨(pPut mD 1 (oS (oC P))).1.toArray⟩
theorem oC_list (P:List Nd):(oC P).data.toList=oR P:=List.toList_toArray
theorem oF_list (P:List Nd):(oF P).data.toList=(pPut mD 1 (oS (oC P))).1:=List.toList_toArray
def SoIs (X:List Nx) (r:Int) (l:Lm) (B:ByteArray) (e:Int):Prop:=
 ∃d n z,DepthIs X r d∧VoIs X r l d n z∧((n≠0∧e=n∧B=⟨#[]⟩)∨(n=0∧((¬FowIs X r∧e=16∧B=⟨#[]⟩)∨(FowIs X r∧((l.b<(oF (X.map Nx.nd)).size∧e=19∧B=⟨#[]⟩)∨(¬l.b<(oF (X.map Nx.nd)).size∧e=0∧B=oF (X.map Nx.nd)))))))
theorem SoIs.uniq {X:List Nx} {r:Int} {l:Lm} {B B':ByteArray} {e e':Int} (h:SoIs X r l B e) (h':SoIs X r l B' e'):B'=B∧e'=e:=by
 obtain ⟨d,n,z,h1,h2,h3⟩:=h
 obtain ⟨d',n',z',g1,g2,g3⟩:=h'
 have hd:=h1.only g1
 subst hd
 obtain ⟨rfl,rfl⟩:=h2.uniq g2
 rcases h3 with ⟨a,rfl,rfl⟩|⟨a,⟨b,rfl,rfl⟩|⟨b,⟨c,rfl,rfl⟩|⟨c,rfl,rfl⟩⟩⟩
 ·rcases g3 with ⟨_,rfl,rfl⟩|⟨q,_⟩
  ·exact ⟨rfl,rfl⟩
  ·exact absurd q a
 ·rcases g3 with ⟨q,_⟩|⟨_,⟨_,rfl,rfl⟩|⟨q,_⟩⟩
  ·exact absurd a q
  ·exact ⟨rfl,rfl⟩
  ·exact absurd q b
 ·rcases g3 with ⟨q,_⟩|⟨_,⟨q,_⟩|⟨_,⟨_,rfl,rfl⟩|⟨q,_⟩⟩⟩
  ·exact absurd a q
  ·exact absurd b q
  ·exact ⟨rfl,rfl⟩
  ·exact absurd c q
 ·rcases g3 with ⟨q,_⟩|⟨_,⟨q,_⟩|⟨_,⟨q,_⟩|⟨_,rfl,rfl⟩⟩⟩
  ·exact absurd a q
  ·exact absurd b q
  ·exact absurd q c
  ·exact ⟨rfl,rfl⟩
theorem SoIs.same {X Y:List Nx} {r:Int} {l:Lm} {B:ByteArray} {e:Int} (h:Y.map Nx.nd=X.map Nx.nd) (hs:SoIs Y r l B e):SoIs X r l B e:=by
 obtain ⟨d,n,z,h1,h2,h3⟩:=hs
 rw [same_fw h,h] at h3
 exact ⟨d,n,z,same_depth h h1,same_vo h h2,h3⟩
def opK (b:ByteArray) (l:Lm):Int × ByteArray:=
 if okL l=false then (1,⟨#[]⟩) else if l.b<b.size then (19,⟨#[]⟩) else
 if (pGet mD.data.toList b.data.toList).1≠0 then ((pGet mD.data.toList b.data.toList).1,⟨#[]⟩) else
 if (pGet mD.data.toList b.data.toList).2.1≠1 then (7,⟨#[]⟩) else
 match (pGet mD.data.toList b.data.toList).2.2 with
 | [s]=>if s.1=1 then (0,s.2) else (4,⟨#[]⟩)
 | _=>(4,⟨#[]⟩)
def PyIs (R:ByteArray) (l:Lm) (P:List Nd) (e:Int):Prop:=
 ((oPay R l.n l.e l.x).2≠0∧e=(oPay R l.n l.e l.x).2∧P=[])∨((oPay R l.n l.e l.x).2=0∧
  ∃d n z,DepthIs (bare (oPay R l.n l.e l.x).1) 0 d∧CheckIs (bare (oPay R l.n l.e l.x).1) 0 n z∧((n≠0∧e=n∧P=[])∨(n=0∧((inL (meL (bare (oPay R l.n l.e l.x).1) d) l=false∧e=19∧P=[])∨(inL (meL (bare (oPay R l.n l.e l.x).1) d) l=true∧e=0∧P=(oPay R l.n l.e l.x).1)))))
def LoIs (b:ByteArray) (l:Lm) (P:List Nd) (e:Int):Prop:=((opK b l).1≠0∧e=(opK b l).1∧P=[])∨((opK b l).1=0∧PyIs (opK b l).2 l P e)
theorem PyIs.uniq {R:ByteArray} {l:Lm} {P P':List Nd} {e e':Int} (h:PyIs R l P e) (h':PyIs R l P' e'):P'=P∧e'=e:=by
 rcases h with ⟨a,rfl,rfl⟩|⟨a,d,n,z,h1,h2,h3⟩
 ·rcases h' with ⟨_,rfl,rfl⟩|⟨q,_⟩
  ·exact ⟨rfl,rfl⟩
  ·exact absurd q a
 ·rcases h' with ⟨q,_⟩|⟨_,d',n',z',g1,g2,g3⟩
  ·exact absurd a q
  ·have hd:=h1.only g1
   subst hd
   obtain ⟨rfl,rfl⟩:=h2.uniq g2
   rcases h3 with ⟨p,rfl,rfl⟩|⟨p,⟨p1,rfl,rfl⟩|⟨p1,rfl,rfl⟩⟩
   ·rcases g3 with ⟨_,rfl,rfl⟩|⟨q,_⟩
    ·exact ⟨rfl,rfl⟩
    ·exact absurd q p
   ·rcases g3 with ⟨q,_⟩|⟨_,⟨_,rfl,rfl⟩|⟨q,_⟩⟩
    ·exact absurd p q
    ·exact ⟨rfl,rfl⟩
    ·rw [p1] at q;cases q
   ·rcases g3 with ⟨q,_⟩|⟨_,⟨q,_⟩|⟨_,rfl,rfl⟩⟩
    ·exact absurd p q
    ·rw [p1] at q;cases q
    ·exact ⟨rfl,rfl⟩
theorem LoIs.uniq {b:ByteArray} {l:Lm} {P P':List Nd} {e e':Int} (h:LoIs b l P e) (h':LoIs b l P' e'):P'=P∧e'=e:=by
 rcases h with ⟨a,rfl,rfl⟩|⟨a,h⟩
 ·rcases h' with ⟨_,rfl,rfl⟩|⟨q,_⟩
  ·exact ⟨rfl,rfl⟩
  ·exact absurd q a
 ·rcases h' with ⟨q,_⟩|⟨_,h'⟩
  ·exact absurd a q
  ·exact h.uniq h'
section
variable (b:ByteArray) (l:Lm)
theorem opK_1 (h:okL l=false):(opK b l).1=1:=by unfold opK;rw [if_pos h]
theorem opK_2 (h1:okL l=true) (h:l.b<(b.size:Int)):(opK b l).1=19:=by unfold opK;rw [if_neg (by simp [h1]),if_pos h]
theorem opK_3 (h1:okL l=true) (h2:¬l.b<(b.size:Int)) (h:(pGet mD.data.toList b.data.toList).1≠0):(opK b l).1=(pGet mD.data.toList b.data.toList).1:=by unfold opK;rw [if_neg (by simp [h1]),if_neg h2,if_pos h]
theorem opK_4 (h1:okL l=true) (h2:¬l.b<(b.size:Int)) (h3:(pGet mD.data.toList b.data.toList).1=0) (h:(pGet mD.data.toList b.data.toList).2.1≠1):(opK b l).1=7:=by unfold opK;rw [if_neg (by simp [h1]),if_neg h2,if_neg (by simp [h3]),if_pos h]
theorem opK_5 (h1:okL l=true) (h2:¬l.b<(b.size:Int)) (h3:(pGet mD.data.toList b.data.toList).1=0) (h4:(pGet mD.data.toList b.data.toList).2.1=1) (h:¬∃s,(pGet mD.data.toList b.data.toList).2.2=[s]∧s.1=1):(opK b l).1=4:=by
 unfold opK
 rw [if_neg (by simp [h1]),if_neg h2,if_neg (by simp [h3]),if_neg (by simp [h4])]
 split
 ·rename_i s hs
  rw [if_neg (fun q=>h ⟨s,hs,q⟩)]
 ·rfl
theorem opK_6 (h1:okL l=true) (h2:¬l.b<(b.size:Int)) (h3:(pGet mD.data.toList b.data.toList).1=0) (h4:(pGet mD.data.toList b.data.toList).2.1=1) {R:ByteArray} (h:(pGet mD.data.toList b.data.toList).2.2=[(1,R)]):opK b l=(0,R):=by
 unfold opK
 rw [if_neg (by simp [h1]),if_neg h2,if_neg (by simp [h3]),if_neg (by simp [h4]),h]
 exact if_pos rfl
end
theorem opK_inv {b:ByteArray} {l:Lm} (h:(opK b l).1=0):okL l=true∧¬l.b<(b.size:Int)∧pGet mD.data.toList b.data.toList=(0,1,oS (opK b l).2):=by
 cases h0:okL l with
 | false=>unfold opK at h;rw [if_pos h0] at h;cases h
 | true=>
 obtain ⟨E,V,S,hG⟩:∃E V S,pGet mD.data.toList b.data.toList=(E,V,S):=⟨_,_,_,rfl⟩
 unfold opK at h ⊢
 rw [if_neg (by simp [h0]),hG] at h ⊢
 dsimp only at h ⊢
 split at h
 ·cases h
 rename_i h1
 rw [if_neg h1]
 split at h
 ·rename_i q;exact absurd (by simpa using h) q
 rename_i h2
 rw [if_neg h2]
 split at h
 ·cases h
 rename_i h3
 rw [if_neg h3]
 simp only [ne_eq,Decidable.not_not] at h2 h3
 match S,h with
 | [s],h=>
  dsimp only at h ⊢
  split at h
  ·rename_i h4
   rw [if_pos h4]
   obtain ⟨s1,s2⟩:=s
   subst h4
   exact ⟨rfl,h1,by rw [h2,h3];rfl⟩
  ·cases h
 | [],h=>cases h
 | _ :: _ :: _,h=>cases h
theorem ofile_of {b:ByteArray} {l:Lm} (h:(opK b l).1=0):b.data.toList=(pPut mD 1 (oS (opK b l).2)).1∧(opK b l).2.size≤b.size:=by
 obtain ⟨_,_,h3⟩:=opK_inv h
 have h4:=one_math mD b.data.toList (by rw [h3])
 rw [h3] at h4
 dsimp only at h4
 have h5:pPut mD 1 (oS (opK b l).2)=(b.data.toList,0):=h4
 have h6:=(pPut_sizes mD 1 (oS (opK b l).2) (by rw [h5])).2
 rw [h5] at h6
 dsimp only at h6
 rw [list_size] at h6
 exact ⟨by rw [h5],h6 (1,_) (by simp [oS])⟩
theorem oS_put {R:ByteArray} (hR:R.size≤16777216):(pPut mD 1 (oS R)).2=0:=by
 rw [pPut_of mD 1 (oS R) rfl (by decide) (by decide) (by simp [oS]) (fun s hs=>by
  simp only [oS,List.mem_cons,List.not_mem_nil,or_false] at hs
  subst hs
  exact ⟨by show (1:Int)≤1;decide,by show (1:Int)≤255;decide,hR⟩)]
theorem opK_put {R:ByteArray} {l:Lm} (ho:okL l=true) (hR:R.size≤16777216) (hb:¬l.b<((⟨(pPut mD 1 (oS R)).1.toArray⟩:ByteArray).size:Int)):opK ⟨(pPut mD 1 (oS R)).1.toArray⟩ l=(0,R):=by
 have h1:=back_math mD 1 (oS R) (oS_put hR)
 have h2:(⟨(pPut mD 1 (oS R)).1.toArray⟩:ByteArray).data.toList=(pPut mD 1 (oS R)).1:=List.toList_toArray
 refine opK_6 _ _ ho hb (by rw [h2,h1]) (by rw [h2,h1];rfl) (by rw [h2,h1];rfl)
theorem eN_edg (X:List Nx):eN (X.map Nx.nd)=edg X:=by simp [eN,edg,Function.comp_def]
theorem mem_sum6:∀(L:List ByteArray) (s:ByteArray),s ∈ L→s.size≤sum6 L
 | x :: L,s,h=>by
  have e:sum6 (x :: L)=x.size+sum6 L:=by simp [sum6]
  rcases List.mem_cons.1 h with rfl|h
  ·omega
  ·have:=mem_sum6 L s h
   omega
theorem txt_le {X:List Nx} {i:Nat} (hi:i<X.length) {s:ByteArray} (hs:s ∈ (X.getD i noNx).nd.texts):s.size≤txb X:=
 mem_sum6 _ s ((itn_mem _ _).2 ((allT_mem X s).2 ⟨i,hi,hs⟩))
theorem nd_at {X:List Nx} {i:Nat} {N:Nd} (h:(X.map Nx.nd)[i]? = some N):i<X.length∧N=(X.getD i noNx).nd:=by
 rw [List.getElem?_map] at h
 by_cases hi:i<X.length
 ·rw [List.getElem?_eq_getElem hi] at h
  refine ⟨hi,?_⟩
  rw [List.getD_eq_getElem?_getD,List.getElem?_eq_getElem hi]
  simpa using h.symm
 ·rw [List.getElem?_eq_none (by omega)] at h
  cases h
theorem okp_of {X:List Nx} {l:Lm} {d:Nat} (hS:Small X) (hF:FnX X) (hW:tyEo X=0) (hf:FowIs X 0) (_ho:okL l=true) (hi:inL (meL X d) l=true):OkP (X.map Nx.nd) l.n l.e l.x:=by
 obtain ⟨_,i1,i2,i3,i4⟩:=of_decide_eq_true (show decide (inP (meL X d) l)=true from hi)
 have j1:(X.length:Int)≤l.n:=i1
 have j2:((edg X:Nat):Int)≤l.e:=i2
 have j4:((txb X:Nat):Int)≤l.x:=i4
 have hn:=hS.1
 have hlen:(X.map Nx.nd).length=X.length:=List.length_map _
 have hp:=isPb_iff.1 hf.1.1
 refine ⟨fun i N hN=>?_,fun q=>?_,by omega,by omega,by rw [eN_edg];exact j2⟩
 ·obtain ⟨hi,rfl⟩:=nd_at hN
  have hb:=big_no (hS.2 i hi)
  refine ⟨(tyEo_iff X).1 hW i hi,hF i hi,fun z hz=>⟨hf.2.2 i hi z hz,?_⟩,by have:=hb.2.2.1;omega,fun s hs=>?_⟩
  ·rw [hlen]
   have:=kid_place hf.1.2.1 hi hz
   omega
  ·have h1:=txt_le hi hs
   have h2:=hb.2.2.2 s hs
   omega
 ·have:=congrArg List.length q
  rw [hlen] at this
  simp at this
  subst this
  simp at hp
theorem back_ofile {X:List Nx} {l:Lm} {d:Nat} (hS:Small X) (hF:FnX X) (hW:tyEo X=0) (hf:FowIs X 0) (hd:DepthIs X 0 d) (ho:okL l=true) (hi:inL (meL X d) l=true) (hz:(oC (X.map Nx.nd)).size≤16777216) (hb:¬l.b<((oF (X.map Nx.nd)).size:Int)):LoIs (oF (X.map Nx.nd)) l (X.map Nx.nd) 0:=by
 have hk:opK (oF (X.map Nx.nd)) l=(0,oC (X.map Nx.nd)):=opK_put ho hz hb
 have hp:=oPay_put (oC_list (X.map Nx.nd)) (okp_of hS hF hW hf ho hi)
 have hs:(bare (X.map Nx.nd)).map Nx.nd=X.map Nx.nd:=bare_nd _
 refine .inr ⟨by rw [hk],?_⟩
 rw [hk]
 refine .inr ⟨by rw [hp],d,0,0,?_,?_,.inr ⟨rfl,.inr ⟨?_,rfl,by rw [hp]⟩⟩⟩
 ·rw [hp]
  exact same_depth hs.symm hd
 ·rw [hp]
  exact check_right ((same_right hs).2 hf.1)
 ·rw [hp]
  rw [same_meL hs]
  exact hi
end Go.Proofs.YtgoffkfpdigeeaaGreatDoor
