import Derived.Test.YtgoffkfpdigeeaaDoorP18
import Derived.Test.YtgoffkfpdigeeaaDoorP21
import Derived.Lib.QuietBelow
import Derived.BigQuiet
import Derived.Test.YtgoffkfpdigeeaaDoorP07
import Derived.Test.YtgoffkfpdigeeaaDoorP10
import Derived.Stop.Joined
import Derived.LaidMore
import Derived.SevenTiedAt
import Derived.Test.YtgoffkfpdigeeaaDoorP13
import Derived.Test.YtgoffkfpdigeeaaDoorP09
namespace Go.Proofs.YtgoffkfpdigeeaaDoor
open Go.RowKit Go.Maps Go.WideMaps Go.Sort
def oS (R:ByteArray):List Sec:=[(1,R)]
def oC (P:List Nd):ByteArray:=⟨(oR P).toArray⟩
def oF (P:List Nd):ByteArray:=⟨(pPut mD 1 (oS (oC P))).1.toArray⟩
theorem oC_list (P:List Nd):(oC P).data.toList=oR P:=List.toList_toArray
theorem oF_list (P:List Nd):(oF P).data.toList=(pPut mD 1 (oS (oC P))).1:=List.toList_toArray
def SoIs (X:List Nx) (r:Int) (l:Lm) (B:ByteArray) (e:Int):Prop:=
 ∃d n z,DepthIs X r d∧VoIs X r l d n z∧((n≠0∧e=n∧B=⟨#[]⟩)∨(n=0∧((¬FowIs X r∧e=16∧B=⟨#[]⟩)∨(FowIs X r∧((l.b<(oF (X.map Nx.nd)).size∧e=19∧B=⟨#[]⟩)∨(¬l.b<(oF (X.map Nx.nd)).size∧e=0∧B=oF (X.map Nx.nd)))))))
theorem SoIs.uniq {X:List Nx} {r:Int} {l:Lm} {B B':ByteArray} {e e':Int} (h:SoIs X r l B e) (h':SoIs X r l B' e'):B'=B∧e'=e:=by
 obtain ⟨d,n,z,h1,h2,h3⟩:=h
 obtain ⟨d',n',z',g1,g2,g3⟩:=h'
 have hd:=h1.only g1
 subst hd
 obtain ⟨rfl,rfl⟩:=h2.uniq g2
 rcases h3 with ⟨a,rfl,rfl⟩|⟨a,⟨b,rfl,rfl⟩|⟨b,⟨c,rfl,rfl⟩|⟨c,rfl,rfl⟩⟩⟩
 ·rcases g3 with ⟨_,rfl,rfl⟩|⟨q,_⟩
  ·exact ⟨rfl,rfl⟩
  ·exact absurd q a
 ·rcases g3 with ⟨q,_⟩|⟨_,⟨_,rfl,rfl⟩|⟨q,_⟩⟩
  ·exact absurd a q
  ·exact ⟨rfl,rfl⟩
  ·exact absurd q b
 ·rcases g3 with ⟨q,_⟩|⟨_,⟨q,_⟩|⟨_,⟨_,rfl,rfl⟩|⟨q,_⟩⟩⟩
  ·exact absurd a q
  ·exact absurd b q
  ·exact ⟨rfl,rfl⟩
  ·exact absurd c q
 ·rcases g3 with ⟨q,_⟩|⟨_,⟨q,_⟩|⟨_,⟨q,_⟩|⟨_,rfl,rfl⟩⟩⟩
  ·exact absurd a q
  ·exact absurd b q
  ·exact absurd q c
  ·exact ⟨rfl,rfl⟩
theorem SoIs.same {X Y:List Nx} {r:Int} {l:Lm} {B:ByteArray} {e:Int} (h:Y.map Nx.nd=X.map Nx.nd) (hs:SoIs Y r l B e):SoIs X r l B e:=by
 obtain ⟨d,n,z,h1,h2,h3⟩:=hs
 rw [same_fw h,h] at h3
 exact ⟨d,n,z,same_depth h h1,same_vo h h2,h3⟩
def opK (b:ByteArray) (l:Lm):Int × ByteArray:=
 if okL l=false then (1,⟨#[]⟩) else if l.b<b.size then (19,⟨#[]⟩) else
 if (pGet mD.data.toList b.data.toList).1≠0 then ((pGet mD.data.toList b.data.toList).1,⟨#[]⟩) else
 if (pGet mD.data.toList b.data.toList).2.1≠1 then (7,⟨#[]⟩) else
 match (pGet mD.data.toList b.data.toList).2.2 with
 | [s]=>if s.1=1 then (0,s.2) else (4,⟨#[]⟩)
 | _=>(4,⟨#[]⟩)
def PyIs (R:ByteArray) (l:Lm) (P:List Nd) (e:Int):Prop:=
 ((oPay R l.n l.e l.x).2≠0∧e=(oPay R l.n l.e l.x).2∧P=[])∨((oPay R l.n l.e l.x).2=0∧
  ∃d n z,DepthIs (bare (oPay R l.n l.e l.x).1) 0 d∧CheckIs (bare (oPay R l.n l.e l.x).1) 0 n z∧((n≠0∧e=n∧P=[])∨(n=0∧((inL (meL (bare (oPay R l.n l.e l.x).1) d) l=false∧e=19∧P=[])∨(inL (meL (bare (oPay R l.n l.e l.x).1) d) l=true∧e=0∧P=(oPay R l.n l.e l.x).1)))))
def LoIs (b:ByteArray) (l:Lm) (P:List Nd) (e:Int):Prop:=((opK b l).1≠0∧e=(opK b l).1∧P=[])∨((opK b l).1=0∧PyIs (opK b l).2 l P e)
theorem PyIs.uniq {R:ByteArray} {l:Lm} {P P':List Nd} {e e':Int} (h:PyIs R l P e) (h':PyIs R l P' e'):P'=P∧e'=e:=by
 rcases h with ⟨a,rfl,rfl⟩|⟨a,d,n,z,h1,h2,h3⟩
 ·rcases h' with ⟨_,rfl,rfl⟩|⟨q,_⟩
  ·exact ⟨rfl,rfl⟩
  ·exact absurd q a
 ·rcases h' with ⟨q,_⟩|⟨_,d',n',z',g1,g2,g3⟩
  ·exact absurd a q
  ·have hd:=h1.only g1
   subst hd
   obtain ⟨rfl,rfl⟩:=h2.uniq g2
   rcases h3 with ⟨p,rfl,rfl⟩|⟨p,⟨p1,rfl,rfl⟩|⟨p1,rfl,rfl⟩⟩
   ·rcases g3 with ⟨_,rfl,rfl⟩|⟨q,_⟩
    ·exact ⟨rfl,rfl⟩
    ·exact absurd q p
   ·rcases g3 with ⟨q,_⟩|⟨_,⟨_,rfl,rfl⟩|⟨q,_⟩⟩
    ·exact absurd p q
    ·exact ⟨rfl,rfl⟩
    ·rw [p1] at q;cases q
   ·rcases g3 with ⟨q,_⟩|⟨_,⟨q,_⟩|⟨_,rfl,rfl⟩⟩
    ·exact absurd p q
    ·rw [p1] at q;cases q
    ·exact ⟨rfl,rfl⟩
theorem LoIs.uniq {b:ByteArray} {l:Lm} {P P':List Nd} {e e':Int} (h:LoIs b l P e) (h':LoIs b l P' e'):P'=P∧e'=e:=by
 rcases h with ⟨a,rfl,rfl⟩|⟨a,h⟩
 ·rcases h' with ⟨_,rfl,rfl⟩|⟨q,_⟩
  ·exact ⟨rfl,rfl⟩
  ·exact absurd q a
 ·rcases h' with ⟨q,_⟩|⟨_,h'⟩
  ·exact absurd a q
  ·exact h.uniq h'
section
variable (b:ByteArray) (l:Lm)
theorem opK_1 (h:okL l=false):(opK b l).1=1:=by unfold opK;rw [if_pos h]
theorem opK_2 (h1:okL l=true) (h:l.b<(b.size:Int)):(opK b l).1=19:=by unfold opK;rw [if_neg (by simp [h1]),if_pos h]
theorem opK_3 (h1:okL l=true) (h2:¬l.b<(b.size:Int)) (h:(pGet mD.data.toList b.data.toList).1≠0):(opK b l).1=(pGet mD.data.toList b.data.toList).1:=by unfold opK;rw [if_neg (by simp [h1]),if_neg h2,if_pos h]
theorem opK_4 (h1:okL l=true) (h2:¬l.b<(b.size:Int)) (h3:(pGet mD.data.toList b.data.toList).1=0) (h:(pGet mD.data.toList b.data.toList).2.1≠1):(opK b l).1=7:=by unfold opK;rw [if_neg (by simp [h1]),if_neg h2,if_neg (by simp [h3]),if_pos h]
theorem opK_5 (h1:okL l=true) (h2:¬l.b<(b.size:Int)) (h3:(pGet mD.data.toList b.data.toList).1=0) (h4:(pGet mD.data.toList b.data.toList).2.1=1) (h:¬∃s,(pGet mD.data.toList b.data.toList).2.2=[s]∧s.1=1):(opK b l).1=4:=by
 unfold opK
 rw [if_neg (by simp [h1]),if_neg h2,if_neg (by simp [h3]),if_neg (by simp [h4])]
 split
 ·rename_i s hs
  rw [if_neg (fun q=>h ⟨s,hs,q⟩)]
 ·rfl
theorem opK_6 (h1:okL l=true) (h2:¬l.b<(b.size:Int)) (h3:(pGet mD.data.toList b.data.toList).1=0) (h4:(pGet mD.data.toList b.data.toList).2.1=1) {R:ByteArray} (h:(pGet mD.data.toList b.data.toList).2.2=[(1,R)]):opK b l=(0,R):=by
 unfold opK
 rw [if_neg (by simp [h1]),if_neg h2,if_neg (by simp [h3]),if_neg (by simp [h4]),h]
 exact if_pos rfl
end
theorem opK_inv {b:ByteArray} {l:Lm} (h:(opK b l).1=0):okL l=true∧¬l.b<(b.size:Int)∧pGet mD.data.toList b.data.toList=(0,1,oS (opK b l).2):=by
 cases h0:okL l with
 | false=>unfold opK at h;rw [if_pos h0] at h;cases h
 | true=>
 obtain ⟨E,V,S,hG⟩:∃E V S,pGet mD.data.toList b.data.toList=(E,V,S):=⟨_,_,_,rfl⟩
 unfold opK at h ⊢
 rw [if_neg (by simp [h0]),hG] at h ⊢
 dsimp only at h ⊢
 split at h
 ·cases h
 rename_i h1
 rw [if_neg h1]
 split at h
 ·rename_i q;exact absurd (by simpa using h) q
 rename_i h2
 rw [if_neg h2]
 split at h
 ·cases h
 rename_i h3
 rw [if_neg h3]
 simp only [ne_eq,Decidable.not_not] at h2 h3
 match S,h with
 | [s],h=>
  dsimp only at h ⊢
  split at h
  ·rename_i h4
   rw [if_pos h4]
   obtain ⟨s1,s2⟩:=s
   subst h4
   exact ⟨rfl,h1,by rw [h2,h3];rfl⟩
  ·cases h
 | [],h=>cases h
 | _ :: _ :: _,h=>cases h
theorem ofile_of {b:ByteArray} {l:Lm} (h:(opK b l).1=0):b.data.toList=(pPut mD 1 (oS (opK b l).2)).1∧(opK b l).2.size≤b.size:=by
 obtain ⟨_,_,h3⟩:=opK_inv h
 have h4:=one_math mD b.data.toList (by rw [h3])
 rw [h3] at h4
 dsimp only at h4
 have h5:pPut mD 1 (oS (opK b l).2)=(b.data.toList,0):=h4
 have h6:=(pPut_sizes mD 1 (oS (opK b l).2) (by rw [h5])).2
 rw [h5] at h6
 dsimp only at h6
 rw [list_size] at h6
 exact ⟨by rw [h5],h6 (1,_) (by simp [oS])⟩
theorem oS_put {R:ByteArray} (hR:R.size≤16777216):(pPut mD 1 (oS R)).2=0:=by
 rw [pPut_of mD 1 (oS R) rfl (by decide) (by decide) (by simp [oS]) (fun s hs=>by
  simp only [oS,List.mem_cons,List.not_mem_nil,or_false] at hs
  subst hs
  exact ⟨by show (1:Int)≤1;decide,by show (1:Int)≤255;decide,hR⟩)]
theorem opK_put {R:ByteArray} {l:Lm} (ho:okL l=true) (hR:R.size≤16777216) (hb:¬l.b<((⟨(pPut mD 1 (oS R)).1.toArray⟩:ByteArray).size:Int)):opK ⟨(pPut mD 1 (oS R)).1.toArray⟩ l=(0,R):=by
 have h1:=back_math mD 1 (oS R) (oS_put hR)
 have h2:(⟨(pPut mD 1 (oS R)).1.toArray⟩:ByteArray).data.toList=(pPut mD 1 (oS R)).1:=List.toList_toArray
 refine opK_6 _ _ ho hb (by rw [h2,h1]) (by rw [h2,h1];rfl) (by rw [h2,h1];rfl)
theorem eN_edg (X:List Nx):eN (X.map Nx.nd)=edg X:=by simp [eN,edg,Function.comp_def]
theorem mem_sum6:∀(L:List ByteArray) (s:ByteArray),s ∈ L→s.size≤sum6 L
 | x :: L,s,h=>by
  have e:sum6 (x :: L)=x.size+sum6 L:=by simp [sum6]
  rcases List.mem_cons.1 h with rfl|h
  ·omega
  ·have:=mem_sum6 L s h
   omega
theorem txt_le {X:List Nx} {i:Nat} (hi:i<X.length) {s:ByteArray} (hs:s ∈ (X.getD i noNx).nd.texts):s.size≤txb X:=
 mem_sum6 _ s ((itn_mem _ _).2 ((allT_mem X s).2 ⟨i,hi,hs⟩))
theorem nd_at {X:List Nx} {i:Nat} {N:Nd} (h:(X.map Nx.nd)[i]? = some N):i<X.length∧N=(X.getD i noNx).nd:=by
 rw [List.getElem?_map] at h
 by_cases hi:i<X.length
 ·rw [List.getElem?_eq_getElem hi] at h
  refine ⟨hi,?_⟩
  rw [List.getD_eq_getElem?_getD,List.getElem?_eq_getElem hi]
  simpa using h.symm
 ·rw [List.getElem?_eq_none (by omega)] at h
  cases h
theorem okp_of {X:List Nx} {l:Lm} {d:Nat} (hS:Small X) (hF:FnX X) (hW:tyEo X=0) (hf:FowIs X 0) (_ho:okL l=true) (hi:inL (meL X d) l=true):OkP (X.map Nx.nd) l.n l.e l.x:=by
 obtain ⟨_,i1,i2,i3,i4⟩:=of_decide_eq_true (show decide (inP (meL X d) l)=true from hi)
 have j1:(X.length:Int)≤l.n:=i1
 have j2:((edg X:Nat):Int)≤l.e:=i2
 have j4:((txb X:Nat):Int)≤l.x:=i4
 have hn:=hS.1
 have hlen:(X.map Nx.nd).length=X.length:=List.length_map _
 have hp:=isPb_iff.1 hf.1.1
 refine ⟨fun i N hN=>?_,fun q=>?_,by omega,by omega,by rw [eN_edg];exact j2⟩
 ·obtain ⟨hi,rfl⟩:=nd_at hN
  have hb:=big_no (hS.2 i hi)
  refine ⟨(tyEo_iff X).1 hW i hi,hF i hi,fun z hz=>⟨hf.2.2 i hi z hz,?_⟩,by have:=hb.2.2.1;omega,fun s hs=>?_⟩
  ·rw [hlen]
   have:=kid_place hf.1.2.1 hi hz
   omega
  ·have h1:=txt_le hi hs
   have h2:=hb.2.2.2 s hs
   omega
 ·have:=congrArg List.length q
  rw [hlen] at this
  simp at this
  subst this
  simp at hp
theorem pay_who {R:ByteArray} {l:Lm} {X:List Nx} (he:0≤l.e) (h:oPay R l.n l.e l.x=(X.map Nx.nd,0)) (hR:RightIs X 0):tyEo X=0∧FowIs X 0∧FnX X:=by
 obtain ⟨_,h2⟩:=oPay_bytes he h
 have hN:∀i,i<X.length→OkN (X.getD i noNx).nd i (X.map Nx.nd).length (max l.x 0):=fun i hi=>h2.nod i _ (by rw [List.getElem?_map,List.getD_eq_getElem?_getD,List.getElem?_eq_getElem hi];rfl)
 exact ⟨(tyEo_iff X).2 fun i hi=>(hN i hi).ty,⟨hR,rfl,fun i hi z hz=>((hN i hi).kids z hz).1⟩,fun i hi=>(hN i hi).fn⟩
theorem one_ofile {b:ByteArray} {l:Lm} {X:List Nx} (h:LoIs b l (X.map Nx.nd) 0):SoIs X 0 l b 0∧okL l=true∧tyEo X=0∧FowIs X 0∧FnX X∧∃d,DepthIs X 0 d∧VoIs X 0 l d 0 0:=by
 rcases h with ⟨h1,h2,_⟩|⟨h1,hP⟩
 ·exact absurd h2.symm h1
 obtain ⟨k1,k2,_⟩:=opK_inv h1
 obtain ⟨f1,_⟩:=ofile_of h1
 generalize (opK b l).2=R at *
 rcases hP with ⟨h1,h2,_⟩|⟨h1,d,n,z,hd,hc,h3⟩
 ·exact absurd h2.symm h1
 rcases h3 with ⟨p,q,_⟩|⟨p,⟨_,q,_⟩|⟨p1,_,p2⟩⟩
 ·exact absurd q.symm p
 ·cases q
 ·subst p
  have hQ:oPay R l.n l.e l.x=(X.map Nx.nd,0):=by rw [p2,← h1]
  rw [← p2] at hd hc p1
  have hs:(bare (X.map Nx.nd)).map Nx.nd=X.map Nx.nd:=bare_nd _
  have hR:RightIs X 0:=(same_right hs).1 (hc.right.1 rfl)
  have hle:0≤l.e:=by
   have:=of_decide_eq_true (show decide (okP l)=true from k1)
   exact this.2.2.1.1
  obtain ⟨w1,w2,w3⟩:=pay_who hle hQ hR
  have hd':=same_depth hs hd
  rw [same_meL hs] at p1
  have hv:VoIs X 0 l d 0 0:=vo_good k1 ⟨w1,hR⟩ p1
  have hF:oF (X.map Nx.nd)=b:=by
   refine ba_eq ?_
   rw [oF_list,f1]
   have hC:oC (X.map Nx.nd)=R:=ba_eq (by rw [oC_list];exact (oPay_bytes hle hQ).1.symm)
   rw [hC]
  exact ⟨⟨d,0,0,hd',hv,.inr ⟨rfl,.inr ⟨w2,.inr ⟨by rw [hF];exact k2,rfl,hF.symm⟩⟩⟩⟩,k1,w1,w2,w3,d,hd',hv⟩
theorem back_ofile {X:List Nx} {l:Lm} {d:Nat} (hS:Small X) (hF:FnX X) (hW:tyEo X=0) (hf:FowIs X 0) (hd:DepthIs X 0 d) (ho:okL l=true) (hi:inL (meL X d) l=true) (hz:(oC (X.map Nx.nd)).size≤16777216) (hb:¬l.b<((oF (X.map Nx.nd)).size:Int)):LoIs (oF (X.map Nx.nd)) l (X.map Nx.nd) 0:=by
 have hk:opK (oF (X.map Nx.nd)) l=(0,oC (X.map Nx.nd)):=opK_put ho hz hb
 have hp:=oPay_put (oC_list (X.map Nx.nd)) (okp_of hS hF hW hf ho hi)
 have hs:(bare (X.map Nx.nd)).map Nx.nd=X.map Nx.nd:=bare_nd _
 refine .inr ⟨by rw [hk],?_⟩
 rw [hk]
 refine .inr ⟨by rw [hp],d,0,0,?_,?_,.inr ⟨rfl,.inr ⟨?_,rfl,by rw [hp]⟩⟩⟩
 ·rw [hp]
  exact same_depth hs.symm hd
 ·rw [hp]
  exact check_right ((same_right hs).2 hf.1)
 ·rw [hp]
  rw [same_meL hs]
  exact hi
end Go.Proofs.YtgoffkfpdigeeaaDoor
namespace Go.Proofs.YtgoffkfpdigeeaaDoor
open Go.RowKit Go.Maps Go.WideMaps Go.Sort
theorem mem_getD {α : Type} (l:List α) (d : α) {j:Nat} (h:j<l.length):l.getD j d ∈ l:=by
 rw [List.getD_eq_getElem?_getD,List.getElem?_eq_getElem h]
 exact List.getElem_mem h
structure SmN (N:Nd):Prop where
 k0:0≤N.kind
 k1:N.kind≤6
 i:N.ints.length≤4
 fn:fine N.ints
 t:N.texts.length≤2
 s:∀i,i<N.texts.length→(N.texts.getD i noT).size≤3000
 k:N.kids.length≤3000
 z:∀i,i<N.kids.length→0≤N.kids.getD i 0∧N.kids.getD i 0≤1401
theorem smn_of {X:List Nx} {r:Int} (hX:Small X) (hF:FnX X) (hW:tyEo X=0) (hR:RightIs X r) (i:Nat) (hi:i<X.length):SmN (X.getD i noNx).nd:=by
 obtain ⟨h1,h2,h3,_⟩:=tyNo_zero ((tyEo_iff X).1 hW i hi)
 have hk:=oldSp_kind h1
 have hsm:=oldSp_small (X.getD i noNx).nd.kind
 have hb:=big_no (hX.2 i hi)
 unfold fitI at h2
 rw [Bool.and_eq_true,decide_eq_true_eq] at h2
 unfold fitT at h3
 rw [Bool.and_eq_true,decide_eq_true_eq] at h3
 have hn:=hX.1
 refine ⟨by omega,hk.2,by omega,hF i hi,by omega,fun j hj=>?_,hb.2.2.1,fun j hj=>?_⟩
 ·exact hb.2.2.2 _ (mem_getD _ _ hj)
 ·have:=kid_place hR.2.1 hi (z:=(X.getD i noNx).nd.kids.getD j 0) (mem_getD _ _ hj)
  omega
end Go.Proofs.YtgoffkfpdigeeaaDoor
namespace Go.Proofs.YtgoffkfpdigeeaaDoor
open Go.RowKit Go.Maps Go.WideMaps Go.Sort
theorem uint_less {b:ByteArray} {k n:Nat} {r:List UInt8} {m:Int} (h:b.data.toList.drop k=put n++r) (hn:n≤16777216) (hm:m<(n:Int)):pUint b k 0 m=(0,k,19):=by
 unfold pUint
 rw [if_neg (by simp),num_put h (by omega)]
 dsimp only
 rw [if_neg (by simp),if_pos (.inl hm)]
theorem text_less {b:ByteArray} {k n:Nat} {r:List UInt8} {m:Int} (h:b.data.toList.drop k=put n++r) (hn:n≤16777216) (h0:0≤m) (hm:m<(n:Int)):pText b k 0 m=(⟨#[]⟩,k,19):=by
 unfold pText
 rw [if_neg (by simp),num_put h (by omega)]
 dsimp only
 rw [if_neg (by simp),if_pos (.inl (by omega))]
theorem ok8_empty:ok8 ⟨#[]⟩=true:=by decide +kernel
theorem oTs_less (b:ByteArray) (tx:Int) (htx:0≤tx):∀(T:List ByteArray) (k:Nat) (r:List UInt8),k≤b.size→b.data.toList.drop k=oT T++r→(∀s ∈ T,ok8 s=true∧s.size≤16777216)→oTs b tx T.length k 0=(T,k+(oT T).length,0)∨(oTs b tx T.length k 0).2.2=19
 | [],k,r,_,_,_=>.inl rfl
 | x :: T,k,r,hk,h,hi=>by
  have e1:oT (x :: T)=put x.size++(x.data.toList++oT T):=by simp [oT]
  have h':=h
  rw [e1,List.append_assoc,List.append_assoc] at h'
  obtain ⟨h1,h2⟩:=hi x (by simp)
  by_cases hx:(x.size:Int)≤tx
  ·have hp:=text_put tx h' hk h2 hx
   have hl:(put x.size++x.data.toList).length=(put x.size).length+x.size:=by rw [List.length_append,list_size]
   have hk2:=(pText_at b k 0 tx hk).2
   rw [hp] at hk2
   have ih:=oTs_less b tx htx T (k+((put x.size).length+x.size)) r hk2 (drop_more (x:=put x.size++x.data.toList) (by rw [h',List.append_assoc]) hl) (fun s q=>hi s (by simp [q]))
   rw [List.length_cons,oTs_next b tx T.length k hp,h1,if_pos rfl]
   rcases ih with ih|ih
   ·left
    rw [ih,e1]
    simp only [List.length_append,list_size]
    rw [show k+((put x.size).length+x.size)+(oT T).length=k+((put x.size).length+(x.size+(oT T).length)) by omega]
   ·right
    exact ih
  ·right
   rw [List.length_cons,oTs_next b tx T.length k (text_less h' h2 htx (by omega)),ok8_empty,if_pos rfl,oTs_stop b tx _ k (by decide)]
theorem fl_19 (d:Int):fl 19 d=19:=by unfold fl;rw [if_neg (by decide)]
theorem oNd_less (b:ByteArray) (N:Nd) (p c tx0 tx edges:Int) (k:Nat) (r:List UInt8) (hk:k≤b.size) (h:b.data.toList.drop k=oB N++r) (hN:OkN N p c tx0) (hp:0≤p) (hc:c≤16777216) (htx:0≤tx):(oNd b p c tx edges k 0=(N,k+(oB N).length,0)∧(N.kids.length:Int)≤edges)∨(oNd b p c tx edges k 0).2.2=19:=by
 obtain ⟨h1,h2,h3,h4⟩:=tyNo_zero hN.ty
 have hkd:=oldSp_kind h1
 have e1:oB N=put N.kind.toNat++(rI N.ints++(oT N.texts++(put N.kids.length++oK N.kids))):=by
  unfold oB
  simp only [List.append_assoc]
 rw [e1] at h ⊢
 simp only [List.append_assoc] at h
 have u1:=uint_put 16777216 h (by omega) (by omega)
 have a1:=(pUint_at b k 0 16777216 hk).2
 rw [u1] at a1
 have hkn:(N.kind.toNat:Int)=N.kind:=by omega
 rw [hkn] at u1
 have d1:=drop_more h rfl
 unfold fitI at h2
 rw [Bool.and_eq_true,decide_eq_true_eq,List.all_eq_true] at h2
 have u2:=gIs_put b (oldSp N.kind).ints N.ints _ _ d1 h2.1 (fun i q=>h2.2 i (by simpa using q)) hN.fn
 have a2:=(gIs_at b (oldSp N.kind).ints _ 0 a1).2
 rw [u2] at a2
 have d2:=drop_more d1 rfl
 unfold fitT at h3
 rw [Bool.and_eq_true,decide_eq_true_eq,List.all_eq_true] at h3
 have u3:=oTs_less b tx htx N.texts _ _ a2 d2 (fun s q=>⟨h3.2 s q,(hN.txt s q).1⟩)
 have d3:=drop_more d2 rfl
 have ht:(oldSp N.kind).texts.toNat=N.texts.length:=by omega
 unfold fitK at h4
 rw [Bool.and_eq_true,Bool.or_eq_true,decide_eq_true_eq,decide_eq_true_eq,decide_eq_true_eq] at h4
 have stop:∀(B:List ByteArray) (k5:Nat) (e5:Int),oTs b tx (oldSp N.kind).texts.toNat (k+(put N.kind.toNat).length+(rI N.ints).length) 0=(B,k5,e5)→(∃k6,pUint b k5 e5 edges=(0,k6,19))→(oNd b p c tx edges k 0).2.2=19:=fun B k5 e5 hB ⟨k6,hM⟩=>by
  have h7:(if decide ((0:Int)<(oldSp N.kind).least∨(0≤(oldSp N.kind).most∧(oldSp N.kind).most<0))=true then fl 19 12 else 19)=19:=by
   rw [fl_19]
   split <;> rfl
  have u6:=oRest_eq (p:=p) (c:=c) (S:=oldSp N.kind) (edges:=edges) u2 hB hM h7 (oKs_stop b p c _ k6 (by decide))
  unfold oNd
  rw [u1]
  dsimp only
  rw [h1,if_pos rfl,u6]
 rcases u3 with u3|u3
 ·by_cases he:(N.kids.length:Int)≤edges
  ·left
   have u4:=uint_put edges d3 hN.few he
   have d4:=drop_more d3 rfl
   have u5:=oKs_put b p c hc hp N.kids _ _ d4 hN.kids
   have u6:=oRest_eq (S:=oldSp N.kind) (edges:=edges) u2 (by rw [ht];exact u3) u4 (if_neg (by rw [decide_eq_false (by omega)];decide)) u5
   refine ⟨?_,he⟩
   unfold oNd
   rw [u1]
   dsimp only
   rw [h1,if_pos rfl,u6]
   simp only [List.length_append,← Nat.add_assoc]
  ·right
   exact stop _ _ _ (by rw [ht];exact u3) ⟨_,uint_less d3 hN.few (by omega)⟩
 ·right
  obtain ⟨B,k5,e5,hB⟩:∃B k5 e5,oTs b tx N.texts.length (k+(put N.kind.toNat).length+(rI N.ints).length) 0=(B,k5,e5):=⟨_,_,_,rfl⟩
  rw [hB] at u3
  dsimp only at u3
  subst u3
  refine stop B k5 19 (by rw [ht];exact hB) ⟨k5,?_⟩
  unfold pUint
  rw [if_pos (by decide)]
end Go.Proofs.YtgoffkfpdigeeaaDoor
namespace Go.Proofs.YtgoffkfpdigeeaaDoor
open Go.ChangeShapes Go.WideShapes Go.ChangeAt Go.RowKit Go.Joins Go.Deep Go.Maps Go.WideMaps Go.Sort
structure LmR (l:Lm):Prop where
 b:inR l.b
 n:inR l.n
 e:inR l.e
 d:inR l.d
 x:inR l.x
section
variable {H:Type} {enc:TypeId × Value→H} {P:Program} {w:World}
theorem five_cells {α : Type} {cs:Array α} (h:cs.size=5):∃c0 c1 c2 c3 c4,cs=#[c0,c1,c2,c3,c4]:=by
 obtain ⟨l⟩:=cs
 match l,h with
 | [c0,c1,c2,c3,c4],_=>exact ⟨c0,c1,c2,c3,c4,rfl⟩
theorem five_read {xs:List (DataW H × List MemPlace)} (h:xs.length=5):∃y0 y1 y2 y3 y4,xs=[y0,y1,y2,y3,y4]:=by
 match xs,h with
 | [y0,y1,y2,y3,y4],_=>exact ⟨y0,y1,y2,y3,y4,rfl⟩
theorem open_lim {r:Reach} {b0:Nat} {t:TypeId} {f0 f1 f2 f3 f4:Field} {v:Value} {d:DataW H} {p:List MemPlace} (hs:P.underlying t=some (.struct #[f0,f1,f2,f3,f4])) (hone:oneCellFields P #[f0,f1,f2,f3,f4]=true) (hC:P.cellsOf t=5)
  (u0:P.underlying f0.type=some (.int .i64)) (u1:P.underlying f1.type=some (.int .i64)) (u2:P.underlying f2.type=some (.int .i64)) (u3:P.underlying f3.type=some (.int .i64)) (u4:P.underlying f4.type=some (.int .i64))
  (hv:Value.okWide P w r b0 t v) (h:DataW.Trod enc P w 0 (fun _=>true) true t v d p) :
  ∃l:Lm,v=.agg #[.int .i64 l.b,.int .i64 l.n,.int .i64 l.e,.int .i64 l.d,.int .i64 l.x]∧LmR l:=by
 obtain ⟨cs,rfl,hsz⟩:=okWide_struct hs hv
 obtain ⟨c0,c1,c2,c3,c4,rfl⟩:=five_cells (hsz.trans hC)
 obtain ⟨fuel,hf⟩:=h
 obtain ⟨xs,n,_,_,_,hlen,hx⟩:=DataW.trod_struct hs hf
 obtain ⟨y0,y1,y2,y3,y4,rfl⟩:=five_read (by simpa using hlen)
 obtain ⟨o0,k0⟩:=hone_of hone 0 f0 rfl
 obtain ⟨o1,k1⟩:=hone_of hone 1 f1 rfl
 obtain ⟨o2,k2⟩:=hone_of hone 2 f2 rfl
 obtain ⟨o3,k3⟩:=hone_of hone 3 f3 rfl
 obtain ⟨o4,k4⟩:=hone_of hone 4 f4 rfl
 have t0:=hx 0 f0 rfl
 have t1:=hx 1 f1 rfl
 have t2:=hx 2 f2 rfl
 have t3:=hx 3 f3 rfl
 have t4:=hx 4 f4 rfl
 simp [Value.cells,o0,k0,o1,k1,o2,k2,o3,k3,o4,k4] at t0 t1 t2 t3 t4
 obtain ⟨z0,e0,_,g0⟩:=DataW.trod_int u0 t0
 obtain ⟨z1,e1,_,g1⟩:=DataW.trod_int u1 t1
 obtain ⟨z2,e2,_,g2⟩:=DataW.trod_int u2 t2
 obtain ⟨z3,e3,_,g3⟩:=DataW.trod_int u3 t3
 obtain ⟨z4,e4,_,g4⟩:=DataW.trod_int u4 t4
 simp at e0 e1 e2 e3 e4
 subst e0 e1 e2 e3 e4
 exact ⟨⟨z0,z1,z2,z3,z4⟩,rfl,⟨wf_i64 g0,wf_i64 g1,wf_i64 g2,wf_i64 g3,wf_i64 g4⟩⟩
end
theorem IsSc.fn {w:World} {a:Option Addr} {X:List Nx} {r:Int} (h:IsSc w a X r):FnX X:=fun i hi j hj=>by
 have h1:=(h.rg i hi).ints
 generalize (X.getD i noNx).nd.ints=T at *
 exact h1 _ (by rw [List.getD_eq_getElem?_getD,List.getElem?_eq_getElem hj];exact List.getElem_mem hj)
theorem lm_all {l:Lm} (h:LmR l):∀i,i<5→-9223372036854775808≤(lmL l).getD i 0∧(lmL l).getD i 0≤9223372036854775807:=fun i hi=>by
 rcases five_cases hi with rfl|rfl|rfl|rfl|rfl
 ·exact h.b
 ·exact h.n
 ·exact h.e
 ·exact h.d
 ·exact h.x
structure Lg (w W:World) (l:Lm):Prop where
 a:AtN 23 W w.heap.size #[.int .i64 l.b,.int .i64 l.n,.int .i64 l.e,.int .i64 l.d,.int .i64 l.x]
 bel:Below w.heap.size w W
structure L5 (w W:World) (a:Option Addr) (X:List Nx) (c:Nat) (r:Int) (l:Lm):Prop where
 s:AtN 27 W w.heap.size #[.slice a X.length c,.int .i64 r]
 l:AtN 23 W (w.heap.size+1) #[.int .i64 l.b,.int .i64 l.n,.int .i64 l.e,.int .i64 l.d,.int .i64 l.x]
 bel:Below w.heap.size w W
section
variable {w W W':World} {a:Option Addr} {X:List Nx} {c:Nat} {r q:Int} {l:Lm}
theorem Lg.more (h:Lg w W l) (hb:Below W.heap.size W W'):Lg w W' l:=⟨h.a.belowAll hb,h.bel.trans (hb.mono h.bel.size)⟩
theorem Lg.start (w:World) (l:Lm):Lg w (w.alloc (.cells #[.int .i64 l.b,.int .i64 l.n,.int .i64 l.e,.int .i64 l.d,.int .i64 l.x] 23)) l:=⟨AtN.new w 23 _,(Below.refl w.heap.size w).alloc (Nat.le_refl _) _⟩
theorem Lg.all (h:Lg w W l):W.cell? ⟨w.heap.size,0,none⟩=some (.int .i64 l.b)∧W.cell? ⟨w.heap.size,1,none⟩=some (.int .i64 l.n)∧W.cell? ⟨w.heap.size,2,none⟩=some (.int .i64 l.e)∧W.cell? ⟨w.heap.size,3,none⟩=some (.int .i64 l.d)∧W.cell? ⟨w.heap.size,4,none⟩=some (.int .i64 l.x):=
 ⟨h.a.cell 0,h.a.cell 1,h.a.cell 2,h.a.cell 3,h.a.cell 4⟩
theorem L5.more (h:L5 w W a X c r l) (hb:Below W.heap.size W W'):L5 w W' a X c r l:=⟨h.s.belowAll hb,h.l.belowAll hb,h.bel.trans (hb.mono h.bel.size)⟩
theorem L5.start (w:World) (a:Option Addr) (X:List Nx) (c:Nat) (r:Int) (l:Lm):L5 w ((w.alloc (.cells #[.slice a X.length c,.int .i64 r] 27)).alloc (.cells #[.int .i64 l.b,.int .i64 l.n,.int .i64 l.e,.int .i64 l.d,.int .i64 l.x] 23)) a X c r l:=
 ⟨(AtN.new w 27 _).alloc _,mk_at (AtN.new (w.alloc _) 23 _) (by simp),((Below.refl w.heap.size w).alloc (Nat.le_refl _) _).alloc (by simp) _⟩
theorem L5.sc (h:L5 w W a X c r l) (hs:IsSc w a X q):ScAt W a X:=hs.sc.belowB h.bel
theorem L5.all (h:L5 w W a X c r l):W.cell? ⟨w.heap.size,0,none⟩=some (.slice a X.length c)∧W.cell? ⟨w.heap.size,1,none⟩=some (.int .i64 r)∧W.cell? ⟨w.heap.size+1,0,none⟩=some (.int .i64 l.b)∧W.cell? ⟨w.heap.size+1,1,none⟩=some (.int .i64 l.n)∧W.cell? ⟨w.heap.size+1,2,none⟩=some (.int .i64 l.e)∧W.cell? ⟨w.heap.size+1,3,none⟩=some (.int .i64 l.d)∧W.cell? ⟨w.heap.size+1,4,none⟩=some (.int .i64 l.x):=
 ⟨h.s.cell 0,h.s.cell 1,h.l.cell 0,h.l.cell 1,h.l.cell 2,h.l.cell 3,h.l.cell 4⟩
end
set_option maxRecDepth 10000 in
theorem wide_any (w:World):Calls Tryd.prog 9 #[] w fun e w'=>e=.returned (.agg #[.int .i64 16777216,.int .i64 16777216,.int .i64 16777216,.int .i64 16777216,.int .i64 16777216])∧Below w.heap.size w w':=by
 have HA:Hid (∀o:Obj,o=.cells #[.int .i64 16777216,.int .i64 16777216,.int .i64 16777216,.int .i64 16777216,.int .i64 16777216] 23→AtN 23 (w.alloc o) w.heap.size #[.int .i64 16777216,.int .i64 16777216,.int .i64 16777216,.int .i64 16777216,.int .i64 16777216]∧Below w.heap.size w (w.alloc o)):=by
  rintro _ rfl
  exact ⟨AtN.new w 23 _,(Below.refl w.heap.size w).alloc (Nat.le_refl _) _⟩
 go_enter Tryd.func9,Tryd.ntmps9
 go_wp2_with fail
 obtain ⟨h1,h2⟩:=HA.out _ rfl
 have c0:=h1.cell 0
 have c1:=h1.cell 1
 have c2:=h1.cell 2
 have c3:=h1.cell 3
 have c4:=h1.cell 4
 exact bodyPost_ret (v:=.agg #[.int .i64 16777216,.int .i64 16777216,.int .i64 16777216,.int .i64 16777216,.int .i64 16777216]) (by simp [results,Tryd.results9,go_sem,c0,c1,c2,c3,c4]) rfl ⟨rfl,h2⟩
theorem bel_drew (w:World):Below w.heap.size w w.drew:=⟨rfl,rfl,rfl,Nat.le_refl _,fun _ _=>rfl⟩
def wL:Lm:=⟨16777216,16777216,16777216,16777216,16777216⟩
end Go.Proofs.YtgoffkfpdigeeaaDoor
namespace Go.Proofs.YtgoffkfpdigeeaaDoor
open Go.RowKit Go.Maps Go.WideMaps Go.Sort
theorem okL_in {l:Lm} (h:okL l=true):(0≤l.b∧l.b≤16777216)∧(0≤l.n∧l.n≤16777216)∧(0≤l.e∧l.e≤16777216)∧(0≤l.d∧l.d≤16777216)∧(0≤l.x∧l.x≤16777216):=by
 have key:∀i,i<5→0≤(lmL l).getD i 0∧(lmL l).getD i 0≤16777216:=fun i hi=>by
  by_cases q:(lmL l).getD i 0<0∨16777216<(lmL l).getD i 0
  ·have:=okL_no l i hi q
   rw [h] at this;cases this
  ·omega
 exact ⟨key 0 (by omega),key 1 (by omega),key 2 (by omega),key 3 (by omega),key 4 (by omega)⟩
def liC (l:Lm):Array Value:=#[.int .i64 l.b,.int .i64 l.n,.int .i64 l.e,.int .i64 l.d,.int .i64 l.x]
theorem OwnNd.frAt {S:Nat→Prop} {W W':World} {B:Nat} {N:Nd} {a1 a2 a3:Option Addr} {c1 c2 c3:Nat} (h:OwnNd W B N (.slice a1 N.ints.length c1) (.slice a2 N.texts.length c2) (.slice a3 N.kids.length c3)) (k:Fr S W W') (hs:∀i,S i→i<B):NdAt W' N a1 a2 a3:=by
 have key:∀{e n v xs},W.ownsRow B e 1 v n xs→W'.ownsRow B e 1 v n xs:=fun {e n v xs} ho=>own_fr ho k (fun r hr q=>by have:=(ho.lt r hr).1;have:=hs r q;omega)
 exact OwnNd.ndAt ⟨key h.i,key h.t,key h.k⟩
theorem Mkg.low {w w':World} {B go c:Nat} {r:Int} {a:Option Addr} {Y:List Nx} {S:Nat→Prop} (h:Mkg w B go r (.slice a Y.length c) Y) (k:Fr S w w') (hs:∀i,S i→i<B):ScAt w' a Y:=
 ⟨LsAt.of_own4' (own_fr h.row k (fun r hr q=>by have:=(h.row.lt r hr).1;have:=hs r q;omega)),fun i hi=>OwnNd.frAt (h.each i hi) k hs⟩
end Go.Proofs.YtgoffkfpdigeeaaDoor
