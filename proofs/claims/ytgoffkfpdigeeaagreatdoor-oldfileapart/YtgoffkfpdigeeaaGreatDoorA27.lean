import Derived.Test.YtgoffkfpdigeeaaGreatDoorA25
import Derived.Test.YtgoffkfpdigeeaaGreatDoorA26
import Derived.Maps.OwnSet
import Derived.Maps.OwnOps
import Derived.Maps.Views
import Derived.StringKeys
import Derived.Test.YtgoffkfpdigeeaaGreatDoorA16
import Derived.Test.YtgoffkfpdigeeaaGreatDoorA04
import Derived.Test.YtgoffkfpdigeeaaGreatDoorA09
namespace Go.Proofs.YtgoffkfpdigeeaaGreatDoor
open Go.RowKit Go.Maps Go.WideMaps Go.Sort
theorem oT_le:∀T:List ByteArray,(∀s ∈ T,s.size≤3000)→(oT T).length≤3010*T.length
 | [],_=>Nat.le_refl _
 | x :: T,h=>by
  have h1:=put_length x.size
  have h2:=h x (by simp)
  have h3:=oT_le T fun s q=>h s (by simp [q])
  rw [show oT (x :: T)=(put x.size++x.data.toList)++oT T by simp [oT],List.length_append,List.length_append,list_size,List.length_cons]
  omega
theorem oB_le {N:Nd} (h:SmN N):(oB N).length≤36080:=by
 have h1:=put_length N.kind.toNat
 have h2:=put_length N.kids.length
 have h3:(rI N.ints).length≤10*N.ints.length:=flat_ten _ _
 have h4:(oK N.kids).length≤10*N.kids.length:=flat_ten _ _
 have h5:=oT_le N.texts fun s hs=>by
  obtain ⟨i,hi,rfl⟩:=List.getElem_of_mem hs
  have:=h.s i hi
  rwa [List.getD_eq_getElem?_getD,List.getElem?_eq_getElem hi] at this
 have:=h.i
 have:=h.t
 have:=h.k
 unfold oB
 simp only [List.length_append]
 omega
theorem oBs_le:∀P:List Nd,(∀N ∈ P,(oB N).length≤36080)→(P.flatMap oB).length≤36080*P.length
 | [],_=>Nat.le_refl _
 | N :: P,h=>by
  have h1:=h N (by simp)
  have h2:=oBs_le P fun M q=>h M (by simp [q])
  rw [show (N :: P).flatMap oB=oB N++P.flatMap oB by simp,List.length_append,List.length_cons]
  omega
theorem oC_le {X:List Nx} {r:Int} (hX:Small X) (hf:X.length≤60) (hF:FnX X) (hW:tyEo X=0) (hR:RightIs X r):(oC (X.map Nx.nd)).size≤2164810:=by
 have h1:=put_length (X.map Nx.nd).length
 have h2:=oBs_le (X.map Nx.nd) fun N q=>by
  obtain ⟨x,hx,rfl⟩:=List.mem_map.1 q
  obtain ⟨i,hi,rfl⟩:=List.getElem_of_mem hx
  have e:X[i]=X.getD i noNx:=by rw [List.getD_eq_getElem?_getD,List.getElem?_eq_getElem hi];rfl
  rw [e]
  exact oB_le (smn_of hX hF hW hR i hi)
 have h3:(X.map Nx.nd).length=X.length:=List.length_map _
 have h4:(oC (X.map Nx.nd)).size=(oR (X.map Nx.nd)).length:=by rw [← list_size,oC_list]
 rw [h4]
 unfold oR
 rw [List.length_append]
 omega
theorem oF_sizes {X:List Nx} {r:Int} (hX:Small X) (hf:X.length≤60) (hF:FnX X) (hW:tyEo X=0) (hR:RightIs X r):5≤(oF (X.map Nx.nd)).size∧(oF (X.map Nx.nd)).size≤2164830:=by
 have h1:=oC_le hX hf hF hW hR
 have h4:=(pPut_ok mD 1 (oS (oC (X.map Nx.nd))) (oS_put (by omega))).2.2.2.2.2
 have hb:=bodyL_le 2164810 (oS (oC (X.map Nx.nd))) fun s hs=>by
  simp only [oS,List.mem_cons,List.not_mem_nil,or_false] at hs
  subst hs
  exact h1
 have h5:(oF (X.map Nx.nd)).size=(pPut mD 1 (oS (oC (X.map Nx.nd)))).1.length:=by rw [← list_size,oF_list]
 have h6:=congrArg List.length h4
 rw [List.length_append,List.length_cons] at h6
 have h7:mD.data.toList.length=4:=rfl
 have h8:(oS (oC (X.map Nx.nd))).length=1:=rfl
 rw [h8] at hb
 omega
def QnO (R:ByteArray) (l:Lm):Prop:=
 ∀P k' e',oNds R (pUint R 0 0 l.n).1 l.x (pUint R 0 0 l.n).1.toNat 0 l.e (pUint R 0 0 l.n).2.1=(P,k',e')→P.length≤1401∧∀N ∈ P,big N=false∧fine N.ints
theorem oNds_pre3 (b:ByteArray) (c tx:Int) (hb:b.size≤3000):∀(n:Nat) (p ed:Int) (k:Nat) (P:List Nd) (k':Nat) (e':Int),k≤b.size→oNds b c tx n p ed k=(P,k',e')→k+2*P.length≤b.size∧∀N ∈ P,big N=false∧fine N.ints
 | 0,p,ed,k,P,k',e',hk,h=>by
  simp only [oNds,Prod.mk.injEq] at h
  obtain ⟨rfl,_,_⟩:=h
  exact ⟨by simpa using hk,fun N q=>by simp at q⟩
 | n+1,p,ed,k,P,k',e',hk,h=>by
  obtain ⟨N,k1,e1,hq⟩:∃N k1 e1,oNd b p c tx ed k 0=(N,k1,e1):=⟨_,_,_,rfl⟩
  unfold oNds at h
  rw [hq] at h
  dsimp only at h
  split at h
  ·simp only [Prod.mk.injEq] at h
   obtain ⟨rfl,_,_⟩:=h
   exact ⟨by simpa using hk,fun N q=>by simp at q⟩
  ·rename_i q
   have q0:e1=0:=by omega
   subst q0
   obtain ⟨a1,a2,_,a4,a5,_⟩:=oNd_two hk hq
   obtain ⟨P',k2,e2,hr⟩:∃P' k2 e2,oNds b c tx n (p+1) (ed-N.kids.length) k1=(P',k2,e2):=⟨_,_,_,rfl⟩
   rw [hr] at h
   simp only [Prod.mk.injEq] at h
   obtain ⟨rfl,rfl,rfl⟩:=h
   obtain ⟨b1,b2⟩:=oNds_pre3 b c tx hb n (p+1) (ed-N.kids.length) k1 P' k2 e2 a2 hr
   refine ⟨by simp only [List.length_cons];omega,fun M hM=>?_⟩
   rcases List.mem_cons.1 hM with rfl|hM
   ·exact ⟨a4 hb,a5⟩
   ·exact b2 M hM
theorem qno_small {R:ByteArray} {l:Lm} (h:R.size≤2800):QnO R l:=fun P k' e' hS=>by
 obtain ⟨h1,h2⟩:=oNds_pre3 R _ _ (by omega) _ _ _ _ P k' e' (pUint_at R 0 0 l.n (Nat.zero_le _)).2 hS
 exact ⟨by omega,h2⟩
theorem oNds_pre (b:ByteArray) (c tx0 tx:Int) (hc:c≤16777216) (htx:0≤tx):∀(P:List Nd) (p ed:Int) (k:Nat) (r:List UInt8),k≤b.size→0≤p→b.data.toList.drop k=P.flatMap oB++r→(∀(i:Nat) (N:Nd),P[i]? = some N→OkN N (p+i) c tx0)→(oNds b c tx P.length p ed k).1.length≤P.length∧∀N ∈ (oNds b c tx P.length p ed k).1,N ∈ P
 | [],p,ed,k,r,_,_,_,_=>⟨Nat.le_refl _,fun N q=>by simp [oNds] at q⟩
 | N :: P,p,ed,k,r,hk,hp,h,hi=>by
  have e1:(N :: P).flatMap oB=oB N++P.flatMap oB:=by simp
  rw [e1,List.append_assoc] at h
  have hN:OkN N p c tx0:=by have:=hi 0 N rfl;simpa using this
  rcases oNd_less b N p c tx0 tx ed k _ hk h hN hp hc htx with ⟨hp1,he⟩|hp1
  ·have hk2:=(oNd_at b p c tx ed k 0 hk).2
   rw [hp1] at hk2
   have ih:=oNds_pre b c tx0 tx hc htx P (p+1) (ed-N.kids.length) (k+(oB N).length) r hk2 (by omega) (drop_more h rfl) (fun i M hM=>by
    have:=hi (i+1) M (by simpa using hM)
    rwa [show p+((i+1:Nat):Int)=p+1+i by omega] at this)
   rw [List.length_cons];unfold oNds
   rw [hp1]
   dsimp only
   rw [if_neg (by simp)]
   refine ⟨by simp only [List.length_cons];have:=ih.1;omega,fun M hM=>?_⟩
   rcases List.mem_cons.1 hM with rfl|hM
   ·simp
   ·exact List.mem_cons_of_mem _ (ih.2 M hM)
  ·rw [List.length_cons];unfold oNds
   rw [if_pos (by rw [hp1];decide)]
   exact ⟨Nat.zero_le _,fun M q=>by simp at q⟩
theorem qno_put {X:List Nx} {l l0:Lm} {d:Nat} (hS:Small X) (hF:FnX X) (hW:tyEo X=0) (hf:FowIs X 0) (h0:okL l0=true) (hi0:inL (meL X d) l0=true) (ho:okL l=true):QnO (oC (X.map Nx.nd)) l:=fun P k' e' hP=>by
 have hK:=okp_of hS hF hW hf h0 hi0
 have hb:=oC_list (X.map Nx.nd)
 have h1:(oC (X.map Nx.nd)).data.toList.drop 0=put (X.map Nx.nd).length++((X.map Nx.nd).flatMap oB++[]):=by rw [List.drop_zero,hb,List.append_nil];rfl
 have htx:0≤l.x:=(of_decide_eq_true (show decide (okP l)=true from ho)).2.2.2.2.1
 by_cases hn:((X.map Nx.nd).length:Int)≤l.n
 ·have u1:=uint_put l.n h1 hK.few hn
  have a1:=(pUint_at (oC (X.map Nx.nd)) 0 0 l.n (Nat.zero_le _)).2
  rw [u1] at hP a1
  have d1:=drop_more h1 rfl
  dsimp only at hP
  rw [Int.toNat_natCast] at hP
  obtain ⟨g1,g2⟩:=oNds_pre (oC (X.map Nx.nd)) (X.map Nx.nd).length l0.x l.x (by have:=hK.few;omega) htx (X.map Nx.nd) 0 l.e _ [] a1 (by omega) d1 (fun i N hN=>by have:=hK.nod i N hN;rwa [Int.zero_add])
  rw [hP] at g1 g2
  have hl:(X.map Nx.nd).length=X.length:=List.length_map _
  have:=hS.1
  refine ⟨by dsimp only at g1;omega,fun N q=>?_⟩
  obtain ⟨x,hx,rfl⟩:=List.mem_map.1 (g2 N q)
  obtain ⟨i,hi,rfl⟩:=List.getElem_of_mem hx
  have e:X[i]=X.getD i noNx:=by rw [List.getD_eq_getElem?_getD,List.getElem?_eq_getElem hi];rfl
  rw [e]
  exact ⟨hS.2 i hi,hF i hi⟩
 ·rw [uint_less h1 hK.few (by omega)] at hP
  simp only [Int.toNat_zero,oNds,Prod.mk.injEq] at hP
  obtain ⟨rfl,_,_⟩:=hP
  exact ⟨Nat.zero_le _,fun N q=>by simp at q⟩
theorem qno_small_of {b:ByteArray} {l:Lm} (hz:b.size≤2800):∀R,opK b l=(0,R)→R.size≤4000000∧QnO R l:=fun R h=>by
 have h2:=(ofile_of (b:=b) (l:=l) (by rw [h])).2
 rw [h] at h2
 dsimp only at h2
 exact ⟨by omega,qno_small (by omega)⟩
theorem qno_put_of {X:List Nx} {l l0:Lm} {d:Nat} (hS:Small X) (hn:X.length≤60) (hF:FnX X) (hW:tyEo X=0) (hf:FowIs X 0) (h0:okL l0=true) (hi0:inL (meL X d) l0=true) (ho:okL l=true):∀R,opK (oF (X.map Nx.nd)) l=(0,R)→R.size≤4000000∧QnO R l:=fun R h=>by
 have hz:=oC_le hS hn hF hW hf.1
 by_cases hb:l.b<((oF (X.map Nx.nd)).size:Int)
 ·have:=opK_2 _ _ ho hb
  rw [h] at this
  cases this
 ·have hk:opK (oF (X.map Nx.nd)) l=(0,oC (X.map Nx.nd)):=opK_put ho (by omega) hb
  rw [h] at hk
  simp only [Prod.mk.injEq,true_and] at hk
  subst hk
  exact ⟨by omega,qno_put hS hF hW hf h0 hi0 ho⟩
end Go.Proofs.YtgoffkfpdigeeaaGreatDoor
namespace Go.Proofs.YtgoffkfpdigeeaaGreatDoor
open Go.RowKit Go.Maps Go.WideMaps Go.Sort
def uT:ByteArray:=⟨#[97]⟩
def uN:Nd:=⟨5,[],[uT],[]⟩
def uX (q:Nat):List Nx:=[⟨uN,none,0,some ⟨q,0,none⟩,1,none,0⟩]
def uC:ByteArray:=⟨#[1,5,1,97,0]⟩
def uF:ByteArray:=⟨(pPut mD 1 (oS uC)).1.toArray⟩
section
variable (q:Nat)
theorem uX_ed (x y:Nat):¬Ed (kX (uX q)) x y:=by
 have hk:kX (uX q)=[[]]:=rfl
 unfold Ed
 rw [hk]
 match x with
 | 0=>simp
 | n+1=>simp
theorem uX_right:RightIs (uX q) 0:=by
 refine ⟨rfl,fun i hi j hj=>?_,fun x=>?_,fun x hx=>?_⟩
 ·match i,hi with
  | 0,_=>exact absurd hj (by simp [uX,uN])
 ·rintro ⟨c,e,r⟩
  exact uX_ed q _ _ e
 ·match x,hx with
  | 0,_=>exact Rt.refl _ _
theorem uX_small:Small (uX q):=by
 refine ⟨by simp [uX],fun i hi=>?_⟩
 match i,hi with
 | 0,_=>show big uN=false;decide +kernel
theorem uX_fn:FnX (uX q):=fun i hi j hj=>by
 match i,hi with
 | 0,_=>exact absurd hj (by simp [uX,uN])
theorem uX_ty:tyEo (uX q)=0:=(tyEo_iff _).2 fun i hi=>by
 match i,hi with
 | 0,_=>show tyNo uN=0;decide +kernel
theorem uX_fw:FowIs (uX q) 0:=by
 refine ⟨uX_right q,rfl,fun i hi z hz=>?_⟩
 match i,hi with
 | 0,_=>exact absurd hz (by simp [uX,uN])
theorem uX_in {d:Nat} (hd:DepthIs (uX q) 0 d):inL (meL (uX q) d) wL=true:=by
 have hd1:(d:Int)≤1:=by
  obtain ⟨h,_,h2,h3⟩:=hd.2 (uX_right q)
  have:=(h3 0 (by simp [uX])).2
  rw [h2]
  show ((h 0:Nat):Int)≤1
  have h4:(uX q).length=1:=rfl
  omega
 have he:edg (uX q)=0:=rfl
 have ht:txb (uX q)=1:=by
  show sum6 (itn [uT])=1
  decide +kernel
 refine decide_eq_true ⟨by show (0:Int)≤16777216;decide,by show ((1:Nat):Int)≤16777216;decide,?_,by show (d:Int)≤16777216;omega,?_⟩
 ·show ((edg (uX q):Nat):Int)≤16777216
  rw [he]
  decide
 ·show ((txb (uX q):Nat):Int)≤16777216
  rw [ht]
  decide
theorem uX_c:oC ((uX q).map Nx.nd)=uC:=by
 refine ba_eq ?_
 rw [oC_list]
 show oR [uN]=_
 decide +kernel
theorem uX_f:oF ((uX q).map Nx.nd)=uF:=by
 unfold oF uF
 rw [uX_c]
theorem uF_size:uF.size≤16777216:=by
 have:=(oF_sizes (uX_small 0) (by simp [uX]) (uX_fn 0) (uX_ty 0) (uX_right 0)).2
 rw [uX_f] at this
 omega
theorem uF_save:SoIs (uX q) 0 wL uF 0:=by
 obtain ⟨d,hd⟩:=depth_there (uX q) 0
 refine ⟨d,0,0,hd,vo_good (by decide) ⟨uX_ty q,uX_right q⟩ (uX_in q hd),.inr ⟨rfl,.inr ⟨uX_fw q,.inr ⟨?_,rfl,(uX_f q).symm⟩⟩⟩⟩
 rw [uX_f]
 have:=uF_size
 show ¬(16777216:Int)<_
 omega
theorem uF_load:LoIs uF wL ((uX q).map Nx.nd) 0:=by
 obtain ⟨d,hd⟩:=depth_there (uX q) 0
 have hz:=uF_size
 have h:=back_ofile (uX_small q) (uX_fn q) (uX_ty q) (uX_fw q) hd (by decide) (uX_in q hd) (by rw [uX_c];decide) (by rw [uX_f];show ¬(16777216:Int)<_;omega)
 rw [uX_f] at h
 exact h
theorem uF_q:∀R,opK uF wL=(0,R)→R.size≤4000000∧QnO R wL:=by
 obtain ⟨d,hd⟩:=depth_there (uX 0) 0
 have h:=qno_put_of (uX_small 0) (by simp [uX]) (uX_fn 0) (uX_ty 0) (uX_fw 0) (by decide) (uX_in 0 hd) (l:=wL) (by decide)
 rw [uX_f] at h
 exact h
end
theorem uF_no:LoIs ⟨#[68,73,79,82,2]⟩ wL (([]:List Nx).map Nx.nd) 7:=by
 have hG:pGet mD.data.toList (⟨#[68,73,79,82,2]⟩:ByteArray).data.toList=(0,2,[]):=by decide +kernel
 have h:=opK_4 ⟨#[68,73,79,82,2]⟩ wL (by decide) (by decide) (by rw [hG]) (by rw [hG];decide)
 exact .inl ⟨by rw [h];decide,h.symm,rfl⟩
end Go.Proofs.YtgoffkfpdigeeaaGreatDoor
namespace Go.Proofs.YtgoffkfpdigeeaaGreatDoor
open Go.RowKit Go.Maps Go.WideMaps
theorem TextAt.fr {S:Nat→Prop} {w w':World} {b o:Nat} {L:List ByteArray} (h:TextAt w b o L) (k:Fr S w w') (hb:¬S b):TextAt w' b o L:=fun i hi=>by
 obtain ⟨h1,h2⟩:=h i hi
 exact ⟨Nat.lt_of_lt_of_le h1 k.size,(World.cell?_of_block (k.block b h1 hb)).trans h2⟩
theorem At3.fr {S:Nat→Prop} {T:TypeId} {w w':World} {g:Nat} {x y z:Value} (h:At3 T w g x y z) (k:Fr S w w') (hb:¬S g):At3 T w' g x y z:=by
 unfold At3
 rw [k.block g h.lt hb]
 exact h
theorem zeroI6 (w:World):(zeroValue 3).run Tryz.prog w=.ok (.int .i64 0) w:=by kernel_rfl
def iE (n:Int):DataW Unit:=.lit (.int .i64 n)
def NumsIs (D:DataW Unit) (L:List ByteArray):Prop:=
 IsMap D∧∀s:ByteArray,Maps.has D (kS s)=decide (idx6 s L<L.length)∧(idx6 s L<L.length→D.atKey (kS s) (iE 0)=iE (idx6 s L:Nat))
theorem NumsIs.none:NumsIs (.map []) []:=⟨isMap_empty,fun s=>⟨rfl,fun h=>by simp at h⟩⟩
theorem idx6_snoc (L:List ByteArray) (s t:ByteArray) (h:s≠t):idx6 t (L++[s])=if idx6 t L<L.length then idx6 t L else L.length+1:=by
 by_cases e:idx6 t L<L.length
 ·rw [if_pos e,idx6_append t L [s] e]
 ·rw [if_neg e]
  have hn:∀j (hj:j<(L++[s]).length),(L++[s])[j]≠t:=by
   intro j hj q
   have hm:t ∈ L++[s]:=q ▸ List.getElem_mem hj
   rcases List.mem_append.1 hm with hm|hm
   ·exact e ((idx6_mem t L).2 hm)
   ·simp at hm
    exact h hm.symm
  rw [idx6_no t _ hn]
  simp
theorem NumsIs.snoc {D:DataW Unit} {L:List ByteArray} (h:NumsIs D L) (s:ByteArray) (hs:¬idx6 s L<L.length):NumsIs (D.put (kS s) (iE (L.length:Nat))) (L++[s]):=by
 obtain ⟨hm,h⟩:=h
 refine ⟨hm.put _ _,fun t=>?_⟩
 by_cases e:s=t
 ·subst e
  have hi:idx6 s (L++[s])=L.length:=by
   have:=(pIntern_idx L s).2
   rw [show pIntern L s=L++[s] from if_neg hs] at this
   have hle:=idx6_le s L
   omega
  refine ⟨?_,fun _=>?_⟩
  ·rw [has_put_same hm (kS_is s)]
   simp [hi]
  ·rw [atKey_put_same hm (kS_is s),hi]
 ·have hi:=idx6_snoc L s t e
  obtain ⟨h1,h2⟩:=h t
  have hle:=idx6_le t L
  rw [has_put_other (kS_ne (fun q=>e q.symm)),h1]
  by_cases q:idx6 t L<L.length
  ·rw [if_pos q] at hi
   refine ⟨by rw [hi,decide_eq_true q,decide_eq_true (by simp;omega)],fun _=>?_⟩
   rw [atKey_put_other (kS_ne (fun q=>e q.symm)),h2 q,hi]
  ·rw [if_neg q] at hi
   refine ⟨by rw [hi,decide_eq_false q,decide_eq_false (by simp)],fun r=>?_⟩
   rw [hi] at r
   simp at r
structure Tb (w:World) (B g gm:Nat) (v:Value) (L:List ByteArray):Prop where
 cells:At3 182 w g v (.map (some gm)) (.int .i64 (sum6 L:Nat))
 own:w.ownsRow B 9 1 v L.length (tV L)
 map:∃D,w.ownsMap Tryz.prog 9 (plainElem Tryz.prog 3) gm L.length D∧NumsIs D L
 baseG:B≤g
 baseM:B≤gm
 gm_ne:gm≠g
 row_g:v.ownBlock≠some g
 row_m:v.ownBlock≠some gm
def TbS (g gm:Nat) (v:Value) (k:Nat):Prop:=k=g∨k=gm∨v.ownBlock=some k
theorem Tb.ge {w:World} {B g gm:Nat} {v:Value} {L:List ByteArray} (h:Tb w B g gm v L):∀k,TbS g gm v k→B≤k:=by
 intro k hk
 rcases hk with rfl|rfl|hk
 ·exact h.baseG
 ·exact h.baseM
 ·exact (h.own.lt k hk).1
theorem Tb.lt {w:World} {B g gm:Nat} {v:Value} {L:List ByteArray} (h:Tb w B g gm v L):∀k,TbS g gm v k→k<w.heap.size:=by
 intro k hk
 rcases hk with rfl|rfl|hk
 ·exact h.cells.lt
 ·obtain ⟨D,h1,_⟩:=h.map;exact h1.lt
 ·exact (h.own.lt k hk).2
theorem Tb.fr {S:Nat→Prop} {w w':World} {B g gm:Nat} {v:Value} {L:List ByteArray} (h:Tb w B g gm v L) (k:Fr S w w') (hs:∀i,TbS g gm v i→¬S i):Tb w' B g gm v L:=by
 obtain ⟨D,h1,h2⟩:=h.map
 exact ⟨h.cells.fr k (hs g (.inl rfl)),own_fr h.own k (fun r hr=>hs r (.inr (.inr hr))),⟨D,map_fr h1 k (hs gm (.inr (.inl rfl))),h2⟩,h.baseG,h.baseM,h.gm_ne,h.row_g,h.row_m⟩
theorem Tb.below {w w':World} {B g gm:Nat} {v:Value} {L:List ByteArray} (h:Tb w B g gm v L) (k:Below w.heap.size w w'):Tb w' B g gm v L:=h.fr (Fr.of_below (S:=fun _=>False) k) (fun _ _ q=>q)
theorem Tb.drewN {w:World} {B g gm:Nat} {v:Value} {L:List ByteArray} (h:Tb w B g gm v L) (n:Nat):Tb (w.drewN n) B g gm v L:=⟨h.cells,h.own,h.map,h.baseG,h.baseM,h.gm_ne,h.row_g,h.row_m⟩
theorem Tb.mono {w:World} {B C g gm:Nat} {v:Value} {L:List ByteArray} (h:Tb w B g gm v L) (hc:C≤B):Tb w C g gm v L:=by
 refine ⟨h.cells,⟨h.own.1,?_⟩,h.map,Nat.le_trans hc h.baseG,Nat.le_trans hc h.baseM,h.gm_ne,h.row_g,h.row_m⟩
 rcases h.own.2 with hv|⟨g,cap,cur,hv,h1,r⟩
 ·exact .inl hv
 ·exact .inr ⟨g,cap,cur,hv,Nat.le_trans hc h1,r⟩
set_option maxRecDepth 10000 in
set_option maxHeartbeats 400000 in
theorem tnew_any (w:World) :
  Calls Tryz.prog 130 #[] w fun e w'=>e=.returned (.pointer (some ⟨w.heap.size+1,0,none⟩))∧Tb w' w.heap.size (w.heap.size+1) w.heap.size (.slice none 0 0) []∧Below w.heap.size w w':=by
 have hmm:=@run_makeMap Tryz.prog
 go_enter Tryz.func130,Tryz.ntmps130
 go_wp2
 go_ret
 have hm:=World.ownsMap_made w Tryz.prog 9 (plainElem (H:=Unit) Tryz.prog 3)
 have ha:=At3.new (w.alloc (.map #[] 0)) 182 (.slice none 0 0) (.map (some w.heap.size)) (.int .i64 0)
 rw [show (w.alloc (.map #[] 0)).heap.size=w.heap.size+1 by simp] at ha
 refine ⟨rfl,⟨ha,⟨rfl,.inl ⟨rfl,rfl⟩⟩,⟨_,hm.alloc _,NumsIs.none⟩,by omega,Nat.le_refl _,by omega,by simp [Value.ownBlock],by simp [Value.ownBlock]⟩,((Below.refl _ _).alloc (Nat.le_refl _) _).alloc (by simp) _⟩
set_option maxRecDepth 10000 in
set_option maxHeartbeats 400000 in
theorem tlen_any {w:World} {B g gm:Nat} {v:Value} {L:List ByteArray} (h:Tb w B g gm v L) :
  Calls Tryz.prog 131 #[.pointer (some ⟨g,0,none⟩)] w fun e w'=>e=.returned (.int .i64 (L.length:Nat))∧w'=w:=by
 obtain ⟨ao,cap,rfl⟩:=own_shape6 h.own
 have c0:=h.cells.c0
 go_enter Tryz.func131,Tryz.ntmps131
 go_wp2
 go_ret
 exact ⟨rfl,rfl⟩
set_option maxRecDepth 10000 in
set_option maxHeartbeats 400000 in
theorem tat_in {w:World} {B g gm:Nat} {v:Value} {L:List ByteArray} (h:Tb w B g gm v L) (n:Nat) (hn:n<L.length) :
  Calls Tryz.prog 172 #[.pointer (some ⟨g,0,none⟩),.int .i64 n] w fun e w'=>e=.returned (.tuple #[.string (L[n]'hn),.bool true])∧w'=w:=by
 obtain ⟨ao,cap,rfl⟩:=own_shape6 h.own
 have hown:=h.own
 obtain ⟨gk,hga,hgt⟩:=own_texts hown rfl
 obtain rfl:=hga (by omega)
 have c0:=h.cells.c0
 obtain ⟨hlt,d0⟩:=hgt n hn
 rw [Nat.zero_add] at d0
 have hn':(n:Int)<L.length:=by omega
 generalize L[n]=s at *
 clear hown hgt
 go_enter Tryz.func172,Tryz.ntmps172
 go_wp2
 go_ret2
 exact ⟨rfl,rfl⟩
set_option maxRecDepth 10000 in
set_option maxHeartbeats 400000 in
theorem tat_out {w:World} {B g gm:Nat} {v:Value} {L:List ByteArray} (h:Tb w B g gm v L) (n:Int) (hn:n<0∨(L.length:Int)≤n) :
  Calls Tryz.prog 172 #[.pointer (some ⟨g,0,none⟩),.int .i64 n] w fun e w'=>e=.returned (.tuple #[.string ⟨#[]⟩,.bool false])∧w'=w:=by
 obtain ⟨ao,cap,rfl⟩:=own_shape6 h.own
 have c0:=h.cells.c0
 rcases hn with hn|hn
 ·go_enter Tryz.func172,Tryz.ntmps172
  go_wp2
  go_ret2
  exact ⟨rfl,rfl⟩
 ·by_cases h0:n<0
  ·go_enter Tryz.func172,Tryz.ntmps172
   go_wp2
   go_ret2
   exact ⟨rfl,rfl⟩
  ·go_enter Tryz.func172,Tryz.ntmps172
   go_wp2
   go_ret2
   exact ⟨rfl,rfl⟩
theorem At3.set0 {T:TypeId} {w:World} {g:Nat} {x y z:Value} (h:At3 T w g x y z) (v:Value):At3 T (w.setCell ⟨g,0,none⟩ v) g v y z:=by
 have h':w.heap[g]? = _:=h
 unfold At3 World.setCell
 simp [Array.getElem?_modify,h']
set_option maxRecDepth 10000 in
set_option maxHeartbeats 400000 in
theorem tadd_any {w:World} {B g gm:Nat} {v:Value} {L:List ByteArray} (h:Tb w B g gm v L) (s:ByteArray) (hx:¬idx6 s L<L.length) (hs:s.size≤1000000000) (hl:L.length≤1000000) (hm:sum6 L≤1000000000) :
  Calls Tryz.prog 154 #[.pointer (some ⟨g,0,none⟩),.string s] w fun e w'=>e=.returned (.int .i64 (L.length:Nat))∧
   ∃v',Tb w' B g gm v' (L++[s])∧Fr (TbS g gm v) w w'∧∀k,TbS g gm v' k→TbS g gm v k∨w.heap.size≤k:=by
 obtain ⟨ao,cap,rfl⟩:=own_shape6 h.own
 obtain ⟨i0,hi,hz0,hz1,hz2⟩:=info_parts Tryz.infoS6
 have c0:=h.cells.c0
 obtain ⟨D,hmap,HD⟩:=h.map
 have HD':Hid (NumsIs (D.put (kS s) (iE (L.length:Nat))) (L++[s])):=HD.snoc s hx
 have hkey:=kS_key s (by unfold maxLen;omega)
 have hwf:(Lit.int .i64 (L.length:Nat)).wf=true:=WalkArith.wf_i64 (by omega)
 have HS:Hid (sum6 (L++[s])=sum6 L+s.size):=by show _=_;rw [sum6_append];simp [sum6]
 clear HD hx
 go_enter Tryz.func154,Tryz.ntmps154
 go_wp2_with (at_builtin;refine wpList_append_lies _ rfl (.tmp 15) (.tmp 17) 47 rfl B 9 i0 (.string ⟨#[]⟩) 1 16 Tryz.underlying47 hi hz0 hz1 hz2 rfl (by decide) _ L.length (tV L) rfl (h.own.alloc _) ⟨w.heap.size,0,none⟩ 1 1 [.string s] rfl rfl (cell_one_new _ _ _) (by intro u hu;simp at hu;subst hu;rfl) (by decide) (by unfold maxLen;omega) (by omega) (by have:=h.baseG;have:=h.cells.lt;simp;omega) _ rfl ?_)
 intro g2 cap2 w2 hown2 hgrow2 hlie hlt2
 have a2:=(h.cells.alloc (.cells #[.string s] 9)).kept hgrow2 (fun e=>h.row_g e.symm)
 have m2:=(hmap.alloc (.cells #[.string s] 9)).kept hgrow2 (fun e=>h.row_m e.symm)
 have d0:=a2.c0
 have f0:=a2.fz 0
 have g2g:g2≠g:=by
  have h1:=h.cells.lt
  rcases hlie with e|e
  ·intro q;subst q;exact h.row_g e
  ·omega
 have g2m:g2≠gm:=by
  have h1:=hmap.lt
  rcases hlie with e|e
  ·intro q;subst q;exact h.row_m e
  ·omega
 have a3:=a2.set0 (.slice (some ⟨g2,0,none⟩) (L.length+1) cap2)
 have m3:=m2.setCell (a:=⟨g,0,none⟩) h.gm_ne (.slice (some ⟨g2,0,none⟩) (L.length+1) cap2)
 have o3:(w2.setCell ⟨g,0,none⟩ (.slice (some ⟨g2,0,none⟩) (L.length+1) cap2)).ownsRow B 9 1 (.slice (some ⟨g2,0,none⟩) (L.length+1) cap2) (L.length+1) (tV L++[.string s]):=own_fr hown2 ((Fr.refl (fun k=>k=g) w2).set ⟨g,0,none⟩ rfl _) (fun r hr=>by simp [Value.ownBlock] at hr;omega)
 have F3:Fr (TbS g gm (.slice ao L.length cap)) w (w2.setCell ⟨g,0,none⟩ (.slice (some ⟨g2,0,none⟩) (L.length+1) cap2)):=
  ((Fr.of_below ((Below.refl _ _).alloc (Nat.le_refl _) (.cells #[.string s] 9))).trans (Fr.of_grown hgrow2 (fun k hk=>.inr (.inr hk))) (fun _ q _=>q)).set ⟨g,0,none⟩ (.inl rfl) _
 have d1:=a2.c1
 clear a2 m2 hown2 hgrow2
 go_wp2_with (at_mapUpdate;refine wpList_mapUpdate_own _ rfl _ _ _ 180 rfl 9 3 lawS6 Tryz.underlying180 _ gm L.length D rfl m3 (by unfold maxLen;omega) _ _ _ rfl rfl hkey _ [] (plainElem_int Tryz.underlying3 hwf) ?_)
 intro w4 m4 hgrow4
 have a4:=a3.kept hgrow4 (by simp;exact fun e=>h.gm_ne e.symm)
 have d2:=a4.c2
 have f2:=a4.fz 2
 have o4:=own_fr o3 (Fr.of_grown (S:=fun k=>k=gm) hgrow4 (fun k hk=>by cases hk;rfl)) (fun r hr=>by simp [Value.ownBlock] at hr;omega)
 have F4:=F3.trans (Fr.of_grown (S:=fun k=>k=gm) hgrow4 (fun k hk=>by cases hk;rfl)) (fun i hi _=>.inr (.inl hi))
 have B4:=F4.size
 clear a3 m3 o3 F3 d0 d1 f0 hgrow4
 go_wp2_with fail
 go_ret
 have hlen:(L++[s]).length=L.length+1:=by simp
 refine ⟨rfl,.slice (some ⟨g2,0,none⟩) (L.length+1) cap2,⟨?_,?_,⟨_,?_,HD'.out⟩,h.baseG,h.baseM,h.gm_ne,by simp [Value.ownBlock];exact g2g,by simp [Value.ownBlock];exact g2m⟩,F4.set ⟨g,2,none⟩ (.inl rfl) _,?_⟩
 ·rw [HS.out]
  exact a4.set2 _
 ·rw [hlen]
  have:=own_fr o4 ((Fr.refl (fun k=>k=g) w4).set ⟨g,2,none⟩ rfl (.int .i64 ((sum6 L:Nat)+(s.size:Int)))) (fun r hr=>by simp [Value.ownBlock] at hr;omega)
  simpa [tV] using this
 ·rw [hlen]
  exact m4.setCell (a:=⟨g,2,none⟩) h.gm_ne _
 ·intro k hk
  rcases hk with rfl|rfl|hk
  ·exact .inl (.inl rfl)
  ·exact .inl (.inr (.inl rfl))
  ·simp [Value.ownBlock] at hk
   subst hk
   rcases hlie with e|e
   ·exact .inl (.inr (.inr e))
   ·exact .inr (by omega)
def TIn (w w':World) (B g gm:Nat) (v:Value) (L:List ByteArray):Prop:=
 ∃v',Tb w' B g gm v' L∧Fr (TbS g gm v) w w'∧∀k,TbS g gm v' k→TbS g gm v k∨w.heap.size≤k
set_option maxRecDepth 10000 in
set_option maxHeartbeats 400000 in
theorem tintern_any {w:World} {B g gm:Nat} {v:Value} {L:List ByteArray} (h:Tb w B g gm v L) (s:ByteArray) (hs:s.size≤1000000000) (hl:L.length≤1000000) (hm:sum6 L≤1000000000) :
  Calls Tryz.prog 135 #[.pointer (some ⟨g,0,none⟩),.string s] w fun e w'=>e=.returned (.int .i64 (idx6 s L:Nat))∧TIn w w' B g gm v (pIntern L s):=by
 have c1:=h.cells.c1
 obtain ⟨D,hmap,HD⟩:=h.map
 obtain ⟨h1,h2⟩:=HD.2 s
 have hkey:=kS_key s (by unfold maxLen;omega)
 by_cases hx:idx6 s L<L.length
 ·rw [decide_eq_true hx] at h1
  have h3:Hid _:=h2 hx
  rw [show pIntern L s=L from if_pos hx]
  clear h2 HD
  go_enter Tryz.func135,Tryz.ntmps135
  go_wp2_with (at_lookup;refine wpList_lookup_own_ok_int _ rfl _ _ 180 rfl 9 3 .i64 lawS6 Tryz.underlying180 Tryz.underlying3 (zeroI6 _) gm L.length D rfl hmap _ _ rfl hkey ?_;intro c hat hwc;obtain rfl:c=(idx6 s L:Nat):=by (have:=hat.symm.trans h3.out;injection this with this;injection this))
  go_ret
  exact ⟨rfl,v,h,Fr.refl _ _,fun k hk=>.inl hk⟩
 ·rw [decide_eq_false hx] at h1
  have hle:=idx6_le s L
  rw [show pIntern L s=L++[s] from if_neg hx,show idx6 s L=L.length by omega]
  have HA:Hid (∀w',Below w.heap.size w w'→Calls Tryz.prog 154 #[.pointer (some ⟨g,0,none⟩),.string s] w' fun e w''=>e=.returned (.int .i64 (L.length:Nat))∧TIn w' w'' B g gm v (L++[s])):=fun w' hb=>tadd_any (h.below hb) s hx hs hl hm
  clear h2 HD hx hle
  go_enter Tryz.func135,Tryz.ntmps135
  go_wp2_with (at_lookup;refine wpList_lookup_own_ok_int _ rfl _ _ 180 rfl 9 3 .i64 lawS6 Tryz.underlying180 Tryz.underlying3 (zeroI6 _) gm L.length D rfl hmap _ _ rfl hkey ?_;intro c hat hwc;clear hat)
  refine (clone_any s _ (by omega)).mono ?_
  rintro e w1 ⟨rfl,hb⟩
  go_wp2_with fail
  refine (HA.out w1 hb).mono ?_
  rintro e w2 ⟨rfl,v',ht,hf,hn⟩
  go_wp2_with fail
  go_ret
  refine ⟨rfl,v',ht,(Fr.of_below hb).trans hf (fun _ q _=>q),fun k hk=>(hn k hk).imp id (fun q=>Nat.le_trans hb.size q)⟩
end Go.Proofs.YtgoffkfpdigeeaaGreatDoor
