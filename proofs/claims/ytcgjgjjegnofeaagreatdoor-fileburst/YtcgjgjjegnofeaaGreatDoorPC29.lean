import Derived.Test.YtcgjgjjegnofeaaGreatDoorPC28
import Derived.Test.YtcgjgjjegnofeaaGreatDoorPC24
namespace Go.Proofs.YtcgjgjjegnofeaaGreatDoor
open Go.RowKit Go.Maps Go.WideMaps Go.Sort
theorem itn_same {T U:List ByteArray} (h:∀s,s ∈ T↔s ∈ U):sum6 (itn T)=sum6 (itn U):=by
 have hp:(itn T).Perm (itn U):=(List.perm_ext_iff_of_nodup (itn_nodup T) (itn_nodup U)).2 (fun s=>by rw [itn_mem,itn_mem,h])
 exact List.Perm.sum_nat (hp.map ByteArray.size)
theorem allT_mem (X:List Nx) (s:ByteArray):s ∈ allT X↔∃i,i<X.length∧s ∈ (X.getD i noNx).nd.texts:=by
 unfold allT
 rw [List.mem_flatMap]
 constructor
 ·rintro ⟨x,hx,hs⟩
  obtain ⟨i,hi,rfl⟩:=List.getElem_of_mem hx
  exact ⟨i,hi,by rwa [List.getD_eq_getElem?_getD,List.getElem?_eq_getElem hi]⟩
 ·rintro ⟨i,hi,hs⟩
  rw [List.getD_eq_getElem?_getD,List.getElem?_eq_getElem hi] at hs
  exact ⟨X[i],List.getElem_mem hi,hs⟩
theorem ren_tyN (f:Int→Int) (N:Nd):tyN (renNd f N)=tyN N:=by simp [tyN,chkN,renNd]
section
variable {X Y:List Nx} {p:Nat→Nat} {r:Int} {l:Lm} {d:Nat}
theorem Ren.txb (h:Ren X Y p):txb Y=txb X:=by
 refine itn_same fun s=>?_
 rw [allT_mem,allT_mem]
 constructor
 ·rintro ⟨j,hj,hs⟩
  rw [h.len] at hj
  obtain ⟨i,hi,rfl⟩:=h.per.onto j hj
  rw [h.nd i hi] at hs
  exact ⟨i,hi,hs⟩
 ·rintro ⟨i,hi,hs⟩
  exact ⟨p i,by rw [h.len];exact h.per.lt i hi,by rw [h.nd i hi];exact hs⟩
theorem Ren.ty (h:Ren X Y p) (q:tyE X=0):tyE Y=0:=tyE_of fun j hj=>by
 rw [h.len] at hj
 obtain ⟨i,hi,rfl⟩:=h.per.onto j hj
 rw [h.nd i hi,ren_tyN]
 exact tyE_all q i hi
theorem Ren.fnx (h:Ren X Y p) (hX:FnX X):FnX Y:=fun j hj=>by
 rw [h.len] at hj
 obtain ⟨i,hi,rfl⟩:=h.per.onto j hj
 rw [h.nd i hi]
 exact hX i hi
end
theorem bk_of {X Y:List Nx} {r e:Int} {A C:ByteArray} (hS:Small X) (hf:X.length≤60) (hF:FnX X) (hW:Whole X r) (hY:Y.map Nx.nd=cX X r) (hP:PuIs Y ((X.length:Int)-1) A C e):e=0∧Bk Y ((X.length:Int)-1) A C:=by
 have hR:=can_ren hW.2 hY
 have hT:=hR.ty hW.1
 have hC:=can_isCan hW.2 hY
 rcases hP with ⟨h1,_⟩|⟨_,n,y,h2,⟨h3,_⟩|⟨h3,⟨h4,_⟩|⟨h4,h5,h6,h7⟩⟩⟩
 ·exact absurd hT h1
 ·exact absurd (h2.right.2 hC.1) h3
 ·exact absurd hC h4
 ·exact ⟨h5,hR.small hS,by rw [hR.len];exact hf,hR.fnx hF,hT,hC,by rw [hR.len],by rw [← rTab_all];exact h6,h7⟩
theorem rAllN_len:∀(l:List Nd) (i:Nat) (L:List ByteArray),(∀N ∈ l,big N=false)→(rAllN i l L).length≤32020*l.length
 | [],_,_,_=>by simp [rAllN]
 | N :: r,i,L,h=>by
  have h1:=rB_size N i L (h N (by simp))
  have h2:=rAllN_len r (i+1) (itF L N.texts) (fun M q=>h M (by simp [q]))
  show (rB N i L++rAllN (i+1) r (itF L N.texts)).length≤_
  rw [List.length_append,List.length_cons]
  omega
theorem sum6_few:∀T:List ByteArray,(∀s ∈ T,s.size≤3000)→sum6 T≤3000*T.length
 | [],_=>by simp [sum6]
 | x :: t,q=>by
  have h1:=q x (by simp)
  have h2:=sum6_few t (fun s hs=>q s (by simp [hs]))
  have h0:sum6 (x :: t)=x.size+sum6 t:=by simp [sum6]
  rw [h0,List.length_cons]
  omega
theorem Bk.size {X:List Nx} {r:Int} {A C:ByteArray} (h:Bk X r A C):A.size≤1000000∧C.size≤4000000:=by
 have hf:=h.few
 constructor
 ·have h1:=list_size A
  rw [h.a] at h1
  have h2:=body6_le (itn (allT X))
  have h3:=put_length (itn (allT X)).length
  have h4:=h.tab.2.2.1
  have hs:=allT_small X h.sm X.length (Nat.le_refl _)
  rw [List.take_of_length_le (Nat.le_refl _)] at hs
  have h5:=sum6_few (itn (allT X)) (fun s q=>hs.2 s ((itn_mem _ _).1 q))
  unfold pPut6 at h1
  rw [List.length_append] at h1
  omega
 ·have h1:=h.sz
  have h3:=put_length X.length
  have h4:=rAllN_len (X.map Nx.nd) 0 [] (fun N q=>by
   obtain ⟨x,hx,rfl⟩:=List.mem_map.1 q
   obtain ⟨i,hi,rfl⟩:=List.getElem_of_mem hx
   have e:X[i]=X.getD i noNx:=by rw [List.getD_eq_getElem?_getD,List.getElem?_eq_getElem hi];rfl
   rw [e]
   exact h.sm.2 i hi)
  rw [List.length_map] at h4
  omega
theorem can_depth {X Y:List Nx} {r:Int} {d:Nat} (hR:RightIs X r) (hY:Y.map Nx.nd=cX X r) (hd:DepthIs X r d):DepthIs Y ((X.length:Int)-1) d:=by
 have h:=can_ren hR hY
 have e:=can_root hR
 obtain ⟨d',hd'⟩:=depth_there Y ((X.length:Int)-1)
 have hd2:=hd'
 rw [← e] at hd2
 have:=h.depth hR hd hd2
 subst this
 exact hd'
end Go.Proofs.YtcgjgjjegnofeaaGreatDoor
