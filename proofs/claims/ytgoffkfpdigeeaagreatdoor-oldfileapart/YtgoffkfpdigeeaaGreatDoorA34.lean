import Derived.Test.YtgoffkfpdigeeaaGreatDoorA33
import Derived.Test.YtgoffkfpdigeeaaGreatDoorA26
import Derived.Test.YtgoffkfpdigeeaaGreatDoorA27
import Derived.Test.YtgoffkfpdigeeaaGreatDoorA10
import Derived.Test.YtgoffkfpdigeeaaGreatDoorA21
import Derived.Test.YtgoffkfpdigeeaaGreatDoorA07
import Derived.Test.YtgoffkfpdigeeaaGreatDoorA12
namespace Go.Proofs.YtgoffkfpdigeeaaGreatDoor
open Go.RowKit Go.Maps Go.WideMaps Go.Sort
theorem pText_had (b:ByteArray) (k:Nat) {e:Int} (m:Int) (h:e≠0):pText b k e m=(⟨#[]⟩,k,e):=by unfold pText;rw [if_pos h]
def InvX (b:ByteArray) (tx:Int) (n k0:Nat) (e0:Int) (i:Nat) (l:List ByteArray) (k:Nat) (e:Int):Prop:=
 (e=0→oTs b tx n k0 e0=(l++(oTs b tx (n-i) k 0).1,(oTs b tx (n-i) k 0).2))∧(e≠0→(oTs b tx n k0 e0).2=(k,e))
theorem InvX.start (b:ByteArray) (tx:Int) (n k:Nat) (e:Int):InvX b tx n k e 0 [] k e:=
 ⟨fun h=>by subst h;rfl,fun h=>by rw [oTs_stop b tx n k h]⟩
theorem InvX.next {b:ByteArray} {tx:Int} {n k0:Nat} {e0:Int} {i:Nat} {l:List ByteArray} {k:Nat} {e:Int} {x:ByteArray} {k3:Nat} {e3:Int} (h:InvX b tx n k0 e0 i l k e) (hi:i<n) (hq:pText b k e tx=(x,k3,e3)) :
  InvX b tx n k0 e0 (i+1) (l++[x]) k3 (if ok8 x=true then e3 else fl e3 11):=by
 by_cases he:e=0
 ·subst he
  have h1:=h.1 rfl
  rw [show n-i=(n-(i+1))+1 by omega,oTs_next b tx _ k hq] at h1
  generalize (if ok8 x=true then e3 else fl e3 11)=e4 at h1 ⊢
  refine ⟨fun h4=>?_,fun h4=>?_⟩
  ·subst h4;rw [h1,List.append_assoc];rfl
  ·rw [h1,oTs_stop b tx _ k3 h4]
 ·rw [pText_had b k _ he] at hq
  cases hq
  have h2:=h.2 he
  rw [fl_had 11 he,ite_self]
  exact ⟨fun q=>absurd q he,fun _=>h2⟩
theorem InvX.fin {b:ByteArray} {tx:Int} {n k0:Nat} {e0:Int} {i:Nat} {l:List ByteArray} {k:Nat} {e:Int} (h:InvX b tx n k0 e0 i l k e) (hi:n≤i):k=(oTs b tx n k0 e0).2.1∧e=(oTs b tx n k0 e0).2.2∧((oTs b tx n k0 e0).2.2=0→l=(oTs b tx n k0 e0).1):=by
 by_cases he:e=0
 ·subst he
  have h1:=h.1 rfl
  rw [oTs_end b tx (n-i) k 0 (.inl (by omega))] at h1
  rw [h1]
  exact ⟨rfl,rfl,fun _=>by simp⟩
 ·have h2:=h.2 he
  rw [h2]
  exact ⟨rfl,rfl,fun q=>absurd q he⟩
def InvY (b:ByteArray) (p c:Int) (n k0:Nat) (e0:Int) (i:Nat) (l:List Int) (k:Nat) (e:Int):Prop:=
 (e=0→oKs b p c n k0 e0=(l++(oKs b p c (n-i) k 0).1,(oKs b p c (n-i) k 0).2))∧(e≠0→(oKs b p c n k0 e0).2=(k,e))
theorem InvY.start (b:ByteArray) (p c:Int) (n k:Nat) (e:Int):InvY b p c n k e 0 [] k e:=
 ⟨fun h=>by subst h;rfl,fun h=>by rw [oKs_stop b p c n k h]⟩
theorem InvY.next {b:ByteArray} {p c:Int} {n k0:Nat} {e0:Int} {i:Nat} {l:List Int} {k:Nat} {e q:Int} {k3:Nat} {e3:Int} (h:InvY b p c n k0 e0 i l k e) (hi:i<n) (hq:pUint b k e 16777216=(q,k3,e3)) :
  InvY b p c n k0 e0 (i+1) (l++[q]) k3 (if decide (q≤p∨c≤q)=true then fl e3 13 else e3):=by
 by_cases he:e=0
 ·subst he
  have h1:=h.1 rfl
  rw [show n-i=(n-(i+1))+1 by omega,oKs_next b p c _ k hq] at h1
  generalize (if decide (q≤p∨c≤q)=true then fl e3 13 else e3)=e4 at h1 ⊢
  refine ⟨fun h4=>?_,fun h4=>?_⟩
  ·subst h4;rw [h1,List.append_assoc];rfl
  ·rw [h1,oKs_stop b p c _ k3 h4]
 ·rw [pUint_had b k _ he] at hq
  cases hq
  have h2:=h.2 he
  rw [fl_had 13 he,ite_self]
  exact ⟨fun q=>absurd q he,fun _=>h2⟩
theorem InvY.fin {b:ByteArray} {p c:Int} {n k0:Nat} {e0:Int} {i:Nat} {l:List Int} {k:Nat} {e:Int} (h:InvY b p c n k0 e0 i l k e) (hi:n≤i):k=(oKs b p c n k0 e0).2.1∧e=(oKs b p c n k0 e0).2.2∧((oKs b p c n k0 e0).2.2=0→l=(oKs b p c n k0 e0).1):=by
 by_cases he:e=0
 ·subst he
  have h1:=h.1 rfl
  rw [oKs_end b p c (n-i) k 0 (.inl (by omega))] at h1
  rw [h1]
  exact ⟨rfl,rfl,fun _=>by simp⟩
 ·have h2:=h.2 he
  rw [h2]
  exact ⟨rfl,rfl,fun q=>absurd q he⟩
theorem InvY.bad {b:ByteArray} {p c:Int} {n k0:Nat} {e0:Int} {i:Nat} {l:List Int} {k:Nat} {e:Int} (h:InvY b p c n k0 e0 i l k e) (he:e≠0):k=(oKs b p c n k0 e0).2.1∧e=(oKs b p c n k0 e0).2.2:=by
 have h2:=h.2 he
 rw [h2]
 exact ⟨rfl,rfl⟩
theorem oKs_ok {b:ByteArray} {p c:Int} {n k:Nat} {e:Int} (h:(oKs b p c n k e).2.2=0):e=0:=by
 by_cases he:e=0
 ·exact he
 ·rw [oKs_stop b p c n k he] at h;exact h
theorem oTs_ok {b:ByteArray} {tx:Int} {n k:Nat} {e:Int} (h:(oTs b tx n k e).2.2=0):e=0:=by
 by_cases he:e=0
 ·exact he
 ·rw [oTs_stop b tx n k he] at h;exact h
theorem pUint_okO {b:ByteArray} {k:Nat} {e m:Int} (h:(pUint b k e m).2.2=0):e=0:=by
 by_cases he:e=0
 ·exact he
 ·rw [pUint_had b k m he] at h;exact h
theorem fl_okO {e d:Int} {P:Prop} [Decidable P] (h:(if P then fl e d else e)=0):e=0:=by
 by_cases he:e=0
 ·exact he
 ·rw [fl_had d he,ite_self] at h;exact h
def RdO (b:ByteArray) (tx:Int) (P:List Nd) (kz:Nat) (ez:Int) (m k:Nat) (ed:Int) (Y:List Nx):Prop:=
 ∀T k' e',oNds b (m:Int) tx (m-Y.length) (Y.length:Nat) ed k=(T,k',e')→(P,kz,ez)=(Y.map Nx.nd++T,k',e')
section
variable {b:ByteArray} {tx:Int} {P:List Nd} {kz:Nat} {ez:Int} {m k k1:Nat} {ed e1:Int} {Y:List Nx} {N:Nd}
theorem RdO.next {y:Nx} (h:RdO b tx P kz ez m k ed Y) (hlt:Y.length<m) (hn:oNd b (Y.length:Nat) (m:Int) tx ed k 0=(y.nd,k1,0)):RdO b tx P kz ez m k1 (ed-y.nd.kids.length) (Y++[y]):=by
 intro T k' e' hq
 rw [List.length_append,List.length_singleton] at hq
 have:=h (y.nd :: T) k' e' (by
  rw [show m-Y.length=(m-(Y.length+1))+1 by omega]
  unfold oNds
  rw [hn,if_neg (by simp)]
  dsimp only
  rw [show ((Y.length:Nat):Int)+1=((Y.length+1:Nat):Int) by omega,hq])
 rw [this]
 simp
theorem RdO.mem (h:RdO b tx P kz ez m k ed Y) (hlt:Y.length<m) (hn:oNd b (Y.length:Nat) (m:Int) tx ed k 0=(N,k1,0)):N ∈ P:=by
 obtain ⟨T,k',e',hq⟩:∃T k' e',oNds b (m:Int) tx (m-(Y.length+1)) ((Y.length+1:Nat):Int) (ed-N.kids.length) k1=(T,k',e'):=⟨_,_,_,rfl⟩
 have:=h (N :: T) k' e' (by
  rw [show m-Y.length=(m-(Y.length+1))+1 by omega]
  unfold oNds
  rw [hn,if_neg (by simp)]
  dsimp only
  rw [show ((Y.length:Nat):Int)+1=((Y.length+1:Nat):Int) by omega,hq])
 simp only [Prod.mk.injEq] at this
 rw [this.1]
 simp
theorem RdO.stop (h:RdO b tx P kz ez m k ed Y) (hlt:Y.length<m) (hn:oNd b (Y.length:Nat) (m:Int) tx ed k 0=(N,k1,e1)) (he:e1≠0):ez=e1:=by
 have:=h [] k1 e1 (by obtain ⟨q,hq⟩:∃q,m-Y.length=q+1:=⟨m-Y.length-1,by omega⟩;rw [hq];unfold oNds;rw [hn,if_pos he])
 simp only [Prod.mk.injEq] at this
 exact this.2.2
theorem RdO.fin (h:RdO b tx P kz ez m k ed Y) (hlt:¬Y.length<m):P=Y.map Nx.nd∧kz=k∧ez=0:=by
 have:=h [] k 0 (by rw [show m-Y.length=0 by omega];rfl)
 simpa using this
end
theorem oNd_eq {b:ByteArray} {p c tx edges:Int} {k:Nat} {q:Int} {k1:Nat} {e1 e2:Int} {A:List Int} {k4:Nat} {e4:Int} {B:List ByteArray} {k5:Nat} {e5 m:Int} {k6:Nat} {e6 e7:Int} {K:List Int} {k8:Nat} {e8:Int} (hq:pUint b k 0 16777216=(q,k1,e1)) (h2:(if (oldSp q).ok=true then e1 else fl e1 9)=e2)
  (hA:gIs b (oldSp q).ints k1 e2=(A,k4,e4)) (hB:oTs b tx (oldSp q).texts.toNat k4 e4=(B,k5,e5)) (hM:pUint b k5 e5 edges=(m,k6,e6)) (h7:(if decide (m<(oldSp q).least∨(0≤(oldSp q).most∧(oldSp q).most<m))=true then fl e6 12 else e6)=e7) (hK:oKs b p c m.toNat k6 e7=(K,k8,e8)) :
  oNd b p c tx edges k 0=(⟨q,A,B,K⟩,k8,e8):=by
 have hR:=oRest_eq hA hB hM h7 hK
 unfold oNd
 rw [hq]
 dsimp only
 rw [h2,hR]
structure Rws (w:World) (B:Nat) (v:Value) (Y:List Nx):Prop where
 row:w.ownsRow B 51 4 v Y.length (nxV Y)
 each:∀j,j<Y.length→OwnNx w B (Y.getD j noNx)
section
variable {w w':World} {B:Nat} {v:Value} {Y:List Nx}
theorem Rws.alien (h:Rws w B v Y):Alien w (fun b=>v.ownBlock=some b):=by
 rintro b hb hlt
 rcases h.row.2 with ⟨q,_⟩|⟨g,cap,cur,q,_,h5,_⟩
 ·rw [q] at hb;cases hb
 ·rw [q] at hb
  simp only [Value.ownBlock,Option.some.injEq] at hb
  subst hb
  exact ⟨_,_,_,h5,by decide,by decide,by decide⟩
theorem Rws.below (h:Rws w B v Y) (hb:Below w.heap.size w w'):Rws w' B v Y:=
 ⟨own_below h.row hb (Nat.le_refl _),fun j hj=>(h.each j hj).fr (Fr.of_below (S:=fun _=>False) hb) (fun _ q=>q.elim)⟩
theorem Rws.curP {gc:Nat} {x y z:Value} (h:Rws w B v Y) (hg:w.grownBy w' (some gc)) (hc:At3 156 w gc x y z):Rws w' B v Y:=by
 have hc':AtN 156 w gc #[x,y,z]:=hc
 have hF:Fr (fun b=>b=gc) w w':=Fr.of_grown hg (fun k e=>by cases e;rfl)
 have hal:Alien w (fun b=>b=gc):=fun b hb _=>⟨_,_,_,hb ▸ hc,by decide,by decide,by decide⟩
 exact ⟨own_fr h.row hF (fun b hb e=>own_ne_at h.row hc' (by decide) b hb e),fun j hj=>(h.each j hj).fr hF hal⟩
theorem Rws.next {W:World} {v':Value} {y:Nx} (h:Rws w B v Y) (hf:Fr (fun b=>v.ownBlock=some b) w W) (h2:W.ownsRow B 51 4 v' (Y.length+1) (nxV Y++nxC y)) (h3:OwnNx W B y):Rws W B v' (Y++[y]):=by
 refine ⟨by rw [nxV_snoc,List.length_append];exact h2,fun j hj=>?_⟩
 by_cases hlt:j<Y.length
 ·rw [show (Y++[y]).getD j noNx=Y.getD j noNx by rw [List.getD_eq_getElem?_getD,List.getElem?_append_left hlt,← List.getD_eq_getElem?_getD]]
  exact (h.each j hlt).fr hf h.alien
 ·obtain rfl:j=Y.length:=by simp at hj;omega
  rw [show (Y++[y]).getD Y.length noNx=y by simp]
  exact h3
theorem Rws.low {a:Option Addr} {c:Nat} {S:Nat→Prop} (h:Rws w B (.slice a Y.length c) Y) (k:Fr S w w') (hs:∀i,S i→i<B):ScAt w' a Y:=
 ⟨LsAt.of_own4' (own_fr h.row k (fun r hr q=>by have:=(h.row.lt r hr).1;have:=hs r q;omega)),fun i hi=>OwnNd.frAt (h.each i hi) k hs⟩
theorem Rws.nil (w:World) (B:Nat):Rws w B (.slice none 0 0) []:=⟨⟨rfl,.inl ⟨rfl,rfl⟩⟩,fun j hj=>by simp at hj⟩
end
end Go.Proofs.YtgoffkfpdigeeaaGreatDoor
namespace Go.Proofs.YtgoffkfpdigeeaaGreatDoor
open Go.RowKit
theorem pText_size (b:ByteArray) (k:Nat) (e m:Int):(pText b k e m).1.size≤b.size:=by
 have hz:(⟨#[]⟩:ByteArray).size≤b.size:=Nat.zero_le _
 unfold pText
 split
 ·exact hz
 split
 ·exact hz
 split
 ·exact hz
 split
 ·exact hz
 ·dsimp only
  rw [ByteArray.size_extract]
  omega
end Go.Proofs.YtgoffkfpdigeeaaGreatDoor
