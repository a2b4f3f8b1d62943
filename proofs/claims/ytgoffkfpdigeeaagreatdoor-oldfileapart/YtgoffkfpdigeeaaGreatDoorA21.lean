import Derived.Test.YtgoffkfpdigeeaaGreatDoorA11
import Derived.Test.YtgoffkfpdigeeaaGreatDoorA17
import Derived.Test.YtgoffkfpdigeeaaGreatDoorA20
import Derived.Test.YtgoffkfpdigeeaaGreatDoorA16
import Derived.Test.YtgoffkfpdigeeaaGreatDoorA02
namespace Go.Proofs.YtgoffkfpdigeeaaGreatDoor
open Go.RowKit
def oTs (b:ByteArray) (tx:Int):Nat→Nat→Int→List ByteArray × Nat × Int
 | 0,k,e=>([],k,e)
 | n+1,k,e=>if e≠0 then ([],k,e) else
  ((pText b k e tx).1 :: (oTs b tx n (pText b k e tx).2.1 (if ok8 (pText b k e tx).1=true then (pText b k e tx).2.2 else fl (pText b k e tx).2.2 11)).1,
   (oTs b tx n (pText b k e tx).2.1 (if ok8 (pText b k e tx).1=true then (pText b k e tx).2.2 else fl (pText b k e tx).2.2 11)).2)
def oKs (b:ByteArray) (p c:Int):Nat→Nat→Int→List Int × Nat × Int
 | 0,k,e=>([],k,e)
 | n+1,k,e=>if e≠0 then ([],k,e) else
  ((pUint b k e 16777216).1 :: (oKs b p c n (pUint b k e 16777216).2.1 (if (pUint b k e 16777216).1≤p∨c≤(pUint b k e 16777216).1 then fl (pUint b k e 16777216).2.2 13 else (pUint b k e 16777216).2.2)).1,
   (oKs b p c n (pUint b k e 16777216).2.1 (if (pUint b k e 16777216).1≤p∨c≤(pUint b k e 16777216).1 then fl (pUint b k e 16777216).2.2 13 else (pUint b k e 16777216).2.2)).2)
def oRest (b:ByteArray) (p c tx edges:Int) (S:Sp) (k:Nat) (e:Int):(List Int × List ByteArray × List Int) × Nat × Int:=
 let I:=gIs b S.ints k e
 let T:=oTs b tx S.texts.toNat I.2.1 I.2.2
 let m:=pUint b T.2.1 T.2.2 edges
 let K:=oKs b p c m.1.toNat m.2.1 (if m.1<S.least∨(0≤S.most∧S.most<m.1) then fl m.2.2 12 else m.2.2)
 ((I.1,T.1,K.1),K.2)
def oNd (b:ByteArray) (p c tx edges:Int) (k:Nat) (e:Int):Nd × Nat × Int:=
 let q:=pUint b k e 16777216
 let R:=oRest b p c tx edges (oldSp q.1) q.2.1 (if (oldSp q.1).ok=true then q.2.2 else fl q.2.2 9)
 (⟨q.1,R.1.1,R.1.2.1,R.1.2.2⟩,R.2.1,R.2.2)
def oNds (b:ByteArray) (c tx:Int):Nat→Int→Int→Nat→List Nd × Nat × Int
 | 0,_,_,k=>([],k,0)
 | n+1,p,ed,k=>if (oNd b p c tx ed k 0).2.2≠0 then ([],(oNd b p c tx ed k 0).2.1,(oNd b p c tx ed k 0).2.2) else
  ((oNd b p c tx ed k 0).1 :: (oNds b c tx n (p+1) (ed-(oNd b p c tx ed k 0).1.kids.length) (oNd b p c tx ed k 0).2.1).1,(oNds b c tx n (p+1) (ed-(oNd b p c tx ed k 0).1.kids.length) (oNd b p c tx ed k 0).2.1).2)
def oPay (b:ByteArray) (n ed tx:Int):List Nd × Int:=
 let q:=pUint b 0 0 n
 if q.2.2≠0 then ([],q.2.2) else if q.1=0 then ([],13) else
 let N:=oNds b q.1 tx q.1.toNat 0 ed q.2.1
 if N.2.2≠0 then ([],N.2.2) else if N.2.1<b.size then ([],8) else (N.1,0)
theorem oTs_at (b:ByteArray) (tx:Int):∀(n k:Nat) (e:Int),k≤b.size→k≤(oTs b tx n k e).2.1∧(oTs b tx n k e).2.1≤b.size
 | 0,k,e,h=>⟨Nat.le_refl _,h⟩
 | n+1,k,e,h=>by
  have h1:=pText_at b k e tx h
  unfold oTs
  split
  ·exact ⟨Nat.le_refl _,h⟩
  ·have h2:=oTs_at b tx n (pText b k e tx).2.1 (if ok8 (pText b k e tx).1=true then (pText b k e tx).2.2 else fl (pText b k e tx).2.2 11) h1.2
   exact ⟨by dsimp only;omega,h2.2⟩
theorem oKs_at (b:ByteArray) (p c:Int):∀(n k:Nat) (e:Int),k≤b.size→k≤(oKs b p c n k e).2.1∧(oKs b p c n k e).2.1≤b.size
 | 0,k,e,h=>⟨Nat.le_refl _,h⟩
 | n+1,k,e,h=>by
  have h1:=pUint_at b k e 16777216 h
  unfold oKs
  split
  ·exact ⟨Nat.le_refl _,h⟩
  ·have h2:=oKs_at b p c n (pUint b k e 16777216).2.1 (if (pUint b k e 16777216).1≤p∨c≤(pUint b k e 16777216).1 then fl (pUint b k e 16777216).2.2 13 else (pUint b k e 16777216).2.2) h1.2
   exact ⟨by dsimp only;omega,h2.2⟩
theorem oTs_stop (b:ByteArray) (tx:Int) (n k:Nat) {e:Int} (h:e≠0):oTs b tx n k e=([],k,e):=by
 cases n with
 | zero=>rfl
 | succ n=>unfold oTs;rw [if_pos h]
theorem oKs_stop (b:ByteArray) (p c:Int) (n k:Nat) {e:Int} (h:e≠0):oKs b p c n k e=([],k,e):=by
 cases n with
 | zero=>rfl
 | succ n=>unfold oKs;rw [if_pos h]
theorem oTs_next (b:ByteArray) (tx:Int) (n k:Nat) {x:ByteArray} {k3:Nat} {e3:Int} (hq:pText b k 0 tx=(x,k3,e3)) :
  oTs b tx (n+1) k 0=(x :: (oTs b tx n k3 (if ok8 x=true then e3 else fl e3 11)).1,(oTs b tx n k3 (if ok8 x=true then e3 else fl e3 11)).2):=by
 conv=>lhs;unfold oTs
 rw [if_neg (by decide),hq]
theorem oTs_end (b:ByteArray) (tx:Int) (n k:Nat) (e:Int) (h:n=0∨e≠0):oTs b tx n k e=([],k,e):=by
 rcases h with rfl|h
 ·rfl
 ·exact oTs_stop b tx n k h
theorem oKs_next (b:ByteArray) (p c:Int) (n k:Nat) {x:Int} {k3:Nat} {e3:Int} (hq:pUint b k 0 16777216=(x,k3,e3)) :
  oKs b p c (n+1) k 0=(x :: (oKs b p c n k3 (if decide (x≤p∨c≤x)=true then fl e3 13 else e3)).1,(oKs b p c n k3 (if decide (x≤p∨c≤x)=true then fl e3 13 else e3)).2):=by
 conv=>lhs;unfold oKs
 rw [if_neg (by decide),hq]
 simp only [decide_eq_true_eq]
theorem oKs_end (b:ByteArray) (p c:Int) (n k:Nat) (e:Int) (h:n=0∨e≠0):oKs b p c n k e=([],k,e):=by
 rcases h with rfl|h
 ·rfl
 ·exact oKs_stop b p c n k h
theorem oRest_eq {b:ByteArray} {p c tx edges:Int} {S:Sp} {k1:Nat} {e2:Int} {A:List Int} {k4:Nat} {e4:Int} {B:List ByteArray} {k5:Nat} {e5 m:Int} {k6:Nat} {e6 e7:Int} {K:List Int} {k8:Nat} {e8:Int} (hA:gIs b S.ints k1 e2=(A,k4,e4)) (hB:oTs b tx S.texts.toNat k4 e4=(B,k5,e5))
  (hM:pUint b k5 e5 edges=(m,k6,e6)) (h7:(if decide (m<S.least∨(0≤S.most∧S.most<m))=true then fl e6 12 else e6)=e7) (hK:oKs b p c m.toNat k6 e7=(K,k8,e8)):oRest b p c tx edges S k1 e2=((A,B,K),k8,e8):=by
 unfold oRest
 simp only [decide_eq_true_eq] at h7
 simp only [hA,hB,hM,h7,hK]
theorem oldSp_small (k:Int):(oldSp k).ints.length≤4∧0≤(oldSp k).texts∧(oldSp k).texts≤2∧-1≤(oldSp k).least∧(oldSp k).least≤1∧-1≤(oldSp k).most∧(oldSp k).most≤1:=by
 unfold oldSp noSp
 repeat' split
 all_goals decide
theorem oldSp_kind {k:Int} (h:(oldSp k).ok=true):1≤k∧k≤6:=by
 by_cases q:k<1∨7≤k
 ·rw [oldSp_no k q] at h
  exact absurd h (by decide)
 ·omega
def oT (l:List ByteArray):List UInt8:=l.flatMap fun s=>put s.size++s.data.toList
def oK (l:List Int):List UInt8:=l.flatMap fun k=>put k.toNat
def oB (N:Nd):List UInt8:=put N.kind.toNat++rI N.ints++oT N.texts++put N.kids.length++oK N.kids
def oR (P:List Nd):List UInt8:=put P.length++P.flatMap oB
theorem text_put {b:ByteArray} {k:Nat} {s:ByteArray} {r:List UInt8} (m:Int) (h:b.data.toList.drop k=put s.size++(s.data.toList++r)) (hk:k≤b.size) (hn:s.size≤16777216) (hm:(s.size:Int)≤m):pText b k 0 m=(s,k+((put s.size).length+s.size),0):=by
 have hd:=drop_more h rfl
 have hl:b.size-(k+(put s.size).length)=s.size+r.length:=by
  have:=congrArg List.length hd
  rw [List.length_drop,List.length_append,list_size,list_size] at this
  exact this
 have hp:=(put_length s.size).1
 unfold pText
 rw [if_neg (by simp),num_put h (by omega)]
 dsimp only
 rw [if_neg (by simp),if_neg (by omega)]
 by_cases hz:k+(put s.size).length≤b.size
 ·rw [if_neg (by omega)]
  have he:b.extract (k+(put s.size).length) (k+(put s.size).length+s.size)=s:=by
   refine ba_eq ?_
   rw [Lib.extract_data,hd,show k+(put s.size).length+s.size-(k+(put s.size).length)=s.size by omega,← list_size s,List.take_left]
  rw [he,Nat.add_assoc]
 ·exfalso
  have:=congrArg List.length h
  rw [List.length_drop,list_size,List.length_append] at this
  omega
theorem text_bytes {b:ByteArray} {k:Nat} {e m:Int} {x:ByteArray} {k':Nat} (hk:k≤b.size) (h:pText b k e m=(x,k',0)):e=0∧x.size≤16777216∧(x.size:Int)≤max m 0∧b.data.toList.drop k=put x.size++(x.data.toList++b.data.toList.drop k'):=by
 unfold pText at h
 split at h
 ·rename_i q
  simp only [Prod.mk.injEq] at h
  exact absurd h.2.2 q
 ·rename_i q
  split at h
  ·rename_i q2
   simp only [Prod.mk.injEq] at h
   have:=h.2.2
   omega
  ·rename_i q2
   split at h
   ·simp only [Prod.mk.injEq] at h
    exact absurd h.2.2 (by decide)
   ·rename_i q3
    split at h
    ·simp only [Prod.mk.injEq] at h
     exact absurd h.2.2 (by decide)
    ·rename_i q4
     simp only [Prod.mk.injEq] at h
     obtain ⟨rfl,rfl,_⟩:=h
     have h1:=num_bytes (b:=b) (k:=k) (by omega)
     have h2:=num_ok b k (by omega) hk
     generalize (num b k).2.1=n1 at *
     generalize (num b k).1=n0 at *
     have hs:(b.extract (k+n1) (k+n1+n0)).size=n0:=by
      rw [ByteArray.size_extract]
      omega
     refine ⟨by omega,by omega,by omega,?_⟩
     rw [hs,Lib.extract_data,h1.2,show k+n1+n0-(k+n1)=n0 by omega,← List.drop_drop (i:=n0),List.take_append_drop]
end Go.Proofs.YtgoffkfpdigeeaaGreatDoor
namespace Go.Proofs.YtgoffkfpdigeeaaGreatDoor
open Go.RowKit
theorem oTs_put (b:ByteArray) (tx:Int):∀(T:List ByteArray) (k:Nat) (r:List UInt8),k≤b.size→b.data.toList.drop k=oT T++r→(∀s ∈ T,ok8 s=true∧s.size≤16777216∧(s.size:Int)≤tx)→oTs b tx T.length k 0=(T,k+(oT T).length,0)
 | [],k,r,_,_,_=>rfl
 | x :: T,k,r,hk,h,hi=>by
  have e1:oT (x :: T)=put x.size++(x.data.toList++oT T):=by simp [oT]
  rw [e1,List.append_assoc,List.append_assoc] at h
  obtain ⟨h1,h2,h3⟩:=hi x (by simp)
  have hp:=text_put tx h hk h2 h3
  have hl:(put x.size++x.data.toList).length=(put x.size).length+x.size:=by rw [List.length_append,list_size]
  have hk2:=(pText_at b k 0 tx hk).2
  rw [hp] at hk2
  have ih:=oTs_put b tx T (k+((put x.size).length+x.size)) r hk2 (drop_more (x:=put x.size++x.data.toList) (by rw [h,List.append_assoc]) hl) (fun s q=>hi s (by simp [q]))
  rw [List.length_cons,oTs_next b tx T.length k hp,h1,if_pos rfl,ih,e1]
  simp only [List.length_append,list_size]
  rw [show k+((put x.size).length+x.size)+(oT T).length=k+((put x.size).length+(x.size+(oT T).length)) by omega]
theorem oKs_put (b:ByteArray) (p c:Int) (hc:c≤16777216) (hp:0≤p):∀(K:List Int) (k:Nat) (r:List UInt8),b.data.toList.drop k=oK K++r→(∀z ∈ K,p<z∧z<c)→oKs b p c K.length k 0=(K,k+(oK K).length,0)
 | [],k,r,_,_=>rfl
 | x :: K,k,r,h,hi=>by
  have e1:oK (x :: K)=put x.toNat++oK K:=rfl
  rw [e1,List.append_assoc] at h
  obtain ⟨h1,h2⟩:=hi x (by simp)
  have hu:=uint_put 16777216 h (by omega) (by omega)
  have hx:(x.toNat:Int)=x:=by omega
  rw [hx] at hu
  have ih:=oKs_put b p c hc hp K (k+(put x.toNat).length) r (drop_more h rfl) (fun z q=>hi z (by simp [q]))
  rw [List.length_cons,oKs_next b p c K.length k hu,decide_eq_false (by omega),if_neg (by decide),ih,e1,List.length_append,Nat.add_assoc]
theorem tyNo_zero {N:Nd} (ht:tyNo N=0):(oldSp N.kind).ok=true∧fitI (oldSp N.kind).ints N.ints=true∧fitT N.texts (oldSp N.kind).texts=true∧fitK N.kids.length (oldSp N.kind).least (oldSp N.kind).most=true:=by
 unfold tyNo at ht
 split at ht
 ·exact absurd ht (by decide)
 ·rename_i ho
  unfold chkN at ht
  split at ht
  ·exact absurd ht (by decide)
  ·split at ht
   ·exact absurd ht (by decide)
   ·split at ht
    ·exact absurd ht (by decide)
    ·rename_i a1 a2 a3
     exact ⟨by simpa using ho,by simpa using a1,by simpa using a2,by simpa using a3⟩
structure OkN (N:Nd) (p c tx:Int):Prop where
 ty:tyNo N=0
 fn:fine N.ints
 kids:∀z ∈ N.kids,p<z∧z<c
 few:N.kids.length≤16777216
 txt:∀s ∈ N.texts,s.size≤16777216∧(s.size:Int)≤tx
theorem oNd_put (b:ByteArray) (N:Nd) (p c tx edges:Int) (k:Nat) (r:List UInt8) (hk:k≤b.size) (h:b.data.toList.drop k=oB N++r) (hN:OkN N p c tx) (hp:0≤p) (hc:c≤16777216) (he:(N.kids.length:Int)≤edges):oNd b p c tx edges k 0=(N,k+(oB N).length,0):=by
 obtain ⟨h1,h2,h3,h4⟩:=tyNo_zero hN.ty
 have hkd:=oldSp_kind h1
 have e1:oB N=put N.kind.toNat++(rI N.ints++(oT N.texts++(put N.kids.length++oK N.kids))):=by
  unfold oB
  simp only [List.append_assoc]
 rw [e1] at h ⊢
 simp only [List.append_assoc] at h
 have u1:=uint_put 16777216 h (by omega) (by omega)
 have a1:=(pUint_at b k 0 16777216 hk).2
 rw [u1] at a1
 have hkn:(N.kind.toNat:Int)=N.kind:=by omega
 rw [hkn] at u1
 have d1:=drop_more h rfl
 unfold fitI at h2
 rw [Bool.and_eq_true,decide_eq_true_eq,List.all_eq_true] at h2
 have u2:=gIs_put b (oldSp N.kind).ints N.ints _ _ d1 h2.1 (fun i q=>h2.2 i (by simpa using q)) hN.fn
 have a2:=(gIs_at b (oldSp N.kind).ints _ 0 a1).2
 rw [u2] at a2
 have d2:=drop_more d1 rfl
 unfold fitT at h3
 rw [Bool.and_eq_true,decide_eq_true_eq,List.all_eq_true] at h3
 have u3:=oTs_put b tx N.texts _ _ a2 d2 (fun s q=>⟨h3.2 s q,hN.txt s q⟩)
 have d3:=drop_more d2 rfl
 have u4:=uint_put edges d3 hN.few he
 have d4:=drop_more d3 rfl
 have u5:=oKs_put b p c hc hp N.kids _ _ d4 hN.kids
 have ht:(oldSp N.kind).texts.toNat=N.texts.length:=by omega
 unfold fitK at h4
 rw [Bool.and_eq_true,Bool.or_eq_true,decide_eq_true_eq,decide_eq_true_eq,decide_eq_true_eq] at h4
 have u6:=oRest_eq (S:=oldSp N.kind) (edges:=edges) u2 (by rw [ht];exact u3) u4 (if_neg (by rw [decide_eq_false (by omega)];decide)) u5
 unfold oNd
 rw [u1]
 dsimp only
 rw [h1,if_pos rfl,u6]
 simp only [List.length_append,← Nat.add_assoc]
theorem oTs_bytes (b:ByteArray) (tx:Int):∀(n k:Nat) (e:Int) (T:List ByteArray) (k':Nat),k≤b.size→oTs b tx n k e=(T,k',0)→e=0∧T.length=n∧(∀s ∈ T,ok8 s=true∧s.size≤16777216∧(s.size:Int)≤max tx 0)∧b.data.toList.drop k=oT T++b.data.toList.drop k'
 | 0,k,e,T,k',_,h=>by
  simp only [oTs,Prod.mk.injEq] at h
  obtain ⟨rfl,rfl,rfl⟩:=h
  exact ⟨rfl,rfl,fun s q=>by simp at q,rfl⟩
 | n+1,k,e,T,k',hk,h=>by
  by_cases he:e=0
  ·subst he
   obtain ⟨x,k1,e1,hq⟩:∃x k1 e1,pText b k 0 tx=(x,k1,e1):=⟨_,_,_,rfl⟩
   have hk1:=(pText_at b k 0 tx hk).2
   rw [hq] at hk1
   rw [oTs_next b tx n k hq] at h
   obtain ⟨T',k2,e2,hr⟩:∃T' k2 e2,oTs b tx n k1 (if ok8 x=true then e1 else fl e1 11)=(T',k2,e2):=⟨_,_,_,rfl⟩
   rw [hr] at h
   simp only [Prod.mk.injEq] at h
   obtain ⟨rfl,rfl,rfl⟩:=h
   obtain ⟨h1,h2,h3,h4⟩:=oTs_bytes b tx n k1 _ T' k2 hk1 hr
   have hc:ok8 x=true:=by
    by_cases q:ok8 x=true
    ·exact q
    ·rw [if_neg q] at h1
     exact absurd h1 (fl_ne (by decide))
   rw [if_pos hc] at h1
   subst h1
   obtain ⟨_,g2,g3,g4⟩:=text_bytes hk hq
   refine ⟨rfl,by simp [h2],fun s hs=>?_,?_⟩
   ·simp only [List.mem_cons] at hs
    rcases hs with rfl|hs
    ·exact ⟨hc,g2,g3⟩
    ·exact h3 s hs
   ·rw [g4,h4]
    simp [oT]
  ·rw [oTs_stop b tx _ k he] at h
   simp only [Prod.mk.injEq] at h
   exact absurd h.2.2 he
theorem oKs_bytes (b:ByteArray) (p c:Int):∀(n k:Nat) (e:Int) (K:List Int) (k':Nat),oKs b p c n k e=(K,k',0)→e=0∧K.length=n∧(∀z ∈ K,p<z∧z<c)∧b.data.toList.drop k=oK K++b.data.toList.drop k'
 | 0,k,e,K,k',h=>by
  simp only [oKs,Prod.mk.injEq] at h
  obtain ⟨rfl,rfl,rfl⟩:=h
  exact ⟨rfl,rfl,fun i q=>by simp at q,rfl⟩
 | n+1,k,e,K,k',h=>by
  by_cases he:e=0
  ·subst he
   obtain ⟨x,k1,e1,hq⟩:∃x k1 e1,pUint b k 0 16777216=(x,k1,e1):=⟨_,_,_,rfl⟩
   rw [oKs_next b p c n k hq] at h
   obtain ⟨K',k2,e2,hr⟩:∃K' k2 e2,oKs b p c n k1 (if decide (x≤p∨c≤x)=true then fl e1 13 else e1)=(K',k2,e2):=⟨_,_,_,rfl⟩
   rw [hr] at h
   simp only [Prod.mk.injEq] at h
   obtain ⟨rfl,rfl,rfl⟩:=h
   obtain ⟨h1,h2,h3,h4⟩:=oKs_bytes b p c n k1 _ K' k2 hr
   have hc:¬(x≤p∨c≤x):=by
    intro q
    rw [if_pos (decide_eq_true q)] at h1
    exact absurd h1 (fl_ne (by decide))
   rw [decide_eq_false hc,if_neg (by decide)] at h1
   subst h1
   obtain ⟨_,m,rfl,g3,_,g4⟩:=uint_bytes hq
   refine ⟨rfl,by simp [h2],fun z hz=>?_,?_⟩
   ·simp only [List.mem_cons] at hz
    rcases hz with rfl|hz
    ·omega
    ·exact h3 z hz
   ·rw [g4,h4,show oK ((m:Int) :: K')=put m++oK K' from by simp [oK],List.append_assoc]
  ·rw [oKs_stop b p c _ k he] at h
   simp only [Prod.mk.injEq] at h
   exact absurd h.2.2 he
theorem oNd_at (b:ByteArray) (p c tx edges:Int) (k:Nat) (e:Int) (hk:k≤b.size):k≤(oNd b p c tx edges k e).2.1∧(oNd b p c tx edges k e).2.1≤b.size:=by
 have h1:=pUint_at b k e 16777216 hk
 unfold oNd oRest
 dsimp only
 generalize hS:oldSp (pUint b k e 16777216).1=S
 generalize (if S.ok=true then (pUint b k e 16777216).2.2 else fl (pUint b k e 16777216).2.2 9)=e1
 have h2:=gIs_at b S.ints (pUint b k e 16777216).2.1 e1 h1.2
 generalize gIs b S.ints (pUint b k e 16777216).2.1 e1=I at *
 have h3:=oTs_at b tx S.texts.toNat I.2.1 I.2.2 h2.2
 generalize oTs b tx S.texts.toNat I.2.1 I.2.2=T at *
 have h4:=pUint_at b T.2.1 T.2.2 edges h3.2
 generalize pUint b T.2.1 T.2.2 edges=m at *
 have h5:=oKs_at b p c m.1.toNat m.2.1 (if m.1<S.least∨0≤S.most∧S.most<m.1 then fl m.2.2 12 else m.2.2) h4.2
 exact ⟨by omega,h5.2⟩
theorem oNd_bytes {b:ByteArray} {N:Nd} {p c tx edges:Int} {k k':Nat} (hk:k≤b.size) (h:oNd b p c tx edges k 0=(N,k',0)):b.data.toList.drop k=oB N++b.data.toList.drop k'∧OkN N p c (max tx 0)∧(N.kids.length:Int)≤edges:=by
 obtain ⟨q,k1,e1,hq⟩:∃q k1 e1,pUint b k 0 16777216=(q,k1,e1):=⟨_,_,_,rfl⟩
 obtain ⟨A,k4,e4,hA⟩:∃A k4 e4,gIs b (oldSp q).ints k1 (if (oldSp q).ok=true then e1 else fl e1 9)=(A,k4,e4):=⟨_,_,_,rfl⟩
 obtain ⟨B,k5,e5,hB⟩:∃B k5 e5,oTs b tx (oldSp q).texts.toNat k4 e4=(B,k5,e5):=⟨_,_,_,rfl⟩
 obtain ⟨m,k6,e6,hM⟩:∃m k6 e6,pUint b k5 e5 edges=(m,k6,e6):=⟨_,_,_,rfl⟩
 obtain ⟨e7,h7⟩:∃e7,(if decide (m<(oldSp q).least∨(0≤(oldSp q).most∧(oldSp q).most<m))=true then fl e6 12 else e6)=e7:=⟨_,rfl⟩
 obtain ⟨K,k8,e8,hK⟩:∃K k8 e8,oKs b p c m.toNat k6 e7=(K,k8,e8):=⟨_,_,_,rfl⟩
 have hR:=oRest_eq hA hB hM h7 hK
 have hk1:=(pUint_at b k 0 16777216 hk).2
 rw [hq] at hk1
 have hk4:=(gIs_at b (oldSp q).ints k1 (if (oldSp q).ok=true then e1 else fl e1 9) hk1).2
 rw [hA] at hk4
 unfold oNd at h
 rw [hq] at h
 dsimp only at h
 rw [hR] at h
 dsimp only at h
 simp only [Prod.mk.injEq] at h
 obtain ⟨rfl,rfl,rfl⟩:=h
 obtain ⟨a1,a2,a3,a4⟩:=oKs_bytes b p c _ _ _ _ _ hK
 subst a1
 have hc:¬(m<(oldSp q).least∨(0≤(oldSp q).most∧(oldSp q).most<m)):=by
  intro c
  rw [if_pos (decide_eq_true c)] at h7
  exact absurd h7 (fl_ne (by decide))
 rw [decide_eq_false hc,if_neg (by decide)] at h7
 subst h7
 obtain ⟨b1,n,rfl,b3,b4,b5⟩:=uint_bytes hM
 subst b1
 obtain ⟨c1,c2,c3,c4⟩:=oTs_bytes b tx _ _ _ _ _ hk4 hB
 subst c1
 obtain ⟨d1,d2,d3,d4,d5⟩:=gIs_bytes b _ _ _ _ _ hA
 have ho:(oldSp q).ok=true:=by
  by_cases o:(oldSp q).ok=true
  ·exact o
  ·rw [if_neg o] at d1
   exact absurd d1 (fl_ne (by decide))
 rw [if_pos ho] at d1
 subst d1
 obtain ⟨_,u,rfl,g3,_,g4⟩:=uint_bytes hq
 have ht:=oldSp_small (u:Int)
 rw [Int.toNat_natCast] at a2
 refine ⟨?_,⟨?_,d3,a3,by show K.length≤_;omega,fun s hs=>(c3 s hs).2⟩,by show (K.length:Int)≤_;omega⟩
 ·show _=oB ⟨u,A,B,K⟩++_
  unfold oB
  dsimp only
  rw [g4,d5,c4,b5,a4,Int.toNat_natCast,a2]
  simp only [List.append_assoc]
 ·have f1:fitI (oldSp u).ints A=true:=fitI_yes _ _ d2 d4
  have f2:fitT B (oldSp u).texts=true:=by
   unfold fitT
   rw [Bool.and_eq_true,decide_eq_true_eq,List.all_eq_true]
   exact ⟨by omega,fun s hs=>(c3 s hs).1⟩
  have f3:fitK K.length (oldSp u).least (oldSp u).most=true:=by
   unfold fitK
   rw [Bool.and_eq_true,Bool.or_eq_true,decide_eq_true_eq,decide_eq_true_eq,decide_eq_true_eq]
   omega
  unfold tyNo chkN
  dsimp only
  rw [ho,f1,f2,f3]
  rfl
def eN (P:List Nd):Nat:=(P.map fun N=>N.kids.length).sum
theorem oNds_put (b:ByteArray) (c tx:Int) (hc:c≤16777216):∀(P:List Nd) (p ed:Int) (k:Nat) (r:List UInt8),k≤b.size→0≤p→b.data.toList.drop k=P.flatMap oB++r→(∀(i:Nat) (N:Nd),P[i]? = some N→OkN N (p+i) c tx)→(eN P:Int)≤ed→oNds b c tx P.length p ed k=(P,k+(P.flatMap oB).length,0)
 | [],p,ed,k,r,_,_,_,_,_=>rfl
 | N :: P,p,ed,k,r,hk,hp,h,hi,he=>by
  have e1:(N :: P).flatMap oB=oB N++P.flatMap oB:=by simp
  rw [e1,List.append_assoc] at h
  have hN:OkN N p c tx:=by have:=hi 0 N rfl;simpa using this
  have e2:(eN (N :: P):Int)=N.kids.length+(eN P:Int):=by simp [eN]
  have hp1:=oNd_put b N p c tx ed k _ hk h hN hp hc (by omega)
  have hk2:=(oNd_at b p c tx ed k 0 hk).2
  rw [hp1] at hk2
  have ih:=oNds_put b c tx hc P (p+1) (ed-N.kids.length) (k+(oB N).length) r hk2 (by omega) (drop_more h rfl) (fun i M hM=>by
   have:=hi (i+1) M (by simpa using hM)
   rwa [show p+((i+1:Nat):Int)=p+1+i by omega] at this) (by omega)
  rw [List.length_cons];unfold oNds
  rw [hp1]
  dsimp only
  rw [if_neg (by simp),ih,e1,List.length_append,Nat.add_assoc]
theorem oNds_bytes (b:ByteArray) (c tx:Int):∀(n:Nat) (p ed:Int) (k:Nat) (P:List Nd) (k':Nat),k≤b.size→0≤ed→oNds b c tx n p ed k=(P,k',0)→P.length=n∧b.data.toList.drop k=P.flatMap oB++b.data.toList.drop k'∧(∀(i:Nat) (N:Nd),P[i]? = some N→OkN N (p+i) c (max tx 0))∧(eN P:Int)≤ed∧k'≤b.size
 | 0,p,ed,k,P,k',hk,hed,h=>by
  simp only [oNds,Prod.mk.injEq] at h
  obtain ⟨rfl,rfl,_⟩:=h
  exact ⟨rfl,rfl,fun i N q=>by simp at q,by simpa [eN] using hed,hk⟩
 | n+1,p,ed,k,P,k',hk,hed,h=>by
  obtain ⟨N,k1,e1,hq⟩:∃N k1 e1,oNd b p c tx ed k 0=(N,k1,e1):=⟨_,_,_,rfl⟩
  have hk1:=(oNd_at b p c tx ed k 0 hk).2
  unfold oNds at h
  rw [hq] at h hk1
  dsimp only at h hk1
  split at h
  ·rename_i q
   simp only [Prod.mk.injEq] at h
   exact absurd h.2.2 q
  ·rename_i q
   have q0:e1=0:=by omega
   subst q0
   obtain ⟨h1,h2,h3⟩:=oNd_bytes hk hq
   obtain ⟨P',k2,e2,hr⟩:∃P' k2 e2,oNds b c tx n (p+1) (ed-N.kids.length) k1=(P',k2,e2):=⟨_,_,_,rfl⟩
   rw [hr] at h
   simp only [Prod.mk.injEq] at h
   obtain ⟨rfl,rfl,rfl⟩:=h
   obtain ⟨i1,i2,i3,i4,i5⟩:=oNds_bytes b c tx n (p+1) (ed-N.kids.length) k1 P' k2 hk1 (by omega) hr
   refine ⟨by simp [i1],by rw [h1,i2];simp,fun i M hM=>?_,?_,i5⟩
   ·cases i with
    | zero=>
     simp only [List.getElem?_cons_zero,Option.some.injEq] at hM
     subst hM
     simpa using h2
    | succ i=>
     have:=i3 i M (by simpa using hM)
     rwa [show p+1+(i:Int)=p+((i+1:Nat):Int) by omega] at this
   ·have e2:(eN (N :: P'):Int)=N.kids.length+(eN P':Int):=by simp [eN]
    omega
structure OkP (P:List Nd) (n ed tx:Int):Prop where
 nod:∀(i:Nat) (N:Nd),P[i]? = some N→OkN N i P.length tx
 ne:P≠[]
 few:P.length≤16777216
 n:(P.length:Int)≤n
 e:(eN P:Int)≤ed
theorem oPay_put {b:ByteArray} {P:List Nd} {n ed tx:Int} (hb:b.data.toList=oR P) (h:OkP P n ed tx):oPay b n ed tx=(P,0):=by
 have h0:b.data.toList.drop 0=put P.length++(P.flatMap oB++[]):=by rw [List.drop_zero,hb,List.append_nil];rfl
 have u1:=uint_put n h0 h.few h.n
 have a1:=(pUint_at b 0 0 n (Nat.zero_le _)).2
 rw [u1] at a1
 have d1:=drop_more h0 rfl
 have u2:=oNds_put b P.length tx (by have:=h.few;omega) P 0 ed _ [] a1 (by omega) d1 (fun i N hN=>by have:=h.nod i N hN;rwa [Int.zero_add]) h.e
 have hl:b.size=(put P.length).length+(P.flatMap oB).length:=by rw [← list_size,hb];unfold oR;rw [List.length_append]
 have hp:P.length≠0:=fun q=>h.ne (List.eq_nil_of_length_eq_zero q)
 unfold oPay
 rw [u1]
 dsimp only
 rw [if_neg (by simp),if_neg (by omega),Int.toNat_natCast,u2]
 dsimp only
 rw [if_neg (by simp),if_neg (by omega)]
theorem oPay_bytes {b:ByteArray} {P:List Nd} {n ed tx:Int} (hed:0≤ed) (h:oPay b n ed tx=(P,0)):b.data.toList=oR P∧OkP P n ed (max tx 0):=by
 obtain ⟨q,k1,e1,hq⟩:∃q k1 e1,pUint b 0 0 n=(q,k1,e1):=⟨_,_,_,rfl⟩
 have hk1:=(pUint_at b 0 0 n (Nat.zero_le _)).2
 unfold oPay at h
 rw [hq] at h hk1
 dsimp only at h hk1
 split at h
 ·rename_i q1
  simp only [Prod.mk.injEq] at h
  exact absurd h.2 q1
 ·rename_i q1
  have q0:e1=0:=by omega
  subst q0
  split at h
  ·simp only [Prod.mk.injEq] at h
   exact absurd h.2 (by decide)
  ·rename_i q2
   obtain ⟨N,k2,e2,hr⟩:∃N k2 e2,oNds b q tx q.toNat 0 ed k1=(N,k2,e2):=⟨_,_,_,rfl⟩
   rw [hr] at h
   dsimp only at h
   split at h
   ·rename_i q3
    simp only [Prod.mk.injEq] at h
    exact absurd h.2 q3
   ·rename_i q3
    have q30:e2=0:=by omega
    subst q30
    split at h
    ·simp only [Prod.mk.injEq] at h
     exact absurd h.2 (by decide)
    ·rename_i q4
     simp only [Prod.mk.injEq,and_true] at h
     subst h
     obtain ⟨_,m,rfl,g2,g3,g4⟩:=uint_bytes hq
     rw [Int.toNat_natCast] at hr
     obtain ⟨i1,i2,i3,i4,i5⟩:=oNds_bytes b m tx m 0 ed k1 N k2 hk1 hed hr
     have hk2:b.data.toList.drop k2=[]:=by rw [List.drop_eq_nil_of_le];rw [list_size];omega
     refine ⟨?_,fun i M hM=>by have:=i3 i M hM;rwa [Int.zero_add,← i1] at this,fun q=>q2 (by rw [← i1,q];rfl),by omega,by omega,i4⟩
     rw [hk2,List.append_nil] at i2
     rw [List.drop_zero] at g4
     rw [g4,i2,← i1]
     rfl
end Go.Proofs.YtgoffkfpdigeeaaGreatDoor
namespace Go.Proofs.YtgoffkfpdigeeaaGreatDoor
open Go.RowKit Go.Maps Go.WideMaps Go.Sort
theorem Tryz.infoD9:(Tryz.prog.info? 51).map (fun i=>(i.zero,i.size,i.bytes))=some (some (.agg #[.int .i64 0,.slice none 0 0,.slice none 0 0,.slice none 0 0]),4,80):=by kernel_rfl
def OwnNx (w:World) (B:Nat) (y:Nx):Prop:=OwnNd w B y.nd (.slice y.a1 y.nd.ints.length y.c1) (.slice y.a2 y.nd.texts.length y.c2) (.slice y.a3 y.nd.kids.length y.c3)
def Alien (w:World) (S:Nat→Prop):Prop:=∀b,S b→b<w.heap.size→∃cs T fr,w.heap[b]? = some (.cells cs T fr)∧T≠2∧T≠9∧T≠3
theorem OwnNx.fr {w w':World} {B:Nat} {y:Nx} {S:Nat→Prop} (h:OwnNx w B y) (k:Fr S w w') (hS:Alien w S):OwnNx w' B y:=by
 have key:∀{e n v xs},w.ownsRow B e 1 v n xs→(e=2∨e=9∨e=3)→w'.ownsRow B e 1 v n xs:=fun {e n v xs} ho he=>own_fr ho k (fun r hr hs=>by
  obtain ⟨cs,T,fr,h1,h2,h3,h4⟩:=hS r hs (ho.lt r hr).2
  rcases ho.2 with ⟨q,_⟩|⟨g,cap,cur,q,_,h5,_⟩
  ·rw [q] at hr;cases hr
  ·rw [q] at hr
   simp only [Value.ownBlock,Option.some.injEq] at hr
   subst hr
   rw [h1] at h5
   cases h5
   rcases he with rfl|rfl|rfl
   ·exact h2 rfl
   ·exact h3 rfl
   ·exact h4 rfl)
 exact ⟨key h.i (.inl rfl),key h.t (.inr (.inl rfl)),key h.k (.inr (.inr rfl))⟩
theorem OwnNx.mono {w:World} {B C:Nat} {y:Nx} (h:OwnNx w B y) (hc:C≤B):OwnNx w C y:=OwnNd.mono h hc
theorem OwnNx.ndAt {w:World} {B:Nat} {y:Nx} (h:OwnNx w B y):NdAt w y.nd y.a1 y.a2 y.a3:=OwnNd.ndAt h
theorem LsAt.of_own4' {w:World} {B:Nat} {a:Option Addr} {e:TypeId} {n cap:Nat} {cs:List Value} (h:w.ownsRow B e 4 (.slice a n cap) n cs):LsAt w a cs:=by
 have hl:=h.1
 rcases h.2 with ⟨h1,h2⟩|⟨g,cap',cur,h1,_,h3,_⟩
 ·subst h2
  have:cs=[]:=List.length_eq_zero_iff.1 (by simpa using hl)
  subst this
  exact LsAt.nil _ _
 ·simp only [Value.slice.injEq] at h1
  obtain ⟨rfl,-,rfl⟩:=h1
  refine ⟨g,0,fun _=>rfl,fun i hi=>⟨(Array.getElem?_eq_some_iff.1 h3).1,?_⟩⟩
  rw [Nat.zero_add]
  exact World.ownsRow.cellAt h i (by omega)
theorem own_shape4 {w:World} {B:Nat} {e:TypeId} {n:Nat} {v:Value} {xs:List Value} (h:w.ownsRow B e 4 v n xs):∃a cap,v=.slice a n cap:=by
 rcases h.2 with ⟨rfl,h2⟩|⟨g,cap,cur,rfl,_⟩
 ·exact ⟨none,0,by rw [h2]⟩
 ·exact ⟨_,_,rfl⟩
structure Mkg (w:World) (B go:Nat) (r:Int) (v:Value) (Y:List Nx):Prop where
 sc:AtN 24 w go #[v,.int .i64 r]
 row:w.ownsRow B 51 4 v Y.length (nxV Y)
 each:∀j,j<Y.length→OwnNx w B (Y.getD j noNx)
def MkS (go:Nat) (v:Value) (b:Nat):Prop:=v.ownBlock=some b∨b=go
theorem Mkg.alien {w:World} {B go:Nat} {r:Int} {v:Value} {Y:List Nx} (h:Mkg w B go r v Y):Alien w (MkS go v):=by
 rintro b (hb|rfl) hlt
 ·rcases h.row.2 with ⟨q,_⟩|⟨g,cap,cur,q,_,h5,_⟩
  ·rw [q] at hb;cases hb
  ·rw [q] at hb
   simp only [Value.ownBlock,Option.some.injEq] at hb
   subst hb
   exact ⟨_,_,_,h5,by decide,by decide,by decide⟩
 ·exact ⟨_,_,_,h.sc,by decide,by decide,by decide⟩
theorem Mkg.ne {w:World} {B go:Nat} {r:Int} {v:Value} {Y:List Nx} (h:Mkg w B go r v Y):v.ownBlock≠some go:=fun q=>own_ne_at h.row h.sc (by decide) go q rfl
theorem Mkg.below {w w':World} {B go:Nat} {r:Int} {v:Value} {Y:List Nx} (h:Mkg w B go r v Y) (hb:Below w.heap.size w w'):Mkg w' B go r v Y:=
 ⟨AtN.belowAll h.sc hb,own_below h.row hb (Nat.le_refl _),fun j hj=>(h.each j hj).fr (Fr.of_below (S:=fun _=>False) hb) (fun _ q=>q.elim)⟩
theorem Mkg.next {w0 W:World} {B go:Nat} {r:Int} {v v':Value} {Y:List Nx} {y:Nx} (h:Mkg w0 B go r v Y) (hf:Fr (MkS go v) w0 W) (h1:AtN 24 W go #[v',.int .i64 r]) (h2:W.ownsRow B 51 4 v' (Y.length+1) (nxV Y++nxC y)) (h3:OwnNx W B y):Mkg W B go r v' (Y++[y]):=by
 refine ⟨h1,by rw [nxV_snoc,List.length_append];exact h2,fun j hj=>?_⟩
 by_cases hlt:j<Y.length
 ·rw [show (Y++[y]).getD j noNx=Y.getD j noNx by rw [List.getD_eq_getElem?_getD,List.getElem?_append_left hlt,← List.getD_eq_getElem?_getD]]
  exact (h.each j hlt).fr hf h.alien
 ·obtain rfl:j=Y.length:=by simp at hj;omega
  rw [show (Y++[y]).getD Y.length noNx=y by simp]
  exact h3
theorem OwnNx.kept {w w':World} {B:Nat} {y:Nx} {row:Option Nat} (h:OwnNx w B y) (hg:w.grownBy w' row) (hr:∀k,row=some k→k<B):OwnNx w' B y:=OwnNd.kept h hg hr
end Go.Proofs.YtgoffkfpdigeeaaGreatDoor
namespace Go.Proofs.YtgoffkfpdigeeaaGreatDoor
open Go.RowKit Go.Maps Go.WideMaps Go.Sort
theorem own_set' {w:World} {B g n:Nat} {e:TypeId} {v:Value} {xs:List Value} (h:w.ownsRow B e 4 v n xs) (hv:v.ownBlock≠some g) (x:Value):(w.setCell ⟨g,0,none⟩ x).ownsRow B e 4 v n xs:=own_set h ⟨g,0,none⟩ (fun r hr e=>hv (by rw [hr];exact congrArg some e)) x
end Go.Proofs.YtgoffkfpdigeeaaGreatDoor
