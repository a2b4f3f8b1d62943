import Derived.Test.YtgoffkfpdigeeaaGreatDoorA10
import Derived.Test.YtgoffkfpdigeeaaGreatDoorA08
import Derived.Test.YtgoffkfpdigeeaaGreatDoorA07
namespace Go.Proofs.YtgoffkfpdigeeaaGreatDoor
open Go.RowKit
theorem drop_more {b:ByteArray} {k n:Nat} {x r:List UInt8} (h:b.data.toList.drop k=x++r) (hn:x.length=n):b.data.toList.drop (k+n)=r:=by
 rw [← List.drop_drop,h,← hn,List.drop_left]
theorem num_put {b:ByteArray} {k n:Nat} {r:List UInt8} (h:b.data.toList.drop k=put n++r) (hn:n<18446744073709551616):num b k=(n,(put n).length,0):=by
 unfold num
 rw [h]
 exact dec_put n hn r
theorem uint_put {b:ByteArray} {k n:Nat} {r:List UInt8} (m:Int) (h:b.data.toList.drop k=put n++r) (hn:n≤16777216) (hm:(n:Int)≤m):pUint b k 0 m=((n:Int),k+(put n).length,0):=by
 unfold pUint
 rw [if_neg (by simp),num_put h (by omega)]
 dsimp only
 rw [if_neg (by simp),if_neg (by omega)]
theorem int_put {b:ByteArray} {k:Nat} {z:Int} {r:List UInt8} (h:b.data.toList.drop k=put (zig z).toNat++r) (h0 : -9223372036854775808≤z) (h1:z≤9223372036854775807):pInt b k 0=(z,k+(put (zig z).toNat).length,0):=by
 have hz:=zig_range z h0 h1
 unfold pInt
 rw [if_neg (by simp),num_put h (by omega)]
 dsimp only
 rw [if_neg (by simp),Int.toNat_of_nonneg hz.1,zag_zig]
theorem gIs_put (b:ByteArray):∀(C I:List Int) (k:Nat) (r:List UInt8),b.data.toList.drop k=rI I++r→I.length=C.length→(∀i,i<I.length→in7 (C.getD i 0) (I.getD i 0)=true)→fine I→gIs b C k 0=(I,k+(rI I).length,0)
 | [],[],k,r,_,_,_,_=>rfl
 | [],x :: I,_,_,_,hl,_,_=>by simp at hl
 | c :: C,[],_,_,_,hl,_,_=>by simp at hl
 | c :: C,x :: I,k,r,h,hl,hi,hf=>by
  have e1:rI (x :: I)=put (zig x).toNat++rI I:=rfl
  rw [e1,List.append_assoc] at h
  have hx : -9223372036854775808≤x∧x≤9223372036854775807:=hf 0 (by simp)
  have hc:in7 c x=true:=hi 0 (by simp)
  have hp:=int_put h hx.1 hx.2
  have ih:=gIs_put b C I (k+(put (zig x).toNat).length) r (drop_more h rfl) (by simpa using hl) (fun i q=>by have:=hi (i+1) (by simpa using q);simpa using this) (fun i q=>by have:=hf (i+1) (by simpa using q);simpa using this)
  unfold gIs
  rw [if_neg (by decide),hp]
  dsimp only
  rw [hc,if_pos rfl,ih,e1,List.length_append,Nat.add_assoc]
theorem gTs_put (b:ByteArray) (M:List ByteArray) (hM:M.length≤16777216):∀(T:List ByteArray) (k:Nat) (r:List UInt8),b.data.toList.drop k=rT M T++r→(∀s ∈ T,idx6 s M<M.length)→gTs b M T.length k 0=(T,k+(rT M T).length,0)
 | [],k,r,_,_=>rfl
 | x :: T,k,r,h,hi=>by
  have e1:rT M (x :: T)=put (idx6 x M)++rT M T:=rfl
  rw [e1,List.append_assoc] at h
  have hx:=hi x (by simp)
  have hp:=uint_put 16777216 h (by omega) (by omega)
  have ih:=gTs_put b M hM T (k+(put (idx6 x M)).length) r (drop_more h rfl) (fun s q=>hi s (by simp [q]))
  rw [List.length_cons,gTs_next b M T.length k hp,if_neg (by simp),if_neg (by omega),Int.toNat_natCast,ih,e1,List.length_append,Nat.add_assoc]
  rw [show M.getD (idx6 x M) noT=x by rw [List.getD_eq_getElem?_getD,List.getElem?_eq_getElem hx];exact idx6_get x M hx]
theorem gKs_put (b:ByteArray) (p:Int) (hp:p≤16777216):∀(K:List Int) (k:Nat) (r:List UInt8),b.data.toList.drop k=rK p K++r→(∀i,i<K.length→0≤K.getD i 0∧K.getD i 0<p)→gKs b p K.length k 0=(K,k+(rK p K).length,0)
 | [],k,r,_,_=>rfl
 | x :: K,k,r,h,hi=>by
  have e1:rK p (x :: K)=put (p-x).toNat++rK p K:=rfl
  rw [e1,List.append_assoc] at h
  have hx:0≤x∧x<p:=hi 0 (by simp)
  have hu:=uint_put 16777216 h (by omega) (by omega)
  have ih:=gKs_put b p hp K (k+(put (p-x).toNat).length) r (drop_more h rfl) (fun i q=>by have:=hi (i+1) (by simpa using q);simpa using this)
  have hn:((p-x).toNat:Int)=p-x:=by omega
  rw [List.length_cons,gKs_next b p K.length k hu,hn,decide_eq_false (by omega),if_neg (by decide),ih,e1,List.length_append,Nat.add_assoc]
  rw [show wrap64 (p-(p-x))=x by unfold wrap64;omega]
theorem rE_zero {N:Nd} {p:Int} (h:rE N p=0):(newSp N.kind).ok=true∧fitI (newSp N.kind).ints N.ints=true∧fitT N.texts (newSp N.kind).texts=true∧fitK N.kids.length (newSp N.kind).least (newSp N.kind).most=true∧rOk N p=true:=by
 unfold rE at h
 split at h
 ·rename_i ht
  split at h
  ·rename_i hk
   unfold tyN at ht
   split at ht
   ·exact absurd ht (by decide)
   ·rename_i ho
    unfold chkN at ht
    split at ht
    ·exact absurd ht (by decide)
    ·split at ht
     ·exact absurd ht (by decide)
     ·split at ht
      ·exact absurd ht (by decide)
      ·rename_i a1 a2 a3
       exact ⟨by simpa using ho,by simpa using a1,by simpa using a2,by simpa using a3,hk⟩
  ·exact absurd h (by decide)
 ·rename_i hn
  exact absurd h hn
theorem newSp_kind {k:Int} (h:(newSp k).ok=true):1≤k∧k≤8:=by
 by_cases q:k<1∨9≤k
 ·rw [newSp_no k q] at h
  exact absurd h (by decide)
 ·omega
theorem gNd_put (b:ByteArray) (N:Nd) (p edges:Int) (L M:List ByteArray) (k:Nat) (r:List UInt8) (h:b.data.toList.drop k=rB N p L++r) (hE:rE N p=0) (hf:fine N.ints) (hp:p≤16777216) (hM:M.length≤16777216)
  (hx:∀s ∈ N.texts,idx6 s M=idx6 s (itF L N.texts)∧idx6 s M<M.length) (hk:N.kids.length≤16777216) (he:(N.kids.length:Int)≤edges):gNd b p M edges k 0=(N,k+(rB N p L).length,0):=by
 obtain ⟨h1,h2,h3,h4,h5⟩:=rE_zero hE
 have hkd:=newSp_kind h1
 have hT:rT (itF L N.texts) N.texts=rT M N.texts:=by
  unfold rT
  rw [List.flatMap_def,List.flatMap_def]
  exact congrArg List.flatten (List.map_congr_left fun s hs=>by rw [(hx s hs).1])
 have e1:rB N p L=put N.kind.toNat++(rI N.ints++(rT M N.texts++(put N.kids.length++rK p N.kids))):=by
  unfold rB
  rw [hT]
  simp only [List.append_assoc]
 rw [e1] at h ⊢
 simp only [List.append_assoc] at h
 have u1:=uint_put 16777216 h (by omega) (by omega)
 have hkn:(N.kind.toNat:Int)=N.kind:=by omega
 rw [hkn] at u1
 have d1:=drop_more h rfl
 unfold fitI at h2
 rw [Bool.and_eq_true,decide_eq_true_eq,List.all_eq_true] at h2
 have u2:=gIs_put b (newSp N.kind).ints N.ints _ _ d1 h2.1 (fun i q=>h2.2 i (by simpa using q)) hf
 have d2:=drop_more d1 rfl
 have u3:=gTs_put b M hM N.texts _ _ d2 (fun s q=>(hx s q).2)
 have d3:=drop_more d2 rfl
 have u4:=uint_put (max edges 0) d3 hk (by omega)
 have d4:=drop_more d3 rfl
 unfold rOk at h5
 rw [List.all_eq_true] at h5
 have u5:=gKs_put b p hp N.kids _ _ d4 (fun i q=>of_decide_eq_true (h5 i (by simpa using q)))
 unfold fitT at h3
 rw [Bool.and_eq_true,decide_eq_true_eq] at h3
 have ht:(newSp N.kind).texts.toNat=N.texts.length:=by omega
 unfold fitK at h4
 rw [Bool.and_eq_true,Bool.or_eq_true,decide_eq_true_eq,decide_eq_true_eq,decide_eq_true_eq] at h4
 have u6:=gRest_eq (S:=newSp N.kind) (edges:=edges) u2 (by rw [ht];exact u3) u4 (if_neg (by rw [decide_eq_false (by omega)];decide)) u5
 unfold gNd
 rw [u1]
 dsimp only
 rw [h1,if_pos rfl,u6]
 simp only [List.length_append,if_true,← Nat.add_assoc]
end Go.Proofs.YtgoffkfpdigeeaaGreatDoor
namespace Go.Proofs.YtgoffkfpdigeeaaGreatDoor
open Go.RowKit
theorem fl_ne {e d:Int} (hd:d≠0):fl e d≠0:=by
 unfold fl
 split
 ·exact hd
 ·assumption
theorem num_bytes {b:ByteArray} {k:Nat} (h:(num b k).2.2=0):(num b k).1<18446744073709551616∧b.data.toList.drop k=put (num b k).1++b.data.toList.drop (k+(num b k).2.1):=by
 obtain ⟨n,m,e,hnum⟩:∃n m e,num b k=(n,m,e):=⟨_,_,_,rfl⟩
 rw [hnum] at h ⊢
 dsimp only at h ⊢
 subst h
 unfold num at hnum
 obtain ⟨h1,_,_,h4,h5⟩:=put_dec _ n m hnum
 refine ⟨h1,?_⟩
 rw [h5,← List.drop_drop,List.take_append_drop]
theorem uint_bytes {b:ByteArray} {k:Nat} {e m x:Int} {k':Nat} (h:pUint b k e m=(x,k',0)):e=0∧∃n:Nat,x=n∧n≤16777216∧(n:Int)≤m∧b.data.toList.drop k=put n++b.data.toList.drop k':=by
 unfold pUint at h
 split at h
 ·rename_i q
  simp only [Prod.mk.injEq] at h
  exact absurd h.2.2 q
 ·rename_i q
  split at h
  ·rename_i q2
   simp only [Prod.mk.injEq] at h
   have:=h.2.2
   omega
  ·rename_i q2
   split at h
   ·simp only [Prod.mk.injEq] at h
    exact absurd h.2.2 (by decide)
   ·rename_i q3
    simp only [Prod.mk.injEq] at h
    obtain ⟨rfl,rfl,_⟩:=h
    have:=num_bytes (b:=b) (k:=k) (by omega)
    exact ⟨by omega,(num b k).1,rfl,by omega,by omega,this.2⟩
theorem int_bytes {b:ByteArray} {k:Nat} {e x:Int} {k':Nat} (h:pInt b k e=(x,k',0)):e=0∧-9223372036854775808≤x∧x≤9223372036854775807∧b.data.toList.drop k=put (zig x).toNat++b.data.toList.drop k':=by
 unfold pInt at h
 split at h
 ·rename_i q
  simp only [Prod.mk.injEq] at h
  exact absurd h.2.2 q
 ·rename_i q
  split at h
  ·rename_i q2
   simp only [Prod.mk.injEq] at h
   have:=h.2.2
   omega
  ·rename_i q2
   simp only [Prod.mk.injEq] at h
   obtain ⟨rfl,rfl,_⟩:=h
   have h1:=num_bytes (b:=b) (k:=k) (by omega)
   have h2:=zag_range ((num b k).1:Int) (by omega) (by omega)
   refine ⟨by omega,h2.1,h2.2,?_⟩
   rw [zig_zag _ (by omega),Int.toNat_natCast]
   exact h1.2
theorem gIs_bytes (b:ByteArray):∀(C:List Int) (k:Nat) (e:Int) (I:List Int) (k':Nat),gIs b C k e=(I,k',0)→e=0∧I.length=C.length∧fine I∧(∀i,i<I.length→in7 (C.getD i 0) (I.getD i 0)=true)∧b.data.toList.drop k=rI I++b.data.toList.drop k'
 | [],k,e,I,k',h=>by
  simp only [gIs,Prod.mk.injEq] at h
  obtain ⟨rfl,rfl,rfl⟩:=h
  exact ⟨rfl,rfl,fun i q=>by simp at q,fun i q=>by simp at q,rfl⟩
 | c :: C,k,e,I,k',h=>by
  unfold gIs at h
  split at h
  ·rename_i q
   simp only [Prod.mk.injEq] at h
   exact absurd h.2.2 q
  ·obtain ⟨x,k1,e1,hq⟩:∃x k1 e1,pInt b k e=(x,k1,e1):=⟨_,_,_,rfl⟩
   rw [hq] at h
   dsimp only at h
   obtain ⟨I',k2,e2,hr⟩:∃I' k2 e2,gIs b C k1 (if in7 c x=true then e1 else fl e1 10)=(I',k2,e2):=⟨_,_,_,rfl⟩
   rw [hr] at h
   simp only [Prod.mk.injEq] at h
   obtain ⟨rfl,rfl,rfl⟩:=h
   obtain ⟨h1,h2,h3,h4,h5⟩:=gIs_bytes b C k1 _ I' k2 hr
   have hc:in7 c x=true:=by
    by_cases q:in7 c x=true
    ·exact q
    ·rw [if_neg q] at h1
     exact absurd h1 (fl_ne (by decide))
   rw [if_pos hc] at h1
   subst h1
   obtain ⟨g1,g2,g3,g4⟩:=int_bytes hq
   refine ⟨g1,by simp [h2],fun i q=>?_,fun i q=>?_,?_⟩
   ·cases i with
    | zero=>exact ⟨g2,g3⟩
    | succ i=>have:=h3 i (by simpa using q);simpa using this
   ·cases i with
    | zero=>exact hc
    | succ i=>have:=h4 i (by simpa using q);simpa using this
   ·rw [g4,h5,show rI (x :: I')=put (zig x).toNat++rI I' from rfl,List.append_assoc]
theorem gTs_bytes (b:ByteArray) (L:List ByteArray) (hn:L.Nodup):∀(n k:Nat) (e:Int) (T:List ByteArray) (k':Nat),gTs b L n k e=(T,k',0)→e=0∧T.length=n∧(∀s ∈ T,s ∈ L)∧b.data.toList.drop k=rT L T++b.data.toList.drop k'
 | 0,k,e,T,k',h=>by
  simp only [gTs,Prod.mk.injEq] at h
  obtain ⟨rfl,rfl,rfl⟩:=h
  exact ⟨rfl,rfl,fun i q=>by simp at q,rfl⟩
 | n+1,k,e,T,k',h=>by
  by_cases he:e=0
  ·subst he
   obtain ⟨x,k1,e1,hq⟩:∃x k1 e1,pUint b k 0 16777216=(x,k1,e1):=⟨_,_,_,rfl⟩
   rw [gTs_next b L n k hq] at h
   split at h
   ·rename_i q
    simp only [Prod.mk.injEq] at h
    exact absurd h.2.2 q
   ·rename_i q
    have q0:e1=0:=by omega
    subst q0
    split at h
    ·simp only [Prod.mk.injEq] at h
     exact absurd h.2.2 (by decide)
    ·rename_i q2
     obtain ⟨T',k2,e2,hr⟩:∃T' k2 e2,gTs b L n k1 0=(T',k2,e2):=⟨_,_,_,rfl⟩
     rw [hr] at h
     simp only [Prod.mk.injEq] at h
     obtain ⟨rfl,rfl,rfl⟩:=h
     obtain ⟨_,h2,h3,h4⟩:=gTs_bytes b L hn n k1 0 T' k2 hr
     obtain ⟨_,m,rfl,g3,_,g4⟩:=uint_bytes hq
     have hm:m<L.length:=by omega
     rw [Int.toNat_natCast,List.getD_eq_getElem?_getD,List.getElem?_eq_getElem hm]
     refine ⟨rfl,by simp [h2],fun s hs=>?_,?_⟩
     ·simp only [Option.getD_some,List.mem_cons] at hs
      rcases hs with rfl|hs
      ·exact List.getElem_mem hm
      ·exact h3 s hs
     ·show _=rT L (L[m] :: T')++_
      rw [g4,h4,show rT L (L[m] :: T')=put (idx6 L[m] L)++rT L T' from rfl,idx6_at L[m] L m hm rfl (fun j hj hjm q=>(List.pairwise_iff_getElem.1 hn) j m hj hm hjm q),List.append_assoc]
  ·rw [gTs_stop b L _ k he] at h
   simp only [Prod.mk.injEq] at h
   exact absurd h.2.2 he
theorem gKs_bytes (b:ByteArray) (p:Int) (hp:p≤9223372036854775807):∀(n k:Nat) (e:Int) (K:List Int) (k':Nat),gKs b p n k e=(K,k',0)→e=0∧K.length=n∧(∀i,i<K.length→0≤K.getD i 0∧K.getD i 0<p)∧b.data.toList.drop k=rK p K++b.data.toList.drop k'
 | 0,k,e,K,k',h=>by
  simp only [gKs,Prod.mk.injEq] at h
  obtain ⟨rfl,rfl,rfl⟩:=h
  exact ⟨rfl,rfl,fun i q=>by simp at q,rfl⟩
 | n+1,k,e,K,k',h=>by
  by_cases he:e=0
  ·subst he
   obtain ⟨x,k1,e1,hq⟩:∃x k1 e1,pUint b k 0 16777216=(x,k1,e1):=⟨_,_,_,rfl⟩
   rw [gKs_next b p n k hq] at h
   obtain ⟨K',k2,e2,hr⟩:∃K' k2 e2,gKs b p n k1 (if decide (x<1∨p<x)=true then fl e1 13 else e1)=(K',k2,e2):=⟨_,_,_,rfl⟩
   rw [hr] at h
   simp only [Prod.mk.injEq] at h
   obtain ⟨rfl,rfl,rfl⟩:=h
   obtain ⟨h1,h2,h3,h4⟩:=gKs_bytes b p hp n k1 _ K' k2 hr
   have hc:¬(x<1∨p<x):=by
    intro q
    rw [if_pos (decide_eq_true q)] at h1
    exact absurd h1 (fl_ne (by decide))
   rw [decide_eq_false hc,if_neg (by decide)] at h1
   subst h1
   obtain ⟨_,m,rfl,g3,_,g4⟩:=uint_bytes hq
   have hw:wrap64 (p-m)=p-m:=by unfold wrap64;omega
   rw [hw]
   refine ⟨rfl,by simp [h2],fun i q=>?_,?_⟩
   ·cases i with
    | zero=>exact ⟨by show 0≤p-(m:Int);omega,by show p-(m:Int)<p;omega⟩
    | succ i=>have:=h3 i (by simpa using q);simpa using this
   ·rw [g4,h4,show rK p ((p-m) :: K')=put (p-(p-m)).toNat++rK p K' from rfl,show (p-(p-(m:Int))).toNat=m by omega,List.append_assoc]
  ·rw [gKs_stop b p _ k he] at h
   simp only [Prod.mk.injEq] at h
   exact absurd h.2.2 he
theorem itF_same (L:List ByteArray):∀T:List ByteArray,(∀s ∈ T,s ∈ L)→itF L T=L
 | [],_=>rfl
 | x :: T,h=>by
  have h1:pIntern L x=L:=by
   unfold pIntern
   rw [if_pos ((idx6_mem x L).2 (h x (by simp)))]
  rw [show itF L (x :: T)=itF (pIntern L x) T from rfl,h1]
  exact itF_same L T fun s q=>h s (by simp [q])
theorem gNd_bytes {b:ByteArray} {N:Nd} {p edges:Int} {L:List ByteArray} {k k':Nat} (h:gNd b p L edges k 0=(N,k',0)) (hp:p≤9223372036854775807) (hn:L.Nodup) (hr:∀s ∈ L,ok8 s=true) :
  b.data.toList.drop k=rB N p L++b.data.toList.drop k'∧rE N p=0∧itF L N.texts=L∧fine N.ints∧(∀s ∈ N.texts,s ∈ L)∧(N.kids.length:Int)≤max edges 0:=by
 obtain ⟨q,k1,e1,hq⟩:∃q k1 e1,pUint b k 0 16777216=(q,k1,e1):=⟨_,_,_,rfl⟩
 obtain ⟨A,k4,e4,hA⟩:∃A k4 e4,gIs b (newSp q).ints k1 (if (newSp q).ok=true then e1 else fl e1 9)=(A,k4,e4):=⟨_,_,_,rfl⟩
 obtain ⟨B,k5,e5,hB⟩:∃B k5 e5,gTs b L (newSp q).texts.toNat k4 e4=(B,k5,e5):=⟨_,_,_,rfl⟩
 obtain ⟨m,k6,e6,hM⟩:∃m k6 e6,pUint b k5 e5 (max edges 0)=(m,k6,e6):=⟨_,_,_,rfl⟩
 obtain ⟨e7,h7⟩:∃e7,(if decide (m<(newSp q).least∨(0≤(newSp q).most∧(newSp q).most<m))=true then fl e6 12 else e6)=e7:=⟨_,rfl⟩
 obtain ⟨K,k8,e8,hK⟩:∃K k8 e8,gKs b p m.toNat k6 e7=(K,k8,e8):=⟨_,_,_,rfl⟩
 have hR:=gRest_eq hA hB hM h7 hK
 unfold gNd at h
 rw [hq] at h
 dsimp only at h
 rw [hR] at h
 dsimp only at h
 split at h
 ·rename_i h8
  subst h8
  simp only [Prod.mk.injEq,and_true] at h
  obtain ⟨rfl,rfl⟩:=h
  obtain ⟨a1,a2,a3,a4⟩:=gKs_bytes b p hp _ _ _ _ _ hK
  subst a1
  have hc:¬(m<(newSp q).least∨(0≤(newSp q).most∧(newSp q).most<m)):=by
   intro c
   rw [if_pos (decide_eq_true c)] at h7
   exact absurd h7 (fl_ne (by decide))
  rw [decide_eq_false hc,if_neg (by decide)] at h7
  subst h7
  obtain ⟨b1,n,rfl,b3,b4,b5⟩:=uint_bytes hM
  subst b1
  obtain ⟨c1,c2,c3,c4⟩:=gTs_bytes b L hn _ _ _ _ _ hB
  subst c1
  obtain ⟨d1,d2,d3,d4,d5⟩:=gIs_bytes b _ _ _ _ _ hA
  have ho:(newSp q).ok=true:=by
   by_cases o:(newSp q).ok=true
   ·exact o
   ·rw [if_neg o] at d1
    exact absurd d1 (fl_ne (by decide))
  rw [if_pos ho] at d1
  subst d1
  obtain ⟨_,u,rfl,g3,_,g4⟩:=uint_bytes hq
  have hi:=itF_same L B c3
  have ht:=newSp_small (u:Int)
  rw [Int.toNat_natCast] at a2
  refine ⟨?_,?_,hi,d3,c3,by show (K.length:Int)≤_;omega⟩
  ·show _=rB ⟨u,A,B,K⟩ p L++_
   unfold rB
   dsimp only
   rw [g4,d5,c4,b5,a4,hi,Int.toNat_natCast,a2]
   simp only [List.append_assoc]
  ·have f1:fitI (newSp u).ints A=true:=fitI_yes _ _ d2 d4
   have f2:fitT B (newSp u).texts=true:=by
    unfold fitT
    rw [Bool.and_eq_true,decide_eq_true_eq,List.all_eq_true]
    exact ⟨by omega,fun s hs=>hr s (c3 s hs)⟩
   have f3:fitK K.length (newSp u).least (newSp u).most=true:=by
    unfold fitK
    rw [Bool.and_eq_true,Bool.or_eq_true,decide_eq_true_eq,decide_eq_true_eq,decide_eq_true_eq]
    omega
   have f4:tyN ⟨u,A,B,K⟩=0:=by
    unfold tyN chkN
    dsimp only
    rw [ho,f1,f2,f3]
    rfl
   unfold rE
   rw [if_pos f4,rOk_yes a3,if_pos rfl]
 ·rename_i h8
  simp only [Prod.mk.injEq] at h
  exact absurd h.2.2 h8
end Go.Proofs.YtgoffkfpdigeeaaGreatDoor
namespace Go.Proofs.YtgoffkfpdigeeaaGreatDoor
open Go.RowKit
theorem pIntern_sub (L:List ByteArray) (s t:ByteArray) (h:t ∈ L∨t=s):t ∈ pIntern L s:=by
 unfold pIntern
 split
 ·rename_i q
  rcases h with h|rfl
  ·exact h
  ·exact (idx6_mem _ _).1 q
 ·rw [List.mem_append]
  rcases h with h|rfl
  ·exact .inl h
  ·exact .inr (by simp)
theorem itF_sub (T:List ByteArray):∀(L:List ByteArray) (s:ByteArray),s ∈ L∨s ∈ T→s ∈ itF L T:=by
 induction T with
 | nil=>intro L s h;rcases h with h|h;exact h;simp at h
 | cons x r ih=>
  intro L s h
  refine ih (pIntern L x) s ?_
  rcases h with h|h
  ·exact .inl (pIntern_sub L x s (.inl h))
  ·rw [List.mem_cons] at h
   rcases h with h|h
   ·exact .inl (pIntern_sub L x s (.inr h))
   ·exact .inr h
def rTab:List Nd→List ByteArray→List ByteArray
 | [],L=>L
 | N :: r,L=>rTab r (itF L N.texts)
theorem rTab_keep:∀(l:List Nd) (L:List ByteArray) (s:ByteArray),s ∈ L→idx6 s (rTab l L)=idx6 s L∧s ∈ rTab l L
 | [],_,_,h=>⟨rfl,h⟩
 | N :: r,L,s,h=>by
  have h1:=itF_at N.texts (L:=L) (s:=s) ((idx6_mem _ _).2 h)
  have h2:=rTab_keep r (itF L N.texts) s (itF_sub _ _ _ (.inl h))
  exact ⟨h2.1.trans h1.1,h2.2⟩
end Go.Proofs.YtgoffkfpdigeeaaGreatDoor
namespace Go.Proofs.YtgoffkfpdigeeaaGreatDoor
open Go.RowKit
def rAllN:Nat→List Nd→List ByteArray→List UInt8
 | _,[],_=>[]
 | i,N :: r,L=>rB N i L++rAllN (i+1) r (itF L N.texts)
def sumK (l:List Nd):Nat:=(l.map fun N=>N.kids.length).sum
theorem sumK_cons (N:Nd) (l:List Nd):sumK (N :: l)=N.kids.length+sumK l:=by simp [sumK]
def gNs (b:ByteArray) (L:List ByteArray):Nat→Nat→Nat→Int→List Nd × Nat × Int
 | 0,_,k,_=>([],k,0)
 | n+1,i,k,ed=>if (gNd b i L ed k 0).2.2≠0 then ([],(gNd b i L ed k 0).2.1,(gNd b i L ed k 0).2.2)
  else ((gNd b i L ed k 0).1 :: (gNs b L n (i+1) (gNd b i L ed k 0).2.1 (ed-(gNd b i L ed k 0).1.kids.length)).1,(gNs b L n (i+1) (gNd b i L ed k 0).2.1 (ed-(gNd b i L ed k 0).1.kids.length)).2)
set_option maxRecDepth 10000 in
theorem gNs_put (b:ByteArray):∀(l:List Nd) (i:Nat) (L:List ByteArray) (k:Nat) (ed:Int) (x:List UInt8),b.data.toList.drop k=rAllN i l L++x→(∀j,j<l.length→rE (l.getD j ⟨0,[],[],[]⟩) ((i+j:Nat):Int)=0)→(∀N ∈ l,fine N.ints)→
  i+l.length≤16777216→(rTab l L).length≤16777216→(sumK l:Int)≤ed→sumK l≤16777216→gNs b (rTab l L) l.length i k ed=(l,k+(rAllN i l L).length,0)
 | [],i,L,k,ed,x,_,_,_,_,_,_,_=>by simp [gNs,rAllN]
 | N :: r,i,L,k,ed,x,h,hE,hf,hi,hM,hs,hs2=>by
  rw [sumK_cons] at hs hs2
  rw [List.length_cons] at hi
  have h':b.data.toList.drop k=rB N i L++(rAllN (i+1) r (itF L N.texts)++x):=by rw [h,← List.append_assoc];rfl
  have h1:=gNd_put b N i ed L (rTab (N :: r) L) k _ h' (by have:=hE 0 (by simp);simpa using this) (hf N (by simp)) (by omega) hM (fun s q=>by
   have:=rTab_keep r (itF L N.texts) s (itF_sub _ _ _ (.inr q))
   exact ⟨this.1,(idx6_mem _ _).2 this.2⟩) (by omega) (by omega)
  have h2:=gNs_put b r (i+1) (itF L N.texts) (k+(rB N i L).length) (ed-N.kids.length) x (drop_more h' rfl) (fun j hj=>by
   have:=hE (j+1) (by simp;omega)
   rw [show i+(j+1)=i+1+j by omega] at this
   simpa using this) (fun M q=>hf M (by simp [q])) (by omega) hM (by omega) (by omega)
  show gNs b (rTab (N :: r) L) (r.length+1) i k ed=_
  unfold gNs
  rw [h1]
  dsimp only
  rw [if_neg (by decide)]
  rw [show rTab (N :: r) L=rTab r (itF L N.texts) from rfl,h2]
  show (_,_,_)=(_,k+(rB N i L++rAllN (i+1) r (itF L N.texts)).length,(0:Int))
  rw [List.length_append,Nat.add_assoc]
theorem uint_over {b:ByteArray} {k n:Nat} {r:List UInt8} (m:Int) (h:b.data.toList.drop k=put n++r) (hn:n≤16777216) (hm:m<n):(pUint b k 0 m).2.2=19:=by
 have h1:=num_put h (by omega)
 unfold pUint
 rw [h1]
 dsimp only
 rw [if_neg (by decide),if_neg (by decide),if_pos (.inl hm)]
theorem gNd_over (b:ByteArray) (N:Nd) (p ed:Int) (L M:List ByteArray) (k:Nat) (r:List UInt8) (h:b.data.toList.drop k=rB N p L++r) (hE:rE N p=0) (hf:fine N.ints) (hM:M.length≤16777216)
  (hx:∀s ∈ N.texts,idx6 s M=idx6 s (itF L N.texts)∧idx6 s M<M.length) (hk:N.kids.length≤16777216) (he:ed<N.kids.length) (h0:0≤ed):(gNd b p M ed k 0).2.2=19:=by
 obtain ⟨h1,h2,h3,h4,h5⟩:=rE_zero hE
 have hkd:=newSp_kind h1
 have hT:rT (itF L N.texts) N.texts=rT M N.texts:=by
  unfold rT
  rw [List.flatMap_def,List.flatMap_def]
  exact congrArg List.flatten (List.map_congr_left fun s hs=>by rw [(hx s hs).1])
 have e1:rB N p L=put N.kind.toNat++(rI N.ints++(rT M N.texts++(put N.kids.length++rK p N.kids))):=by
  unfold rB
  rw [hT]
  simp only [List.append_assoc]
 rw [e1] at h
 simp only [List.append_assoc] at h
 have u1:=uint_put 16777216 h (by omega) (by omega)
 have hkn:(N.kind.toNat:Int)=N.kind:=by omega
 rw [hkn] at u1
 have d1:=drop_more h rfl
 unfold fitI at h2
 rw [Bool.and_eq_true,decide_eq_true_eq,List.all_eq_true] at h2
 have u2:=gIs_put b (newSp N.kind).ints N.ints _ _ d1 h2.1 (fun i q=>h2.2 i (by simpa using q)) hf
 have d2:=drop_more d1 rfl
 have u3:=gTs_put b M hM N.texts _ _ d2 (fun s q=>(hx s q).2)
 have d3:=drop_more d2 rfl
 have u4:=uint_over (max ed 0) d3 hk (by omega)
 unfold fitT at h3
 rw [Bool.and_eq_true,decide_eq_true_eq] at h3
 have ht:(newSp N.kind).texts.toNat=N.texts.length:=by omega
 obtain ⟨m,k6,e6,hm⟩:∃m k6 e6,pUint b (k+(put N.kind.toNat).length+(rI N.ints).length+(rT M N.texts).length) 0 (max ed 0)=(m,k6,e6):=⟨_,_,_,rfl⟩
 rw [hm] at u4
 dsimp only at u4
 subst u4
 have h7:(if decide (m<(newSp N.kind).least∨(0≤(newSp N.kind).most∧(newSp N.kind).most<m))=true then fl 19 12 else 19)=(19:Int):=by
  rw [show fl 19 12=(19:Int) from rfl,ite_self]
 have u6:=gRest_eq (S:=newSp N.kind) (edges:=ed) u2 (by rw [ht];exact u3) hm h7 (gKs_stop b p m.toNat k6 (show (19:Int)≠0 by decide))
 unfold gNd
 rw [u1]
 dsimp only
 rw [h1,if_pos rfl,u6]
 dsimp only
 rw [if_neg (by decide)]
theorem gNs_limit (b:ByteArray):∀(l:List Nd) (i:Nat) (L:List ByteArray) (k:Nat) (ed:Int) (x:List UInt8),b.data.toList.drop k=rAllN i l L++x→(∀j,j<l.length→rE (l.getD j ⟨0,[],[],[]⟩) ((i+j:Nat):Int)=0)→(∀N ∈ l,fine N.ints)→
  i+l.length≤16777216→(rTab l L).length≤16777216→ed<sumK l→0≤ed→sumK l≤16777216→(gNs b (rTab l L) l.length i k ed).2.2=19
 | [],i,L,k,ed,x,_,_,_,_,_,hs,h0,_=>by simp [sumK] at hs;omega
 | N :: r,i,L,k,ed,x,h,hE,hf,hi,hM,hs,h0,hs2=>by
  rw [sumK_cons] at hs hs2
  rw [List.length_cons] at hi
  have h':b.data.toList.drop k=rB N i L++(rAllN (i+1) r (itF L N.texts)++x):=by rw [h,← List.append_assoc];rfl
  have hx:∀s ∈ N.texts,idx6 s (rTab (N :: r) L)=idx6 s (itF L N.texts)∧idx6 s (rTab (N :: r) L)<(rTab (N :: r) L).length:=fun s q=>by
   have:=rTab_keep r (itF L N.texts) s (itF_sub _ _ _ (.inr q))
   exact ⟨this.1,(idx6_mem _ _).2 this.2⟩
  show (gNs b (rTab (N :: r) L) (r.length+1) i k ed).2.2=19
  by_cases hk:(N.kids.length:Int)≤ed
  ·have h1:=gNd_put b N i ed L (rTab (N :: r) L) k _ h' (by have:=hE 0 (by simp);simpa using this) (hf N (by simp)) (by omega) hM hx (by omega) hk
   have h2:=gNs_limit b r (i+1) (itF L N.texts) (k+(rB N i L).length) (ed-N.kids.length) x (drop_more h' rfl) (fun j hj=>by
    have:=hE (j+1) (by simp;omega)
    rw [show i+(j+1)=i+1+j by omega] at this
    simpa using this) (fun M q=>hf M (by simp [q])) (by omega) hM (by omega) (by omega) (by omega)
   unfold gNs
   rw [h1]
   dsimp only
   rw [if_neg (by decide)]
   exact h2
  ·have h1:=gNd_over b N i ed L (rTab (N :: r) L) k _ h' (by have:=hE 0 (by simp);simpa using this) (hf N (by simp)) hM hx (by omega) (by omega) (by omega)
   unfold gNs
   rw [if_pos (by rw [h1];decide)]
   exact h1
end Go.Proofs.YtgoffkfpdigeeaaGreatDoor
