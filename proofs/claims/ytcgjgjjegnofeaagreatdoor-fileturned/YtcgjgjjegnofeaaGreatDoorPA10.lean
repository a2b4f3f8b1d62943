import Derived.Test.YtcgjgjjegnofeaaGreatDoorPA09
import Derived.Test.YtcgjgjjegnofeaaGreatDoorPA07
import Derived.Test.YtcgjgjjegnofeaaGreatDoorPA06
import Derived.Maps.OwnSet
import Derived.Maps.OwnOps
import Derived.Maps.Views
import Derived.StringKeys
import Derived.Test.YtcgjgjjegnofeaaGreatDoorPA03
import Derived.Test.YtcgjgjjegnofeaaGreatDoorPA08
import Derived.Test.YtcgjgjjegnofeaaGreatDoorRows
import Derived.Lib.Builder
import Derived.Lib.OthersKept
import Derived.Lib.AppendStr
import Derived.Lib.UnsafeStr
namespace Go.Proofs.YtcgjgjjegnofeaaGreatDoor
open Go.RowKit
theorem drop_more {b:ByteArray} {k n:Nat} {x r:List UInt8} (h:b.data.toList.drop k=x++r) (hn:x.length=n):b.data.toList.drop (k+n)=r:=by
 rw [← List.drop_drop,h,← hn,List.drop_left]
theorem num_put {b:ByteArray} {k n:Nat} {r:List UInt8} (h:b.data.toList.drop k=put n++r) (hn:n<18446744073709551616):num b k=(n,(put n).length,0):=by
 unfold num
 rw [h]
 exact dec_put n hn r
theorem uint_put {b:ByteArray} {k n:Nat} {r:List UInt8} (m:Int) (h:b.data.toList.drop k=put n++r) (hn:n≤16777216) (hm:(n:Int)≤m):pUint b k 0 m=((n:Int),k+(put n).length,0):=by
 unfold pUint
 rw [if_neg (by simp),num_put h (by omega)]
 dsimp only
 rw [if_neg (by simp),if_neg (by omega)]
theorem int_put {b:ByteArray} {k:Nat} {z:Int} {r:List UInt8} (h:b.data.toList.drop k=put (zig z).toNat++r) (h0 : -9223372036854775808≤z) (h1:z≤9223372036854775807):pInt b k 0=(z,k+(put (zig z).toNat).length,0):=by
 have hz:=zig_range z h0 h1
 unfold pInt
 rw [if_neg (by simp),num_put h (by omega)]
 dsimp only
 rw [if_neg (by simp),Int.toNat_of_nonneg hz.1,zag_zig]
theorem gIs_put (b:ByteArray):∀(C I:List Int) (k:Nat) (r:List UInt8),b.data.toList.drop k=rI I++r→I.length=C.length→(∀i,i<I.length→in7 (C.getD i 0) (I.getD i 0)=true)→fine I→gIs b C k 0=(I,k+(rI I).length,0)
 | [],[],k,r,_,_,_,_=>rfl
 | [],x :: I,_,_,_,hl,_,_=>by simp at hl
 | c :: C,[],_,_,_,hl,_,_=>by simp at hl
 | c :: C,x :: I,k,r,h,hl,hi,hf=>by
  have e1:rI (x :: I)=put (zig x).toNat++rI I:=rfl
  rw [e1,List.append_assoc] at h
  have hx : -9223372036854775808≤x∧x≤9223372036854775807:=hf 0 (by simp)
  have hc:in7 c x=true:=hi 0 (by simp)
  have hp:=int_put h hx.1 hx.2
  have ih:=gIs_put b C I (k+(put (zig x).toNat).length) r (drop_more h rfl) (by simpa using hl) (fun i q=>by have:=hi (i+1) (by simpa using q);simpa using this) (fun i q=>by have:=hf (i+1) (by simpa using q);simpa using this)
  unfold gIs
  rw [if_neg (by decide),hp]
  dsimp only
  rw [hc,if_pos rfl,ih,e1,List.length_append,Nat.add_assoc]
theorem gTs_put (b:ByteArray) (M:List ByteArray) (hM:M.length≤16777216):∀(T:List ByteArray) (k:Nat) (r:List UInt8),b.data.toList.drop k=rT M T++r→(∀s ∈ T,idx6 s M<M.length)→gTs b M T.length k 0=(T,k+(rT M T).length,0)
 | [],k,r,_,_=>rfl
 | x :: T,k,r,h,hi=>by
  have e1:rT M (x :: T)=put (idx6 x M)++rT M T:=rfl
  rw [e1,List.append_assoc] at h
  have hx:=hi x (by simp)
  have hp:=uint_put 16777216 h (by omega) (by omega)
  have ih:=gTs_put b M hM T (k+(put (idx6 x M)).length) r (drop_more h rfl) (fun s q=>hi s (by simp [q]))
  rw [List.length_cons,gTs_next b M T.length k hp,if_neg (by simp),if_neg (by omega),Int.toNat_natCast,ih,e1,List.length_append,Nat.add_assoc]
  rw [show M.getD (idx6 x M) noT=x by rw [List.getD_eq_getElem?_getD,List.getElem?_eq_getElem hx];exact idx6_get x M hx]
theorem gKs_put (b:ByteArray) (p:Int) (hp:p≤16777216):∀(K:List Int) (k:Nat) (r:List UInt8),b.data.toList.drop k=rK p K++r→(∀i,i<K.length→0≤K.getD i 0∧K.getD i 0<p)→gKs b p K.length k 0=(K,k+(rK p K).length,0)
 | [],k,r,_,_=>rfl
 | x :: K,k,r,h,hi=>by
  have e1:rK p (x :: K)=put (p-x).toNat++rK p K:=rfl
  rw [e1,List.append_assoc] at h
  have hx:0≤x∧x<p:=hi 0 (by simp)
  have hu:=uint_put 16777216 h (by omega) (by omega)
  have ih:=gKs_put b p hp K (k+(put (p-x).toNat).length) r (drop_more h rfl) (fun i q=>by have:=hi (i+1) (by simpa using q);simpa using this)
  have hn:((p-x).toNat:Int)=p-x:=by omega
  rw [List.length_cons,gKs_next b p K.length k hu,hn,decide_eq_false (by omega),if_neg (by decide),ih,e1,List.length_append,Nat.add_assoc]
  rw [show wrap64 (p-(p-x))=x by unfold wrap64;omega]
theorem rE_zero {N:Nd} {p:Int} (h:rE N p=0):(newSp N.kind).ok=true∧fitI (newSp N.kind).ints N.ints=true∧fitT N.texts (newSp N.kind).texts=true∧fitK N.kids.length (newSp N.kind).least (newSp N.kind).most=true∧rOk N p=true:=by
 unfold rE at h
 split at h
 ·rename_i ht
  split at h
  ·rename_i hk
   unfold tyN at ht
   split at ht
   ·exact absurd ht (by decide)
   ·rename_i ho
    unfold chkN at ht
    split at ht
    ·exact absurd ht (by decide)
    ·split at ht
     ·exact absurd ht (by decide)
     ·split at ht
      ·exact absurd ht (by decide)
      ·rename_i a1 a2 a3
       exact ⟨by simpa using ho,by simpa using a1,by simpa using a2,by simpa using a3,hk⟩
  ·exact absurd h (by decide)
 ·rename_i hn
  exact absurd h hn
theorem newSp_kind {k:Int} (h:(newSp k).ok=true):1≤k∧k≤8:=by
 by_cases q:k<1∨9≤k
 ·rw [newSp_no k q] at h
  exact absurd h (by decide)
 ·omega
theorem gNd_put (b:ByteArray) (N:Nd) (p edges:Int) (L M:List ByteArray) (k:Nat) (r:List UInt8) (h:b.data.toList.drop k=rB N p L++r) (hE:rE N p=0) (hf:fine N.ints) (hp:p≤16777216) (hM:M.length≤16777216)
  (hx:∀s ∈ N.texts,idx6 s M=idx6 s (itF L N.texts)∧idx6 s M<M.length) (hk:N.kids.length≤16777216) (he:(N.kids.length:Int)≤edges):gNd b p M edges k 0=(N,k+(rB N p L).length,0):=by
 obtain ⟨h1,h2,h3,h4,h5⟩:=rE_zero hE
 have hkd:=newSp_kind h1
 have hT:rT (itF L N.texts) N.texts=rT M N.texts:=by
  unfold rT
  rw [List.flatMap_def,List.flatMap_def]
  exact congrArg List.flatten (List.map_congr_left fun s hs=>by rw [(hx s hs).1])
 have e1:rB N p L=put N.kind.toNat++(rI N.ints++(rT M N.texts++(put N.kids.length++rK p N.kids))):=by
  unfold rB
  rw [hT]
  simp only [List.append_assoc]
 rw [e1] at h ⊢
 simp only [List.append_assoc] at h
 have u1:=uint_put 16777216 h (by omega) (by omega)
 have hkn:(N.kind.toNat:Int)=N.kind:=by omega
 rw [hkn] at u1
 have d1:=drop_more h rfl
 unfold fitI at h2
 rw [Bool.and_eq_true,decide_eq_true_eq,List.all_eq_true] at h2
 have u2:=gIs_put b (newSp N.kind).ints N.ints _ _ d1 h2.1 (fun i q=>h2.2 i (by simpa using q)) hf
 have d2:=drop_more d1 rfl
 have u3:=gTs_put b M hM N.texts _ _ d2 (fun s q=>(hx s q).2)
 have d3:=drop_more d2 rfl
 have u4:=uint_put (max edges 0) d3 hk (by omega)
 have d4:=drop_more d3 rfl
 unfold rOk at h5
 rw [List.all_eq_true] at h5
 have u5:=gKs_put b p hp N.kids _ _ d4 (fun i q=>of_decide_eq_true (h5 i (by simpa using q)))
 unfold fitT at h3
 rw [Bool.and_eq_true,decide_eq_true_eq] at h3
 have ht:(newSp N.kind).texts.toNat=N.texts.length:=by omega
 unfold fitK at h4
 rw [Bool.and_eq_true,Bool.or_eq_true,decide_eq_true_eq,decide_eq_true_eq,decide_eq_true_eq] at h4
 have u6:=gRest_eq (S:=newSp N.kind) (edges:=edges) u2 (by rw [ht];exact u3) u4 (if_neg (by rw [decide_eq_false (by omega)];decide)) u5
 unfold gNd
 rw [u1]
 dsimp only
 rw [h1,if_pos rfl,u6]
 simp only [List.length_append,if_true,← Nat.add_assoc]
end Go.Proofs.YtcgjgjjegnofeaaGreatDoor
namespace Go.Proofs.YtcgjgjjegnofeaaGreatDoor
open Go.RowKit
theorem fl_ne {e d:Int} (hd:d≠0):fl e d≠0:=by
 unfold fl
 split
 ·exact hd
 ·assumption
theorem num_bytes {b:ByteArray} {k:Nat} (h:(num b k).2.2=0):(num b k).1<18446744073709551616∧b.data.toList.drop k=put (num b k).1++b.data.toList.drop (k+(num b k).2.1):=by
 obtain ⟨n,m,e,hnum⟩:∃n m e,num b k=(n,m,e):=⟨_,_,_,rfl⟩
 rw [hnum] at h ⊢
 dsimp only at h ⊢
 subst h
 unfold num at hnum
 obtain ⟨h1,_,_,h4,h5⟩:=put_dec _ n m hnum
 refine ⟨h1,?_⟩
 rw [h5,← List.drop_drop,List.take_append_drop]
theorem uint_bytes {b:ByteArray} {k:Nat} {e m x:Int} {k':Nat} (h:pUint b k e m=(x,k',0)):e=0∧∃n:Nat,x=n∧n≤16777216∧(n:Int)≤m∧b.data.toList.drop k=put n++b.data.toList.drop k':=by
 unfold pUint at h
 split at h
 ·rename_i q
  simp only [Prod.mk.injEq] at h
  exact absurd h.2.2 q
 ·rename_i q
  split at h
  ·rename_i q2
   simp only [Prod.mk.injEq] at h
   have:=h.2.2
   omega
  ·rename_i q2
   split at h
   ·simp only [Prod.mk.injEq] at h
    exact absurd h.2.2 (by decide)
   ·rename_i q3
    simp only [Prod.mk.injEq] at h
    obtain ⟨rfl,rfl,_⟩:=h
    have:=num_bytes (b:=b) (k:=k) (by omega)
    exact ⟨by omega,(num b k).1,rfl,by omega,by omega,this.2⟩
theorem int_bytes {b:ByteArray} {k:Nat} {e x:Int} {k':Nat} (h:pInt b k e=(x,k',0)):e=0∧-9223372036854775808≤x∧x≤9223372036854775807∧b.data.toList.drop k=put (zig x).toNat++b.data.toList.drop k':=by
 unfold pInt at h
 split at h
 ·rename_i q
  simp only [Prod.mk.injEq] at h
  exact absurd h.2.2 q
 ·rename_i q
  split at h
  ·rename_i q2
   simp only [Prod.mk.injEq] at h
   have:=h.2.2
   omega
  ·rename_i q2
   simp only [Prod.mk.injEq] at h
   obtain ⟨rfl,rfl,_⟩:=h
   have h1:=num_bytes (b:=b) (k:=k) (by omega)
   have h2:=zag_range ((num b k).1:Int) (by omega) (by omega)
   refine ⟨by omega,h2.1,h2.2,?_⟩
   rw [zig_zag _ (by omega),Int.toNat_natCast]
   exact h1.2
theorem gIs_bytes (b:ByteArray):∀(C:List Int) (k:Nat) (e:Int) (I:List Int) (k':Nat),gIs b C k e=(I,k',0)→e=0∧I.length=C.length∧fine I∧(∀i,i<I.length→in7 (C.getD i 0) (I.getD i 0)=true)∧b.data.toList.drop k=rI I++b.data.toList.drop k'
 | [],k,e,I,k',h=>by
  simp only [gIs,Prod.mk.injEq] at h
  obtain ⟨rfl,rfl,rfl⟩:=h
  exact ⟨rfl,rfl,fun i q=>by simp at q,fun i q=>by simp at q,rfl⟩
 | c :: C,k,e,I,k',h=>by
  unfold gIs at h
  split at h
  ·rename_i q
   simp only [Prod.mk.injEq] at h
   exact absurd h.2.2 q
  ·obtain ⟨x,k1,e1,hq⟩:∃x k1 e1,pInt b k e=(x,k1,e1):=⟨_,_,_,rfl⟩
   rw [hq] at h
   dsimp only at h
   obtain ⟨I',k2,e2,hr⟩:∃I' k2 e2,gIs b C k1 (if in7 c x=true then e1 else fl e1 10)=(I',k2,e2):=⟨_,_,_,rfl⟩
   rw [hr] at h
   simp only [Prod.mk.injEq] at h
   obtain ⟨rfl,rfl,rfl⟩:=h
   obtain ⟨h1,h2,h3,h4,h5⟩:=gIs_bytes b C k1 _ I' k2 hr
   have hc:in7 c x=true:=by
    by_cases q:in7 c x=true
    ·exact q
    ·rw [if_neg q] at h1
     exact absurd h1 (fl_ne (by decide))
   rw [if_pos hc] at h1
   subst h1
   obtain ⟨g1,g2,g3,g4⟩:=int_bytes hq
   refine ⟨g1,by simp [h2],fun i q=>?_,fun i q=>?_,?_⟩
   ·cases i with
    | zero=>exact ⟨g2,g3⟩
    | succ i=>have:=h3 i (by simpa using q);simpa using this
   ·cases i with
    | zero=>exact hc
    | succ i=>have:=h4 i (by simpa using q);simpa using this
   ·rw [g4,h5,show rI (x :: I')=put (zig x).toNat++rI I' from rfl,List.append_assoc]
theorem gTs_bytes (b:ByteArray) (L:List ByteArray) (hn:L.Nodup):∀(n k:Nat) (e:Int) (T:List ByteArray) (k':Nat),gTs b L n k e=(T,k',0)→e=0∧T.length=n∧(∀s ∈ T,s ∈ L)∧b.data.toList.drop k=rT L T++b.data.toList.drop k'
 | 0,k,e,T,k',h=>by
  simp only [gTs,Prod.mk.injEq] at h
  obtain ⟨rfl,rfl,rfl⟩:=h
  exact ⟨rfl,rfl,fun i q=>by simp at q,rfl⟩
 | n+1,k,e,T,k',h=>by
  by_cases he:e=0
  ·subst he
   obtain ⟨x,k1,e1,hq⟩:∃x k1 e1,pUint b k 0 16777216=(x,k1,e1):=⟨_,_,_,rfl⟩
   rw [gTs_next b L n k hq] at h
   split at h
   ·rename_i q
    simp only [Prod.mk.injEq] at h
    exact absurd h.2.2 q
   ·rename_i q
    have q0:e1=0:=by omega
    subst q0
    split at h
    ·simp only [Prod.mk.injEq] at h
     exact absurd h.2.2 (by decide)
    ·rename_i q2
     obtain ⟨T',k2,e2,hr⟩:∃T' k2 e2,gTs b L n k1 0=(T',k2,e2):=⟨_,_,_,rfl⟩
     rw [hr] at h
     simp only [Prod.mk.injEq] at h
     obtain ⟨rfl,rfl,rfl⟩:=h
     obtain ⟨_,h2,h3,h4⟩:=gTs_bytes b L hn n k1 0 T' k2 hr
     obtain ⟨_,m,rfl,g3,_,g4⟩:=uint_bytes hq
     have hm:m<L.length:=by omega
     rw [Int.toNat_natCast,List.getD_eq_getElem?_getD,List.getElem?_eq_getElem hm]
     refine ⟨rfl,by simp [h2],fun s hs=>?_,?_⟩
     ·simp only [Option.getD_some,List.mem_cons] at hs
      rcases hs with rfl|hs
      ·exact List.getElem_mem hm
      ·exact h3 s hs
     ·show _=rT L (L[m] :: T')++_
      rw [g4,h4,show rT L (L[m] :: T')=put (idx6 L[m] L)++rT L T' from rfl,idx6_at L[m] L m hm rfl (fun j hj hjm q=>(List.pairwise_iff_getElem.1 hn) j m hj hm hjm q),List.append_assoc]
  ·rw [gTs_stop b L _ k he] at h
   simp only [Prod.mk.injEq] at h
   exact absurd h.2.2 he
theorem gKs_bytes (b:ByteArray) (p:Int) (hp:p≤9223372036854775807):∀(n k:Nat) (e:Int) (K:List Int) (k':Nat),gKs b p n k e=(K,k',0)→e=0∧K.length=n∧(∀i,i<K.length→0≤K.getD i 0∧K.getD i 0<p)∧b.data.toList.drop k=rK p K++b.data.toList.drop k'
 | 0,k,e,K,k',h=>by
  simp only [gKs,Prod.mk.injEq] at h
  obtain ⟨rfl,rfl,rfl⟩:=h
  exact ⟨rfl,rfl,fun i q=>by simp at q,rfl⟩
 | n+1,k,e,K,k',h=>by
  by_cases he:e=0
  ·subst he
   obtain ⟨x,k1,e1,hq⟩:∃x k1 e1,pUint b k 0 16777216=(x,k1,e1):=⟨_,_,_,rfl⟩
   rw [gKs_next b p n k hq] at h
   obtain ⟨K',k2,e2,hr⟩:∃K' k2 e2,gKs b p n k1 (if decide (x<1∨p<x)=true then fl e1 13 else e1)=(K',k2,e2):=⟨_,_,_,rfl⟩
   rw [hr] at h
   simp only [Prod.mk.injEq] at h
   obtain ⟨rfl,rfl,rfl⟩:=h
   obtain ⟨h1,h2,h3,h4⟩:=gKs_bytes b p hp n k1 _ K' k2 hr
   have hc:¬(x<1∨p<x):=by
    intro q
    rw [if_pos (decide_eq_true q)] at h1
    exact absurd h1 (fl_ne (by decide))
   rw [decide_eq_false hc,if_neg (by decide)] at h1
   subst h1
   obtain ⟨_,m,rfl,g3,_,g4⟩:=uint_bytes hq
   have hw:wrap64 (p-m)=p-m:=by unfold wrap64;omega
   rw [hw]
   refine ⟨rfl,by simp [h2],fun i q=>?_,?_⟩
   ·cases i with
    | zero=>exact ⟨by show 0≤p-(m:Int);omega,by show p-(m:Int)<p;omega⟩
    | succ i=>have:=h3 i (by simpa using q);simpa using this
   ·rw [g4,h4,show rK p ((p-m) :: K')=put (p-(p-m)).toNat++rK p K' from rfl,show (p-(p-(m:Int))).toNat=m by omega,List.append_assoc]
  ·rw [gKs_stop b p _ k he] at h
   simp only [Prod.mk.injEq] at h
   exact absurd h.2.2 he
theorem itF_same (L:List ByteArray):∀T:List ByteArray,(∀s ∈ T,s ∈ L)→itF L T=L
 | [],_=>rfl
 | x :: T,h=>by
  have h1:pIntern L x=L:=by
   unfold pIntern
   rw [if_pos ((idx6_mem x L).2 (h x (by simp)))]
  rw [show itF L (x :: T)=itF (pIntern L x) T from rfl,h1]
  exact itF_same L T fun s q=>h s (by simp [q])
theorem gNd_bytes {b:ByteArray} {N:Nd} {p edges:Int} {L:List ByteArray} {k k':Nat} (h:gNd b p L edges k 0=(N,k',0)) (hp:p≤9223372036854775807) (hn:L.Nodup) (hr:∀s ∈ L,ok8 s=true) :
  b.data.toList.drop k=rB N p L++b.data.toList.drop k'∧rE N p=0∧itF L N.texts=L∧fine N.ints∧(∀s ∈ N.texts,s ∈ L)∧(N.kids.length:Int)≤max edges 0:=by
 obtain ⟨q,k1,e1,hq⟩:∃q k1 e1,pUint b k 0 16777216=(q,k1,e1):=⟨_,_,_,rfl⟩
 obtain ⟨A,k4,e4,hA⟩:∃A k4 e4,gIs b (newSp q).ints k1 (if (newSp q).ok=true then e1 else fl e1 9)=(A,k4,e4):=⟨_,_,_,rfl⟩
 obtain ⟨B,k5,e5,hB⟩:∃B k5 e5,gTs b L (newSp q).texts.toNat k4 e4=(B,k5,e5):=⟨_,_,_,rfl⟩
 obtain ⟨m,k6,e6,hM⟩:∃m k6 e6,pUint b k5 e5 (max edges 0)=(m,k6,e6):=⟨_,_,_,rfl⟩
 obtain ⟨e7,h7⟩:∃e7,(if decide (m<(newSp q).least∨(0≤(newSp q).most∧(newSp q).most<m))=true then fl e6 12 else e6)=e7:=⟨_,rfl⟩
 obtain ⟨K,k8,e8,hK⟩:∃K k8 e8,gKs b p m.toNat k6 e7=(K,k8,e8):=⟨_,_,_,rfl⟩
 have hR:=gRest_eq hA hB hM h7 hK
 unfold gNd at h
 rw [hq] at h
 dsimp only at h
 rw [hR] at h
 dsimp only at h
 split at h
 ·rename_i h8
  subst h8
  simp only [Prod.mk.injEq,and_true] at h
  obtain ⟨rfl,rfl⟩:=h
  obtain ⟨a1,a2,a3,a4⟩:=gKs_bytes b p hp _ _ _ _ _ hK
  subst a1
  have hc:¬(m<(newSp q).least∨(0≤(newSp q).most∧(newSp q).most<m)):=by
   intro c
   rw [if_pos (decide_eq_true c)] at h7
   exact absurd h7 (fl_ne (by decide))
  rw [decide_eq_false hc,if_neg (by decide)] at h7
  subst h7
  obtain ⟨b1,n,rfl,b3,b4,b5⟩:=uint_bytes hM
  subst b1
  obtain ⟨c1,c2,c3,c4⟩:=gTs_bytes b L hn _ _ _ _ _ hB
  subst c1
  obtain ⟨d1,d2,d3,d4,d5⟩:=gIs_bytes b _ _ _ _ _ hA
  have ho:(newSp q).ok=true:=by
   by_cases o:(newSp q).ok=true
   ·exact o
   ·rw [if_neg o] at d1
    exact absurd d1 (fl_ne (by decide))
  rw [if_pos ho] at d1
  subst d1
  obtain ⟨_,u,rfl,g3,_,g4⟩:=uint_bytes hq
  have hi:=itF_same L B c3
  have ht:=newSp_small (u:Int)
  rw [Int.toNat_natCast] at a2
  refine ⟨?_,?_,hi,d3,c3,by show (K.length:Int)≤_;omega⟩
  ·show _=rB ⟨u,A,B,K⟩ p L++_
   unfold rB
   dsimp only
   rw [g4,d5,c4,b5,a4,hi,Int.toNat_natCast,a2]
   simp only [List.append_assoc]
  ·have f1:fitI (newSp u).ints A=true:=fitI_yes _ _ d2 d4
   have f2:fitT B (newSp u).texts=true:=by
    unfold fitT
    rw [Bool.and_eq_true,decide_eq_true_eq,List.all_eq_true]
    exact ⟨by omega,fun s hs=>hr s (c3 s hs)⟩
   have f3:fitK K.length (newSp u).least (newSp u).most=true:=by
    unfold fitK
    rw [Bool.and_eq_true,Bool.or_eq_true,decide_eq_true_eq,decide_eq_true_eq,decide_eq_true_eq]
    omega
   have f4:tyN ⟨u,A,B,K⟩=0:=by
    unfold tyN chkN
    dsimp only
    rw [ho,f1,f2,f3]
    rfl
   unfold rE
   rw [if_pos f4,rOk_yes a3,if_pos rfl]
 ·rename_i h8
  simp only [Prod.mk.injEq] at h
  exact absurd h.2.2 h8
end Go.Proofs.YtcgjgjjegnofeaaGreatDoor
namespace Go.Proofs.YtcgjgjjegnofeaaGreatDoor
open Go.RowKit
theorem pIntern_sub (L:List ByteArray) (s t:ByteArray) (h:t ∈ L∨t=s):t ∈ pIntern L s:=by
 unfold pIntern
 split
 ·rename_i q
  rcases h with h|rfl
  ·exact h
  ·exact (idx6_mem _ _).1 q
 ·rw [List.mem_append]
  rcases h with h|rfl
  ·exact .inl h
  ·exact .inr (by simp)
theorem itF_sub (T:List ByteArray):∀(L:List ByteArray) (s:ByteArray),s ∈ L∨s ∈ T→s ∈ itF L T:=by
 induction T with
 | nil=>intro L s h;rcases h with h|h;exact h;simp at h
 | cons x r ih=>
  intro L s h
  refine ih (pIntern L x) s ?_
  rcases h with h|h
  ·exact .inl (pIntern_sub L x s (.inl h))
  ·rw [List.mem_cons] at h
   rcases h with h|h
   ·exact .inl (pIntern_sub L x s (.inr h))
   ·exact .inr h
def rTab:List Nd→List ByteArray→List ByteArray
 | [],L=>L
 | N :: r,L=>rTab r (itF L N.texts)
theorem rTab_snoc (n:Nd):∀(l:List Nd) (L:List ByteArray),rTab (l++[n]) L=itF (rTab l L) n.texts
 | [],_=>rfl
 | N :: r,L=>rTab_snoc n r (itF L N.texts)
theorem rTab_keep:∀(l:List Nd) (L:List ByteArray) (s:ByteArray),s ∈ L→idx6 s (rTab l L)=idx6 s L∧s ∈ rTab l L
 | [],_,_,h=>⟨rfl,h⟩
 | N :: r,L,s,h=>by
  have h1:=itF_at N.texts (L:=L) (s:=s) ((idx6_mem _ _).2 h)
  have h2:=rTab_keep r (itF L N.texts) s (itF_sub _ _ _ (.inl h))
  exact ⟨h2.1.trans h1.1,h2.2⟩
end Go.Proofs.YtcgjgjjegnofeaaGreatDoor
namespace Go.Proofs.YtcgjgjjegnofeaaGreatDoor
open Go.RowKit
def rAllN:Nat→List Nd→List ByteArray→List UInt8
 | _,[],_=>[]
 | i,N :: r,L=>rB N i L++rAllN (i+1) r (itF L N.texts)
theorem rAllN_snoc (n:Nd):∀(l:List Nd) (i:Nat) (L:List ByteArray),rAllN i (l++[n]) L=rAllN i l L++rB n ((i+l.length:Nat):Int) (rTab l L)
 | [],i,L=>by simp [rAllN,rTab]
 | N :: r,i,L=>by
  show rB N i L++rAllN (i+1) (r++[n]) (itF L N.texts)=(rB N i L++rAllN (i+1) r (itF L N.texts))++rB n _ (rTab r (itF L N.texts))
  rw [rAllN_snoc n r,List.append_assoc,List.length_cons,show i+1+r.length=i+(r.length+1) by omega]
def sumK (l:List Nd):Nat:=(l.map fun N=>N.kids.length).sum
theorem sumK_cons (N:Nd) (l:List Nd):sumK (N :: l)=N.kids.length+sumK l:=by simp [sumK]
def gNs (b:ByteArray) (L:List ByteArray):Nat→Nat→Nat→Int→List Nd × Nat × Int
 | 0,_,k,_=>([],k,0)
 | n+1,i,k,ed=>if (gNd b i L ed k 0).2.2≠0 then ([],(gNd b i L ed k 0).2.1,(gNd b i L ed k 0).2.2)
  else ((gNd b i L ed k 0).1 :: (gNs b L n (i+1) (gNd b i L ed k 0).2.1 (ed-(gNd b i L ed k 0).1.kids.length)).1,(gNs b L n (i+1) (gNd b i L ed k 0).2.1 (ed-(gNd b i L ed k 0).1.kids.length)).2)
set_option maxRecDepth 10000 in
theorem gNs_put (b:ByteArray):∀(l:List Nd) (i:Nat) (L:List ByteArray) (k:Nat) (ed:Int) (x:List UInt8),b.data.toList.drop k=rAllN i l L++x→(∀j,j<l.length→rE (l.getD j ⟨0,[],[],[]⟩) ((i+j:Nat):Int)=0)→(∀N ∈ l,fine N.ints)→
  i+l.length≤16777216→(rTab l L).length≤16777216→(sumK l:Int)≤ed→sumK l≤16777216→gNs b (rTab l L) l.length i k ed=(l,k+(rAllN i l L).length,0)
 | [],i,L,k,ed,x,_,_,_,_,_,_,_=>by simp [gNs,rAllN]
 | N :: r,i,L,k,ed,x,h,hE,hf,hi,hM,hs,hs2=>by
  rw [sumK_cons] at hs hs2
  rw [List.length_cons] at hi
  have h':b.data.toList.drop k=rB N i L++(rAllN (i+1) r (itF L N.texts)++x):=by rw [h,← List.append_assoc];rfl
  have h1:=gNd_put b N i ed L (rTab (N :: r) L) k _ h' (by have:=hE 0 (by simp);simpa using this) (hf N (by simp)) (by omega) hM (fun s q=>by
   have:=rTab_keep r (itF L N.texts) s (itF_sub _ _ _ (.inr q))
   exact ⟨this.1,(idx6_mem _ _).2 this.2⟩) (by omega) (by omega)
  have h2:=gNs_put b r (i+1) (itF L N.texts) (k+(rB N i L).length) (ed-N.kids.length) x (drop_more h' rfl) (fun j hj=>by
   have:=hE (j+1) (by simp;omega)
   rw [show i+(j+1)=i+1+j by omega] at this
   simpa using this) (fun M q=>hf M (by simp [q])) (by omega) hM (by omega) (by omega)
  show gNs b (rTab (N :: r) L) (r.length+1) i k ed=_
  unfold gNs
  rw [h1]
  dsimp only
  rw [if_neg (by decide)]
  rw [show rTab (N :: r) L=rTab r (itF L N.texts) from rfl,h2]
  show (_,_,_)=(_,k+(rB N i L++rAllN (i+1) r (itF L N.texts)).length,(0:Int))
  rw [List.length_append,Nat.add_assoc]
theorem uint_over {b:ByteArray} {k n:Nat} {r:List UInt8} (m:Int) (h:b.data.toList.drop k=put n++r) (hn:n≤16777216) (hm:m<n):(pUint b k 0 m).2.2=19:=by
 have h1:=num_put h (by omega)
 unfold pUint
 rw [h1]
 dsimp only
 rw [if_neg (by decide),if_neg (by decide),if_pos (.inl hm)]
theorem gNd_over (b:ByteArray) (N:Nd) (p ed:Int) (L M:List ByteArray) (k:Nat) (r:List UInt8) (h:b.data.toList.drop k=rB N p L++r) (hE:rE N p=0) (hf:fine N.ints) (hM:M.length≤16777216)
  (hx:∀s ∈ N.texts,idx6 s M=idx6 s (itF L N.texts)∧idx6 s M<M.length) (hk:N.kids.length≤16777216) (he:ed<N.kids.length) (h0:0≤ed):(gNd b p M ed k 0).2.2=19:=by
 obtain ⟨h1,h2,h3,h4,h5⟩:=rE_zero hE
 have hkd:=newSp_kind h1
 have hT:rT (itF L N.texts) N.texts=rT M N.texts:=by
  unfold rT
  rw [List.flatMap_def,List.flatMap_def]
  exact congrArg List.flatten (List.map_congr_left fun s hs=>by rw [(hx s hs).1])
 have e1:rB N p L=put N.kind.toNat++(rI N.ints++(rT M N.texts++(put N.kids.length++rK p N.kids))):=by
  unfold rB
  rw [hT]
  simp only [List.append_assoc]
 rw [e1] at h
 simp only [List.append_assoc] at h
 have u1:=uint_put 16777216 h (by omega) (by omega)
 have hkn:(N.kind.toNat:Int)=N.kind:=by omega
 rw [hkn] at u1
 have d1:=drop_more h rfl
 unfold fitI at h2
 rw [Bool.and_eq_true,decide_eq_true_eq,List.all_eq_true] at h2
 have u2:=gIs_put b (newSp N.kind).ints N.ints _ _ d1 h2.1 (fun i q=>h2.2 i (by simpa using q)) hf
 have d2:=drop_more d1 rfl
 have u3:=gTs_put b M hM N.texts _ _ d2 (fun s q=>(hx s q).2)
 have d3:=drop_more d2 rfl
 have u4:=uint_over (max ed 0) d3 hk (by omega)
 unfold fitT at h3
 rw [Bool.and_eq_true,decide_eq_true_eq] at h3
 have ht:(newSp N.kind).texts.toNat=N.texts.length:=by omega
 obtain ⟨m,k6,e6,hm⟩:∃m k6 e6,pUint b (k+(put N.kind.toNat).length+(rI N.ints).length+(rT M N.texts).length) 0 (max ed 0)=(m,k6,e6):=⟨_,_,_,rfl⟩
 rw [hm] at u4
 dsimp only at u4
 subst u4
 have h7:(if decide (m<(newSp N.kind).least∨(0≤(newSp N.kind).most∧(newSp N.kind).most<m))=true then fl 19 12 else 19)=(19:Int):=by
  rw [show fl 19 12=(19:Int) from rfl,ite_self]
 have u6:=gRest_eq (S:=newSp N.kind) (edges:=ed) u2 (by rw [ht];exact u3) hm h7 (gKs_stop b p m.toNat k6 (show (19:Int)≠0 by decide))
 unfold gNd
 rw [u1]
 dsimp only
 rw [h1,if_pos rfl,u6]
 dsimp only
 rw [if_neg (by decide)]
theorem gNs_limit (b:ByteArray):∀(l:List Nd) (i:Nat) (L:List ByteArray) (k:Nat) (ed:Int) (x:List UInt8),b.data.toList.drop k=rAllN i l L++x→(∀j,j<l.length→rE (l.getD j ⟨0,[],[],[]⟩) ((i+j:Nat):Int)=0)→(∀N ∈ l,fine N.ints)→
  i+l.length≤16777216→(rTab l L).length≤16777216→ed<sumK l→0≤ed→sumK l≤16777216→(gNs b (rTab l L) l.length i k ed).2.2=19
 | [],i,L,k,ed,x,_,_,_,_,_,hs,h0,_=>by simp [sumK] at hs;omega
 | N :: r,i,L,k,ed,x,h,hE,hf,hi,hM,hs,h0,hs2=>by
  rw [sumK_cons] at hs hs2
  rw [List.length_cons] at hi
  have h':b.data.toList.drop k=rB N i L++(rAllN (i+1) r (itF L N.texts)++x):=by rw [h,← List.append_assoc];rfl
  have hx:∀s ∈ N.texts,idx6 s (rTab (N :: r) L)=idx6 s (itF L N.texts)∧idx6 s (rTab (N :: r) L)<(rTab (N :: r) L).length:=fun s q=>by
   have:=rTab_keep r (itF L N.texts) s (itF_sub _ _ _ (.inr q))
   exact ⟨this.1,(idx6_mem _ _).2 this.2⟩
  show (gNs b (rTab (N :: r) L) (r.length+1) i k ed).2.2=19
  by_cases hk:(N.kids.length:Int)≤ed
  ·have h1:=gNd_put b N i ed L (rTab (N :: r) L) k _ h' (by have:=hE 0 (by simp);simpa using this) (hf N (by simp)) (by omega) hM hx (by omega) hk
   have h2:=gNs_limit b r (i+1) (itF L N.texts) (k+(rB N i L).length) (ed-N.kids.length) x (drop_more h' rfl) (fun j hj=>by
    have:=hE (j+1) (by simp;omega)
    rw [show i+(j+1)=i+1+j by omega] at this
    simpa using this) (fun M q=>hf M (by simp [q])) (by omega) hM (by omega) (by omega) (by omega)
   unfold gNs
   rw [h1]
   dsimp only
   rw [if_neg (by decide)]
   exact h2
  ·have h1:=gNd_over b N i ed L (rTab (N :: r) L) k _ h' (by have:=hE 0 (by simp);simpa using this) (hf N (by simp)) hM hx (by omega) (by omega) (by omega)
   unfold gNs
   rw [if_pos (by rw [h1];decide)]
   exact h1
end Go.Proofs.YtcgjgjjegnofeaaGreatDoor
namespace Go.Proofs.YtcgjgjjegnofeaaGreatDoor
open Go.RowKit Go.Maps Go.WideMaps
def kS (s:ByteArray):Lit:=.string s.data.toList
theorem lawS6:Keyed Tryz.prog 9:=string_keyed Tryz.underlying9
theorem kS_key (s:ByteArray) (h:s.size≤maxLen):keyOf Tryz.prog 9 (.string s)=some (kS s):=keyOf_string_mk Tryz.underlying9 h
theorem kS_ne {s t:ByteArray} (h:s≠t):kS s≠kS t:=by
 intro e
 unfold kS at e
 injection e with e
 apply h
 cases s;cases t
 simp at e
 rw [e]
theorem kS_is (s:ByteArray):WideAt.IsKeyLit (kS s):=trivial
end Go.Proofs.YtcgjgjjegnofeaaGreatDoor
namespace Go.Proofs.YtcgjgjjegnofeaaGreatDoor
open Go.RowKit Go.Maps Go.WideMaps
theorem TextAt.fr {S:Nat→Prop} {w w':World} {b o:Nat} {L:List ByteArray} (h:TextAt w b o L) (k:Fr S w w') (hb:¬S b):TextAt w' b o L:=fun i hi=>by
 obtain ⟨h1,h2⟩:=h i hi
 exact ⟨Nat.lt_of_lt_of_le h1 k.size,(World.cell?_of_block (k.block b h1 hb)).trans h2⟩
theorem At3.fr {S:Nat→Prop} {T:TypeId} {w w':World} {g:Nat} {x y z:Value} (h:At3 T w g x y z) (k:Fr S w w') (hb:¬S g):At3 T w' g x y z:=by
 unfold At3
 rw [k.block g h.lt hb]
 exact h
theorem zeroI6 (w:World):(zeroValue 3).run Tryz.prog w=.ok (.int .i64 0) w:=by kernel_rfl
def iE (n:Int):DataW Unit:=.lit (.int .i64 n)
def NumsIs (D:DataW Unit) (L:List ByteArray):Prop:=
 IsMap D∧∀s:ByteArray,Maps.has D (kS s)=decide (idx6 s L<L.length)∧(idx6 s L<L.length→D.atKey (kS s) (iE 0)=iE (idx6 s L:Nat))
theorem NumsIs.none:NumsIs (.map []) []:=⟨isMap_empty,fun s=>⟨rfl,fun h=>by simp at h⟩⟩
theorem idx6_snoc (L:List ByteArray) (s t:ByteArray) (h:s≠t):idx6 t (L++[s])=if idx6 t L<L.length then idx6 t L else L.length+1:=by
 by_cases e:idx6 t L<L.length
 ·rw [if_pos e,idx6_append t L [s] e]
 ·rw [if_neg e]
  have hn:∀j (hj:j<(L++[s]).length),(L++[s])[j]≠t:=by
   intro j hj q
   have hm:t ∈ L++[s]:=q ▸ List.getElem_mem hj
   rcases List.mem_append.1 hm with hm|hm
   ·exact e ((idx6_mem t L).2 hm)
   ·simp at hm
    exact h hm.symm
  rw [idx6_no t _ hn]
  simp
theorem NumsIs.snoc {D:DataW Unit} {L:List ByteArray} (h:NumsIs D L) (s:ByteArray) (hs:¬idx6 s L<L.length):NumsIs (D.put (kS s) (iE (L.length:Nat))) (L++[s]):=by
 obtain ⟨hm,h⟩:=h
 refine ⟨hm.put _ _,fun t=>?_⟩
 by_cases e:s=t
 ·subst e
  have hi:idx6 s (L++[s])=L.length:=by
   have:=(pIntern_idx L s).2
   rw [show pIntern L s=L++[s] from if_neg hs] at this
   have hle:=idx6_le s L
   omega
  refine ⟨?_,fun _=>?_⟩
  ·rw [has_put_same hm (kS_is s)]
   simp [hi]
  ·rw [atKey_put_same hm (kS_is s),hi]
 ·have hi:=idx6_snoc L s t e
  obtain ⟨h1,h2⟩:=h t
  have hle:=idx6_le t L
  rw [has_put_other (kS_ne (fun q=>e q.symm)),h1]
  by_cases q:idx6 t L<L.length
  ·rw [if_pos q] at hi
   refine ⟨by rw [hi,decide_eq_true q,decide_eq_true (by simp;omega)],fun _=>?_⟩
   rw [atKey_put_other (kS_ne (fun q=>e q.symm)),h2 q,hi]
  ·rw [if_neg q] at hi
   refine ⟨by rw [hi,decide_eq_false q,decide_eq_false (by simp)],fun r=>?_⟩
   rw [hi] at r
   simp at r
structure Tb (w:World) (B g gm:Nat) (v:Value) (L:List ByteArray):Prop where
 cells:At3 161 w g v (.map (some gm)) (.int .i64 (sum6 L:Nat))
 own:w.ownsRow B 9 1 v L.length (tV L)
 map:∃D,w.ownsMap Tryz.prog 9 (plainElem Tryz.prog 3) gm L.length D∧NumsIs D L
 baseG:B≤g
 baseM:B≤gm
 gm_ne:gm≠g
 row_g:v.ownBlock≠some g
 row_m:v.ownBlock≠some gm
def TbS (g gm:Nat) (v:Value) (k:Nat):Prop:=k=g∨k=gm∨v.ownBlock=some k
theorem Tb.ge {w:World} {B g gm:Nat} {v:Value} {L:List ByteArray} (h:Tb w B g gm v L):∀k,TbS g gm v k→B≤k:=by
 intro k hk
 rcases hk with rfl|rfl|hk
 ·exact h.baseG
 ·exact h.baseM
 ·exact (h.own.lt k hk).1
theorem Tb.lt {w:World} {B g gm:Nat} {v:Value} {L:List ByteArray} (h:Tb w B g gm v L):∀k,TbS g gm v k→k<w.heap.size:=by
 intro k hk
 rcases hk with rfl|rfl|hk
 ·exact h.cells.lt
 ·obtain ⟨D,h1,_⟩:=h.map;exact h1.lt
 ·exact (h.own.lt k hk).2
theorem Tb.fr {S:Nat→Prop} {w w':World} {B g gm:Nat} {v:Value} {L:List ByteArray} (h:Tb w B g gm v L) (k:Fr S w w') (hs:∀i,TbS g gm v i→¬S i):Tb w' B g gm v L:=by
 obtain ⟨D,h1,h2⟩:=h.map
 exact ⟨h.cells.fr k (hs g (.inl rfl)),own_fr h.own k (fun r hr=>hs r (.inr (.inr hr))),⟨D,map_fr h1 k (hs gm (.inr (.inl rfl))),h2⟩,h.baseG,h.baseM,h.gm_ne,h.row_g,h.row_m⟩
theorem Tb.below {w w':World} {B g gm:Nat} {v:Value} {L:List ByteArray} (h:Tb w B g gm v L) (k:Below w.heap.size w w'):Tb w' B g gm v L:=h.fr (Fr.of_below (S:=fun _=>False) k) (fun _ _ q=>q)
theorem Tb.drewN {w:World} {B g gm:Nat} {v:Value} {L:List ByteArray} (h:Tb w B g gm v L) (n:Nat):Tb (w.drewN n) B g gm v L:=⟨h.cells,h.own,h.map,h.baseG,h.baseM,h.gm_ne,h.row_g,h.row_m⟩
theorem Tb.mono {w:World} {B C g gm:Nat} {v:Value} {L:List ByteArray} (h:Tb w B g gm v L) (hc:C≤B):Tb w C g gm v L:=by
 refine ⟨h.cells,⟨h.own.1,?_⟩,h.map,Nat.le_trans hc h.baseG,Nat.le_trans hc h.baseM,h.gm_ne,h.row_g,h.row_m⟩
 rcases h.own.2 with hv|⟨g,cap,cur,hv,h1,r⟩
 ·exact .inl hv
 ·exact .inr ⟨g,cap,cur,hv,Nat.le_trans hc h1,r⟩
set_option maxRecDepth 10000 in
set_option maxHeartbeats 400000 in
theorem tnew_any (w:World) :
  Calls Tryz.prog 62 #[] w fun e w'=>e=.returned (.pointer (some ⟨w.heap.size+1,0,none⟩))∧Tb w' w.heap.size (w.heap.size+1) w.heap.size (.slice none 0 0) []∧Below w.heap.size w w':=by
 have hmm:=@run_makeMap Tryz.prog
 go_enter Tryz.func62,Tryz.ntmps62
 go_wp2
 go_ret
 have hm:=World.ownsMap_made w Tryz.prog 9 (plainElem (H:=Unit) Tryz.prog 3)
 have ha:=At3.new (w.alloc (.map #[] 0)) 161 (.slice none 0 0) (.map (some w.heap.size)) (.int .i64 0)
 rw [show (w.alloc (.map #[] 0)).heap.size=w.heap.size+1 by simp] at ha
 refine ⟨rfl,⟨ha,⟨rfl,.inl ⟨rfl,rfl⟩⟩,⟨_,hm.alloc _,NumsIs.none⟩,by omega,Nat.le_refl _,by omega,by simp [Value.ownBlock],by simp [Value.ownBlock]⟩,((Below.refl _ _).alloc (Nat.le_refl _) _).alloc (by simp) _⟩
set_option maxRecDepth 10000 in
set_option maxHeartbeats 400000 in
theorem tlen_any {w:World} {B g gm:Nat} {v:Value} {L:List ByteArray} (h:Tb w B g gm v L) :
  Calls Tryz.prog 125 #[.pointer (some ⟨g,0,none⟩)] w fun e w'=>e=.returned (.int .i64 (L.length:Nat))∧w'=w:=by
 obtain ⟨ao,cap,rfl⟩:=own_shape6 h.own
 have c0:=h.cells.c0
 go_enter Tryz.func125,Tryz.ntmps125
 go_wp2
 go_ret
 exact ⟨rfl,rfl⟩
set_option maxRecDepth 10000 in
set_option maxHeartbeats 400000 in
theorem tat_in {w:World} {B g gm:Nat} {v:Value} {L:List ByteArray} (h:Tb w B g gm v L) (n:Nat) (hn:n<L.length) :
  Calls Tryz.prog 175 #[.pointer (some ⟨g,0,none⟩),.int .i64 n] w fun e w'=>e=.returned (.tuple #[.string (L[n]'hn),.bool true])∧w'=w:=by
 obtain ⟨ao,cap,rfl⟩:=own_shape6 h.own
 have hown:=h.own
 obtain ⟨gk,hga,hgt⟩:=own_texts hown rfl
 obtain rfl:=hga (by omega)
 have c0:=h.cells.c0
 obtain ⟨hlt,d0⟩:=hgt n hn
 rw [Nat.zero_add] at d0
 have hn':(n:Int)<L.length:=by omega
 generalize L[n]=s at *
 clear hown hgt
 go_enter Tryz.func175,Tryz.ntmps175
 go_wp2
 go_ret2
 exact ⟨rfl,rfl⟩
set_option maxRecDepth 10000 in
set_option maxHeartbeats 400000 in
theorem tat_out {w:World} {B g gm:Nat} {v:Value} {L:List ByteArray} (h:Tb w B g gm v L) (n:Int) (hn:n<0∨(L.length:Int)≤n) :
  Calls Tryz.prog 175 #[.pointer (some ⟨g,0,none⟩),.int .i64 n] w fun e w'=>e=.returned (.tuple #[.string ⟨#[]⟩,.bool false])∧w'=w:=by
 obtain ⟨ao,cap,rfl⟩:=own_shape6 h.own
 have c0:=h.cells.c0
 rcases hn with hn|hn
 ·go_enter Tryz.func175,Tryz.ntmps175
  go_wp2
  go_ret2
  exact ⟨rfl,rfl⟩
 ·by_cases h0:n<0
  ·go_enter Tryz.func175,Tryz.ntmps175
   go_wp2
   go_ret2
   exact ⟨rfl,rfl⟩
  ·go_enter Tryz.func175,Tryz.ntmps175
   go_wp2
   go_ret2
   exact ⟨rfl,rfl⟩
theorem At3.set0 {T:TypeId} {w:World} {g:Nat} {x y z:Value} (h:At3 T w g x y z) (v:Value):At3 T (w.setCell ⟨g,0,none⟩ v) g v y z:=by
 have h':w.heap[g]? = _:=h
 unfold At3 World.setCell
 simp [Array.getElem?_modify,h']
set_option maxRecDepth 10000 in
set_option maxHeartbeats 400000 in
theorem tadd_any {w:World} {B g gm:Nat} {v:Value} {L:List ByteArray} (h:Tb w B g gm v L) (s:ByteArray) (hx:¬idx6 s L<L.length) (hs:s.size≤1000000000) (hl:L.length≤1000000) (hm:sum6 L≤1000000000) :
  Calls Tryz.prog 148 #[.pointer (some ⟨g,0,none⟩),.string s] w fun e w'=>e=.returned (.int .i64 (L.length:Nat))∧
   ∃v',Tb w' B g gm v' (L++[s])∧Fr (TbS g gm v) w w'∧∀k,TbS g gm v' k→TbS g gm v k∨w.heap.size≤k:=by
 obtain ⟨ao,cap,rfl⟩:=own_shape6 h.own
 obtain ⟨i0,hi,hz0,hz1,hz2⟩:=info_parts Tryz.infoS6
 have c0:=h.cells.c0
 obtain ⟨D,hmap,HD⟩:=h.map
 have HD':Hid (NumsIs (D.put (kS s) (iE (L.length:Nat))) (L++[s])):=HD.snoc s hx
 have hkey:=kS_key s (by unfold maxLen;omega)
 have hwf:(Lit.int .i64 (L.length:Nat)).wf=true:=WalkArith.wf_i64 (by omega)
 have HS:Hid (sum6 (L++[s])=sum6 L+s.size):=by show _=_;rw [sum6_append];simp [sum6]
 clear HD hx
 go_enter Tryz.func148,Tryz.ntmps148
 go_wp2_with (at_builtin;refine wpList_append_lies _ rfl (.tmp 15) (.tmp 17) 59 rfl B 9 i0 (.string ⟨#[]⟩) 1 16 Tryz.underlying59 hi hz0 hz1 hz2 rfl (by decide) _ L.length (tV L) rfl (h.own.alloc _) ⟨w.heap.size,0,none⟩ 1 1 [.string s] rfl rfl (cell_one_new _ _ _) (by intro u hu;simp at hu;subst hu;rfl) (by decide) (by unfold maxLen;omega) (by omega) (by have:=h.baseG;have:=h.cells.lt;simp;omega) _ rfl ?_)
 intro g2 cap2 w2 hown2 hgrow2 hlie hlt2
 have a2:=(h.cells.alloc (.cells #[.string s] 9)).kept hgrow2 (fun e=>h.row_g e.symm)
 have m2:=(hmap.alloc (.cells #[.string s] 9)).kept hgrow2 (fun e=>h.row_m e.symm)
 have d0:=a2.c0
 have f0:=a2.fz 0
 have g2g:g2≠g:=by
  have h1:=h.cells.lt
  rcases hlie with e|e
  ·intro q;subst q;exact h.row_g e
  ·omega
 have g2m:g2≠gm:=by
  have h1:=hmap.lt
  rcases hlie with e|e
  ·intro q;subst q;exact h.row_m e
  ·omega
 have a3:=a2.set0 (.slice (some ⟨g2,0,none⟩) (L.length+1) cap2)
 have m3:=m2.setCell (a:=⟨g,0,none⟩) h.gm_ne (.slice (some ⟨g2,0,none⟩) (L.length+1) cap2)
 have o3:(w2.setCell ⟨g,0,none⟩ (.slice (some ⟨g2,0,none⟩) (L.length+1) cap2)).ownsRow B 9 1 (.slice (some ⟨g2,0,none⟩) (L.length+1) cap2) (L.length+1) (tV L++[.string s]):=own_fr hown2 ((Fr.refl (fun k=>k=g) w2).set ⟨g,0,none⟩ rfl _) (fun r hr=>by simp [Value.ownBlock] at hr;omega)
 have F3:Fr (TbS g gm (.slice ao L.length cap)) w (w2.setCell ⟨g,0,none⟩ (.slice (some ⟨g2,0,none⟩) (L.length+1) cap2)):=
  ((Fr.of_below ((Below.refl _ _).alloc (Nat.le_refl _) (.cells #[.string s] 9))).trans (Fr.of_grown hgrow2 (fun k hk=>.inr (.inr hk))) (fun _ q _=>q)).set ⟨g,0,none⟩ (.inl rfl) _
 have d1:=a2.c1
 clear a2 m2 hown2 hgrow2
 go_wp2_with (at_mapUpdate;refine wpList_mapUpdate_own _ rfl _ _ _ 159 rfl 9 3 lawS6 Tryz.underlying159 _ gm L.length D rfl m3 (by unfold maxLen;omega) _ _ _ rfl rfl hkey _ [] (plainElem_int Tryz.underlying3 hwf) ?_)
 intro w4 m4 hgrow4
 have a4:=a3.kept hgrow4 (by simp;exact fun e=>h.gm_ne e.symm)
 have d2:=a4.c2
 have f2:=a4.fz 2
 have o4:=own_fr o3 (Fr.of_grown (S:=fun k=>k=gm) hgrow4 (fun k hk=>by cases hk;rfl)) (fun r hr=>by simp [Value.ownBlock] at hr;omega)
 have F4:=F3.trans (Fr.of_grown (S:=fun k=>k=gm) hgrow4 (fun k hk=>by cases hk;rfl)) (fun i hi _=>.inr (.inl hi))
 have B4:=F4.size
 clear a3 m3 o3 F3 d0 d1 f0 hgrow4
 go_wp2_with fail
 go_ret
 have hlen:(L++[s]).length=L.length+1:=by simp
 refine ⟨rfl,.slice (some ⟨g2,0,none⟩) (L.length+1) cap2,⟨?_,?_,⟨_,?_,HD'.out⟩,h.baseG,h.baseM,h.gm_ne,by simp [Value.ownBlock];exact g2g,by simp [Value.ownBlock];exact g2m⟩,F4.set ⟨g,2,none⟩ (.inl rfl) _,?_⟩
 ·rw [HS.out]
  exact a4.set2 _
 ·rw [hlen]
  have:=own_fr o4 ((Fr.refl (fun k=>k=g) w4).set ⟨g,2,none⟩ rfl (.int .i64 ((sum6 L:Nat)+(s.size:Int)))) (fun r hr=>by simp [Value.ownBlock] at hr;omega)
  simpa [tV] using this
 ·rw [hlen]
  exact m4.setCell (a:=⟨g,2,none⟩) h.gm_ne _
 ·intro k hk
  rcases hk with rfl|rfl|hk
  ·exact .inl (.inl rfl)
  ·exact .inl (.inr (.inl rfl))
  ·simp [Value.ownBlock] at hk
   subst hk
   rcases hlie with e|e
   ·exact .inl (.inr (.inr e))
   ·exact .inr (by omega)
def TIn (w w':World) (B g gm:Nat) (v:Value) (L:List ByteArray):Prop:=
 ∃v',Tb w' B g gm v' L∧Fr (TbS g gm v) w w'∧∀k,TbS g gm v' k→TbS g gm v k∨w.heap.size≤k
set_option maxRecDepth 10000 in
set_option maxHeartbeats 400000 in
theorem tintern_any {w:World} {B g gm:Nat} {v:Value} {L:List ByteArray} (h:Tb w B g gm v L) (s:ByteArray) (hs:s.size≤1000000000) (hl:L.length≤1000000) (hm:sum6 L≤1000000000) :
  Calls Tryz.prog 118 #[.pointer (some ⟨g,0,none⟩),.string s] w fun e w'=>e=.returned (.int .i64 (idx6 s L:Nat))∧TIn w w' B g gm v (pIntern L s):=by
 have c1:=h.cells.c1
 obtain ⟨D,hmap,HD⟩:=h.map
 obtain ⟨h1,h2⟩:=HD.2 s
 have hkey:=kS_key s (by unfold maxLen;omega)
 by_cases hx:idx6 s L<L.length
 ·rw [decide_eq_true hx] at h1
  have h3:Hid _:=h2 hx
  rw [show pIntern L s=L from if_pos hx]
  clear h2 HD
  go_enter Tryz.func118,Tryz.ntmps118
  go_wp2_with (at_lookup;refine wpList_lookup_own_ok_int _ rfl _ _ 159 rfl 9 3 .i64 lawS6 Tryz.underlying159 Tryz.underlying3 (zeroI6 _) gm L.length D rfl hmap _ _ rfl hkey ?_;intro c hat hwc;obtain rfl:c=(idx6 s L:Nat):=by (have:=hat.symm.trans h3.out;injection this with this;injection this))
  go_ret
  exact ⟨rfl,v,h,Fr.refl _ _,fun k hk=>.inl hk⟩
 ·rw [decide_eq_false hx] at h1
  have hle:=idx6_le s L
  rw [show pIntern L s=L++[s] from if_neg hx,show idx6 s L=L.length by omega]
  have HA:Hid (∀w',Below w.heap.size w w'→Calls Tryz.prog 148 #[.pointer (some ⟨g,0,none⟩),.string s] w' fun e w''=>e=.returned (.int .i64 (L.length:Nat))∧TIn w' w'' B g gm v (L++[s])):=fun w' hb=>tadd_any (h.below hb) s hx hs hl hm
  clear h2 HD hx hle
  go_enter Tryz.func118,Tryz.ntmps118
  go_wp2_with (at_lookup;refine wpList_lookup_own_ok_int _ rfl _ _ 159 rfl 9 3 .i64 lawS6 Tryz.underlying159 Tryz.underlying3 (zeroI6 _) gm L.length D rfl hmap _ _ rfl hkey ?_;intro c hat hwc;clear hat)
  refine (clone_any s _ (by omega)).mono ?_
  rintro e w1 ⟨rfl,hb⟩
  go_wp2_with fail
  refine (HA.out w1 hb).mono ?_
  rintro e w2 ⟨rfl,v',ht,hf,hn⟩
  go_wp2_with fail
  go_ret
  refine ⟨rfl,v',ht,(Fr.of_below hb).trans hf (fun _ q _=>q),fun k hk=>(hn k hk).imp id (fun q=>Nat.le_trans hb.size q)⟩
end Go.Proofs.YtcgjgjjegnofeaaGreatDoor
namespace Go.Proofs.YtcgjgjjegnofeaaGreatDoor
open Go.RowKit
theorem Tryz.infoB:(Tryz.prog.info? 102).map (fun i=>i.size)=some 2:=by kernel_rfl
theorem Tryz.infoU:(Tryz.prog.info? 5).map (fun i=>(i.zero,i.size,i.bytes))=some (some (.int .u8 0),1,1):=by kernel_rfl
theorem Tryz.liesB:liesAt Tryz.prog Tryz.prog.depth 102 (2 / Tryz.prog.cellsOf 102) 0 102 1=true:=by kernel_rfl
def Bu (B g:Nat) (l:List UInt8) (w:World):Prop:=Lib.IsBuilder 102 5 B g (bV l) w
def Kept (g:Nat) (w w':World):Prop:=Lib.OthersKept 5 (some g) w w'
theorem buAt_below {B g:Nat} {p:Value} {bs:List Value} {w w':World} (h:Lib.BuilderAt 102 5 B g p bs w) (hb:Below w.heap.size w w'):Lib.BuilderAt 102 5 B g p bs w':=by
 obtain ⟨hB,v,hg,hown,hne⟩:=h
 have hlt:g<w.heap.size:=(Array.getElem?_eq_some_iff.1 hg).1
 refine ⟨hB,v,(hb.block g hlt).trans hg,hown.kept (gbelow (row:=none) hb) ?_,hne⟩
 cases h:v.ownBlock
 ·exact .inl rfl
 ·exact .inr (by simp)
theorem Bu.below {B g:Nat} {l:List UInt8} {w w':World} (h:Bu B g l w) (hb:Below w.heap.size w w'):Bu B g l w':=by
 rcases h with h|h
 ·exact .inl (buAt_below h hb)
 ·exact .inr (buAt_below h hb)
theorem Bu.alloc {B g:Nat} {l:List UInt8} {w:World} (h:Bu B g l w) (o:Obj):Bu B g l (w.alloc o):=h.below ((Below.refl _ _).alloc (Nat.le_refl _) o)
theorem Bu.new (w:World):Bu w.heap.size w.heap.size [] (w.alloc (.cells #[.pointer none,.slice none 0 0] 102)):=Lib.fresh_isBuilder _ _ w
theorem Bu.lt {B g:Nat} {l:List UInt8} {w:World} (h:Bu B g l w):g<w.heap.size:=by
 rcases h with h|h
 ·exact h.lt
 ·exact h.lt
theorem Kept.two {g:Nat} {w w':World} (h:Kept g w w') {k:Nat} {cs:Array Value} {T:TypeId} (hk:w.heap[k]? = some (.cells cs T (0,0))) (hg:k≠g) (hT:T≠5):w'.heap[k]? = some (.cells cs T (0,0)):=
 h k _ hk (by simpa using hg) (fun c fz e=>hT (by cases e;rfl))
set_option maxRecDepth 10000 in
set_option maxHeartbeats 400000 in
theorem check_old (g:Nat) (w:World) (h0:w.cell? ⟨g,0,none⟩=some (.pointer (some ⟨g,0,none⟩))) :
  Calls Tryz.prog 114 #[.pointer (some ⟨g,0,none⟩)] w fun e w'=>e=.returned (.tuple #[])∧w'=w:=by
 obtain ⟨j,hj,_⟩:=Option.map_eq_some_iff.1 Tryz.infoB
 have hn:=Lib.run_neq_ptr_same (P:=Tryz.prog) w ⟨g,0,none⟩ Tryz.underlying100 hj
 clear hj
 go_enter Tryz.func114,Tryz.ntmps114
 go_wp2
 go_end0
 exact ⟨rfl,rfl⟩
set_option maxRecDepth 10000 in
set_option maxHeartbeats 400000 in
theorem check_new (g:Nat) (w:World) (h0:w.cell? ⟨g,0,none⟩=some (.pointer none)) (hsh:w.shape? g=some (102,2)) (hfz:w.frozen? ⟨g,0,none⟩=false) :
  Calls Tryz.prog 114 #[.pointer (some ⟨g,0,none⟩)] w fun e w'=>e=.returned (.tuple #[])∧w'=w.setCell ⟨g,0,none⟩ (.pointer (some ⟨g,0,none⟩)):=by
 obtain ⟨j,hj,hjs⟩:=Option.map_eq_some_iff.1 Tryz.infoB
 have r1:=Lib.run_to_unsafe (P:=Tryz.prog) w ⟨g,0,none⟩ Tryz.underlying100 Tryz.underlying200 hj (by rw [hjs];decide) hsh (Nat.zero_lt_succ 1)
 have r3:=Lib.run_from_unsafe (P:=Tryz.prog) w ⟨g,0,none⟩ Tryz.underlying200 Tryz.underlying100 hj hsh Tryz.liesB
 clear hj
 go_enter Tryz.func114,Tryz.ntmps114
 go_wp2
 rw [run_callFunc_extern Tryz.func147 (by kernel_rfl) (by kernel_rfl) (by kernel_rfl) (e:=Extern.AbiNoEscape.same) (by kernel_rfl),Lib.run_noEscape]
 simp only [Result.andThen]
 rw [Oper.upon_value]
 go_wp2
 go_end0
 exact ⟨rfl,rfl⟩
theorem bcheck_any (B g:Nat) (bs:List Value) (w:World) (h:Lib.IsBuilder 102 5 B g bs w) :
  Calls Tryz.prog 114 #[.pointer (some ⟨g,0,none⟩)] w fun e w'=>e=.returned (.tuple #[])∧Lib.BuilderAt 102 5 B g (.pointer (some ⟨g,0,none⟩)) bs w'∧Below B w w'∧Kept g w w':=by
 rcases h with h|h
 ·refine (check_new g w h.cell0 h.shape h.frozen0).mono ?_
  rintro e w' ⟨rfl,rfl⟩
  exact ⟨rfl,h.used _,(Below.refl B w).setCell (p:=⟨g,0,none⟩) h.1 _,(Lib.OthersKept.refl _ _ w).setCell ⟨g,0,none⟩ rfl _⟩
 ·refine (check_old g w h.cell0).mono ?_
  rintro e w' ⟨rfl,rfl⟩
  exact ⟨rfl,h,Below.refl _ _,Lib.OthersKept.refl _ _ _⟩
theorem own_kind {w:World} {B:Nat} {e:TypeId} {v:Value} {n:Nat} {xs:List Value} (h:w.ownsRow B e 1 v n xs):∀g,v.ownBlock=some g→∃c fz,w.heap[g]? = some (.cells c e fz):=by
 intro g hg
 rcases h.2 with ⟨rfl,_⟩|⟨g',cap,cur,rfl,_,hgg,_⟩
 ·simp [Value.ownBlock] at hg
 ·simp [Value.ownBlock] at hg
  subst hg
  exact ⟨cur,_,hgg⟩
theorem own_form {w:World} {B:Nat} {e:TypeId} {v:Value} {n:Nat} {xs:List Value} (h:w.ownsRow B e 1 v n xs):∃ao cap,v=.slice ao n cap:=by
 rcases h.2 with ⟨rfl,rfl⟩|⟨g',cap,cur,rfl,_⟩
 ·exact ⟨none,0,rfl⟩
 ·exact ⟨_,cap,rfl⟩
set_option maxRecDepth 10000 in
set_option maxHeartbeats 400000 in
theorem wbyte_any (B g:Nat) (l:List UInt8) (c:Nat) (w:World) (h:Bu B g l w) (hc:c<256) (hlen:l.length+1≤140737488355328) (hBw:B≤w.heap.size) :
  Calls Tryz.prog 70 #[.pointer (some ⟨g,0,none⟩),.int .u8 c] w fun e w'=>e=.returned .nilIface∧Bu B g (l++[UInt8.ofNat c]) w'∧Below B w w'∧Kept g w w':=by
 obtain ⟨i0,hi,hz0,hz1,hz2⟩:=info_parts Tryz.infoU
 have hl:(bV l).length=l.length:=bV_length l
 go_enter Tryz.func70,Tryz.ntmps70
 go_wp2_with fail
 refine (bcheck_any B g (bV l) _ h).mono ?_
 rintro e w1 ⟨rfl,h1,hb1,hk1⟩
 obtain ⟨hB,v,hbk,hown,hne⟩:=h1
 have hs1:=hb1.size
 have hlt:g<w1.heap.size:=(Array.getElem?_eq_some_iff.1 hbk).1
 have c0:w1.cell? ⟨g,0,none⟩=some (.pointer (some ⟨g,0,none⟩)):=by rw [Lib.cell_of_heap hbk];rfl
 have c1:w1.cell? ⟨g,1,none⟩=some v:=by rw [Lib.cell_of_heap hbk];rfl
 go_wp2_with (at_builtin;refine wpList_append_own _ rfl _ _ 90 rfl B 5 i0 (.int .u8 0) 1 1 Tryz.underlying90 hi hz0 hz1 hz2 rfl (by decide) _ _ _ rfl (hown.alloc _) ⟨w1.heap.size,0,none⟩ 1 1 [.int .u8 (c:Int)] rfl rfl (cell_one_new _ _ _) ?c2 ?c3 ?c4 ?c5 ?_)
 case c2=>intro u hu;simp at hu;subst hu;rfl
 case c3=>unfold maxLen;omega
 case c4=>omega
 case c5=>simp;omega
 intro v' w2 hown' hgrow _
 have hb2:w2.heap[g]? = some (.cells #[.pointer (some ⟨g,0,none⟩),v] 102 (0,0)):=by
  rw [hgrow.block g (by simp;omega) (fun e=>hne e.symm),Lib.alloc_old w1 _ g hlt]
  exact hbk
 have d0:w2.cell? ⟨g,0,none⟩=some (.pointer (some ⟨g,0,none⟩)):=by rw [Lib.cell_of_heap hb2];rfl
 have d1:w2.cell? ⟨g,1,none⟩=some v:=by rw [Lib.cell_of_heap hb2];rfl
 have f1:w2.frozen? ⟨g,1,none⟩=false:=Lib.frozen_of_heap hb2 1
 obtain ⟨ao,cap,rfl⟩:=own_form hown'
 go_wp2_with fail
 go_ret
 have hkind:=own_kind (hown.alloc (.cells #[.int .u8 (c:Int)] 5))
 refine ⟨rfl,.inr ?_,?_,?_⟩
 ·rw [bV_snoc l c hc]
  exact Lib.BuilderAt.put (T:=102) (e:=5) hB hb2 (bs':=bV l++[.int .u8 (c:Int)]) (by simpa [bV_length] using hown') (by decide)
 ·exact ((hb1.alloc (by omega) _).grown hgrow (by simp;omega) (fun k hk=>(hown.lt k hk).1)).setCell (p:=⟨g,1,none⟩) hB _
 ·exact ((hk1.alloc _).grown hgrow hkind).setCell ⟨g,1,none⟩ rfl _
set_option maxRecDepth 10000 in
set_option maxHeartbeats 400000 in
theorem wstr_any (B g:Nat) (l:List UInt8) (s:ByteArray) (w:World) (h:Bu B g l w) (hlen:l.length+s.size≤140737488355328) (hBw:B≤w.heap.size) :
  Calls Tryz.prog 63 #[.pointer (some ⟨g,0,none⟩),.string s] w fun e w'=>e=.returned (.tuple #[.int .i64 s.size,.nilIface])∧Bu B g (l++s.data.toList) w'∧Below B w w'∧Kept g w w':=by
 obtain ⟨i0,hi,hz0,hz1,hz2⟩:=info_parts Tryz.infoU
 have hl:(bV l).length=l.length:=bV_length l
 go_enter Tryz.func63,Tryz.ntmps63
 go_wp2_with fail
 refine (bcheck_any B g (bV l) _ h).mono ?_
 rintro e w1 ⟨rfl,h1,hb1,hk1⟩
 obtain ⟨hB,v,hbk,hown,hne⟩:=h1
 have hs1:=hb1.size
 have hlt:g<w1.heap.size:=(Array.getElem?_eq_some_iff.1 hbk).1
 have c0:w1.cell? ⟨g,0,none⟩=some (.pointer (some ⟨g,0,none⟩)):=by rw [Lib.cell_of_heap hbk];rfl
 have c1:w1.cell? ⟨g,1,none⟩=some v:=by rw [Lib.cell_of_heap hbk];rfl
 go_wp2_with (at_builtin;refine Lib.wpList_append_own_string _ rfl _ _ 90 9 rfl B 5 i0 Tryz.underlying90 Tryz.underlying9 hi hz0 hz1 hz2 _ _ _ rfl hown s rfl ?c3 ?c4 ?c5 ?_)
 case c3=>unfold maxLen;omega
 case c4=>omega
 case c5=>omega
 intro v' w2 hown' hgrow _
 have hb2:w2.heap[g]? = some (.cells #[.pointer (some ⟨g,0,none⟩),v] 102 (0,0)):=by
  rw [hgrow.block g hlt (fun e=>hne e.symm)]
  exact hbk
 have d0:w2.cell? ⟨g,0,none⟩=some (.pointer (some ⟨g,0,none⟩)):=by rw [Lib.cell_of_heap hb2];rfl
 have d1:w2.cell? ⟨g,1,none⟩=some v:=by rw [Lib.cell_of_heap hb2];rfl
 have f1:w2.frozen? ⟨g,1,none⟩=false:=Lib.frozen_of_heap hb2 1
 obtain ⟨ao,cap,rfl⟩:=own_form hown'
 go_wp2_with fail
 go_ret2
 have hkind:=own_kind hown
 refine ⟨rfl,.inr ?_,?_,?_⟩
 ·rw [bV_append]
  exact Lib.BuilderAt.put (T:=102) (e:=5) hB hb2 (bs':=bV l++Lib.strCells s) (by simpa [Lib.strCells_length,bV_length] using hown') (by decide)
 ·exact (hb1.grown hgrow (by omega) (fun k hk=>(hown.lt k hk).1)).setCell (p:=⟨g,1,none⟩) hB _
 ·exact (hk1.grown hgrow hkind).setCell ⟨g,1,none⟩ rfl _
set_option maxRecDepth 10000 in
set_option maxHeartbeats 400000 in
theorem bstr_any (B g:Nat) (l:List UInt8) (w:World) (h:Bu B g l w) (h0:l≠[]) :
  Calls Tryz.prog 67 #[.pointer (some ⟨g,0,none⟩)] w fun e w'=>e=.returned (.string ⟨l.toArray⟩)∧Below B w w':=by
 obtain ⟨p,hB,v,hbk,hown,hne⟩:∃p,Lib.BuilderAt 102 5 B g p (bV l) w:=by
  rcases h with h|h
  ·exact ⟨_,h⟩
  ·exact ⟨_,h⟩
 have hl0:l.length≠0:=by simpa using h0
 rw [bV_length] at hown
 obtain ⟨k,cap,cur,rfl,hbg,hg,hnc,hcm,hcs,htake⟩:∃k cap cur,v=.slice (some ⟨k,0,none⟩) l.length cap∧B≤k∧w.heap[k]? = some (.cells cur 5 (0,0))∧l.length≤cap∧cap≤maxLen∧cur.size=cap*1∧cur.toList.take (l.length*1)=bV l:=by
  rcases hown.2 with ⟨_,hz⟩|⟨k,cap,cur,hv,r⟩
  ·exact absurd hz hl0
  ·exact ⟨k,cap,cur,hv,r⟩
 have hg':w.drew.heap[k]? = some (.cells cur 5 (0,0)):=hg
 have hbk':w.drew.heap[g]? = some (.cells #[p,.slice (some ⟨k,0,none⟩) l.length cap] 102 (0,0)):=hbk
 have c1:w.drew.cell? ⟨g,1,none⟩=some (.slice (some ⟨k,0,none⟩) l.length cap):=by rw [Lib.cell_of_heap hbk'];rfl
 have hSD:(Builtin.unsafeSliceData_ #[90] 167 #[.slice (some ⟨k,0,none⟩) l.length cap]).run Tryz.prog w.drew=.ok (.pointer (some ⟨k,0,none⟩)) w.drew:=
  Lib.run_unsafeSliceData_row _ _ _ _ _ _ (by omega)
 have hUS:(Builtin.unsafeString_ #[167,3] 9 #[.pointer (some ⟨k,0,none⟩),.int .i64 l.length]).run Tryz.prog w.drew=.ok (.string ⟨l.toArray⟩) (w.drew.freeze ⟨k,0,none⟩ l.length):=by
  refine Lib.run_unsafeString_row w.drew 167 3 9 5 Tryz.underlying167 (by kernel_rfl) k cur.size (by simp [World.shape?,hg']) l h0 (by omega) (by unfold maxLen at hcm;omega) ?_
  intro j x hx
  have:=hown.cells (g:=k) rfl j (.int .u8 x.toNat) (by simp [bV,hx])
  exact this
 clear hcs htake hnc hcm hg hbk hg' hbk' hown hne
 go_enter Tryz.func67,Tryz.ntmps67
 go_wp2
 go_region
 all_goals
  go_wp2
  go_ret
  exact ⟨rfl,Lib.below_freeze (Below.drew (Below.refl B w)) (p:=⟨k,0,none⟩) hbg _⟩
end Go.Proofs.YtcgjgjjegnofeaaGreatDoor
