import Derived.Deep.RegionHeld3
import Derived.Test.YtgoffkfpdigeeaaDoorP08
import Derived.Lib.Strings
import Derived.Deep.AppendLies
import Derived.Deep.RegionLaw
import Derived.Laws.OwnMore
import Derived.Test.YtgoffkfpdigeeaaDoorP06
import Derived.Test.YtgoffkfpdigeeaaDoorP07
import Derived.Test.YtgoffkfpdigeeaaDoorP05
import Derived.Test.YtgoffkfpdigeeaaDoorP03
import Derived.Deep.CutBlock
import Derived.Deep.DeepCutAuto
import Derived.Test.YtgoffkfpdigeeaaDoorP04
namespace Go.Proofs.YtgoffkfpdigeeaaDoor
open Go.RowKit
end Go.Proofs.YtgoffkfpdigeeaaDoor
namespace Go.Proofs.YtgoffkfpdigeeaaDoor
open Go.RowKit
end Go.Proofs.YtgoffkfpdigeeaaDoor
namespace Go.Proofs.YtgoffkfpdigeeaaDoor
open Go.RowKit
def rI (l:List Int):List UInt8:=l.flatMap fun z=>put (zig z).toNat
theorem flat_take {α : Type} (f : α→List UInt8) (l:List α) (d : α) (i:Nat) (h:i<l.length):(l.take (i+1)).flatMap f=(l.take i).flatMap f++f (l.getD i d):=by
 rw [List.take_add_one,List.getElem?_eq_getElem h,List.flatMap_append,List.getD_eq_getElem?_getD,List.getElem?_eq_getElem h]
 simp
theorem flat_ten {α : Type} (f : α→Nat) (l:List α):(l.flatMap fun z=>put (f z)).length≤10*l.length:=by
 induction l with
 | nil=>simp
 | cons x r ih=>
  have:=(put_length (f x)).2
  rw [List.flatMap_cons,List.length_append,List.length_cons]
  omega
end Go.Proofs.YtgoffkfpdigeeaaDoor
namespace Go.Proofs.YtgoffkfpdigeeaaDoor
open Go.RowKit
end Go.Proofs.YtgoffkfpdigeeaaDoor
namespace Go.Proofs.YtgoffkfpdigeeaaDoor
open Go.RowKit
def fl (e d:Int):Int:=if e=0 then d else e
def gIs (b:ByteArray):List Int→Nat→Int→List Int × Nat × Int
 | [],k,e=>([],k,e)
 | c :: r,k,e=>if e≠0 then ([],k,e) else
  ((pInt b k e).1 :: (gIs b r (pInt b k e).2.1 (if in7 c (pInt b k e).1=true then (pInt b k e).2.2 else fl (pInt b k e).2.2 10)).1,
   (gIs b r (pInt b k e).2.1 (if in7 c (pInt b k e).1=true then (pInt b k e).2.2 else fl (pInt b k e).2.2 10)).2)
def gTs (b:ByteArray) (L:List ByteArray):Nat→Nat→Int→List ByteArray × Nat × Int
 | 0,k,e=>([],k,e)
 | n+1,k,e=>if e≠0 then ([],k,e) else
  if (pUint b k e 16777216).2.2≠0 then ([],(pUint b k e 16777216).2.1,(pUint b k e 16777216).2.2)
  else if (L.length:Int)≤(pUint b k e 16777216).1 then ([],(pUint b k e 16777216).2.1,13)
  else (L.getD (pUint b k e 16777216).1.toNat noT :: (gTs b L n (pUint b k e 16777216).2.1 0).1,(gTs b L n (pUint b k e 16777216).2.1 0).2)
def gKs (b:ByteArray) (p:Int):Nat→Nat→Int→List Int × Nat × Int
 | 0,k,e=>([],k,e)
 | n+1,k,e=>if e≠0 then ([],k,e) else
  (wrap64 (p-(pUint b k e 16777216).1) :: (gKs b p n (pUint b k e 16777216).2.1 (if (pUint b k e 16777216).1<1∨p<(pUint b k e 16777216).1 then fl (pUint b k e 16777216).2.2 13 else (pUint b k e 16777216).2.2)).1,
   (gKs b p n (pUint b k e 16777216).2.1 (if (pUint b k e 16777216).1<1∨p<(pUint b k e 16777216).1 then fl (pUint b k e 16777216).2.2 13 else (pUint b k e 16777216).2.2)).2)
theorem gIs_at (b:ByteArray):∀(C:List Int) (k:Nat) (e:Int),k≤b.size→k≤(gIs b C k e).2.1∧(gIs b C k e).2.1≤b.size
 | [],k,e,h=>⟨Nat.le_refl _,h⟩
 | c :: r,k,e,h=>by
  unfold gIs
  split
  ·exact ⟨Nat.le_refl _,h⟩
  ·have h1:=pInt_at b k e h
   have h2:=gIs_at b r (pInt b k e).2.1 (if in7 c (pInt b k e).1=true then (pInt b k e).2.2 else fl (pInt b k e).2.2 10) h1.2
   exact ⟨by dsimp only;omega,h2.2⟩
theorem gIs_stop (b:ByteArray) (C:List Int) (k:Nat) {e:Int} (h:e≠0):gIs b C k e=([],k,e):=by
 cases C with
 | nil=>rfl
 | cons c r=>unfold gIs;rw [if_pos h]
theorem gTs_stop (b:ByteArray) (L:List ByteArray) (n k:Nat) {e:Int} (h:e≠0):gTs b L n k e=([],k,e):=by
 cases n with
 | zero=>rfl
 | succ n=>unfold gTs;rw [if_pos h]
theorem gKs_stop (b:ByteArray) (p:Int) (n k:Nat) {e:Int} (h:e≠0):gKs b p n k e=([],k,e):=by
 cases n with
 | zero=>rfl
 | succ n=>unfold gKs;rw [if_pos h]
theorem pUint_top (b:ByteArray) (k:Nat) (e m:Int):0≤(pUint b k e m).1∧(pUint b k e m).1≤16777216∧((pUint b k e m).2.2≠0→(pUint b k e m).1=0):=by
 unfold pUint
 split
 ·exact ⟨by simp,by simp,fun _=>rfl⟩
 ·split
  ·exact ⟨by simp,by simp,fun _=>rfl⟩
  ·split
   ·exact ⟨by simp,by simp,fun _=>rfl⟩
   ·exact ⟨by dsimp only;omega,by dsimp only;omega,fun q=>absurd rfl q⟩
theorem pInt_top (b:ByteArray) (k:Nat) (e:Int) (hk:k≤b.size) : -9223372036854775808≤(pInt b k e).1∧(pInt b k e).1≤9223372036854775807:=by
 unfold pInt
 split
 ·exact ⟨by simp,by simp⟩
 ·split
  ·exact ⟨by simp,by simp⟩
  ·rename_i h
   have h1:=num_ok b k (by omega) hk
   exact zag_range _ (by omega) (by omega)
end Go.Proofs.YtgoffkfpdigeeaaDoor
namespace Go.Proofs.YtgoffkfpdigeeaaDoor
open Go.RowKit
theorem row_kept {w w':World} {B:Nat} {e:TypeId} {n:Nat} {v:Value} {xs:List Value} {row:Option Nat} (ho:w.ownsRow B e 1 v n xs) (hg:w.grownBy w' row) (hr:v.ownBlock=none∨v.ownBlock≠row):w'.ownsRow B e 1 v n xs:=ho.kept hg hr
theorem row_low {w:World} {B:Nat} {e:TypeId} {n:Nat} {v:Value} {xs:List Value} {row:Option Nat} (ho:w.ownsRow B e 1 v n xs) (hr:∀k,row=some k→k<B):v.ownBlock=none∨v.ownBlock≠row:=by
 cases hv:v.ownBlock with
 | none=>exact .inl rfl
 | some q=>exact .inr (fun e=>by have:=(ho.lt q hv).1;have:=hr q e.symm;omega)
end Go.Proofs.YtgoffkfpdigeeaaDoor
namespace Go.Proofs.YtgoffkfpdigeeaaDoor
open Go.RowKit
theorem own_nil (w:World) (B:Nat) (e:TypeId):w.ownsRow B e 1 (.slice none 0 0) 0 []:=⟨rfl,.inl ⟨rfl,rfl⟩⟩
theorem gIs_next (b:ByteArray) (C:List Int) (i k:Nat) (h:i<C.length) {q:Int} {k3:Nat} {e3:Int} (hq:pInt b k 0=(q,k3,e3)) :
  gIs b (C.drop i) k 0=(q :: (gIs b (C.drop (i+1)) k3 (if in7 (C.getD i 0) q=true then e3 else fl e3 10)).1,(gIs b (C.drop (i+1)) k3 (if in7 (C.getD i 0) q=true then e3 else fl e3 10)).2):=by
 rw [List.drop_eq_getElem_cons h,show C[i]=C.getD i 0 by simp [List.getD_eq_getElem?_getD,List.getElem?_eq_getElem h]]
 conv=>lhs;unfold gIs
 rw [if_neg (by decide),hq]
theorem gIs_end (b:ByteArray) (C:List Int) (i k:Nat) (e:Int) (h:C.length≤i∨e≠0):gIs b (C.drop i) k e=([],k,e):=by
 rcases h with h|h
 ·rw [List.drop_eq_nil_of_le h];rfl
 ·exact gIs_stop b _ k h
theorem gTs_next (b:ByteArray) (L:List ByteArray) (n k:Nat) {x:Int} {k3:Nat} {e3:Int} (hq:pUint b k 0 16777216=(x,k3,e3)) :
  gTs b L (n+1) k 0=if e3≠0 then ([],k3,e3) else if (L.length:Int)≤x then ([],k3,13) else (L.getD x.toNat noT :: (gTs b L n k3 0).1,(gTs b L n k3 0).2):=by
 conv=>lhs;unfold gTs
 rw [if_neg (by decide),hq]
theorem gTs_end (b:ByteArray) (L:List ByteArray) (n k:Nat) (e:Int) (h:n=0∨e≠0):gTs b L n k e=([],k,e):=by
 rcases h with rfl|h
 ·rfl
 ·exact gTs_stop b L n k h
theorem gKs_next (b:ByteArray) (p:Int) (n k:Nat) {x:Int} {k3:Nat} {e3:Int} (hq:pUint b k 0 16777216=(x,k3,e3)) :
  gKs b p (n+1) k 0=(wrap64 (p-x) :: (gKs b p n k3 (if decide (x<1∨p<x)=true then fl e3 13 else e3)).1,(gKs b p n k3 (if decide (x<1∨p<x)=true then fl e3 13 else e3)).2):=by
 conv=>lhs;unfold gKs
 rw [if_neg (by decide),hq]
 simp only [decide_eq_true_eq]
theorem gKs_end (b:ByteArray) (p:Int) (n k:Nat) (e:Int) (h:n=0∨e≠0):gKs b p n k e=([],k,e):=by
 rcases h with rfl|h
 ·rfl
 ·exact gKs_stop b p n k h
end Go.Proofs.YtgoffkfpdigeeaaDoor
namespace Go.Proofs.YtgoffkfpdigeeaaDoor
open Go.RowKit
theorem drop_more {b:ByteArray} {k n:Nat} {x r:List UInt8} (h:b.data.toList.drop k=x++r) (hn:x.length=n):b.data.toList.drop (k+n)=r:=by
 rw [← List.drop_drop,h,← hn,List.drop_left]
theorem num_put {b:ByteArray} {k n:Nat} {r:List UInt8} (h:b.data.toList.drop k=put n++r) (hn:n<18446744073709551616):num b k=(n,(put n).length,0):=by
 unfold num
 rw [h]
 exact dec_put n hn r
theorem uint_put {b:ByteArray} {k n:Nat} {r:List UInt8} (m:Int) (h:b.data.toList.drop k=put n++r) (hn:n≤16777216) (hm:(n:Int)≤m):pUint b k 0 m=((n:Int),k+(put n).length,0):=by
 unfold pUint
 rw [if_neg (by simp),num_put h (by omega)]
 dsimp only
 rw [if_neg (by simp),if_neg (by omega)]
theorem int_put {b:ByteArray} {k:Nat} {z:Int} {r:List UInt8} (h:b.data.toList.drop k=put (zig z).toNat++r) (h0 : -9223372036854775808≤z) (h1:z≤9223372036854775807):pInt b k 0=(z,k+(put (zig z).toNat).length,0):=by
 have hz:=zig_range z h0 h1
 unfold pInt
 rw [if_neg (by simp),num_put h (by omega)]
 dsimp only
 rw [if_neg (by simp),Int.toNat_of_nonneg hz.1,zag_zig]
theorem gIs_put (b:ByteArray):∀(C I:List Int) (k:Nat) (r:List UInt8),b.data.toList.drop k=rI I++r→I.length=C.length→(∀i,i<I.length→in7 (C.getD i 0) (I.getD i 0)=true)→fine I→gIs b C k 0=(I,k+(rI I).length,0)
 | [],[],k,r,_,_,_,_=>rfl
 | [],x :: I,_,_,_,hl,_,_=>by simp at hl
 | c :: C,[],_,_,_,hl,_,_=>by simp at hl
 | c :: C,x :: I,k,r,h,hl,hi,hf=>by
  have e1:rI (x :: I)=put (zig x).toNat++rI I:=rfl
  rw [e1,List.append_assoc] at h
  have hx : -9223372036854775808≤x∧x≤9223372036854775807:=hf 0 (by simp)
  have hc:in7 c x=true:=hi 0 (by simp)
  have hp:=int_put h hx.1 hx.2
  have ih:=gIs_put b C I (k+(put (zig x).toNat).length) r (drop_more h rfl) (by simpa using hl) (fun i q=>by have:=hi (i+1) (by simpa using q);simpa using this) (fun i q=>by have:=hf (i+1) (by simpa using q);simpa using this)
  unfold gIs
  rw [if_neg (by decide),hp]
  dsimp only
  rw [hc,if_pos rfl,ih,e1,List.length_append,Nat.add_assoc]
end Go.Proofs.YtgoffkfpdigeeaaDoor
namespace Go.Proofs.YtgoffkfpdigeeaaDoor
open Go.RowKit
theorem fl_ne {e d:Int} (hd:d≠0):fl e d≠0:=by
 unfold fl
 split
 ·exact hd
 ·assumption
theorem num_bytes {b:ByteArray} {k:Nat} (h:(num b k).2.2=0):(num b k).1<18446744073709551616∧b.data.toList.drop k=put (num b k).1++b.data.toList.drop (k+(num b k).2.1):=by
 obtain ⟨n,m,e,hnum⟩:∃n m e,num b k=(n,m,e):=⟨_,_,_,rfl⟩
 rw [hnum] at h ⊢
 dsimp only at h ⊢
 subst h
 unfold num at hnum
 obtain ⟨h1,_,_,h4,h5⟩:=put_dec _ n m hnum
 refine ⟨h1,?_⟩
 rw [h5,← List.drop_drop,List.take_append_drop]
theorem uint_bytes {b:ByteArray} {k:Nat} {e m x:Int} {k':Nat} (h:pUint b k e m=(x,k',0)):e=0∧∃n:Nat,x=n∧n≤16777216∧(n:Int)≤m∧b.data.toList.drop k=put n++b.data.toList.drop k':=by
 unfold pUint at h
 split at h
 ·rename_i q
  simp only [Prod.mk.injEq] at h
  exact absurd h.2.2 q
 ·rename_i q
  split at h
  ·rename_i q2
   simp only [Prod.mk.injEq] at h
   have:=h.2.2
   omega
  ·rename_i q2
   split at h
   ·simp only [Prod.mk.injEq] at h
    exact absurd h.2.2 (by decide)
   ·rename_i q3
    simp only [Prod.mk.injEq] at h
    obtain ⟨rfl,rfl,_⟩:=h
    have:=num_bytes (b:=b) (k:=k) (by omega)
    exact ⟨by omega,(num b k).1,rfl,by omega,by omega,this.2⟩
theorem int_bytes {b:ByteArray} {k:Nat} {e x:Int} {k':Nat} (h:pInt b k e=(x,k',0)):e=0∧-9223372036854775808≤x∧x≤9223372036854775807∧b.data.toList.drop k=put (zig x).toNat++b.data.toList.drop k':=by
 unfold pInt at h
 split at h
 ·rename_i q
  simp only [Prod.mk.injEq] at h
  exact absurd h.2.2 q
 ·rename_i q
  split at h
  ·rename_i q2
   simp only [Prod.mk.injEq] at h
   have:=h.2.2
   omega
  ·rename_i q2
   simp only [Prod.mk.injEq] at h
   obtain ⟨rfl,rfl,_⟩:=h
   have h1:=num_bytes (b:=b) (k:=k) (by omega)
   have h2:=zag_range ((num b k).1:Int) (by omega) (by omega)
   refine ⟨by omega,h2.1,h2.2,?_⟩
   rw [zig_zag _ (by omega),Int.toNat_natCast]
   exact h1.2
theorem gIs_bytes (b:ByteArray):∀(C:List Int) (k:Nat) (e:Int) (I:List Int) (k':Nat),gIs b C k e=(I,k',0)→e=0∧I.length=C.length∧fine I∧(∀i,i<I.length→in7 (C.getD i 0) (I.getD i 0)=true)∧b.data.toList.drop k=rI I++b.data.toList.drop k'
 | [],k,e,I,k',h=>by
  simp only [gIs,Prod.mk.injEq] at h
  obtain ⟨rfl,rfl,rfl⟩:=h
  exact ⟨rfl,rfl,fun i q=>by simp at q,fun i q=>by simp at q,rfl⟩
 | c :: C,k,e,I,k',h=>by
  unfold gIs at h
  split at h
  ·rename_i q
   simp only [Prod.mk.injEq] at h
   exact absurd h.2.2 q
  ·obtain ⟨x,k1,e1,hq⟩:∃x k1 e1,pInt b k e=(x,k1,e1):=⟨_,_,_,rfl⟩
   rw [hq] at h
   dsimp only at h
   obtain ⟨I',k2,e2,hr⟩:∃I' k2 e2,gIs b C k1 (if in7 c x=true then e1 else fl e1 10)=(I',k2,e2):=⟨_,_,_,rfl⟩
   rw [hr] at h
   simp only [Prod.mk.injEq] at h
   obtain ⟨rfl,rfl,rfl⟩:=h
   obtain ⟨h1,h2,h3,h4,h5⟩:=gIs_bytes b C k1 _ I' k2 hr
   have hc:in7 c x=true:=by
    by_cases q:in7 c x=true
    ·exact q
    ·rw [if_neg q] at h1
     exact absurd h1 (fl_ne (by decide))
   rw [if_pos hc] at h1
   subst h1
   obtain ⟨g1,g2,g3,g4⟩:=int_bytes hq
   refine ⟨g1,by simp [h2],fun i q=>?_,fun i q=>?_,?_⟩
   ·cases i with
    | zero=>exact ⟨g2,g3⟩
    | succ i=>have:=h3 i (by simpa using q);simpa using this
   ·cases i with
    | zero=>exact hc
    | succ i=>have:=h4 i (by simpa using q);simpa using this
   ·rw [g4,h5,show rI (x :: I')=put (zig x).toNat++rI I' from rfl,List.append_assoc]
end Go.Proofs.YtgoffkfpdigeeaaDoor
namespace Go.Proofs.YtgoffkfpdigeeaaDoor
open Go.RowKit
end Go.Proofs.YtgoffkfpdigeeaaDoor
namespace Go.Proofs.YtgoffkfpdigeeaaDoor
open Go.RowKit
end Go.Proofs.YtgoffkfpdigeeaaDoor
namespace Go.Proofs.YtgoffkfpdigeeaaDoor
open Go.RowKit
def oldC:List Value:=iV [0,0,0,0,0,0,0,0,0,0,0,0,0,-1,2,2,2,2,0,1,1,3,0,0,0,1,0,0,3,0,0,0,1,0,0,0,0,0,0,1,0,0,4,0,0,0,0,0,0]
def oldSp (k:Int):Sp:=if k=1 then ⟨true,[],0,0,-1⟩ else if k=2 then ⟨true,[2,2,2,2],0,1,1⟩ else if k=3∨k=4 then ⟨true,[3],1,0,0⟩ else if k=5 then ⟨true,[],1,0,0⟩ else if k=6 then ⟨true,[4],0,0,0⟩ else noSp
theorem oldSp_no (k:Int) (h:k<1∨7≤k):oldSp k=noSp:=by
 unfold oldSp
 rw [if_neg (by omega),if_neg (by omega),if_neg (by omega),if_neg (by omega),if_neg (by omega)]
set_option maxRecDepth 10000 in
set_option maxHeartbeats 400000 in
theorem old_no (k:Int) (w:World) (h:k<1∨7≤k) :
  Calls Tryd.prog 70 #[.int .i64 k] w fun e w'=>SpIs w w' e noSp:=by
 have HB:Hid _:=((Below.refl w.heap.size w).alloc (Nat.le_refl _) (Obj.cells #[Value.slice none 0 0,Value.int .i64 0,Value.int .i64 0,Value.int .i64 0] 112))
 go_enter Tryd.func70,Tryd.ntmps70
 rcases h with h|h
 ·go_wp2_with fail
  exact bodyPost_ret (v:=.tuple #[.agg #[.slice none 0 0,.int .i64 0,.int .i64 0,.int .i64 0],.bool false]) (by simp [results,Tryd.results70,go_sem, *]) rfl ⟨_,rfl,⟨rfl,.inl ⟨rfl,rfl⟩⟩,HB.out⟩
 ·have h':¬k<1:=by omega
  go_wp2_with fail
  exact bodyPost_ret (v:=.tuple #[.agg #[.slice none 0 0,.int .i64 0,.int .i64 0,.int .i64 0],.bool false]) (by simp [results,Tryd.results70,go_sem, *]) rfl ⟨_,rfl,⟨rfl,.inl ⟨rfl,rfl⟩⟩,HB.out⟩
set_option maxRecDepth 10000 in
set_option maxHeartbeats 400000 in
theorem old_in (k:Nat) (a0 a1 a2 a3 t l m:Int) (w:World) (h1:1≤k) (h2:k<7)
  (c0:∀o:Obj,(w.alloc o).cell? ⟨0,k*7,none⟩=some (.int .i64 a0)) (c1:∀o:Obj,(w.alloc o).cell? ⟨0,k*7+1,none⟩=some (.int .i64 a1)) (c2:∀o:Obj,(w.alloc o).cell? ⟨0,k*7+2,none⟩=some (.int .i64 a2))
  (c3:∀o:Obj,(w.alloc o).cell? ⟨0,k*7+3,none⟩=some (.int .i64 a3)) (c4:∀o:Obj,(w.alloc o).cell? ⟨0,k*7+4,none⟩=some (.int .i64 t)) (c5:∀o:Obj,(w.alloc o).cell? ⟨0,k*7+5,none⟩=some (.int .i64 l))
  (c6:∀o:Obj,(w.alloc o).cell? ⟨0,k*7+6,none⟩=some (.int .i64 m)) :
  Calls Tryd.prog 70 #[.int .i64 k] w fun e w'=>SpIs w w' e ⟨true,nz [a0,a1,a2,a3],t,l,m⟩:=by
 have k1:¬(k:Int)<1:=by omega
 have k2:¬(7:Int)≤k:=by omega
 have H:Hid _:=fun W=>spec_any a0 a1 a2 a3 t l m W
 go_enter Tryd.func70,Tryd.ntmps70
 go_wp2_with fail
 refine (H.out _).mono ?_
 rintro e w1 ⟨v,rfl,hI,hB⟩
 have n0:AtN 112 w1 w.heap.size #[.slice none 0 0,.int .i64 0,.int .i64 0,.int .i64 0]:=(AtN.new w 112 _).belowAll hB
 have d0:w1.cell? ⟨w.heap.size,0,none⟩=some (.slice none 0 0):=n0.cell 0
 have d1:w1.cell? ⟨w.heap.size,1,none⟩=some (.int .i64 0):=n0.cell 1
 have d2:w1.cell? ⟨w.heap.size,2,none⟩=some (.int .i64 0):=n0.cell 2
 have d3:w1.cell? ⟨w.heap.size,3,none⟩=some (.int .i64 0):=n0.cell 3
 have f0:=n0.fz 0
 have f1:=n0.fz 1
 have f2:=n0.fz 2
 have f3:=n0.fz 3
 obtain ⟨ao,cap,rfl⟩:=own_shape7 hI
 have hrow:∀r,(Value.slice ao (nz [a0,a1,a2,a3]).length cap).ownBlock=some r→r≠w.heap.size:=fun r hr=>by
  have:=(World.ownsRow.lt hI r hr).1
  simp at this
  omega
 have o1:Hid _:=own_mono (own_set (own_set (own_set (own_set hI ⟨w.heap.size,0,none⟩ hrow (.slice ao (nz [a0,a1,a2,a3]).length cap)) ⟨w.heap.size,1,none⟩ hrow (.int .i64 t)) ⟨w.heap.size,2,none⟩ hrow (.int .i64 l)) ⟨w.heap.size,3,none⟩ hrow (.int .i64 m)) (by simp;omega:w.heap.size≤_)
 have b0:Below w.heap.size w w1:=((Below.refl w.heap.size w).alloc (Nat.le_refl _) _).trans (hB.mono (by simp))
 have b1:Hid _:=set_below (set_below (set_below (set_below b0 ⟨w.heap.size,0,none⟩ (Nat.le_refl _) (.slice ao (nz [a0,a1,a2,a3]).length cap)) ⟨w.heap.size,1,none⟩ (Nat.le_refl _) (.int .i64 t)) ⟨w.heap.size,2,none⟩ (Nat.le_refl _) (.int .i64 l)) ⟨w.heap.size,3,none⟩ (Nat.le_refl _) (.int .i64 m)
 clear hI hB n0 b0
 go_wp2_with fail
 exact bodyPost_ret (v:=.tuple #[.agg #[.slice ao (nz [a0,a1,a2,a3]).length cap,.int .i64 t,.int .i64 l,.int .i64 m],.bool true]) (by simp [results,Tryd.results70,go_sem, *]) rfl ⟨_,rfl,o1.out,b1.out⟩
theorem old_any (k:Int) (w:World) (hT:TabAt w 0 oldC) :
  Calls Tryd.prog 70 #[.int .i64 k] w fun e w'=>SpIs w w' e (oldSp k):=by
 by_cases h:k<1∨7≤k
 ·rw [oldSp_no k h]
  exact old_no k w h
 ·rcases (by omega:k=1∨k=2∨k=3∨k=4∨k=5∨k=6) with rfl|rfl|rfl|rfl|rfl|rfl
  ·exact old_in 1 (0) (0) (0) (0) (0) (0) (-1) w (by omega) (by omega) (fun o=>hT.alloc o 7) (fun o=>hT.alloc o 8) (fun o=>hT.alloc o 9) (fun o=>hT.alloc o 10) (fun o=>hT.alloc o 11) (fun o=>hT.alloc o 12) (fun o=>hT.alloc o 13)
  ·exact old_in 2 (2) (2) (2) (2) (0) (1) (1) w (by omega) (by omega) (fun o=>hT.alloc o 14) (fun o=>hT.alloc o 15) (fun o=>hT.alloc o 16) (fun o=>hT.alloc o 17) (fun o=>hT.alloc o 18) (fun o=>hT.alloc o 19) (fun o=>hT.alloc o 20)
  ·exact old_in 3 (3) (0) (0) (0) (1) (0) (0) w (by omega) (by omega) (fun o=>hT.alloc o 21) (fun o=>hT.alloc o 22) (fun o=>hT.alloc o 23) (fun o=>hT.alloc o 24) (fun o=>hT.alloc o 25) (fun o=>hT.alloc o 26) (fun o=>hT.alloc o 27)
  ·exact old_in 4 (3) (0) (0) (0) (1) (0) (0) w (by omega) (by omega) (fun o=>hT.alloc o 28) (fun o=>hT.alloc o 29) (fun o=>hT.alloc o 30) (fun o=>hT.alloc o 31) (fun o=>hT.alloc o 32) (fun o=>hT.alloc o 33) (fun o=>hT.alloc o 34)
  ·exact old_in 5 (0) (0) (0) (0) (1) (0) (0) w (by omega) (by omega) (fun o=>hT.alloc o 35) (fun o=>hT.alloc o 36) (fun o=>hT.alloc o 37) (fun o=>hT.alloc o 38) (fun o=>hT.alloc o 39) (fun o=>hT.alloc o 40) (fun o=>hT.alloc o 41)
  ·exact old_in 6 (4) (0) (0) (0) (0) (0) (0) w (by omega) (by omega) (fun o=>hT.alloc o 42) (fun o=>hT.alloc o 43) (fun o=>hT.alloc o 44) (fun o=>hT.alloc o 45) (fun o=>hT.alloc o 46) (fun o=>hT.alloc o 47) (fun o=>hT.alloc o 48)
end Go.Proofs.YtgoffkfpdigeeaaDoor
