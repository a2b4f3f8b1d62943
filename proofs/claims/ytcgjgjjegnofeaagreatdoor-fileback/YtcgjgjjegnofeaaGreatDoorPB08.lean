import Derived.Lib.Strings
import Derived.Deep.AppendLies
import Derived.Deep.RegionLaw
import Derived.Laws.OwnMore
import Derived.Test.YtcgjgjjegnofeaaGreatDoorPB05
import Derived.Test.YtcgjgjjegnofeaaGreatDoorPB06
import Derived.Test.YtcgjgjjegnofeaaGreatDoorPB04
import Derived.Test.YtcgjgjjegnofeaaGreatDoorPB03
import Derived.Test.YtcgjgjjegnofeaaGreatDoorPB07
import Derived.Deep.CutBlock
import Derived.Deep.DeepCutAuto
namespace Go.Proofs.YtcgjgjjegnofeaaGreatDoor
open Go.RowKit
def itF (L T:List ByteArray):List ByteArray:=T.foldl pIntern L
theorem itF_snoc (L T:List ByteArray) (s:ByteArray):itF L (T++[s])=pIntern (itF L T) s:=by simp [itF,List.foldl_append]
theorem pIntern_at {L:List ByteArray} {s t:ByteArray} (h:idx6 s L<L.length):idx6 s (pIntern L t)=idx6 s L∧idx6 s (pIntern L t)<(pIntern L t).length:=by
 unfold pIntern
 split
 ·exact ⟨rfl,h⟩
 ·have:=idx6_append s L [t] h
  exact ⟨this,by rw [this,List.length_append];omega⟩
theorem itF_at (T:List ByteArray):∀{L:List ByteArray} {s:ByteArray},idx6 s L<L.length→idx6 s (itF L T)=idx6 s L∧idx6 s (itF L T)<(itF L T).length:=by
 induction T with
 | nil=>intro L s h;exact ⟨rfl,h⟩
 | cons x r ih=>
  intro L s h
  obtain ⟨h1,h2⟩:=pIntern_at (t:=x) h
  obtain ⟨h3,h4⟩:=ih (L:=pIntern L x) (s:=s) (by rw [h1] at h2 ⊢;exact h2)
  exact ⟨h3.trans h1,h4⟩
theorem pIntern_le (L:List ByteArray) (s:ByteArray):(pIntern L s).length≤L.length+1:=by
 unfold pIntern
 split <;> simp
theorem itF_len (T:List ByteArray):∀L:List ByteArray,(itF L T).length≤L.length+T.length:=by
 induction T with
 | nil=>intro L;simp [itF]
 | cons x r ih=>
  intro L
  have h1:=ih (pIntern L x)
  have h2:=pIntern_le L x
  have h3:itF L (x :: r)=itF (pIntern L x) r:=rfl
  rw [h3,List.length_cons]
  omega
theorem itF_num (L T:List ByteArray) (i:Nat) (h:i<T.length):idx6 (T.getD i noT) (itF L (T.take i))=idx6 (T.getD i noT) (itF L T):=by
 obtain ⟨h1,h2⟩:=pIntern_idx (itF L (T.take i)) (T.getD i noT)
 have h3:T=(T.take i++[T.getD i noT])++T.drop (i+1):=by
  rw [List.append_assoc,List.singleton_append,List.getD_eq_getElem?_getD,List.getElem?_eq_getElem h]
  show T=T.take i++T[i] :: T.drop (i+1)
  rw [← List.drop_eq_getElem_cons h,List.take_append_drop]
 have h4:itF L T=itF (pIntern (itF L (T.take i)) (T.getD i noT)) (T.drop (i+1)):=by
  conv=>lhs;rw [h3]
  unfold itF
  rw [List.foldl_append,List.foldl_append]
  rfl
 have h5:=itF_at (T.drop (i+1)) (L:=pIntern (itF L (T.take i)) (T.getD i noT)) (s:=T.getD i noT) (by rw [h2];exact h1)
 rw [h4,h5.1]
 exact h2.symm
def rOk (N:Nd) (p:Int):Bool:=(List.range N.kids.length).all fun i=>decide (0≤N.kids.getD i 0∧N.kids.getD i 0<p)
theorem rOk_yes {N:Nd} {p:Int} (h:∀i,i<N.kids.length→0≤N.kids.getD i 0∧N.kids.getD i 0<p):rOk N p=true:=by
 unfold rOk
 rw [List.all_eq_true]
 intro i hi
 exact decide_eq_true (h i (by simpa using hi))
theorem rOk_no {N:Nd} {p:Int} {i:Nat} (hi:i<N.kids.length) (h:¬(0≤N.kids.getD i 0∧N.kids.getD i 0<p)):rOk N p=false:=by
 unfold rOk
 exact List.all_eq_false.2 ⟨i,by simpa using hi,by rw [decide_eq_false h];simp⟩
def rE (N:Nd) (p:Int):Int:=if tyN N=0 then (if rOk N p=true then 0 else 13) else tyN N
def rI (l:List Int):List UInt8:=l.flatMap fun z=>put (zig z).toNat
def rT (M l:List ByteArray):List UInt8:=l.flatMap fun s=>put (idx6 s M)
def rK (p:Int) (l:List Int):List UInt8:=l.flatMap fun k=>put (p-k).toNat
def rB (N:Nd) (p:Int) (L:List ByteArray):List UInt8:=put N.kind.toNat++rI N.ints++rT (itF L N.texts) N.texts++put N.kids.length++rK p N.kids
theorem flat_take {α : Type} (f : α→List UInt8) (l:List α) (d : α) (i:Nat) (h:i<l.length):(l.take (i+1)).flatMap f=(l.take i).flatMap f++f (l.getD i d):=by
 rw [List.take_add_one,List.getElem?_eq_getElem h,List.flatMap_append,List.getD_eq_getElem?_getD,List.getElem?_eq_getElem h]
 simp
theorem flat_ten {α : Type} (f : α→Nat) (l:List α):(l.flatMap fun z=>put (f z)).length≤10*l.length:=by
 induction l with
 | nil=>simp
 | cons x r ih=>
  have:=(put_length (f x)).2
  rw [List.flatMap_cons,List.length_append,List.length_cons]
  omega
def PutIs (N:Nd) (p:Int) (L:List ByteArray) (S:ByteArray) (M:List ByteArray) (k:Int):Prop:=
 k=rE N p∧(k≠0→S=⟨#[]⟩∧M=L)∧(k=0→S.data.toList=rB N p L∧M=itF L N.texts)
end Go.Proofs.YtcgjgjjegnofeaaGreatDoor
namespace Go.Proofs.YtcgjgjjegnofeaaGreatDoor
open Go.RowKit
end Go.Proofs.YtcgjgjjegnofeaaGreatDoor
namespace Go.Proofs.YtcgjgjjegnofeaaGreatDoor
open Go.RowKit
def fl (e d:Int):Int:=if e=0 then d else e
def gIs (b:ByteArray):List Int→Nat→Int→List Int × Nat × Int
 | [],k,e=>([],k,e)
 | c :: r,k,e=>if e≠0 then ([],k,e) else
  ((pInt b k e).1 :: (gIs b r (pInt b k e).2.1 (if in7 c (pInt b k e).1=true then (pInt b k e).2.2 else fl (pInt b k e).2.2 10)).1,
   (gIs b r (pInt b k e).2.1 (if in7 c (pInt b k e).1=true then (pInt b k e).2.2 else fl (pInt b k e).2.2 10)).2)
def gTs (b:ByteArray) (L:List ByteArray):Nat→Nat→Int→List ByteArray × Nat × Int
 | 0,k,e=>([],k,e)
 | n+1,k,e=>if e≠0 then ([],k,e) else
  if (pUint b k e 16777216).2.2≠0 then ([],(pUint b k e 16777216).2.1,(pUint b k e 16777216).2.2)
  else if (L.length:Int)≤(pUint b k e 16777216).1 then ([],(pUint b k e 16777216).2.1,13)
  else (L.getD (pUint b k e 16777216).1.toNat noT :: (gTs b L n (pUint b k e 16777216).2.1 0).1,(gTs b L n (pUint b k e 16777216).2.1 0).2)
def gKs (b:ByteArray) (p:Int):Nat→Nat→Int→List Int × Nat × Int
 | 0,k,e=>([],k,e)
 | n+1,k,e=>if e≠0 then ([],k,e) else
  (wrap64 (p-(pUint b k e 16777216).1) :: (gKs b p n (pUint b k e 16777216).2.1 (if (pUint b k e 16777216).1<1∨p<(pUint b k e 16777216).1 then fl (pUint b k e 16777216).2.2 13 else (pUint b k e 16777216).2.2)).1,
   (gKs b p n (pUint b k e 16777216).2.1 (if (pUint b k e 16777216).1<1∨p<(pUint b k e 16777216).1 then fl (pUint b k e 16777216).2.2 13 else (pUint b k e 16777216).2.2)).2)
def gRest (b:ByteArray) (p:Int) (L:List ByteArray) (edges:Int) (S:Sp) (k:Nat) (e:Int):(List Int × List ByteArray × List Int) × Nat × Int:=
 let I:=gIs b S.ints k e
 let T:=gTs b L S.texts.toNat I.2.1 I.2.2
 let m:=pUint b T.2.1 T.2.2 (max edges 0)
 let K:=gKs b p m.1.toNat m.2.1 (if m.1<S.least∨(0≤S.most∧S.most<m.1) then fl m.2.2 12 else m.2.2)
 ((I.1,T.1,K.1),K.2)
def gNd (b:ByteArray) (p:Int) (L:List ByteArray) (edges:Int) (k:Nat) (e:Int):Nd × Nat × Int:=
 let q:=pUint b k e 16777216
 let R:=gRest b p L edges (newSp q.1) q.2.1 (if (newSp q.1).ok=true then q.2.2 else fl q.2.2 9)
 if R.2.2=0 then (⟨q.1,R.1.1,R.1.2.1,R.1.2.2⟩,R.2.1,0) else (⟨0,[],[],[]⟩,R.2.1,R.2.2)
theorem gIs_at (b:ByteArray):∀(C:List Int) (k:Nat) (e:Int),k≤b.size→k≤(gIs b C k e).2.1∧(gIs b C k e).2.1≤b.size
 | [],k,e,h=>⟨Nat.le_refl _,h⟩
 | c :: r,k,e,h=>by
  unfold gIs
  split
  ·exact ⟨Nat.le_refl _,h⟩
  ·have h1:=pInt_at b k e h
   have h2:=gIs_at b r (pInt b k e).2.1 (if in7 c (pInt b k e).1=true then (pInt b k e).2.2 else fl (pInt b k e).2.2 10) h1.2
   exact ⟨by dsimp only;omega,h2.2⟩
theorem gTs_at (b:ByteArray) (L:List ByteArray):∀(n k:Nat) (e:Int),k≤b.size→k≤(gTs b L n k e).2.1∧(gTs b L n k e).2.1≤b.size
 | 0,k,e,h=>⟨Nat.le_refl _,h⟩
 | n+1,k,e,h=>by
  have h1:=pUint_at b k e 16777216 h
  unfold gTs
  split
  ·exact ⟨Nat.le_refl _,h⟩
  ·split
   ·exact h1
   ·split
    ·exact h1
    ·have h2:=gTs_at b L n (pUint b k e 16777216).2.1 0 h1.2
     exact ⟨by dsimp only;omega,h2.2⟩
theorem gKs_at (b:ByteArray) (p:Int):∀(n k:Nat) (e:Int),k≤b.size→k≤(gKs b p n k e).2.1∧(gKs b p n k e).2.1≤b.size
 | 0,k,e,h=>⟨Nat.le_refl _,h⟩
 | n+1,k,e,h=>by
  have h1:=pUint_at b k e 16777216 h
  unfold gKs
  split
  ·exact ⟨Nat.le_refl _,h⟩
  ·have h2:=gKs_at b p n (pUint b k e 16777216).2.1 (if (pUint b k e 16777216).1<1∨p<(pUint b k e 16777216).1 then fl (pUint b k e 16777216).2.2 13 else (pUint b k e 16777216).2.2) h1.2
   exact ⟨by dsimp only;omega,h2.2⟩
theorem gIs_stop (b:ByteArray) (C:List Int) (k:Nat) {e:Int} (h:e≠0):gIs b C k e=([],k,e):=by
 cases C with
 | nil=>rfl
 | cons c r=>unfold gIs;rw [if_pos h]
theorem gTs_stop (b:ByteArray) (L:List ByteArray) (n k:Nat) {e:Int} (h:e≠0):gTs b L n k e=([],k,e):=by
 cases n with
 | zero=>rfl
 | succ n=>unfold gTs;rw [if_pos h]
theorem gKs_stop (b:ByteArray) (p:Int) (n k:Nat) {e:Int} (h:e≠0):gKs b p n k e=([],k,e):=by
 cases n with
 | zero=>rfl
 | succ n=>unfold gKs;rw [if_pos h]
theorem pUint_top (b:ByteArray) (k:Nat) (e m:Int):0≤(pUint b k e m).1∧(pUint b k e m).1≤16777216∧((pUint b k e m).2.2≠0→(pUint b k e m).1=0):=by
 unfold pUint
 split
 ·exact ⟨by simp,by simp,fun _=>rfl⟩
 ·split
  ·exact ⟨by simp,by simp,fun _=>rfl⟩
  ·split
   ·exact ⟨by simp,by simp,fun _=>rfl⟩
   ·exact ⟨by dsimp only;omega,by dsimp only;omega,fun q=>absurd rfl q⟩
theorem pInt_top (b:ByteArray) (k:Nat) (e:Int) (hk:k≤b.size) : -9223372036854775808≤(pInt b k e).1∧(pInt b k e).1≤9223372036854775807:=by
 unfold pInt
 split
 ·exact ⟨by simp,by simp⟩
 ·split
  ·exact ⟨by simp,by simp⟩
  ·rename_i h
   have h1:=num_ok b k (by omega) hk
   exact zag_range _ (by omega) (by omega)
end Go.Proofs.YtcgjgjjegnofeaaGreatDoor
namespace Go.Proofs.YtcgjgjjegnofeaaGreatDoor
open Go.RowKit
theorem row_ne {w:World} {B C:Nat} {e e':TypeId} {v v':Value} {n n':Nat} {xs xs':List Value} (h:w.ownsRow B e 1 v n xs) (h':w.ownsRow C e' 1 v' n' xs') (ht:e≠e'):v'.ownBlock=none∨v'.ownBlock≠v.ownBlock:=by
 rcases h'.2 with ⟨rfl,_⟩|⟨g',cap',cur',rfl,_,q',_⟩
 ·exact .inl rfl
 ·rcases h.2 with ⟨rfl,_⟩|⟨g,cap,cur,rfl,_,q,_⟩
  ·exact .inr (by simp [Value.ownBlock])
  ·refine .inr fun e1=>?_
   simp only [Value.ownBlock,Option.some.injEq] at e1
   subst e1
   rw [q] at q'
   injection q' with q'
   injection q' with _ q'
   exact ht q'
theorem row_kept {w w':World} {B:Nat} {e:TypeId} {n:Nat} {v:Value} {xs:List Value} {row:Option Nat} (ho:w.ownsRow B e 1 v n xs) (hg:w.grownBy w' row) (hr:v.ownBlock=none∨v.ownBlock≠row):w'.ownsRow B e 1 v n xs:=ho.kept hg hr
theorem row_low {w:World} {B:Nat} {e:TypeId} {n:Nat} {v:Value} {xs:List Value} {row:Option Nat} (ho:w.ownsRow B e 1 v n xs) (hr:∀k,row=some k→k<B):v.ownBlock=none∨v.ownBlock≠row:=by
 cases hv:v.ownBlock with
 | none=>exact .inl rfl
 | some q=>exact .inr (fun e=>by have:=(ho.lt q hv).1;have:=hr q e.symm;omega)
theorem row_at {w:World} {B g:Nat} {e T:TypeId} {n:Nat} {v:Value} {xs:List Value} {cs:Array Value} (ho:w.ownsRow B e 1 v n xs) (h:AtN T w g cs) (ht:e≠T):v.ownBlock≠some g:=by
 intro hv
 rcases ho.2 with ⟨rfl,_⟩|⟨g',cap,cur,rfl,_,q,_⟩
 ·cases hv
 ·simp only [Value.ownBlock,Option.some.injEq] at hv
  subst hv
  have h':w.heap[g']? = _:=h
  rw [q] at h'
  injection h' with h'
  injection h' with _ h'
  exact ht h'
theorem gnew {a b:World} {row:Option Nat} (h:a.grownBy b row) (p:Addr) (hp:a.heap.size≤p.block) (v:Value):a.grownBy (b.setCell p v) row:=
 ⟨h.os,h.tape,h.output,by simpa [World.setCell] using h.size,fun i hi hn=>(Below.heap_setCell _ _ _ _ (by omega)).trans (h.block i hi hn)⟩
structure Gi (w wr:World) (g gN gS:Nat) (bs:ByteArray) (k:Nat) (e:Int) (N:Nd) (v1 v2 v3:Value) (sb:Option Addr) (sc:Nat) (S:Sp):Prop where
 cur:Rf wr g bs k e
 nd:AtN 62 wr gN #[.int .i64 N.kind,v1,v2,v3]
 own:OwnNd wr (gS+1) N v1 v2 v3
 sp:AtN 147 wr gS #[.slice sb S.ints.length sc,.int .i64 S.texts,.int .i64 S.least,.int .i64 S.most]
 cls:wr.ownsRow w.heap.size 3 1 (.slice sb S.ints.length sc) S.ints.length (iV S.ints)
 low:∀r,(Value.slice sb S.ints.length sc).ownBlock=some r→r<gS
 res:AtN 62 wr w.heap.size #[.int .i64 0,.slice none 0 0,.slice none 0 0,.slice none 0 0]
 fr:w.grownBy wr (some g)
 hg:g<w.heap.size
 hN:w.heap.size<gN
 hS:gN<gS
 kb:k≤bs.size
section
variable {w wr w':World} {g gN gS:Nat} {bs:ByteArray} {k k':Nat} {e e':Int} {N:Nd} {v1 v2 v3:Value} {sb:Option Addr} {sc:Nat} {S:Sp}
theorem Gi.read (h:Gi w wr g gN gS bs k e N v1 v2 v3 sb sc S) (hw:wr.grownBy w' (some g)) (hc:Rf w' g bs k' e') (hk:k'≤bs.size):Gi w w' g gN gS bs k' e' N v1 v2 v3 sb sc S:=by
 have h1:=h.hg
 have h2:=h.hN
 have h3:=h.hS
 exact ⟨hc,h.nd.kept hw (by simp;omega),h.own.kept hw (fun q hq=>by cases hq;omega),h.sp.kept hw (by simp;omega),row_kept h.cls hw (row_low h.cls (fun q hq=>by cases hq;omega)),h.low,h.res.kept hw (by simp;omega),gtrans h.fr hw,h.hg,h.hN,h.hS,hk⟩
theorem Gi.more (h:Gi w wr g gN gS bs k e N v1 v2 v3 sb sc S) (hb:Below wr.heap.size wr w'):Gi w w' g gN gS bs k e N v1 v2 v3 sb sc S:=
 ⟨At3.belowAll h.cur hb,h.nd.belowAll hb,h.own.belowB hb,h.sp.belowAll hb,own_below h.cls hb (Nat.le_refl _),h.low,h.res.belowAll hb,gtrans h.fr (gbelow hb),h.hg,h.hN,h.hS,h.kb⟩
theorem Gi.keep (h:Gi w wr g gN gS bs k e N v1 v2 v3 sb sc S) {row:Option Nat} (hw:wr.grownBy w' row) (hr:∀q,row=some q→gS<q):Rf w' g bs k e∧AtN 62 w' gN #[.int .i64 N.kind,v1,v2,v3]∧AtN 147 w' gS #[.slice sb S.ints.length sc,.int .i64 S.texts,.int .i64 S.least,.int .i64 S.most]∧
  w'.ownsRow w.heap.size 3 1 (.slice sb S.ints.length sc) S.ints.length (iV S.ints)∧AtN 62 w' w.heap.size #[.int .i64 0,.slice none 0 0,.slice none 0 0,.slice none 0 0]∧w.grownBy w' (some g):=by
 have h1:=h.hg
 have h2:=h.hN
 have h3:=h.hS
 have hne:∀q,q≤gS→some q≠row:=fun q hq e=>by have:=hr q e.symm;omega
 refine ⟨At3.kept h.cur hw (hne _ (by omega)),h.nd.kept hw (hne _ (by omega)),h.sp.kept hw (hne _ (by omega)),row_kept h.cls hw ?_,h.res.kept hw (hne _ (by omega)),?_⟩
 ·cases hv:(Value.slice sb S.ints.length sc).ownBlock with
  | none=>exact .inl rfl
  | some q=>exact .inr (hne q (by have:=h.low q hv;omega))
 ·have hf:=h.fr
  exact ⟨hw.os.trans hf.os,hw.tape.trans hf.tape,hw.output.trans hf.output,Nat.le_trans hf.size hw.size,fun i hi hn=>(hw.block i (Nat.lt_of_lt_of_le hi hf.size) (hne i (by omega))).trans (hf.block i hi hn)⟩
theorem Gi.rows (h:Gi w wr g gN gS bs k e N v1 v2 v3 sb sc S):(∀q,v1.ownBlock=some q→gS<q)∧(∀q,v2.ownBlock=some q→gS<q)∧∀q,v3.ownBlock=some q→gS<q:=
 ⟨fun q hq=>(h.own.i.lt q hq).1,fun q hq=>(h.own.t.lt q hq).1,fun q hq=>(h.own.k.lt q hq).1⟩
theorem Gi.app1 (h:Gi w wr g gN gS bs k e N v1 v2 v3 sb sc S) {g2 cap2:Nat} {x:Int} (hw:wr.grownBy w' v1.ownBlock) (ho:w'.ownsRow (gS+1) 2 1 (.slice (some ⟨g2,0,none⟩) (N.ints.length+1) cap2) (N.ints.length+1) (iV N.ints++[.int .i64 x])) :
  Gi w (w'.setCell ⟨gN,1,none⟩ (.slice (some ⟨g2,0,none⟩) (N.ints.length+1) cap2)) g gN gS bs k e ⟨N.kind,N.ints++[x],N.texts,N.kids⟩ (.slice (some ⟨g2,0,none⟩) (N.ints.length+1) cap2) v2 v3 sb sc S:=by
 obtain ⟨r1,r2,r3⟩:=h.rows
 obtain ⟨k1,k2,k3,k4,k5,k6⟩:=h.keep hw r1
 have h1:=h.hg
 have h2:=h.hN
 have h3:=h.hS
 have ht:w'.ownsRow (gS+1) 9 1 v2 N.texts.length (tV N.texts):=row_kept h.own.t hw (row_ne h.own.i h.own.t (by decide))
 have hk:w'.ownsRow (gS+1) 3 1 v3 N.kids.length (iV N.kids):=row_kept h.own.k hw (row_ne h.own.i h.own.k (by decide))
 have ho2:w'.ownsRow (gS+1) 2 1 (.slice (some ⟨g2,0,none⟩) (N.ints.length+1) cap2) (N.ints++[x]).length (iV (N.ints++[x])):=by simpa [iV] using ho
 refine ⟨At3.setOther k1 _ (by simp;omega) _,by simpa using k2.set 1 _,?_,k3.setOther _ (by simp;omega) _,own_set k4 _ (fun q hq e=>row_at k4 k2 (by decide) (by rw [hq,e])) _,h.low,k5.setOther _ (by simp;omega) _,?_,h1,h2,h3,h.kb⟩
 ·exact OwnNd.set (B:=gS+1) (N:=⟨N.kind,N.ints++[x],N.texts,N.kids⟩) ⟨ho2,ht,hk⟩ ⟨gN,1,none⟩ (by simp;omega) _
 ·exact gnew k6 ⟨gN,1,none⟩ (by simp;omega) _
theorem Gi.app2 (h:Gi w wr g gN gS bs k e N v1 v2 v3 sb sc S) {g2 cap2:Nat} {x:ByteArray} (hw:wr.grownBy w' v2.ownBlock) (ho:w'.ownsRow (gS+1) 9 1 (.slice (some ⟨g2,0,none⟩) (N.texts.length+1) cap2) (N.texts.length+1) (tV N.texts++[.string x])) :
  Gi w (w'.setCell ⟨gN,2,none⟩ (.slice (some ⟨g2,0,none⟩) (N.texts.length+1) cap2)) g gN gS bs k e ⟨N.kind,N.ints,N.texts++[x],N.kids⟩ v1 (.slice (some ⟨g2,0,none⟩) (N.texts.length+1) cap2) v3 sb sc S:=by
 obtain ⟨r1,r2,r3⟩:=h.rows
 obtain ⟨k1,k2,k3,k4,k5,k6⟩:=h.keep hw r2
 have h1:=h.hg
 have h2:=h.hN
 have h3:=h.hS
 have hi:w'.ownsRow (gS+1) 2 1 v1 N.ints.length (iV N.ints):=row_kept h.own.i hw (row_ne h.own.t h.own.i (by decide))
 have hk:w'.ownsRow (gS+1) 3 1 v3 N.kids.length (iV N.kids):=row_kept h.own.k hw (row_ne h.own.t h.own.k (by decide))
 have ho2:w'.ownsRow (gS+1) 9 1 (.slice (some ⟨g2,0,none⟩) (N.texts.length+1) cap2) (N.texts++[x]).length (tV (N.texts++[x])):=by simpa [tV] using ho
 refine ⟨At3.setOther k1 _ (by simp;omega) _,by simpa using k2.set 2 _,?_,k3.setOther _ (by simp;omega) _,own_set k4 _ (fun q hq e=>row_at k4 k2 (by decide) (by rw [hq,e])) _,h.low,k5.setOther _ (by simp;omega) _,?_,h1,h2,h3,h.kb⟩
 ·exact OwnNd.set (B:=gS+1) (N:=⟨N.kind,N.ints,N.texts++[x],N.kids⟩) ⟨hi,ho2,hk⟩ ⟨gN,2,none⟩ (by simp;omega) _
 ·exact gnew k6 ⟨gN,2,none⟩ (by simp;omega) _
theorem Gi.app3 (h:Gi w wr g gN gS bs k e N v1 v2 v3 sb sc S) {g2 cap2:Nat} {x:Int} (hw:wr.grownBy w' v3.ownBlock) (ho:w'.ownsRow (gS+1) 3 1 (.slice (some ⟨g2,0,none⟩) (N.kids.length+1) cap2) (N.kids.length+1) (iV N.kids++[.int .i64 x])) :
  Gi w (w'.setCell ⟨gN,3,none⟩ (.slice (some ⟨g2,0,none⟩) (N.kids.length+1) cap2)) g gN gS bs k e ⟨N.kind,N.ints,N.texts,N.kids++[x]⟩ v1 v2 (.slice (some ⟨g2,0,none⟩) (N.kids.length+1) cap2) sb sc S:=by
 obtain ⟨r1,r2,r3⟩:=h.rows
 obtain ⟨k1,k2,k3,k4,k5,k6⟩:=h.keep hw r3
 have h1:=h.hg
 have h2:=h.hN
 have h3:=h.hS
 have hi:w'.ownsRow (gS+1) 2 1 v1 N.ints.length (iV N.ints):=row_kept h.own.i hw (row_ne h.own.k h.own.i (by decide))
 have ht:w'.ownsRow (gS+1) 9 1 v2 N.texts.length (tV N.texts):=row_kept h.own.t hw (row_ne h.own.k h.own.t (by decide))
 have ho2:w'.ownsRow (gS+1) 3 1 (.slice (some ⟨g2,0,none⟩) (N.kids.length+1) cap2) (N.kids++[x]).length (iV (N.kids++[x])):=by simpa [iV] using ho
 refine ⟨At3.setOther k1 _ (by simp;omega) _,by simpa using k2.set 3 _,?_,k3.setOther _ (by simp;omega) _,own_set k4 _ (fun q hq e=>row_at k4 k2 (by decide) (by rw [hq,e])) _,h.low,k5.setOther _ (by simp;omega) _,?_,h1,h2,h3,h.kb⟩
 ·exact OwnNd.set (B:=gS+1) (N:=⟨N.kind,N.ints,N.texts,N.kids++[x]⟩) ⟨hi,ht,ho2⟩ ⟨gN,3,none⟩ (by simp;omega) _
 ·exact gnew k6 ⟨gN,3,none⟩ (by simp;omega) _
theorem Gi.c0 (h:Gi w wr g gN gS bs k e N v1 v2 v3 sb sc S):wr.cell? ⟨gN,0,none⟩=some (.int .i64 N.kind):=h.nd.cell 0
theorem Gi.c1 (h:Gi w wr g gN gS bs k e N v1 v2 v3 sb sc S):wr.cell? ⟨gN,1,none⟩=some v1:=h.nd.cell 1
theorem Gi.c2 (h:Gi w wr g gN gS bs k e N v1 v2 v3 sb sc S):wr.cell? ⟨gN,2,none⟩=some v2:=h.nd.cell 2
theorem Gi.c3 (h:Gi w wr g gN gS bs k e N v1 v2 v3 sb sc S):wr.cell? ⟨gN,3,none⟩=some v3:=h.nd.cell 3
theorem Gi.d0 (h:Gi w wr g gN gS bs k e N v1 v2 v3 sb sc S):wr.cell? ⟨gS,0,none⟩=some (.slice sb S.ints.length sc):=h.sp.cell 0
theorem Gi.d1 (h:Gi w wr g gN gS bs k e N v1 v2 v3 sb sc S):wr.cell? ⟨gS,1,none⟩=some (.int .i64 S.texts):=h.sp.cell 1
theorem Gi.d2 (h:Gi w wr g gN gS bs k e N v1 v2 v3 sb sc S):wr.cell? ⟨gS,2,none⟩=some (.int .i64 S.least):=h.sp.cell 2
theorem Gi.d3 (h:Gi w wr g gN gS bs k e N v1 v2 v3 sb sc S):wr.cell? ⟨gS,3,none⟩=some (.int .i64 S.most):=h.sp.cell 3
theorem Gi.ce (h:Gi w wr g gN gS bs k e N v1 v2 v3 sb sc S):wr.cell? ⟨g,2,none⟩=some (.int .i64 e):=h.cur.c2
theorem TxI.grew {a:Option Addr} {cap b o:Nat} {L:List ByteArray} (hx:TxI w a cap b o L) (h:w.grownBy wr (some g)) (hb:0<L.length→b≠g):TxI wr a cap b o L:=by
 refine ⟨hx.ptr,fun i hi=>?_,hx.cap_,hx.nil⟩
 obtain ⟨q1,q2⟩:=hx.at_ i hi
 exact ⟨Nat.lt_of_lt_of_le q1 h.size,(World.cell?_of_block (h.block b q1 (by simp;exact hb (by omega)))).trans q2⟩
end
def NdGot (w w':World) (g:Nat) (bs:ByteArray) (r:Ending) (R:Nd × Nat × Int):Prop:=
 ∃a1 c1 a2 c2 a3 c3,r=.returned (.agg #[.int .i64 R.1.kind,.slice a1 R.1.ints.length c1,.slice a2 R.1.texts.length c2,.slice a3 R.1.kids.length c3])∧OwnNd w' w.heap.size R.1 (.slice a1 R.1.ints.length c1) (.slice a2 R.1.texts.length c2) (.slice a3 R.1.kids.length c3)∧Rf w' g bs R.2.1 R.2.2∧w.grownBy w' (some g)
end Go.Proofs.YtcgjgjjegnofeaaGreatDoor
namespace Go.Proofs.YtcgjgjjegnofeaaGreatDoor
open Go.RowKit
theorem own_nil (w:World) (B:Nat) (e:TypeId):w.ownsRow B e 1 (.slice none 0 0) 0 []:=⟨rfl,.inl ⟨rfl,rfl⟩⟩
theorem Gi.start {w w1 w2:World} {g:Nat} {bs:ByteArray} {k:Nat} {e q:Int} {sb:Option Addr} {sc:Nat} {S:Sp} (hf:w.grownBy w1 (some g)) (hc:Rf w1 g bs k e) (hR:AtN 62 w1 w.heap.size #[.int .i64 0,.slice none 0 0,.slice none 0 0,.slice none 0 0])
  (hb:Below (w1.heap.size+1) (w1.alloc (.cells #[.int .i64 q,.slice none 0 0,.slice none 0 0,.slice none 0 0] 62)) w2) (hS:Ints w2 (w1.heap.size+1) (.slice sb S.ints.length sc) S.ints) (hg:g<w.heap.size) (hw:w.heap.size<w1.heap.size) (hk:k≤bs.size) :
  Gi w (w2.alloc (.cells #[.slice sb S.ints.length sc,.int .i64 S.texts,.int .i64 S.least,.int .i64 S.most] 147)) g w1.heap.size w2.heap.size bs k e ⟨q,[],[],[]⟩ (.slice none 0 0) (.slice none 0 0) (.slice none 0 0) sb sc S:=by
 have hb':Below (w1.alloc (.cells #[.int .i64 q,.slice none 0 0,.slice none 0 0,.slice none 0 0] 62)).heap.size (w1.alloc (.cells #[.int .i64 q,.slice none 0 0,.slice none 0 0,.slice none 0 0] 62)) w2:=by simpa using hb
 have hs:=hb'.size
 simp at hs
 refine ⟨At3.alloc (At3.belowAll (At3.alloc hc _) hb') _,((AtN.new w1 62 _).belowAll hb').alloc _,⟨own_nil _ _ _,own_nil _ _ _,own_nil _ _ _⟩,AtN.new w2 147 _,?_,?_,((hR.alloc _).belowAll hb').alloc _,?_,hg,hw,by omega,hk⟩
 ·exact own_mono (hS.alloc _) (by omega)
 ·intro r hr
  exact (hS.lt r hr).2
 ·exact gtrans (gtrans (gtrans hf (World.grownBy_alloc _ _ _)) (gbelow hb')) (World.grownBy_alloc _ _ _)
theorem Gi.szS {w wr:World} {g gN gS:Nat} {bs:ByteArray} {k:Nat} {e:Int} {N:Nd} {v1 v2 v3:Value} {sb:Option Addr} {sc:Nat} {S:Sp} (h:Gi w wr g gN gS bs k e N v1 v2 v3 sb sc S):gS+1≤wr.heap.size:=by
 have:=(Array.getElem?_eq_some_iff.1 h.sp).1
 omega
theorem Gi.fin {w wr:World} {g gN gS:Nat} {bs:ByteArray} {k:Nat} {e:Int} {N:Nd} {v1 v2 v3:Value} {sb:Option Addr} {sc:Nat} {S:Sp} (h:Gi w wr g gN gS bs k e N v1 v2 v3 sb sc S) (x0 x1 x2 x3:Value) (y:Nd) {a1 a2 a3:Option Addr} {c1 c2 c3:Nat}
  (ho:OwnNd wr (gS+1) y (.slice a1 y.ints.length c1) (.slice a2 y.texts.length c2) (.slice a3 y.kids.length c3)) :
  NdGot w ((((wr.setCell ⟨w.heap.size,0,none⟩ x0).setCell ⟨w.heap.size,1,none⟩ x1).setCell ⟨w.heap.size,2,none⟩ x2).setCell ⟨w.heap.size,3,none⟩ x3) g bs (.returned (.agg #[.int .i64 y.kind,.slice a1 y.ints.length c1,.slice a2 y.texts.length c2,.slice a3 y.kids.length c3])) (y,k,e):=by
 have h1:=h.hg
 have h2:=h.hN
 have h3:=h.hS
 have hb:∀o:Nat,(⟨w.heap.size,o,none⟩:Addr).block<gS+1:=fun o=>by show w.heap.size<gS+1;omega
 refine ⟨a1,c1,a2,c2,a3,c3,rfl,?_,?_,?_⟩
 ·exact OwnNd.mono ((((ho.set _ (hb 0) x0).set _ (hb 1) x1).set _ (hb 2) x2).set _ (hb 3) x3) (by omega)
 ·exact At3.setOther (At3.setOther (At3.setOther (At3.setOther h.cur _ (by show w.heap.size≠g;omega) _) _ (by show w.heap.size≠g;omega) _) _ (by show w.heap.size≠g;omega) _) _ (by show w.heap.size≠g;omega) _
 ·exact gnew (gnew (gnew (gnew h.fr _ (Nat.le_refl _) _) _ (Nat.le_refl _) _) _ (Nat.le_refl _) _) _ (Nat.le_refl _) _
theorem newSp_small (k:Int):(newSp k).ints.length≤4∧0≤(newSp k).texts∧(newSp k).texts≤2∧-1≤(newSp k).least∧(newSp k).least≤1∧-1≤(newSp k).most∧(newSp k).most≤1:=by
 unfold newSp noSp
 repeat' split
 all_goals decide
theorem gIs_next (b:ByteArray) (C:List Int) (i k:Nat) (h:i<C.length) {q:Int} {k3:Nat} {e3:Int} (hq:pInt b k 0=(q,k3,e3)) :
  gIs b (C.drop i) k 0=(q :: (gIs b (C.drop (i+1)) k3 (if in7 (C.getD i 0) q=true then e3 else fl e3 10)).1,(gIs b (C.drop (i+1)) k3 (if in7 (C.getD i 0) q=true then e3 else fl e3 10)).2):=by
 rw [List.drop_eq_getElem_cons h,show C[i]=C.getD i 0 by simp [List.getD_eq_getElem?_getD,List.getElem?_eq_getElem h]]
 conv=>lhs;unfold gIs
 rw [if_neg (by decide),hq]
theorem gIs_end (b:ByteArray) (C:List Int) (i k:Nat) (e:Int) (h:C.length≤i∨e≠0):gIs b (C.drop i) k e=([],k,e):=by
 rcases h with h|h
 ·rw [List.drop_eq_nil_of_le h];rfl
 ·exact gIs_stop b _ k h
theorem gTs_next (b:ByteArray) (L:List ByteArray) (n k:Nat) {x:Int} {k3:Nat} {e3:Int} (hq:pUint b k 0 16777216=(x,k3,e3)) :
  gTs b L (n+1) k 0=if e3≠0 then ([],k3,e3) else if (L.length:Int)≤x then ([],k3,13) else (L.getD x.toNat noT :: (gTs b L n k3 0).1,(gTs b L n k3 0).2):=by
 conv=>lhs;unfold gTs
 rw [if_neg (by decide),hq]
theorem gTs_end (b:ByteArray) (L:List ByteArray) (n k:Nat) (e:Int) (h:n=0∨e≠0):gTs b L n k e=([],k,e):=by
 rcases h with rfl|h
 ·rfl
 ·exact gTs_stop b L n k h
theorem gKs_next (b:ByteArray) (p:Int) (n k:Nat) {x:Int} {k3:Nat} {e3:Int} (hq:pUint b k 0 16777216=(x,k3,e3)) :
  gKs b p (n+1) k 0=(wrap64 (p-x) :: (gKs b p n k3 (if decide (x<1∨p<x)=true then fl e3 13 else e3)).1,(gKs b p n k3 (if decide (x<1∨p<x)=true then fl e3 13 else e3)).2):=by
 conv=>lhs;unfold gKs
 rw [if_neg (by decide),hq]
 simp only [decide_eq_true_eq]
theorem gKs_end (b:ByteArray) (p:Int) (n k:Nat) (e:Int) (h:n=0∨e≠0):gKs b p n k e=([],k,e):=by
 rcases h with rfl|h
 ·rfl
 ·exact gKs_stop b p n k h
theorem gRest_eq {b:ByteArray} {p:Int} {L:List ByteArray} {edges:Int} {S:Sp} {k1:Nat} {e2:Int} {A:List Int} {k4:Nat} {e4:Int} {B:List ByteArray} {k5:Nat} {e5 m:Int} {k6:Nat} {e6 e7:Int} {K:List Int} {k8:Nat} {e8:Int} (hA:gIs b S.ints k1 e2=(A,k4,e4)) (hB:gTs b L S.texts.toNat k4 e4=(B,k5,e5))
  (hM:pUint b k5 e5 (max edges 0)=(m,k6,e6)) (h7:(if decide (m<S.least∨(0≤S.most∧S.most<m))=true then fl e6 12 else e6)=e7) (hK:gKs b p m.toNat k6 e7=(K,k8,e8)):gRest b p L edges S k1 e2=((A,B,K),k8,e8):=by
 unfold gRest
 simp only [decide_eq_true_eq] at h7
 simp only [hA,hB,hM,h7,hK]
set_option maxRecDepth 10000 in
set_option maxHeartbeats 4000000 in
theorem rrget_any (bs:ByteArray) (g:Nat) (p edges:Int) (a:Option Addr) (cap b o:Nat) (L:List ByteArray) (k:Nat) (e:Int) (w:World) (h:Rf w g bs k e) (hs:bs.size≤1000000) (hk:k≤bs.size) (hx:TxI w a cap b o L) (hL:L.length≤3000) (hb:0<L.length→b≠g) (hp : -9223372036854775808≤p∧p≤9223372036854775807) (he : -9223372036854775808≤edges∧edges≤9223372036854775807) :
  Calls Tryz.prog 88 #[.pointer (some ⟨g,0,none⟩),.int .i64 p,.slice a L.length cap,.int .i64 edges] w fun r w'=>NdGot w w' g bs r (gNd bs p L edges k e):=by
 have HX:Hid (∀wr,w.grownBy wr (some g)→TxI wr a cap b o L):=fun wr q=>hx.grew q hb
 obtain ⟨i1,hi1,hz10,hz11,hz12⟩:=info_parts Tryz.infoN8
 obtain ⟨i2,hi2,hz20,hz21,hz22⟩:=info_parts Tryz.infoS8
 obtain ⟨i3,hi3,hz30,hz31,hz32⟩:=info_parts Tryz.infoI7
 have hgl:=h.lt
 have HC:Hid (Rf (w.alloc (.cells #[.int .i64 0,.slice none 0 0,.slice none 0 0,.slice none 0 0] 62)) g bs k e):=At3.alloc h _
 have HR0:Hid (AtN 62 (w.alloc (.cells #[.int .i64 0,.slice none 0 0,.slice none 0 0,.slice none 0 0] 62)) w.heap.size #[.int .i64 0,.slice none 0 0,.slice none 0 0,.slice none 0 0]):=AtN.new w 62 _
 have HF0:Hid (w.grownBy (w.alloc (.cells #[.int .i64 0,.slice none 0 0,.slice none 0 0,.slice none 0 0] 62)) (some g)):=World.grownBy_alloc _ _ _
 have hsm:bs.size≤maxLen:=by unfold maxLen;omega
 have HU:Hid (∀(W:World) (k:Nat) (e m:Int),Rf W g bs k e→k≤bs.size→Calls Tryz.prog 87 #[.pointer (some ⟨g,0,none⟩),.int .u64 m] W fun r w'=>r=.returned (.int .i64 (pUint bs k e m).1)∧Rf w' g bs ((pUint bs k e m).2.1:Nat) (pUint bs k e m).2.2∧W.grownBy w' (some g)):=fun W k e m q1 q2=>ruint_any W g bs k e m q1 hsm q2
 have HI:Hid (∀(W:World) (k:Nat) (e:Int),Rf W g bs k e→k≤bs.size→Calls Tryz.prog 132 #[.pointer (some ⟨g,0,none⟩)] W fun r w'=>r=.returned (.int .i64 (pInt bs k e).1)∧Rf w' g bs ((pInt bs k e).2.1:Nat) (pInt bs k e).2.2∧W.grownBy w' (some g)):=fun W k e q1 q2=>rint_any W g bs k e q1 hsm q2
 have HFl:Hid (∀(W:World) (k:Nat) (e d:Int),Rf W g bs k e→Calls Tryz.prog 131 #[.pointer (some ⟨g,0,none⟩),.int .i64 d] W fun r w'=>r=.returned (.tuple #[])∧Rf w' g bs k (fl e d)∧W.grownBy w' (some g)):=fun W k e d q=>rfail_any W g bs k e d q
 have HSp:Hid (∀k W,Calls Tryz.prog 104 #[.int .i64 2,.int .i64 k] W fun e w'=>SpIs W w' e (newSp k)):=fun k W=>rspec2_any k W
 have hp1:=hp.1
 have hp2:=hp.2
 have he1:=he.1
 have he2:=he.2
 have HG:Hid (∃R,gNd bs p L edges k e=R∧gNd bs p L edges k e=R):=⟨_,rfl,rfl⟩
 obtain ⟨R,hR,_⟩:=HG.out
 have HRD:Hid (gNd bs p L edges k e=R):=hR
 rw [hR]
 clear HG hR hx hp he h hb
 go_enter Tryz.func88,Tryz.ntmps88
 go_wp2_with fail
 refine Calls.mono (HU.out _ k e 16777216 HC.out hk) ?_
 rintro r w1 ⟨rfl,hc1,hg1⟩
 have hk1:=pUint_at bs k e 16777216 hk
 have hq1:=pUint_top bs k e 16777216
 obtain ⟨q,k1,e1,hqk⟩:∃q k1 e1,pUint bs k e 16777216=(q,k1,e1):=⟨_,_,_,rfl⟩
 rw [hqk] at hc1 hk1 hq1 ⊢
 dsimp only at hc1 hk1 hq1 ⊢
 have HR1:Hid (AtN 62 w1 w.heap.size #[.int .i64 0,.slice none 0 0,.slice none 0 0,.slice none 0 0]):=AtN.kept HR0.out hg1 (by simp;omega)
 have HF1:Hid (w.grownBy w1 (some g)):=gtrans HF0.out hg1
 have HC1:Hid (Rf w1 g bs k1 e1):=hc1
 have HQ:Hid (gNd bs p L edges k e=if (gRest bs p L edges (newSp q) k1 (if (newSp q).ok=true then e1 else fl e1 9)).2.2=0 then (⟨q,(gRest bs p L edges (newSp q) k1 (if (newSp q).ok=true then e1 else fl e1 9)).1.1,(gRest bs p L edges (newSp q) k1 (if (newSp q).ok=true then e1 else fl e1 9)).1.2.1,(gRest bs p L edges (newSp q) k1 (if (newSp q).ok=true then e1 else fl e1 9)).1.2.2⟩,(gRest bs p L edges (newSp q) k1 (if (newSp q).ok=true then e1 else fl e1 9)).2.1,0) else (⟨0,[],[],[]⟩,(gRest bs p L edges (newSp q) k1 (if (newSp q).ok=true then e1 else fl e1 9)).2.1,(gRest bs p L edges (newSp q) k1 (if (newSp q).ok=true then e1 else fl e1 9)).2.2)):=by
  show _=_
  unfold gNd
  rw [hqk]
 rw [HRD.out] at HQ
 have hw1:=hg1.size
 simp at hw1
 clear HC HR0 HF0 hqk hc1 hg1 HRD hk
 go_wp2_with fail
 refine Calls.mono (HSp.out q _) ?_
 rintro r w2 ⟨v,rfl,hS,hb2⟩
 obtain ⟨S,hSq⟩:∃S,newSp q=S:=⟨_,rfl⟩
 rw [hSq] at hS HQ ⊢
 obtain ⟨sb,sc,hv⟩:∃sb sc,v=.slice sb S.ints.length sc:=by
  rcases hS.2 with ⟨rfl,h0⟩|⟨g',cap',cur',rfl,_⟩
  ·exact ⟨_,_,by rw [h0]⟩
  ·exact ⟨_,_,rfl⟩
 subst hv
 simp at hS hb2
 have HGi:=Gi.start HF1.out HC1.out HR1.out hb2 hS hgl hw1 hk1.2
 have HG:Hid _:=HGi
 clear HGi HR1 HF1 HC1 hS hb2 hw1 HSp
 go_upto_if 29 with fail
 go_cut [11] (fun _ wc=>Hid (Gi w wc g w1.heap.size w2.heap.size bs k1 (if S.ok=true then e1 else fl e1 9) ⟨q,[],[],[]⟩ (.slice none 0 0) (.slice none 0 0) (.slice none 0 0) sb sc S))
 case first=>
  cases hok:S.ok
  ·go_wp2_with fail
   refine Calls.mono (HFl.out _ k1 e1 9 HG.out.cur) ?_
   rintro r w3 ⟨rfl,hc3,hg3⟩
   go_wp2_with fail
   go_meet
   show Gi _ _ _ _ _ _ _ _ _ _ _ _ _ _ _
   rw [if_neg (by rw [hok];decide)]
   exact HG.out.read hg3 hc3 hk1.2
  ·go_wp2_with fail
   go_meet
   show Gi _ _ _ _ _ _ _ _ _ _ _ _ _ _ _
   rw [if_pos hok]
   exact HG.out
 case rest=>
  clear HG
  obtain ⟨e2,he2⟩:∃e2,(if S.ok=true then e1 else fl e1 9)=e2:=⟨_,rfl⟩
  rw [he2] at HQ hcut
  clear he2
  generalize w1.heap.size=gN at hcut ⊢
  generalize w2.heap.size=gS at hcut ⊢
  have HG:=hcut
  clear hcut
  obtain ⟨hsn,hst1,hst2,hsl1,hsl2,hsm1,hsm2⟩:=newSp_small q
  rw [hSq] at hsn hst1 hst2 hsl1 hsl2 hsm1 hsm2
  clear hSq
  obtain ⟨A,k4,e4,hA⟩:∃A k4 e4,gIs bs S.ints k1 e2=(A,k4,e4):=⟨_,_,_,rfl⟩
  obtain ⟨B,k5,e5,hB⟩:∃B k5 e5,gTs bs L S.texts.toNat k4 e4=(B,k5,e5):=⟨_,_,_,rfl⟩
  obtain ⟨m,k6,e6,hM⟩:∃m k6 e6,pUint bs k5 e5 (max edges 0)=(m,k6,e6):=⟨_,_,_,rfl⟩
  obtain ⟨bm,hbm⟩:∃bm,decide (m<S.least∨(0≤S.most∧S.most<m))=bm:=⟨_,rfl⟩
  obtain ⟨e7,h7⟩:∃e7,(if bm=true then fl e6 12 else e6)=e7:=⟨_,rfl⟩
  obtain ⟨K,k8,e8,hK⟩:∃K k8 e8,gKs bs p m.toNat k6 e7=(K,k8,e8):=⟨_,_,_,rfl⟩
  rw [gRest_eq hA hB hM (by rw [hbm];exact h7) hK] at HQ
  dsimp only at HQ
  have hm:=pUint_top bs k5 e5 (max edges 0)
  rw [hM] at hm
  dsimp only at hm
  have HA:Hid _:=hA
  have HB:Hid _:=hB
  have HM:Hid _:=hM
  have HBm:Hid _:=hbm
  have H7:Hid _:=h7
  have HK:Hid _:=hK
  clear hA hB hM hbm h7 hK
  go_upto_block 0 with fail
  go_cut [] (fun wc=>∃v1,Hid (Gi w wc g gN gS bs k4 e4 ⟨q,A,[],[]⟩ v1 (.slice none 0 0) (.slice none 0 0) sb sc S))
  case first=>
   go_wp2_with fail
   go_loopg [12,13] S.ints.length (fun gh s12 _ wr=>∃(i k':Nat) (e':Int) (I:List Int) (v1:Value),s12=.int .i64 i∧gh=S.ints.length-i∧i≤S.ints.length∧I.length=i∧Hid (I++(gIs bs (S.ints.drop i) k' e').1=A∧(gIs bs (S.ints.drop i) k' e').2=(k4,e4))∧Hid (Gi w wr g gN gS bs k' e' ⟨q,I,[],[]⟩ v1 (.slice none 0 0) (.slice none 0 0) sb sc S))
   case atStart=>exact ⟨0,k1,e2,[],_,rfl,rfl,Nat.zero_le _,rfl,(by show _∧_;rw [List.drop_zero,HA.out];exact ⟨rfl,rfl⟩),HG⟩
   case round=>
    clear HG
    obtain ⟨i,k',e',I,v1,rfl,rfl,hi,rfl,HE,HN⟩:=hrel
    have d0:=HN.out.d0
    have ce:=HN.out.ce
    have hkb:=HN.out.kb
    by_cases hlt:I.length<S.ints.length∧e'=0
    ·obtain ⟨hlt,rfl⟩:=hlt
     have hlt':(I.length:Int)<S.ints.length:=by omega
     obtain ⟨x,k3,e3,hq⟩:∃x k3 e3,pInt bs k' 0=(x,k3,e3):=⟨_,_,_,rfl⟩
     have hx:=pInt_top bs k' 0 hkb
     have hk3:=pInt_at bs k' 0 hkb
     have hIc:=HI.out wr k' 0 HN.out.cur hkb
     rw [hq] at hx hk3 hIc
     dsimp only at hx hk3 hIc
     have hE2:=gIs_next bs S.ints I.length k' hlt hq
     have hR:=fun W=>rin_any (S.ints.getD I.length 0) x W hx.1 hx.2
     have hcl:=iV_at S.ints I.length hlt
     generalize S.ints.getD I.length 0=c at hE2 hR hcl
     have HE2:Hid _:=hE2
     have HIc:Hid _:=hIc
     have HR:Hid _:=hR
     have HCl:Hid _:=hcl
     generalize in7 c x=bb at HE2 HR
     clear hIc hR hcl hE2 hq
     go_wp2_with fail
     refine Calls.mono HIc.out ?_
     rintro r w3 ⟨rfl,hc3,hg3⟩
     have HN3:Hid _:=HN.out.read hg3 hc3 hk3.2
     clear HN hg3 hc3 HIc d0 ce
     obtain ⟨gb,ob,hsb,lb,db⟩:=(LsAt.of_own HN3.out.cls).at HCl.out
     have d0:w3.cell? ⟨gS,0,none⟩=some (.slice (some ⟨gb,ob,none⟩) S.ints.length sc):=by rw [HN3.out.d0,hsb]
     clear hsb lb HCl
     go_wp2_with fail
     refine Calls.mono (HR.out _) ?_
     rintro r w4 ⟨rfl,hw4⟩
     rw [hw4]
     clear hw4 HR d0 db
     go_upto_if 55 with fail
     go_cut [] (fun wc=>Hid (Gi w wc g gN gS bs k3 (if bb=true then e3 else fl e3 10) ⟨q,I,[],[]⟩ v1 (.slice none 0 0) (.slice none 0 0) sb sc S))
     case first=>
      cases bb
      ·go_wp2_with fail
       refine Calls.mono (HFl.out _ k3 e3 10 HN3.out.cur) ?_
       rintro r w5 ⟨rfl,hc5,hg5⟩
       go_wp2_with fail
       go_meet
       exact HN3.out.read hg5 hc5 hk3.2
      ·go_wp2_with fail
       go_meet
       exact HN3.out
     case rest=>
      clear HN3
      obtain ⟨e4',he4⟩:∃e4',(if bb=true then e3 else fl e3 10)=e4':=⟨_,rfl⟩
      rw [he4] at HE2 hcut
      clear he4
      have HN4:=hcut
      clear hcut
      have c1:=HN4.out.c1
      have hsz:=HN4.out.szS
      go_wp2_with (at_builtin;refine wpList_append_lies _ rfl (.tmp 59) (.tmp 61) 58 rfl (gS+1) 2 i1 (.int .i64 0) 1 8 Tryz.underlying58 hi1 hz10 hz11 hz12 rfl (by decide) v1 I.length (iV I) rfl (HN4.out.own.i.alloc _) ⟨wc.heap.size,0,none⟩ 1 1 [.int .i64 x] rfl rfl (cell_one_new _ _ _) (by intro u hu;simp at hu;subst hu;rfl) (by decide) (by unfold maxLen;omega) (by omega) (by simp;omega) _ rfl ?_)
      intro g2 cap2 w5 hown2 hgrow2 hlie hlt2
      have HN5:Hid _:=HN4.out.more ((Below.refl _ _).alloc (Nat.le_refl _) (.cells #[.int .i64 x] 2))
      have HN6:Hid _:=HN5.out.app1 hgrow2 hown2
      obtain ⟨-,hnd5,-⟩:=HN5.out.keep hgrow2 HN5.out.rows.1
      have c1:=hnd5.cell 1
      have f1:=hnd5.fz 1
      clear HN4 HN5 hgrow2 hown2 hlie hlt2 hnd5
      go_wp2_with fail
      go_roundg (S.ints.length-(I.length+1))
      case measure=>omega
      case rel=>
       exact ⟨I.length+1,k3,e4',I++[x],_,by go_num,rfl,by omega,by simp,(by show _∧_;have h:=HE.out;rw [HE2.out] at h;exact ⟨by rw [← h.1,List.append_assoc];rfl,h.2⟩),HN6⟩
    ·have h:=HE.out
     rw [gIs_end bs S.ints I.length k' e' (by omega)] at h
     obtain ⟨h1,h2⟩:=h
     rw [List.append_nil] at h1
     simp only [Prod.mk.injEq] at h2
     obtain ⟨h2,h3⟩:=h2
     rw [h1,h2,h3] at HN
     rw [h3] at ce hlt
     clear HE h1 h2 h3 HA hkb
     by_cases hl2:I.length<S.ints.length
     ·have hl3:(I.length:Int)<S.ints.length:=by omega
      have hez:¬e4=0:=fun h=>hlt ⟨hl2,h⟩
      go_wp2_with fail
      go_meet
      exact ⟨v1,HN⟩
     ·have hl3:¬(I.length:Int)<S.ints.length:=by omega
      go_wp2_with fail
      go_meet
      exact ⟨v1,HN⟩
  case rest=>
   clear HG HA
   obtain ⟨v1,HN⟩:=hcut
   go_upto_block 2 with fail
   go_cut [] (fun wc=>∃v2,Hid (Gi w wc g gN gS bs k5 e5 ⟨q,A,B,[]⟩ v1 v2 (.slice none 0 0) sb sc S))
   case first=>
    go_wp2_with fail
    go_loopg [14,15] S.texts.toNat (fun gh s14 _ wr=>∃(j k':Nat) (e':Int) (T:List ByteArray) (v2:Value),s14=.int .i64 j∧gh=S.texts.toNat-j∧j≤S.texts.toNat∧T.length≤j∧Hid (T++(gTs bs L (S.texts.toNat-j) k' e').1=B∧(gTs bs L (S.texts.toNat-j) k' e').2=(k5,e5))∧Hid (Gi w wr g gN gS bs k' e' ⟨q,A,T,[]⟩ v1 v2 (.slice none 0 0) sb sc S))
    case atStart=>exact ⟨0,k4,e4,[],_,rfl,rfl,Nat.zero_le _,Nat.le_refl _,(by show _∧_;rw [Nat.sub_zero,HB.out];exact ⟨rfl,rfl⟩),HN⟩
    case round=>
     clear HN HB
     obtain ⟨j,k',e',T,v2,rfl,rfl,hj,hT,HE,HN⟩:=hrel
     have d1:=HN.out.d1
     have ce:=HN.out.ce
     have hkb:=HN.out.kb
     by_cases hlt:j<S.texts.toNat∧e'=0
     ·obtain ⟨hlt,rfl⟩:=hlt
      have hlt':(j:Int)<S.texts:=by omega
      obtain ⟨x,k3,e3,hq⟩:∃x k3 e3,pUint bs k' 0 16777216=(x,k3,e3):=⟨_,_,_,rfl⟩
      have hx:=pUint_top bs k' 0 16777216
      have hk3:=pUint_at bs k' 0 16777216 hkb
      have hUc:=HU.out wr k' 0 16777216 HN.out.cur hkb
      rw [hq] at hx hk3 hUc
      dsimp only at hx hk3 hUc
      have hE2:=HE.out
      rw [show S.texts.toNat-j=(S.texts.toNat-(j+1))+1 by omega,gTs_next bs L (S.texts.toNat-(j+1)) k' hq] at hE2
      have HE2:Hid _:=hE2
      have HUc:Hid _:=hUc
      clear hUc hq hE2 HE
      go_wp2_with fail
      refine Calls.mono HUc.out ?_
      rintro r w3 ⟨rfl,hc3,hg3⟩
      have HN3:Hid _:=HN.out.read hg3 hc3 hk3.2
      clear HN hg3 hc3 HUc d1 ce
      have ce:=HN3.out.ce
      by_cases h3:e3=0
      ·subst h3
       by_cases hxl:(L.length:Int)≤x
       ·go_wp2_with fail
        refine Calls.mono (HFl.out _ k3 0 13 HN3.out.cur) ?_
        rintro r w4 ⟨rfl,hc4,hg4⟩
        have HN4:Hid (Gi w w4 g gN gS bs k3 13 ⟨q,A,T,[]⟩ v1 v2 (.slice none 0 0) sb sc S):=HN3.out.read hg4 hc4 hk3.2
        clear HN3 ce hc4 hg4
        have ce:=HN4.out.ce
        go_wp2_with fail
        go_roundg (S.texts.toNat-(j+1))
        case measure=>omega
        case rel=>
         exact ⟨j+1,k3,13,T,v2,by go_num,rfl,by omega,by omega,(by show _∧_;have h:=HE2.out;rw [if_neg (by decide),if_pos hxl] at h;rw [gTs_stop bs L _ k3 (by decide)];exact h),HN4⟩
       ·obtain ⟨xn,rfl⟩:∃xn:Nat,x=xn:=⟨x.toNat,by omega⟩
        have hxl':xn<L.length:=by omega
        have hat:=HX.out w3 HN3.out.fr
        have hptr:=hat.ptr (by omega)
        have hcl:=(hat.at_ xn hxl').2
        clear hat
        subst hptr
        have c2:=HN3.out.c2
        have hsz:=HN3.out.szS
        have hsn2:L.getD xn noT=L[xn]:=by simp [List.getD_eq_getElem?_getD,List.getElem?_eq_getElem hxl']
        have HE3:Hid (T++(L[xn] :: (gTs bs L (S.texts.toNat-(j+1)) k3 0).1)=B∧(gTs bs L (S.texts.toNat-(j+1)) k3 0).2=(k5,e5)):=by
         have h:=HE2.out
         rw [if_neg (by decide),if_neg hxl,Int.toNat_natCast,hsn2] at h
         exact h
        clear HE2 hsn2
        generalize L[xn]=s at hcl HE3
        have c2a:(w3.alloc (.cells #[.string s] 9)).cell? ⟨gN,2,none⟩=some v2:=(HN3.out.nd.alloc _).cell 2
        go_wp2_with fail
        go_region_law (refine step_append_lies _ rfl (.tmp 98) (.tmp 103) 59 rfl (gS+1) 9 i2 (.string ⟨#[]⟩) 1 16 Tryz.underlying59 hi2 hz20 hz21 hz22 rfl (by decide) v2 T.length (tV T) rfl (HN3.out.own.t.alloc _).drew ⟨w3.heap.size,0,none⟩ 1 1 [.string s] rfl rfl (cell_one_new _ _ _) (by intro u hu;simp at hu;subst hu;rfl) (by decide) (by unfold maxLen;omega) (by omega) (by simp;omega) _ rfl ?_;intro g2 cap2 w5 hown2 hgrow2 _ _;have HN5:Hid _:=HN3.out.more ((Below.refl _ _).alloc (Nat.le_refl _) (.cells #[.string s] 9)).drew;have HN6:Hid _:=HN5.out.app2 hgrow2 hown2;have c5:=(HN5.out.keep hgrow2 HN5.out.rows.2.1).2.1.cell 2;have f5:=(HN5.out.keep hgrow2 HN5.out.rows.2.1).2.1.fz 2;clear HN5 hgrow2 hown2)
        all_goals
         clear HN3
         go_wp2_with fail
         go_roundg (S.texts.toNat-(j+1))
         case measure=>omega
         case rel=>
          exact ⟨j+1,k3,0,T++[s],_,by go_num,rfl,by omega,by simp;omega,(by show _∧_;have h:=HE3.out;exact ⟨by rw [← h.1,List.append_assoc];rfl,h.2⟩),HN6⟩
      ·go_wp2_with fail
       go_roundg (S.texts.toNat-(j+1))
       case measure=>omega
       case rel=>
        exact ⟨j+1,k3,e3,T,v2,by go_num,rfl,by omega,by omega,(by show _∧_;have h:=HE2.out;rw [if_pos h3] at h;rw [gTs_stop bs L _ k3 h3];exact h),HN3⟩
     ·have h:=HE.out
      rw [gTs_end bs L (S.texts.toNat-j) k' e' (by omega)] at h
      obtain ⟨h1,h2⟩:=h
      rw [List.append_nil] at h1
      simp only [Prod.mk.injEq] at h2
      obtain ⟨h2,h3⟩:=h2
      rw [h1,h2,h3] at HN
      rw [h3] at ce hlt
      clear HE h1 h2 h3 hkb
      by_cases hl2:j<S.texts.toNat
      ·have hl3:(j:Int)<S.texts:=by omega
       have hez:¬e5=0:=fun h=>hlt ⟨hl2,h⟩
       go_wp2_with fail
       go_meet
       exact ⟨v2,HN⟩
      ·have hl3:¬(j:Int)<S.texts:=by omega
       go_wp2_with fail
       go_meet
       exact ⟨v2,HN⟩
   case rest=>
    clear HN HB HX
    obtain ⟨v2,HN⟩:=hcut
    go_upto_if 107 with fail
    go_cut [3] (fun s3 wc=>s3=.int .i64 (max edges 0)∧Hid (Gi w wc g gN gS bs k5 e5 ⟨q,A,B,[]⟩ v1 v2 (.slice none 0 0) sb sc S))
    case first=>
     by_cases hed:edges<0
     ·have hmx:max edges 0=0:=by omega
      go_wp2_with fail
      go_meet
      exact ⟨by rw [hmx],HN⟩
     ·have hmx:max edges 0=edges:=by omega
      go_wp2_with fail
      go_meet
      exact ⟨by rw [hmx],HN⟩
    case rest=>
     clear HN
     obtain ⟨rfl,HN⟩:=hcut
     have hed1:0≤max edges 0:=by omega
     have hed2:max edges 0≤9223372036854775807:=by omega
     have hUc:=HU.out wc k5 e5 (max edges 0) HN.out.cur HN.out.kb
     have hk6:=pUint_at bs k5 e5 (max edges 0) HN.out.kb
     rw [HM.out] at hUc hk6
     dsimp only at hUc hk6
     have HUc:Hid _:=hUc
     clear hUc HM
     generalize max edges 0=ed at hed1 hed2 HUc ⊢
     go_wp2_with fail
     refine Calls.mono HUc.out ?_
     rintro r w3 ⟨rfl,hc3,hg3⟩
     have HN3:Hid _:=HN.out.read hg3 hc3 hk6.2
     clear HN hg3 hc3 HUc hed1 hed2
     go_upto_region 23 with fail
     go_cut [126] (fun s126 wc=>s126=.bool bm∧Hid (Gi w wc g gN gS bs k6 e6 ⟨q,A,B,[]⟩ v1 v2 (.slice none 0 0) sb sc S))
     case first=>
      have d2:=HN3.out.d2
      have d3:=HN3.out.d3
      by_cases c1:m<S.least
      ·obtain rfl:bm=true:=by rw [← HBm.out];exact decide_eq_true (.inl c1)
       go_wp2_with fail
       go_meet
       exact ⟨rfl,HN3⟩
      ·by_cases c2:0≤S.most
       ·by_cases c3:S.most<m
        ·obtain rfl:bm=true:=by rw [← HBm.out];exact decide_eq_true (.inr ⟨c2,c3⟩)
         go_wp2_with fail
         go_meet
         exact ⟨rfl,HN3⟩
        ·obtain rfl:bm=false:=by rw [← HBm.out];exact decide_eq_false (by omega)
         go_wp2_with fail
         go_meet
         exact ⟨rfl,HN3⟩
       ·obtain rfl:bm=false:=by rw [← HBm.out];exact decide_eq_false (by omega)
        go_wp2_with fail
        go_meet
        exact ⟨rfl,HN3⟩
     case rest=>
      clear HN3 HBm
      obtain ⟨rfl,HN⟩:=hcut
      go_upto_if 126 with fail
      go_cut [] (fun wc=>Hid (Gi w wc g gN gS bs k6 e7 ⟨q,A,B,[]⟩ v1 v2 (.slice none 0 0) sb sc S))
      case first=>
       have h7:=H7.out
       clear H7
       cases bm
       ·rw [if_neg (by decide)] at h7
        subst h7
        go_wp2_with fail
        go_meet
        exact HN
       ·rw [if_pos rfl] at h7
        subst h7
        go_wp2_with fail
        refine Calls.mono (HFl.out _ k6 e6 12 HN.out.cur) ?_
        rintro r w4 ⟨rfl,hc4,hg4⟩
        go_wp2_with fail
        go_meet
        exact HN.out.read hg4 hc4 HN.out.kb
      case rest=>
       clear HN H7
       have HN:=hcut
       clear hcut
       go_upto_block 4 with fail
       go_cut [] (fun wc=>∃v3,Hid (Gi w wc g gN gS bs k8 e8 ⟨q,A,B,K⟩ v1 v2 v3 sb sc S))
       case first=>
        go_wp2_with fail
        go_loopg [17,18] m.toNat (fun gh s17 _ wr=>∃(j k':Nat) (e':Int) (I:List Int) (v3:Value),s17=.int .i64 j∧gh=m.toNat-j∧j≤m.toNat∧I.length=j∧Hid (I++(gKs bs p (m.toNat-j) k' e').1=K∧(gKs bs p (m.toNat-j) k' e').2=(k8,e8))∧Hid (Gi w wr g gN gS bs k' e' ⟨q,A,B,I⟩ v1 v2 v3 sb sc S))
        case atStart=>exact ⟨0,k6,e7,[],_,rfl,rfl,Nat.zero_le _,rfl,(by show _∧_;rw [Nat.sub_zero,HK.out];exact ⟨rfl,rfl⟩),HN⟩
        case round=>
         clear HN HK
         obtain ⟨j,k',e',I,v3,rfl,rfl,hj,rfl,HE,HN⟩:=hrel
         have ce:=HN.out.ce
         have hkb:=HN.out.kb
         by_cases hlt:I.length<m.toNat∧e'=0
         ·obtain ⟨hlt,rfl⟩:=hlt
          have hlt':(I.length:Int)<m:=by omega
          obtain ⟨x,k3,e3,hq⟩:∃x k3 e3,pUint bs k' 0 16777216=(x,k3,e3):=⟨_,_,_,rfl⟩
          have hx:=pUint_top bs k' 0 16777216
          have hk3:=pUint_at bs k' 0 16777216 hkb
          have hUc:=HU.out wr k' 0 16777216 HN.out.cur hkb
          rw [hq] at hx hk3 hUc
          dsimp only at hx hk3 hUc
          have hE2:=HE.out
          rw [show m.toNat-I.length=(m.toNat-(I.length+1))+1 by omega,gKs_next bs p (m.toNat-(I.length+1)) k' hq] at hE2
          obtain ⟨bb,hbb⟩:∃bb,decide (x<1∨p<x)=bb:=⟨_,rfl⟩
          rw [hbb] at hE2
          have HE2:Hid _:=hE2
          have HUc:Hid _:=hUc
          have HBb:Hid _:=hbb
          clear hUc hq hE2 HE hbb
          go_wp2_with fail
          refine Calls.mono HUc.out ?_
          rintro r w3 ⟨rfl,hc3,hg3⟩
          have HN3:Hid _:=HN.out.read hg3 hc3 hk3.2
          clear HN hg3 hc3 HUc ce
          go_upto_region 29 with fail
          go_cut [149] (fun s149 wc=>s149=.bool bb∧Hid (Gi w wc g gN gS bs k3 e3 ⟨q,A,B,I⟩ v1 v2 v3 sb sc S))
          case first=>
           by_cases c1:x<1
           ·obtain rfl:bb=true:=by rw [← HBb.out];exact decide_eq_true (.inl c1)
            go_wp2_with fail
            go_meet
            exact ⟨rfl,HN3⟩
           ·by_cases c2:p<x
            ·obtain rfl:bb=true:=by rw [← HBb.out];exact decide_eq_true (.inr c2)
             go_wp2_with fail
             go_meet
             exact ⟨rfl,HN3⟩
            ·obtain rfl:bb=false:=by rw [← HBb.out];exact decide_eq_false (by omega)
             go_wp2_with fail
             go_meet
             exact ⟨rfl,HN3⟩
          case rest=>
           clear HN3 HBb
           obtain ⟨rfl,HN3⟩:=hcut
           go_upto_if 149 with fail
           go_cut [] (fun wc=>Hid (Gi w wc g gN gS bs k3 (if bb=true then fl e3 13 else e3) ⟨q,A,B,I⟩ v1 v2 v3 sb sc S))
           case first=>
            cases bb
            ·go_wp2_with fail
             go_meet
             exact HN3.out
            ·go_wp2_with fail
             refine Calls.mono (HFl.out _ k3 e3 13 HN3.out.cur) ?_
             rintro r w5 ⟨rfl,hc5,hg5⟩
             go_wp2_with fail
             go_meet
             exact HN3.out.read hg5 hc5 hk3.2
           case rest=>
            clear HN3
            obtain ⟨e4',he4⟩:∃e4',(if bb=true then fl e3 13 else e3)=e4':=⟨_,rfl⟩
            rw [he4] at HE2 hcut
            clear he4
            have HN4:=hcut
            clear hcut
            have c3:=HN4.out.c3
            have hsz:=HN4.out.szS
            go_wp2_with (at_builtin;refine wpList_append_lies _ rfl (.tmp 153) (.tmp 157) 60 rfl (gS+1) 3 i3 (.int .i64 0) 1 8 Tryz.underlying60 hi3 hz30 hz31 hz32 rfl (by decide) v3 I.length (iV I) rfl (HN4.out.own.k.alloc _) ⟨wc.heap.size,0,none⟩ 1 1 [.int .i64 (wrap64 (p-x))] rfl rfl (cell_one_new _ _ _) (by intro u hu;simp at hu;subst hu;rfl) (by decide) (by unfold maxLen;omega) (by omega) (by simp;omega) _ rfl ?_)
            intro g2 cap2 w5 hown2 hgrow2 hlie hlt2
            have HN5:Hid _:=HN4.out.more ((Below.refl _ _).alloc (Nat.le_refl _) (.cells #[.int .i64 (wrap64 (p-x))] 3))
            have HN6:Hid _:=HN5.out.app3 hgrow2 hown2
            obtain ⟨-,hnd5,-⟩:=HN5.out.keep hgrow2 HN5.out.rows.2.2
            have c5:=hnd5.cell 3
            have f5:=hnd5.fz 3
            clear HN4 HN5 hgrow2 hown2 hlie hlt2 hnd5
            go_wp2_with fail
            go_roundg (m.toNat-(I.length+1))
            case measure=>omega
            case rel=>
             exact ⟨I.length+1,k3,e4',I++[wrap64 (p-x)],_,by go_num,rfl,by omega,by simp,(by show _∧_;have h:=HE2.out;exact ⟨by rw [← h.1,List.append_assoc];rfl,h.2⟩),HN6⟩
         ·have h:=HE.out
          rw [gKs_end bs p (m.toNat-I.length) k' e' (by omega)] at h
          obtain ⟨h1,h2⟩:=h
          rw [List.append_nil] at h1
          simp only [Prod.mk.injEq] at h2
          obtain ⟨h2,h3⟩:=h2
          rw [h1,h2,h3] at HN
          rw [h3] at ce hlt
          clear HE h1 h2 h3 hkb
          by_cases hl2:I.length<m.toNat
          ·have hl3:(I.length:Int)<m:=by omega
           have hez:¬e8=0:=fun h=>hlt ⟨hl2,h⟩
           go_wp2_with fail
           go_meet
           exact ⟨v3,HN⟩
          ·have hl3:¬(I.length:Int)<m:=by omega
           go_wp2_with fail
           go_meet
           exact ⟨v3,HN⟩
       case rest=>
        clear HN HK
        obtain ⟨v3,HN⟩:=hcut
        have ce:=HN.out.ce
        have r0:=HN.out.res.cell 0
        have r1:=HN.out.res.cell 1
        have r2:=HN.out.res.cell 2
        have r3:=HN.out.res.cell 3
        have f0:=HN.out.res.fz 0
        have f1:=HN.out.res.fz 1
        have f2:=HN.out.res.fz 2
        have f3:=HN.out.res.fz 3
        by_cases h8:e8=0
        ·subst h8
         obtain ⟨a1,c1,rfl⟩:=own_shape7 HN.out.own.i
         obtain ⟨a2,c2,rfl⟩:=own_shape7 HN.out.own.t
         obtain ⟨a3,c3,rfl⟩:=own_shape7 HN.out.own.k
         have n0:=HN.out.c0
         have n1:=HN.out.c1
         have n2:=HN.out.c2
         have n3:=HN.out.c3
         have HR:Hid (R=(⟨q,A,B,K⟩,k8,0)):=by
          have h:=HQ.out
          rw [if_pos rfl] at h
          exact h
         clear HQ
         go_wp2_with fail
         have A4:=at_set4 HN.out.res (.int .i64 q) (.slice a1 A.length c1) (.slice a2 B.length c2) (.slice a3 K.length c3)
         have z0:=A4.cell 0
         have z1:=A4.cell 1
         have z2:=A4.cell 2
         have z3:=A4.cell 3
         refine bodyPost_ret (v:=.agg #[.int .i64 q,.slice a1 A.length c1,.slice a2 B.length c2,.slice a3 K.length c3]) (by simp [results,Tryz.results88,go_sem, *]) rfl ?_
         rw [HR.out]
         exact HN.out.fin _ _ _ _ ⟨q,A,B,K⟩ HN.out.own
        ·have HR:Hid (R=(⟨0,[],[],[]⟩,k8,e8)):=by
          have h:=HQ.out
          rw [if_neg h8] at h
          exact h
         clear HQ
         go_wp2_with fail
         have A4:=at_set4 HN.out.res (.int .i64 0) (.slice none 0 0) (.slice none 0 0) (.slice none 0 0)
         have z0:=A4.cell 0
         have z1:=A4.cell 1
         have z2:=A4.cell 2
         have z3:=A4.cell 3
         refine bodyPost_ret (v:=.agg #[.int .i64 0,.slice none 0 0,.slice none 0 0,.slice none 0 0]) (by simp [results,Tryz.results88,go_sem, *]) rfl ?_
         rw [HR.out]
         exact HN.out.fin _ _ _ _ ⟨0,[],[],[]⟩ ⟨own_nil _ _ _,own_nil _ _ _,own_nil _ _ _⟩
end Go.Proofs.YtcgjgjjegnofeaaGreatDoor
