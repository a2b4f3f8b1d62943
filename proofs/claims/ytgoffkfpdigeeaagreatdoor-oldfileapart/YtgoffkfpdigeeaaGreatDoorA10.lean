import Derived.Deep.RegionHeld3
import Derived.Test.YtgoffkfpdigeeaaGreatDoorA09
import Derived.Lib.Strings
import Derived.Deep.AppendLies
import Derived.Deep.RegionLaw
import Derived.Laws.OwnMore
import Derived.Test.YtgoffkfpdigeeaaGreatDoorA07
import Derived.Test.YtgoffkfpdigeeaaGreatDoorA08
import Derived.Test.YtgoffkfpdigeeaaGreatDoorA06
import Derived.Test.YtgoffkfpdigeeaaGreatDoorA04
import Derived.Deep.CutBlock
import Derived.Deep.DeepCutAuto
namespace Go.Proofs.YtgoffkfpdigeeaaGreatDoor
open Go.RowKit
def Rf (w:World) (g:Nat) (b:ByteArray) (k:Int) (e:Int):Prop:=At3 72 w g (.string b) (.int .i64 k) (.int .i64 e)
theorem Rf.to {w:World} {g:Nat} {b:ByteArray} {k k' e e':Int} (h:Rf w g b k' e') (hk:k'=k) (he:e'=e):Rf w g b k e:=by subst hk;subst he;exact h
end Go.Proofs.YtgoffkfpdigeeaaGreatDoor
namespace Go.Proofs.YtgoffkfpdigeeaaGreatDoor
open Go.RowKit
end Go.Proofs.YtgoffkfpdigeeaaGreatDoor
namespace Go.Proofs.YtgoffkfpdigeeaaGreatDoor
open Go.RowKit
def itF (L T:List ByteArray):List ByteArray:=T.foldl pIntern L
theorem pIntern_at {L:List ByteArray} {s t:ByteArray} (h:idx6 s L<L.length):idx6 s (pIntern L t)=idx6 s L∧idx6 s (pIntern L t)<(pIntern L t).length:=by
 unfold pIntern
 split
 ·exact ⟨rfl,h⟩
 ·have:=idx6_append s L [t] h
  exact ⟨this,by rw [this,List.length_append];omega⟩
theorem itF_at (T:List ByteArray):∀{L:List ByteArray} {s:ByteArray},idx6 s L<L.length→idx6 s (itF L T)=idx6 s L∧idx6 s (itF L T)<(itF L T).length:=by
 induction T with
 | nil=>intro L s h;exact ⟨rfl,h⟩
 | cons x r ih=>
  intro L s h
  obtain ⟨h1,h2⟩:=pIntern_at (t:=x) h
  obtain ⟨h3,h4⟩:=ih (L:=pIntern L x) (s:=s) (by rw [h1] at h2 ⊢;exact h2)
  exact ⟨h3.trans h1,h4⟩
def rOk (N:Nd) (p:Int):Bool:=(List.range N.kids.length).all fun i=>decide (0≤N.kids.getD i 0∧N.kids.getD i 0<p)
theorem rOk_yes {N:Nd} {p:Int} (h:∀i,i<N.kids.length→0≤N.kids.getD i 0∧N.kids.getD i 0<p):rOk N p=true:=by
 unfold rOk
 rw [List.all_eq_true]
 intro i hi
 exact decide_eq_true (h i (by simpa using hi))
def rE (N:Nd) (p:Int):Int:=if tyN N=0 then (if rOk N p=true then 0 else 13) else tyN N
def rI (l:List Int):List UInt8:=l.flatMap fun z=>put (zig z).toNat
def rT (M l:List ByteArray):List UInt8:=l.flatMap fun s=>put (idx6 s M)
def rK (p:Int) (l:List Int):List UInt8:=l.flatMap fun k=>put (p-k).toNat
def rB (N:Nd) (p:Int) (L:List ByteArray):List UInt8:=put N.kind.toNat++rI N.ints++rT (itF L N.texts) N.texts++put N.kids.length++rK p N.kids
theorem flat_take {α : Type} (f : α→List UInt8) (l:List α) (d : α) (i:Nat) (h:i<l.length):(l.take (i+1)).flatMap f=(l.take i).flatMap f++f (l.getD i d):=by
 rw [List.take_add_one,List.getElem?_eq_getElem h,List.flatMap_append,List.getD_eq_getElem?_getD,List.getElem?_eq_getElem h]
 simp
theorem flat_ten {α : Type} (f : α→Nat) (l:List α):(l.flatMap fun z=>put (f z)).length≤10*l.length:=by
 induction l with
 | nil=>simp
 | cons x r ih=>
  have:=(put_length (f x)).2
  rw [List.flatMap_cons,List.length_append,List.length_cons]
  omega
end Go.Proofs.YtgoffkfpdigeeaaGreatDoor
namespace Go.Proofs.YtgoffkfpdigeeaaGreatDoor
open Go.RowKit
end Go.Proofs.YtgoffkfpdigeeaaGreatDoor
namespace Go.Proofs.YtgoffkfpdigeeaaGreatDoor
open Go.RowKit
def fl (e d:Int):Int:=if e=0 then d else e
def gIs (b:ByteArray):List Int→Nat→Int→List Int × Nat × Int
 | [],k,e=>([],k,e)
 | c :: r,k,e=>if e≠0 then ([],k,e) else
  ((pInt b k e).1 :: (gIs b r (pInt b k e).2.1 (if in7 c (pInt b k e).1=true then (pInt b k e).2.2 else fl (pInt b k e).2.2 10)).1,
   (gIs b r (pInt b k e).2.1 (if in7 c (pInt b k e).1=true then (pInt b k e).2.2 else fl (pInt b k e).2.2 10)).2)
def gTs (b:ByteArray) (L:List ByteArray):Nat→Nat→Int→List ByteArray × Nat × Int
 | 0,k,e=>([],k,e)
 | n+1,k,e=>if e≠0 then ([],k,e) else
  if (pUint b k e 16777216).2.2≠0 then ([],(pUint b k e 16777216).2.1,(pUint b k e 16777216).2.2)
  else if (L.length:Int)≤(pUint b k e 16777216).1 then ([],(pUint b k e 16777216).2.1,13)
  else (L.getD (pUint b k e 16777216).1.toNat noT :: (gTs b L n (pUint b k e 16777216).2.1 0).1,(gTs b L n (pUint b k e 16777216).2.1 0).2)
def gKs (b:ByteArray) (p:Int):Nat→Nat→Int→List Int × Nat × Int
 | 0,k,e=>([],k,e)
 | n+1,k,e=>if e≠0 then ([],k,e) else
  (wrap64 (p-(pUint b k e 16777216).1) :: (gKs b p n (pUint b k e 16777216).2.1 (if (pUint b k e 16777216).1<1∨p<(pUint b k e 16777216).1 then fl (pUint b k e 16777216).2.2 13 else (pUint b k e 16777216).2.2)).1,
   (gKs b p n (pUint b k e 16777216).2.1 (if (pUint b k e 16777216).1<1∨p<(pUint b k e 16777216).1 then fl (pUint b k e 16777216).2.2 13 else (pUint b k e 16777216).2.2)).2)
def gRest (b:ByteArray) (p:Int) (L:List ByteArray) (edges:Int) (S:Sp) (k:Nat) (e:Int):(List Int × List ByteArray × List Int) × Nat × Int:=
 let I:=gIs b S.ints k e
 let T:=gTs b L S.texts.toNat I.2.1 I.2.2
 let m:=pUint b T.2.1 T.2.2 (max edges 0)
 let K:=gKs b p m.1.toNat m.2.1 (if m.1<S.least∨(0≤S.most∧S.most<m.1) then fl m.2.2 12 else m.2.2)
 ((I.1,T.1,K.1),K.2)
def gNd (b:ByteArray) (p:Int) (L:List ByteArray) (edges:Int) (k:Nat) (e:Int):Nd × Nat × Int:=
 let q:=pUint b k e 16777216
 let R:=gRest b p L edges (newSp q.1) q.2.1 (if (newSp q.1).ok=true then q.2.2 else fl q.2.2 9)
 if R.2.2=0 then (⟨q.1,R.1.1,R.1.2.1,R.1.2.2⟩,R.2.1,0) else (⟨0,[],[],[]⟩,R.2.1,R.2.2)
theorem gIs_at (b:ByteArray):∀(C:List Int) (k:Nat) (e:Int),k≤b.size→k≤(gIs b C k e).2.1∧(gIs b C k e).2.1≤b.size
 | [],k,e,h=>⟨Nat.le_refl _,h⟩
 | c :: r,k,e,h=>by
  unfold gIs
  split
  ·exact ⟨Nat.le_refl _,h⟩
  ·have h1:=pInt_at b k e h
   have h2:=gIs_at b r (pInt b k e).2.1 (if in7 c (pInt b k e).1=true then (pInt b k e).2.2 else fl (pInt b k e).2.2 10) h1.2
   exact ⟨by dsimp only;omega,h2.2⟩
theorem gTs_at (b:ByteArray) (L:List ByteArray):∀(n k:Nat) (e:Int),k≤b.size→k≤(gTs b L n k e).2.1∧(gTs b L n k e).2.1≤b.size
 | 0,k,e,h=>⟨Nat.le_refl _,h⟩
 | n+1,k,e,h=>by
  have h1:=pUint_at b k e 16777216 h
  unfold gTs
  split
  ·exact ⟨Nat.le_refl _,h⟩
  ·split
   ·exact h1
   ·split
    ·exact h1
    ·have h2:=gTs_at b L n (pUint b k e 16777216).2.1 0 h1.2
     exact ⟨by dsimp only;omega,h2.2⟩
theorem gKs_at (b:ByteArray) (p:Int):∀(n k:Nat) (e:Int),k≤b.size→k≤(gKs b p n k e).2.1∧(gKs b p n k e).2.1≤b.size
 | 0,k,e,h=>⟨Nat.le_refl _,h⟩
 | n+1,k,e,h=>by
  have h1:=pUint_at b k e 16777216 h
  unfold gKs
  split
  ·exact ⟨Nat.le_refl _,h⟩
  ·have h2:=gKs_at b p n (pUint b k e 16777216).2.1 (if (pUint b k e 16777216).1<1∨p<(pUint b k e 16777216).1 then fl (pUint b k e 16777216).2.2 13 else (pUint b k e 16777216).2.2) h1.2
   exact ⟨by dsimp only;omega,h2.2⟩
theorem gIs_stop (b:ByteArray) (C:List Int) (k:Nat) {e:Int} (h:e≠0):gIs b C k e=([],k,e):=by
 cases C with
 | nil=>rfl
 | cons c r=>unfold gIs;rw [if_pos h]
theorem gTs_stop (b:ByteArray) (L:List ByteArray) (n k:Nat) {e:Int} (h:e≠0):gTs b L n k e=([],k,e):=by
 cases n with
 | zero=>rfl
 | succ n=>unfold gTs;rw [if_pos h]
theorem gKs_stop (b:ByteArray) (p:Int) (n k:Nat) {e:Int} (h:e≠0):gKs b p n k e=([],k,e):=by
 cases n with
 | zero=>rfl
 | succ n=>unfold gKs;rw [if_pos h]
theorem pUint_top (b:ByteArray) (k:Nat) (e m:Int):0≤(pUint b k e m).1∧(pUint b k e m).1≤16777216∧((pUint b k e m).2.2≠0→(pUint b k e m).1=0):=by
 unfold pUint
 split
 ·exact ⟨by simp,by simp,fun _=>rfl⟩
 ·split
  ·exact ⟨by simp,by simp,fun _=>rfl⟩
  ·split
   ·exact ⟨by simp,by simp,fun _=>rfl⟩
   ·exact ⟨by dsimp only;omega,by dsimp only;omega,fun q=>absurd rfl q⟩
theorem pInt_top (b:ByteArray) (k:Nat) (e:Int) (hk:k≤b.size) : -9223372036854775808≤(pInt b k e).1∧(pInt b k e).1≤9223372036854775807:=by
 unfold pInt
 split
 ·exact ⟨by simp,by simp⟩
 ·split
  ·exact ⟨by simp,by simp⟩
  ·rename_i h
   have h1:=num_ok b k (by omega) hk
   exact zag_range _ (by omega) (by omega)
end Go.Proofs.YtgoffkfpdigeeaaGreatDoor
namespace Go.Proofs.YtgoffkfpdigeeaaGreatDoor
open Go.RowKit
theorem row_kept {w w':World} {B:Nat} {e:TypeId} {n:Nat} {v:Value} {xs:List Value} {row:Option Nat} (ho:w.ownsRow B e 1 v n xs) (hg:w.grownBy w' row) (hr:v.ownBlock=none∨v.ownBlock≠row):w'.ownsRow B e 1 v n xs:=ho.kept hg hr
theorem row_low {w:World} {B:Nat} {e:TypeId} {n:Nat} {v:Value} {xs:List Value} {row:Option Nat} (ho:w.ownsRow B e 1 v n xs) (hr:∀k,row=some k→k<B):v.ownBlock=none∨v.ownBlock≠row:=by
 cases hv:v.ownBlock with
 | none=>exact .inl rfl
 | some q=>exact .inr (fun e=>by have:=(ho.lt q hv).1;have:=hr q e.symm;omega)
theorem row_at {w:World} {B g:Nat} {e T:TypeId} {n:Nat} {v:Value} {xs:List Value} {cs:Array Value} (ho:w.ownsRow B e 1 v n xs) (h:AtN T w g cs) (ht:e≠T):v.ownBlock≠some g:=by
 intro hv
 rcases ho.2 with ⟨rfl,_⟩|⟨g',cap,cur,rfl,_,q,_⟩
 ·cases hv
 ·simp only [Value.ownBlock,Option.some.injEq] at hv
  subst hv
  have h':w.heap[g']? = _:=h
  rw [q] at h'
  injection h' with h'
  injection h' with _ h'
  exact ht h'
theorem gnew {a b:World} {row:Option Nat} (h:a.grownBy b row) (p:Addr) (hp:a.heap.size≤p.block) (v:Value):a.grownBy (b.setCell p v) row:=
 ⟨h.os,h.tape,h.output,by simpa [World.setCell] using h.size,fun i hi hn=>(Below.heap_setCell _ _ _ _ (by omega)).trans (h.block i hi hn)⟩
structure Gi (w wr:World) (g gN gS:Nat) (bs:ByteArray) (k:Nat) (e:Int) (N:Nd) (v1 v2 v3:Value) (sb:Option Addr) (sc:Nat) (S:Sp):Prop where
 cur:Rf wr g bs k e
 nd:AtN 51 wr gN #[.int .i64 N.kind,v1,v2,v3]
 own:OwnNd wr (gS+1) N v1 v2 v3
 sp:AtN 117 wr gS #[.slice sb S.ints.length sc,.int .i64 S.texts,.int .i64 S.least,.int .i64 S.most]
 cls:wr.ownsRow w.heap.size 3 1 (.slice sb S.ints.length sc) S.ints.length (iV S.ints)
 low:∀r,(Value.slice sb S.ints.length sc).ownBlock=some r→r<gS
 res:AtN 51 wr w.heap.size #[.int .i64 0,.slice none 0 0,.slice none 0 0,.slice none 0 0]
 fr:w.grownBy wr (some g)
 hg:g<w.heap.size
 hN:w.heap.size<gN
 hS:gN<gS
 kb:k≤bs.size
section
variable {w wr w':World} {g gN gS:Nat} {bs:ByteArray} {k k':Nat} {e e':Int} {N:Nd} {v1 v2 v3:Value} {sb:Option Addr} {sc:Nat} {S:Sp}
theorem Gi.read (h:Gi w wr g gN gS bs k e N v1 v2 v3 sb sc S) (hw:wr.grownBy w' (some g)) (hc:Rf w' g bs k' e') (hk:k'≤bs.size):Gi w w' g gN gS bs k' e' N v1 v2 v3 sb sc S:=by
 have h1:=h.hg
 have h2:=h.hN
 have h3:=h.hS
 exact ⟨hc,h.nd.kept hw (by simp;omega),h.own.kept hw (fun q hq=>by cases hq;omega),h.sp.kept hw (by simp;omega),row_kept h.cls hw (row_low h.cls (fun q hq=>by cases hq;omega)),h.low,h.res.kept hw (by simp;omega),gtrans h.fr hw,h.hg,h.hN,h.hS,hk⟩
theorem Gi.more (h:Gi w wr g gN gS bs k e N v1 v2 v3 sb sc S) (hb:Below wr.heap.size wr w'):Gi w w' g gN gS bs k e N v1 v2 v3 sb sc S:=
 ⟨At3.belowAll h.cur hb,h.nd.belowAll hb,h.own.belowB hb,h.sp.belowAll hb,own_below h.cls hb (Nat.le_refl _),h.low,h.res.belowAll hb,gtrans h.fr (gbelow hb),h.hg,h.hN,h.hS,h.kb⟩
theorem Gi.keep (h:Gi w wr g gN gS bs k e N v1 v2 v3 sb sc S) {row:Option Nat} (hw:wr.grownBy w' row) (hr:∀q,row=some q→gS<q):Rf w' g bs k e∧AtN 51 w' gN #[.int .i64 N.kind,v1,v2,v3]∧AtN 117 w' gS #[.slice sb S.ints.length sc,.int .i64 S.texts,.int .i64 S.least,.int .i64 S.most]∧
  w'.ownsRow w.heap.size 3 1 (.slice sb S.ints.length sc) S.ints.length (iV S.ints)∧AtN 51 w' w.heap.size #[.int .i64 0,.slice none 0 0,.slice none 0 0,.slice none 0 0]∧w.grownBy w' (some g):=by
 have h1:=h.hg
 have h2:=h.hN
 have h3:=h.hS
 have hne:∀q,q≤gS→some q≠row:=fun q hq e=>by have:=hr q e.symm;omega
 refine ⟨At3.kept h.cur hw (hne _ (by omega)),h.nd.kept hw (hne _ (by omega)),h.sp.kept hw (hne _ (by omega)),row_kept h.cls hw ?_,h.res.kept hw (hne _ (by omega)),?_⟩
 ·cases hv:(Value.slice sb S.ints.length sc).ownBlock with
  | none=>exact .inl rfl
  | some q=>exact .inr (hne q (by have:=h.low q hv;omega))
 ·have hf:=h.fr
  exact ⟨hw.os.trans hf.os,hw.tape.trans hf.tape,hw.output.trans hf.output,Nat.le_trans hf.size hw.size,fun i hi hn=>(hw.block i (Nat.lt_of_lt_of_le hi hf.size) (hne i (by omega))).trans (hf.block i hi hn)⟩
theorem Gi.rows (h:Gi w wr g gN gS bs k e N v1 v2 v3 sb sc S):(∀q,v1.ownBlock=some q→gS<q)∧(∀q,v2.ownBlock=some q→gS<q)∧∀q,v3.ownBlock=some q→gS<q:=
 ⟨fun q hq=>(h.own.i.lt q hq).1,fun q hq=>(h.own.t.lt q hq).1,fun q hq=>(h.own.k.lt q hq).1⟩
theorem Gi.c0 (h:Gi w wr g gN gS bs k e N v1 v2 v3 sb sc S):wr.cell? ⟨gN,0,none⟩=some (.int .i64 N.kind):=h.nd.cell 0
theorem Gi.c1 (h:Gi w wr g gN gS bs k e N v1 v2 v3 sb sc S):wr.cell? ⟨gN,1,none⟩=some v1:=h.nd.cell 1
theorem Gi.c2 (h:Gi w wr g gN gS bs k e N v1 v2 v3 sb sc S):wr.cell? ⟨gN,2,none⟩=some v2:=h.nd.cell 2
theorem Gi.c3 (h:Gi w wr g gN gS bs k e N v1 v2 v3 sb sc S):wr.cell? ⟨gN,3,none⟩=some v3:=h.nd.cell 3
theorem Gi.d0 (h:Gi w wr g gN gS bs k e N v1 v2 v3 sb sc S):wr.cell? ⟨gS,0,none⟩=some (.slice sb S.ints.length sc):=h.sp.cell 0
theorem Gi.d1 (h:Gi w wr g gN gS bs k e N v1 v2 v3 sb sc S):wr.cell? ⟨gS,1,none⟩=some (.int .i64 S.texts):=h.sp.cell 1
theorem Gi.d2 (h:Gi w wr g gN gS bs k e N v1 v2 v3 sb sc S):wr.cell? ⟨gS,2,none⟩=some (.int .i64 S.least):=h.sp.cell 2
theorem Gi.d3 (h:Gi w wr g gN gS bs k e N v1 v2 v3 sb sc S):wr.cell? ⟨gS,3,none⟩=some (.int .i64 S.most):=h.sp.cell 3
end
def NdGot (w w':World) (g:Nat) (bs:ByteArray) (r:Ending) (R:Nd × Nat × Int):Prop:=
 ∃a1 c1 a2 c2 a3 c3,r=.returned (.agg #[.int .i64 R.1.kind,.slice a1 R.1.ints.length c1,.slice a2 R.1.texts.length c2,.slice a3 R.1.kids.length c3])∧OwnNd w' w.heap.size R.1 (.slice a1 R.1.ints.length c1) (.slice a2 R.1.texts.length c2) (.slice a3 R.1.kids.length c3)∧Rf w' g bs R.2.1 R.2.2∧w.grownBy w' (some g)
end Go.Proofs.YtgoffkfpdigeeaaGreatDoor
namespace Go.Proofs.YtgoffkfpdigeeaaGreatDoor
open Go.RowKit
theorem own_nil (w:World) (B:Nat) (e:TypeId):w.ownsRow B e 1 (.slice none 0 0) 0 []:=⟨rfl,.inl ⟨rfl,rfl⟩⟩
theorem Gi.start {w w1 w2:World} {g:Nat} {bs:ByteArray} {k:Nat} {e q:Int} {sb:Option Addr} {sc:Nat} {S:Sp} (hf:w.grownBy w1 (some g)) (hc:Rf w1 g bs k e) (hR:AtN 51 w1 w.heap.size #[.int .i64 0,.slice none 0 0,.slice none 0 0,.slice none 0 0])
  (hb:Below (w1.heap.size+1) (w1.alloc (.cells #[.int .i64 q,.slice none 0 0,.slice none 0 0,.slice none 0 0] 51)) w2) (hS:Ints w2 (w1.heap.size+1) (.slice sb S.ints.length sc) S.ints) (hg:g<w.heap.size) (hw:w.heap.size<w1.heap.size) (hk:k≤bs.size) :
  Gi w (w2.alloc (.cells #[.slice sb S.ints.length sc,.int .i64 S.texts,.int .i64 S.least,.int .i64 S.most] 117)) g w1.heap.size w2.heap.size bs k e ⟨q,[],[],[]⟩ (.slice none 0 0) (.slice none 0 0) (.slice none 0 0) sb sc S:=by
 have hb':Below (w1.alloc (.cells #[.int .i64 q,.slice none 0 0,.slice none 0 0,.slice none 0 0] 51)).heap.size (w1.alloc (.cells #[.int .i64 q,.slice none 0 0,.slice none 0 0,.slice none 0 0] 51)) w2:=by simpa using hb
 have hs:=hb'.size
 simp at hs
 refine ⟨At3.alloc (At3.belowAll (At3.alloc hc _) hb') _,((AtN.new w1 51 _).belowAll hb').alloc _,⟨own_nil _ _ _,own_nil _ _ _,own_nil _ _ _⟩,AtN.new w2 117 _,?_,?_,((hR.alloc _).belowAll hb').alloc _,?_,hg,hw,by omega,hk⟩
 ·exact own_mono (hS.alloc _) (by omega)
 ·intro r hr
  exact (hS.lt r hr).2
 ·exact gtrans (gtrans (gtrans hf (World.grownBy_alloc _ _ _)) (gbelow hb')) (World.grownBy_alloc _ _ _)
theorem Gi.szS {w wr:World} {g gN gS:Nat} {bs:ByteArray} {k:Nat} {e:Int} {N:Nd} {v1 v2 v3:Value} {sb:Option Addr} {sc:Nat} {S:Sp} (h:Gi w wr g gN gS bs k e N v1 v2 v3 sb sc S):gS+1≤wr.heap.size:=by
 have:=(Array.getElem?_eq_some_iff.1 h.sp).1
 omega
theorem Gi.fin {w wr:World} {g gN gS:Nat} {bs:ByteArray} {k:Nat} {e:Int} {N:Nd} {v1 v2 v3:Value} {sb:Option Addr} {sc:Nat} {S:Sp} (h:Gi w wr g gN gS bs k e N v1 v2 v3 sb sc S) (x0 x1 x2 x3:Value) (y:Nd) {a1 a2 a3:Option Addr} {c1 c2 c3:Nat}
  (ho:OwnNd wr (gS+1) y (.slice a1 y.ints.length c1) (.slice a2 y.texts.length c2) (.slice a3 y.kids.length c3)) :
  NdGot w ((((wr.setCell ⟨w.heap.size,0,none⟩ x0).setCell ⟨w.heap.size,1,none⟩ x1).setCell ⟨w.heap.size,2,none⟩ x2).setCell ⟨w.heap.size,3,none⟩ x3) g bs (.returned (.agg #[.int .i64 y.kind,.slice a1 y.ints.length c1,.slice a2 y.texts.length c2,.slice a3 y.kids.length c3])) (y,k,e):=by
 have h1:=h.hg
 have h2:=h.hN
 have h3:=h.hS
 have hb:∀o:Nat,(⟨w.heap.size,o,none⟩:Addr).block<gS+1:=fun o=>by show w.heap.size<gS+1;omega
 refine ⟨a1,c1,a2,c2,a3,c3,rfl,?_,?_,?_⟩
 ·exact OwnNd.mono ((((ho.set _ (hb 0) x0).set _ (hb 1) x1).set _ (hb 2) x2).set _ (hb 3) x3) (by omega)
 ·exact At3.setOther (At3.setOther (At3.setOther (At3.setOther h.cur _ (by show w.heap.size≠g;omega) _) _ (by show w.heap.size≠g;omega) _) _ (by show w.heap.size≠g;omega) _) _ (by show w.heap.size≠g;omega) _
 ·exact gnew (gnew (gnew (gnew h.fr _ (Nat.le_refl _) _) _ (Nat.le_refl _) _) _ (Nat.le_refl _) _) _ (Nat.le_refl _) _
theorem newSp_small (k:Int):(newSp k).ints.length≤4∧0≤(newSp k).texts∧(newSp k).texts≤2∧-1≤(newSp k).least∧(newSp k).least≤1∧-1≤(newSp k).most∧(newSp k).most≤1:=by
 unfold newSp noSp
 repeat' split
 all_goals decide
theorem gIs_next (b:ByteArray) (C:List Int) (i k:Nat) (h:i<C.length) {q:Int} {k3:Nat} {e3:Int} (hq:pInt b k 0=(q,k3,e3)) :
  gIs b (C.drop i) k 0=(q :: (gIs b (C.drop (i+1)) k3 (if in7 (C.getD i 0) q=true then e3 else fl e3 10)).1,(gIs b (C.drop (i+1)) k3 (if in7 (C.getD i 0) q=true then e3 else fl e3 10)).2):=by
 rw [List.drop_eq_getElem_cons h,show C[i]=C.getD i 0 by simp [List.getD_eq_getElem?_getD,List.getElem?_eq_getElem h]]
 conv=>lhs;unfold gIs
 rw [if_neg (by decide),hq]
theorem gIs_end (b:ByteArray) (C:List Int) (i k:Nat) (e:Int) (h:C.length≤i∨e≠0):gIs b (C.drop i) k e=([],k,e):=by
 rcases h with h|h
 ·rw [List.drop_eq_nil_of_le h];rfl
 ·exact gIs_stop b _ k h
theorem gTs_next (b:ByteArray) (L:List ByteArray) (n k:Nat) {x:Int} {k3:Nat} {e3:Int} (hq:pUint b k 0 16777216=(x,k3,e3)) :
  gTs b L (n+1) k 0=if e3≠0 then ([],k3,e3) else if (L.length:Int)≤x then ([],k3,13) else (L.getD x.toNat noT :: (gTs b L n k3 0).1,(gTs b L n k3 0).2):=by
 conv=>lhs;unfold gTs
 rw [if_neg (by decide),hq]
theorem gTs_end (b:ByteArray) (L:List ByteArray) (n k:Nat) (e:Int) (h:n=0∨e≠0):gTs b L n k e=([],k,e):=by
 rcases h with rfl|h
 ·rfl
 ·exact gTs_stop b L n k h
theorem gKs_next (b:ByteArray) (p:Int) (n k:Nat) {x:Int} {k3:Nat} {e3:Int} (hq:pUint b k 0 16777216=(x,k3,e3)) :
  gKs b p (n+1) k 0=(wrap64 (p-x) :: (gKs b p n k3 (if decide (x<1∨p<x)=true then fl e3 13 else e3)).1,(gKs b p n k3 (if decide (x<1∨p<x)=true then fl e3 13 else e3)).2):=by
 conv=>lhs;unfold gKs
 rw [if_neg (by decide),hq]
 simp only [decide_eq_true_eq]
theorem gKs_end (b:ByteArray) (p:Int) (n k:Nat) (e:Int) (h:n=0∨e≠0):gKs b p n k e=([],k,e):=by
 rcases h with rfl|h
 ·rfl
 ·exact gKs_stop b p n k h
theorem gRest_eq {b:ByteArray} {p:Int} {L:List ByteArray} {edges:Int} {S:Sp} {k1:Nat} {e2:Int} {A:List Int} {k4:Nat} {e4:Int} {B:List ByteArray} {k5:Nat} {e5 m:Int} {k6:Nat} {e6 e7:Int} {K:List Int} {k8:Nat} {e8:Int} (hA:gIs b S.ints k1 e2=(A,k4,e4)) (hB:gTs b L S.texts.toNat k4 e4=(B,k5,e5))
  (hM:pUint b k5 e5 (max edges 0)=(m,k6,e6)) (h7:(if decide (m<S.least∨(0≤S.most∧S.most<m))=true then fl e6 12 else e6)=e7) (hK:gKs b p m.toNat k6 e7=(K,k8,e8)):gRest b p L edges S k1 e2=((A,B,K),k8,e8):=by
 unfold gRest
 simp only [decide_eq_true_eq] at h7
 simp only [hA,hB,hM,h7,hK]
end Go.Proofs.YtgoffkfpdigeeaaGreatDoor
