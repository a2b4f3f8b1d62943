import Derived.Test.YtgoffkfpdigeeaaGreatDoorL12
import Derived.Test.YtgoffkfpdigeeaaGreatDoorL11
import Derived.Test.YtgoffkfpdigeeaaGreatDoorL31
import Derived.Test.YtgoffkfpdigeeaaGreatDoorL30
import Derived.Test.YtgoffkfpdigeeaaGreatDoorL23
import Derived.Test.YtgoffkfpdigeeaaGreatDoorL08
import Derived.Test.YtgoffkfpdigeeaaGreatDoorL13
namespace Go.Proofs.YtgoffkfpdigeeaaGreatDoor
open Go.RowKit
theorem fl_had {e:Int} (d:Int) (h:e≠0):fl e d=e:=if_neg h
theorem pInt_had (b:ByteArray) (k:Nat) {e:Int} (h:e≠0):pInt b k e=(0,k,e):=by unfold pInt;rw [if_pos h]
theorem pUint_had (b:ByteArray) (k:Nat) {e:Int} (m:Int) (h:e≠0):pUint b k e m=(0,k,e):=by unfold pUint;rw [if_pos h]
def InvI (b:ByteArray) (C:List Int) (k0:Nat) (e0:Int) (i:Nat) (l:List Int) (k:Nat) (e:Int):Prop:=
 (e=0→gIs b C k0 e0=(l++(gIs b (C.drop i) k 0).1,(gIs b (C.drop i) k 0).2))∧(e≠0→(gIs b C k0 e0).2=(k,e))
theorem InvI.start (b:ByteArray) (C:List Int) (k:Nat) (e:Int):InvI b C k e 0 [] k e:=
 ⟨fun h=>by subst h;rfl,fun h=>by rw [gIs_stop b C k h]⟩
theorem InvI.next {b:ByteArray} {C:List Int} {k0:Nat} {e0:Int} {i:Nat} {l:List Int} {k:Nat} {e q:Int} {k3:Nat} {e3:Int} (h:InvI b C k0 e0 i l k e) (hi:i<C.length) (hq:pInt b k e=(q,k3,e3)):InvI b C k0 e0 (i+1) (l++[q]) k3 (if in7 (C.getD i 0) q=true then e3 else fl e3 10):=by
 by_cases he:e=0
 ·subst he
  have h1:=h.1 rfl
  rw [gIs_next b C i k hi hq] at h1
  generalize (if in7 (C.getD i 0) q=true then e3 else fl e3 10)=e4 at h1 ⊢
  refine ⟨fun h4=>?_,fun h4=>?_⟩
  ·subst h4;rw [h1,List.append_assoc];rfl
  ·rw [h1,gIs_stop b _ k3 h4]
 ·rw [pInt_had b k he] at hq
  cases hq
  have h2:=h.2 he
  rw [fl_had 10 he,ite_self]
  exact ⟨fun q=>absurd q he,fun _=>h2⟩
theorem InvI.fin {b:ByteArray} {C:List Int} {k0:Nat} {e0:Int} {i:Nat} {l:List Int} {k:Nat} {e:Int} (h:InvI b C k0 e0 i l k e) (hi:C.length≤i):k=(gIs b C k0 e0).2.1∧e=(gIs b C k0 e0).2.2∧((gIs b C k0 e0).2.2=0→l=(gIs b C k0 e0).1):=by
 by_cases he:e=0
 ·subst he
  have h1:=h.1 rfl
  rw [gIs_end b C i k 0 (.inl hi)] at h1
  rw [h1]
  exact ⟨rfl,rfl,fun _=>by simp⟩
 ·have h2:=h.2 he
  rw [h2]
  exact ⟨rfl,rfl,fun q=>absurd q he⟩
def InvT (b:ByteArray) (L:List ByteArray) (n k0:Nat) (e0:Int) (i:Nat) (l:List ByteArray) (k:Nat) (e:Int):Prop:=
 (e=0→gTs b L n k0 e0=(l++(gTs b L (n-i) k 0).1,(gTs b L (n-i) k 0).2))∧(e≠0→(gTs b L n k0 e0).2=(k,e))
theorem InvT.start (b:ByteArray) (L:List ByteArray) (n k:Nat) (e:Int):InvT b L n k e 0 [] k e:=
 ⟨fun h=>by subst h;rfl,fun h=>by rw [gTs_stop b L n k h]⟩
theorem InvT.next {b:ByteArray} {L:List ByteArray} {n k0:Nat} {e0:Int} {i:Nat} {l:List ByteArray} {k:Nat} {e q:Int} {k3:Nat} {e3:Int} (h:InvT b L n k0 e0 i l k e) (hi:i<n) (hq:pUint b k e 16777216=(q,k3,e3)) :
  InvT b L n k0 e0 (i+1) (l++[if (L.length:Int)≤q then noT else L.getD q.toNat noT]) k3 (if (L.length:Int)≤q then fl e3 13 else e3):=by
 by_cases he:e=0
 ·subst he
  have h1:=h.1 rfl
  rw [show n-i=(n-(i+1))+1 by omega,gTs_next b L _ k hq] at h1
  by_cases h3:e3=0
  ·subst h3
   rw [if_neg (by decide)] at h1
   by_cases hx:(L.length:Int)≤q
   ·rw [if_pos hx] at h1
    rw [if_pos hx,if_pos hx]
    exact ⟨fun h4=>absurd h4 (by decide),fun _=>by rw [h1];rfl⟩
   ·rw [if_neg hx] at h1
    rw [if_neg hx,if_neg hx]
    exact ⟨fun _=>by rw [h1,List.append_assoc];rfl,fun q=>absurd rfl q⟩
  ·rw [if_pos h3] at h1
   rw [fl_had 13 h3,ite_self]
   exact ⟨fun q=>absurd q h3,fun _=>by rw [h1]⟩
 ·rw [pUint_had b k _ he] at hq
  cases hq
  have h2:=h.2 he
  rw [fl_had 13 he,ite_self]
  exact ⟨fun q=>absurd q he,fun _=>h2⟩
theorem InvT.fin {b:ByteArray} {L:List ByteArray} {n k0:Nat} {e0:Int} {i:Nat} {l:List ByteArray} {k:Nat} {e:Int} (h:InvT b L n k0 e0 i l k e) (hi:n≤i):k=(gTs b L n k0 e0).2.1∧e=(gTs b L n k0 e0).2.2∧((gTs b L n k0 e0).2.2=0→l=(gTs b L n k0 e0).1):=by
 by_cases he:e=0
 ·subst he
  have h1:=h.1 rfl
  rw [gTs_end b L (n-i) k 0 (.inl (by omega))] at h1
  rw [h1]
  exact ⟨rfl,rfl,fun _=>by simp⟩
 ·have h2:=h.2 he
  rw [h2]
  exact ⟨rfl,rfl,fun q=>absurd q he⟩
def InvK (b:ByteArray) (p:Int) (n k0:Nat) (e0:Int) (i:Nat) (l:List Int) (k:Nat) (e:Int):Prop:=
 (e=0→gKs b p n k0 e0=(l++(gKs b p (n-i) k 0).1,(gKs b p (n-i) k 0).2))∧(e≠0→(gKs b p n k0 e0).2=(k,e))
theorem InvK.start (b:ByteArray) (p:Int) (n k:Nat) (e:Int):InvK b p n k e 0 [] k e:=
 ⟨fun h=>by subst h;rfl,fun h=>by rw [gKs_stop b p n k h]⟩
theorem InvK.next {b:ByteArray} {p:Int} {n k0:Nat} {e0:Int} {i:Nat} {l:List Int} {k:Nat} {e q:Int} {k3:Nat} {e3:Int} (h:InvK b p n k0 e0 i l k e) (hi:i<n) (hq:pUint b k e 16777216=(q,k3,e3)) :
  InvK b p n k0 e0 (i+1) (l++[wrap64 (p-q)]) k3 (if decide (q<1∨p<q)=true then fl e3 13 else e3):=by
 by_cases he:e=0
 ·subst he
  have h1:=h.1 rfl
  rw [show n-i=(n-(i+1))+1 by omega,gKs_next b p _ k hq] at h1
  generalize (if decide (q<1∨p<q)=true then fl e3 13 else e3)=e4 at h1 ⊢
  refine ⟨fun h4=>?_,fun h4=>?_⟩
  ·subst h4;rw [h1,List.append_assoc];rfl
  ·rw [h1,gKs_stop b p _ k3 h4]
 ·rw [pUint_had b k _ he] at hq
  cases hq
  have h2:=h.2 he
  rw [fl_had 13 he,ite_self]
  exact ⟨fun q=>absurd q he,fun _=>h2⟩
theorem InvK.fin {b:ByteArray} {p:Int} {n k0:Nat} {e0:Int} {i:Nat} {l:List Int} {k:Nat} {e:Int} (h:InvK b p n k0 e0 i l k e) (hi:n≤i):k=(gKs b p n k0 e0).2.1∧e=(gKs b p n k0 e0).2.2∧((gKs b p n k0 e0).2.2=0→l=(gKs b p n k0 e0).1):=by
 by_cases he:e=0
 ·subst he
  have h1:=h.1 rfl
  rw [gKs_end b p (n-i) k 0 (.inl (by omega))] at h1
  rw [h1]
  exact ⟨rfl,rfl,fun _=>by simp⟩
 ·have h2:=h.2 he
  rw [h2]
  exact ⟨rfl,rfl,fun q=>absurd q he⟩
theorem InvK.bad {b:ByteArray} {p:Int} {n k0:Nat} {e0:Int} {i:Nat} {l:List Int} {k:Nat} {e:Int} (h:InvK b p n k0 e0 i l k e) (he:e≠0):k=(gKs b p n k0 e0).2.1∧e=(gKs b p n k0 e0).2.2:=by
 have h2:=h.2 he
 rw [h2]
 exact ⟨rfl,rfl⟩
structure Bl (w wr:World) (gc:Nat) (bs:ByteArray) (k:Nat) (e:Int) (T:TypeId) (v:Value) (n:Nat) (xs:List Value):Prop where
 cur:Cu wr gc bs k e
 own:wr.ownsRow w.heap.size T 1 v n xs
 fr:w.grownBy wr (some gc)
 hg:gc<w.heap.size
 kb:k≤bs.size
section
variable {w wr w':World} {gc:Nat} {bs:ByteArray} {k k':Nat} {e e':Int} {T:TypeId} {v v':Value} {n n':Nat} {xs xs':List Value}
theorem Bl.start (h:Cu w gc bs k e) (hk:k≤bs.size):Bl w w gc bs k e T (.slice none 0 0) 0 []:=⟨h,own_nil _ _ _,grown_refl _ _,h.lt,hk⟩
theorem Bl.read (h:Bl w wr gc bs k e T v n xs) (hw:wr.grownBy w' (some gc)) (hc:Cu w' gc bs k' e') (hk:k'≤bs.size):Bl w w' gc bs k' e' T v n xs:=
 ⟨hc,row_kept h.own hw (row_low h.own (fun q hq=>by cases hq;exact h.hg)),gtrans h.fr hw,h.hg,hk⟩
theorem Bl.more (h:Bl w wr gc bs k e T v n xs) (hb:Below wr.heap.size wr w'):Bl w w' gc bs k e T v n xs:=
 ⟨At3.belowAll h.cur hb,own_below h.own hb (Nat.le_refl _),gtrans h.fr (gbelow hb),h.hg,h.kb⟩
theorem Bl.app (h:Bl w wr gc bs k e T v n xs) (hw:wr.grownBy w' v.ownBlock) (ho:w'.ownsRow w.heap.size T 1 v' n' xs'):Bl w w' gc bs k e T v' n' xs':=by
 have hg:=h.hg
 have hlt:∀q,v.ownBlock=some q→w.heap.size≤q:=fun q hq=>(h.own.lt q hq).1
 refine ⟨At3.kept h.cur hw (fun e=>by have:=hlt gc e.symm;omega),ho,?_,hg,h.kb⟩
 have hf:=h.fr
 exact ⟨hw.os.trans hf.os,hw.tape.trans hf.tape,hw.output.trans hf.output,Nat.le_trans hf.size hw.size,fun i hi hn=>(hw.block i (Nat.lt_of_lt_of_le hi hf.size) (fun e=>by have:=hlt i e.symm;omega)).trans (hf.block i hi hn)⟩
end
end Go.Proofs.YtgoffkfpdigeeaaGreatDoor
namespace Go.Proofs.YtgoffkfpdigeeaaGreatDoor
open Go.RowKit
end Go.Proofs.YtgoffkfpdigeeaaGreatDoor
namespace Go.Proofs.YtgoffkfpdigeeaaGreatDoor
open Go.RowKit
end Go.Proofs.YtgoffkfpdigeeaaGreatDoor
namespace Go.Proofs.YtgoffkfpdigeeaaGreatDoor
open Go.RowKit
structure Gj (w wr:World) (g gN gS:Nat) (bs:ByteArray) (k:Nat) (e:Int) (N:Nd) (v1 v2 v3:Value) (sb:Option Addr) (sc:Nat) (S:Sp):Prop where
 cur:Cu wr g bs k e
 nd:AtN 51 wr gN #[.int .i64 N.kind,v1,v2,v3]
 own:OwnNd wr (gS+1) N v1 v2 v3
 sp:AtN 117 wr gS #[.slice sb S.ints.length sc,.int .i64 S.texts,.int .i64 S.least,.int .i64 S.most]
 cls:wr.ownsRow w.heap.size 3 1 (.slice sb S.ints.length sc) S.ints.length (iV S.ints)
 low:∀r,(Value.slice sb S.ints.length sc).ownBlock=some r→r<gS
 res:AtN 51 wr w.heap.size #[.int .i64 0,.slice none 0 0,.slice none 0 0,.slice none 0 0]
 fr:w.grownBy wr (some g)
 hg:g<w.heap.size
 hN:w.heap.size<gN
 hS:gN<gS
 kb:k≤bs.size
section
variable {w wr w':World} {g gN gS:Nat} {bs:ByteArray} {k k':Nat} {e e':Int} {N:Nd} {v v1 v2 v3:Value} {sb:Option Addr} {sc:Nat} {S:Sp}
theorem Gj.start {w1 w2:World} {q:Int} (hf:w.grownBy w1 (some g)) (hc:Cu w1 g bs k e) (hR:AtN 51 w1 w.heap.size #[.int .i64 0,.slice none 0 0,.slice none 0 0,.slice none 0 0])
  (hb:Below (w1.heap.size+1) (w1.alloc (.cells #[.int .i64 q,.slice none 0 0,.slice none 0 0,.slice none 0 0] 51)) w2) (hS:Ints w2 (w1.heap.size+1) (.slice sb S.ints.length sc) S.ints) (hg:g<w.heap.size) (hw:w.heap.size<w1.heap.size) (hk:k≤bs.size) :
  Gj w (w2.alloc (.cells #[.slice sb S.ints.length sc,.int .i64 S.texts,.int .i64 S.least,.int .i64 S.most] 117)) g w1.heap.size w2.heap.size bs k e ⟨q,[],[],[]⟩ (.slice none 0 0) (.slice none 0 0) (.slice none 0 0) sb sc S:=by
 have hb':Below (w1.alloc (.cells #[.int .i64 q,.slice none 0 0,.slice none 0 0,.slice none 0 0] 51)).heap.size (w1.alloc (.cells #[.int .i64 q,.slice none 0 0,.slice none 0 0,.slice none 0 0] 51)) w2:=by simpa using hb
 have hs:=hb'.size
 simp at hs
 refine ⟨At3.alloc (At3.belowAll (At3.alloc hc _) hb') _,((AtN.new w1 51 _).belowAll hb').alloc _,⟨own_nil _ _ _,own_nil _ _ _,own_nil _ _ _⟩,AtN.new w2 117 _,?_,?_,((hR.alloc _).belowAll hb').alloc _,?_,hg,hw,by omega,hk⟩
 ·exact own_mono (hS.alloc _) (by omega)
 ·intro r hr
  exact (hS.lt r hr).2
 ·exact gtrans (gtrans (gtrans hf (World.grownBy_alloc _ _ _)) (gbelow hb')) (World.grownBy_alloc _ _ _)
theorem Gj.read (h:Gj w wr g gN gS bs k e N v1 v2 v3 sb sc S) (hw:wr.grownBy w' (some g)) (hc:Cu w' g bs k' e') (hk:k'≤bs.size):Gj w w' g gN gS bs k' e' N v1 v2 v3 sb sc S:=by
 have h1:=h.hg
 have h2:=h.hN
 have h3:=h.hS
 exact ⟨hc,h.nd.kept hw (by simp;omega),h.own.kept hw (fun q hq=>by cases hq;omega),h.sp.kept hw (by simp;omega),row_kept h.cls hw (row_low h.cls (fun q hq=>by cases hq;omega)),h.low,h.res.kept hw (by simp;omega),gtrans h.fr hw,h.hg,h.hN,h.hS,hk⟩
theorem Gj.more (h:Gj w wr g gN gS bs k e N v1 v2 v3 sb sc S) (hb:Below wr.heap.size wr w'):Gj w w' g gN gS bs k e N v1 v2 v3 sb sc S:=
 ⟨At3.belowAll h.cur hb,h.nd.belowAll hb,h.own.belowB hb,h.sp.belowAll hb,own_below h.cls hb (Nat.le_refl _),h.low,h.res.belowAll hb,gtrans h.fr (gbelow hb),h.hg,h.hN,h.hS,h.kb⟩
theorem Gj.setN (h:Gj w wr g gN gS bs k e N v1 v2 v3 sb sc S) (o:Nat) (x:Value):Cu (wr.setCell ⟨gN,o,none⟩ x) g bs k e∧OwnNd (wr.setCell ⟨gN,o,none⟩ x) (gS+1) N v1 v2 v3∧AtN 117 (wr.setCell ⟨gN,o,none⟩ x) gS #[.slice sb S.ints.length sc,.int .i64 S.texts,.int .i64 S.least,.int .i64 S.most]∧
  (wr.setCell ⟨gN,o,none⟩ x).ownsRow w.heap.size 3 1 (.slice sb S.ints.length sc) S.ints.length (iV S.ints)∧AtN 51 (wr.setCell ⟨gN,o,none⟩ x) w.heap.size #[.int .i64 0,.slice none 0 0,.slice none 0 0,.slice none 0 0]∧w.grownBy (wr.setCell ⟨gN,o,none⟩ x) (some g):=by
 have h1:=h.hg
 have h2:=h.hN
 have h3:=h.hS
 exact ⟨At3.setOther h.cur _ (by simp;omega) _,h.own.set ⟨gN,o,none⟩ (by show gN<gS+1;omega) x,h.sp.setOther _ (by simp;omega) _,own_set h.cls _ (fun q hq e=>row_at h.cls h.nd (by decide) (by rw [hq,e])) _,h.res.setOther _ (by simp;omega) _,gnew h.fr ⟨gN,o,none⟩ (by show w.heap.size≤gN;omega) _⟩
theorem Gj.set1 {l:List Int} (h:Gj w wr g gN gS bs k e N v1 v2 v3 sb sc S) (ho:wr.ownsRow (gS+1) 2 1 v l.length (iV l)) :
  Gj w (wr.setCell ⟨gN,1,none⟩ v) g gN gS bs k e ⟨N.kind,l,N.texts,N.kids⟩ v v2 v3 sb sc S:=by
 obtain ⟨k1,k2,k3,k4,k5,k6⟩:=h.setN 1 v
 have h3:=h.hS
 exact ⟨k1,by simpa using h.nd.set 1 v,⟨own_set ho ⟨gN,1,none⟩ (fun q hq=>by have:=(ho.lt q hq).1;show q≠gN;omega) v,k2.t,k2.k⟩,k3,k4,h.low,k5,k6,h.hg,h.hN,h.hS,h.kb⟩
theorem Gj.set2 {l:List ByteArray} (h:Gj w wr g gN gS bs k e N v1 v2 v3 sb sc S) (ho:wr.ownsRow (gS+1) 9 1 v l.length (tV l)) :
  Gj w (wr.setCell ⟨gN,2,none⟩ v) g gN gS bs k e ⟨N.kind,N.ints,l,N.kids⟩ v1 v v3 sb sc S:=by
 obtain ⟨k1,k2,k3,k4,k5,k6⟩:=h.setN 2 v
 have h3:=h.hS
 exact ⟨k1,by simpa using h.nd.set 2 v,⟨k2.i,own_set ho ⟨gN,2,none⟩ (fun q hq=>by have:=(ho.lt q hq).1;show q≠gN;omega) v,k2.k⟩,k3,k4,h.low,k5,k6,h.hg,h.hN,h.hS,h.kb⟩
end
theorem Gj.clsAt {w wr w':World} {g gN gS:Nat} {bs:ByteArray} {k:Nat} {e:Int} {N:Nd} {v1 v2 v3:Value} {sb:Option Addr} {sc:Nat} {S:Sp} (h:Gj w wr g gN gS bs k e N v1 v2 v3 sb sc S) (hw:wr.grownBy w' (some g)):LsAt w' sb (iV S.ints):=
 LsAt.of_own (row_kept h.cls hw (row_low h.cls (fun q hq=>by cases hq;exact h.hg)))
def NdGotC (w w':World) (g:Nat) (bs:ByteArray) (r:Ending) (R:Nd × Nat × Int):Prop:=
 ∃a1 c1 a2 c2 a3 c3,r=.returned (.agg #[.int .i64 R.1.kind,.slice a1 R.1.ints.length c1,.slice a2 R.1.texts.length c2,.slice a3 R.1.kids.length c3])∧OwnNd w' w.heap.size R.1 (.slice a1 R.1.ints.length c1) (.slice a2 R.1.texts.length c2) (.slice a3 R.1.kids.length c3)∧Cu w' g bs R.2.1 R.2.2∧w.grownBy w' (some g)
theorem Gj.fin {w wr:World} {g gN gS:Nat} {bs:ByteArray} {k:Nat} {e:Int} {N:Nd} {v1 v2 v3:Value} {sb:Option Addr} {sc:Nat} {S:Sp} (h:Gj w wr g gN gS bs k e N v1 v2 v3 sb sc S) (x0 x1 x2 x3:Value) (y:Nd) {a1 a2 a3:Option Addr} {c1 c2 c3:Nat}
  (ho:OwnNd wr (gS+1) y (.slice a1 y.ints.length c1) (.slice a2 y.texts.length c2) (.slice a3 y.kids.length c3)) :
  NdGotC w ((((wr.setCell ⟨w.heap.size,0,none⟩ x0).setCell ⟨w.heap.size,1,none⟩ x1).setCell ⟨w.heap.size,2,none⟩ x2).setCell ⟨w.heap.size,3,none⟩ x3) g bs (.returned (.agg #[.int .i64 y.kind,.slice a1 y.ints.length c1,.slice a2 y.texts.length c2,.slice a3 y.kids.length c3])) (y,k,e):=by
 have h1:=h.hg
 have h2:=h.hN
 have h3:=h.hS
 have hb:∀o:Nat,(⟨w.heap.size,o,none⟩:Addr).block<gS+1:=fun o=>by show w.heap.size<gS+1;omega
 refine ⟨a1,c1,a2,c2,a3,c3,rfl,?_,?_,?_⟩
 ·exact OwnNd.mono ((((ho.set _ (hb 0) x0).set _ (hb 1) x1).set _ (hb 2) x2).set _ (hb 3) x3) (by omega)
 ·exact At3.setOther (At3.setOther (At3.setOther (At3.setOther h.cur _ (by show w.heap.size≠g;omega) _) _ (by show w.heap.size≠g;omega) _) _ (by show w.heap.size≠g;omega) _) _ (by show w.heap.size≠g;omega) _
 ·exact gnew (gnew (gnew (gnew h.fr _ (Nat.le_refl _) _) _ (Nat.le_refl _) _) _ (Nat.le_refl _) _) _ (Nat.le_refl _) _
end Go.Proofs.YtgoffkfpdigeeaaGreatDoor
namespace Go.Proofs.YtgoffkfpdigeeaaGreatDoor
open Go.RowKit Go.Maps Go.WideMaps Go.Sort
theorem pText_had (b:ByteArray) (k:Nat) {e:Int} (m:Int) (h:e≠0):pText b k e m=(⟨#[]⟩,k,e):=by unfold pText;rw [if_pos h]
def InvX (b:ByteArray) (tx:Int) (n k0:Nat) (e0:Int) (i:Nat) (l:List ByteArray) (k:Nat) (e:Int):Prop:=
 (e=0→oTs b tx n k0 e0=(l++(oTs b tx (n-i) k 0).1,(oTs b tx (n-i) k 0).2))∧(e≠0→(oTs b tx n k0 e0).2=(k,e))
theorem InvX.start (b:ByteArray) (tx:Int) (n k:Nat) (e:Int):InvX b tx n k e 0 [] k e:=
 ⟨fun h=>by subst h;rfl,fun h=>by rw [oTs_stop b tx n k h]⟩
theorem InvX.next {b:ByteArray} {tx:Int} {n k0:Nat} {e0:Int} {i:Nat} {l:List ByteArray} {k:Nat} {e:Int} {x:ByteArray} {k3:Nat} {e3:Int} (h:InvX b tx n k0 e0 i l k e) (hi:i<n) (hq:pText b k e tx=(x,k3,e3)) :
  InvX b tx n k0 e0 (i+1) (l++[x]) k3 (if ok8 x=true then e3 else fl e3 11):=by
 by_cases he:e=0
 ·subst he
  have h1:=h.1 rfl
  rw [show n-i=(n-(i+1))+1 by omega,oTs_next b tx _ k hq] at h1
  generalize (if ok8 x=true then e3 else fl e3 11)=e4 at h1 ⊢
  refine ⟨fun h4=>?_,fun h4=>?_⟩
  ·subst h4;rw [h1,List.append_assoc];rfl
  ·rw [h1,oTs_stop b tx _ k3 h4]
 ·rw [pText_had b k _ he] at hq
  cases hq
  have h2:=h.2 he
  rw [fl_had 11 he,ite_self]
  exact ⟨fun q=>absurd q he,fun _=>h2⟩
theorem InvX.fin {b:ByteArray} {tx:Int} {n k0:Nat} {e0:Int} {i:Nat} {l:List ByteArray} {k:Nat} {e:Int} (h:InvX b tx n k0 e0 i l k e) (hi:n≤i):k=(oTs b tx n k0 e0).2.1∧e=(oTs b tx n k0 e0).2.2∧((oTs b tx n k0 e0).2.2=0→l=(oTs b tx n k0 e0).1):=by
 by_cases he:e=0
 ·subst he
  have h1:=h.1 rfl
  rw [oTs_end b tx (n-i) k 0 (.inl (by omega))] at h1
  rw [h1]
  exact ⟨rfl,rfl,fun _=>by simp⟩
 ·have h2:=h.2 he
  rw [h2]
  exact ⟨rfl,rfl,fun q=>absurd q he⟩
def InvY (b:ByteArray) (p c:Int) (n k0:Nat) (e0:Int) (i:Nat) (l:List Int) (k:Nat) (e:Int):Prop:=
 (e=0→oKs b p c n k0 e0=(l++(oKs b p c (n-i) k 0).1,(oKs b p c (n-i) k 0).2))∧(e≠0→(oKs b p c n k0 e0).2=(k,e))
theorem InvY.start (b:ByteArray) (p c:Int) (n k:Nat) (e:Int):InvY b p c n k e 0 [] k e:=
 ⟨fun h=>by subst h;rfl,fun h=>by rw [oKs_stop b p c n k h]⟩
theorem InvY.next {b:ByteArray} {p c:Int} {n k0:Nat} {e0:Int} {i:Nat} {l:List Int} {k:Nat} {e q:Int} {k3:Nat} {e3:Int} (h:InvY b p c n k0 e0 i l k e) (hi:i<n) (hq:pUint b k e 16777216=(q,k3,e3)) :
  InvY b p c n k0 e0 (i+1) (l++[q]) k3 (if decide (q≤p∨c≤q)=true then fl e3 13 else e3):=by
 by_cases he:e=0
 ·subst he
  have h1:=h.1 rfl
  rw [show n-i=(n-(i+1))+1 by omega,oKs_next b p c _ k hq] at h1
  generalize (if decide (q≤p∨c≤q)=true then fl e3 13 else e3)=e4 at h1 ⊢
  refine ⟨fun h4=>?_,fun h4=>?_⟩
  ·subst h4;rw [h1,List.append_assoc];rfl
  ·rw [h1,oKs_stop b p c _ k3 h4]
 ·rw [pUint_had b k _ he] at hq
  cases hq
  have h2:=h.2 he
  rw [fl_had 13 he,ite_self]
  exact ⟨fun q=>absurd q he,fun _=>h2⟩
theorem InvY.fin {b:ByteArray} {p c:Int} {n k0:Nat} {e0:Int} {i:Nat} {l:List Int} {k:Nat} {e:Int} (h:InvY b p c n k0 e0 i l k e) (hi:n≤i):k=(oKs b p c n k0 e0).2.1∧e=(oKs b p c n k0 e0).2.2∧((oKs b p c n k0 e0).2.2=0→l=(oKs b p c n k0 e0).1):=by
 by_cases he:e=0
 ·subst he
  have h1:=h.1 rfl
  rw [oKs_end b p c (n-i) k 0 (.inl (by omega))] at h1
  rw [h1]
  exact ⟨rfl,rfl,fun _=>by simp⟩
 ·have h2:=h.2 he
  rw [h2]
  exact ⟨rfl,rfl,fun q=>absurd q he⟩
theorem InvY.bad {b:ByteArray} {p c:Int} {n k0:Nat} {e0:Int} {i:Nat} {l:List Int} {k:Nat} {e:Int} (h:InvY b p c n k0 e0 i l k e) (he:e≠0):k=(oKs b p c n k0 e0).2.1∧e=(oKs b p c n k0 e0).2.2:=by
 have h2:=h.2 he
 rw [h2]
 exact ⟨rfl,rfl⟩
theorem oKs_ok {b:ByteArray} {p c:Int} {n k:Nat} {e:Int} (h:(oKs b p c n k e).2.2=0):e=0:=by
 by_cases he:e=0
 ·exact he
 ·rw [oKs_stop b p c n k he] at h;exact h
theorem oTs_ok {b:ByteArray} {tx:Int} {n k:Nat} {e:Int} (h:(oTs b tx n k e).2.2=0):e=0:=by
 by_cases he:e=0
 ·exact he
 ·rw [oTs_stop b tx n k he] at h;exact h
theorem pUint_okO {b:ByteArray} {k:Nat} {e m:Int} (h:(pUint b k e m).2.2=0):e=0:=by
 by_cases he:e=0
 ·exact he
 ·rw [pUint_had b k m he] at h;exact h
theorem fl_okO {e d:Int} {P:Prop} [Decidable P] (h:(if P then fl e d else e)=0):e=0:=by
 by_cases he:e=0
 ·exact he
 ·rw [fl_had d he,ite_self] at h;exact h
def RdO (b:ByteArray) (tx:Int) (P:List Nd) (kz:Nat) (ez:Int) (m k:Nat) (ed:Int) (Y:List Nx):Prop:=
 ∀T k' e',oNds b (m:Int) tx (m-Y.length) (Y.length:Nat) ed k=(T,k',e')→(P,kz,ez)=(Y.map Nx.nd++T,k',e')
section
variable {b:ByteArray} {tx:Int} {P:List Nd} {kz:Nat} {ez:Int} {m k k1:Nat} {ed e1:Int} {Y:List Nx} {N:Nd}
theorem RdO.next {y:Nx} (h:RdO b tx P kz ez m k ed Y) (hlt:Y.length<m) (hn:oNd b (Y.length:Nat) (m:Int) tx ed k 0=(y.nd,k1,0)):RdO b tx P kz ez m k1 (ed-y.nd.kids.length) (Y++[y]):=by
 intro T k' e' hq
 rw [List.length_append,List.length_singleton] at hq
 have:=h (y.nd :: T) k' e' (by
  rw [show m-Y.length=(m-(Y.length+1))+1 by omega]
  unfold oNds
  rw [hn,if_neg (by simp)]
  dsimp only
  rw [show ((Y.length:Nat):Int)+1=((Y.length+1:Nat):Int) by omega,hq])
 rw [this]
 simp
theorem RdO.mem (h:RdO b tx P kz ez m k ed Y) (hlt:Y.length<m) (hn:oNd b (Y.length:Nat) (m:Int) tx ed k 0=(N,k1,0)):N ∈ P:=by
 obtain ⟨T,k',e',hq⟩:∃T k' e',oNds b (m:Int) tx (m-(Y.length+1)) ((Y.length+1:Nat):Int) (ed-N.kids.length) k1=(T,k',e'):=⟨_,_,_,rfl⟩
 have:=h (N :: T) k' e' (by
  rw [show m-Y.length=(m-(Y.length+1))+1 by omega]
  unfold oNds
  rw [hn,if_neg (by simp)]
  dsimp only
  rw [show ((Y.length:Nat):Int)+1=((Y.length+1:Nat):Int) by omega,hq])
 simp only [Prod.mk.injEq] at this
 rw [this.1]
 simp
theorem RdO.stop (h:RdO b tx P kz ez m k ed Y) (hlt:Y.length<m) (hn:oNd b (Y.length:Nat) (m:Int) tx ed k 0=(N,k1,e1)) (he:e1≠0):ez=e1:=by
 have:=h [] k1 e1 (by obtain ⟨q,hq⟩:∃q,m-Y.length=q+1:=⟨m-Y.length-1,by omega⟩;rw [hq];unfold oNds;rw [hn,if_pos he])
 simp only [Prod.mk.injEq] at this
 exact this.2.2
theorem RdO.fin (h:RdO b tx P kz ez m k ed Y) (hlt:¬Y.length<m):P=Y.map Nx.nd∧kz=k∧ez=0:=by
 have:=h [] k 0 (by rw [show m-Y.length=0 by omega];rfl)
 simpa using this
end
theorem oNd_eq {b:ByteArray} {p c tx edges:Int} {k:Nat} {q:Int} {k1:Nat} {e1 e2:Int} {A:List Int} {k4:Nat} {e4:Int} {B:List ByteArray} {k5:Nat} {e5 m:Int} {k6:Nat} {e6 e7:Int} {K:List Int} {k8:Nat} {e8:Int} (hq:pUint b k 0 16777216=(q,k1,e1)) (h2:(if (oldSp q).ok=true then e1 else fl e1 9)=e2)
  (hA:gIs b (oldSp q).ints k1 e2=(A,k4,e4)) (hB:oTs b tx (oldSp q).texts.toNat k4 e4=(B,k5,e5)) (hM:pUint b k5 e5 edges=(m,k6,e6)) (h7:(if decide (m<(oldSp q).least∨(0≤(oldSp q).most∧(oldSp q).most<m))=true then fl e6 12 else e6)=e7) (hK:oKs b p c m.toNat k6 e7=(K,k8,e8)) :
  oNd b p c tx edges k 0=(⟨q,A,B,K⟩,k8,e8):=by
 have hR:=oRest_eq hA hB hM h7 hK
 unfold oNd
 rw [hq]
 dsimp only
 rw [h2,hR]
structure Rws (w:World) (B:Nat) (v:Value) (Y:List Nx):Prop where
 row:w.ownsRow B 51 4 v Y.length (nxV Y)
 each:∀j,j<Y.length→OwnNx w B (Y.getD j noNx)
section
variable {w w':World} {B:Nat} {v:Value} {Y:List Nx}
theorem Rws.alien (h:Rws w B v Y):Alien w (fun b=>v.ownBlock=some b):=by
 rintro b hb hlt
 rcases h.row.2 with ⟨q,_⟩|⟨g,cap,cur,q,_,h5,_⟩
 ·rw [q] at hb;cases hb
 ·rw [q] at hb
  simp only [Value.ownBlock,Option.some.injEq] at hb
  subst hb
  exact ⟨_,_,_,h5,by decide,by decide,by decide⟩
theorem Rws.below (h:Rws w B v Y) (hb:Below w.heap.size w w'):Rws w' B v Y:=
 ⟨own_below h.row hb (Nat.le_refl _),fun j hj=>(h.each j hj).fr (Fr.of_below (S:=fun _=>False) hb) (fun _ q=>q.elim)⟩
theorem Rws.curP {gc:Nat} {x y z:Value} (h:Rws w B v Y) (hg:w.grownBy w' (some gc)) (hc:At3 156 w gc x y z):Rws w' B v Y:=by
 have hc':AtN 156 w gc #[x,y,z]:=hc
 have hF:Fr (fun b=>b=gc) w w':=Fr.of_grown hg (fun k e=>by cases e;rfl)
 have hal:Alien w (fun b=>b=gc):=fun b hb _=>⟨_,_,_,hb ▸ hc,by decide,by decide,by decide⟩
 exact ⟨own_fr h.row hF (fun b hb e=>own_ne_at h.row hc' (by decide) b hb e),fun j hj=>(h.each j hj).fr hF hal⟩
theorem Rws.next {W:World} {v':Value} {y:Nx} (h:Rws w B v Y) (hf:Fr (fun b=>v.ownBlock=some b) w W) (h2:W.ownsRow B 51 4 v' (Y.length+1) (nxV Y++nxC y)) (h3:OwnNx W B y):Rws W B v' (Y++[y]):=by
 refine ⟨by rw [nxV_snoc,List.length_append];exact h2,fun j hj=>?_⟩
 by_cases hlt:j<Y.length
 ·rw [show (Y++[y]).getD j noNx=Y.getD j noNx by rw [List.getD_eq_getElem?_getD,List.getElem?_append_left hlt,← List.getD_eq_getElem?_getD]]
  exact (h.each j hlt).fr hf h.alien
 ·obtain rfl:j=Y.length:=by simp at hj;omega
  rw [show (Y++[y]).getD Y.length noNx=y by simp]
  exact h3
theorem Rws.low {a:Option Addr} {c:Nat} {S:Nat→Prop} (h:Rws w B (.slice a Y.length c) Y) (k:Fr S w w') (hs:∀i,S i→i<B):ScAt w' a Y:=
 ⟨LsAt.of_own4' (own_fr h.row k (fun r hr q=>by have:=(h.row.lt r hr).1;have:=hs r q;omega)),fun i hi=>OwnNd.frAt (h.each i hi) k hs⟩
theorem Rws.nil (w:World) (B:Nat):Rws w B (.slice none 0 0) []:=⟨⟨rfl,.inl ⟨rfl,rfl⟩⟩,fun j hj=>by simp at hj⟩
end
end Go.Proofs.YtgoffkfpdigeeaaGreatDoor
namespace Go.Proofs.YtgoffkfpdigeeaaGreatDoor
open Go.RowKit
theorem pText_size (b:ByteArray) (k:Nat) (e m:Int):(pText b k e m).1.size≤b.size:=by
 have hz:(⟨#[]⟩:ByteArray).size≤b.size:=Nat.zero_le _
 unfold pText
 split
 ·exact hz
 split
 ·exact hz
 split
 ·exact hz
 split
 ·exact hz
 ·dsimp only
  rw [ByteArray.size_extract]
  omega
end Go.Proofs.YtgoffkfpdigeeaaGreatDoor
