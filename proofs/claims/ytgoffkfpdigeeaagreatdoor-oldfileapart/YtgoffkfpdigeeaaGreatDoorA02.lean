import Derived.RegionTactic
import Derived.Maps.AppendAt
import Derived.Test.YtgoffkfpdigeeaaGreatDoorA01
namespace Go.Proofs.YtgoffkfpdigeeaaGreatDoor
open Go.RowKit
def okB (l:List Oper) (size:Nat):Bool:=
 l.all (fun o=>match o.dst with|some d=>decide (d<size)|none=>true) &&
 (List.range l.length).all (fun j=>(List.range l.length).all fun k=>j==k || (l[j]?.bind (·.dst)).isNone || ((l[j]?.bind (·.dst)) != (l[k]?.bind (·.dst)))) &&
 (List.range l.length).all (fun j=>((l[j]?).map fun o=>o.after.all fun e=>!Region.binds .any e || decide (e.on<j)).getD true)
def valOf (a:Act) (d:Option Tmp):Value:=match d with|some d=>a.tmps[d]?.getD undef|none=>undef
def own1 (d:Option Tmp) (v:Value):Value:=match d with|some _=>v|none=>undef
theorem valOf_put_same (a:Act) (d:Option Tmp) (v:Value) (h:∀k,d=some k→k<a.tmps.size):valOf (a.put d v) d=own1 d v:=by
 cases d with
 | none=>rfl
 | some k=>simp [valOf,own1,Act.put,h k rfl]
theorem valOf_put_other (a:Act) (d d':Option Tmp) (v:Value) (h:∀k,d=some k→d'≠some k):valOf (a.put d v) d'=valOf a d':=by
 cases d with
 | none=>rfl
 | some k=>
  cases d' with
  | none=>rfl
  | some k'=>
   have:k≠k':=fun e=>h k rfl (by rw [e])
   simp [valOf,Act.put,Array.getElem?_setIfInBounds_ne this]
theorem countP_lt {p q:Nat→Bool} {l:List Nat} (hsub:∀j,p j=true→q j=true) (i:Nat) (hi:i ∈ l) (hp:p i=false) (hq:q i=true):l.countP p<l.countP q:=by
 induction l with
 | nil=>cases hi
 | cons x r ih=>
  have hle:r.countP p≤r.countP q:=List.countP_mono_left (fun j _ h=>hsub j h)
  rcases List.mem_cons.1 hi with rfl|h
  ·simp only [List.countP_cons,hp,hq]
   simp
   omega
  ·have:=ih h
   simp only [List.countP_cons]
   by_cases hx:p x=true
   ·simp [hx,hsub x hx];omega
   ·simp [hx];split <;> omega
section
variable {P:Program} {Q:Exit→Act→World→Prop} {a0:Act} {w0:World} {l:List Oper} {row:Option Nat} {s:Nat} {F:Nat→Value→World→Prop}
structure FInv (l:List Oper) (a0:Act) (w0:World) (row:Option Nat) (s:Nat) (F:Nat→Value→World→Prop) (listed:Array Bool) (a:Act) (w:World):Prop where
 grown:w0.grownBy w row
 still:listed.getD s false=false→w0.grownBy w none
 size:a.tmps.size=a0.tmps.size
 defers:a.defers=a0.defers
 off:∀d:Tmp,(∀o ∈ l,o.dst≠some d)→a.tmps[d]?.getD undef=a0.tmps[d]?.getD undef
 facts:∀j o,l[j]? = some o→listed.getD j false=true→F j (valOf a o.dst) w
theorem okB_dst (hc:okB l a0.tmps.size=true) {j:Nat} {o:Oper} (h:l[j]? = some o):∀k,o.dst=some k→k<a0.tmps.size:=by
 intro k hk
 unfold okB at hc
 simp only [Bool.and_eq_true] at hc
 have:=List.all_eq_true.1 hc.1.1 o (List.mem_of_getElem? h)
 rw [hk] at this
 simpa using this
theorem okB_ne (hc:okB l a0.tmps.size=true) {i j:Nat} {oi oj:Oper} (hi:l[i]? = some oi) (hj:l[j]? = some oj) (hne:i≠j):∀k,oi.dst=some k→oj.dst≠some k:=by
 intro k hk hk'
 unfold okB at hc
 simp only [Bool.and_eq_true] at hc
 have li:i<l.length:=(List.getElem?_eq_some_iff.1 hi).1
 have lj:j<l.length:=(List.getElem?_eq_some_iff.1 hj).1
 have:=List.all_eq_true.1 (List.all_eq_true.1 hc.1.2 i (by simpa using li)) j (by simpa using lj)
 rw [hi,hj] at this
 simp [hk,hk',hne] at this
theorem okB_back (hc:okB l a0.tmps.size=true) {j:Nat} {o:Oper} (h:l[j]? = some o):∀e ∈ o.after,Region.binds .any e=true→e.on<j:=by
 intro e he hb
 unfold okB at hc
 simp only [Bool.and_eq_true] at hc
 have lj:j<l.length:=(List.getElem?_eq_some_iff.1 h).1
 have:=List.all_eq_true.1 hc.2 j (by simpa using lj)
 rw [h] at this
 simp only [Option.map_some,Option.getD_some] at this
 rw [Array.all_eq_true_iff_forall_mem] at this
 have:=this e he
 simpa [hb] using this
theorem all_listed (hc:okB l a0.tmps.size=true) {listed:Array Bool} (hs:listed.size=l.length) (hr:Region.ready .any l.toArray listed=[]):∀j,j<l.length→listed.getD j false=true:=by
 intro j
 induction j using Nat.strongRecOn with
 | ind j ih=>
  intro hj
  cases hl:listed.getD j false with
  | true=>rfl
  | false=>
   exfalso
   have hlt:j<listed.size:=by omega
   have hf:listed.getD j true=false:=by simp [hlt] at hl ⊢;exact hl
   have ho:l.toArray[j]? = some l[j]:=by simp [hj]
   have:j ∈ Region.ready .any l.toArray listed:=mem_ready.2 ⟨hf,l[j],ho,fun e he hbi=>by
    have hb:=okB_back hc (List.getElem?_eq_getElem hj) e he hbi
    exact ih e.on hb (by omega)⟩
   rw [hr] at this
   cases this
def fillA (a0:Act) (V:Option Tmp→Value):List Oper→Act
 | []=>a0
 | o :: r=>fillA (a0.put o.dst (V o.dst)) V r
theorem fillA_is (V:Option Tmp→Value) (a:Act):∀(l:List Oper) (a0:Act),a.tmps.size=a0.tmps.size→a.defers=a0.defers→(∀o ∈ l,V o.dst=valOf a o.dst)→(∀d:Tmp,(∀o ∈ l,o.dst≠some d)→a.tmps[d]?.getD undef=a0.tmps[d]?.getD undef)→fillA a0 V l=a
 | [],a0,hs,hd,_,ho=>by
  have:a.tmps=a0.tmps:=by
   apply Array.ext hs
   intro i h1 h2
   have:=ho i (by simp)
   simpa [h1,h2] using this
  obtain ⟨t,d⟩:=a
  obtain ⟨t0,d0⟩:=a0
  simp only at this hd
  subst this;subst hd;rfl
 | o :: r,a0,hs,hd,hv,ho=>by
  unfold fillA
  refine fillA_is V a r _ ?_ ?_ (fun o' h'=>hv o' (by simp [h'])) ?_
  ·cases h:o.dst <;> simp [Act.put,hs]
  ·cases h:o.dst <;> simp [Act.put,hd]
  ·intro d hn
   have hvo:=hv o (by simp)
   by_cases hod:o.dst=some d
   ·rw [hod] at hvo ⊢
    simp only [valOf] at hvo
    rw [hvo]
    by_cases hlt:d<a0.tmps.size
    ·simp [Act.put,hlt]
    ·have h1:a.tmps.size≤d:=by rw [hs];exact Nat.le_of_not_lt hlt
     have h2:a.tmps[d]? = none:=Array.getElem?_eq_none h1
     have h3:(a0.tmps.setIfInBounds d undef)[d]? = none:=Array.getElem?_eq_none (by simpa using Nat.le_of_not_lt hlt)
     simp only [Act.put]
     rw [h2]
     show undef=((a0.tmps.setIfInBounds d undef)[d]?).getD undef
     rw [h3]
     rfl
   ·rw [ho d (fun o' h'=>by
     rcases List.mem_cons.1 h' with rfl|h'
     ·exact hod
     ·exact hn o' h')]
    cases h:o.dst with
    | none=>rfl
    | some k=>
     have:k≠d:=fun e=>hod (by rw [h,e])
     simp [Act.put,Array.getElem?_setIfInBounds_ne this]
theorem facts_any (hc:okB l a0.tmps.size=true) (stab:∀i j v w w',i≠j→w.grownBy w' (if i=s then row else none)→F j v w→F j v w')
  (step:∀i o,l[i]? = some o→∀(a:Act) (w:World),w0.grownBy w row→(i=s→w0.grownBy w none)→(∀d:Tmp,(l.all fun o'=>o'.dst != some d)=true→a.tmps[d]?.getD undef=a0.tmps[d]?.getD undef)→
   (∀k ok,(o.after.any fun e=>Region.binds .any e && e.on==k)=true→l[k]? = some ok→F k (valOf a ok.dst) w)→
   ∀K:Act→World→Prop,(∀v w',w.grownBy w' (if i=s then row else none)→F i (own1 o.dst v) w'→K (a.put o.dst v) w')→if Region.wanted o (yielded l.toArray a.tmps)=true then Oper.wp P o a w K Q else K (a.put o.dst undef) w)
  (fin:∀(V:Option Tmp→Value) (w:World),w0.grownBy w row→(∀j o,l[j]? = some o→F j (V o.dst) w)→Q .normal (fillA a0 V l) w) :
  ∀(fuel:Nat) (listed:Array Bool) (a:Act) (w:World),listed.size=l.length→(List.range l.length).countP (fun j=>!listed.getD j true)≤fuel→FInv l a0 w0 row s F listed a w→wpAny P .any l.toArray Q fuel listed a w:=by
 have done:∀(listed:Array Bool) (a:Act) (w:World),listed.size=l.length→Region.ready .any l.toArray listed=[]→FInv l a0 w0 row s F listed a w→Q .normal a w:=by
  intro listed a w hs hr I
  have hall:=all_listed hc hs hr
  have:=fin (valOf a) w I.grown (fun j o ho=>I.facts j o ho (hall j (List.getElem?_eq_some_iff.1 ho).1))
  rw [fillA_is (valOf a) a l a0 I.size I.defers (fun _ _=>rfl) I.off] at this
  exact this
 intro fuel
 induction fuel with
 | zero=>
  intro listed a w hs hn I
  have hr:Region.ready .any l.toArray listed=[]:=by
   cases h:Region.ready .any l.toArray listed with
   | nil=>rfl
   | cons i r=>
    exfalso
    have hi:i ∈ Region.ready .any l.toArray listed:=by rw [h];simp
    obtain ⟨hu,o,ho,_⟩:=mem_ready.1 hi
    have hlt:i<l.length:=by have:=(Array.getElem?_eq_some_iff.1 ho).1;simpa using this
    have:0<(List.range l.length).countP (fun j=>!listed.getD j true):=List.countP_pos_iff.2 ⟨i,by simpa using hlt,by simpa using hu⟩
    omega
  exact ⟨hr,done listed a w hs hr I⟩
 | succ fuel ih=>
  intro listed a w hs hn I
  refine ⟨fun hr=>done listed a w hs hr I,fun i hi=>?_⟩
  obtain ⟨hu,o,ho,hall⟩:=mem_ready.1 hi
  have ho':l[i]? = some o:=by simpa using ho
  have hlt:i<l.length:=(List.getElem?_eq_some_iff.1 ho').1
  have hfalse:listed.getD i false=false:=by
   have hlt':i<listed.size:=by omega
   simp [hlt'] at hu ⊢
   exact hu
  refine wpOp_step ho (fun K' hK'=>?_)
  refine step i o ho' a w I.grown (fun his=>I.still (his ▸ hfalse)) (fun d hd=>I.off d (fun o' ho'=>by have:=List.all_eq_true.1 hd o' ho';simpa using this)) (fun k ok hk hok=>?_) K' (fun v w' hg hF=>hK' _ _ ?_)
  ·rw [Array.any_eq_true] at hk
   obtain ⟨x,hx,hb⟩:=hk
   have he:=Array.getElem_mem hx
   generalize o.after[x]=e at *
   simp only [Bool.and_eq_true,beq_iff_eq] at hb
   obtain ⟨hb,rfl⟩:=hb
   exact I.facts e.on ok hok (hall e he hb)
  have hg':w.grownBy w' row:=by
   by_cases his:i=s
   ·rw [if_pos his] at hg;exact hg
   ·rw [if_neg his] at hg;exact ⟨hg.os,hg.tape,hg.output,hg.size,fun k hk _=>hg.block k hk (by simp)⟩
  refine ih _ _ _ (by simpa using hs) ?_ ⟨I.grown.trans hg',?_,?_,?_,?_,?_⟩
  ·have hlt':i<listed.size:=by omega
   have key:(List.range l.length).countP (fun j=>!(listed.setIfInBounds i true).getD j true)<(List.range l.length).countP (fun j=>!listed.getD j true):=by
    have hnd:=List.nodup_range (n:=l.length)
    have hsub:∀j,(!(listed.setIfInBounds i true).getD j true)=true→(!listed.getD j true)=true:=fun j hj=>by
     by_cases hij:i=j
     ·subst hij;simp [hlt'] at hj
     ·rw [getD_set_ne true hij] at hj;exact hj
    exact countP_lt hsub i (by simpa using hlt) (by simp [hlt']) (by simpa using hu)
   omega
  ·intro hl
   have his:i≠s:=fun e=>by
    subst e
    have hlt':i<listed.size:=by omega
    simp [hlt'] at hl
   rw [if_neg his] at hg
   rw [getD_set_ne false his] at hl
   exact (I.still hl).trans hg
  ·cases h:o.dst <;> simp [Act.put,I.size]
  ·cases h:o.dst <;> simp [Act.put,I.defers]
  ·intro d hd
   have:=hd o (List.mem_of_getElem? ho')
   rw [← I.off d hd]
   cases h:o.dst with
   | none=>rfl
   | some k=>
    have:k≠d:=fun e=>this (by rw [h,e])
    simp [Act.put,Array.getElem?_setIfInBounds_ne this]
  ·intro j oj hj hl
   by_cases hij:i=j
   ·subst hij
    rw [ho'] at hj
    cases hj
    rw [valOf_put_same _ _ _ (fun k hk=>by rw [I.size];exact okB_dst hc ho' k hk)]
    exact hF
   ·rw [valOf_put_other _ _ _ _ (okB_ne hc ho' hj hij)]
    rw [getD_set_ne false hij] at hl
    exact stab i j _ _ _ hij hg (I.facts j oj hj hl)
theorem facts_region {id:Nat} (row:Option Nat) (s:Nat) (F:Nat→Value→World→Prop) (hm:P.follows .mixedOrders=true) (hc:okB l a0.tmps.size=true) (stab:∀i j v w w',i≠j→w.grownBy w' (if i=s then row else none)→F j v w→F j v w')
  (step:∀i o,l[i]? = some o→∀(a:Act) (w:World),w0.grownBy w row→(i=s→w0.grownBy w none)→(∀d:Tmp,(l.all fun o'=>o'.dst != some d)=true→a.tmps[d]?.getD undef=a0.tmps[d]?.getD undef)→
   (∀k ok,(o.after.any fun e=>Region.binds .any e && e.on==k)=true→l[k]? = some ok→F k (valOf a ok.dst) w)→
   ∀K:Act→World→Prop,(∀v w',w.grownBy w' (if i=s then row else none)→F i (own1 o.dst v) w'→K (a.put o.dst v) w')→if Region.wanted o (yielded l.toArray a.tmps)=true then Oper.wp P o a w K Q else K (a.put o.dst undef) w)
  (fin:∀(V:Option Tmp→Value) (w:World),w0.grownBy w row→(∀j o,l[j]? = some o→F j (V o.dst) w)→Q .normal (fillA a0 V l) w):(Code.region id l.toArray true).wp P Q a0 w0:=by
 refine wp_region_any hm ?_
 refine facts_any (F:=F) (s:=s) hc stab step fin _ _ a0 _ (by simp) ?_ ⟨⟨rfl,rfl,rfl,Nat.le_refl _,fun _ _ _=>rfl⟩,fun _=>⟨rfl,rfl,rfl,Nat.le_refl _,fun _ _ _=>rfl⟩,rfl,rfl,fun _ _=>rfl,fun j o ho hl=>?_⟩
 ·exact Nat.le_trans (List.countP_le_length) (by simp)
 ·have hlt:j<l.length:=(List.getElem?_eq_some_iff.1 ho).1
  simp [hlt] at hl
end
end Go.Proofs.YtgoffkfpdigeeaaGreatDoor
namespace Go.Proofs.YtgoffkfpdigeeaaGreatDoor
open Go.RowKit
section
variable {P:Program} {Q:Exit→Act→World→Prop} {a0:Act} {w0:World} {l:List Oper} {G:World→Prop} {R:Nat→World→World→Prop} {cons:Nat→Nat} {dead:Nat→Nat→Bool} {F:Nat→(Option Tmp→Value)→World→Prop}
def waits (o:Oper) (k:Nat):Bool:=o.after.any fun e=>Region.binds .any e && e.on==k
theorem of_waits {o:Oper} {k:Nat} (h:waits o k=true):∃e ∈ o.after,Region.binds .any e=true∧e.on=k:=by
 unfold waits at h
 rw [Array.any_eq_true] at h
 obtain ⟨x,hx,hb⟩:=h
 simp only [Bool.and_eq_true,beq_iff_eq] at hb
 exact ⟨o.after[x],Array.getElem_mem hx,hb.1,hb.2⟩
end
end Go.Proofs.YtgoffkfpdigeeaaGreatDoor
namespace Go.Proofs.YtgoffkfpdigeeaaGreatDoor
open Go.RowKit
section
variable {P:Program} {Q:Exit→Act→World→Prop} {a0:Act} {w0:World} {l:List Oper} {G:World→Prop} {R:Nat→World→World→Prop} {cons:Nat→Nat} {dead:Nat→Nat→Bool} {F:Nat→(Option Tmp→Value)→World→Prop}
def late (l:List Oper) (i:Nat) (d:Tmp):Bool:=l.zipIdx.all fun p=>p.1.dst != some d || p.2==i || waits p.1 i
theorem late_of {l:List Oper} {i:Nat} {d:Tmp} (h:late l i d=true) {j:Nat} {o:Oper} (hj:l[j]? = some o) (hd:o.dst=some d):j=i∨waits o i=true:=by
 have:=List.all_eq_true.1 h (o,j) (by
  rw [List.mem_zipIdx_iff_getElem?]
  exact hj)
 simp only [hd,bne_self_eq_false,Bool.false_or,Bool.or_eq_true,beq_iff_eq] at this
 exact this
structure FInv3 (l:List Oper) (a0:Act) (G:World→Prop) (cons:Nat→Nat) (F:Nat→(Option Tmp→Value)→World→Prop) (listed:Array Bool) (a:Act) (w:World):Prop where
 glob:G w
 size:a.tmps.size=a0.tmps.size
 defers:a.defers=a0.defers
 off:∀d:Tmp,(∀j o,l[j]? = some o→o.dst=some d→listed.getD j false=false)→a.tmps[d]?.getD undef=a0.tmps[d]?.getD undef
 down:∀j o,l[j]? = some o→listed.getD j false=true→∀k,waits o k=true→listed.getD k false=true
 facts:∀j o,l[j]? = some o→listed.getD j false=true→listed.getD (cons j) false=false→F j (valOf a) w
theorem facts_any3 (hc:okB l a0.tmps.size=true)
  (hdead:∀i j oi oj,l[i]? = some oi→l[j]? = some oj→dead i j=true→waits oi (cons j)=true∨waits oj i=true) (stab:∀i j V w w',i≠j→cons j≠i→dead i j=false→R i w w'→F j V w→F j V w') (gl:∀i w w',R i w w'→G w→G w')
  (loc:∀j o V V' w,l[j]? = some o→V o.dst=V' o.dst→(∀k ok,waits o k=true→l[k]? = some ok→V ok.dst=V' ok.dst)→F j V w→F j V' w)
  (step:∀i o,l[i]? = some o→∀(a:Act) (w:World),G w→(∀d:Tmp,late l i d=true→a.tmps[d]?.getD undef=a0.tmps[d]?.getD undef)→
   (∀k,waits o k=true→(cons k=i∨l.length≤cons k)→F k (valOf a) w)→
   ∀K:Act→World→Prop,(∀v w',R i w w'→(∀V':Option Tmp→Value,V' o.dst=own1 o.dst v→(∀k ok,waits o k=true→l[k]? = some ok→V' ok.dst=valOf a ok.dst)→F i V' w')→K (a.put o.dst v) w')→if Region.wanted o (yielded l.toArray a.tmps)=true then Oper.wp P o a w K Q else K (a.put o.dst undef) w)
  (fin:∀(V:Option Tmp→Value) (w:World),G w→(∀j o,l[j]? = some o→l.length≤cons j→F j V w)→Q .normal (fillA a0 V l) w) :
  ∀(fuel:Nat) (listed:Array Bool) (a:Act) (w:World),listed.size=l.length→(List.range l.length).countP (fun j=>!listed.getD j true)≤fuel→FInv3 l a0 G cons F listed a w→wpAny P .any l.toArray Q fuel listed a w:=by
 have done:∀(listed:Array Bool) (a:Act) (w:World),listed.size=l.length→Region.ready .any l.toArray listed=[]→FInv3 l a0 G cons F listed a w→Q .normal a w:=by
  intro listed a w hs hr I
  have hall:=all_listed hc hs hr
  have:=fin (valOf a) w I.glob (fun j o ho hcj=>I.facts j o ho (hall j (List.getElem?_eq_some_iff.1 ho).1) (by simp [Array.getElem?_eq_none (show listed.size≤cons j by omega)]))
  rw [fillA_is (valOf a) a l a0 I.size I.defers (fun _ _=>rfl) (fun d hd=>I.off d (fun j o ho e=>absurd e (hd o (List.mem_of_getElem? ho))))] at this
  exact this
 intro fuel
 induction fuel with
 | zero=>
  intro listed a w hs hn I
  have hr:Region.ready .any l.toArray listed=[]:=by
   cases h:Region.ready .any l.toArray listed with
   | nil=>rfl
   | cons i r=>
    exfalso
    have hi:i ∈ Region.ready .any l.toArray listed:=by rw [h];simp
    obtain ⟨hu,o,ho,_⟩:=mem_ready.1 hi
    have hlt:i<l.length:=by have:=(Array.getElem?_eq_some_iff.1 ho).1;simpa using this
    have:0<(List.range l.length).countP (fun j=>!listed.getD j true):=List.countP_pos_iff.2 ⟨i,by simpa using hlt,by simpa using hu⟩
    omega
  exact ⟨hr,done listed a w hs hr I⟩
 | succ fuel ih=>
  intro listed a w hs hn I
  refine ⟨fun hr=>done listed a w hs hr I,fun i hi=>?_⟩
  obtain ⟨hu,o,ho,hall⟩:=mem_ready.1 hi
  have ho':l[i]? = some o:=by simpa using ho
  have hlt:i<l.length:=(List.getElem?_eq_some_iff.1 ho').1
  have hlt':i<listed.size:=by omega
  have hfalse:listed.getD i false=false:=by
   simp [hlt'] at hu ⊢
   exact hu
  have hwait:∀k,waits o k=true→listed.getD k false=true:=fun k hk=>by
   obtain ⟨e,he,hb,rfl⟩:=of_waits hk
   exact hall e he hb
  have hwlt:∀k,waits o k=true→k<l.length∧k≠i:=fun k hk=>by
   obtain ⟨e,he,hb,rfl⟩:=of_waits hk
   have:=okB_back hc ho' e he hb
   omega
  refine wpOp_step ho (fun K' hK'=>?_)
  refine step i o ho' a w I.glob (fun d hd=>I.off d (fun j oj hj e=>by
   rcases late_of hd hj e with rfl|hw
   ·exact hfalse
   ·cases hlj:listed.getD j false with
    | false=>rfl
    | true=>
     have:=I.down j oj hj hlj i hw
     rw [hfalse] at this
     cases this)) (fun k hk hck=>?_) K' (fun v w' hR hF=>hK' _ _ ?_)
  ·refine I.facts k _ (List.getElem?_eq_getElem (hwlt k hk).1) (hwait k hk) ?_
   rcases hck with hck|hck
   ·rw [hck];exact hfalse
   ·simp [Array.getElem?_eq_none (show listed.size≤cons k by omega)]
  have other:∀j oj,l[j]? = some oj→j≠i→valOf a oj.dst=valOf (a.put o.dst v) oj.dst:=fun j oj hj hne=>(valOf_put_other _ _ _ _ (okB_ne hc ho' hj (Ne.symm hne))).symm
  refine ih _ _ _ (by simpa using hs) ?_ ⟨gl i w w' hR I.glob,?_,?_,?_,?_,?_⟩
  ·have key:(List.range l.length).countP (fun j=>!(listed.setIfInBounds i true).getD j true)<(List.range l.length).countP (fun j=>!listed.getD j true):=by
    have hsub:∀j,(!(listed.setIfInBounds i true).getD j true)=true→(!listed.getD j true)=true:=fun j hj=>by
     by_cases hij:i=j
     ·subst hij;simp [hlt'] at hj
     ·rw [getD_set_ne true hij] at hj;exact hj
    exact countP_lt hsub i (by simpa using hlt) (by simp [hlt']) (by simpa using hu)
   omega
  ·cases h:o.dst <;> simp [Act.put,I.size]
  ·cases h:o.dst <;> simp [Act.put,I.defers]
  ·intro d hd
   have hne:o.dst≠some d:=fun e=>by
    have:=hd i o ho' e
    simp [hlt'] at this
   rw [← I.off d (fun j oj hj e=>by
    by_cases hij:i=j
    ·subst hij;exact hfalse
    ·have:=hd j oj hj e
     rwa [getD_set_ne false hij] at this)]
   cases h:o.dst with
   | none=>rfl
   | some k=>
    have:k≠d:=fun e=>hne (by rw [h,e])
    simp [Act.put,Array.getElem?_setIfInBounds_ne this]
  ·intro j oj hj hl k hk
   by_cases hij:i=j
   ·subst hij
    rw [ho'] at hj
    cases hj
    exact getD_set_true (hwait k hk)
   ·rw [getD_set_ne false hij] at hl
    exact getD_set_true (I.down j oj hj hl k hk)
  ·intro j oj hj hl hcl
   by_cases hij:i=j
   ·subst hij
    rw [ho'] at hj
    cases hj
    refine hF _ (valOf_put_same _ _ _ (fun k hk=>by rw [I.size];exact okB_dst hc ho' k hk)) (fun k ok hk hok=>(other k ok hok (hwlt k hk).2).symm)
   ·rw [getD_set_ne false hij] at hl
    have hci:cons j≠i:=fun e=>by rw [e] at hcl;simp [hlt'] at hcl
    rw [getD_set_ne false (Ne.symm hci)] at hcl
    have hdd:dead i j=false:=by
     cases hd:dead i j with
     | false=>rfl
     | true=>
      exfalso
      rcases hdead i j o oj ho' hj hd with hw|hw
      ·have:=hwait _ hw
       rw [hcl] at this
       cases this
      ·have:=I.down j oj hj hl i hw
       rw [hfalse] at this
       cases this
    have h1:=stab i j _ _ _ hij hci hdd hR (I.facts j oj hj hl hcl)
    refine loc j oj _ _ _ hj (other j oj hj (Ne.symm hij)) (fun k ok hk hok=>other k ok hok (fun e=>?_)) h1
    subst e
    have:=I.down j oj hj hl k hk
    rw [hfalse] at this
    cases this
theorem facts_region3 {id:Nat} (G:World→Prop) (R:Nat→World→World→Prop) (cons:Nat→Nat) (dead:Nat→Nat→Bool) (F:Nat→(Option Tmp→Value)→World→Prop) (hm:P.follows .mixedOrders=true) (hc:okB l a0.tmps.size=true) (h0:G w0.drew)
  (hdead:∀i j oi oj,l[i]? = some oi→l[j]? = some oj→dead i j=true→waits oi (cons j)=true∨waits oj i=true) (stab:∀i j V w w',i≠j→cons j≠i→dead i j=false→R i w w'→F j V w→F j V w') (gl:∀i w w',R i w w'→G w→G w')
  (loc:∀j o V V' w,l[j]? = some o→V o.dst=V' o.dst→(∀k ok,waits o k=true→l[k]? = some ok→V ok.dst=V' ok.dst)→F j V w→F j V' w)
  (step:∀i o,l[i]? = some o→∀(a:Act) (w:World),G w→(∀d:Tmp,late l i d=true→a.tmps[d]?.getD undef=a0.tmps[d]?.getD undef)→
   (∀k,waits o k=true→(cons k=i∨l.length≤cons k)→F k (valOf a) w)→
   ∀K:Act→World→Prop,(∀v w',R i w w'→(∀V':Option Tmp→Value,V' o.dst=own1 o.dst v→(∀k ok,waits o k=true→l[k]? = some ok→V' ok.dst=valOf a ok.dst)→F i V' w')→K (a.put o.dst v) w')→if Region.wanted o (yielded l.toArray a.tmps)=true then Oper.wp P o a w K Q else K (a.put o.dst undef) w)
  (fin:∀(V:Option Tmp→Value) (w:World),G w→(∀j o,l[j]? = some o→l.length≤cons j→F j V w)→Q .normal (fillA a0 V l) w):(Code.region id l.toArray true).wp P Q a0 w0:=by
 refine wp_region_any hm ?_
 refine facts_any3 (F:=F) (R:=R) hc hdead stab gl loc step fin _ _ a0 _ (by simp) ?_ ⟨h0,rfl,rfl,fun _ _=>rfl,fun j o ho hl=>?_,fun j o ho hl=>?_⟩
 ·exact Nat.le_trans (List.countP_le_length) (by simp)
 ·have hlt:j<l.length:=(List.getElem?_eq_some_iff.1 ho).1
  simp [hlt] at hl
 ·have hlt:j<l.length:=(List.getElem?_eq_some_iff.1 ho).1
  simp [hlt] at hl
end
end Go.Proofs.YtgoffkfpdigeeaaGreatDoor
namespace Go.Proofs.YtgoffkfpdigeeaaGreatDoor
open Go.RowKit
section
variable {P:Program} {Q:Exit→Act→World→Prop} {a0:Act} {w0:World} {l:List Oper} {G:World→Prop} {R:Nat→World→World→Prop} {cons:Nat→Nat} {dead:Nat→Nat→Bool} {F:Nat→(Option Tmp→Value)→World→Prop} {cI:Nat→Nat} {FI:Nat→World→Prop}
end
end Go.Proofs.YtgoffkfpdigeeaaGreatDoor
namespace Go.Proofs.YtgoffkfpdigeeaaGreatDoor
open Go.RowKit
end Go.Proofs.YtgoffkfpdigeeaaGreatDoor
namespace Go.Proofs.YtgoffkfpdigeeaaGreatDoor
open Go.RowKit
theorem facts_region5 {P:Program} {Q:Exit→Act→World→Prop} {a0:Act} {w0:World} {l:List Oper} {id:Nat} (G:World→Prop) (R:Nat→World→World→Prop) (F:Nat→Value→World→Prop) (hm:P.follows .mixedOrders=true) (hc:okB l a0.tmps.size=true) (h0:G w0.drew)
  (stab:∀i j v w w',i≠j→R i w w'→F j v w→F j v w') (gl:∀i w w',R i w w'→G w→G w')
  (step:∀i o,l[i]? = some o→∀(a:Act) (w:World),G w→(∀d:Tmp,late l i d=true→a.tmps[d]?.getD undef=a0.tmps[d]?.getD undef)→
   (∀k ok,waits o k=true→l[k]? = some ok→F k (valOf a ok.dst) w)→
   ∀K:Act→World→Prop,(∀v w',R i w w'→F i (own1 o.dst v) w'→K (a.put o.dst v) w')→if Region.wanted o (yielded l.toArray a.tmps)=true then Oper.wp P o a w K Q else K (a.put o.dst undef) w)
  (fin:∀(V:Option Tmp→Value) (w:World),G w→(∀j o,l[j]? = some o→F j (V o.dst) w)→Q .normal (fillA a0 V l) w):(Code.region id l.toArray true).wp P Q a0 w0:=by
 refine facts_region3 G R (fun _=>l.length) (fun _ _=>false) (fun j V W=>∀o,l[j]? = some o→F j (V o.dst) W) hm hc h0 (fun _ _ _ _ _ _ h=>by cases h) (fun i j V w w' hne _ _ hR h o ho=>stab i j _ w w' hne hR (h o ho)) gl ?_ ?_ ?_
 ·intro j o V V' w ho hd _ h o' ho'
  rw [ho] at ho'
  obtain rfl:=Option.some.inj ho'
  rw [← hd]
  exact h o ho
 ·intro i o ho a w hG hoff hdep K hK
  refine step i o ho a w hG hoff (fun k ok hk hl=>hdep k hk (.inr (Nat.le_refl _)) ok hl) K (fun v w' hR hF=>hK v w' hR (fun V' h1 _ o' ho'=>?_))
  rw [ho] at ho'
  obtain rfl:=Option.some.inj ho'
  rw [h1]
  exact hF
 ·intro V w hG h
  exact fin V w hG (fun j o ho=>h j o ho (Nat.le_refl _) o ho)
end Go.Proofs.YtgoffkfpdigeeaaGreatDoor
namespace Go.Proofs.YtgoffkfpdigeeaaGreatDoor
open Go.RowKit
end Go.Proofs.YtgoffkfpdigeeaaGreatDoor
