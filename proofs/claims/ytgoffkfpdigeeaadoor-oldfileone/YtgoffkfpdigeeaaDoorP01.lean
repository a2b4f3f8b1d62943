import Derived.WalkKit
import Derived.WalkSpells
import Derived.WalkLawsBesides
import Derived.Laws.IdiomStrings
import Derived.Deep.Draws
import Derived.Test.YtgoffkfpdigeeaaDoorRows
import Derived.Deep.AppendLies
import Derived.Deep.RegionLaw
import Derived.Laws.OwnMore
import Derived.RegionTactic
import Derived.Maps.AppendAt
namespace Go.Proofs.YtgoffkfpdigeeaaDoor
open Go.RowKit
def bV (l:List UInt8):List Value:=l.map fun c=>Value.int .u8 (c.toNat:Int)
theorem bV_length (l:List UInt8):(bV l).length=l.length:=by simp [bV]
theorem bV_append (a b:List UInt8):bV (a++b)=bV a++bV b:=by simp [bV]
theorem bV_one (k:Nat) (h:k<256):bV [UInt8.ofNat k]=[Value.int .u8 (k:Int)]:=by
 simp [bV];omega
theorem bV_snoc (l:List UInt8) (k:Nat) (h:k<256):bV (l++[UInt8.ofNat k])=bV l++[Value.int .u8 (k:Int)]:=by
 rw [bV_append,bV_one k h]
theorem conv_own {P:Program} {w:World} {base:Nat} {v:Value} {l:List UInt8} (src dst e:TypeId) (hs:P.underlying src=some (.slice e)) (he:P.underlying e=some (.int .u8)) (hd:P.underlying dst=some .string)
  (h:w.ownsRow base e 1 v l.length (bV l)) (hn:0<l.length) :
  ∃g cap,v=.slice (some ⟨g,0,none⟩) l.length cap∧(convert src dst (.slice (some ⟨g,0,none⟩) l.length cap)).run P w=.ok (.string ⟨l.toArray⟩) w:=by
 have h0:=h
 rcases h.2 with ⟨_,h2⟩|⟨g,cap,cur,rfl,_⟩
 ·omega
 ·refine ⟨g,cap,rfl,run_convert_bytes_back w src dst e ⟨g,0,none⟩ cap l hs he hd ?_⟩
  intro j hj
  have hadd:(⟨g,0,none⟩:Addr).add j=⟨g,j,none⟩:=by unfold Addr.add;split <;> simp_all
  rw [hadd,h0.cellAt j (by omega)]
  simp [bV,hj]
theorem conv_one {P:Program} (w:World) (src dst e:TypeId) (hs:P.underlying src=some (.slice e)) (he:P.underlying e=some (.int .u8)) (hd:P.underlying dst=some .string) (g cap:Nat) (c:Int) (h0:0≤c) (h1:c≤255)
  (h:w.cell? ⟨g,0,none⟩=some (.int .u8 c)) :
  (convert src dst (.slice (some ⟨g,0,none⟩) 1 cap)).run P w=.ok (.string ⟨[UInt8.ofNat c.toNat].toArray⟩) w:=by
 have:=run_convert_bytes_back w src dst e ⟨g,0,none⟩ cap [UInt8.ofNat c.toNat] hs he hd (by
  intro j hj
  simp at hj
  subst hj
  have hadd:(⟨g,0,none⟩:Addr).add 0=⟨g,0,none⟩:=rfl
  rw [hadd,h]
  simp
  omega)
 exact this
theorem bcell {W w1:World} (hb:Below W.heap.size W w1):(∀b o,b<W.heap.size→w1.cell? ⟨b,o,none⟩=W.cell? ⟨b,o,none⟩)∧(∀b o,b<W.heap.size→w1.frozen? ⟨b,o,none⟩=W.frozen? ⟨b,o,none⟩):=
 ⟨fun b o h=>hb.cell (p:=⟨b,o,none⟩) h,fun b o h=>hb.frozen (p:=⟨b,o,none⟩) h⟩
theorem below_own {B:Nat} {a w w':World} {e:TypeId} {size:Nat} {v:Value} {n:Nat} {xs:List Value} (h:Below B a w) (ho:w.ownsRow B e size v n xs) (hg:w.grownBy w' v.ownBlock) (hB:B≤w.heap.size):Below B a w':=
 h.grown hg hB fun k hk=>(ho.lt k hk).1
end Go.Proofs.YtgoffkfpdigeeaaDoor
namespace Go.Proofs.YtgoffkfpdigeeaaDoor
open Go.RowKit
def AtN (T:TypeId) (w:World) (g:Nat) (cs:Array Value):Prop:=w.heap[g]? = some (.cells cs T (0,0))
section
variable {T:TypeId} {w w':World} {g:Nat} {cs:Array Value}
theorem AtN.lt (h:AtN T w g cs):g<w.heap.size:=(Array.getElem?_eq_some_iff.1 h).1
theorem AtN.cell (h:AtN T w g cs) (j:Nat):w.cell? ⟨g,j,none⟩=cs[j]? := by
 have h':w.heap[g]? = _:=h
 simp [World.cell?,h']
theorem AtN.fz (h:AtN T w g cs) (j:Nat):w.frozen? ⟨g,j,none⟩=false:=frozen_of_row w g j _ T h
theorem AtN.kept {row:Option Nat} (h:AtN T w g cs) (hg:w.grownBy w' row) (hne:some g≠row):AtN T w' g cs:=by
 unfold AtN
 rw [hg.block g h.lt hne]
 exact h
theorem AtN.below {B:Nat} (h:AtN T w g cs) (hb:Below B w w') (hg:g<B):AtN T w' g cs:=by
 unfold AtN
 rw [hb.block g hg]
 exact h
theorem AtN.belowAll (h:AtN T w g cs) (hb:Below w.heap.size w w'):AtN T w' g cs:=h.below hb h.lt
theorem AtN.alloc (h:AtN T w g cs) (o:Obj):AtN T (w.alloc o) g cs:=h.below ((Below.refl w.heap.size w).alloc (Nat.le_refl _) o) h.lt
theorem AtN.drew (h:AtN T w g cs):AtN T w.drew g cs:=h
theorem AtN.drewN (h:AtN T w g cs) (n:Nat):AtN T (w.drewN n) g cs:=h
theorem AtN.new (w:World) (T:TypeId) (cs:Array Value):AtN T (w.alloc (.cells cs T)) w.heap.size cs:=by
 unfold AtN World.alloc
 simp
theorem AtN.set (h:AtN T w g cs) (j:Nat) (v:Value):AtN T (w.setCell ⟨g,j,none⟩ v) g (cs.setIfInBounds j v):=by
 have h':w.heap[g]? = _:=h
 unfold AtN World.setCell
 simp [Array.getElem?_modify,h']
theorem AtN.setOther (h:AtN T w g cs) (p:Addr) (hp:p.block≠g) (v:Value):AtN T (w.setCell p v) g cs:=by
 unfold AtN
 rw [Below.heap_setCell _ _ _ _ (by omega)]
 exact h
end
theorem own_set {w:World} {B:Nat} {e:TypeId} {size:Nat} {v:Value} {n:Nat} {xs:List Value} (h:w.ownsRow B e size v n xs) (p:Addr) (hp:∀r,v.ownBlock=some r→r≠p.block) (x:Value):(w.setCell p x).ownsRow B e size v n xs:=by
 refine ⟨h.1,?_⟩
 rcases h.2 with hv|⟨g,cap,cur,rfl,h1,h2,h3⟩
 ·exact .inl hv
 ·exact .inr ⟨g,cap,cur,rfl,h1,(Below.heap_setCell _ _ _ _ (hp g rfl)).trans h2,h3⟩
theorem own_below {w w':World} {B C:Nat} {e:TypeId} {size:Nat} {v:Value} {n:Nat} {xs:List Value} (h:w.ownsRow B e size v n xs) (hb:Below C w w') (hC:w.heap.size≤C):w'.ownsRow B e size v n xs:=by
 refine ⟨h.1,?_⟩
 rcases h.2 with hv|⟨g,cap,cur,rfl,h1,h2,h3⟩
 ·exact .inl hv
 ·exact .inr ⟨g,cap,cur,rfl,h1,(hb.block g (Nat.lt_of_lt_of_le (Array.getElem?_eq_some_iff.1 h2).1 hC)).trans h2,h3⟩
theorem own_mono {w:World} {B C:Nat} {e:TypeId} {size:Nat} {v:Value} {n:Nat} {xs:List Value} (h:w.ownsRow B e size v n xs) (hc:C≤B):w.ownsRow C e size v n xs:=by
 refine ⟨h.1,?_⟩
 rcases h.2 with hv|⟨g,cap,cur,rfl,h1,r⟩
 ·exact .inl hv
 ·exact .inr ⟨g,cap,cur,rfl,Nat.le_trans hc h1,r⟩
theorem dn_below {B:Nat} {a b:World} (h:Below B a b) (n:Nat):Below B a (b.drewN n):=⟨h.os,h.tape,h.output,h.size,h.block⟩
theorem set_below {B:Nat} {a b:World} (h:Below B a b) (p:Addr) (hp:B≤p.block) (v:Value):Below B a (b.setCell p v):=
 ⟨h.os,h.tape,h.output,by simpa [World.setCell] using h.size,fun i hi=>(Below.heap_setCell _ _ _ _ (by omega)).trans (h.block i hi)⟩
end Go.Proofs.YtgoffkfpdigeeaaDoor
namespace Go.Proofs.YtgoffkfpdigeeaaDoor
open Go.RowKit
theorem Tryd.infoI7:(Tryd.prog.info? 3).map (fun i=>(i.zero,i.size,i.bytes))=some (some (.int .i64 0),1,8):=by kernel_rfl
def iV (l:List Int):List Value:=l.map fun z=>Value.int .i64 z
theorem mk_at {T:TypeId} {w:World} {g g':Nat} {cs:Array Value} (h:AtN T w g cs) (e:g=g'):AtN T w g' cs:=e ▸ h
theorem own_shape7 {w:World} {B:Nat} {e:TypeId} {n:Nat} {v:Value} {xs:List Value} (h:w.ownsRow B e 1 v n xs):∃a cap,v=.slice a n cap:=by
 rcases h.2 with ⟨rfl,h2⟩|⟨g,cap,cur,rfl,_⟩
 ·exact ⟨none,0,by rw [h2]⟩
 ·exact ⟨_,_,rfl⟩
def noT:ByteArray:=⟨#[]⟩
end Go.Proofs.YtgoffkfpdigeeaaDoor
namespace Go.Proofs.YtgoffkfpdigeeaaDoor
open Go.RowKit
def okB (l:List Oper) (size:Nat):Bool:=
 l.all (fun o=>match o.dst with|some d=>decide (d<size)|none=>true) &&
 (List.range l.length).all (fun j=>(List.range l.length).all fun k=>j==k || (l[j]?.bind (·.dst)).isNone || ((l[j]?.bind (·.dst)) != (l[k]?.bind (·.dst)))) &&
 (List.range l.length).all (fun j=>((l[j]?).map fun o=>o.after.all fun e=>!Region.binds .any e || decide (e.on<j)).getD true)
def valOf (a:Act) (d:Option Tmp):Value:=match d with|some d=>a.tmps[d]?.getD undef|none=>undef
def own1 (d:Option Tmp) (v:Value):Value:=match d with|some _=>v|none=>undef
theorem valOf_put_same (a:Act) (d:Option Tmp) (v:Value) (h:∀k,d=some k→k<a.tmps.size):valOf (a.put d v) d=own1 d v:=by
 cases d with
 | none=>rfl
 | some k=>simp [valOf,own1,Act.put,h k rfl]
theorem valOf_put_other (a:Act) (d d':Option Tmp) (v:Value) (h:∀k,d=some k→d'≠some k):valOf (a.put d v) d'=valOf a d':=by
 cases d with
 | none=>rfl
 | some k=>
  cases d' with
  | none=>rfl
  | some k'=>
   have:k≠k':=fun e=>h k rfl (by rw [e])
   simp [valOf,Act.put,Array.getElem?_setIfInBounds_ne this]
theorem countP_lt {p q:Nat→Bool} {l:List Nat} (hsub:∀j,p j=true→q j=true) (i:Nat) (hi:i ∈ l) (hp:p i=false) (hq:q i=true):l.countP p<l.countP q:=by
 induction l with
 | nil=>cases hi
 | cons x r ih=>
  have hle:r.countP p≤r.countP q:=List.countP_mono_left (fun j _ h=>hsub j h)
  rcases List.mem_cons.1 hi with rfl|h
  ·simp only [List.countP_cons,hp,hq]
   simp
   omega
  ·have:=ih h
   simp only [List.countP_cons]
   by_cases hx:p x=true
   ·simp [hx,hsub x hx];omega
   ·simp [hx];split <;> omega
section
variable {P:Program} {Q:Exit→Act→World→Prop} {a0:Act} {w0:World} {l:List Oper} {row:Option Nat} {s:Nat} {F:Nat→Value→World→Prop}
structure FInv (l:List Oper) (a0:Act) (w0:World) (row:Option Nat) (s:Nat) (F:Nat→Value→World→Prop) (listed:Array Bool) (a:Act) (w:World):Prop where
 grown:w0.grownBy w row
 still:listed.getD s false=false→w0.grownBy w none
 size:a.tmps.size=a0.tmps.size
 defers:a.defers=a0.defers
 off:∀d:Tmp,(∀o ∈ l,o.dst≠some d)→a.tmps[d]?.getD undef=a0.tmps[d]?.getD undef
 facts:∀j o,l[j]? = some o→listed.getD j false=true→F j (valOf a o.dst) w
theorem okB_dst (hc:okB l a0.tmps.size=true) {j:Nat} {o:Oper} (h:l[j]? = some o):∀k,o.dst=some k→k<a0.tmps.size:=by
 intro k hk
 unfold okB at hc
 simp only [Bool.and_eq_true] at hc
 have:=List.all_eq_true.1 hc.1.1 o (List.mem_of_getElem? h)
 rw [hk] at this
 simpa using this
theorem okB_ne (hc:okB l a0.tmps.size=true) {i j:Nat} {oi oj:Oper} (hi:l[i]? = some oi) (hj:l[j]? = some oj) (hne:i≠j):∀k,oi.dst=some k→oj.dst≠some k:=by
 intro k hk hk'
 unfold okB at hc
 simp only [Bool.and_eq_true] at hc
 have li:i<l.length:=(List.getElem?_eq_some_iff.1 hi).1
 have lj:j<l.length:=(List.getElem?_eq_some_iff.1 hj).1
 have:=List.all_eq_true.1 (List.all_eq_true.1 hc.1.2 i (by simpa using li)) j (by simpa using lj)
 rw [hi,hj] at this
 simp [hk,hk',hne] at this
theorem okB_back (hc:okB l a0.tmps.size=true) {j:Nat} {o:Oper} (h:l[j]? = some o):∀e ∈ o.after,Region.binds .any e=true→e.on<j:=by
 intro e he hb
 unfold okB at hc
 simp only [Bool.and_eq_true] at hc
 have lj:j<l.length:=(List.getElem?_eq_some_iff.1 h).1
 have:=List.all_eq_true.1 hc.2 j (by simpa using lj)
 rw [h] at this
 simp only [Option.map_some,Option.getD_some] at this
 rw [Array.all_eq_true_iff_forall_mem] at this
 have:=this e he
 simpa [hb] using this
theorem all_listed (hc:okB l a0.tmps.size=true) {listed:Array Bool} (hs:listed.size=l.length) (hr:Region.ready .any l.toArray listed=[]):∀j,j<l.length→listed.getD j false=true:=by
 intro j
 induction j using Nat.strongRecOn with
 | ind j ih=>
  intro hj
  cases hl:listed.getD j false with
  | true=>rfl
  | false=>
   exfalso
   have hlt:j<listed.size:=by omega
   have hf:listed.getD j true=false:=by simp [hlt] at hl ⊢;exact hl
   have ho:l.toArray[j]? = some l[j]:=by simp [hj]
   have:j ∈ Region.ready .any l.toArray listed:=mem_ready.2 ⟨hf,l[j],ho,fun e he hbi=>by
    have hb:=okB_back hc (List.getElem?_eq_getElem hj) e he hbi
    exact ih e.on hb (by omega)⟩
   rw [hr] at this
   cases this
def fillA (a0:Act) (V:Option Tmp→Value):List Oper→Act
 | []=>a0
 | o :: r=>fillA (a0.put o.dst (V o.dst)) V r
theorem fillA_is (V:Option Tmp→Value) (a:Act):∀(l:List Oper) (a0:Act),a.tmps.size=a0.tmps.size→a.defers=a0.defers→(∀o ∈ l,V o.dst=valOf a o.dst)→(∀d:Tmp,(∀o ∈ l,o.dst≠some d)→a.tmps[d]?.getD undef=a0.tmps[d]?.getD undef)→fillA a0 V l=a
 | [],a0,hs,hd,_,ho=>by
  have:a.tmps=a0.tmps:=by
   apply Array.ext hs
   intro i h1 h2
   have:=ho i (by simp)
   simpa [h1,h2] using this
  obtain ⟨t,d⟩:=a
  obtain ⟨t0,d0⟩:=a0
  simp only at this hd
  subst this;subst hd;rfl
 | o :: r,a0,hs,hd,hv,ho=>by
  unfold fillA
  refine fillA_is V a r _ ?_ ?_ (fun o' h'=>hv o' (by simp [h'])) ?_
  ·cases h:o.dst <;> simp [Act.put,hs]
  ·cases h:o.dst <;> simp [Act.put,hd]
  ·intro d hn
   have hvo:=hv o (by simp)
   by_cases hod:o.dst=some d
   ·rw [hod] at hvo ⊢
    simp only [valOf] at hvo
    rw [hvo]
    by_cases hlt:d<a0.tmps.size
    ·simp [Act.put,hlt]
    ·have h1:a.tmps.size≤d:=by rw [hs];exact Nat.le_of_not_lt hlt
     have h2:a.tmps[d]? = none:=Array.getElem?_eq_none h1
     have h3:(a0.tmps.setIfInBounds d undef)[d]? = none:=Array.getElem?_eq_none (by simpa using Nat.le_of_not_lt hlt)
     simp only [Act.put]
     rw [h2]
     show undef=((a0.tmps.setIfInBounds d undef)[d]?).getD undef
     rw [h3]
     rfl
   ·rw [ho d (fun o' h'=>by
     rcases List.mem_cons.1 h' with rfl|h'
     ·exact hod
     ·exact hn o' h')]
    cases h:o.dst with
    | none=>rfl
    | some k=>
     have:k≠d:=fun e=>hod (by rw [h,e])
     simp [Act.put,Array.getElem?_setIfInBounds_ne this]
theorem facts_any (hc:okB l a0.tmps.size=true) (stab:∀i j v w w',i≠j→w.grownBy w' (if i=s then row else none)→F j v w→F j v w')
  (step:∀i o,l[i]? = some o→∀(a:Act) (w:World),w0.grownBy w row→(i=s→w0.grownBy w none)→(∀d:Tmp,(l.all fun o'=>o'.dst != some d)=true→a.tmps[d]?.getD undef=a0.tmps[d]?.getD undef)→
   (∀k ok,(o.after.any fun e=>Region.binds .any e && e.on==k)=true→l[k]? = some ok→F k (valOf a ok.dst) w)→
   ∀K:Act→World→Prop,(∀v w',w.grownBy w' (if i=s then row else none)→F i (own1 o.dst v) w'→K (a.put o.dst v) w')→if Region.wanted o (yielded l.toArray a.tmps)=true then Oper.wp P o a w K Q else K (a.put o.dst undef) w)
  (fin:∀(V:Option Tmp→Value) (w:World),w0.grownBy w row→(∀j o,l[j]? = some o→F j (V o.dst) w)→Q .normal (fillA a0 V l) w) :
  ∀(fuel:Nat) (listed:Array Bool) (a:Act) (w:World),listed.size=l.length→(List.range l.length).countP (fun j=>!listed.getD j true)≤fuel→FInv l a0 w0 row s F listed a w→wpAny P .any l.toArray Q fuel listed a w:=by
 have done:∀(listed:Array Bool) (a:Act) (w:World),listed.size=l.length→Region.ready .any l.toArray listed=[]→FInv l a0 w0 row s F listed a w→Q .normal a w:=by
  intro listed a w hs hr I
  have hall:=all_listed hc hs hr
  have:=fin (valOf a) w I.grown (fun j o ho=>I.facts j o ho (hall j (List.getElem?_eq_some_iff.1 ho).1))
  rw [fillA_is (valOf a) a l a0 I.size I.defers (fun _ _=>rfl) I.off] at this
  exact this
 intro fuel
 induction fuel with
 | zero=>
  intro listed a w hs hn I
  have hr:Region.ready .any l.toArray listed=[]:=by
   cases h:Region.ready .any l.toArray listed with
   | nil=>rfl
   | cons i r=>
    exfalso
    have hi:i ∈ Region.ready .any l.toArray listed:=by rw [h];simp
    obtain ⟨hu,o,ho,_⟩:=mem_ready.1 hi
    have hlt:i<l.length:=by have:=(Array.getElem?_eq_some_iff.1 ho).1;simpa using this
    have:0<(List.range l.length).countP (fun j=>!listed.getD j true):=List.countP_pos_iff.2 ⟨i,by simpa using hlt,by simpa using hu⟩
    omega
  exact ⟨hr,done listed a w hs hr I⟩
 | succ fuel ih=>
  intro listed a w hs hn I
  refine ⟨fun hr=>done listed a w hs hr I,fun i hi=>?_⟩
  obtain ⟨hu,o,ho,hall⟩:=mem_ready.1 hi
  have ho':l[i]? = some o:=by simpa using ho
  have hlt:i<l.length:=(List.getElem?_eq_some_iff.1 ho').1
  have hfalse:listed.getD i false=false:=by
   have hlt':i<listed.size:=by omega
   simp [hlt'] at hu ⊢
   exact hu
  refine wpOp_step ho (fun K' hK'=>?_)
  refine step i o ho' a w I.grown (fun his=>I.still (his ▸ hfalse)) (fun d hd=>I.off d (fun o' ho'=>by have:=List.all_eq_true.1 hd o' ho';simpa using this)) (fun k ok hk hok=>?_) K' (fun v w' hg hF=>hK' _ _ ?_)
  ·rw [Array.any_eq_true] at hk
   obtain ⟨x,hx,hb⟩:=hk
   have he:=Array.getElem_mem hx
   generalize o.after[x]=e at *
   simp only [Bool.and_eq_true,beq_iff_eq] at hb
   obtain ⟨hb,rfl⟩:=hb
   exact I.facts e.on ok hok (hall e he hb)
  have hg':w.grownBy w' row:=by
   by_cases his:i=s
   ·rw [if_pos his] at hg;exact hg
   ·rw [if_neg his] at hg;exact ⟨hg.os,hg.tape,hg.output,hg.size,fun k hk _=>hg.block k hk (by simp)⟩
  refine ih _ _ _ (by simpa using hs) ?_ ⟨I.grown.trans hg',?_,?_,?_,?_,?_⟩
  ·have hlt':i<listed.size:=by omega
   have key:(List.range l.length).countP (fun j=>!(listed.setIfInBounds i true).getD j true)<(List.range l.length).countP (fun j=>!listed.getD j true):=by
    have hnd:=List.nodup_range (n:=l.length)
    have hsub:∀j,(!(listed.setIfInBounds i true).getD j true)=true→(!listed.getD j true)=true:=fun j hj=>by
     by_cases hij:i=j
     ·subst hij;simp [hlt'] at hj
     ·rw [getD_set_ne true hij] at hj;exact hj
    exact countP_lt hsub i (by simpa using hlt) (by simp [hlt']) (by simpa using hu)
   omega
  ·intro hl
   have his:i≠s:=fun e=>by
    subst e
    have hlt':i<listed.size:=by omega
    simp [hlt'] at hl
   rw [if_neg his] at hg
   rw [getD_set_ne false his] at hl
   exact (I.still hl).trans hg
  ·cases h:o.dst <;> simp [Act.put,I.size]
  ·cases h:o.dst <;> simp [Act.put,I.defers]
  ·intro d hd
   have:=hd o (List.mem_of_getElem? ho')
   rw [← I.off d hd]
   cases h:o.dst with
   | none=>rfl
   | some k=>
    have:k≠d:=fun e=>this (by rw [h,e])
    simp [Act.put,Array.getElem?_setIfInBounds_ne this]
  ·intro j oj hj hl
   by_cases hij:i=j
   ·subst hij
    rw [ho'] at hj
    cases hj
    rw [valOf_put_same _ _ _ (fun k hk=>by rw [I.size];exact okB_dst hc ho' k hk)]
    exact hF
   ·rw [valOf_put_other _ _ _ _ (okB_ne hc ho' hj hij)]
    rw [getD_set_ne false hij] at hl
    exact stab i j _ _ _ hij hg (I.facts j oj hj hl)
theorem facts_region {id:Nat} (row:Option Nat) (s:Nat) (F:Nat→Value→World→Prop) (hm:P.follows .mixedOrders=true) (hc:okB l a0.tmps.size=true) (stab:∀i j v w w',i≠j→w.grownBy w' (if i=s then row else none)→F j v w→F j v w')
  (step:∀i o,l[i]? = some o→∀(a:Act) (w:World),w0.grownBy w row→(i=s→w0.grownBy w none)→(∀d:Tmp,(l.all fun o'=>o'.dst != some d)=true→a.tmps[d]?.getD undef=a0.tmps[d]?.getD undef)→
   (∀k ok,(o.after.any fun e=>Region.binds .any e && e.on==k)=true→l[k]? = some ok→F k (valOf a ok.dst) w)→
   ∀K:Act→World→Prop,(∀v w',w.grownBy w' (if i=s then row else none)→F i (own1 o.dst v) w'→K (a.put o.dst v) w')→if Region.wanted o (yielded l.toArray a.tmps)=true then Oper.wp P o a w K Q else K (a.put o.dst undef) w)
  (fin:∀(V:Option Tmp→Value) (w:World),w0.grownBy w row→(∀j o,l[j]? = some o→F j (V o.dst) w)→Q .normal (fillA a0 V l) w):(Code.region id l.toArray true).wp P Q a0 w0:=by
 refine wp_region_any hm ?_
 refine facts_any (F:=F) (s:=s) hc stab step fin _ _ a0 _ (by simp) ?_ ⟨⟨rfl,rfl,rfl,Nat.le_refl _,fun _ _ _=>rfl⟩,fun _=>⟨rfl,rfl,rfl,Nat.le_refl _,fun _ _ _=>rfl⟩,rfl,rfl,fun _ _=>rfl,fun j o ho hl=>?_⟩
 ·exact Nat.le_trans (List.countP_le_length) (by simp)
 ·have hlt:j<l.length:=(List.getElem?_eq_some_iff.1 ho).1
  simp [hlt] at hl
end
end Go.Proofs.YtgoffkfpdigeeaaDoor
namespace Go.Proofs.YtgoffkfpdigeeaaDoor
open Go.RowKit
section
variable {P:Program} {Q:Exit→Act→World→Prop} {a0:Act} {w0:World} {l:List Oper} {G:World→Prop} {R:Nat→World→World→Prop} {cons:Nat→Nat} {dead:Nat→Nat→Bool} {F:Nat→(Option Tmp→Value)→World→Prop}
def waits (o:Oper) (k:Nat):Bool:=o.after.any fun e=>Region.binds .any e && e.on==k
end
end Go.Proofs.YtgoffkfpdigeeaaDoor
namespace Go.Proofs.YtgoffkfpdigeeaaDoor
open Go.RowKit
section
variable {P:Program} {Q:Exit→Act→World→Prop} {a0:Act} {w0:World} {l:List Oper} {G:World→Prop} {R:Nat→World→World→Prop} {cons:Nat→Nat} {dead:Nat→Nat→Bool} {F:Nat→(Option Tmp→Value)→World→Prop}
end
end Go.Proofs.YtgoffkfpdigeeaaDoor
namespace Go.Proofs.YtgoffkfpdigeeaaDoor
open Go.RowKit
section
variable {P:Program} {Q:Exit→Act→World→Prop} {a0:Act} {w0:World} {l:List Oper} {G:World→Prop} {R:Nat→World→World→Prop} {cons:Nat→Nat} {dead:Nat→Nat→Bool} {F:Nat→(Option Tmp→Value)→World→Prop} {cI:Nat→Nat} {FI:Nat→World→Prop}
end
end Go.Proofs.YtgoffkfpdigeeaaDoor
namespace Go.Proofs.YtgoffkfpdigeeaaDoor
open Go.RowKit
end Go.Proofs.YtgoffkfpdigeeaaDoor
namespace Go.Proofs.YtgoffkfpdigeeaaDoor
open Go.RowKit
end Go.Proofs.YtgoffkfpdigeeaaDoor
namespace Go.Proofs.YtgoffkfpdigeeaaDoor
open Go.RowKit
end Go.Proofs.YtgoffkfpdigeeaaDoor
