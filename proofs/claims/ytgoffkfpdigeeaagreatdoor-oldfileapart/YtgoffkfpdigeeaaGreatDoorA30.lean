import Derived.Lib.QuietBelow
import Derived.BigQuiet
import Derived.Test.YtgoffkfpdigeeaaGreatDoorA20
import Derived.Test.YtgoffkfpdigeeaaGreatDoorA08
import Derived.Test.YtgoffkfpdigeeaaGreatDoorA29
import Derived.Test.YtgoffkfpdigeeaaGreatDoorA17
import Derived.Test.YtgoffkfpdigeeaaGreatDoorA16
namespace Go.Proofs.YtgoffkfpdigeeaaGreatDoor
open Go.RowKit
def Cr (u:World):World→Prop:=fun w'=>∃p:Regrown,w'=Go.Sort.grow (redrawn u p.d) p.os
theorem Cr.below {u W:World} (h:Cr u W):Below u.heap.size u W:=by
 obtain ⟨⟨d,os⟩,rfl⟩:=h
 exact below_regrown u d os
section
variable {P:Program} {ops ops':Array Oper} {aFin:Act}
theorem eval_end (C:World→Prop) (d:Tmp):∀(fuel:Nat) (listed:Array Bool) (a:Act),wpAnyQ P .any ops' C (fun a'=>a'=aFin) fuel listed a→
  (∀(j:Nat) (o:Oper),ops'[j]? = some o→listed.getD j true=false→o.dst≠some d)→a.eval (.tmp d)=aFin.eval (.tmp d):=by
 intro fuel
 induction fuel with
 | zero=>intro listed a h _;rw [h.2]
 | succ fuel ih=>
  intro listed a h hd
  cases hr:Region.ready .any ops' listed with
  | nil=>rw [h.1 hr]
  | cons i r=>
   have hi:i ∈ Region.ready .any ops' listed:=by rw [hr];simp
   have h1:=h.2 i hi
   obtain ⟨hu,o,ho,_⟩:=mem_ready.1 hi
   obtain ⟨v,_,h3⟩:=yieldsIn_of_qOp ho h1
   have hne:=hd i o ho hu
   have h4:=ih _ _ h3 (fun j oj hj hl=>by
    by_cases hij:i=j
    ·subst hij
     rw [ho] at hj
     cases hj
     exact hne
    ·rw [getD_set_ne true hij] at hl
     exact hd j oj hj hl)
   rw [← h4]
   exact (Act.eval_put (fun d' hd' e=>hne (by cases e;exact hd'))).symm
theorem put_put (a:Act) (d:Tmp) (v u:Value):(a.put (some d) v).put (some d) u=a.put (some d) u:=by
 simp [Act.put]
theorem put_size (a:Act) (d:Option Tmp) (v:Value):(a.put d v).tmps.size=a.tmps.size:=by
 cases d <;> simp [Act.put]
theorem put_eval (a:Act) (d:Tmp) (v:Value) (h:d<a.tmps.size):(a.put (some d) v).eval (.tmp d)=v:=by
 simp [Act.put,Act.eval,h]
theorem put_self (a:Act) (d:Tmp) (h:d<a.tmps.size):a.put (some d) (a.eval (.tmp d))=a:=by
 have e:a.tmps.setIfInBounds d a.tmps[d]=a.tmps:=by
  apply Array.ext
  ·simp
  ·intro i h1 h2
   rw [Array.getElem_setIfInBounds]
   split
   ·rename_i hi
    subst hi
    rfl
   ·rfl
 simp [Act.put,Act.eval,h,e]
structure Mk (P:Program) (ops ops':Array Oper) (aFin:Act) (i1 i2:Nat) (o1 o2 o1' o2':Oper) (d1 d2 src:Tmp) (x y:Value) (e:TypeId):Prop where
 h1:ops[i1]? = some o1
 h2:ops[i2]? = some o2
 h1':ops'[i1]? = some o1'
 h2':ops'[i2]? = some o2'
 h12:i1≠i2
 same:∀j,j≠i1→j≠i2→ops'[j]? = ops[j]?
 ready:∀listed,Region.ready .any ops listed=Region.ready .any ops' listed
 guards:∀(j:Nat) (o:Oper),ops[j]? = some o→o.guard=none
 guards':∀(j:Nat) (o:Oper),ops'[j]? = some o→o.guard=none
 srcNe:src≠d1
 noSel:∀(j:Nat) (o:Oper) cs b,ops[j]? = some o→o.op≠.select cs b
 dsts:∀(j k:Nat) (oj ok:Oper) (d:Tmp),ops'[j]? = some oj→ops'[k]? = some ok→oj.dst=some d→ok.dst=some d→j=k
 dst1:o1.dst=some d1
 dst1':o1'.dst=some d1
 dst2:o2.dst=some d2
 dst2':o2'.dst=some d2
 looks:∀(j:Nat) (o:Oper),ops[j]? = some o→j≠i2→d1 ∉ o.looksAt ops
 after:∃f ∈ o2.after,Region.binds .any f=true∧f.on=i1
 move:∀(a:Act) (W:World),(execOp a.eval o1').run P W=.ok (.value (a.eval (.tmp src))) W
 make:∀(a:Act) (W:World),a.eval (.tmp src)=x→(execOp a.eval o1).run P W=.ok (.value (.slice (some ⟨W.heap.size,0,none⟩) 1 1)) (W.alloc (.cells #[x] e))
 read:∀(a:Act) (W:World) (g:Nat),a.eval (.tmp d1)=.slice (some ⟨g,0,none⟩) 1 1→W.cell? ⟨g,0,none⟩=some x→(execOp a.eval o2).run P W=.ok (.value y) W
 has:∀(j:Nat) (o:Oper),ops'[j]? = some o→∃d,o.dst=some d∧d<aFin.tmps.size
 endX:aFin.eval (.tmp d1)=x
 endY:aFin.eval (.tmp d2)=y
variable {i1 i2:Nat} {o1 o2 o1' o2':Oper} {d1 d2 src:Tmp} {x y:Value} {e:TypeId}
theorem Mk.next (M:Mk P ops ops' aFin i1 i2 o1 o2 o1' o2' d1 d2 src x y e) {w:World} {fuel:Nat} {listed:Array Bool} {a':Act} (hsz:a'.tmps.size=aFin.tmps.size)
  (H:∀u,Below w.heap.size w u→wpAnyQ P .any ops' (Cr u) (fun a=>a=aFin) (fuel+1) listed a') {i:Nat} {o:Oper} (hi:i ∈ Region.ready .any ops' listed) (ho:ops'[i]? = some o) :
  ∃d,o.dst=some d∧d<a'.tmps.size∧(∀u,Below w.heap.size w u→YieldsIn P ops' (Cr u) o (aFin.eval (.tmp d)) a'∧wpAnyQ P .any ops' (Cr u) (fun a=>a=aFin) fuel (listed.setIfInBounds i true) (a'.put (some d) (aFin.eval (.tmp d)))):=by
 obtain ⟨d,hd,hdl⟩:=M.has i o ho
 rw [← hsz] at hdl
 refine ⟨d,hd,hdl,fun u hu=>?_⟩
 obtain ⟨v,hy,hn⟩:=yieldsIn_of_qOp ho ((H u hu).2 i hi)
 rw [hd] at hn
 have h:=eval_end (Cr u) d fuel _ _ hn (fun j oj hj hl he=>by
  have hji:=M.dsts j i oj o d hj ho he hd
  subst hji
  have hb:j<listed.size:=by
   rcases Nat.lt_or_ge j listed.size with h'|h'
   ·exact h'
   ·have:=(mem_ready.1 hi).1
    simp [Array.getElem?_eq_none h'] at this
  simp [hb] at hl)
 rw [put_eval _ _ _ hdl] at h
 rw [← h]
 exact ⟨hy,hn⟩
theorem wanted_plain {o:Oper} (h:o.guard=none) (f:Nat→Option Bool):Region.wanted o f=true:=by simp [Region.wanted,h]
theorem Mk.any (M:Mk P ops ops' aFin i1 i2 o1 o2 o1' o2' d1 d2 src x y e) {Q:Exit→Act→World→Prop} {w:World} (hQ:∀V W,Below w.heap.size w W→Q .normal (aFin.put (some d1) V) W) :
  ∀(fuel:Nat) (listed:Array Bool) (a':Act) (V:Value) (W:World),a'.tmps.size=aFin.tmps.size→(∀u,Below w.heap.size w u→wpAnyQ P .any ops' (Cr u) (fun a=>a=aFin) fuel listed a')→Below w.heap.size w W→
   (listed.getD i1 false=true→∃g,V=.slice (some ⟨g,0,none⟩) 1 1∧W.cell? ⟨g,0,none⟩=some x)→wpAny P .any ops Q fuel listed (a'.put (some d1) V) W:=by
 intro fuel
 induction fuel with
 | zero=>
  intro listed a' V W hsz H hW _
  have h:=H w (Below.refl _ _)
  exact ⟨by rw [M.ready];exact h.1,by rw [h.2];exact hQ V W hW⟩
 | succ fuel ih=>
  intro listed a' V W hsz H hW hV
  refine ⟨fun hr=>?_,fun i hi=>?_⟩
  ·rw [M.ready] at hr
   rw [(H w (Below.refl _ _)).1 hr]
   exact hQ V W hW
  ·have hi':=hi
   rw [M.ready] at hi'
   obtain ⟨_,o,ho,hall⟩:=mem_ready.1 hi
   obtain ⟨_,o',ho',_⟩:=mem_ready.1 hi'
   have hg:=M.guards i o ho
   obtain ⟨d,hd,hdl,hN⟩:=M.next hsz H hi' ho'
   have hd1l:d1<a'.tmps.size:=by
    obtain ⟨d',hd',hl⟩:=M.has i1 o1' M.h1'
    rw [M.dst1'] at hd'
    cases hd'
    rw [hsz]
    exact hl
   have hsz':(a'.put (some d) (aFin.eval (.tmp d))).tmps.size=aFin.tmps.size:=by rw [put_size];exact hsz
   have hN2:=fun u hu=>(hN u hu).2
   unfold wpOp
   rw [ho]
   dsimp only
   rw [wanted_plain hg,if_pos rfl]
   left
   unfold Oper.wp
   by_cases h1:i=i1
   ·subst h1
    rw [M.h1] at ho
    cases ho
    rw [M.h1'] at ho'
    cases ho'
    rw [M.dst1'] at hd
    cases hd
    have hb:a'.eval (.tmp src)=x:=by
     rcases (hN w (Below.refl _ _)).1 with ⟨_,hy⟩|⟨hw,_⟩
     ·have h3:=hy w (regrown_of_below (Below.refl _ _))
      unfold Oper.quietAt at h3
      rw [M.move] at h3
      rw [← M.endX]
      exact h3.2
     ·rw [wanted_plain (M.guards' _ _ M.h1')] at hw
      cases hw
    have hb2:(a'.put (some d1) V).eval (.tmp src)=x:=by
     rw [Act.eval_put (fun d' hd' he=>by cases hd';cases he;exact M.srcNe rfl)]
     exact hb
    rw [M.make _ W hb2]
    show wpAny P .any ops Q fuel _ ((a'.put (some d1) V).put o1.dst _) _
    rw [M.dst1,put_put,← put_put a' d1 (aFin.eval (.tmp d1))]
    refine ih _ _ _ _ hsz' hN2 (hW.alloc hW.size _) (fun _=>⟨W.heap.size,rfl,?_⟩)
    have hnb:=heap_alloc_new W (.cells #[x] e)
    rw [cell_of_row _ W.heap.size 0 _ e (0,0) hnb]
    rfl
   ·have hdne:∀(j:Nat) (oj:Oper),ops'[j]? = some oj→oj.dst=some d→j≠i1→d1≠d:=fun j oj hj hjd hne he=>by
     subst he
     exact hne (M.dsts j i1 oj o1' d1 hj M.h1' hjd M.dst1')
    have hd1d:d1≠d:=hdne i o' ho' hd h1
    have hcomm:∀u,(a'.put (some d1) V).put (some d) u=(a'.put (some d) u).put (some d1) V:=fun u=>Act.put_comm a' V u (fun d' hd' he=>by cases hd';cases he;exact hd1d rfl)
    by_cases h2:i=i2
    ·subst h2
     rw [M.h2] at ho
     cases ho
     rw [M.h2'] at ho'
     cases ho'
     rw [M.dst2'] at hd
     cases hd
     obtain ⟨f,hf,hfb,hfo⟩:=M.after
     have hl1:=hall f hf hfb
     rw [hfo] at hl1
     obtain ⟨g,hVg,hcell⟩:=hV hl1
     rw [M.read _ W g (by rw [put_eval _ _ _ hd1l];exact hVg) hcell]
     show wpAny P .any ops Q fuel _ ((a'.put (some d1) V).put o2.dst _) _
     rw [M.dst2,hcomm,← M.endY]
     exact ih _ _ _ _ hsz' hN2 hW (fun _=>⟨g,hVg,hcell⟩)
    ·have hoo:o'=o:=by
      have h3:=M.same i h1 h2
      rw [ho',ho] at h3
      exact Option.some.inj h3
     subst hoo
     have hsel:=fun cs b=>M.noSel i o' cs b ho
     rw [execOp_put (ops:=ops) o' hsel a' (some d1) V (fun d' hd'=>by cases hd';exact M.looks i o' ho h2)]
     rcases (hN W hW).1 with ⟨_,hy⟩|⟨hw,_⟩
     ·have h3:=hy W (regrown_of_below (Below.refl _ _))
      unfold Oper.quietAt at h3
      have hl1:(listed.setIfInBounds i true).getD i1 false=true→listed.getD i1 false=true:=fun hl=>by
       rw [getD_set_ne false h1] at hl
       exact hl
      generalize (execOp a'.eval o').run P W=r at *
      cases r with
      | ok n w'=>
       cases n <;> simp only [Oper.quietUpon] at h3 <;> simp only [Oper.upon]
       case value u=>
        obtain ⟨e1,e2⟩:=h3
        rw [e1,e2,hd,hcomm]
        exact ih _ _ _ _ hsz' hN2 hW (fun hl=>hV (hl1 hl))
       case skip=>
        obtain ⟨e1,e2⟩:=h3
        rw [e1,← e2,hd,hcomm]
        exact ih _ _ _ _ hsz' hN2 hW (fun hl=>hV (hl1 hl))
       case enter f args=>
        obtain ⟨e1,hc⟩:=h3
        rw [e1]
        refine hc.mono fun e w'' ⟨he,hw''⟩=>?_
        subst he
        have hb:=Cr.below hw''
        show wpAny P .any ops Q fuel _ ((a'.put (some d1) V).put o'.dst _) _
        rw [hd,hcomm]
        refine ih _ _ _ _ hsz' hN2 (hW.trans (hb.mono hW.size)) (fun hl=>?_)
        obtain ⟨g,hVg,hcell⟩:=hV (hl1 hl)
        exact ⟨g,hVg,by rw [hb.cell (p:=⟨g,0,none⟩) (block_lt_of_cell hcell)];exact hcell⟩
      | halt z w'=>simp only [Oper.quietUpon] at h3
     ·rw [wanted_plain (M.guards' _ _ ho')] at hw
      cases hw
theorem Mk.region (M:Mk P ops ops' aFin i1 i2 o1 o2 o1' o2' d1 d2 src x y e) {id:Nat} {Q:Exit→Act→World→Prop} {a:Act} {w:World} (hm:P.follows .mixedOrders=true) (hB:Region.lexB .any ops'=true) (hs:ops'.size=ops.size) (hsz:a.tmps.size=aFin.tmps.size)
  (hq:∀u,Below w.heap.size w u→wpQuiet P ops' (Cr u) (fun a'=>a'=aFin) ops'.toList a) (hQ:∀V W,Below w.heap.size w W→Q .normal (aFin.put (some d1) V) W):(Code.region id ops true).wp P Q a w:=by
 refine wp_region_any hm ?_
 simp only [Region.lexB,Bool.and_eq_true] at hB
 have hd1l:d1<a.tmps.size:=by
  obtain ⟨d',hd',hl⟩:=M.has i1 o1' M.h1'
  rw [M.dst1'] at hd'
  cases hd'
  rw [hsz]
  exact hl
 have h:=M.any (w:=w) hQ ops.size (Array.replicate ops.size false) a (a.eval (.tmp d1)) w.drew hsz (fun u hu=>?_) (Below.refl _ _).drew (fun hl=>?_)
 ·rw [put_self a d1 hd1l] at h
  exact h
 ·have h3:=wpAnyQ_lex (C:=Cr u) (md:=.any) hB.1 ops'.toList 0 (Array.replicate ops'.size false) a (by simp) (by simpa using hB.2) (hq u hu)
  rw [← hs]
  simpa using h3
 ·have hlt:i1<ops.size:=(Array.getElem?_eq_some_iff.1 M.h1).1
  simp [hlt] at hl
def mkB (l:List Oper) (i1 i2:Nat) (d1 d2 src:Tmp) (size:Nat):Bool:=
 (i1 != i2) && (src != d1) && Region.noSelect l.toArray && l.all (fun o=>o.guard.isNone) && l.all (fun o=>match o.dst with|some d=>decide (d<size)|none=>false) &&
 (List.range l.length).all (fun j=>(List.range l.length).all fun k=>j==k || ((l[j]?.bind (·.dst)) != (l[k]?.bind (·.dst)))) &&
 (List.range l.length).all (fun j=>j==i2 || !((l[j]?.map (fun o=>o.looksAt l.toArray)).getD []).contains d1) &&
 ((l[i2]?.map (fun o=>o.after.any fun f=>Region.binds .any f && f.on==i1)).getD false) && ((l[i1]?.bind (·.dst))==some d1) && ((l[i2]?.bind (·.dst))==some d2)
def mkL (l:List Oper) (i1 i2:Nat) (o1 o2:Oper) (src:Tmp) (y:Value):List Oper:=(l.set i1 { o1 with op:=.move (.tmp src) }).set i2 { o2 with op:=.move (.const y) }
theorem ready_congr {l l':List Oper} (h:∀j:Nat,(l[j]?).map Oper.after=(l'[j]?).map Oper.after) (hs:l.length=l'.length) (listed:Array Bool):Region.ready .any l.toArray listed=Region.ready .any l'.toArray listed:=by
 unfold Region.ready
 simp only [List.size_toArray,hs]
 apply List.filter_congr
 intro j _
 have hj:=h j
 simp only [List.getElem?_toArray]
 cases h1:l[j]? <;> cases h2:l'[j]? <;> simp_all
theorem mkL_at (l:List Oper) (i1 i2:Nat) (o1 o2:Oper) (src:Tmp) (y:Value) (h1:l[i1]? = some o1) (h2:l[i2]? = some o2) (j:Nat) :
  (mkL l i1 i2 o1 o2 src y)[j]? = if j=i2 then some { o2 with op:=.move (.const y) } else if j=i1 then some { o1 with op:=.move (.tmp src) } else l[j]? := by
 unfold mkL
 have l1:i1<l.length:=(List.getElem?_eq_some_iff.1 h1).1
 have l2:i2<l.length:=(List.getElem?_eq_some_iff.1 h2).1
 rw [List.getElem?_set,List.getElem?_set]
 by_cases e2:i2=j
 ·subst e2;simp [l2]
 ·by_cases e1:i1=j
  ·subst e1;simp [e2,Ne.symm e2,l1]
  ·simp [e2,e1,Ne.symm e2,Ne.symm e1]
theorem maker_region {id:Nat} {Q:Exit→Act→World→Prop} {a:Act} {w:World} {l:List Oper} (i1 i2:Nat) (o1 o2:Oper) (d1 d2 src:Tmp) (x y:Value) (e:TypeId) (aFin:Act) (hm:P.follows .mixedOrders=true)
  (hc:mkB l i1 i2 d1 d2 src a.tmps.size=true) (h1:l[i1]? = some o1) (h2:l[i2]? = some o2) (hB:Region.lexB .any (mkL l i1 i2 o1 o2 src y).toArray=true)
  (make:∀(a:Act) (W:World),a.eval (.tmp src)=x→(execOp a.eval o1).run P W=.ok (.value (.slice (some ⟨W.heap.size,0,none⟩) 1 1)) (W.alloc (.cells #[x] e)))
  (read:∀(a:Act) (W:World) (g:Nat),a.eval (.tmp d1)=.slice (some ⟨g,0,none⟩) 1 1→W.cell? ⟨g,0,none⟩=some x→(execOp a.eval o2).run P W=.ok (.value y) W)
  (hq:∀u,Below w.heap.size w u→wpQuiet P (mkL l i1 i2 o1 o2 src y).toArray (Cr u) (fun a'=>a'=aFin) (mkL l i1 i2 o1 o2 src y) a)
  (hsz:a.tmps.size=aFin.tmps.size) (endX:aFin.eval (.tmp d1)=x) (endY:aFin.eval (.tmp d2)=y)
  (hQ:∀V W,Below w.heap.size w W→Q .normal (aFin.put (some d1) V) W):(Code.region id l.toArray true).wp P Q a w:=by
 unfold mkB at hc
 simp only [Bool.and_eq_true] at hc
 obtain ⟨⟨⟨⟨⟨⟨⟨⟨⟨c12,csrc⟩,csel⟩,cg⟩,chas⟩,cdst⟩,clook⟩,caft⟩,cd1⟩,cd2⟩:=hc
 have h12:i1≠i2:=by simpa using c12
 have at':=mkL_at l i1 i2 o1 o2 src y h1 h2
 have hlen:(mkL l i1 i2 o1 o2 src y).length=l.length:=by simp [mkL]
 have hd1:o1.dst=some d1:=by rw [h1] at cd1;simpa using cd1
 have hd2:o2.dst=some d2:=by rw [h2] at cd2;simpa using cd2
 have hdst':∀j:Nat,((mkL l i1 i2 o1 o2 src y)[j]?).bind (·.dst)=(l[j]?).bind (·.dst):=fun j=>by
  rw [at']
  by_cases e2:j=i2
  ·subst e2;simp [h2]
  ·by_cases e1:j=i1
   ·subst e1;simp [e2,h1]
   ·simp [e2,e1]
 have hguard:∀(j:Nat) (o:Oper),l[j]? = some o→o.guard=none:=fun j o ho=>by
  have:=List.all_eq_true.1 cg o (List.mem_of_getElem? ho)
  simpa using this
 have M:Mk P l.toArray (mkL l i1 i2 o1 o2 src y).toArray aFin i1 i2 o1 o2 { o1 with op:=.move (.tmp src) } { o2 with op:=.move (.const y) } d1 d2 src x y e:=by
  refine { h1:=by simpa using h1,h2:=by simpa using h2,h1':=?_,h2':=?_,h12:=h12,same:=?_,ready:=?_,guards:=?_,guards':=?_,srcNe:=by simpa using csrc,noSel:=?_,dsts:=?_,dst1:=hd1,dst1':=hd1,dst2:=hd2,dst2':=hd2,looks:=?_,after:=?_,move:=?_,make:=make,read:=read,has:=?_,endX:=endX,endY:=endY }
  ·rw [List.getElem?_toArray,at'];simp [h12]
  ·rw [List.getElem?_toArray,at'];simp
  ·intro j e1 e2;rw [List.getElem?_toArray,List.getElem?_toArray,at'];simp [e1,e2]
  ·intro listed
   refine ready_congr (fun j=>?_) hlen.symm listed
   rw [at']
   by_cases e2:j=i2
   ·subst e2;simp [h2]
   ·by_cases e1:j=i1
    ·subst e1;simp [e2,h1]
    ·simp [e2,e1]
  ·intro j o ho
   exact hguard j o (by simpa using ho)
  ·intro j o ho
   rw [List.getElem?_toArray,at'] at ho
   by_cases e2:j=i2
   ·subst e2
    simp at ho
    subst ho
    exact hguard j o2 h2
   ·by_cases e1:j=i1
    ·subst e1
     simp [e2] at ho
     subst ho
     exact hguard j o1 h1
    ·simp [e2,e1] at ho
     exact hguard j o ho
  ·intro j o cs b ho
   exact Region.noSelect_spec csel j o cs b ho
  ·intro j k oj ok d hj hk hdj hdk
   have ej:=hdst' j
   have ek:=hdst' k
   rw [List.getElem?_toArray] at hj hk
   rw [hj] at ej
   rw [hk] at ek
   simp only [Option.bind_some,hdj,hdk] at ej ek
   have lj:j<l.length:=by rw [← hlen];exact (List.getElem?_eq_some_iff.1 hj).1
   have lk:k<l.length:=by rw [← hlen];exact (List.getElem?_eq_some_iff.1 hk).1
   have:=List.all_eq_true.1 (List.all_eq_true.1 cdst j (by simpa using lj)) k (by simpa using lk)
   rw [← ej,← ek] at this
   simpa using this
  ·intro j o ho hne hmem
   rw [List.getElem?_toArray] at ho
   have lj:j<l.length:=(List.getElem?_eq_some_iff.1 ho).1
   have:=List.all_eq_true.1 clook j (by simpa using lj)
   rw [ho] at this
   simp [hne] at this
   exact this hmem
  ·rw [h2] at caft
   simp at caft
   obtain ⟨f,hf,hb,ho⟩:=caft
   exact ⟨o2.after[f],Array.getElem_mem hf,hb,ho⟩
  ·intro a W
   rfl
  ·intro j o ho
   rw [List.getElem?_toArray] at ho
   have lj:j<l.length:=by rw [← hlen];exact (List.getElem?_eq_some_iff.1 ho).1
   have ej:=hdst' j
   rw [ho,List.getElem?_eq_getElem lj] at ej
   simp only [Option.bind_some] at ej
   have:=List.all_eq_true.1 chas l[j] (List.getElem_mem lj)
   rw [← ej] at this
   cases hd:o.dst with
   | none=>rw [hd] at this;simp at this
   | some d=>rw [hd] at this;exact ⟨d,rfl,by rw [← hsz];simpa using this⟩
 exact M.region hm hB (by simpa using hlen) hsz (fun u hu=>by simpa using hq u hu) hQ
end
end Go.Proofs.YtgoffkfpdigeeaaGreatDoor
namespace Go.Proofs.YtgoffkfpdigeeaaGreatDoor
open Go.RowKit
set_option maxRecDepth 10000 in
set_option maxHeartbeats 400000 in
theorem rput_first (m:ByteArray) (v:Int) (a:Option Addr) (n cap:Nat) (w:World) (h:cf m.size v n≠0) :
  Calls Tryz.prog 23 #[.string m,.int .i64 v,.slice a n cap] w fun e w'=>e=.returned (.tuple #[.string ⟨#[]⟩,.int .i64 (cf m.size v n)])∧Below w.heap.size w w':=by
 unfold cf at h ⊢
 by_cases h1:m.size=4
 ·have h1':(m.size:Int)=4:=by omega
  rw [if_neg (by simpa using h1)] at h ⊢
  by_cases h2:v<1
  ·rw [if_pos (.inl h2)]
   go_enter Tryz.func23,Tryz.ntmps23
   go_wp2_with fail
   go_ret2
   exact ⟨rfl,Below.refl _ _⟩
  by_cases h3:255<v
  ·rw [if_pos (.inr h3)]
   go_enter Tryz.func23,Tryz.ntmps23
   go_wp2_with fail
   go_ret2
   exact ⟨rfl,Below.refl _ _⟩
  rw [if_neg (by omega)] at h ⊢
  by_cases h4:(8:Int)<n
  ·rw [if_pos h4]
   go_enter Tryz.func23,Tryz.ntmps23
   go_wp2_with fail
   go_ret2
   exact ⟨rfl,Below.refl _ _⟩
  ·rw [if_neg h4] at h;exact absurd rfl h
 ·have h1':¬(m.size:Int)=4:=by omega
  rw [if_pos (by simpa using h1)]
  go_enter Tryz.func23,Tryz.ntmps23
  go_wp2_with fail
  go_ret2
  exact ⟨rfl,Below.refl _ _⟩
theorem put_end (m:ByteArray) (v:Int) (L:List Sec) (h:cf m.size v L.length=0) (C:Int) (hC:chk L=C):pPut m v L=if C≠0 then ([],C) else (m.data.toList++UInt8.ofNat v.toNat :: bodyL L,0):=by
 obtain ⟨_,_,_,_,h5⟩:=pPut_second m v L h
 rw [h5,hC]
set_option maxRecDepth 10000 in
set_option maxHeartbeats 6000000 in
theorem rput_go (m:ByteArray) (v:Int) (a:Option Addr) (cap b o:Nat) (L:List Sec) (w:World) (h:cf m.size v L.length=0) (ha:0<L.length→a=some ⟨b,o,none⟩) (hs:SecAt w b o L) (hp:∀s ∈ L,s.2.size≤4000000) :
  Calls Tryz.prog 23 #[.string m,.int .i64 v,.slice a L.length cap] w fun e w'=>e=.returned (.tuple #[.string ⟨(pPut m v L).1.toArray⟩,.int .i64 (pPut m v L).2])∧Below w.heap.size w w':=by
 obtain ⟨hm4,hv1,hv2,hL8,-⟩:=pPut_second m v L h
 obtain ⟨C,hC⟩:∃C,chk L=C:=⟨_,rfl⟩
 have hR:=put_end m v L h C hC
 have HR:Hid ((C≠0→pPut m v L=([],C))∧(C=0→pPut m v L=(m.data.toList++UInt8.ofNat v.toNat :: bodyL L,0))):=⟨fun hc=>by rw [hR,if_pos hc],fun hc=>by rw [hR,if_neg (by simpa using hc)]⟩
 clear hR
 generalize pPut m v L=R at *
 obtain ⟨vn,rfl⟩:=Int.eq_ofNat_of_zero_le (show 0≤v by omega)
 have hm':(m.size:Int)=4:=by omega
 have hL':¬(8:Int)<L.length:=by omega
 have hvw:IntKind.u8.wrap (vn:Int)=vn:=by rw [IntKind.wrap_u8'];omega
 have hcv:=fun (W:World) (g:Nat)=>conv_one (P:=Tryz.prog) W 85 9 5 Tryz.underlying85 Tryz.underlying5 Tryz.underlying9 g 1 (vn:Int) (by omega) (by omega)
 rw [Int.toNat_natCast] at hcv
 have dv:(ByteArray.mk [UInt8.ofNat vn].toArray).data.toList=[UInt8.ofNat vn]:=rfl
 have zv:(ByteArray.mk [UInt8.ofNat vn].toArray).size=1:=rfl
 have HD0:Hid (m.data.toList++UInt8.ofNat vn :: bodyL L=m.data.toList++[UInt8.ofNat vn]++bodyL (L.take L.length)):=by show _=_;simp
 rw [Int.toNat_natCast,HD0.out,← dv] at HR
 generalize ByteArray.mk [UInt8.ofNat vn].toArray=Sv at *
 have A0:=fun (W:World)=>run_string_add_sum (P:=Tryz.prog) W m Sv (by omega)
 have hX0:(m++Sv).data.toList=m.data.toList++Sv.data.toList:=data_two m Sv
 have hZ0:(m++Sv).size=5:=by rw [ByteArray.size_append];omega
 rw [← hX0] at HR
 generalize m++Sv=X0 at *
 have HB:Hid (∀i,(X0.data.toList++bodyL (L.take i)).length≤40000000):=fun i=>by
  have h1:=bodyL_le 4000000 (L.take i) (fun s hs=>hp s (List.mem_of_mem_take hs))
  have h2:(L.take i).length≤8:=by rw [List.length_take];omega
  have h3:(L.take i).length*(4000000+15)≤8*4000015:=Nat.mul_le_mul h2 (Nat.le_refl _)
  rw [List.length_append,list_size]
  omega
 have HC:Hid (chk (L.drop 0)=C):=hC
 clear h hC dv zv HD0 hX0
 go_enter Tryz.func23,Tryz.ntmps23
 go_wp2_with fail
 have hb0:Below w.heap.size w (w.alloc (.cells #[.int .u8 (vn:Int)] 5)):=(Below.refl _ _).alloc (Nat.le_refl _) _
 go_loopw [8,9] (fun xv iv wr=>∃(i:Nat) (X:ByteArray),xv=.string X∧iv=.int .i64 i∧i≤L.length∧X.size≤40000000∧Hid (X.data.toList=X0.data.toList++bodyL (L.take i))∧Hid (chk (L.drop i)=C)∧Below w.heap.size w wr) (fun _ iv _=>L.length-(intOf iv).toNat)
 case atStart=>exact ⟨0,X0,rfl,rfl,by omega,by omega,by show _=_;simp [bodyL],HC,hb0⟩
 case round=>
  obtain ⟨i,X,rfl,rfl,hi,hX,HX,HI,hB⟩:=hrel
  clear hb0 HC hcv A0 hvw
  by_cases hlt:i<L.length
  ·obtain rfl:=ha (by omega)
   obtain ⟨hbl0,c0,c1⟩:=hs i hlt
   rw [← (bcell hB).1 b _ hbl0] at c0 c1
   have hbl:b<wr.heap.size:=Nat.lt_of_lt_of_le hbl0 hB.size
   have hI:=HI.out
   rw [List.drop_eq_getElem_cons hlt,chk] at hI
   have hpi:=hp _ (List.getElem_mem hlt)
   have HT:Hid (X0.data.toList++bodyL (L.take (i+1))=X.data.toList++secL L[i]):=by show _=_;rw [bodyL_take L i hlt,← List.append_assoc,HX.out]
   have hln:=HB.out (i+1)
   rw [HT.out] at hln
   generalize L[i]=s at *
   obtain ⟨x,p⟩:=s
   dsimp only at c0 c1 hI hpi
   clear HX HI
   by_cases h2:x<1
   ·rw [if_pos (.inl h2)] at hI
    have HQ:Hid (R=([],4)):=by have:=HR.out.1 (by omega);rw [← hI] at this;exact this
    clear hI
    go_wp2_with fail
    go_ret2
    rw [HQ.out]
    exact ⟨rfl,hB⟩
   by_cases h3:255<x
   ·rw [if_pos (.inr h3)] at hI
    have HQ:Hid (R=([],4)):=by have:=HR.out.1 (by omega);rw [← hI] at this;exact this
    clear hI
    go_wp2_with fail
    go_ret2
    rw [HQ.out]
    exact ⟨rfl,hB⟩
   rw [if_neg (by omega),if_neg (by omega)] at hI
   have HN:Hid (chk (L.drop (i+1))=C):=hI
   obtain ⟨xn,rfl⟩:=Int.eq_ofNat_of_zero_le (show 0≤x by omega)
   have hxw:IntKind.u8.wrap (xn:Int)=xn:=by rw [IntKind.wrap_u8'];omega
   have hp4:¬(16777216:Int)<p.size:=by omega
   have hcx:=fun (W:World) (g:Nat)=>conv_one (P:=Tryz.prog) W 85 9 5 Tryz.underlying85 Tryz.underlying5 Tryz.underlying9 g 1 (xn:Int) (by omega) (by omega)
   rw [Int.toNat_natCast] at hcx
   have P1:=fun W=>refput_any (p.size:Int) W (by omega) (by omega)
   rw [Int.toNat_natCast] at P1
   have z1:=(put_length p.size).2
   have d0:(ByteArray.mk [UInt8.ofNat xn].toArray).data.toList=[UInt8.ofNat xn]:=rfl
   have z0:(ByteArray.mk [UInt8.ofNat xn].toArray).size=1:=rfl
   have d1:(ByteArray.mk (put p.size).toArray).data.toList=put p.size:=rfl
   have P2:=fun W=>refsum_any p W (by omega)
   have P3:=fun W=>refput4_any (crc p.data.toList) W (crc_lt _)
   have d3:(ByteArray.mk (four (crc p.data.toList)).toArray).data.toList=four (crc p.data.toList):=rfl
   have z3:(ByteArray.mk (four (crc p.data.toList)).toArray).size=4:=rfl
   have HSL:Hid (secL ((xn:Int),p)=[UInt8.ofNat xn]++put p.size++p.data.toList++four (crc p.data.toList)):=by show _=_;simp [secL]
   rw [HSL.out,← d0,← d1,← d3,← data_two,← data_two,← data_two,← data_two] at HT hln
   rw [← d1,list_size] at z1
   rw [list_size] at hln
   generalize ByteArray.mk [UInt8.ofNat xn].toArray=S0 at *
   generalize ByteArray.mk (put p.size).toArray=S1 at *
   generalize ByteArray.mk (four (crc p.data.toList)).toArray=S3 at *
   generalize crc p.data.toList=K at *
   have A1:=fun (W:World)=>run_string_add_sum (P:=Tryz.prog) W S0 S1 (by omega)
   have A2:=fun (W:World)=>run_string_add_sum (P:=Tryz.prog) W (S0++S1) p (by rw [ByteArray.size_append];omega)
   have A3:=fun (W:World)=>run_string_add_sum (P:=Tryz.prog) W (S0++S1++p) S3 (by rw [ByteArray.size_append,ByteArray.size_append];omega)
   have A4:=fun (W:World)=>run_string_add_sum (P:=Tryz.prog) W X (S0++S1++p++S3) (by rw [ByteArray.size_append,ByteArray.size_append,ByteArray.size_append];omega)
   have HP1:Hid _:=P1
   have HP2:Hid _:=P2
   have HP3:Hid _:=P3
   clear P1 P2 P3 d0 d1 d3 HSL HB hs ha hp hI
   go_wp2_with fail
   refine maker_region 7 8 _ _ 62 63 61 (.int .u8 (xn:Int)) (.string S0) 5 ?aFin (by kernel_rfl) (by kernel_rfl) rfl rfl (by kernel_rfl) ?make ?read ?hq ?hsz ?endX ?endY ?hQ
   case make=>
    intro a W ha
    have ha':a.tmps[61]?.getD undef=.int .u8 (xn:Int):=by simpa [Act.eval] using ha
    clear ha
    go_simp
   case read=>
    intro a W g ha hg
    have hr:=hcx W g hg
    have ha':a.tmps[62]?.getD undef=.slice (some ⟨g,0,none⟩) 1 1:=by simpa [Act.eval] using ha
    clear ha
    go_simp
   case hq=>
    intro u hu
    unfold Cr
    simp only [mkL,List.set_cons_zero,List.set_cons_succ]
    rw [← (bcell hu).1 b _ hbl] at c0 c1
    have m0:=fun d os=>cell_regrown c0 d os
    have m1:=fun d os=>cell_regrown c1 d os
    have cB:∀d os,Calls Tryz.prog 52 #[.int .u64 (p.size:Int)] (Go.Sort.grow (redrawn u d) os) fun r w''=>r=.returned (.string S1)∧∃q:Regrown,w''=Go.Sort.grow (redrawn u q.d) q.os:=fun d os=>Calls.regrown_of (HP1.out _)
    have cS:∀d os,Calls Tryz.prog 54 #[.string p] (Go.Sort.grow (redrawn u d) os) fun r w''=>r=.returned (.int .u32 (K:Nat))∧∃q:Regrown,w''=Go.Sort.grow (redrawn u q.d) q.os:=fun d os=>Calls.regrown_of ((HP2.out _).mono fun _ _ ⟨h1,h2⟩=>⟨h1,by rw [h2];exact Below.refl _ _⟩)
    have cC:∀d os,Calls Tryz.prog 53 #[.int .u32 (K:Nat)] (Go.Sort.grow (redrawn u d) os) fun r w''=>r=.returned (.string S3)∧∃q:Regrown,w''=Go.Sort.grow (redrawn u q.d) q.os:=fun d os=>Calls.regrown_of (HP3.out _)
    repeat (first|go_big_quiet_step (first|(go_at_call 52;exact cB _ _)|(go_at_call 54;exact cS _ _)|(go_at_call 53;exact cC _ _))|quiet_step (first|(go_at_call 52;exact cB _ _)|(go_at_call 54;exact cS _ _)|(go_at_call 53;exact cC _ _)))
    refine wpQuiet_nil ?_
    rfl
   case hsz=>rfl
   case endX=>rfl
   case endY=>rfl
   case hQ=>
    intro V W hW
    have hB2:Below w.heap.size w W:=hB.trans (hW.mono hB.size)
    clear A1 A2 A3 A4 hcx HP1 HP2 HP3 c0 c1
    simp only [Act.put,List.setIfInBounds_toArray,List.set_cons_zero,List.set_cons_succ]
    go_wp2_with fail
    go_roundw
    case rel=>exact ⟨i+1,X++(S0++S1++p++S3),rfl,by go_num,by omega,hln,HT.out.symm,HN,hB2⟩
    case measure=>simp [intOf];omega
  ·have HQ:Hid (R=((X.data.toList),0)):=by
    have h1:=HI.out
    rw [List.drop_of_length_le (by omega)] at h1
    have h2:=HR.out.2 h1.symm
    rw [show i=L.length by omega] at HX
    rw [← HX.out] at h2
    exact h2
   clear HR HI HX
   go_wp2_with fail
   go_ret2
   rw [HQ.out]
   exact ⟨rfl,hB⟩
theorem rput_any (m:ByteArray) (v:Int) (a:Option Addr) (cap b o:Nat) (L:List Sec) (w:World) (ha:0<L.length→a=some ⟨b,o,none⟩) (hs:SecAt w b o L) (hp:∀s ∈ L,s.2.size≤4000000) :
  Calls Tryz.prog 23 #[.string m,.int .i64 v,.slice a L.length cap] w fun e w'=>e=.returned (.tuple #[.string ⟨(pPut m v L).1.toArray⟩,.int .i64 (pPut m v L).2])∧Below w.heap.size w w':=by
 by_cases h:cf m.size v L.length=0
 ·exact rput_go m v a cap b o L w h ha hs hp
 ·rw [pPut_first m v L h]
  exact rput_first m v a L.length cap w h
end Go.Proofs.YtgoffkfpdigeeaaGreatDoor
namespace Go.Proofs.YtgoffkfpdigeeaaGreatDoor
open Go.RowKit
end Go.Proofs.YtgoffkfpdigeeaaGreatDoor
namespace Go.Proofs.YtgoffkfpdigeeaaGreatDoor
open Go.RowKit Go.Maps Go.WideMaps Go.Sort
end Go.Proofs.YtgoffkfpdigeeaaGreatDoor
