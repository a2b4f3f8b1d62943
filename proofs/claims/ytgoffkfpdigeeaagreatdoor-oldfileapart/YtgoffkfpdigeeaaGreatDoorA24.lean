import Derived.Test.YtgoffkfpdigeeaaGreatDoorA04
import Derived.Test.YtgoffkfpdigeeaaGreatDoorA23
import Derived.Test.YtgoffkfpdigeeaaGreatDoorA02
import Derived.ProofKit
import Derived.OpenShut
import Derived.Below
import Derived.Deep.Strs
import Derived.Lib.SmallJoins
namespace Go.Proofs.YtgoffkfpdigeeaaGreatDoor
open Go.RowKit
end Go.Proofs.YtgoffkfpdigeeaaGreatDoor
namespace Go.Proofs.YtgoffkfpdigeeaaGreatDoor
open Go.RowKit Go.Maps Go.WideMaps Go.Sort
def renNd (f:Int→Int) (N:Nd):Nd:=⟨N.kind,N.ints,N.texts,N.kids.map f⟩
theorem renNd_big (f:Int→Int) (N:Nd):big (renNd f N)=big N:=by
 unfold big renNd
 simp only [List.length_map]
theorem own_store9 {w:World} {B n:Nat} {e:TypeId} {a:Option Addr} {cap:Nat} {xs:List Value} (h:w.ownsRow B e 1 (.slice a n cap) n xs) (j:Nat) (hj:j<n):∃g,a=some ⟨g,0,none⟩∧w.cell? ⟨g,j,none⟩=xs[j]?∧w.frozen? ⟨g,j,none⟩=false∧B≤g∧g<w.heap.size∧
  ∀v,(w.setCell ⟨g,j,none⟩ v).ownsRow B e 1 (.slice (some ⟨g,0,none⟩) n cap) n (xs.set j v):=by
 rcases h.2 with ⟨_,h2⟩|⟨g,cap',cur,he,h1,h2,h3⟩
 ·omega
 ·simp only [Value.slice.injEq] at he
  obtain ⟨rfl,_,rfl⟩:=he
  exact ⟨g,rfl,h.cellAt j (by have:=h.1;omega),h.frozenAt j,h1,(h.lt g rfl).2,fun v=>(h.stored j v).1⟩
theorem own_apart9 {w:World} {B B' n n' s s':Nat} {e e':TypeId} {v v':Value} {xs xs':List Value} (h:w.ownsRow B e s v n xs) (h':w.ownsRow B' e' s' v' n' xs') (he:e≠e') {g:Nat} (hv:v.ownBlock=some g):v'.ownBlock≠some g:=by
 intro hr
 rcases h.2 with ⟨rfl,_⟩|⟨g1,_,cur,rfl,_,h2,_⟩
 ·cases hv
 ·simp only [Value.ownBlock,Option.some.injEq] at hv
  subst hv
  rcases h'.2 with ⟨rfl,_⟩|⟨g2,_,cur',rfl,_,h3,_⟩
  ·cases hr
  ·simp only [Value.ownBlock,Option.some.injEq] at hr
   subst hr
   rw [h3] at h2
   cases h2
   exact he rfl
def tkf (f:Int→Int) (l:List Int) (k:Nat):List Int:=(l.take k).map (f)++l.drop k
theorem tkf_all (f:Int→Int) (l:List Int):tkf f l l.length=l.map (f):=by simp [tkf]
theorem tkf_at (f:Int→Int) (l:List Int) (k:Nat) (h:k<l.length):(iV (tkf f l k))[k]? = some (.int .i64 (l.getD k 0)):=by
 have h1:(tkf f l k)[k]? = some (l.getD k 0):=by
  unfold tkf
  rw [List.getElem?_append_right (by simp;omega)]
  simp [h,Nat.min_eq_left (Nat.le_of_lt h)]
 unfold iV
 rw [List.getElem?_map,h1]
 rfl
theorem tkf_set (f:Int→Int) (l:List Int) (k:Nat) (h:k<l.length):(iV (tkf f l k)).set k (.int .i64 (f (l.getD k 0)))=iV (tkf f l (k+1)):=by
 have h1:(tkf f l k).set k (f (l.getD k 0))=tkf f l (k+1):=by
  unfold tkf
  have hm:((l.take k).map (f)).length=k:=by simp;omega
  rw [List.set_append_right _ _ (by omega),hm,Nat.sub_self,List.take_add_one,List.getD_eq_getElem?_getD,List.getElem?_eq_getElem h,show l.drop k=l[k] :: l.drop (k+1) from List.drop_eq_getElem_cons h,List.map_append,List.append_assoc]
  rfl
 rw [← h1]
 unfold iV
 rw [List.map_set]
structure Tgf (w:World) (B g:Nat) (N:Nd) (f:Int→Int) (k:Nat) (a1 a2 a3:Option Addr) (c1 c2 c3:Nat):Prop where
 nd:AtN 51 w g #[.int .i64 N.kind,.slice a1 N.ints.length c1,.slice a2 N.texts.length c2,.slice a3 N.kids.length c3]
 i:w.ownsRow B 2 1 (.slice a1 N.ints.length c1) N.ints.length (iV N.ints)
 t:w.ownsRow B 9 1 (.slice a2 N.texts.length c2) N.texts.length (tV N.texts)
 k:w.ownsRow B 3 1 (.slice a3 N.kids.length c3) N.kids.length (iV (tkf f N.kids k))
theorem Tgf.drew {w:World} {B g:Nat} {N:Nd} {f:Int→Int} {k:Nat} {a1 a2 a3:Option Addr} {c1 c2 c3:Nat} (h:Tgf w B g N f k a1 a2 a3 c1 c2 c3):Tgf w.drew B g N f k a1 a2 a3 c1 c2 c3:=⟨h.nd,h.i,h.t,h.k⟩
theorem Tgf.next {w:World} {B g:Nat} {N:Nd} {f:Int→Int} {k:Nat} {a1 a2 a3:Option Addr} {c1 c2 c3:Nat} (h:Tgf w B g N f k a1 a2 a3 c1 c2 c3) (hk:k<N.kids.length):∃q,a3=some ⟨q,0,none⟩∧w.cell? ⟨q,k,none⟩=some (.int .i64 (N.kids.getD k 0))∧w.frozen? ⟨q,k,none⟩=false∧B≤q∧q<w.heap.size∧
  Tgf (w.setCell ⟨q,k,none⟩ (.int .i64 (f (N.kids.getD k 0)))) B g N f (k+1) a1 a2 a3 c1 c2 c3:=by
 obtain ⟨q,rfl,h1,h2,h3,h4,h5⟩:=own_store9 h.k k hk
 have hq:(Value.slice (some ⟨q,0,none⟩) N.kids.length c3).ownBlock=some q:=rfl
 refine ⟨q,rfl,by rw [h1,tkf_at f N.kids k hk],h2,h3,h4,?_,?_,?_,?_⟩
 ·exact h.nd.setOther _ (fun e=>own_ne_at h.k h.nd (by decide) q hq e) _
 ·exact own_set h.i _ (fun r hr e=>own_apart9 h.k h.i (by decide) hq (by rw [hr];exact congrArg some e)) _
 ·exact own_set h.t _ (fun r hr e=>own_apart9 h.k h.t (by decide) hq (by rw [hr];exact congrArg some e)) _
 ·have:=h5 (.int .i64 (f (N.kids.getD k 0)))
  rwa [tkf_set f N.kids k hk] at this
def renNx (f:Int→Int) (N:Nd) (a1 a2 a3:Option Addr) (c1 c2 c3:Nat):Nx:=⟨renNd f N,a1,c1,a2,c2,a3,c3⟩
theorem Tgf.own {w:World} {B g:Nat} {N:Nd} {f:Int→Int} {a1 a2 a3:Option Addr} {c1 c2 c3:Nat} (h:Tgf w B g N f N.kids.length a1 a2 a3 c1 c2 c3):OwnNx w B (renNx f N a1 a2 a3 c1 c2 c3):=by
 refine ⟨h.i,h.t,?_⟩
 have:=h.k
 rw [tkf_all] at this
 simpa [renNx,renNd] using this
end Go.Proofs.YtgoffkfpdigeeaaGreatDoor
namespace Go.Proofs.YtgoffkfpdigeeaaGreatDoor
open Go.RowKit Go.Maps Go.WideMaps Go.Sort
def NumOut (X:List Nx) (r:Int) (w w':World) (e:Ending):Prop:=(RightIs X r→∃g,e=.returned (.slice (some ⟨g,0,none⟩) X.length X.length)∧AtN 3 w' g (zV X.length (fun i=>((oX X r).idxOf i:Int))))∧(¬RightIs X r→e=.returned (.slice none 0 0))∧Below w.heap.size w w'
set_option maxRecDepth 10000 in
set_option maxHeartbeats 400000 in
theorem numbers_any (X:List Nx) (a:Option Addr) (c:Nat) (r:Int) (w:World) (h:ScAt w a X) (hX:Small X) :
  Calls Tryz.prog 160 #[.agg #[.slice a X.length c,.int .i64 r]] w fun e w'=>NumOut X r w w' e:=by
 have HS:Hid (ScAt w a X∧Small X):=⟨h,hX⟩
 have HL:Hid (∀o:Obj,o=.cells #[.slice a X.length c,.int .i64 r] 24→AtN 24 (w.alloc o) w.heap.size #[.slice a X.length c,.int .i64 r]∧Below w.heap.size w (w.alloc o)):=by
  rintro _ rfl
  exact ⟨AtN.new w 24 _,(Below.refl w.heap.size w).alloc (Nat.le_refl _) _⟩
 clear h hX
 go_enter Tryz.func160,Tryz.ntmps160
 go_wp2_with fail
 obtain ⟨h1,h2⟩:=HL.out _ rfl
 refine (check_any X a c r _ (HS.out.1.belowB h2) HS.out.2).mono ?_
 rintro e w1 ⟨n,z,rfl,hc,hb1⟩
 have HA1:Hid (AtN 24 w1 w.heap.size #[.slice a X.length c,.int .i64 r]):=h1.belowAll hb1
 have HB1:Hid (Below w.heap.size w w1):=h2.trans (hb1.mono h2.size)
 have x0:w1.cell? ⟨w.heap.size,0,none⟩=some (.slice a X.length c):=HA1.out.cell 0
 have x1:w1.cell? ⟨w.heap.size,1,none⟩=some (.int .i64 r):=HA1.out.cell 1
 have HC:Hid (CheckIs X r n z):=hc
 clear HL h1 h2 hb1 hc
 by_cases hn:n=0
 ·subst hn
  have hR:RightIs X r:=HC.out.right.1 rfl
  have HN:Hid (Calls Tryz.prog 173 #[.agg #[.slice a X.length c,.int .i64 r]] w1 fun e w'=>CanonicalOut X r w1 w' e):=canonical_any X a c r w1 (HS.out.1.belowB HB1.out) HS.out.2 hR
  have HR:Hid (RightIs X r):=hR
  clear hR HC
  go_wp2_with fail
  refine Calls.mono HN.out ?_
  rintro e w2 ⟨g,rfl,hg,hgl,hb2⟩
  have HO:Hid (NumOut X r w w2 (.returned (.slice (some ⟨g,0,none⟩) X.length X.length))):=⟨fun _=>⟨g,rfl,hg⟩,fun q=>absurd HR.out q,HB1.out.trans (hb2.mono HB1.out.size)⟩
  clear HN hg hgl hb2
  go_wp2_with fail
  go_ret
  exact HO.out
 ·have HO:Hid (NumOut X r w w1 (.returned (.slice none 0 0))):=⟨fun q=>absurd (HC.out.right.2 q) hn,fun _=>rfl,HB1.out⟩
  go_wp2_with fail
  go_ret
  exact HO.out
def IsCan (X:List Nx) (r:Int):Prop:=RightIs X r∧∀i,i<X.length→(oX X r).idxOf i=i
def IsOut (X:List Nx) (r:Int) (w w':World) (e:Ending):Prop:=∃b,e=.returned (.bool b)∧(b=true↔IsCan X r)∧Below w.heap.size w w'
set_option maxRecDepth 10000 in
set_option maxHeartbeats 400000 in
theorem is_any (X:List Nx) (a:Option Addr) (c:Nat) (r:Int) (w:World) (h:ScAt w a X) (hX:Small X) :
  Calls Tryz.prog 134 #[.agg #[.slice a X.length c,.int .i64 r]] w fun e w'=>IsOut X r w w' e:=by
 have hl:=hX.1
 have HS:Hid (ScAt w a X∧Small X):=⟨h,hX⟩
 have HL:Hid (∀o:Obj,o=.cells #[.slice a X.length c,.int .i64 r] 24→Below w.heap.size w (w.alloc o)):=by
  rintro _ rfl
  exact (Below.refl w.heap.size w).alloc (Nat.le_refl _) _
 clear h hX
 by_cases hR:RightIs X r
 ·have HR:Hid (RightIs X r):=hR
  have hn1:1≤X.length:=by have:=hR.root.2;omega
  clear hR
  go_enter Tryz.func134,Tryz.ntmps134
  go_wp2_with fail
  have h2:=HL.out _ rfl
  refine (numbers_any X a c r _ (HS.out.1.belowB h2) HS.out.2).mono ?_
  rintro e w1 ⟨ho,-,hb1⟩
  obtain ⟨g,rfl,hg⟩:=ho HR.out
  have HG:Hid (AtN 3 w1 g (zV X.length (fun i=>((oX X r).idxOf i:Int)))):=hg
  have HB1:Hid (Below w.heap.size w w1):=h2.trans (hb1.mono h2.size)
  clear HL h2 hb1 hg ho
  go_wp2_with fail
  go_loopw [10] (fun iv wr=>∃i:Nat,iv=.int .i64 i∧i≤X.length∧wr=w1∧Hid (∀k,k<i→(oX X r).idxOf k=k)) (fun iv _=>X.length-(intOf iv).toNat)
  case atStart=>exact ⟨0,rfl,by omega,rfl,fun k hk=>by omega⟩
  case round=>
   obtain ⟨i,rfl,hi,rfl,HI⟩:=hrel
   by_cases hlt:i<X.length
   ·have hlt':(i:Int)<X.length:=by omega
    have d0:wr.cell? ⟨g,i,none⟩=some (.int .i64 ((oX X r).idxOf i:Int)):=by rw [HG.out.cell i,zV_at _ _ _ hlt]
    by_cases he:(oX X r).idxOf i=i
    ·rw [he] at d0
     have HI2:Hid (∀k,k<i+1→(oX X r).idxOf k=k):=fun k hk=>by
      by_cases e:k=i
      ·rw [e];exact he
      ·exact HI.out k (by omega)
     clear he HI
     go_wp2_with fail
     go_roundw
     case rel=>exact ⟨i+1,by go_num,by omega,by trivial,HI2⟩
     case measure=>simp [intOf];omega
    ·have HO:Hid (IsOut X r w wr (.returned (.bool false))):=⟨false,rfl,⟨fun q=>by simp at q,fun q=>absurd (q.2 i hlt) he⟩,HB1.out⟩
     have he':¬((oX X r).idxOf i:Int)=(i:Int):=by omega
     generalize (oX X r).idxOf i=q at *
     clear HI he
     go_wp2_with fail
     go_ret
     exact HO.out
   ·have hlt':¬(i:Int)<X.length:=by omega
    have HO:Hid (IsOut X r w wr (.returned (.bool (decide (0<X.length))))):=⟨true,by rw [decide_eq_true (by omega)],⟨fun _=>⟨HR.out,fun k hk=>HI.out k (by omega)⟩,fun _=>rfl⟩,HB1.out⟩
    clear HI
    go_wp2_with fail
    go_ret
    exact HO.out
 ·have HR:Hid (¬RightIs X r):=hR
  clear hR
  go_enter Tryz.func134,Tryz.ntmps134
  go_wp2_with fail
  have h2:=HL.out _ rfl
  refine (numbers_any X a c r _ (HS.out.1.belowB h2) HS.out.2).mono ?_
  rintro e w1 ⟨-,ho,hb1⟩
  obtain rfl:=ho HR.out
  have HO:Hid (IsOut X r w w1 (.returned (.bool false))):=⟨false,rfl,⟨fun q=>by simp at q,fun q=>absurd q.1 HR.out⟩,h2.trans (hb1.mono h2.size)⟩
  clear HL h2 hb1 ho
  go_wp2_with fail
  go_loopw [10] (fun iv wr=>iv=.int .i64 0∧wr=w1) (fun iv _=>0)
  case atStart=>exact ⟨rfl,rfl⟩
  case round=>
   obtain ⟨rfl,rfl⟩:=hrel
   go_wp2_with fail
   go_ret
   exact HO.out
end Go.Proofs.YtgoffkfpdigeeaaGreatDoor
namespace Go.Proofs.YtgoffkfpdigeeaaGreatDoor
open Go.RowKit Go.Maps Go.WideMaps Go.Sort
def pX (X:List Nx) (r:Int) (z:Int):Int:=((oX X r).idxOf z.toNat:Int)
def cX (X:List Nx) (r:Int):List Nd:=(oX X r).map fun i=>renNd (pX X r) (X.getD i noNx).nd
def cnG (gn j:Nat) (Z:List Nx) (W0 W:World):Prop:=(∃Z',(Z'=Z∨∃y,Z'=Z.set j y)∧AtN 51 W gn (nxV Z').toArray)∧Fr (fun b=>b=gn) W0 W
section
variable {gn gp n i j B:Nat} {p:Int→Int} {N:Nx} {Z:List Nx} {W0 W W':World}
theorem cnG.below (h:cnG gn j Z W0 W) (hb:Below W.heap.size W W'):cnG gn j Z W0 W':=by
 obtain ⟨⟨Z',h1,h2⟩,h3⟩:=h
 exact ⟨⟨Z',h1,h2.belowAll hb⟩,h3.trans (Fr.of_below (S:=fun _=>False) hb) (fun _ q _=>q.elim)⟩
end
def kidB (y:Nx):Option Nat:=(Value.slice y.a3 y.nd.kids.length y.c3).ownBlock
def Aprt (Y:List Nx):Prop:=∀i j,i<j→j<Y.length→∀g,kidB (Y.getD i noNx)=some g→kidB (Y.getD j noNx)≠some g
structure CnI (w wr:World) (X:List Nx) (a:Option Addr) (c:Nat) (r:Int) (gn gp i:Nat) (Z:List Nx):Prop where
 len:Z.length=X.length
 nd:∀k,k<i→(Z.getD ((oX X r).idxOf k) noNx).nd=renNd (pX X r) (X.getD k noNx).nd
 own:∀k,k<i→OwnNx wr w.heap.size (Z.getD ((oX X r).idxOf k) noNx)
 nodes:AtN 51 wr gn (nxV Z).toArray
 places:AtN 3 wr gp (zV X.length (fun i=>((oX X r).idxOf i:Int)))
 arg:AtN 24 wr w.heap.size #[.slice a X.length c,.int .i64 r]
 res:AtN 24 wr (w.heap.size+1) #[.slice none 0 0,.int .i64 0]
 bel:Below w.heap.size w wr
 big:w.heap.size+2≤gn
 ap:∀k k',k<i→k'<i→k≠k'→∀q,kidB (Z.getD ((oX X r).idxOf k) noNx)=some q→kidB (Z.getD ((oX X r).idxOf k') noNx)≠some q
theorem CnI.next {w wr W0 W:World} {X:List Nx} {a:Option Addr} {c:Nat} {r:Int} {gn gp i:Nat} {Z:List Nx} {y:Nx} (h:CnI w wr X a c r gn gp i Z) (hR:RightIs X r) (hi:i<X.length) (hb:Below wr.heap.size wr W0) (hf:Fr (fun b=>b=gn) W0 W) (hy:y.nd=renNd (pX X r) (X.getD i noNx).nd) (hA:AtN 51 W gn (nxV (Z.set ((oX X r).idxOf i) y)).toArray) (hO:OwnNx W W0.heap.size y):CnI w W X a c r gn gp (i+1) (Z.set ((oX X r).idxOf i) y):=by
 have hord:=hR.ord
 have hgl:=h.nodes.lt
 have hne:gp≠gn:=fun e=>by
  have h1:wr.heap[gp]? = _:=h.places
  have h2:wr.heap[gn]? = _:=h.nodes
  rw [e,h2] at h1
  injection h1 with h1
  injection h1 with _ h1
  exact absurd h1 (by decide)
 have hf2:Fr (fun b=>b=gn) wr W:=(Fr.of_below (S:=fun b=>b=gn) hb).trans hf (fun _ e _=>e)
 have hal:Alien wr (fun b=>b=gn):=fun b hb _=>by
  subst hb
  exact ⟨_,_,_,h.nodes,by decide,by decide,by decide⟩
 have hget:∀k,k<i+1→(Z.set ((oX X r).idxOf i) y).getD ((oX X r).idxOf k) noNx=if k=i then y else Z.getD ((oX X r).idxOf k) noNx:=fun k hk=>by
  have hil:=hord.idx (x:=i) (by rw [kX_length];exact hi)
  rw [kX_length] at hil
  by_cases e:k=i
  ·subst e
   rw [if_pos rfl,List.getD_eq_getElem?_getD,List.getElem?_set,if_pos rfl,if_pos (by rw [h.len];exact hil)]
   rfl
  ·rw [if_neg e,List.getD_eq_getElem?_getD,List.getElem?_set,if_neg (fun q=>e (idx_inj (hord.all k (by rw [kX_length];omega)) (hord.all i (by rw [kX_length];omega)) q.symm)),← List.getD_eq_getElem?_getD]
 refine ⟨by rw [List.length_set];exact h.len,fun k hk=>?_,fun k hk=>?_,hA,h.places.fr hf2 hne,h.arg.fr hf2 (by have:=h.big;omega),h.res.fr hf2 (by have:=h.big;omega),Fr.below h.bel hf2 (fun b e=>by have:=h.big;omega) h.bel.size,h.big,fun k k' hk hk' hne q hq hq'=>?_⟩
 ·rw [hget k hk]
  by_cases e:k=i
  ·rw [if_pos e,hy,e]
  ·rw [if_neg e];exact h.nd k (by omega)
 ·rw [hget k hk]
  by_cases e:k=i
  ·rw [if_pos e]
   exact hO.mono (Nat.le_trans h.bel.size hb.size)
  ·rw [if_neg e];exact (h.own k (by omega)).fr hf2 hal
 ·rw [hget k hk] at hq
  rw [hget k' hk'] at hq'
  have hold:∀m,m<i→kidB (Z.getD ((oX X r).idxOf m) noNx)=some q→q<wr.heap.size:=fun m hm e=>((h.own m hm).k.lt q e).2
  have hnew:kidB y=some q→wr.heap.size≤q:=fun e=>Nat.le_trans hb.size (hO.k.lt q e).1
  by_cases e:k=i
  ·rw [if_pos e] at hq
   rw [if_neg (by omega)] at hq'
   have:=hold k' (by omega) hq'
   have:=hnew hq
   omega
  ·rw [if_neg e] at hq
   by_cases e':k'=i
   ·rw [if_pos e'] at hq'
    have:=hold k (by omega) hq
    have:=hnew hq'
    omega
   ·rw [if_neg e'] at hq'
    exact h.ap k k' (by omega) (by omega) hne q hq hq'
theorem CnI.fin {w wr:World} {X:List Nx} {a:Option Addr} {c:Nat} {r:Int} {gn gp:Nat} {Z:List Nx} (h:CnI w wr X a c r gn gp X.length Z) (hR:RightIs X r):Z.map Nx.nd=cX X r∧ScAt wr (some ⟨gn,0,none⟩) Z:=by
 have hord:=hR.ord
 have hol:(oX X r).length=X.length:=by have:=hord.len;rwa [kX_length] at this
 have hat:∀j,(hj:j<X.length)→∃k,k<X.length∧(oX X r).idxOf k=j∧(oX X r)[j]? = some k:=fun j hj=>by
  have hj':j<(oX X r).length:=by omega
  refine ⟨(oX X r)[j],?_,hord.good.nd.idxOf_getElem j hj',List.getElem?_eq_getElem hj'⟩
  have:=hord.good.lt _ (List.getElem_mem hj')
  rwa [kX_length] at this
 constructor
 ·refine List.ext_getElem? (fun j=>?_)
  by_cases hj:j<X.length
  ·obtain ⟨k,hk,h1,h2⟩:=hat j hj
   unfold cX
   rw [List.getElem?_map,List.getElem?_map,h2,List.getElem?_eq_getElem (by rw [h.len];exact hj)]
   have:=h.nd k hk
   rw [h1,List.getD_eq_getElem?_getD,List.getElem?_eq_getElem (by rw [h.len];exact hj)] at this
   simpa using this
  ·rw [List.getElem?_eq_none (by rw [List.length_map,h.len];omega),List.getElem?_eq_none (by unfold cX;rw [List.length_map];omega)]
 ·refine ⟨h.nodes.lsQ.toAt,fun j hj=>?_⟩
  rw [h.len] at hj
  obtain ⟨k,hk,h1,_⟩:=hat j hj
  have:=h.own k hk
  rw [h1] at this
  exact this.ndAt
structure RgN (N:Nd):Prop where
 kind:inR N.kind
 ints:∀k ∈ N.ints,inR k
 kids:∀k ∈ N.kids,inR k
end Go.Proofs.YtgoffkfpdigeeaaGreatDoor
namespace Go.Proofs.YtgoffkfpdigeeaaGreatDoor
open Go.RowKit Go.Maps Go.WideMaps Go.Sort
theorem Good.len {K:List (List Nat)} {M:List Nat} (h:Good K M):M.length≤K.length:=nodup_le _ _ h.nd h.lt
end Go.Proofs.YtgoffkfpdigeeaaGreatDoor
namespace Go.Proofs.YtgoffkfpdigeeaaGreatDoor
open Go.RowKit Go.Maps Go.WideMaps Go.Sort
theorem oX_all {X:List Nx} {r:Int} (h:RightIs X r) (i:Nat) (hi:i<X.length):i ∈ oX X r:=h.ord.all i (by rw [kX_length];exact hi)
section
variable {n b o c b0 m bl ol cl i x B:Nat} {N:Nx} {W W':World}
end
end Go.Proofs.YtgoffkfpdigeeaaGreatDoor
namespace Go.Proofs.YtgoffkfpdigeeaaGreatDoor
open Go.RowKit Go.Maps Go.WideMaps Go.Sort
structure Ren (X Y:List Nx) (p:Nat→Nat):Prop where
 per:Per X.length p
 len:Y.length=X.length
 nd:∀i,i<X.length→(Y.getD (p i) noNx).nd=renNd (fun z=>(p z.toNat:Int)) (X.getD i noNx).nd
section
variable {X Y:List Nx} {p:Nat→Nat} {r:Int}
theorem Ren.k (h:Ren X Y p):RenK (kX X) (kX Y) p:=by
 refine ⟨by rw [kX_length];exact h.per,by rw [kX_length,kX_length];exact h.len,fun i hi=>?_⟩
 rw [kX_length] at hi
 rw [kX_at X i hi,kX_at Y (p i) (by rw [h.len];exact h.per.lt i hi),h.nd i hi]
 simp only [renNd,List.map_map]
 refine List.map_congr_left fun z _=>?_
 simp
theorem getD_mapI (f:Int→Int) (l:List Int) (t:Nat) (ht:t<l.length):(l.map f).getD t 0=f l[t]:=by simp [ht]
theorem kid_place (hok:∀i,i<X.length→okAt X i) {i:Nat} (hi:i<X.length) {z:Int} (hz:z ∈ (X.getD i noNx).nd.kids):0≤z∧z.toNat<X.length:=by
 obtain ⟨t,ht,rfl⟩:=List.getElem_of_mem hz
 have:=hok i hi t ht
 rw [show (X.getD i noNx).nd.kids.getD t 0=(X.getD i noNx).nd.kids[t] by rw [List.getD_eq_getElem?_getD,List.getElem?_eq_getElem ht];rfl] at this
 have:=isPb_iff.1 this
 omega
theorem Ren.right (h:Ren X Y p) (hR:RightIs X r):RightIs Y (p r.toNat:Int):=by
 have hr:=hR.root
 have hk:=h.k
 refine ⟨?_,fun j hj t ht=>?_,(hk.dag hR.dag).2,fun y hy=>?_⟩
 ·rw [isPb_iff,h.len]
  have:=h.per.lt _ hr.2
  omega
 ·rw [h.len] at hj ⊢
  obtain ⟨i,hi,rfl⟩:=h.per.onto j hj
  rw [h.nd i hi] at ht ⊢
  simp only [renNd,List.length_map] at ht
  have hz:=kid_place hR.2.1 hi (List.getElem_mem ht)
  have hl:=h.per.lt _ hz.2
  simp only [renNd]
  rw [getD_mapI _ _ t ht,isPb_iff]
  omega
 ·rw [h.len] at hy
  obtain ⟨x,hx,rfl⟩:=h.per.onto y hy
  rw [Int.toNat_natCast]
  exact hk.rt (hR.2.2.2 x hx)
theorem Ren.ord (h:Ren X Y p) (hR:RightIs X r):oX Y (p r.toNat:Int)=(oX X r).map p:=by
 unfold oX
 rw [Int.toNat_natCast]
 exact ordO_ren h.k (kX_ok hR.2.1) (by rw [kX_length];exact hR.root.2)
theorem Ren.can (h:Ren X Y p) (hR:RightIs X r):cX Y (p r.toNat:Int)=cX X r:=by
 have ho:=h.ord hR
 have hlt:∀i ∈ oX X r,i<X.length:=fun i hi=>by have:=hR.ord.good.lt i hi;rwa [kX_length] at this
 unfold cX
 rw [ho,List.map_map]
 refine List.map_congr_left fun i hi=>?_
 simp only [Function.comp]
 rw [h.nd i (hlt i hi)]
 simp only [renNd,List.map_map]
 congr 1
 refine List.map_congr_left fun z hz=>?_
 have hz':=kid_place hR.2.1 (hlt i hi) hz
 simp only [Function.comp,pX]
 rw [ho,Int.toNat_natCast,idx_ren (K:=kX X) (by rw [kX_length];exact h.per) (fun x hx=>by rw [kX_length];exact hlt x hx) (by rw [kX_length];exact hz'.2)]
theorem Ren.small (h:Ren X Y p) (hX:Small X):Small Y:=by
 refine ⟨by rw [h.len];exact hX.1,fun j hj=>?_⟩
 rw [h.len] at hj
 obtain ⟨i,hi,rfl⟩:=h.per.onto j hj
 rw [h.nd i hi,renNd_big]
 exact hX.2 i hi
theorem fold1_ren (f g:Nat→Nat) (l:List Nat):fold1 f (l.map g)=fold1 (fun k=>f (g k)) l:=by simp [fold1,List.foldl_map]
theorem DepthIs.one {d d':Nat} (h:DepthIs X r d) (h':DepthIs X r d') (hR:RightIs X r):d'=d:=by
 obtain ⟨f,h1,rfl,_⟩:=h.2 hR
 obtain ⟨g,h2,rfl,_⟩:=h'.2 hR
 exact HtIs.uniq h2 h1 (kX_ok hR.2.1) _ _ rfl (by rw [kX_length];exact hR.root.2)
theorem Ren.depth (h:Ren X Y p) (hR:RightIs X r) {d d':Nat} (hd:DepthIs X r d) (hd':DepthIs Y (p r.toNat:Int) d'):d'=d:=by
 obtain ⟨f,h1,rfl,_⟩:=hd.2 hR
 obtain ⟨g,h2,rfl,_⟩:=hd'.2 (h.right hR)
 rw [Int.toNat_natCast]
 have hk:=h.k
 have h3:HtIs (kX X) (fun x=>g (p x)):=fun a ha=>by
  have:=h2 (p a) (by rw [hk.len];exact hk.per.lt a ha)
  rw [hk.kids a ha,fold1_ren] at this
  exact this
 exact HtIs.uniq h3 h1 (kX_ok hR.2.1) _ r.toNat rfl (by rw [kX_length];exact hR.root.2)
theorem edg_range (X:List Nx):edg X=((List.range X.length).map fun i=>(X.getD i noNx).nd.kids.length).sum:=by
 unfold edg
 congr 1
 refine List.ext_getElem (by simp) (fun i h1 h2=>?_)
 have:i<X.length:=by simpa using h1
 simp [this]
theorem Ren.edg (h:Ren X Y p):edg Y=edg X:=by
 rw [edg_range Y,edg_range X,h.len]
 have hp:((List.range X.length).map p).Perm (List.range X.length):=by
  refine (List.perm_ext_iff_of_nodup ?_ List.nodup_range).2 (fun y=>?_)
  ·refine List.pairwise_map.2 ?_
   refine List.Pairwise.imp_of_mem (R:=fun a b=>a≠b) (fun {a b} ha hb hne q=>hne (h.per.inj a b (List.mem_range.1 ha) (List.mem_range.1 hb) q)) ?_
   exact List.nodup_range
  ·constructor
   ·intro hy
    obtain ⟨x,hx,rfl⟩:=List.mem_map.1 hy
    exact List.mem_range.2 (h.per.lt x (List.mem_range.1 hx))
   ·intro hy
    obtain ⟨x,hx,rfl⟩:=h.per.onto y (List.mem_range.1 hy)
    exact List.mem_map_of_mem (List.mem_range.2 hx)
 rw [← List.Perm.sum_nat (hp.map fun i=>(Y.getD i noNx).nd.kids.length),List.map_map]
 congr 1
 refine List.map_congr_left fun i hi=>?_
 simp only [Function.comp]
 rw [h.nd i (List.mem_range.1 hi)]
 simp [renNd]
end
theorem same_kX {X Y:List Nx} (h:Y.map Nx.nd=X.map Nx.nd):kX Y=kX X:=by
 have:∀Z:List Nx,kX Z=(Z.map Nx.nd).map fun N=>N.kids.map Int.toNat:=fun Z=>by simp [kX,kOf,lks,lnOf]
 rw [this,this,h]
theorem same_oX {X Y:List Nx} (h:Y.map Nx.nd=X.map Nx.nd) (r:Int):oX Y r=oX X r:=by unfold oX;rw [same_kX h]
end Go.Proofs.YtgoffkfpdigeeaaGreatDoor
namespace Go.Proofs.YtgoffkfpdigeeaaGreatDoor
open Go.ChangeShapes Go.WideShapes Go.ChangeAt Go.RowKit Go.Joins Go.Deep
structure IsSc (w:World) (a:Option Addr) (X:List Nx) (r:Int):Prop where
 sc:ScAt w a X
 root:inR r
 rg:∀i,i<X.length→RgN (X.getD i noNx).nd
theorem IsSc.kids {w:World} {a:Option Addr} {X:List Nx} {r:Int} (h:IsSc w a X r):∀i,i<X.length→∀k ∈ (X.getD i noNx).nd.kids,inR k:=fun i hi=>(h.rg i hi).kids
section
variable {H:Type} {enc:TypeId × Value→H} {P:Program} {w:World}
theorem wf_i64 {n:Int} (h:(Lit.int .i64 n).wf=true):inR n:=by
 simp only [Lit.wf,Bool.and_eq_true,decide_eq_true_eq] at h
 exact h
end
end Go.Proofs.YtgoffkfpdigeeaaGreatDoor
namespace Go.Proofs.YtgoffkfpdigeeaaGreatDoor
open Go.RowKit Go.Maps Go.WideMaps Go.Sort
theorem CheckIs.zero {X:List Nx} {r e z:Int} (h:CheckIs X r e z) (hr:RightIs X r):e=0∧z=0:=by
 have he:=h.right.2 hr
 refine ⟨he,?_⟩
 rcases h with ⟨h1,q,_⟩|⟨_,i,_,q,_⟩|⟨_,_,⟨i,q,_⟩|⟨_,⟨i,q,_⟩|⟨_,q,_⟩⟩⟩
 ·omega
 ·omega
 ·omega
 ·omega
 ·exact q
theorem CheckIs.cyc {X:List Nx} {r e z:Int} {i:Nat} (h:CheckIs X r e z) (h1:isPb X.length r=true) (h2:∀i,i<X.length→okAt X i) (h3:FirstCyc (kX X) i):e=14∧z=i:=by
 rcases h with ⟨q,_⟩|⟨_,j,hj,_,_,q,_⟩|⟨_,_,⟨j,rfl,rfl,q⟩|⟨q,_⟩⟩
 ·rw [h1] at q;cases q
 ·exact absurd (h2 j hj) q
 ·refine ⟨rfl,?_⟩
  rcases Nat.lt_trichotomy i j with p|p|p
  ·exact absurd h3.1 (q.2 i p)
  ·rw [p]
  ·exact absurd q.1 (h3.2 j p)
 ·exact absurd h3.1 (q i)
theorem CheckIs.loose {X:List Nx} {r e z:Int} {i:Nat} (h:CheckIs X r e z) (h1:isPb X.length r=true) (h2:∀i,i<X.length→okAt X i) (h3:∀x,¬Lead (Ed (kX X)) x x) (h4:i<X.length) (h5:¬Rt (Ed (kX X)) r.toNat i) (h6:∀j,j<i→Rt (Ed (kX X)) r.toNat j):e=15∧z=i:=by
 rcases h with ⟨q,_⟩|⟨_,j,hj,_,_,q,_⟩|⟨_,_,⟨j,_,_,q⟩|⟨_,⟨j,rfl,rfl,hj,q1,q2⟩|⟨_,_,q⟩⟩⟩
 ·rw [h1] at q;cases q
 ·exact absurd (h2 j hj) q
 ·exact absurd q.1 (h3 j)
 ·refine ⟨rfl,?_⟩
  rcases Nat.lt_trichotomy i j with p|p|p
  ·exact absurd (q2 i p) h5
  ·rw [p]
  ·exact absurd (h6 j p) q1
 ·exact absurd (q i h4) h5
theorem CheckIs.uniq {X:List Nx} {r e z e' z':Int} (h:CheckIs X r e z) (h':CheckIs X r e' z'):e'=e∧z'=z:=by
 rcases h with ⟨h1,rfl,rfl⟩|⟨h1,i,hi,rfl,rfl,hno,hbe⟩|⟨h1,h2,⟨i,rfl,rfl,hf⟩|⟨h3,⟨i,rfl,rfl,hi,hn,hb⟩|⟨rfl,rfl,h4⟩⟩⟩
 ·rcases h' with ⟨_,q1,q2⟩|⟨q,_⟩|⟨q,_⟩
  ·exact ⟨q1,q2⟩
  ·rw [h1] at q;cases q
  ·rw [h1] at q;cases q
 ·rcases h' with ⟨q,_⟩|⟨_,j,hj,rfl,rfl,q1,q2⟩|⟨_,q,_⟩
  ·rw [h1] at q;cases q
  ·refine ⟨rfl,?_⟩
   rcases Nat.lt_trichotomy i j with p|p|p
   ·exact absurd (q2 i p) hno
   ·rw [p]
   ·exact absurd (hbe j p) q1
  ·exact absurd (q i hi) hno
 ·exact h'.cyc h1 h2 hf
 ·exact h'.loose h1 h2 h3 hi hn hb
 ·exact h'.zero ⟨h1,h2,h3,h4⟩
section
variable {X Y:List Nx}
theorem same_len (h:Y.map Nx.nd=X.map Nx.nd):Y.length=X.length:=by simpa using congrArg List.length h
theorem same_nd (h:Y.map Nx.nd=X.map Nx.nd) (i:Nat):(Y.getD i noNx).nd=(X.getD i noNx).nd:=by
 have h1:(Y.map Nx.nd)[i]? = (X.map Nx.nd)[i]? := by rw [h]
 rw [List.getElem?_map,List.getElem?_map] at h1
 rw [List.getD_eq_getElem?_getD,List.getD_eq_getElem?_getD]
 cases hy:Y[i]? with
 | none=>
  rw [hy] at h1
  cases hx:X[i]? with
  | none=>rfl
  | some x=>rw [hx] at h1;cases h1
 | some y=>
  rw [hy] at h1
  cases hx:X[i]? with
  | none=>rw [hx] at h1;cases h1
  | some x=>rw [hx] at h1;simpa using h1
theorem same_k (h:Y.map Nx.nd=X.map Nx.nd):kX Y=kX X:=by
 have:∀Z:List Nx,kX Z=(Z.map Nx.nd).map fun N=>N.kids.map Int.toNat:=fun Z=>by simp [kX,kOf,lks,lnOf]
 rw [this,this,h]
theorem same_ok (h:Y.map Nx.nd=X.map Nx.nd) (i:Nat):okAt Y i↔okAt X i:=by
 unfold okAt
 rw [same_len h,same_nd h]
theorem same_check (h:Y.map Nx.nd=X.map Nx.nd) {r e z:Int} (hc:CheckIs Y r e z):CheckIs X r e z:=by
 unfold CheckIs at hc ⊢
 simp only [same_len h,same_k h,same_ok h] at hc
 exact hc
theorem same_right (h:Y.map Nx.nd=X.map Nx.nd) {r:Int}:RightIs Y r↔RightIs X r:=by
 unfold RightIs
 simp only [same_len h,same_k h,same_ok h]
theorem same_depth (h:Y.map Nx.nd=X.map Nx.nd) {r:Int} {d:Nat} (hc:DepthIs Y r d):DepthIs X r d:=by
 unfold DepthIs at hc ⊢
 simp only [same_len h,same_k h,same_right h] at hc
 exact hc
end
theorem at_ls {T:TypeId} {W:World} {g:Nat} {cs:List Value} (h:AtN T W g cs.toArray):LsAt W (some ⟨g,0,none⟩) cs:=h.lsQ.toAt
structure Lw (w W:World) (a:Option Addr) (X:List Nx) (c:Nat) (r:Int):Prop where
 at_:AtN 24 W w.heap.size #[.slice a X.length c,.int .i64 r]
 bel:Below w.heap.size w W
theorem Lw.more {w W W':World} {a:Option Addr} {X:List Nx} {c:Nat} {r:Int} (h:Lw w W a X c r) (hb:Below W.heap.size W W'):Lw w W' a X c r:=⟨h.at_.belowAll hb,h.bel.trans (hb.mono h.bel.size)⟩
theorem Lw.start (w:World) (a:Option Addr) (X:List Nx) (c:Nat) (r:Int):Lw w (w.alloc (.cells #[.slice a X.length c,.int .i64 r] 24)) a X c r:=⟨AtN.new w 24 _,(Below.refl w.heap.size w).alloc (Nat.le_refl _) _⟩
theorem Lw.sc {w W:World} {a:Option Addr} {X:List Nx} {c:Nat} {r q:Int} (h:Lw w W a X c r) (hs:IsSc w a X q):ScAt W a X:=hs.sc.belowB h.bel
theorem Lw.c0 {w W:World} {a:Option Addr} {X:List Nx} {c:Nat} {r:Int} (h:Lw w W a X c r):W.cell? ⟨w.heap.size,0,none⟩=some (.slice a X.length c):=h.at_.cell 0
theorem Lw.c1 {w W:World} {a:Option Addr} {X:List Nx} {c:Nat} {r:Int} (h:Lw w W a X c r):W.cell? ⟨w.heap.size,1,none⟩=some (.int .i64 r):=h.at_.cell 1
end Go.Proofs.YtgoffkfpdigeeaaGreatDoor
namespace Go.Proofs.YtgoffkfpdigeeaaGreatDoor
end Go.Proofs.YtgoffkfpdigeeaaGreatDoor
namespace Go.Proofs.YtgoffkfpdigeeaaGreatDoor
open Go.RowKit Go.Maps Go.WideMaps Go.Sort
theorem Aprt.nil:Aprt []:=fun i j _ h=>by simp at h
theorem getD_snocN (Y:List Nx) (y:Nx) (j:Nat) (h:j<Y.length):(Y++[y]).getD j noNx=Y.getD j noNx:=by rw [List.getD_eq_getElem?_getD,List.getElem?_append_left h,← List.getD_eq_getElem?_getD]
theorem Aprt.snoc {Y:List Nx} {y:Nx} {B:Nat} (h:Aprt Y) (h1:∀j,j<Y.length→∀g,kidB (Y.getD j noNx)=some g→g<B) (h2:∀g,kidB y=some g→B≤g):Aprt (Y++[y]):=by
 intro i j hij hj g hi hjg
 by_cases hl:j<Y.length
 ·rw [getD_snocN Y y j hl] at hjg
  rw [getD_snocN Y y i (by omega)] at hi
  exact h i j hij hl g hi hjg
 ·obtain rfl:j=Y.length:=by simp at hj;omega
  rw [getD_snocN Y y i (by omega)] at hi
  rw [show (Y++[y]).getD Y.length noNx=y by simp] at hjg
  have:=h1 i (by omega) g hi
  have:=h2 g hjg
  omega
theorem Aprt.ne {Y:List Nx} (h:Aprt Y) {i j:Nat} (hi:i<Y.length) (hj:j<Y.length) (hne:i≠j) {g:Nat} (h1:kidB (Y.getD i noNx)=some g):kidB (Y.getD j noNx)≠some g:=by
 rcases Nat.lt_or_gt_of_ne hne with q|q
 ·exact h i j q hj g h1
 ·exact fun h2=>h j i q hi g h2 h1
end Go.Proofs.YtgoffkfpdigeeaaGreatDoor
