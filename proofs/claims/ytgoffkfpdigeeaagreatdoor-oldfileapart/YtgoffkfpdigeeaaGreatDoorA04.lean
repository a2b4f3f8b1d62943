import Derived.Deep.RegionLawGrows
import Derived.Maps.OwnSet
import Derived.Maps.OwnOps
import Derived.Maps.Views
import Derived.Laws.MakeOwn
import Derived.Test.YtgoffkfpdigeeaaGreatDoorA01
import Derived.Test.YtgoffkfpdigeeaaGreatDoorA02
import Derived.Test.YtgoffkfpdigeeaaGreatDoorA03
namespace Go.Proofs.YtgoffkfpdigeeaaGreatDoor
open Go.RowKit
structure Nd where
 kind:Int
 ints:List Int
 texts:List ByteArray
 kids:List Int
def tV (l:List ByteArray):List Value:=l.map Value.string
theorem tV_at (l:List ByteArray) (i:Nat) (h:i<l.length):(tV l)[i]? = some (.string (l.getD i noT)):=by simp [tV,h]
def LsAt (w:World) (a:Option Addr) (cs:List Value):Prop:=∃b o,(0<cs.length→a=some ⟨b,o,none⟩)∧∀i,i<cs.length→b<w.heap.size∧w.cell? ⟨b,o+i,none⟩=cs[i]?
section
variable {w w':World} {a:Option Addr} {cs:List Value} {B:Nat}
theorem LsAt.belowB (h:LsAt w a cs) (hb:Below w.heap.size w w'):LsAt w' a cs:=by
 obtain ⟨b,o,h1,h2⟩:=h
 refine ⟨b,o,h1,fun i hi=>?_⟩
 obtain ⟨h3,h4⟩:=h2 i hi
 exact ⟨Nat.lt_of_lt_of_le h3 hb.size,(hb.cell (p:=⟨b,o+i,none⟩) h3).trans h4⟩
theorem LsAt.alloc (h:LsAt w a cs) (x:Obj):LsAt (w.alloc x) a cs:=h.belowB ((Below.refl w.heap.size w).alloc (Nat.le_refl _) x)
theorem LsAt.drew (h:LsAt w a cs):LsAt w.drew a cs:=h
theorem LsAt.nil (w:World) (a:Option Addr):LsAt w a []:=⟨0,0,fun h=>by simp at h,fun i hi=>by simp at hi⟩
theorem LsAt.news {y:Addr} (h:LsAt w (some y) cs):∀j u,cs[j]? = some u→w.cell? (y.add j)=some u:=by
 obtain ⟨b,o,h1,h2⟩:=h
 intro j u hu
 have hj:j<cs.length:=(List.getElem?_eq_some_iff.1 hu).1
 have hy:=h1 (by omega)
 simp only [Option.some.injEq] at hy
 subst hy
 rw [show (⟨b,o,none⟩:Addr).add j=⟨b,o+j,none⟩ by unfold Addr.add;split <;> simp_all,(h2 j hj).2,hu]
theorem LsAt.of_own {e:TypeId} {n cap:Nat} (h:w.ownsRow B e 1 (.slice a n cap) n cs):LsAt w a cs:=by
 have hl:=h.1
 rcases h.2 with ⟨h1,h2⟩|⟨g,cap',cur,h1,_,h3,_⟩
 ·subst h2
  have:cs=[]:=List.length_eq_zero_iff.1 (by simpa using hl)
  subst this
  exact LsAt.nil _ _
 ·simp only [Value.slice.injEq] at h1
  obtain ⟨rfl,-,rfl⟩:=h1
  refine ⟨g,0,fun _=>rfl,fun i hi=>⟨(Array.getElem?_eq_some_iff.1 h3).1,?_⟩⟩
  rw [Nat.zero_add]
  exact World.ownsRow.cellAt h i (by omega)
theorem LsAt.at (h:LsAt w a cs) {i:Nat} {v:Value} (hi:cs[i]? = some v):∃b o,a=some ⟨b,o,none⟩∧b<w.heap.size∧w.cell? ⟨b,o+i,none⟩=some v:=by
 obtain ⟨b,o,h1,h2⟩:=h
 have hl:i<cs.length:=(List.getElem?_eq_some_iff.1 hi).1
 exact ⟨b,o,h1 (by omega),(h2 i hl).1,(h2 i hl).2.trans hi⟩
end
structure NdAt (w:World) (N:Nd) (a1 a2 a3:Option Addr):Prop where
 i:LsAt w a1 (iV N.ints)
 t:LsAt w a2 (tV N.texts)
 k:LsAt w a3 (iV N.kids)
theorem NdAt.belowB {w w':World} {N:Nd} {a1 a2 a3:Option Addr} (h:NdAt w N a1 a2 a3) (hb:Below w.heap.size w w'):NdAt w' N a1 a2 a3:=⟨h.i.belowB hb,h.t.belowB hb,h.k.belowB hb⟩
theorem NdAt.alloc {w:World} {N:Nd} {a1 a2 a3:Option Addr} (h:NdAt w N a1 a2 a3) (x:Obj):NdAt (w.alloc x) N a1 a2 a3:=⟨h.i.alloc x,h.t.alloc x,h.k.alloc x⟩
structure OwnNd (w:World) (B:Nat) (N:Nd) (v1 v2 v3:Value):Prop where
 i:w.ownsRow B 2 1 v1 N.ints.length (iV N.ints)
 t:w.ownsRow B 9 1 v2 N.texts.length (tV N.texts)
 k:w.ownsRow B 3 1 v3 N.kids.length (iV N.kids)
section
variable {w w':World} {B:Nat} {N:Nd} {v1 v2 v3:Value}
theorem OwnNd.belowB (h:OwnNd w B N v1 v2 v3) (hb:Below w.heap.size w w'):OwnNd w' B N v1 v2 v3:=⟨own_below h.i hb (Nat.le_refl _),own_below h.t hb (Nat.le_refl _),own_below h.k hb (Nat.le_refl _)⟩
theorem OwnNd.alloc (h:OwnNd w B N v1 v2 v3) (x:Obj):OwnNd (w.alloc x) B N v1 v2 v3:=⟨h.i.alloc x,h.t.alloc x,h.k.alloc x⟩
theorem OwnNd.mono {C:Nat} (h:OwnNd w B N v1 v2 v3) (hc:C≤B):OwnNd w C N v1 v2 v3:=⟨own_mono h.i hc,own_mono h.t hc,own_mono h.k hc⟩
theorem OwnNd.kept {row:Option Nat} (h:OwnNd w B N v1 v2 v3) (hg:w.grownBy w' row) (hr:∀k,row=some k→k<B):OwnNd w' B N v1 v2 v3:=by
 have key:∀{e n v xs},w.ownsRow B e 1 v n xs→w'.ownsRow B e 1 v n xs:=fun {e n v xs} ho=>by
  refine ho.kept hg ?_
  cases hv:v.ownBlock with
  | none=>exact .inl rfl
  | some q=>exact .inr (fun e=>by have:=(ho.lt q hv).1;have:=hr q e.symm;omega)
 exact ⟨key h.i,key h.t,key h.k⟩
theorem OwnNd.set (h:OwnNd w B N v1 v2 v3) (p:Addr) (hp:p.block<B) (x:Value):OwnNd (w.setCell p x) B N v1 v2 v3:=
 have key:∀{e n v xs},w.ownsRow B e 1 v n xs→(w.setCell p x).ownsRow B e 1 v n xs:=fun {e n v xs} ho=>own_set ho p (fun r hr=>by have:=(ho.lt r hr).1;omega) x
 ⟨key h.i,key h.t,key h.k⟩
theorem OwnNd.ndAt {a1 a2 a3:Option Addr} {c1 c2 c3:Nat} (h:OwnNd w B N (.slice a1 N.ints.length c1) (.slice a2 N.texts.length c2) (.slice a3 N.kids.length c3)):NdAt w N a1 a2 a3:=⟨LsAt.of_own h.i,LsAt.of_own h.t,LsAt.of_own h.k⟩
end
theorem at_set4 {T:TypeId} {W:World} {g:Nat} {x0 x1 x2 x3:Value} (h:AtN T W g #[x0,x1,x2,x3]) (v0 v1 v2 v3:Value):AtN T ((((W.setCell ⟨g,0,none⟩ v0).setCell ⟨g,1,none⟩ v1).setCell ⟨g,2,none⟩ v2).setCell ⟨g,3,none⟩ v3) g #[v0,v1,v2,v3]:=by
 simpa using (((h.set 0 v0).set 1 v1).set 2 v2).set 3 v3
theorem grown_set {W W':World} {g:Nat} (h:W.grownBy W' (some g)) (o:Nat) (v:Value):W.grownBy (W'.setCell ⟨g,o,none⟩ v) (some g):=
 h.trans ⟨rfl,rfl,rfl,by simp [World.setCell],fun i _ hn=>Below.heap_setCell _ _ _ _ (fun e=>hn (by rw [e]))⟩
theorem grown_refl (W:World) (row:Option Nat):W.grownBy W row:=⟨rfl,rfl,rfl,Nat.le_refl _,fun _ _ _=>rfl⟩
theorem eq_text (N p:ByteArray):(N.toList==p.toList)=decide (N=p):=by
 rw [ByteArray.toList_eq,ByteArray.toList_eq,Bool.eq_iff_iff]
 simp only [beq_iff_eq,decide_eq_true_eq]
 constructor
 ·intro h
  cases N;cases p
  simp at h
  rw [h]
 ·rintro rfl;rfl
theorem Tryz.infoN8:(Tryz.prog.info? 2).map (fun i=>(i.zero,i.size,i.bytes))=some (some (.int .i64 0),1,8):=by kernel_rfl
theorem Tryz.infoS8:(Tryz.prog.info? 9).map (fun i=>(i.zero,i.size,i.bytes))=some (some (.string ⟨#[]⟩),1,16):=by kernel_rfl
end Go.Proofs.YtgoffkfpdigeeaaGreatDoor
namespace Go.Proofs.YtgoffkfpdigeeaaGreatDoor
open Go.RowKit
end Go.Proofs.YtgoffkfpdigeeaaGreatDoor
namespace Go.Proofs.YtgoffkfpdigeeaaGreatDoor
open Go.RowKit
def great (N:Nd):Bool:=decide (100<N.ints.length) || (decide (100<N.texts.length) || (decide (300<N.kids.length) || N.texts.any (fun s=>decide (500<s.size))))
def big (N:Nd):Bool:=decide (100<N.ints.length) || (decide (100<N.texts.length) || (decide (3000<N.kids.length) || N.texts.any (fun s=>decide (3000<s.size))))
theorem big_no {N:Nd} (h:big N=false):N.ints.length≤100∧N.texts.length≤100∧N.kids.length≤3000∧∀s ∈ N.texts,s.size≤3000:=by
 simp only [big,Bool.or_eq_false_iff,decide_eq_false_iff_not,List.any_eq_false,decide_eq_true_eq] at h
 exact ⟨by omega,by omega,by omega,fun s hs=>by have:=h.2.2.2 s hs;omega⟩
end Go.Proofs.YtgoffkfpdigeeaaGreatDoor
namespace Go.Proofs.YtgoffkfpdigeeaaGreatDoor
open Go.RowKit Go.Maps Go.WideMaps
structure Fr (S:Nat→Prop) (w w':World):Prop where
 os:w'.os=w.os
 tape:w'.tape=w.tape
 output:w'.output=w.output
 size:w.heap.size≤w'.heap.size
 block:∀k,k<w.heap.size→¬S k→w'.heap[k]? = w.heap[k]?
theorem Fr.refl (S:Nat→Prop) (w:World):Fr S w w:=⟨rfl,rfl,rfl,Nat.le_refl _,fun _ _ _=>rfl⟩
theorem Fr.trans {S S':Nat→Prop} {a b c:World} (h:Fr S a b) (k:Fr S' b c) (hs:∀i,S' i→i<a.heap.size→S i):Fr S a c:=
 ⟨k.os.trans h.os,k.tape.trans h.tape,k.output.trans h.output,Nat.le_trans h.size k.size,fun i hi hn=>(k.block i (Nat.lt_of_lt_of_le hi h.size) (fun q=>hn (hs i q hi))).trans (h.block i hi hn)⟩
theorem Fr.of_grown {S:Nat→Prop} {a b:World} {row:Option Nat} (h:a.grownBy b row) (hs:∀k,row=some k→S k):Fr S a b:=
 ⟨h.os,h.tape,h.output,h.size,fun i hi hn=>h.block i hi (fun e=>hn (hs i e.symm))⟩
theorem Fr.of_below {S:Nat→Prop} {a b:World} (h:Below a.heap.size a b):Fr S a b:=⟨h.os,h.tape,h.output,h.size,fun i hi _=>h.block i hi⟩
theorem Fr.set {S:Nat→Prop} {a b:World} (h:Fr S a b) (p:Addr) (hp:S p.block) (v:Value):Fr S a (b.setCell p v):=
 h.trans (S':=fun i=>i=p.block) ⟨rfl,rfl,rfl,by simp [World.setCell],fun i _ hn=>Below.heap_setCell _ _ _ _ (fun e=>hn e)⟩ (fun i e _=>by rw [e];exact hp)
theorem Fr.alloc {S:Nat→Prop} {a b:World} (h:Fr S a b) (o:Obj):Fr S a (b.alloc o):=h.trans (S':=fun _=>False) (Fr.of_below ((Below.refl b.heap.size b).alloc (Nat.le_refl _) o)) (fun _ q _=>q.elim)
theorem Fr.drewN {S:Nat→Prop} {a b:World} (h:Fr S a b) (n:Nat):Fr S a (b.drewN n):=⟨h.os,h.tape,h.output,h.size,h.block⟩
theorem Fr.drew {S:Nat→Prop} {a b:World} (h:Fr S a b):Fr S a b.drew:=⟨h.os,h.tape,h.output,h.size,h.block⟩
theorem Fr.mono {S S':Nat→Prop} {a b:World} (h:Fr S a b) (hs:∀i,i<a.heap.size→S i→S' i):Fr S' a b:=⟨h.os,h.tape,h.output,h.size,fun i hi hn=>h.block i hi (fun q=>hn (hs i hi q))⟩
theorem Fr.below {S:Nat→Prop} {a b c:World} {B:Nat} (h:Below B a b) (k:Fr S b c) (hs:∀i,S i→B≤i) (hB:B≤b.heap.size):Below B a c:=
 ⟨k.os.trans h.os,k.tape.trans h.tape,k.output.trans h.output,Nat.le_trans h.size k.size,fun i hi=>(k.block i (Nat.lt_of_lt_of_le hi hB) (fun q=>by have:=hs i q;omega)).trans (h.block i hi)⟩
theorem own_fr {S:Nat→Prop} {w w':World} {B:Nat} {e:TypeId} {size:Nat} {v:Value} {n:Nat} {xs:List Value} (h:w.ownsRow B e size v n xs) (k:Fr S w w') (hb:∀r,v.ownBlock=some r→¬S r):w'.ownsRow B e size v n xs:=by
 refine ⟨h.1,?_⟩
 rcases h.2 with hv|⟨g,cap,cur,rfl,h1,h2,h3⟩
 ·exact .inl hv
 ·exact .inr ⟨g,cap,cur,rfl,h1,(k.block g (Array.getElem?_eq_some_iff.1 h2).1 (hb g rfl)).trans h2,h3⟩
theorem map_fr {S:Nat→Prop} {w w':World} {P:Program} {k:TypeId} {R:Value→Option (DataW Unit × List MemPlace)} {b n:Nat} {D:DataW Unit} (h:w.ownsMap P k R b n D) (q:Fr S w w') (hb:¬S b):w'.ownsMap P k R b n D:=by
 have hlt:=h.lt
 obtain ⟨es,clock,h1,h2⟩:=h
 exact ⟨es,clock,(q.block b hlt hb).trans h1,h2⟩
theorem AtN.fr {S:Nat→Prop} {T:TypeId} {w w':World} {g:Nat} {cs:Array Value} (h:AtN T w g cs) (k:Fr S w w') (hb:¬S g):AtN T w' g cs:=by
 unfold AtN
 rw [k.block g h.lt hb]
 exact h
def LsQ (Q:Nat→Prop) (w:World) (a:Option Addr) (cs:List Value):Prop:=∃b o,(0<cs.length→a=some ⟨b,o,none⟩)∧∀i,i<cs.length→(Q b∧b<w.heap.size)∧w.cell? ⟨b,o+i,none⟩=cs[i]?
section
variable {Q Q' S:Nat→Prop} {w w':World} {a:Option Addr} {cs:List Value}
theorem LsQ.fr (h:LsQ Q w a cs) (k:Fr S w w') (hs:∀b,Q b→b<w.heap.size→¬S b):LsQ Q w' a cs:=by
 obtain ⟨b,o,h1,h2⟩:=h
 refine ⟨b,o,h1,fun i hi=>?_⟩
 obtain ⟨⟨h3,h4⟩,h5⟩:=h2 i hi
 exact ⟨⟨h3,Nat.lt_of_lt_of_le h4 k.size⟩,(World.cell?_of_block (k.block b h4 (hs b h3 h4))).trans h5⟩
theorem LsQ.below (h:LsQ Q w a cs) (hb:Below w.heap.size w w'):LsQ Q w' a cs:=h.fr (Fr.of_below (S:=fun _=>False) hb) (fun _ _ _ q=>q)
theorem LsQ.mono (h:LsQ Q w a cs) (hs:∀b,Q b→b<w.heap.size→Q' b):LsQ Q' w a cs:=by
 obtain ⟨b,o,h1,h2⟩:=h
 exact ⟨b,o,h1,fun i hi=>⟨⟨hs b (h2 i hi).1.1 (h2 i hi).1.2,(h2 i hi).1.2⟩,(h2 i hi).2⟩⟩
theorem LsQ.at (h:LsQ Q w a cs) {i:Nat} {v:Value} (hi:cs[i]? = some v):∃b o,a=some ⟨b,o,none⟩∧b<w.heap.size∧w.cell? ⟨b,o+i,none⟩=some v:=by
 obtain ⟨b,o,h1,h2⟩:=h
 have hl:i<cs.length:=(List.getElem?_eq_some_iff.1 hi).1
 exact ⟨b,o,h1 (by omega),(h2 i hl).1.2,(h2 i hl).2.trans hi⟩
theorem LsAt.toQ (h:LsAt w a cs):LsQ (fun b=>b<w.heap.size) w a cs:=by
 obtain ⟨b,o,h1,h2⟩:=h
 exact ⟨b,o,h1,fun i hi=>⟨⟨(h2 i hi).1,(h2 i hi).1⟩,(h2 i hi).2⟩⟩
theorem LsQ.toAt (h:LsQ Q w a cs):LsAt w a cs:=by
 obtain ⟨b,o,h1,h2⟩:=h
 exact ⟨b,o,h1,fun i hi=>⟨(h2 i hi).1.2,(h2 i hi).2⟩⟩
theorem LsQ.of_own {B:Nat} {e:TypeId} {n cap:Nat} (h:w.ownsRow B e 1 (.slice a n cap) n cs):LsQ (fun b=>(Value.slice a n cap).ownBlock=some b) w a cs:=by
 have hl:=h.1
 rcases h.2 with ⟨h1,h2⟩|⟨g,cap',cur,h1,_,h3,_⟩
 ·subst h2
  have:cs=[]:=List.length_eq_zero_iff.1 (by simpa using hl)
  subst this
  exact ⟨0,0,fun h=>by simp at h,fun i hi=>by simp at hi⟩
 ·simp only [Value.slice.injEq] at h1
  obtain ⟨rfl,-,rfl⟩:=h1
  refine ⟨g,0,fun _=>rfl,fun i hi=>⟨⟨rfl,(Array.getElem?_eq_some_iff.1 h3).1⟩,?_⟩⟩
  rw [Nat.zero_add]
  exact World.ownsRow.cellAt h i (by omega)
end
def nV (l:List Nat):List Value:=l.map fun (k:Nat)=>Value.int .i64 (k:Int)
theorem nV_length (l:List Nat):(nV l).length=l.length:=by simp [nV]
theorem nV_snoc (l:List Nat) (k:Nat):nV (l++[k])=nV l++[.int .i64 (k:Int)]:=by simp [nV]
theorem nV_at (l:List Nat) (i:Nat) (h:i<l.length):(nV l)[i]? = some (.int .i64 ((l.getD i 0:Nat):Int)):=by simp [nV,h]
theorem iV_at (l:List Int) (i:Nat) (h:i<l.length):(iV l)[i]? = some (.int .i64 (l.getD i 0)):=by simp [iV,h]
structure Ln where
 ks:List Nat
 a:Option Addr
 c:Nat
def noLn:Ln:=⟨[],none,0⟩
def lnV (L:List Ln):List Value:=L.map fun x=>Value.slice x.a x.ks.length x.c
def kOf (L:List Ln):List (List Nat):=L.map Ln.ks
theorem lnV_length (L:List Ln):(lnV L).length=L.length:=by simp [lnV]
theorem kOf_length (L:List Ln):(kOf L).length=L.length:=by simp [kOf]
theorem lnV_at (L:List Ln) (i:Nat) (h:i<L.length):(lnV L)[i]? = some (.slice (L.getD i noLn).a (L.getD i noLn).ks.length (L.getD i noLn).c):=by simp [lnV,h]
theorem kOf_at (L:List Ln) (i:Nat):(kOf L).getD i []=(L.getD i noLn).ks:=by
 by_cases h:i<L.length
 ·simp [kOf,h]
 ·simp [kOf,List.getD_eq_getElem?_getD,List.getElem?_eq_none (Nat.le_of_not_lt h),noLn]
structure LkQ (Q:Nat→Prop) (w:World) (a:Option Addr) (L:List Ln):Prop where
 top:LsQ Q w a (lnV L)
 each:∀i,i<L.length→LsQ Q w (L.getD i noLn).a (nV (L.getD i noLn).ks)
section
variable {Q Q' S:Nat→Prop} {w w':World} {a:Option Addr} {L:List Ln}
theorem LkQ.fr (h:LkQ Q w a L) (k:Fr S w w') (hs:∀b,Q b→b<w.heap.size→¬S b):LkQ Q w' a L:=⟨h.top.fr k hs,fun i hi=>(h.each i hi).fr k hs⟩
theorem LkQ.below (h:LkQ Q w a L) (hb:Below w.heap.size w w'):LkQ Q w' a L:=⟨h.top.below hb,fun i hi=>(h.each i hi).below hb⟩
theorem LkQ.mono (h:LkQ Q w a L) (hs:∀b,Q b→b<w.heap.size→Q' b):LkQ Q' w a L:=⟨h.top.mono hs,fun i hi=>(h.each i hi).mono hs⟩
theorem LkQ.now (h:LkQ Q w a L):LkQ (fun b=>b<w.heap.size) w a L:=h.mono fun _ _ q=>q
end
structure Nx where
 nd:Nd
 a1:Option Addr
 c1:Nat
 a2:Option Addr
 c2:Nat
 a3:Option Addr
 c3:Nat
def noNx:Nx:=⟨⟨0,[],[],[]⟩,none,0,none,0,none,0⟩
def nxC (x:Nx):List Value:=[.int .i64 x.nd.kind,.slice x.a1 x.nd.ints.length x.c1,.slice x.a2 x.nd.texts.length x.c2,.slice x.a3 x.nd.kids.length x.c3]
def nxV (X:List Nx):List Value:=X.flatMap nxC
theorem nxV_length (X:List Nx):(nxV X).length=X.length*4:=by
 induction X with
 | nil=>rfl
 | cons x r ih=>simp only [nxV,List.flatMap_cons,List.length_append,List.length_cons] at ih ⊢;rw [ih];simp [nxC];omega
theorem nxV_snoc (X:List Nx) (x:Nx):nxV (X++[x])=nxV X++nxC x:=by simp [nxV]
theorem nxV_at:∀(X:List Nx) (i j:Nat),i<X.length→j<4→(nxV X)[i*4+j]? = (nxC (X.getD i noNx))[j]?
 | x :: r,0,j,_,hj=>by
  simp only [nxV,List.flatMap_cons,Nat.zero_mul,Nat.zero_add,List.getD_cons_zero]
  rw [List.getElem?_append_left (by simpa [nxC] using hj)]
 | x :: r,i+1,j,h,hj=>by
  have:=nxV_at r i j (by simpa using h) hj
  simp only [nxV,List.flatMap_cons,List.getD_cons_succ] at this ⊢
  rw [List.getElem?_append_right (by simp [nxC];omega),show (i+1)*4+j-(nxC x).length=i*4+j by simp [nxC];omega]
  exact this
structure ScAt (w:World) (a:Option Addr) (X:List Nx):Prop where
 top:LsAt w a (nxV X)
 each:∀i,i<X.length→NdAt w (X.getD i noNx).nd (X.getD i noNx).a1 (X.getD i noNx).a2 (X.getD i noNx).a3
theorem ScAt.belowB {w w':World} {a:Option Addr} {X:List Nx} (h:ScAt w a X) (hb:Below w.heap.size w w'):ScAt w' a X:=⟨h.top.belowB hb,fun i hi=>(h.each i hi).belowB hb⟩
theorem ScAt.alloc {w:World} {a:Option Addr} {X:List Nx} (h:ScAt w a X) (o:Obj):ScAt (w.alloc o) a X:=h.belowB ((Below.refl w.heap.size w).alloc (Nat.le_refl _) o)
theorem ScAt.node {w:World} {a:Option Addr} {X:List Nx} (h:ScAt w a X) {i:Nat} (hi:i<X.length):∃b o,a=some ⟨b,o,none⟩∧b<w.heap.size∧w.cell? ⟨b,o+i*4,none⟩=some (.int .i64 (X.getD i noNx).nd.kind)∧
  w.cell? ⟨b,o+i*4+1,none⟩=some (.slice (X.getD i noNx).a1 (X.getD i noNx).nd.ints.length (X.getD i noNx).c1)∧w.cell? ⟨b,o+i*4+2,none⟩=some (.slice (X.getD i noNx).a2 (X.getD i noNx).nd.texts.length (X.getD i noNx).c2)∧
  w.cell? ⟨b,o+i*4+3,none⟩=some (.slice (X.getD i noNx).a3 (X.getD i noNx).nd.kids.length (X.getD i noNx).c3):=by
 obtain ⟨b,o,h1,h2⟩:=h.top
 have hl:=nxV_length X
 refine ⟨b,o,h1 (by omega),(h2 (i*4) (by omega)).1,?_,?_,?_,?_⟩
 ·have:=(h2 (i*4+0) (by omega)).2
  rw [nxV_at X i 0 hi (by omega)] at this
  exact this
 ·have:=(h2 (i*4+1) (by omega)).2
  rw [nxV_at X i 1 hi (by omega)] at this
  exact this
 ·have:=(h2 (i*4+2) (by omega)).2
  rw [nxV_at X i 2 hi (by omega)] at this
  exact this
 ·have:=(h2 (i*4+3) (by omega)).2
  rw [nxV_at X i 3 hi (by omega)] at this
  exact this
def kN (k:Int):Lit:=.int .i64 k
def bE (b:Bool):DataW Unit:=.lit (.bool b)
theorem kN_is (k:Int):WideAt.IsKeyLit (kN k):=trivial
theorem lawN9:Keyed Tryz.prog 3:=int_keyed Tryz.underlying3
theorem zeroB9 (w:World):(zeroValue 4).run Tryz.prog w=.ok (.bool false) w:=by kernel_rfl
def inR (k:Int):Prop:=-9223372036854775808≤k∧k≤9223372036854775807
theorem kN_key (k:Int) (h:inR k):keyOf Tryz.prog 3 (.int .i64 k)=some (kN k):=keyOf_int_mk Tryz.underlying3 (WalkArith.wf_i64 h)
theorem inR_nat {k:Nat} (h:k<1000000000000):inR (k:Int):=⟨by omega,by omega⟩
def Met (w:World) (g n:Nat) (M:List Nat):Prop:=∃D:DataW Unit,w.ownsMap Tryz.prog 3 (plainElem Tryz.prog 4) g n D∧∀k:Nat,k<1000000000000→D.atKey (kN k) (bE false)=bE (decide (k ∈ M))
section
variable {S:Nat→Prop} {w w':World} {g n:Nat} {M:List Nat}
theorem Met.lt (h:Met w g n M):g<w.heap.size:=by obtain ⟨D,h1,_⟩:=h;exact h1.lt
theorem Met.fr (h:Met w g n M) (k:Fr S w w') (hn:¬S g):Met w' g n M:=by
 obtain ⟨D,h1,h2⟩:=h
 exact ⟨D,map_fr h1 k hn,h2⟩
theorem Met.below (h:Met w g n M) (k:Below w.heap.size w w'):Met w' g n M:=h.fr (Fr.of_below (S:=fun _=>False) k) id
theorem Met.drewN (h:Met w g n M) (q:Nat):Met (w.drewN q) g n M:=by
 obtain ⟨D,h1,h2⟩:=h
 exact ⟨D,h1,h2⟩
theorem Met.made (w:World):Met (w.alloc (.map #[] 0)) w.heap.size 0 []:=⟨_,World.ownsMap_made w Tryz.prog 3 (plainElem (H:=Unit) Tryz.prog 4),fun _ _=>rfl⟩
theorem Met.iff {M':List Nat} (h:Met w g n M) (hm:∀x,x ∈ M↔x ∈ M'):Met w g n M':=by
 obtain ⟨D,h1,h2⟩:=h
 refine ⟨D,h1,fun k hk=>?_⟩
 rw [h2 k hk]
 congr 1
 exact decide_eq_decide.2 (hm k)
theorem plainElem_bool_inv {e:TypeId} (he:Tryz.prog.underlying e=some .bool) {v:Value} {z:DataW Unit × List MemPlace} (h:plainElem Tryz.prog e v=some z):∃b,v=.bool b∧z=(.lit (.bool b),[]):=by
 unfold plainElem at h
 rw [he] at h
 cases v <;> simp at h
 exact ⟨_,rfl,h.symm⟩
theorem Met.look (h:Met w g n M) (k:Nat) (hk:k<1000000000000):(Instr.lookup 190 (.map (some g)) (.int .i64 (k:Int)) false).run Tryz.prog w=.ok (.bool (decide (k ∈ M))) w:=by
 obtain ⟨D,h1,h2⟩:=h
 obtain ⟨v,ps,hr,hv⟩:=h1.lookup lawN9 Tryz.underlying190 (zeroB9 w) (plainElem_bool Tryz.underlying4 false) (kN_key k (inR_nat hk))
 obtain ⟨b,rfl,hb⟩:=plainElem_bool_inv Tryz.underlying4 hv
 have:=h2 k hk
 simp only [bE] at this
 rw [this] at hb
 simp only [Prod.mk.injEq,DataW.lit.injEq,Lit.bool.injEq] at hb
 rw [hr,hb.1]
theorem Met.put (h:Met w g n M) (k:Nat) (hk:k<1000000000000) (hn:n<maxLen):∃w',(Instr.mapUpdate 190 (.map (some g)) (.int .i64 (k:Int)) (.bool true)).run Tryz.prog w=.ok () w'∧Met w' g (n+1) (M++[k])∧w.grownBy w' (some g):=by
 obtain ⟨D,h1,h2⟩:=h
 have hm:=h1.isMap
 obtain ⟨w',hr,h3,h4⟩:=h1.update lawN9 Tryz.underlying190 hn (kN_key k (inR_nat hk)) (plainElem_bool Tryz.underlying4 true)
 refine ⟨w',hr,⟨_,h3,fun j hj=>?_⟩,h4⟩
 by_cases e:j=k
 ·subst e
  rw [atKey_put_same hm (kN_is j)]
  simp [bE]
 ·rw [atKey_put_other (by simp only [kN,ne_eq,Lit.int.injEq,true_and];omega),h2 j hj]
  simp [e]
end
end Go.Proofs.YtgoffkfpdigeeaaGreatDoor
