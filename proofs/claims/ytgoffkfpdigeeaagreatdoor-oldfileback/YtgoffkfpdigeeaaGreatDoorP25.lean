import Derived.Test.YtgoffkfpdigeeaaGreatDoorP19
import Derived.Test.YtgoffkfpdigeeaaGreatDoorP02
namespace Go.Proofs.YtgoffkfpdigeeaaGreatDoor
open Go.RowKit Go.Maps Go.WideMaps Go.Sort
theorem Tryz.infoD9:(Tryz.prog.info? 51).map (fun i=>(i.zero,i.size,i.bytes))=some (some (.agg #[.int .i64 0,.slice none 0 0,.slice none 0 0,.slice none 0 0]),4,80):=by kernel_rfl
def OwnNx (w:World) (B:Nat) (y:Nx):Prop:=OwnNd w B y.nd (.slice y.a1 y.nd.ints.length y.c1) (.slice y.a2 y.nd.texts.length y.c2) (.slice y.a3 y.nd.kids.length y.c3)
def Alien (w:World) (S:Nat→Prop):Prop:=∀b,S b→b<w.heap.size→∃cs T fr,w.heap[b]? = some (.cells cs T fr)∧T≠2∧T≠9∧T≠3
theorem OwnNx.fr {w w':World} {B:Nat} {y:Nx} {S:Nat→Prop} (h:OwnNx w B y) (k:Fr S w w') (hS:Alien w S):OwnNx w' B y:=by
 have key:∀{e n v xs},w.ownsRow B e 1 v n xs→(e=2∨e=9∨e=3)→w'.ownsRow B e 1 v n xs:=fun {e n v xs} ho he=>own_fr ho k (fun r hr hs=>by
  obtain ⟨cs,T,fr,h1,h2,h3,h4⟩:=hS r hs (ho.lt r hr).2
  rcases ho.2 with ⟨q,_⟩|⟨g,cap,cur,q,_,h5,_⟩
  ·rw [q] at hr;cases hr
  ·rw [q] at hr
   simp only [Value.ownBlock,Option.some.injEq] at hr
   subst hr
   rw [h1] at h5
   cases h5
   rcases he with rfl|rfl|rfl
   ·exact h2 rfl
   ·exact h3 rfl
   ·exact h4 rfl)
 exact ⟨key h.i (.inl rfl),key h.t (.inr (.inl rfl)),key h.k (.inr (.inr rfl))⟩
theorem OwnNx.mono {w:World} {B C:Nat} {y:Nx} (h:OwnNx w B y) (hc:C≤B):OwnNx w C y:=OwnNd.mono h hc
theorem OwnNx.ndAt {w:World} {B:Nat} {y:Nx} (h:OwnNx w B y):NdAt w y.nd y.a1 y.a2 y.a3:=OwnNd.ndAt h
theorem LsAt.of_own4' {w:World} {B:Nat} {a:Option Addr} {e:TypeId} {n cap:Nat} {cs:List Value} (h:w.ownsRow B e 4 (.slice a n cap) n cs):LsAt w a cs:=by
 have hl:=h.1
 rcases h.2 with ⟨h1,h2⟩|⟨g,cap',cur,h1,_,h3,_⟩
 ·subst h2
  have:cs=[]:=List.length_eq_zero_iff.1 (by simpa using hl)
  subst this
  exact LsAt.nil _ _
 ·simp only [Value.slice.injEq] at h1
  obtain ⟨rfl,-,rfl⟩:=h1
  refine ⟨g,0,fun _=>rfl,fun i hi=>⟨(Array.getElem?_eq_some_iff.1 h3).1,?_⟩⟩
  rw [Nat.zero_add]
  exact World.ownsRow.cellAt h i (by omega)
theorem own_shape4 {w:World} {B:Nat} {e:TypeId} {n:Nat} {v:Value} {xs:List Value} (h:w.ownsRow B e 4 v n xs):∃a cap,v=.slice a n cap:=by
 rcases h.2 with ⟨rfl,h2⟩|⟨g,cap,cur,rfl,_⟩
 ·exact ⟨none,0,by rw [h2]⟩
 ·exact ⟨_,_,rfl⟩
structure Mkg (w:World) (B go:Nat) (r:Int) (v:Value) (Y:List Nx):Prop where
 sc:AtN 24 w go #[v,.int .i64 r]
 row:w.ownsRow B 51 4 v Y.length (nxV Y)
 each:∀j,j<Y.length→OwnNx w B (Y.getD j noNx)
def MkS (go:Nat) (v:Value) (b:Nat):Prop:=v.ownBlock=some b∨b=go
theorem Mkg.alien {w:World} {B go:Nat} {r:Int} {v:Value} {Y:List Nx} (h:Mkg w B go r v Y):Alien w (MkS go v):=by
 rintro b (hb|rfl) hlt
 ·rcases h.row.2 with ⟨q,_⟩|⟨g,cap,cur,q,_,h5,_⟩
  ·rw [q] at hb;cases hb
  ·rw [q] at hb
   simp only [Value.ownBlock,Option.some.injEq] at hb
   subst hb
   exact ⟨_,_,_,h5,by decide,by decide,by decide⟩
 ·exact ⟨_,_,_,h.sc,by decide,by decide,by decide⟩
theorem Mkg.ne {w:World} {B go:Nat} {r:Int} {v:Value} {Y:List Nx} (h:Mkg w B go r v Y):v.ownBlock≠some go:=fun q=>own_ne_at h.row h.sc (by decide) go q rfl
theorem Mkg.below {w w':World} {B go:Nat} {r:Int} {v:Value} {Y:List Nx} (h:Mkg w B go r v Y) (hb:Below w.heap.size w w'):Mkg w' B go r v Y:=
 ⟨AtN.belowAll h.sc hb,own_below h.row hb (Nat.le_refl _),fun j hj=>(h.each j hj).fr (Fr.of_below (S:=fun _=>False) hb) (fun _ q=>q.elim)⟩
theorem Mkg.scAt {w:World} {B go:Nat} {r:Int} {a:Option Addr} {c:Nat} {Y:List Nx} (h:Mkg w B go r (.slice a Y.length c) Y):ScAt w a Y:=⟨LsAt.of_own4' h.row,fun i hi=>(h.each i hi).ndAt⟩
theorem Mkg.next {w0 W:World} {B go:Nat} {r:Int} {v v':Value} {Y:List Nx} {y:Nx} (h:Mkg w0 B go r v Y) (hf:Fr (MkS go v) w0 W) (h1:AtN 24 W go #[v',.int .i64 r]) (h2:W.ownsRow B 51 4 v' (Y.length+1) (nxV Y++nxC y)) (h3:OwnNx W B y):Mkg W B go r v' (Y++[y]):=by
 refine ⟨h1,by rw [nxV_snoc,List.length_append];exact h2,fun j hj=>?_⟩
 by_cases hlt:j<Y.length
 ·rw [show (Y++[y]).getD j noNx=Y.getD j noNx by rw [List.getD_eq_getElem?_getD,List.getElem?_append_left hlt,← List.getD_eq_getElem?_getD]]
  exact (h.each j hlt).fr hf h.alien
 ·obtain rfl:j=Y.length:=by simp at hj;omega
  rw [show (Y++[y]).getD Y.length noNx=y by simp]
  exact h3
def cpF (a:Option Addr) (n c i b o bx go B B0:Nat) (r:Int) (v:Value) (Y:List Nx) (x:Nx):Nat→(Option Tmp→Value)→World→Prop
 | 0,V,_=>V (some 15)=.pointer (some ⟨go,0,none⟩)
 | 1,V,_=>V (some 16)=v
 | 2,V,_=>V (some 17)=.pointer (some ⟨bx,0,none⟩)
 | 3,V,_=>V (some 18)=.slice a n c
 | 4,V,_=>V (some 19)=.int .i64 (i:Int)
 | 5,V,_=>V (some 20)=.pointer (some ⟨b,o+i*4,none⟩)
 | 6,V,_=>V (some 21)=.agg (nxC x).toArray
 | 7,V,W=>∃y:Nx,y.nd=x.nd∧V (some 22)=.agg (nxC y).toArray∧OwnNx W B0 y
 | 8,V,W=>∃(y:Nx) (g8:Nat),y.nd=x.nd∧V (some 23)=.slice (some ⟨g8,0,none⟩) 1 1∧B0≤g8∧AtN 51 W g8 (nxC y).toArray∧OwnNx W B0 y
 | 9,V,W=>∃y:Nx,y.nd=x.nd∧W.ownsRow B 51 4 (V (some 24)) (Y.length+1) (nxV Y++nxC y)∧(V (some 24)).ownBlock≠some go∧OwnNx W B0 y
 | 10,V,_=>V (some 25)=.pointer (some ⟨go,0,none⟩)
 | 11,_,W=>∃(v':Value) (y:Nx),y.nd=x.nd∧AtN 24 W go #[v',.int .i64 r]∧W.ownsRow B 51 4 v' (Y.length+1) (nxV Y++nxC y)∧OwnNx W B0 y
 | _,_,_=>True
def cpR (go:Nat) (v:Value) (i:Nat) (w w':World):Prop:=w.grownBy w' (if i=9 then v.ownBlock else if i=11 then some go else none)
def cpC (j:Nat):Nat:=if j=8 then 9 else 1000
def cpD (i j:Nat):Bool:=(i==11 && j==8) || (i==9 && j==11)
def cpI (q:Nat):Nat:=if q=0 then 9 else 11
def cpFI (B go:Nat) (r:Int) (v:Value) (Y:List Nx):Nat→World→Prop
 | 0,W=>W.ownsRow B 51 4 v Y.length (nxV Y)
 | _,W=>AtN 24 W go #[v,.int .i64 r]
theorem OwnNx.kept {w w':World} {B:Nat} {y:Nx} {row:Option Nat} (h:OwnNx w B y) (hg:w.grownBy w' row) (hr:∀k,row=some k→k<B):OwnNx w' B y:=OwnNd.kept h hg hr
theorem cpF_stab (a:Option Addr) (n c q b o bx go B B0:Nat) (r:Int) (v:Value) (Y:List Nx) (x:Nx) (hv:∀k,v.ownBlock=some k→k<B0) (hgo:go<B0):∀i j V w w',i≠j→cpC j≠i→cpD i j=false→cpR go v i w w'→cpF a n c q b o bx go B B0 r v Y x j V w→cpF a n c q b o bx go B B0 r v Y x j V w':=by
 intro i j V w w' hne hc hd hR h
 unfold cpR at hR
 have hrow:∀k,(if i=9 then v.ownBlock else if i=11 then some go else none)=some k→k<B0:=fun k hk=>by
  by_cases h9:i=9
  ·rw [if_pos h9] at hk;exact hv k hk
  ·rw [if_neg h9] at hk
   by_cases h11:i=11
   ·rw [if_pos h11] at hk;cases hk;exact hgo
   ·rw [if_neg h11] at hk;cases hk
 match j,h with
 | 0,h|1,h|2,h|3,h|4,h|5,h|6,h|10,h=>exact h
 | 7,h=>
  obtain ⟨y,h1,h2,h3⟩:=h
  exact ⟨y,h1,h2,h3.kept hR hrow⟩
 | 8,h=>
  obtain ⟨y,g8,h1,h2,h3,h4,h5⟩:=h
  exact ⟨y,g8,h1,h2,h3,h4.kept hR (fun e=>by have:=hrow g8 e.symm;omega),h5.kept hR hrow⟩
 | 9,h=>
  obtain ⟨y,h1,h2,h3,h4⟩:=h
  refine ⟨y,h1,?_,h3,h4.kept hR hrow⟩
  rw [if_neg hne] at hR
  by_cases h11:i=11
  ·rw [if_pos h11] at hR
   exact h2.kept hR (.inr h3)
  ·rw [if_neg h11] at hR
   exact own_below h2 (below_of_grown hR) (Nat.le_refl _)
 | 11,h=>
  obtain ⟨v',y,h1,h2,h3,h4⟩:=h
  by_cases h9:i=9
  ·subst h9;exact absurd hd (by decide)
  ·rw [if_neg h9,if_neg hne] at hR
   exact ⟨v',y,h1,h2.kept hR (by simp),own_below h3 (below_of_grown hR) (Nat.le_refl _),h4.kept hR (by simp)⟩
 | k+12,_=>trivial
end Go.Proofs.YtgoffkfpdigeeaaGreatDoor
namespace Go.Proofs.YtgoffkfpdigeeaaGreatDoor
open Go.RowKit Go.Maps Go.WideMaps Go.Sort
theorem map_nd_take (X Y:List Nx) (y:Nx) (i:Nat) (hi:i<X.length) (h:Y.map Nx.nd=(X.take i).map Nx.nd) (hy:y.nd=(X.getD i noNx).nd):(Y++[y]).map Nx.nd=(X.take (i+1)).map Nx.nd:=by
 rw [List.take_add_one,List.getElem?_eq_getElem hi,List.map_append,List.map_append,h]
 simp [hy,hi]
theorem own_set' {w:World} {B g n:Nat} {e:TypeId} {v:Value} {xs:List Value} (h:w.ownsRow B e 4 v n xs) (hv:v.ownBlock≠some g) (x:Value):(w.setCell ⟨g,0,none⟩ x).ownsRow B e 4 v n xs:=own_set h ⟨g,0,none⟩ (fun r hr e=>hv (by rw [hr];exact congrArg some e)) x
end Go.Proofs.YtgoffkfpdigeeaaGreatDoor
