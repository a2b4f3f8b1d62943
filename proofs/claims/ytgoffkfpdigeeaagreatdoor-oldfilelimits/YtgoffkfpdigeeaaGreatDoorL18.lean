import Derived.Test.YtgoffkfpdigeeaaGreatDoorL16
import Derived.Test.YtgoffkfpdigeeaaGreatDoorL02
namespace Go.Proofs.YtgoffkfpdigeeaaGreatDoor
open Go.RowKit Go.Maps Go.WideMaps Go.Sort
structure LInv (K:List (List Nat)) (f:Nat) (work met:List Nat):Prop where
 m:∀x ∈ met,Lead (Ed K) f x
 k:∀x ∈ work,Lead (Ed K) f x
 a:∀y,Ed K f y→y ∈ met∨y ∈ work
 c:∀x ∈ met,∀y,Ed K x y→y ∈ met∨y ∈ work
 nd:met.Nodup
 lt:∀x ∈ met,x<K.length
section
variable {K:List (List Nat)} {f x:Nat} {work met:List Nat}
theorem LInv.start (K:List (List Nat)) (f:Nat):LInv K f (K.getD f []) []:=⟨by simp,fun x hx=>⟨x,hx,Rt.refl _ _⟩,fun y e=>.inr e,by simp,by simp,by simp⟩
theorem LInv.skip (h:LInv K f (x :: work) met) (hx:x ∈ met):LInv K f work met:=by
 have key:∀y,y ∈ met∨y ∈ x :: work→y ∈ met∨y ∈ work:=fun y q=>by
  rcases q with q|q
  ·exact .inl q
  ·rcases List.mem_cons.1 q with rfl|q
   ·exact .inl hx
   ·exact .inr q
 exact ⟨h.m,fun y hy=>h.k y (List.mem_cons_of_mem _ hy),fun y e=>key y (h.a y e),fun z hz y e=>key y (h.c z hz y e),h.nd,h.lt⟩
theorem LInv.add (h:LInv K f (x :: work) met) (hk:Ok9 K) (hf:f<K.length) (hx:x ∉ met):LInv K f (work++K.getD x []) (met++[x]):=by
 have hl:=h.k x (by simp)
 have key:∀y,y ∈ met∨y ∈ x :: work→y ∈ met++[x]∨y ∈ work++K.getD x []:=fun y q=>by
  rcases q with q|q
  ·exact .inl (List.mem_append_left _ q)
  ·rcases List.mem_cons.1 q with rfl|q
   ·exact .inl (by simp)
   ·exact .inr (List.mem_append_left _ q)
 refine ⟨fun y hy=>?_,fun y hy=>?_,fun y e=>key y (h.a y e),fun z hz y e=>?_,?_,fun y hy=>?_⟩
 ·rcases List.mem_append.1 hy with hy|hy
  ·exact h.m y hy
  ·simp only [List.mem_singleton] at hy;subst hy;exact hl
 ·rcases List.mem_append.1 hy with hy|hy
  ·exact h.k y (List.mem_cons_of_mem _ hy)
  ·exact hl.trans (Rt.one hy)
 ·rcases List.mem_append.1 hz with hz|hz
  ·exact key y (h.c z hz y e)
  ·simp only [List.mem_singleton] at hz
   subst hz
   exact .inr (List.mem_append_right _ e)
 ·rw [List.nodup_append]
  refine ⟨h.nd,by simp,fun p hp q hq e=>?_⟩
  simp only [List.mem_singleton] at hq
  subst e hq
  exact hx hp
 ·rcases List.mem_append.1 hy with hy|hy
  ·exact h.lt y hy
  ·simp only [List.mem_singleton] at hy
   subst hy
   exact Ok9.rt hk hf hl.rt
theorem LInv.fin (h:LInv K f [] met) (y:Nat):y ∈ met↔Lead (Ed K) f y:=by
 refine ⟨h.m y,?_⟩
 rintro ⟨c,e,r⟩
 exact r (fun z=>z ∈ met) ((h.a c e).resolve_right (by simp)) (fun p q hp e=>(h.c p hp q e).resolve_right (by simp))
theorem LInv.len (h:LInv K f work met):met.length≤K.length:=nodup_le _ _ h.nd h.lt
end
def mtV (n:Nat) (met:List Nat):Array Value:=((List.range n).map fun x=>Value.bool (decide (x ∈ met))).toArray
theorem mtV_at (n:Nat) (met:List Nat) (k:Nat) (h:k<n):(mtV n met)[k]? = some (.bool (decide (k ∈ met))):=by simp [mtV,h]
theorem mtV_new (n:Nat):madeCells (Value.bool false).cells (n*1)=mtV n []:=by
 apply Array.ext
 ·simp [size_madeCells,mtV]
 ·intro i h1 h2
  have h0:i % 1=0:=Nat.mod_one i
  simp [madeCells,mtV,Value.cells,h0]
theorem mtV_set (n:Nat) (met:List Nat) (k:Nat):(mtV n met).setIfInBounds k (.bool true)=mtV n (met++[k]):=by
 apply Array.ext
 ·simp [mtV]
 ·intro i h1 h2
  simp only [mtV,Array.size_setIfInBounds,List.size_toArray,List.length_map,List.length_range] at h1
  rw [Array.getElem_setIfInBounds (by simpa [mtV] using h1)]
  by_cases e:k=i
  ·subst e
   simp [mtV]
  ·have e':¬i=k:=fun q=>e q.symm
   rw [if_neg e]
   simp [mtV,e']
theorem Tryz.infoB9:(Tryz.prog.info? 4).map (fun i=>(i.zero,i.size,i.bytes))=some (some (.bool false),1,1):=by kernel_rfl
def ldF (X:List Nx) (aw:Option Addr) (b o c cw x g B:Nat) (wk:List Nat) (N:Nx):Nat→(Option Tmp→Value)→World→Prop
 | 0,V,W=>W.ownsRow B 3 1 (V (some 36)) 0 []∧∃y,V (some 36)=.slice (some ⟨y,0,none⟩) 0 0
 | 1,V,_=>V (some 37)=.slice aw wk.length cw
 | 2,V,W=>W.ownsRow B 3 1 (V (some 38)) wk.length (nV wk)
 | 3,V,_=>V (some 39)=.pointer (some ⟨g,0,none⟩)
 | 4,V,_=>V (some 40)=.slice (some ⟨b,o,none⟩) X.length c
 | 5,V,_=>V (some 41)=.int .i64 (x:Int)
 | 6,V,_=>V (some 42)=.pointer (some ⟨b,o+x*4,none⟩)
 | 7,V,_=>V (some 43)=.pointer (some ⟨b,o+x*4+3,none⟩)
 | 8,V,_=>V (some 44)=.slice N.a3 N.nd.kids.length N.c3
 | 9,V,W=>W.ownsRow B 3 1 (V (some 45)) (wk.length+N.nd.kids.length) (nV wk++iV N.nd.kids)
 | 10,V,W=>W.ownsRow B 3 1 (V (some 6)) (wk.length+N.nd.kids.length) (nV wk++iV N.nd.kids)
 | _,_,_=>True
def ldR (B:Nat) (i:Nat) (w w':World):Prop:=if i=2∨i=9 then Below B w w' else w.grownBy w' none
def ldC (j:Nat):Nat:=if j=0 then 2 else if j=2 then 9 else 1000
def ldD (i j:Nat):Bool:=(i==9 && j==0) || (i==2 && j==9) || (i==2 && j==10) || (i==9 && j==10)
theorem grown_own {w w':World} {B:Nat} {e:TypeId} {n:Nat} {v:Value} {xs:List Value} (hg:w.grownBy w' none) (h:w.ownsRow B e 1 v n xs):w'.ownsRow B e 1 v n xs:=own_below h (below_of_grown hg) (Nat.le_refl _)
theorem ldF_stab (X:List Nx) (aw:Option Addr) (b o c cw x g B:Nat) (wk:List Nat) (N:Nx):∀i j V w w',i≠j→ldC j≠i→ldD i j=false→ldR B i w w'→ldF X aw b o c cw x g B wk N j V w→ldF X aw b o c cw x g B wk N j V w':=by
 intro i j V w w' hne hc hd hR h
 unfold ldR at hR
 by_cases h5:i=2∨i=9
 ·rw [if_pos h5] at hR
  match j,h with
  | 1,h|3,h|4,h|5,h|6,h|7,h|8,h=>exact h
  | 0,_=>
   rcases h5 with rfl|rfl
   ·exact absurd rfl hc
   ·exact absurd hd (by decide)
  | 2,_=>
   rcases h5 with rfl|rfl
   ·exact absurd rfl hne
   ·exact absurd rfl hc
  | 9,_=>
   rcases h5 with rfl|rfl
   ·exact absurd hd (by decide)
   ·exact absurd rfl hne
  | 10,_=>
   rcases h5 with rfl|rfl
   ·exact absurd hd (by decide)
   ·exact absurd hd (by decide)
  | n+11,_=>trivial
 ·rw [if_neg h5] at hR
  match j,h with
  | 1,h|3,h|4,h|5,h|6,h|7,h|8,h=>exact h
  | 0,h=>exact ⟨grown_own hR h.1,h.2⟩
  | 2,h|9,h|10,h=>exact grown_own hR h
  | n+11,_=>trivial
theorem below_app {B:Nat} {w w':World} {row:Option Nat} (hg:w.grownBy w' row) (hr:∀k,row=some k→B≤k) (hB:B≤w.heap.size):Below B w w':=(Below.refl B w).grown hg hB hr
def LedOut (K:List (List Nat)) (f:Nat) (w w':World) (e:Ending):Prop:=
 ∃g met,e=.returned (.slice (some ⟨g,0,none⟩) K.length K.length)∧AtN 4 w' g (mtV K.length met)∧(∀x,x ∈ met↔Lead (Ed K) f x)∧Below w.heap.size w w'
end Go.Proofs.YtgoffkfpdigeeaaGreatDoor
namespace Go.Proofs.YtgoffkfpdigeeaaGreatDoor
open Go.RowKit Go.Maps Go.WideMaps Go.Sort
theorem run_app9 (W:World) {B n:Nat} {v:Value} {xs:List Value} (hown:W.ownsRow B 3 1 v n xs) (a:Option Addr) (m c:Nat) (l:List Value) (hl:l.length=m) (hls:LsAt W a l) (h1:∀u ∈ l,u.oneCell'=true) (hb:n+m≤10000000) (hB:B≤W.heap.size) (ty:TypeId) :
  ∃v' W',(Builtin.append_ #[49,49] ty #[v,.slice a m c]).run Tryz.prog W=.ok v' W'∧W'.ownsRow B 3 1 v' (n+m) (xs++l)∧W.grownBy W' v.ownBlock:=by
 obtain ⟨i0,hi,hz0,hz1,hz2⟩:=info_parts Tryz.infoI7
 cases a with
 | some ad=>
  obtain ⟨v',W',hr,h2,h3,_⟩:=run_append_own (P:=Tryz.prog) W B 49 ty 3 i0 (.int .i64 0) 1 8 Tryz.underlying49 hi hz0 hz1 hz2 rfl (by decide) v n xs hown ad m c l (by omega) hls.news h1 (by unfold maxLen;omega) (by omega) hB
  exact ⟨v',W',hr,h2,h3⟩
 | none=>
  have hm:l=[]:=by
   obtain ⟨b,o,h,_⟩:=hls
   cases l with
   | nil=>rfl
   | cons x r=>exact absurd (h (by simp)) (by simp)
  subst hm
  simp at hl
  subst hl
  refine ⟨v,W,?_,by simpa using hown,grown_refl _ _⟩
  rcases hown.2 with ⟨rfl,rfl⟩|⟨g,cap,cur,rfl,_,_,hnc,_⟩
  ·simp [Builtin.append_,run_underlying Tryz.underlying49,sizeOf,typeInfo,hi,Builtin.lenOf,Builtin.firstCells]
  ·simp [Builtin.append_,run_underlying Tryz.underlying49,sizeOf,typeInfo,hi,Builtin.lenOf,Builtin.firstCells,hnc,storeCells]
theorem wp_app9 {w:World} {o:Oper} {a:Act} {K:Act→World→Prop} {Q:Exit→Act→World→Prop} (s x:Operand)
  (ho:o.op=.call { callee:=.builtin .append,args:=#[s,x],argTypes:=#[49,49] }) (B:Nat) (v:Value) (n:Nat) (xs:List Value) (hs:a.eval s=v) (hown:w.ownsRow B 3 1 v n xs)
  (ad:Option Addr) (m c:Nat) (l:List Value) (hx:a.eval x=.slice ad m c) (hl:l.length=m) (hls:LsAt w ad l) (h1:∀u ∈ l,u.oneCell'=true) (hb:n+m≤10000000) (hB:B≤w.heap.size)
  (h:∀v' w',w'.ownsRow B 3 1 v' (n+m) (xs++l)→w.grownBy w' v.ownBlock→K (a.put o.dst v') w'):o.wp Tryz.prog a w K Q:=by
 obtain ⟨v',w',hr,h2,h3⟩:=run_app9 w hown ad m c l hl hls h1 hb hB o.type
 unfold Oper.wp execOp
 simp only [ho,resolve,invoke,builtin,Sem.run_bind,Sem.run_pure,Result.andThen_ok,List.map_toArray,List.map_cons,List.map_nil,hs,hx,hr]
 exact h v' w' h2 h3
theorem wpList_app9 {w:World} {ops:Array Oper} {rest:List Oper} {o:Oper} {a:Act} {Q:Exit→Act→World→Prop} (hgd:o.guard=none) (s x:Operand)
  (ho:o.op=.call { callee:=.builtin .append,args:=#[s,x],argTypes:=#[49,49] }) (B:Nat) (v:Value) (n:Nat) (xs:List Value) (hs:a.eval s=v) (hown:w.ownsRow B 3 1 v n xs)
  (ad:Option Addr) (m c:Nat) (l:List Value) (hx:a.eval x=.slice ad m c) (hl:l.length=m) (hls:LsAt w ad l) (h1:∀u ∈ l,u.oneCell'=true) (hb:n+m≤10000000) (hB:B≤w.heap.size)
  (h:∀v' w',w'.ownsRow B 3 1 v' (n+m) (xs++l)→w.grownBy w' v.ownBlock→wpList Tryz.prog ops Q rest (a.put o.dst v') w'):wpList Tryz.prog ops Q (o :: rest) a w:=
 wpList_plain hgd fun _ hK=>wp_app9 s x ho B v n xs hs hown ad m c l hx hl hls h1 hb hB fun v' w' h2 h3=>hK _ _ (h v' w' h2 h3)
theorem step_app9 {w:World} {ops:Array Oper} {o:Oper} {a:Act} {K:Act→World→Prop} {Q:Exit→Act→World→Prop} {E:Prop} (hgd:o.guard=none) (s x:Operand)
  (ho:o.op=.call { callee:=.builtin .append,args:=#[s,x],argTypes:=#[49,49] }) (B:Nat) (v:Value) (n:Nat) (xs:List Value) (hs:a.eval s=v) (hown:w.ownsRow B 3 1 v n xs)
  (ad:Option Addr) (m c:Nat) (l:List Value) (hx:a.eval x=.slice ad m c) (hl:l.length=m) (hls:LsAt w ad l) (h1:∀u ∈ l,u.oneCell'=true) (hb:n+m≤10000000) (hB:B≤w.heap.size)
  (h:∀v' w',w'.ownsRow B 3 1 v' (n+m) (xs++l)→w.grownBy w' v.ownBlock→K (a.put o.dst v') w'):if Region.wanted o (yielded ops a.tmps)=true then Oper.wp Tryz.prog o a w K Q else E:=by
 have hw:Region.wanted o (yielded ops a.tmps)=true:=by simp [Region.wanted,hgd]
 rw [if_pos hw]
 exact wp_app9 s x ho B v n xs hs hown ad m c l hx hl hls h1 hb hB h
theorem nV_cell (l:List Nat):∀u ∈ nV l,u.oneCell'=true:=by
 intro u hu
 simp only [nV,List.mem_map] at hu
 obtain ⟨_,_,rfl⟩:=hu
 rfl
theorem LsQ.rest {Q:Nat→Prop} {w:World} {b o x:Nat} {l:List Nat} (h:LsQ Q w (some ⟨b,o,none⟩) (nV (x :: l))):LsQ Q w (some ⟨b,o+1,none⟩) (nV l)∧w.cell? ⟨b,o,none⟩=some (.int .i64 (x:Int)):=by
 obtain ⟨b',o',h1,h2⟩:=h
 have h3:=h1 (by simp [nV])
 simp only [Option.some.injEq,Addr.mk.injEq,and_true] at h3
 obtain ⟨rfl,rfl⟩:=h3
 refine ⟨⟨b,o+1,fun _=>rfl,fun i hi=>?_⟩,?_⟩
 ·have:=h2 (i+1) (by simp [nV] at hi ⊢;omega)
  rw [show o+(i+1)=o+1+i by omega] at this
  exact ⟨this.1,by rw [this.2];simp [nV]⟩
 ·have:=(h2 0 (by simp [nV])).2
  rw [Nat.add_zero] at this
  rw [this]
  rfl
def Work (w:World) (g:Nat) (v:Value) (l:List Nat):Prop:=∃a c,v=.slice a l.length c∧l.length≤c∧LsQ (fun b=>b≠g) w a (nV l)
theorem Work.of_own {w:World} {B g n:Nat} {T:TypeId} {v:Value} {l:List Nat} {cs:Array Value} (h:w.ownsRow B 3 1 v n (nV l)) (hn:n=l.length) (ha:AtN T w g cs) (hT:3≠T):Work w g v l:=by
 subst hn
 have hne:=own_ne_at h ha hT
 obtain ⟨a,c,rfl⟩:=own_shape7 h
 refine ⟨a,c,rfl,?_,(LsQ.of_own h).mono (fun q e _=>hne q e)⟩
 rcases h.2 with ⟨q,q2⟩|⟨b,c',cur,q,h1,h2,h3,h4⟩
 ·omega
 ·simp only [Value.slice.injEq] at q
  omega
theorem LsQ.some {Q:Nat→Prop} {w:World} {a:Option Addr} {x:Nat} {l:List Nat} (h:LsQ Q w a (nV (x :: l))):∃b o,a=Option.some ⟨b,o,none⟩:=by
 obtain ⟨b,o,h1,_⟩:=h
 exact ⟨b,o,h1 (by simp [nV])⟩
theorem slice_one (W:World) (b o n c:Nat) (h:n+1≤c):∃y:Addr,(Instr.slice 49 (.slice (some ⟨b,o,none⟩) (n+1) c) (some (.int .i64 1)) none none).run Tryz.prog W=.ok (.slice (some y) n (c-1)) W∧(0<n→y=⟨b,o+1,none⟩):=by
 by_cases hc1:c=1
 ·refine ⟨⟨b,o,none⟩,?_,fun q=>by omega⟩
  simp [Instr.slice,run_underlying Tryz.underlying49,go_sem,hc1]
  omega
 ·refine ⟨⟨b,o+1,none⟩,?_,fun q=>rfl⟩
  simp [Instr.slice,run_underlying Tryz.underlying49,go_sem,hc1]
  intro q
  omega
theorem LsQ.rest' {Q:Nat→Prop} {w:World} {b o x:Nat} {y:Addr} {l:List Nat} (h:LsQ Q w (Option.some ⟨b,o,none⟩) (nV (x :: l))) (hy:0<l.length→y=⟨b,o+1,none⟩):LsQ Q w (Option.some y) (nV l):=by
 by_cases h0:0<l.length
 ·rw [hy h0];exact h.rest.1
 ·have:l=[]:=List.length_eq_zero_iff.1 (by omega)
  subst this
  exact ⟨0,0,fun q=>by simp [nV] at q,fun i hi=>by simp [nV] at hi⟩
end Go.Proofs.YtgoffkfpdigeeaaGreatDoor
namespace Go.Proofs.YtgoffkfpdigeeaaGreatDoor
open Go.RowKit Go.Maps Go.WideMaps Go.Sort
set_option maxRecDepth 10000 in
set_option maxHeartbeats 1000000 in
theorem led_any (X:List Nx) (a:Option Addr) (c f:Nat) (r:Int) (w:World) (h:ScAt w a X) (hX:Small X) (hok:∀i,i<X.length→okAt X i) (hf:f<X.length) :
  Calls Tryz.prog 88 #[.agg #[.slice a X.length c,.int .i64 r],.int .i64 (f:Int)] w fun e w'=>LedOut (kX X) f w w' e:=by
 obtain ⟨i1,hi1,hz10,hz11,hz12⟩:=info_parts Tryz.infoB9
 have hn:=hX.1
 have hf':(f:Int)<X.length:=by omega
 have HS:Hid (ScAt w a X∧Small X∧∀i,i<X.length→okAt X i):=⟨h,hX,hok⟩
 have hmk:(Instr.makeSlice 125 (.int .i64 (X.length:Int)) (.int .i64 (X.length:Int))).run Tryz.prog (w.alloc (.cells #[.slice a X.length c,.int .i64 r] 24))=.ok (.slice (some ⟨w.heap.size+1,0,none⟩) X.length X.length) ((w.alloc (.cells #[.slice a X.length c,.int .i64 r] 24)).alloc (.cells (mtV X.length []) 4)):=by
  have:=run_make (P:=Tryz.prog) (w.alloc (.cells #[.slice a X.length c,.int .i64 r] 24)) 125 4 i1 (.bool false) Tryz.underlying125 hi1 hz10 .i64 .i64 X.length X.length (by omega) (by omega) (by rw [hz12];omega) (by omega)
  rw [hz11,Int.toNat_natCast,mtV_new] at this
  simpa using this
 have hA1:AtN 4 ((w.alloc (.cells #[.slice a X.length c,.int .i64 r] 24)).alloc (.cells (mtV X.length []) 4)) (w.heap.size+1) (mtV X.length []):=mk_at (AtN.new _ 4 _) (by simp)
 have hA0:AtN 24 ((w.alloc (.cells #[.slice a X.length c,.int .i64 r] 24)).alloc (.cells (mtV X.length []) 4)) w.heap.size #[.slice a X.length c,.int .i64 r]:=(AtN.new w 24 _).alloc _
 have hB1:Below w.heap.size w ((w.alloc (.cells #[.slice a X.length c,.int .i64 r] 24)).alloc (.cells (mtV X.length []) 4)):=((Below.refl w.heap.size w).alloc (Nat.le_refl _) _).alloc (by simp) _
 obtain ⟨m0,hm0⟩:∃m,mtV X.length []=m:=⟨_,rfl⟩
 have Hm0:Hid (mtV X.length []=m0):=hm0
 rw [hm0] at hmk hA1 hA0 hB1
 have hs2:=h.belowB hB1
 obtain ⟨b,o,rfl,hbl,-,-,-,d3⟩:=hs2.node hf
 have hk3:=(hs2.each f hf).k
 have hkl:=hX.kids hf
 have HK0:Hid ((kX X).getD f []=(X.getD f noNx).nd.kids.map Int.toNat):=kX_at X f hf
 have hnv:=nV_toNat _ (hok f hf)
 generalize X.getD f noNx=N at *
 have x0:((w.alloc (.cells #[.slice (some ⟨b,o,none⟩) X.length c,.int .i64 r] 24)).alloc (.cells m0 4)).cell? ⟨w.heap.size,0,none⟩=some (.slice (some ⟨b,o,none⟩) X.length c):=hA0.cell 0
 obtain ⟨w1,hw1⟩:∃w1,(w.alloc (.cells #[.slice (some ⟨b,o,none⟩) X.length c,.int .i64 r] 24)).alloc (.cells m0 4)=w1:=⟨_,rfl⟩
 rw [hw1] at hmk hA1 hA0 hB1 hs2 hk3 d3 x0 hbl
 have hsz1:w1.heap.size=w.heap.size+2:=by rw [← hw1];simp
 have x0':∀o',(w1.alloc o').cell? ⟨w.heap.size,0,none⟩=some (.slice (some ⟨b,o,none⟩) X.length c):=fun o'=>(hA0.alloc o').cell 0
 have d3':∀o',(w1.alloc o').cell? ⟨b,o+f*4+3,none⟩=some (.slice N.a3 N.nd.kids.length N.c3):=fun o'=>(((Below.refl w1.heap.size w1).alloc (Nat.le_refl _) o').cell (p:=⟨b,o+f*4+3,none⟩) hbl).trans d3
 have HE:Hid (∀o',LsAt (w1.alloc o') N.a3 (iV N.nd.kids)):=fun o'=>hk3.alloc o'
 have HZ:Hid (∀o',AtN 4 (w1.alloc o') (w.heap.size+1) m0∧AtN 24 (w1.alloc o') w.heap.size #[.slice (some ⟨b,o,none⟩) X.length c,.int .i64 r]∧Below w.heap.size w (w1.alloc o')):=fun o'=>⟨hA1.alloc o',hA0.alloc o',hB1.alloc (by omega) o'⟩
 have Hnv:Hid (nV (N.nd.kids.map Int.toNat)=iV N.nd.kids):=hnv
 have Hsz1:Hid (w1.heap.size=w.heap.size+2):=hsz1
 clear h hX hok hA1 hA0 hB1 hs2 hk3 hnv hm0 hw1 hsz1
 go_enter Tryz.func88,Tryz.ntmps88
 go_wp2_with (at_builtin;refine wpList_app9 rfl (.tmp 12) (.tmp 18) rfl w1.heap.size _ 0 [] rfl (World.ownsRow_lit w1 #[] 0 (Nat.le_refl _) (by decide) (by simp)) N.a3 N.nd.kids.length N.c3 (iV N.nd.kids) rfl (iV_length _) (HE.out _) (iV_cell _) (by omega) (by simp) ?_)
 intro v2 w2 hown2 hg2
 have hB2:Below w1.heap.size (w1.alloc (.cells #[] 3)) w2:=below_app hg2 (fun k hk=>by simp [Value.ownBlock] at hk;omega) (by simp)
 have hlt1:w.heap.size+1<w1.heap.size:=by have h0:w1.heap.size=w.heap.size+2:=Hsz1.out;omega
 have HA2:Hid (AtN 4 w2 (w.heap.size+1) (mtV X.length [])):=by rw [Hm0.out];exact (HZ.out _).1.below hB2 (by omega)
 have HA3:Hid (AtN 24 w2 w.heap.size #[.slice (some ⟨b,o,none⟩) X.length c,.int .i64 r]):=(HZ.out _).2.1.below hB2 (by omega)
 have HB3:Hid (Below w.heap.size w w2):=(HZ.out _).2.2.trans (hB2.mono (by omega))
 have HW2:Hid (Work w2 (w.heap.size+1) v2 ((kX X).getD f [])):=by
  rw [HK0.out]
  refine Work.of_own (B:=w1.heap.size) (n:=N.nd.kids.length) ?_ (by simp) HA2.out (by decide)
  rw [Hnv.out]
  simpa using hown2
 have hwl:((kX X).getD f []).length≤3000:=by rw [HK0.out,List.length_map];exact hkl
 clear hown2 hg2 hB2 HZ HE Hnv Hsz1 HK0 Hm0 x0' d3' x0 d3 hmk hbl hkl
 go_wp2_with fail
 go_loopg [6] ((X.length-([]:List Nat).length)*3001+((kX X).getD f []).length) (fun m wv wr=>∃(work met:List Nat),Hid (m=(X.length-met.length)*3001+work.length)∧work.length≤(met.length+1)*3000∧Hid (Work wr (w.heap.size+1) wv work)∧Hid (LInv (kX X) f work met)∧Hid (AtN 4 wr (w.heap.size+1) (mtV X.length met))∧Hid (AtN 24 wr w.heap.size #[.slice (some ⟨b,o,none⟩) X.length c,.int .i64 r])∧Hid (Below w.heap.size w wr))
 case atStart=>exact ⟨_,[],rfl,by simpa using hwl,HW2,LInv.start _ _,HA2,HA3,HB3⟩
 case round=>
  clear HW2 HA2 HA3 HB3 hwl
  obtain ⟨work,met,Hm,hwl,HW,HI,HA,HAs,HB⟩:=hrel
  obtain ⟨aw,cw,rfl,hcw,hlw⟩:=HW.out
  have hml:met.length≤1401:=by have:=HI.out.len;rw [kX_length] at this;omega
  cases work with
  | nil=>
   have HV:Hid (LedOut (kX X) f w wr (.returned (.slice (some ⟨w.heap.size+1,0,none⟩) X.length X.length))):=⟨w.heap.size+1,met,by rw [kX_length],by rw [kX_length];exact HA.out,HI.out.fin,HB.out⟩
   clear HW HI HA HAs HB hlw HS Hm
   go_wp2_with fail
   go_ret
   exact HV.out
  | cons x l=>
   obtain ⟨b2,o2,rfl⟩:=hlw.some
   have dx:=hlw.rest.2
   have hxX:x<X.length:=by
    have:=Ok9.rt (kX_ok HS.out.2.2) (by rw [kX_length];exact hf) (HI.out.k x (by simp)).rt
    rwa [kX_length] at this
   have hx':(x:Int)<X.length:=by omega
   have y0:wr.cell? ⟨w.heap.size+1,x,none⟩=some (.bool (decide (x ∈ met))):=by rw [HA.out.cell,mtV_at _ _ _ hxX]
   rw [List.length_cons] at hwl hcw ⊢
   obtain ⟨y,hsl,hy⟩:=slice_one wr b2 o2 l.length cw hcw
   have Hl2:Hid (LsQ (fun b=>b≠w.heap.size+1) wr (some y) (nV l)):=hlw.rest' hy
   have hlc:l.length≤cw-1:=by omega
   clear hy hlw HW
   by_cases hin:x ∈ met
   ·rw [decide_eq_true hin] at y0
    have HI2:Hid (LInv (kX X) f l met):=HI.out.skip hin
    have Hm2:Hid ((X.length-met.length)*3001+l.length<gk):=by
     show _<_
     rw [Hm.out,List.length_cons]
     omega
    clear HI Hm hin
    go_wp2_with fail
    go_roundg ((X.length-met.length)*3001+l.length)
    case measure=>exact Hm2.out
    case rel=>exact ⟨l,met,rfl,by omega,⟨some y,cw-1,rfl,hlc,Hl2.out⟩,HI2,HA,HAs,HB⟩
   ·rw [decide_eq_false hin] at y0
    have HI2:Hid (LInv (kX X) f (l++(kX X).getD x []) (met++[x])):=HI.out.add (kX_ok HS.out.2.2) (by rw [kX_length];exact hf) hin
    have hml2:met.length+1≤X.length:=by
     have:=HI2.out.len
     rw [kX_length] at this
     simpa using this
    have yf:=HA.out.fz x
    obtain ⟨b3,o3,e3,hb3,-,-,-,d3⟩:=(HS.out.1.belowB HB.out).node hxX
    cases e3
    have hkl:=HS.out.2.1.kids hxX
    have HKx:Hid ((kX X).getD x []=(X.getD x noNx).nd.kids.map Int.toNat):=kX_at X x hxX
    have Hnv:Hid (nV ((X.getD x noNx).nd.kids.map Int.toNat)=iV (X.getD x noNx).nd.kids):=nV_toNat _ (HS.out.2.2 x hxX)
    have HEk:Hid (∀W,Below w.heap.size w W→LsAt W (X.getD x noNx).a3 (iV (X.getD x noNx).nd.kids)∧W.cell? ⟨b,o+x*4+3,none⟩=some (.slice (X.getD x noNx).a3 (X.getD x noNx).nd.kids.length (X.getD x noNx).c3)):=fun W hW=>by
     have hs:=HS.out.1.belowB hW
     obtain ⟨b4,o4,e4,_,_,_,_,d4⟩:=hs.node hxX
     cases e4
     exact ⟨(hs.each x hxX).k,d4⟩
    generalize X.getD x noNx=N2 at *
    have hset:∀(W:World),W=wr.setCell ⟨w.heap.size+1,x,none⟩ (.bool true)→AtN 4 W (w.heap.size+1) (mtV X.length (met++[x]))∧AtN 24 W w.heap.size #[.slice (some ⟨b,o,none⟩) X.length c,.int .i64 r]∧Below w.heap.size w W∧LsQ (fun b=>b≠w.heap.size+1) W (some y) (nV l):=fun W hW=>by
     subst hW
     refine ⟨?_,AtN.setOther HAs.out _ (by show w.heap.size+1≠w.heap.size;omega) _,set_below HB.out _ (by show w.heap.size≤w.heap.size+1;omega) _,Hl2.out.fr ((Fr.refl (fun b=>b=w.heap.size+1) wr).set ⟨w.heap.size+1,x,none⟩ rfl _) (fun b q _ e=>q e)⟩
     have:=AtN.set HA.out x (.bool true)
     rwa [mtV_set] at this
    have HW3:=hset _ rfl
    have Hset:Hid (AtN 4 (wr.setCell ⟨w.heap.size+1,x,none⟩ (.bool true)) (w.heap.size+1) (mtV X.length (met++[x]))∧AtN 24 (wr.setCell ⟨w.heap.size+1,x,none⟩ (.bool true)) w.heap.size #[.slice (some ⟨b,o,none⟩) X.length c,.int .i64 r]∧Below w.heap.size w (wr.setCell ⟨w.heap.size+1,x,none⟩ (.bool true))∧LsQ (fun b=>b≠w.heap.size+1) (wr.setCell ⟨w.heap.size+1,x,none⟩ (.bool true)) (some y) (nV l)):=HW3
    have hgl:=HA.out.lt
    have Hlw:Hid (l.length+1≤(met.length+1)*3000):=hwl
    have hl2k:l.length≤5000000:=by omega
    clear HI hin HW3 hset Hl2 HA HAs HB hwl
    go_wp2_with fail
    obtain ⟨W0,hW0⟩:∃W0,wr.setCell ⟨w.heap.size+1,x,none⟩ (.bool true)=W0:=⟨_,rfl⟩
    rw [hW0] at Hset ⊢
    refine facts_region3 (fun W=>Below W0.heap.size W0 W) (ldR W0.heap.size) ldC ldD (ldF X (some y) b o c (cw-1) x w.heap.size W0.heap.size l N2) (by kernel_rfl) (by kernel_rfl) (Below.refl _ _).drew ?hdead (ldF_stab X (some y) b o c (cw-1) x w.heap.size W0.heap.size l N2) ?gl ?loc ?step ?fin
    case hdead=>
     intro i j oi oj hi hj hd
     simp only [ldD,Bool.or_eq_true,Bool.and_eq_true,beq_iff_eq] at hd
     rcases hd with ((⟨rfl,rfl⟩|⟨rfl,rfl⟩)|⟨rfl,rfl⟩)|⟨rfl,rfl⟩
     ·obtain rfl:=Option.some.inj hi
      exact .inl (by kernel_rfl)
     ·obtain rfl:=Option.some.inj hj
      exact .inr (by kernel_rfl)
     ·obtain rfl:=Option.some.inj hj
      exact .inr (by kernel_rfl)
     ·obtain rfl:=Option.some.inj hj
      exact .inr (by kernel_rfl)
    case gl=>
     intro i W W' hR hb
     unfold ldR at hR
     by_cases h5:i=2∨i=9
     ·rw [if_pos h5] at hR
      exact hb.trans hR
     ·rw [if_neg h5] at hR
      exact hb.grown hR hb.size (by simp)
    case loc=>
     intro j o V V' W ho hd hk h
     rcases j with _|_|_|_|_|_|_|_|_|_|_|j
     ·obtain rfl:=Option.some.inj ho
      have e:V (some 36)=V' (some 36):=hd
      simp only [ldF] at h ⊢
      rw [← e];exact h
     ·obtain rfl:=Option.some.inj ho
      have e:V (some 37)=V' (some 37):=hd
      simp only [ldF] at h ⊢
      rw [← e];exact h
     ·obtain rfl:=Option.some.inj ho
      have e:V (some 38)=V' (some 38):=hd
      simp only [ldF] at h ⊢
      rw [← e];exact h
     ·obtain rfl:=Option.some.inj ho
      have e:V (some 39)=V' (some 39):=hd
      simp only [ldF] at h ⊢
      rw [← e];exact h
     ·obtain rfl:=Option.some.inj ho
      have e:V (some 40)=V' (some 40):=hd
      simp only [ldF] at h ⊢
      rw [← e];exact h
     ·obtain rfl:=Option.some.inj ho
      have e:V (some 41)=V' (some 41):=hd
      simp only [ldF] at h ⊢
      rw [← e];exact h
     ·obtain rfl:=Option.some.inj ho
      have e:V (some 42)=V' (some 42):=hd
      simp only [ldF] at h ⊢
      rw [← e];exact h
     ·obtain rfl:=Option.some.inj ho
      have e:V (some 43)=V' (some 43):=hd
      simp only [ldF] at h ⊢
      rw [← e];exact h
     ·obtain rfl:=Option.some.inj ho
      have e:V (some 44)=V' (some 44):=hd
      simp only [ldF] at h ⊢
      rw [← e];exact h
     ·obtain rfl:=Option.some.inj ho
      have e:V (some 45)=V' (some 45):=hd
      simp only [ldF] at h ⊢
      rw [← e];exact h
     ·obtain rfl:=Option.some.inj ho
      have e:V (some 6)=V' (some 6):=hd
      simp only [ldF] at h ⊢
      rw [← e];exact h
     ·exact absurd ho (by simp)
    case step=>
     intro i o' ho a' W hG hoff hdep K hK
     have t2:a'.tmps[2]?.getD undef=.pointer (some ⟨w.heap.size,0,none⟩):=hoff 2 (by kernel_rfl)
     have t7:a'.tmps[7]?.getD undef=.int .i64 (x:Int):=hoff 7 (by kernel_rfl)
     have hbW:Below w.heap.size w W:=Hset.out.2.2.1.trans (hG.mono Hset.out.2.2.1.size)
     have x0:W.cell? ⟨w.heap.size,0,none⟩=some (.slice (some ⟨b,o,none⟩) X.length c):=(AtN.belowAll Hset.out.2.1 hG).cell 0
     obtain ⟨hk3,d4⟩:=HEk.out W hbW
     have Hk3:Hid (LsAt W N2.a3 (iV N2.nd.kids)):=hk3
     have Hw3:Hid (LsAt W (some y) (nV l)):=(Hset.out.2.2.2.below hG).toAt
     have hsz:W0.heap.size≤W.heap.size:=hG.size
     clear hk3 hbW hG Hset HEk
     rcases i with _|_|_|_|_|_|_|_|_|_|_|i
     ·obtain rfl:=Option.some.inj ho
      clear hdep hoff
      go_simp
      exact hK _ _ (World.grownBy_alloc _ _ _) (fun V' h1 _=>by
       have e:V' (some 36)=_:=h1
       simp only [ldF]
       rw [e]
       exact ⟨World.ownsRow_lit W #[] 0 hsz (by decide) (by simp),_,rfl⟩)
     ·obtain rfl:=Option.some.inj ho
      have t6:a'.tmps[6]?.getD undef=.slice (some y) l.length (cw-1):=hoff 6 (by kernel_rfl)
      clear hdep hoff
      go_simp
      exact hK _ _ (grown_refl _ _) (fun V' h1 _=>by
       have e:V' (some 37)=_:=h1
       simp only [ldF]
       rw [e]
       rfl)
     ·obtain rfl:=Option.some.inj ho
      have e0:W.ownsRow W0.heap.size 3 1 (a'.tmps[36]?.getD undef) 0 []∧∃z,a'.tmps[36]?.getD undef=.slice (some ⟨z,0,none⟩) 0 0:=hdep 0 (by kernel_rfl) (.inl (by decide))
      have e1:a'.tmps[37]?.getD undef=.slice (some y) l.length (cw-1):=hdep 1 (by kernel_rfl) (.inr (by decide))
      clear hdep hoff
      refine step_app9 rfl (.tmp 36) (.tmp 37) rfl W0.heap.size (a'.tmps[36]?.getD undef) 0 [] (by simp [Act.eval]) e0.1 (some y) l.length (cw-1) (nV l) (by simpa [Act.eval] using e1) (nV_length _) Hw3.out (nV_cell _) (by omega) hsz ?_
      intro v' w' ho' hg'
      refine hK _ _ (by rw [ldR,if_pos (.inl rfl)];exact below_app hg' (fun q hq=>(e0.1.lt q hq).1) hsz) (fun V' h1 _=>?_)
      have e:V' (some 38)=v':=h1
      simp only [ldF]
      rw [e]
      simpa using ho'
     ·obtain rfl:=Option.some.inj ho
      clear hdep hoff
      go_simp
      exact hK _ _ (grown_refl _ _) (fun V' h1 _=>by
       have e:V' (some 39)=_:=h1
       simp only [ldF]
       rw [e]
       rfl)
     ·obtain rfl:=Option.some.inj ho
      have e0:a'.tmps[39]?.getD undef=.pointer (some ⟨w.heap.size,0,none⟩):=hdep 3 (by kernel_rfl) (.inr (by decide))
      clear hdep hoff
      go_simp
      exact hK _ _ (grown_refl _ _) (fun V' h1 _=>by
       have e:V' (some 40)=_:=h1
       simp only [ldF]
       rw [e]
       rfl)
     ·obtain rfl:=Option.some.inj ho
      clear hdep hoff
      go_simp
      exact hK _ _ (grown_refl _ _) (fun V' h1 _=>by
       have e:V' (some 41)=_:=h1
       simp only [ldF]
       rw [e]
       rfl)
     ·obtain rfl:=Option.some.inj ho
      have e0:a'.tmps[40]?.getD undef=.slice (some ⟨b,o,none⟩) X.length c:=hdep 4 (by kernel_rfl) (.inr (by decide))
      have e1:a'.tmps[41]?.getD undef=.int .i64 (x:Int):=hdep 5 (by kernel_rfl) (.inr (by decide))
      clear hdep hoff
      go_simp
      exact hK _ _ (grown_refl _ _) (fun V' h1 _=>by
       have e:V' (some 42)=_:=h1
       simp only [ldF]
       rw [e]
       rfl)
     ·obtain rfl:=Option.some.inj ho
      have e0:a'.tmps[42]?.getD undef=.pointer (some ⟨b,o+x*4,none⟩):=hdep 6 (by kernel_rfl) (.inr (by decide))
      clear hdep hoff
      go_simp
      exact hK _ _ (grown_refl _ _) (fun V' h1 _=>by
       have e:V' (some 43)=_:=h1
       simp only [ldF]
       rw [e]
       rfl)
     ·obtain rfl:=Option.some.inj ho
      have e0:a'.tmps[43]?.getD undef=.pointer (some ⟨b,o+x*4+3,none⟩):=hdep 7 (by kernel_rfl) (.inr (by decide))
      clear hdep hoff
      go_simp
      exact hK _ _ (grown_refl _ _) (fun V' h1 _=>by
       have e:V' (some 44)=_:=h1
       simp only [ldF]
       rw [e]
       rfl)
     ·obtain rfl:=Option.some.inj ho
      have e0:W.ownsRow W0.heap.size 3 1 (a'.tmps[38]?.getD undef) l.length (nV l):=hdep 2 (by kernel_rfl) (.inl (by decide))
      have e1:a'.tmps[44]?.getD undef=.slice N2.a3 N2.nd.kids.length N2.c3:=hdep 8 (by kernel_rfl) (.inr (by decide))
      clear hdep hoff
      refine step_app9 rfl (.tmp 38) (.tmp 44) rfl W0.heap.size (a'.tmps[38]?.getD undef) l.length (nV l) (by simp [Act.eval]) e0 N2.a3 N2.nd.kids.length N2.c3 (iV N2.nd.kids) (by simpa [Act.eval] using e1) (iV_length _) Hk3.out (iV_cell _) (by omega) hsz ?_
      intro v' w' ho' hg'
      refine hK _ _ (by rw [ldR,if_pos (.inr rfl)];exact below_app hg' (fun q hq=>(e0.lt q hq).1) hsz) (fun V' h1 _=>?_)
      have e:V' (some 45)=v':=h1
      simp only [ldF]
      rw [e]
      exact ho'
     ·obtain rfl:=Option.some.inj ho
      have e0:W.ownsRow W0.heap.size 3 1 (a'.tmps[45]?.getD undef) (l.length+N2.nd.kids.length) (nV l++iV N2.nd.kids):=hdep 9 (by kernel_rfl) (.inr (by decide))
      have HE0:Hid (W.ownsRow W0.heap.size 3 1 (a'.tmps[45]?.getD undef) (l.length+N2.nd.kids.length) (nV l++iV N2.nd.kids)):=e0
      clear hdep e0 hoff
      go_simp
      exact hK _ _ (grown_refl _ _) (fun V' h1 _=>by
       have e:V' (some 6)=_:=h1
       simp only [ldF]
       rw [e]
       exact HE0.out)
     ·exact absurd ho (by simp)
    case fin=>
     intro V W hG hF
     have y10:W.ownsRow W0.heap.size 3 1 (V (some 6)) (l.length+N2.nd.kids.length) (nV l++iV N2.nd.kids):=hF 10 _ rfl (by decide)
     obtain ⟨a6,c6,e6⟩:=own_shape7 y10
     have HA4:Hid (AtN 4 W (w.heap.size+1) (mtV X.length (met++[x]))):=AtN.belowAll Hset.out.1 hG
     have HAs4:Hid (AtN 24 W w.heap.size #[.slice (some ⟨b,o,none⟩) X.length c,.int .i64 r]):=AtN.belowAll Hset.out.2.1 hG
     have HB4:Hid (Below w.heap.size w W):=Hset.out.2.2.1.trans (hG.mono Hset.out.2.2.1.size)
     have HW4:Hid (Work W (w.heap.size+1) (.slice a6 (l.length+N2.nd.kids.length) c6) (l++(kX X).getD x [])):=by
      rw [← e6]
      refine Work.of_own (B:=W0.heap.size) (n:=l.length+N2.nd.kids.length) ?_ (by rw [HKx.out];simp) HA4.out (by decide)
      rw [HKx.out,show nV (l++N2.nd.kids.map Int.toNat)=nV l++nV (N2.nd.kids.map Int.toNat) by simp [nV],Hnv.out]
      exact y10
     have hlen4:(l++(kX X).getD x []).length=l.length+N2.nd.kids.length:=by rw [HKx.out];simp
     have Hlen4:Hid ((l++(kX X).getD x []).length≤((met++[x]).length+1)*3000∧(X.length-(met++[x]).length)*3001+(l++(kX X).getD x []).length<gk):=by
      rw [hlen4,List.length_append,List.length_singleton,Hm.out,List.length_cons]
      have:=Hlw.out
      refine ⟨by omega,?_⟩
      rw [show X.length-met.length=(X.length-(met.length+1))+1 by omega,Nat.add_mul]
      omega
     clear hF hG y10 hlen4 Hset HEk HKx Hnv Hm Hlw
     simp only [fillA,Act.put,List.setIfInBounds_toArray,List.set_cons_zero,List.set_cons_succ,e6]
     generalize V (some 36)=z36
     generalize V (some 37)=z37
     generalize V (some 38)=z38
     generalize V (some 39)=z39
     generalize V (some 40)=z40
     generalize V (some 41)=z41
     generalize V (some 42)=z42
     generalize V (some 43)=z43
     generalize V (some 44)=z44
     generalize V (some 45)=z45
     clear e6
     go_wp2_with fail
     go_roundg ((X.length-(met++[x]).length)*3001+(l++(kX X).getD x []).length)
     case measure=>exact Hlen4.out.2
     case rel=>exact ⟨l++(kX X).getD x [],met++[x],rfl,Hlen4.out.1,HW4,HI2,HA4,HAs4,HB4⟩
end Go.Proofs.YtgoffkfpdigeeaaGreatDoor
namespace Go.Proofs.YtgoffkfpdigeeaaGreatDoor
open Go.RowKit Go.Maps Go.WideMaps Go.Sort
set_option maxRecDepth 10000 in
set_option maxHeartbeats 800000 in
theorem rcheck_any (X:List Nx) (a:Option Addr) (c:Nat) (r:Int) (w:World) (h:ScAt w a X) (hX:Small X) :
  Calls Tryz.prog 39 #[.agg #[.slice a X.length c,.int .i64 r]] w fun e w'=>CheckOut X r w w' e:=by
 have HS:Hid (ScAt w a X∧Small X):=⟨h,hX⟩
 have hn:=hX.1
 have HA0:Hid (AtN 24 (w.alloc (.cells #[.slice a X.length c,.int .i64 r] 24)) w.heap.size #[.slice a X.length c,.int .i64 r]∧Below w.heap.size w (w.alloc (.cells #[.slice a X.length c,.int .i64 r] 24))):=⟨AtN.new w 24 _,(Below.refl w.heap.size w).alloc (Nat.le_refl _) _⟩
 clear h hX
 by_cases hr:isPb X.length r=true
 ·obtain ⟨rn,rfl⟩:∃rn:Nat,r=rn:=⟨r.toNat,(Int.toNat_of_nonneg (isPb_iff.1 hr).1).symm⟩
  have hrn:rn<X.length:=by have:=isPb_iff.1 hr;omega
  have hrn':(rn:Int)<X.length:=by omega
  go_enter Tryz.func39,Tryz.ntmps39
  go_wp2_with fail
  refine (place_any _ _ _ _ _ _).mono ?_
  rintro e w1 ⟨rfl,hb1⟩
  rw [hr]
  have hA1:=AtN.belowAll HA0.out.1 hb1
  have hB1:Below w.heap.size w w1:=HA0.out.2.trans (hb1.mono HA0.out.2.size)
  have x0:w1.cell? ⟨w.heap.size,0,none⟩=some (.slice a X.length c):=hA1.cell 0
  have x1:w1.cell? ⟨w.heap.size,1,none⟩=some (.int .i64 (rn:Int)):=hA1.cell 1
  have HR:Hid (Calls Tryz.prog 87 #[.agg #[.slice a X.length c,.int .i64 (rn:Int)]] w1 fun e w'=>RefsOut X w1 w' e):=refs_any X a c rn w1 (HS.out.1.belowB hB1) HS.out.2
  have HA1:Hid (AtN 24 w1 w.heap.size #[.slice a X.length c,.int .i64 (rn:Int)]∧Below w.heap.size w w1):=⟨hA1,hB1⟩
  clear HA0 hb1 hA1 hB1
  go_wp2_with fail
  refine Calls.mono HR.out ?_
  rintro e w2 ⟨z,rfl,hz,hb2⟩
  have HA2:Hid (AtN 24 w2 w.heap.size #[.slice a X.length c,.int .i64 (rn:Int)]∧Below w.heap.size w w2):=⟨AtN.belowAll HA1.out.1 hb2,HA1.out.2.trans (hb2.mono HA1.out.2.size)⟩
  clear HR HA1 hb2 x0 x1
  rcases hz with ⟨rfl,hok⟩|⟨i,hi,rfl,hno,hbe⟩
  ·have Hok:Hid (∀i,i<X.length→okAt X i):=hok
   clear hok
   go_wp2_with fail
   go_loopw [5] (fun iv wr=>∃i:Nat,iv=.int .i64 i∧i≤X.length∧Hid (∀j,j<i→¬Lead (Ed (kX X)) j j)∧Hid (AtN 24 wr w.heap.size #[.slice a X.length c,.int .i64 (rn:Int)])∧Hid (Below w.heap.size w wr)) (fun iv _=>X.length-(intOf iv).toNat)
   case atStart=>exact ⟨0,rfl,by omega,fun j hj=>by omega,HA2.out.1,HA2.out.2⟩
   case round=>
    clear HA2
    obtain ⟨i,rfl,hi,HI,HA,HB⟩:=hrel
    have x0:wr.cell? ⟨w.heap.size,0,none⟩=some (.slice a X.length c):=HA.out.cell 0
    have x1:wr.cell? ⟨w.heap.size,1,none⟩=some (.int .i64 (rn:Int)):=HA.out.cell 1
    by_cases hlt:i<X.length
    ·have hlt':(i:Int)<X.length:=by omega
     have HL:Hid (Calls Tryz.prog 88 #[.agg #[.slice a X.length c,.int .i64 (rn:Int)],.int .i64 (i:Int)] wr fun e w'=>LedOut (kX X) i wr w' e):=led_any X a c i rn wr (HS.out.1.belowB HB.out) HS.out.2 Hok.out hlt
     go_wp2_with fail
     refine Calls.mono HL.out ?_
     rintro e w3 ⟨g,met,rfl,ha3,hm3,hb3⟩
     rw [kX_length] at ha3 ⊢
     have y0:w3.cell? ⟨g,i,none⟩=some (.bool (decide (i ∈ met))):=by rw [ha3.cell,mtV_at _ _ _ hlt]
     have HA3:Hid (AtN 24 w3 w.heap.size #[.slice a X.length c,.int .i64 (rn:Int)]∧Below w.heap.size w w3):=⟨AtN.belowAll HA.out hb3,HB.out.trans (hb3.mono HB.out.size)⟩
     clear HL HA HB ha3 hb3 x0 x1
     by_cases hin:i ∈ met
     ·rw [decide_eq_true hin] at y0
      have HV:Hid (CheckOut X rn w w3 (.returned (.tuple #[.int .i64 14,.int .i64 (i:Int)]))):=⟨_,_,rfl,.inr (.inr ⟨hr,Hok.out,.inl ⟨i,rfl,rfl,(hm3 i).1 hin,HI.out⟩⟩),HA3.out.2⟩
      clear HI hin hm3 HA3 Hok HS
      go_wp2_with fail
      go_ret2
      exact HV.out
     ·rw [decide_eq_false hin] at y0
      have HI2:Hid (∀j,j<i+1→¬Lead (Ed (kX X)) j j):=fun j hj l=>by
       by_cases e:j=i
       ·subst e;exact hin ((hm3 j).2 l)
       ·exact HI.out j (by omega) l
      clear HI hin hm3
      go_wp2_with fail
      go_roundw
      case rel=>exact ⟨i+1,by go_num,by omega,HI2,HA3.out.1,HA3.out.2⟩
      case measure=>simp [intOf];omega
    ·have hlt':¬(i:Int)<X.length:=by omega
     have Hno:Hid (∀x,¬Lead (Ed (kX X)) x x):=fun x l=>HI.out x (by have:=l.lt;rw [kX_length] at this;omega) l
     have HL:Hid (Calls Tryz.prog 88 #[.agg #[.slice a X.length c,.int .i64 (rn:Int)],.int .i64 (rn:Int)] wr fun e w'=>LedOut (kX X) rn wr w' e):=led_any X a c rn rn wr (HS.out.1.belowB HB.out) HS.out.2 Hok.out hrn
     clear HI
     go_wp2_with fail
     refine Calls.mono HL.out ?_
     rintro e w3 ⟨g,met,rfl,ha3,hm3,hb3⟩
     rw [kX_length] at ha3 ⊢
     have HRt:Hid (∀x,Rt (Ed (kX X)) rn x↔x=rn∨x ∈ met):=fun x=>by
      constructor
      ·intro q
       rcases q.cases with q|q
       ·exact .inl q.symm
       ·exact .inr ((hm3 x).2 q)
      ·rintro (rfl|q)
       ·exact Rt.refl _ _
       ·exact ((hm3 x).1 q).rt
     have HA3:Hid (AtN 24 w3 w.heap.size #[.slice a X.length c,.int .i64 (rn:Int)]∧Below w.heap.size w w3∧AtN 4 w3 g (mtV X.length met)):=⟨AtN.belowAll HA.out hb3,HB.out.trans (hb3.mono HB.out.size),ha3⟩
     clear HL HA HB ha3 hb3 x0 x1 hm3 hlt hlt'
     go_wp2_with fail
     go_loopw [7] (fun iv wr=>∃i:Nat,iv=.int .i64 i∧i≤X.length∧Hid (∀j,j<i→Rt (Ed (kX X)) rn j)∧Hid (wr=w3)) (fun iv _=>X.length-(intOf iv).toNat)
     case atStart=>exact ⟨0,rfl,by omega,fun j hj=>by omega,rfl⟩
     case round=>
      obtain ⟨i,rfl,hi,HI,HWr⟩:=hrel
      obtain rfl:wr=w3:=HWr.out
      have x0:wr.cell? ⟨w.heap.size,0,none⟩=some (.slice a X.length c):=HA3.out.1.cell 0
      have x1:wr.cell? ⟨w.heap.size,1,none⟩=some (.int .i64 (rn:Int)):=HA3.out.1.cell 1
      by_cases hlt:i<X.length
      ·have hlt':(i:Int)<X.length:=by omega
       have y0:wr.cell? ⟨g,i,none⟩=some (.bool (decide (i ∈ met))):=by rw [HA3.out.2.2.cell,mtV_at _ _ _ hlt]
       by_cases hin:Rt (Ed (kX X)) rn i
       ·have HI2:Hid (∀j,j<i+1→Rt (Ed (kX X)) rn j):=fun j hj=>by
         by_cases e:j=i
         ·rw [e];exact hin
         ·exact HI.out j (by omega)
        by_cases hir:i=rn
        ·subst hir
         clear HI hin HRt
         go_wp2_with fail
         go_roundw
         case rel=>exact ⟨i+1,by go_num,by omega,HI2,by simp [Hid]⟩
         case measure=>simp [intOf];omega
        ·have hir':¬((i:Int)=rn):=by omega
         rw [decide_eq_true (((HRt.out i).1 hin).resolve_left hir)] at y0
         clear HI hin HRt
         go_wp2_with fail
         go_roundw
         case rel=>exact ⟨i+1,by go_num,by omega,HI2,by simp [Hid]⟩
         case measure=>simp [intOf];omega
       ·have hir:i≠rn:=fun e=>hin (e ▸ Rt.refl _ _)
        have hir':¬((i:Int)=rn):=by omega
        rw [decide_eq_false (fun q=>hin ((HRt.out i).2 (.inr q)))] at y0
        have HV:Hid (CheckOut X rn w wr (.returned (.tuple #[.int .i64 15,.int .i64 (i:Int)]))):=⟨_,_,rfl,.inr (.inr ⟨hr,Hok.out,.inr ⟨Hno.out,.inl ⟨i,rfl,rfl,hlt,by simpa using hin,fun j hj=>by simpa using HI.out j hj⟩⟩⟩),HA3.out.2.1⟩
        clear HI hin HRt Hok HS HA3 Hno
        go_wp2_with fail
        go_ret2
        exact HV.out
      ·have hlt':¬(i:Int)<X.length:=by omega
       have HV:Hid (CheckOut X rn w wr (.returned (.tuple #[.int .i64 0,.int .i64 0]))):=⟨_,_,rfl,.inr (.inr ⟨hr,Hok.out,.inr ⟨Hno.out,.inr ⟨rfl,rfl,fun x hx=>by simpa using HI.out x (by omega)⟩⟩⟩),HA3.out.2.1⟩
       clear HI HRt Hok HS HA3 Hno
       go_wp2_with fail
       go_ret2
       exact HV.out
  ·have HV:Hid (CheckOut X rn w w2 (.returned (.tuple #[.int .i64 13,.int .i64 (i:Int)]))):=⟨_,_,rfl,.inr (.inl ⟨hr,i,hi,rfl,rfl,hno,hbe⟩),HA2.out.2⟩
   clear HS HA2 hi hno hbe
   go_wp2_with fail
   go_ret2
   exact HV.out
 ·have hr':isPb X.length r=false:=by simpa using hr
  go_enter Tryz.func39,Tryz.ntmps39
  go_wp2_with (go_at_call 86;refine (place_any _ _ _ _ _ _).mono ?_;rintro e w1 ⟨rfl,hb1⟩;rw [hr'])
  go_ret2
  exact ⟨_,_,rfl,.inl ⟨hr',rfl,rfl⟩,HA0.out.2.trans (hb1.mono HA0.out.2.size)⟩
def RightOut (X:List Nx) (r:Int) (w w':World) (e:Ending):Prop:=∃b,e=.returned (.bool b)∧(b=true↔RightIs X r)∧Below w.heap.size w w'
set_option maxRecDepth 10000 in
set_option maxHeartbeats 400000 in
theorem right_any (X:List Nx) (a:Option Addr) (c:Nat) (r:Int) (w:World) (h:ScAt w a X) (hX:Small X) :
  Calls Tryz.prog 43 #[.agg #[.slice a X.length c,.int .i64 r]] w fun e w'=>RightOut X r w w' e:=by
 have HB:Hid (Below w.heap.size w (w.alloc (.cells #[.slice a X.length c,.int .i64 r] 24))):=(Below.refl w.heap.size w).alloc (Nat.le_refl _) _
 have HC:Hid (Calls Tryz.prog 39 #[.agg #[.slice a X.length c,.int .i64 r]] (w.alloc (.cells #[.slice a X.length c,.int .i64 r] 24)) fun e w'=>CheckOut X r (w.alloc (.cells #[.slice a X.length c,.int .i64 r] 24)) w' e):=rcheck_any X a c r _ (h.alloc _) hX
 clear h hX
 go_enter Tryz.func43,Tryz.ntmps43
 go_wp2_with fail
 refine Calls.mono HC.out ?_
 rintro e w1 ⟨n,z,rfl,hck,hb1⟩
 have HB1:Hid (Below w.heap.size w w1):=HB.out.trans (hb1.mono HB.out.size)
 have HR:Hid (n=0↔RightIs X r):=hck.right
 clear HC HB hb1 hck
 by_cases h0:n=0
 ·have HT:Hid (RightIs X r):=HR.out.1 h0
  clear HR
  subst h0
  go_wp2_with fail
  go_ret
  exact ⟨true,rfl,⟨fun _=>HT.out,fun _=>rfl⟩,HB1.out⟩
 ·have HT:Hid (¬RightIs X r):=fun q=>h0 (HR.out.2 q)
  clear HR
  go_wp2_with fail
  go_ret
  refine ⟨false,?_,⟨fun q=>by simp at q,fun q=>absurd q HT.out⟩,HB1.out⟩
  simp [h0]
end Go.Proofs.YtgoffkfpdigeeaaGreatDoor
namespace Go.Proofs.YtgoffkfpdigeeaaGreatDoor
open Go.RowKit Go.Maps Go.WideMaps Go.Sort
theorem fold1_mem (f:Nat→Nat) (l:List Nat) (k:Nat) (hk:k ∈ l):f k≤fold1 f l:=by
 have:∀(l:List Nat) (m:Nat),k ∈ l→f k≤l.foldl (fun m k=>max m (f k)) m:=by
  intro l
  induction l with
  | nil=>intro m q;simp at q
  | cons x t ih=>
   intro m q
   rw [List.foldl_cons]
   rcases List.mem_cons.1 q with rfl|q
   ·exact Nat.le_trans (Nat.le_max_right _ _) (foldl_ge f t _)
   ·exact ih _ q
 exact this l 0 hk
theorem getD_toNat (l:List Int) (j:Nat) (hj:j<l.length):(l.map Int.toNat).getD j 0=(l.getD j 0).toNat:=by simp [hj]
theorem HtIs.uniq {K:List (List Nat)} {h h':Nat→Nat} (hh:HtIs K h) (hh':HtIs K h') (hk:Ok9 K):∀(n a:Nat),h a=n→a<K.length→h a=h' a:=by
 intro n
 induction n using Nat.strongRecOn with
 | _ n ih=>
  intro a hn ha
  rw [hh a ha,hh' a ha]
  congr 1
  refine fold1_congr _ (fun k e=>ih (h k) ?_ k rfl (hk a k e))
  have:=fold1_mem h _ k e
  have:=hh a ha
  omega
def DepsOut (X:List Nx) (h:Nat→Nat) (w w':World) (e:Ending):Prop:=∃g out,e=.returned (.slice (some ⟨g,0,none⟩) X.length X.length)∧AtN 3 w' g (fnV X.length out)∧(∀x,x<X.length→out x=h x)∧Below w.heap.size w w'
set_option maxRecDepth 10000 in
set_option maxHeartbeats 1000000 in
theorem depths_any (X:List Nx) (a:Option Addr) (c:Nat) (r:Int) (w:World) (h:Nat→Nat) (hs:ScAt w a X) (hX:Small X) (hok:∀i,i<X.length→okAt X i) (hh:HtIs (kX X) h) (hle:∀x,x<X.length→h x≤X.length) :
  Calls Tryz.prog 48 #[.agg #[.slice a X.length c,.int .i64 r]] w fun e w'=>DepsOut X h w w' e:=by
 obtain ⟨i0,hi,hz0,hz1,hz2⟩:=info_parts Tryz.infoI7
 have hn:=hX.1
 have HS:Hid (ScAt w a X∧Small X∧(∀i,i<X.length→okAt X i)∧HtIs (kX X) h∧∀x,x<X.length→h x≤X.length):=⟨hs,hX,hok,hh,hle⟩
 have hmk:(Instr.makeSlice 49 (.int .i64 (X.length:Int)) (.int .i64 (X.length:Int))).run Tryz.prog (w.alloc (.cells #[.slice a X.length c,.int .i64 r] 24))=.ok (.slice (some ⟨w.heap.size+1,0,none⟩) X.length X.length) ((w.alloc (.cells #[.slice a X.length c,.int .i64 r] 24)).alloc (.cells (fnV X.length (fun _=>0)) 3)):=by
  have:=run_make (P:=Tryz.prog) (w.alloc (.cells #[.slice a X.length c,.int .i64 r] 24)) 49 3 i0 (.int .i64 0) Tryz.underlying49 hi hz0 .i64 .i64 X.length X.length (by omega) (by omega) (by rw [hz2];omega) (by omega)
  rw [hz1,Int.toNat_natCast,fnV_new] at this
  simpa using this
 have HA1:Hid (AtN 3 ((w.alloc (.cells #[.slice a X.length c,.int .i64 r] 24)).alloc (.cells (fnV X.length (fun _=>0)) 3)) (w.heap.size+1) (fnV X.length (fun _=>0))):=mk_at (AtN.new _ 3 _) (by simp)
 have HA0:Hid (AtN 24 ((w.alloc (.cells #[.slice a X.length c,.int .i64 r] 24)).alloc (.cells (fnV X.length (fun _=>0)) 3)) w.heap.size #[.slice a X.length c,.int .i64 r]):=(AtN.new w 24 _).alloc _
 have HB1:Hid (Below w.heap.size w ((w.alloc (.cells #[.slice a X.length c,.int .i64 r] 24)).alloc (.cells (fnV X.length (fun _=>0)) 3))):=((Below.refl w.heap.size w).alloc (Nat.le_refl _) _).alloc (by simp) _
 obtain ⟨f0,hf0⟩:∃f,fnV X.length (fun _=>0)=f:=⟨_,rfl⟩
 have Hf0:Hid (fnV X.length (fun _=>0)=f0):=hf0
 rw [hf0] at hmk HA1 HA0 HB1
 clear hs hX hok hh hle hf0
 go_enter Tryz.func48,Tryz.ntmps48
 go_wp2_with fail
 go_loopw [4] (fun rv wr=>∃(q:Nat) (out:Nat→Nat),rv=.int .i64 q∧q≤X.length+1∧Hid (RdInv (kX X) h q 0 out)∧Hid (AtN 3 wr (w.heap.size+1) (fnV X.length out))∧Hid (AtN 24 wr w.heap.size #[.slice a X.length c,.int .i64 r])∧Hid (Below w.heap.size w wr)) (fun rv _=>X.length+1-(intOf rv).toNat)
 case atStart=>exact ⟨0,fun _=>0,rfl,by omega,RdInv.start HS.out.2.2.2.1,Hf0.out ▸ HA1,HA0,HB1⟩
 case round=>
  clear HA1 HA0 HB1 hmk Hf0
  obtain ⟨q,out,rfl,hq,HR,HA,HAs,HB⟩:=hrel
  have x0:wr.cell? ⟨w.heap.size,0,none⟩=some (.slice a X.length c):=HAs.out.cell 0
  by_cases hlt:q≤X.length
  ·have hlt':(q:Int)≤X.length:=by omega
   go_wp2_with fail
   go_loopw [5] (fun iv wr=>∃(i:Nat) (out:Nat→Nat),iv=.int .i64 i∧i≤X.length∧Hid (RdInv (kX X) h q i out)∧Hid (AtN 3 wr (w.heap.size+1) (fnV X.length out))∧Hid (AtN 24 wr w.heap.size #[.slice a X.length c,.int .i64 r])∧Hid (Below w.heap.size w wr)) (fun iv _=>X.length-(intOf iv).toNat)
   case atStart=>exact ⟨0,out,rfl,by omega,HR,HA,HAs,HB⟩
   case round=>
    clear HR HA HAs HB x0
    obtain ⟨i,out,rfl,hi',HR,HA,HAs,HB⟩:=hrel
    have x0:wr.cell? ⟨w.heap.size,0,none⟩=some (.slice a X.length c):=HAs.out.cell 0
    by_cases hil:i<X.length
    ·have hil':(i:Int)<X.length:=by omega
     have HN:Hid (RdInv (kX X) h q (i+1) (upd out i (max (out i) (fold1 out ((X.getD i noNx).nd.kids.map Int.toNat)+1)))):=by
      have:=HR.out.step HS.out.2.2.2.1 (kX_ok HS.out.2.2.1) (by rw [kX_length];exact hil)
      rwa [kX_at X i hil] at this
     have hout:∀x,x<X.length→out x≤1401:=fun x hx=>by
      have h1:=HR.out.le x (by rw [kX_length];exact hx)
      have h2:=HS.out.2.2.2.2 x hx
      omega
     have HP:Hid (∀j,j<(X.getD i noNx).nd.kids.length→∃k:Nat,(X.getD i noNx).nd.kids.getD j 0=k∧((X.getD i noNx).nd.kids.map Int.toNat).getD j 0=k∧k<X.length):=fun j hj=>by
      have:=isPb_iff.1 (HS.out.2.2.1 i hil j hj)
      refine ⟨((X.getD i noNx).nd.kids.getD j 0).toNat,(Int.toNat_of_nonneg this.1).symm,?_,by omega⟩
      exact getD_toNat _ j hj
     have hkl:=HS.out.2.1.kids hil
     have HE:Hid (∀W,Below w.heap.size w W→∃b o,a=some ⟨b,o,none⟩∧b<w.heap.size∧W.cell? ⟨b,o+i*4+3,none⟩=some (.slice (X.getD i noNx).a3 (X.getD i noNx).nd.kids.length (X.getD i noNx).c3)∧LsAt W (X.getD i noNx).a3 (iV (X.getD i noNx).nd.kids)):=fun W hW=>by
      obtain ⟨b,o,e,hb,_⟩:=HS.out.1.node hil
      have hs:=HS.out.1.belowB hW
      obtain ⟨b',o',e',_,_,_,_,d⟩:=hs.node hil
      rw [e] at e'
      cases e'
      exact ⟨b,o,e,hb,d,(hs.each i hil).k⟩
     have Hout:Hid (∀x,x<X.length→out x≤1401):=hout
     have hlenK:((X.getD i noNx).nd.kids.map Int.toNat).length=(X.getD i noNx).nd.kids.length:=by simp
     have HlK:Hid (((X.getD i noNx).nd.kids.map Int.toNat).length=(X.getD i noNx).nd.kids.length):=hlenK
     generalize (X.getD i noNx).nd.kids.map Int.toNat=ks at *
     generalize X.getD i noNx=N at *
     clear hout hlenK HR
     go_wp2_with fail
     go_loopw [6,7] (fun nv jv wr=>∃(j A:Nat),jv=.int .i64 j∧nv=.int .i64 (A:Int)∧j≤N.nd.kids.length∧A≤1401∧Hid (A=fold1 out (ks.take j))∧Hid (AtN 3 wr (w.heap.size+1) (fnV X.length out))∧Hid (AtN 24 wr w.heap.size #[.slice a X.length c,.int .i64 r])∧Hid (Below w.heap.size w wr)) (fun _ jv _=>N.nd.kids.length-(intOf jv).toNat)
     case atStart=>exact ⟨0,0,rfl,rfl,by omega,by omega,rfl,HA,HAs,HB⟩
     case round=>
      clear HA HAs HB x0
      obtain ⟨j,A,rfl,rfl,hj,hA60,Hfo,HA,HAs,HB⟩:=hrel
      have x0:wr.cell? ⟨w.heap.size,0,none⟩=some (.slice a X.length c):=HAs.out.cell 0
      obtain ⟨b,o,rfl,hbl,d3,hk3⟩:=HE.out wr HB.out
      by_cases hjl:j<N.nd.kids.length
      ·have hjl':(j:Int)<N.nd.kids.length:=by omega
       obtain ⟨b2,o2,e2,hb2,d4⟩:=hk3.at (iV_at _ j hjl)
       obtain ⟨k,hk1,hk2,hk3'⟩:=HP.out j hjl
       rw [hk1] at d4
       rw [e2] at d3
       have y0:wr.cell? ⟨w.heap.size+1,k,none⟩=some (.int .i64 (out k:Int)):=by rw [HA.out.cell,fnV_at _ _ _ hk3']
       have hk3'':(k:Int)<X.length:=by omega
       have hok60:=Hout.out k hk3'
       have HT:Hid (max A (out k)=fold1 out (ks.take (j+1))):=by
        show _=_
        rw [fold1_take out ks j (by rw [HlK.out];exact hjl),hk2,← Hfo.out]
       generalize out k=C at *
       clear hk3 HN HP HE hk1 hk2 Hfo Hout
       by_cases hgt:A<C
       ·have hgt':(A:Int)<C:=by omega
        rw [Nat.max_eq_right (by omega)] at HT
        go_wp2_with fail
        go_roundw
        case rel=>exact ⟨j+1,C,by go_num,rfl,by omega,by omega,HT,HA,HAs,HB⟩
        case measure=>simp [intOf];omega
       ·have hgt':¬(A:Int)<C:=by omega
        rw [Nat.max_eq_left (by omega)] at HT
        go_wp2_with fail
        go_roundw
        case rel=>exact ⟨j+1,A,by go_num,rfl,by omega,by omega,HT,HA,HAs,HB⟩
        case measure=>simp [intOf];omega
      ·have hjl':¬(j:Int)<N.nd.kids.length:=by omega
       have hfa:A=fold1 out ks:=by
        have h0:A=fold1 out (ks.take j):=Hfo.out
        rwa [List.take_of_length_le (by rw [HlK.out];omega)] at h0
       have y0:wr.cell? ⟨w.heap.size+1,i,none⟩=some (.int .i64 (out i:Int)):=by rw [HA.out.cell,fnV_at _ _ _ hil]
       have yf:=HA.out.fz i
       have ho60:=Hout.out i hil
       rw [← hfa] at HN
       by_cases hgt:out i<A+1
       ·have hgt':(out i:Int)<(A:Int)+1:=by omega
        have HN2:Hid (RdInv (kX X) h q (i+1) (upd out i (A+1))):=by
         have:=HN.out
         rwa [Nat.max_eq_right (by omega)] at this
        have HA2:Hid (AtN 3 (wr.setCell ⟨w.heap.size+1,i,none⟩ (.int .i64 ((A:Int)+1))) (w.heap.size+1) (fnV X.length (upd out i (A+1)))):=by
         have:=AtN.set HA.out i (.int .i64 ((A+1:Nat):Int))
         rwa [fnV_set] at this
        have HAs2:Hid (AtN 24 (wr.setCell ⟨w.heap.size+1,i,none⟩ (.int .i64 ((A:Int)+1))) w.heap.size #[.slice (some ⟨b,o,none⟩) X.length c,.int .i64 r]):=AtN.setOther HAs.out _ (by show w.heap.size+1≠w.heap.size;omega) _
        have HB2:Hid (Below w.heap.size w (wr.setCell ⟨w.heap.size+1,i,none⟩ (.int .i64 ((A:Int)+1)))):=set_below HB.out _ (by show w.heap.size≤w.heap.size+1;omega) _
        generalize out i=D at *
        clear hfa Hfo HN HP HE HA HAs HB Hout hk3
        go_wp2_with fail
        go_roundw
        case rel=>exact ⟨i+1,_,by go_num,by omega,HN2,HA2,HAs2,HB2⟩
        case measure=>simp [intOf];omega
       ·have hgt':¬((out i:Int)<(A:Int)+1):=by omega
        have HN2:Hid (RdInv (kX X) h q (i+1) out):=by
         have:=HN.out
         rwa [Nat.max_eq_left (by omega),upd_self _ _ _ rfl] at this
        generalize out i=D at *
        clear hfa Hfo HN HP HE Hout hk3
        go_wp2_with fail
        go_roundw
        case rel=>exact ⟨i+1,out,by go_num,by omega,HN2,HA,HAs,HB⟩
        case measure=>simp [intOf];omega
    ·have hil':¬(i:Int)<X.length:=by omega
     have HN2:Hid (RdInv (kX X) h (q+1) 0 out):=HR.out.next (by rw [kX_length];omega)
     clear HR
     go_wp2_with fail
     go_roundw
     case rel=>exact ⟨q+1,out,by go_num,by omega,HN2,HA,HAs,HB⟩
     case measure=>simp [intOf];omega
  ·have hlt':¬(q:Int)≤X.length:=by omega
   have HV:Hid (DepsOut X h w wr (.returned (.slice (some ⟨w.heap.size+1,0,none⟩) X.length X.length))):=⟨w.heap.size+1,out,rfl,HA.out,fun x hx=>HR.out.old x (by rw [kX_length];exact hx) (by have:=HS.out.2.2.2.2 x hx;omega),HB.out⟩
   clear HR HA HAs HB HS
   go_wp2_with fail
   go_ret
   exact HV.out
end Go.Proofs.YtgoffkfpdigeeaaGreatDoor
