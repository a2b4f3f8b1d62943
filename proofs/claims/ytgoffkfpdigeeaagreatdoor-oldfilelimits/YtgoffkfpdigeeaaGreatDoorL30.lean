import Derived.Stop.Joined
import Derived.LaidMore
import Derived.SevenTiedAt
import Derived.Test.YtgoffkfpdigeeaaGreatDoorL26
import Derived.Test.YtgoffkfpdigeeaaGreatDoorL17
import Derived.Test.YtgoffkfpdigeeaaGreatDoorL12
import Derived.Test.YtgoffkfpdigeeaaGreatDoorL23
import Derived.Test.YtgoffkfpdigeeaaGreatDoorL28
import Derived.Test.YtgoffkfpdigeeaaGreatDoorL29
namespace Go.Proofs.YtgoffkfpdigeeaaGreatDoor
open Go.ChangeShapes Go.WideShapes Go.ChangeAt Go.RowKit Go.Joins Go.Deep Go.Maps Go.WideMaps Go.Sort
section
variable {H:Type} {enc:TypeId × Value→H} {P:Program} {w:World}
end
theorem IsSc.fn {w:World} {a:Option Addr} {X:List Nx} {r:Int} (h:IsSc w a X r):FnX X:=fun i hi j hj=>by
 have h1:=(h.rg i hi).ints
 generalize (X.getD i noNx).nd.ints=T at *
 exact h1 _ (by rw [List.getD_eq_getElem?_getD,List.getElem?_eq_getElem hj];exact List.getElem_mem hj)
structure Lg (w W:World) (l:Lm):Prop where
 a:AtN 26 W w.heap.size #[.int .i64 l.b,.int .i64 l.n,.int .i64 l.e,.int .i64 l.d,.int .i64 l.x]
 bel:Below w.heap.size w W
structure L5 (w W:World) (a:Option Addr) (X:List Nx) (c:Nat) (r:Int) (l:Lm):Prop where
 s:AtN 24 W w.heap.size #[.slice a X.length c,.int .i64 r]
 l:AtN 26 W (w.heap.size+1) #[.int .i64 l.b,.int .i64 l.n,.int .i64 l.e,.int .i64 l.d,.int .i64 l.x]
 bel:Below w.heap.size w W
section
variable {w W W':World} {a:Option Addr} {X:List Nx} {c:Nat} {r q:Int} {l:Lm}
theorem Lg.more (h:Lg w W l) (hb:Below W.heap.size W W'):Lg w W' l:=⟨h.a.belowAll hb,h.bel.trans (hb.mono h.bel.size)⟩
theorem Lg.start (w:World) (l:Lm):Lg w (w.alloc (.cells #[.int .i64 l.b,.int .i64 l.n,.int .i64 l.e,.int .i64 l.d,.int .i64 l.x] 26)) l:=⟨AtN.new w 26 _,(Below.refl w.heap.size w).alloc (Nat.le_refl _) _⟩
theorem Lg.all (h:Lg w W l):W.cell? ⟨w.heap.size,0,none⟩=some (.int .i64 l.b)∧W.cell? ⟨w.heap.size,1,none⟩=some (.int .i64 l.n)∧W.cell? ⟨w.heap.size,2,none⟩=some (.int .i64 l.e)∧W.cell? ⟨w.heap.size,3,none⟩=some (.int .i64 l.d)∧W.cell? ⟨w.heap.size,4,none⟩=some (.int .i64 l.x):=
 ⟨h.a.cell 0,h.a.cell 1,h.a.cell 2,h.a.cell 3,h.a.cell 4⟩
theorem L5.more (h:L5 w W a X c r l) (hb:Below W.heap.size W W'):L5 w W' a X c r l:=⟨h.s.belowAll hb,h.l.belowAll hb,h.bel.trans (hb.mono h.bel.size)⟩
theorem L5.start (w:World) (a:Option Addr) (X:List Nx) (c:Nat) (r:Int) (l:Lm):L5 w ((w.alloc (.cells #[.slice a X.length c,.int .i64 r] 24)).alloc (.cells #[.int .i64 l.b,.int .i64 l.n,.int .i64 l.e,.int .i64 l.d,.int .i64 l.x] 26)) a X c r l:=
 ⟨(AtN.new w 24 _).alloc _,mk_at (AtN.new (w.alloc _) 26 _) (by simp),((Below.refl w.heap.size w).alloc (Nat.le_refl _) _).alloc (by simp) _⟩
theorem L5.sc (h:L5 w W a X c r l) (hs:IsSc w a X q):ScAt W a X:=hs.sc.belowB h.bel
theorem L5.all (h:L5 w W a X c r l):W.cell? ⟨w.heap.size,0,none⟩=some (.slice a X.length c)∧W.cell? ⟨w.heap.size,1,none⟩=some (.int .i64 r)∧W.cell? ⟨w.heap.size+1,0,none⟩=some (.int .i64 l.b)∧W.cell? ⟨w.heap.size+1,1,none⟩=some (.int .i64 l.n)∧W.cell? ⟨w.heap.size+1,2,none⟩=some (.int .i64 l.e)∧W.cell? ⟨w.heap.size+1,3,none⟩=some (.int .i64 l.d)∧W.cell? ⟨w.heap.size+1,4,none⟩=some (.int .i64 l.x):=
 ⟨h.s.cell 0,h.s.cell 1,h.l.cell 0,h.l.cell 1,h.l.cell 2,h.l.cell 3,h.l.cell 4⟩
end
set_option maxRecDepth 10000 in
theorem wide_any (w:World):Calls Tryz.prog 22 #[] w fun e w'=>e=.returned (.agg #[.int .i64 16777216,.int .i64 16777216,.int .i64 16777216,.int .i64 16777216,.int .i64 16777216])∧Below w.heap.size w w':=by
 have HA:Hid (∀o:Obj,o=.cells #[.int .i64 16777216,.int .i64 16777216,.int .i64 16777216,.int .i64 16777216,.int .i64 16777216] 26→AtN 26 (w.alloc o) w.heap.size #[.int .i64 16777216,.int .i64 16777216,.int .i64 16777216,.int .i64 16777216,.int .i64 16777216]∧Below w.heap.size w (w.alloc o)):=by
  rintro _ rfl
  exact ⟨AtN.new w 26 _,(Below.refl w.heap.size w).alloc (Nat.le_refl _) _⟩
 go_enter Tryz.func22,Tryz.ntmps22
 go_wp2_with fail
 obtain ⟨h1,h2⟩:=HA.out _ rfl
 have c0:=h1.cell 0
 have c1:=h1.cell 1
 have c2:=h1.cell 2
 have c3:=h1.cell 3
 have c4:=h1.cell 4
 exact bodyPost_ret (v:=.agg #[.int .i64 16777216,.int .i64 16777216,.int .i64 16777216,.int .i64 16777216,.int .i64 16777216]) (by simp [results,Tryz.results22,go_sem,c0,c1,c2,c3,c4]) rfl ⟨rfl,h2⟩
theorem bel_drew (w:World):Below w.heap.size w w.drew:=⟨rfl,rfl,rfl,Nat.le_refl _,fun _ _=>rfl⟩
def wL:Lm:=⟨16777216,16777216,16777216,16777216,16777216⟩
end Go.Proofs.YtgoffkfpdigeeaaGreatDoor
namespace Go.Proofs.YtgoffkfpdigeeaaGreatDoor
open Go.RowKit Go.Maps Go.WideMaps Go.Sort
theorem Mkg.cur {w w':World} {B go gc:Nat} {r:Int} {v:Value} {Y:List Nx} {x y z:Value} (h:Mkg w B go r v Y) (hg:w.grownBy w' (some gc)) (hc:At3 72 w gc x y z):Mkg w' B go r v Y:=by
 have hc':AtN 72 w gc #[x,y,z]:=hc
 have hF:Fr (fun b=>b=gc) w w':=Fr.of_grown hg (fun k e=>by cases e;rfl)
 have hal:Alien w (fun b=>b=gc):=fun b hb _=>⟨_,_,_,hb ▸ hc,by decide,by decide,by decide⟩
 refine ⟨h.sc.fr hF (fun e=>?_),own_fr h.row hF (fun b hb e=>own_ne_at h.row hc' (by decide) b hb e),fun j hj=>(h.each j hj).fr hF hal⟩
 subst e
 have h1:w.heap[go]? = _:=h.sc
 have h2:w.heap[go]? = _:=hc
 rw [h1] at h2
 cases h2
theorem okL_in {l:Lm} (h:okL l=true):(0≤l.b∧l.b≤16777216)∧(0≤l.n∧l.n≤16777216)∧(0≤l.e∧l.e≤16777216)∧(0≤l.d∧l.d≤16777216)∧(0≤l.x∧l.x≤16777216):=by
 have key:∀i,i<5→0≤(lmL l).getD i 0∧(lmL l).getD i 0≤16777216:=fun i hi=>by
  by_cases q:(lmL l).getD i 0<0∨16777216<(lmL l).getD i 0
  ·have:=okL_no l i hi q
   rw [h] at this;cases this
  ·omega
 exact ⟨key 0 (by omega),key 1 (by omega),key 2 (by omega),key 3 (by omega),key 4 (by omega)⟩
def liC (l:Lm):Array Value:=#[.int .i64 l.b,.int .i64 l.n,.int .i64 l.e,.int .i64 l.d,.int .i64 l.x]
theorem OwnNd.frAt {S:Nat→Prop} {W W':World} {B:Nat} {N:Nd} {a1 a2 a3:Option Addr} {c1 c2 c3:Nat} (h:OwnNd W B N (.slice a1 N.ints.length c1) (.slice a2 N.texts.length c2) (.slice a3 N.kids.length c3)) (k:Fr S W W') (hs:∀i,S i→i<B):NdAt W' N a1 a2 a3:=by
 have key:∀{e n v xs},W.ownsRow B e 1 v n xs→W'.ownsRow B e 1 v n xs:=fun {e n v xs} ho=>own_fr ho k (fun r hr q=>by have:=(ho.lt r hr).1;have:=hs r q;omega)
 exact OwnNd.ndAt ⟨key h.i,key h.t,key h.k⟩
theorem Mkg.low {w w':World} {B go c:Nat} {r:Int} {a:Option Addr} {Y:List Nx} {S:Nat→Prop} (h:Mkg w B go r (.slice a Y.length c) Y) (k:Fr S w w') (hs:∀i,S i→i<B):ScAt w' a Y:=
 ⟨LsAt.of_own4' (own_fr h.row k (fun r hr q=>by have:=(h.row.lt r hr).1;have:=hs r q;omega)),fun i hi=>OwnNd.frAt (h.each i hi) k hs⟩
end Go.Proofs.YtgoffkfpdigeeaaGreatDoor
namespace Go.Proofs.YtgoffkfpdigeeaaGreatDoor
open Go.RowKit Go.Maps Go.WideMaps Go.Sort
def LoOut (b:ByteArray) (l:Lm) (w w':World) (e:Ending):Prop:=∃(X:List Nx) (a:Option Addr) (c:Nat) (k:Int),e=.returned (.tuple #[.agg #[.slice a X.length c,.int .i64 0],.int .i64 k])∧LoIs b l (X.map Nx.nd) k∧(∀W,Fr (fun b=>b<w.heap.size) w' W→ScAt W a X)∧Small X∧FnX X∧Below w.heap.size w w'
theorem LoIs.bad {b:ByteArray} {l:Lm} {k:Int} (h:(opK b l).1=k) (hk:k≠0):LoIs b l (([]:List Nx).map Nx.nd) k:=.inl ⟨by rw [h];exact hk,h.symm,rfl⟩
theorem LoIs.pay {b R:ByteArray} {l:Lm} {k:Int} (h0:opK b l=(0,R)) (h:(oPay R l.n l.e l.x).2=k) (hk:k≠0):LoIs b l (([]:List Nx).map Nx.nd) k:=by
 refine .inr ⟨by rw [h0],?_⟩
 rw [h0]
 exact .inl ⟨by rw [h];exact hk,h.symm,rfl⟩
theorem LoIs.fin {b R:ByteArray} {l:Lm} {X:List Nx} {d:Nat} {n z:Int} (h0:opK b l=(0,R)) (h:oPay R l.n l.e l.x=(X.map Nx.nd,0)) (hd:DepthIs X 0 d) (hc:CheckIs X 0 n z) :
  (n≠0→LoIs b l (([]:List Nx).map Nx.nd) n)∧(n=0→(inL (meL X d) l=false→LoIs b l (([]:List Nx).map Nx.nd) 19)∧(inL (meL X d) l=true→LoIs b l (X.map Nx.nd) 0)):=by
 have hs:(bare (X.map Nx.nd)).map Nx.nd=X.map Nx.nd:=bare_nd _
 have key:∀P e,((n≠0∧e=n∧P=[])∨(n=0∧((inL (meL X d) l=false∧e=19∧P=[])∨(inL (meL X d) l=true∧e=0∧P=X.map Nx.nd))))→LoIs b l P e:=fun P e q=>by
  refine .inr ⟨by rw [h0],?_⟩
  rw [h0]
  refine .inr ⟨by rw [h],d,n,z,?_,?_,?_⟩
  ·rw [h]
   exact same_depth hs.symm hd
  ·rw [h]
   exact same_check hs.symm hc
  ·rw [h]
   dsimp only
   rw [same_meL hs]
   exact q
 exact ⟨fun q=>key _ _ (.inl ⟨q,rfl,rfl⟩),fun q=>⟨fun q2=>key _ _ (.inr ⟨q,.inl ⟨q2,rfl,rfl⟩⟩),fun q2=>key _ _ (.inr ⟨q,.inr ⟨q2,rfl,rfl⟩⟩)⟩⟩
section
variable (R:ByteArray) (n ed tx:Int)
theorem oPay_3 {x e:Int} {k:Nat} (h:pUint R 0 0 n=(x,k,e)) (he:e≠0):(oPay R n ed tx).2=e:=by
 unfold oPay;rw [h];dsimp only;rw [if_pos he]
theorem oPay_4 {k:Nat} (h:pUint R 0 0 n=(0,k,0)):(oPay R n ed tx).2=13:=by
 unfold oPay;rw [h];dsimp only;rw [if_neg (by simp),if_pos rfl]
theorem oPay_5 {x:Int} {k:Nat} (h:pUint R 0 0 n=(x,k,0)) (hx:x≠0) {P:List Nd} {k':Nat} {e:Int} (h2:oNds R x tx x.toNat 0 ed k=(P,k',e)) (he:e≠0):(oPay R n ed tx).2=e:=by
 unfold oPay;rw [h];dsimp only;rw [if_neg (by simp),if_neg hx,h2];dsimp only;rw [if_pos he]
theorem oPay_6 {x:Int} {k:Nat} (h:pUint R 0 0 n=(x,k,0)) (hx:x≠0) {P:List Nd} {k':Nat} (h2:oNds R x tx x.toNat 0 ed k=(P,k',0)) (hk:k'<R.size):(oPay R n ed tx).2=8:=by
 unfold oPay;rw [h];dsimp only;rw [if_neg (by simp),if_neg hx,h2];dsimp only;rw [if_neg (by simp),if_pos hk]
theorem oPay_7 {x:Int} {k:Nat} (h:pUint R 0 0 n=(x,k,0)) (hx:x≠0) {P:List Nd} {k':Nat} (h2:oNds R x tx x.toNat 0 ed k=(P,k',0)) (hk:¬k'<R.size):oPay R n ed tx=(P,0):=by
 unfold oPay;rw [h];dsimp only;rw [if_neg (by simp),if_neg hx,h2];dsimp only;rw [if_neg (by simp),if_neg hk]
end
theorem put_one (n:Nat):1≤(put n).length:=(put_length n).1
theorem oK_len:∀K:List Int,K.length≤(oK K).length
 | []=>Nat.le_refl _
 | x :: K=>by
  have:=put_one x.toNat
  have:=oK_len K
  rw [show oK (x :: K)=put x.toNat++oK K from rfl,List.length_append,List.length_cons]
  omega
theorem oT_mem:∀(T:List ByteArray) (s:ByteArray),s ∈ T→s.size≤(oT T).length
 | x :: T,s,h=>by
  rw [show oT (x :: T)=(put x.size++x.data.toList)++oT T by simp [oT],List.length_append,List.length_append,list_size]
  rcases List.mem_cons.1 h with rfl|h
  ·omega
  ·have:=oT_mem T s h
   omega
theorem oNd_two {b:ByteArray} {N:Nd} {p c tx ed:Int} {k k1:Nat} (hk:k≤b.size) (h:oNd b p c tx ed k 0=(N,k1,0)):k+2≤k1∧k1≤b.size∧N.kids.length≤b.size∧(b.size≤3000→big N=false)∧fine N.ints∧(N.kids.length:Int)≤ed:=by
 obtain ⟨h1,h2,h3⟩:=oNd_bytes hk h
 have hk1:=oNd_at b p c tx ed k 0 hk
 rw [h] at hk1
 dsimp only at hk1
 have hl:=congrArg List.length h1
 rw [List.length_append,List.length_drop,List.length_drop,list_size] at hl
 have e1:(oB N).length=(put N.kind.toNat).length+(rI N.ints).length+(oT N.texts).length+(put N.kids.length).length+(oK N.kids).length:=by
  unfold oB
  simp only [List.length_append]
 have p1:=put_one N.kind.toNat
 have p2:=put_one N.kids.length
 have p3:=oK_len N.kids
 refine ⟨by omega,hk1.2,by omega,fun hz=>?_,h2.fn,h3⟩
 obtain ⟨g1,g2,g3,_⟩:=tyNo_zero h2.ty
 have hsm:=oldSp_small N.kind
 unfold fitI at g2
 rw [Bool.and_eq_true,decide_eq_true_eq] at g2
 unfold fitT at g3
 rw [Bool.and_eq_true,decide_eq_true_eq] at g3
 cases hb:big N with
 | false=>rfl
 | true=>
  exfalso
  simp only [big,Bool.or_eq_true,decide_eq_true_eq,List.any_eq_true] at hb
  rcases hb with hb|hb|hb|⟨s,hs,hb⟩
  ·omega
  ·omega
  ·omega
  ·have:=oT_mem N.texts s hs
   omega
structure Fq (w W:World) (l:Lm):Prop where
 a:AtN 26 W w.heap.size #[.int .i64 l.b,.int .i64 l.n,.int .i64 l.e,.int .i64 l.d,.int .i64 l.x]
 r:AtN 24 W (w.heap.size+1) #[.slice none 0 0,.int .i64 0]
 n:AtN 24 W (w.heap.size+2) #[.slice none 0 0,.int .i64 0]
 bel:Below w.heap.size w W
theorem Fq.more {w W W':World} {l:Lm} (h:Fq w W l) (hb:Below W.heap.size W W'):Fq w W' l:=⟨h.a.belowAll hb,h.r.belowAll hb,h.n.belowAll hb,h.bel.trans (hb.mono h.bel.size)⟩
structure Gq (w W:World) (lim gS:Nat) (l:Lm) (R:ByteArray):Prop where
 f:Fq w W l
 s:W.cell? ⟨gS,1,none⟩=some (.string R)
 hs:gS<lim
 hl:lim≤W.heap.size
 hw:w.heap.size+3≤lim
section
variable {w W W':World} {lim gS:Nat} {l:Lm} {R:ByteArray}
theorem Gq.fr {S:Nat→Prop} (h:Gq w W lim gS l R) (k:Fr S W W') (hs:∀i,S i→lim≤i):Gq w W' lim gS l R:=by
 have hw:=h.hw
 have hne:∀i,S i→i≠w.heap.size∧i≠w.heap.size+1∧i≠w.heap.size+2∧w.heap.size≤i:=fun i hi=>by have:=hs i hi;omega
 refine ⟨⟨h.f.a.fr k (fun q=>(hne _ q).1 rfl),h.f.r.fr k (fun q=>(hne _ q).2.1 rfl),h.f.n.fr k (fun q=>(hne _ q).2.2.1 rfl),Fr.below h.f.bel k (fun i hi=>(hne i hi).2.2.2) h.f.bel.size⟩,?_,h.hs,Nat.le_trans h.hl k.size,h.hw⟩
 rw [World.cell?_of_block (k.block gS (Nat.lt_of_lt_of_le h.hs h.hl) (fun q=>by have:=hs _ q;have:=h.hs;omega))]
 exact h.s
theorem Gq.more (h:Gq w W lim gS l R) (hb:Below W.heap.size W W'):Gq w W' lim gS l R:=h.fr (Fr.of_below (S:=fun _=>False) hb) (fun _ q=>q.elim)
theorem Gq.cur {gc:Nat} (h:Gq w W lim gS l R) (hg:W.grownBy W' (some gc)) (hc:lim≤gc):Gq w W' lim gS l R:=
 h.fr (Fr.of_grown (S:=fun k=>k=gc) hg (fun k e=>by cases e;rfl)) (fun i e=>by rw [e];exact hc)
theorem lo_bad {b:ByteArray} {k:Int} (hG:LoIs b l (([]:List Nx).map Nx.nd) k) (hb:Below w.heap.size w W) {x0 x1:Value} (hr:AtN 24 W (w.heap.size+1) #[x0,x1]) :
  ∀W',W'=(W.setCell ⟨w.heap.size+1,0,none⟩ (.slice none 0 0)).setCell ⟨w.heap.size+1,1,none⟩ (.int .i64 0)→AtN 24 W' (w.heap.size+1) #[.slice none 0 0,.int .i64 0]∧LoOut b l w W' (.returned (.tuple #[.agg #[.slice none 0 0,.int .i64 0],.int .i64 k])):=by
 rintro _ rfl
 have hF:Fr (fun b=>b=w.heap.size+1) W ((W.setCell ⟨w.heap.size+1,0,none⟩ (.slice none 0 0)).setCell ⟨w.heap.size+1,1,none⟩ (.int .i64 0)):=((Fr.refl (fun b=>b=w.heap.size+1) W).set ⟨w.heap.size+1,0,none⟩ rfl _).set ⟨w.heap.size+1,1,none⟩ rfl _
 refine ⟨by simpa using (hr.set 0 (.slice none 0 0)).set 1 (.int .i64 0),[],none,0,k,rfl,hG,fun _ _=>⟨LsAt.nil _ _,fun i hi=>by simp at hi⟩,⟨by simp,fun i hi=>by simp at hi⟩,fun i hi=>by simp at hi,Fr.below hb hF (fun i e=>by omega) hb.size⟩
end
theorem At3.frO {S:Nat→Prop} {T:TypeId} {w w':World} {g:Nat} {x y z:Value} (h:At3 T w g x y z) (k:Fr S w w') (hb:¬S g):At3 T w' g x y z:=by
 have h':AtN T w g #[x,y,z]:=h
 exact (h'.fr k hb:AtN T w' g #[x,y,z])
theorem LoOut.drew {b:ByteArray} {l:Lm} {w w':World} {e:Ending} (h:LoOut b l w w' e):LoOut b l w w'.drew e:=by
 obtain ⟨X,a,c,k,h1,h2,h3,h4,h5,h6⟩:=h
 have hd:Below w'.heap.size w' w'.drew:=⟨rfl,rfl,rfl,Nat.le_refl _,fun _ _=>rfl⟩
 exact ⟨X,a,c,k,h1,h2,fun W f=>h3 W ((Fr.of_below (S:=fun b=>b<w.heap.size) hd).trans f (fun i hi _=>hi)),h4,h5,h6.trans (hd.mono h6.size)⟩
end Go.Proofs.YtgoffkfpdigeeaaGreatDoor
namespace Go.Proofs.YtgoffkfpdigeeaaGreatDoor
open Go.RowKit Go.Maps Go.WideMaps Go.Sort
theorem oT_le:∀T:List ByteArray,(∀s ∈ T,s.size≤3000)→(oT T).length≤3010*T.length
 | [],_=>Nat.le_refl _
 | x :: T,h=>by
  have h1:=put_length x.size
  have h2:=h x (by simp)
  have h3:=oT_le T fun s q=>h s (by simp [q])
  rw [show oT (x :: T)=(put x.size++x.data.toList)++oT T by simp [oT],List.length_append,List.length_append,list_size,List.length_cons]
  omega
theorem oB_le {N:Nd} (h:SmN N):(oB N).length≤36080:=by
 have h1:=put_length N.kind.toNat
 have h2:=put_length N.kids.length
 have h3:(rI N.ints).length≤10*N.ints.length:=flat_ten _ _
 have h4:(oK N.kids).length≤10*N.kids.length:=flat_ten _ _
 have h5:=oT_le N.texts fun s hs=>by
  obtain ⟨i,hi,rfl⟩:=List.getElem_of_mem hs
  have:=h.s i hi
  rwa [List.getD_eq_getElem?_getD,List.getElem?_eq_getElem hi] at this
 have:=h.i
 have:=h.t
 have:=h.k
 unfold oB
 simp only [List.length_append]
 omega
theorem oBs_le:∀P:List Nd,(∀N ∈ P,(oB N).length≤36080)→(P.flatMap oB).length≤36080*P.length
 | [],_=>Nat.le_refl _
 | N :: P,h=>by
  have h1:=h N (by simp)
  have h2:=oBs_le P fun M q=>h M (by simp [q])
  rw [show (N :: P).flatMap oB=oB N++P.flatMap oB by simp,List.length_append,List.length_cons]
  omega
theorem oC_le {X:List Nx} {r:Int} (hX:Small X) (hf:X.length≤60) (hF:FnX X) (hW:tyEo X=0) (hR:RightIs X r):(oC (X.map Nx.nd)).size≤2164810:=by
 have h1:=put_length (X.map Nx.nd).length
 have h2:=oBs_le (X.map Nx.nd) fun N q=>by
  obtain ⟨x,hx,rfl⟩:=List.mem_map.1 q
  obtain ⟨i,hi,rfl⟩:=List.getElem_of_mem hx
  have e:X[i]=X.getD i noNx:=by rw [List.getD_eq_getElem?_getD,List.getElem?_eq_getElem hi];rfl
  rw [e]
  exact oB_le (smn_of hX hF hW hR i hi)
 have h3:(X.map Nx.nd).length=X.length:=List.length_map _
 have h4:(oC (X.map Nx.nd)).size=(oR (X.map Nx.nd)).length:=by rw [← list_size,oC_list]
 rw [h4]
 unfold oR
 rw [List.length_append]
 omega
theorem oF_sizes {X:List Nx} {r:Int} (hX:Small X) (hf:X.length≤60) (hF:FnX X) (hW:tyEo X=0) (hR:RightIs X r):5≤(oF (X.map Nx.nd)).size∧(oF (X.map Nx.nd)).size≤2164830:=by
 have h1:=oC_le hX hf hF hW hR
 have h4:=(pPut_ok mD 1 (oS (oC (X.map Nx.nd))) (oS_put (by omega))).2.2.2.2.2
 have hb:=bodyL_le 2164810 (oS (oC (X.map Nx.nd))) fun s hs=>by
  simp only [oS,List.mem_cons,List.not_mem_nil,or_false] at hs
  subst hs
  exact h1
 have h5:(oF (X.map Nx.nd)).size=(pPut mD 1 (oS (oC (X.map Nx.nd)))).1.length:=by rw [← list_size,oF_list]
 have h6:=congrArg List.length h4
 rw [List.length_append,List.length_cons] at h6
 have h7:mD.data.toList.length=4:=rfl
 have h8:(oS (oC (X.map Nx.nd))).length=1:=rfl
 rw [h8] at hb
 omega
def QnO (R:ByteArray) (l:Lm):Prop:=
 ∀P k' e',oNds R (pUint R 0 0 l.n).1 l.x (pUint R 0 0 l.n).1.toNat 0 l.e (pUint R 0 0 l.n).2.1=(P,k',e')→P.length≤1401∧∀N ∈ P,big N=false∧fine N.ints
theorem oNds_pre3 (b:ByteArray) (c tx:Int) (hb:b.size≤3000):∀(n:Nat) (p ed:Int) (k:Nat) (P:List Nd) (k':Nat) (e':Int),k≤b.size→oNds b c tx n p ed k=(P,k',e')→k+2*P.length≤b.size∧∀N ∈ P,big N=false∧fine N.ints
 | 0,p,ed,k,P,k',e',hk,h=>by
  simp only [oNds,Prod.mk.injEq] at h
  obtain ⟨rfl,_,_⟩:=h
  exact ⟨by simpa using hk,fun N q=>by simp at q⟩
 | n+1,p,ed,k,P,k',e',hk,h=>by
  obtain ⟨N,k1,e1,hq⟩:∃N k1 e1,oNd b p c tx ed k 0=(N,k1,e1):=⟨_,_,_,rfl⟩
  unfold oNds at h
  rw [hq] at h
  dsimp only at h
  split at h
  ·simp only [Prod.mk.injEq] at h
   obtain ⟨rfl,_,_⟩:=h
   exact ⟨by simpa using hk,fun N q=>by simp at q⟩
  ·rename_i q
   have q0:e1=0:=by omega
   subst q0
   obtain ⟨a1,a2,_,a4,a5,_⟩:=oNd_two hk hq
   obtain ⟨P',k2,e2,hr⟩:∃P' k2 e2,oNds b c tx n (p+1) (ed-N.kids.length) k1=(P',k2,e2):=⟨_,_,_,rfl⟩
   rw [hr] at h
   simp only [Prod.mk.injEq] at h
   obtain ⟨rfl,rfl,rfl⟩:=h
   obtain ⟨b1,b2⟩:=oNds_pre3 b c tx hb n (p+1) (ed-N.kids.length) k1 P' k2 e2 a2 hr
   refine ⟨by simp only [List.length_cons];omega,fun M hM=>?_⟩
   rcases List.mem_cons.1 hM with rfl|hM
   ·exact ⟨a4 hb,a5⟩
   ·exact b2 M hM
theorem qno_small {R:ByteArray} {l:Lm} (h:R.size≤2800):QnO R l:=fun P k' e' hS=>by
 obtain ⟨h1,h2⟩:=oNds_pre3 R _ _ (by omega) _ _ _ _ P k' e' (pUint_at R 0 0 l.n (Nat.zero_le _)).2 hS
 exact ⟨by omega,h2⟩
theorem oNds_pre (b:ByteArray) (c tx0 tx:Int) (hc:c≤16777216) (htx:0≤tx):∀(P:List Nd) (p ed:Int) (k:Nat) (r:List UInt8),k≤b.size→0≤p→b.data.toList.drop k=P.flatMap oB++r→(∀(i:Nat) (N:Nd),P[i]? = some N→OkN N (p+i) c tx0)→(oNds b c tx P.length p ed k).1.length≤P.length∧∀N ∈ (oNds b c tx P.length p ed k).1,N ∈ P
 | [],p,ed,k,r,_,_,_,_=>⟨Nat.le_refl _,fun N q=>by simp [oNds] at q⟩
 | N :: P,p,ed,k,r,hk,hp,h,hi=>by
  have e1:(N :: P).flatMap oB=oB N++P.flatMap oB:=by simp
  rw [e1,List.append_assoc] at h
  have hN:OkN N p c tx0:=by have:=hi 0 N rfl;simpa using this
  rcases oNd_less b N p c tx0 tx ed k _ hk h hN hp hc htx with ⟨hp1,he⟩|hp1
  ·have hk2:=(oNd_at b p c tx ed k 0 hk).2
   rw [hp1] at hk2
   have ih:=oNds_pre b c tx0 tx hc htx P (p+1) (ed-N.kids.length) (k+(oB N).length) r hk2 (by omega) (drop_more h rfl) (fun i M hM=>by
    have:=hi (i+1) M (by simpa using hM)
    rwa [show p+((i+1:Nat):Int)=p+1+i by omega] at this)
   rw [List.length_cons];unfold oNds
   rw [hp1]
   dsimp only
   rw [if_neg (by simp)]
   refine ⟨by simp only [List.length_cons];have:=ih.1;omega,fun M hM=>?_⟩
   rcases List.mem_cons.1 hM with rfl|hM
   ·simp
   ·exact List.mem_cons_of_mem _ (ih.2 M hM)
  ·rw [List.length_cons];unfold oNds
   rw [if_pos (by rw [hp1];decide)]
   exact ⟨Nat.zero_le _,fun M q=>by simp at q⟩
theorem qno_put {X:List Nx} {l l0:Lm} {d:Nat} (hS:Small X) (hF:FnX X) (hW:tyEo X=0) (hf:FowIs X 0) (h0:okL l0=true) (hi0:inL (meL X d) l0=true) (ho:okL l=true):QnO (oC (X.map Nx.nd)) l:=fun P k' e' hP=>by
 have hK:=okp_of hS hF hW hf h0 hi0
 have hb:=oC_list (X.map Nx.nd)
 have h1:(oC (X.map Nx.nd)).data.toList.drop 0=put (X.map Nx.nd).length++((X.map Nx.nd).flatMap oB++[]):=by rw [List.drop_zero,hb,List.append_nil];rfl
 have htx:0≤l.x:=(of_decide_eq_true (show decide (okP l)=true from ho)).2.2.2.2.1
 by_cases hn:((X.map Nx.nd).length:Int)≤l.n
 ·have u1:=uint_put l.n h1 hK.few hn
  have a1:=(pUint_at (oC (X.map Nx.nd)) 0 0 l.n (Nat.zero_le _)).2
  rw [u1] at hP a1
  have d1:=drop_more h1 rfl
  dsimp only at hP
  rw [Int.toNat_natCast] at hP
  obtain ⟨g1,g2⟩:=oNds_pre (oC (X.map Nx.nd)) (X.map Nx.nd).length l0.x l.x (by have:=hK.few;omega) htx (X.map Nx.nd) 0 l.e _ [] a1 (by omega) d1 (fun i N hN=>by have:=hK.nod i N hN;rwa [Int.zero_add])
  rw [hP] at g1 g2
  have hl:(X.map Nx.nd).length=X.length:=List.length_map _
  have:=hS.1
  refine ⟨by dsimp only at g1;omega,fun N q=>?_⟩
  obtain ⟨x,hx,rfl⟩:=List.mem_map.1 (g2 N q)
  obtain ⟨i,hi,rfl⟩:=List.getElem_of_mem hx
  have e:X[i]=X.getD i noNx:=by rw [List.getD_eq_getElem?_getD,List.getElem?_eq_getElem hi];rfl
  rw [e]
  exact ⟨hS.2 i hi,hF i hi⟩
 ·rw [uint_less h1 hK.few (by omega)] at hP
  simp only [Int.toNat_zero,oNds,Prod.mk.injEq] at hP
  obtain ⟨rfl,_,_⟩:=hP
  exact ⟨Nat.zero_le _,fun N q=>by simp at q⟩
theorem qno_small_of {b:ByteArray} {l:Lm} (hz:b.size≤2800):∀R,opK b l=(0,R)→R.size≤4000000∧QnO R l:=fun R h=>by
 have h2:=(ofile_of (b:=b) (l:=l) (by rw [h])).2
 rw [h] at h2
 dsimp only at h2
 exact ⟨by omega,qno_small (by omega)⟩
theorem qno_put_of {X:List Nx} {l l0:Lm} {d:Nat} (hS:Small X) (hn:X.length≤60) (hF:FnX X) (hW:tyEo X=0) (hf:FowIs X 0) (h0:okL l0=true) (hi0:inL (meL X d) l0=true) (ho:okL l=true):∀R,opK (oF (X.map Nx.nd)) l=(0,R)→R.size≤4000000∧QnO R l:=fun R h=>by
 have hz:=oC_le hS hn hF hW hf.1
 by_cases hb:l.b<((oF (X.map Nx.nd)).size:Int)
 ·have:=opK_2 _ _ ho hb
  rw [h] at this
  cases this
 ·have hk:opK (oF (X.map Nx.nd)) l=(0,oC (X.map Nx.nd)):=opK_put ho (by omega) hb
  rw [h] at hk
  simp only [Prod.mk.injEq,true_and] at hk
  subst hk
  exact ⟨by omega,qno_put hS hF hW hf h0 hi0 ho⟩
end Go.Proofs.YtgoffkfpdigeeaaGreatDoor
namespace Go.Proofs.YtgoffkfpdigeeaaGreatDoor
open Go.RowKit Go.Maps Go.WideMaps Go.Sort
def uT:ByteArray:=⟨#[97]⟩
def uN:Nd:=⟨5,[],[uT],[]⟩
def uX (q:Nat):List Nx:=[⟨uN,none,0,some ⟨q,0,none⟩,1,none,0⟩]
def uC:ByteArray:=⟨#[1,5,1,97,0]⟩
def uF:ByteArray:=⟨(pPut mD 1 (oS uC)).1.toArray⟩
section
variable (q:Nat)
theorem uX_ed (x y:Nat):¬Ed (kX (uX q)) x y:=by
 have hk:kX (uX q)=[[]]:=rfl
 unfold Ed
 rw [hk]
 match x with
 | 0=>simp
 | n+1=>simp
theorem uX_right:RightIs (uX q) 0:=by
 refine ⟨rfl,fun i hi j hj=>?_,fun x=>?_,fun x hx=>?_⟩
 ·match i,hi with
  | 0,_=>exact absurd hj (by simp [uX,uN])
 ·rintro ⟨c,e,r⟩
  exact uX_ed q _ _ e
 ·match x,hx with
  | 0,_=>exact Rt.refl _ _
theorem uX_small:Small (uX q):=by
 refine ⟨by simp [uX],fun i hi=>?_⟩
 match i,hi with
 | 0,_=>show big uN=false;decide +kernel
theorem uX_fn:FnX (uX q):=fun i hi j hj=>by
 match i,hi with
 | 0,_=>exact absurd hj (by simp [uX,uN])
theorem uX_ty:tyEo (uX q)=0:=(tyEo_iff _).2 fun i hi=>by
 match i,hi with
 | 0,_=>show tyNo uN=0;decide +kernel
theorem uX_fw:FowIs (uX q) 0:=by
 refine ⟨uX_right q,rfl,fun i hi z hz=>?_⟩
 match i,hi with
 | 0,_=>exact absurd hz (by simp [uX,uN])
theorem uX_in {d:Nat} (hd:DepthIs (uX q) 0 d):inL (meL (uX q) d) wL=true:=by
 have hd1:(d:Int)≤1:=by
  obtain ⟨h,_,h2,h3⟩:=hd.2 (uX_right q)
  have:=(h3 0 (by simp [uX])).2
  rw [h2]
  show ((h 0:Nat):Int)≤1
  have h4:(uX q).length=1:=rfl
  omega
 have he:edg (uX q)=0:=rfl
 have ht:txb (uX q)=1:=by
  show sum6 (itn [uT])=1
  decide +kernel
 refine decide_eq_true ⟨by show (0:Int)≤16777216;decide,by show ((1:Nat):Int)≤16777216;decide,?_,by show (d:Int)≤16777216;omega,?_⟩
 ·show ((edg (uX q):Nat):Int)≤16777216
  rw [he]
  decide
 ·show ((txb (uX q):Nat):Int)≤16777216
  rw [ht]
  decide
theorem uX_c:oC ((uX q).map Nx.nd)=uC:=by
 refine ba_eq ?_
 rw [oC_list]
 show oR [uN]=_
 decide +kernel
theorem uX_f:oF ((uX q).map Nx.nd)=uF:=by
 unfold oF uF
 rw [uX_c]
theorem uF_size:uF.size≤16777216:=by
 have:=(oF_sizes (uX_small 0) (by simp [uX]) (uX_fn 0) (uX_ty 0) (uX_right 0)).2
 rw [uX_f] at this
 omega
theorem uF_save:SoIs (uX q) 0 wL uF 0:=by
 obtain ⟨d,hd⟩:=depth_there (uX q) 0
 refine ⟨d,0,0,hd,vo_good (by decide) ⟨uX_ty q,uX_right q⟩ (uX_in q hd),.inr ⟨rfl,.inr ⟨uX_fw q,.inr ⟨?_,rfl,(uX_f q).symm⟩⟩⟩⟩
 rw [uX_f]
 have:=uF_size
 show ¬(16777216:Int)<_
 omega
theorem uF_load:LoIs uF wL ((uX q).map Nx.nd) 0:=by
 obtain ⟨d,hd⟩:=depth_there (uX q) 0
 have hz:=uF_size
 have h:=back_ofile (uX_small q) (uX_fn q) (uX_ty q) (uX_fw q) hd (by decide) (uX_in q hd) (by rw [uX_c];decide) (by rw [uX_f];show ¬(16777216:Int)<_;omega)
 rw [uX_f] at h
 exact h
theorem uF_q:∀R,opK uF wL=(0,R)→R.size≤4000000∧QnO R wL:=by
 obtain ⟨d,hd⟩:=depth_there (uX 0) 0
 have h:=qno_put_of (uX_small 0) (by simp [uX]) (uX_fn 0) (uX_ty 0) (uX_fw 0) (by decide) (uX_in 0 hd) (l:=wL) (by decide)
 rw [uX_f] at h
 exact h
end
theorem uF_no:LoIs ⟨#[68,73,79,82,2]⟩ wL (([]:List Nx).map Nx.nd) 7:=by
 have hG:pGet mD.data.toList (⟨#[68,73,79,82,2]⟩:ByteArray).data.toList=(0,2,[]):=by decide +kernel
 have h:=opK_4 ⟨#[68,73,79,82,2]⟩ wL (by decide) (by decide) (by rw [hG]) (by rw [hG];decide)
 exact .inl ⟨by rw [h];decide,h.symm,rfl⟩
end Go.Proofs.YtgoffkfpdigeeaaGreatDoor
