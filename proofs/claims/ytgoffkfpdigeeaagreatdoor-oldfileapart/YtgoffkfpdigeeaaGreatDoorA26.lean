import Derived.Test.YtgoffkfpdigeeaaGreatDoorA25
import Derived.Stop.Joined
import Derived.LaidMore
import Derived.SevenTiedAt
import Derived.Test.YtgoffkfpdigeeaaGreatDoorA24
import Derived.Test.YtgoffkfpdigeeaaGreatDoorA16
import Derived.Test.YtgoffkfpdigeeaaGreatDoorA10
import Derived.Test.YtgoffkfpdigeeaaGreatDoorA21
namespace Go.Proofs.YtgoffkfpdigeeaaGreatDoor
open Go.RowKit Go.Maps Go.WideMaps Go.Sort
theorem uint_less {b:ByteArray} {k n:Nat} {r:List UInt8} {m:Int} (h:b.data.toList.drop k=put n++r) (hn:n≤16777216) (hm:m<(n:Int)):pUint b k 0 m=(0,k,19):=by
 unfold pUint
 rw [if_neg (by simp),num_put h (by omega)]
 dsimp only
 rw [if_neg (by simp),if_pos (.inl hm)]
theorem text_less {b:ByteArray} {k n:Nat} {r:List UInt8} {m:Int} (h:b.data.toList.drop k=put n++r) (hn:n≤16777216) (h0:0≤m) (hm:m<(n:Int)):pText b k 0 m=(⟨#[]⟩,k,19):=by
 unfold pText
 rw [if_neg (by simp),num_put h (by omega)]
 dsimp only
 rw [if_neg (by simp),if_pos (.inl (by omega))]
theorem ok8_empty:ok8 ⟨#[]⟩=true:=by decide +kernel
theorem oTs_less (b:ByteArray) (tx:Int) (htx:0≤tx):∀(T:List ByteArray) (k:Nat) (r:List UInt8),k≤b.size→b.data.toList.drop k=oT T++r→(∀s ∈ T,ok8 s=true∧s.size≤16777216)→oTs b tx T.length k 0=(T,k+(oT T).length,0)∨(oTs b tx T.length k 0).2.2=19
 | [],k,r,_,_,_=>.inl rfl
 | x :: T,k,r,hk,h,hi=>by
  have e1:oT (x :: T)=put x.size++(x.data.toList++oT T):=by simp [oT]
  have h':=h
  rw [e1,List.append_assoc,List.append_assoc] at h'
  obtain ⟨h1,h2⟩:=hi x (by simp)
  by_cases hx:(x.size:Int)≤tx
  ·have hp:=text_put tx h' hk h2 hx
   have hl:(put x.size++x.data.toList).length=(put x.size).length+x.size:=by rw [List.length_append,list_size]
   have hk2:=(pText_at b k 0 tx hk).2
   rw [hp] at hk2
   have ih:=oTs_less b tx htx T (k+((put x.size).length+x.size)) r hk2 (drop_more (x:=put x.size++x.data.toList) (by rw [h',List.append_assoc]) hl) (fun s q=>hi s (by simp [q]))
   rw [List.length_cons,oTs_next b tx T.length k hp,h1,if_pos rfl]
   rcases ih with ih|ih
   ·left
    rw [ih,e1]
    simp only [List.length_append,list_size]
    rw [show k+((put x.size).length+x.size)+(oT T).length=k+((put x.size).length+(x.size+(oT T).length)) by omega]
   ·right
    exact ih
  ·right
   rw [List.length_cons,oTs_next b tx T.length k (text_less h' h2 htx (by omega)),ok8_empty,if_pos rfl,oTs_stop b tx _ k (by decide)]
theorem fl_19 (d:Int):fl 19 d=19:=by unfold fl;rw [if_neg (by decide)]
theorem oNd_less (b:ByteArray) (N:Nd) (p c tx0 tx edges:Int) (k:Nat) (r:List UInt8) (hk:k≤b.size) (h:b.data.toList.drop k=oB N++r) (hN:OkN N p c tx0) (hp:0≤p) (hc:c≤16777216) (htx:0≤tx):(oNd b p c tx edges k 0=(N,k+(oB N).length,0)∧(N.kids.length:Int)≤edges)∨(oNd b p c tx edges k 0).2.2=19:=by
 obtain ⟨h1,h2,h3,h4⟩:=tyNo_zero hN.ty
 have hkd:=oldSp_kind h1
 have e1:oB N=put N.kind.toNat++(rI N.ints++(oT N.texts++(put N.kids.length++oK N.kids))):=by
  unfold oB
  simp only [List.append_assoc]
 rw [e1] at h ⊢
 simp only [List.append_assoc] at h
 have u1:=uint_put 16777216 h (by omega) (by omega)
 have a1:=(pUint_at b k 0 16777216 hk).2
 rw [u1] at a1
 have hkn:(N.kind.toNat:Int)=N.kind:=by omega
 rw [hkn] at u1
 have d1:=drop_more h rfl
 unfold fitI at h2
 rw [Bool.and_eq_true,decide_eq_true_eq,List.all_eq_true] at h2
 have u2:=gIs_put b (oldSp N.kind).ints N.ints _ _ d1 h2.1 (fun i q=>h2.2 i (by simpa using q)) hN.fn
 have a2:=(gIs_at b (oldSp N.kind).ints _ 0 a1).2
 rw [u2] at a2
 have d2:=drop_more d1 rfl
 unfold fitT at h3
 rw [Bool.and_eq_true,decide_eq_true_eq,List.all_eq_true] at h3
 have u3:=oTs_less b tx htx N.texts _ _ a2 d2 (fun s q=>⟨h3.2 s q,(hN.txt s q).1⟩)
 have d3:=drop_more d2 rfl
 have ht:(oldSp N.kind).texts.toNat=N.texts.length:=by omega
 unfold fitK at h4
 rw [Bool.and_eq_true,Bool.or_eq_true,decide_eq_true_eq,decide_eq_true_eq,decide_eq_true_eq] at h4
 have stop:∀(B:List ByteArray) (k5:Nat) (e5:Int),oTs b tx (oldSp N.kind).texts.toNat (k+(put N.kind.toNat).length+(rI N.ints).length) 0=(B,k5,e5)→(∃k6,pUint b k5 e5 edges=(0,k6,19))→(oNd b p c tx edges k 0).2.2=19:=fun B k5 e5 hB ⟨k6,hM⟩=>by
  have h7:(if decide ((0:Int)<(oldSp N.kind).least∨(0≤(oldSp N.kind).most∧(oldSp N.kind).most<0))=true then fl 19 12 else 19)=19:=by
   rw [fl_19]
   split <;> rfl
  have u6:=oRest_eq (p:=p) (c:=c) (S:=oldSp N.kind) (edges:=edges) u2 hB hM h7 (oKs_stop b p c _ k6 (by decide))
  unfold oNd
  rw [u1]
  dsimp only
  rw [h1,if_pos rfl,u6]
 rcases u3 with u3|u3
 ·by_cases he:(N.kids.length:Int)≤edges
  ·left
   have u4:=uint_put edges d3 hN.few he
   have d4:=drop_more d3 rfl
   have u5:=oKs_put b p c hc hp N.kids _ _ d4 hN.kids
   have u6:=oRest_eq (S:=oldSp N.kind) (edges:=edges) u2 (by rw [ht];exact u3) u4 (if_neg (by rw [decide_eq_false (by omega)];decide)) u5
   refine ⟨?_,he⟩
   unfold oNd
   rw [u1]
   dsimp only
   rw [h1,if_pos rfl,u6]
   simp only [List.length_append,← Nat.add_assoc]
  ·right
   exact stop _ _ _ (by rw [ht];exact u3) ⟨_,uint_less d3 hN.few (by omega)⟩
 ·right
  obtain ⟨B,k5,e5,hB⟩:∃B k5 e5,oTs b tx N.texts.length (k+(put N.kind.toNat).length+(rI N.ints).length) 0=(B,k5,e5):=⟨_,_,_,rfl⟩
  rw [hB] at u3
  dsimp only at u3
  subst u3
  refine stop B k5 19 (by rw [ht];exact hB) ⟨k5,?_⟩
  unfold pUint
  rw [if_pos (by decide)]
end Go.Proofs.YtgoffkfpdigeeaaGreatDoor
namespace Go.Proofs.YtgoffkfpdigeeaaGreatDoor
open Go.ChangeShapes Go.WideShapes Go.ChangeAt Go.RowKit Go.Joins Go.Deep Go.Maps Go.WideMaps Go.Sort
structure LmR (l:Lm):Prop where
 b:inR l.b
 n:inR l.n
 e:inR l.e
 d:inR l.d
 x:inR l.x
section
variable {H:Type} {enc:TypeId × Value→H} {P:Program} {w:World}
theorem five_cells {α : Type} {cs:Array α} (h:cs.size=5):∃c0 c1 c2 c3 c4,cs=#[c0,c1,c2,c3,c4]:=by
 obtain ⟨l⟩:=cs
 match l,h with
 | [c0,c1,c2,c3,c4],_=>exact ⟨c0,c1,c2,c3,c4,rfl⟩
theorem five_read {xs:List (DataW H × List MemPlace)} (h:xs.length=5):∃y0 y1 y2 y3 y4,xs=[y0,y1,y2,y3,y4]:=by
 match xs,h with
 | [y0,y1,y2,y3,y4],_=>exact ⟨y0,y1,y2,y3,y4,rfl⟩
theorem open_lim {r:Reach} {b0:Nat} {t:TypeId} {f0 f1 f2 f3 f4:Field} {v:Value} {d:DataW H} {p:List MemPlace} (hs:P.underlying t=some (.struct #[f0,f1,f2,f3,f4])) (hone:oneCellFields P #[f0,f1,f2,f3,f4]=true) (hC:P.cellsOf t=5)
  (u0:P.underlying f0.type=some (.int .i64)) (u1:P.underlying f1.type=some (.int .i64)) (u2:P.underlying f2.type=some (.int .i64)) (u3:P.underlying f3.type=some (.int .i64)) (u4:P.underlying f4.type=some (.int .i64))
  (hv:Value.okWide P w r b0 t v) (h:DataW.Trod enc P w 0 (fun _=>true) true t v d p) :
  ∃l:Lm,v=.agg #[.int .i64 l.b,.int .i64 l.n,.int .i64 l.e,.int .i64 l.d,.int .i64 l.x]∧LmR l:=by
 obtain ⟨cs,rfl,hsz⟩:=okWide_struct hs hv
 obtain ⟨c0,c1,c2,c3,c4,rfl⟩:=five_cells (hsz.trans hC)
 obtain ⟨fuel,hf⟩:=h
 obtain ⟨xs,n,_,_,_,hlen,hx⟩:=DataW.trod_struct hs hf
 obtain ⟨y0,y1,y2,y3,y4,rfl⟩:=five_read (by simpa using hlen)
 obtain ⟨o0,k0⟩:=hone_of hone 0 f0 rfl
 obtain ⟨o1,k1⟩:=hone_of hone 1 f1 rfl
 obtain ⟨o2,k2⟩:=hone_of hone 2 f2 rfl
 obtain ⟨o3,k3⟩:=hone_of hone 3 f3 rfl
 obtain ⟨o4,k4⟩:=hone_of hone 4 f4 rfl
 have t0:=hx 0 f0 rfl
 have t1:=hx 1 f1 rfl
 have t2:=hx 2 f2 rfl
 have t3:=hx 3 f3 rfl
 have t4:=hx 4 f4 rfl
 simp [Value.cells,o0,k0,o1,k1,o2,k2,o3,k3,o4,k4] at t0 t1 t2 t3 t4
 obtain ⟨z0,e0,_,g0⟩:=DataW.trod_int u0 t0
 obtain ⟨z1,e1,_,g1⟩:=DataW.trod_int u1 t1
 obtain ⟨z2,e2,_,g2⟩:=DataW.trod_int u2 t2
 obtain ⟨z3,e3,_,g3⟩:=DataW.trod_int u3 t3
 obtain ⟨z4,e4,_,g4⟩:=DataW.trod_int u4 t4
 simp at e0 e1 e2 e3 e4
 subst e0 e1 e2 e3 e4
 exact ⟨⟨z0,z1,z2,z3,z4⟩,rfl,⟨wf_i64 g0,wf_i64 g1,wf_i64 g2,wf_i64 g3,wf_i64 g4⟩⟩
end
theorem IsSc.fn {w:World} {a:Option Addr} {X:List Nx} {r:Int} (h:IsSc w a X r):FnX X:=fun i hi j hj=>by
 have h1:=(h.rg i hi).ints
 generalize (X.getD i noNx).nd.ints=T at *
 exact h1 _ (by rw [List.getD_eq_getElem?_getD,List.getElem?_eq_getElem hj];exact List.getElem_mem hj)
theorem lm_all {l:Lm} (h:LmR l):∀i,i<5→-9223372036854775808≤(lmL l).getD i 0∧(lmL l).getD i 0≤9223372036854775807:=fun i hi=>by
 rcases five_cases hi with rfl|rfl|rfl|rfl|rfl
 ·exact h.b
 ·exact h.n
 ·exact h.e
 ·exact h.d
 ·exact h.x
structure Lg (w W:World) (l:Lm):Prop where
 a:AtN 26 W w.heap.size #[.int .i64 l.b,.int .i64 l.n,.int .i64 l.e,.int .i64 l.d,.int .i64 l.x]
 bel:Below w.heap.size w W
structure L5 (w W:World) (a:Option Addr) (X:List Nx) (c:Nat) (r:Int) (l:Lm):Prop where
 s:AtN 24 W w.heap.size #[.slice a X.length c,.int .i64 r]
 l:AtN 26 W (w.heap.size+1) #[.int .i64 l.b,.int .i64 l.n,.int .i64 l.e,.int .i64 l.d,.int .i64 l.x]
 bel:Below w.heap.size w W
section
variable {w W W':World} {a:Option Addr} {X:List Nx} {c:Nat} {r q:Int} {l:Lm}
theorem Lg.more (h:Lg w W l) (hb:Below W.heap.size W W'):Lg w W' l:=⟨h.a.belowAll hb,h.bel.trans (hb.mono h.bel.size)⟩
theorem Lg.start (w:World) (l:Lm):Lg w (w.alloc (.cells #[.int .i64 l.b,.int .i64 l.n,.int .i64 l.e,.int .i64 l.d,.int .i64 l.x] 26)) l:=⟨AtN.new w 26 _,(Below.refl w.heap.size w).alloc (Nat.le_refl _) _⟩
theorem Lg.all (h:Lg w W l):W.cell? ⟨w.heap.size,0,none⟩=some (.int .i64 l.b)∧W.cell? ⟨w.heap.size,1,none⟩=some (.int .i64 l.n)∧W.cell? ⟨w.heap.size,2,none⟩=some (.int .i64 l.e)∧W.cell? ⟨w.heap.size,3,none⟩=some (.int .i64 l.d)∧W.cell? ⟨w.heap.size,4,none⟩=some (.int .i64 l.x):=
 ⟨h.a.cell 0,h.a.cell 1,h.a.cell 2,h.a.cell 3,h.a.cell 4⟩
theorem L5.more (h:L5 w W a X c r l) (hb:Below W.heap.size W W'):L5 w W' a X c r l:=⟨h.s.belowAll hb,h.l.belowAll hb,h.bel.trans (hb.mono h.bel.size)⟩
theorem L5.start (w:World) (a:Option Addr) (X:List Nx) (c:Nat) (r:Int) (l:Lm):L5 w ((w.alloc (.cells #[.slice a X.length c,.int .i64 r] 24)).alloc (.cells #[.int .i64 l.b,.int .i64 l.n,.int .i64 l.e,.int .i64 l.d,.int .i64 l.x] 26)) a X c r l:=
 ⟨(AtN.new w 24 _).alloc _,mk_at (AtN.new (w.alloc _) 26 _) (by simp),((Below.refl w.heap.size w).alloc (Nat.le_refl _) _).alloc (by simp) _⟩
theorem L5.sc (h:L5 w W a X c r l) (hs:IsSc w a X q):ScAt W a X:=hs.sc.belowB h.bel
theorem L5.all (h:L5 w W a X c r l):W.cell? ⟨w.heap.size,0,none⟩=some (.slice a X.length c)∧W.cell? ⟨w.heap.size,1,none⟩=some (.int .i64 r)∧W.cell? ⟨w.heap.size+1,0,none⟩=some (.int .i64 l.b)∧W.cell? ⟨w.heap.size+1,1,none⟩=some (.int .i64 l.n)∧W.cell? ⟨w.heap.size+1,2,none⟩=some (.int .i64 l.e)∧W.cell? ⟨w.heap.size+1,3,none⟩=some (.int .i64 l.d)∧W.cell? ⟨w.heap.size+1,4,none⟩=some (.int .i64 l.x):=
 ⟨h.s.cell 0,h.s.cell 1,h.l.cell 0,h.l.cell 1,h.l.cell 2,h.l.cell 3,h.l.cell 4⟩
end
set_option maxRecDepth 10000 in
theorem wide_any (w:World):Calls Tryz.prog 22 #[] w fun e w'=>e=.returned (.agg #[.int .i64 16777216,.int .i64 16777216,.int .i64 16777216,.int .i64 16777216,.int .i64 16777216])∧Below w.heap.size w w':=by
 have HA:Hid (∀o:Obj,o=.cells #[.int .i64 16777216,.int .i64 16777216,.int .i64 16777216,.int .i64 16777216,.int .i64 16777216] 26→AtN 26 (w.alloc o) w.heap.size #[.int .i64 16777216,.int .i64 16777216,.int .i64 16777216,.int .i64 16777216,.int .i64 16777216]∧Below w.heap.size w (w.alloc o)):=by
  rintro _ rfl
  exact ⟨AtN.new w 26 _,(Below.refl w.heap.size w).alloc (Nat.le_refl _) _⟩
 go_enter Tryz.func22,Tryz.ntmps22
 go_wp2_with fail
 obtain ⟨h1,h2⟩:=HA.out _ rfl
 have c0:=h1.cell 0
 have c1:=h1.cell 1
 have c2:=h1.cell 2
 have c3:=h1.cell 3
 have c4:=h1.cell 4
 exact bodyPost_ret (v:=.agg #[.int .i64 16777216,.int .i64 16777216,.int .i64 16777216,.int .i64 16777216,.int .i64 16777216]) (by simp [results,Tryz.results22,go_sem,c0,c1,c2,c3,c4]) rfl ⟨rfl,h2⟩
theorem bel_drew (w:World):Below w.heap.size w w.drew:=⟨rfl,rfl,rfl,Nat.le_refl _,fun _ _=>rfl⟩
def wL:Lm:=⟨16777216,16777216,16777216,16777216,16777216⟩
end Go.Proofs.YtgoffkfpdigeeaaGreatDoor
namespace Go.Proofs.YtgoffkfpdigeeaaGreatDoor
open Go.RowKit Go.Maps Go.WideMaps Go.Sort
theorem Mkg.cur {w w':World} {B go gc:Nat} {r:Int} {v:Value} {Y:List Nx} {x y z:Value} (h:Mkg w B go r v Y) (hg:w.grownBy w' (some gc)) (hc:At3 72 w gc x y z):Mkg w' B go r v Y:=by
 have hc':AtN 72 w gc #[x,y,z]:=hc
 have hF:Fr (fun b=>b=gc) w w':=Fr.of_grown hg (fun k e=>by cases e;rfl)
 have hal:Alien w (fun b=>b=gc):=fun b hb _=>⟨_,_,_,hb ▸ hc,by decide,by decide,by decide⟩
 refine ⟨h.sc.fr hF (fun e=>?_),own_fr h.row hF (fun b hb e=>own_ne_at h.row hc' (by decide) b hb e),fun j hj=>(h.each j hj).fr hF hal⟩
 subst e
 have h1:w.heap[go]? = _:=h.sc
 have h2:w.heap[go]? = _:=hc
 rw [h1] at h2
 cases h2
theorem okL_in {l:Lm} (h:okL l=true):(0≤l.b∧l.b≤16777216)∧(0≤l.n∧l.n≤16777216)∧(0≤l.e∧l.e≤16777216)∧(0≤l.d∧l.d≤16777216)∧(0≤l.x∧l.x≤16777216):=by
 have key:∀i,i<5→0≤(lmL l).getD i 0∧(lmL l).getD i 0≤16777216:=fun i hi=>by
  by_cases q:(lmL l).getD i 0<0∨16777216<(lmL l).getD i 0
  ·have:=okL_no l i hi q
   rw [h] at this;cases this
  ·omega
 exact ⟨key 0 (by omega),key 1 (by omega),key 2 (by omega),key 3 (by omega),key 4 (by omega)⟩
def liC (l:Lm):Array Value:=#[.int .i64 l.b,.int .i64 l.n,.int .i64 l.e,.int .i64 l.d,.int .i64 l.x]
theorem OwnNd.frAt {S:Nat→Prop} {W W':World} {B:Nat} {N:Nd} {a1 a2 a3:Option Addr} {c1 c2 c3:Nat} (h:OwnNd W B N (.slice a1 N.ints.length c1) (.slice a2 N.texts.length c2) (.slice a3 N.kids.length c3)) (k:Fr S W W') (hs:∀i,S i→i<B):NdAt W' N a1 a2 a3:=by
 have key:∀{e n v xs},W.ownsRow B e 1 v n xs→W'.ownsRow B e 1 v n xs:=fun {e n v xs} ho=>own_fr ho k (fun r hr q=>by have:=(ho.lt r hr).1;have:=hs r q;omega)
 exact OwnNd.ndAt ⟨key h.i,key h.t,key h.k⟩
theorem Mkg.low {w w':World} {B go c:Nat} {r:Int} {a:Option Addr} {Y:List Nx} {S:Nat→Prop} (h:Mkg w B go r (.slice a Y.length c) Y) (k:Fr S w w') (hs:∀i,S i→i<B):ScAt w' a Y:=
 ⟨LsAt.of_own4' (own_fr h.row k (fun r hr q=>by have:=(h.row.lt r hr).1;have:=hs r q;omega)),fun i hi=>OwnNd.frAt (h.each i hi) k hs⟩
end Go.Proofs.YtgoffkfpdigeeaaGreatDoor
namespace Go.Proofs.YtgoffkfpdigeeaaGreatDoor
open Go.RowKit Go.Maps Go.WideMaps Go.Sort
def LoOut (b:ByteArray) (l:Lm) (w w':World) (e:Ending):Prop:=∃(X:List Nx) (a:Option Addr) (c:Nat) (k:Int),e=.returned (.tuple #[.agg #[.slice a X.length c,.int .i64 0],.int .i64 k])∧LoIs b l (X.map Nx.nd) k∧(∀W,Fr (fun b=>b<w.heap.size) w' W→ScAt W a X)∧Small X∧FnX X∧Below w.heap.size w w'
theorem LoIs.bad {b:ByteArray} {l:Lm} {k:Int} (h:(opK b l).1=k) (hk:k≠0):LoIs b l (([]:List Nx).map Nx.nd) k:=.inl ⟨by rw [h];exact hk,h.symm,rfl⟩
theorem LoIs.pay {b R:ByteArray} {l:Lm} {k:Int} (h0:opK b l=(0,R)) (h:(oPay R l.n l.e l.x).2=k) (hk:k≠0):LoIs b l (([]:List Nx).map Nx.nd) k:=by
 refine .inr ⟨by rw [h0],?_⟩
 rw [h0]
 exact .inl ⟨by rw [h];exact hk,h.symm,rfl⟩
theorem LoIs.fin {b R:ByteArray} {l:Lm} {X:List Nx} {d:Nat} {n z:Int} (h0:opK b l=(0,R)) (h:oPay R l.n l.e l.x=(X.map Nx.nd,0)) (hd:DepthIs X 0 d) (hc:CheckIs X 0 n z) :
  (n≠0→LoIs b l (([]:List Nx).map Nx.nd) n)∧(n=0→(inL (meL X d) l=false→LoIs b l (([]:List Nx).map Nx.nd) 19)∧(inL (meL X d) l=true→LoIs b l (X.map Nx.nd) 0)):=by
 have hs:(bare (X.map Nx.nd)).map Nx.nd=X.map Nx.nd:=bare_nd _
 have key:∀P e,((n≠0∧e=n∧P=[])∨(n=0∧((inL (meL X d) l=false∧e=19∧P=[])∨(inL (meL X d) l=true∧e=0∧P=X.map Nx.nd))))→LoIs b l P e:=fun P e q=>by
  refine .inr ⟨by rw [h0],?_⟩
  rw [h0]
  refine .inr ⟨by rw [h],d,n,z,?_,?_,?_⟩
  ·rw [h]
   exact same_depth hs.symm hd
  ·rw [h]
   exact same_check hs.symm hc
  ·rw [h]
   dsimp only
   rw [same_meL hs]
   exact q
 exact ⟨fun q=>key _ _ (.inl ⟨q,rfl,rfl⟩),fun q=>⟨fun q2=>key _ _ (.inr ⟨q,.inl ⟨q2,rfl,rfl⟩⟩),fun q2=>key _ _ (.inr ⟨q,.inr ⟨q2,rfl,rfl⟩⟩)⟩⟩
section
variable (R:ByteArray) (n ed tx:Int)
theorem oPay_3 {x e:Int} {k:Nat} (h:pUint R 0 0 n=(x,k,e)) (he:e≠0):(oPay R n ed tx).2=e:=by
 unfold oPay;rw [h];dsimp only;rw [if_pos he]
theorem oPay_4 {k:Nat} (h:pUint R 0 0 n=(0,k,0)):(oPay R n ed tx).2=13:=by
 unfold oPay;rw [h];dsimp only;rw [if_neg (by simp),if_pos rfl]
theorem oPay_5 {x:Int} {k:Nat} (h:pUint R 0 0 n=(x,k,0)) (hx:x≠0) {P:List Nd} {k':Nat} {e:Int} (h2:oNds R x tx x.toNat 0 ed k=(P,k',e)) (he:e≠0):(oPay R n ed tx).2=e:=by
 unfold oPay;rw [h];dsimp only;rw [if_neg (by simp),if_neg hx,h2];dsimp only;rw [if_pos he]
theorem oPay_6 {x:Int} {k:Nat} (h:pUint R 0 0 n=(x,k,0)) (hx:x≠0) {P:List Nd} {k':Nat} (h2:oNds R x tx x.toNat 0 ed k=(P,k',0)) (hk:k'<R.size):(oPay R n ed tx).2=8:=by
 unfold oPay;rw [h];dsimp only;rw [if_neg (by simp),if_neg hx,h2];dsimp only;rw [if_neg (by simp),if_pos hk]
theorem oPay_7 {x:Int} {k:Nat} (h:pUint R 0 0 n=(x,k,0)) (hx:x≠0) {P:List Nd} {k':Nat} (h2:oNds R x tx x.toNat 0 ed k=(P,k',0)) (hk:¬k'<R.size):oPay R n ed tx=(P,0):=by
 unfold oPay;rw [h];dsimp only;rw [if_neg (by simp),if_neg hx,h2];dsimp only;rw [if_neg (by simp),if_neg hk]
end
theorem put_one (n:Nat):1≤(put n).length:=(put_length n).1
theorem oK_len:∀K:List Int,K.length≤(oK K).length
 | []=>Nat.le_refl _
 | x :: K=>by
  have:=put_one x.toNat
  have:=oK_len K
  rw [show oK (x :: K)=put x.toNat++oK K from rfl,List.length_append,List.length_cons]
  omega
theorem oT_mem:∀(T:List ByteArray) (s:ByteArray),s ∈ T→s.size≤(oT T).length
 | x :: T,s,h=>by
  rw [show oT (x :: T)=(put x.size++x.data.toList)++oT T by simp [oT],List.length_append,List.length_append,list_size]
  rcases List.mem_cons.1 h with rfl|h
  ·omega
  ·have:=oT_mem T s h
   omega
theorem oNd_two {b:ByteArray} {N:Nd} {p c tx ed:Int} {k k1:Nat} (hk:k≤b.size) (h:oNd b p c tx ed k 0=(N,k1,0)):k+2≤k1∧k1≤b.size∧N.kids.length≤b.size∧(b.size≤3000→big N=false)∧fine N.ints∧(N.kids.length:Int)≤ed:=by
 obtain ⟨h1,h2,h3⟩:=oNd_bytes hk h
 have hk1:=oNd_at b p c tx ed k 0 hk
 rw [h] at hk1
 dsimp only at hk1
 have hl:=congrArg List.length h1
 rw [List.length_append,List.length_drop,List.length_drop,list_size] at hl
 have e1:(oB N).length=(put N.kind.toNat).length+(rI N.ints).length+(oT N.texts).length+(put N.kids.length).length+(oK N.kids).length:=by
  unfold oB
  simp only [List.length_append]
 have p1:=put_one N.kind.toNat
 have p2:=put_one N.kids.length
 have p3:=oK_len N.kids
 refine ⟨by omega,hk1.2,by omega,fun hz=>?_,h2.fn,h3⟩
 obtain ⟨g1,g2,g3,_⟩:=tyNo_zero h2.ty
 have hsm:=oldSp_small N.kind
 unfold fitI at g2
 rw [Bool.and_eq_true,decide_eq_true_eq] at g2
 unfold fitT at g3
 rw [Bool.and_eq_true,decide_eq_true_eq] at g3
 cases hb:big N with
 | false=>rfl
 | true=>
  exfalso
  simp only [big,Bool.or_eq_true,decide_eq_true_eq,List.any_eq_true] at hb
  rcases hb with hb|hb|hb|⟨s,hs,hb⟩
  ·omega
  ·omega
  ·omega
  ·have:=oT_mem N.texts s hs
   omega
structure Fq (w W:World) (l:Lm):Prop where
 a:AtN 26 W w.heap.size #[.int .i64 l.b,.int .i64 l.n,.int .i64 l.e,.int .i64 l.d,.int .i64 l.x]
 r:AtN 24 W (w.heap.size+1) #[.slice none 0 0,.int .i64 0]
 n:AtN 24 W (w.heap.size+2) #[.slice none 0 0,.int .i64 0]
 bel:Below w.heap.size w W
theorem Fq.more {w W W':World} {l:Lm} (h:Fq w W l) (hb:Below W.heap.size W W'):Fq w W' l:=⟨h.a.belowAll hb,h.r.belowAll hb,h.n.belowAll hb,h.bel.trans (hb.mono h.bel.size)⟩
structure Gq (w W:World) (lim gS:Nat) (l:Lm) (R:ByteArray):Prop where
 f:Fq w W l
 s:W.cell? ⟨gS,1,none⟩=some (.string R)
 hs:gS<lim
 hl:lim≤W.heap.size
 hw:w.heap.size+3≤lim
section
variable {w W W':World} {lim gS:Nat} {l:Lm} {R:ByteArray}
theorem Gq.fr {S:Nat→Prop} (h:Gq w W lim gS l R) (k:Fr S W W') (hs:∀i,S i→lim≤i):Gq w W' lim gS l R:=by
 have hw:=h.hw
 have hne:∀i,S i→i≠w.heap.size∧i≠w.heap.size+1∧i≠w.heap.size+2∧w.heap.size≤i:=fun i hi=>by have:=hs i hi;omega
 refine ⟨⟨h.f.a.fr k (fun q=>(hne _ q).1 rfl),h.f.r.fr k (fun q=>(hne _ q).2.1 rfl),h.f.n.fr k (fun q=>(hne _ q).2.2.1 rfl),Fr.below h.f.bel k (fun i hi=>(hne i hi).2.2.2) h.f.bel.size⟩,?_,h.hs,Nat.le_trans h.hl k.size,h.hw⟩
 rw [World.cell?_of_block (k.block gS (Nat.lt_of_lt_of_le h.hs h.hl) (fun q=>by have:=hs _ q;have:=h.hs;omega))]
 exact h.s
theorem Gq.more (h:Gq w W lim gS l R) (hb:Below W.heap.size W W'):Gq w W' lim gS l R:=h.fr (Fr.of_below (S:=fun _=>False) hb) (fun _ q=>q.elim)
theorem Gq.cur {gc:Nat} (h:Gq w W lim gS l R) (hg:W.grownBy W' (some gc)) (hc:lim≤gc):Gq w W' lim gS l R:=
 h.fr (Fr.of_grown (S:=fun k=>k=gc) hg (fun k e=>by cases e;rfl)) (fun i e=>by rw [e];exact hc)
theorem lo_bad {b:ByteArray} {k:Int} (hG:LoIs b l (([]:List Nx).map Nx.nd) k) (hb:Below w.heap.size w W) {x0 x1:Value} (hr:AtN 24 W (w.heap.size+1) #[x0,x1]) :
  ∀W',W'=(W.setCell ⟨w.heap.size+1,0,none⟩ (.slice none 0 0)).setCell ⟨w.heap.size+1,1,none⟩ (.int .i64 0)→AtN 24 W' (w.heap.size+1) #[.slice none 0 0,.int .i64 0]∧LoOut b l w W' (.returned (.tuple #[.agg #[.slice none 0 0,.int .i64 0],.int .i64 k])):=by
 rintro _ rfl
 have hF:Fr (fun b=>b=w.heap.size+1) W ((W.setCell ⟨w.heap.size+1,0,none⟩ (.slice none 0 0)).setCell ⟨w.heap.size+1,1,none⟩ (.int .i64 0)):=((Fr.refl (fun b=>b=w.heap.size+1) W).set ⟨w.heap.size+1,0,none⟩ rfl _).set ⟨w.heap.size+1,1,none⟩ rfl _
 refine ⟨by simpa using (hr.set 0 (.slice none 0 0)).set 1 (.int .i64 0),[],none,0,k,rfl,hG,fun _ _=>⟨LsAt.nil _ _,fun i hi=>by simp at hi⟩,⟨by simp,fun i hi=>by simp at hi⟩,fun i hi=>by simp at hi,Fr.below hb hF (fun i e=>by omega) hb.size⟩
end
theorem At3.frO {S:Nat→Prop} {T:TypeId} {w w':World} {g:Nat} {x y z:Value} (h:At3 T w g x y z) (k:Fr S w w') (hb:¬S g):At3 T w' g x y z:=by
 have h':AtN T w g #[x,y,z]:=h
 exact (h'.fr k hb:AtN T w' g #[x,y,z])
theorem LoOut.drew {b:ByteArray} {l:Lm} {w w':World} {e:Ending} (h:LoOut b l w w' e):LoOut b l w w'.drew e:=by
 obtain ⟨X,a,c,k,h1,h2,h3,h4,h5,h6⟩:=h
 have hd:Below w'.heap.size w' w'.drew:=⟨rfl,rfl,rfl,Nat.le_refl _,fun _ _=>rfl⟩
 exact ⟨X,a,c,k,h1,h2,fun W f=>h3 W ((Fr.of_below (S:=fun b=>b<w.heap.size) hd).trans f (fun i hi _=>hi)),h4,h5,h6.trans (hd.mono h6.size)⟩
end Go.Proofs.YtgoffkfpdigeeaaGreatDoor
