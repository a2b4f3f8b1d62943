import Derived.Deep.CutBlock
import Derived.Deep.DeepCutAuto
import Derived.Deep.RegionHeld3
import Derived.Test.YtgoffkfpdigeeaaGreatDoorA42
import Derived.Test.YtgoffkfpdigeeaaGreatDoorA33
namespace Go.Proofs.YtgoffkfpdigeeaaGreatDoor
open Go.RowKit Go.Maps Go.WideMaps Go.Sort
theorem Mkg.curP {w w':World} {B go gc:Nat} {r:Int} {v:Value} {Y:List Nx} {x y z:Value} (h:Mkg w B go r v Y) (hg:w.grownBy w' (some gc)) (hc:At3 156 w gc x y z):Mkg w' B go r v Y:=by
 have hc':AtN 156 w gc #[x,y,z]:=hc
 have hF:Fr (fun b=>b=gc) w w':=Fr.of_grown hg (fun k e=>by cases e;rfl)
 have hal:Alien w (fun b=>b=gc):=fun b hb _=>⟨_,_,_,hb ▸ hc,by decide,by decide,by decide⟩
 refine ⟨h.sc.fr hF (fun e=>?_),own_fr h.row hF (fun b hb e=>own_ne_at h.row hc' (by decide) b hb e),fun j hj=>(h.each j hj).fr hF hal⟩
 subst e
 have h1:w.heap[go]? = _:=h.sc
 have h2:w.heap[go]? = _:=hc
 rw [h1] at h2
 cases h2
theorem gNd_none {b:ByteArray} {p edges:Int} {L:List ByteArray} {k:Nat} {e:Int} (h:(gNd b p L edges k e).2.2≠0):(gNd b p L edges k e).1=⟨0,[],[],[]⟩:=by
 unfold gNd at h ⊢
 dsimp only at h ⊢
 generalize pUint b k e 16777216=Q at *
 generalize gRest b p L edges (newSp Q.1) Q.2.1 (if (newSp Q.1).ok=true then Q.2.2 else fl Q.2.2 9)=R at h ⊢
 by_cases hz:R.2.2=0
 ·rw [if_pos hz] at h;exact absurd rfl h
 ·rw [if_neg hz]
structure Rq (w W:World) (gc:Nat) (nb:ByteArray) (k:Nat) (e:Int):Prop where
 r:AtN 24 W (w.heap.size+1) #[.slice none 0 0,.int .i64 0]
 cu:Cu W gc nb k e
 bel:Below w.heap.size w W
 hgc:w.heap.size+1<gc
section
variable {w W W':World} {gc k k':Nat} {nb:ByteArray} {e e':Int}
theorem Rq.fr {S:Nat→Prop} (h:Rq w W gc nb k e) (f:Fr S W W') (hs:∀i,S i→gc<i):Rq w W' gc nb k e:=
 ⟨h.r.fr f (fun q=>by have:=hs _ q;have:=h.hgc;omega),At3.fr h.cu f (fun q=>by have:=hs _ q;omega),Fr.below h.bel f (fun i q=>by have:=hs _ q;have:=h.hgc;omega) h.bel.size,h.hgc⟩
theorem Rq.more (h:Rq w W gc nb k e) (hb:Below W.heap.size W W'):Rq w W' gc nb k e:=h.fr (Fr.of_below (S:=fun _=>False) hb) (fun _ q=>q.elim)
theorem Rq.cur (h:Rq w W gc nb k e) (hg:W.grownBy W' (some gc)) (hc:Cu W' gc nb k' e'):Rq w W' gc nb k' e':=by
 have f:Fr (fun b=>b=gc) W W':=Fr.of_grown hg (fun k e=>by cases e;rfl)
 have h1:=h.hgc
 exact ⟨h.r.fr f (fun q=>by omega),hc,Fr.below h.bel f (fun i q=>by omega) h.bel.size,h1⟩
end
def RdnOut (tx nb:ByteArray) (l:Lm) (L:List ByteArray) (w w':World) (e:Ending):Prop:=
 ∃(X:List Nx) (a:Option Addr) (c:Nat) (k:Int),e=.returned (.tuple #[.agg #[.slice a X.length c,.int .i64 ((X.length:Int)-1)],.int .i64 k])∧(k≠0→(geK tx nb l).1=k)∧
  (k=0→geK tx nb l=(0,X.map Nx.nd,L)∧Small X∧FnX X∧∀W,Fr (fun b=>b<w.heap.size) w' W→ScAt W a X)∧Below w.heap.size w w'
theorem Mkg.root {w:World} {B go:Nat} {r:Int} {v:Value} {Y:List Nx} (h:Mkg w B go r v Y) (r':Int):Mkg (w.setCell ⟨go,1,none⟩ (.int .i64 r')) B go r' v Y:=by
 have hF:Fr (fun b=>b=go) w (w.setCell ⟨go,1,none⟩ (.int .i64 r')):=(Fr.refl (fun b=>b=go) w).set ⟨go,1,none⟩ rfl _
 have hal:Alien w (fun b=>b=go):=fun b hb _=>⟨_,_,_,hb ▸ h.sc,by decide,by decide,by decide⟩
 exact ⟨by simpa using h.sc.set 1 (.int .i64 r'),own_fr h.row hF (fun b hb e=>h.ne (by rw [hb,e])),fun j hj=>(h.each j hj).fr hF hal⟩
def RdI (nb:ByteArray) (L:List ByteArray) (P:List Nd) (kz:Nat) (ez:Int) (m k:Nat) (ed:Int) (Y:List Nx):Prop:=
 ∀T k' e',gNs nb L (m-Y.length) Y.length k ed=(T,k',e')→(P,kz,ez)=(Y.map Nx.nd++T,k',e')
theorem RdI.next {nb:ByteArray} {L:List ByteArray} {P:List Nd} {kz:Nat} {ez:Int} {m k k1:Nat} {ed:Int} {Y:List Nx} {y:Nx} (h:RdI nb L P kz ez m k ed Y) (hlt:Y.length<m) (hn:gNd nb (Y.length:Nat) L ed k 0=(y.nd,k1,0)):RdI nb L P kz ez m k1 (ed-y.nd.kids.length) (Y++[y]):=by
 intro T k' e' hq
 rw [List.length_append,List.length_singleton] at hq
 have:=h (y.nd :: T) k' e' (by
  rw [show m-Y.length=(m-(Y.length+1))+1 by omega]
  unfold gNs
  rw [hn,if_neg (by simp)]
  dsimp only
  rw [hq])
 rw [this]
 simp
theorem RdI.mem {nb:ByteArray} {L:List ByteArray} {P:List Nd} {kz:Nat} {ez:Int} {m k k1:Nat} {ed:Int} {Y:List Nx} {N:Nd} (h:RdI nb L P kz ez m k ed Y) (hlt:Y.length<m) (hn:gNd nb (Y.length:Nat) L ed k 0=(N,k1,0)):N ∈ P:=by
 obtain ⟨T,k',e',hq⟩:∃T k' e',gNs nb L (m-(Y.length+1)) (Y.length+1) k1 (ed-N.kids.length)=(T,k',e'):=⟨_,_,_,rfl⟩
 have:=h (N :: T) k' e' (by
  rw [show m-Y.length=(m-(Y.length+1))+1 by omega]
  unfold gNs
  rw [hn,if_neg (by simp)]
  dsimp only
  rw [hq])
 simp only [Prod.mk.injEq] at this
 rw [this.1]
 simp
theorem RdI.stop {nb:ByteArray} {L:List ByteArray} {P:List Nd} {kz:Nat} {ez:Int} {m k k1:Nat} {ed e1:Int} {Y:List Nx} {N:Nd} (h:RdI nb L P kz ez m k ed Y) (hlt:Y.length<m) (hn:gNd nb (Y.length:Nat) L ed k 0=(N,k1,e1)) (he:e1≠0):ez=e1:=by
 have:=h [] k1 e1 (by obtain ⟨q,hq⟩:∃q,m-Y.length=q+1:=⟨m-Y.length-1,by omega⟩;rw [hq];unfold gNs;rw [hn,if_pos he])
 simp only [Prod.mk.injEq] at this
 exact this.2.2
theorem RdI.fin {nb:ByteArray} {L:List ByteArray} {P:List Nd} {kz:Nat} {ez:Int} {m k:Nat} {ed:Int} {Y:List Nx} (h:RdI nb L P kz ez m k ed Y) (hlt:¬Y.length<m):P=Y.map Nx.nd∧kz=k∧ez=0:=by
 have:=h [] k 0 (by rw [show m-Y.length=0 by omega];rfl)
 simpa using this
theorem rd_end {tx nb:ByteArray} {l:Lm} {L:List ByteArray} {w W W':World} {gs gc k cv:Nat} {e9:Int} {av:Option Addr} {Y:List Nx} (hR:Rq w W gc nb k e9) (hgs:gc<gs) (hM:Mkg W gs gs ((Y.length:Int)-1) (.slice av Y.length cv) Y) (hF:Fr (fun b=>b=w.heap.size+1) W W')
  (h9:(e9≠0→(geK tx nb l).1=e9)∧(e9=0→geK tx nb l=(0,Y.map Nx.nd,L)∧Small Y∧FnX Y)):RdnOut tx nb l L w W' (.returned (.tuple #[.agg #[.slice av Y.length cv,.int .i64 ((Y.length:Int)-1)],.int .i64 e9])):=by
 have h1:=hR.hgc
 have hB:Below w.heap.size w W':=Fr.below hR.bel hF (fun i q=>by omega) hR.bel.size
 refine ⟨Y,av,cv,e9,rfl,h9.1,fun q=>?_,hB⟩
 obtain ⟨q1,q2,q3⟩:=h9.2 q
 have hF2:Fr (fun b=>b<gs) W W':=(Fr.refl (fun b=>b<gs) W).trans hF (fun i hi _=>by omega)
 exact ⟨q1,q2,q3,fun W2 f=>hM.low (S:=fun b=>b<gs) (hF2.trans f (fun i hi _=>by omega)) (fun i q=>q)⟩
def rdnF (av:Option Addr) (n cv gc b:Nat) (e9:Int):Nat→Value→World→Prop
 | 0,v,_=>v=.agg #[.slice av n cv,.int .i64 ((n:Int)-1)]
 | 1,v,_=>v=.pointer (some ⟨gc,0,none⟩)
 | 2,v,_=>v=.int .i64 e9
 | 3,_,W=>AtN 24 W b #[.slice av n cv,.int .i64 ((n:Int)-1)]
 | 4,v,_=>v=.int .i64 e9
 | _,_,_=>True
theorem rdnF_stab (av:Option Addr) (n cv gc b:Nat) (e9:Int):∀i j v w w',i≠j→World.grownBy w w' (if i=3 then some b else none)→rdnF av n cv gc b e9 j v w→rdnF av n cv gc b e9 j v w':=by
 intro i j v w w' hne hg h
 match j,h with
 | 0,h|1,h|2,h|4,h=>exact h
 | 3,h=>
  rw [if_neg hne] at hg
  exact AtN.kept h hg (by simp)
 | n+5,_=>trivial
set_option maxRecDepth 10000 in
set_option maxHeartbeats 4000000 in
theorem pread_any (tx nb:ByteArray) (l:Lm) (L:List ByteArray) (w:World) {B g gm:Nat} {v:Value} (ht:Tb w B g gm v L) (hT:Tabs12 w) (hy:nb.size≤4000000) (hQ:Qn nb L l) (hok:okL l=true) (hG:pGet6 tx 16777216 l.x=(0,L)) :
  Calls Tryz.prog 96 #[.string nb,.pointer (some ⟨g,0,none⟩),.agg (liC l)] w fun e w'=>RdnOut tx nb l L w w' e:=by
 have HA:Hid (∀(o1 o2 o3:Obj),o1=.cells (liC l) 26→o2=.cells #[.slice none 0 0,.int .i64 0] 24→o3=.cells #[.string nb,.int .i64 0,.nilIface] 156→AtN 26 (((w.alloc o1).alloc o2).alloc o3) w.heap.size (liC l)∧Rq w (((w.alloc o1).alloc o2).alloc o3) (w.heap.size+1+1) nb 0 0):=by
  rintro _ _ _ rfl rfl rfl
  refine ⟨((AtN.new w 26 _).alloc _).alloc _,(mk_at (AtN.new (w.alloc _) 24 _) (show _=w.heap.size+1 by simp)).alloc _,?_,(((Below.refl w.heap.size w).alloc (Nat.le_refl _) _).alloc (by simp) _).alloc (by simp;omega) _,by omega⟩
  have h:=At3.new ((w.alloc (.cells (liC l) 26)).alloc (.cells #[.slice none 0 0,.int .i64 0] 24)) 156 (.string nb) (.int .i64 0) .nilIface
  rw [show ((w.alloc (.cells (liC l) 26)).alloc (.cells #[.slice none 0 0,.int .i64 0] 24)).heap.size=w.heap.size+1+1 by simp] at h
  exact h
 have HTT:Hid (∀W,Below w.heap.size w W→Tb W B g gm v L∧Tabs12 W):=fun W hW=>⟨ht.below hW,hT.on hW⟩
 have hsm:nb.size≤maxLen:=by unfold maxLen;omega
 have ho:=okL_in hok
 have hwr:IntKind.u64.wrap l.n=l.n:=by
  have:=ho.2.1
  simp only [IntKind.wrap]
  rw [if_neg (by simp [IntKind.signed])]
  exact Int.emod_eq_of_lt (by omega) (by simp [IntKind.bits];omega)
 have hln:=ho.2.1
 have hle:=ho.2.2.1
 have HFl:Hid (∀(W:World) (gc k:Nat) (e d:Int),Cu W gc nb k e→Calls Tryz.prog 76 #[.pointer (some ⟨gc,0,none⟩),.int .i64 d] W fun r w'=>r=.returned (.tuple #[])∧Cu w' gc nb k (if e=0 then d else e)∧W.grownBy w' (some gc)):=fun W gc k e d q=>fail_any W gc nb k e d q
 have HEr:Hid (∀(W:World) (gc k:Nat) (e:Int),Cu W gc nb k e→Calls Tryz.prog 74 #[.pointer (some ⟨gc,0,none⟩)] W fun r w'=>r=.returned (.int .i64 e)∧Below W.heap.size W w'):=fun W gc k e q=>err_any W gc nb k e q
 have HLf:Hid (∀(W:World) (gc k:Nat) (e:Int),Cu W gc nb k e→k≤nb.size→Calls Tryz.prog 75 #[.pointer (some ⟨gc,0,none⟩)] W fun r w'=>r=.returned (.int .i64 ((nb.size:Int)-k))∧Below W.heap.size W w'):=fun W gc k e q hk=>by
  refine (left_any W gc nb k e q hsm (by omega) (by omega)).mono ?_
  rintro r w' ⟨rfl,n,rfl⟩
  exact ⟨rfl,rfl,rfl,rfl,Nat.le_refl _,fun _ _=>rfl⟩
 obtain ⟨n,k0,ne,hU⟩:∃n k0 ne,pUint nb 0 0 l.n=(n,k0,ne):=⟨_,_,_,rfl⟩
 have HU:Hid (∀(W:World) (gc:Nat) (m:Int),m=l.n→Cu W gc nb 0 0→Calls Tryz.prog 117 #[.pointer (some ⟨gc,0,none⟩),.int .u64 m] W fun r w'=>r=.returned (.int .i64 n)∧Cu w' gc nb k0 ne∧W.grownBy w' (some gc)):=fun W gc m hm q=>by
  subst hm
  have h:=uint_any W gc nb 0 0 l.n q hsm (Nat.zero_le _)
  rw [hU] at h
  exact h
 have hk0:k0≤nb.size:=by have:=(pUint_at nb 0 0 l.n (Nat.zero_le _)).2;rw [hU] at this;exact this
 have hnt:0≤n∧n≤16777216:=by have:=pUint_top nb 0 0 l.n;rw [hU] at this;exact ⟨this.1,this.2.1⟩
 have hn9:ne≠0→n=0:=fun q=>by have:=(pUint_val nb 0 l.n).2.2;rw [hU] at this;exact this q
 obtain ⟨m,hm0⟩:∃m:Nat,n=m:=⟨n.toNat,by omega⟩
 have HMn:Hid (n=(m:Int)):=hm0
 have hm24:m≤16777216:=by omega
 obtain ⟨e4,he4⟩:∃e4,(if m=0 then (if ne=0 then 13 else ne) else ne)=e4:=⟨_,rfl⟩
 obtain ⟨P,kz,ez,hS⟩:∃P kz ez,gNs nb L m 0 k0 l.e=(P,kz,ez):=⟨_,_,_,rfl⟩
 have HE4:Hid ((e4≠0→(geK tx nb l).1=e4)∧(e4=0→ne=0∧0<m)):=by
  refine ⟨fun q=>?_,fun q=>?_⟩
  ·by_cases hne:ne=0
   ·subst hne
    by_cases hm:m=0
    ·subst hm
     rw [if_pos rfl,if_pos rfl] at he4
     rw [← he4]
     exact geK_4 tx nb l hok hG (by rw [hU,hm0];rfl)
    ·rw [if_neg hm] at he4
     exact absurd he4.symm q
   ·have hm:m=0:=by have:=hn9 hne;omega
    rw [if_pos hm,if_neg hne] at he4
    rw [← he4]
    exact geK_3 tx nb l hok hG hU hne
  ·by_cases hm:m=0
   ·rw [if_pos hm] at he4
    by_cases hne:ne=0
    ·rw [if_pos hne] at he4;omega
    ·rw [if_neg hne] at he4;omega
   ·rw [if_neg hm] at he4
    exact ⟨he4.trans q,by omega⟩
 have HX:Hid (ne=0→0<m→(ez≠0→(geK tx nb l).1=ez)∧(ez=0→(kz<nb.size→(geK tx nb l).1=8)∧(¬kz<nb.size→geK tx nb l=(0,P,L)))):=fun h0 hm=>by
  subst h0
  have h1:n≠0:=by omega
  have h2:gNs nb L n.toNat 0 k0 l.e=(P,kz,ez):=by rw [hm0,Int.toNat_natCast];exact hS
  refine ⟨fun q=>geK_5 tx nb l hok hG hU h1 h2 q,fun q=>?_⟩
  subst q
  exact ⟨fun q=>geK_6 tx nb l hok hG hU h1 h2 q,fun q=>geK_7 tx nb l hok hG hU h1 h2 q⟩
 have HQ:Hid (P.length≤1401∧∀N ∈ P,big N=false∧fine N.ints):=hQ P kz ez (by rw [hU,hm0];dsimp only;rw [Int.toNat_natCast];exact hS)
 have hlC:liC l=#[.int .i64 l.b,.int .i64 l.n,.int .i64 l.e,.int .i64 l.d,.int .i64 l.x]:=rfl
 have H4:Hid ((n==0)=true∧(if ne=0 then 13 else ne)=e4∨(n==0)=false∧ne=e4):=by
  by_cases hm:m=0
  ·rw [if_pos hm] at he4
   exact .inl ⟨by simp [hm,hm0],he4⟩
  ·rw [if_neg hm] at he4
   exact .inr ⟨by simp [hm,hm0],he4⟩
 have HS:Hid (gNs nb L m 0 k0 l.e=(P,kz,ez)):=hS
 clear ht hT hU hn9 he4 hS ho hok hG hQ hm0
 go_enter Tryz.func96,Tryz.ntmps96
 rw [hlC]
 go_wp2_with fail
 refine Calls.mono (cnew_any nb _) ?_
 rintro e w2 ⟨rfl,hw2⟩
 obtain ⟨ha2,hr2⟩:=HA.out _ _ _ rfl rfl rfl
 rw [hlC] at ha2 hr2
 rw [← hw2] at ha2 hr2
 rw [show ((w.alloc (.cells #[.int .i64 l.b,.int .i64 l.n,.int .i64 l.e,.int .i64 l.d,.int .i64 l.x] 26)).alloc (.cells #[.slice none 0 0,.int .i64 0] 24)).heap.size=w.heap.size+1+1 by simp]
 have HR2:Hid (Rq w w2 (w.heap.size+1+1) nb 0 0):=hr2
 have HA2:Hid (AtN 26 w2 w.heap.size #[.int .i64 l.b,.int .i64 l.n,.int .i64 l.e,.int .i64 l.d,.int .i64 l.x]):=ha2
 obtain ⟨gc,hgc⟩:∃gc,w.heap.size+1+1=gc:=⟨_,rfl⟩
 rw [hgc] at HR2 ⊢
 clear HA hr2 ha2 hw2 hgc hlC
 have C2:Cu w2.drew gc nb 0 0:=HR2.out.cu
 have a1:w2.drew.cell? ⟨w.heap.size,1,none⟩=some (.int .i64 l.n):=HA2.out.cell 1
 have a2:w2.drew.cell? ⟨w.heap.size,2,none⟩=some (.int .i64 l.e):=HA2.out.cell 2
 have b1:w2.cell? ⟨w.heap.size,1,none⟩=some (.int .i64 l.n):=HA2.out.cell 1
 have b2:w2.cell? ⟨w.heap.size,2,none⟩=some (.int .i64 l.e):=HA2.out.cell 2
 have hgc0:=HR2.out.hgc
 go_wp2_with fail
 go_region_held3 (fun W=>W.cell? ⟨w.heap.size,1,none⟩=some (.int .i64 l.n)∧W.cell? ⟨w.heap.size,2,none⟩=some (.int .i64 l.e)) (first|exact ⟨d1,d2⟩|exact ⟨a1,a2⟩|exact ⟨b1,b2⟩|go_keep)
  ((go_at_call 117;refine (HU.out _ gc _ (by first|rfl|exact hwr) C2).mono ?_;rintro r w3 ⟨rfl,c3,g3⟩;have d1:w3.cell? ⟨w.heap.size,1,none⟩=some (.int .i64 l.n):=(AtN.kept (show AtN 26 w2.drew w.heap.size _ from HA2.out) g3 (by simp;omega)).cell 1;have d2:w3.cell? ⟨w.heap.size,2,none⟩=some (.int .i64 l.e):=(AtN.kept (show AtN 26 w2.drew w.heap.size _ from HA2.out) g3 (by simp;omega)).cell 2))
 have HR3:Hid (Rq w w3 gc nb k0 ne):=(HR2.out.more (W':=w2.drew) ⟨rfl,rfl,rfl,Nat.le_refl _,fun _ _=>rfl⟩).cur g3 c3
 clear HA2 HR2 C2 a1 a2 b1 b2 c3 g3 d1 d2 HU hwr
 go_upto_if 23 with fail
 go_cut [] (fun wc=>Hid (Rq w wc gc nb k0 e4))
 case first=>
  rcases H4.out with ⟨hm,h4⟩|⟨hm,h4⟩
  ·go_wp2_with fail
   refine Calls.mono (HFl.out _ gc k0 ne 13 HR3.out.cu) ?_
   rintro r w4 ⟨rfl,hc4,hg4⟩
   rw [h4] at hc4
   go_wp2_with fail
   go_meet
   exact HR3.out.cur hg4 hc4
  ·subst h4
   go_wp2_with fail
   go_meet
   exact HR3
 case rest=>
  clear HR3 H4
  have HR4:=hcut
  clear hcut
  have HR5:Hid (Rq w (wc.alloc (.cells #[.slice none 0 0,.int .i64 0] 24)) gc nb k0 e4):=HR4.out.more ((Below.refl wc.heap.size wc).alloc (Nat.le_refl _) _)
  have HM5:Hid (Mkg (wc.alloc (.cells #[.slice none 0 0,.int .i64 0] 24)) wc.heap.size wc.heap.size 0 (.slice none 0 0) []):=⟨AtN.new wc 24 _,⟨rfl,.inl ⟨rfl,rfl⟩⟩,fun j hj=>by simp at hj⟩
  have hgs:gc<wc.heap.size:=HR4.out.cu.lt
  clear HR4
  obtain ⟨i0,hi,hz0,hz1,hz2⟩:=info_parts Tryz.infoD9
  go_upto_block 0 with fail
  generalize wc.heap.size=gs at *
  generalize wc.alloc (.cells #[.slice none 0 0,.int .i64 0] 24)=w5 at *
  go_cut [] (fun wz=>∃(k:Nat) (e:Int) (v:Value) (Y:List Nx),k≤nb.size∧Y.length≤16777216∧Hid (Rq w wz gc nb k e)∧Hid (Mkg wz gs gs 0 v Y)∧Hid ((e≠0→(geK tx nb l).1=e)∧(e=0→(k<nb.size→(geK tx nb l).1=8)∧(¬k<nb.size→geK tx nb l=(0,Y.map Nx.nd,L)∧Small Y∧FnX Y))))
  case first=>
   go_wp2_with fail
   go_loopg [10] m (fun gh dv wr=>∃(k:Nat) (ed e:Int) (v:Value) (Y:List Nx),dv=.int .i64 ed∧gh=m-Y.length∧Y.length≤m∧k≤nb.size∧l.e-3000*Y.length≤ed∧ed≤l.e∧Hid (Rq w wr gc nb k e)∧Hid (Mkg wr gs gs 0 v Y)∧Hid (e≠0→(geK tx nb l).1=e)∧Hid (e=0→ne=0∧0<m∧RdI nb L P kz ez m k ed Y))
   case atStart=>exact ⟨k0,l.e,e4,_,[],rfl,by simp,by simp,hk0,by simp,by omega,HR5,HM5,HE4.out.1,fun q=>⟨(HE4.out.2 q).1,(HE4.out.2 q).2,fun T k' e' q2=>by rw [List.length_nil,Nat.sub_zero] at q2;rw [← HS.out,q2];simp⟩⟩
   case round=>
    clear HR5 HM5 HE4 HS
    obtain ⟨k,ed,e,v,Y,rfl,rfl,hYm,hkb,hd1,hd2,HR,HM,HE,HI⟩:=hrel
    obtain ⟨av,cv,rfl⟩:=own_shape4 HM.out.row
    have s0:wr.cell? ⟨gs,0,none⟩=some (.slice av Y.length cv):=HM.out.sc.cell 0
    by_cases hgo:Y.length<m∧e=0
    ·obtain ⟨hlt,rfl⟩:=hgo
     have hlt':(Y.length:Int)<n:=by have:=HMn.out;omega
     have HI0:Hid (ne=0∧0<m∧RdI nb L P kz ez m k ed Y):=HI.out rfl
     clear HI HE
     go_wp2_with fail
     refine Calls.mono (HEr.out wr gc k 0 HR.out.cu) ?_
     rintro r w4 ⟨rfl,hb4⟩
     have HR4:Hid _:=HR.out.more hb4
     have HM4:Hid (Mkg w4 gs gs 0 (.slice av Y.length cv) Y):=HM.out.below hb4
     clear HR HM hb4 s0
     have s0:w4.cell? ⟨gs,0,none⟩=some (.slice av Y.length cv):=HM4.out.sc.cell 0
     obtain ⟨N,k1,e1,hN⟩:∃N k1 e1,gNd nb (Y.length:Nat) L ed k 0=(N,k1,e1):=⟨_,_,_,rfl⟩
     have HG:Hid _:=pget_any nb gc (Y.length:Nat) ed k 0 w4 HR4.out.cu (by omega) hkb (fun W hW=>HTT.out W (Fr.below HR4.out.bel (Fr.of_grown (S:=fun b=>b=gc) hW (fun k e=>by cases e;rfl)) (fun i q=>by omega) HR4.out.bel.size)) (by omega)
     rw [hN] at HG
     have hk1:k1≤nb.size:=by have:=gNd_le nb (Y.length:Nat) L ed k 0 hkb;rw [hN] at this;exact this
     have hkl:N.kids.length≤3000:=by
      by_cases he:e1=0
      ·subst he
       exact (big_no (HQ.out.2 N (HI0.out.2.2.mem hlt hN)).1).2.2.1
      ·have:=gNd_none (b:=nb) (p:=(Y.length:Nat)) (edges:=ed) (L:=L) (k:=k) (e:=0) (by rw [hN];exact he)
       rw [hN] at this
       dsimp only at this
       rw [this]
       simp
     have HE1:Hid (e1≠0→(geK tx nb l).1=e1):=fun q=>by
      obtain ⟨q1,q2,q3⟩:=HI0.out
      have q4:=q3.stop hlt hN q
      have:=(HX.out q1 q2).1 (by rw [q4];exact q)
      rw [this,q4]
     have HI1:Hid (e1=0→∀y:Nx,y.nd=N→ne=0∧0<m∧RdI nb L P kz ez m k1 (ed-N.kids.length) (Y++[y])):=fun q y hy=>by
      subst q hy
      obtain ⟨q1,q2,q3⟩:=HI0.out
      exact ⟨q1,q2,q3.next hlt hN⟩
     clear HI0 hN
     go_wp2_with fail
     refine Calls.mono HG.out ?_
     rintro r w5 ⟨a1,c1,a2,c2,a3,c3,rfl,ho5,hr5,hb5⟩
     dsimp only at ho5 hr5 ⊢
     obtain ⟨w6,hw6⟩:∃w6,w5.alloc (.cells #[.int .i64 N.kind,.slice a1 N.ints.length c1,.slice a2 N.texts.length c2,.slice a3 N.kids.length c3] 51)=w6:=⟨_,rfl⟩
     have hb6:Below w5.heap.size w5 w6:=by rw [← hw6];exact (Below.refl w5.heap.size w5).alloc (Nat.le_refl _) _
     have hA6:AtN 51 w6 w5.heap.size #[.int .i64 N.kind,.slice a1 N.ints.length c1,.slice a2 N.texts.length c2,.slice a3 N.kids.length c3]:=by rw [← hw6];exact AtN.new w5 51 _
     have HO6:Hid (OwnNx w6 w4.heap.size ⟨N,a1,c1,a2,c2,a3,c3⟩):=OwnNd.belowB ho5 hb6
     have HR6:Hid (Rq w w6 gc nb k1 e1):=(HR4.out.cur hb5 hr5).more hb6
     have HM6:Hid (Mkg w6 gs gs 0 (.slice av Y.length cv) Y):=(HM4.out.curP hb5 HR4.out.cu).below hb6
     have h3r:gs<w4.heap.size:=HM4.out.sc.lt
     have hvb:∀z,(Value.slice av Y.length cv).ownBlock=some z→gs≤z∧z<w4.heap.size:=fun z q=>HM4.out.row.lt z q
     clear HG ho5 hr5 hb5 HM4 HR4 s0
     have n3:w6.cell? ⟨w5.heap.size,3,none⟩=some (.slice a3 N.kids.length c3):=hA6.cell 3
     have n0:w6.cell? ⟨w5.heap.size,0,none⟩=some (.int .i64 N.kind):=hA6.cell 0
     have n1:w6.cell? ⟨w5.heap.size,1,none⟩=some (.slice a1 N.ints.length c1):=hA6.cell 1
     have n2:w6.cell? ⟨w5.heap.size,2,none⟩=some (.slice a2 N.texts.length c2):=hA6.cell 2
     have hv3:(Value.slice av Y.length cv).ownBlock≠some gs:=HM6.out.ne
     have x0:w6.cell? ⟨gs,0,none⟩=some (.slice av Y.length cv):=HM6.out.sc.cell 0
     have x1:=HM6.out.sc.lt
     have f0:=HM6.out.sc.fz 0
     go_wp2_with (at_builtin;refine wpList_append_lies _ rfl (.tmp 49) (.tmp 51) 22 rfl gs 51 i0 (.agg #[.int .i64 0,.slice none 0 0,.slice none 0 0,.slice none 0 0]) 4 80 Tryz.underlying22 hi hz0 hz1 hz2 rfl (by decide) _ Y.length (nxV Y) rfl (HM6.out.row.alloc _) ⟨w6.heap.size,0,none⟩ 1 1 [.int .i64 N.kind,.slice a1 N.ints.length c1,.slice a2 N.texts.length c2,.slice a3 N.kids.length c3] rfl rfl (fun j z hz=>World.news_of_block (AtN.new w6 51 _) j z (by simpa using hz)) (by intro z hz;simp at hz;rcases hz with rfl|rfl|rfl|rfl <;> rfl) (by decide) (by unfold maxLen;omega) (by omega) (by simp;omega) _ rfl ?_)
     intro g2 cap2 w7 hown hgrow hlie hlt7
     clear hw6
     have hA7:AtN 24 w7 gs #[.slice av Y.length cv,.int .i64 0]:=(HM6.out.sc.alloc _).kept hgrow (fun e=>hv3 e.symm)
     have x7:w7.cell? ⟨gs,0,none⟩=some (.slice av Y.length cv):=hA7.cell 0
     have f7:=hA7.fz 0
     have hfr:Fr (MkS gs (.slice av Y.length cv)) w6 (w7.setCell ⟨gs,0,none⟩ (.slice (some ⟨g2,0,none⟩) (Y.length+1) cap2)):=(((Fr.refl (MkS gs (.slice av Y.length cv)) w6).alloc _).trans (Fr.of_grown hgrow (fun q e=>.inl e)) (fun i hi _=>hi)).set ⟨gs,0,none⟩ (.inr rfl) _
     have hne:(Value.slice (some ⟨g2,0,none⟩) (Y.length+1) cap2).ownBlock≠some gs:=by
      intro q
      simp only [Value.ownBlock,Option.some.injEq] at q
      rcases hlie with p|p
      ·rw [q] at p;exact hv3 p
      ·first|omega|(simp at p;omega)
     have hOw:OwnNx w7 w4.heap.size ⟨N,a1,c1,a2,c2,a3,c3⟩:=OwnNx.kept (OwnNx.kept HO6.out (World.grownBy_alloc w6 _ none) (by simp)) hgrow (fun z q=>(hvb z q).2)
     have HM8:Hid (Mkg (w7.setCell ⟨gs,0,none⟩ (.slice (some ⟨g2,0,none⟩) (Y.length+1) cap2)) gs gs 0 (.slice (some ⟨g2,0,none⟩) (Y.length+1) cap2) (Y++[⟨N,a1,c1,a2,c2,a3,c3⟩])):=by
      refine HM6.out.next hfr (by simpa using AtN.set hA7 0 (.slice (some ⟨g2,0,none⟩) (Y.length+1) cap2)) (own_set' hown hne _) (OwnNx.mono (hOw.kept (grown_set (grown_refl w7 (some gs)) 0 _) (fun k hk=>by cases hk;omega)) (by omega))
     have HR8:Hid (Rq w (w7.setCell ⟨gs,0,none⟩ (.slice (some ⟨g2,0,none⟩) (Y.length+1) cap2)) gc nb k1 e1):=HR6.out.fr hfr (fun z hz=>by
      rcases hz with hz|hz
      ·have:=(hvb z hz).1;omega
      ·omega)
     have HI8:Hid (e1=0→ne=0∧0<m∧RdI nb L P kz ez m k1 (ed-N.kids.length) (Y++[⟨N,a1,c1,a2,c2,a3,c3⟩])):=fun q=>HI1.out q _ rfl
     clear hown hgrow hlie hA7 hfr hne hOw HM6 HR6 HI1 HO6 hvb x0 n0 n1 n2 n3 hA6 hb6
     go_wp2_with fail
     go_roundg (m-(Y.length+1))
     case measure=>omega
     case rel=>exact ⟨k1,ed-N.kids.length,e1,_,Y++[⟨N,a1,c1,a2,c2,a3,c3⟩],by go_num,by simp,by simp;omega,hk1,by simp only [List.length_append,List.length_cons,List.length_nil];omega,by omega,HR8,HM8,HE1,HI8⟩
    ·have HF:Hid ((e≠0→(geK tx nb l).1=e)∧(e=0→(k<nb.size→(geK tx nb l).1=8)∧(¬k<nb.size→geK tx nb l=(0,Y.map Nx.nd,L)∧Small Y∧FnX Y))):=by
      refine ⟨HE.out,fun q=>?_⟩
      subst q
      obtain ⟨q1,q2,q3⟩:=HI.out rfl
      obtain ⟨rfl,rfl,rfl⟩:=q3.fin (fun h=>hgo ⟨h,rfl⟩)
      have q4:=(HX.out q1 q2).2 rfl
      have h5:∀j,j<Y.length→(Y.getD j noNx).nd ∈ Y.map Nx.nd:=fun j hj=>by
       rw [List.getD_eq_getElem?_getD,List.getElem?_eq_getElem hj]
       exact List.mem_map_of_mem (List.getElem_mem hj)
      refine ⟨q4.1,fun h=>⟨q4.2 h,⟨by have:=HQ.out.1;rw [List.length_map] at this;exact this,fun j hj=>(HQ.out.2 _ (h5 j hj)).1⟩,fun j hj=>(HQ.out.2 _ (h5 j hj)).2⟩⟩
     clear HE HI
     by_cases hlt:Y.length<m
     ·have hlt':(Y.length:Int)<n:=by have:=HMn.out;omega
      have he:¬e=0:=fun h=>hgo ⟨hlt,h⟩
      clear hgo
      go_wp2_with fail
      refine Calls.mono (HEr.out wr gc k e HR.out.cu) ?_
      rintro r w4 ⟨rfl,hb4⟩
      have HR4:Hid _:=HR.out.more hb4
      have HM4:Hid (Mkg w4 gs gs 0 (.slice av Y.length cv) Y):=HM.out.below hb4
      clear HR HM hb4 s0
      go_wp2_with fail
      go_meet
      exact ⟨k,e,_,Y,hkb,by omega,HR4,HM4,HF⟩
     ·have hlt':¬(Y.length:Int)<n:=by have:=HMn.out;omega
      clear hgo
      go_wp2_with fail
      go_meet
      exact ⟨k,e,_,Y,hkb,by omega,HR,HM,HF⟩
  case rest=>
   clear HR5 HM5 HE4 HS HX HTT HQ HMn
   obtain ⟨k,e,v,Y,hkb,hYl,HR,HM,HF⟩:=hcut
   obtain ⟨av,cv,rfl⟩:=own_shape4 HM.out.row
   obtain ⟨e9,he9⟩:∃e9,(if k<nb.size then (if e=0 then 8 else e) else e)=e9:=⟨_,rfl⟩
   have H9:Hid ((e9≠0→(geK tx nb l).1=e9)∧(e9=0→geK tx nb l=(0,Y.map Nx.nd,L)∧Small Y∧FnX Y)):=by
    by_cases hk:k<nb.size
    ·rw [if_pos hk] at he9
     by_cases he:e=0
     ·rw [if_pos he] at he9
      subst he9
      exact ⟨fun _=>(HF.out.2 he).1 hk,fun q=>by cases q⟩
     ·rw [if_neg he] at he9
      subst he9
      exact ⟨fun q=>HF.out.1 q,fun q=>absurd q he⟩
    ·rw [if_neg hk] at he9
     subst he9
     exact ⟨HF.out.1,fun q=>(HF.out.2 q).2 hk⟩
   clear HF
   have H9e:Hid ((k<nb.size∧(if e=0 then 8 else e)=e9)∨(¬k<nb.size∧e=e9)):=by
    by_cases hk:k<nb.size
    ·rw [if_pos hk] at he9;exact .inl ⟨hk,he9⟩
    ·rw [if_neg hk] at he9;exact .inr ⟨hk,he9⟩
   clear he9
   go_wp2_with fail
   refine Calls.mono (HLf.out _ gc k e HR.out.cu hkb) ?_
   rintro r w6 ⟨rfl,hb6⟩
   have HR6:Hid _:=HR.out.more hb6
   have HM6:Hid (Mkg w6 gs gs 0 (.slice av Y.length cv) Y):=HM.out.below hb6
   clear HR HM hb6
   go_upto_if 56 with fail
   go_cut [] (fun wy=>Hid (Rq w wy gc nb k e9)∧Hid (Mkg wy gs gs 0 (.slice av Y.length cv) Y))
   case first=>
    rcases H9e.out with ⟨hk,h9⟩|⟨hk,rfl⟩
    ·have hk':(0:Int)<(nb.size:Int)-k:=by omega
     go_wp2_with fail
     refine Calls.mono (HFl.out _ gc k e 8 HR6.out.cu) ?_
     rintro r w7 ⟨rfl,hc7,hg7⟩
     rw [h9] at hc7
     go_wp2_with fail
     go_meet
     exact ⟨HR6.out.cur hg7 hc7,HM6.out.curP hg7 HR6.out.cu⟩
    ·have hk':¬(0:Int)<(nb.size:Int)-k:=by omega
     go_wp2_with fail
     go_meet
     exact ⟨HR6,HM6⟩
   case rest=>
    clear HR6 HM6 H9e
    obtain ⟨HR,HM⟩:=hcut
    generalize wc=wy at *
    have hgs2:gc<gs:=hgs
    have hrg:=HR.out.hgc
    have HR9:Hid (Rq w (wy.setCell ⟨gs,1,none⟩ (.int .i64 ((Y.length:Int)-1))) gc nb k e9):=HR.out.fr ((Fr.refl (fun b=>b=gs) wy).set ⟨gs,1,none⟩ rfl _) (fun i q=>by omega)
    have HM9:Hid (Mkg (wy.setCell ⟨gs,1,none⟩ (.int .i64 ((Y.length:Int)-1))) gs gs ((Y.length:Int)-1) (.slice av Y.length cv) Y):=HM.out.root _
    have s0:wy.cell? ⟨gs,0,none⟩=some (.slice av Y.length cv):=HM.out.sc.cell 0
    have s1:wy.cell? ⟨gs,1,none⟩=some (.int .i64 0):=HM.out.sc.cell 1
    have f1:=HM.out.sc.fz 1
    clear HR HM
    go_wp2_with fail
    generalize wy.setCell ⟨gs,1,none⟩ (.int .i64 ((Y.length:Int)-1))=w9 at *
    clear s0 s1 f1
    refine facts_region (some (w.heap.size+1)) 3 (rdnF av Y.length cv gc (w.heap.size+1) e9) (by kernel_rfl) (by kernel_rfl) (rdnF_stab av Y.length cv gc (w.heap.size+1) e9) ?step ?fin
    case step=>
     intro i o ho act W hg hstill hoff hdep K hK
     have t11:act.tmps[11]?.getD undef=.pointer (some ⟨gs,0,none⟩):=hoff 11 (by kernel_rfl)
     have t8:act.tmps[8]?.getD undef=.pointer (some ⟨gc,0,none⟩):=hoff 8 (by kernel_rfl)
     have t6:act.tmps[6]?.getD undef=.pointer (some ⟨w.heap.size+1,0,none⟩):=hoff 6 (by kernel_rfl)
     have hS:AtN 24 W gs #[.slice av Y.length cv,.int .i64 ((Y.length:Int)-1)]:=AtN.kept HM9.out.sc hg (by simp;omega)
     have x0:W.cell? ⟨gs,0,none⟩=some (.slice av Y.length cv):=hS.cell 0
     have x1:W.cell? ⟨gs,1,none⟩=some (.int .i64 ((Y.length:Int)-1)):=hS.cell 1
     have A1:i=3→AtN 24 W (w.heap.size+1) #[.slice none 0 0,.int .i64 0]:=fun e=>AtN.kept HR9.out.r (hstill e) (by simp)
     have HE:Hid _:=HEr.out W gc k e9 (At3.kept HR9.out.cu hg (by simp;omega))
     clear hS hg hoff hstill
     rcases i with _|_|_|_|_|i
     ·obtain rfl:=Option.some.inj ho
      clear hdep A1 HE
      go_simp
      exact hK _ _ (grown_refl _ _) rfl
     ·obtain rfl:=Option.some.inj ho
      clear hdep A1 HE
      go_simp
      exact hK _ _ (grown_refl _ _) rfl
     ·obtain rfl:=Option.some.inj ho
      have e1:act.tmps[65]?.getD undef=.pointer (some ⟨gc,0,none⟩):=hdep 1 _ (by kernel_rfl) rfl
      clear hdep A1
      go_simp
      refine Calls.mono (Hid.out HE) ?_
      rintro e w' ⟨rfl,hb⟩
      exact hK _ _ (grown_of_below hb _) rfl
     ·obtain rfl:=Option.some.inj ho
      have e0:act.tmps[64]?.getD undef=.agg #[.slice av Y.length cv,.int .i64 ((Y.length:Int)-1)]:=hdep 0 _ (by kernel_rfl) rfl
      have A:=A1 rfl
      have y0:W.cell? ⟨w.heap.size+1,0,none⟩=some (.slice none 0 0):=A.cell 0
      have y1:W.cell? ⟨w.heap.size+1,1,none⟩=some (.int .i64 0):=A.cell 1
      have f0:=A.fz 0
      have f1:=A.fz 1
      have HA:Hid (AtN 24 W (w.heap.size+1) #[.slice none 0 0,.int .i64 0]):=A
      clear hdep A1 HE A x0 x1
      go_simp
      exact hK undef _ (grown_set (grown_set (grown_refl W _) 0 _) 1 _) (by show AtN 24 _ (w.heap.size+1) #[.slice av Y.length cv,.int .i64 ((Y.length:Int)-1)];simpa using (HA.out.set 0 (.slice av Y.length cv)).set 1 (.int .i64 ((Y.length:Int)-1)))
     ·obtain rfl:=Option.some.inj ho
      have e2:act.tmps[66]?.getD undef=.int .i64 e9:=hdep 2 _ (by kernel_rfl) rfl
      clear hdep A1 HE
      go_simp
      exact hK _ _ (grown_refl _ _) rfl
     ·exact absurd ho (by simp)
    case fin=>
     intro V W hg hF
     have A:AtN 24 W (w.heap.size+1) #[.slice av Y.length cv,.int .i64 ((Y.length:Int)-1)]:=hF 3 _ rfl
     have v4:V (some 7)=.int .i64 e9:=hF 4 _ rfl
     have HO:Hid _:=rd_end HR9.out hgs2 HM9.out (Fr.of_grown (S:=fun b=>b=w.heap.size+1) hg (fun q e=>by cases e;rfl)) H9.out
     have y0:W.cell? ⟨w.heap.size+1,0,none⟩=some (.slice av Y.length cv):=A.cell 0
     have y1:W.cell? ⟨w.heap.size+1,1,none⟩=some (.int .i64 ((Y.length:Int)-1)):=A.cell 1
     clear hF hg A
     simp only [fillA,Act.put,List.setIfInBounds_toArray,List.set_cons_zero,List.set_cons_succ]
     go_wp2_with fail
     exact bodyPost_ret (v:=.tuple #[.agg #[.slice av Y.length cv,.int .i64 ((Y.length:Int)-1)],.int .i64 e9]) (by simp [results,Tryz.results96,go_sem, *]) rfl HO.out
end Go.Proofs.YtgoffkfpdigeeaaGreatDoor
