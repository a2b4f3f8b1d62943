import Derived.Deep.CutBlock
import Derived.Deep.DeepCutAuto
import Derived.Deep.RegionHeld3
import Derived.Test.YtgoffkfpdigeeaaGreatDoorA35
namespace Go.Proofs.YtgoffkfpdigeeaaGreatDoor
open Go.RowKit Go.Maps Go.WideMaps Go.Sort
theorem pUint_leO (b:ByteArray) (k:Nat) (e m:Int) (h:0≤m):(pUint b k e m).1≤m:=by
 unfold pUint
 split
 ·exact h
 ·split
  ·exact h
  ·split
   ·exact h
   ·dsimp only;omega
structure Rr (w W:World) (l:Lm) (gc:Nat) (nb:ByteArray) (k:Nat) (e:Int):Prop where
 lim:AtN 26 W w.heap.size #[.int .i64 l.b,.int .i64 l.n,.int .i64 l.e,.int .i64 l.d,.int .i64 l.x]
 cu:Cu W gc nb k e
 fr:w.grownBy W (some gc)
 hg:gc<w.heap.size
 kb:k≤nb.size
section
variable {w W W':World} {l:Lm} {gc k k':Nat} {nb:ByteArray} {e e':Int}
theorem Rr.cur (h:Rr w W l gc nb k e) (hg:W.grownBy W' (some gc)) (hc:Cu W' gc nb k' e') (hk:k'≤nb.size):Rr w W' l gc nb k' e':=by
 have h1:=h.hg
 exact ⟨h.lim.kept hg (by simp;omega),hc,gtrans h.fr hg,h1,hk⟩
theorem Rr.app {S:Nat→Prop} (h:Rr w W l gc nb k e) (f:Fr S W W') (hs:∀i,S i→w.heap.size<i):Rr w W' l gc nb k e:=by
 have h1:=h.hg
 have hf:=h.fr
 exact ⟨h.lim.fr f (fun q=>by have:=hs _ q;omega),At3.frO h.cu f (fun q=>by have:=hs _ q;omega),⟨f.os.trans hf.os,f.tape.trans hf.tape,f.output.trans hf.output,Nat.le_trans hf.size f.size,fun i hi hn=>(f.block i (Nat.lt_of_lt_of_le hi hf.size) (fun q=>by have:=hs _ q;omega)).trans (hf.block i hi hn)⟩,h1,h.kb⟩
theorem Rr.more (h:Rr w W l gc nb k e) (hb:Below W.heap.size W W'):Rr w W' l gc nb k e:=h.app (Fr.of_below (S:=fun _=>False) hb) (fun _ q=>q.elim)
end
structure Rb (w W:World) (l:Lm) (gc gS:Nat) (nb:ByteArray) (k:Nat) (e:Int) (a:Option Addr) (c:Nat) (Y:List Nx) (sb:Option Addr) (sc:Nat) (S:Sp):Prop where
 r:Rr w W l gc nb k e
 y:Rws W (w.heap.size+1) (.slice a Y.length c) Y
 sp:AtN 117 W gS #[.slice sb S.ints.length sc,.int .i64 S.texts,.int .i64 S.least,.int .i64 S.most]
 cls:W.ownsRow (w.heap.size+1) 3 1 (.slice sb S.ints.length sc) S.ints.length (iV S.ints)
 hS:w.heap.size<gS
section
variable {w W W':World} {l:Lm} {gc gS k k' c:Nat} {nb:ByteArray} {e e':Int} {a:Option Addr} {Y:List Nx} {sb:Option Addr} {sc:Nat} {S:Sp}
theorem Rb.cur (h:Rb w W l gc gS nb k e a c Y sb sc S) (hg:W.grownBy W' (some gc)) (hc:Cu W' gc nb k' e') (hk:k'≤nb.size):Rb w W' l gc gS nb k' e' a c Y sb sc S:=by
 have h1:=h.r.hg
 have h2:=h.hS
 exact ⟨h.r.cur hg hc hk,h.y.curP hg h.r.cu,h.sp.kept hg (by simp;omega),row_kept h.cls hg (row_low h.cls (fun q hq=>by cases hq;omega)),h2⟩
theorem Rb.more (h:Rb w W l gc gS nb k e a c Y sb sc S) (hb:Below W.heap.size W W'):Rb w W' l gc gS nb k e a c Y sb sc S:=
 ⟨h.r.more hb,h.y.below hb,h.sp.belowAll hb,own_below h.cls hb (Nat.le_refl _),h.hS⟩
theorem Rb.clsAt (h:Rb w W l gc gS nb k e a c Y sb sc S) (hg:W.grownBy W' (some gc)):LsAt W' sb (iV S.ints):=by
 have h1:=h.r.hg
 exact LsAt.of_own (row_kept h.cls hg (row_low h.cls (fun q hq=>by cases hq;omega)))
theorem Rb.node {g:Nat} {cs:Array Value} (h:Rb w W l gc gS nb k e a c Y sb sc S) (f:Fr (fun b=>b=g) W W') (hz:AtN 51 W g cs) (hN:∀q,(Value.slice a Y.length c).ownBlock=some q→q<g) (hw:w.heap.size<g):Rb w W' l gc gS nb k e a c Y sb sc S:=by
 have hal:Alien W (fun b=>b=g):=fun b hb _=>⟨_,_,_,hb ▸ hz,by decide,by decide,by decide⟩
 refine ⟨h.r.app f (fun i hi=>by omega),⟨own_fr h.y.row f (fun r hr q=>by have:=hN r hr;omega),fun j hj=>(h.y.each j hj).fr f hal⟩,h.sp.fr f (fun q=>?_),own_fr h.cls f (fun r hr q=>own_ne_at h.cls hz (by decide) r hr q),h.hS⟩
 subst q
 have h1:W.heap[gS]? = _:=h.sp
 have h2:W.heap[gS]? = _:=hz
 rw [h1] at h2
 cases h2
theorem atn_drew {T:TypeId} {W:World} {g:Nat} {cs:Array Value} (h:AtN T W g cs):AtN T W.drew g cs:=h
theorem fr_set4 (W:World) (g:Nat) (v0 v1 v2 v3:Value):Fr (fun b=>b=g) W ((((W.setCell ⟨g,0,none⟩ v0).setCell ⟨g,1,none⟩ v1).setCell ⟨g,2,none⟩ v2).setCell ⟨g,3,none⟩ v3):=
 ((((Fr.refl (fun b=>b=g) W).set ⟨g,0,none⟩ rfl v0).set ⟨g,1,none⟩ rfl v1).set ⟨g,2,none⟩ rfl v2).set ⟨g,3,none⟩ rfl v3
theorem Rb.drew (h:Rb w W l gc gS nb k e a c Y sb sc S):Rb w W.drew l gc gS nb k e a c Y sb sc S:=h.more ⟨rfl,rfl,rfl,Nat.le_refl _,fun _ _=>rfl⟩
end
structure Rn (w W:World) (l:Lm) (gc gS gN:Nat) (nb:ByteArray) (k:Nat) (e:Int) (a:Option Addr) (c:Nat) (Y:List Nx) (sb:Option Addr) (sc:Nat) (S:Sp) (y:Nx):Prop where
 b:Rb w W l gc gS nb k e a c Y sb sc S
 nd:AtN 51 W gN #[.int .i64 y.nd.kind,.slice y.a1 y.nd.ints.length y.c1,.slice y.a2 y.nd.texts.length y.c2,.slice y.a3 y.nd.kids.length y.c3]
 own:OwnNx W (w.heap.size+1) y
 hN:∀q,(Value.slice a Y.length c).ownBlock=some q→q<gN
 hw:w.heap.size<gN
section
variable {w W W':World} {l:Lm} {gc gS gN k k' c:Nat} {nb:ByteArray} {e e':Int} {a:Option Addr} {Y:List Nx} {sb:Option Addr} {sc:Nat} {S:Sp} {y:Nx}
theorem Rn.cur (h:Rn w W l gc gS gN nb k e a c Y sb sc S y) (hg:W.grownBy W' (some gc)) (hc:Cu W' gc nb k' e') (hk:k'≤nb.size):Rn w W' l gc gS gN nb k' e' a c Y sb sc S y:=by
 have h1:=h.b.r.hg
 have h2:=h.hw
 exact ⟨h.b.cur hg hc hk,h.nd.kept hg (by simp;omega),h.own.kept hg (fun q hq=>by cases hq;omega),h.hN,h2⟩
theorem Rn.more (h:Rn w W l gc gS gN nb k e a c Y sb sc S y) (hb:Below W.heap.size W W'):Rn w W' l gc gS gN nb k e a c Y sb sc S y:=
 ⟨h.b.more hb,h.nd.belowAll hb,OwnNd.belowB h.own hb,h.hN,h.hw⟩
theorem Rn.make {x0 x1 x2 x3:Value} (h:Rb w W l gc gS nb k e a c Y sb sc S) (hz:AtN 51 W gN #[x0,x1,x2,x3]) (hN:∀q,(Value.slice a Y.length c).ownBlock=some q→q<gN) (hw:w.heap.size<gN) (ho:OwnNx W (w.heap.size+1) y) :
  Rn w ((((W.setCell ⟨gN,0,none⟩ (.int .i64 y.nd.kind)).setCell ⟨gN,1,none⟩ (.slice y.a1 y.nd.ints.length y.c1)).setCell ⟨gN,2,none⟩ (.slice y.a2 y.nd.texts.length y.c2)).setCell ⟨gN,3,none⟩ (.slice y.a3 y.nd.kids.length y.c3)) l gc gS gN nb k e a c Y sb sc S y:=by
 have f:=fr_set4 W gN (.int .i64 y.nd.kind) (.slice y.a1 y.nd.ints.length y.c1) (.slice y.a2 y.nd.texts.length y.c2) (.slice y.a3 y.nd.kids.length y.c3)
 have hal:Alien W (fun b=>b=gN):=fun b hb _=>⟨_,_,_,hb ▸ hz,by decide,by decide,by decide⟩
 exact ⟨h.node f hz hN hw,at_set4 hz _ _ _ _,ho.fr f hal,hN,hw⟩
theorem Rn.kids {q:Int} {l1:List Int} {a1:Option Addr} {c1:Nat} {l2:List ByteArray} {a2:Option Addr} {c2:Nat} {l3:List Int} {a3:Option Addr} {c3:Nat} (h:Rn w W l gc gS gN nb k e a c Y sb sc S ⟨⟨q,l1,l2,[]⟩,a1,c1,a2,c2,none,0⟩) (ho:W.ownsRow (w.heap.size+1) 3 1 (.slice a3 l3.length c3) l3.length (iV l3)) :
  Rn w (W.setCell ⟨gN,3,none⟩ (.slice a3 l3.length c3)) l gc gS gN nb k e a c Y sb sc S ⟨⟨q,l1,l2,l3⟩,a1,c1,a2,c2,a3,c3⟩:=by
 have f:=(Fr.refl (fun b=>b=gN) W).set ⟨gN,3,none⟩ rfl (.slice a3 l3.length c3)
 have hal:Alien W (fun b=>b=gN):=fun b hb _=>⟨_,_,_,hb ▸ h.nd,by decide,by decide,by decide⟩
 have hy:OwnNx W (w.heap.size+1) ⟨⟨q,l1,l2,l3⟩,a1,c1,a2,c2,a3,c3⟩:=⟨h.own.i,h.own.t,ho⟩
 exact ⟨h.b.node f h.nd h.hN h.hw,by simpa using h.nd.set 3 (.slice a3 l3.length c3),hy.fr f hal,h.hN,h.hw⟩
end
def ReOut (nb:ByteArray) (l:Lm) (gc:Nat) (w w':World) (r:Ending):Prop:=
 ∃(Y:List Nx) (a:Option Addr) (c:Nat) (k:Nat) (e:Int),r=.returned (.slice a Y.length c)∧Cu w' gc nb k e∧(e≠0→(oPay nb l.n l.e l.x).2=e)∧(e=0→oPay nb l.n l.e l.x=(Y.map Nx.nd,0)∧Small Y∧FnX Y)∧Rws w' (w.heap.size+1) (.slice a Y.length c) Y∧w.grownBy w' (some gc)
set_option maxRecDepth 10000 in
set_option maxHeartbeats 4000000 in
theorem oread_any (nb:ByteArray) (l:Lm) (gc:Nat) (w:World) (h:Cu w gc nb 0 0) (hy:nb.size≤4000000) (hT:∀W,w.grownBy W (some gc)→Tabs16 W) (hQ:QnO nb l) (hok:okL l=true) :
  Calls Tryz.prog 78 #[.pointer (some ⟨gc,0,none⟩),.agg (liC l)] w fun r w'=>ReOut nb l gc w w' r:=by
 have HR0:Hid (∀o1,o1=.cells (liC l) 26→Rr w (w.alloc o1) l gc nb 0 0):=by
  rintro _ rfl
  exact ⟨AtN.new w 26 _,At3.alloc h _,World.grownBy_alloc _ _ _,h.lt,Nat.zero_le _⟩
 have HTT:Hid (∀W,w.grownBy W (some gc)→Tabs16 W):=hT
 have hsm:nb.size≤maxLen:=by unfold maxLen;omega
 have ho:=okL_in hok
 have hwr:IntKind.u64.wrap l.n=l.n:=by
  have:=ho.2.1
  simp only [IntKind.wrap]
  rw [if_neg (by simp [IntKind.signed])]
  exact Int.emod_eq_of_lt (by omega) (by simp [IntKind.bits];omega)
 have hle:=ho.2.2.1
 have hlx:=ho.2.2.2.2
 have HFl:Hid (∀(W:World) (k:Nat) (e d:Int),Cu W gc nb k e→Calls Tryz.prog 76 #[.pointer (some ⟨gc,0,none⟩),.int .i64 d] W fun r w'=>r=.returned (.tuple #[])∧Cu w' gc nb k (if e=0 then d else e)∧W.grownBy w' (some gc)):=fun W k e d q=>fail_any W gc nb k e d q
 have HEr:Hid (∀(W:World) (k:Nat) (e:Int),Cu W gc nb k e→Calls Tryz.prog 74 #[.pointer (some ⟨gc,0,none⟩)] W fun r w'=>r=.returned (.int .i64 e)∧Below W.heap.size W w'):=fun W k e q=>err_any W gc nb k e q
 have HLf:Hid (∀(W:World) (k:Nat) (e:Int),Cu W gc nb k e→k≤nb.size→Calls Tryz.prog 75 #[.pointer (some ⟨gc,0,none⟩)] W fun r w'=>r=.returned (.int .i64 ((nb.size:Int)-k))∧Below W.heap.size W w'):=fun W k e q hk=>by
  refine (left_any W gc nb k e q hsm (by omega) (by omega)).mono ?_
  rintro r w' ⟨rfl,n,rfl⟩
  exact ⟨rfl,rfl,rfl,rfl,Nat.le_refl _,fun _ _=>rfl⟩
 obtain ⟨n,k0,ne,hU⟩:∃n k0 ne,pUint nb 0 0 l.n=(n,k0,ne):=⟨_,_,_,rfl⟩
 have HU:Hid (∀(W:World) (m:Int),m=l.n→Cu W gc nb 0 0→Calls Tryz.prog 117 #[.pointer (some ⟨gc,0,none⟩),.int .u64 m] W fun r w'=>r=.returned (.int .i64 n)∧Cu w' gc nb k0 ne∧W.grownBy w' (some gc)):=fun W m hm q=>by
  subst hm
  have h:=uint_any W gc nb 0 0 l.n q hsm (Nat.zero_le _)
  rw [hU] at h
  exact h
 have hk0:k0≤nb.size:=by have:=(pUint_at nb 0 0 l.n (Nat.zero_le _)).2;rw [hU] at this;exact this
 have hnt:0≤n∧n≤16777216:=by have:=pUint_top nb 0 0 l.n;rw [hU] at this;exact ⟨this.1,this.2.1⟩
 have hn9:ne≠0→n=0:=fun q=>by have:=(pUint_top nb 0 0 l.n).2.2;rw [hU] at this;exact this q
 obtain ⟨m,hm0⟩:∃m:Nat,n=m:=⟨n.toNat,by omega⟩
 have HMn:Hid (n=(m:Int)):=hm0
 have hm24:m≤16777216:=by omega
 obtain ⟨e4,he4⟩:∃e4,(if m=0 then (if ne=0 then 13 else ne) else ne)=e4:=⟨_,rfl⟩
 obtain ⟨P,kz,ez,hS⟩:∃P kz ez,oNds nb (m:Int) l.x m ((0:Nat):Int) l.e k0=(P,kz,ez):=⟨_,_,_,rfl⟩
 have hSn:oNds nb n l.x n.toNat 0 l.e k0=(P,kz,ez):=by rw [hm0,Int.toNat_natCast];exact hS
 have HE4:Hid ((e4≠0→(oPay nb l.n l.e l.x).2=e4)∧(e4=0→ne=0∧0<m)):=by
  refine ⟨fun q=>?_,fun q=>?_⟩
  ·by_cases hne:ne=0
   ·subst hne
    by_cases hm:m=0
    ·subst hm
     rw [if_pos rfl,if_pos rfl] at he4
     rw [← he4]
     exact oPay_4 nb l.n l.e l.x (by rw [hU,hm0];rfl)
    ·rw [if_neg hm] at he4
     exact absurd he4.symm q
   ·have hm:m=0:=by have:=hn9 hne;omega
    rw [if_pos hm,if_neg hne] at he4
    rw [← he4]
    exact oPay_3 nb l.n l.e l.x hU hne
  ·by_cases hm:m=0
   ·rw [if_pos hm] at he4
    by_cases hne:ne=0
    ·rw [if_pos hne] at he4;omega
    ·rw [if_neg hne] at he4;omega
   ·rw [if_neg hm] at he4
    exact ⟨he4.trans q,by omega⟩
 have HX:Hid (ne=0→0<m→(ez≠0→(oPay nb l.n l.e l.x).2=ez)∧(ez=0→(kz<nb.size→(oPay nb l.n l.e l.x).2=8)∧(¬kz<nb.size→oPay nb l.n l.e l.x=(P,0)))):=fun h0 hm=>by
  subst h0
  have h1:n≠0:=by omega
  refine ⟨fun q=>oPay_5 nb l.n l.e l.x hU h1 hSn q,fun q=>?_⟩
  subst q
  exact ⟨fun q=>oPay_6 nb l.n l.e l.x hU h1 hSn q,fun q=>oPay_7 nb l.n l.e l.x hU h1 hSn q⟩
 have HQ:Hid (P.length≤1401∧∀N ∈ P,big N=false∧fine N.ints):=hQ P kz ez (by rw [hU];exact hSn)
 have hlC:liC l=#[.int .i64 l.b,.int .i64 l.n,.int .i64 l.e,.int .i64 l.d,.int .i64 l.x]:=rfl
 have H4:Hid ((n==0)=true∧(if ne=0 then 13 else ne)=e4∨(n==0)=false∧ne=e4):=by
  by_cases hm:m=0
  ·rw [if_pos hm] at he4
   exact .inl ⟨by simp [hm,hm0],he4⟩
  ·rw [if_neg hm] at he4
   exact .inr ⟨by simp [hm,hm0],he4⟩
 have HS:Hid (oNds nb (m:Int) l.x m ((0:Nat):Int) l.e k0=(P,kz,ez)):=hS
 generalize hOP:oPay nb l.n l.e l.x=OP at *
 have HOP:Hid (oPay nb l.n l.e l.x=OP):=hOP
 clear h hT hU hn9 he4 hS hSn ho hok hQ hm0 hOP
 go_enter Tryz.func78,Tryz.ntmps78
 rw [hlC]
 go_wp2_with fail
 have hr0:=HR0.out _ rfl
 rw [hlC] at hr0
 clear HR0 hlC
 generalize (w.alloc (.cells #[.int .i64 l.b,.int .i64 l.n,.int .i64 l.e,.int .i64 l.d,.int .i64 l.x] 26))=w2 at *
 have HR2:Hid (Rr w w2 l gc nb 0 0):=hr0
 clear hr0
 have C2:Cu w2.drew gc nb 0 0:=HR2.out.cu
 have a1:w2.drew.cell? ⟨w.heap.size,1,none⟩=some (.int .i64 l.n):=HR2.out.lim.cell 1
 have a2:w2.drew.cell? ⟨w.heap.size,2,none⟩=some (.int .i64 l.e):=HR2.out.lim.cell 2
 have b1:w2.cell? ⟨w.heap.size,1,none⟩=some (.int .i64 l.n):=HR2.out.lim.cell 1
 have b2:w2.cell? ⟨w.heap.size,2,none⟩=some (.int .i64 l.e):=HR2.out.lim.cell 2
 have hgc0:=HR2.out.hg
 go_region_held3 (fun W=>W.cell? ⟨w.heap.size,1,none⟩=some (.int .i64 l.n)∧W.cell? ⟨w.heap.size,2,none⟩=some (.int .i64 l.e)) (first|exact ⟨d1,d2⟩|exact ⟨a1,a2⟩|exact ⟨b1,b2⟩|go_keep)
  ((go_at_call 117;refine (HU.out _ _ (by first|rfl|exact hwr) C2).mono ?_;rintro r w3 ⟨rfl,c3,g3⟩;have d1:w3.cell? ⟨w.heap.size,1,none⟩=some (.int .i64 l.n):=(AtN.kept (show AtN 26 w2.drew w.heap.size _ from HR2.out.lim) g3 (by simp;omega)).cell 1;have d2:w3.cell? ⟨w.heap.size,2,none⟩=some (.int .i64 l.e):=(AtN.kept (show AtN 26 w2.drew w.heap.size _ from HR2.out.lim) g3 (by simp;omega)).cell 2))
 have HR3:Hid (Rr w w3 l gc nb k0 ne):=(HR2.out.more (W':=w2.drew) ⟨rfl,rfl,rfl,Nat.le_refl _,fun _ _=>rfl⟩).cur g3 c3 hk0
 clear HR2 C2 a1 a2 b1 b2 c3 g3 d1 d2 HU hwr
 go_upto_if 19 with fail
 go_cut [] (fun wc=>Hid (Rr w wc l gc nb k0 e4))
 case first=>
  rcases H4.out with ⟨hm,h4⟩|⟨hm,h4⟩
  ·go_wp2_with fail
   refine Calls.mono (HFl.out _ k0 ne 13 HR3.out.cu) ?_
   rintro r w4 ⟨rfl,hc4,hg4⟩
   rw [h4] at hc4
   go_wp2_with fail
   go_meet
   exact HR3.out.cur hg4 hc4 hk0
  ·subst h4
   go_wp2_with fail
   go_meet
   exact HR3
 case rest=>
  clear HR3 H4
  have HR5:=hcut
  clear hcut
  have HY5:Hid (Rws wc (w.heap.size+1) (.slice none 0 0) []):=Rws.nil _ _
  obtain ⟨i0,hi,hz0,hz1,hz2⟩:=info_parts Tryz.infoD9
  go_upto_block 0 with fail
  generalize wc=w5 at *
  go_cut [7] (fun s7 wz=>∃(k:Nat) (e:Int) (a:Option Addr) (c:Nat) (Y:List Nx),s7=.slice a Y.length c∧Y.length≤16777216∧Hid (Rr w wz l gc nb k e)∧Hid (Rws wz (w.heap.size+1) (.slice a Y.length c) Y)∧Hid ((e≠0→OP.2=e)∧(e=0→(k<nb.size→OP.2=8)∧(¬k<nb.size→OP=(Y.map Nx.nd,0)∧Small Y∧FnX Y))))
  case first=>
   go_wp2_with fail
   go_loopg [6,7] m (fun gh dv yv wr=>∃(k:Nat) (ed e:Int) (a:Option Addr) (c:Nat) (Y:List Nx),dv=.int .i64 ed∧yv=.slice a Y.length c∧gh=m-Y.length∧Y.length≤m∧0≤ed∧ed≤l.e∧Hid (Rr w wr l gc nb k e)∧Hid (Rws wr (w.heap.size+1) (.slice a Y.length c) Y)∧Hid (e≠0→OP.2=e)∧Hid (e=0→ne=0∧0<m∧RdO nb l.x P kz ez m k ed Y))
   case atStart=>exact ⟨k0,l.e,e4,none,0,[],rfl,rfl,by simp,by simp,hle.1,by omega,HR5,HY5,HE4.out.1,fun q=>⟨(HE4.out.2 q).1,(HE4.out.2 q).2,fun T k' e' q2=>by rw [List.length_nil,Nat.sub_zero] at q2;rw [← HS.out,q2];simp⟩⟩
   case round=>
    clear HR5 HY5 HE4 HS
    obtain ⟨k,ed,e,av,cv,Y,rfl,rfl,rfl,hYm,hd1,hd2,HR,HY,HE,HI⟩:=hrel
    have hkb:=HR.out.kb
    by_cases hgo:Y.length<m∧e=0
    ·obtain ⟨hlt,rfl⟩:=hgo
     have hlt':(Y.length:Int)<n:=by have:=HMn.out;omega
     have HI0:Hid (ne=0∧0<m∧RdO nb l.x P kz ez m k ed Y):=HI.out rfl
     clear HI HE
     go_wp2_with fail
     refine Calls.mono (HEr.out wr k 0 HR.out.cu) ?_
     rintro r w4 ⟨rfl,hb4⟩
     have HR4:Hid _:=HR.out.more hb4
     have HY4:Hid (Rws w4 (w.heap.size+1) (.slice av Y.length cv) Y):=HY.out.below hb4
     clear HR HY hb4
     obtain ⟨q,k1,e1,hq⟩:∃q k1 e1,pUint nb k 0 16777216=(q,k1,e1):=⟨_,_,_,rfl⟩
     obtain ⟨e2,he2⟩:∃e2,(if (oldSp q).ok=true then e1 else fl e1 9)=e2:=⟨_,rfl⟩
     have hKi:=okind_any nb gc k 0 w4 HR4.out.cu hy hkb (fun W hW=>(HTT.out W (gtrans HR4.out.fr hW)).o)
     have hk1:=(pUint_at nb k 0 16777216 hkb).2
     rw [hq] at hKi hk1
     dsimp only at hKi hk1
     rw [he2] at hKi
     have HKi:Hid _:=hKi
     clear hKi
     have hsp:=oldSp_small q
     obtain ⟨S,hSq⟩:∃S,oldSp q=S:=⟨_,rfl⟩
     rw [hSq] at HKi hsp he2
     obtain ⟨A,k4,e4',hA⟩:∃A k4 e4,gIs nb S.ints k1 e2=(A,k4,e4):=⟨_,_,_,rfl⟩
     obtain ⟨D,k5,e5,hD⟩:∃D k5 e5,oTs nb l.x S.texts.toNat k4 e4'=(D,k5,e5):=⟨_,_,_,rfl⟩
     obtain ⟨mm,k6,e6,hM⟩:∃mm k6 e6,pUint nb k5 e5 ed=(mm,k6,e6):=⟨_,_,_,rfl⟩
     obtain ⟨e7,h7⟩:∃e7,(if decide (mm<S.least∨(0≤S.most∧S.most<mm))=true then fl e6 12 else e6)=e7:=⟨_,rfl⟩
     obtain ⟨K,k8,e8,hK⟩:∃K k8 e8,oKs nb (Y.length:Nat) (m:Int) mm.toNat k6 e7=(K,k8,e8):=⟨_,_,_,rfl⟩
     have hN:oNd nb (Y.length:Nat) (m:Int) l.x ed k 0=(⟨q,A,D,K⟩,k8,e8):=by
      have x2:(if (oldSp q).ok=true then e1 else fl e1 9)=e2:=by rw [hSq];exact he2
      have x3:gIs nb (oldSp q).ints k1 e2=(A,k4,e4'):=by rw [hSq];exact hA
      have x4:oTs nb l.x (oldSp q).texts.toNat k4 e4'=(D,k5,e5):=by rw [hSq];exact hD
      have x5:(if decide (mm<(oldSp q).least∨(0≤(oldSp q).most∧(oldSp q).most<mm))=true then fl e6 12 else e6)=e7:=by rw [hSq];exact h7
      exact oNd_eq hq x2 x3 x4 hM x5 hK
     have hmm:=pUint_top nb k5 e5 ed
     have hmd:=pUint_leO nb k5 e5 ed hd1
     rw [hM] at hmm hmd
     dsimp only at hmm hmd
     have HOk:Hid (e8=0→e4'=0∧e5=0):=fun q8=>by
      have q7:e7=0:=oKs_ok (b:=nb) (p:=(Y.length:Nat)) (c:=m) (n:=mm.toNat) (k:=k6) (by rw [hK];exact q8)
      have q6:e6=0:=fl_okO (h7.trans q7)
      have q5:e5=0:=pUint_okO (b:=nb) (k:=k5) (m:=ed) (by rw [hM];exact q6)
      exact ⟨oTs_ok (b:=nb) (tx:=l.x) (n:=S.texts.toNat) (k:=k4) (by rw [hD];exact q5),q5⟩
     have HE1:Hid (e8≠0→OP.2=e8):=fun q=>by
      obtain ⟨q1,q2,q3⟩:=HI0.out
      have q4:=q3.stop hlt hN q
      have:=(HX.out q1 q2).1 (by rw [q4];exact q)
      rw [this,q4]
     have HI1:Hid (e8=0→∀y:Nx,y.nd=⟨q,A,D,K⟩→ne=0∧0<m∧RdO nb l.x P kz ez m k8 (ed-y.nd.kids.length) (Y++[y])):=fun q y hy=>by
      subst q
      obtain ⟨q1,q2,q3⟩:=HI0.out
      exact ⟨q1,q2,q3.next hlt (by rw [hy];exact hN)⟩
     have HA:Hid _:=hA
     have HD:Hid _:=hD
     have HM:Hid _:=hM
     have H7:Hid _:=h7
     have HK:Hid _:=hK
     clear HI0 hN hA hD hM h7 hK hq hSq he2
     go_wp2_with fail
     refine Calls.mono HKi.out ?_
     rintro r w5' ⟨sb,sc,rfl,hcl,hc5,hg5⟩
     have hs4:=HR4.out.lim.lt
     have HB5:Hid (∀o,o=.cells #[.slice sb S.ints.length sc,.int .i64 S.texts,.int .i64 S.least,.int .i64 S.most] 117→Rb w (w5'.alloc o).drew l gc w5'.heap.size nb k1 e2 av cv Y sb sc S):=by
      rintro _ rfl
      have hr:=HR4.out.cur hg5 hc5 hk1
      have hb:Below w5'.heap.size w5' (w5'.alloc (.cells #[.slice sb S.ints.length sc,.int .i64 S.texts,.int .i64 S.least,.int .i64 S.most] 117)).drew:=((Below.refl w5'.heap.size w5').alloc (Nat.le_refl _) _).drew
      exact ⟨hr.more hb,(HY4.out.curP hg5 HR4.out.cu).below hb,AtN.new w5' 117 _,own_mono (own_below hcl hb (Nat.le_refl _)) (by omega),hr.lim.lt⟩
     have hs5:=hg5.size
     clear HKi HR4 HY4 hcl hc5 hg5
     go_wp2_with fail
     have hB5:=HB5.out _ rfl
     clear HB5
     generalize (w5'.alloc (.cells #[.slice sb S.ints.length sc,.int .i64 S.texts,.int .i64 S.least,.int .i64 S.most] 117))=w6 at *
     generalize w5'.heap.size=gS at *
     have HB6:Hid (Rb w w6.drew l gc gS nb k1 e2 av cv Y sb sc S):=hB5
     clear hB5
     obtain ⟨nt,hnt2⟩:∃nt:Nat,S.texts=(nt:Int):=⟨S.texts.toNat,by omega⟩
     have hnt3:nt≤2:=by omega
     have HNt:Hid (S.texts=(nt:Int)):=hnt2
     clear hnt2
     have HM6:Hid (∀W W',w6.heap.size≤W.heap.size∧Rb w W l gc gS nb k1 e2 av cv Y sb sc S→Below W.heap.size W W'→w6.heap.size≤W'.heap.size∧Rb w W' l gc gS nb k1 e2 av cv Y sb sc S):=fun W W' h hb=>⟨Nat.le_trans h.1 hb.size,h.2.more hb⟩
     have HB6s:Hid (w6.heap.size≤w6.drew.heap.size∧Rb w w6.drew l gc gS nb k1 e2 av cv Y sb sc S):=⟨Nat.le_refl _,HB6.out⟩
     have HIt:Hid (∀W,w6.heap.size≤W.heap.size∧Rb w W l gc gS nb k1 e2 av cv Y sb sc S→Calls Tryz.prog 120 #[.pointer (some ⟨gc,0,none⟩),.slice sb S.ints.length sc] W fun r W'=>∃(l1:List Int) (a1:Option Addr) (x1:Nat),r=.returned (.slice a1 l1.length x1)∧Rb w W' l gc gS nb k4 e4' av cv Y sb sc S∧W'.ownsRow (w.heap.size+1) 2 1 (.slice a1 l1.length x1) l1.length (iV l1)∧(e4'=0→l1=A)∧(∀g cs,AtN 51 W g cs→AtN 51 W' g cs)∧gS≠W'.heap.size∧W'.heap.size≠gS∧w.heap.size≠W'.heap.size∧W'.heap.size≠w.heap.size):=fun W hW2=>by
      have hW:=hW2.2
      have g6:gS<w6.heap.size:=HB6.out.sp.lt
      have g7:w.heap.size<w6.heap.size:=HB6.out.r.lim.lt
      have g8:=hW2.1
      refine Calls.mono (oints_any nb gc S.ints sb sc k1 e2 W hW.r.cu hy hW.r.kb (fun W' hW'=>hW.clsAt hW') (fun W' hW'=>(HTT.out W' (gtrans hW.r.fr hW')).s) (by omega)) ?_
      rintro r W' ⟨l1,v1,rfl,hB,hl1⟩
      obtain ⟨a1,x1,rfl⟩:=own_shape6 hB.own
      rw [HA.out] at hB hl1
      have:=hW.r.lim.lt
      exact ⟨l1,a1,x1,rfl,hW.cur hB.fr hB.cur hB.kb,own_mono hB.own (by omega),hl1,fun g cs h=>h.kept hB.fr (fun e=>by cases e;have h1:W.heap[gc]? = _:=h;have h2:W.heap[gc]? = _:=hW.r.cu;rw [h1] at h2;cases h2),by have:=hB.fr.size;omega⟩
     have HTt:Hid (∀W (l1:List Int) a1 x1,Rb w W l gc gS nb k4 e4' av cv Y sb sc S→W.ownsRow (w.heap.size+1) 2 1 (.slice a1 l1.length x1) l1.length (iV l1)→Calls Tryz.prog 121 #[.pointer (some ⟨gc,0,none⟩),.int .i64 S.texts,.int .i64 l.x] W fun r W'=>∃(l2:List ByteArray) (a2:Option Addr) (x2:Nat),r=.returned (.slice a2 l2.length x2)∧Rb w W' l gc gS nb k5 e5 av cv Y sb sc S∧W'.ownsRow (w.heap.size+1) 2 1 (.slice a1 l1.length x1) l1.length (iV l1)∧W'.ownsRow (w.heap.size+1) 9 1 (.slice a2 l2.length x2) l2.length (tV l2)∧(e5=0→l2=D)∧(∀g cs,AtN 51 W g cs→AtN 51 W' g cs)∧W.heap.size≤W'.heap.size):=fun W l1 a1 x1 hW hr1=>by
      have hnt2:=HNt.out
      have ht:=otexts_any nb gc nt l.x k4 e4' W hW.r.cu hy hW.r.kb (fun W' hW'=>(HTT.out W' (gtrans hW.r.fr hW')).s) (by omega) (by omega)
      have hD:=HD.out
      rw [hnt2,Int.toNat_natCast] at hD
      rw [hD] at ht
      rw [hnt2]
      refine Calls.mono ht ?_
      rintro r W' ⟨l2,v2,rfl,hB,hl2⟩
      obtain ⟨a2,x2,rfl⟩:=own_shape6 hB.own
      have h1:=hW.r.lim.lt
      have h2:=hW.r.hg
      exact ⟨l2,a2,x2,rfl,hW.cur hB.fr hB.cur hB.kb,row_kept hr1 hB.fr (row_low hr1 (fun q hq=>by cases hq;omega)),own_mono hB.own (by omega),hl2,fun g cs h=>h.kept hB.fr (fun e=>by cases e;have h1:W.heap[gc]? = _:=h;have h2:W.heap[gc]? = _:=hW.r.cu;rw [h1] at h2;cases h2),hB.fr.size⟩
     have y0:w6.cell? ⟨gS,0,none⟩=some (.slice sb S.ints.length sc):=HB6.out.sp.cell 0
     have y1:w6.cell? ⟨gS,1,none⟩=some (.int .i64 S.texts):=HB6.out.sp.cell 1
     have y4:w6.cell? ⟨w.heap.size,4,none⟩=some (.int .i64 l.x):=HB6.out.r.lim.cell 4
     have z0:w6.drew.cell? ⟨gS,0,none⟩=some (.slice sb S.ints.length sc):=HB6.out.sp.cell 0
     have z1:w6.drew.cell? ⟨gS,1,none⟩=some (.int .i64 S.texts):=HB6.out.sp.cell 1
     have z4:w6.drew.cell? ⟨w.heap.size,4,none⟩=some (.int .i64 l.x):=HB6.out.r.lim.cell 4
     have g6:gS<w6.heap.size:=HB6.out.sp.lt
     have g7:w.heap.size<w6.heap.size:=HB6.out.r.lim.lt
     have ne1:gS≠w6.heap.size:=by omega
     have ne2:w6.heap.size≠gS:=by omega
     have ne3:w.heap.size≠w6.heap.size:=by omega
     have ne4:w6.heap.size≠w.heap.size:=by omega
     clear HA HD HNt
     go_upto_region 7 with fail
     go_cut [10] (fun s10 wc=>∃(gN:Nat) (a1:Option Addr) (c1:Nat) (l1:List Int) (a2:Option Addr) (c2:Nat) (l2:List ByteArray),s10=.pointer (some ⟨gN,0,none⟩)∧Hid (Rn w wc l gc gS gN nb k5 e5 av cv Y sb sc S ⟨⟨q,l1,l2,[]⟩,a1,c1,a2,c2,none,0⟩)∧Hid (e4'=0→l1=A)∧Hid (e5=0→l2=D))
     case first=>
      go_region_held3 (fun W=>W.cell? ⟨gS,0,none⟩=some (.slice sb S.ints.length sc)∧W.cell? ⟨gS,1,none⟩=some (.int .i64 S.texts)∧W.cell? ⟨w.heap.size,4,none⟩=some (.int .i64 l.x)) (first|with_reducible exact ⟨d0,d1,d4⟩|with_reducible exact ⟨c0,c1,c4⟩|with_reducible exact ⟨z0,z1,z4⟩|with_reducible exact ⟨y0,y1,y4⟩|go_keep)
       ((first
        | (go_at_call 121;refine Calls.mono (HTt.out _ l1 a1 x1 (by first|with_reducible exact B7.out|with_reducible exact B7.out.more ((Below.refl _ _).alloc (Nat.le_refl _) _)) (by first|with_reducible exact R7.out|with_reducible exact World.ownsRow.alloc R7.out _)) ?_;rintro r w8 ⟨l2,a2,x2,rfl,b8,r81,r82,t8,n8,s8⟩;have B8:Hid _:=b8;have d0:w8.cell? ⟨gS,0,none⟩=some (.slice sb S.ints.length sc):=b8.sp.cell 0;have d1:w8.cell? ⟨gS,1,none⟩=some (.int .i64 S.texts):=b8.sp.cell 1;have d4:w8.cell? ⟨w.heap.size,4,none⟩=some (.int .i64 l.x):=b8.r.lim.cell 4;have R81:Hid (w8.ownsRow (w.heap.size+1) 2 1 (.slice a1 l1.length x1) l1.length (iV l1)):=r81;have R82:Hid (w8.ownsRow (w.heap.size+1) 9 1 (.slice a2 l2.length x2) l2.length (tV l2)):=r82;first|(with_reducible have q8:AtN 51 w8 w7.heap.size #[.int .i64 0,.slice none 0 0,.slice none 0 0,.slice none 0 0]:=n8 _ _ (AtN.new w7 51 #[.int .i64 0,.slice none 0 0,.slice none 0 0,.slice none 0 0]);have m0:=q8.cell 0;have m1:=q8.cell 1;have m2:=q8.cell 2;have m3:=q8.cell 3;have o0:=q8.fz 0;have o1:=q8.fz 1;have o2:=q8.fz 2;have o3:=q8.fz 3)|((with_reducible have q9:=n7 _ _ (atn_drew (AtN.new w6 51 #[.int .i64 0,.slice none 0 0,.slice none 0 0,.slice none 0 0])));have q8:AtN 51 w8 w6.heap.size #[.int .i64 0,.slice none 0 0,.slice none 0 0,.slice none 0 0]:=n8 _ _ q9;have m0:=q8.cell 0;have m1:=q8.cell 1;have m2:=q8.cell 2;have m3:=q8.cell 3;have o0:=q8.fz 0;have o1:=q8.fz 1;have o2:=q8.fz 2;have o3:=q8.fz 3)|skip)
        | (go_at_call 120;refine Calls.mono (HIt.out _ (by first|with_reducible exact HB6s.out|with_reducible exact HM6.out _ _ HB6s.out ((Below.refl _ _).alloc (Nat.le_refl _) _))) ?_;rintro r w7 ⟨l1,a1,x1,rfl,b7,r7,t7,n7,s7⟩;have B7:Hid _:=b7;have R7:Hid (w7.ownsRow (w.heap.size+1) 2 1 (.slice a1 l1.length x1) l1.length (iV l1)):=r7;have c0:w7.cell? ⟨gS,0,none⟩=some (.slice sb S.ints.length sc):=b7.sp.cell 0;have c1:w7.cell? ⟨gS,1,none⟩=some (.int .i64 S.texts):=b7.sp.cell 1;have c4:w7.cell? ⟨w.heap.size,4,none⟩=some (.int .i64 l.x):=b7.r.lim.cell 4;obtain ⟨ne5,ne6,ne7,ne8⟩:=s7)))
      ·go_wp2_with fail
       go_meet
       exact ⟨_,a1,x1,l1,a2,x2,l2,rfl,⟨B8.out.more ((Below.refl _ _).alloc (Nat.le_refl _) _),AtN.new w8 51 _,OwnNd.alloc ⟨R81.out,R82.out,own_nil _ _ _⟩ _,fun z hz=>(B8.out.y.row.lt z hz).2,B8.out.r.lim.lt⟩,t7,t8⟩
      ·go_wp2_with fail
       go_meet
       exact ⟨_,a1,x1,l1,a2,x2,l2,rfl,Rn.make (y:=⟨⟨q,l1,l2,[]⟩,a1,x1,a2,x2,none,0⟩) B8.out q8 (fun z hz=>(B7.out.y.row.lt z hz).2) B7.out.r.lim.lt ⟨R81.out,R82.out,own_nil _ _ _⟩,t7,t8⟩
      ·go_wp2_with fail
       go_meet
       exact ⟨_,a1,x1,l1,a2,x2,l2,rfl,Rn.make (y:=⟨⟨q,l1,l2,[]⟩,a1,x1,a2,x2,none,0⟩) B8.out q8 (fun z hz=>(HB6.out.y.row.lt z hz).2) HB6.out.r.lim.lt ⟨R81.out,R82.out,own_nil _ _ _⟩,t7,t8⟩
     case rest=>
      clear HB6 HB6s HM6 HIt HTt y0 y1 y4 z0 z1 z4 g6 g7 ne1 ne2 ne3 ne4
      obtain ⟨gN,a1,c1,l1,a2,c2,l2,rfl,HN,HL1,HL2⟩:=hcut
      have s0:wc.cell? ⟨gS,0,none⟩=some (.slice sb S.ints.length sc):=HN.out.b.sp.cell 0
      have s1:wc.cell? ⟨gS,1,none⟩=some (.int .i64 S.texts):=HN.out.b.sp.cell 1
      have s2:wc.cell? ⟨gS,2,none⟩=some (.int .i64 S.least):=HN.out.b.sp.cell 2
      have s3:wc.cell? ⟨gS,3,none⟩=some (.int .i64 S.most):=HN.out.b.sp.cell 3
      have hpc:=ocount_any nb gc ed S sb sc k5 e5 wc HN.out.b.r.cu hy HN.out.b.r.kb hd1 (by omega)
      have hk6:=(pUint_at nb k5 e5 ed HN.out.b.r.kb).2
      rw [HM.out] at hpc hk6
      dsimp only at hpc hk6
      have h7e:(if mm<S.least∨(0≤S.most∧S.most<mm) then fl e6 12 else e6)=e7:=by
       rw [← H7.out];simp
      rw [h7e] at hpc
      have HPc:Hid _:=hpc
      clear hpc h7e HM H7
      go_wp2_with fail
      refine Calls.mono HPc.out ?_
      rintro r w7 ⟨rfl,hc7,hg7⟩
      have HN7:Hid (Rn w w7 l gc gS gN nb k6 e7 av cv Y sb sc S ⟨⟨q,l1,l2,[]⟩,a1,c1,a2,c2,none,0⟩):=HN.out.cur hg7 hc7 hk6
      have hpk:=okids_any nb gc mm.toNat (Y.length:Nat) (m:Int) k6 e7 w7 HN7.out.b.r.cu hy HN7.out.b.r.kb (by omega)
      rw [HK.out,show ((mm.toNat:Nat):Int)=mm by omega,← HMn.out] at hpk
      dsimp only at hpk
      have HPk:Hid _:=hpk
      clear HN HPc hpk hc7 hg7 s0 s1 s2 s3 HK
      go_wp2_with fail
      refine Calls.mono HPk.out ?_
      rintro r w8 ⟨l3,u3,rfl,hB,hl3,hlen⟩
      obtain ⟨a3,x3,rfl⟩:=own_shape6 hB.own
      have HN8:Hid (Rn w w8 l gc gS gN nb k8 e8 av cv Y sb sc S ⟨⟨q,l1,l2,[]⟩,a1,c1,a2,c2,none,0⟩):=HN7.out.cur hB.fr hB.cur hB.kb
      have h7s:=HN7.out.b.r.lim.lt
      have HN9:Hid (Rn w (w8.setCell ⟨gN,3,none⟩ (.slice a3 l3.length x3)) l gc gS gN nb k8 e8 av cv Y sb sc S ⟨⟨q,l1,l2,l3⟩,a1,c1,a2,c2,a3,x3⟩):=HN8.out.kids (own_mono hB.own (by omega))
      have HL3:Hid (e8=0→l3=K):=hl3
      have n3:w8.cell? ⟨gN,3,none⟩=some (.slice none 0 0):=HN8.out.nd.cell 3
      have f3:=HN8.out.nd.fz 3
      clear HN7 HPk hB hl3 HN8
      go_upto_region 9 with fail
      generalize w8.setCell ⟨gN,3,none⟩ (.slice a3 l3.length x3)=w9 at *
      clear n3 f3
      have n0:w9.cell? ⟨gN,0,none⟩=some (.int .i64 q):=HN9.out.nd.cell 0
      have n1:w9.cell? ⟨gN,1,none⟩=some (.slice a1 l1.length c1):=HN9.out.nd.cell 1
      have n2:w9.cell? ⟨gN,2,none⟩=some (.slice a2 l2.length c2):=HN9.out.nd.cell 2
      have n3:w9.cell? ⟨gN,3,none⟩=some (.slice a3 l3.length x3):=HN9.out.nd.cell 3
      have h9s:=HN9.out.b.r.lim.lt
      have hed1:0≤ed-(l3.length:Int):=by omega
      go_wp2_with (at_builtin;refine wpList_append_lies _ rfl (.tmp 63) (.tmp 65) 22 rfl (w.heap.size+1) 51 i0 (.agg #[.int .i64 0,.slice none 0 0,.slice none 0 0,.slice none 0 0]) 4 80 Tryz.underlying22 hi hz0 hz1 hz2 rfl (by decide) _ Y.length (nxV Y) rfl (HN9.out.b.y.row.alloc _) ⟨w9.heap.size,0,none⟩ 1 1 [.int .i64 q,.slice a1 l1.length c1,.slice a2 l2.length c2,.slice a3 l3.length x3] rfl rfl (fun j z hz=>World.news_of_block (AtN.new w9 51 _) j z (by simpa using hz)) (by intro z hz;simp at hz;rcases hz with rfl|rfl|rfl|rfl <;> rfl) (by decide) (by unfold maxLen;omega) (by omega) (by simp;omega) _ rfl ?_)
      intro g2 cap2 w10 hown hgrow hlie hlt10
      have hf:Fr (fun b=>(Value.slice av Y.length cv).ownBlock=some b) w9 w10:=((Fr.refl (fun b=>(Value.slice av Y.length cv).ownBlock=some b) w9).alloc _).trans (Fr.of_grown hgrow (fun q e=>e)) (fun i hi _=>hi)
      have hOw:OwnNx w10 (w.heap.size+1) ⟨⟨q,l1,l2,l3⟩,a1,c1,a2,c2,a3,x3⟩:=HN9.out.own.fr hf HN9.out.b.y.alien
      have HY10:Hid (Rws w10 (w.heap.size+1) (.slice (some ⟨g2,0,none⟩) (Y++[(⟨⟨q,l1,l2,l3⟩,a1,c1,a2,c2,a3,x3⟩:Nx)]).length cap2) (Y++[⟨⟨q,l1,l2,l3⟩,a1,c1,a2,c2,a3,x3⟩])):=by
       rw [List.length_append]
       exact HN9.out.b.y.next hf hown hOw
      have HR10:Hid (Rr w w10 l gc nb k8 e8):=HN9.out.b.r.app hf (fun i hi=>by have:=(HN9.out.b.y.row.lt i hi).1;omega)
      have HI10:Hid (e8=0→ne=0∧0<m∧RdO nb l.x P kz ez m k8 (ed-l3.length) (Y++[⟨⟨q,l1,l2,l3⟩,a1,c1,a2,c2,a3,x3⟩])):=fun h8=>by
       obtain ⟨h4,h5⟩:=HOk.out h8
       exact HI1.out h8 ⟨⟨q,l1,l2,l3⟩,a1,c1,a2,c2,a3,x3⟩ (by rw [HL1.out h4,HL2.out h5,HL3.out h8])
      clear hown hgrow hlie hlt10 hf hOw HN9 n0 n1 n2 n3 HI1 HL1 HL2 HL3 HOk
      go_wp2_with fail
      go_roundg (m-(Y.length+1))
      case measure=>omega
      case rel=>exact ⟨k8,ed-l3.length,e8,some ⟨g2,0,none⟩,cap2,Y++[⟨⟨q,l1,l2,l3⟩,a1,c1,a2,c2,a3,x3⟩],by go_num,by simp,by simp,by simp;omega,hed1,by omega,HR10,HY10,HE1,HI10⟩
    ·have HF:Hid ((e≠0→OP.2=e)∧(e=0→(k<nb.size→OP.2=8)∧(¬k<nb.size→OP=(Y.map Nx.nd,0)∧Small Y∧FnX Y))):=by
      refine ⟨HE.out,fun q=>?_⟩
      subst q
      obtain ⟨q1,q2,q3⟩:=HI.out rfl
      obtain ⟨rfl,rfl,rfl⟩:=q3.fin (fun h=>hgo ⟨h,rfl⟩)
      have q4:=(HX.out q1 q2).2 rfl
      have h5:∀j,j<Y.length→(Y.getD j noNx).nd ∈ Y.map Nx.nd:=fun j hj=>by
       rw [List.getD_eq_getElem?_getD,List.getElem?_eq_getElem hj]
       exact List.mem_map_of_mem (List.getElem_mem hj)
      refine ⟨q4.1,fun h=>⟨q4.2 h,⟨by have:=HQ.out.1;rw [List.length_map] at this;exact this,fun j hj=>(HQ.out.2 _ (h5 j hj)).1⟩,fun j hj=>(HQ.out.2 _ (h5 j hj)).2⟩⟩
     clear HE HI
     by_cases hlt:Y.length<m
     ·have hlt':(Y.length:Int)<n:=by have:=HMn.out;omega
      have he:¬e=0:=fun h=>hgo ⟨hlt,h⟩
      clear hgo
      go_wp2_with fail
      refine Calls.mono (HEr.out wr k e HR.out.cu) ?_
      rintro r w4 ⟨rfl,hb4⟩
      have HR4:Hid _:=HR.out.more hb4
      have HY4:Hid (Rws w4 (w.heap.size+1) (.slice av Y.length cv) Y):=HY.out.below hb4
      clear HR HY hb4
      go_wp2_with fail
      go_meet
      exact ⟨k,e,av,cv,Y,rfl,by omega,HR4,HY4,HF⟩
     ·have hlt':¬(Y.length:Int)<n:=by have:=HMn.out;omega
      clear hgo
      go_wp2_with fail
      go_meet
      exact ⟨k,e,av,cv,Y,rfl,by omega,HR,HY,HF⟩
  case rest=>
   clear HR5 HY5 HE4 HS HX HTT HQ HMn
   obtain ⟨k,e,av,cv,Y,rfl,hYl,HR,HY,HF⟩:=hcut
   have hkb:=HR.out.kb
   obtain ⟨e9,he9⟩:∃e9,(if k<nb.size then (if e=0 then 8 else e) else e)=e9:=⟨_,rfl⟩
   have H9:Hid ((e9≠0→OP.2=e9)∧(e9=0→OP=(Y.map Nx.nd,0)∧Small Y∧FnX Y)):=by
    by_cases hk:k<nb.size
    ·rw [if_pos hk] at he9
     by_cases he:e=0
     ·rw [if_pos he] at he9
      subst he9
      exact ⟨fun _=>(HF.out.2 he).1 hk,fun q=>by cases q⟩
     ·rw [if_neg he] at he9
      subst he9
      exact ⟨fun q=>HF.out.1 q,fun q=>absurd q he⟩
    ·rw [if_neg hk] at he9
     subst he9
     exact ⟨HF.out.1,fun q=>(HF.out.2 q).2 hk⟩
   clear HF
   have H9e:Hid ((k<nb.size∧(if e=0 then 8 else e)=e9)∨(¬k<nb.size∧e=e9)):=by
    by_cases hk:k<nb.size
    ·rw [if_pos hk] at he9;exact .inl ⟨hk,he9⟩
    ·rw [if_neg hk] at he9;exact .inr ⟨hk,he9⟩
   clear he9
   go_wp2_with fail
   refine Calls.mono (HLf.out _ k e HR.out.cu hkb) ?_
   rintro r w6 ⟨rfl,hb6⟩
   have HR6:Hid _:=HR.out.more hb6
   have HY6:Hid (Rws w6 (w.heap.size+1) (.slice av Y.length cv) Y):=HY.out.below hb6
   clear HR HY hb6
   rcases H9e.out with ⟨hk,h9⟩|⟨hk,rfl⟩
   ·have hk':(0:Int)<(nb.size:Int)-k:=by omega
    go_wp2_with fail
    refine Calls.mono (HFl.out _ k e 8 HR6.out.cu) ?_
    rintro r w7 ⟨rfl,hc7,hg7⟩
    rw [h9] at hc7
    have HR7:Hid (Rr w w7 l gc nb k e9):=HR6.out.cur hg7 hc7 hkb
    have HY7:Hid (Rws w7 (w.heap.size+1) (.slice av Y.length cv) Y):=HY6.out.curP hg7 HR6.out.cu
    clear HR6 HY6 hc7 hg7 H9e
    go_wp2_with fail
    go_ret
    exact ⟨Y,av,cv,k,e9,rfl,HR7.out.cu,by rw [HOP.out];exact H9.out.1,by rw [HOP.out];exact H9.out.2,HY7.out,HR7.out.fr⟩
   ·have hk':¬(0:Int)<(nb.size:Int)-k:=by omega
    clear H9e
    go_wp2_with fail
    go_ret
    exact ⟨Y,av,cv,k,e,rfl,HR6.out.cu,by rw [HOP.out];exact H9.out.1,by rw [HOP.out];exact H9.out.2,HY6.out,HR6.out.fr⟩
end Go.Proofs.YtgoffkfpdigeeaaGreatDoor
