import Derived.Test.YtcgjgjjegnofeaaGreatDoorPA01
import Derived.Test.YtcgjgjjegnofeaaGreatDoorPA20
import Derived.Test.YtcgjgjjegnofeaaGreatDoorPA10
import Derived.Test.YtcgjgjjegnofeaaGreatDoorPA11
import Derived.Test.YtcgjgjjegnofeaaGreatDoorPA16
import Derived.Deep.LoopGhost
import Derived.Test.YtcgjgjjegnofeaaGreatDoorPA08
import Derived.Test.YtcgjgjjegnofeaaGreatDoorPA05
namespace Go.Proofs.YtcgjgjjegnofeaaGreatDoor
open Go.RowKit Go.Maps Go.WideMaps Go.Sort
set_option maxRecDepth 10000 in
set_option maxHeartbeats 1000000 in
theorem ris_any (X:List Nx) (a:Option Addr) (c:Nat) (r:Int) (w:World) (h:ScAt w a X) (hX:Small X) :
  Calls Tryz.prog 89 #[.agg #[.slice a X.length c,.int .i64 r]] w fun e w'=>IsOut X r w w' e:=by
 have HL:Hid (∀o:Obj,o=.cells #[.slice a X.length c,.int .i64 r] 24→AtN 24 (w.alloc o) w.heap.size #[.slice a X.length c,.int .i64 r]∧Below w.heap.size w (w.alloc o)):=by
  rintro _ rfl
  exact ⟨AtN.new w 24 _,(Below.refl w.heap.size w).alloc (Nat.le_refl _) _⟩
 have HS:Hid (ScAt w a X∧Small X):=⟨h,hX⟩
 clear h hX
 go_enter Tryz.func89,Tryz.ntmps89
 go_wp2_with fail
 obtain ⟨hA,hB⟩:=HL.out _ rfl
 have HB1:Hid (Below w.heap.size w (w.alloc (.cells #[.slice a X.length c,.int .i64 r] 24))):=hB
 generalize w.alloc (.cells #[.slice a X.length c,.int .i64 r] 24)=W0 at *
 have x0:W0.cell? ⟨w.heap.size,0,none⟩=some (.slice a X.length c):=hA.cell 0
 have x1:W0.cell? ⟨w.heap.size,1,none⟩=some (.int .i64 r):=hA.cell 1
 have hg0:=hA.lt
 have HX:Hid (∀W,Below W0.heap.size W0 W→ScAt W a X):=fun W hW=>HS.out.1.belowB (hB.trans (hW.mono hB.size))
 clear HL hA hB
 by_cases hR:RightIs X r
 ·obtain ⟨b,hb⟩:=bool_of (IsCan X r)
  have HRt:Hid (∀W,Below W0.heap.size W0 W→Calls Tryz.prog 20 #[.agg #[.slice a X.length c,.int .i64 r]] W fun e w'=>e=.returned (.bool true)∧Below W.heap.size W w'):=fun W hW=>by
   refine Calls.mono (right_any X a c r W (HX.out W hW) HS.out.2) ?_
   rintro e w' ⟨q,rfl,hq,hb'⟩
   rw [hq.2 hR]
   exact ⟨rfl,hb'⟩
  have HCn:Hid (∀W,Below W0.heap.size W0 W→Calls Tryz.prog 18 #[.agg #[.slice a X.length c,.int .i64 r]] W fun e w'=>RCanOut X r W w' e):=fun W hW=>rcanon_any X a c r W (HX.out W hW) HS.out.2 hR
  have HSm:Hid (∀W,Below W0.heap.size W0 W→∀(Y:List Nx) (a':Option Addr) (c':Nat),Y.map Nx.nd=cX X r→ScAt W a' Y→Calls Tryz.prog 17 #[.agg #[.slice a' Y.length c',.int .i64 ((X.length:Int)-1)],.agg #[.slice a X.length c,.int .i64 r]] W fun e w'=>e=.returned (.bool b)∧Below W.heap.size W w'):=fun W hW Y a' c' hY hs=>by
   refine Calls.mono (ssame_any Y X a' a c' c _ r W hs (HX.out W hW) ((can_ren hR hY).small HS.out.2)) ?_
   rintro e w' ⟨q,rfl,hq,hb'⟩
   have:q=b:=by
    rw [Bool.eq_iff_iff,hq,hb,isCan_iff,hY]
    exact ⟨fun h=>⟨hR,h⟩,fun h=>h.2⟩
   rw [this]
   exact ⟨rfl,hb'⟩
  clear HX HS hR
  refine facts_region6 (fun W=>Below W0.heap.size W0 W) (fun i v W=>match i with|0=>v=.agg #[.slice a X.length c,.int .i64 r]|1=>v=.bool true|2=>v=.bool true|3=>v=.agg #[.slice a X.length c,.int .i64 r]|4=>∃(Y:List Nx) (a':Option Addr) (c':Nat),v=.agg #[.slice a' Y.length c',.int .i64 ((X.length:Int)-1)]∧Y.map Nx.nd=cX X r∧ScAt W a' Y|5=>v=.agg #[.slice a X.length c,.int .i64 r]|6=>v=.bool b|7=>v=.bool b|8=>v=.bool b|_=>True) (by kernel_rfl) (by kernel_rfl) (Below.refl _ _).drew ?step ?fin
  case step=>
   intro i' o' ho act W hG hoff hdep K hQ hK
   rcases i' with _|_|_|_|_|_|_|_|_|i'
   ·obtain rfl:=Option.some.inj ho
    have t1:act.tmps[1]?.getD undef=.pointer (some ⟨w.heap.size,0,none⟩):=hoff 1 (by kernel_rfl)
    have x0W:=(hG.cell (p:=⟨w.heap.size,0,none⟩) hg0).trans x0
    have x1W:=(hG.cell (p:=⟨w.heap.size,1,none⟩) hg0).trans x1
    clear hdep hoff hG
    go_simp
    exact hQ _ (rfl)
   ·obtain rfl:=Option.some.inj ho
    have e0:act.tmps[3]?.getD undef=.agg #[.slice a X.length c,.int .i64 r]:=hdep 0 _ (by kernel_rfl) rfl
    clear hdep hoff
    have HG:Hid (Below W0.heap.size W0 W):=hG
    have HC:Hid _:=HRt.out W hG
    clear hG
    go_simp
    refine Calls.mono HC.out ?_
    rintro e w' ⟨rfl,hb⟩
    exact hK _ _ (HG.out.trans (hb.mono HG.out.size)) (fun j u hj h=>by
      rcases j with _|_|_|_|_|_|_|_|_|j
      ·exact h
      ·exact absurd rfl hj
      ·exact h
      ·exact h
      ·obtain ⟨Y,a',c',h1,h2,h3⟩:=h;exact ⟨Y,a',c',h1,h2,h3.belowB hb⟩
      ·exact h
      ·exact h
      ·exact h
      ·exact h
      ·trivial) (rfl)
   ·obtain rfl:=Option.some.inj ho
    have e1:act.tmps[4]?.getD undef=.bool true:=hdep 1 _ (by kernel_rfl) rfl
    clear hdep hoff hG
    go_simp
    exact hQ _ (rfl)
   ·obtain rfl:=Option.some.inj ho
    have hgd:act.tmps[5]?.getD undef=.bool true:=hdep 2 _ (by kernel_rfl) rfl
    have hgd':=getD_bool hgd
    have t1:act.tmps[1]?.getD undef=.pointer (some ⟨w.heap.size,0,none⟩):=hoff 1 (by kernel_rfl)
    have x0W:=(hG.cell (p:=⟨w.heap.size,0,none⟩) hg0).trans x0
    have x1W:=(hG.cell (p:=⟨w.heap.size,1,none⟩) hg0).trans x1
    clear hdep hoff hG
    go_simp
    exact hQ _ (rfl)
   ·obtain rfl:=Option.some.inj ho
    have hgd:act.tmps[5]?.getD undef=.bool true:=hdep 2 _ (by kernel_rfl) rfl
    have hgd':=getD_bool hgd
    have e3:act.tmps[6]?.getD undef=.agg #[.slice a X.length c,.int .i64 r]:=hdep 3 _ (by kernel_rfl) rfl
    clear hdep hoff
    have HG:Hid (Below W0.heap.size W0 W):=hG
    have HC:Hid _:=HCn.out W hG
    clear hG
    go_simp
    refine Calls.mono HC.out ?_
    rintro e w' ⟨Y,a',c',rfl,hY,hs,hb⟩
    exact hK _ _ (HG.out.trans (hb.mono HG.out.size)) (fun j u hj h=>by
      rcases j with _|_|_|_|_|_|_|_|_|j
      ·exact h
      ·exact h
      ·exact h
      ·exact h
      ·exact absurd rfl hj
      ·exact h
      ·exact h
      ·exact h
      ·exact h
      ·trivial) (⟨Y,a',c',rfl,hY,hs⟩)
   ·obtain rfl:=Option.some.inj ho
    have hgd:act.tmps[5]?.getD undef=.bool true:=hdep 2 _ (by kernel_rfl) rfl
    have hgd':=getD_bool hgd
    have t1:act.tmps[1]?.getD undef=.pointer (some ⟨w.heap.size,0,none⟩):=hoff 1 (by kernel_rfl)
    have x0W:=(hG.cell (p:=⟨w.heap.size,0,none⟩) hg0).trans x0
    have x1W:=(hG.cell (p:=⟨w.heap.size,1,none⟩) hg0).trans x1
    clear hdep hoff hG
    go_simp
    exact hQ _ (rfl)
   ·obtain rfl:=Option.some.inj ho
    have hgd:act.tmps[5]?.getD undef=.bool true:=hdep 2 _ (by kernel_rfl) rfl
    have hgd':=getD_bool hgd
    have e4:∃(Y:List Nx) (a':Option Addr) (c':Nat),act.tmps[7]?.getD undef=.agg #[.slice a' Y.length c',.int .i64 ((X.length:Int)-1)]∧Y.map Nx.nd=cX X r∧ScAt W a' Y:=hdep 4 _ (by kernel_rfl) rfl
    have e5:act.tmps[8]?.getD undef=.agg #[.slice a X.length c,.int .i64 r]:=hdep 5 _ (by kernel_rfl) rfl
    clear hdep hoff
    obtain ⟨Y,a',c',e4',hY,hs⟩:=e4
    have HG:Hid (Below W0.heap.size W0 W):=hG
    have HC:Hid _:=HSm.out W hG Y a' c' hY hs
    clear hG
    go_simp
    refine Calls.mono HC.out ?_
    rintro e w' ⟨rfl,hb⟩
    exact hK _ _ (HG.out.trans (hb.mono HG.out.size)) (fun j u hj h=>by
      rcases j with _|_|_|_|_|_|_|_|_|j
      ·exact h
      ·exact h
      ·exact h
      ·exact h
      ·obtain ⟨Y,a',c',h1,h2,h3⟩:=h;exact ⟨Y,a',c',h1,h2,h3.belowB hb⟩
      ·exact h
      ·exact absurd rfl hj
      ·exact h
      ·exact h
      ·trivial) (rfl)
   ·obtain rfl:=Option.some.inj ho
    have e2:act.tmps[5]?.getD undef=.bool true:=hdep 2 _ (by kernel_rfl) rfl
    have e6:act.tmps[9]?.getD undef=.bool b:=hdep 6 _ (by kernel_rfl) rfl
    clear hdep hoff hG
    go_simp
    exact hQ _ (rfl)
   ·obtain rfl:=Option.some.inj ho
    have e7:act.tmps[10]?.getD undef=.bool b:=hdep 7 _ (by kernel_rfl) rfl
    clear hdep hoff hG
    go_simp
    exact hQ _ (rfl)
   ·exact absurd ho (by simp)
  case fin=>
   intro V W hG hF
   have y8:V (some 2)=.bool b:=hF 8 _ rfl
   have HB2:Hid (Below w.heap.size w W):=HB1.out.trans (hG.mono HB1.out.size)
   clear hF hG
   simp only [fillA,Act.put,List.setIfInBounds_toArray,List.set_cons_zero,List.set_cons_succ,y8]
   generalize V (some 3)=z3
   generalize V (some 4)=z4
   generalize V (some 5)=z5
   generalize V (some 6)=z6
   generalize V (some 7)=z7
   generalize V (some 8)=z8
   generalize V (some 9)=z9
   generalize V (some 10)=z10
   clear y8
   go_wp2_with fail
   go_ret
   exact ⟨b,rfl,hb,HB2.out⟩
 ·have HR:Hid (¬RightIs X r):=hR
  have HRt:Hid (∀W,Below W0.heap.size W0 W→Calls Tryz.prog 20 #[.agg #[.slice a X.length c,.int .i64 r]] W fun e w'=>e=.returned (.bool false)∧Below W.heap.size W w'):=fun W hW=>by
   refine Calls.mono (right_any X a c r W (HX.out W hW) HS.out.2) ?_
   rintro e w' ⟨q,rfl,hq,hb'⟩
   cases q with
   | true=>exact absurd (hq.1 rfl) hR
   | false=>exact ⟨rfl,hb'⟩
  clear HX HS hR
  refine facts_region6 (fun W=>Below W0.heap.size W0 W) (fun i v W=>match i with|0=>v=.agg #[.slice a X.length c,.int .i64 r]|1=>v=.bool false|2=>v=.bool false|3=>True|4=>True|5=>True|6=>True|7=>v=.bool false|8=>v=.bool false|_=>True) (by kernel_rfl) (by kernel_rfl) (Below.refl _ _).drew ?step ?fin
  case step=>
   intro i' o' ho act W hG hoff hdep K hQ hK
   rcases i' with _|_|_|_|_|_|_|_|_|i'
   ·obtain rfl:=Option.some.inj ho
    have t1:act.tmps[1]?.getD undef=.pointer (some ⟨w.heap.size,0,none⟩):=hoff 1 (by kernel_rfl)
    have x0W:=(hG.cell (p:=⟨w.heap.size,0,none⟩) hg0).trans x0
    have x1W:=(hG.cell (p:=⟨w.heap.size,1,none⟩) hg0).trans x1
    clear hdep hoff hG
    go_simp
    exact hQ _ (rfl)
   ·obtain rfl:=Option.some.inj ho
    have e0:act.tmps[3]?.getD undef=.agg #[.slice a X.length c,.int .i64 r]:=hdep 0 _ (by kernel_rfl) rfl
    clear hdep hoff
    have HG:Hid (Below W0.heap.size W0 W):=hG
    have HC:Hid _:=HRt.out W hG
    clear hG
    go_simp
    refine Calls.mono HC.out ?_
    rintro e w' ⟨rfl,hb⟩
    exact hK _ _ (HG.out.trans (hb.mono HG.out.size)) (fun j u hj h=>by
      rcases j with _|_|_|_|_|_|_|_|_|j
      ·exact h
      ·exact absurd rfl hj
      ·exact h
      ·exact h
      ·exact h
      ·exact h
      ·exact h
      ·exact h
      ·exact h
      ·trivial) (rfl)
   ·obtain rfl:=Option.some.inj ho
    have e1:act.tmps[4]?.getD undef=.bool false:=hdep 1 _ (by kernel_rfl) rfl
    clear hdep hoff hG
    go_simp
    exact hQ _ (rfl)
   ·obtain rfl:=Option.some.inj ho
    have hgd:act.tmps[5]?.getD undef=.bool false:=hdep 2 _ (by kernel_rfl) rfl
    have hgd':=getD_bool hgd
    clear hdep hoff hG
    go_simp
    exact hQ _ (trivial)
   ·obtain rfl:=Option.some.inj ho
    have hgd:act.tmps[5]?.getD undef=.bool false:=hdep 2 _ (by kernel_rfl) rfl
    have hgd':=getD_bool hgd
    clear hdep hoff hG
    go_simp
    exact hQ _ (trivial)
   ·obtain rfl:=Option.some.inj ho
    have hgd:act.tmps[5]?.getD undef=.bool false:=hdep 2 _ (by kernel_rfl) rfl
    have hgd':=getD_bool hgd
    clear hdep hoff hG
    go_simp
    exact hQ _ (trivial)
   ·obtain rfl:=Option.some.inj ho
    have hgd:act.tmps[5]?.getD undef=.bool false:=hdep 2 _ (by kernel_rfl) rfl
    have hgd':=getD_bool hgd
    clear hdep hoff hG
    go_simp
    exact hQ _ (trivial)
   ·obtain rfl:=Option.some.inj ho
    have e2:act.tmps[5]?.getD undef=.bool false:=hdep 2 _ (by kernel_rfl) rfl
    clear hdep hoff hG
    go_simp
    exact hQ _ (rfl)
   ·obtain rfl:=Option.some.inj ho
    have e7:act.tmps[10]?.getD undef=.bool false:=hdep 7 _ (by kernel_rfl) rfl
    clear hdep hoff hG
    go_simp
    exact hQ _ (rfl)
   ·exact absurd ho (by simp)
  case fin=>
   intro V W hG hF
   have y8:V (some 2)=.bool false:=hF 8 _ rfl
   have HB2:Hid (Below w.heap.size w W):=HB1.out.trans (hG.mono HB1.out.size)
   clear hF hG
   simp only [fillA,Act.put,List.setIfInBounds_toArray,List.set_cons_zero,List.set_cons_succ,y8]
   generalize V (some 3)=z3
   generalize V (some 4)=z4
   generalize V (some 5)=z5
   generalize V (some 6)=z6
   generalize V (some 7)=z7
   generalize V (some 8)=z8
   generalize V (some 9)=z9
   generalize V (some 10)=z10
   clear y8
   go_wp2_with fail
   go_ret
   exact ⟨false,rfl,⟨fun q=>by simp at q,fun q=>absurd q.1 HR.out⟩,HB2.out⟩
end Go.Proofs.YtcgjgjjegnofeaaGreatDoor
namespace Go.Proofs.YtcgjgjjegnofeaaGreatDoor
open Go.RowKit
theorem can_same {X Y:List Nx} (h:Y.map Nx.nd=X.map Nx.nd) {r:Int}:IsCan Y r↔IsCan X r:=by
 unfold IsCan
 rw [same_right h,same_len h,same_oX h]
theorem allT_same {X Y:List Nx} (h:Y.map Nx.nd=X.map Nx.nd):allT Y=allT X:=by
 have key:∀Z:List Nx,allT Z=(Z.map Nx.nd).flatMap Nd.texts:=fun Z=>by
  unfold allT
  rw [List.flatMap_map]
 rw [key,key,h]
def bare (P:List Nd):List Nx:=P.map fun N=>⟨N,none,0,none,0,none,0⟩
theorem bare_nd (P:List Nd):(bare P).map Nx.nd=P:=by
 unfold bare
 rw [List.map_map]
 exact List.map_id' P
def GeS (X:List Nx) (r:Int) (L:List ByteArray) (l:Lm) (e:Int):Prop:=
 ∃n y d,CheckIs X r n y∧DepthIs X r d∧((n≠0∧e=n)∨(n=0∧((l.d<d∧e=19)∨(¬l.d<d∧((¬IsCan X r∧e=16)∨(IsCan X r∧((itn (allT X)≠L∧e=18)∨(itn (allT X)=L∧e=0))))))))
theorem GeS.same {X Y:List Nx} (h:Y.map Nx.nd=X.map Nx.nd) {r:Int} {L:List ByteArray} {l:Lm} {e:Int} (hg:GeS Y r L l e):GeS X r L l e:=by
 obtain ⟨n,y,d,h1,h2,h3⟩:=hg
 rw [can_same h,allT_same h] at h3
 exact ⟨n,y,d,same_check h h1,same_depth h h2,h3⟩
theorem GeS.uniq {X:List Nx} {r:Int} {L:List ByteArray} {l:Lm} {e e':Int} (h:GeS X r L l e) (h':GeS X r L l e'):e'=e:=by
 obtain ⟨n,y,d,h1,h2,h3⟩:=h
 obtain ⟨n',y',d',g1,g2,g3⟩:=h'
 have hn:n'=n:=(h1.uniq g1).1
 have hd:d'=d:=h2.only g2
 subst hn hd
 rcases h3 with ⟨a,rfl⟩|⟨a,⟨b,rfl⟩|⟨b,⟨c,rfl⟩|⟨c,⟨f,rfl⟩|⟨f,rfl⟩⟩⟩⟩
 all_goals
  rcases g3 with ⟨a',rfl⟩|⟨a',⟨b',rfl⟩|⟨b',⟨c',rfl⟩|⟨c',⟨f',rfl⟩|⟨f',rfl⟩⟩⟩⟩
 all_goals
  first|rfl|exact absurd a' a|exact absurd a a'|exact absurd b b'|exact absurd b' b|exact absurd c c'|exact absurd c' c|exact absurd f f'|exact absurd f' f
def geK (tx nb:ByteArray) (l:Lm):Int × List Nd × List ByteArray:=
 if okL l=false then (1,[],[]) else
 if (pGet6 tx 16777216 l.x).1≠0 then ((pGet6 tx 16777216 l.x).1,[],[]) else
 if (pUint nb 0 0 l.n).2.2≠0 then ((pUint nb 0 0 l.n).2.2,[],[]) else
 if (pUint nb 0 0 l.n).1=0 then (13,[],[]) else
 if (gNs nb (pGet6 tx 16777216 l.x).2 (pUint nb 0 0 l.n).1.toNat 0 (pUint nb 0 0 l.n).2.1 l.e).2.2≠0 then ((gNs nb (pGet6 tx 16777216 l.x).2 (pUint nb 0 0 l.n).1.toNat 0 (pUint nb 0 0 l.n).2.1 l.e).2.2,[],[]) else
 if (gNs nb (pGet6 tx 16777216 l.x).2 (pUint nb 0 0 l.n).1.toNat 0 (pUint nb 0 0 l.n).2.1 l.e).2.1<nb.size then (8,[],[]) else
 (0,(gNs nb (pGet6 tx 16777216 l.x).2 (pUint nb 0 0 l.n).1.toNat 0 (pUint nb 0 0 l.n).2.1 l.e).1,(pGet6 tx 16777216 l.x).2)
def GeIs (tx nb:ByteArray) (l:Lm) (P:List Nd) (r e:Int):Prop:=
 ((geK tx nb l).1≠0∧e=(geK tx nb l).1∧P=[]∧r=0)∨
  ((geK tx nb l).1=0∧∃k,GeS (bare (geK tx nb l).2.1) (((geK tx nb l).2.1.length:Int)-1) (geK tx nb l).2.2 l k∧((k≠0∧e=k∧P=[]∧r=0)∨(k=0∧e=0∧P=(geK tx nb l).2.1∧r=((geK tx nb l).2.1.length:Int)-1)))
theorem GeIs.uniq {tx nb:ByteArray} {l:Lm} {P P':List Nd} {r r' e e':Int} (h:GeIs tx nb l P r e) (h':GeIs tx nb l P' r' e'):P'=P∧r'=r∧e'=e:=by
 rcases h with ⟨a,rfl,rfl,rfl⟩|⟨a,k,hk,h2⟩
 ·rcases h' with ⟨_,rfl,rfl,rfl⟩|⟨a',_⟩
  ·exact ⟨rfl,rfl,rfl⟩
  ·exact absurd a' a
 ·rcases h' with ⟨a',_⟩|⟨_,k',hk',h2'⟩
  ·exact absurd a a'
  ·have hkk:=hk.uniq hk'
   subst hkk
   rcases h2 with ⟨b,rfl,rfl,rfl⟩|⟨b,rfl,rfl,rfl⟩
   ·rcases h2' with ⟨_,rfl,rfl,rfl⟩|⟨b',_⟩
    ·exact ⟨rfl,rfl,rfl⟩
    ·exact absurd b' b
   ·rcases h2' with ⟨b',_⟩|⟨_,rfl,rfl,rfl⟩
    ·exact absurd b b'
    ·exact ⟨rfl,rfl,rfl⟩
end Go.Proofs.YtcgjgjjegnofeaaGreatDoor
namespace Go.Proofs.YtcgjgjjegnofeaaGreatDoor
open Go.RowKit Go.Maps Go.WideMaps
def read6 (b:ByteArray) (k:Nat) (m:Int) (L:List ByteArray):Int × Nat × List ByteArray:=
 if (pText b k 0 m).2.2≠0 then ((pText b k 0 m).2.2,(pText b k 0 m).2.1,L)
 else if right5 (pText b k 0 m).1=false then (11,(pText b k 0 m).2.1,L)
 else if idx6 (pText b k 0 m).1 L<L.length then (17,(pText b k 0 m).2.1,L)
 else (0,(pText b k 0 m).2.1,L++[(pText b k 0 m).1])
theorem pText_none (b:ByteArray) (k:Nat) (m:Int) (h:(pText b k 0 m).2.2≠0):(pText b k 0 m).1=⟨#[]⟩:=by
 unfold pText at h ⊢
 rw [if_neg (by simp)] at h ⊢
 split
 ·rfl
 ·rename_i h1
  rw [if_neg h1] at h
  split
  ·rfl
  ·rename_i h2
   rw [if_neg h2] at h
   split
   ·rfl
   ·rename_i h3
    rw [if_neg h3] at h
    exact absurd rfl h
theorem pFirst_right (s:ByteArray):(right5 s=true→pFirst s.data.toList = -1)∧(right5 s=false→0≤pFirst s.data.toList):=by
 unfold right5 pFirst
 rw [list_size]
 constructor
 ·intro h
  rw [if_pos (of_decide_eq_true h)]
 ·intro h
  rw [if_neg (of_decide_eq_false h)]
  omega
def RdS (g gm:Nat) (v:Value) (gc k:Nat):Prop:=TbS g gm v k∨k=gc
def RdOut (w w':World) (B g gm:Nat) (v:Value) (gc:Nat) (b:ByteArray) (R:Int × Nat × List ByteArray):Prop:=
 ∃v',Tb w' B g gm v' R.2.2∧Cu w' gc b (R.2.1:Nat) R.1∧Fr (RdS g gm v gc) w w'∧∀i,TbS g gm v' i→TbS g gm v i∨w.heap.size≤i
theorem fr_gc {g gm gc:Nat} {v:Value} {w w':World} (h:w.grownBy w' (some gc)):Fr (RdS g gm v gc) w w':=Fr.of_grown h (fun k hk=>by cases hk;exact .inr rfl)
theorem tb_gc {w w':World} {B g gm gc:Nat} {v:Value} {L:List ByteArray} (h:Tb w B g gm v L) (hg:w.grownBy w' (some gc)) (hne:¬TbS g gm v gc):Tb w' B g gm v L:=
 h.fr (Fr.of_grown (S:=fun k=>k=gc) hg (fun k hk=>by cases hk;rfl)) (fun i hi e=>hne (by rw [← e];exact hi))
section
variable {w:World} {B g gm gc:Nat} {v:Value} {L:List ByteArray} {b s:ByteArray} {k k1:Nat} {m e1 f:Int}
set_option maxRecDepth 10000 in
set_option maxHeartbeats 400000 in
theorem tread_bad (ht:Tb w B g gm v L) (hne:¬TbS g gm v gc) (e3:Int) (he3:e3≠0) (hs:s.size≤1000000)
  (HX:Hid (Calls Tryz.prog 153 #[.pointer (some ⟨gc,0,none⟩),.int .i64 m] w fun r w'=>r=.returned (.string s)∧Cu w' gc b (k1:Nat) e1∧w.grownBy w' (some gc)))
  (HE:Hid ((0≤pFirst s.data.toList→((idx6 s L<L.length→e3=if (if e1=0 then 11 else e1)=0 then 17 else (if e1=0 then 11 else e1))∧(¬idx6 s L<L.length→e3=if e1=0 then 11 else e1)))∧(¬0≤pFirst s.data.toList→((idx6 s L<L.length→e3=if e1=0 then 17 else e1)∧(¬idx6 s L<L.length→e3=e1))))) :
  Calls Tryz.prog 126 #[.pointer (some ⟨g,0,none⟩),.pointer (some ⟨gc,0,none⟩),.int .i64 m] w fun r w'=>r=.returned (.tuple #[])∧Tb w' B g gm v L∧Cu w' gc b (k1:Nat) e3∧Fr (RdS g gm v gc) w w':=by
 have HF:Hid _:=fun W:World=>first_any s W hs
 obtain ⟨f,hf⟩:∃f,f=pFirst s.data.toList:=⟨_,rfl⟩
 rw [← hf] at HE
 rw [← hf] at HF
 clear hf
 have hkey:=kS_key s (by unfold maxLen;omega)
 have he3':(e3==0)=false:=by simpa using he3
 by_cases h1:0≤f
 ·have HE1:=HE.out.1 h1
  clear HE
  go_enter Tryz.func126,Tryz.ntmps126
  go_wp2_with fail
  refine Calls.mono HX.out ?_
  rintro e w1 ⟨rfl,C1,g1⟩
  have T1:=tb_gc ht g1 hne
  have F1:Fr (RdS g gm v gc) w w1:=fr_gc g1
  clear HX g1
  go_wp2_with fail
  refine (HF.out w1).mono ?_
  rintro e w2 ⟨rfl,b2⟩
  have T2:=T1.below b2
  have C2:=C1.belowAll b2
  have F2:=F1.trans (Fr.of_below (S:=RdS g gm v gc) b2) (fun _ q _=>q)
  clear HF b2 T1 C1 F1
  go_wp2_with fail
  refine (fail_any w2 gc b _ _ 11 C2).mono ?_
  rintro e w3 ⟨rfl,C3,g3⟩
  have T3:=tb_gc T2 g3 hne
  have F3:=F2.trans (fr_gc (g:=g) (gm:=gm) (v:=v) g3) (fun _ q _=>q)
  clear g3 T2 C2 F2
  have c1:=T3.cells.c1
  obtain ⟨D,hmap,HD⟩:=T3.map
  obtain ⟨hh,-⟩:=HD.2 s
  clear HD
  by_cases hx:idx6 s L<L.length
  ·have HE2:Hid _:=HE1.1 hx
   rw [decide_eq_true hx] at hh
   clear HE1
   go_wp2_with (at_lookup;refine wpList_lookup_own_ok_int _ rfl _ _ 159 rfl 9 3 .i64 lawS6 Tryz.underlying159 Tryz.underlying3 (zeroI6 _) gm L.length D rfl hmap _ _ rfl hkey ?_;intro c hat hwc;clear hat hwc)
   refine (fail_any w3 gc b _ _ 17 C3).mono ?_
   rintro e w4 ⟨rfl,C4,g4⟩
   have T4:=tb_gc T3 g4 hne
   have F4:=F3.trans (fr_gc (g:=g) (gm:=gm) (v:=v) g4) (fun _ q _=>q)
   rw [← HE2.out] at C4
   clear g4 T3 C3 F3 hmap c1 HE2
   go_wp2_with fail
   refine (err_any w4 gc b _ _ C4).mono ?_
   rintro e w5 ⟨rfl,b5⟩
   go_wp2_with fail
   go_end0
   exact ⟨rfl,T4.below b5,C4.belowAll b5,F4.trans (Fr.of_below (S:=RdS g gm v gc) b5) (fun _ q _=>q)⟩
  ·have HE2:Hid _:=HE1.2 hx
   rw [decide_eq_false hx] at hh
   rw [← HE2.out] at C3
   clear HE1 HE2
   go_wp2_with (at_lookup;refine wpList_lookup_own_ok_int _ rfl _ _ 159 rfl 9 3 .i64 lawS6 Tryz.underlying159 Tryz.underlying3 (zeroI6 _) gm L.length D rfl hmap _ _ rfl hkey ?_;intro c hat hwc;clear hat hwc)
   refine (err_any w3 gc b _ _ C3).mono ?_
   rintro e w5 ⟨rfl,b5⟩
   go_wp2_with fail
   go_end0
   exact ⟨rfl,T3.below b5,C3.belowAll b5,F3.trans (Fr.of_below (S:=RdS g gm v gc) b5) (fun _ q _=>q)⟩
 ·have HE1:=HE.out.2 h1
  clear HE
  go_enter Tryz.func126,Tryz.ntmps126
  go_wp2_with fail
  refine Calls.mono HX.out ?_
  rintro e w1 ⟨rfl,C1,g1⟩
  have T1:=tb_gc ht g1 hne
  have F1:Fr (RdS g gm v gc) w w1:=fr_gc g1
  clear HX g1
  go_wp2_with fail
  refine (HF.out w1).mono ?_
  rintro e w2 ⟨rfl,b2⟩
  have T3:=T1.below b2
  have C3:=C1.belowAll b2
  have F3:=F1.trans (Fr.of_below (S:=RdS g gm v gc) b2) (fun _ q _=>q)
  clear HF b2 T1 C1 F1
  have c1:=T3.cells.c1
  obtain ⟨D,hmap,HD⟩:=T3.map
  obtain ⟨hh,-⟩:=HD.2 s
  clear HD
  by_cases hx:idx6 s L<L.length
  ·have HE2:Hid _:=HE1.1 hx
   rw [decide_eq_true hx] at hh
   clear HE1
   go_wp2_with (at_lookup;refine wpList_lookup_own_ok_int _ rfl _ _ 159 rfl 9 3 .i64 lawS6 Tryz.underlying159 Tryz.underlying3 (zeroI6 _) gm L.length D rfl hmap _ _ rfl hkey ?_;intro c hat hwc;clear hat hwc)
   refine (fail_any w2 gc b _ _ 17 C3).mono ?_
   rintro e w4 ⟨rfl,C4,g4⟩
   have T4:=tb_gc T3 g4 hne
   have F4:=F3.trans (fr_gc (g:=g) (gm:=gm) (v:=v) g4) (fun _ q _=>q)
   rw [← HE2.out] at C4
   clear g4 T3 C3 F3 hmap c1 HE2
   go_wp2_with fail
   refine (err_any w4 gc b _ _ C4).mono ?_
   rintro e w5 ⟨rfl,b5⟩
   go_wp2_with fail
   go_end0
   exact ⟨rfl,T4.below b5,C4.belowAll b5,F4.trans (Fr.of_below (S:=RdS g gm v gc) b5) (fun _ q _=>q)⟩
  ·have HE2:Hid _:=HE1.2 hx
   rw [decide_eq_false hx] at hh
   rw [← HE2.out] at C3
   clear HE1 HE2
   go_wp2_with (at_lookup;refine wpList_lookup_own_ok_int _ rfl _ _ 159 rfl 9 3 .i64 lawS6 Tryz.underlying159 Tryz.underlying3 (zeroI6 _) gm L.length D rfl hmap _ _ rfl hkey ?_;intro c hat hwc;clear hat hwc)
   refine (err_any w2 gc b _ _ C3).mono ?_
   rintro e w5 ⟨rfl,b5⟩
   go_wp2_with fail
   go_end0
   exact ⟨rfl,T3.below b5,C3.belowAll b5,F3.trans (Fr.of_below (S:=RdS g gm v gc) b5) (fun _ q _=>q)⟩
set_option maxRecDepth 10000 in
set_option maxHeartbeats 400000 in
theorem tread_add (ht:Tb w B g gm v L) (hne:¬TbS g gm v gc) (hs:s.size≤1000000) (hl:L.length≤1000000) (hm:sum6 L≤1000000000)
  (HX:Hid (Calls Tryz.prog 153 #[.pointer (some ⟨gc,0,none⟩),.int .i64 m] w fun r w'=>r=.returned (.string s)∧Cu w' gc b (k1:Nat) 0∧w.grownBy w' (some gc)))
  (hf:pFirst s.data.toList = -1) (hx:¬idx6 s L<L.length) :
  Calls Tryz.prog 126 #[.pointer (some ⟨g,0,none⟩),.pointer (some ⟨gc,0,none⟩),.int .i64 m] w fun r w'=>r=.returned (.tuple #[])∧RdOut w w' B g gm v gc b (0,k1,L++[s]):=by
 have HF:Hid _:=fun W:World=>first_any s W hs
 rw [hf] at HF
 clear hf
 have hkey:=kS_key s (by unfold maxLen;omega)
 have HA:Hid _:=fun (W:World) (h:Tb W B g gm v L)=>tadd_any h s hx (by omega) hl hm
 go_enter Tryz.func126,Tryz.ntmps126
 go_wp2_with fail
 refine Calls.mono HX.out ?_
 rintro e w1 ⟨rfl,C1,g1⟩
 have T1:=tb_gc ht g1 hne
 have F1:Fr (RdS g gm v gc) w w1:=fr_gc g1
 clear HX g1
 go_wp2_with fail
 refine (HF.out w1).mono ?_
 rintro e w2 ⟨rfl,b2⟩
 have T3:=T1.below b2
 have C3:=C1.belowAll b2
 have F3:=F1.trans (Fr.of_below (S:=RdS g gm v gc) b2) (fun _ q _=>q)
 clear HF b2 T1 C1 F1
 have c1:=T3.cells.c1
 obtain ⟨D,hmap,HD⟩:=T3.map
 obtain ⟨hh,-⟩:=HD.2 s
 clear HD
 rw [decide_eq_false hx] at hh
 clear hx
 go_wp2_with (at_lookup;refine wpList_lookup_own_ok_int _ rfl _ _ 159 rfl 9 3 .i64 lawS6 Tryz.underlying159 Tryz.underlying3 (zeroI6 _) gm L.length D rfl hmap _ _ rfl hkey ?_;intro c hat hwc;clear hat hwc)
 refine (err_any w2 gc b _ _ C3).mono ?_
 rintro e w5 ⟨rfl,b5⟩
 have T5:=T3.below b5
 have C5:=C3.belowAll b5
 have F5:=F3.trans (Fr.of_below (S:=RdS g gm v gc) b5) (fun _ q _=>q)
 clear T3 C3 F3 b5 hmap
 go_wp2_with fail
 refine (HA.out w5 T5).mono ?_
 rintro e w6 ⟨rfl,v',T6,F6,hn⟩
 go_wp2_with fail
 go_end0
 refine ⟨rfl,v',T6,C5.fr F6 hne,F5.trans F6 (fun _ q _=>.inl q),fun i hi=>(hn i hi).imp id (fun q=>Nat.le_trans F5.size q)⟩
theorem tread_any (ht:Tb w B g gm v L) (hc:Cu w gc b k 0) (hne:¬TbS g gm v gc) (hb:b.size≤1000000) (hk:k≤b.size) (hl:L.length≤1000000) (hs:sum6 L≤1000000000) (hm:m≤9223372036854775807) :
  Calls Tryz.prog 126 #[.pointer (some ⟨g,0,none⟩),.pointer (some ⟨gc,0,none⟩),.int .i64 m] w fun r w'=>r=.returned (.tuple #[])∧RdOut w w' B g gm v gc b (read6 b k m L):=by
 have HX:Hid _:=text_any w gc b k 0 m hc (by omega) hk hm
 have hn:=pText_none b k m
 have hst:=pText_step b k m hk
 unfold read6
 generalize pText b k 0 m=X at *
 obtain ⟨s,k1,e1⟩:=X
 dsimp only at *
 have hp:=pFirst_right s
 have go:∀e3:Int,e3≠0→s.size≤1000000→Hid ((0≤pFirst s.data.toList→((idx6 s L<L.length→e3=if (if e1=0 then 11 else e1)=0 then 17 else (if e1=0 then 11 else e1))∧(¬idx6 s L<L.length→e3=if e1=0 then 11 else e1)))∧(¬0≤pFirst s.data.toList→((idx6 s L<L.length→e3=if e1=0 then 17 else e1)∧(¬idx6 s L<L.length→e3=e1))))→
   Calls Tryz.prog 126 #[.pointer (some ⟨g,0,none⟩),.pointer (some ⟨gc,0,none⟩),.int .i64 m] w fun r w'=>r=.returned (.tuple #[])∧RdOut w w' B g gm v gc b (e3,k1,L):=by
  intro e3 h3 hz HE
  refine (tread_bad ht hne e3 h3 hz HX HE).mono ?_
  rintro e w' ⟨rfl,h1,h2,h3⟩
  exact ⟨rfl,v,h1,h2,h3,fun i hi=>.inl hi⟩
 by_cases he:e1≠0
 ·rw [if_pos he]
  obtain rfl:=hn he
  refine go e1 he (by decide) ⟨fun h=>absurd h (by decide),fun _=>⟨fun _=>by rw [if_neg he],fun _=>rfl⟩⟩
 ·have he':e1=0:=by simpa using he
  subst he'
  rw [if_neg he]
  obtain ⟨h1,h2⟩:=hst rfl
  by_cases hr:right5 s=false
  ·rw [if_pos hr]
   have:=hp.2 hr
   exact go 11 (by decide) (by omega) ⟨fun _=>⟨fun _=>by simp,fun _=>by simp⟩,fun h=>absurd this h⟩
  ·rw [if_neg hr]
   have h3:=hp.1 (by simpa using hr)
   by_cases hx:idx6 s L<L.length
   ·rw [if_pos hx]
    exact go 17 (by decide) (by omega) ⟨fun h=>absurd h (by omega),fun _=>⟨fun _=>by simp,fun h=>absurd hx h⟩⟩
   ·rw [if_neg hx]
    exact tread_add ht hne (by omega) hl hs HX h3 hx
end
end Go.Proofs.YtcgjgjjegnofeaaGreatDoor
namespace Go.Proofs.YtcgjgjjegnofeaaGreatDoor
open Go.RowKit Go.Maps Go.WideMaps
theorem gets6_read (b:ByteArray) (M:Int) (n k:Nat) (xs:List ByteArray):gets6 b M (n+1) k xs=if (read6 b k (M-(sum6 xs:Nat)) xs).1≠0 then ((read6 b k (M-(sum6 xs:Nat)) xs).1,[],0) else gets6 b M n (read6 b k (M-(sum6 xs:Nat)) xs).2.1 (read6 b k (M-(sum6 xs:Nat)) xs).2.2:=by
 rw [gets6_step b M n k xs _ rfl]
 unfold read6
 by_cases h1:(pText b k 0 (M-(sum6 xs:Nat))).2.2≠0
 ·simp only [if_pos h1]
 ·simp only [if_neg h1]
  by_cases h2:right5 (pText b k 0 (M-(sum6 xs:Nat))).1=false
  ·simp only [if_pos h2];rfl
  ·simp only [if_neg h2]
   by_cases h3:idx6 (pText b k 0 (M-(sum6 xs:Nat))).1 xs<xs.length
   ·simp only [if_pos h3];rfl
   ·simp only [if_neg h3];rfl
theorem read6_in (b:ByteArray) (k:Nat) (m:Int) (L:List ByteArray) (hk:k≤b.size) (hL:sum6 L+L.length≤k) :
  (read6 b k m L).2.1≤b.size∧((read6 b k m L).1=0→(read6 b k m L).2.2.length=L.length+1)∧sum6 (read6 b k m L).2.2+(read6 b k m L).2.2.length≤(read6 b k m L).2.1:=by
 have h0:=pText_at b k 0 m hk
 have h9:=pText_step b k m hk
 unfold read6
 generalize pText b k 0 m=X at *
 obtain ⟨s,k1,e1⟩:=X
 dsimp only at *
 split
 ·rename_i h;exact ⟨h0.2,fun q=>absurd q h,by dsimp only;omega⟩
 ·rename_i h
  obtain ⟨h1,h2⟩:=h9 (by simpa using h)
  split
  ·exact ⟨h2,fun q=>by simp at q,by dsimp only;omega⟩
  ·split
   ·exact ⟨h2,fun q=>by simp at q,by dsimp only;omega⟩
   ·refine ⟨h2,fun _=>by simp,?_⟩
    dsimp only
    rw [sum6_append]
    simp [sum6] at hL ⊢
    omega
def after6 (b:ByteArray) (G:Int × List ByteArray × Nat):Int × List ByteArray:=if G.1≠0 then (G.1,[]) else if G.2.2<b.size then (8,[]) else (0,G.2.1)
theorem pGet6_is (b:ByteArray) (texts bytes:Int):pGet6 b texts bytes=if (pUint b 0 0 (max texts 0)).2.2≠0 then ((pUint b 0 0 (max texts 0)).2.2,[]) else after6 b (gets6 b (max bytes 0) (pUint b 0 0 (max texts 0)).1.toNat (pUint b 0 0 (max texts 0)).2.1 []):=by
 unfold pGet6 after6
 rfl
def TbGot (w w':World) (e:Ending) (R:Int × List ByteArray):Prop:=
 Below w.heap.size w w'∧((R.1≠0∧e=.returned (.tuple #[.pointer none,.int .i64 R.1]))∨(R.1=0∧∃g gm v,e=.returned (.tuple #[.pointer (some ⟨g,0,none⟩),.int .i64 0])∧Tb w' w.heap.size g gm v R.2))
set_option maxRecDepth 10000 in
set_option maxHeartbeats 1600000 in
theorem tget_any (b:ByteArray) (texts bytes:Int) (w:World) (hs:b.size≤1000000) (ht:texts≤9223372036854775807) (hb:bytes≤9223372036854775807) :
  Calls Tryz.prog 82 #[.string b,.int .i64 texts,.int .i64 bytes] w fun e w'=>TbGot w w' e (pGet6 b texts bytes):=by
 have hmax:b.size≤maxLen:=by unfold maxLen;omega
 have HN:Cu (w.alloc (.cells #[.string b,.int .i64 0,.nilIface] 170)) w.heap.size b (0:Nat) 0:=At3.new _ _ _ _ _
 have B1:Below w.heap.size w (w.alloc (.cells #[.string b,.int .i64 0,.nilIface] 170)):=(Below.refl _ _).alloc (Nat.le_refl _) _
 obtain ⟨T,hT⟩:∃T,T=max texts 0:=⟨_,rfl⟩
 obtain ⟨M,hM⟩:∃M,M=max bytes 0:=⟨_,rfl⟩
 obtain ⟨R,HR⟩:∃R,Hid (pGet6 b texts bytes=R∧R=if (pUint b 0 0 T).2.2≠0 then ((pUint b 0 0 T).2.2,[]) else after6 b (gets6 b M (pUint b 0 0 T).1.toNat (pUint b 0 0 T).2.1 [])):=⟨_,rfl,by rw [hT,hM,pGet6_is]⟩
 rw [HR.out.1]
 have HU:Hid (∀W,Cu W w.heap.size b (0:Nat) 0→Calls Tryz.prog 123 #[.pointer (some ⟨w.heap.size,0,none⟩),.int .u64 T] W fun r w'=>r=.returned (.int .i64 (pUint b 0 0 T).1)∧Cu w' w.heap.size b ((pUint b 0 0 T).2.1:Nat) (pUint b 0 0 T).2.2∧W.grownBy w' (some w.heap.size)):=fun W hW=>uint_any W w.heap.size b 0 0 T hW hmax (Nat.zero_le _)
 obtain ⟨_,hk0⟩:=pUint_at b 0 0 T (Nat.zero_le _)
 obtain ⟨hu0,hu1,hu2⟩:=pUint_val b 0 T
 have hq:=HR.out.2
 clear HR
 generalize pUint b 0 0 T=U at *
 obtain ⟨u,k0,e0⟩:=U
 dsimp only at *
 obtain ⟨N,rfl⟩:=Int.eq_ofNat_of_zero_le hu0
 rw [show ((N:Int)).toNat=N from rfl] at hq
 have hT1:(if texts<0 then 0 else texts)=T:=by split <;> omega
 have hM1:(if bytes<0 then 0 else bytes)=M:=by split <;> omega
 have HQ:Hid (R=if e0≠0 then (e0,[]) else after6 b (gets6 b M N k0 [])):=hq
 have hT0:0≤T∧T≤9223372036854775807:=by omega
 have hM0:0≤M∧M≤9223372036854775807:=by omega
 obtain ⟨hT0,hT2⟩:=hT0
 obtain ⟨hM0,hM2⟩:=hM0
 clear hT hM hq hu2 hu0
 go_enter Tryz.func82,Tryz.ntmps82
 go_wp2_with fail
 refine (cnew_any b w).mono ?_
 rintro e w1 ⟨rfl,rfl⟩
 go_wp2_with fail
 refine (tnew_any _).mono ?_
 rintro e w2 ⟨rfl,T2,b2⟩
 have C2:=HN.belowAll b2
 have B2:=B1.trans (b2.mono B1.size)
 have hne2:¬TbS (w.heap.size+1+1) (w.heap.size+1) (.slice none 0 0) w.heap.size:=by
  rintro (h|h|h)
  ·omega
  ·omega
  ·simp [Value.ownBlock] at h
 simp only [show (w.alloc (.cells #[.string b,.int .i64 0,.nilIface] 170)).heap.size=w.heap.size+1 by simp] at *
 have T2':=T2.mono (C:=w.heap.size) (by omega)
 clear T2 HN B1 b2
 go_wp2_with fail
 refine Calls.mono (HU.out w2 C2) ?_
 rintro e w3 ⟨rfl,C3,g3⟩
 have T3:=tb_gc T2' g3 hne2
 have B3:=below_but B2 g3 (Nat.le_refl _) B2.size
 clear HU C2 T2' g3 B2
 go_wp2_with fail
 go_loopg [] (if e0=0 then N+2 else 0) (fun n wr=>∃(L:List ByteArray) (k:Nat) (e:Int) (v:Value),Tb wr w.heap.size (w.heap.size+1+1) (w.heap.size+1) v L∧Cu wr w.heap.size b k e∧¬TbS (w.heap.size+1+1) (w.heap.size+1) v w.heap.size∧k≤b.size∧sum6 L+L.length≤k∧Below w.heap.size w wr∧Hid (n=if e=0 then N+2-L.length else 0)∧Hid ((e=0→L.length≤N∧R=after6 b (gets6 b M (N-L.length) k L))∧(e≠0→R=(e,[]))))
 case atStart=>
  refine ⟨[],k0,e0,_,T3,C3,hne2,hk0,by simp [sum6],B3,rfl,fun h=>⟨Nat.zero_le _,?_⟩,fun h=>?_⟩
  ·have:=HQ.out
   rw [if_neg (by simpa using h)] at this
   exact this
  ·have:=HQ.out
   rw [if_pos h] at this
   exact this
 case round=>
  clear T3 C3 hne2 hk0 B3 HQ
  obtain ⟨L,k,e,v,hTb,hCu,hne,hk,hLk,hB,Hn,HI⟩:=hrel
  have HL:Hid _:=tlen_any hTb
  have HZ:Hid (¬(L.length<N∧e=0)→(k<b.size→∀e3:Int,e3=(if e=0 then 8 else e)→R=(e3,[]))∧(¬k<b.size→e=0→R=(0,L))∧(e≠0→R=(e,[]))):=by
   intro hno
   obtain ⟨h1,h2⟩:=HI.out
   by_cases he:e=0
   ·obtain ⟨h3,h4⟩:=h1 he
    rw [show N-L.length=0 by omega] at h4
    have h5:R=if k<b.size then (8,[]) else (0,L):=h4
    refine ⟨fun hk e3 h3=>?_,fun hk _=>?_,fun h=>absurd he h⟩
    ·rw [if_pos he] at h3
     rw [h5,if_pos hk,h3]
    ·rw [h5,if_neg hk]
   ·refine ⟨fun hk e3 h3=>?_,fun hk h=>absurd h he,fun _=>h2 he⟩
    rw [if_neg he] at h3
    rw [h2 he,h3]
  by_cases hgo:L.length<N∧e=0
  ·obtain ⟨hlt,rfl⟩:=hgo
   have hlt':(L.length:Int)<N:=by omega
   obtain ⟨h3,h4⟩:=HI.out.1 rfl
   rw [show N-L.length=(N-L.length-1)+1 by omega,gets6_read] at h4
   have hin:=read6_in b k (M-(sum6 L:Nat)) L hk hLk
   have HR:Hid (∀W,Tb W w.heap.size (w.heap.size+1+1) (w.heap.size+1) v L→Cu W w.heap.size b k 0→Calls Tryz.prog 126 #[.pointer (some ⟨w.heap.size+1+1,0,none⟩),.pointer (some ⟨w.heap.size,0,none⟩),.int .i64 (M-(sum6 L:Nat))] W fun r w'=>r=.returned (.tuple #[])∧RdOut W w' w.heap.size (w.heap.size+1+1) (w.heap.size+1) v w.heap.size b (read6 b k (M-(sum6 L:Nat)) L)):=
    fun W h1 h2=>tread_any h1 h2 hne hs hk (by omega) (by omega) (by omega)
   have H4:Hid _:=h4
   have HB:Hid ((sum6 L:Int)≤1000000):=by show _≤_;omega
   have hsz:(sum6 L:Int)≤1000000:=HB.out
   clear h4 HZ HI
   go_wp2_with fail
   refine Calls.mono HL.out ?_
   rintro r w4 ⟨rfl,rfl⟩
   clear HL
   go_wp2_with fail
   refine (err_any w4 w.heap.size b k 0 hCu).mono ?_
   rintro r w5 ⟨rfl,b5⟩
   have T5:=hTb.below b5
   have C5:=hCu.belowAll b5
   have B5:=hB.trans (b5.mono hB.size)
   have c2:=T5.cells.c2
   clear hTb hCu hB b5
   go_wp2_with fail
   refine (HR.out w5 T5 C5).mono ?_
   rintro r w6 ⟨rfl,v',T6,C6,F6,hn6⟩
   have B6:=Fr.below B5 F6 (fun i hi=>by
    rcases hi with hi|hi
    ·exact T5.ge i hi
    ·omega) B5.size
   have hne6:¬TbS (w.heap.size+1+1) (w.heap.size+1) v' w.heap.size:=fun q=>by
    rcases hn6 _ q with q|q
    ·exact hne q
    ·have:=C5.lt;omega
   clear HR T5 C5 B5 F6 hn6 c2 hne
   generalize read6 b k (M-(sum6 L:Nat)) L=X at *
   obtain ⟨e',k',L'⟩:=X
   dsimp only at *
   obtain ⟨hk',hl',hs'⟩:=hin
   go_wp2_with fail
   go_roundg (if e'=0 then N+2-L'.length else 0)
   case rel=>
    refine ⟨L',k',e',v',T6,C6,hne6,hk',hs',B6,rfl,fun h=>?_,fun h=>?_⟩
    ·have:=hl' h
     have h5:=H4.out
     rw [if_neg (by simpa using h)] at h5
     refine ⟨by omega,?_⟩
     rw [h5,show N-L.length-1=N-L'.length by omega]
    ·have h5:=H4.out
     rw [if_pos h] at h5
     rw [h5]
     unfold after6
     rw [if_pos h]
   case measure=>
    rw [Hn.out]
    simp only [if_true]
    split
    ·rename_i h
     have:=hl' h
     omega
    ·omega
  ·have HZ2:=HZ.out hgo
   clear HZ HI Hn
   have HZ:Hid _:=HZ2
   clear HZ2
   by_cases hlt:L.length<N
   ·have he:e≠0:=fun h=>hgo ⟨hlt,h⟩
    have he':(e==0)=false:=by simpa using he
    have hlt':(L.length:Int)<N:=by omega
    clear he hgo
    go_wp2_with fail
    refine Calls.mono HL.out ?_
    rintro r w4 ⟨rfl,rfl⟩
    clear HL
    go_wp2_with fail
    refine (err_any w4 w.heap.size b k e hCu).mono ?_
    rintro r w5 ⟨rfl,b5⟩
    have T5:=hTb.below b5
    have C5:=hCu.belowAll b5
    have B5:=hB.trans (b5.mono hB.size)
    clear hTb hCu hB b5
    go_wp2_with fail
    clear he' hlt'
    refine (left_any w5 w.heap.size b k e C5 hmax (by omega) (by omega)).mono ?_
    rintro r w6 ⟨rfl,n6,rfl⟩
    have C6:Cu (w5.drewN n6) w.heap.size b k e:=C5
    have T6:=T5.drewN n6
    have B6:=bdrewN B5 n6
    generalize w5.drewN n6=w6 at *
    clear C5 T5 B5
    by_cases hkb:k<b.size
    ·have hkb':(0:Int)<(b.size:Int)-k:=by omega
     obtain ⟨e3,he3⟩:∃e3:Int,e3=if e=0 then 8 else e:=⟨_,rfl⟩
     have hn3:e3≠0:=by rw [he3];split <;> simp_all
     have hn3':(e3 != 0)=true:=by simpa using hn3
     have HQ2:Hid (R=(e3,[])):=HZ.out.1 hkb e3 he3
     go_wp2_with fail
     refine (fail_any w6 w.heap.size b k e 8 C6).mono ?_
     rintro r w7 ⟨rfl,C7,g7⟩
     rw [← he3] at C7
     have B7:=below_but B6 g7 (Nat.le_refl _) B6.size
     clear he3
     go_wp2_with fail
     refine (err_any w7 w.heap.size b k e3 C7).mono ?_
     rintro r w8 ⟨rfl,b8⟩
     have B8:=B7.trans (b8.mono B7.size)
     go_wp2_with fail
     go_ret2
     rw [HQ2.out]
     exact ⟨B8,.inl ⟨hn3,rfl⟩⟩
    ·have hkb':¬(0:Int)<(b.size:Int)-k:=by omega
     by_cases he:e=0
     ·subst he
      have HQ2:Hid (R=(0,L)):=HZ.out.2.1 hkb rfl
      go_wp2_with fail
      refine (err_any w6 w.heap.size b k 0 C6).mono ?_
      rintro r w8 ⟨rfl,b8⟩
      have B8:=B6.trans (b8.mono B6.size)
      go_wp2_with fail
      go_ret2
      rw [HQ2.out]
      exact ⟨B8,.inr ⟨rfl,_,_,v,rfl,T6.below b8⟩⟩
     ·have HQ2:Hid (R=(e,[])):=HZ.out.2.2 he
      have he':(e != 0)=true:=by simpa using he
      go_wp2_with fail
      refine (err_any w6 w.heap.size b k e C6).mono ?_
      rintro r w8 ⟨rfl,b8⟩
      have B8:=B6.trans (b8.mono B6.size)
      go_wp2_with fail
      go_ret2
      rw [HQ2.out]
      exact ⟨B8,.inl ⟨he,rfl⟩⟩
   ·have hlt':¬(L.length:Int)<N:=by omega
    clear hgo
    go_wp2_with fail
    refine Calls.mono HL.out ?_
    rintro r w5 ⟨rfl,rfl⟩
    clear HL
    have T5:=hTb
    have C5:=hCu
    have B5:=hB
    clear hTb hCu hB
    go_wp2_with fail
    clear hlt'
    refine (left_any w5 w.heap.size b k e C5 hmax (by omega) (by omega)).mono ?_
    rintro r w6 ⟨rfl,n6,rfl⟩
    have C6:Cu (w5.drewN n6) w.heap.size b k e:=C5
    have T6:=T5.drewN n6
    have B6:=bdrewN B5 n6
    generalize w5.drewN n6=w6 at *
    clear C5 T5 B5
    by_cases hkb:k<b.size
    ·have hkb':(0:Int)<(b.size:Int)-k:=by omega
     obtain ⟨e3,he3⟩:∃e3:Int,e3=if e=0 then 8 else e:=⟨_,rfl⟩
     have hn3:e3≠0:=by rw [he3];split <;> simp_all
     have hn3':(e3 != 0)=true:=by simpa using hn3
     have HQ2:Hid (R=(e3,[])):=HZ.out.1 hkb e3 he3
     go_wp2_with fail
     refine (fail_any w6 w.heap.size b k e 8 C6).mono ?_
     rintro r w7 ⟨rfl,C7,g7⟩
     rw [← he3] at C7
     have B7:=below_but B6 g7 (Nat.le_refl _) B6.size
     clear he3
     go_wp2_with fail
     refine (err_any w7 w.heap.size b k e3 C7).mono ?_
     rintro r w8 ⟨rfl,b8⟩
     have B8:=B7.trans (b8.mono B7.size)
     go_wp2_with fail
     go_ret2
     rw [HQ2.out]
     exact ⟨B8,.inl ⟨hn3,rfl⟩⟩
    ·have hkb':¬(0:Int)<(b.size:Int)-k:=by omega
     by_cases he:e=0
     ·subst he
      have HQ2:Hid (R=(0,L)):=HZ.out.2.1 hkb rfl
      go_wp2_with fail
      refine (err_any w6 w.heap.size b k 0 C6).mono ?_
      rintro r w8 ⟨rfl,b8⟩
      have B8:=B6.trans (b8.mono B6.size)
      go_wp2_with fail
      go_ret2
      rw [HQ2.out]
      exact ⟨B8,.inr ⟨rfl,_,_,v,rfl,T6.below b8⟩⟩
     ·have HQ2:Hid (R=(e,[])):=HZ.out.2.2 he
      have he':(e != 0)=true:=by simpa using he
      go_wp2_with fail
      refine (err_any w6 w.heap.size b k e C6).mono ?_
      rintro r w8 ⟨rfl,b8⟩
      have B8:=B6.trans (b8.mono B6.size)
      go_wp2_with fail
      go_ret2
      rw [HQ2.out]
      exact ⟨B8,.inl ⟨he,rfl⟩⟩
end Go.Proofs.YtcgjgjjegnofeaaGreatDoor
namespace Go.Proofs.YtcgjgjjegnofeaaGreatDoor
open Go.RowKit
theorem gets6_in (b:ByteArray) (M:Int) (n:Nat):∀(k:Nat) (xs:List ByteArray),k≤b.size→sum6 xs+xs.length≤k→(gets6 b M n k xs).1=0→sum6 (gets6 b M n k xs).2.1+(gets6 b M n k xs).2.1.length≤b.size:=by
 induction n with
 | zero=>
  intro k xs hk hx _
  show sum6 xs+xs.length≤b.size
  omega
 | succ n ih=>
  intro k xs hk hx h
  rw [gets6_read] at h ⊢
  obtain ⟨h1,_,h3⟩:=read6_in b k (M-(sum6 xs:Nat)) xs hk hx
  by_cases he:(read6 b k (M-(sum6 xs:Nat)) xs).1≠0
  ·rw [if_pos he] at h
   exact absurd h he
  ·rw [if_neg he] at h ⊢
   exact ih _ _ h1 h3 h
theorem read6_snoc (b:ByteArray) (k:Nat) (m:Int) (L:List ByteArray) (h:(read6 b k m L).1=0) :
  (pText b k 0 m).2.2=0∧right5 (pText b k 0 m).1=true∧¬idx6 (pText b k 0 m).1 L<L.length∧read6 b k m L=(0,(pText b k 0 m).2.1,L++[(pText b k 0 m).1]):=by
 unfold read6 at h ⊢
 by_cases h1:(pText b k 0 m).2.2≠0
 ·rw [if_pos h1] at h
  exact absurd h h1
 rw [if_neg h1] at h ⊢
 by_cases h2:right5 (pText b k 0 m).1=false
 ·rw [if_pos h2] at h
  simp at h
 rw [if_neg h2] at h ⊢
 by_cases h3:idx6 (pText b k 0 m).1 L<L.length
 ·rw [if_pos h3] at h
  simp at h
 rw [if_neg h3]
 exact ⟨by simpa using h1,by simpa using h2,h3,rfl⟩
theorem drop_take_ext (b:ByteArray) (i n:Nat):(b.extract i (i+n)).data.toList=(b.data.toList.drop i).take n:=by
 rw [Lib.extract_data,show i+n-i=n by omega]
theorem pText_bytes (b:ByteArray) (k:Nat) (m:Int) (hk:k≤b.size) (h:(pText b k 0 m).2.2=0) :
  b.data.toList.drop k=(put (pText b k 0 m).1.size++(pText b k 0 m).1.data.toList)++b.data.toList.drop (pText b k 0 m).2.1∧(pText b k 0 m).2.1≤b.size:=by
 unfold pText at h ⊢
 rw [if_neg (by simp)] at h ⊢
 by_cases h1:(num b k).2.2≠0
 ·rw [if_pos h1] at h
  simp at h
  omega
 rw [if_neg h1] at h ⊢
 have h1':(num b k).2.2=0:=by simpa using h1
 obtain ⟨n1,n2,n3⟩:=num_ok b k h1' hk
 obtain ⟨_,_,_,_,q5⟩:=put_dec (b.data.toList.drop k) (num b k).1 (num b k).2.1 (show num b k=_ from Prod.ext rfl (Prod.ext rfl h1'))
 by_cases h2:max m 0<(num b k).1∨16777216<(num b k).1
 ·rw [if_pos h2] at h
  simp at h
 rw [if_neg h2] at h ⊢
 by_cases h3:(b.size:Int)-(k+(num b k).2.1:Nat)<(num b k).1
 ·rw [if_pos h3] at h
  simp at h
 rw [if_neg h3]
 dsimp only
 generalize num b k=d at *
 obtain ⟨n,j,er⟩:=d
 dsimp only at *
 have hsz:(b.extract (k+j) (k+j+n)).size=n:=by rw [ByteArray.size_extract];omega
 refine ⟨?_,by omega⟩
 rw [hsz,drop_take_ext,q5,List.append_assoc,← List.drop_drop (i:=n) (j:=k+j),List.take_append_drop,← List.drop_drop (i:=j) (j:=k),List.take_append_drop]
theorem gets6_bytes (b:ByteArray) (M:Int) (n:Nat):∀(k:Nat) (xs:List ByteArray),k≤b.size→xs.Nodup→(gets6 b M n k xs).1=0→
  ∃zs,(gets6 b M n k xs).2.1=xs++zs∧zs.length=n∧(xs++zs).Nodup∧b.data.toList.drop k=body6 zs++b.data.toList.drop (gets6 b M n k xs).2.2:=by
 induction n with
 | zero=>
  intro k xs hk hx _
  exact ⟨[],by simp [gets6],rfl,by simpa using hx,by simp [body6,gets6]⟩
 | succ n ih=>
  intro k xs hk hx h
  rw [gets6_read] at h ⊢
  by_cases he:(read6 b k (M-(sum6 xs:Nat)) xs).1≠0
  ·rw [if_pos he] at h
   exact absurd h he
  ·rw [if_neg he] at h ⊢
   obtain ⟨r1,r2,r3,r4⟩:=read6_snoc b k _ xs (by simpa using he)
   obtain ⟨t1,t2⟩:=pText_bytes b k _ hk r1
   rw [r4] at h ⊢
   dsimp only at h ⊢
   have hnm:(pText b k 0 (M-(sum6 xs:Nat))).1 ∉ xs:=fun q=>r3 ((idx6_mem _ _).2 q)
   generalize pText b k 0 (M-(sum6 xs:Nat))=X at *
   obtain ⟨s,k1,e1⟩:=X
   dsimp only at *
   have hnd:(xs++[s]).Nodup:=by
    rw [List.nodup_append]
    refine ⟨hx,by simp,?_⟩
    intro a ha c hc
    simp at hc
    subst hc
    exact fun q=>hnm (q ▸ ha)
   obtain ⟨zs,z1,z2,z3,z4⟩:=ih k1 (xs++[s]) t2 hnd h
   refine ⟨s :: zs,by rw [z1];simp,by simp [z2],by simpa using z3,?_⟩
   rw [t1,z4]
   simp [body6]
theorem pUint_bytes (b:ByteArray) (m:Int) (h:(pUint b 0 0 m).2.2=0):∃n:Nat,(pUint b 0 0 m).1=n∧b.data.toList=put n++b.data.toList.drop (pUint b 0 0 m).2.1∧(pUint b 0 0 m).2.1≤b.size:=by
 unfold pUint at h ⊢
 rw [if_neg (by simp)] at h ⊢
 by_cases h1:(num b 0).2.2≠0
 ·rw [if_pos h1] at h
  simp at h
  omega
 rw [if_neg h1] at h ⊢
 have h1':(num b 0).2.2=0:=by simpa using h1
 obtain ⟨n1,n2,n3⟩:=num_ok b 0 h1' (Nat.zero_le _)
 obtain ⟨_,_,_,_,q5⟩:=put_dec (b.data.toList.drop 0) (num b 0).1 (num b 0).2.1 (show num b 0=_ from Prod.ext rfl (Prod.ext rfl h1'))
 by_cases h2:m<(num b 0).1∨16777216<(num b 0).1
 ·rw [if_pos h2] at h
  simp at h
 rw [if_neg h2]
 refine ⟨(num b 0).1,rfl,?_,by dsimp only;omega⟩
 dsimp only
 rw [q5,List.drop_zero,Nat.zero_add,List.take_append_drop]
theorem pGet6_ok (b:ByteArray) (texts bytes:Int) (h:(pGet6 b texts bytes).1=0):pPut6 (pGet6 b texts bytes).2=b.data.toList∧(pGet6 b texts bytes).2.Nodup∧sum6 (pGet6 b texts bytes).2+(pGet6 b texts bytes).2.length≤b.size:=by
 rw [pGet6_is] at h ⊢
 by_cases h1:(pUint b 0 0 (max texts 0)).2.2≠0
 ·rw [if_pos h1] at h
  exact absurd h h1
 rw [if_neg h1] at h ⊢
 obtain ⟨n,u1,u2,u3⟩:=pUint_bytes b (max texts 0) (by simpa using h1)
 rw [u1] at h ⊢
 generalize (pUint b 0 0 (max texts 0)).2.1=k at *
 rw [show ((n:Int)).toNat=n from rfl] at h ⊢
 have hin:=gets6_in b (max bytes 0) n k [] u3 (by simp [sum6])
 have hby:=gets6_bytes b (max bytes 0) n k [] u3 (by simp)
 generalize gets6 b (max bytes 0) n k []=G at *
 obtain ⟨e,L,kk⟩:=G
 unfold after6 at h ⊢
 dsimp only at *
 by_cases h2:e≠0
 ·rw [if_pos h2] at h
  exact absurd h h2
 rw [if_neg h2] at h ⊢
 by_cases h3:kk<b.size
 ·rw [if_pos h3] at h
  simp at h
 rw [if_neg h3]
 dsimp only
 have he:e=0:=by simpa using h2
 obtain ⟨zs,z1,z2,z3,z4⟩:=hby he
 rw [List.nil_append] at z1 z3
 subst z1
 refine ⟨?_,z3,hin he⟩
 rw [List.drop_of_length_le (i:=kk) (by rw [list_size];omega),List.append_nil] at z4
 unfold pPut6
 rw [z2,← z4,← u2]
theorem pText_put (b:ByteArray) (k:Nat) (m:Int) (s:ByteArray) (r:List UInt8) (h:b.data.toList.drop k=(put s.size++s.data.toList)++r) (hs:s.size≤16777216) (hk:k≤b.size) :
  (max m 0<s.size→(pText b k 0 m).2.2=19)∧(¬max m 0<s.size→pText b k 0 m=(s,k+(put s.size).length+s.size,0)):=by
 have hn:num b k=(s.size,(put s.size).length,0):=by
  unfold num
  rw [h,List.append_assoc]
  exact dec_put s.size (by omega) _
 have hlen:b.size-k=(put s.size).length+s.size+r.length:=by
  have h1:(b.data.toList.drop k).length=b.size-k:=by rw [List.length_drop,list_size]
  rw [← h1,h,List.length_append,List.length_append,list_size]
 unfold pText
 rw [if_neg (by simp),hn]
 dsimp only
 rw [if_neg (by simp)]
 constructor
 ·intro q
  rw [if_pos (.inl q)]
 ·intro q
  rw [if_neg (by rintro (q'|q');exact q q';omega),if_neg (by omega)]
  have he:b.extract (k+(put s.size).length) (k+(put s.size).length+s.size)=s:=by
   have h2:=drop_take_ext b (k+(put s.size).length) s.size
   rw [← List.drop_drop,h,List.append_assoc,List.drop_left,List.take_left' (list_size s)] at h2
   generalize b.extract (k+(put s.size).length) (k+(put s.size).length+s.size)=y at *
   cases y;cases s
   simp at h2
   rw [h2]
  rw [he]
theorem gets6_put (b:ByteArray) (M:Int) (zs:List ByteArray):∀(k:Nat) (xs:List ByteArray) (r:List UInt8),k≤b.size→b.data.toList.drop k=body6 zs++r→(xs++zs).Nodup→(∀s ∈ zs,right5 s=true∧s.size≤16777216)→(sum6 xs:Int)≤M→
  (((sum6 (xs++zs):Nat):Int)≤M→gets6 b M zs.length k xs=(0,xs++zs,k+(body6 zs).length))∧(M<((sum6 (xs++zs):Nat):Int)→(gets6 b M zs.length k xs).1=19):=by
 induction zs with
 | nil=>
  intro k xs r hk hb hn hr hM
  constructor
  ·intro _
   simp [gets6,body6]
  ·intro h
   rw [List.append_nil] at h
   omega
 | cons s zs ih=>
  intro k xs r hk hb hn hr hM
  obtain ⟨hr1,hr2⟩:=hr s (by simp)
  have hb':b.data.toList.drop k=(put s.size++s.data.toList)++(body6 zs++r):=by rw [hb];simp [body6]
  obtain ⟨p1,p2⟩:=pText_put b k (M-(sum6 xs:Nat)) s _ hb' hr2 hk
  have hlen:b.size-k=(put s.size).length+s.size+(body6 zs++r).length:=by
   have h1:(b.data.toList.drop k).length=b.size-k:=by rw [List.length_drop,list_size]
   rw [← h1,hb',List.length_append,List.length_append,list_size]
  have hsum:sum6 (xs++[s])=sum6 xs+s.size:=by rw [sum6_append];simp [sum6]
  have hall:sum6 (xs++s :: zs)=sum6 xs+s.size+sum6 zs:=by rw [sum6_append];simp [sum6];omega
  rw [List.length_cons,gets6_step b M zs.length k xs _ rfl]
  by_cases hg:max (M-(sum6 xs:Nat)) 0<(s.size:Int)
  ·have h19:=p1 hg
   rw [if_pos (by omega),h19]
   exact ⟨fun h=>by omega,fun _=>rfl⟩
  ·have hp:=p2 hg
   rw [hp]
   dsimp only
   rw [if_neg (by simp),if_neg (by rw [hr1];simp)]
   have hnm:¬idx6 s xs<xs.length:=by
    rw [idx6_mem]
    rw [List.nodup_append] at hn
    intro q
    exact hn.2.2 s q s (by simp) rfl
   rw [if_neg hnm]
   have hd:b.data.toList.drop (k+(put s.size).length+s.size)=body6 zs++r:=by
    rw [Nat.add_assoc,← List.drop_drop,hb']
    exact List.drop_left' (by rw [List.length_append,list_size])
   have hih:=ih (k+(put s.size).length+s.size) (xs++[s]) r (by omega) hd (by simpa using hn) (fun t ht=>hr t (by simp [ht])) (by rw [hsum];omega)
   rw [show (xs++[s])++zs=xs++s :: zs by simp] at hih
   refine ⟨fun h=>?_,fun h=>hih.2 h⟩
   rw [hih.1 h]
   have:(body6 (s :: zs)).length=(put s.size).length+s.size+(body6 zs).length:=by simp only [body6,List.flatMap_cons,List.length_append,list_size]
   rw [this]
   simp only [Nat.add_assoc]
theorem pUint_put (b:ByteArray) (m:Int) (n:Nat) (r:List UInt8) (h:b.data.toList=put n++r) (hn:n≤16777216) :
  (m<n→(pUint b 0 0 m).2.2=19)∧(¬m<n→pUint b 0 0 m=((n:Int),(put n).length,0)):=by
 have hnum:num b 0=(n,(put n).length,0):=by
  unfold num
  rw [List.drop_zero,h]
  exact dec_put n (by omega) _
 unfold pUint
 rw [if_neg (by simp),hnum]
 dsimp only
 rw [if_neg (by simp)]
 constructor
 ·intro q
  rw [if_pos (.inl q)]
 ·intro q
  rw [if_neg (by rintro (q'|q');exact q q';omega),Nat.zero_add]
theorem pIntern_nodup (L:List ByteArray) (s:ByteArray) (h:L.Nodup):(pIntern L s).Nodup:=by
 unfold pIntern
 split
 ·exact h
 ·rename_i q
  rw [idx6_mem] at q
  rw [List.nodup_append]
  refine ⟨h,by simp,?_⟩
  intro a ha c hc
  simp at hc
  subst hc
  exact fun e=>q (e ▸ ha)
end Go.Proofs.YtcgjgjjegnofeaaGreatDoor
namespace Go.Proofs.YtcgjgjjegnofeaaGreatDoor
open Go.RowKit
theorem gets6_right (b:ByteArray) (M:Int) (n:Nat):∀(k:Nat) (xs:List ByteArray),(∀s ∈ xs,right5 s=true)→(gets6 b M n k xs).1=0→∀s ∈ (gets6 b M n k xs).2.1,right5 s=true:=by
 induction n with
 | zero=>intro k xs hx _ s hs;exact hx s hs
 | succ n ih=>
  intro k xs hx h
  obtain ⟨t,ht⟩:∃t,t=pText b k 0 (M-(sum6 xs:Nat)):=⟨_,rfl⟩
  rw [gets6_step b M n k xs t ht] at h ⊢
  split at h
  ·rename_i h1;exact absurd h h1
  ·rename_i h1
   rw [if_neg h1]
   split at h
   ·cases h
   ·rename_i h2
    rw [if_neg h2]
    split at h
    ·cases h
    ·rename_i h3
     rw [if_neg h3]
     refine ih _ _ (fun s hs=>?_) h
     rcases List.mem_append.1 hs with hs|hs
     ·exact hx s hs
     ·obtain rfl:=List.mem_singleton.1 hs
      simpa using h2
theorem ok8_right {s:ByteArray} (h:right5 s=true):ok8 s=true:=by
 unfold ok8
 rw [(pFirst_right s).1 h]
 decide
theorem pGet6_ok8 (b:ByteArray) (texts bytes:Int) (h:(pGet6 b texts bytes).1=0):∀s ∈ (pGet6 b texts bytes).2,ok8 s=true:=by
 rw [pGet6_is] at h ⊢
 by_cases h1:(pUint b 0 0 (max texts 0)).2.2≠0
 ·rw [if_pos h1] at h
  exact absurd h h1
 rw [if_neg h1] at h ⊢
 unfold after6 at h ⊢
 split at h
 ·rename_i h2;exact absurd h h2
 ·rename_i h2
  rw [if_neg h2]
  split at h
  ·cases h
  ·rename_i h3
   rw [if_neg h3]
   exact fun s hs=>ok8_right (gets6_right b _ _ _ [] (fun s q=>by simp at q) (by simpa using h2) s hs)
theorem sum6_at {L:List ByteArray} {s:ByteArray} (h:s ∈ L):s.size≤sum6 L:=by
 induction L with
 | nil=>simp at h
 | cons x r ih=>
  have h0:sum6 (x :: r)=x.size+sum6 r:=by simp [sum6]
  rw [h0]
  rcases List.mem_cons.1 h with rfl|h
  ·omega
  ·have:=ih h;omega
theorem newSp_some (k:Int) (h:(newSp k).ok=true):1≤(newSp k).ints.length+(newSp k).texts.toNat∧(newSp k).ints.length≤3+1∧(newSp k).texts.toNat≤2:=by
 by_cases hk:k<1∨9≤k
 ·rw [newSp_no k hk] at h;cases h
 ·obtain rfl|rfl|rfl|rfl|rfl|rfl|rfl|rfl:k=1∨k=2∨k=3∨k=4∨k=5∨k=6∨k=7∨k=8:=by omega
  all_goals decide
theorem rE_some {N:Nd} {p:Int} (h:rE N p=0):1≤N.ints.length+N.texts.length∧N.ints.length≤4∧N.texts.length≤2:=by
 have h1:tyN N=0:=by
  unfold rE at h
  split at h
  ·assumption
  ·exact h
 unfold tyN at h1
 split at h1
 ·cases h1
 ·rename_i hok
  have hs:=newSp_some N.kind (by simpa using hok)
  unfold chkN at h1
  split at h1
  ·cases h1
  ·split at h1
   ·cases h1
   ·rename_i h2 h3
    have h2:fitI (newSp N.kind).ints N.ints=true:=by simpa using h2
    have h3:fitT N.texts (newSp N.kind).texts=true:=by simpa using h3
    unfold fitI at h2
    unfold fitT at h3
    rw [Bool.and_eq_true,decide_eq_true_eq] at h2 h3
    omega
theorem flat_one {α : Type} (f : α→List UInt8) (hf:∀x,0<(f x).length) (l:List α):l.length≤(l.flatMap f).length:=by
 induction l with
 | nil=>simp
 | cons x r ih=>
  rw [List.flatMap_cons,List.length_append,List.length_cons]
  have:=hf x
  omega
theorem rB_three {N:Nd} {p:Int} (L:List ByteArray) (h:rE N p=0):3≤(rB N p L).length∧N.kids.length≤(rB N p L).length:=by
 have h0:=rE_some h
 have h1:=put_length N.kind.toNat
 have h2:=put_length N.kids.length
 have h3:N.ints.length≤(rI N.ints).length:=flat_one _ (fun z=>(put_length _).1) _
 have h4:N.texts.length≤(rT (itF L N.texts) N.texts).length:=flat_one _ (fun z=>(put_length _).1) _
 have h5:N.kids.length≤(rK p N.kids).length:=flat_one _ (fun z=>(put_length _).1) _
 unfold rB
 simp only [List.length_append]
 omega
theorem gNd_three {b:ByteArray} {N:Nd} {p edges:Int} {L:List ByteArray} {k k':Nat} (h:gNd b p L edges k 0=(N,k',0)) (hp:p≤9223372036854775807) (hn:L.Nodup) (hr:∀s ∈ L,ok8 s=true) :
  k+3≤k'∧N.kids.length≤b.size∧(∀M:Nat,M≤3000→b.size≤M→sum6 L≤M→big N=false)∧fine N.ints:=by
 obtain ⟨a1,a2,_,a4,a5,_⟩:=gNd_bytes h hp hn hr
 have h1:=congrArg List.length a1
 rw [List.length_append,List.length_drop,List.length_drop,Array.length_toList] at h1
 have h2:b.data.size=b.size:=rfl
 have h3:=rB_three L a2
 have h4:=rE_some a2
 refine ⟨by omega,by omega,fun M q0 q1 q2=>?_,a4⟩
 cases hb:big N with
 | false=>rfl
 | true=>
  exfalso
  simp only [big,Bool.or_eq_true,decide_eq_true_eq,List.any_eq_true] at hb
  rcases hb with hb|hb|hb|⟨s,hs,hb⟩
  ·omega
  ·omega
  ·omega
  ·have:=sum6_at (a5 s hs);omega
theorem gNd_le (b:ByteArray) (p:Int) (L:List ByteArray) (edges:Int) (k:Nat) (e:Int) (hk:k≤b.size):(gNd b p L edges k e).2.1≤b.size:=by
 have h1:=pUint_at b k e 16777216 hk
 unfold gNd
 dsimp only
 generalize pUint b k e 16777216=Q at *
 have h2:(gRest b p L edges (newSp Q.1) Q.2.1 (if (newSp Q.1).ok=true then Q.2.2 else fl Q.2.2 9)).2.1≤b.size:=by
  unfold gRest
  dsimp only
  exact (gKs_at b p _ _ _ (pUint_at b _ _ _ (gTs_at b L _ _ _ (gIs_at b _ _ _ h1.2).2).2).2).2
 generalize gRest b p L edges (newSp Q.1) Q.2.1 (if (newSp Q.1).ok=true then Q.2.2 else fl Q.2.2 9)=R at h2 ⊢
 by_cases hz:R.2.2=0
 ·rw [if_pos hz];exact h2
 ·rw [if_neg hz];exact h2
end Go.Proofs.YtcgjgjjegnofeaaGreatDoor
