import Derived.ProofKit
import Derived.OpenShut
import Derived.Below
import Derived.Deep.Strs
import Derived.Lib.SmallJoins
import Derived.Test.YtgoffkfpdigeeaaGreatDoorL25
import Derived.Test.YtgoffkfpdigeeaaGreatDoorL02
namespace Go.Proofs.YtgoffkfpdigeeaaGreatDoor
open Go.RowKit Go.Maps Go.WideMaps Go.Sort
theorem idx_first {L:List Nat} {m i:Nat} (hi:i<L.length) (he:L.getD i 0=m) (hb:∀j,j<i→L.getD j 0≠m):m ∈ L∧L.idxOf m=i:=by
 induction L generalizing i with
 | nil=>simp at hi
 | cons y r ih=>
  cases i with
  | zero=>
   have:y=m:=by simpa using he
   subst this
   simp
  | succ i=>
   have hy:y≠m:=by simpa using hb 0 (by omega)
   obtain ⟨h1,h2⟩:=ih (i:=i) (by simpa using hi) (by simpa using he) (fun j hj=>by simpa using hb (j+1) (by omega))
   refine ⟨by simp [h1],?_⟩
   rw [List.idxOf_cons,beq_eq_false_iff_ne.2 hy,h2]
   rfl
set_option maxRecDepth 10000 in
set_option maxHeartbeats 400000 in
theorem find_any (L:List Nat) (a:Option Addr) (c m:Nat) (w:World) (h:LsAt w a (nV L)) (hl:L.length≤3000) :
  Calls Tryz.prog 92 #[.slice a L.length c,.int .i64 (m:Int)] w fun e w'=>e=.returned (.int .i64 (plZ L m))∧w'=w:=by
 have HS:Hid (LsAt w a (nV L)):=h
 clear h
 go_enter Tryz.func92,Tryz.ntmps92
 go_wp2_with fail
 go_loopw [5] (fun iv wr=>∃i:Nat,iv=.int .i64 i∧i≤L.length∧wr=w∧Hid (∀j,j<i→L.getD j 0≠m)) (fun iv _=>L.length-(intOf iv).toNat)
 case atStart=>exact ⟨0,rfl,by omega,rfl,fun j hj=>by omega⟩
 case round=>
  obtain ⟨i,rfl,hi,rfl,HI⟩:=hrel
  by_cases hlt:i<L.length
  ·have hlt':(i:Int)<L.length:=by omega
   obtain ⟨b,o,rfl,hb,d0⟩:=LsAt.at HS.out (nV_at L i hlt)
   by_cases he:L.getD i 0=m
   ·have HV:Hid (plZ L m=(i:Int)):=by
     obtain ⟨h1,h2⟩:=idx_first hlt he HI.out
     show plZ L m=(i:Int)
     rw [plZ_in h1,h2]
    rw [he] at d0
    clear he HI
    go_wp2_with fail
    go_ret
    exact ⟨by rw [HV.out];rfl,rfl⟩
   ·have he':¬((L.getD i 0:Nat):Int)=(m:Int):=by omega
    have HI2:Hid (∀j,j<i+1→L.getD j 0≠m):=fun j hj=>by
     by_cases e:j=i
     ·rw [e];exact he
     ·exact HI.out j (by omega)
    clear he HI
    generalize L.getD i 0=q at *
    go_wp2_with fail
    go_roundw
    case rel=>exact ⟨i+1,by go_num,by omega,by trivial,HI2⟩
    case measure=>simp [intOf];omega
  ·have hlt':¬(i:Int)<L.length:=by omega
   have HV:Hid (plZ L m = -1):=by
    refine plZ_out fun q=>?_
    obtain ⟨j,hj,e⟩:=List.getElem_of_mem q
    exact HI.out j (by omega) (by rw [List.getD_eq_getElem?_getD,List.getElem?_eq_getElem hj];exact e)
   clear HI
   go_wp2_with fail
   go_ret
   exact ⟨by rw [HV.out];rfl,rfl⟩
def MeetOut (X:List Nx) (M:List Nat) (x:Nat) (w w':World) (e:Ending):Prop:=∃a c,e=.returned (.slice a (meetO (kX X) M x).length c)∧LsAt w' a (nV (meetO (kX X) M x))∧Below w.heap.size w w'
def mtF (X:List Nx) (b o c:Nat) (r:Int) (g x k kd b3 o3:Nat) (N:Nx) (am:Option Addr) (cm:Nat) (M:List Nat):Nat→Value→World→Prop
 | 0,v,_=>v=.agg #[.slice (some ⟨b,o,none⟩) X.length c,.int .i64 r]
 | 1,v,_=>v=.pointer (some ⟨g,0,none⟩)
 | 2,v,_=>v=.slice (some ⟨b,o,none⟩) X.length c
 | 3,v,_=>v=.int .i64 (x:Int)
 | 4,v,_=>v=.pointer (some ⟨b,o+x*4,none⟩)
 | 5,v,_=>v=.pointer (some ⟨b,o+x*4+3,none⟩)
 | 6,v,_=>v=.slice (some ⟨b3,o3,none⟩) N.nd.kids.length N.c3
 | 7,v,_=>v=.int .i64 (k:Int)
 | 8,v,_=>v=.pointer (some ⟨b3,o3+k,none⟩)
 | 9,v,_=>v=.int .i64 (kd:Int)
 | 10,v,_=>v=.slice am M.length cm
 | 11,v,W|12,v,W=>∃a' c',v=.slice a' (meetO (kX X) M kd).length c'∧LsAt W a' (nV (meetO (kX X) M kd))
 | _,_,_=>True
theorem mtF_below {X:List Nx} {b o c:Nat} {r:Int} {g x k kd b3 o3:Nat} {N:Nx} {am:Option Addr} {cm:Nat} {M:List Nat} {W W':World} (hb:Below W.heap.size W W'):∀j u,11≠j→mtF X b o c r g x k kd b3 o3 N am cm M j u W→mtF X b o c r g x k kd b3 o3 N am cm M j u W':=by
 intro j u hj h
 match j,h with
 | 0,h|1,h|2,h|3,h|4,h|5,h|6,h|7,h|8,h|9,h|10,h=>exact h
 | 11,_=>exact absurd rfl hj
 | 12,h=>
  obtain ⟨a',c',h1,h2⟩:=h
  exact ⟨a',c',h1,h2.belowB hb⟩
 | q+13,_=>trivial
theorem getD_toNat10 (l:List Int) (k:Nat) (h:k<l.length):(l.map Int.toNat).getD k 0=(l.getD k 0).toNat:=by simp [h]
theorem Good.len {K:List (List Nat)} {M:List Nat} (h:Good K M):M.length≤K.length:=nodup_le _ _ h.nd h.lt
theorem take_fold {K:List (List Nat)} {M:List Nat} {l:List Nat} {k:Nat} (hk:k<l.length):(l.take (k+1)).foldl (meetO K) M=meetO K ((l.take k).foldl (meetO K) M) (l.getD k 0):=by
 rw [take_at hk,List.foldl_append]
 rfl
set_option maxRecDepth 10000 in
set_option maxHeartbeats 2000000 in
theorem meet_any (X:List Nx) (a:Option Addr) (c:Nat) (r:Int) (hX:Small X) (hok:∀i,i<X.length→okAt X i) (hD:Dag (kX X)) (rk:Nat→Nat) (hR:Rank (kX X) rk) :
  ∀(m x:Nat) (M:List Nat) (am:Option Addr) (cm:Nat) (w:World),rk x≤m→x<X.length→Good (kX X) M→ScAt w a X→LsAt w am (nV M)→
  Calls Tryz.prog 128 #[.agg #[.slice a X.length c,.int .i64 r],.int .i64 (x:Int),.slice am M.length cm] w fun e w'=>MeetOut X M x w w' e:=by
 intro m
 induction m with
 | zero=>
  intro x M am cm w hm hx
  have:=(hR.2 x (by rw [kX_length];exact hx)).1
  omega
 | succ m ih=>
  intro x M am cm w hm hx hM h hl
  obtain ⟨i0,hi,hz0,hz1,hz2⟩:=info_parts Tryz.infoI7
  have hn:=hX.1
  have hML:=hM.len
  rw [kX_length] at hML
  have hxK:x<(kX X).length:=by rw [kX_length];exact hx
  have HS:Hid (ScAt w a X∧Small X∧LsAt w am (nV M)):=⟨h,hX,hl⟩
  have HV:Hid (meetO (kX X) M x=if x ∈ M then M else ((kX X).getD x []).foldl (meetO (kX X)) M++[x]):=meetO_is hD M x hxK
  have HIH:Hid (∀(k:Nat) (M2:List Nat) (am2:Option Addr) (cm2:Nat) (W:World),Ed (kX X) x k→Good (kX X) M2→ScAt W a X→LsAt W am2 (nV M2)→Calls Tryz.prog 128 #[.agg #[.slice a X.length c,.int .i64 r],.int .i64 (k:Int),.slice am2 M2.length cm2] W fun e w'=>MeetOut X M2 k W w' e):=fun k M2 am2 cm2 W hk hM2 hs hl2=>by
   have h1:=hR.1 x k hk
   have h2:=hD.1 x k hk
   rw [kX_length] at h2
   exact ih k M2 am2 cm2 W (by omega) h2 hM2 hs hl2
  have HG:Hid (∀k,k≤((kX X).getD x []).length→Good (kX X) ((((kX X).getD x []).take k).foldl (meetO (kX X)) M)):=fun k=>by
   induction k with
   | zero=>intro _;exact hM
   | succ k ihk=>
    intro hk
    rw [take_fold (by omega)]
    have e:Ed (kX X) x (((kX X).getD x []).getD k 0):=getD_mem (by omega)
    exact (meetO_good hD hR _ _ _ (Nat.le_refl _) (hD.1 _ _ e) (ihk (by omega))).good
  have HB0:Hid (∀o:Obj,Below w.heap.size w (w.alloc o)):=fun o=>(Below.refl w.heap.size w).alloc (Nat.le_refl _) o
  have HA0:Hid (AtN 24 (w.alloc (.cells #[.slice a X.length c,.int .i64 r] 24)) w.heap.size #[.slice a X.length c,.int .i64 r]):=AtN.new w 24 _
  have hkl:=hX.kids hx
  have Hks:Hid ((kX X).getD x []=(X.getD x noNx).nd.kids.map Int.toNat∧∀j,j<(X.getD x noNx).nd.kids.length→isPb X.length ((X.getD x noNx).nd.kids.getD j 0)=true):=⟨kX_at X x hx,hok x hx⟩
  clear ih h hl hX hok hD hR hM hm hxK
  have hx':(x:Int)<X.length:=by omega
  go_enter Tryz.func128,Tryz.ntmps128
  go_wp2_with fail
  have HB1:Hid (Below w.heap.size w (w.alloc (.cells #[.slice a X.length c,.int .i64 r] 24))):=HB0.out _
  clear HB0
  generalize w.alloc (.cells #[.slice a X.length c,.int .i64 r] 24)=w1 at *
  go_loopw [7] (fun iv wr=>∃i:Nat,iv=.int .i64 i∧i≤M.length∧wr=w1∧Hid (∀j,j<i→M.getD j 0≠x)) (fun iv _=>M.length-(intOf iv).toNat)
  case atStart=>exact ⟨0,rfl,by omega,rfl,fun j hj=>by omega⟩
  case round=>
   obtain ⟨i,rfl,hi',rfl,HI⟩:=hrel
   by_cases hlt:i<M.length
   ·have hlt':(i:Int)<M.length:=by omega
    obtain ⟨b,o,rfl,hb,d0⟩:=LsAt.at (LsAt.belowB HS.out.2.2 HB1.out) (nV_at M i hlt)
    by_cases he:M.getD i 0=x
    ·have HO:Hid (MeetOut X M x w wr (.returned (.slice (some ⟨b,o,none⟩) M.length cm))):=by
      have hin:x ∈ M:=by rw [← he];exact getD_mem hlt
      have e:=HV.out
      rw [if_pos hin] at e
      refine ⟨some ⟨b,o,none⟩,cm,by rw [e],?_,HB1.out⟩
      rw [e]
      exact LsAt.belowB HS.out.2.2 HB1.out
     rw [he] at d0
     clear he HI HV HIH HG HA0
     go_wp2_with fail
     go_ret
     exact HO.out
    ·have he':¬((M.getD i 0:Nat):Int)=(x:Int):=by omega
     have HI2:Hid (∀j,j<i+1→M.getD j 0≠x):=fun j hj=>by
      by_cases e:j=i
      ·rw [e];exact he
      ·exact HI.out j (by omega)
     clear he HI
     generalize M.getD i 0=q at *
     go_wp2_with fail
     go_roundw
     case rel=>exact ⟨i+1,by go_num,by omega,by trivial,HI2⟩
     case measure=>simp [intOf];omega
   ·have hlt':¬(i:Int)<M.length:=by omega
    have HV2:Hid (meetO (kX X) M x=((kX X).getD x []).foldl (meetO (kX X)) M++[x]):=by
     have e:=HV.out
     rw [if_neg (fun q=>by
      obtain ⟨j,hj,e⟩:=List.getElem_of_mem q
      exact HI.out j (by omega) (by rw [List.getD_eq_getElem?_getD,List.getElem?_eq_getElem hj];exact e))] at e
     exact e
    obtain ⟨b,o,rfl,hbl0,_⟩:=HS.out.1.node hx
    obtain ⟨w1,hw1⟩:∃w1,w1=wr:=⟨_,rfl⟩
    subst hw1
    have HL1:Hid (LsAt w1 am (nV M)):=LsAt.belowB HS.out.2.2 HB1.out
    clear HI HV
    go_wp2_with fail
    go_loopw [2,8] (fun mv kv wr=>∃(k:Nat) (am2:Option Addr) (cm2:Nat),mv=.slice am2 ((((kX X).getD x []).take k).foldl (meetO (kX X)) M).length cm2∧kv=.int .i64 (k:Int)∧k≤(X.getD x noNx).nd.kids.length∧Hid (LsAt wr am2 (nV ((((kX X).getD x []).take k).foldl (meetO (kX X)) M)))∧Hid (AtN 24 wr w.heap.size #[.slice (some ⟨b,o,none⟩) X.length c,.int .i64 r])∧Hid (Below w.heap.size w wr)) (fun _ kv _=>(X.getD x noNx).nd.kids.length-(intOf kv).toNat)
    case atStart=>exact ⟨0,am,cm,rfl,rfl,by omega,HL1,HA0,HB1⟩
    case round=>
     clear HL1 HA0 HB1
     obtain ⟨k,am,cm,rfl,rfl,hk,HL,HA,HB⟩:=hrel
     obtain ⟨b',o',hbo,hbl,_,_,_,d3⟩:=(ScAt.belowB HS.out.1 HB.out).node hx
     simp only [Option.some.injEq,Addr.mk.injEq,and_true] at hbo
     obtain ⟨rfl,rfl⟩:=hbo
     have x0:wr.cell? ⟨w.heap.size,0,none⟩=some (.slice (some ⟨b,o,none⟩) X.length c):=HA.out.cell 0
     have x1:wr.cell? ⟨w.heap.size,1,none⟩=some (.int .i64 r):=HA.out.cell 1
     have hg0:=HA.out.lt
     have hkx:((kX X).getD x []).length=(X.getD x noNx).nd.kids.length:=by rw [Hks.out.1];simp
     by_cases hkl2:k<(X.getD x noNx).nd.kids.length
     ·have hkl':(k:Int)<(X.getD x noNx).nd.kids.length:=by omega
      obtain ⟨b3,o3,ea3,hb3,d4⟩:=((ScAt.belowB HS.out.1 HB.out).each x hx).k.at (iV_at _ k hkl2)
      have hpb:=isPb_iff.1 (Hks.out.2 k hkl2)
      have hkd:((kX X).getD x []).getD k 0=((X.getD x noNx).nd.kids.getD k 0).toNat:=by
       rw [Hks.out.1]
       exact getD_toNat10 _ k hkl2
      have hEd:Ed (kX X) x (((kX X).getD x []).getD k 0):=getD_mem (by omega)
      have hG2:=HG.out k (by omega)
      have HI2:Hid (∀W,Below wr.heap.size wr W→Calls Tryz.prog 128 #[.agg #[.slice (some ⟨b,o,none⟩) X.length c,.int .i64 r],.int .i64 ((((kX X).getD x []).getD k 0:Nat):Int),.slice am ((((kX X).getD x []).take k).foldl (meetO (kX X)) M).length cm] W fun e w'=>MeetOut X ((((kX X).getD x []).take k).foldl (meetO (kX X)) M) (((kX X).getD x []).getD k 0) W w' e):=fun W hW=>HIH.out _ _ am cm W hEd hG2 (ScAt.belowB HS.out.1 (HB.out.trans (hW.mono HB.out.size))) (HL.out.belowB hW)
      have H0:Hid (∀(W:World) (a':Option Addr) (c':Nat),Below wr.heap.size wr W→LsAt W a' (nV (meetO (kX X) ((((kX X).getD x []).take k).foldl (meetO (kX X)) M) (((kX X).getD x []).getD k 0)))→∃(k2:Nat) (am2:Option Addr) (cm2:Nat),Value.slice a' (meetO (kX X) ((((kX X).getD x []).take k).foldl (meetO (kX X)) M) (((kX X).getD x []).getD k 0)).length c'=.slice am2 ((((kX X).getD x []).take k2).foldl (meetO (kX X)) M).length cm2∧Value.int .i64 ((k:Int)+1)=.int .i64 (k2:Int)∧k2≤(X.getD x noNx).nd.kids.length∧Hid (LsAt W am2 (nV ((((kX X).getD x []).take k2).foldl (meetO (kX X)) M)))∧Hid (AtN 24 W w.heap.size #[.slice (some ⟨b,o,none⟩) X.length c,.int .i64 r])∧Hid (Below w.heap.size w W)):=fun W a' c' hW hl'=>by
       have e:=take_fold (K:=kX X) (M:=M) (l:=(kX X).getD x []) (k:=k) (by omega)
       rw [← e] at hl' ⊢
       exact ⟨k+1,a',c',rfl,by simp,by omega,hl',HA.out.belowAll hW,HB.out.trans (hW.mono HB.out.size)⟩
      have hM2:((((kX X).getD x []).take k).foldl (meetO (kX X)) M).length≤1401:=by have:=hG2.len;rw [kX_length] at this;omega
      rw [show (X.getD x noNx).nd.kids.getD k 0=((((kX X).getD x []).getD k 0:Nat):Int) by rw [hkd];omega] at d4
      rw [ea3] at d3
      have hk3:k≤3000:=by omega
      clear hpb hkd hEd hG2 HIH HG HL HA HB hkx ea3 HS Hks HV2 hkl
      generalize ((kX X).getD x []).getD k 0=kd at *
      generalize (((kX X).getD x []).take k).foldl (meetO (kX X)) M=M2 at *
      generalize X.getD x noNx=N at *
      obtain ⟨W0,hW0⟩:∃W0,W0=wr:=⟨_,rfl⟩
      subst hW0
      go_wp2_with fail
      refine facts_region6 (fun W=>Below W0.heap.size W0 W) (mtF X b o c r w.heap.size x k kd b3 o3 N am cm M2) (by kernel_rfl) (by kernel_rfl) (Below.refl _ _).drew ?step ?fin
      case step=>
       intro i' o' ho a W hG hoff hdep K hQ hK
       have x0W:W.cell? ⟨w.heap.size,0,none⟩=some (.slice (some ⟨b,o,none⟩) X.length c):=(hG.cell (p:=⟨w.heap.size,0,none⟩) hg0).trans x0
       have x1W:W.cell? ⟨w.heap.size,1,none⟩=some (.int .i64 r):=(hG.cell (p:=⟨w.heap.size,1,none⟩) hg0).trans x1
       have d3W:W.cell? ⟨b,o+x*4+3,none⟩=some (.slice (some ⟨b3,o3,none⟩) N.nd.kids.length N.c3):=(hG.cell (p:=⟨b,o+x*4+3,none⟩) hbl).trans d3
       have d4W:W.cell? ⟨b3,o3+k,none⟩=some (.int .i64 (kd:Int)):=(hG.cell (p:=⟨b3,o3+k,none⟩) hb3).trans d4
       rcases i' with _|_|_|_|_|_|_|_|_|_|_|_|_|i'
       ·obtain rfl:=Option.some.inj ho
        have t3:a.tmps[3]?.getD undef=.pointer (some ⟨w.heap.size,0,none⟩):=hoff 3 (by kernel_rfl)
        clear hdep hoff d3W d4W
        go_simp
        exact hQ _ (rfl)
       ·obtain rfl:=Option.some.inj ho
        have t3:a.tmps[3]?.getD undef=.pointer (some ⟨w.heap.size,0,none⟩):=hoff 3 (by kernel_rfl)
        clear hdep hoff x0W x1W d3W d4W
        go_simp
        exact hQ _ (rfl)
       ·obtain rfl:=Option.some.inj ho
        have e1:a.tmps[34]?.getD undef=.pointer (some ⟨w.heap.size,0,none⟩):=hdep 1 _ (by kernel_rfl) rfl
        clear hdep hoff x1W d3W d4W
        go_simp
        exact hQ _ (rfl)
       ·obtain rfl:=Option.some.inj ho
        have t1:a.tmps[1]?.getD undef=.int .i64 (x:Int):=hoff 1 (by kernel_rfl)
        clear hdep hoff
        go_simp
        exact hQ _ (rfl)
       ·obtain rfl:=Option.some.inj ho
        have e2:a.tmps[35]?.getD undef=.slice (some ⟨b,o,none⟩) X.length c:=hdep 2 _ (by kernel_rfl) rfl
        have e3:a.tmps[36]?.getD undef=.int .i64 (x:Int):=hdep 3 _ (by kernel_rfl) rfl
        clear hdep hoff x0W x1W d3W d4W
        go_simp
        exact hQ _ (rfl)
       ·obtain rfl:=Option.some.inj ho
        have e4:a.tmps[37]?.getD undef=.pointer (some ⟨b,o+x*4,none⟩):=hdep 4 _ (by kernel_rfl) rfl
        clear hdep hoff x0W x1W d3W d4W
        go_simp
        exact hQ _ (rfl)
       ·obtain rfl:=Option.some.inj ho
        have e5:a.tmps[38]?.getD undef=.pointer (some ⟨b,o+x*4+3,none⟩):=hdep 5 _ (by kernel_rfl) rfl
        clear hdep hoff x0W x1W d4W
        go_simp
        exact hQ _ (rfl)
       ·obtain rfl:=Option.some.inj ho
        have t8:a.tmps[8]?.getD undef=.int .i64 (k:Int):=hoff 8 (by kernel_rfl)
        clear hdep hoff
        go_simp
        exact hQ _ (rfl)
       ·obtain rfl:=Option.some.inj ho
        have e6:a.tmps[39]?.getD undef=.slice (some ⟨b3,o3,none⟩) N.nd.kids.length N.c3:=hdep 6 _ (by kernel_rfl) rfl
        have e7:a.tmps[40]?.getD undef=.int .i64 (k:Int):=hdep 7 _ (by kernel_rfl) rfl
        clear hdep hoff x0W x1W d3W d4W
        go_simp
        exact hQ _ (rfl)
       ·obtain rfl:=Option.some.inj ho
        have e8:a.tmps[41]?.getD undef=.pointer (some ⟨b3,o3+k,none⟩):=hdep 8 _ (by kernel_rfl) rfl
        clear hdep hoff x0W x1W d3W
        go_simp
        exact hQ _ (rfl)
       ·obtain rfl:=Option.some.inj ho
        have t2:a.tmps[2]?.getD undef=.slice am M2.length cm:=hoff 2 (by kernel_rfl)
        clear hdep hoff
        go_simp
        exact hQ _ (rfl)
       ·obtain rfl:=Option.some.inj ho
        have e0:a.tmps[33]?.getD undef=.agg #[.slice (some ⟨b,o,none⟩) X.length c,.int .i64 r]:=hdep 0 _ (by kernel_rfl) rfl
        have e9:a.tmps[42]?.getD undef=.int .i64 (kd:Int):=hdep 9 _ (by kernel_rfl) rfl
        have e10:a.tmps[43]?.getD undef=.slice am M2.length cm:=hdep 10 _ (by kernel_rfl) rfl
        clear hdep hoff
        have HC:Hid (Calls Tryz.prog 128 #[.agg #[.slice (some ⟨b,o,none⟩) X.length c,.int .i64 r],.int .i64 (kd:Int),.slice am M2.length cm] W fun e w'=>MeetOut X M2 kd W w' e):=HI2.out W hG
        have HG:Hid (Below W0.heap.size W0 W):=hG
        clear hG x0W x1W d3W d4W
        go_simp
        refine Calls.mono HC.out ?_
        rintro e w' ⟨a',c',rfl,hl,hb⟩
        exact hK _ _ (HG.out.trans (hb.mono HG.out.size)) (mtF_below hb) ⟨a',c',rfl,hl⟩
       ·obtain rfl:=Option.some.inj ho
        have e11:∃a' c',a.tmps[44]?.getD undef=.slice a' (meetO (kX X) M2 kd).length c'∧LsAt W a' (nV (meetO (kX X) M2 kd)):=hdep 11 _ (by kernel_rfl) rfl
        clear hdep hoff
        obtain ⟨a',c',ev,hl⟩:=e11
        have HL:Hid (LsAt W a' (nV (meetO (kX X) M2 kd))):=hl
        clear hl hG x0W x1W d3W d4W
        go_simp
        exact hQ _ ⟨a',c',rfl,HL.out⟩
       ·exact absurd ho (by simp)
      case fin=>
       intro V W hG hF
       have y12:∃a' c',V (some 2)=.slice a' (meetO (kX X) M2 kd).length c'∧LsAt W a' (nV (meetO (kX X) M2 kd)):=hF 12 _ rfl
       obtain ⟨a',c',ev,hl⟩:=y12
       have HN:Hid _:=H0.out W a' c' hG hl
       clear hF hG H0 hl
       simp only [fillA,Act.put,List.setIfInBounds_toArray,List.set_cons_zero,List.set_cons_succ,ev]
       generalize V (some 33)=z33
       generalize V (some 34)=z34
       generalize V (some 35)=z35
       generalize V (some 36)=z36
       generalize V (some 37)=z37
       generalize V (some 38)=z38
       generalize V (some 39)=z39
       generalize V (some 40)=z40
       generalize V (some 41)=z41
       generalize V (some 42)=z42
       generalize V (some 43)=z43
       generalize V (some 44)=z44
       clear ev
       generalize meetO (kX X) M2 kd=M3 at *
       go_wp2_with fail
       go_roundw
       case rel=>exact HN.out
       case measure=>simp [intOf];omega
     ·have hkl':¬(k:Int)<(X.getD x noNx).nd.kids.length:=by omega
      have HM2:Hid ((((kX X).getD x []).take k).foldl (meetO (kX X)) M=((kX X).getD x []).foldl (meetO (kX X)) M):=by
       show _=_
       rw [List.take_of_length_le (by omega)]
      have hM2:((((kX X).getD x []).take k).foldl (meetO (kX X)) M).length≤1401:=by have:=(HG.out k (by omega)).len;rw [kX_length] at this;omega
      clear HIH HG HA hkx Hks hkl
      generalize (((kX X).getD x []).take k).foldl (meetO (kX X)) M=M2 at *
      generalize X.getD x noNx=N at *
      have hsz:=HB.out.size
      go_wp2_with (at_builtin;refine wpList_app9 rfl (.tmp 45) (.tmp 46) rfl wr.heap.size _ 0 [] rfl (World.ownsRow_lit wr #[] 0 (Nat.le_refl _) (by decide) (by simp)) am M2.length cm (nV M2) rfl (nV_length _) (LsAt.alloc HL.out _) (nV_cell _) (by omega) (by simp) ?_)
      intro v5 w5 hown5 hgrow5
      obtain ⟨a5,c5,rfl⟩:=own_shape7 hown5
      have HB5:Hid (Below wr.heap.size wr w5):=((Below.refl wr.heap.size wr).alloc (Nat.le_refl _) _).grown hgrow5 (by simp) (fun q hq=>by simp [Value.ownBlock] at hq;omega)
      have hs5:=HB5.out.size
      have HO5:Hid _:=hown5
      clear hown5 hgrow5 HL
      go_wp2_with (at_builtin;refine wpList_append_lies _ rfl (.tmp 47) (.tmp 49) 49 rfl wr.heap.size 3 i0 (.int .i64 0) 1 8 Tryz.underlying49 hi hz0 hz1 hz2 rfl (by decide) _ M2.length (nV M2) rfl (World.ownsRow.alloc (w:=w5) HO5.out _) ⟨w5.heap.size,0,none⟩ 1 1 [.int .i64 (x:Int)] rfl rfl (cell_one_new _ _ _) (by intro u hu;simp at hu;subst hu;rfl) (by decide) (by unfold maxLen;omega) (by omega) (by simp;omega) _ rfl ?_)
      intro g6 c6 w6 hown6 hgrow6 hlie hlt6
      have hrow:∀q,(Value.slice a5 M2.length c5).ownBlock=some q→wr.heap.size≤q:=fun q hq=>(World.ownsRow.lt HO5.out q hq).1
      have HO:Hid (MeetOut X M x w w6 (.returned (.slice (some ⟨g6,0,none⟩) (M2.length+1) c6))):=by
       have e:meetO (kX X) M x=M2++[x]:=by rw [HV2.out,← HM2.out]
       refine ⟨some ⟨g6,0,none⟩,c6,by rw [e];simp,?_,?_⟩
       ·rw [e,nV_snoc]
        exact LsAt.of_own hown6
       ·exact (HB.out.trans ((HB5.out.alloc HB5.out.size _).mono hsz)).grown hgrow6 (by simp;omega) (fun q hq=>Nat.le_trans hsz (hrow q hq))
      clear hown6 hgrow6 HB HB5 HO5 HV2 HM2
      go_wp2_with fail
      go_ret
      exact HO.out
def OrderOut (X:List Nx) (r:Int) (w w':World) (e:Ending):Prop:=∃a c,e=.returned (.slice a (oX X r).length c)∧LsAt w' a (nV (oX X r))∧Below w.heap.size w w'
set_option maxRecDepth 10000 in
set_option maxHeartbeats 400000 in
theorem order_any (X:List Nx) (a:Option Addr) (c:Nat) (r:Int) (w:World) (h:ScAt w a X) (hX:Small X) (hR:RightIs X r) :
  Calls Tryz.prog 91 #[.agg #[.slice a X.length c,.int .i64 r]] w fun e w'=>OrderOut X r w w' e:=by
 have HS:Hid (ScAt w a X∧Small X∧RightIs X r):=⟨h,hX,hR⟩
 have HB:Hid (∀o:Obj,Below w.heap.size w (w.alloc o)):=fun o=>(Below.refl w.heap.size w).alloc (Nat.le_refl _) o
 have Hr:Hid (r=(r.toNat:Int)):=hR.root.1
 clear h hX hR
 go_enter Tryz.func91,Tryz.ntmps91
 go_wp2_with fail
 obtain ⟨rk,hrk⟩:=HS.out.2.2.dag.rank
 have hb:=HB.out (.cells #[.slice a X.length c,.int .i64 r] 24)
 have hm:=meet_any X a c r HS.out.2.1 HS.out.2.2.2.1 HS.out.2.2.dag rk hrk (rk r.toNat) r.toNat [] none 0 (w.alloc (.cells #[.slice a X.length c,.int .i64 r] 24)) (Nat.le_refl _) HS.out.2.2.root.2 Good.nil (HS.out.1.alloc _) (LsAt.nil _ _)
 rw [← Hr.out] at hm
 refine Calls.mono hm ?_
 rintro e w1 ⟨a1,c1,rfl,hl,hb1⟩
 have HO:Hid (OrderOut X r w w1 (.returned (.slice a1 (meetO (kX X) [] r.toNat).length c1))):=⟨a1,c1,rfl,hl,hb.trans (hb1.mono hb.size)⟩
 clear hm hl hb1 hb
 generalize (meetO (kX X) [] r.toNat).length=q at *
 go_wp2_with fail
 go_ret
 exact HO.out
end Go.Proofs.YtgoffkfpdigeeaaGreatDoor
namespace Go.Proofs.YtgoffkfpdigeeaaGreatDoor
open Go.RowKit Go.Maps Go.WideMaps Go.Sort
theorem oX_length {X:List Nx} {r:Int} (h:RightIs X r):(oX X r).length=X.length:=by have:=h.ord.len;rwa [kX_length] at this
theorem oX_all {X:List Nx} {r:Int} (h:RightIs X r) (i:Nat) (hi:i<X.length):i ∈ oX X r:=h.ord.all i (by rw [kX_length];exact hi)
theorem oX_lt {X:List Nx} {r:Int} (h:RightIs X r) (j:Nat) (hj:j<(oX X r).length):(oX X r).getD j 0<X.length:=by have:=h.ord.good.lt _ (getD_mem hj);rwa [kX_length] at this
def r6F (n b o c b0 m bl ol cl i x:Nat) (N:Nx) (B:Nat):Nat→(Option Tmp→Value)→World→Prop
 | 0,V,_=>V (some 20)=.pointer (some ⟨b0,0,none⟩)
 | 1,V,_=>V (some 21)=.slice (some ⟨b,o,none⟩) n c
 | 2,V,_=>V (some 22)=.slice (some ⟨bl,ol,none⟩) m cl
 | 3,V,_=>V (some 23)=.int .i64 (i:Int)
 | 4,V,_=>V (some 24)=.pointer (some ⟨bl,ol+i,none⟩)
 | 5,V,_=>V (some 25)=.int .i64 (x:Int)
 | 6,V,_=>V (some 26)=.pointer (some ⟨b,o+x*4,none⟩)
 | 7,V,_=>V (some 27)=.agg #[.int .i64 N.nd.kind,.slice N.a1 N.nd.ints.length N.c1,.slice N.a2 N.nd.texts.length N.c2,.slice N.a3 N.nd.kids.length N.c3]
 | 8,V,W=>∃y:Nx,y.nd=N.nd∧V (some 28)=.agg (nxC y).toArray∧OwnNx W B y
 | 9,V,W=>∃g,V (some 6)=.pointer (some ⟨g,0,none⟩)∧B≤g∧∃v0 v1 v2 v3,AtN 51 W g #[v0,v1,v2,v3]
 | 10,V,W=>∃(g:Nat) (y:Nx),V (some 6)=.pointer (some ⟨g,0,none⟩)∧B≤g∧y.nd=N.nd∧AtN 51 W g (nxC y).toArray∧OwnNx W B y
 | _,_,_=>True
section
variable {n b o c b0 m bl ol cl i x B:Nat} {N:Nx} {W W':World}
theorem r6F_below (hb:Below W.heap.size W W') (s:Nat):∀j V,s≠j→r6F n b o c b0 m bl ol cl i x N B j V W→r6F n b o c b0 m bl ol cl i x N B j V W':=by
 intro j V _ h
 have key:∀y:Nx,OwnNx W B y→OwnNx W' B y:=fun y hy=>hy.fr (Fr.of_below (S:=fun _=>False) hb) (fun _ q=>q.elim)
 match j,h with
 | 0,h|1,h|2,h|3,h|4,h|5,h|6,h|7,h=>exact h
 | 8,h=>
  obtain ⟨y,h1,h2,h3⟩:=h
  exact ⟨y,h1,h2,key y h3⟩
 | 9,h=>
  obtain ⟨g,h1,h2,v0,v1,v2,v3,h3⟩:=h
  exact ⟨g,h1,h2,v0,v1,v2,v3,h3.belowAll hb⟩
 | 10,h=>
  obtain ⟨g,y,h1,h2,h3,h4,h5⟩:=h
  exact ⟨g,y,h1,h2,h3,h4.belowAll hb,key y h5⟩
 | q+11,_=>trivial
theorem r6F_set {g:Nat} {u0 u1 u2 u3:Value} (hf:Fr (fun b=>b=g) W W') (ha:Alien W (fun b=>b=g)) (hA:AtN 51 W' g #[u0,u1,u2,u3]):∀j V,10≠j→r6F n b o c b0 m bl ol cl i x N B j V W→r6F n b o c b0 m bl ol cl i x N B j V W':=by
 intro j V hj h
 match j,h with
 | 0,h|1,h|2,h|3,h|4,h|5,h|6,h|7,h=>exact h
 | 8,h=>
  obtain ⟨y,h1,h2,h3⟩:=h
  exact ⟨y,h1,h2,h3.fr hf ha⟩
 | 9,h=>
  obtain ⟨g',h1,h2,v0,v1,v2,v3,h3⟩:=h
  by_cases e:g'=g
  ·subst e
   exact ⟨g',h1,h2,_,_,_,_,hA⟩
  ·exact ⟨g',h1,h2,v0,v1,v2,v3,h3.fr hf e⟩
 | 10,_=>exact absurd rfl hj
 | q+11,_=>trivial
end
def r10F (m bl ol cl g q k kd:Nat) (pk:Int) (kl e3:Nat) (TT:World→Prop):Nat→(Option Tmp→Value)→World→Prop
 | 0,V,_=>V (some 36)=.pointer (some ⟨g,3,none⟩)
 | 1,V,_=>V (some 37)=.slice (some ⟨q,0,none⟩) kl e3
 | 2,V,_=>V (some 38)=.int .i64 (k:Int)
 | 3,V,_=>V (some 39)=.slice (some ⟨bl,ol,none⟩) m cl
 | 4,V,_=>V (some 40)=.pointer (some ⟨g,3,none⟩)
 | 5,V,_=>V (some 41)=.slice (some ⟨q,0,none⟩) kl e3
 | 6,V,_=>V (some 42)=.int .i64 (k:Int)
 | 7,V,_=>V (some 43)=.pointer (some ⟨q,k,none⟩)
 | 8,V,_=>V (some 44)=.int .i64 (kd:Int)
 | 9,V,_=>V (some 45)=.int .i64 pk
 | 10,V,_=>V (some 46)=.pointer (some ⟨q,k,none⟩)
 | 11,_,W=>TT W
 | _,_,_=>True
theorem r10F_set {m bl ol cl g q k kd:Nat} {pk:Int} {kl e3:Nat} {TT:World→Prop} {W W':World} {j:Nat} {V:Option Tmp→Value} (hj:11≠j) (h:r10F m bl ol cl g q k kd pk kl e3 TT j V W):r10F m bl ol cl g q k kd pk kl e3 TT j V W':=by
 match j,h with
 | 0,h|1,h|2,h|3,h|4,h|5,h|6,h|7,h|8,h|9,h|10,h=>exact h
 | 11,_=>exact absurd rfl hj
 | q+12,_=>trivial
def r10I (q k kd:Nat) (pk:Int) (TT:World→Prop) (W:World):Prop:=W.cell? ⟨q,k,none⟩=some (.int .i64 (kd:Int))∧W.frozen? ⟨q,k,none⟩=false∧q<W.heap.size∧TT (W.setCell ⟨q,k,none⟩ (.int .i64 pk))
def RCanOut (X:List Nx) (r:Int) (w w':World) (e:Ending):Prop:=∃Y a c,e=.returned (.agg #[.slice a (List.length Y) c,.int .i64 ((X.length:Int)-1)])∧Y.map Nx.nd=cX X r∧ScAt w' a Y∧Below w.heap.size w w'
def RCanOut2 (X:List Nx) (r:Int) (w w':World) (e:Ending):Prop:=∃Y a c,e=.returned (.agg #[.slice a (List.length Y) c,.int .i64 ((X.length:Int)-1)])∧Y.map Nx.nd=cX X r∧(w'.ownsRow w.heap.size 51 4 (.slice a Y.length c) Y.length (nxV Y)∧∀j,j<Y.length→OwnNx w' w.heap.size (Y.getD j noNx))∧Below w.heap.size w w'
theorem cX_at {X:List Nx} {r:Int} (hR:RightIs X r) (j:Nat) (hj:j<(oX X r).length):(cX X r)[j]? = some (renNd (fun z=>plZ (oX X r) z.toNat) (X.getD ((oX X r).getD j 0) noNx).nd):=by
 unfold cX
 rw [List.getElem?_map,List.getElem?_eq_getElem hj]
 have e:(oX X r).getD j 0=(oX X r)[j]:=by rw [List.getD_eq_getElem?_getD,List.getElem?_eq_getElem hj];rfl
 simp only [Option.map_some,Option.some.injEq]
 rw [e]
 have hx:(oX X r)[j]<X.length:=by rw [← e];exact oX_lt hR j hj
 unfold renNd
 congr 1
 refine List.map_congr_left fun z hz=>?_
 obtain ⟨t,ht,rfl⟩:=List.getElem_of_mem hz
 have hp:=hR.2.1 _ hx t ht
 have hp':isPb X.length (X.getD (oX X r)[j] noNx).nd.kids[t]=true:=by
  rwa [show (X.getD (oX X r)[j] noNx).nd.kids.getD t 0=(X.getD (oX X r)[j] noNx).nd.kids[t] by rw [List.getD_eq_getElem?_getD,List.getElem?_eq_getElem ht];rfl] at hp
 have:=isPb_iff.1 hp'
 unfold pX
 rw [plZ_in (oX_all hR _ (by omega))]
set_option maxRecDepth 10000 in
set_option maxHeartbeats 2000000 in
theorem rcanon2_any (X:List Nx) (a:Option Addr) (c:Nat) (r:Int) (w:World) (h:ScAt w a X) (hX:Small X) (hR:RightIs X r) :
  Calls Tryz.prog 45 #[.agg #[.slice a X.length c,.int .i64 r]] w fun e w'=>RCanOut2 X r w w' e:=by
 obtain ⟨i0,hi,hz0,hz1,hz2⟩:=info_parts Tryz.infoD9
 have hn:=hX.1
 have hol:=oX_length hR
 have hn1:1≤X.length:=by have:=hR.root.2;omega
 have HS:Hid (ScAt w a X∧Small X∧RightIs X r):=⟨h,hX,hR⟩
 clear h hX hR
 have HA:Hid (∀(o1 o2:Obj),o1=.cells #[.slice a X.length c,.int .i64 r] 24→o2=.cells #[.slice none 0 0,.int .i64 0] 24→AtN 24 ((w.alloc o1).alloc o2) w.heap.size #[.slice a X.length c,.int .i64 r]∧AtN 24 ((w.alloc o1).alloc o2) (w.heap.size+1) #[.slice none 0 0,.int .i64 0]∧Below w.heap.size w ((w.alloc o1).alloc o2)):=by
  rintro _ _ rfl rfl
  exact ⟨(AtN.new w 24 _).alloc _,mk_at (AtN.new (w.alloc _) 24 _) (show _=w.heap.size+1 by simp),((Below.refl w.heap.size w).alloc (Nat.le_refl _) _).alloc (by simp) _⟩
 go_enter Tryz.func45,Tryz.ntmps45
 go_wp2_with fail
 obtain ⟨h1,h2,h3⟩:=HA.out _ _ rfl rfl
 refine (order_any X a c r _ (HS.out.1.belowB h3) HS.out.2.1 HS.out.2.2).mono ?_
 rintro e w1 ⟨al,cl,rfl,hl1,hb1⟩
 have HA1:Hid (AtN 24 w1 w.heap.size #[.slice a X.length c,.int .i64 r]):=h1.belowAll hb1
 have HR1:Hid (AtN 24 w1 (w.heap.size+1) #[.slice none 0 0,.int .i64 0]):=h2.belowAll hb1
 have HB1:Hid (Below w.heap.size w w1):=h3.trans (hb1.mono h3.size)
 have HO1:Hid (LsAt w1 al (nV (oX X r))):=hl1
 have hs1:w.heap.size+1<w1.heap.size:=HR1.out.lt
 have HX1:Hid (ScAt w1 a X):=HS.out.1.belowB HB1.out
 clear HA h1 h2 h3 hb1 hl1
 have HM0:Hid (∀o:Obj,o=.cells #[.slice none 0 0,.int .i64 ((X.length:Int)-1)] 24→Mkg (w1.alloc o) w1.heap.size w1.heap.size ((X.length:Int)-1) (.slice none 0 0) []∧Below w1.heap.size w1 (w1.alloc o)):=by
  rintro _ rfl
  exact ⟨⟨AtN.new w1 24 _,⟨rfl,.inl ⟨rfl,rfl⟩⟩,fun j hj=>by simp at hj⟩,(Below.refl w1.heap.size w1).alloc (Nat.le_refl _) _⟩
 obtain ⟨O,hO⟩:∃O,oX X r=O:=⟨_,rfl⟩
 have Hcx:Hid (∀j,j<O.length→(cX X r)[j]? = some (renNd (fun z=>plZ O z.toNat) (X.getD (O.getD j 0) noNx).nd)):=by rw [← hO];exact cX_at HS.out.2.2
 have HcL:Hid ((cX X r).length=X.length):=by rw [show (cX X r).length=(oX X r).length by simp [cX]];exact hol
 have HOl:Hid (∀j,j<O.length→O.getD j 0<X.length):=by rw [← hO];exact oX_lt HS.out.2.2
 rw [hO] at hol HO1 ⊢
 clear hO
 go_wp2_with fail
 go_loopw [5] (fun iv wr=>∃(i:Nat) (v:Value) (Y:List Nx),iv=.int .i64 i∧i≤X.length∧Hid (∀j,j<Y.length→(Y.getD j noNx).nd=renNd (fun z=>plZ O z.toNat) (X.getD (O.getD j 0) noNx).nd)∧Hid (Y.length=i)∧Hid (Mkg wr w1.heap.size w1.heap.size ((X.length:Int)-1) v Y)∧Hid (Below w1.heap.size w1 wr)) (fun iv _=>X.length-(intOf iv).toNat)
 case atStart=>
  obtain ⟨h1,h2⟩:=HM0.out _ rfl
  exact ⟨0,.slice none 0 0,[],rfl,by omega,(by intro j hj;simp at hj),rfl,h1,h2⟩
 case round=>
  clear HM0
  obtain ⟨i,v,Y,rfl,hi',HM,HL,HK,HB⟩:=hrel
  have x0:wr.cell? ⟨w.heap.size,0,none⟩=some (.slice a X.length c):=(HA1.out.belowAll HB.out).cell 0
  have hszw:=HB.out.size
  by_cases hlt:i<X.length
  ·have hlt':(i:Int)<X.length:=by omega
   obtain ⟨u,hu⟩:∃u,u=wr:=⟨_,rfl⟩
   subst hu
   obtain ⟨bl,ol,hal,hbl,l0⟩:=(LsAt.belowB HO1.out HB.out).at (nV_at O i (by omega))
   subst hal
   have hxl:O.getD i 0<X.length:=HOl.out i (by omega)
   obtain ⟨b,o,ea,hbn,d0,d1,d2,d3⟩:=(ScAt.belowB HX1.out HB.out).node hxl
   subst ea
   have HCp:Hid (∀W,Below u.heap.size u W→Calls Tryz.prog 30 #[.agg #[.int .i64 (X.getD (O.getD i 0) noNx).nd.kind,.slice (X.getD (O.getD i 0) noNx).a1 (X.getD (O.getD i 0) noNx).nd.ints.length (X.getD (O.getD i 0) noNx).c1,.slice (X.getD (O.getD i 0) noNx).a2 (X.getD (O.getD i 0) noNx).nd.texts.length (X.getD (O.getD i 0) noNx).c2,.slice (X.getD (O.getD i 0) noNx).a3 (X.getD (O.getD i 0) noNx).nd.kids.length (X.getD (O.getD i 0) noNx).c3]] W fun e w'=>NdOut W w' e (X.getD (O.getD i 0) noNx).nd):=fun W hW=>by
    have hgr:=big_no (HS.out.2.1.2 _ hxl)
    exact rcopy_any (X.getD (O.getD i 0) noNx).nd (X.getD (O.getD i 0) noNx).a1 (X.getD (O.getD i 0) noNx).a2 (X.getD (O.getD i 0) noNx).a3 (X.getD (O.getD i 0) noNx).c1 (X.getD (O.getD i 0) noNx).c2 (X.getD (O.getD i 0) noNx).c3 W (((ScAt.belowB HX1.out HB.out).belowB hW).each _ hxl) hgr.1 hgr.2.1 hgr.2.2.1
   have HX:Hid (∀y:Nx,y.nd=renNd (fun z=>plZ O z.toNat) (X.getD (O.getD i 0) noNx).nd→∀j,j<(Y++[y]).length→((Y++[y]).getD j noNx).nd=renNd (fun z=>plZ O z.toNat) (X.getD (O.getD j 0) noNx).nd):=fun y hy j hj=>by
    have hl:Y.length=i:=HL.out
    by_cases hjl:j<Y.length
    ·rw [show (Y++[y]).getD j noNx=Y.getD j noNx by rw [List.getD_eq_getElem?_getD,List.getElem?_append_left hjl,← List.getD_eq_getElem?_getD]]
     exact HM.out j hjl
    ·obtain rfl:j=Y.length:=by simp at hj;omega
     rw [show (Y++[y]).getD Y.length noNx=y by simp,hy,hl]
   have hYl:Y.length≤1401:=by have hl:Y.length=i:=HL.out;omega
   have HL2:Hid (∀y:Nx,(Y++[y]).length=i+1):=fun y=>by have hl:Y.length=i:=HL.out;simp;omega
   have hsz:w1.heap.size<u.heap.size:=HK.out.sc.lt
   have Hv:Hid (v.ownBlock≠some w1.heap.size∧(∀k,v.ownBlock=some k→k<u.heap.size)∧∀k,v.ownBlock=some k→w1.heap.size≤k):=⟨HK.out.ne,fun k hk=>(HK.out.row.lt k hk).2,fun k hk=>(HK.out.row.lt k hk).1⟩
   have Hpb:Hid (∀j,j<(X.getD (O.getD i 0) noNx).nd.kids.length→isPb X.length ((X.getD (O.getD i 0) noNx).nd.kids.getD j 0)=true):=HS.out.2.2.2.1 _ hxl
   have hk3:(X.getD (O.getD i 0) noNx).nd.kids.length≤3000:=HS.out.2.1.kids hxl
   have hg0:w.heap.size<u.heap.size:=by omega
   have hxl':((O.getD i 0:Nat):Int)<X.length:=by omega
   generalize O.getD i 0=x at *
   generalize X.getD x noNx=N at *
   clear HM HL HS
   go_wp2_with fail
   refine facts_region7 (fun W=>Below u.heap.size u W) (r6F X.length b o c w.heap.size X.length bl ol cl i x N u.heap.size) 99 (fun _=>True) (by kernel_rfl) (by kernel_rfl) (Below.refl _ _).drew trivial ?loc ?step ?fin
   case loc=>
    intro j' o' V V' W ho hd hk h
    rcases j' with _|_|_|_|_|_|_|_|_|_|_|j'
    ·obtain rfl:=Option.some.inj ho
     have e:V (some 20)=V' (some 20):=hd
     simp only [r6F] at h ⊢
     rw [← e];exact h
    ·obtain rfl:=Option.some.inj ho
     have e:V (some 21)=V' (some 21):=hd
     simp only [r6F] at h ⊢
     rw [← e];exact h
    ·obtain rfl:=Option.some.inj ho
     have e:V (some 22)=V' (some 22):=hd
     simp only [r6F] at h ⊢
     rw [← e];exact h
    ·obtain rfl:=Option.some.inj ho
     have e:V (some 23)=V' (some 23):=hd
     simp only [r6F] at h ⊢
     rw [← e];exact h
    ·obtain rfl:=Option.some.inj ho
     have e:V (some 24)=V' (some 24):=hd
     simp only [r6F] at h ⊢
     rw [← e];exact h
    ·obtain rfl:=Option.some.inj ho
     have e:V (some 25)=V' (some 25):=hd
     simp only [r6F] at h ⊢
     rw [← e];exact h
    ·obtain rfl:=Option.some.inj ho
     have e:V (some 26)=V' (some 26):=hd
     simp only [r6F] at h ⊢
     rw [← e];exact h
    ·obtain rfl:=Option.some.inj ho
     have e:V (some 27)=V' (some 27):=hd
     simp only [r6F] at h ⊢
     rw [← e];exact h
    ·obtain rfl:=Option.some.inj ho
     have e:V (some 28)=V' (some 28):=hd
     simp only [r6F] at h ⊢
     rw [← e];exact h
    ·obtain rfl:=Option.some.inj ho
     have e:V (some 6)=V' (some 6):=hd
     simp only [r6F] at h ⊢
     rw [← e];exact h
    ·obtain rfl:=Option.some.inj ho
     obtain ⟨g,y,h1,h2⟩:=h
     exact ⟨g,y,(hk 9 _ (by kernel_rfl) rfl).symm.trans h1,h2⟩
    ·exact absurd ho (by simp)
   case step=>
    intro i' o' ho a W hG hoff hdep hI K hQ hK
    have x0W:W.cell? ⟨w.heap.size,0,none⟩=some (.slice (some ⟨b,o,none⟩) X.length c):=(hG.cell (p:=⟨w.heap.size,0,none⟩) hg0).trans x0
    have l0W:W.cell? ⟨bl,ol+i,none⟩=some (.int .i64 (x:Int)):=(hG.cell (p:=⟨bl,ol+i,none⟩) hbl).trans l0
    have d0W:W.cell? ⟨b,o+x*4,none⟩=some (.int .i64 N.nd.kind):=(hG.cell (p:=⟨b,o+x*4,none⟩) hbn).trans d0
    have d1W:W.cell? ⟨b,o+x*4+1,none⟩=some (.slice N.a1 N.nd.ints.length N.c1):=(hG.cell (p:=⟨b,o+x*4+1,none⟩) hbn).trans d1
    have d2W:W.cell? ⟨b,o+x*4+2,none⟩=some (.slice N.a2 N.nd.texts.length N.c2):=(hG.cell (p:=⟨b,o+x*4+2,none⟩) hbn).trans d2
    have d3W:W.cell? ⟨b,o+x*4+3,none⟩=some (.slice N.a3 N.nd.kids.length N.c3):=(hG.cell (p:=⟨b,o+x*4+3,none⟩) hbn).trans d3
    rcases i' with _|_|_|_|_|_|_|_|_|_|_|i'
    ·obtain rfl:=Option.some.inj ho
     have t1:a.tmps[1]?.getD undef=.pointer (some ⟨w.heap.size,0,none⟩):=hoff 1 (by kernel_rfl)
     clear hdep hoff x0W l0W d0W d1W d2W d3W
     go_simp
     exact hQ _ (fun _ h1 _=>h1)
    ·obtain rfl:=Option.some.inj ho
     have e0:a.tmps[20]?.getD undef=.pointer (some ⟨w.heap.size,0,none⟩):=hdep 0 (by kernel_rfl)
     clear hdep hoff l0W d0W d1W d2W d3W
     go_simp
     exact hQ _ (fun _ h1 _=>h1)
    ·obtain rfl:=Option.some.inj ho
     have t3:a.tmps[3]?.getD undef=.slice (some ⟨bl,ol,none⟩) X.length cl:=hoff 3 (by kernel_rfl)
     clear hdep hoff
     go_simp
     exact hQ _ (fun _ h1 _=>h1)
    ·obtain rfl:=Option.some.inj ho
     have t5:a.tmps[5]?.getD undef=.int .i64 (i:Int):=hoff 5 (by kernel_rfl)
     clear hdep hoff
     go_simp
     exact hQ _ (fun _ h1 _=>h1)
    ·obtain rfl:=Option.some.inj ho
     have e2:a.tmps[22]?.getD undef=.slice (some ⟨bl,ol,none⟩) X.length cl:=hdep 2 (by kernel_rfl)
     have e3:a.tmps[23]?.getD undef=.int .i64 (i:Int):=hdep 3 (by kernel_rfl)
     clear hdep hoff x0W l0W d0W d1W d2W d3W
     go_simp
     exact hQ _ (fun _ h1 _=>h1)
    ·obtain rfl:=Option.some.inj ho
     have e4:a.tmps[24]?.getD undef=.pointer (some ⟨bl,ol+i,none⟩):=hdep 4 (by kernel_rfl)
     clear hdep hoff x0W d0W d1W d2W d3W
     go_simp
     exact hQ _ (fun _ h1 _=>h1)
    ·obtain rfl:=Option.some.inj ho
     have e1:a.tmps[21]?.getD undef=.slice (some ⟨b,o,none⟩) X.length c:=hdep 1 (by kernel_rfl)
     have e5:a.tmps[25]?.getD undef=.int .i64 (x:Int):=hdep 5 (by kernel_rfl)
     clear hdep hoff x0W l0W d0W d1W d2W d3W
     go_simp
     exact hQ _ (fun _ h1 _=>h1)
    ·obtain rfl:=Option.some.inj ho
     have e6:a.tmps[26]?.getD undef=.pointer (some ⟨b,o+x*4,none⟩):=hdep 6 (by kernel_rfl)
     clear hdep hoff x0W l0W
     go_simp
     exact hQ _ (fun _ h1 _=>h1)
    ·obtain rfl:=Option.some.inj ho
     have e7:a.tmps[27]?.getD undef=.agg #[.int .i64 N.nd.kind,.slice N.a1 N.nd.ints.length N.c1,.slice N.a2 N.nd.texts.length N.c2,.slice N.a3 N.nd.kids.length N.c3]:=hdep 7 (by kernel_rfl)
     clear hdep hoff
     have HC:Hid (Calls Tryz.prog 30 #[.agg #[.int .i64 N.nd.kind,.slice N.a1 N.nd.ints.length N.c1,.slice N.a2 N.nd.texts.length N.c2,.slice N.a3 N.nd.kids.length N.c3]] W fun e w'=>NdOut W w' e N.nd):=HCp.out W hG
     have HG:Hid (Below u.heap.size u W):=hG
     clear hG hI x0W l0W d0W d1W d2W d3W
     go_simp
     refine Calls.mono HC.out ?_
     rintro e w' ⟨a1,c1,a2,c2,a3,c3,rfl,hO,hb⟩
     exact hK _ _ (HG.out.trans (hb.mono HG.out.size)) (fun _ q=>q) (r6F_below hb 8) (fun V' h1 _=>⟨⟨N.nd,a1,c1,a2,c2,a3,c3⟩,rfl,h1,OwnNd.mono hO HG.out.size⟩)
    ·obtain rfl:=Option.some.inj ho
     clear hdep hoff
     have HG:Hid (Below u.heap.size u W):=hG
     clear hG hI x0W l0W d0W d1W d2W d3W
     go_simp
     exact hK _ _ (HG.out.alloc HG.out.size _) (fun _ q=>q) (r6F_below ((Below.refl W.heap.size W).alloc (Nat.le_refl _) _) 9) (fun V' h1 _=>⟨W.heap.size,h1,HG.out.size,_,_,_,_,AtN.new W 51 _⟩)
    ·obtain rfl:=Option.some.inj ho
     have e8:∃y:Nx,y.nd=N.nd∧a.tmps[28]?.getD undef=.agg (nxC y).toArray∧OwnNx W u.heap.size y:=hdep 8 (by kernel_rfl)
     have e9:∃g,a.tmps[6]?.getD undef=.pointer (some ⟨g,0,none⟩)∧u.heap.size≤g∧∃v0 v1 v2 v3,AtN 51 W g #[v0,v1,v2,v3]:=hdep 9 (by kernel_rfl)
     clear hdep hoff
     obtain ⟨y,hy,ey,hO⟩:=e8
     have ey':a.tmps[28]?.getD undef=.agg #[.int .i64 y.nd.kind,.slice y.a1 y.nd.ints.length y.c1,.slice y.a2 y.nd.texts.length y.c2,.slice y.a3 y.nd.kids.length y.c3]:=ey
     obtain ⟨g,eg,hg,v0,v1,v2,v3,hA⟩:=e9
     have q0:W.cell? ⟨g,0,none⟩=some v0:=hA.cell 0
     have q1:W.cell? ⟨g,1,none⟩=some v1:=hA.cell 1
     have q2:W.cell? ⟨g,2,none⟩=some v2:=hA.cell 2
     have q3:W.cell? ⟨g,3,none⟩=some v3:=hA.cell 3
     have f0:=hA.fz 0
     have f1:=hA.fz 1
     have f2:=hA.fz 2
     have f3:=hA.fz 3
     have hgl:=hA.lt
     have HS4:Hid (∀u0 u1 u2 u3,AtN 51 ((((W.setCell ⟨g,0,none⟩ u0).setCell ⟨g,1,none⟩ u1).setCell ⟨g,2,none⟩ u2).setCell ⟨g,3,none⟩ u3) g #[u0,u1,u2,u3]):=fun u0 u1 u2 u3=>at_set4 hA u0 u1 u2 u3
     have HF4:Hid (∀u0 u1 u2 u3,Fr (fun b=>b=g) W ((((W.setCell ⟨g,0,none⟩ u0).setCell ⟨g,1,none⟩ u1).setCell ⟨g,2,none⟩ u2).setCell ⟨g,3,none⟩ u3)):=fun u0 u1 u2 u3=>((((Fr.refl (fun b=>b=g) W).set ⟨g,0,none⟩ rfl u0).set ⟨g,1,none⟩ rfl u1).set ⟨g,2,none⟩ rfl u2).set ⟨g,3,none⟩ rfl u3
     have HAl:Hid (Alien W (fun b=>b=g)):=fun b hb _=>by
      subst hb
      exact ⟨_,_,_,hA,by decide,by decide,by decide⟩
     have HG:Hid (Below u.heap.size u W):=hG
     have HY:Hid (y.nd=N.nd∧OwnNx W u.heap.size y):=⟨hy,hO⟩
     have Heg:Hid (a.tmps[6]?.getD undef=.pointer (some ⟨g,0,none⟩)):=eg
     clear hy ey hO hA hG hI x0W l0W d0W d1W d2W d3W
     go_simp
     exact hK undef _ (Fr.below HG.out (HF4.out _ _ _ _) (fun b e=>by omega) HG.out.size) (fun _ q=>q) (r6F_set (HF4.out _ _ _ _) HAl.out (HS4.out _ _ _ _)) (fun V' _ h2=>⟨g,y,(h2 9 _ (by kernel_rfl) rfl).trans Heg.out,hg,HY.out.1,HS4.out _ _ _ _,HY.out.2.fr (HF4.out _ _ _ _) HAl.out⟩)
    ·exact absurd ho (by simp)
   case fin=>
    intro V W hG hF
    have y10:∃(g:Nat) (y:Nx),V (some 6)=.pointer (some ⟨g,0,none⟩)∧u.heap.size≤g∧y.nd=N.nd∧AtN 51 W g (nxC y).toArray∧OwnNx W u.heap.size y:=hF 10 _ rfl
    obtain ⟨g6,y,ev,hg6,hy,hA6,hO6⟩:=y10
    have HT0:Hid (Tgf W u.heap.size g6 N.nd (fun z=>plZ O z.toNat) 0 y.a1 y.a2 y.a3 y.c1 y.c2 y.c3):=by
     rw [← hy]
     exact ⟨hA6,hO6.i,hO6.t,by rw [tkf_zero];exact hO6.k⟩
    have HB0:Hid (Below u.heap.size u W):=hG
    clear hF hG hA6 hO6 hy HCp x0 l0 d0 d1 d2 d3
    simp only [fillA,Act.put,List.setIfInBounds_toArray,List.set_cons_zero,List.set_cons_succ,ev]
    generalize V (some 20)=z20
    generalize V (some 21)=z21
    generalize V (some 22)=z22
    generalize V (some 23)=z23
    generalize V (some 24)=z24
    generalize V (some 25)=z25
    generalize V (some 26)=z26
    generalize V (some 27)=z27
    generalize V (some 28)=z28
    clear ev
    obtain ⟨_,b1,e1,b2,e2,b3,e3⟩:=y
    go_wp2_with fail
    go_loopw [7] (fun kv w2=>∃k:Nat,kv=.int .i64 k∧k≤N.nd.kids.length∧Hid (Tgf w2 u.heap.size g6 N.nd (fun z=>plZ O z.toNat) k b1 b2 b3 e1 e2 e3)∧Hid (Below u.heap.size u w2)) (fun kv _=>N.nd.kids.length-(intOf kv).toNat)
    case atStart=>exact ⟨0,rfl,by omega,HT0,HB0⟩
    case round=>
     clear HT0 HB0
     obtain ⟨k,rfl,hk,HT,HB2⟩:=hrel
     have y3:wr.cell? ⟨g6,3,none⟩=some (.slice b3 N.nd.kids.length e3):=HT.out.nd.cell 3
     have hg6l:=HT.out.nd.lt
     by_cases hkl:k<N.nd.kids.length
     ·have hkl':(k:Int)<N.nd.kids.length:=by omega
      obtain ⟨q,rfl,k1,k2,hqB,k3,hT2⟩:=HT.out.next hkl
      obtain ⟨kd,hkd,hkn⟩:∃kd:Nat,N.nd.kids.getD k 0=(kd:Int)∧kd<X.length:=by
       have:=isPb_iff.1 (Hpb.out k hkl)
       exact ⟨(N.nd.kids.getD k 0).toNat,by omega,by omega⟩
      have hqg:q≠g6:=own_ne_atB HT.out.k HT.out.nd (by decide)
      rw [hkd] at k1 hT2
      rw [Int.toNat_natCast] at hT2
      have HFL:Hid (∀W,Fr (fun b=>b=q) wr W→LsAt W (some ⟨bl,ol,none⟩) (nV O)):=fun W hW=>by
       have h0:LsQ (fun b=>b<u.heap.size) wr (some ⟨bl,ol,none⟩) (nV O):=by
        obtain ⟨b',o',k1,k2⟩:=LsAt.belowB HO1.out HB.out
        exact ⟨b',o',k1,fun i hi=>⟨⟨(k2 i hi).1,Nat.lt_of_lt_of_le (k2 i hi).1 HB2.out.size⟩,(HB2.out.cell (p:=⟨b',o'+i,none⟩) (k2 i hi).1).trans (k2 i hi).2⟩⟩
       exact (h0.fr hW (fun b hb _ e=>by omega)).toAt
      clear HT HX HL2 Hv HK HB hkd
      go_wp2_with fail
      refine facts_region7 (fun W=>Fr (fun b=>b=q) wr W) (r10F X.length bl ol cl g6 q k kd (plZ O kd) N.nd.kids.length e3 (fun W=>Tgf W u.heap.size g6 N.nd (fun z=>plZ O z.toNat) (k+1) b1 b2 (some ⟨q,0,none⟩) e1 e2 e3)) 11 (r10I q k kd (plZ O kd) (fun W=>Tgf W u.heap.size g6 N.nd (fun z=>plZ O z.toNat) (k+1) b1 b2 (some ⟨q,0,none⟩) e1 e2 e3)) (by kernel_rfl) (by kernel_rfl) (Fr.refl _ _).drew ⟨k1,k2,⟨k3,hT2.drew⟩⟩ ?loc ?step ?fin
      case loc=>
       intro j' o' V V' W ho hd hk h
       rcases j' with _|_|_|_|_|_|_|_|_|_|_|_|j'
       ·obtain rfl:=Option.some.inj ho
        have e:V (some 36)=V' (some 36):=hd
        simp only [r10F] at h ⊢
        rw [← e];exact h
       ·obtain rfl:=Option.some.inj ho
        have e:V (some 37)=V' (some 37):=hd
        simp only [r10F] at h ⊢
        rw [← e];exact h
       ·obtain rfl:=Option.some.inj ho
        have e:V (some 38)=V' (some 38):=hd
        simp only [r10F] at h ⊢
        rw [← e];exact h
       ·obtain rfl:=Option.some.inj ho
        have e:V (some 39)=V' (some 39):=hd
        simp only [r10F] at h ⊢
        rw [← e];exact h
       ·obtain rfl:=Option.some.inj ho
        have e:V (some 40)=V' (some 40):=hd
        simp only [r10F] at h ⊢
        rw [← e];exact h
       ·obtain rfl:=Option.some.inj ho
        have e:V (some 41)=V' (some 41):=hd
        simp only [r10F] at h ⊢
        rw [← e];exact h
       ·obtain rfl:=Option.some.inj ho
        have e:V (some 42)=V' (some 42):=hd
        simp only [r10F] at h ⊢
        rw [← e];exact h
       ·obtain rfl:=Option.some.inj ho
        have e:V (some 43)=V' (some 43):=hd
        simp only [r10F] at h ⊢
        rw [← e];exact h
       ·obtain rfl:=Option.some.inj ho
        have e:V (some 44)=V' (some 44):=hd
        simp only [r10F] at h ⊢
        rw [← e];exact h
       ·obtain rfl:=Option.some.inj ho
        have e:V (some 45)=V' (some 45):=hd
        simp only [r10F] at h ⊢
        rw [← e];exact h
       ·obtain rfl:=Option.some.inj ho
        have e:V (some 46)=V' (some 46):=hd
        simp only [r10F] at h ⊢
        rw [← e];exact h
       ·obtain rfl:=Option.some.inj ho
        exact h
       ·exact absurd ho (by simp)
      case step=>
       intro i' o' ho a W hG hoff hdep hI K hQ hK
       rcases i' with _|_|_|_|_|_|_|_|_|_|_|_|i'
       ·obtain rfl:=Option.some.inj ho
        have t6:a.tmps[6]?.getD undef=.pointer (some ⟨g6,0,none⟩):=hoff 6 (by kernel_rfl)
        clear hdep hoff hI
        go_simp
        exact hQ _ (fun _ h1 _=>h1)
       ·obtain rfl:=Option.some.inj ho
        have e0:a.tmps[36]?.getD undef=.pointer (some ⟨g6,3,none⟩):=hdep 0 (by kernel_rfl)
        clear hdep hoff hI
        have y3W:W.cell? ⟨g6,3,none⟩=some (.slice (some ⟨q,0,none⟩) N.nd.kids.length e3):=(World.cell?_of_block (hG.block g6 hg6l (by omega))).trans y3
        go_simp
        exact hQ _ (fun _ h1 _=>h1)
       ·obtain rfl:=Option.some.inj ho
        have t7:a.tmps[7]?.getD undef=.int .i64 (k:Int):=hoff 7 (by kernel_rfl)
        clear hdep hoff hI
        go_simp
        exact hQ _ (fun _ h1 _=>h1)
       ·obtain rfl:=Option.some.inj ho
        have t3:a.tmps[3]?.getD undef=.slice (some ⟨bl,ol,none⟩) X.length cl:=hoff 3 (by kernel_rfl)
        clear hdep hoff hI
        go_simp
        exact hQ _ (fun _ h1 _=>h1)
       ·obtain rfl:=Option.some.inj ho
        have t6:a.tmps[6]?.getD undef=.pointer (some ⟨g6,0,none⟩):=hoff 6 (by kernel_rfl)
        clear hdep hoff hI
        go_simp
        exact hQ _ (fun _ h1 _=>h1)
       ·obtain rfl:=Option.some.inj ho
        have e4:a.tmps[40]?.getD undef=.pointer (some ⟨g6,3,none⟩):=hdep 4 (by kernel_rfl)
        clear hdep hoff hI
        have y3W:W.cell? ⟨g6,3,none⟩=some (.slice (some ⟨q,0,none⟩) N.nd.kids.length e3):=(World.cell?_of_block (hG.block g6 hg6l (by omega))).trans y3
        go_simp
        exact hQ _ (fun _ h1 _=>h1)
       ·obtain rfl:=Option.some.inj ho
        have t7:a.tmps[7]?.getD undef=.int .i64 (k:Int):=hoff 7 (by kernel_rfl)
        clear hdep hoff hI
        go_simp
        exact hQ _ (fun _ h1 _=>h1)
       ·obtain rfl:=Option.some.inj ho
        have e5:a.tmps[41]?.getD undef=.slice (some ⟨q,0,none⟩) N.nd.kids.length e3:=hdep 5 (by kernel_rfl)
        have e6:a.tmps[42]?.getD undef=.int .i64 (k:Int):=hdep 6 (by kernel_rfl)
        clear hdep hoff hI
        go_simp
        exact hQ _ (fun _ h1 _=>h1)
       ·obtain rfl:=Option.some.inj ho
        have e7:a.tmps[43]?.getD undef=.pointer (some ⟨q,k,none⟩):=hdep 7 (by kernel_rfl)
        clear hdep hoff
        have kW:W.cell? ⟨q,k,none⟩=some (.int .i64 (kd:Int)):=(hI (by kernel_rfl)).1
        clear hI
        go_simp
        exact hQ _ (fun _ h1 _=>h1)
       ·obtain rfl:=Option.some.inj ho
        have e3:a.tmps[39]?.getD undef=.slice (some ⟨bl,ol,none⟩) X.length cl:=hdep 3 (by kernel_rfl)
        have e8:a.tmps[44]?.getD undef=.int .i64 (kd:Int):=hdep 8 (by kernel_rfl)
        clear hdep hoff hI
        have HC:Hid (Calls Tryz.prog 92 #[.slice (some ⟨bl,ol,none⟩) X.length cl,.int .i64 (kd:Int)] W fun e w'=>e=.returned (.int .i64 (plZ O kd))∧w'=W):=by
         have:=find_any O (some ⟨bl,ol,none⟩) cl kd W (HFL.out W hG) (by omega)
         rw [hol] at this
         exact this
        clear hG
        go_simp
        refine Calls.mono HC.out ?_
        rintro e w' ⟨rfl,rfl⟩
        exact hQ _ (fun _ h1 _=>h1)
       ·obtain rfl:=Option.some.inj ho
        have e1:a.tmps[37]?.getD undef=.slice (some ⟨q,0,none⟩) N.nd.kids.length e3:=hdep 1 (by kernel_rfl)
        have e2:a.tmps[38]?.getD undef=.int .i64 (k:Int):=hdep 2 (by kernel_rfl)
        clear hdep hoff hI
        go_simp
        exact hQ _ (fun _ h1 _=>h1)
       ·obtain rfl:=Option.some.inj ho
        have e9:a.tmps[45]?.getD undef=.int .i64 (plZ O kd):=hdep 9 (by kernel_rfl)
        have e10:a.tmps[46]?.getD undef=.pointer (some ⟨q,k,none⟩):=hdep 10 (by kernel_rfl)
        clear hdep hoff
        obtain ⟨kW,kf,hT⟩:=hI (by kernel_rfl)
        have hql:=hT.1
        have HT:Hid (Tgf (W.setCell ⟨q,k,none⟩ (.int .i64 (plZ O kd))) u.heap.size g6 N.nd (fun z=>plZ O z.toNat) (k+1) b1 b2 (some ⟨q,0,none⟩) e1 e2 e3):=hT.2
        have HG:Hid (Fr (fun b=>b=q) wr (W.setCell ⟨q,k,none⟩ (.int .i64 (plZ O kd)))):=hG.set ⟨q,k,none⟩ rfl _
        clear hI hG hT
        generalize plZ O kd=pk at *
        go_simp
        exact hK undef _ HG.out (fun h=>absurd rfl h) (fun j V hj h=>r10F_set hj h) (fun _ _ _=>HT.out)
       ·exact absurd ho (by simp)
      case fin=>
       intro V W hG hF
       have HT2:Hid (Tgf W u.heap.size g6 N.nd (fun z=>plZ O z.toNat) (k+1) b1 b2 (some ⟨q,0,none⟩) e1 e2 e3):=hF 11 _ rfl
       have HB3:Hid (Below u.heap.size u W):=Fr.below HB2.out hG (fun b e=>by omega) HB2.out.size
       clear hF hG HB2
       simp only [fillA,Act.put,List.setIfInBounds_toArray,List.set_cons_zero,List.set_cons_succ]
       generalize V (some 36)=z36
       generalize V (some 37)=z37
       generalize V (some 38)=z38
       generalize V (some 39)=z39
       generalize V (some 40)=z40
       generalize V (some 41)=z41
       generalize V (some 42)=z42
       generalize V (some 43)=z43
       generalize V (some 44)=z44
       generalize V (some 45)=z45
       generalize V (some 46)=z46
       go_wp2_with fail
       go_roundw
       case rel=>exact ⟨k+1,by go_num,by omega,HT2,HB3⟩
       case measure=>simp [intOf];omega
     ·have hkl':¬(k:Int)<N.nd.kids.length:=by omega
      obtain rfl:k=N.nd.kids.length:=by omega
      have y0:wr.cell? ⟨g6,0,none⟩=some (.int .i64 N.nd.kind):=HT.out.nd.cell 0
      have y1:wr.cell? ⟨g6,1,none⟩=some (.slice b1 N.nd.ints.length e1):=HT.out.nd.cell 1
      have y2:wr.cell? ⟨g6,2,none⟩=some (.slice b2 N.nd.texts.length e2):=HT.out.nd.cell 2
      have HKr:Hid (Mkg wr w1.heap.size w1.heap.size ((X.length:Int)-1) v Y):=HK.out.below HB2.out
      have x0:wr.cell? ⟨w1.heap.size,0,none⟩=some v:=HKr.out.sc.cell 0
      have HO:Hid (OwnNx wr u.heap.size (renNx (fun z=>plZ O z.toNat) N.nd b1 b2 b3 e1 e2 e3)):=HT.out.own
      have HBr:Hid (Below w1.heap.size w1 wr):=HB.out.trans (HB2.out.mono HB.out.size)
      have hszr:=HB2.out.size
      have HY:Hid ((renNx (fun z=>plZ O z.toNat) N.nd b1 b2 b3 e1 e2 e3).nd=renNd (fun z=>plZ O z.toNat) N.nd∧nxC (renNx (fun z=>plZ O z.toNat) N.nd b1 b2 b3 e1 e2 e3)=[.int .i64 N.nd.kind,.slice b1 N.nd.ints.length e1,.slice b2 N.nd.texts.length e2,.slice b3 N.nd.kids.length e3]):=⟨rfl,renNx_cells _ _ _ _ _ _ _ _⟩
      clear HT HB2 HK HB
      obtain ⟨av,cv,rfl⟩:=own_shape4 HKr.out.row
      generalize renNx (fun z=>plZ O z.toNat) N.nd b1 b2 b3 e1 e2 e3=yn at *
      go_wp2_with (at_builtin;refine wpList_append_lies _ rfl (.tmp 48) (.tmp 50) 22 rfl w1.heap.size 51 i0 (.agg #[.int .i64 0,.slice none 0 0,.slice none 0 0,.slice none 0 0]) 4 80 Tryz.underlying22 hi hz0 hz1 hz2 rfl (by decide) _ Y.length (nxV Y) rfl (HKr.out.row.alloc _) ⟨wr.heap.size,0,none⟩ 1 1 [.int .i64 N.nd.kind,.slice b1 N.nd.ints.length e1,.slice b2 N.nd.texts.length e2,.slice b3 N.nd.kids.length e3] rfl rfl (fun j z hz=>World.news_of_block (AtN.new wr 51 _) j z (by simpa using hz)) (by intro z hz;simp at hz;rcases hz with rfl|rfl|rfl|rfl <;> rfl) (by decide) (by unfold maxLen;omega) (by omega) (by simp;omega) _ rfl ?_)
      intro g2 cap2 w4 hown4 hgrow4 hlie hlt4
      have hAw:AtN 24 w4 w1.heap.size #[.slice av Y.length cv,.int .i64 ((X.length:Int)-1)]:=(HKr.out.sc.alloc _).kept hgrow4 (fun e=>Hv.out.1 e.symm)
      have x4:w4.cell? ⟨w1.heap.size,0,none⟩=some (.slice av Y.length cv):=hAw.cell 0
      have f4:=hAw.fz 0
      have hfr:Fr (MkS w1.heap.size (.slice av Y.length cv)) wr (w4.setCell ⟨w1.heap.size,0,none⟩ (.slice (some ⟨g2,0,none⟩) (Y.length+1) cap2)):=(((Fr.refl (MkS w1.heap.size (.slice av Y.length cv)) wr).alloc _).trans (Fr.of_grown hgrow4 (fun q e=>.inl e)) (fun i hi _=>hi)).set ⟨w1.heap.size,0,none⟩ (.inr rfl) _
      have hne:(Value.slice (some ⟨g2,0,none⟩) (Y.length+1) cap2).ownBlock≠some w1.heap.size:=by
       intro q
       simp only [Value.ownBlock,Option.some.injEq] at q
       rcases hlie with p|p
       ·rw [q] at p;exact Hv.out.1 p
       ·first|omega|(simp at p;omega)
      have hOw:OwnNx w4 u.heap.size yn:=OwnNx.kept (OwnNx.kept HO.out (World.grownBy_alloc wr _ none) (by simp)) hgrow4 Hv.out.2.1
      have HK5:Hid (Mkg (w4.setCell ⟨w1.heap.size,0,none⟩ (.slice (some ⟨g2,0,none⟩) (Y.length+1) cap2)) w1.heap.size w1.heap.size ((X.length:Int)-1) (.slice (some ⟨g2,0,none⟩) (Y.length+1) cap2) (Y++[yn])):=by
       refine HKr.out.next hfr (by simpa using AtN.set hAw 0 (.slice (some ⟨g2,0,none⟩) (Y.length+1) cap2)) ?_ (OwnNx.mono (hOw.kept (grown_set (grown_refl w4 (some w1.heap.size)) 0 _) (fun k hk=>by cases hk;omega)) (by omega))
       rw [HY.out.2]
       exact own_set' hown4 hne _
      have hS:∀z,MkS w1.heap.size (.slice av Y.length cv) z→w1.heap.size≤z:=fun z hz=>by
       rcases hz with hz|hz
       ·exact Hv.out.2.2 z hz
       ·omega
      have HB5:Hid (Below w1.heap.size w1 (w4.setCell ⟨w1.heap.size,0,none⟩ (.slice (some ⟨g2,0,none⟩) (Y.length+1) cap2))):=Fr.below HBr.out hfr hS (by omega)
      have HX5:=HX.out yn HY.out.1
      have HX6:Hid (∀j,j<(Y++[yn]).length→((Y++[yn]).getD j noNx).nd=renNd (fun z=>plZ O z.toNat) (X.getD (O.getD j 0) noNx).nd):=HX5
      have HL5:Hid ((Y++[yn]).length=i+1):=HL2.out yn
      clear hown4 hgrow4 hlie hAw hfr hne hOw hS HX5 HX HL2 HKr HO HBr HY Hv y0 y1 y2 y3 x0
      go_wp2_with fail
      go_roundw
      case rel=>exact ⟨i+1,_,Y++[yn],by go_num,by omega,HX6,HL5,HK5,HB5⟩
      case measure=>simp [intOf];omega
  ·have hlt':¬(i:Int)<X.length:=by omega
   obtain ⟨ay,cy,rfl⟩:=own_shape4 HK.out.row
   have y0:wr.cell? ⟨w1.heap.size,0,none⟩=some (.slice ay Y.length cy):=HK.out.sc.cell 0
   have y1:wr.cell? ⟨w1.heap.size,1,none⟩=some (.int .i64 ((X.length:Int)-1)):=HK.out.sc.cell 1
   have HR2:Hid (AtN 24 wr (w.heap.size+1) #[.slice none 0 0,.int .i64 0]):=HR1.out.belowAll HB.out
   have z0:wr.cell? ⟨w.heap.size+1,0,none⟩=some (.slice none 0 0):=HR2.out.cell 0
   have z1:wr.cell? ⟨w.heap.size+1,1,none⟩=some (.int .i64 0):=HR2.out.cell 1
   have f0:=HR2.out.fz 0
   have f1:=HR2.out.fz 1
   have hg1:=HR2.out.lt
   have HV:Hid (∀W,W=(wr.setCell ⟨w.heap.size+1,0,none⟩ (.slice ay Y.length cy)).setCell ⟨w.heap.size+1,1,none⟩ (.int .i64 ((X.length:Int)-1))→RCanOut2 X r w W (.returned (.agg #[.slice ay Y.length cy,.int .i64 ((X.length:Int)-1)]))∧AtN 24 W (w.heap.size+1) #[.slice ay Y.length cy,.int .i64 ((X.length:Int)-1)]):=fun W hW=>by
    subst hW
    have hfr:Fr (fun z=>z=w.heap.size+1) wr ((wr.setCell ⟨w.heap.size+1,0,none⟩ (.slice ay Y.length cy)).setCell ⟨w.heap.size+1,1,none⟩ (.int .i64 ((X.length:Int)-1))):=((Fr.refl (fun z=>z=w.heap.size+1) wr).set ⟨w.heap.size+1,0,none⟩ rfl _).set ⟨w.heap.size+1,1,none⟩ rfl _
    have hal:Alien wr (fun z=>z=w.heap.size+1):=fun z hz _=>⟨_,_,_,hz ▸ HR2.out,by decide,by decide,by decide⟩
    have hrw:∀z,(Value.slice ay Y.length cy).ownBlock=some z→¬z=w.heap.size+1:=fun z hz e=>own_ne_at HK.out.row HR2.out (by decide) z hz e
    have hl:Y.length=i:=HL.out
    have hlc:(cX X r).length=X.length:=HcL.out
    refine ⟨⟨Y,ay,cy,rfl,?_,⟨own_mono (own_fr HK.out.row hfr hrw) HB1.out.size,fun j hj=>((HK.out.each j hj).fr hfr hal).mono HB1.out.size⟩,Fr.below (HB1.out.trans (HB.out.mono HB1.out.size)) hfr (fun z e=>by omega) (by have:=HB1.out.size;omega)⟩,?_⟩
    ·refine List.ext_getElem? (fun j=>?_)
     by_cases hj:j<Y.length
     ·rw [Hcx.out j (by omega),← HM.out j hj,List.getElem?_map,List.getElem?_eq_getElem hj,List.getD_eq_getElem?_getD,List.getElem?_eq_getElem hj]
      rfl
     ·rw [List.getElem?_eq_none (by rw [List.length_map];omega),List.getElem?_eq_none (by omega)]
    ·have:=AtN.set (AtN.set HR2.out 0 (.slice ay Y.length cy)) 1 (.int .i64 ((X.length:Int)-1))
     simpa using this
   clear HM HL HK HB HS HR2
   go_wp2_with fail
   obtain ⟨v1,v2⟩:=HV.out _ rfl
   have c0:=v2.cell 0
   have c1:=v2.cell 1
   exact bodyPost_ret (v:=.agg #[.slice ay Y.length cy,.int .i64 ((X.length:Int)-1)]) (by simp [results,Tryz.results45,go_sem,c0,c1]) rfl v1
theorem rcanon_any (X:List Nx) (a:Option Addr) (c:Nat) (r:Int) (w:World) (h:ScAt w a X) (hX:Small X) (hR:RightIs X r) :
  Calls Tryz.prog 45 #[.agg #[.slice a X.length c,.int .i64 r]] w fun e w'=>RCanOut X r w w' e:=by
 refine Calls.mono (rcanon2_any X a c r w h hX hR) ?_
 rintro e w' ⟨Y,a',c',h1,h2,h3,h4⟩
 exact ⟨Y,a',c',h1,h2,⟨LsAt.of_own4' h3.1,fun j hj=>(h3.2 j hj).ndAt⟩,h4⟩
end Go.Proofs.YtgoffkfpdigeeaaGreatDoor
namespace Go.Proofs.YtgoffkfpdigeeaaGreatDoor
open Go.RowKit Go.Maps Go.WideMaps Go.Sort
structure Ren (X Y:List Nx) (p:Nat→Nat):Prop where
 per:Per X.length p
 len:Y.length=X.length
 nd:∀i,i<X.length→(Y.getD (p i) noNx).nd=renNd (fun z=>(p z.toNat:Int)) (X.getD i noNx).nd
section
variable {X Y:List Nx} {p:Nat→Nat} {r:Int}
theorem Ren.k (h:Ren X Y p):RenK (kX X) (kX Y) p:=by
 refine ⟨by rw [kX_length];exact h.per,by rw [kX_length,kX_length];exact h.len,fun i hi=>?_⟩
 rw [kX_length] at hi
 rw [kX_at X i hi,kX_at Y (p i) (by rw [h.len];exact h.per.lt i hi),h.nd i hi]
 simp only [renNd,List.map_map]
 refine List.map_congr_left fun z _=>?_
 simp
theorem getD_mapI (f:Int→Int) (l:List Int) (t:Nat) (ht:t<l.length):(l.map f).getD t 0=f l[t]:=by simp [ht]
theorem kid_place (hok:∀i,i<X.length→okAt X i) {i:Nat} (hi:i<X.length) {z:Int} (hz:z ∈ (X.getD i noNx).nd.kids):0≤z∧z.toNat<X.length:=by
 obtain ⟨t,ht,rfl⟩:=List.getElem_of_mem hz
 have:=hok i hi t ht
 rw [show (X.getD i noNx).nd.kids.getD t 0=(X.getD i noNx).nd.kids[t] by rw [List.getD_eq_getElem?_getD,List.getElem?_eq_getElem ht];rfl] at this
 have:=isPb_iff.1 this
 omega
theorem Ren.right (h:Ren X Y p) (hR:RightIs X r):RightIs Y (p r.toNat:Int):=by
 have hr:=hR.root
 have hk:=h.k
 refine ⟨?_,fun j hj t ht=>?_,(hk.dag hR.dag).2,fun y hy=>?_⟩
 ·rw [isPb_iff,h.len]
  have:=h.per.lt _ hr.2
  omega
 ·rw [h.len] at hj ⊢
  obtain ⟨i,hi,rfl⟩:=h.per.onto j hj
  rw [h.nd i hi] at ht ⊢
  simp only [renNd,List.length_map] at ht
  have hz:=kid_place hR.2.1 hi (List.getElem_mem ht)
  have hl:=h.per.lt _ hz.2
  simp only [renNd]
  rw [getD_mapI _ _ t ht,isPb_iff]
  omega
 ·rw [h.len] at hy
  obtain ⟨x,hx,rfl⟩:=h.per.onto y hy
  rw [Int.toNat_natCast]
  exact hk.rt (hR.2.2.2 x hx)
theorem Ren.ord (h:Ren X Y p) (hR:RightIs X r):oX Y (p r.toNat:Int)=(oX X r).map p:=by
 unfold oX
 rw [Int.toNat_natCast]
 exact ordO_ren h.k (kX_ok hR.2.1) (by rw [kX_length];exact hR.root.2)
theorem Ren.can (h:Ren X Y p) (hR:RightIs X r):cX Y (p r.toNat:Int)=cX X r:=by
 have ho:=h.ord hR
 have hlt:∀i ∈ oX X r,i<X.length:=fun i hi=>by have:=hR.ord.good.lt i hi;rwa [kX_length] at this
 unfold cX
 rw [ho,List.map_map]
 refine List.map_congr_left fun i hi=>?_
 simp only [Function.comp]
 rw [h.nd i (hlt i hi)]
 simp only [renNd,List.map_map]
 congr 1
 refine List.map_congr_left fun z hz=>?_
 have hz':=kid_place hR.2.1 (hlt i hi) hz
 simp only [Function.comp,pX]
 rw [ho,Int.toNat_natCast,idx_ren (K:=kX X) (by rw [kX_length];exact h.per) (fun x hx=>by rw [kX_length];exact hlt x hx) (by rw [kX_length];exact hz'.2)]
theorem Ren.small (h:Ren X Y p) (hX:Small X):Small Y:=by
 refine ⟨by rw [h.len];exact hX.1,fun j hj=>?_⟩
 rw [h.len] at hj
 obtain ⟨i,hi,rfl⟩:=h.per.onto j hj
 rw [h.nd i hi,renNd_big]
 exact hX.2 i hi
theorem fold1_ren (f g:Nat→Nat) (l:List Nat):fold1 f (l.map g)=fold1 (fun k=>f (g k)) l:=by simp [fold1,List.foldl_map]
theorem DepthIs.one {d d':Nat} (h:DepthIs X r d) (h':DepthIs X r d') (hR:RightIs X r):d'=d:=by
 obtain ⟨f,h1,rfl,_⟩:=h.2 hR
 obtain ⟨g,h2,rfl,_⟩:=h'.2 hR
 exact HtIs.uniq h2 h1 (kX_ok hR.2.1) _ _ rfl (by rw [kX_length];exact hR.root.2)
theorem Ren.depth (h:Ren X Y p) (hR:RightIs X r) {d d':Nat} (hd:DepthIs X r d) (hd':DepthIs Y (p r.toNat:Int) d'):d'=d:=by
 obtain ⟨f,h1,rfl,_⟩:=hd.2 hR
 obtain ⟨g,h2,rfl,_⟩:=hd'.2 (h.right hR)
 rw [Int.toNat_natCast]
 have hk:=h.k
 have h3:HtIs (kX X) (fun x=>g (p x)):=fun a ha=>by
  have:=h2 (p a) (by rw [hk.len];exact hk.per.lt a ha)
  rw [hk.kids a ha,fold1_ren] at this
  exact this
 exact HtIs.uniq h3 h1 (kX_ok hR.2.1) _ r.toNat rfl (by rw [kX_length];exact hR.root.2)
theorem edg_range (X:List Nx):edg X=((List.range X.length).map fun i=>(X.getD i noNx).nd.kids.length).sum:=by
 unfold edg
 congr 1
 refine List.ext_getElem (by simp) (fun i h1 h2=>?_)
 have:i<X.length:=by simpa using h1
 simp [this]
theorem Ren.edg (h:Ren X Y p):edg Y=edg X:=by
 rw [edg_range Y,edg_range X,h.len]
 have hp:((List.range X.length).map p).Perm (List.range X.length):=by
  refine (List.perm_ext_iff_of_nodup ?_ List.nodup_range).2 (fun y=>?_)
  ·refine List.pairwise_map.2 ?_
   refine List.Pairwise.imp_of_mem (R:=fun a b=>a≠b) (fun {a b} ha hb hne q=>hne (h.per.inj a b (List.mem_range.1 ha) (List.mem_range.1 hb) q)) ?_
   exact List.nodup_range
  ·constructor
   ·intro hy
    obtain ⟨x,hx,rfl⟩:=List.mem_map.1 hy
    exact List.mem_range.2 (h.per.lt x (List.mem_range.1 hx))
   ·intro hy
    obtain ⟨x,hx,rfl⟩:=h.per.onto y (List.mem_range.1 hy)
    exact List.mem_map_of_mem (List.mem_range.2 hx)
 rw [← List.Perm.sum_nat (hp.map fun i=>(Y.getD i noNx).nd.kids.length),List.map_map]
 congr 1
 refine List.map_congr_left fun i hi=>?_
 simp only [Function.comp]
 rw [h.nd i (List.mem_range.1 hi)]
 simp [renNd]
end
theorem can_ren {X Y:List Nx} {r:Int} (hR:RightIs X r) (hY:Y.map Nx.nd=cX X r):Ren X Y (oX X r).idxOf:=by
 have hord:=hR.ord
 have hol:=oX_length hR
 have hlen:Y.length=X.length:=by
  have:=congrArg List.length hY
  simp only [List.length_map,cX] at this
  omega
 refine ⟨⟨fun i hi=>?_,fun i j hi hj e=>idx_inj (oX_all hR i hi) (oX_all hR j hj) e⟩,hlen,fun i hi=>?_⟩
 ·have:=hord.idx (x:=i) (by rw [kX_length];exact hi)
  rwa [kX_length] at this
 ·have hil:(oX X r).idxOf i<(oX X r).length:=List.idxOf_lt_length_of_mem (oX_all hR i hi)
  have h1:(Y.map Nx.nd)[(oX X r).idxOf i]? = (cX X r)[(oX X r).idxOf i]? := by rw [hY]
  unfold cX at h1
  rw [List.getElem?_map,List.getElem?_map,List.getElem?_eq_getElem hil,List.getElem?_eq_getElem (by omega)] at h1
  have e:(oX X r)[(oX X r).idxOf i]=i:=List.getElem_idxOf hil
  rw [e] at h1
  rw [List.getD_eq_getElem?_getD,List.getElem?_eq_getElem (by omega)]
  show _=renNd (pX X r) _
  simpa using h1
theorem can_root {X:List Nx} {r:Int} (hR:RightIs X r):(((oX X r).idxOf r.toNat:Nat):Int)=(X.length:Int)-1:=by
 have:(oX X r).idxOf r.toNat+1=(kX X).length:=hR.ord.last
 rw [kX_length] at this
 omega
theorem can_ahead {X Y:List Nx} {r:Int} (hR:RightIs X r) (hY:Y.map Nx.nd=cX X r) (i:Nat) (hi:i<X.length) (z:Int) (hz:z ∈ (Y.getD i noNx).nd.kids):0≤z∧z<i:=by
 have h:=can_ren hR hY
 obtain ⟨x,hx,rfl⟩:=h.per.onto i hi
 rw [h.nd x hx] at hz
 simp only [renNd] at hz
 obtain ⟨t,ht,rfl⟩:=List.mem_map.1 hz
 have h1:=kid_place hR.2.1 hx ht
 have h2:=(hR.ord.good.kids x (oX_all hR x hx) t.toNat (by
  unfold Ed
  rw [kX_at X x hx]
  exact List.mem_map_of_mem ht)).2
 have h3:(oX X r).idxOf t.toNat<(oX X r).idxOf x:=h2
 omega
theorem can_right {X Y:List Nx} {r:Int} (hR:RightIs X r) (hY:Y.map Nx.nd=cX X r):RightIs Y ((X.length:Int)-1):=by
 have:=(can_ren hR hY).right hR
 rwa [can_root hR] at this
theorem can_can {X Y:List Nx} {r:Int} (hR:RightIs X r) (hY:Y.map Nx.nd=cX X r):cX Y ((X.length:Int)-1)=cX X r:=by
 have:=(can_ren hR hY).can hR
 rwa [can_root hR] at this
end Go.Proofs.YtgoffkfpdigeeaaGreatDoor
namespace Go.Proofs.YtgoffkfpdigeeaaGreatDoor
open Go.ChangeShapes Go.WideShapes Go.ChangeAt Go.RowKit Go.Joins Go.Deep
structure IsSc (w:World) (a:Option Addr) (X:List Nx) (r:Int):Prop where
 sc:ScAt w a X
 root:inR r
 rg:∀i,i<X.length→RgN (X.getD i noNx).nd
theorem IsSc.kids {w:World} {a:Option Addr} {X:List Nx} {r:Int} (h:IsSc w a X r):∀i,i<X.length→∀k ∈ (X.getD i noNx).nd.kids,inR k:=fun i hi=>(h.rg i hi).kids
section
variable {H:Type} {enc:TypeId × Value→H} {P:Program} {w:World}
theorem wf_i64 {n:Int} (h:(Lit.int .i64 n).wf=true):inR n:=by
 simp only [Lit.wf,Bool.and_eq_true,decide_eq_true_eq] at h
 exact h
theorem choose9 {α : Type} (d : α) {p:Nat→α→Prop} {m:Nat} (h:∀i,i<m→∃a,p i a):∃f:Nat→α,∀i,i<m→p i (f i):=by
 classical
 refine ⟨fun i=>if hi:i<m then Classical.choose (h i hi) else d,fun i hi=>?_⟩
 simp only [hi,dif_pos]
 exact Classical.choose_spec (h i hi)
theorem cells_in {y:Addr} {m:Nat} {V:Nat→Value} (h:∀i,i<m→w.cell? (y.add i)=some (V i)) (len:Nat) (hl:len≤m):LsAt w (some y) ((List.range len).map V):=by
 by_cases h0:len=0
 ·subst h0;exact LsAt.nil _ _
 have hs:=World.cell?_spot (h 0 (by omega))
 have hsp:y.spot=none:=by simpa [Addr.add] using hs
 obtain ⟨b,o,sp⟩:=y
 simp at hsp
 subst hsp
 refine ⟨b,o,fun _=>rfl,fun i hi=>?_⟩
 simp at hi
 have hc:=h i (by omega)
 rw [add_plain] at hc
 exact ⟨block_lt_of_cell hc,by rw [hc];simp [hi]⟩
theorem open_ints9 {t e:TypeId} {v:Value} {n:Nat} {x:DataW H × List MemPlace} (ht:P.underlying t=some (.slice e)) (he:P.underlying e=some (.int .i64)) (ce:P.cellsOf e=1) (h:DataW.trod enc P w 0 (fun _=>true) true n t [v]=some x) :
  ∃L a c,v=.slice a (List.length L) c∧LsAt w a (iV L)∧∀k ∈ L,inR k:=by
 rcases Go.Deep.open_slice1 ht ce h with ⟨hcs,_⟩|⟨y,len,cap,m,k,V,D,Pl,hcs,_,hl,hm,hmm,_,hx⟩
 ·simp at hcs
  subst hcs
  exact ⟨[],none,0,rfl,LsAt.nil _ _,fun k hk=>by simp at hk⟩
 ·simp at hcs hmm
  subst hcs hmm
  have each:∀i,i<m→∃z:Int,V i=.int .i64 z∧inR z:=fun i hi=>by
   obtain ⟨z,h1,_,h3⟩:=DataW.trod_int he (hx i hi).2
   exact ⟨z,by simpa using h1,wf_i64 h3⟩
  obtain ⟨Z,hZ⟩:=Go.Deep.choose_lt each
  refine ⟨(List.range len).map Z,some y,m,by simp,?_,?_⟩
  ·have:=cells_in (fun i hi=>(hx i hi).1) len hl
   rw [show iV ((List.range len).map Z)=(List.range len).map V by
    unfold iV
    rw [List.map_map]
    refine List.map_congr_left fun i hi=>?_
    have:=(hZ i (by have:=List.mem_range.1 hi;omega)).1
    simp [this]]
   exact this
  ·intro k hk
   obtain ⟨i,hi,rfl⟩:=List.mem_map.1 hk
   exact (hZ i (by have:=List.mem_range.1 hi;omega)).2
theorem open_texts9 {t e:TypeId} {v:Value} {n:Nat} {x:DataW H × List MemPlace} (ht:P.underlying t=some (.slice e)) (he:P.underlying e=some .string) (ce:P.cellsOf e=1) (h:DataW.trod enc P w 0 (fun _=>true) true n t [v]=some x) :
  ∃L a c,v=.slice a (List.length L) c∧LsAt w a (tV L):=by
 rcases Go.Deep.open_slice1 ht ce h with ⟨hcs,_⟩|⟨y,len,cap,m,k,V,D,Pl,hcs,_,hl,hm,hmm,_,hx⟩
 ·simp at hcs
  subst hcs
  exact ⟨[],none,0,rfl,LsAt.nil _ _⟩
 ·simp at hcs hmm
  subst hcs hmm
  have each:∀i,i<m→∃z:ByteArray,V i=.string z:=fun i hi=>by
   obtain ⟨z,h1,_,h3⟩:=DataW.trod_string he (hx i hi).2
   exact ⟨z,by simpa using h1⟩
  obtain ⟨Z,hZ⟩:=Go.Deep.choose_lt each
  refine ⟨(List.range len).map Z,some y,m,by simp,?_⟩
  have:=cells_in (fun i hi=>(hx i hi).1) len hl
  rw [show tV ((List.range len).map Z)=(List.range len).map V by
   unfold tV
   rw [List.map_map]
   refine List.map_congr_left fun i hi=>?_
   have:=hZ i (by have:=List.mem_range.1 hi;omega)
   simp [this]]
  exact this
theorem open_nodes {t e:TypeId} {f0 f1 f2 f3:Field} {e1 e2 e3:TypeId} {v:Value} {n:Nat} {x:DataW H × List MemPlace} (ht:P.underlying t=some (.slice e)) (he:P.underlying e=some (.struct #[f0,f1,f2,f3])) (ce:P.cellsOf e=4)
  (o0:f0.offset=0) (o1:f1.offset=1) (o2:f2.offset=2) (o3:f3.offset=3) (c0:P.cellsOf f0.type=1) (c1:P.cellsOf f1.type=1) (c2:P.cellsOf f2.type=1) (c3:P.cellsOf f3.type=1)
  (u0:P.underlying f0.type=some (.int .i64)) (u1:P.underlying f1.type=some (.slice e1)) (u2:P.underlying f2.type=some (.slice e2)) (u3:P.underlying f3.type=some (.slice e3)) (q1:P.underlying e1=some (.int .i64)) (q2:P.underlying e2=some .string) (q3:P.underlying e3=some (.int .i64))
  (k1:P.cellsOf e1=1) (k2:P.cellsOf e2=1) (k3:P.cellsOf e3=1) (h:DataW.trod enc P w 0 (fun _=>true) true n t [v]=some x) :
  ∃X a c,v=.slice a (List.length X) c∧ScAt w a X∧∀i,i<X.length→RgN (X.getD i noNx).nd:=by
 rcases Go.Deep.open_slice ht h with ⟨hcs,_⟩|⟨y,len,cap,m,n',D,Pl,hcs,_,hl,hm,hmm,_,hx⟩
 ·simp at hcs
  subst hcs
  exact ⟨[],none,0,rfl,⟨LsAt.nil _ _,fun i hi=>by simp at hi⟩,fun i hi=>by simp at hi⟩
 ·simp at hcs hmm
  subst hcs hmm
  rw [ce] at hx
  have each:∀i,i<m→∃q:Nx,(∀j,j<4→w.cell? (y.add (i*4+j))=(nxC q)[j]?)∧NdAt w q.nd q.a1 q.a2 q.a3∧RgN q.nd:=by
   intro i hi
   obtain ⟨cs,h1,h2⟩:=hx i hi
   obtain ⟨_,hlen,hcell⟩:=World.cells?_some h1
   match cs,hlen with
   | [g0,g1,g2,g3],_=>
    obtain ⟨y0,y1,y2,y3,k,_,_,t0,t1,t2,t3⟩:=trod_struct4 he h2
    rw [o0,c0] at t0
    rw [o1,c1] at t1
    rw [o2,c2] at t2
    rw [o3,c3] at t3
    obtain ⟨z,e0,_,hz⟩:=DataW.trod_int u0 t0
    obtain ⟨I,a1,d1,r1,l1,hI⟩:=open_ints9 (v:=g1) u1 q1 k1 t1
    obtain ⟨T,a2,d2,r2,l2⟩:=open_texts9 (v:=g2) u2 q2 k2 t2
    obtain ⟨K,a3,d3,r3,l3,hK⟩:=open_ints9 (v:=g3) u3 q3 k3 t3
    simp at e0
    subst e0 r1 r2 r3
    refine ⟨⟨⟨z,I,T,K⟩,a1,d1,a2,d2,a3,d3⟩,fun j hj=>?_,⟨l1,l2,l3⟩,⟨wf_i64 hz,hI,hK⟩⟩
    have:=hcell j (by omega)
    rw [Addr.add_add] at this
    rw [this]
    rfl
  obtain ⟨z,hz⟩:=choose9 noNx each
  have hget:∀i,i<len→((List.range len).map z).getD i noNx=z i:=fun i hi=>by simp [hi]
  refine ⟨(List.range len).map z,some y,m,by simp,⟨?_,fun i hi=>?_⟩,fun i hi=>?_⟩
  ·by_cases h0:len=0
   ·subst h0;exact LsAt.nil _ _
   have hs:=World.cell?_spot (((hz 0 (by omega)).1 0 (by omega)).trans (show _=some (Value.int .i64 (z 0).nd.kind) from rfl))
   have hsp:y.spot=none:=by simpa [Addr.add] using hs
   obtain ⟨b,o,sp⟩:=y
   simp at hsp
   subst hsp
   have hL:((List.range len).map z).length=len:=by simp
   refine ⟨b,o,fun _=>rfl,fun i hi=>?_⟩
   rw [nxV_length,hL] at hi
   have hc:=(hz (i / 4) (by omega)).1 (i % 4) (by omega)
   rw [show i / 4*4+i % 4=i by omega,add_plain] at hc
   have hv:=nxV_at ((List.range len).map z) (i / 4) (i % 4) (by rw [hL];omega) (by omega)
   rw [hget _ (by omega),show i / 4*4+i % 4=i by omega] at hv
   rw [hv,← hc]
   refine ⟨?_,rfl⟩
   have:∃u,(nxC (z (i / 4)))[i % 4]? = some u:=by
    rcases (by omega:i % 4=0∨i % 4=1∨i % 4=2∨i % 4=3) with q|q|q|q <;> rw [q] <;> exact ⟨_,rfl⟩
   obtain ⟨u,hu⟩:=this
   rw [hu] at hc
   exact block_lt_of_cell hc
  ·have hi':i<len:=by simpa using hi
   rw [hget i hi']
   exact (hz i (by omega)).2.1
  ·have hi':i<len:=by simpa using hi
   rw [hget i hi']
   exact (hz i (by omega)).2.2
theorem open_scene {r:Reach} {b0:Nat} {ts e:TypeId} {g0 g1 f0 f1 f2 f3:Field} {e1 e2 e3:TypeId} {v:Value} {d:DataW H} {p:List MemPlace} (hs:P.underlying ts=some (.struct #[g0,g1])) (hone:oneCellFields P #[g0,g1]=true) (hC:P.cellsOf ts=2)
  (ht:P.underlying g0.type=some (.slice e)) (hr:P.underlying g1.type=some (.int .i64)) (he:P.underlying e=some (.struct #[f0,f1,f2,f3])) (ce:P.cellsOf e=4)
  (o0:f0.offset=0) (o1:f1.offset=1) (o2:f2.offset=2) (o3:f3.offset=3) (c0:P.cellsOf f0.type=1) (c1:P.cellsOf f1.type=1) (c2:P.cellsOf f2.type=1) (c3:P.cellsOf f3.type=1)
  (u0:P.underlying f0.type=some (.int .i64)) (u1:P.underlying f1.type=some (.slice e1)) (u2:P.underlying f2.type=some (.slice e2)) (u3:P.underlying f3.type=some (.slice e3)) (q1:P.underlying e1=some (.int .i64)) (q2:P.underlying e2=some .string) (q3:P.underlying e3=some (.int .i64))
  (k1:P.cellsOf e1=1) (k2:P.cellsOf e2=1) (k3:P.cellsOf e3=1) (hv:Value.okWide P w r b0 ts v) (h:DataW.Trod enc P w 0 (fun _=>true) true ts v d p) :
  ∃X a c q,v=.agg #[.slice a (List.length X) c,.int .i64 q]∧IsSc w a X q:=by
 obtain ⟨v0,v1,y0,y1,n,rfl,_,_,t0,t1⟩:=open_agg2 hs hone hC hv h
 obtain ⟨X,a,c,rfl,h1,h2⟩:=open_nodes ht he ce o0 o1 o2 o3 c0 c1 c2 c3 u0 u1 u2 u3 q1 q2 q3 k1 k2 k3 t0
 obtain ⟨z,e0,_,hz⟩:=DataW.trod_int hr t1
 simp at e0
 subst e0
 exact ⟨X,a,c,z,rfl,h1,wf_i64 hz,h2⟩
end
end Go.Proofs.YtgoffkfpdigeeaaGreatDoor
namespace Go.Proofs.YtgoffkfpdigeeaaGreatDoor
open Go.RowKit Go.Maps Go.WideMaps Go.Sort
theorem CheckIs.zero {X:List Nx} {r e z:Int} (h:CheckIs X r e z) (hr:RightIs X r):e=0∧z=0:=by
 have he:=h.right.2 hr
 refine ⟨he,?_⟩
 rcases h with ⟨h1,q,_⟩|⟨_,i,_,q,_⟩|⟨_,_,⟨i,q,_⟩|⟨_,⟨i,q,_⟩|⟨_,q,_⟩⟩⟩
 ·omega
 ·omega
 ·omega
 ·omega
 ·exact q
theorem CheckIs.cyc {X:List Nx} {r e z:Int} {i:Nat} (h:CheckIs X r e z) (h1:isPb X.length r=true) (h2:∀i,i<X.length→okAt X i) (h3:FirstCyc (kX X) i):e=14∧z=i:=by
 rcases h with ⟨q,_⟩|⟨_,j,hj,_,_,q,_⟩|⟨_,_,⟨j,rfl,rfl,q⟩|⟨q,_⟩⟩
 ·rw [h1] at q;cases q
 ·exact absurd (h2 j hj) q
 ·refine ⟨rfl,?_⟩
  rcases Nat.lt_trichotomy i j with p|p|p
  ·exact absurd h3.1 (q.2 i p)
  ·rw [p]
  ·exact absurd q.1 (h3.2 j p)
 ·exact absurd h3.1 (q i)
theorem CheckIs.loose {X:List Nx} {r e z:Int} {i:Nat} (h:CheckIs X r e z) (h1:isPb X.length r=true) (h2:∀i,i<X.length→okAt X i) (h3:∀x,¬Lead (Ed (kX X)) x x) (h4:i<X.length) (h5:¬Rt (Ed (kX X)) r.toNat i) (h6:∀j,j<i→Rt (Ed (kX X)) r.toNat j):e=15∧z=i:=by
 rcases h with ⟨q,_⟩|⟨_,j,hj,_,_,q,_⟩|⟨_,_,⟨j,_,_,q⟩|⟨_,⟨j,rfl,rfl,hj,q1,q2⟩|⟨_,_,q⟩⟩⟩
 ·rw [h1] at q;cases q
 ·exact absurd (h2 j hj) q
 ·exact absurd q.1 (h3 j)
 ·refine ⟨rfl,?_⟩
  rcases Nat.lt_trichotomy i j with p|p|p
  ·exact absurd (q2 i p) h5
  ·rw [p]
  ·exact absurd (h6 j p) q1
 ·exact absurd (q i h4) h5
theorem CheckIs.uniq {X:List Nx} {r e z e' z':Int} (h:CheckIs X r e z) (h':CheckIs X r e' z'):e'=e∧z'=z:=by
 rcases h with ⟨h1,rfl,rfl⟩|⟨h1,i,hi,rfl,rfl,hno,hbe⟩|⟨h1,h2,⟨i,rfl,rfl,hf⟩|⟨h3,⟨i,rfl,rfl,hi,hn,hb⟩|⟨rfl,rfl,h4⟩⟩⟩
 ·rcases h' with ⟨_,q1,q2⟩|⟨q,_⟩|⟨q,_⟩
  ·exact ⟨q1,q2⟩
  ·rw [h1] at q;cases q
  ·rw [h1] at q;cases q
 ·rcases h' with ⟨q,_⟩|⟨_,j,hj,rfl,rfl,q1,q2⟩|⟨_,q,_⟩
  ·rw [h1] at q;cases q
  ·refine ⟨rfl,?_⟩
   rcases Nat.lt_trichotomy i j with p|p|p
   ·exact absurd (q2 i p) hno
   ·rw [p]
   ·exact absurd (hbe j p) q1
  ·exact absurd (q i hi) hno
 ·exact h'.cyc h1 h2 hf
 ·exact h'.loose h1 h2 h3 hi hn hb
 ·exact h'.zero ⟨h1,h2,h3,h4⟩
section
variable {X Y:List Nx}
theorem same_len (h:Y.map Nx.nd=X.map Nx.nd):Y.length=X.length:=by simpa using congrArg List.length h
theorem same_nd (h:Y.map Nx.nd=X.map Nx.nd) (i:Nat):(Y.getD i noNx).nd=(X.getD i noNx).nd:=by
 have h1:(Y.map Nx.nd)[i]? = (X.map Nx.nd)[i]? := by rw [h]
 rw [List.getElem?_map,List.getElem?_map] at h1
 rw [List.getD_eq_getElem?_getD,List.getD_eq_getElem?_getD]
 cases hy:Y[i]? with
 | none=>
  rw [hy] at h1
  cases hx:X[i]? with
  | none=>rfl
  | some x=>rw [hx] at h1;cases h1
 | some y=>
  rw [hy] at h1
  cases hx:X[i]? with
  | none=>rw [hx] at h1;cases h1
  | some x=>rw [hx] at h1;simpa using h1
theorem same_k (h:Y.map Nx.nd=X.map Nx.nd):kX Y=kX X:=by
 have:∀Z:List Nx,kX Z=(Z.map Nx.nd).map fun N=>N.kids.map Int.toNat:=fun Z=>by simp [kX,kOf,lks,lnOf]
 rw [this,this,h]
theorem same_ok (h:Y.map Nx.nd=X.map Nx.nd) (i:Nat):okAt Y i↔okAt X i:=by
 unfold okAt
 rw [same_len h,same_nd h]
theorem same_check (h:Y.map Nx.nd=X.map Nx.nd) {r e z:Int} (hc:CheckIs Y r e z):CheckIs X r e z:=by
 unfold CheckIs at hc ⊢
 simp only [same_len h,same_k h,same_ok h] at hc
 exact hc
theorem same_right (h:Y.map Nx.nd=X.map Nx.nd) {r:Int}:RightIs Y r↔RightIs X r:=by
 unfold RightIs
 simp only [same_len h,same_k h,same_ok h]
theorem same_depth (h:Y.map Nx.nd=X.map Nx.nd) {r:Int} {d:Nat} (hc:DepthIs Y r d):DepthIs X r d:=by
 unfold DepthIs at hc ⊢
 simp only [same_len h,same_k h,same_right h] at hc
 exact hc
end
theorem at_ls {T:TypeId} {W:World} {g:Nat} {cs:List Value} (h:AtN T W g cs.toArray):LsAt W (some ⟨g,0,none⟩) cs:=h.lsQ.toAt
structure Lw (w W:World) (a:Option Addr) (X:List Nx) (c:Nat) (r:Int):Prop where
 at_:AtN 24 W w.heap.size #[.slice a X.length c,.int .i64 r]
 bel:Below w.heap.size w W
theorem Lw.more {w W W':World} {a:Option Addr} {X:List Nx} {c:Nat} {r:Int} (h:Lw w W a X c r) (hb:Below W.heap.size W W'):Lw w W' a X c r:=⟨h.at_.belowAll hb,h.bel.trans (hb.mono h.bel.size)⟩
theorem Lw.start (w:World) (a:Option Addr) (X:List Nx) (c:Nat) (r:Int):Lw w (w.alloc (.cells #[.slice a X.length c,.int .i64 r] 24)) a X c r:=⟨AtN.new w 24 _,(Below.refl w.heap.size w).alloc (Nat.le_refl _) _⟩
theorem Lw.sc {w W:World} {a:Option Addr} {X:List Nx} {c:Nat} {r q:Int} (h:Lw w W a X c r) (hs:IsSc w a X q):ScAt W a X:=hs.sc.belowB h.bel
theorem Lw.c0 {w W:World} {a:Option Addr} {X:List Nx} {c:Nat} {r:Int} (h:Lw w W a X c r):W.cell? ⟨w.heap.size,0,none⟩=some (.slice a X.length c):=h.at_.cell 0
theorem Lw.c1 {w W:World} {a:Option Addr} {X:List Nx} {c:Nat} {r:Int} (h:Lw w W a X c r):W.cell? ⟨w.heap.size,1,none⟩=some (.int .i64 r):=h.at_.cell 1
end Go.Proofs.YtgoffkfpdigeeaaGreatDoor
namespace Go.Proofs.YtgoffkfpdigeeaaGreatDoor
end Go.Proofs.YtgoffkfpdigeeaaGreatDoor
