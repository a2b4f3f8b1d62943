import Derived.Test.YtcgjgjjegnofeaaGreatDoorPB05
import Derived.Test.YtcgjgjjegnofeaaGreatDoorPB11
import Derived.Test.YtcgjgjjegnofeaaGreatDoorPB13
import Derived.Test.YtcgjgjjegnofeaaGreatDoorPB20
import Derived.Test.YtcgjgjjegnofeaaGreatDoorPB08
import Derived.Test.YtcgjgjjegnofeaaGreatDoorPB15
import Derived.Test.YtcgjgjjegnofeaaGreatDoorPB09
import Derived.Test.YtcgjgjjegnofeaaGreatDoorPB10
import Derived.Test.YtcgjgjjegnofeaaGreatDoorPB14
import Derived.Stop.Joined
import Derived.LaidMore
import Derived.SevenTiedAt
import Derived.Test.YtcgjgjjegnofeaaGreatDoorPB19
namespace Go.Proofs.YtcgjgjjegnofeaaGreatDoor
open Go.RowKit
def tyG:List Nx→Nat→Int × Int
 | [],_=>(0,0)
 | x :: t,k=>if tyN x.nd=0 then tyG t (k+1) else (tyN x.nd,(k:Int))
def tyE (X:List Nx):Int:=(tyG X 0).1
def tyZ (X:List Nx):Int:=(tyG X 0).2
theorem tyG_at (X:List Nx) (i:Nat) (h:i<X.length):tyG (X.drop i) i=if tyN (X.getD i noNx).nd=0 then tyG (X.drop (i+1)) (i+1) else (tyN (X.getD i noNx).nd,(i:Int)):=by
 rw [show X.drop i=X[i] :: X.drop (i+1) from List.drop_eq_getElem_cons h,show X.getD i noNx=X[i] by simp [h]]
 rfl
def FnX (X:List Nx):Prop:=∀i,i<X.length→fine (X.getD i noNx).nd.ints
set_option maxRecDepth 10000 in
set_option maxHeartbeats 400000 in
theorem typednode_any (N:Nd) (a1 a2 a3:Option Addr) (c1 c2 c3:Nat) (w:World) (h:NdAt w N a1 a2 a3) (hT:Tabs12 w) (hf:fine N.ints) (hg:big N=false) :
  Calls Tryz.prog 93 #[.agg #[.int .i64 N.kind,.slice a1 N.ints.length c1,.slice a2 N.texts.length c2,.slice a3 N.kids.length c3]] w fun e w'=>e=.returned (.int .i64 (tyN N))∧Below w.heap.size w w':=by
 have hgr:=big_no hg
 have n0:=AtN.new w 62 #[.int .i64 N.kind,.slice a1 N.ints.length c1,.slice a2 N.texts.length c2,.slice a3 N.kids.length c3]
 have b0:Below w.heap.size w (w.alloc (.cells #[.int .i64 N.kind,.slice a1 N.ints.length c1,.slice a2 N.texts.length c2,.slice a3 N.kids.length c3] 62)):=(Below.refl w.heap.size w).alloc (Nat.le_refl _) _
 have HN:Hid (Calls Tryz.prog 135 #[.int .i64 N.kind] (w.alloc (.cells #[.int .i64 N.kind,.slice a1 N.ints.length c1,.slice a2 N.texts.length c2,.slice a3 N.kids.length c3] 62)) fun e w'=>SpIs (w.alloc (.cells #[.int .i64 N.kind,.slice a1 N.ints.length c1,.slice a2 N.texts.length c2,.slice a3 N.kids.length c3] 62)) w' e (newSp N.kind)):=new_any N.kind _ (hT.on b0).k
 have HC:Hid (∀(W:World) (S:Sp) (b:Option Addr) (d:Nat),Below w.heap.size w W→LsAt W b (iV S.ints)→Calls Tryz.prog 136 #[.agg #[.int .i64 N.kind,.slice a1 N.ints.length c1,.slice a2 N.texts.length c2,.slice a3 N.kids.length c3],.agg #[.slice b S.ints.length d,.int .i64 S.texts,.int .i64 S.least,.int .i64 S.most]] W fun e w'=>e=.returned (.int .i64 (chkN N S.ints S.texts S.least S.most))∧Below W.heap.size W w'):=
  fun W S b d hW hb=>fcheck_any N S.ints S.texts S.least S.most a1 a2 a3 b c1 c2 c3 d W (h.belowB hW) hb (hT.on hW).s hf hgr.1 hgr.2.1 hgr.2.2.2
 have HA:Hid (AtN 62 (w.alloc (.cells #[.int .i64 N.kind,.slice a1 N.ints.length c1,.slice a2 N.texts.length c2,.slice a3 N.kids.length c3] 62)) w.heap.size #[.int .i64 N.kind,.slice a1 N.ints.length c1,.slice a2 N.texts.length c2,.slice a3 N.kids.length c3]):=n0
 have HB:Hid (Below w.heap.size w (w.alloc (.cells #[.int .i64 N.kind,.slice a1 N.ints.length c1,.slice a2 N.texts.length c2,.slice a3 N.kids.length c3] 62))):=b0
 have HV:Hid (tyN N=if (newSp N.kind).ok=false then 9 else chkN N (newSp N.kind).ints (newSp N.kind).texts (newSp N.kind).least (newSp N.kind).most):=rfl
 clear h hT hf hg hgr n0 b0
 generalize tyN N=V at *
 generalize newSp N.kind=S at *
 obtain ⟨ok,ci,ct,cl,cm⟩:=S
 go_enter Tryz.func93,Tryz.ntmps93
 go_wp2_with fail
 refine Calls.mono HN.out ?_
 rintro e w1 ⟨v,rfl,hI,hb1⟩
 obtain ⟨b,cap,rfl⟩:=own_shape7 hI
 have HL:Hid (LsAt w1 b (iV ci)):=LsAt.of_own hI
 have n1:=HA.out.belowAll hb1
 have y0:w1.cell? ⟨w.heap.size,0,none⟩=some (.int .i64 N.kind):=n1.cell 0
 have y1:w1.cell? ⟨w.heap.size,1,none⟩=some (.slice a1 N.ints.length c1):=n1.cell 1
 have y2:w1.cell? ⟨w.heap.size,2,none⟩=some (.slice a2 N.texts.length c2):=n1.cell 2
 have y3:w1.cell? ⟨w.heap.size,3,none⟩=some (.slice a3 N.kids.length c3):=n1.cell 3
 have hl1:=n1.lt
 have HB1:Hid (Below w.heap.size w w1):=HB.out.trans (hb1.mono HB.out.size)
 clear HN hI hb1 HA HB n1
 dsimp only at *
 cases ok with
 | false=>
  have hv:V=9:=HV.out
  subst hv
  clear HC HV HL
  go_wp2_with fail
  go_ret
  exact ⟨rfl,HB1.out.alloc HB1.out.size _⟩
 | true=>
  have hv:V=chkN N ci ct cl cm:=HV.out
  subst hv
  have HK:=HC.out (w1.alloc (.cells #[.slice b ci.length cap,.int .i64 ct,.int .i64 cl,.int .i64 cm] 147)) ⟨true,ci,ct,cl,cm⟩ b cap (HB1.out.alloc HB1.out.size _) (HL.out.alloc _)
  have HK1:Hid _:=HK
  clear HC HV HL HK
  go_wp2_with fail
  refine Calls.mono (Hid.out HK1) ?_
  rintro e w2 ⟨rfl,hb2⟩
  have HB2:Hid (Below w.heap.size w w2):=(HB1.out.alloc HB1.out.size _).trans (hb2.mono (by have:=HB1.out.size;simp;omega))
  clear HK1 hb2
  go_wp2_with fail
  go_ret
  exact ⟨rfl,HB2.out⟩
set_option maxRecDepth 10000 in
set_option maxHeartbeats 400000 in
theorem typed_any (X:List Nx) (a:Option Addr) (c:Nat) (r:Int) (w:World) (h:ScAt w a X) (hX:Small X) (hF:FnX X) (hT:Tabs12 w) :
  Calls Tryz.prog 45 #[.agg #[.slice a X.length c,.int .i64 r]] w fun e w'=>e=.returned (.tuple #[.int .i64 (tyE X),.int .i64 (tyZ X)])∧Below w.heap.size w w':=by
 have HS:Hid (ScAt w a X):=h
 have hn:=hX.1
 have HC:Hid (∀(i:Nat),i<X.length→∀W,Below w.heap.size w W→Calls Tryz.prog 93 #[.agg #[.int .i64 (X.getD i noNx).nd.kind,.slice (X.getD i noNx).a1 (X.getD i noNx).nd.ints.length (X.getD i noNx).c1,.slice (X.getD i noNx).a2 (X.getD i noNx).nd.texts.length (X.getD i noNx).c2,.slice (X.getD i noNx).a3 (X.getD i noNx).nd.kids.length (X.getD i noNx).c3]] W fun e w'=>e=.returned (.int .i64 (tyN (X.getD i noNx).nd))∧Below W.heap.size W w'):=
  fun i hi W hW=>typednode_any _ _ _ _ _ _ _ W ((h.belowB hW).each i hi) (hT.on hW) (hF i hi) (hX.2 i hi)
 have HB0:Hid (Below w.heap.size w (w.alloc (.cells #[.slice a X.length c,.int .i64 r] 24))):=(Below.refl w.heap.size w).alloc (Nat.le_refl _) _
 have HE:Hid (tyE X=(tyG X 0).1∧tyZ X=(tyG X 0).2):=⟨rfl,rfl⟩
 have HI0:Hid (tyG X 0=tyG (X.drop 0) 0):=rfl
 have HST:Hid (∀i,i<X.length→tyG (X.drop i) i=if tyN (X.getD i noNx).nd=0 then tyG (X.drop (i+1)) (i+1) else (tyN (X.getD i noNx).nd,(i:Int))):=fun i hi=>tyG_at X i hi
 have HEN:Hid (tyG (X.drop X.length) X.length=(0,0)):=by show _=_;rw [List.drop_length];rfl
 generalize tyG X 0=R at *
 generalize tyE X=E at *
 generalize tyZ X=Z at *
 obtain ⟨R1,R2⟩:=R
 obtain ⟨rfl,rfl⟩:=HE.out
 clear h hX hF hT HE
 go_enter Tryz.func45,Tryz.ntmps45
 go_wp2_with fail
 go_loopw [10] (fun iv wr=>∃i:Nat,iv=.int .i64 i∧i≤X.length∧Hid ((E,Z)=tyG (X.drop i) i)∧Hid (Below w.heap.size w wr)) (fun iv _=>X.length-(intOf iv).toNat)
 case atStart=>exact ⟨0,rfl,by omega,HI0,HB0⟩
 case round=>
  clear HI0 HB0
  obtain ⟨i,rfl,hi,HI,HB⟩:=hrel
  by_cases hlt:i<X.length
  ·have hlt':(i:Int)<X.length:=by omega
   obtain ⟨b,o,rfl,hbl,d0,d1,d2,d3⟩:=(ScAt.belowB HS.out HB.out).node hlt
   have HC1:Hid _:=HC.out i hlt
   have HS1:Hid _:=HST.out i hlt
   generalize X.getD i noNx=N at *
   have HB1:Hid (Below w.heap.size w (wr.alloc (.cells #[.int .i64 N.nd.kind,.slice N.a1 N.nd.ints.length N.c1,.slice N.a2 N.nd.texts.length N.c2,.slice N.a3 N.nd.kids.length N.c3] 62))):=HB.out.alloc HB.out.size _
   have HC2:Hid _:=Hid.out HC1 _ HB1.out
   clear HC HST HC1 HS HB
   generalize tyN N.nd=t at *
   go_wp2_with fail
   refine Calls.mono (Hid.out HC2) ?_
   rintro e w1 ⟨rfl,hb1⟩
   have HB2:Hid (Below w.heap.size w w1):=HB1.out.trans (hb1.mono HB1.out.size)
   clear HC2 HB1 hb1 d0 d1 d2 d3
   by_cases ht:t=0
   ·have HI1:Hid ((E,Z)=tyG (X.drop (i+1)) (i+1)):=by
     have h1:=Hid.out HS1
     rw [if_pos ht] at h1
     exact HI.out.trans h1
    clear HI HS1
    go_wp2_with fail
    go_roundw
    case rel=>exact ⟨i+1,by go_num,by omega,HI1,HB2⟩
    case measure=>simp [intOf];omega
   ·have HI1:(E,Z)=(t,(i:Int)):=by
     have h1:=Hid.out HS1
     rw [if_neg ht] at h1
     exact HI.out.trans h1
    obtain ⟨rfl,rfl⟩:=Prod.mk.inj HI1
    clear HI HS1 HI1
    go_wp2_with fail
    go_ret2
    exact ⟨rfl,HB2.out⟩
  ·have hlt':¬(i:Int)<X.length:=by omega
   obtain rfl:i=X.length:=by omega
   have HI1:(E,Z)=((0:Int),(0:Int)):=HI.out.trans HEN.out
   obtain ⟨rfl,rfl⟩:=Prod.mk.inj HI1
   clear HI HI1 HEN HC HST
   go_wp2_with fail
   go_ret2
   exact ⟨rfl,HB.out⟩
end Go.Proofs.YtcgjgjjegnofeaaGreatDoor
namespace Go.Proofs.YtcgjgjjegnofeaaGreatDoor
open Go.RowKit Go.Maps Go.WideMaps Go.Sort
theorem Mkg.cur {w w':World} {B go gc:Nat} {r:Int} {v:Value} {Y:List Nx} {x y z:Value} (h:Mkg w B go r v Y) (hg:w.grownBy w' (some gc)) (hc:At3 131 w gc x y z):Mkg w' B go r v Y:=by
 have hc':AtN 131 w gc #[x,y,z]:=hc
 have hF:Fr (fun b=>b=gc) w w':=Fr.of_grown hg (fun k e=>by cases e;rfl)
 have hal:Alien w (fun b=>b=gc):=fun b hb _=>⟨_,_,_,hb ▸ hc,by decide,by decide,by decide⟩
 refine ⟨h.sc.fr hF (fun e=>?_),own_fr h.row hF (fun b hb e=>own_ne_at h.row hc' (by decide) b hb e),fun j hj=>(h.each j hj).fr hF hal⟩
 subst e
 have h1:w.heap[go]? = _:=h.sc
 have h2:w.heap[go]? = _:=hc
 rw [h1] at h2
 cases h2
theorem okL_in {l:Lm} (h:okL l=true):(0≤l.b∧l.b≤16777216)∧(0≤l.n∧l.n≤16777216)∧(0≤l.e∧l.e≤16777216)∧(0≤l.d∧l.d≤16777216)∧(0≤l.x∧l.x≤16777216):=by
 have key:∀i,i<5→0≤(lmL l).getD i 0∧(lmL l).getD i 0≤16777216:=fun i hi=>by
  by_cases q:(lmL l).getD i 0<0∨16777216<(lmL l).getD i 0
  ·have:=okL_no l i hi q
   rw [h] at this;cases this
  ·omega
 exact ⟨key 0 (by omega),key 1 (by omega),key 2 (by omega),key 3 (by omega),key 4 (by omega)⟩
def liC (l:Lm):Array Value:=#[.int .i64 l.b,.int .i64 l.n,.int .i64 l.e,.int .i64 l.d,.int .i64 l.x]
structure Gl (w W:World) (lim:Nat) (l:Lm) (y:Option Addr) (cap bt ot:Nat) (L:List ByteArray):Prop where
 bel:Below w.heap.size w W
 a:AtN 26 W w.heap.size (liC l)
 r:AtN 24 W (w.heap.size+1) #[.slice none 0 0,.int .i64 0]
 n:AtN 24 W (w.heap.size+2) #[.slice none 0 0,.int .i64 0]
 x:TxI W y cap bt ot L
 hb:0<L.length→bt<lim
 hl:lim≤W.heap.size
 hw:w.heap.size+3≤lim
section
variable {w W W':World} {lim:Nat} {l:Lm} {y:Option Addr} {cap bt ot:Nat} {L:List ByteArray}
theorem Gl.fr {S:Nat→Prop} (h:Gl w W lim l y cap bt ot L) (k:Fr S W W') (hs:∀i,S i→lim≤i):Gl w W' lim l y cap bt ot L:=
 ⟨Fr.below h.bel k (fun i hi=>by have:=hs i hi;have:=h.hw;omega) h.bel.size,h.a.fr k (fun q=>by have:=hs _ q;have:=h.hw;omega),h.r.fr k (fun q=>by have:=hs _ q;have:=h.hw;omega),h.n.fr k (fun q=>by have:=hs _ q;have:=h.hw;omega),
  ⟨h.x.ptr,fun i hi=>h.x.at_.fr k (fun q=>by have:=hs _ q;have:=h.hb (by omega);omega) i hi,h.x.cap_,h.x.nil⟩,h.hb,Nat.le_trans h.hl k.size,h.hw⟩
theorem Gl.more (h:Gl w W lim l y cap bt ot L) (hb:Below W.heap.size W W'):Gl w W' lim l y cap bt ot L:=h.fr (Fr.of_below (S:=fun _=>False) hb) (fun _ q=>q.elim)
theorem Gl.cur {gc:Nat} (h:Gl w W lim l y cap bt ot L) (hg:W.grownBy W' (some gc)) (hc:lim≤gc):Gl w W' lim l y cap bt ot L:=
 h.fr (Fr.of_grown (S:=fun k=>k=gc) hg (fun k e=>by cases e;rfl)) (fun i e=>by rw [e];exact hc)
end
theorem OwnNd.frAt {S:Nat→Prop} {W W':World} {B:Nat} {N:Nd} {a1 a2 a3:Option Addr} {c1 c2 c3:Nat} (h:OwnNd W B N (.slice a1 N.ints.length c1) (.slice a2 N.texts.length c2) (.slice a3 N.kids.length c3)) (k:Fr S W W') (hs:∀i,S i→i<B):NdAt W' N a1 a2 a3:=by
 have key:∀{e n v xs},W.ownsRow B e 1 v n xs→W'.ownsRow B e 1 v n xs:=fun {e n v xs} ho=>own_fr ho k (fun r hr q=>by have:=(ho.lt r hr).1;have:=hs r q;omega)
 exact OwnNd.ndAt ⟨key h.i,key h.t,key h.k⟩
theorem Mkg.low {w w':World} {B go c:Nat} {r:Int} {a:Option Addr} {Y:List Nx} {S:Nat→Prop} (h:Mkg w B go r (.slice a Y.length c) Y) (k:Fr S w w') (hs:∀i,S i→i<B):ScAt w' a Y:=
 ⟨LsAt.of_own4' (own_fr h.row k (fun r hr q=>by have:=(h.row.lt r hr).1;have:=hs r q;omega)),fun i hi=>OwnNd.frAt (h.each i hi) k hs⟩
def GeOut2 (tx nb:ByteArray) (l:Lm) (w w':World) (e:Ending):Prop:=∃(X:List Nx) (a:Option Addr) (c:Nat) (r k:Int),e=.returned (.tuple #[.agg #[.slice a X.length c,.int .i64 r],.int .i64 k])∧GeIs tx nb l (X.map Nx.nd) r k∧(∀W,Fr (fun b=>b<w.heap.size) w' W→ScAt W a X)∧Small X∧FnX X∧Below w.heap.size w w'
theorem GeOut2.drew {tx nb:ByteArray} {l:Lm} {w w':World} {e:Ending} (h:GeOut2 tx nb l w w' e):GeOut2 tx nb l w w'.drew e:=by
 obtain ⟨X,a,c,r,k,h1,h2,h3,h4,h5,h6⟩:=h
 have hd:Below w'.heap.size w' w'.drew:=⟨rfl,rfl,rfl,Nat.le_refl _,fun _ _=>rfl⟩
 exact ⟨X,a,c,r,k,h1,h2,fun W f=>h3 W ((Fr.of_below (S:=fun b=>b<w.heap.size) hd).trans f (fun i hi _=>hi)),h4,h5,h6.trans (hd.mono h6.size)⟩
def GeOut (tx nb:ByteArray) (l:Lm) (w w':World) (e:Ending):Prop:=∃(X:List Nx) (a:Option Addr) (c:Nat) (r k:Int),e=.returned (.tuple #[.agg #[.slice a X.length c,.int .i64 r],.int .i64 k])∧GeIs tx nb l (X.map Nx.nd) r k∧ScAt w' a X∧Small X∧FnX X∧Below w.heap.size w w'
theorem GeOut2.weak {tx nb:ByteArray} {l:Lm} {w w':World} {e:Ending} (h:GeOut2 tx nb l w w' e):GeOut tx nb l w w' e:=by
 obtain ⟨X,a,c,r,k,h1,h2,h3,h4⟩:=h
 exact ⟨X,a,c,r,k,h1,h2,h3 w' (Fr.refl _ _),h4⟩
theorem GeIs.bad {tx nb:ByteArray} {l:Lm} {k:Int} (h:(geK tx nb l).1=k) (hk:k≠0):GeIs tx nb l (([]:List Nx).map Nx.nd) 0 k:=.inl ⟨by rw [h];exact hk,h.symm,rfl,rfl⟩
theorem tell_bad {tx nb:ByteArray} {l:Lm} {w W:World} {k:Int} (hG:GeIs tx nb l (([]:List Nx).map Nx.nd) 0 k) (hb:Below w.heap.size w W) {x0 x1:Value} (hr:AtN 24 W (w.heap.size+1) #[x0,x1]) :
  ∀W',W'=(W.setCell ⟨w.heap.size+1,0,none⟩ (.slice none 0 0)).setCell ⟨w.heap.size+1,1,none⟩ (.int .i64 0)→AtN 24 W' (w.heap.size+1) #[.slice none 0 0,.int .i64 0]∧GeOut2 tx nb l w W' (.returned (.tuple #[.agg #[.slice none 0 0,.int .i64 0],.int .i64 k])):=by
 rintro _ rfl
 have hF:Fr (fun b=>b=w.heap.size+1) W ((W.setCell ⟨w.heap.size+1,0,none⟩ (.slice none 0 0)).setCell ⟨w.heap.size+1,1,none⟩ (.int .i64 0)):=((Fr.refl (fun b=>b=w.heap.size+1) W).set ⟨w.heap.size+1,0,none⟩ rfl _).set ⟨w.heap.size+1,1,none⟩ rfl _
 refine ⟨by simpa using (hr.set 0 (.slice none 0 0)).set 1 (.int .i64 0),[],none,0,0,k,rfl,hG,fun _ _=>⟨LsAt.nil _ _,fun i hi=>by simp at hi⟩,⟨by simp,fun i hi=>by simp at hi⟩,fun i hi=>by simp at hi,Fr.below hb hF (fun i e=>by omega) hb.size⟩
theorem tell_good {tx nb:ByteArray} {l:Lm} {w W:World} {B gs c:Nat} {r:Int} {a:Option Addr} {Y:List Nx} (hG:GeIs tx nb l (Y.map Nx.nd) r 0) (hb:Below w.heap.size w W) {x0 x1:Value} (hr:AtN 24 W (w.heap.size+1) #[x0,x1]) (hm:Mkg W B gs r (.slice a Y.length c) Y) (hB:w.heap.size+1<B) (hs:Small Y) (hf:FnX Y) :
  ∀W',W'=(W.setCell ⟨w.heap.size+1,0,none⟩ (.slice a Y.length c)).setCell ⟨w.heap.size+1,1,none⟩ (.int .i64 r)→AtN 24 W' (w.heap.size+1) #[.slice a Y.length c,.int .i64 r]∧GeOut2 tx nb l w W' (.returned (.tuple #[.agg #[.slice a Y.length c,.int .i64 r],.int .i64 0])):=by
 rintro _ rfl
 have hF:Fr (fun b=>b=w.heap.size+1) W ((W.setCell ⟨w.heap.size+1,0,none⟩ (.slice a Y.length c)).setCell ⟨w.heap.size+1,1,none⟩ (.int .i64 r)):=((Fr.refl (fun b=>b=w.heap.size+1) W).set ⟨w.heap.size+1,0,none⟩ rfl _).set ⟨w.heap.size+1,1,none⟩ rfl _
 exact ⟨by simpa using (hr.set 0 (.slice a Y.length c)).set 1 (.int .i64 r),Y,a,c,r,0,rfl,hG,fun W2 f=>hm.low (S:=fun b=>b<B) (((Fr.refl (fun b=>b<B) W).trans hF (fun i hi _=>by omega)).trans f (fun i hi _=>by omega)) (fun i q=>q),hs,hf,Fr.below hb hF (fun i e=>by omega) hb.size⟩
section
variable (tx nb:ByteArray) (l:Lm)
theorem geK_1 (h:okL l=false):(geK tx nb l).1=1:=by unfold geK;rw [if_pos h]
theorem geK_2 (h1:okL l=true) {e:Int} {L:List ByteArray} (h:pGet6 tx 16777216 l.x=(e,L)) (he:e≠0):(geK tx nb l).1=e:=by
 unfold geK;rw [if_neg (by simp [h1]),h,if_pos he]
theorem geK_3 (h1:okL l=true) {L:List ByteArray} (h2:pGet6 tx 16777216 l.x=(0,L)) {n e:Int} {k:Nat} (h:pUint nb 0 0 l.n=(n,k,e)) (he:e≠0):(geK tx nb l).1=e:=by
 unfold geK;rw [if_neg (by simp [h1]),h2,h,if_neg (by simp),if_pos he]
theorem geK_4 (h1:okL l=true) {L:List ByteArray} (h2:pGet6 tx 16777216 l.x=(0,L)) {k:Nat} (h:pUint nb 0 0 l.n=(0,k,0)):(geK tx nb l).1=13:=by
 unfold geK;rw [if_neg (by simp [h1]),h2,h,if_neg (by simp),if_neg (by simp),if_pos rfl]
theorem geK_5 (h1:okL l=true) {L:List ByteArray} (h2:pGet6 tx 16777216 l.x=(0,L)) {n:Int} {k:Nat} (h3:pUint nb 0 0 l.n=(n,k,0)) (h4:n≠0) {P:List Nd} {k':Nat} {e:Int} (h:gNs nb L n.toNat 0 k l.e=(P,k',e)) (he:e≠0):(geK tx nb l).1=e:=by
 unfold geK;rw [if_neg (by simp [h1]),h2,h3,if_neg (by simp),if_neg (by simp),if_neg h4,h,if_pos he]
theorem geK_6 (h1:okL l=true) {L:List ByteArray} (h2:pGet6 tx 16777216 l.x=(0,L)) {n:Int} {k:Nat} (h3:pUint nb 0 0 l.n=(n,k,0)) (h4:n≠0) {P:List Nd} {k':Nat} (h:gNs nb L n.toNat 0 k l.e=(P,k',0)) (hk:k'<nb.size):(geK tx nb l).1=8:=by
 unfold geK;rw [if_neg (by simp [h1]),h2,h3,if_neg (by simp),if_neg (by simp),if_neg h4,h,if_neg (by simp),if_pos hk]
theorem geK_7 (h1:okL l=true) {L:List ByteArray} (h2:pGet6 tx 16777216 l.x=(0,L)) {n:Int} {k:Nat} (h3:pUint nb 0 0 l.n=(n,k,0)) (h4:n≠0) {P:List Nd} {k':Nat} (h:gNs nb L n.toNat 0 k l.e=(P,k',0)) (hk:¬k'<nb.size):geK tx nb l=(0,P,L):=by
 unfold geK;rw [if_neg (by simp [h1]),h2,h3,if_neg (by simp),if_neg (by simp),if_neg h4,h,if_neg (by simp),if_neg hk]
end
theorem GeIs.of {tx nb:ByteArray} {l:Lm} {X:List Nx} {r k:Int} {L:List ByteArray} (h:geK tx nb l=(0,X.map Nx.nd,L)) (hr:r=(X.length:Int)-1) (hS:GeS X r L l k) :
  (k≠0→GeIs tx nb l (([]:List Nx).map Nx.nd) 0 k)∧(k=0→GeIs tx nb l (X.map Nx.nd) r 0):=by
 have hS':GeS (bare (geK tx nb l).2.1) (((geK tx nb l).2.1.length:Int)-1) (geK tx nb l).2.2 l k:=by
  rw [h]
  dsimp only
  rw [List.length_map,← hr]
  exact hS.same (by rw [bare_nd])
 have h0:(geK tx nb l).1=0:=by rw [h]
 refine ⟨fun q=>.inr ⟨h0,k,hS',.inl ⟨q,rfl,rfl,rfl⟩⟩,fun q=>.inr ⟨h0,k,hS',.inr ⟨q,rfl,by rw [h],by rw [h,hr];simp⟩⟩⟩
end Go.Proofs.YtcgjgjjegnofeaaGreatDoor
namespace Go.Proofs.YtcgjgjjegnofeaaGreatDoor
open Go.RowKit
def PuIs (X:List Nx) (r:Int) (A C:ByteArray) (e:Int):Prop:=
 (tyE X≠0∧e=tyE X∧A=⟨#[]⟩∧C=⟨#[]⟩)∨
  (tyE X=0∧∃n y,CheckIs X r n y∧((n≠0∧e=n∧A=⟨#[]⟩∧C=⟨#[]⟩)∨(n=0∧((¬IsCan X r∧e=16∧A=⟨#[]⟩∧C=⟨#[]⟩)∨
   (IsCan X r∧e=0∧A.data.toList=pPut6 (rTab (X.map Nx.nd) [])∧C.data.toList=put X.length++rAllN 0 (X.map Nx.nd) [])))))
def PuOut (X:List Nx) (r:Int) (w w':World) (e:Ending):Prop:=∃(A C:ByteArray) (k:Int),e=.returned (.tuple #[.string A,.string C,.int .i64 k])∧PuIs X r A C k∧Below w.heap.size w w'
theorem rB_size (N:Nd) (p:Int) (L:List ByteArray) (hb:big N=false):(rB N p L).length≤32020:=by
 obtain ⟨h0,h6,h7,_⟩:=big_no hb
 have h1:=put_length N.kind.toNat
 have h2:=put_length N.kids.length
 have h3:(rI N.ints).length≤10*N.ints.length:=flat_ten _ _
 have h4:(rT (itF L N.texts) N.texts).length≤10*N.texts.length:=flat_ten _ _
 have h5:(rK p N.kids).length≤10*N.kids.length:=flat_ten _ _
 unfold rB
 simp only [List.length_append]
 omega
theorem itF_sumB (T:List ByteArray):∀L:List ByteArray,(∀s ∈ T,s.size≤3000)→sum6 (itF L T)≤sum6 L+3000*T.length:=by
 induction T with
 | nil=>intro L _;simp [itF]
 | cons x r ih=>
  intro L h
  have h1:=ih (pIntern L x) (fun s hs=>h s (by simp [hs]))
  have h2:sum6 (pIntern L x)≤sum6 L+x.size:=by
   unfold pIntern
   split
   ·omega
   ·rw [sum6_append];simp [sum6]
  have h3:=h x (by simp)
  have h4:itF L (x :: r)=itF (pIntern L x) r:=rfl
  rw [h4,List.length_cons]
  omega
theorem tyE_all {X:List Nx} (h:tyE X=0):∀i,i<X.length→tyN (X.getD i noNx).nd=0:=by
 have key:∀(X:List Nx) (k:Nat),(tyG X k).1=0→∀i,i<X.length→tyN (X.getD i noNx).nd=0:=by
  intro X
  induction X with
  | nil=>intro k _ i hi;simp at hi
  | cons x r ih=>
   intro k hk i hi
   unfold tyG at hk
   by_cases hx:tyN x.nd=0
   ·rw [if_pos hx] at hk
    match i with
    | 0=>simpa using hx
    | i+1=>simpa using ih (k+1) hk i (by simpa using hi)
   ·rw [if_neg hx] at hk
    exact absurd hk hx
 exact key X 0 h
theorem tyN_texts {N:Nd} (h:tyN N=0):N.texts.length≤2:=by
 have h1:rE N 0=0∨rE N 0=13:=by
  unfold rE
  rw [if_pos h]
  split
  ·exact .inl rfl
  ·exact .inr rfl
 unfold tyN at h
 split at h
 ·cases h
 ·unfold chkN at h
  split at h
  ·cases h
  ·split at h
   ·cases h
   ·rename_i h2 h3
    have h4:fitT N.texts (newSp N.kind).texts=true:=by simpa using h3
    unfold fitT at h4
    rw [Bool.and_eq_true,decide_eq_true_eq] at h4
    have:=newSp_small N.kind
    omega
theorem getD_in {L:List Int} {j:Nat} (h:j<L.length):L.getD j 0 ∈ L:=by
 rw [List.getD_eq_getElem?_getD,List.getElem?_eq_getElem h]
 exact List.getElem_mem h
theorem can_kids {X:List Nx} {r:Int} (h:IsCan X r) {i:Nat} (hi:i<X.length) (j:Nat) (hj:j<(X.getD i noNx).nd.kids.length):0≤(X.getD i noNx).nd.kids.getD j 0∧(X.getD i noNx).nd.kids.getD j 0<i:=by
 have h1:=h.1.2.1 i hi j hj
 unfold isPb at h1
 have h2:=of_decide_eq_true h1
 have hm:(X.getD i noNx).nd.kids.getD j 0 ∈ (X.getD i noNx).nd.kids:=getD_in hj
 have hE:Ed (kX X) i ((X.getD i noNx).nd.kids.getD j 0).toNat:=by
  unfold Ed
  rw [kX_at X i hi]
  exact List.mem_map_of_mem hm
 have h3:=h.1.ord.good.kids i (oX_all h.1 i hi) _ hE
 have h4:((X.getD i noNx).nd.kids.getD j 0).toNat<X.length:=by omega
 have h5:=h3.2
 have e1:(ordO (kX X) r.toNat).idxOf i=i:=h.2 i hi
 have e2:(ordO (kX X) r.toNat).idxOf ((X.getD i noNx).nd.kids.getD j 0).toNat=((X.getD i noNx).nd.kids.getD j 0).toNat:=h.2 _ h4
 unfold oX at h5
 rw [e1,e2] at h5
 omega
theorem can_rE {X:List Nx} {r:Int} (h:IsCan X r) (ht:tyE X=0) {i:Nat} (hi:i<X.length):rE (X.getD i noNx).nd i=0:=by
 unfold rE
 rw [if_pos (tyE_all ht i hi),if_pos (rOk_yes (fun j hj=>can_kids h hi j hj))]
end Go.Proofs.YtcgjgjjegnofeaaGreatDoor
namespace Go.Proofs.YtcgjgjjegnofeaaGreatDoor
open Go.RowKit
theorem rTab_itn:∀(l:List Nd) (L:List ByteArray),rTab l L=(l.flatMap Nd.texts).foldl pIntern L
 | [],_=>rfl
 | N :: r,L=>by
  rw [List.flatMap_cons,List.foldl_append]
  exact rTab_itn r (itF L N.texts)
theorem rTab_all (X:List Nx):rTab (X.map Nx.nd) []=itn (allT X):=by
 rw [rTab_itn,List.flatMap_map]
 rfl
theorem sumK_edg (X:List Nx):sumK (X.map Nx.nd)=edg X:=by
 unfold sumK edg
 rw [List.map_map]
 rfl
theorem foldlT_nodup (T:List ByteArray):∀L:List ByteArray,L.Nodup→(T.foldl pIntern L).Nodup:=by
 induction T with
 | nil=>intro L h;exact h
 | cons x r ih=>
  intro L h
  rw [List.foldl_cons]
  exact ih _ (pIntern_nodup L x h)
theorem itn_nodup (T:List ByteArray):(itn T).Nodup:=foldlT_nodup T [] List.nodup_nil
theorem getD_map {X:List Nx} {i:Nat} (h:i<X.length):(X.map Nx.nd).getD i ⟨0,[],[],[]⟩=(X.getD i noNx).nd:=by
 rw [List.getD_eq_getElem?_getD,List.getD_eq_getElem?_getD,List.getElem?_map,List.getElem?_eq_getElem h]
 rfl
theorem put_inj {n m:Nat} {x y:List UInt8} (h:put n++x=put m++y) (hn:n≤16777216) (hm:m≤16777216):n=m∧x=y:=by
 have h1:=uint_put (b:=⟨(put n++x).toArray⟩) (k:=0) (r:=x) 16777216 (by simp) hn (by omega)
 have h2:=uint_put (b:=⟨(put n++x).toArray⟩) (k:=0) (r:=y) 16777216 (by rw [h];simp) hm (by omega)
 rw [h1] at h2
 injection h2 with h3 h4
 obtain rfl:n=m:=by omega
 exact ⟨rfl,List.append_cancel_left h⟩
theorem body6_inj:∀L M:List ByteArray,L.length=M.length→(∀s ∈ L,s.size≤16777216)→(∀s ∈ M,s.size≤16777216)→body6 L=body6 M→L=M
 | [],[],_,_,_,_=>rfl
 | [],t :: M,h,_,_,_=>by simp at h
 | s :: L,[],h,_,_,_=>by simp at h
 | s :: L,t :: M,h,hs,ht,hb=>by
  have e1:body6 (s :: L)=put s.size++(s.data.toList++body6 L):=by
   unfold body6
   rw [List.flatMap_cons,List.append_assoc]
  have e2:body6 (t :: M)=put t.size++(t.data.toList++body6 M):=by
   unfold body6
   rw [List.flatMap_cons,List.append_assoc]
  rw [e1,e2] at hb
  obtain ⟨h1,h2⟩:=put_inj hb (hs s (by simp)) (ht t (by simp))
  obtain ⟨h3,h4⟩:=List.append_inj h2 (by rw [list_size,list_size,h1])
  have h5:s=t:=by
   cases s
   cases t
   congr
   exact Array.toList_inj.1 h3
  rw [h5,body6_inj L M (by simpa using h) (fun s q=>hs s (by simp [q])) (fun s q=>ht s (by simp [q])) h4]
theorem pPut6_inj {L M:List ByteArray} (h:pPut6 L=pPut6 M) (h1:L.length≤16777216) (h2:M.length≤16777216) (hs:∀s ∈ L,s.size≤16777216) (ht:∀s ∈ M,s.size≤16777216):L=M:=by
 obtain ⟨h3,h4⟩:=put_inj h h1 h2
 exact body6_inj L M h3 hs ht h4
theorem pText_most (b:ByteArray) (k:Nat) (m:Int) (h:(pText b k 0 m).2.2=0) (hm:0≤m):((pText b k 0 m).1.size:Int)≤m:=by
 unfold pText at h ⊢
 rw [if_neg (by simp)] at h ⊢
 split at h
 ·rename_i h1;exact absurd (by simpa using h) h1
 rename_i h1
 rw [if_neg h1]
 split at h
 ·cases h
 rename_i h2
 rw [if_neg h2]
 split at h
 ·cases h
 rename_i h3
 rw [if_neg h3]
 dsimp only
 rw [ByteArray.size_extract]
 omega
theorem pUint_most (b:ByteArray) (k:Nat) (m:Int) (h:(pUint b k 0 m).2.2=0):(pUint b k 0 m).1≤m:=by
 unfold pUint at h ⊢
 rw [if_neg (by simp)] at h ⊢
 split at h
 ·rename_i h1;exact absurd (by simpa using h) h1
 rename_i h1
 rw [if_neg h1]
 split at h
 ·cases h
 rename_i h2
 rw [if_neg h2]
 dsimp only
 omega
theorem gets6_sum (b:ByteArray) (M:Int) (n:Nat):∀(k:Nat) (xs:List ByteArray),(sum6 xs:Int)≤M→(gets6 b M n k xs).1=0→(sum6 (gets6 b M n k xs).2.1:Int)≤M:=by
 induction n with
 | zero=>intro k xs hx _;exact hx
 | succ n ih=>
  intro k xs hx h
  obtain ⟨t,ht⟩:∃t,t=pText b k 0 (M-(sum6 xs:Nat)):=⟨_,rfl⟩
  rw [gets6_step b M n k xs t ht] at h ⊢
  split at h
  ·rename_i h1;exact absurd h h1
  ·rename_i h1
   rw [if_neg h1]
   split at h
   ·cases h
   ·rename_i h2
    rw [if_neg h2]
    split at h
    ·cases h
    ·rename_i h3
     rw [if_neg h3]
     refine ih _ _ ?_ h
     rw [sum6_append]
     have h4:(pText b k 0 (M-(sum6 xs:Nat))).2.2=0:=by rw [← ht];simpa using h1
     have:=pText_most b k _ h4 (by omega)
     rw [← ht] at this
     simp only [sum6,List.map_cons,List.map_nil,List.sum_cons,List.sum_nil] at this hx ⊢
     omega
theorem pGet6_sum (b:ByteArray) (texts bytes:Int) (h:(pGet6 b texts bytes).1=0) (hb:0≤bytes):(sum6 (pGet6 b texts bytes).2:Int)≤bytes:=by
 rw [pGet6_is] at h ⊢
 by_cases h1:(pUint b 0 0 (max texts 0)).2.2≠0
 ·rw [if_pos h1] at h
  exact absurd h h1
 rw [if_neg h1] at h ⊢
 unfold after6 at h ⊢
 split at h
 ·rename_i h2;exact absurd h h2
 ·rename_i h2
  rw [if_neg h2]
  split at h
  ·cases h
  ·rename_i h3
   rw [if_neg h3]
   have:=gets6_sum b (max bytes 0) (pUint b 0 0 (max texts 0)).1.toNat (pUint b 0 0 (max texts 0)).2.1 [] (by simp [sum6];omega) (by simpa using h2)
   dsimp only
   omega
theorem pGet6_putB (L:List ByteArray) (b:ByteArray) (t m:Int) (hb:b.data.toList=pPut6 L) (hn:L.Nodup) (hr:∀s ∈ L,right5 s=true∧s.size≤16777216) (hl:L.length≤16777216) (ht:(L.length:Int)≤t) (hm:(sum6 L:Int)≤m):pGet6 b t m=(0,L):=by
 have hd:b.data.toList.drop (put L.length).length=body6 L++[]:=by
  rw [hb,List.append_nil]
  exact List.drop_left
 have hsz:b.size=(put L.length).length+(body6 L).length:=by
  rw [← list_size,hb]
  simp [pPut6]
 rw [pGet6_is,(pUint_put b _ L.length (body6 L) hb hl).2 (by omega)]
 dsimp only
 rw [if_neg (by simp),show ((L.length:Int)).toNat=L.length from rfl,show max m 0=m by omega,(gets6_put b _ L _ [] [] (by omega) hd (by simpa using hn) hr (by simp [sum6];omega)).1 (by simpa using hm)]
 unfold after6
 rw [if_neg (by simp),if_neg (by dsimp only;omega)]
 simp
theorem pGet6_less (L:List ByteArray) (b:ByteArray) (t:Int) (hb:b.data.toList=pPut6 L) (hn:L.Nodup) (hr:∀s ∈ L,right5 s=true∧s.size≤16777216) (hl:L.length≤16777216) (ht:(L.length:Int)≤t) (h0:sum6 L≠0):(pGet6 b t ((sum6 L:Int)-1)).1=19:=by
 have hd:b.data.toList.drop (put L.length).length=body6 L++[]:=by
  rw [hb,List.append_nil]
  exact List.drop_left
 have hsz:b.size=(put L.length).length+(body6 L).length:=by
  rw [← list_size,hb]
  simp [pPut6]
 rw [pGet6_is,(pUint_put b _ L.length (body6 L) hb hl).2 (by omega)]
 dsimp only
 have h19:=(gets6_put b ((sum6 L:Int)-1) L _ [] [] (by omega) hd (by simpa using hn) hr (by simp [sum6] at h0 ⊢;omega)).2 (by simp;omega)
 rw [if_neg (by simp),show ((L.length:Int)).toNat=L.length from rfl,show max ((sum6 L:Int)-1) 0=(sum6 L:Int)-1 by omega]
 unfold after6
 rw [h19,if_pos (by decide)]
theorem geK_inv {tx nb:ByteArray} {l:Lm} (h:(geK tx nb l).1=0):∃(n:Int) (k k':Nat) (P:List Nd) (L:List ByteArray),okL l=true∧pGet6 tx 16777216 l.x=(0,L)∧pUint nb 0 0 l.n=(n,k,0)∧n≠0∧gNs nb L n.toNat 0 k l.e=(P,k',0)∧¬k'<nb.size∧geK tx nb l=(0,P,L):=by
 cases h0:okL l with
 | false=>unfold geK at h;rw [if_pos h0] at h;cases h
 | true=>
 obtain ⟨te,L,hT⟩:∃te L,pGet6 tx 16777216 l.x=(te,L):=⟨_,_,rfl⟩
 obtain ⟨n,k,ne,hU⟩:∃n k ne,pUint nb 0 0 l.n=(n,k,ne):=⟨_,_,_,rfl⟩
 obtain ⟨P,k',e,hS⟩:∃P k' e,gNs nb L n.toNat 0 k l.e=(P,k',e):=⟨_,_,_,rfl⟩
 unfold geK at h ⊢
 rw [if_neg (by simp [h0]),hT,hU] at h ⊢
 dsimp only at h ⊢
 rw [hS] at h ⊢
 dsimp only at h ⊢
 split at h
 ·rename_i q;exact absurd h q
 rename_i q1
 split at h
 ·rename_i q;exact absurd h q
 rename_i q2
 split at h
 ·cases h
 rename_i q3
 split at h
 ·rename_i q;exact absurd h q
 rename_i q4
 split at h
 ·cases h
 rename_i q5
 simp only [ne_eq,Decidable.not_not] at q1 q2 q4
 subst q1 q2 q4
 exact ⟨n,k,k',P,L,rfl,rfl,rfl,q3,hS,q5,by rw [if_neg (by simp),if_neg (by simp),if_neg q3,if_neg (by simp),if_neg q5]⟩
theorem rE_ty {N:Nd} {p:Int} (h:rE N p=0):tyN N=0:=by
 unfold rE at h
 split at h
 ·assumption
 ·exact h
theorem tyE_of {X:List Nx} (h:∀i,i<X.length→tyN (X.getD i noNx).nd=0):tyE X=0:=by
 have key:∀(X:List Nx) (k:Nat),(∀i,i<X.length→tyN (X.getD i noNx).nd=0)→(tyG X k).1=0:=by
  intro X
  induction X with
  | nil=>intro k _;rfl
  | cons x r ih=>
   intro k h
   unfold tyG
   rw [if_pos (by simpa using h 0 (by simp))]
   exact ih (k+1) (fun i hi=>by simpa using h (i+1) (by simpa using hi))
 exact key X 0 h
theorem got_all {tx nb:ByteArray} {l:Lm} {X:List Nx} {r:Int} (h:GeIs tx nb l (X.map Nx.nd) r 0) :
  PuIs X r tx nb 0∧okL l=true∧tyE X=0∧RightIs X r∧∃d,DepthIs X r d∧inL (meL X d) l=true:=by
 rcases h with ⟨h1,h2,_,_⟩|⟨h1,q,hS,⟨h2,h3,_,_⟩|⟨h2,_,h4,h5⟩⟩
 ·exact absurd h2.symm h1
 ·exact absurd h3.symm h2
 subst h2
 obtain ⟨n,k,k',P,L,i1,i2,i3,i4,i5,i6,i7⟩:=geK_inv h1
 rw [i7] at hS h4 h5
 dsimp only at hS h4 h5
 subst h4
 rw [h5]
 rw [List.length_map] at hS ⊢
 have hS2:=GeS.same (X:=X) (bare_nd _) hS
 obtain ⟨n0,y,d,c1,c2,c3⟩:=hS2
 obtain ⟨rfl,c4,c5,c6⟩:n0=0∧¬l.d<(d:Int)∧IsCan X ((X.length:Int)-1)∧itn (allT X)=L:=by
  rcases c3 with ⟨a,b⟩|⟨a,⟨_,b⟩|⟨b,⟨_,f⟩|⟨f,⟨_,g⟩|⟨g,_⟩⟩⟩⟩
  ·exact absurd b.symm a
  ·cases b
  ·cases f
  ·cases g
  ·exact ⟨a,b,f,g⟩
 have ho:=okL_in i1
 have hok:=pGet6_ok tx 16777216 l.x (by rw [i2])
 have hok8:=pGet6_ok8 tx 16777216 l.x (by rw [i2])
 have hsum:=pGet6_sum tx 16777216 l.x (by rw [i2]) ho.2.2.2.2.1
 rw [i2] at hok hok8 hsum
 dsimp only at hok hok8 hsum
 have hu:=pUint_bytes nb l.n (by rw [i3])
 have hut:=pUint_top nb 0 0 l.n
 have hum:=pUint_most nb 0 l.n (by rw [i3])
 rw [i3] at hu hut hum
 dsimp only at hu hut hum
 obtain ⟨m,rfl,u1,u2⟩:=hu
 rw [Int.toNat_natCast] at i5
 have hb:=gNs_bytes nb L hok.2.1 hok8 m 0 k l.e _ k' i5 (by omega)
 rw [List.length_map] at hb
 obtain ⟨b1,b2,b3,b4,b5⟩:=hb
 have hk':nb.data.toList.drop k'=[]:=List.drop_eq_nil_of_le (by rw [list_size];omega)
 have hE:∀i,i<X.length→tyN (X.getD i noNx).nd=0:=fun i hi=>by
  have:=b3 i hi
  rw [getD_map hi] at this
  exact rE_ty this
 have hty:=tyE_of hE
 have hr:RightIs X ((X.length:Int)-1):=c1.right.1 rfl
 rw [hk',List.append_nil,← c6,← rTab_all,rAllN_tab] at b2
 refine ⟨.inr ⟨hty,0,y,c1,.inr ⟨rfl,.inr ⟨c5,rfl,?_,?_⟩⟩⟩,i1,hty,hr,d,c2,?_⟩
 ·rw [rTab_all,c6,hok.1]
 ·rw [u1,b2,b1]
 ·have b6:=b5 ho.2.2.1.1
  rw [sumK_edg] at b6
  refine decide_eq_true ⟨ho.1.1,?_,b6,by show (d:Int)≤l.d;omega,?_⟩
  ·show (X.length:Int)≤l.n
   omega
  ·show ((txb X:Nat):Int)≤l.x
   unfold txb
   rw [c6]
   exact hsum
theorem right_ok8 {s:ByteArray} (h:ok8 s=true):right5 s=true:=by
 cases hr:right5 s with
 | true=>rfl
 | false=>
  have h1:=(pFirst_right s).2 hr
  unfold ok8 at h
  simp at h
  omega
theorem tyN_ok8 {N:Nd} (h:tyN N=0):∀s ∈ N.texts,ok8 s=true:=by
 unfold tyN at h
 split at h
 ·cases h
 ·unfold chkN at h
  split at h
  ·cases h
  ·split at h
   ·cases h
   ·rename_i h2 h3
    have h4:fitT N.texts (newSp N.kind).texts=true:=by simpa using h3
    unfold fitT at h4
    rw [Bool.and_eq_true,List.all_eq_true] at h4
    exact h4.2
theorem check_right {X:List Nx} {r:Int} (h:RightIs X r):CheckIs X r 0 0:=.inr (.inr ⟨h.1,h.2.1,.inr ⟨h.2.2.1,.inr ⟨rfl,rfl,h.2.2.2⟩⟩⟩)
structure Bk (X:List Nx) (r:Int) (A C:ByteArray):Prop where
 sm:Small X
 few:X.length≤60
 fn:FnX X
 ty:tyE X=0
 can:IsCan X r
 root:r=(X.length:Int)-1
 a:A.data.toList=pPut6 (itn (allT X))
 c:C.data.toList=put X.length++rAllN 0 (X.map Nx.nd) []
section
variable {X:List Nx} {r:Int} {A C:ByteArray} {d:Nat} {l:Lm}
theorem Bk.pos (h:Bk X r A C):0<X.length:=by
 have h1:=h.can.1.1
 unfold isPb at h1
 have:=of_decide_eq_true h1
 omega
theorem Bk.tab (h:Bk X r A C):(itn (allT X)).Nodup∧(∀s ∈ itn (allT X),right5 s=true∧s.size≤16777216)∧(itn (allT X)).length≤120∧sum6 (itn (allT X))≤16777216:=by
 have hT:∀s ∈ allT X,ok8 s=true∧s.size≤3000:=fun s hs=>by
  unfold allT at hs
  obtain ⟨x,hx,hs⟩:=List.mem_flatMap.1 hs
  obtain ⟨i,hi,rfl⟩:=List.getElem_of_mem hx
  have e:X[i]=X.getD i noNx:=by rw [List.getD_eq_getElem?_getD,List.getElem?_eq_getElem hi];rfl
  rw [e] at hs
  exact ⟨tyN_ok8 (tyE_all h.ty i hi) s hs,(big_no (h.sm.2 i hi)).2.2.2 s hs⟩
 have hl:(allT X).length≤120:=by
  have key:∀i,i≤X.length→(allT (X.take i)).length≤2*i:=by
   intro i
   induction i with
   | zero=>intro _;simp [allT]
   | succ i ih=>
    intro hi
    rw [allT_take X i (by omega),List.length_append]
    have:=tyN_texts (tyE_all h.ty i (by omega))
    have:=ih (by omega)
    omega
  have h1:=key X.length (Nat.le_refl _)
  rw [List.take_of_length_le (Nat.le_refl _)] at h1
  have:=h.few
  omega
 have h2:=itn_len (allT X)
 have h3:∀(T:List ByteArray),(∀s ∈ T,s.size≤3000)→sum6 T≤3000*T.length:=by
  intro T
  induction T with
  | nil=>intro _;simp [sum6]
  | cons x t ih=>
   intro q
   have h1:=q x (by simp)
   have h2:=ih (fun s hs=>q s (by simp [hs]))
   have h0:sum6 (x :: t)=x.size+sum6 t:=by simp [sum6]
   rw [h0,List.length_cons]
   omega
 have h4:=h3 (itn (allT X)) (fun s hs=>(hT s ((itn_mem _ _).1 hs)).2)
 refine ⟨itn_nodup _,fun s hs=>⟨right_ok8 (hT s ((itn_mem _ _).1 hs)).1,by have:=(hT s ((itn_mem _ _).1 hs)).2;omega⟩,by omega,by omega⟩
theorem Bk.edg (h:Bk X r A C):edg X≤180000:=by
 have key:∀i,i≤X.length→Go.Proofs.YtcgjgjjegnofeaaGreatDoor.edg (X.take i)≤3000*i:=by
  intro i
  induction i with
  | zero=>intro _;simp [Go.Proofs.YtcgjgjjegnofeaaGreatDoor.edg]
  | succ i ih=>
   intro hi
   rw [edg_take X i (by omega)]
   have:=(big_no (h.sm.2 i (by omega))).2.2.1
   have:=ih (by omega)
   omega
 have h1:=key X.length (Nat.le_refl _)
 rw [List.take_of_length_le (Nat.le_refl _)] at h1
 have:=h.few
 omega
theorem Bk.drop (h:Bk X r A C):C.data.toList.drop (put X.length).length=rAllN 0 (X.map Nx.nd) []++[]:=by
 rw [h.c,List.append_nil]
 exact List.drop_left
theorem Bk.recs (h:Bk X r A C):(∀j,j<(X.map Nx.nd).length→rE ((X.map Nx.nd).getD j ⟨0,[],[],[]⟩) ((0+j:Nat):Int)=0)∧∀N ∈ X.map Nx.nd,fine N.ints:=by
 refine ⟨fun j hj=>?_,fun N hN=>?_⟩
 ·rw [List.length_map] at hj
  rw [getD_map hj,Nat.zero_add]
  exact can_rE h.can h.ty hj
 ·obtain ⟨x,hx,rfl⟩:=List.mem_map.1 hN
  obtain ⟨i,hi,rfl⟩:=List.getElem_of_mem hx
  have:=h.fn i hi
  rwa [List.getD_eq_getElem?_getD,List.getElem?_eq_getElem hi] at this
theorem Bk.sz (h:Bk X r A C):C.size=(put X.length).length+(rAllN 0 (X.map Nx.nd) []).length:=by
 rw [← list_size,h.c,List.length_append]
theorem Bk.ks (h:Bk X r A C) (ho:okL l=true) (hx:(sum6 (itn (allT X)):Int)≤l.x) (hn:(X.length:Int)≤l.n) (he:(Go.Proofs.YtcgjgjjegnofeaaGreatDoor.edg X:Int)≤l.e):geK A C l=(0,X.map Nx.nd,itn (allT X)):=by
 obtain ⟨t1,t2,t3,t4⟩:=h.tab
 have hp:=h.pos
 have hf:=h.few
 have hed:=h.edg
 have g1:=pGet6_putB (itn (allT X)) A 16777216 l.x h.a t1 t2 (by omega) (by omega) hx
 have g2:=(pUint_put C l.n X.length _ h.c (by omega)).2 (by omega)
 have g3:=gNs_put C (X.map Nx.nd) 0 [] (put X.length).length l.e [] h.drop h.recs.1 h.recs.2 (by rw [List.length_map];omega) (by rw [rTab_all];omega) (by rw [sumK_edg];exact he) (by rw [sumK_edg];omega)
 rw [rTab_all,List.length_map] at g3
 exact geK_7 A C l ho g1 g2 (by omega) (by rw [Int.toNat_natCast];exact g3) (by rw [h.sz];omega)
theorem Bk.got (h:Bk X r A C) (ho:okL l=true) (hx:(sum6 (itn (allT X)):Int)≤l.x) (hn:(X.length:Int)≤l.n) (he:(Go.Proofs.YtcgjgjjegnofeaaGreatDoor.edg X:Int)≤l.e) (hd:DepthIs X r d) (hl:(d:Int)≤l.d):GeIs A C l (X.map Nx.nd) r 0:=by
 have hk:=h.ks ho hx hn he
 have hc:=check_right h.can.1
 exact (GeIs.of hk h.root ⟨0,0,d,hc,hd,.inr ⟨rfl,.inr ⟨by omega,.inr ⟨h.can,.inr ⟨rfl,rfl⟩⟩⟩⟩⟩).2 rfl
theorem Bk.deep (h:Bk X r A C) (ho:okL l=true) (hx:(sum6 (itn (allT X)):Int)≤l.x) (hn:(X.length:Int)≤l.n) (he:(Go.Proofs.YtcgjgjjegnofeaaGreatDoor.edg X:Int)≤l.e) (hd:DepthIs X r d) (hl:l.d<(d:Int)):GeIs A C l (([]:List Nx).map Nx.nd) 0 19:=by
 have hk:=h.ks ho hx hn he
 have hc:=check_right h.can.1
 exact (GeIs.of hk h.root ⟨0,0,d,hc,hd,.inr ⟨rfl,.inl ⟨hl,rfl⟩⟩⟩).1 (by decide)
theorem Bk.nodes (h:Bk X r A C) (ho:okL l=true) (hx:(sum6 (itn (allT X)):Int)≤l.x) (hn:l.n<(X.length:Int)):GeIs A C l (([]:List Nx).map Nx.nd) 0 19:=by
 obtain ⟨t1,t2,t3,t4⟩:=h.tab
 have hf:=h.few
 have g1:=pGet6_putB (itn (allT X)) A 16777216 l.x h.a t1 t2 (by omega) (by omega) hx
 have g2:=(pUint_put C l.n X.length _ h.c (by omega)).1 hn
 refine GeIs.bad ?_ (by decide)
 exact (geK_3 A C l ho g1 (n:=(pUint C 0 0 l.n).1) (k:=(pUint C 0 0 l.n).2.1) (e:=(pUint C 0 0 l.n).2.2) rfl (by rw [g2];decide)).trans g2
theorem Bk.ways (h:Bk X r A C) (ho:okL l=true) (hx:(sum6 (itn (allT X)):Int)≤l.x) (hn:(X.length:Int)≤l.n) (he:l.e<(Go.Proofs.YtcgjgjjegnofeaaGreatDoor.edg X:Int)):GeIs A C l (([]:List Nx).map Nx.nd) 0 19:=by
 obtain ⟨t1,t2,t3,t4⟩:=h.tab
 have hp:=h.pos
 have hf:=h.few
 have hed:=h.edg
 have g1:=pGet6_putB (itn (allT X)) A 16777216 l.x h.a t1 t2 (by omega) (by omega) hx
 have g2:=(pUint_put C l.n X.length _ h.c (by omega)).2 (by omega)
 have g3:=gNs_limit C (X.map Nx.nd) 0 [] (put X.length).length l.e [] h.drop h.recs.1 h.recs.2 (by rw [List.length_map];omega) (by rw [rTab_all];omega) (by rw [sumK_edg];exact he) (okL_in ho).2.2.1.1 (by rw [sumK_edg];omega)
 rw [rTab_all,List.length_map] at g3
 refine GeIs.bad ?_ (by decide)
 obtain ⟨P,k',e,hS⟩:∃P k' e,gNs C (itn (allT X)) X.length 0 (put X.length).length l.e=(P,k',e):=⟨_,_,_,rfl⟩
 rw [hS] at g3
 exact (geK_5 A C l ho g1 g2 (by omega) (by rw [Int.toNat_natCast];exact hS) (by rw [g3];decide)).trans g3
theorem Bk.texts (h:Bk X r A C) (ho:okL l=true) (hs:sum6 (itn (allT X))≠0) (hx:l.x=(sum6 (itn (allT X)):Int)-1):GeIs A C l (([]:List Nx).map Nx.nd) 0 19:=by
 obtain ⟨t1,t2,t3,t4⟩:=h.tab
 have g1:=pGet6_less (itn (allT X)) A 16777216 h.a t1 t2 (by omega) (by omega) hs
 rw [← hx] at g1
 refine GeIs.bad ?_ (by decide)
 obtain ⟨te,L,hT⟩:∃te L,pGet6 A 16777216 l.x=(te,L):=⟨_,_,rfl⟩
 rw [hT] at g1
 dsimp only at g1
 exact (geK_2 A C l ho hT (by rw [g1];decide)).trans g1
end
def Qn (nb:ByteArray) (L:List ByteArray) (l:Lm):Prop:=
 ∀P k' e',gNs nb L (pUint nb 0 0 l.n).1.toNat 0 (pUint nb 0 0 l.n).2.1 l.e=(P,k',e')→P.length≤1401∧∀N ∈ P,big N=false∧fine N.ints
theorem gNs_pre3 (b:ByteArray) (L:List ByteArray) (hn:L.Nodup) (hr:∀s ∈ L,ok8 s=true) (M:Nat) (hM:M≤3000) (hb:b.size≤M) (hs:sum6 L≤M):∀(n i k:Nat) (ed:Int) (l:List Nd) (k':Nat) (e':Int),gNs b L n i k ed=(l,k',e')→(i:Int)+n≤9223372036854775807→k≤b.size→
  k+3*l.length≤b.size∧∀N ∈ l,big N=false∧fine N.ints:=by
 intro n
 induction n with
 | zero=>
  intro i k ed l k' e' h _ hk
  simp only [gNs,Prod.mk.injEq] at h
  obtain ⟨rfl,rfl,_⟩:=h
  exact ⟨by simpa using hk,fun N q=>by simp at q⟩
 | succ n ih=>
  intro i k ed l k' e' h hi hk
  unfold gNs at h
  split at h
  ·simp only [Prod.mk.injEq] at h
   obtain ⟨rfl,_,_⟩:=h
   exact ⟨by simpa using hk,fun N q=>by simp at q⟩
  ·rename_i he
   have he:(gNd b i L ed k 0).2.2=0:=by simpa using he
   obtain ⟨N,k1,e1,hR⟩:∃N k1 e1,gNd b i L ed k 0=(N,k1,e1):=⟨_,_,_,rfl⟩
   rw [hR] at h he
   dsimp only at h he
   subst he
   obtain ⟨l2,k2,e2,hS⟩:∃l2 k2 e2,gNs b L n (i+1) k1 (ed-N.kids.length)=(l2,k2,e2):=⟨_,_,_,rfl⟩
   rw [hS] at h
   simp only [Prod.mk.injEq] at h
   obtain ⟨rfl,rfl,rfl⟩:=h
   obtain ⟨a1,_,a3,a4⟩:=gNd_three hR (by omega) hn hr
   have hk1:k1≤b.size:=by have:=gNd_le b i L ed k 0 hk;rw [hR] at this;exact this
   obtain ⟨b1,b2⟩:=ih (i+1) k1 _ l2 k2 e2 hS (by omega) hk1
   refine ⟨by simp only [List.length_cons];omega,fun N' q=>?_⟩
   rcases List.mem_cons.1 q with rfl|q
   ·exact ⟨a3 M hM hb hs,a4⟩
   ·exact b2 N' q
theorem qn_small {tx nb:ByteArray} {l:Lm} {L:List ByteArray} (h:pGet6 tx 16777216 l.x=(0,L)) (hz:tx.size≤3000) (hy:nb.size≤3000):Qn nb L l:=fun P k' e' hS=>by
 have h1:=pGet6_ok tx 16777216 l.x (by rw [h])
 have h2:=pGet6_ok8 tx 16777216 l.x (by rw [h])
 rw [h] at h1 h2
 dsimp only at h1 h2
 have hut:=pUint_top nb 0 0 l.n
 have h3:=gNs_pre3 nb L h1.2.1 h2 3000 (Nat.le_refl _) (by omega) (by omega) _ 0 _ _ P k' e' hS (by have:=hut.2.1;omega) (pUint_at nb 0 0 l.n (Nat.zero_le _)).2
 exact ⟨by omega,h3.2⟩
theorem gNs_pre (b:ByteArray):∀(l:List Nd) (i:Nat) (L:List ByteArray) (k:Nat) (ed:Int) (x:List UInt8),b.data.toList.drop k=rAllN i l L++x→(∀j,j<l.length→rE (l.getD j ⟨0,[],[],[]⟩) ((i+j:Nat):Int)=0)→(∀N ∈ l,fine N.ints)→
  i+l.length≤16777216→(rTab l L).length≤16777216→0≤ed→sumK l≤16777216→∀P k' e',gNs b (rTab l L) l.length i k ed=(P,k',e')→P.length≤l.length∧∀N ∈ P,N ∈ l
 | [],i,L,k,ed,x,_,_,_,_,_,_,_,P,k',e',h=>by
  simp only [List.length_nil,gNs,Prod.mk.injEq] at h
  obtain ⟨rfl,_,_⟩:=h
  exact ⟨Nat.le_refl _,fun N q=>by simp at q⟩
 | N :: r,i,L,k,ed,x,h,hE,hf,hi,hM,h0,hs2,P,k',e',hP=>by
  rw [sumK_cons] at hs2
  rw [List.length_cons] at hi
  have h':b.data.toList.drop k=rB N i L++(rAllN (i+1) r (itF L N.texts)++x):=by rw [h,← List.append_assoc];rfl
  have hx:∀s ∈ N.texts,idx6 s (rTab (N :: r) L)=idx6 s (itF L N.texts)∧idx6 s (rTab (N :: r) L)<(rTab (N :: r) L).length:=fun s q=>by
   have:=rTab_keep r (itF L N.texts) s (itF_sub _ _ _ (.inr q))
   exact ⟨this.1,(idx6_mem _ _).2 this.2⟩
  rw [List.length_cons] at hP
  unfold gNs at hP
  by_cases hk:(N.kids.length:Int)≤ed
  ·have h1:=gNd_put b N i ed L (rTab (N :: r) L) k _ h' (by have:=hE 0 (by simp);simpa using this) (hf N (by simp)) (by omega) hM hx (by omega) hk
   rw [h1] at hP
   dsimp only at hP
   rw [if_neg (by decide)] at hP
   obtain ⟨P2,k2,e2,hS⟩:∃P2 k2 e2,gNs b (rTab (N :: r) L) r.length (i+1) (k+(rB N i L).length) (ed-N.kids.length)=(P2,k2,e2):=⟨_,_,_,rfl⟩
   rw [hS] at hP
   simp only [Prod.mk.injEq] at hP
   obtain ⟨rfl,_,_⟩:=hP
   have h2:=gNs_pre b r (i+1) (itF L N.texts) (k+(rB N i L).length) (ed-N.kids.length) x (drop_more h' rfl) (fun j hj=>by
    have:=hE (j+1) (by simp;omega)
    rw [show i+(j+1)=i+1+j by omega] at this
    simpa using this) (fun M q=>hf M (by simp [q])) (by omega) hM (by omega) (by omega) P2 k2 e2 hS
   refine ⟨by simp only [List.length_cons];omega,fun M q=>?_⟩
   rcases List.mem_cons.1 q with rfl|q
   ·simp
   ·exact List.mem_cons_of_mem _ (h2.2 M q)
  ·have h1:=gNd_over b N i ed L (rTab (N :: r) L) k _ h' (by have:=hE 0 (by simp);simpa using this) (hf N (by simp)) hM hx (by omega) (by omega) (by omega)
   rw [if_pos (by rw [h1];decide)] at hP
   simp only [Prod.mk.injEq] at hP
   obtain ⟨rfl,_,_⟩:=hP
   exact ⟨Nat.zero_le _,fun M q=>by simp at q⟩
theorem Bk.qn {X:List Nx} {r:Int} {A C:ByteArray} {l:Lm} (h:Bk X r A C) (he:0≤l.e):Qn C (itn (allT X)) l:=fun P k' e' hS=>by
 obtain ⟨t1,t2,t3,t4⟩:=h.tab
 have hf:=h.few
 have hed:=h.edg
 by_cases hn:(X.length:Int)≤l.n
 ·have g2:=(pUint_put C l.n X.length _ h.c (by omega)).2 (by omega)
  rw [g2] at hS
  dsimp only at hS
  rw [Int.toNat_natCast,← rTab_all] at hS
  have hl:(X.map Nx.nd).length=X.length:=List.length_map _
  rw [← hl] at hS
  have h1:=gNs_pre C (X.map Nx.nd) 0 [] (put (X.map Nx.nd).length).length l.e [] (by rw [hl];exact h.drop) h.recs.1 h.recs.2 (by omega) (by rw [rTab_all];omega) he (by rw [sumK_edg];omega) P k' e' hS
  refine ⟨by omega,fun N q=>?_⟩
  obtain ⟨x,hx,rfl⟩:=List.mem_map.1 (h1.2 N q)
  obtain ⟨i,hi,rfl⟩:=List.getElem_of_mem hx
  have e:X[i]=X.getD i noNx:=by rw [List.getD_eq_getElem?_getD,List.getElem?_eq_getElem hi];rfl
  rw [e]
  exact ⟨h.sm.2 i hi,h.fn i hi⟩
 ·have g2:=(pUint_put C l.n X.length _ h.c (by omega)).1 (by omega)
  have g3:=(pUint_val C 0 l.n).2.2 (by rw [g2];decide)
  rw [g3] at hS
  simp only [Int.toNat_zero,gNs,Prod.mk.injEq] at hS
  obtain ⟨rfl,_,_⟩:=hS
  exact ⟨by simp,fun N q=>by simp at q⟩
def CkIs (X:List Nx) (r dp k:Int):Prop:=∃n y d,CheckIs X r n y∧DepthIs X r d∧((n≠0∧k=n)∨(n=0∧((dp<(d:Int)∧k=19)∨(¬dp<(d:Int)∧((¬IsCan X r∧k=16)∨(IsCan X r∧k=0))))))
theorem CkIs.bad {X:List Nx} {r k:Int} {l:Lm} {L:List ByteArray} (h:CkIs X r l.d k) (hk:k≠0):GeS X r L l k:=by
 obtain ⟨n,y,d,h1,h2,h3⟩:=h
 refine ⟨n,y,d,h1,h2,?_⟩
 rcases h3 with h3|⟨h3,h4|⟨h4,h5|⟨h5,h6⟩⟩⟩
 ·exact .inl h3
 ·exact .inr ⟨h3,.inl h4⟩
 ·exact .inr ⟨h3,.inr ⟨h4,.inl h5⟩⟩
 ·exact absurd h6 hk
theorem CkIs.good {X:List Nx} {r:Int} {l:Lm} {L:List ByteArray} (h:CkIs X r l.d 0) (q:Int) (hq:(itn (allT X)≠L∧q=18)∨(itn (allT X)=L∧q=0)):GeS X r L l q:=by
 obtain ⟨n,y,d,h1,h2,h3⟩:=h
 refine ⟨n,y,d,h1,h2,?_⟩
 rcases h3 with ⟨h3,h4⟩|⟨h3,⟨_,h4⟩|⟨h4,⟨_,h5⟩|⟨h5,_⟩⟩⟩
 ·exact absurd h4.symm h3
 ·cases h4
 ·cases h5
 ·exact .inr ⟨h3,.inr ⟨h4,.inr ⟨h5,hq⟩⟩⟩
theorem PuIs.uniq {X:List Nx} {r e e':Int} {A C A' C':ByteArray} (h:PuIs X r A C e) (h':PuIs X r A' C' e'):A'=A∧C'=C∧e'=e:=by
 have key:∀{s t:ByteArray},s.data.toList=t.data.toList→s=t:=fun {s t} q=>by
  cases s;cases t;congr;exact Array.toList_inj.1 q
 rcases h with ⟨h1,rfl,rfl,rfl⟩|⟨h1,n,y,h2,h3⟩
 ·rcases h' with ⟨_,rfl,rfl,rfl⟩|⟨g1,_⟩
  ·exact ⟨rfl,rfl,rfl⟩
  ·exact absurd g1 h1
 ·rcases h' with ⟨g1,_⟩|⟨_,n',y',g2,g3⟩
  ·exact absurd h1 g1
  ·obtain ⟨rfl,rfl⟩:=h2.uniq g2
   rcases h3 with ⟨a,rfl,rfl,rfl⟩|⟨a,⟨b,rfl,rfl,rfl⟩|⟨b,rfl,hA,hC⟩⟩
   ·rcases g3 with ⟨_,rfl,rfl,rfl⟩|⟨a',_⟩
    ·exact ⟨rfl,rfl,rfl⟩
    ·exact absurd a' a
   ·rcases g3 with ⟨a',_⟩|⟨_,⟨_,rfl,rfl,rfl⟩|⟨b',_⟩⟩
    ·exact absurd a a'
    ·exact ⟨rfl,rfl,rfl⟩
    ·exact absurd b' b
   ·rcases g3 with ⟨a',_⟩|⟨_,⟨b',_⟩|⟨_,rfl,hA',hC'⟩⟩
    ·exact absurd a a'
    ·exact absurd b b'
    ·exact ⟨key (hA'.trans hA.symm),key (hC'.trans hC.symm),rfl⟩
end Go.Proofs.YtcgjgjjegnofeaaGreatDoor
namespace Go.Proofs.YtcgjgjjegnofeaaGreatDoor
open Go.ChangeShapes Go.WideShapes Go.ChangeAt Go.RowKit Go.Joins Go.Deep
def laid2:List (String × DataW Unit):=Rows.fileSavesRow.laid
theorem tK:(Tryz.prog.globals[0]?).map (·.type)=some 219:=by kernel_rfl
theorem tS:(Tryz.prog.globals[1]?).map (·.type)=some 242:=by kernel_rfl
theorem tabs_of {W:World} (h:laidMetH Tryz.prog laid2 W):Tabs12 W:=by
 rw [MakeChecks.laidMetH_plain _ _ _ (by kernel_rfl)] at h
 obtain ⟨ps,⟨g0,t0,cs0,f0,p0,q0,hg0,ht0,hv0,hd0,⟨g1,t1,cs1,f1,p1,q1,hg1,ht1,hv1,hd1,_,_⟩,_⟩,_,_⟩:=h
 exact ⟨tab_of (n:=8) (by kernel_rfl) tK (by kernel_rfl) hg0 ht0 hv0 hd0,tab_of (n:=8) (by kernel_rfl) tS (by kernel_rfl) hg1 ht1 hv1 hd1⟩
theorem door_met (os:Os) (args:Array Value):laidMetH Tryz.prog laid2 ((World.doorLaid Tryz.prog 400 os).forCall (fun _ _=>0) ⟨#[],args,[]⟩).memory:=
 laidMetH_of_parts3 (fuel:=8) (laidMet_of_run' 8 (by kernel_rfl) (by kernel_rfl)) (by kernel_rfl) (by kernel_rfl)
structure LmR (l:Lm):Prop where
 b:inR l.b
 n:inR l.n
 e:inR l.e
 d:inR l.d
 x:inR l.x
section
variable {H:Type} {enc:TypeId × Value→H} {P:Program} {w:World}
theorem five_cells {α : Type} {cs:Array α} (h:cs.size=5):∃c0 c1 c2 c3 c4,cs=#[c0,c1,c2,c3,c4]:=by
 obtain ⟨l⟩:=cs
 match l,h with
 | [c0,c1,c2,c3,c4],_=>exact ⟨c0,c1,c2,c3,c4,rfl⟩
theorem five_read {xs:List (DataW H × List MemPlace)} (h:xs.length=5):∃y0 y1 y2 y3 y4,xs=[y0,y1,y2,y3,y4]:=by
 match xs,h with
 | [y0,y1,y2,y3,y4],_=>exact ⟨y0,y1,y2,y3,y4,rfl⟩
theorem open_lim {r:Reach} {b0:Nat} {t:TypeId} {f0 f1 f2 f3 f4:Field} {v:Value} {d:DataW H} {p:List MemPlace} (hs:P.underlying t=some (.struct #[f0,f1,f2,f3,f4])) (hone:oneCellFields P #[f0,f1,f2,f3,f4]=true) (hC:P.cellsOf t=5)
  (u0:P.underlying f0.type=some (.int .i64)) (u1:P.underlying f1.type=some (.int .i64)) (u2:P.underlying f2.type=some (.int .i64)) (u3:P.underlying f3.type=some (.int .i64)) (u4:P.underlying f4.type=some (.int .i64))
  (hv:Value.okWide P w r b0 t v) (h:DataW.Trod enc P w 0 (fun _=>true) true t v d p) :
  ∃l:Lm,v=.agg #[.int .i64 l.b,.int .i64 l.n,.int .i64 l.e,.int .i64 l.d,.int .i64 l.x]∧LmR l:=by
 obtain ⟨cs,rfl,hsz⟩:=okWide_struct hs hv
 obtain ⟨c0,c1,c2,c3,c4,rfl⟩:=five_cells (hsz.trans hC)
 obtain ⟨fuel,hf⟩:=h
 obtain ⟨xs,n,_,_,_,hlen,hx⟩:=DataW.trod_struct hs hf
 obtain ⟨y0,y1,y2,y3,y4,rfl⟩:=five_read (by simpa using hlen)
 obtain ⟨o0,k0⟩:=hone_of hone 0 f0 rfl
 obtain ⟨o1,k1⟩:=hone_of hone 1 f1 rfl
 obtain ⟨o2,k2⟩:=hone_of hone 2 f2 rfl
 obtain ⟨o3,k3⟩:=hone_of hone 3 f3 rfl
 obtain ⟨o4,k4⟩:=hone_of hone 4 f4 rfl
 have t0:=hx 0 f0 rfl
 have t1:=hx 1 f1 rfl
 have t2:=hx 2 f2 rfl
 have t3:=hx 3 f3 rfl
 have t4:=hx 4 f4 rfl
 simp [Value.cells,o0,k0,o1,k1,o2,k2,o3,k3,o4,k4] at t0 t1 t2 t3 t4
 obtain ⟨z0,e0,_,g0⟩:=DataW.trod_int u0 t0
 obtain ⟨z1,e1,_,g1⟩:=DataW.trod_int u1 t1
 obtain ⟨z2,e2,_,g2⟩:=DataW.trod_int u2 t2
 obtain ⟨z3,e3,_,g3⟩:=DataW.trod_int u3 t3
 obtain ⟨z4,e4,_,g4⟩:=DataW.trod_int u4 t4
 simp at e0 e1 e2 e3 e4
 subst e0 e1 e2 e3 e4
 exact ⟨⟨z0,z1,z2,z3,z4⟩,rfl,⟨wf_i64 g0,wf_i64 g1,wf_i64 g2,wf_i64 g3,wf_i64 g4⟩⟩
end
theorem IsSc.fn {w:World} {a:Option Addr} {X:List Nx} {r:Int} (h:IsSc w a X r):FnX X:=fun i hi j hj=>by
 have h1:=(h.rg i hi).ints
 generalize (X.getD i noNx).nd.ints=T at *
 exact h1 _ (by rw [List.getD_eq_getElem?_getD,List.getElem?_eq_getElem hj];exact List.getElem_mem hj)
def Whole (X:List Nx) (r:Int):Prop:=tyE X=0∧RightIs X r
end Go.Proofs.YtcgjgjjegnofeaaGreatDoor
namespace Go.Proofs.YtcgjgjjegnofeaaGreatDoor
open Go.RowKit Go.Maps Go.WideMaps Go.Sort
theorem itn_same {T U:List ByteArray} (h:∀s,s ∈ T↔s ∈ U):sum6 (itn T)=sum6 (itn U):=by
 have hp:(itn T).Perm (itn U):=(List.perm_ext_iff_of_nodup (itn_nodup T) (itn_nodup U)).2 (fun s=>by rw [itn_mem,itn_mem,h])
 exact List.Perm.sum_nat (hp.map ByteArray.size)
theorem allT_mem (X:List Nx) (s:ByteArray):s ∈ allT X↔∃i,i<X.length∧s ∈ (X.getD i noNx).nd.texts:=by
 unfold allT
 rw [List.mem_flatMap]
 constructor
 ·rintro ⟨x,hx,hs⟩
  obtain ⟨i,hi,rfl⟩:=List.getElem_of_mem hx
  exact ⟨i,hi,by rwa [List.getD_eq_getElem?_getD,List.getElem?_eq_getElem hi]⟩
 ·rintro ⟨i,hi,hs⟩
  rw [List.getD_eq_getElem?_getD,List.getElem?_eq_getElem hi] at hs
  exact ⟨X[i],List.getElem_mem hi,hs⟩
theorem ren_tyN (f:Int→Int) (N:Nd):tyN (renNd f N)=tyN N:=by simp [tyN,chkN,renNd]
section
variable {X Y:List Nx} {p:Nat→Nat} {r:Int} {l:Lm} {d:Nat}
theorem Ren.txb (h:Ren X Y p):txb Y=txb X:=by
 refine itn_same fun s=>?_
 rw [allT_mem,allT_mem]
 constructor
 ·rintro ⟨j,hj,hs⟩
  rw [h.len] at hj
  obtain ⟨i,hi,rfl⟩:=h.per.onto j hj
  rw [h.nd i hi] at hs
  exact ⟨i,hi,hs⟩
 ·rintro ⟨i,hi,hs⟩
  exact ⟨p i,by rw [h.len];exact h.per.lt i hi,by rw [h.nd i hi];exact hs⟩
theorem Ren.ty (h:Ren X Y p) (q:tyE X=0):tyE Y=0:=tyE_of fun j hj=>by
 rw [h.len] at hj
 obtain ⟨i,hi,rfl⟩:=h.per.onto j hj
 rw [h.nd i hi,ren_tyN]
 exact tyE_all q i hi
theorem Ren.fnx (h:Ren X Y p) (hX:FnX X):FnX Y:=fun j hj=>by
 rw [h.len] at hj
 obtain ⟨i,hi,rfl⟩:=h.per.onto j hj
 rw [h.nd i hi]
 exact hX i hi
end
theorem bk_of {X Y:List Nx} {r e:Int} {A C:ByteArray} (hS:Small X) (hf:X.length≤60) (hF:FnX X) (hW:Whole X r) (hY:Y.map Nx.nd=cX X r) (hP:PuIs Y ((X.length:Int)-1) A C e):e=0∧Bk Y ((X.length:Int)-1) A C:=by
 have hR:=can_ren hW.2 hY
 have hT:=hR.ty hW.1
 have hC:=can_isCan hW.2 hY
 rcases hP with ⟨h1,_⟩|⟨_,n,y,h2,⟨h3,_⟩|⟨h3,⟨h4,_⟩|⟨h4,h5,h6,h7⟩⟩⟩
 ·exact absurd hT h1
 ·exact absurd (h2.right.2 hC.1) h3
 ·exact absurd hC h4
 ·exact ⟨h5,hR.small hS,by rw [hR.len];exact hf,hR.fnx hF,hT,hC,by rw [hR.len],by rw [← rTab_all];exact h6,h7⟩
theorem rAllN_len:∀(l:List Nd) (i:Nat) (L:List ByteArray),(∀N ∈ l,big N=false)→(rAllN i l L).length≤32020*l.length
 | [],_,_,_=>by simp [rAllN]
 | N :: r,i,L,h=>by
  have h1:=rB_size N i L (h N (by simp))
  have h2:=rAllN_len r (i+1) (itF L N.texts) (fun M q=>h M (by simp [q]))
  show (rB N i L++rAllN (i+1) r (itF L N.texts)).length≤_
  rw [List.length_append,List.length_cons]
  omega
theorem sum6_few:∀T:List ByteArray,(∀s ∈ T,s.size≤3000)→sum6 T≤3000*T.length
 | [],_=>by simp [sum6]
 | x :: t,q=>by
  have h1:=q x (by simp)
  have h2:=sum6_few t (fun s hs=>q s (by simp [hs]))
  have h0:sum6 (x :: t)=x.size+sum6 t:=by simp [sum6]
  rw [h0,List.length_cons]
  omega
theorem Bk.size {X:List Nx} {r:Int} {A C:ByteArray} (h:Bk X r A C):A.size≤1000000∧C.size≤4000000:=by
 have hf:=h.few
 constructor
 ·have h1:=list_size A
  rw [h.a] at h1
  have h2:=body6_le (itn (allT X))
  have h3:=put_length (itn (allT X)).length
  have h4:=h.tab.2.2.1
  have hs:=allT_small X h.sm X.length (Nat.le_refl _)
  rw [List.take_of_length_le (Nat.le_refl _)] at hs
  have h5:=sum6_few (itn (allT X)) (fun s q=>hs.2 s ((itn_mem _ _).1 q))
  unfold pPut6 at h1
  rw [List.length_append] at h1
  omega
 ·have h1:=h.sz
  have h3:=put_length X.length
  have h4:=rAllN_len (X.map Nx.nd) 0 [] (fun N q=>by
   obtain ⟨x,hx,rfl⟩:=List.mem_map.1 q
   obtain ⟨i,hi,rfl⟩:=List.getElem_of_mem hx
   have e:X[i]=X.getD i noNx:=by rw [List.getD_eq_getElem?_getD,List.getElem?_eq_getElem hi];rfl
   rw [e]
   exact h.sm.2 i hi)
  rw [List.length_map] at h4
  omega
theorem can_depth {X Y:List Nx} {r:Int} {d:Nat} (hR:RightIs X r) (hY:Y.map Nx.nd=cX X r) (hd:DepthIs X r d):DepthIs Y ((X.length:Int)-1) d:=by
 have h:=can_ren hR hY
 have e:=can_root hR
 obtain ⟨d',hd'⟩:=depth_there Y ((X.length:Int)-1)
 have hd2:=hd'
 rw [← e] at hd2
 have:=h.depth hR hd hd2
 subst this
 exact hd'
end Go.Proofs.YtcgjgjjegnofeaaGreatDoor
