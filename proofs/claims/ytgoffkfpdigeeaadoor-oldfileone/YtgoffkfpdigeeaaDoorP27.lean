import Derived.Test.YtgoffkfpdigeeaaDoorP24
import Derived.Test.YtgoffkfpdigeeaaDoorP26
import Derived.Test.YtgoffkfpdigeeaaDoorP22
import Derived.Test.YtgoffkfpdigeeaaDoorP21
import Derived.Test.YtgoffkfpdigeeaaDoorP17
import Derived.Test.YtgoffkfpdigeeaaDoorP09
import Derived.Test.YtgoffkfpdigeeaaDoorP08
import Derived.Test.YtgoffkfpdigeeaaDoorP23
import Derived.Test.YtgoffkfpdigeeaaDoorP18
import Derived.Test.YtgoffkfpdigeeaaDoorP06
namespace Go.Proofs.YtgoffkfpdigeeaaDoor
open Go.RowKit Go.Maps Go.WideMaps Go.Sort
set_option maxRecDepth 10000 in
set_option maxHeartbeats 1000000 in
theorem posave_any (X:List Nx) (a:Option Addr) (c:Nat) (r:Int) (l:Lm) (w:World) (h:ScAt w a X) (hX:Small X) (hF:FnX X) (hT:Tabs16 w) (hz:tyEo X=0→RightIs X r→(oC (X.map Nx.nd)).size≤4000000) :
  Calls Tryd.prog 6 #[.agg #[.slice a X.length c,.int .i64 r],.agg (liC l)] w fun e w'=>SoOut X r l w w' e:=by
 have hlC:liC l=#[.int .i64 l.b,.int .i64 l.n,.int .i64 l.e,.int .i64 l.d,.int .i64 l.x]:=rfl
 rw [hlC]
 obtain ⟨d,hd⟩:=depth_there X r
 have HA:Hid (∀(o1 o2:Obj),o1=.cells #[.slice a X.length c,.int .i64 r] 27→o2=.cells #[.int .i64 l.b,.int .i64 l.n,.int .i64 l.e,.int .i64 l.d,.int .i64 l.x] 23→AtN 27 ((w.alloc o1).alloc o2) w.heap.size #[.slice a X.length c,.int .i64 r]∧AtN 23 ((w.alloc o1).alloc o2) (w.heap.size+1) #[.int .i64 l.b,.int .i64 l.n,.int .i64 l.e,.int .i64 l.d,.int .i64 l.x]∧Below w.heap.size w ((w.alloc o1).alloc o2)):=by
  rintro _ _ rfl rfl
  exact ⟨(AtN.new w 27 _).alloc _,mk_at (AtN.new (w.alloc _) 23 _) (show _=w.heap.size+1 by simp),((Below.refl w.heap.size w).alloc (Nat.le_refl _) _).alloc (by simp) _⟩
 have HV:Hid (∀W,Below w.heap.size w W→Calls Tryd.prog 7 #[.agg #[.slice a X.length c,.int .i64 r],.agg #[.int .i64 l.b,.int .i64 l.n,.int .i64 l.e,.int .i64 l.d,.int .i64 l.x]] W fun e w'=>VoOut X r l d W w' e):=fun W hW=>ovalid_any X a c r l d W (h.belowB hW) hX hF (hT.on hW) hd
 have HIs:Hid (∀W,Below w.heap.size w W→Calls Tryd.prog 8 #[.agg #[.slice a X.length c,.int .i64 r]] W fun e w'=>FowOut X r W w' e):=fun W hW=>ois_any X a c r W (h.belowB hW) hX
 have HWr:Hid (∀(W:World),tyEo X=0→RightIs X r→Below w.heap.size w W→Calls Tryd.prog 16 #[.agg #[.slice a X.length c,.int .i64 r],.int .i64 l.b] W fun e w'=>∃Q:ByteArray,e=.returned (.string Q)∧(Q=oC (X.map Nx.nd)∨(l.b<(Q.size:Int)∧Q.size≤(oC (X.map Nx.nd)).size))∧Below W.heap.size W w'):=fun W hw hr hW=>owrite_any X a c r l.b W (h.belowB hW) hX.1 (fun i hi=>smn_of hX hF hw hr i hi)
 have HPt:Hid (∀(W:World) (Q:ByteArray) (g:Nat),tyEo X=0→RightIs X r→Q.size≤(oC (X.map Nx.nd)).size→AtN 46 W g #[.int .i64 1,.string Q]→Calls Tryd.prog 15 #[.string ⟨#[68,73,79,82]⟩,.int .i64 1,.slice (some ⟨g,0,none⟩) 1 1] W fun e w'=>e=.returned (.tuple #[.string ⟨(pPut mD 1 (oS Q)).1.toArray⟩,.int .i64 0])∧Below W.heap.size W w'):=fun W Q g hw hr hq hs=>by
  have h1:=hz hw hr
  have h:=fput_any mD 1 (some ⟨g,0,none⟩) 1 g 0 (oS Q) W (by simp [oS]) (fun _=>rfl) (sec_at1 hs) (fun s q=>by
   simp only [oS,List.mem_cons,List.not_mem_nil,or_false] at q
   subst q
   show Q.size≤_
   omega)
  rw [oS_put (by omega)] at h
  exact h
 have HSz:Hid (∀Q:ByteArray,tyEo X=0→RightIs X r→Q.size≤(oC (X.map Nx.nd)).size→Q.size≤(⟨(pPut mD 1 (oS Q)).1.toArray⟩:ByteArray).size):=fun Q hw hr hq=>by
  have h1:=hz hw hr
  have h2:=(pPut_sizes mD 1 (oS Q) (oS_put (by omega))).2 (1,Q) (by simp [oS])
  show _≤(pPut mD 1 (oS Q)).1.toArray.size
  simpa using h2
 have HFc:Hid (oF (X.map Nx.nd)=⟨(pPut mD 1 (oS (oC (X.map Nx.nd)))).1.toArray⟩):=rfl
 have HI:Hid (∀n z B e,VoIs X r l d n z→((n≠0∧e=n∧B=⟨#[]⟩)∨(n=0∧((¬FowIs X r∧e=16∧B=⟨#[]⟩)∨(FowIs X r∧((l.b<(oF (X.map Nx.nd)).size∧e=19∧B=⟨#[]⟩)∨(¬l.b<(oF (X.map Nx.nd)).size∧e=0∧B=oF (X.map Nx.nd)))))))→SoIs X r l B e):=fun n z B e h1 h2=>⟨d,n,z,hd,h1,h2⟩
 generalize oF (X.map Nx.nd)=F at *
 clear h hX hF hT hlC hz hd
 go_enter Tryd.func6,Tryd.ntmps6
 go_wp2_with fail
 obtain ⟨h1,h2,h3⟩:=HA.out _ _ rfl rfl
 refine Calls.mono (HV.out _ h3) ?_
 rintro e w1 ⟨n,z,rfl,hv,hb1⟩
 have HS1:Hid (AtN 27 w1 w.heap.size #[.slice a X.length c,.int .i64 r]):=h1.belowAll hb1
 have HL1:Hid (AtN 23 w1 (w.heap.size+1) #[.int .i64 l.b,.int .i64 l.n,.int .i64 l.e,.int .i64 l.d,.int .i64 l.x]):=h2.belowAll hb1
 have HB1:Hid (Below w.heap.size w w1):=h3.trans (hb1.mono h3.size)
 have HVa:Hid (VoIs X r l d n z):=hv
 clear HA HV h1 h2 h3 hb1 hv
 by_cases hn:n=0
 ·subst hn
  have HW:Hid (okL l=true∧WhoO X r∧inL (meL X d) l=true):=HVa.out.zero.1 rfl
  have x0:w1.cell? ⟨w.heap.size,0,none⟩=some (.slice a X.length c):=HS1.out.cell 0
  have x1:w1.cell? ⟨w.heap.size,1,none⟩=some (.int .i64 r):=HS1.out.cell 1
  have HIc:Hid _:=HIs.out w1 HB1.out
  clear HIs
  go_wp2_with fail
  refine Calls.mono HIc.out ?_
  rintro e w2 ⟨q,rfl,hq,hb2⟩
  have HS2:Hid (AtN 27 w2 w.heap.size #[.slice a X.length c,.int .i64 r]):=HS1.out.belowAll hb2
  have HL2:Hid (AtN 23 w2 (w.heap.size+1) #[.int .i64 l.b,.int .i64 l.n,.int .i64 l.e,.int .i64 l.d,.int .i64 l.x]):=HL1.out.belowAll hb2
  have HB2:Hid (Below w.heap.size w w2):=HB1.out.trans (hb2.mono HB1.out.size)
  have HQ:Hid (q=true↔FowIs X r):=hq
  clear HIc HS1 HL1 HB1 hb2 hq x0 x1
  cases q with
  | false=>
   have HP:Hid (SoIs X r l ⟨#[]⟩ 16):=HI.out 0 z _ _ HVa.out (.inr ⟨rfl,.inl ⟨fun p=>absurd (HQ.out.2 p) (by simp),rfl,rfl⟩⟩)
   clear HI HVa HW HQ HWr HPt HSz HFc
   go_wp2_with fail
   go_ret2
   exact ⟨_,_,rfl,HP.out,HB2.out⟩
  | true=>
   have HFw:Hid (FowIs X r):=HQ.out.1 rfl
   have x0:w2.cell? ⟨w.heap.size,0,none⟩=some (.slice a X.length c):=HS2.out.cell 0
   have x1:w2.cell? ⟨w.heap.size,1,none⟩=some (.int .i64 r):=HS2.out.cell 1
   have HWc:Hid _:=HWr.out w2 HW.out.2.1.1 HW.out.2.1.2 HB2.out
   have y0:w2.cell? ⟨w.heap.size+1,0,none⟩=some (.int .i64 l.b):=HL2.out.cell 0
   clear HWr
   go_wp2_with fail
   refine Calls.mono HWc.out ?_
   rintro e w3 ⟨Q,rfl,hQ,hb3⟩
   have HL3:Hid (AtN 23 w3 (w.heap.size+1) #[.int .i64 l.b,.int .i64 l.n,.int .i64 l.e,.int .i64 l.d,.int .i64 l.x]):=HL2.out.belowAll hb3
   have HB3:Hid (Below w.heap.size w w3):=HB2.out.trans (hb3.mono HB2.out.size)
   have hQs:Q.size≤(oC (X.map Nx.nd)).size:=by
    rcases hQ with rfl|⟨_,q⟩
    ·exact Nat.le_refl _
    ·exact q
   have hF1:=HSz.out Q HW.out.2.1.1 HW.out.2.1.2 hQs
   have hF2:=HSz.out _ HW.out.2.1.1 HW.out.2.1.2 (Nat.le_refl _)
   have HSc:Hid (∀o:Obj,o=.cells #[.int .i64 1,.string Q] 46→Below w.heap.size w (w3.alloc o)∧AtN 23 (w3.alloc o) (w.heap.size+1) #[.int .i64 l.b,.int .i64 l.n,.int .i64 l.e,.int .i64 l.d,.int .i64 l.x]∧Calls Tryd.prog 15 #[.string ⟨#[68,73,79,82]⟩,.int .i64 1,.slice (some ⟨w3.heap.size,0,none⟩) 1 1] (w3.alloc o) fun e w'=>e=.returned (.tuple #[.string ⟨(pPut mD 1 (oS Q)).1.toArray⟩,.int .i64 0])∧Below (w3.alloc o).heap.size (w3.alloc o) w'):=by
    rintro _ rfl
    exact ⟨HB3.out.alloc HB3.out.size _,HL3.out.alloc _,HPt.out _ _ _ HW.out.2.1.1 HW.out.2.1.2 hQs (AtN.new w3 46 _)⟩
   have HG:Hid ((l.b<((⟨(pPut mD 1 (oS Q)).1.toArray⟩:ByteArray).size:Int)→SoIs X r l ⟨#[]⟩ 19)∧(¬l.b<((⟨(pPut mD 1 (oS Q)).1.toArray⟩:ByteArray).size:Int)→SoIs X r l ⟨(pPut mD 1 (oS Q)).1.toArray⟩ 0)):=by
    rcases hQ with rfl|⟨q,_⟩
    ·rw [← HFc.out]
     exact ⟨fun hlt=>HI.out 0 z _ _ HVa.out (.inr ⟨rfl,.inr ⟨HFw.out,.inl ⟨hlt,rfl,rfl⟩⟩⟩),fun hlt=>HI.out 0 z _ _ HVa.out (.inr ⟨rfl,.inr ⟨HFw.out,.inr ⟨by first|exact hlt|exact Int.not_lt.1 hlt,rfl,rfl⟩⟩⟩)⟩
    ·rw [← HFc.out] at hF2
     exact ⟨fun _=>HI.out 0 z _ _ HVa.out (.inr ⟨rfl,.inr ⟨HFw.out,.inl ⟨by omega,rfl,rfl⟩⟩⟩),fun hlt=>absurd (by omega) hlt⟩
   generalize (⟨(pPut mD 1 (oS Q)).1.toArray⟩:ByteArray)=F1 at *
   clear HWc HS2 HL2 HB2 hb3 x0 x1 y0 HPt HSz HFc HI HVa HW HQ HFw hF1 hF2 hQs hQ HL3 HB3
   go_wp2_with fail
   obtain ⟨hb4,hl4,hc4⟩:=HSc.out _ rfl
   refine Calls.mono hc4 ?_
   rintro e w5 ⟨rfl,hb5⟩
   have HB5:Hid (Below w.heap.size w w5):=hb4.trans (hb5.mono hb4.size)
   have y0:w5.cell? ⟨w.heap.size+1,0,none⟩=some (.int .i64 l.b):=(hl4.belowAll hb5).cell 0
   clear HSc hb4 hl4 hc4 hb5
   by_cases hlt:l.b<(F1.size:Int)
   ·have HP2:Hid (SoIs X r l ⟨#[]⟩ 19):=HG.out.1 hlt
    clear HG
    go_wp2_with fail
    go_ret2
    exact ⟨_,_,rfl,HP2.out,HB5.out⟩
   ·have HP2:Hid (SoIs X r l F1 0):=HG.out.2 (by first|exact hlt|exact Int.not_lt.1 hlt)
    clear HG
    go_wp2_with fail
    go_ret2
    exact ⟨_,_,rfl,HP2.out,HB5.out⟩
 ·have hn':(n != 0)=true:=by simpa using hn
  have HP:Hid (SoIs X r l ⟨#[]⟩ n):=HI.out n z _ _ HVa.out (.inl ⟨hn,rfl,rfl⟩)
  clear HI HVa HWr HIs
  go_wp2_with fail
  go_ret2
  exact ⟨_,_,rfl,HP.out,HB1.out⟩
end Go.Proofs.YtgoffkfpdigeeaaDoor
namespace Go.Proofs.YtgoffkfpdigeeaaDoor
open Go.RowKit
theorem fl_had {e:Int} (d:Int) (h:e≠0):fl e d=e:=if_neg h
theorem pInt_had (b:ByteArray) (k:Nat) {e:Int} (h:e≠0):pInt b k e=(0,k,e):=by unfold pInt;rw [if_pos h]
theorem pUint_had (b:ByteArray) (k:Nat) {e:Int} (m:Int) (h:e≠0):pUint b k e m=(0,k,e):=by unfold pUint;rw [if_pos h]
def InvI (b:ByteArray) (C:List Int) (k0:Nat) (e0:Int) (i:Nat) (l:List Int) (k:Nat) (e:Int):Prop:=
 (e=0→gIs b C k0 e0=(l++(gIs b (C.drop i) k 0).1,(gIs b (C.drop i) k 0).2))∧(e≠0→(gIs b C k0 e0).2=(k,e))
theorem InvI.start (b:ByteArray) (C:List Int) (k:Nat) (e:Int):InvI b C k e 0 [] k e:=
 ⟨fun h=>by subst h;rfl,fun h=>by rw [gIs_stop b C k h]⟩
theorem InvI.next {b:ByteArray} {C:List Int} {k0:Nat} {e0:Int} {i:Nat} {l:List Int} {k:Nat} {e q:Int} {k3:Nat} {e3:Int} (h:InvI b C k0 e0 i l k e) (hi:i<C.length) (hq:pInt b k e=(q,k3,e3)):InvI b C k0 e0 (i+1) (l++[q]) k3 (if in7 (C.getD i 0) q=true then e3 else fl e3 10):=by
 by_cases he:e=0
 ·subst he
  have h1:=h.1 rfl
  rw [gIs_next b C i k hi hq] at h1
  generalize (if in7 (C.getD i 0) q=true then e3 else fl e3 10)=e4 at h1 ⊢
  refine ⟨fun h4=>?_,fun h4=>?_⟩
  ·subst h4;rw [h1,List.append_assoc];rfl
  ·rw [h1,gIs_stop b _ k3 h4]
 ·rw [pInt_had b k he] at hq
  cases hq
  have h2:=h.2 he
  rw [fl_had 10 he,ite_self]
  exact ⟨fun q=>absurd q he,fun _=>h2⟩
theorem InvI.fin {b:ByteArray} {C:List Int} {k0:Nat} {e0:Int} {i:Nat} {l:List Int} {k:Nat} {e:Int} (h:InvI b C k0 e0 i l k e) (hi:C.length≤i):k=(gIs b C k0 e0).2.1∧e=(gIs b C k0 e0).2.2∧((gIs b C k0 e0).2.2=0→l=(gIs b C k0 e0).1):=by
 by_cases he:e=0
 ·subst he
  have h1:=h.1 rfl
  rw [gIs_end b C i k 0 (.inl hi)] at h1
  rw [h1]
  exact ⟨rfl,rfl,fun _=>by simp⟩
 ·have h2:=h.2 he
  rw [h2]
  exact ⟨rfl,rfl,fun q=>absurd q he⟩
def InvT (b:ByteArray) (L:List ByteArray) (n k0:Nat) (e0:Int) (i:Nat) (l:List ByteArray) (k:Nat) (e:Int):Prop:=
 (e=0→gTs b L n k0 e0=(l++(gTs b L (n-i) k 0).1,(gTs b L (n-i) k 0).2))∧(e≠0→(gTs b L n k0 e0).2=(k,e))
theorem InvT.start (b:ByteArray) (L:List ByteArray) (n k:Nat) (e:Int):InvT b L n k e 0 [] k e:=
 ⟨fun h=>by subst h;rfl,fun h=>by rw [gTs_stop b L n k h]⟩
theorem InvT.next {b:ByteArray} {L:List ByteArray} {n k0:Nat} {e0:Int} {i:Nat} {l:List ByteArray} {k:Nat} {e q:Int} {k3:Nat} {e3:Int} (h:InvT b L n k0 e0 i l k e) (hi:i<n) (hq:pUint b k e 16777216=(q,k3,e3)) :
  InvT b L n k0 e0 (i+1) (l++[if (L.length:Int)≤q then noT else L.getD q.toNat noT]) k3 (if (L.length:Int)≤q then fl e3 13 else e3):=by
 by_cases he:e=0
 ·subst he
  have h1:=h.1 rfl
  rw [show n-i=(n-(i+1))+1 by omega,gTs_next b L _ k hq] at h1
  by_cases h3:e3=0
  ·subst h3
   rw [if_neg (by decide)] at h1
   by_cases hx:(L.length:Int)≤q
   ·rw [if_pos hx] at h1
    rw [if_pos hx,if_pos hx]
    exact ⟨fun h4=>absurd h4 (by decide),fun _=>by rw [h1];rfl⟩
   ·rw [if_neg hx] at h1
    rw [if_neg hx,if_neg hx]
    exact ⟨fun _=>by rw [h1,List.append_assoc];rfl,fun q=>absurd rfl q⟩
  ·rw [if_pos h3] at h1
   rw [fl_had 13 h3,ite_self]
   exact ⟨fun q=>absurd q h3,fun _=>by rw [h1]⟩
 ·rw [pUint_had b k _ he] at hq
  cases hq
  have h2:=h.2 he
  rw [fl_had 13 he,ite_self]
  exact ⟨fun q=>absurd q he,fun _=>h2⟩
theorem InvT.fin {b:ByteArray} {L:List ByteArray} {n k0:Nat} {e0:Int} {i:Nat} {l:List ByteArray} {k:Nat} {e:Int} (h:InvT b L n k0 e0 i l k e) (hi:n≤i):k=(gTs b L n k0 e0).2.1∧e=(gTs b L n k0 e0).2.2∧((gTs b L n k0 e0).2.2=0→l=(gTs b L n k0 e0).1):=by
 by_cases he:e=0
 ·subst he
  have h1:=h.1 rfl
  rw [gTs_end b L (n-i) k 0 (.inl (by omega))] at h1
  rw [h1]
  exact ⟨rfl,rfl,fun _=>by simp⟩
 ·have h2:=h.2 he
  rw [h2]
  exact ⟨rfl,rfl,fun q=>absurd q he⟩
def InvK (b:ByteArray) (p:Int) (n k0:Nat) (e0:Int) (i:Nat) (l:List Int) (k:Nat) (e:Int):Prop:=
 (e=0→gKs b p n k0 e0=(l++(gKs b p (n-i) k 0).1,(gKs b p (n-i) k 0).2))∧(e≠0→(gKs b p n k0 e0).2=(k,e))
theorem InvK.start (b:ByteArray) (p:Int) (n k:Nat) (e:Int):InvK b p n k e 0 [] k e:=
 ⟨fun h=>by subst h;rfl,fun h=>by rw [gKs_stop b p n k h]⟩
theorem InvK.next {b:ByteArray} {p:Int} {n k0:Nat} {e0:Int} {i:Nat} {l:List Int} {k:Nat} {e q:Int} {k3:Nat} {e3:Int} (h:InvK b p n k0 e0 i l k e) (hi:i<n) (hq:pUint b k e 16777216=(q,k3,e3)) :
  InvK b p n k0 e0 (i+1) (l++[wrap64 (p-q)]) k3 (if decide (q<1∨p<q)=true then fl e3 13 else e3):=by
 by_cases he:e=0
 ·subst he
  have h1:=h.1 rfl
  rw [show n-i=(n-(i+1))+1 by omega,gKs_next b p _ k hq] at h1
  generalize (if decide (q<1∨p<q)=true then fl e3 13 else e3)=e4 at h1 ⊢
  refine ⟨fun h4=>?_,fun h4=>?_⟩
  ·subst h4;rw [h1,List.append_assoc];rfl
  ·rw [h1,gKs_stop b p _ k3 h4]
 ·rw [pUint_had b k _ he] at hq
  cases hq
  have h2:=h.2 he
  rw [fl_had 13 he,ite_self]
  exact ⟨fun q=>absurd q he,fun _=>h2⟩
theorem InvK.fin {b:ByteArray} {p:Int} {n k0:Nat} {e0:Int} {i:Nat} {l:List Int} {k:Nat} {e:Int} (h:InvK b p n k0 e0 i l k e) (hi:n≤i):k=(gKs b p n k0 e0).2.1∧e=(gKs b p n k0 e0).2.2∧((gKs b p n k0 e0).2.2=0→l=(gKs b p n k0 e0).1):=by
 by_cases he:e=0
 ·subst he
  have h1:=h.1 rfl
  rw [gKs_end b p (n-i) k 0 (.inl (by omega))] at h1
  rw [h1]
  exact ⟨rfl,rfl,fun _=>by simp⟩
 ·have h2:=h.2 he
  rw [h2]
  exact ⟨rfl,rfl,fun q=>absurd q he⟩
theorem InvK.bad {b:ByteArray} {p:Int} {n k0:Nat} {e0:Int} {i:Nat} {l:List Int} {k:Nat} {e:Int} (h:InvK b p n k0 e0 i l k e) (he:e≠0):k=(gKs b p n k0 e0).2.1∧e=(gKs b p n k0 e0).2.2:=by
 have h2:=h.2 he
 rw [h2]
 exact ⟨rfl,rfl⟩
structure Bl (w wr:World) (gc:Nat) (bs:ByteArray) (k:Nat) (e:Int) (T:TypeId) (v:Value) (n:Nat) (xs:List Value):Prop where
 cur:Cu wr gc bs k e
 own:wr.ownsRow w.heap.size T 1 v n xs
 fr:w.grownBy wr (some gc)
 hg:gc<w.heap.size
 kb:k≤bs.size
section
variable {w wr w':World} {gc:Nat} {bs:ByteArray} {k k':Nat} {e e':Int} {T:TypeId} {v v':Value} {n n':Nat} {xs xs':List Value}
theorem Bl.start (h:Cu w gc bs k e) (hk:k≤bs.size):Bl w w gc bs k e T (.slice none 0 0) 0 []:=⟨h,own_nil _ _ _,grown_refl _ _,h.lt,hk⟩
theorem Bl.read (h:Bl w wr gc bs k e T v n xs) (hw:wr.grownBy w' (some gc)) (hc:Cu w' gc bs k' e') (hk:k'≤bs.size):Bl w w' gc bs k' e' T v n xs:=
 ⟨hc,row_kept h.own hw (row_low h.own (fun q hq=>by cases hq;exact h.hg)),gtrans h.fr hw,h.hg,hk⟩
theorem Bl.more (h:Bl w wr gc bs k e T v n xs) (hb:Below wr.heap.size wr w'):Bl w w' gc bs k e T v n xs:=
 ⟨At3.belowAll h.cur hb,own_below h.own hb (Nat.le_refl _),gtrans h.fr (gbelow hb),h.hg,h.kb⟩
theorem Bl.app (h:Bl w wr gc bs k e T v n xs) (hw:wr.grownBy w' v.ownBlock) (ho:w'.ownsRow w.heap.size T 1 v' n' xs'):Bl w w' gc bs k e T v' n' xs':=by
 have hg:=h.hg
 have hlt:∀q,v.ownBlock=some q→w.heap.size≤q:=fun q hq=>(h.own.lt q hq).1
 refine ⟨At3.kept h.cur hw (fun e=>by have:=hlt gc e.symm;omega),ho,?_,hg,h.kb⟩
 have hf:=h.fr
 exact ⟨hw.os.trans hf.os,hw.tape.trans hf.tape,hw.output.trans hf.output,Nat.le_trans hf.size hw.size,fun i hi hn=>(hw.block i (Nat.lt_of_lt_of_le hi hf.size) (fun e=>by have:=hlt i e.symm;omega)).trans (hf.block i hi hn)⟩
end
end Go.Proofs.YtgoffkfpdigeeaaDoor
namespace Go.Proofs.YtgoffkfpdigeeaaDoor
open Go.RowKit Go.Maps Go.WideMaps Go.Sort
theorem pText_had (b:ByteArray) (k:Nat) {e:Int} (m:Int) (h:e≠0):pText b k e m=(⟨#[]⟩,k,e):=by unfold pText;rw [if_pos h]
def InvX (b:ByteArray) (tx:Int) (n k0:Nat) (e0:Int) (i:Nat) (l:List ByteArray) (k:Nat) (e:Int):Prop:=
 (e=0→oTs b tx n k0 e0=(l++(oTs b tx (n-i) k 0).1,(oTs b tx (n-i) k 0).2))∧(e≠0→(oTs b tx n k0 e0).2=(k,e))
theorem InvX.start (b:ByteArray) (tx:Int) (n k:Nat) (e:Int):InvX b tx n k e 0 [] k e:=
 ⟨fun h=>by subst h;rfl,fun h=>by rw [oTs_stop b tx n k h]⟩
theorem InvX.next {b:ByteArray} {tx:Int} {n k0:Nat} {e0:Int} {i:Nat} {l:List ByteArray} {k:Nat} {e:Int} {x:ByteArray} {k3:Nat} {e3:Int} (h:InvX b tx n k0 e0 i l k e) (hi:i<n) (hq:pText b k e tx=(x,k3,e3)) :
  InvX b tx n k0 e0 (i+1) (l++[x]) k3 (if ok8 x=true then e3 else fl e3 11):=by
 by_cases he:e=0
 ·subst he
  have h1:=h.1 rfl
  rw [show n-i=(n-(i+1))+1 by omega,oTs_next b tx _ k hq] at h1
  generalize (if ok8 x=true then e3 else fl e3 11)=e4 at h1 ⊢
  refine ⟨fun h4=>?_,fun h4=>?_⟩
  ·subst h4;rw [h1,List.append_assoc];rfl
  ·rw [h1,oTs_stop b tx _ k3 h4]
 ·rw [pText_had b k _ he] at hq
  cases hq
  have h2:=h.2 he
  rw [fl_had 11 he,ite_self]
  exact ⟨fun q=>absurd q he,fun _=>h2⟩
theorem InvX.fin {b:ByteArray} {tx:Int} {n k0:Nat} {e0:Int} {i:Nat} {l:List ByteArray} {k:Nat} {e:Int} (h:InvX b tx n k0 e0 i l k e) (hi:n≤i):k=(oTs b tx n k0 e0).2.1∧e=(oTs b tx n k0 e0).2.2∧((oTs b tx n k0 e0).2.2=0→l=(oTs b tx n k0 e0).1):=by
 by_cases he:e=0
 ·subst he
  have h1:=h.1 rfl
  rw [oTs_end b tx (n-i) k 0 (.inl (by omega))] at h1
  rw [h1]
  exact ⟨rfl,rfl,fun _=>by simp⟩
 ·have h2:=h.2 he
  rw [h2]
  exact ⟨rfl,rfl,fun q=>absurd q he⟩
def InvY (b:ByteArray) (p c:Int) (n k0:Nat) (e0:Int) (i:Nat) (l:List Int) (k:Nat) (e:Int):Prop:=
 (e=0→oKs b p c n k0 e0=(l++(oKs b p c (n-i) k 0).1,(oKs b p c (n-i) k 0).2))∧(e≠0→(oKs b p c n k0 e0).2=(k,e))
theorem InvY.start (b:ByteArray) (p c:Int) (n k:Nat) (e:Int):InvY b p c n k e 0 [] k e:=
 ⟨fun h=>by subst h;rfl,fun h=>by rw [oKs_stop b p c n k h]⟩
theorem InvY.next {b:ByteArray} {p c:Int} {n k0:Nat} {e0:Int} {i:Nat} {l:List Int} {k:Nat} {e q:Int} {k3:Nat} {e3:Int} (h:InvY b p c n k0 e0 i l k e) (hi:i<n) (hq:pUint b k e 16777216=(q,k3,e3)) :
  InvY b p c n k0 e0 (i+1) (l++[q]) k3 (if decide (q≤p∨c≤q)=true then fl e3 13 else e3):=by
 by_cases he:e=0
 ·subst he
  have h1:=h.1 rfl
  rw [show n-i=(n-(i+1))+1 by omega,oKs_next b p c _ k hq] at h1
  generalize (if decide (q≤p∨c≤q)=true then fl e3 13 else e3)=e4 at h1 ⊢
  refine ⟨fun h4=>?_,fun h4=>?_⟩
  ·subst h4;rw [h1,List.append_assoc];rfl
  ·rw [h1,oKs_stop b p c _ k3 h4]
 ·rw [pUint_had b k _ he] at hq
  cases hq
  have h2:=h.2 he
  rw [fl_had 13 he,ite_self]
  exact ⟨fun q=>absurd q he,fun _=>h2⟩
theorem InvY.fin {b:ByteArray} {p c:Int} {n k0:Nat} {e0:Int} {i:Nat} {l:List Int} {k:Nat} {e:Int} (h:InvY b p c n k0 e0 i l k e) (hi:n≤i):k=(oKs b p c n k0 e0).2.1∧e=(oKs b p c n k0 e0).2.2∧((oKs b p c n k0 e0).2.2=0→l=(oKs b p c n k0 e0).1):=by
 by_cases he:e=0
 ·subst he
  have h1:=h.1 rfl
  rw [oKs_end b p c (n-i) k 0 (.inl (by omega))] at h1
  rw [h1]
  exact ⟨rfl,rfl,fun _=>by simp⟩
 ·have h2:=h.2 he
  rw [h2]
  exact ⟨rfl,rfl,fun q=>absurd q he⟩
theorem InvY.bad {b:ByteArray} {p c:Int} {n k0:Nat} {e0:Int} {i:Nat} {l:List Int} {k:Nat} {e:Int} (h:InvY b p c n k0 e0 i l k e) (he:e≠0):k=(oKs b p c n k0 e0).2.1∧e=(oKs b p c n k0 e0).2.2:=by
 have h2:=h.2 he
 rw [h2]
 exact ⟨rfl,rfl⟩
theorem oKs_ok {b:ByteArray} {p c:Int} {n k:Nat} {e:Int} (h:(oKs b p c n k e).2.2=0):e=0:=by
 by_cases he:e=0
 ·exact he
 ·rw [oKs_stop b p c n k he] at h;exact h
theorem oTs_ok {b:ByteArray} {tx:Int} {n k:Nat} {e:Int} (h:(oTs b tx n k e).2.2=0):e=0:=by
 by_cases he:e=0
 ·exact he
 ·rw [oTs_stop b tx n k he] at h;exact h
theorem pUint_okO {b:ByteArray} {k:Nat} {e m:Int} (h:(pUint b k e m).2.2=0):e=0:=by
 by_cases he:e=0
 ·exact he
 ·rw [pUint_had b k m he] at h;exact h
theorem fl_okO {e d:Int} {P:Prop} [Decidable P] (h:(if P then fl e d else e)=0):e=0:=by
 by_cases he:e=0
 ·exact he
 ·rw [fl_had d he,ite_self] at h;exact h
def RdO (b:ByteArray) (tx:Int) (P:List Nd) (kz:Nat) (ez:Int) (m k:Nat) (ed:Int) (Y:List Nx):Prop:=
 ∀T k' e',oNds b (m:Int) tx (m-Y.length) (Y.length:Nat) ed k=(T,k',e')→(P,kz,ez)=(Y.map Nx.nd++T,k',e')
section
variable {b:ByteArray} {tx:Int} {P:List Nd} {kz:Nat} {ez:Int} {m k k1:Nat} {ed e1:Int} {Y:List Nx} {N:Nd}
theorem RdO.next {y:Nx} (h:RdO b tx P kz ez m k ed Y) (hlt:Y.length<m) (hn:oNd b (Y.length:Nat) (m:Int) tx ed k 0=(y.nd,k1,0)):RdO b tx P kz ez m k1 (ed-y.nd.kids.length) (Y++[y]):=by
 intro T k' e' hq
 rw [List.length_append,List.length_singleton] at hq
 have:=h (y.nd :: T) k' e' (by
  rw [show m-Y.length=(m-(Y.length+1))+1 by omega]
  unfold oNds
  rw [hn,if_neg (by simp)]
  dsimp only
  rw [show ((Y.length:Nat):Int)+1=((Y.length+1:Nat):Int) by omega,hq])
 rw [this]
 simp
theorem RdO.mem (h:RdO b tx P kz ez m k ed Y) (hlt:Y.length<m) (hn:oNd b (Y.length:Nat) (m:Int) tx ed k 0=(N,k1,0)):N ∈ P:=by
 obtain ⟨T,k',e',hq⟩:∃T k' e',oNds b (m:Int) tx (m-(Y.length+1)) ((Y.length+1:Nat):Int) (ed-N.kids.length) k1=(T,k',e'):=⟨_,_,_,rfl⟩
 have:=h (N :: T) k' e' (by
  rw [show m-Y.length=(m-(Y.length+1))+1 by omega]
  unfold oNds
  rw [hn,if_neg (by simp)]
  dsimp only
  rw [show ((Y.length:Nat):Int)+1=((Y.length+1:Nat):Int) by omega,hq])
 simp only [Prod.mk.injEq] at this
 rw [this.1]
 simp
theorem RdO.stop (h:RdO b tx P kz ez m k ed Y) (hlt:Y.length<m) (hn:oNd b (Y.length:Nat) (m:Int) tx ed k 0=(N,k1,e1)) (he:e1≠0):ez=e1:=by
 have:=h [] k1 e1 (by obtain ⟨q,hq⟩:∃q,m-Y.length=q+1:=⟨m-Y.length-1,by omega⟩;rw [hq];unfold oNds;rw [hn,if_pos he])
 simp only [Prod.mk.injEq] at this
 exact this.2.2
theorem RdO.fin (h:RdO b tx P kz ez m k ed Y) (hlt:¬Y.length<m):P=Y.map Nx.nd∧kz=k∧ez=0:=by
 have:=h [] k 0 (by rw [show m-Y.length=0 by omega];rfl)
 simpa using this
end
theorem oNd_eq {b:ByteArray} {p c tx edges:Int} {k:Nat} {q:Int} {k1:Nat} {e1 e2:Int} {A:List Int} {k4:Nat} {e4:Int} {B:List ByteArray} {k5:Nat} {e5 m:Int} {k6:Nat} {e6 e7:Int} {K:List Int} {k8:Nat} {e8:Int} (hq:pUint b k 0 16777216=(q,k1,e1)) (h2:(if (oldSp q).ok=true then e1 else fl e1 9)=e2)
  (hA:gIs b (oldSp q).ints k1 e2=(A,k4,e4)) (hB:oTs b tx (oldSp q).texts.toNat k4 e4=(B,k5,e5)) (hM:pUint b k5 e5 edges=(m,k6,e6)) (h7:(if decide (m<(oldSp q).least∨(0≤(oldSp q).most∧(oldSp q).most<m))=true then fl e6 12 else e6)=e7) (hK:oKs b p c m.toNat k6 e7=(K,k8,e8)) :
  oNd b p c tx edges k 0=(⟨q,A,B,K⟩,k8,e8):=by
 have hR:=oRest_eq hA hB hM h7 hK
 unfold oNd
 rw [hq]
 dsimp only
 rw [h2,hR]
structure Rws (w:World) (B:Nat) (v:Value) (Y:List Nx):Prop where
 row:w.ownsRow B 41 4 v Y.length (nxV Y)
 each:∀j,j<Y.length→OwnNx w B (Y.getD j noNx)
section
variable {w w':World} {B:Nat} {v:Value} {Y:List Nx}
theorem Rws.alien (h:Rws w B v Y):Alien w (fun b=>v.ownBlock=some b):=by
 rintro b hb hlt
 rcases h.row.2 with ⟨q,_⟩|⟨g,cap,cur,q,_,h5,_⟩
 ·rw [q] at hb;cases hb
 ·rw [q] at hb
  simp only [Value.ownBlock,Option.some.injEq] at hb
  subst hb
  exact ⟨_,_,_,h5,by decide,by decide,by decide⟩
theorem Rws.below (h:Rws w B v Y) (hb:Below w.heap.size w w'):Rws w' B v Y:=
 ⟨own_below h.row hb (Nat.le_refl _),fun j hj=>(h.each j hj).fr (Fr.of_below (S:=fun _=>False) hb) (fun _ q=>q.elim)⟩
theorem Rws.curP {gc:Nat} {x y z:Value} (h:Rws w B v Y) (hg:w.grownBy w' (some gc)) (hc:At3 102 w gc x y z):Rws w' B v Y:=by
 have hc':AtN 102 w gc #[x,y,z]:=hc
 have hF:Fr (fun b=>b=gc) w w':=Fr.of_grown hg (fun k e=>by cases e;rfl)
 have hal:Alien w (fun b=>b=gc):=fun b hb _=>⟨_,_,_,hb ▸ hc,by decide,by decide,by decide⟩
 exact ⟨own_fr h.row hF (fun b hb e=>own_ne_at h.row hc' (by decide) b hb e),fun j hj=>(h.each j hj).fr hF hal⟩
theorem Rws.next {W:World} {v':Value} {y:Nx} (h:Rws w B v Y) (hf:Fr (fun b=>v.ownBlock=some b) w W) (h2:W.ownsRow B 41 4 v' (Y.length+1) (nxV Y++nxC y)) (h3:OwnNx W B y):Rws W B v' (Y++[y]):=by
 refine ⟨by rw [nxV_snoc,List.length_append];exact h2,fun j hj=>?_⟩
 by_cases hlt:j<Y.length
 ·rw [show (Y++[y]).getD j noNx=Y.getD j noNx by rw [List.getD_eq_getElem?_getD,List.getElem?_append_left hlt,← List.getD_eq_getElem?_getD]]
  exact (h.each j hlt).fr hf h.alien
 ·obtain rfl:j=Y.length:=by simp at hj;omega
  rw [show (Y++[y]).getD Y.length noNx=y by simp]
  exact h3
theorem Rws.low {a:Option Addr} {c:Nat} {S:Nat→Prop} (h:Rws w B (.slice a Y.length c) Y) (k:Fr S w w') (hs:∀i,S i→i<B):ScAt w' a Y:=
 ⟨LsAt.of_own4' (own_fr h.row k (fun r hr q=>by have:=(h.row.lt r hr).1;have:=hs r q;omega)),fun i hi=>OwnNd.frAt (h.each i hi) k hs⟩
theorem Rws.nil (w:World) (B:Nat):Rws w B (.slice none 0 0) []:=⟨⟨rfl,.inl ⟨rfl,rfl⟩⟩,fun j hj=>by simp at hj⟩
end
end Go.Proofs.YtgoffkfpdigeeaaDoor
namespace Go.Proofs.YtgoffkfpdigeeaaDoor
open Go.RowKit
theorem pText_size (b:ByteArray) (k:Nat) (e m:Int):(pText b k e m).1.size≤b.size:=by
 have hz:(⟨#[]⟩:ByteArray).size≤b.size:=Nat.zero_le _
 unfold pText
 split
 ·exact hz
 split
 ·exact hz
 split
 ·exact hz
 split
 ·exact hz
 ·dsimp only
  rw [ByteArray.size_extract]
  omega
end Go.Proofs.YtgoffkfpdigeeaaDoor
