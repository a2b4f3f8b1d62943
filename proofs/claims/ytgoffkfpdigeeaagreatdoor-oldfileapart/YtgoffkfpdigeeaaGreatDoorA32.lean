import Derived.Test.YtgoffkfpdigeeaaGreatDoorA29
import Derived.Test.YtgoffkfpdigeeaaGreatDoorA31
import Derived.Test.YtgoffkfpdigeeaaGreatDoorA26
import Derived.Test.YtgoffkfpdigeeaaGreatDoorA25
import Derived.Test.YtgoffkfpdigeeaaGreatDoorA20
namespace Go.Proofs.YtgoffkfpdigeeaaGreatDoor
open Go.RowKit Go.Maps Go.WideMaps Go.Sort
set_option maxRecDepth 10000 in
set_option maxHeartbeats 1000000 in
theorem posave_any (X:List Nx) (a:Option Addr) (c:Nat) (r:Int) (l:Lm) (w:World) (h:ScAt w a X) (hX:Small X) (hF:FnX X) (hT:Tabs16 w) (hz:tyEo X=0→RightIs X r→(oC (X.map Nx.nd)).size≤4000000) :
  Calls Tryz.prog 10 #[.agg #[.slice a X.length c,.int .i64 r],.agg (liC l)] w fun e w'=>SoOut X r l w w' e:=by
 have hlC:liC l=#[.int .i64 l.b,.int .i64 l.n,.int .i64 l.e,.int .i64 l.d,.int .i64 l.x]:=rfl
 rw [hlC]
 obtain ⟨d,hd⟩:=depth_there X r
 have HA:Hid (∀(o1 o2:Obj),o1=.cells #[.slice a X.length c,.int .i64 r] 24→o2=.cells #[.int .i64 l.b,.int .i64 l.n,.int .i64 l.e,.int .i64 l.d,.int .i64 l.x] 26→AtN 24 ((w.alloc o1).alloc o2) w.heap.size #[.slice a X.length c,.int .i64 r]∧AtN 26 ((w.alloc o1).alloc o2) (w.heap.size+1) #[.int .i64 l.b,.int .i64 l.n,.int .i64 l.e,.int .i64 l.d,.int .i64 l.x]∧Below w.heap.size w ((w.alloc o1).alloc o2)):=by
  rintro _ _ rfl rfl
  exact ⟨(AtN.new w 24 _).alloc _,mk_at (AtN.new (w.alloc _) 26 _) (show _=w.heap.size+1 by simp),((Below.refl w.heap.size w).alloc (Nat.le_refl _) _).alloc (by simp) _⟩
 have HV:Hid (∀W,Below w.heap.size w W→Calls Tryz.prog 26 #[.agg #[.slice a X.length c,.int .i64 r],.agg #[.int .i64 l.b,.int .i64 l.n,.int .i64 l.e,.int .i64 l.d,.int .i64 l.x]] W fun e w'=>VoOut X r l d W w' e):=fun W hW=>ovalid_any X a c r l d W (h.belowB hW) hX hF (hT.on hW) hd
 have HIs:Hid (∀W,Below w.heap.size w W→Calls Tryz.prog 27 #[.agg #[.slice a X.length c,.int .i64 r]] W fun e w'=>FowOut X r W w' e):=fun W hW=>ois_any X a c r W (h.belowB hW) hX
 have HWr:Hid (∀(W:World),tyEo X=0→RightIs X r→Below w.heap.size w W→Calls Tryz.prog 29 #[.agg #[.slice a X.length c,.int .i64 r],.int .i64 l.b] W fun e w'=>∃Q:ByteArray,e=.returned (.string Q)∧(Q=oC (X.map Nx.nd)∨(l.b<(Q.size:Int)∧Q.size≤(oC (X.map Nx.nd)).size))∧Below W.heap.size W w'):=fun W hw hr hW=>owrite_any X a c r l.b W (h.belowB hW) hX.1 (fun i hi=>smn_of hX hF hw hr i hi)
 have HPt:Hid (∀(W:World) (Q:ByteArray) (g:Nat),tyEo X=0→RightIs X r→Q.size≤(oC (X.map Nx.nd)).size→AtN 55 W g #[.int .i64 1,.string Q]→Calls Tryz.prog 28 #[.string ⟨#[68,73,79,82]⟩,.int .i64 1,.slice (some ⟨g,0,none⟩) 1 1] W fun e w'=>e=.returned (.tuple #[.string ⟨(pPut mD 1 (oS Q)).1.toArray⟩,.int .i64 0])∧Below W.heap.size W w'):=fun W Q g hw hr hq hs=>by
  have h1:=hz hw hr
  have h:=fput_any mD 1 (some ⟨g,0,none⟩) 1 g 0 (oS Q) W (by simp [oS]) (fun _=>rfl) (sec_at1 hs) (fun s q=>by
   simp only [oS,List.mem_cons,List.not_mem_nil,or_false] at q
   subst q
   show Q.size≤_
   omega)
  rw [oS_put (by omega)] at h
  exact h
 have HSz:Hid (∀Q:ByteArray,tyEo X=0→RightIs X r→Q.size≤(oC (X.map Nx.nd)).size→Q.size≤(⟨(pPut mD 1 (oS Q)).1.toArray⟩:ByteArray).size):=fun Q hw hr hq=>by
  have h1:=hz hw hr
  have h2:=(pPut_sizes mD 1 (oS Q) (oS_put (by omega))).2 (1,Q) (by simp [oS])
  show _≤(pPut mD 1 (oS Q)).1.toArray.size
  simpa using h2
 have HFc:Hid (oF (X.map Nx.nd)=⟨(pPut mD 1 (oS (oC (X.map Nx.nd)))).1.toArray⟩):=rfl
 have HI:Hid (∀n z B e,VoIs X r l d n z→((n≠0∧e=n∧B=⟨#[]⟩)∨(n=0∧((¬FowIs X r∧e=16∧B=⟨#[]⟩)∨(FowIs X r∧((l.b<(oF (X.map Nx.nd)).size∧e=19∧B=⟨#[]⟩)∨(¬l.b<(oF (X.map Nx.nd)).size∧e=0∧B=oF (X.map Nx.nd)))))))→SoIs X r l B e):=fun n z B e h1 h2=>⟨d,n,z,hd,h1,h2⟩
 generalize oF (X.map Nx.nd)=F at *
 clear h hX hF hT hlC hz hd
 go_enter Tryz.func10,Tryz.ntmps10
 go_wp2_with fail
 obtain ⟨h1,h2,h3⟩:=HA.out _ _ rfl rfl
 refine Calls.mono (HV.out _ h3) ?_
 rintro e w1 ⟨n,z,rfl,hv,hb1⟩
 have HS1:Hid (AtN 24 w1 w.heap.size #[.slice a X.length c,.int .i64 r]):=h1.belowAll hb1
 have HL1:Hid (AtN 26 w1 (w.heap.size+1) #[.int .i64 l.b,.int .i64 l.n,.int .i64 l.e,.int .i64 l.d,.int .i64 l.x]):=h2.belowAll hb1
 have HB1:Hid (Below w.heap.size w w1):=h3.trans (hb1.mono h3.size)
 have HVa:Hid (VoIs X r l d n z):=hv
 clear HA HV h1 h2 h3 hb1 hv
 by_cases hn:n=0
 ·subst hn
  have HW:Hid (okL l=true∧WhoO X r∧inL (meL X d) l=true):=HVa.out.zero.1 rfl
  have x0:w1.cell? ⟨w.heap.size,0,none⟩=some (.slice a X.length c):=HS1.out.cell 0
  have x1:w1.cell? ⟨w.heap.size,1,none⟩=some (.int .i64 r):=HS1.out.cell 1
  have HIc:Hid _:=HIs.out w1 HB1.out
  clear HIs
  go_wp2_with fail
  refine Calls.mono HIc.out ?_
  rintro e w2 ⟨q,rfl,hq,hb2⟩
  have HS2:Hid (AtN 24 w2 w.heap.size #[.slice a X.length c,.int .i64 r]):=HS1.out.belowAll hb2
  have HL2:Hid (AtN 26 w2 (w.heap.size+1) #[.int .i64 l.b,.int .i64 l.n,.int .i64 l.e,.int .i64 l.d,.int .i64 l.x]):=HL1.out.belowAll hb2
  have HB2:Hid (Below w.heap.size w w2):=HB1.out.trans (hb2.mono HB1.out.size)
  have HQ:Hid (q=true↔FowIs X r):=hq
  clear HIc HS1 HL1 HB1 hb2 hq x0 x1
  cases q with
  | false=>
   have HP:Hid (SoIs X r l ⟨#[]⟩ 16):=HI.out 0 z _ _ HVa.out (.inr ⟨rfl,.inl ⟨fun p=>absurd (HQ.out.2 p) (by simp),rfl,rfl⟩⟩)
   clear HI HVa HW HQ HWr HPt HSz HFc
   go_wp2_with fail
   go_ret2
   exact ⟨_,_,rfl,HP.out,HB2.out⟩
  | true=>
   have HFw:Hid (FowIs X r):=HQ.out.1 rfl
   have x0:w2.cell? ⟨w.heap.size,0,none⟩=some (.slice a X.length c):=HS2.out.cell 0
   have x1:w2.cell? ⟨w.heap.size,1,none⟩=some (.int .i64 r):=HS2.out.cell 1
   have HWc:Hid _:=HWr.out w2 HW.out.2.1.1 HW.out.2.1.2 HB2.out
   have y0:w2.cell? ⟨w.heap.size+1,0,none⟩=some (.int .i64 l.b):=HL2.out.cell 0
   clear HWr
   go_wp2_with fail
   refine Calls.mono HWc.out ?_
   rintro e w3 ⟨Q,rfl,hQ,hb3⟩
   have HL3:Hid (AtN 26 w3 (w.heap.size+1) #[.int .i64 l.b,.int .i64 l.n,.int .i64 l.e,.int .i64 l.d,.int .i64 l.x]):=HL2.out.belowAll hb3
   have HB3:Hid (Below w.heap.size w w3):=HB2.out.trans (hb3.mono HB2.out.size)
   have hQs:Q.size≤(oC (X.map Nx.nd)).size:=by
    rcases hQ with rfl|⟨_,q⟩
    ·exact Nat.le_refl _
    ·exact q
   have hF1:=HSz.out Q HW.out.2.1.1 HW.out.2.1.2 hQs
   have hF2:=HSz.out _ HW.out.2.1.1 HW.out.2.1.2 (Nat.le_refl _)
   have HSc:Hid (∀o:Obj,o=.cells #[.int .i64 1,.string Q] 55→Below w.heap.size w (w3.alloc o)∧AtN 26 (w3.alloc o) (w.heap.size+1) #[.int .i64 l.b,.int .i64 l.n,.int .i64 l.e,.int .i64 l.d,.int .i64 l.x]∧Calls Tryz.prog 28 #[.string ⟨#[68,73,79,82]⟩,.int .i64 1,.slice (some ⟨w3.heap.size,0,none⟩) 1 1] (w3.alloc o) fun e w'=>e=.returned (.tuple #[.string ⟨(pPut mD 1 (oS Q)).1.toArray⟩,.int .i64 0])∧Below (w3.alloc o).heap.size (w3.alloc o) w'):=by
    rintro _ rfl
    exact ⟨HB3.out.alloc HB3.out.size _,HL3.out.alloc _,HPt.out _ _ _ HW.out.2.1.1 HW.out.2.1.2 hQs (AtN.new w3 55 _)⟩
   have HG:Hid ((l.b<((⟨(pPut mD 1 (oS Q)).1.toArray⟩:ByteArray).size:Int)→SoIs X r l ⟨#[]⟩ 19)∧(¬l.b<((⟨(pPut mD 1 (oS Q)).1.toArray⟩:ByteArray).size:Int)→SoIs X r l ⟨(pPut mD 1 (oS Q)).1.toArray⟩ 0)):=by
    rcases hQ with rfl|⟨q,_⟩
    ·rw [← HFc.out]
     exact ⟨fun hlt=>HI.out 0 z _ _ HVa.out (.inr ⟨rfl,.inr ⟨HFw.out,.inl ⟨hlt,rfl,rfl⟩⟩⟩),fun hlt=>HI.out 0 z _ _ HVa.out (.inr ⟨rfl,.inr ⟨HFw.out,.inr ⟨by first|exact hlt|exact Int.not_lt.1 hlt,rfl,rfl⟩⟩⟩)⟩
    ·rw [← HFc.out] at hF2
     exact ⟨fun _=>HI.out 0 z _ _ HVa.out (.inr ⟨rfl,.inr ⟨HFw.out,.inl ⟨by omega,rfl,rfl⟩⟩⟩),fun hlt=>absurd (by omega) hlt⟩
   generalize (⟨(pPut mD 1 (oS Q)).1.toArray⟩:ByteArray)=F1 at *
   clear HWc HS2 HL2 HB2 hb3 x0 x1 y0 HPt HSz HFc HI HVa HW HQ HFw hF1 hF2 hQs hQ HL3 HB3
   go_wp2_with fail
   obtain ⟨hb4,hl4,hc4⟩:=HSc.out _ rfl
   refine Calls.mono hc4 ?_
   rintro e w5 ⟨rfl,hb5⟩
   have HB5:Hid (Below w.heap.size w w5):=hb4.trans (hb5.mono hb4.size)
   have y0:w5.cell? ⟨w.heap.size+1,0,none⟩=some (.int .i64 l.b):=(hl4.belowAll hb5).cell 0
   clear HSc hb4 hl4 hc4 hb5
   by_cases hlt:l.b<(F1.size:Int)
   ·have HP2:Hid (SoIs X r l ⟨#[]⟩ 19):=HG.out.1 hlt
    clear HG
    go_wp2_with fail
    go_ret2
    exact ⟨_,_,rfl,HP2.out,HB5.out⟩
   ·have HP2:Hid (SoIs X r l F1 0):=HG.out.2 (by first|exact hlt|exact Int.not_lt.1 hlt)
    clear HG
    go_wp2_with fail
    go_ret2
    exact ⟨_,_,rfl,HP2.out,HB5.out⟩
 ·have hn':(n != 0)=true:=by simpa using hn
  have HP:Hid (SoIs X r l ⟨#[]⟩ n):=HI.out n z _ _ HVa.out (.inl ⟨hn,rfl,rfl⟩)
  clear HI HVa HWr HIs
  go_wp2_with fail
  go_ret2
  exact ⟨_,_,rfl,HP.out,HB1.out⟩
end Go.Proofs.YtgoffkfpdigeeaaGreatDoor
