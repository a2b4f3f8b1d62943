import Derived.Test.YtcgjgjjegnofeaaGreatDoorPC31
import Derived.Test.YtcgjgjjegnofeaaGreatDoorPC26
import Derived.Test.YtcgjgjjegnofeaaGreatDoorPC20
import Derived.Test.YtcgjgjjegnofeaaGreatDoorPC19
import Derived.Test.YtcgjgjjegnofeaaGreatDoorPC29
import Derived.Test.YtcgjgjjegnofeaaGreatDoorPC28
import Derived.Test.YtcgjgjjegnofeaaGreatDoorPC24
namespace Go.Proofs.YtcgjgjjegnofeaaGreatDoor
theorem body_mem (L:List Sec) (s:Sec) (h:s ∈ L):s.2.size≤(bodyL L).length:=by
 induction L with
 | nil=>simp at h
 | cons t r ih=>
  simp only [bodyL,List.length_append]
  rcases List.mem_cons.1 h with rfl|h
  ·have:=secL_length s;omega
  ·have:=ih h;omega
theorem pPut_sizes (m:ByteArray) (v:Int) (L:List Sec) (h:(pPut m v L).2=0):L.length≤8∧∀s ∈ L,s.2.size≤(pPut m v L).1.length:=by
 obtain ⟨_,_,_,h4,_,h6⟩:=pPut_ok m v L h
 refine ⟨h4,fun s hs=>?_⟩
 have:=body_mem L s hs
 rw [h6]
 simp
 omega
theorem pPut_length (m:ByteArray) (v:Int) (L:List Sec) (M:Nat) (h:∀s ∈ L,s.2.size≤M):(pPut m v L).1.length≤5+8*(M+15):=by
 by_cases he:(pPut m v L).2=0
 ·obtain ⟨h1,_,_,h4,_,h6⟩:=pPut_ok m v L he
  have hb:=bodyL_le M L h
  have hk:L.length*(M+15)≤8*(M+15):=Nat.mul_le_mul_right _ h4
  rw [h6,List.length_append,List.length_cons,list_size]
  omega
 ·rw [pPut_bad m v L he];simp
end Go.Proofs.YtcgjgjjegnofeaaGreatDoor
namespace Go.Proofs.YtcgjgjjegnofeaaGreatDoor
theorem secs_front (P:List Sec) (r:List UInt8):∀f,(∀s ∈ P,okSec s)→P.length≤f→secsL f (bodyL P++r)=cont P (secsL (f-P.length) r):=by
 induction P with
 | nil=>intro f _ _;simp [bodyL,cont_nil]
 | cons s p ih=>
  intro f hok hf
  obtain ⟨g,rfl⟩:∃g,f=g+1:=⟨f-1,by simp at hf;omega⟩
  have h1:=sec1_put s (bodyL p++r) (hok s (by simp))
  have hne:secL s++(bodyL p++r)≠[]:=by simp [secL]
  have e:bodyL (s :: p)++r=secL s++(bodyL p++r):=by simp [bodyL]
  rw [e,secsL_go g _ hne (by rw [h1]),h1]
  dsimp only
  rw [List.drop_left,ih g (fun t ht=>hok t (by simp [ht])) (by simpa using hf),cont_cont]
  simp
theorem four_inj (a b:Nat) (ha:a<4294967296) (hb:b<4294967296) (h:four a=four b):a=b:=by
 rw [← num_of_four a ha,h,num_of_four b hb]
theorem sec1_other (s:Sec) (c:List UInt8) (r:List UInt8) (h:okSec s) (hl:c.length=s.2.size) (hc:crc s.2.data.toList≠crc c) :
  (sec1 (UInt8.ofNat s.1.toNat :: (put s.2.size++(c++four (crc s.2.data.toList)++r)))).1=5:=by
 obtain ⟨h1,h2,h3⟩:=h
 have hb:(UInt8.ofNat s.1.toNat).toNat=s.1.toNat:=toNat_ofNat8 _ (by omega)
 rw [sec1_cons,dec_put s.2.size (by omega)]
 unfold sec0
 rw [hb,if_neg (by omega),if_neg (by simp),if_neg (by dsimp only;omega),if_neg (by simp [four_length];omega)]
 dsimp only
 have t1:((put s.2.size++(c++four (crc s.2.data.toList)++r)).drop (put s.2.size).length).take s.2.size=c:=by
  rw [List.drop_left,List.append_assoc,← hl,List.take_left]
 have t2:((put s.2.size++(c++four (crc s.2.data.toList)++r)).drop ((put s.2.size).length+s.2.size)).take 4=four (crc s.2.data.toList):=by
  rw [← List.drop_drop,List.drop_left,List.append_assoc,← hl,List.drop_left,show 4=(four (crc s.2.data.toList)).length from rfl,List.take_left]
 rw [t1,t2,if_pos (fun e=>hc (four_inj _ _ (crc_lt _) (crc_lt _) e))]
def aheadL (m:List UInt8) (v:Int) (L:List Sec) (i:Nat) (s:Sec):List UInt8:=m++UInt8.ofNat v.toNat :: (bodyL (L.take i)++UInt8.ofNat s.1.toNat :: put s.2.size)
def behindL (L:List Sec) (i:Nat) (s:Sec):List UInt8:=four (crc s.2.data.toList)++bodyL (L.drop (i+1))
theorem file_split (m:ByteArray) (v:Int) (L:List Sec) (i:Nat) (hi:i<L.length) (h:(pPut m v L).2=0) :
  (pPut m v L).1=aheadL m.data.toList v L i L[i]++(L[i].2.data.toList++behindL L i L[i]):=by
 obtain ⟨_,_,_,_,_,h6⟩:=pPut_ok m v L h
 have e:bodyL L=bodyL (L.take i)++(secL L[i]++bodyL (L.drop (i+1))):=by
  conv=>lhs;rw [← List.take_append_drop i L,bodyL_append,List.drop_eq_getElem_cons hi]
  rfl
 rw [h6,e]
 simp [aheadL,behindL,secL]
theorem head_split (m:ByteArray) (v:Int) (L:List Sec) (i:Nat) (hi:i<L.length) (h:(pPut m v L).2=0) :
  pPut m v (L.take (i+1))=(aheadL m.data.toList v L i L[i]++(L[i].2.data.toList++four (crc L[i].2.data.toList)),0):=by
 obtain ⟨h1,h2,h3,h4,h5,_⟩:=pPut_ok m v L h
 rw [pPut_of m v _ h1 h2 h3 (by rw [List.length_take];omega) (fun s hs=>h5 s (List.mem_of_mem_take hs)),bodyL_take L i hi]
 simp [aheadL,secL]
theorem burst_math (m:ByteArray) (v:Int) (L:List Sec) (i:Nat) (hi:i<L.length) (h:(pPut m v L).2=0) (c:List UInt8) (hl:c.length=L[i].2.size) (hc:crc L[i].2.data.toList≠crc c) :
  (pGet m.data.toList (aheadL m.data.toList v L i L[i]++(c++behindL L i L[i]))).1=5:=by
 obtain ⟨h1,h2,h3,h4,h5,_⟩:=pPut_ok m v L h
 have hm:m.data.toList.length=4:=by rw [list_size];exact h1
 have e:aheadL m.data.toList v L i L[i]++(c++behindL L i L[i])=m.data.toList++UInt8.ofNat v.toNat :: (bodyL (L.take i)++(UInt8.ofNat L[i].1.toNat :: (put L[i].2.size++(c++four (crc L[i].2.data.toList)++bodyL (L.drop (i+1)))))):=by
  simp [aheadL,behindL]
 have hs:=sec1_other L[i] c (bodyL (L.drop (i+1))) (h5 _ (List.getElem_mem hi)) hl hc
 rw [e]
 have t1:∀t:List UInt8,(m.data.toList++t).take 4=m.data.toList:=fun t=>by rw [← hm,List.take_left]
 have t2:∀t:List UInt8,(m.data.toList++t).drop 4=t:=fun t=>by rw [← hm,List.drop_left]
 unfold pGet
 rw [t1,t2,if_neg (by simp [hm])]
 dsimp only
 rw [toNat_ofNat8 v.toNat (by omega),if_neg (by omega)]
 have hf:=secs_front (L.take i) (UInt8.ofNat L[i].1.toNat :: (put L[i].2.size++(c++four (crc L[i].2.data.toList)++bodyL (L.drop (i+1))))) 8 (fun s hs=>h5 s (List.mem_of_mem_take hs)) (by rw [List.length_take];omega)
 have hg:8-(L.take i).length=(7-i)+1:=by rw [List.length_take];omega
 have hq:=secsL_bad (7-i) (UInt8.ofNat L[i].1.toNat :: (put L[i].2.size++(c++four (crc L[i].2.data.toList)++bodyL (L.drop (i+1))))) (by simp) (by rw [hs];decide)
 rw [hs] at hq
 rw [hg,hq,cont_bad (by decide)] at hf
 rw [hf,if_pos (by decide)]
end Go.Proofs.YtcgjgjjegnofeaaGreatDoor
namespace Go.Proofs.YtcgjgjjegnofeaaGreatDoor
open Go.RowKit Go.Maps Go.WideMaps Go.Sort
def VaIs (X:List Nx) (r:Int) (l:Lm) (d:Nat) (e z:Int):Prop:=
 (okL l=false∧e=1∧z = -1)∨(okL l=true∧tyE X≠0∧e=tyE X∧z=tyZ X)∨
  (okL l=true∧tyE X=0∧∃n y,CheckIs X r n y∧((n≠0∧e=n∧z=y)∨(n=0∧((inL (meL X d) l=false∧e=19∧z = -1)∨(inL (meL X d) l=true∧e=0∧z=0)))))
def VaOut (X:List Nx) (r:Int) (l:Lm) (d:Nat) (w w':World) (e:Ending):Prop:=∃n z:Int,e=.returned (.tuple #[.int .i64 n,.int .i64 z])∧VaIs X r l d n z∧Below w.heap.size w w'
def vlF (X:List Nx) (a:Option Addr) (c:Nat) (r:Int) (d:Nat) (b n e f x:Int) (q:Bool):Nat→Value→World→Prop
 | 0,v,_=>v=.agg #[.slice a X.length c,.int .i64 r]
 | 1,v,_=>v=.agg #[.int .i64 0,.int .i64 X.length,.int .i64 (edg X:Nat),.int .i64 (d:Nat),.int .i64 (txb X:Nat)]
 | 2,v,_=>v=.agg #[.int .i64 b,.int .i64 n,.int .i64 e,.int .i64 f,.int .i64 x]
 | 3,v,_=>v=.bool q
 | 4,v,_=>v=.bool (!q)
 | _,_,_=>True
theorem vlF_stab (X:List Nx) (a:Option Addr) (c:Nat) (r:Int) (d:Nat) (b n e f x:Int) (q:Bool):∀ix jx v w w',ix≠jx→World.grownBy w w' (if ix=99 then none else none)→vlF X a c r d b n e f x q jx v w→vlF X a c r d b n e f x q jx v w':=by
 intro ix jx v w w' hne hg h
 match jx,h with
 | 0,h|1,h|2,h|3,h|4,h=>exact h
 | n+5,_=>trivial
set_option maxRecDepth 10000 in
set_option maxHeartbeats 1000000 in
theorem valid_any (X:List Nx) (a:Option Addr) (c:Nat) (r:Int) (l:Lm) (d:Nat) (w:World) (h:ScAt w a X) (hX:Small X) (hF:FnX X) (hT:Tabs12 w) (hd:DepthIs X r d) :
  Calls Tryz.prog 19 #[.agg #[.slice a X.length c,.int .i64 r],.agg #[.int .i64 l.b,.int .i64 l.n,.int .i64 l.e,.int .i64 l.d,.int .i64 l.x]] w fun e w'=>VaOut X r l d w w' e:=by
 have HO:Hid (∀W,Calls Tryz.prog 36 #[.agg #[.int .i64 l.b,.int .i64 l.n,.int .i64 l.e,.int .i64 l.d,.int .i64 l.x]] W fun e w'=>e=.returned (.bool (okL l))∧Below W.heap.size W w'):=fun W=>okl_any l W
 have HT:Hid (∀W,Below w.heap.size w W→Calls Tryz.prog 45 #[.agg #[.slice a X.length c,.int .i64 r]] W fun e w'=>e=.returned (.tuple #[.int .i64 (tyE X),.int .i64 (tyZ X)])∧Below W.heap.size W w'):=fun W hW=>typed_any X a c r W (h.belowB hW) hX hF (hT.on hW)
 have HC:Hid (∀W,Below w.heap.size w W→Calls Tryz.prog 46 #[.agg #[.slice a X.length c,.int .i64 r]] W fun e w'=>CheckOut X r W w' e):=fun W hW=>check_any X a c r W (h.belowB hW) hX
 have HM:Hid (∀W,Below w.heap.size w W→Calls Tryz.prog 48 #[.agg #[.slice a X.length c,.int .i64 r]] W fun e w'=>e=.returned (.agg #[.int .i64 0,.int .i64 X.length,.int .i64 (edg X:Nat),.int .i64 (d:Nat),.int .i64 (txb X:Nat)])∧Below W.heap.size W w'):=fun W hW=>measure_any X a c r d W (h.belowB hW) hX hd
 have HI:Hid (∀W,Calls Tryz.prog 47 #[.agg #[.int .i64 0,.int .i64 X.length,.int .i64 (edg X:Nat),.int .i64 (d:Nat),.int .i64 (txb X:Nat)],.agg #[.int .i64 l.b,.int .i64 l.n,.int .i64 l.e,.int .i64 l.d,.int .i64 l.x]] W fun e w'=>e=.returned (.bool (inL (meL X d) l))∧Below W.heap.size W w'):=fun W=>within_any (meL X d) l W
 have HV:Hid (∀e z,((okL l=false∧e=1∧z = -1)∨(okL l=true∧tyE X≠0∧e=tyE X∧z=tyZ X)∨
  (okL l=true∧tyE X=0∧∃n y,CheckIs X r n y∧((n≠0∧e=n∧z=y)∨(n=0∧((inL (meL X d) l=false∧e=19∧z = -1)∨(inL (meL X d) l=true∧e=0∧z=0))))))→VaIs X r l d e z):=fun e z q=>q
 have HA0:Hid (∀o1 o2:Obj,o1=.cells #[.slice a X.length c,.int .i64 r] 24→o2=.cells #[.int .i64 l.b,.int .i64 l.n,.int .i64 l.e,.int .i64 l.d,.int .i64 l.x] 26→AtN 24 ((w.alloc o1).alloc o2) w.heap.size #[.slice a X.length c,.int .i64 r]∧AtN 26 ((w.alloc o1).alloc o2) (w.heap.size+1) #[.int .i64 l.b,.int .i64 l.n,.int .i64 l.e,.int .i64 l.d,.int .i64 l.x]∧Below w.heap.size w ((w.alloc o1).alloc o2)):=by
  rintro _ _ rfl rfl
  exact ⟨(AtN.new w 24 _).alloc _,mk_at (AtN.new (w.alloc _) 26 _) (by simp),((Below.refl w.heap.size w).alloc (Nat.le_refl _) _).alloc (by simp) _⟩
 clear h hX hF hd hT
 unfold VaOut
 generalize VaIs X r l d=VA at *
 generalize okL l=ok at *
 generalize inL (meL X d) l=q at *
 generalize tyE X=te at *
 generalize tyZ X=tz at *
 obtain ⟨b,n,e,f,x⟩:=l
 dsimp only at *
 go_enter Tryz.func19,Tryz.ntmps19
 go_wp2_with fail
 obtain ⟨h1,h2,h3⟩:=HA0.out _ _ rfl rfl
 refine (HO.out _).mono ?_
 rintro e1 w1 ⟨rfl,hb1⟩
 have HA1:Hid (AtN 24 w1 w.heap.size #[.slice a X.length c,.int .i64 r]):=h1.belowAll hb1
 have HL1:Hid (AtN 26 w1 (w.heap.size+1) #[.int .i64 b,.int .i64 n,.int .i64 e,.int .i64 f,.int .i64 x]):=h2.belowAll hb1
 have HB1:Hid (Below w.heap.size w w1):=h3.trans (hb1.mono h3.size)
 clear HO HA0 h1 h2 h3 hb1
 cases ok with
 | false=>
  have hv:=HV.out 1 (-1) (.inl ⟨by first|rfl|trivial,rfl,rfl⟩)
  clear HV HT HC HM HI HA1 HL1
  go_wp2_with fail
  go_ret2
  exact ⟨_,_,rfl,hv,HB1.out⟩
 | true=>
  have x0:w1.cell? ⟨w.heap.size,0,none⟩=some (.slice a X.length c):=HA1.out.cell 0
  have x1:w1.cell? ⟨w.heap.size,1,none⟩=some (.int .i64 r):=HA1.out.cell 1
  have HT1:Hid _:=HT.out w1 HB1.out
  clear HT
  go_wp2_with fail
  refine Calls.mono (Hid.out HT1) ?_
  rintro e2 w2 ⟨rfl,hb2⟩
  have HA2:Hid (AtN 24 w2 w.heap.size #[.slice a X.length c,.int .i64 r]):=AtN.belowAll HA1.out hb2
  have HL2:Hid (AtN 26 w2 (w.heap.size+1) #[.int .i64 b,.int .i64 n,.int .i64 e,.int .i64 f,.int .i64 x]):=AtN.belowAll HL1.out hb2
  have HB2:Hid (Below w.heap.size w w2):=HB1.out.trans (hb2.mono HB1.out.size)
  clear HT1 HA1 HL1 HB1 hb2 x0 x1
  by_cases hte:te=0
  ·subst hte
   have x0:w2.cell? ⟨w.heap.size,0,none⟩=some (.slice a X.length c):=HA2.out.cell 0
   have x1:w2.cell? ⟨w.heap.size,1,none⟩=some (.int .i64 r):=HA2.out.cell 1
   have HC1:Hid (Calls Tryz.prog 46 #[.agg #[.slice a X.length c,.int .i64 r]] w2 fun e w'=>CheckOut X r w2 w' e):=HC.out w2 HB2.out
   clear HC
   go_wp2_with fail
   refine Calls.mono HC1.out ?_
   rintro e3 w3 ⟨k,y,rfl,hc,hb3⟩
   have HA3:Hid (AtN 24 w3 w.heap.size #[.slice a X.length c,.int .i64 r]):=AtN.belowAll HA2.out hb3
   have HL3:Hid (AtN 26 w3 (w.heap.size+1) #[.int .i64 b,.int .i64 n,.int .i64 e,.int .i64 f,.int .i64 x]):=AtN.belowAll HL2.out hb3
   have HB3:Hid (Below w.heap.size w w3):=HB2.out.trans (hb3.mono HB2.out.size)
   have HCI:Hid (CheckIs X r k y):=hc
   clear HC1 HA2 HL2 HB2 hb3 hc x0 x1
   by_cases hk:k=0
   ·subst hk
    have HV1:Hid (∀e z,((q=false∧e=19∧z = -1)∨(q=true∧e=0∧z=0))→VA e z):=fun e z p=>HV.out e z (.inr (.inr ⟨by first|rfl|trivial,by first|rfl|trivial,0,y,HCI.out,.inr ⟨rfl,p⟩⟩))
    clear HV HCI
    go_wp2_with fail
    refine facts_region none 99 (vlF X a c r d b n e f x q) (by kernel_rfl) (by kernel_rfl) (vlF_stab X a c r d b n e f x q) ?step ?fin
    case step=>
     intro i' o' ho act W hg hstill hoff hdep K hK
     have hb:=below_of_grown hg
     have HBW:Hid (Below w.heap.size w W):=HB3.out.trans (hb.mono HB3.out.size)
     have A0:=AtN.belowAll HA3.out hb
     have x0:W.cell? ⟨w.heap.size,0,none⟩=some (.slice a X.length c):=A0.cell 0
     have x1:W.cell? ⟨w.heap.size,1,none⟩=some (.int .i64 r):=A0.cell 1
     have A1:=AtN.belowAll HL3.out hb
     have y0:W.cell? ⟨w.heap.size+1,0,none⟩=some (.int .i64 b):=A1.cell 0
     have y1:W.cell? ⟨w.heap.size+1,1,none⟩=some (.int .i64 n):=A1.cell 1
     have y2:W.cell? ⟨w.heap.size+1,2,none⟩=some (.int .i64 e):=A1.cell 2
     have y3:W.cell? ⟨w.heap.size+1,3,none⟩=some (.int .i64 f):=A1.cell 3
     have y4:W.cell? ⟨w.heap.size+1,4,none⟩=some (.int .i64 x):=A1.cell 4
     have HMW:Hid _:=HM.out W HBW.out
     have HIW:Hid _:=HI.out W
     clear hb A0 A1 HM HI HA3 HL3 HB3 HBW HV1
     rcases i' with _|_|_|_|_|i'
     ·obtain rfl:=Option.some.inj ho
      have t2:act.tmps[2]?.getD undef=.pointer (some ⟨w.heap.size,0,none⟩):=hoff 2 (by kernel_rfl)
      clear hdep hoff hg hstill HMW HIW
      go_simp
      exact hK _ _ (grown_refl _ _) rfl
     ·obtain rfl:=Option.some.inj ho
      have e0:act.tmps[31]?.getD undef=.agg #[.slice a X.length c,.int .i64 r]:=hdep 0 _ (by kernel_rfl) rfl
      clear hdep hoff hg hstill HIW
      go_simp
      refine Calls.mono HMW.out ?_
      rintro e w' ⟨rfl,hb⟩
      exact hK _ _ (grown_of_below hb _) rfl
     ·obtain rfl:=Option.some.inj ho
      have t3:act.tmps[3]?.getD undef=.pointer (some ⟨w.heap.size+1,0,none⟩):=hoff 3 (by kernel_rfl)
      clear hdep hoff hg hstill HMW HIW
      go_simp
      exact hK _ _ (grown_refl _ _) rfl
     ·obtain rfl:=Option.some.inj ho
      have e1:act.tmps[32]?.getD undef=.agg #[.int .i64 0,.int .i64 X.length,.int .i64 (edg X:Nat),.int .i64 (d:Nat),.int .i64 (txb X:Nat)]:=hdep 1 _ (by kernel_rfl) rfl
      have e2:act.tmps[33]?.getD undef=.agg #[.int .i64 b,.int .i64 n,.int .i64 e,.int .i64 f,.int .i64 x]:=hdep 2 _ (by kernel_rfl) rfl
      clear hdep hoff hg hstill HMW
      go_simp
      refine Calls.mono HIW.out ?_
      rintro e w' ⟨rfl,hb⟩
      exact hK _ _ (grown_of_below hb _) rfl
     ·obtain rfl:=Option.some.inj ho
      have e3:act.tmps[34]?.getD undef=.bool q:=hdep 3 _ (by kernel_rfl) rfl
      clear hdep hoff hg hstill HMW HIW
      go_simp
      exact hK _ _ (grown_refl _ _) rfl
     ·exact absurd ho (by simp)
    case fin=>
     intro V W hg hF
     have hb:=below_of_grown hg
     have HB4:Hid (Below w.heap.size w W):=HB3.out.trans (hb.mono HB3.out.size)
     have v35:V (some 35)=.bool (!q):=hF 4 _ rfl
     clear hF hg hb HM HI HA3 HL3 HB3
     simp only [fillA,Act.put,List.setIfInBounds_toArray,List.set_cons_zero,List.set_cons_succ,v35]
     generalize V (some 31)=z31
     generalize V (some 32)=z32
     generalize V (some 33)=z33
     generalize V (some 34)=z34
     clear v35
     cases q with
     | false=>
      have hv:=HV1.out 19 (-1) (.inl ⟨rfl,rfl,rfl⟩)
      clear HV1
      go_wp2_with fail
      go_ret2
      exact ⟨_,_,rfl,hv,HB4.out⟩
     | true=>
      have hv:=HV1.out 0 0 (.inr ⟨rfl,rfl,rfl⟩)
      clear HV1
      go_wp2_with fail
      go_ret2
      exact ⟨_,_,rfl,hv,HB4.out⟩
   ·have hv:=HV.out k y (.inr (.inr ⟨by first|rfl|trivial,by first|rfl|trivial,k,y,HCI.out,.inl ⟨hk,rfl,rfl⟩⟩))
    clear HV HCI HM HI HA3 HL3
    go_wp2_with fail
    go_ret2
    exact ⟨_,_,rfl,hv,HB3.out⟩
  ·have hv:=HV.out te tz (.inr (.inl ⟨by first|rfl|trivial,hte,rfl,rfl⟩))
   clear HV HC HM HI HA2 HL2
   go_wp2_with fail
   go_ret2
   exact ⟨_,_,rfl,hv,HB2.out⟩
end Go.Proofs.YtcgjgjjegnofeaaGreatDoor
namespace Go.Proofs.YtcgjgjjegnofeaaGreatDoor
open Go.RowKit
def mD:ByteArray:=⟨#[68,73,79,82]⟩
def cA (X:List Nx) (r:Int):ByteArray:=⟨(pPut6 (rTab (cX X r) [])).toArray⟩
def cC (X:List Nx) (r:Int):ByteArray:=⟨(put (cX X r).length++rAllN 0 (cX X r) []).toArray⟩
def secs2 (A C:ByteArray):List Sec:=[(1,A),(2,C)]
def cF (X:List Nx) (r:Int):ByteArray:=⟨(pPut mD 2 (secs2 (cA X r) (cC X r))).1.toArray⟩
theorem ba_eq {s t:ByteArray} (h:s.data.toList=t.data.toList):s=t:=by
 cases s;cases t;congr;exact Array.toList_inj.1 h
theorem put_can {X Y:List Nx} {r e:Int} {A C:ByteArray} (hW:Whole X r) (hY:Y.map Nx.nd=cX X r) (hP:PuIs Y ((X.length:Int)-1) A C e):e=0∧A=cA X r∧C=cC X r:=by
 have hR:=can_ren hW.2 hY
 have hC:=can_isCan hW.2 hY
 rcases hP with ⟨h1,_⟩|⟨_,n,y,h2,⟨h3,_⟩|⟨h3,⟨h4,_⟩|⟨h4,h5,h6,h7⟩⟩⟩
 ·exact absurd (hR.ty hW.1) h1
 ·exact absurd (h2.right.2 hC.1) h3
 ·exact absurd hC h4
 ·refine ⟨h5,ba_eq ?_,ba_eq ?_⟩
  ·rw [h6,hY]
   unfold cA
   rw [List.toList_toArray]
  ·rw [h7,hY,← List.length_map Nx.nd,hY]
   unfold cC
   rw [List.toList_toArray]
def SvIs (X:List Nx) (r:Int) (l:Lm) (B:ByteArray) (e:Int):Prop:=
 ∃d n z,DepthIs X r d∧VaIs X r l d n z∧((n≠0∧e=n∧B=⟨#[]⟩)∨(n=0∧((l.b<(cF X r).size∧e=19∧B=⟨#[]⟩)∨(¬l.b<(cF X r).size∧e=0∧B=cF X r))))
theorem va_uniq {X:List Nx} {r:Int} {l:Lm} {d:Nat} {e z e' z':Int} (h:VaIs X r l d e z) (h':VaIs X r l d e' z'):e'=e∧z'=z:=by
 rcases h with ⟨h1,rfl,rfl⟩|⟨h1,h2,rfl,rfl⟩|⟨h1,h2,n,y,hc,h3⟩
 ·rcases h' with ⟨_,rfl,rfl⟩|⟨q,_⟩|⟨q,_⟩
  ·exact ⟨rfl,rfl⟩
  ·rw [h1] at q;cases q
  ·rw [h1] at q;cases q
 ·rcases h' with ⟨q,_⟩|⟨_,_,rfl,rfl⟩|⟨_,q,_⟩
  ·rw [h1] at q;cases q
  ·exact ⟨rfl,rfl⟩
  ·exact absurd q h2
 ·rcases h' with ⟨q,_⟩|⟨_,q,_⟩|⟨_,_,n',y',hc',h3'⟩
  ·rw [h1] at q;cases q
  ·exact absurd h2 q
  ·obtain ⟨rfl,rfl⟩:=hc.uniq hc'
   rcases h3 with ⟨p,rfl,rfl⟩|⟨p,⟨p1,rfl,rfl⟩|⟨p1,rfl,rfl⟩⟩
   ·rcases h3' with ⟨_,rfl,rfl⟩|⟨q,_⟩
    ·exact ⟨rfl,rfl⟩
    ·exact absurd q p
   ·rcases h3' with ⟨q,_⟩|⟨_,⟨_,rfl,rfl⟩|⟨q,_⟩⟩
    ·exact absurd p q
    ·exact ⟨rfl,rfl⟩
    ·rw [p1] at q;cases q
   ·rcases h3' with ⟨q,_⟩|⟨_,⟨q,_⟩|⟨_,rfl,rfl⟩⟩
    ·exact absurd p q
    ·rw [p1] at q;cases q
    ·exact ⟨rfl,rfl⟩
theorem SvIs.uniq {X:List Nx} {r:Int} {l:Lm} {B B':ByteArray} {e e':Int} (h:SvIs X r l B e) (h':SvIs X r l B' e'):B'=B∧e'=e:=by
 obtain ⟨d,n,z,h1,h2,h3⟩:=h
 obtain ⟨d',n',z',g1,g2,g3⟩:=h'
 have hd:=h1.only g1
 subst hd
 obtain ⟨rfl,rfl⟩:=va_uniq h2 g2
 rcases h3 with ⟨a,rfl,rfl⟩|⟨a,⟨b,rfl,rfl⟩|⟨b,rfl,rfl⟩⟩
 ·rcases g3 with ⟨_,rfl,rfl⟩|⟨q,_⟩
  ·exact ⟨rfl,rfl⟩
  ·exact absurd q a
 ·rcases g3 with ⟨q,_⟩|⟨_,⟨_,rfl,rfl⟩|⟨q,_⟩⟩
  ·exact absurd a q
  ·exact ⟨rfl,rfl⟩
  ·exact absurd b q
 ·rcases g3 with ⟨q,_⟩|⟨_,⟨q,_⟩|⟨_,rfl,rfl⟩⟩
  ·exact absurd a q
  ·exact absurd q b
  ·exact ⟨rfl,rfl⟩
def ldK (b:ByteArray) (l:Lm):Int × ByteArray × ByteArray:=
 if okL l=false then (1,⟨#[]⟩,⟨#[]⟩) else if l.b<b.size then (19,⟨#[]⟩,⟨#[]⟩) else
 if (pGet mD.data.toList b.data.toList).1≠0 then ((pGet mD.data.toList b.data.toList).1,⟨#[]⟩,⟨#[]⟩) else
 if (pGet mD.data.toList b.data.toList).2.1≠2 then (7,⟨#[]⟩,⟨#[]⟩) else
 match (pGet mD.data.toList b.data.toList).2.2 with
 | [s,t]=>if s.1=1∧t.1=2 then (0,s.2,t.2) else (4,⟨#[]⟩,⟨#[]⟩)
 | _=>(4,⟨#[]⟩,⟨#[]⟩)
def LdIs (b:ByteArray) (l:Lm) (P:List Nd) (r e:Int):Prop:=
 ((ldK b l).1≠0∧e=(ldK b l).1∧P=[]∧r=0)∨((ldK b l).1=0∧GeIs (ldK b l).2.1 (ldK b l).2.2 l P r e)
theorem LdIs.uniq {b:ByteArray} {l:Lm} {P P':List Nd} {r r' e e':Int} (h:LdIs b l P r e) (h':LdIs b l P' r' e'):P'=P∧r'=r∧e'=e:=by
 rcases h with ⟨a,rfl,rfl,rfl⟩|⟨a,h⟩
 ·rcases h' with ⟨_,rfl,rfl,rfl⟩|⟨q,_⟩
  ·exact ⟨rfl,rfl,rfl⟩
  ·exact absurd q a
 ·rcases h' with ⟨q,_⟩|⟨_,h'⟩
  ·exact absurd a q
  ·exact h.uniq h'
section
variable (b:ByteArray) (l:Lm)
theorem ldK_1 (h:okL l=false):(ldK b l).1=1:=by unfold ldK;rw [if_pos h]
variable (h1:okL l=true)
theorem ldK_2 (h1:okL l=true) (h:l.b<(b.size:Int)):(ldK b l).1=19:=by unfold ldK;rw [if_neg (by simp [h1]),if_pos h]
theorem ldK_3 (h1:okL l=true) (h2:¬l.b<(b.size:Int)) (h:(pGet mD.data.toList b.data.toList).1≠0):(ldK b l).1=(pGet mD.data.toList b.data.toList).1:=by unfold ldK;rw [if_neg (by simp [h1]),if_neg h2,if_pos h]
theorem ldK_4 (h1:okL l=true) (h2:¬l.b<(b.size:Int)) (h3:(pGet mD.data.toList b.data.toList).1=0) (h:(pGet mD.data.toList b.data.toList).2.1≠2):(ldK b l).1=7:=by unfold ldK;rw [if_neg (by simp [h1]),if_neg h2,if_neg (by simp [h3]),if_pos h]
theorem ldK_5 (h1:okL l=true) (h2:¬l.b<(b.size:Int)) (h3:(pGet mD.data.toList b.data.toList).1=0) (h4:(pGet mD.data.toList b.data.toList).2.1=2) (h:¬∃s t,(pGet mD.data.toList b.data.toList).2.2=[s,t]∧s.1=1∧t.1=2):(ldK b l).1=4:=by
 unfold ldK
 rw [if_neg (by simp [h1]),if_neg h2,if_neg (by simp [h3]),if_neg (by simp [h4])]
 split
 ·rename_i s t hs
  rw [if_neg (fun q=>h ⟨s,t,hs,q⟩)]
 ·rfl
theorem ldK_6 (h1:okL l=true) (h2:¬l.b<(b.size:Int)) (h3:(pGet mD.data.toList b.data.toList).1=0) (h4:(pGet mD.data.toList b.data.toList).2.1=2) {A C:ByteArray} (h:(pGet mD.data.toList b.data.toList).2.2=[(1,A),(2,C)]):ldK b l=(0,A,C):=by
 unfold ldK
 rw [if_neg (by simp [h1]),if_neg h2,if_neg (by simp [h3]),if_neg (by simp [h4]),h]
 exact if_pos ⟨rfl,rfl⟩
end
theorem ldK_inv {b:ByteArray} {l:Lm} (h:(ldK b l).1=0):okL l=true∧¬l.b<(b.size:Int)∧pGet mD.data.toList b.data.toList=(0,2,secs2 (ldK b l).2.1 (ldK b l).2.2):=by
 cases h0:okL l with
 | false=>unfold ldK at h;rw [if_pos h0] at h;cases h
 | true=>
 obtain ⟨E,V,S,hG⟩:∃E V S,pGet mD.data.toList b.data.toList=(E,V,S):=⟨_,_,_,rfl⟩
 unfold ldK at h ⊢
 rw [if_neg (by simp [h0]),hG] at h ⊢
 dsimp only at h ⊢
 split at h
 ·cases h
 rename_i h1
 rw [if_neg h1]
 split at h
 ·rename_i q;exact absurd (by simpa using h) q
 rename_i h2
 rw [if_neg h2]
 split at h
 ·cases h
 rename_i h3
 rw [if_neg h3]
 simp only [ne_eq,Decidable.not_not] at h2 h3
 match S,h with
 | [s,t],h=>
  dsimp only at h ⊢
  split at h
  ·rename_i h4
   rw [if_pos h4]
   obtain ⟨s1,s2⟩:=s
   obtain ⟨t1,t2⟩:=t
   obtain ⟨rfl,rfl⟩:=h4
   exact ⟨rfl,h1,by rw [h2,h3];rfl⟩
  ·cases h
 | [],h=>cases h
 | [_],h=>cases h
 | _ :: _ :: _ :: _,h=>cases h
theorem file_of {b:ByteArray} {l:Lm} (h:(ldK b l).1=0):b.data.toList=(pPut mD 2 (secs2 (ldK b l).2.1 (ldK b l).2.2)).1∧(ldK b l).2.1.size≤b.size∧(ldK b l).2.2.size≤b.size:=by
 obtain ⟨_,_,h3⟩:=ldK_inv h
 have h4:=one_math mD b.data.toList (by rw [h3])
 rw [h3] at h4
 dsimp only at h4
 have h5:pPut mD 2 (secs2 (ldK b l).2.1 (ldK b l).2.2)=(b.data.toList,0):=h4
 have h6:=(pPut_sizes mD 2 (secs2 (ldK b l).2.1 (ldK b l).2.2) (by rw [h5])).2
 rw [h5] at h6
 dsimp only at h6
 rw [list_size] at h6
 exact ⟨by rw [h5],h6 (1,_) (by simp [secs2]),h6 (2,_) (by simp [secs2])⟩
theorem secs2_put {A C:ByteArray} (hA:A.size≤16777216) (hC:C.size≤16777216):(pPut mD 2 (secs2 A C)).2=0:=by
 rw [pPut_of mD 2 (secs2 A C) rfl (by decide) (by decide) (by simp [secs2]) (fun s hs=>by
  simp only [secs2,List.mem_cons,List.not_mem_nil,or_false] at hs
  rcases hs with rfl|rfl
  ·exact ⟨by show (1:Int)≤1;decide,by show (1:Int)≤255;decide,hA⟩
  ·exact ⟨by show (1:Int)≤2;decide,by show (2:Int)≤255;decide,hC⟩)]
theorem ldK_put {A C:ByteArray} {l:Lm} (ho:okL l=true) (hA:A.size≤16777216) (hC:C.size≤16777216) (hb:¬l.b<((⟨(pPut mD 2 (secs2 A C)).1.toArray⟩:ByteArray).size:Int)):ldK ⟨(pPut mD 2 (secs2 A C)).1.toArray⟩ l=(0,A,C):=by
 have h1:=back_math mD 2 (secs2 A C) (secs2_put hA hC)
 have h2:(⟨(pPut mD 2 (secs2 A C)).1.toArray⟩:ByteArray).data.toList=(pPut mD 2 (secs2 A C)).1:=List.toList_toArray
 refine ldK_6 _ _ ho hb (by rw [h2,h1]) (by rw [h2,h1];rfl) (by rw [h2,h1];rfl)
theorem pu_can {X Y:List Nx} {r:Int} (hW:Whole X r) (hY:Y.map Nx.nd=cX X r):PuIs Y ((X.length:Int)-1) (cA X r) (cC X r) 0:=by
 have hR:=can_ren hW.2 hY
 have hC:=can_isCan hW.2 hY
 refine .inr ⟨hR.ty hW.1,0,0,check_right hC.1,.inr ⟨rfl,.inr ⟨hC,rfl,?_,?_⟩⟩⟩
 ·unfold cA
  rw [List.toList_toArray,hY]
 ·unfold cC
  rw [List.toList_toArray,hY,← hY,List.length_map]
theorem va_good {X:List Nx} {r:Int} {l:Lm} {d:Nat} (ho:okL l=true) (hW:Whole X r) (hi:inL (meL X d) l=true):VaIs X r l d 0 0:=
 .inr (.inr ⟨ho,hW.1,0,0,check_right hW.2,.inr ⟨rfl,.inr ⟨hi,rfl,rfl⟩⟩⟩)
theorem back_file {X Y:List Nx} {r:Int} {l:Lm} {d:Nat} (hS:Small X) (hf:X.length≤60) (hF:FnX X) (hW:Whole X r) (hY:Y.map Nx.nd=cX X r) (hd:DepthIs X r d) (ho:okL l=true) (hi:inL (meL X d) l=true) (hb:¬l.b<((cF X r).size:Int)) :
  LdIs (cF X r) l (Y.map Nx.nd) ((X.length:Int)-1) 0∧Bk Y ((X.length:Int)-1) (cA X r) (cC X r):=by
 have hB:=(bk_of hS hf hF hW hY (pu_can hW hY)).2
 have hz:=hB.size
 have hR:=can_ren hW.2 hY
 have hk:ldK (cF X r) l=(0,cA X r,cC X r):=ldK_put ho (by omega) (by omega) hb
 have hi2:=of_decide_eq_true (show decide (inP (meL X d) l)=true from hi)
 obtain ⟨_,i1,i2,i3,i4⟩:=hi2
 have j1:(X.length:Int)≤l.n:=i1
 have j2:((edg X:Nat):Int)≤l.e:=i2
 have j3:((d:Nat):Int)≤l.d:=i3
 have j4:((txb X:Nat):Int)≤l.x:=i4
 refine ⟨.inr ⟨by rw [hk],?_⟩,hB⟩
 rw [hk]
 refine hB.got ho ?_ (by rw [hR.len];exact j1) (by rw [hR.edg];exact j2) (can_depth hW.2 hY hd) j3
 have h5:txb Y=txb X:=hR.txb
 have h6:sum6 (itn (allT Y))=txb Y:=rfl
 rw [h6,h5]
 exact j4
end Go.Proofs.YtcgjgjjegnofeaaGreatDoor
namespace Go.Proofs.YtcgjgjjegnofeaaGreatDoor
open Go.RowKit
def aT:ByteArray:=⟨#[97]⟩
def aN:Nd:=⟨4,[1],[aT],[]⟩
def aA:ByteArray:=⟨#[1,1,97]⟩
def aC:ByteArray:=⟨#[1,4,2,0,0]⟩
def aX (g:Nat):List Nx:=[⟨aN,some ⟨g,0,none⟩,1,some ⟨g+1,0,none⟩,1,none,0⟩]
theorem aX_ed (g x y:Nat):¬Ed (kX (aX g)) x y:=by
 have hk:kX (aX g)=[[]]:=rfl
 unfold Ed
 rw [hk]
 match x with
 | 0=>simp
 | n+1=>simp
theorem aX_right (g:Nat):RightIs (aX g) 0:=by
 refine ⟨rfl,fun i hi j hj=>?_,fun x=>?_,fun x hx=>?_⟩
 ·match i,hi with
  | 0,_=>exact absurd hj (by simp [aX,aN])
 ·rintro ⟨c,e,_⟩
  exact aX_ed g _ _ e
 ·match x,hx with
  | 0,_=>exact Rt.refl _ _
theorem aX_ord (g:Nat):oX (aX g) 0=[0]:=by
 show ordO [[]] 0=_
 decide
theorem aX_can (g:Nat):IsCan (aX g) 0:=by
 refine ⟨aX_right g,fun i hi=>?_⟩
 rw [aX_ord]
 match i,hi with
 | 0,_=>rfl
theorem aX_small (g:Nat):Small (aX g):=by
 refine ⟨by simp [aX],fun i hi=>?_⟩
 match i,hi with
 | 0,_=>show big aN=false;decide +kernel
theorem aX_fn (g:Nat):FnX (aX g):=fun i hi j hj=>by
 match i,hi with
 | 0,_=>
  match j,hj with
  | 0,_=>exact ⟨by show (-9223372036854775808:Int)≤1;decide,by show (1:Int)≤9223372036854775807;decide⟩
theorem aX_ty (g:Nat):tyE (aX g)=0:=by
 have h:tyN aN=0:=by decide +kernel
 show (tyG [⟨aN,_,_,_,_,_,_⟩] 0).1=0
 unfold tyG
 rw [if_pos h]
 rfl
theorem aX_bk (g:Nat):Bk (aX g) 0 aA aC:=by
 have h1:aA.data.toList=pPut6 (itn [aT]):=by decide +kernel
 have h2:aC.data.toList=put 1++rAllN 0 [aN] []:=by decide +kernel
 exact ⟨aX_small g,by simp [aX],aX_fn g,aX_ty g,aX_can g,by simp [aX],h1,h2⟩
theorem aX_sum (g:Nat):sum6 (itn (allT (aX g)))=1:=by
 show sum6 (itn [aT])=1
 decide +kernel
structure Aw (w W:World):Prop where
 i:AtN 2 W w.heap.size #[.int .i64 1]
 t:AtN 9 W (w.heap.size+1) #[.string aT]
 n:AtN 62 W (w.heap.size+1+1) #[.int .i64 4,.slice (some ⟨w.heap.size,0,none⟩) 1 1,.slice (some ⟨w.heap.size+1,0,none⟩) 1 1,.slice none 0 0]
 s:AtN 24 W (w.heap.size+1+1+1) #[.slice (some ⟨w.heap.size+1+1,0,none⟩) 1 1,.int .i64 0]
 bel:Below w.heap.size w W
section
variable {w W W':World}
theorem Aw.more (h:Aw w W) (hb:Below W.heap.size W W'):Aw w W':=⟨h.i.belowAll hb,h.t.belowAll hb,h.n.belowAll hb,h.s.belowAll hb,h.bel.trans (hb.mono h.bel.size)⟩
theorem Aw.sc (h:Aw w W):ScAt W (some ⟨w.heap.size+1+1,0,none⟩) (aX w.heap.size):=⟨at_ls (cs:=nxV (aX w.heap.size)) h.n,fun j hj=>by
 match j,hj with
 | 0,_=>exact ⟨at_ls (cs:=iV [1]) h.i,at_ls (cs:=tV [aT]) h.t,LsAt.nil _ _⟩⟩
end
end Go.Proofs.YtcgjgjjegnofeaaGreatDoor
