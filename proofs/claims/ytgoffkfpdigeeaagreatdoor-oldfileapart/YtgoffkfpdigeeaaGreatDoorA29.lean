import Derived.Deep.RegionHeld3
import Derived.Test.YtgoffkfpdigeeaaGreatDoorA28
import Derived.Test.YtgoffkfpdigeeaaGreatDoorA27
import Derived.Test.YtgoffkfpdigeeaaGreatDoorA08
import Derived.Lib.Strings
import Derived.Test.YtgoffkfpdigeeaaGreatDoorA09
namespace Go.Proofs.YtgoffkfpdigeeaaGreatDoor
open Go.RowKit Go.Maps Go.WideMaps Go.Sort
theorem Bu.lowerO {B C g:Nat} {l:List UInt8} {w:World} (h:Bu B g l w) (hc:C≤B):Bu C g l w:=by
 have own:∀{v:Value} {n:Nat} {xs:List Value},w.ownsRow B 5 1 v n xs→w.ownsRow C 5 1 v n xs:=fun q=>own_mono q hc
 rcases h with ⟨q1,q2,q3,q4,q5⟩|⟨q1,q2,q3,q4,q5⟩
 ·exact .inl ⟨Nat.le_trans hc q1,q2,q3,own q4,q5⟩
 ·exact .inr ⟨Nat.le_trans hc q1,q2,q3,own q4,q5⟩
theorem kept_below {g:Nat} {w w':World} (h:Below w.heap.size w w'):Kept g w w':=fun k o hk _ _=>by
 have hlt:k<w.heap.size:=(Array.getElem?_eq_some_iff.1 hk).1
 rw [h.block k hlt]
 exact hk
theorem AtN.keptB {T:TypeId} {g k:Nat} {cs:Array Value} {w w':World} (h:AtN T w k cs) (hk:Kept g w w') (hg:k≠g) (hT:T≠5):AtN T w' k cs:=hk.two h hg hT
set_option maxRecDepth 10000 in
set_option maxHeartbeats 400000 in
theorem blen_any (B g:Nat) (l:List UInt8) (w:World) (h:Bu B g l w) :
  Calls Tryz.prog 68 #[.pointer (some ⟨g,0,none⟩)] w fun e w'=>e=.returned (.int .i64 l.length)∧w'=w:=by
 obtain ⟨p,hB,v,hbk,hown,hne⟩:∃p,Lib.BuilderAt 95 5 B g p (bV l) w:=by
  rcases h with h|h
  ·exact ⟨_,h⟩
  ·exact ⟨_,h⟩
 rw [bV_length] at hown
 obtain ⟨ao,cap,rfl⟩:=own_form hown
 have c1:w.cell? ⟨g,1,none⟩=some (.slice ao l.length cap):=by rw [Lib.cell_of_heap hbk];rfl
 clear hown hbk hne
 go_enter Tryz.func68,Tryz.ntmps68
 go_wp2_with fail
 go_ret
 exact ⟨rfl,rfl⟩
set_option maxRecDepth 10000 in
set_option maxHeartbeats 1000000 in
theorem put1o_any (B g gp:Nat) (l:List UInt8) (u:Int) (w:World) (h:Bu B g l w) (hp:AtN 93 w gp #[.pointer (some ⟨g,0,none⟩)]) (hg:gp≠g) (h0:0≤u) (h1:u≤18446744073709551615) (hl:l.length≤200000000) (hB:B≤w.heap.size) :
  Calls Tryz.prog 112 #[.int .u64 u,.pointer (some ⟨gp,0,none⟩)] w fun e w'=>e=.returned (.tuple #[])∧Bu B g (l++put u.toNat) w'∧Below B w w'∧Kept g w w':=by
 have HP:Hid (∀W,Calls Tryz.prog 64 #[.int .u64 u] W fun e w'=>e=.returned (.string ⟨(put u.toNat).toArray⟩)∧Below W.heap.size W w'):=fun W=>put_any u W h0 h1
 obtain ⟨X,hX⟩:∃X:ByteArray,X=⟨(put u.toNat).toArray⟩:=⟨_,rfl⟩
 have dX:X.data.toList=put u.toNat:=by rw [hX]
 have zX:X.size≤10:=by
  have h1:X.size=X.data.toList.length:=by rw [Array.length_toList];rfl
  rw [h1,dX]
  exact (put_length _).2
 have HX:Hid _:=dX
 rw [← hX] at HP
 have HU:Hid (Bu B g l w.drew):=h.below (Below.refl w.heap.size w).drew
 have HB:Hid (B≤w.drew.heap.size):=hB
 have HA:Hid (AtN 93 w.drew gp #[.pointer (some ⟨g,0,none⟩)]):=hp
 have HW:Hid (∀(W:World),Bu B g l W→B≤W.heap.size→Calls Tryz.prog 62 #[.pointer (some ⟨g,0,none⟩),.string X] W fun e w'=>e=.returned (.tuple #[.int .i64 X.size,.nilIface])∧Bu B g (l++X.data.toList) w'∧Below B W w'∧Kept g W w'):=fun W q1 q2=>wstr_any B g l X W q1 (by omega) q2
 have HD:Hid (Below B w w.drew∧Kept g w w.drew):=⟨(Below.refl B w).drew,kept_below (Below.refl w.heap.size w).drew⟩
 have a0:w.cell? ⟨gp,0,none⟩=some (.pointer (some ⟨g,0,none⟩)):=hp.cell 0
 have a1:w.drew.cell? ⟨gp,0,none⟩=some (.pointer (some ⟨g,0,none⟩)):=hp.cell 0
 clear hX dX h hp hB
 go_enter Tryz.func112,Tryz.ntmps112
 go_wp2_with fail
 go_region_held3 (fun W=>W.cell? ⟨gp,0,none⟩=some (.pointer (some ⟨g,0,none⟩))) (first|with_reducible exact d2|with_reducible exact d1|with_reducible exact a1|with_reducible exact a0|go_keep)
  ((first
   | (go_at_call 62;refine Calls.mono (HW.out _ HU1.out HB1.out) ?_;rintro e w2 ⟨rfl,hu,hb2,hk2⟩;have d2:w2.cell? ⟨gp,0,none⟩=some (.pointer (some ⟨g,0,none⟩)):=(HA1.out.keptB hk2 hg (by decide)).cell 0)
   | (go_at_call 64;refine Calls.mono (HP.out _) ?_;rintro e w1 ⟨rfl,hb1⟩;have HU1:Hid (Bu B g l w1):=HU.out.below hb1;have HB1:Hid (B≤w1.heap.size):=Nat.le_trans HB.out hb1.size;have HA1:Hid (AtN 93 w1 gp #[.pointer (some ⟨g,0,none⟩)]):=HA.out.belowAll hb1;have HD1:Hid (Below B w w1∧Kept g w w1):=⟨HD.out.1.trans (hb1.mono HB.out),HD.out.2.trans (kept_below hb1)⟩;have d1:w1.cell? ⟨gp,0,none⟩=some (.pointer (some ⟨g,0,none⟩)):=HA1.out.cell 0)))
 have HR:Hid (Bu B g (l++put u.toNat) w2∧Below B w w2∧Kept g w w2):=⟨by rw [← HX.out];exact hu,HD1.out.1.trans hb2,HD1.out.2.trans hk2⟩
 clear hu hb2 hk2 HD HD1 HU HU1 HA HA1
 go_wp2_with fail
 go_end0
 exact ⟨rfl,HR.out⟩
structure Pn (w wr:World) (B gb:Nat) (cN:Array Value) (l:List UInt8):Prop where
 p:AtN 93 wr w.heap.size #[.pointer (some ⟨gb,0,none⟩)]
 nd:AtN 51 wr (w.heap.size+1) cN
 bu:Bu B gb l wr
 bel:Below B w wr
 kept:Kept gb w wr
 hB:B≤w.heap.size
 hb:gb<w.heap.size
section
variable {w wr w':World} {B gb:Nat} {cN:Array Value} {l l':List UInt8}
theorem Pn.wrote (h:Pn w wr B gb cN l) (hb:Below B wr w') (hk:Kept gb wr w') (hu:Bu B gb l' w'):Pn w w' B gb cN l':=by
 have h1:=h.hb
 exact ⟨h.p.keptB hk (by omega) (by decide),h.nd.keptB hk (by omega) (by decide),hu,h.bel.trans hb,h.kept.trans hk,h.hB,h1⟩
theorem Pn.size (h:Pn w wr B gb cN l):B≤wr.heap.size:=Nat.le_trans h.hB h.bel.size
end
set_option maxRecDepth 10000 in
set_option maxHeartbeats 2000000 in
theorem onode_any (N:Nd) (a1 a2 a3:Option Addr) (c1 c2 c3:Nat) (B gb:Nat) (l:List UInt8) (w:World) (h:Bu B gb l w) (hB:B≤w.heap.size) (hN:∀W,Below B w W→NdAt W N a1 a2 a3) (hS:SmN N) (hl:l.length≤100000000) :
  Calls Tryz.prog 69 #[.pointer (some ⟨gb,0,none⟩),.agg #[.int .i64 N.kind,.slice a1 N.ints.length c1,.slice a2 N.texts.length c2,.slice a3 N.kids.length c3]] w fun e w'=>e=.returned (.tuple #[])∧Bu B gb (l++oB N) w'∧Below B w w'∧Kept gb w w':=by
 have HN:Hid (∀W,Below B w W→NdAt W N a1 a2 a3):=hN
 have HS:Hid (SmN N):=hS
 have hk0:=hS.k0
 have hk1:=hS.k1
 have hi4:=hS.i
 have ht2:=hS.t
 have hk3:=hS.k
 have hgb:=h.lt
 have HA:Hid (∀o1 o2:Obj,o1=.cells #[.pointer (some ⟨gb,0,none⟩)] 93→o2=.cells #[.int .i64 N.kind,.slice a1 N.ints.length c1,.slice a2 N.texts.length c2,.slice a3 N.kids.length c3] 51→Pn w ((w.alloc o1).alloc o2) B gb #[.int .i64 N.kind,.slice a1 N.ints.length c1,.slice a2 N.texts.length c2,.slice a3 N.kids.length c3] l):=by
  rintro _ _ rfl rfl
  have hb:Below w.heap.size w ((w.alloc (.cells #[.pointer (some ⟨gb,0,none⟩)] 93)).alloc (.cells #[.int .i64 N.kind,.slice a1 N.ints.length c1,.slice a2 N.texts.length c2,.slice a3 N.kids.length c3] 51)):=((Below.refl w.heap.size w).alloc (Nat.le_refl _) _).alloc (by simp) _
  exact ⟨(AtN.new w 93 _).alloc _,mk_at (AtN.new (w.alloc _) 51 _) (show _=w.heap.size+1 by simp),h.below hb,hb.mono hB,kept_below hb,hB,hgb⟩
 have HOB:Hid (oB N=put N.kind.toNat++rI N.ints++oT N.texts++put N.kids.length++oK N.kids):=rfl
 generalize oB N=OB at *
 clear h hN hS
 have hmf:∀(fn:Fn) (first cap:Array Value) (w:World),(Instr.makeFunc fn first cap).run Tryz.prog w=.ok (.func fn first cap) w:=fun _ _ _ _=>rfl
 go_enter Tryz.func69,Tryz.ntmps69
 go_upto_region 2 with fail
 have hP1:=HA.out _ _ rfl rfl
 clear HA
 generalize ((w.alloc (.cells #[.pointer (some ⟨gb,0,none⟩)] 93)).alloc (.cells #[.int .i64 N.kind,.slice a1 N.ints.length c1,.slice a2 N.texts.length c2,.slice a3 N.kids.length c3] 51))=w1 at *
 have HP1:Hid (Pn w w1 B gb #[.int .i64 N.kind,.slice a1 N.ints.length c1,.slice a2 N.texts.length c2,.slice a3 N.kids.length c3] l):=hP1
 clear hP1
 have hne:w.heap.size≠gb:=by omega
 have y0:w1.cell? ⟨w.heap.size+1,0,none⟩=some (.int .i64 N.kind):=HP1.out.nd.cell 0
 have HU0:Hid (Bu B gb l w1):=HP1.out.bu
 have HQ0:Hid (AtN 93 w1 w.heap.size #[.pointer (some ⟨gb,0,none⟩)]):=HP1.out.p
 have s3:=HP1.out.size
 go_wp2_with (go_at_call 112;refine (put1o_any B gb w.heap.size l N.kind _ HU0.out HQ0.out hne (by omega) (by omega) (by omega) s3).mono ?_;rintro e w2 ⟨rfl,hu2,hb2,hk2⟩;have HP2:Hid (Pn w w2 B gb #[.int .i64 N.kind,.slice a1 N.ints.length c1,.slice a2 N.texts.length c2,.slice a3 N.kids.length c3] (l++put N.kind.toNat)):=HP1.out.wrote hb2 hk2 hu2;have y1:w2.cell? ⟨w.heap.size+1,1,none⟩=some (.slice a1 N.ints.length c1):=HP2.out.nd.cell 1)
 have hp0:(l++put N.kind.toNat).length≤100000010:=by have:=(put_length N.kind.toNat).2;rw [List.length_append];omega
 clear HP1 y0 HU0 HQ0 s3 hu2 hb2 hk2
 generalize hL0:l++put N.kind.toNat=l0 at *
 have HL0:Hid (l++put N.kind.toNat=l0):=hL0
 clear hL0
 go_loopw [20] (fun iv wr=>∃(i:Nat) (l:List UInt8),iv=.int .i64 i∧i≤N.ints.length∧l.length≤100000010+10*i∧Hid (l=l0++rI (N.ints.take i))∧Hid (Pn w wr B gb #[.int .i64 N.kind,.slice a1 N.ints.length c1,.slice a2 N.texts.length c2,.slice a3 N.kids.length c3] l)) (fun iv _=>N.ints.length-(intOf iv).toNat)
 case atStart=>exact ⟨0,l0,rfl,by omega,by omega,by simp [Hid,rI],HP2⟩
 case round=>
  clear HP2 y1
  obtain ⟨i,l',rfl,hi,hl1,HL,HP⟩:=hrel
  have sr:=HP.out.size
  by_cases hlt:i<N.ints.length
  ·have hlt':(i:Int)<N.ints.length:=by omega
   obtain ⟨b3,o3,rfl,hb3,d3⟩:=(HN.out wr HP.out.bel).i.at (iV_at N.ints i hlt)
   have hz:=HS.out.fn i hlt
   have HLn:Hid (l'++put (zig (N.ints.getD i 0)).toNat=l0++rI (N.ints.take (i+1))):=by
    show _=_
    unfold rI at HL ⊢
    rw [flat_take _ N.ints 0 i hlt,HL.out,List.append_assoc]
   clear HL
   generalize N.ints.getD i 0=z at *
   have HZ:Hid _:=fun W=>zig_any z W hz.1 hz.2
   have hzz:=zig_range z hz.1 hz.2
   have hput:=(put_length (zig z).toNat).2
   have hlen:(l'++put (zig z).toNat).length≤100000010+10*(i+1):=by rw [List.length_append];omega
   generalize zig z=zz at *
   have HU:Hid (Bu B gb l' wr):=HP.out.bu
   have HQ:Hid (AtN 93 wr w.heap.size #[.pointer (some ⟨gb,0,none⟩)]):=HP.out.p
   clear hz
   go_wp2_with fail
   refine Calls.mono (HZ.out _) ?_
   rintro e w4 ⟨rfl,rfl⟩
   clear HZ
   go_wp2_with (go_at_call 112;refine (put1o_any B gb w.heap.size l' zz _ HU.out HQ.out hne (by omega) (by omega) (by omega) sr).mono ?_;rintro e w5 ⟨rfl,hu2,hb2,hk2⟩;have HP5:Hid _:=HP.out.wrote hb2 hk2 hu2)
   go_roundw
   case rel=>exact ⟨i+1,l'++put zz.toNat,by go_num,by omega,hlen,HLn,HP5⟩
   case measure=>simp [intOf];omega
  ·have hlt':¬(i:Int)<N.ints.length:=by omega
   have HLe:Hid (l'=l0++rI N.ints):=by
    have:=HL.out
    rw [List.take_of_length_le (by omega)] at this
    exact this
   clear HL
   have z1:l'.length≤100000050:=by omega
   have y2:wr.cell? ⟨w.heap.size+1,2,none⟩=some (.slice a2 N.texts.length c2):=HP.out.nd.cell 2
   clear hl1
   generalize hl0:l'=l1 at *
   go_wp2_with fail
   go_loopw [32] (fun iv wr=>∃(i:Nat) (l:List UInt8),iv=.int .i64 i∧i≤N.texts.length∧l.length≤100000050+3010*i∧Hid (l=l1++oT (N.texts.take i))∧Hid (Pn w wr B gb #[.int .i64 N.kind,.slice a1 N.ints.length c1,.slice a2 N.texts.length c2,.slice a3 N.kids.length c3] l)) (fun iv _=>N.texts.length-(intOf iv).toNat)
   case atStart=>exact ⟨0,l1,rfl,by omega,by omega,by simp [Hid,oT],by subst hl0;exact HP⟩
   case round=>
    clear HP y2 sr
    obtain ⟨i,l',rfl,hi,hl1,HL,HP⟩:=hrel
    have sr:=HP.out.size
    by_cases hlt:i<N.texts.length
    ·have hlt':(i:Int)<N.texts.length:=by omega
     obtain ⟨b3,o3,rfl,hb3,d3⟩:=(HN.out wr HP.out.bel).t.at (tV_at N.texts i hlt)
     have hsz:=HS.out.s i hlt
     have HLn:Hid (l'++put (N.texts.getD i noT).size++(N.texts.getD i noT).data.toList=l1++oT (N.texts.take (i+1))):=by
      show _=_
      unfold oT at HL ⊢
      rw [flat_take _ N.texts noT i hlt,HL.out]
      simp only [List.append_assoc]
     clear HL
     generalize N.texts.getD i noT=x at *
     have hput:=(put_length x.size).2
     have hlen:(l'++put x.size++x.data.toList).length≤100000050+3010*(i+1):=by rw [List.length_append,List.length_append,list_size];omega
     have HU:Hid (Bu B gb l' wr):=HP.out.bu
     have HQ:Hid (AtN 93 wr w.heap.size #[.pointer (some ⟨gb,0,none⟩)]):=HP.out.p
     have hlp:(l'++put x.size).length≤100010000:=by rw [List.length_append];omega
     go_wp2_with (go_at_call 112;refine (put1o_any B gb w.heap.size l' (x.size:Nat) _ HU.out HQ.out hne (by omega) (by omega) (by omega) sr).mono ?_;rintro e w5 ⟨rfl,hu2,hb2,hk2⟩;rw [Int.toNat_natCast] at hu2;have HP5:Hid (Pn w w5 B gb #[.int .i64 N.kind,.slice a1 N.ints.length c1,.slice (some ⟨b3,o3,none⟩) N.texts.length c2,.slice a3 N.kids.length c3] (l'++put x.size)):=HP.out.wrote hb2 hk2 hu2;have sr5:=HP5.out.size;have HU5:Hid (Bu B gb (l'++put x.size) w5):=HP5.out.bu;have p5:w5.cell? ⟨w.heap.size,0,none⟩=some (.pointer (some ⟨gb,0,none⟩)):=HP5.out.p.cell 0)
     refine Calls.mono (wstr_any B gb (l'++put x.size) x w5 HU5.out (by omega) sr5) ?_
     rintro e w6 ⟨rfl,hu6,hb6,hk6⟩
     have HP6:Hid (Pn w w6 B gb #[.int .i64 N.kind,.slice a1 N.ints.length c1,.slice (some ⟨b3,o3,none⟩) N.texts.length c2,.slice a3 N.kids.length c3] (l'++put x.size++x.data.toList)):=HP5.out.wrote hb6 hk6 hu6
     clear HP HP5 HU HQ HU5 p5 hu2 hb2 hk2 hu6 hb6 hk6 d3 hb3
     go_wp2_with fail
     go_roundw
     case rel=>exact ⟨i+1,l'++put x.size++x.data.toList,by go_num,by omega,hlen,HLn,HP6⟩
     case measure=>simp [intOf];omega
    ·have hlt':¬(i:Int)<N.texts.length:=by omega
     have HLe2:Hid (l'=l1++oT N.texts):=by
      have:=HL.out
      rw [List.take_of_length_le (show N.texts.length≤i by omega)] at this
      exact this
     clear HL
     have z2:l'.length≤100006100:=by omega
     have y3:wr.cell? ⟨w.heap.size+1,3,none⟩=some (.slice a3 N.kids.length c3):=HP.out.nd.cell 3
     have HU:Hid (Bu B gb l' wr):=HP.out.bu
     have HQ:Hid (AtN 93 wr w.heap.size #[.pointer (some ⟨gb,0,none⟩)]):=HP.out.p
     clear hl1
     go_wp2_with (go_at_call 112;refine (put1o_any B gb w.heap.size l' (N.kids.length:Nat) _ HU.out HQ.out hne (by omega) (by omega) (by omega) sr).mono ?_;rintro e w6 ⟨rfl,hu2,hb2,hk2⟩;have HP6:Hid _:=HP.out.wrote hb2 hk2 hu2;have y6:w6.cell? ⟨w.heap.size+1,3,none⟩=some (.slice a3 N.kids.length c3):=HP6.out.nd.cell 3)
     rw [Int.toNat_natCast] at HP6
     have hput:=(put_length N.kids.length).2
     have z3:(l'++put N.kids.length).length≤100006110:=by rw [List.length_append];omega
     have HLe3:Hid (l'++put N.kids.length=l1++oT N.texts++put N.kids.length):=by show _=_;rw [HLe2.out]
     clear HP y3 HU HQ hu2 hb2 hk2 HLe2
     generalize l'++put N.kids.length=l2 at *
     go_loopw [54] (fun iv wr=>∃(i:Nat) (l:List UInt8),iv=.int .i64 i∧i≤N.kids.length∧l.length≤100006110+10*i∧Hid (l=l2++oK (N.kids.take i))∧Hid (Pn w wr B gb #[.int .i64 N.kind,.slice a1 N.ints.length c1,.slice a2 N.texts.length c2,.slice a3 N.kids.length c3] l)) (fun iv _=>N.kids.length-(intOf iv).toNat)
     case atStart=>exact ⟨0,l2,rfl,by omega,by omega,by simp [Hid,oK],HP6⟩
     case round=>
      clear HP6 y6 sr
      obtain ⟨i,l',rfl,hi,hl1,HL,HP⟩:=hrel
      have sr:=HP.out.size
      by_cases hlt:i<N.kids.length
      ·have hlt':(i:Int)<N.kids.length:=by omega
       obtain ⟨b3,o3,rfl,hb3,d3⟩:=(HN.out wr HP.out.bel).k.at (iV_at N.kids i hlt)
       have hz:=HS.out.z i hlt
       have HLn:Hid (l'++put (N.kids.getD i 0).toNat=l2++oK (N.kids.take (i+1))):=by
        show _=_
        unfold oK at HL ⊢
        rw [flat_take _ N.kids 0 i hlt,HL.out,List.append_assoc]
       clear HL
       generalize N.kids.getD i 0=z at *
       have hput:=(put_length z.toNat).2
       have hlen:(l'++put z.toNat).length≤100006110+10*(i+1):=by rw [List.length_append];omega
       have HU:Hid (Bu B gb l' wr):=HP.out.bu
       have HQ:Hid (AtN 93 wr w.heap.size #[.pointer (some ⟨gb,0,none⟩)]):=HP.out.p
       have hz1:=hz.1
       have hz2:=hz.2
       go_wp2_with (go_at_call 112;refine (put1o_any B gb w.heap.size l' z _ HU.out HQ.out hne (by omega) (by omega) (by omega) sr).mono ?_;rintro e w7 ⟨rfl,hu2,hb2,hk2⟩;have HP7:Hid _:=HP.out.wrote hb2 hk2 hu2)
       go_roundw
       case rel=>exact ⟨i+1,l'++put z.toNat,by go_num,by omega,hlen,HLn,HP7⟩
       case measure=>simp [intOf];omega
      ·have hlt':¬(i:Int)<N.kids.length:=by omega
       have HLf:Hid (l'=l++OB):=by
        have h1:=HL.out
        rw [List.take_of_length_le (by omega),HLe3.out,HLe.out,← HL0.out] at h1
        show l'=_
        rw [h1,HOB.out]
        simp only [List.append_assoc]
       clear HL
       have HR:Hid (Bu B gb (l++OB) wr∧Below B w wr∧Kept gb w wr):=⟨by rw [← HLf.out];exact HP.out.bu,HP.out.bel,HP.out.kept⟩
       go_wp2_with fail
       go_end0
       exact ⟨rfl,HR.out⟩
set_option maxRecDepth 10000 in
set_option maxHeartbeats 1000000 in
theorem owrite_any (X:List Nx) (a:Option Addr) (c:Nat) (r most:Int) (w:World) (h:ScAt w a X) (hn:X.length≤1401) (hS:∀i,i<X.length→SmN (X.getD i noNx).nd) :
  Calls Tryz.prog 29 #[.agg #[.slice a X.length c,.int .i64 r],.int .i64 most] w fun e w'=>∃Q:ByteArray,e=.returned (.string Q)∧(Q=oC (X.map Nx.nd)∨(most<(Q.size:Int)∧Q.size≤(oC (X.map Nx.nd)).size))∧Below w.heap.size w w':=by
 have HSc:Hid (∀W,Below w.heap.size w W→ScAt W a X):=fun W hW=>h.belowB hW
 have HNd:Hid (∀(i:Nat) (gb:Nat) (l:List UInt8) (W:World),i<X.length→Bu w.heap.size gb l W→Below w.heap.size w W→l.length≤100000000→Calls Tryz.prog 69 #[.pointer (some ⟨gb,0,none⟩),.agg #[.int .i64 (X.getD i noNx).nd.kind,.slice (X.getD i noNx).a1 (X.getD i noNx).nd.ints.length (X.getD i noNx).c1,.slice (X.getD i noNx).a2 (X.getD i noNx).nd.texts.length (X.getD i noNx).c2,.slice (X.getD i noNx).a3 (X.getD i noNx).nd.kids.length (X.getD i noNx).c3]] W fun e w'=>e=.returned (.tuple #[])∧Bu w.heap.size gb (l++oB (X.getD i noNx).nd) w'∧Below w.heap.size W w'∧Kept gb W w'):=fun i gb l W hi hu hW hl=>onode_any _ _ _ _ _ _ _ w.heap.size gb l W hu hW.size (fun W' hW'=>(h.belowB (hW.trans hW')).each i hi) (hS i hi) hl
 have HOb:Hid (∀i,i<X.length→(oB (X.getD i noNx).nd).length≤36080):=fun i hi=>oB_le (hS i hi)
 have HTk:Hid (∀i,i<X.length→((X.map Nx.nd).take (i+1)).flatMap oB=((X.map Nx.nd).take i).flatMap oB++oB (X.getD i noNx).nd):=fun i hi=>by
  rw [flat_take oB (X.map Nx.nd) noNx.nd i (by rw [List.length_map];exact hi)]
  congr 2
  rw [List.getD_eq_getElem?_getD,List.getElem?_map,List.getD_eq_getElem?_getD,List.getElem?_eq_getElem hi]
  rfl
 have HFin:Hid (∀(i:Nat) (l:List UInt8),l=put X.length++((X.map Nx.nd).take i).flatMap oB→(X.length≤i∨most<(l.length:Int))→((⟨l.toArray⟩:ByteArray)=oC (X.map Nx.nd)∨(most<((⟨l.toArray⟩:ByteArray).size:Int)∧(⟨l.toArray⟩:ByteArray).size≤(oC (X.map Nx.nd)).size))∧l≠[]):=by
  intro i l hl hi
  have hp:=(put_length X.length).1
  have hz:(⟨l.toArray⟩:ByteArray).size=l.length:=by show l.toArray.size=_;simp
  have hR:(oC (X.map Nx.nd)).size=(oR (X.map Nx.nd)).length:=by rw [← list_size,oC_list]
  have hR2:oR (X.map Nx.nd)=put X.length++(X.map Nx.nd).flatMap oB:=by unfold oR;rw [List.length_map]
  refine ⟨?_,fun q=>by rw [q] at hl;have:=congrArg List.length hl;rw [List.length_append] at this;simp at this;omega⟩
  by_cases hq:X.length≤i
  ·left
   rw [List.take_of_length_le (by rw [List.length_map];exact hq)] at hl
   rw [hl,← hR2]
   rfl
  ·right
   refine ⟨by rw [hz];exact hi.resolve_left hq,?_⟩
   rw [hz,hR,hR2,hl,List.length_append,List.length_append]
   have:(((X.map Nx.nd).take i).flatMap oB).length≤((X.map Nx.nd).flatMap oB).length:=by
    conv=>rhs;rw [← List.take_append_drop i (X.map Nx.nd),List.flatMap_append,List.length_append]
    omega
   omega
 have HA:Hid (∀o1 o2:Obj,o1=.cells #[.slice a X.length c,.int .i64 r] 24→o2=.cells #[.pointer none,.slice none 0 0] 95→AtN 24 ((w.alloc o1).alloc o2) w.heap.size #[.slice a X.length c,.int .i64 r]∧Bu w.heap.size (w.heap.size+1) [] ((w.alloc o1).alloc o2)∧Below w.heap.size w ((w.alloc o1).alloc o2)):=by
  rintro _ _ rfl rfl
  refine ⟨(AtN.new w 24 _).alloc _,?_,((Below.refl w.heap.size w).alloc (Nat.le_refl _) _).alloc (by simp) _⟩
  have h:=Bu.new (w.alloc (.cells #[.slice a X.length c,.int .i64 r] 24))
  rw [show (w.alloc (.cells #[.slice a X.length c,.int .i64 r] 24)).heap.size=w.heap.size+1 by simp] at h
  exact h.lowerO (by omega)
 have HP:Hid (∀W,Calls Tryz.prog 64 #[.int .u64 (X.length:Nat)] W fun e w'=>e=.returned (.string ⟨(put X.length).toArray⟩)∧Below W.heap.size W w'):=fun W=>by
  have h:=put_any (X.length:Nat) W (by omega) (by omega)
  rw [Int.toNat_natCast] at h
  exact h
 have hp10:=(put_length X.length).2
 obtain ⟨V,hV⟩:∃V:ByteArray,V=⟨(put X.length).toArray⟩:=⟨_,rfl⟩
 have HV:Hid (V.data.toList=put X.length∧V.size≤10):=by
  have h1:V.data.toList=put X.length:=by rw [hV]
  exact ⟨h1,by rw [← list_size,h1];exact hp10⟩
 rw [← hV] at HP
 generalize oC (X.map Nx.nd)=C at *
 generalize hpx:put X.length=px at *
 clear h hS hV
 go_enter Tryz.func29,Tryz.ntmps29
 go_upto_region 2 with fail
 obtain ⟨h1,h2,h3⟩:=HA.out _ _ rfl rfl
 clear HA
 generalize ((w.alloc (.cells #[.slice a X.length c,.int .i64 r] 24)).alloc (.cells #[.pointer none,.slice none 0 0] 95))=w1 at *
 have HS1:Hid (AtN 24 w1 w.heap.size #[.slice a X.length c,.int .i64 r]):=h1
 have HU1:Hid (Bu w.heap.size (w.heap.size+1) [] w1):=h2
 have HB1:Hid (Below w.heap.size w w1):=h3
 have x0:w1.cell? ⟨w.heap.size,0,none⟩=some (.slice a X.length c):=HS1.out.cell 0
 clear h1 h2 h3
 go_wp2_with fail
 refine Calls.mono (HP.out _) ?_
 rintro e w2 ⟨rfl,hb2⟩
 have HS2:Hid (AtN 24 w2 w.heap.size #[.slice a X.length c,.int .i64 r]):=HS1.out.belowAll hb2
 have HU2:Hid (Bu w.heap.size (w.heap.size+1) [] w2):=HU1.out.below hb2
 have HB2:Hid (Below w.heap.size w w2):=HB1.out.trans (hb2.mono HB1.out.size)
 have hs2:=HB2.out.size
 clear HS1 HU1 HB1 HP hb2 x0
 go_wp2_with fail
 refine Calls.mono (wstr_any w.heap.size (w.heap.size+1) [] V w2 HU2.out (by have:=HV.out.2;simp;omega) hs2) ?_
 rintro e w3 ⟨rfl,hu3,hb3,hk3⟩
 rw [List.nil_append,HV.out.1] at hu3
 have HU3:Hid (Bu w.heap.size (w.heap.size+1) px w3):=hu3
 have HB3:Hid (Below w.heap.size w w3):=HB2.out.trans hb3
 have x0:w3.cell? ⟨w.heap.size,0,none⟩=some (.slice a X.length c):=(HS2.out.keptB hk3 (by omega) (by decide)).cell 0
 clear HS2 HU2 HB2 hu3 hb3 hk3 HV hs2
 go_upto_block 0 with fail
 go_cut [] (fun wz=>∃(i:Nat) (l:List UInt8),Hid (l=px++((X.map Nx.nd).take i).flatMap oB)∧(X.length≤i∨most<(l.length:Int))∧Hid (Bu w.heap.size (w.heap.size+1) l wz)∧Hid (Below w.heap.size w wz))
 case first=>
  go_wp2_with fail
  go_loopw [17] (fun iv wr=>∃(i:Nat) (l:List UInt8),iv=.int .i64 i∧i≤X.length∧l.length≤10+36080*i∧Hid (l=px++((X.map Nx.nd).take i).flatMap oB)∧Hid (Bu w.heap.size (w.heap.size+1) l wr)∧Hid (Below w.heap.size w wr)) (fun iv _=>X.length-(intOf iv).toNat)
  case atStart=>exact ⟨0,px,rfl,by omega,by omega,by simp [Hid],HU3,HB3⟩
  case round=>
   clear HU3 HB3 x0
   obtain ⟨i,l,rfl,hi,hl1,HL,HU,HB⟩:=hrel
   by_cases hlt:i<X.length
   ·have hlt':(i:Int)<X.length:=by omega
    obtain ⟨b,o,rfl,hbl,d0,d1,d2,d3⟩:=(HSc.out wr HB.out).node hlt
    have HNi:Hid (∀(l:List UInt8) (W:World),Bu w.heap.size (w.heap.size+1) l W→Below w.heap.size w W→l.length≤100000000→_):=fun l W q1 q2 q3=>HNd.out i (w.heap.size+1) l W hlt q1 q2 q3
    have HTi:Hid _:=HTk.out i hlt
    have hob:=HOb.out i hlt
    generalize X.getD i noNx=y at *
    have HUa:Hid (∀o,Bu w.heap.size (w.heap.size+1) l (wr.alloc o)):=fun o=>HU.out.alloc o
    have HBa:Hid (∀o,Below w.heap.size w (wr.alloc o)):=fun o=>HB.out.alloc HB.out.size o
    go_wp2_with fail
    refine Calls.mono (blen_any w.heap.size (w.heap.size+1) l _ (HUa.out _)) ?_
    rintro e w5 ⟨rfl,hw5⟩
    have HU5:Hid (Bu w.heap.size (w.heap.size+1) l w5):=by rw [hw5];exact HUa.out _
    have HB5:Hid (Below w.heap.size w w5):=by rw [hw5];exact HBa.out _
    have HA5:Hid (AtN 51 w5 wr.heap.size #[.int .i64 y.nd.kind,.slice y.a1 y.nd.ints.length y.c1,.slice y.a2 y.nd.texts.length y.c2,.slice y.a3 y.nd.kids.length y.c3]):=by rw [hw5];exact AtN.new wr 51 _
    clear hw5 d0 d1 d2 d3 hbl HUa HBa HU HB
    by_cases hm:most<(l.length:Int)
    ·go_wp2_with fail
     go_meet
     exact ⟨i,l,HL,.inr hm,HU5,HB5⟩
    ·have HC5:Hid _:=HNi.out l w5 HU5.out HB5.out (by omega)
     have HLn:Hid (l++oB y.nd=px++((X.map Nx.nd).take (i+1)).flatMap oB):=by
      show _=_
      rw [HTi.out,HL.out,List.append_assoc]
     have hlen:(l++oB y.nd).length≤10+36080*(i+1):=by rw [List.length_append];omega
     have n0:w5.cell? ⟨wr.heap.size,0,none⟩=some (.int .i64 y.nd.kind):=HA5.out.cell 0
     have n1:w5.cell? ⟨wr.heap.size,1,none⟩=some (.slice y.a1 y.nd.ints.length y.c1):=HA5.out.cell 1
     have n2:w5.cell? ⟨wr.heap.size,2,none⟩=some (.slice y.a2 y.nd.texts.length y.c2):=HA5.out.cell 2
     have n3:w5.cell? ⟨wr.heap.size,3,none⟩=some (.slice y.a3 y.nd.kids.length y.c3):=HA5.out.cell 3
     clear HL
     go_wp2_with fail
     refine Calls.mono HC5.out ?_
     rintro e w6 ⟨rfl,hu6,hb6,_⟩
     have HU6:Hid (Bu w.heap.size (w.heap.size+1) (l++oB y.nd) w6):=hu6
     have HB6:Hid (Below w.heap.size w w6):=HB5.out.trans hb6
     clear hu6 hb6 HC5 HU5 HB5 HA5 n0 n1 n2 n3
     go_wp2_with fail
     go_roundw
     case rel=>exact ⟨i+1,l++oB y.nd,by go_num,by omega,hlen,HLn,HU6,HB6⟩
     case measure=>simp [intOf];omega
   ·have hlt':¬(i:Int)<X.length:=by omega
    go_wp2_with fail
    go_meet
    exact ⟨i,l,HL,.inl (by omega),HU,HB⟩
 case rest=>
  clear HU3 HB3 x0
  obtain ⟨i,l,HL,hend,HU,HB⟩:=hcut
  obtain ⟨hf,hl0⟩:=HFin.out i l HL.out hend
  have HF:Hid _:=hf
  clear hf HFin HL
  go_wp2_with fail
  refine Calls.mono (bstr2_any w.heap.size (w.heap.size+1) l _ HU.out hl0) ?_
  rintro e w8 ⟨rfl,hb8,_⟩
  have HB8:Hid (Below w.heap.size w w8):=HB.out.trans hb8
  clear hb8
  go_wp2_with fail
  go_ret
  exact ⟨_,rfl,HF.out,HB8.out⟩
end Go.Proofs.YtgoffkfpdigeeaaGreatDoor
namespace Go.Proofs.YtgoffkfpdigeeaaGreatDoor
theorem ba_ext {a b:ByteArray} (h:a.data.toList=b.data.toList):a=b:=ByteArray.ext (Array.toList_inj.1 h)
end Go.Proofs.YtgoffkfpdigeeaaGreatDoor
namespace Go.Proofs.YtgoffkfpdigeeaaGreatDoor
theorem data_two (a b:ByteArray):(a++b).data.toList=a.data.toList++b.data.toList:=by rw [ByteArray.data_append,Array.toList_append]
end Go.Proofs.YtgoffkfpdigeeaaGreatDoor
