import Derived.Test.YtcgjgjjegnofeaaGreatDoorPB08
import Derived.Test.YtcgjgjjegnofeaaGreatDoorPB03
import Derived.Test.YtcgjgjjegnofeaaGreatDoorPB09
import Derived.Test.YtcgjgjjegnofeaaGreatDoorPB06
import Derived.Test.YtcgjgjjegnofeaaGreatDoorPB10
import Derived.Test.YtcgjgjjegnofeaaGreatDoorPB21
import Derived.Test.YtcgjgjjegnofeaaGreatDoorPB13
import Derived.Test.YtcgjgjjegnofeaaGreatDoorPB18
import Derived.Test.YtcgjgjjegnofeaaGreatDoorPB23
import Derived.Lib.Strings
import Derived.Test.YtcgjgjjegnofeaaGreatDoorPB07
namespace Go.Proofs.YtcgjgjjegnofeaaGreatDoor
open Go.RowKit
set_option maxRecDepth 10000 in
set_option maxHeartbeats 1000000 in
theorem pcheck_any (N:Nd) (a1 a2 a3:Option Addr) (c1 c2 c3:Nat) (p:Int) (w:World) (hT:Tabs12 w) (h:NdAt w N a1 a2 a3) (hf:fine N.ints) (h1:N.ints.length≤100) (h2:N.texts.length≤100) (h3:N.kids.length≤100000) (h4:∀s ∈ N.texts,s.size≤3000) :
  Calls Tryz.prog 115 #[.agg #[.int .i64 N.kind,.slice a1 N.ints.length c1,.slice a2 N.texts.length c2,.slice a3 N.kids.length c3],.int .i64 p] w fun e w'=>e=.returned (.int .i64 (rE N p))∧Below w.heap.size w w':=by
 have HN:Hid (NdAt w N a1 a2 a3):=h
 have HA0:Hid (AtN 62 (w.alloc (.cells #[.int .i64 N.kind,.slice a1 N.ints.length c1,.slice a2 N.texts.length c2,.slice a3 N.kids.length c3] 62)) w.heap.size #[.int .i64 N.kind,.slice a1 N.ints.length c1,.slice a2 N.texts.length c2,.slice a3 N.kids.length c3]):=AtN.new w 62 _
 have HB0:Hid (Below w.heap.size w (w.alloc (.cells #[.int .i64 N.kind,.slice a1 N.ints.length c1,.slice a2 N.texts.length c2,.slice a3 N.kids.length c3] 62))):=(Below.refl w.heap.size w).alloc (Nat.le_refl _) _
 have HSp:Hid (∀W,Below w.heap.size w W→Calls Tryz.prog 135 #[.int .i64 N.kind] W fun e w'=>SpIs W w' e (newSp N.kind)):=fun W hb=>new_any N.kind W (hT.on hb).k
 have HC:Hid (∀(W:World) (S:Sp) (sb:Option Addr) (d:Nat),Below w.heap.size w W→LsAt W sb (iV S.ints)→Calls Tryz.prog 136 #[.agg #[.int .i64 N.kind,.slice a1 N.ints.length c1,.slice a2 N.texts.length c2,.slice a3 N.kids.length c3],.agg #[.slice sb S.ints.length d,.int .i64 S.texts,.int .i64 S.least,.int .i64 S.most]] W fun e w'=>e=.returned (.int .i64 (chkN N S.ints S.texts S.least S.most))∧Below W.heap.size W w'):=
  fun W S sb d hW hb=>fcheck_any N S.ints S.texts S.least S.most a1 a2 a3 sb c1 c2 c3 d W (h.belowB hW) hb (hT.on hW).s hf h1 h2 h4
 have HV:Hid (tyN N=if (newSp N.kind).ok=false then 9 else chkN N (newSp N.kind).ints (newSp N.kind).texts (newSp N.kind).least (newSp N.kind).most):=rfl
 have HRE:Hid (rE N p=if tyN N=0 then (if rOk N p=true then 0 else 13) else tyN N):=rfl
 clear h hT hf h4
 generalize tyN N=ty at *
 generalize newSp N.kind=S at *
 obtain ⟨ok,ci,ct,cl,cm⟩:=S
 go_enter Tryz.func115,Tryz.ntmps115
 go_wp2_with fail
 refine Calls.mono (HSp.out _ HB0.out) ?_
 rintro e w1 ⟨v,rfl,hI,hb1⟩
 obtain ⟨sb,sc,rfl⟩:=own_shape7 hI
 have HL:Hid (LsAt w1 sb (iV ci)):=LsAt.of_own hI
 have HA1:Hid (AtN 62 w1 w.heap.size #[.int .i64 N.kind,.slice a1 N.ints.length c1,.slice a2 N.texts.length c2,.slice a3 N.kids.length c3]):=AtN.belowAll HA0.out hb1
 have HB1:Hid (Below w.heap.size w w1):=HB0.out.trans (hb1.mono HB0.out.size)
 clear HSp hI hb1 HA0 HB0
 dsimp only at *
 cases ok with
 | false=>
  have ht:ty=9:=HV.out
  subst ht
  have HR:Hid (rE N p=9):=by show _=_;rw [HRE.out];rfl
  clear HV HRE HC HL HA1
  go_wp2_with fail
  go_ret
  rw [HR.out]
  exact ⟨rfl,HB1.out.alloc HB1.out.size _⟩
 | true=>
  have ht:ty=chkN N ci ct cl cm:=HV.out
  have HC1:Hid (Calls Tryz.prog 136 #[.agg #[.int .i64 N.kind,.slice a1 N.ints.length c1,.slice a2 N.texts.length c2,.slice a3 N.kids.length c3],.agg #[.slice sb ci.length sc,.int .i64 ct,.int .i64 cl,.int .i64 cm]] (w1.alloc (.cells #[.slice sb ci.length sc,.int .i64 ct,.int .i64 cl,.int .i64 cm] 147)) fun e w'=>e=.returned (.int .i64 ty)∧Below (w1.alloc (.cells #[.slice sb ci.length sc,.int .i64 ct,.int .i64 cl,.int .i64 cm] 147)).heap.size (w1.alloc (.cells #[.slice sb ci.length sc,.int .i64 ct,.int .i64 cl,.int .i64 cm] 147)) w'):=by
   have:=HC.out (w1.alloc (.cells #[.slice sb ci.length sc,.int .i64 ct,.int .i64 cl,.int .i64 cm] 147)) ⟨true,ci,ct,cl,cm⟩ sb sc (HB1.out.alloc HB1.out.size _) (HL.out.alloc _)
   rw [ht]
   exact this
  have n1:=HA1.out.lt
  have y0:w1.cell? ⟨w.heap.size,0,none⟩=some (.int .i64 N.kind):=HA1.out.cell 0
  have y1:w1.cell? ⟨w.heap.size,1,none⟩=some (.slice a1 N.ints.length c1):=HA1.out.cell 1
  have y2:w1.cell? ⟨w.heap.size,2,none⟩=some (.slice a2 N.texts.length c2):=HA1.out.cell 2
  have y3:w1.cell? ⟨w.heap.size,3,none⟩=some (.slice a3 N.kids.length c3):=HA1.out.cell 3
  clear HV HC HL ht
  go_wp2_with fail
  refine Calls.mono HC1.out ?_
  rintro e w2 ⟨rfl,hb2⟩
  have HB2:Hid (Below w.heap.size w w2):=(HB1.out.alloc HB1.out.size _).trans (hb2.mono (by have:=HB1.out.size;simp;omega))
  have HA2:Hid (AtN 62 w2 w.heap.size #[.int .i64 N.kind,.slice a1 N.ints.length c1,.slice a2 N.texts.length c2,.slice a3 N.kids.length c3]):=AtN.belowAll (AtN.alloc HA1.out _) hb2
  clear HC1 HB1 HA1 hb2 y0 y1 y2 y3 n1
  by_cases ht:ty=0
  ·subst ht
   have HY:Hid ((∀i,i<N.kids.length→0≤N.kids.getD i 0∧N.kids.getD i 0<p)→rE N p=0):=fun q=>by rw [HRE.out,if_pos rfl,if_pos (rOk_yes q)]
   have HNo:Hid (∀i,i<N.kids.length→¬(0≤N.kids.getD i 0∧N.kids.getD i 0<p)→rE N p=13):=fun i hi q=>by rw [HRE.out,if_pos rfl,if_neg (by rw [rOk_no hi q];simp)]
   clear HRE
   have y3:w2.cell? ⟨w.heap.size,3,none⟩=some (.slice a3 N.kids.length c3):=HA2.out.cell 3
   have n2:=HA2.out.lt
   go_wp2_with fail
   go_loopw [27] (fun iv wr=>∃i:Nat,iv=.int .i64 i∧i≤N.kids.length∧wr=w2∧Hid (∀k,k<i→0≤N.kids.getD k 0∧N.kids.getD k 0<p)) (fun iv _=>N.kids.length-(intOf iv).toNat)
   case atStart=>exact ⟨0,rfl,by omega,rfl,fun k hk=>by omega⟩
   case round=>
    obtain ⟨i,rfl,hi,rfl,HI⟩:=hrel
    by_cases hlt:i<N.kids.length
    ·have hlt':(i:Int)<N.kids.length:=by omega
     obtain ⟨b3,o3,rfl,hb3,d3⟩:=(HN.out.k.belowB HB2.out).at (iV_at N.kids i hlt)
     have HNi:Hid (¬(0≤N.kids.getD i 0∧N.kids.getD i 0<p)→rE N p=13):=HNo.out i hlt
     have HIi:Hid (0≤N.kids.getD i 0∧N.kids.getD i 0<p→∀k,k<i+1→0≤N.kids.getD k 0∧N.kids.getD k 0<p):=fun q k hk=>by
      by_cases e:k=i
      ·subst e;exact q
      ·exact HI.out k (by omega)
     clear HI HNo HY
     generalize N.kids.getD i 0=z at *
     by_cases hz:z<0
     ·have HP:Hid (rE N p=13):=HNi.out (by omega)
      clear HNi HIi
      go_wp2_with fail
      go_ret
      rw [HP.out]
      exact ⟨rfl,HB2.out⟩
     ·by_cases hz2:p≤z
      ·have HP:Hid (rE N p=13):=HNi.out (by omega)
       clear HNi HIi
       go_wp2_with fail
       go_ret
       rw [HP.out]
       exact ⟨rfl,HB2.out⟩
      ·clear HNi
       go_wp2_with fail
       go_roundw
       case rel=>exact ⟨i+1,by go_num,by omega,by first|rfl|trivial,HIi.out ⟨by omega,by omega⟩⟩
       case measure=>simp [intOf];omega
    ·have hlt':¬(i:Int)<N.kids.length:=by omega
     have HKr:Hid (∀k,k<N.kids.length→0≤N.kids.getD k 0∧N.kids.getD k 0<p):=fun k hk=>HI.out k (by omega)
     have HR0:Hid (rE N p=0):=HY.out HKr.out
     clear HI HY HNo
     go_wp2_with fail
     go_ret
     rw [HR0.out]
     exact ⟨rfl,HB2.out⟩
  ·have HR:Hid (rE N p=ty):=by show _=_;rw [HRE.out,if_neg ht]
   clear HRE
   go_wp2_with fail
   go_ret
   rw [HR.out]
   exact ⟨rfl,HB2.out⟩
end Go.Proofs.YtcgjgjjegnofeaaGreatDoor
namespace Go.Proofs.YtcgjgjjegnofeaaGreatDoor
open Go.RowKit
theorem Fr.of_kept {C gb:Nat} {w w':World} (hb:Below C w w') (hk:Kept gb w w'):Fr (fun i=>C≤i∧(i=gb∨∃c fz,w.heap[i]? = some (.cells c 5 fz))) w w':=
 ⟨hb.os,hb.tape,hb.output,hb.size,fun i hi hn=>by
  by_cases h:i<C
  ·exact hb.block i h
  ·have h1:i≠gb:=fun e=>hn ⟨by omega,.inl e⟩
   obtain ⟨o,ho⟩:∃o,w.heap[i]? = some o:=⟨_,Array.getElem?_eq_getElem hi⟩
   rw [ho]
   exact hk i o ho (by simpa using h1) (fun c fz e=>hn ⟨by omega,.inr ⟨c,fz,by rw [ho,e]⟩⟩)⟩
theorem bu_row {B g:Nat} {p:Value} {bs:List Value} {w w':World} {S:Nat→Prop} (h:Lib.BuilderAt 102 5 B g p bs w) (k:Fr S w w') (hg:¬S g) (hr:∀q c fz,S q→w.heap[q]?≠some (.cells c 5 fz)):Lib.BuilderAt 102 5 B g p bs w':=by
 obtain ⟨hB,v,hgg,hown,hne⟩:=h
 have hlt:g<w.heap.size:=(Array.getElem?_eq_some_iff.1 hgg).1
 refine ⟨hB,v,(k.block g hlt hg).trans hgg,own_fr hown k (fun r hr2 q=>?_),hne⟩
 obtain ⟨c,fz,h1⟩:=own_kind hown r hr2
 exact hr r c fz q h1
theorem Bu.fr {B g:Nat} {l:List UInt8} {w w':World} {S:Nat→Prop} (h:Bu B g l w) (k:Fr S w w') (hg:¬S g) (hr:∀q c fz,S q→w.heap[q]?≠some (.cells c 5 fz)):Bu B g l w':=by
 rcases h with h|h
 ·exact .inl (bu_row h k hg hr)
 ·exact .inr (bu_row h k hg hr)
theorem Bu.two {B g:Nat} {l:List UInt8} {w:World} (h:Bu B g l w):∃p v,w.heap[g]? = some (.cells #[p,v] 102 (0,0)):=by
 rcases h with ⟨_,v,h,_⟩|⟨_,v,h,_⟩
 ·exact ⟨_,v,h⟩
 ·exact ⟨_,v,h⟩
theorem row_kind {w:World} {B:Nat} {e:TypeId} {v:Value} {n k:Nat} {xs:List Value} (h:w.ownsRow B e 1 v n xs) (hv:v.ownBlock=some k):∃c,w.heap[k]? = some (.cells c e (0,0)):=by
 rcases h.2 with ⟨rfl,_⟩|⟨g',cap,cur,rfl,_,hgg,_⟩
 ·simp [Value.ownBlock] at hv
 ·simp [Value.ownBlock] at hv
  subst hv
  exact ⟨cur,hgg⟩
theorem Tb.kinds {w:World} {B g gm:Nat} {v:Value} {L:List ByteArray} (h:Tb w B g gm v L) {k:Nat} (hk:TbS g gm v k) {c:Array Value} {T:TypeId} {fz:Nat × Nat} (hc:w.heap[k]? = some (.cells c T fz)):T=161∨T=9:=by
 rcases hk with rfl|rfl|hk
 ·have h1:w.heap[k]? = _:=h.cells
  rw [hc] at h1
  injection h1 with h1
  injection h1 with _ h1
  exact .inl h1
 ·obtain ⟨D,⟨es,ck,h2,_⟩,_⟩:=h.map
  rw [hc] at h2
  cases h2
 ·obtain ⟨c2,h1⟩:=row_kind h.own hk
  rw [hc] at h1
  injection h1 with h1
  injection h1 with _ h1
  exact .inr h1
structure Pk (w wr:World) (B g gm:Nat) (v:Value) (gb:Nat) (cN:Array Value) (v':Value) (M:List ByteArray) (l:List UInt8):Prop where
 tb:Tb wr B g gm v' M
 bu:Bu w.heap.size gb l wr
 nd:AtN 62 wr w.heap.size cN
 fr:Fr (TbS g gm v) w wr
 rows:∀k,TbS g gm v' k→TbS g gm v k∨w.heap.size≤k
 hg:g<w.heap.size
 hm:gm<w.heap.size
 hb:w.heap.size<gb
section
variable {w wr w':World} {B g gm gb:Nat} {v v':Value} {cN:Array Value} {M M':List ByteArray} {l l':List UInt8}
theorem Pk.more (h:Pk w wr B g gm v gb cN v' M l) (hb:Below wr.heap.size wr w'):Pk w w' B g gm v gb cN v' M l:=
 ⟨h.tb.below hb,h.bu.below hb,h.nd.belowAll hb,h.fr.trans (Fr.of_below (S:=fun _=>False) hb) (fun _ q _=>q.elim),h.rows,h.hg,h.hm,h.hb⟩
theorem Pk.done (h:Pk w wr B g gm v gb cN v' M l) (hb:Below w.heap.size wr w') (hk:Kept gb wr w'):TIn w w' B g gm v M:=by
 have F:=Fr.of_kept hb hk
 have h3:=h.hb
 obtain ⟨p,vb,hgb⟩:=h.bu.two
 refine ⟨v',h.tb.fr F (fun i hi q=>?_),h.fr.trans F (fun i q hi=>by omega),h.rows⟩
 rcases q.2 with rfl|⟨c,fz,e⟩
 ·rcases h.tb.kinds hi hgb with e|e
  ·revert e;decide
  ·revert e;decide
 ·rcases h.tb.kinds hi e with e|e
  ·revert e;decide
  ·revert e;decide
theorem Pk.size (h:Pk w wr B g gm v gb cN v' M l):w.heap.size≤wr.heap.size:=h.fr.size
theorem Pk.wrote (h:Pk w wr B g gm v gb cN v' M l) (hb:Below w.heap.size wr w') (hk:Kept gb wr w') (hu:Bu w.heap.size gb l' w'):Pk w w' B g gm v gb cN v' M l':=by
 have F:=Fr.of_kept hb hk
 have h1:=h.hg
 have h2:=h.hm
 have h3:=h.hb
 obtain ⟨p,vb,hgb⟩:=h.bu.two
 refine ⟨h.tb.fr F (fun i hi q=>?_),hu,?_,h.fr.trans F (fun i q hi=>by omega),h.rows,h1,h2,h3⟩
 ·rcases q.2 with rfl|⟨c,fz,e⟩
  ·rcases h.tb.kinds hi hgb with e|e
   ·revert e;decide
   ·revert e;decide
  ·rcases h.tb.kinds hi e with e|e
   ·revert e;decide
   ·revert e;decide
 ·refine h.nd.fr F (fun q=>?_)
  rcases q.2 with e|⟨c,fz,e⟩
  ·omega
  ·have h5:wr.heap[w.heap.size]? = _:=h.nd
   rw [e] at h5
   injection h5 with h5
   injection h5 with _ h5
   revert h5;decide
theorem Pk.interned (h:Pk w wr B g gm v gb cN v' M l) (hi:TIn wr w' B g gm v' M'):∃v2,Pk w w' B g gm v gb cN v2 M' l:=by
 obtain ⟨v2,ht,hf,hr⟩:=hi
 have h1:=h.hg
 have h2:=h.hm
 have h3:=h.hb
 have hs:=h.size
 obtain ⟨p,vb,hgb⟩:=h.bu.two
 refine ⟨v2,ht,h.bu.fr hf (fun q=>?_) (fun k c fz q e=>?_),h.nd.fr hf (fun q=>?_),h.fr.trans hf (fun i q hi=>?_),fun k hk=>?_,h1,h2,h3⟩
 ·rcases h.tb.kinds q hgb with e|e
  ·revert e;decide
  ·revert e;decide
 ·rcases h.tb.kinds q e with e|e
  ·revert e;decide
  ·revert e;decide
 ·have h5:wr.heap[w.heap.size]? = _:=h.nd
  rcases h.tb.kinds q h5 with e|e
  ·revert e;decide
  ·revert e;decide
 ·rcases h.rows i q with e|e
  ·exact e
  ·omega
 ·rcases hr k hk with e|e
  ·exact h.rows k e
  ·exact .inr (Nat.le_trans hs e)
end
set_option maxRecDepth 10000 in
set_option maxHeartbeats 400000 in
theorem put1_any (B g:Nat) (l:List UInt8) (u:Int) (w:World) (h:Bu B g l w) (h0:0≤u) (h1:u≤18446744073709551615) (hl:l.length≤1000000) (hB:B≤w.heap.size) :
  Calls Tryz.prog 116 #[.int .u64 u,.pointer (some ⟨g,0,none⟩)] w fun e w'=>e=.returned (.tuple #[])∧Bu B g (l++put u.toNat) w'∧Below B w w'∧Kept g w w':=by
 have HP:Hid _:=put_any u w h0 h1
 obtain ⟨X,hX⟩:∃X:ByteArray,X=⟨(put u.toNat).toArray⟩:=⟨_,rfl⟩
 have dX:X.data.toList=put u.toNat:=by rw [hX]
 have zX:X.size≤10:=by
  have h1:X.size=X.data.toList.length:=by rw [Array.length_toList];rfl
  rw [h1,dX]
  exact (put_length _).2
 have HX:Hid _:=dX
 rw [← hX] at HP
 have HU:Hid (Bu B g l w):=h
 clear hX dX h
 go_enter Tryz.func116,Tryz.ntmps116
 go_wp2_with fail
 refine Calls.mono HP.out ?_
 rintro e w1 ⟨rfl,hb⟩
 have HU1:Hid (Bu B g l w1):=HU.out.below hb
 have hB1:B≤w1.heap.size:=Nat.le_trans hB hb.size
 have HB1:Hid (Below w.heap.size w w1):=hb
 have HK1:Hid (Kept g w w1):=fun k o hk _ _=>by
  have hlt:k<w.heap.size:=(Array.getElem?_eq_some_iff.1 hk).1
  rw [hb.block k hlt]
  exact hk
 clear HU hb
 go_wp2_with fail
 refine Calls.mono (wstr_any B g l X w1 HU1.out (by omega) hB1) ?_
 rintro e w2 ⟨rfl,hu,hb2,hk2⟩
 have HR:Hid (Bu B g (l++put u.toNat) w2∧Below B w w2∧Kept g w w2):=by
  refine ⟨by rw [← HX.out];exact hu,(HB1.out.mono hB).trans hb2,?_⟩
  intro k o hk h1 h2
  exact hk2 k o (HK1.out k o hk h1 h2) h1 h2
 clear hu hb2 hk2 HB1 HK1 HU1
 go_wp2_with fail
 go_end0
 exact ⟨rfl,HR.out⟩
set_option maxRecDepth 10000 in
set_option maxHeartbeats 400000 in
theorem bstr2_any (B g:Nat) (l:List UInt8) (w:World) (h:Bu B g l w) (h0:l≠[]) :
  Calls Tryz.prog 67 #[.pointer (some ⟨g,0,none⟩)] w fun e w'=>e=.returned (.string ⟨l.toArray⟩)∧Below B w w'∧Kept g w w':=by
 obtain ⟨p,hB,v,hbk,hown,hne⟩:∃p,Lib.BuilderAt 102 5 B g p (bV l) w:=by
  rcases h with h|h
  ·exact ⟨_,h⟩
  ·exact ⟨_,h⟩
 have hl0:l.length≠0:=by simpa using h0
 rw [bV_length] at hown
 obtain ⟨k,cap,cur,rfl,hbg,hg,hnc,hcm,hcs,htake⟩:∃k cap cur,v=.slice (some ⟨k,0,none⟩) l.length cap∧B≤k∧w.heap[k]? = some (.cells cur 5 (0,0))∧l.length≤cap∧cap≤maxLen∧cur.size=cap*1∧cur.toList.take (l.length*1)=bV l:=by
  rcases hown.2 with ⟨_,hz⟩|⟨k,cap,cur,hv,r⟩
  ·exact absurd hz hl0
  ·exact ⟨k,cap,cur,hv,r⟩
 have hg':w.drew.heap[k]? = some (.cells cur 5 (0,0)):=hg
 have hbk':w.drew.heap[g]? = some (.cells #[p,.slice (some ⟨k,0,none⟩) l.length cap] 102 (0,0)):=hbk
 have c1:w.drew.cell? ⟨g,1,none⟩=some (.slice (some ⟨k,0,none⟩) l.length cap):=by rw [Lib.cell_of_heap hbk'];rfl
 have hSD:(Builtin.unsafeSliceData_ #[90] 167 #[.slice (some ⟨k,0,none⟩) l.length cap]).run Tryz.prog w.drew=.ok (.pointer (some ⟨k,0,none⟩)) w.drew:=
  Lib.run_unsafeSliceData_row _ _ _ _ _ _ (by omega)
 have hUS:(Builtin.unsafeString_ #[167,3] 9 #[.pointer (some ⟨k,0,none⟩),.int .i64 l.length]).run Tryz.prog w.drew=.ok (.string ⟨l.toArray⟩) (w.drew.freeze ⟨k,0,none⟩ l.length):=by
  refine Lib.run_unsafeString_row w.drew 167 3 9 5 Tryz.underlying167 (by kernel_rfl) k cur.size (by simp [World.shape?,hg']) l h0 (by omega) (by unfold maxLen at hcm;omega) ?_
  intro j x hx
  have:=hown.cells (g:=k) rfl j (.int .u8 x.toNat) (by simp [bV,hx])
  exact this
 have hgK:∃c fz,w.drew.heap[k]? = some (.cells c 5 fz):=⟨cur,_,hg'⟩
 have HK:Hid (Kept g w (w.drew.freeze ⟨k,0,none⟩ l.length)):=((Lib.OthersKept.refl _ _ w).drew).freeze ⟨k,0,none⟩ _ hgK
 clear hgK hcs htake hnc hcm hg hbk hg' hbk' hown hne
 go_enter Tryz.func67,Tryz.ntmps67
 go_wp2
 go_region
 all_goals
  go_wp2
  go_ret
  exact ⟨rfl,Lib.below_freeze (Below.drew (Below.refl B w)) (p:=⟨k,0,none⟩) hbg _,HK.out⟩
end Go.Proofs.YtcgjgjjegnofeaaGreatDoor
namespace Go.Proofs.YtcgjgjjegnofeaaGreatDoor
open Go.RowKit
def PPut (N:Nd) (p:Int) (L:List ByteArray) (B g gm:Nat) (v:Value) (w w':World) (e:Ending):Prop:=
 ∃(S:ByteArray) (M:List ByteArray) (k:Int),e=.returned (.tuple #[.string S,.int .i64 k])∧PutIs N p L S M k∧TIn w w' B g gm v M
theorem pIntern_sum (L:List ByteArray) (s:ByteArray):sum6 (pIntern L s)≤sum6 L+s.size:=by
 unfold pIntern
 split
 ·omega
 ·rw [sum6_append];simp [sum6]
theorem pE_zero {N:Nd} {p:Int} (h:rE N p=0):(1≤N.kind∧N.kind<9)∧∀i,i<N.kids.length→0≤N.kids.getD i 0∧N.kids.getD i 0<p:=by
 unfold rE at h
 by_cases h1:tyN N=0
 ·rw [if_pos h1] at h
  by_cases h2:rOk N p=true
  ·refine ⟨?_,fun i hi=>?_⟩
   ·by_cases hk:N.kind<1∨9≤N.kind
    ·unfold tyN at h1
     rw [newSp_no N.kind hk,if_pos (show noSp.ok=false from rfl)] at h1
     exact absurd h1 (by decide)
    ·omega
   ·unfold rOk at h2
    rw [List.all_eq_true] at h2
    exact of_decide_eq_true (h2 i (by simpa using hi))
  ·rw [if_neg h2] at h
   exact absurd h (by decide)
 ·rw [if_neg h1] at h
  exact absurd h h1
theorem Bu.lower {B C g:Nat} {l:List UInt8} {w:World} (h:Bu B g l w) (hc:C≤B):Bu C g l w:=by
 have own:∀{v:Value} {n:Nat} {xs:List Value},w.ownsRow B 5 1 v n xs→w.ownsRow C 5 1 v n xs:=fun q=>by
  refine ⟨q.1,?_⟩
  rcases q.2 with hv|⟨gx,cap,cur,hv,hx,r⟩
  ·exact .inl hv
  ·exact .inr ⟨gx,cap,cur,hv,Nat.le_trans hc hx,r⟩
 rcases h with ⟨q1,q2,q3,q4,q5⟩|⟨q1,q2,q3,q4,q5⟩
 ·exact .inl ⟨Nat.le_trans hc q1,q2,q3,own q4,q5⟩
 ·exact .inr ⟨Nat.le_trans hc q1,q2,q3,own q4,q5⟩
set_option maxRecDepth 10000 in
set_option maxHeartbeats 2000000 in
theorem pput_any (N:Nd) (a1 a2 a3:Option Addr) (c1 c2 c3:Nat) (p:Int) (w:World) {B g gm:Nat} {v:Value} {L:List ByteArray} (ht:Tb w B g gm v L) (hl:L.length≤900000) (hm:sum6 L≤900000000) (hT:Tabs12 w) (h:∀W,Fr (TbS g gm v) w W→NdAt W N a1 a2 a3) (hf:fine N.ints) (h1:N.ints.length≤100) (h2:N.texts.length≤100) (h3:N.kids.length≤3000) (h4:∀s ∈ N.texts,s.size≤3000) (hp:p≤9223372036854775807) :
  Calls Tryz.prog 65 #[.agg #[.int .i64 N.kind,.slice a1 N.ints.length c1,.slice a2 N.texts.length c2,.slice a3 N.kids.length c3],.int .i64 p,.pointer (some ⟨g,0,none⟩)] w fun e w'=>PPut N p L B g gm v w w' e:=by
 have HN:Hid (∀W,Fr (TbS g gm v) w W→NdAt W N a1 a2 a3):=h
 have HF:Hid (fine N.ints):=hf
 have HTx:Hid (∀i,i<N.texts.length→(N.texts.getD i noT).size≤3000):=fun i hi=>by
  rw [List.getD_eq_getElem?_getD,List.getElem?_eq_getElem hi]
  exact h4 _ (List.getElem_mem hi)
 have HB0:Hid (Below w.heap.size w (w.alloc (.cells #[.int .i64 N.kind,.slice a1 N.ints.length c1,.slice a2 N.texts.length c2,.slice a3 N.kids.length c3] 62))):=(Below.refl w.heap.size w).alloc (Nat.le_refl _) _
 have HA0:Hid (AtN 62 (w.alloc (.cells #[.int .i64 N.kind,.slice a1 N.ints.length c1,.slice a2 N.texts.length c2,.slice a3 N.kids.length c3] 62)) w.heap.size #[.int .i64 N.kind,.slice a1 N.ints.length c1,.slice a2 N.texts.length c2,.slice a3 N.kids.length c3]):=AtN.new w 62 _
 have HC:Hid (∀W,Below w.heap.size w W→Calls Tryz.prog 115 #[.agg #[.int .i64 N.kind,.slice a1 N.ints.length c1,.slice a2 N.texts.length c2,.slice a3 N.kids.length c3],.int .i64 p] W fun e w'=>e=.returned (.int .i64 (rE N p))∧Below W.heap.size W w'):=
  fun W hb=>pcheck_any N a1 a2 a3 c1 c2 c3 p W (hT.on hb) (h W (Fr.of_below hb)) hf h1 h2 (by omega) h4
 have HE:Hid (∀(S:ByteArray) (M:List ByteArray) (k:Int),PutIs N p L S M k↔(k=rE N p∧(k≠0→S=⟨#[]⟩∧M=L)∧(k=0→S.data.toList=rB N p L∧M=itF L N.texts))):=fun _ _ _=>Iff.rfl
 have HK:Hid (rE N p=0→(1≤N.kind∧N.kind<9)∧∀i,i<N.kids.length→0≤N.kids.getD i 0∧N.kids.getD i 0<p):=pE_zero
 have HTb:Hid (Tb w B g gm v L):=ht
 have g1:g<w.heap.size:=ht.lt g (.inl rfl)
 have g2:gm<w.heap.size:=ht.lt gm (.inr (.inl rfl))
 clear h hf h4 hT ht
 generalize rE N p=ty at *
 go_enter Tryz.func65,Tryz.ntmps65
 have n0:=HA0.out.lt
 go_wp2_with fail
 refine Calls.mono (HC.out _ HB0.out) ?_
 rintro e w1 ⟨rfl,hb1⟩
 have HB1:Hid (Below w.heap.size w w1):=HB0.out.trans (hb1.mono HB0.out.size)
 have HA1:Hid (AtN 62 w1 w.heap.size #[.int .i64 N.kind,.slice a1 N.ints.length c1,.slice a2 N.texts.length c2,.slice a3 N.kids.length c3]):=HA0.out.belowAll hb1
 clear HC HA0 HB0 hb1 n0
 by_cases hty:ty=0
 ·subst hty
  obtain ⟨hk,HKr⟩:(1≤N.kind∧N.kind<9)∧Hid (∀i,i<N.kids.length→0≤N.kids.getD i 0∧N.kids.getD i 0<p):=HK.out rfl
  have s1:=HB1.out.size
  have s2:=HA1.out.lt
  have HP1:Hid (Pk w (w1.alloc (.cells #[.pointer none,.slice none 0 0] 102)) B g gm v w1.heap.size #[.int .i64 N.kind,.slice a1 N.ints.length c1,.slice a2 N.texts.length c2,.slice a3 N.kids.length c3] v L []):=
   ⟨HTb.out.below (HB1.out.alloc s1 _),(Bu.new w1).lower s1,HA1.out.alloc _,Fr.of_below (HB1.out.alloc s1 _),fun k hk=>.inl hk,g1,g2,s2⟩
  have y0:(w1.alloc (.cells #[.pointer none,.slice none 0 0] 102)).cell? ⟨w.heap.size,0,none⟩=some (.int .i64 N.kind):=HP1.out.nd.cell 0
  have HU0:Hid (Bu w.heap.size w1.heap.size [] (w1.alloc (.cells #[.pointer none,.slice none 0 0] 102))):=HP1.out.bu
  have s3:w.heap.size≤(w1.alloc (.cells #[.pointer none,.slice none 0 0] 102)).heap.size:=HP1.out.size
  have hmf:∀(fn:Fn) (first cap:Array Value) (w:World),(Instr.makeFunc fn first cap).run Tryz.prog w=.ok (.func fn first cap) w:=fun _ _ _ _=>rfl
  clear HK HA1
  go_wp2_with (go_at_call 116;refine (put1_any w.heap.size w1.heap.size [] N.kind _ HU0.out (by omega) (by omega) (by simp) s3).mono ?_;rintro e w2 ⟨rfl,hu2,hb2,hk2⟩;have HP2:Hid (Pk w w2 B g gm v w1.heap.size #[.int .i64 N.kind,.slice a1 N.ints.length c1,.slice a2 N.texts.length c2,.slice a3 N.kids.length c3] v L (put N.kind.toNat)):=HP1.out.wrote hb2 hk2 hu2;have y1:w2.cell? ⟨w.heap.size,1,none⟩=some (.slice a1 N.ints.length c1):=HP2.out.nd.cell 1)
  have hp0:(put N.kind.toNat).length≤10:=(put_length _).2
  clear HP1 y0 HU0 s3 hu2 hb2 hk2 hmf HB1 HTb
  generalize hL0:put N.kind.toNat=l0 at *
  have HL0:Hid (put N.kind.toNat=l0):=hL0
  clear hL0
  generalize w1.heap.size=gb at *
  go_loopw [32] (fun iv wr=>∃(i:Nat) (l:List UInt8),iv=.int .i64 i∧i≤N.ints.length∧l.length≤10+10*i∧Hid (l=l0++rI (N.ints.take i))∧Hid (Pk w wr B g gm v gb #[.int .i64 N.kind,.slice a1 N.ints.length c1,.slice a2 N.texts.length c2,.slice a3 N.kids.length c3] v L l)) (fun iv _=>N.ints.length-(intOf iv).toNat)
  case atStart=>exact ⟨0,l0,rfl,by omega,by omega,by simp [Hid,rI],HP2⟩
  case round=>
   clear HP2 y1
   obtain ⟨i,l,rfl,hi,hl1,HL,HP⟩:=hrel
   have sr:=HP.out.size
   by_cases hlt:i<N.ints.length
   ·have hlt':(i:Int)<N.ints.length:=by omega
    obtain ⟨b3,o3,rfl,hb3,d3⟩:=(HN.out wr HP.out.fr).i.at (iV_at N.ints i hlt)
    have hz:=HF.out i hlt
    have HLn:Hid (l++put (zig (N.ints.getD i 0)).toNat=l0++rI (N.ints.take (i+1))):=by
     show _=_
     unfold rI at HL ⊢
     rw [flat_take _ N.ints 0 i hlt,HL.out,List.append_assoc]
    clear HL
    generalize N.ints.getD i 0=z at *
    have HZ:Hid _:=fun W=>zig_any z W hz.1 hz.2
    have hzz:=zig_range z hz.1 hz.2
    have hput:=(put_length (zig z).toNat).2
    have hlen:(l++put (zig z).toNat).length≤10+10*(i+1):=by rw [List.length_append];omega
    generalize zig z=zz at *
    have HU:Hid (Bu w.heap.size gb l wr):=HP.out.bu
    clear hz
    go_wp2_with fail
    refine Calls.mono (HZ.out _) ?_
    rintro e w4 ⟨rfl,rfl⟩
    clear HZ
    go_wp2_with (go_at_call 116;refine (put1_any w.heap.size gb l zz _ HU.out (by omega) (by omega) (by omega) sr).mono ?_;rintro e w5 ⟨rfl,hu2,hb2,hk2⟩;have HP5:Hid _:=HP.out.wrote hb2 hk2 hu2)
    go_roundw
    case rel=>exact ⟨i+1,l++put zz.toNat,by go_num,by omega,hlen,HLn,HP5⟩
    case measure=>simp [intOf];omega
   ·have hlt':¬(i:Int)<N.ints.length:=by omega
    have HLe:Hid (l=l0++rI N.ints):=by
     have:=HL.out
     rw [List.take_of_length_le (by omega)] at this
     exact this
    clear HL
    have z1:l.length≤1010:=by omega
    have y2:wr.cell? ⟨w.heap.size,2,none⟩=some (.slice a2 N.texts.length c2):=HP.out.nd.cell 2
    have n2:=HP.out.nd.lt
    clear hl1
    generalize hl0:l=l1 at *
    go_wp2_with fail
    go_loopw [44] (fun iv wr=>∃(i:Nat) (l:List UInt8) (M:List ByteArray) (v':Value),iv=.int .i64 i∧i≤N.texts.length∧l.length≤1010+10*i∧M.length≤900000+i∧sum6 M≤900000000+3000*i∧Hid (M=itF L (N.texts.take i))∧Hid (l=l1++rT (itF L N.texts) (N.texts.take i))∧Hid (Pk w wr B g gm v gb #[.int .i64 N.kind,.slice a1 N.ints.length c1,.slice a2 N.texts.length c2,.slice a3 N.kids.length c3] v' M l)) (fun iv _=>N.texts.length-(intOf iv).toNat)
    case atStart=>exact ⟨0,l1,L,v,rfl,by omega,by omega,by omega,by omega,by simp [Hid,itF],by simp [Hid,rT],by subst hl0;exact HP⟩
    case round=>
     clear HP y2 n2 sr
     obtain ⟨i,l,M,v',rfl,hi,hl1,hM,hS,HMi,HL,HP⟩:=hrel
     have sr:=HP.out.size
     by_cases hlt:i<N.texts.length
     ·have hlt':(i:Int)<N.texts.length:=by omega
      obtain ⟨b3,o3,rfl,hb3,d3⟩:=(HN.out wr HP.out.fr).t.at (tV_at N.texts i hlt)
      have hsz:=HTx.out i hlt
      have HI:Hid (Calls Tryz.prog 118 #[.pointer (some ⟨g,0,none⟩),.string (N.texts.getD i noT)] wr fun e w'=>e=.returned (.int .i64 (idx6 (N.texts.getD i noT) M:Nat))∧TIn wr w' B g gm v' (pIntern M (N.texts.getD i noT))):=
       tintern_any HP.out.tb (N.texts.getD i noT) (by omega) (by omega) (by omega)
      have HMn:Hid (pIntern M (N.texts.getD i noT)=itF L (N.texts.take (i+1))):=by
       show _=_
       rw [show N.texts.take (i+1)=N.texts.take i++[N.texts.getD i noT] by rw [List.take_add_one,List.getElem?_eq_getElem hlt,List.getD_eq_getElem?_getD,List.getElem?_eq_getElem hlt];rfl,itF_snoc,← HMi.out]
      have hMn:(pIntern M (N.texts.getD i noT)).length≤900000+(i+1):=by
       have:=pIntern_le M (N.texts.getD i noT)
       omega
      have hSn:sum6 (pIntern M (N.texts.getD i noT))≤900000000+3000*(i+1):=by
       have:=pIntern_sum M (N.texts.getD i noT)
       omega
      have hix:idx6 (N.texts.getD i noT) M≤2000000:=by
       have:=idx6_le (N.texts.getD i noT) M
       omega
      have HLn:Hid (l++put (idx6 (N.texts.getD i noT) M)=l1++rT (itF L N.texts) (N.texts.take (i+1))):=by
       show _=_
       unfold rT at HL ⊢
       rw [flat_take _ N.texts noT i hlt,HL.out,List.append_assoc,← itF_num L N.texts i hlt,← HMi.out]
      have hput:=(put_length (idx6 (N.texts.getD i noT) M)).2
      have hlen:(l++put (idx6 (N.texts.getD i noT) M)).length≤1010+10*(i+1):=by rw [List.length_append];omega
      clear HL HMi
      generalize idx6 (N.texts.getD i noT) M=ix at *
      generalize pIntern M (N.texts.getD i noT)=M2 at *
      generalize N.texts.getD i noT=s at *
      go_wp2_with fail
      refine Calls.mono HI.out ?_
      rintro e w4 ⟨rfl,hT4⟩
      obtain ⟨v2,HP4⟩:∃v2,Hid (Pk w w4 B g gm v gb #[.int .i64 N.kind,.slice a1 N.ints.length c1,.slice (some ⟨b3,o3,none⟩) N.texts.length c2,.slice a3 N.kids.length c3] v2 M2 l):=HP.out.interned hT4
      have sr4:=HP4.out.size
      have HU:Hid (Bu w.heap.size gb l w4):=HP4.out.bu
      clear HI hT4 HP d3 hb3
      go_wp2_with (go_at_call 116;refine (put1_any w.heap.size gb l (ix:Nat) _ HU.out (by omega) (by omega) (by omega) sr4).mono ?_;rintro e w5 ⟨rfl,hu2,hb2,hk2⟩;have HP5:Hid _:=HP4.out.wrote hb2 hk2 hu2)
      go_roundw
      case rel=>exact ⟨i+1,l++put ix,M2,v2,by go_num,by omega,hlen,hMn,hSn,HMn,HLn,by simpa using HP5⟩
      case measure=>simp [intOf];omega
     ·have hlt':¬(i:Int)<N.texts.length:=by omega
      have HLe2:Hid (l=l1++rT (itF L N.texts) N.texts):=by
       have:=HL.out
       rw [List.take_of_length_le (show N.texts.length≤i by omega)] at this
       exact this
      have HMe:Hid (M=itF L N.texts):=by
       have:=HMi.out
       rw [List.take_of_length_le (by omega)] at this
       exact this
      clear HL HMi
      have z2:l.length≤2010:=by omega
      have y3:wr.cell? ⟨w.heap.size,3,none⟩=some (.slice a3 N.kids.length c3):=HP.out.nd.cell 3
      have n2:=HP.out.nd.lt
      have HU:Hid (Bu w.heap.size gb l wr):=HP.out.bu
      clear hl1
      go_wp2_with (go_at_call 116;refine (put1_any w.heap.size gb l (N.kids.length:Nat) _ HU.out (by omega) (by omega) (by omega) sr).mono ?_;rintro e w6 ⟨rfl,hu2,hb2,hk2⟩;have HP6:Hid _:=HP.out.wrote hb2 hk2 hu2;have y6:w6.cell? ⟨w.heap.size,3,none⟩=some (.slice a3 N.kids.length c3):=HP6.out.nd.cell 3;have n6:=HP6.out.nd.lt)
      rw [Int.toNat_natCast] at HP6
      have hput:=(put_length N.kids.length).2
      have z3:(l++put N.kids.length).length≤2020:=by rw [List.length_append];omega
      have HLe3:Hid (l++put N.kids.length=l1++rT (itF L N.texts) N.texts++put N.kids.length):=by show _=_;rw [HLe2.out]
      clear HP y3 n2 HU hu2 hb2 hk2 HLe2
      generalize l++put N.kids.length=l2 at *
      go_loopw [64] (fun iv wr=>∃(i:Nat) (l:List UInt8),iv=.int .i64 i∧i≤N.kids.length∧l.length≤2020+10*i∧Hid (l=l2++rK p (N.kids.take i))∧Hid (Pk w wr B g gm v gb #[.int .i64 N.kind,.slice a1 N.ints.length c1,.slice a2 N.texts.length c2,.slice a3 N.kids.length c3] v' M l)) (fun iv _=>N.kids.length-(intOf iv).toNat)
      case atStart=>exact ⟨0,l2,rfl,by omega,by omega,by simp [Hid,rK],HP6⟩
      case round=>
       clear HP6 y6 n6 sr
       obtain ⟨i,l,rfl,hi,hl1,HL,HP⟩:=hrel
       have sr:=HP.out.size
       by_cases hlt:i<N.kids.length
       ·have hlt':(i:Int)<N.kids.length:=by omega
        obtain ⟨b3,o3,rfl,hb3,d3⟩:=(HN.out wr HP.out.fr).k.at (iV_at N.kids i hlt)
        have hz:=HKr.out i hlt
        have HLn:Hid (l++put (p-N.kids.getD i 0).toNat=l2++rK p (N.kids.take (i+1))):=by
         show _=_
         unfold rK at HL ⊢
         rw [flat_take _ N.kids 0 i hlt,HL.out,List.append_assoc]
        clear HL
        generalize N.kids.getD i 0=z at *
        have hput:=(put_length (p-z).toNat).2
        have hlen:(l++put (p-z).toNat).length≤2020+10*(i+1):=by rw [List.length_append];omega
        have HU:Hid (Bu w.heap.size gb l wr):=HP.out.bu
        go_wp2_with (go_at_call 116;refine (put1_any w.heap.size gb l (p-z) _ HU.out (by omega) (by omega) (by omega) sr).mono ?_;rintro e w7 ⟨rfl,hu2,hb2,hk2⟩;have HP7:Hid _:=HP.out.wrote hb2 hk2 hu2)
        go_roundw
        case rel=>exact ⟨i+1,l++put (p-z).toNat,by go_num,by omega,hlen,HLn,HP7⟩
        case measure=>simp [intOf];omega
       ·have hlt':¬(i:Int)<N.kids.length:=by omega
        have HLf:Hid (l=l2++rK p N.kids):=by
         have:=HL.out
         rw [List.take_of_length_le (by omega)] at this
         exact this
        have hl9:l≠[]:=by
         intro q
         have e1:=HLf.out
         rw [HLe3.out] at e1
         have:=congrArg List.length e1
         rw [q] at this
         have h7:=(put_length N.kids.length).1
         simp at this
         omega
        clear HL
        go_wp2_with fail
        refine Calls.mono (bstr2_any w.heap.size gb l wr HP.out.bu hl9) ?_
        rintro e w8 ⟨rfl,hb8,hk8⟩
        have HD:Hid _:=HP.out.done hb8 hk8
        have HPI:Hid (PutIs N p L ⟨l.toArray⟩ M 0):=(HE.out _ _ _).2 ⟨rfl,fun q=>absurd rfl q,fun _=>⟨by show l.toArray.toList=_;rw [List.toList_toArray,HLf.out,HLe3.out,HLe.out,← HL0.out];simp [rB],HMe.out⟩⟩
        clear hb8 hk8
        go_wp2_with fail
        go_ret2
        exact ⟨_,_,_,rfl,HPI.out,HD.out⟩
 ·have HP:Hid (PutIs N p L ⟨#[]⟩ L ty):=(HE.out _ _ _).2 ⟨rfl,fun _=>⟨rfl,rfl⟩,fun q=>absurd q hty⟩
  have HD:Hid (TIn w w1 B g gm v L):=⟨v,HTb.out.below HB1.out,Fr.of_below HB1.out,fun k hk=>.inl hk⟩
  clear HK HE
  go_wp2_with fail
  go_ret2
  exact ⟨_,_,_,rfl,HP.out,HD.out⟩
end Go.Proofs.YtcgjgjjegnofeaaGreatDoor
namespace Go.Proofs.YtcgjgjjegnofeaaGreatDoor
open Go.RowKit
def ChIs (X:List Nx) (r k:Int):Prop:=
 (tyE X≠0∧k=tyE X)∨(tyE X=0∧∃n y,CheckIs X r n y∧((n≠0∧k=n)∨(n=0∧((¬IsCan X r∧k=16)∨(IsCan X r∧k=0)))))
theorem ChIs.bad {X:List Nx} {r k:Int} (h:ChIs X r k) (hk:k≠0):PuIs X r ⟨#[]⟩ ⟨#[]⟩ k:=by
 rcases h with ⟨h1,h2⟩|⟨h1,n,y,h2,⟨h3,h4⟩|⟨h3,⟨h4,h5⟩|⟨h4,h5⟩⟩⟩
 ·exact .inl ⟨h1,h2,rfl,rfl⟩
 ·exact .inr ⟨h1,n,y,h2,.inl ⟨h3,h4,rfl,rfl⟩⟩
 ·exact .inr ⟨h1,n,y,h2,.inr ⟨h3,.inl ⟨h4,h5,rfl,rfl⟩⟩⟩
 ·exact absurd h5 hk
theorem ChIs.good {X:List Nx} {r:Int} (h:ChIs X r 0):tyE X=0∧IsCan X r∧∀A C:ByteArray,A.data.toList=pPut6 (rTab (X.map Nx.nd) [])→C.data.toList=put X.length++rAllN 0 (X.map Nx.nd) []→PuIs X r A C 0:=by
 rcases h with ⟨h1,h2⟩|⟨h1,n,y,h2,⟨h3,h4⟩|⟨h3,⟨h4,h5⟩|⟨h4,h5⟩⟩⟩
 ·exact absurd h2.symm h1
 ·exact absurd h4.symm h3
 ·cases h5
 ·exact ⟨h1,h4,fun A C hA hC=>.inr ⟨h1,n,y,h2,.inr ⟨h3,.inr ⟨h4,rfl,hA,hC⟩⟩⟩⟩
set_option maxRecDepth 10000 in
set_option maxHeartbeats 1000000 in
theorem pchk_any (X:List Nx) (a:Option Addr) (c:Nat) (r:Int) (w:World) (h:ScAt w a X) (hX:Small X) (hF:FnX X) (hT:Tabs12 w) :
  Calls Tryz.prog 61 #[.agg #[.slice a X.length c,.int .i64 r]] w fun e w'=>∃k,e=.returned (.int .i64 k)∧ChIs X r k∧Below w.heap.size w w':=by
 have HA0:Hid (AtN 24 (w.alloc (.cells #[.slice a X.length c,.int .i64 r] 24)) w.heap.size #[.slice a X.length c,.int .i64 r]):=AtN.new w 24 _
 have HB0:Hid (Below w.heap.size w (w.alloc (.cells #[.slice a X.length c,.int .i64 r] 24))):=(Below.refl _ _).alloc (Nat.le_refl _) _
 have HTy:Hid (∀W,Below w.heap.size w W→Calls Tryz.prog 45 #[.agg #[.slice a X.length c,.int .i64 r]] W fun e w'=>e=.returned (.tuple #[.int .i64 (tyE X),.int .i64 (tyZ X)])∧Below W.heap.size W w'):=fun W hW=>typed_any X a c r W (h.belowB hW) hX hF (hT.on hW)
 have HCk:Hid (∀W,Below w.heap.size w W→Calls Tryz.prog 46 #[.agg #[.slice a X.length c,.int .i64 r]] W fun e w'=>CheckOut X r W w' e):=fun W hW=>check_any X a c r W (h.belowB hW) hX
 have HIs:Hid (∀W,Below w.heap.size w W→Calls Tryz.prog 113 #[.agg #[.slice a X.length c,.int .i64 r]] W fun e w'=>IsOut X r W w' e):=fun W hW=>is_any X a c r W (h.belowB hW) hX
 have HV:Hid (∀k,ChIs X r k↔((tyE X≠0∧k=tyE X)∨(tyE X=0∧∃n y,CheckIs X r n y∧((n≠0∧k=n)∨(n=0∧((¬IsCan X r∧k=16)∨(IsCan X r∧k=0))))))):=fun _=>Iff.rfl
 obtain ⟨te,hte⟩:∃te,tyE X=te:=⟨_,rfl⟩
 rw [hte] at HTy HV
 generalize tyZ X=tz at *
 clear h hX hF hT hte
 go_enter Tryz.func61,Tryz.ntmps61
 go_wp2_with fail
 refine Calls.mono (HTy.out _ HB0.out) ?_
 rintro e w1 ⟨rfl,hb1⟩
 have HA1:Hid (AtN 24 w1 w.heap.size #[.slice a X.length c,.int .i64 r]):=AtN.belowAll HA0.out hb1
 have HB1:Hid (Below w.heap.size w w1):=HB0.out.trans (hb1.mono HB0.out.size)
 clear HA0 HB0 HTy hb1
 by_cases ht:te=0
 ·have HV0:Hid (∀k,(∃n y,CheckIs X r n y∧((n≠0∧k=n)∨(n=0∧((¬IsCan X r∧k=16)∨(IsCan X r∧k=0)))))→ChIs X r k):=fun k q=>(HV.out k).2 (.inr ⟨ht,q⟩)
  clear HV
  subst ht
  have x0:w1.cell? ⟨w.heap.size,0,none⟩=some (.slice a X.length c):=HA1.out.cell 0
  have x1:w1.cell? ⟨w.heap.size,1,none⟩=some (.int .i64 r):=HA1.out.cell 1
  go_wp2_with fail
  refine Calls.mono (HCk.out _ HB1.out) ?_
  rintro e w2 ⟨n,z,rfl,hck,hb2⟩
  have HA2:Hid (AtN 24 w2 w.heap.size #[.slice a X.length c,.int .i64 r]):=AtN.belowAll HA1.out hb2
  have HB2:Hid (Below w.heap.size w w2):=HB1.out.trans (hb2.mono HB1.out.size)
  have HCi:Hid (CheckIs X r n z):=hck
  clear HA1 HB1 HCk hb2 hck x0 x1
  by_cases hn0:n=0
  ·subst hn0
   have x0:w2.cell? ⟨w.heap.size,0,none⟩=some (.slice a X.length c):=HA2.out.cell 0
   have x1:w2.cell? ⟨w.heap.size,1,none⟩=some (.int .i64 r):=HA2.out.cell 1
   go_wp2_with fail
   refine Calls.mono (HIs.out _ HB2.out) ?_
   rintro e w3 ⟨bc,rfl,hbc,hb3⟩
   have HB3:Hid (Below w.heap.size w w3):=HB2.out.trans (hb3.mono HB2.out.size)
   clear HA2 HB2 HIs hb3 x0 x1
   cases bc with
   | false=>
    have HP:Hid (ChIs X r 16):=HV0.out _ ⟨0,z,HCi.out,.inr ⟨rfl,.inl ⟨fun q=>by simpa using hbc.2 q,rfl⟩⟩⟩
    clear HV0 HCi hbc
    go_wp2_with fail
    go_ret
    exact ⟨_,rfl,HP.out,HB3.out⟩
   | true=>
    have HP:Hid (ChIs X r 0):=HV0.out _ ⟨0,z,HCi.out,.inr ⟨rfl,.inr ⟨hbc.1 rfl,rfl⟩⟩⟩
    clear HV0 HCi hbc
    go_wp2_with fail
    go_ret
    exact ⟨_,rfl,HP.out,HB3.out⟩
  ·have hn0':(n != 0)=true:=by simpa using hn0
   have HP:Hid (ChIs X r n):=HV0.out _ ⟨n,z,HCi.out,.inl ⟨hn0,rfl⟩⟩
   clear HV0 HCi
   go_wp2_with fail
   go_ret
   exact ⟨_,rfl,HP.out,HB2.out⟩
 ·have ht':(te != 0)=true:=by simpa using ht
  have HP:Hid (ChIs X r te):=(HV.out _).2 (.inl ⟨ht,rfl⟩)
  clear HV
  go_wp2_with fail
  go_ret
  exact ⟨_,rfl,HP.out,HB1.out⟩
structure Pq (w wr:World) (cS:Array Value) (g gm:Nat) (v:Value) (gb:Nat) (M:List ByteArray) (l:List UInt8):Prop where
 tb:Tb wr w.heap.size g gm v M
 bu:Bu w.heap.size gb l wr
 sc:AtN 24 wr w.heap.size cS
 bel:Below w.heap.size w wr
 hb:w.heap.size<gb
section
variable {w wr w':World} {cS:Array Value} {g gm gb:Nat} {v:Value} {M M':List ByteArray} {l l':List UInt8}
theorem Pq.more (h:Pq w wr cS g gm v gb M l) (hb:Below wr.heap.size wr w'):Pq w w' cS g gm v gb M l:=
 ⟨h.tb.below hb,h.bu.below hb,h.sc.belowAll hb,h.bel.trans (hb.mono h.bel.size),h.hb⟩
theorem Pq.row {k:Nat} (h:Pq w wr cS g gm v gb M l) (hk:TbS g gm v k) {c:Array Value} {T:TypeId} {fz:Nat × Nat} (hc:wr.heap[k]? = some (.cells c T fz)) (h1:T≠161) (h2:T≠9):False:=by
 rcases h.tb.kinds hk hc with e|e
 ·exact h1 e
 ·exact h2 e
theorem Pq.wrote (h:Pq w wr cS g gm v gb M l) (hb:Below w.heap.size wr w') (hk:Kept gb wr w') (hu:Bu w.heap.size gb l' w'):Pq w w' cS g gm v gb M l':=by
 have F:=Fr.of_kept hb hk
 have h3:=h.hb
 obtain ⟨p,vb,hgb⟩:=h.bu.two
 refine ⟨h.tb.fr F (fun i hi q=>?_),hu,h.sc.fr F (fun q=>?_),h.bel.trans hb,h3⟩
 ·rcases q.2 with rfl|⟨c,fz,e⟩
  ·exact h.row hi hgb (by decide) (by decide)
  ·exact h.row hi e (by decide) (by decide)
 ·rcases q.2 with q2|⟨c,fz,e⟩
  ·omega
  ·have h5:wr.heap[w.heap.size]? = _:=h.sc
   rw [e] at h5
   injection h5 with h5
   injection h5 with _ h5
   revert h5;decide
theorem Pq.interned (h:Pq w wr cS g gm v gb M l) (hi:TIn wr w' w.heap.size g gm v M'):∃v2,Pq w w' cS g gm v2 gb M' l:=by
 obtain ⟨v2,ht,hf,hr⟩:=hi
 have h3:=h.hb
 obtain ⟨p,vb,hgb⟩:=h.bu.two
 refine ⟨v2,ht,h.bu.fr hf (fun q=>?_) (fun k c fz q e=>?_),h.sc.fr hf (fun q=>?_),Fr.below h.bel hf (fun i hi=>h.tb.ge i hi) h.bel.size,h3⟩
 ·exact h.row q hgb (by decide) (by decide)
 ·exact h.row q e (by decide) (by decide)
 ·exact h.row q h.sc (by decide) (by decide)
end
set_option maxRecDepth 10000 in
set_option maxHeartbeats 2000000 in
theorem pnput_any (X:List Nx) (a:Option Addr) (c:Nat) (r:Int) (w:World) (h:ScAt w a X) (hX:Small X) (hF:FnX X) (hT:Tabs12 w) :
  Calls Tryz.prog 32 #[.agg #[.slice a X.length c,.int .i64 r]] w fun e w'=>PuOut X r w w' e:=by
 have HS:Hid (ScAt w a X∧Small X):=⟨h,hX⟩
 have HFn:Hid (FnX X):=hF
 have HTb:Hid (Tabs12 w):=hT
 have hn:=hX.1
 have HA0:Hid (AtN 24 (w.alloc (.cells #[.slice a X.length c,.int .i64 r] 24)) w.heap.size #[.slice a X.length c,.int .i64 r]):=AtN.new w 24 _
 have HB0:Hid (Below w.heap.size w (w.alloc (.cells #[.slice a X.length c,.int .i64 r] 24))):=(Below.refl _ _).alloc (Nat.le_refl _) _
 have HCk:Hid (∀W,Below w.heap.size w W→Calls Tryz.prog 61 #[.agg #[.slice a X.length c,.int .i64 r]] W fun e w'=>∃k,e=.returned (.int .i64 k)∧ChIs X r k∧Below W.heap.size W w'):=fun W hW=>pchk_any X a c r W (h.belowB hW) hX hF (hT.on hW)
 clear h hX hF hT
 go_enter Tryz.func32,Tryz.ntmps32
 go_wp2_with fail
 refine Calls.mono (HCk.out _ HB0.out) ?_
 rintro e w1 ⟨k,rfl,hch,hb1⟩
 have HA1:Hid (AtN 24 w1 w.heap.size #[.slice a X.length c,.int .i64 r]):=AtN.belowAll HA0.out hb1
 have HB1:Hid (Below w.heap.size w w1):=HB0.out.trans (hb1.mono HB0.out.size)
 clear HA0 HB0 HCk hb1
 by_cases hk:k=0
 ·subst hk
  obtain ⟨hty,hcan,hgood⟩:=hch.good
  have HP0:Hid _:=hgood
  have HRe:Hid (∀i,i<X.length→rE (X.getD i noNx).nd i=0):=fun i hi=>can_rE hcan hty hi
  have HTe:Hid (∀i,i<X.length→(X.getD i noNx).nd.texts.length≤2):=fun i hi=>tyN_texts (tyE_all hty i hi)
  have hs1:=HB1.out.size
  have hlt1:=HA1.out.lt
  clear hch hty hcan hgood
  go_wp2_with fail
  refine Calls.mono (tnew_any w1) ?_
  rintro e w2 ⟨rfl,ht2,hb2⟩
  have hs2:=hb2.size
  have HP2:Hid (Pq w (w2.alloc (.cells #[.pointer none,.slice none 0 0] 102)) #[.slice a X.length c,.int .i64 r] (w1.heap.size+1) w1.heap.size (.slice none 0 0) w2.heap.size [] []):=by
   have hb3:Below w2.heap.size w2 (w2.alloc (.cells #[.pointer none,.slice none 0 0] 102)):=(Below.refl _ _).alloc (Nat.le_refl _) _
   have hB2:Below w.heap.size w w2:=HB1.out.trans (hb2.mono hs1)
   exact ⟨(ht2.mono hs1).below hb3,(Bu.new w2).lower (by omega),(HA1.out.belowAll hb2).belowAll hb3,hB2.trans (hb3.mono hB2.size),by omega⟩
  have x0:(w2.alloc (.cells #[.pointer none,.slice none 0 0] 102)).cell? ⟨w.heap.size,0,none⟩=some (.slice a X.length c):=HP2.out.sc.cell 0
  have hlt2:=HP2.out.sc.lt
  have HPn:Hid _:=put_nat X.length (w2.alloc (.cells #[.pointer none,.slice none 0 0] 102)) (by omega)
  clear ht2 hb2 HA1 HB1
  go_wp2_with fail
  obtain ⟨T0,hT0,zT0,hcall⟩:=HPn.out
  refine Calls.mono hcall ?_
  rintro e w3 ⟨rfl,hb3⟩
  have HP3:Hid _:=HP2.out.more hb3
  have HD0:Hid (T0.data.toList=put X.length):=hT0
  have s3:w.heap.size≤w3.heap.size:=HP3.out.bel.size
  clear HP2 HPn hcall hb3 hT0 x0 hlt2
  generalize w2.heap.size=gb at *
  generalize w1.heap.size=gm at *
  go_wp2_with fail
  refine Calls.mono (wstr_any w.heap.size gb [] T0 w3 HP3.out.bu (by simp;omega) s3) ?_
  rintro e w4 ⟨rfl,hu4,hb4,hk4⟩
  have HP4:Hid (Pq w w4 #[.slice a X.length c,.int .i64 r] (gm+1) gm (.slice none 0 0) gb [] ([]++T0.data.toList)):=HP3.out.wrote hb4 hk4 hu4
  rw [HD0.out,List.nil_append] at HP4
  have hl0:(put X.length).length≤10:=(put_length X.length).2
  clear HP3 hu4 hb4 hk4 s3
  have x0:w4.cell? ⟨w.heap.size,0,none⟩=some (.slice a X.length c):=HP4.out.sc.cell 0
  go_wp2_with fail
  go_loopw [27] (fun iv wr=>∃(i:Nat) (l:List UInt8) (M:List ByteArray) (v:Value),iv=.int .i64 i∧i≤X.length∧l.length≤10+32020*i∧M.length≤2*i∧sum6 M≤6000*i∧Hid (l=put X.length++rAllN 0 ((X.take i).map Nx.nd) [])∧Hid (M=rTab ((X.take i).map Nx.nd) [])∧Hid (Pq w wr #[.slice a X.length c,.int .i64 r] (gm+1) gm v gb M l)) (fun iv _=>X.length-(intOf iv).toNat)
  case atStart=>exact ⟨0,put X.length,[],_,rfl,by omega,by omega,by simp,by simp [sum6],by simp [Hid,rAllN],rfl,HP4⟩
  case round=>
   clear HP4 x0
   obtain ⟨i,l,M,v,rfl,hi,hll,hMl,hMs,HL,HM,HP⟩:=hrel
   have sr:=HP.out.bel.size
   by_cases hlt:i<X.length
   ·have hlt':(i:Int)<X.length:=by omega
    obtain ⟨bb,ob,rfl,hbb,z0,z1,z2,z3⟩:=(HS.out.1.belowB HP.out.bel).node hlt
    have HEa:Hid (∀W,Below w.heap.size w W→NdAt W (X.getD i noNx).nd (X.getD i noNx).a1 (X.getD i noNx).a2 (X.getD i noNx).a3):=fun W hW=>(HS.out.1.belowB hW).each i hlt
    have hbig:=HS.out.2.2 i hlt
    have hfi:=HFn.out i hlt
    have hr0:=HRe.out i hlt
    have ht2:=HTe.out i hlt
    have htk:(X.take (i+1)).map Nx.nd=(X.take i).map Nx.nd++[(X.getD i noNx).nd]:=by
     rw [List.take_add_one,List.getElem?_eq_getElem hlt,List.map_append]
     simp [hlt]
    have hlen:((X.take i).map Nx.nd).length=i:=by simp;omega
    generalize X.getD i noNx=x at *
    obtain ⟨W9,hW9⟩:∃W9,wr.alloc (.cells #[.int .i64 x.nd.kind,.slice x.a1 x.nd.ints.length x.c1,.slice x.a2 x.nd.texts.length x.c2,.slice x.a3 x.nd.kids.length x.c3] 62)=W9:=⟨_,rfl⟩
    have hb9:Below wr.heap.size wr W9:=by rw [← hW9];exact (Below.refl _ _).alloc (Nat.le_refl _) _
    have hA9:AtN 62 W9 wr.heap.size #[.int .i64 x.nd.kind,.slice x.a1 x.nd.ints.length x.c1,.slice x.a2 x.nd.texts.length x.c2,.slice x.a3 x.nd.kids.length x.c3]:=by rw [← hW9];exact AtN.new wr 62 _
    have HP9:Hid (Pq w W9 #[.slice (some ⟨bb,ob,none⟩) X.length c,.int .i64 r] (gm+1) gm v gb M l):=HP.out.more hb9
    obtain ⟨g0,g1,g2,g3⟩:=big_no hbig
    have HPc:Hid _:=pput_any x.nd x.a1 x.a2 x.a3 x.c1 x.c2 x.c3 (i:Int) W9 HP9.out.tb (by omega) (by omega) (HTb.out.on HP9.out.bel) (fun W k=>HEa.out W (Fr.below HP9.out.bel k (fun q hq=>HP9.out.tb.ge q hq) HP9.out.bel.size)) hfi (by omega) (by omega) (by omega) g3 (by omega)
    have n0:W9.cell? ⟨wr.heap.size,0,none⟩=some (.int .i64 x.nd.kind):=hA9.cell 0
    have n1:W9.cell? ⟨wr.heap.size,1,none⟩=some (.slice x.a1 x.nd.ints.length x.c1):=hA9.cell 1
    have n2:W9.cell? ⟨wr.heap.size,2,none⟩=some (.slice x.a2 x.nd.texts.length x.c2):=hA9.cell 2
    have n3:W9.cell? ⟨wr.heap.size,3,none⟩=some (.slice x.a3 x.nd.kids.length x.c3):=hA9.cell 3
    clear hA9 HP HEa hb9 hfi
    go_wp2_with fail
    clear hW9
    refine Calls.mono HPc.out ?_
    rintro e w5 ⟨Sx,M5,k5,rfl,hP5,hI5⟩
    obtain ⟨v5,hp5⟩:=HP9.out.interned hI5
    obtain ⟨hk5,-,hz5⟩:=hP5
    obtain ⟨hS5,hM5⟩:=hz5 (hk5.trans hr0)
    have HP5:Hid (Pq w w5 #[.slice (some ⟨bb,ob,none⟩) X.length c,.int .i64 r] (gm+1) gm v5 gb M5 l):=hp5
    have hSz:Sx.size≤32020:=by
     have h1:=rB_size x.nd (i:Int) M hbig
     rw [← hS5] at h1
     have h2:Sx.size=Sx.data.toList.length:=by rw [Array.length_toList];rfl
     omega
    have HL5:Hid (l++Sx.data.toList=put X.length++rAllN 0 ((X.take (i+1)).map Nx.nd) []):=by
     show _=_
     rw [HL.out,hS5,htk,rAllN_snoc,hlen,← HM.out,List.append_assoc,Nat.zero_add]
    have HM5:Hid (M5=rTab ((X.take (i+1)).map Nx.nd) []):=by
     show _=_
     rw [htk,rTab_snoc,← HM.out,hM5]
    have hMl5:M5.length≤2*(i+1):=by have:=itF_len x.nd.texts M;rw [← hM5] at this;omega
    have hMs5:sum6 M5≤6000*(i+1):=by
     have:=itF_sumB x.nd.texts M g3
     rw [← hM5] at this
     omega
    have hll5:(l++Sx.data.toList).length≤10+32020*(i+1):=by rw [List.length_append,list_size];omega
    have s5:=HP5.out.bel.size
    clear HPc HL HM HP9 hI5 hp5 hk5 hz5 hS5 hM5 hr0 ht2 htk hlen z0 z1 z2 z3 hbb hbig n0 n1 n2 n3 g0 g1 g2 g3
    go_wp2_with fail
    refine Calls.mono (wstr_any w.heap.size gb l Sx w5 HP5.out.bu (by omega) s5) ?_
    rintro e w6 ⟨rfl,hu6,hb6,hk6⟩
    have HP6:Hid _:=HP5.out.wrote hb6 hk6 hu6
    clear HP5 hu6 hb6 hk6
    go_wp2_with fail
    go_roundw
    case rel=>exact ⟨i+1,l++Sx.data.toList,M5,v5,by go_num,by omega,hll5,hMl5,hMs5,HL5,HM5,HP6⟩
    case measure=>simp [intOf];omega
   ·have hlt':¬(i:Int)<X.length:=by omega
    have hall:(X.take i).map Nx.nd=X.map Nx.nd:=by rw [List.take_of_length_le (by omega)]
    have hL:=HL.out
    have hM:=HM.out
    rw [hall] at hL hM
    have hl9:l≠[]:=fun q=>by
     have h1:=congrArg List.length hL
     rw [q,List.length_append] at h1
     have h2:=(put_length X.length).1
     simp at h1
     omega
    have HPu:Hid (PuIs X r ⟨(pPut6 M).toArray⟩ ⟨l.toArray⟩ 0):=HP0.out _ _ (by rw [← hM]) hL
    have HPt:Hid _:=tput_any HP.out.tb (by omega) (by omega)
    clear HL HM hL hM hall HRe HTe HP0
    generalize (⟨(pPut6 M).toArray⟩:ByteArray)=A at *
    go_wp2_with fail
    refine Calls.mono HPt.out ?_
    rintro e w5 ⟨rfl,hb5⟩
    have HP5:Hid _:=HP.out.more hb5
    clear HPt HP hb5
    go_wp2_with fail
    refine Calls.mono (bstr_any w.heap.size gb l w5 HP5.out.bu hl9) ?_
    rintro e w6 ⟨rfl,hb6⟩
    have HB6:Hid (Below w.heap.size w w6):=HP5.out.bel.trans hb6
    clear HP5 hb6
    go_wp2_with fail
    go_ret3
    exact ⟨_,_,_,rfl,HPu.out,HB6.out⟩
 ·have hk':(k != 0)=true:=by simpa using hk
  have HP:Hid (PuIs X r ⟨#[]⟩ ⟨#[]⟩ k):=hch.bad hk
  clear hch
  go_wp2_with fail
  go_ret3
  exact ⟨_,_,_,rfl,HP.out,HB1.out⟩
end Go.Proofs.YtcgjgjjegnofeaaGreatDoor
namespace Go.Proofs.YtcgjgjjegnofeaaGreatDoor
open Go.RowKit Go.Maps Go.WideMaps Go.Sort
set_option maxRecDepth 10000 in
set_option maxHeartbeats 2000000 in
theorem pfsave_any (X:List Nx) (a:Option Addr) (c:Nat) (r:Int) (l:Lm) (w:World) (h:ScAt w a X) (hX:Small X) (hF:FnX X) (hT:Tabs12 w) (hz:Whole X r→(cA X r).size≤4000000∧(cC X r).size≤4000000) :
  Calls Tryz.prog 12 #[.agg #[.slice a X.length c,.int .i64 r],.agg (liC l)] w fun e w'=>SvOut X r l w w' e:=by
 obtain ⟨d,hd⟩:=depth_there X r
 have hlC:liC l=#[.int .i64 l.b,.int .i64 l.n,.int .i64 l.e,.int .i64 l.d,.int .i64 l.x]:=rfl
 have HA:Hid (∀(o1 o2:Obj),o1=.cells #[.slice a X.length c,.int .i64 r] 24→o2=.cells (liC l) 26→AtN 24 ((w.alloc o1).alloc o2) w.heap.size #[.slice a X.length c,.int .i64 r]∧AtN 26 ((w.alloc o1).alloc o2) (w.heap.size+1) (liC l)∧Below w.heap.size w ((w.alloc o1).alloc o2)):=by
  rintro _ _ rfl rfl
  exact ⟨(AtN.new w 24 _).alloc _,mk_at (AtN.new (w.alloc _) 26 _) (show _=w.heap.size+1 by simp),((Below.refl w.heap.size w).alloc (Nat.le_refl _) _).alloc (by simp) _⟩
 have HV:Hid (∀W,Below w.heap.size w W→Calls Tryz.prog 19 #[.agg #[.slice a X.length c,.int .i64 r],.agg #[.int .i64 l.b,.int .i64 l.n,.int .i64 l.e,.int .i64 l.d,.int .i64 l.x]] W fun e w'=>VaOut X r l d W w' e):=fun W hW=>valid_any X a c r l d W (h.belowB hW) hX hF (hT.on hW) hd
 have HC:Hid (∀W,Whole X r→Below w.heap.size w W→Calls Tryz.prog 31 #[.agg #[.slice a X.length c,.int .i64 r]] W fun e w'=>∃(Y:List Nx) (ay:Option Addr) (cy:Nat),e=.returned (.tuple #[.agg #[.slice ay Y.length cy,.int .i64 ((X.length:Int)-1)],.int .i64 0])∧Y.map Nx.nd=cX X r∧ScAt w' ay Y∧Below W.heap.size W w'):=fun W hw hW=>by
  refine Calls.mono (canon_any X a c r W (h.belowB hW) hX) ?_
  rintro e w' ⟨h1,_,h3⟩
  obtain ⟨Y,ay,cy,q1,q2,q3⟩:=h1 hw.2
  exact ⟨Y,ay,cy,q1,q2,q3,h3⟩
 have HP:Hid (∀(Y:List Nx) (a':Option Addr) (c':Nat) (W:World),Whole X r→Y.map Nx.nd=cX X r→ScAt W a' Y→Below w.heap.size w W→Calls Tryz.prog 32 #[.agg #[.slice a' Y.length c',.int .i64 ((X.length:Int)-1)]] W fun e w'=>e=.returned (.tuple #[.string (cA X r),.string (cC X r),.int .i64 0])∧Below W.heap.size W w'):=fun Y a' c' W hw hY hs hW=>by
  have hR:=can_ren hw.2 hY
  refine Calls.mono (pnput_any Y a' c' _ W hs (hR.small hX) (hR.fnx hF) (hT.on hW)) ?_
  rintro e w' ⟨A,C,k,rfl,hp,hb⟩
  obtain ⟨rfl,rfl,rfl⟩:=put_can hw hY hp
  exact ⟨rfl,hb⟩
 have HS:Hid (∀(W:World) (g:Nat),Whole X r→AtN 52 W g #[.int .i64 1,.string (cA X r),.int .i64 2,.string (cC X r)]→Calls Tryz.prog 33 #[.string ⟨#[68,73,79,82]⟩,.int .i64 2,.slice (some ⟨g,0,none⟩) 2 2] W fun e w'=>e=.returned (.tuple #[.string (cF X r),.int .i64 0])∧Below W.heap.size W w'):=fun W g hw hs=>by
  have hz2:=hz hw
  have h:=fput_any mD 2 (some ⟨g,0,none⟩) 2 g 0 (secs2 (cA X r) (cC X r)) W (by simp [secs2]) (fun _=>rfl) (secs_at hs) (fun s q=>by
   simp only [secs2,List.mem_cons,List.not_mem_nil,or_false] at q
   rcases q with rfl|rfl
   ·exact hz2.1
   ·exact hz2.2)
  rw [secs2_put (by omega) (by omega)] at h
  exact h
 have HD:Hid (DepthIs X r d):=hd
 have HI:Hid (∀n z B e,VaIs X r l d n z→((n≠0∧e=n∧B=⟨#[]⟩)∨(n=0∧((l.b<(cF X r).size∧e=19∧B=⟨#[]⟩)∨(¬l.b<(cF X r).size∧e=0∧B=cF X r))))→SvIs X r l B e):=fun n z B e h1 h2=>⟨d,n,z,hd,h1,h2⟩
 generalize cF X r=F at *
 generalize cA X r=A at *
 generalize cC X r=C at *
 clear h hX hF hz hd hT
 go_enter Tryz.func12,Tryz.ntmps12
 rw [hlC]
 go_wp2_with fail
 obtain ⟨h1,h2,h3⟩:=HA.out _ _ rfl rfl
 rw [hlC] at h1 h2 h3
 refine Calls.mono (HV.out _ h3) ?_
 rintro e w1 ⟨n,z,rfl,hv,hb1⟩
 have HS1:Hid (AtN 24 w1 w.heap.size #[.slice a X.length c,.int .i64 r]):=h1.belowAll hb1
 have HL1:Hid (AtN 26 w1 (w.heap.size+1) #[.int .i64 l.b,.int .i64 l.n,.int .i64 l.e,.int .i64 l.d,.int .i64 l.x]):=h2.belowAll hb1
 have HB1:Hid (Below w.heap.size w w1):=h3.trans (hb1.mono h3.size)
 have HVa:Hid (VaIs X r l d n z):=hv
 clear HA HV h1 h2 h3 hb1 hv hlC
 by_cases hn:n=0
 ·subst hn
  have HW:Hid (Whole X r):=(va_whole HVa.out).2.1
  have x0:w1.cell? ⟨w.heap.size,0,none⟩=some (.slice a X.length c):=HS1.out.cell 0
  have x1:w1.cell? ⟨w.heap.size,1,none⟩=some (.int .i64 r):=HS1.out.cell 1
  go_wp2_with fail
  refine Calls.mono (HC.out _ HW.out HB1.out) ?_
  rintro e w2 ⟨Y,ay,cy,rfl,hY,hs,hb2⟩
  obtain ⟨w3,hw3⟩:∃w3,w2.alloc (.cells #[.slice ay Y.length cy,.int .i64 ((X.length:Int)-1)] 24)=w3:=⟨_,rfl⟩
  have hb3:Below w2.heap.size w2 w3:=by rw [← hw3];exact (Below.refl w2.heap.size w2).alloc (Nat.le_refl _) _
  have HM3:Hid (AtN 24 w3 w2.heap.size #[.slice ay Y.length cy,.int .i64 ((X.length:Int)-1)]):=by rw [← hw3];exact AtN.new w2 24 _
  have HL3:Hid (AtN 26 w3 (w.heap.size+1) #[.int .i64 l.b,.int .i64 l.n,.int .i64 l.e,.int .i64 l.d,.int .i64 l.x]):=(HL1.out.belowAll hb2).belowAll hb3
  have hB2:Below w.heap.size w w2:=HB1.out.trans (hb2.mono HB1.out.size)
  have HB3:Hid (Below w.heap.size w w3):=hB2.trans (hb3.mono hB2.size)
  have HPc:Hid _:=HP.out Y ay cy w3 HW.out hY (hs.belowB hb3) HB3.out
  clear HC HP HS1 HL1 HB1 hY hs hb2 hb3 hB2 x0 x1
  have m0:w3.cell? ⟨w2.heap.size,0,none⟩=some (.slice ay Y.length cy):=HM3.out.cell 0
  have m1:w3.cell? ⟨w2.heap.size,1,none⟩=some (.int .i64 ((X.length:Int)-1)):=HM3.out.cell 1
  go_wp2_with fail
  clear hw3
  refine Calls.mono HPc.out ?_
  rintro e w4 ⟨rfl,hb4⟩
  have HB4:Hid (Below w.heap.size w w4):=HB3.out.trans (hb4.mono HB3.out.size)
  have HL4:Hid (AtN 26 w4 (w.heap.size+1) #[.int .i64 l.b,.int .i64 l.n,.int .i64 l.e,.int .i64 l.d,.int .i64 l.x]):=HL3.out.belowAll hb4
  have HSc:Hid (∀o:Obj,o=.cells #[.int .i64 1,.string A,.int .i64 2,.string C] 52→(Below w.heap.size w (w4.alloc o)∧AtN 26 (w4.alloc o) (w.heap.size+1) #[.int .i64 l.b,.int .i64 l.n,.int .i64 l.e,.int .i64 l.d,.int .i64 l.x])∧Calls Tryz.prog 33 #[.string ⟨#[68,73,79,82]⟩,.int .i64 2,.slice (some ⟨w4.heap.size,0,none⟩) 2 2] (w4.alloc o) fun e w'=>e=.returned (.tuple #[.string F,.int .i64 0])∧Below (w4.alloc o).heap.size (w4.alloc o) w'):=by
   rintro _ rfl
   exact ⟨⟨HB4.out.alloc HB4.out.size _,HL4.out.alloc _⟩,HS.out _ _ HW.out (AtN.new w4 52 _)⟩
  clear HPc HM3 HL3 HB3 hb4 m0 m1 HS
  go_wp2_with fail
  obtain ⟨⟨hb5,hl5⟩,hc5⟩:=HSc.out _ rfl
  refine Calls.mono hc5 ?_
  rintro e w6 ⟨rfl,hb6⟩
  have HB6:Hid (Below w.heap.size w w6):=hb5.trans (hb6.mono hb5.size)
  have y0:w6.cell? ⟨w.heap.size+1,0,none⟩=some (.int .i64 l.b):=(hl5.belowAll hb6).cell 0
  clear HSc hb5 hl5 hc5 hb6 HB4 HL4
  by_cases hlt:l.b<(F.size:Int)
  ·have HP:Hid (SvIs X r l ⟨#[]⟩ 19):=HI.out 0 z _ _ HVa.out (.inr ⟨rfl,.inl ⟨hlt,rfl,rfl⟩⟩)
   clear HI HVa HD HW
   go_wp2_with fail
   go_ret2
   exact ⟨_,_,rfl,HP.out,HB6.out⟩
  ·have HP:Hid (SvIs X r l F 0):=HI.out 0 z _ _ HVa.out (.inr ⟨rfl,.inr ⟨by first|exact hlt|exact Int.not_lt.1 hlt,rfl,rfl⟩⟩)
   clear HI HVa HD HW
   go_wp2_with fail
   go_ret2
   exact ⟨_,_,rfl,HP.out,HB6.out⟩
 ·have hn':(n != 0)=true:=by simpa using hn
  have HP:Hid (SvIs X r l ⟨#[]⟩ n):=HI.out n z _ _ HVa.out (.inl ⟨hn,rfl,rfl⟩)
  clear HI HVa HD HC HS
  go_wp2_with fail
  go_ret2
  exact ⟨_,_,rfl,HP.out,HB1.out⟩
end Go.Proofs.YtcgjgjjegnofeaaGreatDoor
namespace Go.Proofs.YtcgjgjjegnofeaaGreatDoor
theorem ba_ext {a b:ByteArray} (h:a.data.toList=b.data.toList):a=b:=ByteArray.ext (Array.toList_inj.1 h)
end Go.Proofs.YtcgjgjjegnofeaaGreatDoor
namespace Go.Proofs.YtcgjgjjegnofeaaGreatDoor
end Go.Proofs.YtcgjgjjegnofeaaGreatDoor
