import Derived.Test.YtcgjgjjegnofeaaGreatDoorPC11
import Derived.Test.YtcgjgjjegnofeaaGreatDoorPC04
import Derived.Test.YtcgjgjjegnofeaaGreatDoorPC13
import Derived.Test.YtcgjgjjegnofeaaGreatDoorPC09
namespace Go.Proofs.YtcgjgjjegnofeaaGreatDoor
open Go.RowKit
set_option maxRecDepth 10000 in
set_option maxHeartbeats 1000000 in
theorem pcheck_any (N:Nd) (a1 a2 a3:Option Addr) (c1 c2 c3:Nat) (p:Int) (w:World) (hT:Tabs12 w) (h:NdAt w N a1 a2 a3) (hf:fine N.ints) (h1:N.ints.length≤100) (h2:N.texts.length≤100) (h3:N.kids.length≤100000) (h4:∀s ∈ N.texts,s.size≤3000) :
  Calls Tryz.prog 115 #[.agg #[.int .i64 N.kind,.slice a1 N.ints.length c1,.slice a2 N.texts.length c2,.slice a3 N.kids.length c3],.int .i64 p] w fun e w'=>e=.returned (.int .i64 (rE N p))∧Below w.heap.size w w':=by
 have HN:Hid (NdAt w N a1 a2 a3):=h
 have HA0:Hid (AtN 62 (w.alloc (.cells #[.int .i64 N.kind,.slice a1 N.ints.length c1,.slice a2 N.texts.length c2,.slice a3 N.kids.length c3] 62)) w.heap.size #[.int .i64 N.kind,.slice a1 N.ints.length c1,.slice a2 N.texts.length c2,.slice a3 N.kids.length c3]):=AtN.new w 62 _
 have HB0:Hid (Below w.heap.size w (w.alloc (.cells #[.int .i64 N.kind,.slice a1 N.ints.length c1,.slice a2 N.texts.length c2,.slice a3 N.kids.length c3] 62))):=(Below.refl w.heap.size w).alloc (Nat.le_refl _) _
 have HSp:Hid (∀W,Below w.heap.size w W→Calls Tryz.prog 135 #[.int .i64 N.kind] W fun e w'=>SpIs W w' e (newSp N.kind)):=fun W hb=>new_any N.kind W (hT.on hb).k
 have HC:Hid (∀(W:World) (S:Sp) (sb:Option Addr) (d:Nat),Below w.heap.size w W→LsAt W sb (iV S.ints)→Calls Tryz.prog 136 #[.agg #[.int .i64 N.kind,.slice a1 N.ints.length c1,.slice a2 N.texts.length c2,.slice a3 N.kids.length c3],.agg #[.slice sb S.ints.length d,.int .i64 S.texts,.int .i64 S.least,.int .i64 S.most]] W fun e w'=>e=.returned (.int .i64 (chkN N S.ints S.texts S.least S.most))∧Below W.heap.size W w'):=
  fun W S sb d hW hb=>fcheck_any N S.ints S.texts S.least S.most a1 a2 a3 sb c1 c2 c3 d W (h.belowB hW) hb (hT.on hW).s hf h1 h2 h4
 have HV:Hid (tyN N=if (newSp N.kind).ok=false then 9 else chkN N (newSp N.kind).ints (newSp N.kind).texts (newSp N.kind).least (newSp N.kind).most):=rfl
 have HRE:Hid (rE N p=if tyN N=0 then (if rOk N p=true then 0 else 13) else tyN N):=rfl
 clear h hT hf h4
 generalize tyN N=ty at *
 generalize newSp N.kind=S at *
 obtain ⟨ok,ci,ct,cl,cm⟩:=S
 go_enter Tryz.func115,Tryz.ntmps115
 go_wp2_with fail
 refine Calls.mono (HSp.out _ HB0.out) ?_
 rintro e w1 ⟨v,rfl,hI,hb1⟩
 obtain ⟨sb,sc,rfl⟩:=own_shape7 hI
 have HL:Hid (LsAt w1 sb (iV ci)):=LsAt.of_own hI
 have HA1:Hid (AtN 62 w1 w.heap.size #[.int .i64 N.kind,.slice a1 N.ints.length c1,.slice a2 N.texts.length c2,.slice a3 N.kids.length c3]):=AtN.belowAll HA0.out hb1
 have HB1:Hid (Below w.heap.size w w1):=HB0.out.trans (hb1.mono HB0.out.size)
 clear HSp hI hb1 HA0 HB0
 dsimp only at *
 cases ok with
 | false=>
  have ht:ty=9:=HV.out
  subst ht
  have HR:Hid (rE N p=9):=by show _=_;rw [HRE.out];rfl
  clear HV HRE HC HL HA1
  go_wp2_with fail
  go_ret
  rw [HR.out]
  exact ⟨rfl,HB1.out.alloc HB1.out.size _⟩
 | true=>
  have ht:ty=chkN N ci ct cl cm:=HV.out
  have HC1:Hid (Calls Tryz.prog 136 #[.agg #[.int .i64 N.kind,.slice a1 N.ints.length c1,.slice a2 N.texts.length c2,.slice a3 N.kids.length c3],.agg #[.slice sb ci.length sc,.int .i64 ct,.int .i64 cl,.int .i64 cm]] (w1.alloc (.cells #[.slice sb ci.length sc,.int .i64 ct,.int .i64 cl,.int .i64 cm] 147)) fun e w'=>e=.returned (.int .i64 ty)∧Below (w1.alloc (.cells #[.slice sb ci.length sc,.int .i64 ct,.int .i64 cl,.int .i64 cm] 147)).heap.size (w1.alloc (.cells #[.slice sb ci.length sc,.int .i64 ct,.int .i64 cl,.int .i64 cm] 147)) w'):=by
   have:=HC.out (w1.alloc (.cells #[.slice sb ci.length sc,.int .i64 ct,.int .i64 cl,.int .i64 cm] 147)) ⟨true,ci,ct,cl,cm⟩ sb sc (HB1.out.alloc HB1.out.size _) (HL.out.alloc _)
   rw [ht]
   exact this
  have n1:=HA1.out.lt
  have y0:w1.cell? ⟨w.heap.size,0,none⟩=some (.int .i64 N.kind):=HA1.out.cell 0
  have y1:w1.cell? ⟨w.heap.size,1,none⟩=some (.slice a1 N.ints.length c1):=HA1.out.cell 1
  have y2:w1.cell? ⟨w.heap.size,2,none⟩=some (.slice a2 N.texts.length c2):=HA1.out.cell 2
  have y3:w1.cell? ⟨w.heap.size,3,none⟩=some (.slice a3 N.kids.length c3):=HA1.out.cell 3
  clear HV HC HL ht
  go_wp2_with fail
  refine Calls.mono HC1.out ?_
  rintro e w2 ⟨rfl,hb2⟩
  have HB2:Hid (Below w.heap.size w w2):=(HB1.out.alloc HB1.out.size _).trans (hb2.mono (by have:=HB1.out.size;simp;omega))
  have HA2:Hid (AtN 62 w2 w.heap.size #[.int .i64 N.kind,.slice a1 N.ints.length c1,.slice a2 N.texts.length c2,.slice a3 N.kids.length c3]):=AtN.belowAll (AtN.alloc HA1.out _) hb2
  clear HC1 HB1 HA1 hb2 y0 y1 y2 y3 n1
  by_cases ht:ty=0
  ·subst ht
   have HY:Hid ((∀i,i<N.kids.length→0≤N.kids.getD i 0∧N.kids.getD i 0<p)→rE N p=0):=fun q=>by rw [HRE.out,if_pos rfl,if_pos (rOk_yes q)]
   have HNo:Hid (∀i,i<N.kids.length→¬(0≤N.kids.getD i 0∧N.kids.getD i 0<p)→rE N p=13):=fun i hi q=>by rw [HRE.out,if_pos rfl,if_neg (by rw [rOk_no hi q];simp)]
   clear HRE
   have y3:w2.cell? ⟨w.heap.size,3,none⟩=some (.slice a3 N.kids.length c3):=HA2.out.cell 3
   have n2:=HA2.out.lt
   go_wp2_with fail
   go_loopw [27] (fun iv wr=>∃i:Nat,iv=.int .i64 i∧i≤N.kids.length∧wr=w2∧Hid (∀k,k<i→0≤N.kids.getD k 0∧N.kids.getD k 0<p)) (fun iv _=>N.kids.length-(intOf iv).toNat)
   case atStart=>exact ⟨0,rfl,by omega,rfl,fun k hk=>by omega⟩
   case round=>
    obtain ⟨i,rfl,hi,rfl,HI⟩:=hrel
    by_cases hlt:i<N.kids.length
    ·have hlt':(i:Int)<N.kids.length:=by omega
     obtain ⟨b3,o3,rfl,hb3,d3⟩:=(HN.out.k.belowB HB2.out).at (iV_at N.kids i hlt)
     have HNi:Hid (¬(0≤N.kids.getD i 0∧N.kids.getD i 0<p)→rE N p=13):=HNo.out i hlt
     have HIi:Hid (0≤N.kids.getD i 0∧N.kids.getD i 0<p→∀k,k<i+1→0≤N.kids.getD k 0∧N.kids.getD k 0<p):=fun q k hk=>by
      by_cases e:k=i
      ·subst e;exact q
      ·exact HI.out k (by omega)
     clear HI HNo HY
     generalize N.kids.getD i 0=z at *
     by_cases hz:z<0
     ·have HP:Hid (rE N p=13):=HNi.out (by omega)
      clear HNi HIi
      go_wp2_with fail
      go_ret
      rw [HP.out]
      exact ⟨rfl,HB2.out⟩
     ·by_cases hz2:p≤z
      ·have HP:Hid (rE N p=13):=HNi.out (by omega)
       clear HNi HIi
       go_wp2_with fail
       go_ret
       rw [HP.out]
       exact ⟨rfl,HB2.out⟩
      ·clear HNi
       go_wp2_with fail
       go_roundw
       case rel=>exact ⟨i+1,by go_num,by omega,by first|rfl|trivial,HIi.out ⟨by omega,by omega⟩⟩
       case measure=>simp [intOf];omega
    ·have hlt':¬(i:Int)<N.kids.length:=by omega
     have HKr:Hid (∀k,k<N.kids.length→0≤N.kids.getD k 0∧N.kids.getD k 0<p):=fun k hk=>HI.out k (by omega)
     have HR0:Hid (rE N p=0):=HY.out HKr.out
     clear HI HY HNo
     go_wp2_with fail
     go_ret
     rw [HR0.out]
     exact ⟨rfl,HB2.out⟩
  ·have HR:Hid (rE N p=ty):=by show _=_;rw [HRE.out,if_neg ht]
   clear HRE
   go_wp2_with fail
   go_ret
   rw [HR.out]
   exact ⟨rfl,HB2.out⟩
end Go.Proofs.YtcgjgjjegnofeaaGreatDoor
namespace Go.Proofs.YtcgjgjjegnofeaaGreatDoor
open Go.RowKit
theorem Fr.of_kept {C gb:Nat} {w w':World} (hb:Below C w w') (hk:Kept gb w w'):Fr (fun i=>C≤i∧(i=gb∨∃c fz,w.heap[i]? = some (.cells c 5 fz))) w w':=
 ⟨hb.os,hb.tape,hb.output,hb.size,fun i hi hn=>by
  by_cases h:i<C
  ·exact hb.block i h
  ·have h1:i≠gb:=fun e=>hn ⟨by omega,.inl e⟩
   obtain ⟨o,ho⟩:∃o,w.heap[i]? = some o:=⟨_,Array.getElem?_eq_getElem hi⟩
   rw [ho]
   exact hk i o ho (by simpa using h1) (fun c fz e=>hn ⟨by omega,.inr ⟨c,fz,by rw [ho,e]⟩⟩)⟩
theorem bu_row {B g:Nat} {p:Value} {bs:List Value} {w w':World} {S:Nat→Prop} (h:Lib.BuilderAt 102 5 B g p bs w) (k:Fr S w w') (hg:¬S g) (hr:∀q c fz,S q→w.heap[q]?≠some (.cells c 5 fz)):Lib.BuilderAt 102 5 B g p bs w':=by
 obtain ⟨hB,v,hgg,hown,hne⟩:=h
 have hlt:g<w.heap.size:=(Array.getElem?_eq_some_iff.1 hgg).1
 refine ⟨hB,v,(k.block g hlt hg).trans hgg,own_fr hown k (fun r hr2 q=>?_),hne⟩
 obtain ⟨c,fz,h1⟩:=own_kind hown r hr2
 exact hr r c fz q h1
theorem Bu.fr {B g:Nat} {l:List UInt8} {w w':World} {S:Nat→Prop} (h:Bu B g l w) (k:Fr S w w') (hg:¬S g) (hr:∀q c fz,S q→w.heap[q]?≠some (.cells c 5 fz)):Bu B g l w':=by
 rcases h with h|h
 ·exact .inl (bu_row h k hg hr)
 ·exact .inr (bu_row h k hg hr)
theorem Bu.two {B g:Nat} {l:List UInt8} {w:World} (h:Bu B g l w):∃p v,w.heap[g]? = some (.cells #[p,v] 102 (0,0)):=by
 rcases h with ⟨_,v,h,_⟩|⟨_,v,h,_⟩
 ·exact ⟨_,v,h⟩
 ·exact ⟨_,v,h⟩
theorem row_kind {w:World} {B:Nat} {e:TypeId} {v:Value} {n k:Nat} {xs:List Value} (h:w.ownsRow B e 1 v n xs) (hv:v.ownBlock=some k):∃c,w.heap[k]? = some (.cells c e (0,0)):=by
 rcases h.2 with ⟨rfl,_⟩|⟨g',cap,cur,rfl,_,hgg,_⟩
 ·simp [Value.ownBlock] at hv
 ·simp [Value.ownBlock] at hv
  subst hv
  exact ⟨cur,hgg⟩
theorem Tb.kinds {w:World} {B g gm:Nat} {v:Value} {L:List ByteArray} (h:Tb w B g gm v L) {k:Nat} (hk:TbS g gm v k) {c:Array Value} {T:TypeId} {fz:Nat × Nat} (hc:w.heap[k]? = some (.cells c T fz)):T=161∨T=9:=by
 rcases hk with rfl|rfl|hk
 ·have h1:w.heap[k]? = _:=h.cells
  rw [hc] at h1
  injection h1 with h1
  injection h1 with _ h1
  exact .inl h1
 ·obtain ⟨D,⟨es,ck,h2,_⟩,_⟩:=h.map
  rw [hc] at h2
  cases h2
 ·obtain ⟨c2,h1⟩:=row_kind h.own hk
  rw [hc] at h1
  injection h1 with h1
  injection h1 with _ h1
  exact .inr h1
structure Pk (w wr:World) (B g gm:Nat) (v:Value) (gb:Nat) (cN:Array Value) (v':Value) (M:List ByteArray) (l:List UInt8):Prop where
 tb:Tb wr B g gm v' M
 bu:Bu w.heap.size gb l wr
 nd:AtN 62 wr w.heap.size cN
 fr:Fr (TbS g gm v) w wr
 rows:∀k,TbS g gm v' k→TbS g gm v k∨w.heap.size≤k
 hg:g<w.heap.size
 hm:gm<w.heap.size
 hb:w.heap.size<gb
section
variable {w wr w':World} {B g gm gb:Nat} {v v':Value} {cN:Array Value} {M M':List ByteArray} {l l':List UInt8}
theorem Pk.more (h:Pk w wr B g gm v gb cN v' M l) (hb:Below wr.heap.size wr w'):Pk w w' B g gm v gb cN v' M l:=
 ⟨h.tb.below hb,h.bu.below hb,h.nd.belowAll hb,h.fr.trans (Fr.of_below (S:=fun _=>False) hb) (fun _ q _=>q.elim),h.rows,h.hg,h.hm,h.hb⟩
theorem Pk.done (h:Pk w wr B g gm v gb cN v' M l) (hb:Below w.heap.size wr w') (hk:Kept gb wr w'):TIn w w' B g gm v M:=by
 have F:=Fr.of_kept hb hk
 have h3:=h.hb
 obtain ⟨p,vb,hgb⟩:=h.bu.two
 refine ⟨v',h.tb.fr F (fun i hi q=>?_),h.fr.trans F (fun i q hi=>by omega),h.rows⟩
 rcases q.2 with rfl|⟨c,fz,e⟩
 ·rcases h.tb.kinds hi hgb with e|e
  ·revert e;decide
  ·revert e;decide
 ·rcases h.tb.kinds hi e with e|e
  ·revert e;decide
  ·revert e;decide
theorem Pk.size (h:Pk w wr B g gm v gb cN v' M l):w.heap.size≤wr.heap.size:=h.fr.size
theorem Pk.wrote (h:Pk w wr B g gm v gb cN v' M l) (hb:Below w.heap.size wr w') (hk:Kept gb wr w') (hu:Bu w.heap.size gb l' w'):Pk w w' B g gm v gb cN v' M l':=by
 have F:=Fr.of_kept hb hk
 have h1:=h.hg
 have h2:=h.hm
 have h3:=h.hb
 obtain ⟨p,vb,hgb⟩:=h.bu.two
 refine ⟨h.tb.fr F (fun i hi q=>?_),hu,?_,h.fr.trans F (fun i q hi=>by omega),h.rows,h1,h2,h3⟩
 ·rcases q.2 with rfl|⟨c,fz,e⟩
  ·rcases h.tb.kinds hi hgb with e|e
   ·revert e;decide
   ·revert e;decide
  ·rcases h.tb.kinds hi e with e|e
   ·revert e;decide
   ·revert e;decide
 ·refine h.nd.fr F (fun q=>?_)
  rcases q.2 with e|⟨c,fz,e⟩
  ·omega
  ·have h5:wr.heap[w.heap.size]? = _:=h.nd
   rw [e] at h5
   injection h5 with h5
   injection h5 with _ h5
   revert h5;decide
theorem Pk.interned (h:Pk w wr B g gm v gb cN v' M l) (hi:TIn wr w' B g gm v' M'):∃v2,Pk w w' B g gm v gb cN v2 M' l:=by
 obtain ⟨v2,ht,hf,hr⟩:=hi
 have h1:=h.hg
 have h2:=h.hm
 have h3:=h.hb
 have hs:=h.size
 obtain ⟨p,vb,hgb⟩:=h.bu.two
 refine ⟨v2,ht,h.bu.fr hf (fun q=>?_) (fun k c fz q e=>?_),h.nd.fr hf (fun q=>?_),h.fr.trans hf (fun i q hi=>?_),fun k hk=>?_,h1,h2,h3⟩
 ·rcases h.tb.kinds q hgb with e|e
  ·revert e;decide
  ·revert e;decide
 ·rcases h.tb.kinds q e with e|e
  ·revert e;decide
  ·revert e;decide
 ·have h5:wr.heap[w.heap.size]? = _:=h.nd
  rcases h.tb.kinds q h5 with e|e
  ·revert e;decide
  ·revert e;decide
 ·rcases h.rows i q with e|e
  ·exact e
  ·omega
 ·rcases hr k hk with e|e
  ·exact h.rows k e
  ·exact .inr (Nat.le_trans hs e)
end
set_option maxRecDepth 10000 in
set_option maxHeartbeats 400000 in
theorem put1_any (B g:Nat) (l:List UInt8) (u:Int) (w:World) (h:Bu B g l w) (h0:0≤u) (h1:u≤18446744073709551615) (hl:l.length≤1000000) (hB:B≤w.heap.size) :
  Calls Tryz.prog 116 #[.int .u64 u,.pointer (some ⟨g,0,none⟩)] w fun e w'=>e=.returned (.tuple #[])∧Bu B g (l++put u.toNat) w'∧Below B w w'∧Kept g w w':=by
 have HP:Hid _:=put_any u w h0 h1
 obtain ⟨X,hX⟩:∃X:ByteArray,X=⟨(put u.toNat).toArray⟩:=⟨_,rfl⟩
 have dX:X.data.toList=put u.toNat:=by rw [hX]
 have zX:X.size≤10:=by
  have h1:X.size=X.data.toList.length:=by rw [Array.length_toList];rfl
  rw [h1,dX]
  exact (put_length _).2
 have HX:Hid _:=dX
 rw [← hX] at HP
 have HU:Hid (Bu B g l w):=h
 clear hX dX h
 go_enter Tryz.func116,Tryz.ntmps116
 go_wp2_with fail
 refine Calls.mono HP.out ?_
 rintro e w1 ⟨rfl,hb⟩
 have HU1:Hid (Bu B g l w1):=HU.out.below hb
 have hB1:B≤w1.heap.size:=Nat.le_trans hB hb.size
 have HB1:Hid (Below w.heap.size w w1):=hb
 have HK1:Hid (Kept g w w1):=fun k o hk _ _=>by
  have hlt:k<w.heap.size:=(Array.getElem?_eq_some_iff.1 hk).1
  rw [hb.block k hlt]
  exact hk
 clear HU hb
 go_wp2_with fail
 refine Calls.mono (wstr_any B g l X w1 HU1.out (by omega) hB1) ?_
 rintro e w2 ⟨rfl,hu,hb2,hk2⟩
 have HR:Hid (Bu B g (l++put u.toNat) w2∧Below B w w2∧Kept g w w2):=by
  refine ⟨by rw [← HX.out];exact hu,(HB1.out.mono hB).trans hb2,?_⟩
  intro k o hk h1 h2
  exact hk2 k o (HK1.out k o hk h1 h2) h1 h2
 clear hu hb2 hk2 HB1 HK1 HU1
 go_wp2_with fail
 go_end0
 exact ⟨rfl,HR.out⟩
set_option maxRecDepth 10000 in
set_option maxHeartbeats 400000 in
theorem bstr2_any (B g:Nat) (l:List UInt8) (w:World) (h:Bu B g l w) (h0:l≠[]) :
  Calls Tryz.prog 67 #[.pointer (some ⟨g,0,none⟩)] w fun e w'=>e=.returned (.string ⟨l.toArray⟩)∧Below B w w'∧Kept g w w':=by
 obtain ⟨p,hB,v,hbk,hown,hne⟩:∃p,Lib.BuilderAt 102 5 B g p (bV l) w:=by
  rcases h with h|h
  ·exact ⟨_,h⟩
  ·exact ⟨_,h⟩
 have hl0:l.length≠0:=by simpa using h0
 rw [bV_length] at hown
 obtain ⟨k,cap,cur,rfl,hbg,hg,hnc,hcm,hcs,htake⟩:∃k cap cur,v=.slice (some ⟨k,0,none⟩) l.length cap∧B≤k∧w.heap[k]? = some (.cells cur 5 (0,0))∧l.length≤cap∧cap≤maxLen∧cur.size=cap*1∧cur.toList.take (l.length*1)=bV l:=by
  rcases hown.2 with ⟨_,hz⟩|⟨k,cap,cur,hv,r⟩
  ·exact absurd hz hl0
  ·exact ⟨k,cap,cur,hv,r⟩
 have hg':w.drew.heap[k]? = some (.cells cur 5 (0,0)):=hg
 have hbk':w.drew.heap[g]? = some (.cells #[p,.slice (some ⟨k,0,none⟩) l.length cap] 102 (0,0)):=hbk
 have c1:w.drew.cell? ⟨g,1,none⟩=some (.slice (some ⟨k,0,none⟩) l.length cap):=by rw [Lib.cell_of_heap hbk'];rfl
 have hSD:(Builtin.unsafeSliceData_ #[90] 167 #[.slice (some ⟨k,0,none⟩) l.length cap]).run Tryz.prog w.drew=.ok (.pointer (some ⟨k,0,none⟩)) w.drew:=
  Lib.run_unsafeSliceData_row _ _ _ _ _ _ (by omega)
 have hUS:(Builtin.unsafeString_ #[167,3] 9 #[.pointer (some ⟨k,0,none⟩),.int .i64 l.length]).run Tryz.prog w.drew=.ok (.string ⟨l.toArray⟩) (w.drew.freeze ⟨k,0,none⟩ l.length):=by
  refine Lib.run_unsafeString_row w.drew 167 3 9 5 Tryz.underlying167 (by kernel_rfl) k cur.size (by simp [World.shape?,hg']) l h0 (by omega) (by unfold maxLen at hcm;omega) ?_
  intro j x hx
  have:=hown.cells (g:=k) rfl j (.int .u8 x.toNat) (by simp [bV,hx])
  exact this
 have hgK:∃c fz,w.drew.heap[k]? = some (.cells c 5 fz):=⟨cur,_,hg'⟩
 have HK:Hid (Kept g w (w.drew.freeze ⟨k,0,none⟩ l.length)):=((Lib.OthersKept.refl _ _ w).drew).freeze ⟨k,0,none⟩ _ hgK
 clear hgK hcs htake hnc hcm hg hbk hg' hbk' hown hne
 go_enter Tryz.func67,Tryz.ntmps67
 go_wp2
 go_region
 all_goals
  go_wp2
  go_ret
  exact ⟨rfl,Lib.below_freeze (Below.drew (Below.refl B w)) (p:=⟨k,0,none⟩) hbg _,HK.out⟩
end Go.Proofs.YtcgjgjjegnofeaaGreatDoor
namespace Go.Proofs.YtcgjgjjegnofeaaGreatDoor
open Go.RowKit
def PPut (N:Nd) (p:Int) (L:List ByteArray) (B g gm:Nat) (v:Value) (w w':World) (e:Ending):Prop:=
 ∃(S:ByteArray) (M:List ByteArray) (k:Int),e=.returned (.tuple #[.string S,.int .i64 k])∧PutIs N p L S M k∧TIn w w' B g gm v M
theorem pIntern_sum (L:List ByteArray) (s:ByteArray):sum6 (pIntern L s)≤sum6 L+s.size:=by
 unfold pIntern
 split
 ·omega
 ·rw [sum6_append];simp [sum6]
theorem pE_zero {N:Nd} {p:Int} (h:rE N p=0):(1≤N.kind∧N.kind<9)∧∀i,i<N.kids.length→0≤N.kids.getD i 0∧N.kids.getD i 0<p:=by
 unfold rE at h
 by_cases h1:tyN N=0
 ·rw [if_pos h1] at h
  by_cases h2:rOk N p=true
  ·refine ⟨?_,fun i hi=>?_⟩
   ·by_cases hk:N.kind<1∨9≤N.kind
    ·unfold tyN at h1
     rw [newSp_no N.kind hk,if_pos (show noSp.ok=false from rfl)] at h1
     exact absurd h1 (by decide)
    ·omega
   ·unfold rOk at h2
    rw [List.all_eq_true] at h2
    exact of_decide_eq_true (h2 i (by simpa using hi))
  ·rw [if_neg h2] at h
   exact absurd h (by decide)
 ·rw [if_neg h1] at h
  exact absurd h h1
theorem Bu.lower {B C g:Nat} {l:List UInt8} {w:World} (h:Bu B g l w) (hc:C≤B):Bu C g l w:=by
 have own:∀{v:Value} {n:Nat} {xs:List Value},w.ownsRow B 5 1 v n xs→w.ownsRow C 5 1 v n xs:=fun q=>by
  refine ⟨q.1,?_⟩
  rcases q.2 with hv|⟨gx,cap,cur,hv,hx,r⟩
  ·exact .inl hv
  ·exact .inr ⟨gx,cap,cur,hv,Nat.le_trans hc hx,r⟩
 rcases h with ⟨q1,q2,q3,q4,q5⟩|⟨q1,q2,q3,q4,q5⟩
 ·exact .inl ⟨Nat.le_trans hc q1,q2,q3,own q4,q5⟩
 ·exact .inr ⟨Nat.le_trans hc q1,q2,q3,own q4,q5⟩
set_option maxRecDepth 10000 in
set_option maxHeartbeats 2000000 in
theorem pput_any (N:Nd) (a1 a2 a3:Option Addr) (c1 c2 c3:Nat) (p:Int) (w:World) {B g gm:Nat} {v:Value} {L:List ByteArray} (ht:Tb w B g gm v L) (hl:L.length≤900000) (hm:sum6 L≤900000000) (hT:Tabs12 w) (h:∀W,Fr (TbS g gm v) w W→NdAt W N a1 a2 a3) (hf:fine N.ints) (h1:N.ints.length≤100) (h2:N.texts.length≤100) (h3:N.kids.length≤3000) (h4:∀s ∈ N.texts,s.size≤3000) (hp:p≤9223372036854775807) :
  Calls Tryz.prog 65 #[.agg #[.int .i64 N.kind,.slice a1 N.ints.length c1,.slice a2 N.texts.length c2,.slice a3 N.kids.length c3],.int .i64 p,.pointer (some ⟨g,0,none⟩)] w fun e w'=>PPut N p L B g gm v w w' e:=by
 have HN:Hid (∀W,Fr (TbS g gm v) w W→NdAt W N a1 a2 a3):=h
 have HF:Hid (fine N.ints):=hf
 have HTx:Hid (∀i,i<N.texts.length→(N.texts.getD i noT).size≤3000):=fun i hi=>by
  rw [List.getD_eq_getElem?_getD,List.getElem?_eq_getElem hi]
  exact h4 _ (List.getElem_mem hi)
 have HB0:Hid (Below w.heap.size w (w.alloc (.cells #[.int .i64 N.kind,.slice a1 N.ints.length c1,.slice a2 N.texts.length c2,.slice a3 N.kids.length c3] 62))):=(Below.refl w.heap.size w).alloc (Nat.le_refl _) _
 have HA0:Hid (AtN 62 (w.alloc (.cells #[.int .i64 N.kind,.slice a1 N.ints.length c1,.slice a2 N.texts.length c2,.slice a3 N.kids.length c3] 62)) w.heap.size #[.int .i64 N.kind,.slice a1 N.ints.length c1,.slice a2 N.texts.length c2,.slice a3 N.kids.length c3]):=AtN.new w 62 _
 have HC:Hid (∀W,Below w.heap.size w W→Calls Tryz.prog 115 #[.agg #[.int .i64 N.kind,.slice a1 N.ints.length c1,.slice a2 N.texts.length c2,.slice a3 N.kids.length c3],.int .i64 p] W fun e w'=>e=.returned (.int .i64 (rE N p))∧Below W.heap.size W w'):=
  fun W hb=>pcheck_any N a1 a2 a3 c1 c2 c3 p W (hT.on hb) (h W (Fr.of_below hb)) hf h1 h2 (by omega) h4
 have HE:Hid (∀(S:ByteArray) (M:List ByteArray) (k:Int),PutIs N p L S M k↔(k=rE N p∧(k≠0→S=⟨#[]⟩∧M=L)∧(k=0→S.data.toList=rB N p L∧M=itF L N.texts))):=fun _ _ _=>Iff.rfl
 have HK:Hid (rE N p=0→(1≤N.kind∧N.kind<9)∧∀i,i<N.kids.length→0≤N.kids.getD i 0∧N.kids.getD i 0<p):=pE_zero
 have HTb:Hid (Tb w B g gm v L):=ht
 have g1:g<w.heap.size:=ht.lt g (.inl rfl)
 have g2:gm<w.heap.size:=ht.lt gm (.inr (.inl rfl))
 clear h hf h4 hT ht
 generalize rE N p=ty at *
 go_enter Tryz.func65,Tryz.ntmps65
 have n0:=HA0.out.lt
 go_wp2_with fail
 refine Calls.mono (HC.out _ HB0.out) ?_
 rintro e w1 ⟨rfl,hb1⟩
 have HB1:Hid (Below w.heap.size w w1):=HB0.out.trans (hb1.mono HB0.out.size)
 have HA1:Hid (AtN 62 w1 w.heap.size #[.int .i64 N.kind,.slice a1 N.ints.length c1,.slice a2 N.texts.length c2,.slice a3 N.kids.length c3]):=HA0.out.belowAll hb1
 clear HC HA0 HB0 hb1 n0
 by_cases hty:ty=0
 ·subst hty
  obtain ⟨hk,HKr⟩:(1≤N.kind∧N.kind<9)∧Hid (∀i,i<N.kids.length→0≤N.kids.getD i 0∧N.kids.getD i 0<p):=HK.out rfl
  have s1:=HB1.out.size
  have s2:=HA1.out.lt
  have HP1:Hid (Pk w (w1.alloc (.cells #[.pointer none,.slice none 0 0] 102)) B g gm v w1.heap.size #[.int .i64 N.kind,.slice a1 N.ints.length c1,.slice a2 N.texts.length c2,.slice a3 N.kids.length c3] v L []):=
   ⟨HTb.out.below (HB1.out.alloc s1 _),(Bu.new w1).lower s1,HA1.out.alloc _,Fr.of_below (HB1.out.alloc s1 _),fun k hk=>.inl hk,g1,g2,s2⟩
  have y0:(w1.alloc (.cells #[.pointer none,.slice none 0 0] 102)).cell? ⟨w.heap.size,0,none⟩=some (.int .i64 N.kind):=HP1.out.nd.cell 0
  have HU0:Hid (Bu w.heap.size w1.heap.size [] (w1.alloc (.cells #[.pointer none,.slice none 0 0] 102))):=HP1.out.bu
  have s3:w.heap.size≤(w1.alloc (.cells #[.pointer none,.slice none 0 0] 102)).heap.size:=HP1.out.size
  have hmf:∀(fn:Fn) (first cap:Array Value) (w:World),(Instr.makeFunc fn first cap).run Tryz.prog w=.ok (.func fn first cap) w:=fun _ _ _ _=>rfl
  clear HK HA1
  go_wp2_with (go_at_call 116;refine (put1_any w.heap.size w1.heap.size [] N.kind _ HU0.out (by omega) (by omega) (by simp) s3).mono ?_;rintro e w2 ⟨rfl,hu2,hb2,hk2⟩;have HP2:Hid (Pk w w2 B g gm v w1.heap.size #[.int .i64 N.kind,.slice a1 N.ints.length c1,.slice a2 N.texts.length c2,.slice a3 N.kids.length c3] v L (put N.kind.toNat)):=HP1.out.wrote hb2 hk2 hu2;have y1:w2.cell? ⟨w.heap.size,1,none⟩=some (.slice a1 N.ints.length c1):=HP2.out.nd.cell 1)
  have hp0:(put N.kind.toNat).length≤10:=(put_length _).2
  clear HP1 y0 HU0 s3 hu2 hb2 hk2 hmf HB1 HTb
  generalize hL0:put N.kind.toNat=l0 at *
  have HL0:Hid (put N.kind.toNat=l0):=hL0
  clear hL0
  generalize w1.heap.size=gb at *
  go_loopw [32] (fun iv wr=>∃(i:Nat) (l:List UInt8),iv=.int .i64 i∧i≤N.ints.length∧l.length≤10+10*i∧Hid (l=l0++rI (N.ints.take i))∧Hid (Pk w wr B g gm v gb #[.int .i64 N.kind,.slice a1 N.ints.length c1,.slice a2 N.texts.length c2,.slice a3 N.kids.length c3] v L l)) (fun iv _=>N.ints.length-(intOf iv).toNat)
  case atStart=>exact ⟨0,l0,rfl,by omega,by omega,by simp [Hid,rI],HP2⟩
  case round=>
   clear HP2 y1
   obtain ⟨i,l,rfl,hi,hl1,HL,HP⟩:=hrel
   have sr:=HP.out.size
   by_cases hlt:i<N.ints.length
   ·have hlt':(i:Int)<N.ints.length:=by omega
    obtain ⟨b3,o3,rfl,hb3,d3⟩:=(HN.out wr HP.out.fr).i.at (iV_at N.ints i hlt)
    have hz:=HF.out i hlt
    have HLn:Hid (l++put (zig (N.ints.getD i 0)).toNat=l0++rI (N.ints.take (i+1))):=by
     show _=_
     unfold rI at HL ⊢
     rw [flat_take _ N.ints 0 i hlt,HL.out,List.append_assoc]
    clear HL
    generalize N.ints.getD i 0=z at *
    have HZ:Hid _:=fun W=>zig_any z W hz.1 hz.2
    have hzz:=zig_range z hz.1 hz.2
    have hput:=(put_length (zig z).toNat).2
    have hlen:(l++put (zig z).toNat).length≤10+10*(i+1):=by rw [List.length_append];omega
    generalize zig z=zz at *
    have HU:Hid (Bu w.heap.size gb l wr):=HP.out.bu
    clear hz
    go_wp2_with fail
    refine Calls.mono (HZ.out _) ?_
    rintro e w4 ⟨rfl,rfl⟩
    clear HZ
    go_wp2_with (go_at_call 116;refine (put1_any w.heap.size gb l zz _ HU.out (by omega) (by omega) (by omega) sr).mono ?_;rintro e w5 ⟨rfl,hu2,hb2,hk2⟩;have HP5:Hid _:=HP.out.wrote hb2 hk2 hu2)
    go_roundw
    case rel=>exact ⟨i+1,l++put zz.toNat,by go_num,by omega,hlen,HLn,HP5⟩
    case measure=>simp [intOf];omega
   ·have hlt':¬(i:Int)<N.ints.length:=by omega
    have HLe:Hid (l=l0++rI N.ints):=by
     have:=HL.out
     rw [List.take_of_length_le (by omega)] at this
     exact this
    clear HL
    have z1:l.length≤1010:=by omega
    have y2:wr.cell? ⟨w.heap.size,2,none⟩=some (.slice a2 N.texts.length c2):=HP.out.nd.cell 2
    have n2:=HP.out.nd.lt
    clear hl1
    generalize hl0:l=l1 at *
    go_wp2_with fail
    go_loopw [44] (fun iv wr=>∃(i:Nat) (l:List UInt8) (M:List ByteArray) (v':Value),iv=.int .i64 i∧i≤N.texts.length∧l.length≤1010+10*i∧M.length≤900000+i∧sum6 M≤900000000+3000*i∧Hid (M=itF L (N.texts.take i))∧Hid (l=l1++rT (itF L N.texts) (N.texts.take i))∧Hid (Pk w wr B g gm v gb #[.int .i64 N.kind,.slice a1 N.ints.length c1,.slice a2 N.texts.length c2,.slice a3 N.kids.length c3] v' M l)) (fun iv _=>N.texts.length-(intOf iv).toNat)
    case atStart=>exact ⟨0,l1,L,v,rfl,by omega,by omega,by omega,by omega,by simp [Hid,itF],by simp [Hid,rT],by subst hl0;exact HP⟩
    case round=>
     clear HP y2 n2 sr
     obtain ⟨i,l,M,v',rfl,hi,hl1,hM,hS,HMi,HL,HP⟩:=hrel
     have sr:=HP.out.size
     by_cases hlt:i<N.texts.length
     ·have hlt':(i:Int)<N.texts.length:=by omega
      obtain ⟨b3,o3,rfl,hb3,d3⟩:=(HN.out wr HP.out.fr).t.at (tV_at N.texts i hlt)
      have hsz:=HTx.out i hlt
      have HI:Hid (Calls Tryz.prog 118 #[.pointer (some ⟨g,0,none⟩),.string (N.texts.getD i noT)] wr fun e w'=>e=.returned (.int .i64 (idx6 (N.texts.getD i noT) M:Nat))∧TIn wr w' B g gm v' (pIntern M (N.texts.getD i noT))):=
       tintern_any HP.out.tb (N.texts.getD i noT) (by omega) (by omega) (by omega)
      have HMn:Hid (pIntern M (N.texts.getD i noT)=itF L (N.texts.take (i+1))):=by
       show _=_
       rw [show N.texts.take (i+1)=N.texts.take i++[N.texts.getD i noT] by rw [List.take_add_one,List.getElem?_eq_getElem hlt,List.getD_eq_getElem?_getD,List.getElem?_eq_getElem hlt];rfl,itF_snoc,← HMi.out]
      have hMn:(pIntern M (N.texts.getD i noT)).length≤900000+(i+1):=by
       have:=pIntern_le M (N.texts.getD i noT)
       omega
      have hSn:sum6 (pIntern M (N.texts.getD i noT))≤900000000+3000*(i+1):=by
       have:=pIntern_sum M (N.texts.getD i noT)
       omega
      have hix:idx6 (N.texts.getD i noT) M≤2000000:=by
       have:=idx6_le (N.texts.getD i noT) M
       omega
      have HLn:Hid (l++put (idx6 (N.texts.getD i noT) M)=l1++rT (itF L N.texts) (N.texts.take (i+1))):=by
       show _=_
       unfold rT at HL ⊢
       rw [flat_take _ N.texts noT i hlt,HL.out,List.append_assoc,← itF_num L N.texts i hlt,← HMi.out]
      have hput:=(put_length (idx6 (N.texts.getD i noT) M)).2
      have hlen:(l++put (idx6 (N.texts.getD i noT) M)).length≤1010+10*(i+1):=by rw [List.length_append];omega
      clear HL HMi
      generalize idx6 (N.texts.getD i noT) M=ix at *
      generalize pIntern M (N.texts.getD i noT)=M2 at *
      generalize N.texts.getD i noT=s at *
      go_wp2_with fail
      refine Calls.mono HI.out ?_
      rintro e w4 ⟨rfl,hT4⟩
      obtain ⟨v2,HP4⟩:∃v2,Hid (Pk w w4 B g gm v gb #[.int .i64 N.kind,.slice a1 N.ints.length c1,.slice (some ⟨b3,o3,none⟩) N.texts.length c2,.slice a3 N.kids.length c3] v2 M2 l):=HP.out.interned hT4
      have sr4:=HP4.out.size
      have HU:Hid (Bu w.heap.size gb l w4):=HP4.out.bu
      clear HI hT4 HP d3 hb3
      go_wp2_with (go_at_call 116;refine (put1_any w.heap.size gb l (ix:Nat) _ HU.out (by omega) (by omega) (by omega) sr4).mono ?_;rintro e w5 ⟨rfl,hu2,hb2,hk2⟩;have HP5:Hid _:=HP4.out.wrote hb2 hk2 hu2)
      go_roundw
      case rel=>exact ⟨i+1,l++put ix,M2,v2,by go_num,by omega,hlen,hMn,hSn,HMn,HLn,by simpa using HP5⟩
      case measure=>simp [intOf];omega
     ·have hlt':¬(i:Int)<N.texts.length:=by omega
      have HLe2:Hid (l=l1++rT (itF L N.texts) N.texts):=by
       have:=HL.out
       rw [List.take_of_length_le (show N.texts.length≤i by omega)] at this
       exact this
      have HMe:Hid (M=itF L N.texts):=by
       have:=HMi.out
       rw [List.take_of_length_le (by omega)] at this
       exact this
      clear HL HMi
      have z2:l.length≤2010:=by omega
      have y3:wr.cell? ⟨w.heap.size,3,none⟩=some (.slice a3 N.kids.length c3):=HP.out.nd.cell 3
      have n2:=HP.out.nd.lt
      have HU:Hid (Bu w.heap.size gb l wr):=HP.out.bu
      clear hl1
      go_wp2_with (go_at_call 116;refine (put1_any w.heap.size gb l (N.kids.length:Nat) _ HU.out (by omega) (by omega) (by omega) sr).mono ?_;rintro e w6 ⟨rfl,hu2,hb2,hk2⟩;have HP6:Hid _:=HP.out.wrote hb2 hk2 hu2;have y6:w6.cell? ⟨w.heap.size,3,none⟩=some (.slice a3 N.kids.length c3):=HP6.out.nd.cell 3;have n6:=HP6.out.nd.lt)
      rw [Int.toNat_natCast] at HP6
      have hput:=(put_length N.kids.length).2
      have z3:(l++put N.kids.length).length≤2020:=by rw [List.length_append];omega
      have HLe3:Hid (l++put N.kids.length=l1++rT (itF L N.texts) N.texts++put N.kids.length):=by show _=_;rw [HLe2.out]
      clear HP y3 n2 HU hu2 hb2 hk2 HLe2
      generalize l++put N.kids.length=l2 at *
      go_loopw [64] (fun iv wr=>∃(i:Nat) (l:List UInt8),iv=.int .i64 i∧i≤N.kids.length∧l.length≤2020+10*i∧Hid (l=l2++rK p (N.kids.take i))∧Hid (Pk w wr B g gm v gb #[.int .i64 N.kind,.slice a1 N.ints.length c1,.slice a2 N.texts.length c2,.slice a3 N.kids.length c3] v' M l)) (fun iv _=>N.kids.length-(intOf iv).toNat)
      case atStart=>exact ⟨0,l2,rfl,by omega,by omega,by simp [Hid,rK],HP6⟩
      case round=>
       clear HP6 y6 n6 sr
       obtain ⟨i,l,rfl,hi,hl1,HL,HP⟩:=hrel
       have sr:=HP.out.size
       by_cases hlt:i<N.kids.length
       ·have hlt':(i:Int)<N.kids.length:=by omega
        obtain ⟨b3,o3,rfl,hb3,d3⟩:=(HN.out wr HP.out.fr).k.at (iV_at N.kids i hlt)
        have hz:=HKr.out i hlt
        have HLn:Hid (l++put (p-N.kids.getD i 0).toNat=l2++rK p (N.kids.take (i+1))):=by
         show _=_
         unfold rK at HL ⊢
         rw [flat_take _ N.kids 0 i hlt,HL.out,List.append_assoc]
        clear HL
        generalize N.kids.getD i 0=z at *
        have hput:=(put_length (p-z).toNat).2
        have hlen:(l++put (p-z).toNat).length≤2020+10*(i+1):=by rw [List.length_append];omega
        have HU:Hid (Bu w.heap.size gb l wr):=HP.out.bu
        go_wp2_with (go_at_call 116;refine (put1_any w.heap.size gb l (p-z) _ HU.out (by omega) (by omega) (by omega) sr).mono ?_;rintro e w7 ⟨rfl,hu2,hb2,hk2⟩;have HP7:Hid _:=HP.out.wrote hb2 hk2 hu2)
        go_roundw
        case rel=>exact ⟨i+1,l++put (p-z).toNat,by go_num,by omega,hlen,HLn,HP7⟩
        case measure=>simp [intOf];omega
       ·have hlt':¬(i:Int)<N.kids.length:=by omega
        have HLf:Hid (l=l2++rK p N.kids):=by
         have:=HL.out
         rw [List.take_of_length_le (by omega)] at this
         exact this
        have hl9:l≠[]:=by
         intro q
         have e1:=HLf.out
         rw [HLe3.out] at e1
         have:=congrArg List.length e1
         rw [q] at this
         have h7:=(put_length N.kids.length).1
         simp at this
         omega
        clear HL
        go_wp2_with fail
        refine Calls.mono (bstr2_any w.heap.size gb l wr HP.out.bu hl9) ?_
        rintro e w8 ⟨rfl,hb8,hk8⟩
        have HD:Hid _:=HP.out.done hb8 hk8
        have HPI:Hid (PutIs N p L ⟨l.toArray⟩ M 0):=(HE.out _ _ _).2 ⟨rfl,fun q=>absurd rfl q,fun _=>⟨by show l.toArray.toList=_;rw [List.toList_toArray,HLf.out,HLe3.out,HLe.out,← HL0.out];simp [rB],HMe.out⟩⟩
        clear hb8 hk8
        go_wp2_with fail
        go_ret2
        exact ⟨_,_,_,rfl,HPI.out,HD.out⟩
 ·have HP:Hid (PutIs N p L ⟨#[]⟩ L ty):=(HE.out _ _ _).2 ⟨rfl,fun _=>⟨rfl,rfl⟩,fun q=>absurd q hty⟩
  have HD:Hid (TIn w w1 B g gm v L):=⟨v,HTb.out.below HB1.out,Fr.of_below HB1.out,fun k hk=>.inl hk⟩
  clear HK HE
  go_wp2_with fail
  go_ret2
  exact ⟨_,_,_,rfl,HP.out,HD.out⟩
end Go.Proofs.YtcgjgjjegnofeaaGreatDoor
