import Derived.Test.YtcgjgjjegnofeaaGreatDoorPC34
import Derived.Test.YtcgjgjjegnofeaaGreatDoorPC14
import Derived.Test.YtcgjgjjegnofeaaGreatDoorPC27
import Derived.Test.YtcgjgjjegnofeaaGreatDoorPC26
import Derived.Test.YtcgjgjjegnofeaaGreatDoorPC18
import Derived.Test.YtcgjgjjegnofeaaGreatDoorPC23
import Derived.Test.YtcgjgjjegnofeaaGreatDoorPC33
import Derived.Lib.Strings
import Derived.Test.YtcgjgjjegnofeaaGreatDoorPC10
namespace Go.Proofs.YtcgjgjjegnofeaaGreatDoor
open Go.RowKit
def ChIs (X:List Nx) (r k:Int):Prop:=
 (tyE X≠0∧k=tyE X)∨(tyE X=0∧∃n y,CheckIs X r n y∧((n≠0∧k=n)∨(n=0∧((¬IsCan X r∧k=16)∨(IsCan X r∧k=0)))))
theorem ChIs.bad {X:List Nx} {r k:Int} (h:ChIs X r k) (hk:k≠0):PuIs X r ⟨#[]⟩ ⟨#[]⟩ k:=by
 rcases h with ⟨h1,h2⟩|⟨h1,n,y,h2,⟨h3,h4⟩|⟨h3,⟨h4,h5⟩|⟨h4,h5⟩⟩⟩
 ·exact .inl ⟨h1,h2,rfl,rfl⟩
 ·exact .inr ⟨h1,n,y,h2,.inl ⟨h3,h4,rfl,rfl⟩⟩
 ·exact .inr ⟨h1,n,y,h2,.inr ⟨h3,.inl ⟨h4,h5,rfl,rfl⟩⟩⟩
 ·exact absurd h5 hk
theorem ChIs.good {X:List Nx} {r:Int} (h:ChIs X r 0):tyE X=0∧IsCan X r∧∀A C:ByteArray,A.data.toList=pPut6 (rTab (X.map Nx.nd) [])→C.data.toList=put X.length++rAllN 0 (X.map Nx.nd) []→PuIs X r A C 0:=by
 rcases h with ⟨h1,h2⟩|⟨h1,n,y,h2,⟨h3,h4⟩|⟨h3,⟨h4,h5⟩|⟨h4,h5⟩⟩⟩
 ·exact absurd h2.symm h1
 ·exact absurd h4.symm h3
 ·cases h5
 ·exact ⟨h1,h4,fun A C hA hC=>.inr ⟨h1,n,y,h2,.inr ⟨h3,.inr ⟨h4,rfl,hA,hC⟩⟩⟩⟩
set_option maxRecDepth 10000 in
set_option maxHeartbeats 1000000 in
theorem pchk_any (X:List Nx) (a:Option Addr) (c:Nat) (r:Int) (w:World) (h:ScAt w a X) (hX:Small X) (hF:FnX X) (hT:Tabs12 w) :
  Calls Tryz.prog 61 #[.agg #[.slice a X.length c,.int .i64 r]] w fun e w'=>∃k,e=.returned (.int .i64 k)∧ChIs X r k∧Below w.heap.size w w':=by
 have HA0:Hid (AtN 24 (w.alloc (.cells #[.slice a X.length c,.int .i64 r] 24)) w.heap.size #[.slice a X.length c,.int .i64 r]):=AtN.new w 24 _
 have HB0:Hid (Below w.heap.size w (w.alloc (.cells #[.slice a X.length c,.int .i64 r] 24))):=(Below.refl _ _).alloc (Nat.le_refl _) _
 have HTy:Hid (∀W,Below w.heap.size w W→Calls Tryz.prog 45 #[.agg #[.slice a X.length c,.int .i64 r]] W fun e w'=>e=.returned (.tuple #[.int .i64 (tyE X),.int .i64 (tyZ X)])∧Below W.heap.size W w'):=fun W hW=>typed_any X a c r W (h.belowB hW) hX hF (hT.on hW)
 have HCk:Hid (∀W,Below w.heap.size w W→Calls Tryz.prog 46 #[.agg #[.slice a X.length c,.int .i64 r]] W fun e w'=>CheckOut X r W w' e):=fun W hW=>check_any X a c r W (h.belowB hW) hX
 have HIs:Hid (∀W,Below w.heap.size w W→Calls Tryz.prog 113 #[.agg #[.slice a X.length c,.int .i64 r]] W fun e w'=>IsOut X r W w' e):=fun W hW=>is_any X a c r W (h.belowB hW) hX
 have HV:Hid (∀k,ChIs X r k↔((tyE X≠0∧k=tyE X)∨(tyE X=0∧∃n y,CheckIs X r n y∧((n≠0∧k=n)∨(n=0∧((¬IsCan X r∧k=16)∨(IsCan X r∧k=0))))))):=fun _=>Iff.rfl
 obtain ⟨te,hte⟩:∃te,tyE X=te:=⟨_,rfl⟩
 rw [hte] at HTy HV
 generalize tyZ X=tz at *
 clear h hX hF hT hte
 go_enter Tryz.func61,Tryz.ntmps61
 go_wp2_with fail
 refine Calls.mono (HTy.out _ HB0.out) ?_
 rintro e w1 ⟨rfl,hb1⟩
 have HA1:Hid (AtN 24 w1 w.heap.size #[.slice a X.length c,.int .i64 r]):=AtN.belowAll HA0.out hb1
 have HB1:Hid (Below w.heap.size w w1):=HB0.out.trans (hb1.mono HB0.out.size)
 clear HA0 HB0 HTy hb1
 by_cases ht:te=0
 ·have HV0:Hid (∀k,(∃n y,CheckIs X r n y∧((n≠0∧k=n)∨(n=0∧((¬IsCan X r∧k=16)∨(IsCan X r∧k=0)))))→ChIs X r k):=fun k q=>(HV.out k).2 (.inr ⟨ht,q⟩)
  clear HV
  subst ht
  have x0:w1.cell? ⟨w.heap.size,0,none⟩=some (.slice a X.length c):=HA1.out.cell 0
  have x1:w1.cell? ⟨w.heap.size,1,none⟩=some (.int .i64 r):=HA1.out.cell 1
  go_wp2_with fail
  refine Calls.mono (HCk.out _ HB1.out) ?_
  rintro e w2 ⟨n,z,rfl,hck,hb2⟩
  have HA2:Hid (AtN 24 w2 w.heap.size #[.slice a X.length c,.int .i64 r]):=AtN.belowAll HA1.out hb2
  have HB2:Hid (Below w.heap.size w w2):=HB1.out.trans (hb2.mono HB1.out.size)
  have HCi:Hid (CheckIs X r n z):=hck
  clear HA1 HB1 HCk hb2 hck x0 x1
  by_cases hn0:n=0
  ·subst hn0
   have x0:w2.cell? ⟨w.heap.size,0,none⟩=some (.slice a X.length c):=HA2.out.cell 0
   have x1:w2.cell? ⟨w.heap.size,1,none⟩=some (.int .i64 r):=HA2.out.cell 1
   go_wp2_with fail
   refine Calls.mono (HIs.out _ HB2.out) ?_
   rintro e w3 ⟨bc,rfl,hbc,hb3⟩
   have HB3:Hid (Below w.heap.size w w3):=HB2.out.trans (hb3.mono HB2.out.size)
   clear HA2 HB2 HIs hb3 x0 x1
   cases bc with
   | false=>
    have HP:Hid (ChIs X r 16):=HV0.out _ ⟨0,z,HCi.out,.inr ⟨rfl,.inl ⟨fun q=>by simpa using hbc.2 q,rfl⟩⟩⟩
    clear HV0 HCi hbc
    go_wp2_with fail
    go_ret
    exact ⟨_,rfl,HP.out,HB3.out⟩
   | true=>
    have HP:Hid (ChIs X r 0):=HV0.out _ ⟨0,z,HCi.out,.inr ⟨rfl,.inr ⟨hbc.1 rfl,rfl⟩⟩⟩
    clear HV0 HCi hbc
    go_wp2_with fail
    go_ret
    exact ⟨_,rfl,HP.out,HB3.out⟩
  ·have hn0':(n != 0)=true:=by simpa using hn0
   have HP:Hid (ChIs X r n):=HV0.out _ ⟨n,z,HCi.out,.inl ⟨hn0,rfl⟩⟩
   clear HV0 HCi
   go_wp2_with fail
   go_ret
   exact ⟨_,rfl,HP.out,HB2.out⟩
 ·have ht':(te != 0)=true:=by simpa using ht
  have HP:Hid (ChIs X r te):=(HV.out _).2 (.inl ⟨ht,rfl⟩)
  clear HV
  go_wp2_with fail
  go_ret
  exact ⟨_,rfl,HP.out,HB1.out⟩
structure Pq (w wr:World) (cS:Array Value) (g gm:Nat) (v:Value) (gb:Nat) (M:List ByteArray) (l:List UInt8):Prop where
 tb:Tb wr w.heap.size g gm v M
 bu:Bu w.heap.size gb l wr
 sc:AtN 24 wr w.heap.size cS
 bel:Below w.heap.size w wr
 hb:w.heap.size<gb
section
variable {w wr w':World} {cS:Array Value} {g gm gb:Nat} {v:Value} {M M':List ByteArray} {l l':List UInt8}
theorem Pq.more (h:Pq w wr cS g gm v gb M l) (hb:Below wr.heap.size wr w'):Pq w w' cS g gm v gb M l:=
 ⟨h.tb.below hb,h.bu.below hb,h.sc.belowAll hb,h.bel.trans (hb.mono h.bel.size),h.hb⟩
theorem Pq.row {k:Nat} (h:Pq w wr cS g gm v gb M l) (hk:TbS g gm v k) {c:Array Value} {T:TypeId} {fz:Nat × Nat} (hc:wr.heap[k]? = some (.cells c T fz)) (h1:T≠161) (h2:T≠9):False:=by
 rcases h.tb.kinds hk hc with e|e
 ·exact h1 e
 ·exact h2 e
theorem Pq.wrote (h:Pq w wr cS g gm v gb M l) (hb:Below w.heap.size wr w') (hk:Kept gb wr w') (hu:Bu w.heap.size gb l' w'):Pq w w' cS g gm v gb M l':=by
 have F:=Fr.of_kept hb hk
 have h3:=h.hb
 obtain ⟨p,vb,hgb⟩:=h.bu.two
 refine ⟨h.tb.fr F (fun i hi q=>?_),hu,h.sc.fr F (fun q=>?_),h.bel.trans hb,h3⟩
 ·rcases q.2 with rfl|⟨c,fz,e⟩
  ·exact h.row hi hgb (by decide) (by decide)
  ·exact h.row hi e (by decide) (by decide)
 ·rcases q.2 with q2|⟨c,fz,e⟩
  ·omega
  ·have h5:wr.heap[w.heap.size]? = _:=h.sc
   rw [e] at h5
   injection h5 with h5
   injection h5 with _ h5
   revert h5;decide
theorem Pq.interned (h:Pq w wr cS g gm v gb M l) (hi:TIn wr w' w.heap.size g gm v M'):∃v2,Pq w w' cS g gm v2 gb M' l:=by
 obtain ⟨v2,ht,hf,hr⟩:=hi
 have h3:=h.hb
 obtain ⟨p,vb,hgb⟩:=h.bu.two
 refine ⟨v2,ht,h.bu.fr hf (fun q=>?_) (fun k c fz q e=>?_),h.sc.fr hf (fun q=>?_),Fr.below h.bel hf (fun i hi=>h.tb.ge i hi) h.bel.size,h3⟩
 ·exact h.row q hgb (by decide) (by decide)
 ·exact h.row q e (by decide) (by decide)
 ·exact h.row q h.sc (by decide) (by decide)
end
set_option maxRecDepth 10000 in
set_option maxHeartbeats 2000000 in
theorem pnput_any (X:List Nx) (a:Option Addr) (c:Nat) (r:Int) (w:World) (h:ScAt w a X) (hX:Small X) (hF:FnX X) (hT:Tabs12 w) :
  Calls Tryz.prog 32 #[.agg #[.slice a X.length c,.int .i64 r]] w fun e w'=>PuOut X r w w' e:=by
 have HS:Hid (ScAt w a X∧Small X):=⟨h,hX⟩
 have HFn:Hid (FnX X):=hF
 have HTb:Hid (Tabs12 w):=hT
 have hn:=hX.1
 have HA0:Hid (AtN 24 (w.alloc (.cells #[.slice a X.length c,.int .i64 r] 24)) w.heap.size #[.slice a X.length c,.int .i64 r]):=AtN.new w 24 _
 have HB0:Hid (Below w.heap.size w (w.alloc (.cells #[.slice a X.length c,.int .i64 r] 24))):=(Below.refl _ _).alloc (Nat.le_refl _) _
 have HCk:Hid (∀W,Below w.heap.size w W→Calls Tryz.prog 61 #[.agg #[.slice a X.length c,.int .i64 r]] W fun e w'=>∃k,e=.returned (.int .i64 k)∧ChIs X r k∧Below W.heap.size W w'):=fun W hW=>pchk_any X a c r W (h.belowB hW) hX hF (hT.on hW)
 clear h hX hF hT
 go_enter Tryz.func32,Tryz.ntmps32
 go_wp2_with fail
 refine Calls.mono (HCk.out _ HB0.out) ?_
 rintro e w1 ⟨k,rfl,hch,hb1⟩
 have HA1:Hid (AtN 24 w1 w.heap.size #[.slice a X.length c,.int .i64 r]):=AtN.belowAll HA0.out hb1
 have HB1:Hid (Below w.heap.size w w1):=HB0.out.trans (hb1.mono HB0.out.size)
 clear HA0 HB0 HCk hb1
 by_cases hk:k=0
 ·subst hk
  obtain ⟨hty,hcan,hgood⟩:=hch.good
  have HP0:Hid _:=hgood
  have HRe:Hid (∀i,i<X.length→rE (X.getD i noNx).nd i=0):=fun i hi=>can_rE hcan hty hi
  have HTe:Hid (∀i,i<X.length→(X.getD i noNx).nd.texts.length≤2):=fun i hi=>tyN_texts (tyE_all hty i hi)
  have hs1:=HB1.out.size
  have hlt1:=HA1.out.lt
  clear hch hty hcan hgood
  go_wp2_with fail
  refine Calls.mono (tnew_any w1) ?_
  rintro e w2 ⟨rfl,ht2,hb2⟩
  have hs2:=hb2.size
  have HP2:Hid (Pq w (w2.alloc (.cells #[.pointer none,.slice none 0 0] 102)) #[.slice a X.length c,.int .i64 r] (w1.heap.size+1) w1.heap.size (.slice none 0 0) w2.heap.size [] []):=by
   have hb3:Below w2.heap.size w2 (w2.alloc (.cells #[.pointer none,.slice none 0 0] 102)):=(Below.refl _ _).alloc (Nat.le_refl _) _
   have hB2:Below w.heap.size w w2:=HB1.out.trans (hb2.mono hs1)
   exact ⟨(ht2.mono hs1).below hb3,(Bu.new w2).lower (by omega),(HA1.out.belowAll hb2).belowAll hb3,hB2.trans (hb3.mono hB2.size),by omega⟩
  have x0:(w2.alloc (.cells #[.pointer none,.slice none 0 0] 102)).cell? ⟨w.heap.size,0,none⟩=some (.slice a X.length c):=HP2.out.sc.cell 0
  have hlt2:=HP2.out.sc.lt
  have HPn:Hid _:=put_nat X.length (w2.alloc (.cells #[.pointer none,.slice none 0 0] 102)) (by omega)
  clear ht2 hb2 HA1 HB1
  go_wp2_with fail
  obtain ⟨T0,hT0,zT0,hcall⟩:=HPn.out
  refine Calls.mono hcall ?_
  rintro e w3 ⟨rfl,hb3⟩
  have HP3:Hid _:=HP2.out.more hb3
  have HD0:Hid (T0.data.toList=put X.length):=hT0
  have s3:w.heap.size≤w3.heap.size:=HP3.out.bel.size
  clear HP2 HPn hcall hb3 hT0 x0 hlt2
  generalize w2.heap.size=gb at *
  generalize w1.heap.size=gm at *
  go_wp2_with fail
  refine Calls.mono (wstr_any w.heap.size gb [] T0 w3 HP3.out.bu (by simp;omega) s3) ?_
  rintro e w4 ⟨rfl,hu4,hb4,hk4⟩
  have HP4:Hid (Pq w w4 #[.slice a X.length c,.int .i64 r] (gm+1) gm (.slice none 0 0) gb [] ([]++T0.data.toList)):=HP3.out.wrote hb4 hk4 hu4
  rw [HD0.out,List.nil_append] at HP4
  have hl0:(put X.length).length≤10:=(put_length X.length).2
  clear HP3 hu4 hb4 hk4 s3
  have x0:w4.cell? ⟨w.heap.size,0,none⟩=some (.slice a X.length c):=HP4.out.sc.cell 0
  go_wp2_with fail
  go_loopw [27] (fun iv wr=>∃(i:Nat) (l:List UInt8) (M:List ByteArray) (v:Value),iv=.int .i64 i∧i≤X.length∧l.length≤10+32020*i∧M.length≤2*i∧sum6 M≤6000*i∧Hid (l=put X.length++rAllN 0 ((X.take i).map Nx.nd) [])∧Hid (M=rTab ((X.take i).map Nx.nd) [])∧Hid (Pq w wr #[.slice a X.length c,.int .i64 r] (gm+1) gm v gb M l)) (fun iv _=>X.length-(intOf iv).toNat)
  case atStart=>exact ⟨0,put X.length,[],_,rfl,by omega,by omega,by simp,by simp [sum6],by simp [Hid,rAllN],rfl,HP4⟩
  case round=>
   clear HP4 x0
   obtain ⟨i,l,M,v,rfl,hi,hll,hMl,hMs,HL,HM,HP⟩:=hrel
   have sr:=HP.out.bel.size
   by_cases hlt:i<X.length
   ·have hlt':(i:Int)<X.length:=by omega
    obtain ⟨bb,ob,rfl,hbb,z0,z1,z2,z3⟩:=(HS.out.1.belowB HP.out.bel).node hlt
    have HEa:Hid (∀W,Below w.heap.size w W→NdAt W (X.getD i noNx).nd (X.getD i noNx).a1 (X.getD i noNx).a2 (X.getD i noNx).a3):=fun W hW=>(HS.out.1.belowB hW).each i hlt
    have hbig:=HS.out.2.2 i hlt
    have hfi:=HFn.out i hlt
    have hr0:=HRe.out i hlt
    have ht2:=HTe.out i hlt
    have htk:(X.take (i+1)).map Nx.nd=(X.take i).map Nx.nd++[(X.getD i noNx).nd]:=by
     rw [List.take_add_one,List.getElem?_eq_getElem hlt,List.map_append]
     simp [hlt]
    have hlen:((X.take i).map Nx.nd).length=i:=by simp;omega
    generalize X.getD i noNx=x at *
    obtain ⟨W9,hW9⟩:∃W9,wr.alloc (.cells #[.int .i64 x.nd.kind,.slice x.a1 x.nd.ints.length x.c1,.slice x.a2 x.nd.texts.length x.c2,.slice x.a3 x.nd.kids.length x.c3] 62)=W9:=⟨_,rfl⟩
    have hb9:Below wr.heap.size wr W9:=by rw [← hW9];exact (Below.refl _ _).alloc (Nat.le_refl _) _
    have hA9:AtN 62 W9 wr.heap.size #[.int .i64 x.nd.kind,.slice x.a1 x.nd.ints.length x.c1,.slice x.a2 x.nd.texts.length x.c2,.slice x.a3 x.nd.kids.length x.c3]:=by rw [← hW9];exact AtN.new wr 62 _
    have HP9:Hid (Pq w W9 #[.slice (some ⟨bb,ob,none⟩) X.length c,.int .i64 r] (gm+1) gm v gb M l):=HP.out.more hb9
    obtain ⟨g0,g1,g2,g3⟩:=big_no hbig
    have HPc:Hid _:=pput_any x.nd x.a1 x.a2 x.a3 x.c1 x.c2 x.c3 (i:Int) W9 HP9.out.tb (by omega) (by omega) (HTb.out.on HP9.out.bel) (fun W k=>HEa.out W (Fr.below HP9.out.bel k (fun q hq=>HP9.out.tb.ge q hq) HP9.out.bel.size)) hfi (by omega) (by omega) (by omega) g3 (by omega)
    have n0:W9.cell? ⟨wr.heap.size,0,none⟩=some (.int .i64 x.nd.kind):=hA9.cell 0
    have n1:W9.cell? ⟨wr.heap.size,1,none⟩=some (.slice x.a1 x.nd.ints.length x.c1):=hA9.cell 1
    have n2:W9.cell? ⟨wr.heap.size,2,none⟩=some (.slice x.a2 x.nd.texts.length x.c2):=hA9.cell 2
    have n3:W9.cell? ⟨wr.heap.size,3,none⟩=some (.slice x.a3 x.nd.kids.length x.c3):=hA9.cell 3
    clear hA9 HP HEa hb9 hfi
    go_wp2_with fail
    clear hW9
    refine Calls.mono HPc.out ?_
    rintro e w5 ⟨Sx,M5,k5,rfl,hP5,hI5⟩
    obtain ⟨v5,hp5⟩:=HP9.out.interned hI5
    obtain ⟨hk5,-,hz5⟩:=hP5
    obtain ⟨hS5,hM5⟩:=hz5 (hk5.trans hr0)
    have HP5:Hid (Pq w w5 #[.slice (some ⟨bb,ob,none⟩) X.length c,.int .i64 r] (gm+1) gm v5 gb M5 l):=hp5
    have hSz:Sx.size≤32020:=by
     have h1:=rB_size x.nd (i:Int) M hbig
     rw [← hS5] at h1
     have h2:Sx.size=Sx.data.toList.length:=by rw [Array.length_toList];rfl
     omega
    have HL5:Hid (l++Sx.data.toList=put X.length++rAllN 0 ((X.take (i+1)).map Nx.nd) []):=by
     show _=_
     rw [HL.out,hS5,htk,rAllN_snoc,hlen,← HM.out,List.append_assoc,Nat.zero_add]
    have HM5:Hid (M5=rTab ((X.take (i+1)).map Nx.nd) []):=by
     show _=_
     rw [htk,rTab_snoc,← HM.out,hM5]
    have hMl5:M5.length≤2*(i+1):=by have:=itF_len x.nd.texts M;rw [← hM5] at this;omega
    have hMs5:sum6 M5≤6000*(i+1):=by
     have:=itF_sumB x.nd.texts M g3
     rw [← hM5] at this
     omega
    have hll5:(l++Sx.data.toList).length≤10+32020*(i+1):=by rw [List.length_append,list_size];omega
    have s5:=HP5.out.bel.size
    clear HPc HL HM HP9 hI5 hp5 hk5 hz5 hS5 hM5 hr0 ht2 htk hlen z0 z1 z2 z3 hbb hbig n0 n1 n2 n3 g0 g1 g2 g3
    go_wp2_with fail
    refine Calls.mono (wstr_any w.heap.size gb l Sx w5 HP5.out.bu (by omega) s5) ?_
    rintro e w6 ⟨rfl,hu6,hb6,hk6⟩
    have HP6:Hid _:=HP5.out.wrote hb6 hk6 hu6
    clear HP5 hu6 hb6 hk6
    go_wp2_with fail
    go_roundw
    case rel=>exact ⟨i+1,l++Sx.data.toList,M5,v5,by go_num,by omega,hll5,hMl5,hMs5,HL5,HM5,HP6⟩
    case measure=>simp [intOf];omega
   ·have hlt':¬(i:Int)<X.length:=by omega
    have hall:(X.take i).map Nx.nd=X.map Nx.nd:=by rw [List.take_of_length_le (by omega)]
    have hL:=HL.out
    have hM:=HM.out
    rw [hall] at hL hM
    have hl9:l≠[]:=fun q=>by
     have h1:=congrArg List.length hL
     rw [q,List.length_append] at h1
     have h2:=(put_length X.length).1
     simp at h1
     omega
    have HPu:Hid (PuIs X r ⟨(pPut6 M).toArray⟩ ⟨l.toArray⟩ 0):=HP0.out _ _ (by rw [← hM]) hL
    have HPt:Hid _:=tput_any HP.out.tb (by omega) (by omega)
    clear HL HM hL hM hall HRe HTe HP0
    generalize (⟨(pPut6 M).toArray⟩:ByteArray)=A at *
    go_wp2_with fail
    refine Calls.mono HPt.out ?_
    rintro e w5 ⟨rfl,hb5⟩
    have HP5:Hid _:=HP.out.more hb5
    clear HPt HP hb5
    go_wp2_with fail
    refine Calls.mono (bstr_any w.heap.size gb l w5 HP5.out.bu hl9) ?_
    rintro e w6 ⟨rfl,hb6⟩
    have HB6:Hid (Below w.heap.size w w6):=HP5.out.bel.trans hb6
    clear HP5 hb6
    go_wp2_with fail
    go_ret3
    exact ⟨_,_,_,rfl,HPu.out,HB6.out⟩
 ·have hk':(k != 0)=true:=by simpa using hk
  have HP:Hid (PuIs X r ⟨#[]⟩ ⟨#[]⟩ k):=hch.bad hk
  clear hch
  go_wp2_with fail
  go_ret3
  exact ⟨_,_,_,rfl,HP.out,HB1.out⟩
end Go.Proofs.YtcgjgjjegnofeaaGreatDoor
namespace Go.Proofs.YtcgjgjjegnofeaaGreatDoor
open Go.RowKit Go.Maps Go.WideMaps Go.Sort
set_option maxRecDepth 10000 in
set_option maxHeartbeats 2000000 in
theorem pfsave_any (X:List Nx) (a:Option Addr) (c:Nat) (r:Int) (l:Lm) (w:World) (h:ScAt w a X) (hX:Small X) (hF:FnX X) (hT:Tabs12 w) (hz:Whole X r→(cA X r).size≤4000000∧(cC X r).size≤4000000) :
  Calls Tryz.prog 12 #[.agg #[.slice a X.length c,.int .i64 r],.agg (liC l)] w fun e w'=>SvOut X r l w w' e:=by
 obtain ⟨d,hd⟩:=depth_there X r
 have hlC:liC l=#[.int .i64 l.b,.int .i64 l.n,.int .i64 l.e,.int .i64 l.d,.int .i64 l.x]:=rfl
 have HA:Hid (∀(o1 o2:Obj),o1=.cells #[.slice a X.length c,.int .i64 r] 24→o2=.cells (liC l) 26→AtN 24 ((w.alloc o1).alloc o2) w.heap.size #[.slice a X.length c,.int .i64 r]∧AtN 26 ((w.alloc o1).alloc o2) (w.heap.size+1) (liC l)∧Below w.heap.size w ((w.alloc o1).alloc o2)):=by
  rintro _ _ rfl rfl
  exact ⟨(AtN.new w 24 _).alloc _,mk_at (AtN.new (w.alloc _) 26 _) (show _=w.heap.size+1 by simp),((Below.refl w.heap.size w).alloc (Nat.le_refl _) _).alloc (by simp) _⟩
 have HV:Hid (∀W,Below w.heap.size w W→Calls Tryz.prog 19 #[.agg #[.slice a X.length c,.int .i64 r],.agg #[.int .i64 l.b,.int .i64 l.n,.int .i64 l.e,.int .i64 l.d,.int .i64 l.x]] W fun e w'=>VaOut X r l d W w' e):=fun W hW=>valid_any X a c r l d W (h.belowB hW) hX hF (hT.on hW) hd
 have HC:Hid (∀W,Whole X r→Below w.heap.size w W→Calls Tryz.prog 31 #[.agg #[.slice a X.length c,.int .i64 r]] W fun e w'=>∃(Y:List Nx) (ay:Option Addr) (cy:Nat),e=.returned (.tuple #[.agg #[.slice ay Y.length cy,.int .i64 ((X.length:Int)-1)],.int .i64 0])∧Y.map Nx.nd=cX X r∧ScAt w' ay Y∧Below W.heap.size W w'):=fun W hw hW=>by
  refine Calls.mono (canon_any X a c r W (h.belowB hW) hX) ?_
  rintro e w' ⟨h1,_,h3⟩
  obtain ⟨Y,ay,cy,q1,q2,q3⟩:=h1 hw.2
  exact ⟨Y,ay,cy,q1,q2,q3,h3⟩
 have HP:Hid (∀(Y:List Nx) (a':Option Addr) (c':Nat) (W:World),Whole X r→Y.map Nx.nd=cX X r→ScAt W a' Y→Below w.heap.size w W→Calls Tryz.prog 32 #[.agg #[.slice a' Y.length c',.int .i64 ((X.length:Int)-1)]] W fun e w'=>e=.returned (.tuple #[.string (cA X r),.string (cC X r),.int .i64 0])∧Below W.heap.size W w'):=fun Y a' c' W hw hY hs hW=>by
  have hR:=can_ren hw.2 hY
  refine Calls.mono (pnput_any Y a' c' _ W hs (hR.small hX) (hR.fnx hF) (hT.on hW)) ?_
  rintro e w' ⟨A,C,k,rfl,hp,hb⟩
  obtain ⟨rfl,rfl,rfl⟩:=put_can hw hY hp
  exact ⟨rfl,hb⟩
 have HS:Hid (∀(W:World) (g:Nat),Whole X r→AtN 52 W g #[.int .i64 1,.string (cA X r),.int .i64 2,.string (cC X r)]→Calls Tryz.prog 33 #[.string ⟨#[68,73,79,82]⟩,.int .i64 2,.slice (some ⟨g,0,none⟩) 2 2] W fun e w'=>e=.returned (.tuple #[.string (cF X r),.int .i64 0])∧Below W.heap.size W w'):=fun W g hw hs=>by
  have hz2:=hz hw
  have h:=fput_any mD 2 (some ⟨g,0,none⟩) 2 g 0 (secs2 (cA X r) (cC X r)) W (by simp [secs2]) (fun _=>rfl) (secs_at hs) (fun s q=>by
   simp only [secs2,List.mem_cons,List.not_mem_nil,or_false] at q
   rcases q with rfl|rfl
   ·exact hz2.1
   ·exact hz2.2)
  rw [secs2_put (by omega) (by omega)] at h
  exact h
 have HD:Hid (DepthIs X r d):=hd
 have HI:Hid (∀n z B e,VaIs X r l d n z→((n≠0∧e=n∧B=⟨#[]⟩)∨(n=0∧((l.b<(cF X r).size∧e=19∧B=⟨#[]⟩)∨(¬l.b<(cF X r).size∧e=0∧B=cF X r))))→SvIs X r l B e):=fun n z B e h1 h2=>⟨d,n,z,hd,h1,h2⟩
 generalize cF X r=F at *
 generalize cA X r=A at *
 generalize cC X r=C at *
 clear h hX hF hz hd hT
 go_enter Tryz.func12,Tryz.ntmps12
 rw [hlC]
 go_wp2_with fail
 obtain ⟨h1,h2,h3⟩:=HA.out _ _ rfl rfl
 rw [hlC] at h1 h2 h3
 refine Calls.mono (HV.out _ h3) ?_
 rintro e w1 ⟨n,z,rfl,hv,hb1⟩
 have HS1:Hid (AtN 24 w1 w.heap.size #[.slice a X.length c,.int .i64 r]):=h1.belowAll hb1
 have HL1:Hid (AtN 26 w1 (w.heap.size+1) #[.int .i64 l.b,.int .i64 l.n,.int .i64 l.e,.int .i64 l.d,.int .i64 l.x]):=h2.belowAll hb1
 have HB1:Hid (Below w.heap.size w w1):=h3.trans (hb1.mono h3.size)
 have HVa:Hid (VaIs X r l d n z):=hv
 clear HA HV h1 h2 h3 hb1 hv hlC
 by_cases hn:n=0
 ·subst hn
  have HW:Hid (Whole X r):=(va_whole HVa.out).2.1
  have x0:w1.cell? ⟨w.heap.size,0,none⟩=some (.slice a X.length c):=HS1.out.cell 0
  have x1:w1.cell? ⟨w.heap.size,1,none⟩=some (.int .i64 r):=HS1.out.cell 1
  go_wp2_with fail
  refine Calls.mono (HC.out _ HW.out HB1.out) ?_
  rintro e w2 ⟨Y,ay,cy,rfl,hY,hs,hb2⟩
  obtain ⟨w3,hw3⟩:∃w3,w2.alloc (.cells #[.slice ay Y.length cy,.int .i64 ((X.length:Int)-1)] 24)=w3:=⟨_,rfl⟩
  have hb3:Below w2.heap.size w2 w3:=by rw [← hw3];exact (Below.refl w2.heap.size w2).alloc (Nat.le_refl _) _
  have HM3:Hid (AtN 24 w3 w2.heap.size #[.slice ay Y.length cy,.int .i64 ((X.length:Int)-1)]):=by rw [← hw3];exact AtN.new w2 24 _
  have HL3:Hid (AtN 26 w3 (w.heap.size+1) #[.int .i64 l.b,.int .i64 l.n,.int .i64 l.e,.int .i64 l.d,.int .i64 l.x]):=(HL1.out.belowAll hb2).belowAll hb3
  have hB2:Below w.heap.size w w2:=HB1.out.trans (hb2.mono HB1.out.size)
  have HB3:Hid (Below w.heap.size w w3):=hB2.trans (hb3.mono hB2.size)
  have HPc:Hid _:=HP.out Y ay cy w3 HW.out hY (hs.belowB hb3) HB3.out
  clear HC HP HS1 HL1 HB1 hY hs hb2 hb3 hB2 x0 x1
  have m0:w3.cell? ⟨w2.heap.size,0,none⟩=some (.slice ay Y.length cy):=HM3.out.cell 0
  have m1:w3.cell? ⟨w2.heap.size,1,none⟩=some (.int .i64 ((X.length:Int)-1)):=HM3.out.cell 1
  go_wp2_with fail
  clear hw3
  refine Calls.mono HPc.out ?_
  rintro e w4 ⟨rfl,hb4⟩
  have HB4:Hid (Below w.heap.size w w4):=HB3.out.trans (hb4.mono HB3.out.size)
  have HL4:Hid (AtN 26 w4 (w.heap.size+1) #[.int .i64 l.b,.int .i64 l.n,.int .i64 l.e,.int .i64 l.d,.int .i64 l.x]):=HL3.out.belowAll hb4
  have HSc:Hid (∀o:Obj,o=.cells #[.int .i64 1,.string A,.int .i64 2,.string C] 52→(Below w.heap.size w (w4.alloc o)∧AtN 26 (w4.alloc o) (w.heap.size+1) #[.int .i64 l.b,.int .i64 l.n,.int .i64 l.e,.int .i64 l.d,.int .i64 l.x])∧Calls Tryz.prog 33 #[.string ⟨#[68,73,79,82]⟩,.int .i64 2,.slice (some ⟨w4.heap.size,0,none⟩) 2 2] (w4.alloc o) fun e w'=>e=.returned (.tuple #[.string F,.int .i64 0])∧Below (w4.alloc o).heap.size (w4.alloc o) w'):=by
   rintro _ rfl
   exact ⟨⟨HB4.out.alloc HB4.out.size _,HL4.out.alloc _⟩,HS.out _ _ HW.out (AtN.new w4 52 _)⟩
  clear HPc HM3 HL3 HB3 hb4 m0 m1 HS
  go_wp2_with fail
  obtain ⟨⟨hb5,hl5⟩,hc5⟩:=HSc.out _ rfl
  refine Calls.mono hc5 ?_
  rintro e w6 ⟨rfl,hb6⟩
  have HB6:Hid (Below w.heap.size w w6):=hb5.trans (hb6.mono hb5.size)
  have y0:w6.cell? ⟨w.heap.size+1,0,none⟩=some (.int .i64 l.b):=(hl5.belowAll hb6).cell 0
  clear HSc hb5 hl5 hc5 hb6 HB4 HL4
  by_cases hlt:l.b<(F.size:Int)
  ·have HP:Hid (SvIs X r l ⟨#[]⟩ 19):=HI.out 0 z _ _ HVa.out (.inr ⟨rfl,.inl ⟨hlt,rfl,rfl⟩⟩)
   clear HI HVa HD HW
   go_wp2_with fail
   go_ret2
   exact ⟨_,_,rfl,HP.out,HB6.out⟩
  ·have HP:Hid (SvIs X r l F 0):=HI.out 0 z _ _ HVa.out (.inr ⟨rfl,.inr ⟨by first|exact hlt|exact Int.not_lt.1 hlt,rfl,rfl⟩⟩)
   clear HI HVa HD HW
   go_wp2_with fail
   go_ret2
   exact ⟨_,_,rfl,HP.out,HB6.out⟩
 ·have hn':(n != 0)=true:=by simpa using hn
  have HP:Hid (SvIs X r l ⟨#[]⟩ n):=HI.out n z _ _ HVa.out (.inl ⟨hn,rfl,rfl⟩)
  clear HI HVa HD HC HS
  go_wp2_with fail
  go_ret2
  exact ⟨_,_,rfl,HP.out,HB1.out⟩
end Go.Proofs.YtcgjgjjegnofeaaGreatDoor
namespace Go.Proofs.YtcgjgjjegnofeaaGreatDoor
theorem ba_ext {a b:ByteArray} (h:a.data.toList=b.data.toList):a=b:=ByteArray.ext (Array.toList_inj.1 h)
theorem ext_size (b:ByteArray) (k:Nat) (h:k≤b.size):(b.extract 0 k).size=k:=by rw [ByteArray.size_extract];omega
end Go.Proofs.YtcgjgjjegnofeaaGreatDoor
namespace Go.Proofs.YtcgjgjjegnofeaaGreatDoor
theorem data_two (a b:ByteArray):(a++b).data.toList=a.data.toList++b.data.toList:=by rw [ByteArray.data_append,Array.toList_append]
end Go.Proofs.YtcgjgjjegnofeaaGreatDoor
