import Derived.Deep.QuietTactic
import Derived.BigQuiet
import Derived.Test.YtgoffkfpdigeeaaGreatDoorL04
import Derived.Test.YtgoffkfpdigeeaaGreatDoorL05
import Derived.Test.YtgoffkfpdigeeaaGreatDoorL07
namespace Go.Proofs.YtgoffkfpdigeeaaGreatDoor
open Go.RowKit
theorem pFirst_lt8 (l:List UInt8):pFirst l<0↔(read l).2=l.length:=by
 unfold pFirst
 split <;> omega
def ok8 (s:ByteArray):Bool:=decide (pFirst s.data.toList<0)
def fitI (C L:List Int):Bool:=decide (L.length=C.length) && (List.range L.length).all (fun i=>in7 (C.getD i 0) (L.getD i 0))
def fitT (L:List ByteArray) (t:Int):Bool:=decide ((L.length:Int)=t) && L.all ok8
def fitK (k:Nat) (l m:Int):Bool:=decide (l≤k) && (decide (m<0) || decide ((k:Int)≤m))
def chkN (N:Nd) (C:List Int) (t l m:Int):Int:=if fitI C N.ints=false then 10 else if fitT N.texts t=false then 11 else if fitK N.kids.length l m=false then 12 else 0
theorem fitI_no (C L:List Int) (i:Nat) (h:i<L.length) (hi:in7 (C.getD i 0) (L.getD i 0)=false):fitI C L=false:=by
 unfold fitI
 rw [show (List.range L.length).all (fun i=>in7 (C.getD i 0) (L.getD i 0))=false from List.all_eq_false.2 ⟨i,by simpa using h,by simp only [hi];simp⟩,Bool.and_false]
theorem fitI_yes (C L:List Int) (hl:L.length=C.length) (h:∀i,i<L.length→in7 (C.getD i 0) (L.getD i 0)=true):fitI C L=true:=by
 unfold fitI
 rw [decide_eq_true hl,Bool.true_and,List.all_eq_true]
 intro i hi
 exact h i (by simpa using hi)
theorem fitT_no (L:List ByteArray) (t:Int) (i:Nat) (h:i<L.length) (hi:ok8 (L.getD i noT)=false):fitT L t=false:=by
 unfold fitT
 rw [show L.all ok8=false from List.all_eq_false.2 ⟨L.getD i noT,by simp [h],by rw [hi];simp⟩,Bool.and_false]
theorem fitT_yes (L:List ByteArray) (t:Int) (hl:(L.length:Int)=t) (h:∀i,i<L.length→ok8 (L.getD i noT)=true):fitT L t=true:=by
 unfold fitT
 rw [decide_eq_true hl,Bool.true_and,List.all_eq_true]
 intro s hs
 obtain ⟨i,hi,rfl⟩:=List.getElem_of_mem hs
 have:=h i hi
 simpa [hi] using this
def fine (L:List Int):Prop:=∀i,i<L.length→-9223372036854775808≤L.getD i 0∧L.getD i 0≤9223372036854775807
set_option maxRecDepth 10000 in
set_option maxHeartbeats 400000 in
theorem intsFit_any (L C:List Int) (a b:Option Addr) (c d:Nat) (w:World) (hL:LsAt w a (iV L)) (hC:LsAt w b (iV C)) (hT:TabAt w 1 spansC) (hf:fine L) (hs:L.length≤100) :
  Calls Tryz.prog 163 #[.slice a L.length c,.slice b C.length d] w fun e w'=>e=.returned (.bool (fitI C L))∧w'=w:=by
 by_cases hl:L.length=C.length
 ·have H:Hid _:=fun (c n:Int) (h : -9223372036854775808≤n∧n≤9223372036854775807)=>in_any c n w hT h.1 h.2
  have HL:Hid _:=hL
  have HC:Hid _:=hC
  have HF:Hid _:=hf
  have HE:Hid _:=hl
  obtain ⟨G,hG⟩:∃G,fitI C L=G:=⟨_,rfl⟩
  have HG:Hid _:=hG
  rw [hG,← hl]
  clear hL hC hT hf hG hl
  go_enter Tryz.func163,Tryz.ntmps163
  go_wp2_with fail
  go_loopw [14] (fun iv wr=>∃i:Nat,iv=.int .i64 i∧i≤L.length∧wr=w∧Hid (∀k,k<i→in7 (C.getD k 0) (L.getD k 0)=true)) (fun iv _=>L.length-(intOf iv).toNat)
  case atStart=>exact ⟨0,rfl,by omega,rfl,fun k hk=>by omega⟩
  case round=>
   obtain ⟨i,rfl,hi,hw,HI⟩:=hrel
   subst hw
   by_cases hlt:i<L.length
   ·have hlt':(i:Int)<L.length:=by omega
    obtain ⟨ga,oa,rfl,la,da⟩:=LsAt.at HL.out (iV_at L i hlt)
    obtain ⟨gb,ob,rfl,lb,db⟩:=LsAt.at HC.out (iV_at C i (by rw [← HE.out];exact hlt))
    have HN:Hid (in7 (C.getD i 0) (L.getD i 0)=false→G=false):=fun h=>by rw [← HG.out];exact fitI_no C L i hlt h
    have HY:Hid (in7 (C.getD i 0) (L.getD i 0)=true→∀k,k<i+1→in7 (C.getD k 0) (L.getD k 0)=true):=fun h k hk=>by
     by_cases hki:k=i
     ·subst hki;exact h
     ·exact HI.out k (by omega)
    have HZ:Hid _:=H.out (C.getD i 0) (L.getD i 0) (HF.out i hlt)
    clear HI H HF HL HC
    generalize in7 (C.getD i 0) (L.getD i 0)=q at *
    generalize L.getD i 0=x at *
    generalize C.getD i 0=y at *
    go_wp2_with fail
    refine Calls.mono (Hid.out HZ) ?_
    rintro e w1 ⟨rfl,rfl⟩
    cases q
    ·go_wp2_with fail
     go_ret
     rw [HN.out (by first|rfl|trivial)]
     exact ⟨rfl,rfl⟩
    ·go_wp2_with fail
     go_roundw
     case rel=>exact ⟨i+1,by go_num,by omega,by first|rfl|trivial,HY.out (by first|rfl|trivial)⟩
     case measure=>simp [intOf];omega
   ·have hlt':¬(i:Int)<L.length:=by omega
    have HV:Hid (G=true):=by
     show _=_
     rw [← HG.out]
     exact fitI_yes C L HE.out (fun k hk=>HI.out k (by omega))
    clear HI HF HL HC H HG
    go_wp2_with fail
    go_ret
    rw [HV.out]
    exact ⟨rfl,rfl⟩
 ·have hl':¬(L.length:Int)=C.length:=by omega
  rw [show fitI C L=false by unfold fitI;rw [decide_eq_false hl,Bool.false_and]]
  clear hL hC hT hf
  go_enter Tryz.func163,Tryz.ntmps163
  go_wp2_with fail
  go_ret
  exact ⟨rfl,rfl⟩
set_option maxRecDepth 10000 in
set_option maxHeartbeats 400000 in
theorem textsFit_any (L:List ByteArray) (t:Int) (a:Option Addr) (c:Nat) (w:World) (hL:LsAt w a (tV L)) (hs:L.length≤100) (hz:∀s ∈ L,s.size≤4000000) :
  Calls Tryz.prog 164 #[.slice a L.length c,.int .i64 t] w fun e w'=>e=.returned (.bool (fitT L t))∧Below w.heap.size w w':=by
 by_cases hl:(L.length:Int)=t
 ·have HL:Hid _:=hL
  have HE:Hid _:=hl
  have HZ:Hid _:=hz
  obtain ⟨G,hG⟩:∃G,fitT L t=G:=⟨_,rfl⟩
  have HG:Hid _:=hG
  rw [hG,← hl]
  clear hL hG hl hz
  go_enter Tryz.func164,Tryz.ntmps164
  go_wp2_with fail
  go_loopw [13] (fun iv wr=>∃i:Nat,iv=.int .i64 i∧i≤L.length∧Below w.heap.size w wr∧Hid (∀k,k<i→ok8 (L.getD k noT)=true)) (fun iv _=>L.length-(intOf iv).toNat)
  case atStart=>exact ⟨0,rfl,by omega,Below.refl _ _,fun k hk=>by omega⟩
  case round=>
   obtain ⟨i,rfl,hi,hB,HI⟩:=hrel
   by_cases hlt:i<L.length
   ·have hlt':(i:Int)<L.length:=by omega
    obtain ⟨ga,oa,rfl,la,da⟩:=(LsAt.belowB HL.out hB).at (tV_at L i hlt)
    have HF:Hid _:=fun (W:World)=>first_any (L.getD i noT) W (by have:=HZ.out (L.getD i noT) (by simp [hlt]);omega)
    have HN:Hid (¬pFirst (L.getD i noT).data.toList<0→G=false):=fun h=>by rw [← HG.out];exact fitT_no L t i hlt (decide_eq_false h)
    have HY:Hid (pFirst (L.getD i noT).data.toList<0→∀k,k<i+1→ok8 (L.getD k noT)=true):=fun h k hk=>by
     by_cases hki:k=i
     ·subst hki;exact decide_eq_true h
     ·exact HI.out k (by omega)
    clear HI HL HZ HG
    generalize pFirst (L.getD i noT).data.toList=f at *
    generalize L.getD i noT=s at *
    have HB:Hid _:=hB
    clear hB
    go_wp2_with fail
    refine (Hid.out HF _).mono ?_
    rintro e w1 ⟨rfl,hb1⟩
    have HB1:Hid (Below w.heap.size w w1):=HB.out.trans (hb1.mono HB.out.size)
    clear hb1 HB HF
    by_cases hf:f<0
    ·have hf':¬0≤f:=by omega
     go_wp2_with fail
     go_roundw
     case rel=>exact ⟨i+1,by go_num,by omega,HB1.out,HY.out hf⟩
     case measure=>simp [intOf];omega
    ·have hf':0≤f:=by omega
     go_wp2_with fail
     go_ret
     rw [HN.out (by omega)]
     exact ⟨rfl,HB1.out⟩
   ·have hlt':¬(i:Int)<L.length:=by omega
    have HV:Hid (G=true):=by
     show _=_
     rw [← HG.out]
     exact fitT_yes L t HE.out (fun k hk=>HI.out k (by omega))
    have HB:Hid _:=hB
    clear HI HL HG HZ hB
    go_wp2_with fail
    go_ret
    rw [HV.out]
    exact ⟨rfl,HB.out⟩
 ·rw [show fitT L t=false by unfold fitT;rw [decide_eq_false hl,Bool.false_and]]
  clear hL hz
  go_enter Tryz.func164,Tryz.ntmps164
  go_wp2_with fail
  go_ret
  exact ⟨rfl,Below.refl _ _⟩
set_option maxRecDepth 10000 in
set_option maxHeartbeats 400000 in
theorem kidsFit_any (k:Nat) (v:Option Addr) (n c:Nat) (t l m:Int) (w:World) :
  Calls Tryz.prog 165 #[.int .i64 k,.agg #[.slice v n c,.int .i64 t,.int .i64 l,.int .i64 m]] w fun e w'=>e=.returned (.bool (fitK k l m))∧Below w.heap.size w w':=by
 have HB:Hid _:=fun (o:Obj)=>(Below.refl w.heap.size w).alloc (Nat.le_refl _) o
 unfold fitK
 by_cases h1:l≤k
 ·by_cases h2:m<0
  ·rw [decide_eq_true h1,decide_eq_true h2]
   go_enter Tryz.func165,Tryz.ntmps165
   go_wp2_with fail
   go_ret
   exact ⟨rfl,HB.out _⟩
  ·by_cases h3:(k:Int)≤m
   ·rw [decide_eq_true h1,decide_eq_false h2,decide_eq_true h3]
    go_enter Tryz.func165,Tryz.ntmps165
    go_wp2_with fail
    go_ret
    exact ⟨rfl,HB.out _⟩
   ·rw [decide_eq_true h1,decide_eq_false h2,decide_eq_false h3]
    go_enter Tryz.func165,Tryz.ntmps165
    go_wp2_with fail
    go_ret
    exact ⟨rfl,HB.out _⟩
 ·rw [decide_eq_false h1]
  go_enter Tryz.func165,Tryz.ntmps165
  go_wp2_with fail
  go_ret
  exact ⟨rfl,HB.out _⟩
end Go.Proofs.YtgoffkfpdigeeaaGreatDoor
namespace Go.Proofs.YtgoffkfpdigeeaaGreatDoor
open Go.RowKit
theorem TabAt.bel {w w':World} {g:Nat} {l:List Value} (h:TabAt w g l) (hb:Below w.heap.size w w'):TabAt w' g l:=h.below hb
set_option maxRecDepth 10000 in
set_option maxHeartbeats 400000 in
theorem fcheck_any (N:Nd) (C:List Int) (t l m:Int) (a1 a2 a3 b:Option Addr) (c1 c2 c3 d:Nat) (w:World) (h:NdAt w N a1 a2 a3) (hC:LsAt w b (iV C)) (hT:TabAt w 1 spansC) (hf:fine N.ints) (h1:N.ints.length≤100) (h2:N.texts.length≤100) (h4:∀s ∈ N.texts,s.size≤4000000) :
  Calls Tryz.prog 137 #[.agg #[.int .i64 N.kind,.slice a1 N.ints.length c1,.slice a2 N.texts.length c2,.slice a3 N.kids.length c3],.agg #[.slice b C.length d,.int .i64 t,.int .i64 l,.int .i64 m]] w fun e w'=>e=.returned (.int .i64 (chkN N C t l m))∧Below w.heap.size w w':=by
 have HB:Hid _:=fun (o p:Obj)=>((Below.refl w.heap.size w).alloc (Nat.le_refl _) o).alloc (by simp) p
 have H1:Hid _:=fun (W:World) (hb:Below w.heap.size w W)=>intsFit_any N.ints C a1 b c1 d W (h.i.belowB hb) (hC.belowB hb) (hT.below hb) hf h1
 have H2:Hid _:=fun (W:World) (hb:Below w.heap.size w W)=>textsFit_any N.texts t a2 c2 W (h.t.belowB hb) h2 h4
 have H3:Hid _:=fun (W:World)=>kidsFit_any N.kids.length b C.length d t l m W
 clear h hC hT hf h4
 unfold chkN
 generalize fitI C N.ints=q1 at *
 generalize fitT N.texts t=q2 at *
 generalize fitK N.kids.length l m=q3 at *
 have n1:=(AtN.new w 51 #[.int .i64 N.kind,.slice a1 N.ints.length c1,.slice a2 N.texts.length c2,.slice a3 N.kids.length c3]).alloc (.cells #[.slice b C.length d,.int .i64 t,.int .i64 l,.int .i64 m] 117)
 have n2:=mk_at (AtN.new (w.alloc (.cells #[.int .i64 N.kind,.slice a1 N.ints.length c1,.slice a2 N.texts.length c2,.slice a3 N.kids.length c3] 51)) 117 #[.slice b C.length d,.int .i64 t,.int .i64 l,.int .i64 m]) (show _=w.heap.size+1 by simp)
 have HN:Hid _:=And.intro n1 (And.intro n2 (HB.out (.cells #[.int .i64 N.kind,.slice a1 N.ints.length c1,.slice a2 N.texts.length c2,.slice a3 N.kids.length c3] 51) (.cells #[.slice b C.length d,.int .i64 t,.int .i64 l,.int .i64 m] 117)))
 clear n1 n2 HB
 go_enter Tryz.func137,Tryz.ntmps137
 go_wp2_with fail
 refine (H1.out _ HN.out.2.2).mono ?_
 rintro e w1 ⟨rfl,rfl⟩
 cases q1
 ·go_wp2_with fail
  go_ret
  exact ⟨rfl,HN.out.2.2⟩
 ·go_wp2_with fail
  refine (H2.out _ HN.out.2.2).mono ?_
  rintro e w2 ⟨rfl,hb2⟩
  have n1:=HN.out.1.belowAll hb2
  have n2:=HN.out.2.1.belowAll hb2
  have B2:Below w.heap.size w w2:=HN.out.2.2.trans (hb2.mono HN.out.2.2.size)
  have x3:w2.cell? ⟨w.heap.size,3,none⟩=some (.slice a3 N.kids.length c3):=n1.cell 3
  have y0:w2.cell? ⟨w.heap.size+1,0,none⟩=some (.slice b C.length d):=n2.cell 0
  have y1:w2.cell? ⟨w.heap.size+1,1,none⟩=some (.int .i64 t):=n2.cell 1
  have y2:w2.cell? ⟨w.heap.size+1,2,none⟩=some (.int .i64 l):=n2.cell 2
  have y3:w2.cell? ⟨w.heap.size+1,3,none⟩=some (.int .i64 m):=n2.cell 3
  have HB2:Hid _:=B2
  clear n1 n2 B2 hb2 HN
  cases q2
  ·go_wp2_with fail
   go_ret
   exact ⟨rfl,HB2.out⟩
  ·go_wp2_with fail
   refine (H3.out _).mono ?_
   rintro e w3 ⟨rfl,hb3⟩
   have HB3:Hid _:=HB2.out.trans (hb3.mono HB2.out.size)
   clear hb3
   cases q3
   ·go_wp2_with fail
    go_ret
    exact ⟨rfl,HB3.out⟩
   ·go_wp2_with fail
    go_ret
    exact ⟨rfl,HB3.out⟩
set_option maxRecDepth 10000 in
set_option maxHeartbeats 400000 in
theorem utf8_any (s:ByteArray) (w:World) (hs:s.size≤100000) :
  Calls Tryz.prog 85 #[.string s] w fun e w'=>e=.returned (.bool (ok8 s))∧Below w.heap.size w w':=by
 have hsz:s.data.toList.length=s.size:=by rw [Array.length_toList];rfl
 have H:Hid _:=read_any s w (by omega)
 have hk:ok8 s=decide ((read s.data.toList).2=s.size):=by
  unfold ok8
  rw [← hsz]
  exact decide_eq_decide.2 (pFirst_lt8 _)
 rw [hk]
 clear hk
 generalize (read s.data.toList).2=n at *
 by_cases hn:n=s.size
 ·rw [decide_eq_true hn]
  have hn':(n:Int)=s.size:=by omega
  go_enter Tryz.func85,Tryz.ntmps85
  go_wp2_with fail
  refine Calls.mono H.out ?_
  rintro e w1 ⟨a,cap,gk,rfl,-,-,hb⟩
  have HB:Hid _:=hb
  clear hb H
  go_wp2_with fail
  go_ret
  exact ⟨by simp_all,HB.out⟩
 ·rw [decide_eq_false hn]
  have hn':¬(n:Int)=s.size:=by omega
  go_enter Tryz.func85,Tryz.ntmps85
  go_wp2_with fail
  refine Calls.mono H.out ?_
  rintro e w1 ⟨a,cap,gk,rfl,-,-,hb⟩
  have HB:Hid _:=hb
  clear hb H
  go_wp2_with fail
  go_ret
  exact ⟨by simp_all,HB.out⟩
end Go.Proofs.YtgoffkfpdigeeaaGreatDoor
namespace Go.Proofs.YtgoffkfpdigeeaaGreatDoor
open Go.RowKit
structure ChI (w wr:World) (cN cS:Array Value):Prop where
 a:AtN 51 wr w.heap.size cN
 b:AtN 117 wr (w.heap.size+1) cS
 bel:Below w.heap.size w wr
theorem ChI.dn {w wr:World} {cN cS:Array Value} (h:ChI w wr cN cS) (n:Nat):ChI w (wr.drewN n) cN cS:=⟨h.a,h.b,dn_below h.bel n⟩
theorem ChI.belowA {w wr w':World} {cN cS:Array Value} (h:ChI w wr cN cS) (hb:Below wr.heap.size wr w'):ChI w w' cN cS:=⟨h.a.belowAll hb,h.b.belowAll hb,h.bel.trans (hb.mono h.bel.size)⟩
set_option maxRecDepth 10000 in
set_option maxHeartbeats 1000000 in
theorem frcheck_any (N:Nd) (C:List Int) (t l m:Int) (a1 a2 a3 b:Option Addr) (c1 c2 c3 d:Nat) (w:World) (h:NdAt w N a1 a2 a3) (hC:LsAt w b (iV C)) (hf:fine N.ints) (h1:N.ints.length≤100) (h2:N.texts.length≤100) (h4:∀s ∈ N.texts,s.size≤3000) :
  Calls Tryz.prog 90 #[.agg #[.int .i64 N.kind,.slice a1 N.ints.length c1,.slice a2 N.texts.length c2,.slice a3 N.kids.length c3],.agg #[.slice b C.length d,.int .i64 t,.int .i64 l,.int .i64 m]] w fun e w'=>e=.returned (.int .i64 (chkN N C t l m))∧Below w.heap.size w w':=by
 have S0:ChI w ((w.alloc (.cells #[.int .i64 N.kind,.slice a1 N.ints.length c1,.slice a2 N.texts.length c2,.slice a3 N.kids.length c3] 51)).alloc (.cells #[.slice b C.length d,.int .i64 t,.int .i64 l,.int .i64 m] 117)) #[.int .i64 N.kind,.slice a1 N.ints.length c1,.slice a2 N.texts.length c2,.slice a3 N.kids.length c3] #[.slice b C.length d,.int .i64 t,.int .i64 l,.int .i64 m]:=
  ⟨(AtN.new w 51 _).alloc _,mk_at (AtN.new (w.alloc _) 117 _) (show _=w.heap.size+1 by simp),((Below.refl w.heap.size w).alloc (Nat.le_refl _) _).alloc (by simp) _⟩
 by_cases hl:N.ints.length=C.length
 ·obtain ⟨V,hV⟩:∃V,chkN N C t l m=V:=⟨_,rfl⟩
  have HV:Hid _:=hV
  have HE:Hid _:=hl
  have HN:Hid _:=h
  have HC:Hid _:=hC
  have HF:Hid _:=hf
  have HZ:Hid _:=h4
  have HS:Hid _:=S0
  rw [hV]
  rw [← hl] at HS ⊢
  clear hV hl h hC hf h4 S0
  go_enter Tryz.func90,Tryz.ntmps90
  go_wp2_with fail
  go_loopw [5] (fun iv wr=>∃i:Nat,iv=.int .i64 i∧i≤N.ints.length∧ChI w wr #[.int .i64 N.kind,.slice a1 N.ints.length c1,.slice a2 N.texts.length c2,.slice a3 N.kids.length c3] #[.slice b N.ints.length d,.int .i64 t,.int .i64 l,.int .i64 m]∧Hid (∀k,k<i→in7 (C.getD k 0) (N.ints.getD k 0)=true)) (fun iv _=>N.ints.length-(intOf iv).toNat)
  case atStart=>exact ⟨0,rfl,by omega,HS.out,fun k hk=>by omega⟩
  case round=>
   clear HS
   obtain ⟨i,rfl,hi,hS,HI⟩:=hrel
   have x1:wr.cell? ⟨w.heap.size,1,none⟩=some (.slice a1 N.ints.length c1):=hS.a.cell 1
   have y0:wr.cell? ⟨w.heap.size+1,0,none⟩=some (.slice b N.ints.length d):=hS.b.cell 0
   by_cases hlt:i<N.ints.length
   ·have hlt':(i:Int)<N.ints.length:=by omega
    obtain ⟨ga,oa,rfl,la,da⟩:=(HN.out.i.belowB hS.bel).at (iV_at N.ints i hlt)
    obtain ⟨gb,ob,rfl,lb,db⟩:=(LsAt.belowB HC.out hS.bel).at (iV_at C i (by rw [← HE.out];exact hlt))
    have HX:Hid (in7 (C.getD i 0) (N.ints.getD i 0)=false→V=10):=fun h=>by
     rw [← HV.out];unfold chkN;rw [fitI_no C N.ints i hlt h];rfl
    have HY:Hid (in7 (C.getD i 0) (N.ints.getD i 0)=true→∀k,k<i+1→in7 (C.getD k 0) (N.ints.getD k 0)=true):=fun h k hk=>by
     by_cases hki:k=i
     ·subst hki;exact h
     ·exact HI.out k (by omega)
    have HR:Hid _:=fun W=>rin_any (C.getD i 0) (N.ints.getD i 0) W (HF.out i hlt).1 (HF.out i hlt).2
    have HS:Hid _:=hS
    clear HI HF HN HC HV HZ HE hS
    generalize in7 (C.getD i 0) (N.ints.getD i 0)=q at *
    generalize N.ints.getD i 0=x at *
    generalize C.getD i 0=y at *
    cases q
    ·go_wp2_with fail
     go_quiet ((go_at_call 83;exact Calls.quiet_of_same (HR.out _)))
     go_wp2_with fail
     go_ret
     rw [HX.out (by first|rfl|trivial)]
     exact ⟨rfl,(HS.out.dn _).bel⟩
    ·go_wp2_with fail
     go_quiet ((go_at_call 83;exact Calls.quiet_of_same (HR.out _)))
     go_wp2_with fail
     go_roundw
     case rel=>exact ⟨i+1,by go_num,by omega,HS.out.dn _,HY.out (by first|rfl|trivial)⟩
     case measure=>simp [intOf];omega
   ·have hlt':¬(i:Int)<N.ints.length:=by omega
    obtain rfl:i=N.ints.length:=by omega
    have x2:wr.cell? ⟨w.heap.size,2,none⟩=some (.slice a2 N.texts.length c2):=hS.a.cell 2
    have y1:wr.cell? ⟨w.heap.size+1,1,none⟩=some (.int .i64 t):=hS.b.cell 1
    have HI2:Hid (fitI C N.ints=true):=fitI_yes C N.ints HE.out HI.out
    have HS:Hid _:=hS
    clear HI HC HF hS
    by_cases ht:(N.texts.length:Int)=t
    ·go_wp2_with fail
     go_loopw [6] (fun iv wr=>∃i:Nat,iv=.int .i64 i∧i≤N.texts.length∧ChI w wr #[.int .i64 N.kind,.slice a1 N.ints.length c1,.slice a2 N.texts.length c2,.slice a3 N.kids.length c3] #[.slice b N.ints.length d,.int .i64 t,.int .i64 l,.int .i64 m]∧Hid (∀k,k<i→ok8 (N.texts.getD k noT)=true)) (fun iv _=>N.texts.length-(intOf iv).toNat)
     case atStart=>exact ⟨0,rfl,by omega,HS.out,fun k hk=>by omega⟩
     case round=>
      clear HS x1 y0 x2 y1
      obtain ⟨i,rfl,hi,hS,HI⟩:=hrel
      have x2:wr.cell? ⟨w.heap.size,2,none⟩=some (.slice a2 N.texts.length c2):=hS.a.cell 2
      by_cases hlt:i<N.texts.length
      ·have hlt':(i:Int)<N.texts.length:=by omega
       obtain ⟨ga,oa,rfl,la,da⟩:=(HN.out.t.belowB hS.bel).at (tV_at N.texts i hlt)
       have HX:Hid (ok8 (N.texts.getD i noT)=false→V=11):=fun h=>by
        rw [← HV.out];unfold chkN;rw [HI2.out,fitT_no N.texts t i hlt h];rfl
       have HY:Hid (ok8 (N.texts.getD i noT)=true→∀k,k<i+1→ok8 (N.texts.getD k noT)=true):=fun h k hk=>by
        by_cases hki:k=i
        ·subst hki;exact h
        ·exact HI.out k (by omega)
       have HR:Hid _:=fun W=>utf8_any (N.texts.getD i noT) W (by have:=HZ.out (N.texts.getD i noT) (by simp [hlt]);omega)
       have HS:Hid _:=hS
       clear HI HN HV HZ HE hS HI2
       generalize ok8 (N.texts.getD i noT)=q at *
       generalize N.texts.getD i noT=s at *
       go_wp2_with fail
       refine (HR.out _).mono ?_
       rintro e w1 ⟨rfl,hb⟩
       have HS1:Hid _:=HS.out.belowA hb
       clear hb HS
       cases q
       ·go_wp2_with fail
        go_ret
        rw [HX.out (by first|rfl|trivial)]
        exact ⟨rfl,HS1.out.bel⟩
       ·go_wp2_with fail
        go_roundw
        case rel=>exact ⟨i+1,by go_num,by omega,HS1.out,HY.out (by first|rfl|trivial)⟩
        case measure=>simp [intOf];omega
      ·have hlt':¬(i:Int)<N.texts.length:=by omega
       obtain rfl:i=N.texts.length:=by omega
       have HI3:Hid (fitT N.texts t=true):=fitT_yes N.texts t ht HI.out
       have x3:wr.cell? ⟨w.heap.size,3,none⟩=some (.slice a3 N.kids.length c3):=hS.a.cell 3
       have y2:wr.cell? ⟨w.heap.size+1,2,none⟩=some (.int .i64 l):=hS.b.cell 2
       have y3:wr.cell? ⟨w.heap.size+1,3,none⟩=some (.int .i64 m):=hS.b.cell 3
       have HX:Hid (V=if fitK N.kids.length l m=false then 12 else 0):=by
        show _=_
        rw [← HV.out];unfold chkN;rw [HI2.out,HI3.out];rfl
       have HB:Hid _:=hS.bel
       clear HI hS HI2 HI3 HZ HN HV
       unfold fitK at HX
       by_cases k1:(N.kids.length:Int)<l
       ·go_wp2_with fail
        go_ret
        rw [HX.out,decide_eq_false (by omega:¬l≤(N.kids.length:Int))]
        exact ⟨rfl,HB.out⟩
       ·by_cases k2:0≤m
        ·by_cases k3:m<(N.kids.length:Int)
         ·go_wp2_with fail
          go_ret
          rw [HX.out,decide_eq_true (by omega:l≤(N.kids.length:Int)),decide_eq_false (by omega:¬m<0),decide_eq_false (by omega:¬(N.kids.length:Int)≤m)]
          exact ⟨rfl,HB.out⟩
         ·go_wp2_with fail
          go_ret
          rw [HX.out,decide_eq_true (by omega:l≤(N.kids.length:Int)),decide_eq_false (by omega:¬m<0),decide_eq_true (by omega:(N.kids.length:Int)≤m)]
          exact ⟨rfl,HB.out⟩
        ·go_wp2_with fail
         go_ret
         rw [HX.out,decide_eq_true (by omega:l≤(N.kids.length:Int)),decide_eq_true (by omega:m<0)]
         exact ⟨rfl,HB.out⟩
    ·have HX:Hid (V=11):=by
      show _=_
      rw [← HV.out];unfold chkN;rw [HI2.out,show fitT N.texts t=false by unfold fitT;rw [decide_eq_false ht,Bool.false_and]];rfl
     go_wp2_with fail
     go_ret
     rw [HX.out]
     exact ⟨rfl,HS.out.bel⟩
 ·have hl':¬(N.ints.length:Int)=C.length:=by omega
  rw [show chkN N C t l m=10 by unfold chkN;rw [show fitI C N.ints=false by unfold fitI;rw [decide_eq_false hl,Bool.false_and]];rfl]
  have HS:Hid _:=S0
  clear h hC hf h4 S0
  go_enter Tryz.func90,Tryz.ntmps90
  go_wp2_with fail
  go_ret
  exact ⟨rfl,HS.out.bel⟩
end Go.Proofs.YtgoffkfpdigeeaaGreatDoor
namespace Go.Proofs.YtgoffkfpdigeeaaGreatDoor
open Go.RowKit
structure Tabs12 (w:World):Prop where
 k:TabAt w 2 kindsC
 s:TabAt w 1 spansC
theorem Tabs12.on {w w':World} (h:Tabs12 w) (hb:Below w.heap.size w w'):Tabs12 w':=⟨h.k.below hb,h.s.below hb⟩
end Go.Proofs.YtgoffkfpdigeeaaGreatDoor
