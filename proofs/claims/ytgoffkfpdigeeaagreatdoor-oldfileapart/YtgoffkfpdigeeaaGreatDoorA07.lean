import Derived.Deep.QuietTactic
import Derived.BigQuiet
import Derived.Test.YtgoffkfpdigeeaaGreatDoorA04
import Derived.Test.YtgoffkfpdigeeaaGreatDoorA05
import Derived.Test.YtgoffkfpdigeeaaGreatDoorA06
import Derived.Laws.OwnMore
import Derived.Deep.AppendLies
import Derived.Lib.QuietBelow
namespace Go.Proofs.YtgoffkfpdigeeaaGreatDoor
open Go.RowKit
def ok8 (s:ByteArray):Bool:=decide (pFirst s.data.toList<0)
def fitI (C L:List Int):Bool:=decide (L.length=C.length) && (List.range L.length).all (fun i=>in7 (C.getD i 0) (L.getD i 0))
def fitT (L:List ByteArray) (t:Int):Bool:=decide ((L.length:Int)=t) && L.all ok8
def fitK (k:Nat) (l m:Int):Bool:=decide (l≤k) && (decide (m<0) || decide ((k:Int)≤m))
def chkN (N:Nd) (C:List Int) (t l m:Int):Int:=if fitI C N.ints=false then 10 else if fitT N.texts t=false then 11 else if fitK N.kids.length l m=false then 12 else 0
theorem fitI_no (C L:List Int) (i:Nat) (h:i<L.length) (hi:in7 (C.getD i 0) (L.getD i 0)=false):fitI C L=false:=by
 unfold fitI
 rw [show (List.range L.length).all (fun i=>in7 (C.getD i 0) (L.getD i 0))=false from List.all_eq_false.2 ⟨i,by simpa using h,by simp only [hi];simp⟩,Bool.and_false]
theorem fitI_yes (C L:List Int) (hl:L.length=C.length) (h:∀i,i<L.length→in7 (C.getD i 0) (L.getD i 0)=true):fitI C L=true:=by
 unfold fitI
 rw [decide_eq_true hl,Bool.true_and,List.all_eq_true]
 intro i hi
 exact h i (by simpa using hi)
theorem fitT_no (L:List ByteArray) (t:Int) (i:Nat) (h:i<L.length) (hi:ok8 (L.getD i noT)=false):fitT L t=false:=by
 unfold fitT
 rw [show L.all ok8=false from List.all_eq_false.2 ⟨L.getD i noT,by simp [h],by rw [hi];simp⟩,Bool.and_false]
theorem fitT_yes (L:List ByteArray) (t:Int) (hl:(L.length:Int)=t) (h:∀i,i<L.length→ok8 (L.getD i noT)=true):fitT L t=true:=by
 unfold fitT
 rw [decide_eq_true hl,Bool.true_and,List.all_eq_true]
 intro s hs
 obtain ⟨i,hi,rfl⟩:=List.getElem_of_mem hs
 have:=h i hi
 simpa [hi] using this
def fine (L:List Int):Prop:=∀i,i<L.length→-9223372036854775808≤L.getD i 0∧L.getD i 0≤9223372036854775807
set_option maxRecDepth 10000 in
set_option maxHeartbeats 400000 in
theorem intsFit_any (L C:List Int) (a b:Option Addr) (c d:Nat) (w:World) (hL:LsAt w a (iV L)) (hC:LsAt w b (iV C)) (hT:TabAt w 1 spansC) (hf:fine L) (hs:L.length≤100) :
  Calls Tryz.prog 163 #[.slice a L.length c,.slice b C.length d] w fun e w'=>e=.returned (.bool (fitI C L))∧w'=w:=by
 by_cases hl:L.length=C.length
 ·have H:Hid _:=fun (c n:Int) (h : -9223372036854775808≤n∧n≤9223372036854775807)=>in_any c n w hT h.1 h.2
  have HL:Hid _:=hL
  have HC:Hid _:=hC
  have HF:Hid _:=hf
  have HE:Hid _:=hl
  obtain ⟨G,hG⟩:∃G,fitI C L=G:=⟨_,rfl⟩
  have HG:Hid _:=hG
  rw [hG,← hl]
  clear hL hC hT hf hG hl
  go_enter Tryz.func163,Tryz.ntmps163
  go_wp2_with fail
  go_loopw [14] (fun iv wr=>∃i:Nat,iv=.int .i64 i∧i≤L.length∧wr=w∧Hid (∀k,k<i→in7 (C.getD k 0) (L.getD k 0)=true)) (fun iv _=>L.length-(intOf iv).toNat)
  case atStart=>exact ⟨0,rfl,by omega,rfl,fun k hk=>by omega⟩
  case round=>
   obtain ⟨i,rfl,hi,hw,HI⟩:=hrel
   subst hw
   by_cases hlt:i<L.length
   ·have hlt':(i:Int)<L.length:=by omega
    obtain ⟨ga,oa,rfl,la,da⟩:=LsAt.at HL.out (iV_at L i hlt)
    obtain ⟨gb,ob,rfl,lb,db⟩:=LsAt.at HC.out (iV_at C i (by rw [← HE.out];exact hlt))
    have HN:Hid (in7 (C.getD i 0) (L.getD i 0)=false→G=false):=fun h=>by rw [← HG.out];exact fitI_no C L i hlt h
    have HY:Hid (in7 (C.getD i 0) (L.getD i 0)=true→∀k,k<i+1→in7 (C.getD k 0) (L.getD k 0)=true):=fun h k hk=>by
     by_cases hki:k=i
     ·subst hki;exact h
     ·exact HI.out k (by omega)
    have HZ:Hid _:=H.out (C.getD i 0) (L.getD i 0) (HF.out i hlt)
    clear HI H HF HL HC
    generalize in7 (C.getD i 0) (L.getD i 0)=q at *
    generalize L.getD i 0=x at *
    generalize C.getD i 0=y at *
    go_wp2_with fail
    refine Calls.mono (Hid.out HZ) ?_
    rintro e w1 ⟨rfl,rfl⟩
    cases q
    ·go_wp2_with fail
     go_ret
     rw [HN.out (by first|rfl|trivial)]
     exact ⟨rfl,rfl⟩
    ·go_wp2_with fail
     go_roundw
     case rel=>exact ⟨i+1,by go_num,by omega,by first|rfl|trivial,HY.out (by first|rfl|trivial)⟩
     case measure=>simp [intOf];omega
   ·have hlt':¬(i:Int)<L.length:=by omega
    have HV:Hid (G=true):=by
     show _=_
     rw [← HG.out]
     exact fitI_yes C L HE.out (fun k hk=>HI.out k (by omega))
    clear HI HF HL HC H HG
    go_wp2_with fail
    go_ret
    rw [HV.out]
    exact ⟨rfl,rfl⟩
 ·have hl':¬(L.length:Int)=C.length:=by omega
  rw [show fitI C L=false by unfold fitI;rw [decide_eq_false hl,Bool.false_and]]
  clear hL hC hT hf
  go_enter Tryz.func163,Tryz.ntmps163
  go_wp2_with fail
  go_ret
  exact ⟨rfl,rfl⟩
set_option maxRecDepth 10000 in
set_option maxHeartbeats 400000 in
theorem textsFit_any (L:List ByteArray) (t:Int) (a:Option Addr) (c:Nat) (w:World) (hL:LsAt w a (tV L)) (hs:L.length≤100) (hz:∀s ∈ L,s.size≤4000000) :
  Calls Tryz.prog 164 #[.slice a L.length c,.int .i64 t] w fun e w'=>e=.returned (.bool (fitT L t))∧Below w.heap.size w w':=by
 by_cases hl:(L.length:Int)=t
 ·have HL:Hid _:=hL
  have HE:Hid _:=hl
  have HZ:Hid _:=hz
  obtain ⟨G,hG⟩:∃G,fitT L t=G:=⟨_,rfl⟩
  have HG:Hid _:=hG
  rw [hG,← hl]
  clear hL hG hl hz
  go_enter Tryz.func164,Tryz.ntmps164
  go_wp2_with fail
  go_loopw [13] (fun iv wr=>∃i:Nat,iv=.int .i64 i∧i≤L.length∧Below w.heap.size w wr∧Hid (∀k,k<i→ok8 (L.getD k noT)=true)) (fun iv _=>L.length-(intOf iv).toNat)
  case atStart=>exact ⟨0,rfl,by omega,Below.refl _ _,fun k hk=>by omega⟩
  case round=>
   obtain ⟨i,rfl,hi,hB,HI⟩:=hrel
   by_cases hlt:i<L.length
   ·have hlt':(i:Int)<L.length:=by omega
    obtain ⟨ga,oa,rfl,la,da⟩:=(LsAt.belowB HL.out hB).at (tV_at L i hlt)
    have HF:Hid _:=fun (W:World)=>first_any (L.getD i noT) W (by have:=HZ.out (L.getD i noT) (by simp [hlt]);omega)
    have HN:Hid (¬pFirst (L.getD i noT).data.toList<0→G=false):=fun h=>by rw [← HG.out];exact fitT_no L t i hlt (decide_eq_false h)
    have HY:Hid (pFirst (L.getD i noT).data.toList<0→∀k,k<i+1→ok8 (L.getD k noT)=true):=fun h k hk=>by
     by_cases hki:k=i
     ·subst hki;exact decide_eq_true h
     ·exact HI.out k (by omega)
    clear HI HL HZ HG
    generalize pFirst (L.getD i noT).data.toList=f at *
    generalize L.getD i noT=s at *
    have HB:Hid _:=hB
    clear hB
    go_wp2_with fail
    refine (Hid.out HF _).mono ?_
    rintro e w1 ⟨rfl,hb1⟩
    have HB1:Hid (Below w.heap.size w w1):=HB.out.trans (hb1.mono HB.out.size)
    clear hb1 HB HF
    by_cases hf:f<0
    ·have hf':¬0≤f:=by omega
     go_wp2_with fail
     go_roundw
     case rel=>exact ⟨i+1,by go_num,by omega,HB1.out,HY.out hf⟩
     case measure=>simp [intOf];omega
    ·have hf':0≤f:=by omega
     go_wp2_with fail
     go_ret
     rw [HN.out (by omega)]
     exact ⟨rfl,HB1.out⟩
   ·have hlt':¬(i:Int)<L.length:=by omega
    have HV:Hid (G=true):=by
     show _=_
     rw [← HG.out]
     exact fitT_yes L t HE.out (fun k hk=>HI.out k (by omega))
    have HB:Hid _:=hB
    clear HI HL HG HZ hB
    go_wp2_with fail
    go_ret
    rw [HV.out]
    exact ⟨rfl,HB.out⟩
 ·rw [show fitT L t=false by unfold fitT;rw [decide_eq_false hl,Bool.false_and]]
  clear hL hz
  go_enter Tryz.func164,Tryz.ntmps164
  go_wp2_with fail
  go_ret
  exact ⟨rfl,Below.refl _ _⟩
set_option maxRecDepth 10000 in
set_option maxHeartbeats 400000 in
theorem kidsFit_any (k:Nat) (v:Option Addr) (n c:Nat) (t l m:Int) (w:World) :
  Calls Tryz.prog 165 #[.int .i64 k,.agg #[.slice v n c,.int .i64 t,.int .i64 l,.int .i64 m]] w fun e w'=>e=.returned (.bool (fitK k l m))∧Below w.heap.size w w':=by
 have HB:Hid _:=fun (o:Obj)=>(Below.refl w.heap.size w).alloc (Nat.le_refl _) o
 unfold fitK
 by_cases h1:l≤k
 ·by_cases h2:m<0
  ·rw [decide_eq_true h1,decide_eq_true h2]
   go_enter Tryz.func165,Tryz.ntmps165
   go_wp2_with fail
   go_ret
   exact ⟨rfl,HB.out _⟩
  ·by_cases h3:(k:Int)≤m
   ·rw [decide_eq_true h1,decide_eq_false h2,decide_eq_true h3]
    go_enter Tryz.func165,Tryz.ntmps165
    go_wp2_with fail
    go_ret
    exact ⟨rfl,HB.out _⟩
   ·rw [decide_eq_true h1,decide_eq_false h2,decide_eq_false h3]
    go_enter Tryz.func165,Tryz.ntmps165
    go_wp2_with fail
    go_ret
    exact ⟨rfl,HB.out _⟩
 ·rw [decide_eq_false h1]
  go_enter Tryz.func165,Tryz.ntmps165
  go_wp2_with fail
  go_ret
  exact ⟨rfl,HB.out _⟩
end Go.Proofs.YtgoffkfpdigeeaaGreatDoor
namespace Go.Proofs.YtgoffkfpdigeeaaGreatDoor
open Go.RowKit
theorem TabAt.bel {w w':World} {g:Nat} {l:List Value} (h:TabAt w g l) (hb:Below w.heap.size w w'):TabAt w' g l:=h.below hb
set_option maxRecDepth 10000 in
set_option maxHeartbeats 400000 in
theorem fcheck_any (N:Nd) (C:List Int) (t l m:Int) (a1 a2 a3 b:Option Addr) (c1 c2 c3 d:Nat) (w:World) (h:NdAt w N a1 a2 a3) (hC:LsAt w b (iV C)) (hT:TabAt w 1 spansC) (hf:fine N.ints) (h1:N.ints.length≤100) (h2:N.texts.length≤100) (h4:∀s ∈ N.texts,s.size≤4000000) :
  Calls Tryz.prog 137 #[.agg #[.int .i64 N.kind,.slice a1 N.ints.length c1,.slice a2 N.texts.length c2,.slice a3 N.kids.length c3],.agg #[.slice b C.length d,.int .i64 t,.int .i64 l,.int .i64 m]] w fun e w'=>e=.returned (.int .i64 (chkN N C t l m))∧Below w.heap.size w w':=by
 have HB:Hid _:=fun (o p:Obj)=>((Below.refl w.heap.size w).alloc (Nat.le_refl _) o).alloc (by simp) p
 have H1:Hid _:=fun (W:World) (hb:Below w.heap.size w W)=>intsFit_any N.ints C a1 b c1 d W (h.i.belowB hb) (hC.belowB hb) (hT.below hb) hf h1
 have H2:Hid _:=fun (W:World) (hb:Below w.heap.size w W)=>textsFit_any N.texts t a2 c2 W (h.t.belowB hb) h2 h4
 have H3:Hid _:=fun (W:World)=>kidsFit_any N.kids.length b C.length d t l m W
 clear h hC hT hf h4
 unfold chkN
 generalize fitI C N.ints=q1 at *
 generalize fitT N.texts t=q2 at *
 generalize fitK N.kids.length l m=q3 at *
 have n1:=(AtN.new w 51 #[.int .i64 N.kind,.slice a1 N.ints.length c1,.slice a2 N.texts.length c2,.slice a3 N.kids.length c3]).alloc (.cells #[.slice b C.length d,.int .i64 t,.int .i64 l,.int .i64 m] 117)
 have n2:=mk_at (AtN.new (w.alloc (.cells #[.int .i64 N.kind,.slice a1 N.ints.length c1,.slice a2 N.texts.length c2,.slice a3 N.kids.length c3] 51)) 117 #[.slice b C.length d,.int .i64 t,.int .i64 l,.int .i64 m]) (show _=w.heap.size+1 by simp)
 have HN:Hid _:=And.intro n1 (And.intro n2 (HB.out (.cells #[.int .i64 N.kind,.slice a1 N.ints.length c1,.slice a2 N.texts.length c2,.slice a3 N.kids.length c3] 51) (.cells #[.slice b C.length d,.int .i64 t,.int .i64 l,.int .i64 m] 117)))
 clear n1 n2 HB
 go_enter Tryz.func137,Tryz.ntmps137
 go_wp2_with fail
 refine (H1.out _ HN.out.2.2).mono ?_
 rintro e w1 ⟨rfl,rfl⟩
 cases q1
 ·go_wp2_with fail
  go_ret
  exact ⟨rfl,HN.out.2.2⟩
 ·go_wp2_with fail
  refine (H2.out _ HN.out.2.2).mono ?_
  rintro e w2 ⟨rfl,hb2⟩
  have n1:=HN.out.1.belowAll hb2
  have n2:=HN.out.2.1.belowAll hb2
  have B2:Below w.heap.size w w2:=HN.out.2.2.trans (hb2.mono HN.out.2.2.size)
  have x3:w2.cell? ⟨w.heap.size,3,none⟩=some (.slice a3 N.kids.length c3):=n1.cell 3
  have y0:w2.cell? ⟨w.heap.size+1,0,none⟩=some (.slice b C.length d):=n2.cell 0
  have y1:w2.cell? ⟨w.heap.size+1,1,none⟩=some (.int .i64 t):=n2.cell 1
  have y2:w2.cell? ⟨w.heap.size+1,2,none⟩=some (.int .i64 l):=n2.cell 2
  have y3:w2.cell? ⟨w.heap.size+1,3,none⟩=some (.int .i64 m):=n2.cell 3
  have HB2:Hid _:=B2
  clear n1 n2 B2 hb2 HN
  cases q2
  ·go_wp2_with fail
   go_ret
   exact ⟨rfl,HB2.out⟩
  ·go_wp2_with fail
   refine (H3.out _).mono ?_
   rintro e w3 ⟨rfl,hb3⟩
   have HB3:Hid _:=HB2.out.trans (hb3.mono HB2.out.size)
   clear hb3
   cases q3
   ·go_wp2_with fail
    go_ret
    exact ⟨rfl,HB3.out⟩
   ·go_wp2_with fail
    go_ret
    exact ⟨rfl,HB3.out⟩
end Go.Proofs.YtgoffkfpdigeeaaGreatDoor
namespace Go.Proofs.YtgoffkfpdigeeaaGreatDoor
open Go.RowKit
structure ChI (w wr:World) (cN cS:Array Value):Prop where
 a:AtN 51 wr w.heap.size cN
 b:AtN 117 wr (w.heap.size+1) cS
 bel:Below w.heap.size w wr
theorem ChI.dn {w wr:World} {cN cS:Array Value} (h:ChI w wr cN cS) (n:Nat):ChI w (wr.drewN n) cN cS:=⟨h.a,h.b,dn_below h.bel n⟩
end Go.Proofs.YtgoffkfpdigeeaaGreatDoor
namespace Go.Proofs.YtgoffkfpdigeeaaGreatDoor
open Go.RowKit
structure Tabs12 (w:World):Prop where
 k:TabAt w 2 kindsC
 s:TabAt w 1 spansC
theorem Tabs12.on {w w':World} (h:Tabs12 w) (hb:Below w.heap.size w w'):Tabs12 w':=⟨h.k.below hb,h.s.below hb⟩
def tyN (N:Nd):Int:=if (newSp N.kind).ok=false then 9 else chkN N (newSp N.kind).ints (newSp N.kind).texts (newSp N.kind).least (newSp N.kind).most
end Go.Proofs.YtgoffkfpdigeeaaGreatDoor
namespace Go.Proofs.YtgoffkfpdigeeaaGreatDoor
def idx6 (s:ByteArray):List ByteArray→Nat
 | []=>0
 | x :: r=>if x=s then 0 else idx6 s r+1
theorem idx6_le (s:ByteArray) (L:List ByteArray):idx6 s L≤L.length:=by
 induction L with
 | nil=>exact Nat.le_refl _
 | cons x r ih=>unfold idx6;split <;> simp <;> omega
theorem idx6_at (s:ByteArray):∀(L:List ByteArray) (i:Nat) (h:i<L.length),L[i]=s→(∀j (hj:j<L.length),j<i→L[j]≠s)→idx6 s L=i:=by
 intro L
 induction L with
 | nil=>intro i h;simp at h
 | cons x r ih=>
  intro i h he hn
  unfold idx6
  match i,h,he with
  | 0,_,he=>rw [if_pos (by simpa using he)]
  | i+1,h,he=>
   have h0:=hn 0 (by simp) (by omega)
   rw [if_neg (by simpa using h0),ih i (by simpa using h) (by simpa using he) (fun j hj hji=>by have:=hn (j+1) (by simpa using hj) (by omega);simpa using this)]
theorem idx6_no (s:ByteArray) (L:List ByteArray) (h:∀j (hj:j<L.length),L[j]≠s):idx6 s L=L.length:=by
 induction L with
 | nil=>rfl
 | cons x r ih=>
  have h0:=h 0 (by simp)
  unfold idx6
  rw [if_neg (by simpa using h0),ih (fun j hj=>by have:=h (j+1) (by simpa using hj);simpa using this)]
  rfl
theorem idx6_get (s:ByteArray) (L:List ByteArray) (h:idx6 s L<L.length):L[idx6 s L]=s:=by
 induction L with
 | nil=>simp at h
 | cons x r ih=>
  unfold idx6 at h
  by_cases e:x=s
  ·have h0:idx6 s (x :: r)=0:=by unfold idx6;rw [if_pos e]
   simp only [h0]
   exact e
  ·rw [if_neg e] at h
   have h0:idx6 s (x :: r)=idx6 s r+1:=if_neg e
   simp only [h0,List.getElem_cons_succ]
   exact ih (by simpa using h)
theorem idx6_mem (s:ByteArray) (L:List ByteArray):idx6 s L<L.length↔s ∈ L:=by
 constructor
 ·intro h
  have:=List.getElem_mem h
  rw [idx6_get s L h] at this
  exact this
 ·intro h
  have hle:=idx6_le s L
  by_cases e:idx6 s L=L.length
  ·exfalso
   induction L with
   | nil=>simp at h
   | cons x r ih=>
    unfold idx6 at e
    by_cases q:x=s
    ·rw [if_pos q] at e;simp at e
    ·rw [if_neg q] at e
     refine ih ?_ (idx6_le s r) (by simpa using e)
     rcases List.mem_cons.1 h with rfl|h
     ·exact absurd rfl q
     ·exact h
  ·omega
theorem idx6_append (s:ByteArray) (L M:List ByteArray) (h:idx6 s L<L.length):idx6 s (L++M)=idx6 s L:=by
 induction L with
 | nil=>simp at h
 | cons x r ih=>
  rw [List.cons_append]
  unfold idx6 at h ⊢
  split
  ·rfl
  ·rename_i q
   rw [if_neg q] at h
   rw [ih (by simpa using h)]
def pIntern (L:List ByteArray) (s:ByteArray):List ByteArray:=if idx6 s L<L.length then L else L++[s]
theorem pIntern_idx (L:List ByteArray) (s:ByteArray):idx6 s L<(pIntern L s).length∧idx6 s (pIntern L s)=idx6 s L:=by
 unfold pIntern
 have hle:=idx6_le s L
 by_cases h:idx6 s L<L.length
 ·rw [if_pos h];exact ⟨h,rfl⟩
 ·rw [if_neg h]
  have e:idx6 s L=L.length:=by omega
  refine ⟨by simp;omega,?_⟩
  rw [e]
  refine idx6_at s _ L.length (by simp) (by simp) (fun j hj hji=>?_)
  intro hh
  rw [List.getElem_append_left hji] at hh
  have:=(idx6_mem s L).2 (hh ▸ List.getElem_mem hji)
  omega
def sum6 (L:List ByteArray):Nat:=(L.map ByteArray.size).sum
theorem sum6_append (L M:List ByteArray):sum6 (L++M)=sum6 L+sum6 M:=by simp [sum6]
theorem sum6_take (L:List ByteArray) (i:Nat) (h:i<L.length):sum6 (L.take (i+1))=sum6 (L.take i)+L[i].size:=by
 rw [List.take_add_one,List.getElem?_eq_getElem h,sum6_append]
 simp [sum6]
theorem sum6_le (L:List ByteArray) (m:Nat) (h:∀s ∈ L,s.size≤m):sum6 L≤m*L.length:=by
 induction L with
 | nil=>simp [sum6]
 | cons x r ih=>
  have h1:=ih (fun s hs=>h s (by simp [hs]))
  have h2:=h x (by simp)
  have h3:sum6 (x :: r)=x.size+sum6 r:=by simp [sum6]
  rw [h3,List.length_cons,Nat.mul_add]
  omega
end Go.Proofs.YtgoffkfpdigeeaaGreatDoor
namespace Go.Proofs.YtgoffkfpdigeeaaGreatDoor
open Go.RowKit
theorem Tryz.infoS6:(Tryz.prog.info? 9).map (fun i=>(i.zero,i.size,i.bytes))=some (some (.string ⟨#[]⟩),1,16):=by kernel_rfl
def TextAt (w:World) (b o:Nat) (L:List ByteArray):Prop:=∀i (h:i<L.length),b<w.heap.size∧w.cell? ⟨b,o+i,none⟩=some (.string (L[i]'h))
theorem TextAt.below {w w':World} {b o:Nat} {L:List ByteArray} (h:TextAt w b o L) (hb:Below w.heap.size w w'):TextAt w' b o L:=fun i hi=>by
 obtain ⟨h1,h2⟩:=h i hi
 exact ⟨Nat.lt_of_lt_of_le h1 hb.size,(hb.cell (p:=⟨b,o+i,none⟩) h1).trans h2⟩
theorem own_texts {w:World} {B:Nat} {a:Option Addr} {n cap:Nat} {xs:List ByteArray} (h:w.ownsRow B 9 1 (.slice a n cap) n (tV xs)) (hn:xs.length=n):∃gk,(0<n→a=some ⟨gk,0,none⟩)∧TextAt w gk 0 xs:=by
 rcases h.2 with ⟨hv,h0⟩|⟨g,cap',cur,hv,hb,hg,_⟩
 ·exact ⟨0,by omega,fun i hi=>by omega⟩
 ·have ha:a=some ⟨g,0,none⟩:=by injection hv
  subst ha
  have hlt:g<w.heap.size:=(Array.getElem?_eq_some_iff.1 hg).1
  refine ⟨g,fun _=>rfl,fun i hi=>?_⟩
  have c0:=h.cells (g:=g) rfl i (.string xs[i]) (by simp [tV,hi])
  rw [show (⟨g,0,none⟩:Addr).add i=⟨g,0+i,none⟩ by unfold Addr.add;split <;> simp_all] at c0
  exact ⟨hlt,c0⟩
end Go.Proofs.YtgoffkfpdigeeaaGreatDoor
namespace Go.Proofs.YtgoffkfpdigeeaaGreatDoor
open Go.RowKit
theorem own_shape6 {w:World} {B:Nat} {e:TypeId} {size:Nat} {v:Value} {n:Nat} {xs:List Value} (h:w.ownsRow B e size v n xs):∃ao cap,v=.slice ao n cap:=by
 rcases h.2 with ⟨rfl,rfl⟩|⟨g',cap,cur,rfl,_⟩
 ·exact ⟨none,0,rfl⟩
 ·exact ⟨_,cap,rfl⟩
def TGot (w w':World) (e:Ending) (L:List ByteArray) (n:Int):Prop:=
 ∃(a:Option Addr) (cap b o:Nat),e=.returned (.tuple #[.slice a L.length cap,.int .i64 n])∧(0<L.length→a=some ⟨b,o,none⟩)∧TextAt w' b o L∧L.length≤cap∧(a=none→cap=0)∧Below w.heap.size w w'
end Go.Proofs.YtgoffkfpdigeeaaGreatDoor
namespace Go.Proofs.YtgoffkfpdigeeaaGreatDoor
open Go.RowKit
structure TxI (w:World) (a:Option Addr) (cap b o:Nat) (L:List ByteArray):Prop where
 ptr:0<L.length→a=some ⟨b,o,none⟩
 at_:TextAt w b o L
 cap_:L.length≤cap
 nil:a=none→cap=0
theorem TxI.below {w w':World} {a:Option Addr} {cap b o:Nat} {L:List ByteArray} (h:TxI w a cap b o L) (hb:Below w.heap.size w w'):TxI w' a cap b o L:=⟨h.ptr,h.at_.below hb,h.cap_,h.nil⟩
end Go.Proofs.YtgoffkfpdigeeaaGreatDoor
