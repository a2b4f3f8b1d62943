import Derived.Deep.AppendLies
import Derived.Deep.QuietTactic
import Derived.BigQuiet
import Derived.Laws.StructEq
import Derived.Lib.QuietBelow
import Derived.Test.YtgoffkfpdigeeaaGreatDoorA04
namespace Go.Proofs.YtgoffkfpdigeeaaGreatDoor
open Go.RowKit
structure St where
 text:Bool
 field:Int
 n:Int
 s:ByteArray
def stC (x:St):List Value:=[.bool x.text,.int .i64 x.field,.int .i64 x.n,.string x.s]
def stV (L:List St):List Value:=L.flatMap stC
theorem stV_append (L M:List St):stV (L++M)=stV L++stV M:=by simp [stV]
theorem stV_one (x:St):stV [x]=stC x:=by simp [stV]
def dI (a b:List Int):Nat→List St
 | 0=>[]
 | k+1=>dI a b k++(if a.getD k 0=b.getD k 0 then [] else [⟨false,k,b.getD k 0,noT⟩])
def dT (a b:List ByteArray):Nat→List St
 | 0=>[]
 | k+1=>dT a b k++(if a.getD k noT=b.getD k noT then [] else [⟨true,k,0,b.getD k noT⟩])
theorem dI_le (a b:List Int) (k:Nat):(dI a b k).length≤k:=by
 induction k with
 | zero=>simp [dI]
 | succ k ih=>simp only [dI,List.length_append];split <;> simp <;> omega
theorem dT_le (a b:List ByteArray) (k:Nat):(dT a b k).length≤k:=by
 induction k with
 | zero=>simp [dT]
 | succ k ih=>simp only [dT,List.length_append];split <;> simp <;> omega
def DL (A B:Nd) (i j:Nat):List St:=dI A.ints B.ints i++dT A.texts B.texts j
theorem DL_le (A B:Nd) (i j:Nat):(DL A B i j).length≤i+j:=by
 have:=dI_le A.ints B.ints i
 have:=dT_le A.texts B.texts j
 simp only [DL,List.length_append];omega
theorem DL_i1 (A B:Nd) (i:Nat) (h:A.ints.getD i 0=B.ints.getD i 0):DL A B (i+1) 0=DL A B i 0:=by simp only [DL,dI,if_pos h,dT,List.append_nil]
theorem DL_i2 (A B:Nd) (i:Nat) (h:¬A.ints.getD i 0=B.ints.getD i 0):DL A B (i+1) 0=DL A B i 0++[⟨false,i,B.ints.getD i 0,noT⟩]:=by simp only [DL,dI,if_neg h,dT,List.append_nil]
theorem DL_t1 (A B:Nd) (n i:Nat) (h:A.texts.getD i noT=B.texts.getD i noT):DL A B n (i+1)=DL A B n i:=by simp only [DL,dT,if_pos h,List.append_nil]
theorem DL_t2 (A B:Nd) (n i:Nat) (h:¬A.texts.getD i noT=B.texts.getD i noT):DL A B n (i+1)=DL A B n i++[⟨true,i,0,B.texts.getD i noT⟩]:=by simp only [DL,dT,if_neg h,List.append_assoc]
def cmp (A B:Nd):Bool:=decide (A.kind=B.kind∧A.ints.length=B.ints.length∧A.texts.length=B.texts.length)
def dL (A B:Nd):List St:=if cmp A B=true then DL A B A.ints.length A.texts.length else []
def StOut (w w':World) (e:Ending) (ok:Bool) (L:List St):Prop:=
 ∃a c,e=.returned (.tuple #[.slice a L.length c,.bool ok])∧w'.ownsRow w.heap.size 203 4 (.slice a L.length c) L.length (stV L)∧Below w.heap.size w w'
structure DfI (w wr:World) (cA cB:Array Value) (v:Value) (L:List St):Prop where
 a:AtN 51 wr w.heap.size cA
 b:AtN 51 wr (w.heap.size+1) cB
 own:wr.ownsRow (w.heap.size+1+1) 203 4 v L.length (stV L)
 bel:Below w.heap.size w wr
theorem Tryz.infoSet:(Tryz.prog.info? 203).map (fun i=>(i.zero,i.size,i.bytes))=some (some (.agg #[.bool false,.int .i64 0,.int .i64 0,.string ⟨#[]⟩]),4,40):=by kernel_rfl
theorem cells_four (w:World) (x0 x1 x2 x3:Value) (T:TypeId):∀j u,[x0,x1,x2,x3][j]? = some u→(w.alloc (.cells #[x0,x1,x2,x3] T)).cell? ((⟨w.heap.size,0,none⟩:Addr).add j)=some u:=by
 intro j u hu
 have:=World.news_of_block (heap_alloc_new w (.cells #[x0,x1,x2,x3] T)) j u (by simpa using hu)
 exact this
theorem own_shape8 {w:World} {B:Nat} {e:TypeId} {sz n:Nat} {v:Value} {xs:List Value} (h:w.ownsRow B e sz v n xs):∃a cap,v=.slice a n cap:=by
 rcases h.2 with ⟨rfl,h2⟩|⟨g,cap,cur,rfl,_⟩
 ·exact ⟨none,0,by rw [h2]⟩
 ·exact ⟨_,_,rfl⟩
theorem DfI.dn {w wr:World} {cA cB:Array Value} {v:Value} {L:List St} (h:DfI w wr cA cB v L) (n:Nat):DfI w (wr.drewN n) cA cB v L:=⟨h.a,h.b,h.own,dn_below h.bel n⟩
theorem DfI.more {w wr w2:World} {cA cB:Array Value} {v:Value} {L:List St} (h:DfI w wr cA cB v L) (x:St) {ob:Obj} {g cap:Nat} (hg:(wr.alloc ob).grownBy w2 v.ownBlock) (ho:w2.ownsRow (w.heap.size+1+1) 203 4 (.slice (some ⟨g,0,none⟩) (L.length+1) cap) (L.length+1) (stV L++stC x)) :
  DfI w w2 cA cB (.slice (some ⟨g,0,none⟩) (L++[x]).length cap) (L++[x]):=by
 have hrow:∀r,v.ownBlock=some r→w.heap.size+1+1≤r:=fun r hr=>(h.own.lt r hr).1
 refine ⟨(h.a.alloc ob).kept hg (fun e=>by have:=hrow _ e.symm;omega),(h.b.alloc ob).kept hg (fun e=>by have:=hrow _ e.symm;omega),?_,(h.bel.alloc h.bel.size ob).grown hg (by have:=h.bel.size;simp;omega) (fun k hk=>by have:=hrow k hk;omega)⟩
 rw [stV_append,stV_one]
 simpa using ho
end Go.Proofs.YtgoffkfpdigeeaaGreatDoor
namespace Go.Proofs.YtgoffkfpdigeeaaGreatDoor
open Go.RowKit
set_option maxRecDepth 10000 in
set_option maxHeartbeats 1000000 in
theorem rdiff_yes (A B:Nd) (a1 a2 a3 b1 b2 b3:Option Addr) (c1 c2 c3 d1 d2 d3:Nat) (w:World) (hA:NdAt w A a1 a2 a3) (hB:NdAt w B b1 b2 b3) (hk:A.kind=B.kind) (hi:A.ints.length=B.ints.length) (ht:A.texts.length=B.texts.length) (h1:A.ints.length≤100) (h2:A.texts.length≤100) :
  Calls Tryz.prog 127 #[.agg #[.int .i64 A.kind,.slice a1 A.ints.length c1,.slice a2 A.texts.length c2,.slice a3 A.kids.length c3],.agg #[.int .i64 B.kind,.slice b1 B.ints.length d1,.slice b2 B.texts.length d2,.slice b3 B.kids.length d3]] w fun e w'=>StOut w w' e true (DL A B A.ints.length A.texts.length):=by
 obtain ⟨i0,hi0,hz0,hz1,hz2⟩:=info_parts Tryz.infoSet
 rw [← hk,← hi,← ht]
 have HA:Hid _:=hA
 have HB:Hid _:=hB
 have Hi:Hid _:=hi
 have Ht:Hid _:=ht
 clear hA hB hk hi ht
 obtain ⟨cA,hcA⟩:∃cA:Array Value,cA=#[.int .i64 A.kind,.slice a1 A.ints.length c1,.slice a2 A.texts.length c2,.slice a3 A.kids.length c3]:=⟨_,rfl⟩
 obtain ⟨cB,hcB⟩:∃cB:Array Value,cB=#[.int .i64 A.kind,.slice b1 A.ints.length d1,.slice b2 A.texts.length d2,.slice b3 B.kids.length d3]:=⟨_,rfl⟩
 have S0:DfI w (((w.alloc (.cells cA 51)).alloc (.cells cB 51)).alloc (.cells #[] 203)) cA cB (.slice (some ⟨w.heap.size+1+1,0,none⟩) 0 0) (DL A B 0 0):=by
  refine ⟨((AtN.new w 51 _).alloc _).alloc _,(mk_at (AtN.new (w.alloc _) 51 _) (by simp)).alloc _,?_,(((Below.refl _ _).alloc (Nat.le_refl _) _).alloc (by simp) _).alloc (by simp;omega) _⟩
  have:=World.ownsRow_lit (base:=w.heap.size+1+1) (e:=203) (size:=4) ((w.alloc (.cells cA 51)).alloc (.cells cB 51)) #[] 0 (by simp) (by decide) (by simp)
  simpa [DL,dI,dT,stV] using this
 subst hcA hcB
 have HS:Hid _:=S0
 clear S0
 go_enter Tryz.func127,Tryz.ntmps127
 go_wp2_with fail
 go_loopw [6,7] (fun lv iv wr=>∃(i:Nat),iv=.int .i64 i∧i≤A.ints.length∧DfI w wr #[.int .i64 A.kind,.slice a1 A.ints.length c1,.slice a2 A.texts.length c2,.slice a3 A.kids.length c3] #[.int .i64 A.kind,.slice b1 A.ints.length d1,.slice b2 A.texts.length d2,.slice b3 B.kids.length d3] lv (DL A B i 0)) (fun _ iv _=>A.ints.length-(intOf iv).toNat)
 case atStart=>exact ⟨0,rfl,by omega,HS.out⟩
 case round=>
  clear HS
  obtain ⟨i,rfl,hi,hD⟩:=hrel
  have x1:wr.cell? ⟨w.heap.size,1,none⟩=some (.slice a1 A.ints.length c1):=hD.a.cell 1
  have y1:wr.cell? ⟨w.heap.size+1,1,none⟩=some (.slice b1 A.ints.length d1):=hD.b.cell 1
  by_cases hlt:i<A.ints.length
  ·have hlt':(i:Int)<A.ints.length:=by omega
   obtain ⟨ga,oa,rfl,la,da⟩:=(HA.out.i.belowB hD.bel).at (iV_at A.ints i hlt)
   obtain ⟨gb,ob,rfl,lb,db⟩:=(HB.out.i.belowB hD.bel).at (iV_at B.ints i (by rw [← Hi.out];exact hlt))
   obtain ⟨ao,co,hv⟩:=own_shape8 hD.own
   subst hv
   have hle:=DL_le A B i 0
   by_cases he:A.ints.getD i 0=B.ints.getD i 0
   ·have HE:Hid _:=DL_i1 A B i he
    rw [← he] at db
    generalize A.ints.getD i 0=x at *
    have HD:Hid _:=hD
    clear hD HA HB
    go_wp2_with fail
    go_quiet (fail)
    go_wp2_with fail
    go_roundw
    case rel=>exact ⟨i+1,by go_num,by omega,by rw [HE.out];exact HD.out.dn _⟩
    case measure=>simp [intOf];omega
   ·have HE:Hid _:=DL_i2 A B i he
    have HD:Hid _:=hD
    have he':¬B.ints.getD i 0=A.ints.getD i 0:=fun e=>he e.symm
    generalize A.ints.getD i 0=x at *
    generalize B.ints.getD i 0=y at *
    generalize DL A B i 0=L at *
    clear hD HA HB
    go_wp2_with fail
    go_quiet (fail)
    go_wp2_with (at_builtin;refine wpList_append_lies _ rfl (.tmp 51) (.tmp 59) 173 rfl (w.heap.size+1+1) 203 i0 (.agg #[.bool false,.int .i64 0,.int .i64 0,.string ⟨#[]⟩]) 4 40 Tryz.underlying173 hi0 hz0 hz1 hz2 rfl (by decide) _ L.length (stV L) rfl ((HD.out.dn _).own.alloc _) ⟨wr.heap.size,0,none⟩ 1 1 [.bool false,.int .i64 i,.int .i64 y,.string noT] rfl rfl (cells_four _ _ _ _ _ _) (by intro u hu;simp at hu;rcases hu with rfl|rfl|rfl|rfl <;> rfl) (by decide) (by unfold maxLen;omega) (by omega) (by have:=HD.out.own;have:=HD.out.b.lt;simp;omega) _ rfl ?_)
    intro g2 cap2 w2 hown2 hgrow2 _ _
    have HM:Hid _:=(HD.out.dn _).more ⟨false,i,y,noT⟩ hgrow2 hown2
    clear HD hown2 hgrow2
    go_wp2_with fail
    go_roundw
    case rel=>exact ⟨i+1,by go_num,by omega,by rw [HE.out];simpa using HM.out⟩
    case measure=>simp [intOf];omega
  ·have hlt':¬(i:Int)<A.ints.length:=by omega
   obtain rfl:i=A.ints.length:=by omega
   have HD:Hid _:=hD
   clear hD
   go_wp2_with fail
   go_loopw [6,8] (fun lv iv wr=>∃(i:Nat),iv=.int .i64 i∧i≤A.texts.length∧DfI w wr #[.int .i64 A.kind,.slice a1 A.ints.length c1,.slice a2 A.texts.length c2,.slice a3 A.kids.length c3] #[.int .i64 A.kind,.slice b1 A.ints.length d1,.slice b2 A.texts.length d2,.slice b3 B.kids.length d3] lv (DL A B A.ints.length i)) (fun _ iv _=>A.texts.length-(intOf iv).toNat)
   case atStart=>exact ⟨0,rfl,by omega,HD.out⟩
   case round=>
    clear HD x1 y1
    obtain ⟨i,rfl,hi,hD⟩:=hrel
    have x1:wr.cell? ⟨w.heap.size,2,none⟩=some (.slice a2 A.texts.length c2):=hD.a.cell 2
    have y1:wr.cell? ⟨w.heap.size+1,2,none⟩=some (.slice b2 A.texts.length d2):=hD.b.cell 2
    obtain ⟨ao,co,hv⟩:=own_shape8 hD.own
    subst hv
    have hle:=DL_le A B A.ints.length i
    by_cases hlt:i<A.texts.length
    ·have hlt':(i:Int)<A.texts.length:=by omega
     obtain ⟨ga,oa,rfl,la,da⟩:=(HA.out.t.belowB hD.bel).at (tV_at A.texts i hlt)
     obtain ⟨gb,ob,rfl,lb,db⟩:=(HB.out.t.belowB hD.bel).at (tV_at B.texts i (by rw [← Ht.out];exact hlt))
     by_cases he:A.texts.getD i noT=B.texts.getD i noT
     ·have HE:Hid _:=DL_t1 A B A.ints.length i he
      rw [← he] at db
      generalize A.texts.getD i noT=x at *
      have HD:Hid _:=hD
      clear hD HA HB
      go_wp2_with fail
      go_quiet (fail)
      go_wp2_with fail
      go_roundw
      case rel=>exact ⟨i+1,by go_num,by omega,by rw [HE.out];exact HD.out.dn _⟩
      case measure=>simp [intOf];omega
     ·have HE:Hid _:=DL_t2 A B A.ints.length i he
      have HD:Hid _:=hD
      have he':¬B.texts.getD i noT=A.texts.getD i noT:=fun e=>he e.symm
      have hq:=eq_text (A.texts.getD i noT) (B.texts.getD i noT)
      rw [decide_eq_false he] at hq
      generalize A.texts.getD i noT=x at *
      generalize B.texts.getD i noT=y at *
      generalize DL A B A.ints.length i=L at *
      clear hD HA HB
      go_wp2_with fail
      go_quiet (fail)
      go_wp2_with (at_builtin;refine wpList_append_lies _ rfl (.tmp 79) (.tmp 87) 173 rfl (w.heap.size+1+1) 203 i0 (.agg #[.bool false,.int .i64 0,.int .i64 0,.string ⟨#[]⟩]) 4 40 Tryz.underlying173 hi0 hz0 hz1 hz2 rfl (by decide) _ L.length (stV L) rfl ((HD.out.dn _).own.alloc _) ⟨wr.heap.size,0,none⟩ 1 1 [.bool true,.int .i64 i,.int .i64 0,.string y] rfl rfl (cells_four _ _ _ _ _ _) (by intro u hu;simp at hu;rcases hu with rfl|rfl|rfl|rfl <;> rfl) (by decide) (by unfold maxLen;omega) (by omega) (by have:=HD.out.own;have:=HD.out.b.lt;simp;omega) _ rfl ?_)
      intro g2 cap2 w2 hown2 hgrow2 _ _
      have HM:Hid _:=(HD.out.dn _).more ⟨true,i,0,y⟩ hgrow2 hown2
      clear HD hown2 hgrow2
      go_wp2_with fail
      go_roundw
      case rel=>exact ⟨i+1,by go_num,by omega,by rw [HE.out];simpa using HM.out⟩
      case measure=>simp [intOf];omega
    ·have hlt':¬(i:Int)<A.texts.length:=by omega
     obtain rfl:i=A.texts.length:=by omega
     have HD:Hid _:=hD
     clear hD
     go_wp2_with fail
     go_ret2
     exact ⟨_,_,rfl,own_mono HD.out.own (by omega),HD.out.bel⟩
set_option maxRecDepth 10000 in
set_option maxHeartbeats 400000 in
theorem rdiff_no (A B:Nd) (a1 a2 a3 b1 b2 b3:Option Addr) (c1 c2 c3 d1 d2 d3:Nat) (w:World) (h:cmp A B=false) :
  Calls Tryz.prog 127 #[.agg #[.int .i64 A.kind,.slice a1 A.ints.length c1,.slice a2 A.texts.length c2,.slice a3 A.kids.length c3],.agg #[.int .i64 B.kind,.slice b1 B.ints.length d1,.slice b2 B.texts.length d2,.slice b3 B.kids.length d3]] w fun e w'=>StOut w w' e false []:=by
 have HB:Hid _:=fun (o p:Obj)=>((Below.refl w.heap.size w).alloc (Nat.le_refl _) o).alloc (by simp) p
 unfold cmp at h
 simp only [decide_eq_false_iff_not] at h
 by_cases hk:A.kind=B.kind
 ·by_cases hi:A.ints.length=B.ints.length
  ·have ht:¬A.texts.length=B.texts.length:=fun e=>h ⟨hk,hi,e⟩
   have ht':¬(A.texts.length:Int)=B.texts.length:=by omega
   rw [hk,hi]
   clear h hk hi
   go_enter Tryz.func127,Tryz.ntmps127
   go_wp2_with fail
   go_ret2
   exact ⟨_,_,rfl,World.ownsRow_nil _ _ _ _,HB.out _ _⟩
  ·have hi':¬(A.ints.length:Int)=B.ints.length:=by omega
   rw [hk]
   clear h hk
   go_enter Tryz.func127,Tryz.ntmps127
   go_wp2_with fail
   go_ret2
   exact ⟨_,_,rfl,World.ownsRow_nil _ _ _ _,HB.out _ _⟩
 ·clear h
  go_enter Tryz.func127,Tryz.ntmps127
  go_wp2_with fail
  go_ret2
  exact ⟨_,_,rfl,World.ownsRow_nil _ _ _ _,HB.out _ _⟩
theorem rdiff_any (A B:Nd) (a1 a2 a3 b1 b2 b3:Option Addr) (c1 c2 c3 d1 d2 d3:Nat) (w:World) (hA:NdAt w A a1 a2 a3) (hB:NdAt w B b1 b2 b3) (h1:A.ints.length≤100) (h2:A.texts.length≤100) :
  Calls Tryz.prog 127 #[.agg #[.int .i64 A.kind,.slice a1 A.ints.length c1,.slice a2 A.texts.length c2,.slice a3 A.kids.length c3],.agg #[.int .i64 B.kind,.slice b1 B.ints.length d1,.slice b2 B.texts.length d2,.slice b3 B.kids.length d3]] w fun e w'=>StOut w w' e (cmp A B) (dL A B):=by
 cases h:cmp A B with
 | false=>
  rw [show dL A B=[] by unfold dL;rw [h];rfl]
  exact rdiff_no A B a1 a2 a3 b1 b2 b3 c1 c2 c3 d1 d2 d3 w h
 | true=>
  rw [show dL A B=DL A B A.ints.length A.texts.length by unfold dL;rw [h];rfl]
  unfold cmp at h
  rw [decide_eq_true_eq] at h
  exact rdiff_yes A B a1 a2 a3 b1 b2 b3 c1 c2 c3 d1 d2 d3 w hA hB h.1 h.2.1 h.2.2 h1 h2
end Go.Proofs.YtgoffkfpdigeeaaGreatDoor
namespace Go.Proofs.YtgoffkfpdigeeaaGreatDoor
open Go.RowKit
set_option maxRecDepth 10000 in
set_option maxHeartbeats 400000 in
theorem own_any (A B:Nd) (a1 a2 a3 b1 b2 b3:Option Addr) (c1 c2 c3 d1 d2 d3:Nat) (w:World) (hA:NdAt w A a1 a2 a3) (hB:NdAt w B b1 b2 b3) (h1:A.ints.length≤100) (h2:A.texts.length≤100) :
  Calls Tryz.prog 89 #[.agg #[.int .i64 A.kind,.slice a1 A.ints.length c1,.slice a2 A.texts.length c2,.slice a3 A.kids.length c3],.agg #[.int .i64 B.kind,.slice b1 B.ints.length d1,.slice b2 B.texts.length d2,.slice b3 B.kids.length d3]] w fun e w'=>e=.returned (.bool (cmp A B && decide ((dL A B).length=0)))∧Below w.heap.size w w':=by
 have H:Hid _:=fun (W:World) (h:Below w.heap.size w W)=>rdiff_any A B a1 a2 a3 b1 b2 b3 c1 c2 c3 d1 d2 d3 W (hA.belowB h) (hB.belowB h) h1 h2
 have hb:=fun (o p:Obj)=>((Below.refl w.heap.size w).alloc (Nat.le_refl _) o).alloc (by simp) p
 have HB:Hid _:=hb
 clear hA hB hb
 generalize dL A B=L at *
 generalize cmp A B=b at *
 cases b
 ·rw [Bool.false_and]
  go_enter Tryz.func89,Tryz.ntmps89
  go_wp2_with fail
  refine (H.out _ (HB.out _ _)).mono ?_
  rintro e w1 ⟨a,c,rfl,-,hb1⟩
  have HB1:Hid _:=(HB.out (.cells #[.int .i64 A.kind,.slice a1 A.ints.length c1,.slice a2 A.texts.length c2,.slice a3 A.kids.length c3] 51) (.cells #[.int .i64 B.kind,.slice b1 B.ints.length d1,.slice b2 B.texts.length d2,.slice b3 B.kids.length d3] 51)).trans (hb1.mono (by simp;omega))
  clear hb1 HB H
  go_wp2_with fail
  go_ret
  exact ⟨rfl,HB1.out⟩
 ·rw [Bool.true_and]
  by_cases hl:L.length=0
  ·rw [decide_eq_true hl]
   have hl':(L.length:Int)=0:=by omega
   go_enter Tryz.func89,Tryz.ntmps89
   go_wp2_with fail
   refine (H.out _ (HB.out _ _)).mono ?_
   rintro e w1 ⟨a,c,rfl,-,hb1⟩
   have HB1:Hid _:=(HB.out (.cells #[.int .i64 A.kind,.slice a1 A.ints.length c1,.slice a2 A.texts.length c2,.slice a3 A.kids.length c3] 51) (.cells #[.int .i64 B.kind,.slice b1 B.ints.length d1,.slice b2 B.texts.length d2,.slice b3 B.kids.length d3] 51)).trans (hb1.mono (by simp;omega))
   clear hb1 HB H
   go_wp2_with fail
   go_ret
   exact ⟨by simp,HB1.out⟩
  ·rw [decide_eq_false hl]
   have hl':¬(L.length:Int)=0:=by omega
   go_enter Tryz.func89,Tryz.ntmps89
   go_wp2_with fail
   refine (H.out _ (HB.out _ _)).mono ?_
   rintro e w1 ⟨a,c,rfl,-,hb1⟩
   have HB1:Hid _:=(HB.out (.cells #[.int .i64 A.kind,.slice a1 A.ints.length c1,.slice a2 A.texts.length c2,.slice a3 A.kids.length c3] 51) (.cells #[.int .i64 B.kind,.slice b1 B.ints.length d1,.slice b2 B.texts.length d2,.slice b3 B.kids.length d3] 51)).trans (hb1.mono (by simp;omega))
   clear hb1 HB H
   go_wp2_with fail
   go_ret
   exact ⟨by simp_all,HB1.out⟩
theorem dI_same (a:List Int) (k:Nat):dI a a k=[]:=by
 induction k with
 | zero=>rfl
 | succ k ih=>simp [dI,ih]
theorem dT_same (a:List ByteArray) (k:Nat):dT a a k=[]:=by
 induction k with
 | zero=>rfl
 | succ k ih=>simp [dT,ih]
theorem own_same (A B:Nd) (h1:A.kind=B.kind) (h2:A.ints=B.ints) (h3:A.texts=B.texts):(cmp A B && decide ((dL A B).length=0))=true:=by
 have hc:cmp A B=true:=by unfold cmp;rw [decide_eq_true_eq];exact ⟨h1,by rw [h2],by rw [h3]⟩
 rw [hc,show dL A B=[] by unfold dL;rw [hc];simp only [if_true,DL,h2,h3,dI_same,dT_same];rfl]
 rfl
theorem dI_none (a b:List Int):∀n,dI a b n=[]→∀k,k<n→a.getD k 0=b.getD k 0:=by
 intro n
 induction n with
 | zero=>intro _ k hk;omega
 | succ n ih=>
  intro h k hk
  simp only [dI,List.append_eq_nil_iff] at h
  by_cases hkn:k=n
  ·subst hkn
   by_cases he:a.getD k 0=b.getD k 0
   ·exact he
   ·rw [if_neg he] at h;simp at h
  ·exact ih h.1 k (by omega)
theorem dT_none (a b:List ByteArray):∀n,dT a b n=[]→∀k,k<n→a.getD k noT=b.getD k noT:=by
 intro n
 induction n with
 | zero=>intro _ k hk;omega
 | succ n ih=>
  intro h k hk
  simp only [dT,List.append_eq_nil_iff] at h
  by_cases hkn:k=n
  ·subst hkn
   by_cases he:a.getD k noT=b.getD k noT
   ·exact he
   ·rw [if_neg he] at h;simp at h
  ·exact ih h.1 k (by omega)
theorem list_eq10 {α : Type} (d : α) (a b:List α) (hl:a.length=b.length) (h:∀k,k<a.length→a.getD k d=b.getD k d):a=b:=by
 refine List.ext_getElem hl (fun i h1 h2=>?_)
 have:=h i h1
 simpa [h1,h2] using this
def ownB (A B:Nd):Bool:=cmp A B && decide ((dL A B).length=0)
theorem ownB_iff (A B:Nd):ownB A B=true↔A.kind=B.kind∧A.ints=B.ints∧A.texts=B.texts:=by
 constructor
 ·intro h
  unfold ownB at h
  rw [Bool.and_eq_true,decide_eq_true_eq] at h
  obtain ⟨h1,h2⟩:=h
  have h3:A.kind=B.kind∧A.ints.length=B.ints.length∧A.texts.length=B.texts.length:=by
   unfold cmp at h1
   rwa [decide_eq_true_eq] at h1
  have h4:dL A B=dI A.ints B.ints A.ints.length++dT A.texts B.texts A.texts.length:=by
   unfold dL
   rw [if_pos h1]
   rfl
  have h5:=List.length_eq_zero_iff.1 h2
  rw [h4,List.append_eq_nil_iff] at h5
  exact ⟨h3.1,list_eq10 0 _ _ h3.2.1 (fun k hk=>dI_none _ _ _ h5.1 k hk),list_eq10 noT _ _ h3.2.2 (fun k hk=>dT_none _ _ _ h5.2 k hk)⟩
 ·rintro ⟨h1,h2,h3⟩
  exact own_same A B h1 h2 h3
def sameB (A B:Nd):Bool:=ownB A B && decide (A.kids=B.kids)
theorem sameB_iff (A B:Nd):sameB A B=true↔A=B:=by
 unfold sameB
 rw [Bool.and_eq_true,decide_eq_true_eq,ownB_iff]
 constructor
 ·rintro ⟨⟨h1,h2,h3⟩,h4⟩
  cases A;cases B
  simp_all
 ·rintro rfl
  exact ⟨⟨rfl,rfl,rfl⟩,rfl⟩
set_option maxRecDepth 10000 in
set_option maxHeartbeats 1000000 in
theorem same8_big (A B:Nd) (a1 a2 a3 b1 b2 b3:Option Addr) (c1 c2 c3 d1 d2 d3:Nat) (w:World) (hA:NdAt w A a1 a2 a3) (hB:NdAt w B b1 b2 b3) (h1:A.ints.length≤100) (h2:A.texts.length≤100) (h3:A.kids.length≤100000) :
  Calls Tryz.prog 41 #[.agg #[.int .i64 A.kind,.slice a1 A.ints.length c1,.slice a2 A.texts.length c2,.slice a3 A.kids.length c3],.agg #[.int .i64 B.kind,.slice b1 B.ints.length d1,.slice b2 B.texts.length d2,.slice b3 B.kids.length d3]] w fun e w'=>e=.returned (.bool (sameB A B))∧Below w.heap.size w w':=by
 have H:Hid (∀(W:World) (_:Below w.heap.size w W),Calls Tryz.prog 89 #[.agg #[.int .i64 A.kind,.slice a1 A.ints.length c1,.slice a2 A.texts.length c2,.slice a3 A.kids.length c3],.agg #[.int .i64 B.kind,.slice b1 B.ints.length d1,.slice b2 B.texts.length d2,.slice b3 B.kids.length d3]] W fun e w'=>e=.returned (.bool (ownB A B))∧Below W.heap.size W w'):=fun W h=>own_any A B a1 a2 a3 b1 b2 b3 c1 c2 c3 d1 d2 d3 W (hA.belowB h) (hB.belowB h) h1 h2
 have HB:Hid _:=fun (o p:Obj)=>((Below.refl w.heap.size w).alloc (Nat.le_refl _) o).alloc (by simp) p
 have HA1:Hid _:=hA.k
 have HA2:Hid _:=hB.k
 clear hA hB
 have HR:Hid (sameB A B=(ownB A B && decide (A.kids=B.kids))):=rfl
 generalize sameB A B=b at *
 generalize ownB A B=b0 at *
 go_enter Tryz.func41,Tryz.ntmps41
 go_wp2_with fail
 refine (H.out _ (HB.out _ _)).mono ?_
 rintro e w1 ⟨rfl,hb1⟩
 have n1:=((AtN.new w 51 #[.int .i64 A.kind,.slice a1 A.ints.length c1,.slice a2 A.texts.length c2,.slice a3 A.kids.length c3]).alloc (.cells #[.int .i64 B.kind,.slice b1 B.ints.length d1,.slice b2 B.texts.length d2,.slice b3 B.kids.length d3] 51)).belowAll hb1
 have n2:=(mk_at (AtN.new (w.alloc (.cells #[.int .i64 A.kind,.slice a1 A.ints.length c1,.slice a2 A.texts.length c2,.slice a3 A.kids.length c3] 51)) 51 #[.int .i64 B.kind,.slice b1 B.ints.length d1,.slice b2 B.texts.length d2,.slice b3 B.kids.length d3]) (show _=w.heap.size+1 by simp)).belowAll hb1
 have B1:=(HB.out (.cells #[.int .i64 A.kind,.slice a1 A.ints.length c1,.slice a2 A.texts.length c2,.slice a3 A.kids.length c3] 51) (.cells #[.int .i64 B.kind,.slice b1 B.ints.length d1,.slice b2 B.texts.length d2,.slice b3 B.kids.length d3] 51)).trans (hb1.mono (by simp;omega))
 have x3:w1.cell? ⟨w.heap.size,3,none⟩=some (.slice a3 A.kids.length c3):=n1.cell 3
 have y3:w1.cell? ⟨w.heap.size+1,3,none⟩=some (.slice b3 B.kids.length d3):=n2.cell 3
 have HN:Hid _:=And.intro n1 (And.intro n2 B1)
 clear n1 n2 B1 hb1 HB H
 cases b0 with
 | false=>
  have hb:b=false:=HR.out
  subst hb
  go_wp2_with fail
  go_ret
  exact ⟨rfl,HN.out.2.2⟩
 | true=>
  by_cases hlen:A.kids.length=B.kids.length
  ·have hlen':(A.kids.length:Int)=B.kids.length:=by omega
   have Hl:Hid _:=hlen
   rw [← hlen] at y3 HN
   clear hlen hlen'
   go_wp2_with fail
   go_loopw [5] (fun iv wr=>∃(i:Nat),iv=.int .i64 i∧i≤A.kids.length∧Hid (∀k,k<i→A.kids.getD k 0=B.kids.getD k 0)∧Below w.heap.size w wr∧AtN 51 wr w.heap.size #[.int .i64 A.kind,.slice a1 A.ints.length c1,.slice a2 A.texts.length c2,.slice a3 A.kids.length c3]∧AtN 51 wr (w.heap.size+1) #[.int .i64 B.kind,.slice b1 B.ints.length d1,.slice b2 B.texts.length d2,.slice b3 A.kids.length d3]) (fun iv _=>A.kids.length-(intOf iv).toNat)
   case atStart=>exact ⟨0,rfl,by omega,fun k hk=>by omega,HN.out.2.2,HN.out.1,HN.out.2.1⟩
   case round=>
    clear HN x3 y3
    obtain ⟨i,rfl,hi,HI,hB,n1,n2⟩:=hrel
    have x3:wr.cell? ⟨w.heap.size,3,none⟩=some (.slice a3 A.kids.length c3):=n1.cell 3
    have y3:wr.cell? ⟨w.heap.size+1,3,none⟩=some (.slice b3 A.kids.length d3):=n2.cell 3
    by_cases hlt:i<A.kids.length
    ·have hlt':(i:Int)<A.kids.length:=by omega
     obtain ⟨ga,oa,rfl,la,da⟩:=(LsAt.belowB HA1.out hB).at (iV_at A.kids i hlt)
     obtain ⟨gb,ob,rfl,lb,db⟩:=(LsAt.belowB HA2.out hB).at (iV_at B.kids i (by rw [← Hl.out];exact hlt))
     have HN:Hid _:=And.intro n1 (And.intro n2 hB)
     by_cases he:A.kids.getD i 0=B.kids.getD i 0
     ·have HI2:Hid (∀k,k<i+1→A.kids.getD k 0=B.kids.getD k 0):=fun k hk=>by
       by_cases e:k=i
       ·rw [e];exact he
       ·exact HI.out k (by omega)
      rw [← he] at db
      clear he
      generalize A.kids.getD i 0=z at *
      clear n1 n2 hB HA1 HA2 HI
      go_wp2_with fail
      go_quiet (fail)
      go_wp2_with fail
      go_roundw
      case rel=>exact ⟨i+1,by go_num,by omega,HI2,dn_below HN.out.2.2 _,HN.out.1,HN.out.2.1⟩
      case measure=>simp [intOf];omega
     ·have hb:b=false:=by
       have h0:b=(true && decide (A.kids=B.kids)):=HR.out
       rw [h0,Bool.true_and]
       exact decide_eq_false fun q=>he (by rw [q])
      subst hb
      generalize A.kids.getD i 0=z at *
      generalize B.kids.getD i 0=z' at *
      clear n1 n2 hB HA1 HA2 HI
      go_wp2_with fail
      go_quiet (fail)
      go_wp2_with fail
      go_ret
      exact ⟨rfl,dn_below HN.out.2.2 _⟩
    ·have hlt':¬(i:Int)<A.kids.length:=by omega
     have hb:b=true:=by
      have h0:b=(true && decide (A.kids=B.kids)):=HR.out
      rw [h0,Bool.true_and]
      exact decide_eq_true (list_eq10 0 _ _ Hl.out (fun k hk=>HI.out k (by omega)))
     subst hb
     have HN:Hid _:=hB
     clear hB n1 n2
     go_wp2_with fail
     go_ret
     exact ⟨rfl,HN.out⟩
  ·have hlen':¬(A.kids.length:Int)=B.kids.length:=by omega
   have hb:b=false:=by
    have h0:b=(true && decide (A.kids=B.kids)):=HR.out
    rw [h0,Bool.true_and]
    exact decide_eq_false fun q=>hlen (by rw [q])
   subst hb
   go_wp2_with fail
   go_ret
   exact ⟨rfl,HN.out.2.2⟩
end Go.Proofs.YtgoffkfpdigeeaaGreatDoor
