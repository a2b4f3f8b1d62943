import Derived.Test.YtgoffkfpdigeeaaGreatDoorL08
import Derived.Test.YtgoffkfpdigeeaaGreatDoorL14
import Derived.Test.YtgoffkfpdigeeaaGreatDoorL16
import Derived.Maps.OwnSet
import Derived.Maps.OwnOps
import Derived.Maps.Views
import Derived.StringKeys
import Derived.Test.YtgoffkfpdigeeaaGreatDoorL09
import Derived.Deep.QuietTactic
import Derived.BigQuiet
import Derived.Test.YtgoffkfpdigeeaaGreatDoorL04
namespace Go.Proofs.YtgoffkfpdigeeaaGreatDoor
open Go.RowKit
def FnX (X:List Nx):Prop:=∀i,i<X.length→fine (X.getD i noNx).nd.ints
end Go.Proofs.YtgoffkfpdigeeaaGreatDoor
namespace Go.Proofs.YtgoffkfpdigeeaaGreatDoor
open Go.RowKit Go.Maps Go.WideMaps
def kS (s:ByteArray):Lit:=.string s.data.toList
theorem lawS6:Keyed Tryz.prog 9:=string_keyed Tryz.underlying9
theorem kS_key (s:ByteArray) (h:s.size≤maxLen):keyOf Tryz.prog 9 (.string s)=some (kS s):=keyOf_string_mk Tryz.underlying9 h
theorem kS_ne {s t:ByteArray} (h:s≠t):kS s≠kS t:=by
 intro e
 unfold kS at e
 injection e with e
 apply h
 cases s;cases t
 simp at e
 rw [e]
theorem kS_is (s:ByteArray):WideAt.IsKeyLit (kS s):=trivial
end Go.Proofs.YtgoffkfpdigeeaaGreatDoor
namespace Go.Proofs.YtgoffkfpdigeeaaGreatDoor
open Go.RowKit
structure Lm where
 b:Int
 n:Int
 e:Int
 d:Int
 x:Int
def lmL (l:Lm):List Int:=[l.b,l.n,l.e,l.d,l.x]
abbrev okP (l:Lm):Prop:=(0≤l.b∧l.b≤16777216)∧(0≤l.n∧l.n≤16777216)∧(0≤l.e∧l.e≤16777216)∧(0≤l.d∧l.d≤16777216)∧(0≤l.x∧l.x≤16777216)
abbrev inP (m l:Lm):Prop:=m.b≤l.b∧m.n≤l.n∧m.e≤l.e∧m.d≤l.d∧m.x≤l.x
def okL (l:Lm):Bool:=decide (okP l)
def inL (m l:Lm):Bool:=decide (inP m l)
theorem five_cases {i:Nat} (h:i<5):i=0∨i=1∨i=2∨i=3∨i=4:=by omega
theorem okL_yes (l:Lm) (h:∀i,i<5→0≤(lmL l).getD i 0∧(lmL l).getD i 0≤16777216):okL l=true:=by
 have h0:=h 0 (by omega)
 have h1:=h 1 (by omega)
 have h2:=h 2 (by omega)
 have h3:=h 3 (by omega)
 have h4:=h 4 (by omega)
 exact decide_eq_true ⟨h0,h1,h2,h3,h4⟩
theorem okL_no (l:Lm) (i:Nat) (hi:i<5) (h:(lmL l).getD i 0<0∨16777216<(lmL l).getD i 0):okL l=false:=by
 refine decide_eq_false fun q=>?_
 obtain ⟨q0,q1,q2,q3,q4⟩:=q
 rcases five_cases hi with rfl|rfl|rfl|rfl|rfl <;> simp [lmL] at h <;> omega
theorem inL_yes (m l:Lm) (h:∀i,i<5→(lmL m).getD i 0≤(lmL l).getD i 0):inL m l=true:=by
 have h0:=h 0 (by omega)
 have h1:=h 1 (by omega)
 have h2:=h 2 (by omega)
 have h3:=h 3 (by omega)
 have h4:=h 4 (by omega)
 exact decide_eq_true ⟨h0,h1,h2,h3,h4⟩
theorem inL_no (m l:Lm) (i:Nat) (hi:i<5) (h:(lmL l).getD i 0<(lmL m).getD i 0):inL m l=false:=by
 refine decide_eq_false fun q=>?_
 obtain ⟨q0,q1,q2,q3,q4⟩:=q
 rcases five_cases hi with rfl|rfl|rfl|rfl|rfl <;> simp [lmL] at h <;> omega
set_option maxRecDepth 10000 in
set_option maxHeartbeats 400000 in
theorem five_any (b n e d x:Int) (w:World) :
  Calls Tryz.prog 70 #[.agg #[.int .i64 b,.int .i64 n,.int .i64 e,.int .i64 d,.int .i64 x]] w fun r w'=>r=.returned (.agg #[.int .i64 b,.int .i64 n,.int .i64 e,.int .i64 d,.int .i64 x])∧Below w.heap.size w w':=by
 go_enter Tryz.func70,Tryz.ntmps70
 go_wp2_with fail
 exact bodyPost_ret (v:=.agg #[.int .i64 b,.int .i64 n,.int .i64 e,.int .i64 d,.int .i64 x]) (by simp [results,Tryz.results70,go_sem, *]) rfl ⟨rfl,((Below.refl w.heap.size w).alloc (Nat.le_refl _) _).alloc (by simp) _⟩
theorem index5 (l:Lm) (i:Nat) (h:i<5) (W:World):(Instr.index 104 (.agg #[.int .i64 l.b,.int .i64 l.n,.int .i64 l.e,.int .i64 l.d,.int .i64 l.x]) (.int .i64 i)).run Tryz.prog W=.ok (.int .i64 ((lmL l).getD i 0)) W:=by
 rcases five_cases h with rfl|rfl|rfl|rfl|rfl <;> kernel_rfl
set_option maxRecDepth 10000 in
set_option maxHeartbeats 400000 in
theorem okl_any (l:Lm) (w:World) :
  Calls Tryz.prog 33 #[.agg #[.int .i64 l.b,.int .i64 l.n,.int .i64 l.e,.int .i64 l.d,.int .i64 l.x]] w fun e w'=>e=.returned (.bool (okL l))∧Below w.heap.size w w':=by
 have HF:Hid (∀W,_):=fun W=>five_any l.b l.n l.e l.d l.x W
 have HI:Hid (∀i,i<5→∀W:World,(Instr.index 104 (.agg #[.int .i64 l.b,.int .i64 l.n,.int .i64 l.e,.int .i64 l.d,.int .i64 l.x]) (.int .i64 (i:Nat))).run Tryz.prog W=.ok (.int .i64 ((lmL l).getD i 0)) W):=fun i h W=>index5 l i h W
 have HY:Hid ((∀i,i<5→0≤(lmL l).getD i 0∧(lmL l).getD i 0≤16777216)→okL l=true):=okL_yes l
 have HN:Hid (∀i,i<5→(lmL l).getD i 0<0∨16777216<(lmL l).getD i 0→okL l=false):=okL_no l
 have HB:Hid _:=fun (o:Obj)=>(Below.refl w.heap.size w).alloc (Nat.le_refl _) o
 generalize okL l=Q at *
 generalize lmL l=L at *
 obtain ⟨b,n,e,d,x⟩:=l
 dsimp only at *
 go_enter Tryz.func33,Tryz.ntmps33
 go_wp2_with fail
 refine (HF.out _).mono ?_
 rintro r w1 ⟨rfl,hb1⟩
 have HB1:Hid (Below w.heap.size w w1):=(HB.out _).trans (hb1.mono (by simp))
 clear HB hb1 HF
 go_wp2_with fail
 go_loopw [7] (fun iv wr=>∃i:Nat,iv=.int .i64 i∧i≤5∧wr=w1∧Hid (∀k,k<i→0≤L.getD k 0∧L.getD k 0≤16777216)) (fun iv _=>5-(intOf iv).toNat)
 case atStart=>exact ⟨0,rfl,by omega,rfl,fun k hk=>by omega⟩
 case round=>
  obtain ⟨i,rfl,hi,rfl,HK⟩:=hrel
  by_cases hlt:i<5
  ·have hlt':(i:Int)<5:=by omega
   have hx:=HI.out i hlt
   have HN1:Hid (L.getD i 0<0∨16777216<L.getD i 0→Q=false):=HN.out i hlt
   have HK1:Hid (0≤L.getD i 0∧L.getD i 0≤16777216→∀k,k<i+1→0≤L.getD k 0∧L.getD k 0≤16777216):=fun h k hk=>by
    by_cases e:k=i
    ·subst e;exact h
    ·exact HK.out k (by omega)
   generalize L.getD i 0=z at *
   clear HI HY HN HK
   by_cases h0:z<0
   ·go_wp2_with fail
    go_ret
    rw [HN1.out (.inl h0)]
    exact ⟨rfl,HB1.out⟩
   ·by_cases h1:16777216<z
    ·go_wp2_with fail
     go_ret
     rw [HN1.out (.inr h1)]
     exact ⟨rfl,HB1.out⟩
    ·go_wp2_with fail
     go_roundw
     case rel=>exact ⟨i+1,by go_num,by omega,by first|rfl|trivial,HK1.out ⟨by omega,by omega⟩⟩
     case measure=>simp [intOf];omega
  ·have hlt':¬(i:Int)<5:=by omega
   have HQ:Hid (Q=true):=HY.out (fun k hk=>HK.out k (by omega))
   clear HI HY HN HK
   go_wp2_with fail
   go_ret
   rw [HQ.out]
   exact ⟨rfl,HB1.out⟩
set_option maxRecDepth 10000 in
set_option maxHeartbeats 400000 in
theorem within_any (m l:Lm) (w:World) :
  Calls Tryz.prog 57 #[.agg #[.int .i64 m.b,.int .i64 m.n,.int .i64 m.e,.int .i64 m.d,.int .i64 m.x],.agg #[.int .i64 l.b,.int .i64 l.n,.int .i64 l.e,.int .i64 l.d,.int .i64 l.x]] w fun e w'=>e=.returned (.bool (inL m l))∧Below w.heap.size w w':=by
 have HF:Hid (∀(l:Lm) W,_):=fun l W=>five_any l.b l.n l.e l.d l.x W
 have HI:Hid (∀i,i<5→∀W:World,(Instr.index 104 (.agg #[.int .i64 m.b,.int .i64 m.n,.int .i64 m.e,.int .i64 m.d,.int .i64 m.x]) (.int .i64 (i:Nat))).run Tryz.prog W=.ok (.int .i64 ((lmL m).getD i 0)) W):=fun i h W=>index5 m i h W
 have HY:Hid ((∀i,i<5→(lmL m).getD i 0≤(lmL l).getD i 0)→inL m l=true):=inL_yes m l
 have HN:Hid (∀i,i<5→(lmL l).getD i 0<(lmL m).getD i 0→inL m l=false):=inL_no m l
 have HB:Hid _:=fun (o p:Obj)=>((Below.refl w.heap.size w).alloc (Nat.le_refl _) o).alloc (by simp) p
 have HA:Hid (∀W:World,∀g,AtN 104 W g #[.int .i64 l.b,.int .i64 l.n,.int .i64 l.e,.int .i64 l.d,.int .i64 l.x]→∀i,i<5→W.cell? ⟨g,i,none⟩=some (.int .i64 ((lmL l).getD i 0))):=fun W g h i hi=>by
  rcases five_cases hi with rfl|rfl|rfl|rfl|rfl
  ·exact h.cell 0
  ·exact h.cell 1
  ·exact h.cell 2
  ·exact h.cell 3
  ·exact h.cell 4
 have n1:=(AtN.new w 26 #[.int .i64 m.b,.int .i64 m.n,.int .i64 m.e,.int .i64 m.d,.int .i64 m.x]).alloc (.cells #[.int .i64 l.b,.int .i64 l.n,.int .i64 l.e,.int .i64 l.d,.int .i64 l.x] 26)
 have HB0:Hid _:=And.intro n1 (HB.out (.cells #[.int .i64 m.b,.int .i64 m.n,.int .i64 m.e,.int .i64 m.d,.int .i64 m.x] 26) (.cells #[.int .i64 l.b,.int .i64 l.n,.int .i64 l.e,.int .i64 l.d,.int .i64 l.x] 26))
 have HF1:Hid _:=HF.out l
 have HF2:Hid _:=HF.out m
 generalize inL m l=Q at *
 generalize lmL l=L at *
 generalize lmL m=M at *
 obtain ⟨b,n,e,d,x⟩:=l
 obtain ⟨b',n',e',d',x'⟩:=m
 dsimp only at *
 clear n1 HF HB
 go_enter Tryz.func57,Tryz.ntmps57
 go_wp2_with fail
 refine (Hid.out HF1 _).mono ?_
 rintro r w1 ⟨rfl,hb1⟩
 have n1:=HB0.out.1.belowAll hb1
 have c0:w1.cell? ⟨w.heap.size,0,none⟩=some (.int .i64 b'):=n1.cell 0
 have c1:w1.cell? ⟨w.heap.size,1,none⟩=some (.int .i64 n'):=n1.cell 1
 have c2:w1.cell? ⟨w.heap.size,2,none⟩=some (.int .i64 e'):=n1.cell 2
 have c3:w1.cell? ⟨w.heap.size,3,none⟩=some (.int .i64 d'):=n1.cell 3
 have c4:w1.cell? ⟨w.heap.size,4,none⟩=some (.int .i64 x'):=n1.cell 4
 have HB1:Hid (Below w.heap.size w w1):=HB0.out.2.trans (hb1.mono HB0.out.2.size)
 have HA1:Hid (AtN 104 (w1.alloc (.cells #[.int .i64 b,.int .i64 n,.int .i64 e,.int .i64 d,.int .i64 x] 104)) w1.heap.size #[.int .i64 b,.int .i64 n,.int .i64 e,.int .i64 d,.int .i64 x]):=AtN.new w1 104 #[.int .i64 b,.int .i64 n,.int .i64 e,.int .i64 d,.int .i64 x]
 have hlt1:=n1.lt
 clear HB0 hb1 HF1 n1
 go_wp2_with fail
 refine (Hid.out HF2 _).mono ?_
 rintro r w2 ⟨rfl,hb2⟩
 have HA2:Hid (AtN 104 w2 w1.heap.size #[.int .i64 b,.int .i64 n,.int .i64 e,.int .i64 d,.int .i64 x]):=AtN.belowAll HA1.out hb2
 have HB2:Hid (Below w.heap.size w w2):=(HB1.out.alloc HB1.out.size _).trans (hb2.mono (by have:=HB1.out.size;simp;omega))
 clear HA1 HB1 hb2 HF2 c0 c1 c2 c3 c4
 go_wp2_with fail
 go_loopw [12] (fun iv wr=>∃i:Nat,iv=.int .i64 i∧i≤5∧wr=w2∧Hid (∀k,k<i→M.getD k 0≤L.getD k 0)) (fun iv _=>5-(intOf iv).toNat)
 case atStart=>exact ⟨0,rfl,by omega,rfl,fun k hk=>by omega⟩
 case round=>
  obtain ⟨i,rfl,hi,rfl,HK⟩:=hrel
  by_cases hlt:i<5
  ·have hlt':(i:Int)<5:=by omega
   have hx:=HI.out i hlt
   have hc:=HA.out _ _ HA2.out i hlt
   have HN1:Hid (L.getD i 0<M.getD i 0→Q=false):=HN.out i hlt
   have HK1:Hid (M.getD i 0≤L.getD i 0→∀k,k<i+1→M.getD k 0≤L.getD k 0):=fun h k hk=>by
    by_cases e:k=i
    ·subst e;exact h
    ·exact HK.out k (by omega)
   generalize L.getD i 0=z at *
   generalize M.getD i 0=y at *
   clear HI HY HN HK HA
   by_cases h0:z<y
   ·go_wp2_with fail
    go_ret
    rw [HN1.out h0]
    exact ⟨rfl,HB2.out⟩
   ·go_wp2_with fail
    go_roundw
    case rel=>exact ⟨i+1,by go_num,by omega,by first|rfl|trivial,HK1.out (by omega)⟩
    case measure=>simp [intOf];omega
  ·have hlt':¬(i:Int)<5:=by omega
   have HQ:Hid (Q=true):=HY.out (fun k hk=>HK.out k (by omega))
   clear HI HY HN HK HA
   go_wp2_with fail
   go_ret
   rw [HQ.out]
   exact ⟨rfl,HB2.out⟩
set_option maxRecDepth 10000 in
set_option maxHeartbeats 400000 in
theorem rokl_any (l:Lm) (w:World) :
  Calls Tryz.prog 20 #[.agg #[.int .i64 l.b,.int .i64 l.n,.int .i64 l.e,.int .i64 l.d,.int .i64 l.x]] w fun e w'=>e=.returned (.bool (okL l))∧Below w.heap.size w w':=by
 have HY:Hid ((∀i,i<5→0≤(lmL l).getD i 0∧(lmL l).getD i 0≤16777216)→okL l=true):=okL_yes l
 have HN:Hid (∀i,i<5→(lmL l).getD i 0<0∨16777216<(lmL l).getD i 0→okL l=false):=okL_no l
 have HA:Hid (∀W:World,∀g,AtN 3 W g #[.int .i64 l.b,.int .i64 l.n,.int .i64 l.e,.int .i64 l.d,.int .i64 l.x]→∀i,i<5→W.cell? ⟨g,i,none⟩=some (.int .i64 ((lmL l).getD i 0))):=fun W g h i hi=>by
  rcases five_cases hi with rfl|rfl|rfl|rfl|rfl
  ·exact h.cell 0
  ·exact h.cell 1
  ·exact h.cell 2
  ·exact h.cell 3
  ·exact h.cell 4
 have n1:=mk_at (AtN.new (w.alloc (.cells #[.int .i64 l.b,.int .i64 l.n,.int .i64 l.e,.int .i64 l.d,.int .i64 l.x] 26)) 3 #[.int .i64 l.b,.int .i64 l.n,.int .i64 l.e,.int .i64 l.d,.int .i64 l.x]) (show _=w.heap.size+1 by simp)
 have HA1:Hid (AtN 3 ((w.alloc (.cells #[.int .i64 l.b,.int .i64 l.n,.int .i64 l.e,.int .i64 l.d,.int .i64 l.x] 26)).alloc (.cells #[.int .i64 l.b,.int .i64 l.n,.int .i64 l.e,.int .i64 l.d,.int .i64 l.x] 3)) (w.heap.size+1) #[.int .i64 l.b,.int .i64 l.n,.int .i64 l.e,.int .i64 l.d,.int .i64 l.x]):=n1
 have HB1:Hid (Below w.heap.size w ((w.alloc (.cells #[.int .i64 l.b,.int .i64 l.n,.int .i64 l.e,.int .i64 l.d,.int .i64 l.x] 26)).alloc (.cells #[.int .i64 l.b,.int .i64 l.n,.int .i64 l.e,.int .i64 l.d,.int .i64 l.x] 3))):=((Below.refl w.heap.size w).alloc (Nat.le_refl _) _).alloc (by simp) _
 generalize okL l=Q at *
 generalize lmL l=L at *
 obtain ⟨b,n,e,d,x⟩:=l
 dsimp only at *
 clear n1
 go_enter Tryz.func20,Tryz.ntmps20
 go_wp2_with fail
 go_loopw [4] (fun iv wr=>∃i:Nat,iv=.int .i64 i∧i≤5∧Hid (Below w.heap.size w wr)∧Hid (AtN 3 wr (w.heap.size+1) #[.int .i64 b,.int .i64 n,.int .i64 e,.int .i64 d,.int .i64 x])∧Hid (∀k,k<i→0≤L.getD k 0∧L.getD k 0≤16777216)) (fun iv _=>5-(intOf iv).toNat)
 case atStart=>exact ⟨0,rfl,by omega,HB1,HA1,fun k hk=>by omega⟩
 case round=>
  clear HA1 HB1
  obtain ⟨i,rfl,hi,HB,HA1,HK⟩:=hrel
  by_cases hlt:i<5
  ·have hlt':(i:Int)<5:=by omega
   have hx:=HA.out _ _ HA1.out i hlt
   have hl:=AtN.lt HA1.out
   have HN1:Hid (L.getD i 0<0∨16777216<L.getD i 0→Q=false):=HN.out i hlt
   have HK1:Hid (0≤L.getD i 0∧L.getD i 0≤16777216→∀k,k<i+1→0≤L.getD k 0∧L.getD k 0≤16777216):=fun h k hk=>by
    by_cases e:k=i
    ·subst e;exact h
    ·exact HK.out k (by omega)
   generalize L.getD i 0=z at *
   clear HA HY HN HK
   by_cases h0:z<0
   ·go_wp2_with fail
    go_ret
    rw [HN1.out (.inl h0)]
    exact ⟨rfl,HB.out⟩
   ·by_cases h1:16777216<z
    ·go_wp2_with fail
     go_ret
     rw [HN1.out (.inr h1)]
     exact ⟨rfl,HB.out⟩
    ·go_wp2_with fail
     go_roundw
     case rel=>exact ⟨i+1,by go_num,by omega,HB,HA1,HK1.out ⟨by omega,by omega⟩⟩
     case measure=>simp [intOf];omega
  ·have hlt':¬(i:Int)<5:=by omega
   have HQ:Hid (Q=true):=HY.out (fun k hk=>HK.out k (by omega))
   clear HA HY HN HK
   go_wp2_with fail
   go_ret
   rw [HQ.out]
   exact ⟨rfl,HB.out⟩
end Go.Proofs.YtgoffkfpdigeeaaGreatDoor
