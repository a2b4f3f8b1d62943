import Derived.Test.YtgoffkfpdigeeaaGreatDoorA07
import Derived.Test.YtgoffkfpdigeeaaGreatDoorA13
import Derived.Test.YtgoffkfpdigeeaaGreatDoorA15
import Derived.Maps.OwnSet
import Derived.Maps.OwnOps
import Derived.Maps.Views
import Derived.StringKeys
import Derived.Deep.QuietTactic
import Derived.BigQuiet
import Derived.Test.YtgoffkfpdigeeaaGreatDoorA04
import Derived.Test.YtgoffkfpdigeeaaGreatDoorA02
namespace Go.Proofs.YtgoffkfpdigeeaaGreatDoor
open Go.RowKit
def tyG:List Nx→Nat→Int × Int
 | [],_=>(0,0)
 | x :: t,k=>if tyN x.nd=0 then tyG t (k+1) else (tyN x.nd,(k:Int))
def tyE (X:List Nx):Int:=(tyG X 0).1
def tyZ (X:List Nx):Int:=(tyG X 0).2
def FnX (X:List Nx):Prop:=∀i,i<X.length→fine (X.getD i noNx).nd.ints
end Go.Proofs.YtgoffkfpdigeeaaGreatDoor
namespace Go.Proofs.YtgoffkfpdigeeaaGreatDoor
open Go.RowKit Go.Maps Go.WideMaps
def kS (s:ByteArray):Lit:=.string s.data.toList
theorem lawS6:Keyed Tryz.prog 9:=string_keyed Tryz.underlying9
theorem kS_key (s:ByteArray) (h:s.size≤maxLen):keyOf Tryz.prog 9 (.string s)=some (kS s):=keyOf_string_mk Tryz.underlying9 h
theorem kS_ne {s t:ByteArray} (h:s≠t):kS s≠kS t:=by
 intro e
 unfold kS at e
 injection e with e
 apply h
 cases s;cases t
 simp at e
 rw [e]
theorem kS_is (s:ByteArray):WideAt.IsKeyLit (kS s):=trivial
end Go.Proofs.YtgoffkfpdigeeaaGreatDoor
namespace Go.Proofs.YtgoffkfpdigeeaaGreatDoor
open Go.RowKit
structure Lm where
 b:Int
 n:Int
 e:Int
 d:Int
 x:Int
def lmL (l:Lm):List Int:=[l.b,l.n,l.e,l.d,l.x]
abbrev okP (l:Lm):Prop:=(0≤l.b∧l.b≤16777216)∧(0≤l.n∧l.n≤16777216)∧(0≤l.e∧l.e≤16777216)∧(0≤l.d∧l.d≤16777216)∧(0≤l.x∧l.x≤16777216)
abbrev inP (m l:Lm):Prop:=m.b≤l.b∧m.n≤l.n∧m.e≤l.e∧m.d≤l.d∧m.x≤l.x
def okL (l:Lm):Bool:=decide (okP l)
def inL (m l:Lm):Bool:=decide (inP m l)
theorem five_cases {i:Nat} (h:i<5):i=0∨i=1∨i=2∨i=3∨i=4:=by omega
theorem okL_yes (l:Lm) (h:∀i,i<5→0≤(lmL l).getD i 0∧(lmL l).getD i 0≤16777216):okL l=true:=by
 have h0:=h 0 (by omega)
 have h1:=h 1 (by omega)
 have h2:=h 2 (by omega)
 have h3:=h 3 (by omega)
 have h4:=h 4 (by omega)
 exact decide_eq_true ⟨h0,h1,h2,h3,h4⟩
theorem okL_no (l:Lm) (i:Nat) (hi:i<5) (h:(lmL l).getD i 0<0∨16777216<(lmL l).getD i 0):okL l=false:=by
 refine decide_eq_false fun q=>?_
 obtain ⟨q0,q1,q2,q3,q4⟩:=q
 rcases five_cases hi with rfl|rfl|rfl|rfl|rfl <;> simp [lmL] at h <;> omega
theorem inL_yes (m l:Lm) (h:∀i,i<5→(lmL m).getD i 0≤(lmL l).getD i 0):inL m l=true:=by
 have h0:=h 0 (by omega)
 have h1:=h 1 (by omega)
 have h2:=h 2 (by omega)
 have h3:=h 3 (by omega)
 have h4:=h 4 (by omega)
 exact decide_eq_true ⟨h0,h1,h2,h3,h4⟩
theorem inL_no (m l:Lm) (i:Nat) (hi:i<5) (h:(lmL l).getD i 0<(lmL m).getD i 0):inL m l=false:=by
 refine decide_eq_false fun q=>?_
 obtain ⟨q0,q1,q2,q3,q4⟩:=q
 rcases five_cases hi with rfl|rfl|rfl|rfl|rfl <;> simp [lmL] at h <;> omega
set_option maxRecDepth 10000 in
set_option maxHeartbeats 400000 in
theorem five_any (b n e d x:Int) (w:World) :
  Calls Tryz.prog 70 #[.agg #[.int .i64 b,.int .i64 n,.int .i64 e,.int .i64 d,.int .i64 x]] w fun r w'=>r=.returned (.agg #[.int .i64 b,.int .i64 n,.int .i64 e,.int .i64 d,.int .i64 x])∧Below w.heap.size w w':=by
 go_enter Tryz.func70,Tryz.ntmps70
 go_wp2_with fail
 exact bodyPost_ret (v:=.agg #[.int .i64 b,.int .i64 n,.int .i64 e,.int .i64 d,.int .i64 x]) (by simp [results,Tryz.results70,go_sem, *]) rfl ⟨rfl,((Below.refl w.heap.size w).alloc (Nat.le_refl _) _).alloc (by simp) _⟩
theorem index5 (l:Lm) (i:Nat) (h:i<5) (W:World):(Instr.index 104 (.agg #[.int .i64 l.b,.int .i64 l.n,.int .i64 l.e,.int .i64 l.d,.int .i64 l.x]) (.int .i64 i)).run Tryz.prog W=.ok (.int .i64 ((lmL l).getD i 0)) W:=by
 rcases five_cases h with rfl|rfl|rfl|rfl|rfl <;> kernel_rfl
set_option maxRecDepth 10000 in
set_option maxHeartbeats 400000 in
theorem okl_any (l:Lm) (w:World) :
  Calls Tryz.prog 33 #[.agg #[.int .i64 l.b,.int .i64 l.n,.int .i64 l.e,.int .i64 l.d,.int .i64 l.x]] w fun e w'=>e=.returned (.bool (okL l))∧Below w.heap.size w w':=by
 have HF:Hid (∀W,_):=fun W=>five_any l.b l.n l.e l.d l.x W
 have HI:Hid (∀i,i<5→∀W:World,(Instr.index 104 (.agg #[.int .i64 l.b,.int .i64 l.n,.int .i64 l.e,.int .i64 l.d,.int .i64 l.x]) (.int .i64 (i:Nat))).run Tryz.prog W=.ok (.int .i64 ((lmL l).getD i 0)) W):=fun i h W=>index5 l i h W
 have HY:Hid ((∀i,i<5→0≤(lmL l).getD i 0∧(lmL l).getD i 0≤16777216)→okL l=true):=okL_yes l
 have HN:Hid (∀i,i<5→(lmL l).getD i 0<0∨16777216<(lmL l).getD i 0→okL l=false):=okL_no l
 have HB:Hid _:=fun (o:Obj)=>(Below.refl w.heap.size w).alloc (Nat.le_refl _) o
 generalize okL l=Q at *
 generalize lmL l=L at *
 obtain ⟨b,n,e,d,x⟩:=l
 dsimp only at *
 go_enter Tryz.func33,Tryz.ntmps33
 go_wp2_with fail
 refine (HF.out _).mono ?_
 rintro r w1 ⟨rfl,hb1⟩
 have HB1:Hid (Below w.heap.size w w1):=(HB.out _).trans (hb1.mono (by simp))
 clear HB hb1 HF
 go_wp2_with fail
 go_loopw [7] (fun iv wr=>∃i:Nat,iv=.int .i64 i∧i≤5∧wr=w1∧Hid (∀k,k<i→0≤L.getD k 0∧L.getD k 0≤16777216)) (fun iv _=>5-(intOf iv).toNat)
 case atStart=>exact ⟨0,rfl,by omega,rfl,fun k hk=>by omega⟩
 case round=>
  obtain ⟨i,rfl,hi,rfl,HK⟩:=hrel
  by_cases hlt:i<5
  ·have hlt':(i:Int)<5:=by omega
   have hx:=HI.out i hlt
   have HN1:Hid (L.getD i 0<0∨16777216<L.getD i 0→Q=false):=HN.out i hlt
   have HK1:Hid (0≤L.getD i 0∧L.getD i 0≤16777216→∀k,k<i+1→0≤L.getD k 0∧L.getD k 0≤16777216):=fun h k hk=>by
    by_cases e:k=i
    ·subst e;exact h
    ·exact HK.out k (by omega)
   generalize L.getD i 0=z at *
   clear HI HY HN HK
   by_cases h0:z<0
   ·go_wp2_with fail
    go_ret
    rw [HN1.out (.inl h0)]
    exact ⟨rfl,HB1.out⟩
   ·by_cases h1:16777216<z
    ·go_wp2_with fail
     go_ret
     rw [HN1.out (.inr h1)]
     exact ⟨rfl,HB1.out⟩
    ·go_wp2_with fail
     go_roundw
     case rel=>exact ⟨i+1,by go_num,by omega,by first|rfl|trivial,HK1.out ⟨by omega,by omega⟩⟩
     case measure=>simp [intOf];omega
  ·have hlt':¬(i:Int)<5:=by omega
   have HQ:Hid (Q=true):=HY.out (fun k hk=>HK.out k (by omega))
   clear HI HY HN HK
   go_wp2_with fail
   go_ret
   rw [HQ.out]
   exact ⟨rfl,HB1.out⟩
set_option maxRecDepth 10000 in
set_option maxHeartbeats 400000 in
theorem within_any (m l:Lm) (w:World) :
  Calls Tryz.prog 57 #[.agg #[.int .i64 m.b,.int .i64 m.n,.int .i64 m.e,.int .i64 m.d,.int .i64 m.x],.agg #[.int .i64 l.b,.int .i64 l.n,.int .i64 l.e,.int .i64 l.d,.int .i64 l.x]] w fun e w'=>e=.returned (.bool (inL m l))∧Below w.heap.size w w':=by
 have HF:Hid (∀(l:Lm) W,_):=fun l W=>five_any l.b l.n l.e l.d l.x W
 have HI:Hid (∀i,i<5→∀W:World,(Instr.index 104 (.agg #[.int .i64 m.b,.int .i64 m.n,.int .i64 m.e,.int .i64 m.d,.int .i64 m.x]) (.int .i64 (i:Nat))).run Tryz.prog W=.ok (.int .i64 ((lmL m).getD i 0)) W):=fun i h W=>index5 m i h W
 have HY:Hid ((∀i,i<5→(lmL m).getD i 0≤(lmL l).getD i 0)→inL m l=true):=inL_yes m l
 have HN:Hid (∀i,i<5→(lmL l).getD i 0<(lmL m).getD i 0→inL m l=false):=inL_no m l
 have HB:Hid _:=fun (o p:Obj)=>((Below.refl w.heap.size w).alloc (Nat.le_refl _) o).alloc (by simp) p
 have HA:Hid (∀W:World,∀g,AtN 104 W g #[.int .i64 l.b,.int .i64 l.n,.int .i64 l.e,.int .i64 l.d,.int .i64 l.x]→∀i,i<5→W.cell? ⟨g,i,none⟩=some (.int .i64 ((lmL l).getD i 0))):=fun W g h i hi=>by
  rcases five_cases hi with rfl|rfl|rfl|rfl|rfl
  ·exact h.cell 0
  ·exact h.cell 1
  ·exact h.cell 2
  ·exact h.cell 3
  ·exact h.cell 4
 have n1:=(AtN.new w 26 #[.int .i64 m.b,.int .i64 m.n,.int .i64 m.e,.int .i64 m.d,.int .i64 m.x]).alloc (.cells #[.int .i64 l.b,.int .i64 l.n,.int .i64 l.e,.int .i64 l.d,.int .i64 l.x] 26)
 have HB0:Hid _:=And.intro n1 (HB.out (.cells #[.int .i64 m.b,.int .i64 m.n,.int .i64 m.e,.int .i64 m.d,.int .i64 m.x] 26) (.cells #[.int .i64 l.b,.int .i64 l.n,.int .i64 l.e,.int .i64 l.d,.int .i64 l.x] 26))
 have HF1:Hid _:=HF.out l
 have HF2:Hid _:=HF.out m
 generalize inL m l=Q at *
 generalize lmL l=L at *
 generalize lmL m=M at *
 obtain ⟨b,n,e,d,x⟩:=l
 obtain ⟨b',n',e',d',x'⟩:=m
 dsimp only at *
 clear n1 HF HB
 go_enter Tryz.func57,Tryz.ntmps57
 go_wp2_with fail
 refine (Hid.out HF1 _).mono ?_
 rintro r w1 ⟨rfl,hb1⟩
 have n1:=HB0.out.1.belowAll hb1
 have c0:w1.cell? ⟨w.heap.size,0,none⟩=some (.int .i64 b'):=n1.cell 0
 have c1:w1.cell? ⟨w.heap.size,1,none⟩=some (.int .i64 n'):=n1.cell 1
 have c2:w1.cell? ⟨w.heap.size,2,none⟩=some (.int .i64 e'):=n1.cell 2
 have c3:w1.cell? ⟨w.heap.size,3,none⟩=some (.int .i64 d'):=n1.cell 3
 have c4:w1.cell? ⟨w.heap.size,4,none⟩=some (.int .i64 x'):=n1.cell 4
 have HB1:Hid (Below w.heap.size w w1):=HB0.out.2.trans (hb1.mono HB0.out.2.size)
 have HA1:Hid (AtN 104 (w1.alloc (.cells #[.int .i64 b,.int .i64 n,.int .i64 e,.int .i64 d,.int .i64 x] 104)) w1.heap.size #[.int .i64 b,.int .i64 n,.int .i64 e,.int .i64 d,.int .i64 x]):=AtN.new w1 104 #[.int .i64 b,.int .i64 n,.int .i64 e,.int .i64 d,.int .i64 x]
 have hlt1:=n1.lt
 clear HB0 hb1 HF1 n1
 go_wp2_with fail
 refine (Hid.out HF2 _).mono ?_
 rintro r w2 ⟨rfl,hb2⟩
 have HA2:Hid (AtN 104 w2 w1.heap.size #[.int .i64 b,.int .i64 n,.int .i64 e,.int .i64 d,.int .i64 x]):=AtN.belowAll HA1.out hb2
 have HB2:Hid (Below w.heap.size w w2):=(HB1.out.alloc HB1.out.size _).trans (hb2.mono (by have:=HB1.out.size;simp;omega))
 clear HA1 HB1 hb2 HF2 c0 c1 c2 c3 c4
 go_wp2_with fail
 go_loopw [12] (fun iv wr=>∃i:Nat,iv=.int .i64 i∧i≤5∧wr=w2∧Hid (∀k,k<i→M.getD k 0≤L.getD k 0)) (fun iv _=>5-(intOf iv).toNat)
 case atStart=>exact ⟨0,rfl,by omega,rfl,fun k hk=>by omega⟩
 case round=>
  obtain ⟨i,rfl,hi,rfl,HK⟩:=hrel
  by_cases hlt:i<5
  ·have hlt':(i:Int)<5:=by omega
   have hx:=HI.out i hlt
   have hc:=HA.out _ _ HA2.out i hlt
   have HN1:Hid (L.getD i 0<M.getD i 0→Q=false):=HN.out i hlt
   have HK1:Hid (M.getD i 0≤L.getD i 0→∀k,k<i+1→M.getD k 0≤L.getD k 0):=fun h k hk=>by
    by_cases e:k=i
    ·subst e;exact h
    ·exact HK.out k (by omega)
   generalize L.getD i 0=z at *
   generalize M.getD i 0=y at *
   clear HI HY HN HK HA
   by_cases h0:z<y
   ·go_wp2_with fail
    go_ret
    rw [HN1.out h0]
    exact ⟨rfl,HB2.out⟩
   ·go_wp2_with fail
    go_roundw
    case rel=>exact ⟨i+1,by go_num,by omega,by first|rfl|trivial,HK1.out (by omega)⟩
    case measure=>simp [intOf];omega
  ·have hlt':¬(i:Int)<5:=by omega
   have HQ:Hid (Q=true):=HY.out (fun k hk=>HK.out k (by omega))
   clear HI HY HN HK HA
   go_wp2_with fail
   go_ret
   rw [HQ.out]
   exact ⟨rfl,HB2.out⟩
end Go.Proofs.YtgoffkfpdigeeaaGreatDoor
namespace Go.Proofs.YtgoffkfpdigeeaaGreatDoor
open Go.RowKit Go.Maps Go.WideMaps Go.Sort
structure LInv (K:List (List Nat)) (f:Nat) (work met:List Nat):Prop where
 m:∀x ∈ met,Lead (Ed K) f x
 k:∀x ∈ work,Lead (Ed K) f x
 a:∀y,Ed K f y→y ∈ met∨y ∈ work
 c:∀x ∈ met,∀y,Ed K x y→y ∈ met∨y ∈ work
 nd:met.Nodup
 lt:∀x ∈ met,x<K.length
section
variable {K:List (List Nat)} {f x:Nat} {work met:List Nat}
theorem LInv.start (K:List (List Nat)) (f:Nat):LInv K f (K.getD f []) []:=⟨by simp,fun x hx=>⟨x,hx,Rt.refl _ _⟩,fun y e=>.inr e,by simp,by simp,by simp⟩
theorem LInv.skip (h:LInv K f (x :: work) met) (hx:x ∈ met):LInv K f work met:=by
 have key:∀y,y ∈ met∨y ∈ x :: work→y ∈ met∨y ∈ work:=fun y q=>by
  rcases q with q|q
  ·exact .inl q
  ·rcases List.mem_cons.1 q with rfl|q
   ·exact .inl hx
   ·exact .inr q
 exact ⟨h.m,fun y hy=>h.k y (List.mem_cons_of_mem _ hy),fun y e=>key y (h.a y e),fun z hz y e=>key y (h.c z hz y e),h.nd,h.lt⟩
theorem LInv.add (h:LInv K f (x :: work) met) (hk:Ok9 K) (hf:f<K.length) (hx:x ∉ met):LInv K f (work++K.getD x []) (met++[x]):=by
 have hl:=h.k x (by simp)
 have key:∀y,y ∈ met∨y ∈ x :: work→y ∈ met++[x]∨y ∈ work++K.getD x []:=fun y q=>by
  rcases q with q|q
  ·exact .inl (List.mem_append_left _ q)
  ·rcases List.mem_cons.1 q with rfl|q
   ·exact .inl (by simp)
   ·exact .inr (List.mem_append_left _ q)
 refine ⟨fun y hy=>?_,fun y hy=>?_,fun y e=>key y (h.a y e),fun z hz y e=>?_,?_,fun y hy=>?_⟩
 ·rcases List.mem_append.1 hy with hy|hy
  ·exact h.m y hy
  ·simp only [List.mem_singleton] at hy;subst hy;exact hl
 ·rcases List.mem_append.1 hy with hy|hy
  ·exact h.k y (List.mem_cons_of_mem _ hy)
  ·exact hl.trans (Rt.one hy)
 ·rcases List.mem_append.1 hz with hz|hz
  ·exact key y (h.c z hz y e)
  ·simp only [List.mem_singleton] at hz
   subst hz
   exact .inr (List.mem_append_right _ e)
 ·rw [List.nodup_append]
  refine ⟨h.nd,by simp,fun p hp q hq e=>?_⟩
  simp only [List.mem_singleton] at hq
  subst e hq
  exact hx hp
 ·rcases List.mem_append.1 hy with hy|hy
  ·exact h.lt y hy
  ·simp only [List.mem_singleton] at hy
   subst hy
   exact Ok9.rt hk hf hl.rt
theorem LInv.fin (h:LInv K f [] met) (y:Nat):y ∈ met↔Lead (Ed K) f y:=by
 refine ⟨h.m y,?_⟩
 rintro ⟨c,e,r⟩
 exact r (fun z=>z ∈ met) ((h.a c e).resolve_right (by simp)) (fun p q hp e=>(h.c p hp q e).resolve_right (by simp))
theorem LInv.len (h:LInv K f work met):met.length≤K.length:=nodup_le _ _ h.nd h.lt
end
end Go.Proofs.YtgoffkfpdigeeaaGreatDoor
namespace Go.Proofs.YtgoffkfpdigeeaaGreatDoor
open Go.RowKit Go.Maps Go.WideMaps Go.Sort
theorem LsQ.rest {Q:Nat→Prop} {w:World} {b o x:Nat} {l:List Nat} (h:LsQ Q w (some ⟨b,o,none⟩) (nV (x :: l))):LsQ Q w (some ⟨b,o+1,none⟩) (nV l)∧w.cell? ⟨b,o,none⟩=some (.int .i64 (x:Int)):=by
 obtain ⟨b',o',h1,h2⟩:=h
 have h3:=h1 (by simp [nV])
 simp only [Option.some.injEq,Addr.mk.injEq,and_true] at h3
 obtain ⟨rfl,rfl⟩:=h3
 refine ⟨⟨b,o+1,fun _=>rfl,fun i hi=>?_⟩,?_⟩
 ·have:=h2 (i+1) (by simp [nV] at hi ⊢;omega)
  rw [show o+(i+1)=o+1+i by omega] at this
  exact ⟨this.1,by rw [this.2];simp [nV]⟩
 ·have:=(h2 0 (by simp [nV])).2
  rw [Nat.add_zero] at this
  rw [this]
  rfl
def Work (w:World) (g:Nat) (v:Value) (l:List Nat):Prop:=∃a c,v=.slice a l.length c∧l.length≤c∧LsQ (fun b=>b≠g) w a (nV l)
theorem Work.of_own {w:World} {B g n:Nat} {T:TypeId} {v:Value} {l:List Nat} {cs:Array Value} (h:w.ownsRow B 3 1 v n (nV l)) (hn:n=l.length) (ha:AtN T w g cs) (hT:3≠T):Work w g v l:=by
 subst hn
 have hne:=own_ne_at h ha hT
 obtain ⟨a,c,rfl⟩:=own_shape7 h
 refine ⟨a,c,rfl,?_,(LsQ.of_own h).mono (fun q e _=>hne q e)⟩
 rcases h.2 with ⟨q,q2⟩|⟨b,c',cur,q,h1,h2,h3,h4⟩
 ·omega
 ·simp only [Value.slice.injEq] at q
  omega
theorem LsQ.some {Q:Nat→Prop} {w:World} {a:Option Addr} {x:Nat} {l:List Nat} (h:LsQ Q w a (nV (x :: l))):∃b o,a=Option.some ⟨b,o,none⟩:=by
 obtain ⟨b,o,h1,_⟩:=h
 exact ⟨b,o,h1 (by simp [nV])⟩
end Go.Proofs.YtgoffkfpdigeeaaGreatDoor
namespace Go.Proofs.YtgoffkfpdigeeaaGreatDoor
open Go.RowKit Go.Maps Go.WideMaps Go.Sort
end Go.Proofs.YtgoffkfpdigeeaaGreatDoor
namespace Go.Proofs.YtgoffkfpdigeeaaGreatDoor
open Go.RowKit Go.Maps Go.WideMaps Go.Sort
end Go.Proofs.YtgoffkfpdigeeaaGreatDoor
namespace Go.Proofs.YtgoffkfpdigeeaaGreatDoor
open Go.RowKit Go.Maps Go.WideMaps Go.Sort
theorem fold1_mem (f:Nat→Nat) (l:List Nat) (k:Nat) (hk:k ∈ l):f k≤fold1 f l:=by
 have:∀(l:List Nat) (m:Nat),k ∈ l→f k≤l.foldl (fun m k=>max m (f k)) m:=by
  intro l
  induction l with
  | nil=>intro m q;simp at q
  | cons x t ih=>
   intro m q
   rw [List.foldl_cons]
   rcases List.mem_cons.1 q with rfl|q
   ·exact Nat.le_trans (Nat.le_max_right _ _) (foldl_ge f t _)
   ·exact ih _ q
 exact this l 0 hk
theorem HtIs.uniq {K:List (List Nat)} {h h':Nat→Nat} (hh:HtIs K h) (hh':HtIs K h') (hk:Ok9 K):∀(n a:Nat),h a=n→a<K.length→h a=h' a:=by
 intro n
 induction n using Nat.strongRecOn with
 | _ n ih=>
  intro a hn ha
  rw [hh a ha,hh' a ha]
  congr 1
  refine fold1_congr _ (fun k e=>ih (h k) ?_ k rfl (hk a k e))
  have:=fold1_mem h _ k e
  have:=hh a ha
  omega
end Go.Proofs.YtgoffkfpdigeeaaGreatDoor
