import Derived.Deep.RegionHeld3
import Derived.Test.YtgoffkfpdigeeaaGreatDoorP11
namespace Go.Proofs.YtgoffkfpdigeeaaGreatDoor
open Go.RowKit
def Rf (w:World) (g:Nat) (b:ByteArray) (k:Int) (e:Int):Prop:=At3 72 w g (.string b) (.int .i64 k) (.int .i64 e)
theorem Rf.to {w:World} {g:Nat} {b:ByteArray} {k k' e e':Int} (h:Rf w g b k' e') (hk:k'=k) (he:e'=e):Rf w g b k e:=by subst hk;subst he;exact h
set_option maxRecDepth 10000 in
set_option maxHeartbeats 400000 in
theorem rfail_any (w:World) (g:Nat) (b:ByteArray) (k e d:Int) (h:Rf w g b k e) :
  Calls Tryz.prog 81 #[.pointer (some ⟨g,0,none⟩),.int .i64 d] w fun r w'=>r=.returned (.tuple #[])∧Rf w' g b k (if e=0 then d else e)∧w.grownBy w' (some g):=by
 have c2:=h.c2
 have f2:=h.fz 2
 by_cases he:e=0
 ·subst he
  rw [if_pos rfl]
  go_enter Tryz.func81,Tryz.ntmps81
  go_wp2_with fail
  go_end0
  exact ⟨rfl,h.set2 _,gset (World.grownBy.refl _ _) _ rfl _⟩
 ·rw [if_neg he]
  have he':(e==0)=false:=by simpa using he
  go_enter Tryz.func81,Tryz.ntmps81
  go_wp2_with fail
  go_end0
  exact ⟨rfl,h,World.grownBy.refl _ _⟩
set_option maxRecDepth 10000 in
set_option maxHeartbeats 400000 in
theorem rbytes_any (w:World) (g:Nat) (b:ByteArray) (k:Nat) (e n:Int) (h:Rf w g b k e) (hs:b.size≤maxLen) (hk:k≤b.size) :
  Calls Tryz.prog 125 #[.pointer (some ⟨g,0,none⟩),.int .i64 n] w fun r w'=>r=.returned (.string (pBytes b k e n).1)∧Rf w' g b ((pBytes b k e n).2.1:Nat) (pBytes b k e n).2.2∧w.grownBy w' (some g):=by
 unfold maxLen at hs
 have c0:=h.c0
 have c1:=h.c1
 have c2:=h.c2
 have f1:=h.fz 1
 have f2:=h.fz 2
 by_cases he:e=0
 ·subst he
  by_cases hn:n<0
  ·have hp:pBytes b k 0 n=(⟨#[]⟩,k,1):=by unfold pBytes;rw [if_neg (by simp),if_pos hn]
   rw [hp]
   clear hp
   go_enter Tryz.func125,Tryz.ntmps125
   go_wp2_with fail
   go_ret
   exact ⟨rfl,h.set2 _,gset (World.grownBy.refl _ _) _ rfl _⟩
  ·by_cases hc:(b.size:Int)-k<n
   ·have hp:pBytes b k 0 n=(⟨#[]⟩,k,2):=by unfold pBytes;rw [if_neg (by simp),if_neg hn,if_pos hc]
    rw [hp]
    clear hp
    go_enter Tryz.func125,Tryz.ntmps125
    go_wp2_with fail
    go_quiet (fail)
    go_wp2_with fail
    go_ret
    exact ⟨rfl,(At3.drewN h _).set2 _,gset (gdrewN (World.grownBy.refl _ _) _) _ rfl _⟩
   ·have hp:pBytes b k 0 n=(b.extract k (k+n.toNat),k+n.toNat,0):=by unfold pBytes;rw [if_neg (by simp),if_neg hn,if_neg hc]
    rw [hp]
    clear hp
    obtain ⟨m,rfl⟩:=Int.eq_ofNat_of_zero_le (show 0≤n by omega)
    have g1:(k:Int)+m≤b.size:=by omega
    have g2:(k:Int)+m-m=k:=by omega
    have g3:(k:Int)≤(k:Int)+m:=by omega
    have g4:(0:Int)≤(k:Int)+m:=by omega
    go_enter Tryz.func125,Tryz.ntmps125
    go_wp2_with fail
    go_quiet (fail)
    go_wp2_with fail
    go_quiet (fail)
    go_wp2_with fail
    go_ret
    exact ⟨rfl,Rf.to (At3.drewN ((At3.drewN h _).set1 _) _) (by simp) rfl,gdrewN (gset (gdrewN (World.grownBy.refl _ _) _) _ rfl _) _⟩
 ·have hp:pBytes b k e n=(⟨#[]⟩,k,e):=by unfold pBytes;rw [if_pos he]
  rw [hp]
  clear hp
  have he':(e != 0)=true:=by simpa using he
  go_enter Tryz.func125,Tryz.ntmps125
  go_wp2_with fail
  go_ret
  exact ⟨rfl,h,World.grownBy.refl _ _⟩
set_option maxRecDepth 10000 in
set_option maxHeartbeats 400000 in
theorem ruint_bad (w:World) (g:Nat) (b:ByteArray) (k:Nat) (m er:Int) (h:Rf w g b k 0) (hd:er≠0)
  (hget:Hid (∀W:World,Calls Tryz.prog 79 #[.string b,.int .i64 k] W fun e w'=>e=.returned (.tuple #[.int .u64 0,.int .i64 0,.int .i64 er])∧w'=W)) :
  Calls Tryz.prog 37 #[.pointer (some ⟨g,0,none⟩),.int .u64 m] w fun r w'=>r=.returned (.int .i64 0)∧Rf w' g b k er∧w.grownBy w' (some g):=by
 have hd1:(er==0)=false:=by simpa using hd
 have hd2:(er != 0)=true:=by simpa using hd
 have c0:=h.c0
 have c1:=h.c1
 have c2:=h.c2
 have f2:=h.fz 2
 go_enter Tryz.func37,Tryz.ntmps37
 go_wp2_with fail
 go_quiet ((go_at_call 79;exact Calls.quiet_of_same (hget.out _)))
 go_wp2_with fail
 go_ret
 exact ⟨rfl,(At3.drewN h _).set2 _,gset (gdrewN (World.grownBy.refl _ _) _) _ rfl _⟩
set_option maxRecDepth 10000 in
set_option maxHeartbeats 400000 in
theorem ruint_limit (w:World) (g:Nat) (b:ByteArray) (k:Nat) (m n nx:Int) (h:Rf w g b k 0) (hm:m<n∨16777216<n)
  (hget:Hid (∀W:World,Calls Tryz.prog 79 #[.string b,.int .i64 k] W fun e w'=>e=.returned (.tuple #[.int .u64 n,.int .i64 nx,.int .i64 0])∧w'=W)) :
  Calls Tryz.prog 37 #[.pointer (some ⟨g,0,none⟩),.int .u64 m] w fun r w'=>r=.returned (.int .i64 0)∧Rf w' g b k 19∧w.grownBy w' (some g):=by
 have c0:=h.c0
 have c1:=h.c1
 have c2:=h.c2
 have f2:=h.fz 2
 have hc:m<n∨(n≤m∧16777216<n):=by omega
 clear hm
 rcases hc with h1|⟨h1,h2⟩
 all_goals
  go_enter Tryz.func37,Tryz.ntmps37
  go_wp2_with fail
  go_quiet ((go_at_call 79;exact Calls.quiet_of_same (hget.out _)))
  go_wp2_with fail
  go_ret
  exact ⟨rfl,(At3.drewN h _).set2 _,gset (gdrewN (World.grownBy.refl _ _) _) _ rfl _⟩
set_option maxRecDepth 10000 in
set_option maxHeartbeats 400000 in
theorem ruint_in (w:World) (g:Nat) (b:ByteArray) (k:Nat) (m n nx:Int) (h:Rf w g b k 0) (h0:0≤n) (h1:n≤m) (h2:n≤16777216)
  (hget:Hid (∀W:World,Calls Tryz.prog 79 #[.string b,.int .i64 k] W fun e w'=>e=.returned (.tuple #[.int .u64 n,.int .i64 nx,.int .i64 0])∧w'=W)) :
  Calls Tryz.prog 37 #[.pointer (some ⟨g,0,none⟩),.int .u64 m] w fun r w'=>r=.returned (.int .i64 n)∧Rf w' g b nx 0∧w.grownBy w' (some g):=by
 have c0:=h.c0
 have c1:=h.c1
 have c2:=h.c2
 have f1:=h.fz 1
 go_enter Tryz.func37,Tryz.ntmps37
 go_wp2_with fail
 go_quiet ((go_at_call 79;exact Calls.quiet_of_same (hget.out _)))
 go_wp2_with fail
 go_ret
 exact ⟨rfl,(At3.drewN h _).set1 _,gset (gdrewN (World.grownBy.refl _ _) _) _ rfl _⟩
set_option maxRecDepth 10000 in
set_option maxHeartbeats 400000 in
theorem ruint_err (w:World) (g:Nat) (b:ByteArray) (k e m:Int) (h:Rf w g b k e) (he:e≠0) :
  Calls Tryz.prog 37 #[.pointer (some ⟨g,0,none⟩),.int .u64 m] w fun r w'=>r=.returned (.int .i64 0)∧Rf w' g b k e∧w.grownBy w' (some g):=by
 have he':(e != 0)=true:=by simpa using he
 have c2:=h.c2
 go_enter Tryz.func37,Tryz.ntmps37
 go_wp2_with fail
 go_ret
 exact ⟨rfl,h,World.grownBy.refl _ _⟩
theorem ruint_any (w:World) (g:Nat) (b:ByteArray) (k:Nat) (e m:Int) (h:Rf w g b k e) (hs:b.size≤maxLen) (hk:k≤b.size) :
  Calls Tryz.prog 37 #[.pointer (some ⟨g,0,none⟩),.int .u64 m] w fun r w'=>r=.returned (.int .i64 (pUint b k e m).1)∧Rf w' g b ((pUint b k e m).2.1:Nat) (pUint b k e m).2.2∧w.grownBy w' (some g):=by
 have hget:=fun W=>refget_any b (k:Int) W hs
 by_cases he:e=0
 ·subst he
  by_cases hd:(num b k).2.2=0
  ·rw [got_yes b k hk hd] at hget
   by_cases hm:m<(num b k).1∨16777216<(num b k).1
   ·have hp:pUint b k 0 m=(0,k,19):=by unfold pUint;rw [if_neg (by simp),if_neg (by simpa using hd),if_pos hm]
    rw [hp]
    exact ruint_limit w g b k m _ _ h (by omega) hget
   ·have hp:pUint b k 0 m=(((num b k).1:Int),k+(num b k).2.1,0):=by unfold pUint;rw [if_neg (by simp),if_neg (by simpa using hd),if_neg hm]
    rw [hp]
    exact ruint_in w g b k m ((num b k).1:Int) _ h (by omega) (by omega) (by omega) hget
  ·rw [got_no b k hk hd] at hget
   have hp:pUint b k 0 m=(0,k,((num b k).2.2:Int)):=by unfold pUint;rw [if_neg (by simp),if_pos hd]
   rw [hp]
   exact ruint_bad w g b k m ((num b k).2.2:Int) h (by omega) hget
 ·have hp:pUint b k e m=(0,k,e):=by unfold pUint;rw [if_pos he]
  rw [hp]
  exact ruint_err w g b k e m h he
set_option maxRecDepth 10000 in
set_option maxHeartbeats 400000 in
theorem rint_bad (w:World) (g:Nat) (b:ByteArray) (k:Nat) (er:Int) (h:Rf w g b k 0) (hd:er≠0)
  (hget:Hid (∀W:World,Calls Tryz.prog 79 #[.string b,.int .i64 k] W fun e w'=>e=.returned (.tuple #[.int .u64 0,.int .i64 0,.int .i64 er])∧w'=W)) :
  Calls Tryz.prog 82 #[.pointer (some ⟨g,0,none⟩)] w fun r w'=>r=.returned (.int .i64 0)∧Rf w' g b k er∧w.grownBy w' (some g):=by
 have hd2:(er != 0)=true:=by simpa using hd
 have c0:=h.c0
 have c1:=h.c1
 have c2:=h.c2
 have f2:=h.fz 2
 go_enter Tryz.func82,Tryz.ntmps82
 go_wp2_with fail
 go_quiet ((go_at_call 79;exact Calls.quiet_of_same (hget.out _)))
 go_wp2_with fail
 go_ret
 exact ⟨rfl,(At3.drewN h _).set2 _,gset (gdrewN (World.grownBy.refl _ _) _) _ rfl _⟩
set_option maxRecDepth 10000 in
set_option maxHeartbeats 400000 in
theorem rint_in (w:World) (g:Nat) (b:ByteArray) (k:Nat) (n nx:Int) (h:Rf w g b k 0) (h0:0≤n) (h1:n≤18446744073709551615)
  (hget:Hid (∀W:World,Calls Tryz.prog 79 #[.string b,.int .i64 k] W fun e w'=>e=.returned (.tuple #[.int .u64 n,.int .i64 nx,.int .i64 0])∧w'=W)) :
  Calls Tryz.prog 82 #[.pointer (some ⟨g,0,none⟩)] w fun r w'=>r=.returned (.int .i64 (zag n))∧Rf w' g b nx 0∧w.grownBy w' (some g):=by
 have c0:=h.c0
 have c1:=h.c1
 have c2:=h.c2
 have f1:=h.fz 1
 go_enter Tryz.func82,Tryz.ntmps82
 go_wp2_with fail
 go_quiet ((go_at_call 79;exact Calls.quiet_of_same (hget.out _)))
 go_wp2_with fail
 refine (zag_ref n _ h0 h1).mono ?_
 rintro r w4 ⟨rfl,rfl⟩
 go_wp2_with fail
 go_ret
 exact ⟨rfl,(At3.drewN h _).set1 _,gset (gdrewN (World.grownBy.refl _ _) _) _ rfl _⟩
set_option maxRecDepth 10000 in
set_option maxHeartbeats 400000 in
theorem rint_err (w:World) (g:Nat) (b:ByteArray) (k e:Int) (h:Rf w g b k e) (he:e≠0) :
  Calls Tryz.prog 82 #[.pointer (some ⟨g,0,none⟩)] w fun r w'=>r=.returned (.int .i64 0)∧Rf w' g b k e∧w.grownBy w' (some g):=by
 have he':(e != 0)=true:=by simpa using he
 have c2:=h.c2
 go_enter Tryz.func82,Tryz.ntmps82
 go_wp2_with fail
 go_ret
 exact ⟨rfl,h,World.grownBy.refl _ _⟩
theorem rint_any (w:World) (g:Nat) (b:ByteArray) (k:Nat) (e:Int) (h:Rf w g b k e) (hs:b.size≤maxLen) (hk:k≤b.size) :
  Calls Tryz.prog 82 #[.pointer (some ⟨g,0,none⟩)] w fun r w'=>r=.returned (.int .i64 (pInt b k e).1)∧Rf w' g b ((pInt b k e).2.1:Nat) (pInt b k e).2.2∧w.grownBy w' (some g):=by
 have hget:=fun W=>refget_any b (k:Int) W hs
 by_cases he:e=0
 ·subst he
  by_cases hd:(num b k).2.2=0
  ·rw [got_yes b k hk hd] at hget
   have hr:=(num_ok b k hd hk).1
   have hp:pInt b k 0=(zag (num b k).1,k+(num b k).2.1,0):=by unfold pInt;rw [if_neg (by simp),if_neg (by simpa using hd)]
   rw [hp]
   exact rint_in w g b k ((num b k).1:Int) _ h (by omega) (by omega) hget
  ·rw [got_no b k hk hd] at hget
   have hp:pInt b k 0=(0,k,((num b k).2.2:Int)):=by unfold pInt;rw [if_neg (by simp),if_pos hd]
   rw [hp]
   exact rint_bad w g b k ((num b k).2.2:Int) h (by omega) hget
 ·have hp:pInt b k e=(0,k,e):=by unfold pInt;rw [if_pos he]
  rw [hp]
  exact rint_err w g b k e h he
end Go.Proofs.YtgoffkfpdigeeaaGreatDoor
namespace Go.Proofs.YtgoffkfpdigeeaaGreatDoor
open Go.RowKit
theorem pText_two (b:ByteArray) (k:Nat) (m:Int):pText b k 0 m =
  if (pBytes b (pUint b k 0 (max m 0)).2.1 (pUint b k 0 (max m 0)).2.2 (pUint b k 0 (max m 0)).1).2.2≠0 then (⟨#[]⟩,k,(pBytes b (pUint b k 0 (max m 0)).2.1 (pUint b k 0 (max m 0)).2.2 (pUint b k 0 (max m 0)).1).2.2)
  else ((pBytes b (pUint b k 0 (max m 0)).2.1 (pUint b k 0 (max m 0)).2.2 (pUint b k 0 (max m 0)).1).1,(pBytes b (pUint b k 0 (max m 0)).2.1 (pUint b k 0 (max m 0)).2.2 (pUint b k 0 (max m 0)).1).2.1,0):=by
 unfold pText
 rw [if_neg (by simp)]
 by_cases hd:(num b k).2.2=0
 ·rw [if_neg (by simpa using hd)]
  by_cases hl:max m 0<(num b k).1∨16777216<(num b k).1
  ·have hp:pUint b k 0 (max m 0)=(0,k,19):=by unfold pUint;rw [if_neg (by simp),if_neg (by simpa using hd),if_pos hl]
   rw [if_pos hl,hp]
   rfl
  ·have hp:pUint b k 0 (max m 0)=(((num b k).1:Int),k+(num b k).2.1,0):=by unfold pUint;rw [if_neg (by simp),if_neg (by simpa using hd),if_neg hl]
   rw [if_neg hl,hp]
   dsimp only
   by_cases hc:(b.size:Int)-(k+(num b k).2.1:Nat)<(num b k).1
   ·have hq:pBytes b (k+(num b k).2.1) 0 (num b k).1=(⟨#[]⟩,k+(num b k).2.1,2):=by unfold pBytes;rw [if_neg (by simp),if_neg (by omega),if_pos hc]
    rw [if_pos hc,hq]
    rfl
   ·have hq:pBytes b (k+(num b k).2.1) 0 (num b k).1=(b.extract (k+(num b k).2.1) (k+(num b k).2.1+(num b k).1),k+(num b k).2.1+(num b k).1,0):=by unfold pBytes;rw [if_neg (by simp),if_neg (by omega),if_neg hc];rfl
    rw [if_neg hc,hq]
    rfl
 ·have hp:pUint b k 0 (max m 0)=(0,k,((num b k).2.2:Int)):=by unfold pUint;rw [if_neg (by simp),if_pos hd]
  rw [if_pos hd,hp]
  dsimp only
  have hq:pBytes b k ((num b k).2.2:Int) 0=(⟨#[]⟩,k,((num b k).2.2:Int)):=by unfold pBytes;rw [if_pos (by omega)]
  rw [hq,if_pos (by dsimp only;omega)]
set_option maxRecDepth 10000 in
set_option maxHeartbeats 400000 in
theorem rtext_err (w:World) (g:Nat) (b:ByteArray) (k e m:Int) (h:Rf w g b k e) (he:e≠0) :
  Calls Tryz.prog 84 #[.pointer (some ⟨g,0,none⟩),.int .i64 m] w fun r w'=>r=.returned (.string ⟨#[]⟩)∧Rf w' g b k e∧w.grownBy w' (some g):=by
 have he':(e != 0)=true:=by simpa using he
 have c2:=h.c2
 go_enter Tryz.func84,Tryz.ntmps84
 go_wp2_with fail
 go_ret
 exact ⟨rfl,h,World.grownBy.refl _ _⟩
set_option maxRecDepth 10000 in
set_option maxHeartbeats 400000 in
theorem rtext_go (w:World) (g:Nat) (b:ByteArray) (k:Nat) (m M:Int) (h:Rf w g b k 0) (hM:M=max m 0) (hm:m≤9223372036854775807) (u:Int) (k1 k2:Nat) (e1 e2:Int) (s:ByteArray)
  (hu:Hid (∀(W:World) (g':Nat),Rf W g' b k 0→Calls Tryz.prog 37 #[.pointer (some ⟨g',0,none⟩),.int .u64 M] W fun r w'=>r=.returned (.int .i64 u)∧Rf w' g' b k1 e1∧W.grownBy w' (some g')))
  (hb:Hid (∀(W:World) (g':Nat),Rf W g' b k1 e1→Calls Tryz.prog 125 #[.pointer (some ⟨g',0,none⟩),.int .i64 u] W fun r w'=>r=.returned (.string s)∧Rf w' g' b k2 e2∧W.grownBy w' (some g'))) :
  Calls Tryz.prog 84 #[.pointer (some ⟨g,0,none⟩),.int .i64 m] w fun r w'=>r=.returned (.string (if e2≠0 then ⟨#[]⟩ else s))∧Rf w' g b (if e2≠0 then k else k2) e2∧w.grownBy w' (some g):=by
 have c0:=h.c0
 have c1:=h.c1
 have c2:=h.c2
 have hc:(m<0∧M=0)∨(0≤m∧M=m):=by omega
 clear hM
 have HN:Rf (w.alloc (.cells #[.string b,.int .i64 (k:Int),.int .i64 0] 72)).drew w.heap.size b k 0:=At3.new _ _ _ _ _
 have HG:Rf (w.alloc (.cells #[.string b,.int .i64 (k:Int),.int .i64 0] 72)).drew g b k 0:=h.alloc _
 have hgr:w.grownBy (w.alloc (.cells #[.string b,.int .i64 (k:Int),.int .i64 0] 72)).drew (some g):=gdrew (galloc (World.grownBy.refl _ _) _)
 have hne:some g≠some w.heap.size:=by have:=h.lt;simp;omega
 rcases hc with ⟨h1,rfl⟩|⟨h1,rfl⟩
 all_goals
  by_cases he:e2=0
  ·subst he
   go_enter Tryz.func84,Tryz.ntmps84
   go_wp2_with fail
   go_region_held3 (fun W=>W.cell? ⟨g,0,none⟩=some (.string b)∧W.cell? ⟨g,1,none⟩=some (.int .i64 k)) (go_keep) (fail)
   go_wp2_with fail
   refine (hu.out _ _ HN).mono ?_
   rintro r w2 ⟨rfl,h2,g2⟩
   have G2:=HG.kept g2 hne
   go_wp2_with fail
   refine (hb.out _ _ h2).mono ?_
   rintro r w3 ⟨rfl,h3,g3⟩
   have G3:=G2.kept g3 hne
   have d1:=h3.c1
   have d2:=h3.c2
   have e1:=G3.c1
   have f1:=G3.fz 1
   go_wp2_with fail
   go_ret
   exact ⟨by simp,Rf.to (G3.set1 _) (by simp) rfl,gset (gother (gother hgr g2 (Nat.le_refl _)) g3 (Nat.le_refl _)) _ rfl _⟩
  ·have he':(e2 != 0)=true:=by simpa using he
   rw [if_pos he,if_pos he]
   go_enter Tryz.func84,Tryz.ntmps84
   go_wp2_with fail
   go_region_held3 (fun W=>W.cell? ⟨g,0,none⟩=some (.string b)∧W.cell? ⟨g,1,none⟩=some (.int .i64 k)) (go_keep) (fail)
   go_wp2_with fail
   refine (hu.out _ _ HN).mono ?_
   rintro r w2 ⟨rfl,h2,g2⟩
   have G2:=HG.kept g2 hne
   go_wp2_with fail
   refine (hb.out _ _ h2).mono ?_
   rintro r w3 ⟨rfl,h3,g3⟩
   have G3:=G2.kept g3 hne
   have d2:=h3.c2
   have e1:=G3.c2
   have f1:=G3.fz 2
   go_wp2_with fail
   go_ret
   exact ⟨rfl,G3.set2 _,gset (gother (gother hgr g2 (Nat.le_refl _)) g3 (Nat.le_refl _)) _ rfl _⟩
theorem rtext_any (w:World) (g:Nat) (b:ByteArray) (k:Nat) (e m:Int) (h:Rf w g b k e) (hs:b.size≤maxLen) (hk:k≤b.size) (hm:m≤9223372036854775807) :
  Calls Tryz.prog 84 #[.pointer (some ⟨g,0,none⟩),.int .i64 m] w fun r w'=>r=.returned (.string (pText b k e m).1)∧Rf w' g b ((pText b k e m).2.1:Nat) (pText b k e m).2.2∧w.grownBy w' (some g):=by
 by_cases he:e=0
 ·subst he
  have hu:=fun W g' hW=>ruint_any W g' b k 0 (max m 0) hW hs hk
  have hk1:=(pUint_at b k 0 (max m 0) hk).2
  have hb:=fun W g' hW=>rbytes_any W g' b (pUint b k 0 (max m 0)).2.1 (pUint b k 0 (max m 0)).2.2 (pUint b k 0 (max m 0)).1 hW hs hk1
  refine (rtext_go w g b k m _ h rfl hm _ _ _ _ _ _ hu hb).mono ?_
  rw [pText_two b k m]
  rintro r w' ⟨rfl,h1,h2⟩
  refine ⟨?_,?_,h2⟩
  ·split <;> rfl
  ·refine h1.to ?_ ?_
   ·split <;> rfl
   ·split
    ·rfl
    ·rename_i hz
     exact Classical.not_not.1 hz
 ·have hp:pText b k e m=(⟨#[]⟩,k,e):=by unfold pText;rw [if_pos he]
  rw [hp]
  exact rtext_err w g b k e m h he
end Go.Proofs.YtgoffkfpdigeeaaGreatDoor
