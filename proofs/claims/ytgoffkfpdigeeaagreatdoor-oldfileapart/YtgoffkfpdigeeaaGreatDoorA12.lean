import Derived.Test.YtgoffkfpdigeeaaGreatDoorA05
namespace Go.Proofs.YtgoffkfpdigeeaaGreatDoor
open Go.RowKit
def oldC:List Value:=iV [0,0,0,0,0,0,0,0,0,0,0,0,0,-1,2,2,2,2,0,1,1,3,0,0,0,1,0,0,3,0,0,0,1,0,0,0,0,0,0,1,0,0,4,0,0,0,0,0,0]
def oldSp (k:Int):Sp:=if k=1 then ⟨true,[],0,0,-1⟩ else if k=2 then ⟨true,[2,2,2,2],0,1,1⟩ else if k=3∨k=4 then ⟨true,[3],1,0,0⟩ else if k=5 then ⟨true,[],1,0,0⟩ else if k=6 then ⟨true,[4],0,0,0⟩ else noSp
theorem oldSp_no (k:Int) (h:k<1∨7≤k):oldSp k=noSp:=by
 unfold oldSp
 rw [if_neg (by omega),if_neg (by omega),if_neg (by omega),if_neg (by omega),if_neg (by omega)]
set_option maxRecDepth 10000 in
set_option maxHeartbeats 400000 in
theorem old_no (k:Int) (w:World) (h:k<1∨7≤k) :
  Calls Tryz.prog 136 #[.int .i64 k] w fun e w'=>SpIs w w' e noSp:=by
 have HB:Hid _:=((Below.refl w.heap.size w).alloc (Nat.le_refl _) (Obj.cells #[Value.slice none 0 0,Value.int .i64 0,Value.int .i64 0,Value.int .i64 0] 117))
 go_enter Tryz.func136,Tryz.ntmps136
 rcases h with h|h
 ·go_wp2_with fail
  exact bodyPost_ret (v:=.tuple #[.agg #[.slice none 0 0,.int .i64 0,.int .i64 0,.int .i64 0],.bool false]) (by simp [results,Tryz.results136,go_sem, *]) rfl ⟨_,rfl,⟨rfl,.inl ⟨rfl,rfl⟩⟩,HB.out⟩
 ·have h':¬k<1:=by omega
  go_wp2_with fail
  exact bodyPost_ret (v:=.tuple #[.agg #[.slice none 0 0,.int .i64 0,.int .i64 0,.int .i64 0],.bool false]) (by simp [results,Tryz.results136,go_sem, *]) rfl ⟨_,rfl,⟨rfl,.inl ⟨rfl,rfl⟩⟩,HB.out⟩
set_option maxRecDepth 10000 in
set_option maxHeartbeats 400000 in
theorem old_in (k:Nat) (a0 a1 a2 a3 t l m:Int) (w:World) (h1:1≤k) (h2:k<7)
  (c0:∀o:Obj,(w.alloc o).cell? ⟨0,k*7,none⟩=some (.int .i64 a0)) (c1:∀o:Obj,(w.alloc o).cell? ⟨0,k*7+1,none⟩=some (.int .i64 a1)) (c2:∀o:Obj,(w.alloc o).cell? ⟨0,k*7+2,none⟩=some (.int .i64 a2))
  (c3:∀o:Obj,(w.alloc o).cell? ⟨0,k*7+3,none⟩=some (.int .i64 a3)) (c4:∀o:Obj,(w.alloc o).cell? ⟨0,k*7+4,none⟩=some (.int .i64 t)) (c5:∀o:Obj,(w.alloc o).cell? ⟨0,k*7+5,none⟩=some (.int .i64 l))
  (c6:∀o:Obj,(w.alloc o).cell? ⟨0,k*7+6,none⟩=some (.int .i64 m)) :
  Calls Tryz.prog 136 #[.int .i64 k] w fun e w'=>SpIs w w' e ⟨true,nz [a0,a1,a2,a3],t,l,m⟩:=by
 have k1:¬(k:Int)<1:=by omega
 have k2:¬(7:Int)≤k:=by omega
 have H:Hid _:=fun W=>spec_any a0 a1 a2 a3 t l m W
 go_enter Tryz.func136,Tryz.ntmps136
 go_wp2_with fail
 refine (H.out _).mono ?_
 rintro e w1 ⟨v,rfl,hI,hB⟩
 have n0:AtN 117 w1 w.heap.size #[.slice none 0 0,.int .i64 0,.int .i64 0,.int .i64 0]:=(AtN.new w 117 _).belowAll hB
 have d0:w1.cell? ⟨w.heap.size,0,none⟩=some (.slice none 0 0):=n0.cell 0
 have d1:w1.cell? ⟨w.heap.size,1,none⟩=some (.int .i64 0):=n0.cell 1
 have d2:w1.cell? ⟨w.heap.size,2,none⟩=some (.int .i64 0):=n0.cell 2
 have d3:w1.cell? ⟨w.heap.size,3,none⟩=some (.int .i64 0):=n0.cell 3
 have f0:=n0.fz 0
 have f1:=n0.fz 1
 have f2:=n0.fz 2
 have f3:=n0.fz 3
 obtain ⟨ao,cap,rfl⟩:=own_shape7 hI
 have hrow:∀r,(Value.slice ao (nz [a0,a1,a2,a3]).length cap).ownBlock=some r→r≠w.heap.size:=fun r hr=>by
  have:=(World.ownsRow.lt hI r hr).1
  simp at this
  omega
 have o1:Hid _:=own_mono (own_set (own_set (own_set (own_set hI ⟨w.heap.size,0,none⟩ hrow (.slice ao (nz [a0,a1,a2,a3]).length cap)) ⟨w.heap.size,1,none⟩ hrow (.int .i64 t)) ⟨w.heap.size,2,none⟩ hrow (.int .i64 l)) ⟨w.heap.size,3,none⟩ hrow (.int .i64 m)) (by simp;omega:w.heap.size≤_)
 have b0:Below w.heap.size w w1:=((Below.refl w.heap.size w).alloc (Nat.le_refl _) _).trans (hB.mono (by simp))
 have b1:Hid _:=set_below (set_below (set_below (set_below b0 ⟨w.heap.size,0,none⟩ (Nat.le_refl _) (.slice ao (nz [a0,a1,a2,a3]).length cap)) ⟨w.heap.size,1,none⟩ (Nat.le_refl _) (.int .i64 t)) ⟨w.heap.size,2,none⟩ (Nat.le_refl _) (.int .i64 l)) ⟨w.heap.size,3,none⟩ (Nat.le_refl _) (.int .i64 m)
 clear hI hB n0 b0
 go_wp2_with fail
 exact bodyPost_ret (v:=.tuple #[.agg #[.slice ao (nz [a0,a1,a2,a3]).length cap,.int .i64 t,.int .i64 l,.int .i64 m],.bool true]) (by simp [results,Tryz.results136,go_sem, *]) rfl ⟨_,rfl,o1.out,b1.out⟩
theorem old_any (k:Int) (w:World) (hT:TabAt w 0 oldC) :
  Calls Tryz.prog 136 #[.int .i64 k] w fun e w'=>SpIs w w' e (oldSp k):=by
 by_cases h:k<1∨7≤k
 ·rw [oldSp_no k h]
  exact old_no k w h
 ·rcases (by omega:k=1∨k=2∨k=3∨k=4∨k=5∨k=6) with rfl|rfl|rfl|rfl|rfl|rfl
  ·exact old_in 1 (0) (0) (0) (0) (0) (0) (-1) w (by omega) (by omega) (fun o=>hT.alloc o 7) (fun o=>hT.alloc o 8) (fun o=>hT.alloc o 9) (fun o=>hT.alloc o 10) (fun o=>hT.alloc o 11) (fun o=>hT.alloc o 12) (fun o=>hT.alloc o 13)
  ·exact old_in 2 (2) (2) (2) (2) (0) (1) (1) w (by omega) (by omega) (fun o=>hT.alloc o 14) (fun o=>hT.alloc o 15) (fun o=>hT.alloc o 16) (fun o=>hT.alloc o 17) (fun o=>hT.alloc o 18) (fun o=>hT.alloc o 19) (fun o=>hT.alloc o 20)
  ·exact old_in 3 (3) (0) (0) (0) (1) (0) (0) w (by omega) (by omega) (fun o=>hT.alloc o 21) (fun o=>hT.alloc o 22) (fun o=>hT.alloc o 23) (fun o=>hT.alloc o 24) (fun o=>hT.alloc o 25) (fun o=>hT.alloc o 26) (fun o=>hT.alloc o 27)
  ·exact old_in 4 (3) (0) (0) (0) (1) (0) (0) w (by omega) (by omega) (fun o=>hT.alloc o 28) (fun o=>hT.alloc o 29) (fun o=>hT.alloc o 30) (fun o=>hT.alloc o 31) (fun o=>hT.alloc o 32) (fun o=>hT.alloc o 33) (fun o=>hT.alloc o 34)
  ·exact old_in 5 (0) (0) (0) (0) (1) (0) (0) w (by omega) (by omega) (fun o=>hT.alloc o 35) (fun o=>hT.alloc o 36) (fun o=>hT.alloc o 37) (fun o=>hT.alloc o 38) (fun o=>hT.alloc o 39) (fun o=>hT.alloc o 40) (fun o=>hT.alloc o 41)
  ·exact old_in 6 (4) (0) (0) (0) (0) (0) (0) w (by omega) (by omega) (fun o=>hT.alloc o 42) (fun o=>hT.alloc o 43) (fun o=>hT.alloc o 44) (fun o=>hT.alloc o 45) (fun o=>hT.alloc o 46) (fun o=>hT.alloc o 47) (fun o=>hT.alloc o 48)
end Go.Proofs.YtgoffkfpdigeeaaGreatDoor
