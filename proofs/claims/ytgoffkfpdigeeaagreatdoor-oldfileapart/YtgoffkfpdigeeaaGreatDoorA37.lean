import Derived.Deep.AppendLies
import Derived.Test.YtgoffkfpdigeeaaGreatDoorA20
import Derived.Test.YtgoffkfpdigeeaaGreatDoorA10
import Derived.Test.YtgoffkfpdigeeaaGreatDoorA09
import Derived.Test.YtgoffkfpdigeeaaGreatDoorA29
namespace Go.Proofs.YtgoffkfpdigeeaaGreatDoor
open Go.RowKit
set_option maxRecDepth 10000 in
set_option maxHeartbeats 400000 in
theorem hpi_any (m b:ByteArray) (w:World) (hm:m.size=4) (hb:b.size≤281474976710656) :
  Calls Tryz.prog 114 #[.string b,.string m] w fun e w'=>e=.returned (.bool (decide (b.data.toList.take 4=m.data.toList)))∧w'=w:=by
 have hm':(m.size:Int)=4:=by omega
 by_cases h:b.size<4
 ·have hd:decide (b.data.toList.take 4=m.data.toList)=false:=by
   rw [decide_eq_false_iff_not]
   intro e
   have h1:=congrArg List.length e
   rw [List.length_take,list_size,list_size] at h1
   omega
  rw [hd]
  go_enter Tryz.func114,Tryz.ntmps114
  go_wp2_with fail
  go_ret
  exact ⟨rfl,rfl⟩
 ·have hd:decide (b.data.toList.take 4=m.data.toList)=((b.extract 0 4).toList==m.toList):=by
   rw [ByteArray.toList_eq,ByteArray.toList_eq,Lib.extract_data]
   simp [Bool.beq_eq_decide_eq]
  rw [hd]
  go_enter Tryz.func114,Tryz.ntmps114
  go_wp2_with fail
  go_ret
  exact ⟨rfl,rfl⟩
set_option maxRecDepth 10000 in
set_option maxHeartbeats 400000 in
theorem hp_any (m b:ByteArray) (w:World) (hm:m.size=4) (hb:b.size≤281474976710656) :
  Calls Tryz.prog 71 #[.string b,.string m] w fun e w'=>e=.returned (.bool (decide (b.data.toList.take 4=m.data.toList)))∧w'=w:=by
 have H:Hid _:=fun W=>hpi_any m b W hm hb
 generalize decide (b.data.toList.take 4=m.data.toList)=d at *
 go_enter Tryz.func71,Tryz.ntmps71
 go_wp2_with fail
 refine (H.out _).mono ?_
 rintro e w1 ⟨rfl,rfl⟩
 go_wp2_with fail
 go_ret
 exact ⟨rfl,rfl⟩
theorem fl_ok4 (d:Int):fl 0 d=d:=rfl
theorem fail_fl (w:World) (g:Nat) (b:ByteArray) (k e d:Int) (h:Cu w g b k e) :
  Calls Tryz.prog 76 #[.pointer (some ⟨g,0,none⟩),.int .i64 d] w fun r w'=>r=.returned (.tuple #[])∧Cu w' g b k (fl e d)∧w.grownBy w' (some g):=fail_any w g b k e d h
def ver (b:ByteArray):Int × Nat × Int:=if (pByte b 0 0).1=0 then (0,(pByte b 0 0).2.1,fl (pByte b 0 0).2.2 7) else pByte b 0 0
set_option maxRecDepth 10000 in
set_option maxHeartbeats 400000 in
theorem getver_any (w:World) (g:Nat) (b:ByteArray) (h:Cu w g b ((0:Nat):Int) 0) (hs:b.size≤maxLen) :
  Calls Tryz.prog 73 #[.pointer (some ⟨g,0,none⟩)] w fun e w'=>e=.returned (.int .i64 (ver b).1)∧Cu w' g b ((ver b).2.1:Nat) (ver b).2.2∧w.grownBy w' (some g):=by
 have HB:Hid _:=byte_any w g b 0 0 h hs (Nat.zero_le _)
 have hr:0≤(pByte b 0 0).1∧(pByte b 0 0).1≤255:=by
  unfold pByte
  rw [if_neg (by simp)]
  split
  ·have:=b[0].toNat_lt;dsimp only;omega
  ·dsimp only;omega
 have hv:ver b=if (pByte b 0 0).1=0 then (0,(pByte b 0 0).2.1,fl (pByte b 0 0).2.2 7) else pByte b 0 0:=rfl
 rw [hv]
 generalize pByte b 0 0=r at *
 obtain ⟨x,k,e⟩:=r
 dsimp only at *
 by_cases hx:x=0
 ·subst hx
  rw [if_pos rfl]
  clear hv
  go_enter Tryz.func73,Tryz.ntmps73
  go_wp2_with fail
  refine Calls.mono HB.out ?_
  rintro r w1 ⟨rfl,h1,g1⟩
  go_wp2_with fail
  refine (fail_fl _ g b _ e 7 h1).mono ?_
  rintro r w2 ⟨rfl,h2,g2⟩
  go_wp2_with fail
  go_ret
  exact ⟨rfl,h2,gtrans g1 g2⟩
 ·rw [if_neg hx]
  clear hv
  go_enter Tryz.func73,Tryz.ntmps73
  go_wp2_with fail
  refine Calls.mono HB.out ?_
  rintro r w1 ⟨rfl,h1,g1⟩
  go_wp2_with fail
  go_ret
  exact ⟨rfl,h1,g1⟩
theorem gnew4 {a b:World} {row:Option Nat} (h:a.grownBy b row) (p:Addr) (hp:a.heap.size≤p.block) (v:Value):a.grownBy (b.setCell p v) row:=
 ⟨h.os,h.tape,h.output,by simpa [World.setCell] using h.size,fun i hi hn=>(Below.heap_setCell _ _ _ _ (by omega)).trans (h.block i hi hn)⟩
def crcE (S P:ByteArray) (e:Int):Int:=if S.size=4∧lnum S.data.toList=crc P.data.toList then e else fl e 5
def pSec (b:ByteArray) (k:Nat):Sec × Nat × Int:=
 let r1:=pByte b k 0
 let r2:=pUint b r1.2.1 (if r1.1=0 then fl r1.2.2 4 else r1.2.2) 16777216
 let r3:=pBytes b r2.2.1 r2.2.2 r2.1
 let r4:=pBytes b r3.2.1 r3.2.2 4
 ((r1.1,r3.1),r4.2.1,crcE r4.1 r3.1 r4.2.2)
theorem pByte_range (b:ByteArray) (k:Nat) (e:Int):0≤(pByte b k e).1∧(pByte b k e).1≤255:=by
 unfold pByte
 split
 ·dsimp only;omega
 split
 ·rename_i h;have:=b[k].toNat_lt;dsimp only;omega
 ·dsimp only;omega
theorem pBytes_size (b:ByteArray) (k:Nat) (e n:Int):(pBytes b k e n).1.size≤b.size:=by
 unfold pBytes
 split
 ·exact Nat.zero_le _
 split
 ·exact Nat.zero_le _
 split
 ·exact Nat.zero_le _
 ·dsimp only;rw [ByteArray.size_extract];omega
set_option maxRecDepth 10000 in
set_option maxHeartbeats 400000 in
theorem getsec_any (w:World) (g:Nat) (b:ByteArray) (k:Nat) (h:Cu w g b (k:Int) 0) (hs:b.size≤281474976710656) (hk:k≤b.size) :
  Calls Tryz.prog 77 #[.pointer (some ⟨g,0,none⟩)] w fun e w'=>e=.returned (.agg #[.int .i64 (pSec b k).1.1,.string (pSec b k).1.2])∧Cu w' g b ((pSec b k).2.1:Nat) (pSec b k).2.2∧w.grownBy w' (some g):=by
 have hs':=Nat.le_trans hs max48
 have D:Hid (pSec b k=pSec b k):=rfl
 unfold pSec
 clear D
 dsimp only
 have C1:=fun (W:World) (hW:Cu W g b (k:Int) 0)=>byte_any W g b k 0 hW hs' hk
 have q1:=pByte_range b k 0
 have hk1:=(pByte_at b k 0 hk).2
 generalize pByte b k 0=r1 at *
 obtain ⟨x,k1,e1⟩:=r1
 dsimp only at *
 have HE:Hid ((x=0→(if x=0 then fl e1 4 else e1)=fl e1 4)∧(x≠0→(if x=0 then fl e1 4 else e1)=e1)):=⟨fun h=>if_pos h,fun h=>if_neg h⟩
 generalize (if x=0 then fl e1 4 else e1)=E1 at *
 have C2:=fun (W:World) (hW:Cu W g b (k1:Int) E1)=>uint_any W g b k1 E1 16777216 hW hs' hk1
 have hk2:=(pUint_at b k1 E1 16777216 hk1).2
 generalize pUint b k1 E1 16777216=r2 at *
 obtain ⟨n,k2,e2⟩:=r2
 dsimp only at *
 have C3:=fun (W:World) (hW:Cu W g b (k2:Int) e2)=>bytes_any W g b k2 e2 n hW hs hk2
 have hk3:=(pBytes_at b k2 e2 n hk2).2
 have hP:=pBytes_size b k2 e2 n
 generalize pBytes b k2 e2 n=r3 at *
 obtain ⟨P,k3,e3⟩:=r3
 dsimp only at *
 have C4:=fun (W:World) (hW:Cu W g b (k3:Int) e3)=>bytes_any W g b k3 e3 4 hW hs hk3
 generalize pBytes b k3 e3 4=r4 at *
 obtain ⟨S,k4,e4⟩:=r4
 dsimp only at *
 have H1:Hid _:=C1
 have H2:Hid _:=C2
 have H3:Hid _:=C3
 have H4:Hid _:=C4
 have H5:Hid _:=fun W=>sum_any P W (by omega)
 have h0:Cu (w.alloc (.cells #[.int .i64 0,.string ⟨#[]⟩] 55)) g b (k:Int) 0:=h.alloc _
 have n0:(w.alloc (.cells #[.int .i64 0,.string ⟨#[]⟩] 55)).heap[w.heap.size]? = some (.cells #[.int .i64 0,.string ⟨#[]⟩] 55 (0,0)):=heap_alloc_new w _
 have g0:w.grownBy (w.alloc (.cells #[.int .i64 0,.string ⟨#[]⟩] 55)) (some g):=galloc (World.grownBy.refl _ _) _
 have hne:some w.heap.size≠some g:=by have:=h.lt;simp;omega
 have hB:Hid (∀{a c:World},a.heap[w.heap.size]? = some (.cells #[.int .i64 0,.string ⟨#[]⟩] 55 (0,0))→a.grownBy c (some g)→c.heap[w.heap.size]? = some (.cells #[.int .i64 0,.string ⟨#[]⟩] 55 (0,0))):=fun ha hg=>(hg.block _ (Array.getElem?_eq_some_iff.1 ha).1 hne).trans ha
 have hdone:Hid (∀{c:World} {E:Int},Cu c g b (k4:Int) E→w.grownBy c (some g)→Cu ((c.setCell ⟨w.heap.size,0,none⟩ (.int .i64 x)).setCell ⟨w.heap.size,1,none⟩ (.string P)) g b (k4:Int) E∧w.grownBy ((c.setCell ⟨w.heap.size,0,none⟩ (.int .i64 x)).setCell ⟨w.heap.size,1,none⟩ (.string P)) (some g)):=
  fun hc hg=>⟨(At3.setOther (At3.setOther hc ⟨w.heap.size,0,none⟩ (fun e=>hne (by rw [← e])) _) ⟨w.heap.size,1,none⟩ (fun e=>hne (by rw [← e])) _),gnew4 (gnew4 hg _ (Nat.le_refl _) _) _ (Nat.le_refl _) _⟩
 clear C1 C2 C3 C4 hP hk1 hk2 hk3 h hk hs hs'
 have HQ:Hid ((S.size=4→lnum S.data.toList=crc P.data.toList→crcE S P e4=e4)∧(S.size=4→lnum S.data.toList≠crc P.data.toList→crcE S P e4=fl e4 5)∧(S.size≠4→crcE S P e4=fl e4 5)):=
  ⟨fun h1 h2=>if_pos ⟨h1,h2⟩,fun _ h2=>if_neg (fun h=>h2 h.2),fun h1=>if_neg (fun h=>h1 h.1)⟩
 generalize crcE S P e4=E5 at *
 by_cases hx:x=0
 ·subst hx
  have hE:=HE.out.1 rfl
  clear HE
  go_enter Tryz.func77,Tryz.ntmps77
  go_wp2_with fail
  refine (H1.out _ h0).mono ?_
  rintro r w1 ⟨rfl,h1,g1⟩
  have m1:=gtrans g0 g1
  have n1:=hB.out n0 g1
  clear h0 g0 n0 g1
  go_wp2_with fail
  refine (fail_fl _ g b _ e1 4 h1).mono ?_
  rintro r w2 ⟨rfl,h2,g2⟩
  have m2:=gtrans m1 g2
  have n2:=hB.out n1 g2
  rw [← hE] at h2
  clear h1 m1 n1 g2
  go_wp2_with fail
  refine (H2.out _ h2).mono ?_
  rintro r w3 ⟨rfl,h3,g3⟩
  have m3:=gtrans m2 g3
  have n3:=hB.out n2 g3
  clear h2 m2 n2 g3
  go_wp2_with fail
  refine (H3.out _ h3).mono ?_
  rintro r w4 ⟨rfl,h4,g4⟩
  have m4:=gtrans m3 g4
  have n4:=hB.out n3 g4
  clear h3 m3 n3 g4
  go_wp2_with fail
  refine (H4.out _ h4).mono ?_
  rintro r w5 ⟨rfl,h5,g5⟩
  have m5:=gtrans m4 g5
  have n5:=hB.out n4 g5
  clear h4 m4 n4 g5
  go_wp2_with fail
  by_cases hS:S.size=4
  ·refine (get4_some S _ hS).mono ?_
   rintro r w6 ⟨rfl,b6⟩
   have h6:=h5.belowAll b6
   have m6:=gtrans m5 (gbelow b6)
   have n6:=hB.out n5 (gbelow b6)
   clear h5 m5 n5 b6
   generalize lnum S.data.toList=A at *
   generalize crc P.data.toList=C at *
   by_cases hq:A=C
   ·subst hq
    have hQ:=HQ.out.1 hS rfl
    go_wp2_with fail
    refine (H5.out _).mono ?_
    rintro r w7 ⟨rfl,b7⟩
    have h7:=h6.belowAll b7
    have m7:=gtrans m6 (gbelow b7)
    have n7:=hB.out n6 (gbelow b7)
    clear h6 m6 n6 b7
    have c0:w7.cell? ⟨w.heap.size,0,none⟩=some (.int .i64 0):=by rw [Lib.cell_of_heap n7];rfl
    have c1:w7.cell? ⟨w.heap.size,1,none⟩=some (.string ⟨#[]⟩):=by rw [Lib.cell_of_heap n7];rfl
    have f0:w7.frozen? ⟨w.heap.size,0,none⟩=false:=Lib.frozen_of_heap n7 0
    have f1:w7.frozen? ⟨w.heap.size,1,none⟩=false:=Lib.frozen_of_heap n7 1
    go_wp2_with fail
    have hd:=hdone.out h7 m7
    refine bodyPost_ret (v:=.agg #[.int .i64 0,.string P]) (by simp [results,Tryz.results77,go_sem, *]) rfl ⟨rfl,hQ.symm ▸ hd.1,hd.2⟩
   ·have hQ:=HQ.out.2.1 hS hq
    have hq':((A:Int) != (C:Int))=true:=by simpa using (by omega:¬(A:Int)=C)
    clear hq
    go_wp2_with fail
    refine (H5.out _).mono ?_
    rintro r w7 ⟨rfl,b7⟩
    have h7:=h6.belowAll b7
    have m7:=gtrans m6 (gbelow b7)
    have n7:=hB.out n6 (gbelow b7)
    clear h6 m6 n6 b7
    go_wp2_with fail
    refine (fail_fl _ g b _ e4 5 h7).mono ?_
    rintro r w8 ⟨rfl,h8,g8⟩
    have m8:=gtrans m7 g8
    have n8:=hB.out n7 g8
    clear h7 m7 n7 g8
    have c0:w8.cell? ⟨w.heap.size,0,none⟩=some (.int .i64 0):=by rw [Lib.cell_of_heap n8];rfl
    have c1:w8.cell? ⟨w.heap.size,1,none⟩=some (.string ⟨#[]⟩):=by rw [Lib.cell_of_heap n8];rfl
    have f0:w8.frozen? ⟨w.heap.size,0,none⟩=false:=Lib.frozen_of_heap n8 0
    have f1:w8.frozen? ⟨w.heap.size,1,none⟩=false:=Lib.frozen_of_heap n8 1
    go_wp2_with fail
    have hd:=hdone.out h8 m8
    refine bodyPost_ret (v:=.agg #[.int .i64 0,.string P]) (by simp [results,Tryz.results77,go_sem, *]) rfl ⟨rfl,hQ.symm ▸ hd.1,hd.2⟩
  ·have hQ:=HQ.out.2.2 hS
   refine (get4_none S _ hS).mono ?_
   rintro r w6 ⟨rfl,b6⟩
   have h6:=h5.belowAll b6
   have m6:=gtrans m5 (gbelow b6)
   have n6:=hB.out n5 (gbelow b6)
   clear h5 m5 n5 b6
   go_wp2_with fail
   refine (fail_fl _ g b _ e4 5 h6).mono ?_
   rintro r w8 ⟨rfl,h8,g8⟩
   have m8:=gtrans m6 g8
   have n8:=hB.out n6 g8
   clear h6 m6 n6 g8
   have c0:w8.cell? ⟨w.heap.size,0,none⟩=some (.int .i64 0):=by rw [Lib.cell_of_heap n8];rfl
   have c1:w8.cell? ⟨w.heap.size,1,none⟩=some (.string ⟨#[]⟩):=by rw [Lib.cell_of_heap n8];rfl
   have f0:w8.frozen? ⟨w.heap.size,0,none⟩=false:=Lib.frozen_of_heap n8 0
   have f1:w8.frozen? ⟨w.heap.size,1,none⟩=false:=Lib.frozen_of_heap n8 1
   go_wp2_with fail
   have hd:=hdone.out h8 m8
   refine bodyPost_ret (v:=.agg #[.int .i64 0,.string P]) (by simp [results,Tryz.results77,go_sem, *]) rfl ⟨rfl,hQ.symm ▸ hd.1,hd.2⟩
 ·have hE:=HE.out.2 hx
  clear HE
  go_enter Tryz.func77,Tryz.ntmps77
  go_wp2_with fail
  refine (H1.out _ h0).mono ?_
  rintro r w2 ⟨rfl,h2,g2⟩
  have m2:=gtrans g0 g2
  have n2:=hB.out n0 g2
  rw [← hE] at h2
  clear h0 g0 n0 g2
  go_wp2_with fail
  refine (H2.out _ h2).mono ?_
  rintro r w3 ⟨rfl,h3,g3⟩
  have m3:=gtrans m2 g3
  have n3:=hB.out n2 g3
  clear h2 m2 n2 g3
  go_wp2_with fail
  refine (H3.out _ h3).mono ?_
  rintro r w4 ⟨rfl,h4,g4⟩
  have m4:=gtrans m3 g4
  have n4:=hB.out n3 g4
  clear h3 m3 n3 g4
  go_wp2_with fail
  refine (H4.out _ h4).mono ?_
  rintro r w5 ⟨rfl,h5,g5⟩
  have m5:=gtrans m4 g5
  have n5:=hB.out n4 g5
  clear h4 m4 n4 g5
  go_wp2_with fail
  by_cases hS:S.size=4
  ·refine (get4_some S _ hS).mono ?_
   rintro r w6 ⟨rfl,b6⟩
   have h6:=h5.belowAll b6
   have m6:=gtrans m5 (gbelow b6)
   have n6:=hB.out n5 (gbelow b6)
   clear h5 m5 n5 b6
   generalize lnum S.data.toList=A at *
   generalize crc P.data.toList=C at *
   by_cases hq:A=C
   ·subst hq
    have hQ:=HQ.out.1 hS rfl
    go_wp2_with fail
    refine (H5.out _).mono ?_
    rintro r w7 ⟨rfl,b7⟩
    have h7:=h6.belowAll b7
    have m7:=gtrans m6 (gbelow b7)
    have n7:=hB.out n6 (gbelow b7)
    clear h6 m6 n6 b7
    have c0:w7.cell? ⟨w.heap.size,0,none⟩=some (.int .i64 0):=by rw [Lib.cell_of_heap n7];rfl
    have c1:w7.cell? ⟨w.heap.size,1,none⟩=some (.string ⟨#[]⟩):=by rw [Lib.cell_of_heap n7];rfl
    have f0:w7.frozen? ⟨w.heap.size,0,none⟩=false:=Lib.frozen_of_heap n7 0
    have f1:w7.frozen? ⟨w.heap.size,1,none⟩=false:=Lib.frozen_of_heap n7 1
    go_wp2_with fail
    have hd:=hdone.out h7 m7
    refine bodyPost_ret (v:=.agg #[.int .i64 x,.string P]) (by simp [results,Tryz.results77,go_sem, *]) rfl ⟨rfl,hQ.symm ▸ hd.1,hd.2⟩
   ·have hQ:=HQ.out.2.1 hS hq
    have hq':((A:Int) != (C:Int))=true:=by simpa using (by omega:¬(A:Int)=C)
    clear hq
    go_wp2_with fail
    refine (H5.out _).mono ?_
    rintro r w7 ⟨rfl,b7⟩
    have h7:=h6.belowAll b7
    have m7:=gtrans m6 (gbelow b7)
    have n7:=hB.out n6 (gbelow b7)
    clear h6 m6 n6 b7
    go_wp2_with fail
    refine (fail_fl _ g b _ e4 5 h7).mono ?_
    rintro r w8 ⟨rfl,h8,g8⟩
    have m8:=gtrans m7 g8
    have n8:=hB.out n7 g8
    clear h7 m7 n7 g8
    have c0:w8.cell? ⟨w.heap.size,0,none⟩=some (.int .i64 0):=by rw [Lib.cell_of_heap n8];rfl
    have c1:w8.cell? ⟨w.heap.size,1,none⟩=some (.string ⟨#[]⟩):=by rw [Lib.cell_of_heap n8];rfl
    have f0:w8.frozen? ⟨w.heap.size,0,none⟩=false:=Lib.frozen_of_heap n8 0
    have f1:w8.frozen? ⟨w.heap.size,1,none⟩=false:=Lib.frozen_of_heap n8 1
    go_wp2_with fail
    have hd:=hdone.out h8 m8
    refine bodyPost_ret (v:=.agg #[.int .i64 x,.string P]) (by simp [results,Tryz.results77,go_sem, *]) rfl ⟨rfl,hQ.symm ▸ hd.1,hd.2⟩
  ·have hQ:=HQ.out.2.2 hS
   refine (get4_none S _ hS).mono ?_
   rintro r w6 ⟨rfl,b6⟩
   have h6:=h5.belowAll b6
   have m6:=gtrans m5 (gbelow b6)
   have n6:=hB.out n5 (gbelow b6)
   clear h5 m5 n5 b6
   go_wp2_with fail
   refine (fail_fl _ g b _ e4 5 h6).mono ?_
   rintro r w8 ⟨rfl,h8,g8⟩
   have m8:=gtrans m6 g8
   have n8:=hB.out n6 g8
   clear h6 m6 n6 g8
   have c0:w8.cell? ⟨w.heap.size,0,none⟩=some (.int .i64 0):=by rw [Lib.cell_of_heap n8];rfl
   have c1:w8.cell? ⟨w.heap.size,1,none⟩=some (.string ⟨#[]⟩):=by rw [Lib.cell_of_heap n8];rfl
   have f0:w8.frozen? ⟨w.heap.size,0,none⟩=false:=Lib.frozen_of_heap n8 0
   have f1:w8.frozen? ⟨w.heap.size,1,none⟩=false:=Lib.frozen_of_heap n8 1
   go_wp2_with fail
   have hd:=hdone.out h8 m8
   refine bodyPost_ret (v:=.agg #[.int .i64 x,.string P]) (by simp [results,Tryz.results77,go_sem, *]) rfl ⟨rfl,hQ.symm ▸ hd.1,hd.2⟩
end Go.Proofs.YtgoffkfpdigeeaaGreatDoor
namespace Go.Proofs.YtgoffkfpdigeeaaGreatDoor
open Go.RowKit
theorem drop_take_extract (b:ByteArray) (i n:Nat):(b.extract i (i+n)).data.toList=(b.data.toList.drop i).take n:=by
 rw [Lib.extract_data,show i+n-i=n by omega]
theorem fl_keep {e:Int} (h:e≠0) (d:Int):fl e d=e:=if_neg h
theorem pUint_no (b:ByteArray) (k:Nat) (e m:Int) (h:e≠0):pUint b k e m=(0,k,e):=by unfold pUint;rw [if_pos h]
theorem pBytes_no (b:ByteArray) (k:Nat) (e n:Int) (h:e≠0):pBytes b k e n=(⟨#[]⟩,k,e):=by unfold pBytes;rw [if_pos h]
theorem crcE_no (P:ByteArray) (e:Int) (h:e≠0):crcE ⟨#[]⟩ P e=e:=by
 unfold crcE
 rw [if_neg (by rintro ⟨h1,_⟩;exact absurd h1 (by decide)),fl_keep h]
theorem sec_stop (b:ByteArray) (k:Nat) (n e:Int) (h:e≠0):crcE (pBytes b (pBytes b k e n).2.1 (pBytes b k e n).2.2 4).1 (pBytes b k e n).1 (pBytes b (pBytes b k e n).2.1 (pBytes b k e n).2.2 4).2.2=e∧(pBytes b (pBytes b k e n).2.1 (pBytes b k e n).2.2 4).2.1=k:=by
 rw [pBytes_no b k e n h]
 dsimp only
 rw [pBytes_no b k e 4 h]
 exact ⟨crcE_no _ e h,rfl⟩
theorem lnum_crc (S:ByteArray) (n:Nat) (hS:S.size=4) (hn:n<4294967296):lnum S.data.toList=n↔S.data.toList=four n:=by
 constructor
 ·intro h;rw [← h,four_of_num S hS]
 ·intro h;rw [h,num_of_four n hn]
theorem psec_is (b:ByteArray) (k:Nat) (hk:k<b.size) :
  ((sec1 (b.data.toList.drop k)).1=0→pSec b k=((sec1 (b.data.toList.drop k)).2.1,k+(sec1 (b.data.toList.drop k)).2.2,0)∧k+(sec1 (b.data.toList.drop k)).2.2≤b.size)∧
  ((sec1 (b.data.toList.drop k)).1≠0→(pSec b k).2.2=((sec1 (b.data.toList.drop k)).1:Int)∧(pSec b k).2.1≤b.size):=by
 have hb1:pByte b k 0=((b[k].toNat:Int),k+1,0):=by unfold pByte;rw [if_neg (by simp),dif_pos hk]
 rw [drop_atB b k hk,sec1_cons]
 have hnum:dec 0 0 (b.data.toList.drop (k+1))=num b (k+1):=rfl
 have hlen:(b.data.toList.drop (k+1)).length=b.size-(k+1):=by rw [List.length_drop,list_size]
 rw [hnum]
 have hok:=fun h=>num_ok b (k+1) h (by omega)
 have hu:pUint b (k+1) 0 16777216=if (num b (k+1)).2.2≠0 then (0,k+1,((num b (k+1)).2.2:Int)) else if (16777216:Int)<(num b (k+1)).1∨16777216<(num b (k+1)).1 then (0,k+1,19) else (((num b (k+1)).1:Int),k+1+(num b (k+1)).2.1,0):=by unfold pUint;rw [if_neg (by simp)]
 unfold pSec
 rw [hb1]
 dsimp only
 generalize num b (k+1)=d at *
 obtain ⟨n,m,e⟩:=d
 dsimp only at *
 unfold sec0
 dsimp only
 by_cases h1:b[k].toNat=0
 ·rw [if_pos h1,if_pos (by omega:(b[k].toNat:Int)=0),fl_ok4,pUint_no b _ 4 _ (by decide)]
  dsimp only
  obtain ⟨s1,s2⟩:=sec_stop b (k+1) 0 4 (by decide)
  exact ⟨fun h=>absurd h (by decide),fun _=>⟨s1,by rw [s2];omega⟩⟩
 rw [if_neg h1,if_neg (by omega:¬(b[k].toNat:Int)=0)]
 by_cases h2:e≠0
 ·rw [if_pos h2] at hu
  rw [if_pos h2,hu]
  dsimp only
  obtain ⟨s1,s2⟩:=sec_stop b (k+1) 0 (e:Int) (by omega)
  exact ⟨fun h=>absurd h h2,fun _=>⟨s1,by rw [s2];omega⟩⟩
 rw [if_neg h2] at hu ⊢
 by_cases h3:16777216<n
 ·rw [if_pos (.inr h3)] at hu
  rw [if_pos h3,hu]
  dsimp only
  obtain ⟨s1,s2⟩:=sec_stop b (k+1) 0 19 (by decide)
  exact ⟨fun h=>absurd h (by decide),fun _=>⟨s1,by rw [s2];omega⟩⟩
 rw [if_neg (by omega)] at hu
 rw [if_neg h3,hu]
 dsimp only
 obtain ⟨_,o2,o3⟩:=hok (by simpa using h2)
 rw [hlen]
 by_cases h4:(b.size:Int)-(k+1+m:Nat)<n
 ·have hp:pBytes b (k+1+m) 0 (n:Int)=(⟨#[]⟩,k+1+m,2):=by unfold pBytes;rw [if_neg (by simp),if_neg (by omega),if_pos h4]
  rw [if_pos (by omega),hp]
  dsimp only
  rw [pBytes_no b _ 2 4 (by decide)]
  dsimp only
  exact ⟨fun h=>absurd h (by decide),fun _=>⟨crcE_no _ 2 (by decide),by omega⟩⟩
 have hp:pBytes b (k+1+m) 0 (n:Int)=(b.extract (k+1+m) (k+1+m+n),k+1+m+n,0):=by unfold pBytes;rw [if_neg (by simp),if_neg (by omega),if_neg h4,Int.toNat_natCast]
 rw [hp]
 dsimp only
 by_cases h5:(b.size:Int)-(k+1+m+n:Nat)<4
 ·have hq:pBytes b (k+1+m+n) 0 4=(⟨#[]⟩,k+1+m+n,2):=by unfold pBytes;rw [if_neg (by simp),if_neg (by omega),if_pos h5]
  rw [if_pos (by omega),hq]
  dsimp only
  exact ⟨fun h=>absurd h (by decide),fun _=>⟨crcE_no _ 2 (by decide),by omega⟩⟩
 have hq:pBytes b (k+1+m+n) 0 4=(b.extract (k+1+m+n) (k+1+m+n+4),k+1+m+n+4,0):=by unfold pBytes;rw [if_neg (by simp),if_neg (by omega),if_neg h5];rfl
 rw [if_neg (by omega),hq]
 dsimp only
 have hS:(b.extract (k+1+m+n) (k+1+m+n+4)).size=4:=by rw [ByteArray.size_extract];omega
 have dS:(b.extract (k+1+m+n) (k+1+m+n+4)).data.toList=((b.data.toList.drop (k+1)).drop (m+n)).take 4:=by rw [drop_take_extract,List.drop_drop,← Nat.add_assoc]
 have dP:(b.extract (k+1+m) (k+1+m+n)).data.toList=((b.data.toList.drop (k+1)).drop m).take n:=by rw [drop_take_extract,List.drop_drop]
 have hc:=lnum_crc (b.extract (k+1+m+n) (k+1+m+n+4)) (crc (b.extract (k+1+m) (k+1+m+n)).data.toList) hS (crc_lt _)
 rw [dS,dP] at hc
 have eP:b.extract (k+1+m) (k+1+m+n)=⟨(((b.data.toList.drop (k+1)).drop m).take n).toArray⟩:=ba_ext dP
 by_cases h6:((b.data.toList.drop (k+1)).drop (m+n)).take 4≠four (crc (((b.data.toList.drop (k+1)).drop m).take n))
 ·rw [if_pos h6]
  dsimp only
  refine ⟨fun h=>absurd h (by decide),fun _=>⟨?_,by omega⟩⟩
  unfold crcE
  rw [dS,dP,if_neg (fun h=>h6 (hc.1 h.2))]
  rfl
 ·rw [if_neg h6]
  dsimp only
  refine ⟨fun _=>⟨?_,by omega⟩,fun h=>absurd rfl h⟩
  have hE:crcE (b.extract (k+1+m+n) (k+1+m+n+4)) (b.extract (k+1+m) (k+1+m+n)) 0=0:=by
   unfold crcE
   rw [dS,dP,if_pos ⟨hS,hc.2 (Decidable.not_not.1 h6)⟩]
  rw [hE,eP]
  simp only [Prod.mk.injEq,true_and,and_true]
  omega
end Go.Proofs.YtgoffkfpdigeeaaGreatDoor
namespace Go.Proofs.YtgoffkfpdigeeaaGreatDoor
open Go.RowKit
theorem Tryz.infoS:(Tryz.prog.info? 55).map (fun i=>(i.zero,i.size,i.bytes))=some (some (.agg #[.int .i64 0,.string ⟨#[]⟩]),2,24):=by kernel_rfl
def sV:List Sec→List Value
 | []=>[]
 | s :: r=>.int .i64 s.1 :: .string s.2 :: sV r
theorem sV_append (a b:List Sec):sV (a++b)=sV a++sV b:=by
 induction a with
 | nil=>rfl
 | cons s r ih=>simp [sV,ih]
theorem sV_at (L:List Sec):∀i (h:i<L.length),(sV L)[i*2]? = some (.int .i64 (L[i]'h).1)∧(sV L)[i*2+1]? = some (.string (L[i]'h).2):=by
 induction L with
 | nil=>intro i h;simp at h
 | cons s r ih=>
  intro i h
  cases i with
  | zero=>exact ⟨rfl,rfl⟩
  | succ i=>
   have:=ih i (by simpa using h)
   rw [show (i+1)*2=i*2+1+1 by omega]
   simpa [sV] using this
theorem own_secs {w:World} {B:Nat} {a:Option Addr} {n cap:Nat} {xs:List Sec} (h:w.ownsRow B 55 2 (.slice a n cap) n (sV xs)) (hn:xs.length=n):∃gk,(0<n→a=some ⟨gk,0,none⟩)∧SecAt w gk 0 xs:=by
 rcases h.2 with ⟨hv,h0⟩|⟨g,cap',cur,hv,hb,hg,_⟩
 ·exact ⟨0,by omega,fun i hi=>by omega⟩
 ·have ha:a=some ⟨g,0,none⟩:=by injection hv
  subst ha
  have hlt:g<w.heap.size:=(Array.getElem?_eq_some_iff.1 hg).1
  refine ⟨g,fun _=>rfl,fun i hi=>?_⟩
  obtain ⟨s0,s1⟩:=sV_at xs i hi
  have c0:=h.cells (g:=g) rfl _ _ s0
  have c1:=h.cells (g:=g) rfl _ _ s1
  rw [show (⟨g,0,none⟩:Addr).add (i*2)=⟨g,0+i*2,none⟩ by unfold Addr.add;split <;> simp_all] at c0
  rw [show (⟨g,0,none⟩:Addr).add (i*2+1)=⟨g,0+i*2+1,none⟩ by unfold Addr.add;split <;> simp_all] at c1
  exact ⟨hlt,c0,c1⟩
def fin3 (res:Nat × List Sec) (V:Nat):Nat × Nat × List Sec:=if res.1≠0 then (res.1,0,[]) else (0,V,res.2)
def FGot (w w':World) (e:Ending) (q:Nat × Nat × List Sec):Prop:=
 ∃(a:Option Addr) (cap gk:Nat),e=.returned (.tuple #[.int .i64 (q.2.1:Nat),.slice a q.2.2.length cap,.int .i64 (q.1:Nat)])∧(0<q.2.2.length→a=some ⟨gk,0,none⟩)∧SecAt w' gk 0 q.2.2∧Below w.heap.size w w'
theorem FGot.none {w w':World} (e:Nat) (hb:Below w.heap.size w w'):FGot w w' (.returned (.tuple #[.int .i64 0,.slice none 0 0,.int .i64 e])) (e,0,[]):=
 ⟨_,0,0,rfl,by simp,fun i hi=>by simp at hi,hb⟩
theorem fin3_bad {res:Nat × List Sec} {V:Nat} (h:res.1≠0):fin3 res V=(res.1,0,[]):=if_pos h
def lenV:Value→Nat
 | .slice _ n _=>n
 | _=>0
set_option maxRecDepth 10000 in
set_option maxHeartbeats 800000 in
theorem fget_go (m b t:ByteArray) (w:World) (V k0:Nat) (e0:Int) (res:Nat × List Sec) (hm:m.size=4) (hb:b.size≤100000000) (hp:b.data.toList.take 4=m.data.toList) (ht:t=b.extract 4 b.size)
  (hv:ver t=((V:Int),k0,e0)) (hk0:k0≤t.size) (hres:(e0=0∧res=secsL 8 (t.data.toList.drop k0))∨(e0≠0∧(res.1:Int)=e0)) :
  Calls Tryz.prog 34 #[.string m,.string b] w fun e w'=>FGot w w' e (fin3 res V):=by
 have hb4:(4:Int)≤b.size:=by
  have h1:=congrArg List.length hp
  rw [List.length_take,list_size,list_size] at h1
  omega
 have hts:t.size≤100000000:=by rw [ht,ByteArray.size_extract];omega
 have hm':(m.size:Int)=4:=by omega
 have HX:Hid (∀W,Calls Tryz.prog 71 #[.string b,.string m] W fun e w'=>e=.returned (.bool true)∧w'=W):=fun W=>by
  have:=hp_any m b W hm (by omega)
  rw [decide_eq_true hp] at this
  exact this
 have HV:Hid (∀(W:World) (g:Nat),Cu W g t ((0:Nat):Int) 0→Calls Tryz.prog 73 #[.pointer (some ⟨g,0,none⟩)] W fun e w'=>e=.returned (.int .i64 (V:Int))∧Cu w' g t (k0:Int) e0∧W.grownBy w' (some g)):=fun W g h=>by
  have:=getver_any W g t h (by unfold maxLen;omega)
  rw [hv] at this
  exact this
 have HT:Hid (b.extract 4 b.size=t):=ht.symm
 have het:(b.extract 4 b.size)=t:=ht.symm
 clear hp hv ht hm
 have HRES:Hid _:=hres
 clear hres
 go_enter Tryz.func34,Tryz.ntmps34
 go_wp2_with fail
 refine (HX.out _).mono ?_
 rintro e w1 ⟨rfl,rfl⟩
 go_wp2_with fail
 refine (cnew_any _ _).mono ?_
 rintro e w2 ⟨rfl,hw2⟩
 have k2:Cu w2 w1.heap.size t ((0:Nat):Int) 0:=by rw [hw2];exact At3.new _ _ _ _ _
 have c2:Below w1.heap.size w1 w2:=by rw [hw2];exact (Below.refl _ _).alloc (Nat.le_refl _) _
 clear hw2
 go_wp2_with fail
 refine (HV.out _ _ k2).mono ?_
 rintro e w3 ⟨rfl,k3,g3⟩
 have c3:=below_but c2 g3 (Nat.le_refl _) c2.size
 clear HX HV HT het k2 c2 g3 hb4 hm'
 obtain ⟨i0,hi,hz0,hz1,hz2⟩:=info_parts Tryz.infoS
 go_wp2_with fail
 go_loopw [9] (fun lv wr=>∃(n:Nat) (a:Option Addr) (cap k:Nat) (e:Int) (xs:List Sec),lv=.slice a n cap∧Cu wr w1.heap.size t (k:Int) e∧Below w1.heap.size w1 wr∧k≤t.size∧n≤8∧
  ((e=0∧wr.ownsRow (w1.heap.size+1) 55 2 (.slice a n cap) n (sV xs)∧Hid (xs.length=n∧res=cont xs (secsL (8-n) (t.data.toList.drop k))))∨(e≠0∧Hid ((res.1:Int)=e)))) (fun lv _=>10-lenV lv)
 case atStart=>
  refine ⟨0,none,0,k0,e0,[],rfl,k3,c3,hk0,by omega,?_⟩
  rcases HRES.out with ⟨h1,h2⟩|⟨h1,h2⟩
  ·exact .inl ⟨h1,World.ownsRow_nil _ _ _ _,rfl,by rw [h2,cont_nil]⟩
  ·exact .inr ⟨h1,h2⟩
 case round=>
  obtain ⟨n,a,cap,k,e,xs,rfl,hC,hB,hk,hn,hst⟩:=hrel
  have hG:w1.heap.size<wr.heap.size:=hC.lt
  clear k3 c3 HRES hk0
  rcases hst with ⟨rfl,hown,HX⟩|⟨he,HR⟩
  ·by_cases hend:k=t.size
   ·have hz:¬(0:Int)<(t.size:Int)-k:=by omega
    have hres:res=(0,xs):=by
     obtain ⟨_,h2⟩:=HX.out
     rw [h2,drop_end t k (by omega),secsL_nil,cont_ok rfl,List.append_nil]
    have hlen:=HX.out.1
    have HQ:Hid (fin3 res V=(0,V,xs)∧xs.length=n):=⟨by rw [hres];rfl,hlen⟩
    clear HX hlen hres hend
    go_wp2_with fail
    refine (err_any _ _ t k 0 hC).mono ?_
    rintro r w4 ⟨rfl,b4⟩
    have C4:Cu w4 w1.heap.size t (k:Int) 0:=hC.belowAll b4
    have o4:=hown.kept (gbelow (row:=Option.none) b4) (by cases h:(Value.slice a n cap).ownBlock <;> simp)
    have B4:=hB.trans (b4.mono hB.size)
    clear hC hown hB b4
    go_wp2_with fail
    refine (left_any w4 _ t k 0 C4 (by unfold maxLen;omega) (by omega) (by omega)).mono ?_
    rintro r w5 ⟨rfl,j,rfl⟩
    go_wp2_with fail
    refine (err_any _ _ t k 0 (At3.drewN C4 j)).mono ?_
    rintro r w6 ⟨rfl,b6⟩
    have o6:=World.ownsRow.kept (w:=w4.drewN j) o4 (gbelow (row:=Option.none) b6) (by cases h:(Value.slice a n cap).ownBlock <;> simp)
    have B6:=(bdrewN B4 j).trans (b6.mono B4.size)
    go_wp2_with fail
    go_ret3
    obtain ⟨hq,hl⟩:=HQ.out
    rw [hq]
    obtain ⟨gk,h1,h2⟩:=own_secs o6 hl
    exact ⟨a,cap,gk,by rw [← hl];rfl,by rw [← hl] at h1;exact h1,h2,B6⟩
   ·have hz:(0:Int)<(t.size:Int)-k:=by omega
    by_cases h8:n=8
    ·subst h8
     have hres:res=(8,[]):=by
      obtain ⟨_,h2⟩:=HX.out
      rw [h2,secsL_full _ (by rw [drop_atB t k (by omega)];simp),cont_bad (by decide)]
     have HQ:Hid (fin3 res V=(8,0,[])):=by show _=_;rw [hres];rfl
     clear HX hres hend
     go_wp2_with fail
     refine (err_any _ _ t k 0 hC).mono ?_
     rintro r w4 ⟨rfl,b4⟩
     have C4:Cu w4 w1.heap.size t (k:Int) 0:=hC.belowAll b4
     have B4:=hB.trans (b4.mono hB.size)
     clear hC hown hB b4
     go_wp2_with fail
     refine (left_any w4 _ t k 0 C4 (by unfold maxLen;omega) (by omega) (by omega)).mono ?_
     rintro r w5 ⟨rfl,j,rfl⟩
     go_wp2_with fail
     refine (fail_fl _ _ t k 0 8 (At3.drewN C4 j)).mono ?_
     rintro r w6 ⟨rfl,C6,g6⟩
     rw [fl_ok4] at C6
     have B6:=below_but (bdrewN B4 j) g6 (Nat.le_refl _) B4.size
     clear C4 B4 g6
     go_wp2_with fail
     refine (err_any _ _ t k 8 C6).mono ?_
     rintro r w7 ⟨rfl,b7⟩
     have B7:=B6.trans (b7.mono B6.size)
     go_wp2_with fail
     go_ret3
     rw [HQ.out]
     exact FGot.none 8 B7
    ·have hP:∃(x:Int) (p:ByteArray) (k':Nat) (e':Int),pSec t k=((x,p),k',e')∧k'≤t.size∧((e'=0∧Hid (res=cont (xs++[(x,p)]) (secsL (8-(n+1)) (t.data.toList.drop k'))))∨(e'≠0∧Hid ((res.1:Int)=e'))):=by
      obtain ⟨q1,q2⟩:=psec_is t k (by omega)
      have hne:t.data.toList.drop k≠[]:=by rw [drop_atB t k (by omega)];simp
      obtain ⟨_,hr⟩:=HX.out
      rw [show 8-n=(8-(n+1))+1 by omega] at hr
      by_cases hs:(sec1 (t.data.toList.drop k)).1=0
      ·obtain ⟨e1,e2⟩:=q1 hs
       rw [secsL_go _ _ hne hs,cont_cont,List.drop_drop] at hr
       exact ⟨_,_,_,_,e1,e2,.inl ⟨rfl,hr⟩⟩
      ·obtain ⟨e1,e2⟩:=q2 hs
       rw [secsL_bad _ _ hne hs,cont_bad hs] at hr
       generalize pSec t k=Q at e1 e2 ⊢
       obtain ⟨⟨x,p⟩,k',e'⟩:=Q
       dsimp only at e1 e2
       exact ⟨x,p,k',e',rfl,e2,.inr ⟨by rw [e1];omega,by show _=_;rw [hr,e1]⟩⟩
     have hlen:=HX.out.1
     obtain ⟨x,p,k',e',hps,hk',hst⟩:=hP
     have HS:=fun (W:World) (hW:Cu W w1.heap.size t (k:Int) 0)=>getsec_any W w1.heap.size t k hW (by omega) hk
     rw [hps] at HS
     have HS':Hid _:=HS
     have HL:Hid (xs.length=n):=hlen
     have HST:Hid _:=hst
     clear HX hend hps HS hlen hst
     have hbk:∀q,(Value.slice a n cap).ownBlock=some q→w1.heap.size+1≤q:=fun q hq=>(hown.lt q hq).1
     have hne:some w1.heap.size≠(Value.slice a n cap).ownBlock:=fun h=>by have:=hbk _ h.symm;omega
     have HNE:Hid _:=hne
     have HBK:Hid _:=hbk
     clear hne hbk
     go_wp2_with fail
     refine (err_any _ _ t k 0 hC).mono ?_
     rintro r w4 ⟨rfl,b4⟩
     have C4:Cu w4 w1.heap.size t (k:Int) 0:=hC.belowAll b4
     have o4:=hown.kept (gbelow (row:=Option.none) b4) (by cases h:(Value.slice a n cap).ownBlock <;> simp)
     have B4:=hB.trans (b4.mono hB.size)
     clear hC hown hB b4
     go_wp2_with fail
     refine (left_any w4 _ t k 0 C4 (by unfold maxLen;omega) (by omega) (by omega)).mono ?_
     rintro r w5 ⟨rfl,j,rfl⟩
     go_wp2_with fail
     refine (HS'.out _ (At3.drewN C4 j)).mono ?_
     rintro r w6 ⟨rfl,C6,g6⟩
     have o6:=World.ownsRow.kept (w:=w4.drewN j) o4 g6 (.inr (fun h=>HNE.out h.symm))
     have B6:=below_but (bdrewN B4 j) g6 (Nat.le_refl _) B4.size
     have hG6:w1.heap.size<w6.heap.size:=C6.lt
     clear C4 o4 B4 g6
     go_wp2_with (at_builtin;refine wpList_append_lies _ rfl (.tmp 38) (.tmp 41) 56 rfl (w1.heap.size+1) 55 i0 (.agg #[.int .i64 0,.string ⟨#[]⟩]) 2 24 Tryz.underlying56 hi hz0 hz1 hz2 rfl (by decide) _ n (sV xs) rfl (o6.alloc _) ⟨w6.heap.size,0,none⟩ 1 1 [.int .i64 x,.string p] rfl rfl (World.news_of_block (heap_alloc_new w6 _)) ?c2 (by decide) ?c3 ?c4 ?c5 _ rfl ?_)
     case c2=>intro u hu;simp at hu;rcases hu with rfl|rfl <;> rfl
     case c3=>unfold maxLen;omega
     case c4=>omega
     case c5=>simp;omega
     intro g2 cap2 w7 hown2 hgrow2 _ _
     have C7:=At3.kept (C6.alloc (.cells #[.int .i64 x,.string p] 55)) hgrow2 HNE.out
     have B7:Below w1.heap.size w1 w7:=(B6.alloc B6.size _).grown hgrow2 (by simp;omega) (fun q hq=>by have:=HBK.out q hq;omega)
     go_wp2_with fail
     go_roundw
     case rel=>
      refine ⟨n+1,_,cap2,k',e',xs++[(x,p)],rfl,C7,B7,hk',by omega,?_⟩
      rcases HST.out with ⟨h1,h2⟩|⟨h1,h2⟩
      ·exact .inl ⟨h1,by rw [sV_append];exact hown2,by have:=HL.out;simp;omega,h2.out⟩
      ·exact .inr ⟨h1,h2⟩
     case measure=>simp [lenV];omega
  ·have he':(e==0)=false:=by simpa using he
   have he'':(e != 0)=true:=by simpa using he
   have HQ:Hid (∃E:Nat,e=(E:Int)∧fin3 res V=(E,0,[])):=⟨res.1,HR.out.symm,fin3_bad (by have:=HR.out;omega)⟩
   clear HR he
   go_wp2_with fail
   refine (err_any _ _ t k e hC).mono ?_
   rintro r w4 ⟨rfl,b4⟩
   have C4:Cu w4 w1.heap.size t (k:Int) e:=hC.belowAll b4
   have B4:=hB.trans (b4.mono hB.size)
   clear hC hB b4
   go_wp2_with fail
   refine (err_any _ _ t k e C4).mono ?_
   rintro r w5 ⟨rfl,b5⟩
   have B5:=B4.trans (b5.mono B4.size)
   go_wp2_with fail
   go_ret3
   obtain ⟨E,rfl,hq⟩:=HQ.out
   rw [hq]
   exact FGot.none E B5
set_option maxRecDepth 10000 in
set_option maxHeartbeats 400000 in
theorem fget_size (m b:ByteArray) (w:World) (hm:m.size≠4) :
  Calls Tryz.prog 34 #[.string m,.string b] w fun e w'=>FGot w w' e (6,0,[]):=by
 have hm':¬(m.size:Int)=4:=by omega
 go_enter Tryz.func34,Tryz.ntmps34
 go_wp2_with fail
 go_ret3
 exact FGot.none 6 (Below.refl _ _)
set_option maxRecDepth 10000 in
set_option maxHeartbeats 400000 in
theorem fget_magic (m b:ByteArray) (w:World) (hm:m.size=4) (hb:b.size≤100000000) (hp:b.data.toList.take 4≠m.data.toList) :
  Calls Tryz.prog 34 #[.string m,.string b] w fun e w'=>FGot w w' e (6,0,[]):=by
 have hm':(m.size:Int)=4:=by omega
 have HX:Hid (∀W,Calls Tryz.prog 71 #[.string b,.string m] W fun e w'=>e=.returned (.bool false)∧w'=W):=fun W=>by
  have:=hp_any m b W hm (by omega)
  rw [decide_eq_false hp] at this
  exact this
 clear hp hm
 go_enter Tryz.func34,Tryz.ntmps34
 go_wp2_with fail
 refine (HX.out _).mono ?_
 rintro e w1 ⟨rfl,rfl⟩
 go_wp2_with fail
 go_ret3
 exact FGot.none 6 (Below.refl _ _)
theorem fget_any (m b:ByteArray) (w:World) (hb:b.size≤100000000) :
  Calls Tryz.prog 34 #[.string m,.string b] w fun e w'=>FGot w w' e (pGet m.data.toList b.data.toList):=by
 by_cases hm:m.size=4
 ·by_cases hp:b.data.toList.take 4=m.data.toList
  ·have h4:4≤b.size:=by
    have h1:=congrArg List.length hp
    rw [List.length_take,list_size,list_size] at h1
    omega
   obtain ⟨t,ht⟩:∃t,t=b.extract 4 b.size:=⟨_,rfl⟩
   have hd:t.data.toList=b.data.toList.drop 4:=by
    rw [ht,Lib.extract_data,List.take_of_length_le (by rw [List.length_drop,list_size];omega)]
   have hG:pGet m.data.toList b.data.toList=match t.data.toList with
     | []=>(2,0,[])
     | v :: r=>if v.toNat=0 then (7,0,[]) else if (secsL 8 r).1≠0 then ((secsL 8 r).1,0,[]) else (0,v.toNat,(secsL 8 r).2):=by
    unfold pGet
    rw [if_neg (by simp [hp];exact hm),hd]
    cases b.data.toList.drop 4 <;> rfl
   by_cases h0:0<t.size
   ·have hpb:pByte t 0 0=((t[0].toNat:Int),1,0):=by unfold pByte;rw [if_neg (by simp),dif_pos h0]
    have hl:t.data.toList=t[0] :: t.data.toList.drop 1:=by rw [← drop_atB t 0 h0,List.drop_zero]
    rw [hl] at hG
    dsimp only at hG
    by_cases hz:t[0].toNat=0
    ·have hv:ver t=(((0:Nat):Int),1,7):=by unfold ver;rw [hpb,if_pos (by dsimp only;omega)];rfl
     rw [if_pos hz] at hG
     rw [hG]
     exact fget_go m b t w 0 1 7 (7,[]) hm hb hp ht hv (by omega) (.inr ⟨by decide,rfl⟩)
    ·have hv:ver t=((t[0].toNat:Int),1,0):=by unfold ver;rw [hpb,if_neg (by dsimp only;omega)]
     rw [if_neg hz] at hG
     rw [hG]
     exact fget_go m b t w _ 1 0 (secsL 8 (t.data.toList.drop 1)) hm hb hp ht hv (by omega) (.inl ⟨rfl,rfl⟩)
   ·have hpb:pByte t 0 0=(0,0,2):=by unfold pByte;rw [if_neg (by simp),dif_neg h0]
    have hl:t.data.toList=[]:=by rw [← List.length_eq_zero_iff,list_size];omega
    have hv:ver t=(((0:Nat):Int),0,2):=by unfold ver;rw [hpb,if_pos rfl];rfl
    rw [hl] at hG
    dsimp only at hG
    rw [hG]
    exact fget_go m b t w 0 0 2 (2,[]) hm hb hp ht hv (Nat.zero_le _) (.inr ⟨by decide,rfl⟩)
  ·have hG:pGet m.data.toList b.data.toList=(6,0,[]):=by unfold pGet;rw [if_pos (.inr hp)]
   rw [hG]
   exact fget_magic m b w hm hb hp
 ·have hG:pGet m.data.toList b.data.toList=(6,0,[]):=by unfold pGet;rw [if_pos (.inl (by rw [list_size];exact hm))]
  rw [hG]
  exact fget_size m b w hm
end Go.Proofs.YtgoffkfpdigeeaaGreatDoor
