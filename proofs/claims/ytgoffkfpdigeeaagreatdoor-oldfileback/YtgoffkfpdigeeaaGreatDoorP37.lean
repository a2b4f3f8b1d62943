import Derived.Test.YtgoffkfpdigeeaaGreatDoorP30
import Derived.Test.YtgoffkfpdigeeaaGreatDoorP31
import Derived.Test.YtgoffkfpdigeeaaGreatDoorP35
import Derived.Test.YtgoffkfpdigeeaaGreatDoorP36
import Derived.Stop.Joined
import Derived.LaidMore
import Derived.SevenTiedAt
import Derived.Test.YtgoffkfpdigeeaaGreatDoorP32
import Derived.Test.YtgoffkfpdigeeaaGreatDoorP14
namespace Go.Proofs.YtgoffkfpdigeeaaGreatDoor
open Go.RowKit Go.Maps Go.WideMaps Go.Sort
def FowOut (X:List Nx) (r:Int) (w w':World) (e:Ending):Prop:=∃b,e=.returned (.bool b)∧(b=true↔FowIs X r)∧Below w.heap.size w w'
def bhAt (X:List Nx) (i:Nat):Prop:=∀j,j<(X.getD i noNx).nd.kids.length→¬(X.getD i noNx).nd.kids.getD j 0≤(i:Int)
theorem bhAt_iff {X:List Nx} {i:Nat}:bhAt X i↔∀z ∈ (X.getD i noNx).nd.kids,(i:Int)<z:=by
 unfold bhAt
 constructor
 ·intro h z hz
  obtain ⟨j,hj,rfl⟩:=List.getElem_of_mem hz
  have:=h j hj
  rw [List.getD_eq_getElem?_getD,List.getElem?_eq_getElem hj] at this
  simp only [Option.getD_some] at this
  omega
 ·intro h j hj
  have:=h _ (List.getElem_mem hj)
  rw [List.getD_eq_getElem?_getD,List.getElem?_eq_getElem hj]
  simp only [Option.getD_some]
  omega
theorem fow_of {X:List Nx} {r:Int} (hR:RightIs X r) (h0:r=0) (h:∀i,i<X.length→bhAt X i):FowIs X r:=⟨hR,h0,fun i hi=>bhAt_iff.1 (h i hi)⟩
theorem fow_no {X:List Nx} {r:Int} {i:Nat} (hi:i<X.length) (h:¬bhAt X i):¬FowIs X r:=fun q=>h (bhAt_iff.2 (q.2.2 i hi))
set_option maxRecDepth 10000 in
set_option maxHeartbeats 1000000 in
theorem ris16_any (X:List Nx) (a:Option Addr) (c:Nat) (r:Int) (w:World) (h:ScAt w a X) (hX:Small X) :
  Calls Tryz.prog 32 #[.agg #[.slice a X.length c,.int .i64 r]] w fun e w'=>FowOut X r w w' e:=by
 have HA0:Hid (AtN 24 (w.alloc (.cells #[.slice a X.length c,.int .i64 r] 24)) w.heap.size #[.slice a X.length c,.int .i64 r]):=AtN.new w 24 _
 have HB0:Hid (Below w.heap.size w (w.alloc (.cells #[.slice a X.length c,.int .i64 r] 24))):=(Below.refl _ _).alloc (Nat.le_refl _) _
 have HRt:Hid (∀W,Below w.heap.size w W→Calls Tryz.prog 43 #[.agg #[.slice a X.length c,.int .i64 r]] W fun e w'=>RightOut X r W w' e):=fun W hW=>right_any X a c r W (h.belowB hW) hX
 have HS:Hid _:=And.intro h hX
 have hn:=hX.1
 clear h hX
 go_enter Tryz.func32,Tryz.ntmps32
 go_wp2_with fail
 refine Calls.mono (HRt.out _ HB0.out) ?_
 rintro e w1 ⟨q,rfl,hq,hb1⟩
 have HA1:Hid (AtN 24 w1 w.heap.size #[.slice a X.length c,.int .i64 r]):=AtN.belowAll HA0.out hb1
 have HB1:Hid (Below w.heap.size w w1):=HB0.out.trans (hb1.mono HB0.out.size)
 have HQ:Hid (q=true↔RightIs X r):=hq
 clear HA0 HB0 HRt hb1 hq
 cases q with
 | false=>
  have HF:Hid (¬FowIs X r):=fun p=>absurd (HQ.out.2 p.1) (by simp)
  clear HQ HA1 HS
  go_wp2_with fail
  go_ret
  exact ⟨false,rfl,⟨fun p=>absurd p (by simp),fun p=>absurd p HF.out⟩,HB1.out⟩
 | true=>
  have HR:Hid (RightIs X r):=HQ.out.1 rfl
  have x0:w1.cell? ⟨w.heap.size,0,none⟩=some (.slice a X.length c):=HA1.out.cell 0
  have x1:w1.cell? ⟨w.heap.size,1,none⟩=some (.int .i64 r):=HA1.out.cell 1
  clear HQ
  by_cases hr:r=0
  ·subst hr
   go_wp2_with fail
   clear x0 x1
   go_loopw [3] (fun iv wr=>∃i:Nat,iv=.int .i64 i∧i≤X.length∧Hid (∀k,k<i→bhAt X k)∧AtN 24 wr w.heap.size #[.slice a X.length c,.int .i64 0]∧Below w.heap.size w wr) (fun iv _=>X.length-(intOf iv).toNat)
   case atStart=>exact ⟨0,rfl,by omega,fun k hk=>by omega,HA1.out,HB1.out⟩
   case round=>
    clear HA1 HB1
    obtain ⟨i,rfl,hi,HI,n1,hb⟩:=hrel
    have x0:wr.cell? ⟨w.heap.size,0,none⟩=some (.slice a X.length c):=n1.cell 0
    by_cases hlt:i<X.length
    ·have hlt':(i:Int)<X.length:=by omega
     have hk:(X.getD i noNx).nd.kids.length≤3000:=HS.out.2.kids hlt
     have HN:Hid _:=And.intro n1 hb
     clear n1 hb
     go_wp2_with fail
     go_loopw [4] (fun jv wr2=>∃j:Nat,jv=.int .i64 j∧j≤(X.getD i noNx).nd.kids.length∧Hid (∀k,k<j→¬(X.getD i noNx).nd.kids.getD k 0≤(i:Int))∧AtN 24 wr2 w.heap.size #[.slice a X.length c,.int .i64 0]∧Below w.heap.size w wr2) (fun jv _=>(X.getD i noNx).nd.kids.length-(intOf jv).toNat)
     case atStart=>exact ⟨0,rfl,by omega,fun k hk=>by omega,HN.out.1,HN.out.2⟩
     case round=>
      clear HN
      obtain ⟨j,rfl,hj,HJ,n1,hb⟩:=hrel
      have hs:=ScAt.belowB HS.out.1 hb
      have x0:wr.cell? ⟨w.heap.size,0,none⟩=some (.slice a X.length c):=n1.cell 0
      obtain ⟨b,o,rfl,hbl,d0,d1,d2,d3⟩:=hs.node hlt
      by_cases hjl:j<(X.getD i noNx).nd.kids.length
      ·have hjl':(j:Int)<(X.getD i noNx).nd.kids.length:=by omega
       obtain ⟨b2,o2,e2,hb2,d4⟩:=(hs.each i hlt).k.at (iV_at _ j hjl)
       rw [e2] at d3
       have HV:Hid (¬(X.getD i noNx).nd.kids.getD j 0≤(i:Int)→∀k,k<j+1→¬(X.getD i noNx).nd.kids.getD k 0≤(i:Int)):=fun P k hk=>by
        by_cases e:k=j
        ·rw [e];exact P
        ·exact HJ.out k (by omega)
       have HW:Hid ((X.getD i noNx).nd.kids.getD j 0≤(i:Int)→¬FowIs X 0):=fun q=>fow_no hlt fun g=>g j hjl q
       generalize (X.getD i noNx).nd.kids.getD j 0=K at *
       generalize hKL:(X.getD i noNx).nd.kids.length=KL at *
       generalize (X.getD i noNx).c3=c3 at *
       have HN:Hid _:=And.intro n1 hb
       clear n1 hb hs HI HJ HS
       by_cases hP:K≤(i:Int)
       ·have HW2:Hid (¬FowIs X 0):=HW.out hP
        clear HV HW
        go_wp2_with fail
        go_ret
        exact ⟨false,rfl,⟨fun p=>absurd p (by simp),fun p=>absurd p HW2.out⟩,HN.out.2⟩
       ·have HV2:Hid _:=HV.out hP
        have hP':¬K≤(i:Int):=hP
        clear HV HW
        go_wp2_with fail
        go_roundw
        case rel=>exact ⟨j+1,by go_num,by omega,HV2.out,HN.out.1,HN.out.2⟩
        case measure=>simp [intOf];omega
      ·have hjl':¬(j:Int)<(X.getD i noNx).nd.kids.length:=by omega
       have HV:Hid (∀k,k<i+1→bhAt X k):=fun k hk=>by
        by_cases e:k=i
        ·rw [e];exact fun q hq=>HJ.out q (by omega)
        ·exact HI.out k (by omega)
       have HN:Hid _:=And.intro n1 hb
       generalize (X.getD i noNx).nd.kids.length=KL at *
       clear n1 hb hs HI HJ HS
       go_wp2_with fail
       go_roundw
       case rel=>exact ⟨i+1,by go_num,by omega,HV.out,HN.out.1,HN.out.2⟩
       case measure=>simp [intOf];omega
    ·have hlt':¬(i:Int)<X.length:=by omega
     have HV:Hid (FowIs X 0):=fow_of HR.out rfl (fun k hk=>HI.out k (by omega))
     have HN:Hid _:=hb
     clear HI n1 hb HS HR
     go_wp2_with fail
     go_ret
     exact ⟨true,rfl,⟨fun _=>HV.out,fun _=>rfl⟩,HN.out⟩
  ·have HF:Hid (¬FowIs X r):=fun p=>hr p.2.1
   have hr':¬r=0:=hr
   clear HA1 HS HR
   go_wp2_with fail
   go_ret
   exact ⟨false,rfl,⟨fun p=>absurd p (by simp),fun p=>absurd p HF.out⟩,HB1.out⟩
set_option maxRecDepth 10000 in
set_option maxHeartbeats 1000000 in
theorem isfow_any (X:List Nx) (a:Option Addr) (c:Nat) (r:Int) (w:World) (h:ScAt w a X) (hX:Small X) (hR:RightIs X r) :
  Calls Tryz.prog 59 #[.agg #[.slice a X.length c,.int .i64 r]] w fun e w'=>FowOut X r w w' e:=by
 have HA0:Hid (AtN 24 (w.alloc (.cells #[.slice a X.length c,.int .i64 r] 24)) w.heap.size #[.slice a X.length c,.int .i64 r]):=AtN.new w 24 _
 have HB0:Hid (Below w.heap.size w (w.alloc (.cells #[.slice a X.length c,.int .i64 r] 24))):=(Below.refl _ _).alloc (Nat.le_refl _) _
 have HS:Hid _:=And.intro h hX
 have HR:Hid (RightIs X r):=hR
 have hn:=hX.1
 clear h hX hR
 by_cases hr:r=0
 ·subst hr
  go_enter Tryz.func59,Tryz.ntmps59
  go_wp2_with fail
  go_loopw [13] (fun iv wr=>∃i:Nat,iv=.int .i64 i∧i≤X.length∧Hid (∀k,k<i→bhAt X k)∧AtN 24 wr w.heap.size #[.slice a X.length c,.int .i64 0]∧Below w.heap.size w wr) (fun iv _=>X.length-(intOf iv).toNat)
  case atStart=>exact ⟨0,rfl,by omega,fun k hk=>by omega,HA0.out,HB0.out⟩
  case round=>
   clear HA0 HB0
   obtain ⟨i,rfl,hi,HI,n1,hb⟩:=hrel
   by_cases hlt:i<X.length
   ·have hlt':(i:Int)<X.length:=by omega
    have hk:(X.getD i noNx).nd.kids.length≤3000:=HS.out.2.kids hlt
    obtain ⟨b,o,rfl,hbl,d0,d1,d2,d3⟩:=(ScAt.belowB HS.out.1 hb).node hlt
    have HE:Hid (∀W,Below w.heap.size w W→LsAt W (X.getD i noNx).a3 (iV (X.getD i noNx).nd.kids)):=fun W hW=>((ScAt.belowB HS.out.1 hW).each i hlt).k
    have HO:Hid (bhAt X i↔∀j,j<(X.getD i noNx).nd.kids.length→¬(X.getD i noNx).nd.kids.getD j 0≤(i:Int)):=Iff.rfl
    generalize X.getD i noNx=N at *
    have HN:Hid _:=And.intro n1 hb
    have hbs:=hb.size
    clear n1 hb HS
    go_wp2_with fail
    go_loopw [21] (fun jv wr2=>∃j:Nat,jv=.int .i64 j∧j≤N.nd.kids.length∧Hid (∀k,k<j→¬N.nd.kids.getD k 0≤(i:Int))∧AtN 24 wr2 w.heap.size #[.slice (some ⟨b,o,none⟩) X.length c,.int .i64 0]∧Below w.heap.size w wr2) (fun jv _=>N.nd.kids.length-(intOf jv).toNat)
    case atStart=>exact ⟨0,rfl,by omega,fun k hk=>by omega,AtN.alloc HN.out.1 _,HN.out.2.alloc HN.out.2.size _⟩
    case round=>
     clear HN d0 d1 d2 d3 hbl hbs
     obtain ⟨j,rfl,hj,HJ,n1,hb⟩:=hrel
     by_cases hjl:j<N.nd.kids.length
     ·have hjl':(j:Int)<N.nd.kids.length:=by omega
      obtain ⟨b2,o2,e2,hb2,d4⟩:=(LsAt.at (HE.out wr hb) (iV_at _ j hjl))
      have HV:Hid (¬N.nd.kids.getD j 0≤(i:Int)→∀k,k<j+1→¬N.nd.kids.getD k 0≤(i:Int)):=fun P k hk=>by
       by_cases e:k=j
       ·rw [e];exact P
       ·exact HJ.out k (by omega)
      have HW:Hid (N.nd.kids.getD j 0≤(i:Int)→¬FowIs X 0):=fun q=>fow_no hlt fun g=>by have:=HO.out.1 g j hjl;omega
      generalize N.nd.kids.getD j 0=K at *
      rw [e2]
      have HN:Hid _:=And.intro n1 hb
      clear n1 hb HI HJ HE HO
      by_cases hP:K≤(i:Int)
      ·have HW2:Hid (¬FowIs X 0):=HW.out hP
       clear HV HW
       go_wp2_with fail
       go_ret
       exact ⟨false,rfl,⟨fun p=>absurd p (by simp),fun p=>absurd p HW2.out⟩,HN.out.2⟩
      ·have HV2:Hid _:=HV.out hP
       have hP':¬K≤(i:Int):=hP
       clear HV HW
       go_wp2_with fail
       go_roundw
       case rel=>exact ⟨j+1,by go_num,by omega,HV2.out,HN.out.1,HN.out.2⟩
       case measure=>simp [intOf];omega
     ·have hjl':¬(j:Int)<N.nd.kids.length:=by omega
      have HV:Hid (∀k,k<i+1→bhAt X k):=fun k hk=>by
       by_cases e:k=i
       ·rw [e];exact HO.out.2 fun q hq=>by have:=HJ.out q (by omega);omega
       ·exact HI.out k (by omega)
      have HN:Hid _:=And.intro n1 hb
      clear n1 hb HI HJ HE HO
      go_wp2_with fail
      go_roundw
      case rel=>exact ⟨i+1,by go_num,by omega,HV.out,HN.out.1,HN.out.2⟩
      case measure=>simp [intOf];omega
   ·have hlt':¬(i:Int)<X.length:=by omega
    have HV:Hid (FowIs X 0):=fow_of HR.out rfl (fun k hk=>HI.out k (by omega))
    have HN:Hid _:=hb
    clear HI n1 hb HS HR
    go_wp2_with fail
    go_ret
    exact ⟨true,rfl,⟨fun _=>HV.out,fun _=>rfl⟩,HN.out⟩
 ·have HF:Hid (¬FowIs X r):=fun p=>hr p.2.1
  have hr':¬r=0:=hr
  clear HS HR HA0
  go_enter Tryz.func59,Tryz.ntmps59
  go_wp2_with fail
  go_ret
  exact ⟨false,rfl,⟨fun p=>absurd p (by simp),fun p=>absurd p HF.out⟩,HB0.out⟩
set_option maxRecDepth 10000 in
set_option maxHeartbeats 1000000 in
theorem ois_any (X:List Nx) (a:Option Addr) (c:Nat) (r:Int) (w:World) (h:ScAt w a X) (hX:Small X) :
  Calls Tryz.prog 27 #[.agg #[.slice a X.length c,.int .i64 r]] w fun e w'=>FowOut X r w w' e:=by
 have HA0:Hid (AtN 24 (w.alloc (.cells #[.slice a X.length c,.int .i64 r] 24)) w.heap.size #[.slice a X.length c,.int .i64 r]):=AtN.new w 24 _
 have HB0:Hid (Below w.heap.size w (w.alloc (.cells #[.slice a X.length c,.int .i64 r] 24))):=(Below.refl _ _).alloc (Nat.le_refl _) _
 have HC:Hid (∀W,Below w.heap.size w W→Calls Tryz.prog 56 #[.agg #[.slice a X.length c,.int .i64 r]] W fun e w'=>CheckOut X r W w' e):=fun W hW=>check_any X a c r W (h.belowB hW) hX
 have HF:Hid (RightIs X r→∀W,Below w.heap.size w W→Calls Tryz.prog 59 #[.agg #[.slice a X.length c,.int .i64 r]] W fun e w'=>FowOut X r W w' e):=fun hR W hW=>isfow_any X a c r W (h.belowB hW) hX hR
 clear h hX
 go_enter Tryz.func27,Tryz.ntmps27
 go_wp2_with fail
 refine Calls.mono (HC.out _ HB0.out) ?_
 rintro e w1 ⟨k,y,rfl,hc,hb1⟩
 have HA1:Hid (AtN 24 w1 w.heap.size #[.slice a X.length c,.int .i64 r]):=AtN.belowAll HA0.out hb1
 have HB1:Hid (Below w.heap.size w w1):=HB0.out.trans (hb1.mono HB0.out.size)
 have HCI:Hid (CheckIs X r k y):=hc
 clear HA0 HB0 HC hb1 hc
 by_cases hk:k=0
 ·subst hk
  have hR:=HCI.out.right.1 rfl
  have HF1:Hid _:=HF.out hR w1 HB1.out
  have x0:w1.cell? ⟨w.heap.size,0,none⟩=some (.slice a X.length c):=HA1.out.cell 0
  have x1:w1.cell? ⟨w.heap.size,1,none⟩=some (.int .i64 r):=HA1.out.cell 1
  clear HF HCI HA1 hR
  go_wp2_with fail
  refine Calls.mono (Hid.out HF1) ?_
  rintro e w2 ⟨q,rfl,hq,hb2⟩
  have HB2:Hid (Below w.heap.size w w2):=HB1.out.trans (hb2.mono HB1.out.size)
  have HQ:Hid (q=true↔FowIs X r):=hq
  clear HF1 HB1 hb2 hq x0 x1
  go_wp2_with fail
  go_ret
  exact ⟨q,rfl,HQ.out,HB2.out⟩
 ·have HN:Hid (¬FowIs X r):=fun p=>hk (HCI.out.right.2 p.1)
  clear HF HCI HA1
  go_wp2_with fail
  go_ret
  exact ⟨false,rfl,⟨fun p=>absurd p (by simp),fun p=>absurd p HN.out⟩,HB1.out⟩
end Go.Proofs.YtgoffkfpdigeeaaGreatDoor
namespace Go.Proofs.YtgoffkfpdigeeaaGreatDoor
open Go.RowKit Go.Maps Go.WideMaps Go.Sort
theorem sec_at1 {W:World} {g:Nat} {R:ByteArray} (h:AtN 55 W g #[.int .i64 1,.string R]):SecAt W g 0 (oS R):=fun i hi=>by
 match i,hi with
 | 0,_=>exact ⟨h.lt,h.cell 0,h.cell 1⟩
def SoOut (X:List Nx) (r:Int) (l:Lm) (w w':World) (e:Ending):Prop:=∃(B:ByteArray) (k:Int),e=.returned (.tuple #[.string B,.int .i64 k])∧SoIs X r l B k∧Below w.heap.size w w'
set_option maxRecDepth 10000 in
set_option maxHeartbeats 1000000 in
theorem robytes_any (X:List Nx) (a:Option Addr) (c:Nat) (r:Int) (w:World) (h:ScAt w a X) (hX:Small X) (hF:FnX X) (hW:tyEo X=0) (hR:RightIs X r) (hz:(oC (X.map Nx.nd)).size≤4000000) :
  Calls Tryz.prog 19 #[.agg #[.slice a X.length c,.int .i64 r]] w fun e w'=>e=.returned (.string (oF (X.map Nx.nd)))∧Below w.heap.size w w':=by
 have HB0:Hid (Below w.heap.size w (w.alloc (.cells #[.slice a X.length c,.int .i64 r] 24))):=(Below.refl _ _).alloc (Nat.le_refl _) _
 have HC:Hid (∀W,Below w.heap.size w W→Calls Tryz.prog 49 #[.agg #[.slice a X.length c,.int .i64 r]] W fun e w'=>e=.returned (.string (oC (X.map Nx.nd)))∧Below W.heap.size W w'):=fun W hb=>rrec_any X a c r W (h.belowB hb) hX hF hW hR
 have HS:Hid (∀(W:World) (g:Nat),AtN 55 W g #[.int .i64 1,.string (oC (X.map Nx.nd))]→Calls Tryz.prog 23 #[.string ⟨#[68,73,79,82]⟩,.int .i64 1,.slice (some ⟨g,0,none⟩) 1 1] W fun e w'=>e=.returned (.tuple #[.string (oF (X.map Nx.nd)),.int .i64 0])∧Below W.heap.size W w'):=fun W g hs=>by
  have h:=rput_any mD 1 (some ⟨g,0,none⟩) 1 g 0 (oS (oC (X.map Nx.nd))) W (fun _=>rfl) (sec_at1 hs) (fun s q=>by
   simp only [oS,List.mem_cons,List.not_mem_nil,or_false] at q
   subst q
   exact hz)
  rw [oS_put (by omega)] at h
  exact h
 clear h hX hF hW hR hz
 generalize oF (X.map Nx.nd)=F at *
 generalize oC (X.map Nx.nd)=C at *
 go_enter Tryz.func19,Tryz.ntmps19
 go_wp2_with fail
 refine Calls.mono (HC.out _ HB0.out) ?_
 rintro e w2 ⟨rfl,hb1⟩
 have HB2:Hid (Below w.heap.size w w2):=HB0.out.trans (hb1.mono HB0.out.size)
 have HSc:Hid (∀o:Obj,o=.cells #[.int .i64 1,.string C] 55→Below w.heap.size w (w2.alloc o)∧Calls Tryz.prog 23 #[.string ⟨#[68,73,79,82]⟩,.int .i64 1,.slice (some ⟨w2.heap.size,0,none⟩) 1 1] (w2.alloc o) fun e w'=>e=.returned (.tuple #[.string F,.int .i64 0])∧Below (w2.alloc o).heap.size (w2.alloc o) w'):=by
  rintro _ rfl
  exact ⟨HB2.out.alloc HB2.out.size _,HS.out _ _ (AtN.new w2 55 _)⟩
 clear HB0 HC hb1 HS
 go_wp2_with fail
 obtain ⟨hb3,hc3⟩:=HSc.out _ rfl
 refine Calls.mono hc3 ?_
 rintro e w4 ⟨rfl,hb4⟩
 have HB4:Hid (Below w.heap.size w w4):=hb3.trans (hb4.mono hb3.size)
 clear HSc hb3 hc3 hb4
 go_wp2_with fail
 go_ret
 exact ⟨rfl,HB4.out⟩
set_option maxRecDepth 10000 in
set_option maxHeartbeats 1000000 in
theorem rosave_any (X:List Nx) (a:Option Addr) (c:Nat) (r:Int) (l:Lm) (w:World) (h:ScAt w a X) (hX:Small X) (hF:FnX X) (hz:tyEo X=0→RightIs X r→(oC (X.map Nx.nd)).size≤4000000) :
  Calls Tryz.prog 12 #[.agg #[.slice a X.length c,.int .i64 r],.agg #[.int .i64 l.b,.int .i64 l.n,.int .i64 l.e,.int .i64 l.d,.int .i64 l.x]] w fun e w'=>SoOut X r l w w' e:=by
 obtain ⟨d,hd⟩:=depth_there X r
 have HA:Hid (∀(o1 o2:Obj),o1=.cells #[.slice a X.length c,.int .i64 r] 24→o2=.cells #[.int .i64 l.b,.int .i64 l.n,.int .i64 l.e,.int .i64 l.d,.int .i64 l.x] 26→AtN 24 ((w.alloc o1).alloc o2) w.heap.size #[.slice a X.length c,.int .i64 r]∧AtN 26 ((w.alloc o1).alloc o2) (w.heap.size+1) #[.int .i64 l.b,.int .i64 l.n,.int .i64 l.e,.int .i64 l.d,.int .i64 l.x]∧Below w.heap.size w ((w.alloc o1).alloc o2)):=by
  rintro _ _ rfl rfl
  exact ⟨(AtN.new w 24 _).alloc _,mk_at (AtN.new (w.alloc _) 26 _) (show _=w.heap.size+1 by simp),((Below.refl w.heap.size w).alloc (Nat.le_refl _) _).alloc (by simp) _⟩
 have HV:Hid (∀W,Below w.heap.size w W→Calls Tryz.prog 31 #[.agg #[.slice a X.length c,.int .i64 r],.agg #[.int .i64 l.b,.int .i64 l.n,.int .i64 l.e,.int .i64 l.d,.int .i64 l.x]] W fun e w'=>VoOut X r l d W w' e):=fun W hW=>rvalid1_any X a c r l d W (h.belowB hW) hX hF hd
 have HIs:Hid (∀W,Below w.heap.size w W→Calls Tryz.prog 32 #[.agg #[.slice a X.length c,.int .i64 r]] W fun e w'=>FowOut X r W w' e):=fun W hW=>ris16_any X a c r W (h.belowB hW) hX
 have HBy:Hid (∀W,tyEo X=0→RightIs X r→Below w.heap.size w W→Calls Tryz.prog 19 #[.agg #[.slice a X.length c,.int .i64 r]] W fun e w'=>e=.returned (.string (oF (X.map Nx.nd)))∧Below W.heap.size W w'):=fun W hw hr hW=>robytes_any X a c r W (h.belowB hW) hX hF hw hr (hz hw hr)
 have HI:Hid (∀n z B e,VoIs X r l d n z→((n≠0∧e=n∧B=⟨#[]⟩)∨(n=0∧((¬FowIs X r∧e=16∧B=⟨#[]⟩)∨(FowIs X r∧((l.b<(oF (X.map Nx.nd)).size∧e=19∧B=⟨#[]⟩)∨(¬l.b<(oF (X.map Nx.nd)).size∧e=0∧B=oF (X.map Nx.nd)))))))→SoIs X r l B e):=fun n z B e h1 h2=>⟨d,n,z,hd,h1,h2⟩
 generalize oF (X.map Nx.nd)=F at *
 clear h hX hF hz hd
 go_enter Tryz.func12,Tryz.ntmps12
 go_wp2_with fail
 obtain ⟨h1,h2,h3⟩:=HA.out _ _ rfl rfl
 refine Calls.mono (HV.out _ h3) ?_
 rintro e w1 ⟨n,z,rfl,hv,hb1⟩
 have HS1:Hid (AtN 24 w1 w.heap.size #[.slice a X.length c,.int .i64 r]):=h1.belowAll hb1
 have HL1:Hid (AtN 26 w1 (w.heap.size+1) #[.int .i64 l.b,.int .i64 l.n,.int .i64 l.e,.int .i64 l.d,.int .i64 l.x]):=h2.belowAll hb1
 have HB1:Hid (Below w.heap.size w w1):=h3.trans (hb1.mono h3.size)
 have HVa:Hid (VoIs X r l d n z):=hv
 clear HA HV h1 h2 h3 hb1 hv
 by_cases hn:n=0
 ·subst hn
  have HW:Hid (okL l=true∧WhoO X r∧inL (meL X d) l=true):=HVa.out.zero.1 rfl
  have x0:w1.cell? ⟨w.heap.size,0,none⟩=some (.slice a X.length c):=HS1.out.cell 0
  have x1:w1.cell? ⟨w.heap.size,1,none⟩=some (.int .i64 r):=HS1.out.cell 1
  have HIc:Hid _:=HIs.out w1 HB1.out
  clear HIs
  go_wp2_with fail
  refine Calls.mono HIc.out ?_
  rintro e w2 ⟨q,rfl,hq,hb2⟩
  have HS2:Hid (AtN 24 w2 w.heap.size #[.slice a X.length c,.int .i64 r]):=HS1.out.belowAll hb2
  have HL2:Hid (AtN 26 w2 (w.heap.size+1) #[.int .i64 l.b,.int .i64 l.n,.int .i64 l.e,.int .i64 l.d,.int .i64 l.x]):=HL1.out.belowAll hb2
  have HB2:Hid (Below w.heap.size w w2):=HB1.out.trans (hb2.mono HB1.out.size)
  have HQ:Hid (q=true↔FowIs X r):=hq
  clear HIc HS1 HL1 HB1 hb2 hq x0 x1
  cases q with
  | false=>
   have HP:Hid (SoIs X r l ⟨#[]⟩ 16):=HI.out 0 z _ _ HVa.out (.inr ⟨rfl,.inl ⟨fun p=>absurd (HQ.out.2 p) (by simp),rfl,rfl⟩⟩)
   clear HI HVa HW HQ HBy
   go_wp2_with fail
   go_ret2
   exact ⟨_,_,rfl,HP.out,HB2.out⟩
  | true=>
   have HFw:Hid (FowIs X r):=HQ.out.1 rfl
   have x0:w2.cell? ⟨w.heap.size,0,none⟩=some (.slice a X.length c):=HS2.out.cell 0
   have x1:w2.cell? ⟨w.heap.size,1,none⟩=some (.int .i64 r):=HS2.out.cell 1
   have HBc:Hid _:=HBy.out w2 HW.out.2.1.1 HW.out.2.1.2 HB2.out
   clear HBy
   go_wp2_with fail
   refine Calls.mono HBc.out ?_
   rintro e w3 ⟨rfl,hb3⟩
   have HL3:Hid (AtN 26 w3 (w.heap.size+1) #[.int .i64 l.b,.int .i64 l.n,.int .i64 l.e,.int .i64 l.d,.int .i64 l.x]):=HL2.out.belowAll hb3
   have HB3:Hid (Below w.heap.size w w3):=HB2.out.trans (hb3.mono HB2.out.size)
   have y0:w3.cell? ⟨w.heap.size+1,0,none⟩=some (.int .i64 l.b):=HL3.out.cell 0
   clear HBc HS2 HL2 HB2 hb3 x0 x1
   by_cases hlt:l.b<(F.size:Int)
   ·have HP:Hid (SoIs X r l ⟨#[]⟩ 19):=HI.out 0 z _ _ HVa.out (.inr ⟨rfl,.inr ⟨HFw.out,.inl ⟨hlt,rfl,rfl⟩⟩⟩)
    clear HI HVa HW HQ HFw
    go_wp2_with fail
    go_ret2
    exact ⟨_,_,rfl,HP.out,HB3.out⟩
   ·have hlt':¬l.b<(F.size:Int):=hlt
    have HP:Hid (SoIs X r l F 0):=HI.out 0 z _ _ HVa.out (.inr ⟨rfl,.inr ⟨HFw.out,.inr ⟨by first|exact hlt|exact Int.not_lt.1 hlt,rfl,rfl⟩⟩⟩)
    clear HI HVa HW HQ HFw
    go_wp2_with fail
    go_ret2
    exact ⟨_,_,rfl,HP.out,HB3.out⟩
 ·have hn':(n != 0)=true:=by simpa using hn
  have HP:Hid (SoIs X r l ⟨#[]⟩ n):=HI.out n z _ _ HVa.out (.inl ⟨hn,rfl,rfl⟩)
  clear HI HVa HBy HIs
  go_wp2_with fail
  go_ret2
  exact ⟨_,_,rfl,HP.out,HB1.out⟩
end Go.Proofs.YtgoffkfpdigeeaaGreatDoor
namespace Go.Proofs.YtgoffkfpdigeeaaGreatDoor
open Go.ChangeShapes Go.WideShapes Go.ChangeAt Go.RowKit Go.Joins Go.Deep Go.Maps Go.WideMaps Go.Sort
structure Tabs16 (w:World):Prop where
 o:TabAt w 0 oldC
 s:TabAt w 1 spansC
theorem Tabs16.on {w w':World} (h:Tabs16 w) (hb:Below w.heap.size w w'):Tabs16 w':=⟨h.o.below hb,h.s.below hb⟩
def laid16:List (String × DataW Unit):=Rows.oldfileSavesRow.laid
theorem tO16:(Tryz.prog.globals[0]?).map (·.type)=some 210:=by kernel_rfl
theorem tS16:(Tryz.prog.globals[1]?).map (·.type)=some 222:=by kernel_rfl
theorem tabs16_of {W:World} (h:laidMetH Tryz.prog laid16 W):Tabs16 W:=by
 rw [MakeChecks.laidMetH_plain _ _ _ (by kernel_rfl)] at h
 obtain ⟨ps,⟨g0,t0,cs0,f0,p0,q0,hg0,ht0,hv0,hd0,⟨g1,t1,cs1,f1,p1,q1,hg1,ht1,hv1,hd1,_,_⟩,_⟩,_,_⟩:=h
 exact ⟨tab_of (n:=8) (by kernel_rfl) tO16 (by kernel_rfl) hg0 ht0 hv0 hd0,tab_of (n:=8) (by kernel_rfl) tS16 (by kernel_rfl) hg1 ht1 hv1 hd1⟩
theorem door16 (os:Os) (args:Array Value):laidMetH Tryz.prog laid16 ((World.doorLaid Tryz.prog 400 os).forCall (fun _ _=>0) ⟨#[],args,[]⟩).memory:=
 laidMetH_of_parts3 (fuel:=8) (laidMet_of_run' 8 (by kernel_rfl) (by kernel_rfl)) (by kernel_rfl) (by kernel_rfl)
end Go.Proofs.YtgoffkfpdigeeaaGreatDoor
