import Derived.Lib.QuietBelow
import Derived.BigQuiet
import Derived.Test.YtgoffkfpdigeeaaGreatDoorA04
namespace Go.Proofs.YtgoffkfpdigeeaaGreatDoor
open Go.RowKit Go.Maps Go.WideMaps
def isPb (n:Nat) (k:Int):Bool:=decide (0≤k∧k<n)
theorem isPb_yes {n:Nat} {k:Int} (h:0≤k∧k<n):isPb n k=true:=decide_eq_true h
theorem isPb_no {n:Nat} {k:Int} (h:¬(0≤k∧k<n)):isPb n k=false:=decide_eq_false h
theorem isPb_iff {n:Nat} {k:Int}:isPb n k=true↔0≤k∧k<n:=decide_eq_true_iff
def edg (X:List Nx):Nat:=(X.map fun x=>x.nd.kids.length).sum
theorem edg_take (X:List Nx) (i:Nat) (h:i<X.length):edg (X.take (i+1))=edg (X.take i)+(X.getD i noNx).nd.kids.length:=by
 unfold edg
 rw [List.take_add_one,List.getElem?_eq_getElem h,List.map_append,List.sum_append]
 simp [h]
def Few (X:List Nx):Prop:=X.length≤1401∧∀i,i<X.length→(X.getD i noNx).nd.kids.length≤1125899906842624
theorem edg_le (X:List Nx) (h:Few X):∀i,i≤X.length→edg (X.take i)≤i*1125899906842624
 | 0,_=>by simp [edg]
 | i+1,hi=>by
  rw [edg_take X i (by omega)]
  have:=edg_le X h i (by omega)
  have:=h.2 i (by omega)
  omega
set_option maxRecDepth 10000 in
set_option maxHeartbeats 400000 in
theorem isplace_any (k:Int) (n:Nat) (w:World) :
  Calls Tryz.prog 138 #[.int .i64 k,.int .i64 n] w fun e w'=>e=.returned (.bool (isPb n k))∧w'=w:=by
 by_cases h0:0≤k
 ·by_cases h1:k<n
  ·rw [isPb_yes ⟨h0,h1⟩]
   go_enter Tryz.func138,Tryz.ntmps138
   go_wp2
   go_ret
   exact ⟨rfl,rfl⟩
  ·rw [isPb_no (fun q=>h1 q.2)]
   go_enter Tryz.func138,Tryz.ntmps138
   go_wp2
   go_ret
   exact ⟨rfl,rfl⟩
 ·rw [isPb_no (fun q=>h0 q.1)]
  go_enter Tryz.func138,Tryz.ntmps138
  go_wp2
  go_ret
  exact ⟨rfl,rfl⟩
def Small (X:List Nx):Prop:=X.length≤1401∧∀i,i<X.length→big (X.getD i noNx).nd=false
theorem Small.few {X:List Nx} (h:Small X):Few X:=⟨h.1,fun i hi=>by have:=(big_no (h.2 i hi)).2.2.1;omega⟩
theorem Small.kids {X:List Nx} (h:Small X) {i:Nat} (hi:i<X.length):(X.getD i noNx).nd.kids.length≤3000:=(big_no (h.2 i hi)).2.2.1
set_option maxRecDepth 10000 in
set_option maxHeartbeats 400000 in
theorem edges_any (X:List Nx) (a:Option Addr) (c:Nat) (r:Int) (w:World) (h:ScAt w a X) (hX:Small X) :
  Calls Tryz.prog 107 #[.agg #[.slice a X.length c,.int .i64 r]] w fun e w'=>e=.returned (.int .i64 (edg X:Nat))∧Below w.heap.size w w':=by
 have HB:Hid _:=fun (o:Obj)=>(Below.refl w.heap.size w).alloc (Nat.le_refl _) o
 have HS:Hid _:=And.intro h hX
 have hn:=hX.1
 clear h hX
 go_enter Tryz.func107,Tryz.ntmps107
 go_wp2_with fail
 go_loopw [3,9] (fun nv iv wr=>∃(i z:Nat),iv=.int .i64 i∧nv=.int .i64 z∧i≤X.length∧Hid (z=edg (X.take i))∧Below w.heap.size w wr) (fun _ iv _=>X.length-(intOf iv).toNat)
 case atStart=>exact ⟨0,0,rfl,rfl,by omega,by simp [Hid,edg],HB.out _⟩
 case round=>
  obtain ⟨i,z,rfl,rfl,hi,HI,hb⟩:=hrel
  by_cases hlt:i<X.length
  ·have hlt':(i:Int)<X.length:=by omega
   obtain ⟨b,o,rfl,hbl,d0,d1,d2,d3⟩:=(ScAt.belowB HS.out.1 hb).node hlt
   have hk:(X.getD i noNx).nd.kids.length≤3000:=HS.out.2.kids hlt
   have hz:(z:Int)≤1577385769486516224:=by
    rw [HI.out]
    have:=edg_le X HS.out.2.few i (by omega)
    omega
   have HV:Hid (z+(X.getD i noNx).nd.kids.length=edg (X.take (i+1))):=by
    show _=_
    rw [HI.out,edg_take X i hlt]
   have hbs:=hb.size
   generalize X.getD i noNx=N at *
   generalize hK:N.nd.kids.length=K at *
   have HN:Hid _:=hb.alloc hbs
   clear HI hb HB HS
   go_wp2_with fail
   go_roundw
   case rel=>exact ⟨i+1,z+K,by go_num,by go_num,by omega,HV.out,HN.out _⟩
   case measure=>simp [intOf];omega
  ·have hlt':¬(i:Int)<X.length:=by omega
   have HV:Hid (z=edg X):=by
    show _=_
    rw [HI.out,List.take_of_length_le (by omega)]
   have HN:Hid _:=hb
   clear HI hb HB HS
   go_wp2_with fail
   go_ret
   rw [HV.out]
   exact ⟨rfl,HN.out⟩
end Go.Proofs.YtgoffkfpdigeeaaGreatDoor
namespace Go.Proofs.YtgoffkfpdigeeaaGreatDoor
open Go.RowKit Go.Maps Go.WideMaps Go.Sort
def okAt (X:List Nx) (i:Nat):Prop:=∀j,j<(X.getD i noNx).nd.kids.length→isPb X.length ((X.getD i noNx).nd.kids.getD j 0)=true
def FwIs (X:List Nx) (r z:Int) (b:Bool):Prop:=(isPb X.length r=false∧z = -1∧b=true)∨(isPb X.length r=true∧((b=false∧z=0∧∀i,i<X.length→okAt X i)∨(b=true∧∃i:Nat,i<X.length∧z=i∧¬okAt X i∧∀j,j<i→okAt X j)))
def FwOut (X:List Nx) (r:Int) (w w':World) (e:Ending):Prop:=∃z b,e=.returned (.tuple #[.int .i64 z,.bool b])∧FwIs X r z b∧Below w.heap.size w w'
set_option maxRecDepth 10000 in
set_option maxHeartbeats 400000 in
theorem firstwrong_any (X:List Nx) (a:Option Addr) (c:Nat) (r:Int) (w:World) (h:ScAt w a X) (hX:Small X) :
  Calls Tryz.prog 103 #[.agg #[.slice a X.length c,.int .i64 r]] w fun e w'=>FwOut X r w w' e:=by
 have HB:Hid _:=fun (o:Obj)=>(Below.refl w.heap.size w).alloc (Nat.le_refl _) o
 have HS:Hid _:=And.intro h hX
 have hn:=hX.1
 clear h hX
 by_cases hr:isPb X.length r=true
 ·go_enter Tryz.func103,Tryz.ntmps103
  go_wp2_with (go_at_call 138;refine (isplace_any _ _ _).mono ?_;rintro e w1 ⟨rfl,rfl⟩;rw [hr])
  go_loopw [18] (fun iv wr=>∃i:Nat,iv=.int .i64 i∧i≤X.length∧Hid (∀k,k<i→okAt X k)∧AtN 24 wr w.heap.size #[.slice a X.length c,.int .i64 r]∧Below w.heap.size w wr) (fun iv _=>X.length-(intOf iv).toNat)
  case atStart=>exact ⟨0,rfl,by omega,fun k hk=>by omega,AtN.new w 24 _,HB.out _⟩
  case round=>
   obtain ⟨i,rfl,hi,HI,n1,hb⟩:=hrel
   by_cases hlt:i<X.length
   ·have hlt':(i:Int)<X.length:=by omega
    have hk:(X.getD i noNx).nd.kids.length≤3000:=HS.out.2.kids hlt
    obtain ⟨b,o,rfl,hbl,d0,d1,d2,d3⟩:=(ScAt.belowB HS.out.1 hb).node hlt
    have HE:Hid (∀W,Below w.heap.size w W→LsAt W (X.getD i noNx).a3 (iV (X.getD i noNx).nd.kids)):=fun W hW=>((ScAt.belowB HS.out.1 hW).each i hlt).k
    have HO:Hid (okAt X i↔∀j,j<(X.getD i noNx).nd.kids.length→isPb X.length ((X.getD i noNx).nd.kids.getD j 0)=true):=Iff.rfl
    generalize X.getD i noNx=N at *
    have HN:Hid _:=And.intro n1 hb
    have hbs:=hb.size
    clear n1 hb HB HS
    go_wp2_with fail
    go_loopw [26] (fun jv wr2=>∃j:Nat,jv=.int .i64 j∧j≤N.nd.kids.length∧Hid (∀k,k<j→isPb X.length (N.nd.kids.getD k 0)=true)∧AtN 24 wr2 w.heap.size #[.slice (some ⟨b,o,none⟩) X.length c,.int .i64 r]∧Below w.heap.size w wr2) (fun jv _=>N.nd.kids.length-(intOf jv).toNat)
    case atStart=>exact ⟨0,rfl,by omega,fun k hk=>by omega,AtN.alloc HN.out.1 _,HN.out.2.alloc HN.out.2.size _⟩
    case round=>
     clear HN d0 d1 d2 d3 hbl hbs
     obtain ⟨j,rfl,hj,HJ,n1,hb⟩:=hrel
     have x0:wr.cell? ⟨w.heap.size,0,none⟩=some (.slice (some ⟨b,o,none⟩) X.length c):=n1.cell 0
     by_cases hjl:j<N.nd.kids.length
     ·have hjl':(j:Int)<N.nd.kids.length:=by omega
      obtain ⟨b2,o2,e2,hb2,d4⟩:=(LsAt.at (HE.out wr hb) (iV_at _ j hjl))
      have HV:Hid (∀P:isPb X.length (N.nd.kids.getD j 0)=true,∀k,k<j+1→isPb X.length (N.nd.kids.getD k 0)=true):=fun P k hk=>by
       by_cases e:k=j
       ·rw [e];exact P
       ·exact HJ.out k (by omega)
      have HW:Hid (¬(isPb X.length (N.nd.kids.getD j 0)=true)→FwIs X r (i:Nat) true):=fun q=>.inr ⟨hr,.inr ⟨rfl,i,hlt,rfl,fun g=>q (HO.out.1 g j hjl),HI.out⟩⟩
      generalize N.nd.kids.getD j 0=K at *
      rw [e2]
      have HN:Hid _:=And.intro n1 hb
      clear n1 hb HI HJ HE HO
      by_cases hP:isPb X.length K=true
      ·have HV2:Hid _:=HV.out hP
       clear HV HW
       go_wp2_with (go_at_call 138;refine (isplace_any _ _ _).mono ?_;rintro e w1 ⟨rfl,rfl⟩;rw [hP])
       go_roundw
       case rel=>exact ⟨j+1,by go_num,by omega,HV2.out,HN.out.1,HN.out.2⟩
       case measure=>simp [intOf];omega
      ·have HW2:Hid (FwIs X r (i:Nat) true):=HW.out hP
       have hP':isPb X.length K=false:=by simpa using hP
       clear HV HW hP
       go_wp2_with (go_at_call 138;refine (isplace_any _ _ _).mono ?_;rintro e w1 ⟨rfl,rfl⟩;rw [hP'])
       go_ret2
       exact ⟨_,_,rfl,HW2.out,HN.out.2⟩
     ·have hjl':¬(j:Int)<N.nd.kids.length:=by omega
      have HV:Hid (∀k,k<i+1→okAt X k):=fun k hk=>by
       by_cases e:k=i
       ·rw [e];exact HO.out.2 fun q hq=>HJ.out q (by omega)
       ·exact HI.out k (by omega)
      have HN:Hid _:=And.intro n1 hb
      clear n1 hb HI HJ HE HO
      go_wp2_with fail
      go_roundw
      case rel=>exact ⟨i+1,by go_num,by omega,HV.out,HN.out.1,HN.out.2⟩
      case measure=>simp [intOf];omega
   ·have hlt':¬(i:Int)<X.length:=by omega
    have HV:Hid (FwIs X r 0 false):=.inr ⟨hr,.inl ⟨rfl,rfl,fun k hk=>HI.out k (by omega)⟩⟩
    have HN:Hid _:=hb
    clear HI n1 hb HB HS
    go_wp2_with fail
    go_ret2
    exact ⟨_,_,rfl,HV.out,HN.out⟩
 ·have hr':isPb X.length r=false:=by simpa using hr
  go_enter Tryz.func103,Tryz.ntmps103
  go_wp2_with (go_at_call 138;refine (isplace_any _ _ _).mono ?_;rintro e w1 ⟨rfl,rfl⟩;rw [hr'])
  go_ret2
  exact ⟨_,_,rfl,.inl ⟨hr',rfl,rfl⟩,HB.out _⟩
end Go.Proofs.YtgoffkfpdigeeaaGreatDoor
namespace Go.Proofs.YtgoffkfpdigeeaaGreatDoor
open Go.RowKit Go.Maps Go.WideMaps Go.Sort
def lnOf (x:Nx):Ln:=⟨x.nd.kids.map Int.toNat,x.a3,x.c3⟩
theorem lnOf_cell (x:Nx):Value.slice (lnOf x).a (lnOf x).ks.length (lnOf x).c=.slice x.a3 x.nd.kids.length x.c3:=by simp [lnOf]
theorem nV_toNat {n:Nat} (l:List Int) (h:∀j,j<l.length→isPb n (l.getD j 0)=true):nV (l.map Int.toNat)=iV l:=by
 unfold nV iV
 rw [List.map_map]
 refine List.map_congr_left fun k hk=>?_
 obtain ⟨j,hj,rfl⟩:=List.getElem_of_mem hk
 have:=isPb_iff.1 (h j hj)
 rw [show l.getD j 0=l[j] by simp [hj]] at this
 simp only [Function.comp]
 rw [Int.toNat_of_nonneg this.1]
def lks (X:List Nx):List Ln:=X.map lnOf
theorem lks_length (X:List Nx):(lks X).length=X.length:=by simp [lks]
theorem lks_at (X:List Nx) (i:Nat) (h:i<X.length):(lks X).getD i noLn=lnOf (X.getD i noNx):=by simp [lks,h]
def kX (X:List Nx):List (List Nat):=kOf (lks X)
theorem kX_length (X:List Nx):(kX X).length=X.length:=by simp [kX,kOf,lks]
theorem kX_at (X:List Nx) (i:Nat) (h:i<X.length):(kX X).getD i []=(X.getD i noNx).nd.kids.map Int.toNat:=by
 rw [kX,kOf_at,lks_at X i h]
 rfl
theorem kX_ok {X:List Nx} (h:∀i,i<X.length→okAt X i):Ok9 (kX X):=by
 intro a b e
 have ha:a<X.length:=by have:=e.lt;rwa [kX_length] at this
 unfold Ed at e
 rw [kX_at X a ha] at e
 obtain ⟨k,hk,rfl⟩:=List.mem_map.1 e
 obtain ⟨j,hj,rfl⟩:=List.getElem_of_mem hk
 have:=isPb_iff.1 (h a ha j hj)
 rw [show (X.getD a noNx).nd.kids.getD j 0=(X.getD a noNx).nd.kids[j] by rw [List.getD_eq_getElem?_getD,List.getElem?_eq_getElem hj];rfl] at this
 rw [kX_length]
 omega
theorem Tryz.infoL9:(Tryz.prog.info? 49).map (fun i=>(i.zero,i.size,i.bytes))=some (some (.slice none 0 0),1,24):=by kernel_rfl
def filled (vs:List Value) (n:Nat) (z:Value):Array Value:=(vs++List.replicate (n-vs.length) z).toArray
theorem filled_new (n:Nat) (z:Value) (hz:z.cells=#[z]):madeCells z.cells (n*1)=filled [] n z:=by
 apply Array.ext
 ·simp [size_madeCells,filled]
 ·intro i h1 h2
  have h0:i % 1=0:=Nat.mod_one i
  simp [madeCells,filled,hz,h0]
theorem filled_set (vs:List Value) (n:Nat) (z v:Value) (h:vs.length<n):(filled vs n z).setIfInBounds vs.length v=filled (vs++[v]) n z:=by
 unfold filled
 rw [show n-vs.length=(n-(vs++[v]).length)+1 by simp;omega,List.replicate_succ]
 apply Array.ext'
 simp
theorem filled_all (vs:List Value) (n:Nat) (z:Value) (h:vs.length=n):filled vs n z=vs.toArray:=by
 unfold filled
 rw [h]
 simp
theorem AtN.lsQ {T:TypeId} {w:World} {g:Nat} {vs:List Value} (h:AtN T w g vs.toArray):LsQ (fun b=>b=g) w (some ⟨g,0,none⟩) vs:=
 ⟨g,0,fun _=>rfl,fun i hi=>⟨⟨rfl,h.lt⟩,by rw [Nat.zero_add,h.cell i];simp⟩⟩
def KidsOut (X:List Nx) (w w':World) (e:Ending):Prop:=∃a,e=.returned (.slice a (lks X).length (lks X).length)∧LkQ (fun _=>True) w' a (lks X)∧Below w.heap.size w w'
set_option maxRecDepth 10000 in
set_option maxHeartbeats 400000 in
theorem kids_any (X:List Nx) (a:Option Addr) (c:Nat) (r:Int) (w:World) (h:ScAt w a X) (hX:Small X) (hok:∀i,i<X.length→okAt X i) :
  Calls Tryz.prog 104 #[.agg #[.slice a X.length c,.int .i64 r]] w fun e w'=>KidsOut X w w' e:=by
 have HS:Hid _:=And.intro h (And.intro hX hok)
 have hn:=hX.1
 obtain ⟨i1,hi1,hz10,hz11,hz12⟩:=info_parts Tryz.infoL9
 have hmk:(Instr.makeSlice 147 (.int .i64 (X.length:Int)) (.int .i64 (X.length:Int))).run Tryz.prog (w.alloc (.cells #[.slice a X.length c,.int .i64 r] 24))=.ok (.slice (some ⟨w.heap.size+1,0,none⟩) X.length X.length) ((w.alloc (.cells #[.slice a X.length c,.int .i64 r] 24)).alloc (.cells (filled [] X.length (.slice none 0 0)) 49)):=by
  have:=run_make (P:=Tryz.prog) (w.alloc (.cells #[.slice a X.length c,.int .i64 r] 24)) 147 49 i1 (.slice none 0 0) Tryz.underlying147 hi1 hz10 .i64 .i64 X.length X.length (by omega) (by omega) (by rw [hz12];omega) (by omega)
  rw [hz11,Int.toNat_natCast,filled_new _ _ rfl] at this
  simpa using this
 have HB:Hid (Below w.heap.size w ((w.alloc (.cells #[.slice a X.length c,.int .i64 r] 24)).alloc (.cells (filled [] X.length (.slice none 0 0)) 49))):=((Below.refl w.heap.size w).alloc (Nat.le_refl _) _).alloc (by simp) _
 have HA:Hid (AtN 49 ((w.alloc (.cells #[.slice a X.length c,.int .i64 r] 24)).alloc (.cells (filled [] X.length (.slice none 0 0)) 49)) (w.heap.size+1) (filled [] X.length (.slice none 0 0))):=mk_at (AtN.new _ 49 _) (by simp)
 have hsz:(w.alloc (.cells #[.slice a X.length c,.int .i64 r] 24)).heap.size=w.heap.size+1:=by simp
 have HF:Hid (filled [] X.length (.slice none 0 0)=filled (lnV ((lks X).take 0)) X.length (.slice none 0 0)):=by
  show _=_
  simp [lnV]
 clear h hX hok
 generalize filled [] X.length (.slice none 0 0)=f0 at *
 go_enter Tryz.func104,Tryz.ntmps104
 go_wp2_with fail
 go_loopw [13] (fun iv wr=>∃i:Nat,iv=.int .i64 i∧i≤X.length∧AtN 49 wr (w.heap.size+1) (filled (lnV ((lks X).take i)) X.length (.slice none 0 0))∧Below w.heap.size w wr) (fun iv _=>X.length-(intOf iv).toNat)
 case atStart=>exact ⟨0,rfl,by omega,HF.out ▸ HA.out,HB.out⟩
 case round=>
  clear HF HA HB hmk hsz
  obtain ⟨i,rfl,hi,n1,hb⟩:=hrel
  by_cases hlt:i<X.length
  ·have hlt':(i:Int)<X.length:=by omega
   obtain ⟨b,o,rfl,hbl,d0,d1,d2,d3⟩:=(ScAt.belowB HS.out.1 hb).node hlt
   have hlen:(lnV ((lks X).take i)).length=i:=by rw [lnV_length,List.length_take,lks_length];omega
   have HV:Hid ((filled (lnV ((lks X).take i)) X.length (.slice none 0 0)).setIfInBounds i (.slice (X.getD i noNx).a3 (X.getD i noNx).nd.kids.length (X.getD i noNx).c3)=filled (lnV ((lks X).take (i+1))) X.length (.slice none 0 0)):=by
    have:=filled_set (lnV ((lks X).take i)) X.length (.slice none 0 0) (.slice (X.getD i noNx).a3 (X.getD i noNx).nd.kids.length (X.getD i noNx).c3) (by rw [hlen];exact hlt)
    rw [hlen] at this
    show _=_
    rw [this,← lnOf_cell,List.take_add_one,List.getElem?_eq_getElem (by rw [lks_length];exact hlt)]
    congr 1
    simp [lnV,lks,hlt]
   have y0:∃v,wr.cell? ⟨w.heap.size+1,i,none⟩=some v:=by
    rw [n1.cell i]
    exact ⟨_,Array.getElem?_eq_getElem (by simp [filled,hlen];omega)⟩
   obtain ⟨v0,y0⟩:=y0
   have yf:=n1.fz i
   have hbs:=hb.size
   have hgl:=n1.lt
   generalize X.getD i noNx=N at *
   have HN:Hid _:=And.intro n1 hb
   have y1:=fun o=>(AtN.alloc n1 o).fz i
   have y2:∀o,(wr.alloc o).cell? ⟨w.heap.size+1,i,none⟩=some v0:=fun o=>by rw [← y0,(AtN.alloc n1 o).cell,n1.cell]
   clear n1 hb HS hlen yf
   go_wp2_with fail
   go_roundw
   case rel=>
    refine ⟨i+1,by go_num,by omega,?_,?_⟩
    ·rw [← HV.out]
     exact AtN.alloc (AtN.set HN.out.1 i _) _
    ·exact (set_below HN.out.2 _ (by show w.heap.size≤w.heap.size+1;omega) _).alloc (by simpa [World.setCell] using hbs) _
   case measure=>simp [intOf];omega
  ·have hlt':¬(i:Int)<X.length:=by omega
   have HN:Hid (AtN 49 wr (w.heap.size+1) (lnV (lks X)).toArray∧Below w.heap.size w wr):=by
    refine ⟨?_,hb⟩
    rw [← filled_all (lnV (lks X)) X.length (.slice none 0 0) (by rw [lnV_length,lks_length])]
    rw [List.take_of_length_le (by rw [lks_length];omega)] at n1
    exact n1
   clear n1 hb
   go_wp2_with fail
   go_ret
   refine ⟨some ⟨w.heap.size+1,0,none⟩,by rw [lks_length];rfl,⟨HN.out.1.lsQ.mono fun _ _ _=>trivial,fun k hk=>?_⟩,HN.out.2⟩
   rw [lks_length] at hk
   rw [lks_at X k hk]
   have:=((ScAt.belowB HS.out.1 HN.out.2).each k hk).k
   rw [← nV_toNat _ (HS.out.2.2 k hk)] at this
   exact this.toQ.mono fun _ _ _=>trivial
end Go.Proofs.YtgoffkfpdigeeaaGreatDoor
namespace Go.Proofs.YtgoffkfpdigeeaaGreatDoor
open Go.RowKit Go.Maps Go.WideMaps Go.Sort
def Lim (L:List Ln):Prop:=L.length≤1401∧∀i,i<L.length→(L.getD i noLn).ks.length≤5000000
theorem Small.lim {X:List Nx} (h:Small X):Lim (lks X):=by
 refine ⟨by rw [lks_length];exact h.1,fun i hi=>?_⟩
 rw [lks_length] at hi
 rw [lks_at X i hi]
 have:=h.kids hi
 unfold lnOf
 rw [List.length_map]
 omega
def WalkOut (L:List Ln) (g n:Nat) (M:List Nat) (f:Nat) (w w':World) (e:Ending):Prop:=
 ∃found a c,e=.returned (.slice a (List.length found) c)∧w'.ownsRow w.heap.size 3 1 (.slice a found.length c) found.length (nV found)∧WOut (kOf L) M f found∧Met w' g (n+found.length) (M++found)∧Fr (fun b=>b=g) w w'
section
variable {K:List (List Nat)} {M:List Nat} {f:Nat} {found:List Nat} {i j:Nat} {N:List Nat}
theorem WInv.skip' (h:WInv K M f found i j) (hN:K.getD (found.getD i 0) []=N) (hj:j<N.length) (hm:N.getD j 0 ∈ M++found):WInv K M f found i (j+1):=by
 subst hN
 exact h.skip hj (List.mem_append.1 hm)
theorem WInv.add' (h:WInv K M f found i j) (hk:Ok9 K) (hN:K.getD (found.getD i 0) []=N) (hi:i<found.length) (hj:j<N.length) (hm:N.getD j 0 ∉ M++found):WInv K M f (found++[N.getD j 0]) i (j+1)∧K.getD ((found++[N.getD j 0]).getD i 0) []=N:=by
 refine ⟨?_,by rw [getD_app hi];exact hN⟩
 subst hN
 exact h.add hk hi hj (fun q=>hm (List.mem_append_left _ q)) (fun q=>hm (List.mem_append_right _ q))
theorem WInv.next' (h:WInv K M f found i j) (hN:K.getD (found.getD i 0) []=N) (hi:i<found.length) (hj:N.length≤j):WInv K M f found (i+1) 0:=by
 subst hN
 exact h.next hi hj
end
set_option maxRecDepth 10000 in
set_option maxHeartbeats 800000 in
theorem walk_any {Q:Nat→Prop} (L:List Ln) (a:Option Addr) (c f g n:Nat) (M:List Nat) (w:World) (hl:LkQ Q w a L) (hQ:∀b,Q b→b≠g) (hm:Met w g n M) (hk:Ok9 (kOf L)) (hf:f<L.length) (hs:Lim L) (hn:n≤3000000) :
  Calls Tryz.prog 142 #[.slice a L.length c,.int .i64 f,.map (some g)] w fun e w'=>WalkOut L g n M f w w' e:=by
 obtain ⟨i0,hi,hz0,hz1,hz2⟩:=info_parts Tryz.infoI7
 have hL:=hs.1
 by_cases hfm:f ∈ M
 ·have hlk:=hm.look f (by omega)
  rw [decide_eq_true hfm] at hlk
  have HO:Hid (WalkOut L g n M f w w (.returned (.slice none 0 0))):=⟨[],none,0,rfl,⟨rfl,.inl ⟨rfl,rfl⟩⟩,WOut.none hfm,by simpa using hm,Fr.refl _ _⟩
  clear hm hl hfm
  go_enter Tryz.func142,Tryz.ntmps142
  go_wp2_with fail
  go_ret
  exact HO.out
 ·have hlk:=hm.look f (by omega)
  rw [decide_eq_false hfm] at hlk
  obtain ⟨w1,hup,hm1,hg1⟩:=hm.put f (by omega) (by unfold maxLen;omega)
  have hgl:=hm.lt
  have HL:Hid _:=And.intro hl (And.intro hQ (And.intro hk hs))
  have HI0:Hid (WInv (kOf L) M f [f] 0 0):=WInv.start hfm (by rw [kOf_length];exact hf)
  have F1:Hid (Fr (fun b=>b=g) w (w1.alloc (.cells #[.int .i64 (f:Int)] 3))):=(Fr.of_grown hg1 (fun k e=>(Option.some.inj e).symm)).alloc _
  have M1:Hid (Met (w1.alloc (.cells #[.int .i64 (f:Int)] 3)) g (n + [f].length) (M++[f])):=hm1.below ((Below.refl w1.heap.size w1).alloc (Nat.le_refl _) _)
  have hsz1:=hg1.size
  have O1:Hid ((w1.alloc (.cells #[.int .i64 (f:Int)] 3)).ownsRow w.heap.size 3 1 (.slice (some ⟨w1.heap.size,0,none⟩) [f].length 1) [f].length (nV [f])):=World.ownsRow_lit w1 #[.int .i64 (f:Int)] 1 hsz1 (by decide) (by simp)
  clear hl hQ hk hm hm1 hg1 hfm hs
  go_enter Tryz.func142,Tryz.ntmps142
  go_wp2_with fail
  go_loopw [7,8] (fun fv iv wr=>∃(found:List Nat) (i r cap:Nat),fv=.slice (some ⟨r,0,none⟩) found.length cap∧iv=.int .i64 i∧Hid (WInv (kOf L) M f found i 0)∧Hid (wr.ownsRow w.heap.size 3 1 (.slice (some ⟨r,0,none⟩) found.length cap) found.length (nV found))∧Hid (Met wr g (n+found.length) (M++found))∧Hid (Fr (fun b=>b=g) w wr)) (fun _ iv _=>L.length-(intOf iv).toNat)
  case atStart=>exact ⟨[f],0,w1.heap.size,1,rfl,rfl,HI0,O1,M1,F1⟩
  case round=>
   clear HI0 O1 M1 F1 hup hlk hsz1
   obtain ⟨found,i,r,cap,rfl,rfl,HI,HO,HM,HF⟩:=hrel
   have hle:=HI.out.le
   have hlen:found.length≤L.length:=by have:=HI.out.len;rwa [kOf_length] at this
   by_cases hlt:i<found.length
   ·have hlt':(i:Int)<found.length:=by omega
    obtain ⟨at_,hat⟩:∃at_,found.getD i 0=at_:=⟨_,rfl⟩
    have hal:at_<L.length:=by have:=HI.out.lt at_ (hat ▸ getD_mem hlt);rwa [kOf_length] at this
    have d0:wr.cell? ⟨r,i,none⟩=some (.int .i64 (at_:Int)):=by
     rw [HO.out.cellAt i (by omega),nV_at found i hlt,hat]
    obtain ⟨b1,o1,rfl,hb1,d1⟩:=(HL.out.1.fr HF.out (fun b q _ e=>HL.out.2.1 b q e)).top.at (lnV_at L at_ hal)
    have HE:Hid (∀W,Fr (fun b=>b=g) w W→LsQ Q W (L.getD at_ noLn).a (nV (L.getD at_ noLn).ks)):=fun W hW=>(HL.out.1.fr hW (fun b q _ e=>HL.out.2.1 b q e)).each at_ hal
    have HK:Hid ((kOf L).getD (found.getD i 0) []=(L.getD at_ noLn).ks):=by
     show _=_
     rw [hat,kOf_at]
    have hkl:(L.getD at_ noLn).ks.length≤5000000:=HL.out.2.2.2.2 at_ hal
    have HP:Hid (∀k ∈ (L.getD at_ noLn).ks,k<1401):=fun k hk=>by
     have:=HL.out.2.2.1 at_ k (by unfold Ed;rw [kOf_at];exact hk)
     rw [kOf_length] at this
     omega
    have HOk:Hid (Ok9 (kOf L)):=HL.out.2.2.1
    generalize L.getD at_ noLn=N at *
    have hal':(at_:Int)<L.length:=by omega
    clear HL
    go_wp2_with fail
    go_loopw [7,32] (fun fv jv wr=>∃(found:List Nat) (j r cap:Nat),fv=.slice (some ⟨r,0,none⟩) found.length cap∧jv=.int .i64 j∧j≤N.ks.length∧i<found.length∧Hid ((kOf L).getD (found.getD i 0) []=N.ks)∧Hid (WInv (kOf L) M f found i j)∧Hid (wr.ownsRow w.heap.size 3 1 (.slice (some ⟨r,0,none⟩) found.length cap) found.length (nV found))∧Hid (Met wr g (n+found.length) (M++found))∧Hid (Fr (fun b=>b=g) w wr)) (fun _ jv _=>N.ks.length-(intOf jv).toNat)
    case atStart=>exact ⟨found,0,r,cap,rfl,rfl,by omega,hlt,HK,HI,HO,HM,HF⟩
    case round=>
     clear HI HO HM HF HK d0 d1 hat hlt hlt' hle hlen hb1
     obtain ⟨found,j,r,cap,rfl,rfl,hj,hlt,HK,HI,HO,HM,HF⟩:=hrel
     have hlen:found.length≤L.length:=by have:=HI.out.len;rwa [kOf_length] at this
     by_cases hjl:j<N.ks.length
     ·have hjl':(j:Int)<N.ks.length:=by omega
      obtain ⟨b2,o2,e2,hb2,d2⟩:=LsQ.at (HE.out wr HF.out) (nV_at N.ks j hjl)
      have hk60:=HP.out _ (getD_mem hjl)
      have hlk:=HM.out.look (N.ks.getD j 0) (by omega)
      rw [e2]
      by_cases hin:N.ks.getD j 0 ∈ M++found
      ·have HI2:Hid (WInv (kOf L) M f found i (j+1)):=HI.out.skip' HK.out hjl hin
       rw [decide_eq_true hin] at hlk
       generalize N.ks.getD j 0=k at *
       clear HI HE HP hin
       go_wp2_with fail
       go_roundw
       case rel=>exact ⟨found,j+1,r,cap,rfl,by go_num,by omega,hlt,HK,HI2,HO,HM,HF⟩
       case measure=>simp [intOf];omega
      ·have HI2:Hid (WInv (kOf L) M f (found++[N.ks.getD j 0]) i (j+1)∧(kOf L).getD ((found++[N.ks.getD j 0]).getD i 0) []=N.ks):=HI.out.add' HOk.out HK.out hlt hjl hin
       rw [decide_eq_false hin] at hlk
       obtain ⟨w3,hup,hm3,hg3⟩:=HM.out.put (N.ks.getD j 0) (by omega) (by unfold maxLen;omega)
       generalize N.ks.getD j 0=k at *
       have hwr:=HF.out.size
       have O3:Hid (w3.ownsRow w.heap.size 3 1 (.slice (some ⟨r,0,none⟩) found.length cap) found.length (nV found)):=own_fr HO.out (Fr.of_grown (S:=fun b=>b=g) hg3 (fun k e=>(Option.some.inj e).symm)) (fun q hq=>by
        have:=(HO.out.lt q hq).1
        omega)
       have M3:Hid (Met w3 g (n+(found++[k]).length) (M++(found++[k]))):=by
        show Met _ _ _ _
        rw [List.length_append,List.length_singleton,← Nat.add_assoc,← List.append_assoc]
        exact hm3
       have F3:Hid (Fr (fun b=>b=g) w w3):=HF.out.trans (Fr.of_grown (S:=fun b=>b=g) hg3 (fun k e=>(Option.some.inj e).symm)) (fun _ q _=>q)
       have hs3:=hg3.size
       have hg:=HM.out.lt
       clear HI HE HP hin HM HF HO hm3 hg3
       go_wp2_with (at_builtin;refine wpList_append_lies _ rfl (.tmp 42) (.tmp 44) 49 rfl w.heap.size 3 i0 (.int .i64 0) 1 8 Tryz.underlying49 hi hz0 hz1 hz2 rfl (by decide) _ found.length (nV found) rfl (O3.out.alloc _) ⟨w3.heap.size,0,none⟩ 1 1 [.int .i64 (k:Int)] rfl rfl (cell_one_new _ _ _) (by intro u hu;simp at hu;subst hu;rfl) (by decide) (by unfold maxLen;omega) (by omega) (by simp;omega) _ rfl ?_)
       intro g2 cap2 w4 hown4 hgrow4 hlie hlt4
       have O4:Hid (w4.ownsRow w.heap.size 3 1 (.slice (some ⟨g2,0,none⟩) (found++[k]).length cap2) (found++[k]).length (nV (found++[k]))):=by
        show World.ownsRow _ _ _ _ _ _ _
        rw [nV_snoc,List.length_append]
        exact hown4
       have hr:w.heap.size≤r:=(O3.out.lt r rfl).1
       have F34:Hid (Fr (fun b=>b=r) (w3.alloc (.cells #[.int .i64 (k:Int)] 3)) w4):=Fr.of_grown hgrow4 (fun q e=>by simpa [Value.ownBlock] using e.symm)
       have M4:Hid (Met w4 g (n+(found++[k]).length) (M++(found++[k]))):=(M3.out.below ((Below.refl w3.heap.size w3).alloc (Nat.le_refl _) _)).fr F34.out (by omega)
       have F4:Hid (Fr (fun b=>b=g) w w4):=(F3.out.alloc _).trans F34.out (fun q e hq=>by omega)
       clear hown4 hgrow4 O3 M3 F3 F34 hup hlk
       go_wp2_with fail
       go_roundw
       case rel=>exact ⟨found++[k],j+1,g2,cap2,by simp,by go_num,by omega,by simp;omega,HI2.out.2,HI2.out.1,O4,M4,F4⟩
       case measure=>simp [intOf];omega
     ·have hjl':¬(j:Int)<N.ks.length:=by omega
      have HI2:Hid (WInv (kOf L) M f found (i+1) 0):=HI.out.next' HK.out hlt (by omega)
      clear HI HE HP HK
      go_wp2_with fail
      go_roundw
      case rel=>exact ⟨found,i+1,r,cap,rfl,by go_num,HI2,HO,HM,HF⟩
      case measure=>simp [intOf];omega
   ·have hlt':¬(i:Int)<found.length:=by omega
    have HW:Hid (WOut (kOf L) M f found):=HI.out.fin (by omega)
    clear HI HL
    go_wp2_with fail
    go_ret
    exact ⟨found,_,_,rfl,HO.out,HW.out,HM.out,HF.out⟩
end Go.Proofs.YtgoffkfpdigeeaaGreatDoor
