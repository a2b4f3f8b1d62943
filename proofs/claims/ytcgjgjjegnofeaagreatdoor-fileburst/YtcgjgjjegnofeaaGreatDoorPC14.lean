import Derived.Laws.OwnMore
import Derived.Deep.AppendLies
import Derived.Lib.QuietBelow
import Derived.BigQuiet
import Derived.Deep.QuietTactic
import Derived.Test.YtcgjgjjegnofeaaGreatDoorPC08
import Derived.Test.YtcgjgjjegnofeaaGreatDoorPC09
import Derived.Test.YtcgjgjjegnofeaaGreatDoorPC11
import Derived.Test.YtcgjgjjegnofeaaGreatDoorPC07
import Derived.Test.YtcgjgjjegnofeaaGreatDoorPC13
namespace Go.Proofs.YtcgjgjjegnofeaaGreatDoor
open Go.RowKit
def body6 (L:List ByteArray):List UInt8:=L.flatMap fun s=>put s.size++s.data.toList
def pPut6 (L:List ByteArray):List UInt8:=put L.length++body6 L
theorem body6_append (L M:List ByteArray):body6 (L++M)=body6 L++body6 M:=by simp [body6]
theorem body6_take (L:List ByteArray) (i:Nat) (h:i<L.length):body6 (L.take (i+1))=body6 (L.take i)++(put L[i].size++L[i].data.toList):=by
 rw [List.take_add_one,List.getElem?_eq_getElem h,body6_append]
 simp [body6]
theorem body6_le (L:List ByteArray):(body6 L).length≤sum6 L+10*L.length:=by
 induction L with
 | nil=>simp [body6]
 | cons x r ih=>
  have h1:=(put_length x.size).2
  have h2:(body6 (x :: r)).length=(put x.size).length+x.size+(body6 r).length:=by
   have:x.data.toList.length=x.size:=by rw [Array.length_toList];rfl
   simp only [body6,List.flatMap_cons,List.length_append,this]
  have h3:sum6 (x :: r)=x.size+sum6 r:=by simp [sum6]
  rw [h2,h3,List.length_cons]
  omega
def right5 (s:ByteArray):Bool:=decide ((read s.data.toList).2=s.size)
def gets6 (b:ByteArray) (M:Int):Nat→Nat→List ByteArray→Int × List ByteArray × Nat
 | 0,k,xs=>(0,xs,k)
 | n+1,k,xs=>
  if (pText b k 0 (M-(sum6 xs:Nat))).2.2≠0 then ((pText b k 0 (M-(sum6 xs:Nat))).2.2,[],0)
  else if right5 (pText b k 0 (M-(sum6 xs:Nat))).1=false then (11,[],0)
  else if idx6 (pText b k 0 (M-(sum6 xs:Nat))).1 xs<xs.length then (17,[],0)
  else gets6 b M n (pText b k 0 (M-(sum6 xs:Nat))).2.1 (xs++[(pText b k 0 (M-(sum6 xs:Nat))).1])
def pGet6 (b:ByteArray) (texts bytes:Int):Int × List ByteArray:=
 if (pUint b 0 0 (max texts 0)).2.2≠0 then ((pUint b 0 0 (max texts 0)).2.2,[])
 else if (gets6 b (max bytes 0) (pUint b 0 0 (max texts 0)).1.toNat (pUint b 0 0 (max texts 0)).2.1 []).1≠0 then ((gets6 b (max bytes 0) (pUint b 0 0 (max texts 0)).1.toNat (pUint b 0 0 (max texts 0)).2.1 []).1,[])
 else if (gets6 b (max bytes 0) (pUint b 0 0 (max texts 0)).1.toNat (pUint b 0 0 (max texts 0)).2.1 []).2.2<b.size then (8,[])
 else (0,(gets6 b (max bytes 0) (pUint b 0 0 (max texts 0)).1.toNat (pUint b 0 0 (max texts 0)).2.1 []).2.1)
end Go.Proofs.YtcgjgjjegnofeaaGreatDoor
namespace Go.Proofs.YtcgjgjjegnofeaaGreatDoor
open Go.RowKit
theorem pText_step (b:ByteArray) (k:Nat) (m:Int) (hk:k≤b.size) (h:(pText b k 0 m).2.2=0):k+1+(pText b k 0 m).1.size≤(pText b k 0 m).2.1∧(pText b k 0 m).2.1≤b.size:=by
 unfold pText at h ⊢
 rw [if_neg (by simp)] at h ⊢
 by_cases h1:(num b k).2.2≠0
 ·rw [if_pos h1] at h
  simp at h
  omega
 ·rw [if_neg h1] at h ⊢
  obtain ⟨n1,n2,n3⟩:=num_ok b k (by omega) hk
  by_cases h2:max m 0<(num b k).1∨16777216<(num b k).1
  ·rw [if_pos h2] at h
   simp at h
  ·rw [if_neg h2] at h ⊢
   by_cases h3:(b.size:Int)-(k+(num b k).2.1:Nat)<(num b k).1
   ·rw [if_pos h3] at h
    simp at h
   ·rw [if_neg h3]
    dsimp only
    rw [ByteArray.size_extract]
    omega
theorem TGot.nil (w w':World) (n:Int) (h:Below w.heap.size w w'):TGot w w' (.returned (.tuple #[.slice none 0 0,.int .i64 n])) [] n:=
 ⟨none,0,0,0,rfl,fun h=>by simp at h,fun i hi=>by simp at hi,Nat.le_refl _,fun _=>rfl,h⟩
theorem pUint_val (b:ByteArray) (k:Nat) (m:Int):0≤(pUint b k 0 m).1∧(pUint b k 0 m).1≤16777216∧((pUint b k 0 m).2.2≠0→(pUint b k 0 m).1=0):=by
 unfold pUint
 rw [if_neg (by simp)]
 split
 ·exact ⟨Int.le_refl _,by dsimp only;omega,fun _=>rfl⟩
 ·split
  ·exact ⟨Int.le_refl _,by dsimp only;omega,fun _=>rfl⟩
  ·dsimp only
   exact ⟨by omega,by omega,fun h=>by simp at h⟩
theorem gets6_step (b:ByteArray) (M:Int) (n k:Nat) (xs:List ByteArray) (t:ByteArray × Nat × Int) (ht:t=pText b k 0 (M-(sum6 xs:Nat))) :
  gets6 b M (n+1) k xs=if t.2.2≠0 then (t.2.2,[],0) else if right5 t.1=false then (11,[],0) else if idx6 t.1 xs<xs.length then (17,[],0) else gets6 b M n t.2.1 (xs++[t.1]):=by
 rw [ht];rfl
end Go.Proofs.YtcgjgjjegnofeaaGreatDoor
namespace Go.Proofs.YtcgjgjjegnofeaaGreatDoor
open Go.RowKit Go.Maps Go.WideMaps
theorem put_nat (n:Nat) (w:World) (hn:n≤18446744073709551615):∃X:ByteArray,X.data.toList=put n∧X.size≤10∧
  Calls Tryz.prog 64 #[.int .u64 (n:Int)] w fun e w'=>e=.returned (.string X)∧Below w.heap.size w w':=by
 refine ⟨⟨(put n).toArray⟩,by simp,?_,?_⟩
 ·have h:=(put_length n).2
  show (put n).toArray.size≤10
  simpa using h
 ·have h:=put_any (n:Int) w (by omega) (by omega)
  rw [Int.toNat_natCast] at h
  exact h
set_option maxRecDepth 10000 in
set_option maxHeartbeats 400000 in
theorem tput_any {w:World} {B g gm:Nat} {v:Value} {L:List ByteArray} (h:Tb w B g gm v L) (hs:L.length≤200000) (hm:sum6 L≤1000000000) :
  Calls Tryz.prog 66 #[.pointer (some ⟨g,0,none⟩)] w fun e w'=>e=.returned (.string ⟨(pPut6 L).toArray⟩)∧Below w.heap.size w w':=by
 obtain ⟨ao,cap,rfl⟩:=own_shape6 h.own
 obtain ⟨gk,hga,hL⟩:=own_texts h.own rfl
 have hglt:=h.cells.lt
 have c0:=h.cells.c0
 have HC:=h.cells
 clear h
 have HT:Hid ((∀i (h:i<L.length),body6 (L.take (i+1))=body6 (L.take i)++(put L[i].size++L[i].data.toList))∧body6 (L.take L.length)=body6 L):=⟨fun i h=>body6_take L i h,by rw [List.take_length]⟩
 have HM:Hid (∀i,(body6 (L.take i)).length≤1002000000):=fun i=>by
  have h1:sum6 L=sum6 (L.take i)+sum6 (L.drop i):=by rw [← sum6_append,List.take_append_drop]
  have h2:=body6_le (L.take i)
  have h3:(L.take i).length≤L.length:=by rw [List.length_take];omega
  omega
 have hS:∀i (h:i<L.length),L[i].size≤1000000000:=fun i h=>by
  have h1:sum6 L=sum6 (L.take (i+1))+sum6 (L.drop (i+1)):=by rw [← sum6_append,List.take_append_drop]
  rw [sum6_take L i h] at h1
  omega
 have HB0:=Bu.new w
 have B0:Below w.heap.size w (w.alloc (.cells #[.pointer none,.slice none 0 0] 102)):=(Below.refl _ _).alloc (Nat.le_refl _) _
 have z0:=put_length L.length
 obtain ⟨X0,d0,hz0,P0⟩:=put_nat L.length (w.alloc (.cells #[.pointer none,.slice none 0 0] 102)) (by omega)
 have HP0:Hid _:=P0
 have H0:Hid (X0.data.toList=put L.length):=d0
 clear P0 d0
 go_enter Tryz.func66,Tryz.ntmps66
 go_wp2_with fail
 refine Calls.mono HP0.out ?_
 rintro e w1 ⟨rfl,b1⟩
 have HB1:=HB0.below b1
 have B1:Below w.heap.size w w1:=B0.trans (b1.mono B0.size)
 clear HP0 HB0 B0 b1
 go_wp2_with fail
 refine (wstr_any w.heap.size w.heap.size [] X0 w1 HB1 (by simp;omega) B1.size).mono ?_
 rintro e w2 ⟨rfl,HB2,b2,-⟩
 have B2:=B1.trans b2
 rw [List.nil_append] at HB2
 clear HB1 B1 b2
 have c2:=(HC.below B2 hglt).c0
 go_wp2_with fail
 go_loopw [19] (fun iv wr=>∃(i:Nat) (X:List UInt8),iv=.int .i64 i∧i≤L.length∧X.length≤1003000000∧X≠[]∧Hid (X=X0.data.toList++body6 (L.take i))∧Bu w.heap.size w.heap.size X wr∧Below w.heap.size w wr) (fun iv _=>L.length-(intOf iv).toNat)
 case atStart=>exact ⟨0,X0.data.toList,rfl,by omega,by rw [H0.out];omega,by rw [H0.out];exact fun e=>by rw [e] at z0;simp at z0,by simp [Hid,body6],HB2,B2⟩
 case round=>
  clear HB2 B2 c2 c0
  obtain ⟨i,X,rfl,hi,hX,hne,HX,hBu,hB⟩:=hrel
  by_cases hlt:i<L.length
  ·obtain rfl:=hga (by omega)
   obtain ⟨hbl,c0⟩:=hL i hlt
   have hbr:gk<wr.heap.size:=Nat.lt_of_lt_of_le hbl hB.size
   rw [← (bcell hB).1 gk _ hbl] at c0
   rw [Nat.zero_add] at c0
   have hsi:=hS i hlt
   have hx:=HT.out.1 i hlt
   have hle:=HM.out (i+1)
   have HQ:Hid (X++(put L[i].size++L[i].data.toList)=X0.data.toList++body6 (L.take (i+1))):=by show _=_;rw [hx,HX.out,List.append_assoc]
   clear HX
   generalize L[i]=c at *
   obtain ⟨Y,dY,zY,PY⟩:=put_nat c.size wr (by omega)
   have HP:Hid _:=PY
   rw [← dY] at HQ
   have hlen:(X++(Y.data.toList++c.data.toList)).length≤1003000000:=by
    rw [HQ.out,List.length_append,list_size]
    omega
   have hq1:X.length+Y.size≤140737488355328:=by omega
   have hq2:(X++Y.data.toList).length+c.size≤140737488355328:=by rw [List.length_append,list_size];omega
   have HL:Hid _:=hlen
   have hc':(c.size:Int)≤1000000000:=by omega
   clear PY dY hx hle hlen
   go_wp2_with fail
   refine Calls.mono HP.out ?_
   rintro e w3 ⟨rfl,b3⟩
   have HB3:=hBu.below b3
   have B3:=hB.trans (b3.mono hB.size)
   clear HP b3 hBu
   go_wp2_with fail
   refine (wstr_any w.heap.size w.heap.size X Y w3 HB3 hq1 B3.size).mono ?_
   rintro e w4 ⟨rfl,HB4,b4,-⟩
   have B4:=B3.trans b4
   clear HB3 B3 b4
   go_wp2_with fail
   refine (wstr_any w.heap.size w.heap.size _ c w4 HB4 hq2 B4.size).mono ?_
   rintro e w5 ⟨rfl,HB5,b5,-⟩
   have B5:=B4.trans b5
   clear HB4 B4 b5
   rw [List.append_assoc] at HB5
   go_wp2_with fail
   go_roundw
   case rel=>exact ⟨i+1,_,by go_num,by omega,HL.out,by simp [hne],HQ.out,HB5,B5⟩
   case measure=>simp [intOf];omega
  ·have HQ:Hid (pPut6 L=X):=by
    have h1:=HX.out
    rw [show i=L.length by omega,HT.out.2,H0.out] at h1
    exact h1.symm
   clear HX HT
   go_wp2_with fail
   refine (bstr_any w.heap.size w.heap.size X wr hBu hne).mono ?_
   rintro e w3 ⟨rfl,b3⟩
   go_wp2_with fail
   go_ret
   rw [HQ.out]
   exact ⟨rfl,hB.trans b3⟩
end Go.Proofs.YtcgjgjjegnofeaaGreatDoor
