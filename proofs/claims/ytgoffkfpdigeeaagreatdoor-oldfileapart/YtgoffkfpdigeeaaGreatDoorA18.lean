import Derived.Test.YtgoffkfpdigeeaaGreatDoorRows
import Derived.Lib.BufferMore
import Derived.Deep.AppendLies
import Derived.Deep.RegionLaw
import Derived.Laws.OwnMore
import Derived.Deep.QuietTactic
import Derived.BigQuiet
import Derived.Test.YtgoffkfpdigeeaaGreatDoorA01
import Derived.Test.YtgoffkfpdigeeaaGreatDoorA06
namespace Go.Proofs.YtgoffkfpdigeeaaGreatDoor
def hlv (x:Nat):Nat:=if x % 2=1 then (x / 2) ^^^ 3988292384 else x / 2
def hlvs:Nat→Nat→Nat
 | 0,x=>x
 | k+1,x=>hlvs k (hlv x)
theorem hlv_lt (x:Nat) (h:x<4294967296):hlv x<4294967296:=by
 unfold hlv
 split
 ·exact Nat.xor_lt_two_pow (n:=32) (by show _<4294967296;omega) (by decide)
 ·omega
theorem hlvs_lt (k x:Nat) (h:x<4294967296):hlvs k x<4294967296:=by
 induction k generalizing x with
 | zero=>exact h
 | succ k ih=>exact ih _ (hlv_lt x h)
def reg (x:Nat):List UInt8→Nat
 | []=>x
 | c :: r=>reg (hlvs 8 (x ^^^ c.toNat)) r
theorem reg_append (x:Nat) (a b:List UInt8):reg x (a++b)=reg (reg x a) b:=by
 induction a generalizing x with
 | nil=>rfl
 | cons c r ih=>exact ih _
theorem reg_lt (x:Nat) (l:List UInt8) (h:x<4294967296):reg x l<4294967296:=by
 induction l generalizing x with
 | nil=>exact h
 | cons c r ih=>exact ih _ (hlvs_lt _ _ (Nat.xor_lt_two_pow (n:=32) h (by have:=c.toNat_lt;show _<4294967296;omega)))
def crc (l:List UInt8):Nat:=4294967295-reg 4294967295 l
theorem crc_lt (l:List UInt8):crc l<4294967296:=by unfold crc;omega
def lnum:List UInt8→Nat
 | []=>0
 | c :: r=>c.toNat+256*lnum r
theorem num_lt (l:List UInt8):lnum l<2 ^ (8*l.length):=by
 induction l with
 | nil=>simp [lnum]
 | cons c r ih=>
  have e:2 ^ (8*(c :: r).length)=256*2 ^ (8*r.length):=by
   rw [show 8*(c :: r).length=8*r.length+8 by simp;omega,Nat.pow_add,Nat.mul_comm]
  have:=c.toNat_lt
  rw [lnum,e]
  omega
theorem num_inj (a b:List UInt8) (hl:a.length=b.length) (h:lnum a=lnum b):a=b:=by
 induction a generalizing b with
 | nil=>cases b with
  | nil=>rfl
  | cons=>simp at hl
 | cons c r ih=>cases b with
  | nil=>simp at hl
  | cons d s=>
   have h1:=c.toNat_lt
   have h2:=d.toNat_lt
   simp only [lnum] at h
   have h3:c.toNat=d.toNat:=by omega
   rw [UInt8.toNat_inj.1 h3,ih s (by simpa using hl) (by omega)]
theorem turn_xor (x:Nat) (h:x<4294967296):4294967295-x=4294967295 ^^^ x:=by
 apply Nat.eq_of_testBit_eq
 intro i
 have e1:=Nat.testBit_two_pow_sub_succ (n:=32) (x:=x) h i
 have e2:=Nat.testBit_two_pow_sub_one 32 i
 rw [show (4294967295:Nat)-x=2 ^ 32-(x+1) by omega,e1,Nat.testBit_xor,show (4294967295:Nat)=2 ^ 32-1 from rfl,e2]
 by_cases hi:i<32
 ·simp [hi]
 ·rw [Nat.testBit_lt_two_pow (x:=x) (Nat.lt_of_lt_of_le h (show 2 ^ 32≤2 ^ i from Nat.pow_le_pow_right (by decide) (by omega)))]
  simp [hi]
end Go.Proofs.YtgoffkfpdigeeaaGreatDoor
namespace Go.Proofs.YtgoffkfpdigeeaaGreatDoor
end Go.Proofs.YtgoffkfpdigeeaaGreatDoor
namespace Go.Proofs.YtgoffkfpdigeeaaGreatDoor
open Go.RowKit
theorem xor32 (a b:Nat) (ha:a<4294967296) (hb:b<4294967296):bits .xor .u32 (a:Int) (b:Int)=((a ^^^ b:Nat):Int):=by
 have h:=u32_xor (a:Int) (b:Int) (by omega) (by omega) (by omega) (by omega)
 simpa using h
theorem xor32_lt {a b:Nat} (ha:a<4294967296) (hb:b<4294967296):a ^^^ b<4294967296:=Nat.xor_lt_two_pow (n:=32) ha hb
theorem hlv_odd (y:Nat) (h:y % 2=1):hlv y=y / 2 ^^^ 3988292384:=by unfold hlv;rw [if_pos h]
theorem hlv_even (y:Nat) (h:¬y % 2=1):hlv y=y / 2:=by unfold hlv;rw [if_neg h]
theorem hlvs_left (k y:Nat) (h:k<8):hlvs (8-k) y=hlvs (8-(k+1)) (hlv y):=by
 rw [show 8-k=(8-(k+1))+1 by omega];rfl
set_option maxRecDepth 10000 in
set_option maxHeartbeats 400000 in
theorem refstep_to (x c z:Nat) (w:World) (hx:x<4294967296) (hc:c<256) (HZ:Hid (x ^^^ c=z)) :
  Calls Tryz.prog 100 #[.int .u32 x,.int .u8 c] w fun e w'=>e=.returned (.int .u32 (hlvs 8 z:Nat))∧w'=w:=by
 have k0:IntKind.u32.wrap (c:Int)=c:=by rw [IntKind.wrap_u32'];omega
 have k1:=xor32 x c hx (by omega)
 have hlt:x ^^^ c<4294967296:=xor32_lt hx (by omega)
 rw [HZ.out] at k1 hlt
 go_enter Tryz.func100,Tryz.ntmps100
 go_wp2
 clear k0 k1
 go_loop [0,5] (fun xv kv=>∃(y k:Nat),xv=.int .u32 y∧kv=.int .i64 k∧k≤8∧y<4294967296∧Hid (hlvs (8-k) y=hlvs 8 z)) (fun _ kv=>8-(intOf kv).toNat)
 case atStart=>exact ⟨z,0,rfl,rfl,by omega,hlt,rfl⟩
 case round=>
  obtain ⟨y,k,rfl,rfl,hk,hy,HE⟩:=hrel
  by_cases hk8:k<8
  ·have HL:Hid (hlvs (8-(k+1)) (hlv y)=hlvs 8 z):=by show _=_;rw [← hlvs_left k y hk8];exact HE.out
   have hl:=hlv_lt y hy
   by_cases ho:y % 2=1
   ·have k2:(y:Int) % 2=1:=by omega
    have k4:bits .xor .u32 ((y:Int) / 2) 3988292384=((hlv y:Nat):Int):=by
     have h:=xor32 (y / 2) 3988292384 (by omega) (by omega)
     rw [hlv_odd y ho,← h]
     rfl
    clear HE ho
    generalize hlv y=v at *
    go_wp2
    go_round
    case rel=>exact ⟨v,k+1,by go_num,by go_num,by omega,hl,HL⟩
    case measure=>simp [intOf];omega
   ·have k2:(y:Int) % 2=0:=by omega
    have k5:(y:Int) / 2=((hlv y:Nat):Int):=by rw [hlv_even y ho];omega
    clear HE ho
    generalize hlv y=v at *
    go_wp2
    go_round
    case rel=>exact ⟨v,k+1,by go_num,by go_num,by omega,hl,HL⟩
    case measure=>simp [intOf];omega
  ·obtain rfl:k=8:=by omega
   have HY:Hid (y=hlvs 8 z):=HE.out
   clear HE
   go_wp2
   go_ret
   refine ⟨?_,rfl⟩
   rw [← HY.out]
   rfl
theorem refstep_any (x c:Nat) (w:World) (hx:x<4294967296) (hc:c<256) :
  Calls Tryz.prog 100 #[.int .u32 x,.int .u8 c] w fun e w'=>e=.returned (.int .u32 (hlvs 8 (x ^^^ c):Nat))∧w'=w:=
 refstep_to x c _ w hx hc rfl
set_option maxRecDepth 10000 in
set_option maxHeartbeats 400000 in
theorem refsum_any (b:ByteArray) (w:World) (hb:b.size≤281474976710656) :
  Calls Tryz.prog 54 #[.string b] w fun e w'=>e=.returned (.int .u32 (crc b.data.toList:Nat))∧w'=w:=by
 go_enter Tryz.func54,Tryz.ntmps54
 go_wp2
 go_loop [3,4] (fun xv iv=>∃(x i:Nat),xv=.int .u32 x∧iv=.int .i64 i∧i≤b.size∧x<4294967296∧Hid (reg x (b.data.toList.drop i)=reg 4294967295 b.data.toList)) (fun _ iv=>b.size-(intOf iv).toNat)
 case atStart=>exact ⟨4294967295,0,rfl,rfl,by omega,by omega,rfl⟩
 case round=>
  obtain ⟨x,i,rfl,rfl,hi,hx,HE⟩:=hrel
  by_cases hlt:i<b.size
  ·have HN:Hid (reg (hlvs 8 (x ^^^ b[i].toNat)) (b.data.toList.drop (i+1))=reg 4294967295 b.data.toList):=by
    have h:=HE.out
    rw [drop_atB b i hlt] at h
    exact h
   have hc:=b[i].toNat_lt
   have hn:=hlvs_lt 8 _ (xor32_lt hx (show b[i].toNat<4294967296 by omega))
   have HS:Hid (∀W:World,Calls Tryz.prog 100 #[.int .u32 x,.int .u8 (b[i].toNat:Int)] W fun e w'=>e=.returned (.int .u32 (hlvs 8 (x ^^^ b[i].toNat):Nat))∧w'=W):=fun W=>refstep_any x b[i].toNat W hx hc
   generalize hlvs 8 (x ^^^ b[i].toNat)=v at *
   clear HE
   go_wp2_with fail
   refine (HS.out _).mono ?_
   rintro e w' ⟨rfl,rfl⟩
   go_wp2_with fail
   go_round
   case rel=>exact ⟨v,i+1,by go_num,by go_num,by omega,hn,HN⟩
   case measure=>simp [intOf];omega
  ·have HX:Hid (crc b.data.toList=4294967295-x):=by
    have h:=HE.out
    rw [drop_end b i (by omega)] at h
    show crc _=_
    unfold crc
    rw [← h]
    rfl
   clear HE
   have k1:IntKind.u32.wrap (4294967295-(x:Int))=((4294967295-x:Nat):Int):=by rw [IntKind.wrap_u32'];omega
   go_wp2
   go_ret
   refine ⟨?_,rfl⟩
   rw [HX.out]
   rfl
end Go.Proofs.YtgoffkfpdigeeaaGreatDoor
namespace Go.Proofs.YtgoffkfpdigeeaaGreatDoor
open Go.RowKit
def BRow (w:World) (e:TypeId) (g:Nat) (l:List UInt8):Prop:=∃cs:Array Value,w.heap[g]? = some (.cells cs e (cs.size,cs.size+1))∧l.length≤cs.size∧cs.toList.take l.length=bV l
theorem BRow.lt {w:World} {e:TypeId} {g:Nat} {l:List UInt8} (h:BRow w e g l):g<w.heap.size:=by
 obtain ⟨cs,h1,_⟩:=h
 exact (Array.getElem?_eq_some_iff.1 h1).1
theorem BRow.new (w:World) (e:TypeId) (s:ByteArray) (cap:Nat):BRow (w.drew.alloc (.cells (bytesRow s cap) e ((bytesRow s cap).size,(bytesRow s cap).size+1))) e w.heap.size s.data.toList:=by
 refine ⟨bytesRow s cap,heap_alloc_new w.drew _,?_,?_⟩
 ·unfold bytesRow;simp
 ·unfold bytesRow bV
  rw [Array.toList_append,List.take_append_of_le_length (by simp),List.take_of_length_le (by simp)]
  simp
theorem BRow.cell {w:World} {e:TypeId} {g:Nat} {l:List UInt8} (h:BRow w e g l) (j:Nat) (hj:j<l.length):w.cell? ⟨g,j,none⟩=some (.int .u8 (l[j].toNat:Int)):=by
 obtain ⟨cs,h1,h2,h3⟩:=h
 rw [cell_of_row w g j cs e _ h1]
 have h4:=congrArg (fun z=>z[j]?) h3
 simp only [List.getElem?_take,if_pos hj,bV,List.getElem?_map,List.getElem?_eq_getElem hj] at h4
 simpa using h4
theorem BRow.set {w:World} {e:TypeId} {g:Nat} {l:List UInt8} (h:BRow w e g l) (j:Nat) (c:UInt8):BRow (w.setCell ⟨g,j,none⟩ (.int .u8 (c.toNat:Int))) e g (l.set j c):=by
 obtain ⟨cs,h1,h2,h3⟩:=h
 refine ⟨cs.setIfInBounds j (.int .u8 (c.toNat:Int)),?_,by simpa using h2,?_⟩
 ·rw [Array.size_setIfInBounds]
  exact Lib.heap_setCell_same h1 _
 ·rw [Array.toList_setIfInBounds,List.length_set,List.take_set,h3]
  simp [bV,List.map_set]
theorem BRow.conv {P:Program} {w:World} {g:Nat} {l:List UInt8} (src dst e:TypeId) (hs:P.underlying src=some (.slice e)) (he:P.underlying e=some (.int .u8)) (hd:P.underlying dst=some .string) (h:BRow w e g l) (cap:Nat) :
  (convert src dst (.slice (some ⟨g,0,none⟩) l.length cap)).run P w=.ok (.string ⟨l.toArray⟩) w:=by
 refine run_convert_bytes_back w src dst e ⟨g,0,none⟩ cap l hs he hd ?_
 intro j hj
 have hadd:(⟨g,0,none⟩:Addr).add j=⟨g,j,none⟩:=by unfold Addr.add;split <;> simp_all
 rw [hadd]
 exact h.cell j hj
end Go.Proofs.YtgoffkfpdigeeaaGreatDoor
namespace Go.Proofs.YtgoffkfpdigeeaaGreatDoor
open Go.RowKit
theorem cinfo5:(Tryz.prog.info? 5).map (fun i=>(i.zero,i.size,i.bytes))=some (some (.int .u8 0),1,1):=by kernel_rfl
theorem conv_row {P:Program} {w:World} {base:Nat} {l:List UInt8} {g cap:Nat} (src dst e:TypeId) (hs:P.underlying src=some (.slice e)) (he:P.underlying e=some (.int .u8)) (hd:P.underlying dst=some .string)
  (h:w.ownsRow base e 1 (.slice (some ⟨g,0,none⟩) l.length cap) l.length (bV l)) :
  (convert src dst (.slice (some ⟨g,0,none⟩) l.length cap)).run P w=.ok (.string ⟨l.toArray⟩) w:=by
 refine run_convert_bytes_back w src dst e ⟨g,0,none⟩ cap l hs he hd ?_
 intro j hj
 have hadd:(⟨g,0,none⟩:Addr).add j=⟨g,j,none⟩:=by unfold Addr.add;split <;> simp_all
 rw [hadd,h.cellAt j (by omega)]
 simp [bV,hj]
def four (n:Nat):List UInt8:=[UInt8.ofNat (n % 256),UInt8.ofNat (n / 256 % 256),UInt8.ofNat (n / 65536 % 256),UInt8.ofNat (n / 16777216 % 256)]
theorem four_take (n k:Nat) (h:k<4):(four n).take (k+1)=(four n).take k++[UInt8.ofNat (n / 256 ^ k % 256)]:=by
 match k,h with
 | 0,_=>simp [four]
 | 1,_=>simp [four]
 | 2,_=>simp [four]
 | 3,_=>simp [four]
set_option maxRecDepth 10000 in
set_option maxHeartbeats 400000 in
theorem refput4_any (n:Nat) (w:World) (hn:n<4294967296) :
  Calls Tryz.prog 53 #[.int .u32 n] w fun e w'=>e=.returned (.string ⟨(four n).toArray⟩)∧Below w.heap.size w w':=by
 obtain ⟨i0,hi,hz0,hz1,hz2⟩:=info_parts cinfo5
 have hown0:(w.alloc (.cells #[] 5)).ownsRow w.heap.size 5 1 (.slice (some ⟨w.heap.size,0,none⟩) 0 0) 0 []:=World.ownsRow_lit w #[] 0 (Nat.le_refl _) (by decide) (by simp)
 have hbel:Below w.heap.size w (w.alloc (.cells #[] 5)):=(Below.refl _ _).alloc (Nat.le_refl _) _
 go_enter Tryz.func53,Tryz.ntmps53
 go_wp2_with fail
 go_loopw [0,3,4] (fun nv ov kv wr=>∃(m k g cap:Nat) (xs:List UInt8),nv=.int .u32 m∧ov=.slice (some ⟨g,0,none⟩) k cap∧kv=.int .i64 k∧k≤4∧m<4294967296∧Hid (m=n / 256 ^ k)∧Hid (xs.length=k)∧wr.ownsRow w.heap.size 5 1 (.slice (some ⟨g,0,none⟩) k cap) k (bV xs)∧Hid (xs=(four n).take k)∧Below w.heap.size w wr) (fun _ _ kv _=>4-(intOf kv).toNat)
 case atStart=>exact ⟨n,0,_,_,[],rfl,rfl,rfl,by omega,hn,by simp [Hid],rfl,hown0,rfl,hbel⟩
 case round=>
  clear hown0 hbel
  obtain ⟨m,k,g,cap,xs,rfl,rfl,rfl,hk,hm,HM,HL,hown,HX,hB⟩:=hrel
  by_cases hlt:k<4
  ·have HN:Hid (xs++[UInt8.ofNat (m % 256)]=(four n).take (k+1)):=by show _=_;rw [four_take n k hlt,HX.out,HM.out]
   have HQ:Hid (m / 256=n / 256 ^ (k+1)):=by show _=_;rw [HM.out,Nat.div_div_eq_div_mul,← Nat.pow_succ]
   have k1:(m:Int) % 256=((m % 256:Nat):Int):=by omega
   have k2:IntKind.u8.wrap ((m:Int) % 256)=(m:Int) % 256:=by rw [IntKind.wrap_u8'];omega
   clear HX HM k1
   go_wp2_with (at_builtin;refine wpList_append_lies _ rfl (.tmp 10) (.tmp 14) 85 rfl w.heap.size 5 i0 (.int .u8 0) 1 1 Tryz.underlying85 hi hz0 hz1 hz2 rfl (by decide) _ _ _ rfl (hown.alloc _) ⟨wr.heap.size,0,none⟩ 1 1 [.int .u8 ((m:Int) % 256)] rfl rfl (cell_one_new _ _ _) (by intro u hu;simp at hu;subst hu;rfl) (by decide) (by unfold maxLen;omega) (by omega) (by simp;exact Nat.le_succ_of_le hB.size) _ rfl ?_;intro g2 cap2 w2 hown2 hgrow2 _ _)
   have hB2:Below w.heap.size w w2:=below_own (hB.alloc hB.size _) (hown.alloc _) hgrow2 (by simp;exact Nat.le_succ_of_le hB.size)
   have hown3:w2.ownsRow w.heap.size 5 1 (.slice (some ⟨g2,0,none⟩) (k+1) cap2) (k+1) (bV (xs++[UInt8.ofNat (m % 256)])):=by
    rw [bV_snoc xs (m % 256) (by omega)];exact hown2
   clear hown2 hgrow2 hown
   go_wp2_with fail
   go_roundw
   case rel=>exact ⟨m / 256,k+1,g2,cap2,xs++[UInt8.ofNat (m % 256)],by go_num,rfl,by go_num,by omega,by omega,HQ,by show _=_;simp [HL.out],hown3,HN,hB2⟩
   case measure=>simp [intOf];omega
  ·obtain rfl:k=4:=by omega
   have hcv:=conv_row (P:=Tryz.prog) (l:=xs) (g:=g) (cap:=cap) 85 9 5 Tryz.underlying85 Tryz.underlying5 Tryz.underlying9 (by rw [HL.out];exact hown)
   rw [HL.out] at hcv
   have HE:Hid (xs=four n):=HX.out
   clear HX hown HL HM
   go_wp2_with fail
   go_ret
   exact ⟨by rw [← HE.out];rfl,hB⟩
end Go.Proofs.YtgoffkfpdigeeaaGreatDoor
namespace Go.Proofs.YtgoffkfpdigeeaaGreatDoor
open Go.RowKit
set_option maxRecDepth 10000 in
set_option maxHeartbeats 400000 in
theorem halve_any (y:Nat) (w:World) (hy:y<4294967296) :
  Calls Tryz.prog 168 #[.int .u32 y] w fun e w'=>e=.returned (.int .u32 (hlv y:Nat))∧w'=w:=by
 have k4:bits .xor .u32 ((y:Int) / 2) (3988292384*((y:Int) % 2))=((hlv y:Nat):Int):=by
  by_cases ho:y % 2=1
  ·have h:=xor32 (y / 2) 3988292384 (by omega) (by omega)
   rw [hlv_odd y ho,← h,show (3988292384*((y:Int) % 2))=((3988292384:Nat):Int) by omega]
   rfl
  ·have h:=xor32 (y / 2) 0 (by omega) (by omega)
   rw [hlv_even y ho,show (3988292384*((y:Int) % 2))=((0:Nat):Int) by omega]
   rw [Nat.xor_zero] at h
   exact h
 go_enter Tryz.func168,Tryz.ntmps168
 go_wp2_with fail
 go_ret
 exact ⟨rfl,rfl⟩
set_option maxRecDepth 10000 in
set_option maxHeartbeats 400000 in
theorem step_to (x c z:Nat) (w:World) (hx:x<4294967296) (hc:c<256) (HZ:Hid (x ^^^ c=z)) :
  Calls Tryz.prog 146 #[.int .u32 x,.int .u8 c] w fun e w'=>e=.returned (.int .u32 (hlvs 8 z:Nat))∧w'=w:=by
 have k0:IntKind.u32.wrap (c:Int)=c:=by rw [IntKind.wrap_u32'];omega
 have k1:=xor32 x c hx (by omega)
 have hlt:x ^^^ c<4294967296:=xor32_lt hx (by omega)
 rw [HZ.out] at k1 hlt
 go_enter Tryz.func146,Tryz.ntmps146
 go_wp2_with fail
 clear k0 k1
 go_loop [0,9] (fun xv kv=>∃(y k:Nat),xv=.int .u32 y∧kv=.int .i64 k∧k≤8∧y<4294967296∧Hid (hlvs (8-k) y=hlvs 8 z)) (fun _ kv=>8-(intOf kv).toNat)
 case atStart=>exact ⟨z,0,rfl,rfl,by omega,hlt,rfl⟩
 case round=>
  obtain ⟨y,k,rfl,rfl,hk,hy,HE⟩:=hrel
  by_cases hk8:k<8
  ·have HL:Hid (hlvs (8-(k+1)) (hlv y)=hlvs 8 z):=by show _=_;rw [← hlvs_left k y hk8];exact HE.out
   have hl:=hlv_lt y hy
   clear HE
   go_wp2_with fail
   refine (halve_any y _ hy).mono ?_
   rintro e w' ⟨rfl,rfl⟩
   go_wp2_with fail
   go_round
   case rel=>exact ⟨hlv y,k+1,by go_num,by go_num,by omega,hl,HL⟩
   case measure=>simp [intOf];omega
  ·obtain rfl:k=8:=by omega
   have HY:Hid (y=hlvs 8 z):=HE.out
   clear HE
   go_wp2_with fail
   go_ret
   refine ⟨?_,rfl⟩
   rw [← HY.out]
   rfl
theorem step_any (x c:Nat) (w:World) (hx:x<4294967296) (hc:c<256) :
  Calls Tryz.prog 146 #[.int .u32 x,.int .u8 c] w fun e w'=>e=.returned (.int .u32 (hlvs 8 (x ^^^ c):Nat))∧w'=w:=
 step_to x c _ w hx hc rfl
theorem not32 (s:Nat) (hs:s<4294967296):bits .xor .u32 IntKind.u32.max (s:Int)=((4294967295-s:Nat):Int):=by
 have h:=xor32 4294967295 s (by omega) hs
 rw [turn_xor s hs]
 exact h
set_option maxRecDepth 10000 in
set_option maxHeartbeats 400000 in
theorem more_to (s r0:Nat) (b:ByteArray) (w:World) (hs:s<4294967296) (hb:b.size≤281474976710656) (HR:Hid (4294967295-s=r0)) :
  Calls Tryz.prog 111 #[.int .u32 s,.string b] w fun e w'=>e=.returned (.int .u32 (4294967295-reg r0 b.data.toList:Nat))∧w'=w:=by
 have hn:=not32 s hs
 rw [HR.out] at hn
 have hr0:r0<4294967296:=by have:=HR.out;omega
 go_enter Tryz.func111,Tryz.ntmps111
 go_wp2_with fail
 clear hn
 go_loop [5,11] (fun xv iv=>∃(x i:Nat),xv=.int .u32 x∧iv=.int .i64 i∧i≤b.size∧x<4294967296∧Hid (reg x (b.data.toList.drop i)=reg r0 b.data.toList)) (fun _ iv=>b.size-(intOf iv).toNat)
 case atStart=>exact ⟨r0,0,rfl,rfl,by omega,hr0,rfl⟩
 case round=>
  obtain ⟨x,i,rfl,rfl,hi,hx,HE⟩:=hrel
  by_cases hlt:i<b.size
  ·have HN:Hid (reg (hlvs 8 (x ^^^ b[i].toNat)) (b.data.toList.drop (i+1))=reg r0 b.data.toList):=by
    have h:=HE.out
    rw [drop_atB b i hlt] at h
    exact h
   have hc:=b[i].toNat_lt
   have hn:=hlvs_lt 8 _ (xor32_lt hx (show b[i].toNat<4294967296 by omega))
   have HS:Hid (∀W:World,Calls Tryz.prog 146 #[.int .u32 x,.int .u8 (b[i].toNat:Int)] W fun e w'=>e=.returned (.int .u32 (hlvs 8 (x ^^^ b[i].toNat):Nat))∧w'=W):=fun W=>step_any x b[i].toNat W hx hc
   generalize hlvs 8 (x ^^^ b[i].toNat)=v at *
   clear HE
   go_wp2_with fail
   refine (HS.out _).mono ?_
   rintro e w' ⟨rfl,rfl⟩
   go_wp2_with fail
   go_round
   case rel=>exact ⟨v,i+1,by go_num,by go_num,by omega,hn,HN⟩
   case measure=>simp [intOf];omega
  ·have HX:Hid (x=reg r0 b.data.toList):=by
    have h:=HE.out
    rw [drop_end b i (by omega)] at h
    exact h
   clear HE
   have hn:=not32 x hx
   go_wp2_with fail
   go_ret
   refine ⟨?_,rfl⟩
   rw [← HX.out]
   rfl
theorem crc_turn (s:Nat) (l:List UInt8) (hs:s=crc l):4294967295-s=reg 4294967295 l:=by
 have h:=reg_lt 4294967295 l (by decide)
 rw [hs]
 unfold crc
 omega
theorem more_any (l:List UInt8) (b:ByteArray) (w:World) (hb:b.size≤281474976710656) :
  Calls Tryz.prog 111 #[.int .u32 (crc l:Nat),.string b] w fun e w'=>e=.returned (.int .u32 (crc (l++b.data.toList):Nat))∧Below w.heap.size w w':=by
 have h:=more_to (crc l) (reg 4294967295 l) b w (crc_lt l) hb (crc_turn _ l rfl)
 rw [← reg_append] at h
 refine h.mono ?_
 rintro e w' ⟨rfl,rfl⟩
 exact ⟨rfl,Below.refl _ _⟩
set_option maxRecDepth 10000 in
set_option maxHeartbeats 400000 in
theorem sum_any (b:ByteArray) (w:World) (hb:b.size≤281474976710656) :
  Calls Tryz.prog 66 #[.string b] w fun e w'=>e=.returned (.int .u32 (crc b.data.toList:Nat))∧Below w.heap.size w w':=by
 have h:=more_any [] b w hb
 rw [List.nil_append,show crc []=0 from rfl] at h
 have H:Hid (Calls Tryz.prog 111 #[.int .u32 0,.string b] w fun e w'=>e=.returned (.int .u32 (crc b.data.toList:Nat))∧Below w.heap.size w w'):=h
 clear h
 go_enter Tryz.func66,Tryz.ntmps66
 go_wp2_with fail
 refine Calls.mono H.out ?_
 rintro e w' ⟨rfl,hB⟩
 go_wp2_with fail
 go_ret
 exact ⟨rfl,hB⟩
theorem conv_four (P:Program) (w:World) (n:Nat) (hn:n<4294967296) (src dst e:TypeId) (hs:P.underlying src=some (.slice e)) (he:P.underlying e=some (.int .u8)) (hd:P.underlying dst=some .string) :
  (convert src dst (.slice (some ⟨w.heap.size,0,none⟩) 4 4)).run P (w.alloc (.cells #[.int .u8 ((n:Int) % 256),.int .u8 ((n:Int) / 256 % 256),.int .u8 ((n:Int) / 65536 % 256),.int .u8 ((n:Int) / 16777216)] e))=.ok (.string ⟨(four n).toArray⟩) (w.alloc (.cells #[.int .u8 ((n:Int) % 256),.int .u8 ((n:Int) / 256 % 256),.int .u8 ((n:Int) / 65536 % 256),.int .u8 ((n:Int) / 16777216)] e)):=by
 have hc : #[Value.int .u8 ((n:Int) % 256),.int .u8 ((n:Int) / 256 % 256),.int .u8 ((n:Int) / 65536 % 256),.int .u8 ((n:Int) / 16777216)].toList=bV (four n):=by
  simp [bV,four]
  omega
 refine run_convert_bytes_back _ src dst e ⟨w.heap.size,0,none⟩ 4 (four n) hs he hd ?_
 intro j hj
 have hadd:(⟨w.heap.size,0,none⟩:Addr).add j=⟨w.heap.size,j,none⟩:=by unfold Addr.add;split <;> simp_all
 rw [hadd,cell_of_row _ w.heap.size j _ e (0,0) (heap_alloc_new w _),← Array.getElem?_toList,hc]
 simp [bV,hj]
set_option maxRecDepth 10000 in
set_option maxHeartbeats 400000 in
theorem put4_any (n:Nat) (w:World) (hn:n<4294967296) :
  Calls Tryz.prog 65 #[.int .u32 n] w fun e w'=>e=.returned (.string ⟨(four n).toArray⟩)∧Below w.heap.size w w':=by
 have hcv:=conv_four Tryz.prog w n hn 85 9 5 Tryz.underlying85 Tryz.underlying5 Tryz.underlying9
 go_enter Tryz.func65,Tryz.ntmps65
 go_wp2_with fail
 go_ret
 exact ⟨rfl,(Below.refl _ _).alloc (Nat.le_refl _) _⟩
theorem or32 (a b:Nat) (ha:a<4294967296) (hb:b<4294967296):bits .or .u32 (a:Int) (b:Int)=((a ||| b:Nat):Int):=by
 have h:=u32_or (a:Int) (b:Int) (by omega) (by omega) (by omega) (by omega)
 simpa using h
theorem or_four (a b c d:Nat) (ha:a<256) (hb:b<256) (hc:c<256) (hd:d<256) :
  bits .or .u32 (bits .or .u32 (bits .or .u32 ((a:Int) % 4294967296) ((b:Int) % 4294967296*256 % 4294967296)) ((c:Int) % 4294967296*65536 % 4294967296)) ((d:Int) % 4294967296*16777216 % 4294967296)=((a+256*(b+256*(c+256*d)):Nat):Int):=by
 have e0:(a:Int) % 4294967296=(a:Int):=by omega
 have e1:(b:Int) % 4294967296*256 % 4294967296=((256*b:Nat):Int):=by omega
 have e2:(c:Int) % 4294967296*65536 % 4294967296=((65536*c:Nat):Int):=by omega
 have e3:(d:Int) % 4294967296*16777216 % 4294967296=((16777216*d:Nat):Int):=by omega
 have o1:a ||| 256*b=256*b+a:=by rw [Nat.or_comm];exact (Nat.two_pow_add_eq_or_of_lt (i:=8) (b:=a) ha b).symm
 have o2:(256*b+a) ||| 65536*c=65536*c+(256*b+a):=by rw [Nat.or_comm];exact (Nat.two_pow_add_eq_or_of_lt (i:=16) (b:=256*b+a) (by omega) c).symm
 have o3:(65536*c+(256*b+a)) ||| 16777216*d=16777216*d+(65536*c+(256*b+a)):=by rw [Nat.or_comm];exact (Nat.two_pow_add_eq_or_of_lt (i:=24) (b:=65536*c+(256*b+a)) (by omega) d).symm
 rw [e0,e1,e2,e3,or32 a (256*b) (by omega) (by omega),o1,or32 (256*b+a) (65536*c) (by omega) (by omega),o2,or32 (65536*c+(256*b+a)) (16777216*d) (by omega) (by omega),o3]
 omega
theorem num_four (b:ByteArray) (hb:b.size=4):lnum b.data.toList=b[0].toNat+256*(b[1].toNat+256*(b[2].toNat+256*b[3].toNat)):=by
 have h:b.data.toList=[b[0],b[1],b[2],b[3]]:=by
  apply List.ext_getElem
  ·simp [hb]
  ·intro i h1 h2
   simp at h2
   match i,h2 with
   | 0,_=>rfl
   | 1,_=>rfl
   | 2,_=>rfl
   | 3,_=>rfl
 rw [h]
 simp [lnum]
theorem num_of_four (n:Nat) (hn:n<4294967296):lnum (four n)=n:=by
 simp [lnum,four]
 omega
theorem four_of_num (b:ByteArray) (hb:b.size=4):four (lnum b.data.toList)=b.data.toList:=by
 apply num_inj
 ·simp [four,hb]
 ·rw [num_of_four _ (Nat.lt_of_lt_of_le (num_lt _) (by simp [hb]))]
set_option maxRecDepth 10000 in
set_option maxHeartbeats 400000 in
theorem get4_some (b:ByteArray) (w:World) (hb:b.size=4) :
  Calls Tryz.prog 118 #[.string b] w fun e w'=>e=.returned (.tuple #[.int .u32 (lnum b.data.toList:Nat),.bool true])∧Below w.heap.size w w':=by
 have ho:=or_four b[0].toNat b[1].toNat b[2].toNat b[3].toNat b[0].toNat_lt b[1].toNat_lt b[2].toNat_lt b[3].toNat_lt
 rw [← num_four b hb] at ho
 go_enter Tryz.func118,Tryz.ntmps118
 go_wp2_with fail
 go_quiet (fail)
 go_wp2_with fail
 go_ret2
 refine ⟨?_,below_drewN (Below.refl _ _) _⟩
 rw [← ho]
 rfl
set_option maxRecDepth 10000 in
set_option maxHeartbeats 400000 in
theorem get4_none (b:ByteArray) (w:World) (hb:¬b.size=4) :
  Calls Tryz.prog 118 #[.string b] w fun e w'=>e=.returned (.tuple #[.int .u32 0,.bool false])∧Below w.heap.size w w':=by
 have hI:¬(b.size:Int)=4:=by omega
 go_enter Tryz.func118,Tryz.ntmps118
 go_wp2_with fail
 go_ret2
 exact ⟨rfl,Below.refl _ _⟩
end Go.Proofs.YtgoffkfpdigeeaaGreatDoor
