import Derived.Test.YtgoffkfpdigeeaaGreatDoorRows
import Derived.WalkKit
import Derived.WalkSpells
import Derived.WalkLawsBesides
import Derived.Deep.RegionWith
import Derived.Test.YtgoffkfpdigeeaaGreatDoorA06
import Derived.Test.YtgoffkfpdigeeaaGreatDoorA01
namespace Go.Proofs.YtgoffkfpdigeeaaGreatDoor
open Go.RowKit
def zig (n:Int):Int:=if n<0 then -2*n-1 else 2*n
def zag (m:Int):Int:=if m % 2=1 then -(m / 2)-1 else m / 2
theorem zig_range (n:Int) (h0 : -9223372036854775808≤n) (h1:n≤9223372036854775807):0≤zig n∧zig n≤18446744073709551615:=by
 unfold zig;split <;> omega
theorem zag_range (m:Int) (h0:0≤m) (h1:m≤18446744073709551615) : -9223372036854775808≤zag m∧zag m≤9223372036854775807:=by
 unfold zag;split <;> omega
theorem zag_zig (n:Int):zag (zig n)=n:=by
 unfold zag zig;split <;> split <;> omega
theorem zig_zag (m:Int) (h0:0≤m):zig (zag m)=m:=by
 unfold zag zig;split <;> split <;> omega
theorem not_i64 (n:Int) (h0 : -9223372036854775808≤n) (h1:n≤9223372036854775807):bits .xor .i64 (-1) n = -1-n:=by
 show IntKind.i64.wrap ((BitVec.ofInt 64 (-1) ^^^ BitVec.ofInt 64 n).toNat:Int)=_
 have hh:BitVec.ofInt 64 (-1)=BitVec.allOnes 64:=by decide
 rw [hh,BitVec.allOnes_xor,BitVec.toNat_not,BitVec.toNat_ofInt]
 simp [IntKind.wrap,IntKind.bits,IntKind.signed]
 omega
theorem ret_num {k:IntKind} {a b:Int} (h:a=b):Ending.returned (.int k a)=.returned (.int k b):=by rw [h]
set_option maxHeartbeats 400000 in
theorem zig_any (n:Int) (w:World) (h0 : -9223372036854775808≤n) (h1:n≤9223372036854775807) :
  Calls Tryz.prog 113 #[.int .i64 n] w fun e w'=>e=.returned (.int .u64 (zig n))∧w'=w:=by
 by_cases hn:n<0
 ·have hx:=not_i64 n h0 h1
  go_enter Tryz.func113,Tryz.ntmps113
  go_wp2
  go_ret
  exact ⟨ret_num (by simp only [zig,if_pos hn,IntKind.wrap_u64];omega),rfl⟩
 ·go_enter Tryz.func113,Tryz.ntmps113
  go_wp2
  go_ret
  exact ⟨ret_num (by simp only [zig,if_neg (show ¬n<0 by omega)];omega),rfl⟩
set_option maxHeartbeats 400000 in
theorem zag_any (m:Int) (w:World) (h0:0≤m) (h1:m≤18446744073709551615) :
  Calls Tryz.prog 170 #[.int .u64 m] w fun e w'=>e=.returned (.int .i64 (zag m))∧w'=w:=by
 by_cases hn:m % 2=1
 ·have hx:=not_i64 (m / 2) (by omega) (by omega)
  go_enter Tryz.func170,Tryz.ntmps170
  go_wp2
  go_ret
  exact ⟨ret_num (by simp only [zag,if_pos hn];omega),rfl⟩
 ·have hx:(m % 2==1)=false:=by simp;omega
  go_enter Tryz.func170,Tryz.ntmps170
  go_wp2
  go_ret
  exact ⟨ret_num (by simp only [zag,if_neg hn]),rfl⟩
end Go.Proofs.YtgoffkfpdigeeaaGreatDoor
namespace Go.Proofs.YtgoffkfpdigeeaaGreatDoor
open Go.RowKit
theorem Tryz.info5:(Tryz.prog.info? 5).map (fun i=>(i.zero,i.size,i.bytes))=some (some (.int .u8 0),1,1):=by kernel_rfl
theorem or_top (m:Nat):bits .or .u8 ((m:Int) % 128) 128=128+(m:Int) % 128:=by
 rw [u8_or _ _ (by omega) (by omega) (by omega) (by omega)]
 have h1:((m:Int) % 128).toNat=m % 128:=by omega
 have h2:(128:Int).toNat=128:=rfl
 rw [h1,h2,Nat.or_comm,nat_join 7 128 (m % 128) (by decide) (by show _<128;omega)]
 omega
set_option maxRecDepth 10000 in
set_option maxHeartbeats 400000 in
theorem put_any (n:Int) (w:World) (h0:0≤n) (h1:n≤18446744073709551615) :
  Calls Tryz.prog 64 #[.int .u64 n] w fun e w'=>e=.returned (.string ⟨(put n.toNat).toArray⟩)∧Below w.heap.size w w':=by
 obtain ⟨i0,hi,hz0,hz1,hz2⟩:=info_parts Tryz.info5
 go_enter Tryz.func64,Tryz.ntmps64
 go_wp2_with (at_make;refine wpList_make_own _ rfl _ _ 85 rfl w.heap.size 5 i0 (.int .u8 0) 1 Tryz.underlying85 hi hz0 hz1 _ _ _ 10 rfl rfl rfl ?b2 ?b3 ?b4 ?_)
 case b2=>rw [hz2];decide
 case b3=>decide
 case b4=>exact Nat.le_refl _
 intro w1 hown1 hgrow1
 go_wp2
 go_loopw [0,3] (fun nv bv wr=>∃(f m:Nat) (xs:List UInt8),nv=.int .u64 m∧wr.ownsRow w.heap.size 5 1 bv xs.length (bV xs)∧Hid (put n.toNat=xs++enc f m)∧Hid (m<2*128 ^ f)∧(m:Int)≤18446744073709551615∧xs.length≤9∧Hid (xs.length+f=9)∧Below w.heap.size w wr) (fun nv _ _=>(intOf nv).toNat)
 case atStart=>exact ⟨9,n.toNat,[],by go_num,hown1,rfl,by show _<_;omega,by omega,by simp,rfl,(Below.refl _ _).grown hgrow1 (Nat.le_refl _) (by simp)⟩
 case round=>
  obtain ⟨f,m,xs,rfl,hown,HE,HM,hm,hxs,HF,hnx⟩:=hrel
  have hsz:=hnx.size
  by_cases hlt:m<128
  ·go_wp2_with (at_builtin;refine wpList_append_own _ rfl _ _ 85 rfl w.heap.size 5 i0 (.int .u8 0) 1 1 Tryz.underlying85 hi hz0 hz1 hz2 rfl (by decide) _ _ _ rfl (hown.alloc _) ⟨wr.heap.size,0,none⟩ 1 1 [.int .u8 (m:Int)] rfl rfl (cell_one_new _ _ _) ?c2 ?c3 ?c4 ?c5 ?_)
   case c2=>intro u hu;simp at hu;subst hu;rfl
   case c3=>unfold maxLen;omega
   case c4=>omega
   case c5=>simp;omega
   intro v' w2 hown2 hgrow2 _
   have hput:put n.toNat=xs++[UInt8.ofNat m]:=by rw [HE.out,enc_small f m hlt]
   have hb2:Below w.heap.size w w2:=below_own (hnx.alloc hsz _) (hown.alloc _) hgrow2 (by simp;omega)
   have hown3:w2.ownsRow w.heap.size 5 1 v' (xs++[UInt8.ofNat m]).length (bV (xs++[UInt8.ofNat m])):=by
    rw [bV_snoc xs m (by omega),List.length_append];exact hown2
   obtain ⟨g,cap,hv,hcv⟩:=conv_own (P:=Tryz.prog) 85 9 5 Tryz.underlying85 Tryz.underlying5 Tryz.underlying9 hown3 (by simp)
   rw [List.length_append,List.length_singleton] at hv hcv
   rw [← hput] at hcv
   clear hput hown2 hown3 hgrow2 hown HE HM HF
   rw [hv]
   go_wp2
   go_ret
   exact ⟨rfl,hb2⟩
  ·have hor:=or_top m
   obtain ⟨g,hg,hm1,he⟩:=enc_round f m (by omega) HM.out
   have HG:Hid (f=g+1∧m / 128<2*128 ^ g∧enc f m=UInt8.ofNat (128+m % 128) :: enc g (m / 128)):=⟨hg,hm1,he⟩
   clear hg hm1 he
   go_wp2_with (at_builtin;refine wpList_append_own _ rfl _ _ 85 rfl w.heap.size 5 i0 (.int .u8 0) 1 1 Tryz.underlying85 hi hz0 hz1 hz2 rfl (by decide) _ _ _ rfl (hown.alloc _) ⟨wr.heap.size,0,none⟩ 1 1 [.int .u8 (128+(m:Int) % 128)] rfl rfl (cell_one_new _ _ _) ?c2 ?c3 ?c4 ?c5 ?_)
   case c2=>intro u hu;simp at hu;subst hu;rfl
   case c3=>unfold maxLen;omega
   case c4=>omega
   case c5=>simp;omega
   intro v' w2 hown2 hgrow2 _
   have hb2:Below w.heap.size w w2:=below_own (hnx.alloc hsz _) (hown.alloc _) hgrow2 (by simp;omega)
   have hown3:w2.ownsRow w.heap.size 5 1 v' (xs++[UInt8.ofNat (128+m % 128)]).length (bV (xs++[UInt8.ofNat (128+m % 128)])):=by
    rw [bV_snoc xs (128+m % 128) (by omega),List.length_append];exact hown2
   clear hown2 hgrow2 hown
   go_wp2
   go_roundw
   case rel=>
    obtain ⟨hg,hm1,he⟩:=HG
    have hF:=HF.out
    exact ⟨g,m / 128,xs++[UInt8.ofNat (128+m % 128)],by go_num,hown3,by show _=_;rw [HE.out,he,List.append_assoc];rfl,hm1,by omega,by simp;omega,by show _=_;simp;omega,hb2⟩
   case measure=>simp [intOf];omega
end Go.Proofs.YtgoffkfpdigeeaaGreatDoor
namespace Go.Proofs.YtgoffkfpdigeeaaGreatDoor
open Go.RowKit
set_option maxRecDepth 10000 in
set_option maxHeartbeats 400000 in
theorem refput_small (f m:Nat) (w:World) (h:m<128) :
  Calls Tryz.prog 52 #[.int .u64 m] w fun e w'=>e=.returned (.string ⟨(enc f m).toArray⟩)∧Below w.heap.size w w':=by
 have hcv:=fun (W:World) (g:Nat)=>conv_one (P:=Tryz.prog) W 85 9 5 Tryz.underlying85 Tryz.underlying5 Tryz.underlying9 g 1 (m:Int) (by omega) (by omega)
 have he:=enc_small f m h
 have HE:Hid (enc f m=[UInt8.ofNat m]):=he
 clear he
 go_enter Tryz.func52,Tryz.ntmps52
 go_wp2_with fail
 go_ret
 exact ⟨by rw [HE.out];rfl,(Below.refl _ _).alloc (Nat.le_refl _) _⟩
set_option maxRecDepth 10000 in
set_option maxHeartbeats 400000 in
theorem refput_big (m:Nat) (s2:ByteArray) (w:World) (h:128≤m) (hm:(m:Int)≤18446744073709551615) (hs2:s2.size≤10)
  (ih:Hid (∀W:World,Calls Tryz.prog 52 #[.int .u64 ((m:Int) / 128)] W fun e w'=>e=.returned (.string s2)∧Below W.heap.size W w')) :
  Calls Tryz.prog 52 #[.int .u64 m] w fun e w'=>e=.returned (.string (⟨[UInt8.ofNat (128+m % 128)].toArray⟩++s2))∧Below w.heap.size w w':=by
 have k0:(128+(m:Int) % 128).toNat=128+m % 128:=by omega
 have hcv:=fun (W:World) (g:Nat)=>conv_one (P:=Tryz.prog) W 85 9 5 Tryz.underlying85 Tryz.underlying5 Tryz.underlying9 g 1 (128+(m:Int) % 128) (by omega) (by omega)
 rw [k0] at hcv
 have hz1:(ByteArray.mk [UInt8.ofNat (128+m % 128)].toArray).size=1:=rfl
 generalize ByteArray.mk [UInt8.ofNat (128+m % 128)].toArray=s1 at *
 have hadd:=fun (W:World)=>run_string_add_sum (P:=Tryz.prog) W s1 s2 (by omega)
 have k1:(m:Int).tmod 128=(m:Int) % 128:=Int.tmod_eq_emod_of_nonneg (by omega)
 have k2:IntKind.u64.wrap (128+(m:Int) % 128)=128+(m:Int) % 128:=by rw [IntKind.wrap_u64];omega
 have k3:IntKind.u8.wrap (128+(m:Int) % 128)=128+(m:Int) % 128:=by rw [IntKind.wrap_u8'];omega
 have k4:IntKind.u64.wrap ((m:Int) / 128)=(m:Int) / 128:=by rw [IntKind.wrap_u64];omega
 clear k0 hz1
 go_enter Tryz.func52,Tryz.ntmps52
 go_wp2_with fail
 go_region_with (go_at_call 52;refine (ih.out _).mono ?_;rintro e w' ⟨rfl,hb⟩;obtain ⟨hc,hf⟩:=bcell hb)
 all_goals
  go_wp2_with fail
  go_ret
  first
   | exact ⟨rfl,(((Below.refl w.heap.size w).alloc (Nat.le_refl _) _).drew).trans (hb.mono (by simp))⟩
   | exact ⟨rfl,((Below.refl w.heap.size w).drew.trans hb).alloc hb.size _⟩
theorem refput_enc (f:Nat):∀(m:Nat),m<2*128 ^ f→(m:Int)≤18446744073709551615→f≤9→∀w:World,
  Calls Tryz.prog 52 #[.int .u64 m] w fun e w'=>e=.returned (.string ⟨(enc f m).toArray⟩)∧Below w.heap.size w w':=by
 induction f with
 | zero=>
  intro m hm h1 hf w
  exact refput_small 0 m w (by simp at hm;omega)
 | succ f ih=>
  intro m hm h1 hf w
  by_cases hlt:m<128
  ·exact refput_small (f+1) m w hlt
  ·have hm2:m / 128<2*128 ^ f:=by rw [Nat.pow_succ] at hm;omega
   have h:=refput_big m ⟨(enc f (m / 128)).toArray⟩ w (by omega) h1 (by have:=enc_length_le f (m / 128);simp [ByteArray.size];omega) (fun W=>by
    have hh:=ih (m / 128) hm2 (by omega) (by omega) W
    have hc:((m / 128:Nat):Int)=(m:Int) / 128:=by omega
    rw [hc] at hh
    exact hh)
   rw [ByteArray.mk_append_mk] at h
   rw [enc_big f m (by omega)]
   exact h
theorem refput_any (n:Int) (w:World) (h0:0≤n) (h1:n≤18446744073709551615) :
  Calls Tryz.prog 52 #[.int .u64 n] w fun e w'=>e=.returned (.string ⟨(put n.toNat).toArray⟩)∧Below w.heap.size w w':=by
 have h:=refput_enc 9 n.toNat (by omega) (by omega) (by omega) w
 rw [Int.toNat_of_nonneg h0] at h
 exact h
end Go.Proofs.YtgoffkfpdigeeaaGreatDoor
namespace Go.Proofs.YtgoffkfpdigeeaaGreatDoor
open Go.RowKit
theorem or_join (X Y i:Nat) (hX:X<2 ^ i) (hY:Y % 2 ^ i=0) (h1:X<18446744073709551616) (h2:Y<18446744073709551616):bits .or .u64 (X:Int) (Y:Int)=((X+Y:Nat):Int):=by
 rw [u64_or_nat X Y h1 h2,Nat.or_comm,nat_join i Y X hY hX,Nat.add_comm]
theorem get_or (X k c:Nat) (hX:X<128 ^ k) (hk:k<9∨(k=9∧c≤1)):bits .or .u64 (X:Int) (IntKind.u64.wrap ((c:Int) % 128*2 ^ (7*k)))=((X+128 ^ k*(c % 128):Nat):Int):=by
 have hc:(c:Int) % 128=((c % 128:Nat):Int):=by omega
 have hm:c % 128<128:=by omega
 have hm1:k=9→c % 128≤1:=by omega
 rw [hc]
 generalize c % 128=d at *
 clear hc
 have hcases:k=0∨k=1∨k=2∨k=3∨k=4∨k=5∨k=6∨k=7∨k=8∨k=9:=by omega
 rcases hcases with rfl|rfl|rfl|rfl|rfl|rfl|rfl|rfl|rfl|rfl
 all_goals
  simp only [IntKind.wrap_u64,Nat.reduceMul,Nat.reducePow,Int.reducePow] at hX ⊢
 ·rw [show ((d:Int)*1 % 18446744073709551616)=((1*d:Nat):Int) by omega];exact or_join X (1*d) 0 hX (by omega) (by omega) (by omega)
 ·rw [show ((d:Int)*128 % 18446744073709551616)=((128*d:Nat):Int) by omega];exact or_join X _ 7 hX (by omega) (by omega) (by omega)
 ·rw [show ((d:Int)*16384 % 18446744073709551616)=((16384*d:Nat):Int) by omega];exact or_join X _ 14 hX (by omega) (by omega) (by omega)
 ·rw [show ((d:Int)*2097152 % 18446744073709551616)=((2097152*d:Nat):Int) by omega];exact or_join X _ 21 hX (by omega) (by omega) (by omega)
 ·rw [show ((d:Int)*268435456 % 18446744073709551616)=((268435456*d:Nat):Int) by omega];exact or_join X _ 28 hX (by omega) (by omega) (by omega)
 ·rw [show ((d:Int)*34359738368 % 18446744073709551616)=((34359738368*d:Nat):Int) by omega];exact or_join X _ 35 hX (by omega) (by omega) (by omega)
 ·rw [show ((d:Int)*4398046511104 % 18446744073709551616)=((4398046511104*d:Nat):Int) by omega];exact or_join X _ 42 hX (by omega) (by omega) (by omega)
 ·rw [show ((d:Int)*562949953421312 % 18446744073709551616)=((562949953421312*d:Nat):Int) by omega];exact or_join X _ 49 hX (by omega) (by omega) (by omega)
 ·rw [show ((d:Int)*72057594037927936 % 18446744073709551616)=((72057594037927936*d:Nat):Int) by omega];exact or_join X _ 56 hX (by omega) (by omega) (by omega)
 ·rw [show ((d:Int)*9223372036854775808 % 18446744073709551616)=((9223372036854775808*d:Nat):Int) by omega];exact or_join X _ 63 hX (by omega) (by omega) (by omega)
theorem ret3 {a b c a' b' c':Int} (h1:a=a') (h2:b=b') (h3:c=c'):Ending.returned (.tuple #[.int .u64 a,.int .i64 b,.int .i64 c])=.returned (.tuple #[.int .u64 a',.int .i64 b',.int .i64 c']):=by rw [h1,h2,h3]
theorem fin_bad (a:Int) (k:Nat) (h:0<k):fin a (0,0,k)=(0,0,(k:Int)):=by
 unfold fin;rw [if_neg (by simp;omega)]
theorem fin_ok (a:Int) (n m:Nat):fin a (n,m,0)=((n:Int),a+(m:Int),0):=by
 unfold fin;rw [if_pos rfl]
set_option maxRecDepth 10000 in
set_option maxHeartbeats 400000 in
theorem get_in (s:ByteArray) (a:Nat) (w:World) (hs:s.size≤maxLen) (ha:a≤s.size) :
  Calls Tryz.prog 169 #[.string s,.int .i64 a] w fun e w'=>e=.returned (.tuple #[.int .u64 (fin a (dec 0 0 (s.data.toList.drop a))).1,.int .i64 (fin a (dec 0 0 (s.data.toList.drop a))).2.1,.int .i64 (fin a (dec 0 0 (s.data.toList.drop a))).2.2])∧w'=w:=by
 unfold maxLen at hs
 have hg:¬(s.size<a):=by omega
 generalize hF:dec 0 0 (s.data.toList.drop a)=D
 have HF:Hid (dec 0 0 (s.data.toList.drop a)=D):=hF
 clear hF
 go_enter Tryz.func169,Tryz.ntmps169
 go_wp2
 go_loop [7,8] (fun nv iv=>∃(k X:Nat),nv=.int .u64 X∧iv=.int .i64 k∧k≤9∧a+k≤s.size∧Hid (X<128 ^ k)∧Hid (dec k X (s.data.toList.drop (a+k))=D)) (fun _ iv=>10-(intOf iv).toNat)
 case atStart=>exact ⟨0,0,rfl,rfl,by omega,by omega,by show _<_;simp,HF⟩
 case round=>
  obtain ⟨k,X,rfl,rfl,hk,hak,HX,HD⟩:=hrel
  by_cases hlt:a+k<s.size
  ·have HS:Hid (s.data.toList.drop (a+k)=s[a+k] :: s.data.toList.drop (a+k+1)):=drop_atB s (a+k) hlt
   go_wp2
   ·have h9:(k:Int)=9:=by assumption
    have hc:1<(s[a+k].toNat:Int):=by assumption
    have hD:D=(0,0,3):=by rw [← HD.out,HS.out];exact dec_nine _ _ _ _ (by omega) (by omega)
    go_ret3
    exact ⟨by rw [hD,fin_bad _ _ (by omega)];rfl,rfl⟩
   ·have h9:(k:Int)=9:=by assumption
    have hc:s[a+k].toNat=0:=by assumption
    have hD:D=(0,0,3):=by rw [← HD.out,HS.out];exact dec_zero _ _ _ _ (by omega) hc
    go_ret3
    exact ⟨by rw [hD,fin_bad _ _ (by omega)];rfl,rfl⟩
   ·have h9:(k:Int)=9:=by assumption
    have hc1:(s[a+k].toNat:Int)≤1:=by assumption
    have hc0:¬s[a+k].toNat=0:=by assumption
    have hD:D=(X+128 ^ k*(s[a+k].toNat % 128),k+1,0):=by rw [← HD.out,HS.out];exact dec_last _ _ _ _ (by omega) (by omega) (by omega)
    have ho:=get_or X k s[a+k].toNat HX.out (.inr ⟨by omega,by omega⟩)
    obtain rfl:k=9:=by omega
    simp only [Nat.reduceMul,Int.reducePow,IntKind.wrap_u64] at ho
    rw [show ((s[a+9].toNat:Int) % 128*9223372036854775808) % 18446744073709551616=(s[a+9].toNat:Int) % 128*9223372036854775808 by omega] at ho
    go_ret3
    refine ⟨?_,rfl⟩
    rw [hD,fin_ok]
    exact ret3 ho (by dsimp only;omega) rfl
   ·have hk0:0<k:=by assumption
    have hc:s[a+k].toNat=0:=by assumption
    have hD:D=(0,0,3):=by rw [← HD.out,HS.out];exact dec_zero _ _ _ _ hk0 hc
    go_ret3
    exact ⟨by rw [hD,fin_bad _ _ (by omega)];rfl,rfl⟩
   ·have hk0:¬0<k:=by assumption
    have hc:s[a+k].toNat=0:=by assumption
    have hD:D=(X+128 ^ k*(s[a+k].toNat % 128),k+1,0):=by rw [← HD.out,HS.out];exact dec_last _ _ _ _ (by omega) (by omega) (by omega)
    have ho:=get_or X k s[a+k].toNat HX.out (.inl (by omega))
    rw [hc] at ho
    simp only [IntKind.wrap_u64,Int.natCast_zero,Int.zero_emod,Int.zero_mul] at ho
    go_ret3
    refine ⟨?_,rfl⟩
    rw [hD,fin_ok,hc]
    exact ret3 ho (by dsimp only;omega) rfl
   ·have h9:¬(k:Int)=9:=by assumption
    have hc0:¬s[a+k].toNat=0:=by assumption
    have hc:(s[a+k].toNat:Int)<128:=by assumption
    have hD:D=(X+128 ^ k*(s[a+k].toNat % 128),k+1,0):=by rw [← HD.out,HS.out];exact dec_last _ _ _ _ (by omega) (by omega) (by omega)
    have ho:=get_or X k s[a+k].toNat HX.out (.inl (by omega))
    go_ret3
    refine ⟨?_,rfl⟩
    rw [hD,fin_ok]
    exact ret3 ho (by dsimp only;omega) rfl
   ·have h9:¬(k:Int)=9:=by assumption
    have hc:128≤(s[a+k].toNat:Int):=by assumption
    have hD:dec (k+1) (X+128 ^ k*(s[a+k].toNat % 128)) (s.data.toList.drop (a+(k+1)))=D:=by
     rw [← HD.out,HS.out,dec_more _ _ _ _ (by omega) (by omega)];rfl
    have ho:=get_or X k s[a+k].toNat HX.out (.inl (by omega))
    refine ⟨⟨k+1,X+128 ^ k*(s[a+k].toNat % 128),by rw [ho],by go_num,by omega,by omega,pow_step _ _ _ HX.out,hD⟩,?_⟩
    simp [intOf];omega
  ·go_wp2
   have hD:D=(0,0,2):=by rw [← HD.out,drop_end s (a+k) (by omega)];rfl
   go_ret3
   exact ⟨by rw [hD,fin_bad _ _ (by omega)];rfl,rfl⟩
end Go.Proofs.YtgoffkfpdigeeaaGreatDoor
namespace Go.Proofs.YtgoffkfpdigeeaaGreatDoor
open Go.RowKit
set_option maxRecDepth 10000 in
set_option maxHeartbeats 400000 in
theorem get_out (s:ByteArray) (a:Int) (w:World) (hs:s.size≤maxLen) (h:a<0∨(s.size:Int)<a) :
  Calls Tryz.prog 169 #[.string s,.int .i64 a] w fun e w'=>e=.returned (.tuple #[.int .u64 0,.int .i64 0,.int .i64 1])∧w'=w:=by
 unfold maxLen at hs
 rcases h with h|h
 ·go_enter Tryz.func169,Tryz.ntmps169
  go_wp2
  go_ret3
  exact ⟨rfl,rfl⟩
 ·have h':¬a<0:=by omega
  go_enter Tryz.func169,Tryz.ntmps169
  go_wp2
  go_ret3
  exact ⟨rfl,rfl⟩
theorem got_out (b:List UInt8) (a:Int) (h:a<0∨(b.length:Int)<a):got b a=(0,0,1):=by
 unfold got;rw [if_pos h]
theorem got_in (b:List UInt8) (a:Nat) (h:a≤b.length):got b a=fin a (dec 0 0 (b.drop a)):=by
 unfold got;rw [if_neg (by omega)];rfl
theorem get_any (s:ByteArray) (a:Int) (w:World) (hs:s.size≤maxLen) :
  Calls Tryz.prog 169 #[.string s,.int .i64 a] w fun e w'=>e=.returned (.tuple #[.int .u64 (got s.data.toList a).1,.int .i64 (got s.data.toList a).2.1,.int .i64 (got s.data.toList a).2.2])∧w'=w:=by
 have hl:s.data.toList.length=s.size:=by rw [Array.length_toList];rfl
 by_cases h:a<0∨(s.size:Int)<a
 ·rw [got_out _ _ (by rw [hl];exact h)]
  exact get_out s a w hs h
 ·obtain ⟨n,rfl⟩:=Int.eq_ofNat_of_zero_le (show 0≤a by omega)
  rw [got_in _ _ (by omega)]
  exact get_in s n w hs (by omega)
end Go.Proofs.YtgoffkfpdigeeaaGreatDoor
namespace Go.Proofs.YtgoffkfpdigeeaaGreatDoor
theorem dec_enc (f:Nat):∀(k X m:Nat) (r:List UInt8),f+k=9→m<2*128 ^ f→(k=0∨0<m)→dec k X (enc f m++r)=(X+128 ^ k*m,k+(enc f m).length,0):=by
 induction f with
 | zero=>
  intro k X m r hk hm h0
  have hm1:m=1:=by simp at hm;omega
  have hk9:k=9:=by omega
  subst hm1
  subst hk9
  rw [enc_small 0 1 (by omega)]
  show dec 9 X ((1:UInt8) :: r)=_
  rw [dec_last 9 X 1 r (by decide) (by decide) (by decide)]
  simp
 | succ f ih=>
  intro k X m r hk hm h0
  by_cases hlt:m<128
  ·rw [enc_small _ m hlt]
   have hc:(UInt8.ofNat m).toNat=m:=by simp;omega
   show dec k X (UInt8.ofNat m :: r)=_
   rw [dec_last k X _ r (by omega) (by omega) (by omega),hc,Nat.mod_eq_of_lt hlt]
   simp
  ·have hm2:m / 128<2*128 ^ f:=by rw [Nat.pow_succ] at hm;omega
   rw [enc_big f m (by omega)]
   have hc:(UInt8.ofNat (128+m % 128)).toNat=128+m % 128:=by simp;omega
   show dec k X (UInt8.ofNat (128+m % 128) :: (enc f (m / 128)++r))=_
   rw [dec_more k X _ _ (by omega) (by omega),ih (k+1) _ (m / 128) r (by omega) hm2 (.inr (by omega)),hc]
   have e1:(128+m % 128) % 128=m % 128:=by omega
   have e2:128 ^ (k+1)*(m / 128)=128 ^ k*(128*(m / 128)):=by rw [Nat.pow_succ,Nat.mul_assoc]
   have e3:128 ^ k*(m % 128)+128 ^ k*(128*(m / 128))=128 ^ k*m:=by
    rw [← Nat.mul_add];congr 1;omega
   rw [e1,e2,Nat.add_assoc,e3]
   simp only [List.length_cons,Prod.mk.injEq,true_and,and_true]
   omega
theorem dec_put (n:Nat) (h:n<18446744073709551616) (r:List UInt8):dec 0 0 (put n++r)=(n,(put n).length,0):=by
 have:=dec_enc 9 0 0 n r rfl (by omega) (.inl rfl)
 simpa [put] using this
theorem enc_dec (l:List UInt8):∀(k X n m:Nat),k≤9→dec k X l=(n,m,0)→
  ∃q,n=X+128 ^ k*q∧q<2*128 ^ (9-k)∧(k=0∨0<q)∧k<m∧m≤10∧m-k≤l.length∧enc (9-k) q=l.take (m-k):=by
 induction l with
 | nil=>intro k X n m hk h;simp [dec] at h
 | cons c r ih=>
  intro k X n m hk h
  have hc256:c.toNat<256:=c.toNat_lt
  by_cases h1:k=9∧1<c.toNat
  ·rw [dec,if_pos h1] at h;simp at h
  by_cases h2:c.toNat=0∧0<k
  ·rw [dec,if_neg h1,if_pos h2] at h;simp at h
  by_cases h3:c.toNat<128
  ·rw [dec_last k X c r h1 h2 h3] at h
   simp only [Prod.mk.injEq,and_true] at h
   obtain ⟨hn,hm⟩:=h
   rw [Nat.mod_eq_of_lt h3] at hn
   refine ⟨c.toNat,hn.symm,?_,by omega,by omega,by omega,by simp;omega,?_⟩
   ·by_cases h9:k=9
    ·subst h9;simp;omega
    ·obtain ⟨j,hj⟩:∃j,9-k=j+1:=⟨8-k,by omega⟩
     rw [hj,Nat.pow_succ]
     have:0<128 ^ j:=Nat.pow_pos (by omega)
     omega
   ·rw [enc_small _ _ h3,← hm]
    simp
  ·rw [dec_more k X c r (by omega) (by omega)] at h
   obtain ⟨q,hn,hq,h0,hkm,hm10,hl,he⟩:=ih (k+1) _ n m (by omega) h
   have hq0:0<q:=by omega
   obtain ⟨j,hj⟩:∃j,9-k=j+1:=⟨8-k,by omega⟩
   have hj2:9-(k+1)=j:=by omega
   rw [hj2] at hq he
   refine ⟨c.toNat % 128+128*q,?_,?_,by omega,by omega,hm10,?_,?_⟩
   ·rw [hn,Nat.pow_succ,Nat.mul_add,Nat.mul_assoc];omega
   ·rw [hj,Nat.pow_succ];omega
   ·simp;omega
   ·rw [hj,enc_big j _ (by omega)]
    have e1:(c.toNat % 128+128*q) % 128=c.toNat % 128:=by omega
    have e2:(c.toNat % 128+128*q) / 128=q:=by omega
    have e3:128+c.toNat % 128=c.toNat:=by omega
    rw [e1,e2,e3,he]
    obtain ⟨i,hi⟩:∃i,m-k=i+1:=⟨m-(k+1),by omega⟩
    have hi2:m-(k+1)=i:=by omega
    rw [hi,hi2]
    simp
theorem put_dec (l:List UInt8) (n m:Nat) (h:dec 0 0 l=(n,m,0)):n<18446744073709551616∧1≤m∧m≤10∧m≤l.length∧put n=l.take m:=by
 obtain ⟨q,hn,hq,_,h1,h2,h3,h4⟩:=enc_dec l 0 0 n m (by omega) h
 have hnq:n=q:=by simpa using hn
 subst hnq
 exact ⟨by simpa using hq,by omega,h2,by simpa using h3,by simpa [put] using h4⟩
end Go.Proofs.YtgoffkfpdigeeaaGreatDoor
