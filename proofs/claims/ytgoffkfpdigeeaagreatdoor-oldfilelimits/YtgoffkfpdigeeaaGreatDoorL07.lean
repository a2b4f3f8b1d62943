import Derived.Test.YtgoffkfpdigeeaaGreatDoorRows
import Derived.Lib.QuietBelow
import Derived.BigQuiet
import Derived.Deep.QuietTactic
import Derived.Deep.AppendLies
import Derived.Laws.OwnMore
import Derived.Lib.OthersKept
import Derived.Laws.RangeAny
import Derived.Test.YtgoffkfpdigeeaaGreatDoorL06
import Derived.Test.YtgoffkfpdigeeaaGreatDoorL01
namespace Go.Proofs.YtgoffkfpdigeeaaGreatDoor
open Go.RowKit
def chrI (c:Int):List UInt8:=if c<0∨1114111<c∨(55296≤c∧c≤57343) then [] else chr c.toNat
theorem chrI_no (c:Int) (h:c<0∨1114111<c∨(55296≤c∧c≤57343)):chrI c=[]:=if_pos h
theorem chrI_ok (c:Nat) (h:isC c):chrI (c:Int)=chr c:=by
 unfold chrI isC at *
 rw [if_neg (by omega),Int.toNat_natCast]
theorem conv_new {P:Program} (w:World) (l:List UInt8) (src dst e:TypeId) (hs:P.underlying src=some (.slice e)) (he:P.underlying e=some (.int .u8)) (hd:P.underlying dst=some .string) (cs:Array Value) (hc:cs.toList=bV l) (n:Nat) (hn:l.length=n) :
  (convert src dst (.slice (some ⟨w.heap.size,0,none⟩) n n)).run P (w.alloc (.cells cs e))=.ok (.string ⟨l.toArray⟩) (w.alloc (.cells cs e)):=by
 subst hn
 refine run_convert_bytes_back _ src dst e ⟨w.heap.size,0,none⟩ l.length l hs he hd ?_
 intro j hj
 have hadd:(⟨w.heap.size,0,none⟩:Addr).add j=⟨w.heap.size,j,none⟩:=by unfold Addr.add;split <;> simp_all
 rw [hadd,cell_of_row _ w.heap.size j _ e (0,0) (heap_alloc_new w _),← Array.getElem?_toList,hc]
 simp [bV,hj]
set_option maxRecDepth 10000 in
set_option maxHeartbeats 400000 in
theorem char_no (c:Int) (w:World) (h:c<0∨1114111<c∨(55296≤c∧c≤57343)) :
  Calls Tryz.prog 171 #[.int .i32 c] w fun e w'=>e=.returned (.string ⟨#[]⟩)∧Below w.heap.size w w':=by
 have h':c<0∨(¬c<0∧1114111<c)∨(¬c<0∧¬1114111<c∧55296≤c∧c≤57343):=by omega
 clear h
 rcases h' with h|⟨h1,h⟩|⟨h1,h2,h3,h4⟩
 all_goals
  go_enter Tryz.func171,Tryz.ntmps171
  go_wp2_with fail
  go_ret
  exact ⟨rfl,Below.refl _ _⟩
set_option maxRecDepth 10000 in
set_option maxHeartbeats 400000 in
theorem char_one (c:Nat) (w:World) (h:c<128) :
  Calls Tryz.prog 171 #[.int .i32 (c:Int)] w fun e w'=>e=.returned (.string ⟨[b8 c].toArray⟩)∧Below w.heap.size w w':=by
 have h1:¬(1114111:Int)<c:=by omega
 have h2:¬(55296:Int)≤c:=by omega
 have hcv:=conv_new (P:=Tryz.prog) w [b8 c] 85 9 5 Tryz.underlying85 Tryz.underlying5 Tryz.underlying9 #[.int .u8 (c:Int)] (by simp [bV,b8_toNat c (by omega)]) 1 rfl
 go_enter Tryz.func171,Tryz.ntmps171
 go_wp2_with fail
 go_ret
 exact ⟨rfl,(Below.refl _ _).alloc (Nat.le_refl _) _⟩
set_option maxRecDepth 10000 in
set_option maxHeartbeats 400000 in
theorem char_two (c:Nat) (w:World) (h0:128≤c) (h:c<2048) :
  Calls Tryz.prog 171 #[.int .i32 (c:Int)] w fun e w'=>e=.returned (.string ⟨[b8 (192+c / 64),b8 (128+c % 64)].toArray⟩)∧Below w.heap.size w w':=by
 have h1:¬(1114111:Int)<c:=by omega
 have h2:¬(55296:Int)≤c:=by omega
 have hcv:=conv_new (P:=Tryz.prog) w [b8 (192+c / 64),b8 (128+c % 64)] 85 9 5 Tryz.underlying85 Tryz.underlying5 Tryz.underlying9 #[.int .u8 (192+(c:Int) / 64),.int .u8 (128+(c:Int) % 64)] (by simp [bV,b8_toNat (192+c / 64) (by omega),b8_toNat (128+c % 64) (by omega)]) 2 rfl
 go_enter Tryz.func171,Tryz.ntmps171
 go_wp2_with fail
 go_ret
 exact ⟨rfl,(Below.refl _ _).alloc (Nat.le_refl _) _⟩
set_option maxRecDepth 10000 in
set_option maxHeartbeats 400000 in
theorem char_three (c:Nat) (w:World) (h0:2048≤c) (h:c<65536) (hs:c<55296∨57343<c) :
  Calls Tryz.prog 171 #[.int .i32 (c:Int)] w fun e w'=>e=.returned (.string ⟨[b8 (224+c / 4096),b8 (128+c / 64 % 64),b8 (128+c % 64)].toArray⟩)∧Below w.heap.size w w':=by
 have h1:¬(1114111:Int)<c:=by omega
 have h2:(¬(55296:Int)≤c)∨((55296:Int)≤c∧¬(c:Int)≤57343):=by omega
 have hcv:=conv_new (P:=Tryz.prog) w [b8 (224+c / 4096),b8 (128+c / 64 % 64),b8 (128+c % 64)] 85 9 5 Tryz.underlying85 Tryz.underlying5 Tryz.underlying9 #[.int .u8 (224+(c:Int) / 4096),.int .u8 (128+(c:Int) / 64 % 64),.int .u8 (128+(c:Int) % 64)] (by simp [bV,b8_toNat (224+c / 4096) (by omega),b8_toNat (128+c / 64 % 64) (by omega),b8_toNat (128+c % 64) (by omega)]) 3 rfl
 obtain ⟨q,hq⟩:∃q:Int,(c:Int) / 64=q:=⟨_,rfl⟩
 obtain ⟨q2,hq2⟩:∃q2:Int,(c:Int) / 4096=q2:=⟨_,rfl⟩
 have hqb:0≤q∧q≤1023:=by omega
 have hq2b:0≤q2∧q2≤15:=by omega
 obtain ⟨hqb1,hqb2⟩:=hqb
 obtain ⟨hq2b1,hq2b2⟩:=hq2b
 rw [hq,hq2] at hcv
 have i0:¬(c:Int)<2048:=by omega
 have i1:(c:Int)<65536:=by omega
 have i2:¬(c:Int)<128:=by omega
 have i3:¬(c:Int)<0:=by omega
 clear hs h0 h
 rcases h2 with h2|⟨h2,h3⟩
 all_goals
  go_enter Tryz.func171,Tryz.ntmps171
  go_wp2_with fail
  go_ret
  exact ⟨rfl,(Below.refl _ _).alloc (Nat.le_refl _) _⟩
set_option maxRecDepth 10000 in
set_option maxHeartbeats 400000 in
theorem char_four (c:Nat) (w:World) (h0:65536≤c) (h:c≤1114111) :
  Calls Tryz.prog 171 #[.int .i32 (c:Int)] w fun e w'=>e=.returned (.string ⟨[b8 (240+c / 262144),b8 (128+c / 4096 % 64),b8 (128+c / 64 % 64),b8 (128+c % 64)].toArray⟩)∧Below w.heap.size w w':=by
 have h1:¬(1114111:Int)<c:=by omega
 have h2:(55296:Int)≤c:=by omega
 have h3:¬(c:Int)≤57343:=by omega
 have hcv:=conv_new (P:=Tryz.prog) w [b8 (240+c / 262144),b8 (128+c / 4096 % 64),b8 (128+c / 64 % 64),b8 (128+c % 64)] 85 9 5 Tryz.underlying85 Tryz.underlying5 Tryz.underlying9 #[.int .u8 (240+(c:Int) / 262144),.int .u8 (128+(c:Int) / 4096 % 64),.int .u8 (128+(c:Int) / 64 % 64),.int .u8 (128+(c:Int) % 64)] (by simp [bV,b8_toNat (240+c / 262144) (by omega),b8_toNat (128+c / 4096 % 64) (by omega),b8_toNat (128+c / 64 % 64) (by omega),b8_toNat (128+c % 64) (by omega)]) 4 rfl
 obtain ⟨q,hq⟩:∃q:Int,(c:Int) / 64=q:=⟨_,rfl⟩
 obtain ⟨q2,hq2⟩:∃q2:Int,(c:Int) / 4096=q2:=⟨_,rfl⟩
 obtain ⟨q3,hq3⟩:∃q3:Int,(c:Int) / 262144=q3:=⟨_,rfl⟩
 have hqb:0≤q∧q≤17407:=by omega
 have hq2b:0≤q2∧q2≤271:=by omega
 have hq3b:0≤q3∧q3≤4:=by omega
 obtain ⟨hqb1,hqb2⟩:=hqb
 obtain ⟨hq2b1,hq2b2⟩:=hq2b
 obtain ⟨hq3b1,hq3b2⟩:=hq3b
 rw [hq,hq2,hq3] at hcv
 have i0:¬(c:Int)<2048:=by omega
 have i1:¬(c:Int)<65536:=by omega
 have i2:¬(c:Int)<128:=by omega
 have i3:¬(c:Int)<0:=by omega
 clear h0 h
 go_enter Tryz.func171,Tryz.ntmps171
 go_wp2_with fail
 go_ret
 exact ⟨rfl,(Below.refl _ _).alloc (Nat.le_refl _) _⟩
theorem char_any (c:Int) (w:World) :
  Calls Tryz.prog 171 #[.int .i32 c] w fun e w'=>e=.returned (.string ⟨(chrI c).toArray⟩)∧Below w.heap.size w w':=by
 by_cases h:c<0∨1114111<c∨(55296≤c∧c≤57343)
 ·rw [chrI_no c h]
  exact char_no c w h
 ·obtain ⟨n,rfl⟩:=Int.eq_ofNat_of_zero_le (show 0≤c by omega)
  rw [chrI_ok n (by unfold isC;omega)]
  unfold chr
  by_cases c1:n<128
  ·rw [if_pos c1];exact char_one n w c1
  rw [if_neg c1]
  by_cases c2:n<2048
  ·rw [if_pos c2];exact char_two n w (by omega) c2
  rw [if_neg c2]
  by_cases c3:n<65536
  ·rw [if_pos c3];exact char_three n w (by omega) c3 (by omega)
  rw [if_neg c3]
  exact char_four n w (by omega) (by omega)
def sub8 (size:Nat):Int:=if size=2 then 192 else if size=3 then 224 else if size=4 then 240 else 0
def nn (l:List UInt8) (size:Nat):Nat→Int
 | 0=>0
 | 1=>(at8 l 0:Int)-sub8 size
 | j+2=>64*nn l size (j+1)+(at8 l (j+1):Int)-128
theorem nn_range (l:List UInt8) (size:Nat):(-240≤nn l size 1∧nn l size 1≤255)∧(-20000≤nn l size 2∧nn l size 2≤20000)∧(-1300000≤nn l size 3∧nn l size 3≤1300000)∧(-90000000≤nn l size 4∧nn l size 4≤90000000):=by
 have b0:=at8_lt l 0
 have b1:=at8_lt l 1
 have b2:=at8_lt l 2
 have b3:=at8_lt l 3
 have hs:0≤sub8 size∧sub8 size≤240:=by unfold sub8;repeat' split <;> omega
 have e1:nn l size 1=(at8 l 0:Int)-sub8 size:=rfl
 have e2:nn l size 2=64*nn l size 1+(at8 l 1:Int)-128:=rfl
 have e3:nn l size 3=64*nn l size 2+(at8 l 2:Int)-128:=rfl
 have e4:nn l size 4=64*nn l size 3+(at8 l 3:Int)-128:=rfl
 omega
theorem nn_of (l:List UInt8) (c n:Nat) (h:isC c) (hn:n≤l.length) (he:chr c=l.take n):nn l n n=(c:Int):=by
 have hl:=congrArg List.length he
 rw [List.length_take,Nat.min_eq_left hn] at hl
 have hg:∀k (hk:k<(chr c).length),at8 l k=((chr c)[k]).toNat:=fun k hk=>by
  have h2:(chr c)[k]=(l.take n)[k]'(by rw [← he];exact hk):=by simp [he]
  rw [h2,List.getElem_take]
  unfold at8
  rw [List.getD_eq_getElem?_getD,List.getElem?_eq_getElem (by omega)]
  rfl
 obtain ⟨h1,h2⟩:=h
 have e1:nn l n 1=(at8 l 0:Int)-sub8 n:=rfl
 have e2:nn l n 2=64*nn l n 1+(at8 l 1:Int)-128:=rfl
 have e3:nn l n 3=64*nn l n 2+(at8 l 2:Int)-128:=rfl
 have e4:nn l n 4=64*nn l n 3+(at8 l 3:Int)-128:=rfl
 by_cases c1:c<128
 ·have hc:chr c=[b8 c]:=by unfold chr;rw [if_pos c1]
  simp only [hc] at hg hl
  have g0:=hg 0 (by simp)
  simp only [List.getElem_cons_zero,b8_toNat c (by omega)] at g0
  obtain rfl:n=1:=by simp at hl;omega
  rw [e1,g0]
  rfl
 by_cases c2:c<2048
 ·have hc:chr c=[b8 (192+c / 64),b8 (128+c % 64)]:=by unfold chr;rw [if_neg c1,if_pos c2]
  simp only [hc] at hg hl
  have g0:=hg 0 (by simp)
  have g1:=hg 1 (by simp)
  simp only [List.getElem_cons_zero,List.getElem_cons_succ,b8_toNat (192+c / 64) (by omega),b8_toNat (128+c % 64) (by omega)] at g0 g1
  obtain rfl:n=2:=by simp at hl;omega
  rw [e2,e1,g0,g1]
  show 64*(((192+c / 64:Nat):Int)-192)+_-128=_
  omega
 by_cases c3:c<65536
 ·have hc:chr c=[b8 (224+c / 4096),b8 (128+c / 64 % 64),b8 (128+c % 64)]:=by unfold chr;rw [if_neg c1,if_neg c2,if_pos c3]
  simp only [hc] at hg hl
  have g0:=hg 0 (by simp)
  have g1:=hg 1 (by simp)
  have g2:=hg 2 (by simp)
  simp only [List.getElem_cons_zero,List.getElem_cons_succ,b8_toNat (224+c / 4096) (by omega),b8_toNat (128+c / 64 % 64) (by omega),b8_toNat (128+c % 64) (by omega)] at g0 g1 g2
  obtain rfl:n=3:=by simp at hl;omega
  rw [e3,e2,e1,g0,g1,g2]
  show 64*(64*(((224+c / 4096:Nat):Int)-224)+_-128)+_-128=_
  omega
 ·have hc:chr c=[b8 (240+c / 262144),b8 (128+c / 4096 % 64),b8 (128+c / 64 % 64),b8 (128+c % 64)]:=by unfold chr;rw [if_neg c1,if_neg c2,if_neg c3]
  simp only [hc] at hg hl
  have g0:=hg 0 (by simp)
  have g1:=hg 1 (by simp)
  have g2:=hg 2 (by simp)
  have g3:=hg 3 (by simp)
  simp only [List.getElem_cons_zero,List.getElem_cons_succ,b8_toNat (240+c / 262144) (by omega),b8_toNat (128+c / 4096 % 64) (by omega),b8_toNat (128+c / 64 % 64) (by omega),b8_toNat (128+c % 64) (by omega)] at g0 g1 g2 g3
  obtain rfl:n=4:=by simp at hl;omega
  rw [e4,e3,e2,e1,g0,g1,g2,g3]
  show 64*(64*(64*(((240+c / 262144:Nat):Int)-240)+_-128)+_-128)+_-128=_
  omega
theorem at_asks (l:List UInt8) (n:Nat) (h1:1≤n) (hn:n≤l.length):(0≤nn l n n∧nn l n n≤1114111∧chrI (nn l n n)=l.take n)↔(dec8 l).2=n:=by
 constructor
 ·rintro ⟨a1,a2,a3⟩
  obtain ⟨c,hc⟩:=Int.eq_ofNat_of_zero_le a1
  rw [hc] at a2 a3
  by_cases hi:isC c
  ·rw [chrI_ok c hi] at a3
   rw [dec8_take l c n hi hn a3]
  ·exfalso
   rw [chrI_no _ (by unfold isC at hi;omega)] at a3
   have:=congrArg List.length a3
   rw [List.length_take,List.length_nil] at this
   omega
 ·intro h
  obtain ⟨d1,d2,d3,_⟩:=dec8_ok l (by omega)
  rw [h] at d3
  have e:=nn_of l _ n d1 hn d3
  rw [e,chrI_ok _ d1,d3]
  unfold isC at d1
  exact ⟨by omega,by omega,rfl⟩
theorem at_val (l:List UInt8) (n:Nat) (h1:1≤n) (hn:n≤l.length) (h:(dec8 l).2=n):nn l n n=((dec8 l).1:Int):=by
 obtain ⟨d1,d2,d3,_⟩:=dec8_ok l (by omega)
 rw [h] at d3
 exact nn_of l _ n d1 hn d3
end Go.Proofs.YtgoffkfpdigeeaaGreatDoor
namespace Go.Proofs.YtgoffkfpdigeeaaGreatDoor
open Go.RowKit
theorem dec8_four (l:List UInt8):(dec8 l).2≤4:=by
 by_cases h:(dec8 l).2=0
 ·omega
 ·obtain ⟨_,_,_,d4⟩:=dec8_ok l h
  have:=chr_length (dec8 l).1
  omega
theorem w64 (n:Nat) (h:n<256):wrap64 (n:Int)=n:=by unfold wrap64;omega
theorem at8_is (s:ByteArray) (a k:Nat) (h:a+k<s.size):at8 (s.data.toList.drop a) k=s[a+k].toNat:=by
 rw [at8_drop s a k h]
 simp [ByteArray.get!,getElem!_pos,h]
 rfl
theorem take_ext (s:ByteArray) (a n:Nat):(s.extract a (a+n)).data.toList=(s.data.toList.drop a).take n:=by
 rw [Lib.extract_data,show a+n-a=n by omega]
set_option maxRecDepth 10000 in
set_option maxHeartbeats 1600000 in
theorem at_any (s:ByteArray) (a:Nat) (w:World) (ha:a<s.size) (hs:s.size≤100000) :
  Calls Tryz.prog 152 #[.string s,.int .i64 (a:Int)] w fun e w'=>e=.returned (.tuple #[.int .i32 ((dec8 (s.data.toList.drop a)).1:Nat),.int .i64 ((dec8 (s.data.toList.drop a)).2:Nat)])∧Below w.heap.size w w':=by
 have hl:(s.data.toList.drop a).length=s.size-a:=by rw [List.length_drop,Array.length_toList];rfl
 have h4:=dec8_four (s.data.toList.drop a)
 have hle:(dec8 (s.data.toList.drop a)).2≤s.size-a:=by
  by_cases h:(dec8 (s.data.toList.drop a)).2=0
  ·omega
  ·have:=(dec8_ok _ h).2.1;omega
 have hz:=dec8_zero (s.data.toList.drop a)
 have H8:Hid (∀k (h:a+k<s.size),at8 (s.data.toList.drop a) k=s[a+k].toNat):=fun k h=>at8_is s a k h
 have HT:Hid (∀n,(s.extract a (a+n)).data.toList=(s.data.toList.drop a).take n):=fun n=>take_ext s a n
 have HQ:Hid (∀n,1≤n→n≤s.size-a→((0≤nn (s.data.toList.drop a) n n∧nn (s.data.toList.drop a) n n≤1114111∧chrI (nn (s.data.toList.drop a) n n)=(s.data.toList.drop a).take n)↔(dec8 (s.data.toList.drop a)).2=n)):=fun n h1 h2=>at_asks _ n h1 (by omega)
 have HV:Hid (∀n,1≤n→n≤s.size-a→(dec8 (s.data.toList.drop a)).2=n→nn (s.data.toList.drop a) n n=((dec8 (s.data.toList.drop a)).1:Int)):=fun n h1 h2 h3=>at_val _ n h1 (by omega) h3
 generalize s.data.toList.drop a=l at *
 obtain ⟨D,hD⟩:∃D,dec8 l=D:=⟨_,rfl⟩
 rw [hD] at h4 hle hz HQ HV ⊢
 have HZ:Hid _:=hz
 have H4:Hid _:=h4
 have HL:Hid _:=hle
 clear hD hz h4 hle hl
 go_enter Tryz.func152,Tryz.ntmps152
 go_wp2_with fail
 go_loopw [6] (fun sv wr=>∃n:Nat,sv=.int .i64 n∧1≤n∧n≤5∧Hid (∀j,1≤j→j<n→D.2≠j)∧Below w.heap.size w wr) (fun sv _=>5-(intOf sv).toNat)
 case atStart=>exact ⟨1,rfl,by omega,by omega,fun j h1 h2=>by omega,Below.refl _ _⟩
 case round=>
  obtain ⟨n,rfl,hn1,hn5,HN,hB⟩:=hrel
  by_cases h5:n=5
  ·subst h5
   have HE:Hid (D=(0,0)):=HZ.out (by have h1:=HN.out;have h2:=H4.out;have:=h1 1;have:=h1 2;have:=h1 3;have:=h1 4;omega)
   go_wp2_with fail
   go_ret2
   rw [HE.out]
   exact ⟨rfl,hB⟩
  ·by_cases hin:a+n≤s.size
   ·have hin':(a:Int)+n≤s.size:=by omega
    have h4':n=1∨n=2∨n=3∨n=4:=by omega
    have hai:(a:Int)<s.size:=by omega
    have g0:=H8.out 0 (by omega)
    simp only [Nat.add_zero] at g0
    have hw0:=w64 s[a].toNat s[a].toNat_lt
    have HR:Hid _:=nn_range l n
    have HS:Hid (nn l n 1=(s[a].toNat:Int)-sub8 n):=by show _=_;rw [← g0];rfl
    have HJ:Hid (∀j (h1:1≤j) (h2:j<n),nn l n (j+1)=64*nn l n j+(s[a+j]'(by omega)).toNat-128):=fun j h1 h2=>by
     obtain ⟨k,rfl⟩:∃k,j=k+1:=⟨j-1,by omega⟩
     rw [← H8.out (k+1) (by omega)]
     rfl
    have HB:Hid (∀j,1≤j→j<n→-1300000≤nn l n j∧nn l n j≤1300000):=fun j h1 h2=>by
     obtain ⟨r1,r2,r3,r4⟩:=HR.out
     have:j=1∨j=2∨j=3:=by omega
     rcases this with rfl|rfl|rfl <;> omega
    have HBn:Hid (-90000000≤nn l n n∧nn l n n≤90000000):=by
     obtain ⟨r1,r2,r3,r4⟩:=HR.out
     rcases h4' with rfl|rfl|rfl|rfl
     ·exact ⟨by omega,by omega⟩
     ·exact ⟨by omega,by omega⟩
     ·exact ⟨by omega,by omega⟩
     ·exact ⟨by omega,by omega⟩
    have HQn:Hid _:=HQ.out n hn1 (by omega)
    have HVn:Hid _:=HV.out n hn1 (by omega)
    have HTn:Hid _:=HT.out n
    have hn4:(n:Int)≤4:=by omega
    clear g0 HR H8 HQ HV HT HZ H4 HL
    have HST:Hid ((n=1→nn l n 1=(s[a].toNat:Int))∧(n=2→nn l n 1=(s[a].toNat:Int)-192)∧(n=3→nn l n 1=(s[a].toNat:Int)-224)∧(n=4→nn l n 1=(s[a].toNat:Int)-240)):=by
     have:=HS.out
     refine ⟨fun h=>?_,fun h=>?_,fun h=>?_,fun h=>?_⟩ <;> (subst h;rw [this];simp [sub8])
    have hx:=s[a].toNat_lt
    clear HS
    rcases h4' with rfl|rfl|rfl|rfl
    ·have HI:Hid (nn l 1 1=(s[a].toNat:Int)):=HST.out.1 rfl
     go_wp2_with fail
     go_loopw [7,8] (fun nv kv wr=>∃j:Nat,nv=.int .i64 (nn l 1 j)∧kv=.int .i64 j∧1≤j∧j≤1∧Below w.heap.size w wr) (fun _ kv _=>1-(intOf kv).toNat)
     case atStart=>exact ⟨1,by rw [HI.out],rfl,by omega,by omega,hB⟩
     case round=>
      obtain ⟨j,rfl,rfl,hj1,hj2,hC⟩:=hrel
      by_cases hjn:j<1
      ·exfalso;omega
      ·obtain rfl:j=1:=by omega
       obtain ⟨hb1,hb2⟩:=HBn.out
       have hjn':True:=trivial
       have cC:=fun (W:World)=>char_any (nn l 1 1) W
       have hd1:(ByteArray.mk (chrI (nn l 1 1)).toArray).data.toList=chrI (nn l 1 1):=rfl
       have hQ:=HQn.out
       have hV:=HVn.out
       rw [← hd1,← HTn.out] at hQ
       generalize ByteArray.mk (chrI (nn l 1 1)).toArray=X at *
       generalize nn l 1 1=N at *
       have hcmp:(X.toList==(s.extract a (a+1)).toList)=decide (X.data.toList=(s.extract a (a+1)).data.toList):=by
        rw [ByteArray.toList_eq,ByteArray.toList_eq];simp [Bool.beq_eq_decide_eq]
       have hTo:((a:Int)+1).toNat=a+1:=by omega
       have hWr:IntKind.i64.wrap ((a:Int)+1)=(a:Int)+1:=by rw [IntKind.wrap_i64];omega
       have hwN:IntKind.i32.wrap N=N:=by rw [IntKind.wrap_i32];omega
       have g1:(a:Int)+1≤s.size:=by omega
       have g2:(0:Int)≤(a:Int)+1:=by omega
       have g3:(a:Int)≤(a:Int)+1:=by omega
       have KC:∀d os,Calls Tryz.prog 171 #[.int .i32 N] (Go.Sort.grow (redrawn wr d) os) fun e w''=>e=.returned (.string X)∧∃p:Regrown,w''=Go.Sort.grow (redrawn wr p.d) p.os:=fun d os=>Calls.regrown_of (cC _)
       have hcases:(D.2=1∧decide (0≤N)=true∧decide (N≤1114111)=true∧(X.toList==(s.extract a (a+1)).toList)=true)∨(D.2≠1∧(decide (0≤N)=false∨(decide (0≤N)=true∧decide (N≤1114111)=false)∨(decide (0≤N)=true∧decide (N≤1114111)=true∧(X.toList==(s.extract a (a+1)).toList)=false))):=by
        by_cases hd:D.2=1
        ·obtain ⟨q1,q2,q3⟩:=hQ.2 hd
         exact .inl ⟨hd,decide_eq_true q1,decide_eq_true q2,by rw [hcmp,decide_eq_true q3]⟩
        ·refine .inr ⟨hd,?_⟩
         by_cases q1:0≤N
         ·by_cases q2:N≤1114111
          ·exact .inr (.inr ⟨decide_eq_true q1,decide_eq_true q2,by rw [hcmp];exact decide_eq_false (fun q3=>hd (hQ.1 ⟨q1,q2,q3⟩))⟩)
          ·exact .inr (.inl ⟨decide_eq_true q1,decide_eq_false q2⟩)
         ·exact .inl (decide_eq_false q1)
       have HV2:Hid (D.2=1→N=(D.1:Int)):=hV
       clear hQ hV hcmp cC hd1 HQn HVn HTn HST HB HBn HJ
       rcases hcases with ⟨hd,q1,q2,q3⟩|⟨hd,q1|⟨q1,q2⟩|⟨q1,q2,q3⟩⟩
       ·have HD2:Hid (D.2=1∧N=(D.1:Int)):=⟨hd,HV2.out hd⟩
        clear hd HV2
        go_wp2_with fail
        refine wp_region_quiet_below (by kernel_rfl) (by kernel_rfl) ?_
        repeat (first|go_big_quiet_step (first|(go_at_call 171;exact KC _ _))|quiet_step (first|(go_at_call 171;exact KC _ _)))
        refine wpQuiet_nil ?_
        intro _ hw'
        obtain ⟨⟨dq,osq⟩,hw2⟩:=hw'
        subst hw2
        have hC2:=hC.trans ((below_regrown wr dq osq).mono hC.size)
        have p1:=of_decide_eq_true q1
        have p2:=of_decide_eq_true q2
        clear q1 q2
        go_wp2_with fail
        go_ret2
        obtain ⟨e1,e2⟩:=HD2.out
        refine ⟨?_,hC2⟩
        rw [e1,← e2]
        rfl
       all_goals
        have HN3:Hid (∀i,1≤i→i<1+1→D.2≠i):=fun i h1 h2=>by
         by_cases hij:i=1
         ·rw [hij];exact hd
         ·exact HN.out i h1 (by omega)
        clear hd HV2
        go_wp2_with fail
        refine wp_region_quiet_below (by kernel_rfl) (by kernel_rfl) ?_
        repeat (first|go_big_quiet_step (first|(go_at_call 171;exact KC _ _))|quiet_step (first|(go_at_call 171;exact KC _ _)))
        refine wpQuiet_nil ?_
        intro _ hw'
        obtain ⟨⟨dq,osq⟩,hw2⟩:=hw'
        subst hw2
        have hC2:=hC.trans ((below_regrown wr dq osq).mono hC.size)
        go_wp2_with fail
        go_roundw
        case rel=>exact ⟨1+1,by go_num,by omega,by omega,HN3,hC2⟩
        case measure=>simp [intOf]
    ·have HI:Hid (nn l 2 1=(s[a].toNat:Int)-192):=HST.out.2.1 rfl
     go_wp2_with fail
     go_loopw [7,8] (fun nv kv wr=>∃j:Nat,nv=.int .i64 (nn l 2 j)∧kv=.int .i64 j∧1≤j∧j≤2∧Below w.heap.size w wr) (fun _ kv _=>2-(intOf kv).toNat)
     case atStart=>exact ⟨1,by rw [HI.out],rfl,by omega,by omega,hB⟩
     case round=>
      obtain ⟨j,rfl,rfl,hj1,hj2,hC⟩:=hrel
      by_cases hjn:j<2
      ·obtain ⟨hb1,hb2⟩:=HB.out j hj1 hjn
       have hjs:=HJ.out j hj1 hjn
       have hy:=(s[a+j]'(by omega)).toNat_lt
       have haj:(a:Int)+j<s.size:=by omega
       have hjn':(j:Int)<2:=by omega
       have HN2:Hid (nn l 2 (j+1)=64*nn l 2 j+(s[a+j]'(by omega)).toNat-128):=hjs
       clear hjs
       generalize nn l 2 j=N at *
       go_wp2_with fail
       go_roundw
       case rel=>exact ⟨j+1,by rw [HN2.out],by go_num,by omega,by omega,hC⟩
       case measure=>simp [intOf];omega
      ·obtain rfl:j=2:=by omega
       obtain ⟨hb1,hb2⟩:=HBn.out
       have hjn':True:=trivial
       have cC:=fun (W:World)=>char_any (nn l 2 2) W
       have hd1:(ByteArray.mk (chrI (nn l 2 2)).toArray).data.toList=chrI (nn l 2 2):=rfl
       have hQ:=HQn.out
       have hV:=HVn.out
       rw [← hd1,← HTn.out] at hQ
       generalize ByteArray.mk (chrI (nn l 2 2)).toArray=X at *
       generalize nn l 2 2=N at *
       have hcmp:(X.toList==(s.extract a (a+2)).toList)=decide (X.data.toList=(s.extract a (a+2)).data.toList):=by
        rw [ByteArray.toList_eq,ByteArray.toList_eq];simp [Bool.beq_eq_decide_eq]
       have hTo:((a:Int)+2).toNat=a+2:=by omega
       have hWr:IntKind.i64.wrap ((a:Int)+2)=(a:Int)+2:=by rw [IntKind.wrap_i64];omega
       have hwN:IntKind.i32.wrap N=N:=by rw [IntKind.wrap_i32];omega
       have g1:(a:Int)+2≤s.size:=by omega
       have g2:(0:Int)≤(a:Int)+2:=by omega
       have g3:(a:Int)≤(a:Int)+2:=by omega
       have KC:∀d os,Calls Tryz.prog 171 #[.int .i32 N] (Go.Sort.grow (redrawn wr d) os) fun e w''=>e=.returned (.string X)∧∃p:Regrown,w''=Go.Sort.grow (redrawn wr p.d) p.os:=fun d os=>Calls.regrown_of (cC _)
       have hcases:(D.2=2∧decide (0≤N)=true∧decide (N≤1114111)=true∧(X.toList==(s.extract a (a+2)).toList)=true)∨(D.2≠2∧(decide (0≤N)=false∨(decide (0≤N)=true∧decide (N≤1114111)=false)∨(decide (0≤N)=true∧decide (N≤1114111)=true∧(X.toList==(s.extract a (a+2)).toList)=false))):=by
        by_cases hd:D.2=2
        ·obtain ⟨q1,q2,q3⟩:=hQ.2 hd
         exact .inl ⟨hd,decide_eq_true q1,decide_eq_true q2,by rw [hcmp,decide_eq_true q3]⟩
        ·refine .inr ⟨hd,?_⟩
         by_cases q1:0≤N
         ·by_cases q2:N≤1114111
          ·exact .inr (.inr ⟨decide_eq_true q1,decide_eq_true q2,by rw [hcmp];exact decide_eq_false (fun q3=>hd (hQ.1 ⟨q1,q2,q3⟩))⟩)
          ·exact .inr (.inl ⟨decide_eq_true q1,decide_eq_false q2⟩)
         ·exact .inl (decide_eq_false q1)
       have HV2:Hid (D.2=2→N=(D.1:Int)):=hV
       clear hQ hV hcmp cC hd1 HQn HVn HTn HST HB HBn HJ
       rcases hcases with ⟨hd,q1,q2,q3⟩|⟨hd,q1|⟨q1,q2⟩|⟨q1,q2,q3⟩⟩
       ·have HD2:Hid (D.2=2∧N=(D.1:Int)):=⟨hd,HV2.out hd⟩
        clear hd HV2
        go_wp2_with fail
        refine wp_region_quiet_below (by kernel_rfl) (by kernel_rfl) ?_
        repeat (first|go_big_quiet_step (first|(go_at_call 171;exact KC _ _))|quiet_step (first|(go_at_call 171;exact KC _ _)))
        refine wpQuiet_nil ?_
        intro _ hw'
        obtain ⟨⟨dq,osq⟩,hw2⟩:=hw'
        subst hw2
        have hC2:=hC.trans ((below_regrown wr dq osq).mono hC.size)
        have p1:=of_decide_eq_true q1
        have p2:=of_decide_eq_true q2
        clear q1 q2
        go_wp2_with fail
        go_ret2
        obtain ⟨e1,e2⟩:=HD2.out
        refine ⟨?_,hC2⟩
        rw [e1,← e2]
        rfl
       all_goals
        have HN3:Hid (∀i,1≤i→i<2+1→D.2≠i):=fun i h1 h2=>by
         by_cases hij:i=2
         ·rw [hij];exact hd
         ·exact HN.out i h1 (by omega)
        clear hd HV2
        go_wp2_with fail
        refine wp_region_quiet_below (by kernel_rfl) (by kernel_rfl) ?_
        repeat (first|go_big_quiet_step (first|(go_at_call 171;exact KC _ _))|quiet_step (first|(go_at_call 171;exact KC _ _)))
        refine wpQuiet_nil ?_
        intro _ hw'
        obtain ⟨⟨dq,osq⟩,hw2⟩:=hw'
        subst hw2
        have hC2:=hC.trans ((below_regrown wr dq osq).mono hC.size)
        go_wp2_with fail
        go_roundw
        case rel=>exact ⟨2+1,by go_num,by omega,by omega,HN3,hC2⟩
        case measure=>simp [intOf]
    ·have HI:Hid (nn l 3 1=(s[a].toNat:Int)-224):=HST.out.2.2.1 rfl
     go_wp2_with fail
     go_loopw [7,8] (fun nv kv wr=>∃j:Nat,nv=.int .i64 (nn l 3 j)∧kv=.int .i64 j∧1≤j∧j≤3∧Below w.heap.size w wr) (fun _ kv _=>3-(intOf kv).toNat)
     case atStart=>exact ⟨1,by rw [HI.out],rfl,by omega,by omega,hB⟩
     case round=>
      obtain ⟨j,rfl,rfl,hj1,hj2,hC⟩:=hrel
      by_cases hjn:j<3
      ·obtain ⟨hb1,hb2⟩:=HB.out j hj1 hjn
       have hjs:=HJ.out j hj1 hjn
       have hy:=(s[a+j]'(by omega)).toNat_lt
       have haj:(a:Int)+j<s.size:=by omega
       have hjn':(j:Int)<3:=by omega
       have HN2:Hid (nn l 3 (j+1)=64*nn l 3 j+(s[a+j]'(by omega)).toNat-128):=hjs
       clear hjs
       generalize nn l 3 j=N at *
       go_wp2_with fail
       go_roundw
       case rel=>exact ⟨j+1,by rw [HN2.out],by go_num,by omega,by omega,hC⟩
       case measure=>simp [intOf];omega
      ·obtain rfl:j=3:=by omega
       obtain ⟨hb1,hb2⟩:=HBn.out
       have hjn':True:=trivial
       have cC:=fun (W:World)=>char_any (nn l 3 3) W
       have hd1:(ByteArray.mk (chrI (nn l 3 3)).toArray).data.toList=chrI (nn l 3 3):=rfl
       have hQ:=HQn.out
       have hV:=HVn.out
       rw [← hd1,← HTn.out] at hQ
       generalize ByteArray.mk (chrI (nn l 3 3)).toArray=X at *
       generalize nn l 3 3=N at *
       have hcmp:(X.toList==(s.extract a (a+3)).toList)=decide (X.data.toList=(s.extract a (a+3)).data.toList):=by
        rw [ByteArray.toList_eq,ByteArray.toList_eq];simp [Bool.beq_eq_decide_eq]
       have hTo:((a:Int)+3).toNat=a+3:=by omega
       have hWr:IntKind.i64.wrap ((a:Int)+3)=(a:Int)+3:=by rw [IntKind.wrap_i64];omega
       have hwN:IntKind.i32.wrap N=N:=by rw [IntKind.wrap_i32];omega
       have g1:(a:Int)+3≤s.size:=by omega
       have g2:(0:Int)≤(a:Int)+3:=by omega
       have g3:(a:Int)≤(a:Int)+3:=by omega
       have KC:∀d os,Calls Tryz.prog 171 #[.int .i32 N] (Go.Sort.grow (redrawn wr d) os) fun e w''=>e=.returned (.string X)∧∃p:Regrown,w''=Go.Sort.grow (redrawn wr p.d) p.os:=fun d os=>Calls.regrown_of (cC _)
       have hcases:(D.2=3∧decide (0≤N)=true∧decide (N≤1114111)=true∧(X.toList==(s.extract a (a+3)).toList)=true)∨(D.2≠3∧(decide (0≤N)=false∨(decide (0≤N)=true∧decide (N≤1114111)=false)∨(decide (0≤N)=true∧decide (N≤1114111)=true∧(X.toList==(s.extract a (a+3)).toList)=false))):=by
        by_cases hd:D.2=3
        ·obtain ⟨q1,q2,q3⟩:=hQ.2 hd
         exact .inl ⟨hd,decide_eq_true q1,decide_eq_true q2,by rw [hcmp,decide_eq_true q3]⟩
        ·refine .inr ⟨hd,?_⟩
         by_cases q1:0≤N
         ·by_cases q2:N≤1114111
          ·exact .inr (.inr ⟨decide_eq_true q1,decide_eq_true q2,by rw [hcmp];exact decide_eq_false (fun q3=>hd (hQ.1 ⟨q1,q2,q3⟩))⟩)
          ·exact .inr (.inl ⟨decide_eq_true q1,decide_eq_false q2⟩)
         ·exact .inl (decide_eq_false q1)
       have HV2:Hid (D.2=3→N=(D.1:Int)):=hV
       clear hQ hV hcmp cC hd1 HQn HVn HTn HST HB HBn HJ
       rcases hcases with ⟨hd,q1,q2,q3⟩|⟨hd,q1|⟨q1,q2⟩|⟨q1,q2,q3⟩⟩
       ·have HD2:Hid (D.2=3∧N=(D.1:Int)):=⟨hd,HV2.out hd⟩
        clear hd HV2
        go_wp2_with fail
        refine wp_region_quiet_below (by kernel_rfl) (by kernel_rfl) ?_
        repeat (first|go_big_quiet_step (first|(go_at_call 171;exact KC _ _))|quiet_step (first|(go_at_call 171;exact KC _ _)))
        refine wpQuiet_nil ?_
        intro _ hw'
        obtain ⟨⟨dq,osq⟩,hw2⟩:=hw'
        subst hw2
        have hC2:=hC.trans ((below_regrown wr dq osq).mono hC.size)
        have p1:=of_decide_eq_true q1
        have p2:=of_decide_eq_true q2
        clear q1 q2
        go_wp2_with fail
        go_ret2
        obtain ⟨e1,e2⟩:=HD2.out
        refine ⟨?_,hC2⟩
        rw [e1,← e2]
        rfl
       all_goals
        have HN3:Hid (∀i,1≤i→i<3+1→D.2≠i):=fun i h1 h2=>by
         by_cases hij:i=3
         ·rw [hij];exact hd
         ·exact HN.out i h1 (by omega)
        clear hd HV2
        go_wp2_with fail
        refine wp_region_quiet_below (by kernel_rfl) (by kernel_rfl) ?_
        repeat (first|go_big_quiet_step (first|(go_at_call 171;exact KC _ _))|quiet_step (first|(go_at_call 171;exact KC _ _)))
        refine wpQuiet_nil ?_
        intro _ hw'
        obtain ⟨⟨dq,osq⟩,hw2⟩:=hw'
        subst hw2
        have hC2:=hC.trans ((below_regrown wr dq osq).mono hC.size)
        go_wp2_with fail
        go_roundw
        case rel=>exact ⟨3+1,by go_num,by omega,by omega,HN3,hC2⟩
        case measure=>simp [intOf]
    ·have HI:Hid (nn l 4 1=(s[a].toNat:Int)-240):=HST.out.2.2.2 rfl
     go_wp2_with fail
     go_loopw [7,8] (fun nv kv wr=>∃j:Nat,nv=.int .i64 (nn l 4 j)∧kv=.int .i64 j∧1≤j∧j≤4∧Below w.heap.size w wr) (fun _ kv _=>4-(intOf kv).toNat)
     case atStart=>exact ⟨1,by rw [HI.out],rfl,by omega,by omega,hB⟩
     case round=>
      obtain ⟨j,rfl,rfl,hj1,hj2,hC⟩:=hrel
      by_cases hjn:j<4
      ·obtain ⟨hb1,hb2⟩:=HB.out j hj1 hjn
       have hjs:=HJ.out j hj1 hjn
       have hy:=(s[a+j]'(by omega)).toNat_lt
       have haj:(a:Int)+j<s.size:=by omega
       have hjn':(j:Int)<4:=by omega
       have HN2:Hid (nn l 4 (j+1)=64*nn l 4 j+(s[a+j]'(by omega)).toNat-128):=hjs
       clear hjs
       generalize nn l 4 j=N at *
       go_wp2_with fail
       go_roundw
       case rel=>exact ⟨j+1,by rw [HN2.out],by go_num,by omega,by omega,hC⟩
       case measure=>simp [intOf];omega
      ·obtain rfl:j=4:=by omega
       obtain ⟨hb1,hb2⟩:=HBn.out
       have hjn':True:=trivial
       have cC:=fun (W:World)=>char_any (nn l 4 4) W
       have hd1:(ByteArray.mk (chrI (nn l 4 4)).toArray).data.toList=chrI (nn l 4 4):=rfl
       have hQ:=HQn.out
       have hV:=HVn.out
       rw [← hd1,← HTn.out] at hQ
       generalize ByteArray.mk (chrI (nn l 4 4)).toArray=X at *
       generalize nn l 4 4=N at *
       have hcmp:(X.toList==(s.extract a (a+4)).toList)=decide (X.data.toList=(s.extract a (a+4)).data.toList):=by
        rw [ByteArray.toList_eq,ByteArray.toList_eq];simp [Bool.beq_eq_decide_eq]
       have hTo:((a:Int)+4).toNat=a+4:=by omega
       have hWr:IntKind.i64.wrap ((a:Int)+4)=(a:Int)+4:=by rw [IntKind.wrap_i64];omega
       have hwN:IntKind.i32.wrap N=N:=by rw [IntKind.wrap_i32];omega
       have g1:(a:Int)+4≤s.size:=by omega
       have g2:(0:Int)≤(a:Int)+4:=by omega
       have g3:(a:Int)≤(a:Int)+4:=by omega
       have KC:∀d os,Calls Tryz.prog 171 #[.int .i32 N] (Go.Sort.grow (redrawn wr d) os) fun e w''=>e=.returned (.string X)∧∃p:Regrown,w''=Go.Sort.grow (redrawn wr p.d) p.os:=fun d os=>Calls.regrown_of (cC _)
       have hcases:(D.2=4∧decide (0≤N)=true∧decide (N≤1114111)=true∧(X.toList==(s.extract a (a+4)).toList)=true)∨(D.2≠4∧(decide (0≤N)=false∨(decide (0≤N)=true∧decide (N≤1114111)=false)∨(decide (0≤N)=true∧decide (N≤1114111)=true∧(X.toList==(s.extract a (a+4)).toList)=false))):=by
        by_cases hd:D.2=4
        ·obtain ⟨q1,q2,q3⟩:=hQ.2 hd
         exact .inl ⟨hd,decide_eq_true q1,decide_eq_true q2,by rw [hcmp,decide_eq_true q3]⟩
        ·refine .inr ⟨hd,?_⟩
         by_cases q1:0≤N
         ·by_cases q2:N≤1114111
          ·exact .inr (.inr ⟨decide_eq_true q1,decide_eq_true q2,by rw [hcmp];exact decide_eq_false (fun q3=>hd (hQ.1 ⟨q1,q2,q3⟩))⟩)
          ·exact .inr (.inl ⟨decide_eq_true q1,decide_eq_false q2⟩)
         ·exact .inl (decide_eq_false q1)
       have HV2:Hid (D.2=4→N=(D.1:Int)):=hV
       clear hQ hV hcmp cC hd1 HQn HVn HTn HST HB HBn HJ
       rcases hcases with ⟨hd,q1,q2,q3⟩|⟨hd,q1|⟨q1,q2⟩|⟨q1,q2,q3⟩⟩
       ·have HD2:Hid (D.2=4∧N=(D.1:Int)):=⟨hd,HV2.out hd⟩
        clear hd HV2
        go_wp2_with fail
        refine wp_region_quiet_below (by kernel_rfl) (by kernel_rfl) ?_
        repeat (first|go_big_quiet_step (first|(go_at_call 171;exact KC _ _))|quiet_step (first|(go_at_call 171;exact KC _ _)))
        refine wpQuiet_nil ?_
        intro _ hw'
        obtain ⟨⟨dq,osq⟩,hw2⟩:=hw'
        subst hw2
        have hC2:=hC.trans ((below_regrown wr dq osq).mono hC.size)
        have p1:=of_decide_eq_true q1
        have p2:=of_decide_eq_true q2
        clear q1 q2
        go_wp2_with fail
        go_ret2
        obtain ⟨e1,e2⟩:=HD2.out
        refine ⟨?_,hC2⟩
        rw [e1,← e2]
        rfl
       all_goals
        have HN3:Hid (∀i,1≤i→i<4+1→D.2≠i):=fun i h1 h2=>by
         by_cases hij:i=4
         ·rw [hij];exact hd
         ·exact HN.out i h1 (by omega)
        clear hd HV2
        go_wp2_with fail
        refine wp_region_quiet_below (by kernel_rfl) (by kernel_rfl) ?_
        repeat (first|go_big_quiet_step (first|(go_at_call 171;exact KC _ _))|quiet_step (first|(go_at_call 171;exact KC _ _)))
        refine wpQuiet_nil ?_
        intro _ hw'
        obtain ⟨⟨dq,osq⟩,hw2⟩:=hw'
        subst hw2
        have hC2:=hC.trans ((below_regrown wr dq osq).mono hC.size)
        go_wp2_with fail
        go_roundw
        case rel=>exact ⟨4+1,by go_num,by omega,by omega,HN3,hC2⟩
        case measure=>simp [intOf]
   ·have hin':¬(a:Int)+n≤s.size:=by omega
    have hn4:(n:Int)≤4:=by omega
    have HE:Hid (D=(0,0)):=HZ.out (by
     have h1:=HN.out
     have h2:=HL.out
     by_cases hd:D.2=0
     ·exact hd
     ·exact absurd rfl (h1 D.2 (by omega) (by omega)))
    go_wp2_with fail
    go_ret2
    rw [HE.out]
    exact ⟨rfl,hB⟩
end Go.Proofs.YtgoffkfpdigeeaaGreatDoor
namespace Go.Proofs.YtgoffkfpdigeeaaGreatDoor
open Go.RowKit
theorem Tryz.infoR:(Tryz.prog.info? 21).map (fun i=>(i.zero,i.size,i.bytes))=some (some (.int .i32 0),1,4):=by kernel_rfl
def rV (L:List Int):List Value:=L.map fun c=>Value.int .i32 c
def RuneAt (w:World) (b o:Nat) (L:List Int):Prop:=∀i (h:i<L.length),b<w.heap.size∧w.cell? ⟨b,o+i,none⟩=some (.int .i32 (L[i]'h))
theorem RuneAt.below {w w':World} {b o:Nat} {L:List Int} (h:RuneAt w b o L) (hb:Below w.heap.size w w'):RuneAt w' b o L:=fun i hi=>by
 obtain ⟨h1,h2⟩:=h i hi
 exact ⟨Nat.lt_of_lt_of_le h1 hb.size,((bcell hb).1 b _ h1).trans h2⟩
theorem own_runes {w:World} {B:Nat} {a:Option Addr} {n cap:Nat} {xs:List Int} (h:w.ownsRow B 21 1 (.slice a n cap) n (rV xs)) (hn:xs.length=n):∃gk,(0<n→a=some ⟨gk,0,none⟩)∧RuneAt w gk 0 xs:=by
 rcases h.2 with ⟨hv,h0⟩|⟨g,cap',cur,hv,hb,hg,_⟩
 ·exact ⟨0,by omega,fun i hi=>by omega⟩
 ·have ha:a=some ⟨g,0,none⟩:=by injection hv
  subst ha
  have hlt:g<w.heap.size:=(Array.getElem?_eq_some_iff.1 hg).1
  refine ⟨g,fun _=>rfl,fun i hi=>?_⟩
  have c0:=h.cells (g:=g) rfl i (.int .i32 xs[i]) (by simp [rV,hi])
  rw [show (⟨g,0,none⟩:Addr).add i=⟨g,0+i,none⟩ by unfold Addr.add;split <;> simp_all] at c0
  exact ⟨hlt,c0⟩
theorem gbelow5 {a b:World} (h:Below a.heap.size a b):a.grownBy b Option.none:=⟨h.os,h.tape,h.output,h.size,fun i hi _=>h.block i hi⟩
def zL (L:List Nat):List Int:=L.map (fun (c:Nat)=>(c:Int))
theorem zL_length (L:List Nat):(zL L).length=L.length:=by simp [zL]
def RGot (w w':World) (e:Ending) (L:List Int) (n:Nat):Prop:=
 ∃(a:Option Addr) (cap gk:Nat),e=.returned (.tuple #[.slice a L.length cap,.int .i64 (n:Int)])∧(0<L.length→a=some ⟨gk,0,none⟩)∧RuneAt w' gk 0 L∧Below w.heap.size w w'
set_option maxRecDepth 10000 in
set_option maxHeartbeats 400000 in
theorem read_any (s:ByteArray) (w:World) (hs:s.size≤100000) :
  Calls Tryz.prog 126 #[.string s] w fun e w'=>RGot w w' e (zL (read s.data.toList).1) (read s.data.toList).2:=by
 have hown0:(w.alloc (.cells #[] 21)).ownsRow w.heap.size 21 1 (.slice (some ⟨w.heap.size,0,none⟩) 0 0) 0 (rV []):=World.ownsRow_lit w #[] 0 (Nat.le_refl _) (by decide) (by simp)
 have hbel:Below w.heap.size w (w.alloc (.cells #[] 21)):=(Below.refl _ _).alloc (Nat.le_refl _) _
 obtain ⟨i0,hi,hz0,hz1,hz2⟩:=info_parts Tryz.infoR
 obtain ⟨R,hR⟩:∃R,read s.data.toList=R:=⟨_,rfl⟩
 have HR:Hid (read (s.data.toList.drop 0)=R):=by show _=_;rw [List.drop_zero];exact hR
 rw [hR]
 clear hR
 go_enter Tryz.func126,Tryz.ntmps126
 go_wp2_with fail
 go_loopw [4,5] (fun ov av wr=>∃(n A:Nat) (a:Option Addr) (cap:Nat) (xs:List Nat),ov=.slice a n cap∧av=.int .i64 A∧wr.ownsRow w.heap.size 21 1 (.slice a n cap) n (rV (zL xs))∧n≤A∧A≤s.size∧Below w.heap.size w wr∧Hid (xs.length=n∧R=(xs++(read (s.data.toList.drop A)).1,A+(read (s.data.toList.drop A)).2))) (fun _ av _=>s.size-(intOf av).toNat)
 case atStart=>exact ⟨0,0,_,_,[],rfl,rfl,hown0,by omega,by omega,hbel,rfl,by rw [HR.out];simp⟩
 case round=>
  clear hown0 hbel HR
  obtain ⟨n,A,a,cap,xs,rfl,rfl,hown,hn,hA,hB,HX⟩:=hrel
  by_cases hlt:A<s.size
  ·have hlt':(A:Int)<s.size:=by omega
   have HAt:Hid _:=fun (W:World)=>at_any s A W hlt hs
   have hok:=dec8_ok (s.data.toList.drop A)
   have hl:(s.data.toList.drop A).length=s.size-A:=by rw [List.length_drop,Array.length_toList];rfl
   have hst:=read_stop (s.data.toList.drop A)
   have hgo:=read_go (s.data.toList.drop A)
   have hdd:∀k,(s.data.toList.drop A).drop k=s.data.toList.drop (A+k):=fun k=>by rw [List.drop_drop]
   have hx:=HX.out
   rw [hl] at hok
   rw [hdd] at hgo
   generalize dec8 (s.data.toList.drop A)=D at *
   obtain ⟨c,k⟩:=D
   dsimp only at *
   clear HX hl hdd
   by_cases hk:k=0
   ·subst hk
    have HQ:Hid (R=(xs,A)∧xs.length=n):=by
     rw [hst rfl] at hx
     exact ⟨by rw [hx.2];simp,hx.1⟩
    clear hst hgo hok hx
    go_wp2_with fail
    refine (HAt.out _).mono ?_
    rintro e w1 ⟨rfl,b1⟩
    have o1:=hown.kept (gbelow5 b1) (by cases h:(Value.slice a n cap).ownBlock <;> simp)
    have B1:=hB.trans (b1.mono hB.size)
    go_wp2_with fail
    go_ret2
    obtain ⟨hq,hl⟩:=HQ.out
    rw [hq]
    obtain ⟨gk,h1,h2⟩:=own_runes o1 (by rw [zL_length];exact hl)
    have hlz:(zL xs).length=n:=by rw [zL_length];exact hl
    refine ⟨a,cap,gk,?_,?_,h2,B1⟩
    ·dsimp only;rw [hlz];rfl
    ·dsimp only;rw [hlz];exact h1
   ·have hk':¬(k:Int)=0:=by omega
    obtain ⟨d1,d2,_,_⟩:=hok hk
    have HQ:Hid (xs.length=n∧R=(xs++[c]++(read (s.data.toList.drop (A+k))).1,A+k+(read (s.data.toList.drop (A+k))).2)):=by
     rw [hgo hk] at hx
     refine ⟨hx.1,?_⟩
     rw [hx.2]
     simp [Nat.add_assoc]
    unfold isC at d1
    clear hst hgo hok hx
    go_wp2_with fail
    refine (HAt.out _).mono ?_
    rintro e w1 ⟨rfl,b1⟩
    have o1:=hown.kept (gbelow5 b1) (by cases h:(Value.slice a n cap).ownBlock <;> simp)
    have B1:=hB.trans (b1.mono hB.size)
    have hbk:=fun q hq=>(o1.lt q hq).1
    clear hown hB b1 HAt
    go_wp2_with (at_builtin;refine wpList_append_lies _ rfl _ _ 170 rfl w.heap.size 21 i0 (.int .i32 0) 1 4 Tryz.underlying170 hi hz0 hz1 hz2 rfl (by decide) _ n (rV (zL xs)) rfl (o1.alloc _) ⟨w1.heap.size,0,none⟩ 1 1 [.int .i32 (c:Int)] rfl rfl (cell_one_new _ _ _) (by intro u hu;simp at hu;subst hu;rfl) (by decide) (by unfold maxLen;omega) (by omega) (by have:=B1.size;simp;omega) _ rfl ?_)
    intro g2 cap2 w2 hown2 hgrow2 _ _
    have B2:Below w.heap.size w w2:=(B1.alloc B1.size _).grown hgrow2 (by have:=B1.size;simp;omega) hbk
    go_wp2_with fail
    go_roundw
    case rel=>
     obtain ⟨q1,q2⟩:=HQ.out
     exact ⟨n+1,A+k,_,cap2,xs++[c],rfl,by go_num,by simpa [zL,rV] using hown2,by omega,by omega,B2,by simp [q1],q2⟩
    case measure=>simp [intOf];omega
  ·have HQ:Hid (R=(xs,A)∧xs.length=n):=by
    obtain ⟨h1,h2⟩:=HX.out
    rw [drop_end s A (by omega),read_nil] at h2
    exact ⟨by rw [h2];simp,h1⟩
   clear HX
   go_wp2_with fail
   go_ret2
   obtain ⟨hq,hl⟩:=HQ.out
   rw [hq]
   have hlz:(zL xs).length=n:=by rw [zL_length];exact hl
   obtain ⟨gk,h1,h2⟩:=own_runes hown hlz
   refine ⟨a,cap,gk,?_,?_,h2,hB⟩
   ·dsimp only;rw [hlz];rfl
   ·dsimp only;rw [hlz];exact h1
end Go.Proofs.YtgoffkfpdigeeaaGreatDoor
namespace Go.Proofs.YtgoffkfpdigeeaaGreatDoor
open Go.RowKit
def pFirst (l:List UInt8):Int:=if (read l).2=l.length then -1 else ((read l).2:Int)
theorem chr_bad:chr 65533=[239,191,189]:=by decide
theorem next_is (l:List UInt8) (d:Nat × Nat) (hd:d=if (dec8 l).2=0 then (65533,1) else dec8 l) :
  (d.1=65533∧¬l.take 3=[239,191,189]∧(dec8 l).2=0)∨((dec8 l).2≠0∧d=dec8 l∧(d.1=65533→l.take 3=[239,191,189])):=by
 by_cases h:(dec8 l).2=0
 ·left
  rw [if_pos h] at hd
  refine ⟨by rw [hd],fun e=>?_,h⟩
  have hl:3≤l.length:=by
   have:=congrArg List.length e
   simp at this
   omega
  have:=dec8_take l 65533 3 (by unfold isC;omega) hl (by rw [chr_bad,e])
  rw [this] at h
  simp at h
 ·right
  rw [if_neg h] at hd
  refine ⟨h,hd,fun e=>?_⟩
  obtain ⟨_,_,h3,h4⟩:=dec8_ok l h
  rw [← hd] at h3 h4
  rw [e,chr_bad] at h3 h4
  simp at h4
  rw [← h4] at h3
  exact h3.symm
def badT:ByteArray:=⟨#[239,191,189]⟩
theorem hasp2_any (s:ByteArray) (w:World) (hs:s.size≤4000000) :
  Calls Tryz.prog 114 #[.string s,.string badT] w fun e w'=>e=.returned (.bool (decide (s.data.toList.take 3=[239,191,189])))∧w'=w:=by
 have hb:badT.size=3:=rfl
 have HB:Hid (badT.data.toList=[239,191,189]):=rfl
 generalize badT=p at *
 go_enter Tryz.func114,Tryz.ntmps114
 by_cases h:3≤s.size
 ·go_wp2_with fail
  go_ret
  refine ⟨?_,rfl⟩
  have hx:((s.extract 0 3).toList==p.toList)=decide (s.data.toList.take 3=[239,191,189]):=by
   rw [ByteArray.toList_eq,ByteArray.toList_eq,HB.out,Lib.extract_data,List.drop_zero,Bool.beq_eq_decide_eq]
  rw [← hx]
  rfl
 ·go_wp2_with fail
  go_ret
  have h:¬(s.data.toList.take 3=[239,191,189]):=fun e=>by
   have:=congrArg List.length e
   rw [List.length_take,Array.length_toList] at this
   have h2:s.data.size=s.size:=rfl
   simp at this
   omega
  rw [decide_eq_false h]
  exact ⟨rfl,rfl⟩
theorem hasp_any (s:ByteArray) (w:World) (hs:s.size≤4000000) :
  Calls Tryz.prog 71 #[.string s,.string badT] w fun e w'=>e=.returned (.bool (decide (s.data.toList.take 3=[239,191,189])))∧w'=w:=by
 have HS:Hid _:=fun (W:World)=>hasp2_any s W hs
 generalize decide (s.data.toList.take 3=[239,191,189])=d at *
 go_enter Tryz.func71,Tryz.ntmps71
 go_wp2_with fail
 refine (HS.out _).mono ?_
 rintro e w1 ⟨rfl,rfl⟩
 go_wp2_with fail
 go_ret
 exact ⟨rfl,rfl⟩
set_option maxRecDepth 10000 in
set_option maxHeartbeats 400000 in
theorem first_any (s:ByteArray) (w:World) (hs:s.size≤4000000) :
  Calls Tryz.prog 153 #[.string s] w fun e w'=>e=.returned (.int .i64 (pFirst s.data.toList))∧Below w.heap.size w w':=by
 have hsz:s.data.toList.length=s.size:=by rw [Array.length_toList];rfl
 obtain ⟨R,hR⟩:∃R,read s.data.toList=R:=⟨_,rfl⟩
 have HR:Hid (read (s.data.toList.drop 0)=R):=by show _=_;rw [List.drop_zero];exact hR
 obtain ⟨V,HV⟩:∃V,Hid (pFirst s.data.toList=V∧V=if R.2=s.size then -1 else (R.2:Int)):=⟨_,rfl,by unfold pFirst;rw [hR,hsz]⟩
 rw [HV.out.1]
 clear hR
 go_enter Tryz.func153,Tryz.ntmps153
 go_wp2_with fail
 go_loopw [] (fun wr=>∃A:Nat,wr.heap[w.heap.size]? = some (.stringIter s A)∧A≤s.size∧Below w.heap.size w wr∧Hid (R.2=A+(read (s.data.toList.drop A)).2)) (fun wr=>s.size-wr.iterPos w.heap.size)
 case atStart=>exact ⟨0,World.iter_heap w s 0,by omega,(Below.refl _ _).alloc (Nat.le_refl _) _,by show _=_;rw [HR.out];simp⟩
 case round=>
  clear HR
  obtain ⟨A,hit,hA,hB,HX⟩:=hrel
  by_cases hlt:A<s.size
  ·have hnx:∀ty,(Instr.next (.pointer (some ⟨w.heap.size,0,none⟩)) true ty).run Tryz.prog wr=_:=fun ty=>Lib.run_next_any_at wr w.heap.size s A ty hit hlt
   have hd:=decode_is s A hlt
   have hnn:=next_is _ _ hd
   have hd1:=decode_le s A
   have hgo:=read_go (s.data.toList.drop A)
   have hst:=read_stop (s.data.toList.drop A)
   have hok:=dec8_ok (s.data.toList.drop A)
   have hl:(s.data.toList.drop A).length=s.size-A:=by rw [List.length_drop,hsz]
   have hdd:∀k,(s.data.toList.drop A).drop k=s.data.toList.drop (A+k):=fun k=>by rw [List.drop_drop]
   have hx:=HX.out
   rw [hl] at hok
   rw [hdd] at hgo
   have hxl:(s.extract A s.size).data.toList=s.data.toList.drop A:=by rw [Lib.extract_data,List.take_of_length_le (by rw [List.length_drop,hsz];omega)]
   have HS:Hid _:=fun (W:World)=>hasp_any (s.extract A s.size) W (by rw [ByteArray.size_extract];omega)
   rw [hxl] at HS
   clear hxl
   generalize Utf8.decode s A=D at *
   obtain ⟨c,k⟩:=D
   have hit2:=Lib.iterAt_heap wr w.heap.size s A (A+k) hit
   have hB2:=Lib.below_iterAt hB (k:=w.heap.size) (Nat.le_refl _) s (A+k)
   have HI:Hid (wr.iterPos w.heap.size=A∧(wr.iterAt w.heap.size s (A+k)).iterPos w.heap.size=A+k):=⟨by simp only [World.iterPos,hit],by simp only [World.iterPos,hit2]⟩
   dsimp only at *
   clear HX hl hdd hit hd
   rcases hnn with ⟨n1,n2,n3⟩|⟨n1,n2,n3⟩
   ·subst n1
    have HQ:Hid (R.2=A):=by show _=_;rw [hst n3] at hx;simpa using hx
    have HS2:Hid _:=fun (W:World)=>(decide_eq_false n2) ▸ HS.out W
    clear hst hgo hok hx n3 hB n2 HS hit2
    go_wp2_with fail
    refine (HS2.out _).mono ?_
    rintro e w1 ⟨rfl,rfl⟩
    go_wp2_with fail
    go_ret
    have hq:=HQ.out
    have hv:=HV.out.2
    rw [if_neg (by omega),hq] at hv
    rw [hv]
    exact ⟨rfl,hB2⟩
   ·obtain ⟨d1,d2,_,_⟩:=hok n1
    rw [← n2] at d1 d2 hgo n1
    have HQ:Hid (R.2=A+k+(read (s.data.toList.drop (A+k))).2):=by
     show _=_
     rw [hgo n1] at hx
     simpa [Nat.add_assoc] using hx
    dsimp only at *
    unfold isC at d1
    clear hst hgo hok hx n2 hB
    by_cases hc:c=65533
    ·have HS2:Hid _:=fun (W:World)=>(decide_eq_true (n3 hc)) ▸ HS.out W
     subst hc
     clear HS n3
     go_wp2_with fail
     refine (HS2.out _).mono ?_
     rintro e w1 ⟨rfl,rfl⟩
     go_wp2_with fail
     go_roundw
     case rel=>exact ⟨A+k,hit2,by omega,hB2,HQ.out⟩
     case measure=>rw [HI.out.1,HI.out.2];omega
    ·have hc':¬(c:Int)=65533:=by omega
     clear HS n3
     go_wp2_with fail
     go_roundw
     case rel=>exact ⟨A+k,hit2,by omega,hB2,HQ.out⟩
     case measure=>rw [HI.out.1,HI.out.2];omega
  ·have hnx:∀ty,(Instr.next (.pointer (some ⟨w.heap.size,0,none⟩)) true ty).run Tryz.prog wr=_:=fun ty=>Lib.run_next_end_at wr w.heap.size s A ty hit hlt
   have HQ:Hid (R.2=s.size):=by
    have h2:=HX.out
    rw [drop_end s A (by omega),read_nil] at h2
    show _=_
    simp at h2
    omega
   clear HX hit
   go_wp2_with fail
   go_ret
   have hv:=HV.out.2
   rw [if_pos HQ.out] at hv
   rw [hv]
   exact ⟨rfl,hB⟩
end Go.Proofs.YtgoffkfpdigeeaaGreatDoor
