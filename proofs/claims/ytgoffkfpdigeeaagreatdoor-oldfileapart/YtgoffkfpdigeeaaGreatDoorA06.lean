import Derived.Laws.RangeAny
import Derived.Lib.Strings
import Derived.Test.YtgoffkfpdigeeaaGreatDoorRows
import Derived.Lib.QuietBelow
import Derived.BigQuiet
import Derived.Deep.QuietTactic
import Derived.Deep.AppendLies
import Derived.Laws.OwnMore
import Derived.Lib.OthersKept
import Derived.Test.YtgoffkfpdigeeaaGreatDoorA01
namespace Go.Proofs.YtgoffkfpdigeeaaGreatDoor
def enc:Nat→Nat→List UInt8
 | 0,n=>[UInt8.ofNat n]
 | f+1,n=>if n<128 then [UInt8.ofNat n] else UInt8.ofNat (128+n % 128) :: enc f (n / 128)
def put (n:Nat):List UInt8:=enc 9 n
theorem enc_small (f n:Nat) (h:n<128):enc f n=[UInt8.ofNat n]:=by
 cases f with
 | zero=>rfl
 | succ f=>simp [enc,h]
theorem enc_big (f n:Nat) (h:128≤n):enc (f+1) n=UInt8.ofNat (128+n % 128) :: enc f (n / 128):=by
 simp [enc,Nat.not_lt.2 h]
theorem enc_length_pos (f n:Nat):0<(enc f n).length:=by
 cases f with
 | zero=>simp [enc]
 | succ f=>unfold enc;split <;> simp
theorem enc_length_le (f n:Nat):(enc f n).length≤f+1:=by
 induction f generalizing n with
 | zero=>simp [enc]
 | succ f ih=>unfold enc;split <;> simp;exact ih _
theorem put_length (n:Nat):0<(put n).length∧(put n).length≤10:=⟨enc_length_pos 9 n,enc_length_le 9 n⟩
theorem enc_round (f m:Nat) (h:128≤m) (hm:m<2*128 ^ f):∃g,f=g+1∧m / 128<2*128 ^ g∧enc f m=UInt8.ofNat (128+m % 128) :: enc g (m / 128):=by
 cases f with
 | zero=>simp at hm;omega
 | succ g=>
  refine ⟨g,rfl,?_,enc_big g m h⟩
  rw [Nat.pow_succ] at hm
  omega
def dec (i a:Nat):List UInt8→Nat × Nat × Nat
 | []=>(0,0,2)
 | c :: r=>
  if i=9∧1<c.toNat then (0,0,3)
  else if c.toNat=0∧0<i then (0,0,3)
  else if c.toNat<128 then (a+128 ^ i*(c.toNat % 128),i+1,0)
  else dec (i+1) (a+128 ^ i*(c.toNat % 128)) r
theorem dec_nine (k X:Nat) (c:UInt8) (r:List UInt8) (hk:k=9) (hc:1<c.toNat):dec k X (c :: r)=(0,0,3):=by
 rw [dec,if_pos ⟨hk,hc⟩]
theorem dec_zero (k X:Nat) (c:UInt8) (r:List UInt8) (hk:0<k) (hc:c.toNat=0):dec k X (c :: r)=(0,0,3):=by
 rw [dec,if_neg (by omega),if_pos ⟨hc,hk⟩]
theorem dec_last (k X:Nat) (c:UInt8) (r:List UInt8) (h1:¬(k=9∧1<c.toNat)) (h2:¬(c.toNat=0∧0<k)) (hc:c.toNat<128):dec k X (c :: r)=(X+128 ^ k*(c.toNat % 128),k+1,0):=by
 rw [dec,if_neg h1,if_neg h2,if_pos hc]
theorem dec_more (k X:Nat) (c:UInt8) (r:List UInt8) (h1:¬k=9) (hc:128≤c.toNat):dec k X (c :: r)=dec (k+1) (X+128 ^ k*(c.toNat % 128)) r:=by
 rw [dec,if_neg (by omega),if_neg (by omega),if_neg (by omega)]
theorem pow_step (k X c:Nat) (h:X<128 ^ k):X+128 ^ k*(c % 128)<128 ^ (k+1):=by
 have h1:c % 128≤127:=by omega
 have h2:128 ^ k*(c % 128)≤128 ^ k*127:=Nat.mul_le_mul_left _ h1
 rw [Nat.pow_succ]
 omega
theorem drop_atB (s:ByteArray) (k:Nat) (h:k<s.size):s.data.toList.drop k=s[k] :: s.data.toList.drop (k+1):=by
 rw [List.drop_eq_getElem_cons (by simpa using h)]
 rfl
theorem drop_end (s:ByteArray) (k:Nat) (h:s.size≤k):s.data.toList.drop k=[]:=List.drop_eq_nil_of_le (by simpa using h)
def fin (a:Int) (d:Nat × Nat × Nat):Int × Int × Int:=if d.2.2=0 then ((d.1:Int),a+(d.2.1:Int),0) else (0,0,(d.2.2:Int))
def got (b:List UInt8) (a:Int):Int × Int × Int:=if a<0∨(b.length:Int)<a then (0,0,1) else fin a (dec 0 0 (b.drop a.toNat))
end Go.Proofs.YtgoffkfpdigeeaaGreatDoor
namespace Go.Proofs.YtgoffkfpdigeeaaGreatDoor
abbrev isC (c:Nat):Prop:=c≤1114111∧¬(55296≤c∧c≤57343)
def b8 (n:Nat):UInt8:=UInt8.ofNat n
theorem b8_toNat (n:Nat) (h:n<256):(b8 n).toNat=n:=by simp [b8];omega
def chr (c:Nat):List UInt8:=
 if c<128 then [b8 c]
 else if c<2048 then [b8 (192+c / 64),b8 (128+c % 64)]
 else if c<65536 then [b8 (224+c / 4096),b8 (128+c / 64 % 64),b8 (128+c % 64)]
 else [b8 (240+c / 262144),b8 (128+c / 4096 % 64),b8 (128+c / 64 % 64),b8 (128+c % 64)]
def at8 (l:List UInt8) (k:Nat):Nat:=(l.getD k 0).toNat
abbrev cont8 (l:List UInt8) (k:Nat):Prop:=k<l.length∧at8 l k / 64=2
def dec8 (l:List UInt8):Nat × Nat:=
 if l=[] then (0,0)
 else if at8 l 0<128 then (at8 l 0,1)
 else if at8 l 0 / 32=6∧cont8 l 1 then
  (if 128≤at8 l 0 % 32*64+at8 l 1 % 64 then (at8 l 0 % 32*64+at8 l 1 % 64,2) else (0,0))
 else if at8 l 0 / 16=14∧cont8 l 1∧cont8 l 2 then
  (if 2048≤at8 l 0 % 16*4096+at8 l 1 % 64*64+at8 l 2 % 64∧isC (at8 l 0 % 16*4096+at8 l 1 % 64*64+at8 l 2 % 64) then (at8 l 0 % 16*4096+at8 l 1 % 64*64+at8 l 2 % 64,3) else (0,0))
 else if at8 l 0 / 8=30∧cont8 l 1∧cont8 l 2∧cont8 l 3 then
  (if 65536≤at8 l 0 % 8*262144+at8 l 1 % 64*4096+at8 l 2 % 64*64+at8 l 3 % 64∧isC (at8 l 0 % 8*262144+at8 l 1 % 64*4096+at8 l 2 % 64*64+at8 l 3 % 64) then (at8 l 0 % 8*262144+at8 l 1 % 64*4096+at8 l 2 % 64*64+at8 l 3 % 64,4) else (0,0))
 else (0,0)
theorem dec8_chr (c:Nat) (r:List UInt8) (h:isC c):dec8 (chr c++r)=(c,(chr c).length):=by
 obtain ⟨h1,h2⟩:=h
 unfold chr
 by_cases c1:c<128
 ·rw [if_pos c1]
  have e0:at8 ([b8 c]++r) 0=c:=by simp [at8];exact b8_toNat c (by omega)
  unfold dec8
  rw [if_neg (by simp),if_pos (by rw [e0];exact c1),e0]
  rfl
 rw [if_neg c1]
 by_cases c2:c<2048
 ·rw [if_pos c2]
  have e0:at8 ([b8 (192+c / 64),b8 (128+c % 64)]++r) 0=192+c / 64:=by simp [at8];exact b8_toNat _ (by omega)
  have e1:at8 ([b8 (192+c / 64),b8 (128+c % 64)]++r) 1=128+c % 64:=by simp [at8];exact b8_toNat _ (by omega)
  have k1:cont8 ([b8 (192+c / 64),b8 (128+c % 64)]++r) 1:=⟨by simp,by rw [e1];omega⟩
  unfold dec8
  rw [if_neg (by simp),if_neg (by rw [e0];omega),if_pos ⟨by rw [e0];omega,k1⟩,e0,e1,if_pos (by omega)]
  simp only [Prod.mk.injEq]
  exact ⟨by omega,rfl⟩
 rw [if_neg c2]
 by_cases c3:c<65536
 ·rw [if_pos c3]
  have e0:at8 ([b8 (224+c / 4096),b8 (128+c / 64 % 64),b8 (128+c % 64)]++r) 0=224+c / 4096:=by simp [at8];exact b8_toNat _ (by omega)
  have e1:at8 ([b8 (224+c / 4096),b8 (128+c / 64 % 64),b8 (128+c % 64)]++r) 1=128+c / 64 % 64:=by simp [at8];exact b8_toNat _ (by omega)
  have e2:at8 ([b8 (224+c / 4096),b8 (128+c / 64 % 64),b8 (128+c % 64)]++r) 2=128+c % 64:=by simp [at8];exact b8_toNat _ (by omega)
  have k1:cont8 ([b8 (224+c / 4096),b8 (128+c / 64 % 64),b8 (128+c % 64)]++r) 1:=⟨by simp,by rw [e1];omega⟩
  have k2:cont8 ([b8 (224+c / 4096),b8 (128+c / 64 % 64),b8 (128+c % 64)]++r) 2:=⟨by simp,by rw [e2];omega⟩
  have ev:(224+c / 4096) % 16*4096+(128+c / 64 % 64) % 64*64+(128+c % 64) % 64=c:=by omega
  unfold dec8
  rw [if_neg (by simp),if_neg (by rw [e0];omega),if_neg (by rw [e0];omega),if_pos ⟨by rw [e0];omega,k1,k2⟩,e0,e1,e2,ev,if_pos ⟨by omega,h1,h2⟩]
  rfl
 rw [if_neg c3]
 have e0:at8 ([b8 (240+c / 262144),b8 (128+c / 4096 % 64),b8 (128+c / 64 % 64),b8 (128+c % 64)]++r) 0=240+c / 262144:=by simp [at8];exact b8_toNat _ (by omega)
 have e1:at8 ([b8 (240+c / 262144),b8 (128+c / 4096 % 64),b8 (128+c / 64 % 64),b8 (128+c % 64)]++r) 1=128+c / 4096 % 64:=by simp [at8];exact b8_toNat _ (by omega)
 have e2:at8 ([b8 (240+c / 262144),b8 (128+c / 4096 % 64),b8 (128+c / 64 % 64),b8 (128+c % 64)]++r) 2=128+c / 64 % 64:=by simp [at8];exact b8_toNat _ (by omega)
 have e3:at8 ([b8 (240+c / 262144),b8 (128+c / 4096 % 64),b8 (128+c / 64 % 64),b8 (128+c % 64)]++r) 3=128+c % 64:=by simp [at8];exact b8_toNat _ (by omega)
 have k1:cont8 ([b8 (240+c / 262144),b8 (128+c / 4096 % 64),b8 (128+c / 64 % 64),b8 (128+c % 64)]++r) 1:=⟨by simp,by rw [e1];omega⟩
 have k2:cont8 ([b8 (240+c / 262144),b8 (128+c / 4096 % 64),b8 (128+c / 64 % 64),b8 (128+c % 64)]++r) 2:=⟨by simp,by rw [e2];omega⟩
 have k3:cont8 ([b8 (240+c / 262144),b8 (128+c / 4096 % 64),b8 (128+c / 64 % 64),b8 (128+c % 64)]++r) 3:=⟨by simp,by rw [e3];omega⟩
 have ev:(240+c / 262144) % 8*262144+(128+c / 4096 % 64) % 64*4096+(128+c / 64 % 64) % 64*64+(128+c % 64) % 64=c:=by omega
 unfold dec8
 rw [if_neg (by simp),if_neg (by rw [e0];omega),if_neg (by rw [e0];omega),if_neg (by rw [e0];omega),if_pos ⟨by rw [e0];omega,k1,k2,k3⟩,e0,e1,e2,e3,ev,if_pos ⟨by omega,h1,h2⟩]
 rfl
theorem at8_lt (l:List UInt8) (k:Nat):at8 l k<256:=(l.getD k 0).toNat_lt
theorem take8 (l:List UInt8) (n:Nat) (h:n≤l.length):l.take n=(List.range n).map (fun k=>b8 (at8 l k)):=by
 apply List.ext_getElem
 ·simp;omega
 ·intro i h1 h2
  have hi:i<l.length:=by simp at h1;omega
  simp [at8,b8,hi]
theorem dec8_ok (l:List UInt8) (h:(dec8 l).2≠0):isC (dec8 l).1∧(dec8 l).2≤l.length∧chr (dec8 l).1=l.take (dec8 l).2∧(chr (dec8 l).1).length=(dec8 l).2:=by
 have b0:=at8_lt l 0
 have b1:=at8_lt l 1
 have b2:=at8_lt l 2
 have b3:=at8_lt l 3
 unfold dec8 at h ⊢
 by_cases hn:l=[]
 ·rw [if_pos hn] at h;exact absurd rfl h
 have hl:0<l.length:=List.length_pos_iff.2 hn
 rw [if_neg hn] at h ⊢
 by_cases c1:at8 l 0<128
 ·rw [if_pos c1]
  refine ⟨⟨by omega,by omega⟩,by dsimp only;omega,?_,?_⟩
  ·dsimp only
   unfold chr
   rw [if_pos c1,take8 l 1 (by omega)]
   rfl
  ·dsimp only
   unfold chr
   rw [if_pos c1]
   rfl
 rw [if_neg c1] at h ⊢
 by_cases c2:at8 l 0 / 32=6∧cont8 l 1
 ·obtain ⟨d1,d2,d3⟩:=c2
  rw [if_pos ⟨d1,d2,d3⟩] at h ⊢
  by_cases v:128≤at8 l 0 % 32*64+at8 l 1 % 64
  ·rw [if_pos v]
   have hv:chr (at8 l 0 % 32*64+at8 l 1 % 64)=[b8 (at8 l 0),b8 (at8 l 1)]:=by
    unfold chr
    rw [if_neg (by omega),if_pos (by omega),show 192+(at8 l 0 % 32*64+at8 l 1 % 64) / 64=at8 l 0 by omega,show 128+(at8 l 0 % 32*64+at8 l 1 % 64) % 64=at8 l 1 by omega]
   dsimp only
   rw [hv]
   refine ⟨⟨by omega,by omega⟩,by omega,?_,rfl⟩
   rw [take8 l 2 (by omega)]
   rfl
  ·rw [if_neg v] at h;exact absurd rfl h
 rw [if_neg c2] at h ⊢
 by_cases c3:at8 l 0 / 16=14∧cont8 l 1∧cont8 l 2
 ·obtain ⟨d1,⟨d2,d3⟩,d4,d5⟩:=c3
  rw [if_pos ⟨d1,⟨d2,d3⟩,d4,d5⟩] at h ⊢
  by_cases v:2048≤at8 l 0 % 16*4096+at8 l 1 % 64*64+at8 l 2 % 64∧isC (at8 l 0 % 16*4096+at8 l 1 % 64*64+at8 l 2 % 64)
  ·rw [if_pos v]
   obtain ⟨v1,v2⟩:=v
   have hv:chr (at8 l 0 % 16*4096+at8 l 1 % 64*64+at8 l 2 % 64)=[b8 (at8 l 0),b8 (at8 l 1),b8 (at8 l 2)]:=by
    unfold chr
    rw [if_neg (by omega),if_neg (by omega),if_pos (by omega),show 224+(at8 l 0 % 16*4096+at8 l 1 % 64*64+at8 l 2 % 64) / 4096=at8 l 0 by omega,show 128+(at8 l 0 % 16*4096+at8 l 1 % 64*64+at8 l 2 % 64) / 64 % 64=at8 l 1 by omega,show 128+(at8 l 0 % 16*4096+at8 l 1 % 64*64+at8 l 2 % 64) % 64=at8 l 2 by omega]
   dsimp only
   rw [hv]
   refine ⟨v2,by omega,?_,rfl⟩
   rw [take8 l 3 (by omega)]
   rfl
  ·rw [if_neg v] at h;exact absurd rfl h
 rw [if_neg c3] at h ⊢
 by_cases c4:at8 l 0 / 8=30∧cont8 l 1∧cont8 l 2∧cont8 l 3
 ·obtain ⟨d1,⟨d2,d3⟩,⟨d4,d5⟩,d6,d7⟩:=c4
  rw [if_pos ⟨d1,⟨d2,d3⟩,⟨d4,d5⟩,d6,d7⟩] at h ⊢
  by_cases v:65536≤at8 l 0 % 8*262144+at8 l 1 % 64*4096+at8 l 2 % 64*64+at8 l 3 % 64∧isC (at8 l 0 % 8*262144+at8 l 1 % 64*4096+at8 l 2 % 64*64+at8 l 3 % 64)
  ·rw [if_pos v]
   obtain ⟨v1,v2⟩:=v
   have hv:chr (at8 l 0 % 8*262144+at8 l 1 % 64*4096+at8 l 2 % 64*64+at8 l 3 % 64)=[b8 (at8 l 0),b8 (at8 l 1),b8 (at8 l 2),b8 (at8 l 3)]:=by
    unfold chr
    rw [if_neg (by omega),if_neg (by omega),if_neg (by omega),show 240+(at8 l 0 % 8*262144+at8 l 1 % 64*4096+at8 l 2 % 64*64+at8 l 3 % 64) / 262144=at8 l 0 by omega,show 128+(at8 l 0 % 8*262144+at8 l 1 % 64*4096+at8 l 2 % 64*64+at8 l 3 % 64) / 4096 % 64=at8 l 1 by omega,show 128+(at8 l 0 % 8*262144+at8 l 1 % 64*4096+at8 l 2 % 64*64+at8 l 3 % 64) / 64 % 64=at8 l 2 by omega,show 128+(at8 l 0 % 8*262144+at8 l 1 % 64*4096+at8 l 2 % 64*64+at8 l 3 % 64) % 64=at8 l 3 by omega]
   dsimp only
   rw [hv]
   refine ⟨v2,by omega,?_,rfl⟩
   rw [take8 l 4 (by omega)]
   rfl
  ·rw [if_neg v] at h;exact absurd rfl h
 ·rw [if_neg c4] at h;exact absurd rfl h
theorem dec8_take (l:List UInt8) (c n:Nat) (h:isC c) (hn:n≤l.length) (he:chr c=l.take n):dec8 l=(c,n):=by
 have h1:=dec8_chr c (l.drop n) h
 rw [he,List.take_append_drop,List.length_take,Nat.min_eq_left hn] at h1
 exact h1
end Go.Proofs.YtgoffkfpdigeeaaGreatDoor
namespace Go.Proofs.YtgoffkfpdigeeaaGreatDoor
def rd:Nat→List UInt8→List Nat × Nat
 | 0,_=>([],0)
 | f+1,l=>if (dec8 l).2=0 then ([],0) else ((dec8 l).1 :: (rd f (l.drop (dec8 l).2)).1,(dec8 l).2+(rd f (l.drop (dec8 l).2)).2)
def read (l:List UInt8):List Nat × Nat:=rd l.length l
theorem rd_stop (f:Nat) (l:List UInt8) (h:(dec8 l).2=0):rd f l=([],0):=by
 cases f with
 | zero=>rfl
 | succ f=>rw [rd,if_pos h]
theorem rd_more (f:Nat):∀(g:Nat) (l:List UInt8),l.length≤f→l.length≤g→rd f l=rd g l:=by
 induction f with
 | zero=>
  intro g l h _
  have:l=[]:=List.length_eq_zero_iff.1 (by omega)
  subst this
  rw [rd_stop g [] rfl]
  rfl
 | succ f ih=>
  intro g l hf hg
  by_cases hd:(dec8 l).2=0
  ·rw [rd_stop _ l hd,rd_stop _ l hd]
  ·obtain ⟨_,h2,_⟩:=dec8_ok l hd
   obtain ⟨k,rfl⟩:∃k,g=k+1:=⟨g-1,by omega⟩
   rw [rd,rd,if_neg hd,if_neg hd,ih k (l.drop (dec8 l).2) (by rw [List.length_drop];omega) (by rw [List.length_drop];omega)]
theorem read_stop (l:List UInt8) (h:(dec8 l).2=0):read l=([],0):=rd_stop _ l h
theorem read_nil:read []=([],0):=rfl
theorem read_go (l:List UInt8) (h:(dec8 l).2≠0):read l=((dec8 l).1 :: (read (l.drop (dec8 l).2)).1,(dec8 l).2+(read (l.drop (dec8 l).2)).2):=by
 obtain ⟨_,h2,_⟩:=dec8_ok l h
 unfold read
 obtain ⟨k,hk⟩:∃k,l.length=k+1:=⟨l.length-1,by omega⟩
 rw [hk,rd,if_neg h,rd_more k (l.drop (dec8 l).2).length (l.drop (dec8 l).2) (by rw [List.length_drop];omega) (Nat.le_refl _)]
theorem at8_drop (s:ByteArray) (i k:Nat) (h:i+k<s.size):at8 (s.data.toList.drop i) k=(s.get! (i+k)).toNat:=by
 have hk:k<(s.data.toList.drop i).length:=by rw [List.length_drop,Array.length_toList];show k<s.size-i;omega
 unfold at8
 rw [List.getD_eq_getElem?_getD,List.getElem?_eq_getElem hk]
 simp [ByteArray.get!,getElem!_pos,h]
end Go.Proofs.YtgoffkfpdigeeaaGreatDoor
namespace Go.Proofs.YtgoffkfpdigeeaaGreatDoor
set_option maxRecDepth 100000 in
theorem decode_is (s:ByteArray) (pos:Nat) (h:pos<s.size):Utf8.decode s pos=if (dec8 (s.data.toList.drop pos)).2=0 then (65533,1) else dec8 (s.data.toList.drop pos):=by
 obtain ⟨l,hl⟩:∃l,l=s.data.toList.drop pos:=⟨_,rfl⟩
 have hlen:l.length=s.size-pos:=by rw [hl,List.length_drop,Array.length_toList];rfl
 have hne:l≠[]:=by intro e;rw [e] at hlen;simp at hlen;omega
 have ht:∀k,pos+k<s.size→(s.get! (pos+k)).toNat=at8 l k:=fun k hk=>by rw [hl,at8_drop s pos k hk]
 have hc:∀k,(decide (pos+k<s.size) && (s.get! (pos+k)).toNat / 64==2)=decide (cont8 l k):=fun k=>by
  by_cases hk:pos+k<s.size
  ·rw [ht k hk,decide_eq_true hk,Bool.true_and]
   unfold cont8
   have h2:k<l.length:=by omega
   simp [h2,Bool.beq_eq_decide_eq]
  ·rw [decide_eq_false hk,Bool.false_and]
   symm
   rw [decide_eq_false_iff_not]
   unfold cont8
   omega
 have t0:=ht 0 (by omega)
 rw [← hl]
 unfold Utf8.decode dec8
 simp only [hc]
 simp only [t0]
 rw [if_neg hne]
 by_cases c1:at8 l 0<128
 ·rw [if_pos c1,if_pos c1];simp
 rw [if_neg c1,if_neg c1]
 by_cases c2:at8 l 0 / 32=6∧cont8 l 1
 ·have t1:=ht 1 (by have:=c2.2.1;omega)
  rw [if_pos c2,if_pos (by simp [c2]),t1]
  by_cases v:128≤at8 l 0 % 32*64+at8 l 1 % 64
  ·rw [if_pos v,if_pos v];simp
  ·rw [if_neg v,if_neg v];simp [Utf8.runeError]
 rw [if_neg c2,if_neg (by simpa using c2)]
 by_cases c3:at8 l 0 / 16=14∧cont8 l 1∧cont8 l 2
 ·have t1:=ht 1 (by have:=c3.2.1.1;omega)
  have t2:=ht 2 (by have:=c3.2.2.1;omega)
  rw [if_pos c3,if_pos (by simp [c3]),t1,t2]
  by_cases v:2048≤at8 l 0 % 16*4096+at8 l 1 % 64*64+at8 l 2 % 64∧isC (at8 l 0 % 16*4096+at8 l 1 % 64*64+at8 l 2 % 64)
  ·rw [if_pos v,if_pos (by obtain ⟨v1,v2⟩:=v;unfold isC at v2;simp [Utf8.valid];omega)];simp
  ·rw [if_neg v,if_neg (by unfold isC at v;simp [Utf8.valid];omega)];simp [Utf8.runeError]
 rw [if_neg c3,if_neg (by intro e;apply c3;simpa [and_assoc] using e)]
 by_cases c4:at8 l 0 / 8=30∧cont8 l 1∧cont8 l 2∧cont8 l 3
 ·have t1:=ht 1 (by have:=c4.2.1.1;omega)
  have t2:=ht 2 (by have:=c4.2.2.1.1;omega)
  have t3:=ht 3 (by have:=c4.2.2.2.1;omega)
  rw [if_pos c4,if_pos (by simp [c4]),t1,t2,t3]
  by_cases v:65536≤at8 l 0 % 8*262144+at8 l 1 % 64*4096+at8 l 2 % 64*64+at8 l 3 % 64∧isC (at8 l 0 % 8*262144+at8 l 1 % 64*4096+at8 l 2 % 64*64+at8 l 3 % 64)
  ·rw [if_pos v,if_pos (by obtain ⟨v1,v2⟩:=v;unfold isC at v2;simp [Utf8.valid];omega)];simp
  ·rw [if_neg v,if_neg (by unfold isC at v;simp [Utf8.valid];omega)];simp [Utf8.runeError]
 rw [if_neg c4,if_neg (by intro e;apply c4;simpa [and_assoc] using e)]
 simp [Utf8.runeError]
end Go.Proofs.YtgoffkfpdigeeaaGreatDoor
namespace Go.Proofs.YtgoffkfpdigeeaaGreatDoor
open Go.RowKit
end Go.Proofs.YtgoffkfpdigeeaaGreatDoor
namespace Go.Proofs.YtgoffkfpdigeeaaGreatDoor
open Go.RowKit
end Go.Proofs.YtgoffkfpdigeeaaGreatDoor
namespace Go.Proofs.YtgoffkfpdigeeaaGreatDoor
open Go.RowKit
def RuneAt (w:World) (b o:Nat) (L:List Int):Prop:=∀i (h:i<L.length),b<w.heap.size∧w.cell? ⟨b,o+i,none⟩=some (.int .i32 (L[i]'h))
theorem RuneAt.below {w w':World} {b o:Nat} {L:List Int} (h:RuneAt w b o L) (hb:Below w.heap.size w w'):RuneAt w' b o L:=fun i hi=>by
 obtain ⟨h1,h2⟩:=h i hi
 exact ⟨Nat.lt_of_lt_of_le h1 hb.size,((bcell hb).1 b _ h1).trans h2⟩
end Go.Proofs.YtgoffkfpdigeeaaGreatDoor
namespace Go.Proofs.YtgoffkfpdigeeaaGreatDoor
open Go.RowKit
def pFirst (l:List UInt8):Int:=if (read l).2=l.length then -1 else ((read l).2:Int)
theorem chr_bad:chr 65533=[239,191,189]:=by decide
theorem next_is (l:List UInt8) (d:Nat × Nat) (hd:d=if (dec8 l).2=0 then (65533,1) else dec8 l) :
  (d.1=65533∧¬l.take 3=[239,191,189]∧(dec8 l).2=0)∨((dec8 l).2≠0∧d=dec8 l∧(d.1=65533→l.take 3=[239,191,189])):=by
 by_cases h:(dec8 l).2=0
 ·left
  rw [if_pos h] at hd
  refine ⟨by rw [hd],fun e=>?_,h⟩
  have hl:3≤l.length:=by
   have:=congrArg List.length e
   simp at this
   omega
  have:=dec8_take l 65533 3 (by unfold isC;omega) hl (by rw [chr_bad,e])
  rw [this] at h
  simp at h
 ·right
  rw [if_neg h] at hd
  refine ⟨h,hd,fun e=>?_⟩
  obtain ⟨_,_,h3,h4⟩:=dec8_ok l h
  rw [← hd] at h3 h4
  rw [e,chr_bad] at h3 h4
  simp at h4
  rw [← h4] at h3
  exact h3.symm
def badT:ByteArray:=⟨#[239,191,189]⟩
theorem hasp2_any (s:ByteArray) (w:World) (hs:s.size≤4000000) :
  Calls Tryz.prog 114 #[.string s,.string badT] w fun e w'=>e=.returned (.bool (decide (s.data.toList.take 3=[239,191,189])))∧w'=w:=by
 have hb:badT.size=3:=rfl
 have HB:Hid (badT.data.toList=[239,191,189]):=rfl
 generalize badT=p at *
 go_enter Tryz.func114,Tryz.ntmps114
 by_cases h:3≤s.size
 ·go_wp2_with fail
  go_ret
  refine ⟨?_,rfl⟩
  have hx:((s.extract 0 3).toList==p.toList)=decide (s.data.toList.take 3=[239,191,189]):=by
   rw [ByteArray.toList_eq,ByteArray.toList_eq,HB.out,Lib.extract_data,List.drop_zero,Bool.beq_eq_decide_eq]
  rw [← hx]
  rfl
 ·go_wp2_with fail
  go_ret
  have h:¬(s.data.toList.take 3=[239,191,189]):=fun e=>by
   have:=congrArg List.length e
   rw [List.length_take,Array.length_toList] at this
   have h2:s.data.size=s.size:=rfl
   simp at this
   omega
  rw [decide_eq_false h]
  exact ⟨rfl,rfl⟩
theorem hasp_any (s:ByteArray) (w:World) (hs:s.size≤4000000) :
  Calls Tryz.prog 71 #[.string s,.string badT] w fun e w'=>e=.returned (.bool (decide (s.data.toList.take 3=[239,191,189])))∧w'=w:=by
 have HS:Hid _:=fun (W:World)=>hasp2_any s W hs
 generalize decide (s.data.toList.take 3=[239,191,189])=d at *
 go_enter Tryz.func71,Tryz.ntmps71
 go_wp2_with fail
 refine (HS.out _).mono ?_
 rintro e w1 ⟨rfl,rfl⟩
 go_wp2_with fail
 go_ret
 exact ⟨rfl,rfl⟩
set_option maxRecDepth 10000 in
set_option maxHeartbeats 400000 in
theorem first_any (s:ByteArray) (w:World) (hs:s.size≤4000000) :
  Calls Tryz.prog 153 #[.string s] w fun e w'=>e=.returned (.int .i64 (pFirst s.data.toList))∧Below w.heap.size w w':=by
 have hsz:s.data.toList.length=s.size:=by rw [Array.length_toList];rfl
 obtain ⟨R,hR⟩:∃R,read s.data.toList=R:=⟨_,rfl⟩
 have HR:Hid (read (s.data.toList.drop 0)=R):=by show _=_;rw [List.drop_zero];exact hR
 obtain ⟨V,HV⟩:∃V,Hid (pFirst s.data.toList=V∧V=if R.2=s.size then -1 else (R.2:Int)):=⟨_,rfl,by unfold pFirst;rw [hR,hsz]⟩
 rw [HV.out.1]
 clear hR
 go_enter Tryz.func153,Tryz.ntmps153
 go_wp2_with fail
 go_loopw [] (fun wr=>∃A:Nat,wr.heap[w.heap.size]? = some (.stringIter s A)∧A≤s.size∧Below w.heap.size w wr∧Hid (R.2=A+(read (s.data.toList.drop A)).2)) (fun wr=>s.size-wr.iterPos w.heap.size)
 case atStart=>exact ⟨0,World.iter_heap w s 0,by omega,(Below.refl _ _).alloc (Nat.le_refl _) _,by show _=_;rw [HR.out];simp⟩
 case round=>
  clear HR
  obtain ⟨A,hit,hA,hB,HX⟩:=hrel
  by_cases hlt:A<s.size
  ·have hnx:∀ty,(Instr.next (.pointer (some ⟨w.heap.size,0,none⟩)) true ty).run Tryz.prog wr=_:=fun ty=>Lib.run_next_any_at wr w.heap.size s A ty hit hlt
   have hd:=decode_is s A hlt
   have hnn:=next_is _ _ hd
   have hd1:=decode_le s A
   have hgo:=read_go (s.data.toList.drop A)
   have hst:=read_stop (s.data.toList.drop A)
   have hok:=dec8_ok (s.data.toList.drop A)
   have hl:(s.data.toList.drop A).length=s.size-A:=by rw [List.length_drop,hsz]
   have hdd:∀k,(s.data.toList.drop A).drop k=s.data.toList.drop (A+k):=fun k=>by rw [List.drop_drop]
   have hx:=HX.out
   rw [hl] at hok
   rw [hdd] at hgo
   have hxl:(s.extract A s.size).data.toList=s.data.toList.drop A:=by rw [Lib.extract_data,List.take_of_length_le (by rw [List.length_drop,hsz];omega)]
   have HS:Hid _:=fun (W:World)=>hasp_any (s.extract A s.size) W (by rw [ByteArray.size_extract];omega)
   rw [hxl] at HS
   clear hxl
   generalize Utf8.decode s A=D at *
   obtain ⟨c,k⟩:=D
   have hit2:=Lib.iterAt_heap wr w.heap.size s A (A+k) hit
   have hB2:=Lib.below_iterAt hB (k:=w.heap.size) (Nat.le_refl _) s (A+k)
   have HI:Hid (wr.iterPos w.heap.size=A∧(wr.iterAt w.heap.size s (A+k)).iterPos w.heap.size=A+k):=⟨by simp only [World.iterPos,hit],by simp only [World.iterPos,hit2]⟩
   dsimp only at *
   clear HX hl hdd hit hd
   rcases hnn with ⟨n1,n2,n3⟩|⟨n1,n2,n3⟩
   ·subst n1
    have HQ:Hid (R.2=A):=by show _=_;rw [hst n3] at hx;simpa using hx
    have HS2:Hid _:=fun (W:World)=>(decide_eq_false n2) ▸ HS.out W
    clear hst hgo hok hx n3 hB n2 HS hit2
    go_wp2_with fail
    refine (HS2.out _).mono ?_
    rintro e w1 ⟨rfl,rfl⟩
    go_wp2_with fail
    go_ret
    have hq:=HQ.out
    have hv:=HV.out.2
    rw [if_neg (by omega),hq] at hv
    rw [hv]
    exact ⟨rfl,hB2⟩
   ·obtain ⟨d1,d2,_,_⟩:=hok n1
    rw [← n2] at d1 d2 hgo n1
    have HQ:Hid (R.2=A+k+(read (s.data.toList.drop (A+k))).2):=by
     show _=_
     rw [hgo n1] at hx
     simpa [Nat.add_assoc] using hx
    dsimp only at *
    unfold isC at d1
    clear hst hgo hok hx n2 hB
    by_cases hc:c=65533
    ·have HS2:Hid _:=fun (W:World)=>(decide_eq_true (n3 hc)) ▸ HS.out W
     subst hc
     clear HS n3
     go_wp2_with fail
     refine (HS2.out _).mono ?_
     rintro e w1 ⟨rfl,rfl⟩
     go_wp2_with fail
     go_roundw
     case rel=>exact ⟨A+k,hit2,by omega,hB2,HQ.out⟩
     case measure=>rw [HI.out.1,HI.out.2];omega
    ·have hc':¬(c:Int)=65533:=by omega
     clear HS n3
     go_wp2_with fail
     go_roundw
     case rel=>exact ⟨A+k,hit2,by omega,hB2,HQ.out⟩
     case measure=>rw [HI.out.1,HI.out.2];omega
  ·have hnx:∀ty,(Instr.next (.pointer (some ⟨w.heap.size,0,none⟩)) true ty).run Tryz.prog wr=_:=fun ty=>Lib.run_next_end_at wr w.heap.size s A ty hit hlt
   have HQ:Hid (R.2=s.size):=by
    have h2:=HX.out
    rw [drop_end s A (by omega),read_nil] at h2
    show _=_
    simp at h2
    omega
   clear HX hit
   go_wp2_with fail
   go_ret
   have hv:=HV.out.2
   rw [if_pos HQ.out] at hv
   rw [hv]
   exact ⟨rfl,hB⟩
end Go.Proofs.YtgoffkfpdigeeaaGreatDoor
