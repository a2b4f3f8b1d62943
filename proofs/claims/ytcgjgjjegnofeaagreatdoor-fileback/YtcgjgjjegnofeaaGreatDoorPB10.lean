import Derived.Laws.OwnMore
import Derived.Deep.AppendLies
import Derived.Lib.QuietBelow
import Derived.BigQuiet
import Derived.Deep.QuietTactic
import Derived.Test.YtcgjgjjegnofeaaGreatDoorPB06
import Derived.Test.YtcgjgjjegnofeaaGreatDoorPB07
import Derived.Test.YtcgjgjjegnofeaaGreatDoorPB05
import Derived.Test.YtcgjgjjegnofeaaGreatDoorPB09
namespace Go.Proofs.YtcgjgjjegnofeaaGreatDoor
open Go.RowKit
def body6 (L:List ByteArray):List UInt8:=L.flatMap fun s=>put s.size++s.data.toList
def pPut6 (L:List ByteArray):List UInt8:=put L.length++body6 L
theorem body6_append (L M:List ByteArray):body6 (L++M)=body6 L++body6 M:=by simp [body6]
theorem body6_take (L:List ByteArray) (i:Nat) (h:i<L.length):body6 (L.take (i+1))=body6 (L.take i)++(put L[i].size++L[i].data.toList):=by
 rw [List.take_add_one,List.getElem?_eq_getElem h,body6_append]
 simp [body6]
theorem body6_le (L:List ByteArray):(body6 L).length≤sum6 L+10*L.length:=by
 induction L with
 | nil=>simp [body6]
 | cons x r ih=>
  have h1:=(put_length x.size).2
  have h2:(body6 (x :: r)).length=(put x.size).length+x.size+(body6 r).length:=by
   have:x.data.toList.length=x.size:=by rw [Array.length_toList];rfl
   simp only [body6,List.flatMap_cons,List.length_append,this]
  have h3:sum6 (x :: r)=x.size+sum6 r:=by simp [sum6]
  rw [h2,h3,List.length_cons]
  omega
theorem bdrewN6 {B:Nat} {a b:World} (h:Below B a b) (n:Nat):Below B a (b.drewN n):=⟨h.os,h.tape,h.output,h.size,h.block⟩
theorem take_same6 {L M:List ByteArray} {i:Nat} (h:L.take i=M.take i) (h1:i<L.length) (h2:i<M.length) (e:L[i]=M[i]):L.take (i+1)=M.take (i+1):=by
 rw [List.take_add_one,List.take_add_one,List.getElem?_eq_getElem h1,List.getElem?_eq_getElem h2,h,e]
set_option maxRecDepth 10000 in
set_option maxHeartbeats 400000 in
theorem same6_any (a a':Option Addr) (n n' cap cap' b o b' o':Nat) (L M:List ByteArray) (w:World) (hn:L.length=n) (hn':M.length=n') (ha:0<n→a=some ⟨b,o,none⟩) (ha':0<n'→a'=some ⟨b',o',none⟩) (hL:TextAt w b o L) (hM:TextAt w b' o' M) (hs:n≤1000000) (hs':n'≤1000000) :
  Calls Tryz.prog 90 #[.slice a n cap,.slice a' n' cap'] w fun e w'=>e=.returned (.bool (decide (L=M)))∧Below w.heap.size w w':=by
 by_cases hl:n=n'
 ·subst hl
  go_enter Tryz.func90,Tryz.ntmps90
  go_wp2_with fail
  go_loopw [5] (fun iv wr=>∃i:Nat,iv=.int .i64 i∧i≤n∧Hid (L.take i=M.take i)∧Below w.heap.size w wr) (fun iv _=>n-(intOf iv).toNat)
  case atStart=>exact ⟨0,rfl,by omega,rfl,Below.refl _ _⟩
  case round=>
   obtain ⟨i,rfl,hi,HI,hb⟩:=hrel
   by_cases hlt:i<n
   ·obtain rfl:=ha (by omega)
    obtain rfl:=ha' (by omega)
    obtain ⟨l1,c0⟩:=hL i (by omega)
    obtain ⟨l2,d0⟩:=hM i (by omega)
    rw [← (bcell hb).1 b _ l1] at c0
    rw [← (bcell hb).1 b' _ l2] at d0
    have HA:Hid _:=take_same6 HI.out (by omega) (by omega)
    have HN:Hid (L[i]≠M[i]→¬L=M):=fun h e=>h (by simp only [e])
    have hq:=eq_text L[i] M[i]
    generalize L[i]=x at *
    generalize M[i]=y at *
    clear HI
    by_cases e:x=y
    ·have HQ:Hid _:=HA.out e
     rw [decide_eq_true e] at hq
     clear HA HN e
     go_wp2_with fail
     go_quiet (fail)
     go_wp2_with fail
     go_roundw
     case rel=>exact ⟨i+1,by go_num,by omega,HQ.out,bdrewN6 hb _⟩
     case measure=>simp [intOf];omega
    ·have HQ:Hid (decide (L=M)=false):=decide_eq_false (HN.out e)
     rw [decide_eq_false e] at hq
     clear HA HN e
     go_wp2_with fail
     go_quiet (fail)
     go_wp2_with fail
     go_ret
     rw [HQ.out]
     exact ⟨rfl,bdrewN6 hb _⟩
   ·have HQ:Hid (decide (L=M)=true):=by
     have h1:=HI.out
     rw [List.take_of_length_le (by omega),List.take_of_length_le (by omega)] at h1
     exact decide_eq_true h1
    clear HI
    go_wp2_with fail
    go_ret
    rw [HQ.out]
    exact ⟨rfl,hb⟩
 ·have HQ:Hid (decide (L=M)=false):=decide_eq_false (fun e=>hl (by rw [← hn,← hn',e]))
  have hl':¬(n:Int)=n':=by omega
  go_enter Tryz.func90,Tryz.ntmps90
  go_wp2_with fail
  go_ret
  rw [HQ.out]
  exact ⟨rfl,Below.refl _ _⟩
def right5 (s:ByteArray):Bool:=decide ((read s.data.toList).2=s.size)
set_option maxRecDepth 10000 in
set_option maxHeartbeats 400000 in
theorem right6_any (s:ByteArray) (w:World) (hs:s.size≤100000) :
  Calls Tryz.prog 129 #[.string s] w fun e w'=>e=.returned (.bool (right5 s))∧Below w.heap.size w w':=by
 have HR:Hid _:=read_any s w hs
 have hle:=read_le s.data.toList
 rw [list_size] at hle
 obtain ⟨V,HV⟩:∃V,Hid (right5 s=V∧V=decide ((read s.data.toList).2=s.size)):=⟨_,rfl,rfl⟩
 rw [HV.out.1]
 generalize read s.data.toList=R at *
 obtain ⟨L,A⟩:=R
 dsimp only at *
 by_cases h:A=s.size
 ·have HQ:Hid (V=true):=HV.out.2.trans (decide_eq_true h)
  have h':(A:Int)=s.size:=by omega
  clear HV
  go_enter Tryz.func129,Tryz.ntmps129
  go_wp2_with fail
  refine Calls.mono HR.out ?_
  rintro e w1 ⟨a1,cap1,g1,rfl,_,_,b1⟩
  go_wp2_with fail
  go_ret
  rw [HQ.out]
  exact ⟨by simp,b1⟩
 ·have HQ:Hid (V=false):=HV.out.2.trans (decide_eq_false h)
  have h':¬(A:Int)=s.size:=by omega
  clear HV
  go_enter Tryz.func129,Tryz.ntmps129
  go_wp2_with fail
  refine Calls.mono HR.out ?_
  rintro e w1 ⟨a1,cap1,g1,rfl,_,_,b1⟩
  go_wp2_with fail
  go_ret
  rw [HQ.out]
  exact ⟨by simp [h'],b1⟩
def gets6 (b:ByteArray) (M:Int):Nat→Nat→List ByteArray→Int × List ByteArray × Nat
 | 0,k,xs=>(0,xs,k)
 | n+1,k,xs=>
  if (pText b k 0 (M-(sum6 xs:Nat))).2.2≠0 then ((pText b k 0 (M-(sum6 xs:Nat))).2.2,[],0)
  else if right5 (pText b k 0 (M-(sum6 xs:Nat))).1=false then (11,[],0)
  else if idx6 (pText b k 0 (M-(sum6 xs:Nat))).1 xs<xs.length then (17,[],0)
  else gets6 b M n (pText b k 0 (M-(sum6 xs:Nat))).2.1 (xs++[(pText b k 0 (M-(sum6 xs:Nat))).1])
def pGet6 (b:ByteArray) (texts bytes:Int):Int × List ByteArray:=
 if (pUint b 0 0 (max texts 0)).2.2≠0 then ((pUint b 0 0 (max texts 0)).2.2,[])
 else if (gets6 b (max bytes 0) (pUint b 0 0 (max texts 0)).1.toNat (pUint b 0 0 (max texts 0)).2.1 []).1≠0 then ((gets6 b (max bytes 0) (pUint b 0 0 (max texts 0)).1.toNat (pUint b 0 0 (max texts 0)).2.1 []).1,[])
 else if (gets6 b (max bytes 0) (pUint b 0 0 (max texts 0)).1.toNat (pUint b 0 0 (max texts 0)).2.1 []).2.2<b.size then (8,[])
 else (0,(gets6 b (max bytes 0) (pUint b 0 0 (max texts 0)).1.toNat (pUint b 0 0 (max texts 0)).2.1 []).2.1)
end Go.Proofs.YtcgjgjjegnofeaaGreatDoor
namespace Go.Proofs.YtcgjgjjegnofeaaGreatDoor
open Go.RowKit
theorem pText_step (b:ByteArray) (k:Nat) (m:Int) (hk:k≤b.size) (h:(pText b k 0 m).2.2=0):k+1+(pText b k 0 m).1.size≤(pText b k 0 m).2.1∧(pText b k 0 m).2.1≤b.size:=by
 unfold pText at h ⊢
 rw [if_neg (by simp)] at h ⊢
 by_cases h1:(num b k).2.2≠0
 ·rw [if_pos h1] at h
  simp at h
  omega
 ·rw [if_neg h1] at h ⊢
  obtain ⟨n1,n2,n3⟩:=num_ok b k (by omega) hk
  by_cases h2:max m 0<(num b k).1∨16777216<(num b k).1
  ·rw [if_pos h2] at h
   simp at h
  ·rw [if_neg h2] at h ⊢
   by_cases h3:(b.size:Int)-(k+(num b k).2.1:Nat)<(num b k).1
   ·rw [if_pos h3] at h
    simp at h
   ·rw [if_neg h3]
    dsimp only
    rw [ByteArray.size_extract]
    omega
theorem TGot.nil (w w':World) (n:Int) (h:Below w.heap.size w w'):TGot w w' (.returned (.tuple #[.slice none 0 0,.int .i64 n])) [] n:=
 ⟨none,0,0,0,rfl,fun h=>by simp at h,fun i hi=>by simp at hi,Nat.le_refl _,fun _=>rfl,h⟩
theorem pUint_val (b:ByteArray) (k:Nat) (m:Int):0≤(pUint b k 0 m).1∧(pUint b k 0 m).1≤16777216∧((pUint b k 0 m).2.2≠0→(pUint b k 0 m).1=0):=by
 unfold pUint
 rw [if_neg (by simp)]
 split
 ·exact ⟨Int.le_refl _,by dsimp only;omega,fun _=>rfl⟩
 ·split
  ·exact ⟨Int.le_refl _,by dsimp only;omega,fun _=>rfl⟩
  ·dsimp only
   exact ⟨by omega,by omega,fun h=>by simp at h⟩
theorem own_nil6 {w:World} {B:Nat} {e:TypeId} {n cap:Nat} {xs:List Value} (h:w.ownsRow B e 1 (.slice none n cap) n xs):cap=0:=by
 rcases h.2 with ⟨hv,h0⟩|⟨g,cap',cur,hv,_⟩
 ·injection hv
 ·injection hv with h1
  simp at h1
theorem gets6_step (b:ByteArray) (M:Int) (n k:Nat) (xs:List ByteArray) (t:ByteArray × Nat × Int) (ht:t=pText b k 0 (M-(sum6 xs:Nat))) :
  gets6 b M (n+1) k xs=if t.2.2≠0 then (t.2.2,[],0) else if right5 t.1=false then (11,[],0) else if idx6 t.1 xs<xs.length then (17,[],0) else gets6 b M n t.2.1 (xs++[t.1]):=by
 rw [ht];rfl
set_option maxRecDepth 10000 in
set_option maxHeartbeats 1600000 in
theorem rget6_pos (b:ByteArray) (texts bytes:Int) (w:World) (hs:b.size≤100000) (ht:texts≤9223372036854775807) (hb:bytes≤9223372036854775807) (hb0:0≤bytes) :
  Calls Tryz.prog 86 #[.string b,.int .i64 texts,.int .i64 bytes] w fun e w'=>TGot w w' e (pGet6 b texts bytes).2 (pGet6 b texts bytes).1:=by
 have hmax:b.size≤maxLen:=by unfold maxLen;omega
 have HN:Rf (w.alloc (.cells #[.string b,.int .i64 0,.int .i64 0] 131)) w.heap.size b (0:Nat) 0:=At3.new _ _ _ _ _
 have B1:Below w.heap.size w (w.alloc (.cells #[.string b,.int .i64 0,.int .i64 0] 131)):=(Below.refl _ _).alloc (Nat.le_refl _) _
 obtain ⟨i0,hi,hz0,hz1,hz2⟩:=info_parts Tryz.infoS6
 obtain ⟨T,hT⟩:∃T,T=max texts 0:=⟨_,rfl⟩
 obtain ⟨R,HR⟩:∃R,Hid (pGet6 b texts bytes=R∧R=if (pUint b 0 0 T).2.2≠0 then ((pUint b 0 0 T).2.2,[]) else if (gets6 b (bytes) (pUint b 0 0 T).1.toNat (pUint b 0 0 T).2.1 []).1≠0 then ((gets6 b (bytes) (pUint b 0 0 T).1.toNat (pUint b 0 0 T).2.1 []).1,[]) else if (gets6 b (bytes) (pUint b 0 0 T).1.toNat (pUint b 0 0 T).2.1 []).2.2<b.size then (8,[]) else (0,(gets6 b (bytes) (pUint b 0 0 T).1.toNat (pUint b 0 0 T).2.1 []).2.1)):=⟨_,rfl,by unfold pGet6;rw [← hT,show max bytes 0=(bytes:Int) by omega]⟩
 rw [HR.out.1]
 have HU:Hid _:=ruint_any _ w.heap.size b 0 0 T HN hmax (Nat.zero_le _)
 obtain ⟨_,hk0⟩:=pUint_at b 0 0 T (Nat.zero_le _)
 obtain ⟨hu0,hu1,hu2⟩:=pUint_val b 0 T
 have hq:=HR.out.2
 clear HR HN
 generalize pUint b 0 0 T=U at *
 obtain ⟨u,k0,e0⟩:=U
 dsimp only at *
 obtain ⟨N,rfl⟩:=Int.eq_ofNat_of_zero_le hu0
 rw [show ((N:Int)).toNat=N from rfl] at hq
 have hTc:(texts<0∧T=0)∨(0≤texts∧texts=T):=by omega
 clear hT
 by_cases he:e0=0
 ·subst he
  rw [if_neg (by simp)] at hq
  have HQ:Hid _:=hq
  clear hq hu2
  rcases hTc with ⟨h1,rfl⟩|⟨h1,rfl⟩
  all_goals
   go_enter Tryz.func86,Tryz.ntmps86
   go_wp2_with fail
   refine Calls.mono HU.out ?_
   rintro e w2 ⟨rfl,hR2,g2⟩
   have B2:=below_but B1 g2 (Nat.le_refl _) (by simp)
   have hw2:w.heap.size<w2.heap.size:=hR2.lt
   clear HU B1 g2
   have ho:=own_empty6 w2
   have hR3:Rf (w2.alloc (.cells #[] 9)) w.heap.size b k0 0:=hR2.alloc _
   have B3:Below w.heap.size w (w2.alloc (.cells #[] 9)):=B2.alloc B2.size _
   clear B2 hR2
   go_wp2_with fail
   go_loopw [10,11] (fun ov iv wr=>∃(i k:Nat) (a:Option Addr) (cap:Nat) (xs:List ByteArray),ov=.slice a i cap∧iv=.int .i64 i∧i≤N∧wr.ownsRow w2.heap.size 9 1 (.slice a i cap) i (tV xs)∧Rf wr w.heap.size b k 0∧i≤k∧k≤b.size∧Below w.heap.size w wr∧w2.heap.size≤wr.heap.size∧Hid (xs.length=i∧sum6 xs≤k∧gets6 b (bytes) N k0 []=gets6 b (bytes) (N-i) k xs)) (fun _ iv _=>N-(intOf iv).toNat)
   case atStart=>exact ⟨0,k0,_,_,[],rfl,rfl,by omega,ho,hR3,by omega,hk0,B3,by simp,rfl,by simp [sum6],rfl⟩
   case round=>
    clear ho hR3 B3
    obtain ⟨i,k,a,cap,xs,rfl,rfl,hiN,hown,hRf,hik,hk,hB,hw2r,HX⟩:=hrel
    obtain ⟨hxl,hxs,hxg⟩:=HX.out
    have c1:=hRf.c1
    have c2:=hRf.c2
    have hwr:w.heap.size<wr.heap.size:=hRf.lt
    have hcap:=own_cap hown
    have hbk:=fun q hq=>(hown.lt q hq).1
    obtain ⟨gk,hga,hgt⟩:=own_texts hown hxl
    by_cases hlt:i<N
    ·have hlt':(i:Int)<N:=by omega
     have cB:=bytes6_any a cap gk 0 xs wr (by rw [hxl];exact hga) hgt (by omega) (by omega)
     rw [hxl] at cB
     have HB:Hid _:=cB
     have HTx:Hid _:=rtext_any wr w.heap.size b k 0 (bytes-(sum6 xs:Nat)) hRf hmax hk (by omega)
     have hst:=gets6_step b (bytes) (N-i-1) k xs (pText b k 0 (bytes-(sum6 xs:Nat))) (rfl)
     rw [show N-i-1+1=N-i by omega,← hxg] at hst
     have hR2w:=hw2
     have hps:=pText_step b k (bytes-(sum6 xs:Nat)) hk
     have hpa:=(pText_at b k 0 (bytes-(sum6 xs:Nat)) hk).2
     generalize pText b k 0 (bytes-(sum6 xs:Nat))=X at *
     obtain ⟨t,k',e'⟩:=X
     dsimp only at *
     have HS:Hid _:=hst
     clear hst hxg HX cB
     go_wp2_with fail
     refine Calls.mono HB.out ?_
     rintro e w4 ⟨rfl,rfl⟩
     go_wp2_with fail
     refine Calls.mono HTx.out ?_
     rintro e w5 ⟨rfl,hR5,g5⟩
     have B5:=below_but hB g5 (Nat.le_refl _) hB.size
     have hw45:=g5.size
     have hne:(Value.slice a i cap).ownBlock≠some w.heap.size:=fun h=>by have:=hbk _ h;omega
     have o5:=hown.kept g5 (.inr hne)
     have d1:=hR5.c1
     have d2:=hR5.c2
     clear HB HTx hown hRf c1 c2 hB g5 hgt hga
     by_cases he:e'=0
     ·subst he
      have hg:=HS.out
      rw [if_neg (by simp)] at hg
      obtain ⟨s1,s2⟩:=hps rfl
      have HRi:Hid _:=right6_any t w5 (by omega)
      clear HS hps hpa
      go_wp2_with fail
      refine Calls.mono HRi.out ?_
      rintro e w6 ⟨rfl,b6⟩
      clear HRi
      have B6:=B5.trans (b6.mono B5.size)
      have o6:=o5.kept (gbelow (row:=none) b6) (by cases h:(Value.slice a i cap).ownBlock <;> simp)
      have hR6:=hR5.belowAll b6
      have hw6:=b6.size
      have hw5:=hR5.lt
      clear b6 B5 o5 hR5 d1 d2
      by_cases hr:right5 t=false
      ·have HQ2:Hid (R=(11,[])):=by have h1:=HQ.out;rw [hg,if_pos hr] at h1;exact h1
       clear HQ hg
       go_wp2_with fail
       go_ret2
       rw [HQ2.out]
       exact TGot.nil w _ 11 B6
      ·have hr':right5 t=true:=by simpa using hr
       rw [if_neg hr] at hg
       obtain ⟨gk,hga,hgt⟩:=own_texts o6 hxl
       have cF:=find6_any a cap gk 0 xs t w6 (by rw [hxl];exact hga) hgt (by omega)
       rw [hxl] at cF
       by_cases hx:idx6 t xs<xs.length
       ·have HQ2:Hid (R=(17,[])):=by have h1:=HQ.out;rw [hg,if_pos hx] at h1;exact h1
        rw [show pFind xs t=(idx6 t xs:Int) from if_pos hx] at cF
        have HF:Hid _:=cF
        clear HQ hg cF hr
        generalize idx6 t xs=q at *
        go_wp2_with fail
        refine Calls.mono HF.out ?_
        rintro e w7 ⟨rfl,rfl⟩
        go_wp2_with fail
        go_ret2
        rw [HQ2.out]
        exact TGot.nil w _ 17 B6
       ·rw [if_neg hx] at hg
        have HG:Hid (gets6 b (bytes) N k0 []=gets6 b (bytes) (N-(i+1)) k' (xs++[t])):=by show _=_;rw [hg,Nat.sub_sub]
        rw [show pFind xs t = -1 from if_neg hx] at cF
        have HF:Hid _:=cF
        clear hg cF hr hx
        go_wp2_with fail
        refine Calls.mono HF.out ?_
        rintro e w7 ⟨rfl,rfl⟩
        clear HF
        go_wp2_with (at_builtin;refine wpList_append_lies _ rfl (.tmp 59) (.tmp 61) 59 rfl w2.heap.size 9 i0 (.string ⟨#[]⟩) 1 16 Tryz.underlying59 hi hz0 hz1 hz2 rfl (by decide) _ i (tV xs) rfl (o6.alloc _) ⟨w7.heap.size,0,none⟩ 1 1 [.string t] rfl rfl (cell_one_new _ _ _) (by intro u hu;simp at hu;subst hu;rfl) (by decide) (by unfold maxLen;omega) (by omega) (by simp;omega) _ rfl ?_)
        intro g8 cap8 w8 hown8 hgrow8 _ _
        have B8:Below w.heap.size w w8:=(B6.alloc B6.size _).grown hgrow8 (by simp;omega) (fun q hq=>by have:=hbk q hq;omega)
        have hw78:=hgrow8.size
        have hR8:=(hR6.alloc (.cells #[.string t] 9)).kept hgrow8 (fun h=>hne h.symm)
        clear hgrow8 o6 hR6 B6
        go_wp2_with fail
        go_roundw
        case rel=>exact ⟨i+1,k',_,cap8,xs++[t],rfl,by go_num,by omega,by simpa [tV] using hown8,hR8,by omega,s2,B8,by simp at hw78;omega,by simp [hxl],by rw [sum6_append];simp [sum6] at hxs ⊢;omega,HG.out⟩
        case measure=>simp [intOf];omega
     ·have HQ2:Hid (R=(e',[])):=by have h1:=HQ.out;rw [HS.out,if_pos he] at h1;dsimp only at h1;rw [if_pos he] at h1;exact h1
      have he':(e' != 0)=true:=by simpa using he
      clear HQ HS
      go_wp2_with fail
      go_quiet (fail)
      go_wp2_with fail
      go_ret2
      rw [HQ2.out]
      exact TGot.nil w _ e' (bdrewN6 B5 _)
    ·have HQ2:Hid (R=if k<b.size then (8,[]) else (0,xs)):=by
      have h1:=HQ.out
      rw [hxg,show N-i=0 by omega] at h1
      exact h1
     have hlt':¬(i:Int)<N:=by omega
     clear HX hxg HQ
     by_cases hkb:k<b.size
     ·have HQ3:Hid (R=(8,[])):=by have:=HQ2.out;rw [if_pos hkb] at this;exact this
      have hkb':(k:Int)<b.size:=by omega
      clear HQ2
      go_wp2_with fail
      go_ret2
      rw [HQ3.out]
      exact TGot.nil w wr 8 hB
     ·have HQ3:Hid (R=(0,xs)):=by have:=HQ2.out;rw [if_neg hkb] at this;exact this
      have hkb':¬(k:Int)<b.size:=by omega
      clear HQ2
      go_wp2_with fail
      go_ret2
      rw [HQ3.out]
      exact ⟨a,cap,gk,0,by dsimp only;rw [hxl];rfl,by dsimp only;rw [hxl];exact hga,hgt,by dsimp only;omega,fun h=>own_nil6 (h ▸ hown),hB⟩
 ·rw [if_pos he] at hq
  have HQ:Hid _:=hq
  obtain rfl:N=0:=by have:=hu2 he;omega
  have he':(e0 != 0)=true:=by simpa using he
  have he2:(e0==0)=false:=by simpa using he
  clear hq hu2
  rcases hTc with ⟨h1,rfl⟩|⟨h1,rfl⟩
  all_goals
   go_enter Tryz.func86,Tryz.ntmps86
   go_wp2_with fail
   refine Calls.mono HU.out ?_
   rintro e w2 ⟨rfl,hR2,g2⟩
   have B2:=below_but B1 g2 (Nat.le_refl _) (by simp)
   clear HU B1 g2
   have hR3:Rf (w2.alloc (.cells #[] 9)) w.heap.size b k0 e0:=hR2.alloc _
   have B3:Below w.heap.size w (w2.alloc (.cells #[] 9)):=B2.alloc B2.size _
   clear B2 hR2
   go_wp2_with fail
   go_loopw [10,11] (fun ov iv wr=>iv=.int .i64 0∧Rf wr w.heap.size b k0 e0∧Below w.heap.size w wr) (fun _ _ _=>0)
   case atStart=>exact ⟨rfl,hR3,B3⟩
   case round=>
    clear hR3 B3
    obtain ⟨rfl,hRf,hB⟩:=hrel
    have c2:=hRf.c2
    go_wp2_with fail
    go_quiet (fail)
    go_wp2_with fail
    go_ret2
    rw [HQ.out]
    exact TGot.nil w _ e0 (bdrewN6 hB _)
set_option maxRecDepth 10000 in
set_option maxHeartbeats 1600000 in
theorem rget6_neg (b:ByteArray) (texts bytes:Int) (w:World) (hs:b.size≤100000) (ht:texts≤9223372036854775807) (hb0:bytes<0) :
  Calls Tryz.prog 86 #[.string b,.int .i64 texts,.int .i64 bytes] w fun e w'=>TGot w w' e (pGet6 b texts bytes).2 (pGet6 b texts bytes).1:=by
 have hmax:b.size≤maxLen:=by unfold maxLen;omega
 have HN:Rf (w.alloc (.cells #[.string b,.int .i64 0,.int .i64 0] 131)) w.heap.size b (0:Nat) 0:=At3.new _ _ _ _ _
 have B1:Below w.heap.size w (w.alloc (.cells #[.string b,.int .i64 0,.int .i64 0] 131)):=(Below.refl _ _).alloc (Nat.le_refl _) _
 obtain ⟨i0,hi,hz0,hz1,hz2⟩:=info_parts Tryz.infoS6
 obtain ⟨T,hT⟩:∃T,T=max texts 0:=⟨_,rfl⟩
 obtain ⟨R,HR⟩:∃R,Hid (pGet6 b texts bytes=R∧R=if (pUint b 0 0 T).2.2≠0 then ((pUint b 0 0 T).2.2,[]) else if (gets6 b (0) (pUint b 0 0 T).1.toNat (pUint b 0 0 T).2.1 []).1≠0 then ((gets6 b (0) (pUint b 0 0 T).1.toNat (pUint b 0 0 T).2.1 []).1,[]) else if (gets6 b (0) (pUint b 0 0 T).1.toNat (pUint b 0 0 T).2.1 []).2.2<b.size then (8,[]) else (0,(gets6 b (0) (pUint b 0 0 T).1.toNat (pUint b 0 0 T).2.1 []).2.1)):=⟨_,rfl,by unfold pGet6;rw [← hT,show max bytes 0=(0:Int) by omega]⟩
 rw [HR.out.1]
 have HU:Hid _:=ruint_any _ w.heap.size b 0 0 T HN hmax (Nat.zero_le _)
 obtain ⟨_,hk0⟩:=pUint_at b 0 0 T (Nat.zero_le _)
 obtain ⟨hu0,hu1,hu2⟩:=pUint_val b 0 T
 have hq:=HR.out.2
 clear HR HN
 generalize pUint b 0 0 T=U at *
 obtain ⟨u,k0,e0⟩:=U
 dsimp only at *
 obtain ⟨N,rfl⟩:=Int.eq_ofNat_of_zero_le hu0
 rw [show ((N:Int)).toNat=N from rfl] at hq
 have hTc:(texts<0∧T=0)∨(0≤texts∧texts=T):=by omega
 clear hT
 by_cases he:e0=0
 ·subst he
  rw [if_neg (by simp)] at hq
  have HQ:Hid _:=hq
  clear hq hu2
  rcases hTc with ⟨h1,rfl⟩|⟨h1,rfl⟩
  all_goals
   go_enter Tryz.func86,Tryz.ntmps86
   go_wp2_with fail
   refine Calls.mono HU.out ?_
   rintro e w2 ⟨rfl,hR2,g2⟩
   have B2:=below_but B1 g2 (Nat.le_refl _) (by simp)
   have hw2:w.heap.size<w2.heap.size:=hR2.lt
   clear HU B1 g2
   have ho:=own_empty6 w2
   have hR3:Rf (w2.alloc (.cells #[] 9)) w.heap.size b k0 0:=hR2.alloc _
   have B3:Below w.heap.size w (w2.alloc (.cells #[] 9)):=B2.alloc B2.size _
   clear B2 hR2
   go_wp2_with fail
   go_loopw [10,11] (fun ov iv wr=>∃(i k:Nat) (a:Option Addr) (cap:Nat) (xs:List ByteArray),ov=.slice a i cap∧iv=.int .i64 i∧i≤N∧wr.ownsRow w2.heap.size 9 1 (.slice a i cap) i (tV xs)∧Rf wr w.heap.size b k 0∧i≤k∧k≤b.size∧Below w.heap.size w wr∧w2.heap.size≤wr.heap.size∧Hid (xs.length=i∧sum6 xs≤k∧gets6 b (0) N k0 []=gets6 b (0) (N-i) k xs)) (fun _ iv _=>N-(intOf iv).toNat)
   case atStart=>exact ⟨0,k0,_,_,[],rfl,rfl,by omega,ho,hR3,by omega,hk0,B3,by simp,rfl,by simp [sum6],rfl⟩
   case round=>
    clear ho hR3 B3
    obtain ⟨i,k,a,cap,xs,rfl,rfl,hiN,hown,hRf,hik,hk,hB,hw2r,HX⟩:=hrel
    obtain ⟨hxl,hxs,hxg⟩:=HX.out
    have c1:=hRf.c1
    have c2:=hRf.c2
    have hwr:w.heap.size<wr.heap.size:=hRf.lt
    have hcap:=own_cap hown
    have hbk:=fun q hq=>(hown.lt q hq).1
    obtain ⟨gk,hga,hgt⟩:=own_texts hown hxl
    by_cases hlt:i<N
    ·have hlt':(i:Int)<N:=by omega
     have cB:=bytes6_any a cap gk 0 xs wr (by rw [hxl];exact hga) hgt (by omega) (by omega)
     rw [hxl] at cB
     have HB:Hid _:=cB
     have HTx:Hid _:=rtext_any wr w.heap.size b k 0 (-((sum6 xs:Nat):Int)) hRf hmax hk (by omega)
     have hst:=gets6_step b (0) (N-i-1) k xs (pText b k 0 (-((sum6 xs:Nat):Int))) (by rw [Int.zero_sub])
     rw [show N-i-1+1=N-i by omega,← hxg] at hst
     have hR2w:=hw2
     have hps:=pText_step b k (-((sum6 xs:Nat):Int)) hk
     have hpa:=(pText_at b k 0 (-((sum6 xs:Nat):Int)) hk).2
     generalize pText b k 0 (-((sum6 xs:Nat):Int))=X at *
     obtain ⟨t,k',e'⟩:=X
     dsimp only at *
     have HS:Hid _:=hst
     clear hst hxg HX cB
     go_wp2_with fail
     refine Calls.mono HB.out ?_
     rintro e w4 ⟨rfl,rfl⟩
     go_wp2_with fail
     refine Calls.mono HTx.out ?_
     rintro e w5 ⟨rfl,hR5,g5⟩
     have B5:=below_but hB g5 (Nat.le_refl _) hB.size
     have hw45:=g5.size
     have hne:(Value.slice a i cap).ownBlock≠some w.heap.size:=fun h=>by have:=hbk _ h;omega
     have o5:=hown.kept g5 (.inr hne)
     have d1:=hR5.c1
     have d2:=hR5.c2
     clear HB HTx hown hRf c1 c2 hB g5 hgt hga
     by_cases he:e'=0
     ·subst he
      have hg:=HS.out
      rw [if_neg (by simp)] at hg
      obtain ⟨s1,s2⟩:=hps rfl
      have HRi:Hid _:=right6_any t w5 (by omega)
      clear HS hps hpa
      go_wp2_with fail
      refine Calls.mono HRi.out ?_
      rintro e w6 ⟨rfl,b6⟩
      clear HRi
      have B6:=B5.trans (b6.mono B5.size)
      have o6:=o5.kept (gbelow (row:=none) b6) (by cases h:(Value.slice a i cap).ownBlock <;> simp)
      have hR6:=hR5.belowAll b6
      have hw6:=b6.size
      have hw5:=hR5.lt
      clear b6 B5 o5 hR5 d1 d2
      by_cases hr:right5 t=false
      ·have HQ2:Hid (R=(11,[])):=by have h1:=HQ.out;rw [hg,if_pos hr] at h1;exact h1
       clear HQ hg
       go_wp2_with fail
       go_ret2
       rw [HQ2.out]
       exact TGot.nil w _ 11 B6
      ·have hr':right5 t=true:=by simpa using hr
       rw [if_neg hr] at hg
       obtain ⟨gk,hga,hgt⟩:=own_texts o6 hxl
       have cF:=find6_any a cap gk 0 xs t w6 (by rw [hxl];exact hga) hgt (by omega)
       rw [hxl] at cF
       by_cases hx:idx6 t xs<xs.length
       ·have HQ2:Hid (R=(17,[])):=by have h1:=HQ.out;rw [hg,if_pos hx] at h1;exact h1
        rw [show pFind xs t=(idx6 t xs:Int) from if_pos hx] at cF
        have HF:Hid _:=cF
        clear HQ hg cF hr
        generalize idx6 t xs=q at *
        go_wp2_with fail
        refine Calls.mono HF.out ?_
        rintro e w7 ⟨rfl,rfl⟩
        go_wp2_with fail
        go_ret2
        rw [HQ2.out]
        exact TGot.nil w _ 17 B6
       ·rw [if_neg hx] at hg
        have HG:Hid (gets6 b (0) N k0 []=gets6 b (0) (N-(i+1)) k' (xs++[t])):=by show _=_;rw [hg,Nat.sub_sub]
        rw [show pFind xs t = -1 from if_neg hx] at cF
        have HF:Hid _:=cF
        clear hg cF hr hx
        go_wp2_with fail
        refine Calls.mono HF.out ?_
        rintro e w7 ⟨rfl,rfl⟩
        clear HF
        go_wp2_with (at_builtin;refine wpList_append_lies _ rfl (.tmp 59) (.tmp 61) 59 rfl w2.heap.size 9 i0 (.string ⟨#[]⟩) 1 16 Tryz.underlying59 hi hz0 hz1 hz2 rfl (by decide) _ i (tV xs) rfl (o6.alloc _) ⟨w7.heap.size,0,none⟩ 1 1 [.string t] rfl rfl (cell_one_new _ _ _) (by intro u hu;simp at hu;subst hu;rfl) (by decide) (by unfold maxLen;omega) (by omega) (by simp;omega) _ rfl ?_)
        intro g8 cap8 w8 hown8 hgrow8 _ _
        have B8:Below w.heap.size w w8:=(B6.alloc B6.size _).grown hgrow8 (by simp;omega) (fun q hq=>by have:=hbk q hq;omega)
        have hw78:=hgrow8.size
        have hR8:=(hR6.alloc (.cells #[.string t] 9)).kept hgrow8 (fun h=>hne h.symm)
        clear hgrow8 o6 hR6 B6
        go_wp2_with fail
        go_roundw
        case rel=>exact ⟨i+1,k',_,cap8,xs++[t],rfl,by go_num,by omega,by simpa [tV] using hown8,hR8,by omega,s2,B8,by simp at hw78;omega,by simp [hxl],by rw [sum6_append];simp [sum6] at hxs ⊢;omega,HG.out⟩
        case measure=>simp [intOf];omega
     ·have HQ2:Hid (R=(e',[])):=by have h1:=HQ.out;rw [HS.out,if_pos he] at h1;dsimp only at h1;rw [if_pos he] at h1;exact h1
      have he':(e' != 0)=true:=by simpa using he
      clear HQ HS
      go_wp2_with fail
      go_quiet (fail)
      go_wp2_with fail
      go_ret2
      rw [HQ2.out]
      exact TGot.nil w _ e' (bdrewN6 B5 _)
    ·have HQ2:Hid (R=if k<b.size then (8,[]) else (0,xs)):=by
      have h1:=HQ.out
      rw [hxg,show N-i=0 by omega] at h1
      exact h1
     have hlt':¬(i:Int)<N:=by omega
     clear HX hxg HQ
     by_cases hkb:k<b.size
     ·have HQ3:Hid (R=(8,[])):=by have:=HQ2.out;rw [if_pos hkb] at this;exact this
      have hkb':(k:Int)<b.size:=by omega
      clear HQ2
      go_wp2_with fail
      go_ret2
      rw [HQ3.out]
      exact TGot.nil w wr 8 hB
     ·have HQ3:Hid (R=(0,xs)):=by have:=HQ2.out;rw [if_neg hkb] at this;exact this
      have hkb':¬(k:Int)<b.size:=by omega
      clear HQ2
      go_wp2_with fail
      go_ret2
      rw [HQ3.out]
      exact ⟨a,cap,gk,0,by dsimp only;rw [hxl];rfl,by dsimp only;rw [hxl];exact hga,hgt,by dsimp only;omega,fun h=>own_nil6 (h ▸ hown),hB⟩
 ·rw [if_pos he] at hq
  have HQ:Hid _:=hq
  obtain rfl:N=0:=by have:=hu2 he;omega
  have he':(e0 != 0)=true:=by simpa using he
  have he2:(e0==0)=false:=by simpa using he
  clear hq hu2
  rcases hTc with ⟨h1,rfl⟩|⟨h1,rfl⟩
  all_goals
   go_enter Tryz.func86,Tryz.ntmps86
   go_wp2_with fail
   refine Calls.mono HU.out ?_
   rintro e w2 ⟨rfl,hR2,g2⟩
   have B2:=below_but B1 g2 (Nat.le_refl _) (by simp)
   clear HU B1 g2
   have hR3:Rf (w2.alloc (.cells #[] 9)) w.heap.size b k0 e0:=hR2.alloc _
   have B3:Below w.heap.size w (w2.alloc (.cells #[] 9)):=B2.alloc B2.size _
   clear B2 hR2
   go_wp2_with fail
   go_loopw [10,11] (fun ov iv wr=>iv=.int .i64 0∧Rf wr w.heap.size b k0 e0∧Below w.heap.size w wr) (fun _ _ _=>0)
   case atStart=>exact ⟨rfl,hR3,B3⟩
   case round=>
    clear hR3 B3
    obtain ⟨rfl,hRf,hB⟩:=hrel
    have c2:=hRf.c2
    go_wp2_with fail
    go_quiet (fail)
    go_wp2_with fail
    go_ret2
    rw [HQ.out]
    exact TGot.nil w _ e0 (bdrewN6 hB _)
theorem rget6_any (b:ByteArray) (texts bytes:Int) (w:World) (hs:b.size≤100000) (ht:texts≤9223372036854775807) (hb:bytes≤9223372036854775807) :
  Calls Tryz.prog 86 #[.string b,.int .i64 texts,.int .i64 bytes] w fun e w'=>TGot w w' e (pGet6 b texts bytes).2 (pGet6 b texts bytes).1:=by
 by_cases h:0≤bytes
 ·exact rget6_pos b texts bytes w hs ht hb h
 ·exact rget6_neg b texts bytes w hs ht (by omega)
end Go.Proofs.YtcgjgjjegnofeaaGreatDoor
namespace Go.Proofs.YtcgjgjjegnofeaaGreatDoor
open Go.RowKit Go.Maps Go.WideMaps
theorem put_nat (n:Nat) (w:World) (hn:n≤18446744073709551615):∃X:ByteArray,X.data.toList=put n∧X.size≤10∧
  Calls Tryz.prog 64 #[.int .u64 (n:Int)] w fun e w'=>e=.returned (.string X)∧Below w.heap.size w w':=by
 refine ⟨⟨(put n).toArray⟩,by simp,?_,?_⟩
 ·have h:=(put_length n).2
  show (put n).toArray.size≤10
  simpa using h
 ·have h:=put_any (n:Int) w (by omega) (by omega)
  rw [Int.toNat_natCast] at h
  exact h
set_option maxRecDepth 10000 in
set_option maxHeartbeats 400000 in
theorem tput_any {w:World} {B g gm:Nat} {v:Value} {L:List ByteArray} (h:Tb w B g gm v L) (hs:L.length≤200000) (hm:sum6 L≤1000000000) :
  Calls Tryz.prog 66 #[.pointer (some ⟨g,0,none⟩)] w fun e w'=>e=.returned (.string ⟨(pPut6 L).toArray⟩)∧Below w.heap.size w w':=by
 obtain ⟨ao,cap,rfl⟩:=own_shape6 h.own
 obtain ⟨gk,hga,hL⟩:=own_texts h.own rfl
 have hglt:=h.cells.lt
 have c0:=h.cells.c0
 have HC:=h.cells
 clear h
 have HT:Hid ((∀i (h:i<L.length),body6 (L.take (i+1))=body6 (L.take i)++(put L[i].size++L[i].data.toList))∧body6 (L.take L.length)=body6 L):=⟨fun i h=>body6_take L i h,by rw [List.take_length]⟩
 have HM:Hid (∀i,(body6 (L.take i)).length≤1002000000):=fun i=>by
  have h1:sum6 L=sum6 (L.take i)+sum6 (L.drop i):=by rw [← sum6_append,List.take_append_drop]
  have h2:=body6_le (L.take i)
  have h3:(L.take i).length≤L.length:=by rw [List.length_take];omega
  omega
 have hS:∀i (h:i<L.length),L[i].size≤1000000000:=fun i h=>by
  have h1:sum6 L=sum6 (L.take (i+1))+sum6 (L.drop (i+1)):=by rw [← sum6_append,List.take_append_drop]
  rw [sum6_take L i h] at h1
  omega
 have HB0:=Bu.new w
 have B0:Below w.heap.size w (w.alloc (.cells #[.pointer none,.slice none 0 0] 102)):=(Below.refl _ _).alloc (Nat.le_refl _) _
 have z0:=put_length L.length
 obtain ⟨X0,d0,hz0,P0⟩:=put_nat L.length (w.alloc (.cells #[.pointer none,.slice none 0 0] 102)) (by omega)
 have HP0:Hid _:=P0
 have H0:Hid (X0.data.toList=put L.length):=d0
 clear P0 d0
 go_enter Tryz.func66,Tryz.ntmps66
 go_wp2_with fail
 refine Calls.mono HP0.out ?_
 rintro e w1 ⟨rfl,b1⟩
 have HB1:=HB0.below b1
 have B1:Below w.heap.size w w1:=B0.trans (b1.mono B0.size)
 clear HP0 HB0 B0 b1
 go_wp2_with fail
 refine (wstr_any w.heap.size w.heap.size [] X0 w1 HB1 (by simp;omega) B1.size).mono ?_
 rintro e w2 ⟨rfl,HB2,b2,-⟩
 have B2:=B1.trans b2
 rw [List.nil_append] at HB2
 clear HB1 B1 b2
 have c2:=(HC.below B2 hglt).c0
 go_wp2_with fail
 go_loopw [19] (fun iv wr=>∃(i:Nat) (X:List UInt8),iv=.int .i64 i∧i≤L.length∧X.length≤1003000000∧X≠[]∧Hid (X=X0.data.toList++body6 (L.take i))∧Bu w.heap.size w.heap.size X wr∧Below w.heap.size w wr) (fun iv _=>L.length-(intOf iv).toNat)
 case atStart=>exact ⟨0,X0.data.toList,rfl,by omega,by rw [H0.out];omega,by rw [H0.out];exact fun e=>by rw [e] at z0;simp at z0,by simp [Hid,body6],HB2,B2⟩
 case round=>
  clear HB2 B2 c2 c0
  obtain ⟨i,X,rfl,hi,hX,hne,HX,hBu,hB⟩:=hrel
  by_cases hlt:i<L.length
  ·obtain rfl:=hga (by omega)
   obtain ⟨hbl,c0⟩:=hL i hlt
   have hbr:gk<wr.heap.size:=Nat.lt_of_lt_of_le hbl hB.size
   rw [← (bcell hB).1 gk _ hbl] at c0
   rw [Nat.zero_add] at c0
   have hsi:=hS i hlt
   have hx:=HT.out.1 i hlt
   have hle:=HM.out (i+1)
   have HQ:Hid (X++(put L[i].size++L[i].data.toList)=X0.data.toList++body6 (L.take (i+1))):=by show _=_;rw [hx,HX.out,List.append_assoc]
   clear HX
   generalize L[i]=c at *
   obtain ⟨Y,dY,zY,PY⟩:=put_nat c.size wr (by omega)
   have HP:Hid _:=PY
   rw [← dY] at HQ
   have hlen:(X++(Y.data.toList++c.data.toList)).length≤1003000000:=by
    rw [HQ.out,List.length_append,list_size]
    omega
   have hq1:X.length+Y.size≤140737488355328:=by omega
   have hq2:(X++Y.data.toList).length+c.size≤140737488355328:=by rw [List.length_append,list_size];omega
   have HL:Hid _:=hlen
   have hc':(c.size:Int)≤1000000000:=by omega
   clear PY dY hx hle hlen
   go_wp2_with fail
   refine Calls.mono HP.out ?_
   rintro e w3 ⟨rfl,b3⟩
   have HB3:=hBu.below b3
   have B3:=hB.trans (b3.mono hB.size)
   clear HP b3 hBu
   go_wp2_with fail
   refine (wstr_any w.heap.size w.heap.size X Y w3 HB3 hq1 B3.size).mono ?_
   rintro e w4 ⟨rfl,HB4,b4,-⟩
   have B4:=B3.trans b4
   clear HB3 B3 b4
   go_wp2_with fail
   refine (wstr_any w.heap.size w.heap.size _ c w4 HB4 hq2 B4.size).mono ?_
   rintro e w5 ⟨rfl,HB5,b5,-⟩
   have B5:=B4.trans b5
   clear HB4 B4 b5
   rw [List.append_assoc] at HB5
   go_wp2_with fail
   go_roundw
   case rel=>exact ⟨i+1,_,by go_num,by omega,HL.out,by simp [hne],HQ.out,HB5,B5⟩
   case measure=>simp [intOf];omega
  ·have HQ:Hid (pPut6 L=X):=by
    have h1:=HX.out
    rw [show i=L.length by omega,HT.out.2,H0.out] at h1
    exact h1.symm
   clear HX HT
   go_wp2_with fail
   refine (bstr_any w.heap.size w.heap.size X wr hBu hne).mono ?_
   rintro e w3 ⟨rfl,b3⟩
   go_wp2_with fail
   go_ret
   rw [HQ.out]
   exact ⟨rfl,hB.trans b3⟩
end Go.Proofs.YtcgjgjjegnofeaaGreatDoor
