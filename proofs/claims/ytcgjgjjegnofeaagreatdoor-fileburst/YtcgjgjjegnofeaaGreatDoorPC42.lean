import Derived.Test.YtcgjgjjegnofeaaGreatDoorPC41
import Derived.Test.YtcgjgjjegnofeaaGreatDoorPC32
import Derived.Test.YtcgjgjjegnofeaaGreatDoorPC30
namespace Go.Proofs.YtcgjgjjegnofeaaGreatDoor
open Go.RowKit Go.Maps Go.WideMaps Go.Sort
section
variable {X:List Nx} {r:Int} {l:Lm} {d:Nat} {B:ByteArray} {e:Int}
theorem SvIs.bad (h:SvIs X r l B e) (he:e≠0):B=⟨#[]⟩:=by
 obtain ⟨d,n,z,h1,h2,h3⟩:=h
 rcases h3 with ⟨_,_,q⟩|⟨_,⟨_,_,q⟩|⟨_,q,_⟩⟩
 ·exact q
 ·exact q
 ·exact absurd q he
theorem SvIs.good (h:SvIs X r l B 0):okL l=true∧Whole X r∧(∃d,DepthIs X r d∧inL (meL X d) l=true)∧¬l.b<((cF X r).size:Int)∧B=cF X r:=by
 obtain ⟨d,n,z,h1,h2,h3⟩:=h
 rcases h3 with ⟨q1,q2,_⟩|⟨rfl,⟨_,q,_⟩|⟨q1,_,q3⟩⟩
 ·exact absurd q2.symm q1
 ·cases q
 ·obtain ⟨p1,p2,p3⟩:=va_whole h2
  exact ⟨p1,p2,⟨d,h1,p3⟩,q1,q3⟩
theorem in_parts (hi:inL (meL X d) l=true):(X.length:Int)≤l.n∧((edg X:Nat):Int)≤l.e∧((d:Nat):Int)≤l.d∧((txb X:Nat):Int)≤l.x:=by
 have hi2:=of_decide_eq_true (show decide (inP (meL X d) l)=true from hi)
 obtain ⟨_,i1,i2,i3,i4⟩:=hi2
 exact ⟨i1,i2,i3,i4⟩
theorem back_q (hS:Small X) (hf:X.length≤60) (hF:FnX X) (hW:Whole X r) (hd:DepthIs X r d) (ho:okL l=true) (hi:inL (meL X d) l=true) (hb:¬l.b<((cF X r).size:Int)) :
  ∀A C,ldK (cF X r) l=(0,A,C)→A.size≤1000000∧C.size≤4000000∧∀L,pGet6 A 16777216 l.x=(0,L)→Qn C L l:=by
 have hY:=bare_nd (cX X r)
 have hB:=(back_file hS hf hF hW hY hd ho hi hb).2
 have hz:=hB.size
 have hR:=can_ren hW.2 hY
 have hk:ldK (cF X r) l=(0,cA X r,cC X r):=ldK_put ho (by omega) (by omega) hb
 obtain ⟨j1,j2,j3,j4⟩:=in_parts hi
 intro A C hq
 rw [hk] at hq
 simp only [Prod.mk.injEq,true_and] at hq
 obtain ⟨rfl,rfl⟩:=hq
 refine ⟨hz.1,hz.2,fun L hL=>?_⟩
 have h5:txb (bare (cX X r))=txb X:=hR.txb
 have q:=hB.ks ho (by show ((txb (bare (cX X r)):Nat):Int)≤l.x;rw [h5];exact j4) (by rw [hR.len];exact j1) (by rw [hR.edg];exact j2)
 obtain ⟨_,_,_,_,L2,_,i2,_,_,_,_,i7⟩:=geK_inv (by rw [q])
 rw [i7] at q
 simp only [Prod.mk.injEq] at q
 rw [hL] at i2
 simp only [Prod.mk.injEq,true_and] at i2
 rw [i2,q.2.2]
 exact hB.qn (by omega)
theorem cF_small (ho:okL l=true) (hb:¬l.b<((cF X r).size:Int)):(cF X r).size≤16777216:=by
 have:=(okL_in ho).1.2
 omega
end
theorem pfback_any (X:List Nx) (r:Int) (l:Lm) (w:World) (d:Nat) (hT:Tabs12 w) (hS:Small X) (hf:X.length≤60) (hF:FnX X) (hW:Whole X r) (hd:DepthIs X r d) (ho:okL l=true) (hi:inL (meL X d) l=true) (hb:¬l.b<((cF X r).size:Int)) (hl:∀i,i<5→-9223372036854775808≤(lmL l).getD i 0∧(lmL l).getD i 0≤9223372036854775807) :
  Calls Tryz.prog 15 #[.string (cF X r),.agg #[.int .i64 l.b,.int .i64 l.n,.int .i64 l.e,.int .i64 l.d,.int .i64 l.x]] w fun e w'=>∃(Y:List Nx) (a:Option Addr) (c:Nat),e=.returned (.tuple #[.agg #[.slice a Y.length c,.int .i64 ((X.length:Int)-1)],.int .i64 0])∧Y.map Nx.nd=cX X r∧ScAt w' a Y∧Small Y∧Below w.heap.size w w':=by
 refine Calls.mono (pfload_any (cF X r) l w hT (by have:=cF_small ho hb;omega) (back_q hS hf hF hW hd ho hi hb) hl) ?_
 rintro e w' ⟨Y,a,c,s,k,rfl,h1,h2,h3,_,h4⟩
 obtain ⟨hY,rfl,rfl⟩:=(back_file hS hf hF hW (bare_nd (cX X r)) hd ho hi hb).1.uniq h1
 exact ⟨Y,a,c,rfl,by rw [hY,bare_nd],h2 w' (Fr.refl _ _),h3,h4⟩
end Go.Proofs.YtcgjgjjegnofeaaGreatDoor
namespace Go.Proofs.YtcgjgjjegnofeaaGreatDoor
open Go.RowKit Go.Maps Go.WideMaps Go.Sort
section
variable {X:List Nx} {r:Int} {l:Lm} {d:Nat}
theorem can_few (hS:Small X) (hf:X.length≤60) (hF:FnX X) (hW:Whole X r):(cA X r).size≤1000000∧(cC X r).size≤2000000:=by
 have hB:=(bk_of hS hf hF hW (bare_nd (cX X r)) (pu_can hW (bare_nd (cX X r)))).2
 refine ⟨hB.size.1,?_⟩
 have hfw:=hB.few
 have h1:=hB.sz
 have h3:=put_length (bare (cX X r)).length
 have h4:=rAllN_len ((bare (cX X r)).map Nx.nd) 0 [] (fun N q=>by
  obtain ⟨x,hx,rfl⟩:=List.mem_map.1 q
  obtain ⟨i,hi,rfl⟩:=List.getElem_of_mem hx
  have e:(bare (cX X r))[i]=(bare (cX X r)).getD i noNx:=by rw [List.getD_eq_getElem?_getD,List.getElem?_eq_getElem hi];rfl
  rw [e]
  exact hB.sm.2 i hi)
 rw [List.length_map] at h4
 omega
theorem cF_sizes (hS:Small X) (hf:X.length≤60) (hF:FnX X) (hW:Whole X r):5≤(cF X r).size∧(cF X r).size≤16777216:=by
 obtain ⟨h1,h2⟩:=can_few hS hf hF hW
 have h3:=pPut_length mD 2 (secs2 (cA X r) (cC X r)) 2000000 (fun s hs=>by
  simp only [secs2,List.mem_cons,List.not_mem_nil,or_false] at hs
  rcases hs with rfl|rfl
  ·show (cA X r).size≤2000000;omega
  ·show (cC X r).size≤2000000;omega)
 have h4:=(pPut_ok mD 2 (secs2 (cA X r) (cC X r)) (secs2_put (by omega) (by omega))).2.2.2.2.2
 have h5:(cF X r).size=(pPut mD 2 (secs2 (cA X r) (cC X r))).1.length:=by rw [← list_size];unfold cF;rw [List.toList_toArray]
 have h6:=congrArg List.length h4
 rw [List.length_append,List.length_cons] at h6
 have h7:mD.data.toList.length=4:=rfl
 omega
theorem me_few (hS:Small X) (hf:X.length≤60) (hF:FnX X) (hW:Whole X r) (hd:DepthIs X r d):edg X≤180000∧d≤60∧txb X≤16777216:=by
 have hB:=(bk_of hS hf hF hW (bare_nd (cX X r)) (pu_can hW (bare_nd (cX X r)))).2
 have hR:=can_ren hW.2 (bare_nd (cX X r))
 have e2:edg (bare (cX X r))=edg X:=hR.edg
 have e3:txb (bare (cX X r))=txb X:=hR.txb
 have h1:=hB.edg
 have h2:=hB.tab.2.2.2
 refine ⟨by omega,?_,by rw [← e3];exact h2⟩
 obtain ⟨h,_,h2,h3⟩:=hd.2 hW.2
 have hr:=hW.2.1
 have:=of_decide_eq_true (show decide (0≤r∧r<X.length)=true from hr)
 have:=(h3 r.toNat (by omega)).2
 omega
theorem sv_make {l:Lm} (ho:okL l=true) (hW:Whole X r) (hd:DepthIs X r d) (hi:inL (meL X d) l=true) (hb:¬l.b<((cF X r).size:Int)):SvIs X r l (cF X r) 0:=
 ⟨d,0,0,hd,va_good ho hW hi,.inr ⟨rfl,.inr ⟨hb,rfl,rfl⟩⟩⟩
theorem wide_in (h1:X.length≤60) (h2:edg X≤180000∧d≤60∧txb X≤16777216):inL (meL X d) wL=true:=
 decide_eq_true ⟨by show (0:Int)≤16777216;decide,by show (X.length:Int)≤16777216;omega,by show ((edg X:Nat):Int)≤16777216;omega,by show ((d:Nat):Int)≤16777216;omega,by show ((txb X:Nat):Int)≤16777216;omega⟩
end
end Go.Proofs.YtcgjgjjegnofeaaGreatDoor
namespace Go.Proofs.YtcgjgjjegnofeaaGreatDoor
open Go.RowKit Go.Maps Go.WideMaps Go.Sort
theorem secs2_at {A C:ByteArray} {i:Nat} (hi:i<(secs2 A C).length):(secs2 A C)[i]=((i:Int)+1,if i=0 then A else C):=by
 match i,hi with
 | 0,_=>rfl
 | 1,_=>rfl
theorem wL_ok:okL wL=true:=by decide
section
variable {X:List Nx} {r:Int} {d:Nat}
theorem pfburst_any (w:World) (hT:Tabs12 w) (hS:Small X) (hf:X.length≤60) (hF:FnX X) (hW:Whole X r) (hd:DepthIs X r d) (i:Nat) (hi:i<(secs2 (cA X r) (cC X r)).length) (c:List UInt8) (hl:c.length=(secs2 (cA X r) (cC X r))[i].2.size) (hc:crc c=crc (secs2 (cA X r) (cC X r))[i].2.data.toList↔c=(secs2 (cA X r) (cC X r))[i].2.data.toList)
  (Y:ByteArray) (hY:Y.data.toList=aheadL mD.data.toList 2 (secs2 (cA X r) (cC X r)) i (secs2 (cA X r) (cC X r))[i]++(c++behindL (secs2 (cA X r) (cC X r)) i (secs2 (cA X r) (cC X r))[i])) (hYz:Y.size≤100000000) :
  Calls Tryz.prog 15 #[.string Y,.agg #[.int .i64 16777216,.int .i64 16777216,.int .i64 16777216,.int .i64 16777216,.int .i64 16777216]] w fun e w'=>∃(Z:List Nx) (a:Option Addr) (cz:Nat) (rz kz:Int),e=.returned (.tuple #[.agg #[.slice a Z.length cz,.int .i64 rz],.int .i64 kz])∧((c=(secs2 (cA X r) (cC X r))[i].2.data.toList∧kz=0)∨(c≠(secs2 (cA X r) (cC X r))[i].2.data.toList∧kz=5))∧Below w.heap.size w w':=by
 have hsz:=can_sz hS hf hF hW
 have hp:(pPut mD 2 (secs2 (cA X r) (cC X r))).2=0:=secs2_put (by omega) (by omega)
 have hFz:=cF_sizes hS hf hF hW
 have hme:=me_few hS hf hF hW hd
 have hin:=wide_in hf hme
 have hb:¬wL.b<((cF X r).size:Int):=by show ¬(16777216:Int)<(cF X r).size;omega
 by_cases hq:c=(secs2 (cA X r) (cC X r))[i].2.data.toList
 ·have hYF:Y=cF X r:=by
   refine ba_eq ?_
   unfold cF
   rw [List.toList_toArray,file_split mD 2 _ i hi hp,hY,hq]
  rw [hYF]
  refine Calls.mono (pfback_any X r wL w d hT hS hf hF hW hd wL_ok hin hb wL_rg) ?_
  rintro e w' ⟨Z,a,cz,rfl,_,_,_,h4⟩
  exact ⟨Z,a,cz,_,0,rfl,.inl ⟨hq,rfl⟩,h4⟩
 ·have h5:=burst_math mD 2 (secs2 (cA X r) (cC X r)) i hi hp c hl (fun q=>hq (hc.1 q.symm))
  rw [← hY] at h5
  have hYl:Y.size=(cF X r).size:=by
   have h6:=congrArg List.length hY
   have h7:=congrArg List.length (file_split mD 2 (secs2 (cA X r) (cC X r)) i hi hp)
   have h8:(cF X r).size=(pPut mD 2 (secs2 (cA X r) (cC X r))).1.length:=by rw [← list_size];unfold cF;rw [List.toList_toArray]
   rw [list_size] at h6
   simp only [List.length_append] at h6 h7
   rw [list_size] at h7
   omega
  have hk:(ldK Y wL).1=5:=by
   rw [ldK_3 Y wL wL_ok (by rw [hYl];exact hb) (by rw [h5];decide),h5]
   rfl
  refine Calls.mono (pfload_any Y wL w hT hYz (fun A C q=>by rw [q] at hk;cases hk) wL_rg) ?_
  rintro e w' ⟨Z,a,cz,rz,kz,rfl,h1,_,_,_,h4⟩
  obtain ⟨_,_,rfl⟩:=(LdIs.bad hk (by decide)).uniq h1
  exact ⟨Z,a,cz,rz,5,rfl,.inr ⟨hq,rfl⟩,h4⟩
end
end Go.Proofs.YtcgjgjjegnofeaaGreatDoor
namespace Go.Proofs.YtcgjgjjegnofeaaGreatDoor
open Go.RowKit
set_option maxRecDepth 10000 in
set_option maxHeartbeats 400000 in
theorem flipB_any (b:ByteArray) (a m:Nat) (w:World) (hb:b.size≤4000000) (ha:a<8*b.size) (hm:m<4294967296) :
  Calls Tryz.prog 26 #[.string b,.int .i64 a,.int .u32 m] w fun e w'=>∃c:List UInt8,e=.returned (.string ⟨c.toArray⟩)∧c.length=b.data.toList.length∧lnum b.data.toList ^^^ lnum c=diff a (8*b.data.toList.length) m 32∧Below w.heap.size w w':=by
 have hbs:=fun (W:World)=>run_bytes_of_string (P:=Tryz.prog) W 9 90 5 b Tryz.underlying9 Tryz.underlying90 Tryz.underlying5
 have hnew:=fun (W:World)=>BRow.new W 5 b (grownCap W b.size 0 5)
 have hbel:Below w.heap.size w (w.drew.alloc (.cells (bytesRow b (grownCap w b.size 0 5)) 5 ((bytesRow b (grownCap w b.size 0 5)).size,(bytesRow b (grownCap w b.size 0 5)).size+1))):=(Below.refl _ _).drew.alloc (Nat.le_refl _) _
 have hbl:b.data.toList.length=b.size:=by simp
 go_enter Tryz.func26,Tryz.ntmps26
 go_wp2_with fail
 go_loopw [2,8] (fun mv kv wr=>∃(M k:Nat) (l:List UInt8),mv=.int .u32 M∧kv=.int .i64 k∧k≤32∧M<4294967296∧l.length=b.size∧BRow wr 5 w.heap.size l∧Hid (M=m / 2 ^ k)∧Hid (lnum b.data.toList ^^^ lnum l=diff a (8*b.data.toList.length) m k)∧Below w.heap.size w wr) (fun _ kv _=>32-(intOf kv).toNat)
 case atStart=>exact ⟨m,0,b.data.toList,rfl,rfl,by omega,hm,hbl,hnew w,by simp [Hid],by show _=_;rw [diff_zero,Nat.xor_self],hbel⟩
 case round=>
  clear hbs hnew hbel
  obtain ⟨M,k,l,rfl,rfl,hk,hM,hl,hrow,HM,HD,hB⟩:=hrel
  generalize grownCap w b.size 0 5=cap at *
  by_cases hk32:k<32
  ·have HN:Hid (M / 2=m / 2 ^ (k+1)):=by show _=_;rw [HM.out,Nat.div_div_eq_div_mul,← Nat.pow_succ]
   by_cases ho:M % 2=1
   ·have k2:(M:Int) % 2=1:=by omega
    have HO:Hid (m / 2 ^ k % 2=1):=by show _=_;rw [← HM.out];exact ho
    by_cases hin:a+k<8*b.size
    ·obtain ⟨j0,hj0⟩:∃j0:Nat,j0=(a+k) / 8:=⟨_,rfl⟩
     obtain ⟨r0,hr0⟩:∃r0:Nat,r0=(a+k) % 8:=⟨_,rfl⟩
     have hdiv:((a:Int)+k) / 8=j0:=by omega
     have hmod:((a:Int)+k) % 8=r0:=by omega
     have hr8:r0<8:=by omega
     have hj:j0<b.size:=by omega
     have hjl:j0<l.length:=by omega
     have hc:=hrow.cell j0 hjl
     have hf:=hrow.free j0 hjl
     have HX:Hid (lnum b.data.toList ^^^ lnum (l.set j0 (l[j0] ^^^ UInt8.ofNat (2 ^ r0)))=diff a (8*b.data.toList.length) m (k+1)):=diff_set b.data.toList l a k m HO.out (by rw [hbl];exact hin) HD.out j0 r0 hj0 hr0 hjl
     have HR:=hrow.set j0 (l[j0] ^^^ UInt8.ofNat (2 ^ r0))
     have HW:Hid (BRow (wr.setCell ⟨w.heap.size,j0,none⟩ (.int .u8 ((l[j0] ^^^ UInt8.ofNat (2 ^ r0)).toNat:Int))) 5 w.heap.size (l.set j0 (l[j0] ^^^ UInt8.ofNat (2 ^ r0)))):=HR
     have HY:Hid (∀o:Nat,o=2 ^ r0→bits .xor .u8 (l[j0].toNat:Int) (o:Int)=((l[j0] ^^^ UInt8.ofNat (2 ^ r0)).toNat:Int)):=by
      intro o ho
      have hp:2 ^ r0<256:=by
       have h:2 ^ r0≤2 ^ 7:=Nat.pow_le_pow_right (by decide) (by omega)
       omega
      have h:=xor8 l[j0].toNat (2 ^ r0) l[j0].toNat_lt hp
      rw [ho,h,UInt8.toNat_xor]
      simp
      rw [Nat.mod_eq_of_lt hp]
     have hlen:(l.set j0 (l[j0] ^^^ UInt8.ofNat (2 ^ r0))).length=b.size:=by rw [List.length_set];exact hl
     generalize l.set j0 (l[j0] ^^^ UInt8.ofNat (2 ^ r0))=l' at *
     generalize (l[j0] ^^^ UInt8.ofNat (2 ^ r0)).toNat=v at *
     generalize l[j0].toNat=u at *
     clear HM ho HD hj0 hr0 hjl HR hrow hl
     go_wp2_with fail
     go_loop [10,11] (fun ov jv=>∃(o j:Nat),ov=.int .u8 o∧jv=.int .i64 j∧j≤r0∧Hid (o=2 ^ j)∧o<256) (fun _ jv=>8-(intOf jv).toNat)
     case atStart=>exact ⟨1,0,rfl,rfl,by omega,rfl,by omega⟩
     case round=>
      obtain ⟨o,j,rfl,rfl,hjr,HP,ho⟩:=hrel
      by_cases hlt:j<r0
      ·have HP2:Hid (o*2=2 ^ (j+1)):=by show _=_;rw [HP.out,Nat.pow_succ]
       have ho2:o*2<256:=by
        rw [HP2.out]
        exact Nat.lt_of_le_of_lt (Nat.pow_le_pow_right (by decide) (show j+1≤7 by omega)) (by decide)
       go_wp2_with fail
       go_round
       case rel=>exact ⟨o*2,j+1,by go_num,by go_num,by omega,HP2,ho2⟩
       case measure=>simp [intOf];omega
      ·obtain rfl:j=r0:=by omega
       have hx:=HY.out o HP.out
       clear HY HP
       go_wp2_with fail
       go_roundw
       case rel=>exact ⟨M / 2,k+1,l',by go_num,by go_num,by omega,by omega,hlen,HW.out,HN,HX,below_set hB _ _ _ (Nat.le_refl _)⟩
       case measure=>simp [intOf];omega
    ·have hq:¬((a:Int)+k) / 8<b.size:=by omega
     have HD2:Hid (lnum b.data.toList ^^^ lnum l=diff a (8*b.data.toList.length) m (k+1)):=by show _=_;rw [diff_out _ _ _ _ (by rw [hbl];omega)];exact HD.out
     clear HM ho
     go_wp2_with fail
     go_roundw
     case rel=>exact ⟨M / 2,k+1,l,by go_num,by go_num,by omega,by omega,hl,hrow,HN,HD2,hB⟩
     case measure=>simp [intOf];omega
   ·have k2:(M:Int) % 2=0:=by omega
    have HD2:Hid (lnum b.data.toList ^^^ lnum l=diff a (8*b.data.toList.length) m (k+1)):=by show _=_;rw [diff_even _ _ _ _ (by rw [← HM.out];omega)];exact HD.out
    clear HM ho
    go_wp2_with fail
    go_roundw
    case rel=>exact ⟨M / 2,k+1,l,by go_num,by go_num,by omega,by omega,hl,hrow,HN,HD2,hB⟩
    case measure=>simp [intOf];omega
  ·obtain rfl:k=32:=by omega
   have hcv:=BRow.conv (P:=Tryz.prog) 90 9 5 Tryz.underlying90 Tryz.underlying5 Tryz.underlying9 hrow cap
   rw [hl] at hcv
   clear hrow
   go_wp2_with fail
   go_ret
   exact ⟨l,rfl,by rw [hl,hbl],HD.out,hB⟩
end Go.Proofs.YtcgjgjjegnofeaaGreatDoor
