import Derived.Lib.QuietBelow
import Derived.BigQuiet
import Derived.Test.YtgoffkfpdigeeaaGreatDoorL28
import Derived.Test.YtgoffkfpdigeeaaGreatDoorL10
import Derived.Test.YtgoffkfpdigeeaaGreatDoorL14
namespace Go.Proofs.YtgoffkfpdigeeaaGreatDoor
open Go.RowKit Go.Maps Go.WideMaps Go.Sort
theorem put_text (n:Nat):∃Y:ByteArray,(⟨(put n).toArray⟩:ByteArray)=Y∧Y.data.toList=put n∧Y.size≤10:=by
 refine ⟨_,rfl,List.toList_toArray,?_⟩
 show (put n).toArray.size≤10
 rw [List.size_toArray]
 exact (put_length n).2
theorem mem_getD {α : Type} (l:List α) (d : α) {j:Nat} (h:j<l.length):l.getD j d ∈ l:=by
 rw [List.getD_eq_getElem?_getD,List.getElem?_eq_getElem h]
 exact List.getElem_mem h
structure SmN (N:Nd):Prop where
 k0:0≤N.kind
 k1:N.kind≤6
 i:N.ints.length≤4
 fn:fine N.ints
 t:N.texts.length≤2
 s:∀i,i<N.texts.length→(N.texts.getD i noT).size≤3000
 k:N.kids.length≤3000
 z:∀i,i<N.kids.length→0≤N.kids.getD i 0∧N.kids.getD i 0≤1401
theorem smn_of {X:List Nx} {r:Int} (hX:Small X) (hF:FnX X) (hW:tyEo X=0) (hR:RightIs X r) (i:Nat) (hi:i<X.length):SmN (X.getD i noNx).nd:=by
 obtain ⟨h1,h2,h3,_⟩:=tyNo_zero ((tyEo_iff X).1 hW i hi)
 have hk:=oldSp_kind h1
 have hsm:=oldSp_small (X.getD i noNx).nd.kind
 have hb:=big_no (hX.2 i hi)
 unfold fitI at h2
 rw [Bool.and_eq_true,decide_eq_true_eq] at h2
 unfold fitT at h3
 rw [Bool.and_eq_true,decide_eq_true_eq] at h3
 have hn:=hX.1
 refine ⟨by omega,hk.2,by omega,hF i hi,by omega,fun j hj=>?_,hb.2.2.1,fun j hj=>?_⟩
 ·exact hb.2.2.2 _ (mem_getD _ _ hj)
 ·have:=kid_place hR.2.1 hi (z:=(X.getD i noNx).nd.kids.getD j 0) (mem_getD _ _ hj)
  omega
theorem oT_take (T:List ByteArray) (i:Nat) (h:i<T.length):oT (T.take (i+1))=oT (T.take i)++(put (T.getD i noT).size++(T.getD i noT).data.toList):=by
 unfold oT
 rw [flat_take _ T noT i h]
theorem oK_take (T:List Int) (i:Nat) (h:i<T.length):oK (T.take (i+1))=oK (T.take i)++put (T.getD i 0).toNat:=by
 unfold oK
 rw [flat_take _ T 0 i h]
theorem rI_take (T:List Int) (i:Nat) (h:i<T.length):rI (T.take (i+1))=rI (T.take i)++put (zig (T.getD i 0)).toNat:=by
 unfold rI
 rw [flat_take _ T 0 i h]
theorem oB_take (X:List Nx) (i:Nat) (h:i<X.length):((X.map Nx.nd).take (i+1)).flatMap oB=((X.map Nx.nd).take i).flatMap oB++oB (X.getD i noNx).nd:=by
 rw [flat_take oB (X.map Nx.nd) noNx.nd i (by rw [List.length_map];exact h)]
 congr 2
 rw [List.getD_eq_getElem?_getD,List.getD_eq_getElem?_getD,List.getElem?_map,List.getElem?_eq_getElem h]
 rfl
set_option maxRecDepth 10000 in
set_option maxHeartbeats 2000000 in
theorem rrec_any (X:List Nx) (a:Option Addr) (c:Nat) (r:Int) (w:World) (h:ScAt w a X) (hX:Small X) (hF:FnX X) (hW:tyEo X=0) (hR:RightIs X r) :
  Calls Tryz.prog 49 #[.agg #[.slice a X.length c,.int .i64 r]] w fun e w'=>e=.returned (.string (oC (X.map Nx.nd)))∧Below w.heap.size w w':=by
 have HSN:Hid (∀i,i<X.length→SmN (X.getD i noNx).nd):=smn_of hX hF hW hR
 have HS:Hid (∀W,Below w.heap.size w W→ScAt W a X):=fun W hW=>h.belowB hW
 have hn:=hX.1
 have HA0:Hid (AtN 24 (w.alloc (.cells #[.slice a X.length c,.int .i64 r] 24)) w.heap.size #[.slice a X.length c,.int .i64 r]∧Below w.heap.size w (w.alloc (.cells #[.slice a X.length c,.int .i64 r] 24))):=⟨AtN.new w 24 _,(Below.refl _ _).alloc (Nat.le_refl _) _⟩
 obtain ⟨X0,hX0,dX0,zX0⟩:=put_text X.length
 have HP:Hid (∀(n:Nat) W,n≤18446744073709551615→Calls Tryz.prog 52 #[.int .u64 (n:Int)] W fun e w'=>e=.returned (.string ⟨(put n).toArray⟩)∧Below W.heap.size W w'):=fun n W hn=>by
  have:=refput_any (n:Int) W (by omega) (by omega)
  rwa [Int.toNat_natCast] at this
 have HP0:Hid _:=fun W=>HP.out X.length W (by omega)
 rw [hX0] at HP0
 have HE:Hid (oR (X.map Nx.nd)=X0.data.toList++(X.map Nx.nd).flatMap oB):=by
  show _=_
  unfold oR
  rw [List.length_map,dX0]
 clear h hX hF hW hR hX0 dX0
 go_enter Tryz.func49,Tryz.ntmps49
 go_wp2_with fail
 refine Calls.mono (HP0.out _) ?_
 rintro e w1 ⟨rfl,hb1⟩
 have HA1:Hid (AtN 24 w1 w.heap.size #[.slice a X.length c,.int .i64 r]∧Below w.heap.size w w1):=⟨HA0.out.1.belowAll hb1,HA0.out.2.trans (hb1.mono HA0.out.2.size)⟩
 clear HA0 HP0 hb1
 go_wp2_with fail
 go_loopw [3,4] (fun ov iv wr=>∃(i:Nat) (O:ByteArray),ov=.string O∧iv=.int .i64 i∧i≤X.length∧O.size≤10+40000*i∧Hid (O.data.toList=X0.data.toList++((X.map Nx.nd).take i).flatMap oB)∧Hid (AtN 24 wr w.heap.size #[.slice a X.length c,.int .i64 r]∧Below w.heap.size w wr)) (fun _ iv _=>X.length-(intOf iv).toNat)
 case atStart=>exact ⟨0,X0,rfl,rfl,by omega,by omega,by simp [Hid],HA1⟩
 case round=>
  clear HA1
  obtain ⟨i,O,rfl,rfl,hi,hO,HO,HA⟩:=hrel
  obtain ⟨u,hu⟩:∃u,u=wr:=⟨_,rfl⟩
  subst hu
  have x0:u.cell? ⟨w.heap.size,0,none⟩=some (.slice a X.length c):=HA.out.1.cell 0
  have hg0:=HA.out.1.lt
  by_cases hlt:i<X.length
  ·have hlt':(i:Int)<X.length:=by omega
   obtain ⟨b,o,rfl,hbl,d0,d1,d2,d3⟩:=(HS.out u HA.out.2).node hlt
   have HSi:Hid _:=HSN.out i hlt
   have HLi:Hid (∀W,Below w.heap.size w W→NdAt W (X.getD i noNx).nd (X.getD i noNx).a1 (X.getD i noNx).a2 (X.getD i noNx).a3):=fun W hW=>(HS.out W hW).each i hlt
   have HOn:Hid (O.data.toList++oB (X.getD i noNx).nd=X0.data.toList++((X.map Nx.nd).take (i+1)).flatMap oB):=by
    show _=_
    rw [oB_take X i hlt,HO.out,List.append_assoc]
   generalize X.getD i noNx=N at *
   have hk0:=HSi.out.k0
   have hk1:=HSi.out.k1
   have hil:=HSi.out.i
   have htl:=HSi.out.t
   have hkl:=HSi.out.k
   have HW2:Hid (∀ob:Obj,ob=.cells #[.int .i64 N.nd.kind,.slice N.a1 N.nd.ints.length N.c1,.slice N.a2 N.nd.texts.length N.c2,.slice N.a3 N.nd.kids.length N.c3] 51→AtN 51 (u.alloc ob) u.heap.size #[.int .i64 N.nd.kind,.slice N.a1 N.nd.ints.length N.c1,.slice N.a2 N.nd.texts.length N.c2,.slice N.a3 N.nd.kids.length N.c3]∧AtN 24 (u.alloc ob) w.heap.size #[.slice (some ⟨b,o,none⟩) X.length c,.int .i64 r]∧Below w.heap.size w (u.alloc ob)):=by
    rintro _ rfl
    exact ⟨AtN.new u 51 _,HA.out.1.alloc _,HA.out.2.alloc HA.out.2.size _⟩
   obtain ⟨K0,hK0,dK0,zK0⟩:=put_text N.nd.kind.toNat
   have HPk:Hid (∀W,Calls Tryz.prog 52 #[.int .u64 N.nd.kind] W fun e w'=>e=.returned (.string K0)∧Below W.heap.size W w'):=fun W=>by
    have:=HP.out N.nd.kind.toNat W (by omega)
    rw [hK0,Int.toNat_of_nonneg hk0] at this
    exact this
   have A0:=fun (W:World)=>run_string_add_sum (P:=Tryz.prog) W O K0 (by omega)
   have z1:(O++K0).size≤20+40000*i:=by rw [ByteArray.size_append];omega
   have HO1:Hid ((O++K0).data.toList=O.data.toList++put N.nd.kind.toNat):=by
    show _=_
    rw [ByteArray.data_append,Array.toList_append,dK0]
   clear HO HA hK0 dK0 zK0
   go_wp2_with fail
   obtain ⟨hv2,hs2,hb2⟩:=HW2.out _ rfl
   clear HW2
   generalize (u.alloc (.cells #[.int .i64 N.nd.kind,.slice N.a1 N.nd.ints.length N.c1,.slice N.a2 N.nd.texts.length N.c2,.slice N.a3 N.nd.kids.length N.c3] 51))=w2 at *
   refine Calls.mono (HPk.out _) ?_
   rintro e w3 ⟨rfl,hb3⟩
   have H3:Hid (AtN 51 w3 u.heap.size #[.int .i64 N.nd.kind,.slice N.a1 N.nd.ints.length N.c1,.slice N.a2 N.nd.texts.length N.c2,.slice N.a3 N.nd.kids.length N.c3]∧AtN 24 w3 w.heap.size #[.slice (some ⟨b,o,none⟩) X.length c,.int .i64 r]∧Below w.heap.size w w3):=⟨hv2.belowAll hb3,hs2.belowAll hb3,hb2.trans (hb3.mono hb2.size)⟩
   clear hv2 hs2 hb2 hb3 HPk d0 d1 d2 d3 x0 hbl
   go_wp2_with fail
   clear A0
   generalize O++K0=O1 at *
   go_loopw [3,6] (fun xv iv wr=>∃(k:Nat) (Z:ByteArray),xv=.string Z∧iv=.int .i64 k∧k≤N.nd.ints.length∧Z.size≤20+40000*i+10*k∧Hid (Z.data.toList=O1.data.toList++rI (N.nd.ints.take k))∧Hid (AtN 51 wr u.heap.size #[.int .i64 N.nd.kind,.slice N.a1 N.nd.ints.length N.c1,.slice N.a2 N.nd.texts.length N.c2,.slice N.a3 N.nd.kids.length N.c3]∧AtN 24 wr w.heap.size #[.slice (some ⟨b,o,none⟩) X.length c,.int .i64 r]∧Below w.heap.size w wr)) (fun _ iv _=>N.nd.ints.length-(intOf iv).toNat)
   case atStart=>exact ⟨0,O1,rfl,rfl,by omega,by omega,by simp [Hid,rI],H3⟩
   case round=>
    clear H3
    obtain ⟨k,Z,rfl,rfl,hk,hZ,HZ,H3⟩:=hrel
    have y1:wr.cell? ⟨u.heap.size,1,none⟩=some (.slice N.a1 N.nd.ints.length N.c1):=H3.out.1.cell 1
    by_cases hlt2:k<N.nd.ints.length
    ·have hlt2':(k:Int)<N.nd.ints.length:=by omega
     obtain ⟨b3,o3,e3,hb3,d3⟩:=((HLi.out wr H3.out.2.2).i).at (iV_at N.nd.ints k hlt2)
     rw [e3] at y1
     clear e3
     have hz:=HSi.out.fn k hlt2
     have HZn:Hid (Z.data.toList++put (zig (N.nd.ints.getD k 0)).toNat=O1.data.toList++rI (N.nd.ints.take (k+1))):=by
      show _=_
      rw [rI_take N.nd.ints k hlt2,HZ.out,List.append_assoc]
     clear HZ
     generalize N.nd.ints.getD k 0=z at *
     have hzr:=zig_range z hz.1 hz.2
     have HZg:Hid _:=fun W=>zig_ref z W hz.1 hz.2
     obtain ⟨Y,hY,dY,zY⟩:=put_text (zig z).toNat
     have HPz:Hid (∀W,Calls Tryz.prog 52 #[.int .u64 (zig z)] W fun e w'=>e=.returned (.string Y)∧Below W.heap.size W w'):=fun W=>by
      have:=HP.out (zig z).toNat W (by omega)
      rw [hY,Int.toNat_of_nonneg hzr.1] at this
      exact this
     have A1:=fun (W:World)=>run_string_add_sum (P:=Tryz.prog) W Z Y (by omega)
     have hsz:(Z++Y).size≤20+40000*i+10*(k+1):=by rw [ByteArray.size_append];omega
     have HZn2:Hid ((Z++Y).data.toList=O1.data.toList++rI (N.nd.ints.take (k+1))):=by
      show _=_
      rw [ByteArray.data_append,Array.toList_append,dY]
      exact HZn.out
     generalize zig z=zz at *
     clear HZn hY dY hz
     go_wp2_with fail
     refine Calls.mono (HZg.out _) ?_
     rintro e w4 ⟨rfl,rfl⟩
     clear HZg
     go_wp2_with fail
     refine Calls.mono (HPz.out _) ?_
     rintro e w5 ⟨rfl,hb5⟩
     have H5:Hid (AtN 51 w5 u.heap.size #[.int .i64 N.nd.kind,.slice N.a1 N.nd.ints.length N.c1,.slice N.a2 N.nd.texts.length N.c2,.slice N.a3 N.nd.kids.length N.c3]∧AtN 24 w5 w.heap.size #[.slice (some ⟨b,o,none⟩) X.length c,.int .i64 r]∧Below w.heap.size w w5):=⟨H3.out.1.belowAll hb5,H3.out.2.1.belowAll hb5,H3.out.2.2.trans (hb5.mono H3.out.2.2.size)⟩
     clear HPz hb5 H3 y1 d3
     go_wp2_with fail
     go_roundw
     case rel=>
      exact ⟨k+1,Z++Y,rfl,by go_num,by omega,hsz,HZn2,H5⟩
     case measure=>simp [intOf];omega
    ·have hlt2':¬(k:Int)<N.nd.ints.length:=by omega
     have HZe:Hid (Z.data.toList=O1.data.toList++rI N.nd.ints):=by
      have:=HZ.out
      rw [List.take_of_length_le (by omega)] at this
      exact this
     have z2:Z.size≤60+40000*i:=by omega
     clear HZ hZ
     go_wp2_with fail
     clear y1
     go_loopw [3,7] (fun xv iv wr=>∃(k:Nat) (V:ByteArray),xv=.string V∧iv=.int .i64 k∧k≤N.nd.texts.length∧V.size≤60+40000*i+3010*k∧Hid (V.data.toList=Z.data.toList++oT (N.nd.texts.take k))∧Hid (AtN 51 wr u.heap.size #[.int .i64 N.nd.kind,.slice N.a1 N.nd.ints.length N.c1,.slice N.a2 N.nd.texts.length N.c2,.slice N.a3 N.nd.kids.length N.c3]∧AtN 24 wr w.heap.size #[.slice (some ⟨b,o,none⟩) X.length c,.int .i64 r]∧Below w.heap.size w wr)) (fun _ iv _=>N.nd.texts.length-(intOf iv).toNat)
     case atStart=>exact ⟨0,Z,rfl,rfl,by omega,by omega,by simp [Hid,oT],H3⟩
     case round=>
      clear H3
      obtain ⟨k,V,rfl,rfl,hk,hV,HV,H3⟩:=hrel
      have y2:wr.cell? ⟨u.heap.size,2,none⟩=some (.slice N.a2 N.nd.texts.length N.c2):=H3.out.1.cell 2
      by_cases hlt3:k<N.nd.texts.length
      ·have hlt3':(k:Int)<N.nd.texts.length:=by omega
       obtain ⟨b3,o3,e3,hb3,d3⟩:=((HLi.out wr H3.out.2.2).t).at (tV_at N.nd.texts k hlt3)
       rw [e3] at y2
       clear e3
       have hs:=HSi.out.s k hlt3
       have HVn:Hid (V.data.toList++(put (N.nd.texts.getD k noT).size++(N.nd.texts.getD k noT).data.toList)=Z.data.toList++oT (N.nd.texts.take (k+1))):=by
        show _=_
        rw [oT_take N.nd.texts k hlt3,HV.out,List.append_assoc]
       clear HV
       generalize N.nd.texts.getD k noT=s at *
       obtain ⟨Y,hY,dY,zY⟩:=put_text s.size
       have HPz:Hid (∀W,Calls Tryz.prog 52 #[.int .u64 (s.size:Int)] W fun e w'=>e=.returned (.string Y)∧Below W.heap.size W w'):=fun W=>by
        have:=HP.out s.size W (by omega)
        rw [hY] at this
        exact this
       have A1:=fun (W:World)=>run_string_add_sum (P:=Tryz.prog) W Y s (by omega)
       have A2:=fun (W:World)=>run_string_add_sum (P:=Tryz.prog) W V (Y++s) (by rw [ByteArray.size_append];omega)
       have hsz:(V++(Y++s)).size≤60+40000*i+3010*(k+1):=by rw [ByteArray.size_append,ByteArray.size_append];omega
       have HVn2:Hid ((V++(Y++s)).data.toList=Z.data.toList++oT (N.nd.texts.take (k+1))):=by
        show _=_
        rw [ByteArray.data_append,ByteArray.data_append,Array.toList_append,Array.toList_append,dY,HVn.out]
       clear HVn hY dY
       have cP:=fun d os=>Calls.regrown_of (w:=wr) (HPz.out (Go.Sort.grow (redrawn wr d) os))
       have m0:=fun d os=>cell_regrown y2 d os
       have m1:=fun d os=>cell_regrown d3 d os
       clear HPz
       go_wp2_with fail
       refine wp_region_quiet_below (by kernel_rfl) (by kernel_rfl) ?_
       repeat (first|go_big_quiet_step (first|(go_at_call 52;exact cP _ _))|quiet_step (first|(go_at_call 52;exact cP _ _)))
       refine wpQuiet_nil ?_
       intro _ hw'
       obtain ⟨⟨dq,osq⟩,hw''⟩:=hw'
       subst hw''
       have hbq:=below_regrown wr dq osq
       have H5:Hid _:=And.intro (H3.out.1.belowAll hbq) (And.intro (H3.out.2.1.belowAll hbq) (H3.out.2.2.trans (hbq.mono H3.out.2.2.size)))
       clear H3 hbq cP m0 m1 y2 d3 A1 A2
       go_wp2_with fail
       go_roundw
       case rel=>exact ⟨k+1,V++(Y++s),rfl,by go_num,by omega,hsz,HVn2,H5⟩
       case measure=>simp [intOf];omega
      ·have hlt3':¬(k:Int)<N.nd.texts.length:=by omega
       have HVe:Hid (V.data.toList=Z.data.toList++oT N.nd.texts):=by
        have:=HV.out
        rw [List.take_of_length_le (show N.nd.texts.length≤k by omega)] at this
        exact this
       have z3:V.size≤6080+40000*i:=by omega
       have y3:wr.cell? ⟨u.heap.size,3,none⟩=some (.slice N.a3 N.nd.kids.length N.c3):=H3.out.1.cell 3
       obtain ⟨Y,hY,dY,zY⟩:=put_text N.nd.kids.length
       have HPz:Hid (∀W,Calls Tryz.prog 52 #[.int .u64 (N.nd.kids.length:Int)] W fun e w'=>e=.returned (.string Y)∧Below W.heap.size W w'):=fun W=>by
        have:=HP.out N.nd.kids.length W (by omega)
        rw [hY] at this
        exact this
       have A1:=fun (W:World)=>run_string_add_sum (P:=Tryz.prog) W V Y (by omega)
       have z4:(V++Y).size≤6090+40000*i:=by rw [ByteArray.size_append];omega
       have HVk:Hid ((V++Y).data.toList=Z.data.toList++oT N.nd.texts++put N.nd.kids.length):=by
        show _=_
        rw [ByteArray.data_append,Array.toList_append,dY,HVe.out]
       clear HV HVe hV hY dY
       go_wp2_with fail
       clear y2
       refine Calls.mono (HPz.out _) ?_
       rintro e w6 ⟨rfl,hb6⟩
       have H6:Hid (AtN 51 w6 u.heap.size #[.int .i64 N.nd.kind,.slice N.a1 N.nd.ints.length N.c1,.slice N.a2 N.nd.texts.length N.c2,.slice N.a3 N.nd.kids.length N.c3]∧AtN 24 w6 w.heap.size #[.slice (some ⟨b,o,none⟩) X.length c,.int .i64 r]∧Below w.heap.size w w6):=⟨H3.out.1.belowAll hb6,H3.out.2.1.belowAll hb6,H3.out.2.2.trans (hb6.mono H3.out.2.2.size)⟩
       clear HPz hb6 H3 y3
       go_wp2_with fail
       clear A1
       generalize V++Y=V1 at *
       go_loopw [3,8] (fun xv iv wr=>∃(k:Nat) (F:ByteArray),xv=.string F∧iv=.int .i64 k∧k≤N.nd.kids.length∧F.size≤6090+40000*i+10*k∧Hid (F.data.toList=V1.data.toList++oK (N.nd.kids.take k))∧Hid (AtN 51 wr u.heap.size #[.int .i64 N.nd.kind,.slice N.a1 N.nd.ints.length N.c1,.slice N.a2 N.nd.texts.length N.c2,.slice N.a3 N.nd.kids.length N.c3]∧AtN 24 wr w.heap.size #[.slice (some ⟨b,o,none⟩) X.length c,.int .i64 r]∧Below w.heap.size w wr)) (fun _ iv _=>N.nd.kids.length-(intOf iv).toNat)
       case atStart=>exact ⟨0,V1,rfl,rfl,by omega,by omega,by simp [Hid,oK],H6⟩
       case round=>
        clear H6
        obtain ⟨k,F,rfl,rfl,hk,hFz,HFi,H6⟩:=hrel
        have y3:wr.cell? ⟨u.heap.size,3,none⟩=some (.slice N.a3 N.nd.kids.length N.c3):=H6.out.1.cell 3
        by_cases hlt4:k<N.nd.kids.length
        ·have hlt4':(k:Int)<N.nd.kids.length:=by omega
         obtain ⟨b3,o3,e3,hb3,d3⟩:=((HLi.out wr H6.out.2.2).k).at (iV_at N.nd.kids k hlt4)
         rw [e3] at y3
         clear e3
         have hz:=HSi.out.z k hlt4
         have HFn:Hid (F.data.toList++put (N.nd.kids.getD k 0).toNat=V1.data.toList++oK (N.nd.kids.take (k+1))):=by
          show _=_
          rw [oK_take N.nd.kids k hlt4,HFi.out,List.append_assoc]
         clear HFi
         generalize N.nd.kids.getD k 0=z at *
         obtain ⟨Y2,hY,dY,zY2⟩:=put_text z.toNat
         have HPz:Hid (∀W,Calls Tryz.prog 52 #[.int .u64 z] W fun e w'=>e=.returned (.string Y2)∧Below W.heap.size W w'):=fun W=>by
          have:=HP.out z.toNat W (by omega)
          rw [hY,Int.toNat_of_nonneg hz.1] at this
          exact this
         have A1:=fun (W:World)=>run_string_add_sum (P:=Tryz.prog) W F Y2 (by omega)
         have hsz:(F++Y2).size≤6090+40000*i+10*(k+1):=by rw [ByteArray.size_append];omega
         have HFn2:Hid ((F++Y2).data.toList=V1.data.toList++oK (N.nd.kids.take (k+1))):=by
          show _=_
          rw [ByteArray.data_append,Array.toList_append,dY]
          exact HFn.out
         have hz1:=hz.1
         have hz2:=hz.2
         clear HFn hY dY hz
         go_wp2_with fail
         refine Calls.mono (HPz.out _) ?_
         rintro e w7 ⟨rfl,hb7⟩
         have H7:Hid (AtN 51 w7 u.heap.size #[.int .i64 N.nd.kind,.slice N.a1 N.nd.ints.length N.c1,.slice N.a2 N.nd.texts.length N.c2,.slice N.a3 N.nd.kids.length N.c3]∧AtN 24 w7 w.heap.size #[.slice (some ⟨b,o,none⟩) X.length c,.int .i64 r]∧Below w.heap.size w w7):=⟨H6.out.1.belowAll hb7,H6.out.2.1.belowAll hb7,H6.out.2.2.trans (hb7.mono H6.out.2.2.size)⟩
         clear HPz hb7 H6 y3 d3
         go_wp2_with fail
         go_roundw
         case rel=>exact ⟨k+1,F++Y2,rfl,by go_num,by omega,hsz,HFn2,H7⟩
         case measure=>simp [intOf];omega
        ·have hlt4':¬(k:Int)<N.nd.kids.length:=by omega
         have HFe:Hid (F.data.toList=X0.data.toList++((X.map Nx.nd).take (i+1)).flatMap oB):=by
          have h1:=HFi.out
          rw [List.take_of_length_le (by omega),HVk.out,HZe.out,HO1.out] at h1
          show _=_
          rw [← HOn.out,h1]
          simp only [oB,List.append_assoc]
         have z5:F.size≤10+40000*(i+1):=by omega
         have H8:Hid (AtN 24 wr w.heap.size #[.slice (some ⟨b,o,none⟩) X.length c,.int .i64 r]∧Below w.heap.size w wr):=H6.out.2
         clear HFi HVk HZe HO1 HOn H6 hFz
         go_wp2_with fail
         go_roundw
         case rel=>exact ⟨i+1,F,rfl,by go_num,by omega,z5,HFe,H8⟩
         case measure=>simp [intOf];omega
  ·have hlt':¬(i:Int)<X.length:=by omega
   have HOe:Hid (O=oC (X.map Nx.nd)):=by
    refine ba_eq ?_
    have h1:=HO.out
    rw [List.take_of_length_le (by rw [List.length_map];omega)] at h1
    rw [oC_list,HE.out,h1]
   have HB:Hid (Below w.heap.size w u):=HA.out.2
   clear HO HA hO HE HS HSN HP
   go_wp2_with fail
   go_ret
   rw [HOe.out]
   exact ⟨rfl,HB.out⟩
end Go.Proofs.YtgoffkfpdigeeaaGreatDoor
namespace Go.Proofs.YtgoffkfpdigeeaaGreatDoor
open Go.RowKit Go.Maps Go.WideMaps Go.Sort
theorem uint_less {b:ByteArray} {k n:Nat} {r:List UInt8} {m:Int} (h:b.data.toList.drop k=put n++r) (hn:n≤16777216) (hm:m<(n:Int)):pUint b k 0 m=(0,k,19):=by
 unfold pUint
 rw [if_neg (by simp),num_put h (by omega)]
 dsimp only
 rw [if_neg (by simp),if_pos (.inl hm)]
theorem text_less {b:ByteArray} {k n:Nat} {r:List UInt8} {m:Int} (h:b.data.toList.drop k=put n++r) (hn:n≤16777216) (h0:0≤m) (hm:m<(n:Int)):pText b k 0 m=(⟨#[]⟩,k,19):=by
 unfold pText
 rw [if_neg (by simp),num_put h (by omega)]
 dsimp only
 rw [if_neg (by simp),if_pos (.inl (by omega))]
theorem ok8_empty:ok8 ⟨#[]⟩=true:=by decide +kernel
theorem oTs_less (b:ByteArray) (tx:Int) (htx:0≤tx):∀(T:List ByteArray) (k:Nat) (r:List UInt8),k≤b.size→b.data.toList.drop k=oT T++r→(∀s ∈ T,ok8 s=true∧s.size≤16777216)→oTs b tx T.length k 0=(T,k+(oT T).length,0)∨(oTs b tx T.length k 0).2.2=19
 | [],k,r,_,_,_=>.inl rfl
 | x :: T,k,r,hk,h,hi=>by
  have e1:oT (x :: T)=put x.size++(x.data.toList++oT T):=by simp [oT]
  have h':=h
  rw [e1,List.append_assoc,List.append_assoc] at h'
  obtain ⟨h1,h2⟩:=hi x (by simp)
  by_cases hx:(x.size:Int)≤tx
  ·have hp:=text_put tx h' hk h2 hx
   have hl:(put x.size++x.data.toList).length=(put x.size).length+x.size:=by rw [List.length_append,list_size]
   have hk2:=(pText_at b k 0 tx hk).2
   rw [hp] at hk2
   have ih:=oTs_less b tx htx T (k+((put x.size).length+x.size)) r hk2 (drop_more (x:=put x.size++x.data.toList) (by rw [h',List.append_assoc]) hl) (fun s q=>hi s (by simp [q]))
   rw [List.length_cons,oTs_next b tx T.length k hp,h1,if_pos rfl]
   rcases ih with ih|ih
   ·left
    rw [ih,e1]
    simp only [List.length_append,list_size]
    rw [show k+((put x.size).length+x.size)+(oT T).length=k+((put x.size).length+(x.size+(oT T).length)) by omega]
   ·right
    exact ih
  ·right
   rw [List.length_cons,oTs_next b tx T.length k (text_less h' h2 htx (by omega)),ok8_empty,if_pos rfl,oTs_stop b tx _ k (by decide)]
theorem fl_19 (d:Int):fl 19 d=19:=by unfold fl;rw [if_neg (by decide)]
theorem oNd_less (b:ByteArray) (N:Nd) (p c tx0 tx edges:Int) (k:Nat) (r:List UInt8) (hk:k≤b.size) (h:b.data.toList.drop k=oB N++r) (hN:OkN N p c tx0) (hp:0≤p) (hc:c≤16777216) (htx:0≤tx):(oNd b p c tx edges k 0=(N,k+(oB N).length,0)∧(N.kids.length:Int)≤edges)∨(oNd b p c tx edges k 0).2.2=19:=by
 obtain ⟨h1,h2,h3,h4⟩:=tyNo_zero hN.ty
 have hkd:=oldSp_kind h1
 have e1:oB N=put N.kind.toNat++(rI N.ints++(oT N.texts++(put N.kids.length++oK N.kids))):=by
  unfold oB
  simp only [List.append_assoc]
 rw [e1] at h ⊢
 simp only [List.append_assoc] at h
 have u1:=uint_put 16777216 h (by omega) (by omega)
 have a1:=(pUint_at b k 0 16777216 hk).2
 rw [u1] at a1
 have hkn:(N.kind.toNat:Int)=N.kind:=by omega
 rw [hkn] at u1
 have d1:=drop_more h rfl
 unfold fitI at h2
 rw [Bool.and_eq_true,decide_eq_true_eq,List.all_eq_true] at h2
 have u2:=gIs_put b (oldSp N.kind).ints N.ints _ _ d1 h2.1 (fun i q=>h2.2 i (by simpa using q)) hN.fn
 have a2:=(gIs_at b (oldSp N.kind).ints _ 0 a1).2
 rw [u2] at a2
 have d2:=drop_more d1 rfl
 unfold fitT at h3
 rw [Bool.and_eq_true,decide_eq_true_eq,List.all_eq_true] at h3
 have u3:=oTs_less b tx htx N.texts _ _ a2 d2 (fun s q=>⟨h3.2 s q,(hN.txt s q).1⟩)
 have d3:=drop_more d2 rfl
 have ht:(oldSp N.kind).texts.toNat=N.texts.length:=by omega
 unfold fitK at h4
 rw [Bool.and_eq_true,Bool.or_eq_true,decide_eq_true_eq,decide_eq_true_eq,decide_eq_true_eq] at h4
 have stop:∀(B:List ByteArray) (k5:Nat) (e5:Int),oTs b tx (oldSp N.kind).texts.toNat (k+(put N.kind.toNat).length+(rI N.ints).length) 0=(B,k5,e5)→(∃k6,pUint b k5 e5 edges=(0,k6,19))→(oNd b p c tx edges k 0).2.2=19:=fun B k5 e5 hB ⟨k6,hM⟩=>by
  have h7:(if decide ((0:Int)<(oldSp N.kind).least∨(0≤(oldSp N.kind).most∧(oldSp N.kind).most<0))=true then fl 19 12 else 19)=19:=by
   rw [fl_19]
   split <;> rfl
  have u6:=oRest_eq (p:=p) (c:=c) (S:=oldSp N.kind) (edges:=edges) u2 hB hM h7 (oKs_stop b p c _ k6 (by decide))
  unfold oNd
  rw [u1]
  dsimp only
  rw [h1,if_pos rfl,u6]
 rcases u3 with u3|u3
 ·by_cases he:(N.kids.length:Int)≤edges
  ·left
   have u4:=uint_put edges d3 hN.few he
   have d4:=drop_more d3 rfl
   have u5:=oKs_put b p c hc hp N.kids _ _ d4 hN.kids
   have u6:=oRest_eq (S:=oldSp N.kind) (edges:=edges) u2 (by rw [ht];exact u3) u4 (if_neg (by rw [decide_eq_false (by omega)];decide)) u5
   refine ⟨?_,he⟩
   unfold oNd
   rw [u1]
   dsimp only
   rw [h1,if_pos rfl,u6]
   simp only [List.length_append,← Nat.add_assoc]
  ·right
   exact stop _ _ _ (by rw [ht];exact u3) ⟨_,uint_less d3 hN.few (by omega)⟩
 ·right
  obtain ⟨B,k5,e5,hB⟩:∃B k5 e5,oTs b tx N.texts.length (k+(put N.kind.toNat).length+(rI N.ints).length) 0=(B,k5,e5):=⟨_,_,_,rfl⟩
  rw [hB] at u3
  dsimp only at u3
  subst u3
  refine stop B k5 19 (by rw [ht];exact hB) ⟨k5,?_⟩
  unfold pUint
  rw [if_pos (by decide)]
theorem oNds_less (b:ByteArray) (c tx0 tx:Int) (hc:c≤16777216) (htx:0≤tx):∀(P:List Nd) (p ed:Int) (k:Nat) (r:List UInt8),k≤b.size→0≤p→b.data.toList.drop k=P.flatMap oB++r→(∀(i:Nat) (N:Nd),P[i]? = some N→OkN N (p+i) c tx0)→oNds b c tx P.length p ed k=(P,k+(P.flatMap oB).length,0)∨(oNds b c tx P.length p ed k).2.2=19
 | [],p,ed,k,r,_,_,_,_=>.inl rfl
 | N :: P,p,ed,k,r,hk,hp,h,hi=>by
  have e1:(N :: P).flatMap oB=oB N++P.flatMap oB:=by simp
  rw [e1,List.append_assoc] at h
  have hN:OkN N p c tx0:=by have:=hi 0 N rfl;simpa using this
  rcases oNd_less b N p c tx0 tx ed k _ hk h hN hp hc htx with ⟨hp1,he⟩|hp1
  ·have hk2:=(oNd_at b p c tx ed k 0 hk).2
   rw [hp1] at hk2
   have ih:=oNds_less b c tx0 tx hc htx P (p+1) (ed-N.kids.length) (k+(oB N).length) r hk2 (by omega) (drop_more h rfl) (fun i M hM=>by
    have:=hi (i+1) M (by simpa using hM)
    rwa [show p+((i+1:Nat):Int)=p+1+i by omega] at this)
   rw [List.length_cons];unfold oNds
   rw [hp1]
   dsimp only
   rw [if_neg (by simp)]
   rcases ih with ih|ih
   ·left
    rw [ih,e1,List.length_append,Nat.add_assoc]
   ·right
    exact ih
  ·right
   rw [List.length_cons];unfold oNds
   rw [if_pos (by rw [hp1];decide)]
   exact hp1
theorem oPay_less {b:ByteArray} {P:List Nd} {n0 ed0 tx0 n ed tx:Int} (hb:b.data.toList=oR P) (h:OkP P n0 ed0 tx0) (htx:0≤tx):oPay b n ed tx=(P,0)∨(oPay b n ed tx).2=19:=by
 have h0:b.data.toList.drop 0=put P.length++(P.flatMap oB++[]):=by rw [List.drop_zero,hb,List.append_nil];rfl
 by_cases hn:(P.length:Int)≤n
 ·have u1:=uint_put n h0 h.few hn
  have a1:=(pUint_at b 0 0 n (Nat.zero_le _)).2
  rw [u1] at a1
  have d1:=drop_more h0 rfl
  have u2:=oNds_less b P.length tx0 tx (by have:=h.few;omega) htx P 0 ed _ [] a1 (by omega) d1 (fun i N hN=>by have:=h.nod i N hN;rwa [Int.zero_add])
  have hl:b.size=(put P.length).length+(P.flatMap oB).length:=by rw [← list_size,hb];unfold oR;rw [List.length_append]
  have hp:P.length≠0:=fun q=>h.ne (List.eq_nil_of_length_eq_zero q)
  unfold oPay
  rw [u1]
  dsimp only
  rw [if_neg (by simp),if_neg (by omega),Int.toNat_natCast]
  rcases u2 with u2|u2
  ·left
   rw [u2]
   dsimp only
   rw [if_neg (by simp),if_neg (by omega)]
  ·right
   rw [if_pos (by rw [u2];decide)]
   exact u2
 ·right
  unfold oPay
  rw [uint_less h0 h.few (by omega)]
  rfl
theorem less_ofile {X:List Nx} {l l0:Lm} {d:Nat} (hS:Small X) (hF:FnX X) (hW:tyEo X=0) (hf:FowIs X 0) (hd:DepthIs X 0 d) (h0:okL l0=true) (hi0:inL (meL X d) l0=true) (ho:okL l=true) (hz:(oC (X.map Nx.nd)).size≤16777216) (hno:l.b<((oF (X.map Nx.nd)).size:Int)∨inL (meL X d) l=false):LoIs (oF (X.map Nx.nd)) l [] 19:=by
 by_cases hb:l.b<((oF (X.map Nx.nd)).size:Int)
 ·have:=opK_2 _ _ ho hb
  exact .inl ⟨by rw [this];decide,this.symm,rfl⟩
 have hi:=hno.resolve_left hb
 have hk:opK (oF (X.map Nx.nd)) l=(0,oC (X.map Nx.nd)):=opK_put ho hz hb
 have htx:0≤l.x:=(of_decide_eq_true (show decide (okP l)=true from ho)).2.2.2.2.1
 refine .inr ⟨by rw [hk],?_⟩
 rw [hk]
 rcases oPay_less (n:=l.n) (ed:=l.e) (oC_list (X.map Nx.nd)) (okp_of hS hF hW hf h0 hi0) htx with hp|hp
 ·have hs:(bare (X.map Nx.nd)).map Nx.nd=X.map Nx.nd:=bare_nd _
  refine .inr ⟨by rw [hp],d,0,0,?_,?_,.inr ⟨rfl,.inl ⟨?_,rfl,rfl⟩⟩⟩
  ·rw [hp]
   exact same_depth hs.symm hd
  ·rw [hp]
   exact check_right ((same_right hs).2 hf.1)
  ·rw [hp]
   rw [same_meL hs]
   exact hi
 ·exact .inl ⟨by rw [hp];decide,hp.symm,rfl⟩
end Go.Proofs.YtgoffkfpdigeeaaGreatDoor
