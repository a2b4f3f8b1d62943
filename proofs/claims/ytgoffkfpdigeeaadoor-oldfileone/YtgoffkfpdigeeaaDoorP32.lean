import Derived.Deep.RegionHeld3
import Derived.Test.YtgoffkfpdigeeaaDoorP23
import Derived.Test.YtgoffkfpdigeeaaDoorP27
import Derived.Test.YtgoffkfpdigeeaaDoorP31
import Derived.Test.YtgoffkfpdigeeaaDoorP21
import Derived.Test.YtgoffkfpdigeeaaDoorP26
namespace Go.Proofs.YtgoffkfpdigeeaaDoor
open Go.RowKit Go.Maps Go.WideMaps Go.Sort
theorem uL_rg:∀i,i<5→-9223372036854775808≤(lmL wL).getD i 0∧(lmL wL).getD i 0≤9223372036854775807:=fun i hi=>by
 rcases five_cases hi with rfl|rfl|rfl|rfl|rfl <;> decide
structure Uw (w W:World):Prop where
 t:AtN 9 W w.heap.size #[.string uT]
 n:AtN 41 W (w.heap.size+1) #[.int .i64 5,.slice none 0 0,.slice (some ⟨w.heap.size,0,none⟩) 1 1,.slice none 0 0]
 s:AtN 27 W (w.heap.size+1+1) #[.slice (some ⟨w.heap.size+1,0,none⟩) 1 1,.int .i64 0]
 bel:Below w.heap.size w W
section
variable {w W W':World}
theorem Uw.more (h:Uw w W) (hb:Below W.heap.size W W'):Uw w W':=⟨h.t.belowAll hb,h.n.belowAll hb,h.s.belowAll hb,h.bel.trans (hb.mono h.bel.size)⟩
theorem Uw.sc (h:Uw w W):ScAt W (some ⟨w.heap.size+1,0,none⟩) (uX w.heap.size):=⟨at_ls (cs:=nxV (uX w.heap.size)) h.n,fun j hj=>by
 match j,hj with
 | 0,_=>exact ⟨LsAt.nil _ _,at_ls (cs:=tV [uT]) h.t,LsAt.nil _ _⟩⟩
theorem Uw.all (h:Uw w W):W.cell? ⟨w.heap.size+1+1,0,none⟩=some (.slice (some ⟨w.heap.size+1,0,none⟩) 1 1)∧W.cell? ⟨w.heap.size+1+1,1,none⟩=some (.int .i64 0):=⟨h.s.cell 0,h.s.cell 1⟩
theorem sec_at1' {g:Nat} {R:ByteArray} (h:AtN 46 W g #[.int .i64 1,.string R]):SecAt W g 0 (oS R):=sec_at1 h
end
set_option maxRecDepth 10000 in
set_option maxHeartbeats 2000000 in
theorem awake_any (w:World) (ht:Tabs16 w) :
  Calls Tryd.prog 4 #[] w fun e w'=>e=.returned (.bool true)∧Below w.heap.size w w':=by
 have HA:Hid (∀o2 o3 o4:Obj,o2=.cells #[.string uT] 9→o3=.cells #[.int .i64 5,.slice none 0 0,.slice (some ⟨w.heap.size,0,none⟩) 1 1,.slice none 0 0] 41→o4=.cells #[.slice (some ⟨w.heap.size+1,0,none⟩) 1 1,.int .i64 0] 27→Uw w (((w.alloc o2).alloc o3).alloc o4)):=by
  rintro _ _ _ rfl rfl rfl
  exact ⟨((AtN.new w 9 _).alloc _).alloc _,(mk_at (AtN.new (w.alloc _) 41 _) (show _=w.heap.size+1 by simp)).alloc _,mk_at (AtN.new ((w.alloc _).alloc _) 27 _) (show _=w.heap.size+1+1 by simp),(((Below.refl w.heap.size w).alloc (Nat.le_refl _) _).alloc (by simp) _).alloc (by simp;omega) _⟩
 have HSv:Hid (∀W,Uw w W→Calls Tryd.prog 6 #[.agg #[.slice (some ⟨w.heap.size+1,0,none⟩) 1 1,.int .i64 0],.agg #[.int .i64 16777216,.int .i64 16777216,.int .i64 16777216,.int .i64 16777216,.int .i64 16777216]] W fun e w'=>e=.returned (.tuple #[.string uF,.int .i64 0])∧Below W.heap.size W w'):=fun W hW=>by
  refine Calls.mono (posave_any (uX w.heap.size) (some ⟨w.heap.size+1,0,none⟩) 1 0 wL W hW.sc (uX_small _) (uX_fn _) (ht.on hW.bel) (fun _ _=>by rw [uX_c];decide)) ?_
  rintro e w' ⟨B,k,rfl,hs,hb⟩
  obtain ⟨rfl,rfl⟩:=(uF_save w.heap.size).uniq hs
  exact ⟨rfl,hb⟩
 have HPt:Hid (∀o:Obj,o=.cells #[.int .i64 1,.string uC] 46→∀W,Calls Tryd.prog 10 #[.string ⟨#[68,73,79,82]⟩,.int .i64 1,.slice (some ⟨W.heap.size,0,none⟩) 1 1] (W.alloc o) (fun e w'=>e=.returned (.tuple #[.string uF,.int .i64 0])∧Below W.heap.size W w')):=by
  rintro _ rfl W
  have h:=rput_any mD 1 (some ⟨W.heap.size,0,none⟩) 1 W.heap.size 0 (oS uC) (W.alloc (.cells #[.int .i64 1,.string uC] 46)) (fun _=>rfl) (sec_at1' (AtN.new W 46 _)) (fun s hs=>by
   simp only [oS,List.mem_cons,List.not_mem_nil,or_false] at hs
   subst hs
   show uC.size≤4000000
   decide)
  rw [oS_put (by decide)] at h
  refine Calls.mono h ?_
  rintro e w' ⟨rfl,hb⟩
  exact ⟨rfl,((Below.refl W.heap.size W).alloc (Nat.le_refl _) _).trans (hb.mono (by simp))⟩
 have HLd:Hid (∀W,Below w.heap.size w W→Calls Tryd.prog 5 #[.string uF,.agg #[.int .i64 16777216,.int .i64 16777216,.int .i64 16777216,.int .i64 16777216,.int .i64 16777216]] W fun e w'=>∃(X:List Nx) (a:Option Addr) (c:Nat),e=.returned (.tuple #[.agg #[.slice a X.length c,.int .i64 0],.int .i64 0])∧X.map Nx.nd=(uX w.heap.size).map Nx.nd∧ScAt w' a X∧Small X∧Below W.heap.size W w'):=fun W hW=>by
  refine Calls.mono (poload_any uF wL W (ht.on hW) (by have:=uF_size;omega) uF_q uL_rg) ?_
  rintro e w' ⟨X,a,c,k,rfl,hl,hs,hm,_,hb⟩
  obtain ⟨h1,rfl⟩:=(uF_load w.heap.size).uniq hl
  exact ⟨X,a,c,rfl,h1,hs w' (Fr.refl _ _),hm,hb⟩
 have HNo:Hid (∀W,Below w.heap.size w W→Calls Tryd.prog 5 #[.string ⟨#[68,73,79,82,2]⟩,.agg #[.int .i64 16777216,.int .i64 16777216,.int .i64 16777216,.int .i64 16777216,.int .i64 16777216]] W fun e w'=>∃(X:List Nx) (a:Option Addr) (c:Nat),e=.returned (.tuple #[.agg #[.slice a X.length c,.int .i64 0],.int .i64 7])∧Below W.heap.size W w'):=fun W hW=>by
  refine Calls.mono (poload_any ⟨#[68,73,79,82,2]⟩ wL W (ht.on hW) (by decide) (qno_small_of (by decide)) uL_rg) ?_
  rintro e w' ⟨X,a,c,k,rfl,hl,_,_,_,hb⟩
  obtain ⟨_,rfl⟩:=uF_no.uniq hl
  exact ⟨X,a,c,rfl,hb⟩
 have hqF:(uF.toList==uF.toList)=true:=by simp
 clear ht
 go_enter Tryd.func4,Tryd.ntmps4
 go_wp2_with fail
 have h0:Uw w (((w.alloc (.cells #[.string ⟨#[97]⟩] 9)).alloc (.cells #[.int .i64 5,.slice none 0 0,.slice (some ⟨w.heap.size,0,none⟩) 1 1,.slice none 0 0] 41)).alloc (.cells #[.slice (some ⟨w.heap.size+1,0,none⟩) 1 1,.int .i64 0] 27)):=HA.out _ _ _ rfl rfl rfl
 generalize (((w.alloc (.cells #[.string ⟨#[97]⟩] 9)).alloc (.cells #[.int .i64 5,.slice none 0 0,.slice (some ⟨w.heap.size,0,none⟩) 1 1,.slice none 0 0] 41)).alloc (.cells #[.slice (some ⟨w.heap.size+1,0,none⟩) 1 1,.int .i64 0] 27))=w0 at *
 have H0:Hid (Uw w w0):=h0
 have HD:Hid (Uw w w0.drew):=h0.more (bel_drew w0)
 have K0:=h0.all
 have Kd:=HD.out.all
 clear HA h0
 go_region_held3 (fun W=>W.cell? ⟨w.heap.size+1+1,0,none⟩=some (.slice (some ⟨w.heap.size+1,0,none⟩) 1 1)∧W.cell? ⟨w.heap.size+1+1,1,none⟩=some (.int .i64 0)) (first|exact K2|exact K1|exact Kd|exact K0)
  ((first|(go_at_call 6;refine Calls.mono (HSv.out _ H1.out) ?_;rintro e w2 ⟨rfl,hb2⟩;have H2:Hid (Uw w w2):=H1.out.more hb2;have K2:=H2.out.all)|(go_at_call 9;refine Calls.mono (wide_any _) ?_;rintro e w1 ⟨rfl,hb1⟩;have H1:Hid (Uw w w1):=HD.out.more hb1;have K1:=H1.out.all)))
 clear H0 HD H1 K0 Kd K1 K2 hb1 hb2 HSv
 go_wp2_with fail
 refine Calls.mono (HPt.out _ rfl _) ?_
 rintro e w9 ⟨rfl,hb9⟩
 have H9:Hid (Uw w w9):=H2.out.more hb9
 clear H2 hb9 HPt
 go_wp2_with fail
 refine Calls.mono (wide_any _) ?_
 rintro e w3 ⟨rfl,hb3⟩
 have H3:Hid (Uw w w3):=H9.out.more hb3
 have HLc:Hid _:=HLd.out w3 H3.out.bel
 clear H9 hb3 HLd
 go_wp2_with fail
 refine Calls.mono HLc.out ?_
 rintro e w4 ⟨X,a,c,rfl,hX,hsc,hsm,hb4⟩
 have hb5:Below w4.heap.size w4 (w4.alloc (.cells #[.slice a X.length c,.int .i64 0] 27)):=(Below.refl w4.heap.size w4).alloc (Nat.le_refl _) _
 have HM5:Hid (AtN 27 (w4.alloc (.cells #[.slice a X.length c,.int .i64 0] 27)) w4.heap.size #[.slice a X.length c,.int .i64 0]):=AtN.new w4 27 _
 have H5:Hid (Uw w (w4.alloc (.cells #[.slice a X.length c,.int .i64 0] 27))):=(H3.out.more hb4).more hb5
 have HS5:Hid (ScAt (w4.alloc (.cells #[.slice a X.length c,.int .i64 0] 27)) a X∧Small X∧X.map Nx.nd=(uX w.heap.size).map Nx.nd):=⟨hsc.belowB hb5,hsm,hX⟩
 clear HLc H3 hb4 hb5 hX hsc hsm
 go_wp2_with fail
 generalize (w4.alloc (.cells #[.slice a X.length c,.int .i64 0] 27))=w5 at *
 refine Calls.mono (wide_any _) ?_
 rintro e w6 ⟨rfl,hb6⟩
 have H6:Hid (Uw w w6):=H5.out.more hb6
 have HM6:Hid (AtN 27 w6 w4.heap.size #[.slice a X.length c,.int .i64 0]):=HM5.out.belowAll hb6
 have HS6:Hid (ScAt w6 a X∧Small X∧X.map Nx.nd=(uX w.heap.size).map Nx.nd):=⟨HS5.out.1.belowB hb6,HS5.out.2⟩
 have HNc:Hid _:=HNo.out w6 H6.out.bel
 clear H5 HM5 HS5 hb6 HNo
 go_wp2_with fail
 refine Calls.mono HNc.out ?_
 rintro e w7 ⟨X2,a2,c2,rfl,hb7⟩
 have HB8:Hid (Below w6.heap.size w6 (w7.alloc (.cells #[.slice a2 X2.length c2,.int .i64 0] 27))):=hb7.alloc hb7.size _
 have H8:Hid (Uw w (w7.alloc (.cells #[.slice a2 X2.length c2,.int .i64 0] 27))):=H6.out.more HB8.out
 have HM8:Hid (AtN 27 (w7.alloc (.cells #[.slice a2 X2.length c2,.int .i64 0] 27)) w4.heap.size #[.slice a X.length c,.int .i64 0]):=HM6.out.belowAll HB8.out
 have HS8:Hid (ScAt (w7.alloc (.cells #[.slice a2 X2.length c2,.int .i64 0] 27)) a X∧Small X∧X.map Nx.nd=(uX w.heap.size).map Nx.nd):=⟨HS6.out.1.belowB HB8.out,HS6.out.2⟩
 clear HNc H6 HM6 HS6 hb7 HB8
 have m0:(w7.alloc (.cells #[.slice a2 X2.length c2,.int .i64 0] 27)).cell? ⟨w4.heap.size,0,none⟩=some (.slice a X.length c):=HM8.out.cell 0
 have m1:(w7.alloc (.cells #[.slice a2 X2.length c2,.int .i64 0] 27)).cell? ⟨w4.heap.size,1,none⟩=some (.int .i64 0):=HM8.out.cell 1
 have s0:(w7.alloc (.cells #[.slice a2 X2.length c2,.int .i64 0] 27)).cell? ⟨w.heap.size+1+1,0,none⟩=some (.slice (some ⟨w.heap.size+1,0,none⟩) 1 1):=H8.out.s.cell 0
 have s1:(w7.alloc (.cells #[.slice a2 X2.length c2,.int .i64 0] 27)).cell? ⟨w.heap.size+1+1,1,none⟩=some (.int .i64 0):=H8.out.s.cell 1
 have HSm:Hid _:=ssame_yes X (uX w.heap.size) a (some ⟨w.heap.size+1,0,none⟩) c 1 0 (w7.alloc (.cells #[.slice a2 X2.length c2,.int .i64 0] 27)) HS8.out.1 H8.out.sc HS8.out.2.1 HS8.out.2.2.symm
 go_wp2_with fail
 generalize (w7.alloc (.cells #[.slice a2 X2.length c2,.int .i64 0] 27))=w8 at *
 refine Calls.mono HSm.out ?_
 rintro e w9 ⟨rfl,hb9⟩
 have HB9:Hid (Below w.heap.size w w9):=(H8.out.more hb9).bel
 clear HSm hb9
 go_wp2_with fail
 go_ret
 exact ⟨rfl,HB9.out⟩
end Go.Proofs.YtgoffkfpdigeeaaDoor
namespace Go.Proofs.YtgoffkfpdigeeaaDoor
open Go.RowKit Go.Maps Go.WideMaps Go.Sort
section
variable {X:List Nx} {r:Int} {l:Lm} {d:Nat} {B:ByteArray} {e:Int}
theorem SoIs.bad (h:SoIs X r l B e) (he:e≠0):B=⟨#[]⟩:=by
 obtain ⟨d,n,z,h1,h2,h3⟩:=h
 rcases h3 with ⟨_,_,q⟩|⟨_,⟨_,_,q⟩|⟨_,⟨_,_,q⟩|⟨_,q,_⟩⟩⟩
 ·exact q
 ·exact q
 ·exact q
 ·exact absurd q he
theorem SoIs.good (h:SoIs X r l B 0):okL l=true∧tyEo X=0∧FowIs X r∧(∃d,DepthIs X r d∧inL (meL X d) l=true)∧¬l.b<((oF (X.map Nx.nd)).size:Int)∧B=oF (X.map Nx.nd):=by
 obtain ⟨d,n,z,h1,h2,h3⟩:=h
 rcases h3 with ⟨q1,q2,_⟩|⟨rfl,⟨_,q,_⟩|⟨q1,⟨_,q,_⟩|⟨q2,_,q3⟩⟩⟩
 ·exact absurd q2.symm q1
 ·cases q
 ·cases q
 ·obtain ⟨p1,p2,p3⟩:=h2.zero.1 rfl
  exact ⟨p1,p2.1,q1,⟨d,h1,p3⟩,q2,q3⟩
theorem lo_none {b:ByteArray} {k:Int} (h:LoIs b l (X.map Nx.nd) k) (hk:k≠0):X=[]:=by
 rcases h with ⟨_,_,h3⟩|⟨_,⟨_,_,h3⟩|⟨_,d,n,z,_,_,⟨_,_,h3⟩|⟨_,⟨_,_,h3⟩|⟨_,h3,_⟩⟩⟩⟩
 ·simpa using h3
 ·simpa using h3
 ·simpa using h3
 ·simpa using h3
 ·exact absurd h3 hk
theorem lo_sz {b:ByteArray} {l:Lm} {X:List Nx} (h:LoIs b l (X.map Nx.nd) 0):(oC (X.map Nx.nd)).size≤b.size:=by
 rcases h with ⟨h1,h2,_⟩|⟨h1,hP⟩
 ·exact absurd h2.symm h1
 obtain ⟨k1,_,_⟩:=opK_inv h1
 have hs:=(ofile_of h1).2
 generalize (opK b l).2=R at *
 rcases hP with ⟨h1,h2,_⟩|⟨h1,d,n,z,hd,hc,h3⟩
 ·exact absurd h2.symm h1
 rcases h3 with ⟨p,q,_⟩|⟨p,⟨_,q,_⟩|⟨p1,_,p2⟩⟩
 ·exact absurd q.symm p
 ·cases q
 ·have hQ:oPay R l.n l.e l.x=(X.map Nx.nd,0):=by rw [p2,← h1]
  have hle:0≤l.e:=by
   have:=of_decide_eq_true (show decide (okP l)=true from k1)
   exact this.2.2.1.1
  have hC:oC (X.map Nx.nd)=R:=ba_eq (by rw [oC_list];exact (oPay_bytes hle hQ).1.symm)
  rw [hC]
  exact hs
end
theorem fowo_yes {W:World} {X:List Nx} {a:Option Addr} {c:Nat} {r:Int} (h:ScAt W a X) (hX:Small X) (hf:FowIs X r):Calls Tryd.prog 8 #[.agg #[.slice a X.length c,.int .i64 r]] W fun e w'=>e=.returned (.bool true)∧Below W.heap.size W w':=by
 refine Calls.mono (ois_any X a c r W h hX) ?_
 rintro e w' ⟨b,rfl,hb,hB⟩
 rw [hb.2 hf]
 exact ⟨rfl,hB⟩
end Go.Proofs.YtgoffkfpdigeeaaDoor
