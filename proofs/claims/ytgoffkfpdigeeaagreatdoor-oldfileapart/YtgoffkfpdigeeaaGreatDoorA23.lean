import Derived.Laws.CopyOwn
import Derived.Deep.RegionLaw
import Derived.Sort.OwnSortedInts
import Derived.Test.YtgoffkfpdigeeaaGreatDoorA21
import Derived.Test.YtgoffkfpdigeeaaGreatDoorA22
import Derived.Test.YtgoffkfpdigeeaaGreatDoorA13
import Derived.Test.YtgoffkfpdigeeaaGreatDoorA02
import Derived.Test.YtgoffkfpdigeeaaGreatDoorA14
import Derived.Test.YtgoffkfpdigeeaaGreatDoorA03
namespace Go.Proofs.YtgoffkfpdigeeaaGreatDoor
open Go.RowKit Go.Maps Go.WideMaps Go.Sort
def SameOut (X Y:List Nx) (r s:Int) (w w':World) (e:Ending):Prop:=∃b,e=.returned (.bool b)∧(b=true↔r=s∧Y.map Nx.nd=X.map Nx.nd)∧Below w.heap.size w w'
theorem nds_eq {X Y:List Nx} (hl:X.length=Y.length) (h:∀k,k<X.length→(X.getD k noNx).nd=(Y.getD k noNx).nd):Y.map Nx.nd=X.map Nx.nd:=by
 refine List.ext_getElem (by simp [hl]) (fun i h1 h2=>?_)
 have hi:i<Y.length:=by simpa using h1
 have hx:i<X.length:=by omega
 have:=h i hx
 rw [show X.getD i noNx=X[i] by rw [List.getD_eq_getElem?_getD,List.getElem?_eq_getElem hx];rfl,show Y.getD i noNx=Y[i] by rw [List.getD_eq_getElem?_getD,List.getElem?_eq_getElem hi];rfl] at this
 simp [this]
theorem nds_at {X Y:List Nx} (h:Y.map Nx.nd=X.map Nx.nd) (i:Nat) (hi:i<X.length):(Y.getD i noNx).nd=(X.getD i noNx).nd:=by
 have hl:Y.length=X.length:=by simpa using congrArg List.length h
 have h1:(Y.map Nx.nd)[i]? = (X.map Nx.nd)[i]? := by rw [h]
 rw [List.getElem?_map,List.getElem?_map,List.getElem?_eq_getElem hi,List.getElem?_eq_getElem (by omega)] at h1
 rw [List.getD_eq_getElem?_getD,List.getD_eq_getElem?_getD,List.getElem?_eq_getElem hi,List.getElem?_eq_getElem (by omega)]
 simpa using h1
set_option maxRecDepth 10000 in
set_option maxHeartbeats 1000000 in
theorem ssame_any (X Y:List Nx) (a b:Option Addr) (c d:Nat) (r s:Int) (w:World) (h:ScAt w a X) (h':ScAt w b Y) (hX:Small X) :
  Calls Tryz.prog 15 #[.agg #[.slice a X.length c,.int .i64 r],.agg #[.slice b Y.length d,.int .i64 s]] w fun e w'=>SameOut X Y r s w w' e:=by
 have hn:=hX.1
 have HS:Hid (ScAt w a X∧ScAt w b Y∧Small X):=⟨h,h',hX⟩
 clear h h' hX
 have HA:Hid (∀(o1 o2:Obj),o1=.cells #[.slice a X.length c,.int .i64 r] 24→o2=.cells #[.slice b Y.length d,.int .i64 s] 24→AtN 24 ((w.alloc o1).alloc o2) w.heap.size #[.slice a X.length c,.int .i64 r]∧AtN 24 ((w.alloc o1).alloc o2) (w.heap.size+1) #[.slice b Y.length d,.int .i64 s]∧Below w.heap.size w ((w.alloc o1).alloc o2)):=by
  rintro _ _ rfl rfl
  exact ⟨(AtN.new w 24 _).alloc _,mk_at (AtN.new (w.alloc _) 24 _) (show _=w.heap.size+1 by simp),((Below.refl w.heap.size w).alloc (Nat.le_refl _) _).alloc (by simp) _⟩
 by_cases hr:r=s
 ·subst hr
  by_cases hl:X.length=Y.length
  ·have Hl:Hid _:=hl
   rw [← hl] at HA ⊢
   clear hl
   go_enter Tryz.func15,Tryz.ntmps15
   go_wp2_with fail
   go_loopw [5] (fun iv wr=>∃(i:Nat),iv=.int .i64 i∧i≤X.length∧Hid (∀k,k<i→(X.getD k noNx).nd=(Y.getD k noNx).nd)∧Hid (AtN 24 wr w.heap.size #[.slice a X.length c,.int .i64 r])∧Hid (AtN 24 wr (w.heap.size+1) #[.slice b X.length d,.int .i64 r])∧Hid (Below w.heap.size w wr)) (fun iv _=>X.length-(intOf iv).toNat)
   case atStart=>
    obtain ⟨h1,h2,h3⟩:=HA.out _ _ rfl rfl
    exact ⟨0,rfl,by omega,(fun k hk=>by omega),h1,h2,h3⟩
   case round=>
    clear HA
    obtain ⟨i,rfl,hi,HI,H1,H2,HB⟩:=hrel
    have x0:wr.cell? ⟨w.heap.size,0,none⟩=some (.slice a X.length c):=H1.out.cell 0
    have y0:wr.cell? ⟨w.heap.size+1,0,none⟩=some (.slice b X.length d):=H2.out.cell 0
    by_cases hlt:i<X.length
    ·have hlt':(i:Int)<X.length:=by omega
     have hlY:i<Y.length:=by rw [← Hl.out];exact hlt
     have sX:=ScAt.belowB HS.out.1 HB.out
     have sY:=ScAt.belowB HS.out.2.1 HB.out
     obtain ⟨ga,oa,rfl,la,p0,p1,p2,p3⟩:=sX.node hlt
     obtain ⟨gb,ob,rfl,lb,q0,q1,q2,q3⟩:=sY.node hlY
     obtain ⟨g1,g2,g3,_⟩:=big_no (HS.out.2.2.2 i hlt)
     have HX:Hid (NdAt wr (X.getD i noNx).nd (X.getD i noNx).a1 (X.getD i noNx).a2 (X.getD i noNx).a3):=sX.each i hlt
     have HY:Hid (NdAt wr (Y.getD i noNx).nd (Y.getD i noNx).a1 (Y.getD i noNx).a2 (Y.getD i noNx).a3):=sY.each i hlY
     have HE:Hid ((X.getD i noNx).nd=(Y.getD i noNx).nd→∀k,k<i+1→(X.getD k noNx).nd=(Y.getD k noNx).nd):=fun q k hk=>by
      by_cases e:k=i
      ·rw [e];exact q
      ·exact HI.out k (by omega)
     have HF:Hid (¬(X.getD i noNx).nd=(Y.getD i noNx).nd→¬Y.map Nx.nd=X.map Nx.nd):=fun q e=>q (nds_at e i hlt).symm
     clear sX sY HI
     generalize X.getD i noNx=M at *
     generalize Y.getD i noNx=N at *
     have m0:=fun dd os=>cell_regrown x0 dd os
     have m1:=fun dd os=>cell_regrown y0 dd os
     have n0:=fun dd os=>cell_regrown p0 dd os
     have n1:=fun dd os=>cell_regrown p1 dd os
     have n2:=fun dd os=>cell_regrown p2 dd os
     have n3:=fun dd os=>cell_regrown p3 dd os
     have k0:=fun dd os=>cell_regrown q0 dd os
     have k1:=fun dd os=>cell_regrown q1 dd os
     have k2:=fun dd os=>cell_regrown q2 dd os
     have k3:=fun dd os=>cell_regrown q3 dd os
     have cD:=fun dd os=>Calls.regrown_of (same8_big M.nd N.nd M.a1 M.a2 M.a3 N.a1 N.a2 N.a3 M.c1 M.c2 M.c3 N.c1 N.c2 N.c3 (grow (redrawn wr dd) os) (HX.out.belowB (below_regrown wr dd os)) (HY.out.belowB (below_regrown wr dd os)) g1 g2 (by omega))
     have HB2:Hid (∀dd os,AtN 24 (grow (redrawn wr dd) os) w.heap.size #[.slice (some ⟨ga,oa,none⟩) X.length c,.int .i64 r]∧AtN 24 (grow (redrawn wr dd) os) (w.heap.size+1) #[.slice (some ⟨gb,ob,none⟩) X.length d,.int .i64 r]∧Below w.heap.size w (grow (redrawn wr dd) os)):=fun dd os=>⟨H1.out.belowAll (below_regrown wr dd os),H2.out.belowAll (below_regrown wr dd os),HB.out.trans ((below_regrown wr dd os).mono HB.out.size)⟩
     clear HX HY H1 H2 HB
     go_wp2_with fail
     refine wp_region_quiet_below (by kernel_rfl) (by kernel_rfl) ?_
     repeat (first|go_big_quiet_step ((go_at_call 41;exact cD _ _))|quiet_step ((go_at_call 41;exact cD _ _)))
     refine wpQuiet_nil ?_
     intro _ hw'
     obtain ⟨⟨dq,osq⟩,hw''⟩:=hw'
     subst hw''
     have HB3:=HB2.out dq osq
     have HBB:Hid _:=HB3
     clear HB2 HB3 cD m0 m1 n0 n1 n2 n3 k0 k1 k2 k3
     generalize grow (redrawn wr dq) osq=w2 at *
     have HQ:Hid (sameB M.nd N.nd=true↔M.nd=N.nd):=sameB_iff _ _
     generalize sameB M.nd N.nd=q at *
     cases q with
     | true=>
      have HI2:Hid (∀k,k<i+1→(X.getD k noNx).nd=(Y.getD k noNx).nd):=HE.out (HQ.out.1 rfl)
      clear HE HF HQ
      go_wp2_with fail
      go_roundw
      case rel=>exact ⟨i+1,by go_num,by omega,HI2,HBB.out.1,HBB.out.2.1,HBB.out.2.2⟩
      case measure=>simp [intOf];omega
     | false=>
      have HN:Hid (¬Y.map Nx.nd=X.map Nx.nd):=HF.out fun q=>by have:=HQ.out.2 q;cases this
      clear HE HF HQ
      go_wp2_with fail
      go_ret
      exact ⟨_,rfl,⟨fun q=>by simp at q,fun q=>absurd q.2 HN.out⟩,HBB.out.2.2⟩
    ·have hlt':¬(i:Int)<X.length:=by omega
     have HN:Hid (Y.map Nx.nd=X.map Nx.nd):=nds_eq Hl.out (fun k hk=>HI.out k (by omega))
     clear HI H1 H2
     go_wp2_with fail
     go_ret
     exact ⟨_,rfl,⟨fun _=>⟨rfl,HN.out⟩,fun _=>rfl⟩,HB.out⟩
  ·have hl':¬(X.length:Int)=Y.length:=by omega
   have HN:Hid (¬Y.map Nx.nd=X.map Nx.nd):=fun q=>hl (by simpa using (congrArg List.length q).symm)
   have HB:Hid (Below w.heap.size w ((w.alloc (.cells #[.slice a X.length c,.int .i64 r] 24)).alloc (.cells #[.slice b Y.length d,.int .i64 r] 24))):=(HA.out _ _ rfl rfl).2.2
   clear HS HA
   go_enter Tryz.func15,Tryz.ntmps15
   go_wp2_with fail
   go_ret
   exact ⟨_,rfl,⟨fun q=>by simp at q,fun q=>absurd q.2 HN.out⟩,HB.out⟩
 ·have HN:Hid (¬r=s):=hr
  have HB:Hid (Below w.heap.size w ((w.alloc (.cells #[.slice a X.length c,.int .i64 r] 24)).alloc (.cells #[.slice b Y.length d,.int .i64 s] 24))):=(HA.out _ _ rfl rfl).2.2
  clear HS HA
  go_enter Tryz.func15,Tryz.ntmps15
  go_wp2_with fail
  go_ret
  exact ⟨_,rfl,⟨fun q=>by simp at q,fun q=>absurd q.1 HN.out⟩,HB.out⟩
theorem ssame_yes (X Y:List Nx) (a b:Option Addr) (c d:Nat) (r:Int) (w:World) (h:ScAt w a X) (h':ScAt w b Y) (hX:Small X) (he:Y.map Nx.nd=X.map Nx.nd) :
  Calls Tryz.prog 15 #[.agg #[.slice a X.length c,.int .i64 r],.agg #[.slice b Y.length d,.int .i64 r]] w fun e w'=>e=.returned (.bool true)∧Below w.heap.size w w':=by
 refine Calls.mono (ssame_any X Y a b c d r r w h h' hX) ?_
 rintro e w' ⟨q,rfl,hq,hb⟩
 rw [hq.2 ⟨rfl,he⟩]
 exact ⟨rfl,hb⟩
end Go.Proofs.YtgoffkfpdigeeaaGreatDoor
namespace Go.Proofs.YtgoffkfpdigeeaaGreatDoor
open Go.RowKit Go.Maps Go.WideMaps
theorem and_small:∀m:Nat,m<1402→bits .and .u64 (m:Int) 4294967295=(m:Int):=by decide +kernel
theorem wrap_small {z:Int} (h:0≤z∧z<3000):IntKind.u64.wrap z=z:=by
 simp [IntKind.wrap,IntKind.signed,IntKind.bits]
 omega
theorem wrap_i64 {z:Int} (h:0≤z∧z<1000000):IntKind.i64.wrap z=z:=by
 simp [IntKind.wrap,IntKind.signed,IntKind.bits]
 omega
set_option maxRecDepth 10000 in
set_option maxHeartbeats 400000 in
theorem mul64_one (n:Nat) (hn:n≤1401) (w:World) :
  Calls Tryz.prog 180 #[.int .u64 1,.int .u64 n] w fun e w'=>e=.returned (.tuple #[.int .u64 0,.int .u64 n])∧w'=w:=by
 have h1:bits .and .u64 1 4294967295=1:=by decide
 have h0:bits .and .u64 0 4294967295=0:=by decide
 have h2:bits .and .u64 (n:Int) 4294967295=n:=and_small n (by omega)
 have h3:(n:Int) / 4294967296=0:=by omega
 have h4:IntKind.u64.wrap (n:Int)=n:=wrap_small (by omega)
 have h5:IntKind.u64.wrap 0=0:=by decide
 go_enter Tryz.func180,Tryz.ntmps180
 go_wp2_with fail
 go_ret2
 exact ⟨by simp,rfl⟩
set_option maxRecDepth 10000 in
set_option maxHeartbeats 400000 in
theorem mul_one10 (n:Nat) (hn:n≤1401) (w:World) :
  Calls Tryz.prog 178 #[.int .u64 1,.int .u64 n] w fun e w'=>e=.returned (.tuple #[.int .u64 0,.int .u64 n])∧w'=w:=by
 have H:Hid _:=mul64_one n hn w
 go_enter Tryz.func178,Tryz.ntmps178
 go_wp2_with fail
 refine Calls.mono H.out ?_
 rintro e w1 ⟨rfl,rfl⟩
 go_wp2_with fail
 go_ret2
 exact ⟨rfl,rfl⟩
theorem slice_from (W:World) (g m n:Nat) (hm:m<n):(Instr.slice 49 (.slice (some ⟨g,0,none⟩) n n) (some (.int .i64 (m:Int))) none none).run Tryz.prog W=.ok (.slice (some ⟨g,m,none⟩) (n-m) (n-m)) W:=by
 simp [Instr.slice,run_underlying Tryz.underlying49,go_sem]
 rw [if_pos (by omega),if_neg (by omega)]
theorem slice_to (W:World) (g m n:Nat) (hm:m<n):(Instr.slice 49 (.slice (some ⟨g,0,none⟩) n n) none (some (.int .i64 (m:Int))) none).run Tryz.prog W=.ok (.slice (some ⟨g,0,none⟩) m n) W:=by
 have h1:(m:Int)≤n:=by omega
 go_simp
def fillL (z:Int) (m n:Nat):List Value:=List.replicate m (.int .i64 z)++List.replicate (n-m) (.int .i64 0)
theorem fillL_length (z:Int) {m n:Nat} (h:m≤n):(fillL z m n).length=n:=by
 simp only [fillL,List.length_append,List.length_replicate]
 omega
theorem fillL_at (z:Int) {m n j:Nat} (h:j<m):(fillL z m n)[j]? = some (.int .i64 z):=by
 unfold fillL
 rw [List.getElem?_append_left (by simpa using h)]
 simp [h]
theorem fillL_splice (z:Int) {m n k:Nat}:splice (fillL z m n) m (List.replicate k (.int .i64 z))=fillL z (m+k) n:=by
 unfold splice fillL
 have e1:(List.replicate m (Value.int .i64 z)++List.replicate (n-m) (Value.int .i64 0)).take m=List.replicate m (Value.int .i64 z):=by
  rw [List.take_append_of_le_length (by simp)]
  simp
 have e2:(List.replicate m (Value.int .i64 z)++List.replicate (n-m) (Value.int .i64 0)).drop (m+(List.replicate k (Value.int .i64 z)).length)=List.replicate (n-(m+k)) (Value.int .i64 0):=by
  rw [List.drop_append]
  simp
  omega
 rw [e1,e2,← List.append_assoc,List.replicate_append_replicate]
theorem fillL_again (z:Int) {m m' n k:Nat} (h':m'=m∨m'=m+k):splice (fillL z m' n) m (List.replicate k (.int .i64 z))=fillL z (m+k) n:=by
 rcases h' with rfl|rfl
 ·exact fillL_splice z
 ·unfold splice fillL
  have e1:(List.replicate (m+k) (Value.int .i64 z)++List.replicate (n-(m+k)) (Value.int .i64 0)).take m=List.replicate m (Value.int .i64 z):=by
   rw [List.take_append_of_le_length (by simp)]
   simp
  have e2:(List.replicate (m+k) (Value.int .i64 z)++List.replicate (n-(m+k)) (Value.int .i64 0)).drop (m+(List.replicate k (Value.int .i64 z)).length)=List.replicate (n-(m+k)) (Value.int .i64 0):=by
   rw [List.drop_append]
   simp
  rw [e1,e2,← List.append_assoc,List.replicate_append_replicate]
theorem fillL_new (z:Int) (n:Nat):madeCells (Value.int .i64 0).cells (n*1)=(fillL z 0 n).toArray:=by
 have:=filled_new n (.int .i64 0) rfl
 rw [this]
 simp [filled,fillL]
def repF (z:Int) (g m k n:Nat):Nat→Value→World→Prop
 | 1,v,_|4,v,_=>v=.slice (some ⟨g,0,none⟩) n n
 | 3,v,_=>v=.slice (some ⟨g,m,none⟩) (n-m) (n-m)
 | 6,v,_=>v=.slice (some ⟨g,0,none⟩) m n
 | 7,v,W=>v=.int .i64 (k:Int)∧AtN 3 W g (fillL z (m+k) n).toArray
 | 8,v,_|9,v,_=>v=.int .i64 ((m:Int)+k)
 | _,v,_=>v=.int .i64 (m:Int)
def repR (z:Int) (g m k n B:Nat) (w0:World) (i:Nat) (W W':World):Prop:=if i=7 then AtN 3 W' g (fillL z (m+k) n).toArray∧Below B w0 W' else W.grownBy W' none
theorem repF_stab (z:Int) (g m k n B:Nat) (w0:World):∀i j v W W',i≠j→repR z g m k n B w0 i W W'→repF z g m k n j v W→repF z g m k n j v W':=by
 intro i j v W W' hne hR h
 unfold repR at hR
 match j,h with
 | 0,h|1,h|2,h|3,h|4,h|5,h|6,h|8,h|9,h=>exact h
 | 7,h=>
  rw [if_neg hne] at hR
  exact ⟨h.1,h.2.kept hR (by simp)⟩
 | n+10,h=>exact h
def repG (z:Int) (g m k n B:Nat) (w0:World) (W:World):Prop:=(∃m',(m'=m∨m'=m+k)∧AtN 3 W g (fillL z m' n).toArray)∧Below B w0 W
theorem repG_more (z:Int) (g m k n B:Nat) (w0:World) (hB:B≤w0.heap.size):∀i W W',repR z g m k n B w0 i W W'→repG z g m k n B w0 W→repG z g m k n B w0 W':=by
 intro i W W' hR hG
 unfold repR at hR
 by_cases h:i=7
 ·rw [if_pos h] at hR
  exact ⟨⟨_,.inr rfl,hR.1⟩,hR.2⟩
 ·rw [if_neg h] at hR
  obtain ⟨⟨m',h1,h2⟩,h3⟩:=hG
  exact ⟨⟨m',h1,h2.kept hR (by simp)⟩,h3.grown hR (Nat.le_trans hB h3.size) (by simp)⟩
def RepOut (z:Int) (n:Nat) (w w':World) (e:Ending):Prop:=∃g,e=.returned (.slice (some ⟨g,0,none⟩) n n)∧AtN 3 w' g (List.replicate n (Value.int .i64 z)).toArray∧w.heap.size≤g∧Below w.heap.size w w'
set_option maxRecDepth 10000 in
set_option maxHeartbeats 1000000 in
theorem repeat_any (a:Addr) (c:Nat) (z:Int) (n:Nat) (h1:1≤n) (hn:n≤1401) (w:World) (h:LsAt w (some a) [.int .i64 z]) :
  Calls Tryz.prog 176 #[.slice (some a) 1 c,.int .i64 n] w fun e w'=>RepOut z n w w' e:=by
 obtain ⟨i0,hi,hz0,hz1,hz2⟩:=info_parts Tryz.infoI7
 have hn':¬(n:Int)<0:=by omega
 have hbig:¬9223372036854775807<(n:Int):=by omega
 have hw64:IntKind.u64.wrap (n:Int)=n:=wrap_small (by omega)
 have HC:Hid _:=mul_one10 n hn w
 have HA:Hid _:=h
 have hmk:(Instr.makeSlice 49 (.int .i64 (n:Int)) (.int .i64 (n:Int))).run Tryz.prog w=.ok (.slice (some ⟨w.heap.size,0,none⟩) n n) (w.alloc (.cells (fillL z 0 n).toArray 3)):=by
  have:=run_make (P:=Tryz.prog) w 49 3 i0 (.int .i64 0) Tryz.underlying49 hi hz0 .i64 .i64 n n (by omega) (by omega) (by rw [hz2];omega) (by omega)
  rw [hz1,Int.toNat_natCast,fillL_new z] at this
  simpa using this
 have HN:Hid (AtN 3 (w.alloc (.cells (fillL z 0 n).toArray 3)) w.heap.size (fillL z 0 n).toArray∧Below w.heap.size w (w.alloc (.cells (fillL z 0 n).toArray 3))):=⟨AtN.new w 3 _,(Below.refl w.heap.size w).alloc (Nat.le_refl _) _⟩
 have HS:Hid (∀j v,[Value.int .i64 z][j]? = some v→(w.alloc (.cells (fillL z 0 n).toArray 3)).cell? (a.add j)=some v):=(h.alloc _).news
 clear h
 have e1:splice (fillL z 0 n) 0 [.int .i64 z]=fillL z 1 n:=fillL_splice z (m:=0) (n:=n) (k:=1)
 have hcp:(Builtin.copy_ #[49,49] 3 #[.slice (some ⟨w.heap.size,0,none⟩) n n,.slice (some a) 1 c]).run Tryz.prog (w.alloc (.cells (fillL z 0 n).toArray 3))=.ok (.int .i64 1) ((w.alloc (.cells (fillL z 0 n).toArray 3)).setRow w.heap.size (fillL z 1 n).toArray):=by
  have:=run_copy_row (P:=Tryz.prog) (w.alloc (.cells (fillL z 0 n).toArray 3)) 49 49 3 3 w.heap.size 0 n n a 1 c (fillL z 0 n).toArray 3 [.int .i64 z] Tryz.underlying49 (by kernel_rfl) HN.out.1 (by show 1=min 1 n;omega) HS.out (by have:=fillL_length z (m:=0) (n:=n) (by omega);simp;omega) (by intro u hu;simp at hu;subst hu;rfl)
  rw [← e1]
  exact this
 have H2:Hid (AtN 3 ((w.alloc (.cells (fillL z 0 n).toArray 3)).setRow w.heap.size (fillL z 1 n).toArray) w.heap.size (fillL z 1 n).toArray):=setRow_heap _ w.heap.size _ _ 3 _ HN.out.1
 have HB2:Hid (Below w.heap.size w ((w.alloc (.cells (fillL z 0 n).toArray 3)).setRow w.heap.size (fillL z 1 n).toArray)):=below_setRow HN.out.2 (Nat.le_refl _) _
 clear e1
 go_enter Tryz.func176,Tryz.ntmps176
 go_wp2_with fail
 refine Calls.mono HC.out ?_
 rintro e w1 ⟨rfl,rfl⟩
 clear HC
 go_wp2_with fail
 clear HN HS HA hmk
 generalize (w1.alloc (.cells (fillL z 0 n).toArray 3)).setRow w1.heap.size (fillL z 1 n).toArray=w2 at *
 go_wp2_with fail
 go_loopw [8] (fun mv wr=>∃m:Nat,mv=.int .i64 m∧1≤m∧m≤n∧Hid (AtN 3 wr w1.heap.size (fillL z m n).toArray)∧Hid (Below w1.heap.size w1 wr)) (fun mv _=>n-(intOf mv).toNat)
 case atStart=>exact ⟨1,rfl,by omega,h1,H2,HB2⟩
 case round=>
  clear H2 HB2
  obtain ⟨m,rfl,hm1,hmn,HG,HB⟩:=hrel
  by_cases hlt:m<n
  ·have hlt':(m:Int)<n:=by omega
   have s1:=fun W=>slice_from W w1.heap.size m n hlt
   have s2:=fun W=>slice_to W w1.heap.size m n hlt
   obtain ⟨k,hk⟩:∃k,k=min m (n-m):=⟨_,rfl⟩
   have hk1:1≤k∧k≤m∧m+k≤n:=by omega
   have Hk:Hid (k=min m (n-m)):=hk
   clear hk
   go_wp2_with fail
   refine facts_region5 (repG z w1.heap.size m k n w1.heap.size w1) (repR z w1.heap.size m k n w1.heap.size w1) (repF z w1.heap.size m k n) (by kernel_rfl) (by kernel_rfl) ⟨⟨m,.inl rfl,HG.out⟩,HB.out.drew⟩ (repF_stab z w1.heap.size m k n w1.heap.size w1) (repG_more z w1.heap.size m k n w1.heap.size w1 (Nat.le_refl _)) ?step ?fin
   case step=>
    intro i o ho a W hG hoff hdep K hK
    have hWs:True:=trivial
    rcases i with _|_|_|_|_|_|_|_|_|_|i
    ·obtain rfl:=Option.some.inj ho
     have t8:a.tmps[8]?.getD undef=.int .i64 (m:Int):=hoff 8 (by kernel_rfl)
     clear hdep hoff
     go_simp
     exact hK _ _ (grown_refl _ _) (rfl)
    ·obtain rfl:=Option.some.inj ho
     have t7:a.tmps[7]?.getD undef=.slice (some ⟨w1.heap.size,0,none⟩) n n:=hoff 7 (by kernel_rfl)
     clear hdep hoff
     go_simp
     exact hK _ _ (grown_refl _ _) (rfl)
    ·obtain rfl:=Option.some.inj ho
     have t8:a.tmps[8]?.getD undef=.int .i64 (m:Int):=hoff 8 (by kernel_rfl)
     clear hdep hoff
     go_simp
     exact hK _ _ (grown_refl _ _) (rfl)
    ·obtain rfl:=Option.some.inj ho
     have e1:a.tmps[39]?.getD undef=.slice (some ⟨w1.heap.size,0,none⟩) n n:=hdep 1 _ (by kernel_rfl) rfl
     have e2:a.tmps[40]?.getD undef=.int .i64 (m:Int):=hdep 2 _ (by kernel_rfl) rfl
     clear hdep hoff
     go_simp
     exact hK _ _ (grown_refl _ _) (rfl)
    ·obtain rfl:=Option.some.inj ho
     have t7:a.tmps[7]?.getD undef=.slice (some ⟨w1.heap.size,0,none⟩) n n:=hoff 7 (by kernel_rfl)
     clear hdep hoff
     go_simp
     exact hK _ _ (grown_refl _ _) (rfl)
    ·obtain rfl:=Option.some.inj ho
     have t8:a.tmps[8]?.getD undef=.int .i64 (m:Int):=hoff 8 (by kernel_rfl)
     clear hdep hoff
     go_simp
     exact hK _ _ (grown_refl _ _) (rfl)
    ·obtain rfl:=Option.some.inj ho
     have e4:a.tmps[42]?.getD undef=.slice (some ⟨w1.heap.size,0,none⟩) n n:=hdep 4 _ (by kernel_rfl) rfl
     have e5:a.tmps[43]?.getD undef=.int .i64 (m:Int):=hdep 5 _ (by kernel_rfl) rfl
     clear hdep hoff
     go_simp
     exact hK _ _ (grown_refl _ _) (rfl)
    ·obtain rfl:=Option.some.inj ho
     have e3:a.tmps[41]?.getD undef=.slice (some ⟨w1.heap.size,m,none⟩) (n-m) (n-m):=hdep 3 _ (by kernel_rfl) rfl
     have e6:a.tmps[44]?.getD undef=.slice (some ⟨w1.heap.size,0,none⟩) m n:=hdep 6 _ (by kernel_rfl) rfl
     clear hdep hoff
     obtain ⟨⟨m',hm',hA⟩,hBW⟩:=hG
     have hmm:m≤m'∧m'≤n:=by omega
     have hsrc:∀j v,(List.replicate k (Value.int .i64 z))[j]? = some v→W.cell? ((⟨w1.heap.size,0,none⟩:Addr).add j)=some v:=fun j v hj=>by
      have hjk:j<k:=by
       have:=(List.getElem?_eq_some_iff.1 hj).1
       simpa using this
      rw [List.getElem?_replicate,if_pos hjk] at hj
      rw [show (⟨w1.heap.size,0,none⟩:Addr).add j=⟨w1.heap.size,0+j,none⟩ by unfold Addr.add;split <;> simp_all,Nat.zero_add,hA.cell j,← hj]
      have:=fillL_at z (m:=m') (n:=n) (j:=j) (by omega)
      simpa using this
     refine step_copy_splice rfl (.tmp 41) (.tmp 44) 49 49 rfl 3 Tryz.underlying49 (by kernel_rfl) (some ⟨w1.heap.size,m,none⟩) (some ⟨w1.heap.size,0,none⟩) (n-m) (n-m) m n (by simpa [Act.eval] using e3) (by simpa [Act.eval] using e6) w1.heap.size m (fillL z m' n) 3 hA (List.replicate k (.int .i64 z)) (by rw [List.length_replicate];exact Hk.out) (fun _=>⟨rfl,_,rfl,hsrc⟩) (by rw [fillL_length z hmm.2,List.length_replicate];omega) (by intro u hu;rw [List.eq_of_mem_replicate hu];rfl) w1.heap.size w1 hBW (Nat.le_refl _) ?_
     intro w4 hg4 hb4
     have A4:AtN 3 w4 w1.heap.size (fillL z (m+k) n).toArray:=by
      have h0:=hg4.out
      rw [fillL_again z hm'] at h0
      exact h0
     exact hK _ _ (by unfold repR;rw [if_pos rfl];exact ⟨A4,hb4⟩) ⟨by rw [List.length_replicate];rfl,A4⟩
    ·obtain rfl:=Option.some.inj ho
     have e0:a.tmps[38]?.getD undef=.int .i64 (m:Int):=hdep 0 _ (by kernel_rfl) rfl
     have e7:a.tmps[45]?.getD undef=.int .i64 (k:Int)∧AtN 3 W w1.heap.size (fillL z (m+k) n).toArray:=hdep 7 _ (by kernel_rfl) rfl
     clear hdep hoff
     have e7':=e7.1
     have hwk:IntKind.i64.wrap ((m:Int)+k)=(m:Int)+k:=wrap_i64 (by omega)
     clear e7
     go_simp
     exact hK _ _ (grown_refl _ _) (rfl)
    ·obtain rfl:=Option.some.inj ho
     have e8:a.tmps[46]?.getD undef=.int .i64 ((m:Int)+k):=hdep 8 _ (by kernel_rfl) rfl
     clear hdep hoff
     go_simp
     exact hK _ _ (grown_refl _ _) (rfl)
    ·exact absurd ho (by simp)
   case fin=>
    intro V W hG hF
    have y9:V (some 8)=.int .i64 ((m:Int)+k):=hF 9 _ rfl
    have y7:V (some 45)=.int .i64 (k:Int)∧AtN 3 W w1.heap.size (fillL z (m+k) n).toArray:=hF 7 _ rfl
    have HG2:Hid (AtN 3 W w1.heap.size (fillL z (m+k) n).toArray):=y7.2
    have HB2:Hid (Below w1.heap.size w1 W):=hG.2
    clear hF hG y7 HG HB s1 s2
    simp only [fillA,Act.put,List.setIfInBounds_toArray,List.set_cons_zero,List.set_cons_succ,y9]
    generalize V (some 38)=z38
    generalize V (some 39)=z39
    generalize V (some 40)=z40
    generalize V (some 41)=z41
    generalize V (some 42)=z42
    generalize V (some 43)=z43
    generalize V (some 44)=z44
    generalize V (some 45)=z45
    generalize V (some 46)=z46
    clear y9
    go_wp2_with fail
    go_roundw
    case rel=>exact ⟨m+k,by go_num,by omega,by omega,HG2,HB2⟩
    case measure=>simp [intOf];omega
  ·obtain rfl:m=n:=by omega
   have HO:Hid (AtN 3 wr w1.heap.size (List.replicate m (Value.int .i64 z)).toArray):=by
    have:=HG.out
    show AtN _ _ _ _
    simpa [fillL] using this
   clear HG
   go_wp2_with fail
   go_ret
   exact ⟨_,rfl,HO.out,Nat.le_refl _,HB.out⟩
end Go.Proofs.YtgoffkfpdigeeaaGreatDoor
namespace Go.Proofs.YtgoffkfpdigeeaaGreatDoor
open Go.RowKit Go.Maps Go.WideMaps Go.Sort
def PushOut (L ks:List Nat) (B r:Nat) (w w':World) (e:Ending):Prop:=∃r' c',e=.returned (.slice (some ⟨r',0,none⟩) (L++ks.reverse).length c')∧w'.ownsRow B 3 1 (.slice (some ⟨r',0,none⟩) (L++ks.reverse).length c') (L++ks.reverse).length (nV (L++ks.reverse))∧(r'=r∨w.heap.size≤r')∧Fr (fun b=>b=r) w w'
theorem drop_rev {ks:List Nat} {j:Nat} (h:j<ks.length):(ks.drop j).reverse=(ks.drop (j+1)).reverse++[ks.getD j 0]:=by
 have:ks.getD j 0=ks[j]:=by rw [List.getD_eq_getElem?_getD,List.getElem?_eq_getElem h];rfl
 rw [this,List.drop_eq_getElem_cons h,List.reverse_cons]
set_option maxRecDepth 10000 in
set_option maxHeartbeats 1000000 in
theorem pushkids_any (L ks:List Nat) (a:Option Addr) (c k B r:Nat) (w:World) (hB:B≤w.heap.size) (ho:w.ownsRow B 3 1 (.slice (some ⟨r,0,none⟩) L.length c) L.length (nV L)) (hk:LsQ (fun b=>b<B) w a (nV ks)) (h1:L.length≤5000000) (h2:ks.length≤3000) :
  Calls Tryz.prog 177 #[.slice (some ⟨r,0,none⟩) L.length c,.slice a ks.length k] w fun e w'=>PushOut L ks B r w w' e:=by
 obtain ⟨i0,hi,hz0,hz1,hz2⟩:=info_parts Tryz.infoI7
 have HO:Hid (w.ownsRow B 3 1 (.slice (some ⟨r,0,none⟩) L.length c) L.length (nV L)):=ho
 have HK:Hid (LsQ (fun b=>b<B) w a (nV ks)):=hk
 have hrB:B≤r:=(ho.lt r rfl).1
 clear ho hk
 go_enter Tryz.func177,Tryz.ntmps177
 go_wp2_with fail
 go_loopw [0,5] (fun av iv wr=>∃(j r2 c2:Nat) (z:Int),iv=.int .i64 z∧z=(j:Int)-1∧j≤ks.length∧av=.slice (some ⟨r2,0,none⟩) (L++(ks.drop j).reverse).length c2∧Hid (wr.ownsRow B 3 1 (.slice (some ⟨r2,0,none⟩) (L++(ks.drop j).reverse).length c2) (L++(ks.drop j).reverse).length (nV (L++(ks.drop j).reverse)))∧(r2=r∨w.heap.size≤r2)∧Hid (Fr (fun b=>b=r) w wr)) (fun _ iv _=>(intOf iv+1).toNat)
 case atStart=>
  have e:ks.drop ks.length=[]:=List.drop_length
  exact ⟨ks.length,r,c,_,rfl,rfl,Nat.le_refl _,by rw [e];simp,by rw [e,List.reverse_nil,List.append_nil];exact HO,.inl rfl,Fr.refl _ _⟩
 case round=>
  clear HO
  obtain ⟨j,r2,c2,z,rfl,hz,hj,rfl,HO,hr2,HF⟩:=hrel
  cases j with
  | zero=>
   obtain rfl:z = -1:=by omega
   clear hz
   rw [List.drop_zero] at *
   have HR:Hid (PushOut L ks B r w wr (.returned (.slice (some ⟨r2,0,none⟩) (L++ks.reverse).length c2))):=⟨r2,c2,rfl,HO.out,hr2,HF.out⟩
   clear HO HF
   generalize (L++ks.reverse).length=q at *
   go_wp2_with fail
   go_ret
   exact HR.out
  | succ j=>
   obtain rfl:z=(j:Int):=by omega
   clear hz
   have hjl:j<ks.length:=by omega
   have hjl':(j:Int)<ks.length:=by omega
   have hq:LsQ (fun b=>b<B) wr a (nV ks):=HK.out.fr HF.out (fun b hb _ e=>by omega)
   obtain ⟨b,o,rfl,hbQ,hbl,d0⟩:=hq.atQ (nV_at ks j hjl)
   have hlen:(L++(ks.drop (j+1)).reverse).length≤5100000:=by simp;omega
   have HE:Hid (L++(ks.drop j).reverse=(L++(ks.drop (j+1)).reverse)++[ks.getD j 0]):=by
    rw [drop_rev hjl];simp [Hid]
   have hBwr:B≤wr.heap.size:=Nat.le_trans hB HF.out.size
   clear hq HK
   generalize L++(ks.drop (j+1)).reverse=M at *
   generalize ks.getD j 0=x at *
   go_wp2_with (at_builtin;refine wpList_append_lies _ rfl (.tmp 13) (.tmp 18) 49 rfl B 3 i0 (.int .i64 0) 1 8 Tryz.underlying49 hi hz0 hz1 hz2 rfl (by decide) _ M.length (nV M) rfl (World.ownsRow.alloc (w:=wr) HO.out _) ⟨wr.heap.size,0,none⟩ 1 1 [.int .i64 (x:Int)] rfl rfl (cell_one_new _ _ _) (by intro u hu;simp at hu;subst hu;rfl) (by decide) (by unfold maxLen;omega) (by omega) (by simp;omega) _ rfl ?_)
   intro g2 cap2 w4 hown4 hgrow4 hlie hlt4
   have O4:Hid (w4.ownsRow B 3 1 (.slice (some ⟨g2,0,none⟩) (L++(ks.drop j).reverse).length cap2) (L++(ks.drop j).reverse).length (nV (L++(ks.drop j).reverse))):=by
    show World.ownsRow _ _ _ _ _ _ _
    rw [HE.out,nV_snoc,List.length_append]
    exact hown4
   have hgr:g2=r∨w.heap.size≤g2:=by
    have h0:=HF.out.size
    rcases hlie with h|h
    ·simp only [Value.ownBlock,Option.some.injEq] at h;omega
    ·omega
   have F4:Hid (Fr (fun b=>b=r) w w4):=by
    have h0:=HF.out.size
    refine (HF.out.alloc _).trans (Fr.of_grown (S:=fun b=>b=r2) hgrow4 (fun q e=>by simpa [Value.ownBlock] using e.symm)) (fun q e hq=>?_)
    omega
   have hMl:(M.length:Nat)+1=(L++(ks.drop j).reverse).length:=by rw [HE.out];simp
   clear hown4 hgrow4 HO HF hlie
   rw [hMl]
   go_wp2_with fail
   go_roundw
   case rel=>exact ⟨j,g2,cap2,_,rfl,by go_num,by omega,rfl,O4,hgr,F4⟩
   case measure=>simp [intOf]
end Go.Proofs.YtgoffkfpdigeeaaGreatDoor
namespace Go.Proofs.YtgoffkfpdigeeaaGreatDoor
open Go.RowKit Go.Maps Go.WideMaps Go.Sort
def zV (n:Nat) (f:Nat→Int):Array Value:=((List.range n).map fun x=>Value.int .i64 (f x)).toArray
theorem zV_at (n:Nat) (f:Nat→Int) (k:Nat) (h:k<n):(zV n f)[k]? = some (.int .i64 (f k)):=by simp [zV,h]
theorem zV_set (n:Nat) (f g:Nat→Int) (k:Nat) (v:Int) (h:∀i,g i=if i=k then v else f i):(zV n f).setIfInBounds k (.int .i64 v)=zV n g:=by
 apply Array.ext
 ·simp [zV]
 ·intro i h1 h2
  rw [Array.getElem_setIfInBounds (by simpa using h1)]
  simp only [zV,List.getElem_toArray,List.getElem_map,List.getElem_range,h i]
  by_cases e:k=i
  ·simp [e]
  ·rw [if_neg e,if_neg (fun q=>e q.symm)]
theorem zV_same (n:Nat) (z:Int):(List.replicate n (Value.int .i64 z)).toArray=zV n (fun _=>z):=by
 unfold zV
 congr 1
 refine List.ext_getElem (by simp) (fun i h1 h2=>by simp)
theorem zV_congr (n:Nat) {f g:Nat→Int} (h:∀i,i<n→f i=g i):zV n f=zV n g:=by
 unfold zV
 congr 1
 refine List.map_congr_left fun i hi=>?_
 rw [h i (List.mem_range.1 hi)]
theorem RightIs.dag {X:List Nx} {r:Int} (h:RightIs X r):Dag (kX X):=⟨kX_ok h.2.1,h.2.2.1⟩
theorem RightIs.root {X:List Nx} {r:Int} (h:RightIs X r):r=(r.toNat:Int)∧r.toNat<X.length:=by
 have:=isPb_iff.1 h.1
 omega
theorem RightIs.ord {X:List Nx} {r:Int} (h:RightIs X r):Ord (kX X) r.toNat (ordO (kX X) r.toNat):=ordO_is h.dag (by rw [kX_length];exact h.root.2) (fun x hx=>h.2.2.2 x (by rwa [kX_length] at hx))
def oX (X:List Nx) (r:Int):List Nat:=ordO (kX X) r.toNat
def CanonicalOut (X:List Nx) (r:Int) (w w':World) (e:Ending):Prop:=∃g,e=.returned (.slice (some ⟨g,0,none⟩) X.length X.length)∧AtN 3 w' g (zV X.length (fun i=>((oX X r).idxOf i:Int)))∧w.heap.size≤g∧Below w.heap.size w w'
theorem own_ne_atB {w:World} {B r n c g:Nat} {e T:TypeId} {size:Nat} {xs:List Value} {cs:Array Value} (h:w.ownsRow B e size (.slice (some ⟨r,0,none⟩) n c) n xs) (ha:AtN T w g cs) (he:e≠T):r≠g:=fun q=>own_ne_at h ha he r rfl q
theorem Met.ne_at {w:World} {g n h:Nat} {M:List Nat} {T:TypeId} {cs:Array Value} (hm:Met w g n M) (ha:AtN T w h cs):g≠h:=by
 rintro rfl
 obtain ⟨D,⟨es,clock,h2,_⟩,_⟩:=hm
 have:w.heap[g]? = _:=ha
 rw [this] at h2
 cases h2
set_option maxRecDepth 10000 in
set_option maxHeartbeats 2000000 in
theorem canonical_any (X:List Nx) (a:Option Addr) (c:Nat) (r:Int) (w:World) (h:ScAt w a X) (hX:Small X) (hR:RightIs X r) :
  Calls Tryz.prog 173 #[.agg #[.slice a X.length c,.int .i64 r]] w fun e w'=>CanonicalOut X r w w' e:=by
 have hn:=hX.1
 have hr:=hR.root
 obtain ⟨r0,hr0⟩:∃r0,r.toNat=r0:=⟨_,rfl⟩
 rw [hr0] at hr
 obtain ⟨hr,hrl⟩:=hr
 have Hr:Hid (r=(r0:Int)):=hr
 clear hr
 have Hord:Hid (Ord (kX X) r0 (ordO (kX X) r0)):=by rw [← hr0];exact hR.ord
 have HoX:Hid (oX X r=ordO (kX X) r0):=by unfold oX;rw [hr0];rfl
 obtain ⟨rk,hrk⟩:=hR.dag.rank
 have HS:Hid (ScAt w a X∧Small X∧(∀i,i<X.length→okAt X i)∧Dag (kX X)∧Rank (kX X) rk):=⟨h,hX,hR.2.1,hR.dag,hrk⟩
 have hn1:1≤X.length:=by omega
 clear h hX hR hrk hr0
 have HA:Hid (∀(o1 o2:Obj),o1=.cells #[.slice a X.length c,.int .i64 r] 24→o2=.cells #[.int .i64 (-1)] 3→AtN 24 ((w.alloc o1).alloc o2) w.heap.size #[.slice a X.length c,.int .i64 r]∧LsAt ((w.alloc o1).alloc o2) (some ⟨w.heap.size+1,0,none⟩) [.int .i64 (-1)]∧Below w.heap.size w ((w.alloc o1).alloc o2)∧((w.alloc o1).alloc o2).heap.size=w.heap.size+2):=by
  rintro _ _ rfl rfl
  exact ⟨(AtN.new w 24 _).alloc _,(mk_at (AtN.new (w.alloc _) 3 #[.int .i64 (-1)]) (show _=w.heap.size+1 by simp)).lsQ (vs:=[.int .i64 (-1)]).toAt,((Below.refl w.heap.size w).alloc (Nat.le_refl _) _).alloc (by simp) _,by simp⟩
 go_enter Tryz.func173,Tryz.ntmps173
 go_wp2_with fail
 obtain ⟨h1,h2,h3,h4⟩:=HA.out _ _ rfl rfl
 refine (repeat_any ⟨w.heap.size+1,0,none⟩ 1 (-1) X.length hn1 hn _ h2).mono ?_
 rintro e w2 ⟨gp,rfl,hp2,hgp,hb2⟩
 rw [h4] at hgp
 have HA2:Hid (AtN 24 w2 w.heap.size #[.slice a X.length c,.int .i64 r]):=h1.belowAll hb2
 have HP2:Hid (AtN 3 w2 gp (zV X.length (plZ []))):=by
  rw [zV_same,zV_congr X.length (g:=plZ []) (fun i _=>by simp [plZ])] at hp2
  exact hp2
 have HB2:Hid (Below w.heap.size w w2):=h3.trans (hb2.mono (by rw [h4];omega))
 have hs2:w.heap.size+2≤w2.heap.size:=by have:=hb2.size;rw [h4] at this;exact this
 clear HA h1 h2 h3 h4 hp2 hb2
 have x0:w2.cell? ⟨w.heap.size,0,none⟩=some (.slice a X.length c):=HA2.out.cell 0
 have x1:∀o,(w2.alloc o).cell? ⟨w.heap.size,1,none⟩=some (.int .i64 r):=fun o=>(HA2.out.alloc o).cell 1
 have hgpl:=HP2.out.lt
 have HC:Hid (∀(o1 o2:Obj),o1=.map #[] 0→o2=.cells #[.int .i64 r] 3→AtN 24 ((w2.alloc o1).alloc o2) w.heap.size #[.slice a X.length c,.int .i64 r]∧AtN 3 ((w2.alloc o1).alloc o2) gp (zV X.length (plZ []))∧Met ((w2.alloc o1).alloc o2) w2.heap.size 0 []∧((w2.alloc o1).alloc o2).ownsRow w.heap.size 3 1 (.slice (some ⟨w2.heap.size+1,0,none⟩) (stk [(r0,false)]).length 1) (stk [(r0,false)]).length (nV (stk [(r0,false)]))∧Below w.heap.size w ((w2.alloc o1).alloc o2)):=by
  rintro _ _ rfl rfl
  refine ⟨(HA2.out.alloc _).alloc _,(HP2.out.alloc _).alloc _,(Met.made w2).below ((Below.refl _ _).alloc (Nat.le_refl _) _),?_,(HB2.out.alloc HB2.out.size _).alloc (by have:=HB2.out.size;simp;omega) _⟩
  have:=World.ownsRow_lit (base:=w.heap.size) (e:=3) (size:=1) (w2.alloc (.map #[] 0)) #[.int .i64 r] 1 (by have:=HB2.out.size;simp;omega) (by decide) (by simp)
  have e:nV (stk [(r0,false)])=[.int .i64 r]:=by rw [Hr.out];rfl
  rw [e]
  rw [show (w2.alloc (.map #[] 0)).heap.size=w2.heap.size+1 by simp] at this
  exact this
 clear HA2 HP2 HB2
 have hmm:=run_makeMapN (X.length:Int)
 go_wp2_with fail
 clear hmm
 go_loopg [5,6] ((X.length-0)*3001+1) (fun m pv av wr=>∃(T:List (Nat × Bool)) (order met:List Nat) (r1 c1:Nat),pv=.int .i64 (order.length:Int)∧av=.slice (some ⟨r1,0,none⟩) T.length c1∧Hid (m=(X.length-met.length)*3001+T.length)∧Hid (SInv (kX X) rk r0 T order met)∧Hid (wr.ownsRow w.heap.size 3 1 (.slice (some ⟨r1,0,none⟩) T.length c1) T.length (nV (stk T)))∧r1≠gp∧Hid (Met wr w2.heap.size met.length met)∧Hid (AtN 3 wr gp (zV X.length (plZ order)))∧Hid (AtN 24 wr w.heap.size #[.slice a X.length c,.int .i64 r])∧Hid (Below w.heap.size w wr))
 case atStart=>
  obtain ⟨h1,h2,h3,h4,h5⟩:=HC.out _ _ rfl rfl
  exact ⟨[(r0,false)],[],[],w2.heap.size+1,1,rfl,rfl,rfl,SInv.start (by rw [kX_length];exact hrl),h4,by omega,h3,h2,h1,h5⟩
 case round=>
  clear HC x0 x1
  obtain ⟨T,order,met,r1,c1,rfl,rfl,Hm,HI,HO,hrg,HM,HP,HA,HB⟩:=hrel
  have hml:met.length≤X.length:=by have:=HI.out.metl;rwa [kX_length] at this
  have hol:=HI.out.ordl
  cases T with
  | nil=>
   have HR:Hid (CanonicalOut X r w wr (.returned (.slice (some ⟨gp,0,none⟩) X.length X.length))):=by
    have he:order=ordO (kX X) r0:=HI.out.fin
    refine ⟨gp,rfl,?_,by omega,HB.out⟩
    have h0:=HP.out
    rw [he] at h0
    rw [HoX.out,← zV_congr X.length (f:=plZ (ordO (kX X) r0)) (fun i hi=>plZ_in (Hord.out.all i (by rw [kX_length];exact hi)))]
    exact h0
   clear Hm HI HO HM HP HA HB
   go_wp2_with fail
   go_ret
   exact HR.out
  | cons p T=>
   obtain ⟨x,b⟩:=p
   have hTl:T.length≤4900000:=by have:=HI.out.len;simp only [List.length_cons] at this;omega
   have hxl:x<X.length:=by have:=HI.out.tl (x,b) (by simp);rwa [kX_length] at this
   have hxl':(x:Int)<X.length:=by omega
   rw [List.length_cons] at *
   have ho:=HO.out
   rw [stk_cons] at ho
   have d0:wr.cell? ⟨r1,T.length,none⟩=some (.int .i64 (x:Int)):=by
    rw [ho.cellAt _ (by omega),nV_snoc,List.getElem?_append_right (by rw [nV_length,stk_length];omega),nV_length,stk_length,Nat.sub_self]
    rfl
   have hc1:T.length+1≤c1:=by
    rcases ho.2 with ⟨h0,_⟩|⟨g',cap,cur,hv,_,_,h4,_⟩
    ·cases h0
    ·cases hv;exact h4
   have hr1:w.heap.size≤r1:=(ho.lt r1 rfl).1
   have hrm:r1≠w2.heap.size:=own_ne_met ho HM.out
   have hra:r1≠w.heap.size:=own_ne_atB ho HA.out (by decide)
   have hma:w2.heap.size≠w.heap.size:=by omega
   have x0:wr.cell? ⟨w.heap.size,0,none⟩=some (.slice a X.length c):=HA.out.cell 0
   have p0:wr.cell? ⟨gp,x,none⟩=some (.int .i64 (plZ order x)):=by rw [HP.out.cell x,zV_at _ _ _ hxl]
   have pf:=HP.out.fz x
   have HO1:Hid (wr.ownsRow w.heap.size 3 1 (.slice (some ⟨r1,0,none⟩) (T.length+1) c1) (T.length+1) (nV (stk T++[x]))):=ho
   clear ho HO
   by_cases hin:x ∈ met
   ·have hlk:=HM.out.look x (by omega)
    rw [decide_eq_true hin] at hlk
    have HOp:Hid (wr.ownsRow w.heap.size 3 1 (.slice (some ⟨r1,0,none⟩) T.length c1) T.length (nV (stk T))):=by
     have:=HO1.out
     rw [nV_snoc] at this
     exact ownsRow_pop (by rw [nV_length,stk_length];omega) this
    by_cases hpl:x ∈ order
    ·have hpz:plZ order x=(order.idxOf x:Int):=plZ_in hpl
     have hne:¬(order.idxOf x:Int) = -1:=by omega
     rw [hpz] at p0
     have HI2:Hid (SInv (kX X) rk r0 T order met):=HI.out.pop HS.out.2.2.2.1 hpl
     have Hm2:Hid ((X.length-met.length)*3001+T.length<gk):=by rw [Hm.out];show _<_;omega
     clear hpz HI Hm hin hpl HO1
     generalize order.idxOf x=ix at *
     go_wp2_with fail
     go_roundg ((X.length-met.length)*3001+T.length)
     case measure=>exact Hm2.out
     case rel=>exact ⟨T,order,met,r1,c1,rfl,rfl,rfl,HI2,HOp,hrg,HM,HP,HA,HB⟩
    ·have hpz:plZ order x = -1:=plZ_out hpl
     rw [hpz] at p0
     have HI2:Hid (SInv (kX X) rk r0 T (order++[x]) met):=HI.out.place hin hpl
     have Hm2:Hid ((X.length-met.length)*3001+T.length<gk):=by rw [Hm.out];show _<_;omega
     have HPs:Hid (AtN 3 (wr.setCell ⟨gp,x,none⟩ (.int .i64 (order.length:Int))) gp (zV X.length (plZ (order++[x])))):=by
      have:=AtN.set HP.out x (.int .i64 (order.length:Int))
      rw [zV_set X.length _ (plZ (order++[x])) x _ (fun i=>plZ_snoc hpl i)] at this
      exact this
     have HF:Hid (Fr (fun q=>q=gp) wr (wr.setCell ⟨gp,x,none⟩ (.int .i64 (order.length:Int)))):=(Fr.refl (fun q=>q=gp) wr).set ⟨gp,x,none⟩ rfl _
     have HO2:Hid ((wr.setCell ⟨gp,x,none⟩ (.int .i64 (order.length:Int))).ownsRow w.heap.size 3 1 (.slice (some ⟨r1,0,none⟩) T.length c1) T.length (nV (stk T))):=own_fr HOp.out HF.out (fun q hq=>by simp [Value.ownBlock] at hq;omega)
     have HM2:Hid (Met (wr.setCell ⟨gp,x,none⟩ (.int .i64 (order.length:Int))) w2.heap.size met.length met):=HM.out.fr HF.out (by omega)
     have HA2:Hid (AtN 24 (wr.setCell ⟨gp,x,none⟩ (.int .i64 (order.length:Int))) w.heap.size #[.slice a X.length c,.int .i64 r]):=HA.out.fr HF.out (by omega)
     have HB2:Hid (Below w.heap.size w (wr.setCell ⟨gp,x,none⟩ (.int .i64 (order.length:Int)))):=set_below HB.out _ (by show w.heap.size≤gp;omega) _
     clear hpz HI Hm hin hpl HO1 HOp HM HA HB HP HF
     go_wp2_with fail
     go_roundg ((X.length-met.length)*3001+T.length)
     case measure=>exact Hm2.out
     case rel=>exact ⟨T,order++[x],met,r1,c1,by simp,rfl,rfl,HI2,HO2,hrg,HM2,HPs,HA2,HB2⟩
   ·have hlk:=HM.out.look x (by omega)
    rw [decide_eq_false hin] at hlk
    have hkl:(X.getD x noNx).nd.kids.length≤3000:=HS.out.2.1.kids hxl
    have hkx:(kX X).getD x []=(X.getD x noNx).nd.kids.map Int.toNat:=kX_at X x hxl
    obtain ⟨hI2,hmm⟩:=HI.out.open_ HS.out.2.2.2.1 HS.out.2.2.2.2 hin (by rw [hkx];simpa using hkl)
    rw [kX_length] at hmm
    obtain ⟨w3,hup,hm3,hg3⟩:=HM.out.put x (by omega) (by unfold maxLen;omega)
    have hF3:Fr (fun q=>q=w2.heap.size) wr w3:=Fr.of_grown (S:=fun q=>q=w2.heap.size) hg3 (fun z e=>(Option.some.inj e).symm)
    have HB3:Hid (Below w.heap.size w w3):=Fr.below HB.out hF3 (fun z e=>by omega) HB.out.size
    have hsc:=ScAt.belowB HS.out.1 HB3.out
    obtain ⟨gb,ob,rfl,hgb,q0,q1,q2,q3⟩:=HS.out.1.node hxl
    have q3':w3.cell? ⟨gb,ob+x*4+3,none⟩=some (.slice (X.getD x noNx).a3 (X.getD x noNx).nd.kids.length (X.getD x noNx).c3):=(HB3.out.cell (p:=⟨gb,ob+x*4+3,none⟩) hgb).trans q3
    have x0':w3.cell? ⟨w.heap.size,0,none⟩=some (.slice (some ⟨gb,ob,none⟩) X.length c):=(HA.out.fr hF3 (by omega)).cell 0
    have HL3:Hid (LsQ (fun q=>q<w.heap.size) w3 (X.getD x noNx).a3 (nV ((kX X).getD x []))):=by
     have h0:=(HS.out.1.each x hxl).k.toQ
     have h1:LsQ (fun q=>q<w.heap.size) w3 (X.getD x noNx).a3 (iV (X.getD x noNx).nd.kids):=by
      obtain ⟨b,o,k1,k2⟩:=h0
      exact ⟨b,o,k1,fun i hi=>⟨⟨(k2 i hi).1.1,Nat.lt_of_lt_of_le (k2 i hi).1.2 HB3.out.size⟩,(HB3.out.cell (p:=⟨b,o+i,none⟩) (k2 i hi).1.1).trans (k2 i hi).2⟩⟩
     rw [hkx,nV_toNat (n:=X.length) _ (HS.out.2.2.1 x hxl)]
     exact h1
    have HO3:Hid (w3.ownsRow w.heap.size 3 1 (.slice (some ⟨r1,0,none⟩) (stk T++[x]).length c1) (stk T++[x]).length (nV (stk T++[x]))):=by
     have:=own_fr HO1.out hF3 (fun q hq=>by simp [Value.ownBlock] at hq;omega)
     rw [show (stk T++[x]).length=T.length+1 by simp [stk_length]]
     exact this
    have HP3:Hid (AtN 3 w3 gp (zV X.length (plZ order))):=HP.out.fr hF3 (by have:=HM.out.ne_at HP.out;omega)
    have HA3:Hid (AtN 24 w3 w.heap.size #[.slice (some ⟨gb,ob,none⟩) X.length c,.int .i64 r]):=HA.out.fr hF3 (by omega)
    have HM3:Hid (Met w3 w2.heap.size (met++[x]).length (met++[x])):=by rw [List.length_append];exact hm3
    have HI3:Hid (SInv (kX X) rk r0 (((kX X).getD x []).map (fun k=>(k,false))++(x,true) :: T) order (met++[x])):=hI2
    have hlen3:(((kX X).getD x []).map (fun k=>(k,false))++(x,true) :: T).length=T.length+1+(X.getD x noNx).nd.kids.length:=by rw [hkx];simp;omega
    have Hm3:Hid ((X.length-(met++[x]).length)*3001+(((kX X).getD x []).map (fun k=>(k,false))++(x,true) :: T).length<gk):=by
     rw [Hm.out,hlen3,List.length_append,List.length_singleton]
     show _<_
     rw [show X.length-met.length=(X.length-(met.length+1))+1 by omega,Nat.add_mul]
     omega
    have hkl2:((kX X).getD x []).length=(X.getD x noNx).nd.kids.length:=by rw [hkx];simp
    have HSt:Hid (stk T++[x]++((kX X).getD x []).reverse=stk (((kX X).getD x []).map (fun k=>(k,false))++(x,true) :: T)):=(stk_push x _ T).symm
    have hst1:(stk T++[x]).length=T.length+1:=by simp [stk_length]
    have hPC:=pushkids_any (stk T++[x]) ((kX X).getD x []) (X.getD x noNx).a3 c1 (X.getD x noNx).c3 w.heap.size r1 w3 HB3.out.size HO3.out HL3.out (by omega) (by omega)
    rw [hst1,hkl2] at hPC
    have HPC:Hid _:=hPC
    clear hPC hsc HO1 HM HP HA HB HI Hm hin hm3 hg3 hI2 HL3 HO3 q0 q1 q2 q3 hF3 hkx
    generalize (kX X).getD x []=ks at *
    generalize X.getD x noNx=N at *
    go_wp2_with fail
    refine Calls.mono HPC.out ?_
    rintro e w4 ⟨r4,c4,rfl,hO4,hr4,hF4⟩
    rw [HSt.out,stk_length] at hO4 ⊢
    have hs3:=HB3.out.size
    have HO4:Hid _:=hO4
    have hg4:r4≠gp:=by have:=HP3.out.lt;omega
    have HM4:Hid (Met w4 w2.heap.size (met++[x]).length (met++[x])):=HM3.out.fr hF4 (by omega)
    have HP4:Hid (AtN 3 w4 gp (zV X.length (plZ order))):=HP3.out.fr hF4 (by omega)
    have HA4:Hid (AtN 24 w4 w.heap.size #[.slice (some ⟨gb,ob,none⟩) X.length c,.int .i64 r]):=HA3.out.fr hF4 (by omega)
    have HB4:Hid (Below w.heap.size w w4):=Fr.below HB3.out hF4 (fun z e=>by omega) HB3.out.size
    clear HPC hO4 hF4 HM3 HP3 HA3 HB3
    generalize ks.map (fun k=>(k,false))++(x,true) :: T=T2 at *
    go_wp2_with fail
    go_roundg ((X.length-(met++[x]).length)*3001+T2.length)
    case measure=>exact Hm3.out
    case rel=>exact ⟨T2,order,met++[x],r4,c4,rfl,by rw [hlen3],rfl,HI3,HO4,hg4,HM4,HP4,HA4,HB4⟩
end Go.Proofs.YtgoffkfpdigeeaaGreatDoor
