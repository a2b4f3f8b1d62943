import Derived.Test.YtgoffkfpdigeeaaGreatDoorRows
import Derived.Lib.Builder
import Derived.Lib.OthersKept
import Derived.Lib.AppendStr
import Derived.Lib.UnsafeStr
import Derived.Test.YtgoffkfpdigeeaaGreatDoorA09
namespace Go.Proofs.YtgoffkfpdigeeaaGreatDoor
open Go.RowKit
theorem Tryz.infoB:(Tryz.prog.info? 95).map (fun i=>i.size)=some 2:=by kernel_rfl
theorem Tryz.infoU:(Tryz.prog.info? 5).map (fun i=>(i.zero,i.size,i.bytes))=some (some (.int .u8 0),1,1):=by kernel_rfl
theorem Tryz.liesB:liesAt Tryz.prog Tryz.prog.depth 95 (2 / Tryz.prog.cellsOf 95) 0 95 1=true:=by kernel_rfl
def Bu (B g:Nat) (l:List UInt8) (w:World):Prop:=Lib.IsBuilder 95 5 B g (bV l) w
def Kept (g:Nat) (w w':World):Prop:=Lib.OthersKept 5 (some g) w w'
theorem buAt_below {B g:Nat} {p:Value} {bs:List Value} {w w':World} (h:Lib.BuilderAt 95 5 B g p bs w) (hb:Below w.heap.size w w'):Lib.BuilderAt 95 5 B g p bs w':=by
 obtain ⟨hB,v,hg,hown,hne⟩:=h
 have hlt:g<w.heap.size:=(Array.getElem?_eq_some_iff.1 hg).1
 refine ⟨hB,v,(hb.block g hlt).trans hg,hown.kept (gbelow (row:=none) hb) ?_,hne⟩
 cases h:v.ownBlock
 ·exact .inl rfl
 ·exact .inr (by simp)
theorem Bu.below {B g:Nat} {l:List UInt8} {w w':World} (h:Bu B g l w) (hb:Below w.heap.size w w'):Bu B g l w':=by
 rcases h with h|h
 ·exact .inl (buAt_below h hb)
 ·exact .inr (buAt_below h hb)
theorem Bu.alloc {B g:Nat} {l:List UInt8} {w:World} (h:Bu B g l w) (o:Obj):Bu B g l (w.alloc o):=h.below ((Below.refl _ _).alloc (Nat.le_refl _) o)
theorem Bu.new (w:World):Bu w.heap.size w.heap.size [] (w.alloc (.cells #[.pointer none,.slice none 0 0] 95)):=Lib.fresh_isBuilder _ _ w
theorem Bu.lt {B g:Nat} {l:List UInt8} {w:World} (h:Bu B g l w):g<w.heap.size:=by
 rcases h with h|h
 ·exact h.lt
 ·exact h.lt
theorem Kept.two {g:Nat} {w w':World} (h:Kept g w w') {k:Nat} {cs:Array Value} {T:TypeId} (hk:w.heap[k]? = some (.cells cs T (0,0))) (hg:k≠g) (hT:T≠5):w'.heap[k]? = some (.cells cs T (0,0)):=
 h k _ hk (by simpa using hg) (fun c fz e=>hT (by cases e;rfl))
set_option maxRecDepth 10000 in
set_option maxHeartbeats 400000 in
theorem check_old (g:Nat) (w:World) (h0:w.cell? ⟨g,0,none⟩=some (.pointer (some ⟨g,0,none⟩))) :
  Calls Tryz.prog 110 #[.pointer (some ⟨g,0,none⟩)] w fun e w'=>e=.returned (.tuple #[])∧w'=w:=by
 obtain ⟨j,hj,_⟩:=Option.map_eq_some_iff.1 Tryz.infoB
 have hn:=Lib.run_neq_ptr_same (P:=Tryz.prog) w ⟨g,0,none⟩ Tryz.underlying93 hj
 clear hj
 go_enter Tryz.func110,Tryz.ntmps110
 go_wp2
 go_end0
 exact ⟨rfl,rfl⟩
set_option maxRecDepth 10000 in
set_option maxHeartbeats 400000 in
theorem check_new (g:Nat) (w:World) (h0:w.cell? ⟨g,0,none⟩=some (.pointer none)) (hsh:w.shape? g=some (95,2)) (hfz:w.frozen? ⟨g,0,none⟩=false) :
  Calls Tryz.prog 110 #[.pointer (some ⟨g,0,none⟩)] w fun e w'=>e=.returned (.tuple #[])∧w'=w.setCell ⟨g,0,none⟩ (.pointer (some ⟨g,0,none⟩)):=by
 obtain ⟨j,hj,hjs⟩:=Option.map_eq_some_iff.1 Tryz.infoB
 have r1:=Lib.run_to_unsafe (P:=Tryz.prog) w ⟨g,0,none⟩ Tryz.underlying93 Tryz.underlying195 hj (by rw [hjs];decide) hsh (Nat.zero_lt_succ 1)
 have r3:=Lib.run_from_unsafe (P:=Tryz.prog) w ⟨g,0,none⟩ Tryz.underlying195 Tryz.underlying93 hj hsh Tryz.liesB
 clear hj
 go_enter Tryz.func110,Tryz.ntmps110
 go_wp2
 rw [run_callFunc_extern Tryz.func145 (by kernel_rfl) (by kernel_rfl) (by kernel_rfl) (e:=Extern.AbiNoEscape.same) (by kernel_rfl),Lib.run_noEscape]
 simp only [Result.andThen]
 rw [Oper.upon_value]
 go_wp2
 go_end0
 exact ⟨rfl,rfl⟩
theorem bcheck_any (B g:Nat) (bs:List Value) (w:World) (h:Lib.IsBuilder 95 5 B g bs w) :
  Calls Tryz.prog 110 #[.pointer (some ⟨g,0,none⟩)] w fun e w'=>e=.returned (.tuple #[])∧Lib.BuilderAt 95 5 B g (.pointer (some ⟨g,0,none⟩)) bs w'∧Below B w w'∧Kept g w w':=by
 rcases h with h|h
 ·refine (check_new g w h.cell0 h.shape h.frozen0).mono ?_
  rintro e w' ⟨rfl,rfl⟩
  exact ⟨rfl,h.used _,(Below.refl B w).setCell (p:=⟨g,0,none⟩) h.1 _,(Lib.OthersKept.refl _ _ w).setCell ⟨g,0,none⟩ rfl _⟩
 ·refine (check_old g w h.cell0).mono ?_
  rintro e w' ⟨rfl,rfl⟩
  exact ⟨rfl,h,Below.refl _ _,Lib.OthersKept.refl _ _ _⟩
theorem own_kind {w:World} {B:Nat} {e:TypeId} {v:Value} {n:Nat} {xs:List Value} (h:w.ownsRow B e 1 v n xs):∀g,v.ownBlock=some g→∃c fz,w.heap[g]? = some (.cells c e fz):=by
 intro g hg
 rcases h.2 with ⟨rfl,_⟩|⟨g',cap,cur,rfl,_,hgg,_⟩
 ·simp [Value.ownBlock] at hg
 ·simp [Value.ownBlock] at hg
  subst hg
  exact ⟨cur,_,hgg⟩
theorem own_form {w:World} {B:Nat} {e:TypeId} {v:Value} {n:Nat} {xs:List Value} (h:w.ownsRow B e 1 v n xs):∃ao cap,v=.slice ao n cap:=by
 rcases h.2 with ⟨rfl,rfl⟩|⟨g',cap,cur,rfl,_⟩
 ·exact ⟨none,0,rfl⟩
 ·exact ⟨_,cap,rfl⟩
set_option maxRecDepth 10000 in
set_option maxHeartbeats 400000 in
theorem wbyte_any (B g:Nat) (l:List UInt8) (c:Nat) (w:World) (h:Bu B g l w) (hc:c<256) (hlen:l.length+1≤140737488355328) (hBw:B≤w.heap.size) :
  Calls Tryz.prog 63 #[.pointer (some ⟨g,0,none⟩),.int .u8 c] w fun e w'=>e=.returned .nilIface∧Bu B g (l++[UInt8.ofNat c]) w'∧Below B w w'∧Kept g w w':=by
 obtain ⟨i0,hi,hz0,hz1,hz2⟩:=info_parts Tryz.infoU
 have hl:(bV l).length=l.length:=bV_length l
 go_enter Tryz.func63,Tryz.ntmps63
 go_wp2_with fail
 refine (bcheck_any B g (bV l) _ h).mono ?_
 rintro e w1 ⟨rfl,h1,hb1,hk1⟩
 obtain ⟨hB,v,hbk,hown,hne⟩:=h1
 have hs1:=hb1.size
 have hlt:g<w1.heap.size:=(Array.getElem?_eq_some_iff.1 hbk).1
 have c0:w1.cell? ⟨g,0,none⟩=some (.pointer (some ⟨g,0,none⟩)):=by rw [Lib.cell_of_heap hbk];rfl
 have c1:w1.cell? ⟨g,1,none⟩=some v:=by rw [Lib.cell_of_heap hbk];rfl
 go_wp2_with (at_builtin;refine wpList_append_own _ rfl _ _ 85 rfl B 5 i0 (.int .u8 0) 1 1 Tryz.underlying85 hi hz0 hz1 hz2 rfl (by decide) _ _ _ rfl (hown.alloc _) ⟨w1.heap.size,0,none⟩ 1 1 [.int .u8 (c:Int)] rfl rfl (cell_one_new _ _ _) ?c2 ?c3 ?c4 ?c5 ?_)
 case c2=>intro u hu;simp at hu;subst hu;rfl
 case c3=>unfold maxLen;omega
 case c4=>omega
 case c5=>simp;omega
 intro v' w2 hown' hgrow _
 have hb2:w2.heap[g]? = some (.cells #[.pointer (some ⟨g,0,none⟩),v] 95 (0,0)):=by
  rw [hgrow.block g (by simp;omega) (fun e=>hne e.symm),Lib.alloc_old w1 _ g hlt]
  exact hbk
 have d0:w2.cell? ⟨g,0,none⟩=some (.pointer (some ⟨g,0,none⟩)):=by rw [Lib.cell_of_heap hb2];rfl
 have d1:w2.cell? ⟨g,1,none⟩=some v:=by rw [Lib.cell_of_heap hb2];rfl
 have f1:w2.frozen? ⟨g,1,none⟩=false:=Lib.frozen_of_heap hb2 1
 obtain ⟨ao,cap,rfl⟩:=own_form hown'
 go_wp2_with fail
 go_ret
 have hkind:=own_kind (hown.alloc (.cells #[.int .u8 (c:Int)] 5))
 refine ⟨rfl,.inr ?_,?_,?_⟩
 ·rw [bV_snoc l c hc]
  exact Lib.BuilderAt.put (T:=95) (e:=5) hB hb2 (bs':=bV l++[.int .u8 (c:Int)]) (by simpa [bV_length] using hown') (by decide)
 ·exact ((hb1.alloc (by omega) _).grown hgrow (by simp;omega) (fun k hk=>(hown.lt k hk).1)).setCell (p:=⟨g,1,none⟩) hB _
 ·exact ((hk1.alloc _).grown hgrow hkind).setCell ⟨g,1,none⟩ rfl _
set_option maxRecDepth 10000 in
set_option maxHeartbeats 400000 in
theorem wstr_any (B g:Nat) (l:List UInt8) (s:ByteArray) (w:World) (h:Bu B g l w) (hlen:l.length+s.size≤140737488355328) (hBw:B≤w.heap.size) :
  Calls Tryz.prog 62 #[.pointer (some ⟨g,0,none⟩),.string s] w fun e w'=>e=.returned (.tuple #[.int .i64 s.size,.nilIface])∧Bu B g (l++s.data.toList) w'∧Below B w w'∧Kept g w w':=by
 obtain ⟨i0,hi,hz0,hz1,hz2⟩:=info_parts Tryz.infoU
 have hl:(bV l).length=l.length:=bV_length l
 go_enter Tryz.func62,Tryz.ntmps62
 go_wp2_with fail
 refine (bcheck_any B g (bV l) _ h).mono ?_
 rintro e w1 ⟨rfl,h1,hb1,hk1⟩
 obtain ⟨hB,v,hbk,hown,hne⟩:=h1
 have hs1:=hb1.size
 have hlt:g<w1.heap.size:=(Array.getElem?_eq_some_iff.1 hbk).1
 have c0:w1.cell? ⟨g,0,none⟩=some (.pointer (some ⟨g,0,none⟩)):=by rw [Lib.cell_of_heap hbk];rfl
 have c1:w1.cell? ⟨g,1,none⟩=some v:=by rw [Lib.cell_of_heap hbk];rfl
 go_wp2_with (at_builtin;refine Lib.wpList_append_own_string _ rfl _ _ 85 9 rfl B 5 i0 Tryz.underlying85 Tryz.underlying9 hi hz0 hz1 hz2 _ _ _ rfl hown s rfl ?c3 ?c4 ?c5 ?_)
 case c3=>unfold maxLen;omega
 case c4=>omega
 case c5=>omega
 intro v' w2 hown' hgrow _
 have hb2:w2.heap[g]? = some (.cells #[.pointer (some ⟨g,0,none⟩),v] 95 (0,0)):=by
  rw [hgrow.block g hlt (fun e=>hne e.symm)]
  exact hbk
 have d0:w2.cell? ⟨g,0,none⟩=some (.pointer (some ⟨g,0,none⟩)):=by rw [Lib.cell_of_heap hb2];rfl
 have d1:w2.cell? ⟨g,1,none⟩=some v:=by rw [Lib.cell_of_heap hb2];rfl
 have f1:w2.frozen? ⟨g,1,none⟩=false:=Lib.frozen_of_heap hb2 1
 obtain ⟨ao,cap,rfl⟩:=own_form hown'
 go_wp2_with fail
 go_ret2
 have hkind:=own_kind hown
 refine ⟨rfl,.inr ?_,?_,?_⟩
 ·rw [bV_append]
  exact Lib.BuilderAt.put (T:=95) (e:=5) hB hb2 (bs':=bV l++Lib.strCells s) (by simpa [Lib.strCells_length,bV_length] using hown') (by decide)
 ·exact (hb1.grown hgrow (by omega) (fun k hk=>(hown.lt k hk).1)).setCell (p:=⟨g,1,none⟩) hB _
 ·exact (hk1.grown hgrow hkind).setCell ⟨g,1,none⟩ rfl _
set_option maxRecDepth 10000 in
set_option maxHeartbeats 400000 in
theorem bstr_any (B g:Nat) (l:List UInt8) (w:World) (h:Bu B g l w) (h0:l≠[]) :
  Calls Tryz.prog 67 #[.pointer (some ⟨g,0,none⟩)] w fun e w'=>e=.returned (.string ⟨l.toArray⟩)∧Below B w w':=by
 obtain ⟨p,hB,v,hbk,hown,hne⟩:∃p,Lib.BuilderAt 95 5 B g p (bV l) w:=by
  rcases h with h|h
  ·exact ⟨_,h⟩
  ·exact ⟨_,h⟩
 have hl0:l.length≠0:=by simpa using h0
 rw [bV_length] at hown
 obtain ⟨k,cap,cur,rfl,hbg,hg,hnc,hcm,hcs,htake⟩:∃k cap cur,v=.slice (some ⟨k,0,none⟩) l.length cap∧B≤k∧w.heap[k]? = some (.cells cur 5 (0,0))∧l.length≤cap∧cap≤maxLen∧cur.size=cap*1∧cur.toList.take (l.length*1)=bV l:=by
  rcases hown.2 with ⟨_,hz⟩|⟨k,cap,cur,hv,r⟩
  ·exact absurd hz hl0
  ·exact ⟨k,cap,cur,hv,r⟩
 have hg':w.drew.heap[k]? = some (.cells cur 5 (0,0)):=hg
 have hbk':w.drew.heap[g]? = some (.cells #[p,.slice (some ⟨k,0,none⟩) l.length cap] 95 (0,0)):=hbk
 have c1:w.drew.cell? ⟨g,1,none⟩=some (.slice (some ⟨k,0,none⟩) l.length cap):=by rw [Lib.cell_of_heap hbk'];rfl
 have hSD:(Builtin.unsafeSliceData_ #[85] 153 #[.slice (some ⟨k,0,none⟩) l.length cap]).run Tryz.prog w.drew=.ok (.pointer (some ⟨k,0,none⟩)) w.drew:=
  Lib.run_unsafeSliceData_row _ _ _ _ _ _ (by omega)
 have hUS:(Builtin.unsafeString_ #[153,3] 9 #[.pointer (some ⟨k,0,none⟩),.int .i64 l.length]).run Tryz.prog w.drew=.ok (.string ⟨l.toArray⟩) (w.drew.freeze ⟨k,0,none⟩ l.length):=by
  refine Lib.run_unsafeString_row w.drew 153 3 9 5 Tryz.underlying153 (by kernel_rfl) k cur.size (by simp [World.shape?,hg']) l h0 (by omega) (by unfold maxLen at hcm;omega) ?_
  intro j x hx
  have:=hown.cells (g:=k) rfl j (.int .u8 x.toNat) (by simp [bV,hx])
  exact this
 clear hcs htake hnc hcm hg hbk hg' hbk' hown hne
 go_enter Tryz.func67,Tryz.ntmps67
 go_wp2
 go_region
 all_goals
  go_wp2
  go_ret
  exact ⟨rfl,Lib.below_freeze (Below.drew (Below.refl B w)) (p:=⟨k,0,none⟩) hbg _⟩
end Go.Proofs.YtgoffkfpdigeeaaGreatDoor
