import Derived.OpenShut
import Derived.ChangeArms
import Derived.LaidLaws
import Derived.LaidMore
import Derived.MakeChecks
import Derived.Below
import Derived.Test.YtgoffkfpdigeeaaGreatDoorL01
namespace Go.Proofs.YtgoffkfpdigeeaaGreatDoor
open Go.RowKit
def nz (l:List Int):List Int:=l.filter (fun z=>decide (z≠0))
theorem nz_snoc (l:List Int) (z:Int) (h:z≠0):nz (l++[z])=nz l++[z]:=by simp [nz,h]
theorem nz_zero (l:List Int):nz (l++[0])=nz l:=by simp [nz]
def Ints (w:World) (B:Nat) (v:Value) (l:List Int):Prop:=w.ownsRow B 3 1 v l.length (iV l)
structure MkSp (w wr:World) (t l m:Int) (v:Value) (L:List Int):Prop where
 a1:AtN 117 wr (w.heap.size+1) #[.slice none 0 0,.int .i64 0,.int .i64 0,.int .i64 0]
 a2:AtN 117 wr (w.heap.size+1+1) #[v,.int .i64 t,.int .i64 l,.int .i64 m]
 own:wr.ownsRow (w.heap.size+1+1+1) 3 1 v L.length (iV L)
 bel:Below w.heap.size w wr
set_option maxRecDepth 10000 in
set_option maxHeartbeats 400000 in
theorem spec_any (a0 a1 a2 a3 t l m:Int) (w:World) :
  Calls Tryz.prog 162 #[.agg #[.int .i64 a0,.int .i64 a1,.int .i64 a2,.int .i64 a3,.int .i64 t,.int .i64 l,.int .i64 m]] w fun e w'=>
   ∃v,e=.returned (.agg #[v,.int .i64 t,.int .i64 l,.int .i64 m])∧Ints w' (w.heap.size+1) v (nz [a0,a1,a2,a3])∧Below w.heap.size w w':=by
 obtain ⟨i0,hi,hz0,hz1,hz2⟩:=info_parts Tryz.infoI7
 go_enter Tryz.func162,Tryz.ntmps162
 go_wp2_with fail
 go_loopw [15] (fun iv wr=>∃(i:Nat) (v:Value),iv=.int .i64 i∧i≤4∧MkSp w wr t l m v (nz ([a0,a1,a2,a3].take i))) (fun iv _=>4-(intOf iv).toNat)
 case atStart=>
  refine ⟨0,.slice none 0 0,rfl,by omega,?_,?_,⟨rfl,.inl ⟨rfl,rfl⟩⟩,?_⟩
  ·exact mk_at ((AtN.new (w.alloc _) 117 _).alloc _) (by simp)
  ·exact mk_at (AtN.new ((w.alloc _).alloc _) 117 _) (by simp)
  ·exact (((Below.refl _ _).alloc (Nat.le_refl _) _).alloc (by simp) _).alloc (by simp;omega) _
 case round=>
  obtain ⟨i,v,rfl,hi4,hM⟩:=hrel
  obtain ⟨ao,cap,rfl⟩:=own_shape7 hM.own
  have c0:wr.cell? ⟨w.heap.size+1+1,0,none⟩=some (.slice ao (nz (List.take i [a0,a1,a2,a3])).length cap):=hM.a2.cell 0
  have c1:wr.cell? ⟨w.heap.size+1+1,1,none⟩=some (.int .i64 t):=hM.a2.cell 1
  have c2:wr.cell? ⟨w.heap.size+1+1,2,none⟩=some (.int .i64 l):=hM.a2.cell 2
  have c3:wr.cell? ⟨w.heap.size+1+1,3,none⟩=some (.int .i64 m):=hM.a2.cell 3
  have hw3:=hM.a2.lt
  by_cases he:i=4
  ·subst he
   have d0:wr.cell? ⟨w.heap.size+1,0,none⟩=some (.slice none 0 0):=hM.a1.cell 0
   have d1:wr.cell? ⟨w.heap.size+1,1,none⟩=some (.int .i64 0):=hM.a1.cell 1
   have d2:wr.cell? ⟨w.heap.size+1,2,none⟩=some (.int .i64 0):=hM.a1.cell 2
   have d3:wr.cell? ⟨w.heap.size+1,3,none⟩=some (.int .i64 0):=hM.a1.cell 3
   have f0:=hM.a1.fz 0
   have f1:=hM.a1.fz 1
   have f2:=hM.a1.fz 2
   have f3:=hM.a1.fz 3
   have HM:Hid _:=hM
   clear hM
   go_wp2_with fail
   have hM:=HM.out
   have hB:=hM.bel.size
   have o1:=own_mono (own_set (own_set (own_set (own_set hM.own ⟨w.heap.size+1,0,none⟩ (fun r hr=>by have:=(hM.own.lt r hr).1;dsimp only;omega) (.slice ao (nz [a0,a1,a2,a3]).length cap)) ⟨w.heap.size+1,1,none⟩ (fun r hr=>by have:=(hM.own.lt r hr).1;dsimp only;omega) (.int .i64 t)) ⟨w.heap.size+1,2,none⟩ (fun r hr=>by have:=(hM.own.lt r hr).1;dsimp only;omega) (.int .i64 l)) ⟨w.heap.size+1,3,none⟩ (fun r hr=>by have:=(hM.own.lt r hr).1;dsimp only;omega) (.int .i64 m)) (by omega:w.heap.size+1≤w.heap.size+1+1+1)
   have b1:=set_below (set_below (set_below (set_below hM.bel ⟨w.heap.size+1,0,none⟩ (by dsimp only;omega) (.slice ao (nz [a0,a1,a2,a3]).length cap)) ⟨w.heap.size+1,1,none⟩ (by dsimp only;omega) (.int .i64 t)) ⟨w.heap.size+1,2,none⟩ (by dsimp only;omega) (.int .i64 l)) ⟨w.heap.size+1,3,none⟩ (by dsimp only;omega) (.int .i64 m)
   exact bodyPost_ret (v:=.agg #[.slice ao (nz [a0,a1,a2,a3]).length cap,.int .i64 t,.int .i64 l,.int .i64 m]) (by simp [results,Tryz.results162,go_sem, *]) rfl ⟨_,rfl,o1,b1⟩
  ·obtain ⟨z,hz⟩:∃z,[a0,a1,a2,a3][i]? = some z:=by
    rcases (by omega:i=0∨i=1∨i=2∨i=3) with rfl|rfl|rfl|rfl <;> exact ⟨_,rfl⟩
   have hidx:∀W:World,(Instr.index 207 (.agg #[.int .i64 a0,.int .i64 a1,.int .i64 a2,.int .i64 a3]) (.int .i64 i)).run Tryz.prog W=.ok (.int .i64 z) W:=by
    intro W
    rcases (by omega:i=0∨i=1∨i=2∨i=3) with rfl|rfl|rfl|rfl <;> (cases hz;kernel_rfl)
   have hlt:(i:Int)<4:=by omega
   have HT:Hid ([a0,a1,a2,a3].take (i+1)=[a0,a1,a2,a3].take i++[z]):=by show _=_;rw [List.take_add_one,hz];rfl
   clear hz
   by_cases h0:z=0
   ·subst h0
    go_wp2_with fail
    go_roundw
    case rel=>exact ⟨i+1,_,by go_num,by omega,by rw [HT.out,nz_zero];exact hM⟩
    case measure=>simp [intOf];omega
   ·have hlen:(nz (List.take i [a0,a1,a2,a3])).length≤4:=Nat.le_trans (List.length_filter_le _ _) (by simp;omega)
    have HS:Hid (nz (List.take (i+1) [a0,a1,a2,a3])=nz (List.take i [a0,a1,a2,a3])++[z]):=by show _=_;rw [HT.out,nz_snoc _ _ h0]
    have HM:Hid _:=hM
    clear hM
    generalize nz (List.take i [a0,a1,a2,a3])=L at *
    go_wp2_with (at_builtin;refine wpList_append_lies _ rfl (.tmp 21) (.tmp 23) 49 rfl (w.heap.size+1+1+1) 3 i0 (.int .i64 0) 1 8 Tryz.underlying49 hi hz0 hz1 hz2 rfl (by decide) _ L.length (iV L) rfl (HM.out.own.alloc _) ⟨wr.heap.size,0,none⟩ 1 1 [.int .i64 z] rfl rfl (cell_one_new _ _ _) (by intro u hu;simp at hu;subst hu;rfl) (by decide) (by unfold maxLen;omega) (by omega) (by simp;omega) _ rfl ?_)
    intro g2 cap2 w2 hown2 hgrow2 hlie hlt2
    have hM:=HM.out
    have hrow:∀r,(Value.slice ao L.length cap).ownBlock=some r→w.heap.size+1+1+1≤r:=fun r hr=>(hM.own.lt r hr).1
    have n1:AtN 117 w2 (w.heap.size+1) #[.slice none 0 0,.int .i64 0,.int .i64 0,.int .i64 0]:=(hM.a1.alloc _).kept hgrow2 (fun e=>by have:=hrow _ e.symm;omega)
    have n2:AtN 117 w2 (w.heap.size+1+1) #[.slice ao L.length cap,.int .i64 t,.int .i64 l,.int .i64 m]:=(hM.a2.alloc _).kept hgrow2 (fun e=>by have:=hrow _ e.symm;omega)
    have e0:w2.cell? ⟨w.heap.size+1+1,0,none⟩=some (.slice ao L.length cap):=n2.cell 0
    have f0:=n2.fz 0
    have hg2:w.heap.size+1+1+1≤g2:=by
     rcases hlie with e|e
     ·exact hrow _ e
     ·omega
    have B2:Below w.heap.size w w2:=(hM.bel.alloc hM.bel.size _).grown hgrow2 (by have:=hM.bel.size;simp;omega) (fun k hk=>by have:=hrow k hk;omega)
    clear hgrow2 hM HM hlie hrow
    go_wp2_with fail
    go_roundw
    case rel=>
     refine ⟨i+1,.slice (some ⟨g2,0,none⟩) (L.length+1) cap2,by go_num,by omega,?_⟩
     rw [HS.out]
     exact ⟨n1.setOther _ (by dsimp only;omega) _,by simpa using n2.set 0 _,by simpa [iV] using own_set hown2 ⟨w.heap.size+1+1,0,none⟩ (fun r hr=>by simp [Value.ownBlock] at hr;dsimp only;omega) _,set_below B2 _ (by dsimp only;omega) _⟩
    case measure=>simp [intOf];omega
end Go.Proofs.YtgoffkfpdigeeaaGreatDoor
namespace Go.Proofs.YtgoffkfpdigeeaaGreatDoor
open Go Go.RowKit
def contig:Nat→List (Nat × Nat)→Nat→Bool
 | o,[],e=>o==e
 | o,(p,n) :: r,e=>p==o && contig (o+n) r e
def plainT (P:Program):Nat→TypeId→Bool
 | 0,_=>false
 | n+1,t=>
  match P.underlying t with
  | some (.int _)=>true
  | some .string=>true
  | some (.array k e)=>contig 0 ((List.range k).map fun i=>(i*P.cellsOf e,P.cellsOf e)) (P.cellsOf t) && plainT P n e
  | some (.struct fs)=>contig 0 (fs.toList.map fun f=>(f.offset,P.cellsOf f.type)) (P.cellsOf t) && fs.toList.all fun f=>plainT P n f.type
  | _=>false
def flat {H:Type}:Nat→DataW H→List Value
 | 0,_=>[]
 | _+1,.lit (.int k z)=>[.int k z]
 | _+1,.lit (.string b)=>[.string ⟨b.toArray⟩]
 | n+1,.agg ds=>ds.flatMap (flat n)
 | _+1,_=>[]
theorem glue {α : Type} (f : α→List Value) (cs:List Value):∀(offs:List (Nat × Nat)) (xs:List α) (o:Nat),xs.length=offs.length→contig o offs cs.length=true→
  (∀(i:Nat) (p n:Nat) (x : α),offs[i]? = some (p,n)→xs[i]? = some x→(cs.drop p).take n=f x)→cs.drop o=xs.flatMap f
 | [],[],o,_,hc,_=>by
  have:o=cs.length:=by simpa [contig] using hc
  subst this
  simp
 | (p,n) :: r,x :: xs,o,hl,hc,h=>by
  simp only [contig,Bool.and_eq_true,beq_iff_eq] at hc
  obtain ⟨rfl,hc⟩:=hc
  have h0:=h 0 p n x rfl rfl
  have ih:=glue f cs r xs (p+n) (by simpa using hl) hc (fun i q m y h1 h2=>h (i+1) q m y (by simpa using h1) (by simpa using h2))
  rw [List.flatMap_cons,← ih,← h0,← List.drop_drop,List.take_append_drop]
theorem flat_of {H:Type} {enc:TypeId × Value→H} {P:Program} {w:World} {base:Nat} {sp:Nat→Bool} {held:Bool}:∀(n:Nat) (t:TypeId) (cs:List Value) (fuel:Nat) (d:DataW H) (p:List MemPlace),
  plainT P n t=true→DataW.trod enc P w base sp held fuel t cs=some (d,p)→cs=flat n d
 | 0,_,_,_,_,_,ht,_=>by simp [plainT] at ht
 | n+1,t,cs,fuel,d,p,ht,h=>by
  unfold plainT at ht
  split at ht
  ·rename_i k hu
   obtain ⟨z,rfl,hx,_⟩:=DataW.trod_int hu h
   cases hx
   rfl
  ·rename_i hu
   obtain ⟨s,rfl,hx,_⟩:=DataW.trod_string hu h
   cases hx
   simp [flat]
  ·rename_i k e hu
   simp only [Bool.and_eq_true] at ht
   obtain ⟨xs,m,_,hx,hl,hxl,hel⟩:=DataW.trod_array hu h
   cases hx
   have:=glue (fun y:DataW H × List MemPlace=>flat n y.1) cs ((List.range k).map fun i=>(i*P.cellsOf e,P.cellsOf e)) xs 0 (by simp [hxl]) (by rw [hl];exact ht.1) (by
    intro i q r x h1 h2
    by_cases hi:i<k
    ·simp [hi] at h1
     obtain ⟨rfl,rfl⟩:=h1
     have:=hel i hi
     rw [h2] at this
     exact flat_of n e _ m x.1 x.2 ht.2 this
    ·simp [hi] at h1)
   simp only [List.drop_zero] at this
   rw [this]
   simp [flat,List.flatMap_map]
  ·rename_i fs hu
   simp only [Bool.and_eq_true] at ht
   obtain ⟨xs,m,_,hx,hl,hxl,hel⟩:=DataW.trod_struct hu h
   cases hx
   have:=glue (fun y:DataW H × List MemPlace=>flat n y.1) cs (fs.toList.map fun f=>(f.offset,P.cellsOf f.type)) xs 0 (by simp [hxl]) (by rw [hl];exact ht.1) (by
    intro i q r x h1 h2
    simp only [List.getElem?_map,Option.map_eq_some_iff,Prod.mk.injEq] at h1
    obtain ⟨f,hf,rfl,rfl⟩:=h1
    have:=hel i f (by simpa using hf)
    rw [h2] at this
    exact flat_of n f.type _ m x.1 x.2 (List.all_eq_true.1 ht.2 f (List.mem_of_getElem? hf)) this)
   simp only [List.drop_zero] at this
   rw [this]
   simp [flat,List.flatMap_map]
  ·cases ht
def TabAt (w:World) (g:Nat) (l:List Value):Prop:=g<w.heap.size∧∀i,w.cell? ⟨g,i,none⟩=l[i]?
theorem tab_of {P:Program} {W:World} {name:String} {g g':Nat} {t t':TypeId} {cs:Array Value} {fuel n:Nat} {d:DataW Unit} {p:List MemPlace} {enc:TypeId × Value→Unit} {base:Nat} {sp:Nat→Bool} {held:Bool}
  (hg:P.globalNamed name=some g) (hty:(P.globals[g]?).map (·.type)=some t) (hp:plainT P n t=true)
  (hg':P.globalNamed name=some g') (ht':(P.globals[g']?).map (·.type)=some t') (hv:W.var? P name=some cs) (hd:DataW.trod enc P W base sp held fuel t' cs.toList=some (d,p)):TabAt W g (flat n d):=by
 obtain rfl:=Option.some.inj (hg.symm.trans hg')
 obtain rfl:=Option.some.inj (hty.symm.trans ht')
 have hc:=flat_of n t _ _ _ _ hp hd
 refine ⟨?_,fun i=>?_⟩
 ·simp only [World.var?,hg,Option.bind_some] at hv
  split at hv
  ·rename_i hb;exact (Array.getElem?_eq_some_iff.1 hb).1
  ·cases hv
 ·rw [World.var?_cell hg hv i,← hc]
  simp
theorem TabAt.alloc {w:World} {g:Nat} {l:List Value} (h:TabAt w g l) (o:Obj) (i:Nat):(w.alloc o).cell? ⟨g,i,none⟩=l[i]? :=
 (((Below.refl w.heap.size w).alloc (Nat.le_refl _) o).cell (p:=⟨g,i,none⟩) h.1).trans (h.2 i)
theorem TabAt.below {w w':World} {g:Nat} {l:List Value} (h:TabAt w g l) (hb:Below w.heap.size w w'):TabAt w' g l:=
 ⟨Nat.lt_of_lt_of_le h.1 hb.size,fun i=>(hb.cell (p:=⟨g,i,none⟩) h.1).trans (h.2 i)⟩
end Go.Proofs.YtgoffkfpdigeeaaGreatDoor
namespace Go.Proofs.YtgoffkfpdigeeaaGreatDoor
open Go.RowKit
def kindsC:List Value:=iV [0,0,0,0,0,0,0,0,0,0,0,1,0,-1,2,2,2,0,0,1,1,3,3,3,0,1,0,0,3,0,0,0,1,0,0,3,0,0,0,2,0,0,1,0,0,0,0,0,-1,4,4,4,5,0,0,0,2,2,2,0,0,1,1]
def spansC:List Value:=iV [0,0,-9223372036854775808,9223372036854775807,-140737488355328,140737488355328,0,140737488355328,0,255,0,1]
structure Sp where
 ok:Bool
 ints:List Int
 texts:Int
 least:Int
 most:Int
def noSp:Sp:=⟨false,[],0,0,0⟩
def SpIs (w w':World) (e:Ending) (S:Sp):Prop:=
 ∃v,e=.returned (.tuple #[.agg #[v,.int .i64 S.texts,.int .i64 S.least,.int .i64 S.most],.bool S.ok])∧Ints w' w.heap.size v S.ints∧Below w.heap.size w w'
end Go.Proofs.YtgoffkfpdigeeaaGreatDoor
namespace Go.Proofs.YtgoffkfpdigeeaaGreatDoor
open Go.RowKit
def in7 (c n:Int):Bool:=decide (c=1∨c=2∧-140737488355328≤n∧n≤140737488355328∨c=3∧0≤n∧n≤140737488355328∨c=4∧0≤n∧n≤255∨c=5∧0≤n∧n≤1)
set_option maxRecDepth 10000 in
set_option maxHeartbeats 400000 in
theorem in_no (c n:Int) (w:World) (h:c<1∨6≤c) :
  Calls Tryz.prog 150 #[.int .i64 c,.int .i64 n] w fun e w'=>e=.returned (.bool false)∧w'=w:=by
 go_enter Tryz.func150,Tryz.ntmps150
 rcases h with h|h
 ·go_wp2_with fail
  go_ret
  exact ⟨rfl,rfl⟩
 ·have h':¬c<1:=by omega
  go_wp2_with fail
  go_ret
  exact ⟨rfl,rfl⟩
set_option maxRecDepth 10000 in
set_option maxHeartbeats 400000 in
theorem in_in (c:Nat) (n lo hi:Int) (w:World) (h1:1≤c) (h2:c<6) (c0:w.cell? ⟨1,c*2,none⟩=some (.int .i64 lo)) (c1:w.cell? ⟨1,c*2+1,none⟩=some (.int .i64 hi)) :
  Calls Tryz.prog 150 #[.int .i64 c,.int .i64 n] w fun e w'=>e=.returned (.bool (decide (lo≤n∧n≤hi)))∧w'=w:=by
 have k1:¬(c:Int)<1:=by omega
 have k2:¬(6:Int)≤c:=by omega
 by_cases q1:lo≤n
 ·by_cases q2:n≤hi
  ·rw [decide_eq_true ⟨q1,q2⟩]
   go_enter Tryz.func150,Tryz.ntmps150
   go_wp2_with fail
   go_ret
   exact ⟨rfl,rfl⟩
  ·rw [decide_eq_false (fun h=>q2 h.2)]
   go_enter Tryz.func150,Tryz.ntmps150
   go_wp2_with fail
   go_ret
   exact ⟨rfl,rfl⟩
 ·rw [decide_eq_false (fun h=>q1 h.1)]
  go_enter Tryz.func150,Tryz.ntmps150
  go_wp2_with fail
  go_ret
  exact ⟨rfl,rfl⟩
theorem in_any (c n:Int) (w:World) (hT:TabAt w 1 spansC) (h1 : -9223372036854775808≤n) (h2:n≤9223372036854775807) :
  Calls Tryz.prog 150 #[.int .i64 c,.int .i64 n] w fun e w'=>e=.returned (.bool (in7 c n))∧w'=w:=by
 by_cases h:c<1∨6≤c
 ·rw [show in7 c n=false from decide_eq_false (by omega)]
  exact in_no c n w h
 ·rcases (by omega:c=1∨c=2∨c=3∨c=4∨c=5) with rfl|rfl|rfl|rfl|rfl
  ·rw [show in7 1 n=decide (-9223372036854775808≤n∧n≤9223372036854775807) from decide_eq_decide.2 (by omega)]
   exact in_in 1 n _ _ w (by omega) (by omega) (hT.2 2) (hT.2 3)
  ·rw [show in7 2 n=decide (-140737488355328≤n∧n≤140737488355328) from decide_eq_decide.2 (by omega)]
   exact in_in 2 n _ _ w (by omega) (by omega) (hT.2 4) (hT.2 5)
  ·rw [show in7 3 n=decide (0≤n∧n≤140737488355328) from decide_eq_decide.2 (by omega)]
   exact in_in 3 n _ _ w (by omega) (by omega) (hT.2 6) (hT.2 7)
  ·rw [show in7 4 n=decide (0≤n∧n≤255) from decide_eq_decide.2 (by omega)]
   exact in_in 4 n _ _ w (by omega) (by omega) (hT.2 8) (hT.2 9)
  ·rw [show in7 5 n=decide (0≤n∧n≤1) from decide_eq_decide.2 (by omega)]
   exact in_in 5 n _ _ w (by omega) (by omega) (hT.2 10) (hT.2 11)
end Go.Proofs.YtgoffkfpdigeeaaGreatDoor
namespace Go.Proofs.YtgoffkfpdigeeaaGreatDoor
open Go.RowKit
theorem rs_lit (w:World) (S:Sp) (cs:Array Value) (o:Obj) (n:Nat) (hl:S.ints.length=n) (h4:n≤4) (hc:cs.toList=iV S.ints) :
  SpIs w (((w.alloc (.cells #[.slice (some ⟨w.heap.size+1+1,0,none⟩) n n,.int .i64 S.texts,.int .i64 S.least,.int .i64 S.most] 117)).alloc o).alloc (.cells cs 3))
   (.returned (.tuple #[.agg #[.slice (some ⟨w.heap.size+1+1,0,none⟩) n n,.int .i64 S.texts,.int .i64 S.least,.int .i64 S.most],.bool S.ok])) S:=by
 subst hl
 have hb:=(((Below.refl w.heap.size w).alloc (Nat.le_refl _) (.cells #[.slice (some ⟨w.heap.size+1+1,0,none⟩) S.ints.length S.ints.length,.int .i64 S.texts,.int .i64 S.least,.int .i64 S.most] 117)).alloc (by simp) o).alloc (by simp;omega) (.cells cs 3)
 refine ⟨_,rfl,?_,hb⟩
 have:=World.ownsRow_lit (base:=w.heap.size) (e:=3) (size:=1) ((w.alloc (.cells #[.slice (some ⟨w.heap.size+1+1,0,none⟩) S.ints.length S.ints.length,.int .i64 S.texts,.int .i64 S.least,.int .i64 S.most] 117)).alloc o) cs S.ints.length (by simp;omega) (by unfold maxLen;omega) (by rw [← Array.length_toList,hc];simp [iV])
 rw [hc] at this
 simpa [Ints] using this
theorem rs_nil (w:World) (S:Sp) (cs:Array Value) (o:Obj) (hl:S.ints=[]) :
  SpIs w ((w.alloc (.cells cs 117)).alloc o) (.returned (.tuple #[.agg #[.slice none 0 0,.int .i64 S.texts,.int .i64 S.least,.int .i64 S.most],.bool S.ok])) S:=by
 refine ⟨_,rfl,?_,((Below.refl w.heap.size w).alloc (Nat.le_refl _) _).alloc (by simp) o⟩
 rw [hl]
 exact ⟨rfl,.inl ⟨rfl,rfl⟩⟩
end Go.Proofs.YtgoffkfpdigeeaaGreatDoor
namespace Go.Proofs.YtgoffkfpdigeeaaGreatDoor
open Go.RowKit
set_option linter.unusedVariables false
theorem ret_b {a b:Bool} (h:a=b):Ending.returned (.bool a)=Ending.returned (.bool b):=by rw [h]
set_option maxRecDepth 10000 in
set_option maxHeartbeats 400000 in
theorem rin_1 (n:Int) (w:World) (h1 : -9223372036854775808≤n) (h2:n≤9223372036854775807) :
  Calls Tryz.prog 83 #[.int .i64 1,.int .i64 n] w fun e w'=>e=.returned (.bool (in7 1 n))∧w'=w:=by
 obtain ⟨b,HK⟩:∃b,Hid (in7 1 n=b):=⟨_,rfl⟩
 rw [HK.out]
 go_enter Tryz.func83,Tryz.ntmps83
 go_wp2_with fail
 all_goals go_ret
 all_goals refine ⟨?_,rfl⟩
 all_goals rw [← HK.out]
 all_goals refine ret_b ?_
 all_goals first|rfl|exact (decide_eq_true (by omega)).symm|exact (decide_eq_false (by omega)).symm|exact decide_eq_decide.2 (by omega)
set_option maxRecDepth 10000 in
set_option maxHeartbeats 400000 in
theorem rin_2 (n:Int) (w:World) (h1 : -9223372036854775808≤n) (h2:n≤9223372036854775807) :
  Calls Tryz.prog 83 #[.int .i64 2,.int .i64 n] w fun e w'=>e=.returned (.bool (in7 2 n))∧w'=w:=by
 obtain ⟨b,HK⟩:∃b,Hid (in7 2 n=b):=⟨_,rfl⟩
 rw [HK.out]
 go_enter Tryz.func83,Tryz.ntmps83
 go_wp2_with fail
 all_goals go_ret
 all_goals refine ⟨?_,rfl⟩
 all_goals rw [← HK.out]
 all_goals refine ret_b ?_
 all_goals first|rfl|exact (decide_eq_true (by omega)).symm|exact (decide_eq_false (by omega)).symm|exact decide_eq_decide.2 (by omega)
set_option maxRecDepth 10000 in
set_option maxHeartbeats 400000 in
theorem rin_3 (n:Int) (w:World) (h1 : -9223372036854775808≤n) (h2:n≤9223372036854775807) :
  Calls Tryz.prog 83 #[.int .i64 3,.int .i64 n] w fun e w'=>e=.returned (.bool (in7 3 n))∧w'=w:=by
 obtain ⟨b,HK⟩:∃b,Hid (in7 3 n=b):=⟨_,rfl⟩
 rw [HK.out]
 go_enter Tryz.func83,Tryz.ntmps83
 go_wp2_with fail
 all_goals go_ret
 all_goals refine ⟨?_,rfl⟩
 all_goals rw [← HK.out]
 all_goals refine ret_b ?_
 all_goals first|rfl|exact (decide_eq_true (by omega)).symm|exact (decide_eq_false (by omega)).symm|exact decide_eq_decide.2 (by omega)
set_option maxRecDepth 10000 in
set_option maxHeartbeats 400000 in
theorem rin_4 (n:Int) (w:World) (h1 : -9223372036854775808≤n) (h2:n≤9223372036854775807) :
  Calls Tryz.prog 83 #[.int .i64 4,.int .i64 n] w fun e w'=>e=.returned (.bool (in7 4 n))∧w'=w:=by
 obtain ⟨b,HK⟩:∃b,Hid (in7 4 n=b):=⟨_,rfl⟩
 rw [HK.out]
 go_enter Tryz.func83,Tryz.ntmps83
 go_wp2_with fail
 all_goals go_ret
 all_goals refine ⟨?_,rfl⟩
 all_goals rw [← HK.out]
 all_goals refine ret_b ?_
 all_goals first|rfl|exact (decide_eq_true (by omega)).symm|exact (decide_eq_false (by omega)).symm|exact decide_eq_decide.2 (by omega)
set_option maxRecDepth 10000 in
set_option maxHeartbeats 400000 in
theorem rin_5 (n:Int) (w:World) (h1 : -9223372036854775808≤n) (h2:n≤9223372036854775807) :
  Calls Tryz.prog 83 #[.int .i64 5,.int .i64 n] w fun e w'=>e=.returned (.bool (in7 5 n))∧w'=w:=by
 obtain ⟨b,HK⟩:∃b,Hid (in7 5 n=b):=⟨_,rfl⟩
 rw [HK.out]
 go_enter Tryz.func83,Tryz.ntmps83
 go_wp2_with fail
 all_goals go_ret
 all_goals refine ⟨?_,rfl⟩
 all_goals rw [← HK.out]
 all_goals refine ret_b ?_
 ·refine decide_eq_decide.2 ?_
  omega
 ·exact (decide_eq_false (by omega)).symm
 ·rename_i hq
  refine (decide_eq_false ?_).symm
  intro h
  apply hq
  rcases (by omega:n=0∨n=1) with rfl|rfl <;> decide +kernel
set_option maxRecDepth 10000 in
set_option maxHeartbeats 400000 in
theorem rin_no (c n:Int) (w:World) (h:c<1∨6≤c) :
  Calls Tryz.prog 83 #[.int .i64 c,.int .i64 n] w fun e w'=>e=.returned (.bool false)∧w'=w:=by
 have h1:¬c=1:=by omega
 have h2:¬c=2:=by omega
 have h3:¬c=3:=by omega
 have h4:¬c=4:=by omega
 have h5:¬c=5:=by omega
 clear h
 go_enter Tryz.func83,Tryz.ntmps83
 go_wp2_with fail
 go_ret
 exact ⟨rfl,rfl⟩
theorem rin_any (c n:Int) (w:World) (h1 : -9223372036854775808≤n) (h2:n≤9223372036854775807) :
  Calls Tryz.prog 83 #[.int .i64 c,.int .i64 n] w fun e w'=>e=.returned (.bool (in7 c n))∧w'=w:=by
 by_cases h:c<1∨6≤c
 ·rw [show in7 c n=false from decide_eq_false (by omega)]
  exact rin_no c n w h
 ·rcases (by omega:c=1∨c=2∨c=3∨c=4∨c=5) with rfl|rfl|rfl|rfl|rfl
  ·exact rin_1 n w h1 h2
  ·exact rin_2 n w h1 h2
  ·exact rin_3 n w h1 h2
  ·exact rin_4 n w h1 h2
  ·exact rin_5 n w h1 h2
end Go.Proofs.YtgoffkfpdigeeaaGreatDoor
