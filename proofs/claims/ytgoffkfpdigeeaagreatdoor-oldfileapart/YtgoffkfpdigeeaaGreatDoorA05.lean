import Derived.OpenShut
import Derived.ChangeArms
import Derived.LaidLaws
import Derived.LaidMore
import Derived.MakeChecks
import Derived.Below
import Derived.Test.YtgoffkfpdigeeaaGreatDoorA01
namespace Go.Proofs.YtgoffkfpdigeeaaGreatDoor
open Go.RowKit
def nz (l:List Int):List Int:=l.filter (fun z=>decide (z≠0))
theorem nz_snoc (l:List Int) (z:Int) (h:z≠0):nz (l++[z])=nz l++[z]:=by simp [nz,h]
theorem nz_zero (l:List Int):nz (l++[0])=nz l:=by simp [nz]
def Ints (w:World) (B:Nat) (v:Value) (l:List Int):Prop:=w.ownsRow B 3 1 v l.length (iV l)
structure MkSp (w wr:World) (t l m:Int) (v:Value) (L:List Int):Prop where
 a1:AtN 117 wr (w.heap.size+1) #[.slice none 0 0,.int .i64 0,.int .i64 0,.int .i64 0]
 a2:AtN 117 wr (w.heap.size+1+1) #[v,.int .i64 t,.int .i64 l,.int .i64 m]
 own:wr.ownsRow (w.heap.size+1+1+1) 3 1 v L.length (iV L)
 bel:Below w.heap.size w wr
set_option maxRecDepth 10000 in
set_option maxHeartbeats 400000 in
theorem spec_any (a0 a1 a2 a3 t l m:Int) (w:World) :
  Calls Tryz.prog 162 #[.agg #[.int .i64 a0,.int .i64 a1,.int .i64 a2,.int .i64 a3,.int .i64 t,.int .i64 l,.int .i64 m]] w fun e w'=>
   ∃v,e=.returned (.agg #[v,.int .i64 t,.int .i64 l,.int .i64 m])∧Ints w' (w.heap.size+1) v (nz [a0,a1,a2,a3])∧Below w.heap.size w w':=by
 obtain ⟨i0,hi,hz0,hz1,hz2⟩:=info_parts Tryz.infoI7
 go_enter Tryz.func162,Tryz.ntmps162
 go_wp2_with fail
 go_loopw [15] (fun iv wr=>∃(i:Nat) (v:Value),iv=.int .i64 i∧i≤4∧MkSp w wr t l m v (nz ([a0,a1,a2,a3].take i))) (fun iv _=>4-(intOf iv).toNat)
 case atStart=>
  refine ⟨0,.slice none 0 0,rfl,by omega,?_,?_,⟨rfl,.inl ⟨rfl,rfl⟩⟩,?_⟩
  ·exact mk_at ((AtN.new (w.alloc _) 117 _).alloc _) (by simp)
  ·exact mk_at (AtN.new ((w.alloc _).alloc _) 117 _) (by simp)
  ·exact (((Below.refl _ _).alloc (Nat.le_refl _) _).alloc (by simp) _).alloc (by simp;omega) _
 case round=>
  obtain ⟨i,v,rfl,hi4,hM⟩:=hrel
  obtain ⟨ao,cap,rfl⟩:=own_shape7 hM.own
  have c0:wr.cell? ⟨w.heap.size+1+1,0,none⟩=some (.slice ao (nz (List.take i [a0,a1,a2,a3])).length cap):=hM.a2.cell 0
  have c1:wr.cell? ⟨w.heap.size+1+1,1,none⟩=some (.int .i64 t):=hM.a2.cell 1
  have c2:wr.cell? ⟨w.heap.size+1+1,2,none⟩=some (.int .i64 l):=hM.a2.cell 2
  have c3:wr.cell? ⟨w.heap.size+1+1,3,none⟩=some (.int .i64 m):=hM.a2.cell 3
  have hw3:=hM.a2.lt
  by_cases he:i=4
  ·subst he
   have d0:wr.cell? ⟨w.heap.size+1,0,none⟩=some (.slice none 0 0):=hM.a1.cell 0
   have d1:wr.cell? ⟨w.heap.size+1,1,none⟩=some (.int .i64 0):=hM.a1.cell 1
   have d2:wr.cell? ⟨w.heap.size+1,2,none⟩=some (.int .i64 0):=hM.a1.cell 2
   have d3:wr.cell? ⟨w.heap.size+1,3,none⟩=some (.int .i64 0):=hM.a1.cell 3
   have f0:=hM.a1.fz 0
   have f1:=hM.a1.fz 1
   have f2:=hM.a1.fz 2
   have f3:=hM.a1.fz 3
   have HM:Hid _:=hM
   clear hM
   go_wp2_with fail
   have hM:=HM.out
   have hB:=hM.bel.size
   have o1:=own_mono (own_set (own_set (own_set (own_set hM.own ⟨w.heap.size+1,0,none⟩ (fun r hr=>by have:=(hM.own.lt r hr).1;dsimp only;omega) (.slice ao (nz [a0,a1,a2,a3]).length cap)) ⟨w.heap.size+1,1,none⟩ (fun r hr=>by have:=(hM.own.lt r hr).1;dsimp only;omega) (.int .i64 t)) ⟨w.heap.size+1,2,none⟩ (fun r hr=>by have:=(hM.own.lt r hr).1;dsimp only;omega) (.int .i64 l)) ⟨w.heap.size+1,3,none⟩ (fun r hr=>by have:=(hM.own.lt r hr).1;dsimp only;omega) (.int .i64 m)) (by omega:w.heap.size+1≤w.heap.size+1+1+1)
   have b1:=set_below (set_below (set_below (set_below hM.bel ⟨w.heap.size+1,0,none⟩ (by dsimp only;omega) (.slice ao (nz [a0,a1,a2,a3]).length cap)) ⟨w.heap.size+1,1,none⟩ (by dsimp only;omega) (.int .i64 t)) ⟨w.heap.size+1,2,none⟩ (by dsimp only;omega) (.int .i64 l)) ⟨w.heap.size+1,3,none⟩ (by dsimp only;omega) (.int .i64 m)
   exact bodyPost_ret (v:=.agg #[.slice ao (nz [a0,a1,a2,a3]).length cap,.int .i64 t,.int .i64 l,.int .i64 m]) (by simp [results,Tryz.results162,go_sem, *]) rfl ⟨_,rfl,o1,b1⟩
  ·obtain ⟨z,hz⟩:∃z,[a0,a1,a2,a3][i]? = some z:=by
    rcases (by omega:i=0∨i=1∨i=2∨i=3) with rfl|rfl|rfl|rfl <;> exact ⟨_,rfl⟩
   have hidx:∀W:World,(Instr.index 207 (.agg #[.int .i64 a0,.int .i64 a1,.int .i64 a2,.int .i64 a3]) (.int .i64 i)).run Tryz.prog W=.ok (.int .i64 z) W:=by
    intro W
    rcases (by omega:i=0∨i=1∨i=2∨i=3) with rfl|rfl|rfl|rfl <;> (cases hz;kernel_rfl)
   have hlt:(i:Int)<4:=by omega
   have HT:Hid ([a0,a1,a2,a3].take (i+1)=[a0,a1,a2,a3].take i++[z]):=by show _=_;rw [List.take_add_one,hz];rfl
   clear hz
   by_cases h0:z=0
   ·subst h0
    go_wp2_with fail
    go_roundw
    case rel=>exact ⟨i+1,_,by go_num,by omega,by rw [HT.out,nz_zero];exact hM⟩
    case measure=>simp [intOf];omega
   ·have hlen:(nz (List.take i [a0,a1,a2,a3])).length≤4:=Nat.le_trans (List.length_filter_le _ _) (by simp;omega)
    have HS:Hid (nz (List.take (i+1) [a0,a1,a2,a3])=nz (List.take i [a0,a1,a2,a3])++[z]):=by show _=_;rw [HT.out,nz_snoc _ _ h0]
    have HM:Hid _:=hM
    clear hM
    generalize nz (List.take i [a0,a1,a2,a3])=L at *
    go_wp2_with (at_builtin;refine wpList_append_lies _ rfl (.tmp 21) (.tmp 23) 49 rfl (w.heap.size+1+1+1) 3 i0 (.int .i64 0) 1 8 Tryz.underlying49 hi hz0 hz1 hz2 rfl (by decide) _ L.length (iV L) rfl (HM.out.own.alloc _) ⟨wr.heap.size,0,none⟩ 1 1 [.int .i64 z] rfl rfl (cell_one_new _ _ _) (by intro u hu;simp at hu;subst hu;rfl) (by decide) (by unfold maxLen;omega) (by omega) (by simp;omega) _ rfl ?_)
    intro g2 cap2 w2 hown2 hgrow2 hlie hlt2
    have hM:=HM.out
    have hrow:∀r,(Value.slice ao L.length cap).ownBlock=some r→w.heap.size+1+1+1≤r:=fun r hr=>(hM.own.lt r hr).1
    have n1:AtN 117 w2 (w.heap.size+1) #[.slice none 0 0,.int .i64 0,.int .i64 0,.int .i64 0]:=(hM.a1.alloc _).kept hgrow2 (fun e=>by have:=hrow _ e.symm;omega)
    have n2:AtN 117 w2 (w.heap.size+1+1) #[.slice ao L.length cap,.int .i64 t,.int .i64 l,.int .i64 m]:=(hM.a2.alloc _).kept hgrow2 (fun e=>by have:=hrow _ e.symm;omega)
    have e0:w2.cell? ⟨w.heap.size+1+1,0,none⟩=some (.slice ao L.length cap):=n2.cell 0
    have f0:=n2.fz 0
    have hg2:w.heap.size+1+1+1≤g2:=by
     rcases hlie with e|e
     ·exact hrow _ e
     ·omega
    have B2:Below w.heap.size w w2:=(hM.bel.alloc hM.bel.size _).grown hgrow2 (by have:=hM.bel.size;simp;omega) (fun k hk=>by have:=hrow k hk;omega)
    clear hgrow2 hM HM hlie hrow
    go_wp2_with fail
    go_roundw
    case rel=>
     refine ⟨i+1,.slice (some ⟨g2,0,none⟩) (L.length+1) cap2,by go_num,by omega,?_⟩
     rw [HS.out]
     exact ⟨n1.setOther _ (by dsimp only;omega) _,by simpa using n2.set 0 _,by simpa [iV] using own_set hown2 ⟨w.heap.size+1+1,0,none⟩ (fun r hr=>by simp [Value.ownBlock] at hr;dsimp only;omega) _,set_below B2 _ (by dsimp only;omega) _⟩
    case measure=>simp [intOf];omega
end Go.Proofs.YtgoffkfpdigeeaaGreatDoor
namespace Go.Proofs.YtgoffkfpdigeeaaGreatDoor
open Go Go.RowKit
def contig:Nat→List (Nat × Nat)→Nat→Bool
 | o,[],e=>o==e
 | o,(p,n) :: r,e=>p==o && contig (o+n) r e
def plainT (P:Program):Nat→TypeId→Bool
 | 0,_=>false
 | n+1,t=>
  match P.underlying t with
  | some (.int _)=>true
  | some .string=>true
  | some (.array k e)=>contig 0 ((List.range k).map fun i=>(i*P.cellsOf e,P.cellsOf e)) (P.cellsOf t) && plainT P n e
  | some (.struct fs)=>contig 0 (fs.toList.map fun f=>(f.offset,P.cellsOf f.type)) (P.cellsOf t) && fs.toList.all fun f=>plainT P n f.type
  | _=>false
def flat {H:Type}:Nat→DataW H→List Value
 | 0,_=>[]
 | _+1,.lit (.int k z)=>[.int k z]
 | _+1,.lit (.string b)=>[.string ⟨b.toArray⟩]
 | n+1,.agg ds=>ds.flatMap (flat n)
 | _+1,_=>[]
theorem glue {α : Type} (f : α→List Value) (cs:List Value):∀(offs:List (Nat × Nat)) (xs:List α) (o:Nat),xs.length=offs.length→contig o offs cs.length=true→
  (∀(i:Nat) (p n:Nat) (x : α),offs[i]? = some (p,n)→xs[i]? = some x→(cs.drop p).take n=f x)→cs.drop o=xs.flatMap f
 | [],[],o,_,hc,_=>by
  have:o=cs.length:=by simpa [contig] using hc
  subst this
  simp
 | (p,n) :: r,x :: xs,o,hl,hc,h=>by
  simp only [contig,Bool.and_eq_true,beq_iff_eq] at hc
  obtain ⟨rfl,hc⟩:=hc
  have h0:=h 0 p n x rfl rfl
  have ih:=glue f cs r xs (p+n) (by simpa using hl) hc (fun i q m y h1 h2=>h (i+1) q m y (by simpa using h1) (by simpa using h2))
  rw [List.flatMap_cons,← ih,← h0,← List.drop_drop,List.take_append_drop]
theorem flat_of {H:Type} {enc:TypeId × Value→H} {P:Program} {w:World} {base:Nat} {sp:Nat→Bool} {held:Bool}:∀(n:Nat) (t:TypeId) (cs:List Value) (fuel:Nat) (d:DataW H) (p:List MemPlace),
  plainT P n t=true→DataW.trod enc P w base sp held fuel t cs=some (d,p)→cs=flat n d
 | 0,_,_,_,_,_,ht,_=>by simp [plainT] at ht
 | n+1,t,cs,fuel,d,p,ht,h=>by
  unfold plainT at ht
  split at ht
  ·rename_i k hu
   obtain ⟨z,rfl,hx,_⟩:=DataW.trod_int hu h
   cases hx
   rfl
  ·rename_i hu
   obtain ⟨s,rfl,hx,_⟩:=DataW.trod_string hu h
   cases hx
   simp [flat]
  ·rename_i k e hu
   simp only [Bool.and_eq_true] at ht
   obtain ⟨xs,m,_,hx,hl,hxl,hel⟩:=DataW.trod_array hu h
   cases hx
   have:=glue (fun y:DataW H × List MemPlace=>flat n y.1) cs ((List.range k).map fun i=>(i*P.cellsOf e,P.cellsOf e)) xs 0 (by simp [hxl]) (by rw [hl];exact ht.1) (by
    intro i q r x h1 h2
    by_cases hi:i<k
    ·simp [hi] at h1
     obtain ⟨rfl,rfl⟩:=h1
     have:=hel i hi
     rw [h2] at this
     exact flat_of n e _ m x.1 x.2 ht.2 this
    ·simp [hi] at h1)
   simp only [List.drop_zero] at this
   rw [this]
   simp [flat,List.flatMap_map]
  ·rename_i fs hu
   simp only [Bool.and_eq_true] at ht
   obtain ⟨xs,m,_,hx,hl,hxl,hel⟩:=DataW.trod_struct hu h
   cases hx
   have:=glue (fun y:DataW H × List MemPlace=>flat n y.1) cs (fs.toList.map fun f=>(f.offset,P.cellsOf f.type)) xs 0 (by simp [hxl]) (by rw [hl];exact ht.1) (by
    intro i q r x h1 h2
    simp only [List.getElem?_map,Option.map_eq_some_iff,Prod.mk.injEq] at h1
    obtain ⟨f,hf,rfl,rfl⟩:=h1
    have:=hel i f (by simpa using hf)
    rw [h2] at this
    exact flat_of n f.type _ m x.1 x.2 (List.all_eq_true.1 ht.2 f (List.mem_of_getElem? hf)) this)
   simp only [List.drop_zero] at this
   rw [this]
   simp [flat,List.flatMap_map]
  ·cases ht
def TabAt (w:World) (g:Nat) (l:List Value):Prop:=g<w.heap.size∧∀i,w.cell? ⟨g,i,none⟩=l[i]?
theorem tab_of {P:Program} {W:World} {name:String} {g g':Nat} {t t':TypeId} {cs:Array Value} {fuel n:Nat} {d:DataW Unit} {p:List MemPlace} {enc:TypeId × Value→Unit} {base:Nat} {sp:Nat→Bool} {held:Bool}
  (hg:P.globalNamed name=some g) (hty:(P.globals[g]?).map (·.type)=some t) (hp:plainT P n t=true)
  (hg':P.globalNamed name=some g') (ht':(P.globals[g']?).map (·.type)=some t') (hv:W.var? P name=some cs) (hd:DataW.trod enc P W base sp held fuel t' cs.toList=some (d,p)):TabAt W g (flat n d):=by
 obtain rfl:=Option.some.inj (hg.symm.trans hg')
 obtain rfl:=Option.some.inj (hty.symm.trans ht')
 have hc:=flat_of n t _ _ _ _ hp hd
 refine ⟨?_,fun i=>?_⟩
 ·simp only [World.var?,hg,Option.bind_some] at hv
  split at hv
  ·rename_i hb;exact (Array.getElem?_eq_some_iff.1 hb).1
  ·cases hv
 ·rw [World.var?_cell hg hv i,← hc]
  simp
theorem TabAt.alloc {w:World} {g:Nat} {l:List Value} (h:TabAt w g l) (o:Obj) (i:Nat):(w.alloc o).cell? ⟨g,i,none⟩=l[i]? :=
 (((Below.refl w.heap.size w).alloc (Nat.le_refl _) o).cell (p:=⟨g,i,none⟩) h.1).trans (h.2 i)
theorem TabAt.below {w w':World} {g:Nat} {l:List Value} (h:TabAt w g l) (hb:Below w.heap.size w w'):TabAt w' g l:=
 ⟨Nat.lt_of_lt_of_le h.1 hb.size,fun i=>(hb.cell (p:=⟨g,i,none⟩) h.1).trans (h.2 i)⟩
end Go.Proofs.YtgoffkfpdigeeaaGreatDoor
namespace Go.Proofs.YtgoffkfpdigeeaaGreatDoor
open Go.RowKit
def kindsC:List Value:=iV [0,0,0,0,0,0,0,0,0,0,0,1,0,-1,2,2,2,0,0,1,1,3,3,3,0,1,0,0,3,0,0,0,1,0,0,3,0,0,0,2,0,0,1,0,0,0,0,0,-1,4,4,4,5,0,0,0,2,2,2,0,0,1,1]
def spansC:List Value:=iV [0,0,-9223372036854775808,9223372036854775807,-140737488355328,140737488355328,0,140737488355328,0,255,0,1]
structure Sp where
 ok:Bool
 ints:List Int
 texts:Int
 least:Int
 most:Int
def noSp:Sp:=⟨false,[],0,0,0⟩
def newSp (k:Int):Sp:=if k=1 then ⟨true,[],1,0,-1⟩ else if k=2∨k=8 then ⟨true,[2,2,2],0,1,1⟩ else if k=3 then ⟨true,[3,3,3],1,0,0⟩ else if k=4 then ⟨true,[3],1,0,0⟩
 else if k=5 then ⟨true,[3],2,0,0⟩ else if k=6 then ⟨true,[1],0,0,-1⟩ else if k=7 then ⟨true,[4,4,4,5],0,0,0⟩ else noSp
def SpIs (w w':World) (e:Ending) (S:Sp):Prop:=
 ∃v,e=.returned (.tuple #[.agg #[v,.int .i64 S.texts,.int .i64 S.least,.int .i64 S.most],.bool S.ok])∧Ints w' w.heap.size v S.ints∧Below w.heap.size w w'
theorem newSp_no (k:Int) (h:k<1∨9≤k):newSp k=noSp:=by
 unfold newSp
 rw [if_neg (by omega),if_neg (by omega),if_neg (by omega),if_neg (by omega),if_neg (by omega),if_neg (by omega),if_neg (by omega)]
set_option maxRecDepth 10000 in
set_option maxHeartbeats 400000 in
theorem new_no (k:Int) (w:World) (h:k<1∨9≤k) :
  Calls Tryz.prog 155 #[.int .i64 k] w fun e w'=>SpIs w w' e noSp:=by
 have HB:Hid _:=((Below.refl w.heap.size w).alloc (Nat.le_refl _) (Obj.cells #[Value.slice none 0 0,Value.int .i64 0,Value.int .i64 0,Value.int .i64 0] 117))
 go_enter Tryz.func155,Tryz.ntmps155
 rcases h with h|h
 ·go_wp2_with fail
  exact bodyPost_ret (v:=.tuple #[.agg #[.slice none 0 0,.int .i64 0,.int .i64 0,.int .i64 0],.bool false]) (by simp [results,Tryz.results155,go_sem, *]) rfl ⟨_,rfl,⟨rfl,.inl ⟨rfl,rfl⟩⟩,HB.out⟩
 ·have h':¬k<1:=by omega
  go_wp2_with fail
  exact bodyPost_ret (v:=.tuple #[.agg #[.slice none 0 0,.int .i64 0,.int .i64 0,.int .i64 0],.bool false]) (by simp [results,Tryz.results155,go_sem, *]) rfl ⟨_,rfl,⟨rfl,.inl ⟨rfl,rfl⟩⟩,HB.out⟩
set_option maxRecDepth 10000 in
set_option maxHeartbeats 400000 in
theorem new_in (k:Nat) (a0 a1 a2 a3 t l m:Int) (w:World) (h1:1≤k) (h2:k<9)
  (c0:∀o:Obj,(w.alloc o).cell? ⟨2,k*7,none⟩=some (.int .i64 a0)) (c1:∀o:Obj,(w.alloc o).cell? ⟨2,k*7+1,none⟩=some (.int .i64 a1)) (c2:∀o:Obj,(w.alloc o).cell? ⟨2,k*7+2,none⟩=some (.int .i64 a2))
  (c3:∀o:Obj,(w.alloc o).cell? ⟨2,k*7+3,none⟩=some (.int .i64 a3)) (c4:∀o:Obj,(w.alloc o).cell? ⟨2,k*7+4,none⟩=some (.int .i64 t)) (c5:∀o:Obj,(w.alloc o).cell? ⟨2,k*7+5,none⟩=some (.int .i64 l))
  (c6:∀o:Obj,(w.alloc o).cell? ⟨2,k*7+6,none⟩=some (.int .i64 m)) :
  Calls Tryz.prog 155 #[.int .i64 k] w fun e w'=>SpIs w w' e ⟨true,nz [a0,a1,a2,a3],t,l,m⟩:=by
 have k1:¬(k:Int)<1:=by omega
 have k2:¬(9:Int)≤k:=by omega
 have H:Hid _:=fun W=>spec_any a0 a1 a2 a3 t l m W
 go_enter Tryz.func155,Tryz.ntmps155
 go_wp2_with fail
 refine (H.out _).mono ?_
 rintro e w1 ⟨v,rfl,hI,hB⟩
 have n0:AtN 117 w1 w.heap.size #[.slice none 0 0,.int .i64 0,.int .i64 0,.int .i64 0]:=(AtN.new w 117 _).belowAll hB
 have d0:w1.cell? ⟨w.heap.size,0,none⟩=some (.slice none 0 0):=n0.cell 0
 have d1:w1.cell? ⟨w.heap.size,1,none⟩=some (.int .i64 0):=n0.cell 1
 have d2:w1.cell? ⟨w.heap.size,2,none⟩=some (.int .i64 0):=n0.cell 2
 have d3:w1.cell? ⟨w.heap.size,3,none⟩=some (.int .i64 0):=n0.cell 3
 have f0:=n0.fz 0
 have f1:=n0.fz 1
 have f2:=n0.fz 2
 have f3:=n0.fz 3
 obtain ⟨ao,cap,rfl⟩:=own_shape7 hI
 have hrow:∀r,(Value.slice ao (nz [a0,a1,a2,a3]).length cap).ownBlock=some r→r≠w.heap.size:=fun r hr=>by
  have:=(World.ownsRow.lt hI r hr).1
  simp at this
  omega
 have o1:Hid _:=own_mono (own_set (own_set (own_set (own_set hI ⟨w.heap.size,0,none⟩ hrow (.slice ao (nz [a0,a1,a2,a3]).length cap)) ⟨w.heap.size,1,none⟩ hrow (.int .i64 t)) ⟨w.heap.size,2,none⟩ hrow (.int .i64 l)) ⟨w.heap.size,3,none⟩ hrow (.int .i64 m)) (by simp;omega:w.heap.size≤_)
 have b0:Below w.heap.size w w1:=((Below.refl w.heap.size w).alloc (Nat.le_refl _) _).trans (hB.mono (by simp))
 have b1:Hid _:=set_below (set_below (set_below (set_below b0 ⟨w.heap.size,0,none⟩ (Nat.le_refl _) (.slice ao (nz [a0,a1,a2,a3]).length cap)) ⟨w.heap.size,1,none⟩ (Nat.le_refl _) (.int .i64 t)) ⟨w.heap.size,2,none⟩ (Nat.le_refl _) (.int .i64 l)) ⟨w.heap.size,3,none⟩ (Nat.le_refl _) (.int .i64 m)
 clear hI hB n0 b0
 go_wp2_with fail
 exact bodyPost_ret (v:=.tuple #[.agg #[.slice ao (nz [a0,a1,a2,a3]).length cap,.int .i64 t,.int .i64 l,.int .i64 m],.bool true]) (by simp [results,Tryz.results155,go_sem, *]) rfl ⟨_,rfl,o1.out,b1.out⟩
theorem new_any (k:Int) (w:World) (hT:TabAt w 2 kindsC) :
  Calls Tryz.prog 155 #[.int .i64 k] w fun e w'=>SpIs w w' e (newSp k):=by
 by_cases h:k<1∨9≤k
 ·rw [newSp_no k h]
  exact new_no k w h
 ·rcases (by omega:k=1∨k=2∨k=3∨k=4∨k=5∨k=6∨k=7∨k=8) with rfl|rfl|rfl|rfl|rfl|rfl|rfl|rfl
  ·exact new_in 1 (0) (0) (0) (0) (1) (0) (-1) w (by omega) (by omega) (fun o=>hT.alloc o 7) (fun o=>hT.alloc o 8) (fun o=>hT.alloc o 9) (fun o=>hT.alloc o 10) (fun o=>hT.alloc o 11) (fun o=>hT.alloc o 12) (fun o=>hT.alloc o 13)
  ·exact new_in 2 (2) (2) (2) (0) (0) (1) (1) w (by omega) (by omega) (fun o=>hT.alloc o 14) (fun o=>hT.alloc o 15) (fun o=>hT.alloc o 16) (fun o=>hT.alloc o 17) (fun o=>hT.alloc o 18) (fun o=>hT.alloc o 19) (fun o=>hT.alloc o 20)
  ·exact new_in 3 (3) (3) (3) (0) (1) (0) (0) w (by omega) (by omega) (fun o=>hT.alloc o 21) (fun o=>hT.alloc o 22) (fun o=>hT.alloc o 23) (fun o=>hT.alloc o 24) (fun o=>hT.alloc o 25) (fun o=>hT.alloc o 26) (fun o=>hT.alloc o 27)
  ·exact new_in 4 (3) (0) (0) (0) (1) (0) (0) w (by omega) (by omega) (fun o=>hT.alloc o 28) (fun o=>hT.alloc o 29) (fun o=>hT.alloc o 30) (fun o=>hT.alloc o 31) (fun o=>hT.alloc o 32) (fun o=>hT.alloc o 33) (fun o=>hT.alloc o 34)
  ·exact new_in 5 (3) (0) (0) (0) (2) (0) (0) w (by omega) (by omega) (fun o=>hT.alloc o 35) (fun o=>hT.alloc o 36) (fun o=>hT.alloc o 37) (fun o=>hT.alloc o 38) (fun o=>hT.alloc o 39) (fun o=>hT.alloc o 40) (fun o=>hT.alloc o 41)
  ·exact new_in 6 (1) (0) (0) (0) (0) (0) (-1) w (by omega) (by omega) (fun o=>hT.alloc o 42) (fun o=>hT.alloc o 43) (fun o=>hT.alloc o 44) (fun o=>hT.alloc o 45) (fun o=>hT.alloc o 46) (fun o=>hT.alloc o 47) (fun o=>hT.alloc o 48)
  ·exact new_in 7 (4) (4) (4) (5) (0) (0) (0) w (by omega) (by omega) (fun o=>hT.alloc o 49) (fun o=>hT.alloc o 50) (fun o=>hT.alloc o 51) (fun o=>hT.alloc o 52) (fun o=>hT.alloc o 53) (fun o=>hT.alloc o 54) (fun o=>hT.alloc o 55)
  ·exact new_in 8 (2) (2) (2) (0) (0) (1) (1) w (by omega) (by omega) (fun o=>hT.alloc o 56) (fun o=>hT.alloc o 57) (fun o=>hT.alloc o 58) (fun o=>hT.alloc o 59) (fun o=>hT.alloc o 60) (fun o=>hT.alloc o 61) (fun o=>hT.alloc o 62)
end Go.Proofs.YtgoffkfpdigeeaaGreatDoor
namespace Go.Proofs.YtgoffkfpdigeeaaGreatDoor
open Go.RowKit
def in7 (c n:Int):Bool:=decide (c=1∨c=2∧-140737488355328≤n∧n≤140737488355328∨c=3∧0≤n∧n≤140737488355328∨c=4∧0≤n∧n≤255∨c=5∧0≤n∧n≤1)
set_option maxRecDepth 10000 in
set_option maxHeartbeats 400000 in
theorem in_no (c n:Int) (w:World) (h:c<1∨6≤c) :
  Calls Tryz.prog 150 #[.int .i64 c,.int .i64 n] w fun e w'=>e=.returned (.bool false)∧w'=w:=by
 go_enter Tryz.func150,Tryz.ntmps150
 rcases h with h|h
 ·go_wp2_with fail
  go_ret
  exact ⟨rfl,rfl⟩
 ·have h':¬c<1:=by omega
  go_wp2_with fail
  go_ret
  exact ⟨rfl,rfl⟩
set_option maxRecDepth 10000 in
set_option maxHeartbeats 400000 in
theorem in_in (c:Nat) (n lo hi:Int) (w:World) (h1:1≤c) (h2:c<6) (c0:w.cell? ⟨1,c*2,none⟩=some (.int .i64 lo)) (c1:w.cell? ⟨1,c*2+1,none⟩=some (.int .i64 hi)) :
  Calls Tryz.prog 150 #[.int .i64 c,.int .i64 n] w fun e w'=>e=.returned (.bool (decide (lo≤n∧n≤hi)))∧w'=w:=by
 have k1:¬(c:Int)<1:=by omega
 have k2:¬(6:Int)≤c:=by omega
 by_cases q1:lo≤n
 ·by_cases q2:n≤hi
  ·rw [decide_eq_true ⟨q1,q2⟩]
   go_enter Tryz.func150,Tryz.ntmps150
   go_wp2_with fail
   go_ret
   exact ⟨rfl,rfl⟩
  ·rw [decide_eq_false (fun h=>q2 h.2)]
   go_enter Tryz.func150,Tryz.ntmps150
   go_wp2_with fail
   go_ret
   exact ⟨rfl,rfl⟩
 ·rw [decide_eq_false (fun h=>q1 h.1)]
  go_enter Tryz.func150,Tryz.ntmps150
  go_wp2_with fail
  go_ret
  exact ⟨rfl,rfl⟩
theorem in_any (c n:Int) (w:World) (hT:TabAt w 1 spansC) (h1 : -9223372036854775808≤n) (h2:n≤9223372036854775807) :
  Calls Tryz.prog 150 #[.int .i64 c,.int .i64 n] w fun e w'=>e=.returned (.bool (in7 c n))∧w'=w:=by
 by_cases h:c<1∨6≤c
 ·rw [show in7 c n=false from decide_eq_false (by omega)]
  exact in_no c n w h
 ·rcases (by omega:c=1∨c=2∨c=3∨c=4∨c=5) with rfl|rfl|rfl|rfl|rfl
  ·rw [show in7 1 n=decide (-9223372036854775808≤n∧n≤9223372036854775807) from decide_eq_decide.2 (by omega)]
   exact in_in 1 n _ _ w (by omega) (by omega) (hT.2 2) (hT.2 3)
  ·rw [show in7 2 n=decide (-140737488355328≤n∧n≤140737488355328) from decide_eq_decide.2 (by omega)]
   exact in_in 2 n _ _ w (by omega) (by omega) (hT.2 4) (hT.2 5)
  ·rw [show in7 3 n=decide (0≤n∧n≤140737488355328) from decide_eq_decide.2 (by omega)]
   exact in_in 3 n _ _ w (by omega) (by omega) (hT.2 6) (hT.2 7)
  ·rw [show in7 4 n=decide (0≤n∧n≤255) from decide_eq_decide.2 (by omega)]
   exact in_in 4 n _ _ w (by omega) (by omega) (hT.2 8) (hT.2 9)
  ·rw [show in7 5 n=decide (0≤n∧n≤1) from decide_eq_decide.2 (by omega)]
   exact in_in 5 n _ _ w (by omega) (by omega) (hT.2 10) (hT.2 11)
end Go.Proofs.YtgoffkfpdigeeaaGreatDoor
namespace Go.Proofs.YtgoffkfpdigeeaaGreatDoor
open Go.RowKit
end Go.Proofs.YtgoffkfpdigeeaaGreatDoor
namespace Go.Proofs.YtgoffkfpdigeeaaGreatDoor
open Go.RowKit
set_option linter.unusedVariables false
end Go.Proofs.YtgoffkfpdigeeaaGreatDoor
