import Derived.Maps.OwnSet
import Derived.Maps.OwnOps
import Derived.Maps.Views
import Derived.StringKeys
import Derived.Test.YtcgjgjjegnofeaaGreatDoorPC08
import Derived.Test.YtcgjgjjegnofeaaGreatDoorPC04
import Derived.Test.YtcgjgjjegnofeaaGreatDoorPC10
import Derived.Test.YtcgjgjjegnofeaaGreatDoorRows
import Derived.Lib.Builder
import Derived.Lib.OthersKept
import Derived.Lib.AppendStr
import Derived.Lib.UnsafeStr
namespace Go.Proofs.YtcgjgjjegnofeaaGreatDoor
open Go.RowKit Go.Maps Go.WideMaps
def kS (s:ByteArray):Lit:=.string s.data.toList
theorem lawS6:Keyed Tryz.prog 9:=string_keyed Tryz.underlying9
theorem kS_key (s:ByteArray) (h:s.size≤maxLen):keyOf Tryz.prog 9 (.string s)=some (kS s):=keyOf_string_mk Tryz.underlying9 h
theorem kS_ne {s t:ByteArray} (h:s≠t):kS s≠kS t:=by
 intro e
 unfold kS at e
 injection e with e
 apply h
 cases s;cases t
 simp at e
 rw [e]
theorem kS_is (s:ByteArray):WideAt.IsKeyLit (kS s):=trivial
end Go.Proofs.YtcgjgjjegnofeaaGreatDoor
namespace Go.Proofs.YtcgjgjjegnofeaaGreatDoor
open Go.RowKit Go.Maps Go.WideMaps
theorem TextAt.fr {S:Nat→Prop} {w w':World} {b o:Nat} {L:List ByteArray} (h:TextAt w b o L) (k:Fr S w w') (hb:¬S b):TextAt w' b o L:=fun i hi=>by
 obtain ⟨h1,h2⟩:=h i hi
 exact ⟨Nat.lt_of_lt_of_le h1 k.size,(World.cell?_of_block (k.block b h1 hb)).trans h2⟩
theorem At3.fr {S:Nat→Prop} {T:TypeId} {w w':World} {g:Nat} {x y z:Value} (h:At3 T w g x y z) (k:Fr S w w') (hb:¬S g):At3 T w' g x y z:=by
 unfold At3
 rw [k.block g h.lt hb]
 exact h
theorem zeroI6 (w:World):(zeroValue 3).run Tryz.prog w=.ok (.int .i64 0) w:=by kernel_rfl
def iE (n:Int):DataW Unit:=.lit (.int .i64 n)
def NumsIs (D:DataW Unit) (L:List ByteArray):Prop:=
 IsMap D∧∀s:ByteArray,Maps.has D (kS s)=decide (idx6 s L<L.length)∧(idx6 s L<L.length→D.atKey (kS s) (iE 0)=iE (idx6 s L:Nat))
theorem NumsIs.none:NumsIs (.map []) []:=⟨isMap_empty,fun s=>⟨rfl,fun h=>by simp at h⟩⟩
theorem idx6_snoc (L:List ByteArray) (s t:ByteArray) (h:s≠t):idx6 t (L++[s])=if idx6 t L<L.length then idx6 t L else L.length+1:=by
 by_cases e:idx6 t L<L.length
 ·rw [if_pos e,idx6_append t L [s] e]
 ·rw [if_neg e]
  have hn:∀j (hj:j<(L++[s]).length),(L++[s])[j]≠t:=by
   intro j hj q
   have hm:t ∈ L++[s]:=q ▸ List.getElem_mem hj
   rcases List.mem_append.1 hm with hm|hm
   ·exact e ((idx6_mem t L).2 hm)
   ·simp at hm
    exact h hm.symm
  rw [idx6_no t _ hn]
  simp
theorem NumsIs.snoc {D:DataW Unit} {L:List ByteArray} (h:NumsIs D L) (s:ByteArray) (hs:¬idx6 s L<L.length):NumsIs (D.put (kS s) (iE (L.length:Nat))) (L++[s]):=by
 obtain ⟨hm,h⟩:=h
 refine ⟨hm.put _ _,fun t=>?_⟩
 by_cases e:s=t
 ·subst e
  have hi:idx6 s (L++[s])=L.length:=by
   have:=(pIntern_idx L s).2
   rw [show pIntern L s=L++[s] from if_neg hs] at this
   have hle:=idx6_le s L
   omega
  refine ⟨?_,fun _=>?_⟩
  ·rw [has_put_same hm (kS_is s)]
   simp [hi]
  ·rw [atKey_put_same hm (kS_is s),hi]
 ·have hi:=idx6_snoc L s t e
  obtain ⟨h1,h2⟩:=h t
  have hle:=idx6_le t L
  rw [has_put_other (kS_ne (fun q=>e q.symm)),h1]
  by_cases q:idx6 t L<L.length
  ·rw [if_pos q] at hi
   refine ⟨by rw [hi,decide_eq_true q,decide_eq_true (by simp;omega)],fun _=>?_⟩
   rw [atKey_put_other (kS_ne (fun q=>e q.symm)),h2 q,hi]
  ·rw [if_neg q] at hi
   refine ⟨by rw [hi,decide_eq_false q,decide_eq_false (by simp)],fun r=>?_⟩
   rw [hi] at r
   simp at r
structure Tb (w:World) (B g gm:Nat) (v:Value) (L:List ByteArray):Prop where
 cells:At3 161 w g v (.map (some gm)) (.int .i64 (sum6 L:Nat))
 own:w.ownsRow B 9 1 v L.length (tV L)
 map:∃D,w.ownsMap Tryz.prog 9 (plainElem Tryz.prog 3) gm L.length D∧NumsIs D L
 baseG:B≤g
 baseM:B≤gm
 gm_ne:gm≠g
 row_g:v.ownBlock≠some g
 row_m:v.ownBlock≠some gm
def TbS (g gm:Nat) (v:Value) (k:Nat):Prop:=k=g∨k=gm∨v.ownBlock=some k
theorem Tb.ge {w:World} {B g gm:Nat} {v:Value} {L:List ByteArray} (h:Tb w B g gm v L):∀k,TbS g gm v k→B≤k:=by
 intro k hk
 rcases hk with rfl|rfl|hk
 ·exact h.baseG
 ·exact h.baseM
 ·exact (h.own.lt k hk).1
theorem Tb.lt {w:World} {B g gm:Nat} {v:Value} {L:List ByteArray} (h:Tb w B g gm v L):∀k,TbS g gm v k→k<w.heap.size:=by
 intro k hk
 rcases hk with rfl|rfl|hk
 ·exact h.cells.lt
 ·obtain ⟨D,h1,_⟩:=h.map;exact h1.lt
 ·exact (h.own.lt k hk).2
theorem Tb.fr {S:Nat→Prop} {w w':World} {B g gm:Nat} {v:Value} {L:List ByteArray} (h:Tb w B g gm v L) (k:Fr S w w') (hs:∀i,TbS g gm v i→¬S i):Tb w' B g gm v L:=by
 obtain ⟨D,h1,h2⟩:=h.map
 exact ⟨h.cells.fr k (hs g (.inl rfl)),own_fr h.own k (fun r hr=>hs r (.inr (.inr hr))),⟨D,map_fr h1 k (hs gm (.inr (.inl rfl))),h2⟩,h.baseG,h.baseM,h.gm_ne,h.row_g,h.row_m⟩
theorem Tb.below {w w':World} {B g gm:Nat} {v:Value} {L:List ByteArray} (h:Tb w B g gm v L) (k:Below w.heap.size w w'):Tb w' B g gm v L:=h.fr (Fr.of_below (S:=fun _=>False) k) (fun _ _ q=>q)
theorem Tb.drewN {w:World} {B g gm:Nat} {v:Value} {L:List ByteArray} (h:Tb w B g gm v L) (n:Nat):Tb (w.drewN n) B g gm v L:=⟨h.cells,h.own,h.map,h.baseG,h.baseM,h.gm_ne,h.row_g,h.row_m⟩
theorem Tb.mono {w:World} {B C g gm:Nat} {v:Value} {L:List ByteArray} (h:Tb w B g gm v L) (hc:C≤B):Tb w C g gm v L:=by
 refine ⟨h.cells,⟨h.own.1,?_⟩,h.map,Nat.le_trans hc h.baseG,Nat.le_trans hc h.baseM,h.gm_ne,h.row_g,h.row_m⟩
 rcases h.own.2 with hv|⟨g,cap,cur,hv,h1,r⟩
 ·exact .inl hv
 ·exact .inr ⟨g,cap,cur,hv,Nat.le_trans hc h1,r⟩
set_option maxRecDepth 10000 in
set_option maxHeartbeats 400000 in
theorem tnew_any (w:World) :
  Calls Tryz.prog 62 #[] w fun e w'=>e=.returned (.pointer (some ⟨w.heap.size+1,0,none⟩))∧Tb w' w.heap.size (w.heap.size+1) w.heap.size (.slice none 0 0) []∧Below w.heap.size w w':=by
 have hmm:=@run_makeMap Tryz.prog
 go_enter Tryz.func62,Tryz.ntmps62
 go_wp2
 go_ret
 have hm:=World.ownsMap_made w Tryz.prog 9 (plainElem (H:=Unit) Tryz.prog 3)
 have ha:=At3.new (w.alloc (.map #[] 0)) 161 (.slice none 0 0) (.map (some w.heap.size)) (.int .i64 0)
 rw [show (w.alloc (.map #[] 0)).heap.size=w.heap.size+1 by simp] at ha
 refine ⟨rfl,⟨ha,⟨rfl,.inl ⟨rfl,rfl⟩⟩,⟨_,hm.alloc _,NumsIs.none⟩,by omega,Nat.le_refl _,by omega,by simp [Value.ownBlock],by simp [Value.ownBlock]⟩,((Below.refl _ _).alloc (Nat.le_refl _) _).alloc (by simp) _⟩
set_option maxRecDepth 10000 in
set_option maxHeartbeats 400000 in
theorem tlen_any {w:World} {B g gm:Nat} {v:Value} {L:List ByteArray} (h:Tb w B g gm v L) :
  Calls Tryz.prog 125 #[.pointer (some ⟨g,0,none⟩)] w fun e w'=>e=.returned (.int .i64 (L.length:Nat))∧w'=w:=by
 obtain ⟨ao,cap,rfl⟩:=own_shape6 h.own
 have c0:=h.cells.c0
 go_enter Tryz.func125,Tryz.ntmps125
 go_wp2
 go_ret
 exact ⟨rfl,rfl⟩
set_option maxRecDepth 10000 in
set_option maxHeartbeats 400000 in
theorem tat_in {w:World} {B g gm:Nat} {v:Value} {L:List ByteArray} (h:Tb w B g gm v L) (n:Nat) (hn:n<L.length) :
  Calls Tryz.prog 175 #[.pointer (some ⟨g,0,none⟩),.int .i64 n] w fun e w'=>e=.returned (.tuple #[.string (L[n]'hn),.bool true])∧w'=w:=by
 obtain ⟨ao,cap,rfl⟩:=own_shape6 h.own
 have hown:=h.own
 obtain ⟨gk,hga,hgt⟩:=own_texts hown rfl
 obtain rfl:=hga (by omega)
 have c0:=h.cells.c0
 obtain ⟨hlt,d0⟩:=hgt n hn
 rw [Nat.zero_add] at d0
 have hn':(n:Int)<L.length:=by omega
 generalize L[n]=s at *
 clear hown hgt
 go_enter Tryz.func175,Tryz.ntmps175
 go_wp2
 go_ret2
 exact ⟨rfl,rfl⟩
set_option maxRecDepth 10000 in
set_option maxHeartbeats 400000 in
theorem tat_out {w:World} {B g gm:Nat} {v:Value} {L:List ByteArray} (h:Tb w B g gm v L) (n:Int) (hn:n<0∨(L.length:Int)≤n) :
  Calls Tryz.prog 175 #[.pointer (some ⟨g,0,none⟩),.int .i64 n] w fun e w'=>e=.returned (.tuple #[.string ⟨#[]⟩,.bool false])∧w'=w:=by
 obtain ⟨ao,cap,rfl⟩:=own_shape6 h.own
 have c0:=h.cells.c0
 rcases hn with hn|hn
 ·go_enter Tryz.func175,Tryz.ntmps175
  go_wp2
  go_ret2
  exact ⟨rfl,rfl⟩
 ·by_cases h0:n<0
  ·go_enter Tryz.func175,Tryz.ntmps175
   go_wp2
   go_ret2
   exact ⟨rfl,rfl⟩
  ·go_enter Tryz.func175,Tryz.ntmps175
   go_wp2
   go_ret2
   exact ⟨rfl,rfl⟩
theorem At3.set0 {T:TypeId} {w:World} {g:Nat} {x y z:Value} (h:At3 T w g x y z) (v:Value):At3 T (w.setCell ⟨g,0,none⟩ v) g v y z:=by
 have h':w.heap[g]? = _:=h
 unfold At3 World.setCell
 simp [Array.getElem?_modify,h']
set_option maxRecDepth 10000 in
set_option maxHeartbeats 400000 in
theorem tadd_any {w:World} {B g gm:Nat} {v:Value} {L:List ByteArray} (h:Tb w B g gm v L) (s:ByteArray) (hx:¬idx6 s L<L.length) (hs:s.size≤1000000000) (hl:L.length≤1000000) (hm:sum6 L≤1000000000) :
  Calls Tryz.prog 148 #[.pointer (some ⟨g,0,none⟩),.string s] w fun e w'=>e=.returned (.int .i64 (L.length:Nat))∧
   ∃v',Tb w' B g gm v' (L++[s])∧Fr (TbS g gm v) w w'∧∀k,TbS g gm v' k→TbS g gm v k∨w.heap.size≤k:=by
 obtain ⟨ao,cap,rfl⟩:=own_shape6 h.own
 obtain ⟨i0,hi,hz0,hz1,hz2⟩:=info_parts Tryz.infoS6
 have c0:=h.cells.c0
 obtain ⟨D,hmap,HD⟩:=h.map
 have HD':Hid (NumsIs (D.put (kS s) (iE (L.length:Nat))) (L++[s])):=HD.snoc s hx
 have hkey:=kS_key s (by unfold maxLen;omega)
 have hwf:(Lit.int .i64 (L.length:Nat)).wf=true:=WalkArith.wf_i64 (by omega)
 have HS:Hid (sum6 (L++[s])=sum6 L+s.size):=by show _=_;rw [sum6_append];simp [sum6]
 clear HD hx
 go_enter Tryz.func148,Tryz.ntmps148
 go_wp2_with (at_builtin;refine wpList_append_lies _ rfl (.tmp 15) (.tmp 17) 59 rfl B 9 i0 (.string ⟨#[]⟩) 1 16 Tryz.underlying59 hi hz0 hz1 hz2 rfl (by decide) _ L.length (tV L) rfl (h.own.alloc _) ⟨w.heap.size,0,none⟩ 1 1 [.string s] rfl rfl (cell_one_new _ _ _) (by intro u hu;simp at hu;subst hu;rfl) (by decide) (by unfold maxLen;omega) (by omega) (by have:=h.baseG;have:=h.cells.lt;simp;omega) _ rfl ?_)
 intro g2 cap2 w2 hown2 hgrow2 hlie hlt2
 have a2:=(h.cells.alloc (.cells #[.string s] 9)).kept hgrow2 (fun e=>h.row_g e.symm)
 have m2:=(hmap.alloc (.cells #[.string s] 9)).kept hgrow2 (fun e=>h.row_m e.symm)
 have d0:=a2.c0
 have f0:=a2.fz 0
 have g2g:g2≠g:=by
  have h1:=h.cells.lt
  rcases hlie with e|e
  ·intro q;subst q;exact h.row_g e
  ·omega
 have g2m:g2≠gm:=by
  have h1:=hmap.lt
  rcases hlie with e|e
  ·intro q;subst q;exact h.row_m e
  ·omega
 have a3:=a2.set0 (.slice (some ⟨g2,0,none⟩) (L.length+1) cap2)
 have m3:=m2.setCell (a:=⟨g,0,none⟩) h.gm_ne (.slice (some ⟨g2,0,none⟩) (L.length+1) cap2)
 have o3:(w2.setCell ⟨g,0,none⟩ (.slice (some ⟨g2,0,none⟩) (L.length+1) cap2)).ownsRow B 9 1 (.slice (some ⟨g2,0,none⟩) (L.length+1) cap2) (L.length+1) (tV L++[.string s]):=own_fr hown2 ((Fr.refl (fun k=>k=g) w2).set ⟨g,0,none⟩ rfl _) (fun r hr=>by simp [Value.ownBlock] at hr;omega)
 have F3:Fr (TbS g gm (.slice ao L.length cap)) w (w2.setCell ⟨g,0,none⟩ (.slice (some ⟨g2,0,none⟩) (L.length+1) cap2)):=
  ((Fr.of_below ((Below.refl _ _).alloc (Nat.le_refl _) (.cells #[.string s] 9))).trans (Fr.of_grown hgrow2 (fun k hk=>.inr (.inr hk))) (fun _ q _=>q)).set ⟨g,0,none⟩ (.inl rfl) _
 have d1:=a2.c1
 clear a2 m2 hown2 hgrow2
 go_wp2_with (at_mapUpdate;refine wpList_mapUpdate_own _ rfl _ _ _ 159 rfl 9 3 lawS6 Tryz.underlying159 _ gm L.length D rfl m3 (by unfold maxLen;omega) _ _ _ rfl rfl hkey _ [] (plainElem_int Tryz.underlying3 hwf) ?_)
 intro w4 m4 hgrow4
 have a4:=a3.kept hgrow4 (by simp;exact fun e=>h.gm_ne e.symm)
 have d2:=a4.c2
 have f2:=a4.fz 2
 have o4:=own_fr o3 (Fr.of_grown (S:=fun k=>k=gm) hgrow4 (fun k hk=>by cases hk;rfl)) (fun r hr=>by simp [Value.ownBlock] at hr;omega)
 have F4:=F3.trans (Fr.of_grown (S:=fun k=>k=gm) hgrow4 (fun k hk=>by cases hk;rfl)) (fun i hi _=>.inr (.inl hi))
 have B4:=F4.size
 clear a3 m3 o3 F3 d0 d1 f0 hgrow4
 go_wp2_with fail
 go_ret
 have hlen:(L++[s]).length=L.length+1:=by simp
 refine ⟨rfl,.slice (some ⟨g2,0,none⟩) (L.length+1) cap2,⟨?_,?_,⟨_,?_,HD'.out⟩,h.baseG,h.baseM,h.gm_ne,by simp [Value.ownBlock];exact g2g,by simp [Value.ownBlock];exact g2m⟩,F4.set ⟨g,2,none⟩ (.inl rfl) _,?_⟩
 ·rw [HS.out]
  exact a4.set2 _
 ·rw [hlen]
  have:=own_fr o4 ((Fr.refl (fun k=>k=g) w4).set ⟨g,2,none⟩ rfl (.int .i64 ((sum6 L:Nat)+(s.size:Int)))) (fun r hr=>by simp [Value.ownBlock] at hr;omega)
  simpa [tV] using this
 ·rw [hlen]
  exact m4.setCell (a:=⟨g,2,none⟩) h.gm_ne _
 ·intro k hk
  rcases hk with rfl|rfl|hk
  ·exact .inl (.inl rfl)
  ·exact .inl (.inr (.inl rfl))
  ·simp [Value.ownBlock] at hk
   subst hk
   rcases hlie with e|e
   ·exact .inl (.inr (.inr e))
   ·exact .inr (by omega)
def TIn (w w':World) (B g gm:Nat) (v:Value) (L:List ByteArray):Prop:=
 ∃v',Tb w' B g gm v' L∧Fr (TbS g gm v) w w'∧∀k,TbS g gm v' k→TbS g gm v k∨w.heap.size≤k
set_option maxRecDepth 10000 in
set_option maxHeartbeats 400000 in
theorem tintern_any {w:World} {B g gm:Nat} {v:Value} {L:List ByteArray} (h:Tb w B g gm v L) (s:ByteArray) (hs:s.size≤1000000000) (hl:L.length≤1000000) (hm:sum6 L≤1000000000) :
  Calls Tryz.prog 118 #[.pointer (some ⟨g,0,none⟩),.string s] w fun e w'=>e=.returned (.int .i64 (idx6 s L:Nat))∧TIn w w' B g gm v (pIntern L s):=by
 have c1:=h.cells.c1
 obtain ⟨D,hmap,HD⟩:=h.map
 obtain ⟨h1,h2⟩:=HD.2 s
 have hkey:=kS_key s (by unfold maxLen;omega)
 by_cases hx:idx6 s L<L.length
 ·rw [decide_eq_true hx] at h1
  have h3:Hid _:=h2 hx
  rw [show pIntern L s=L from if_pos hx]
  clear h2 HD
  go_enter Tryz.func118,Tryz.ntmps118
  go_wp2_with (at_lookup;refine wpList_lookup_own_ok_int _ rfl _ _ 159 rfl 9 3 .i64 lawS6 Tryz.underlying159 Tryz.underlying3 (zeroI6 _) gm L.length D rfl hmap _ _ rfl hkey ?_;intro c hat hwc;obtain rfl:c=(idx6 s L:Nat):=by (have:=hat.symm.trans h3.out;injection this with this;injection this))
  go_ret
  exact ⟨rfl,v,h,Fr.refl _ _,fun k hk=>.inl hk⟩
 ·rw [decide_eq_false hx] at h1
  have hle:=idx6_le s L
  rw [show pIntern L s=L++[s] from if_neg hx,show idx6 s L=L.length by omega]
  have HA:Hid (∀w',Below w.heap.size w w'→Calls Tryz.prog 148 #[.pointer (some ⟨g,0,none⟩),.string s] w' fun e w''=>e=.returned (.int .i64 (L.length:Nat))∧TIn w' w'' B g gm v (L++[s])):=fun w' hb=>tadd_any (h.below hb) s hx hs hl hm
  clear h2 HD hx hle
  go_enter Tryz.func118,Tryz.ntmps118
  go_wp2_with (at_lookup;refine wpList_lookup_own_ok_int _ rfl _ _ 159 rfl 9 3 .i64 lawS6 Tryz.underlying159 Tryz.underlying3 (zeroI6 _) gm L.length D rfl hmap _ _ rfl hkey ?_;intro c hat hwc;clear hat)
  refine (clone_any s _ (by omega)).mono ?_
  rintro e w1 ⟨rfl,hb⟩
  go_wp2_with fail
  refine (HA.out w1 hb).mono ?_
  rintro e w2 ⟨rfl,v',ht,hf,hn⟩
  go_wp2_with fail
  go_ret
  refine ⟨rfl,v',ht,(Fr.of_below hb).trans hf (fun _ q _=>q),fun k hk=>(hn k hk).imp id (fun q=>Nat.le_trans hb.size q)⟩
end Go.Proofs.YtcgjgjjegnofeaaGreatDoor
namespace Go.Proofs.YtcgjgjjegnofeaaGreatDoor
open Go.RowKit
theorem Tryz.infoB:(Tryz.prog.info? 102).map (fun i=>i.size)=some 2:=by kernel_rfl
theorem Tryz.infoU:(Tryz.prog.info? 5).map (fun i=>(i.zero,i.size,i.bytes))=some (some (.int .u8 0),1,1):=by kernel_rfl
theorem Tryz.liesB:liesAt Tryz.prog Tryz.prog.depth 102 (2 / Tryz.prog.cellsOf 102) 0 102 1=true:=by kernel_rfl
def Bu (B g:Nat) (l:List UInt8) (w:World):Prop:=Lib.IsBuilder 102 5 B g (bV l) w
def Kept (g:Nat) (w w':World):Prop:=Lib.OthersKept 5 (some g) w w'
theorem buAt_below {B g:Nat} {p:Value} {bs:List Value} {w w':World} (h:Lib.BuilderAt 102 5 B g p bs w) (hb:Below w.heap.size w w'):Lib.BuilderAt 102 5 B g p bs w':=by
 obtain ⟨hB,v,hg,hown,hne⟩:=h
 have hlt:g<w.heap.size:=(Array.getElem?_eq_some_iff.1 hg).1
 refine ⟨hB,v,(hb.block g hlt).trans hg,hown.kept (gbelow (row:=none) hb) ?_,hne⟩
 cases h:v.ownBlock
 ·exact .inl rfl
 ·exact .inr (by simp)
theorem Bu.below {B g:Nat} {l:List UInt8} {w w':World} (h:Bu B g l w) (hb:Below w.heap.size w w'):Bu B g l w':=by
 rcases h with h|h
 ·exact .inl (buAt_below h hb)
 ·exact .inr (buAt_below h hb)
theorem Bu.alloc {B g:Nat} {l:List UInt8} {w:World} (h:Bu B g l w) (o:Obj):Bu B g l (w.alloc o):=h.below ((Below.refl _ _).alloc (Nat.le_refl _) o)
theorem Bu.new (w:World):Bu w.heap.size w.heap.size [] (w.alloc (.cells #[.pointer none,.slice none 0 0] 102)):=Lib.fresh_isBuilder _ _ w
theorem Bu.lt {B g:Nat} {l:List UInt8} {w:World} (h:Bu B g l w):g<w.heap.size:=by
 rcases h with h|h
 ·exact h.lt
 ·exact h.lt
theorem Kept.two {g:Nat} {w w':World} (h:Kept g w w') {k:Nat} {cs:Array Value} {T:TypeId} (hk:w.heap[k]? = some (.cells cs T (0,0))) (hg:k≠g) (hT:T≠5):w'.heap[k]? = some (.cells cs T (0,0)):=
 h k _ hk (by simpa using hg) (fun c fz e=>hT (by cases e;rfl))
set_option maxRecDepth 10000 in
set_option maxHeartbeats 400000 in
theorem check_old (g:Nat) (w:World) (h0:w.cell? ⟨g,0,none⟩=some (.pointer (some ⟨g,0,none⟩))) :
  Calls Tryz.prog 114 #[.pointer (some ⟨g,0,none⟩)] w fun e w'=>e=.returned (.tuple #[])∧w'=w:=by
 obtain ⟨j,hj,_⟩:=Option.map_eq_some_iff.1 Tryz.infoB
 have hn:=Lib.run_neq_ptr_same (P:=Tryz.prog) w ⟨g,0,none⟩ Tryz.underlying100 hj
 clear hj
 go_enter Tryz.func114,Tryz.ntmps114
 go_wp2
 go_end0
 exact ⟨rfl,rfl⟩
set_option maxRecDepth 10000 in
set_option maxHeartbeats 400000 in
theorem check_new (g:Nat) (w:World) (h0:w.cell? ⟨g,0,none⟩=some (.pointer none)) (hsh:w.shape? g=some (102,2)) (hfz:w.frozen? ⟨g,0,none⟩=false) :
  Calls Tryz.prog 114 #[.pointer (some ⟨g,0,none⟩)] w fun e w'=>e=.returned (.tuple #[])∧w'=w.setCell ⟨g,0,none⟩ (.pointer (some ⟨g,0,none⟩)):=by
 obtain ⟨j,hj,hjs⟩:=Option.map_eq_some_iff.1 Tryz.infoB
 have r1:=Lib.run_to_unsafe (P:=Tryz.prog) w ⟨g,0,none⟩ Tryz.underlying100 Tryz.underlying200 hj (by rw [hjs];decide) hsh (Nat.zero_lt_succ 1)
 have r3:=Lib.run_from_unsafe (P:=Tryz.prog) w ⟨g,0,none⟩ Tryz.underlying200 Tryz.underlying100 hj hsh Tryz.liesB
 clear hj
 go_enter Tryz.func114,Tryz.ntmps114
 go_wp2
 rw [run_callFunc_extern Tryz.func147 (by kernel_rfl) (by kernel_rfl) (by kernel_rfl) (e:=Extern.AbiNoEscape.same) (by kernel_rfl),Lib.run_noEscape]
 simp only [Result.andThen]
 rw [Oper.upon_value]
 go_wp2
 go_end0
 exact ⟨rfl,rfl⟩
theorem bcheck_any (B g:Nat) (bs:List Value) (w:World) (h:Lib.IsBuilder 102 5 B g bs w) :
  Calls Tryz.prog 114 #[.pointer (some ⟨g,0,none⟩)] w fun e w'=>e=.returned (.tuple #[])∧Lib.BuilderAt 102 5 B g (.pointer (some ⟨g,0,none⟩)) bs w'∧Below B w w'∧Kept g w w':=by
 rcases h with h|h
 ·refine (check_new g w h.cell0 h.shape h.frozen0).mono ?_
  rintro e w' ⟨rfl,rfl⟩
  exact ⟨rfl,h.used _,(Below.refl B w).setCell (p:=⟨g,0,none⟩) h.1 _,(Lib.OthersKept.refl _ _ w).setCell ⟨g,0,none⟩ rfl _⟩
 ·refine (check_old g w h.cell0).mono ?_
  rintro e w' ⟨rfl,rfl⟩
  exact ⟨rfl,h,Below.refl _ _,Lib.OthersKept.refl _ _ _⟩
theorem own_kind {w:World} {B:Nat} {e:TypeId} {v:Value} {n:Nat} {xs:List Value} (h:w.ownsRow B e 1 v n xs):∀g,v.ownBlock=some g→∃c fz,w.heap[g]? = some (.cells c e fz):=by
 intro g hg
 rcases h.2 with ⟨rfl,_⟩|⟨g',cap,cur,rfl,_,hgg,_⟩
 ·simp [Value.ownBlock] at hg
 ·simp [Value.ownBlock] at hg
  subst hg
  exact ⟨cur,_,hgg⟩
theorem own_form {w:World} {B:Nat} {e:TypeId} {v:Value} {n:Nat} {xs:List Value} (h:w.ownsRow B e 1 v n xs):∃ao cap,v=.slice ao n cap:=by
 rcases h.2 with ⟨rfl,rfl⟩|⟨g',cap,cur,rfl,_⟩
 ·exact ⟨none,0,rfl⟩
 ·exact ⟨_,cap,rfl⟩
set_option maxRecDepth 10000 in
set_option maxHeartbeats 400000 in
theorem wbyte_any (B g:Nat) (l:List UInt8) (c:Nat) (w:World) (h:Bu B g l w) (hc:c<256) (hlen:l.length+1≤140737488355328) (hBw:B≤w.heap.size) :
  Calls Tryz.prog 70 #[.pointer (some ⟨g,0,none⟩),.int .u8 c] w fun e w'=>e=.returned .nilIface∧Bu B g (l++[UInt8.ofNat c]) w'∧Below B w w'∧Kept g w w':=by
 obtain ⟨i0,hi,hz0,hz1,hz2⟩:=info_parts Tryz.infoU
 have hl:(bV l).length=l.length:=bV_length l
 go_enter Tryz.func70,Tryz.ntmps70
 go_wp2_with fail
 refine (bcheck_any B g (bV l) _ h).mono ?_
 rintro e w1 ⟨rfl,h1,hb1,hk1⟩
 obtain ⟨hB,v,hbk,hown,hne⟩:=h1
 have hs1:=hb1.size
 have hlt:g<w1.heap.size:=(Array.getElem?_eq_some_iff.1 hbk).1
 have c0:w1.cell? ⟨g,0,none⟩=some (.pointer (some ⟨g,0,none⟩)):=by rw [Lib.cell_of_heap hbk];rfl
 have c1:w1.cell? ⟨g,1,none⟩=some v:=by rw [Lib.cell_of_heap hbk];rfl
 go_wp2_with (at_builtin;refine wpList_append_own _ rfl _ _ 90 rfl B 5 i0 (.int .u8 0) 1 1 Tryz.underlying90 hi hz0 hz1 hz2 rfl (by decide) _ _ _ rfl (hown.alloc _) ⟨w1.heap.size,0,none⟩ 1 1 [.int .u8 (c:Int)] rfl rfl (cell_one_new _ _ _) ?c2 ?c3 ?c4 ?c5 ?_)
 case c2=>intro u hu;simp at hu;subst hu;rfl
 case c3=>unfold maxLen;omega
 case c4=>omega
 case c5=>simp;omega
 intro v' w2 hown' hgrow _
 have hb2:w2.heap[g]? = some (.cells #[.pointer (some ⟨g,0,none⟩),v] 102 (0,0)):=by
  rw [hgrow.block g (by simp;omega) (fun e=>hne e.symm),Lib.alloc_old w1 _ g hlt]
  exact hbk
 have d0:w2.cell? ⟨g,0,none⟩=some (.pointer (some ⟨g,0,none⟩)):=by rw [Lib.cell_of_heap hb2];rfl
 have d1:w2.cell? ⟨g,1,none⟩=some v:=by rw [Lib.cell_of_heap hb2];rfl
 have f1:w2.frozen? ⟨g,1,none⟩=false:=Lib.frozen_of_heap hb2 1
 obtain ⟨ao,cap,rfl⟩:=own_form hown'
 go_wp2_with fail
 go_ret
 have hkind:=own_kind (hown.alloc (.cells #[.int .u8 (c:Int)] 5))
 refine ⟨rfl,.inr ?_,?_,?_⟩
 ·rw [bV_snoc l c hc]
  exact Lib.BuilderAt.put (T:=102) (e:=5) hB hb2 (bs':=bV l++[.int .u8 (c:Int)]) (by simpa [bV_length] using hown') (by decide)
 ·exact ((hb1.alloc (by omega) _).grown hgrow (by simp;omega) (fun k hk=>(hown.lt k hk).1)).setCell (p:=⟨g,1,none⟩) hB _
 ·exact ((hk1.alloc _).grown hgrow hkind).setCell ⟨g,1,none⟩ rfl _
set_option maxRecDepth 10000 in
set_option maxHeartbeats 400000 in
theorem wstr_any (B g:Nat) (l:List UInt8) (s:ByteArray) (w:World) (h:Bu B g l w) (hlen:l.length+s.size≤140737488355328) (hBw:B≤w.heap.size) :
  Calls Tryz.prog 63 #[.pointer (some ⟨g,0,none⟩),.string s] w fun e w'=>e=.returned (.tuple #[.int .i64 s.size,.nilIface])∧Bu B g (l++s.data.toList) w'∧Below B w w'∧Kept g w w':=by
 obtain ⟨i0,hi,hz0,hz1,hz2⟩:=info_parts Tryz.infoU
 have hl:(bV l).length=l.length:=bV_length l
 go_enter Tryz.func63,Tryz.ntmps63
 go_wp2_with fail
 refine (bcheck_any B g (bV l) _ h).mono ?_
 rintro e w1 ⟨rfl,h1,hb1,hk1⟩
 obtain ⟨hB,v,hbk,hown,hne⟩:=h1
 have hs1:=hb1.size
 have hlt:g<w1.heap.size:=(Array.getElem?_eq_some_iff.1 hbk).1
 have c0:w1.cell? ⟨g,0,none⟩=some (.pointer (some ⟨g,0,none⟩)):=by rw [Lib.cell_of_heap hbk];rfl
 have c1:w1.cell? ⟨g,1,none⟩=some v:=by rw [Lib.cell_of_heap hbk];rfl
 go_wp2_with (at_builtin;refine Lib.wpList_append_own_string _ rfl _ _ 90 9 rfl B 5 i0 Tryz.underlying90 Tryz.underlying9 hi hz0 hz1 hz2 _ _ _ rfl hown s rfl ?c3 ?c4 ?c5 ?_)
 case c3=>unfold maxLen;omega
 case c4=>omega
 case c5=>omega
 intro v' w2 hown' hgrow _
 have hb2:w2.heap[g]? = some (.cells #[.pointer (some ⟨g,0,none⟩),v] 102 (0,0)):=by
  rw [hgrow.block g hlt (fun e=>hne e.symm)]
  exact hbk
 have d0:w2.cell? ⟨g,0,none⟩=some (.pointer (some ⟨g,0,none⟩)):=by rw [Lib.cell_of_heap hb2];rfl
 have d1:w2.cell? ⟨g,1,none⟩=some v:=by rw [Lib.cell_of_heap hb2];rfl
 have f1:w2.frozen? ⟨g,1,none⟩=false:=Lib.frozen_of_heap hb2 1
 obtain ⟨ao,cap,rfl⟩:=own_form hown'
 go_wp2_with fail
 go_ret2
 have hkind:=own_kind hown
 refine ⟨rfl,.inr ?_,?_,?_⟩
 ·rw [bV_append]
  exact Lib.BuilderAt.put (T:=102) (e:=5) hB hb2 (bs':=bV l++Lib.strCells s) (by simpa [Lib.strCells_length,bV_length] using hown') (by decide)
 ·exact (hb1.grown hgrow (by omega) (fun k hk=>(hown.lt k hk).1)).setCell (p:=⟨g,1,none⟩) hB _
 ·exact (hk1.grown hgrow hkind).setCell ⟨g,1,none⟩ rfl _
set_option maxRecDepth 10000 in
set_option maxHeartbeats 400000 in
theorem bstr_any (B g:Nat) (l:List UInt8) (w:World) (h:Bu B g l w) (h0:l≠[]) :
  Calls Tryz.prog 67 #[.pointer (some ⟨g,0,none⟩)] w fun e w'=>e=.returned (.string ⟨l.toArray⟩)∧Below B w w':=by
 obtain ⟨p,hB,v,hbk,hown,hne⟩:∃p,Lib.BuilderAt 102 5 B g p (bV l) w:=by
  rcases h with h|h
  ·exact ⟨_,h⟩
  ·exact ⟨_,h⟩
 have hl0:l.length≠0:=by simpa using h0
 rw [bV_length] at hown
 obtain ⟨k,cap,cur,rfl,hbg,hg,hnc,hcm,hcs,htake⟩:∃k cap cur,v=.slice (some ⟨k,0,none⟩) l.length cap∧B≤k∧w.heap[k]? = some (.cells cur 5 (0,0))∧l.length≤cap∧cap≤maxLen∧cur.size=cap*1∧cur.toList.take (l.length*1)=bV l:=by
  rcases hown.2 with ⟨_,hz⟩|⟨k,cap,cur,hv,r⟩
  ·exact absurd hz hl0
  ·exact ⟨k,cap,cur,hv,r⟩
 have hg':w.drew.heap[k]? = some (.cells cur 5 (0,0)):=hg
 have hbk':w.drew.heap[g]? = some (.cells #[p,.slice (some ⟨k,0,none⟩) l.length cap] 102 (0,0)):=hbk
 have c1:w.drew.cell? ⟨g,1,none⟩=some (.slice (some ⟨k,0,none⟩) l.length cap):=by rw [Lib.cell_of_heap hbk'];rfl
 have hSD:(Builtin.unsafeSliceData_ #[90] 167 #[.slice (some ⟨k,0,none⟩) l.length cap]).run Tryz.prog w.drew=.ok (.pointer (some ⟨k,0,none⟩)) w.drew:=
  Lib.run_unsafeSliceData_row _ _ _ _ _ _ (by omega)
 have hUS:(Builtin.unsafeString_ #[167,3] 9 #[.pointer (some ⟨k,0,none⟩),.int .i64 l.length]).run Tryz.prog w.drew=.ok (.string ⟨l.toArray⟩) (w.drew.freeze ⟨k,0,none⟩ l.length):=by
  refine Lib.run_unsafeString_row w.drew 167 3 9 5 Tryz.underlying167 (by kernel_rfl) k cur.size (by simp [World.shape?,hg']) l h0 (by omega) (by unfold maxLen at hcm;omega) ?_
  intro j x hx
  have:=hown.cells (g:=k) rfl j (.int .u8 x.toNat) (by simp [bV,hx])
  exact this
 clear hcs htake hnc hcm hg hbk hg' hbk' hown hne
 go_enter Tryz.func67,Tryz.ntmps67
 go_wp2
 go_region
 all_goals
  go_wp2
  go_ret
  exact ⟨rfl,Lib.below_freeze (Below.drew (Below.refl B w)) (p:=⟨k,0,none⟩) hbg _⟩
end Go.Proofs.YtcgjgjjegnofeaaGreatDoor
