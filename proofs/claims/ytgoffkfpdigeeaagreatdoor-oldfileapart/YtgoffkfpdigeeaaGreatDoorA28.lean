import Derived.Test.YtgoffkfpdigeeaaGreatDoorA10
import Derived.Test.YtgoffkfpdigeeaaGreatDoorA04
import Derived.Test.YtgoffkfpdigeeaaGreatDoorA27
import Derived.Test.YtgoffkfpdigeeaaGreatDoorA19
import Derived.Test.YtgoffkfpdigeeaaGreatDoorA08
namespace Go.Proofs.YtgoffkfpdigeeaaGreatDoor
open Go.RowKit
end Go.Proofs.YtgoffkfpdigeeaaGreatDoor
namespace Go.Proofs.YtgoffkfpdigeeaaGreatDoor
open Go.RowKit
theorem Fr.of_kept {C gb:Nat} {w w':World} (hb:Below C w w') (hk:Kept gb w w'):Fr (fun i=>C≤i∧(i=gb∨∃c fz,w.heap[i]? = some (.cells c 5 fz))) w w':=
 ⟨hb.os,hb.tape,hb.output,hb.size,fun i hi hn=>by
  by_cases h:i<C
  ·exact hb.block i h
  ·have h1:i≠gb:=fun e=>hn ⟨by omega,.inl e⟩
   obtain ⟨o,ho⟩:∃o,w.heap[i]? = some o:=⟨_,Array.getElem?_eq_getElem hi⟩
   rw [ho]
   exact hk i o ho (by simpa using h1) (fun c fz e=>hn ⟨by omega,.inr ⟨c,fz,by rw [ho,e]⟩⟩)⟩
theorem bu_row {B g:Nat} {p:Value} {bs:List Value} {w w':World} {S:Nat→Prop} (h:Lib.BuilderAt 95 5 B g p bs w) (k:Fr S w w') (hg:¬S g) (hr:∀q c fz,S q→w.heap[q]?≠some (.cells c 5 fz)):Lib.BuilderAt 95 5 B g p bs w':=by
 obtain ⟨hB,v,hgg,hown,hne⟩:=h
 have hlt:g<w.heap.size:=(Array.getElem?_eq_some_iff.1 hgg).1
 refine ⟨hB,v,(k.block g hlt hg).trans hgg,own_fr hown k (fun r hr2 q=>?_),hne⟩
 obtain ⟨c,fz,h1⟩:=own_kind hown r hr2
 exact hr r c fz q h1
theorem Bu.fr {B g:Nat} {l:List UInt8} {w w':World} {S:Nat→Prop} (h:Bu B g l w) (k:Fr S w w') (hg:¬S g) (hr:∀q c fz,S q→w.heap[q]?≠some (.cells c 5 fz)):Bu B g l w':=by
 rcases h with h|h
 ·exact .inl (bu_row h k hg hr)
 ·exact .inr (bu_row h k hg hr)
theorem Bu.two {B g:Nat} {l:List UInt8} {w:World} (h:Bu B g l w):∃p v,w.heap[g]? = some (.cells #[p,v] 95 (0,0)):=by
 rcases h with ⟨_,v,h,_⟩|⟨_,v,h,_⟩
 ·exact ⟨_,v,h⟩
 ·exact ⟨_,v,h⟩
theorem row_kind {w:World} {B:Nat} {e:TypeId} {v:Value} {n k:Nat} {xs:List Value} (h:w.ownsRow B e 1 v n xs) (hv:v.ownBlock=some k):∃c,w.heap[k]? = some (.cells c e (0,0)):=by
 rcases h.2 with ⟨rfl,_⟩|⟨g',cap,cur,rfl,_,hgg,_⟩
 ·simp [Value.ownBlock] at hv
 ·simp [Value.ownBlock] at hv
  subst hv
  exact ⟨cur,hgg⟩
theorem Tb.kinds {w:World} {B g gm:Nat} {v:Value} {L:List ByteArray} (h:Tb w B g gm v L) {k:Nat} (hk:TbS g gm v k) {c:Array Value} {T:TypeId} {fz:Nat × Nat} (hc:w.heap[k]? = some (.cells c T fz)):T=182∨T=9:=by
 rcases hk with rfl|rfl|hk
 ·have h1:w.heap[k]? = _:=h.cells
  rw [hc] at h1
  injection h1 with h1
  injection h1 with _ h1
  exact .inl h1
 ·obtain ⟨D,⟨es,ck,h2,_⟩,_⟩:=h.map
  rw [hc] at h2
  cases h2
 ·obtain ⟨c2,h1⟩:=row_kind h.own hk
  rw [hc] at h1
  injection h1 with h1
  injection h1 with _ h1
  exact .inr h1
structure Pk (w wr:World) (B g gm:Nat) (v:Value) (gb:Nat) (cN:Array Value) (v':Value) (M:List ByteArray) (l:List UInt8):Prop where
 tb:Tb wr B g gm v' M
 bu:Bu w.heap.size gb l wr
 nd:AtN 51 wr w.heap.size cN
 fr:Fr (TbS g gm v) w wr
 rows:∀k,TbS g gm v' k→TbS g gm v k∨w.heap.size≤k
 hg:g<w.heap.size
 hm:gm<w.heap.size
 hb:w.heap.size<gb
section
variable {w wr w':World} {B g gm gb:Nat} {v v':Value} {cN:Array Value} {M M':List ByteArray} {l l':List UInt8}
theorem Pk.more (h:Pk w wr B g gm v gb cN v' M l) (hb:Below wr.heap.size wr w'):Pk w w' B g gm v gb cN v' M l:=
 ⟨h.tb.below hb,h.bu.below hb,h.nd.belowAll hb,h.fr.trans (Fr.of_below (S:=fun _=>False) hb) (fun _ q _=>q.elim),h.rows,h.hg,h.hm,h.hb⟩
theorem Pk.done (h:Pk w wr B g gm v gb cN v' M l) (hb:Below w.heap.size wr w') (hk:Kept gb wr w'):TIn w w' B g gm v M:=by
 have F:=Fr.of_kept hb hk
 have h3:=h.hb
 obtain ⟨p,vb,hgb⟩:=h.bu.two
 refine ⟨v',h.tb.fr F (fun i hi q=>?_),h.fr.trans F (fun i q hi=>by omega),h.rows⟩
 rcases q.2 with rfl|⟨c,fz,e⟩
 ·rcases h.tb.kinds hi hgb with e|e
  ·revert e;decide
  ·revert e;decide
 ·rcases h.tb.kinds hi e with e|e
  ·revert e;decide
  ·revert e;decide
theorem Pk.size (h:Pk w wr B g gm v gb cN v' M l):w.heap.size≤wr.heap.size:=h.fr.size
theorem Pk.wrote (h:Pk w wr B g gm v gb cN v' M l) (hb:Below w.heap.size wr w') (hk:Kept gb wr w') (hu:Bu w.heap.size gb l' w'):Pk w w' B g gm v gb cN v' M l':=by
 have F:=Fr.of_kept hb hk
 have h1:=h.hg
 have h2:=h.hm
 have h3:=h.hb
 obtain ⟨p,vb,hgb⟩:=h.bu.two
 refine ⟨h.tb.fr F (fun i hi q=>?_),hu,?_,h.fr.trans F (fun i q hi=>by omega),h.rows,h1,h2,h3⟩
 ·rcases q.2 with rfl|⟨c,fz,e⟩
  ·rcases h.tb.kinds hi hgb with e|e
   ·revert e;decide
   ·revert e;decide
  ·rcases h.tb.kinds hi e with e|e
   ·revert e;decide
   ·revert e;decide
 ·refine h.nd.fr F (fun q=>?_)
  rcases q.2 with e|⟨c,fz,e⟩
  ·omega
  ·have h5:wr.heap[w.heap.size]? = _:=h.nd
   rw [e] at h5
   injection h5 with h5
   injection h5 with _ h5
   revert h5;decide
theorem Pk.interned (h:Pk w wr B g gm v gb cN v' M l) (hi:TIn wr w' B g gm v' M'):∃v2,Pk w w' B g gm v gb cN v2 M' l:=by
 obtain ⟨v2,ht,hf,hr⟩:=hi
 have h1:=h.hg
 have h2:=h.hm
 have h3:=h.hb
 have hs:=h.size
 obtain ⟨p,vb,hgb⟩:=h.bu.two
 refine ⟨v2,ht,h.bu.fr hf (fun q=>?_) (fun k c fz q e=>?_),h.nd.fr hf (fun q=>?_),h.fr.trans hf (fun i q hi=>?_),fun k hk=>?_,h1,h2,h3⟩
 ·rcases h.tb.kinds q hgb with e|e
  ·revert e;decide
  ·revert e;decide
 ·rcases h.tb.kinds q e with e|e
  ·revert e;decide
  ·revert e;decide
 ·have h5:wr.heap[w.heap.size]? = _:=h.nd
  rcases h.tb.kinds q h5 with e|e
  ·revert e;decide
  ·revert e;decide
 ·rcases h.rows i q with e|e
  ·exact e
  ·omega
 ·rcases hr k hk with e|e
  ·exact h.rows k e
  ·exact .inr (Nat.le_trans hs e)
end
set_option maxRecDepth 10000 in
set_option maxHeartbeats 400000 in
theorem bstr2_any (B g:Nat) (l:List UInt8) (w:World) (h:Bu B g l w) (h0:l≠[]) :
  Calls Tryz.prog 67 #[.pointer (some ⟨g,0,none⟩)] w fun e w'=>e=.returned (.string ⟨l.toArray⟩)∧Below B w w'∧Kept g w w':=by
 obtain ⟨p,hB,v,hbk,hown,hne⟩:∃p,Lib.BuilderAt 95 5 B g p (bV l) w:=by
  rcases h with h|h
  ·exact ⟨_,h⟩
  ·exact ⟨_,h⟩
 have hl0:l.length≠0:=by simpa using h0
 rw [bV_length] at hown
 obtain ⟨k,cap,cur,rfl,hbg,hg,hnc,hcm,hcs,htake⟩:∃k cap cur,v=.slice (some ⟨k,0,none⟩) l.length cap∧B≤k∧w.heap[k]? = some (.cells cur 5 (0,0))∧l.length≤cap∧cap≤maxLen∧cur.size=cap*1∧cur.toList.take (l.length*1)=bV l:=by
  rcases hown.2 with ⟨_,hz⟩|⟨k,cap,cur,hv,r⟩
  ·exact absurd hz hl0
  ·exact ⟨k,cap,cur,hv,r⟩
 have hg':w.drew.heap[k]? = some (.cells cur 5 (0,0)):=hg
 have hbk':w.drew.heap[g]? = some (.cells #[p,.slice (some ⟨k,0,none⟩) l.length cap] 95 (0,0)):=hbk
 have c1:w.drew.cell? ⟨g,1,none⟩=some (.slice (some ⟨k,0,none⟩) l.length cap):=by rw [Lib.cell_of_heap hbk'];rfl
 have hSD:(Builtin.unsafeSliceData_ #[85] 153 #[.slice (some ⟨k,0,none⟩) l.length cap]).run Tryz.prog w.drew=.ok (.pointer (some ⟨k,0,none⟩)) w.drew:=
  Lib.run_unsafeSliceData_row _ _ _ _ _ _ (by omega)
 have hUS:(Builtin.unsafeString_ #[153,3] 9 #[.pointer (some ⟨k,0,none⟩),.int .i64 l.length]).run Tryz.prog w.drew=.ok (.string ⟨l.toArray⟩) (w.drew.freeze ⟨k,0,none⟩ l.length):=by
  refine Lib.run_unsafeString_row w.drew 153 3 9 5 Tryz.underlying153 (by kernel_rfl) k cur.size (by simp [World.shape?,hg']) l h0 (by omega) (by unfold maxLen at hcm;omega) ?_
  intro j x hx
  have:=hown.cells (g:=k) rfl j (.int .u8 x.toNat) (by simp [bV,hx])
  exact this
 have hgK:∃c fz,w.drew.heap[k]? = some (.cells c 5 fz):=⟨cur,_,hg'⟩
 have HK:Hid (Kept g w (w.drew.freeze ⟨k,0,none⟩ l.length)):=((Lib.OthersKept.refl _ _ w).drew).freeze ⟨k,0,none⟩ _ hgK
 clear hgK hcs htake hnc hcm hg hbk hg' hbk' hown hne
 go_enter Tryz.func67,Tryz.ntmps67
 go_wp2
 go_region
 all_goals
  go_wp2
  go_ret
  exact ⟨rfl,Lib.below_freeze (Below.drew (Below.refl B w)) (p:=⟨k,0,none⟩) hbg _,HK.out⟩
end Go.Proofs.YtgoffkfpdigeeaaGreatDoor
namespace Go.Proofs.YtgoffkfpdigeeaaGreatDoor
open Go.RowKit
end Go.Proofs.YtgoffkfpdigeeaaGreatDoor
