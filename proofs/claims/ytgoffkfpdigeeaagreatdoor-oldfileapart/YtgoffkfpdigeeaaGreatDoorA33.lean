import Derived.Test.YtgoffkfpdigeeaaGreatDoorA10
import Derived.Test.YtgoffkfpdigeeaaGreatDoorA09
import Derived.Test.YtgoffkfpdigeeaaGreatDoorA27
namespace Go.Proofs.YtgoffkfpdigeeaaGreatDoor
open Go.RowKit
theorem fl_had {e:Int} (d:Int) (h:e≠0):fl e d=e:=if_neg h
theorem pInt_had (b:ByteArray) (k:Nat) {e:Int} (h:e≠0):pInt b k e=(0,k,e):=by unfold pInt;rw [if_pos h]
theorem pUint_had (b:ByteArray) (k:Nat) {e:Int} (m:Int) (h:e≠0):pUint b k e m=(0,k,e):=by unfold pUint;rw [if_pos h]
def InvI (b:ByteArray) (C:List Int) (k0:Nat) (e0:Int) (i:Nat) (l:List Int) (k:Nat) (e:Int):Prop:=
 (e=0→gIs b C k0 e0=(l++(gIs b (C.drop i) k 0).1,(gIs b (C.drop i) k 0).2))∧(e≠0→(gIs b C k0 e0).2=(k,e))
theorem InvI.start (b:ByteArray) (C:List Int) (k:Nat) (e:Int):InvI b C k e 0 [] k e:=
 ⟨fun h=>by subst h;rfl,fun h=>by rw [gIs_stop b C k h]⟩
theorem InvI.next {b:ByteArray} {C:List Int} {k0:Nat} {e0:Int} {i:Nat} {l:List Int} {k:Nat} {e q:Int} {k3:Nat} {e3:Int} (h:InvI b C k0 e0 i l k e) (hi:i<C.length) (hq:pInt b k e=(q,k3,e3)):InvI b C k0 e0 (i+1) (l++[q]) k3 (if in7 (C.getD i 0) q=true then e3 else fl e3 10):=by
 by_cases he:e=0
 ·subst he
  have h1:=h.1 rfl
  rw [gIs_next b C i k hi hq] at h1
  generalize (if in7 (C.getD i 0) q=true then e3 else fl e3 10)=e4 at h1 ⊢
  refine ⟨fun h4=>?_,fun h4=>?_⟩
  ·subst h4;rw [h1,List.append_assoc];rfl
  ·rw [h1,gIs_stop b _ k3 h4]
 ·rw [pInt_had b k he] at hq
  cases hq
  have h2:=h.2 he
  rw [fl_had 10 he,ite_self]
  exact ⟨fun q=>absurd q he,fun _=>h2⟩
theorem InvI.fin {b:ByteArray} {C:List Int} {k0:Nat} {e0:Int} {i:Nat} {l:List Int} {k:Nat} {e:Int} (h:InvI b C k0 e0 i l k e) (hi:C.length≤i):k=(gIs b C k0 e0).2.1∧e=(gIs b C k0 e0).2.2∧((gIs b C k0 e0).2.2=0→l=(gIs b C k0 e0).1):=by
 by_cases he:e=0
 ·subst he
  have h1:=h.1 rfl
  rw [gIs_end b C i k 0 (.inl hi)] at h1
  rw [h1]
  exact ⟨rfl,rfl,fun _=>by simp⟩
 ·have h2:=h.2 he
  rw [h2]
  exact ⟨rfl,rfl,fun q=>absurd q he⟩
def InvT (b:ByteArray) (L:List ByteArray) (n k0:Nat) (e0:Int) (i:Nat) (l:List ByteArray) (k:Nat) (e:Int):Prop:=
 (e=0→gTs b L n k0 e0=(l++(gTs b L (n-i) k 0).1,(gTs b L (n-i) k 0).2))∧(e≠0→(gTs b L n k0 e0).2=(k,e))
theorem InvT.start (b:ByteArray) (L:List ByteArray) (n k:Nat) (e:Int):InvT b L n k e 0 [] k e:=
 ⟨fun h=>by subst h;rfl,fun h=>by rw [gTs_stop b L n k h]⟩
theorem InvT.next {b:ByteArray} {L:List ByteArray} {n k0:Nat} {e0:Int} {i:Nat} {l:List ByteArray} {k:Nat} {e q:Int} {k3:Nat} {e3:Int} (h:InvT b L n k0 e0 i l k e) (hi:i<n) (hq:pUint b k e 16777216=(q,k3,e3)) :
  InvT b L n k0 e0 (i+1) (l++[if (L.length:Int)≤q then noT else L.getD q.toNat noT]) k3 (if (L.length:Int)≤q then fl e3 13 else e3):=by
 by_cases he:e=0
 ·subst he
  have h1:=h.1 rfl
  rw [show n-i=(n-(i+1))+1 by omega,gTs_next b L _ k hq] at h1
  by_cases h3:e3=0
  ·subst h3
   rw [if_neg (by decide)] at h1
   by_cases hx:(L.length:Int)≤q
   ·rw [if_pos hx] at h1
    rw [if_pos hx,if_pos hx]
    exact ⟨fun h4=>absurd h4 (by decide),fun _=>by rw [h1];rfl⟩
   ·rw [if_neg hx] at h1
    rw [if_neg hx,if_neg hx]
    exact ⟨fun _=>by rw [h1,List.append_assoc];rfl,fun q=>absurd rfl q⟩
  ·rw [if_pos h3] at h1
   rw [fl_had 13 h3,ite_self]
   exact ⟨fun q=>absurd q h3,fun _=>by rw [h1]⟩
 ·rw [pUint_had b k _ he] at hq
  cases hq
  have h2:=h.2 he
  rw [fl_had 13 he,ite_self]
  exact ⟨fun q=>absurd q he,fun _=>h2⟩
theorem InvT.fin {b:ByteArray} {L:List ByteArray} {n k0:Nat} {e0:Int} {i:Nat} {l:List ByteArray} {k:Nat} {e:Int} (h:InvT b L n k0 e0 i l k e) (hi:n≤i):k=(gTs b L n k0 e0).2.1∧e=(gTs b L n k0 e0).2.2∧((gTs b L n k0 e0).2.2=0→l=(gTs b L n k0 e0).1):=by
 by_cases he:e=0
 ·subst he
  have h1:=h.1 rfl
  rw [gTs_end b L (n-i) k 0 (.inl (by omega))] at h1
  rw [h1]
  exact ⟨rfl,rfl,fun _=>by simp⟩
 ·have h2:=h.2 he
  rw [h2]
  exact ⟨rfl,rfl,fun q=>absurd q he⟩
def InvK (b:ByteArray) (p:Int) (n k0:Nat) (e0:Int) (i:Nat) (l:List Int) (k:Nat) (e:Int):Prop:=
 (e=0→gKs b p n k0 e0=(l++(gKs b p (n-i) k 0).1,(gKs b p (n-i) k 0).2))∧(e≠0→(gKs b p n k0 e0).2=(k,e))
theorem InvK.start (b:ByteArray) (p:Int) (n k:Nat) (e:Int):InvK b p n k e 0 [] k e:=
 ⟨fun h=>by subst h;rfl,fun h=>by rw [gKs_stop b p n k h]⟩
theorem InvK.next {b:ByteArray} {p:Int} {n k0:Nat} {e0:Int} {i:Nat} {l:List Int} {k:Nat} {e q:Int} {k3:Nat} {e3:Int} (h:InvK b p n k0 e0 i l k e) (hi:i<n) (hq:pUint b k e 16777216=(q,k3,e3)) :
  InvK b p n k0 e0 (i+1) (l++[wrap64 (p-q)]) k3 (if decide (q<1∨p<q)=true then fl e3 13 else e3):=by
 by_cases he:e=0
 ·subst he
  have h1:=h.1 rfl
  rw [show n-i=(n-(i+1))+1 by omega,gKs_next b p _ k hq] at h1
  generalize (if decide (q<1∨p<q)=true then fl e3 13 else e3)=e4 at h1 ⊢
  refine ⟨fun h4=>?_,fun h4=>?_⟩
  ·subst h4;rw [h1,List.append_assoc];rfl
  ·rw [h1,gKs_stop b p _ k3 h4]
 ·rw [pUint_had b k _ he] at hq
  cases hq
  have h2:=h.2 he
  rw [fl_had 13 he,ite_self]
  exact ⟨fun q=>absurd q he,fun _=>h2⟩
theorem InvK.fin {b:ByteArray} {p:Int} {n k0:Nat} {e0:Int} {i:Nat} {l:List Int} {k:Nat} {e:Int} (h:InvK b p n k0 e0 i l k e) (hi:n≤i):k=(gKs b p n k0 e0).2.1∧e=(gKs b p n k0 e0).2.2∧((gKs b p n k0 e0).2.2=0→l=(gKs b p n k0 e0).1):=by
 by_cases he:e=0
 ·subst he
  have h1:=h.1 rfl
  rw [gKs_end b p (n-i) k 0 (.inl (by omega))] at h1
  rw [h1]
  exact ⟨rfl,rfl,fun _=>by simp⟩
 ·have h2:=h.2 he
  rw [h2]
  exact ⟨rfl,rfl,fun q=>absurd q he⟩
theorem InvK.bad {b:ByteArray} {p:Int} {n k0:Nat} {e0:Int} {i:Nat} {l:List Int} {k:Nat} {e:Int} (h:InvK b p n k0 e0 i l k e) (he:e≠0):k=(gKs b p n k0 e0).2.1∧e=(gKs b p n k0 e0).2.2:=by
 have h2:=h.2 he
 rw [h2]
 exact ⟨rfl,rfl⟩
structure Bl (w wr:World) (gc:Nat) (bs:ByteArray) (k:Nat) (e:Int) (T:TypeId) (v:Value) (n:Nat) (xs:List Value):Prop where
 cur:Cu wr gc bs k e
 own:wr.ownsRow w.heap.size T 1 v n xs
 fr:w.grownBy wr (some gc)
 hg:gc<w.heap.size
 kb:k≤bs.size
section
variable {w wr w':World} {gc:Nat} {bs:ByteArray} {k k':Nat} {e e':Int} {T:TypeId} {v v':Value} {n n':Nat} {xs xs':List Value}
theorem Bl.start (h:Cu w gc bs k e) (hk:k≤bs.size):Bl w w gc bs k e T (.slice none 0 0) 0 []:=⟨h,own_nil _ _ _,grown_refl _ _,h.lt,hk⟩
theorem Bl.read (h:Bl w wr gc bs k e T v n xs) (hw:wr.grownBy w' (some gc)) (hc:Cu w' gc bs k' e') (hk:k'≤bs.size):Bl w w' gc bs k' e' T v n xs:=
 ⟨hc,row_kept h.own hw (row_low h.own (fun q hq=>by cases hq;exact h.hg)),gtrans h.fr hw,h.hg,hk⟩
theorem Bl.more (h:Bl w wr gc bs k e T v n xs) (hb:Below wr.heap.size wr w'):Bl w w' gc bs k e T v n xs:=
 ⟨At3.belowAll h.cur hb,own_below h.own hb (Nat.le_refl _),gtrans h.fr (gbelow hb),h.hg,h.kb⟩
theorem Bl.app (h:Bl w wr gc bs k e T v n xs) (hw:wr.grownBy w' v.ownBlock) (ho:w'.ownsRow w.heap.size T 1 v' n' xs'):Bl w w' gc bs k e T v' n' xs':=by
 have hg:=h.hg
 have hlt:∀q,v.ownBlock=some q→w.heap.size≤q:=fun q hq=>(h.own.lt q hq).1
 refine ⟨At3.kept h.cur hw (fun e=>by have:=hlt gc e.symm;omega),ho,?_,hg,h.kb⟩
 have hf:=h.fr
 exact ⟨hw.os.trans hf.os,hw.tape.trans hf.tape,hw.output.trans hf.output,Nat.le_trans hf.size hw.size,fun i hi hn=>(hw.block i (Nat.lt_of_lt_of_le hi hf.size) (fun e=>by have:=hlt i e.symm;omega)).trans (hf.block i hi hn)⟩
end
end Go.Proofs.YtgoffkfpdigeeaaGreatDoor
namespace Go.Proofs.YtgoffkfpdigeeaaGreatDoor
open Go.RowKit
set_option maxRecDepth 10000 in
set_option maxHeartbeats 1000000 in
theorem pints_any (bs:ByteArray) (gc:Nat) (C:List Int) (sb:Option Addr) (sc k:Nat) (e:Int) (w:World) (h:Cu w gc bs k e) (hs:bs.size≤4000000) (hk:k≤bs.size) (hC:∀W,w.grownBy W (some gc)→LsAt W sb (iV C)) (hT:∀W,w.grownBy W (some gc)→TabAt W 1 spansC) (hl:C.length≤1000) :
  Calls Tryz.prog 156 #[.pointer (some ⟨gc,0,none⟩),.slice sb C.length sc] w fun r w'=>∃l v,r=.returned v∧Bl w w' gc bs (gIs bs C k e).2.1 (gIs bs C k e).2.2 2 v l.length (iV l)∧((gIs bs C k e).2.2=0→l=(gIs bs C k e).1):=by
 obtain ⟨i1,hi1,hz10,hz11,hz12⟩:=info_parts Tryz.infoN8
 have hsm:bs.size≤maxLen:=by unfold maxLen;omega
 have HC:Hid (∀W,w.grownBy W (some gc)→LsAt W sb (iV C)):=hC
 have HT:Hid (∀W,w.grownBy W (some gc)→TabAt W 1 spansC):=hT
 have HI:Hid (∀(W:World) (k:Nat) (e:Int),Cu W gc bs k e→k≤bs.size→Calls Tryz.prog 149 #[.pointer (some ⟨gc,0,none⟩)] W fun r w'=>r=.returned (.int .i64 (pInt bs k e).1)∧Cu w' gc bs ((pInt bs k e).2.1:Nat) (pInt bs k e).2.2∧W.grownBy w' (some gc)):=fun W k e q1 q2=>int_any W gc bs k e q1 hsm q2
 have HFl:Hid (∀(W:World) (k:Nat) (e d:Int),Cu W gc bs k e→Calls Tryz.prog 76 #[.pointer (some ⟨gc,0,none⟩),.int .i64 d] W fun r w'=>r=.returned (.tuple #[])∧Cu w' gc bs k (fl e d)∧W.grownBy w' (some gc)):=fun W k e d q=>fail_any W gc bs k e d q
 have HIn:Hid (∀(W:World) (c x:Int),w.grownBy W (some gc)→-9223372036854775808≤x→x≤9223372036854775807→Calls Tryz.prog 150 #[.int .i64 c,.int .i64 x] W fun e w'=>e=.returned (.bool (in7 c x))∧w'=W):=fun W c x hW h1 h2=>in_any c x W (hT W hW) h1 h2
 have HS:Hid (Bl w w gc bs k e 2 (.slice none 0 0) 0 []):=Bl.start h hk
 obtain ⟨R,hR⟩:∃R,gIs bs C k e=R:=⟨_,rfl⟩
 have HIn0:Hid (InvI bs C k e 0 [] k e):=InvI.start bs C k e
 rw [hR]
 clear h hC hT
 go_enter Tryz.func156,Tryz.ntmps156
 go_wp2_with fail
 go_loopw [5,11] (fun v5 iv wr=>∃(i k':Nat) (e':Int) (l:List Int) (v:Value),v=v5∧iv=.int .i64 i∧i≤C.length∧l.length=i∧Hid (InvI bs C k e i l k' e')∧Hid (Bl w wr gc bs k' e' 2 v l.length (iV l))) (fun _ iv _=>C.length-(intOf iv).toNat)
 case atStart=>exact ⟨0,k,e,[],_,rfl,rfl,by omega,rfl,HIn0,HS⟩
 case round=>
  clear HS HIn0
  obtain ⟨i,k',e',l,v,rfl,rfl,hi,rfl,HV,HB⟩:=hrel
  have hkb:=HB.out.kb
  by_cases hlt:l.length<C.length
  ·have hlt':(l.length:Int)<C.length:=by omega
   obtain ⟨b3,o3,hsb,hb3,d3⟩:=(HC.out wr HB.out.fr).at (iV_at C l.length hlt)
   subst hsb
   obtain ⟨x,k3,e3,hq⟩:∃x k3 e3,pInt bs k' e'=(x,k3,e3):=⟨_,_,_,rfl⟩
   have hx:=pInt_top bs k' e' hkb
   have hk3:=pInt_at bs k' e' hkb
   have hIc:=HI.out wr k' e' HB.out.cur hkb
   rw [hq] at hx hk3 hIc
   dsimp only at hx hk3 hIc
   have HIc:Hid _:=hIc
   have HVn:Hid _:=HV.out.next hlt hq
   generalize C.getD l.length 0=c at *
   have HR:Hid (∀W,w.grownBy W (some gc)→_):=fun W hW=>HIn.out W c x hW hx.1 hx.2
   generalize in7 c x=bb at *
   clear hIc hq HV
   go_wp2_with fail
   refine Calls.mono HIc.out ?_
   rintro r w3 ⟨rfl,hc3,hg3⟩
   have HB3:Hid _:=HB.out.read hg3 hc3 hk3.2
   clear HB hg3 hc3 HIc
   go_wp2_with fail
   refine Calls.mono (HR.out _ HB3.out.fr) ?_
   rintro r w4 ⟨rfl,hw4⟩
   rw [hw4]
   clear hw4 HR d3 hb3
   go_upto_if 20 with fail
   go_cut [] (fun wc=>Hid (Bl w wc gc bs k3 (if bb=true then e3 else fl e3 10) 2 v l.length (iV l)))
   case first=>
    cases bb
    ·go_wp2_with fail
     refine Calls.mono (HFl.out _ k3 e3 10 HB3.out.cur) ?_
     rintro r w5 ⟨rfl,hc5,hg5⟩
     go_wp2_with fail
     go_meet
     exact HB3.out.read hg5 hc5 hk3.2
    ·go_wp2_with fail
     go_meet
     exact HB3
   case rest=>
    clear HB3
    generalize (if bb=true then e3 else fl e3 10)=e4 at *
    have HB4:=hcut
    clear hcut
    have hsz:=HB4.out.fr.size
    go_wp2_with (at_builtin;refine wpList_append_lies _ rfl (.tmp 23) (.tmp 25) 48 rfl w.heap.size 2 i1 (.int .i64 0) 1 8 Tryz.underlying48 hi1 hz10 hz11 hz12 rfl (by decide) v l.length (iV l) rfl (HB4.out.own.alloc _) ⟨wc.heap.size,0,none⟩ 1 1 [.int .i64 x] rfl rfl (cell_one_new _ _ _) (by intro u hu;simp at hu;subst hu;rfl) (by decide) (by unfold maxLen;omega) (by omega) (by simp;omega) _ rfl ?_)
    intro g2 cap2 w5 hown2 hgrow2 hlie hlt2
    have HB5:=HB4.out.more ((Below.refl _ _).alloc (Nat.le_refl _) (.cells #[.int .i64 x] 2))
    have HB6:Hid (Bl w w5 gc bs k3 e4 2 (.slice (some ⟨g2,0,none⟩) (l.length+1) cap2) (l++[x]).length (iV (l++[x]))):=HB5.app hgrow2 (by simpa [iV] using hown2)
    clear HB4 HB5 hgrow2 hown2 hlie hlt2
    go_wp2_with fail
    go_roundw
    case rel=>exact ⟨l.length+1,k3,e4,l++[x],_,rfl,by go_num,by omega,by simp,HVn,HB6⟩
    case measure=>simp [intOf];omega
  ·have hlt':¬(l.length:Int)<C.length:=by omega
   have hf:=HV.out.fin (by omega)
   rw [hR] at hf
   obtain ⟨f1,f2,f3⟩:=hf
   rw [f1,f2] at HB
   have HF:Hid _:=f3
   clear HV f1 f2 f3 hkb
   obtain ⟨ao,cap,rfl⟩:=own_shape6 HB.out.own
   go_wp2_with fail
   go_ret
   exact ⟨l,_,rfl,HB.out,HF.out⟩
end Go.Proofs.YtgoffkfpdigeeaaGreatDoor
namespace Go.Proofs.YtgoffkfpdigeeaaGreatDoor
open Go.RowKit
theorem tat_any {w:World} {B g gm:Nat} {v:Value} {L:List ByteArray} (h:Tb w B g gm v L) (q:Int) (h0:0≤q) :
  Calls Tryz.prog 172 #[.pointer (some ⟨g,0,none⟩),.int .i64 q] w fun e w'=>e=.returned (.tuple #[.string (if (L.length:Int)≤q then noT else L.getD q.toNat noT),.bool (!decide ((L.length:Int)≤q))])∧w'=w:=by
 by_cases hq:(L.length:Int)≤q
 ·rw [if_pos hq,decide_eq_true hq]
  exact tat_out h q (.inr hq)
 ·rw [if_neg hq,decide_eq_false hq]
  obtain ⟨n,rfl⟩:=Int.eq_ofNat_of_zero_le h0
  have hn:n<L.length:=by omega
  rw [Int.toNat_natCast,List.getD_eq_getElem?_getD,List.getElem?_eq_getElem hn]
  exact tat_in h n hn
set_option maxRecDepth 10000 in
set_option maxHeartbeats 1000000 in
theorem ptexts_any (bs:ByteArray) (gc n:Nat) (k:Nat) (e:Int) (w:World) {B g gm:Nat} {v:Value} {L:List ByteArray} (h:Cu w gc bs k e) (hs:bs.size≤4000000) (hk:k≤bs.size) (hT:∀W,w.grownBy W (some gc)→Tb W B g gm v L) (hn:n≤1000) :
  Calls Tryz.prog 157 #[.pointer (some ⟨gc,0,none⟩),.int .i64 n,.pointer (some ⟨g,0,none⟩)] w fun r w'=>∃l v,r=.returned v∧Bl w w' gc bs (gTs bs L n k e).2.1 (gTs bs L n k e).2.2 9 v l.length (tV l)∧((gTs bs L n k e).2.2=0→l=(gTs bs L n k e).1):=by
 obtain ⟨i1,hi1,hz10,hz11,hz12⟩:=info_parts Tryz.infoS8
 have hsm:bs.size≤maxLen:=by unfold maxLen;omega
 have HU:Hid (∀(W:World) (k:Nat) (e m:Int),Cu W gc bs k e→k≤bs.size→Calls Tryz.prog 117 #[.pointer (some ⟨gc,0,none⟩),.int .u64 m] W fun r w'=>r=.returned (.int .i64 (pUint bs k e m).1)∧Cu w' gc bs ((pUint bs k e m).2.1:Nat) (pUint bs k e m).2.2∧W.grownBy w' (some gc)):=fun W k e m q1 q2=>uint_any W gc bs k e m q1 hsm q2
 have HFl:Hid (∀(W:World) (k:Nat) (e d:Int),Cu W gc bs k e→Calls Tryz.prog 76 #[.pointer (some ⟨gc,0,none⟩),.int .i64 d] W fun r w'=>r=.returned (.tuple #[])∧Cu w' gc bs k (fl e d)∧W.grownBy w' (some gc)):=fun W k e d q=>fail_any W gc bs k e d q
 have HAt:Hid (∀(W:World) (q:Int),w.grownBy W (some gc)→0≤q→Calls Tryz.prog 172 #[.pointer (some ⟨g,0,none⟩),.int .i64 q] W fun e w'=>e=.returned (.tuple #[.string (if (L.length:Int)≤q then noT else L.getD q.toNat noT),.bool (!decide ((L.length:Int)≤q))])∧w'=W):=fun W q hW h0=>tat_any (hT W hW) q h0
 have HS:Hid (Bl w w gc bs k e 9 (.slice none 0 0) 0 []):=Bl.start h hk
 obtain ⟨R,hR⟩:∃R,gTs bs L n k e=R:=⟨_,rfl⟩
 have HIn0:Hid (InvT bs L n k e 0 [] k e):=InvT.start bs L n k e
 rw [hR]
 clear h hT
 go_enter Tryz.func157,Tryz.ntmps157
 go_wp2_with fail
 go_loopw [7,11] (fun v5 iv wr=>∃(i k':Nat) (e':Int) (l:List ByteArray) (v:Value),v=v5∧iv=.int .i64 i∧i≤n∧l.length=i∧Hid (InvT bs L n k e i l k' e')∧Hid (Bl w wr gc bs k' e' 9 v l.length (tV l))) (fun _ iv _=>n-(intOf iv).toNat)
 case atStart=>exact ⟨0,k,e,[],_,rfl,rfl,by omega,rfl,HIn0,HS⟩
 case round=>
  clear HS HIn0
  obtain ⟨i,k',e',l,v,rfl,rfl,hi,rfl,HV,HB⟩:=hrel
  have hkb:=HB.out.kb
  by_cases hlt:l.length<n
  ·have hlt':(l.length:Int)<n:=by omega
   obtain ⟨x,k3,e3,hq⟩:∃x k3 e3,pUint bs k' e' 16777216=(x,k3,e3):=⟨_,_,_,rfl⟩
   have hx:=pUint_top bs k' e' 16777216
   have hk3:=pUint_at bs k' e' 16777216 hkb
   have hUc:=HU.out wr k' e' 16777216 HB.out.cur hkb
   rw [hq] at hx hk3 hUc
   dsimp only at hx hk3 hUc
   have HUc:Hid _:=hUc
   have hVn:=HV.out.next hlt hq
   have hR2:=fun W hW=>HAt.out W x hW hx.1
   obtain ⟨bb,hbb⟩:∃bb,decide ((L.length:Int)≤x)=bb:=⟨_,rfl⟩
   have he3:(if (L.length:Int)≤x then fl e3 13 else e3)=if bb=true then fl e3 13 else e3:=by rw [← hbb];simp
   rw [he3] at hVn
   rw [hbb] at hR2
   clear he3 hbb
   generalize (if (L.length:Int)≤x then noT else L.getD x.toNat noT)=s at hVn hR2
   have HVn:Hid _:=hVn
   have HR:Hid (∀W,w.grownBy W (some gc)→_):=hR2
   clear hUc hq HV hVn hR2
   go_wp2_with fail
   refine Calls.mono HUc.out ?_
   rintro r w3 ⟨rfl,hc3,hg3⟩
   have HB3:Hid _:=HB.out.read hg3 hc3 hk3.2
   clear HB hg3 hc3 HUc
   go_wp2_with fail
   refine Calls.mono (HR.out _ HB3.out.fr) ?_
   rintro r w4 ⟨rfl,hw4⟩
   rw [hw4]
   clear hw4 HR
   go_upto_if 21 with fail
   go_cut [] (fun wc=>Hid (Bl w wc gc bs k3 (if bb=true then fl e3 13 else e3) 9 v l.length (tV l)))
   case first=>
    cases bb
    ·go_wp2_with fail
     go_meet
     exact HB3
    ·go_wp2_with fail
     refine Calls.mono (HFl.out _ k3 e3 13 HB3.out.cur) ?_
     rintro r w5 ⟨rfl,hc5,hg5⟩
     go_wp2_with fail
     go_meet
     exact HB3.out.read hg5 hc5 hk3.2
   case rest=>
    clear HB3
    generalize (if bb=true then fl e3 13 else e3)=e4 at *
    have HB4:=hcut
    clear hcut
    have hsz:=HB4.out.fr.size
    go_wp2_with (at_builtin;refine wpList_append_lies _ rfl (.tmp 24) (.tmp 26) 47 rfl w.heap.size 9 i1 (.string ⟨#[]⟩) 1 16 Tryz.underlying47 hi1 hz10 hz11 hz12 rfl (by decide) v l.length (tV l) rfl (HB4.out.own.alloc _) ⟨wc.heap.size,0,none⟩ 1 1 [.string s] rfl rfl (cell_one_new _ _ _) (by intro u hu;simp at hu;subst hu;rfl) (by decide) (by unfold maxLen;omega) (by omega) (by simp;omega) _ rfl ?_)
    intro g2 cap2 w5 hown2 hgrow2 hlie hlt2
    have HB5:=HB4.out.more ((Below.refl _ _).alloc (Nat.le_refl _) (.cells #[.string s] 9))
    have HB6:Hid (Bl w w5 gc bs k3 e4 9 (.slice (some ⟨g2,0,none⟩) (l.length+1) cap2) (l++[s]).length (tV (l++[s]))):=HB5.app hgrow2 (by simpa [tV] using hown2)
    clear HB4 HB5 hgrow2 hown2 hlie hlt2
    go_wp2_with fail
    go_roundw
    case rel=>exact ⟨l.length+1,k3,e4,l++[s],_,rfl,by go_num,by omega,by simp,HVn,HB6⟩
    case measure=>simp [intOf];omega
  ·have hlt':¬(l.length:Int)<n:=by omega
   have hf:=HV.out.fin (by omega)
   rw [hR] at hf
   obtain ⟨f1,f2,f3⟩:=hf
   rw [f1,f2] at HB
   have HF:Hid _:=f3
   clear HV f1 f2 f3 hkb
   obtain ⟨ao,cap,rfl⟩:=own_shape6 HB.out.own
   go_wp2_with fail
   go_ret
   exact ⟨l,_,rfl,HB.out,HF.out⟩
set_option maxRecDepth 10000 in
set_option maxHeartbeats 1000000 in
theorem pkids_any (bs:ByteArray) (gc n:Nat) (p:Int) (k:Nat) (e:Int) (w:World) (h:Cu w gc bs k e) (hs:bs.size≤4000000) (hk:k≤bs.size) (hn:n≤16777216) :
  Calls Tryz.prog 158 #[.pointer (some ⟨gc,0,none⟩),.int .i64 p,.int .i64 n] w fun r w'=>∃l v,r=.returned v∧Bl w w' gc bs (gKs bs p n k e).2.1 (gKs bs p n k e).2.2 3 v l.length (iV l)∧((gKs bs p n k e).2.2=0→l=(gKs bs p n k e).1):=by
 obtain ⟨i1,hi1,hz10,hz11,hz12⟩:=info_parts Tryz.infoI7
 have hsm:bs.size≤maxLen:=by unfold maxLen;omega
 have HU:Hid (∀(W:World) (k:Nat) (e m:Int),Cu W gc bs k e→k≤bs.size→Calls Tryz.prog 117 #[.pointer (some ⟨gc,0,none⟩),.int .u64 m] W fun r w'=>r=.returned (.int .i64 (pUint bs k e m).1)∧Cu w' gc bs ((pUint bs k e m).2.1:Nat) (pUint bs k e m).2.2∧W.grownBy w' (some gc)):=fun W k e m q1 q2=>uint_any W gc bs k e m q1 hsm q2
 have HFl:Hid (∀(W:World) (k:Nat) (e d:Int),Cu W gc bs k e→Calls Tryz.prog 76 #[.pointer (some ⟨gc,0,none⟩),.int .i64 d] W fun r w'=>r=.returned (.tuple #[])∧Cu w' gc bs k (fl e d)∧W.grownBy w' (some gc)):=fun W k e d q=>fail_any W gc bs k e d q
 have HEr:Hid (∀(W:World) (k:Nat) (e:Int),Cu W gc bs k e→Calls Tryz.prog 74 #[.pointer (some ⟨gc,0,none⟩)] W fun r w'=>r=.returned (.int .i64 e)∧Below W.heap.size W w'):=fun W k e q=>err_any W gc bs k e q
 have HS:Hid (Bl w w gc bs k e 3 (.slice none 0 0) 0 []):=Bl.start h hk
 obtain ⟨R,hR⟩:∃R,gKs bs p n k e=R:=⟨_,rfl⟩
 have HIn0:Hid (InvK bs p n k e 0 [] k e):=InvK.start bs p n k e
 rw [hR]
 clear h
 go_enter Tryz.func158,Tryz.ntmps158
 go_wp2_with fail
 go_loopg [7] n (fun gh v5 wr=>∃(k':Nat) (e':Int) (l:List Int) (a:Option Addr) (c:Nat),.slice a l.length c=v5∧gh=n-l.length∧l.length≤n∧Hid (InvK bs p n k e l.length l k' e')∧Hid (Bl w wr gc bs k' e' 3 (.slice a l.length c) l.length (iV l)))
 case atStart=>exact ⟨k,e,[],none,0,rfl,rfl,by simp,HIn0,HS⟩
 case round=>
  clear HS HIn0
  obtain ⟨k',e',l,a,c,rfl,rfl,hi,HV,HB⟩:=hrel
  have hkb:=HB.out.kb
  by_cases hlt:l.length<n
  ·have hlt':(l.length:Int)<n:=by omega
   obtain ⟨x,k3,e3,hq⟩:∃x k3 e3,pUint bs k' e' 16777216=(x,k3,e3):=⟨_,_,_,rfl⟩
   have hx:=pUint_top bs k' e' 16777216
   have hk3:=pUint_at bs k' e' 16777216 hkb
   have hUc:=HU.out wr k' e' 16777216 HB.out.cur hkb
   rw [hq] at hx hk3 hUc
   dsimp only at hx hk3 hUc
   have HUc:Hid _:=hUc
   have hVn:=HV.out.next hlt hq
   obtain ⟨bb,hbb⟩:∃bb,decide (x<1∨p<x)=bb:=⟨_,rfl⟩
   rw [hbb] at hVn
   have HVn:Hid _:=hVn
   have HBb:Hid _:=hbb
   clear hUc hq HV hVn hbb
   go_wp2_with fail
   refine Calls.mono HUc.out ?_
   rintro r w3 ⟨rfl,hc3,hg3⟩
   have HB3:Hid _:=HB.out.read hg3 hc3 hk3.2
   clear HB hg3 hc3 HUc
   go_upto_region 4 with fail
   go_cut [8,14,21] (fun s8 s14 s21 wc=>s8=.int .i64 x∧s14=.int .i64 x∧s21=.bool bb∧Hid (Bl w wc gc bs k3 e3 3 (.slice a l.length c) l.length (iV l)))
   case first=>
    have hx0:=hx.1
    by_cases c1:x=0
    ·obtain rfl:bb=true:=by rw [← HBb.out];exact decide_eq_true (.inl (by omega))
     subst c1
     go_wp2_with fail
     go_meet
     exact ⟨rfl,rfl,rfl,HB3⟩
    ·have c1b:(x==0)=false:=by simpa using c1
     by_cases c2:p<x
     ·obtain rfl:bb=true:=by rw [← HBb.out];exact decide_eq_true (.inr c2)
      go_wp2_with fail
      go_meet
      exact ⟨rfl,rfl,rfl,HB3⟩
     ·obtain rfl:bb=false:=by rw [← HBb.out];exact decide_eq_false (by omega)
      go_wp2_with fail
      go_meet
      exact ⟨rfl,rfl,rfl,HB3⟩
   case rest=>
    clear HB3 HBb
    obtain ⟨rfl,rfl,rfl,HB4⟩:=hcut
    go_upto_if 21 with fail
    go_cut [] (fun wc=>Hid (Bl w wc gc bs k3 (if bb=true then fl e3 13 else e3) 3 (.slice a l.length c) l.length (iV l)))
    case first=>
     cases bb
     ·go_wp2_with fail
      go_meet
      exact HB4
     ·go_wp2_with fail
      refine Calls.mono (HFl.out _ k3 e3 13 HB4.out.cur) ?_
      rintro r w5 ⟨rfl,hc5,hg5⟩
      go_wp2_with fail
      go_meet
      exact HB4.out.read hg5 hc5 hk3.2
    case rest=>
     clear HB4
     generalize (if bb=true then fl e3 13 else e3)=e4 at *
     have HB5:=hcut
     clear hcut
     go_wp2_with fail
     refine Calls.mono (HEr.out _ k3 e4 HB5.out.cur) ?_
     rintro r w6 ⟨rfl,hb6⟩
     have HB6:Hid _:=HB5.out.more hb6
     clear HB5 hb6
     by_cases h4:e4=0
     ·subst h4
      have hsz:=HB6.out.fr.size
      go_wp2_with (at_builtin;refine wpList_append_lies _ rfl (.tmp 27) (.tmp 31) 49 rfl w.heap.size 3 i1 (.int .i64 0) 1 8 Tryz.underlying49 hi1 hz10 hz11 hz12 rfl (by decide) (.slice a l.length c) l.length (iV l) rfl (HB6.out.own.alloc _) ⟨w6.heap.size,0,none⟩ 1 1 [.int .i64 (wrap64 (p-x))] rfl rfl (cell_one_new _ _ _) (by intro u hu;simp at hu;subst hu;rfl) (by decide) (by unfold maxLen;omega) (by omega) (by simp;omega) _ rfl ?_)
      intro g2 cap2 w7 hown2 hgrow2 hlie hlt2
      have HB7:=HB6.out.more ((Below.refl _ _).alloc (Nat.le_refl _) (.cells #[.int .i64 (wrap64 (p-x))] 3))
      have HB8:Hid (Bl w w7 gc bs k3 0 3 (.slice (some ⟨g2,0,none⟩) (l++[wrap64 (p-x)]).length cap2) (l++[wrap64 (p-x)]).length (iV (l++[wrap64 (p-x)]))):=by
       show Bl _ _ _ _ _ _ _ _ _ _
       have:=HB7.app hgrow2 hown2
       simpa [iV] using this
      have HVl:Hid (InvK bs p n k e (l++[wrap64 (p-x)]).length (l++[wrap64 (p-x)]) k3 0):=by
       rw [List.length_append]
       exact ⟨fun _=>HVn.out.1 (by trivial),fun q=>absurd rfl q⟩
      clear HB6 HB7 hgrow2 hown2 hlie hlt2 HVn
      go_wp2_with fail
      go_roundg (n-(l.length+1))
      case measure=>omega
      case rel=>exact ⟨k3,0,l++[wrap64 (p-x)],some ⟨g2,0,none⟩,cap2,by simp,by simp,by simp;omega,HVl,HB8⟩
     ·have hf:=InvK.bad HVn.out h4
      rw [hR] at hf
      obtain ⟨f1,f2⟩:=hf
      have hez:R.2.2≠0:=by rw [← f2];exact h4
      have HB7:Hid (Bl w w6 gc bs R.2.1 R.2.2 3 (.slice none 0 0) 0 []):=by
       have hb:=HB6.out
       rw [f1,f2] at hb
       exact ⟨hb.cur,own_nil _ _ _,hb.fr,hb.hg,hb.kb⟩
      have h4':(e4 != 0)=true:=by simpa using h4
      clear HVn f1 f2 hR
      go_wp2_with fail
      go_ret
      exact ⟨[],_,rfl,HB7.out,fun q=>absurd q hez⟩
  ·have hlt':¬(l.length:Int)<n:=by omega
   have hf:=HV.out.fin (by omega)
   rw [hR] at hf
   obtain ⟨f1,f2,f3⟩:=hf
   rw [f1,f2] at HB
   have HF:Hid _:=f3
   clear HV f1 f2 f3 hkb
   go_wp2_with fail
   go_ret
   exact ⟨l,_,rfl,HB.out,HF.out⟩
set_option maxRecDepth 10000 in
set_option maxHeartbeats 1000000 in
theorem pcount_any (bs:ByteArray) (gc:Nat) (edges:Int) (S:Sp) (sb:Option Addr) (sc k:Nat) (e:Int) (w:World) (h:Cu w gc bs k e) (hs:bs.size≤4000000) (hk:k≤bs.size) (he1 : -9223372036854775808≤edges) (he2:edges≤9223372036854775807) :
  Calls Tryz.prog 159 #[.pointer (some ⟨gc,0,none⟩),.agg #[.slice sb S.ints.length sc,.int .i64 S.texts,.int .i64 S.least,.int .i64 S.most],.int .i64 edges] w fun r w'=>
   r=.returned (.int .i64 (pUint bs k e (max edges 0)).1)∧Cu w' gc bs (pUint bs k e (max edges 0)).2.1 (if (pUint bs k e (max edges 0)).1<S.least∨(0≤S.most∧S.most<(pUint bs k e (max edges 0)).1) then fl (pUint bs k e (max edges 0)).2.2 12 else (pUint bs k e (max edges 0)).2.2)∧w.grownBy w' (some gc):=by
 have hsm:bs.size≤maxLen:=by unfold maxLen;omega
 have hgl:=h.lt
 have hc0:Cu (w.alloc (.cells #[.slice sb S.ints.length sc,.int .i64 S.texts,.int .i64 S.least,.int .i64 S.most] 117)) gc bs k e:=At3.alloc h _
 have HA:Hid (AtN 117 (w.alloc (.cells #[.slice sb S.ints.length sc,.int .i64 S.texts,.int .i64 S.least,.int .i64 S.most] 117)) w.heap.size #[.slice sb S.ints.length sc,.int .i64 S.texts,.int .i64 S.least,.int .i64 S.most]):=AtN.new w 117 _
 have HG0:Hid (w.grownBy (w.alloc (.cells #[.slice sb S.ints.length sc,.int .i64 S.texts,.int .i64 S.least,.int .i64 S.most] 117)) (some gc)):=World.grownBy_alloc _ _ _
 have HFl:Hid (∀(W:World) (k:Nat) (e d:Int),Cu W gc bs k e→Calls Tryz.prog 76 #[.pointer (some ⟨gc,0,none⟩),.int .i64 d] W fun r w'=>r=.returned (.tuple #[])∧Cu w' gc bs k (fl e d)∧W.grownBy w' (some gc)):=fun W k e d q=>fail_any W gc bs k e d q
 have HU:=uint_any _ gc bs k e (max edges 0) hc0 hsm hk
 have hk6:=pUint_at bs k e (max edges 0) hk
 generalize pUint bs k e (max edges 0)=R at *
 obtain ⟨m,k6,e6⟩:=R
 dsimp only at *
 have HUc:Hid _:=HU
 obtain ⟨bb,hbb⟩:∃bb,decide (m<S.least∨(0≤S.most∧S.most<m))=bb:=⟨_,rfl⟩
 have he3:(if m<S.least∨(0≤S.most∧S.most<m) then fl e6 12 else e6)=if bb=true then fl e6 12 else e6:=by rw [← hbb];simp
 rw [he3]
 have HBb:Hid _:=hbb
 clear HU h hc0 he3 hbb
 obtain ⟨ed,hed⟩:∃ed,max edges 0=ed:=⟨_,rfl⟩
 rw [hed] at HUc
 go_enter Tryz.func159,Tryz.ntmps159
 go_upto_region 1 with fail
 go_cut [7] (fun s7 wc=>s7=.int .i64 m∧Hid (Cu wc gc bs k6 e6∧w.grownBy wc (some gc)∧AtN 117 wc w.heap.size #[.slice sb S.ints.length sc,.int .i64 S.texts,.int .i64 S.least,.int .i64 S.most]))
 case first=>
  by_cases h0:edges<0
  ·obtain rfl:ed=0:=by omega
   go_wp2_with fail
   refine Calls.mono HUc.out ?_
   rintro r w3 ⟨rfl,hc3,hg3⟩
   go_wp2_with fail
   go_meet
   exact ⟨rfl,hc3,gtrans HG0.out hg3,HA.out.kept hg3 (by simp;omega)⟩
  ·obtain rfl:ed=edges:=by omega
   go_wp2_with fail
   refine Calls.mono HUc.out ?_
   rintro r w3 ⟨rfl,hc3,hg3⟩
   go_wp2_with fail
   go_meet
   exact ⟨rfl,hc3,gtrans HG0.out hg3,HA.out.kept hg3 (by simp;omega)⟩
 case rest=>
  clear HUc hed HG0 HA
  obtain ⟨rfl,HB⟩:=hcut
  go_upto_region 2 with fail
  go_cut [27] (fun s27 wc=>s27=.bool bb∧Hid (Cu wc gc bs k6 e6∧w.grownBy wc (some gc)))
  case first=>
   have d2:=HB.out.2.2.cell 2
   have d3:=HB.out.2.2.cell 3
   by_cases c1:m<S.least
   ·obtain rfl:bb=true:=by rw [← HBb.out];exact decide_eq_true (.inl c1)
    go_wp2_with fail
    go_meet
    exact ⟨rfl,HB.out.1,HB.out.2.1⟩
   ·by_cases c2:0≤S.most
    ·by_cases c3:S.most<m
     ·obtain rfl:bb=true:=by rw [← HBb.out];exact decide_eq_true (.inr ⟨c2,c3⟩)
      go_wp2_with fail
      go_meet
      exact ⟨rfl,HB.out.1,HB.out.2.1⟩
     ·obtain rfl:bb=false:=by rw [← HBb.out];exact decide_eq_false (by omega)
      go_wp2_with fail
      go_meet
      exact ⟨rfl,HB.out.1,HB.out.2.1⟩
    ·obtain rfl:bb=false:=by rw [← HBb.out];exact decide_eq_false (by omega)
     go_wp2_with fail
     go_meet
     exact ⟨rfl,HB.out.1,HB.out.2.1⟩
  case rest=>
   clear HB HBb
   obtain ⟨rfl,HB⟩:=hcut
   cases bb
   ·go_wp2_with fail
    go_ret
    exact ⟨rfl,HB.out.1,HB.out.2⟩
   ·go_wp2_with fail
    refine Calls.mono (HFl.out _ k6 e6 12 HB.out.1) ?_
    rintro r w5 ⟨rfl,hc5,hg5⟩
    have HB5:Hid (Cu w5 gc bs k6 (fl e6 12)∧w.grownBy w5 (some gc)):=⟨hc5,gtrans HB.out.2 hg5⟩
    clear HB hc5 hg5
    go_wp2_with fail
    go_ret
    exact ⟨rfl,HB5.out.1,HB5.out.2⟩
end Go.Proofs.YtgoffkfpdigeeaaGreatDoor
namespace Go.Proofs.YtgoffkfpdigeeaaGreatDoor
open Go.RowKit
structure Gj (w wr:World) (g gN gS:Nat) (bs:ByteArray) (k:Nat) (e:Int) (N:Nd) (v1 v2 v3:Value) (sb:Option Addr) (sc:Nat) (S:Sp):Prop where
 cur:Cu wr g bs k e
 nd:AtN 51 wr gN #[.int .i64 N.kind,v1,v2,v3]
 own:OwnNd wr (gS+1) N v1 v2 v3
 sp:AtN 117 wr gS #[.slice sb S.ints.length sc,.int .i64 S.texts,.int .i64 S.least,.int .i64 S.most]
 cls:wr.ownsRow w.heap.size 3 1 (.slice sb S.ints.length sc) S.ints.length (iV S.ints)
 low:∀r,(Value.slice sb S.ints.length sc).ownBlock=some r→r<gS
 res:AtN 51 wr w.heap.size #[.int .i64 0,.slice none 0 0,.slice none 0 0,.slice none 0 0]
 fr:w.grownBy wr (some g)
 hg:g<w.heap.size
 hN:w.heap.size<gN
 hS:gN<gS
 kb:k≤bs.size
section
variable {w wr w':World} {g gN gS:Nat} {bs:ByteArray} {k k':Nat} {e e':Int} {N:Nd} {v v1 v2 v3:Value} {sb:Option Addr} {sc:Nat} {S:Sp}
theorem Gj.start {w1 w2:World} {q:Int} (hf:w.grownBy w1 (some g)) (hc:Cu w1 g bs k e) (hR:AtN 51 w1 w.heap.size #[.int .i64 0,.slice none 0 0,.slice none 0 0,.slice none 0 0])
  (hb:Below (w1.heap.size+1) (w1.alloc (.cells #[.int .i64 q,.slice none 0 0,.slice none 0 0,.slice none 0 0] 51)) w2) (hS:Ints w2 (w1.heap.size+1) (.slice sb S.ints.length sc) S.ints) (hg:g<w.heap.size) (hw:w.heap.size<w1.heap.size) (hk:k≤bs.size) :
  Gj w (w2.alloc (.cells #[.slice sb S.ints.length sc,.int .i64 S.texts,.int .i64 S.least,.int .i64 S.most] 117)) g w1.heap.size w2.heap.size bs k e ⟨q,[],[],[]⟩ (.slice none 0 0) (.slice none 0 0) (.slice none 0 0) sb sc S:=by
 have hb':Below (w1.alloc (.cells #[.int .i64 q,.slice none 0 0,.slice none 0 0,.slice none 0 0] 51)).heap.size (w1.alloc (.cells #[.int .i64 q,.slice none 0 0,.slice none 0 0,.slice none 0 0] 51)) w2:=by simpa using hb
 have hs:=hb'.size
 simp at hs
 refine ⟨At3.alloc (At3.belowAll (At3.alloc hc _) hb') _,((AtN.new w1 51 _).belowAll hb').alloc _,⟨own_nil _ _ _,own_nil _ _ _,own_nil _ _ _⟩,AtN.new w2 117 _,?_,?_,((hR.alloc _).belowAll hb').alloc _,?_,hg,hw,by omega,hk⟩
 ·exact own_mono (hS.alloc _) (by omega)
 ·intro r hr
  exact (hS.lt r hr).2
 ·exact gtrans (gtrans (gtrans hf (World.grownBy_alloc _ _ _)) (gbelow hb')) (World.grownBy_alloc _ _ _)
theorem Gj.read (h:Gj w wr g gN gS bs k e N v1 v2 v3 sb sc S) (hw:wr.grownBy w' (some g)) (hc:Cu w' g bs k' e') (hk:k'≤bs.size):Gj w w' g gN gS bs k' e' N v1 v2 v3 sb sc S:=by
 have h1:=h.hg
 have h2:=h.hN
 have h3:=h.hS
 exact ⟨hc,h.nd.kept hw (by simp;omega),h.own.kept hw (fun q hq=>by cases hq;omega),h.sp.kept hw (by simp;omega),row_kept h.cls hw (row_low h.cls (fun q hq=>by cases hq;omega)),h.low,h.res.kept hw (by simp;omega),gtrans h.fr hw,h.hg,h.hN,h.hS,hk⟩
theorem Gj.more (h:Gj w wr g gN gS bs k e N v1 v2 v3 sb sc S) (hb:Below wr.heap.size wr w'):Gj w w' g gN gS bs k e N v1 v2 v3 sb sc S:=
 ⟨At3.belowAll h.cur hb,h.nd.belowAll hb,h.own.belowB hb,h.sp.belowAll hb,own_below h.cls hb (Nat.le_refl _),h.low,h.res.belowAll hb,gtrans h.fr (gbelow hb),h.hg,h.hN,h.hS,h.kb⟩
theorem Gj.szS (h:Gj w wr g gN gS bs k e N v1 v2 v3 sb sc S):gS+1≤wr.heap.size:=by
 have:=(Array.getElem?_eq_some_iff.1 h.sp).1
 omega
theorem Gj.setN (h:Gj w wr g gN gS bs k e N v1 v2 v3 sb sc S) (o:Nat) (x:Value):Cu (wr.setCell ⟨gN,o,none⟩ x) g bs k e∧OwnNd (wr.setCell ⟨gN,o,none⟩ x) (gS+1) N v1 v2 v3∧AtN 117 (wr.setCell ⟨gN,o,none⟩ x) gS #[.slice sb S.ints.length sc,.int .i64 S.texts,.int .i64 S.least,.int .i64 S.most]∧
  (wr.setCell ⟨gN,o,none⟩ x).ownsRow w.heap.size 3 1 (.slice sb S.ints.length sc) S.ints.length (iV S.ints)∧AtN 51 (wr.setCell ⟨gN,o,none⟩ x) w.heap.size #[.int .i64 0,.slice none 0 0,.slice none 0 0,.slice none 0 0]∧w.grownBy (wr.setCell ⟨gN,o,none⟩ x) (some g):=by
 have h1:=h.hg
 have h2:=h.hN
 have h3:=h.hS
 exact ⟨At3.setOther h.cur _ (by simp;omega) _,h.own.set ⟨gN,o,none⟩ (by show gN<gS+1;omega) x,h.sp.setOther _ (by simp;omega) _,own_set h.cls _ (fun q hq e=>row_at h.cls h.nd (by decide) (by rw [hq,e])) _,h.res.setOther _ (by simp;omega) _,gnew h.fr ⟨gN,o,none⟩ (by show w.heap.size≤gN;omega) _⟩
theorem Gj.set1 {l:List Int} (h:Gj w wr g gN gS bs k e N v1 v2 v3 sb sc S) (ho:wr.ownsRow (gS+1) 2 1 v l.length (iV l)) :
  Gj w (wr.setCell ⟨gN,1,none⟩ v) g gN gS bs k e ⟨N.kind,l,N.texts,N.kids⟩ v v2 v3 sb sc S:=by
 obtain ⟨k1,k2,k3,k4,k5,k6⟩:=h.setN 1 v
 have h3:=h.hS
 exact ⟨k1,by simpa using h.nd.set 1 v,⟨own_set ho ⟨gN,1,none⟩ (fun q hq=>by have:=(ho.lt q hq).1;show q≠gN;omega) v,k2.t,k2.k⟩,k3,k4,h.low,k5,k6,h.hg,h.hN,h.hS,h.kb⟩
theorem Gj.set2 {l:List ByteArray} (h:Gj w wr g gN gS bs k e N v1 v2 v3 sb sc S) (ho:wr.ownsRow (gS+1) 9 1 v l.length (tV l)) :
  Gj w (wr.setCell ⟨gN,2,none⟩ v) g gN gS bs k e ⟨N.kind,N.ints,l,N.kids⟩ v1 v v3 sb sc S:=by
 obtain ⟨k1,k2,k3,k4,k5,k6⟩:=h.setN 2 v
 have h3:=h.hS
 exact ⟨k1,by simpa using h.nd.set 2 v,⟨k2.i,own_set ho ⟨gN,2,none⟩ (fun q hq=>by have:=(ho.lt q hq).1;show q≠gN;omega) v,k2.k⟩,k3,k4,h.low,k5,k6,h.hg,h.hN,h.hS,h.kb⟩
theorem Gj.set3 {l:List Int} (h:Gj w wr g gN gS bs k e N v1 v2 v3 sb sc S) (ho:wr.ownsRow (gS+1) 3 1 v l.length (iV l)) :
  Gj w (wr.setCell ⟨gN,3,none⟩ v) g gN gS bs k e ⟨N.kind,N.ints,N.texts,l⟩ v1 v2 v sb sc S:=by
 obtain ⟨k1,k2,k3,k4,k5,k6⟩:=h.setN 3 v
 have h3:=h.hS
 exact ⟨k1,by simpa using h.nd.set 3 v,⟨k2.i,k2.t,own_set ho ⟨gN,3,none⟩ (fun q hq=>by have:=(ho.lt q hq).1;show q≠gN;omega) v⟩,k3,k4,h.low,k5,k6,h.hg,h.hN,h.hS,h.kb⟩
end
theorem Gj.clsAt {w wr w':World} {g gN gS:Nat} {bs:ByteArray} {k:Nat} {e:Int} {N:Nd} {v1 v2 v3:Value} {sb:Option Addr} {sc:Nat} {S:Sp} (h:Gj w wr g gN gS bs k e N v1 v2 v3 sb sc S) (hw:wr.grownBy w' (some g)):LsAt w' sb (iV S.ints):=
 LsAt.of_own (row_kept h.cls hw (row_low h.cls (fun q hq=>by cases hq;exact h.hg)))
def NdGotC (w w':World) (g:Nat) (bs:ByteArray) (r:Ending) (R:Nd × Nat × Int):Prop:=
 ∃a1 c1 a2 c2 a3 c3,r=.returned (.agg #[.int .i64 R.1.kind,.slice a1 R.1.ints.length c1,.slice a2 R.1.texts.length c2,.slice a3 R.1.kids.length c3])∧OwnNd w' w.heap.size R.1 (.slice a1 R.1.ints.length c1) (.slice a2 R.1.texts.length c2) (.slice a3 R.1.kids.length c3)∧Cu w' g bs R.2.1 R.2.2∧w.grownBy w' (some g)
theorem Gj.fin {w wr:World} {g gN gS:Nat} {bs:ByteArray} {k:Nat} {e:Int} {N:Nd} {v1 v2 v3:Value} {sb:Option Addr} {sc:Nat} {S:Sp} (h:Gj w wr g gN gS bs k e N v1 v2 v3 sb sc S) (x0 x1 x2 x3:Value) (y:Nd) {a1 a2 a3:Option Addr} {c1 c2 c3:Nat}
  (ho:OwnNd wr (gS+1) y (.slice a1 y.ints.length c1) (.slice a2 y.texts.length c2) (.slice a3 y.kids.length c3)) :
  NdGotC w ((((wr.setCell ⟨w.heap.size,0,none⟩ x0).setCell ⟨w.heap.size,1,none⟩ x1).setCell ⟨w.heap.size,2,none⟩ x2).setCell ⟨w.heap.size,3,none⟩ x3) g bs (.returned (.agg #[.int .i64 y.kind,.slice a1 y.ints.length c1,.slice a2 y.texts.length c2,.slice a3 y.kids.length c3])) (y,k,e):=by
 have h1:=h.hg
 have h2:=h.hN
 have h3:=h.hS
 have hb:∀o:Nat,(⟨w.heap.size,o,none⟩:Addr).block<gS+1:=fun o=>by show w.heap.size<gS+1;omega
 refine ⟨a1,c1,a2,c2,a3,c3,rfl,?_,?_,?_⟩
 ·exact OwnNd.mono ((((ho.set _ (hb 0) x0).set _ (hb 1) x1).set _ (hb 2) x2).set _ (hb 3) x3) (by omega)
 ·exact At3.setOther (At3.setOther (At3.setOther (At3.setOther h.cur _ (by show w.heap.size≠g;omega) _) _ (by show w.heap.size≠g;omega) _) _ (by show w.heap.size≠g;omega) _) _ (by show w.heap.size≠g;omega) _
 ·exact gnew (gnew (gnew (gnew h.fr _ (Nat.le_refl _) _) _ (Nat.le_refl _) _) _ (Nat.le_refl _) _) _ (Nat.le_refl _) _
theorem gKs_ok {b:ByteArray} {p:Int} {n k:Nat} {e:Int} (h:(gKs b p n k e).2.2=0):e=0:=by
 by_cases he:e=0
 ·exact he
 ·rw [gKs_stop b p n k he] at h;exact h
theorem gTs_ok {b:ByteArray} {L:List ByteArray} {n k:Nat} {e:Int} (h:(gTs b L n k e).2.2=0):e=0:=by
 by_cases he:e=0
 ·exact he
 ·rw [gTs_stop b L n k he] at h;exact h
theorem pUint_ok {b:ByteArray} {k:Nat} {e m:Int} (h:(pUint b k e m).2.2=0):e=0:=by
 by_cases he:e=0
 ·exact he
 ·rw [pUint_had b k m he] at h;exact h
theorem fl_ok {e d:Int} {P:Prop} [Decidable P] (h:(if P then fl e d else e)=0):e=0:=by
 by_cases he:e=0
 ·exact he
 ·rw [fl_had d he,ite_self] at h;exact h
set_option maxRecDepth 10000 in
set_option maxHeartbeats 4000000 in
theorem pget_any (bs:ByteArray) (gc:Nat) (p edges:Int) (k:Nat) (e:Int) (w:World) {B g gm:Nat} {v:Value} {L:List ByteArray} (h:Cu w gc bs k e) (hs:bs.size≤4000000) (hk:k≤bs.size) (hT:∀W,w.grownBy W (some gc)→Tb W B g gm v L∧Tabs12 W) (he : -9223372036854775808≤edges∧edges≤9223372036854775807) :
  Calls Tryz.prog 133 #[.pointer (some ⟨gc,0,none⟩),.int .i64 p,.pointer (some ⟨g,0,none⟩),.int .i64 edges] w fun r w'=>NdGotC w w' gc bs r (gNd bs p L edges k e):=by
 have HTT:Hid (∀W,w.grownBy W (some gc)→Tb W B g gm v L∧Tabs12 W):=hT
 have hgl:=h.lt
 have HC:Hid (Cu (w.alloc (.cells #[.int .i64 0,.slice none 0 0,.slice none 0 0,.slice none 0 0] 51)) gc bs k e):=At3.alloc h _
 have HR0:Hid (AtN 51 (w.alloc (.cells #[.int .i64 0,.slice none 0 0,.slice none 0 0,.slice none 0 0] 51)) w.heap.size #[.int .i64 0,.slice none 0 0,.slice none 0 0,.slice none 0 0]):=AtN.new w 51 _
 have HF0:Hid (w.grownBy (w.alloc (.cells #[.int .i64 0,.slice none 0 0,.slice none 0 0,.slice none 0 0] 51)) (some gc)):=World.grownBy_alloc _ _ _
 have hsm:bs.size≤maxLen:=by unfold maxLen;omega
 have HU:Hid (∀(W:World) (k:Nat) (e m:Int),Cu W gc bs k e→k≤bs.size→Calls Tryz.prog 117 #[.pointer (some ⟨gc,0,none⟩),.int .u64 m] W fun r w'=>r=.returned (.int .i64 (pUint bs k e m).1)∧Cu w' gc bs ((pUint bs k e m).2.1:Nat) (pUint bs k e m).2.2∧W.grownBy w' (some gc)):=fun W k e m q1 q2=>uint_any W gc bs k e m q1 hsm q2
 have HFl:Hid (∀(W:World) (k:Nat) (e d:Int),Cu W gc bs k e→Calls Tryz.prog 76 #[.pointer (some ⟨gc,0,none⟩),.int .i64 d] W fun r w'=>r=.returned (.tuple #[])∧Cu w' gc bs k (fl e d)∧W.grownBy w' (some gc)):=fun W k e d q=>fail_any W gc bs k e d q
 have HEr:Hid (∀(W:World) (k:Nat) (e:Int),Cu W gc bs k e→Calls Tryz.prog 74 #[.pointer (some ⟨gc,0,none⟩)] W fun r w'=>r=.returned (.int .i64 e)∧Below W.heap.size W w'):=fun W k e q=>err_any W gc bs k e q
 have HSp:Hid (∀k W,w.grownBy W (some gc)→Calls Tryz.prog 155 #[.int .i64 k] W fun e w'=>SpIs W w' e (newSp k)):=fun k W hW=>new_any k W (hT W hW).2.k
 have he1:=he.1
 have he2:=he.2
 obtain ⟨R,hR⟩:∃R,gNd bs p L edges k e=R:=⟨_,rfl⟩
 have HRD:Hid (gNd bs p L edges k e=R):=hR
 rw [hR]
 clear hR he h hT
 go_enter Tryz.func133,Tryz.ntmps133
 go_wp2_with fail
 refine Calls.mono (HU.out _ k e 16777216 HC.out hk) ?_
 rintro r w1 ⟨rfl,hc1,hg1⟩
 have hk1:=pUint_at bs k e 16777216 hk
 have hq1:=pUint_top bs k e 16777216
 obtain ⟨q,k1,e1,hqk⟩:∃q k1 e1,pUint bs k e 16777216=(q,k1,e1):=⟨_,_,_,rfl⟩
 rw [hqk] at hc1 hk1 hq1 ⊢
 dsimp only at hc1 hk1 hq1 ⊢
 have HR1:Hid (AtN 51 w1 w.heap.size #[.int .i64 0,.slice none 0 0,.slice none 0 0,.slice none 0 0]):=AtN.kept HR0.out hg1 (by simp;omega)
 have HF1:Hid (w.grownBy w1 (some gc)):=gtrans HF0.out hg1
 have HC1:Hid (Cu w1 gc bs k1 e1):=hc1
 have HQ:Hid (gNd bs p L edges k e=if (gRest bs p L edges (newSp q) k1 (if (newSp q).ok=true then e1 else fl e1 9)).2.2=0 then (⟨q,(gRest bs p L edges (newSp q) k1 (if (newSp q).ok=true then e1 else fl e1 9)).1.1,(gRest bs p L edges (newSp q) k1 (if (newSp q).ok=true then e1 else fl e1 9)).1.2.1,(gRest bs p L edges (newSp q) k1 (if (newSp q).ok=true then e1 else fl e1 9)).1.2.2⟩,(gRest bs p L edges (newSp q) k1 (if (newSp q).ok=true then e1 else fl e1 9)).2.1,0) else (⟨0,[],[],[]⟩,(gRest bs p L edges (newSp q) k1 (if (newSp q).ok=true then e1 else fl e1 9)).2.1,(gRest bs p L edges (newSp q) k1 (if (newSp q).ok=true then e1 else fl e1 9)).2.2)):=by
  show _=_
  unfold gNd
  rw [hqk]
 rw [HRD.out] at HQ
 have hw1:=hg1.size
 simp at hw1
 clear HC HR0 HF0 hqk hc1 hg1 HRD hk
 have HF1a:Hid (w.grownBy (w1.alloc (.cells #[.int .i64 q,.slice none 0 0,.slice none 0 0,.slice none 0 0] 51)) (some gc)):=gtrans HF1.out (World.grownBy_alloc _ _ _)
 go_wp2_with fail
 refine Calls.mono (HSp.out q _ HF1a.out) ?_
 rintro r w2 ⟨v0,rfl,hS,hb2⟩
 obtain ⟨S,hSq⟩:∃S,newSp q=S:=⟨_,rfl⟩
 rw [hSq] at hS HQ ⊢
 obtain ⟨sb,sc,hv⟩:∃sb sc,v0=.slice sb S.ints.length sc:=by
  rcases hS.2 with ⟨rfl,h0⟩|⟨g',cap',cur',rfl,_⟩
  ·exact ⟨_,_,by rw [h0]⟩
  ·exact ⟨_,_,rfl⟩
 subst hv
 simp at hS hb2
 have HGi:=Gj.start HF1.out HC1.out HR1.out hb2 hS hgl hw1 hk1.2
 have HG:Hid _:=HGi
 clear HGi HR1 HF1 HF1a HC1 hS hb2 hw1 HSp
 go_upto_if 22 with fail
 go_cut [11] (fun _ wc=>Hid (Gj w wc gc w1.heap.size w2.heap.size bs k1 (if S.ok=true then e1 else fl e1 9) ⟨q,[],[],[]⟩ (.slice none 0 0) (.slice none 0 0) (.slice none 0 0) sb sc S))
 case first=>
  cases hok:S.ok
  ·go_wp2_with fail
   refine Calls.mono (HFl.out _ k1 e1 9 HG.out.cur) ?_
   rintro r w3 ⟨rfl,hc3,hg3⟩
   go_wp2_with fail
   go_meet
   show Gj _ _ _ _ _ _ _ _ _ _ _ _ _ _ _
   rw [if_neg (by rw [hok];decide)]
   exact HG.out.read hg3 hc3 hk1.2
  ·go_wp2_with fail
   go_meet
   show Gj _ _ _ _ _ _ _ _ _ _ _ _ _ _ _
   rw [if_pos hok]
   exact HG.out
 case rest=>
  clear HG
  obtain ⟨e2,he2⟩:∃e2,(if S.ok=true then e1 else fl e1 9)=e2:=⟨_,rfl⟩
  rw [he2] at HQ hcut
  clear he2
  generalize w1.heap.size=gN at hcut ⊢
  generalize w2.heap.size=gS at hcut ⊢
  have HG:=hcut
  clear hcut
  obtain ⟨hsn,hst1,hst2,hsl1,hsl2,hsm1,hsm2⟩:=newSp_small q
  rw [hSq] at hsn hst1 hst2 hsl1 hsl2 hsm1 hsm2
  clear hSq
  obtain ⟨A,k4,e4,hA⟩:∃A k4 e4,gIs bs S.ints k1 e2=(A,k4,e4):=⟨_,_,_,rfl⟩
  obtain ⟨D,k5,e5,hD⟩:∃D k5 e5,gTs bs L S.texts.toNat k4 e4=(D,k5,e5):=⟨_,_,_,rfl⟩
  obtain ⟨m,k6,e6,hM⟩:∃m k6 e6,pUint bs k5 e5 (max edges 0)=(m,k6,e6):=⟨_,_,_,rfl⟩
  obtain ⟨bm,hbm⟩:∃bm,decide (m<S.least∨(0≤S.most∧S.most<m))=bm:=⟨_,rfl⟩
  obtain ⟨e7,h7⟩:∃e7,(if bm=true then fl e6 12 else e6)=e7:=⟨_,rfl⟩
  obtain ⟨K,k8,e8,hK⟩:∃K k8 e8,gKs bs p m.toNat k6 e7=(K,k8,e8):=⟨_,_,_,rfl⟩
  rw [gRest_eq hA hD hM (by rw [hbm];exact h7) hK] at HQ
  dsimp only at HQ
  have hm:=pUint_top bs k5 e5 (max edges 0)
  rw [hM] at hm
  dsimp only at hm
  have HOk:Hid (e8=0→e4=0∧e5=0):=fun q8=>by
   have q7:e7=0:=gKs_ok (b:=bs) (p:=p) (n:=m.toNat) (k:=k6) (by rw [hK];exact q8)
   have q6:e6=0:=fl_ok (h7.trans q7)
   have q5:e5=0:=pUint_ok (b:=bs) (k:=k5) (m:=max edges 0) (by rw [hM];exact q6)
   exact ⟨gTs_ok (b:=bs) (L:=L) (n:=S.texts.toNat) (k:=k4) (by rw [hD];exact q5),q5⟩
  have HA:Hid _:=hA
  have HD:Hid _:=hD
  have HM:Hid _:=hM
  have HBm:Hid _:=hbm
  have H7:Hid _:=h7
  have HK:Hid _:=hK
  clear hA hD hM hbm h7 hK
  have hgS:=HG.out.hS
  have d0:wc.cell? ⟨gS,0,none⟩=some (.slice sb S.ints.length sc):=HG.out.sp.cell 0
  have sz1:=HG.out.szS
  go_wp2_with fail
  refine Calls.mono (pints_any bs gc S.ints sb sc k1 e2 _ HG.out.cur hs HG.out.kb (fun W hW=>HG.out.clsAt hW) (fun W hW=>(HTT.out W (gtrans HG.out.fr hW)).2.s) (by omega)) ?_
  rintro r w3 ⟨l1,u1,rfl,hB,hl⟩
  obtain ⟨a1,x1,rfl⟩:=own_shape6 hB.own
  rw [HA.out] at hB hl
  dsimp only at hB hl
  have HG3:Hid (Gj w w3 gc gN gS bs k4 e4 ⟨q,[],[],[]⟩ (.slice none 0 0) (.slice none 0 0) (.slice none 0 0) sb sc S):=HG.out.read hB.fr hB.cur hB.kb
  have HG4:Hid (Gj w (w3.setCell ⟨gN,1,none⟩ (.slice a1 l1.length x1)) gc gN gS bs k4 e4 ⟨q,l1,[],[]⟩ (.slice a1 l1.length x1) (.slice none 0 0) (.slice none 0 0) sb sc S):=HG3.out.set1 (own_mono hB.own sz1)
  have HL1:Hid (e4=0→l1=A):=hl
  have c1:w3.cell? ⟨gN,1,none⟩=some (.slice none 0 0):=HG3.out.nd.cell 1
  have f1:=HG3.out.nd.fz 1
  have d1:w3.cell? ⟨gS,1,none⟩=some (.int .i64 S.texts):=HG3.out.sp.cell 1
  have sz3:=HG4.out.szS
  have htt:=ptexts_any bs gc S.texts.toNat k4 e4 _ HG4.out.cur hs HG4.out.kb (fun W hW=>(HTT.out W (gtrans HG4.out.fr hW)).1) (by omega)
  rw [HD.out,show ((S.texts.toNat:Nat):Int)=S.texts by omega] at htt
  dsimp only at htt
  have HTt:Hid _:=htt
  clear htt
  clear HG hB hl HG3 d0 HA sz1
  go_wp2_with fail
  refine Calls.mono HTt.out ?_
  rintro r w4 ⟨l2,u2,rfl,hB,hl⟩
  obtain ⟨a2,x2,rfl⟩:=own_shape6 hB.own
  have HG5:Hid (Gj w w4 gc gN gS bs k5 e5 ⟨q,l1,[],[]⟩ (.slice a1 l1.length x1) (.slice none 0 0) (.slice none 0 0) sb sc S):=HG4.out.read hB.fr hB.cur hB.kb
  have HG6:Hid (Gj w (w4.setCell ⟨gN,2,none⟩ (.slice a2 l2.length x2)) gc gN gS bs k5 e5 ⟨q,l1,l2,[]⟩ (.slice a1 l1.length x1) (.slice a2 l2.length x2) (.slice none 0 0) sb sc S):=HG5.out.set2 (own_mono hB.own sz3)
  have HL2:Hid (e5=0→l2=D):=hl
  have c2:w4.cell? ⟨gN,2,none⟩=some (.slice none 0 0):=HG5.out.nd.cell 2
  have f2:=HG5.out.nd.fz 2
  have d0:w4.cell? ⟨gS,0,none⟩=some (.slice sb S.ints.length sc):=HG5.out.sp.cell 0
  have d1:w4.cell? ⟨gS,1,none⟩=some (.int .i64 S.texts):=HG5.out.sp.cell 1
  have d2:w4.cell? ⟨gS,2,none⟩=some (.int .i64 S.least):=HG5.out.sp.cell 2
  have d3:w4.cell? ⟨gS,3,none⟩=some (.int .i64 S.most):=HG5.out.sp.cell 3
  have sz5:=HG6.out.szS
  have hpc:=pcount_any bs gc edges S sb sc k5 e5 (w4.setCell ⟨gN,2,none⟩ (.slice a2 l2.length x2)) HG6.out.cur hs HG6.out.kb he1 he2
  rw [HM.out] at hpc
  dsimp only at hpc
  have h7e:(if m<S.least∨(0≤S.most∧S.most<m) then fl e6 12 else e6)=e7:=by
   rw [← H7.out,← HBm.out];simp
  rw [h7e] at hpc
  have HPc:Hid _:=hpc
  have hk6:=pUint_at bs k5 e5 (max edges 0) HG6.out.kb
  rw [HM.out] at hk6
  dsimp only at hk6
  clear HG4 hB hl HG5 HD sz3 HTt hpc h7e HM HBm H7 c1 f1
  go_wp2_with fail
  refine Calls.mono HPc.out ?_
  rintro r w5 ⟨rfl,hc5,hg5⟩
  have HG7:Hid (Gj w w5 gc gN gS bs k6 e7 ⟨q,l1,l2,[]⟩ (.slice a1 l1.length x1) (.slice a2 l2.length x2) (.slice none 0 0) sb sc S):=HG6.out.read hg5 hc5 hk6.2
  have sz7:=HG7.out.szS
  have hpk:=pkids_any bs gc m.toNat p k6 e7 w5 HG7.out.cur hs HG7.out.kb (by omega)
  rw [HK.out,show ((m.toNat:Nat):Int)=m by omega] at hpk
  dsimp only at hpk
  have HPk:Hid _:=hpk
  clear HG6 HPc hpk hc5 hg5 c2 f2 d0 d1 d2 d3 HK
  go_wp2_with fail
  refine Calls.mono HPk.out ?_
  rintro r w6 ⟨l3,u3,rfl,hB,hl⟩
  obtain ⟨a3,x3,rfl⟩:=own_shape6 hB.own
  have HG8:Hid (Gj w w6 gc gN gS bs k8 e8 ⟨q,l1,l2,[]⟩ (.slice a1 l1.length x1) (.slice a2 l2.length x2) (.slice none 0 0) sb sc S):=HG7.out.read hB.fr hB.cur hB.kb
  have HG9:Hid (Gj w (w6.setCell ⟨gN,3,none⟩ (.slice a3 l3.length x3)) gc gN gS bs k8 e8 ⟨q,l1,l2,l3⟩ (.slice a1 l1.length x1) (.slice a2 l2.length x2) (.slice a3 l3.length x3) sb sc S):=HG8.out.set3 (own_mono hB.own sz7)
  have HL3:Hid (e8=0→l3=K):=hl
  have c3:w6.cell? ⟨gN,3,none⟩=some (.slice none 0 0):=HG8.out.nd.cell 3
  have f3:=HG8.out.nd.fz 3
  clear HG7 hB hl HG8 HPk
  go_wp2_with fail
  refine Calls.mono (HEr.out _ k8 e8 HG9.out.cur) ?_
  rintro r w7 ⟨rfl,hb7⟩
  have HN:Hid _:=HG9.out.more hb7
  clear HG9 hb7 c3 f3
  have r0:=HN.out.res.cell 0
  have r1:=HN.out.res.cell 1
  have r2:=HN.out.res.cell 2
  have r3:=HN.out.res.cell 3
  have f0:=HN.out.res.fz 0
  have f1:=HN.out.res.fz 1
  have f2:=HN.out.res.fz 2
  have f3:=HN.out.res.fz 3
  by_cases h8:e8=0
  ·subst h8
   obtain ⟨q4,q5⟩:=HOk.out rfl
   obtain rfl:=HL1.out q4
   obtain rfl:=HL2.out q5
   obtain rfl:=HL3.out rfl
   have n0:=HN.out.nd.cell 0
   have n1:=HN.out.nd.cell 1
   have n2:=HN.out.nd.cell 2
   have n3:=HN.out.nd.cell 3
   have HR:Hid (R=(⟨q,l1,l2,l3⟩,k8,0)):=by
    have h:=HQ.out
    rw [if_pos rfl] at h
    exact h
   clear HQ HL1 HL2 HL3
   go_wp2_with fail
   have A4:=at_set4 HN.out.res (.int .i64 q) (.slice a1 l1.length x1) (.slice a2 l2.length x2) (.slice a3 l3.length x3)
   have z0:=A4.cell 0
   have z1:=A4.cell 1
   have z2:=A4.cell 2
   have z3:=A4.cell 3
   refine bodyPost_ret (v:=.agg #[.int .i64 q,.slice a1 l1.length x1,.slice a2 l2.length x2,.slice a3 l3.length x3]) (by simp [results,Tryz.results133,go_sem, *]) rfl ?_
   rw [HR.out]
   exact HN.out.fin _ _ _ _ ⟨q,l1,l2,l3⟩ HN.out.own
  ·have HR:Hid (R=(⟨0,[],[],[]⟩,k8,e8)):=by
    have h:=HQ.out
    rw [if_neg h8] at h
    exact h
   have h8':(e8 != 0)=true:=by simpa using h8
   clear HQ
   go_wp2_with fail
   have A4:=at_set4 HN.out.res (.int .i64 0) (.slice none 0 0) (.slice none 0 0) (.slice none 0 0)
   have z0:=A4.cell 0
   have z1:=A4.cell 1
   have z2:=A4.cell 2
   have z3:=A4.cell 3
   refine bodyPost_ret (v:=.agg #[.int .i64 0,.slice none 0 0,.slice none 0 0,.slice none 0 0]) (by simp [results,Tryz.results133,go_sem, *]) rfl ?_
   rw [HR.out]
   exact HN.out.fin _ _ _ _ ⟨0,[],[],[]⟩ ⟨own_nil _ _ _,own_nil _ _ _,own_nil _ _ _⟩
end Go.Proofs.YtgoffkfpdigeeaaGreatDoor
