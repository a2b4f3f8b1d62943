import Derived.Deep.QuietTactic
import Derived.Laws.OwnMore
import Derived.Deep.AppendLies
import Derived.Lib.QuietBelow
import Derived.BigQuiet
import Derived.Test.YtcgjgjjegnofeaaGreatDoorPB03
import Derived.Test.YtcgjgjjegnofeaaGreatDoorRows
import Derived.WalkKit
import Derived.WalkSpells
import Derived.WalkLawsBesides
import Derived.Deep.RegionWith
import Derived.Test.YtcgjgjjegnofeaaGreatDoorPB04
import Derived.Test.YtcgjgjjegnofeaaGreatDoorPB01
namespace Go.Proofs.YtcgjgjjegnofeaaGreatDoor
def idx6 (s:ByteArray):List ByteArray→Nat
 | []=>0
 | x :: r=>if x=s then 0 else idx6 s r+1
theorem idx6_le (s:ByteArray) (L:List ByteArray):idx6 s L≤L.length:=by
 induction L with
 | nil=>exact Nat.le_refl _
 | cons x r ih=>unfold idx6;split <;> simp <;> omega
theorem idx6_at (s:ByteArray):∀(L:List ByteArray) (i:Nat) (h:i<L.length),L[i]=s→(∀j (hj:j<L.length),j<i→L[j]≠s)→idx6 s L=i:=by
 intro L
 induction L with
 | nil=>intro i h;simp at h
 | cons x r ih=>
  intro i h he hn
  unfold idx6
  match i,h,he with
  | 0,_,he=>rw [if_pos (by simpa using he)]
  | i+1,h,he=>
   have h0:=hn 0 (by simp) (by omega)
   rw [if_neg (by simpa using h0),ih i (by simpa using h) (by simpa using he) (fun j hj hji=>by have:=hn (j+1) (by simpa using hj) (by omega);simpa using this)]
theorem idx6_no (s:ByteArray) (L:List ByteArray) (h:∀j (hj:j<L.length),L[j]≠s):idx6 s L=L.length:=by
 induction L with
 | nil=>rfl
 | cons x r ih=>
  have h0:=h 0 (by simp)
  unfold idx6
  rw [if_neg (by simpa using h0),ih (fun j hj=>by have:=h (j+1) (by simpa using hj);simpa using this)]
  rfl
theorem idx6_get (s:ByteArray) (L:List ByteArray) (h:idx6 s L<L.length):L[idx6 s L]=s:=by
 induction L with
 | nil=>simp at h
 | cons x r ih=>
  unfold idx6 at h
  by_cases e:x=s
  ·have h0:idx6 s (x :: r)=0:=by unfold idx6;rw [if_pos e]
   simp only [h0]
   exact e
  ·rw [if_neg e] at h
   have h0:idx6 s (x :: r)=idx6 s r+1:=if_neg e
   simp only [h0,List.getElem_cons_succ]
   exact ih (by simpa using h)
theorem idx6_mem (s:ByteArray) (L:List ByteArray):idx6 s L<L.length↔s ∈ L:=by
 constructor
 ·intro h
  have:=List.getElem_mem h
  rw [idx6_get s L h] at this
  exact this
 ·intro h
  have hle:=idx6_le s L
  by_cases e:idx6 s L=L.length
  ·exfalso
   induction L with
   | nil=>simp at h
   | cons x r ih=>
    unfold idx6 at e
    by_cases q:x=s
    ·rw [if_pos q] at e;simp at e
    ·rw [if_neg q] at e
     refine ih ?_ (idx6_le s r) (by simpa using e)
     rcases List.mem_cons.1 h with rfl|h
     ·exact absurd rfl q
     ·exact h
  ·omega
theorem idx6_append (s:ByteArray) (L M:List ByteArray) (h:idx6 s L<L.length):idx6 s (L++M)=idx6 s L:=by
 induction L with
 | nil=>simp at h
 | cons x r ih=>
  rw [List.cons_append]
  unfold idx6 at h ⊢
  split
  ·rfl
  ·rename_i q
   rw [if_neg q] at h
   rw [ih (by simpa using h)]
def pFind (L:List ByteArray) (s:ByteArray):Int:=if idx6 s L<L.length then (idx6 s L:Int) else -1
def pIntern (L:List ByteArray) (s:ByteArray):List ByteArray:=if idx6 s L<L.length then L else L++[s]
theorem pIntern_idx (L:List ByteArray) (s:ByteArray):idx6 s L<(pIntern L s).length∧idx6 s (pIntern L s)=idx6 s L:=by
 unfold pIntern
 have hle:=idx6_le s L
 by_cases h:idx6 s L<L.length
 ·rw [if_pos h];exact ⟨h,rfl⟩
 ·rw [if_neg h]
  have e:idx6 s L=L.length:=by omega
  refine ⟨by simp;omega,?_⟩
  rw [e]
  refine idx6_at s _ L.length (by simp) (by simp) (fun j hj hji=>?_)
  intro hh
  rw [List.getElem_append_left hji] at hh
  have:=(idx6_mem s L).2 (hh ▸ List.getElem_mem hji)
  omega
def sum6 (L:List ByteArray):Nat:=(L.map ByteArray.size).sum
theorem sum6_append (L M:List ByteArray):sum6 (L++M)=sum6 L+sum6 M:=by simp [sum6]
theorem sum6_take (L:List ByteArray) (i:Nat) (h:i<L.length):sum6 (L.take (i+1))=sum6 (L.take i)+L[i].size:=by
 rw [List.take_add_one,List.getElem?_eq_getElem h,sum6_append]
 simp [sum6]
theorem sum6_le (L:List ByteArray) (m:Nat) (h:∀s ∈ L,s.size≤m):sum6 L≤m*L.length:=by
 induction L with
 | nil=>simp [sum6]
 | cons x r ih=>
  have h1:=ih (fun s hs=>h s (by simp [hs]))
  have h2:=h x (by simp)
  have h3:sum6 (x :: r)=x.size+sum6 r:=by simp [sum6]
  rw [h3,List.length_cons,Nat.mul_add]
  omega
end Go.Proofs.YtcgjgjjegnofeaaGreatDoor
namespace Go.Proofs.YtcgjgjjegnofeaaGreatDoor
open Go.RowKit
theorem Tryz.infoS6:(Tryz.prog.info? 9).map (fun i=>(i.zero,i.size,i.bytes))=some (some (.string ⟨#[]⟩),1,16):=by kernel_rfl
def TextAt (w:World) (b o:Nat) (L:List ByteArray):Prop:=∀i (h:i<L.length),b<w.heap.size∧w.cell? ⟨b,o+i,none⟩=some (.string (L[i]'h))
theorem TextAt.below {w w':World} {b o:Nat} {L:List ByteArray} (h:TextAt w b o L) (hb:Below w.heap.size w w'):TextAt w' b o L:=fun i hi=>by
 obtain ⟨h1,h2⟩:=h i hi
 exact ⟨Nat.lt_of_lt_of_le h1 hb.size,(hb.cell (p:=⟨b,o+i,none⟩) h1).trans h2⟩
theorem own_texts {w:World} {B:Nat} {a:Option Addr} {n cap:Nat} {xs:List ByteArray} (h:w.ownsRow B 9 1 (.slice a n cap) n (tV xs)) (hn:xs.length=n):∃gk,(0<n→a=some ⟨gk,0,none⟩)∧TextAt w gk 0 xs:=by
 rcases h.2 with ⟨hv,h0⟩|⟨g,cap',cur,hv,hb,hg,_⟩
 ·exact ⟨0,by omega,fun i hi=>by omega⟩
 ·have ha:a=some ⟨g,0,none⟩:=by injection hv
  subst ha
  have hlt:g<w.heap.size:=(Array.getElem?_eq_some_iff.1 hg).1
  refine ⟨g,fun _=>rfl,fun i hi=>?_⟩
  have c0:=h.cells (g:=g) rfl i (.string xs[i]) (by simp [tV,hi])
  rw [show (⟨g,0,none⟩:Addr).add i=⟨g,0+i,none⟩ by unfold Addr.add;split <;> simp_all] at c0
  exact ⟨hlt,c0⟩
set_option maxRecDepth 10000 in
set_option maxHeartbeats 400000 in
theorem find6_any (a:Option Addr) (cap b o:Nat) (L:List ByteArray) (s:ByteArray) (w:World) (ha:0<L.length→a=some ⟨b,o,none⟩) (hL:TextAt w b o L) (hs:L.length≤200000) :
  Calls Tryz.prog 130 #[.slice a L.length cap,.string s] w fun e w'=>e=.returned (.int .i64 (pFind L s))∧w'=w:=by
 have HR:Hid ((∀i (h:i<L.length),L[i]=s→(∀j (hj:j<L.length),j<i→L[j]≠s)→pFind L s=i)∧((∀i (h:i<L.length),L[i]≠s)→pFind L s = -1)):=by
  constructor
  ·intro i h h1 h2
   unfold pFind
   rw [idx6_at s L i h h1 h2,if_pos h]
  ·intro h
   unfold pFind
   rw [idx6_no s L h,if_neg (by omega)]
 generalize pFind L s=R at *
 go_enter Tryz.func130,Tryz.ntmps130
 go_wp2_with fail
 go_loopw [5] (fun iv wr=>∃i:Nat,iv=.int .i64 i∧i≤L.length∧Hid (∀j (hj:j<L.length),j<i→L[j]≠s)∧wr=w) (fun iv _=>L.length-(intOf iv).toNat)
 case atStart=>exact ⟨0,rfl,by omega,fun j _ h=>by omega,rfl⟩
 case round=>
  obtain ⟨i,rfl,hi,HI,rfl⟩:=hrel
  by_cases hlt:i<L.length
  ·obtain rfl:=ha (by omega)
   obtain ⟨hbl,c0⟩:=hL i hlt
   have hq:=eq_text L[i] s
   have HO:Hid (L[i]=s→R=i):=fun h=>HR.out.1 i hlt h HI.out
   have HY:Hid (L[i]≠s→∀j (hj:j<L.length),j<i+1→L[j]≠s):=fun h j hj hji=>by
    by_cases e:j=i
    ·subst e;exact h
    ·exact HI.out j hj (by omega)
   clear HI HR
   generalize L[i]=c at *
   by_cases he:c=s
   ·have HQ:Hid (R=i):=HO.out he
    rw [decide_eq_true he] at hq
    clear HO HY he
    go_wp2_with fail
    go_ret
    rw [HQ.out]
    exact ⟨rfl,rfl⟩
   ·have HQ:=HY.out he
    have HQ':Hid _:=HQ
    rw [decide_eq_false he] at hq
    clear HO HY he HQ
    go_wp2_with fail
    go_roundw
    case rel=>exact ⟨i+1,by go_num,by omega,HQ'.out,trivial⟩
    case measure=>simp [intOf];omega
  ·have HQ:Hid (R = -1):=HR.out.2 (fun j hj=>HI.out j hj (by omega))
   clear HI HR
   go_wp2_with fail
   go_ret
   rw [HQ.out]
   exact ⟨rfl,rfl⟩
set_option maxRecDepth 10000 in
set_option maxHeartbeats 400000 in
theorem bytes6_any (a:Option Addr) (cap b o:Nat) (L:List ByteArray) (w:World) (ha:0<L.length→a=some ⟨b,o,none⟩) (hL:TextAt w b o L) (hs:L.length≤200000) (hm:sum6 L≤1000000000) :
  Calls Tryz.prog 55 #[.slice a L.length cap] w fun e w'=>e=.returned (.int .i64 (sum6 L:Nat))∧w'=w:=by
 have HT:Hid ((∀i (h:i<L.length),sum6 (L.take (i+1))=sum6 (L.take i)+L[i].size)∧sum6 (L.take L.length)=sum6 L):=⟨fun i h=>sum6_take L i h,by rw [List.take_length]⟩
 have HM:Hid (∀i,sum6 (L.take i)≤1000000000):=fun i=>by
  have h1:sum6 L=sum6 (L.take i)+sum6 (L.drop i):=by rw [← sum6_append,List.take_append_drop]
  omega
 have H0:Hid (sum6 (L.take 0)=0):=rfl
 go_enter Tryz.func55,Tryz.ntmps55
 go_wp2_with fail
 go_loopw [3,4] (fun nv iv wr=>∃i n:Nat,iv=.int .i64 i∧nv=.int .i64 n∧i≤L.length∧Hid (n=sum6 (L.take i))∧wr=w) (fun _ iv _=>L.length-(intOf iv).toNat)
 case atStart=>exact ⟨0,0,rfl,rfl,by omega,H0.out.symm,rfl⟩
 case round=>
  obtain ⟨i,n,rfl,rfl,hi,HI,rfl⟩:=hrel
  by_cases hlt:i<L.length
  ·obtain rfl:=ha (by omega)
   obtain ⟨hbl,c0⟩:=hL i hlt
   have hx:=HT.out.1 i hlt
   have hle:=HM.out (i+1)
   have HQ:Hid (n+L[i].size=sum6 (L.take (i+1))):=by show _=_;rw [hx,HI.out]
   rw [← HQ.out] at hle
   have hle':(n:Int)+L[i].size≤1000000000:=by omega
   clear HI hx
   generalize L[i]=c at *
   clear hle
   go_wp2_with fail
   go_roundw
   case rel=>exact ⟨i+1,n+c.size,by go_num,by go_num,by omega,HQ.out,trivial⟩
   case measure=>simp [intOf];omega
  ·have HQ:Hid (sum6 L=n):=by
    have h1:=HI.out
    rw [show i=L.length by omega,HT.out.2] at h1
    exact h1.symm
   clear HI HT
   go_wp2_with fail
   go_ret
   rw [HQ.out]
   exact ⟨rfl,rfl⟩
end Go.Proofs.YtcgjgjjegnofeaaGreatDoor
namespace Go.Proofs.YtcgjgjjegnofeaaGreatDoor
open Go.RowKit
theorem tV_len1 (L:List ByteArray):(tV L).length=L.length*1:=by simp [tV]
theorem tV_oneCell (L:List ByteArray):∀u ∈ tV L,u.oneCell'=true:=by
 intro u hu
 simp only [tV,List.mem_map] at hu
 obtain ⟨_,_,rfl⟩:=hu
 rfl
theorem news_texts {w:World} {y:Addr} {b o:Nat} {L:List ByteArray} (h:TextAt w b o L) (ha:0<L.length→some y=some (⟨b,o,none⟩:Addr)):∀j u,(tV L)[j]? = some u→w.cell? (y.add j)=some u:=by
 intro j u hu
 have hj:j<L.length:=by rw [← tV_length];exact (List.getElem?_eq_some_iff.1 hu).1
 have hy:=ha (by omega)
 simp only [Option.some.injEq] at hy
 subst hy
 obtain ⟨_,c0⟩:=h j hj
 rw [show (⟨b,o,none⟩:Addr).add j=⟨b,o+j,none⟩ by unfold Addr.add;split <;> simp_all,c0,← hu]
 simp [tV,hj]
theorem own_empty6 (w:World):(w.alloc (.cells #[] 9)).ownsRow w.heap.size 9 1 (.slice (some ⟨w.heap.size,0,none⟩) 0 0) 0 []:=World.ownsRow_lit w #[] 0 (Nat.le_refl _) (by decide) (by simp)
theorem own_shape6 {w:World} {B:Nat} {e:TypeId} {size:Nat} {v:Value} {n:Nat} {xs:List Value} (h:w.ownsRow B e size v n xs):∃ao cap,v=.slice ao n cap:=by
 rcases h.2 with ⟨rfl,rfl⟩|⟨g',cap,cur,rfl,_⟩
 ·exact ⟨none,0,rfl⟩
 ·exact ⟨_,cap,rfl⟩
theorem own_cap {w:World} {B:Nat} {e:TypeId} {a:Option Addr} {n cap:Nat} {xs:List Value} (h:w.ownsRow B e 1 (.slice a n cap) n xs):n≤cap:=by
 rcases h.2 with ⟨hv,h0⟩|⟨g,cap',cur,hv,hb,hg,hr⟩
 ·omega
 ·injection hv with _ _ hc
  subst hc
  exact hr.1
theorem own_texts2 {w:World} {B:Nat} {a:Option Addr} {n cap:Nat} {xs:List ByteArray} (h:w.ownsRow B 9 1 (.slice a n cap) n (tV xs)) (hn:xs.length=n):∃gk,(0<n→a=some ⟨gk,0,none⟩)∧TextAt w gk 0 xs∧(0<n→B≤gk):=by
 rcases h.2 with ⟨hv,h0⟩|⟨g,cap',cur,hv,hb,hg,_⟩
 ·exact ⟨0,by omega,fun i hi=>by omega,by omega⟩
 ·have ha:a=some ⟨g,0,none⟩:=by injection hv
  subst ha
  obtain ⟨gk,h1,h2⟩:=own_texts h hn
  by_cases h0:0<n
  ·have h3:=h1 h0
   injection h3 with h3
   injection h3 with h3
   exact ⟨gk,h1,h2,fun _=>by omega⟩
  ·exact ⟨gk,h1,h2,fun h=>absurd h h0⟩
def TGot (w w':World) (e:Ending) (L:List ByteArray) (n:Int):Prop:=
 ∃(a:Option Addr) (cap b o:Nat),e=.returned (.tuple #[.slice a L.length cap,.int .i64 n])∧(0<L.length→a=some ⟨b,o,none⟩)∧TextAt w' b o L∧L.length≤cap∧(a=none→cap=0)∧Below w.heap.size w w'
def TGotAt (w w':World) (e:Ending) (L:List ByteArray) (n:Int) (b0 o0:Nat):Prop:=
 ∃(a:Option Addr) (cap b o:Nat),e=.returned (.tuple #[.slice a L.length cap,.int .i64 n])∧(0<L.length→a=some ⟨b,o,none⟩)∧TextAt w' b o L∧L.length≤cap∧(a=none→cap=0)∧((b=b0∧o=o0)∨w.heap.size≤b)∧Below w.heap.size w w'
set_option maxRecDepth 10000 in
set_option maxHeartbeats 400000 in
theorem intern6_at (a:Option Addr) (cap b o:Nat) (L:List ByteArray) (s:ByteArray) (w:World) (ha:0<L.length→a=some ⟨b,o,none⟩) (hL:TextAt w b o L) (hcap:L.length≤cap) (hnil:a=none→cap=0) (hs:L.length≤200000) :
  Calls Tryz.prog 107 #[.slice a L.length cap,.string s] w fun e w'=>TGotAt w w' e (pIntern L s) (idx6 s L:Nat) b o:=by
 have HF:Hid _:=find6_any a cap b o L s w ha hL hs
 obtain ⟨i0,hi,hz0,hz1,hz2⟩:=info_parts Tryz.infoS6
 by_cases hin:idx6 s L<L.length
 ·rw [show pFind L s=(idx6 s L:Int) from if_pos hin] at HF
  rw [show pIntern L s=L from if_pos hin]
  generalize idx6 s L=n at *
  go_enter Tryz.func107,Tryz.ntmps107
  go_wp2_with fail
  refine Calls.mono HF.out ?_
  rintro e w1 ⟨rfl,rfl⟩
  clear HF
  go_wp2_with fail
  go_ret2
  exact ⟨a,cap,b,o,rfl,ha,hL,hcap,hnil,.inl ⟨rfl,rfl⟩,Below.refl _ _⟩
 ·have hle:=idx6_le s L
  rw [show pFind L s = -1 from if_neg hin] at HF
  rw [show pIntern L s=L++[s] from if_neg hin,show idx6 s L=L.length by omega]
  clear hin hle
  have ho4:=own_empty6 w
  have B4:Below w.heap.size w (w.alloc (.cells #[] 9)):=(Below.refl _ _).alloc (Nat.le_refl _) _
  have hL4:=hL.below B4
  rcases a with _|y
  ·obtain rfl:=hnil rfl
   obtain rfl:L=[]:=List.length_eq_zero_iff.1 (by omega)
   have HC:Hid (∀j u,[Value.string s][j]? = some u→((w.alloc (.cells #[] 9)).alloc (.cells #[.string s] 9)).cell? ((⟨w.heap.size+1,0,none⟩:Addr).add j)=some u):=by
    have h:=cell_one_new (w.alloc (.cells #[] 9)) (.string s) 9
    rw [show (w.alloc (.cells #[] 9)).heap.size=w.heap.size+1 by simp] at h
    exact h
   go_enter Tryz.func107,Tryz.ntmps107
   go_wp2_with fail
   refine Calls.mono HF.out ?_
   rintro e w1 ⟨rfl,rfl⟩
   clear HF
   go_wp2_with (at_builtin;refine wpList_append_lies _ rfl (.tmp 16) (.tmp 18) 59 rfl w1.heap.size 9 i0 (.string ⟨#[]⟩) 1 16 Tryz.underlying59 hi hz0 hz1 hz2 rfl (by decide) _ 0 (tV []) rfl (ho4.alloc _) ⟨w1.heap.size+1,0,none⟩ 1 1 [.string s] rfl rfl HC.out (by intro u hu;simp at hu;subst hu;rfl) (by decide) (by unfold maxLen;omega) (by omega) (by simp;omega) _ rfl ?_)
   intro g2 cap2 w2 hown2 hgrow2 _ _
   have B2:Below w1.heap.size w1 w2:=(B4.alloc (by simp) _).grown hgrow2 (by simp;omega) (fun k hk=>(ho4.lt k hk).1)
   clear ho4 hgrow2 B4 hL4
   go_wp2_with fail
   go_ret2
   have hc2:=own_cap hown2
   have hown3:w2.ownsRow w1.heap.size 9 1 (.slice (some ⟨g2,0,none⟩) 1 cap2) 1 (tV [s]):=by simpa [tV] using hown2
   obtain ⟨gk,h1,h2,h3⟩:=own_texts2 hown3 rfl
   exact ⟨some ⟨g2,0,none⟩,cap2,gk,0,rfl,h1,h2,by simpa using hc2,fun h=>by simp at h,.inr (h3 (by simp)),B2⟩
  ·have HN:Hid _:=news_texts (y:=y) hL4 ha
   go_enter Tryz.func107,Tryz.ntmps107
   go_wp2_with fail
   refine Calls.mono HF.out ?_
   rintro e w1 ⟨rfl,rfl⟩
   clear HF
   go_wp2_with (at_builtin;refine wpList_append_own _ rfl (.tmp 14) (.tmp 15) 59 rfl w1.heap.size 9 i0 (.string ⟨#[]⟩) 1 16 Tryz.underlying59 hi hz0 hz1 hz2 rfl (by decide) _ _ _ rfl ho4 y L.length cap (tV L) rfl (tV_len1 L) HN.out (tV_oneCell L) ?c3 ?c4 ?c5 ?_)
   case c3=>unfold maxLen;omega
   case c4=>omega
   case c5=>simp
   intro v4 w4 hown4 hgrow4 _
   obtain ⟨ao,cap4,rfl⟩:=own_shape6 hown4
   have B5:Below w1.heap.size w1 w4:=B4.grown hgrow4 (by simp) (fun k hk=>(ho4.lt k hk).1)
   have hbk:=fun q hq=>(hown4.lt q hq).1
   clear ho4 hgrow4 B4 hL4 HN
   have hw4:=B5.size
   go_wp2_with (at_builtin;refine wpList_append_lies _ rfl (.tmp 16) (.tmp 18) 59 rfl w1.heap.size 9 i0 (.string ⟨#[]⟩) 1 16 Tryz.underlying59 hi hz0 hz1 hz2 rfl (by decide) _ L.length (tV L) rfl (hown4.alloc _) ⟨w4.heap.size,0,none⟩ 1 1 [.string s] rfl rfl (cell_one_new _ _ _) (by intro u hu;simp at hu;subst hu;rfl) (by decide) (by unfold maxLen;omega) (by omega) (by simp;omega) _ rfl ?_)
   intro g2 cap2 w2 hown2 hgrow2 _ _
   have B2:Below w1.heap.size w1 w2:=(B5.alloc B5.size _).grown hgrow2 (by simp;omega) hbk
   clear hown4 hgrow2 B5
   go_wp2_with fail
   go_ret2
   have hc2:=own_cap hown2
   have hown3:w2.ownsRow w1.heap.size 9 1 (.slice (some ⟨g2,0,none⟩) (L++[s]).length cap2) (L++[s]).length (tV (L++[s])):=by simpa [tV] using hown2
   obtain ⟨gk,h1,h2,h3⟩:=own_texts2 hown3 rfl
   exact ⟨some ⟨g2,0,none⟩,cap2,gk,0,by simp,h1,h2,by simpa using hc2,fun h=>by simp at h,.inr (h3 (by simp)),B2⟩
theorem intern6_any (a:Option Addr) (cap b o:Nat) (L:List ByteArray) (s:ByteArray) (w:World) (ha:0<L.length→a=some ⟨b,o,none⟩) (hL:TextAt w b o L) (hcap:L.length≤cap) (hnil:a=none→cap=0) (hs:L.length≤200000) :
  Calls Tryz.prog 107 #[.slice a L.length cap,.string s] w fun e w'=>TGot w w' e (pIntern L s) (idx6 s L:Nat):=by
 refine (intern6_at a cap b o L s w ha hL hcap hnil hs).mono ?_
 rintro e w' ⟨a',cap',b',o',h1,h2,h3,h4,h5,-,h6⟩
 exact ⟨a',cap',b',o',h1,h2,h3,h4,h5,h6⟩
end Go.Proofs.YtcgjgjjegnofeaaGreatDoor
namespace Go.Proofs.YtcgjgjjegnofeaaGreatDoor
open Go.RowKit
structure TxI (w:World) (a:Option Addr) (cap b o:Nat) (L:List ByteArray):Prop where
 ptr:0<L.length→a=some ⟨b,o,none⟩
 at_:TextAt w b o L
 cap_:L.length≤cap
 nil:a=none→cap=0
theorem TxI.below {w w':World} {a:Option Addr} {cap b o:Nat} {L:List ByteArray} (h:TxI w a cap b o L) (hb:Below w.heap.size w w'):TxI w' a cap b o L:=⟨h.ptr,h.at_.below hb,h.cap_,h.nil⟩
def TxOut (L:List ByteArray) (w w':World) (e:Ending):Prop:=∃a cap b o,e=.returned (.slice a L.length cap)∧TxI w' a cap b o L∧Below w.heap.size w w'
end Go.Proofs.YtcgjgjjegnofeaaGreatDoor
namespace Go.Proofs.YtcgjgjjegnofeaaGreatDoor
open Go.RowKit
def zig (n:Int):Int:=if n<0 then -2*n-1 else 2*n
def zag (m:Int):Int:=if m % 2=1 then -(m / 2)-1 else m / 2
theorem zig_range (n:Int) (h0 : -9223372036854775808≤n) (h1:n≤9223372036854775807):0≤zig n∧zig n≤18446744073709551615:=by
 unfold zig;split <;> omega
theorem zag_range (m:Int) (h0:0≤m) (h1:m≤18446744073709551615) : -9223372036854775808≤zag m∧zag m≤9223372036854775807:=by
 unfold zag;split <;> omega
theorem zag_zig (n:Int):zag (zig n)=n:=by
 unfold zag zig;split <;> split <;> omega
theorem zig_zag (m:Int) (h0:0≤m):zig (zag m)=m:=by
 unfold zag zig;split <;> split <;> omega
theorem not_i64 (n:Int) (h0 : -9223372036854775808≤n) (h1:n≤9223372036854775807):bits .xor .i64 (-1) n = -1-n:=by
 show IntKind.i64.wrap ((BitVec.ofInt 64 (-1) ^^^ BitVec.ofInt 64 n).toNat:Int)=_
 have hh:BitVec.ofInt 64 (-1)=BitVec.allOnes 64:=by decide
 rw [hh,BitVec.allOnes_xor,BitVec.toNat_not,BitVec.toNat_ofInt]
 simp [IntKind.wrap,IntKind.bits,IntKind.signed]
 omega
theorem ret_num {k:IntKind} {a b:Int} (h:a=b):Ending.returned (.int k a)=.returned (.int k b):=by rw [h]
set_option maxHeartbeats 400000 in
theorem zig_any (n:Int) (w:World) (h0 : -9223372036854775808≤n) (h1:n≤9223372036854775807) :
  Calls Tryz.prog 117 #[.int .i64 n] w fun e w'=>e=.returned (.int .u64 (zig n))∧w'=w:=by
 by_cases hn:n<0
 ·have hx:=not_i64 n h0 h1
  go_enter Tryz.func117,Tryz.ntmps117
  go_wp2
  go_ret
  exact ⟨ret_num (by simp only [zig,if_pos hn,IntKind.wrap_u64];omega),rfl⟩
 ·go_enter Tryz.func117,Tryz.ntmps117
  go_wp2
  go_ret
  exact ⟨ret_num (by simp only [zig,if_neg (show ¬n<0 by omega)];omega),rfl⟩
set_option maxHeartbeats 400000 in
theorem zag_any (m:Int) (w:World) (h0:0≤m) (h1:m≤18446744073709551615) :
  Calls Tryz.prog 178 #[.int .u64 m] w fun e w'=>e=.returned (.int .i64 (zag m))∧w'=w:=by
 by_cases hn:m % 2=1
 ·have hx:=not_i64 (m / 2) (by omega) (by omega)
  go_enter Tryz.func178,Tryz.ntmps178
  go_wp2
  go_ret
  exact ⟨ret_num (by simp only [zag,if_pos hn];omega),rfl⟩
 ·have hx:(m % 2==1)=false:=by simp;omega
  go_enter Tryz.func178,Tryz.ntmps178
  go_wp2
  go_ret
  exact ⟨ret_num (by simp only [zag,if_neg hn]),rfl⟩
set_option maxHeartbeats 400000 in
theorem zag_ref (m:Int) (w:World) (h0:0≤m) (h1:m≤18446744073709551615) :
  Calls Tryz.prog 161 #[.int .u64 m] w fun e w'=>e=.returned (.int .i64 (zag m))∧w'=w:=by
 by_cases hn:m % 2=1
 ·have hx:(m % 2==0)=false:=by simp;omega
  go_enter Tryz.func161,Tryz.ntmps161
  go_wp2
  go_ret
  exact ⟨ret_num (by simp only [zag,if_pos hn]),rfl⟩
 ·have hx:(m % 2==0)=true:=by simp;omega
  go_enter Tryz.func161,Tryz.ntmps161
  go_wp2
  go_ret
  exact ⟨ret_num (by simp only [zag,if_neg hn]),rfl⟩
end Go.Proofs.YtcgjgjjegnofeaaGreatDoor
namespace Go.Proofs.YtcgjgjjegnofeaaGreatDoor
open Go.RowKit
theorem Tryz.info5:(Tryz.prog.info? 5).map (fun i=>(i.zero,i.size,i.bytes))=some (some (.int .u8 0),1,1):=by kernel_rfl
theorem or_top (m:Nat):bits .or .u8 ((m:Int) % 128) 128=128+(m:Int) % 128:=by
 rw [u8_or _ _ (by omega) (by omega) (by omega) (by omega)]
 have h1:((m:Int) % 128).toNat=m % 128:=by omega
 have h2:(128:Int).toNat=128:=rfl
 rw [h1,h2,Nat.or_comm,nat_join 7 128 (m % 128) (by decide) (by show _<128;omega)]
 omega
set_option maxRecDepth 10000 in
set_option maxHeartbeats 400000 in
theorem put_any (n:Int) (w:World) (h0:0≤n) (h1:n≤18446744073709551615) :
  Calls Tryz.prog 64 #[.int .u64 n] w fun e w'=>e=.returned (.string ⟨(put n.toNat).toArray⟩)∧Below w.heap.size w w':=by
 obtain ⟨i0,hi,hz0,hz1,hz2⟩:=info_parts Tryz.info5
 go_enter Tryz.func64,Tryz.ntmps64
 go_wp2_with (at_make;refine wpList_make_own _ rfl _ _ 90 rfl w.heap.size 5 i0 (.int .u8 0) 1 Tryz.underlying90 hi hz0 hz1 _ _ _ 10 rfl rfl rfl ?b2 ?b3 ?b4 ?_)
 case b2=>rw [hz2];decide
 case b3=>decide
 case b4=>exact Nat.le_refl _
 intro w1 hown1 hgrow1
 go_wp2
 go_loopw [0,3] (fun nv bv wr=>∃(f m:Nat) (xs:List UInt8),nv=.int .u64 m∧wr.ownsRow w.heap.size 5 1 bv xs.length (bV xs)∧Hid (put n.toNat=xs++enc f m)∧Hid (m<2*128 ^ f)∧(m:Int)≤18446744073709551615∧xs.length≤9∧Hid (xs.length+f=9)∧Below w.heap.size w wr) (fun nv _ _=>(intOf nv).toNat)
 case atStart=>exact ⟨9,n.toNat,[],by go_num,hown1,rfl,by show _<_;omega,by omega,by simp,rfl,(Below.refl _ _).grown hgrow1 (Nat.le_refl _) (by simp)⟩
 case round=>
  obtain ⟨f,m,xs,rfl,hown,HE,HM,hm,hxs,HF,hnx⟩:=hrel
  have hsz:=hnx.size
  by_cases hlt:m<128
  ·go_wp2_with (at_builtin;refine wpList_append_own _ rfl _ _ 90 rfl w.heap.size 5 i0 (.int .u8 0) 1 1 Tryz.underlying90 hi hz0 hz1 hz2 rfl (by decide) _ _ _ rfl (hown.alloc _) ⟨wr.heap.size,0,none⟩ 1 1 [.int .u8 (m:Int)] rfl rfl (cell_one_new _ _ _) ?c2 ?c3 ?c4 ?c5 ?_)
   case c2=>intro u hu;simp at hu;subst hu;rfl
   case c3=>unfold maxLen;omega
   case c4=>omega
   case c5=>simp;omega
   intro v' w2 hown2 hgrow2 _
   have hput:put n.toNat=xs++[UInt8.ofNat m]:=by rw [HE.out,enc_small f m hlt]
   have hb2:Below w.heap.size w w2:=below_own (hnx.alloc hsz _) (hown.alloc _) hgrow2 (by simp;omega)
   have hown3:w2.ownsRow w.heap.size 5 1 v' (xs++[UInt8.ofNat m]).length (bV (xs++[UInt8.ofNat m])):=by
    rw [bV_snoc xs m (by omega),List.length_append];exact hown2
   obtain ⟨g,cap,hv,hcv⟩:=conv_own (P:=Tryz.prog) 90 9 5 Tryz.underlying90 Tryz.underlying5 Tryz.underlying9 hown3 (by simp)
   rw [List.length_append,List.length_singleton] at hv hcv
   rw [← hput] at hcv
   clear hput hown2 hown3 hgrow2 hown HE HM HF
   rw [hv]
   go_wp2
   go_ret
   exact ⟨rfl,hb2⟩
  ·have hor:=or_top m
   obtain ⟨g,hg,hm1,he⟩:=enc_round f m (by omega) HM.out
   have HG:Hid (f=g+1∧m / 128<2*128 ^ g∧enc f m=UInt8.ofNat (128+m % 128) :: enc g (m / 128)):=⟨hg,hm1,he⟩
   clear hg hm1 he
   go_wp2_with (at_builtin;refine wpList_append_own _ rfl _ _ 90 rfl w.heap.size 5 i0 (.int .u8 0) 1 1 Tryz.underlying90 hi hz0 hz1 hz2 rfl (by decide) _ _ _ rfl (hown.alloc _) ⟨wr.heap.size,0,none⟩ 1 1 [.int .u8 (128+(m:Int) % 128)] rfl rfl (cell_one_new _ _ _) ?c2 ?c3 ?c4 ?c5 ?_)
   case c2=>intro u hu;simp at hu;subst hu;rfl
   case c3=>unfold maxLen;omega
   case c4=>omega
   case c5=>simp;omega
   intro v' w2 hown2 hgrow2 _
   have hb2:Below w.heap.size w w2:=below_own (hnx.alloc hsz _) (hown.alloc _) hgrow2 (by simp;omega)
   have hown3:w2.ownsRow w.heap.size 5 1 v' (xs++[UInt8.ofNat (128+m % 128)]).length (bV (xs++[UInt8.ofNat (128+m % 128)])):=by
    rw [bV_snoc xs (128+m % 128) (by omega),List.length_append];exact hown2
   clear hown2 hgrow2 hown
   go_wp2
   go_roundw
   case rel=>
    obtain ⟨hg,hm1,he⟩:=HG
    have hF:=HF.out
    exact ⟨g,m / 128,xs++[UInt8.ofNat (128+m % 128)],by go_num,hown3,by show _=_;rw [HE.out,he,List.append_assoc];rfl,hm1,by omega,by simp;omega,by show _=_;simp;omega,hb2⟩
   case measure=>simp [intOf];omega
end Go.Proofs.YtcgjgjjegnofeaaGreatDoor
namespace Go.Proofs.YtcgjgjjegnofeaaGreatDoor
open Go.RowKit
end Go.Proofs.YtcgjgjjegnofeaaGreatDoor
namespace Go.Proofs.YtcgjgjjegnofeaaGreatDoor
open Go.RowKit
theorem or_join (X Y i:Nat) (hX:X<2 ^ i) (hY:Y % 2 ^ i=0) (h1:X<18446744073709551616) (h2:Y<18446744073709551616):bits .or .u64 (X:Int) (Y:Int)=((X+Y:Nat):Int):=by
 rw [u64_or_nat X Y h1 h2,Nat.or_comm,nat_join i Y X hY hX,Nat.add_comm]
theorem get_or (X k c:Nat) (hX:X<128 ^ k) (hk:k<9∨(k=9∧c≤1)):bits .or .u64 (X:Int) (IntKind.u64.wrap ((c:Int) % 128*2 ^ (7*k)))=((X+128 ^ k*(c % 128):Nat):Int):=by
 have hc:(c:Int) % 128=((c % 128:Nat):Int):=by omega
 have hm:c % 128<128:=by omega
 have hm1:k=9→c % 128≤1:=by omega
 rw [hc]
 generalize c % 128=d at *
 clear hc
 have hcases:k=0∨k=1∨k=2∨k=3∨k=4∨k=5∨k=6∨k=7∨k=8∨k=9:=by omega
 rcases hcases with rfl|rfl|rfl|rfl|rfl|rfl|rfl|rfl|rfl|rfl
 all_goals
  simp only [IntKind.wrap_u64,Nat.reduceMul,Nat.reducePow,Int.reducePow] at hX ⊢
 ·rw [show ((d:Int)*1 % 18446744073709551616)=((1*d:Nat):Int) by omega];exact or_join X (1*d) 0 hX (by omega) (by omega) (by omega)
 ·rw [show ((d:Int)*128 % 18446744073709551616)=((128*d:Nat):Int) by omega];exact or_join X _ 7 hX (by omega) (by omega) (by omega)
 ·rw [show ((d:Int)*16384 % 18446744073709551616)=((16384*d:Nat):Int) by omega];exact or_join X _ 14 hX (by omega) (by omega) (by omega)
 ·rw [show ((d:Int)*2097152 % 18446744073709551616)=((2097152*d:Nat):Int) by omega];exact or_join X _ 21 hX (by omega) (by omega) (by omega)
 ·rw [show ((d:Int)*268435456 % 18446744073709551616)=((268435456*d:Nat):Int) by omega];exact or_join X _ 28 hX (by omega) (by omega) (by omega)
 ·rw [show ((d:Int)*34359738368 % 18446744073709551616)=((34359738368*d:Nat):Int) by omega];exact or_join X _ 35 hX (by omega) (by omega) (by omega)
 ·rw [show ((d:Int)*4398046511104 % 18446744073709551616)=((4398046511104*d:Nat):Int) by omega];exact or_join X _ 42 hX (by omega) (by omega) (by omega)
 ·rw [show ((d:Int)*562949953421312 % 18446744073709551616)=((562949953421312*d:Nat):Int) by omega];exact or_join X _ 49 hX (by omega) (by omega) (by omega)
 ·rw [show ((d:Int)*72057594037927936 % 18446744073709551616)=((72057594037927936*d:Nat):Int) by omega];exact or_join X _ 56 hX (by omega) (by omega) (by omega)
 ·rw [show ((d:Int)*9223372036854775808 % 18446744073709551616)=((9223372036854775808*d:Nat):Int) by omega];exact or_join X _ 63 hX (by omega) (by omega) (by omega)
theorem ret3 {a b c a' b' c':Int} (h1:a=a') (h2:b=b') (h3:c=c'):Ending.returned (.tuple #[.int .u64 a,.int .i64 b,.int .i64 c])=.returned (.tuple #[.int .u64 a',.int .i64 b',.int .i64 c']):=by rw [h1,h2,h3]
theorem fin_bad (a:Int) (k:Nat) (h:0<k):fin a (0,0,k)=(0,0,(k:Int)):=by
 unfold fin;rw [if_neg (by simp;omega)]
theorem fin_ok (a:Int) (n m:Nat):fin a (n,m,0)=((n:Int),a+(m:Int),0):=by
 unfold fin;rw [if_pos rfl]
set_option maxRecDepth 10000 in
set_option maxHeartbeats 400000 in
theorem get_in (s:ByteArray) (a:Nat) (w:World) (hs:s.size≤maxLen) (ha:a≤s.size) :
  Calls Tryz.prog 172 #[.string s,.int .i64 a] w fun e w'=>e=.returned (.tuple #[.int .u64 (fin a (dec 0 0 (s.data.toList.drop a))).1,.int .i64 (fin a (dec 0 0 (s.data.toList.drop a))).2.1,.int .i64 (fin a (dec 0 0 (s.data.toList.drop a))).2.2])∧w'=w:=by
 unfold maxLen at hs
 have hg:¬(s.size<a):=by omega
 generalize hF:dec 0 0 (s.data.toList.drop a)=D
 have HF:Hid (dec 0 0 (s.data.toList.drop a)=D):=hF
 clear hF
 go_enter Tryz.func172,Tryz.ntmps172
 go_wp2
 go_loop [7,8] (fun nv iv=>∃(k X:Nat),nv=.int .u64 X∧iv=.int .i64 k∧k≤9∧a+k≤s.size∧Hid (X<128 ^ k)∧Hid (dec k X (s.data.toList.drop (a+k))=D)) (fun _ iv=>10-(intOf iv).toNat)
 case atStart=>exact ⟨0,0,rfl,rfl,by omega,by omega,by show _<_;simp,HF⟩
 case round=>
  obtain ⟨k,X,rfl,rfl,hk,hak,HX,HD⟩:=hrel
  by_cases hlt:a+k<s.size
  ·have HS:Hid (s.data.toList.drop (a+k)=s[a+k] :: s.data.toList.drop (a+k+1)):=drop_atB s (a+k) hlt
   go_wp2
   ·have h9:(k:Int)=9:=by assumption
    have hc:1<(s[a+k].toNat:Int):=by assumption
    have hD:D=(0,0,3):=by rw [← HD.out,HS.out];exact dec_nine _ _ _ _ (by omega) (by omega)
    go_ret3
    exact ⟨by rw [hD,fin_bad _ _ (by omega)];rfl,rfl⟩
   ·have h9:(k:Int)=9:=by assumption
    have hc:s[a+k].toNat=0:=by assumption
    have hD:D=(0,0,3):=by rw [← HD.out,HS.out];exact dec_zero _ _ _ _ (by omega) hc
    go_ret3
    exact ⟨by rw [hD,fin_bad _ _ (by omega)];rfl,rfl⟩
   ·have h9:(k:Int)=9:=by assumption
    have hc1:(s[a+k].toNat:Int)≤1:=by assumption
    have hc0:¬s[a+k].toNat=0:=by assumption
    have hD:D=(X+128 ^ k*(s[a+k].toNat % 128),k+1,0):=by rw [← HD.out,HS.out];exact dec_last _ _ _ _ (by omega) (by omega) (by omega)
    have ho:=get_or X k s[a+k].toNat HX.out (.inr ⟨by omega,by omega⟩)
    obtain rfl:k=9:=by omega
    simp only [Nat.reduceMul,Int.reducePow,IntKind.wrap_u64] at ho
    rw [show ((s[a+9].toNat:Int) % 128*9223372036854775808) % 18446744073709551616=(s[a+9].toNat:Int) % 128*9223372036854775808 by omega] at ho
    go_ret3
    refine ⟨?_,rfl⟩
    rw [hD,fin_ok]
    exact ret3 ho (by dsimp only;omega) rfl
   ·have hk0:0<k:=by assumption
    have hc:s[a+k].toNat=0:=by assumption
    have hD:D=(0,0,3):=by rw [← HD.out,HS.out];exact dec_zero _ _ _ _ hk0 hc
    go_ret3
    exact ⟨by rw [hD,fin_bad _ _ (by omega)];rfl,rfl⟩
   ·have hk0:¬0<k:=by assumption
    have hc:s[a+k].toNat=0:=by assumption
    have hD:D=(X+128 ^ k*(s[a+k].toNat % 128),k+1,0):=by rw [← HD.out,HS.out];exact dec_last _ _ _ _ (by omega) (by omega) (by omega)
    have ho:=get_or X k s[a+k].toNat HX.out (.inl (by omega))
    rw [hc] at ho
    simp only [IntKind.wrap_u64,Int.natCast_zero,Int.zero_emod,Int.zero_mul] at ho
    go_ret3
    refine ⟨?_,rfl⟩
    rw [hD,fin_ok,hc]
    exact ret3 ho (by dsimp only;omega) rfl
   ·have h9:¬(k:Int)=9:=by assumption
    have hc0:¬s[a+k].toNat=0:=by assumption
    have hc:(s[a+k].toNat:Int)<128:=by assumption
    have hD:D=(X+128 ^ k*(s[a+k].toNat % 128),k+1,0):=by rw [← HD.out,HS.out];exact dec_last _ _ _ _ (by omega) (by omega) (by omega)
    have ho:=get_or X k s[a+k].toNat HX.out (.inl (by omega))
    go_ret3
    refine ⟨?_,rfl⟩
    rw [hD,fin_ok]
    exact ret3 ho (by dsimp only;omega) rfl
   ·have h9:¬(k:Int)=9:=by assumption
    have hc:128≤(s[a+k].toNat:Int):=by assumption
    have hD:dec (k+1) (X+128 ^ k*(s[a+k].toNat % 128)) (s.data.toList.drop (a+(k+1)))=D:=by
     rw [← HD.out,HS.out,dec_more _ _ _ _ (by omega) (by omega)];rfl
    have ho:=get_or X k s[a+k].toNat HX.out (.inl (by omega))
    refine ⟨⟨k+1,X+128 ^ k*(s[a+k].toNat % 128),by rw [ho],by go_num,by omega,by omega,pow_step _ _ _ HX.out,hD⟩,?_⟩
    simp [intOf];omega
  ·go_wp2
   have hD:D=(0,0,2):=by rw [← HD.out,drop_end s (a+k) (by omega)];rfl
   go_ret3
   exact ⟨by rw [hD,fin_bad _ _ (by omega)];rfl,rfl⟩
end Go.Proofs.YtcgjgjjegnofeaaGreatDoor
namespace Go.Proofs.YtcgjgjjegnofeaaGreatDoor
open Go.RowKit
theorem ref_add (X U k c:Nat) (hU:U=128 ^ k) (hX:X<128 ^ k) (hk:k<9∨(k=9∧c≤1)):IntKind.u64.wrap ((X:Int)+IntKind.u64.wrap ((U:Int)*((c:Int) % 128)))=((X+128 ^ k*(c % 128):Nat):Int):=by
 subst hU
 have hc:(c:Int) % 128=((c % 128:Nat):Int):=by omega
 have hm:c % 128<128:=by omega
 have hm1:k=9→c % 128≤1:=by omega
 rw [hc]
 generalize c % 128=d at *
 clear hc
 have hcases:k=0∨k=1∨k=2∨k=3∨k=4∨k=5∨k=6∨k=7∨k=8∨k=9:=by omega
 rcases hcases with rfl|rfl|rfl|rfl|rfl|rfl|rfl|rfl|rfl|rfl
 all_goals
  simp only [IntKind.wrap_u64,Nat.reducePow] at hX ⊢
  omega
theorem ref_unit (U k:Nat) (hU:U=128 ^ k) (hk:k<9):IntKind.u64.wrap ((U:Int)*128)=((128 ^ (k+1):Nat):Int):=by
 subst hU
 have hcases:k=0∨k=1∨k=2∨k=3∨k=4∨k=5∨k=6∨k=7∨k=8:=by omega
 rcases hcases with rfl|rfl|rfl|rfl|rfl|rfl|rfl|rfl|rfl
 all_goals rfl
set_option maxRecDepth 10000 in
set_option maxHeartbeats 400000 in
theorem refget_in (s:ByteArray) (a:Nat) (w:World) (hs:s.size≤maxLen) (ha:a≤s.size) :
  Calls Tryz.prog 51 #[.string s,.int .i64 a] w fun e w'=>e=.returned (.tuple #[.int .u64 (fin a (dec 0 0 (s.data.toList.drop a))).1,.int .i64 (fin a (dec 0 0 (s.data.toList.drop a))).2.1,.int .i64 (fin a (dec 0 0 (s.data.toList.drop a))).2.2])∧w'=w:=by
 unfold maxLen at hs
 have hg:¬(s.size<a):=by omega
 generalize hF:dec 0 0 (s.data.toList.drop a)=D
 have HF:Hid (dec 0 0 (s.data.toList.drop a)=D):=hF
 clear hF
 go_enter Tryz.func51,Tryz.ntmps51
 go_wp2
 go_loop [7,8,9] (fun nv uv iv=>∃(k X U:Nat),nv=.int .u64 X∧uv=.int .u64 U∧iv=.int .i64 ((a:Int)+k)∧k≤9∧a+k≤s.size∧Hid (U=128 ^ k)∧Hid (X<128 ^ k)∧Hid (dec k X (s.data.toList.drop (a+k))=D)) (fun _ _ iv=>a+10-(intOf iv).toNat)
 case atStart=>exact ⟨0,0,1,rfl,rfl,by go_num,by omega,by omega,rfl,by show _<_;simp,HF⟩
 case round=>
  obtain ⟨k,X,U,rfl,rfl,rfl,hk,hak,HU,HX,HD⟩:=hrel
  by_cases hlt:a+k<s.size
  ·have HS:Hid (s.data.toList.drop (a+k)=s[a+k] :: s.data.toList.drop (a+k+1)):=drop_atB s (a+k) hlt
   go_wp2
   ·have h9:(a:Int)+k-a=9:=by assumption
    have hc:1<(s[a+k].toNat:Int):=by assumption
    have hD:D=(0,0,3):=by rw [← HD.out,HS.out];exact dec_nine _ _ _ _ (by omega) (by omega)
    go_ret3
    exact ⟨by rw [hD,fin_bad _ _ (by omega)];rfl,rfl⟩
   ·have h9:(a:Int)+k-a=9:=by assumption
    have hc:s[a+k].toNat=0:=by assumption
    have hD:D=(0,0,3):=by rw [← HD.out,HS.out];exact dec_zero _ _ _ _ (by omega) hc
    go_ret3
    exact ⟨by rw [hD,fin_bad _ _ (by omega)];rfl,rfl⟩
   ·have h9:(a:Int)+k-a=9:=by assumption
    have hc1:(s[a+k].toNat:Int)≤1:=by assumption
    have hc0:¬s[a+k].toNat=0:=by assumption
    have hD:D=(X+128 ^ k*(s[a+k].toNat % 128),k+1,0):=by rw [← HD.out,HS.out];exact dec_last _ _ _ _ (by omega) (by omega) (by omega)
    have ho:=ref_add X U k s[a+k].toNat HU.out HX.out (.inr ⟨by omega,by omega⟩)
    go_ret3
    refine ⟨?_,rfl⟩
    rw [hD,fin_ok]
    exact ret3 ho (by dsimp only;omega) rfl
   ·have hk0:(a:Int)<a+k:=by assumption
    have hc:s[a+k].toNat=0:=by assumption
    have hD:D=(0,0,3):=by rw [← HD.out,HS.out];exact dec_zero _ _ _ _ (by omega) hc
    go_ret3
    exact ⟨by rw [hD,fin_bad _ _ (by omega)];rfl,rfl⟩
   ·have hk0:(a:Int)+k≤a:=by assumption
    have hc:s[a+k].toNat=0:=by assumption
    have hD:D=(X+128 ^ k*(s[a+k].toNat % 128),k+1,0):=by rw [← HD.out,HS.out];exact dec_last _ _ _ _ (by omega) (by omega) (by omega)
    have ho:=ref_add X U k s[a+k].toNat HU.out HX.out (.inl (by omega))
    rw [hc] at ho
    have e0:IntKind.u64.wrap ((U:Int)*(((0:Nat):Int) % 128))=0:=by simp [IntKind.wrap_u64]
    rw [e0,Int.add_zero] at ho
    go_ret3
    refine ⟨?_,rfl⟩
    rw [hD,fin_ok,hc]
    exact ret3 ho (by dsimp only;omega) rfl
   ·have h9:¬(a:Int)+k-a=9:=by assumption
    have hc0:¬s[a+k].toNat=0:=by assumption
    have hc:(s[a+k].toNat:Int)<128:=by assumption
    have hD:D=(X+128 ^ k*(s[a+k].toNat % 128),k+1,0):=by rw [← HD.out,HS.out];exact dec_last _ _ _ _ (by omega) (by omega) (by omega)
    have ho:=ref_add X U k s[a+k].toNat HU.out HX.out (.inl (by omega))
    go_ret3
    refine ⟨?_,rfl⟩
    rw [hD,fin_ok]
    exact ret3 ho (by dsimp only;omega) rfl
   ·have h9:¬(a:Int)+k-a=9:=by assumption
    have hc:128≤(s[a+k].toNat:Int):=by assumption
    have hD:dec (k+1) (X+128 ^ k*(s[a+k].toNat % 128)) (s.data.toList.drop (a+(k+1)))=D:=by
     rw [← HD.out,HS.out,dec_more _ _ _ _ (by omega) (by omega)];rfl
    have ho:=ref_add X U k s[a+k].toNat HU.out HX.out (.inl (by omega))
    have hu:=ref_unit U k HU.out (by omega)
    refine ⟨⟨k+1,X+128 ^ k*(s[a+k].toNat % 128),128 ^ (k+1),by rw [ho],by rw [hu],by go_num,by omega,by omega,rfl,pow_step _ _ _ HX.out,hD⟩,?_⟩
    simp [intOf];omega
  ·go_wp2
   have hD:D=(0,0,2):=by rw [← HD.out,drop_end s (a+k) (by omega)];rfl
   go_ret3
   exact ⟨by rw [hD,fin_bad _ _ (by omega)];rfl,rfl⟩
set_option maxRecDepth 10000 in
set_option maxHeartbeats 400000 in
theorem get_out (s:ByteArray) (a:Int) (w:World) (hs:s.size≤maxLen) (h:a<0∨(s.size:Int)<a) :
  Calls Tryz.prog 172 #[.string s,.int .i64 a] w fun e w'=>e=.returned (.tuple #[.int .u64 0,.int .i64 0,.int .i64 1])∧w'=w:=by
 unfold maxLen at hs
 rcases h with h|h
 ·go_enter Tryz.func172,Tryz.ntmps172
  go_wp2
  go_ret3
  exact ⟨rfl,rfl⟩
 ·have h':¬a<0:=by omega
  go_enter Tryz.func172,Tryz.ntmps172
  go_wp2
  go_ret3
  exact ⟨rfl,rfl⟩
set_option maxRecDepth 10000 in
set_option maxHeartbeats 400000 in
theorem refget_out (s:ByteArray) (a:Int) (w:World) (hs:s.size≤maxLen) (h:a<0∨(s.size:Int)<a) :
  Calls Tryz.prog 51 #[.string s,.int .i64 a] w fun e w'=>e=.returned (.tuple #[.int .u64 0,.int .i64 0,.int .i64 1])∧w'=w:=by
 unfold maxLen at hs
 rcases h with h|h
 ·go_enter Tryz.func51,Tryz.ntmps51
  go_wp2
  go_ret3
  exact ⟨rfl,rfl⟩
 ·have h':¬a<0:=by omega
  go_enter Tryz.func51,Tryz.ntmps51
  go_wp2
  go_ret3
  exact ⟨rfl,rfl⟩
theorem got_out (b:List UInt8) (a:Int) (h:a<0∨(b.length:Int)<a):got b a=(0,0,1):=by
 unfold got;rw [if_pos h]
theorem got_in (b:List UInt8) (a:Nat) (h:a≤b.length):got b a=fin a (dec 0 0 (b.drop a)):=by
 unfold got;rw [if_neg (by omega)];rfl
theorem get_any (s:ByteArray) (a:Int) (w:World) (hs:s.size≤maxLen) :
  Calls Tryz.prog 172 #[.string s,.int .i64 a] w fun e w'=>e=.returned (.tuple #[.int .u64 (got s.data.toList a).1,.int .i64 (got s.data.toList a).2.1,.int .i64 (got s.data.toList a).2.2])∧w'=w:=by
 have hl:s.data.toList.length=s.size:=by rw [Array.length_toList];rfl
 by_cases h:a<0∨(s.size:Int)<a
 ·rw [got_out _ _ (by rw [hl];exact h)]
  exact get_out s a w hs h
 ·obtain ⟨n,rfl⟩:=Int.eq_ofNat_of_zero_le (show 0≤a by omega)
  rw [got_in _ _ (by omega)]
  exact get_in s n w hs (by omega)
theorem refget_any (s:ByteArray) (a:Int) (w:World) (hs:s.size≤maxLen) :
  Calls Tryz.prog 51 #[.string s,.int .i64 a] w fun e w'=>e=.returned (.tuple #[.int .u64 (got s.data.toList a).1,.int .i64 (got s.data.toList a).2.1,.int .i64 (got s.data.toList a).2.2])∧w'=w:=by
 have hl:s.data.toList.length=s.size:=by rw [Array.length_toList];rfl
 by_cases h:a<0∨(s.size:Int)<a
 ·rw [got_out _ _ (by rw [hl];exact h)]
  exact refget_out s a w hs h
 ·obtain ⟨n,rfl⟩:=Int.eq_ofNat_of_zero_le (show 0≤a by omega)
  rw [got_in _ _ (by omega)]
  exact refget_in s n w hs (by omega)
end Go.Proofs.YtcgjgjjegnofeaaGreatDoor
namespace Go.Proofs.YtcgjgjjegnofeaaGreatDoor
theorem dec_enc (f:Nat):∀(k X m:Nat) (r:List UInt8),f+k=9→m<2*128 ^ f→(k=0∨0<m)→dec k X (enc f m++r)=(X+128 ^ k*m,k+(enc f m).length,0):=by
 induction f with
 | zero=>
  intro k X m r hk hm h0
  have hm1:m=1:=by simp at hm;omega
  have hk9:k=9:=by omega
  subst hm1
  subst hk9
  rw [enc_small 0 1 (by omega)]
  show dec 9 X ((1:UInt8) :: r)=_
  rw [dec_last 9 X 1 r (by decide) (by decide) (by decide)]
  simp
 | succ f ih=>
  intro k X m r hk hm h0
  by_cases hlt:m<128
  ·rw [enc_small _ m hlt]
   have hc:(UInt8.ofNat m).toNat=m:=by simp;omega
   show dec k X (UInt8.ofNat m :: r)=_
   rw [dec_last k X _ r (by omega) (by omega) (by omega),hc,Nat.mod_eq_of_lt hlt]
   simp
  ·have hm2:m / 128<2*128 ^ f:=by rw [Nat.pow_succ] at hm;omega
   rw [enc_big f m (by omega)]
   have hc:(UInt8.ofNat (128+m % 128)).toNat=128+m % 128:=by simp;omega
   show dec k X (UInt8.ofNat (128+m % 128) :: (enc f (m / 128)++r))=_
   rw [dec_more k X _ _ (by omega) (by omega),ih (k+1) _ (m / 128) r (by omega) hm2 (.inr (by omega)),hc]
   have e1:(128+m % 128) % 128=m % 128:=by omega
   have e2:128 ^ (k+1)*(m / 128)=128 ^ k*(128*(m / 128)):=by rw [Nat.pow_succ,Nat.mul_assoc]
   have e3:128 ^ k*(m % 128)+128 ^ k*(128*(m / 128))=128 ^ k*m:=by
    rw [← Nat.mul_add];congr 1;omega
   rw [e1,e2,Nat.add_assoc,e3]
   simp only [List.length_cons,Prod.mk.injEq,true_and,and_true]
   omega
theorem dec_put (n:Nat) (h:n<18446744073709551616) (r:List UInt8):dec 0 0 (put n++r)=(n,(put n).length,0):=by
 have:=dec_enc 9 0 0 n r rfl (by omega) (.inl rfl)
 simpa [put] using this
theorem enc_dec (l:List UInt8):∀(k X n m:Nat),k≤9→dec k X l=(n,m,0)→
  ∃q,n=X+128 ^ k*q∧q<2*128 ^ (9-k)∧(k=0∨0<q)∧k<m∧m≤10∧m-k≤l.length∧enc (9-k) q=l.take (m-k):=by
 induction l with
 | nil=>intro k X n m hk h;simp [dec] at h
 | cons c r ih=>
  intro k X n m hk h
  have hc256:c.toNat<256:=c.toNat_lt
  by_cases h1:k=9∧1<c.toNat
  ·rw [dec,if_pos h1] at h;simp at h
  by_cases h2:c.toNat=0∧0<k
  ·rw [dec,if_neg h1,if_pos h2] at h;simp at h
  by_cases h3:c.toNat<128
  ·rw [dec_last k X c r h1 h2 h3] at h
   simp only [Prod.mk.injEq,and_true] at h
   obtain ⟨hn,hm⟩:=h
   rw [Nat.mod_eq_of_lt h3] at hn
   refine ⟨c.toNat,hn.symm,?_,by omega,by omega,by omega,by simp;omega,?_⟩
   ·by_cases h9:k=9
    ·subst h9;simp;omega
    ·obtain ⟨j,hj⟩:∃j,9-k=j+1:=⟨8-k,by omega⟩
     rw [hj,Nat.pow_succ]
     have:0<128 ^ j:=Nat.pow_pos (by omega)
     omega
   ·rw [enc_small _ _ h3,← hm]
    simp
  ·rw [dec_more k X c r (by omega) (by omega)] at h
   obtain ⟨q,hn,hq,h0,hkm,hm10,hl,he⟩:=ih (k+1) _ n m (by omega) h
   have hq0:0<q:=by omega
   obtain ⟨j,hj⟩:∃j,9-k=j+1:=⟨8-k,by omega⟩
   have hj2:9-(k+1)=j:=by omega
   rw [hj2] at hq he
   refine ⟨c.toNat % 128+128*q,?_,?_,by omega,by omega,hm10,?_,?_⟩
   ·rw [hn,Nat.pow_succ,Nat.mul_add,Nat.mul_assoc];omega
   ·rw [hj,Nat.pow_succ];omega
   ·simp;omega
   ·rw [hj,enc_big j _ (by omega)]
    have e1:(c.toNat % 128+128*q) % 128=c.toNat % 128:=by omega
    have e2:(c.toNat % 128+128*q) / 128=q:=by omega
    have e3:128+c.toNat % 128=c.toNat:=by omega
    rw [e1,e2,e3,he]
    obtain ⟨i,hi⟩:∃i,m-k=i+1:=⟨m-(k+1),by omega⟩
    have hi2:m-(k+1)=i:=by omega
    rw [hi,hi2]
    simp
theorem put_dec (l:List UInt8) (n m:Nat) (h:dec 0 0 l=(n,m,0)):n<18446744073709551616∧1≤m∧m≤10∧m≤l.length∧put n=l.take m:=by
 obtain ⟨q,hn,hq,_,h1,h2,h3,h4⟩:=enc_dec l 0 0 n m (by omega) h
 have hnq:n=q:=by simpa using hn
 subst hnq
 exact ⟨by simpa using hq,by omega,h2,by simpa using h3,by simpa [put] using h4⟩
end Go.Proofs.YtcgjgjjegnofeaaGreatDoor
