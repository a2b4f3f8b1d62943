import Derived.Deep.QuietTactic
import Derived.Laws.OwnMore
import Derived.Deep.AppendLies
import Derived.Lib.QuietBelow
import Derived.BigQuiet
import Derived.Test.YtgoffkfpdigeeaaGreatDoorL04
namespace Go.Proofs.YtgoffkfpdigeeaaGreatDoor
def idx6 (s:ByteArray):List ByteArray→Nat
 | []=>0
 | x :: r=>if x=s then 0 else idx6 s r+1
theorem idx6_le (s:ByteArray) (L:List ByteArray):idx6 s L≤L.length:=by
 induction L with
 | nil=>exact Nat.le_refl _
 | cons x r ih=>unfold idx6;split <;> simp <;> omega
theorem idx6_at (s:ByteArray):∀(L:List ByteArray) (i:Nat) (h:i<L.length),L[i]=s→(∀j (hj:j<L.length),j<i→L[j]≠s)→idx6 s L=i:=by
 intro L
 induction L with
 | nil=>intro i h;simp at h
 | cons x r ih=>
  intro i h he hn
  unfold idx6
  match i,h,he with
  | 0,_,he=>rw [if_pos (by simpa using he)]
  | i+1,h,he=>
   have h0:=hn 0 (by simp) (by omega)
   rw [if_neg (by simpa using h0),ih i (by simpa using h) (by simpa using he) (fun j hj hji=>by have:=hn (j+1) (by simpa using hj) (by omega);simpa using this)]
theorem idx6_no (s:ByteArray) (L:List ByteArray) (h:∀j (hj:j<L.length),L[j]≠s):idx6 s L=L.length:=by
 induction L with
 | nil=>rfl
 | cons x r ih=>
  have h0:=h 0 (by simp)
  unfold idx6
  rw [if_neg (by simpa using h0),ih (fun j hj=>by have:=h (j+1) (by simpa using hj);simpa using this)]
  rfl
theorem idx6_get (s:ByteArray) (L:List ByteArray) (h:idx6 s L<L.length):L[idx6 s L]=s:=by
 induction L with
 | nil=>simp at h
 | cons x r ih=>
  unfold idx6 at h
  by_cases e:x=s
  ·have h0:idx6 s (x :: r)=0:=by unfold idx6;rw [if_pos e]
   simp only [h0]
   exact e
  ·rw [if_neg e] at h
   have h0:idx6 s (x :: r)=idx6 s r+1:=if_neg e
   simp only [h0,List.getElem_cons_succ]
   exact ih (by simpa using h)
theorem idx6_mem (s:ByteArray) (L:List ByteArray):idx6 s L<L.length↔s ∈ L:=by
 constructor
 ·intro h
  have:=List.getElem_mem h
  rw [idx6_get s L h] at this
  exact this
 ·intro h
  have hle:=idx6_le s L
  by_cases e:idx6 s L=L.length
  ·exfalso
   induction L with
   | nil=>simp at h
   | cons x r ih=>
    unfold idx6 at e
    by_cases q:x=s
    ·rw [if_pos q] at e;simp at e
    ·rw [if_neg q] at e
     refine ih ?_ (idx6_le s r) (by simpa using e)
     rcases List.mem_cons.1 h with rfl|h
     ·exact absurd rfl q
     ·exact h
  ·omega
theorem idx6_append (s:ByteArray) (L M:List ByteArray) (h:idx6 s L<L.length):idx6 s (L++M)=idx6 s L:=by
 induction L with
 | nil=>simp at h
 | cons x r ih=>
  rw [List.cons_append]
  unfold idx6 at h ⊢
  split
  ·rfl
  ·rename_i q
   rw [if_neg q] at h
   rw [ih (by simpa using h)]
def pFind (L:List ByteArray) (s:ByteArray):Int:=if idx6 s L<L.length then (idx6 s L:Int) else -1
def pIntern (L:List ByteArray) (s:ByteArray):List ByteArray:=if idx6 s L<L.length then L else L++[s]
theorem pIntern_idx (L:List ByteArray) (s:ByteArray):idx6 s L<(pIntern L s).length∧idx6 s (pIntern L s)=idx6 s L:=by
 unfold pIntern
 have hle:=idx6_le s L
 by_cases h:idx6 s L<L.length
 ·rw [if_pos h];exact ⟨h,rfl⟩
 ·rw [if_neg h]
  have e:idx6 s L=L.length:=by omega
  refine ⟨by simp;omega,?_⟩
  rw [e]
  refine idx6_at s _ L.length (by simp) (by simp) (fun j hj hji=>?_)
  intro hh
  rw [List.getElem_append_left hji] at hh
  have:=(idx6_mem s L).2 (hh ▸ List.getElem_mem hji)
  omega
def sum6 (L:List ByteArray):Nat:=(L.map ByteArray.size).sum
theorem sum6_append (L M:List ByteArray):sum6 (L++M)=sum6 L+sum6 M:=by simp [sum6]
theorem sum6_take (L:List ByteArray) (i:Nat) (h:i<L.length):sum6 (L.take (i+1))=sum6 (L.take i)+L[i].size:=by
 rw [List.take_add_one,List.getElem?_eq_getElem h,sum6_append]
 simp [sum6]
theorem sum6_le (L:List ByteArray) (m:Nat) (h:∀s ∈ L,s.size≤m):sum6 L≤m*L.length:=by
 induction L with
 | nil=>simp [sum6]
 | cons x r ih=>
  have h1:=ih (fun s hs=>h s (by simp [hs]))
  have h2:=h x (by simp)
  have h3:sum6 (x :: r)=x.size+sum6 r:=by simp [sum6]
  rw [h3,List.length_cons,Nat.mul_add]
  omega
end Go.Proofs.YtgoffkfpdigeeaaGreatDoor
namespace Go.Proofs.YtgoffkfpdigeeaaGreatDoor
open Go.RowKit
theorem Tryz.infoS6:(Tryz.prog.info? 9).map (fun i=>(i.zero,i.size,i.bytes))=some (some (.string ⟨#[]⟩),1,16):=by kernel_rfl
def TextAt (w:World) (b o:Nat) (L:List ByteArray):Prop:=∀i (h:i<L.length),b<w.heap.size∧w.cell? ⟨b,o+i,none⟩=some (.string (L[i]'h))
theorem TextAt.below {w w':World} {b o:Nat} {L:List ByteArray} (h:TextAt w b o L) (hb:Below w.heap.size w w'):TextAt w' b o L:=fun i hi=>by
 obtain ⟨h1,h2⟩:=h i hi
 exact ⟨Nat.lt_of_lt_of_le h1 hb.size,(hb.cell (p:=⟨b,o+i,none⟩) h1).trans h2⟩
theorem own_texts {w:World} {B:Nat} {a:Option Addr} {n cap:Nat} {xs:List ByteArray} (h:w.ownsRow B 9 1 (.slice a n cap) n (tV xs)) (hn:xs.length=n):∃gk,(0<n→a=some ⟨gk,0,none⟩)∧TextAt w gk 0 xs:=by
 rcases h.2 with ⟨hv,h0⟩|⟨g,cap',cur,hv,hb,hg,_⟩
 ·exact ⟨0,by omega,fun i hi=>by omega⟩
 ·have ha:a=some ⟨g,0,none⟩:=by injection hv
  subst ha
  have hlt:g<w.heap.size:=(Array.getElem?_eq_some_iff.1 hg).1
  refine ⟨g,fun _=>rfl,fun i hi=>?_⟩
  have c0:=h.cells (g:=g) rfl i (.string xs[i]) (by simp [tV,hi])
  rw [show (⟨g,0,none⟩:Addr).add i=⟨g,0+i,none⟩ by unfold Addr.add;split <;> simp_all] at c0
  exact ⟨hlt,c0⟩
set_option maxRecDepth 10000 in
set_option maxHeartbeats 400000 in
theorem find6_any (a:Option Addr) (cap b o:Nat) (L:List ByteArray) (s:ByteArray) (w:World) (ha:0<L.length→a=some ⟨b,o,none⟩) (hL:TextAt w b o L) (hs:L.length≤200000) :
  Calls Tryz.prog 129 #[.slice a L.length cap,.string s] w fun e w'=>e=.returned (.int .i64 (pFind L s))∧w'=w:=by
 have HR:Hid ((∀i (h:i<L.length),L[i]=s→(∀j (hj:j<L.length),j<i→L[j]≠s)→pFind L s=i)∧((∀i (h:i<L.length),L[i]≠s)→pFind L s = -1)):=by
  constructor
  ·intro i h h1 h2
   unfold pFind
   rw [idx6_at s L i h h1 h2,if_pos h]
  ·intro h
   unfold pFind
   rw [idx6_no s L h,if_neg (by omega)]
 generalize pFind L s=R at *
 go_enter Tryz.func129,Tryz.ntmps129
 go_wp2_with fail
 go_loopw [5] (fun iv wr=>∃i:Nat,iv=.int .i64 i∧i≤L.length∧Hid (∀j (hj:j<L.length),j<i→L[j]≠s)∧wr=w) (fun iv _=>L.length-(intOf iv).toNat)
 case atStart=>exact ⟨0,rfl,by omega,fun j _ h=>by omega,rfl⟩
 case round=>
  obtain ⟨i,rfl,hi,HI,rfl⟩:=hrel
  by_cases hlt:i<L.length
  ·obtain rfl:=ha (by omega)
   obtain ⟨hbl,c0⟩:=hL i hlt
   have hq:=eq_text L[i] s
   have HO:Hid (L[i]=s→R=i):=fun h=>HR.out.1 i hlt h HI.out
   have HY:Hid (L[i]≠s→∀j (hj:j<L.length),j<i+1→L[j]≠s):=fun h j hj hji=>by
    by_cases e:j=i
    ·subst e;exact h
    ·exact HI.out j hj (by omega)
   clear HI HR
   generalize L[i]=c at *
   by_cases he:c=s
   ·have HQ:Hid (R=i):=HO.out he
    rw [decide_eq_true he] at hq
    clear HO HY he
    go_wp2_with fail
    go_ret
    rw [HQ.out]
    exact ⟨rfl,rfl⟩
   ·have HQ:=HY.out he
    have HQ':Hid _:=HQ
    rw [decide_eq_false he] at hq
    clear HO HY he HQ
    go_wp2_with fail
    go_roundw
    case rel=>exact ⟨i+1,by go_num,by omega,HQ'.out,trivial⟩
    case measure=>simp [intOf];omega
  ·have HQ:Hid (R = -1):=HR.out.2 (fun j hj=>HI.out j hj (by omega))
   clear HI HR
   go_wp2_with fail
   go_ret
   rw [HQ.out]
   exact ⟨rfl,rfl⟩
set_option maxRecDepth 10000 in
set_option maxHeartbeats 400000 in
theorem bytes6_any (a:Option Addr) (cap b o:Nat) (L:List ByteArray) (w:World) (ha:0<L.length→a=some ⟨b,o,none⟩) (hL:TextAt w b o L) (hs:L.length≤200000) (hm:sum6 L≤1000000000) :
  Calls Tryz.prog 46 #[.slice a L.length cap] w fun e w'=>e=.returned (.int .i64 (sum6 L:Nat))∧w'=w:=by
 have HT:Hid ((∀i (h:i<L.length),sum6 (L.take (i+1))=sum6 (L.take i)+L[i].size)∧sum6 (L.take L.length)=sum6 L):=⟨fun i h=>sum6_take L i h,by rw [List.take_length]⟩
 have HM:Hid (∀i,sum6 (L.take i)≤1000000000):=fun i=>by
  have h1:sum6 L=sum6 (L.take i)+sum6 (L.drop i):=by rw [← sum6_append,List.take_append_drop]
  omega
 have H0:Hid (sum6 (L.take 0)=0):=rfl
 go_enter Tryz.func46,Tryz.ntmps46
 go_wp2_with fail
 go_loopw [3,4] (fun nv iv wr=>∃i n:Nat,iv=.int .i64 i∧nv=.int .i64 n∧i≤L.length∧Hid (n=sum6 (L.take i))∧wr=w) (fun _ iv _=>L.length-(intOf iv).toNat)
 case atStart=>exact ⟨0,0,rfl,rfl,by omega,H0.out.symm,rfl⟩
 case round=>
  obtain ⟨i,n,rfl,rfl,hi,HI,rfl⟩:=hrel
  by_cases hlt:i<L.length
  ·obtain rfl:=ha (by omega)
   obtain ⟨hbl,c0⟩:=hL i hlt
   have hx:=HT.out.1 i hlt
   have hle:=HM.out (i+1)
   have HQ:Hid (n+L[i].size=sum6 (L.take (i+1))):=by show _=_;rw [hx,HI.out]
   rw [← HQ.out] at hle
   have hle':(n:Int)+L[i].size≤1000000000:=by omega
   clear HI hx
   generalize L[i]=c at *
   clear hle
   go_wp2_with fail
   go_roundw
   case rel=>exact ⟨i+1,n+c.size,by go_num,by go_num,by omega,HQ.out,trivial⟩
   case measure=>simp [intOf];omega
  ·have HQ:Hid (sum6 L=n):=by
    have h1:=HI.out
    rw [show i=L.length by omega,HT.out.2] at h1
    exact h1.symm
   clear HI HT
   go_wp2_with fail
   go_ret
   rw [HQ.out]
   exact ⟨rfl,rfl⟩
end Go.Proofs.YtgoffkfpdigeeaaGreatDoor
namespace Go.Proofs.YtgoffkfpdigeeaaGreatDoor
open Go.RowKit
theorem tV_len1 (L:List ByteArray):(tV L).length=L.length*1:=by simp [tV]
theorem tV_oneCell (L:List ByteArray):∀u ∈ tV L,u.oneCell'=true:=by
 intro u hu
 simp only [tV,List.mem_map] at hu
 obtain ⟨_,_,rfl⟩:=hu
 rfl
theorem news_texts {w:World} {y:Addr} {b o:Nat} {L:List ByteArray} (h:TextAt w b o L) (ha:0<L.length→some y=some (⟨b,o,none⟩:Addr)):∀j u,(tV L)[j]? = some u→w.cell? (y.add j)=some u:=by
 intro j u hu
 have hj:j<L.length:=by rw [← tV_length];exact (List.getElem?_eq_some_iff.1 hu).1
 have hy:=ha (by omega)
 simp only [Option.some.injEq] at hy
 subst hy
 obtain ⟨_,c0⟩:=h j hj
 rw [show (⟨b,o,none⟩:Addr).add j=⟨b,o+j,none⟩ by unfold Addr.add;split <;> simp_all,c0,← hu]
 simp [tV,hj]
theorem own_empty6 (w:World):(w.alloc (.cells #[] 9)).ownsRow w.heap.size 9 1 (.slice (some ⟨w.heap.size,0,none⟩) 0 0) 0 []:=World.ownsRow_lit w #[] 0 (Nat.le_refl _) (by decide) (by simp)
theorem own_shape6 {w:World} {B:Nat} {e:TypeId} {size:Nat} {v:Value} {n:Nat} {xs:List Value} (h:w.ownsRow B e size v n xs):∃ao cap,v=.slice ao n cap:=by
 rcases h.2 with ⟨rfl,rfl⟩|⟨g',cap,cur,rfl,_⟩
 ·exact ⟨none,0,rfl⟩
 ·exact ⟨_,cap,rfl⟩
theorem own_cap {w:World} {B:Nat} {e:TypeId} {a:Option Addr} {n cap:Nat} {xs:List Value} (h:w.ownsRow B e 1 (.slice a n cap) n xs):n≤cap:=by
 rcases h.2 with ⟨hv,h0⟩|⟨g,cap',cur,hv,hb,hg,hr⟩
 ·omega
 ·injection hv with _ _ hc
  subst hc
  exact hr.1
theorem own_texts2 {w:World} {B:Nat} {a:Option Addr} {n cap:Nat} {xs:List ByteArray} (h:w.ownsRow B 9 1 (.slice a n cap) n (tV xs)) (hn:xs.length=n):∃gk,(0<n→a=some ⟨gk,0,none⟩)∧TextAt w gk 0 xs∧(0<n→B≤gk):=by
 rcases h.2 with ⟨hv,h0⟩|⟨g,cap',cur,hv,hb,hg,_⟩
 ·exact ⟨0,by omega,fun i hi=>by omega,by omega⟩
 ·have ha:a=some ⟨g,0,none⟩:=by injection hv
  subst ha
  obtain ⟨gk,h1,h2⟩:=own_texts h hn
  by_cases h0:0<n
  ·have h3:=h1 h0
   injection h3 with h3
   injection h3 with h3
   exact ⟨gk,h1,h2,fun _=>by omega⟩
  ·exact ⟨gk,h1,h2,fun h=>absurd h h0⟩
def TGot (w w':World) (e:Ending) (L:List ByteArray) (n:Int):Prop:=
 ∃(a:Option Addr) (cap b o:Nat),e=.returned (.tuple #[.slice a L.length cap,.int .i64 n])∧(0<L.length→a=some ⟨b,o,none⟩)∧TextAt w' b o L∧L.length≤cap∧(a=none→cap=0)∧Below w.heap.size w w'
def TGotAt (w w':World) (e:Ending) (L:List ByteArray) (n:Int) (b0 o0:Nat):Prop:=
 ∃(a:Option Addr) (cap b o:Nat),e=.returned (.tuple #[.slice a L.length cap,.int .i64 n])∧(0<L.length→a=some ⟨b,o,none⟩)∧TextAt w' b o L∧L.length≤cap∧(a=none→cap=0)∧((b=b0∧o=o0)∨w.heap.size≤b)∧Below w.heap.size w w'
set_option maxRecDepth 10000 in
set_option maxHeartbeats 400000 in
theorem intern6_at (a:Option Addr) (cap b o:Nat) (L:List ByteArray) (s:ByteArray) (w:World) (ha:0<L.length→a=some ⟨b,o,none⟩) (hL:TextAt w b o L) (hcap:L.length≤cap) (hnil:a=none→cap=0) (hs:L.length≤200000) :
  Calls Tryz.prog 93 #[.slice a L.length cap,.string s] w fun e w'=>TGotAt w w' e (pIntern L s) (idx6 s L:Nat) b o:=by
 have HF:Hid _:=find6_any a cap b o L s w ha hL hs
 obtain ⟨i0,hi,hz0,hz1,hz2⟩:=info_parts Tryz.infoS6
 by_cases hin:idx6 s L<L.length
 ·rw [show pFind L s=(idx6 s L:Int) from if_pos hin] at HF
  rw [show pIntern L s=L from if_pos hin]
  generalize idx6 s L=n at *
  go_enter Tryz.func93,Tryz.ntmps93
  go_wp2_with fail
  refine Calls.mono HF.out ?_
  rintro e w1 ⟨rfl,rfl⟩
  clear HF
  go_wp2_with fail
  go_ret2
  exact ⟨a,cap,b,o,rfl,ha,hL,hcap,hnil,.inl ⟨rfl,rfl⟩,Below.refl _ _⟩
 ·have hle:=idx6_le s L
  rw [show pFind L s = -1 from if_neg hin] at HF
  rw [show pIntern L s=L++[s] from if_neg hin,show idx6 s L=L.length by omega]
  clear hin hle
  have ho4:=own_empty6 w
  have B4:Below w.heap.size w (w.alloc (.cells #[] 9)):=(Below.refl _ _).alloc (Nat.le_refl _) _
  have hL4:=hL.below B4
  rcases a with _|y
  ·obtain rfl:=hnil rfl
   obtain rfl:L=[]:=List.length_eq_zero_iff.1 (by omega)
   have HC:Hid (∀j u,[Value.string s][j]? = some u→((w.alloc (.cells #[] 9)).alloc (.cells #[.string s] 9)).cell? ((⟨w.heap.size+1,0,none⟩:Addr).add j)=some u):=by
    have h:=cell_one_new (w.alloc (.cells #[] 9)) (.string s) 9
    rw [show (w.alloc (.cells #[] 9)).heap.size=w.heap.size+1 by simp] at h
    exact h
   go_enter Tryz.func93,Tryz.ntmps93
   go_wp2_with fail
   refine Calls.mono HF.out ?_
   rintro e w1 ⟨rfl,rfl⟩
   clear HF
   go_wp2_with (at_builtin;refine wpList_append_lies _ rfl (.tmp 16) (.tmp 18) 47 rfl w1.heap.size 9 i0 (.string ⟨#[]⟩) 1 16 Tryz.underlying47 hi hz0 hz1 hz2 rfl (by decide) _ 0 (tV []) rfl (ho4.alloc _) ⟨w1.heap.size+1,0,none⟩ 1 1 [.string s] rfl rfl HC.out (by intro u hu;simp at hu;subst hu;rfl) (by decide) (by unfold maxLen;omega) (by omega) (by simp;omega) _ rfl ?_)
   intro g2 cap2 w2 hown2 hgrow2 _ _
   have B2:Below w1.heap.size w1 w2:=(B4.alloc (by simp) _).grown hgrow2 (by simp;omega) (fun k hk=>(ho4.lt k hk).1)
   clear ho4 hgrow2 B4 hL4
   go_wp2_with fail
   go_ret2
   have hc2:=own_cap hown2
   have hown3:w2.ownsRow w1.heap.size 9 1 (.slice (some ⟨g2,0,none⟩) 1 cap2) 1 (tV [s]):=by simpa [tV] using hown2
   obtain ⟨gk,h1,h2,h3⟩:=own_texts2 hown3 rfl
   exact ⟨some ⟨g2,0,none⟩,cap2,gk,0,rfl,h1,h2,by simpa using hc2,fun h=>by simp at h,.inr (h3 (by simp)),B2⟩
  ·have HN:Hid _:=news_texts (y:=y) hL4 ha
   go_enter Tryz.func93,Tryz.ntmps93
   go_wp2_with fail
   refine Calls.mono HF.out ?_
   rintro e w1 ⟨rfl,rfl⟩
   clear HF
   go_wp2_with (at_builtin;refine wpList_append_own _ rfl (.tmp 14) (.tmp 15) 47 rfl w1.heap.size 9 i0 (.string ⟨#[]⟩) 1 16 Tryz.underlying47 hi hz0 hz1 hz2 rfl (by decide) _ _ _ rfl ho4 y L.length cap (tV L) rfl (tV_len1 L) HN.out (tV_oneCell L) ?c3 ?c4 ?c5 ?_)
   case c3=>unfold maxLen;omega
   case c4=>omega
   case c5=>simp
   intro v4 w4 hown4 hgrow4 _
   obtain ⟨ao,cap4,rfl⟩:=own_shape6 hown4
   have B5:Below w1.heap.size w1 w4:=B4.grown hgrow4 (by simp) (fun k hk=>(ho4.lt k hk).1)
   have hbk:=fun q hq=>(hown4.lt q hq).1
   clear ho4 hgrow4 B4 hL4 HN
   have hw4:=B5.size
   go_wp2_with (at_builtin;refine wpList_append_lies _ rfl (.tmp 16) (.tmp 18) 47 rfl w1.heap.size 9 i0 (.string ⟨#[]⟩) 1 16 Tryz.underlying47 hi hz0 hz1 hz2 rfl (by decide) _ L.length (tV L) rfl (hown4.alloc _) ⟨w4.heap.size,0,none⟩ 1 1 [.string s] rfl rfl (cell_one_new _ _ _) (by intro u hu;simp at hu;subst hu;rfl) (by decide) (by unfold maxLen;omega) (by omega) (by simp;omega) _ rfl ?_)
   intro g2 cap2 w2 hown2 hgrow2 _ _
   have B2:Below w1.heap.size w1 w2:=(B5.alloc B5.size _).grown hgrow2 (by simp;omega) hbk
   clear hown4 hgrow2 B5
   go_wp2_with fail
   go_ret2
   have hc2:=own_cap hown2
   have hown3:w2.ownsRow w1.heap.size 9 1 (.slice (some ⟨g2,0,none⟩) (L++[s]).length cap2) (L++[s]).length (tV (L++[s])):=by simpa [tV] using hown2
   obtain ⟨gk,h1,h2,h3⟩:=own_texts2 hown3 rfl
   exact ⟨some ⟨g2,0,none⟩,cap2,gk,0,by simp,h1,h2,by simpa using hc2,fun h=>by simp at h,.inr (h3 (by simp)),B2⟩
theorem intern6_any (a:Option Addr) (cap b o:Nat) (L:List ByteArray) (s:ByteArray) (w:World) (ha:0<L.length→a=some ⟨b,o,none⟩) (hL:TextAt w b o L) (hcap:L.length≤cap) (hnil:a=none→cap=0) (hs:L.length≤200000) :
  Calls Tryz.prog 93 #[.slice a L.length cap,.string s] w fun e w'=>TGot w w' e (pIntern L s) (idx6 s L:Nat):=by
 refine (intern6_at a cap b o L s w ha hL hcap hnil hs).mono ?_
 rintro e w' ⟨a',cap',b',o',h1,h2,h3,h4,h5,-,h6⟩
 exact ⟨a',cap',b',o',h1,h2,h3,h4,h5,h6⟩
end Go.Proofs.YtgoffkfpdigeeaaGreatDoor
namespace Go.Proofs.YtgoffkfpdigeeaaGreatDoor
open Go.RowKit
structure TxI (w:World) (a:Option Addr) (cap b o:Nat) (L:List ByteArray):Prop where
 ptr:0<L.length→a=some ⟨b,o,none⟩
 at_:TextAt w b o L
 cap_:L.length≤cap
 nil:a=none→cap=0
theorem TxI.below {w w':World} {a:Option Addr} {cap b o:Nat} {L:List ByteArray} (h:TxI w a cap b o L) (hb:Below w.heap.size w w'):TxI w' a cap b o L:=⟨h.ptr,h.at_.below hb,h.cap_,h.nil⟩
def TxOut (L:List ByteArray) (w w':World) (e:Ending):Prop:=∃a cap b o,e=.returned (.slice a L.length cap)∧TxI w' a cap b o L∧Below w.heap.size w w'
end Go.Proofs.YtgoffkfpdigeeaaGreatDoor
