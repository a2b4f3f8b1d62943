import Derived.Test.YtgoffkfpdigeeaaGreatDoorA18
import Derived.Test.YtgoffkfpdigeeaaGreatDoorA09
import Derived.Test.YtgoffkfpdigeeaaGreatDoorA19
import Derived.Test.YtgoffkfpdigeeaaGreatDoorA08
namespace Go.Proofs.YtgoffkfpdigeeaaGreatDoor
abbrev Sec:=Int × ByteArray
def secL (s:Sec):List UInt8:=UInt8.ofNat s.1.toNat :: (put s.2.size++(s.2.data.toList++four (crc s.2.data.toList)))
def bodyL:List Sec→List UInt8
 | []=>[]
 | s :: r=>secL s++bodyL r
theorem bodyL_append (a b:List Sec):bodyL (a++b)=bodyL a++bodyL b:=by
 induction a with
 | nil=>rfl
 | cons s r ih=>simp [bodyL,ih]
theorem bodyL_one (s:Sec):bodyL [s]=secL s:=by simp [bodyL]
theorem take_snoc {α : Type} (L:List α) (i:Nat) (h:i<L.length):L.take (i+1)=L.take i++[L[i]]:=by
 rw [List.take_add_one,List.getElem?_eq_getElem h];rfl
theorem bodyL_take (L:List Sec) (i:Nat) (h:i<L.length):bodyL (L.take (i+1))=bodyL (L.take i)++secL L[i]:=by
 rw [take_snoc L i h,bodyL_append,bodyL_one]
theorem four_length (n:Nat):(four n).length=4:=rfl
theorem secL_length (s:Sec):(secL s).length=1+(put s.2.size).length+s.2.size+4:=by
 simp [secL,four_length];omega
theorem secL_le (s:Sec):(secL s).length≤s.2.size+15:=by
 have:=(put_length s.2.size).2
 rw [secL_length];omega
theorem bodyL_le (M:Nat) (L:List Sec) (h:∀s ∈ L,s.2.size≤M):(bodyL L).length≤L.length*(M+15):=by
 induction L with
 | nil=>simp [bodyL]
 | cons s r ih=>
  have h1:=h s (by simp)
  have h2:=ih (fun s hs=>h s (by simp [hs]))
  have h3:=secL_le s
  simp only [bodyL,List.length_append,List.length_cons,Nat.add_mul]
  omega
def chk:List Sec→Int
 | []=>0
 | s :: r=>if s.1<1∨255<s.1 then 4 else if 16777216<s.2.size then 19 else chk r
def okSec (s:Sec):Prop:=1≤s.1∧s.1≤255∧s.2.size≤16777216
theorem chk_ok (L:List Sec):chk L=0↔∀s ∈ L,okSec s:=by
 induction L with
 | nil=>simp [chk]
 | cons s r ih=>
  unfold chk
  split
  ·constructor
   ·intro h;omega
   ·intro h;have:=h s (by simp);unfold okSec at this;omega
  ·split
   ·constructor
    ·intro h;omega
    ·intro h;have:=h s (by simp);unfold okSec at this;omega
   ·rw [ih]
    constructor
    ·intro h t ht
     rcases List.mem_cons.1 ht with rfl|ht
     ·unfold okSec;omega
     ·exact h t ht
    ·intro h t ht;exact h t (by simp [ht])
def pPut (m:ByteArray) (v:Int) (L:List Sec):List UInt8 × Int:=
 if m.size≠4 then ([],6) else if v<1∨255<v then ([],7) else if 8<L.length then ([],8) else if chk L≠0 then ([],chk L) else (m.data.toList++UInt8.ofNat v.toNat :: bodyL L,0)
def sec0 (c:UInt8) (r:List UInt8) (d:Nat × Nat × Nat):Nat × Sec × Nat:=
 if c.toNat=0 then (4,(0,⟨#[]⟩),0)
 else if d.2.2≠0 then (d.2.2,(0,⟨#[]⟩),0)
 else if 16777216<d.1 then (19,(0,⟨#[]⟩),0)
 else if r.length<d.2.1+d.1+4 then (2,(0,⟨#[]⟩),0)
 else if (r.drop (d.2.1+d.1)).take 4≠four (crc ((r.drop d.2.1).take d.1)) then (5,(0,⟨#[]⟩),0)
 else (0,((c.toNat:Int),⟨((r.drop d.2.1).take d.1).toArray⟩),1+d.2.1+d.1+4)
def sec1:List UInt8→Nat × Sec × Nat
 | []=>(2,(0,⟨#[]⟩),0)
 | c :: r=>sec0 c r (dec 0 0 r)
theorem sec1_cons (c:UInt8) (r:List UInt8):sec1 (c :: r)=sec0 c r (dec 0 0 r):=rfl
def cont (xs:List Sec) (q:Nat × List Sec):Nat × List Sec:=if q.1≠0 then (q.1,[]) else (0,xs++q.2)
def secsL:Nat→List UInt8→Nat × List Sec
 | 0,l=>if l=[] then (0,[]) else (8,[])
 | f+1,l=>if l=[] then (0,[]) else if (sec1 l).1≠0 then ((sec1 l).1,[]) else cont [(sec1 l).2.1] (secsL f (l.drop (sec1 l).2.2))
theorem secsL_nil (f:Nat):secsL f []=(0,[]):=by cases f <;> simp [secsL]
theorem secsL_full (l:List UInt8) (h:l≠[]):secsL 0 l=(8,[]):=by simp [secsL,h]
theorem secsL_bad (f:Nat) (l:List UInt8) (h:l≠[]) (he:(sec1 l).1≠0):secsL (f+1) l=((sec1 l).1,[]):=by simp [secsL,h,he]
theorem secsL_go (f:Nat) (l:List UInt8) (h:l≠[]) (he:(sec1 l).1=0):secsL (f+1) l=cont [(sec1 l).2.1] (secsL f (l.drop (sec1 l).2.2)):=by simp [secsL,h,he]
theorem cont_bad {xs:List Sec} {q:Nat × List Sec} (h:q.1≠0):cont xs q=(q.1,[]):=by unfold cont;rw [if_pos h]
theorem cont_ok {xs:List Sec} {q:Nat × List Sec} (h:q.1=0):cont xs q=(0,xs++q.2):=by unfold cont;rw [if_neg (by simpa using h)]
theorem cont_cont (xs ys:List Sec) (q:Nat × List Sec):cont xs (cont ys q)=cont (xs++ys) q:=by
 by_cases h:q.1=0
 ·rw [cont_ok h,cont_ok h,cont_ok rfl,List.append_assoc]
 ·rw [cont_bad h,cont_bad h];exact cont_bad h
theorem secsL_err (f:Nat) (l:List UInt8) (h:(secsL f l).1≠0):(secsL f l).2=[]:=by
 cases f with
 | zero=>simp only [secsL] at h ⊢;split <;> simp_all
 | succ f=>
  by_cases hl:l=[]
  ·rw [hl,secsL_nil] at h;simp at h
  by_cases he:(sec1 l).1=0
  ·rw [secsL_go f l hl he] at h ⊢
   by_cases hq:(secsL f (l.drop (sec1 l).2.2)).1=0
   ·rw [cont_ok hq] at h;simp at h
   ·rw [cont_bad hq]
  ·rw [secsL_bad f l hl he]
theorem cont_nil (f:Nat) (l:List UInt8):cont [] (secsL f l)=secsL f l:=by
 by_cases h:(secsL f l).1=0
 ·rw [cont_ok h,List.nil_append,← h]
 ·rw [cont_bad h,← secsL_err f l h]
def pGet (m b:List UInt8):Nat × Nat × List Sec:=
 if m.length≠4∨b.take 4≠m then (6,0,[]) else match b.drop 4 with
 | []=>(2,0,[])
 | v :: r=>if v.toNat=0 then (7,0,[]) else if (secsL 8 r).1≠0 then ((secsL 8 r).1,0,[]) else (0,v.toNat,(secsL 8 r).2)
theorem ofNat_toNat8 (c:UInt8):UInt8.ofNat c.toNat=c:=by simp
theorem toNat_ofNat8 (n:Nat) (h:n<256):(UInt8.ofNat n).toNat=n:=by simp;omega
theorem sec1_put (s:Sec) (r:List UInt8) (h:okSec s):sec1 (secL s++r)=(0,s,(secL s).length):=by
 obtain ⟨h1,h2,h3⟩:=h
 have hd:dec 0 0 (put s.2.size++(s.2.data.toList++four (crc s.2.data.toList)++r))=(s.2.size,(put s.2.size).length,0):=dec_put s.2.size (by omega) _
 have hc:(UInt8.ofNat s.1.toNat).toNat=s.1.toNat:=toNat_ofNat8 _ (by omega)
 have hl:s.2.data.toList.length=s.2.size:=list_size s.2
 have e:secL s++r=UInt8.ofNat s.1.toNat :: (put s.2.size++(s.2.data.toList++four (crc s.2.data.toList)++r)):=by simp [secL]
 rw [e,secL_length,sec1_cons,hd]
 unfold sec0
 rw [hc,if_neg (by omega),if_neg (by simp),if_neg (by dsimp only;omega),if_neg (by simp [four_length];omega)]
 dsimp only
 have t1:((put s.2.size++(s.2.data.toList++four (crc s.2.data.toList)++r)).drop (put s.2.size).length).take s.2.size=s.2.data.toList:=by
  rw [List.drop_left,List.append_assoc,← hl,List.take_left]
 have t2:((put s.2.size++(s.2.data.toList++four (crc s.2.data.toList)++r)).drop ((put s.2.size).length+s.2.size)).take 4=four (crc s.2.data.toList):=by
  rw [← List.drop_drop,List.drop_left,List.append_assoc,← hl,List.drop_left,show 4=(four (crc s.2.data.toList)).length from rfl,List.take_left]
 rw [t1,t2,if_neg (by simp)]
 have t3:((s.1.toNat:Int),(⟨s.2.data.toList.toArray⟩:ByteArray))=s:=Prod.ext (by dsimp only;omega) rfl
 rw [t3]
theorem sec1_ok (l:List UInt8) (h:(sec1 l).1=0):okSec (sec1 l).2.1∧(sec1 l).2.2≤l.length∧secL (sec1 l).2.1=l.take (sec1 l).2.2:=by
 cases l with
 | nil=>simp [sec1] at h
 | cons c r=>
  rw [sec1_cons] at h ⊢
  obtain ⟨n,m,e,hd⟩:∃n m e,dec 0 0 r=(n,m,e):=⟨_,_,_,rfl⟩
  rw [hd] at h ⊢
  unfold sec0 at h ⊢
  dsimp only at h ⊢
  by_cases h1:c.toNat=0
  ·rw [if_pos h1] at h;simp at h
  rw [if_neg h1] at h ⊢
  by_cases h2:e≠0
  ·rw [if_pos h2] at h;exact absurd h h2
  rw [if_neg h2] at h ⊢
  by_cases h3:16777216<n
  ·rw [if_pos h3] at h;simp at h
  rw [if_neg h3] at h ⊢
  by_cases h4:r.length<m+n+4
  ·rw [if_pos h4] at h;simp at h
  rw [if_neg h4] at h ⊢
  by_cases h5:(r.drop (m+n)).take 4≠four (crc ((r.drop m).take n))
  ·rw [if_pos h5] at h;simp at h
  rw [if_neg h5]
  obtain ⟨p1,p2,p3,p4,p5⟩:=put_dec r n m (by rw [hd,Decidable.not_not.1 h2])
  have hc:=c.toNat_lt
  have hlen:((r.drop m).take n).length=n:=by rw [List.length_take,List.length_drop];omega
  have hsz:(ByteArray.mk ((r.drop m).take n).toArray).size=n:=by rw [← list_size];exact hlen
  refine ⟨⟨by dsimp only;omega,by dsimp only;omega,by dsimp only;rw [hsz];omega⟩,by simp;omega,?_⟩
  unfold secL
  dsimp only
  rw [hsz,p5,Int.toNat_natCast,ofNat_toNat8,← Decidable.not_not.1 h5]
  have e1:1+m+n+4=(m+(n+4))+1:=by omega
  rw [e1,List.take_succ_cons,List.take_add,List.take_add,List.drop_drop]
theorem secs_put (L:List Sec):∀f,(∀s ∈ L,okSec s)→L.length≤f→secsL f (bodyL L)=(0,L):=by
 induction L with
 | nil=>intro f _ _;exact secsL_nil f
 | cons s r ih=>
  intro f h hf
  obtain ⟨g,rfl⟩:∃g,f=g+1:=⟨f-1,by simp at hf;omega⟩
  have h1:=sec1_put s (bodyL r) (h s (by simp))
  have hne:secL s++bodyL r≠[]:=by simp [secL]
  show secsL (g+1) (secL s++bodyL r)=_
  rw [secsL_go g _ hne (by rw [h1]),h1]
  dsimp only
  rw [List.drop_left,ih g (fun t ht=>h t (by simp [ht])) (by simpa using hf)]
  rfl
theorem secs_ok (f:Nat):∀l,(secsL f l).1=0→l=bodyL (secsL f l).2∧(∀s ∈ (secsL f l).2,okSec s)∧(secsL f l).2.length≤f:=by
 induction f with
 | zero=>
  intro l h
  by_cases hl:l=[]
  ·subst hl;rw [secsL_nil];simp [bodyL]
  ·rw [secsL_full l hl] at h;simp at h
 | succ f ih=>
  intro l h
  by_cases hl:l=[]
  ·subst hl;rw [secsL_nil];simp [bodyL]
  by_cases he:(sec1 l).1=0
  ·rw [secsL_go f l hl he] at h ⊢
   by_cases hq:(secsL f (l.drop (sec1 l).2.2)).1=0
   ·obtain ⟨i1,i2,i3⟩:=ih _ hq
    obtain ⟨j1,j2,j3⟩:=sec1_ok l he
    rw [cont_ok hq]
    dsimp only
    refine ⟨?_,?_,by simp;omega⟩
    ·rw [bodyL_append,bodyL_one,j3,← i1,List.take_append_drop]
    ·intro s hs
     rcases List.mem_cons.1 hs with rfl|hs
     ·exact j1
     ·exact i2 s hs
   ·rw [cont_bad hq] at h;exact absurd h hq
  ·rw [secsL_bad f l hl he] at h;exact absurd h he
theorem pPut_ok (m:ByteArray) (v:Int) (L:List Sec) (h:(pPut m v L).2=0):m.size=4∧1≤v∧v≤255∧L.length≤8∧(∀s ∈ L,okSec s)∧(pPut m v L).1=m.data.toList++UInt8.ofNat v.toNat :: bodyL L:=by
 unfold pPut at h ⊢
 by_cases h1:m.size≠4
 ·rw [if_pos h1] at h;simp at h
 rw [if_neg h1] at h ⊢
 by_cases h2:v<1∨255<v
 ·rw [if_pos h2] at h;simp at h
 rw [if_neg h2] at h ⊢
 by_cases h3:8<L.length
 ·rw [if_pos h3] at h;simp at h
 rw [if_neg h3] at h ⊢
 by_cases h4:chk L≠0
 ·rw [if_pos h4] at h;exact absurd h h4
 rw [if_neg h4]
 exact ⟨Decidable.not_not.1 h1,by omega,by omega,by omega,(chk_ok L).1 (Decidable.not_not.1 h4),rfl⟩
theorem pPut_of (m:ByteArray) (v:Int) (L:List Sec) (h1:m.size=4) (h2:1≤v) (h3:v≤255) (h4:L.length≤8) (h5:∀s ∈ L,okSec s):pPut m v L=(m.data.toList++UInt8.ofNat v.toNat :: bodyL L,0):=by
 unfold pPut
 rw [if_neg (by simpa using h1),if_neg (by omega),if_neg (by omega),if_neg (by simpa using (chk_ok L).2 h5)]
theorem pGet_front (m:List UInt8) (v:UInt8) (r:List UInt8) (hm:m.length=4) (hv:v.toNat≠0) (hr:(secsL 8 r).1=0):pGet m (m++v :: r)=(0,v.toNat,(secsL 8 r).2):=by
 unfold pGet
 have t1:(m++v :: r).take 4=m:=by rw [← hm,List.take_left]
 have t2:(m++v :: r).drop 4=v :: r:=by rw [← hm,List.drop_left]
 rw [t1,t2,if_neg (by simp [hm])]
 dsimp only
 rw [if_neg hv,if_neg (by simpa using hr)]
theorem back_math (m:ByteArray) (v:Int) (L:List Sec) (h:(pPut m v L).2=0):pGet m.data.toList (pPut m v L).1=(0,v.toNat,L):=by
 obtain ⟨h1,h2,h3,h4,h5,h6⟩:=pPut_ok m v L h
 have hs:=secs_put L 8 h5 h4
 have hv:(UInt8.ofNat v.toNat).toNat=v.toNat:=toNat_ofNat8 _ (by omega)
 rw [h6,pGet_front _ _ _ (by rw [list_size];exact h1) (by omega) (by rw [hs]),hs,hv]
theorem one_math (m:ByteArray) (b:List UInt8) (h:(pGet m.data.toList b).1=0):pPut m ((pGet m.data.toList b).2.1:Int) (pGet m.data.toList b).2.2=(b,0):=by
 unfold pGet at h ⊢
 by_cases h1:m.data.toList.length≠4∨b.take 4≠m.data.toList
 ·rw [if_pos h1] at h;simp at h
 rw [if_neg h1] at h ⊢
 have hb:b=m.data.toList++b.drop 4:=by
  have:b.take 4=m.data.toList:=by simpa using fun e=>h1 (.inr e)
  rw [← this,List.take_append_drop]
 have hm:m.size=4:=by rw [← list_size];simpa using fun e=>h1 (.inl e)
 generalize b.drop 4=t at *
 subst hb
 cases t with
 | nil=>simp at h
 | cons v r=>
  dsimp only at h ⊢
  by_cases h2:v.toNat=0
  ·rw [if_pos h2] at h;simp at h
  rw [if_neg h2] at h ⊢
  by_cases h3:(secsL 8 r).1≠0
  ·rw [if_pos h3] at h;exact absurd h h3
  rw [if_neg h3]
  obtain ⟨i1,i2,i3⟩:=secs_ok 8 r (Decidable.not_not.1 h3)
  have hv:=v.toNat_lt
  rw [pPut_of m _ _ hm (by dsimp only;omega) (by dsimp only;omega) i3 i2,← i1]
  simp
def mD:ByteArray:=⟨#[68,73,79,82]⟩
theorem ba_eq {s t:ByteArray} (h:s.data.toList=t.data.toList):s=t:=by
 cases s;cases t;congr;exact Array.toList_inj.1 h
end Go.Proofs.YtgoffkfpdigeeaaGreatDoor
namespace Go.Proofs.YtgoffkfpdigeeaaGreatDoor
open Go.RowKit
def SecAt (w:World) (b o:Nat) (L:List Sec):Prop:=∀i (h:i<L.length),b<w.heap.size∧w.cell? ⟨b,o+i*2,none⟩=some (.int .i64 (L[i]'h).1)∧w.cell? ⟨b,o+i*2+1,none⟩=some (.string (L[i]'h).2)
theorem SecAt.below {w w':World} {b o:Nat} {L:List Sec} (h:SecAt w b o L) (hb:Below w.heap.size w w'):SecAt w' b o L:=fun i hi=>by
 obtain ⟨h1,h2,h3⟩:=h i hi
 exact ⟨Nat.lt_of_lt_of_le h1 hb.size,((bcell hb).1 b _ h1).trans h2,((bcell hb).1 b _ h1).trans h3⟩
def cf (m:Nat) (v n:Int):Int:=if m≠4 then 6 else if v<1∨255<v then 7 else if 8<n then 8 else 0
def cs (s:Sec):Int:=if s.1<1∨255<s.1 then 4 else if 16777216<s.2.size then 19 else 0
theorem pPut_first (m:ByteArray) (v:Int) (L:List Sec) (h:cf m.size v L.length≠0):pPut m v L=([],cf m.size v L.length):=by
 unfold cf at h ⊢
 unfold pPut
 by_cases h1:m.size≠4
 ·rw [if_pos h1,if_pos h1]
 rw [if_neg h1] at h ⊢
 rw [if_neg h1]
 by_cases h2:v<1∨255<v
 ·rw [if_pos h2,if_pos h2]
 rw [if_neg h2] at h ⊢
 rw [if_neg h2]
 by_cases h3:(8:Int)<L.length
 ·rw [if_pos h3,if_pos (by omega)]
 rw [if_neg h3] at h
 exact absurd rfl h
theorem pPut_second (m:ByteArray) (v:Int) (L:List Sec) (h:cf m.size v L.length=0):m.size=4∧1≤v∧v≤255∧L.length≤8∧pPut m v L=if chk L≠0 then ([],chk L) else (m.data.toList++UInt8.ofNat v.toNat :: bodyL L,0):=by
 unfold cf at h
 unfold pPut
 by_cases h1:m.size≠4
 ·rw [if_pos h1] at h;omega
 rw [if_neg h1] at h ⊢
 by_cases h2:v<1∨255<v
 ·rw [if_pos h2] at h;omega
 rw [if_neg h2] at h ⊢
 by_cases h3:(8:Int)<L.length
 ·rw [if_pos h3] at h;omega
 rw [if_neg (by omega)]
 exact ⟨by omega,by omega,by omega,by omega,rfl⟩
theorem chk_cons (s:Sec) (r:List Sec):chk (s :: r)=if cs s≠0 then cs s else chk r:=by
 rw [chk]
 unfold cs
 by_cases h1:s.1<1∨255<s.1
 ·rw [if_pos h1,if_pos h1];rfl
 rw [if_neg h1,if_neg h1]
 by_cases h2:16777216<s.2.size
 ·rw [if_pos h2,if_pos h2];rfl
 rw [if_neg h2,if_neg h2];rfl
set_option maxRecDepth 10000 in
set_option maxHeartbeats 400000 in
theorem cf_any (m:ByteArray) (v n:Int) (w:World) :
  Calls Tryz.prog 60 #[.string m,.int .i64 v,.int .i64 n] w fun e w'=>e=.returned (.int .i64 (cf m.size v n))∧w'=w:=by
 unfold cf
 by_cases h1:m.size=4
 ·have h1':(m.size:Int)=4:=by omega
  rw [if_neg (by simpa using h1)]
  by_cases h2:v<1
  ·rw [if_pos (.inl h2)]
   go_enter Tryz.func60,Tryz.ntmps60
   go_wp2_with fail
   go_ret
   exact ⟨rfl,rfl⟩
  by_cases h3:255<v
  ·rw [if_pos (.inr h3)]
   go_enter Tryz.func60,Tryz.ntmps60
   go_wp2_with fail
   go_ret
   exact ⟨rfl,rfl⟩
  rw [if_neg (by omega)]
  by_cases h4:8<n
  ·rw [if_pos h4]
   go_enter Tryz.func60,Tryz.ntmps60
   go_wp2_with fail
   go_ret
   exact ⟨rfl,rfl⟩
  ·rw [if_neg h4]
   go_enter Tryz.func60,Tryz.ntmps60
   go_wp2_with fail
   go_ret
   exact ⟨rfl,rfl⟩
 ·have h1':¬(m.size:Int)=4:=by omega
  rw [if_pos (by simpa using h1)]
  go_enter Tryz.func60,Tryz.ntmps60
  go_wp2_with fail
  go_ret
  exact ⟨rfl,rfl⟩
set_option maxRecDepth 10000 in
set_option maxHeartbeats 400000 in
theorem cs_any (s:Sec) (w:World) :
  Calls Tryz.prog 61 #[.agg #[.int .i64 s.1,.string s.2]] w fun e w'=>e=.returned (.int .i64 (cs s))∧Below w.heap.size w w':=by
 unfold cs
 obtain ⟨x,p⟩:=s
 dsimp only
 by_cases h2:x<1
 ·rw [if_pos (.inl h2)]
  go_enter Tryz.func61,Tryz.ntmps61
  go_wp2_with fail
  go_ret
  exact ⟨rfl,(Below.refl _ _).alloc (Nat.le_refl _) _⟩
 by_cases h3:255<x
 ·rw [if_pos (.inr h3)]
  go_enter Tryz.func61,Tryz.ntmps61
  go_wp2_with fail
  go_ret
  exact ⟨rfl,(Below.refl _ _).alloc (Nat.le_refl _) _⟩
 rw [if_neg (by omega)]
 by_cases h4:16777216<p.size
 ·have h4':(16777216:Int)<p.size:=by omega
  rw [if_pos h4]
  go_enter Tryz.func61,Tryz.ntmps61
  go_wp2_with fail
  go_ret
  exact ⟨rfl,(Below.refl _ _).alloc (Nat.le_refl _) _⟩
 ·have h4':¬(16777216:Int)<p.size:=by omega
  rw [if_neg h4]
  go_enter Tryz.func61,Tryz.ntmps61
  go_wp2_with fail
  go_ret
  exact ⟨rfl,(Below.refl _ _).alloc (Nat.le_refl _) _⟩
set_option maxRecDepth 10000 in
set_option maxHeartbeats 400000 in
theorem fput_first (m:ByteArray) (v:Int) (a:Option Addr) (n cap:Nat) (w:World) (h:cf m.size v n≠0) :
  Calls Tryz.prog 28 #[.string m,.int .i64 v,.slice a n cap] w fun e w'=>e=.returned (.tuple #[.string ⟨#[]⟩,.int .i64 (cf m.size v n)])∧Below w.heap.size w w':=by
 have hc:=fun W=>cf_any m v n W
 have h':(cf m.size v n != 0)=true:=by simpa using h
 generalize cf m.size v n=c at *
 have HC:Hid _:=hc
 clear hc h
 go_enter Tryz.func28,Tryz.ntmps28
 go_wp2_with fail
 refine (HC.out _).mono ?_
 rintro e w1 ⟨rfl,rfl⟩
 go_wp2_with fail
 go_ret2
 exact ⟨rfl,Below.refl _ _⟩
end Go.Proofs.YtgoffkfpdigeeaaGreatDoor
namespace Go.Proofs.YtgoffkfpdigeeaaGreatDoor
open Go.RowKit
theorem chk_at (L:List Sec) (i:Nat) (h:i<L.length):chk (L.drop i)=if cs L[i]≠0 then cs L[i] else chk (L.drop (i+1)):=by
 rw [List.drop_eq_getElem_cons h,chk_cons]
set_option maxRecDepth 10000 in
set_option maxHeartbeats 400000 in
theorem fput_second (m:ByteArray) (v:Int) (a:Option Addr) (cap b o:Nat) (L:List Sec) (w:World) (h:cf m.size v L.length=0) (hL:L.length≤20) (ha:0<L.length→a=some ⟨b,o,none⟩) (hs:SecAt w b o L) (hc:chk L≠0) :
  Calls Tryz.prog 28 #[.string m,.int .i64 v,.slice a L.length cap] w fun e w'=>e=.returned (.tuple #[.string ⟨#[]⟩,.int .i64 (chk L)])∧Below w.heap.size w w':=by
 have HC:Hid (∀W,Calls Tryz.prog 60 #[.string m,.int .i64 v,.int .i64 (L.length:Int)] W fun e w'=>e=.returned (.int .i64 0)∧w'=W):=fun W=>by rw [← h];exact cf_any m v L.length W
 have HD:Hid (chk (L.drop 0)=chk L):=rfl
 generalize chk L=C at *
 clear h
 go_enter Tryz.func28,Tryz.ntmps28
 go_wp2_with fail
 refine (HC.out _).mono ?_
 rintro e w1 ⟨rfl,rfl⟩
 go_wp2_with fail
 clear HC
 go_loopw [25] (fun iv wr=>∃i:Nat,iv=.int .i64 i∧i≤L.length∧Hid (chk (L.drop i)=C)∧Below w1.heap.size w1 wr) (fun iv _=>L.length-(intOf iv).toNat)
 case atStart=>exact ⟨0,rfl,by omega,HD,Below.refl _ _⟩
 case round=>
  obtain ⟨i,rfl,hi,HI,hb⟩:=hrel
  by_cases hlt:i<L.length
  ·have hI:=HI.out
   rw [chk_at L i hlt] at hI
   obtain rfl:=ha (by omega)
   obtain ⟨hbl,c0,c1⟩:=hs i hlt
   rw [← (bcell hb).1 b _ hbl] at c0 c1
   have HS:=fun W=>cs_any L[i] W
   generalize L[i]=s at *
   obtain ⟨x,p⟩:=s
   dsimp only at c0 c1 HS
   generalize cs (x,p)=k at *
   have HS':Hid _:=HS
   clear HS HI
   by_cases hk:k=0
   ·subst hk
    have HN:Hid (chk (L.drop (i+1))=C):=by show _=_;simpa using hI
    clear hI
    go_wp2_with fail
    refine (HS'.out _).mono ?_
    rintro e w2 ⟨rfl,hb2⟩
    have hb3:Below w1.heap.size w1 w2:=(hb.alloc hb.size _).trans (hb2.mono (by have:=hb.size;simp;omega))
    go_wp2_with fail
    go_roundw
    case rel=>exact ⟨i+1,by go_num,by omega,HN,hb3⟩
    case measure=>simp [intOf];omega
   ·have HN:Hid (k=C):=by show _=_;simpa [hk] using hI
    have hk':(k != 0)=true:=by simpa using hk
    clear hI hk
    go_wp2_with fail
    refine (HS'.out _).mono ?_
    rintro e w2 ⟨rfl,hb2⟩
    have hb3:Below w1.heap.size w1 w2:=(hb.alloc hb.size _).trans (hb2.mono (by have:=hb.size;simp;omega))
    go_wp2_with fail
    go_ret2
    rw [← HN.out]
    exact ⟨rfl,hb3⟩
  ·exfalso
   have hI:=HI.out
   rw [List.drop_of_length_le (by omega)] at hI
   exact hc hI.symm
theorem cs_ok (s:Sec) (h:okSec s):cs s=0:=by
 obtain ⟨h1,h2,h3⟩:=h
 unfold cs
 rw [if_neg (by omega),if_neg (by omega)]
set_option maxRecDepth 10000 in
set_option maxHeartbeats 400000 in
theorem fput_good (m:ByteArray) (v:Int) (a:Option Addr) (cap b o:Nat) (L:List Sec) (w:World) (h:cf m.size v L.length=0) (ha:0<L.length→a=some ⟨b,o,none⟩) (hs:SecAt w b o L) (hok:∀s ∈ L,okSec s) (hp:∀s ∈ L,s.2.size≤4000000) :
  Calls Tryz.prog 28 #[.string m,.int .i64 v,.slice a L.length cap] w fun e w'=>e=.returned (.tuple #[.string ⟨(m.data.toList++UInt8.ofNat v.toNat :: bodyL L).toArray⟩,.int .i64 0])∧Below w.heap.size w w':=by
 have HC:Hid (∀W,Calls Tryz.prog 60 #[.string m,.int .i64 v,.int .i64 (L.length:Int)] W fun e w'=>e=.returned (.int .i64 0)∧w'=W):=fun W=>by rw [← h];exact cf_any m v L.length W
 obtain ⟨hm4,hv1,hv2,hL8,_⟩:=pPut_second m v L h
 obtain ⟨vn,rfl⟩:=Int.eq_ofNat_of_zero_le (show 0≤v by omega)
 have hvw:IntKind.u8.wrap (vn:Int)=vn:=by rw [IntKind.wrap_u8'];omega
 have HF:Hid (m.data.toList++UInt8.ofNat (vn:Int).toNat :: bodyL L=m.data.toList++[UInt8.ofNat vn]++bodyL (L.take L.length)):=by show _=_;simp
 have HM:Hid (m.data.toList.length=4):=by show _=_;rw [list_size];exact hm4
 have HB:Hid (∀i,(bodyL (L.take i)).length≤8*4000015):=fun i=>by
  have h1:=bodyL_le 4000000 (L.take i) (fun s hs=>hp s (List.mem_of_mem_take hs))
  have h2:(L.take i).length≤8:=by rw [List.length_take];omega
  have h3:(L.take i).length*(4000000+15)≤8*(4000000+15):=Nat.mul_le_mul h2 (Nat.le_refl _)
  exact Nat.le_trans h1 (Nat.le_trans h3 (by decide))
 generalize m.data.toList++UInt8.ofNat (vn:Int).toNat :: bodyL L=R at *
 have hms:m.size≤100:=by omega
 clear h hm4
 go_enter Tryz.func28,Tryz.ntmps28
 go_wp2_with fail
 refine (HC.out _).mono ?_
 rintro e w1 ⟨rfl,rfl⟩
 go_wp2_with fail
 clear HC
 go_loopw [25] (fun iv wr=>∃i:Nat,iv=.int .i64 i∧i≤L.length∧Below w1.heap.size w1 wr) (fun iv _=>L.length-(intOf iv).toNat)
 case atStart=>exact ⟨0,rfl,by omega,Below.refl _ _⟩
 case round=>
  obtain ⟨i,rfl,hi,hb⟩:=hrel
  by_cases hlt:i<L.length
  ·obtain rfl:=ha (by omega)
   obtain ⟨hbl,c0,c1⟩:=hs i hlt
   rw [← (bcell hb).1 b _ hbl] at c0 c1
   have HS:=fun W=>cs_any L[i] W
   rw [cs_ok _ (hok _ (List.getElem_mem hlt))] at HS
   generalize L[i]=s at *
   obtain ⟨x,p⟩:=s
   dsimp only at c0 c1 HS
   have HS':Hid _:=HS
   clear HS
   go_wp2_with fail
   refine (HS'.out _).mono ?_
   rintro e w2 ⟨rfl,hb2⟩
   have hb3:Below w1.heap.size w1 w2:=(hb.alloc hb.size _).trans (hb2.mono (by have:=hb.size;simp;omega))
   go_wp2_with fail
   go_roundw
   case rel=>exact ⟨i+1,by go_num,by omega,hb3⟩
   case measure=>simp [intOf];omega
  ·clear hi
   have hBsz:=hb.size
   have B0:Bu wr.heap.size wr.heap.size [] (wr.alloc (.cells #[.pointer none,.slice none 0 0] 95)):=Bu.new wr
   have hA:Below w1.heap.size w1 (wr.alloc (.cells #[.pointer none,.slice none 0 0] 95)):=hb.alloc hb.size _
   go_wp2_with fail
   refine (wstr_any wr.heap.size wr.heap.size [] m _ B0 (by simp;omega) (by simp)).mono ?_
   rintro e w2 ⟨rfl,B2,hb2,_⟩
   have hA2:=hA.trans (hb2.mono hBsz)
   have hs2:wr.heap.size≤w2.heap.size:=by have:=hb2.size;simp at this;omega
   generalize wr.heap.size=g at *
   clear B0 hA hb2 hb
   go_wp2_with fail
   refine (wbyte_any g g _ vn _ B2 (by omega) (by have:=HM.out;simp;omega) hs2).mono ?_
   rintro e w3 ⟨rfl,B3,hb3,_⟩
   have hA3:=hA2.trans (hb3.mono hBsz)
   have hs3:=Nat.le_trans hs2 hb3.size
   rw [List.nil_append] at B3
   have HP:Hid ((m.data.toList++[UInt8.ofNat vn]).length=5):=by show _=_;rw [List.length_append,HM.out];rfl
   generalize m.data.toList++[UInt8.ofNat vn]=pre at *
   clear B2 hA2 hb3
   go_wp2_with fail
   go_loopw [42] (fun iv wr=>∃i:Nat,iv=.int .i64 i∧i≤L.length∧Bu g g (pre++bodyL (L.take i)) wr∧Below w1.heap.size w1 wr∧g≤wr.heap.size) (fun iv _=>L.length-(intOf iv).toNat)
   case atStart=>exact ⟨0,rfl,by omega,by simpa [bodyL] using B3,hA3,hs3⟩
   case round=>
    obtain ⟨i,rfl,hi,hB,hb,hsz⟩:=hrel
    clear B3 hA3 hs3
    by_cases hlt:i<L.length
    ·obtain rfl:=ha (by omega)
     obtain ⟨hbl,c0,c1⟩:=hs i hlt
     rw [← (bcell hb).1 b _ hbl] at c0 c1
     have hl1:(pre++bodyL (L.take i)).length≤40000000:=by have h1:=HB.out i;have h2:=HP.out;rw [List.length_append];omega
     have hpi:=hp _ (List.getElem_mem hlt)
     obtain ⟨ho1,ho2,_⟩:=hok _ (List.getElem_mem hlt)
     have HT:Hid (pre++bodyL (L.take (i+1))=pre++bodyL (L.take i)++secL L[i]):=by show _=_;rw [bodyL_take L i hlt,List.append_assoc]
     generalize pre++bodyL (L.take i)=xs at *
     generalize L[i]=s at *
     obtain ⟨x,p⟩:=s
     dsimp only at c0 c1 hpi ho1 ho2
     obtain ⟨xn,rfl⟩:=Int.eq_ofNat_of_zero_le (show 0≤x by omega)
     have hxw:IntKind.u8.wrap (xn:Int)=xn:=by rw [IntKind.wrap_u8'];omega
     have P1:=fun W=>put_any (p.size:Int) W (by omega) (by omega)
     rw [Int.toNat_natCast] at P1
     have z1:=(put_length p.size).2
     have d1:(ByteArray.mk (put p.size).toArray).data.toList=put p.size:=rfl
     have P2:=fun W=>sum_any p W (by omega)
     have P3:=fun W=>put4_any (crc p.data.toList) W (crc_lt _)
     have d3:(ByteArray.mk (four (crc p.data.toList)).toArray).data.toList=four (crc p.data.toList):=rfl
     have HSL:Hid (secL ((xn:Int),p)=[UInt8.ofNat xn]++put p.size++p.data.toList++four (crc p.data.toList)):=by show _=_;simp [secL]
     rw [HSL.out] at HT
     rw [← d1] at z1 HT
     rw [← d3] at HT
     have z3:(ByteArray.mk (four (crc p.data.toList)).toArray).size=4:=rfl
     rw [list_size] at z1
     generalize ByteArray.mk (put p.size).toArray=S1 at *
     generalize ByteArray.mk (four (crc p.data.toList)).toArray=S3 at *
     generalize crc p.data.toList=C at *
     have HP1:Hid _:=P1
     have HP2:Hid _:=P2
     have HP3:Hid _:=P3
     have hp0:p.data.toList.length=p.size:=list_size p
     have hq1:S1.data.toList.length=S1.size:=list_size S1
     have HL0:Hid (p.data.toList.length=p.size∧S1.data.toList.length=S1.size):=⟨hp0,hq1⟩
     clear P1 P2 P3 d1 d3 HSL hp0 hq1 HB HM hs ha hok hp
     have hB':=hB.alloc (.cells #[.int .i64 (xn:Int),.string p] 55)
     have hN:(wr.alloc (.cells #[.int .i64 (xn:Int),.string p] 55)).heap[wr.heap.size]? = some (.cells #[.int .i64 (xn:Int),.string p] 55 (0,0)):=heap_alloc_new wr _
     have hgk:wr.heap.size≠g:=by have:=hB.lt;omega
     have hA:Below w1.heap.size w1 (wr.alloc (.cells #[.int .i64 (xn:Int),.string p] 55)):=hb.alloc hb.size _
     go_wp2_with fail
     refine (wbyte_any g g xs xn _ hB' (by omega) (by omega) (by simp;omega)).mono ?_
     rintro e w2 ⟨rfl,B2,b2,k2⟩
     have n2:=k2.two hN hgk (by decide)
     have q2:w2.cell? ⟨wr.heap.size,1,none⟩=some (.string p):=by rw [Lib.cell_of_heap n2];rfl
     have a2:=hA.trans (b2.mono hBsz)
     have s2:g≤w2.heap.size:=by have:=B2.lt;omega
     generalize wr.heap.size=k at *
     clear hN hA b2 k2 hB' hb c0 c1
     go_wp2_with fail
     refine (HP1.out _).mono ?_
     rintro e w3 ⟨rfl,b3⟩
     have B3:=B2.below b3
     have n3:=(b3.block k (Array.getElem?_eq_some_iff.1 n2).1).trans n2
     have q3:w3.cell? ⟨k,1,none⟩=some (.string p):=by rw [Lib.cell_of_heap n3];rfl
     have a3:=a2.trans (b3.mono a2.size)
     have s3:=Nat.le_trans s2 b3.size
     clear B2 n2 q2 a2 s2 b3
     go_wp2_with fail
     refine (wstr_any g g _ S1 _ B3 (by simp;omega) s3).mono ?_
     rintro e w4 ⟨rfl,B4,b4,k4⟩
     have n4:=k4.two n3 hgk (by decide)
     have q4:w4.cell? ⟨k,1,none⟩=some (.string p):=by rw [Lib.cell_of_heap n4];rfl
     have a4:=a3.trans (b4.mono hBsz)
     have s4:=Nat.le_trans s3 b4.size
     clear B3 n3 q3 a3 s3 b4 k4
     go_wp2_with fail
     refine (wstr_any g g _ p _ B4 (by have:=HL0.out.2;simp;omega) s4).mono ?_
     rintro e w5 ⟨rfl,B5,b5,k5⟩
     have n5:=k5.two n4 hgk (by decide)
     have q5:w5.cell? ⟨k,1,none⟩=some (.string p):=by rw [Lib.cell_of_heap n5];rfl
     have a5:=a4.trans (b5.mono hBsz)
     have s5:=Nat.le_trans s4 b5.size
     clear B4 n4 q4 a4 s4 b5 k5
     go_wp2_with fail
     refine (HP2.out _).mono ?_
     rintro e w6 ⟨rfl,b6⟩
     have B6:=B5.below b6
     have a6:=a5.trans (b6.mono a5.size)
     have s6:=Nat.le_trans s5 b6.size
     clear B5 a5 s5 b6 n5 q5
     go_wp2_with fail
     refine (HP3.out _).mono ?_
     rintro e w7 ⟨rfl,b7⟩
     have B7:=B6.below b7
     have a7:=a6.trans (b7.mono a6.size)
     have s7:=Nat.le_trans s6 b7.size
     clear B6 a6 s6 b7
     go_wp2_with fail
     refine (wstr_any g g _ S3 _ B7 (by have:=HL0.out.1;have:=HL0.out.2;simp;omega) s7).mono ?_
     rintro e w8 ⟨rfl,B8,b8,_⟩
     have a8:=a7.trans (b8.mono hBsz)
     have s8:=Nat.le_trans s7 b8.size
     clear B7 a7 s7 b8
     go_wp2_with fail
     go_roundw
     case rel=>exact ⟨i+1,by go_num,by omega,by rw [HT.out];simpa using B8,a8,s8⟩
     case measure=>simp [intOf];omega
    ·obtain rfl:i=L.length:=by omega
     have HR:Hid (R=pre++bodyL (L.take L.length)):=HF.out
     have hne:pre++bodyL (L.take L.length)≠[]:=by
      intro e
      have h1:=congrArg List.length e
      rw [List.length_append,HP.out] at h1
      simp at h1
     generalize pre++bodyL (L.take L.length)=xs at *
     clear HF HB hs ha hok hp
     go_wp2_with fail
     refine (bstr_any g g xs _ hB hne).mono ?_
     rintro e w2 ⟨rfl,b2⟩
     go_wp2_with fail
     go_ret2
     rw [HR.out]
     exact ⟨rfl,hb.trans (b2.mono hBsz)⟩
theorem fput_any (m:ByteArray) (v:Int) (a:Option Addr) (cap b o:Nat) (L:List Sec) (w:World) (hL:L.length≤20) (ha:0<L.length→a=some ⟨b,o,none⟩) (hs:SecAt w b o L) (hp:∀s ∈ L,s.2.size≤4000000) :
  Calls Tryz.prog 28 #[.string m,.int .i64 v,.slice a L.length cap] w fun e w'=>e=.returned (.tuple #[.string ⟨(pPut m v L).1.toArray⟩,.int .i64 (pPut m v L).2])∧Below w.heap.size w w':=by
 by_cases h:cf m.size v L.length=0
 ·obtain ⟨_,_,_,_,h5⟩:=pPut_second m v L h
  rw [h5]
  by_cases hc:chk L=0
  ·rw [if_neg (by simpa using hc)]
   exact fput_good m v a cap b o L w h ha hs ((chk_ok L).1 hc) hp
  ·rw [if_pos hc]
   exact fput_second m v a cap b o L w h hL ha hs hc
 ·rw [pPut_first m v L h]
  exact fput_first m v a L.length cap w h
end Go.Proofs.YtgoffkfpdigeeaaGreatDoor
