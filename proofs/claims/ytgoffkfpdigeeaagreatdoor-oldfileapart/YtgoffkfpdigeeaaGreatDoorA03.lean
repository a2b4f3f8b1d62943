import Derived.WalkKit
namespace Go.Proofs.YtgoffkfpdigeeaaGreatDoor
def Rt (E:Nat→Nat→Prop) (a b:Nat):Prop:=∀S:Nat→Prop,S a→(∀x y,S x→E x y→S y)→S b
section
variable {E E':Nat→Nat→Prop} {a b c:Nat}
theorem Rt.refl (E:Nat→Nat→Prop) (a:Nat):Rt E a a:=fun _ h _=>h
theorem Rt.tail (h:Rt E a b) (e:E b c):Rt E a c:=fun S ha hs=>hs _ _ (h S ha hs) e
theorem Rt.one (e:E a b):Rt E a b:=(Rt.refl E a).tail e
theorem Rt.trans (h:Rt E a b) (k:Rt E b c):Rt E a c:=fun S ha hs=>k S (h S ha hs) hs
theorem Rt.head (e:E a b) (k:Rt E b c):Rt E a c:=(Rt.one e).trans k
theorem Rt.mono (h:Rt E a b) (k:∀x y,E x y→E' x y):Rt E' a b:=fun S ha hs=>h S ha (fun x y p q=>hs x y p (k x y q))
theorem Rt.back {P:Nat→Prop} (h:Rt E a b) (hb:P b) (hs:∀x y,E x y→P y→P x):P a:=h (fun x=>P x→P a) id (fun x y f e p=>f (hs x y e p)) hb
theorem Rt.turn (h:Rt E a b):Rt (fun x y=>E y x) b a:=h.back (P:=fun x=>Rt (fun x y=>E y x) b x) (Rt.refl _ _) (fun _ _ e p=>p.tail e)
def Lead (E:Nat→Nat→Prop) (a b:Nat):Prop:=∃c,E a c∧Rt E c b
theorem Lead.rt (h:Lead E a b):Rt E a b:=by obtain ⟨c,e,k⟩:=h;exact Rt.head e k
theorem Lead.trans (h:Lead E a b) (k:Rt E b c):Lead E a c:=by obtain ⟨d,e,m⟩:=h;exact ⟨d,e,m.trans k⟩
theorem Rt.lead (h:Rt E a b) (k:Lead E b c):Lead E a c:=h.back (P:=fun x=>Lead E x c) k (fun _ y e p=>⟨y,e,p.rt⟩)
theorem Rt.cases (h:Rt E a b):a=b∨Lead E a b:=h (fun x=>a=x∨Lead E a x) (.inl rfl) (fun x y p e=>.inr (by
 rcases p with rfl|p
 ·exact ⟨y,e,Rt.refl _ _⟩
 ·exact p.trans (Rt.one e)))
theorem Rt.stop (h:Rt E a b) (hn:∀y,¬E a y):b=a:=h (fun x=>x=a) rfl (fun x y p e=>by subst p;exact absurd e (hn y))
theorem Lead.tail (h:Rt E a b) (e:E b c):Lead E a c:=h.lead ⟨c,e,Rt.refl _ _⟩
end
theorem nodup_le:∀(n:Nat) (L:List Nat),L.Nodup→(∀x ∈ L,x<n)→L.length≤n
 | 0,L,_,h=>by
  cases L with
  | nil=>simp
  | cons x r=>exact absurd (h x (by simp)) (by omega)
 | n+1,L,hn,h=>by
  have h1:=nodup_le n (L.erase n) (hn.erase n) (fun x hx=>by
   have:=(hn.mem_erase_iff (a:=x) (b:=n)).1 hx
   have:=h x this.2
   omega)
  rw [List.length_erase] at h1
  split at h1 <;> omega
theorem nodup_all (n:Nat) (L:List Nat) (hn:L.Nodup) (h:∀x ∈ L,x<n) (hl:n≤L.length) (x:Nat) (hx:x<n):x ∈ L:=by
 refine Classical.byContradiction fun q=>?_
 have:=nodup_le n (x :: L) (List.nodup_cons.2 ⟨q,hn⟩) (fun y hy=>by
  rcases List.mem_cons.1 hy with rfl|hy
  ·exact hx
  ·exact h y hy)
 simp at this
 omega
def Ed (K:List (List Nat)) (a b:Nat):Prop:=b ∈ K.getD a []
def Ok9 (K:List (List Nat)):Prop:=∀a b,Ed K a b→b<K.length
theorem Ed.lt {K:List (List Nat)} {a b:Nat} (h:Ed K a b):a<K.length:=by
 refine Classical.byContradiction fun q=>?_
 unfold Ed at h
 simp [List.getD_eq_getElem?_getD,List.getElem?_eq_none (Nat.le_of_not_lt q)] at h
theorem Ok9.rt {K:List (List Nat)} (h:Ok9 K) {a b:Nat} (ha:a<K.length) (k:Rt (Ed K) a b):b<K.length:=k (fun x=>x<K.length) ha (fun x y _ e=>h x y e)
def EdM (K:List (List Nat)) (M:List Nat) (a b:Nat):Prop:=Ed K a b∧b ∉ M
structure WInv (K:List (List Nat)) (M:List Nat) (from_:Nat) (found:List Nat) (i j:Nat):Prop where
 nd:found.Nodup
 first:from_ ∈ found
 out:∀x ∈ found,x ∉ M
 rt:∀x ∈ found,Rt (EdM K M) from_ x
 lt:∀x ∈ found,x<K.length
 le:i≤found.length
 done:∀q,q<i→∀y,Ed K (found.getD q 0) y→y ∈ M∨y ∈ found
 part:∀y ∈ (K.getD (found.getD i 0) []).take j,y ∈ M∨y ∈ found
section
variable {K:List (List Nat)} {M:List Nat} {f:Nat} {found:List Nat} {i j:Nat}
theorem WInv.start (hf:f ∉ M) (hl:f<K.length):WInv K M f [f] 0 0:=
 ⟨by simp,by simp,by simpa using hf,by simpa using Rt.refl _ _,by simpa using hl,by simp,fun q h=>by omega,by simp⟩
theorem WInv.len (h:WInv K M f found i j):found.length≤K.length:=nodup_le _ _ h.nd h.lt
theorem take_at {L:List Nat} {j:Nat} (hj:j<L.length):L.take (j+1)=L.take j++[L.getD j 0]:=by
 rw [List.take_add_one,List.getElem?_eq_getElem hj,List.getD_eq_getElem?_getD,List.getElem?_eq_getElem hj]
 rfl
theorem getD_mem {L:List Nat} {j:Nat} (hj:j<L.length):L.getD j 0 ∈ L:=by
 rw [List.getD_eq_getElem?_getD,List.getElem?_eq_getElem hj]
 simp
theorem getD_app {L R:List Nat} {j:Nat} (hj:j<L.length):(L++R).getD j 0=L.getD j 0:=by
 rw [List.getD_eq_getElem?_getD,List.getElem?_append_left hj,← List.getD_eq_getElem?_getD]
theorem WInv.skip (h:WInv K M f found i j) (hj:j<(K.getD (found.getD i 0) []).length) (hm:(K.getD (found.getD i 0) []).getD j 0 ∈ M∨(K.getD (found.getD i 0) []).getD j 0 ∈ found):WInv K M f found i (j+1):=by
 refine ⟨h.nd,h.first,h.out,h.rt,h.lt,h.le,h.done,fun y hy=>?_⟩
 rw [take_at hj,List.mem_append] at hy
 rcases hy with hy|hy
 ·exact h.part y hy
 ·simp only [List.mem_singleton] at hy
  rw [hy];exact hm
theorem WInv.add (h:WInv K M f found i j) (hk:Ok9 K) (hi:i<found.length) (hj:j<(K.getD (found.getD i 0) []).length) (h1:(K.getD (found.getD i 0) []).getD j 0 ∉ M) (h2:(K.getD (found.getD i 0) []).getD j 0 ∉ found):WInv K M f (found++[(K.getD (found.getD i 0) []).getD j 0]) i (j+1):=by
 have he:Ed K (found.getD i 0) ((K.getD (found.getD i 0) []).getD j 0):=getD_mem hj
 generalize hx:(K.getD (found.getD i 0) []).getD j 0=x at *
 refine ⟨?_,?_,?_,?_,?_,?_,?_,?_⟩
 ·rw [List.nodup_append]
  refine ⟨h.nd,by simp,fun a ha b hb e=>?_⟩
  simp only [List.mem_singleton] at hb
  subst e hb
  exact h2 ha
 ·exact List.mem_append_left _ h.first
 ·intro y hy
  rcases List.mem_append.1 hy with hy|hy
  ·exact h.out y hy
  ·simp only [List.mem_singleton] at hy;subst hy;exact h1
 ·intro y hy
  rcases List.mem_append.1 hy with hy|hy
  ·exact h.rt y hy
  ·simp only [List.mem_singleton] at hy;subst hy;exact (h.rt _ (getD_mem hi)).tail ⟨he,h1⟩
 ·intro y hy
  rcases List.mem_append.1 hy with hy|hy
  ·exact h.lt y hy
  ·simp only [List.mem_singleton] at hy;subst hy;exact hk _ _ he
 ·have:=h.le;simp;omega
 ·intro q hq y e
  rw [getD_app (by omega)] at e
  exact (h.done q hq y e).imp id (List.mem_append_left _)
 ·intro y hy
  rw [getD_app hi,take_at hj,List.mem_append] at hy
  rcases hy with hy|hy
  ·exact (h.part y hy).imp id (List.mem_append_left _)
  ·rw [hx] at hy;exact .inr (List.mem_append_right _ hy)
theorem WInv.next (h:WInv K M f found i j) (hi:i<found.length) (hj:(K.getD (found.getD i 0) []).length≤j):WInv K M f found (i+1) 0:=by
 refine ⟨h.nd,h.first,h.out,h.rt,h.lt,by omega,fun q hq y e=>?_,by simp⟩
 by_cases hq':q<i
 ·exact h.done q hq' y e
 ·obtain rfl:q=i:=by omega
  refine h.part y ?_
  rw [List.take_of_length_le hj]
  exact e
def WOut (K:List (List Nat)) (M:List Nat) (f:Nat) (found:List Nat):Prop:=found.Nodup∧∀x,x ∈ found↔f ∉ M∧Rt (EdM K M) f x
theorem WInv.fin (h:WInv K M f found i j) (hi:found.length≤i):WOut K M f found:=by
 refine ⟨h.nd,fun x=>⟨fun hx=>⟨h.out _ h.first,h.rt x hx⟩,fun ⟨_,hr⟩=>?_⟩⟩
 refine hr (fun x=>x ∈ found) h.first (fun x y hx e=>?_)
 obtain ⟨q,hq,rfl⟩:=List.getElem_of_mem hx
 have:=h.done q (by omega) y (by
  have:=e.1
  rwa [show found.getD q 0=found[q] by rw [List.getD_eq_getElem?_getD,List.getElem?_eq_getElem hq];rfl])
 exact this.resolve_left e.2
theorem WOut.none (h:f ∈ M):WOut K M f []:=⟨by simp,fun x=>⟨fun q=>by simp at q,fun q=>absurd h q.1⟩⟩
end
def EdF (K:List (List Nat)) (F:List Nat) (a b:Nat):Prop:=Ed K a b∧a ∈ F
def KO (K:List (List Nat)) (order:List Nat):Prop:=∀pre t post,order=pre++t :: post→(∀x,Rt (Ed K) x t→Rt (Ed K) t x→x ∈ pre++[t])→∀y,Rt (Ed K) t y→y ∈ pre++[t]
structure CInv (K:List (List Nat)) (order:List Nat) (way:List (Nat × Nat)) (met:List Nat):Prop where
 mt:∀x,x ∈ met↔x ∈ order∨x ∈ way.map Prod.fst
 nd:(order++way.map Prod.fst).Nodup
 lt:∀x ∈ order++way.map Prod.fst,x<K.length
 chain:way.Pairwise fun p q=>Rt (Ed K) p.1 q.1
 looked:∀p ∈ way,p.2≤(K.getD p.1 []).length∧∀y ∈ (K.getD p.1 []).take p.2,y ∈ met
 j3:∀a ∈ order,∀b,b ∉ order→Rt (EdF K order) a b→b ∈ way.map Prod.fst∧Rt (Ed K) b a
 ko:KO K order
section
variable {K:List (List Nat)} {order met:List Nat} {way:List (Nat × Nat)}
theorem CInv.none:CInv K [] [] []:=⟨by simp,by simp,by simp,by simp,by simp,by simp,fun pre t post h=>by simp at h⟩
theorem CInv.len (h:CInv K order way met):order.length+way.length≤K.length:=by
 have:=nodup_le _ _ h.nd h.lt
 simpa using this
theorem CInv.from (h:CInv K order [] met) (f:Nat) (hf:f<K.length) (hm:f ∉ met):CInv K order [(f,0)] (f :: met):=by
 have hno:f ∉ order:=fun q=>hm ((h.mt f).2 (.inl q))
 refine ⟨fun x=>?_,?_,?_,by simp,by simp,fun a ha b hb r=>?_,h.ko⟩
 ·have:=h.mt x
  simp at this ⊢
  rw [this]
  exact or_comm
 ·have:=h.nd
  simp only [List.map_nil,List.append_nil] at this
  simp only [List.map_cons,List.map_nil,List.nodup_append]
  refine ⟨this,by simp,fun a ha b hb e=>?_⟩
  simp only [List.mem_singleton] at hb
  subst e hb
  exact hno ha
 ·intro x hx
  simp only [List.map_cons,List.map_nil,List.mem_append,List.mem_singleton] at hx
  rcases hx with hx|rfl
  ·exact h.lt x (by simpa using hx)
  ·exact hf
 ·have:=(h.j3 a ha b hb r).1
  simp at this
theorem CInv.mem_top {p:Nat × Nat} (h:CInv K order (way++[p]) met):p.1<K.length∧p.1 ∈ met:=by
 refine ⟨h.lt _ (by simp),(h.mt _).2 (.inr (by simp))⟩
theorem CInv.skip {a l:Nat} (h:CInv K order (way++[(a,l)]) met) (hl:l<(K.getD a []).length) (hm:(K.getD a []).getD l 0 ∈ met):CInv K order (way++[(a,l+1)]) met:=by
 have hmap:(way++[(a,l+1)]).map Prod.fst=(way++[(a,l)]).map Prod.fst:=by simp
 refine ⟨?_,?_,?_,?_,?_,?_,h.ko⟩
 ·rw [hmap];exact h.mt
 ·rw [hmap];exact h.nd
 ·rw [hmap];exact h.lt
 ·have:=h.chain
  rw [List.pairwise_append] at this ⊢
  refine ⟨this.1,by simp,fun p hp q hq=>?_⟩
  simp only [List.mem_singleton] at hq
  subst hq
  exact this.2.2 p hp (a,l) (by simp)
 ·intro p hp
  rcases List.mem_append.1 hp with hp|hp
  ·exact h.looked p (List.mem_append_left _ hp)
  ·simp only [List.mem_singleton] at hp
   subst hp
   refine ⟨hl,fun y hy=>?_⟩
   rw [take_at hl,List.mem_append] at hy
   rcases hy with hy|hy
   ·exact (h.looked (a,l) (by simp)).2 y hy
   ·simp only [List.mem_singleton] at hy
    rw [hy];exact hm
 ·rw [hmap];exact h.j3
theorem CInv.push {a l:Nat} (h:CInv K order (way++[(a,l)]) met) (hk:Ok9 K) (hl:l<(K.getD a []).length) (hm:(K.getD a []).getD l 0 ∉ met) :
  CInv K order (way++[(a,l+1)]++[((K.getD a []).getD l 0,0)]) ((K.getD a []).getD l 0 :: met):=by
 have he:Ed K a ((K.getD a []).getD l 0):=getD_mem hl
 generalize hx:(K.getD a []).getD l 0=x at *
 have hmap:(way++[(a,l+1)]++[(x,0)]).map Prod.fst=(way++[(a,l)]).map Prod.fst++[x]:=by simp
 have hno:x ∉ order++(way++[(a,l)]).map Prod.fst:=fun q=>hm ((h.mt x).2 (List.mem_append.1 q))
 refine ⟨?_,?_,?_,?_,?_,?_,h.ko⟩
 ·intro y
  rw [hmap,List.mem_cons,h.mt y]
  simp only [List.mem_append,List.mem_singleton]
  constructor
  ·rintro (h|h|h)
   ·exact .inr (.inr h)
   ·exact .inl h
   ·exact .inr (.inl h)
  ·rintro (h|h|h)
   ·exact .inr (.inl h)
   ·exact .inr (.inr h)
   ·exact .inl h
 ·rw [hmap,← List.append_assoc,List.nodup_append]
  refine ⟨h.nd,by simp,fun p hp q hq e=>?_⟩
  simp only [List.mem_singleton] at hq
  subst e hq
  exact hno hp
 ·intro y hy
  rw [hmap,← List.append_assoc] at hy
  rcases List.mem_append.1 hy with hy|hy
  ·exact h.lt y hy
  ·simp only [List.mem_singleton] at hy
   subst hy
   exact hk _ _ he
 ·have hc:=h.chain
  rw [List.pairwise_append] at hc
  rw [List.pairwise_append]
  refine ⟨?_,by simp,fun p hp q hq=>?_⟩
  ·rw [List.pairwise_append]
   refine ⟨hc.1,by simp,fun p hp q hq=>?_⟩
   simp only [List.mem_singleton] at hq
   subst hq
   exact hc.2.2 p hp (a,l) (by simp)
  ·simp only [List.mem_singleton] at hq
   subst hq
   rcases List.mem_append.1 hp with hp|hp
   ·exact (hc.2.2 p hp (a,l) (by simp)).tail he
   ·simp only [List.mem_singleton] at hp
    subst hp
    exact Rt.one he
 ·intro p hp
  rcases List.mem_append.1 hp with hp|hp
  ·rcases List.mem_append.1 hp with hp|hp
   ·have:=h.looked p (List.mem_append_left _ hp)
    exact ⟨this.1,fun y hy=>List.mem_cons_of_mem _ (this.2 y hy)⟩
   ·simp only [List.mem_singleton] at hp
    subst hp
    refine ⟨hl,fun y hy=>?_⟩
    rw [take_at hl,List.mem_append] at hy
    rcases hy with hy|hy
    ·exact List.mem_cons_of_mem _ ((h.looked (a,l) (by simp)).2 y hy)
    ·simp only [List.mem_singleton] at hy
     rw [hy,hx];simp
  ·simp only [List.mem_singleton] at hp
   subst hp
   simp
 ·intro p hp b hb r
  rw [hmap]
  have:=h.j3 p hp b hb r
  exact ⟨List.mem_append_left _ this.1,this.2⟩
theorem edF_parts {F:List Nat} {t a b:Nat} (h:Rt (EdF K (F++[t])) a b):Rt (EdF K F) a b∨(Rt (EdF K F) a t∧∃k,Ed K t k∧Rt (EdF K F) k b):=by
 refine h (fun x=>Rt (EdF K F) a x∨(Rt (EdF K F) a t∧∃k,Ed K t k∧Rt (EdF K F) k x)) (.inl (Rt.refl _ _)) (fun x y p e=>?_)
 obtain ⟨e1,e2⟩:=e
 rcases List.mem_append.1 e2 with e2|e2
 ·rcases p with p|⟨p,k,q,r⟩
  ·exact .inl (p.tail ⟨e1,e2⟩)
  ·exact .inr ⟨p,k,q,r.tail ⟨e1,e2⟩⟩
 ·simp only [List.mem_singleton] at e2
  subst e2
  rcases p with p|⟨p,_⟩
  ·exact .inr ⟨p,y,e1,Rt.refl _ _⟩
  ·exact .inr ⟨p,y,e1,Rt.refl _ _⟩
theorem edF_leave {F:List Nat} {a y:Nat} (h:Rt (Ed K) a y) (hy:y ∉ F):∃b,b ∉ F∧Rt (EdF K F) a b:=by
 have:=h (fun x=>Rt (EdF K F) a x∨∃b,b ∉ F∧Rt (EdF K F) a b) (.inl (Rt.refl _ _)) (fun x y p e=>by
  rcases p with p|p
  ·by_cases hx:x ∈ F
   ·exact .inl (p.tail ⟨e,hx⟩)
   ·exact .inr ⟨x,hx,p⟩
  ·exact .inr p)
 rcases this with p|p
 ·exact ⟨y,hy,p⟩
 ·exact p
theorem edF_out {F:List Nat} {a b:Nat} (h:Rt (EdF K F) a b) (ha:a ∉ F):b=a:=h.stop (fun _ e=>ha e.2)
theorem CInv.pop {a l:Nat} (h:CInv K order (way++[(a,l)]) met) (hl:(K.getD a []).length≤l):CInv K (order++[a]) way met:=by
 have hmap:(way++[(a,l)]).map Prod.fst=way.map Prod.fst++[a]:=by simp
 have hnd:=h.nd
 rw [hmap] at hnd
 have hao:a ∉ order:=fun q=>by
  rw [List.nodup_append] at hnd
  exact hnd.2.2 a q a (by simp) rfl
 have hch:∀b ∈ way.map Prod.fst,Rt (Ed K) b a:=fun b hb=>by
  obtain ⟨p,hp,rfl⟩:=List.mem_map.1 hb
  have hc:=h.chain
  rw [List.pairwise_append] at hc
  exact hc.2.2 p hp (a,l) (by simp)
 have hkid:∀k,Ed K a k→k ∈ order∨k ∈ way.map Prod.fst++[a]:=fun k hk=>by
  have:=(h.looked (a,l) (by simp)).2 k (by rw [List.take_of_length_le hl];exact hk)
  have:=(h.mt k).1 this
  rwa [hmap] at this
 have hj:∀p ∈ order++[a],∀b,b ∉ order++[a]→Rt (EdF K (order++[a])) p b→b ∈ way.map Prod.fst∧Rt (Ed K) b p:=by
  intro p hp b hb r
  have hbo:b ∉ order:=fun q=>hb (List.mem_append_left _ q)
  have hba:b≠a:=fun q=>hb (by rw [q];simp)
  have old:∀k,k ∈ order→Rt (EdF K order) k b→b ∈ way.map Prod.fst∧Rt (Ed K) b k:=fun k hk r=>by
   have:=h.j3 k hk b hbo r
   rw [hmap,List.mem_append,List.mem_singleton] at this
   exact ⟨this.1.resolve_right hba,this.2⟩
  rcases edF_parts r with r0|⟨r1,k,e,r2⟩
  ·rcases List.mem_append.1 hp with hp|hp
   ·exact old p hp r0
   ·simp only [List.mem_singleton] at hp
    subst hp
    exact absurd (edF_out r0 hao) hba
  ·have hb':b ∈ way.map Prod.fst:=by
    by_cases hk:k ∈ order
    ·exact (old k hk r2).1
    ·obtain rfl:=edF_out r2 hk
     rcases hkid b e with q|q
     ·exact absurd q hbo
     ·rcases List.mem_append.1 q with q|q
      ·exact q
      ·simp only [List.mem_singleton] at q
       exact absurd q hba
   refine ⟨hb',(hch b hb').trans ?_⟩
   rcases List.mem_append.1 hp with hp|hp
   ·exact (h.j3 p hp a hao r1).2
   ·simp only [List.mem_singleton] at hp
    subst hp
    exact Rt.refl _ _
 refine ⟨fun x=>?_,?_,?_,?_,fun p hp=>h.looked p (List.mem_append_left _ hp),hj,?_⟩
 ·rw [h.mt x,hmap]
  simp only [List.mem_append,List.mem_singleton]
  constructor
  ·rintro (h|h|h)
   ·exact .inl (.inl h)
   ·exact .inr h
   ·exact .inl (.inr h)
  ·rintro ((h|h)|h)
   ·exact .inl h
   ·exact .inr (.inr h)
   ·exact .inr (.inl h)
 ·have:(order++(way.map Prod.fst++[a])).Perm (order++[a]++way.map Prod.fst):=by
   rw [List.append_assoc]
   exact List.Perm.append_left _ List.perm_append_comm
  exact this.nodup_iff.1 hnd
 ·intro x hx
  refine h.lt x ?_
  rw [hmap]
  simp only [List.mem_append,List.mem_singleton] at hx ⊢
  rcases hx with (h|h)|h
  ·exact .inl h
  ·exact .inr (.inr h)
  ·exact .inr (.inl h)
 ·have hc:=h.chain
  rw [List.pairwise_append] at hc
  exact hc.1
 ·intro pre t post heq hs y hy
  rcases List.eq_nil_or_concat post with rfl|⟨post',z,rfl⟩
  ·have e1:order=pre∧a=t:=by
    have:=List.append_inj' heq rfl
    simpa using this
   obtain ⟨rfl,rfl⟩:=e1
   refine Classical.byContradiction fun hn=>?_
   obtain ⟨b,hb,r⟩:=edF_leave hy hn
   have:=hj a (by simp) b hb r
   exact hb (hs b this.2 (r.mono fun _ _ q=>q.1))
  ·have e1:order=pre++t :: post'∧a=z:=by
    have e2:order++[a]=(pre++t :: post')++[z]:=by rw [heq];simp
    have:=List.append_inj' e2 rfl
    simpa using this
   exact h.ko pre t post' e1.1 hs y hy
def cLeft (n B o:Nat) (way:List (Nat × Nat)):Nat:=(n-o-way.length)*(B+2)+(way.map fun p=>B+1-p.2).sum
end
def BOut (K:List (List Nat)) (order:List Nat):Prop:=order.Nodup∧(∀x,x ∈ order↔x<K.length)∧KO K order
theorem all_le:∀(n:Nat) (L:List Nat),(∀x,x<n→x ∈ L)→n≤L.length
 | 0,_,_=>Nat.zero_le _
 | n+1,L,h=>by
  have h1:=all_le n (L.erase n) (fun x hx=>(List.mem_erase_of_ne (by omega)).2 (h x (by omega)))
  rw [List.length_erase,if_pos (by simpa using h n (by omega))] at h1
  have:=List.length_pos_of_mem (h n (by omega))
  omega
theorem BOut.len {K:List (List Nat)} {order:List Nat} (h:BOut K order):order.length=K.length:=
 Nat.le_antisymm (nodup_le _ _ h.1 (fun x hx=>(h.2.1 x).1 hx)) (all_le _ _ (fun x hx=>(h.2.1 x).2 hx))
end Go.Proofs.YtgoffkfpdigeeaaGreatDoor
namespace Go.Proofs.YtgoffkfpdigeeaaGreatDoor
def Scc (K:List (List Nat)) (a b:Nat):Prop:=Rt (Ed K) a b∧Rt (Ed K) b a
theorem Scc.symm {K:List (List Nat)} {a b:Nat} (h:Scc K a b):Scc K b a:=⟨h.2,h.1⟩
theorem Scc.trans {K:List (List Nat)} {a b c:Nat} (h:Scc K a b) (k:Scc K b c):Scc K a c:=⟨h.1.trans k.1,k.2.trans h.2⟩
theorem last_split {P:Nat→Prop}:∀(L:List Nat) (y:Nat),y ∈ L→P y→∃pre z post,L=pre++z :: post∧P z∧∀u ∈ post,¬P u
 | [],y,h,_=>by simp at h
 | x :: r,y,h,hp=>by
  by_cases hr:∃u ∈ r,P u
  ·obtain ⟨u,hu,pu⟩:=hr
   obtain ⟨pre,z,post,rfl,hz,ho⟩:=last_split r u hu pu
   exact ⟨x :: pre,z,post,rfl,hz,ho⟩
  ·rcases List.mem_cons.1 h with rfl|h
   ·exact ⟨[],y,r,rfl,hp,fun u hu pu=>hr ⟨u,hu,pu⟩⟩
   ·exact absurd ⟨y,h,hp⟩ hr
theorem ring_is {K Kb:List (List Nat)} {order pre post M found:List Nat} {t:Nat} (hb:BOut K order) (hk:Ok9 K) (ht:order=pre++t :: post) (hM:∀x ∈ post,x ∈ M) (hc:∀x y,x ∈ M→Scc K x y→y ∈ M) (hn:t ∉ M)
  (hkb:∀x y,Ed Kb x y↔Ed K y x) (hw:WOut Kb M t found) (x:Nat):x ∈ found↔Scc K t x:=by
 have htl:t<K.length:=(hb.2.1 t).1 (by rw [ht];simp)
 rw [hw.2 x]
 constructor
 ·rintro ⟨_,hr⟩
  have hxt:Rt (Ed K) x t:=(hr.mono (E':=fun a b=>Ed K b a) (fun a b e=>(hkb a b).1 e.1)).turn
  have hxM:x ∉ M:=by
   rcases hr.turn.cases with rfl|⟨c,e,_⟩
   ·exact hn
   ·exact e.2
  have hxl:x<K.length:=by
   rcases hxt.cases with rfl|⟨c,e,_⟩
   ·exact htl
   ·exact e.lt
  refine Classical.byContradiction fun hq=>?_
  obtain ⟨p,z,q,hz,sz,ho⟩:=last_split (P:=fun u=>Scc K x u) order x ((hb.2.1 x).2 hxl) ⟨Rt.refl _ _,Rt.refl _ _⟩
  have hall:=hb.2.2 p z q hz (fun u h1 h2=>by
   have su:Scc K x u:=sz.trans ⟨h2,h1⟩
   have hul:u<K.length:=Ok9.rt hk hxl su.1
   have hu:u ∈ order:=(hb.2.1 u).2 hul
   rw [hz] at hu
   rcases List.mem_append.1 hu with hu|hu
   ·exact List.mem_append_left _ hu
   ·rcases List.mem_cons.1 hu with rfl|hu
    ·simp
    ·exact absurd su (ho u hu)) t (sz.2.trans hxt)
  have hzM:z ∉ M:=fun h=>hxM (hc z x h sz.symm)
  have hzt:z≠t:=fun e=>hq (e ▸ sz.symm)
  have hnd:=hb.1
  rcases List.mem_append.1 hall with h1|h1
  ·
   have hzo:z ∈ post:=by
    obtain ⟨p1,p2,rfl⟩:=List.append_of_mem h1
    rw [ht] at hz hnd
    have e1:pre++t :: post=p1++t :: (p2++z :: q):=by rw [hz];simp
    have hpp:pre=p1∧post=p2++z :: q:=by
     have key:∀(A B C D:List Nat),A++t :: B=C++t :: D→(A++t :: B).Nodup→A=C∧B=D:=by
      intro A
      induction A with
      | nil=>
       intro B C D he hn
       cases C with
       | nil=>simp at he;exact ⟨rfl,he⟩
       | cons c C=>
        simp at he
        obtain ⟨rfl,rfl⟩:=he
        simp at hn
      | cons a A ih=>
       intro B C D he hn
       cases C with
       | nil=>
        simp at he
        obtain ⟨rfl,rfl⟩:=he
        simp at hn
       | cons c C=>
        simp at he
        obtain ⟨rfl,he⟩:=he
        obtain ⟨rfl,rfl⟩:=ih B C D he (by
         rw [List.cons_append,List.nodup_cons] at hn
         exact hn.2)
        exact ⟨rfl,rfl⟩
     exact key _ _ _ _ e1 hnd
    rw [hpp.2]
    simp
   exact hzM (hM z hzo)
  ·simp only [List.mem_singleton] at h1
   exact hzt h1.symm
 ·intro hs
  refine ⟨hn,?_⟩
  have:Rt (fun a b=>Ed K a b∧a ∉ M) x t:=(hs.2 (fun u=>Rt (Ed K) x u∧(Rt (Ed K) u t→Rt (fun a b=>Ed K a b∧a ∉ M) x u)) ⟨Rt.refl _ _,fun _=>Rt.refl _ _⟩ (fun u v p e=>
   ⟨p.1.tail e,fun g=>(p.2 (Rt.head e g)).tail ⟨e,fun h=>hn (hc u t h ⟨Rt.head e g,hs.1.trans p.1⟩)⟩⟩)).2 (Rt.refl _ _)
  exact (this.turn).mono (fun a b e=>⟨(hkb a b).2 e.1,e.2⟩)
def ringB (K:List (List Nat)) (ring:List Nat):Bool:=decide (1<ring.length) || (decide (ring.length=1) && (K.getD (ring.getD 0 0) []).contains (ring.getD 0 0))
theorem ringB_is {K:List (List Nat)} {ring:List Nat} {t:Nat} (hnd:ring.Nodup) (hr:∀x,x ∈ ring↔Scc K t x) (x:Nat) (hx:x ∈ ring):ringB K ring=true↔Lead (Ed K) x x:=by
 match ring,hnd,hr,hx with
 | [y],_,hr,hx=>
  simp only [List.mem_singleton] at hx
  subst hx
  simp only [ringB,List.length_singleton,Nat.lt_irrefl,decide_false,Bool.false_or,decide_true,Bool.true_and,List.getD_cons_zero,List.contains_iff_mem]
  constructor
  ·intro h;exact ⟨x,h,Rt.refl _ _⟩
  ·rintro ⟨c,e,r⟩
   have hxx:Scc K t x:=(hr x).1 (by simp)
   have:c ∈ [x]:=(hr c).2 (hxx.trans ⟨Rt.one e,r⟩)
   simp only [List.mem_singleton] at this
   subst this
   exact e
 | y :: z :: r,hnd,hr,hx=>
  have h1:ringB K (y :: z :: r)=true:=by simp [ringB]
  refine ⟨fun _=>?_,fun _=>h1⟩
  have hyz:y≠z:=by
   rw [List.nodup_cons] at hnd
   intro e
   exact hnd.1 (by rw [e];simp)
  have:∃u,u ∈ y :: z :: r∧u≠x:=by
   by_cases e:y=x
   ·exact ⟨z,by simp,fun q=>hyz (e.trans q.symm)⟩
   ·exact ⟨y,by simp,e⟩
  obtain ⟨u,hu,hne⟩:=this
  have s1:Scc K x u:=((hr x).1 hx).symm.trans ((hr u).1 hu)
  exact (s1.1.cases.resolve_left (fun e=>hne e.symm)).trans s1.2
structure KInv (K:List (List Nat)) (order:List Nat) (i:Nat) (M:List Nat) (first:Nat):Prop where
 le:i≤order.length
 past:∀x ∈ order.drop i,x ∈ M
 clo:∀x y,x ∈ M→Scc K x y→y ∈ M
 top:first≤K.length
 low:∀x ∈ M,Lead (Ed K) x x→first≤x
 own:first=K.length∨Lead (Ed K) first first
section
variable {K Kb:List (List Nat)} {order M found:List Nat} {i first:Nat}
theorem KInv.start (hb:BOut K order):KInv K order K.length [] K.length:=⟨by rw [hb.len];exact Nat.le_refl _,by rw [← hb.len];simp,by simp,Nat.le_refl _,by simp,.inl rfl⟩
theorem drop_at {L:List Nat} {i:Nat} (hi:i<L.length):L=L.take i++L.getD i 0 :: L.drop (i+1):=by
 have:L.getD i 0=L[i]:=by rw [List.getD_eq_getElem?_getD,List.getElem?_eq_getElem hi];rfl
 rw [this,List.getElem_cons_drop,List.take_append_drop]
theorem KInv.met (h:KInv K order (i+1) M first) (hi:i<order.length) (hm:order.getD i 0 ∈ M):KInv K order i M first:=by
 refine ⟨by omega,fun x hx=>?_,h.clo,h.top,h.low,h.own⟩
 rw [show order.drop i=order.getD i 0 :: order.drop (i+1) by
  have:order.getD i 0=order[i]:=by rw [List.getD_eq_getElem?_getD,List.getElem?_eq_getElem hi];rfl
  rw [this,List.getElem_cons_drop]] at hx
 rcases List.mem_cons.1 hx with rfl|hx
 ·exact hm
 ·exact h.past x hx
theorem KInv.step (h:KInv K order (i+1) M first) (hb:BOut K order) (hk:Ok9 K) (hkb:∀x y,Ed Kb x y↔Ed K y x) (hi:i<order.length) (hw:WOut Kb M (order.getD i 0) found) :
  (ringB K found=false→KInv K order i (M++found) first)∧(ringB K found=true→found≠[]∧∀m,m ∈ found→(∀x ∈ found,m≤x)→KInv K order i (M++found) (min first m)):=by
 by_cases hm:order.getD i 0 ∈ M
 ·have:found=[]:=by
   apply List.eq_nil_iff_forall_not_mem.2
   intro x hx
   exact ((hw.2 x).1 hx).1 hm
  subst this
  refine ⟨fun _=>?_,fun q=>by simp [ringB] at q⟩
  rw [List.append_nil]
  exact h.met hi hm
 ·have hr:=ring_is hb hk (drop_at hi) (fun x hx=>h.past x hx) h.clo hm hkb hw
  have hin:order.getD i 0 ∈ found:=(hr _).2 ⟨Rt.refl _ _,Rt.refl _ _⟩
  have hpast:∀x ∈ order.drop i,x ∈ M++found:=fun x hx=>by
   rw [show order.drop i=order.getD i 0 :: order.drop (i+1) by
    have:order.getD i 0=order[i]:=by rw [List.getD_eq_getElem?_getD,List.getElem?_eq_getElem hi];rfl
    rw [this,List.getElem_cons_drop]] at hx
   rcases List.mem_cons.1 hx with rfl|hx
   ·exact List.mem_append_right _ hin
   ·exact List.mem_append_left _ (h.past x hx)
  have hclo:∀x y,x ∈ M++found→Scc K x y→y ∈ M++found:=fun x y hx s=>by
   rcases List.mem_append.1 hx with hx|hx
   ·exact List.mem_append_left _ (h.clo x y hx s)
   ·exact List.mem_append_right _ ((hr y).2 (((hr x).1 hx).trans s))
  constructor
  ·intro hf
   refine ⟨by omega,hpast,hclo,h.top,fun x hx l=>?_,h.own⟩
   rcases List.mem_append.1 hx with hx|hx
   ·exact h.low x hx l
   ·have:=(ringB_is hw.1 hr x hx).2 l
    rw [hf] at this
    exact absurd this (by simp)
  ·intro hf
   refine ⟨List.ne_nil_of_mem hin,fun m hm1 hm2=>⟨by omega,hpast,hclo,Nat.le_trans (Nat.min_le_left _ _) h.top,fun x hx l=>?_,?_⟩⟩
   ·rcases List.mem_append.1 hx with hx|hx
    ·exact Nat.le_trans (Nat.min_le_left _ _) (h.low x hx l)
    ·exact Nat.le_trans (Nat.min_le_right _ _) (hm2 x hx)
   ·rcases Nat.le_total first m with q|q
    ·rw [Nat.min_eq_left q];exact h.own
    ·rw [Nat.min_eq_right q];exact .inr ((ringB_is hw.1 hr m hm1).1 hf)
end
def Behind (K:List (List Nat)) (order:List Nat):Prop:=∀a k,Ed K a k→order.idxOf k<order.idxOf a
theorem Behind.rt {K:List (List Nat)} {order:List Nat} (h:Behind K order) {a b:Nat} (r:Rt (Ed K) a b):order.idxOf b≤order.idxOf a:=r (fun x=>order.idxOf x≤order.idxOf a) (Nat.le_refl _) (fun x y p e=>Nat.le_trans (Nat.le_of_lt (h x y e)) p)
theorem Behind.none {K:List (List Nat)} {order:List Nat} (h:Behind K order) (x:Nat):¬Lead (Ed K) x x:=by
 rintro ⟨c,e,r⟩
 have:=h x c e
 have:=h.rt r
 omega
theorem split_idx {L:List Nat} (hnd:L.Nodup) {a:Nat} (ha:a ∈ L):∃pre post,L=pre++a :: post∧∀x,x ∈ pre++[a]→L.idxOf x≤L.idxOf a:=by
 obtain ⟨pre,post,rfl⟩:=List.append_of_mem ha
 have hap:a ∉ pre:=fun q=>by
  rw [List.nodup_append] at hnd
  exact hnd.2.2 a q a (by simp) rfl
 refine ⟨pre,post,rfl,fun x hx=>?_⟩
 rw [List.idxOf_append,List.idxOf_append,if_neg hap]
 rcases List.mem_append.1 hx with hx|hx
 ·rw [if_pos hx]
  have:=List.idxOf_lt_length_of_mem hx
  omega
 ·simp only [List.mem_singleton] at hx
  subst hx
  rw [if_neg hap]
  exact Nat.le_refl _
theorem idx_inj {L:List Nat} {a b:Nat} (ha:a ∈ L) (hb:b ∈ L) (h:L.idxOf a=L.idxOf b):a=b:=by
 have h1:=List.getElem_idxOf (List.idxOf_lt_length_of_mem ha)
 have h2:=List.getElem_idxOf (List.idxOf_lt_length_of_mem hb)
 rw [← h1,← h2]
 congr 1
theorem BOut.behind {K:List (List Nat)} {order:List Nat} (h:BOut K order) (hk:Ok9 K) (hn:∀x,¬Lead (Ed K) x x):Behind K order:=by
 intro a k e
 obtain ⟨pre,post,h1,h2⟩:=split_idx h.1 ((h.2.1 a).2 e.lt)
 have:=h.2.2 pre a post h1 (fun x r1 r2=>by
  rcases r1.cases with rfl|l
  ·simp
  ·exact absurd (r2.lead l) (hn a)) k (Rt.one e)
 have hle:=h2 k this
 refine Nat.lt_of_le_of_ne hle fun q=>?_
 have:k=a:=idx_inj ((h.2.1 k).2 (hk a k e)) ((h.2.1 a).2 e.lt) q
 subst this
 exact hn k ⟨k,e,Rt.refl _ _⟩
theorem BOut.cycle {K:List (List Nat)} {order:List Nat} (h:BOut K order) (hk:Ok9 K) (hn:¬Behind K order):∃x,Lead (Ed K) x x:=Classical.byContradiction fun q=>hn (h.behind hk (fun x l=>q ⟨x,l⟩))
def FirstCyc (K:List (List Nat)) (i:Nat):Prop:=Lead (Ed K) i i∧∀j,j<i→¬Lead (Ed K) j j
theorem Lead.lt {K:List (List Nat)} {x y:Nat} (h:Lead (Ed K) x y):x<K.length:=by obtain ⟨c,e,_⟩:=h;exact e.lt
theorem KInv.fin {K:List (List Nat)} {order M:List Nat} {first:Nat} (h:KInv K order 0 M first) (hb:BOut K order) (hc:∃x,Lead (Ed K) x x):FirstCyc K first:=by
 have hM:∀x,Lead (Ed K) x x→x ∈ M:=fun x l=>h.past x (by rw [List.drop_zero];exact (hb.2.1 x).2 l.lt)
 obtain ⟨x,hx⟩:=hc
 have h1:=h.low x (hM x hx) hx
 have h2:first<K.length:=Nat.lt_of_le_of_lt h1 hx.lt
 refine ⟨h.own.resolve_left (by omega),fun j hj l=>?_⟩
 have:=h.low j (hM j l) l
 omega
end Go.Proofs.YtgoffkfpdigeeaaGreatDoor
namespace Go.Proofs.YtgoffkfpdigeeaaGreatDoor
def meetF (K:List (List Nat)):Nat→List Nat→Nat→List Nat
 | 0,M,_=>M
 | f+1,M,a=>if a ∈ M then M else (K.getD a []).foldl (meetF K f) M++[a]
def meetO (K:List (List Nat)) (M:List Nat) (a:Nat):List Nat:=meetF K K.length M a
def ordO (K:List (List Nat)) (r:Nat):List Nat:=meetO K [] r
def Dag (K:List (List Nat)):Prop:=Ok9 K∧∀x,¬Lead (Ed K) x x
theorem filter_le10 (l:List Nat) (p q:Nat→Bool) (h:∀x ∈ l,p x=true→q x=true):(l.filter p).length≤(l.filter q).length:=by
 induction l with
 | nil=>simp
 | cons x r ih=>
  have ih':=ih (fun y hy=>h y (by simp [hy]))
  have hx:=h x (by simp)
  cases hp:p x <;> cases hq:q x <;> simp [hp,hq] <;> first|omega|simp_all
theorem filter_lt10 (l:List Nat) (p q:Nat→Bool) (h:∀x ∈ l,p x=true→q x=true) (z:Nat) (hz:z ∈ l) (hq:q z=true) (hp:p z=false):(l.filter p).length<(l.filter q).length:=by
 induction l with
 | nil=>simp at hz
 | cons x r ih=>
  have hx:=h x (by simp)
  rcases List.mem_cons.1 hz with rfl|hz
  ·have:=filter_le10 r p q (fun y hy=>h y (by simp [hy]))
   simp [hp,hq]
   omega
  ·have ih':=ih (fun y hy=>h y (by simp [hy])) hz
   cases hpx:p x <;> cases hqx:q x <;> simp [hpx,hqx] <;> first|omega|simp_all
def Rank (K:List (List Nat)) (rk:Nat→Nat):Prop:=(∀a b,Ed K a b→rk b<rk a)∧∀a,a<K.length→1≤rk a∧rk a≤K.length
theorem Dag.rank {K:List (List Nat)} (h:Dag K):∃rk,Rank K rk:=by
 classical
 refine ⟨fun a=>((List.range K.length).filter fun b=>decide (Rt (Ed K) a b)).length,fun a b e=>?_,fun a ha=>⟨?_,?_⟩⟩
 ·refine filter_lt10 _ _ _ (fun x _ hx=>?_) a (List.mem_range.2 e.lt) (decide_eq_true (Rt.refl _ _)) (decide_eq_false fun q=>h.2 a ⟨b,e,q⟩)
  exact decide_eq_true (Rt.head e (of_decide_eq_true hx))
 ·have:a ∈ (List.range K.length).filter fun b=>decide (Rt (Ed K) a b):=List.mem_filter.2 ⟨List.mem_range.2 ha,decide_eq_true (Rt.refl _ _)⟩
  exact List.length_pos_of_mem this
 ·refine Nat.le_trans (List.length_filter_le _ _) ?_
  simp
theorem foldl_mem {α : Type} (f g:List Nat→α→List Nat) (l:List α) (M:List Nat) (h:∀x ∈ l,∀M,f M x=g M x):l.foldl f M=l.foldl g M:=by
 induction l generalizing M with
 | nil=>rfl
 | cons x r ih=>
  rw [List.foldl_cons,List.foldl_cons,h x (by simp)]
  exact ih _ (fun y hy=>h y (by simp [hy]))
section
variable {K:List (List Nat)} {rk:Nat→Nat}
theorem meetF_more (hR:Rank K rk) (hK:Ok9 K):∀(f g a:Nat) (M:List Nat),a<K.length→rk a≤f→rk a≤g→meetF K f M a=meetF K g M a
 | 0,g,a,M,ha,h1,_=>by have:=(hR.2 a ha).1;omega
 | f+1,0,a,M,ha,_,h2=>by have:=(hR.2 a ha).1;omega
 | f+1,g+1,a,M,ha,h1,h2=>by
  unfold meetF
  split
  ·rfl
  ·rw [foldl_mem (meetF K f) (meetF K g) (K.getD a []) M (fun k hk M=>by
    have:=hR.1 a k hk
    exact meetF_more hR hK f g k M (hK a k hk) (by omega) (by omega))]
theorem meetO_is (hD:Dag K) (M:List Nat) (a:Nat) (ha:a<K.length):meetO K M a=if a ∈ M then M else (K.getD a []).foldl (meetO K) M++[a]:=by
 obtain ⟨rk,hR⟩:=hD.rank
 have hp:=hR.2 a ha
 show meetF K K.length M a=_
 obtain ⟨f,hf⟩:∃f,K.length=f+1:=⟨K.length-1,by omega⟩
 have:meetF K K.length M a=meetF K (f+1) M a:=by rw [hf]
 rw [this]
 unfold meetF
 split
 ·rfl
 ·rw [foldl_mem (meetF K f) (meetO K) (K.getD a []) M (fun k hk M=>by
   have:=hR.1 a k hk
   exact meetF_more hR hD.1 f K.length k M (hD.1 a k hk) (by omega) (by omega))]
structure Good (K:List (List Nat)) (M:List Nat):Prop where
 nd:M.Nodup
 lt:∀x ∈ M,x<K.length
 kids:∀x ∈ M,∀y,Ed K x y→y ∈ M∧M.idxOf y<M.idxOf x
theorem Good.nil:Good K []:=⟨by simp,by simp,by simp⟩
theorem idx_app {M T:List Nat} {x:Nat} (h:x ∈ M):(M++T).idxOf x=M.idxOf x:=by rw [List.idxOf_append,if_pos h]
theorem idx_snoc {M:List Nat} {x:Nat} (h:x ∉ M):(M++[x]).idxOf x=M.length:=by rw [List.idxOf_append,if_neg h];simp
theorem Good.snoc {M:List Nat} {a:Nat} (h:Good K M) (ha:a<K.length) (hn:a ∉ M) (hk:∀y,Ed K a y→y ∈ M):Good K (M++[a]):=by
 refine ⟨?_,?_,?_⟩
 ·rw [List.nodup_append]
  refine ⟨h.nd,by simp,fun x hx y hy e=>?_⟩
  simp only [List.mem_singleton] at hy
  subst e hy
  exact hn hx
 ·intro x hx
  rcases List.mem_append.1 hx with hx|hx
  ·exact h.lt x hx
  ·simp only [List.mem_singleton] at hx;subst hx;exact ha
 ·intro x hx y e
  rcases List.mem_append.1 hx with hx|hx
  ·obtain ⟨h1,h2⟩:=h.kids x hx y e
   exact ⟨List.mem_append_left _ h1,by rw [idx_app h1,idx_app hx];exact h2⟩
  ·simp only [List.mem_singleton] at hx
   subst hx
   have h1:=hk y e
   refine ⟨List.mem_append_left _ h1,?_⟩
   rw [idx_app h1,idx_snoc hn]
   exact List.idxOf_lt_length_of_mem h1
structure MetO (K:List (List Nat)) (M:List Nat) (P:Nat→Prop) (L:List Nat):Prop where
 good:Good K L
 pre:∃t,L=M++t
 new:∀x ∈ L,x ∈ M∨∃a,P a∧Rt (Ed K) a x
 has:∀a,P a→a ∈ L
theorem meetO_good (hD:Dag K) (hR:Rank K rk):∀(m a:Nat) (M:List Nat),rk a≤m→a<K.length→Good K M→MetO K M (fun x=>x=a) (meetO K M a)
 | 0,a,M,hm,ha,_=>by have:=(hR.2 a ha).1;omega
 | m+1,a,M,hm,ha,hM=>by
  rw [meetO_is hD M a ha]
  split
  ·rename_i hin
   exact ⟨hM,⟨[],by simp⟩,fun x hx=>.inl hx,fun x hx=>by subst hx;exact hin⟩
  ·rename_i hin
   have key:∀(l:List Nat) (M:List Nat),(∀k ∈ l,Ed K a k)→Good K M→MetO K M (fun x=>x ∈ l) (l.foldl (meetO K) M):=by
    intro l
    induction l with
    | nil=>intro M _ hM;exact ⟨hM,⟨[],by simp⟩,fun x hx=>.inl hx,fun x hx=>by simp at hx⟩
    | cons k t ih=>
     intro M hl hM
     have e:=hl k (by simp)
     have h1:=meetO_good hD hR m k M (by have:=hR.1 a k e;omega) (hD.1 a k e) hM
     have h2:=ih (meetO K M k) (fun q hq=>hl q (by simp [hq])) h1.good
     obtain ⟨t1,e1⟩:=h1.pre
     obtain ⟨t2,e2⟩:=h2.pre
     refine ⟨h2.good,⟨t1++t2,by rw [List.foldl_cons,e2,e1];simp⟩,fun x hx=>?_,fun x hx=>?_⟩
     ·rcases h2.new x hx with q|⟨b,hb,q⟩
      ·rcases h1.new x q with q'|⟨b,hb,q'⟩
       ·exact .inl q'
       ·exact .inr ⟨b,by simp [hb],q'⟩
      ·exact .inr ⟨b,by simp [hb],q⟩
     ·rcases List.mem_cons.1 hx with rfl|hx
      ·rw [List.foldl_cons,e2]
       exact List.mem_append_left _ (h1.has x rfl)
      ·exact h2.has x hx
   have h:=key (K.getD a []) M (fun k hk=>hk) hM
   have hno:a ∉ (K.getD a []).foldl (meetO K) M:=fun q=>by
    rcases h.new a q with q|⟨k,hk,q⟩
    ·exact hin q
    ·exact hD.2 a ⟨k,hk,q⟩
   obtain ⟨t,et⟩:=h.pre
   refine ⟨h.good.snoc ha hno (fun y e=>h.has y e),⟨t++[a],by rw [et];simp⟩,fun x hx=>?_,fun x hx=>by subst hx;simp⟩
   rcases List.mem_append.1 hx with hx|hx
   ·rcases h.new x hx with q|⟨k,hk,q⟩
    ·exact .inl q
    ·exact .inr ⟨a,rfl,Rt.head hk q⟩
   ·simp only [List.mem_singleton] at hx
    exact .inr ⟨a,rfl,by rw [hx];exact Rt.refl _ _⟩
end
structure Ord (K:List (List Nat)) (r:Nat) (O:List Nat):Prop where
 good:Good K O
 all:∀x,x<K.length→x ∈ O
 len:O.length=K.length
 root:∃t,O=t++[r]
theorem nodup_ge {n:Nat} {L:List Nat} (h:∀x,x<n→x ∈ L):n≤L.length:=by
 have:=nodup_le L.length ((List.range n).map L.idxOf) (by
  refine List.pairwise_map.2 ?_
  refine List.Pairwise.imp_of_mem (R:=fun a b=>a≠b) (fun {a b} ha hb hne q=>hne (idx_inj (h a (List.mem_range.1 ha)) (h b (List.mem_range.1 hb)) q)) ?_
  exact List.nodup_range) (fun x hx=>by
   obtain ⟨y,hy,rfl⟩:=List.mem_map.1 hx
   exact List.idxOf_lt_length_of_mem (h y (List.mem_range.1 hy)))
 simpa using this
theorem ordO_is {K:List (List Nat)} {r:Nat} (hD:Dag K) (hr:r<K.length) (ha:∀x,x<K.length→Rt (Ed K) r x):Ord K r (ordO K r):=by
 obtain ⟨rk,hR⟩:=hD.rank
 have h:=meetO_good hD hR (rk r) r [] (Nat.le_refl _) hr Good.nil
 have hall:∀x,x<K.length→x ∈ ordO K r:=fun x hx=>(ha x hx) (fun y=>y ∈ ordO K r) (h.has r rfl) (fun y z q e=>(h.good.kids y q z e).1)
 refine ⟨h.good,hall,Nat.le_antisymm (nodup_le _ _ h.good.nd h.good.lt) (nodup_ge hall),?_⟩
 have:=meetO_is hD [] r hr
 rw [if_neg (by simp)] at this
 exact ⟨_,this⟩
theorem Ord.last {K:List (List Nat)} {r:Nat} {O:List Nat} (h:Ord K r O):O.idxOf r+1=K.length:=by
 obtain ⟨t,e⟩:=h.root
 have hn:=h.good.nd
 rw [← h.len,e]
 rw [e,List.nodup_append] at hn
 have:r ∉ t:=fun q=>hn.2.2 r q r (by simp) rfl
 rw [idx_snoc this]
 simp
theorem Ord.idx {K:List (List Nat)} {r:Nat} {O:List Nat} (h:Ord K r O) {x:Nat} (hx:x<K.length):O.idxOf x<K.length:=by
 rw [← h.len]
 exact List.idxOf_lt_length_of_mem (h.all x hx)
structure Per (n:Nat) (p:Nat→Nat):Prop where
 lt:∀i,i<n→p i<n
 inj:∀i j,i<n→j<n→p i=p j→i=j
theorem Per.onto {n:Nat} {p:Nat→Nat} (h:Per n p) (y:Nat) (hy:y<n):∃x,x<n∧p x=y:=by
 have:=nodup_all n ((List.range n).map p) (by
  refine List.pairwise_map.2 ?_
  refine List.Pairwise.imp_of_mem (R:=fun a b=>a≠b) (fun {a b} ha hb hne q=>hne (h.inj a b (List.mem_range.1 ha) (List.mem_range.1 hb) q)) ?_
  exact List.nodup_range) (fun x hx=>by
   obtain ⟨z,hz,rfl⟩:=List.mem_map.1 hx
   exact h.lt z (List.mem_range.1 hz)) (by simp) y hy
 obtain ⟨x,hx,e⟩:=List.mem_map.1 this
 exact ⟨x,List.mem_range.1 hx,e⟩
theorem Per.back {n:Nat} {p:Nat→Nat} (h:Per n p):∃q,Per n q∧(∀i,i<n→q (p i)=i)∧∀i,i<n→p (q i)=i:=by
 classical
 have hc:∀y,∃x,y<n→x<n∧p x=y:=fun y=>by
  by_cases hy:y<n
  ·obtain ⟨x,h1,h2⟩:=h.onto y hy
   exact ⟨x,fun _=>⟨h1,h2⟩⟩
  ·exact ⟨0,fun q=>absurd q hy⟩
 obtain ⟨q,hq⟩:=Classical.skolem.1 hc
 refine ⟨q,⟨fun i hi=>(hq i hi).1,fun i j hi hj e=>?_⟩,fun i hi=>h.inj _ _ (hq _ (h.lt i hi)).1 hi (hq _ (h.lt i hi)).2,fun i hi=>(hq i hi).2⟩
 rw [← (hq i hi).2,← (hq j hj).2,e]
structure RenK (K K':List (List Nat)) (p:Nat→Nat):Prop where
 per:Per K.length p
 len:K'.length=K.length
 kids:∀i,i<K.length→K'.getD (p i) []=(K.getD i []).map p
section
variable {K K':List (List Nat)} {p:Nat→Nat}
theorem mem_ren (hp:Per K.length p) {M:List Nat} (hM:∀x ∈ M,x<K.length) {a:Nat} (ha:a<K.length):p a ∈ M.map p↔a ∈ M:=by
 constructor
 ·intro h
  obtain ⟨b,hb,e⟩:=List.mem_map.1 h
  rw [← hp.inj b a (hM b hb) ha e]
  exact hb
 ·exact fun h=>List.mem_map_of_mem h
theorem idx_ren (hp:Per K.length p):∀{M:List Nat},(∀x ∈ M,x<K.length)→∀{a:Nat},a<K.length→(M.map p).idxOf (p a)=M.idxOf a
 | [],_,a,_=>rfl
 | x :: r,hM,a,ha=>by
  have ih:=idx_ren hp (M:=r) (fun y hy=>hM y (by simp [hy])) ha
  rw [List.map_cons,List.idxOf_cons,List.idxOf_cons,ih]
  by_cases e:x=a
  ·subst e;simp
  ·have:p x≠p a:=fun q=>e (hp.inj x a (hM x (by simp)) ha q)
   rw [beq_eq_false_iff_ne.2 e,beq_eq_false_iff_ne.2 this]
theorem meetF_ren (h:RenK K K' p) (hK:Ok9 K):∀(f a:Nat) (M:List Nat),a<K.length→(∀x ∈ M,x<K.length)→meetF K' f (M.map p) (p a)=(meetF K f M a).map p∧∀x ∈ meetF K f M a,x<K.length
 | 0,a,M,_,hM=>⟨rfl,hM⟩
 | f+1,a,M,ha,hM=>by
  unfold meetF
  have hm:=mem_ren h.per hM ha
  by_cases hin:a ∈ M
  ·rw [if_pos hin,if_pos (hm.2 hin)]
   exact ⟨rfl,hM⟩
  ·rw [if_neg hin,if_neg (fun q=>hin (hm.1 q)),h.kids a ha]
   have key:∀(l M:List Nat),(∀k ∈ l,k<K.length)→(∀x ∈ M,x<K.length)→(l.map p).foldl (meetF K' f) (M.map p)=(l.foldl (meetF K f) M).map p∧∀x ∈ l.foldl (meetF K f) M,x<K.length:=by
    intro l
    induction l with
    | nil=>intro M _ hM;exact ⟨rfl,hM⟩
    | cons k t ih=>
     intro M hl hM
     obtain ⟨h1,h2⟩:=meetF_ren h hK f k M (hl k (by simp)) hM
     rw [List.map_cons,List.foldl_cons,List.foldl_cons,h1]
     exact ih _ (fun q hq=>hl q (by simp [hq])) h2
   obtain ⟨h1,h2⟩:=key (K.getD a []) M (fun k hk=>hK a k hk) hM
   refine ⟨by rw [h1];simp,fun x hx=>?_⟩
   rcases List.mem_append.1 hx with hx|hx
   ·exact h2 x hx
   ·simp only [List.mem_singleton] at hx;subst hx;exact ha
theorem ordO_ren (h:RenK K K' p) (hK:Ok9 K) {r:Nat} (hr:r<K.length):ordO K' (p r)=(ordO K r).map p:=by
 have:=(meetF_ren h hK K.length r [] hr (by simp)).1
 unfold ordO meetO
 rw [h.len]
 exact this
theorem RenK.ed (h:RenK K K' p) {a b:Nat} (e:Ed K a b):Ed K' (p a) (p b):=by
 unfold Ed
 rw [h.kids a e.lt]
 exact List.mem_map_of_mem e
theorem RenK.rt (h:RenK K K' p) {a b:Nat} (q:Rt (Ed K) a b):Rt (Ed K') (p a) (p b):=q (fun x=>Rt (Ed K') (p a) (p x)) (Rt.refl _ _) (fun _ _ r e=>r.tail (h.ed e))
theorem RenK.back (h:RenK K K' p) (hK:Ok9 K):∃q,RenK K' K q∧(∀i,i<K.length→q (p i)=i)∧∀i,i<K.length→p (q i)=i:=by
 obtain ⟨q,h1,h2,h3⟩:=h.per.back
 refine ⟨q,⟨by rw [h.len];exact h1,h.len.symm,fun i hi=>?_⟩,h2,h3⟩
 rw [h.len] at hi
 have:=h.kids (q i) (h1.lt i hi)
 rw [h3 i hi] at this
 rw [this,List.map_map]
 have e:∀l:List Nat,(∀k ∈ l,k<K.length)→l=l.map (q ∘ p):=fun l=>by
  induction l with
  | nil=>exact fun _=>rfl
  | cons a t ih=>
   intro hl
   rw [List.map_cons,← ih (fun k hk=>hl k (List.mem_cons_of_mem _ hk))]
   simp only [Function.comp]
   rw [h2 a (hl a (by simp))]
 exact e _ (fun k hk=>hK (q i) k hk)
theorem RenK.ok (h:RenK K K' p) (hK:Ok9 K):Ok9 K':=by
 intro a b e
 obtain ⟨x,hx,rfl⟩:=h.per.onto a (by rw [← h.len];exact e.lt)
 unfold Ed at e
 rw [h.kids x hx] at e
 obtain ⟨y,hy,rfl⟩:=List.mem_map.1 e
 rw [h.len]
 exact h.per.lt y (hK x y hy)
theorem RenK.dag (h:RenK K K' p) (hD:Dag K):Dag K':=by
 refine ⟨h.ok hD.1,?_⟩
 obtain ⟨q,h1,_⟩:=h.back hD.1
 rintro x ⟨c,e,r⟩
 exact hD.2 (q x) ⟨q c,h1.ed e,h1.rt r⟩
end
end Go.Proofs.YtgoffkfpdigeeaaGreatDoor
namespace Go.Proofs.YtgoffkfpdigeeaaGreatDoor
def contF (K:List (List Nat)):List (Nat × Bool)→List Nat→List Nat
 | [],o=>o
 | (x,true) :: t,o=>contF K t (o++[x])
 | (x,false) :: t,o=>contF K t (meetO K o x)
theorem contF_kids (K:List (List Nat)) (T:List (Nat × Bool)):∀(l o:List Nat),contF K (l.map (fun k=>(k,false))++T) o=contF K T (l.foldl (meetO K) o)
 | [],o=>rfl
 | k :: l,o=>by
  rw [List.map_cons,List.cons_append,List.foldl_cons]
  exact contF_kids K T l (meetO K o k)
structure SInv (K:List (List Nat)) (rk:Nat→Nat) (r:Nat) (T:List (Nat × Bool)) (order met:List Nat):Prop where
 fin:contF K T order=ordO K r
 mt:∀x,x ∈ met↔x ∈ order∨(x,true) ∈ T
 nd:met.Nodup
 ml:∀x ∈ met,x<K.length
 tl:∀p ∈ T,p.1<K.length
 op:T.Pairwise fun p q=>q.2=true→rk p.1<rk q.1
 no:∀x,(x,true) ∈ T→x ∉ order
 on:order.Nodup
 len:T.length≤1+met.length*3000
section
variable {K:List (List Nat)} {rk:Nat→Nat} {r:Nat} {T:List (Nat × Bool)} {order met:List Nat}
theorem SInv.start (hr:r<K.length):SInv K rk r [(r,false)] [] []:=
 ⟨rfl,by simp,by simp,by simp,by simpa using hr,by simp,by simp,by simp,by simp⟩
theorem SInv.metl (h:SInv K rk r T order met):met.length≤K.length:=nodup_le _ _ h.nd h.ml
theorem SInv.ordl (h:SInv K rk r T order met):order.length≤met.length:=by
 have:∀x ∈ order,x ∈ met:=fun x hx=>(h.mt x).2 (.inl hx)
 have h1:=nodup_le met.length (order.map met.idxOf) (by
  refine List.pairwise_map.2 ?_
  refine List.Pairwise.imp_of_mem (R:=fun a b=>a≠b) (fun {a b} ha hb hne q=>hne (idx_inj (this a ha) (this b hb) q)) ?_
  exact h.on) (fun x hx=>by
   obtain ⟨y,hy,rfl⟩:=List.mem_map.1 hx
   exact List.idxOf_lt_length_of_mem (this y hy))
 simpa using h1
theorem SInv.open_ (hD:Dag K) (hR:Rank K rk) {x:Nat} {b:Bool} (h:SInv K rk r ((x,b) :: T) order met) (hx:x ∉ met) (hk:(K.getD x []).length≤3000):SInv K rk r ((K.getD x []).map (fun k=>(k,false))++(x,true) :: T) order (met++[x])∧met.length<K.length:=by
 have hb:b=false:=by
  cases b with
  | false=>rfl
  | true=>exact absurd ((h.mt x).2 (.inr (by simp))) hx
 subst hb
 have hxl:x<K.length:=h.tl (x,false) (by simp)
 have hno:x ∉ order:=fun q=>hx ((h.mt x).2 (.inl q))
 have hnd:(met++[x]).Nodup:=by
  rw [List.nodup_append]
  refine ⟨h.nd,by simp,fun a ha c hc e=>?_⟩
  simp only [List.mem_singleton] at hc
  subst e hc
  exact hx ha
 have hml:∀y ∈ met++[x],y<K.length:=fun y hy=>by
  rcases List.mem_append.1 hy with hy|hy
  ·exact h.ml y hy
  ·simp only [List.mem_singleton] at hy;subst hy;exact hxl
 have hop:=List.pairwise_cons.1 h.op
 refine ⟨⟨?_,?_,hnd,hml,?_,?_,?_,h.on,?_⟩,?_⟩
 ·rw [contF_kids]
  have:=h.fin
  simp only [contF] at this ⊢
  rw [meetO_is hD order x hxl,if_neg hno] at this
  exact this
 ·intro y
  have:=h.mt y
  simp only [List.mem_append,List.mem_cons,Prod.mk.injEq,Bool.true_eq_false,Bool.false_eq_true,and_false,false_or,List.mem_map,exists_false,and_true,List.not_mem_nil,or_false] at this ⊢
  rw [this]
  constructor
  ·rintro ((q|q)|q)
   ·exact .inl q
   ·exact .inr (.inr q)
   ·exact .inr (.inl q)
  ·rintro (q|(q|q))
   ·exact .inl (.inl q)
   ·exact .inr q
   ·exact .inl (.inr q)
 ·intro p hp
  rcases List.mem_append.1 hp with hp|hp
  ·obtain ⟨k,hk,rfl⟩:=List.mem_map.1 hp
   exact hD.1 x k hk
  ·rcases List.mem_cons.1 hp with rfl|hp
   ·exact hxl
   ·exact h.tl p (by simp [hp])
 ·rw [List.pairwise_append]
  refine ⟨?_,List.pairwise_cons.2 ⟨fun q hq hq2=>hop.1 q hq hq2,hop.2⟩,?_⟩
  ·refine List.pairwise_map.2 ?_
   generalize K.getD x []=l
   induction l with
   | nil=>exact List.Pairwise.nil
   | cons a t ih=>exact List.pairwise_cons.2 ⟨fun _ _ q=>(by cases q),ih⟩
  ·intro p hp q hq hq2
   obtain ⟨k,hk,rfl⟩:=List.mem_map.1 hp
   have h1:=hR.1 x k hk
   rcases List.mem_cons.1 hq with rfl|hq
   ·exact h1
   ·exact Nat.lt_trans h1 (hop.1 q hq hq2)
 ·intro y hy
  rcases List.mem_append.1 hy with hy|hy
  ·obtain ⟨k,_,q⟩:=List.mem_map.1 hy
   simp at q
  ·rcases List.mem_cons.1 hy with q|hy
   ·simp only [Prod.mk.injEq,and_true] at q
    rw [q];exact hno
   ·exact h.no y (by simp [hy])
 ·have:=h.len
  simp only [List.length_append,List.length_map,List.length_cons,List.length_nil] at this ⊢
  omega
 ·have:=nodup_le _ _ hnd hml
  simp at this
  omega
theorem SInv.place {x:Nat} {b:Bool} (h:SInv K rk r ((x,b) :: T) order met) (hx:x ∈ met) (hn:x ∉ order):SInv K rk r T (order++[x]) met:=by
 have hop:=List.pairwise_cons.1 h.op
 have hb:b=true:=by
  cases b with
  | true=>rfl
  | false=>
   rcases (h.mt x).1 hx with q|q
   ·exact absurd q hn
   ·rcases List.mem_cons.1 q with q|q
    ·simp at q
    ·exact absurd (hop.1 (x,true) q rfl) (by show ¬rk x<rk x;omega)
 subst hb
 refine ⟨h.fin,?_,h.nd,h.ml,fun p hp=>h.tl p (by simp [hp]),hop.2,?_,?_,?_⟩
 ·intro y
  have:=h.mt y
  simp only [List.mem_append,List.mem_cons,Prod.mk.injEq,and_true,List.not_mem_nil,or_false] at this ⊢
  rw [this]
  constructor
  ·rintro (q|(q|q))
   ·exact .inl (.inl q)
   ·exact .inl (.inr q)
   ·exact .inr q
  ·rintro ((q|q)|q)
   ·exact .inl q
   ·exact .inr (.inl q)
   ·exact .inr (.inr q)
 ·intro y hy q
  rcases List.mem_append.1 q with q|q
  ·exact h.no y (by simp [hy]) q
  ·simp only [List.mem_singleton] at q
   subst q
   exact absurd (hop.1 (y,true) hy rfl) (by show ¬rk y<rk y;omega)
 ·rw [List.nodup_append]
  refine ⟨h.on,by simp,fun a ha c hc e=>?_⟩
  simp only [List.mem_singleton] at hc
  subst e hc
  exact hn ha
 ·have:=h.len
  simp only [List.length_cons] at this
  omega
theorem SInv.pop (hD:Dag K) {x:Nat} {b:Bool} (h:SInv K rk r ((x,b) :: T) order met) (hx:x ∈ order):SInv K rk r T order met:=by
 have hop:=List.pairwise_cons.1 h.op
 have hb:b=false:=by
  cases b with
  | false=>rfl
  | true=>exact absurd hx (h.no x (by simp))
 subst hb
 refine ⟨?_,?_,h.nd,h.ml,fun p hp=>h.tl p (by simp [hp]),hop.2,fun y hy=>h.no y (by simp [hy]),h.on,?_⟩
 ·have:=h.fin
  simp only [contF] at this
  rw [meetO_is hD order x (h.tl (x,false) (by simp)),if_pos hx] at this
  exact this
 ·intro y
  have:=h.mt y
  simp only [List.mem_cons,Prod.mk.injEq,Bool.true_eq_false,and_false,false_or] at this
  exact this
 ·have:=h.len
  simp only [List.length_cons] at this
  omega
end
def stk (T:List (Nat × Bool)):List Nat:=(T.map Prod.fst).reverse
theorem stk_length (T:List (Nat × Bool)):(stk T).length=T.length:=by simp [stk]
theorem stk_cons (p:Nat × Bool) (T:List (Nat × Bool)):stk (p :: T)=stk T++[p.1]:=by simp [stk]
theorem stk_push (x:Nat) (l:List Nat) (T:List (Nat × Bool)):stk (l.map (fun k=>(k,false))++(x,true) :: T)=stk T++[x]++l.reverse:=by
 have:l.map (Prod.fst ∘ fun k=>(k,false))=l:=by
  induction l with
  | nil=>rfl
  | cons a t ih=>rw [List.map_cons,ih];rfl
 simp [stk,this]
def plZ (P:List Nat) (i:Nat):Int:=if i ∈ P then (P.idxOf i:Int) else -1
theorem plZ_in {P:List Nat} {i:Nat} (h:i ∈ P):plZ P i=(P.idxOf i:Int):=if_pos h
theorem plZ_out {P:List Nat} {i:Nat} (h:i ∉ P):plZ P i = -1:=if_neg h
theorem plZ_snoc {P:List Nat} {x:Nat} (h:x ∉ P) (i:Nat):plZ (P++[x]) i=if i=x then (P.length:Int) else plZ P i:=by
 unfold plZ
 by_cases e:i=x
 ·subst e
  rw [if_pos rfl,if_pos (by simp),idx_snoc h]
 ·rw [if_neg e]
  by_cases hi:i ∈ P
  ·rw [if_pos hi,if_pos (by simp [hi]),idx_app hi]
  ·rw [if_neg hi,if_neg (by simp [hi,e])]
end Go.Proofs.YtgoffkfpdigeeaaGreatDoor
