import Derived.StringKeys
import Derived.Test.YtgoffkfpdigeeaaGreatDoorA16
import Derived.Test.YtgoffkfpdigeeaaGreatDoorA13
import Derived.Test.YtgoffkfpdigeeaaGreatDoorA02
import Derived.Test.YtgoffkfpdigeeaaGreatDoorA15
import Derived.Test.YtgoffkfpdigeeaaGreatDoorA03
import Derived.Test.YtgoffkfpdigeeaaGreatDoorA12
namespace Go.Proofs.YtgoffkfpdigeeaaGreatDoor
open Go.RowKit Go.Maps Go.WideMaps
def itn (T:List ByteArray):List ByteArray:=T.foldl pIntern []
def allT (X:List Nx):List ByteArray:=X.flatMap fun x=>x.nd.texts
def txb (X:List Nx):Nat:=sum6 (itn (allT X))
theorem itn_snoc (T:List ByteArray) (s:ByteArray):itn (T++[s])=pIntern (itn T) s:=by simp [itn,List.foldl_append]
theorem pIntern_mem (L:List ByteArray) (s t:ByteArray):t ∈ pIntern L s↔t ∈ L∨t=s:=by
 unfold pIntern
 by_cases h:idx6 s L<L.length
 ·rw [if_pos h]
  exact ⟨.inl,fun q=>q.elim id (fun e=>e ▸ (idx6_mem s L).1 h)⟩
 ·rw [if_neg h]
  simp
theorem pIntern_len (L:List ByteArray) (s:ByteArray):(pIntern L s).length≤L.length+1:=by
 unfold pIntern
 split <;> simp
theorem foldlT_mem (T:List ByteArray) (t:ByteArray):∀L:List ByteArray,t ∈ T.foldl pIntern L↔t ∈ L∨t ∈ T:=by
 induction T with
 | nil=>intro L;simp
 | cons x r ih=>
  intro L
  rw [List.foldl_cons,ih,pIntern_mem,List.mem_cons]
  exact or_assoc
theorem itn_mem (T:List ByteArray) (t:ByteArray):t ∈ itn T↔t ∈ T:=by
 unfold itn
 rw [foldlT_mem]
 simp
theorem foldlT_len (T:List ByteArray):∀L:List ByteArray,(T.foldl pIntern L).length≤L.length+T.length:=by
 induction T with
 | nil=>intro L;simp
 | cons x r ih=>
  intro L
  rw [List.foldl_cons]
  have:=ih (pIntern L x)
  have:=pIntern_len L x
  simp only [List.length_cons]
  omega
theorem itn_len (T:List ByteArray):(itn T).length≤T.length:=by
 have:=foldlT_len T []
 simpa [itn] using this
theorem allT_take (X:List Nx) (i:Nat) (h:i<X.length):allT (X.take (i+1))=allT (X.take i)++(X.getD i noNx).nd.texts:=by
 unfold allT
 rw [List.take_add_one,List.getElem?_eq_getElem h,List.flatMap_append]
 simp [h]
def upT (X:List Nx) (i k:Nat):List ByteArray:=allT (X.take i)++(X.getD i noNx).nd.texts.take k
theorem upT_zero (X:List Nx) (i:Nat):upT X i 0=allT (X.take i):=by simp [upT]
theorem upT_next (X:List Nx) (i k:Nat) (hk:k<(X.getD i noNx).nd.texts.length):upT X i (k+1)=upT X i k++[(X.getD i noNx).nd.texts.getD k noT]:=by
 unfold upT
 generalize (X.getD i noNx).nd.texts=T at *
 rw [List.append_assoc,List.take_add_one,List.getElem?_eq_getElem hk,List.getD_eq_getElem?_getD,List.getElem?_eq_getElem hk]
 rfl
theorem upT_full (X:List Nx) (i:Nat) (h:i<X.length):upT X i (X.getD i noNx).nd.texts.length=allT (X.take (i+1)):=by
 rw [allT_take X i h]
 simp [upT]
theorem allT_small (X:List Nx) (hX:Small X):∀i,i≤X.length→(allT (X.take i)).length≤i*100∧∀s ∈ allT (X.take i),s.size≤3000
 | 0,_=>by simp [allT]
 | i+1,hi=>by
  have ih:=allT_small X hX i (by omega)
  have hg:=big_no (hX.2 i (by omega))
  rw [allT_take X i (by omega),List.length_append]
  refine ⟨by have:=hg.2.1;omega,fun s hs=>?_⟩
  rcases List.mem_append.1 hs with h|h
  ·exact ih.2 s h
  ·exact hg.2.2.2 s h
theorem upT_small (X:List Nx) (hX:Small X) (i k:Nat) (hi:i<X.length):(upT X i k).length≤140100∧∀s ∈ upT X i k,s.size≤3000:=by
 have h1:=allT_small X hX i (by omega)
 have hg:=big_no (hX.2 i hi)
 have hn:=hX.1
 unfold upT
 rw [List.length_append,List.length_take]
 refine ⟨by have:=hg.2.1;omega,fun s hs=>?_⟩
 rcases List.mem_append.1 hs with h|h
 ·exact h1.2 s h
 ·exact hg.2.2.2 s (List.mem_of_mem_take h)
theorem itn_sum (T:List ByteArray) (h1:T.length≤140100) (h2:∀s ∈ T,s.size≤3000):sum6 (itn T)≤420300000∧(itn T).length≤140100:=by
 have h3:=itn_len T
 have h4:=sum6_le (itn T) 3000 (fun s hs=>h2 s ((itn_mem T s).1 hs))
 omega
def inT (s:ByteArray) (L:List ByteArray):Bool:=decide (idx6 s L<L.length)
theorem inT_iff (s:ByteArray) (L:List ByteArray):inT s L=true↔s ∈ L:=by
 unfold inT
 rw [decide_eq_true_iff,idx6_mem]
theorem inT_same (s:ByteArray) (L:List ByteArray):inT s (L++[s])=true:=(inT_iff _ _).2 (by simp)
theorem inT_other (s t:ByteArray) (L:List ByteArray) (h:t≠s):inT t (L++[s])=inT t L:=by
 rw [Bool.eq_iff_iff,inT_iff,inT_iff]
 simp [h]
def MetT (w:World) (g n:Nat) (L:List ByteArray):Prop:=∃D:DataW Unit,w.ownsMap Tryz.prog 9 (plainElem Tryz.prog 4) g n D∧∀s:ByteArray,D.atKey (kS s) (bE false)=bE (inT s L)
section
variable {S:Nat→Prop} {w w':World} {g n:Nat} {L:List ByteArray}
theorem MetT.lt (h:MetT w g n L):g<w.heap.size:=by obtain ⟨D,h1,_⟩:=h;exact h1.lt
theorem MetT.fr (h:MetT w g n L) (k:Fr S w w') (hn:¬S g):MetT w' g n L:=by
 obtain ⟨D,h1,h2⟩:=h
 exact ⟨D,map_fr h1 k hn,h2⟩
theorem MetT.below (h:MetT w g n L) (k:Below w.heap.size w w'):MetT w' g n L:=h.fr (Fr.of_below (S:=fun _=>False) k) id
theorem MetT.made (w:World):MetT (w.alloc (.map #[] 0)) w.heap.size 0 []:=⟨_,World.ownsMap_made w Tryz.prog 9 (plainElem (H:=Unit) Tryz.prog 4),fun _=>rfl⟩
theorem MetT.look (h:MetT w g n L) (s:ByteArray) (hs:s.size≤maxLen):(Instr.lookup 194 (.map (some g)) (.string s) false).run Tryz.prog w=.ok (.bool (inT s L)) w:=by
 obtain ⟨D,h1,h2⟩:=h
 obtain ⟨v,ps,hr,hv⟩:=h1.lookup lawS6 Tryz.underlying194 (zeroB9 w) (plainElem_bool Tryz.underlying4 false) (kS_key s hs)
 obtain ⟨b,rfl,hb⟩:=plainElem_bool_inv Tryz.underlying4 hv
 have:=h2 s
 simp only [bE] at this
 rw [this] at hb
 simp only [Prod.mk.injEq,DataW.lit.injEq,Lit.bool.injEq] at hb
 rw [hr,hb.1]
theorem MetT.put (h:MetT w g n L) (s:ByteArray) (hs:s.size≤maxLen) (hn:n<maxLen):∃w',(Instr.mapUpdate 194 (.map (some g)) (.string s) (.bool true)).run Tryz.prog w=.ok () w'∧MetT w' g (n+1) (L++[s])∧w.grownBy w' (some g):=by
 obtain ⟨D,h1,h2⟩:=h
 have hm:=h1.isMap
 obtain ⟨w',hr,h3,h4⟩:=h1.update lawS6 Tryz.underlying194 hn (kS_key s hs) (plainElem_bool Tryz.underlying4 true)
 refine ⟨w',hr,⟨_,h3,fun t=>?_⟩,h4⟩
 by_cases e:t=s
 ·subst e
  rw [atKey_put_same hm (kS_is t),inT_same]
  rfl
 ·rw [atKey_put_other (kS_ne e),h2 t,inT_other s t L e]
end
set_option maxRecDepth 10000 in
set_option maxHeartbeats 1000000 in
theorem textbytes_any (X:List Nx) (a:Option Addr) (c:Nat) (r:Int) (w:World) (h:ScAt w a X) (hX:Small X) :
  Calls Tryz.prog 109 #[.agg #[.slice a X.length c,.int .i64 r]] w fun e w'=>e=.returned (.int .i64 (txb X:Nat))∧Below w.heap.size w w':=by
 have hmm:=@run_makeMap Tryz.prog
 have HS:Hid (ScAt w a X∧Small X):=⟨h,hX⟩
 have hm0:MetT ((w.alloc (.cells #[.slice a X.length c,.int .i64 r] 24)).alloc (.map #[] 0)) (w.heap.size+1) 0 []:=by
  have:=MetT.made (w.alloc (.cells #[.slice a X.length c,.int .i64 r] 24))
  simpa using this
 have HM0:Hid (MetT ((w.alloc (.cells #[.slice a X.length c,.int .i64 r] 24)).alloc (.map #[] 0)) (w.heap.size+1) 0 []):=hm0
 have HB0:Hid (Below w.heap.size w ((w.alloc (.cells #[.slice a X.length c,.int .i64 r] 24)).alloc (.map #[] 0))):=((Below.refl w.heap.size w).alloc (Nat.le_refl _) _).alloc (by simp) _
 have hn:=hX.1
 clear h hX hm0
 go_enter Tryz.func109,Tryz.ntmps109
 go_wp2_with fail
 go_loopw [4,13] (fun nv iv wr=>∃(i n:Nat) (L:List ByteArray),iv=.int .i64 i∧nv=.int .i64 n∧i≤X.length∧Hid (L=itn (allT (X.take i)))∧Hid (n=sum6 L)∧Hid (MetT wr (w.heap.size+1) L.length L)∧Hid (Below w.heap.size w wr)) (fun _ iv _=>X.length-(intOf iv).toNat)
 case atStart=>exact ⟨0,0,[],rfl,rfl,by omega,by simp [Hid,itn,allT],rfl,HM0,HB0⟩
 case round=>
  clear HM0 HB0
  obtain ⟨i,n,L,rfl,rfl,hi,HL,HN,HM,HB⟩:=hrel
  by_cases hlt:i<X.length
  ·have hlt':(i:Int)<X.length:=by omega
   obtain ⟨b,o,rfl,hbl,d0,d1,d2,d3⟩:=(ScAt.belowB HS.out.1 HB.out).node hlt
   have HT:Hid (∀W,Below w.heap.size w W→LsAt W (X.getD i noNx).a2 (tV (X.getD i noNx).nd.texts)):=fun W hW=>((ScAt.belowB HS.out.1 hW).each i hlt).t
   have HZ:Hid (∀k,(upT X i k).length≤140100∧∀s ∈ upT X i k,s.size≤3000):=fun k=>upT_small X HS.out.2 i k hlt
   have HU0:Hid (L=itn (upT X i 0)):=by show _=_;rw [upT_zero];exact HL.out
   have HU1:Hid (∀k,k<(X.getD i noNx).nd.texts.length→upT X i (k+1)=upT X i k++[(X.getD i noNx).nd.texts.getD k noT]):=fun k hk=>upT_next X i k hk
   have HU2:Hid (itn (upT X i (X.getD i noNx).nd.texts.length)=itn (allT (X.take (i+1)))):=by show _=_;rw [upT_full X i hlt]
   have hng:=(big_no (HS.out.2.2 i hlt)).2.1
   generalize upT X i=U at *
   generalize X.getD i noNx=N at *
   obtain ⟨⟨kd,I,T,K⟩,a1,c1,a2,c2,a3,c3⟩:=N
   dsimp only at *
   clear HL
   go_wp2_with fail
   go_loopw [4,20] (fun nv kv wr=>∃(k n:Nat) (L:List ByteArray),kv=.int .i64 k∧nv=.int .i64 n∧k≤T.length∧Hid (L=itn (U k))∧Hid (n=sum6 L)∧Hid (MetT wr (w.heap.size+1) L.length L)∧Hid (Below w.heap.size w wr)) (fun _ kv _=>T.length-(intOf kv).toNat)
   case atStart=>
    refine ⟨0,n,L,rfl,rfl,by omega,HU0,HN,?_,?_⟩
    ·exact HM.out.below ((Below.refl _ _).alloc (Nat.le_refl _) _)
    ·exact Below.alloc HB.out HB.out.size _
   case round=>
    clear HU0 HN HM HB d0 d1 d2 d3
    obtain ⟨k,n,L,rfl,rfl,hk,HL,HN,HM,HB⟩:=hrel
    by_cases hkl:k<T.length
    ·have hkl':(k:Int)<T.length:=by omega
     obtain ⟨g2,o2,rfl,hb2,e2⟩:=(HT.out _ HB.out).at (tV_at T k hkl)
     have HL1:Hid (itn (U (k+1))=pIntern L (T.getD k noT)):=by show _=_;rw [HU1.out k hkl,itn_snoc,← HL.out]
     have hsz:(T.getD k noT).size≤3000:=(HZ.out (k+1)).2 _ (by rw [HU1.out k hkl];simp)
     have hle:=itn_sum (U (k+1)) (HZ.out (k+1)).1 (HZ.out (k+1)).2
     have hle0:=itn_sum (U k) (HZ.out k).1 (HZ.out k).2
     rw [← HL.out] at hle0
     rw [HL1.out] at hle
     clear HU1 HL HZ
     generalize T.getD k noT=s at *
     have hlk:=MetT.look HM.out s (by unfold maxLen;omega)
     by_cases hin:idx6 s L<L.length
     ·have hp:pIntern L s=L:=by unfold pIntern;rw [if_pos hin]
      rw [hp] at HL1
      rw [show inT s L=true from decide_eq_true hin] at hlk
      clear hle hle0 hp hin
      go_wp2_with fail
      go_roundw
      case rel=>exact ⟨k+1,n,L,by go_num,rfl,by omega,HL1.out.symm,HN,HM,HB⟩
      case measure=>simp [intOf];omega
     ·have hp:pIntern L s=L++[s]:=by unfold pIntern;rw [if_neg hin]
      rw [hp] at HL1 hle
      rw [show inT s L=false from decide_eq_false hin] at hlk
      obtain ⟨w2,hput,hmet,hgr⟩:=MetT.put HM.out s (by unfold maxLen;omega) (by unfold maxLen;omega)
      have HN1:Hid (n+s.size=sum6 (L++[s])):=by show _=_;rw [sum6_append,← HN.out];simp [sum6]
      have hb':(n:Int)+s.size≤420300000:=by have:=hle.1;rw [← HN1.out] at this;omega
      have HM2:Hid (MetT w2 (w.heap.size+1) (L++[s]).length (L++[s])):=by rw [List.length_append];exact hmet
      have HB2:Hid (Below w.heap.size w w2):=Below.grown HB.out hgr HB.out.size (fun q hq=>by cases hq;omega)
      clear hle hle0 hp hin hmet hgr HM HB
      go_wp2_with fail
      go_roundw
      case rel=>exact ⟨k+1,n+s.size,L++[s],by go_num,by go_num,by omega,HL1.out.symm,HN1,HM2,HB2⟩
      case measure=>simp [intOf];omega
    ·have hkl':¬(k:Int)<T.length:=by omega
     obtain rfl:k=T.length:=by omega
     have HL1:Hid (L=itn (allT (X.take (i+1)))):=by show _=_;rw [HL.out,HU2.out]
     clear HL HU1 HU2 HZ HT
     go_wp2_with fail
     go_roundw
     case rel=>exact ⟨i+1,n,L,by go_num,rfl,by omega,HL1,HN,HM,HB⟩
     case measure=>simp [intOf];omega
  ·have hlt':¬(i:Int)<X.length:=by omega
   have HQ:Hid (txb X=n):=by
    show _=_
    rw [HN.out,HL.out,List.take_of_length_le (by omega)]
    rfl
   clear HL HN HM
   go_wp2_with fail
   go_ret
   rw [HQ.out]
   exact ⟨rfl,HB.out⟩
end Go.Proofs.YtgoffkfpdigeeaaGreatDoor
namespace Go.Proofs.YtgoffkfpdigeeaaGreatDoor
open Go.RowKit Go.Maps Go.WideMaps Go.Sort
end Go.Proofs.YtgoffkfpdigeeaaGreatDoor
namespace Go.Proofs.YtgoffkfpdigeeaaGreatDoor
open Go.RowKit Go.Maps Go.WideMaps Go.Sort
def htF (K:List (List Nat)):Nat→Nat→Nat
 | 0,_=>0
 | n+1,a=>fold1 (htF K n) (K.getD a [])+1
theorem htF_le {K:List (List Nat)} {rk:Nat→Nat} (hR:Rank K rk) (hk:Ok9 K):∀n a,a<K.length→htF K n a≤rk a
 | 0,_,_=>Nat.zero_le _
 | n+1,a,ha=>by
  unfold htF
  have h1:fold1 (htF K n) (K.getD a [])≤rk a-1:=fold1_le _ _ _ (fun k e=>by
   have h2:=htF_le hR hk n k (hk a k e)
   have h3:=hR.1 a k e
   omega)
  have:=(hR.2 a ha).1
  omega
theorem htF_same {K:List (List Nat)} {rk:Nat→Nat} (hR:Rank K rk) (hk:Ok9 K):∀n m a,a<K.length→rk a≤n→rk a≤m→htF K n a=htF K m a
 | 0,m,a,ha,h1,_=>by have:=(hR.2 a ha).1;omega
 | n+1,0,a,ha,_,h2=>by have:=(hR.2 a ha).1;omega
 | n+1,m+1,a,ha,h1,h2=>by
  unfold htF
  rw [fold1_congr _ (fun k e=>htF_same hR hk n m k (hk a k e) (by have:=hR.1 a k e;omega) (by have:=hR.1 a k e;omega))]
theorem depth_there (X:List Nx) (r:Int):∃d,DepthIs X r d:=by
 by_cases h:RightIs X r
 ·have hD:Dag (kX X):=⟨kX_ok h.2.1,h.2.2.1⟩
  obtain ⟨rk,hR⟩:=hD.rank
  refine ⟨htF (kX X) (kX X).length r.toNat,fun q=>absurd h q,fun _=>⟨htF (kX X) (kX X).length,fun a ha=>?_,rfl,fun x hx=>?_⟩⟩
  ·have hra:=(hR.2 a ha).2
   rw [htF_same hR hD.1 (kX X).length ((kX X).length+1) a ha hra (by omega)]
   rfl
  ·have hx':x<(kX X).length:=by rw [kX_length];exact hx
   have h1:=htF_le hR hD.1 (kX X).length x hx'
   have h2:=hR.2 x hx'
   rw [kX_length] at h1 h2 ⊢
   refine ⟨?_,by omega⟩
   have:1≤X.length:=by omega
   obtain ⟨n,hn⟩:∃n,X.length=n+1:=⟨X.length-1,by omega⟩
   rw [hn]
   unfold htF
   omega
 ·exact ⟨0,fun _=>rfl,fun q=>absurd q h⟩
theorem DepthIs.only {X:List Nx} {r:Int} {d d':Nat} (h:DepthIs X r d) (h':DepthIs X r d'):d'=d:=by
 by_cases hR:RightIs X r
 ·obtain ⟨f,h1,rfl,_⟩:=h.2 hR
  obtain ⟨g,h2,rfl,_⟩:=h'.2 hR
  refine HtIs.uniq h2 h1 (kX_ok hR.2.1) _ _ rfl ?_
  have:=isPb_iff.1 hR.1
  rw [kX_length]
  omega
 ·rw [h.1 hR,h'.1 hR]
def meL (X:List Nx) (d:Nat):Lm:=⟨0,X.length,edg X,d,txb X⟩
def meC (X:List Nx) (d:Nat):Array Value:=#[.int .i64 0,.int .i64 X.length,.int .i64 (edg X:Nat),.int .i64 (d:Nat),.int .i64 (txb X:Nat)]
theorem at_set5 {T:TypeId} {W:World} {g:Nat} {x0 x1 x2 x3 x4:Value} (h:AtN T W g #[x0,x1,x2,x3,x4]) (v0 v1 v2 v3 v4:Value):AtN T (((((W.setCell ⟨g,0,none⟩ v0).setCell ⟨g,1,none⟩ v1).setCell ⟨g,2,none⟩ v2).setCell ⟨g,3,none⟩ v3).setCell ⟨g,4,none⟩ v4) g #[v0,v1,v2,v3,v4]:=by
 simpa using ((((h.set 0 v0).set 1 v1).set 2 v2).set 3 v3).set 4 v4
def meF (X:List Nx) (a:Option Addr) (c:Nat) (r:Int) (d bx:Nat):Nat→Value→World→Prop
 | 0,v,_=>v=.pointer (some ⟨bx,0,none⟩)
 | 1,v,_=>v=.slice a X.length c
 | 2,v,_=>v=.int .i64 X.length
 | 3,v,_=>v=.agg #[.slice a X.length c,.int .i64 r]
 | 4,v,_=>v=.int .i64 (edg X:Nat)
 | 5,v,_=>v=.agg #[.slice a X.length c,.int .i64 r]
 | 6,v,_=>v=.int .i64 (d:Nat)
 | 7,v,_=>v=.agg #[.slice a X.length c,.int .i64 r]
 | 8,v,_=>v=.int .i64 (txb X:Nat)
 | 9,v,_=>v=.agg (meC X d)
 | 10,_,W=>AtN 26 W (bx+1) (meC X d)
 | _,_,_=>True
theorem meF_stab (X:List Nx) (a:Option Addr) (c:Nat) (r:Int) (d bx:Nat):∀i j v w w',i≠j→World.grownBy w w' (if i=10 then some (bx+1) else none)→meF X a c r d bx j v w→meF X a c r d bx j v w':=by
 intro i j v w w' hne hg h
 match j,h with
 | 0,h|1,h|2,h|3,h|4,h|5,h|6,h|7,h|8,h|9,h=>exact h
 | 10,h=>
  rw [if_neg hne] at hg
  exact AtN.kept h hg (by simp)
 | n+11,_=>trivial
set_option maxRecDepth 10000 in
set_option maxHeartbeats 1000000 in
theorem measure_any (X:List Nx) (a:Option Addr) (c:Nat) (r:Int) (d:Nat) (w:World) (h:ScAt w a X) (hX:Small X) (hd:DepthIs X r d) :
  Calls Tryz.prog 58 #[.agg #[.slice a X.length c,.int .i64 r]] w fun e w'=>e=.returned (.agg (meC X d))∧Below w.heap.size w w':=by
 have HE:Hid (∀W,Below w.heap.size w W→Calls Tryz.prog 107 #[.agg #[.slice a X.length c,.int .i64 r]] W fun e w'=>e=.returned (.int .i64 (edg X:Nat))∧Below W.heap.size W w'):=fun W hW=>edges_any X a c r W (h.belowB hW) hX
 have HD:Hid (∀W,Below w.heap.size w W→Calls Tryz.prog 108 #[.agg #[.slice a X.length c,.int .i64 r]] W fun e w'=>e=.returned (.int .i64 (d:Nat))∧Below W.heap.size W w'):=fun W hW=>by
  refine Calls.mono (depth_any X a c r W (h.belowB hW) hX) ?_
  rintro e w' ⟨d',rfl,hd',hb⟩
  rw [hd.only hd']
  exact ⟨rfl,hb⟩
 have HT:Hid (∀W,Below w.heap.size w W→Calls Tryz.prog 109 #[.agg #[.slice a X.length c,.int .i64 r]] W fun e w'=>e=.returned (.int .i64 (txb X:Nat))∧Below W.heap.size W w'):=fun W hW=>textbytes_any X a c r W (h.belowB hW) hX
 clear h hX hd
 go_enter Tryz.func58,Tryz.ntmps58
 go_wp2_with fail
 refine facts_region (some (w.heap.size+1)) 10 (meF X a c r d w.heap.size) (by kernel_rfl) (by kernel_rfl) (meF_stab X a c r d w.heap.size) ?step ?fin
 case step=>
  intro i o ho act W hg hstill hoff hdep K hK
  have t1:act.tmps[1]?.getD undef=.pointer (some ⟨w.heap.size,0,none⟩):=hoff 1 (by kernel_rfl)
  have t2:act.tmps[2]?.getD undef=.pointer (some ⟨w.heap.size+1,0,none⟩):=hoff 2 (by kernel_rfl)
  have B0:Below w.heap.size w W:=(((Below.refl w.heap.size w).alloc (Nat.le_refl _) _).alloc (by simp) _).grown hg (by simp;omega) (fun k hk=>by cases hk;omega)
  have A0:AtN 24 W w.heap.size #[.slice a X.length c,.int .i64 r]:=((AtN.new w 24 _).alloc _).kept hg (by simp)
  have A1:i=10→AtN 26 W (w.heap.size+1) #[.int .i64 0,.int .i64 0,.int .i64 0,.int .i64 0,.int .i64 0]:=fun e=>mk_at ((AtN.new (w.alloc _) 26 _).kept (hstill e) (by simp)) (by simp)
  have x0:W.cell? ⟨w.heap.size,0,none⟩=some (.slice a X.length c):=A0.cell 0
  have x1:W.cell? ⟨w.heap.size,1,none⟩=some (.int .i64 r):=A0.cell 1
  have HE1:=HE.out W B0
  have HD1:=HD.out W B0
  have HT1:=HT.out W B0
  clear A0 B0 hg hoff hstill HE HD HT
  have HE:Hid _:=HE1
  have HD:Hid _:=HD1
  have HT:Hid _:=HT1
  clear HE1 HD1 HT1
  rcases i with _|_|_|_|_|_|_|_|_|_|_|i
  ·obtain rfl:=Option.some.inj ho
   clear hdep A1 HE HD HT
   go_simp
   exact hK _ _ (grown_refl _ _) rfl
  ·obtain rfl:=Option.some.inj ho
   have e0:act.tmps[3]?.getD undef=.pointer (some ⟨w.heap.size,0,none⟩):=hdep 0 _ (by kernel_rfl) rfl
   clear hdep A1 HE HD HT
   go_simp
   exact hK _ _ (grown_refl _ _) rfl
  ·obtain rfl:=Option.some.inj ho
   have e1:act.tmps[4]?.getD undef=.slice a X.length c:=hdep 1 _ (by kernel_rfl) rfl
   clear hdep A1 HE HD HT
   go_simp
   exact hK _ _ (grown_refl _ _) rfl
  ·obtain rfl:=Option.some.inj ho
   clear hdep A1 HE HD HT
   go_simp
   exact hK _ _ (grown_refl _ _) rfl
  ·obtain rfl:=Option.some.inj ho
   have e3:act.tmps[6]?.getD undef=.agg #[.slice a X.length c,.int .i64 r]:=hdep 3 _ (by kernel_rfl) rfl
   clear hdep A1 HD HT
   go_simp
   refine Calls.mono (Hid.out HE) ?_
   rintro e w' ⟨rfl,hb⟩
   exact hK _ _ (grown_of_below hb _) rfl
  ·obtain rfl:=Option.some.inj ho
   clear hdep A1 HE HD HT
   go_simp
   exact hK _ _ (grown_refl _ _) rfl
  ·obtain rfl:=Option.some.inj ho
   have e5:act.tmps[8]?.getD undef=.agg #[.slice a X.length c,.int .i64 r]:=hdep 5 _ (by kernel_rfl) rfl
   clear hdep A1 HE HT
   go_simp
   refine Calls.mono (Hid.out HD) ?_
   rintro e w' ⟨rfl,hb⟩
   exact hK _ _ (grown_of_below hb _) rfl
  ·obtain rfl:=Option.some.inj ho
   clear hdep A1 HE HD HT
   go_simp
   exact hK _ _ (grown_refl _ _) rfl
  ·obtain rfl:=Option.some.inj ho
   have e7:act.tmps[10]?.getD undef=.agg #[.slice a X.length c,.int .i64 r]:=hdep 7 _ (by kernel_rfl) rfl
   clear hdep A1 HE HD
   go_simp
   refine Calls.mono (Hid.out HT) ?_
   rintro e w' ⟨rfl,hb⟩
   exact hK _ _ (grown_of_below hb _) rfl
  ·obtain rfl:=Option.some.inj ho
   have e2:act.tmps[5]?.getD undef=.int .i64 X.length:=hdep 2 _ (by kernel_rfl) rfl
   have e4:act.tmps[7]?.getD undef=.int .i64 (edg X:Nat):=hdep 4 _ (by kernel_rfl) rfl
   have e6:act.tmps[9]?.getD undef=.int .i64 (d:Nat):=hdep 6 _ (by kernel_rfl) rfl
   have e8:act.tmps[11]?.getD undef=.int .i64 (txb X:Nat):=hdep 8 _ (by kernel_rfl) rfl
   clear hdep A1 HE HD HT
   go_simp
   exact hK _ _ (grown_refl _ _) rfl
  ·obtain rfl:=Option.some.inj ho
   have e9:act.tmps[12]?.getD undef=.agg (meC X d):=hdep 9 _ (by kernel_rfl) rfl
   have A:=A1 rfl
   have y0:W.cell? ⟨w.heap.size+1,0,none⟩=some (.int .i64 0):=A.cell 0
   have y1:W.cell? ⟨w.heap.size+1,1,none⟩=some (.int .i64 0):=A.cell 1
   have y2:W.cell? ⟨w.heap.size+1,2,none⟩=some (.int .i64 0):=A.cell 2
   have y3:W.cell? ⟨w.heap.size+1,3,none⟩=some (.int .i64 0):=A.cell 3
   have y4:W.cell? ⟨w.heap.size+1,4,none⟩=some (.int .i64 0):=A.cell 4
   have f0:=A.fz 0
   have f1:=A.fz 1
   have f2:=A.fz 2
   have f3:=A.fz 3
   have f4:=A.fz 4
   have HA:Hid (AtN 26 W (w.heap.size+1) #[.int .i64 0,.int .i64 0,.int .i64 0,.int .i64 0,.int .i64 0]):=A
   clear A
   unfold meC at e9
   clear hdep A1 HE HD HT
   go_simp
   exact hK undef _ (grown_set (grown_set (grown_set (grown_set (grown_set (grown_refl W _) 0 _) 1 _) 2 _) 3 _) 4 _) (at_set5 HA.out _ _ _ _ _)
  ·exact absurd ho (by simp)
 case fin=>
  intro V W hg hF
  have A:AtN 26 W (w.heap.size+1) (meC X d):=hF 10 _ rfl
  have B0:Below w.heap.size w W:=(((Below.refl w.heap.size w).alloc (Nat.le_refl _) _).alloc (by simp) _).grown hg (by simp;omega) (fun k hk=>by cases hk;omega)
  have HB:Hid (Below w.heap.size w W):=B0
  clear hF hg HE HD HT B0
  have y0:W.cell? ⟨w.heap.size+1,0,none⟩=some (.int .i64 0):=A.cell 0
  have y1:W.cell? ⟨w.heap.size+1,1,none⟩=some (.int .i64 X.length):=A.cell 1
  have y2:W.cell? ⟨w.heap.size+1,2,none⟩=some (.int .i64 (edg X:Nat)):=A.cell 2
  have y3:W.cell? ⟨w.heap.size+1,3,none⟩=some (.int .i64 (d:Nat)):=A.cell 3
  have y4:W.cell? ⟨w.heap.size+1,4,none⟩=some (.int .i64 (txb X:Nat)):=A.cell 4
  clear A
  simp only [fillA,Act.put,List.setIfInBounds_toArray,List.set_cons_zero,List.set_cons_succ]
  go_wp2_with fail
  exact bodyPost_ret (v:=.agg #[.int .i64 0,.int .i64 X.length,.int .i64 (edg X:Nat),.int .i64 (d:Nat),.int .i64 (txb X:Nat)]) (by simp [results,Tryz.results58,go_sem, *]) rfl ⟨rfl,HB.out⟩
end Go.Proofs.YtgoffkfpdigeeaaGreatDoor
namespace Go.Proofs.YtgoffkfpdigeeaaGreatDoor
open Go.RowKit Go.Maps Go.WideMaps Go.Sort
def VaIs (X:List Nx) (r:Int) (l:Lm) (d:Nat) (e z:Int):Prop:=
 (okL l=false∧e=1∧z = -1)∨(okL l=true∧tyE X≠0∧e=tyE X∧z=tyZ X)∨
  (okL l=true∧tyE X=0∧∃n y,CheckIs X r n y∧((n≠0∧e=n∧z=y)∨(n=0∧((inL (meL X d) l=false∧e=19∧z = -1)∨(inL (meL X d) l=true∧e=0∧z=0)))))
end Go.Proofs.YtgoffkfpdigeeaaGreatDoor
namespace Go.Proofs.YtgoffkfpdigeeaaGreatDoor
open Go.RowKit
def tyNo (N:Nd):Int:=if (oldSp N.kind).ok=false then 9 else chkN N (oldSp N.kind).ints (oldSp N.kind).texts (oldSp N.kind).least (oldSp N.kind).most
def tyGo:List Nx→Nat→Int × Int
 | [],_=>(0,0)
 | x :: t,k=>if tyNo x.nd=0 then tyGo t (k+1) else (tyNo x.nd,(k:Int))
def tyEo (X:List Nx):Int:=(tyGo X 0).1
def tyZo (X:List Nx):Int:=(tyGo X 0).2
theorem tyGo_at (X:List Nx) (i:Nat) (h:i<X.length):tyGo (X.drop i) i=if tyNo (X.getD i noNx).nd=0 then tyGo (X.drop (i+1)) (i+1) else (tyNo (X.getD i noNx).nd,(i:Int)):=by
 rw [show X.drop i=X[i] :: X.drop (i+1) from List.drop_eq_getElem_cons h,show X.getD i noNx=X[i] by simp [h]]
 rfl
def VoIs (X:List Nx) (r:Int) (l:Lm) (d:Nat) (e z:Int):Prop:=
 (okL l=false∧e=1∧z = -1)∨(okL l=true∧tyEo X≠0∧e=tyEo X∧z=tyZo X)∨
  (okL l=true∧tyEo X=0∧∃n y,CheckIs X r n y∧((n≠0∧e=n∧z=y)∨(n=0∧((inL (meL X d) l=false∧e=19∧z = -1)∨(inL (meL X d) l=true∧e=0∧z=0)))))
def VoOut (X:List Nx) (r:Int) (l:Lm) (d:Nat) (w w':World) (e:Ending):Prop:=∃n z:Int,e=.returned (.tuple #[.int .i64 n,.int .i64 z])∧VoIs X r l d n z∧Below w.heap.size w w'
end Go.Proofs.YtgoffkfpdigeeaaGreatDoor
