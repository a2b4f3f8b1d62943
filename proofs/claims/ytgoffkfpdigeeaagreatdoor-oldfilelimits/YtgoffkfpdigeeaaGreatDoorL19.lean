import Derived.StringKeys
import Derived.Test.YtgoffkfpdigeeaaGreatDoorL17
import Derived.Test.YtgoffkfpdigeeaaGreatDoorL14
import Derived.Test.YtgoffkfpdigeeaaGreatDoorL18
import Derived.Test.YtgoffkfpdigeeaaGreatDoorL02
import Derived.Test.YtgoffkfpdigeeaaGreatDoorL16
import Derived.Test.YtgoffkfpdigeeaaGreatDoorL03
namespace Go.Proofs.YtgoffkfpdigeeaaGreatDoor
open Go.RowKit Go.Maps Go.WideMaps
def itn (T:List ByteArray):List ByteArray:=T.foldl pIntern []
def allT (X:List Nx):List ByteArray:=X.flatMap fun x=>x.nd.texts
def txb (X:List Nx):Nat:=sum6 (itn (allT X))
theorem itn_snoc (T:List ByteArray) (s:ByteArray):itn (T++[s])=pIntern (itn T) s:=by simp [itn,List.foldl_append]
theorem pIntern_mem (L:List ByteArray) (s t:ByteArray):t ∈ pIntern L s↔t ∈ L∨t=s:=by
 unfold pIntern
 by_cases h:idx6 s L<L.length
 ·rw [if_pos h]
  exact ⟨.inl,fun q=>q.elim id (fun e=>e ▸ (idx6_mem s L).1 h)⟩
 ·rw [if_neg h]
  simp
theorem pIntern_len (L:List ByteArray) (s:ByteArray):(pIntern L s).length≤L.length+1:=by
 unfold pIntern
 split <;> simp
theorem foldlT_mem (T:List ByteArray) (t:ByteArray):∀L:List ByteArray,t ∈ T.foldl pIntern L↔t ∈ L∨t ∈ T:=by
 induction T with
 | nil=>intro L;simp
 | cons x r ih=>
  intro L
  rw [List.foldl_cons,ih,pIntern_mem,List.mem_cons]
  exact or_assoc
theorem itn_mem (T:List ByteArray) (t:ByteArray):t ∈ itn T↔t ∈ T:=by
 unfold itn
 rw [foldlT_mem]
 simp
theorem foldlT_len (T:List ByteArray):∀L:List ByteArray,(T.foldl pIntern L).length≤L.length+T.length:=by
 induction T with
 | nil=>intro L;simp
 | cons x r ih=>
  intro L
  rw [List.foldl_cons]
  have:=ih (pIntern L x)
  have:=pIntern_len L x
  simp only [List.length_cons]
  omega
theorem itn_len (T:List ByteArray):(itn T).length≤T.length:=by
 have:=foldlT_len T []
 simpa [itn] using this
theorem allT_take (X:List Nx) (i:Nat) (h:i<X.length):allT (X.take (i+1))=allT (X.take i)++(X.getD i noNx).nd.texts:=by
 unfold allT
 rw [List.take_add_one,List.getElem?_eq_getElem h,List.flatMap_append]
 simp [h]
def upT (X:List Nx) (i k:Nat):List ByteArray:=allT (X.take i)++(X.getD i noNx).nd.texts.take k
theorem upT_zero (X:List Nx) (i:Nat):upT X i 0=allT (X.take i):=by simp [upT]
theorem upT_next (X:List Nx) (i k:Nat) (hk:k<(X.getD i noNx).nd.texts.length):upT X i (k+1)=upT X i k++[(X.getD i noNx).nd.texts.getD k noT]:=by
 unfold upT
 generalize (X.getD i noNx).nd.texts=T at *
 rw [List.append_assoc,List.take_add_one,List.getElem?_eq_getElem hk,List.getD_eq_getElem?_getD,List.getElem?_eq_getElem hk]
 rfl
theorem upT_full (X:List Nx) (i:Nat) (h:i<X.length):upT X i (X.getD i noNx).nd.texts.length=allT (X.take (i+1)):=by
 rw [allT_take X i h]
 simp [upT]
theorem allT_small (X:List Nx) (hX:Small X):∀i,i≤X.length→(allT (X.take i)).length≤i*100∧∀s ∈ allT (X.take i),s.size≤3000
 | 0,_=>by simp [allT]
 | i+1,hi=>by
  have ih:=allT_small X hX i (by omega)
  have hg:=big_no (hX.2 i (by omega))
  rw [allT_take X i (by omega),List.length_append]
  refine ⟨by have:=hg.2.1;omega,fun s hs=>?_⟩
  rcases List.mem_append.1 hs with h|h
  ·exact ih.2 s h
  ·exact hg.2.2.2 s h
theorem upT_small (X:List Nx) (hX:Small X) (i k:Nat) (hi:i<X.length):(upT X i k).length≤140100∧∀s ∈ upT X i k,s.size≤3000:=by
 have h1:=allT_small X hX i (by omega)
 have hg:=big_no (hX.2 i hi)
 have hn:=hX.1
 unfold upT
 rw [List.length_append,List.length_take]
 refine ⟨by have:=hg.2.1;omega,fun s hs=>?_⟩
 rcases List.mem_append.1 hs with h|h
 ·exact h1.2 s h
 ·exact hg.2.2.2 s (List.mem_of_mem_take h)
theorem itn_sum (T:List ByteArray) (h1:T.length≤140100) (h2:∀s ∈ T,s.size≤3000):sum6 (itn T)≤420300000∧(itn T).length≤140100:=by
 have h3:=itn_len T
 have h4:=sum6_le (itn T) 3000 (fun s hs=>h2 s ((itn_mem T s).1 hs))
 omega
def inT (s:ByteArray) (L:List ByteArray):Bool:=decide (idx6 s L<L.length)
theorem inT_iff (s:ByteArray) (L:List ByteArray):inT s L=true↔s ∈ L:=by
 unfold inT
 rw [decide_eq_true_iff,idx6_mem]
theorem inT_same (s:ByteArray) (L:List ByteArray):inT s (L++[s])=true:=(inT_iff _ _).2 (by simp)
theorem inT_other (s t:ByteArray) (L:List ByteArray) (h:t≠s):inT t (L++[s])=inT t L:=by
 rw [Bool.eq_iff_iff,inT_iff,inT_iff]
 simp [h]
def MetT (w:World) (g n:Nat) (L:List ByteArray):Prop:=∃D:DataW Unit,w.ownsMap Tryz.prog 9 (plainElem Tryz.prog 4) g n D∧∀s:ByteArray,D.atKey (kS s) (bE false)=bE (inT s L)
section
variable {S:Nat→Prop} {w w':World} {g n:Nat} {L:List ByteArray}
theorem MetT.lt (h:MetT w g n L):g<w.heap.size:=by obtain ⟨D,h1,_⟩:=h;exact h1.lt
theorem MetT.fr (h:MetT w g n L) (k:Fr S w w') (hn:¬S g):MetT w' g n L:=by
 obtain ⟨D,h1,h2⟩:=h
 exact ⟨D,map_fr h1 k hn,h2⟩
theorem MetT.below (h:MetT w g n L) (k:Below w.heap.size w w'):MetT w' g n L:=h.fr (Fr.of_below (S:=fun _=>False) k) id
theorem MetT.made (w:World):MetT (w.alloc (.map #[] 0)) w.heap.size 0 []:=⟨_,World.ownsMap_made w Tryz.prog 9 (plainElem (H:=Unit) Tryz.prog 4),fun _=>rfl⟩
theorem MetT.look (h:MetT w g n L) (s:ByteArray) (hs:s.size≤maxLen):(Instr.lookup 194 (.map (some g)) (.string s) false).run Tryz.prog w=.ok (.bool (inT s L)) w:=by
 obtain ⟨D,h1,h2⟩:=h
 obtain ⟨v,ps,hr,hv⟩:=h1.lookup lawS6 Tryz.underlying194 (zeroB9 w) (plainElem_bool Tryz.underlying4 false) (kS_key s hs)
 obtain ⟨b,rfl,hb⟩:=plainElem_bool_inv Tryz.underlying4 hv
 have:=h2 s
 simp only [bE] at this
 rw [this] at hb
 simp only [Prod.mk.injEq,DataW.lit.injEq,Lit.bool.injEq] at hb
 rw [hr,hb.1]
theorem MetT.put (h:MetT w g n L) (s:ByteArray) (hs:s.size≤maxLen) (hn:n<maxLen):∃w',(Instr.mapUpdate 194 (.map (some g)) (.string s) (.bool true)).run Tryz.prog w=.ok () w'∧MetT w' g (n+1) (L++[s])∧w.grownBy w' (some g):=by
 obtain ⟨D,h1,h2⟩:=h
 have hm:=h1.isMap
 obtain ⟨w',hr,h3,h4⟩:=h1.update lawS6 Tryz.underlying194 hn (kS_key s hs) (plainElem_bool Tryz.underlying4 true)
 refine ⟨w',hr,⟨_,h3,fun t=>?_⟩,h4⟩
 by_cases e:t=s
 ·subst e
  rw [atKey_put_same hm (kS_is t),inT_same]
  rfl
 ·rw [atKey_put_other (kS_ne e),h2 t,inT_other s t L e]
end
set_option maxRecDepth 10000 in
set_option maxHeartbeats 1000000 in
theorem textbytes_any (X:List Nx) (a:Option Addr) (c:Nat) (r:Int) (w:World) (h:ScAt w a X) (hX:Small X) :
  Calls Tryz.prog 109 #[.agg #[.slice a X.length c,.int .i64 r]] w fun e w'=>e=.returned (.int .i64 (txb X:Nat))∧Below w.heap.size w w':=by
 have hmm:=@run_makeMap Tryz.prog
 have HS:Hid (ScAt w a X∧Small X):=⟨h,hX⟩
 have hm0:MetT ((w.alloc (.cells #[.slice a X.length c,.int .i64 r] 24)).alloc (.map #[] 0)) (w.heap.size+1) 0 []:=by
  have:=MetT.made (w.alloc (.cells #[.slice a X.length c,.int .i64 r] 24))
  simpa using this
 have HM0:Hid (MetT ((w.alloc (.cells #[.slice a X.length c,.int .i64 r] 24)).alloc (.map #[] 0)) (w.heap.size+1) 0 []):=hm0
 have HB0:Hid (Below w.heap.size w ((w.alloc (.cells #[.slice a X.length c,.int .i64 r] 24)).alloc (.map #[] 0))):=((Below.refl w.heap.size w).alloc (Nat.le_refl _) _).alloc (by simp) _
 have hn:=hX.1
 clear h hX hm0
 go_enter Tryz.func109,Tryz.ntmps109
 go_wp2_with fail
 go_loopw [4,13] (fun nv iv wr=>∃(i n:Nat) (L:List ByteArray),iv=.int .i64 i∧nv=.int .i64 n∧i≤X.length∧Hid (L=itn (allT (X.take i)))∧Hid (n=sum6 L)∧Hid (MetT wr (w.heap.size+1) L.length L)∧Hid (Below w.heap.size w wr)) (fun _ iv _=>X.length-(intOf iv).toNat)
 case atStart=>exact ⟨0,0,[],rfl,rfl,by omega,by simp [Hid,itn,allT],rfl,HM0,HB0⟩
 case round=>
  clear HM0 HB0
  obtain ⟨i,n,L,rfl,rfl,hi,HL,HN,HM,HB⟩:=hrel
  by_cases hlt:i<X.length
  ·have hlt':(i:Int)<X.length:=by omega
   obtain ⟨b,o,rfl,hbl,d0,d1,d2,d3⟩:=(ScAt.belowB HS.out.1 HB.out).node hlt
   have HT:Hid (∀W,Below w.heap.size w W→LsAt W (X.getD i noNx).a2 (tV (X.getD i noNx).nd.texts)):=fun W hW=>((ScAt.belowB HS.out.1 hW).each i hlt).t
   have HZ:Hid (∀k,(upT X i k).length≤140100∧∀s ∈ upT X i k,s.size≤3000):=fun k=>upT_small X HS.out.2 i k hlt
   have HU0:Hid (L=itn (upT X i 0)):=by show _=_;rw [upT_zero];exact HL.out
   have HU1:Hid (∀k,k<(X.getD i noNx).nd.texts.length→upT X i (k+1)=upT X i k++[(X.getD i noNx).nd.texts.getD k noT]):=fun k hk=>upT_next X i k hk
   have HU2:Hid (itn (upT X i (X.getD i noNx).nd.texts.length)=itn (allT (X.take (i+1)))):=by show _=_;rw [upT_full X i hlt]
   have hng:=(big_no (HS.out.2.2 i hlt)).2.1
   generalize upT X i=U at *
   generalize X.getD i noNx=N at *
   obtain ⟨⟨kd,I,T,K⟩,a1,c1,a2,c2,a3,c3⟩:=N
   dsimp only at *
   clear HL
   go_wp2_with fail
   go_loopw [4,20] (fun nv kv wr=>∃(k n:Nat) (L:List ByteArray),kv=.int .i64 k∧nv=.int .i64 n∧k≤T.length∧Hid (L=itn (U k))∧Hid (n=sum6 L)∧Hid (MetT wr (w.heap.size+1) L.length L)∧Hid (Below w.heap.size w wr)) (fun _ kv _=>T.length-(intOf kv).toNat)
   case atStart=>
    refine ⟨0,n,L,rfl,rfl,by omega,HU0,HN,?_,?_⟩
    ·exact HM.out.below ((Below.refl _ _).alloc (Nat.le_refl _) _)
    ·exact Below.alloc HB.out HB.out.size _
   case round=>
    clear HU0 HN HM HB d0 d1 d2 d3
    obtain ⟨k,n,L,rfl,rfl,hk,HL,HN,HM,HB⟩:=hrel
    by_cases hkl:k<T.length
    ·have hkl':(k:Int)<T.length:=by omega
     obtain ⟨g2,o2,rfl,hb2,e2⟩:=(HT.out _ HB.out).at (tV_at T k hkl)
     have HL1:Hid (itn (U (k+1))=pIntern L (T.getD k noT)):=by show _=_;rw [HU1.out k hkl,itn_snoc,← HL.out]
     have hsz:(T.getD k noT).size≤3000:=(HZ.out (k+1)).2 _ (by rw [HU1.out k hkl];simp)
     have hle:=itn_sum (U (k+1)) (HZ.out (k+1)).1 (HZ.out (k+1)).2
     have hle0:=itn_sum (U k) (HZ.out k).1 (HZ.out k).2
     rw [← HL.out] at hle0
     rw [HL1.out] at hle
     clear HU1 HL HZ
     generalize T.getD k noT=s at *
     have hlk:=MetT.look HM.out s (by unfold maxLen;omega)
     by_cases hin:idx6 s L<L.length
     ·have hp:pIntern L s=L:=by unfold pIntern;rw [if_pos hin]
      rw [hp] at HL1
      rw [show inT s L=true from decide_eq_true hin] at hlk
      clear hle hle0 hp hin
      go_wp2_with fail
      go_roundw
      case rel=>exact ⟨k+1,n,L,by go_num,rfl,by omega,HL1.out.symm,HN,HM,HB⟩
      case measure=>simp [intOf];omega
     ·have hp:pIntern L s=L++[s]:=by unfold pIntern;rw [if_neg hin]
      rw [hp] at HL1 hle
      rw [show inT s L=false from decide_eq_false hin] at hlk
      obtain ⟨w2,hput,hmet,hgr⟩:=MetT.put HM.out s (by unfold maxLen;omega) (by unfold maxLen;omega)
      have HN1:Hid (n+s.size=sum6 (L++[s])):=by show _=_;rw [sum6_append,← HN.out];simp [sum6]
      have hb':(n:Int)+s.size≤420300000:=by have:=hle.1;rw [← HN1.out] at this;omega
      have HM2:Hid (MetT w2 (w.heap.size+1) (L++[s]).length (L++[s])):=by rw [List.length_append];exact hmet
      have HB2:Hid (Below w.heap.size w w2):=Below.grown HB.out hgr HB.out.size (fun q hq=>by cases hq;omega)
      clear hle hle0 hp hin hmet hgr HM HB
      go_wp2_with fail
      go_roundw
      case rel=>exact ⟨k+1,n+s.size,L++[s],by go_num,by go_num,by omega,HL1.out.symm,HN1,HM2,HB2⟩
      case measure=>simp [intOf];omega
    ·have hkl':¬(k:Int)<T.length:=by omega
     obtain rfl:k=T.length:=by omega
     have HL1:Hid (L=itn (allT (X.take (i+1)))):=by show _=_;rw [HL.out,HU2.out]
     clear HL HU1 HU2 HZ HT
     go_wp2_with fail
     go_roundw
     case rel=>exact ⟨i+1,n,L,by go_num,rfl,by omega,HL1,HN,HM,HB⟩
     case measure=>simp [intOf];omega
  ·have hlt':¬(i:Int)<X.length:=by omega
   have HQ:Hid (txb X=n):=by
    show _=_
    rw [HN.out,HL.out,List.take_of_length_le (by omega)]
    rfl
   clear HL HN HM
   go_wp2_with fail
   go_ret
   rw [HQ.out]
   exact ⟨rfl,HB.out⟩
end Go.Proofs.YtgoffkfpdigeeaaGreatDoor
namespace Go.Proofs.YtgoffkfpdigeeaaGreatDoor
open Go.RowKit Go.Maps Go.WideMaps Go.Sort
set_option maxRecDepth 10000 in
set_option maxHeartbeats 1000000 in
theorem rtexts_any (X:List Nx) (a:Option Addr) (c:Nat) (r:Int) (w:World) (h:ScAt w a X) (hX:Small X) :
  Calls Tryz.prog 47 #[.agg #[.slice a X.length c,.int .i64 r]] w fun e w'=>TxOut (itn (allT X)) w w' e:=by
 have HS:Hid (ScAt w a X∧Small X):=⟨h,hX⟩
 have HA0:Hid (AtN 24 ((w.alloc (.cells #[.slice a X.length c,.int .i64 r] 24)).alloc (.cells #[] 9)) w.heap.size #[.slice a X.length c,.int .i64 r]):=(AtN.new w 24 _).alloc _
 have HB0:Hid (Below w.heap.size w ((w.alloc (.cells #[.slice a X.length c,.int .i64 r] 24)).alloc (.cells #[] 9))):=((Below.refl w.heap.size w).alloc (Nat.le_refl _) _).alloc (by simp) _
 have hn:=hX.1
 clear h hX
 go_enter Tryz.func47,Tryz.ntmps47
 go_wp2_with fail
 go_loopw [3,4] (fun sv iv wr=>∃(i:Nat) (L:List ByteArray) (y:Option Addr) (cap b o:Nat),iv=.int .i64 i∧sv=.slice y L.length cap∧i≤X.length∧Hid (L=itn (allT (X.take i)))∧Hid (TxI wr y cap b o L)∧Hid (AtN 24 wr w.heap.size #[.slice a X.length c,.int .i64 r])∧Hid (Below w.heap.size w wr)) (fun _ iv _=>X.length-(intOf iv).toNat)
 case atStart=>exact ⟨0,[],_,_,0,0,rfl,rfl,by omega,by simp [Hid,itn,allT],⟨fun q=>by simp at q,fun i hi=>by simp at hi,by simp,fun q=>by simp at q⟩,HA0,HB0⟩
 case round=>
  clear HA0 HB0
  obtain ⟨i,L,y,cap,bt,ot,rfl,rfl,hi,HL,HX,HA,HB⟩:=hrel
  have x0:wr.cell? ⟨w.heap.size,0,none⟩=some (.slice a X.length c):=HA.out.cell 0
  by_cases hlt:i<X.length
  ·have hlt':(i:Int)<X.length:=by omega
   have HE:Hid (∀W,Below w.heap.size w W→∃b o,a=some ⟨b,o,none⟩∧b<w.heap.size∧W.cell? ⟨b,o+i*4+2,none⟩=some (.slice (X.getD i noNx).a2 (X.getD i noNx).nd.texts.length (X.getD i noNx).c2)∧LsAt W (X.getD i noNx).a2 (tV (X.getD i noNx).nd.texts)):=fun W hW=>by
    obtain ⟨b,o,e,hb,_⟩:=HS.out.1.node hlt
    have hs:=HS.out.1.belowB hW
    obtain ⟨b',o',e',_,_,_,d,_⟩:=hs.node hlt
    rw [e] at e'
    cases e'
    exact ⟨b,o,e,hb,d,(hs.each i hlt).t⟩
   have HZ:Hid (∀k,(upT X i k).length≤140100∧∀s ∈ upT X i k,s.size≤3000):=fun k=>upT_small X HS.out.2 i k hlt
   have HU0:Hid (L=itn (upT X i 0)):=by show _=_;rw [upT_zero];exact HL.out
   have HU1:Hid (∀k,k<(X.getD i noNx).nd.texts.length→upT X i (k+1)=upT X i k++[(X.getD i noNx).nd.texts.getD k noT]):=fun k hk=>upT_next X i k hk
   have HU2:Hid (itn (upT X i (X.getD i noNx).nd.texts.length)=itn (allT (X.take (i+1)))):=by show _=_;rw [upT_full X i hlt]
   have hng:=(big_no (HS.out.2.2 i hlt)).2.1
   generalize upT X i=U at *
   generalize X.getD i noNx=N at *
   obtain ⟨⟨kd,I,T,K⟩,a1,c1,a2,c2,a3,c3⟩:=N
   dsimp only at *
   clear HL
   go_wp2_with fail
   go_loopw [3,5] (fun sv kv wr=>∃(k:Nat) (L:List ByteArray) (y:Option Addr) (cap b o:Nat),kv=.int .i64 k∧sv=.slice y L.length cap∧k≤T.length∧Hid (L=itn (U k))∧Hid (TxI wr y cap b o L)∧Hid (AtN 24 wr w.heap.size #[.slice a X.length c,.int .i64 r])∧Hid (Below w.heap.size w wr)) (fun _ kv _=>T.length-(intOf kv).toNat)
   case atStart=>exact ⟨0,L,y,cap,bt,ot,rfl,rfl,by omega,HU0,HX,HA,HB⟩
   case round=>
    clear HU0 HX HA HB x0
    obtain ⟨k,L,y,cap,bt,ot,rfl,rfl,hk,HL,HX,HA,HB⟩:=hrel
    have x0:wr.cell? ⟨w.heap.size,0,none⟩=some (.slice a X.length c):=HA.out.cell 0
    obtain ⟨b,o,rfl,hbl,d2,hl2⟩:=HE.out wr HB.out
    by_cases hkl:k<T.length
    ·have hkl':(k:Int)<T.length:=by omega
     obtain ⟨g2,o2,e2,hb2,d4⟩:=hl2.at (tV_at T k hkl)
     rw [e2] at d2
     have HL1:Hid (itn (U (k+1))=pIntern L (T.getD k noT)):=by show _=_;rw [HU1.out k hkl,itn_snoc,← HL.out]
     have hle0:=(itn_sum (U k) (HZ.out k).1 (HZ.out k).2).2
     rw [← HL.out] at hle0
     have HI:Hid (Calls Tryz.prog 93 #[.slice y L.length cap,.string (T.getD k noT)] wr fun e w'=>TGot wr w' e (pIntern L (T.getD k noT)) (idx6 (T.getD k noT) L:Nat)):=
      intern6_any y cap bt ot L (T.getD k noT) wr HX.out.ptr HX.out.at_ HX.out.cap_ HX.out.nil (by omega)
     clear HU1 HL HZ HX hl2
     generalize idx6 (T.getD k noT) L=ix at *
     generalize pIntern L (T.getD k noT)=M at *
     generalize T.getD k noT=s at *
     go_wp2_with fail
     refine Calls.mono HI.out ?_
     rintro e w1 ⟨y1,cap1,b1,o1,rfl,q1,q2,q3,q4,hb1⟩
     have HX1:Hid (TxI w1 y1 cap1 b1 o1 M):=⟨q1,q2,q3,q4⟩
     have HA1:Hid (AtN 24 w1 w.heap.size #[.slice (some ⟨b,o,none⟩) X.length c,.int .i64 r]):=AtN.belowAll HA.out hb1
     have HB1:Hid (Below w.heap.size w w1):=HB.out.trans (hb1.mono HB.out.size)
     clear HI q1 q2 q3 q4 hb1 HA HB d2 d4 x0
     go_wp2_with fail
     go_roundw
     case rel=>exact ⟨k+1,M,y1,cap1,b1,o1,by go_num,rfl,by omega,HL1.out.symm,HX1,HA1,HB1⟩
     case measure=>simp [intOf];omega
    ·have hkl':¬(k:Int)<T.length:=by omega
     obtain rfl:k=T.length:=by omega
     have HL1:Hid (L=itn (allT (X.take (i+1)))):=by show _=_;rw [HL.out,HU2.out]
     clear HL HU1 HU2 HZ HE hl2
     go_wp2_with fail
     go_roundw
     case rel=>exact ⟨i+1,L,y,cap,bt,ot,by go_num,rfl,by omega,HL1,HX,HA,HB⟩
     case measure=>simp [intOf];omega
  ·have hlt':¬(i:Int)<X.length:=by omega
   have HQ:Hid (itn (allT X)=L):=by
    show _=_
    rw [HL.out,List.take_of_length_le (by omega)]
   clear HL HA
   go_wp2_with fail
   go_ret
   rw [HQ.out]
   exact ⟨y,cap,bt,ot,rfl,HX.out,HB.out⟩
end Go.Proofs.YtgoffkfpdigeeaaGreatDoor
namespace Go.Proofs.YtgoffkfpdigeeaaGreatDoor
open Go.RowKit Go.Maps Go.WideMaps Go.Sort
def htF (K:List (List Nat)):Nat→Nat→Nat
 | 0,_=>0
 | n+1,a=>fold1 (htF K n) (K.getD a [])+1
theorem htF_le {K:List (List Nat)} {rk:Nat→Nat} (hR:Rank K rk) (hk:Ok9 K):∀n a,a<K.length→htF K n a≤rk a
 | 0,_,_=>Nat.zero_le _
 | n+1,a,ha=>by
  unfold htF
  have h1:fold1 (htF K n) (K.getD a [])≤rk a-1:=fold1_le _ _ _ (fun k e=>by
   have h2:=htF_le hR hk n k (hk a k e)
   have h3:=hR.1 a k e
   omega)
  have:=(hR.2 a ha).1
  omega
theorem htF_same {K:List (List Nat)} {rk:Nat→Nat} (hR:Rank K rk) (hk:Ok9 K):∀n m a,a<K.length→rk a≤n→rk a≤m→htF K n a=htF K m a
 | 0,m,a,ha,h1,_=>by have:=(hR.2 a ha).1;omega
 | n+1,0,a,ha,_,h2=>by have:=(hR.2 a ha).1;omega
 | n+1,m+1,a,ha,h1,h2=>by
  unfold htF
  rw [fold1_congr _ (fun k e=>htF_same hR hk n m k (hk a k e) (by have:=hR.1 a k e;omega) (by have:=hR.1 a k e;omega))]
theorem depth_there (X:List Nx) (r:Int):∃d,DepthIs X r d:=by
 by_cases h:RightIs X r
 ·have hD:Dag (kX X):=⟨kX_ok h.2.1,h.2.2.1⟩
  obtain ⟨rk,hR⟩:=hD.rank
  refine ⟨htF (kX X) (kX X).length r.toNat,fun q=>absurd h q,fun _=>⟨htF (kX X) (kX X).length,fun a ha=>?_,rfl,fun x hx=>?_⟩⟩
  ·have hra:=(hR.2 a ha).2
   rw [htF_same hR hD.1 (kX X).length ((kX X).length+1) a ha hra (by omega)]
   rfl
  ·have hx':x<(kX X).length:=by rw [kX_length];exact hx
   have h1:=htF_le hR hD.1 (kX X).length x hx'
   have h2:=hR.2 x hx'
   rw [kX_length] at h1 h2 ⊢
   refine ⟨?_,by omega⟩
   have:1≤X.length:=by omega
   obtain ⟨n,hn⟩:∃n,X.length=n+1:=⟨X.length-1,by omega⟩
   rw [hn]
   unfold htF
   omega
 ·exact ⟨0,fun _=>rfl,fun q=>absurd q h⟩
theorem DepthIs.only {X:List Nx} {r:Int} {d d':Nat} (h:DepthIs X r d) (h':DepthIs X r d'):d'=d:=by
 by_cases hR:RightIs X r
 ·obtain ⟨f,h1,rfl,_⟩:=h.2 hR
  obtain ⟨g,h2,rfl,_⟩:=h'.2 hR
  refine HtIs.uniq h2 h1 (kX_ok hR.2.1) _ _ rfl ?_
  have:=isPb_iff.1 hR.1
  rw [kX_length]
  omega
 ·rw [h.1 hR,h'.1 hR]
def meL (X:List Nx) (d:Nat):Lm:=⟨0,X.length,edg X,d,txb X⟩
def meC (X:List Nx) (d:Nat):Array Value:=#[.int .i64 0,.int .i64 X.length,.int .i64 (edg X:Nat),.int .i64 (d:Nat),.int .i64 (txb X:Nat)]
theorem at_set5 {T:TypeId} {W:World} {g:Nat} {x0 x1 x2 x3 x4:Value} (h:AtN T W g #[x0,x1,x2,x3,x4]) (v0 v1 v2 v3 v4:Value):AtN T (((((W.setCell ⟨g,0,none⟩ v0).setCell ⟨g,1,none⟩ v1).setCell ⟨g,2,none⟩ v2).setCell ⟨g,3,none⟩ v3).setCell ⟨g,4,none⟩ v4) g #[v0,v1,v2,v3,v4]:=by
 simpa using ((((h.set 0 v0).set 1 v1).set 2 v2).set 3 v3).set 4 v4
def meF (X:List Nx) (a:Option Addr) (c:Nat) (r:Int) (d bx:Nat):Nat→Value→World→Prop
 | 0,v,_=>v=.pointer (some ⟨bx,0,none⟩)
 | 1,v,_=>v=.slice a X.length c
 | 2,v,_=>v=.int .i64 X.length
 | 3,v,_=>v=.agg #[.slice a X.length c,.int .i64 r]
 | 4,v,_=>v=.int .i64 (edg X:Nat)
 | 5,v,_=>v=.agg #[.slice a X.length c,.int .i64 r]
 | 6,v,_=>v=.int .i64 (d:Nat)
 | 7,v,_=>v=.agg #[.slice a X.length c,.int .i64 r]
 | 8,v,_=>v=.int .i64 (txb X:Nat)
 | 9,v,_=>v=.agg (meC X d)
 | 10,_,W=>AtN 26 W (bx+1) (meC X d)
 | _,_,_=>True
theorem meF_stab (X:List Nx) (a:Option Addr) (c:Nat) (r:Int) (d bx:Nat):∀i j v w w',i≠j→World.grownBy w w' (if i=10 then some (bx+1) else none)→meF X a c r d bx j v w→meF X a c r d bx j v w':=by
 intro i j v w w' hne hg h
 match j,h with
 | 0,h|1,h|2,h|3,h|4,h|5,h|6,h|7,h|8,h|9,h=>exact h
 | 10,h=>
  rw [if_neg hne] at hg
  exact AtN.kept h hg (by simp)
 | n+11,_=>trivial
set_option maxRecDepth 10000 in
set_option maxHeartbeats 1000000 in
theorem measure_any (X:List Nx) (a:Option Addr) (c:Nat) (r:Int) (d:Nat) (w:World) (h:ScAt w a X) (hX:Small X) (hd:DepthIs X r d) :
  Calls Tryz.prog 58 #[.agg #[.slice a X.length c,.int .i64 r]] w fun e w'=>e=.returned (.agg (meC X d))∧Below w.heap.size w w':=by
 have HE:Hid (∀W,Below w.heap.size w W→Calls Tryz.prog 107 #[.agg #[.slice a X.length c,.int .i64 r]] W fun e w'=>e=.returned (.int .i64 (edg X:Nat))∧Below W.heap.size W w'):=fun W hW=>edges_any X a c r W (h.belowB hW) hX
 have HD:Hid (∀W,Below w.heap.size w W→Calls Tryz.prog 108 #[.agg #[.slice a X.length c,.int .i64 r]] W fun e w'=>e=.returned (.int .i64 (d:Nat))∧Below W.heap.size W w'):=fun W hW=>by
  refine Calls.mono (depth_any X a c r W (h.belowB hW) hX) ?_
  rintro e w' ⟨d',rfl,hd',hb⟩
  rw [hd.only hd']
  exact ⟨rfl,hb⟩
 have HT:Hid (∀W,Below w.heap.size w W→Calls Tryz.prog 109 #[.agg #[.slice a X.length c,.int .i64 r]] W fun e w'=>e=.returned (.int .i64 (txb X:Nat))∧Below W.heap.size W w'):=fun W hW=>textbytes_any X a c r W (h.belowB hW) hX
 clear h hX hd
 go_enter Tryz.func58,Tryz.ntmps58
 go_wp2_with fail
 refine facts_region (some (w.heap.size+1)) 10 (meF X a c r d w.heap.size) (by kernel_rfl) (by kernel_rfl) (meF_stab X a c r d w.heap.size) ?step ?fin
 case step=>
  intro i o ho act W hg hstill hoff hdep K hK
  have t1:act.tmps[1]?.getD undef=.pointer (some ⟨w.heap.size,0,none⟩):=hoff 1 (by kernel_rfl)
  have t2:act.tmps[2]?.getD undef=.pointer (some ⟨w.heap.size+1,0,none⟩):=hoff 2 (by kernel_rfl)
  have B0:Below w.heap.size w W:=(((Below.refl w.heap.size w).alloc (Nat.le_refl _) _).alloc (by simp) _).grown hg (by simp;omega) (fun k hk=>by cases hk;omega)
  have A0:AtN 24 W w.heap.size #[.slice a X.length c,.int .i64 r]:=((AtN.new w 24 _).alloc _).kept hg (by simp)
  have A1:i=10→AtN 26 W (w.heap.size+1) #[.int .i64 0,.int .i64 0,.int .i64 0,.int .i64 0,.int .i64 0]:=fun e=>mk_at ((AtN.new (w.alloc _) 26 _).kept (hstill e) (by simp)) (by simp)
  have x0:W.cell? ⟨w.heap.size,0,none⟩=some (.slice a X.length c):=A0.cell 0
  have x1:W.cell? ⟨w.heap.size,1,none⟩=some (.int .i64 r):=A0.cell 1
  have HE1:=HE.out W B0
  have HD1:=HD.out W B0
  have HT1:=HT.out W B0
  clear A0 B0 hg hoff hstill HE HD HT
  have HE:Hid _:=HE1
  have HD:Hid _:=HD1
  have HT:Hid _:=HT1
  clear HE1 HD1 HT1
  rcases i with _|_|_|_|_|_|_|_|_|_|_|i
  ·obtain rfl:=Option.some.inj ho
   clear hdep A1 HE HD HT
   go_simp
   exact hK _ _ (grown_refl _ _) rfl
  ·obtain rfl:=Option.some.inj ho
   have e0:act.tmps[3]?.getD undef=.pointer (some ⟨w.heap.size,0,none⟩):=hdep 0 _ (by kernel_rfl) rfl
   clear hdep A1 HE HD HT
   go_simp
   exact hK _ _ (grown_refl _ _) rfl
  ·obtain rfl:=Option.some.inj ho
   have e1:act.tmps[4]?.getD undef=.slice a X.length c:=hdep 1 _ (by kernel_rfl) rfl
   clear hdep A1 HE HD HT
   go_simp
   exact hK _ _ (grown_refl _ _) rfl
  ·obtain rfl:=Option.some.inj ho
   clear hdep A1 HE HD HT
   go_simp
   exact hK _ _ (grown_refl _ _) rfl
  ·obtain rfl:=Option.some.inj ho
   have e3:act.tmps[6]?.getD undef=.agg #[.slice a X.length c,.int .i64 r]:=hdep 3 _ (by kernel_rfl) rfl
   clear hdep A1 HD HT
   go_simp
   refine Calls.mono (Hid.out HE) ?_
   rintro e w' ⟨rfl,hb⟩
   exact hK _ _ (grown_of_below hb _) rfl
  ·obtain rfl:=Option.some.inj ho
   clear hdep A1 HE HD HT
   go_simp
   exact hK _ _ (grown_refl _ _) rfl
  ·obtain rfl:=Option.some.inj ho
   have e5:act.tmps[8]?.getD undef=.agg #[.slice a X.length c,.int .i64 r]:=hdep 5 _ (by kernel_rfl) rfl
   clear hdep A1 HE HT
   go_simp
   refine Calls.mono (Hid.out HD) ?_
   rintro e w' ⟨rfl,hb⟩
   exact hK _ _ (grown_of_below hb _) rfl
  ·obtain rfl:=Option.some.inj ho
   clear hdep A1 HE HD HT
   go_simp
   exact hK _ _ (grown_refl _ _) rfl
  ·obtain rfl:=Option.some.inj ho
   have e7:act.tmps[10]?.getD undef=.agg #[.slice a X.length c,.int .i64 r]:=hdep 7 _ (by kernel_rfl) rfl
   clear hdep A1 HE HD
   go_simp
   refine Calls.mono (Hid.out HT) ?_
   rintro e w' ⟨rfl,hb⟩
   exact hK _ _ (grown_of_below hb _) rfl
  ·obtain rfl:=Option.some.inj ho
   have e2:act.tmps[5]?.getD undef=.int .i64 X.length:=hdep 2 _ (by kernel_rfl) rfl
   have e4:act.tmps[7]?.getD undef=.int .i64 (edg X:Nat):=hdep 4 _ (by kernel_rfl) rfl
   have e6:act.tmps[9]?.getD undef=.int .i64 (d:Nat):=hdep 6 _ (by kernel_rfl) rfl
   have e8:act.tmps[11]?.getD undef=.int .i64 (txb X:Nat):=hdep 8 _ (by kernel_rfl) rfl
   clear hdep A1 HE HD HT
   go_simp
   exact hK _ _ (grown_refl _ _) rfl
  ·obtain rfl:=Option.some.inj ho
   have e9:act.tmps[12]?.getD undef=.agg (meC X d):=hdep 9 _ (by kernel_rfl) rfl
   have A:=A1 rfl
   have y0:W.cell? ⟨w.heap.size+1,0,none⟩=some (.int .i64 0):=A.cell 0
   have y1:W.cell? ⟨w.heap.size+1,1,none⟩=some (.int .i64 0):=A.cell 1
   have y2:W.cell? ⟨w.heap.size+1,2,none⟩=some (.int .i64 0):=A.cell 2
   have y3:W.cell? ⟨w.heap.size+1,3,none⟩=some (.int .i64 0):=A.cell 3
   have y4:W.cell? ⟨w.heap.size+1,4,none⟩=some (.int .i64 0):=A.cell 4
   have f0:=A.fz 0
   have f1:=A.fz 1
   have f2:=A.fz 2
   have f3:=A.fz 3
   have f4:=A.fz 4
   have HA:Hid (AtN 26 W (w.heap.size+1) #[.int .i64 0,.int .i64 0,.int .i64 0,.int .i64 0,.int .i64 0]):=A
   clear A
   unfold meC at e9
   clear hdep A1 HE HD HT
   go_simp
   exact hK undef _ (grown_set (grown_set (grown_set (grown_set (grown_set (grown_refl W _) 0 _) 1 _) 2 _) 3 _) 4 _) (at_set5 HA.out _ _ _ _ _)
  ·exact absurd ho (by simp)
 case fin=>
  intro V W hg hF
  have A:AtN 26 W (w.heap.size+1) (meC X d):=hF 10 _ rfl
  have B0:Below w.heap.size w W:=(((Below.refl w.heap.size w).alloc (Nat.le_refl _) _).alloc (by simp) _).grown hg (by simp;omega) (fun k hk=>by cases hk;omega)
  have HB:Hid (Below w.heap.size w W):=B0
  clear hF hg HE HD HT B0
  have y0:W.cell? ⟨w.heap.size+1,0,none⟩=some (.int .i64 0):=A.cell 0
  have y1:W.cell? ⟨w.heap.size+1,1,none⟩=some (.int .i64 X.length):=A.cell 1
  have y2:W.cell? ⟨w.heap.size+1,2,none⟩=some (.int .i64 (edg X:Nat)):=A.cell 2
  have y3:W.cell? ⟨w.heap.size+1,3,none⟩=some (.int .i64 (d:Nat)):=A.cell 3
  have y4:W.cell? ⟨w.heap.size+1,4,none⟩=some (.int .i64 (txb X:Nat)):=A.cell 4
  clear A
  simp only [fillA,Act.put,List.setIfInBounds_toArray,List.set_cons_zero,List.set_cons_succ]
  go_wp2_with fail
  exact bodyPost_ret (v:=.agg #[.int .i64 0,.int .i64 X.length,.int .i64 (edg X:Nat),.int .i64 (d:Nat),.int .i64 (txb X:Nat)]) (by simp [results,Tryz.results58,go_sem, *]) rfl ⟨rfl,HB.out⟩
def me0C (X:List Nx):Array Value:=#[.int .i64 0,.int .i64 X.length,.int .i64 (edg X:Nat),.int .i64 0,.int .i64 (txb X:Nat)]
theorem tx_set {w:World} {y:Option Addr} {cap b o g:Nat} {L:List ByteArray} {T:TypeId} {cs:Array Value} (h:TxI w y cap b o L) (hg:AtN T w g cs) (hc:∀(i:Nat) (v:Value),cs[i]? = some v→∃z,v=.int .i64 z) (k:Nat) (x:Value):TxI (w.setCell ⟨g,k,none⟩ x) y cap b o L:=by
 refine ⟨h.ptr,fun i hi=>?_,h.cap_,h.nil⟩
 obtain ⟨h1,h2⟩:=h.at_ i hi
 have hne:b≠g:=fun e=>by
  subst e
  rw [hg.cell] at h2
  obtain ⟨z,hz⟩:=hc _ _ h2
  cases hz
 exact ⟨by simpa [World.setCell] using h1,(World.cell?_of_block (Below.heap_setCell _ _ _ _ hne)).trans h2⟩
def rmF (X:List Nx) (a:Option Addr) (c:Nat) (r:Int) (bx B:Nat):Nat→(Option Tmp→Value)→World→Prop
 | 0,V,_=>V (some 4)=.pointer (some ⟨bx,0,none⟩)
 | 1,V,_=>V (some 5)=.slice a X.length c
 | 2,V,_=>V (some 6)=.int .i64 X.length
 | 3,V,_=>V (some 7)=.agg #[.slice a X.length c,.int .i64 r]
 | 4,V,_=>V (some 8)=.int .i64 (edg X:Nat)
 | 5,V,_=>V (some 9)=.agg #[.slice a X.length c,.int .i64 r]
 | 6,V,W=>∃y cap b o,V (some 10)=.slice y (itn (allT X)).length cap∧TxI W y cap b o (itn (allT X))
 | 7,V,_=>V (some 11)=.int .i64 (txb X:Nat)
 | 8,V,_=>V (some 12)=.agg (me0C X)
 | 9,V,W=>∃g,V (some 3)=.pointer (some ⟨g,0,none⟩)∧B≤g∧∃x0 x1 x2 x3 x4:Int,AtN 26 W g #[.int .i64 x0,.int .i64 x1,.int .i64 x2,.int .i64 x3,.int .i64 x4]
 | 10,V,W=>∃g,V (some 3)=.pointer (some ⟨g,0,none⟩)∧B≤g∧AtN 26 W g (me0C X)
 | _,_,_=>True
theorem rmF_below (X:List Nx) (a:Option Addr) (c:Nat) (r:Int) (bx B:Nat) (w w':World) (hb:Below w.heap.size w w'):∀j V,rmF X a c r bx B j V w→rmF X a c r bx B j V w':=by
 intro j V h
 match j,h with
 | 0,h|1,h|2,h|3,h|4,h|5,h|7,h|8,h=>exact h
 | 6,h=>
  obtain ⟨y,cap,b,o,h1,h2⟩:=h
  exact ⟨y,cap,b,o,h1,h2.below hb⟩
 | 9,h=>
  obtain ⟨g,h1,h2,x0,x1,x2,x3,x4,h3⟩:=h
  exact ⟨g,h1,h2,x0,x1,x2,x3,x4,h3.belowAll hb⟩
 | 10,h=>
  obtain ⟨g,h1,h2,h3⟩:=h
  exact ⟨g,h1,h2,h3.belowAll hb⟩
 | n+11,_=>trivial
theorem ints5 {x0 x1 x2 x3 x4:Int} (i:Nat) (v:Value) (h:(#[.int .i64 x0,.int .i64 x1,.int .i64 x2,.int .i64 x3,.int .i64 x4]:Array Value)[i]? = some v):∃z,v=.int .i64 z:=by
 rcases i with _|_|_|_|_|i <;> simp at h <;> exact ⟨_,h.symm⟩
theorem rmF_set (X:List Nx) (a:Option Addr) (c:Nat) (r:Int) (bx B g k:Nat) (w:World) (z:Int) {x0 x1 x2 x3 x4:Int} (hg:AtN 26 w g #[.int .i64 x0,.int .i64 x1,.int .i64 x2,.int .i64 x3,.int .i64 x4]) (hk:k<5):∀j V,j≠10→rmF X a c r bx B j V w→rmF X a c r bx B j V (w.setCell ⟨g,k,none⟩ (.int .i64 z)):=by
 intro j V hj h
 match j,h with
 | 0,h|1,h|2,h|3,h|4,h|5,h|7,h|8,h=>exact h
 | 6,h=>
  obtain ⟨y,cap,b,o,h1,h2⟩:=h
  exact ⟨y,cap,b,o,h1,tx_set h2 hg ints5 k _⟩
 | 9,h=>
  obtain ⟨g',h1,h2,y0,y1,y2,y3,y4,h3⟩:=h
  by_cases e:g'=g
  ·subst e
   have h4:=hg.set k (.int .i64 z)
   rcases (by omega:k=0∨k=1∨k=2∨k=3∨k=4) with rfl|rfl|rfl|rfl|rfl
   ·exact ⟨g',h1,h2,z,x1,x2,x3,x4,h4⟩
   ·exact ⟨g',h1,h2,x0,z,x2,x3,x4,h4⟩
   ·exact ⟨g',h1,h2,x0,x1,z,x3,x4,h4⟩
   ·exact ⟨g',h1,h2,x0,x1,x2,z,x4,h4⟩
   ·exact ⟨g',h1,h2,x0,x1,x2,x3,z,h4⟩
  ·exact ⟨g',h1,h2,y0,y1,y2,y3,y4,h3.setOther _ (fun q=>e q.symm) _⟩
 | 10,_=>exact absurd rfl hj
 | n+11,_=>trivial
theorem at_ne {T T':TypeId} {w:World} {g g':Nat} {cs cs':Array Value} (h:AtN T w g cs) (h':AtN T' w g' cs') (ht:T≠T'):g≠g':=by
 rintro rfl
 have h1:w.heap[g]? = _:=h
 have h2:w.heap[g]? = _:=h'
 rw [h2] at h1
 injection h1 with h1
 injection h1 with _ h1
 exact ht h1.symm
def rdF (X:List Nx) (a:Option Addr) (c rn d bx g:Nat):Nat→Value→World→Prop
 | 0,v,_=>v=.agg #[.slice a X.length c,.int .i64 (rn:Int)]
 | 1,v,W=>∃g2 out,v=.slice (some ⟨g2,0,none⟩) X.length X.length∧AtN 3 W g2 (fnV X.length out)∧out rn=d
 | 2,v,_=>v=.pointer (some ⟨bx,1,none⟩)
 | 3,v,_=>v=.int .i64 (rn:Int)
 | 4,v,W=>∃g2,v=.pointer (some ⟨g2,rn,none⟩)∧g2<W.heap.size∧W.cell? ⟨g2,rn,none⟩=some (.int .i64 (d:Int))∧g2≠g
 | 5,v,_=>v=.int .i64 (d:Int)
 | 6,v,_=>v=.pointer (some ⟨g,3,none⟩)
 | 7,_,W=>AtN 26 W g (meC X d)
 | _,_,_=>True
theorem rdF_below (X:List Nx) (a:Option Addr) (c rn d bx g:Nat) (w w':World) (hb:Below w.heap.size w w'):∀j v,rdF X a c rn d bx g j v w→rdF X a c rn d bx g j v w':=by
 intro j v h
 match j,h with
 | 0,h|2,h|3,h|5,h|6,h=>exact h
 | 1,h=>
  obtain ⟨g2,out,h1,h2,h3⟩:=h
  exact ⟨g2,out,h1,h2.belowAll hb,h3⟩
 | 4,h=>
  obtain ⟨g2,h1,h2,h3,h4⟩:=h
  exact ⟨g2,h1,Nat.lt_of_lt_of_le h2 hb.size,(hb.cell (p:=⟨g2,rn,none⟩) h2).trans h3,h4⟩
 | 7,h=>exact AtN.belowAll h hb
 | n+8,_=>trivial
theorem rdF_set (X:List Nx) (a:Option Addr) (c rn d bx g:Nat) (w:World) (k:Nat) (x:Value) (hg:AtN 26 w g (me0C X)∨AtN 26 w g (meC X d)):∀j v,j≠7→rdF X a c rn d bx g j v w→rdF X a c rn d bx g j v (w.setCell ⟨g,k,none⟩ x):=by
 intro j v hj h
 match j,h with
 | 0,h|2,h|3,h|5,h|6,h=>exact h
 | 1,h=>
  obtain ⟨g2,out,h1,h2,h3⟩:=h
  have hne:g2≠g:=hg.elim (fun q=>at_ne h2 q (by decide)) (fun q=>at_ne h2 q (by decide))
  exact ⟨g2,out,h1,h2.setOther _ (fun e=>hne e.symm) _,h3⟩
 | 4,h=>
  obtain ⟨g2,h1,h2,h3,h4⟩:=h
  exact ⟨g2,h1,by simpa [World.setCell] using h2,(World.cell?_of_block (Below.heap_setCell _ _ _ _ h4)).trans h3,h4⟩
 | 7,_=>exact absurd rfl hj
 | n+8,_=>trivial
set_option maxRecDepth 10000 in
set_option maxHeartbeats 2000000 in
theorem rmeasure_any (X:List Nx) (a:Option Addr) (c:Nat) (r:Int) (d:Nat) (w:World) (h:ScAt w a X) (hX:Small X) (hd:DepthIs X r d) :
  Calls Tryz.prog 18 #[.agg #[.slice a X.length c,.int .i64 r]] w fun e w'=>e=.returned (.agg (meC X d))∧Below w.heap.size w w':=by
 have HE:Hid (∀W,Below w.heap.size w W→Calls Tryz.prog 24 #[.agg #[.slice a X.length c,.int .i64 r]] W fun e w'=>e=.returned (.int .i64 (edg X:Nat))∧Below W.heap.size W w'):=fun W hW=>by
  refine Calls.mono (redges_any X a c r W (h.belowB hW) (by have:=hX.1;omega)) ?_
  rintro e w' ⟨z,rfl,hz,hb⟩
  rw [hz hX.few]
  exact ⟨rfl,hb⟩
 have HT:Hid (∀W,Below w.heap.size w W→Calls Tryz.prog 47 #[.agg #[.slice a X.length c,.int .i64 r]] W fun e w'=>TxOut (itn (allT X)) W w' e):=fun W hW=>rtexts_any X a c r W (h.belowB hW) hX
 have hsm:sum6 (itn (allT X))≤420300000∧(itn (allT X)).length≤140100:=by
  have h1:=allT_small X hX X.length (Nat.le_refl _)
  rw [List.take_length] at h1
  exact itn_sum _ (by have:=hX.1;omega) h1.2
 have HBy:Hid (∀W y cap b o,TxI W y cap b o (itn (allT X))→Calls Tryz.prog 46 #[.slice y (itn (allT X)).length cap] W fun e w'=>e=.returned (.int .i64 (txb X:Nat))∧w'=W):=fun W y cap b o q=>bytes6_any y cap b o _ W q.ptr q.at_ (by omega) (by omega)
 have HR:Hid (∀W,Below w.heap.size w W→Calls Tryz.prog 43 #[.agg #[.slice a X.length c,.int .i64 r]] W fun e w'=>RightOut X r W w' e):=fun W hW=>right_any X a c r W (h.belowB hW) hX
 have HD:Hid (RightIs X r→∃rn:Nat,r=rn∧rn<X.length∧∀W,Below w.heap.size w W→Calls Tryz.prog 48 #[.agg #[.slice a X.length c,.int .i64 r]] W fun e w'=>∃g out,e=.returned (.slice (some ⟨g,0,none⟩) X.length X.length)∧AtN 3 w' g (fnV X.length out)∧out rn=d∧Below W.heap.size W w'):=fun hri=>by
  obtain ⟨f,hf,hdf,hft⟩:=hd.2 hri
  obtain ⟨rn,hrn⟩:∃rn:Nat,r=rn:=⟨r.toNat,(Int.toNat_of_nonneg (isPb_iff.1 hri.1).1).symm⟩
  subst hrn
  have hrl:rn<X.length:=by have:=isPb_iff.1 hri.1;omega
  refine ⟨rn,rfl,hrl,fun W hW=>Calls.mono (depths_any X a c rn W f (h.belowB hW) hX hri.2.1 hf (fun x hx=>(hft x hx).2)) ?_⟩
  rintro e w' ⟨g,out,rfl,h1,h2,h3⟩
  exact ⟨g,out,rfl,h1,(h2 rn hrl).trans hdf.symm,h3⟩
 have HD0:Hid (¬RightIs X r→d=0):=hd.1
 clear h hX hd hsm
 go_enter Tryz.func18,Tryz.ntmps18
 go_wp2_with fail
 obtain ⟨u,hu⟩:∃u,u=(w.alloc (.cells #[.slice a X.length c,.int .i64 r] 24)).alloc (.cells #[.int .i64 0,.int .i64 0,.int .i64 0,.int .i64 0,.int .i64 0] 26):=⟨_,rfl⟩
 have UA:Hid (AtN 24 u w.heap.size #[.slice a X.length c,.int .i64 r]):=by rw [hu];exact (AtN.new w 24 _).alloc _
 have UR:Hid (AtN 26 u (w.heap.size+1) #[.int .i64 0,.int .i64 0,.int .i64 0,.int .i64 0,.int .i64 0]):=by rw [hu];exact mk_at (AtN.new (w.alloc _) 26 _) (by simp)
 have UB:Hid (Below w.heap.size w u):=by rw [hu];exact ((Below.refl w.heap.size w).alloc (Nat.le_refl _) _).alloc (by simp) _
 have hus:u.heap.size=w.heap.size+2:=by rw [hu];simp
 rw [← hu]
 clear hu
 refine facts_region7 (fun W=>Below u.heap.size u W) (rmF X a c r w.heap.size u.heap.size) 99 (fun _=>True) (by kernel_rfl) (by kernel_rfl) (Below.refl _ _).drew trivial ?loc ?step ?fin
 case loc=>
  intro j' o' V V' W ho hd hk h
  rcases j' with _|_|_|_|_|_|_|_|_|_|_|j'
  ·obtain rfl:=Option.some.inj ho
   have e:V (some 4)=V' (some 4):=hd
   simp only [rmF] at h ⊢
   rw [← e];exact h
  ·obtain rfl:=Option.some.inj ho
   have e:V (some 5)=V' (some 5):=hd
   simp only [rmF] at h ⊢
   rw [← e];exact h
  ·obtain rfl:=Option.some.inj ho
   have e:V (some 6)=V' (some 6):=hd
   simp only [rmF] at h ⊢
   rw [← e];exact h
  ·obtain rfl:=Option.some.inj ho
   have e:V (some 7)=V' (some 7):=hd
   simp only [rmF] at h ⊢
   rw [← e];exact h
  ·obtain rfl:=Option.some.inj ho
   have e:V (some 8)=V' (some 8):=hd
   simp only [rmF] at h ⊢
   rw [← e];exact h
  ·obtain rfl:=Option.some.inj ho
   have e:V (some 9)=V' (some 9):=hd
   simp only [rmF] at h ⊢
   rw [← e];exact h
  ·obtain rfl:=Option.some.inj ho
   have e:V (some 10)=V' (some 10):=hd
   simp only [rmF] at h ⊢
   rw [← e];exact h
  ·obtain rfl:=Option.some.inj ho
   have e:V (some 11)=V' (some 11):=hd
   simp only [rmF] at h ⊢
   rw [← e];exact h
  ·obtain rfl:=Option.some.inj ho
   have e:V (some 12)=V' (some 12):=hd
   simp only [rmF] at h ⊢
   rw [← e];exact h
  ·obtain rfl:=Option.some.inj ho
   have e:V (some 3)=V' (some 3):=hd
   simp only [rmF] at h ⊢
   rw [← e];exact h
  ·obtain rfl:=Option.some.inj ho
   obtain ⟨g,h1,h2⟩:=h
   exact ⟨g,(hk 9 _ (by kernel_rfl) rfl).symm.trans h1,h2⟩
  ·exact absurd ho (by simp)
 case step=>
  intro i' o' ho act W hG hoff hdep hI K hQ hK
  have B0:Below w.heap.size w W:=UB.out.trans (hG.mono UB.out.size)
  have A0:AtN 24 W w.heap.size #[.slice a X.length c,.int .i64 r]:=AtN.belowAll UA.out hG
  have x0:W.cell? ⟨w.heap.size,0,none⟩=some (.slice a X.length c):=A0.cell 0
  have x1:W.cell? ⟨w.heap.size,1,none⟩=some (.int .i64 r):=A0.cell 1
  have hWs:=hG.size
  have HE1:Hid _:=HE.out W B0
  have HT1:Hid _:=HT.out W B0
  have HG:Hid (Below u.heap.size u W):=hG
  clear A0 B0 hG hI UA UB UR HE HT HR HD HD0
  rcases i' with _|_|_|_|_|_|_|_|_|_|_|i'
  ·obtain rfl:=Option.some.inj ho
   have t1:act.tmps[1]?.getD undef=.pointer (some ⟨w.heap.size,0,none⟩):=hoff 1 (by kernel_rfl)
   clear hdep hoff HE1 HT1 HBy hK
   go_simp
   exact hQ _ (fun _ h1 _=>h1)
  ·obtain rfl:=Option.some.inj ho
   have e0:act.tmps[4]?.getD undef=.pointer (some ⟨w.heap.size,0,none⟩):=hdep 0 (by kernel_rfl)
   clear hdep hoff HE1 HT1 HBy hK
   go_simp
   exact hQ _ (fun _ h1 _=>h1)
  ·obtain rfl:=Option.some.inj ho
   have e1:act.tmps[5]?.getD undef=.slice a X.length c:=hdep 1 (by kernel_rfl)
   clear hdep hoff HE1 HT1 HBy hK
   go_simp
   exact hQ _ (fun _ h1 _=>h1)
  ·obtain rfl:=Option.some.inj ho
   have t1:act.tmps[1]?.getD undef=.pointer (some ⟨w.heap.size,0,none⟩):=hoff 1 (by kernel_rfl)
   clear hdep hoff HE1 HT1 HBy hK
   go_simp
   exact hQ _ (fun _ h1 _=>h1)
  ·obtain rfl:=Option.some.inj ho
   have e3:act.tmps[7]?.getD undef=.agg #[.slice a X.length c,.int .i64 r]:=hdep 3 (by kernel_rfl)
   clear hdep hoff HT1 HBy hQ
   go_simp
   refine Calls.mono (Hid.out HE1) ?_
   rintro e w' ⟨rfl,hb⟩
   exact hK _ _ (HG.out.trans (hb.mono HG.out.size)) (fun _ _=>trivial) (fun j V _ q=>rmF_below X a c r w.heap.size u.heap.size W w' hb j V q) (fun _ h1 _=>h1)
  ·obtain rfl:=Option.some.inj ho
   have t1:act.tmps[1]?.getD undef=.pointer (some ⟨w.heap.size,0,none⟩):=hoff 1 (by kernel_rfl)
   clear hdep hoff HE1 HT1 HBy hK
   go_simp
   exact hQ _ (fun _ h1 _=>h1)
  ·obtain rfl:=Option.some.inj ho
   have e5:act.tmps[9]?.getD undef=.agg #[.slice a X.length c,.int .i64 r]:=hdep 5 (by kernel_rfl)
   clear hdep hoff HE1 HBy hQ
   go_simp
   refine Calls.mono (Hid.out HT1) ?_
   rintro e w' ⟨y,cap,b,o,rfl,hx,hb⟩
   exact hK _ _ (HG.out.trans (hb.mono HG.out.size)) (fun _ _=>trivial) (fun j V _ q=>rmF_below X a c r w.heap.size u.heap.size W w' hb j V q) (fun _ h1 _=>⟨y,cap,b,o,h1,hx⟩)
  ·obtain rfl:=Option.some.inj ho
   have e6:∃y cap b o,act.tmps[10]?.getD undef=.slice y (itn (allT X)).length cap∧TxI W y cap b o (itn (allT X)):=hdep 6 (by kernel_rfl)
   clear hdep hoff HE1 HT1 hK
   obtain ⟨y,cap,b,o,e6,hx⟩:=e6
   have HY:Hid _:=HBy.out W y cap b o hx
   clear HBy hx
   go_simp
   refine Calls.mono (Hid.out HY) ?_
   rintro e w' ⟨rfl,rfl⟩
   exact hQ _ (fun _ h1 _=>h1)
  ·obtain rfl:=Option.some.inj ho
   have e2:act.tmps[6]?.getD undef=.int .i64 X.length:=hdep 2 (by kernel_rfl)
   have e4:act.tmps[8]?.getD undef=.int .i64 (edg X:Nat):=hdep 4 (by kernel_rfl)
   have e7:act.tmps[11]?.getD undef=.int .i64 (txb X:Nat):=hdep 7 (by kernel_rfl)
   clear hdep hoff HE1 HT1 HBy hK
   go_simp
   exact hQ _ (fun _ h1 _=>h1)
  ·obtain rfl:=Option.some.inj ho
   clear hdep hoff HE1 HT1 HBy hQ
   go_simp
   exact hK _ _ (HG.out.alloc HG.out.size _) (fun _ _=>trivial) (fun j V _ q=>rmF_below X a c r w.heap.size u.heap.size W _ ((Below.refl _ _).alloc (Nat.le_refl _) _) j V q) (fun _ h1 _=>⟨_,h1,hWs,0,0,0,0,0,AtN.new W 26 _⟩)
  ·obtain rfl:=Option.some.inj ho
   have e9:∃g,act.tmps[3]?.getD undef=.pointer (some ⟨g,0,none⟩)∧u.heap.size≤g∧∃x0 x1 x2 x3 x4:Int,AtN 26 W g #[.int .i64 x0,.int .i64 x1,.int .i64 x2,.int .i64 x3,.int .i64 x4]:=hdep 9 (by kernel_rfl)
   have e8:act.tmps[12]?.getD undef=.agg (me0C X):=hdep 8 (by kernel_rfl)
   clear hdep hoff HE1 HT1 HBy hQ
   obtain ⟨g,e9,hgb,z0,z1,z2,z3,z4,hg0⟩:=e9
   have y0:W.cell? ⟨g,0,none⟩=some (.int .i64 z0):=hg0.cell 0
   have y1:W.cell? ⟨g,1,none⟩=some (.int .i64 z1):=hg0.cell 1
   have y2:W.cell? ⟨g,2,none⟩=some (.int .i64 z2):=hg0.cell 2
   have y3:W.cell? ⟨g,3,none⟩=some (.int .i64 z3):=hg0.cell 3
   have y4:W.cell? ⟨g,4,none⟩=some (.int .i64 z4):=hg0.cell 4
   have f0:=hg0.fz 0
   have f1:=hg0.fz 1
   have f2:=hg0.fz 2
   have f3:=hg0.fz 3
   have f4:=hg0.fz 4
   have HA:Hid (AtN 26 W g #[.int .i64 z0,.int .i64 z1,.int .i64 z2,.int .i64 z3,.int .i64 z4]):=hg0
   clear hg0
   unfold me0C at e8
   go_simp
   have A1:=HA.out.set 0 (.int .i64 0)
   have A2:=A1.set 1 (.int .i64 X.length)
   have A3:=A2.set 2 (.int .i64 (edg X:Nat))
   have A4:=A3.set 3 (.int .i64 0)
   have A5:=A4.set 4 (.int .i64 (txb X:Nat))
   simp at A1 A2 A3 A4 A5
   refine hK undef _ (set_below (set_below (set_below (set_below (set_below HG.out _ hgb _) _ hgb _) _ hgb _) _ hgb _) _ hgb _) (fun _ _=>trivial) (fun j V hj q=>?_) (fun V h1 h2=>⟨g,(h2 9 _ (by kernel_rfl) rfl).trans e9,hgb,A5⟩)
   have hj:j≠10:=fun e=>hj e.symm
   exact rmF_set X a c r _ _ g 4 _ _ A4 (by omega) j V hj (rmF_set X a c r _ _ g 3 _ _ A3 (by omega) j V hj (rmF_set X a c r _ _ g 2 _ _ A2 (by omega) j V hj (rmF_set X a c r _ _ g 1 _ _ A1 (by omega) j V hj (rmF_set X a c r _ _ g 0 _ _ HA.out (by omega) j V hj q))))
  ·exact absurd ho (by simp)
 case fin=>
  intro V W hG hF
  obtain ⟨g,hv3,hgb,hA⟩:∃g,V (some 3)=.pointer (some ⟨g,0,none⟩)∧u.heap.size≤g∧AtN 26 W g (me0C X):=hF 10 _ rfl
  have HB1:Hid (Below w.heap.size w W):=UB.out.trans (hG.mono UB.out.size)
  have UA1:Hid (AtN 24 W w.heap.size #[.slice a X.length c,.int .i64 r]):=AtN.belowAll UA.out hG
  have UR1:Hid (AtN 26 W (w.heap.size+1) #[.int .i64 0,.int .i64 0,.int .i64 0,.int .i64 0,.int .i64 0]):=AtN.belowAll UR.out hG
  have UM1:Hid (AtN 26 W g (me0C X)):=hA
  have x0:W.cell? ⟨w.heap.size,0,none⟩=some (.slice a X.length c):=UA1.out.cell 0
  have x1:W.cell? ⟨w.heap.size,1,none⟩=some (.int .i64 r):=UA1.out.cell 1
  have HR1:Hid (Calls Tryz.prog 43 #[.agg #[.slice a X.length c,.int .i64 r]] W fun e w'=>RightOut X r W w' e):=HR.out W HB1.out
  have hgw:w.heap.size+2≤g:=by omega
  clear hF hG hA UA UR UB HE HT HBy HR
  simp only [fillA,Act.put,List.setIfInBounds_toArray,List.set_cons_zero,List.set_cons_succ,hv3]
  generalize V (some 4)=z4
  generalize V (some 5)=z5
  generalize V (some 6)=z6
  generalize V (some 7)=z7
  generalize V (some 8)=z8
  generalize V (some 9)=z9
  generalize V (some 10)=z10
  generalize V (some 11)=z11
  generalize V (some 12)=z12
  clear hv3
  go_wp2_with fail
  refine Calls.mono HR1.out ?_
  rintro e w2 ⟨b,rfl,hb,hb2⟩
  have HB2:Hid (Below w.heap.size w w2):=HB1.out.trans (hb2.mono HB1.out.size)
  have UA2:Hid (AtN 24 w2 w.heap.size #[.slice a X.length c,.int .i64 r]):=AtN.belowAll UA1.out hb2
  have UR2:Hid (AtN 26 w2 (w.heap.size+1) #[.int .i64 0,.int .i64 0,.int .i64 0,.int .i64 0,.int .i64 0]):=AtN.belowAll UR1.out hb2
  have UM2:Hid (AtN 26 w2 g (me0C X)):=AtN.belowAll UM1.out hb2
  clear HR1 hb2 UA1 UR1 UM1 HB1 x0 x1
  cases b with
  | false=>
   have hd0:d=0:=HD0.out (fun q=>by have:=hb.2 q;cases this)
   subst hd0
   have HM:Hid (AtN 26 w2 g (me0C X)):=UM2
   have HR3:Hid (AtN 26 w2 (w.heap.size+1) #[.int .i64 0,.int .i64 0,.int .i64 0,.int .i64 0,.int .i64 0]):=UR2
   have HB3:Hid (Below w.heap.size w w2):=HB2
   clear hb UA2 UM2 UR2 HB2 HD HD0
   have m0:w2.cell? ⟨g,0,none⟩=some (.int .i64 0):=AtN.cell HM.out 0
   have m1:w2.cell? ⟨g,1,none⟩=some (.int .i64 X.length):=AtN.cell HM.out 1
   have m2:w2.cell? ⟨g,2,none⟩=some (.int .i64 (edg X:Nat)):=AtN.cell HM.out 2
   have m3:w2.cell? ⟨g,3,none⟩=some (.int .i64 0):=AtN.cell HM.out 3
   have m4:w2.cell? ⟨g,4,none⟩=some (.int .i64 (txb X:Nat)):=AtN.cell HM.out 4
   have y0:w2.cell? ⟨w.heap.size+1,0,none⟩=some (.int .i64 0):=AtN.cell HR3.out 0
   have y1:w2.cell? ⟨w.heap.size+1,1,none⟩=some (.int .i64 0):=AtN.cell HR3.out 1
   have y2:w2.cell? ⟨w.heap.size+1,2,none⟩=some (.int .i64 0):=AtN.cell HR3.out 2
   have y3:w2.cell? ⟨w.heap.size+1,3,none⟩=some (.int .i64 0):=AtN.cell HR3.out 3
   have y4:w2.cell? ⟨w.heap.size+1,4,none⟩=some (.int .i64 0):=AtN.cell HR3.out 4
   have f0:=AtN.fz HR3.out 0
   have f1:=AtN.fz HR3.out 1
   have f2:=AtN.fz HR3.out 2
   have f3:=AtN.fz HR3.out 3
   have f4:=AtN.fz HR3.out 4
   clear HM HR3
   go_wp2_with fail
   exact bodyPost_ret (v:=.agg #[.int .i64 0,.int .i64 X.length,.int .i64 (edg X:Nat),.int .i64 0,.int .i64 (txb X:Nat)]) (by simp [results,Tryz.results18,go_sem, *]) rfl ⟨rfl,set_below (set_below (set_below (set_below (set_below HB3.out _ (by simp) _) _ (by simp) _) _ (by simp) _) _ (by simp) _) _ (by simp) _⟩
  | true=>
   obtain ⟨rn,rfl,hrl,hdp⟩:=HD.out (hb.1 rfl)
   have HDp:Hid (∀W,Below w.heap.size w W→Calls Tryz.prog 48 #[.agg #[.slice a X.length c,.int .i64 (rn:Int)]] W fun e w'=>∃g out,e=.returned (.slice (some ⟨g,0,none⟩) X.length X.length)∧AtN 3 w' g (fnV X.length out)∧out rn=d∧Below W.heap.size W w'):=hdp
   have hrl':(rn:Int)<X.length:=by omega
   clear hb hdp HD HD0
   go_wp2_with fail
   refine facts_region6 (fun W=>Fr (fun b=>b=g) w2 W∧(AtN 26 W g (me0C X)∨AtN 26 W g (meC X d))) (rdF X a c rn d w.heap.size g) (by kernel_rfl) (by kernel_rfl) ⟨(Fr.refl _ _).drew,.inl (AtN.drew UM2.out)⟩ ?step ?fin
   case step=>
    intro i' o' ho act W hG hoff hdep K hQ hK
    have t1:act.tmps[1]?.getD undef=.pointer (some ⟨w.heap.size,0,none⟩):=hoff 1 (by kernel_rfl)
    have t3:act.tmps[3]?.getD undef=.pointer (some ⟨g,0,none⟩):=hoff 3 (by kernel_rfl)
    have A0:AtN 24 W w.heap.size #[.slice a X.length c,.int .i64 (rn:Int)]:=AtN.fr UA2.out hG.1 (by omega)
    have x0:W.cell? ⟨w.heap.size,0,none⟩=some (.slice a X.length c):=A0.cell 0
    have x1:W.cell? ⟨w.heap.size,1,none⟩=some (.int .i64 (rn:Int)):=A0.cell 1
    have B0:Below w.heap.size w W:=Fr.below HB2.out hG.1 (fun q e=>by omega) HB2.out.size
    have HC:Hid (Calls Tryz.prog 48 #[.agg #[.slice a X.length c,.int .i64 (rn:Int)]] W fun e w'=>∃g out,e=.returned (.slice (some ⟨g,0,none⟩) X.length X.length)∧AtN 3 w' g (fnV X.length out)∧out rn=d∧Below W.heap.size W w'):=HDp.out W B0
    have HG:Hid (Fr (fun b=>b=g) w2 W∧(AtN 26 W g (me0C X)∨AtN 26 W g (meC X d))):=hG
    clear A0 B0 hG hoff HDp UA2 UR2 UM2 HB2
    rcases i' with _|_|_|_|_|_|_|_|i'
    ·obtain rfl:=Option.some.inj ho
     clear hdep HC hK
     go_simp
     exact hQ _ rfl
    ·obtain rfl:=Option.some.inj ho
     have e0:act.tmps[15]?.getD undef=.agg #[.slice a X.length c,.int .i64 (rn:Int)]:=hdep 0 _ (by kernel_rfl) rfl
     clear hdep hQ
     go_simp
     refine Calls.mono HC.out ?_
     rintro e w' ⟨g2,out,rfl,h1,h2,hb⟩
     exact hK _ _ ⟨HG.out.1.trans (S':=fun _=>False) (Fr.of_below hb) (fun _ q _=>q.elim),HG.out.2.imp (fun q=>q.belowAll hb) (fun q=>q.belowAll hb)⟩ (fun j v _ q=>rdF_below X a c rn d w.heap.size g W w' hb j v q) ⟨g2,out,rfl,h1,h2⟩
    ·obtain rfl:=Option.some.inj ho
     clear hdep HC hK
     go_simp
     exact hQ _ rfl
    ·obtain rfl:=Option.some.inj ho
     have e2:act.tmps[17]?.getD undef=.pointer (some ⟨w.heap.size,1,none⟩):=hdep 2 _ (by kernel_rfl) rfl
     clear hdep HC hK
     go_simp
     exact hQ _ rfl
    ·obtain rfl:=Option.some.inj ho
     have e1:∃g2 out,act.tmps[16]?.getD undef=.slice (some ⟨g2,0,none⟩) X.length X.length∧AtN 3 W g2 (fnV X.length out)∧out rn=d:=hdep 1 _ (by kernel_rfl) rfl
     have e3:act.tmps[18]?.getD undef=.int .i64 (rn:Int):=hdep 3 _ (by kernel_rfl) rfl
     clear hdep HC hK
     obtain ⟨g2,out,e1,h1,h2⟩:=e1
     have y0:W.cell? ⟨g2,rn,none⟩=some (.int .i64 (d:Int)):=by rw [h1.cell,fnV_at _ _ _ hrl,h2]
     have y1:=h1.lt
     have y2:g2≠g:=HG.out.2.elim (fun q=>at_ne h1 q (by decide)) (fun q=>at_ne h1 q (by decide))
     clear h1 h2
     go_simp
     exact hQ _ ⟨g2,rfl,y1,y0,y2⟩
    ·obtain rfl:=Option.some.inj ho
     have e4:∃g2,act.tmps[19]?.getD undef=.pointer (some ⟨g2,rn,none⟩)∧g2<W.heap.size∧W.cell? ⟨g2,rn,none⟩=some (.int .i64 (d:Int))∧g2≠g:=hdep 4 _ (by kernel_rfl) rfl
     clear hdep HC hK
     obtain ⟨g2,e4,h1,h2,h3⟩:=e4
     go_simp
     exact hQ _ rfl
    ·obtain rfl:=Option.some.inj ho
     clear hdep HC hK
     go_simp
     exact hQ _ rfl
    ·obtain rfl:=Option.some.inj ho
     have e6:act.tmps[21]?.getD undef=.pointer (some ⟨g,3,none⟩):=hdep 6 _ (by kernel_rfl) rfl
     have e5:act.tmps[20]?.getD undef=.int .i64 (d:Int):=hdep 5 _ (by kernel_rfl) rfl
     clear hdep HC hQ
     have y3:∃z,W.cell? ⟨g,3,none⟩=some (.int .i64 z):=HG.out.2.elim (fun q=>⟨0,q.cell 3⟩) (fun q=>⟨d,q.cell 3⟩)
     have f3:W.frozen? ⟨g,3,none⟩=false:=HG.out.2.elim (fun q=>q.fz 3) (fun q=>q.fz 3)
     obtain ⟨z,y3⟩:=y3
     go_simp
     have hm:AtN 26 (W.setCell ⟨g,3,none⟩ (.int .i64 (d:Int))) g (meC X d):=HG.out.2.elim (fun q=>q.set 3 _) (fun q=>q.set 3 _)
     exact hK undef _ ⟨Fr.set HG.out.1 ⟨g,3,none⟩ rfl _,.inr hm⟩ (fun j v hj q=>rdF_set X a c rn d w.heap.size g W 3 _ HG.out.2 j v (fun e=>hj e.symm) q) hm
    ·exact absurd ho (by simp)
   case fin=>
    intro V W hG hF
    have HM:Hid (AtN 26 W g (meC X d)):=hF 7 _ rfl
    have HR3:Hid (AtN 26 W (w.heap.size+1) #[.int .i64 0,.int .i64 0,.int .i64 0,.int .i64 0,.int .i64 0]):=AtN.fr UR2.out hG.1 (by omega)
    have HB3:Hid (Below w.heap.size w W):=Fr.below HB2.out hG.1 (fun q e=>by omega) HB2.out.size
    clear hF hG HDp UA2 UR2 UM2 HB2
    simp only [fillA,Act.put,List.setIfInBounds_toArray,List.set_cons_zero,List.set_cons_succ]
    generalize V (some 15)=q15
    generalize V (some 16)=q16
    generalize V (some 17)=q17
    generalize V (some 18)=q18
    generalize V (some 19)=q19
    generalize V (some 20)=q20
    generalize V (some 21)=q21
    have m0:W.cell? ⟨g,0,none⟩=some (.int .i64 0):=AtN.cell HM.out 0
    have m1:W.cell? ⟨g,1,none⟩=some (.int .i64 X.length):=AtN.cell HM.out 1
    have m2:W.cell? ⟨g,2,none⟩=some (.int .i64 (edg X:Nat)):=AtN.cell HM.out 2
    have m3:W.cell? ⟨g,3,none⟩=some (.int .i64 (d:Nat)):=AtN.cell HM.out 3
    have m4:W.cell? ⟨g,4,none⟩=some (.int .i64 (txb X:Nat)):=AtN.cell HM.out 4
    have y0:W.cell? ⟨w.heap.size+1,0,none⟩=some (.int .i64 0):=AtN.cell HR3.out 0
    have y1:W.cell? ⟨w.heap.size+1,1,none⟩=some (.int .i64 0):=AtN.cell HR3.out 1
    have y2:W.cell? ⟨w.heap.size+1,2,none⟩=some (.int .i64 0):=AtN.cell HR3.out 2
    have y3:W.cell? ⟨w.heap.size+1,3,none⟩=some (.int .i64 0):=AtN.cell HR3.out 3
    have y4:W.cell? ⟨w.heap.size+1,4,none⟩=some (.int .i64 0):=AtN.cell HR3.out 4
    have f0:=AtN.fz HR3.out 0
    have f1:=AtN.fz HR3.out 1
    have f2:=AtN.fz HR3.out 2
    have f3:=AtN.fz HR3.out 3
    have f4:=AtN.fz HR3.out 4
    clear HM HR3
    go_wp2_with fail
    exact bodyPost_ret (v:=.agg #[.int .i64 0,.int .i64 X.length,.int .i64 (edg X:Nat),.int .i64 (d:Nat),.int .i64 (txb X:Nat)]) (by simp [results,Tryz.results18,go_sem, *]) rfl ⟨rfl,set_below (set_below (set_below (set_below (set_below HB3.out _ (by simp) _) _ (by simp) _) _ (by simp) _) _ (by simp) _) _ (by simp) _⟩
end Go.Proofs.YtgoffkfpdigeeaaGreatDoor
