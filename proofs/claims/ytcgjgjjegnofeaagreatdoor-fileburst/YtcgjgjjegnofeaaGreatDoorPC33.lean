import Derived.Test.YtcgjgjjegnofeaaGreatDoorPC32
import Derived.Test.YtcgjgjjegnofeaaGreatDoorPC27
import Derived.Test.YtcgjgjjegnofeaaGreatDoorPC31
namespace Go.Proofs.YtcgjgjjegnofeaaGreatDoor
open Go.RowKit
def wL:Lm:=⟨16777216,16777216,16777216,16777216,16777216⟩
def aF:ByteArray:=⟨(pPut mD 2 (secs2 aA aC)).1.toArray⟩
theorem aX_cX (g:Nat):cX (aX g) 0=(aX g).map Nx.nd:=((isCan_iff (aX g) 0).1 (aX_can g)).2.2.symm
theorem aX_cA (g:Nat):cA (aX g) 0=aA:=by
 refine ba_eq ?_
 unfold cA
 rw [List.toList_toArray,aX_cX,rTab_all]
 exact (aX_bk g).a.symm
theorem aX_cC (g:Nat):cC (aX g) 0=aC:=by
 refine ba_eq ?_
 unfold cC
 rw [List.toList_toArray,aX_cX,List.length_map]
 exact (aX_bk g).c.symm
theorem aX_cF (g:Nat):cF (aX g) 0=aF:=by
 unfold cF aF
 rw [aX_cA,aX_cC]
theorem aF_list:aF.data.toList=[68,73,79,82,2,1,3,1,1,97]++(four (crc aA.data.toList)++([2,5,1,4,2,0,0]++four (crc aC.data.toList))):=by
 have h:(pPut mD 2 (secs2 aA aC)).1=mD.data.toList++UInt8.ofNat 2 :: bodyL (secs2 aA aC):=by
  rw [pPut_of mD 2 (secs2 aA aC) rfl (by decide) (by decide) (by simp [secs2]) (fun s hs=>by
   simp only [secs2,List.mem_cons,List.not_mem_nil,or_false] at hs
   rcases hs with rfl|rfl
   ·exact ⟨by decide,by decide,by decide⟩
   ·exact ⟨by decide,by decide,by decide⟩)]
  rfl
 unfold aF
 rw [List.toList_toArray,h]
 have e1:put aA.size=[3]:=by decide +kernel
 have e2:put aC.size=[5]:=by decide +kernel
 simp only [secs2,bodyL,secL,e1,e2,List.append_nil]
 rfl
theorem aF_size:aF.size=25:=by
 rw [← list_size,aF_list]
 simp [four_length]
theorem aX_whole (g:Nat):Whole (aX g) 0:=⟨aX_ty g,aX_right g⟩
theorem aX_in (g:Nat) {d:Nat} (hd:DepthIs (aX g) 0 d):inL (meL (aX g) d) wL=true:=by
 have hd1:(d:Int)≤1:=by
  obtain ⟨h,_,h2,h3⟩:=hd.2 (aX_right g)
  have:=(h3 0 (by simp [aX])).2
  rw [h2]
  show ((h 0:Nat):Int)≤1
  have h4:(aX g).length=1:=rfl
  omega
 refine decide_eq_true ⟨by show (0:Int)≤16777216;decide,by show ((1:Nat):Int)≤16777216;decide,?_,by show (d:Int)≤16777216;omega,?_⟩
 ·show ((edg (aX g):Nat):Int)≤16777216
  exact (by decide:((edg (aX 0):Nat):Int)≤16777216)
 ·show ((txb (aX g):Nat):Int)≤16777216
  have:txb (aX g)=1:=aX_sum g
  omega
theorem aF_save (g:Nat):SvIs (aX g) 0 wL aF 0:=by
 obtain ⟨d,hd⟩:=depth_there (aX g) 0
 refine ⟨d,0,0,hd,va_good (by decide) (aX_whole g) (aX_in g hd),.inr ⟨rfl,.inr ⟨?_,rfl,(aX_cF g).symm⟩⟩⟩
 rw [aX_cF,aF_size]
 decide
theorem aF_load (g:Nat):LdIs aF wL ((aX g).map Nx.nd) 0 0:=by
 obtain ⟨d,hd⟩:=depth_there (aX g) 0
 have h:=(back_file (Y:=aX g) (aX_small g) (by simp [aX]) (aX_fn g) (aX_whole g) (aX_cX g).symm hd (by decide) (aX_in g hd) (by rw [aX_cF,aF_size];decide)).1
 rw [aX_cF] at h
 exact h
theorem aF_no:LdIs ⟨#[68,73,79,82,3]⟩ wL (([]:List Nx).map Nx.nd) 0 7:=by
 have hG:pGet mD.data.toList (⟨#[68,73,79,82,3]⟩:ByteArray).data.toList=(0,3,[]):=by decide +kernel
 have h:=ldK_4 ⟨#[68,73,79,82,3]⟩ wL (by decide) (by decide) (by rw [hG]) (by rw [hG];decide)
 exact .inl ⟨by rw [h];decide,h.symm,rfl,rfl⟩
end Go.Proofs.YtcgjgjjegnofeaaGreatDoor
namespace Go.Proofs.YtcgjgjjegnofeaaGreatDoor
open Go.RowKit Go.Maps Go.WideMaps Go.Sort
theorem secs_at {W:World} {g:Nat} {A C:ByteArray} (h:AtN 52 W g #[.int .i64 1,.string A,.int .i64 2,.string C]):SecAt W g 0 (secs2 A C):=fun i hi=>by
 match i,hi with
 | 0,_=>exact ⟨h.lt,h.cell 0,h.cell 1⟩
 | 1,_=>exact ⟨h.lt,h.cell 2,h.cell 3⟩
def SvOut (X:List Nx) (r:Int) (l:Lm) (w w':World) (e:Ending):Prop:=∃(B:ByteArray) (k:Int),e=.returned (.tuple #[.string B,.int .i64 k])∧SvIs X r l B k∧Below w.heap.size w w'
theorem va_whole {X:List Nx} {r:Int} {l:Lm} {d:Nat} {z:Int} (h:VaIs X r l d 0 z):okL l=true∧Whole X r∧inL (meL X d) l=true:=by
 rcases h with ⟨_,q,_⟩|⟨_,h2,q,_⟩|⟨h1,h2,n,y,hc,⟨p,q,_⟩|⟨p,⟨_,q,_⟩|⟨p1,_⟩⟩⟩
 ·cases q
 ·exact absurd q.symm h2
 ·exact absurd q.symm p
 ·cases q
 ·exact ⟨h1,⟨h2,hc.right.1 p⟩,p1⟩
end Go.Proofs.YtcgjgjjegnofeaaGreatDoor
