import Derived.WalkKit
import Derived.WalkSpells
import Derived.WalkLawsBesides
import Derived.Laws.IdiomStrings
import Derived.Deep.Draws
import Derived.Test.YtgoffkfpdigeeaaGreatDoorRows
import Derived.Deep.AppendLies
import Derived.Deep.RegionLaw
import Derived.Laws.OwnMore
namespace Go.Proofs.YtgoffkfpdigeeaaGreatDoor
open Go.RowKit
def bV (l:List UInt8):List Value:=l.map fun c=>Value.int .u8 (c.toNat:Int)
theorem bV_length (l:List UInt8):(bV l).length=l.length:=by simp [bV]
theorem bV_append (a b:List UInt8):bV (a++b)=bV a++bV b:=by simp [bV]
theorem bV_one (k:Nat) (h:k<256):bV [UInt8.ofNat k]=[Value.int .u8 (k:Int)]:=by
 simp [bV];omega
theorem bV_snoc (l:List UInt8) (k:Nat) (h:k<256):bV (l++[UInt8.ofNat k])=bV l++[Value.int .u8 (k:Int)]:=by
 rw [bV_append,bV_one k h]
theorem conv_own {P:Program} {w:World} {base:Nat} {v:Value} {l:List UInt8} (src dst e:TypeId) (hs:P.underlying src=some (.slice e)) (he:P.underlying e=some (.int .u8)) (hd:P.underlying dst=some .string)
  (h:w.ownsRow base e 1 v l.length (bV l)) (hn:0<l.length) :
  ∃g cap,v=.slice (some ⟨g,0,none⟩) l.length cap∧(convert src dst (.slice (some ⟨g,0,none⟩) l.length cap)).run P w=.ok (.string ⟨l.toArray⟩) w:=by
 have h0:=h
 rcases h.2 with ⟨_,h2⟩|⟨g,cap,cur,rfl,_⟩
 ·omega
 ·refine ⟨g,cap,rfl,run_convert_bytes_back w src dst e ⟨g,0,none⟩ cap l hs he hd ?_⟩
  intro j hj
  have hadd:(⟨g,0,none⟩:Addr).add j=⟨g,j,none⟩:=by unfold Addr.add;split <;> simp_all
  rw [hadd,h0.cellAt j (by omega)]
  simp [bV,hj]
theorem conv_one {P:Program} (w:World) (src dst e:TypeId) (hs:P.underlying src=some (.slice e)) (he:P.underlying e=some (.int .u8)) (hd:P.underlying dst=some .string) (g cap:Nat) (c:Int) (h0:0≤c) (h1:c≤255)
  (h:w.cell? ⟨g,0,none⟩=some (.int .u8 c)) :
  (convert src dst (.slice (some ⟨g,0,none⟩) 1 cap)).run P w=.ok (.string ⟨[UInt8.ofNat c.toNat].toArray⟩) w:=by
 have:=run_convert_bytes_back w src dst e ⟨g,0,none⟩ cap [UInt8.ofNat c.toNat] hs he hd (by
  intro j hj
  simp at hj
  subst hj
  have hadd:(⟨g,0,none⟩:Addr).add 0=⟨g,0,none⟩:=rfl
  rw [hadd,h]
  simp
  omega)
 exact this
theorem bcell {W w1:World} (hb:Below W.heap.size W w1):(∀b o,b<W.heap.size→w1.cell? ⟨b,o,none⟩=W.cell? ⟨b,o,none⟩)∧(∀b o,b<W.heap.size→w1.frozen? ⟨b,o,none⟩=W.frozen? ⟨b,o,none⟩):=
 ⟨fun b o h=>hb.cell (p:=⟨b,o,none⟩) h,fun b o h=>hb.frozen (p:=⟨b,o,none⟩) h⟩
theorem below_own {B:Nat} {a w w':World} {e:TypeId} {size:Nat} {v:Value} {n:Nat} {xs:List Value} (h:Below B a w) (ho:w.ownsRow B e size v n xs) (hg:w.grownBy w' v.ownBlock) (hB:B≤w.heap.size):Below B a w':=
 h.grown hg hB fun k hk=>(ho.lt k hk).1
end Go.Proofs.YtgoffkfpdigeeaaGreatDoor
namespace Go.Proofs.YtgoffkfpdigeeaaGreatDoor
open Go.RowKit
def AtN (T:TypeId) (w:World) (g:Nat) (cs:Array Value):Prop:=w.heap[g]? = some (.cells cs T (0,0))
section
variable {T:TypeId} {w w':World} {g:Nat} {cs:Array Value}
theorem AtN.lt (h:AtN T w g cs):g<w.heap.size:=(Array.getElem?_eq_some_iff.1 h).1
theorem AtN.cell (h:AtN T w g cs) (j:Nat):w.cell? ⟨g,j,none⟩=cs[j]? := by
 have h':w.heap[g]? = _:=h
 simp [World.cell?,h']
theorem AtN.fz (h:AtN T w g cs) (j:Nat):w.frozen? ⟨g,j,none⟩=false:=frozen_of_row w g j _ T h
theorem AtN.kept {row:Option Nat} (h:AtN T w g cs) (hg:w.grownBy w' row) (hne:some g≠row):AtN T w' g cs:=by
 unfold AtN
 rw [hg.block g h.lt hne]
 exact h
theorem AtN.below {B:Nat} (h:AtN T w g cs) (hb:Below B w w') (hg:g<B):AtN T w' g cs:=by
 unfold AtN
 rw [hb.block g hg]
 exact h
theorem AtN.belowAll (h:AtN T w g cs) (hb:Below w.heap.size w w'):AtN T w' g cs:=h.below hb h.lt
theorem AtN.alloc (h:AtN T w g cs) (o:Obj):AtN T (w.alloc o) g cs:=h.below ((Below.refl w.heap.size w).alloc (Nat.le_refl _) o) h.lt
theorem AtN.drew (h:AtN T w g cs):AtN T w.drew g cs:=h
theorem AtN.drewN (h:AtN T w g cs) (n:Nat):AtN T (w.drewN n) g cs:=h
theorem AtN.new (w:World) (T:TypeId) (cs:Array Value):AtN T (w.alloc (.cells cs T)) w.heap.size cs:=by
 unfold AtN World.alloc
 simp
theorem AtN.set (h:AtN T w g cs) (j:Nat) (v:Value):AtN T (w.setCell ⟨g,j,none⟩ v) g (cs.setIfInBounds j v):=by
 have h':w.heap[g]? = _:=h
 unfold AtN World.setCell
 simp [Array.getElem?_modify,h']
theorem AtN.setOther (h:AtN T w g cs) (p:Addr) (hp:p.block≠g) (v:Value):AtN T (w.setCell p v) g cs:=by
 unfold AtN
 rw [Below.heap_setCell _ _ _ _ (by omega)]
 exact h
end
theorem own_set {w:World} {B:Nat} {e:TypeId} {size:Nat} {v:Value} {n:Nat} {xs:List Value} (h:w.ownsRow B e size v n xs) (p:Addr) (hp:∀r,v.ownBlock=some r→r≠p.block) (x:Value):(w.setCell p x).ownsRow B e size v n xs:=by
 refine ⟨h.1,?_⟩
 rcases h.2 with hv|⟨g,cap,cur,rfl,h1,h2,h3⟩
 ·exact .inl hv
 ·exact .inr ⟨g,cap,cur,rfl,h1,(Below.heap_setCell _ _ _ _ (hp g rfl)).trans h2,h3⟩
theorem own_below {w w':World} {B C:Nat} {e:TypeId} {size:Nat} {v:Value} {n:Nat} {xs:List Value} (h:w.ownsRow B e size v n xs) (hb:Below C w w') (hC:w.heap.size≤C):w'.ownsRow B e size v n xs:=by
 refine ⟨h.1,?_⟩
 rcases h.2 with hv|⟨g,cap,cur,rfl,h1,h2,h3⟩
 ·exact .inl hv
 ·exact .inr ⟨g,cap,cur,rfl,h1,(hb.block g (Nat.lt_of_lt_of_le (Array.getElem?_eq_some_iff.1 h2).1 hC)).trans h2,h3⟩
theorem own_mono {w:World} {B C:Nat} {e:TypeId} {size:Nat} {v:Value} {n:Nat} {xs:List Value} (h:w.ownsRow B e size v n xs) (hc:C≤B):w.ownsRow C e size v n xs:=by
 refine ⟨h.1,?_⟩
 rcases h.2 with hv|⟨g,cap,cur,rfl,h1,r⟩
 ·exact .inl hv
 ·exact .inr ⟨g,cap,cur,rfl,Nat.le_trans hc h1,r⟩
theorem dn_below {B:Nat} {a b:World} (h:Below B a b) (n:Nat):Below B a (b.drewN n):=⟨h.os,h.tape,h.output,h.size,h.block⟩
theorem set_below {B:Nat} {a b:World} (h:Below B a b) (p:Addr) (hp:B≤p.block) (v:Value):Below B a (b.setCell p v):=
 ⟨h.os,h.tape,h.output,by simpa [World.setCell] using h.size,fun i hi=>(Below.heap_setCell _ _ _ _ (by omega)).trans (h.block i hi)⟩
end Go.Proofs.YtgoffkfpdigeeaaGreatDoor
namespace Go.Proofs.YtgoffkfpdigeeaaGreatDoor
open Go.RowKit
theorem Tryz.infoI7:(Tryz.prog.info? 3).map (fun i=>(i.zero,i.size,i.bytes))=some (some (.int .i64 0),1,8):=by kernel_rfl
def iV (l:List Int):List Value:=l.map fun z=>Value.int .i64 z
theorem mk_at {T:TypeId} {w:World} {g g':Nat} {cs:Array Value} (h:AtN T w g cs) (e:g=g'):AtN T w g' cs:=e ▸ h
theorem own_shape7 {w:World} {B:Nat} {e:TypeId} {n:Nat} {v:Value} {xs:List Value} (h:w.ownsRow B e 1 v n xs):∃a cap,v=.slice a n cap:=by
 rcases h.2 with ⟨rfl,h2⟩|⟨g,cap,cur,rfl,_⟩
 ·exact ⟨none,0,by rw [h2]⟩
 ·exact ⟨_,_,rfl⟩
def noT:ByteArray:=⟨#[]⟩
end Go.Proofs.YtgoffkfpdigeeaaGreatDoor
