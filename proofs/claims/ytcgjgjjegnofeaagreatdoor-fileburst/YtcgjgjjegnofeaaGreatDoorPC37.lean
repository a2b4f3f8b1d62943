import Derived.Test.YtcgjgjjegnofeaaGreatDoorPC32
import Derived.Test.YtcgjgjjegnofeaaGreatDoorPC27
import Derived.Test.YtcgjgjjegnofeaaGreatDoorPC36
namespace Go.Proofs.YtcgjgjjegnofeaaGreatDoor
open Go.RowKit Go.Maps Go.WideMaps Go.Sort
theorem bel_drew (w:World):Below w.heap.size w w.drew:=⟨rfl,rfl,rfl,Nat.le_refl _,fun _ _=>rfl⟩
def LdOut (b:ByteArray) (l:Lm) (w w':World) (e:Ending):Prop:=∃(X:List Nx) (a:Option Addr) (c:Nat) (r k:Int),e=.returned (.tuple #[.agg #[.slice a X.length c,.int .i64 r],.int .i64 k])∧LdIs b l (X.map Nx.nd) r k∧(∀W,Fr (fun b=>b<w.heap.size) w' W→ScAt W a X)∧Small X∧FnX X∧Below w.heap.size w w'
theorem LdIs.bad {b:ByteArray} {l:Lm} {k:Int} (h:(ldK b l).1=k) (hk:k≠0):LdIs b l (([]:List Nx).map Nx.nd) 0 k:=.inl ⟨by rw [h];exact hk,h.symm,rfl,rfl⟩
structure Fx (w W:World) (l:Lm):Prop where
 a:AtN 26 W w.heap.size (liC l)
 r:AtN 24 W (w.heap.size+1) #[.slice none 0 0,.int .i64 0]
 n:AtN 24 W (w.heap.size+2) #[.slice none 0 0,.int .i64 0]
 bel:Below w.heap.size w W
theorem Fx.more {w W W':World} {l:Lm} (h:Fx w W l) (hb:Below W.heap.size W W'):Fx w W' l:=⟨h.a.belowAll hb,h.r.belowAll hb,h.n.belowAll hb,h.bel.trans (hb.mono h.bel.size)⟩
theorem ld_bad {b:ByteArray} {l:Lm} {w W:World} {k:Int} (hG:LdIs b l (([]:List Nx).map Nx.nd) 0 k) (hb:Below w.heap.size w W) {x0 x1:Value} (hr:AtN 24 W (w.heap.size+1) #[x0,x1]) :
  ∀W',W'=(W.setCell ⟨w.heap.size+1,0,none⟩ (.slice none 0 0)).setCell ⟨w.heap.size+1,1,none⟩ (.int .i64 0)→AtN 24 W' (w.heap.size+1) #[.slice none 0 0,.int .i64 0]∧LdOut b l w W' (.returned (.tuple #[.agg #[.slice none 0 0,.int .i64 0],.int .i64 k])):=by
 rintro _ rfl
 have hF:Fr (fun b=>b=w.heap.size+1) W ((W.setCell ⟨w.heap.size+1,0,none⟩ (.slice none 0 0)).setCell ⟨w.heap.size+1,1,none⟩ (.int .i64 0)):=((Fr.refl (fun b=>b=w.heap.size+1) W).set ⟨w.heap.size+1,0,none⟩ rfl _).set ⟨w.heap.size+1,1,none⟩ rfl _
 refine ⟨by simpa using (hr.set 0 (.slice none 0 0)).set 1 (.int .i64 0),[],none,0,0,k,rfl,hG,fun _ _=>⟨LsAt.nil _ _,fun i hi=>by simp at hi⟩,⟨by simp,fun i hi=>by simp at hi⟩,fun i hi=>by simp at hi,Fr.below hb hF (fun i e=>by omega) hb.size⟩
theorem ld_good {b:ByteArray} {l:Lm} {w W0 W:World} {c:Nat} {r k:Int} {a:Option Addr} {X:List Nx} (hG:LdIs b l (X.map Nx.nd) r k) (hb:Below w.heap.size w W) {x0 x1:Value} (hr:AtN 24 W (w.heap.size+1) #[x0,x1]) (hlt:w.heap.size+1<W0.heap.size) (hs0:∀W2,Fr (fun b=>b<W0.heap.size) W W2→ScAt W2 a X) (hs:Small X) (hf:FnX X) :
  ∀W',W'=(W.setCell ⟨w.heap.size+1,0,none⟩ (.slice a X.length c)).setCell ⟨w.heap.size+1,1,none⟩ (.int .i64 r)→AtN 24 W' (w.heap.size+1) #[.slice a X.length c,.int .i64 r]∧LdOut b l w W' (.returned (.tuple #[.agg #[.slice a X.length c,.int .i64 r],.int .i64 k])):=by
 rintro _ rfl
 have hF:Fr (fun b=>b=w.heap.size+1) W ((W.setCell ⟨w.heap.size+1,0,none⟩ (.slice a X.length c)).setCell ⟨w.heap.size+1,1,none⟩ (.int .i64 r)):=((Fr.refl (fun b=>b=w.heap.size+1) W).set ⟨w.heap.size+1,0,none⟩ rfl _).set ⟨w.heap.size+1,1,none⟩ rfl _
 exact ⟨by simpa using (hr.set 0 (.slice a X.length c)).set 1 (.int .i64 r),X,a,c,r,k,rfl,hG,fun W2 f=>hs0 W2 (((Fr.refl (fun b=>b<W0.heap.size) W).trans hF (fun i hi _=>by omega)).trans f (fun i hi _=>by omega)),hs,hf,Fr.below hb hF (fun i e=>by omega) hb.size⟩
end Go.Proofs.YtcgjgjjegnofeaaGreatDoor
