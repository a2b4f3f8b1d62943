import Derived.Test.YtgoffkfpdigeeaaGreatDoorP32
import Derived.Test.YtgoffkfpdigeeaaGreatDoorP44
import Derived.Test.YtgoffkfpdigeeaaGreatDoorP37
namespace Go.Proofs.YtgoffkfpdigeeaaGreatDoor
open Go.RowKit Go.Maps Go.WideMaps Go.Sort
section
variable {X:List Nx} {r:Int} {l:Lm} {d:Nat} {B:ByteArray} {e:Int}
theorem SoIs.bad (h:SoIs X r l B e) (he:e≠0):B=⟨#[]⟩:=by
 obtain ⟨d,n,z,h1,h2,h3⟩:=h
 rcases h3 with ⟨_,_,q⟩|⟨_,⟨_,_,q⟩|⟨_,⟨_,_,q⟩|⟨_,q,_⟩⟩⟩
 ·exact q
 ·exact q
 ·exact q
 ·exact absurd q he
theorem SoIs.good (h:SoIs X r l B 0):okL l=true∧tyEo X=0∧FowIs X r∧(∃d,DepthIs X r d∧inL (meL X d) l=true)∧¬l.b<((oF (X.map Nx.nd)).size:Int)∧B=oF (X.map Nx.nd):=by
 obtain ⟨d,n,z,h1,h2,h3⟩:=h
 rcases h3 with ⟨q1,q2,_⟩|⟨rfl,⟨_,q,_⟩|⟨q1,⟨_,q,_⟩|⟨q2,_,q3⟩⟩⟩
 ·exact absurd q2.symm q1
 ·cases q
 ·cases q
 ·obtain ⟨p1,p2,p3⟩:=h2.zero.1 rfl
  exact ⟨p1,p2.1,q1,⟨d,h1,p3⟩,q2,q3⟩
end
theorem poback_any (X:List Nx) (l:Lm) (w:World) (d:Nat) (hT:Tabs16 w) (hS:Small X) (hn:X.length≤60) (hF:FnX X) (hW:tyEo X=0) (hf:FowIs X 0) (hd:DepthIs X 0 d) (ho:okL l=true) (hi:inL (meL X d) l=true) (hb:¬l.b<((oF (X.map Nx.nd)).size:Int)) (hl:∀i,i<5→-9223372036854775808≤(lmL l).getD i 0∧(lmL l).getD i 0≤9223372036854775807) :
  Calls Tryz.prog 13 #[.string (oF (X.map Nx.nd)),.agg #[.int .i64 l.b,.int .i64 l.n,.int .i64 l.e,.int .i64 l.d,.int .i64 l.x]] w fun e w'=>∃(Y:List Nx) (a:Option Addr) (c:Nat),e=.returned (.tuple #[.agg #[.slice a Y.length c,.int .i64 0],.int .i64 0])∧Y.map Nx.nd=X.map Nx.nd∧ScAt w' a Y∧Small Y∧Below w.heap.size w w':=by
 have hz:=oF_sizes hS hn hF hW hf.1
 have hz2:=oC_le hS hn hF hW hf.1
 refine Calls.mono (poload_any (oF (X.map Nx.nd)) l w hT (by omega) (qno_put_of hS hn hF hW hf ho hi ho) hl) ?_
 rintro e w' ⟨Y,a,c,k,rfl,h1,h2,h3,_,h4⟩
 obtain ⟨hY,rfl⟩:=(back_ofile hS hF hW hf hd ho hi (by omega) hb).uniq h1
 exact ⟨Y,a,c,rfl,hY,h2 w' (Fr.refl _ _),h3,h4⟩
end Go.Proofs.YtgoffkfpdigeeaaGreatDoor
