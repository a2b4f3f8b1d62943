import Derived.Deep.Draws
import Derived.Test.YtgoffkfpdigeeaaGreatDoorRows
import Derived.Deep.QuietTactic
import Derived.BigQuiet
import Derived.Lib.BufferWrite
import Derived.Lib.UnsafeStr
import Derived.Laws.MakeOwn
import Derived.Deep.RegionHeld3
import Derived.Test.YtgoffkfpdigeeaaGreatDoorA01
import Derived.Test.YtgoffkfpdigeeaaGreatDoorA08
namespace Go.Proofs.YtgoffkfpdigeeaaGreatDoor
open Go.RowKit
def At3 (T:TypeId) (w:World) (g:Nat) (x y z:Value):Prop:=w.heap[g]? = some (.cells #[x,y,z] T (0,0))
section
variable {T:TypeId} {w w':World} {g:Nat} {x y z:Value}
theorem At3.lt (h:At3 T w g x y z):g<w.heap.size:=(Array.getElem?_eq_some_iff.1 h).1
theorem At3.c0 (h:At3 T w g x y z):w.cell? ⟨g,0,none⟩=some x:=by
 have h':w.heap[g]? = _:=h
 simp [World.cell?,h']
theorem At3.c1 (h:At3 T w g x y z):w.cell? ⟨g,1,none⟩=some y:=by
 have h':w.heap[g]? = _:=h
 simp [World.cell?,h']
theorem At3.c2 (h:At3 T w g x y z):w.cell? ⟨g,2,none⟩=some z:=by
 have h':w.heap[g]? = _:=h
 simp [World.cell?,h']
theorem At3.fz (h:At3 T w g x y z) (j:Nat):w.frozen? ⟨g,j,none⟩=false:=frozen_of_row w g j _ T h
theorem At3.kept {row:Option Nat} (h:At3 T w g x y z) (hg:w.grownBy w' row) (hne:some g≠row):At3 T w' g x y z:=by
 unfold At3
 rw [hg.block g h.lt hne]
 exact h
theorem At3.below {B:Nat} (h:At3 T w g x y z) (hb:Below B w w') (hg:g<B):At3 T w' g x y z:=by
 unfold At3
 rw [hb.block g hg]
 exact h
theorem At3.belowAll (h:At3 T w g x y z) (hb:Below w.heap.size w w'):At3 T w' g x y z:=h.below hb h.lt
theorem At3.alloc (h:At3 T w g x y z) (o:Obj):At3 T (w.alloc o) g x y z:=h.below ((Below.refl w.heap.size w).alloc (Nat.le_refl _) o) h.lt
theorem At3.drew (h:At3 T w g x y z):At3 T w.drew g x y z:=h
theorem At3.drewN (h:At3 T w g x y z) (n:Nat):At3 T (w.drewN n) g x y z:=h
theorem At3.new (w:World) (T:TypeId) (x y z:Value):At3 T (w.alloc (.cells #[x,y,z] T)) w.heap.size x y z:=by
 unfold At3 World.alloc
 simp
theorem At3.set1 (h:At3 T w g x y z) (v:Value):At3 T (w.setCell ⟨g,1,none⟩ v) g x v z:=by
 have h':w.heap[g]? = _:=h
 unfold At3 World.setCell
 simp [Array.getElem?_modify,h']
theorem At3.set2 (h:At3 T w g x y z) (v:Value):At3 T (w.setCell ⟨g,2,none⟩ v) g x y v:=by
 have h':w.heap[g]? = _:=h
 unfold At3 World.setCell
 simp [Array.getElem?_modify,h']
theorem At3.setOther (h:At3 T w g x y z) (p:Addr) (hp:p.block≠g) (v:Value):At3 T (w.setCell p v) g x y z:=by
 unfold At3
 rw [Below.heap_setCell _ _ _ _ (by omega)]
 exact h
end
section
variable {a b c:World} {row:Option Nat}
theorem gtrans (h:a.grownBy b row) (k:b.grownBy c row):a.grownBy c row:=
 ⟨k.os.trans h.os,k.tape.trans h.tape,k.output.trans h.output,Nat.le_trans h.size k.size,fun i hi hn=>(k.block i (Nat.lt_of_lt_of_le hi h.size) hn).trans (h.block i hi hn)⟩
theorem gdrew (h:a.grownBy b row):a.grownBy b.drew row:=⟨h.os,h.tape,h.output,h.size,h.block⟩
theorem gdrewN (h:a.grownBy b row) (n:Nat):a.grownBy (b.drewN n) row:=⟨h.os,h.tape,h.output,h.size,h.block⟩
theorem bdrewN {B:Nat} (h:Below B a b) (n:Nat):Below B a (b.drewN n):=⟨h.os,h.tape,h.output,h.size,h.block⟩
theorem galloc (h:a.grownBy b row) (o:Obj):a.grownBy (b.alloc o) row:=gtrans h (World.grownBy_alloc b o row)
theorem gset (h:a.grownBy b row) (p:Addr) (hp:some p.block=row) (v:Value):a.grownBy (b.setCell p v) row:=
 gtrans h ⟨rfl,rfl,rfl,by simp [World.setCell],fun i _ hn=>Below.heap_setCell _ _ _ _ (fun e=>hn (by rw [e];exact hp))⟩
theorem gbelow (h:Below a.heap.size a b):a.grownBy b row:=⟨h.os,h.tape,h.output,h.size,fun i hi _=>h.block i hi⟩
theorem below_but {B g:Nat} (h:Below B a b) (k:b.grownBy c (some g)) (hB:B≤g) (hs:B≤b.heap.size):Below B a c:=
 h.grown k hs (fun i e=>by cases e;exact hB)
end
end Go.Proofs.YtgoffkfpdigeeaaGreatDoor
namespace Go.Proofs.YtgoffkfpdigeeaaGreatDoor
open Go.RowKit
def errV (e:Int):Value:=if e=0 then .nilIface else .iface 159 (.agg #[.int .i64 e])
theorem errV_no {e:Int} (h:e≠0):errV e=.iface 159 (.agg #[.int .i64 e]):=if_neg h
def Cu (w:World) (g:Nat) (b:ByteArray) (k:Int) (e:Int):Prop:=At3 156 w g (.string b) (.int .i64 k) (errV e)
set_option maxRecDepth 10000 in
set_option maxHeartbeats 400000 in
theorem cnew_any (b:ByteArray) (w:World) :
  Calls Tryz.prog 72 #[.string b] w fun r w'=>r=.returned (.pointer (some ⟨w.heap.size,0,none⟩))∧w'=w.alloc (.cells #[.string b,.int .i64 0,.nilIface] 156):=by
 go_enter Tryz.func72,Tryz.ntmps72
 go_wp2
 go_ret
 exact ⟨rfl,rfl⟩
theorem assert_ok (w:World):(Instr.typeAssert .nilIface 97 159 true).run Tryz.prog w=.ok (.tuple #[.agg #[.int .i64 0],.bool false]) w:=by kernel_rfl
theorem assert_no (w:World) (e:Int):(Instr.typeAssert (.iface 159 (.agg #[.int .i64 e])) 97 159 true).run Tryz.prog w=.ok (.tuple #[.agg #[.int .i64 e],.bool true]) w:=by kernel_rfl
set_option maxRecDepth 10000 in
set_option maxHeartbeats 400000 in
theorem err_ok (w:World) (g:Nat) (x y:Value) (h:At3 156 w g x y .nilIface) :
  Calls Tryz.prog 74 #[.pointer (some ⟨g,0,none⟩)] w fun r w'=>r=.returned (.int .i64 0)∧Below w.heap.size w w':=by
 have c2:=h.c2
 have ta:=assert_ok
 go_enter Tryz.func74,Tryz.ntmps74
 go_wp2
 go_ret
 exact ⟨rfl,(Below.refl _ _).alloc (Nat.le_refl _) _⟩
set_option maxRecDepth 10000 in
set_option maxHeartbeats 400000 in
theorem err_no (w:World) (g:Nat) (x y:Value) (e:Int) (h:At3 156 w g x y (.iface 159 (.agg #[.int .i64 e]))) :
  Calls Tryz.prog 74 #[.pointer (some ⟨g,0,none⟩)] w fun r w'=>r=.returned (.int .i64 e)∧Below w.heap.size w w':=by
 have c2:=h.c2
 have ta:=assert_no
 go_enter Tryz.func74,Tryz.ntmps74
 go_wp2
 go_ret
 exact ⟨rfl,(Below.refl _ _).alloc (Nat.le_refl _) _⟩
theorem err_any (w:World) (g:Nat) (b:ByteArray) (k e:Int) (h:Cu w g b k e) :
  Calls Tryz.prog 74 #[.pointer (some ⟨g,0,none⟩)] w fun r w'=>r=.returned (.int .i64 e)∧Below w.heap.size w w':=by
 by_cases he:e=0
 ·subst he;exact err_ok w g _ _ h
 ·unfold Cu at h;rw [errV_no he] at h;exact err_no w g _ _ e h
set_option maxRecDepth 10000 in
set_option maxHeartbeats 400000 in
theorem fail_zero (w:World) (g:Nat) :
  Calls Tryz.prog 76 #[.pointer (some ⟨g,0,none⟩),.int .i64 0] w fun r w'=>r=.returned (.tuple #[])∧w'=w:=by
 go_enter Tryz.func76,Tryz.ntmps76
 go_wp2_with fail
 go_end0
 exact ⟨rfl,rfl⟩
set_option maxRecDepth 10000 in
set_option maxHeartbeats 400000 in
theorem fail_had (w:World) (g:Nat) (b:ByteArray) (k e d:Int) (h:Cu w g b k e) (he:e≠0) (hd:d≠0) :
  Calls Tryz.prog 76 #[.pointer (some ⟨g,0,none⟩),.int .i64 d] w fun r w'=>r=.returned (.tuple #[])∧Below w.heap.size w w':=by
 have hd':(d != 0)=true:=by simpa using hd
 have he':(e==0)=false:=by simpa using he
 go_enter Tryz.func76,Tryz.ntmps76
 go_wp2_with fail
 refine (err_any w g b k e h).mono ?_
 rintro r w1 ⟨rfl,hb⟩
 go_wp2_with fail
 go_end0
 exact ⟨rfl,hb⟩
set_option maxRecDepth 10000 in
set_option maxHeartbeats 400000 in
theorem fail_new (w:World) (g:Nat) (b:ByteArray) (k d:Int) (h:Cu w g b k 0) (hd:d≠0) :
  Calls Tryz.prog 76 #[.pointer (some ⟨g,0,none⟩),.int .i64 d] w fun r w'=>r=.returned (.tuple #[])∧Cu w' g b k d∧w.grownBy w' (some g):=by
 have hd':(d != 0)=true:=by simpa using hd
 go_enter Tryz.func76,Tryz.ntmps76
 go_wp2_with fail
 refine (err_any w g b k 0 h).mono ?_
 rintro r w1 ⟨rfl,hb⟩
 have h1:Cu w1 g b k 0:=h.belowAll hb
 have c2:=h1.c2
 have f2:=h1.fz 2
 go_wp2_with fail
 go_end0
 exact ⟨rfl,by unfold Cu;rw [errV_no hd];exact h1.set2 _,gset (gbelow hb) _ rfl _⟩
theorem fail_any (w:World) (g:Nat) (b:ByteArray) (k e d:Int) (h:Cu w g b k e) :
  Calls Tryz.prog 76 #[.pointer (some ⟨g,0,none⟩),.int .i64 d] w fun r w'=>r=.returned (.tuple #[])∧Cu w' g b k (if e=0 then d else e)∧w.grownBy w' (some g):=by
 by_cases hd:d=0
 ·subst hd
  refine (fail_zero w g).mono ?_
  rintro r w' ⟨rfl,rfl⟩
  refine ⟨rfl,?_,World.grownBy.refl _ _⟩
  split
  ·rename_i he;rw [he] at h;exact h
  ·exact h
 ·by_cases he:e=0
  ·subst he
   rw [if_pos rfl]
   exact fail_new w g b k d h hd
  ·rw [if_neg he]
   refine (fail_had w g b k e d h he hd).mono ?_
   rintro r w' ⟨rfl,hb⟩
   exact ⟨rfl,h.belowAll hb,gbelow hb⟩
set_option maxRecDepth 10000 in
set_option maxHeartbeats 400000 in
theorem left_any (w:World) (g:Nat) (b:ByteArray) (k e:Int) (h:Cu w g b k e) (hs:b.size≤maxLen) (h0:0≤k) (h1:k≤b.size) :
  Calls Tryz.prog 75 #[.pointer (some ⟨g,0,none⟩)] w fun r w'=>r=.returned (.int .i64 ((b.size:Int)-k))∧∃n,w'=w.drewN n:=by
 unfold maxLen at hs
 have c0:=h.c0
 have c1:=h.c1
 go_enter Tryz.func75,Tryz.ntmps75
 go_wp2_with fail
 go_quiet (fail)
 go_wp2_with fail
 go_ret
 exact ⟨rfl,_,rfl⟩
end Go.Proofs.YtgoffkfpdigeeaaGreatDoor
namespace Go.Proofs.YtgoffkfpdigeeaaGreatDoor
open Go.RowKit
theorem cells_take_all (M:Array Value) (l:List Value) (n:Nat) (hM:M.size=n):M.toList.take 0++l++M.toList.drop (0+n)=l:=by
 rw [List.take_zero,List.nil_append,List.drop_of_length_le (by rw [Array.length_toList];omega),List.append_nil]
set_option maxRecDepth 10000 in
set_option maxHeartbeats 400000 in
theorem clone_none (w:World) :
  Calls Tryz.prog 174 #[.string ⟨#[]⟩] w fun r w'=>r=.returned (.string ⟨#[]⟩)∧Below w.heap.size w w':=by
 go_enter Tryz.func174,Tryz.ntmps174
 go_wp2_with fail
 go_ret
 exact ⟨rfl,Below.refl _ _⟩
set_option maxRecDepth 10000 in
set_option maxHeartbeats 400000 in
theorem clone_some (s:ByteArray) (w:World) (h0:s.size≠0) (hs:s.size≤281474976710656) :
  Calls Tryz.prog 174 #[.string s] w fun r w'=>r=.returned (.string s)∧Below w.heap.size w w':=by
 obtain ⟨i,hi,hz,hsz,hby⟩:=info_parts (P:=Tryz.prog) (e:=5) (z:=.int .u8 0) (size:=1) (bytes:=1) (by kernel_rfl)
 have hone:Tryz.prog.cellsOf 5=1:=by simp [Program.cellsOf,hi,hsz]
 obtain ⟨M,hM,hmk⟩:∃M:Array Value,M.size=s.size∧∀W:World,(Instr.makeSlice 85 (.int .i64 (s.size:Int)) (.int .i64 (s.size:Int))).run Tryz.prog W=.ok (.slice (some ⟨W.heap.size,0,none⟩) s.size s.size) (W.alloc (.cells M 5)):=by
  refine ⟨madeCells (Value.int .u8 0).cells (s.size*i.size),by rw [size_madeCells,hsz];simp,fun W=>?_⟩
  have h:=run_make (P:=Tryz.prog) W 85 5 i (.int .u8 0) Tryz.underlying85 hi hz .i64 .i64 (s.size:Int) (s.size:Int) (by omega) (Int.le_refl _) (by rw [hby];omega) (by omega)
  simpa using h
 have hcp:=Lib.run_copy_row_string (P:=Tryz.prog) (w.alloc (.cells M 5)) 85 9 3 5 w.heap.size 0 s.size s.size s M 5 Tryz.underlying85 (by rw [hi];simp [hsz]) (heap_alloc_new w _) (Nat.le_refl _) (by omega)
 rw [cells_take_all M _ s.size hM] at hcp
 have hlen:(Lib.byteCells s.data.toList).length=s.size:=by rw [Lib.byteCells_length,← Lib.size_eq]
 have hrow:((w.alloc (.cells M 5)).setRow w.heap.size (Lib.byteCells s.data.toList).toArray).heap[w.heap.size]? = some (.cells (Lib.byteCells s.data.toList).toArray 5 (0,0)):=
  setRow_heap _ _ M _ 5 (0,0) (heap_alloc_new w _)
 generalize hR:(w.alloc (.cells M 5)).setRow w.heap.size (Lib.byteCells s.data.toList).toArray=R at *
 have hus:=Lib.run_unsafeString_row (P:=Tryz.prog) R 153 3 9 5 Tryz.underlying153 hone w.heap.size s.size (by unfold World.shape?;rw [hrow];simp [hlen]) s.data.toList (fun e=>h0 (by rw [Lib.size_eq,e];rfl)) (by rw [← Lib.size_eq];omega) (by rw [← Lib.size_eq];omega)
  (fun j x hx=>Lib.cells_of_row hrow s.size j _ (by rw [List.take_of_length_le (by simp [hlen])];simp [Lib.byteCells,hx]))
 rw [← Lib.size_eq] at hus
 have hB:Below w.heap.size w R:=by
  rw [← hR]
  exact ((Below.refl _ w).alloc (Nat.le_refl _) _).trans ⟨rfl,rfl,rfl,by simp,fun k hk=>setRow_other _ _ _ _ (by omega)⟩
 clear hR hrow hlen hone hi
 go_enter Tryz.func174,Tryz.ntmps174
 go_wp2_with fail
 go_ret
 exact ⟨rfl,Lib.below_freeze hB (p:=⟨w.heap.size,0,none⟩) (Nat.le_refl _) _⟩
set_option maxRecDepth 10000 in
set_option maxHeartbeats 400000 in
theorem clone_any (s:ByteArray) (w:World) (hs:s.size≤281474976710656) :
  Calls Tryz.prog 161 #[.string s] w fun r w'=>r=.returned (.string s)∧Below w.heap.size w w':=by
 have hc:Calls Tryz.prog 174 #[.string s] w fun r w'=>r=.returned (.string s)∧Below w.heap.size w w':=by
  by_cases h0:s.size=0
  ·obtain rfl:s=⟨#[]⟩:=ByteArray.ext (Array.eq_empty_of_size_eq_zero h0)
   exact clone_none w
  ·exact clone_some s w h0 hs
 have HC:Hid (Calls Tryz.prog 174 #[.string s] w fun r w'=>r=.returned (.string s)∧Below w.heap.size w w'):=hc
 clear hc
 go_enter Tryz.func161,Tryz.ntmps161
 go_wp2_with fail
 refine HC.out.mono ?_
 rintro r w' ⟨rfl,hb⟩
 go_wp2_with fail
 go_ret
 exact ⟨rfl,hb⟩
end Go.Proofs.YtgoffkfpdigeeaaGreatDoor
namespace Go.Proofs.YtgoffkfpdigeeaaGreatDoor
open Go.RowKit
def num (b:ByteArray) (k:Nat):Nat × Nat × Nat:=dec 0 0 (b.data.toList.drop k)
def pByte (b:ByteArray) (k:Nat) (e:Int):Int × Nat × Int:=
 if e≠0 then (0,k,e) else if h:k<b.size then ((b[k].toNat:Int),k+1,0) else (0,k,2)
def pBytes (b:ByteArray) (k:Nat) (e n:Int):ByteArray × Nat × Int:=
 if e≠0 then (⟨#[]⟩,k,e) else if n<0 then (⟨#[]⟩,k,1) else if (b.size:Int)-k<n then (⟨#[]⟩,k,2) else (b.extract k (k+n.toNat),k+n.toNat,0)
def pUint (b:ByteArray) (k:Nat) (e most:Int):Int × Nat × Int:=
 if e≠0 then (0,k,e) else if (num b k).2.2≠0 then (0,k,((num b k).2.2:Int)) else if most<(num b k).1∨16777216<(num b k).1 then (0,k,19) else (((num b k).1:Int),k+(num b k).2.1,0)
def pInt (b:ByteArray) (k:Nat) (e:Int):Int × Nat × Int:=
 if e≠0 then (0,k,e) else if (num b k).2.2≠0 then (0,k,((num b k).2.2:Int)) else (zag (num b k).1,k+(num b k).2.1,0)
def pText (b:ByteArray) (k:Nat) (e most:Int):ByteArray × Nat × Int:=
 if e≠0 then (⟨#[]⟩,k,e) else if (num b k).2.2≠0 then (⟨#[]⟩,k,((num b k).2.2:Int)) else if max most 0<(num b k).1∨16777216<(num b k).1 then (⟨#[]⟩,k,19)
 else if (b.size:Int)-(k+(num b k).2.1:Nat)<(num b k).1 then (⟨#[]⟩,k,2) else (b.extract (k+(num b k).2.1) (k+(num b k).2.1+(num b k).1),k+(num b k).2.1+(num b k).1,0)
theorem list_size (s:ByteArray):s.data.toList.length=s.size:=by rw [Array.length_toList];rfl
theorem num_ok (b:ByteArray) (k:Nat) (h:(num b k).2.2=0) (hk:k≤b.size):(num b k).1<18446744073709551616∧1≤(num b k).2.1∧k+(num b k).2.1≤b.size:=by
 obtain ⟨h1,h2,_,h4,_⟩:=put_dec (b.data.toList.drop k) (num b k).1 (num b k).2.1 (show num b k=_ from Prod.ext rfl (Prod.ext rfl h))
 rw [List.length_drop,list_size] at h4
 exact ⟨h1,h2,by omega⟩
theorem got_num (b:ByteArray) (k:Nat) (hk:k≤b.size):got b.data.toList (k:Int)=fin k (num b k):=got_in _ _ (by rw [list_size];exact hk)
theorem got_yes (b:ByteArray) (k:Nat) (hk:k≤b.size) (h:(num b k).2.2=0):got b.data.toList (k:Int)=(((num b k).1:Int),(k:Int)+((num b k).2.1:Int),0):=by
 rw [got_num b k hk];unfold fin;rw [if_pos h]
theorem got_no (b:ByteArray) (k:Nat) (hk:k≤b.size) (h:(num b k).2.2≠0):got b.data.toList (k:Int)=(0,0,((num b k).2.2:Int)):=by
 rw [got_num b k hk];unfold fin;rw [if_neg h]
theorem pByte_at (b:ByteArray) (k:Nat) (e:Int) (hk:k≤b.size):k≤(pByte b k e).2.1∧(pByte b k e).2.1≤b.size:=by
 unfold pByte;split
 ·exact ⟨Nat.le_refl _,hk⟩
 split
 ·exact ⟨by dsimp only;omega,by dsimp only;omega⟩
 ·exact ⟨Nat.le_refl _,hk⟩
theorem pBytes_at (b:ByteArray) (k:Nat) (e n:Int) (hk:k≤b.size):k≤(pBytes b k e n).2.1∧(pBytes b k e n).2.1≤b.size:=by
 unfold pBytes;split
 ·exact ⟨Nat.le_refl _,hk⟩
 split
 ·exact ⟨Nat.le_refl _,hk⟩
 split
 ·exact ⟨Nat.le_refl _,hk⟩
 ·exact ⟨by dsimp only;omega,by dsimp only;omega⟩
theorem pUint_at (b:ByteArray) (k:Nat) (e m:Int) (hk:k≤b.size):k≤(pUint b k e m).2.1∧(pUint b k e m).2.1≤b.size:=by
 unfold pUint;split
 ·exact ⟨Nat.le_refl _,hk⟩
 split
 ·exact ⟨Nat.le_refl _,hk⟩
 split
 ·exact ⟨Nat.le_refl _,hk⟩
 ·have:=num_ok b k (by omega) hk;exact ⟨by dsimp only;omega,by dsimp only;omega⟩
theorem pInt_at (b:ByteArray) (k:Nat) (e:Int) (hk:k≤b.size):k≤(pInt b k e).2.1∧(pInt b k e).2.1≤b.size:=by
 unfold pInt;split
 ·exact ⟨Nat.le_refl _,hk⟩
 split
 ·exact ⟨Nat.le_refl _,hk⟩
 ·have:=num_ok b k (by omega) hk;exact ⟨by dsimp only;omega,by dsimp only;omega⟩
theorem pText_at (b:ByteArray) (k:Nat) (e m:Int) (hk:k≤b.size):k≤(pText b k e m).2.1∧(pText b k e m).2.1≤b.size:=by
 unfold pText;split
 ·exact ⟨Nat.le_refl _,hk⟩
 split
 ·exact ⟨Nat.le_refl _,hk⟩
 split
 ·exact ⟨Nat.le_refl _,hk⟩
 split
 ·exact ⟨Nat.le_refl _,hk⟩
 ·have:=num_ok b k (by omega) hk;exact ⟨by dsimp only;omega,by dsimp only;omega⟩
end Go.Proofs.YtgoffkfpdigeeaaGreatDoor
namespace Go.Proofs.YtgoffkfpdigeeaaGreatDoor
open Go.RowKit
theorem Cu.to {w':World} {g:Nat} {b:ByteArray} {k k' e e':Int} (h:Cu w' g b k' e') (hk:k'=k) (he:e'=e):Cu w' g b k e:=by subst hk;subst he;exact h
set_option maxRecDepth 10000 in
set_option maxHeartbeats 400000 in
theorem byte_err (w:World) (g:Nat) (b:ByteArray) (k e:Int) (h:Cu w g b k e) (he:e≠0) :
  Calls Tryz.prog 115 #[.pointer (some ⟨g,0,none⟩)] w fun r w'=>r=.returned (.int .u8 0)∧Below w.heap.size w w':=by
 have he':(e != 0)=true:=by simpa using he
 go_enter Tryz.func115,Tryz.ntmps115
 go_wp2_with fail
 refine (err_any w g b k e h).mono ?_
 rintro r w1 ⟨rfl,hb⟩
 go_wp2_with fail
 go_ret
 exact ⟨rfl,hb⟩
set_option maxRecDepth 10000 in
set_option maxHeartbeats 400000 in
theorem byte_cut (w:World) (g:Nat) (b:ByteArray) (k:Int) (h:Cu w g b k 0) (hs:b.size≤maxLen) (hk:k=b.size) :
  Calls Tryz.prog 115 #[.pointer (some ⟨g,0,none⟩)] w fun r w'=>r=.returned (.int .u8 0)∧Cu w' g b k 2∧w.grownBy w' (some g):=by
 have hk':(b.size:Int)-k=0:=by omega
 have HK:Hid (k=b.size):=hk
 clear hk
 go_enter Tryz.func115,Tryz.ntmps115
 go_wp2_with fail
 refine (err_any w g b k 0 h).mono ?_
 rintro r w1 ⟨rfl,hb⟩
 have h1:Cu w1 g b k 0:=h.belowAll hb
 go_wp2_with fail
 refine (left_any w1 g b k 0 h1 hs (by have:=HK.out;omega) (by have:=HK.out;omega)).mono ?_
 rintro r w2 ⟨rfl,n,rfl⟩
 go_wp2_with fail
 refine (fail_any _ g b k 0 2 (show Cu (w1.drewN n) g b k 0 from h1)).mono ?_
 rintro r w3 ⟨rfl,h3,hg⟩
 go_wp2_with fail
 go_ret
 exact ⟨rfl,h3,gtrans (gdrewN (gbelow hb) n) hg⟩
set_option maxRecDepth 10000 in
set_option maxHeartbeats 400000 in
theorem byte_in (w:World) (g:Nat) (b:ByteArray) (k:Nat) (h:Cu w g b k 0) (hs:b.size≤maxLen) (hk:k<b.size) :
  Calls Tryz.prog 115 #[.pointer (some ⟨g,0,none⟩)] w fun r w'=>r=.returned (.int .u8 (b[k].toNat:Int))∧Cu w' g b ((k+1:Nat):Int) 0∧w.grownBy w' (some g):=by
 have hs':=hs
 unfold maxLen at hs'
 have hk':¬((b.size:Int)-k=0):=by omega
 go_enter Tryz.func115,Tryz.ntmps115
 go_wp2_with fail
 refine (err_any w g b k 0 h).mono ?_
 rintro r w1 ⟨rfl,hb⟩
 have h1:Cu w1 g b k 0:=h.belowAll hb
 go_wp2_with fail
 refine (left_any w1 g b k 0 h1 hs (by omega) (by omega)).mono ?_
 rintro r w2 ⟨rfl,n,rfl⟩
 have h2:Cu (w1.drewN n) g b k 0:=h1
 have hb2:Below w.heap.size w (w1.drewN n):=bdrewN hb n
 generalize w1.drewN n=w2 at *
 have c0:=h2.c0
 have c1:=h2.c1
 have f1:=h2.fz 1
 go_wp2_with fail
 go_quiet (fail)
 go_wp2_with fail
 go_ret
 exact ⟨rfl,Cu.to ((At3.drewN h2 _).set1 _) (by omega) rfl,gset (gdrewN (gbelow hb2) _) _ rfl _⟩
theorem byte_any (w:World) (g:Nat) (b:ByteArray) (k:Nat) (e:Int) (h:Cu w g b k e) (hs:b.size≤maxLen) (hk:k≤b.size) :
  Calls Tryz.prog 115 #[.pointer (some ⟨g,0,none⟩)] w fun r w'=>r=.returned (.int .u8 (pByte b k e).1)∧Cu w' g b ((pByte b k e).2.1:Nat) (pByte b k e).2.2∧w.grownBy w' (some g):=by
 by_cases he:e=0
 ·subst he
  by_cases hlt:k<b.size
  ·have hp:pByte b k 0=((b[k].toNat:Int),k+1,0):=by unfold pByte;rw [if_neg (by simp),dif_pos hlt]
   rw [hp]
   exact byte_in w g b k h hs hlt
  ·have hp:pByte b k 0=(0,k,2):=by unfold pByte;rw [if_neg (by simp),dif_neg hlt]
   rw [hp]
   exact byte_cut w g b k h hs (by omega)
 ·have hp:pByte b k e=(0,k,e):=by unfold pByte;rw [if_pos he]
  rw [hp]
  refine (byte_err w g b k e h he).mono ?_
  rintro r w' ⟨rfl,hb⟩
  exact ⟨rfl,h.belowAll hb,gbelow hb⟩
set_option maxRecDepth 10000 in
set_option maxHeartbeats 400000 in
theorem take_cut (w:World) (g:Nat) (b:ByteArray) (k:Int) (f:Nat) (n:Int) (h:Cu w g b k 0) (hs:b.size≤maxLen) (hf:f≤b.size) (hn:(b.size:Int)-f<n) :
  Calls Tryz.prog 147 #[.pointer (some ⟨g,0,none⟩),.int .i64 f,.int .i64 n] w fun r w'=>r=.returned (.string ⟨#[]⟩)∧Cu w' g b k 2∧w.grownBy w' (some g):=by
 have hs':=hs
 unfold maxLen at hs'
 have c0:=h.c0
 go_enter Tryz.func147,Tryz.ntmps147
 go_wp2_with fail
 refine (fail_any w g b k 0 2 h).mono ?_
 rintro r w3 ⟨rfl,h3,hg⟩
 go_wp2_with fail
 go_ret
 exact ⟨rfl,h3,hg⟩
set_option maxRecDepth 10000 in
set_option maxHeartbeats 400000 in
theorem take_in (w:World) (g:Nat) (b:ByteArray) (k:Int) (f n:Nat) (h:Cu w g b k 0) (hs:b.size≤281474976710656) (hf:f+n≤b.size) :
  Calls Tryz.prog 147 #[.pointer (some ⟨g,0,none⟩),.int .i64 f,.int .i64 n] w fun r w'=>r=.returned (.string (b.extract f (f+n)))∧Cu w' g b ((f+n:Nat):Int) 0∧w.grownBy w' (some g):=by
 have c0:=h.c0
 have c1:=h.c1
 have f1:=h.fz 1
 have hx:(b.extract f (f+n)).size≤281474976710656:=by rw [ByteArray.size_extract];omega
 have hle:(f:Int)+n≤b.size:=by omega
 have g0:(0:Int)≤(f:Int)+n:=by omega
 have g1:(f:Int)≤(f:Int)+n:=by omega
 go_enter Tryz.func147,Tryz.ntmps147
 go_wp2_with fail
 have h2:Cu (w.setCell ⟨g,1,none⟩ (.int .i64 ((f:Int)+n))) g b ((f:Int)+n) 0:=h.set1 _
 have hg2:w.grownBy (w.setCell ⟨g,1,none⟩ (.int .i64 ((f:Int)+n))) (some g):=gset (World.grownBy.refl _ _) _ rfl _
 generalize w.setCell ⟨g,1,none⟩ (.int .i64 ((f:Int)+n))=w2 at *
 have d0:=h2.c0
 have d1:=h2.c1
 go_region_held3 (fun W=>W.cell? ⟨g,0,none⟩=some (.string b)∧W.cell? ⟨g,1,none⟩=some (.int .i64 ((f:Int)+n))) (first|go_keep|(exact ⟨h3.c0,h3.c1⟩))
  ((go_at_call 161;refine (clone_any _ _ hx).mono ?_;rintro r w3 ⟨rfl,hb⟩;have h3:=(At3.drew h2).belowAll hb))
 go_wp2_with fail
 go_ret
 exact ⟨rfl,Cu.to h3 (by omega) rfl,gtrans (gdrew hg2) (gbelow hb)⟩
set_option maxRecDepth 10000 in
set_option maxHeartbeats 400000 in
theorem bytes_err (w:World) (g:Nat) (b:ByteArray) (k e n:Int) (h:Cu w g b k e) (he:e≠0) :
  Calls Tryz.prog 116 #[.pointer (some ⟨g,0,none⟩),.int .i64 n] w fun r w'=>r=.returned (.string ⟨#[]⟩)∧Below w.heap.size w w':=by
 have he':(e != 0)=true:=by simpa using he
 go_enter Tryz.func116,Tryz.ntmps116
 go_wp2_with fail
 refine (err_any w g b k e h).mono ?_
 rintro r w1 ⟨rfl,hb⟩
 go_wp2_with fail
 go_ret
 exact ⟨rfl,hb⟩
set_option maxRecDepth 10000 in
set_option maxHeartbeats 400000 in
theorem bytes_neg (w:World) (g:Nat) (b:ByteArray) (k n:Int) (h:Cu w g b k 0) (hn:n<0) :
  Calls Tryz.prog 116 #[.pointer (some ⟨g,0,none⟩),.int .i64 n] w fun r w'=>r=.returned (.string ⟨#[]⟩)∧Cu w' g b k 1∧w.grownBy w' (some g):=by
 go_enter Tryz.func116,Tryz.ntmps116
 go_wp2_with fail
 refine (err_any w g b k 0 h).mono ?_
 rintro r w1 ⟨rfl,hb⟩
 have h1:Cu w1 g b k 0:=h.belowAll hb
 go_wp2_with fail
 refine (fail_any w1 g b k 0 1 h1).mono ?_
 rintro r w3 ⟨rfl,h3,hg⟩
 go_wp2_with fail
 go_ret
 exact ⟨rfl,h3,gtrans (gbelow hb) hg⟩
set_option maxRecDepth 10000 in
set_option maxHeartbeats 400000 in
theorem bytes_go (w:World) (g:Nat) (b:ByteArray) (k n:Int) (h:Cu w g b k 0) (hn:0≤n) (s:ByteArray) (k' e':Int)
  (ht:Hid (∀W:World,Cu W g b k 0→Calls Tryz.prog 147 #[.pointer (some ⟨g,0,none⟩),.int .i64 k,.int .i64 n] W fun r w'=>r=.returned (.string s)∧Cu w' g b k' e'∧W.grownBy w' (some g))) :
  Calls Tryz.prog 116 #[.pointer (some ⟨g,0,none⟩),.int .i64 n] w fun r w'=>r=.returned (.string s)∧Cu w' g b k' e'∧w.grownBy w' (some g):=by
 go_enter Tryz.func116,Tryz.ntmps116
 go_wp2_with fail
 refine (err_any w g b k 0 h).mono ?_
 rintro r w1 ⟨rfl,hb⟩
 have h1:Cu w1 g b k 0:=h.belowAll hb
 have c1:=h1.c1
 go_wp2_with fail
 refine (ht.out _ h1).mono ?_
 rintro r w3 ⟨rfl,h3,hg⟩
 go_wp2_with fail
 go_ret
 exact ⟨rfl,h3,gtrans (gbelow hb) hg⟩
theorem max48:281474976710656≤maxLen:=by decide
theorem bytes_any (w:World) (g:Nat) (b:ByteArray) (k:Nat) (e n:Int) (h:Cu w g b k e) (hs:b.size≤281474976710656) (hk:k≤b.size) :
  Calls Tryz.prog 116 #[.pointer (some ⟨g,0,none⟩),.int .i64 n] w fun r w'=>r=.returned (.string (pBytes b k e n).1)∧Cu w' g b ((pBytes b k e n).2.1:Nat) (pBytes b k e n).2.2∧w.grownBy w' (some g):=by
 by_cases he:e=0
 ·subst he
  by_cases hn:n<0
  ·have hp:pBytes b k 0 n=(⟨#[]⟩,k,1):=by unfold pBytes;rw [if_neg (by simp),if_pos hn]
   rw [hp]
   exact bytes_neg w g b k n h hn
  ·by_cases hc:(b.size:Int)-k<n
   ·have hp:pBytes b k 0 n=(⟨#[]⟩,k,2):=by unfold pBytes;rw [if_neg (by simp),if_neg hn,if_pos hc]
    rw [hp]
    exact bytes_go w g b k n h (by omega) _ _ _ (fun W hW=>take_cut W g b k k n hW (Nat.le_trans hs max48) hk hc)
   ·have hp:pBytes b k 0 n=(b.extract k (k+n.toNat),k+n.toNat,0):=by unfold pBytes;rw [if_neg (by simp),if_neg hn,if_neg hc]
    rw [hp]
    obtain ⟨m,rfl⟩:=Int.eq_ofNat_of_zero_le (show 0≤n by omega)
    exact bytes_go w g b k m h (by omega) _ _ _ (fun W hW=>take_in W g b k k m hW hs (by omega))
 ·have hp:pBytes b k e n=(⟨#[]⟩,k,e):=by unfold pBytes;rw [if_pos he]
  rw [hp]
  refine (bytes_err w g b k e n h he).mono ?_
  rintro r w' ⟨rfl,hb⟩
  exact ⟨rfl,h.belowAll hb,gbelow hb⟩
set_option maxRecDepth 10000 in
set_option maxHeartbeats 400000 in
theorem number_err (w:World) (g:Nat) (b:ByteArray) (k e m:Int) (h:Cu w g b k e) (he:e≠0) :
  Calls Tryz.prog 148 #[.pointer (some ⟨g,0,none⟩),.int .u64 m] w fun r w'=>r=.returned (.tuple #[.int .u64 0,.int .i64 0,.bool false])∧Below w.heap.size w w':=by
 have he':(e != 0)=true:=by simpa using he
 go_enter Tryz.func148,Tryz.ntmps148
 go_wp2_with fail
 refine (err_any w g b k e h).mono ?_
 rintro r w1 ⟨rfl,hb⟩
 go_wp2_with fail
 go_ret3
 exact ⟨rfl,hb⟩
set_option maxRecDepth 10000 in
set_option maxHeartbeats 400000 in
theorem number_bad (w:World) (g:Nat) (b:ByteArray) (k:Nat) (m:Int) (h:Cu w g b k 0) (er:Int) (hd:er≠0)
  (hget:Hid (∀W:World,Calls Tryz.prog 169 #[.string b,.int .i64 k] W fun e w'=>e=.returned (.tuple #[.int .u64 0,.int .i64 0,.int .i64 er])∧w'=W)) :
  Calls Tryz.prog 148 #[.pointer (some ⟨g,0,none⟩),.int .u64 m] w fun r w'=>r=.returned (.tuple #[.int .u64 0,.int .i64 0,.bool false])∧Cu w' g b k er∧w.grownBy w' (some g):=by
 have hd1:(er==0)=false:=by simpa using hd
 have hd2:(er != 0)=true:=by simpa using hd
 go_enter Tryz.func148,Tryz.ntmps148
 go_wp2_with fail
 refine (err_any w g b k 0 h).mono ?_
 rintro r w1 ⟨rfl,hb⟩
 have h1:Cu w1 g b k 0:=h.belowAll hb
 have c0:=h1.c0
 have c1:=h1.c1
 go_wp2_with fail
 go_quiet ((go_at_call 169;exact Calls.quiet_of_same (hget.out _)))
 go_wp2_with fail
 refine (fail_any _ g b k 0 er (At3.drewN h1 _)).mono ?_
 rintro r w3 ⟨rfl,h3,hg⟩
 go_wp2_with fail
 go_ret3
 exact ⟨rfl,h3,gtrans (gdrewN (gbelow hb) _) hg⟩
set_option maxRecDepth 10000 in
set_option maxHeartbeats 400000 in
theorem number_limit (w:World) (g:Nat) (b:ByteArray) (k:Nat) (m n nx:Int) (h:Cu w g b k 0) (hm:m<n)
  (hget:Hid (∀W:World,Calls Tryz.prog 169 #[.string b,.int .i64 k] W fun e w'=>e=.returned (.tuple #[.int .u64 n,.int .i64 nx,.int .i64 0])∧w'=W)) :
  Calls Tryz.prog 148 #[.pointer (some ⟨g,0,none⟩),.int .u64 m] w fun r w'=>r=.returned (.tuple #[.int .u64 0,.int .i64 0,.bool false])∧Cu w' g b k 19∧w.grownBy w' (some g):=by
 go_enter Tryz.func148,Tryz.ntmps148
 go_wp2_with fail
 refine (err_any w g b k 0 h).mono ?_
 rintro r w1 ⟨rfl,hb⟩
 have h1:Cu w1 g b k 0:=h.belowAll hb
 have c0:=h1.c0
 have c1:=h1.c1
 go_wp2_with fail
 go_quiet ((go_at_call 169;exact Calls.quiet_of_same (hget.out _)))
 go_wp2_with fail
 refine (fail_any _ g b k 0 19 (At3.drewN h1 _)).mono ?_
 rintro r w3 ⟨rfl,h3,hg⟩
 go_wp2_with fail
 go_ret3
 exact ⟨rfl,h3,gtrans (gdrewN (gbelow hb) _) hg⟩
set_option maxRecDepth 10000 in
set_option maxHeartbeats 400000 in
theorem number_in (w:World) (g:Nat) (b:ByteArray) (k:Nat) (m n nx:Int) (h:Cu w g b k 0) (hm:n≤m)
  (hget:Hid (∀W:World,Calls Tryz.prog 169 #[.string b,.int .i64 k] W fun e w'=>e=.returned (.tuple #[.int .u64 n,.int .i64 nx,.int .i64 0])∧w'=W)) :
  Calls Tryz.prog 148 #[.pointer (some ⟨g,0,none⟩),.int .u64 m] w fun r w'=>r=.returned (.tuple #[.int .u64 n,.int .i64 nx,.bool true])∧Cu w' g b k 0∧w.grownBy w' (some g):=by
 go_enter Tryz.func148,Tryz.ntmps148
 go_wp2_with fail
 refine (err_any w g b k 0 h).mono ?_
 rintro r w1 ⟨rfl,hb⟩
 have h1:Cu w1 g b k 0:=h.belowAll hb
 have c0:=h1.c0
 have c1:=h1.c1
 go_wp2_with fail
 go_quiet ((go_at_call 169;exact Calls.quiet_of_same (hget.out _)))
 go_wp2_with fail
 go_ret3
 exact ⟨rfl,At3.drewN h1 _,gdrewN (gbelow hb) _⟩
def pNum (b:ByteArray) (k:Nat) (e m:Int):Int × Int × Bool × Int:=
 if e≠0 then (0,0,false,e) else if (num b k).2.2≠0 then (0,0,false,((num b k).2.2:Int)) else if m<(num b k).1 then (0,0,false,19) else (((num b k).1:Int),(k:Int)+((num b k).2.1:Int),true,0)
theorem number_any (w:World) (g:Nat) (b:ByteArray) (k:Nat) (e m:Int) (h:Cu w g b k e) (hs:b.size≤maxLen) (hk:k≤b.size) :
  Calls Tryz.prog 148 #[.pointer (some ⟨g,0,none⟩),.int .u64 m] w fun r w'=>r=.returned (.tuple #[.int .u64 (pNum b k e m).1,.int .i64 (pNum b k e m).2.1,.bool (pNum b k e m).2.2.1])∧Cu w' g b k (pNum b k e m).2.2.2∧w.grownBy w' (some g):=by
 have hget:=fun W=>get_any b (k:Int) W hs
 by_cases he:e=0
 ·subst he
  by_cases hd:(num b k).2.2=0
  ·rw [got_yes b k hk hd] at hget
   by_cases hm:m<(num b k).1
   ·have hp:pNum b k 0 m=(0,0,false,19):=by unfold pNum;rw [if_neg (by simp),if_neg (by simpa using hd),if_pos hm]
    rw [hp]
    exact number_limit w g b k m _ _ h hm hget
   ·have hp:pNum b k 0 m=(((num b k).1:Int),(k:Int)+((num b k).2.1:Int),true,0):=by unfold pNum;rw [if_neg (by simp),if_neg (by simpa using hd),if_neg hm]
    rw [hp]
    exact number_in w g b k m _ _ h (by omega) hget
  ·rw [got_no b k hk hd] at hget
   have hp:pNum b k 0 m=(0,0,false,((num b k).2.2:Int)):=by unfold pNum;rw [if_neg (by simp),if_pos hd]
   rw [hp]
   exact number_bad w g b k m h ((num b k).2.2:Int) (by omega) hget
 ·have hp:pNum b k e m=(0,0,false,e):=by unfold pNum;rw [if_pos he]
  rw [hp]
  refine (number_err w g b k e m h he).mono ?_
  rintro r w' ⟨rfl,hb⟩
  exact ⟨rfl,h.belowAll hb,gbelow hb⟩
end Go.Proofs.YtgoffkfpdigeeaaGreatDoor
namespace Go.Proofs.YtgoffkfpdigeeaaGreatDoor
open Go.RowKit
set_option maxRecDepth 10000 in
set_option maxHeartbeats 400000 in
theorem uint_no (w:World) (g:Nat) (b:ByteArray) (k:Nat) (e m M:Int) (h:Cu w g b k e) (e':Int) (hM:M=min m 16777216)
  (hn:Hid (∀W:World,Cu W g b k e→Calls Tryz.prog 148 #[.pointer (some ⟨g,0,none⟩),.int .u64 M] W fun r w'=>r=.returned (.tuple #[.int .u64 0,.int .i64 0,.bool false])∧Cu w' g b k e'∧W.grownBy w' (some g))) :
  Calls Tryz.prog 117 #[.pointer (some ⟨g,0,none⟩),.int .u64 m] w fun r w'=>r=.returned (.int .i64 0)∧Cu w' g b k e'∧w.grownBy w' (some g):=by
 have hc:(m≤16777216∧M=m)∨(16777216<m∧M=16777216):=by omega
 clear hM
 rcases hc with ⟨hm,rfl⟩|⟨hm,rfl⟩
 all_goals
  go_enter Tryz.func117,Tryz.ntmps117
  go_wp2_with fail
  refine (hn.out _ h).mono ?_
  rintro r w3 ⟨rfl,h3,hg⟩
  go_wp2_with fail
  go_ret
  exact ⟨rfl,h3,hg⟩
set_option maxRecDepth 10000 in
set_option maxHeartbeats 400000 in
theorem uint_yes (w:World) (g:Nat) (b:ByteArray) (k:Nat) (m M n nx:Int) (h:Cu w g b k 0) (hM:M=min m 16777216) (h0:0≤n) (h1:n≤16777216)
  (hn:Hid (∀W:World,Cu W g b k 0→Calls Tryz.prog 148 #[.pointer (some ⟨g,0,none⟩),.int .u64 M] W fun r w'=>r=.returned (.tuple #[.int .u64 n,.int .i64 nx,.bool true])∧Cu w' g b k 0∧W.grownBy w' (some g))) :
  Calls Tryz.prog 117 #[.pointer (some ⟨g,0,none⟩),.int .u64 m] w fun r w'=>r=.returned (.int .i64 n)∧Cu w' g b nx 0∧w.grownBy w' (some g):=by
 have hc:(m≤16777216∧M=m)∨(16777216<m∧M=16777216):=by omega
 clear hM
 rcases hc with ⟨hm,rfl⟩|⟨hm,rfl⟩
 all_goals
  go_enter Tryz.func117,Tryz.ntmps117
  go_wp2_with fail
  refine (hn.out _ h).mono ?_
  rintro r w3 ⟨rfl,h3,hg⟩
  have c1:=h3.c1
  have f1:=h3.fz 1
  go_wp2_with fail
  go_ret
  exact ⟨rfl,h3.set1 _,gset hg _ rfl _⟩
theorem uint_any (w:World) (g:Nat) (b:ByteArray) (k:Nat) (e m:Int) (h:Cu w g b k e) (hs:b.size≤maxLen) (hk:k≤b.size) :
  Calls Tryz.prog 117 #[.pointer (some ⟨g,0,none⟩),.int .u64 m] w fun r w'=>r=.returned (.int .i64 (pUint b k e m).1)∧Cu w' g b ((pUint b k e m).2.1:Nat) (pUint b k e m).2.2∧w.grownBy w' (some g):=by
 have hn:=fun W hW=>number_any W g b k e (min m 16777216) hW hs hk
 by_cases he:e=0
 ·subst he
  by_cases hd:(num b k).2.2=0
  ·by_cases hm:m<(num b k).1∨16777216<(num b k).1
   ·have hp:pUint b k 0 m=(0,k,19):=by unfold pUint;rw [if_neg (by simp),if_neg (by simpa using hd),if_pos hm]
    have hq:pNum b k 0 (min m 16777216)=(0,0,false,19):=by unfold pNum;rw [if_neg (by simp),if_neg (by simpa using hd),if_pos (by omega)]
    rw [hq] at hn
    rw [hp]
    exact uint_no w g b k 0 m _ h 19 rfl hn
   ·have hp:pUint b k 0 m=(((num b k).1:Int),k+(num b k).2.1,0):=by unfold pUint;rw [if_neg (by simp),if_neg (by simpa using hd),if_neg hm]
    have hq:pNum b k 0 (min m 16777216)=(((num b k).1:Int),(k:Int)+((num b k).2.1:Int),true,0):=by unfold pNum;rw [if_neg (by simp),if_neg (by simpa using hd),if_neg (by omega)]
    rw [hq] at hn
    rw [hp]
    exact uint_yes w g b k m _ _ _ h rfl (by omega) (by omega) hn
  ·have hp:pUint b k 0 m=(0,k,((num b k).2.2:Int)):=by unfold pUint;rw [if_neg (by simp),if_pos hd]
   have hq:pNum b k 0 (min m 16777216)=(0,0,false,((num b k).2.2:Int)):=by unfold pNum;rw [if_neg (by simp),if_pos hd]
   rw [hq] at hn
   rw [hp]
   exact uint_no w g b k 0 m _ h _ rfl hn
 ·have hp:pUint b k e m=(0,k,e):=by unfold pUint;rw [if_pos he]
  have hq:pNum b k e (min m 16777216)=(0,0,false,e):=by unfold pNum;rw [if_pos he]
  rw [hq] at hn
  rw [hp]
  exact uint_no w g b k e m _ h _ rfl hn
set_option maxRecDepth 10000 in
set_option maxHeartbeats 400000 in
theorem int_no (w:World) (g:Nat) (b:ByteArray) (k:Nat) (e:Int) (h:Cu w g b k e) (e':Int)
  (hn:Hid (∀W:World,Cu W g b k e→Calls Tryz.prog 148 #[.pointer (some ⟨g,0,none⟩),.int .u64 18446744073709551615] W fun r w'=>r=.returned (.tuple #[.int .u64 0,.int .i64 0,.bool false])∧Cu w' g b k e'∧W.grownBy w' (some g))) :
  Calls Tryz.prog 149 #[.pointer (some ⟨g,0,none⟩)] w fun r w'=>r=.returned (.int .i64 0)∧Cu w' g b k e'∧w.grownBy w' (some g):=by
 go_enter Tryz.func149,Tryz.ntmps149
 go_wp2_with fail
 refine (hn.out _ h).mono ?_
 rintro r w3 ⟨rfl,h3,hg⟩
 go_wp2_with fail
 go_ret
 exact ⟨rfl,h3,hg⟩
set_option maxRecDepth 10000 in
set_option maxHeartbeats 400000 in
theorem int_yes (w:World) (g:Nat) (b:ByteArray) (k:Nat) (n nx:Int) (h:Cu w g b k 0) (h0:0≤n) (h1:n≤18446744073709551615)
  (hn:Hid (∀W:World,Cu W g b k 0→Calls Tryz.prog 148 #[.pointer (some ⟨g,0,none⟩),.int .u64 18446744073709551615] W fun r w'=>r=.returned (.tuple #[.int .u64 n,.int .i64 nx,.bool true])∧Cu w' g b k 0∧W.grownBy w' (some g))) :
  Calls Tryz.prog 149 #[.pointer (some ⟨g,0,none⟩)] w fun r w'=>r=.returned (.int .i64 (zag n))∧Cu w' g b nx 0∧w.grownBy w' (some g):=by
 go_enter Tryz.func149,Tryz.ntmps149
 go_wp2_with fail
 refine (hn.out _ h).mono ?_
 rintro r w3 ⟨rfl,h3,hg⟩
 have c1:=h3.c1
 have f1:=h3.fz 1
 go_wp2_with fail
 refine (zag_any n _ h0 h1).mono ?_
 rintro r w4 ⟨rfl,rfl⟩
 go_wp2_with fail
 go_ret
 exact ⟨rfl,h3.set1 _,gset hg _ rfl _⟩
theorem int_any (w:World) (g:Nat) (b:ByteArray) (k:Nat) (e:Int) (h:Cu w g b k e) (hs:b.size≤maxLen) (hk:k≤b.size) :
  Calls Tryz.prog 149 #[.pointer (some ⟨g,0,none⟩)] w fun r w'=>r=.returned (.int .i64 (pInt b k e).1)∧Cu w' g b ((pInt b k e).2.1:Nat) (pInt b k e).2.2∧w.grownBy w' (some g):=by
 have hn:=fun W hW=>number_any W g b k e 18446744073709551615 hW hs hk
 by_cases he:e=0
 ·subst he
  by_cases hd:(num b k).2.2=0
  ·have hr:=(num_ok b k hd hk).1
   have hp:pInt b k 0=(zag (num b k).1,k+(num b k).2.1,0):=by unfold pInt;rw [if_neg (by simp),if_neg (by simpa using hd)]
   have hq:pNum b k 0 18446744073709551615=(((num b k).1:Int),(k:Int)+((num b k).2.1:Int),true,0):=by unfold pNum;rw [if_neg (by simp),if_neg (by simpa using hd),if_neg (by omega)]
   rw [hq] at hn
   rw [hp]
   exact int_yes w g b k ((num b k).1:Int) _ h (by omega) (by omega) hn
  ·have hp:pInt b k 0=(0,k,((num b k).2.2:Int)):=by unfold pInt;rw [if_neg (by simp),if_pos hd]
   have hq:pNum b k 0 18446744073709551615=(0,0,false,((num b k).2.2:Int)):=by unfold pNum;rw [if_neg (by simp),if_pos hd]
   rw [hq] at hn
   rw [hp]
   exact int_no w g b k 0 h _ hn
 ·have hp:pInt b k e=(0,k,e):=by unfold pInt;rw [if_pos he]
  have hq:pNum b k e 18446744073709551615=(0,0,false,e):=by unfold pNum;rw [if_pos he]
  rw [hq] at hn
  rw [hp]
  exact int_no w g b k e h _ hn
theorem text_cases (m M:Int) (hM:M=min (max m 0) 16777216):(m<0∧M=0)∨(m=0∧M=0)∨((0<m∧m≤16777216)∧M=m)∨(16777216<m∧M=16777216):=by omega
set_option maxRecDepth 10000 in
set_option maxHeartbeats 400000 in
theorem text_no (w:World) (g:Nat) (b:ByteArray) (k:Nat) (e m M:Int) (h:Cu w g b k e) (e':Int) (hM:M=min (max m 0) 16777216) (hm:m≤9223372036854775807)
  (hn:Hid (∀W:World,Cu W g b k e→Calls Tryz.prog 148 #[.pointer (some ⟨g,0,none⟩),.int .u64 M] W fun r w'=>r=.returned (.tuple #[.int .u64 0,.int .i64 0,.bool false])∧Cu w' g b k e'∧W.grownBy w' (some g))) :
  Calls Tryz.prog 151 #[.pointer (some ⟨g,0,none⟩),.int .i64 m] w fun r w'=>r=.returned (.string ⟨#[]⟩)∧Cu w' g b k e'∧w.grownBy w' (some g):=by
 have hc:=text_cases m M hM
 clear hM
 rcases hc with ⟨h1,rfl⟩|⟨rfl,rfl⟩|⟨⟨h1,h2⟩,rfl⟩|⟨h1,rfl⟩
 all_goals
  go_enter Tryz.func151,Tryz.ntmps151
  go_wp2_with fail
  refine (hn.out _ h).mono ?_
  rintro r w3 ⟨rfl,h3,hg⟩
  go_wp2_with fail
  go_ret
  exact ⟨rfl,h3,hg⟩
set_option maxRecDepth 10000 in
set_option maxHeartbeats 400000 in
theorem text_yes (w:World) (g:Nat) (b:ByteArray) (k:Nat) (m M n nx:Int) (h:Cu w g b k 0) (hM:M=min (max m 0) 16777216) (hm:m≤9223372036854775807) (h0:0≤n) (hn1:n≤16777216) (s:ByteArray) (k' e':Int)
  (hn:Hid (∀W:World,Cu W g b k 0→Calls Tryz.prog 148 #[.pointer (some ⟨g,0,none⟩),.int .u64 M] W fun r w'=>r=.returned (.tuple #[.int .u64 n,.int .i64 nx,.bool true])∧Cu w' g b k 0∧W.grownBy w' (some g)))
  (ht:Hid (∀W:World,Cu W g b k 0→Calls Tryz.prog 147 #[.pointer (some ⟨g,0,none⟩),.int .i64 nx,.int .i64 n] W fun r w'=>r=.returned (.string s)∧Cu w' g b k' e'∧W.grownBy w' (some g))) :
  Calls Tryz.prog 151 #[.pointer (some ⟨g,0,none⟩),.int .i64 m] w fun r w'=>r=.returned (.string s)∧Cu w' g b k' e'∧w.grownBy w' (some g):=by
 have hc:=text_cases m M hM
 clear hM
 rcases hc with ⟨h1,rfl⟩|⟨rfl,rfl⟩|⟨⟨h1,h2⟩,rfl⟩|⟨h1,rfl⟩
 all_goals
  go_enter Tryz.func151,Tryz.ntmps151
  go_wp2_with fail
  refine (hn.out _ h).mono ?_
  rintro r w3 ⟨rfl,h3,hg⟩
  go_wp2_with fail
  refine (ht.out _ h3).mono ?_
  rintro r w4 ⟨rfl,h4,hg4⟩
  go_wp2_with fail
  go_ret
  exact ⟨rfl,h4,gtrans hg hg4⟩
theorem text_any (w:World) (g:Nat) (b:ByteArray) (k:Nat) (e m:Int) (h:Cu w g b k e) (hs:b.size≤281474976710656) (hk:k≤b.size) (hm:m≤9223372036854775807) :
  Calls Tryz.prog 151 #[.pointer (some ⟨g,0,none⟩),.int .i64 m] w fun r w'=>r=.returned (.string (pText b k e m).1)∧Cu w' g b ((pText b k e m).2.1:Nat) (pText b k e m).2.2∧w.grownBy w' (some g):=by
 have hs':=Nat.le_trans hs max48
 have hn:=fun W hW=>number_any W g b k e (min (max m 0) 16777216) hW hs' hk
 by_cases he:e=0
 ·subst he
  by_cases hd:(num b k).2.2=0
  ·by_cases hl:max m 0<(num b k).1∨16777216<(num b k).1
   ·have hp:pText b k 0 m=(⟨#[]⟩,k,19):=by unfold pText;rw [if_neg (by simp),if_neg (by simpa using hd),if_pos hl]
    have hq:pNum b k 0 (min (max m 0) 16777216)=(0,0,false,19):=by unfold pNum;rw [if_neg (by simp),if_neg (by simpa using hd),if_pos (by omega)]
    rw [hq] at hn
    rw [hp]
    exact text_no w g b k 0 m _ h 19 rfl hm hn
   ·have hq:pNum b k 0 (min (max m 0) 16777216)=(((num b k).1:Int),(k:Int)+((num b k).2.1:Int),true,0):=by unfold pNum;rw [if_neg (by simp),if_neg (by simpa using hd),if_neg (by omega)]
    rw [hq] at hn
    have hok:=num_ok b k hd hk
    by_cases hc:(b.size:Int)-(k+(num b k).2.1:Nat)<(num b k).1
    ·have hp:pText b k 0 m=(⟨#[]⟩,k,2):=by unfold pText;rw [if_neg (by simp),if_neg (by simpa using hd),if_neg hl,if_pos hc]
     rw [hp]
     exact text_yes w g b k m _ _ _ h rfl hm (by dsimp only;omega) (by dsimp only;omega) _ _ _ hn (fun W hW=>take_cut W g b k (k+(num b k).2.1) _ hW hs' (by omega) hc)
    ·have hp:pText b k 0 m=(b.extract (k+(num b k).2.1) (k+(num b k).2.1+(num b k).1),k+(num b k).2.1+(num b k).1,0):=by unfold pText;rw [if_neg (by simp),if_neg (by simpa using hd),if_neg hl,if_neg hc]
     rw [hp]
     exact text_yes w g b k m _ _ _ h rfl hm (by dsimp only;omega) (by dsimp only;omega) _ _ _ hn (fun W hW=>take_in W g b k (k+(num b k).2.1) (num b k).1 hW hs (by omega))
  ·have hp:pText b k 0 m=(⟨#[]⟩,k,((num b k).2.2:Int)):=by unfold pText;rw [if_neg (by simp),if_pos hd]
   have hq:pNum b k 0 (min (max m 0) 16777216)=(0,0,false,((num b k).2.2:Int)):=by unfold pNum;rw [if_neg (by simp),if_pos hd]
   rw [hq] at hn
   rw [hp]
   exact text_no w g b k 0 m _ h _ rfl hm hn
 ·have hp:pText b k e m=(⟨#[]⟩,k,e):=by unfold pText;rw [if_pos he]
  have hq:pNum b k e (min (max m 0) 16777216)=(0,0,false,e):=by unfold pNum;rw [if_pos he]
  rw [hq] at hn
  rw [hp]
  exact text_no w g b k e m _ h _ rfl hm hn
end Go.Proofs.YtgoffkfpdigeeaaGreatDoor
