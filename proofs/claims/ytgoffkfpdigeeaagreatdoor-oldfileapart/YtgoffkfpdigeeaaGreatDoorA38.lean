import Derived.Deep.RegionHeld3
import Derived.Test.YtgoffkfpdigeeaaGreatDoorA36
import Derived.Test.YtgoffkfpdigeeaaGreatDoorA37
namespace Go.Proofs.YtgoffkfpdigeeaaGreatDoor
open Go.RowKit Go.Maps Go.WideMaps Go.Sort
def GtOut (R:ByteArray) (l:Lm) (w w':World) (e:Ending):Prop:=∃(X:List Nx) (a:Option Addr) (c:Nat) (k:Int),e=.returned (.tuple #[.agg #[.slice a X.length c,.int .i64 0],.int .i64 k])∧PyIs R l (X.map Nx.nd) k∧(∀W,Fr (fun b=>b<w.heap.size) w' W→ScAt W a X)∧Small X∧FnX X∧Below w.heap.size w w'
theorem PyIs.pay {R:ByteArray} {l:Lm} {k:Int} (h:(oPay R l.n l.e l.x).2=k) (hk:k≠0):PyIs R l (([]:List Nx).map Nx.nd) k:=.inl ⟨by rw [h];exact hk,h.symm,rfl⟩
theorem pay_ty {R:ByteArray} {l:Lm} {X:List Nx} (he:0≤l.e) (h:oPay R l.n l.e l.x=(X.map Nx.nd,0)):tyEo X=0:=by
 obtain ⟨_,h2⟩:=oPay_bytes he h
 exact (tyEo_iff X).2 fun i hi=>(h2.nod i _ (by rw [List.getElem?_map,List.getD_eq_getElem?_getD,List.getElem?_eq_getElem hi];rfl)).ty
theorem PyIs.fin {R:ByteArray} {l:Lm} {X:List Nx} {d:Nat} {n z:Int} (ho:okL l=true) (he:0≤l.e) (h:oPay R l.n l.e l.x=(X.map Nx.nd,0)) (hd:DepthIs X 0 d) (hv:VoIs X 0 l d n z) :
  (n≠0→PyIs R l (([]:List Nx).map Nx.nd) n)∧(n=0→PyIs R l (X.map Nx.nd) 0):=by
 have hs:(bare (X.map Nx.nd)).map Nx.nd=X.map Nx.nd:=bare_nd _
 have ht:=pay_ty he h
 have key:∀n' y,CheckIs X 0 n' y→∀P e,((n'≠0∧e=n'∧P=[])∨(n'=0∧((inL (meL X d) l=false∧e=19∧P=[])∨(inL (meL X d) l=true∧e=0∧P=X.map Nx.nd))))→PyIs R l P e:=fun n' y hc P e q=>by
  refine .inr ⟨by rw [h],d,n',y,?_,?_,?_⟩
  ·rw [h]
   exact same_depth hs.symm hd
  ·rw [h]
   exact same_check hs.symm hc
  ·rw [h]
   dsimp only
   rw [same_meL hs]
   exact q
 rcases hv with ⟨q,_⟩|⟨_,q,_⟩|⟨_,_,n',y,hc,q⟩
 ·rw [ho] at q;cases q
 ·exact absurd ht q
 ·rcases q with ⟨q1,rfl,_⟩|⟨q1,⟨q2,rfl,_⟩|⟨q2,rfl,_⟩⟩
  ·exact ⟨fun _=>key n y hc _ _ (.inl ⟨q1,rfl,rfl⟩),fun q=>absurd q q1⟩
  ·exact ⟨fun _=>key n' y hc _ _ (.inr ⟨q1,.inl ⟨q2,rfl,rfl⟩⟩),fun q=>by cases q⟩
  ·exact ⟨fun q=>absurd rfl q,fun _=>key n' y hc _ _ (.inr ⟨q1,.inr ⟨q2,rfl,rfl⟩⟩)⟩
theorem gt_bad {R:ByteArray} {l:Lm} {w W:World} {k:Int} (hG:PyIs R l (([]:List Nx).map Nx.nd) k) (hb:Below w.heap.size w W) {x0 x1:Value} (hr:AtN 24 W (w.heap.size+1) #[x0,x1]) :
  ∀W',W'=(W.setCell ⟨w.heap.size+1,0,none⟩ (.slice none 0 0)).setCell ⟨w.heap.size+1,1,none⟩ (.int .i64 0)→AtN 24 W' (w.heap.size+1) #[.slice none 0 0,.int .i64 0]∧GtOut R l w W' (.returned (.tuple #[.agg #[.slice none 0 0,.int .i64 0],.int .i64 k])):=by
 rintro _ rfl
 have hF:Fr (fun b=>b=w.heap.size+1) W ((W.setCell ⟨w.heap.size+1,0,none⟩ (.slice none 0 0)).setCell ⟨w.heap.size+1,1,none⟩ (.int .i64 0)):=((Fr.refl (fun b=>b=w.heap.size+1) W).set ⟨w.heap.size+1,0,none⟩ rfl _).set ⟨w.heap.size+1,1,none⟩ rfl _
 refine ⟨by simpa using (hr.set 0 (.slice none 0 0)).set 1 (.int .i64 0),[],none,0,k,rfl,hG,fun _ _=>⟨LsAt.nil _ _,fun i hi=>by simp at hi⟩,⟨by simp,fun i hi=>by simp at hi⟩,fun i hi=>by simp at hi,Fr.below hb hF (fun i e=>by omega) hb.size⟩
theorem gt_good {R:ByteArray} {l:Lm} {w W:World} {B c:Nat} {a:Option Addr} {Y:List Nx} (hG:PyIs R l (Y.map Nx.nd) 0) (hb:Below w.heap.size w W) {x0 x1:Value} (hr:AtN 24 W (w.heap.size+1) #[x0,x1]) (hm:Rws W B (.slice a Y.length c) Y) (hB:w.heap.size+1<B) (hs:Small Y) (hf:FnX Y) :
  ∀W',W'=(W.setCell ⟨w.heap.size+1,0,none⟩ (.slice a Y.length c)).setCell ⟨w.heap.size+1,1,none⟩ (.int .i64 0)→AtN 24 W' (w.heap.size+1) #[.slice a Y.length c,.int .i64 0]∧GtOut R l w W' (.returned (.tuple #[.agg #[.slice a Y.length c,.int .i64 0],.int .i64 0])):=by
 rintro _ rfl
 have hF:Fr (fun b=>b=w.heap.size+1) W ((W.setCell ⟨w.heap.size+1,0,none⟩ (.slice a Y.length c)).setCell ⟨w.heap.size+1,1,none⟩ (.int .i64 0)):=((Fr.refl (fun b=>b=w.heap.size+1) W).set ⟨w.heap.size+1,0,none⟩ rfl _).set ⟨w.heap.size+1,1,none⟩ rfl _
 exact ⟨by simpa using (hr.set 0 (.slice a Y.length c)).set 1 (.int .i64 0),Y,a,c,0,rfl,hG,fun W2 f=>hm.low (S:=fun b=>b<B) (((Fr.refl (fun b=>b<B) W).trans hF (fun i hi _=>by omega)).trans f (fun i hi _=>by omega)) (fun i q=>q),hs,hf,Fr.below hb hF (fun i e=>by omega) hb.size⟩
structure Gz (w W:World) (l:Lm):Prop where
 a:AtN 26 W w.heap.size #[.int .i64 l.b,.int .i64 l.n,.int .i64 l.e,.int .i64 l.d,.int .i64 l.x]
 r:AtN 24 W (w.heap.size+1) #[.slice none 0 0,.int .i64 0]
 bel:Below w.heap.size w W
theorem Gz.more {w W W':World} {l:Lm} (h:Gz w W l) (hb:Below W.heap.size W W'):Gz w W' l:=⟨h.a.belowAll hb,h.r.belowAll hb,h.bel.trans (hb.mono h.bel.size)⟩
theorem Gz.cur {w W W':World} {l:Lm} {gc:Nat} (h:Gz w W l) (hg:W.grownBy W' (some gc)) (hc:w.heap.size+1<gc):Gz w W' l:=by
 have f:Fr (fun b=>b=gc) W W':=Fr.of_grown hg (fun k e=>by cases e;rfl)
 exact ⟨h.a.fr f (by omega),h.r.fr f (by omega),Fr.below h.bel f (fun i q=>by omega) h.bel.size⟩
set_option maxRecDepth 10000 in
set_option maxHeartbeats 2000000 in
theorem oget_any (R:ByteArray) (l:Lm) (w:World) (hT:Tabs16 w) (hz:R.size≤4000000) (hQ:QnO R l) (hok:okL l=true) :
  Calls Tryz.prog 35 #[.string R,.agg (liC l)] w fun e w'=>GtOut R l w w' e:=by
 have HA:Hid (∀(o1 o2 o3:Obj),o1=.cells (liC l) 26→o2=.cells #[.slice none 0 0,.int .i64 0] 24→o3=.cells #[.string R,.int .i64 0,.nilIface] 156→Gz w (((w.alloc o1).alloc o2).alloc o3) l∧Cu (((w.alloc o1).alloc o2).alloc o3) (w.heap.size+1+1) R 0 0):=by
  rintro _ _ _ rfl rfl rfl
  refine ⟨⟨((AtN.new w 26 _).alloc _).alloc _,(mk_at (AtN.new (w.alloc _) 24 _) (show _=w.heap.size+1 by simp)).alloc _,(((Below.refl w.heap.size w).alloc (Nat.le_refl _) _).alloc (by simp) _).alloc (by simp;omega) _⟩,?_⟩
  have h:=At3.new ((w.alloc (.cells (liC l) 26)).alloc (.cells #[.slice none 0 0,.int .i64 0] 24)) 156 (.string R) (.int .i64 0) .nilIface
  rw [show ((w.alloc (.cells (liC l) 26)).alloc (.cells #[.slice none 0 0,.int .i64 0] 24)).heap.size=w.heap.size+1+1 by simp] at h
  exact h
 have hlC:liC l=#[.int .i64 l.b,.int .i64 l.n,.int .i64 l.e,.int .i64 l.d,.int .i64 l.x]:=rfl
 have HRd:Hid (∀(W:World) (gc:Nat),Below w.heap.size w W→w.heap.size≤gc→Cu W gc R 0 0→Calls Tryz.prog 78 #[.pointer (some ⟨gc,0,none⟩),.agg #[.int .i64 l.b,.int .i64 l.n,.int .i64 l.e,.int .i64 l.d,.int .i64 l.x]] W fun r w'=>ReOut R l gc W w' r):=fun W gc hW hg hc=>oread_any R l gc W hc hz (fun W' hW'=>hT.on (Fr.below hW (Fr.of_grown (S:=fun b=>b=gc) hW' (fun k e=>by cases e;rfl)) (fun i q=>by omega) hW.size)) hQ hok
 have HVd:Hid (∀(X:List Nx) (a:Option Addr) (c d:Nat) (W:World),Below w.heap.size w W→ScAt W a X→Small X→FnX X→DepthIs X 0 d→Calls Tryz.prog 26 #[.agg #[.slice a X.length c,.int .i64 0],.agg #[.int .i64 l.b,.int .i64 l.n,.int .i64 l.e,.int .i64 l.d,.int .i64 l.x]] W fun e w'=>VoOut X 0 l d W w' e):=fun X a c d W hW h hX hF hd=>ovalid_any X a c 0 l d W h hX hF (hT.on hW) hd
 have HPy:Hid (∀(X:List Nx) (d:Nat) (n z:Int),oPay R l.n l.e l.x=(X.map Nx.nd,0)→DepthIs X 0 d→VoIs X 0 l d n z→(n≠0→PyIs R l (([]:List Nx).map Nx.nd) n)∧(n=0→PyIs R l (X.map Nx.nd) 0)):=fun X d n z h hd hv=>PyIs.fin hok (okL_in hok).2.2.1.1 h hd hv
 have HPb:Hid (∀k:Int,(oPay R l.n l.e l.x).2=k→k≠0→PyIs R l (([]:List Nx).map Nx.nd) k):=fun k h hk=>PyIs.pay h hk
 clear hT hQ hok
 go_enter Tryz.func35,Tryz.ntmps35
 rw [hlC]
 go_wp2_with fail
 refine Calls.mono (cnew_any R _) ?_
 rintro e w2 ⟨rfl,hw2⟩
 obtain ⟨ha2,hr2⟩:=HA.out _ _ _ rfl rfl rfl
 rw [hlC] at ha2 hr2
 rw [← hw2] at ha2 hr2
 rw [show ((w.alloc (.cells #[.int .i64 l.b,.int .i64 l.n,.int .i64 l.e,.int .i64 l.d,.int .i64 l.x] 26)).alloc (.cells #[.slice none 0 0,.int .i64 0] 24)).heap.size=w.heap.size+1+1 by simp]
 have HG2:Hid (Gz w w2 l):=ha2
 have HC2:Hid (Cu w2 (w.heap.size+1+1) R 0 0):=hr2
 obtain ⟨gc,hgc⟩:∃gc,w.heap.size+1+1=gc:=⟨_,rfl⟩
 rw [hgc] at HC2 ⊢
 have hgl:w.heap.size+1<gc:=by omega
 have hgl2:=HC2.out.lt
 clear HA ha2 hr2 hw2 hlC hgc
 have a0:w2.cell? ⟨w.heap.size,0,none⟩=some (.int .i64 l.b):=HG2.out.a.cell 0
 have a1:w2.cell? ⟨w.heap.size,1,none⟩=some (.int .i64 l.n):=HG2.out.a.cell 1
 have a2:w2.cell? ⟨w.heap.size,2,none⟩=some (.int .i64 l.e):=HG2.out.a.cell 2
 have a3:w2.cell? ⟨w.heap.size,3,none⟩=some (.int .i64 l.d):=HG2.out.a.cell 3
 have a4:w2.cell? ⟨w.heap.size,4,none⟩=some (.int .i64 l.x):=HG2.out.a.cell 4
 go_wp2_with fail
 refine Calls.mono (HRd.out _ _ HG2.out.bel (by omega) HC2.out) ?_
 rintro r w3 ⟨Y,aY,cY,k,e,rfl,hcu,hne,hze,hY,hg⟩
 have HG4:Hid (∀o,o=.cells #[.slice aY Y.length cY,.int .i64 0] 24→Gz w (w3.alloc o) l∧AtN 24 (w3.alloc o) w3.heap.size #[.slice aY Y.length cY,.int .i64 0]∧Cu (w3.alloc o) gc R k e∧Rws (w3.alloc o) (w2.heap.size+1) (.slice aY Y.length cY) Y):=by
  rintro _ rfl
  have hb:Below w3.heap.size w3 (w3.alloc (.cells #[.slice aY Y.length cY,.int .i64 0] 24)):=(Below.refl w3.heap.size w3).alloc (Nat.le_refl _) _
  exact ⟨(HG2.out.cur hg hgl).more hb,AtN.new w3 24 _,At3.alloc hcu _,hY.below hb⟩
 have HNe:Hid (e≠0→(oPay R l.n l.e l.x).2=e):=hne
 have HZe:Hid (e=0→oPay R l.n l.e l.x=(Y.map Nx.nd,0)∧Small Y∧FnX Y):=hze
 have hB:w.heap.size+1<w2.heap.size+1:=by omega
 have HEr:Hid (∀(W:World),Cu W gc R k e→Calls Tryz.prog 74 #[.pointer (some ⟨gc,0,none⟩)] W fun r w'=>r=.returned (.int .i64 e)∧Below W.heap.size W w'):=fun W q=>err_any W gc R k e q
 clear hcu hne hze hY hg HRd HG2 HC2 a0 a1 a2 a3 a4
 go_wp2_with fail
 obtain ⟨g4,s4,c4,y4⟩:=HG4.out _ rfl
 clear HG4
 generalize (w3.alloc (.cells #[.slice aY Y.length cY,.int .i64 0] 24))=w4 at *
 generalize w3.heap.size=gs at *
 refine Calls.mono (HEr.out w4 c4) ?_
 rintro r w5 ⟨rfl,hb5⟩
 have HG5:Hid (Gz w w5 l):=g4.more hb5
 have HS5:Hid (AtN 24 w5 gs #[.slice aY Y.length cY,.int .i64 0]):=s4.belowAll hb5
 have HY5:Hid (Rws w5 (w2.heap.size+1) (.slice aY Y.length cY) Y):=y4.below hb5
 clear g4 s4 c4 y4 hb5 HEr
 by_cases he:e=0
 ·subst he
  obtain ⟨hP,hSm,hFn⟩:=HZe.out rfl
  obtain ⟨d,hd⟩:=depth_there Y 0
  have HPz:Hid (∀n z,VoIs Y 0 l d n z→_):=fun n z hv=>HPy.out Y d n z hP hd hv
  have HVc:Hid _:=HVd.out Y aY cY d w5 HG5.out.bel (HY5.out.low (Fr.refl (fun _=>False) w5) (fun i q=>q.elim)) hSm hFn hd
  clear HPy hP hd HVd HPb HNe HZe
  have s0:w5.cell? ⟨gs,0,none⟩=some (.slice aY Y.length cY):=HS5.out.cell 0
  have s1:w5.cell? ⟨gs,1,none⟩=some (.int .i64 0):=HS5.out.cell 1
  have a0:w5.cell? ⟨w.heap.size,0,none⟩=some (.int .i64 l.b):=HG5.out.a.cell 0
  have a1:w5.cell? ⟨w.heap.size,1,none⟩=some (.int .i64 l.n):=HG5.out.a.cell 1
  have a2:w5.cell? ⟨w.heap.size,2,none⟩=some (.int .i64 l.e):=HG5.out.a.cell 2
  have a3:w5.cell? ⟨w.heap.size,3,none⟩=some (.int .i64 l.d):=HG5.out.a.cell 3
  have a4:w5.cell? ⟨w.heap.size,4,none⟩=some (.int .i64 l.x):=HG5.out.a.cell 4
  go_wp2_with fail
  refine Calls.mono HVc.out ?_
  rintro r w6 ⟨n,z,rfl,hv,hb6⟩
  have HPn:Hid _:=HPz.out n z hv
  have HG6:Hid (Gz w w6 l):=HG5.out.more hb6
  have HS6:Hid (AtN 24 w6 gs #[.slice aY Y.length cY,.int .i64 0]):=HS5.out.belowAll hb6
  have HY6:Hid (Rws w6 (w2.heap.size+1) (.slice aY Y.length cY) Y):=HY5.out.below hb6
  clear HG5 HS5 HY5 HPz HVc hv hb6 s0 s1 a0 a1 a2 a3 a4
  have r0:w6.cell? ⟨w.heap.size+1,0,none⟩=some (.slice none 0 0):=HG6.out.r.cell 0
  have r1:w6.cell? ⟨w.heap.size+1,1,none⟩=some (.int .i64 0):=HG6.out.r.cell 1
  have f0:=HG6.out.r.fz 0
  have f1:=HG6.out.r.fz 1
  by_cases hn0:n=0
  ·subst hn0
   have HV:Hid _:=gt_good (HPn.out.2 rfl) HG6.out.bel HG6.out.r HY6.out hB hSm hFn
   have s0:w6.cell? ⟨gs,0,none⟩=some (.slice aY Y.length cY):=HS6.out.cell 0
   have s1:w6.cell? ⟨gs,1,none⟩=some (.int .i64 0):=HS6.out.cell 1
   clear HPn
   go_wp2_with fail
   obtain ⟨v2,v1⟩:=HV.out _ rfl
   have c0:=v2.cell 0
   have c1:=v2.cell 1
   exact bodyPost_ret (v:=.tuple #[.agg #[.slice aY Y.length cY,.int .i64 0],.int .i64 0]) (by simp [results,Tryz.results35,go_sem,c0,c1]) rfl v1
  ·have hn':(n != 0)=true:=by simpa using hn0
   have HV:Hid _:=gt_bad (HPn.out.1 hn0) HG6.out.bel HG6.out.r
   clear HPn
   go_wp2_with fail
   obtain ⟨v2,v1⟩:=HV.out _ rfl
   have c0:=v2.cell 0
   have c1:=v2.cell 1
   exact bodyPost_ret (v:=.tuple #[.agg #[.slice none 0 0,.int .i64 0],.int .i64 n]) (by simp [results,Tryz.results35,go_sem,c0,c1]) rfl v1
 ·have he':(e != 0)=true:=by simpa using he
  have he'':(e==0)=false:=by simpa using he
  have HV:Hid _:=gt_bad (HPb.out e (HNe.out he) he) HG5.out.bel HG5.out.r
  have r0:w5.cell? ⟨w.heap.size+1,0,none⟩=some (.slice none 0 0):=HG5.out.r.cell 0
  have r1:w5.cell? ⟨w.heap.size+1,1,none⟩=some (.int .i64 0):=HG5.out.r.cell 1
  have f0:=HG5.out.r.fz 0
  have f1:=HG5.out.r.fz 1
  clear HPy HPb HNe HZe HVd
  go_wp2_with fail
  obtain ⟨v2,v1⟩:=HV.out _ rfl
  have c0:=v2.cell 0
  have c1:=v2.cell 1
  exact bodyPost_ret (v:=.tuple #[.agg #[.slice none 0 0,.int .i64 0],.int .i64 e]) (by simp [results,Tryz.results35,go_sem,c0,c1]) rfl v1
theorem lo_got {b:ByteArray} {l:Lm} {w W0 W:World} {c:Nat} {a:Option Addr} {X:List Nx} {k:Int} (hG:LoIs b l (X.map Nx.nd) k) (hb:Below w.heap.size w W) {x0 x1:Value} (hr:AtN 24 W (w.heap.size+1) #[x0,x1]) (hlt:w.heap.size+1<W0.heap.size) (hsc:∀W2,Fr (fun b=>b<W0.heap.size) W W2→ScAt W2 a X) (hs:Small X) (hf:FnX X) :
  ∀W',W'=(W.setCell ⟨w.heap.size+1,0,none⟩ (.slice a X.length c)).setCell ⟨w.heap.size+1,1,none⟩ (.int .i64 0)→AtN 24 W' (w.heap.size+1) #[.slice a X.length c,.int .i64 0]∧LoOut b l w W' (.returned (.tuple #[.agg #[.slice a X.length c,.int .i64 0],.int .i64 k])):=by
 rintro _ rfl
 have hF:Fr (fun b=>b=w.heap.size+1) W ((W.setCell ⟨w.heap.size+1,0,none⟩ (.slice a X.length c)).setCell ⟨w.heap.size+1,1,none⟩ (.int .i64 0)):=((Fr.refl (fun b=>b=w.heap.size+1) W).set ⟨w.heap.size+1,0,none⟩ rfl _).set ⟨w.heap.size+1,1,none⟩ rfl _
 exact ⟨by simpa using (hr.set 0 (.slice a X.length c)).set 1 (.int .i64 0),X,a,c,k,rfl,hG,fun W2 f=>hsc W2 (((Fr.refl (fun b=>b<W0.heap.size) W).trans hF (fun i hi _=>by omega)).trans f (fun i hi _=>by omega)),hs,hf,Fr.below hb hF (fun i e=>by omega) hb.size⟩
set_option maxRecDepth 10000 in
set_option maxHeartbeats 2000000 in
theorem poload_any (b:ByteArray) (l:Lm) (w:World) (hT:Tabs16 w) (hz:b.size≤100000000) (hQ:∀R,opK b l=(0,R)→R.size≤4000000∧QnO R l) (_hl:∀i,i<5→-9223372036854775808≤(lmL l).getD i 0∧(lmL l).getD i 0≤9223372036854775807) :
  Calls Tryz.prog 13 #[.string b,.agg (liC l)] w fun e w'=>LoOut b l w w' e:=by
 have HA:Hid (∀(o1 o2:Obj),o1=.cells (liC l) 26→o2=.cells #[.slice none 0 0,.int .i64 0] 24→Gz w ((w.alloc o1).alloc o2) l):=by
  rintro _ _ rfl rfl
  exact ⟨(AtN.new w 26 _).alloc _,mk_at (AtN.new (w.alloc _) 24 _) (show _=w.heap.size+1 by simp),((Below.refl w.heap.size w).alloc (Nat.le_refl _) _).alloc (by simp) _⟩
 have hlC:liC l=#[.int .i64 l.b,.int .i64 l.n,.int .i64 l.e,.int .i64 l.d,.int .i64 l.x]:=rfl
 have HG:Hid (∀W,Calls Tryz.prog 34 #[.string ⟨#[68,73,79,82]⟩,.string b] W fun e w'=>FGot W w' e (pGet mD.data.toList b.data.toList)):=fun W=>fget_any mD b W hz
 have HN:Hid (∀(R:ByteArray) (W:World),Below w.heap.size w W→okL l=true→opK b l=(0,R)→Calls Tryz.prog 35 #[.string R,.agg #[.int .i64 l.b,.int .i64 l.n,.int .i64 l.e,.int .i64 l.d,.int .i64 l.x]] W fun e w'=>GtOut R l W w' e):=fun R W hW ho hk=>oget_any R l W (hT.on hW) (hQ R hk).1 (hQ R hk).2 ho
 obtain ⟨E,V,S,hq⟩:∃E V S,pGet mD.data.toList b.data.toList=(E,V,S):=⟨_,_,_,rfl⟩
 rw [hq] at HG
 have HP:Hid (pGet mD.data.toList b.data.toList=(E,V,S)):=hq
 clear hq hT hQ hz
 go_enter Tryz.func13,Tryz.ntmps13
 rw [hlC]
 go_wp2_with fail
 have hx0:=HA.out _ _ rfl rfl
 rw [hlC] at hx0
 refine (okl_any l _).mono ?_
 rintro e w1 ⟨rfl,hb1⟩
 have HX1:Hid (Gz w w1 l):=hx0.more hb1
 clear HA hx0 hb1 hlC
 have r0:w1.cell? ⟨w.heap.size+1,0,none⟩=some (.slice none 0 0):=HX1.out.r.cell 0
 have r1:w1.cell? ⟨w.heap.size+1,1,none⟩=some (.int .i64 0):=HX1.out.r.cell 1
 have f0:=HX1.out.r.fz 0
 have f1:=HX1.out.r.fz 1
 cases hok:okL l with
 | false=>
  have HV:Hid _:=lo_bad (LoIs.bad (opK_1 b l hok) (by decide)) HX1.out.bel HX1.out.r
  clear HG HN
  go_wp2_with fail
  obtain ⟨v2,v1⟩:=HV.out _ rfl
  have c0:=v2.cell 0
  have c1:=v2.cell 1
  exact bodyPost_ret (v:=.tuple #[.agg #[.slice none 0 0,.int .i64 0],.int .i64 1]) (by simp [results,Tryz.results13,go_sem,c0,c1]) rfl v1
 | true=>
  have a0:w1.cell? ⟨w.heap.size,0,none⟩=some (.int .i64 l.b):=HX1.out.a.cell 0
  by_cases hlb:l.b<(b.size:Int)
  ·have HV:Hid _:=lo_bad (LoIs.bad (opK_2 b l hok hlb) (by decide)) HX1.out.bel HX1.out.r
   clear HG HN
   go_wp2_with fail
   obtain ⟨v2,v1⟩:=HV.out _ rfl
   have c0:=v2.cell 0
   have c1:=v2.cell 1
   exact bodyPost_ret (v:=.tuple #[.agg #[.slice none 0 0,.int .i64 0],.int .i64 19]) (by simp [results,Tryz.results13,go_sem,c0,c1]) rfl v1
  ·have HLB:Hid ((b.size:Int)≤l.b):=Int.not_lt.1 hlb
   go_wp2_with fail
   refine Calls.mono (HG.out _) ?_
   rintro e w2 ⟨aS,cS,gS,rfl,haS,hsS,hb2⟩
   dsimp only at haS hsS ⊢
   have HX2:Hid (Gz w w2 l):=HX1.out.more hb2
   have HsS:Hid (SecAt w2 gS 0 S):=hsS
   have HaS:Hid (0<S.length→aS=some ⟨gS,0,none⟩):=haS
   clear HX1 hb2 r0 r1 f0 f1 a0 hsS haS HG
   have r0:w2.cell? ⟨w.heap.size+1,0,none⟩=some (.slice none 0 0):=HX2.out.r.cell 0
   have r1:w2.cell? ⟨w.heap.size+1,1,none⟩=some (.int .i64 0):=HX2.out.r.cell 1
   have f0:=HX2.out.r.fz 0
   have f1:=HX2.out.r.fz 1
   have HK:Hid (∀k:Int,(opK b l).1=k→k≠0→Hid (∀W',W'=(w2.setCell ⟨w.heap.size+1,0,none⟩ (.slice none 0 0)).setCell ⟨w.heap.size+1,1,none⟩ (.int .i64 0)→AtN 24 W' (w.heap.size+1) #[.slice none 0 0,.int .i64 0]∧LoOut b l w W' (.returned (.tuple #[.agg #[.slice none 0 0,.int .i64 0],.int .i64 k])))):=fun k h1 h2=>lo_bad (LoIs.bad h1 h2) HX2.out.bel HX2.out.r
   by_cases hE:E=0
   ·subst hE
    by_cases hV:V=1
    ·subst hV
     by_cases hn:S.length=1
     ·obtain ⟨s,rfl⟩:∃s,S=[s]:=by
       match S,hn with
       | [s],_=>exact ⟨s,rfl⟩
      obtain ⟨n1,R⟩:=s
      obtain rfl:=HaS.out (by simp)
      have s0:w2.cell? ⟨gS,0,none⟩=some (.int .i64 n1):=by simpa using (HsS.out 0 (by simp)).2.1
      have s1:w2.cell? ⟨gS,1,none⟩=some (.string R):=by simpa using (HsS.out 0 (by simp)).2.2
      have hgS:gS<w2.heap.size:=(HsS.out 0 (by simp)).1
      by_cases h1:n1=1
      ·subst h1
       have hgN:gS≠w.heap.size+1:=fun q=>by
        have h1:=s1
        have h2:=HX2.out.r.cell 1
        rw [q,h2] at h1
        cases h1
       have hk:opK b l=(0,R):=opK_6 b l hok (Int.not_lt.2 HLB.out) (by rw [HP.out]) (by rw [HP.out]) (by rw [HP.out])
       have HNc:Hid (Calls Tryz.prog 35 #[.string R,.agg #[.int .i64 l.b,.int .i64 l.n,.int .i64 l.e,.int .i64 l.d,.int .i64 l.x]] w2.drew fun e w'=>GtOut R l w2.drew w' e):=HN.out R w2.drew (HX2.out.bel.trans ((bel_drew w2).mono HX2.out.bel.size)) hok hk
       have HGd:Hid (∀X:List Nx,∀k:Int,PyIs R l (X.map Nx.nd) k→LoIs b l (X.map Nx.nd) k):=fun X k h=>.inr ⟨by rw [hk],by rw [hk];exact h⟩
       have HS:Hid (∀W,Below w2.heap.size w2 W→∀v0 v1 W',W'=(W.setCell ⟨w.heap.size+1,0,none⟩ v0).setCell ⟨w.heap.size+1,1,none⟩ v1∨W'=W→W'.cell? ⟨gS,1,none⟩=some (.string R)∧W'.cell? ⟨w.heap.size,0,none⟩=some (.int .i64 l.b)∧W'.cell? ⟨w.heap.size,1,none⟩=some (.int .i64 l.n)∧W'.cell? ⟨w.heap.size,2,none⟩=some (.int .i64 l.e)∧W'.cell? ⟨w.heap.size,3,none⟩=some (.int .i64 l.d)∧W'.cell? ⟨w.heap.size,4,none⟩=some (.int .i64 l.x)):=by
        intro W hW v0 v1 W' hW'
        have q1:=((bcell hW).1 gS 1 hgS).trans s1
        have hA:=HX2.out.a.belowAll hW
        rcases hW' with rfl|rfl
        ·have hA2:=(hA.setOther ⟨w.heap.size+1,0,none⟩ (by show w.heap.size+1≠_;omega) v0).setOther ⟨w.heap.size+1,1,none⟩ (by show w.heap.size+1≠_;omega) v1
         refine ⟨?_,hA2.cell 0,hA2.cell 1,hA2.cell 2,hA2.cell 3,hA2.cell 4⟩
         rw [World.cell?_setCell_other _ _ _ _ (by intro q;simp only [Addr.mk.injEq] at q;omega),World.cell?_setCell_other _ _ _ _ (by intro q;simp only [Addr.mk.injEq] at q;omega)];exact q1
        ·exact ⟨q1,hA.cell 0,hA.cell 1,hA.cell 2,hA.cell 3,hA.cell 4⟩
       have hlt2:w.heap.size+1<w2.heap.size:=HX2.out.r.lt
       have K0:=HS.out w2 (Below.refl _ _) (.bool true) (.bool true) w2 (.inr rfl)
       have K1:=HS.out w2.drew (bel_drew w2) (.bool true) (.bool true) w2.drew (.inr rfl)
       clear hk HN HP HK HsS HaS
       go_wp2_with fail
       clear s0
       go_region_held3 (fun W=>W.cell? ⟨gS,1,none⟩=some (.string R)∧W.cell? ⟨w.heap.size,0,none⟩=some (.int .i64 l.b)∧W.cell? ⟨w.heap.size,1,none⟩=some (.int .i64 l.n)∧W.cell? ⟨w.heap.size,2,none⟩=some (.int .i64 l.e)∧W.cell? ⟨w.heap.size,3,none⟩=some (.int .i64 l.d)∧W.cell? ⟨w.heap.size,4,none⟩=some (.int .i64 l.x)) (first|exact K3 _ _ _ (.inl rfl)|exact K3 (.bool true) (.bool true) _ (.inr rfl)|exact K1|exact K0)
        ((go_at_call 35;refine Calls.mono HNc.out ?_;rintro e w3 ⟨X,aX,cX,kX,rfl,hg,hsc,hsm,hfn,hb3⟩;have HX3:Hid (Gz w w3 l):=(HX2.out.more (bel_drew w2)).more hb3;have K3:=HS.out w3 ((bel_drew w2).trans (hb3.mono (bel_drew w2).size));have r0:w3.cell? ⟨w.heap.size+1,0,none⟩=some (.slice none 0 0):=HX3.out.r.cell 0;have r1:w3.cell? ⟨w.heap.size+1,1,none⟩=some (.int .i64 0):=HX3.out.r.cell 1;have f0:=HX3.out.r.fz 0;have f1:=HX3.out.r.fz 1))
       have HV:Hid _:=lo_got (c:=cX) (W0:=w2) (HGd.out X kX hg) HX3.out.bel HX3.out.r (by omega) hsc hsm hfn
       clear HNc HGd hg hsc hsm hfn hb3 HX2 K0 K1 K3 HS
       go_wp2_with fail
       obtain ⟨v2,v1⟩:=HV.out _ rfl
       have c0:=v2.cell 0
       have c1:=v2.cell 1
       exact bodyPost_ret (v:=.tuple #[.agg #[.slice aX X.length cX,.int .i64 0],.int .i64 kX]) (by simp [results,Tryz.results13,go_sem,c0,c1]) rfl v1
      ·have h1':(n1==1)=false:=by simpa using h1
       have h1'':(n1 != 1)=true:=by simpa using h1
       have HV:Hid _:=(HK.out 4 (opK_5 b l hok (Int.not_lt.2 HLB.out) (by rw [HP.out]) (by rw [HP.out]) (by rw [HP.out];rintro ⟨s,q,q2⟩;simp only [List.cons.injEq,and_true] at q;rw [← q] at q2;exact h1 q2)) (by decide)).out
       clear HN HP HK HsS HaS
       go_wp2_with fail
       obtain ⟨v2,v1⟩:=HV.out _ rfl
       have c0:=v2.cell 0
       have c1:=v2.cell 1
       exact bodyPost_ret (v:=.tuple #[.agg #[.slice none 0 0,.int .i64 0],.int .i64 4]) (by simp [results,Tryz.results13,go_sem,c0,c1]) rfl v1
     ·have hn':((S.length:Int)==1)=false:=by simp;omega
      have hn'':((S.length:Int) != 1)=true:=by simp;omega
      have hn3:¬(S.length:Int)=1:=by omega
      have HV:Hid _:=(HK.out 4 (opK_5 b l hok (Int.not_lt.2 HLB.out) (by rw [HP.out]) (by rw [HP.out]) (by rw [HP.out];rintro ⟨s,q,_⟩;dsimp only at q;rw [q] at hn;exact hn rfl)) (by decide)).out
      clear HN HP HK HsS HaS
      go_wp2_with fail
      obtain ⟨v2,v1⟩:=HV.out _ rfl
      have c0:=v2.cell 0
      have c1:=v2.cell 1
      exact bodyPost_ret (v:=.tuple #[.agg #[.slice none 0 0,.int .i64 0],.int .i64 4]) (by simp [results,Tryz.results13,go_sem,c0,c1]) rfl v1
    ·have hV':((V:Int)==1)=false:=by simp;omega
     have hV'':((V:Int) != 1)=true:=by simp;omega
     have hV3:¬(V:Int)=1:=by omega
     have HV:Hid _:=(HK.out 7 (opK_4 b l hok (Int.not_lt.2 HLB.out) (by rw [HP.out]) (by rw [HP.out];exact hV)) (by decide)).out
     clear HN HP HK HsS HaS hV
     go_wp2_with fail
     obtain ⟨v2,v1⟩:=HV.out _ rfl
     have c0:=v2.cell 0
     have c1:=v2.cell 1
     exact bodyPost_ret (v:=.tuple #[.agg #[.slice none 0 0,.int .i64 0],.int .i64 7]) (by simp [results,Tryz.results13,go_sem,c0,c1]) rfl v1
   ·have hE':((E:Int)==0)=false:=by simp;omega
    have hE'':((E:Int) != 0)=true:=by simp;omega
    have hE3:¬(E:Int)=0:=by omega
    have HV:Hid _:=(HK.out E (by rw [opK_3 b l hok (Int.not_lt.2 HLB.out) (by rw [HP.out];exact hE),HP.out]) (by omega)).out
    clear HN HP HK HsS HaS hE
    go_wp2_with fail
    obtain ⟨v2,v1⟩:=HV.out _ rfl
    have c0:=v2.cell 0
    have c1:=v2.cell 1
    exact bodyPost_ret (v:=.tuple #[.agg #[.slice none 0 0,.int .i64 0],.int .i64 (E:Int)]) (by simp [results,Tryz.results13,go_sem,c0,c1]) rfl v1
end Go.Proofs.YtgoffkfpdigeeaaGreatDoor
