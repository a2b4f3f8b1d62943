/- For every scene that is right and typed: with just as many bytes allowed as its file has it is saved and loaded, within its own measure; with one less neither, as beyond the limits (scenes greater than the law plays with are let go by the law itself); the argument reads afterwards as before. The package schema's tables hold what the program's text lays into them when the call begins (the card ties them). -/
import Derived.Test.YtcgjgjjegnofeaaGreatDoorRows
import Derived.Test.YtcgjgjjegnofeaaGreatDoorCards
import Derived.Test.YtcgjgjjegnofeaaGreatDoorTie
import Derived.WalkKit
import Derived.ProofKit
import Derived.OpenShut
import Derived.ShutString
import Derived.Below
import Derived.Test.YtcgjgjjegnofeaaGreatDoorPA31
import Derived.Test.YtcgjgjjegnofeaaGreatDoorPA16
import Derived.ChangeOld
import Derived.LaidMore
import Derived.SevenTiedAt
namespace Go.Proofs.YtcgjgjjegnofeaaGreatDoor.fileLimits
open Go.ChangeShapes Go.WideShapes Go.ChangeAt Go.RowKit
open Go.ChangeMaps (open_string shut_string)
set_option linter.unusedVariables false
theorem own:ownKnob Tryz.prog.godebug=none:=by kernel_rfl
theorem laidOut:laidOutB Tryz.prog=true:=by kernel_rfl
structure Lz (w W:World) (gM:Nat) (a:Option Addr) (X:List Nx) (c:Nat) (r b n1 n2 n3 n4:Int):Prop where
 s:Lw w W a X c r
 m:AtN 26 W gM #[.int .i64 b,.int .i64 n1,.int .i64 n2,.int .i64 n3,.int .i64 n4]
 hg:w.heap.size<gM
section
variable {w W W':World} {gM:Nat} {a:Option Addr} {X:List Nx} {c:Nat} {r b n1 n2 n3 n4:Int}
theorem Lz.more (h:Lz w W gM a X c r b n1 n2 n3 n4) (hb:Below W.heap.size W W'):Lz w W' gM a X c r b n1 n2 n3 n4:=⟨h.s.more hb,h.m.belowAll hb,h.hg⟩
theorem Lz.all (h:Lz w W gM a X c r b n1 n2 n3 n4):W.cell? ⟨w.heap.size,0,none⟩=some (.slice a X.length c)∧W.cell? ⟨w.heap.size,1,none⟩=some (.int .i64 r)∧W.cell? ⟨gM,0,none⟩=some (.int .i64 b)∧W.cell? ⟨gM,1,none⟩=some (.int .i64 n1)∧W.cell? ⟨gM,2,none⟩=some (.int .i64 n2)∧W.cell? ⟨gM,3,none⟩=some (.int .i64 n3)∧W.cell? ⟨gM,4,none⟩=some (.int .i64 n4)∧W.frozen? ⟨gM,0,none⟩=false:=
 ⟨h.s.c0,h.s.c1,h.m.cell 0,h.m.cell 1,h.m.cell 2,h.m.cell 3,h.m.cell 4,h.m.fz 0⟩
theorem Lz.set (h:Lz w W gM a X c r b n1 n2 n3 n4) (z:Int):Lz w (W.setCell ⟨gM,0,none⟩ (.int .i64 z)) gM a X c r z n1 n2 n3 n4:=by
 have hg:=h.hg
 exact ⟨⟨h.s.at_.setOther ⟨gM,0,none⟩ (by show gM≠w.heap.size;omega) _,set_below h.s.bel _ (by show w.heap.size≤gM;omega) _⟩,by simpa using h.m.set 0 (.int .i64 z),hg⟩
end
set_option maxRecDepth 10000 in
set_option maxHeartbeats 4000000 in
theorem walk (X0:List Nx) (a0:Option Addr) (c0:Nat) (r0:Int) (w:World) (w0:IsSc w a0 X0 r0) (hT:Tabs12 w) :
  Calls Tryz.prog 9 #[.agg #[.slice a0 X0.length c0,.int .i64 r0]] w fun e w'=>e=.returned (.bool true)∧Below w.heap.size w w':=by
 have HA:Hid (∀W,Below w.heap.size w W→Calls Tryz.prog 10 #[] W fun e w'=>e=.returned (.bool true)∧Below W.heap.size W w'):=fun W hb=>awake_any W (hT.on hb)
 have HT:Hid (Tabs12 w):=hT
 have HS:Hid (IsSc w a0 X0 r0):=w0
 have HL:Hid (Lw w (w.alloc (.cells #[.slice a0 X0.length c0,.int .i64 r0] 24)) a0 X0 c0 r0):=Lw.start w a0 X0 c0 r0
 clear w0 hT
 go_enter Tryz.func9,Tryz.ntmps9
 go_wp2_with fail
 refine Calls.mono (HA.out _ HL.out.bel) ?_
 rintro e w2 ⟨rfl,hb2⟩
 have HL2:Hid (Lw w w2 a0 X0 c0 r0):=HL.out.more hb2
 clear HL hb2
 have xa0:=HL2.out.c0
 have xa1:=HL2.out.c1
 have HG:Hid (Calls Tryz.prog 11 #[.agg #[.slice a0 X0.length c0,.int .i64 r0]] w2 fun e w'=>GreatOut X0 w2 w' e):=sgreat_any X0 a0 c0 r0 w2 (HL2.out.sc HS.out)
 go_wp2_with fail
 refine Calls.mono HG.out ?_
 rintro e w3 ⟨g,rfl,hg,hb3⟩
 have HL3:Hid (Lw w w3 a0 X0 c0 r0):=HL2.out.more hb3
 clear HG HL2 hb3 xa0 xa1
 cases g with
 | true=>
  go_wp2_with fail
  refine Calls.mono (HA.out _ HL3.out.bel) ?_
  rintro e wz ⟨rfl,hbz⟩
  have HB:Hid (Below w.heap.size w wz):=(HL3.out.more hbz).bel
  clear HL3 hbz
  go_wp2_with fail
  go_ret
  exact ⟨rfl,HB.out⟩
 | false=>
  have HSm:Hid (Small X0∧X0.length≤60):=hg rfl
  have HFn:Hid (FnX X0):=HS.out.fn
  have xa0:=HL3.out.c0
  have xa1:=HL3.out.c1
  have HW:Hid _:=rwhole_any X0 a0 c0 r0 w3 (HL3.out.sc HS.out) HSm.out.1 HFn.out
  clear hg
  go_wp2_with fail
  refine Calls.mono HW.out ?_
  rintro e w4 ⟨bw,rfl,hbw,hb4⟩
  have HL4:Hid (Lw w w4 a0 X0 c0 r0):=HL3.out.more hb4
  have HBw:Hid (bw=true↔Whole X0 r0):=hbw
  clear HW HL3 hb4 xa0 xa1 hbw
  cases bw with
  | false=>
   clear HBw
   go_wp2_with fail
   refine Calls.mono (HA.out _ HL4.out.bel) ?_
   rintro e wz ⟨rfl,hbz⟩
   have HB:Hid (Below w.heap.size w wz):=(HL4.out.more hbz).bel
   clear HL4 hbz
   go_wp2_with fail
   go_ret
   exact ⟨rfl,HB.out⟩
  | true=>
   have hWh:Whole X0 r0:=HBw.out.1 rfl
   obtain ⟨d,hd⟩:=depth_there X0 r0
   have hme:=me_few HSm.out.1 HSm.out.2 HFn.out hWh hd
   have hsz:=cF_sizes HSm.out.1 HSm.out.2 HFn.out hWh
   have hok:okL (meB X0 d (cF X0 r0).size)=true:=meB_ok HSm.out.2 hme (by omega)
   have hok2:okL (meB X0 d ((cF X0 r0).size-1))=true:=meB_ok HSm.out.2 hme (by omega)
   have HMe:Hid (Calls Tryz.prog 27 #[.agg #[.slice a0 X0.length c0,.int .i64 r0]] w4 fun e w'=>e=.returned (.agg #[.int .i64 0,.int .i64 X0.length,.int .i64 (edg X0:Nat),.int .i64 (d:Nat),.int .i64 (txb X0:Nat)])∧Below w4.heap.size w4 w'):=rmeasure_any X0 a0 c0 r0 d w4 (HL4.out.sc HS.out) HSm.out.1 hd
   have HBy:Hid (∀W,Below w.heap.size w W→Calls Tryz.prog 28 #[.agg #[.slice a0 X0.length c0,.int .i64 r0]] W fun e w'=>e=.returned (.string (cF X0 r0))∧Below W.heap.size W w'):=fun W hb=>rfbytes_any X0 a0 c0 r0 W (HS.out.sc.belowB hb) HSm.out.1 HFn.out hWh (can_sz HSm.out.1 HSm.out.2 HFn.out hWh)
   have HSv:Hid (∀W,Below w.heap.size w W→Calls Tryz.prog 12 #[.agg #[.slice a0 X0.length c0,.int .i64 r0],.agg #[.int .i64 (cF X0 r0).size,.int .i64 X0.length,.int .i64 (edg X0:Nat),.int .i64 (d:Nat),.int .i64 (txb X0:Nat)]] W fun e w'=>e=.returned (.tuple #[.string (cF X0 r0),.int .i64 0])∧Below W.heap.size W w'):=fun W hb=>by
    refine Calls.mono (pfsave_any X0 a0 c0 r0 (meB X0 d (cF X0 r0).size) W (HS.out.sc.belowB hb) HSm.out.1 HFn.out (HT.out.on hb) (fun q=>can_sz HSm.out.1 HSm.out.2 HFn.out q)) ?_
    rintro e w' ⟨B,k,rfl,h1,h2⟩
    obtain ⟨rfl,rfl⟩:=(sv_make hok hWh hd (meB_in (by omega)) (Int.lt_irrefl _)).uniq h1
    exact ⟨rfl,h2⟩
   have HSl:Hid (∀W,Below w.heap.size w W→Calls Tryz.prog 12 #[.agg #[.slice a0 X0.length c0,.int .i64 r0],.agg #[.int .i64 ((cF X0 r0).size-1),.int .i64 X0.length,.int .i64 (edg X0:Nat),.int .i64 (d:Nat),.int .i64 (txb X0:Nat)]] W fun e w'=>e=.returned (.tuple #[.string ⟨#[]⟩,.int .i64 19])∧Below W.heap.size W w'):=fun W hb=>by
    refine Calls.mono (pfsave_any X0 a0 c0 r0 (meB X0 d ((cF X0 r0).size-1)) W (HS.out.sc.belowB hb) HSm.out.1 HFn.out (HT.out.on hb) (fun q=>can_sz HSm.out.1 HSm.out.2 HFn.out q)) ?_
    rintro e w' ⟨B,k,rfl,h1,h2⟩
    obtain ⟨rfl,rfl⟩:=(sv_less hok2 hWh hd (meB_in (by omega)) (by show ((cF X0 r0).size:Int)-1<(cF X0 r0).size;omega)).uniq h1
    exact ⟨rfl,h2⟩
   have HLd:Hid (∀W,Below w.heap.size w W→Calls Tryz.prog 15 #[.string (cF X0 r0),.agg #[.int .i64 (cF X0 r0).size,.int .i64 X0.length,.int .i64 (edg X0:Nat),.int .i64 (d:Nat),.int .i64 (txb X0:Nat)]] W fun e w'=>∃(Y:List Nx) (a:Option Addr) (c:Nat),e=.returned (.tuple #[.agg #[.slice a Y.length c,.int .i64 ((X0.length:Int)-1)],.int .i64 0])∧Y.map Nx.nd=cX X0 r0∧ScAt w' a Y∧Small Y∧Below W.heap.size W w'):=fun W hb=>
    pfback_any X0 r0 (meB X0 d (cF X0 r0).size) W d (HT.out.on hb) HSm.out.1 HSm.out.2 HFn.out hWh hd hok (meB_in (by omega)) (Int.lt_irrefl _) (okl_rg hok)
   have HLl:Hid (∀W,Below w.heap.size w W→Calls Tryz.prog 15 #[.string (cF X0 r0),.agg #[.int .i64 ((cF X0 r0).size-1),.int .i64 X0.length,.int .i64 (edg X0:Nat),.int .i64 (d:Nat),.int .i64 (txb X0:Nat)]] W fun e w'=>∃(a:Option Addr) (c:Nat),e=.returned (.tuple #[.agg #[.slice a 0 c,.int .i64 0],.int .i64 19])∧Below W.heap.size W w'):=fun W hb=>by
    have hk:=ldK_2 (cF X0 r0) (meB X0 d ((cF X0 r0).size-1)) hok2 (by show ((cF X0 r0).size:Int)-1<(cF X0 r0).size;omega)
    refine Calls.mono (pfload_any (cF X0 r0) (meB X0 d ((cF X0 r0).size-1)) W (HT.out.on hb) (by omega) (fun A C q=>by rw [q] at hk;cases hk) (okl_rg hok2)) ?_
    rintro e w' ⟨Y,a,c,s,k,rfl,h1,_,_,_,h4⟩
    obtain ⟨hY,rfl,rfl⟩:=(LdIs.bad hk (by decide)).uniq h1
    have hl:Y.length=0:=by simpa using congrArg List.length hY
    rw [hl]
    exact ⟨a,c,rfl,h4⟩
   have hYl:∀Y:List Nx,Y.map Nx.nd=cX X0 r0→Y.length=X0.length:=fun Y hY=>(can_ren hWh.2 hY).len
   have HYl:Hid _:=hYl
   have xa0:=HL4.out.c0
   have xa1:=HL4.out.c1
   clear HA HBw hWh hd hme hok hok2 HS HSm HFn HT hYl
   obtain ⟨f1,f2⟩:=hsz
   generalize cF X0 r0=F at *
   generalize edg X0=ne at *
   generalize txb X0=nx at *
   go_wp2_with fail
   refine Calls.mono HMe.out ?_
   rintro e w5 ⟨rfl,hb5⟩
   obtain ⟨w6,hw6⟩:∃w6,w5.alloc (.cells #[.int .i64 0,.int .i64 X0.length,.int .i64 ne,.int .i64 d,.int .i64 nx] 26)=w6:=⟨_,rfl⟩
   have hb6:Below w5.heap.size w5 w6:=by rw [← hw6];exact (Below.refl w5.heap.size w5).alloc (Nat.le_refl _) _
   have HL6:Hid (Lz w w6 w5.heap.size a0 X0 c0 r0 0 X0.length ne d nx):=⟨(HL4.out.more hb5).more hb6,by rw [← hw6];exact AtN.new w5 26 _,(HL4.out.more hb5).at_.lt⟩
   have hgM:w.heap.size<w5.heap.size:=HL6.out.hg
   have HByc:Hid _:=HBy.out w6 HL6.out.s.bel
   clear HMe HL4 HBy hb5 hb6 xa0 xa1
   obtain ⟨xa0,xa1,-⟩:=HL6.out.all
   go_wp2_with fail
   clear hw6
   generalize w5.heap.size=gM at *
   refine Calls.mono HByc.out ?_
   rintro e w7 ⟨rfl,hb7⟩
   have HL7:Hid (Lz w w7 gM a0 X0 c0 r0 0 X0.length ne d nx):=HL6.out.more hb7
   have HL8:Hid (Lz w (w7.setCell ⟨gM,0,none⟩ (.int .i64 F.size)) gM a0 X0 c0 r0 F.size X0.length ne d nx):=HL7.out.set F.size
   have HSc:Hid _:=HSv.out _ HL8.out.s.bel
   clear HL6 HByc hb7 xa0 xa1
   obtain ⟨xa0,xa1,y0,y1,y2,y3,y4,yf⟩:=HL7.out.all
   go_wp2_with fail
   generalize w7.setCell ⟨gM,0,none⟩ (.int .i64 F.size)=w8 at *
   refine Calls.mono HSc.out ?_
   rintro e w9 ⟨rfl,hb9⟩
   have HL9:Hid (Lz w w9 gM a0 X0 c0 r0 F.size X0.length ne d nx):=HL8.out.more hb9
   have HLc:Hid _:=HLd.out _ HL9.out.s.bel
   clear HL7 HL8 HSc hb9 HSv HLd xa0 xa1 y0 y1 y2 y3 y4 yf
   obtain ⟨xa0,xa1,y0,y1,y2,y3,y4,yf⟩:=HL9.out.all
   go_wp2_with fail
   refine Calls.mono HLc.out ?_
   rintro e wa ⟨Y,ay,cy,rfl,hY,-,-,hba⟩
   have hYe:=HYl.out Y hY
   rw [hYe]
   obtain ⟨wb,hwb⟩:∃wb,wa.alloc (.cells #[.slice ay X0.length cy,.int .i64 ((X0.length:Int)-1)] 24)=wb:=⟨_,rfl⟩
   have hbb:Below wa.heap.size wa wb:=by rw [← hwb];exact (Below.refl wa.heap.size wa).alloc (Nat.le_refl _) _
   have HMb:Hid (AtN 24 wb wa.heap.size #[.slice ay X0.length cy,.int .i64 ((X0.length:Int)-1)]):=by rw [← hwb];exact AtN.new wa 24 _
   have HLb:Hid (Lz w wb gM a0 X0 c0 r0 F.size X0.length ne d nx):=(HL9.out.more hba).more hbb
   have hgt:gM<wa.heap.size:=(HL9.out.more hba).m.lt
   have HLs:Hid (Lz w (wb.setCell ⟨gM,0,none⟩ (.int .i64 ((F.size:Int)-1))) gM a0 X0 c0 r0 ((F.size:Int)-1) X0.length ne d nx):=HLb.out.set ((F.size:Int)-1)
   have HMs:Hid (AtN 24 (wb.setCell ⟨gM,0,none⟩ (.int .i64 ((F.size:Int)-1))) wa.heap.size #[.slice ay X0.length cy,.int .i64 ((X0.length:Int)-1)]):=HMb.out.setOther ⟨gM,0,none⟩ (by show gM≠wa.heap.size;omega) _
   have HSc:Hid _:=HSl.out _ HLs.out.s.bel
   clear HL9 HLc hba hbb HMb HSl hY hYe HYl xa0 xa1 y0 y1 y2 y3 y4 yf
   obtain ⟨xa0,xa1,y0,y1,y2,y3,y4,yf⟩:=HLb.out.all
   go_wp2_with fail
   clear hwb
   generalize wb.setCell ⟨gM,0,none⟩ (.int .i64 ((F.size:Int)-1))=wc at *
   generalize wa.heap.size=gY at *
   refine Calls.mono HSc.out ?_
   rintro e wd ⟨rfl,hbd⟩
   have HLd:Hid (Lz w wd gM a0 X0 c0 r0 ((F.size:Int)-1) X0.length ne d nx):=HLs.out.more hbd
   have HMd:Hid (AtN 24 wd gY #[.slice ay X0.length cy,.int .i64 ((X0.length:Int)-1)]):=HMs.out.belowAll hbd
   have HLc:Hid _:=HLl.out _ HLd.out.s.bel
   clear HLb HLs HMs HSc hbd HLl xa0 xa1 y0 y1 y2 y3 y4 yf
   obtain ⟨xa0,xa1,y0,y1,y2,y3,y4,yf⟩:=HLd.out.all
   go_wp2_with fail
   refine Calls.mono HLc.out ?_
   rintro e we ⟨az,cz,rfl,hbe⟩
   have hbf:Below we.heap.size we (we.alloc (.cells #[.slice az 0 cz,.int .i64 0] 24)):=(Below.refl we.heap.size we).alloc (Nat.le_refl _) _
   have HNf:Hid (AtN 24 (we.alloc (.cells #[.slice az 0 cz,.int .i64 0] 24)) we.heap.size #[.slice az 0 cz,.int .i64 0]):=AtN.new we 24 _
   have HLf:Hid (Lz w (we.alloc (.cells #[.slice az 0 cz,.int .i64 0] 24)) gM a0 X0 c0 r0 ((F.size:Int)-1) X0.length ne d nx):=(HLd.out.more hbe).more hbf
   have HMf:Hid (AtN 24 (we.alloc (.cells #[.slice az 0 cz,.int .i64 0] 24)) gY #[.slice ay X0.length cy,.int .i64 ((X0.length:Int)-1)]):=(HMd.out.belowAll hbe).belowAll hbf
   clear HLd HMd HLc hbe hbf xa0 xa1 y0 y1 y2 y3 y4 yf
   have xa0:=HLf.out.all.1
   have m0:(we.alloc (.cells #[.slice az 0 cz,.int .i64 0] 24)).cell? ⟨gY,0,none⟩=some (.slice ay X0.length cy):=HMf.out.cell 0
   have n0:(we.alloc (.cells #[.slice az 0 cz,.int .i64 0] 24)).cell? ⟨we.heap.size,0,none⟩=some (.slice az 0 cz):=HNf.out.cell 0
   have HBf:Hid (Below w.heap.size w (we.alloc (.cells #[.slice az 0 cz,.int .i64 0] 24))):=HLf.out.s.bel
   go_wp2_with fail
   go_ret
   exact ⟨rfl,HBf.out⟩
set_option maxRecDepth 100000 in
theorem lifted (os:Os) (started:os.Started) (H:Type) (enc:TypeId × Value→H) :
  ReturnsInHanded {} Tryz.checked os 9 .any (fun w args=>(Rows.fileLimitsSpec.pre enc Tryz.prog Tryz.f9 [] false w args∧laidMetH Tryz.prog laid2 w)∧sizedMet enc Tryz.prog Tryz.f9 (OpenSpec.ofChange Rows.fileLimitsSpec) false w args)
   (Rows.fileLimitsSpec.post enc Tryz.prog Tryz.f9 false true false false):=by
 refine returnsInHanded_of_change_and (C:=Tryz.checked) (X:=fun w _=>laidMetH Tryz.prog laid2 w) (fun _ _ _ hh h=>h.of_heap hh) own started (by kernel_rfl) Tryz.func9
  (ChangeSpec.witness_shaped (enc:=enc) (C:=Tryz.checked) (os:=os) (X:=fun w _=>laidMetH Tryz.prog laid2 w) false (World.doorLaid Tryz.prog 400 os) #[.agg #[.slice none 0 0,.int .i64 0]] 8 rfl (World.shaped_of_RefB (by kernel_rfl) (by kernel_rfl)) (by kernel_rfl) (by kernel_rfl) (by kernel_rfl) (door_met os _)) ?_
 intro W base args ds gs before hval0 hW _ _ hL _
 have hval:∀(j:Nat) t v,Tryz.f9.params[j]? = some t→args[j]? = some v→Value.okWide Tryz.prog W .any base t v:=hval0
 have hW':=hW
 obtain ⟨p,q,hA0,hV,rfl,hfz,hnd⟩:=hW
 have hA:DataW.TrodAll enc Tryz.prog W 0 (fun _=>true) true Tryz.f9.params.toList args.toList ds p:=hA0
 rw [Tryz.params9] at hA hval
 obtain ⟨v0,vs0,d0,ds0,p0,q0,hargs,rfl,rfl,h0,r0⟩:=trodAll_cons hA
 obtain ⟨rfl,rfl,rfl⟩:=trodAll_nil r0
 obtain rfl:args=#[v0]:=by cases args;simp_all
 obtain ⟨rfl,rfl⟩:=trodVars_none hV
 have K0:=h0
 have lt0:∀x ∈ p0,x.block<W.heap.size:=by obtain ⟨m,hm⟩:=K0;exact DataW.trod_lt m _ _ _ hm
 obtain ⟨X0,a0,c0,rt0,rfl,w0⟩:=open_scene Tryz.underlying24 (by kernel_rfl) (by kernel_rfl) Tryz.underlying22 Tryz.underlying3 Tryz.underlying62 (by kernel_rfl) rfl rfl rfl rfl (by kernel_rfl) (by kernel_rfl) (by kernel_rfl) (by kernel_rfl) Tryz.underlying3 Tryz.underlying58 Tryz.underlying59 Tryz.underlying60 Tryz.underlying2 Tryz.underlying9 Tryz.underlying3 (by kernel_rfl) (by kernel_rfl) (by kernel_rfl) (hval 0 24 v0 rfl rfl) h0
 clear hA0 hval0
 refine (walk X0 a0 c0 rt0 W w0 (tabs_of hL)).mono fun e W' ⟨he,bel⟩=>?_
 subst he
 exact ⟨_,rfl,_,_,_,[],_,[],hW',trodAll_mk1 (shut_bool Tryz.underlying4 _),(trodAll_cons_mk (Below.trod laidOut (by kernel_rfl) (of_decide_eq_true (by kernel_rfl)) K0 bel lt0) trodAll_mk0),rfl,bel.frame _,fun h=>by cases h⟩
theorem row:Rows.fileLimitsRow.holds Tryz.pinned (OpenSpec.ofChange Rows.fileLimitsSpec):=
 OpenClaim.holds_of_wide 9 Tryz.f9 rfl rfl rfl rfl rfl rfl rfl ⟨rfl,rfl,rfl,rfl,rfl⟩ rfl rfl rfl rfl rfl (by kernel_rfl) Tryz.func9 (by kernel_rfl)
  (of_decide_eq_true (by kernel_rfl)) (by unfold Func.isWrapper;first|(rw [if_pos (by decide +kernel)];kernel_rfl)|(rw [if_neg (by decide +kernel)];exact ⟨rfl,rfl⟩))
  (fun os started H enc _=>lifted os started H enc)
theorem plain (f:FuncId) (fn:Func) (hf:Tryz.pinned.checked.prog.funcNamed Rows.fileLimitsRow.func=some f) (hfn:Tryz.pinned.checked.prog.funcs[f]? = some fn) :
  true=Tryz.pinned.checked.prog.looks []∧∀(j:Nat) t,fn.params[j]? = some t→Tryz.pinned.checked.prog.wantsStandIn t=false:=by
 obtain rfl:f=9:=Option.some.inj ((show Tryz.prog.funcNamed Rows.fileLimitsRow.func=some 9 by kernel_rfl).symm.trans hf) |>.symm
 obtain rfl:fn=Tryz.f9:=(Option.some.inj (Tryz.func9.symm.trans hfn)).symm
 refine ⟨by kernel_rfl,fun j t ht=>?_⟩
 have hm:=Array.mem_of_getElem? ht
 have hall:(Tryz.f9.params.toList.all fun u=>!Tryz.prog.wantsStandIn u)=true:=by kernel_rfl
 exact (show Tryz.prog.wantsStandIn t=false by simpa using List.all_eq_true.1 hall t (by simpa using hm))
theorem over:Rows.FileLimitsCardSaid:=
 Claim7.holds_tied_plain_at .later [] _ _ _ _ row (fun _ h=>by cases h) (by kernel_rfl) (fun _ h=>by cases h) fileLimits_row_tie rfl ⟨rfl,rfl⟩ (by kernel_rfl) rfl plain (by kernel_rfl)
end Go.Proofs.YtcgjgjjegnofeaaGreatDoor.fileLimits
namespace Go.Proofs.YtcgjgjjegnofeaaGreatDoor
theorem fileLimits_holds:Rows.FileLimitsCardSaid:=fileLimits.over
#print axioms fileLimits_holds
end Go.Proofs.YtcgjgjjegnofeaaGreatDoor
