import Derived.Test.YtgoffkfpdigeeaaGreatDoorA34
import Derived.Test.YtgoffkfpdigeeaaGreatDoorA31
namespace Go.Proofs.YtgoffkfpdigeeaaGreatDoor
open Go.RowKit Go.Maps Go.WideMaps Go.Sort
theorem one_ls (w:World) (x:ByteArray):LsAt (w.alloc (.cells #[.string x] 9)) (some ⟨w.heap.size,0,none⟩) (tV [x]):=
 ⟨w.heap.size,0,fun _=>rfl,fun i hi=>by
  obtain rfl:i=0:=by simp [tV] at hi;exact hi
  exact ⟨by simp,by simp [tV]⟩⟩
set_option maxRecDepth 10000 in
set_option maxHeartbeats 1000000 in
theorem oints_any (bs:ByteArray) (gc:Nat) (C:List Int) (sb:Option Addr) (sc k:Nat) (e:Int) (w:World) (h:Cu w gc bs k e) (hs:bs.size≤4000000) (hk:k≤bs.size) (hC:∀W,w.grownBy W (some gc)→LsAt W sb (iV C)) (hT:∀W,w.grownBy W (some gc)→TabAt W 1 spansC) (hl:C.length≤1000) :
  Calls Tryz.prog 120 #[.pointer (some ⟨gc,0,none⟩),.slice sb C.length sc] w fun r w'=>∃l v,r=.returned v∧Bl w w' gc bs (gIs bs C k e).2.1 (gIs bs C k e).2.2 2 v l.length (iV l)∧((gIs bs C k e).2.2=0→l=(gIs bs C k e).1):=by
 obtain ⟨i1,hi1,hz10,hz11,hz12⟩:=info_parts Tryz.infoN8
 have hsm:bs.size≤maxLen:=by unfold maxLen;omega
 have HC:Hid (∀W,w.grownBy W (some gc)→LsAt W sb (iV C)):=hC
 have HT:Hid (∀W,w.grownBy W (some gc)→TabAt W 1 spansC):=hT
 have HI:Hid (∀(W:World) (k:Nat) (e:Int),Cu W gc bs k e→k≤bs.size→Calls Tryz.prog 149 #[.pointer (some ⟨gc,0,none⟩)] W fun r w'=>r=.returned (.int .i64 (pInt bs k e).1)∧Cu w' gc bs ((pInt bs k e).2.1:Nat) (pInt bs k e).2.2∧W.grownBy w' (some gc)):=fun W k e q1 q2=>int_any W gc bs k e q1 hsm q2
 have HFl:Hid (∀(W:World) (k:Nat) (e d:Int),Cu W gc bs k e→Calls Tryz.prog 76 #[.pointer (some ⟨gc,0,none⟩),.int .i64 d] W fun r w'=>r=.returned (.tuple #[])∧Cu w' gc bs k (fl e d)∧W.grownBy w' (some gc)):=fun W k e d q=>fail_any W gc bs k e d q
 have HIn:Hid (∀(W:World) (c x:Int),w.grownBy W (some gc)→-9223372036854775808≤x→x≤9223372036854775807→Calls Tryz.prog 150 #[.int .i64 c,.int .i64 x] W fun e w'=>e=.returned (.bool (in7 c x))∧w'=W):=fun W c x hW h1 h2=>in_any c x W (hT W hW) h1 h2
 have HS:Hid (Bl w w gc bs k e 2 (.slice none 0 0) 0 []):=Bl.start h hk
 obtain ⟨R,hR⟩:∃R,gIs bs C k e=R:=⟨_,rfl⟩
 have HIn0:Hid (InvI bs C k e 0 [] k e):=InvI.start bs C k e
 rw [hR]
 clear h hC hT
 go_enter Tryz.func120,Tryz.ntmps120
 go_wp2_with fail
 go_loopw [5,11] (fun v5 iv wr=>∃(i k':Nat) (e':Int) (l:List Int) (v:Value),v=v5∧iv=.int .i64 i∧i≤C.length∧l.length=i∧Hid (InvI bs C k e i l k' e')∧Hid (Bl w wr gc bs k' e' 2 v l.length (iV l))) (fun _ iv _=>C.length-(intOf iv).toNat)
 case atStart=>exact ⟨0,k,e,[],_,rfl,rfl,by omega,rfl,HIn0,HS⟩
 case round=>
  clear HS HIn0
  obtain ⟨i,k',e',l,v,rfl,rfl,hi,rfl,HV,HB⟩:=hrel
  have hkb:=HB.out.kb
  by_cases hlt:l.length<C.length
  ·have hlt':(l.length:Int)<C.length:=by omega
   obtain ⟨b3,o3,hsb,hb3,d3⟩:=(HC.out wr HB.out.fr).at (iV_at C l.length hlt)
   subst hsb
   obtain ⟨x,k3,e3,hq⟩:∃x k3 e3,pInt bs k' e'=(x,k3,e3):=⟨_,_,_,rfl⟩
   have hx:=pInt_top bs k' e' hkb
   have hk3:=pInt_at bs k' e' hkb
   have hIc:=HI.out wr k' e' HB.out.cur hkb
   rw [hq] at hx hk3 hIc
   dsimp only at hx hk3 hIc
   have HIc:Hid _:=hIc
   have HVn:Hid _:=HV.out.next hlt hq
   generalize C.getD l.length 0=c at *
   have HR:Hid (∀W,w.grownBy W (some gc)→_):=fun W hW=>HIn.out W c x hW hx.1 hx.2
   generalize in7 c x=bb at *
   clear hIc hq HV
   go_wp2_with fail
   refine Calls.mono HIc.out ?_
   rintro r w3 ⟨rfl,hc3,hg3⟩
   have HB3:Hid _:=HB.out.read hg3 hc3 hk3.2
   clear HB hg3 hc3 HIc
   go_wp2_with fail
   refine Calls.mono (HR.out _ HB3.out.fr) ?_
   rintro r w4 ⟨rfl,hw4⟩
   rw [hw4]
   clear hw4 HR d3 hb3
   go_upto_if 20 with fail
   go_cut [] (fun wc=>Hid (Bl w wc gc bs k3 (if bb=true then e3 else fl e3 10) 2 v l.length (iV l)))
   case first=>
    cases bb
    ·go_wp2_with fail
     refine Calls.mono (HFl.out _ k3 e3 10 HB3.out.cur) ?_
     rintro r w5 ⟨rfl,hc5,hg5⟩
     go_wp2_with fail
     go_meet
     exact HB3.out.read hg5 hc5 hk3.2
    ·go_wp2_with fail
     go_meet
     exact HB3
   case rest=>
    clear HB3
    generalize (if bb=true then e3 else fl e3 10)=e4 at *
    have HB4:=hcut
    clear hcut
    have hsz:=HB4.out.fr.size
    go_wp2_with (at_builtin;refine wpList_append_lies _ rfl (.tmp 23) (.tmp 25) 48 rfl w.heap.size 2 i1 (.int .i64 0) 1 8 Tryz.underlying48 hi1 hz10 hz11 hz12 rfl (by decide) v l.length (iV l) rfl (HB4.out.own.alloc _) ⟨wc.heap.size,0,none⟩ 1 1 [.int .i64 x] rfl rfl (cell_one_new _ _ _) (by intro u hu;simp at hu;subst hu;rfl) (by decide) (by unfold maxLen;omega) (by omega) (by simp;omega) _ rfl ?_)
    intro g2 cap2 w5 hown2 hgrow2 hlie hlt2
    have HB5:=HB4.out.more ((Below.refl _ _).alloc (Nat.le_refl _) (.cells #[.int .i64 x] 2))
    have HB6:Hid (Bl w w5 gc bs k3 e4 2 (.slice (some ⟨g2,0,none⟩) (l.length+1) cap2) (l++[x]).length (iV (l++[x]))):=HB5.app hgrow2 (by simpa [iV] using hown2)
    clear HB4 HB5 hgrow2 hown2 hlie hlt2
    go_wp2_with fail
    go_roundw
    case rel=>exact ⟨l.length+1,k3,e4,l++[x],_,rfl,by go_num,by omega,by simp,HVn,HB6⟩
    case measure=>simp [intOf];omega
  ·have hlt':¬(l.length:Int)<C.length:=by omega
   have hf:=HV.out.fin (by omega)
   rw [hR] at hf
   obtain ⟨f1,f2,f3⟩:=hf
   rw [f1,f2] at HB
   have HF:Hid _:=f3
   clear HV f1 f2 f3 hkb
   obtain ⟨ao,cap,rfl⟩:=own_shape6 HB.out.own
   go_wp2_with fail
   go_ret
   exact ⟨l,_,rfl,HB.out,HF.out⟩
theorem fl_none (e:Int):fl e 0=e:=by unfold fl;split <;> simp_all
theorem fl_ok8 (b:Bool) (e:Int):fl e (if b=true then 0 else 11)=if b=true then e else fl e 11:=by
 cases b
 ·rfl
 ·simp [fl_none]
theorem chk_one (x:ByteArray):chkN ⟨0,[],[x],[]⟩ [] 1 0 0=if ok8 x=true then 0 else 11:=by
 unfold chkN fitI fitT fitK
 cases h:ok8 x <;> simp [h]
theorem one_any (x:ByteArray) (g:Nat) (W:World) (hx:x.size≤4000000) (hT:TabAt W 1 spansC) (h:LsAt W (some ⟨g,0,none⟩) (tV [x])) :
  Calls Tryz.prog 137 #[.agg #[.int .i64 0,.slice none 0 0,.slice (some ⟨g,0,none⟩) 1 1,.slice none 0 0],.agg #[.slice none 0 0,.int .i64 1,.int .i64 0,.int .i64 0]] W fun e w'=>e=.returned (.int .i64 (if ok8 x=true then 0 else 11))∧Below W.heap.size W w':=by
 rw [← chk_one x]
 exact fcheck_any ⟨0,[],[x],[]⟩ [] 1 0 0 none (some ⟨g,0,none⟩) none none 0 1 0 0 W ⟨LsAt.nil _ _,h,LsAt.nil _ _⟩ (LsAt.nil _ _) hT (fun i hi=>by simp at hi) (by simp) (by simp) (fun s hs=>by simp at hs;subst hs;exact hx)
set_option maxRecDepth 10000 in
set_option maxHeartbeats 1000000 in
theorem otexts_any (bs:ByteArray) (gc n:Nat) (tx:Int) (k:Nat) (e:Int) (w:World) (h:Cu w gc bs k e) (hs:bs.size≤4000000) (hk:k≤bs.size) (hT:∀W,w.grownBy W (some gc)→TabAt W 1 spansC) (hn:n≤1000) (htx:tx≤9223372036854775807) :
  Calls Tryz.prog 121 #[.pointer (some ⟨gc,0,none⟩),.int .i64 n,.int .i64 tx] w fun r w'=>∃l v,r=.returned v∧Bl w w' gc bs (oTs bs tx n k e).2.1 (oTs bs tx n k e).2.2 9 v l.length (tV l)∧((oTs bs tx n k e).2.2=0→l=(oTs bs tx n k e).1):=by
 obtain ⟨i1,hi1,hz10,hz11,hz12⟩:=info_parts Tryz.infoS8
 have hsm:bs.size≤maxLen:=by unfold maxLen;omega
 have HU:Hid (∀(W:World) (k:Nat) (e m:Int),m≤9223372036854775807→Cu W gc bs k e→k≤bs.size→Calls Tryz.prog 151 #[.pointer (some ⟨gc,0,none⟩),.int .i64 m] W fun r w'=>r=.returned (.string (pText bs k e m).1)∧Cu w' gc bs ((pText bs k e m).2.1:Nat) (pText bs k e m).2.2∧W.grownBy w' (some gc)):=fun W k e m q0 q1 q2=>text_any W gc bs k e m q1 (by omega) q2 q0
 have HFl:Hid (∀(W:World) (k:Nat) (e d:Int),Cu W gc bs k e→Calls Tryz.prog 76 #[.pointer (some ⟨gc,0,none⟩),.int .i64 d] W fun r w'=>r=.returned (.tuple #[])∧Cu w' gc bs k (fl e d)∧W.grownBy w' (some gc)):=fun W k e d q=>fail_any W gc bs k e d q
 have HCk:Hid (∀(x:ByteArray) (g:Nat) (W:World),w.grownBy W (some gc)→x.size≤bs.size→LsAt W (some ⟨g,0,none⟩) (tV [x])→Calls Tryz.prog 137 #[.agg #[.int .i64 0,.slice none 0 0,.slice (some ⟨g,0,none⟩) 1 1,.slice none 0 0],.agg #[.slice none 0 0,.int .i64 1,.int .i64 0,.int .i64 0]] W fun e w'=>e=.returned (.int .i64 (if ok8 x=true then 0 else 11))∧Below W.heap.size W w'):=fun x g W hW hx hl=>one_any x g W (by omega) (hT W hW) hl
 have HS:Hid (Bl w w gc bs k e 9 (.slice none 0 0) 0 []):=Bl.start h hk
 obtain ⟨R,hR⟩:∃R,oTs bs tx n k e=R:=⟨_,rfl⟩
 have HIn0:Hid (InvX bs tx n k e 0 [] k e):=InvX.start bs tx n k e
 rw [hR]
 clear h hT
 go_enter Tryz.func121,Tryz.ntmps121
 go_wp2_with fail
 go_loopw [7,10] (fun v5 iv wr=>∃(i k':Nat) (e':Int) (l:List ByteArray) (v:Value),v=v5∧iv=.int .i64 i∧i≤n∧l.length=i∧Hid (InvX bs tx n k e i l k' e')∧Hid (Bl w wr gc bs k' e' 9 v l.length (tV l))) (fun _ iv _=>n-(intOf iv).toNat)
 case atStart=>exact ⟨0,k,e,[],_,rfl,rfl,by omega,rfl,HIn0,HS⟩
 case round=>
  clear HS HIn0
  obtain ⟨i,k',e',l,v,rfl,rfl,hi,rfl,HV,HB⟩:=hrel
  have hkb:=HB.out.kb
  by_cases hlt:l.length<n
  ·have hlt':(l.length:Int)<n:=by omega
   obtain ⟨x,k3,e3,hq⟩:∃x k3 e3,pText bs k' e' tx=(x,k3,e3):=⟨_,_,_,rfl⟩
   have hxs:=pText_size bs k' e' tx
   have hk3:=pText_at bs k' e' tx hkb
   have hUc:=HU.out wr k' e' tx htx HB.out.cur hkb
   rw [hq] at hxs hk3 hUc
   dsimp only at hxs hk3 hUc
   have HUc:Hid _:=hUc
   have HVn:Hid _:=HV.out.next hlt hq
   have HR:Hid (∀g W,w.grownBy W (some gc)→LsAt W (some ⟨g,0,none⟩) (tV [x])→_):=fun g W hW hl=>HCk.out x g W hW hxs hl
   have HE:Hid (fl e3 (if ok8 x=true then 0 else 11)=if ok8 x=true then e3 else fl e3 11):=fl_ok8 _ _
   generalize (if ok8 x=true then e3 else fl e3 11)=e4 at *
   generalize (if ok8 x=true then (0:Int) else 11)=d at *
   clear hUc hq HV
   go_wp2_with fail
   refine Calls.mono HUc.out ?_
   rintro r w3 ⟨rfl,hc3,hg3⟩
   have HB3:Hid _:=HB.out.read hg3 hc3 hk3.2
   clear HB hg3 hc3 HUc
   have HB4:Hid _:=HB3.out.more ((Below.refl _ _).alloc (Nat.le_refl _) (.cells #[.string x] 9))
   have HLs:Hid (LsAt (w3.alloc (.cells #[.string x] 9)) (some ⟨w3.heap.size,0,none⟩) (tV [x])):=one_ls w3 x
   clear HB3
   go_wp2_with fail
   refine Calls.mono (HR.out _ _ HB4.out.fr HLs.out) ?_
   rintro r w4 ⟨rfl,hb4⟩
   have HB5:Hid _:=HB4.out.more hb4
   clear HB4 HLs hb4 HR
   go_wp2_with fail
   refine Calls.mono (HFl.out _ k3 e3 d HB5.out.cur) ?_
   rintro r w5 ⟨rfl,hc5,hg5⟩
   rw [HE.out] at hc5
   have HB6:Hid _:=HB5.out.read hg5 hc5 hk3.2
   clear HB5 hc5 hg5 HE
   have hsz:=HB6.out.fr.size
   go_wp2_with (at_builtin;refine wpList_append_lies _ rfl (.tmp 22) (.tmp 24) 47 rfl w.heap.size 9 i1 (.string ⟨#[]⟩) 1 16 Tryz.underlying47 hi1 hz10 hz11 hz12 rfl (by decide) v l.length (tV l) rfl (HB6.out.own.alloc _) ⟨w5.heap.size,0,none⟩ 1 1 [.string x] rfl rfl (cell_one_new _ _ _) (by intro u hu;simp at hu;subst hu;rfl) (by decide) (by unfold maxLen;omega) (by omega) (by simp;omega) _ rfl ?_)
   intro g2 cap2 w6 hown2 hgrow2 hlie hlt2
   have HB7:=HB6.out.more ((Below.refl _ _).alloc (Nat.le_refl _) (.cells #[.string x] 9))
   have HB8:Hid (Bl w w6 gc bs k3 e4 9 (.slice (some ⟨g2,0,none⟩) (l.length+1) cap2) (l++[x]).length (tV (l++[x]))):=HB7.app hgrow2 (by simpa [tV] using hown2)
   clear HB6 HB7 hgrow2 hown2 hlie hlt2
   go_wp2_with fail
   go_roundw
   case rel=>exact ⟨l.length+1,k3,e4,l++[x],_,rfl,by go_num,by omega,by simp,HVn,HB8⟩
   case measure=>simp [intOf];omega
  ·have hlt':¬(l.length:Int)<n:=by omega
   have hf:=HV.out.fin (by omega)
   rw [hR] at hf
   obtain ⟨f1,f2,f3⟩:=hf
   rw [f1,f2] at HB
   have HF:Hid _:=f3
   clear HV f1 f2 f3 hkb
   obtain ⟨ao,cap,rfl⟩:=own_shape6 HB.out.own
   go_wp2_with fail
   go_ret
   exact ⟨l,_,rfl,HB.out,HF.out⟩
set_option maxRecDepth 10000 in
set_option maxHeartbeats 1000000 in
theorem okids_any (bs:ByteArray) (gc n:Nat) (p c:Int) (k:Nat) (e:Int) (w:World) (h:Cu w gc bs k e) (hs:bs.size≤4000000) (hk:k≤bs.size) (hn:n≤16777216) :
  Calls Tryz.prog 122 #[.pointer (some ⟨gc,0,none⟩),.int .i64 n,.int .i64 p,.int .i64 c] w fun r w'=>∃l v,r=.returned v∧Bl w w' gc bs (oKs bs p c n k e).2.1 (oKs bs p c n k e).2.2 3 v l.length (iV l)∧((oKs bs p c n k e).2.2=0→l=(oKs bs p c n k e).1)∧l.length≤n:=by
 obtain ⟨i1,hi1,hz10,hz11,hz12⟩:=info_parts Tryz.infoI7
 have hsm:bs.size≤maxLen:=by unfold maxLen;omega
 have HU:Hid (∀(W:World) (k:Nat) (e m:Int),Cu W gc bs k e→k≤bs.size→Calls Tryz.prog 117 #[.pointer (some ⟨gc,0,none⟩),.int .u64 m] W fun r w'=>r=.returned (.int .i64 (pUint bs k e m).1)∧Cu w' gc bs ((pUint bs k e m).2.1:Nat) (pUint bs k e m).2.2∧W.grownBy w' (some gc)):=fun W k e m q1 q2=>uint_any W gc bs k e m q1 hsm q2
 have HFl:Hid (∀(W:World) (k:Nat) (e d:Int),Cu W gc bs k e→Calls Tryz.prog 76 #[.pointer (some ⟨gc,0,none⟩),.int .i64 d] W fun r w'=>r=.returned (.tuple #[])∧Cu w' gc bs k (fl e d)∧W.grownBy w' (some gc)):=fun W k e d q=>fail_any W gc bs k e d q
 have HEr:Hid (∀(W:World) (k:Nat) (e:Int),Cu W gc bs k e→Calls Tryz.prog 74 #[.pointer (some ⟨gc,0,none⟩)] W fun r w'=>r=.returned (.int .i64 e)∧Below W.heap.size W w'):=fun W k e q=>err_any W gc bs k e q
 have HS:Hid (Bl w w gc bs k e 3 (.slice none 0 0) 0 []):=Bl.start h hk
 obtain ⟨R,hR⟩:∃R,oKs bs p c n k e=R:=⟨_,rfl⟩
 have HIn0:Hid (InvY bs p c n k e 0 [] k e):=InvY.start bs p c n k e
 rw [hR]
 clear h
 go_enter Tryz.func122,Tryz.ntmps122
 go_wp2_with fail
 go_loopg [9] n (fun gh v5 wr=>∃(k':Nat) (e':Int) (l:List Int) (a:Option Addr) (cc:Nat),.slice a l.length cc=v5∧gh=n-l.length∧l.length≤n∧Hid (InvY bs p c n k e l.length l k' e')∧Hid (Bl w wr gc bs k' e' 3 (.slice a l.length cc) l.length (iV l)))
 case atStart=>exact ⟨k,e,[],none,0,rfl,rfl,by simp,HIn0,HS⟩
 case round=>
  clear HS HIn0
  obtain ⟨k',e',l,a,cc,rfl,rfl,hi,HV,HB⟩:=hrel
  have hkb:=HB.out.kb
  by_cases hlt:l.length<n
  ·have hlt':(l.length:Int)<n:=by omega
   obtain ⟨x,k3,e3,hq⟩:∃x k3 e3,pUint bs k' e' 16777216=(x,k3,e3):=⟨_,_,_,rfl⟩
   have hx:=pUint_top bs k' e' 16777216
   have hk3:=pUint_at bs k' e' 16777216 hkb
   have hUc:=HU.out wr k' e' 16777216 HB.out.cur hkb
   rw [hq] at hx hk3 hUc
   dsimp only at hx hk3 hUc
   have HUc:Hid _:=hUc
   have hVn:=HV.out.next hlt hq
   obtain ⟨bb,hbb⟩:∃bb,decide (x≤p∨c≤x)=bb:=⟨_,rfl⟩
   rw [hbb] at hVn
   have HVn:Hid _:=hVn
   have HBb:Hid _:=hbb
   clear hUc hq HV hVn hbb
   go_wp2_with fail
   refine Calls.mono HUc.out ?_
   rintro r w3 ⟨rfl,hc3,hg3⟩
   have HB3:Hid _:=HB.out.read hg3 hc3 hk3.2
   clear HB hg3 hc3 HUc
   go_upto_region 4 with fail
   go_cut [24] (fun s24 wc=>s24=.bool bb∧Hid (Bl w wc gc bs k3 e3 3 (.slice a l.length cc) l.length (iV l)))
   case first=>
    by_cases c1:x≤p
    ·obtain rfl:bb=true:=by rw [← HBb.out];exact decide_eq_true (.inl c1)
     go_wp2_with fail
     go_meet
     exact ⟨rfl,HB3⟩
    ·by_cases c2:c≤x
     ·obtain rfl:bb=true:=by rw [← HBb.out];exact decide_eq_true (.inr c2)
      go_wp2_with fail
      go_meet
      exact ⟨rfl,HB3⟩
     ·obtain rfl:bb=false:=by rw [← HBb.out];exact decide_eq_false (by omega)
      go_wp2_with fail
      go_meet
      exact ⟨rfl,HB3⟩
   case rest=>
    clear HB3 HBb
    obtain ⟨rfl,HB4⟩:=hcut
    go_upto_if 24 with fail
    go_cut [] (fun wc=>Hid (Bl w wc gc bs k3 (if bb=true then fl e3 13 else e3) 3 (.slice a l.length cc) l.length (iV l)))
    case first=>
     cases bb
     ·go_wp2_with fail
      go_meet
      exact HB4
     ·go_wp2_with fail
      refine Calls.mono (HFl.out _ k3 e3 13 HB4.out.cur) ?_
      rintro r w5 ⟨rfl,hc5,hg5⟩
      go_wp2_with fail
      go_meet
      exact HB4.out.read hg5 hc5 hk3.2
    case rest=>
     clear HB4
     generalize (if bb=true then fl e3 13 else e3)=e4 at *
     have HB5:=hcut
     clear hcut
     go_wp2_with fail
     refine Calls.mono (HEr.out _ k3 e4 HB5.out.cur) ?_
     rintro r w6 ⟨rfl,hb6⟩
     have HB6:Hid _:=HB5.out.more hb6
     clear HB5 hb6
     by_cases h4:e4=0
     ·subst h4
      have hsz:=HB6.out.fr.size
      go_wp2_with (at_builtin;refine wpList_append_lies _ rfl (.tmp 30) (.tmp 32) 49 rfl w.heap.size 3 i1 (.int .i64 0) 1 8 Tryz.underlying49 hi1 hz10 hz11 hz12 rfl (by decide) (.slice a l.length cc) l.length (iV l) rfl (HB6.out.own.alloc _) ⟨w6.heap.size,0,none⟩ 1 1 [.int .i64 (x)] rfl rfl (cell_one_new _ _ _) (by intro u hu;simp at hu;subst hu;rfl) (by decide) (by unfold maxLen;omega) (by omega) (by simp;omega) _ rfl ?_)
      intro g2 cap2 w7 hown2 hgrow2 hlie hlt2
      have HB7:=HB6.out.more ((Below.refl _ _).alloc (Nat.le_refl _) (.cells #[.int .i64 (x)] 3))
      have HB8:Hid (Bl w w7 gc bs k3 0 3 (.slice (some ⟨g2,0,none⟩) (l++[x]).length cap2) (l++[x]).length (iV (l++[x]))):=by
       show Bl _ _ _ _ _ _ _ _ _ _
       have:=HB7.app hgrow2 hown2
       simpa [iV] using this
      have HVl:Hid (InvY bs p c n k e (l++[x]).length (l++[x]) k3 0):=by
       rw [List.length_append]
       exact ⟨fun _=>HVn.out.1 (by trivial),fun q=>absurd rfl q⟩
      clear HB6 HB7 hgrow2 hown2 hlie hlt2 HVn
      go_wp2_with fail
      go_roundg (n-(l.length+1))
      case measure=>omega
      case rel=>exact ⟨k3,0,l++[x],some ⟨g2,0,none⟩,cap2,by simp,by simp,by simp;omega,HVl,HB8⟩
     ·have hf:=InvY.bad HVn.out h4
      rw [hR] at hf
      obtain ⟨f1,f2⟩:=hf
      have hez:R.2.2≠0:=by rw [← f2];exact h4
      have HB7:Hid (Bl w w6 gc bs R.2.1 R.2.2 3 (.slice none 0 0) 0 []):=by
       have hb:=HB6.out
       rw [f1,f2] at hb
       exact ⟨hb.cur,own_nil _ _ _,hb.fr,hb.hg,hb.kb⟩
      have h4':(e4 != 0)=true:=by simpa using h4
      clear HVn f1 f2 hR
      go_wp2_with fail
      go_ret
      exact ⟨[],_,rfl,HB7.out,fun q=>absurd q hez,Nat.zero_le _⟩
  ·have hlt':¬(l.length:Int)<n:=by omega
   have hf:=HV.out.fin (by omega)
   rw [hR] at hf
   obtain ⟨f1,f2,f3⟩:=hf
   rw [f1,f2] at HB
   have HF:Hid _:=f3
   clear HV f1 f2 f3 hkb
   go_wp2_with fail
   go_ret
   exact ⟨l,_,rfl,HB.out,HF.out,hi⟩
set_option maxRecDepth 10000 in
set_option maxHeartbeats 1000000 in
theorem ocount_any (bs:ByteArray) (gc:Nat) (edges:Int) (S:Sp) (sb:Option Addr) (sc k:Nat) (e:Int) (w:World) (h:Cu w gc bs k e) (hs:bs.size≤4000000) (hk:k≤bs.size) (he1:0≤edges) (he2:edges≤9223372036854775807) :
  Calls Tryz.prog 123 #[.pointer (some ⟨gc,0,none⟩),.agg #[.slice sb S.ints.length sc,.int .i64 S.texts,.int .i64 S.least,.int .i64 S.most],.int .i64 edges] w fun r w'=>
   r=.returned (.int .i64 (pUint bs k e edges).1)∧Cu w' gc bs (pUint bs k e edges).2.1 (if (pUint bs k e edges).1<S.least∨(0≤S.most∧S.most<(pUint bs k e edges).1) then fl (pUint bs k e edges).2.2 12 else (pUint bs k e edges).2.2)∧w.grownBy w' (some gc):=by
 have hsm:bs.size≤maxLen:=by unfold maxLen;omega
 have hgl:=h.lt
 have hc0:Cu (w.alloc (.cells #[.slice sb S.ints.length sc,.int .i64 S.texts,.int .i64 S.least,.int .i64 S.most] 117)) gc bs k e:=At3.alloc h _
 have HA:Hid (AtN 117 (w.alloc (.cells #[.slice sb S.ints.length sc,.int .i64 S.texts,.int .i64 S.least,.int .i64 S.most] 117)) w.heap.size #[.slice sb S.ints.length sc,.int .i64 S.texts,.int .i64 S.least,.int .i64 S.most]):=AtN.new w 117 _
 have HG0:Hid (w.grownBy (w.alloc (.cells #[.slice sb S.ints.length sc,.int .i64 S.texts,.int .i64 S.least,.int .i64 S.most] 117)) (some gc)):=World.grownBy_alloc _ _ _
 have HFl:Hid (∀(W:World) (k:Nat) (e d:Int),Cu W gc bs k e→Calls Tryz.prog 76 #[.pointer (some ⟨gc,0,none⟩),.int .i64 d] W fun r w'=>r=.returned (.tuple #[])∧Cu w' gc bs k (fl e d)∧W.grownBy w' (some gc)):=fun W k e d q=>fail_any W gc bs k e d q
 have HU:=uint_any _ gc bs k e edges hc0 hsm hk
 have hk6:=pUint_at bs k e edges hk
 generalize pUint bs k e edges=R at *
 obtain ⟨m,k6,e6⟩:=R
 dsimp only at *
 have HUc:Hid _:=HU
 obtain ⟨bb,hbb⟩:∃bb,decide (m<S.least∨(0≤S.most∧S.most<m))=bb:=⟨_,rfl⟩
 have he3:(if m<S.least∨(0≤S.most∧S.most<m) then fl e6 12 else e6)=if bb=true then fl e6 12 else e6:=by rw [← hbb];simp
 rw [he3]
 have HBb:Hid _:=hbb
 clear HU h hc0 he3 hbb
 go_enter Tryz.func123,Tryz.ntmps123
 go_wp2_with fail
 refine Calls.mono HUc.out ?_
 rintro r w3 ⟨rfl,hc3,hg3⟩
 have HB:Hid (Cu w3 gc bs k6 e6∧w.grownBy w3 (some gc)∧AtN 117 w3 w.heap.size #[.slice sb S.ints.length sc,.int .i64 S.texts,.int .i64 S.least,.int .i64 S.most]):=⟨hc3,gtrans HG0.out hg3,HA.out.kept hg3 (by simp;omega)⟩
 clear HUc HG0 HA hc3 hg3
 go_upto_region 2 with fail
 go_cut [26] (fun s26 wc=>s26=.bool bb∧Hid (Cu wc gc bs k6 e6∧w.grownBy wc (some gc)))
 case first=>
  have d2:=HB.out.2.2.cell 2
  have d3:=HB.out.2.2.cell 3
  by_cases c1:m<S.least
  ·obtain rfl:bb=true:=by rw [← HBb.out];exact decide_eq_true (.inl c1)
   go_wp2_with fail
   go_meet
   exact ⟨rfl,HB.out.1,HB.out.2.1⟩
  ·by_cases c2:0≤S.most
   ·by_cases c3:S.most<m
    ·obtain rfl:bb=true:=by rw [← HBb.out];exact decide_eq_true (.inr ⟨c2,c3⟩)
     go_wp2_with fail
     go_meet
     exact ⟨rfl,HB.out.1,HB.out.2.1⟩
    ·obtain rfl:bb=false:=by rw [← HBb.out];exact decide_eq_false (by omega)
     go_wp2_with fail
     go_meet
     exact ⟨rfl,HB.out.1,HB.out.2.1⟩
   ·obtain rfl:bb=false:=by rw [← HBb.out];exact decide_eq_false (by omega)
    go_wp2_with fail
    go_meet
    exact ⟨rfl,HB.out.1,HB.out.2.1⟩
 case rest=>
  clear HB HBb
  obtain ⟨rfl,HB⟩:=hcut
  cases bb
  ·go_wp2_with fail
   go_ret
   exact ⟨rfl,HB.out.1,HB.out.2⟩
  ·go_wp2_with fail
   refine Calls.mono (HFl.out _ k6 e6 12 HB.out.1) ?_
   rintro r w5 ⟨rfl,hc5,hg5⟩
   have HB5:Hid (Cu w5 gc bs k6 (fl e6 12)∧w.grownBy w5 (some gc)):=⟨hc5,gtrans HB.out.2 hg5⟩
   clear HB hc5 hg5
   go_wp2_with fail
   go_ret
   exact ⟨rfl,HB5.out.1,HB5.out.2⟩
structure Kd (w wr:World) (gc gS:Nat) (bs:ByteArray) (k:Nat) (e:Int) (S:Sp) (sb:Option Addr) (sc:Nat):Prop where
 cur:Cu wr gc bs k e
 sp:AtN 117 wr gS #[.slice sb S.ints.length sc,.int .i64 S.texts,.int .i64 S.least,.int .i64 S.most]
 res:AtN 117 wr w.heap.size #[.slice none 0 0,.int .i64 0,.int .i64 0,.int .i64 0]
 cls:wr.ownsRow (w.heap.size+1) 3 1 (.slice sb S.ints.length sc) S.ints.length (iV S.ints)
 fr:w.grownBy wr (some gc)
 hg:gc<w.heap.size
def KdOut (w w':World) (gc:Nat) (bs:ByteArray) (q:Int) (k:Nat) (e:Int) (S:Sp) (r:Ending):Prop:=
 ∃b c,r=.returned (.tuple #[.int .i64 q,.agg #[.slice b S.ints.length c,.int .i64 S.texts,.int .i64 S.least,.int .i64 S.most]])∧w'.ownsRow w.heap.size 3 1 (.slice b S.ints.length c) S.ints.length (iV S.ints)∧Cu w' gc bs k e∧w.grownBy w' (some gc)
theorem Kd.read {w wr w':World} {gc gS:Nat} {bs:ByteArray} {k k':Nat} {e e':Int} {S:Sp} {sb:Option Addr} {sc:Nat} (h:Kd w wr gc gS bs k e S sb sc) (hw:wr.grownBy w' (some gc)) (hc:Cu w' gc bs k' e') (hS:gc<gS):Kd w w' gc gS bs k' e' S sb sc:=by
 have h1:=h.hg
 exact ⟨hc,h.sp.kept hw (by simp;omega),h.res.kept hw (by simp;omega),row_kept h.cls hw (row_low h.cls (fun q hq=>by cases hq;omega)),gtrans h.fr hw,h1⟩
theorem Kd.fin {w wr W:World} {gc gS:Nat} {bs:ByteArray} {q:Int} {k:Nat} {e:Int} {S:Sp} {sb:Option Addr} {sc:Nat} (h:Kd w wr gc gS bs k e S sb sc) (hF:Fr (fun b=>b=w.heap.size) wr W):KdOut w W gc bs q k e S (.returned (.tuple #[.int .i64 q,.agg #[.slice sb S.ints.length sc,.int .i64 S.texts,.int .i64 S.least,.int .i64 S.most]])):=by
 have h1:=h.hg
 have hf:=h.fr
 refine ⟨sb,sc,rfl,own_mono (own_fr h.cls hF (fun r hr q=>by have:=(h.cls.lt r hr).1;omega)) (by omega),At3.frO h.cur hF (by omega),?_⟩
 exact ⟨hF.os.trans hf.os,hF.tape.trans hf.tape,hF.output.trans hf.output,Nat.le_trans hf.size hF.size,fun i hi hn=>(hF.block i (Nat.lt_of_lt_of_le hi hf.size) (by omega)).trans (hf.block i hi hn)⟩
set_option maxRecDepth 10000 in
set_option maxHeartbeats 1000000 in
theorem okind_any (bs:ByteArray) (gc k:Nat) (e:Int) (w:World) (h:Cu w gc bs k e) (hs:bs.size≤4000000) (hk:k≤bs.size) (hT:∀W,w.grownBy W (some gc)→TabAt W 0 oldC) :
  Calls Tryz.prog 119 #[.pointer (some ⟨gc,0,none⟩)] w fun r w'=>KdOut w w' gc bs (pUint bs k e 16777216).1 (pUint bs k e 16777216).2.1 (if (oldSp (pUint bs k e 16777216).1).ok=true then (pUint bs k e 16777216).2.2 else fl (pUint bs k e 16777216).2.2 9) (oldSp (pUint bs k e 16777216).1) r:=by
 have hsm:bs.size≤maxLen:=by unfold maxLen;omega
 have hgl:=h.lt
 have HC:Hid (Cu (w.alloc (.cells #[.slice none 0 0,.int .i64 0,.int .i64 0,.int .i64 0] 117)) gc bs k e):=At3.alloc h _
 have HR0:Hid (AtN 117 (w.alloc (.cells #[.slice none 0 0,.int .i64 0,.int .i64 0,.int .i64 0] 117)) w.heap.size #[.slice none 0 0,.int .i64 0,.int .i64 0,.int .i64 0]):=AtN.new w 117 _
 have HF0:Hid (w.grownBy (w.alloc (.cells #[.slice none 0 0,.int .i64 0,.int .i64 0,.int .i64 0] 117)) (some gc)):=World.grownBy_alloc _ _ _
 have HFl:Hid (∀(W:World) (k:Nat) (e d:Int),Cu W gc bs k e→Calls Tryz.prog 76 #[.pointer (some ⟨gc,0,none⟩),.int .i64 d] W fun r w'=>r=.returned (.tuple #[])∧Cu w' gc bs k (fl e d)∧W.grownBy w' (some gc)):=fun W k e d q=>fail_any W gc bs k e d q
 have HSp:Hid (∀k W,w.grownBy W (some gc)→Calls Tryz.prog 136 #[.int .i64 k] W fun e w'=>SpIs W w' e (oldSp k)):=fun k W hW=>old_any k W (hT W hW)
 have hUc:=uint_any _ gc bs k e 16777216 HC.out hsm hk
 obtain ⟨q,k1,e1,hq⟩:∃q k1 e1,pUint bs k e 16777216=(q,k1,e1):=⟨_,_,_,rfl⟩
 rw [hq] at hUc ⊢
 dsimp only at hUc ⊢
 have HUc:Hid _:=hUc
 have HSq:Hid (∀W,w.grownBy W (some gc)→_):=fun W hW=>HSp.out q W hW
 obtain ⟨S,hSq⟩:∃S,oldSp q=S:=⟨_,rfl⟩
 obtain ⟨e2,he2⟩:∃e2,(if S.ok=true then e1 else fl e1 9)=e2:=⟨_,rfl⟩
 rw [hSq] at HSq
 rw [hSq,he2]
 have HE2:Hid (e2=if S.ok=true then e1 else fl e1 9):=he2.symm
 clear h hT hUc hq HC HSp hSq he2
 go_enter Tryz.func119,Tryz.ntmps119
 go_wp2_with fail
 refine Calls.mono HUc.out ?_
 rintro r w1 ⟨rfl,hc1,hg1⟩
 have HR1:Hid (AtN 117 w1 w.heap.size #[.slice none 0 0,.int .i64 0,.int .i64 0,.int .i64 0]):=HR0.out.kept hg1 (by simp;omega)
 have HF1:Hid (w.grownBy w1 (some gc)):=gtrans HF0.out hg1
 have HC1:Hid (Cu w1 gc bs k1 e1):=hc1
 have hw1:=hg1.size
 simp at hw1
 clear HUc HR0 HF0 hc1 hg1
 go_wp2_with fail
 refine Calls.mono (HSq.out _ HF1.out) ?_
 rintro r w2 ⟨v0,rfl,hS,hb2⟩
 clear HSq
 obtain ⟨sb,sc,rfl⟩:=own_shape7 hS
 have hw2:=hb2.size
 have HK:Hid (Kd w (w2.alloc (.cells #[.slice sb S.ints.length sc,.int .i64 S.texts,.int .i64 S.least,.int .i64 S.most] 117)) gc w2.heap.size bs k1 e1 S sb sc):=
  ⟨At3.alloc (At3.belowAll HC1.out hb2) _,AtN.new w2 117 _,(HR1.out.belowAll hb2).alloc _,own_mono (hS.alloc _) (by omega),gtrans (gtrans HF1.out (gbelow hb2)) (World.grownBy_alloc _ _ _),hgl⟩
 have hgS:gc<w2.heap.size:=by omega
 clear HC1 HR1 HF1 hS hb2 hw1
 go_upto_if 15 with fail
 go_cut [6] (fun _ wc=>Hid (Kd w wc gc w2.heap.size bs k1 e2 S sb sc))
 case first=>
  have he2:=HE2.out
  clear HE2
  cases hok:S.ok
  ·rw [hok,if_neg (by decide)] at he2
   subst he2
   go_wp2_with fail
   refine Calls.mono (HFl.out _ k1 e1 9 HK.out.cur) ?_
   rintro r w3 ⟨rfl,hc3,hg3⟩
   go_wp2_with fail
   go_meet
   exact HK.out.read hg3 hc3 hgS
  ·rw [hok,if_pos rfl] at he2
   subst he2
   go_wp2_with fail
   go_meet
   exact HK
 case rest=>
  clear HK
  have HK:=hcut
  clear hcut HE2
  generalize w2.heap.size=gS at *
  have s0:wc.cell? ⟨gS,0,none⟩=some (.slice sb S.ints.length sc):=HK.out.sp.cell 0
  have s1:wc.cell? ⟨gS,1,none⟩=some (.int .i64 S.texts):=HK.out.sp.cell 1
  have s2:wc.cell? ⟨gS,2,none⟩=some (.int .i64 S.least):=HK.out.sp.cell 2
  have s3:wc.cell? ⟨gS,3,none⟩=some (.int .i64 S.most):=HK.out.sp.cell 3
  have r0:wc.cell? ⟨w.heap.size,0,none⟩=some (.slice none 0 0):=HK.out.res.cell 0
  have r1:wc.cell? ⟨w.heap.size,1,none⟩=some (.int .i64 0):=HK.out.res.cell 1
  have r2:wc.cell? ⟨w.heap.size,2,none⟩=some (.int .i64 0):=HK.out.res.cell 2
  have r3:wc.cell? ⟨w.heap.size,3,none⟩=some (.int .i64 0):=HK.out.res.cell 3
  have f0:=HK.out.res.fz 0
  have f1:=HK.out.res.fz 1
  have f2:=HK.out.res.fz 2
  have f3:=HK.out.res.fz 3
  have HF:Hid (∀x0 x1 x2 x3:Value,Fr (fun b=>b=w.heap.size) wc ((((wc.setCell ⟨w.heap.size,0,none⟩ x0).setCell ⟨w.heap.size,1,none⟩ x1).setCell ⟨w.heap.size,2,none⟩ x2).setCell ⟨w.heap.size,3,none⟩ x3).drew):=fun x0 x1 x2 x3=>by
   have h:=((((Fr.refl (fun b=>b=w.heap.size) wc).set ⟨w.heap.size,0,none⟩ rfl x0).set ⟨w.heap.size,1,none⟩ rfl x1).set ⟨w.heap.size,2,none⟩ rfl x2).set ⟨w.heap.size,3,none⟩ rfl x3
   exact ⟨h.os,h.tape,h.output,h.size,h.block⟩
  go_wp2_with fail
  go_region
  all_goals
   go_wp2_with fail
   have A4:=at_set4 HK.out.res (.slice sb S.ints.length sc) (.int .i64 S.texts) (.int .i64 S.least) (.int .i64 S.most)
   have z0:=A4.cell 0
   have z1:=A4.cell 1
   have z2:=A4.cell 2
   have z3:=A4.cell 3
   refine bodyPost_ret (v:=.tuple #[.int .i64 q,.agg #[.slice sb S.ints.length sc,.int .i64 S.texts,.int .i64 S.least,.int .i64 S.most]]) (by simp [results,Tryz.results119,go_sem, *]) rfl ?_
   exact HK.out.fin (HF.out _ _ _ _)
end Go.Proofs.YtgoffkfpdigeeaaGreatDoor
