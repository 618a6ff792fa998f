import Derived.Test.YtcpikklofilkcaaGreatNqAh
import Derived.Test.YtcpikklofilkcaaGreatNqAf
import Derived.Test.YtcpikklofilkcaaGreatNqAg
set_option maxRecDepth 100000
set_option maxHeartbeats 16000000
namespace Go.Proofs.YtcpikklofilkcaaGreat
open Go.RowKit
namespace Lw
open Co
theorem ZdQ {α:Type} (p:α→Bool) (l:List α):(l.findIdx? p).isSome=(l.find? p).isSome:=by
 cases h:l.findIdx? p with
 | none=>rw [(ZB p l).2 h];rfl
 | some k=>obtain ⟨x,_,hx⟩:=(ZB p l).1 k h;rw [hx];rfl
theorem ZaK:∀ (f:Nat) (S:Sta) (nx:Int),(rServed f S nx).1.srv.length≤S.srv.length+f∧(rServed f S nx).1.wts.length≤S.wts.length∧(rServed f S nx).1.pools=S.pools∧(rServed f S nx).1.plan=S.plan∧(rServed f S nx).1.begun=S.begun∧(rServed f S nx).1.back=S.back
 | 0,S,nx=>⟨Nat.le_refl _,Nat.le_refl _,rfl,rfl,rfl,rfl⟩
 | f+1,S,nx=>by
  rw [rServed];have hf:∀ (l:List Wtr) (i:Nat) (y:Sta×Int),rFirst S nx i l=some y→∃ k c,rLent S nx k c=some y:=by
   intro l;induction l with
   | nil=>intro i y h;simp [rFirst] at h
   | cons c r ih =>
    intro i y h;rw [rFirst] at h;cases hl:rLent S nx i c with
    | some z=>rw [hl] at h;exact ⟨i,c,by rw [hl];exact h⟩
    | none=>rw [hl] at h;exact ih _ _ h
  cases h:rFirst S nx 0 S.wts with
  | none=>exact ⟨Nat.le_add_right _ _,Nat.le_refl _,rfl,rfl,rfl,rfl⟩
  | some y =>
   obtain ⟨k,c,hl⟩:=hf _ _ _ h;have h1:=ZdE hl;have h2:=ZaK f y.1 y.2;have h3:=List.length_eraseIdx_le S.wts k;simp only;rw [h1.1] at h2;exact ⟨by omega,by omega,h2.2.2.1.trans h1.2.2.1,h2.2.2.2.1.trans h1.2.2.2.1,h2.2.2.2.2.1.trans h1.2.2.2.2.2.2.1,h2.2.2.2.2.2.trans h1.2.2.2.2.2.2.2⟩
theorem xAsk (S:Sta) (u:Stv) (nx:Int) (Y:Int×List Pl) (ho:Option Addr) (hc:Nat) (c:Int) (nm:ByteArray) (w:World) (h:WdAt w S u Y ho hc) (hm:Sml S Y) (hsq:S.srv.length+S.wts.length+1≤549755813888) (hx0:0≤nx) (hx1:nx+S.wts.length+1≤4611686018427387903) :
  Calls Tryz.prog 35 #[wdA S u nx Y ho hc,.int .i64 c,.string nm] w fun e w'=>AskR w w' S u Y ho hc (rAsk S nx c nm) e:=by
 obtain ⟨W,HW⟩:=ZH w (bW S u nx Y ho hc);have HH:=hideIt h;have HM:=hideIt hm;have HO:=hideIt (h.rows.nx HW.out.bel);have hW:w.heap.size+2≤W.heap.size:=by rw [HW.out.eq];simp
 have HHO:=hideIt (rHolds S.bud u.po S.pools.length u.pc u.so S.srv.length u.sc u.wo S.wts.length u.wc u.tqo S.plan.length u.tc S.begun S.back nx Y.1 ho Y.2.length hc c S.srv W HO.out.s rfl (by have:=hm.s;unfold maxLen;omega));have HWT:=hideIt (fun v (hb:Below W.heap.size W v)=>rWaits S.bud u.po S.pools.length u.pc u.so S.srv.length u.sc u.wo S.wts.length u.wc u.tqo S.plan.length u.tc S.begun S.back nx Y.1 ho Y.2.length hc c S.wts v (HO.out.nx hb).q rfl (by have:=hm.q;unfold maxLen;omega));have HAT:=hideIt (fun v (hb:Below W.heap.size W v)=>rAt S.bud u.po _ u.pc nm S.pools v (HO.out.nx hb).p rfl (by have:=hm.p;unfold maxLen;omega));have HCO:=hideIt (fun v (hb:Below W.heap.size W v)=>xCopied S u nx Y ho hc v (HO.out.nx hb) hm);clear h hm;unfold wdA;go_enter Tryz.func35,Tryz.ntmps35
 go_wp2_with fail
 rw [←HW.out.eq];refine (Zd8 c 1 99 W).mono ?_;rintro e w1 ⟨rfl,h1⟩;obtain rfl:=h1.symm;clear h1;obtain ⟨a0,a1,a2,a3,a4,a5,a6,a7,a8,a9,az⟩:=blk10 (Ze HW.out.b0 (Below.refl _ W));obtain ⟨r0,r1,r2,r3,r4,r5,r6,r7,r8,r9,rz⟩:=blk10 (Ze HW.out.b1 (Below.refl _ W));by_cases hc1:1≤c∧c≤99
 ·rw [decide_eq_true hc1];have HOK:Hid (okCli c=true):=by rw [Zan];exact decide_eq_true hc1
  clear hc1;go_wp2_with fail
  refine HHO.out.mono ?_;rintro e w2 ⟨rfl,hb2⟩;have HB2:=hideIt hb2;clear hb2 a0 a1 a2 a3 a4 a5 a6 a7 a8 a9 az r0 r1 r2 r3 r4 r5 r6 r7 r8 r9 rz;obtain ⟨a0,a1,a2,a3,a4,a5,a6,a7,a8,a9,az⟩:=blk10 (Ze HW.out.b0 HB2.out);obtain ⟨r0,r1,r2,r3,r4,r5,r6,r7,r8,r9,rz⟩:=blk10 (Ze HW.out.b1 HB2.out);go_wp2_with fail
  refine (HWT.out w2 HB2.out).mono ?_;rintro e w3 ⟨rfl,hb3⟩;have HB3:=hideIt (Za HB2.out hb3);clear hb3 a0 a1 a2 a3 a4 a5 a6 a7 a8 a9 az r0 r1 r2 r3 r4 r5 r6 r7 r8 r9 rz;obtain ⟨a0,a1,a2,a3,a4,a5,a6,a7,a8,a9,az⟩:=blk10 (Ze HW.out.b0 HB3.out);obtain ⟨r0,r1,r2,r3,r4,r5,r6,r7,r8,r9,rz⟩:=blk10 (Ze HW.out.b1 HB3.out);have HIS:=hideIt (And.intro (ZdQ (isCliV c) S.srv) (ZdQ (isCliW c) S.wts));cases hh:S.srv.findIdx? (isCliV c) with
  | some h =>
   rw [hh] at HIS;have h0h:(0:Int)≤(h:Int):=by omega
   rw [show optI (some h)=(h:Int) from rfl];clear hh;have HQ:Hid (rAsk S nx c nm=⟨S,nx,0,11⟩):=by
    show _=_;unfold rAsk;rw [HOK.out,if_neg (by simp),if_pos (by rw [←HIS.out.1];rfl)]
   go_wp2_with fail
   obtain ⟨FW,hFW,HF⟩:=ZE HW.out HB3.out S u nx Y ho hc;unfold stS st10 at hFW;rw [hFW];obtain ⟨f0,f1,f2,f3,f4,f5,f6,f7,f8,f9,fz⟩:=blk10 HF.out.1;clear hFW;refine bodyPost_ret (v:=.tuple #[wdA S u nx Y ho hc,.int .i64 0,.int .i64 11]) (by simp [results,Tryz.results35,go_sem,f0,f1,f2,f3,f4,f5,f6,f7,f8,f9]) rfl ?_;rw [HQ.out];exact ⟨u,ho,hc,rfl,RefG.same HH.out HF.out.2⟩
  | none =>
   rw [hh] at HIS;clear hh;cases hl:S.wts.findIdx? (isCliW c) with
   | some l =>
    rw [hl] at HIS;have h0l:(0:Int)≤(l:Int):=by omega
    unfold optI;clear hl;have HQ:Hid (rAsk S nx c nm=⟨S,nx,0,11⟩):=by
     show _=_;unfold rAsk;rw [HOK.out,if_neg (by simp),if_pos (by rw [←HIS.out.2];simp)]
    go_wp2_with fail
    obtain ⟨FW,hFW,HF⟩:=ZE HW.out HB3.out S u nx Y ho hc;unfold stS st10 at hFW;rw [hFW];obtain ⟨f0,f1,f2,f3,f4,f5,f6,f7,f8,f9,fz⟩:=blk10 HF.out.1;clear hFW;refine bodyPost_ret (v:=.tuple #[wdA S u nx Y ho hc,.int .i64 0,.int .i64 11]) (by simp [results,Tryz.results35,go_sem,f0,f1,f2,f3,f4,f5,f6,f7,f8,f9]) rfl ?_;rw [HQ.out];exact ⟨u,ho,hc,rfl,RefG.same HH.out HF.out.2⟩
   | none =>
    rw [hl] at HIS;have HNB:Hid (((S.srv.find? (isCliV c)).isSome||(S.wts.find? (isCliW c)).isSome)=false):=by
     rw [←HIS.out.1,←HIS.out.2];exact rfl
    unfold optI;clear hl HIS;go_wp2_with fail
    refine (HAT.out w3 HB3.out).mono ?_;rintro e w4 ⟨rfl,hb4⟩;have HB4:=hideIt (Za HB3.out hb4);clear hb4 a0 a1 a2 a3 a4 a5 a6 a7 a8 a9 az r0 r1 r2 r3 r4 r5 r6 r7 r8 r9 rz;obtain ⟨a0,a1,a2,a3,a4,a5,a6,a7,a8,a9,az⟩:=blk10 (Ze HW.out.b0 HB4.out);obtain ⟨r0,r1,r2,r3,r4,r5,r6,r7,r8,r9,rz⟩:=blk10 (Ze HW.out.b1 HB4.out);cases hp:S.pools.findIdx? (isNameP nm) with
    | none =>
     have HPN:=hideIt ((ZB (isNameP nm) S.pools).2 hp);unfold optI;clear hp;have HQ:Hid (rAsk S nx c nm=⟨S,nx,0,12⟩):=by
      show _=_;unfold rAsk;rw [HOK.out,if_neg (by simp),if_neg (by rw [HNB.out];simp),HPN.out]
     go_wp2_with fail
     obtain ⟨FW,hFW,HF⟩:=ZE HW.out HB4.out S u nx Y ho hc;unfold stS st10 at hFW;rw [hFW];obtain ⟨f0,f1,f2,f3,f4,f5,f6,f7,f8,f9,fz⟩:=blk10 HF.out.1;clear hFW;refine bodyPost_ret (v:=.tuple #[wdA S u nx Y ho hc,.int .i64 0,.int .i64 12]) (by simp [results,Tryz.results35,go_sem,f0,f1,f2,f3,f4,f5,f6,f7,f8,f9]) rfl ?_;rw [HQ.out];exact ⟨u,ho,hc,rfl,RefG.same HH.out HF.out.2⟩
    | some p =>
     obtain ⟨⟨x0,x1,x2,x3⟩,hx,hx2⟩:=ZP hp;have HX:=hideIt hx;have HX2:=hideIt hx2;have hnp:¬(p:Int)<0:=by omega
     have h0p:(0:Int)≤(p:Int):=by omega
     unfold optI;clear hp hx hx2;go_wp2_with fail
     refine (HCO.out w4 HB4.out).mono ?_;rintro e w5 ⟨u5,ho5,hc5,rfl,o5,hb5⟩;obtain ⟨U,hU,HU⟩:=ZS (o5.mono (show W.heap.size≤w4.heap.size from HB4.out.size)) nx;obtain ⟨g,hg⟩:∃ g,w5.heap.size=g:=⟨_,rfl⟩;have HBU:=hideIt (Za HB4.out (Za hb5 HU.out.2.2.1));have hWg:W.heap.size≤g:=by rw [←hg];exact Nat.le_trans HB4.out.size hb5.size
     rw [hg] at HU;have HG:=hideIt hg;clear hU o5 hb5 hg a0 a1 a2 a3 a4 a5 a6 a7 a8 a9 az r0 r1 r2 r3 r4 r5 r6 r7 r8 r9 rz;go_upto_region 12 with fail
     rw [←HU.out.1,HG.out];obtain ⟨e0,e1,e2,e3,e4,e5,e6,e7,e8,e9,ez⟩:=blk10 HU.out.2.1;have hs2:S.wts.length+1≤1099511627776:=by omega
     have hUz:W.heap.size≤U.heap.size:=HBU.out.size;go_wp2_with (at_builtin;refine appendR 76 33 2 24 _ ZfE Tryz.underlying33 rfl (by decide) (by decide) rfl (.tmp 45) (.tmp 49) rfl W.heap.size _ S.wts.length (flatW S.wts) rfl (HU.out.2.2.2.q.alloc _) U.heap.size 0 1 1 [.int .i64 c,.string nm] rfl rfl (ZA U [.int .i64 c,.string nm] _ 1 rfl) (by intro u hu;simp at hu;rcases hu with rfl | rfl <;> rfl) (by decide) hs2 (by simp;omega) ?next)
     case next =>
      intro g6 cap6 w6 hown6 hg6 hor;have h63:=Zcn hg6 HU.out.2.1 (Zs HU.out.2.2.2.q HU.out.2.1 (by decide));have hbig:Below W.heap.size W w6:=(HBU.out.alloc hUz _).grown hg6 (by simp;omega) (fun b hb=>by have:=(HU.out.2.2.2.q.lt b hb).1;omega);obtain ⟨D,hD⟩:∃ D,joined S c nm=D:=⟨_,rfl⟩;obtain ⟨v,hv⟩:∃ v:Stv,{u5 with wo:=some ⟨g6,0,none⟩,wc:=cap6}=v:=⟨_,rfl⟩;obtain ⟨X,hX⟩:∃ X,X=w6.setCell ⟨g,3,none⟩ (.slice (some ⟨g6,0,none⟩) (S.wts.length+1) cap6):=⟨_,rfl⟩;have HXX:Hid (X=w6.setCell ⟨g,3,none⟩ (.slice (some ⟨g6,0,none⟩) (S.wts.length+1) cap6)∧X.heap[g]?=some (bW D v nx Y ho5 hc5)):=by
       refine ⟨hX,?_⟩;rw [hX,←hD,←hv];show _=some (bWq (.slice (some ⟨g6,0,none⟩) (S.wts++[_]).length cap6) S u5 nx Y ho5 hc5);rw [List.length_append];exact ZcO h63 _
      have HBX:Hid (Below W.heap.size W X):=by rw [hX];exact hbig.setCell (by show W.heap.size≤g;exact hWg) _
      have HOX:Hid (OwnW W.heap.size X D v Y ho5 hc5):=by
       have h0:OwnW W.heap.size w6 D v Y ho5 hc5:=by rw [←hD,←hv];exact ZjR (x:=⟨c,nm⟩) HU.out.2.2.2 hown6 hg6
       rw [hX];exact h0.st1 h63 _
      have HDL:Hid (D.srv.length=S.srv.length∧D.wts.length=S.wts.length+1∧D.pools=S.pools∧D.plan=S.plan):=by
       rw [←hD];exact ⟨rfl,by show (S.wts++[_]).length=_;simp,rfl,rfl⟩
      have HMD:Hid (Sml D Y):=by
       have h:=HDL.out;have hm:=HM.out;exact ⟨by rw [h.2.2.1];exact hm.p,by omega,by omega,by rw [h.2.2.2];exact hm.t,hm.h⟩
      obtain ⟨⟨T,t⟩,hT⟩:∃ T,rServed (S.wts.length+1) D nx=T:=⟨_,rfl⟩;have HSV:Hid (Calls Tryz.prog 52 #[wdA D v nx Y ho5 hc5] X fun e w'=>GaveS W.heap.size X w' T t Y e):=by
       have h:=HDL.out;have:=xServed W.heap.size (S.wts.length+1) D v nx Y ho5 hc5 X HBX.out.size HOX.out HMD.out (by omega) (by omega) hx0 (by omega);rw [hT] at this;exact this
      have HTL:Hid (Sml T Y∧T.pools[p]?=some ⟨x0,x1,x2,x3⟩):=by
       have h:=ZaK (S.wts.length+1) D nx;rw [hT] at h;simp only at h;have h2:=HDL.out;have hm:=HM.out;exact ⟨⟨by rw [h.2.2.1,h2.2.2.1];exact hm.p,by omega,by omega,by rw [h.2.2.2.1,h2.2.2.2];exact hm.t,hm.h⟩,by rw [h.2.2.1,h2.2.2.1];exact HX.out⟩
      have HQA:Hid (rAsk S nx c nm=match T.srv.find? (isCliV c) with | some s=>⟨T,t,s.id,0⟩ | none=>if x2<(cntG (isPoolW nm) T.wts:Int) then ⟨S,nx,0,13⟩ else ⟨T,t,0,0⟩):=by
       have e:rAsked S nx c nm=(T,t):=by unfold rAsked;rw [hD];exact hT
       show _=_;unfold rAsk;rw [HOK.out,if_neg (by simp),if_neg (by rw [HNB.out];simp),HX2.out];simp only [e];rfl
      clear hown6 hg6 hor hX hD hv hbig e0 e1 e2 e3 e4 e5 e6 e7 e8 e9 ez hT;obtain ⟨e0,e1,e2,e3,e4,e5,e6,e7,e8,e9,ez⟩:=blk10 h63;clear h63;go_upto_region 13 with fail
      rw [←HXX.out.1];clear e0 e1 e2 e3 e4 e5 e6 e7 e8 e9 ez;obtain ⟨e0,e1,e2,e3,e4,e5,e6,e7,e8,e9,ez⟩:=blk10 HXX.out.2;go_wp2_with fail
      refine HSV.out.mono ?_;rintro e w7 ⟨u7,ho7,hc7,rfl,o7,hb7⟩;have hx7:=Ze HXX.out.2 hb7;obtain ⟨Z,hZ,HZ⟩:=Zbg o7 rfl hx7 t;have HQZ:=Zbd hZ;have HBZ:Hid (Below W.heap.size W Z):=HZ.out.2.1 _ _ (Za HBX.out hb7) hWg;clear o7 hb7 e0 e1 e2 e3 e4 e5 e6 e7 e8 e9 ez hZ;obtain ⟨e0,e1,e2,e3,e4,e5,e6,e7,e8,e9,ez⟩:=blk10 hx7;clear hx7;unfold stS st10 at HQZ;go_upto_region 14 with fail
      rw [HQZ.out];clear e0 e1 e2 e3 e4 e5 e6 e7 e8 e9 ez HQZ;obtain ⟨e0,e1,e2,e3,e4,e5,e6,e7,e8,e9,ez⟩:=blk10 HZ.out.1;have HH2:=hideIt (rHolds T.bud u7.po T.pools.length u7.pc u7.so T.srv.length u7.sc u7.wo T.wts.length u7.wc u7.tqo T.plan.length u7.tc T.begun T.back t Y.1 ho7 Y.2.length hc7 c T.srv Z HZ.out.2.2.rows.s rfl (by have:=HTL.out.1.s;unfold maxLen;omega));go_wp2_with fail
      refine HH2.out.mono ?_;rintro e w8 ⟨rfl,hb8⟩;have HB8:=hideIt (Za HBZ.out hb8);have HX8:=hideIt (Ze HZ.out.1 hb8);have HO8:=hideIt (HZ.out.2.2.nx hb8);clear hb8 e0 e1 e2 e3 e4 e5 e6 e7 e8 e9 ez;obtain ⟨e0,e1,e2,e3,e4,e5,e6,e7,e8,e9,ez⟩:=blk10 HX8.out;cases hh:T.srv.findIdx? (isCliV c) with
      | some h =>
       obtain ⟨y,hy,hy2⟩:=ZP hh;have HQ:Hid (rAsk S nx c nm=⟨T,t,y.id,0⟩):=by show _=_;rw [HQA.out,hy2]
       have hhn:(h:Int)<(T.srv.length:Int):=by
        have:=(List.getElem?_eq_some_iff.1 hy).1;omega
       have h0h:(0:Int)≤(h:Int):=by omega
       have HY:=hideIt hy;unfold optI;clear hh hy hy2 HQA;go_upto_region 16 with fail
       obtain ⟨r0,r1,r2,r3,r4,r5,r6,r7,r8,r9,rz⟩:=blk10 (Ze HW.out.b1 HB8.out);obtain ⟨gs,gf,hgo,hgs,t0,t1,t2,t3⟩:=ZN (Zd HO8.out.s) HY.out;have HGO:=hideIt hgo;rw [hgo] at e2;have hgw:gs≠w.heap.size+1:=fun e=>by have:=(HO8.out.s.lt gs (by rw [hgo];rfl)).1;omega
       have hgr:g≠w.heap.size+1:=by omega
       clear hgo;go_region
       go_wp2_with fail
       obtain ⟨FW0,hFW,HF0⟩:=Zz HW.out HB8.out HO8.out t;unfold stS st10 at hFW;rw [HGO.out] at hFW;rw [hFW];obtain ⟨FW,hFD⟩:∃ FW,FW0.drew=FW:=⟨_,rfl⟩;have HF:Hid (FW.heap[w.heap.size+1]?=some (bW T u7 t Y ho7 hc7)∧Below w.heap.size w FW∧OwnW W.heap.size FW T u7 Y ho7 hc7):=by rw [←hFD];exact ⟨HF0.out.1,HF0.out.2.1.drew,⟨HF0.out.2.2.p.drew,HF0.out.2.2.s.drew,HF0.out.2.2.q.drew,HF0.out.2.2.t.drew,HF0.out.2.2.h.drew⟩⟩
       rw [hFD];obtain ⟨f0,f1,f2,f3,f4,f5,f6,f7,f8,f9,fz⟩:=blk10 HF.out.1;clear hFW hFD;refine bodyPost_ret (v:=.tuple #[wdA T u7 t Y ho7 hc7,.int .i64 y.id,.int .i64 0]) (by simp [results,Tryz.results35,go_sem,f0,f1,f2,f3,f4,f5,f6,f7,f8,f9]) rfl ?_;rw [HQ.out];exact ⟨u7,ho7,hc7,rfl,Z2 (HF.out.2.2.mono (by omega)) HF.out.2.1⟩
      | none =>
       rw [(ZB (isCliV c) T.srv).2 hh] at HQA;have HWG:=hideIt (rWaiting T.bud u7.po T.pools.length u7.pc u7.so T.srv.length u7.sc u7.wo T.wts.length u7.wc u7.tqo T.plan.length u7.tc T.begun T.back t Y.1 ho7 Y.2.length hc7 nm T.wts w8 HO8.out.rows.q rfl (by have:=HTL.out.1.q;unfold maxLen;omega));unfold optI;clear hh;go_wp2_with fail
       refine HWG.out.mono ?_;rintro e w9 ⟨rfl,hb9⟩;have HB9:=hideIt (Za HB8.out hb9);have HX9:=hideIt (Ze HX8.out hb9);have HO9:=hideIt (HO8.out.nx hb9);clear hb9 e0 e1 e2 e3 e4 e5 e6 e7 e8 e9 ez;obtain ⟨e0,e1,e2,e3,e4,e5,e6,e7,e8,e9,ez⟩:=blk10 HX9.out;obtain ⟨pb,pf,hpo,hpb,t0,t1,t2,t3⟩:=Zn (Zd HO9.out.p) HTL.out.2;simp only at t0 t1 t2 t3;have hpn:(p:Int)<(T.pools.length:Int):=by
        have:=(List.getElem?_eq_some_iff.1 HTL.out.2).1;omega
       rw [hpo] at e1;clear hpo;by_cases hz:x2<(cntG (isPoolW nm) T.wts:Int)
       ·have HQ:Hid (rAsk S nx c nm=⟨S,nx,0,13⟩):=by show _=_;rw [HQA.out,if_pos hz]
        go_upto_region 19 with fail
        clear e0 e1 e2 e3 e4 e5 e6 e7 e8 e9 ez t0 t1 t2 t3;obtain ⟨a0,a1,a2,a3,a4,a5,a6,a7,a8,a9,az⟩:=blk10 (Ze HW.out.b0 HB9.out);obtain ⟨r0,r1,r2,r3,r4,r5,r6,r7,r8,r9,rz⟩:=blk10 (Ze HW.out.b1 HB9.out);go_wp2_with fail
        obtain ⟨FW,hFW,HF⟩:=ZE HW.out HB9.out S u nx Y ho hc;unfold stS st10 at hFW;rw [hFW];obtain ⟨f0,f1,f2,f3,f4,f5,f6,f7,f8,f9,fz⟩:=blk10 HF.out.1;clear hFW;refine bodyPost_ret (v:=.tuple #[wdA S u nx Y ho hc,.int .i64 0,.int .i64 13]) (by simp [results,Tryz.results35,go_sem,f0,f1,f2,f3,f4,f5,f6,f7,f8,f9]) rfl ?_;rw [HQ.out];exact ⟨u,ho,hc,rfl,RefG.same HH.out HF.out.2⟩
       ·have HQ:Hid (rAsk S nx c nm=⟨T,t,0,0⟩):=by show _=_;rw [HQA.out,if_neg hz]
        go_upto_region 20 with fail
        clear e0 e1 e2 e3 e4 e5 e6 e7 e8 e9 ez t0 t1 t2 t3;obtain ⟨e0,e1,e2,e3,e4,e5,e6,e7,e8,e9,ez⟩:=blk10 HX9.out;obtain ⟨r0,r1,r2,r3,r4,r5,r6,r7,r8,r9,rz⟩:=blk10 (Ze HW.out.b1 HB9.out);go_wp2_with fail
        obtain ⟨FW,hFW,HF⟩:=Zz HW.out HB9.out HO9.out t;unfold stS st10 at hFW;rw [hFW];obtain ⟨f0,f1,f2,f3,f4,f5,f6,f7,f8,f9,fz⟩:=blk10 HF.out.1;clear hFW;refine bodyPost_ret (v:=.tuple #[wdA T u7 t Y ho7 hc7,.int .i64 0,.int .i64 0]) (by simp [results,Tryz.results35,go_sem,f0,f1,f2,f3,f4,f5,f6,f7,f8,f9]) rfl ?_;rw [HQ.out];exact ⟨u7,ho7,hc7,rfl,Z2 (HF.out.2.2.mono (by omega)) HF.out.2.1⟩
 ·rw [decide_eq_false hc1];have HQ:Hid (rAsk S nx c nm=⟨S,nx,0,10⟩):=by show _=_;unfold rAsk;rw [Zan,decide_eq_false hc1];rfl
  clear hc1;go_wp2_with fail
  obtain ⟨FW,hFW,HF⟩:=ZE HW.out (Below.refl _ W) S u nx Y ho hc;unfold stS st10 at hFW;rw [hFW];obtain ⟨f0,f1,f2,f3,f4,f5,f6,f7,f8,f9,fz⟩:=blk10 HF.out.1;clear hFW;refine bodyPost_ret (v:=.tuple #[wdA S u nx Y ho hc,.int .i64 0,.int .i64 10]) (by simp [results,Tryz.results35,go_sem,f0,f1,f2,f3,f4,f5,f6,f7,f8,f9]) rfl ?_;rw [HQ.out];exact ⟨u,ho,hc,rfl,RefG.same HH.out HF.out.2⟩
theorem refAsk (c:Int) (nm:ByteArray) (S:Sta) (op:Int) (Y:Int×List Pl) (u:Stv) (ho:Option Addr) (hc:Nat) (w:World) (h:WdAt w S u Y ho hc) (hk:RefOk S op Y) :
  Calls Tryz.prog 35 #[wdA S u (op+1) Y ho hc,.int .i64 c,.string nm] w fun e w'=>AskR w w' S u Y ho hc (rAsk S (op+1) c nm) e:=
 xAsk S u (op+1) Y ho hc c nm w h hk.sml (by have:=hk.num;have:=hk.pot1;have:=hk.ok.inv.len;unfold pot at *;simp only at *;omega) hk.num.2.2.2.1 (by have:=hk.num;have:=hk.pot1;unfold pot at this;simp only at this;omega)
theorem Zh6 {w:World} {g o m vc:Nat} {s:Stp} {ts:List Stp} (h:RowAt w (.slice (some ⟨g,o,none⟩) (m+1) vc) (m+1) (flatT (s :: ts))) (hm:ts.length=m):RowAt w (.slice (if vc=1 then some ⟨g,o,none⟩ else some ⟨g,o+3,none⟩) m (vc - 1)) m (flatT ts):=by
 obtain ⟨ao,cap,e,hc,h⟩:=h;simp only [Value.slice.injEq] at e;obtain ⟨rfl,_,rfl⟩:=e;refine ⟨_,_,rfl,by omega,?_⟩;by_cases hv:vc=1
 ·left;rw [List.eq_nil_of_length_eq_zero (show ts.length=0 by omega)];rfl
 ·right;rcases h with h | ⟨b,off,h1,h2,h3⟩
  ·exact absurd h (by simp [flatT,fSt])
  ·simp only [Option.some.injEq,Addr.mk.injEq] at h1;obtain ⟨rfl,rfl,_⟩:=h1;refine ⟨g,o+3,by rw [if_neg hv],h2,fun j x hx=>?_⟩;rw [show o+3+j=o+(j+3) by omega];exact h3 (j+3) x hx
theorem ZhR {w w':World} {S T Q:Sta} {u v:Stv} {Y Y0:Int×List Pl} {ho ho':Option Addr} {hc hc' B gb m:Nat} {s:Stp} {r:List Stp} {ad:Option Addr} (h:OwnW B w' T v Y ho' hc') (hB:w.heap.size≤B) (hb:Below w.heap.size w w') (hto:v.tqo=some ⟨gb,0,none⟩) (hp:T.plan=s :: r) (hm:r.length=m) (had:(if v.tc=1 then some (⟨gb,0,none⟩:Addr) else some ⟨gb,3,none⟩)=ad) (q1:Q.pools=T.pools) (q2:Q.srv=T.srv) (q3:Q.wts=T.wts) (q4:Q.plan=r) :
  RefG w w' S u Y0 ho hc Q ⟨v.po,v.pc,v.so,v.sc,v.wo,v.wc,ad,v.tc - 1⟩ Y ho' hc':=by
 have ht:=h.t;rw [hto,hp] at ht;have hrow:=Zd ht;rw [List.length_cons,hm] at hrow;have hl:=Zh6 (o:=0) hrow hm;rw [Nat.zero_add,had] at hl;have hbk:(Value.slice v.tqo T.plan.length v.tc).ownBlock=some gb:=by rw [hto];rfl
 have hgb:∀ g,(Value.slice ad r.length (v.tc - 1)).ownBlock=some g→g=gb:=by
  intro g hg;rw [←had] at hg;split at hg <;> exact (Option.some.inj hg).symm
 refine ⟨⟨⟨?_,?_,?_,?_⟩,Zd h.h,?_⟩,?_,hb⟩
 ·rw [q1];exact Zd h.p
 ·rw [q2];exact Zd h.s
 ·rw [q3];exact Zd h.q
 ·rw [q4,hm];exact hl
 ·rintro g ((hg | hg | hg | hg) | hg)
  ·rw [q1] at hg;exact (h.p.lt g hg).2
  ·rw [q2] at hg;exact (h.s.lt g hg).2
  ·rw [q3] at hg;exact (h.q.lt g hg).2
  ·rw [q4] at hg;rw [hgb g hg];exact (h.t.lt gb hbk).2
  ·exact (h.h.lt g hg).2
 ·rintro g ((hg | hg | hg | hg) | hg)
  ·rw [q1] at hg;exact .inr (Nat.le_trans hB (h.p.lt g hg).1)
  ·rw [q2] at hg;exact .inr (Nat.le_trans hB (h.s.lt g hg).1)
  ·rw [q3] at hg;exact .inr (Nat.le_trans hB (h.q.lt g hg).1)
  ·rw [q4] at hg;rw [hgb g hg];exact .inr (Nat.le_trans hB (h.t.lt gb hbk).1)
  ·exact .inr (Nat.le_trans hB (h.h.lt g hg).1)
def TurnG (w w':World) (S:Sta) (u:Stv) (Y:Int×List Pl) (ho:Option Addr) (hc:Nat) (q:Rsq) (e:Ending):Prop:=
 ∃ u' ho' hc',e=.returned (.tuple #[wdA q.S u' q.nx q.Y ho' hc',.int .i64 q.n,.int .i64 q.e])∧RefG w w' S u Y ho hc q.S u' q.Y ho' hc'
theorem xTurn0 (S:Sta) (u:Stv) (nx:Int) (Y:Int×List Pl) (ho:Option Addr) (hc:Nat) (w:World) (h:WdAt w S u Y ho hc) (hp:S.plan=[]) :
  Calls Tryz.prog 18 #[wdA S u nx Y ho hc] w fun e w'=>TurnG w w' S u Y ho hc (rTurn S nx Y) e:=by
 obtain ⟨W,HW⟩:=ZH w (bW S u nx Y ho hc);have HH:=hideIt h;have hl0:(S.plan.length:Int)=0:=by rw [hp];rfl
 have HQ:Hid (rTurn S nx Y=⟨S,nx,Y,0,14,0⟩):=by show _=_;unfold rTurn;rw [hp]
 clear hp h;unfold wdA;go_enter Tryz.func18,Tryz.ntmps18
 go_upto_region 1 with fail
 rw [←HW.out.eq];obtain ⟨a0,a1,a2,a3,a4,a5,a6,a7,a8,a9,az⟩:=blk10 HW.out.b0;obtain ⟨r0,r1,r2,r3,r4,r5,r6,r7,r8,r9,rz⟩:=blk10 HW.out.b1;go_wp2_with fail
 obtain ⟨FW,hFW,HF⟩:=ZE HW.out (Below.refl _ W) S u nx Y ho hc;unfold stS st10 at hFW;rw [hFW];obtain ⟨f0,f1,f2,f3,f4,f5,f6,f7,f8,f9,fz⟩:=blk10 HF.out.1;clear hFW;refine bodyPost_ret (v:=.tuple #[wdA S u nx Y ho hc,.int .i64 0,.int .i64 14]) (by simp [results,Tryz.results18,go_sem,f0,f1,f2,f3,f4,f5,f6,f7,f8,f9]) rfl ?_;rw [HQ.out];exact ⟨u,ho,hc,rfl,RefG.same HH.out HF.out.2⟩
theorem xTurn1 (S:Sta) (u:Stv) (nx:Int) (Y:Int×List Pl) (ho:Option Addr) (hc:Nat) (w:World) (sk:Int) (sn:ByteArray) (sx:Int) (r:List Stp) (h:WdAt w S u Y ho hc) (hp:S.plan=⟨sk,sn,sx⟩ :: r) (hm:Sml S Y) (hp6:S.pools.length≤99) (hsq:S.srv.length+S.wts.length≤549755813888) (hx0:0≤nx) (hx1:nx≤1099511627776) (hk:okKind sk) (hn0:0≤sx) (hix:S.begun=false→sk=1∨sk=5∨sk=6∨sk=8→∃ i,S.pools.findIdx? (isNameP sn)=some i) :
  Calls Tryz.prog 18 #[wdA S u nx Y ho hc] w fun e w'=>TurnG w w' S u Y ho hc (rTurn S nx Y) e:=by
 obtain ⟨W,HW⟩:=ZH w (bW S u nx Y ho hc);have HH:=hideIt h;have HM:=hideIt hm;have hW:w.heap.size+2≤W.heap.size:=by rw [HW.out.eq];simp
 have hl1:(0:Int)<(S.plan.length:Int):=by rw [hp];simp
 have hl2:((S.plan.length:Int) == 0)=false:=by rw [hp];simp;omega
 have hl3:¬(S.plan.length:Int)=0:=by omega
 obtain ⟨bl,off,hao,hbl,d0,d1,d2⟩:=ZbW (h.nx HW.out.bel).sta.l (i:=0) (x:=⟨sk,sn,sx⟩) (by rw [hp];rfl);simp only [Nat.zero_mul,Nat.add_zero] at d0 d1 d2;have HP:=hideIt hp;have HIX:=hideIt hix;obtain ⟨V,hV⟩:∃ V,V=W.alloc (bSt sk sn sx):=⟨_,rfl⟩;have HV:Hid (V=W.alloc (bSt sk sn sx)∧V.heap[W.heap.size]?=some (bSt sk sn sx)∧Below W.heap.size W V):=⟨hV,by rw [hV];exact Zc _ _ rfl,by rw [hV];exact Zb _ _⟩;have HCO:=hideIt (xCopied S u nx Y ho hc V ((h.nx HW.out.bel).nx HV.out.2.2).rows hm);have HAO:=hideIt hao;clear hp h hm hix hV hao;unfold wdA;go_enter Tryz.func18,Tryz.ntmps18
 go_upto_region 1 with fail
 rw [←HW.out.eq];obtain ⟨a0,a1,a2,a3,a4,a5,a6,a7,a8,a9,az⟩:=blk10 HW.out.b0;rw [HAO.out] at a4;go_upto_region 4 with fail
 rw [←HV.out.1];clear a0 a1 a2 a3 a4 a5 a6 a7 a8 a9 az d0 d1 d2;obtain ⟨a0,a1,a2,a3,a4,a5,a6,a7,a8,a9,az⟩:=blk10 (Ze HW.out.b0 HV.out.2.2);go_wp2_with fail
 refine HCO.out.mono ?_;rintro e w1 ⟨u1,ho1,hc1,rfl,o1,hb1⟩;obtain ⟨U,hU,HU⟩:=ZS o1 nx;obtain ⟨g,hg⟩:∃ g,w1.heap.size=g:=⟨_,rfl⟩;have HBV:=hideIt (Za hb1 HU.out.2.2.1);have HBU:=hideIt (Za HV.out.2.2 HBV.out);have hWg:W.heap.size<g:=by
  have h1:=hb1.size;have h2:=(Array.getElem?_eq_some_iff.1 HV.out.2.1).1;omega
 have hVW:=HV.out.2.2.size;have hVg:V.heap.size≤g:=by rw [←hg];exact hb1.size
 rw [hg] at HU;have HG:=hideIt hg;have HOU:=hideIt (HU.out.2.2.2.mono hVW);clear hU o1 hb1 hg a0 a1 a2 a3 a4 a5 a6 a7 a8 a9 az;go_upto_region 5 with fail
 rw [←HU.out.1,HG.out];obtain ⟨a0,a1,a2,a3,a4,a5,a6,a7,a8,a9,az⟩:=blk10 (Ze HW.out.b0 HBU.out);obtain ⟨s0,s1,s2,sz⟩:=blk3d (Ze HV.out.2.1 HBV.out);obtain ⟨e0,e1,e2,e3,e4,e5,e6,e7,e8,e9,ez⟩:=blk10 HU.out.2.1;rcases Bool.eq_false_or_eq_true S.begun with hbg | hbg
 all_goals
  first
  | (
   rw [hbg] at a5;obtain ⟨R,hR⟩:∃ R,R=S:=⟨_,rfl⟩;obtain ⟨v,hv⟩:∃ v,v=u1:=⟨_,rfl⟩;obtain ⟨ho2,hh2⟩:∃ x,x=ho1:=⟨_,rfl⟩;obtain ⟨hc2,hh3⟩:∃ x,x=hc1:=⟨_,rfl⟩;have HR:Hid (R=(if S.begun=true then S else rBegin sk sn sx S)):=by show _=_;rw [if_pos hbg,hR]
   have HXZ:Hid (U.heap[g]?=some (bW R v nx Y ho2 hc2)):=by rw [hR,hv,hh2,hh3];exact HU.out.2.1
   have HOZ:Hid (OwnW W.heap.size U R v Y ho2 hc2):=by rw [hR,hv,hh2,hh3];exact HOU.out
   have HVZ:=HBV;clear hbg hR hv hh2 hh3;go_upto_region 7 with fail
   clear a0 a1 a2 a3 a4 a5 a6 a7 a8 a9 az e0 e1 e2 e3 e4 e5 e6 e7 e8 e9 ez s0 s1 s2 sz HU HOU;obtain ⟨Z,rfl⟩:∃ Z,Z=U:=⟨_,rfl⟩)
  | (
   rw [hbg] at a5;obtain ⟨R,hR⟩:∃ R,R=rBegin sk sn sx S:=⟨_,rfl⟩;have HR:Hid (R=(if S.begun=true then S else rBegin sk sn sx S)):=by show _=_;rw [if_neg (by rw [hbg];simp),hR]
   have HBE:Hid (Calls Tryz.prog 51 #[wdA S u1 nx Y ho1 hc1,stA sk sn sx] U fun e w'=>GaveS U.heap.size U w' R nx Y e):=by
    rw [hR];exact xBegun _ S u1 nx Y ho1 hc1 sk sn sx U HOU.out HM.out (by omega) hk hn0 (HIX.out hbg)
   clear hbg hR;go_wp2_with fail
   refine HBE.out.mono ?_;rintro e w2 ⟨v,ho2,hc2,rfl,o2,hb2⟩;have HB2:=hideIt (Za HBU.out hb2);have hx2:=Ze HU.out.2.1 hb2;obtain ⟨Z,hZ,HZ⟩:=Zbg (o2.mono HBU.out.size) rfl hx2 nx;have HQ2:=Zbd hZ;have HVZ:Hid (Below V.heap.size V Z):=HZ.out.2.1 _ _ (Za HBV.out hb2) hVg;have HXZ:=hideIt HZ.out.1;have HOZ:=hideIt HZ.out.2.2;clear o2 hb2 a0 a1 a2 a3 a4 a5 a6 a7 a8 a9 az e0 e1 e2 e3 e4 e5 e6 e7 e8 e9 ez s0 s1 s2 sz hZ;obtain ⟨e0,e1,e2,e3,e4,e5,e6,e7,e8,e9,ez⟩:=blk10 hx2;clear hx2;unfold stS st10 at HQ2;go_upto_region 7 with fail
   rw [HQ2.out];clear e0 e1 e2 e3 e4 e5 e6 e7 e8 e9 ez HZ HQ2 HU HOU)
  obtain ⟨e0,e1,e2,e3,e4,e5,e6,e7,e8,e9,ez⟩:=blk10 HXZ.out;obtain ⟨D,hD⟩:∃ D,{R with begun:=true}=D:=⟨_,rfl⟩;obtain ⟨X,hX⟩:∃ X,X=Z.setCell ⟨g,5,none⟩ (.bool true):=⟨_,rfl⟩;have HXX:Hid (X=Z.setCell ⟨g,5,none⟩ (.bool true)∧X.heap[g]?=some (bW D v nx Y ho2 hc2)):=⟨hX,by rw [hX,←hD];exact Za7 HXZ.out _⟩;have HBX:Hid (Below V.heap.size V X):=by rw [hX];exact HVZ.out.setCell (by show V.heap.size≤g;exact hVg) _
  have HOX:Hid (OwnW W.heap.size X D v Y ho2 hc2):=by
   rw [hX,←hD];have h:=HOZ.out.st1 (a:=5) HXZ.out (.bool true);exact ⟨h.p,h.s,h.q,h.t,h.h⟩
  have hRl:R.srv.length≤S.srv.length∧R.wts.length≤S.wts.length∧R.pools.length≤S.pools.length+1∧R.plan=S.plan:=by
   rw [HR.out];split
   ·exact ⟨Nat.le_refl _,Nat.le_refl _,Nat.le_succ _,rfl⟩
   ·exact ZgT sk sn sx S
  have HDL:Hid (D.srv.length≤S.srv.length∧D.wts.length≤S.wts.length∧D.pools.length≤S.pools.length+1∧D.plan=S.plan):=by rw [←hD];exact hRl
  have HMD:Hid (Sml D Y):=by
   have h:=HDL.out;have hm:=HM.out;exact ⟨by omega,by omega,by omega,by rw [h.2.2.2];exact hm.t,hm.h⟩
  obtain ⟨⟨T,t⟩,hT⟩:∃ T,rServed D.wts.length D nx=T:=⟨_,rfl⟩;have HSV:Hid (Calls Tryz.prog 52 #[wdA D v nx Y ho2 hc2] X fun e w'=>GaveS W.heap.size X w' T t Y e):=by
   have h:=HDL.out;have:=xServed W.heap.size D.wts.length D v nx Y ho2 hc2 X (Nat.le_trans hVW HBX.out.size) HOX.out HMD.out (Nat.le_refl _) (by omega) hx0 (by omega);rw [hT] at this;exact this
  have HTL:Hid (T.srv.length≤549755813888∧T.plan=⟨sk,sn,sx⟩ :: r∧Sml T Y):=by
   have h:=ZaK D.wts.length D nx;rw [hT] at h;simp only at h;have h2:=HDL.out;have hm:=HM.out;exact ⟨by omega,h.2.2.2.1.trans (h2.2.2.2.trans HP.out),⟨by rw [h.2.2.1];omega,by omega,by omega,by rw [h.2.2.2.1,h2.2.2.2];exact hm.t,hm.h⟩⟩
  have HTU:Hid (rTurn S nx Y=⟨rEnd T (cEnded sk sn sx T),t,Y,(rEnd T (cEnded sk sn sx T)).plan.length,0,0⟩):=by
   have e:rTurnS ⟨sk,sn,sx⟩ S nx=(T,t):=by
    unfold rTurnS;simp only;rw [←HR.out];have h:=hT;rw [←hD] at h;exact h
   show _=_;unfold rTurn;rw [HP.out];simp only [e]
  clear hD hX hRl hT;go_upto_region 8 with fail
  rw [←HXX.out.1];clear e0 e1 e2 e3 e4 e5 e6 e7 e8 e9 ez;obtain ⟨e0,e1,e2,e3,e4,e5,e6,e7,e8,e9,ez⟩:=blk10 HXX.out.2;go_wp2_with fail
  refine HSV.out.mono ?_;rintro e w3 ⟨u3,ho3,hc3,rfl,o3,hb3⟩;have hx3:=Ze HXX.out.2 hb3;obtain ⟨U3,hU3,HU3⟩:=Zbg o3 rfl hx3 t;have HQ3:=Zbd hU3;have HB3:Hid (Below V.heap.size V U3):=HU3.out.2.1 _ _ (Za HBX.out hb3) hVg;clear o3 hb3 hU3 e0 e1 e2 e3 e4 e5 e6 e7 e8 e9 ez;obtain ⟨e0,e1,e2,e3,e4,e5,e6,e7,e8,e9,ez⟩:=blk10 hx3;clear hx3;unfold stS st10 at HQ3;go_upto_region 9 with fail
  rw [HQ3.out];clear e0 e1 e2 e3 e4 e5 e6 e7 e8 e9 ez HQ3;obtain ⟨e0,e1,e2,e3,e4,e5,e6,e7,e8,e9,ez⟩:=blk10 HU3.out.1;obtain ⟨s0,s1,s2,sz⟩:=blk3d (Ze HV.out.2.1 HB3.out);have HEN:=hideIt (xEnded T u3 t Y ho3 hc3 sk sn sx U3 hk (Zd HU3.out.2.2.s) HTL.out.1);obtain ⟨d,hd⟩:∃ d,cEnded sk sn sx T=d:=⟨_,rfl⟩;rw [hd] at HEN HTU;clear hd;go_wp2_with fail
  refine HEN.out.mono ?_;rintro e w4 ⟨rfl,hb4⟩;have HB4:=hideIt (Za HB3.out hb4);have HX4:=hideIt (Ze HU3.out.1 hb4);have HO4:=hideIt (HU3.out.2.2.nx hb4);have HBW4:=hideIt (Za HV.out.2.2 HB4.out);have hgr:g≠w.heap.size+1:=by omega
  clear hb4 e0 e1 e2 e3 e4 e5 e6 e7 e8 e9 ez s0 s1 s2 sz;obtain ⟨e0,e1,e2,e3,e4,e5,e6,e7,e8,e9,ez⟩:=blk10 HX4.out;cases d with
  | false =>
   have HQ:Hid (rTurn S nx Y=⟨T,t,Y,T.plan.length,0,0⟩):=HTU.out;obtain ⟨r0,r1,r2,r3,r4,r5,r6,r7,r8,r9,rz⟩:=blk10 (Ze HW.out.b1 HBW4.out);go_upto_region 15 with fail
   go_region
   go_wp2_with fail
   obtain ⟨FW0,hFW,HF0⟩:=Zz HW.out HBW4.out HO4.out t;unfold stS st10 at hFW;rw [hFW];obtain ⟨FW,hFD⟩:∃ FW,FW0.drew=FW:=⟨_,rfl⟩;have HF:Hid (FW.heap[w.heap.size+1]?=some (bW T u3 t Y ho3 hc3)∧Below w.heap.size w FW∧OwnW W.heap.size FW T u3 Y ho3 hc3):=by rw [←hFD];exact ⟨HF0.out.1,HF0.out.2.1.drew,⟨HF0.out.2.2.p.drew,HF0.out.2.2.s.drew,HF0.out.2.2.q.drew,HF0.out.2.2.t.drew,HF0.out.2.2.h.drew⟩⟩
   rw [hFD];obtain ⟨f0,f1,f2,f3,f4,f5,f6,f7,f8,f9,fz⟩:=blk10 HF.out.1;clear hFW hFD;refine bodyPost_ret (v:=.tuple #[wdA T u3 t Y ho3 hc3,.int .i64 (T.plan.length:Int),.int .i64 0]) (by simp [results,Tryz.results18,go_sem,f0,f1,f2,f3,f4,f5,f6,f7,f8,f9]) rfl ?_;rw [HQ.out];exact ⟨u3,ho3,hc3,rfl,Z2 (HF.out.2.2.mono (by omega)) HF.out.2.1⟩
  | true =>
   have HCO2:=hideIt (xCopied T u3 t Y ho3 hc3 w4 HO4.out.rows HTL.out.2.2);go_wp2_with fail
   refine HCO2.out.mono ?_;rintro e w5 ⟨u5,ho5,hc5,rfl,o5,hb5⟩;have hx5:=Ze HX4.out hb5;obtain ⟨U5,hU5,HU5⟩:=Zbg (o5.mono (show W.heap.size≤w4.heap.size from HBW4.out.size)) rfl hx5 t;have HQ5:=Zbd hU5;have HB5:Hid (Below V.heap.size V U5):=HU5.out.2.1 _ _ (Za HB4.out hb5) hVg;clear o5 hb5 hU5 e0 e1 e2 e3 e4 e5 e6 e7 e8 e9 ez;obtain ⟨e0,e1,e2,e3,e4,e5,e6,e7,e8,e9,ez⟩:=blk10 hx5;clear hx5;unfold stS st10 at HQ5;go_upto_region 12 with fail
   rw [HQ5.out];clear e0 e1 e2 e3 e4 e5 e6 e7 e8 e9 ez HQ5;obtain ⟨e0,e1,e2,e3,e4,e5,e6,e7,e8,e9,ez⟩:=blk10 HU5.out.1;obtain ⟨gb,go0,hgo,hgb,c0,c1,c2⟩:=ZbW (Zd HU5.out.2.2.t) (i:=0) (x:=⟨sk,sn,sx⟩) (by rw [HTL.out.2.1];rfl);have hz0:go0=0:=by
    have h:=HU5.out.2.2.t;rw [hgo] at h;exact Zat h
   subst hz0;obtain ⟨m,hm⟩:∃ m,r.length=m:=⟨_,rfl⟩;have hpl:T.plan.length=m+1:=by rw [HTL.out.2.1,←hm];rfl
   have hcap:m+1≤u5.tc:=by
    have h:=Za8 (Zd HU5.out.2.2.t);rw [hpl] at h;exact h
   have hmq:m+1≤1000:=by rw [←hpl];exact HTL.out.2.2.t
   rw [hgo,hpl] at e4;have HPL:=hideIt hpl;have HGO:=hideIt hgo;have HRM:=hideIt hm;clear c0 c1 c2 hgb hpl hm hgo;obtain ⟨ad,had⟩:∃ ad,(if u5.tc=1 then some (⟨gb,0,none⟩:Addr) else some ⟨gb,3,none⟩)=ad:=⟨_,rfl⟩;obtain ⟨tc5,htc⟩:∃ c,u5.tc - 1=c:=⟨_,rfl⟩;obtain ⟨b6,hb6⟩:∃ b,(T.back&&!decide (m=0))=b:=⟨_,rfl⟩;obtain ⟨Q,hQ⟩:∃ Q,rEnd T true=Q:=⟨_,rfl⟩;obtain ⟨v5,hv5⟩:∃ v:Stv,(⟨u5.po,u5.pc,u5.so,u5.sc,u5.wo,u5.wc,ad,tc5⟩:Stv)=v:=⟨_,rfl⟩;obtain ⟨X5,hX5⟩:∃ X,X=((U5.setCell ⟨g,4,none⟩ (.slice ad m tc5)).setCell ⟨g,5,none⟩ (.bool false)).setCell ⟨g,6,none⟩ (.bool b6):=⟨_,rfl⟩;have hQQ:Q={T with plan:=r,begun:=false,back:=b6}:=by
    rw [←hQ,←hb6];unfold rEnd;rw [if_pos rfl];simp only [HTL.out.2.1,List.tail_cons,HRM.out]
   have h4:=ZbE HU5.out.1 (.slice ad m tc5);have h5:=Za7 h4 (.bool false);have HX5:Hid (X5=((U5.setCell ⟨g,4,none⟩ (.slice ad m tc5)).setCell ⟨g,5,none⟩ (.bool false)).setCell ⟨g,6,none⟩ (.bool b6)∧X5.heap[g]?=some (bW Q v5 t Y ho5 hc5)):=by
    refine ⟨hX5,?_⟩;have hh:=ZbF h5 (.bool b6);rw [←HRM.out] at hh;rw [hX5,hQQ,←hv5,←HRM.out];exact hh
   have HBX5:Hid (Below W.heap.size W X5):=by
    rw [hX5];have hb:=Za HV.out.2.2 HB5.out;exact ((hb.setCell (by show W.heap.size≤g;omega) _).setCell (by show W.heap.size≤g;omega) _).setCell (by show W.heap.size≤g;omega) _
   have HOX5:Hid (OwnW W.heap.size X5 T u5 Y ho5 hc5):=by
    rw [hX5];exact ((HU5.out.2.2.st1 HU5.out.1 _).st1 h4 _).st1 h5 _
   have HRF:Hid (∀ (FW:World),OwnW W.heap.size FW T u5 Y ho5 hc5→Below w.heap.size w FW→RefG w FW S u Y ho hc Q v5 Y ho5 hc5):=by
    intro FW hF hb;rw [hQQ,←hv5,←htc];exact ZhR hF (by omega) hb HGO.out HTL.out.2.1 HRM.out had rfl rfl rfl rfl
   have HQ:Hid (rTurn S nx Y=⟨Q,t,Y,Q.plan.length,0,0⟩):=by rw [←hQ];exact HTU.out
   clear hQ hQQ hv5 hX5 h4 h5;go_upto_region 13 with fail
   try rw [had]
   try rw [htc]
   obtain ⟨tb,htb⟩:∃ b,T.back=b:=⟨_,rfl⟩;rw [htb] at e6 hb6;clear htb;have hA:tb=true→decide (0<(m:Int))=b6∧decide (0<m)=b6:=by
    intro h;rw [h,Bool.true_and] at hb6;rw [←hb6];by_cases h0:m=0
    ·subst h0;exact ⟨rfl,rfl⟩
    ·rw [decide_eq_false h0];exact ⟨decide_eq_true (by omega),decide_eq_true (by omega)⟩
   have hB:tb=false→b6=false:=by
    intro h;rw [h] at hb6;exact hb6.symm
   clear hb6;cases tb;all_goals
    first
    | (obtain ⟨hA1,hA2⟩:=hA rfl;clear hA hB)
    | (obtain rfl:=hB rfl;clear hA hB)
    go_upto_region 15 with fail
    first | rw [hA1] | rw [hA2] | skip
    rw [←HX5.out.1];clear e0 e1 e2 e3 e4 e5 e6 e7 e8 e9 ez;obtain ⟨e0,e1,e2,e3,e4,e5,e6,e7,e8,e9,ez⟩:=blk10 HX5.out.2;obtain ⟨r0,r1,r2,r3,r4,r5,r6,r7,r8,r9,rz⟩:=blk10 (Ze HW.out.b1 HBX5.out);go_region
    go_wp2_with fail
    obtain ⟨FW0,hFW,HF0⟩:=ZE HW.out HBX5.out Q v5 t Y ho5 hc5;have HOF:=hideIt (HOX5.out.st (Ze HW.out.b1 HBX5.out) (.int .i64 Q.bud) (.slice v5.po Q.pools.length v5.pc) (.slice v5.so Q.srv.length v5.sc) (.slice v5.wo Q.wts.length v5.wc) (.slice v5.tqo Q.plan.length v5.tc) (.bool Q.begun) (.bool Q.back) (.int .i64 t) (.int .i64 Y.1) (.slice ho5 Y.2.length hc5));unfold stS at hFW;rw [hFW] at HOF;unfold st10 at hFW;rw [hFW];obtain ⟨FW,hFD⟩:∃ FW,FW0.drew=FW:=⟨_,rfl⟩;have HF:Hid (FW.heap[w.heap.size+1]?=some (bW Q v5 t Y ho5 hc5)∧RefG w FW S u Y ho hc Q v5 Y ho5 hc5):=by
     rw [←hFD];exact ⟨HF0.out.1,HRF.out _ ⟨HOF.out.p.drew,HOF.out.s.drew,HOF.out.q.drew,HOF.out.t.drew,HOF.out.h.drew⟩ HF0.out.2.drew⟩
    rw [hFD];obtain ⟨f0,f1,f2,f3,f4,f5,f6,f7,f8,f9,fz⟩:=blk10 HF.out.1;clear hFW hFD;refine bodyPost_ret (v:=.tuple #[wdA Q v5 t Y ho5 hc5,.int .i64 (Q.plan.length:Int),.int .i64 0]) (by simp [results,Tryz.results18,go_sem,f0,f1,f2,f3,f4,f5,f6,f7,f8,f9]) rfl ?_;rw [HQ.out];exact ⟨v5,ho5,hc5,rfl,HF.out.2⟩
end Lw
end Go.Proofs.YtcpikklofilkcaaGreat
