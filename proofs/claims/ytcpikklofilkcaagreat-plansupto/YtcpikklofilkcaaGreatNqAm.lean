import Derived.Test.YtcpikklofilkcaaGreatNqAi
import Derived.Test.YtcpikklofilkcaaGreatNqAl
import Derived.Test.YtcpikklofilkcaaGreatNqO
import Derived.Test.YtcpikklofilkcaaGreatNqS
set_option maxRecDepth 100000
set_option maxHeartbeats 16000000
namespace Go.Proofs.YtcpikklofilkcaaGreat
open Go.RowKit
namespace Lw
open Co
def RelG (w w':World) (S:Sta) (u:Stv) (Y:Int×List Pl) (ho:Option Addr) (hc:Nat) (q:Rsq) (e:Ending):Prop:=
 ∃ u' ho' hc',e=.returned (.tuple #[wdA q.S u' q.nx q.Y ho' hc',.int .i64 q.n,.int .i64 q.e,.int .i64 q.l])∧RefG w w' S u Y ho hc q.S u' q.Y ho' hc'
theorem xReload0 (S:Sta) (u:Stv) (nx:Int) (Y:Int×List Pl) (ho:Option Addr) (hc:Nat) (s:ByteArray) (w:World) (h:WdAt w S u Y ho hc) (hp:¬S.plan.length=0) :
  Calls Tryz.prog 16 #[wdA S u nx Y ho hc,.string s] w fun e w'=>RelG w w' S u Y ho hc (rReload S nx Y (ans s)) e:=by
 obtain ⟨W,HW⟩:=ZH w (bW S u nx Y ho hc);have HH:=hideIt h;have hl0:(0:Int)<(S.plan.length:Int):=by omega
 have hl1:0<S.plan.length:=by omega
 have HQ:Hid (rReload S nx Y (ans s)=⟨S,nx,Y,0,16,0⟩):=by show _=_;unfold rReload;rw [if_pos hp]
 clear hp h;unfold wdA;go_enter Tryz.func16,Tryz.ntmps16
 go_upto_region 1 with fail
 rw [←HW.out.eq];obtain ⟨a0,a1,a2,a3,a4,a5,a6,a7,a8,a9,az⟩:=blk10 HW.out.b0;obtain ⟨r0,r1,r2,r3,r4,r5,r6,r7,r8,r9,rz⟩:=blk10 HW.out.b1;go_wp2_with fail
 obtain ⟨FW,hFW,HF⟩:=ZE HW.out (Below.refl _ W) S u nx Y ho hc;unfold stS st10 at hFW;rw [hFW];obtain ⟨f0,f1,f2,f3,f4,f5,f6,f7,f8,f9,fz⟩:=blk10 HF.out.1;clear hFW;refine bodyPost_ret (v:=.tuple #[wdA S u nx Y ho hc,.int .i64 0,.int .i64 16,.int .i64 0]) (by simp [results,Tryz.results16,go_sem,f0,f1,f2,f3,f4,f5,f6,f7,f8,f9]) rfl ?_;rw [HQ.out];exact ⟨u,ho,hc,rfl,RefG.same HH.out HF.out.2⟩
theorem xReload1 (S:Sta) (u:Stv) (nx:Int) (Y:Int×List Pl) (ho:Option Addr) (hc:Nat) (s:ByteArray) (w:World) (h:WdAt w S u Y ho hc) (hm:Sml S Y) (hp:S.plan.length=0) (hs:s.size≤maxLen) (hp6:S.pools.length≤6) (hq2:(ans s).err=0→(ans s).tab.2.length≤6∧∀ p∈(ans s).tab.2,0≤p.sz) :
  Calls Tryz.prog 16 #[wdA S u nx Y ho hc,.string s] w fun e w'=>RelG w w' S u Y ho hc (rReload S nx Y (ans s)) e:=by
 obtain ⟨W,HW⟩:=ZH w (bW S u nx Y ho hc);have HH:=hideIt h;have HM:=hideIt hm;have hW:w.heap.size+2≤W.heap.size:=by rw [HW.out.eq];simp
 have hl0:¬(0:Int)<(S.plan.length:Int):=by omega
 have hl1:¬0<S.plan.length:=by omega
 have HP:=hideIt hp;have HCM:=hideIt (Zcf s W hs);obtain ⟨a,ha⟩:∃ a,ans s=a:=⟨_,rfl⟩;rw [ha] at HCM hq2 ⊢;clear hp ha;obtain ⟨⟨tb,tps⟩,er,at'⟩:=a;simp only at hq2;have HQ2:=hideIt hq2;clear h hm hq2;unfold wdA;go_enter Tryz.func16,Tryz.ntmps16
 go_upto_region 1 with fail
 rw [←HW.out.eq];obtain ⟨a0,a1,a2,a3,a4,a5,a6,a7,a8,a9,az⟩:=blk10 HW.out.b0;go_wp2_with fail
 refine HCM.out.mono ?_;rintro e w1 ⟨vo,vc,rfl,ov,hb1⟩;simp only at ov ⊢;obtain ⟨q,hq⟩:∃ q,tps.length=q:=⟨_,rfl⟩;rw [hq] at ov ⊢;obtain ⟨V,hV⟩:∃ V,V=w1.alloc (bTab tb (.slice vo q vc)):=⟨_,rfl⟩;have HV:Hid (V=w1.alloc (bTab tb (.slice vo q vc))∧V.heap[w1.heap.size]?=some (bTab tb (.slice vo q vc))∧Below W.heap.size W V∧RowAt V (.slice vo q vc) q (flatP tps)):=⟨hV,by rw [hV];exact Zc _ _ rfl,by rw [hV];exact Za hb1 (Zb _ _),by rw [hV];exact Zd (Zk ov (Zb _ _))⟩;have HQQ:=hideIt hq;have hW1:=hb1.size;clear ov hb1 hV hq a0 a1 a2 a3 a4 a5 a6 a7 a8 a9 az;go_upto_region 4 with fail
 rw [←HV.out.1];obtain ⟨a0,a1,a2,a3,a4,a5,a6,a7,a8,a9,az⟩:=blk10 (Ze HW.out.b0 HV.out.2.2.1);by_cases her:(er:Int)=0
 ·have HER:=hideIt her;have hes:er=0:=by omega
  subst hes;have HQ3:=hideIt (HQ2.out rfl);clear her HQ2;have HCO:=hideIt (xCopied S u nx Y ho hc V ((HH.out.nx HW.out.bel).nx HV.out.2.2.1).rows HM.out);go_wp2_with fail
  refine HCO.out.mono ?_;rintro e w2 ⟨u1,ho1,hc1,rfl,o1,hb2⟩;obtain ⟨U,hU,HU⟩:=ZS o1 nx;obtain ⟨g,hg⟩:∃ g,w2.heap.size=g:=⟨_,rfl⟩;have HBV:=hideIt (Za hb2 HU.out.2.2.1);have HBU:=hideIt (Za HV.out.2.2.1 HBV.out);have hVl:=(Array.getElem?_eq_some_iff.1 HV.out.2.1).1;have hWg:W.heap.size<g:=by
   have h1:=hb2.size;omega
  have hVg:V.heap.size≤g:=by rw [←hg];exact hb2.size
  have hVW:=HV.out.2.2.1.size;rw [hg] at HU;have HG:=hideIt hg;have HOU:=hideIt (HU.out.2.2.2.mono hVW);clear hU o1 hb2 hg a0 a1 a2 a3 a4 a5 a6 a7 a8 a9 az;go_upto_region 7 with fail
  rw [←HU.out.1,HG.out];obtain ⟨a0,a1,a2,a3,a4,a5,a6,a7,a8,a9,az⟩:=blk10 (Ze HW.out.b0 HBU.out);obtain ⟨t0,t1⟩:=blk2 (Ze HV.out.2.1 HBV.out);obtain ⟨e0,e1,e2,e3,e4,e5,e6,e7,e8,e9,ez⟩:=blk10 HU.out.2.1;have HST:=hideIt (Df.rSteps S.bud u.po _ u.pc S.pools tb vo q vc tps U ((HH.out.nx HW.out.bel).nx HBU.out).sta.p rfl hp6 (HV.out.2.2.2.nx HBV.out) HQQ.out (by rw [←HQQ.out];exact HQ3.out.1) HQ3.out.2);obtain ⟨L,hL⟩:∃ L,Df.diffL S.bud S.pools tb tps=L:=⟨_,rfl⟩;rw [hL] at HST;have HQ:Hid (rReload S nx Y ⟨(tb,tps),0,at'⟩=⟨{S with plan:=L,begun:=false,back:=false},nx,(S.bud,S.pools),L.length,0,0⟩):=by
   show _=_;unfold rReload;rw [if_neg (by rw [HP.out];simp),if_neg (by simp),←hL]
  clear hL;go_wp2_with fail
  refine HST.out.mono ?_;rintro e w3 ⟨lo,lc,rfl,ol,hb3⟩;have hx3:=Ze HU.out.2.1 hb3;obtain ⟨D,hD⟩:∃ D,{S with plan:=L,begun:=false,back:=false}=D:=⟨_,rfl⟩;obtain ⟨v,hv⟩:∃ v:Stv,(⟨u1.po,u1.pc,u1.so,u1.sc,u1.wo,u1.wc,lo,lc⟩:Stv)=v:=⟨_,rfl⟩;obtain ⟨X,hX⟩:∃ X,X=((w3.setCell ⟨g,4,none⟩ (.slice lo L.length lc)).setCell ⟨g,5,none⟩ (.bool false)).setCell ⟨g,6,none⟩ (.bool false):=⟨_,rfl⟩;have h4:=ZbE hx3 (.slice lo L.length lc);have h5:=Za7 h4 (.bool false);have HXX:Hid (X=((w3.setCell ⟨g,4,none⟩ (.slice lo L.length lc)).setCell ⟨g,5,none⟩ (.bool false)).setCell ⟨g,6,none⟩ (.bool false)∧X.heap[g]?=some (bW D v nx Y ho1 hc1)):=by
   refine ⟨hX,?_⟩;rw [hX,←hD,←hv];exact ZbF h5 _
  have HBX:Hid (Below W.heap.size W X):=by
   rw [hX];have hb:=Za HBU.out hb3;exact ((hb.setCell (by show W.heap.size≤g;omega) _).setCell (by show W.heap.size≤g;omega) _).setCell (by show W.heap.size≤g;omega) _
  have HOX:Hid (OwnW W.heap.size X D v Y ho1 hc1):=by
   have h0:OwnW W.heap.size w3 D v Y ho1 hc1:=by
    rw [←hD,←hv];have hu:=HOU.out.nx hb3;exact ⟨hu.p,hu.s,hu.q,Zi ol (by have:=HBU.out.size;omega),hu.h⟩
   rw [hX];exact ((h0.st1 hx3 _).st1 h4 _).st1 h5 _
  have HWX:Hid (∀ {o:Obj},W.heap[w.heap.size]?=some o→X.heap[w.heap.size]?=some o):=fun h=>Ze h HBX.out
  clear ol hX a0 a1 a2 a3 a4 a5 a6 a7 a8 a9 az e0 e1 e2 e3 e4 e5 e6 e7 e8 e9 ez t0 t1 h4 h5;obtain ⟨a0,a1,a2,a3,a4,a5,a6,a7,a8,a9,az⟩:=blk10 (Ze HW.out.b0 (Za HBU.out hb3));obtain ⟨e0,e1,e2,e3,e4,e5,e6,e7,e8,e9,ez⟩:=blk10 hx3;clear hb3 hx3;go_upto_region 10 with fail
  rw [←HXX.out.1];clear a0 a1 a2 a3 a4 a5 a6 a7 a8 a9 az e0 e1 e2 e3 e4 e5 e6 e7 e8 e9 ez;obtain ⟨a0,a1,a2,a3,a4,a5,a6,a7,a8,a9,az⟩:=blk10 (Ze HW.out.b0 HBX.out);obtain ⟨e0,e1,e2,e3,e4,e5,e6,e7,e8,e9,ez⟩:=blk10 HXX.out.2;have HTA:=hideIt (ZbR S.bud S.pools u.po _ u.pc X ((HH.out.nx HW.out.bel).nx HBX.out).sta.p rfl (by omega));go_wp2_with fail
  refine HTA.out.mono ?_;rintro e w5 ⟨ho5,hc5,rfl,o5,hb5⟩;have hx5:=Ze HXX.out.2 hb5;obtain ⟨Z,hZ⟩:∃ Z,Z=(w5.setCell ⟨g,8,none⟩ (.int .i64 S.bud)).setCell ⟨g,9,none⟩ (.slice ho5 S.pools.length hc5):=⟨_,rfl⟩;obtain ⟨Y5,hY5⟩:∃ Y5,(S.bud,S.pools)=Y5:=⟨_,rfl⟩;have h8:=Zgw hx5 (.int .i64 S.bud);have HZZ:Hid (Z=(w5.setCell ⟨g,8,none⟩ (.int .i64 S.bud)).setCell ⟨g,9,none⟩ (.slice ho5 S.pools.length hc5)∧Z.heap[g]?=some (bW D v nx Y5 ho5 hc5)):=by
   refine ⟨hZ,?_⟩;rw [hZ,←hY5];exact Zgi h8 _
  have HBZ:Hid (Below W.heap.size W Z):=by
   rw [hZ];exact ((Za HBX.out hb5).setCell (by show W.heap.size≤g;omega) _).setCell (by show W.heap.size≤g;omega) _
  have HOZ:Hid (OwnW W.heap.size Z D v Y5 ho5 hc5):=by
   have h0:OwnW W.heap.size w5 D v Y5 ho5 hc5:=by
    rw [←hY5];have hu:=HOX.out.nx hb5;exact ⟨hu.p,hu.s,hu.q,hu.t,Zi o5 HBX.out.size⟩
   rw [hZ];exact (h0.st1 hx5 _).st1 h8 _
  have HDL:Hid (L.length=D.plan.length):=by rw [←hD];exact rfl
  rw [hD,hY5,HDL.out] at HQ;clear o5 hb5 hZ a0 a1 a2 a3 a4 a5 a6 a7 a8 a9 az e0 e1 e2 e3 e4 e5 e6 e7 e8 e9 ez h8 hY5 hD hv;obtain ⟨e0,e1,e2,e3,e4,e5,e6,e7,e8,e9,ez⟩:=blk10 hx5;clear hx5;go_upto_region 11 with fail
  rw [←HZZ.out.1];clear e0 e1 e2 e3 e4 e5 e6 e7 e8 e9 ez;obtain ⟨e0,e1,e2,e3,e4,e5,e6,e7,e8,e9,ez⟩:=blk10 HZZ.out.2;have hgr:g≠w.heap.size+1:=by omega
  obtain ⟨r0,r1,r2,r3,r4,r5,r6,r7,r8,r9,rz⟩:=blk10 (Ze HW.out.b1 HBZ.out);go_region
  go_wp2_with fail
  obtain ⟨FW0,hFW,HF0⟩:=Zz HW.out HBZ.out HOZ.out nx;unfold stS st10 at hFW;rw [hFW];obtain ⟨FW,hFD⟩:∃ FW,FW0.drew=FW:=⟨_,rfl⟩;have HF:Hid (FW.heap[w.heap.size+1]?=some (bW D v nx Y5 ho5 hc5)∧Below w.heap.size w FW∧OwnW W.heap.size FW D v Y5 ho5 hc5):=by rw [←hFD];exact ⟨HF0.out.1,HF0.out.2.1.drew,⟨HF0.out.2.2.p.drew,HF0.out.2.2.s.drew,HF0.out.2.2.q.drew,HF0.out.2.2.t.drew,HF0.out.2.2.h.drew⟩⟩
  rw [hFD];obtain ⟨f0,f1,f2,f3,f4,f5,f6,f7,f8,f9,fz⟩:=blk10 HF.out.1;clear hFW hFD;refine bodyPost_ret (v:=.tuple #[wdA D v nx Y5 ho5 hc5,.int .i64 (D.plan.length:Int),.int .i64 0,.int .i64 0]) (by simp [results,Tryz.results16,go_sem,f0,f1,f2,f3,f4,f5,f6,f7,f8,f9]) rfl ?_;rw [HQ.out];exact ⟨v,ho5,hc5,rfl,Z2 (HF.out.2.2.mono (by omega)) HF.out.2.1⟩
 ·have HQ:Hid (rReload S nx Y ⟨(tb,tps),er,at'⟩=⟨S,nx,Y,0,er,at'⟩):=by
   show _=_;unfold rReload;rw [if_neg (by rw [HP.out];simp),if_pos (by simp;omega)]
  have her2:((er:Int) != 0)=true:=by simp;omega
  obtain ⟨r0,r1,r2,r3,r4,r5,r6,r7,r8,r9,rz⟩:=blk10 (Ze HW.out.b1 HV.out.2.2.1);go_wp2_with fail
  obtain ⟨FW,hFW,HF⟩:=ZE HW.out HV.out.2.2.1 S u nx Y ho hc;unfold stS st10 at hFW;rw [hFW];obtain ⟨f0,f1,f2,f3,f4,f5,f6,f7,f8,f9,fz⟩:=blk10 HF.out.1;clear hFW;refine bodyPost_ret (v:=.tuple #[wdA S u nx Y ho hc,.int .i64 0,.int .i64 (er:Int),.int .i64 (at':Int)]) (by simp [results,Tryz.results16,go_sem,f0,f1,f2,f3,f4,f5,f6,f7,f8,f9]) rfl ?_;rw [HQ.out];exact ⟨u,ho,hc,rfl,RefG.same HH.out HF.out.2⟩
theorem xAbort0 (S:Sta) (u:Stv) (nx:Int) (Y:Int×List Pl) (ho:Option Addr) (hc:Nat) (w:World) (h:WdAt w S u Y ho hc) (hp:S.plan.length=0) :
  Calls Tryz.prog 20 #[wdA S u nx Y ho hc] w fun e w'=>TurnG w w' S u Y ho hc (rAbort S nx Y) e:=by
 obtain ⟨W,HW⟩:=ZH w (bW S u nx Y ho hc);have HH:=hideIt h;have hl0:(S.plan.length:Int)=0:=by omega
 have HQ:Hid (rAbort S nx Y=⟨S,nx,Y,0,14,0⟩):=by show _=_;unfold rAbort;rw [if_pos hp]
 clear hp h;unfold wdA;go_enter Tryz.func20,Tryz.ntmps20
 go_upto_region 1 with fail
 rw [←HW.out.eq];obtain ⟨a0,a1,a2,a3,a4,a5,a6,a7,a8,a9,az⟩:=blk10 HW.out.b0;obtain ⟨r0,r1,r2,r3,r4,r5,r6,r7,r8,r9,rz⟩:=blk10 HW.out.b1;go_wp2_with fail
 obtain ⟨FW,hFW,HF⟩:=ZE HW.out (Below.refl _ W) S u nx Y ho hc;unfold stS st10 at hFW;rw [hFW];obtain ⟨f0,f1,f2,f3,f4,f5,f6,f7,f8,f9,fz⟩:=blk10 HF.out.1;clear hFW;refine bodyPost_ret (v:=.tuple #[wdA S u nx Y ho hc,.int .i64 0,.int .i64 14]) (by simp [results,Tryz.results20,go_sem,f0,f1,f2,f3,f4,f5,f6,f7,f8,f9]) rfl ?_;rw [HQ.out];exact ⟨u,ho,hc,rfl,RefG.same HH.out HF.out.2⟩
theorem xAbort1 (S:Sta) (u:Stv) (nx:Int) (Y:Int×List Pl) (ho:Option Addr) (hc:Nat) (w:World) (h:WdAt w S u Y ho hc) (hp:¬S.plan.length=0) (hb:S.back=true) :
  Calls Tryz.prog 20 #[wdA S u nx Y ho hc] w fun e w'=>TurnG w w' S u Y ho hc (rAbort S nx Y) e:=by
 obtain ⟨W,HW⟩:=ZH w (bW S u nx Y ho hc);have HH:=hideIt h;have hl0:¬(S.plan.length:Int)=0:=by omega
 have hl2:((S.plan.length:Int) == 0)=false:=by rw [beq_eq_false_iff_ne];omega
 have HQ:Hid (rAbort S nx Y=⟨S,nx,Y,0,17,0⟩):=by show _=_;unfold rAbort;rw [if_neg hp,if_pos hb]
 have HB:=hideIt hb;clear hb;clear hp h;unfold wdA;go_enter Tryz.func20,Tryz.ntmps20
 go_upto_region 1 with fail
 rw [←HW.out.eq];obtain ⟨a0,a1,a2,a3,a4,a5,a6,a7,a8,a9,az⟩:=blk10 HW.out.b0;obtain ⟨r0,r1,r2,r3,r4,r5,r6,r7,r8,r9,rz⟩:=blk10 HW.out.b1;rw [HB.out] at a6;go_upto_region 4 with fail
 rw [←HB.out] at a6;go_wp2_with fail
 obtain ⟨FW,hFW,HF⟩:=ZE HW.out (Below.refl _ W) S u nx Y ho hc;unfold stS st10 at hFW;rw [hFW];obtain ⟨f0,f1,f2,f3,f4,f5,f6,f7,f8,f9,fz⟩:=blk10 HF.out.1;clear hFW;refine bodyPost_ret (v:=.tuple #[wdA S u nx Y ho hc,.int .i64 0,.int .i64 17]) (by simp [results,Tryz.results20,go_sem,f0,f1,f2,f3,f4,f5,f6,f7,f8,f9]) rfl ?_;rw [HQ.out];exact ⟨u,ho,hc,rfl,RefG.same HH.out HF.out.2⟩
theorem xAbort2 (S:Sta) (u:Stv) (nx:Int) (Y:Int×List Pl) (ho:Option Addr) (hc:Nat) (w:World) (h:WdAt w S u Y ho hc) (hm:Sml S Y) (hp:¬S.plan.length=0) (hb:S.back=false) (hp6:S.pools.length≤6) (hy6:Y.2.length≤6) (hy0:∀ p∈Y.2,0≤p.sz) :
  Calls Tryz.prog 20 #[wdA S u nx Y ho hc] w fun e w'=>TurnG w w' S u Y ho hc (rAbort S nx Y) e:=by
 obtain ⟨W,HW⟩:=ZH w (bW S u nx Y ho hc);have HH:=hideIt h;have HM:=hideIt hm;have hW:w.heap.size+2≤W.heap.size:=by rw [HW.out.eq];simp
 have hl0:¬(S.plan.length:Int)=0:=by omega
 have hl2:((S.plan.length:Int) == 0)=false:=by rw [beq_eq_false_iff_ne];omega
 have HP:=hideIt hp;have HB:=hideIt hb;have HCO:=hideIt (xCopied S u nx Y ho hc W (h.nx HW.out.bel).rows hm);have HST:=hideIt (fun v (hb:Below W.heap.size W v)=>Df.rSteps S.bud u.po _ u.pc S.pools Y.1 ho _ hc Y.2 v ((h.nx HW.out.bel).nx hb).sta.p rfl hp6 ((h.nx HW.out.bel).nx hb).hom rfl hy6 hy0);obtain ⟨L,hL⟩:∃ L,Df.diffL S.bud S.pools Y.1 Y.2=L:=⟨_,rfl⟩;rw [hL] at HST;have HQ:Hid (rAbort S nx Y=⟨{S with plan:=L,begun:=false,back:=anyS L},nx,Y,L.length,0,0⟩):=by
  show _=_;unfold rAbort;rw [if_neg hp,if_neg (by rw [hb];simp),hL]
 clear hp h hm hL hb;unfold wdA;go_enter Tryz.func20,Tryz.ntmps20
 go_upto_region 1 with fail
 rw [←HW.out.eq];obtain ⟨a0,a1,a2,a3,a4,a5,a6,a7,a8,a9,az⟩:=blk10 HW.out.b0;rw [HB.out] at a6;go_upto_region 5 with fail
 rw [←HB.out] at a6;go_wp2_with fail
 refine HCO.out.mono ?_;rintro e w2 ⟨u1,ho1,hc1,rfl,o1,hb2⟩;obtain ⟨U,hU,HU⟩:=ZS o1 nx;obtain ⟨g,hg⟩:∃ g,w2.heap.size=g:=⟨_,rfl⟩;have HBU:=hideIt (Za hb2 HU.out.2.2.1);have hWg:W.heap.size≤g:=by rw [←hg];exact hb2.size
 rw [hg] at HU;have HG:=hideIt hg;clear hU o1 hb2 hg a0 a1 a2 a3 a4 a5 a6 a7 a8 a9 az;go_upto_region 6 with fail
 rw [←HU.out.1,HG.out];obtain ⟨a0,a1,a2,a3,a4,a5,a6,a7,a8,a9,az⟩:=blk10 (Ze HW.out.b0 HBU.out);obtain ⟨e0,e1,e2,e3,e4,e5,e6,e7,e8,e9,ez⟩:=blk10 HU.out.2.1;go_wp2_with fail
 refine (HST.out U HBU.out).mono ?_;rintro e w3 ⟨lo,lc,rfl,ol,hb3⟩;have hx3:=Ze HU.out.2.1 hb3;obtain ⟨D,hD⟩:∃ D,{S with plan:=L,begun:=false,back:=anyS L}=D:=⟨_,rfl⟩;obtain ⟨v,hv⟩:∃ v:Stv,(⟨u1.po,u1.pc,u1.so,u1.sc,u1.wo,u1.wc,lo,lc⟩:Stv)=v:=⟨_,rfl⟩;obtain ⟨lb,hlb⟩:∃ b,anyS L=b:=⟨_,rfl⟩;have hlc:decide (0<(L.length:Int))=lb:=by
  rw [←hlb];unfold anyS;by_cases h:L.length=0
  ·simp [h]
  ·simp [h];omega
 have hlc2:decide (0<L.length)=lb:=by rw [←hlc];simp
 obtain ⟨X,hX⟩:∃ X,X=((w3.setCell ⟨g,4,none⟩ (.slice lo L.length lc)).setCell ⟨g,5,none⟩ (.bool false)).setCell ⟨g,6,none⟩ (.bool lb):=⟨_,rfl⟩;have h4:=ZbE hx3 (.slice lo L.length lc);have h5:=Za7 h4 (.bool false);have HXX:Hid (X=((w3.setCell ⟨g,4,none⟩ (.slice lo L.length lc)).setCell ⟨g,5,none⟩ (.bool false)).setCell ⟨g,6,none⟩ (.bool lb)∧X.heap[g]?=some (bW D v nx Y ho1 hc1)):=by
  refine ⟨hX,?_⟩;rw [hX,←hD,←hv,←hlb];exact ZbF h5 _
 have HBX:Hid (Below W.heap.size W X):=by
  rw [hX];have hb:=Za HBU.out hb3;exact ((hb.setCell (by show W.heap.size≤g;omega) _).setCell (by show W.heap.size≤g;omega) _).setCell (by show W.heap.size≤g;omega) _
 have HOX:Hid (OwnW W.heap.size X D v Y ho1 hc1):=by
  have h0:OwnW W.heap.size w3 D v Y ho1 hc1:=by
   rw [←hD,←hv];have hu:=HU.out.2.2.2.nx hb3;exact ⟨hu.p,hu.s,hu.q,Zi ol HBU.out.size,hu.h⟩
  rw [hX];exact ((h0.st1 hx3 _).st1 h4 _).st1 h5 _
 have HDL:Hid (L.length=D.plan.length):=by rw [←hD];exact rfl
 rw [hD,HDL.out] at HQ;clear ol hX hD hv hlb a0 a1 a2 a3 a4 a5 a6 a7 a8 a9 az e0 e1 e2 e3 e4 e5 e6 e7 e8 e9 ez h4 h5 hb3;obtain ⟨e0,e1,e2,e3,e4,e5,e6,e7,e8,e9,ez⟩:=blk10 hx3;clear hx3;go_upto_region 9 with fail
 rw [←HXX.out.1];clear e0 e1 e2 e3 e4 e5 e6 e7 e8 e9 ez hlc hlc2;obtain ⟨e0,e1,e2,e3,e4,e5,e6,e7,e8,e9,ez⟩:=blk10 HXX.out.2;have hgr:g≠w.heap.size+1:=by omega
 obtain ⟨r0,r1,r2,r3,r4,r5,r6,r7,r8,r9,rz⟩:=blk10 (Ze HW.out.b1 HBX.out);go_region
 go_wp2_with fail
 obtain ⟨FW0,hFW,HF0⟩:=Zz HW.out HBX.out HOX.out nx;unfold stS st10 at hFW;rw [hFW];obtain ⟨FW,hFD⟩:∃ FW,FW0.drew=FW:=⟨_,rfl⟩;have HF:Hid (FW.heap[w.heap.size+1]?=some (bW D v nx Y ho1 hc1)∧Below w.heap.size w FW∧OwnW W.heap.size FW D v Y ho1 hc1):=by rw [←hFD];exact ⟨HF0.out.1,HF0.out.2.1.drew,⟨HF0.out.2.2.p.drew,HF0.out.2.2.s.drew,HF0.out.2.2.q.drew,HF0.out.2.2.t.drew,HF0.out.2.2.h.drew⟩⟩
 rw [hFD];obtain ⟨f0,f1,f2,f3,f4,f5,f6,f7,f8,f9,fz⟩:=blk10 HF.out.1;clear hFW hFD;refine bodyPost_ret (v:=.tuple #[wdA D v nx Y ho1 hc1,.int .i64 (D.plan.length:Int),.int .i64 0]) (by simp [results,Tryz.results20,go_sem,f0,f1,f2,f3,f4,f5,f6,f7,f8,f9]) rfl ?_;rw [HQ.out];exact ⟨v,ho1,hc1,rfl,Z2 (HF.out.2.2.mono (by omega)) HF.out.2.1⟩
structure Fine (S:Sta) (op:Int):Prop where
 inv:Inv S op
 wc:∀ y∈S.wts,1≤y.client∧y.client≤99
 sc:∀ x∈S.srv,0≤x.client∧x.client≤99
 one:S.srv.Pairwise (fun a b=>a.client=b.client→a.client=0)
 sep:∀ x∈S.srv,∀ y∈S.wts,x.client≠y.client
 sur:∀ x∈S.srv,x.client=0→isSur S x=false
theorem ZbH {S:Sta} {s:Srv}:isSur S s=false↔∃ x,S.pools.find? (isNameP s.pool)=some x∧s.far=x.fr∧(cntG (isPoolV s.pool) S.srv:Int)≤x.sz∧(S.srv.length:Int)≤S.bud:=by
 unfold isSur;cases h:S.pools.find? (isNameP s.pool) with
 | none=>simp
 | some x=>simp [Int.not_lt,and_assoc]
theorem Zd9 {p:Srv→Bool} {f:Srv→Srv} (hf:∀ x,p (f x)=p x) (l:List Srv):cntG p (l.map f)=cntG p l:=by
 unfold cntG;rw [List.filter_map,List.length_map];congr 2;funext x
 exact hf x
theorem ZbG {α:Type} {p:α→Bool} {l m:List α} (h:l.Sublist m):cntG p l≤cntG p m:=(h.filter p).length_le
theorem Zb3 {S T:Sta} {s:Srv} (hp:T.pools=S.pools) (hb:T.bud=S.bud) (hc:cntG (isPoolV s.pool) T.srv≤cntG (isPoolV s.pool) S.srv) (hl:T.srv.length≤S.srv.length) (h:isSur S s=false):isSur T s=false:=by
 obtain ⟨x,h1,h2,h3,h4⟩:=ZbH.1 h;exact ZbH.2 ⟨x,by rw [hp];exact h1,h2,by omega,by rw [hb];omega⟩
theorem ZO {b:Bool} (h:¬b=true):b=false:=by cases b <;> simp_all
structure Gvn (S T:Sta) (op op':Int) (c:Wtr):Prop where
 fine:Fine (cQuit T c.client) op'
 has:∃ x∈T.srv,x.client=c.client
 keep:∀ x∈S.srv,x.client≠0→x∈T.srv
 new:∀ x∈T.srv,x.client≠0→x∈S.srv∨x.client=c.client
 rest:T.pools=S.pools∧T.bud=S.bud∧T.plan=S.plan∧T.begun=S.begun∧T.back=S.back
 wts:T.wts=S.wts
 op:op≤op'∧op'≤op+1
 far:∀ x∈T.srv,(∃ z∈S.srv,x.id=z.id∧x.pool=z.pool∧x.far=z.far)∨∃ p,S.pools.find? (isNameP c.pool)=some p∧x.pool=p.nm∧x.far=p.fr
 cnt:∀ nm,cntG (isPoolV nm) T.srv≤cntG (isPoolV nm) S.srv∨∃ p,S.pools.find? (isNameP nm)=some p∧(cntG (isPoolV nm) T.srv:Int)≤p.sz
 len:T.srv.length≤S.srv.length∨(T.srv.length:Int)≤S.bud
theorem ZeR {ps:List Pl} {n m:ByteArray} (h:n.toList=m.toList):ps.find? (isNameP n)=ps.find? (isNameP m):=by
 have:isNameP n=isNameP m:=by funext x;unfold isNameP;rw [h]
 rw [this]
theorem ZiS {l:List Srv} {n m:ByteArray} (h:n.toList=m.toList):cntG (isPoolV n) l=cntG (isPoolV m) l:=by
 have:isPoolV n=isPoolV m:=by funext x;unfold isPoolV;rw [h]
 rw [this]
theorem ZaW {α:Type} {p:α→Bool} {l:List α} (h:l.find? p=none):∀ x∈l,p x=false:=by
 intro x hx;have:=List.find?_eq_none.1 h x hx;exact ZO this
theorem ZcZ {S:Sta} {op:Int} (hF:Fine S op) {c:Wtr} (hc:c∈S.wts) {x:Pl} (hx:S.pools.find? (isNameP c.pool)=some x) (hi:∀ s∈S.srv,(isPoolV x.nm s&&isCliV 0 s)=false) {ss:List Srv} (hss:ss.Sublist S.srv) (hl:(ss.length:Int)+1≤S.bud)
  (hk:∀ x∈S.srv,x.client≠0→x∈ss) (hz:(cntG (isPoolV x.nm) ss:Int)<x.sz):Gvn S {S with srv:=ss++[⟨op+1,x.nm,x.fr,c.client⟩]} op (op+1) c:=by
 have hcc:=hF.wc c hc;have hnm:=Zbu hx;have hcnt:∀ s∈S.srv,s.client=0→cntG (isPoolV s.pool) (ss++[(⟨op+1,x.nm,x.fr,c.client⟩:Srv)])≤cntG (isPoolV s.pool) S.srv:=by
  intro s hs h0;have h1:=hi s hs;have h2:isCliV 0 s=true:=by unfold isCliV;simp [h0]
  rw [h2,Bool.and_true] at h1;have h3:isPoolV s.pool ⟨op+1,x.nm,x.fr,c.client⟩=false:=by
   unfold isPoolV at h1 ⊢;simp only at h1 ⊢;exact ZO (fun h=>by have:=eq_of_beq h;rw [this] at h1;simp at h1)
  unfold cntG;rw [List.filter_append,List.length_append];simp only [List.filter_cons,h3,Bool.false_eq_true,if_false,List.filter_nil,List.length_nil,Nat.add_zero];exact (hss.filter _).length_le
 refine ⟨⟨⟨?_,?_,by have:=hF.inv.op0;omega,hF.inv.cli.sublist List.filter_sublist⟩,?_,?_,?_,?_,?_⟩,⟨_,List.mem_append_right _ (List.mem_singleton.2 rfl),rfl⟩,fun y hy h0=>List.mem_append_left _ (hk y hy h0),?_,⟨rfl,rfl,rfl,rfl,rfl⟩,rfl,by omega,?_,?_,?_⟩
 ·show (ss++[_]).Pairwise _;rw [List.pairwise_append];refine ⟨hF.inv.ids.sublist hss,by simp,fun a ha b hb=>?_⟩;simp only [List.mem_singleton] at hb;subst hb;have:=hF.inv.low a (hss.subset ha);show a.id<op+1;omega
 ·intro y hy;rcases List.mem_append.1 hy with hy | hy
  ·have:=hF.inv.low y (hss.subset hy);omega
  ·simp only [List.mem_singleton] at hy;subst hy;have:=hF.inv.op0;show 1≤op+1∧op+1≤op+1;omega
 ·exact fun y hy=>hF.wc y (List.mem_filter.1 hy).1
 ·intro y hy;rcases List.mem_append.1 hy with hy | hy
  ·exact hF.sc y (hss.subset hy)
  ·simp only [List.mem_singleton] at hy;subst hy;show 0≤c.client∧c.client≤99;omega
 ·show (ss++[_]).Pairwise _;rw [List.pairwise_append];refine ⟨hF.one.sublist hss,by simp,fun a ha b hb h=>?_⟩;simp only [List.mem_singleton] at hb;subst hb;exact absurd h (hF.sep a (hss.subset ha) c hc)
 ·intro y hy z hz;obtain ⟨hz1,hz2⟩:=List.mem_filter.1 hz;rcases List.mem_append.1 hy with hy | hy
  ·exact hF.sep y (hss.subset hy) z hz1
  ·simp only [List.mem_singleton] at hy;subst hy;intro h;simp only [Bool.not_eq_true',decide_eq_false_iff_not] at hz2;exact hz2 h.symm
 ·intro y hy h0;rcases List.mem_append.1 hy with hy | hy
  ·obtain ⟨p,h1,h2,h3,h4⟩:=ZbH.1 (hF.sur y (hss.subset hy) h0);refine ZbH.2 ⟨p,h1,h2,?_,?_⟩
   ·have:=hcnt y (hss.subset hy) h0;show ((cntG (isPoolV y.pool) (ss++[_]):Nat):Int)≤_;omega
   ·show (((ss++[_]).length:Nat):Int)≤S.bud;rw [List.length_append];simp only [List.length_singleton];omega
  ·simp only [List.mem_singleton] at hy;subst hy;have:c.client=0:=h0;omega
 ·intro y hy _;rcases List.mem_append.1 hy with hy | hy
  ·exact .inl (hss.subset hy)
  ·simp only [List.mem_singleton] at hy;subst hy;exact .inr rfl
 ·intro y hy;rcases List.mem_append.1 hy with hy | hy
  ·exact .inl ⟨y,hss.subset hy,rfl,rfl,rfl⟩
  ·simp only [List.mem_singleton] at hy;subst hy;exact .inr ⟨x,hx,rfl,rfl⟩
 ·intro nm;by_cases hn:x.nm.toList=nm.toList
  ·right;refine ⟨x,by rw [←ZeR (show c.pool.toList=nm.toList by rw [←hnm];exact hn)];exact hx,?_⟩;show ((cntG (isPoolV nm) (ss++[_]):Nat):Int)≤_;rw [ZiS hn.symm];have h3:cntG (isPoolV x.nm) (ss++[(⟨op+1,x.nm,x.fr,c.client⟩:Srv)])≤cntG (isPoolV x.nm) ss+1:=by
    unfold cntG;rw [List.filter_append,List.length_append];have:=List.length_filter_le (isPoolV x.nm) [(⟨op+1,x.nm,x.fr,c.client⟩:Srv)];simp only [List.length_singleton] at this;omega
   omega
  ·left;show cntG (isPoolV nm) (ss++[_])≤_;unfold cntG;rw [List.filter_append,List.length_append];have h3:isPoolV nm ⟨op+1,x.nm,x.fr,c.client⟩=false:=ZO (fun h=>hn (eq_of_beq h));simp only [List.filter_cons,h3,Bool.false_eq_true,if_false,List.filter_nil,List.length_nil,Nat.add_zero];exact (hss.filter _).length_le
 ·right;show (((ss++[_]).length:Nat):Int)≤S.bud;rw [List.length_append];simp only [List.length_singleton];omega
theorem ZhY {S:Sta} {op:Int} (hF:Fine S op) {c:Wtr} (hc:c∈S.wts) {y:Sta×Int} (h:cGive S op c=some y):Gvn S y.1 op y.2 c:=by
 have hcc:=hF.wc c hc;unfold cGive at h;cases hx:S.pools.find? (isNameP c.pool) with
 | none=>rw [hx] at h;simp at h
 | some x =>
  rw [hx] at h;simp only at h;cases hs:S.srv.find? (fun s=>isPoolV x.nm s&&isCliV 0 s) with
  | some s =>
   rw [hs] at h;simp only [Option.some.injEq] at h;subst h;have hsm:=List.mem_of_find?_eq_some hs;have hsp:=List.find?_some hs;simp only [Bool.and_eq_true] at hsp;have hs0:s.client=0:=by have:=hsp.2;unfold isCliV at this;exact eq_of_beq this
   have hfp:∀ (p:ByteArray) (z:Srv),isPoolV p (if z.id=s.id then {z with client:=c.client} else z)=isPoolV p z:=by
    intro p z;split <;> rfl
   have hids:∀ z∈S.srv,z.id=s.id→z=s:=fun z hz e=>by
    have hp:=hF.inv.ids;obtain ⟨i,hi,rfl⟩:=List.getElem_of_mem hz;obtain ⟨j,hj,rfl⟩:=List.getElem_of_mem hsm;rw [List.pairwise_iff_getElem] at hp;rcases Nat.lt_trichotomy i j with h | h | h
    ·have:=hp i j hi hj h;omega
    ·subst h;rfl
    ·have:=hp j i hj hi h;omega
   have hcl:∀ a:Srv,(if a.id=s.id then {a with client:=c.client} else a).client=if a.id=s.id then c.client else a.client:=fun a=>by split <;> rfl
   refine ⟨⟨⟨?_,?_,hF.inv.op0,hF.inv.cli.sublist List.filter_sublist⟩,?_,?_,?_,?_,?_⟩,?_,?_,?_,⟨rfl,rfl,rfl,rfl,rfl⟩,rfl,by simp only;omega,?_,?_,?_⟩
   ·show (S.srv.map _).Pairwise _;rw [List.pairwise_map];refine hF.inv.ids.imp (fun {a b} hab=>?_);have e1:∀ a:Srv,(if a.id=s.id then {a with client:=c.client} else a).id=a.id:=fun a=>by split <;> rfl
    rw [e1,e1];exact hab
   ·intro z hz;obtain ⟨a,ha,rfl⟩:=List.mem_map.1 hz;have e1:(if a.id=s.id then {a with client:=c.client} else a).id=a.id:=by split <;> rfl
    rw [e1];exact hF.inv.low a ha
   ·exact fun z hz=>hF.wc z (List.mem_filter.1 hz).1
   ·intro z hz;obtain ⟨a,ha,rfl⟩:=List.mem_map.1 hz;rw [hcl];have:=hF.sc a ha;split <;> omega
   ·show (S.srv.map _).Pairwise _;rw [List.pairwise_map];refine (List.pairwise_iff_forall_sublist.2 (fun {a b} hab=>?_));have ha:a∈S.srv:=hab.subset (by simp);have hb:b∈S.srv:=hab.subset (by simp);have h1:a.client=b.client→a.client=0:=List.pairwise_iff_forall_sublist.1 hF.one hab;have h2:a.id<b.id:=List.pairwise_iff_forall_sublist.1 hF.inv.ids hab;rw [hcl,hcl];intro h;by_cases e1:a.id=s.id
    ·have e2:¬b.id=s.id:=by omega
     rw [if_pos e1,if_neg e2] at h;exact absurd h.symm (hF.sep b hb c hc)
    ·rw [if_neg e1] at h ⊢;by_cases e2:b.id=s.id
     ·rw [if_pos e2] at h;exact absurd h (hF.sep a ha c hc)
     ·rw [if_neg e2] at h;exact h1 h
   ·intro z hz v hv;obtain ⟨hv1,hv2⟩:=List.mem_filter.1 hv;simp only [Bool.not_eq_true',decide_eq_false_iff_not] at hv2;obtain ⟨a,ha,rfl⟩:=List.mem_map.1 hz;rw [hcl];split
    ·exact fun h=>hv2 h.symm
    ·exact hF.sep a ha v hv1
   ·intro z hz h0;obtain ⟨a,ha,rfl⟩:=List.mem_map.1 hz;rw [hcl] at h0;have hne:¬a.id=s.id:=fun e=>by rw [if_pos e] at h0;omega
    rw [if_neg hne] at h0 ⊢;refine Zb3 (S:=S) rfl rfl ?_ ?_ (hF.sur a ha h0)
    ·exact Nat.le_of_eq (Zd9 (hfp _) _)
    ·exact Nat.le_of_eq (by show (S.srv.map _).length=_;rw [List.length_map])
   ·exact ⟨_,List.mem_map.2 ⟨s,hsm,rfl⟩,by rw [hcl,if_pos rfl]⟩
   ·intro z hz h0;refine List.mem_map.2 ⟨z,hz,if_neg (fun e=>h0 ?_)⟩;rw [hids z hz e];exact hs0
   ·intro z hz h0;obtain ⟨a,ha,rfl⟩:=List.mem_map.1 hz;by_cases e:a.id=s.id
    ·right;rw [hcl,if_pos e]
    ·left;rw [if_neg e];exact ha
   ·intro z hz;obtain ⟨a,ha,rfl⟩:=List.mem_map.1 hz;exact .inl ⟨a,ha,by split <;> rfl,by split <;> rfl,by split <;> rfl⟩
   ·exact fun nm=>.inl (Nat.le_of_eq (Zd9 (hfp _) _))
   ·exact .inl (Nat.le_of_eq (by show (S.srv.map _).length=_;rw [List.length_map]))
  | none =>
   rw [hs] at h;simp only at h;by_cases hz:x.sz≤(cntG (isPoolV x.nm) S.srv:Int)
   ·rw [if_pos hz] at h;simp at h
   ·rw [if_neg hz] at h;by_cases hb:(S.srv.length:Int)<S.bud
    ·rw [if_pos hb] at h;simp only [Option.some.injEq] at h;subst h;exact ZcZ hF hc hx (ZaW hs) (List.Sublist.refl _) (by omega) (fun _ h _=>h) (by omega)
    ·rw [if_neg hb] at h;cases hs2:S.srv.find? (isCliV 0) with
     | none=>rw [hs2] at h;simp at h
     | some s =>
      rw [hs2] at h;simp only at h;by_cases hbb:S.bud<(S.srv.length:Int)
      ·rw [if_pos hbb] at h;simp at h
      ·rw [if_neg hbb] at h;simp only [Option.some.injEq] at h;subst h;have hsm:=List.mem_of_find?_eq_some hs2;have hs0:s.client=0:=by have:=List.find?_some hs2;unfold isCliV at this;exact eq_of_beq this
       have hids:∀ z∈S.srv,z.id=s.id→z=s:=fun z hz e=>by
        have hp:=hF.inv.ids;obtain ⟨i,hi,rfl⟩:=List.getElem_of_mem hz;obtain ⟨j,hj,rfl⟩:=List.getElem_of_mem hsm;rw [List.pairwise_iff_getElem] at hp;rcases Nat.lt_trichotomy i j with h | h | h
        ·have:=hp i j hi hj h;omega
        ·subst h;rfl
        ·have:=hp j i hj hi h;omega
       have hlt:(S.srv.filter fun x=>!decide (x.id=s.id)).length<S.srv.length:=by
        rw [List.length_filter_lt_length_iff_exists];exact ⟨s,hsm,by simp⟩
       refine ZcZ hF hc hx (ZaW hs) (ss:=S.srv.filter fun x=>!decide (x.id=s.id)) List.filter_sublist (by omega) (fun z hz h0=>List.mem_filter.2 ⟨hz,?_⟩) ?_
       ·simp only [Bool.not_eq_true',decide_eq_false_iff_not];exact fun e=>h0 (by rw [hids z hz e];exact hs0)
       ·have:=ZbG (p:=isPoolV x.nm) (List.filter_sublist (p:=fun x:Srv=>!decide (x.id=s.id)) (l:=S.srv));omega
theorem Zh4 {S:Sta} {op:Int} {c d:Wtr} (h:c.pool=d.pool):(cGive S op c).isSome=(cGive S op d).isSome:=by
 unfold cGive;rw [h];cases S.pools.find? (isNameP d.pool) with
 | none=>rfl
 | some x =>
  simp only;cases S.srv.find? (fun s=>isPoolV x.nm s&&isCliV 0 s) with
  | some s=>rfl
  | none =>
   simp only;split
   ·rfl
   ·split
    ·rfl
    ·cases S.srv.find? (isCliV 0) with
     | none=>rfl
     | some s=>simp only;split <;> rfl
theorem Zc0 {S:Sta} {op:Int}:∀ {l:List Wtr} {y:Sta×Int},cFirst S op l=some y→∃ l1 c l2 z,l=l1++c :: l2∧(∀ d∈l1,cGive S op d=none)∧cGive S op c=some z∧y=(cQuit z.1 c.client,z.2)
 | [],y,h=>by simp [cFirst] at h
 | c :: r,y,h=>by
  rw [cFirst] at h;cases hc:cGive S op c with
  | some z =>
   rw [hc] at h;simp only [Option.some.injEq] at h;exact ⟨[],c,r,z,rfl,by simp,hc,h.symm⟩
  | none =>
   rw [hc] at h;obtain ⟨l1,d,l2,z,e,h1,h2,h3⟩:=Zc0 (l:=r) h;refine ⟨c :: l1,d,l2,z,by rw [e];rfl,fun v hv=>?_,h2,h3⟩;rcases List.mem_cons.1 hv with rfl | hv
   ·exact hc
   ·exact h1 v hv
theorem ZeS {α:Type}:∀ {l1 m1 l2 m2:List α} {c:α},l1++c :: l2=m1++c :: m2→c ∉ l1→c ∉ m1→l1=m1
 | [],[],_,_,_,_,_,_=>rfl
 | [],y :: r,l2,m2,c,h,_,hm=>by
  simp only [List.nil_append,List.cons_append,List.cons.injEq] at h;exact absurd (by rw [h.1];exact List.mem_cons_self) hm
 | x :: l,[],l2,m2,c,h,hl,_=>by
  simp only [List.nil_append,List.cons_append,List.cons.injEq] at h;exact absurd (by rw [←h.1];exact List.mem_cons_self) hl
 | x :: l,y :: r,l2,m2,c,h,hl,hm=>by
  simp only [List.cons_append,List.cons.injEq] at h;rw [h.1,ZeS h.2 (fun hh=>hl (List.mem_cons_of_mem _ hh)) (fun hh=>hm (List.mem_cons_of_mem _ hh))]
structure Srvd (S T:Sta) (op op':Int):Prop where
 fine:Fine T op'
 keep:∀ x∈S.srv,x.client≠0→x∈T.srv
 new:∀ x∈T.srv,x.client≠0→x∈S.srv∨∃ y∈S.wts,y.client=x.client
 sub:T.wts.Sublist S.wts
 gone:∀ l1 w l2,S.wts=l1++w :: l2→w ∉ T.wts→(∃ x∈T.srv,x.client=w.client)∧∀ v∈l1,v.pool=w.pool→v ∉ T.wts
 rest:T.pools=S.pools∧T.bud=S.bud∧T.plan=S.plan∧T.begun=S.begun∧T.back=S.back
 far:∀ x∈T.srv,(∃ z∈S.srv,x.id=z.id∧x.pool=z.pool∧x.far=z.far)∨∃ p∈S.pools,x.pool=p.nm∧x.far=p.fr
 cnt:∀ nm,cntG (isPoolV nm) T.srv≤cntG (isPoolV nm) S.srv∨∃ p,S.pools.find? (isNameP nm)=some p∧(cntG (isPoolV nm) T.srv:Int)≤p.sz
 len:T.srv.length≤S.srv.length∨(T.srv.length:Int)≤S.bud
theorem Srvd.refl {S:Sta} {op:Int} (h:Fine S op):Srvd S S op op:=
 ⟨h,fun _ hx _=>hx,fun _ hx _=>.inl hx,List.Sublist.refl _,fun l1 w l2 e hn=>absurd (by rw [e];simp) hn,⟨rfl,rfl,rfl,rfl,rfl⟩,fun x hx=>.inl ⟨x,hx,rfl,rfl,rfl⟩,fun _=>.inl (Nat.le_refl _),.inl (Nat.le_refl _)⟩
theorem Zjv {l:List Wtr} (h:l.Pairwise (fun a b=>a.client≠b.client)) {a b:Wtr} (ha:a∈l) (hb:b∈l) (e:a.client=b.client):a=b:=by
 obtain ⟨i,hi,rfl⟩:=List.getElem_of_mem ha;obtain ⟨j,hj,rfl⟩:=List.getElem_of_mem hb;rw [List.pairwise_iff_getElem] at h;rcases Nat.lt_trichotomy i j with hij | hij | hij
 ·exact absurd e (h i j hi hj hij)
 ·subst hij;rfl
 ·exact absurd e.symm (h j i hj hi hij)
theorem ZaD:∀ (f:Nat) (S:Sta) (op:Int),Fine S op→Srvd S (cServe f S op).1 op (cServe f S op).2
 | 0,S,op,h=>Srvd.refl h
 | f+1,S,op,hF=>by
  rw [cServe];cases hc:cFirst S op S.wts with
  | none=>exact Srvd.refl hF
  | some y =>
   obtain ⟨l1,c,l2,z,hl,hno,hg,rfl⟩:=Zc0 hc;simp only;have hcm:c∈S.wts:=by rw [hl];simp
   have G:=ZhY hF hcm hg;have hw:(cQuit z.1 c.client).wts=S.wts.filter (fun x=>!decide (x.client=c.client)):=by show z.1.wts.filter _=_;rw [G.wts]
   have ih:=ZaD f (cQuit z.1 c.client) z.2 G.fine;have hT:∀ v∈(cServe f (cQuit z.1 c.client) z.2).1.wts,v.client≠c.client:=fun v hv=>by
    have:=ih.sub.subset hv;rw [hw] at this;have:=(List.mem_filter.1 this).2;simpa using this
   refine ⟨ih.fine,fun x hx h0=>ih.keep x (G.keep x hx h0) h0,fun x hx h0=>?_,ih.sub.trans (by rw [hw];exact List.filter_sublist),fun m1 w m2 e hn=>?_,⟨ih.rest.1.trans G.rest.1,ih.rest.2.1.trans G.rest.2.1,ih.rest.2.2.1.trans G.rest.2.2.1,ih.rest.2.2.2.1.trans G.rest.2.2.2.1,ih.rest.2.2.2.2.trans G.rest.2.2.2.2⟩,fun x hx=>?_,fun nm=>?_,?_⟩
   ·rcases ih.new x hx h0 with h | ⟨y,hy,e⟩
    ·rcases G.new x h h0 with h | h
     ·exact .inl h
     ·exact .inr ⟨c,hcm,h.symm⟩
    ·rw [hw] at hy;exact .inr ⟨y,(List.mem_filter.1 hy).1,e⟩
   ·by_cases hwc:w.client=c.client
    ·have hwe:w=c:=Zjv hF.inv.cli (by rw [e];simp) hcm hwc;subst hwe;obtain ⟨x,hx,hx2⟩:=G.has;have hnd:∀ {a1 a2:List Wtr},S.wts=a1++w :: a2→w ∉ a1:=fun {a1 a2} ha hm=>by
      have hp:=hF.inv.cli;rw [ha,List.pairwise_append] at hp;exact hp.2.2 w hm w List.mem_cons_self rfl
     have hm:m1=l1:=ZeS (e.symm.trans hl) (hnd e) (hnd hl);refine ⟨⟨x,ih.keep x hx (by have:=hF.wc w hcm;omega),hx2⟩,fun v hv hp=>?_⟩;rw [hm] at hv;have h1:=Zh4 (S:=S) (op:=op) hp;rw [hno v hv,hg] at h1;simp at h1
    ·have hsplit:(cQuit z.1 c.client).wts=m1.filter (fun x=>!decide (x.client=c.client))++w :: m2.filter (fun x=>!decide (x.client=c.client)):=by
      rw [hw,e,List.filter_append,List.filter_cons,if_pos (by simpa using hwc)]
     obtain ⟨h1,h2⟩:=ih.gone _ w _ hsplit hn;refine ⟨h1,fun v hv hp hvT=>?_⟩;exact h2 v (List.mem_filter.2 ⟨hv,by simpa using hT v hvT⟩) hp hvT
   ·rcases ih.far x hx with ⟨a,ha,e1,e2,e3⟩ | ⟨p,hp,h⟩
    ·rcases G.far a ha with ⟨b,hb,f1,f2,f3⟩ | ⟨p,hp,h1,h2⟩
     ·exact .inl ⟨b,hb,e1.trans f1,e2.trans f2,e3.trans f3⟩
     ·exact .inr ⟨p,List.mem_of_find?_eq_some hp,e2.trans h1,e3.trans h2⟩
    ·exact .inr ⟨p,by rw [←G.rest.1];exact hp,h⟩
   ·rcases ih.cnt nm with h | ⟨p,hp,h⟩
    ·rcases G.cnt nm with h' | ⟨p,hp,h'⟩
     ·exact .inl (Nat.le_trans h h')
     ·exact .inr ⟨p,hp,by have:cntG (isPoolV nm) (cQuit z.1 c.client).srv=cntG (isPoolV nm) z.1.srv:=rfl;omega⟩
    ·exact .inr ⟨p,by rw [←G.rest.1];exact hp,h⟩
   ·have hb:(cQuit z.1 c.client).bud=S.bud:=G.rest.2.1;have hl2:(cQuit z.1 c.client).srv.length=z.1.srv.length:=rfl;rcases ih.len with h | h
    ·rcases G.len with h' | h'
     ·exact .inl (by omega)
     ·exact .inr (by omega)
    ·exact .inr (by omega)
end Lw
end Go.Proofs.YtcpikklofilkcaaGreat
