import Derived.Test.YtcpikklofilkcaaGreatNqAe
import Derived.Test.YtcpikklofilkcaaGreatNqAd
import Derived.Test.YtcpikklofilkcaaGreatNqAb
set_option maxRecDepth 100000
set_option maxHeartbeats 16000000
namespace Go.Proofs.YtcpikklofilkcaaGreat
open Go.RowKit
namespace Lw
open Co
structure Ent2 (w W:World) (o s:Obj):Prop where
 eq:W=((w.alloc o).alloc s).alloc zW
 b0:W.heap[w.heap.size]?=some o
 bs:W.heap[w.heap.size+1]?=some s
 b1:W.heap[w.heap.size+1+1]?=some zW
 bel:Below w.heap.size w W
theorem ZjI (w:World) (o s:Obj):∃ W,Hid (Ent2 w W o s):=
 ⟨_,rfl,((Zf _ _ (by simp;omega)).trans (Zf _ _ (by simp))).trans (Zc _ _ rfl),(Zf _ _ (by simp)).trans (Zc _ _ (by simp)),Zc _ _ (by simp),Za (Za (Zb _ _) (Zb _ _)) (Zb _ _)⟩
theorem fing {w W w1:World} {g:Nat} (hz:W.heap[g]?=some zW) (hbl:Below w.heap.size w W) (hg:w.heap.size≤g) (hb:Below W.heap.size W w1) {B:Nat} {S:Sta} {u:Stv} {Y:Int×List Pl} {ho:Option Addr} {hc:Nat} (hO:OwnW B w1 S u Y ho hc) (nx:Int):∃ FW,stS w1 g S u nx Y ho hc=FW∧Hid (FW.heap[g]?=some (bW S u nx Y ho hc)∧Below w.heap.size w FW∧OwnW B FW S u Y ho hc):=
 ⟨_,rfl,Zag (Ze hz hb) _ _ _ _ _ _ _ _ _ _,Zas (Za hbl hb) hg _ _ _ _ _ _ _ _ _ _,hO.st (Ze hz hb) _ _ _ _ _ _ _ _ _ _⟩
theorem ZaO:∀ (l:List Pl) (i:Nat) (x:Pl),l[i]?=some x →
  (∀ c,(flatP l).set (i*4+1) (.int .i64 c)=flatP (l.set i ⟨x.nm,c,x.wt,x.fr⟩))∧(∀ c,(flatP l).set (i*4+2) (.int .i64 c)=flatP (l.set i ⟨x.nm,x.sz,c,x.fr⟩))∧(∀ c,(flatP l).set (i*4+3) (.int .i64 c)=flatP (l.set i ⟨x.nm,x.sz,x.wt,c⟩))
 | [],i,x,h=>by simp at h
 | y :: l,0,x,h=>by
  obtain rfl:y=x:=by simpa using h
  exact ⟨fun c=>rfl,fun c=>rfl,fun c=>rfl⟩
 | y :: l,i+1,x,h=>by
  obtain ⟨h1,h2,h3⟩:=ZaO l i x (by simpa using h);refine ⟨fun c=>?_,fun c=>?_,fun c=>?_⟩
  ·rw [show (i+1)*4+1=(i*4+1)+1+1+1+1 by omega];show _ :: _ :: _ :: _ :: (flatP l).set (i*4+1) (.int .i64 c)=_ :: _ :: _ :: _ :: flatP (l.set i _);rw [h1]
  ·rw [show (i+1)*4+2=(i*4+2)+1+1+1+1 by omega];show _ :: _ :: _ :: _ :: (flatP l).set (i*4+2) (.int .i64 c)=_ :: _ :: _ :: _ :: flatP (l.set i _);rw [h2]
  ·rw [show (i+1)*4+3=(i*4+3)+1+1+1+1 by omega];show _ :: _ :: _ :: _ :: (flatP l).set (i*4+3) (.int .i64 c)=_ :: _ :: _ :: _ :: flatP (l.set i _);rw [h3]
theorem ZbU {B C gs i j:Nat} {w:World} {S D:Sta} {u:Stv} {Y:Int×List Pl} {ho:Option Addr} {hc:Nat} {n:Int} {x':Pl} (hO:OwnW C w S u Y ho hc) (hB:B≤C) (hap:∀ g,(Value.slice u.po S.pools.length u.pc).ownBlock=some g→(Value.slice ho Y.2.length hc).ownBlock≠some g) (hgo:u.po=some ⟨gs,0,none⟩) (hf:(flatP S.pools).set (i*4+j) (.int .i64 n)=flatP (S.pools.set i x'))
  (hD:D={S with pools:=S.pools.set i x'}):OwnW B (w.setCell ⟨gs,i*4+j,none⟩ (.int .i64 n)) D u Y ho hc:=by
 subst hD;have hv:(Value.slice u.po S.pools.length u.pc).ownBlock=some gs:=by rw [hgo];rfl
 have h:=hO.p;rw [hgo] at h;refine ⟨?_,Zi (Zr hO.s (Z0 hO.p hO.s (by decide) hv)) hB,Zi (Zr hO.q (Z0 hO.p hO.q (by decide) hv)) hB,Zi (Zr hO.t (Z0 hO.p hO.t (by decide) hv)) hB,Zi (Zr hO.h (hap gs hv)) hB⟩;show (w.setCell ⟨gs,i*4+j,none⟩ (.int .i64 n)).ownsRow B 70 4 (.slice u.po (S.pools.set i x').length u.pc) (S.pools.set i x').length (flatP (S.pools.set i x'));rw [←hf,List.length_set,hgo];have:=(h.stored (i*4+j) (.int .i64 n)).1;exact Zi (by simpa [Nat.add_assoc] using this) hB
theorem xBegun (B:Nat) (S:Sta) (u:Stv) (nx:Int) (Y:Int×List Pl) (ho:Option Addr) (hc:Nat) (k:Int) (nm:ByteArray) (n:Int) (w:World) (hO:OwnW B w S u Y ho hc) (hm:Sml S Y) (hm2:S.pools.length≤100) (hk:okKind k) (hn0:0≤n) (hi:k=1∨k=5∨k=6∨k=8→∃ i,S.pools.findIdx? (isNameP nm)=some i) :
  Calls Tryz.prog 51 #[wdA S u nx Y ho hc,stA k nm n] w fun e w'=>GaveS w.heap.size w w' (rBegin k nm n S) nx Y e:=by
 obtain ⟨W,HW⟩:=ZjI w (bW S u nx Y ho hc) (bSt k nm n);have HO:=hideIt (hO.nx HW.out.bel);have HM:=hideIt hm;have HHI:=hideIt hi;have HK:=hideIt hk;have hW:w.heap.size+3≤W.heap.size:=by rw [HW.out.eq];simp
 have HCO:=hideIt (xCopiedA S u nx Y ho hc W HO.out.rows hm);have HAT:=hideIt (fun v (hb:Below W.heap.size W v)=>rAt S.bud u.po _ u.pc nm S.pools v (Zd (HO.out.nx hb).p) rfl (by unfold maxLen;omega));clear hO hm hi hk;unfold wdA stA;go_enter Tryz.func51,Tryz.ntmps51
 go_wp2_with fail
 rw [←HW.out.eq];refine HCO.out.mono ?_;rintro e w1 ⟨u1,ho1,hc1,rfl,o1,hb1,hap⟩;obtain ⟨U,hU,HU⟩:=ZS o1 nx;obtain ⟨g,hg⟩:∃ g,w1.heap.size=g:=⟨_,rfl⟩;have HBU:=hideIt (Za hb1 HU.out.2.2.1);have hWg:W.heap.size≤g:=by rw [←hg];exact hb1.size
 have HAP:=hideIt hap;rw [hg] at HU;have HG:=hideIt hg;clear hU o1 hb1 hap hg;go_upto_region 2 with fail
 rw [←HU.out.1,HG.out];obtain ⟨a0,a1,a2,a3,a4,a5,a6,a7,a8,a9,az⟩:=blk10 (Ze HW.out.b0 HBU.out);obtain ⟨s0,s1,s2,sz⟩:=blk3d (Ze HW.out.bs HBU.out);go_wp2_with fail
 refine (HAT.out U HBU.out).mono ?_;rintro e w2 ⟨rfl,hb2⟩;have HB2:=hideIt (Za HBU.out hb2);have HX2:=hideIt (Ze HU.out.2.1 hb2);have HO2:=hideIt (HU.out.2.2.2.nx hb2);clear a0 a1 a2 a3 a4 a5 a6 a7 a8 a9 az s0 s1 s2 sz hb2;obtain ⟨s0,s1,s2,sz⟩:=blk3d (Ze HW.out.bs HB2.out);obtain ⟨r0,r1,r2,r3,r4,r5,r6,r7,r8,r9,rz⟩:=blk10 (Ze HW.out.b1 HB2.out);obtain ⟨e0,e1,e2,e3,e4,e5,e6,e7,e8,e9,ez⟩:=blk10 HX2.out;obtain ⟨h1,h8⟩:=HK.out;clear HK;rcases (by omega:k=1∨k=2∨k=3∨k=4∨k=5∨k=6∨k=7∨k=8) with rfl | rfl | rfl | rfl | rfl | rfl | rfl | rfl
 ·obtain ⟨i,hi⟩:=HHI.out (by simp);clear HHI h1 h8;obtain ⟨y,hy,_⟩:=ZP hi;have HI:=hideIt hi;have HY:=hideIt hy;rw [hi];unfold optI;have hkl:(i:Int)<(S.pools.length:Int):=by
   have:=(List.getElem?_eq_some_iff.1 hy).1;omega
  have h0k:(0:Int)≤(i:Int):=by omega
  obtain ⟨gs,gf,hgo,hgs,t0,t1,t2,t3⟩:=Zn (Zd HO2.out.p) hy;have hgf:gf=0:=by
   have h:=HO2.out.p;rw [hgo] at h;exact Zat h
  subst hgf;simp only [Nat.zero_add] at t0 t1 t2 t3;have HGO:=hideIt hgo;have hzf:∀ a,w2.frozen? ⟨gs,a,none⟩=false:=by
   have h:=HO2.out.p;rw [hgo] at h;exact fun a=>h.frozenAt a
  rw [hgo] at e1;obtain ⟨X,hX⟩:∃ X,X=w2.setCell ⟨gs,i*4+1,none⟩ (.int .i64 n):=⟨_,rfl⟩;obtain ⟨D,hD⟩:∃ D,tabS S (rTab 1 nm n S.bud S.pools)=D:=⟨_,rfl⟩;have HD:=hideIt hD;have hDD:D={S with pools:=S.pools.set i ⟨y.nm,n,y.wt,y.fr⟩}:=by
   rw [←hD];unfold tabS rTab;rw [if_neg (by decide),if_neg (by decide),if_neg (by decide),hi];simp only;rw [Zaf _ hy];rfl
  have HMD:Hid (Sml D Y):=by
   rw [hDD];refine ⟨?_,HM.out.s,HM.out.q,HM.out.t,HM.out.h⟩;show (S.pools.set i _).length≤1000;rw [List.length_set];exact HM.out.p
  have hGl:W.heap.size≤gs:=(HO2.out.p.lt gs (by rw [hgo];rfl)).1;have HBX:Hid (Below W.heap.size W X):=by rw [hX];exact HB2.out.setCell (by show W.heap.size≤gs;exact hGl) _
  have HOX:Hid (OwnW w.heap.size X D u1 Y ho1 hc1):=by
   rw [hX];exact ZbU HO2.out (by omega) HAP.out hgo ((ZaO S.pools i y hy).1 n) hDD
  have HXX:Hid (X=w2.setCell ⟨gs,i*4+1,none⟩ (.int .i64 n)∧X.heap[g]?=some (bW D u1 nx Y ho1 hc1)):=by
   refine ⟨hX,?_⟩;have hne:g≠gs:=fun e=>Zs HO2.out.p HX2.out (by decide) (by rw [hgo,e];rfl)
   rw [hX,hDD];show _=some (bWp (.slice u1.po (S.pools.set i _).length u1.pc) S u1 nx Y ho1 hc1);rw [List.length_set];exact (Below.heap_setCell _ _ _ _ hne).trans HX2.out
  obtain ⟨R,hR⟩:∃ R,rBegin 1 nm n S=R:=⟨_,rfl⟩;have HCA:Hid (Calls Tryz.prog 81 #[wdA D u1 nx Y ho1 hc1,.string nm,.bool false,.int .i64 n] X fun e w'=>GaveS w.heap.size X w' R nx Y e):=by
   have e:rTrim D nm false n=R:=by rw [←hR,←HD.out];rfl
   rw [←e];exact xTrim w.heap.size nm false n (D.srv.length+1) D u1 nx Y ho1 hc1 X (by have:=HBX.out.size;omega) HOX.out HMD.out (Nat.lt_succ_self _)
  have HRR:=hideIt hR;clear hR;clear hX hD hDD hi hy hgo;go_upto_region 6 with fail
  rw [←HXX.out.1];clear e0 e1 e2 e3 e4 e5 e6 e7 e8 e9 ez r0 r1 r2 r3 r4 r5 r6 r7 r8 r9 rz s0 s1 s2 sz;obtain ⟨a0,a1,a2,a3,a4,a5,a6,a7,a8,a9,az⟩:=blk10 HXX.out.2;obtain ⟨s0,s1,s2,sz⟩:=blk3d (Ze HW.out.bs HBX.out);go_wp2_with fail
  refine HCA.out.mono ?_;rintro e w5 ⟨u5,ho5,hc5,rfl,o5,hb5⟩;have HB5:=hideIt (Za HBX.out hb5);have HO5:=hideIt o5;clear o5 hb5 a0 a1 a2 a3 a4 a5 a6 a7 a8 a9 az s0 s1 s2 sz;obtain ⟨r0,r1,r2,r3,r4,r5,r6,r7,r8,r9,rz⟩:=blk10 (Ze HW.out.b1 HB5.out);go_wp2_with fail
  obtain ⟨FW,hFW,HF⟩:=fing HW.out.b1 HW.out.bel (by omega) HB5.out HO5.out (nx);unfold stS st10 at hFW;rw [hFW];obtain ⟨f0,f1,f2,f3,f4,f5,f6,f7,f8,f9,fz⟩:=blk10 HF.out.1;clear hFW;refine bodyPost_ret (v:=wdA R u5 nx Y ho5 hc5) (by simp [results,Tryz.results51,go_sem,f0,f1,f2,f3,f4,f5,f6,f7,f8,f9]) rfl ?_;rw [HRR.out];exact ⟨u5,ho5,hc5,rfl,HF.out.2.2,HF.out.2.1⟩
 ·clear HHI h1 h8;obtain ⟨R,hR⟩:∃ R,rBegin 2 nm n S=R:=⟨_,rfl⟩;have HCA:Hid (Calls Tryz.prog 82 #[wdA S u1 nx Y ho1 hc1,.string nm] w2 fun e w'=>GaveS w2.heap.size w2 w' R nx Y e):=by
   rw [←hR];exact xDropped _ S u1 nx Y ho1 hc1 nm w2 HO2.out HM.out
  have HRR:=hideIt hR;clear hR;generalize optI (List.findIdx? (isNameP nm) S.pools)=ip;go_wp2_with fail
  refine HCA.out.mono ?_;rintro e w5 ⟨u5,ho5,hc5,rfl,o5,hb5⟩;have HB5:=hideIt (Za HB2.out hb5);have HO5:=hideIt (o5.mono (show w.heap.size≤w2.heap.size by have:=HB2.out.size;omega));clear o5 hb5 e0 e1 e2 e3 e4 e5 e6 e7 e8 e9 ez r0 r1 r2 r3 r4 r5 r6 r7 r8 r9 rz s0 s1 s2 sz;obtain ⟨r0,r1,r2,r3,r4,r5,r6,r7,r8,r9,rz⟩:=blk10 (Ze HW.out.b1 HB5.out);go_wp2_with fail
  obtain ⟨FW,hFW,HF⟩:=fing HW.out.b1 HW.out.bel (by omega) HB5.out HO5.out (nx);unfold stS st10 at hFW;rw [hFW];obtain ⟨f0,f1,f2,f3,f4,f5,f6,f7,f8,f9,fz⟩:=blk10 HF.out.1;clear hFW;refine bodyPost_ret (v:=wdA R u5 nx Y ho5 hc5) (by simp [results,Tryz.results51,go_sem,f0,f1,f2,f3,f4,f5,f6,f7,f8,f9]) rfl ?_;rw [HRR.out];exact ⟨u5,ho5,hc5,rfl,HF.out.2.2,HF.out.2.1⟩
 ·clear HHI h1 h8;obtain ⟨X,hX⟩:∃ X,X=w2.setCell ⟨g,0,none⟩ (.int .i64 n):=⟨_,rfl⟩;obtain ⟨D,hD⟩:∃ D,tabS S (rTab 3 nm n S.bud S.pools)=D:=⟨_,rfl⟩;have HD:=hideIt hD;have hDD:D={S with bud:=n}:=by
   rw [←hD];unfold tabS rTab;rw [if_pos (by decide)]
  have HMD:Hid (Sml D Y):=by
   rw [hDD];exact ⟨HM.out.p,HM.out.s,HM.out.q,HM.out.t,HM.out.h⟩
  have HBX:Hid (Below W.heap.size W X):=by rw [hX];exact HB2.out.setCell (by show W.heap.size≤g;exact hWg) _
  have HOX:Hid (OwnW w.heap.size X D u1 Y ho1 hc1):=by
   rw [hX,hDD];have h:=(HO2.out.mono (show w.heap.size≤W.heap.size by omega)).st1 (a:=0) HX2.out (.int .i64 n);exact ⟨h.p,h.s,h.q,h.t,h.h⟩
  have HXX:Hid (X=w2.setCell ⟨g,0,none⟩ (.int .i64 n)∧X.heap[g]?=some (bW D u1 nx Y ho1 hc1)):=by
   refine ⟨hX,?_⟩;rw [hX,hDD];exact Za4 HX2.out _
  obtain ⟨R,hR⟩:∃ R,rBegin 3 nm n S=R:=⟨_,rfl⟩;have HCA:Hid (Calls Tryz.prog 81 #[wdA D u1 nx Y ho1 hc1,.string ⟨#[]⟩,.bool true,.int .i64 n] X fun e w'=>GaveS w.heap.size X w' R nx Y e):=by
   have e:rTrim D ⟨#[]⟩ true n=R:=by rw [←hR,←HD.out];rfl
   rw [←e];exact xTrim w.heap.size ⟨#[]⟩ true n (D.srv.length+1) D u1 nx Y ho1 hc1 X (by have:=HBX.out.size;omega) HOX.out HMD.out (Nat.lt_succ_self _)
  have HRR:=hideIt hR;clear hR;clear hX hD hDD;generalize optI (List.findIdx? (isNameP nm) S.pools)=ip;go_upto_region 11 with fail
  rw [←HXX.out.1];clear e0 e1 e2 e3 e4 e5 e6 e7 e8 e9 ez r0 r1 r2 r3 r4 r5 r6 r7 r8 r9 rz s0 s1 s2 sz;obtain ⟨a0,a1,a2,a3,a4,a5,a6,a7,a8,a9,az⟩:=blk10 HXX.out.2;obtain ⟨s0,s1,s2,sz⟩:=blk3d (Ze HW.out.bs HBX.out);go_wp2_with fail
  refine HCA.out.mono ?_;rintro e w5 ⟨u5,ho5,hc5,rfl,o5,hb5⟩;have HB5:=hideIt (Za HBX.out hb5);have HO5:=hideIt o5;clear o5 hb5 a0 a1 a2 a3 a4 a5 a6 a7 a8 a9 az s0 s1 s2 sz;obtain ⟨r0,r1,r2,r3,r4,r5,r6,r7,r8,r9,rz⟩:=blk10 (Ze HW.out.b1 HB5.out);go_wp2_with fail
  obtain ⟨FW,hFW,HF⟩:=fing HW.out.b1 HW.out.bel (by omega) HB5.out HO5.out (nx);unfold stS st10 at hFW;rw [hFW];obtain ⟨f0,f1,f2,f3,f4,f5,f6,f7,f8,f9,fz⟩:=blk10 HF.out.1;clear hFW;refine bodyPost_ret (v:=wdA R u5 nx Y ho5 hc5) (by simp [results,Tryz.results51,go_sem,f0,f1,f2,f3,f4,f5,f6,f7,f8,f9]) rfl ?_;rw [HRR.out];exact ⟨u5,ho5,hc5,rfl,HF.out.2.2,HF.out.2.1⟩
 ·clear HHI h1 h8;have HJ:=hideIt (ZdC S.bud ⟨nm,0,0,0⟩ u1.po u1.pc _ S.pools w2 (Zd HO2.out.p) rfl (by omega));generalize optI (List.findIdx? (isNameP nm) S.pools)=ip;go_wp2_with fail
  refine HJ.out.mono ?_;rintro e w3 ⟨vo,vc,rfl,ov,hb3⟩;have HB3:=hideIt (Za HB2.out hb3);have HX3:=hideIt (Ze HX2.out hb3);obtain ⟨q,hq⟩:∃ q,(insP ⟨nm,0,0,0⟩ S.pools).length=q:=⟨_,rfl⟩;obtain ⟨X,hX⟩:∃ X,X=(w3.setCell ⟨g,0,none⟩ (.int .i64 S.bud)).setCell ⟨g,1,none⟩ (.slice vo q vc):=⟨_,rfl⟩;obtain ⟨D,hD⟩:∃ D,tabS S (rTab 4 nm n S.bud S.pools)=D:=⟨_,rfl⟩;obtain ⟨v,hv⟩:∃ v:Stv,(⟨vo,vc,u1.so,u1.sc,u1.wo,u1.wc,u1.tqo,u1.tc⟩:Stv)=v:=⟨_,rfl⟩;have HD:=hideIt hD;have hDD:D={S with pools:=insP ⟨nm,0,0,0⟩ S.pools}:=by
   rw [←hD];unfold tabS rTab;rw [if_neg (by decide),if_neg (by decide),if_pos rfl]
  have HBX:Hid (Below W.heap.size W X):=by rw [hX];exact (HB3.out.setCell (by show W.heap.size≤g;exact hWg) _).setCell (by show W.heap.size≤g;exact hWg) _
  have HOX:Hid (OwnW w.heap.size X D v Y ho1 hc1):=by
   have h0:OwnW w.heap.size w3 D v Y ho1 hc1:=by
    rw [hDD,←hv];have h:=(HO2.out.nx hb3).mono (show w.heap.size≤W.heap.size by omega);exact ⟨Zi ov (by have:=HB2.out.size;omega),h.s,h.q,h.t,h.h⟩
   rw [hX];exact (h0.st1 HX3.out _).st1 (Za4 HX3.out _) _
  have HXX:Hid (X=(w3.setCell ⟨g,0,none⟩ (.int .i64 S.bud)).setCell ⟨g,1,none⟩ (.slice vo q vc)∧X.heap[g]?=some (bW D v nx Y ho1 hc1)):=by
   refine ⟨hX,?_⟩;rw [hX,hDD,←hv,←hq];exact ZcN (Za4 HX3.out _) _
  rw [hq];have HR:Hid (rBegin 4 nm n S=D):=by rw [←HD.out];exact rfl
  clear hX hD hDD hv hq ov hb3 e0 e1 e2 e3 e4 e5 e6 e7 e8 e9 ez r0 r1 r2 r3 r4 r5 r6 r7 r8 r9 rz s0 s1 s2 sz;obtain ⟨e0,e1,e2,e3,e4,e5,e6,e7,e8,e9,ez⟩:=blk10 HX3.out;obtain ⟨s0,s1,s2,sz⟩:=blk3d (Ze HW.out.bs HB3.out);obtain ⟨r0,r1,r2,r3,r4,r5,r6,r7,r8,r9,rz⟩:=blk10 (Ze HW.out.b1 HB3.out);go_upto_region 24 with fail
  rw [←HXX.out.1];clear e0 e1 e2 e3 e4 e5 e6 e7 e8 e9 ez r0 r1 r2 r3 r4 r5 r6 r7 r8 r9 rz s0 s1 s2 sz;obtain ⟨a0,a1,a2,a3,a4,a5,a6,a7,a8,a9,az⟩:=blk10 HXX.out.2;obtain ⟨s0,s1,s2,sz⟩:=blk3d (Ze HW.out.bs HBX.out);obtain ⟨r0,r1,r2,r3,r4,r5,r6,r7,r8,r9,rz⟩:=blk10 (Ze HW.out.b1 HBX.out);go_wp2_with fail
  obtain ⟨FW,hFW,HF⟩:=fing HW.out.b1 HW.out.bel (by omega) HBX.out HOX.out (nx);unfold stS st10 at hFW;rw [hFW];obtain ⟨f0,f1,f2,f3,f4,f5,f6,f7,f8,f9,fz⟩:=blk10 HF.out.1;clear hFW;refine bodyPost_ret (v:=wdA D v nx Y ho1 hc1) (by simp [results,Tryz.results51,go_sem,f0,f1,f2,f3,f4,f5,f6,f7,f8,f9]) rfl ?_;rw [HR.out];exact ⟨v,ho1,hc1,rfl,HF.out.2.2,HF.out.2.1⟩
 ·obtain ⟨i,hi⟩:=HHI.out (by simp);clear HHI h1 h8;obtain ⟨y,hy,_⟩:=ZP hi;have HI:=hideIt hi;have HY:=hideIt hy;rw [hi];unfold optI;have hkl:(i:Int)<(S.pools.length:Int):=by
   have:=(List.getElem?_eq_some_iff.1 hy).1;omega
  have h0k:(0:Int)≤(i:Int):=by omega
  obtain ⟨gs,gf,hgo,hgs,t0,t1,t2,t3⟩:=Zn (Zd HO2.out.p) hy;have hgf:gf=0:=by
   have h:=HO2.out.p;rw [hgo] at h;exact Zat h
  subst hgf;simp only [Nat.zero_add] at t0 t1 t2 t3;have HGO:=hideIt hgo;have hzf:∀ a,w2.frozen? ⟨gs,a,none⟩=false:=by
   have h:=HO2.out.p;rw [hgo] at h;exact fun a=>h.frozenAt a
  rw [hgo] at e1;obtain ⟨X,hX⟩:∃ X,X=w2.setCell ⟨gs,i*4+3,none⟩ (.int .i64 n):=⟨_,rfl⟩;obtain ⟨D,hD⟩:∃ D,tabS S (rTab 5 nm n S.bud S.pools)=D:=⟨_,rfl⟩;have HD:=hideIt hD;have hDD:D={S with pools:=S.pools.set i ⟨y.nm,y.sz,y.wt,n⟩}:=by
   rw [←hD];unfold tabS rTab;rw [if_neg (by decide),if_neg (by decide),if_neg (by decide),hi];simp only;rw [Zaf _ hy];rfl
  have HMD:Hid (Sml D Y):=by
   rw [hDD];refine ⟨?_,HM.out.s,HM.out.q,HM.out.t,HM.out.h⟩;show (S.pools.set i _).length≤1000;rw [List.length_set];exact HM.out.p
  have hGl:W.heap.size≤gs:=(HO2.out.p.lt gs (by rw [hgo];rfl)).1;have HBX:Hid (Below W.heap.size W X):=by rw [hX];exact HB2.out.setCell (by show W.heap.size≤gs;exact hGl) _
  have HOX:Hid (OwnW w.heap.size X D u1 Y ho1 hc1):=by
   rw [hX];exact ZbU HO2.out (by omega) HAP.out hgo ((ZaO S.pools i y hy).2.2 n) hDD
  have HXX:Hid (X=w2.setCell ⟨gs,i*4+3,none⟩ (.int .i64 n)∧X.heap[g]?=some (bW D u1 nx Y ho1 hc1)):=by
   refine ⟨hX,?_⟩;have hne:g≠gs:=fun e=>Zs HO2.out.p HX2.out (by decide) (by rw [hgo,e];rfl)
   rw [hX,hDD];show _=some (bWp (.slice u1.po (S.pools.set i _).length u1.pc) S u1 nx Y ho1 hc1);rw [List.length_set];exact (Below.heap_setCell _ _ _ _ hne).trans HX2.out
  obtain ⟨R,hR⟩:∃ R,rBegin 5 nm n S=R:=⟨_,rfl⟩;have HCA:Hid (Calls Tryz.prog 83 #[wdA D u1 nx Y ho1 hc1,.string nm,.int .i64 n] X fun e w'=>GaveS w.heap.size X w' R nx Y e):=by
   have e:rMove D nm n=R:=by rw [←hR,←HD.out];rfl
   rw [←e];exact xMove w.heap.size nm n (D.srv.length+1) D u1 nx Y ho1 hc1 X (by have:=HBX.out.size;omega) HOX.out HMD.out (Nat.lt_succ_self _)
  have HRR:=hideIt hR;clear hR;clear hX hD hDD hi hy hgo;go_upto_region 16 with fail
  rw [←HXX.out.1];clear e0 e1 e2 e3 e4 e5 e6 e7 e8 e9 ez r0 r1 r2 r3 r4 r5 r6 r7 r8 r9 rz s0 s1 s2 sz;obtain ⟨a0,a1,a2,a3,a4,a5,a6,a7,a8,a9,az⟩:=blk10 HXX.out.2;obtain ⟨s0,s1,s2,sz⟩:=blk3d (Ze HW.out.bs HBX.out);go_wp2_with fail
  refine HCA.out.mono ?_;rintro e w5 ⟨u5,ho5,hc5,rfl,o5,hb5⟩;have HB5:=hideIt (Za HBX.out hb5);have HO5:=hideIt o5;clear o5 hb5 a0 a1 a2 a3 a4 a5 a6 a7 a8 a9 az s0 s1 s2 sz;obtain ⟨r0,r1,r2,r3,r4,r5,r6,r7,r8,r9,rz⟩:=blk10 (Ze HW.out.b1 HB5.out);go_wp2_with fail
  obtain ⟨FW,hFW,HF⟩:=fing HW.out.b1 HW.out.bel (by omega) HB5.out HO5.out (nx);unfold stS st10 at hFW;rw [hFW];obtain ⟨f0,f1,f2,f3,f4,f5,f6,f7,f8,f9,fz⟩:=blk10 HF.out.1;clear hFW;refine bodyPost_ret (v:=wdA R u5 nx Y ho5 hc5) (by simp [results,Tryz.results51,go_sem,f0,f1,f2,f3,f4,f5,f6,f7,f8,f9]) rfl ?_;rw [HRR.out];exact ⟨u5,ho5,hc5,rfl,HF.out.2.2,HF.out.2.1⟩
 ·obtain ⟨i,hi⟩:=HHI.out (by simp);clear HHI h1 h8;obtain ⟨y,hy,_⟩:=ZP hi;have HI:=hideIt hi;have HY:=hideIt hy;rw [hi];unfold optI;have hkl:(i:Int)<(S.pools.length:Int):=by
   have:=(List.getElem?_eq_some_iff.1 hy).1;omega
  have h0k:(0:Int)≤(i:Int):=by omega
  obtain ⟨gs,gf,hgo,hgs,t0,t1,t2,t3⟩:=Zn (Zd HO2.out.p) hy;have hgf:gf=0:=by
   have h:=HO2.out.p;rw [hgo] at h;exact Zat h
  subst hgf;simp only [Nat.zero_add] at t0 t1 t2 t3;have HGO:=hideIt hgo;have hzf:∀ a,w2.frozen? ⟨gs,a,none⟩=false:=by
   have h:=HO2.out.p;rw [hgo] at h;exact fun a=>h.frozenAt a
  rw [hgo] at e1;obtain ⟨X,hX⟩:∃ X,X=w2.setCell ⟨gs,i*4+2,none⟩ (.int .i64 n):=⟨_,rfl⟩;obtain ⟨D,hD⟩:∃ D,tabS S (rTab 6 nm n S.bud S.pools)=D:=⟨_,rfl⟩;have HD:=hideIt hD;have hDD:D={S with pools:=S.pools.set i ⟨y.nm,y.sz,n,y.fr⟩}:=by
   rw [←hD];unfold tabS rTab;rw [if_neg (by decide),if_neg (by decide),if_neg (by decide),hi];simp only;rw [Zaf _ hy];rfl
  have HMD:Hid (Sml D Y):=by
   rw [hDD];refine ⟨?_,HM.out.s,HM.out.q,HM.out.t,HM.out.h⟩;show (S.pools.set i _).length≤1000;rw [List.length_set];exact HM.out.p
  have hGl:W.heap.size≤gs:=(HO2.out.p.lt gs (by rw [hgo];rfl)).1;have HBX:Hid (Below W.heap.size W X):=by rw [hX];exact HB2.out.setCell (by show W.heap.size≤gs;exact hGl) _
  have HOX:Hid (OwnW w.heap.size X D u1 Y ho1 hc1):=by
   rw [hX];exact ZbU HO2.out (by omega) HAP.out hgo ((ZaO S.pools i y hy).2.1 n) hDD
  have HXX:Hid (X=w2.setCell ⟨gs,i*4+2,none⟩ (.int .i64 n)∧X.heap[g]?=some (bW D u1 nx Y ho1 hc1)):=by
   refine ⟨hX,?_⟩;have hne:g≠gs:=fun e=>Zs HO2.out.p HX2.out (by decide) (by rw [hgo,e];rfl)
   rw [hX,hDD];show _=some (bWp (.slice u1.po (S.pools.set i _).length u1.pc) S u1 nx Y ho1 hc1);rw [List.length_set];exact (Below.heap_setCell _ _ _ _ hne).trans HX2.out
  obtain ⟨R,hR⟩:∃ R,rBegin 6 nm n S=R:=⟨_,rfl⟩;have HCA:Hid (Calls Tryz.prog 84 #[wdA D u1 nx Y ho1 hc1,.string nm,.int .i64 n] X fun e w'=>GaveS w.heap.size X w' R nx Y e):=by
   have e:rHeld D nm n=R:=by rw [←hR,←HD.out];rfl
   rw [←e];exact xHeld w.heap.size nm n hn0 (D.wts.length+1) D u1 nx Y ho1 hc1 X (by have:=HBX.out.size;omega) HOX.out HMD.out (Nat.lt_succ_self _)
  have HRR:=hideIt hR;clear hR;clear hX hD hDD hi hy hgo;go_upto_region 19 with fail
  rw [←HXX.out.1];clear e0 e1 e2 e3 e4 e5 e6 e7 e8 e9 ez r0 r1 r2 r3 r4 r5 r6 r7 r8 r9 rz s0 s1 s2 sz;obtain ⟨a0,a1,a2,a3,a4,a5,a6,a7,a8,a9,az⟩:=blk10 HXX.out.2;obtain ⟨s0,s1,s2,sz⟩:=blk3d (Ze HW.out.bs HBX.out);go_wp2_with fail
  refine HCA.out.mono ?_;rintro e w5 ⟨u5,ho5,hc5,rfl,o5,hb5⟩;have HB5:=hideIt (Za HBX.out hb5);have HO5:=hideIt o5;clear o5 hb5 a0 a1 a2 a3 a4 a5 a6 a7 a8 a9 az s0 s1 s2 sz;obtain ⟨r0,r1,r2,r3,r4,r5,r6,r7,r8,r9,rz⟩:=blk10 (Ze HW.out.b1 HB5.out);go_wp2_with fail
  obtain ⟨FW,hFW,HF⟩:=fing HW.out.b1 HW.out.bel (by omega) HB5.out HO5.out (nx);unfold stS st10 at hFW;rw [hFW];obtain ⟨f0,f1,f2,f3,f4,f5,f6,f7,f8,f9,fz⟩:=blk10 HF.out.1;clear hFW;refine bodyPost_ret (v:=wdA R u5 nx Y ho5 hc5) (by simp [results,Tryz.results51,go_sem,f0,f1,f2,f3,f4,f5,f6,f7,f8,f9]) rfl ?_;rw [HRR.out];exact ⟨u5,ho5,hc5,rfl,HF.out.2.2,HF.out.2.1⟩
 ·clear HHI h1 h8;obtain ⟨X,hX⟩:∃ X,X=w2.setCell ⟨g,0,none⟩ (.int .i64 n):=⟨_,rfl⟩;obtain ⟨D,hD⟩:∃ D,tabS S (rTab 7 nm n S.bud S.pools)=D:=⟨_,rfl⟩;have HD:=hideIt hD;have hDD:D={S with bud:=n}:=by
   rw [←hD];unfold tabS rTab;rw [if_pos (by decide)]
  have HMD:Hid (Sml D Y):=by
   rw [hDD];exact ⟨HM.out.p,HM.out.s,HM.out.q,HM.out.t,HM.out.h⟩
  have HBX:Hid (Below W.heap.size W X):=by rw [hX];exact HB2.out.setCell (by show W.heap.size≤g;exact hWg) _
  have HOX:Hid (OwnW w.heap.size X D u1 Y ho1 hc1):=by
   rw [hX,hDD];have h:=(HO2.out.mono (show w.heap.size≤W.heap.size by omega)).st1 (a:=0) HX2.out (.int .i64 n);exact ⟨h.p,h.s,h.q,h.t,h.h⟩
  have HXX:Hid (X=w2.setCell ⟨g,0,none⟩ (.int .i64 n)∧X.heap[g]?=some (bW D u1 nx Y ho1 hc1)):=by
   refine ⟨hX,?_⟩;rw [hX,hDD];exact Za4 HX2.out _
  have HR:Hid (rBegin 7 nm n S=D):=by rw [←HD.out];exact rfl
  clear hX hD hDD;generalize optI (List.findIdx? (isNameP nm) S.pools)=ip;go_upto_region 24 with fail
  rw [←HXX.out.1];clear e0 e1 e2 e3 e4 e5 e6 e7 e8 e9 ez r0 r1 r2 r3 r4 r5 r6 r7 r8 r9 rz s0 s1 s2 sz;obtain ⟨a0,a1,a2,a3,a4,a5,a6,a7,a8,a9,az⟩:=blk10 HXX.out.2;obtain ⟨s0,s1,s2,sz⟩:=blk3d (Ze HW.out.bs HBX.out);obtain ⟨r0,r1,r2,r3,r4,r5,r6,r7,r8,r9,rz⟩:=blk10 (Ze HW.out.b1 HBX.out);go_wp2_with fail
  obtain ⟨FW,hFW,HF⟩:=fing HW.out.b1 HW.out.bel (by omega) HBX.out HOX.out (nx);unfold stS st10 at hFW;rw [hFW];obtain ⟨f0,f1,f2,f3,f4,f5,f6,f7,f8,f9,fz⟩:=blk10 HF.out.1;clear hFW;refine bodyPost_ret (v:=wdA D u1 nx Y ho1 hc1) (by simp [results,Tryz.results51,go_sem,f0,f1,f2,f3,f4,f5,f6,f7,f8,f9]) rfl ?_;rw [HR.out];exact ⟨u1,ho1,hc1,rfl,HF.out.2.2,HF.out.2.1⟩
 ·obtain ⟨i,hi⟩:=HHI.out (by simp);clear HHI h1 h8;obtain ⟨y,hy,_⟩:=ZP hi;have HI:=hideIt hi;have HY:=hideIt hy;rw [hi];unfold optI;have hkl:(i:Int)<(S.pools.length:Int):=by
   have:=(List.getElem?_eq_some_iff.1 hy).1;omega
  have h0k:(0:Int)≤(i:Int):=by omega
  obtain ⟨gs,gf,hgo,hgs,t0,t1,t2,t3⟩:=Zn (Zd HO2.out.p) hy;have hgf:gf=0:=by
   have h:=HO2.out.p;rw [hgo] at h;exact Zat h
  subst hgf;simp only [Nat.zero_add] at t0 t1 t2 t3;have HGO:=hideIt hgo;have hzf:∀ a,w2.frozen? ⟨gs,a,none⟩=false:=by
   have h:=HO2.out.p;rw [hgo] at h;exact fun a=>h.frozenAt a
  rw [hgo] at e1;obtain ⟨X,hX⟩:∃ X,X=w2.setCell ⟨gs,i*4+1,none⟩ (.int .i64 n):=⟨_,rfl⟩;obtain ⟨D,hD⟩:∃ D,tabS S (rTab 8 nm n S.bud S.pools)=D:=⟨_,rfl⟩;have HD:=hideIt hD;have hDD:D={S with pools:=S.pools.set i ⟨y.nm,n,y.wt,y.fr⟩}:=by
   rw [←hD];unfold tabS rTab;rw [if_neg (by decide),if_neg (by decide),if_neg (by decide),hi];simp only;rw [Zaf _ hy];rfl
  have HMD:Hid (Sml D Y):=by
   rw [hDD];refine ⟨?_,HM.out.s,HM.out.q,HM.out.t,HM.out.h⟩;show (S.pools.set i _).length≤1000;rw [List.length_set];exact HM.out.p
  have hGl:W.heap.size≤gs:=(HO2.out.p.lt gs (by rw [hgo];rfl)).1;have HBX:Hid (Below W.heap.size W X):=by rw [hX];exact HB2.out.setCell (by show W.heap.size≤gs;exact hGl) _
  have HOX:Hid (OwnW w.heap.size X D u1 Y ho1 hc1):=by
   rw [hX];exact ZbU HO2.out (by omega) HAP.out hgo ((ZaO S.pools i y hy).1 n) hDD
  have HXX:Hid (X=w2.setCell ⟨gs,i*4+1,none⟩ (.int .i64 n)∧X.heap[g]?=some (bW D u1 nx Y ho1 hc1)):=by
   refine ⟨hX,?_⟩;have hne:g≠gs:=fun e=>Zs HO2.out.p HX2.out (by decide) (by rw [hgo,e];rfl)
   rw [hX,hDD];show _=some (bWp (.slice u1.po (S.pools.set i _).length u1.pc) S u1 nx Y ho1 hc1);rw [List.length_set];exact (Below.heap_setCell _ _ _ _ hne).trans HX2.out
  have HR:Hid (rBegin 8 nm n S=D):=by rw [←HD.out];exact rfl
  clear hX hD hDD hi hy hgo;go_upto_region 24 with fail
  rw [←HXX.out.1];clear e0 e1 e2 e3 e4 e5 e6 e7 e8 e9 ez r0 r1 r2 r3 r4 r5 r6 r7 r8 r9 rz s0 s1 s2 sz;obtain ⟨a0,a1,a2,a3,a4,a5,a6,a7,a8,a9,az⟩:=blk10 HXX.out.2;obtain ⟨s0,s1,s2,sz⟩:=blk3d (Ze HW.out.bs HBX.out);obtain ⟨r0,r1,r2,r3,r4,r5,r6,r7,r8,r9,rz⟩:=blk10 (Ze HW.out.b1 HBX.out);go_wp2_with fail
  obtain ⟨FW,hFW,HF⟩:=fing HW.out.b1 HW.out.bel (by omega) HBX.out HOX.out (nx);unfold stS st10 at hFW;rw [hFW];obtain ⟨f0,f1,f2,f3,f4,f5,f6,f7,f8,f9,fz⟩:=blk10 HF.out.1;clear hFW;refine bodyPost_ret (v:=wdA D u1 nx Y ho1 hc1) (by simp [results,Tryz.results51,go_sem,f0,f1,f2,f3,f4,f5,f6,f7,f8,f9]) rfl ?_;rw [HR.out];exact ⟨u1,ho1,hc1,rfl,HF.out.2.2,HF.out.2.1⟩
structure Look2 (w W:World) (o s:Obj):Prop where
 eq:W=(w.alloc o).alloc s
 b0:W.heap[w.heap.size]?=some o
 bs:W.heap[w.heap.size+1]?=some s
 bel:Below w.heap.size w W
theorem Zjy (w:World) (o s:Obj):∃ W,Hid (Look2 w W o s):=
 ⟨_,rfl,(Zf _ _ (by simp)).trans (Zc _ _ rfl),Zc _ _ (by simp),Za (Zb _ _) (Zb _ _)⟩
theorem ZjE (pool:ByteArray) (far:Int) (ss:List Srv):decide (optI (ss.findIdx? (isStr pool far false))<0)=!ss.any (othF pool far):=by
 have hf:isStr pool far false=othF pool far:=by
  funext x
  unfold isStr othF isPoolV;simp
 rw [hf];cases h:ss.findIdx? (othF pool far) with
 | none =>
  rw [List.findIdx?_eq_none_iff] at h;have:ss.any (othF pool far)=false:=by
   rw [List.any_eq_false];exact fun x hx=>by rw [h x hx];simp
  rw [this];rfl
 | some k =>
  obtain ⟨y,hy,hy2⟩:=ZP h;have:ss.any (othF pool far)=true:=List.any_eq_true.2 ⟨y,List.mem_of_getElem? hy,List.find?_some hy2⟩;rw [this];unfold optI;simp
theorem xEnded (S:Sta) (u:Stv) (nx:Int) (Y:Int×List Pl) (ho:Option Addr) (hc:Nat) (k:Int) (nm:ByteArray) (n:Int) (w:World) (hk:okKind k) (hr:RowAt w (.slice u.so S.srv.length u.sc) S.srv.length (flatV S.srv)) (hq:S.srv.length≤549755813888) :
  Calls Tryz.prog 53 #[wdA S u nx Y ho hc,stA k nm n] w fun e w'=>e=.returned (.bool (cEnded k nm n S))∧Below w.heap.size w w':=by
 obtain ⟨W,HW⟩:=Zjy w (bW S u nx Y ho hc) (bSt k nm n);have HR:=hideIt (hr.nx HW.out.bel);have HC:=hideIt (rCount S.bud u.po S.pools.length u.pc u.so S.srv.length u.sc u.wo S.wts.length u.wc u.tqo S.plan.length u.tc S.begun S.back nx Y.1 ho Y.2.length hc nm S.srv W HR.out rfl (by unfold maxLen;omega));have HT:=hideIt (fun v (hb:Below W.heap.size W v)=>xStrange S u nx Y ho hc nm n false v (HR.out.nx hb) hq);have HK:=hideIt hk;clear hr hk;unfold wdA stA;go_enter Tryz.func53,Tryz.ntmps53
 go_wp2_with fail
 rw [←HW.out.eq];refine HC.out.mono ?_;rintro e w1 ⟨rfl,hb1⟩;have HB1:=hideIt hb1;clear hb1;obtain ⟨a0,a1,a2,a3,a4,a5,a6,a7,a8,a9,az⟩:=blk10 (Ze HW.out.b0 HB1.out);obtain ⟨s0,s1,s2,sz⟩:=blk3d (Ze HW.out.bs HB1.out);obtain ⟨h1,h8⟩:=HK.out;clear HK;rcases (by omega:k=1∨k=2∨k=3∨k=4∨k=5∨k=6∨k=7∨k=8) with rfl | rfl | rfl | rfl | rfl | rfl | rfl | rfl
 all_goals
  clear h1 h8;go_wp2_with fail
  first
  | (go_ret;refine ⟨?_,Za HW.out.bel HB1.out⟩;simp [cEnded];done)
  | (go_ret;refine ⟨?_,Za HW.out.bel HB1.out⟩;simp [cEnded];rw [Bool.eq_iff_iff,beq_iff_eq,decide_eq_true_iff];omega)
  | (refine (HT.out w1 HB1.out).mono ?_;rintro e w2 ⟨rfl,hb2⟩;have HB2:=hideIt (Za HB1.out hb2);clear hb2;go_wp2_with fail;go_ret;exact ⟨by simp only [cEnded];rw [←ZjE];rfl,Za HW.out.bel HB2.out⟩)
end Lw
end Go.Proofs.YtcpikklofilkcaaGreat
namespace Go.Proofs.YtcpikklofilkcaaGreat
open Go.RowKit
namespace Df
open Co Lw
theorem cChanges (kd:Int) (ao:Option Addr) (n ac:Nat) (ps:List Pl) (bo:Option Addr) (m bc:Nat) (qs:List Pl) (w:World) (hr:RowAt w (.slice ao n ac) n (flatP ps)) (hn:ps.length=n) (hn2:n≤maxLen) (hr2:RowAt w (.slice bo m bc) m (flatP qs)) (hm:qs.length=m) (hq:m≤1099511627776) :
  Calls Tryz.prog 141 #[.int .i64 kd,.slice ao n ac,.slice bo m bc] w fun e w'=>∃ vo vc,e=.returned (.slice vo (chgL kd ps qs).length vc)∧w'.ownsRow w.heap.size 72 3 (.slice vo (chgL kd ps qs).length vc) (chgL kd ps qs).length (flatT (chgL kd ps qs))∧Below w.heap.size w w':=by
 have HR:Hid (RowAt w (.slice bo m bc) m (flatP qs)∧qs.length=m):=⟨hr2,hm⟩;have HH:=hideIt (fun u (hb:Below w.heap.size w u) name=>cPoolIn ao n ac name ps u (hr.nx hb) hn hn2);clear hr hn hr2 hm;go_enter Tryz.func141,Tryz.ntmps141
 go_wp2_with fail
 go_loopw [7,8,9,10,11] (fun l i x9 x10 x11 wr=>∃ (k j:Nat) (vo:Option Addr) (vc:Nat),k≤m∧j≤k∧i=.int .i64 k∧l=.slice vo j vc∧Hid ((chgL kd ps (qs.take k)).length=j∧wr.ownsRow w.heap.size 72 3 (.slice vo j vc) j (flatT (chgL kd ps (qs.take k)))∧Below w.heap.size w wr)) (fun _ i _ _ _ _=>m - (intOf i).toNat)
 case atStart=>exact ⟨0,0,some ⟨w.heap.size,0,none⟩,0,Nat.zero_le _,Nat.le_refl _,rfl,rfl,by simp [chgL],made0 w _ 3 _ rfl _ (Nat.le_refl _),Zb _ _⟩
 case round =>
  obtain ⟨k,j,vo,vc,hk,hj,rfl,rfl,HS⟩:=hrel;by_cases hlt:k<m
  ·obtain ⟨⟨x0,x1,x2,x3⟩,hp⟩:∃ p,qs[k]?=some p:=⟨_,List.getElem?_eq_getElem (by rw [HR.out.2];exact hlt)⟩;have HRW:=hideIt (fun (u:World) (hb:Below wr.heap.size wr u)=>Zn ((HR.out.1.nx HS.out.2.2).nx hb) hp);obtain ⟨bl,off,hao,hbl,c0,c1,c2,c3⟩:=HRW.out wr (Below.refl _ _);subst hao;simp only at c0 c1 c2 c3;have hlti:(k:Int)<(m:Int):=by omega
   obtain ⟨⟨y0,y1,y2,y3⟩,hy⟩:∃ y,inP ps x0=y:=⟨_,rfl⟩;have HNX:Hid (chgL kd ps (qs.take (k+1))=chgL kd ps (qs.take k)++if leadsB kd (numP kd ⟨y0,y1,y2,y3⟩) (numP kd ⟨x0,x1,x2,x3⟩)=true then [stepP kd x0 (numP kd ⟨x0,x1,x2,x3⟩)] else []):=by
    obtain ⟨hk',e⟩:=List.getElem?_eq_some_iff.1 hp;show _=_;unfold chgL;rw [List.take_succ_eq_append_getElem hk',List.filter_append,List.map_append,e];congr 1;cases hkk:leadsB kd (numP kd ⟨y0,y1,y2,y3⟩) (numP kd ⟨x0,x1,x2,x3⟩) <;> simp [chgP,hy,hkk]
   clear hp;go_wp2_with fail
   refine (HH.out _ HS.out.2.2 _).mono ?_;rintro e w1 ⟨rfl,hb1⟩;rw [hy];obtain ⟨nf,hnf⟩:∃ nf,numP kd ⟨y0,y1,y2,y3⟩=nf:=⟨_,rfl⟩;obtain ⟨nt,hnt⟩:∃ nt,numP kd ⟨x0,x1,x2,x3⟩=nt:=⟨_,rfl⟩;rw [hnf,hnt] at HNX;have HNF:=hideIt hnf;have HNT:=hideIt hnt;have HB1:=hideIt hb1;clear hy hnf hnt hb1;go_wp2_with fail
   refine (cNum kd y0 y1 y2 y3 _).mono ?_;rintro e w3 ⟨rfl,hb3⟩;rw [HNF.out];have HB3:=hideIt (Za HB1.out (Za (Zb _ _) hb3));obtain ⟨bl',off',e',hbl',d0,d1,d2,d3⟩:=HRW.out w3 HB3.out;obtain ⟨rfl,rfl⟩:bl=bl'∧off=off':=by simpa using e'
   clear hb3 e' hbl';go_wp2_with fail
   refine (cNum kd x0 x1 x2 x3 _).mono ?_;rintro e w4 ⟨rfl,hb4⟩;rw [HNT.out];have HB4:=hideIt (Za HB3.out hb4);obtain ⟨bl',off',e',hbl',f0,f1,f2,f3⟩:=HRW.out w4 HB4.out;obtain ⟨rfl,rfl⟩:bl=bl'∧off=off':=by simpa using e'
   clear hb4 e' hbl';go_wp2_with fail
   refine (cLeads kd nf nt _).mono ?_;rintro e w5 ⟨rfl,h5⟩;obtain rfl:=h5.symm;have HSW:Hid (w4.ownsRow w.heap.size 72 3 (.slice vo j vc) j (flatT (chgL kd ps (qs.take k)))∧Below w.heap.size w w4):=⟨Zk HS.out.2.1 HB4.out,Za HS.out.2.2 HB4.out⟩;cases hx:leadsB kd nf nt with
   | false =>
    have HN:Hid (chgL kd ps (qs.take (k+1))=chgL kd ps (qs.take k)):=by
     show _=_;rw [HNX.out,hx];simp
    clear hx;go_wp2_with fail
    go_roundw
    case rel=>exact ⟨k+1,j,vo,vc,by omega,by omega,by go_num,rfl,by rw [HN.out];exact ⟨HS.out.1,HSW.out⟩⟩
    case measure=>simp [intOf];omega
   | true =>
    have HN:Hid (chgL kd ps (qs.take (k+1))=chgL kd ps (qs.take k)++[stepP kd x0 nt]):=by
     show _=_;rw [HNX.out,hx];simp
    clear hx;go_wp2_with (at_builtin;refine appendG 72 34 3 32 _ Z7 Tryz.underlying34 rfl (by decide) (by decide) rfl (.tmp 39) (.tmp 48) rfl w.heap.size _ j (flatT (chgL kd ps (qs.take k))) rfl (HSW.out.1.alloc _) (some ⟨w4.heap.size,0,none⟩) 1 1 [.int .i64 kd,.string x0,.int .i64 nt] rfl rfl (ZA w4 [.int .i64 kd,.string x0,.int .i64 nt] _ 1 rfl) (by intro u hu;simp at hu;rcases hu with rfl | rfl | rfl <;> rfl) (fun h=>by cases h) (by omega) (by simp;have:=HSW.out.2.size;omega) ?next)
    case next =>
     intro v' w6 hown6 hb6;obtain ⟨vo6,vc6,rfl,_⟩:=Zd hown6;have K6:Hid ((chgL kd ps (qs.take (k+1))).length=j+1∧w6.ownsRow w.heap.size 72 3 (.slice vo6 (j+1) vc6) (j+1) (flatT (chgL kd ps (qs.take (k+1))))∧Below w.heap.size w w6):=by
      refine ⟨by rw [HN.out];simp [HS.out.1],?_,(HSW.out.2.alloc HSW.out.2.size _).trans hb6⟩;rw [HN.out];unfold flatT;rw [List.flatMap_append];exact hown6
     clear hown6 hb6;go_wp2_with fail
     go_roundw
     case rel=>exact ⟨k+1,j+1,vo6,vc6,by omega,by omega,by go_num,rfl,K6.out⟩
     case measure=>simp [intOf];omega
  ·have HE:Hid ((chgL kd ps qs).length=j∧wr.ownsRow w.heap.size 72 3 (.slice vo j vc) j (flatT (chgL kd ps qs))∧Below w.heap.size w wr):=by
    have ht:qs.take k=qs:=List.take_of_length_le (by rw [HR.out.2];omega);have:=HS.out;rw [ht] at this;exact this
   go_wp2_with fail
   go_ret
   exact ⟨vo,vc,by rw [HE.out.1];rfl,by rw [HE.out.1];exact HE.out.2.1,HE.out.2.2⟩
def GaveS (w w':World) (l:List Stp) (e:Ending):Prop:=∃ vo vc,e=.returned (.slice vo l.length vc)∧RowAt w' (.slice vo l.length vc) l.length (flatT l)∧(vo=none→vc=0)∧Below w.heap.size w w'
theorem GaveS.of_own {w w':World} {l:List Stp} {e:Ending} {B:Nat} (h:∃ vo vc,e=.returned (.slice vo l.length vc)∧w'.ownsRow B 72 3 (.slice vo l.length vc) l.length (flatT l)∧Below w.heap.size w w'):GaveS w w' l e:=by
 obtain ⟨vo,vc,h1,h2,h3⟩:=h;exact ⟨vo,vc,h1,Zd h2,Zv h2,h3⟩
theorem cStepsOf (kd ba:Int) (ao:Option Addr) (n ac:Nat) (ps:List Pl) (bb:Int) (bo:Option Addr) (m bc:Nat) (qs:List Pl) (w:World) (hr:RowAt w (.slice ao n ac) n (flatP ps)) (hn:ps.length=n) (hn2:n≤1099511627776) (hr2:RowAt w (.slice bo m bc) m (flatP qs)) (hm:qs.length=m) (hm2:m≤1099511627776) :
  Calls Tryz.prog 115 #[.int .i64 kd,.agg #[.int .i64 ba,.slice ao n ac],.agg #[.int .i64 bb,.slice bo m bc]] w fun e w'=>GaveS w w' (kindL kd ba ps bb qs) e:=by
 obtain ⟨W,hW⟩:∃ W,W=(w.alloc (bTab ba (.slice ao n ac))).alloc (bTab bb (.slice bo m bc)):=⟨_,rfl⟩;have hbW:Below w.heap.size w W:=by rw [hW];exact Za (Zb _ _) (Zb _ _)
 have hml:∀ x:Nat,x≤1099511627776→x≤maxLen:=fun x hx=>by unfold maxLen;omega
 have HM1:=hideIt (fun k=>cMissing k ao n ac ps bo m bc qs W (hr.nx hbW) hn hn2 (hr2.nx hbW) hm (hml _ hm2));have HM2:=hideIt (fun k=>cMissing k bo m bc qs ao n ac ps W (hr2.nx hbW) hm hm2 (hr.nx hbW) hn (hml _ hn2));have HC:=hideIt (fun k=>cChanges k ao n ac ps bo m bc qs W (hr.nx hbW) hn (hml _ hn2) (hr2.nx hbW) hm hm2);have HBW:=hideIt hbW;have HW:=hideIt hW;have up:∀ (l:List Stp) (e:Ending) (w':World),GaveS W w' l e→GaveS w w' l e:=fun _ _ _ ⟨vo,vc,h1,h2,h3,h4⟩=>⟨vo,vc,h1,h2,h3,Za HBW.out h4⟩
 have UP:=hideIt up;clear hr hn hr2 hm hW hbW hml up;by_cases h2:kd=2
 ·subst h2;go_enter Tryz.func115,Tryz.ntmps115
  go_wp2_with fail
  rw [←HW.out];refine (HM1.out 2).mono ?_;rintro e w1 hg;have HG:=hideIt (UP.out _ _ _ (GaveS.of_own hg));obtain ⟨vo,vc,rfl,_⟩:=hg;go_wp2_with fail
  go_ret
  exact HG.out
 by_cases h4:kd=4
 ·subst h4;go_enter Tryz.func115,Tryz.ntmps115
  go_wp2_with fail
  rw [←HW.out];refine (HM2.out 4).mono ?_;rintro e w1 hg;have HG:=hideIt (UP.out _ _ _ (GaveS.of_own hg));obtain ⟨vo,vc,rfl,_⟩:=hg;go_wp2_with fail
  go_ret
  exact HG.out
 by_cases h3:kd=3
 ·subst h3;go_enter Tryz.func115,Tryz.ntmps115
  go_wp2_with fail
  rw [←HW.out];refine (cBudget 3 ba bb W).mono ?_;rintro e w1 hg;have HG:=hideIt (UP.out (budL 3 ba bb) _ _ hg);obtain ⟨vo,vc,rfl,_⟩:=hg;go_wp2_with fail
  go_ret
  exact HG.out
 by_cases h7:kd=7
 ·subst h7;go_enter Tryz.func115,Tryz.ntmps115
  go_wp2_with fail
  rw [←HW.out];refine (cBudget 7 ba bb W).mono ?_;rintro e w1 hg;have HG:=hideIt (UP.out (budL 7 ba bb) _ _ hg);obtain ⟨vo,vc,rfl,_⟩:=hg;go_wp2_with fail
  go_ret
  exact HG.out
 have b2:(kd == 2)=false:=by simp [h2]
 have b4:(kd == 4)=false:=by simp [h4]
 have b3:(kd == 3)=false:=by simp [h3]
 have b7:(kd == 7)=false:=by simp [h7]
 have HK:Hid (kindL kd ba ps bb qs=chgL kd ps qs):=by show _=_;simp [kindL,h2,h4,h3,h7]
 clear h2 h4 h3 h7;go_enter Tryz.func115,Tryz.ntmps115
 go_wp2_with fail
 rw [←HW.out];refine (HC.out kd).mono ?_;rintro e w1 hg;have HG:=hideIt (UP.out _ _ _ (GaveS.of_own hg));obtain ⟨vo,vc,rfl,_⟩:=hg;go_wp2_with fail
 go_ret
 rw [HK.out];exact HG.out
end Df
end Go.Proofs.YtcpikklofilkcaaGreat
