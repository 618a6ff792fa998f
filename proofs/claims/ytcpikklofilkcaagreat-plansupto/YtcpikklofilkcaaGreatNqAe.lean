import Derived.Test.YtcpikklofilkcaaGreatNqAd
import Derived.Deep.RegionLaw
import Derived.Deep.AppendLies
set_option maxRecDepth 100000
set_option maxHeartbeats 16000000
namespace Go.Proofs.YtcpikklofilkcaaGreat
open Go.RowKit
namespace Lw
open Co
def EqWd (a b:World):Prop:=a=b
theorem xTrim (B:Nat) (pool:ByteArray) (all:Bool) (n:Int) (f:Nat):∀ (S:Sta) (u:Stv) (nx:Int) (Y:Int×List Pl) (ho:Option Addr) (hc:Nat) (w:World),B≤w.heap.size→OwnW B w S u Y ho hc→Sml S Y→S.srv.length<f →
  Calls Tryz.prog 81 #[wdA S u nx Y ho hc,.string pool,.bool all,.int .i64 n] w fun e w'=>GaveS B w w' {S with srv:=trimR pool all n f S.srv} nx Y e:=by
 induction f with
 | zero=>intro S u nx Y ho hc w _ _ _ h;omega
 | succ f ih =>
  intro S u nx Y ho hc w hB hO hm hf;obtain ⟨W,HW⟩:=ZH w (bW S u nx Y ho hc);have HO:=hideIt (hO.nx HW.out.bel);have HM:=hideIt hm;have IH:=hideIt ih;have hW:w.heap.size≤W.heap.size:=HW.out.bel.size;have HC:=hideIt (rCount S.bud u.po S.pools.length u.pc u.so S.srv.length u.sc u.wo S.wts.length u.wc u.tqo S.plan.length u.tc S.begun S.back nx Y.1 ho Y.2.length hc pool S.srv W (Zd HO.out.s) rfl (by have:=hm.s;unfold maxLen;omega));have HL:=hideIt (fun v (hb:Below W.heap.size W v)=>xLast S u nx Y ho hc pool all v (Zd (HO.out.nx hb).s) hm.s);have HCL:=hideIt (fun v k (hb:Below W.heap.size W v)=>xClosed S u nx Y ho hc v k (HO.out.nx hb).rows hm);clear hO ih hm;unfold wdA;go_enter Tryz.func81,Tryz.ntmps81
  go_wp2_with fail
  rw [←HW.out.eq];refine HC.out.mono ?_;rintro e w1 ⟨rfl,hb1⟩;have HB1:=hideIt hb1;clear hb1;obtain ⟨a0,a1,a2,a3,a4,a5,a6,a7,a8,a9,az⟩:=blk10 (Ze HW.out.b0 HB1.out);obtain ⟨r0,r1,r2,r3,r4,r5,r6,r7,r8,r9,rz⟩:=blk10 (Ze HW.out.b1 HB1.out);by_cases hle:(if all=true then (S.srv.length:Int) else (cntG (isPoolV pool) S.srv:Int))≤n
  ·have HT:Hid ({S with srv:=trimR pool all n (f+1) S.srv}=S):=by show _=_;rw [trimR,if_pos hle]
   cases all;all_goals
    simp only [Bool.false_eq_true,if_false,if_true] at hle;go_wp2_with fail
    refine (HL.out w1 HB1.out).mono ?_;rintro e w2 ⟨rfl,hb2⟩;have HB2:=hideIt (Za HB1.out hb2);clear hb2 a0 a1 a2 a3 a4 a5 a6 a7 a8 a9 az r0 r1 r2 r3 r4 r5 r6 r7 r8 r9 rz;obtain ⟨a0,a1,a2,a3,a4,a5,a6,a7,a8,a9,az⟩:=blk10 (Ze HW.out.b0 HB2.out);obtain ⟨r0,r1,r2,r3,r4,r5,r6,r7,r8,r9,rz⟩:=blk10 (Ze HW.out.b1 HB2.out);go_wp2_with fail
    obtain ⟨FW,hFW,HF⟩:=Zz HW.out HB2.out (HO.out.nx HB2.out) (nx);unfold stS st10 at hFW;rw [hFW];obtain ⟨f0,f1,f2,f3,f4,f5,f6,f7,f8,f9,fz⟩:=blk10 HF.out.1;clear hFW;refine bodyPost_ret (v:=wdA S u nx Y ho hc) (by simp [results,Tryz.results81,go_sem,f0,f1,f2,f3,f4,f5,f6,f7,f8,f9]) rfl ?_;rw [HT.out];exact ⟨u,ho,hc,rfl,HF.out.2.2,HF.out.2.1⟩
  ·cases hl:lastI (isIdle pool all) S.srv with
   | none =>
    have HT:Hid ({S with srv:=trimR pool all n (f+1) S.srv}=S):=by show _=_;rw [trimR,if_neg hle,hl]
    rw [hl] at HL;clear hl;unfold optI at HL;cases all;all_goals
     simp only [Bool.false_eq_true,if_false,if_true] at hle;go_wp2_with fail
     refine (HL.out w1 HB1.out).mono ?_;rintro e w2 ⟨rfl,hb2⟩;have HB2:=hideIt (Za HB1.out hb2);clear hb2 a0 a1 a2 a3 a4 a5 a6 a7 a8 a9 az r0 r1 r2 r3 r4 r5 r6 r7 r8 r9 rz;obtain ⟨a0,a1,a2,a3,a4,a5,a6,a7,a8,a9,az⟩:=blk10 (Ze HW.out.b0 HB2.out);obtain ⟨r0,r1,r2,r3,r4,r5,r6,r7,r8,r9,rz⟩:=blk10 (Ze HW.out.b1 HB2.out);go_wp2_with fail
     obtain ⟨FW,hFW,HF⟩:=Zz HW.out HB2.out (HO.out.nx HB2.out) (nx);unfold stS st10 at hFW;rw [hFW];obtain ⟨f0,f1,f2,f3,f4,f5,f6,f7,f8,f9,fz⟩:=blk10 HF.out.1;clear hFW;refine bodyPost_ret (v:=wdA S u nx Y ho hc) (by simp [results,Tryz.results81,go_sem,f0,f1,f2,f3,f4,f5,f6,f7,f8,f9]) rfl ?_;rw [HT.out];exact ⟨u,ho,hc,rfl,HF.out.2.2,HF.out.2.1⟩
   | some k =>
    have hkl:=ZfS hl;obtain ⟨T,hT⟩:∃ T,rClosed S k=T:=⟨_,rfl⟩;have hle2:T.srv.length+1=S.srv.length:=by
     rw [←hT];show (S.srv.eraseIdx k).length+1=_;rw [List.length_eraseIdx_of_lt hkl];omega
    have HMT:Hid (Sml T Y):=by
     rw [←hT];refine ⟨HM.out.p,?_,HM.out.q,HM.out.t,HM.out.h⟩;have:=HM.out.s;show (S.srv.eraseIdx k).length≤_;rw [List.length_eraseIdx_of_lt hkl];omega
    obtain ⟨R,hR⟩:∃ R,{S with srv:=trimR pool all n (f+1) S.srv}=R:=⟨_,rfl⟩;have HR:Hid ({T with srv:=trimR pool all n f T.srv}=R):=by
     show _=_;rw [←hR,trimR,if_neg hle,hl,←hT];rfl
    have HRR:=hideIt hR;rw [hl] at HL;have hnk:¬(k:Int)<0:=by omega
    clear hl hR;unfold optI at HL;have HCT:=hideIt (fun v (hb:Below W.heap.size W v)=>HCL.out v k hb);rw [hT] at HCT;clear hT;cases all;all_goals
     simp only [Bool.false_eq_true,if_false,if_true] at hle;go_wp2_with fail
     refine (HL.out w1 HB1.out).mono ?_;rintro e w2 ⟨rfl,hb2⟩;have HB2:=hideIt (Za HB1.out hb2);clear hb2 a0 a1 a2 a3 a4 a5 a6 a7 a8 a9 az r0 r1 r2 r3 r4 r5 r6 r7 r8 r9 rz;obtain ⟨a0,a1,a2,a3,a4,a5,a6,a7,a8,a9,az⟩:=blk10 (Ze HW.out.b0 HB2.out);obtain ⟨r0,r1,r2,r3,r4,r5,r6,r7,r8,r9,rz⟩:=blk10 (Ze HW.out.b1 HB2.out);go_wp2_with fail
     refine (HCT.out w2 HB2.out).mono ?_;rintro e w3 ⟨u3,ho3,hc3,rfl,o3,hb3⟩;obtain ⟨U,hU,HU⟩:=ZS o3 nx;have HB3:=hideIt (Za HB2.out (Za hb3 HU.out.2.2.1));have hB3:=HB3.out.size;have HI:=hideIt (IH.out T u3 nx Y ho3 hc3 U (by omega) (HU.out.2.2.2.mono (by have:=HB2.out.size;omega)) HMT.out (by omega));clear hU o3 hb3 a0 a1 a2 a3 a4 a5 a6 a7 a8 a9 az r0 r1 r2 r3 r4 r5 r6 r7 r8 r9 rz;go_upto_region 8 with fail
     rw [←HU.out.1];obtain ⟨a0,a1,a2,a3,a4,a5,a6,a7,a8,a9,az⟩:=blk10 HU.out.2.1;go_wp2_with fail
     refine HI.out.mono ?_;rw [HR.out];rintro e w4 ⟨u4,ho4,hc4,rfl,o4,hb4⟩;have HB4:=hideIt (Za HB3.out hb4);have HO4:=hideIt o4;clear o4 hb4 a0 a1 a2 a3 a4 a5 a6 a7 a8 a9 az;obtain ⟨r0,r1,r2,r3,r4,r5,r6,r7,r8,r9,rz⟩:=blk10 (Ze HW.out.b1 HB4.out);go_wp2_with fail
     obtain ⟨FW,hFW,HF⟩:=Zz HW.out HB4.out HO4.out (nx);unfold stS st10 at hFW;rw [hFW];obtain ⟨f0,f1,f2,f3,f4,f5,f6,f7,f8,f9,fz⟩:=blk10 HF.out.1;clear hFW;refine bodyPost_ret (v:=wdA R u4 nx Y ho4 hc4) (by simp [results,Tryz.results81,go_sem,f0,f1,f2,f3,f4,f5,f6,f7,f8,f9]) rfl ?_;rw [HRR.out];exact ⟨u4,ho4,hc4,rfl,HF.out.2.2,HF.out.2.1⟩
theorem xMove (B:Nat) (pool:ByteArray) (far:Int) (f:Nat):∀ (S:Sta) (u:Stv) (nx:Int) (Y:Int×List Pl) (ho:Option Addr) (hc:Nat) (w:World),B≤w.heap.size→OwnW B w S u Y ho hc→Sml S Y→S.srv.length<f →
  Calls Tryz.prog 83 #[wdA S u nx Y ho hc,.string pool,.int .i64 far] w fun e w'=>GaveS B w w' {S with srv:=movR pool far f S.srv} nx Y e:=by
 induction f with
 | zero=>intro S u nx Y ho hc w _ _ _ h;omega
 | succ f ih =>
  intro S u nx Y ho hc w hB hO hm hf;obtain ⟨W,HW⟩:=ZH w (bW S u nx Y ho hc);have HO:=hideIt (hO.nx HW.out.bel);have HM:=hideIt hm;have IH:=hideIt ih;have hW:w.heap.size≤W.heap.size:=HW.out.bel.size;have HL:=hideIt (fun v (hb:Below W.heap.size W v)=>xStrange S u nx Y ho hc pool far true v (Zd (HO.out.nx hb).s) hm.s);have HCL:=hideIt (fun v k (hb:Below W.heap.size W v)=>xClosed S u nx Y ho hc v k (HO.out.nx hb).rows hm);clear hO ih hm;unfold wdA;go_enter Tryz.func83,Tryz.ntmps83
  go_wp2_with fail
  rw [←HW.out.eq];refine (HL.out W (Below.refl _ W)).mono ?_;rintro e w2 ⟨rfl,hb2⟩;have HB2:=hideIt hb2;clear hb2;obtain ⟨a0,a1,a2,a3,a4,a5,a6,a7,a8,a9,az⟩:=blk10 (Ze HW.out.b0 HB2.out);obtain ⟨r0,r1,r2,r3,r4,r5,r6,r7,r8,r9,rz⟩:=blk10 (Ze HW.out.b1 HB2.out);cases hl:S.srv.findIdx? (isStr pool far true) with
  | none =>
   have HT:Hid ({S with srv:=movR pool far (f+1) S.srv}=S):=by show _=_;rw [movR,hl]
   clear hl;unfold optI;go_wp2_with fail
   obtain ⟨FW,hFW,HF⟩:=Zz HW.out HB2.out (HO.out.nx HB2.out) (nx);unfold stS st10 at hFW;rw [hFW];obtain ⟨f0,f1,f2,f3,f4,f5,f6,f7,f8,f9,fz⟩:=blk10 HF.out.1;clear hFW;refine bodyPost_ret (v:=wdA S u nx Y ho hc) (by simp [results,Tryz.results83,go_sem,f0,f1,f2,f3,f4,f5,f6,f7,f8,f9]) rfl ?_;rw [HT.out];exact ⟨u,ho,hc,rfl,HF.out.2.2,HF.out.2.1⟩
  | some k =>
   obtain ⟨y,hy,_⟩:=ZP hl;have hkl:=(List.getElem?_eq_some_iff.1 hy).1;obtain ⟨T,hT⟩:∃ T,rClosed S k=T:=⟨_,rfl⟩;have hle2:T.srv.length+1=S.srv.length:=by
    rw [←hT];show (S.srv.eraseIdx k).length+1=_;rw [List.length_eraseIdx_of_lt hkl];omega
   have HMT:Hid (Sml T Y):=by
    rw [←hT];refine ⟨HM.out.p,?_,HM.out.q,HM.out.t,HM.out.h⟩;have:=HM.out.s;show (S.srv.eraseIdx k).length≤_;rw [List.length_eraseIdx_of_lt hkl];omega
   obtain ⟨R,hR⟩:∃ R,{S with srv:=movR pool far (f+1) S.srv}=R:=⟨_,rfl⟩;have HR:Hid ({T with srv:=movR pool far f T.srv}=R):=by
    show _=_;rw [←hR,movR,hl,←hT];rfl
   have HRR:=hideIt hR;have hnk:¬(k:Int)<0:=by omega
   clear hl hR hy;unfold optI;have HCT:=hideIt (fun v (hb:Below W.heap.size W v)=>HCL.out v k hb);rw [hT] at HCT;clear hT;go_wp2_with fail
   refine (HCT.out w2 HB2.out).mono ?_;rintro e w3 ⟨u3,ho3,hc3,rfl,o3,hb3⟩;obtain ⟨U,hU,HU⟩:=ZS o3 nx;have HB3:=hideIt (Za HB2.out (Za hb3 HU.out.2.2.1));have hB3:=HB3.out.size;have HI:=hideIt (IH.out T u3 nx Y ho3 hc3 U (by omega) (HU.out.2.2.2.mono (by have:=HB2.out.size;omega)) HMT.out (by omega));clear hU o3 hb3 a0 a1 a2 a3 a4 a5 a6 a7 a8 a9 az r0 r1 r2 r3 r4 r5 r6 r7 r8 r9 rz;go_upto_region 5 with fail
   rw [←HU.out.1];obtain ⟨a0,a1,a2,a3,a4,a5,a6,a7,a8,a9,az⟩:=blk10 HU.out.2.1;go_wp2_with fail
   refine HI.out.mono ?_;rw [HR.out];rintro e w4 ⟨u4,ho4,hc4,rfl,o4,hb4⟩;have HB4:=hideIt (Za HB3.out hb4);have HO4:=hideIt o4;clear o4 hb4 a0 a1 a2 a3 a4 a5 a6 a7 a8 a9 az;obtain ⟨r0,r1,r2,r3,r4,r5,r6,r7,r8,r9,rz⟩:=blk10 (Ze HW.out.b1 HB4.out);go_wp2_with fail
   obtain ⟨FW,hFW,HF⟩:=Zz HW.out HB4.out HO4.out (nx);unfold stS st10 at hFW;rw [hFW];obtain ⟨f0,f1,f2,f3,f4,f5,f6,f7,f8,f9,fz⟩:=blk10 HF.out.1;clear hFW;refine bodyPost_ret (v:=wdA R u4 nx Y ho4 hc4) (by simp [results,Tryz.results83,go_sem,f0,f1,f2,f3,f4,f5,f6,f7,f8,f9]) rfl ?_;rw [HRR.out];exact ⟨u4,ho4,hc4,rfl,HF.out.2.2,HF.out.2.1⟩
theorem xHeld (B:Nat) (pool:ByteArray) (n:Int) (hn0:0≤n) (f:Nat):∀ (S:Sta) (u:Stv) (nx:Int) (Y:Int×List Pl) (ho:Option Addr) (hc:Nat) (w:World),B≤w.heap.size→OwnW B w S u Y ho hc→Sml S Y→S.wts.length<f →
  Calls Tryz.prog 84 #[wdA S u nx Y ho hc,.string pool,.int .i64 n] w fun e w'=>GaveS B w w' {S with wts:=heldR pool n f S.wts} nx Y e:=by
 induction f with
 | zero=>intro S u nx Y ho hc w _ _ _ h;omega
 | succ f ih =>
  intro S u nx Y ho hc w hB hO hm hf;obtain ⟨W,HW⟩:=ZH w (bW S u nx Y ho hc);have HO:=hideIt (hO.nx HW.out.bel);have HM:=hideIt hm;have IH:=hideIt ih;have hW:w.heap.size≤W.heap.size:=HW.out.bel.size;have HC:=hideIt (rWaiting S.bud u.po S.pools.length u.pc u.so S.srv.length u.sc u.wo S.wts.length u.wc u.tqo S.plan.length u.tc S.begun S.back nx Y.1 ho Y.2.length hc pool S.wts W (Zd HO.out.q) rfl (by have:=hm.q;unfold maxLen;omega));have HCL:=hideIt (fun v k (hb:Below W.heap.size W v)=>xLeft S u nx Y ho hc v k (HO.out.nx hb).rows hm);clear hO ih hm;unfold wdA;go_enter Tryz.func84,Tryz.ntmps84
  go_wp2_with fail
  rw [←HW.out.eq];refine HC.out.mono ?_;rintro e w1 ⟨rfl,hb1⟩;have HB1:=hideIt hb1;clear hb1;obtain ⟨a0,a1,a2,a3,a4,a5,a6,a7,a8,a9,az⟩:=blk10 (Ze HW.out.b0 HB1.out);obtain ⟨r0,r1,r2,r3,r4,r5,r6,r7,r8,r9,rz⟩:=blk10 (Ze HW.out.b1 HB1.out);by_cases hle:(cntG (isPoolW pool) S.wts:Int)≤n
  ·have HT:Hid ({S with wts:=heldR pool n (f+1) S.wts}=S):=by show _=_;rw [heldR,if_pos hle]
   go_wp2_with fail
   obtain ⟨FW,hFW,HF⟩:=Zz HW.out HB1.out (HO.out.nx HB1.out) (nx);unfold stS st10 at hFW;rw [hFW];obtain ⟨f0,f1,f2,f3,f4,f5,f6,f7,f8,f9,fz⟩:=blk10 HF.out.1;clear hFW;refine bodyPost_ret (v:=wdA S u nx Y ho hc) (by simp [results,Tryz.results84,go_sem,f0,f1,f2,f3,f4,f5,f6,f7,f8,f9]) rfl ?_;rw [HT.out];exact ⟨u,ho,hc,rfl,HF.out.2.2,HF.out.2.1⟩
  ·obtain ⟨k,hl⟩:∃ k,lastI (isPoolW pool) S.wts=some k:=by
    cases hl:lastI (isPoolW pool) S.wts with
    | some k=>exact ⟨k,rfl⟩
    | none =>
     have h0:=List.getLast?_eq_none_iff.1 (Za0 hl);have:cntG (isPoolW pool) S.wts=0:=by unfold cntG;rw [h0];rfl
     omega
   have hkl:=ZfS hl;obtain ⟨T,hT⟩:∃ T,rLeft S k=T:=⟨_,rfl⟩;have hle2:T.wts.length+1=S.wts.length:=by
    rw [←hT];show (S.wts.eraseIdx k).length+1=_;rw [List.length_eraseIdx_of_lt hkl];omega
   have HMT:Hid (Sml T Y):=by
    rw [←hT];refine ⟨HM.out.p,HM.out.s,?_,HM.out.t,HM.out.h⟩;have:=HM.out.q;show (S.wts.eraseIdx k).length≤_;rw [List.length_eraseIdx_of_lt hkl];omega
   obtain ⟨R,hR⟩:∃ R,{S with wts:=heldR pool n (f+1) S.wts}=R:=⟨_,rfl⟩;have HR:Hid ({T with wts:=heldR pool n f T.wts}=R):=by
    show _=_;rw [←hR,heldR,if_neg hle,hl,←hT];rfl
   have HRR:=hideIt hR;have HLK:=hideIt hl;clear hl hR;have HCT:=hideIt (fun v (hb:Below W.heap.size W v)=>HCL.out v k hb);rw [hT] at HCT;have HRW:=hideIt (Zd (HO.out.nx HB1.out).q);have HX:=hideIt (Ze HW.out.b0 HB1.out);clear hT;obtain ⟨m,hm3⟩:∃ m,S.wts.length=m:=⟨_,rfl⟩;have HM3:=hideIt hm3;have hmq:m≤549755813888:=by rw [←hm3];exact HM.out.q
   rw [hm3] at a3 HRW;clear hm3;go_wp2_with fail
   go_loopw [8,9] (fun q i wr=>∃ (j:Nat) (v:Nat),j≤m∧v≤m∧i=.int .i64 j∧q=.int .i64 v∧Hid ((lastI (isPoolW pool) (S.wts.take j)).getD 0=v)∧Hid (EqWd wr w1)) (fun _ i _=>m - (intOf i).toNat)
   case atStart=>exact ⟨0,0,Nat.zero_le _,Nat.zero_le _,rfl,rfl,rfl,rfl⟩
   case round =>
    obtain ⟨j,v,hj,hv,rfl,rfl,HT,HWR⟩:=hrel;obtain rfl:w1=wr:=HWR.out.symm;by_cases hlt:j<m
    ·obtain ⟨⟨x0,x1⟩,hp⟩:∃ p,S.wts[j]?=some p:=⟨_,List.getElem?_eq_getElem (by rw [HM3.out];exact hlt)⟩;obtain ⟨bl,off,hao,hbl,c0,c1⟩:=Zaj HRW.out hp;rw [hao] at a3;simp only at c0 c1;have hlti:(j:Int)<(m:Int):=by omega
     have hnx:=ZbS (p:=isPoolW pool) hp;cases hq:(x1.toList == pool.toList) with
     | true =>
      have hq':isPoolW pool ⟨x0,x1⟩=true:=hq;rw [hq',if_pos rfl] at hnx;have HN2:=hideIt hnx;clear hp hnx hq' hao;go_wp2_with fail
      go_roundw
      case rel=>exact ⟨j+1,j,by omega,by omega,by go_num,rfl,by rw [HN2.out];rfl,rfl⟩
      case measure=>simp [intOf];omega
     | false =>
      have hq':isPoolW pool ⟨x0,x1⟩=false:=hq;rw [hq',if_neg (by simp)] at hnx;have HN2:=hideIt hnx;clear hp hnx hq' hao;go_wp2_with fail
      go_roundw
      case rel=>exact ⟨j+1,v,by omega,hv,by go_num,rfl,by rw [HN2.out];exact HT.out,rfl⟩
      case measure=>simp [intOf];omega
    ·have hvk:v=k:=by
      have h:=HT.out;rw [List.take_of_length_le (by rw [HM3.out];omega),HLK.out] at h;exact h.symm
     subst hvk;have HB2:=HB1;rw [←HM3.out] at a3 hlt;go_wp2_with fail
     refine (HCT.out w1 HB1.out).mono ?_;rintro e w3 ⟨u3,ho3,hc3,rfl,o3,hb3⟩;obtain ⟨U,hU,HU⟩:=ZS o3 nx;have HB3:=hideIt (Za HB2.out (Za hb3 HU.out.2.2.1));have hB3:=HB3.out.size;have HI:=hideIt (IH.out T u3 nx Y ho3 hc3 U (by omega) (HU.out.2.2.2.mono (by have:=HB2.out.size;omega)) HMT.out (by omega));clear hU o3 hb3 a0 a1 a2 a3 a4 a5 a6 a7 a8 a9 az r0 r1 r2 r3 r4 r5 r6 r7 r8 r9 rz;go_upto_region 11 with fail
     rw [←HU.out.1];obtain ⟨a0,a1,a2,a3,a4,a5,a6,a7,a8,a9,az⟩:=blk10 HU.out.2.1;go_wp2_with fail
     refine HI.out.mono ?_;rw [HR.out];rintro e w4 ⟨u4,ho4,hc4,rfl,o4,hb4⟩;have HB4:=hideIt (Za HB3.out hb4);have HO4:=hideIt o4;clear o4 hb4 a0 a1 a2 a3 a4 a5 a6 a7 a8 a9 az;obtain ⟨r0,r1,r2,r3,r4,r5,r6,r7,r8,r9,rz⟩:=blk10 (Ze HW.out.b1 HB4.out);go_wp2_with fail
     obtain ⟨FW,hFW,HF⟩:=Zz HW.out HB4.out HO4.out (nx);unfold stS st10 at hFW;rw [hFW];obtain ⟨f0,f1,f2,f3,f4,f5,f6,f7,f8,f9,fz⟩:=blk10 HF.out.1;clear hFW;refine bodyPost_ret (v:=wdA R u4 nx Y ho4 hc4) (by simp [results,Tryz.results84,go_sem,f0,f1,f2,f3,f4,f5,f6,f7,f8,f9]) rfl ?_;rw [HRR.out];exact ⟨u4,ho4,hc4,rfl,HF.out.2.2,HF.out.2.1⟩
theorem Zid {α:Type} {p:α→Bool} {l:List α} {k:Nat} {x:α} (hx:l[k]?=some x):(l.take (k+1)).filter p=if p x=true then (l.take k).filter p++[x] else (l.take k).filter p:=by
 obtain ⟨hk,e⟩:=List.getElem?_eq_some_iff.1 hx;rw [List.take_succ_eq_append_getElem hk,List.filter_append,e];cases hp:p x <;> simp [hp]
theorem xDropped (B:Nat) (S:Sta) (u:Stv) (nx:Int) (Y:Int×List Pl) (ho:Option Addr) (hc:Nat) (nm:ByteArray) (w:World) (hO:OwnW B w S u Y ho hc) (hm:Sml S Y) :
  Calls Tryz.prog 82 #[wdA S u nx Y ho hc,.string nm] w fun e w'=>GaveS w.heap.size w w' (rTrim (rHeld {S with pools:=S.pools.filter (othN nm)} nm 0) nm false 0) nx Y e:=by
 obtain ⟨W,HW⟩:=ZH w (bW S u nx Y ho hc);have HO:=hideIt (hO.nx HW.out.bel);have HM:=hideIt hm;have hW:w.heap.size+2≤W.heap.size:=by rw [HW.out.eq];simp
 have HCO:=hideIt (xCopied S u nx Y ho hc W HO.out.rows hm);clear hO hm;unfold wdA;go_enter Tryz.func82,Tryz.ntmps82
 go_wp2_with fail
 rw [←HW.out.eq];refine HCO.out.mono ?_;rintro e w1 ⟨u1,ho1,hc1,rfl,o1,hb1⟩;obtain ⟨g,hg⟩:∃ g,w1.heap.size=g:=⟨_,rfl⟩;have HO1:=hideIt (o1.nx (Zb w1 (bWp (.slice none 0 0) S u1 nx Y ho1 hc1)));obtain ⟨U,hU⟩:∃ U,U=w1.alloc (bWp (.slice none 0 0) S u1 nx Y ho1 hc1):=⟨_,rfl⟩;have HNG:Hid (∀ g',(Value.slice u1.so S.srv.length u1.sc).ownBlock=some g'∨(Value.slice u1.wo S.wts.length u1.wc).ownBlock=some g'∨(Value.slice u1.tqo S.plan.length u1.tc).ownBlock=some g'∨(Value.slice ho1 Y.2.length hc1).ownBlock=some g'→g'<g):=by
  rintro g' (h | h | h | h)
  ·have:=(o1.s.lt g' h).2;omega
  ·have:=(o1.q.lt g' h).2;omega
  ·have:=(o1.t.lt g' h).2;omega
  ·have:=(o1.h.lt g' h).2;omega
 rw [←hU] at HO1;have HU:Hid (U=w1.alloc (bWp (.slice none 0 0) S u1 nx Y ho1 hc1)∧U.heap[g]?=some (bWp (.slice none 0 0) S u1 nx Y ho1 hc1)∧Below W.heap.size W U∧W.heap.size≤g):=⟨hU,by rw [hU];exact Zc _ _ hg.symm,by rw [hU];exact Za hb1 (Zb _ _),by rw [←hg];exact hb1.size⟩;have HG:=hideIt hg;clear o1 hb1 hU hg;go_upto_region 3 with fail
 rw [←HU.out.1,HG.out];obtain ⟨n,hn⟩:∃ n,S.pools.length=n:=⟨_,rfl⟩;have HN:=hideIt hn;have hnq:n≤1000:=by rw [←hn];exact HM.out.p
 have HB0:Hid (∀ v,Below W.heap.size W v→v.heap[w.heap.size]?=some (bWp (.slice u.po n u.pc) S u nx Y ho hc)):=fun v hb=>by rw [←hn];exact Ze HW.out.b0 hb
 have HRP:Hid (RowAt W (.slice u.po n u.pc) n (flatP S.pools)):=by rw [←hn];exact Zd HO.out.p
 clear hn;go_wp2_with fail
 go_loopw [6] (fun ix wr=>∃ (k j:Nat) (vo:Option Addr) (vc:Nat),k≤n∧j≤k∧ix=.int .i64 k∧Hid (wr.heap[g]?=some (bWp (.slice vo j vc) S u1 nx Y ho1 hc1)∧((S.pools.take k).filter (othN nm)).length=j∧wr.ownsRow U.heap.size 70 4 (.slice vo j vc) j (flatP ((S.pools.take k).filter (othN nm)))∧Chg (fun y=>y=g) U wr)) (fun ix _=>n - (intOf ix).toNat)
 case atStart=>exact ⟨0,0,none,0,Nat.zero_le _,Nat.le_refl _,rfl,HU.out.2.1,by simp,by simp only [List.take_zero,List.filter_nil];exact World.ownsRow_nil _ _ _ _,Chg.refl _ _⟩
 case round =>
  obtain ⟨k,j,vo,vc,hk,hj,rfl,HS⟩:=hrel;have hgU:g<U.heap.size:=(Array.getElem?_eq_some_iff.1 HU.out.2.1).1;have hUr:=HS.out.2.2.2.size;have hWg:=HU.out.2.2.2;have HBW:Hid (Below W.heap.size W wr):=HU.out.2.2.1.trans (HS.out.2.2.2.below HU.out.2.2.1.size (fun x hx=>by omega));obtain ⟨a0,a1,a2,a3,a4,a5,a6,a7,a8,a9,az⟩:=blk10 (HB0.out wr HBW.out);by_cases hlt:k<n
  ·obtain ⟨⟨x0,x1,x2,x3⟩,hx⟩:∃ x,S.pools[k]?=some x:=⟨_,List.getElem?_eq_getElem (by rw [HN.out];exact hlt)⟩;have HX:=hideIt (Zid (p:=othN nm) hx);obtain ⟨bl,off,hao,hbl,d0,d1,d2,d3⟩:=Zn (HRP.out.nx HBW.out) hx;have HBL:Hid (bl<W.heap.size):=by
    obtain ⟨bl',off',hao',hbl',_⟩:=Zn HRP.out hx;rw [hao] at hao';simp only [Option.some.injEq,Addr.mk.injEq] at hao';show bl<W.heap.size;rw [hao'.1];exact hbl'
   simp only at d0 d1 d2 d3;rw [hao] at a1;have hlti:(k:Int)<(n:Int):=by omega
   have h0i:(0:Int)≤(k:Int):=by omega
   clear hx;cases hq:(x0.toList == nm.toList) with
   | true =>
    have HN2:Hid (((S.pools.take (k+1)).filter (othN nm))=((S.pools.take k).filter (othN nm))):=by show _=_;rw [HX.out,if_neg (by simp only [othN,hq];simp)]
    have hq2:(x0.toList != nm.toList)=false:=by rw [bne,hq];rfl
    clear HX hao;go_wp2_with fail
    go_roundw
    case rel=>exact ⟨k+1,j,vo,vc,by omega,by omega,by go_num,by rw [HN2.out];exact HS.out⟩
    case measure=>simp [intOf];omega
   | false =>
    have HN2:Hid (((S.pools.take (k+1)).filter (othN nm))=((S.pools.take k).filter (othN nm))++[⟨x0,x1,x2,x3⟩]):=by show _=_;rw [HX.out,if_pos (by simp only [othN,hq];simp)]
    have hq2:(x0.toList != nm.toList)=true:=by rw [bne,hq];rfl
    have HAO:=hideIt hao;have HK:Hid (∀ w1:World,(∀ b,b<wr.heap.size→some b≠(Value.slice vo j vc).ownBlock→w1.heap[b]?=wr.heap[b]?)→w1.cell? ⟨g,1,none⟩=some (.slice vo j vc)∧w1.frozen? ⟨g,1,none⟩=false∧w1.cell? ⟨w.heap.size,1,none⟩=some (.slice (some ⟨bl,off,none⟩) n u.pc)∧w1.cell? ⟨bl,off+k*4,none⟩=some (.string x0)∧w1.cell? ⟨bl,off+k*4+1,none⟩=some (.int .i64 x1)∧w1.cell? ⟨bl,off+k*4+2,none⟩=some (.int .i64 x2)∧w1.cell? ⟨bl,off+k*4+3,none⟩=some (.int .i64 x3)):=by
     intro w1 hw;have h:=rk HS.out.2.2.2 HS.out.2.2.1 hw;have e3:=(h g hgU).trans HS.out.1;have e0:=(h w.heap.size (by omega)).trans (HB0.out wr HBW.out);have eb:w1.heap[bl]?=wr.heap[bl]?:=h bl (by have:=HBL.out;omega);rw [HAO.out] at e0;exact ⟨(blk10 e3).2.1,(blk10 e3).2.2.2.2.2.2.2.2.2.2 1,(blk10 e0).2.1,(World.cell?_of_block eb).trans d0,(World.cell?_of_block eb).trans d1,(World.cell?_of_block eb).trans d2,(World.cell?_of_block eb).trans d3⟩
    clear HX a0 a1 a2 a3 a4 a5 a6 a7 a8 a9 az d0 d1 d2 d3 hao;obtain ⟨p0,p1,p2,p3,p4,p5,p6⟩:=HK.out wr (fun _ _ _=>rfl);have hownd:=HS.out.2.2.1;have sA:∀ o,(wr.alloc o).cell? ⟨g,1,none⟩=some (.slice vo j vc):=fun o=>(HK.out (wr.alloc o) (fun j hj _=>Zh _ _ hj)).1
    obtain ⟨t0,hi,hz0,hz1,hz2⟩:=info_parts ZcK;go_upto_region 7 with fail
    go_region_law
     ((refine step_append_lies _ (by rfl) (.tmp 34) (.tmp 42) 29 (by rfl) U.heap.size 70 t0 _ 4 40 Tryz.underlying29 hi hz0 hz1 hz2 (by rfl) (by decide) _ j (flatP ((S.pools.take k).filter (othN nm))) (by rfl) (hownd.alloc _) ⟨wr.heap.size,0,none⟩ 1 1 [.string x0,.int .i64 x1,.int .i64 x2,.int .i64 x3] (by rfl) (by rfl) (Zw _ [.string x0,.int .i64 x1,.int .i64 x2,.int .i64 x3] _) (by intro u hu;simp at hu;rcases hu with rfl | rfl | rfl | rfl <;> rfl) (by omega) (by unfold maxLen;omega) (by omega) (by simp;omega) (wr.heap.size+1) (by simp) ?_;intro g6 cap6 w6 hown6 hgrow6 hat6 hlt6;obtain ⟨q0,q1,_⟩:=HK.out w6 (fun j hj hne=>(hgrow6.block j (by simp;omega) hne).trans (Zh _ _ hj))))
    all_goals
     have HJ6:Hid ((w6.setCell ⟨g,1,none⟩ (.slice (some ⟨g6,0,none⟩) (j+1) cap6)).heap[g]?=some (bWp (.slice (some ⟨g6,0,none⟩) (j+1) cap6) S u1 nx Y ho1 hc1)∧((S.pools.take (k+1)).filter (othN nm)).length=j+1∧(w6.setCell ⟨g,1,none⟩ (.slice (some ⟨g6,0,none⟩) (j+1) cap6)).ownsRow U.heap.size 70 4 (.slice (some ⟨g6,0,none⟩) (j+1) cap6) (j+1) (flatP ((S.pools.take (k+1)).filter (othN nm)))∧Chg (fun y=>y=g) U (w6.setCell ⟨g,1,none⟩ (.slice (some ⟨g6,0,none⟩) (j+1) cap6))):=by
      refine ⟨ZcN ((ZaF HS.out.2.2.2.drew hownd hgrow6 g hgU).trans HS.out.1) _,by rw [HN2.out];simp [HS.out.2.1],?_,Za6 HS.out.2.2.2.drew hownd hgrow6⟩;rw [HN2.out,ZI];exact ownsRow_setCell_below hown6 hgU _
     clear hown6 hgrow6 hat6 q0 q1 p0 p1 p2 p3 p4 p5 p6 sA hownd;go_wp2_with fail
     go_roundw
     case rel=>exact ⟨k+1,j+1,some ⟨g6,0,none⟩,cap6,by omega,by omega,by go_num,HJ6.out⟩
     case measure=>simp [intOf];omega
  ·have hkn:S.pools.take k=S.pools:=List.take_of_length_le (by rw [HN.out];omega);have hS:=HS.out;rw [hkn] at hS;obtain ⟨D,hD⟩:∃ D,{S with pools:=S.pools.filter (othN nm)}=D:=⟨_,rfl⟩;obtain ⟨v,hv⟩:∃ v:Stv,(⟨vo,vc,u1.so,u1.sc,u1.wo,u1.wc,u1.tqo,u1.tc⟩:Stv)=v:=⟨_,rfl⟩;have HMD:Hid (Sml D Y):=by
    rw [←hD];exact ⟨Nat.le_trans (List.length_filter_le _ _) HM.out.p,HM.out.s,HM.out.q,HM.out.t,HM.out.h⟩
   have HXD:Hid (wr.heap[g]?=some (bW D v nx Y ho1 hc1)):=by
    rw [←hD,←hv];show _=some (bWp (.slice vo (S.pools.filter (othN nm)).length vc) S u1 nx Y ho1 hc1);rw [hS.2.1];exact hS.1
   have HOD:Hid (OwnW w.heap.size wr D v Y ho1 hc1):=by
    rw [←hD,←hv];have hWU:=HU.out.2.2.1.size;have hne:∀ {x:Value},(∀ g',x.ownBlock=some g'→g'<g)→x.ownBlock≠some g:=fun h e=>Nat.lt_irrefl _ (h g e)
    refine ⟨?_,Zi (ZF HO1.out.s hS.2.2.2 (hne fun g' h=>HNG.out g' (.inl h))) (by omega),Zi (ZF HO1.out.q hS.2.2.2 (hne fun g' h=>HNG.out g' (.inr (.inl h)))) (by omega),Zi (ZF HO1.out.t hS.2.2.2 (hne fun g' h=>HNG.out g' (.inr (.inr (.inl h))))) (by omega),Zi (ZF HO1.out.h hS.2.2.2 (hne fun g' h=>HNG.out g' (.inr (.inr (.inr h))))) (by omega)⟩;show wr.ownsRow w.heap.size 70 4 (.slice vo (S.pools.filter (othN nm)).length vc) (S.pools.filter (othN nm)).length (flatP (S.pools.filter (othN nm)));rw [hS.2.1];exact Zi hS.2.2.1 (by omega)
   have HHE:=hideIt (xHeld w.heap.size nm 0 (Int.le_refl _) (D.wts.length+1) D v nx Y ho1 hc1 wr (by have:=HBW.out.size;omega) HOD.out HMD.out (Nat.lt_succ_self _));obtain ⟨T,hT⟩:∃ T,rHeld D nm 0=T:=⟨_,rfl⟩;have HMT:Hid (Sml T Y):=by
    rw [←hT];exact ⟨HMD.out.p,HMD.out.s,Nat.le_trans (Zc9 _ _ _ _) HMD.out.q,HMD.out.t,HMD.out.h⟩
   have HHT:Hid (Calls Tryz.prog 84 #[wdA D v nx Y ho1 hc1,.string nm,.int .i64 0] wr fun e w'=>GaveS w.heap.size wr w' T nx Y e):=by rw [←hT];exact HHE.out
   obtain ⟨R,hR⟩:∃ R,rTrim (rHeld {S with pools:=S.pools.filter (othN nm)} nm 0) nm false 0=R:=⟨_,rfl⟩;have HR:Hid (rTrim T nm false 0=R):=by rw [←hR,←hT,←hD];exact rfl
   have HRR:=hideIt hR;clear hkn hS hD hv HHE hT hR;obtain ⟨e0,e1,e2,e3,e4,e5,e6,e7,e8,e9,ez⟩:=blk10 HXD.out;go_wp2_with fail
   refine HHT.out.mono ?_;rintro e w5 ⟨u5,ho5,hc5,rfl,o5,hb5⟩;have HB5:=hideIt (Za HBW.out hb5);have hx5:=Ze HXD.out hb5;obtain ⟨U5,hU5,HU5⟩:=Zbg o5 rfl hx5 nx;have HQ5:=Zbd hU5;have HBU:Hid (Below W.heap.size W U5):=HU5.out.2.1 _ _ HB5.out hWg;clear o5 hb5 a0 a1 a2 a3 a4 a5 a6 a7 a8 a9 az e0 e1 e2 e3 e4 e5 e6 e7 e8 e9 ez hU5;obtain ⟨a0,a1,a2,a3,a4,a5,a6,a7,a8,a9,az⟩:=blk10 hx5;clear hx5;unfold stS st10 at HQ5;go_upto_region 9 with fail
   rw [HQ5.out];clear a0 a1 a2 a3 a4 a5 a6 a7 a8 a9 az;have HTR:Hid (Calls Tryz.prog 81 #[wdA T u5 nx Y ho5 hc5,.string nm,.bool false,.int .i64 0] U5 fun e w'=>GaveS w.heap.size U5 w' R nx Y e):=by
    rw [←HR.out];exact xTrim w.heap.size nm false 0 (T.srv.length+1) T u5 nx Y ho5 hc5 U5 (by have:=HBU.out.size;omega) HU5.out.2.2 HMT.out (Nat.lt_succ_self _)
   obtain ⟨a0,a1,a2,a3,a4,a5,a6,a7,a8,a9,az⟩:=blk10 HU5.out.1;go_wp2_with fail
   refine HTR.out.mono ?_;rintro e w7 ⟨u7,ho7,hc7,rfl,o7,hb7⟩;have HB7:=hideIt (Za HBU.out hb7);have HO7:=hideIt o7;clear o7 hb7 a0 a1 a2 a3 a4 a5 a6 a7 a8 a9 az;obtain ⟨r0,r1,r2,r3,r4,r5,r6,r7,r8,r9,rz⟩:=blk10 (Ze HW.out.b1 HB7.out);go_wp2_with fail
   obtain ⟨FW,hFW,HF⟩:=Zz HW.out HB7.out HO7.out (nx);unfold stS st10 at hFW;rw [hFW];obtain ⟨f0,f1,f2,f3,f4,f5,f6,f7,f8,f9,fz⟩:=blk10 HF.out.1;clear hFW;refine bodyPost_ret (v:=wdA R u7 nx Y ho7 hc7) (by simp [results,Tryz.results82,go_sem,f0,f1,f2,f3,f4,f5,f6,f7,f8,f9]) rfl ?_;rw [HRR.out];exact ⟨u7,ho7,hc7,rfl,HF.out.2.2,HF.out.2.1⟩
end Lw
end Go.Proofs.YtcpikklofilkcaaGreat
