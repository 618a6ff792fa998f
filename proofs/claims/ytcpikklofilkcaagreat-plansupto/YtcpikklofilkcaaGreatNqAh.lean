import Derived.Test.YtcpikklofilkcaaGreatNqZ
set_option maxRecDepth 100000
set_option maxHeartbeats 16000000
namespace Go.Proofs.YtcpikklofilkcaaGreat
open Go.RowKit
namespace Lw
open Co
theorem Zd8 (n lo hi:Int) (w:World) :
  Calls Tryz.prog 64 #[.int .i64 n,.int .i64 lo,.int .i64 hi] w fun e w'=>e=.returned (.bool (decide (lo≤n∧n≤hi)))∧w'=w:=by
 by_cases h1:lo≤n
 ·by_cases h2:n≤hi
  ·go_enter Tryz.func64,Tryz.ntmps64
   go_wp2_with fail
   go_ret
   exact ⟨by simp [h1,h2],rfl⟩
  ·go_enter Tryz.func64,Tryz.ntmps64
   go_wp2_with fail
   go_ret
   exact ⟨by simp;omega,rfl⟩
 ·go_enter Tryz.func64,Tryz.ntmps64
  go_wp2_with fail
  go_ret
  exact ⟨by simp;omega,rfl⟩
def surR (bud:Int) (ps:List Pl) (ss:List Srv) (s:Srv):Bool:=match ps.find? (isNameP s.pool) with
 | none=>true
 | some x=>(s.far != x.fr)||decide (x.sz<(cntG (isPoolV s.pool) ss:Int))||decide (bud<(ss.length:Int))
theorem blk4w {w:World} {g:Nat} {c0 c1 c2 c3:Value} {t:TypeId} (h:w.heap[g]?=some (.cells #[c0,c1,c2,c3] t (0,0))):w.cell? ⟨g,0,none⟩=some c0∧w.cell? ⟨g,1,none⟩=some c1∧w.cell? ⟨g,2,none⟩=some c2∧w.cell? ⟨g,3,none⟩=some c3:=by
 refine ⟨?_,?_,?_,?_⟩ <;> simp [World.cell?,h]
theorem Zf4 (bud:Int) (po:Option Addr) (n1 pc:Nat) (so:Option Addr) (n2 sc:Nat) (wo:Option Addr) (n3 wc:Nat) (qo:Option Addr) (n4 tc:Nat) (bg bk:Bool) (nx hb:Int) (ho:Option Addr) (n5 hc:Nat) (ps:List Pl) (ss:List Srv) (w:World) (i:Nat) (x0:Int) (x1:ByteArray) (x2 x3:Int) (hr1:RowAt w (.slice po n1 pc) n1 (flatP ps)) (hn1:ps.length=n1) (hq1:n1≤1099511627776) (hr2:RowAt w (.slice so n2 sc) n2 (flatV ss)) (hn2:ss.length=n2) (hq2:n2≤1099511627776) (hsi:ss[i]?=some ⟨x0,x1,x2,x3⟩) :
  Calls Tryz.prog 70 #[.agg #[.int .i64 bud,.slice po n1 pc,.slice so n2 sc,.slice wo n3 wc,.slice qo n4 tc,.bool bg,.bool bk,.int .i64 nx,.int .i64 hb,.slice ho n5 hc],.int .i64 i] w fun e w'=>e=.returned (.bool (surR bud ps ss ⟨x0,x1,x2,x3⟩))∧Below w.heap.size w w':=by
 obtain ⟨bl,off,hao,hbl,d0,d1,d2,d3⟩:=ZN hr2 hsi;have hin:(i:Int)<(n2:Int):=by
  have:=(List.getElem?_eq_some_iff.1 hsi).1;rw [hn2] at this;omega
 have h0i:(0:Int)≤(i:Int):=by omega
 subst hao;simp only at d0 d1 d2 d3;obtain ⟨W,hW⟩:∃ W,W=(w.alloc (bWd (.int .i64 bud) (.slice po n1 pc) (.slice (some ⟨bl,off,none⟩) n2 sc) (.slice wo n3 wc) (.slice qo n4 tc) (.bool bg) (.bool bk) (.int .i64 nx) (.int .i64 hb) (.slice ho n5 hc))).alloc (.cells #[.int .i64 x0,.string x1,.int .i64 x2,.int .i64 x3] 74):=⟨_,rfl⟩;have hbW:Below w.heap.size w W:=by rw [hW];exact Za (Zb _ _) (Zb _ _)
 have HW:Hid (W=(w.alloc (bWd (.int .i64 bud) (.slice po n1 pc) (.slice (some ⟨bl,off,none⟩) n2 sc) (.slice wo n3 wc) (.slice qo n4 tc) (.bool bg) (.bool bk) (.int .i64 nx) (.int .i64 hb) (.slice ho n5 hc))).alloc (.cells #[.int .i64 x0,.string x1,.int .i64 x2,.int .i64 x3] 74)∧W.heap[w.heap.size]?=some (bWd (.int .i64 bud) (.slice po n1 pc) (.slice (some ⟨bl,off,none⟩) n2 sc) (.slice wo n3 wc) (.slice qo n4 tc) (.bool bg) (.bool bk) (.int .i64 nx) (.int .i64 hb) (.slice ho n5 hc))∧W.heap[w.heap.size+1]?=some (.cells #[.int .i64 x0,.string x1,.int .i64 x2,.int .i64 x3] 74)∧Below w.heap.size w W):=by
  refine ⟨hW,?_,?_,hbW⟩
  ·rw [hW];exact (Zf _ _ (by simp)).trans (Zc _ _ rfl)
  ·rw [hW];exact Zc _ _ (by simp)
 have HAL:=hideIt (rAt bud po n1 pc x1 ps W (hr1.nx hbW) hn1 (by unfold maxLen;omega));have HCT:=hideIt (fun u (hb':Below W.heap.size W u)=>rCount bud po n1 pc (some ⟨bl,off,none⟩) n2 sc wo n3 wc qo n4 tc bg bk nx hb ho n5 hc x1 ss u ((hr2.nx hbW).nx hb') hn2 (by unfold maxLen;omega));have HPL:Hid (∀ (u:World) (q:Nat) (x:Pl),Below W.heap.size W u→ps[q]?=some x→∃ b1 f1,po=some ⟨b1,f1,none⟩∧u.cell? ⟨b1,f1+q*4,none⟩=some (.string x.nm)∧u.cell? ⟨b1,f1+q*4+1,none⟩=some (.int .i64 x.sz)∧u.cell? ⟨b1,f1+q*4+2,none⟩=some (.int .i64 x.wt)∧u.cell? ⟨b1,f1+q*4+3,none⟩=some (.int .i64 x.fr)):=by
  intro u q x hu hq;obtain ⟨b1,f1,e,_,g0,g1,g2,g3⟩:=Zn ((hr1.nx hbW).nx hu) hq;exact ⟨b1,f1,e,g0,g1,g2,g3⟩
 have HLN:Hid (ps.length=n1∧ss.length=n2):=⟨hn1,hn2⟩;have e0:∀ o,(w.alloc o).cell? ⟨bl,off+i*4,none⟩=some (.int .i64 x0):=fun o=>((Zb w o).cell (p:=⟨bl,off+i*4,none⟩) hbl).trans d0
 have e1:∀ o,(w.alloc o).cell? ⟨bl,off+i*4+1,none⟩=some (.string x1):=fun o=>((Zb w o).cell (p:=⟨bl,off+i*4+1,none⟩) hbl).trans d1
 have e2:∀ o,(w.alloc o).cell? ⟨bl,off+i*4+2,none⟩=some (.int .i64 x2):=fun o=>((Zb w o).cell (p:=⟨bl,off+i*4+2,none⟩) hbl).trans d2
 have e3:∀ o,(w.alloc o).cell? ⟨bl,off+i*4+3,none⟩=some (.int .i64 x3):=fun o=>((Zb w o).cell (p:=⟨bl,off+i*4+3,none⟩) hbl).trans d3
 clear hr1 hn1 hr2 hn2 hsi hW hbW d0 d1 d2 d3;go_enter Tryz.func70,Tryz.ntmps70
 go_upto_region 2 with fail
 rw [←HW.out.1];clear e0 e1 e2 e3;obtain ⟨a0,a1,a2,a3,a4,a5,a6,a7,a8,a9,az⟩:=blk10 HW.out.2.1;obtain ⟨s0,s1,s2,s3⟩:=blk4w HW.out.2.2.1;go_wp2_with fail
 refine HAL.out.mono ?_;rintro e w1 ⟨rfl,hb1⟩;have HB1:=hideIt hb1;clear hb1 a0 a1 a2 a3 a4 a5 a6 a7 a8 a9 az s0 s1 s2 s3;obtain ⟨a0,a1,a2,a3,a4,a5,a6,a7,a8,a9,az⟩:=blk10 (Ze HW.out.2.1 HB1.out);obtain ⟨s0,s1,s2,s3⟩:=blk4w (Ze HW.out.2.2.1 HB1.out);cases hp:ps.findIdx? (isNameP x1) with
 | none =>
  have HL:Hid (surR bud ps ss ⟨x0,x1,x2,x3⟩=true):=by show _=_;simp only [surR,(ZB _ _).2 hp]
  clear hp;unfold optI;go_wp2_with fail
  go_ret
  exact ⟨Zl HL.out.symm,Za HW.out.2.2.2 HB1.out⟩
 | some p =>
  obtain ⟨⟨y0,y1,y2,y3⟩,hy,hfy⟩:=ZP hp;have hpn:(p:Int)<(n1:Int):=by
   have:=(List.getElem?_eq_some_iff.1 hy).1;rw [HLN.out.1] at this;omega
  have h0p:(0:Int)≤(p:Int):=by omega
  have hnp:¬(p:Int)<0:=by omega
  have HL:Hid (surR bud ps ss ⟨x0,x1,x2,x3⟩=((x2 != y3)||decide (y1<(cntG (isPoolV x1) ss:Int))||decide (bud<(n2:Int)))):=by show _=_;simp only [surR,hfy,HLN.out.2]
  have HY:=hideIt hy;clear hp hy hfy;unfold optI;go_wp2_with fail
  refine (HCT.out w1 HB1.out).mono ?_;rintro e w2 ⟨rfl,hb2⟩;have HB2:=hideIt (Za HB1.out hb2);clear hb2 a0 a1 a2 a3 a4 a5 a6 a7 a8 a9 az s0 s1 s2 s3;obtain ⟨ct,hct⟩:∃ ct:Nat,cntG (isPoolV x1) ss=ct:=⟨_,rfl⟩;rw [hct] at HL ⊢;clear hct;obtain ⟨a0,a1,a2,a3,a4,a5,a6,a7,a8,a9,az⟩:=blk10 (Ze HW.out.2.1 HB2.out);obtain ⟨pb,pf,hpo,g0,g1,g2,g3⟩:=HPL.out w2 p _ HB2.out HY.out;subst hpo;simp only at g0 g1 g2 g3;obtain ⟨V,hV⟩:∃ V,V=w2.alloc (bPl ⟨y0,y1,y2,y3⟩):=⟨_,rfl⟩;have HV:Hid (V=w2.alloc (bPl ⟨y0,y1,y2,y3⟩)∧Below W.heap.size W V∧V.heap[w2.heap.size]?=some (bPl ⟨y0,y1,y2,y3⟩)):=⟨hV,by rw [hV];exact Za HB2.out (Zb _ _),by rw [hV];exact Zc _ _ rfl⟩;clear hV;go_upto_region 7 with fail
  rw [←HV.out.1];clear a0 a1 a2 a3 a4 a5 a6 a7 a8 a9 az g0 g1 g2 g3;obtain ⟨a0,a1,a2,a3,a4,a5,a6,a7,a8,a9,az⟩:=blk10 (Ze HW.out.2.1 HV.out.2.1);obtain ⟨s0,s1,s2,s3⟩:=blk4w (Ze HW.out.2.2.1 HV.out.2.1);obtain ⟨z0,z1,z2,z3⟩:=blk4w HV.out.2.2;cases hq1':(x2 != y3) with
  | true =>
   rw [hq1'] at HL;go_wp2_with fail
   go_ret
   exact ⟨Zl (by rw [HL.out];rfl),Za HW.out.2.2.2 HV.out.2.1⟩
  | false =>
   rw [hq1'] at HL;by_cases h2:y1<(ct:Int)
   ·go_wp2_with fail
    go_ret
    exact ⟨Zl (by rw [HL.out,decide_eq_true h2];rfl),Za HW.out.2.2.2 HV.out.2.1⟩
   ·go_wp2_with fail
    go_ret
    exact ⟨Zl (by rw [HL.out,decide_eq_false (show ¬y1<(ct:Int) by omega)];simp),Za HW.out.2.2.2 HV.out.2.1⟩
theorem ZiG (S:Sta) (s:Srv) (c:Int):surR S.bud S.pools S.srv {s with client:=c}=isSur S s:=by
 unfold surR isSur;simp only;cases S.pools.find? (isNameP s.pool) with
 | none=>rfl
 | some x =>
  simp only;congr 2
theorem Zan (c:Int):okCli c=decide (1≤c∧c≤99):=by
 unfold okCli;by_cases h1:1≤c <;> by_cases h2:c≤99 <;> simp [h1,h2] <;> omega
theorem Z2 {w w':World} {S T:Sta} {u v:Stv} {Y Z:Int×List Pl} {ho ho':Option Addr} {hc hc':Nat} (h:OwnW w.heap.size w' T v Z ho' hc') (hb:Below w.heap.size w w'):RefG w w' S u Y ho hc T v Z ho' hc':=by
 refine ⟨⟨⟨Zd h.p,Zd h.s,Zd h.q,Zd h.t⟩,Zd h.h,?_⟩,?_,hb⟩
 ·rintro g ((hg | hg | hg | hg) | hg)
  ·exact (h.p.lt g hg).2
  ·exact (h.s.lt g hg).2
  ·exact (h.q.lt g hg).2
  ·exact (h.t.lt g hg).2
  ·exact (h.h.lt g hg).2
 ·rintro g ((hg | hg | hg | hg) | hg)
  ·exact .inr (h.p.lt g hg).1
  ·exact .inr (h.s.lt g hg).1
  ·exact .inr (h.q.lt g hg).1
  ·exact .inr (h.t.lt g hg).1
  ·exact .inr (h.h.lt g hg).1
theorem RefOk.sml {S:Sta} {op:Int} {Y:Int×List Pl} (hk:RefOk S op Y):Sml S Y:=by
 have h:=hk.num;exact ⟨hk.pools,by omega,by omega,hk.plan,hk.home⟩
def LvG (w w':World) (S:Sta) (u:Stv) (Y:Int×List Pl) (ho:Option Addr) (hc:Nat) (r:Res) (e:Ending):Prop:=
 ∃ u' ho' hc',e=.returned (.tuple #[wdA r.S u' r.op Y ho' hc',.int .i64 (r.err:Int)])∧RefG w w' S u Y ho hc r.S u' Y ho' hc'
def AskR (w w':World) (S:Sta) (u:Stv) (Y:Int×List Pl) (ho:Option Addr) (hc:Nat) (r:Res) (e:Ending):Prop:=
 ∃ u' ho' hc',e=.returned (.tuple #[wdA r.S u' r.op Y ho' hc',.int .i64 r.id,.int .i64 (r.err:Int)])∧RefG w w' S u Y ho hc r.S u' Y ho' hc'
theorem xLeave (S:Sta) (u:Stv) (nx:Int) (Y:Int×List Pl) (ho:Option Addr) (hc:Nat) (c:Int) (w:World) (h:WdAt w S u Y ho hc) (hm:Sml S Y) :
  Calls Tryz.prog 39 #[wdA S u nx Y ho hc,.int .i64 c] w fun e w'=>LvG w w' S u Y ho hc (rLeave S nx c) e:=by
 obtain ⟨W,HW⟩:=ZH w (bW S u nx Y ho hc);have HH:=hideIt h;have HM:=hideIt hm;have HO:=hideIt (h.rows.nx HW.out.bel);have hW:w.heap.size+2≤W.heap.size:=by rw [HW.out.eq];simp
 have HWT:=hideIt (rWaits S.bud u.po S.pools.length u.pc u.so S.srv.length u.sc u.wo S.wts.length u.wc u.tqo S.plan.length u.tc S.begun S.back nx Y.1 ho Y.2.length hc c S.wts W HO.out.q rfl (by have:=hm.q;unfold maxLen;omega));have HLE:=hideIt (fun v i (hb:Below W.heap.size W v)=>xLeft S u nx Y ho hc v i (HO.out.nx hb) hm);clear h hm;unfold wdA;go_enter Tryz.func39,Tryz.ntmps39
 go_wp2_with fail
 rw [←HW.out.eq];refine (Zd8 c 1 99 W).mono ?_;rintro e w1 ⟨rfl,h1⟩;obtain rfl:=h1.symm;clear h1;obtain ⟨a0,a1,a2,a3,a4,a5,a6,a7,a8,a9,az⟩:=blk10 (Ze HW.out.b0 (Below.refl _ W));obtain ⟨r0,r1,r2,r3,r4,r5,r6,r7,r8,r9,rz⟩:=blk10 (Ze HW.out.b1 (Below.refl _ W));by_cases hc1:1≤c∧c≤99
 ·rw [decide_eq_true hc1];have HOK:Hid (okCli c=true):=by rw [Zan];exact decide_eq_true hc1
  clear hc1;go_wp2_with fail
  refine HWT.out.mono ?_;rintro e w2 ⟨rfl,hb2⟩;have HB2:=hideIt hb2;clear hb2 a0 a1 a2 a3 a4 a5 a6 a7 a8 a9 az r0 r1 r2 r3 r4 r5 r6 r7 r8 r9 rz;obtain ⟨a0,a1,a2,a3,a4,a5,a6,a7,a8,a9,az⟩:=blk10 (Ze HW.out.b0 HB2.out);obtain ⟨r0,r1,r2,r3,r4,r5,r6,r7,r8,r9,rz⟩:=blk10 (Ze HW.out.b1 HB2.out);cases hl:S.wts.findIdx? (isCliW c) with
  | none =>
   have HQ:Hid (rLeave S nx c=⟨S,nx,0,14⟩):=by show _=_;unfold rLeave;rw [HOK.out,hl];rfl
   unfold optI;clear hl;go_wp2_with fail
   obtain ⟨FW,hFW,HF⟩:=ZE HW.out HB2.out S u nx Y ho hc;unfold stS st10 at hFW;rw [hFW];obtain ⟨f0,f1,f2,f3,f4,f5,f6,f7,f8,f9,fz⟩:=blk10 HF.out.1;clear hFW;refine bodyPost_ret (v:=.tuple #[wdA S u nx Y ho hc,.int .i64 14]) (by simp [results,Tryz.results39,go_sem,f0,f1,f2,f3,f4,f5,f6,f7,f8,f9]) rfl ?_;rw [HQ.out];exact ⟨u,ho,hc,rfl,RefG.same HH.out HF.out.2⟩
  | some l =>
   obtain ⟨T,hT⟩:∃ T,rLeft S l=T:=⟨_,rfl⟩;have HQ:Hid (rLeave S nx c=⟨T,nx,0,0⟩):=by show _=_;unfold rLeave;rw [HOK.out,hl,←hT];rfl
   have HLT:=hideIt (HLE.out w2 l HB2.out);rw [hT] at HLT;have hnl:¬(l:Int)<0:=by omega
   unfold optI;clear hl hT;go_wp2_with fail
   refine HLT.out.mono ?_;rintro e w3 ⟨u3,ho3,hc3,rfl,o3,hb3⟩;have HB3:=hideIt (Za HB2.out hb3);have HO3:=hideIt (o3.mono (show W.heap.size≤w2.heap.size from HB2.out.size));clear o3 hb3 a0 a1 a2 a3 a4 a5 a6 a7 a8 a9 az r0 r1 r2 r3 r4 r5 r6 r7 r8 r9 rz;obtain ⟨r0,r1,r2,r3,r4,r5,r6,r7,r8,r9,rz⟩:=blk10 (Ze HW.out.b1 HB3.out);go_wp2_with fail
   obtain ⟨FW,hFW,HF⟩:=Zz HW.out HB3.out HO3.out nx;unfold stS st10 at hFW;rw [hFW];obtain ⟨f0,f1,f2,f3,f4,f5,f6,f7,f8,f9,fz⟩:=blk10 HF.out.1;clear hFW;refine bodyPost_ret (v:=.tuple #[wdA T u3 nx Y ho3 hc3,.int .i64 0]) (by simp [results,Tryz.results39,go_sem,f0,f1,f2,f3,f4,f5,f6,f7,f8,f9]) rfl ?_;rw [HQ.out];exact ⟨u3,ho3,hc3,rfl,Z2 (HF.out.2.2.mono (by omega)) HF.out.2.1⟩
 ·rw [decide_eq_false hc1];have HQ:Hid (rLeave S nx c=⟨S,nx,0,10⟩):=by show _=_;unfold rLeave;rw [Zan,decide_eq_false hc1];rfl
  clear hc1;go_wp2_with fail
  obtain ⟨FW,hFW,HF⟩:=ZE HW.out (Below.refl _ W) S u nx Y ho hc;unfold stS st10 at hFW;rw [hFW];obtain ⟨f0,f1,f2,f3,f4,f5,f6,f7,f8,f9,fz⟩:=blk10 HF.out.1;clear hFW;refine bodyPost_ret (v:=.tuple #[wdA S u nx Y ho hc,.int .i64 10]) (by simp [results,Tryz.results39,go_sem,f0,f1,f2,f3,f4,f5,f6,f7,f8,f9]) rfl ?_;rw [HQ.out];exact ⟨u,ho,hc,rfl,RefG.same HH.out HF.out.2⟩
theorem xCrash (S:Sta) (u:Stv) (nx:Int) (Y:Int×List Pl) (ho:Option Addr) (hc:Nat) (id:Int) (w:World) (h:WdAt w S u Y ho hc) (hm:Sml S Y) (hsq:S.srv.length+S.wts.length+1≤549755813888) (hx0:0≤nx) (hx1:nx+S.wts.length+1≤4611686018427387903) :
  Calls Tryz.prog 41 #[wdA S u nx Y ho hc,.int .i64 id] w fun e w'=>LvG w w' S u Y ho hc (rCrash S nx id) e:=by
 obtain ⟨W,HW⟩:=ZH w (bW S u nx Y ho hc);have HH:=hideIt h;have HM:=hideIt hm;have HO:=hideIt (h.rows.nx HW.out.bel);have hW:w.heap.size+2≤W.heap.size:=by rw [HW.out.eq];simp
 have HCL:=hideIt (fun v i (hb:Below W.heap.size W v)=>xClosed S u nx Y ho hc v i (HO.out.nx hb) hm);obtain ⟨m,hm3⟩:∃ m,S.srv.length=m:=⟨_,rfl⟩;have HM3:=hideIt hm3;have hmq:m≤549755813888:=by rw [←hm3];exact hm.s
 have HB0:Hid (∀ v,Below W.heap.size W v→v.heap[w.heap.size]?=some (bWs (.slice u.so m u.sc) S u nx Y ho hc)):=fun v hb=>by rw [←hm3];exact Ze HW.out.b0 hb
 have HRS:Hid (RowAt W (.slice u.so m u.sc) m (flatV S.srv)):=by rw [←hm3];exact HO.out.s
 clear hm3;clear h hm;unfold wdA;go_enter Tryz.func41,Tryz.ntmps41
 go_wp2_with fail
 rw [←HW.out.eq];go_loopw [6] (fun ix wr=>∃ k:Nat,k≤m∧ix=.int .i64 k∧Hid (∀ y∈S.srv.take k,(fun x:Srv=>x.id == id) y=false)∧Hid (Below W.heap.size W wr)) (fun ix _=>m - (intOf ix).toNat)
 case atStart=>exact ⟨0,Nat.zero_le _,rfl,by intro y hy;simp at hy,Below.refl _ _⟩
 case round =>
  obtain ⟨k,hk,rfl,HT,HB⟩:=hrel;obtain ⟨a0,a1,a2,a3,a4,a5,a6,a7,a8,a9,az⟩:=blk10 (HB0.out wr HB.out);by_cases hlt:k<m
  ·obtain ⟨⟨x0,x1,x2,x3⟩,hp⟩:∃ p,S.srv[k]?=some p:=⟨_,List.getElem?_eq_getElem (by rw [HM3.out];exact hlt)⟩;obtain ⟨bl,off,hao,hbl,c0,c1,c2,c3⟩:=ZN (HRS.out.nx HB.out) hp;rw [hao] at a2;simp only at c0 c1 c2 c3;have hlti:(k:Int)<(m:Int):=by omega
   clear hao;cases hq:(x0 == id) with
   | true =>
    obtain ⟨T,hT⟩:∃ T,rClosed S k=T:=⟨_,rfl⟩;have HQ:Hid (rCrash S nx id=⟨(rServed S.wts.length T nx).1,(rServed S.wts.length T nx).2,0,0⟩):=by
     show _=_;unfold rCrash;rw [Zaq HT.out hp hq,←hT]
    have HMT:Hid (Sml T Y∧T.wts.length=S.wts.length∧T.srv.length≤S.srv.length):=by
     rw [←hT];exact ⟨⟨HM.out.p,Nat.le_trans (List.length_eraseIdx_le _ _) HM.out.s,HM.out.q,HM.out.t,HM.out.h⟩,rfl,List.length_eraseIdx_le _ _⟩
    have HLT:=hideIt (HCL.out wr k HB.out);rw [hT] at HLT;clear hp hT;go_upto_region 5 with fail
    clear a0 a1 a2 a3 a4 a5 a6 a7 a8 a9 az c0 c1 c2 c3;obtain ⟨a0,a1,a2,a3,a4,a5,a6,a7,a8,a9,az⟩:=blk10 (Ze HW.out.b0 HB.out);go_wp2_with fail
    refine HLT.out.mono ?_;rintro e w3 ⟨u3,ho3,hc3,rfl,o3,hb3⟩;obtain ⟨U,hU,HU⟩:=ZS o3 nx;have HBU:=hideIt (Za HB.out (Za hb3 HU.out.2.2.1));have HOU:=hideIt (HU.out.2.2.2.mono (show W.heap.size≤wr.heap.size from HB.out.size));clear hU o3 hb3 a0 a1 a2 a3 a4 a5 a6 a7 a8 a9 az;go_upto_region 6 with fail
    rw [←HU.out.1];obtain ⟨a0,a1,a2,a3,a4,a5,a6,a7,a8,a9,az⟩:=blk10 HU.out.2.1;obtain ⟨⟨R,t⟩,hR⟩:∃ R,rServed S.wts.length T nx=R:=⟨_,rfl⟩;have HSV:Hid (Calls Tryz.prog 52 #[wdA T u3 nx Y ho3 hc3] U fun e w'=>GaveS W.heap.size U w' R t Y e):=by
     have:=xServed W.heap.size S.wts.length T u3 nx Y ho3 hc3 U HBU.out.size HOU.out HMT.out.1 (by have:=HMT.out.2;omega) (by have:=HMT.out.2;omega) hx0 (by omega);rw [hR] at this;exact this
    have HQ2:Hid (rCrash S nx id=⟨R,t,0,0⟩):=by
     have h:=HQ.out;rw [hR] at h;exact h
    clear hR HQ;go_wp2_with fail
    refine HSV.out.mono ?_;rintro e w9 ⟨u9,ho9,hc9,rfl,o9,hb9⟩;have HB9:=hideIt (Za HBU.out hb9);have HO9:=hideIt o9;clear o9 hb9 a0 a1 a2 a3 a4 a5 a6 a7 a8 a9 az;obtain ⟨r0,r1,r2,r3,r4,r5,r6,r7,r8,r9,rz⟩:=blk10 (Ze HW.out.b1 HB9.out);go_wp2_with fail
    obtain ⟨FW,hFW,HF⟩:=Zz HW.out HB9.out HO9.out t;unfold stS st10 at hFW;rw [hFW];obtain ⟨f0,f1,f2,f3,f4,f5,f6,f7,f8,f9,fz⟩:=blk10 HF.out.1;clear hFW;refine bodyPost_ret (v:=.tuple #[wdA R u9 t Y ho9 hc9,.int .i64 0]) (by simp [results,Tryz.results41,go_sem,f0,f1,f2,f3,f4,f5,f6,f7,f8,f9]) rfl ?_;rw [HQ2.out];exact ⟨u9,ho9,hc9,rfl,Z2 (HF.out.2.2.mono (by omega)) HF.out.2.1⟩
   | false =>
    have HN2:=hideIt (ZK (p:=fun x:Srv=>x.id == id) HT.out hp hq);clear hp;go_wp2_with fail
    go_roundw
    case rel=>exact ⟨k+1,by omega,by go_num,HN2.out,HB.out⟩
    case measure=>simp [intOf];omega
  ·have HQ:Hid (rCrash S nx id=⟨S,nx,0,15⟩):=by
    show _=_;unfold rCrash;rw [Zad (fun y hy=>HT.out y (by rw [List.take_of_length_le (by rw [HM3.out];omega)];exact hy))]
   go_upto_region 7 with fail
   clear a0 a1 a2 a3 a4 a5 a6 a7 a8 a9 az;obtain ⟨a0,a1,a2,a3,a4,a5,a6,a7,a8,a9,az⟩:=blk10 (Ze HW.out.b0 HB.out);obtain ⟨r0,r1,r2,r3,r4,r5,r6,r7,r8,r9,rz⟩:=blk10 (Ze HW.out.b1 HB.out);go_wp2_with fail
   obtain ⟨FW,hFW,HF⟩:=ZE HW.out HB.out S u nx Y ho hc;unfold stS st10 at hFW;rw [hFW];obtain ⟨f0,f1,f2,f3,f4,f5,f6,f7,f8,f9,fz⟩:=blk10 HF.out.1;clear hFW;refine bodyPost_ret (v:=.tuple #[wdA S u nx Y ho hc,.int .i64 15]) (by simp [results,Tryz.results41,go_sem,f0,f1,f2,f3,f4,f5,f6,f7,f8,f9]) rfl ?_;rw [HQ.out];exact ⟨u,ho,hc,rfl,RefG.same HH.out HF.out.2⟩
theorem xDone (S:Sta) (u:Stv) (nx:Int) (Y:Int×List Pl) (ho:Option Addr) (hc:Nat) (c:Int) (w:World) (h:WdAt w S u Y ho hc) (hm:Sml S Y) (hsq:S.srv.length+S.wts.length+1≤549755813888) (hx0:0≤nx) (hx1:nx+S.wts.length+1≤4611686018427387903) :
  Calls Tryz.prog 37 #[wdA S u nx Y ho hc,.int .i64 c] w fun e w'=>LvG w w' S u Y ho hc (rDone S nx c) e:=by
 obtain ⟨W,HW⟩:=ZH w (bW S u nx Y ho hc);have HH:=hideIt h;have HM:=hideIt hm;have HO:=hideIt (h.rows.nx HW.out.bel);have hW:w.heap.size+2≤W.heap.size:=by rw [HW.out.eq];simp
 have HHO:=hideIt (rHolds S.bud u.po S.pools.length u.pc u.so S.srv.length u.sc u.wo S.wts.length u.wc u.tqo S.plan.length u.tc S.begun S.back nx Y.1 ho Y.2.length hc c S.srv W HO.out.s rfl (by have:=hm.s;unfold maxLen;omega));have HCO:=hideIt (fun v (hb:Below W.heap.size W v)=>xCopied S u nx Y ho hc v (HO.out.nx hb) hm);clear h hm;unfold wdA;go_enter Tryz.func37,Tryz.ntmps37
 go_wp2_with fail
 rw [←HW.out.eq];refine (Zd8 c 1 99 W).mono ?_;rintro e w1 ⟨rfl,h1⟩;obtain rfl:=h1.symm;clear h1;obtain ⟨a0,a1,a2,a3,a4,a5,a6,a7,a8,a9,az⟩:=blk10 (Ze HW.out.b0 (Below.refl _ W));obtain ⟨r0,r1,r2,r3,r4,r5,r6,r7,r8,r9,rz⟩:=blk10 (Ze HW.out.b1 (Below.refl _ W));by_cases hc1:1≤c∧c≤99
 ·rw [decide_eq_true hc1];have HOK:Hid (okCli c=true):=by rw [Zan];exact decide_eq_true hc1
  clear hc1;go_wp2_with fail
  refine HHO.out.mono ?_;rintro e w2 ⟨rfl,hb2⟩;have HB2:=hideIt hb2;clear hb2 a0 a1 a2 a3 a4 a5 a6 a7 a8 a9 az r0 r1 r2 r3 r4 r5 r6 r7 r8 r9 rz;obtain ⟨a0,a1,a2,a3,a4,a5,a6,a7,a8,a9,az⟩:=blk10 (Ze HW.out.b0 HB2.out);obtain ⟨r0,r1,r2,r3,r4,r5,r6,r7,r8,r9,rz⟩:=blk10 (Ze HW.out.b1 HB2.out);cases hl:S.srv.findIdx? (isCliV c) with
  | none =>
   have HQ:Hid (rDone S nx c=⟨S,nx,0,14⟩):=by show _=_;unfold rDone;rw [HOK.out,hl];rfl
   unfold optI;clear hl;go_wp2_with fail
   obtain ⟨FW,hFW,HF⟩:=ZE HW.out HB2.out S u nx Y ho hc;unfold stS st10 at hFW;rw [hFW];obtain ⟨f0,f1,f2,f3,f4,f5,f6,f7,f8,f9,fz⟩:=blk10 HF.out.1;clear hFW;refine bodyPost_ret (v:=.tuple #[wdA S u nx Y ho hc,.int .i64 14]) (by simp [results,Tryz.results37,go_sem,f0,f1,f2,f3,f4,f5,f6,f7,f8,f9]) rfl ?_;rw [HQ.out];exact ⟨u,ho,hc,rfl,RefG.same HH.out HF.out.2⟩
  | some k =>
   obtain ⟨y,hy,_⟩:=ZP hl;have HY:=hideIt hy;obtain ⟨D,hD⟩:∃ D,rSet S k 0=D:=⟨_,rfl⟩;have HDY:Hid (D.srv[k]?=some ⟨y.id,y.pool,y.far,0⟩∧D.srv.length=S.srv.length∧D.wts=S.wts∧Sml D Y):=by
    rw [←hD];have hl:(S.srv.modify k (fun x=>{x with client:=0})).length=S.srv.length:=List.length_modify _ _ _;exact ⟨Zeh S.srv k 0 y hy,hl,rfl,⟨HM.out.p,by show (S.srv.modify k _).length≤_;rw [hl];exact HM.out.s,HM.out.q,HM.out.t,HM.out.h⟩⟩
   have HQD:Hid (∀ T,(if isSur D y=true then rClosed D k else D)=T→rDone S nx c=⟨(rServed S.wts.length T nx).1,(rServed S.wts.length T nx).2,0,0⟩):=by
    intro T hT;unfold rDone;rw [HOK.out,hl];simp only [hy,hD,hT];rfl
   have hkn:(k:Int)<(S.srv.length:Int):=by
    have:=(List.getElem?_eq_some_iff.1 hy).1;omega
   have h0k:(0:Int)≤(k:Int):=by omega
   have hnk:¬(k:Int)<0:=by omega
   have HD:=hideIt hD;unfold optI;clear hl hy hD;go_wp2_with fail
   refine (HCO.out w2 HB2.out).mono ?_;rintro e w3 ⟨u3,ho3,hc3,rfl,o3,hb3⟩;obtain ⟨U,hU,HU⟩:=ZS (o3.mono (show W.heap.size≤w2.heap.size from HB2.out.size)) nx;obtain ⟨g,hg⟩:∃ g,w3.heap.size=g:=⟨_,rfl⟩;have HBU:=hideIt (Za HB2.out (Za hb3 HU.out.2.2.1));have hWg:W.heap.size≤g:=by rw [←hg];exact Nat.le_trans HB2.out.size hb3.size
   rw [hg] at HU;have HG:=hideIt hg;clear hU o3 hb3 hg a0 a1 a2 a3 a4 a5 a6 a7 a8 a9 az r0 r1 r2 r3 r4 r5 r6 r7 r8 r9 rz;go_upto_region 8 with fail
   rw [←HU.out.1,HG.out];obtain ⟨a0,a1,a2,a3,a4,a5,a6,a7,a8,a9,az⟩:=blk10 HU.out.2.1;obtain ⟨gs,gf,hgo,hgs,t0,t1,t2,t3⟩:=ZN (Zd HU.out.2.2.2.s) HY.out;have hgf:gf=0:=by
    have h:=HU.out.2.2.2.s;rw [hgo] at h;exact Zat h
   subst hgf;simp only [Nat.zero_add] at t0 t1 t2 t3;have hzf:∀ a,U.frozen? ⟨gs,a,none⟩=false:=by
    have h:=HU.out.2.2.2.s;rw [hgo] at h;exact fun a=>h.frozenAt a
   rw [hgo] at a2;obtain ⟨X,hX⟩:∃ X,X=U.setCell ⟨gs,k*4+3,none⟩ (.int .i64 0):=⟨_,rfl⟩;have hGl:W.heap.size≤gs:=(HU.out.2.2.2.s.lt gs (by rw [hgo];rfl)).1;have HBX:Hid (Below W.heap.size W X):=by rw [hX];exact HBU.out.setCell (by show W.heap.size≤gs;exact hGl) _
   have HOX:Hid (OwnW W.heap.size X D u3 Y ho3 hc3):=by
    rw [hX,←HD.out];exact ZgD HU.out.2.2.2 (Nat.le_refl _) hgo HY.out
   have HXX:Hid (X=U.setCell ⟨gs,k*4+3,none⟩ (.int .i64 0)∧X.heap[g]?=some (bW D u3 nx Y ho3 hc3)):=by
    refine ⟨hX,?_⟩;have hne:g≠gs:=fun e=>Zs HU.out.2.2.2.s HU.out.2.1 (by decide) (by rw [hgo,e];rfl)
    rw [hX,←HD.out];show _=some (bWs (.slice u3.so (S.srv.modify k (fun x=>{x with client:=0})).length u3.sc) S u3 nx Y ho3 hc3);rw [List.length_modify];exact (Below.heap_setCell _ _ _ _ hne).trans HU.out.2.1
   clear hX hgo;go_upto_region 9 with fail
   rw [←HXX.out.1];clear a0 a1 a2 a3 a4 a5 a6 a7 a8 a9 az t0 t1 t2 t3 hzf;obtain ⟨a0,a1,a2,a3,a4,a5,a6,a7,a8,a9,az⟩:=blk10 HXX.out.2;have HSU:=hideIt (Zf4 D.bud u3.po D.pools.length u3.pc u3.so D.srv.length u3.sc u3.wo D.wts.length u3.wc u3.tqo D.plan.length u3.tc D.begun D.back nx Y.1 ho3 Y.2.length hc3 D.pools D.srv X k y.id y.pool y.far 0 HOX.out.rows.p rfl (by have:=HDY.out.2.2.2.p;omega) HOX.out.rows.s rfl (by have:=HDY.out.2.2.2.s;omega) HDY.out.1);rw [show surR D.bud D.pools D.srv ⟨y.id,y.pool,y.far,0⟩=isSur D y from ZiG D y 0] at HSU;go_wp2_with fail
   refine HSU.out.mono ?_;rintro e w4 ⟨rfl,hb4⟩;have HB4:=hideIt (Za HBX.out hb4);have HX4:=hideIt (Ze HXX.out.2 hb4);have HO4:=hideIt (HOX.out.nx hb4);clear hb4 a0 a1 a2 a3 a4 a5 a6 a7 a8 a9 az;obtain ⟨a0,a1,a2,a3,a4,a5,a6,a7,a8,a9,az⟩:=blk10 HX4.out;obtain ⟨d,hd⟩:∃ d,isSur D y=d:=⟨_,rfl⟩;rw [hd] at HQD ⊢;clear hd;cases d with
   | false =>
    have HQ:=hideIt (HQD.out D rfl);have HMT:Hid (Sml D Y∧D.wts.length=S.wts.length∧D.srv.length≤S.srv.length):=⟨HDY.out.2.2.2,by rw [HDY.out.2.2.1],Nat.le_of_eq HDY.out.2.1⟩;obtain ⟨⟨R,t⟩,hR⟩:∃ R,rServed S.wts.length D nx=R:=⟨_,rfl⟩;have HSV:Hid (Calls Tryz.prog 52 #[wdA D u3 nx Y ho3 hc3] w4 fun e w'=>GaveS W.heap.size w4 w' R t Y e):=by
     have:=xServed W.heap.size S.wts.length D u3 nx Y ho3 hc3 w4 HB4.out.size HO4.out HMT.out.1 (by have:=HMT.out.2;omega) (by have:=HMT.out.2;omega) hx0 (by omega);rw [hR] at this;exact this
    have HQ2:Hid (rDone S nx c=⟨R,t,0,0⟩):=by
     have h:=HQ.out;rw [hR] at h;exact h
    clear hR HQ;go_wp2_with fail
    refine HSV.out.mono ?_;rintro e w9 ⟨u9,ho9,hc9,rfl,o9,hb9⟩;have HB9:=hideIt (Za HB4.out hb9);have HO9:=hideIt o9;clear o9 hb9 a0 a1 a2 a3 a4 a5 a6 a7 a8 a9 az;obtain ⟨r0,r1,r2,r3,r4,r5,r6,r7,r8,r9,rz⟩:=blk10 (Ze HW.out.b1 HB9.out);go_wp2_with fail
    obtain ⟨FW,hFW,HF⟩:=Zz HW.out HB9.out HO9.out t;unfold stS st10 at hFW;rw [hFW];obtain ⟨f0,f1,f2,f3,f4,f5,f6,f7,f8,f9,fz⟩:=blk10 HF.out.1;clear hFW;refine bodyPost_ret (v:=.tuple #[wdA R u9 t Y ho9 hc9,.int .i64 0]) (by simp [results,Tryz.results37,go_sem,f0,f1,f2,f3,f4,f5,f6,f7,f8,f9]) rfl ?_;rw [HQ2.out];exact ⟨u9,ho9,hc9,rfl,Z2 (HF.out.2.2.mono (by omega)) HF.out.2.1⟩
   | true =>
    obtain ⟨T,hT⟩:∃ T,rClosed D k=T:=⟨_,rfl⟩;have HQ:=hideIt (HQD.out T hT);have HMT:Hid (Sml T Y∧T.wts.length=S.wts.length∧T.srv.length≤S.srv.length):=by
     rw [←hT];have h:=HDY.out.2.2.2;exact ⟨⟨h.p,Nat.le_trans (List.length_eraseIdx_le _ _) h.s,h.q,h.t,h.h⟩,by show D.wts.length=_;rw [HDY.out.2.2.1],by rw [←HDY.out.2.1];exact List.length_eraseIdx_le _ _⟩
    have HCL:Hid (Calls Tryz.prog 71 #[wdA D u3 nx Y ho3 hc3,.int .i64 k] w4 fun e w'=>GaveS w4.heap.size w4 w' T nx Y e):=by rw [←hT];exact xClosed D u3 nx Y ho3 hc3 w4 k HO4.out.rows HDY.out.2.2.2
    clear hT;go_wp2_with fail
    refine HCL.out.mono ?_;rintro e w6 ⟨u6,ho6,hc6,rfl,o6,hb6⟩;have hx6:=Ze HX4.out hb6;obtain ⟨Z,hZ,HZ⟩:=Zbg (o6.mono (show W.heap.size≤w4.heap.size from HB4.out.size)) rfl hx6 nx;have HQZ:=Zbd hZ;have HBZ:Hid (Below W.heap.size W Z):=HZ.out.2.1 _ _ (Za HB4.out hb6) hWg;clear o6 hb6 a0 a1 a2 a3 a4 a5 a6 a7 a8 a9 az hZ;obtain ⟨a0,a1,a2,a3,a4,a5,a6,a7,a8,a9,az⟩:=blk10 hx6;clear hx6;unfold stS st10 at HQZ;go_upto_region 12 with fail
    rw [HQZ.out];clear a0 a1 a2 a3 a4 a5 a6 a7 a8 a9 az HQZ;obtain ⟨a0,a1,a2,a3,a4,a5,a6,a7,a8,a9,az⟩:=blk10 HZ.out.1;obtain ⟨⟨R,t⟩,hR⟩:∃ R,rServed S.wts.length T nx=R:=⟨_,rfl⟩;have HSV:Hid (Calls Tryz.prog 52 #[wdA T u6 nx Y ho6 hc6] Z fun e w'=>GaveS W.heap.size Z w' R t Y e):=by
     have:=xServed W.heap.size S.wts.length T u6 nx Y ho6 hc6 Z HBZ.out.size HZ.out.2.2 HMT.out.1 (by have:=HMT.out.2;omega) (by have:=HMT.out.2;omega) hx0 (by omega);rw [hR] at this;exact this
    have HQ2:Hid (rDone S nx c=⟨R,t,0,0⟩):=by
     have h:=HQ.out;rw [hR] at h;exact h
    clear hR HQ;go_wp2_with fail
    refine HSV.out.mono ?_;rintro e w9 ⟨u9,ho9,hc9,rfl,o9,hb9⟩;have HB9:=hideIt (Za HBZ.out hb9);have HO9:=hideIt o9;clear o9 hb9 a0 a1 a2 a3 a4 a5 a6 a7 a8 a9 az;obtain ⟨r0,r1,r2,r3,r4,r5,r6,r7,r8,r9,rz⟩:=blk10 (Ze HW.out.b1 HB9.out);go_wp2_with fail
    obtain ⟨FW,hFW,HF⟩:=Zz HW.out HB9.out HO9.out t;unfold stS st10 at hFW;rw [hFW];obtain ⟨f0,f1,f2,f3,f4,f5,f6,f7,f8,f9,fz⟩:=blk10 HF.out.1;clear hFW;refine bodyPost_ret (v:=.tuple #[wdA R u9 t Y ho9 hc9,.int .i64 0]) (by simp [results,Tryz.results37,go_sem,f0,f1,f2,f3,f4,f5,f6,f7,f8,f9]) rfl ?_;rw [HQ2.out];exact ⟨u9,ho9,hc9,rfl,Z2 (HF.out.2.2.mono (by omega)) HF.out.2.1⟩
 ·rw [decide_eq_false hc1];have HQ:Hid (rDone S nx c=⟨S,nx,0,10⟩):=by show _=_;unfold rDone;rw [Zan,decide_eq_false hc1];rfl
  clear hc1;go_wp2_with fail
  obtain ⟨FW,hFW,HF⟩:=ZE HW.out (Below.refl _ W) S u nx Y ho hc;unfold stS st10 at hFW;rw [hFW];obtain ⟨f0,f1,f2,f3,f4,f5,f6,f7,f8,f9,fz⟩:=blk10 HF.out.1;clear hFW;refine bodyPost_ret (v:=.tuple #[wdA S u nx Y ho hc,.int .i64 10]) (by simp [results,Tryz.results37,go_sem,f0,f1,f2,f3,f4,f5,f6,f7,f8,f9]) rfl ?_;rw [HQ.out];exact ⟨u,ho,hc,rfl,RefG.same HH.out HF.out.2⟩
theorem refLeave (c:Int) (S:Sta) (op:Int) (Y:Int×List Pl) (u:Stv) (ho:Option Addr) (hc:Nat) (w:World) (h:WdAt w S u Y ho hc) (hk:RefOk S op Y) :
  Calls Tryz.prog 39 #[wdA S u (op+1) Y ho hc,.int .i64 c] w fun e w'=>LvG w w' S u Y ho hc (rLeave S (op+1) c) e:=
 xLeave S u (op+1) Y ho hc c w h hk.sml
theorem refDone (c:Int) (S:Sta) (op:Int) (Y:Int×List Pl) (u:Stv) (ho:Option Addr) (hc:Nat) (w:World) (h:WdAt w S u Y ho hc) (hk:RefOk S op Y) :
  Calls Tryz.prog 37 #[wdA S u (op+1) Y ho hc,.int .i64 c] w fun e w'=>LvG w w' S u Y ho hc (rDone S (op+1) c) e:=
 xDone S u (op+1) Y ho hc c w h hk.sml (by have:=hk.num;omega) hk.num.2.2.2.1 (by have:=hk.num;have:=hk.pot1;unfold pot at this;simp only at this;omega)
theorem refCrash (c:Int) (S:Sta) (op:Int) (Y:Int×List Pl) (u:Stv) (ho:Option Addr) (hc:Nat) (w:World) (h:WdAt w S u Y ho hc) (hk:RefOk S op Y) :
  Calls Tryz.prog 41 #[wdA S u (op+1) Y ho hc,.int .i64 c] w fun e w'=>LvG w w' S u Y ho hc (rCrash S (op+1) c) e:=
 xCrash S u (op+1) Y ho hc c w h hk.sml (by have:=hk.num;omega) hk.num.2.2.2.1 (by have:=hk.num;have:=hk.pot1;unfold pot at this;simp only at this;omega)
end Lw
end Go.Proofs.YtcpikklofilkcaaGreat
