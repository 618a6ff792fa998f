import Derived.Test.YtcpikklofilkcaaGreatNqT
set_option maxRecDepth 100000
set_option maxHeartbeats 16000000
namespace Go.Proofs.YtcpikklofilkcaaGreat
open Go.RowKit
namespace Lw
open Co
structure FndS (W:World) (y:Srv) (g:Nat) (wz:World):Prop where
 new:W.heap.size≤g
 box:wz.heap[g]?=some (bSv y.id y.pool y.far y.client)
 bel:Below W.heap.size W wz
theorem Zkv {W w9:World} {y:Srv} (h:Below W.heap.size W w9):FndS W y w9.heap.size (w9.alloc (bSv y.id y.pool y.far y.client)):=⟨h.size,Zc _ _ rfl,h.alloc h.size _⟩
theorem ZkD {W w9:World} {y z:Srv} (h:Below W.heap.size W w9) (hz:w9.heap[W.heap.size]?=some (bSv z.id z.pool z.far z.client)):FndS W y W.heap.size ((((w9.setCell ⟨W.heap.size,0,none⟩ (.int .i64 y.id)).setCell ⟨W.heap.size,1,none⟩ (.string y.pool)).setCell ⟨W.heap.size,2,none⟩ (.int .i64 y.far)).setCell ⟨W.heap.size,3,none⟩ (.int .i64 y.client)):=
 ⟨Nat.le_refl _,Zg _ _ _ _ _ _ (Zg _ _ _ _ _ _ (Zg _ _ _ _ _ _ (Zg _ _ _ _ _ _ hz))),(((h.setCell (Nat.le_refl _) _).setCell (Nat.le_refl _) _).setCell (Nat.le_refl _) _).setCell (Nat.le_refl _) _⟩
theorem Zgo (S:Sta) (op:Int) (c:Wtr):cGive S op c=match S.pools.find? (isNameP c.pool) with
  | none=>none
  | some x=>match S.srv.find? (fun s=>isPoolV x.nm s&&isCliV 0 s) with
   | some s=>some (cHand S s.id c.client,op)
   | none=>if x.sz≤(cntG (isPoolV x.nm) S.srv:Int) then none else (cRoom S).map (fun T=>(cOpen T op x c.client,op+1)):=by
 unfold cGive cRoom;cases S.pools.find? (isNameP c.pool) with
 | none=>rfl
 | some x =>
  simp only;cases S.srv.find? (fun s=>isPoolV x.nm s&&isCliV 0 s) with
  | some s=>rfl
  | none =>
   simp only;split
   ·rfl
   ·split
    ·rfl
    ·cases S.srv.find? (isCliV 0) with
     | none=>rfl
     | some s =>
      simp only;split <;> rfl
theorem Zjd (S T:Sta) (h:cRoom S=some T):T.srv.length≤S.srv.length:=by
 unfold cRoom at h;split at h
 ·simp at h;rw [←h];exact Nat.le_refl _
 ·split at h
  ·simp at h
  ·split at h
   ·simp at h
   ·simp at h;rw [←h];exact List.length_filter_le _ _
def GaveG (o:Option (Sta×Int)) (w w':World) (gp:Nat) (S:Sta) (X:Aux) (F:Nat→Prop) (e:Ending):Prop:=
 e=.returned (.bool o.isSome)∧Moved w w' gp (o.getD (S,X.op)).1 {X with op:=(o.getD (S,X.op)).2} F
theorem dGive (gp:Nat) (cc:Int) (cp:ByteArray) (S:Sta) (X:Aux) (F:Nat→Prop) (w:World) (h:DeskAt w gp S X F) (hid:∀ x∈S.srv,x.id≠0) (hq:S.srv.length+1≤1099511627776) (hq1:S.pools.length≤1099511627776) (hop:0≤X.op∧X.op<9223372036854775807) :
  Calls Tryz.prog 148 #[.pointer (some ⟨gp,0,none⟩),.agg #[.int .i64 cc,.string cp]] w fun e w'=>GaveG (cGive S X.op ⟨cc,cp⟩) w w' gp S X F e:=by
 obtain ⟨po,pc,so,sc,wo,wc,yo,yc,ho,hc,hx⟩:=h.ex;have hgplt:gp<w.heap.size:=h.lt gp h.gp;obtain ⟨n1,hn1⟩:∃ n,S.pools.length=n:=⟨_,rfl⟩;obtain ⟨n,hn⟩:∃ n,S.srv.length=n:=⟨_,rfl⟩;obtain ⟨bud,hbud⟩:∃ b,S.bud=b:=⟨_,rfl⟩;rw [hn1] at hq1;rw [hn] at hq;have HN:Hid (S.pools.length=n1∧S.srv.length=n∧S.bud=bud):=⟨hn1,hn,hbud⟩;have HX:=hideIt hx;have HH:=hideIt h;obtain ⟨W0,hW0⟩:∃ W0,W0=w.alloc (bWt cc cp):=⟨_,rfl⟩;have hbW:Below w.heap.size w W0:=by rw [hW0];exact Zb _ _
 have K0:Hid (W0=w.alloc (bWt cc cp)∧W0.heap[w.heap.size]?=some (bWt cc cp)∧Below w.heap.size w W0∧w.heap.size<W0.heap.size):=⟨hW0,by rw [hW0];exact Zc _ _ rfl,hbW,by rw [hW0];simp⟩;have hgp0:gp<W0.heap.size:=Nat.lt_of_lt_of_le hgplt hbW.size;have hw0:w.heap.size<W0.heap.size:=K0.out.2.2.2;have hd0:=HX.out.nx hgplt hbW;rw [HN.out.1,HN.out.2.1,HN.out.2.2] at hd0;obtain ⟨⟨⟨xn,xs,xw,xf⟩,okb⟩,hfe⟩:∃ y:Pl×Bool,((S.pools.find? (isNameP cp)).getD zPl,(S.pools.find? (isNameP cp)).isSome)=y:=⟨_,rfl⟩;have HFE:Hid ((S.pools.find? (isNameP cp)).getD zPl=⟨xn,xs,xw,xf⟩∧(S.pools.find? (isNameP cp)).isSome=okb):=⟨congrArg Prod.fst hfe,congrArg Prod.snd hfe⟩;have HF:Hid (∀ u,Below W0.heap.size W0 u→Calls Tryz.prog 105 #[.slice po n1 pc,.string cp] u fun e w'=>e=.returned (.tuple #[.agg #[.string xn,.int .i64 xs,.int .i64 xw,.int .i64 xf],.bool okb])∧Below u.heap.size u w'):=by
  intro u hu;have hr:=Zd HX.out.p.own;rw [HN.out.1] at hr;refine (cFind po n1 pc cp S.pools u ((hr.nx hbW).nx hu) HN.out.1 (by unfold maxLen;omega)).mono ?_;rintro e w' ⟨rfl,hb⟩;refine ⟨?_,hb⟩;rw [Zda,HFE.out.1,HFE.out.2]
 have HM:Hid (∀ u,Below w.heap.size w u→u.heap[gp]?=some (bDesk bud po n1 pc so n sc wo S.wts.length wc X.op ⟨.slice yo S.plan.length yc,S.begun,S.back,X.hb,.slice ho X.hps.length hc⟩)):=by
  intro u hu;have:=HX.out.nx hgplt hu;rw [HN.out.1,HN.out.2.1,HN.out.2.2] at this;exact this
 have HC:Hid (∀ u nm',Below w.heap.size w u→Calls Tryz.prog 123 #[.slice so n sc,.string nm'] u fun e w'=>e=.returned (.int .i64 (cntG (isPoolV nm') S.srv:Int))∧Below u.heap.size u w'):=by
  intro u nm' hu;have hr:=Zd HX.out.s.own;rw [HN.out.2.1] at hr;exact cCountOf so n sc nm' S.srv u (hr.nx hu) HN.out.2.1 (by omega)
 have HKD:Hid (∀ u,Below w.heap.size w u→DeskAt u gp S X F):=fun u hu=>HH.out.keep (G:=fun _=>False) (Chg.of_below hu) (fun _ _ h=>h)
 have HNF:Hid (∀ y,w.heap.size≤y→¬F y):=fun y hy hf=>by have:=HH.out.lt y hf;omega
 have HFI:Hid (∀ u nm',Below w.heap.size w u→Calls Tryz.prog 160 #[.slice so n sc,.string nm'] u fun e w'=>e=.returned (svA (orS (S.srv.find? (fun s=>isPoolV nm' s&&isCliV 0 s))))∧Below u.heap.size u w'):=by
  intro u nm' hu;have hr:=Zd HX.out.s.own;rw [HN.out.2.1] at hr;exact cFirstIdleOf so n sc nm' S.srv u (hr.nx hu) HN.out.2.1 (by omega)
 have HID:=hideIt hid;have HG:=hideIt (Zgo S X.op ⟨cc,cp⟩);have hq':n+1≤1099511627776:=hq;obtain ⟨g0,g1,g2,g3,g4,gz⟩:=blk5d hd0;obtain ⟨b0,b1,bz⟩:=blk2 K0.out.2.1;have n1':=World.new_ne W0 _ g1;have n2':=World.new_ne W0 _ b1;clear h hx hn1 hn hbud hW0 hbW hd0 hfe hid;go_enter Tryz.func148,Tryz.ntmps148
 go_upto_region 1 with fail
 rw [←K0.out.1];go_cut [5,6] (fun p ok wx=>ok=.bool okb∧∃ (g:Nat) (wz:World),p=.pointer (some ⟨g,0,none⟩)∧Hid (Fnd W0 ⟨xn,xs,xw,xf⟩ g wz)∧wz=wx)
 case first =>
  go_region_held3 (fun w'=>w'.cell? ⟨gp,1,none⟩=some (.slice po n1 pc)∧w'.cell? ⟨w.heap.size,1,none⟩=some (.string cp)) (go_keep)
   ((go_at_call 105;refine (HF.out _ (by first | exact (Below.refl _ _).drew | exact (Below.refl _ _).drew.alloc (Nat.le_refl _) _)).mono ?_;rintro e w2 ⟨rfl,hb2⟩;have HB2:Hid (Below W0.heap.size W0 w2):=(by first | exact Za (Below.refl _ _).drew hb2 | exact Za ((Below.refl _ _).drew.alloc (Nat.le_refl _) _) hb2);have q1:=(HB2.out.cell (p:=⟨gp,1,none⟩) hgp0).trans g1;have q2:=(HB2.out.cell (p:=⟨w.heap.size,1,none⟩) hw0).trans b1;have r1:=World.new_ne w2 _ q1;have r2:=World.new_ne w2 _ q2;first | (have HBX:Hid (w2.heap[W0.heap.size]?=some (bPl zPl)):=(hb2.block W0.heap.size (by simp)).trans (Zc W0.drew (bPl zPl) rfl);obtain ⟨k0,k1,k2,k3,kz⟩:=blk4d HBX.out) | skip;clear hb2))
  all_goals
   go_wp2_with fail
   go_meet
   first
   | exact ⟨rfl,_,_,rfl,ZjB HB2.out,rfl⟩
   | exact ⟨rfl,_,_,rfl,ZjA HB2.out HBX.out,rfl⟩
 case rest =>
  obtain ⟨rfl,g,wz,rfl,HFN,rfl⟩:=hcut;have HBZ:Hid (Below w.heap.size w wz):=Za K0.out.2.2.1 HFN.out.bel;have hsb:wz.heap[w.heap.size]?=some (bWt cc cp):=(HFN.out.bel.block _ hw0).trans K0.out.2.1;have hdz:=HM.out wz HBZ.out;clear g0 g1 g2 g3 g4 gz b0 b1 bz n1' n2';obtain ⟨g0,g1,g2,g3,g4,gz⟩:=blk5d hdz;obtain ⟨b0,b1,bz⟩:=blk2 hsb;obtain ⟨p0,p1,p2,p3,pz⟩:=blk4d HFN.out.box;have HSB:=hideIt hsb;clear hdz hsb;cases okb with
  | false =>
   have HR:Hid (cGive S X.op ⟨cc,cp⟩=none):=by
    show _=_;rw [HG.out];cases hf:S.pools.find? (isNameP cp) with
    | none=>rfl
    | some y=>have:=HFE.out.2;rw [hf] at this;simp at this
   go_wp2_with fail
   go_ret
   rw [HR.out];exact ⟨rfl,(Moved.refl HH.out).below HBZ.out⟩
  | true =>
   have HPX:Hid (S.pools.find? (isNameP cp)=some ⟨xn,xs,xw,xf⟩):=by
    show _=_;cases hf:S.pools.find? (isNameP cp) with
    | none=>have:=HFE.out.2;rw [hf] at this;simp at this
    | some y=>have:=HFE.out.1;rw [hf] at this;rw [←this];rfl
   have HZ:=hideIt (Zbc (p:=fun s=>isPoolV xn s&&isCliV 0 s) HID.out);obtain ⟨⟨s0,s1,s2,s3⟩,hse⟩:∃ y,orS (S.srv.find? (fun s=>isPoolV xn s&&isCliV 0 s))=y:=⟨_,rfl⟩;have HSE:=hideIt hse;have HFJ:Hid (∀ u,Below wz.heap.size wz u→Calls Tryz.prog 160 #[.slice so n sc,.string xn] u fun e w'=>e=.returned (.agg #[.int .i64 s0,.string s1,.int .i64 s2,.int .i64 s3])∧Below u.heap.size u w'):=by
    intro u hu;have:=HFI.out u xn (Za HBZ.out hu);rw [HSE.out] at this;exact this
   rw [hse] at HZ;simp only at HZ;clear hse;have n1':=World.new_ne wz _ g2;have n2':=World.new_ne wz _ p0;have hgpz:gp<wz.heap.size:=Nat.lt_of_lt_of_le hgplt HBZ.out.size;have hgz:g<wz.heap.size:=(Array.getElem?_eq_some_iff.1 HFN.out.box).1;go_upto_region 4 with fail
   go_cut [7] (fun p wx=>∃ (g7:Nat) (wy:World),p=.pointer (some ⟨g7,0,none⟩)∧Hid (FndS wz ⟨s0,s1,s2,s3⟩ g7 wy)∧wy=wx)
   case first =>
    go_region_held3 (fun w'=>w'.cell? ⟨gp,2,none⟩=some (.slice so n sc)∧w'.cell? ⟨g,0,none⟩=some (.string xn)) (go_keep)
     ((go_at_call 160;refine (HFJ.out _ (by first | exact (Below.refl _ _).drew | exact (Below.refl _ _).drew.alloc (Nat.le_refl _) _)).mono ?_;rintro e w2 ⟨rfl,hb2⟩;have HB2:Hid (Below wz.heap.size wz w2):=(by first | exact Za (Below.refl _ _).drew hb2 | exact Za ((Below.refl _ _).drew.alloc (Nat.le_refl _) _) hb2);have q1:=(HB2.out.cell (p:=⟨gp,2,none⟩) hgpz).trans g2;have q2:=(HB2.out.cell (p:=⟨g,0,none⟩) hgz).trans p0;have r1:=World.new_ne w2 _ q1;have r2:=World.new_ne w2 _ q2;first | (have HBX:Hid (w2.heap[wz.heap.size]?=some (bSv 0 ⟨#[]⟩ 0 0)):=(hb2.block wz.heap.size (by simp)).trans (Zc wz.drew (bSv 0 ⟨#[]⟩ 0 0) rfl);obtain ⟨k0,k1,k2,k3,kz⟩:=blk4d HBX.out) | skip;clear hb2))
    all_goals
     go_wp2_with fail
     go_meet
     first
     | exact ⟨_,_,rfl,Zkv (y:=⟨s0,s1,s2,s3⟩) HB2.out,rfl⟩
     | exact ⟨_,_,rfl,ZkD (y:=⟨s0,s1,s2,s3⟩) (z:=zSrv) HB2.out HBX.out,rfl⟩
   case rest =>
    obtain ⟨g7,wy,rfl,HFS,rfl⟩:=hcut;have HBY:Hid (Below w.heap.size w wy):=Za HBZ.out HFS.out.bel;have hsy:wy.heap[w.heap.size]?=some (bWt cc cp):=(HFS.out.bel.block _ (Array.getElem?_eq_some_iff.1 HSB.out).1).trans HSB.out;have hpy:wy.heap[g]?=some (bPl ⟨xn,xs,xw,xf⟩):=(HFS.out.bel.block _ hgz).trans HFN.out.box;have hdy:=HM.out wy HBY.out;clear g0 g1 g2 g3 g4 gz b0 b1 bz p0 p1 p2 p3 pz n1' n2' hgpz hgz;obtain ⟨g0,g1,g2,g3,g4,gz⟩:=blk5d hdy;obtain ⟨b0,b1,bz⟩:=blk2 hsy;obtain ⟨p0,p1,p2,p3,pz⟩:=blk4d hpy;obtain ⟨y0,y1,y2,y3,yz⟩:=blk4d HFS.out.box;have HY:Hid (wy.heap[w.heap.size]?=some (bWt cc cp)∧wy.heap[g]?=some (bPl ⟨xn,xs,xw,xf⟩)∧w.heap.size≤g):=⟨hsy,hpy,Nat.le_trans K0.out.2.2.1.size HFN.out.new⟩;simp only at y0 y1 y2 y3;clear hdy hsy hpy HFJ;cases hz:(s0 != 0) with
    | true =>
     have HR:Hid (cGive S X.op ⟨cc,cp⟩=some (cHand S s0 cc,X.op)):=by
      show _=_;have h0:(s0 == 0)=false:=by simpa [bne] using hz
      rw [HG.out];simp only;rw [HPX.out];simp only;cases hf:S.srv.find? (fun s=>isPoolV xn s&&isCliV 0 s) with
      | none=>have:=HZ.out;rw [h0,hf] at this;simp at this
      | some s =>
       have:=HSE.out;rw [hf] at this;simp only;rw [show s.id=s0 by rw [show s=⟨s0,s1,s2,s3⟩ from this]]
     have HHD:=hideIt (dHand gp s0 cc S X F wy (HKD.out wy HBY.out) (by rw [HN.out.2.1];omega));go_wp2_with fail
     refine HHD.out.mono ?_;rintro e w3 ⟨⟨x,rfl⟩,hm⟩;have KF:=hideIt (Moved.after HBY.out hm);clear hm g0 g1 g2 g3 g4 gz b0 b1 bz p0 p1 p2 p3 pz y0 y1 y2 y3 yz;go_wp2_with fail
     go_ret
     rw [HR.out];exact ⟨rfl,KF.out⟩
    | false =>
     have HFN0:Hid (S.srv.find? (fun s=>isPoolV xn s&&isCliV 0 s)=none):=by
      show _=_;have h0:(s0 == 0)=true:=by simpa [bne] using hz
      cases hf:S.srv.find? (fun s=>isPoolV xn s&&isCliV 0 s) with
      | none=>rfl
      | some s=>have:=HZ.out;rw [h0,hf] at this;simp at this
     obtain ⟨q,hqq⟩:∃ q,cntG (isPoolV xn) S.srv=q:=⟨_,rfl⟩;have HQ:Hid (cntG (isPoolV xn) S.srv=q∧q≤n):=⟨hqq,by rw [←hqq,←HN.out.2.1];exact List.length_filter_le _ _⟩;have hqn:q≤n:=HQ.out.2;have HG2:Hid (cGive S X.op ⟨cc,cp⟩=if xs≤(q:Int) then none else (cRoom S).map (fun T=>(cOpen T X.op ⟨xn,xs,xw,xf⟩ cc,X.op+1))):=by
      show _=_;rw [HG.out];simp only;rw [HPX.out];simp only;rw [HFN0.out,HQ.out.1]
     have n1':=World.new_ne wy _ g2;have hgpy:gp<wy.heap.size:=Nat.lt_of_lt_of_le hgplt HBY.out.size;have hgy:g<wy.heap.size:=(Array.getElem?_eq_some_iff.1 HY.out.2.1).1;clear hqq HG;go_upto_region 8 with fail
     go_cut [46] (fun v wx=>v=.bool (decide (xs≤(q:Int)))∧∃ wv,Hid (Below wy.heap.size wy wv)∧wv=wx)
     case first =>
      go_region_held3 (fun w'=>w'.cell? ⟨gp,2,none⟩=some (.slice so n sc)∧w'.cell? ⟨g,0,none⟩=some (.string xn)∧w'.cell? ⟨g,1,none⟩=some (.int .i64 xs)) (go_keep)
       ((go_at_call 123;refine (HC.out _ xn (Za HBY.out ((Below.refl _ _).drew))).mono ?_;rintro e w5 ⟨rfl,hb5⟩;rw [HQ.out.1];have HB5:Hid (Below wy.heap.size wy w5):=Za (Below.refl _ _).drew hb5;have q1:=(HB5.out.cell (p:=⟨gp,2,none⟩) hgpy).trans g2;have q2:=(HB5.out.cell (p:=⟨g,0,none⟩) hgy).trans p0;have q3:=(HB5.out.cell (p:=⟨g,1,none⟩) hgy).trans p1;clear hb5))
      all_goals
       go_wp2_with fail
       go_meet
       exact ⟨rfl,_,HB5.out,rfl⟩
     case rest =>
      obtain ⟨rfl,wv,HB5,rfl⟩:=hcut;have HBV:Hid (Below w.heap.size w wv):=Za HBY.out HB5.out;have HV:Hid (wv.heap[w.heap.size]?=some (bWt cc cp)∧wv.heap[g]?=some (bPl ⟨xn,xs,xw,xf⟩)):=⟨(HB5.out.block _ (Array.getElem?_eq_some_iff.1 HY.out.1).1).trans HY.out.1,(HB5.out.block _ hgy).trans HY.out.2.1⟩;clear g0 g1 g2 g3 g4 gz b0 b1 bz p0 p1 p2 p3 pz y0 y1 y2 y3 yz n1' hgpy hgy;cases hcn:decide (xs≤(q:Int)) with
      | true =>
       have HR:Hid (cGive S X.op ⟨cc,cp⟩=none):=by
        show _=_;rw [HG2.out,if_pos (of_decide_eq_true hcn)]
       go_wp2_with fail
       go_ret
       rw [HR.out];exact ⟨rfl,(Moved.refl HH.out).below HBV.out⟩
      | false =>
       have HG3:Hid (cGive S X.op ⟨cc,cp⟩=(cRoom S).map (fun T=>(cOpen T X.op ⟨xn,xs,xw,xf⟩ cc,X.op+1))):=by
        show _=_;rw [HG2.out,if_neg (of_decide_eq_false hcn)]
       have HRM:=hideIt (dRoom gp S X F wv (HKD.out wv HBV.out) HID.out (by rw [HN.out.2.1];omega));go_wp2_with fail
       refine HRM.out.mono ?_;rintro e w6 ⟨rfl,hm⟩;cases hro:cRoom S with
       | none =>
        rw [hro] at hm;have KF:Hid (Moved w w6 gp S X F):=Moved.after HBV.out hm;have HR:Hid (cGive S X.op ⟨cc,cp⟩=none):=by
         show _=_;rw [HG3.out,hro];rfl
        simp only [Option.isSome_none];clear hm hro;go_wp2_with fail
        go_ret
        rw [HR.out];exact ⟨rfl,KF.out⟩
       | some T =>
        rw [hro] at hm;have KF:Hid (Moved w w6 gp T X F):=Moved.after HBV.out hm;have HR:Hid (cGive S X.op ⟨cc,cp⟩=some (cOpen T X.op ⟨xn,xs,xw,xf⟩ cc,X.op+1)):=by
         show _=_;rw [HG3.out,hro];rfl
        have hTl:T.srv.length≤n:=by rw [←HN.out.2.1];exact Zjd S T hro
        obtain ⟨_,_,_,hch⟩:=hm;have h6b:w6.heap[w.heap.size]?=some (bWt cc cp):=(hch.block _ (Array.getElem?_eq_some_iff.1 HV.out.1).1 (HNF.out _ (Nat.le_refl _))).trans HV.out.1;have h6p:w6.heap[g]?=some (bPl ⟨xn,xs,xw,xf⟩):=(hch.block _ (Array.getElem?_eq_some_iff.1 HV.out.2).1 (HNF.out _ HY.out.2.2)).trans HV.out.2;obtain ⟨b0,b1,bz⟩:=blk2 h6b;obtain ⟨p0,p1,p2,p3,pz⟩:=blk4d h6p;obtain ⟨F1,hd1,hnx⟩:=KF.out.step;have HOP:=hideIt (dOpen gp ⟨xn,xs,xw,xf⟩ cc T X F1 w6 hd1 (by omega) hop);have HNX:=hideIt hnx;simp only [Option.isSome_some];clear hro hch h6b h6p hd1 hnx hTl;go_wp2_with fail
        refine HOP.out.mono ?_;rintro e w7 ⟨⟨x,rfl⟩,hm⟩;have KG:=hideIt (HNX.out w7 _ _ hm);clear hm b0 b1 bz p0 p1 p2 p3 pz;go_wp2_with fail
        go_ret
        rw [HR.out];exact ⟨rfl,KG.out⟩
theorem ZgC:∀ (l:List Srv) (lo op:Int),l.Pairwise (fun a b=>a.id<b.id)→(∀ x∈l,lo<x.id∧x.id≤op)→lo≤op→(l.length:Int)≤op - lo
 | [],lo,op,_,_,h=>by simp;omega
 | y :: r,lo,op,hp,hb,_=>by
  have h1:=List.pairwise_cons.1 hp;have hy:=hb y (by simp);have:=ZgC r y.id op h1.2 (fun x hx=>⟨h1.1 x hx,(hb x (by simp [hx])).2⟩) (by omega);simp;omega
theorem Inv.len {S:Sta} {op:Int} (h:Inv S op):(S.srv.length:Int)≤op:=by
 have:=ZgC S.srv 0 op h.ids (fun x hx=>by have:=h.low x hx;omega) h.op0;omega
theorem Inv.nz {S:Sta} {op:Int} (h:Inv S op):∀ x∈S.srv,x.id≠0:=fun x hx=>by have:=h.low x hx;omega
def pot (y:Sta×Int):Int:=y.2+y.1.wts.length
theorem Ze1 {α:Type} {p:α→Bool}:∀ {l:List α} {x:α},x∈l→p x=false→(l.filter p).length+1≤l.length
 | y :: r,x,hx,hp=>by
  rcases List.mem_cons.1 hx with e | hx
  ·rw [←e,List.filter_cons,if_neg (by rw [hp];simp)];have:=List.length_filter_le p r;simp;omega
  ·have:=Ze1 hx hp;rw [List.filter_cons];split
   ·simp;omega
   ·simp;omega
theorem Zfm {S:Sta} {op:Int} {c:Wtr} {y:Sta×Int} (h:cGive S op c=some y):y.1.wts=S.wts∧y.2≤op+1∧op≤y.2∧y.1.pools=S.pools∧y.1.bud=S.bud∧y.1.plan=S.plan∧y.1.begun=S.begun∧y.1.back=S.back:=by
 rw [Zgo] at h;split at h
 ·simp at h
 ·split at h
  ·simp at h;subst h;refine ⟨rfl,?_,?_,rfl,rfl,rfl,rfl,rfl⟩ <;> simp only <;> omega
  ·split at h
   ·simp at h
   ·cases hr:cRoom S with
    | none=>rw [hr] at h;simp at h
    | some T =>
     rw [hr] at h;simp at h;subst h;have hT:T.wts=S.wts∧T.pools=S.pools∧T.bud=S.bud∧T.plan=S.plan∧T.begun=S.begun∧T.back=S.back:=by
      unfold cRoom at hr;split at hr
      ·simp at hr;rw [←hr];exact ⟨rfl,rfl,rfl,rfl,rfl,rfl⟩
      ·split at hr
       ·simp at hr
       ·split at hr
        ·simp at hr
        ·simp at hr;rw [←hr];exact ⟨rfl,rfl,rfl,rfl,rfl,rfl⟩
     refine ⟨hT.1,?_,?_,hT.2.1,hT.2.2.1,hT.2.2.2.1,hT.2.2.2.2.1,hT.2.2.2.2.2⟩ <;> simp only <;> omega
def Rest (S T:Sta):Prop:=T.pools=S.pools∧T.bud=S.bud∧T.plan=S.plan∧T.begun=S.begun∧T.back=S.back
theorem Rest.refl (S:Sta):Rest S S:=⟨rfl,rfl,rfl,rfl,rfl⟩
theorem Rest.trans {S T U:Sta} (h:Rest S T) (k:Rest T U):Rest S U:=⟨k.1.trans h.1,k.2.1.trans h.2.1,k.2.2.1.trans h.2.2.1,k.2.2.2.1.trans h.2.2.2.1,k.2.2.2.2.trans h.2.2.2.2⟩
theorem Zcb {S:Sta} {op:Int}:∀ {l:List Wtr} {y:Sta×Int},(∀ x∈l,x∈S.wts)→cFirst S op l=some y→pot y≤pot (S,op)∧op≤y.2∧Rest S y.1
 | [],y,_,h=>by simp [cFirst] at h
 | c :: r,y,hl,h=>by
  rw [cFirst] at h;cases hg:cGive S op c with
  | none=>rw [hg] at h;exact Zcb (fun x hx=>hl x (by simp [hx])) h
  | some z =>
   rw [hg] at h;simp at h;subst h;obtain ⟨h1,h2,h3,h4,h5,h6,h7,h8⟩:=Zfm hg;refine ⟨?_,h3,h4,h5,h6,h7,h8⟩;have:=Ze1 (p:=fun x:Wtr=>!decide (x.client=c.client)) (hl c (by simp)) (by simp);unfold pot cQuit;simp only [h1];omega
theorem Z9:∀ (f:Nat) (S:Sta) (op:Int),pot (cServe f S op)≤pot (S,op)∧op≤(cServe f S op).2∧Rest S (cServe f S op).1
 | 0,S,op=>by rw [cServe];exact ⟨Int.le_refl _,Int.le_refl _,Rest.refl _⟩
 | f+1,S,op=>by
  rw [cServe];cases h:cFirst S op S.wts with
  | none=>exact ⟨Int.le_refl _,Int.le_refl _,Rest.refl _⟩
  | some y =>
   have h1:=Zcb (fun _ hx=>hx) h;have h2:=Z9 f y.1 y.2;exact ⟨Int.le_trans h2.1 h1.1,Int.le_trans h1.2.1 h2.2.1,h1.2.2.trans h2.2.2⟩
theorem Zii {S:Sta} {op:Int} (hI:Inv S op) {y:Sta×Int} (h:cFirst S op S.wts=some y):Inv y.1 y.2:=by
 have h2:=(Z4 1 S op hI).2;rw [cServe,h] at h2;exact h2
theorem Zdw {S:Sta} {op:Int}:∀ {l:List Wtr} {k:Nat} {c:Wtr},(∀ y∈l.take k,cGive S op y=none)→l[k]?=some c→cFirst S op l=match cGive S op c with | some y=>some (cQuit y.1 c.client,y.2) | none=>cFirst S op (l.drop (k+1))
 | [],k,c,_,h=>by simp at h
 | x :: r,0,c,_,h=>by
  simp at h;subst h;rw [cFirst];rfl
 | x :: r,k+1,c,hn,h=>by
  rw [cFirst,hn x (by simp)];exact Zdw (fun y hy=>hn y (by simp [hy])) (by simpa using h)
theorem Zfz {S:Sta} {op:Int}:∀ {l:List Wtr},(∀ y∈l,cGive S op y=none)→cFirst S op l=none
 | [],_=>rfl
 | x :: r,hn=>by
  rw [cFirst,hn x (by simp)];exact Zfz (fun y hy=>hn y (by simp [hy]))
structure Ok (S:Sta) (op:Int):Prop where
 inv:Inv S op
 pot:pot (S,op)≤549755813888
 pools:S.pools.length≤1099511627776
theorem dFirst (gp:Nat) (S:Sta) (X:Aux) (F:Nat→Prop) (w:World) (h:DeskAt w gp S X F) (hok:Ok S X.op) :
  Calls Tryz.prog 122 #[.pointer (some ⟨gp,0,none⟩)] w fun e w'=>GaveG (cFirst S X.op S.wts) w w' gp S X F e:=by
 have hL:=hok.inv.len;have hP:=hok.pot;have hO:=hok.inv.op0;unfold pot at hP;simp only at hP;obtain ⟨n3,hn3⟩:∃ n,S.wts.length=n:=⟨_,rfl⟩;rw [hn3] at hP;have HW:=hideIt hn3;have HK:Hid (S.srv.length+1≤1099511627776∧S.pools.length≤1099511627776∧(0≤X.op∧X.op<9223372036854775807)∧Inv S X.op):=⟨by omega,hok.pools,⟨hO,by omega⟩,hok.inv⟩;have hq3:n3≤1099511627776:=by omega
 have HH:=hideIt h;clear h hok hL hP hO hn3;go_enter Tryz.func122,Tryz.ntmps122
 go_wp2_with fail
 go_loopw [3,4] (fun i p4 wr=>∃ (k:Nat),k≤n3∧i=.int .i64 k∧Hid (Moved w wr gp S X F∧∀ y∈S.wts.take k,cGive S X.op y=none)) (fun i _ _=>n3 - (intOf i).toNat)
 case atStart=>exact ⟨0,Nat.zero_le _,rfl,Moved.refl HH.out,by intro y hy;simp at hy⟩
 case round =>
  obtain ⟨k,hk,rfl,HS⟩:=hrel;obtain ⟨F1,hd,hnx⟩:=HS.out.1.step;have HD:=hideIt hd;have HNX:=hideIt hnx;obtain ⟨po,pc,so,sc,wo,wc,yo,yc,ho,hc,hx⟩:=hd.ex;have HX:=hideIt hx;have hbx:=hx.box;rw [HW.out] at hbx;obtain ⟨g0,g1,g2,g3,g4,gz⟩:=blk5d hbx;clear hd hnx hx hbx;by_cases hlt:k<n3
  ·have hlti:(k:Int)<(n3:Int):=by omega
   obtain ⟨⟨cc,cp⟩,hp⟩:∃ p,S.wts[k]?=some p:=⟨_,List.getElem?_eq_getElem (by rw [HW.out];exact hlt)⟩;have hrw:=Zd HX.out.t.own;obtain ⟨bl,off,hao,hbl,c0,c1⟩:=Zaj hrw hp;subst hao;simp only at c0 c1;have HP:Hid (S.wts[k]?=some ⟨cc,cp⟩):=hp;obtain ⟨W1,hW1⟩:∃ W1,W1=wr.alloc (bWt cc cp):=⟨_,rfl⟩;have hbW:Below wr.heap.size wr W1:=by rw [hW1];exact Zb _ _
   have KW:Hid (W1=wr.alloc (bWt cc cp)∧W1.heap[wr.heap.size]?=some (bWt cc cp)∧Below wr.heap.size wr W1):=⟨hW1,by rw [hW1];exact Zc _ _ rfl,hbW⟩;have HG:=hideIt (dGive gp cc cp S X F1 W1 (HD.out.keep (G:=fun _=>False) (Chg.of_below hbW) (fun _ _ h=>h)) HK.out.2.2.2.nz HK.out.1 HK.out.2.1 HK.out.2.2.1);have HNF:Hid (¬F1 wr.heap.size):=fun hf=>by have:=HD.out.lt _ hf;omega
   clear hp hrw hW1 hbW;go_upto_region 5 with fail
   rw [←KW.out.1];clear g0 g1 g2 g3 g4 gz c0 c1;obtain ⟨b0,b1,bz⟩:=blk2 KW.out.2.1;go_wp2_with fail
   refine HG.out.mono ?_;rintro e w2 ⟨rfl,hm⟩;cases hgv:cGive S X.op ⟨cc,cp⟩ with
   | none =>
    rw [hgv] at hm;have KM:Hid (Moved w w2 gp S X F∧∀ y∈S.wts.take (k+1),cGive S X.op y=none):=by
     refine ⟨HNX.out _ _ _ (Moved.after KW.out.2.2 hm),?_⟩;intro y hy;obtain ⟨hk',e⟩:=List.getElem?_eq_some_iff.1 HP.out;rw [List.take_succ_eq_append_getElem hk',e] at hy;rcases List.mem_append.1 hy with hy | hy
     ·exact HS.out.2 y hy
     ·rw [List.mem_singleton.1 hy];exact hgv
    simp only [Option.isSome_none];clear hm hgv b0 b1 bz;go_wp2_with fail
    go_roundw
    case rel=>exact ⟨k+1,by omega,by go_num,KM.out⟩
    case measure=>simp [intOf];omega
   | some y =>
    obtain ⟨T,t⟩:=y;rw [hgv] at hm;simp only [Option.getD_some] at hm;have HR:Hid (cFirst S X.op S.wts=some (cQuit T cc,t)):=by
     show _=_;rw [Zdw HS.out.2 HP.out,hgv]
    have hTw:T.wts.length≤1099511627776:=by rw [(Zfm hgv).1,HW.out];exact hq3
    have hm':=hm;obtain ⟨_,_,_,hch⟩:=hm';have hb2:w2.heap[wr.heap.size]?=some (bWt cc cp):=(hch.block _ (Array.getElem?_eq_some_iff.1 KW.out.2.1).1 HNF.out).trans KW.out.2.1;have KM:Hid (Moved w w2 gp T {X with op:=t} F):=HNX.out _ _ _ (Moved.after KW.out.2.2 hm);clear b0 b1 bz;obtain ⟨b0,b1,bz⟩:=blk2 hb2;obtain ⟨F2,hd2,hnx2⟩:=KM.out.step;have HQ:=hideIt (dQuit gp cc T {X with op:=t} F2 w2 hd2 hTw);have HNX2:=hideIt hnx2;simp only [Option.isSome_some];clear hm hgv hTw hch hb2 hd2 hnx2;go_wp2_with fail
    refine HQ.out.mono ?_;rintro e w3 ⟨⟨x,rfl⟩,hm⟩;have KF:=hideIt (HNX2.out _ _ _ hm);clear hm b0 b1 bz;go_wp2_with fail
    go_ret
    rw [HR.out];exact ⟨rfl,KF.out⟩
  ·have HR:Hid (cFirst S X.op S.wts=none):=Zfz (fun y hy=>HS.out.2 y (by rw [List.take_of_length_le (by rw [HW.out];omega)];exact hy));go_wp2_with fail
   go_ret
   rw [HR.out];exact ⟨rfl,HS.out.1⟩
theorem Ok.first {S:Sta} {op:Int} (h:Ok S op) {y:Sta×Int} (hf:cFirst S op S.wts=some y):Ok y.1 y.2:=by
 have hp:=Zcb (fun _ hx=>hx) hf;exact ⟨Zii h.inv hf,Int.le_trans hp.1 h.pot,by rw [hp.2.2.1];exact h.pools⟩
theorem dServe (gp:Nat) (S:Sta) (X:Aux) (F:Nat→Prop) (w:World) (h:DeskAt w gp S X F) (hok:Ok S X.op) :
  Calls Tryz.prog 78 #[.pointer (some ⟨gp,0,none⟩)] w fun e w'=>(∃ x,e=.returned x)∧Moved w w' gp (cServe S.wts.length S X.op).1 {X with op:=(cServe S.wts.length S X.op).2} F:=by
 obtain ⟨po,pc,so,sc,wo,wc,yo,yc,ho,hc,hx⟩:=h.ex;have hL:=hok.inv.op0;have hP:=hok.pot;unfold pot at hP;simp only at hP;obtain ⟨n3,hn3⟩:∃ n,S.wts.length=n:=⟨_,rfl⟩;have hbx:=hx.box;rw [hn3] at hbx hP ⊢;have hq3:n3≤1099511627776:=by omega
 obtain ⟨g0,g1,g2,g3,g4,gz⟩:=blk5d hbx;have HH:=hideIt h;have HO:=hideIt hok;clear h hx hbx hok hL hP hn3;go_enter Tryz.func78,Tryz.ntmps78
 go_wp2_with fail
 clear g0 g1 g2 g3 g4 gz;go_loopw [2] (fun i wr=>∃ (r:Nat) (T:Sta) (t:Int),r≤n3∧i=.int .i64 r∧Hid (Moved w wr gp T {X with op:=t} F∧Ok T t∧cServe r T t=cServe n3 S X.op)) (fun i _=>(intOf i).toNat)
 case atStart=>exact ⟨n3,S,X.op,Nat.le_refl _,rfl,Moved.refl HH.out,HO.out,rfl⟩
 case round =>
  obtain ⟨r,T,t,hr,rfl,HS⟩:=hrel;by_cases hlt:0<r
  ·have hlti:(0:Int)<(r:Int):=by omega
   obtain ⟨F1,hd,hnx⟩:=HS.out.1.step;have HF:=hideIt (dFirst gp T {X with op:=t} F1 wr hd HS.out.2.1);have HNX:=hideIt hnx;clear hd hnx;go_wp2_with fail
   refine HF.out.mono ?_;rintro e w2 ⟨rfl,hm⟩;obtain ⟨r',rfl⟩:∃ r',r=r'+1:=⟨r - 1,by omega⟩;have HE:=HS.out.2.2;rw [cServe] at HE;simp only at hm ⊢;cases hf:cFirst T t T.wts with
   | none =>
    rw [hf] at hm HE;simp only [Option.getD_none] at hm;have KF:Hid (Moved w w2 gp (cServe n3 S X.op).1 {X with op:=(cServe n3 S X.op).2} F):=by
     rw [←HE];exact HNX.out _ _ _ hm
    simp only [Option.isSome_none];clear hm hf HE;go_wp2_with fail
    refine bodyPost_ret (v:=.tuple #[]) (by simp [results,Tryz.results78,go_sem]) rfl ?_;exact ⟨⟨_,rfl⟩,KF.out⟩
   | some y =>
    rw [hf] at hm HE;simp only [Option.getD_some] at hm HE;have KF:Hid (Moved w w2 gp y.1 {X with op:=y.2} F∧Ok y.1 y.2∧cServe r' y.1 y.2=cServe n3 S X.op):=⟨HNX.out _ _ _ hm,HS.out.2.1.first hf,HE⟩;simp only [Option.isSome_some];clear hm hf HE;go_wp2_with fail
    go_roundw
    case rel=>exact ⟨r',y.1,y.2,by omega,by go_num,KF.out⟩
    case measure=>simp [intOf]
  ·obtain rfl:r=0:=by omega
   have KF:Hid (Moved w wr gp (cServe n3 S X.op).1 {X with op:=(cServe n3 S X.op).2} F):=by
    have:=HS.out.2.2;rw [cServe] at this;rw [←this];exact HS.out.1
   go_wp2_with fail
   refine bodyPost_end (v:=.tuple #[]) (by simp [results,Tryz.results78,go_sem]) rfl ?_;exact ⟨⟨_,rfl⟩,KF.out⟩
end Lw
end Go.Proofs.YtcpikklofilkcaaGreat
