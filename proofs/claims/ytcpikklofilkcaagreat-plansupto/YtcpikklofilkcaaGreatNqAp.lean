import Derived.Test.YtcpikklofilkcaaGreatNqAg
import Derived.Test.YtcpikklofilkcaaGreatNqJ
set_option maxRecDepth 100000
set_option maxHeartbeats 16000000
namespace Go.Proofs.YtcpikklofilkcaaGreat
open Go.RowKit
namespace Lw
open Co
def cTurned (S:Sta) (X:Aux) (d:Bool):Sta×Aux:=
 if d=true then
  if S.plan.tail.length=0 then ({S with plan:=S.plan.tail,begun:=false,back:=false},{X with hb:=0,hps:=[]})
  else ({S with plan:=S.plan.tail,begun:=false},X)
 else ({S with begun:=true},X)
theorem ZdZ {S:Sta} {X:Aux} (h:S.plan.tail.length=0):cTurned S X true=({S with plan:=S.plan.tail,begun:=false,back:=false},{X with hb:=0,hps:=[]}):=by
 unfold cTurned;rw [if_pos rfl,if_pos h]
theorem ZeG {S:Sta} {X:Aux} (h:¬S.plan.tail.length=0):cTurned S X true=({S with plan:=S.plan.tail,begun:=false},X):=by
 unfold cTurned;rw [if_pos rfl,if_neg h]
theorem Zbb {w:World} {g:Nat} {c0 c1 c2 c3 c4 c5 c6 c7 c8 c9:Value} {t:TypeId} (h:w.heap[g]?=some (.cells #[c0,c1,c2,c3,c4,c5,c6,c7,c8,c9] t (0,0))) (v:Value):(w.setCell ⟨g,5,none⟩ v).heap[g]?=some (.cells #[c0,c1,c2,c3,c4,v,c6,c7,c8,c9] t (0,0)):=Zg _ _ _ _ _ _ h
theorem Za9 {w:World} {g:Nat} {c0 c1 c2 c3 c4 c5 c6 c7 c8 c9:Value} {t:TypeId} (h:w.heap[g]?=some (.cells #[c0,c1,c2,c3,c4,c5,c6,c7,c8,c9] t (0,0))) (v:Value):(w.setCell ⟨g,6,none⟩ v).heap[g]?=some (.cells #[c0,c1,c2,c3,c4,c5,v,c7,c8,c9] t (0,0)):=Zg _ _ _ _ _ _ h
theorem ZbQ {w:World} {g:Nat} {c0 c1 c2 c3 c4 c5 c6 c7 c8 c9:Value} {t:TypeId} (h:w.heap[g]?=some (.cells #[c0,c1,c2,c3,c4,c5,c6,c7,c8,c9] t (0,0))) (v:Value):(w.setCell ⟨g,7,none⟩ v).heap[g]?=some (.cells #[c0,c1,c2,c3,c4,c5,c6,v,c8,c9] t (0,0)):=Zg _ _ _ _ _ _ h
theorem ZbT {w:World} {g:Nat} {c0 c1 c2 c3 c4 c5 c6 c7 c8 c9:Value} {t:TypeId} (h:w.heap[g]?=some (.cells #[c0,c1,c2,c3,c4,c5,c6,c7,c8,c9] t (0,0))) (v:Value):(w.setCell ⟨g,8,none⟩ v).heap[g]?=some (.cells #[c0,c1,c2,c3,c4,c5,c6,c7,v,c9] t (0,0)):=Zg _ _ _ _ _ _ h
theorem ZbO {w:World} {g:Nat} {c0 c1 c2 c3 c4 c5 c6 c7 c8 c9:Value} {t:TypeId} (h:w.heap[g]?=some (.cells #[c0,c1,c2,c3,c4,c5,c6,c7,c8,c9] t (0,0))) (v:Value):(w.setCell ⟨g,9,none⟩ v).heap[g]?=some (.cells #[c0,c1,c2,c3,c4,c5,c6,c7,c8,v] t (0,0)):=Zg _ _ _ _ _ _ h
theorem ZQ (w:World) (g a:Nat) (v:Value):Chg (fun y=>y=g) w (w.setCell ⟨g,a,none⟩ v):=Chg.set (F:=fun y=>y=g) w g a v rfl
theorem Zab {g:Nat} {a b c:World} (h:Chg (fun y=>y=g) a b) (k:Chg (fun y=>y=g) b c):Chg (fun y=>y=g) a c:=h.trans k (fun _ hx=>.inl hx)
theorem wTurned (gp:Nat) (S:Sta) (X:Aux) (F:Nat→Prop) (d:Bool) (w:World) (h:DeskAt w gp S X F) (hp:1≤S.plan.length) (hp2:S.plan.length≤1000) :
  Calls Tryz.prog 50 #[.pointer (some ⟨gp,5,none⟩),.bool d] w fun e w'=>(∃ x,e=.returned x)∧Moved w w' gp (cTurned S X d).1 (cTurned S X d).2 F:=by
 obtain ⟨po,pc,so,sc,wo,wc,yo,yc,ho,hc,hx⟩:=h.ex;have hgplt:gp<w.heap.size:=h.lt gp h.gp;have HX:=hideIt hx;have HH:=hideIt h;obtain ⟨n4,hn4⟩:∃ n,S.plan.length=n:=⟨_,rfl⟩;have HN:=hideIt hn4;rw [hn4] at hp hp2;have hbx:=hx.box;rw [hn4] at hbx;have HBX:=hideIt hbx;obtain ⟨g5,g6,g7,g8,g9,gz⟩:=blkWd hbx;clear h hx hn4 hbx;cases d with
 | false =>
  have HF:Hid (Moved w (w.setCell ⟨gp,6,none⟩ (.bool true)) gp (cTurned S X false).1 (cTurned S X false).2 F):=by
   have hch:=ZQ w gp 6 (.bool true);exact Zbv HX.out HH.out.gp HH.out.lt S.plan true S.back X.hb X.hps yo yc ho hc (Za9 HX.out.box _) (Zbx HX.out HH.out.lt hch HX.out.l (by decide)) (Zbx HX.out HH.out.lt hch HX.out.h (by decide)) hch
  go_enter Tryz.func50,Tryz.ntmps50
  go_wp2_with fail
  first
  | (refine bodyPost_end (v:=.tuple #[]) (by simp [results,go_sem]) rfl ?_;exact ⟨⟨_,rfl⟩,HF.out⟩)
  | (refine bodyPost_ret (v:=.tuple #[]) (by simp [results,go_sem]) rfl ?_;exact ⟨⟨_,rfl⟩,HF.out⟩)
 | true =>
  have hbA:(w.setCell ⟨gp,6,none⟩ (.bool false)).heap.size=w.heap.size:=by simp
  have HBE:Hid (Calls Tryz.prog 80 #[.slice yo n4 yc] (w.setCell ⟨gp,6,none⟩ (.bool false)) fun e w'=>∃ vo vc,e=.returned (.slice vo S.plan.tail.length vc)∧w'.ownsRow (w.setCell ⟨gp,6,none⟩ (.bool false)).heap.size 72 3 (.slice vo S.plan.tail.length vc) S.plan.tail.length (flatT S.plan.tail)∧Below (w.setCell ⟨gp,6,none⟩ (.bool false)).heap.size (w.setCell ⟨gp,6,none⟩ (.bool false)) w'):=by
   refine cBehind yo n4 yc S.plan _ ?_ HN.out (by omega) hp;rw [←HN.out];have hch:=ZQ w gp 6 (.bool false);exact Zd (Zbx HX.out HH.out.lt hch HX.out.l (by decide)).own
  obtain ⟨q,hq⟩:∃ q,S.plan.tail.length=q:=⟨_,rfl⟩;rw [hq] at HBE;have HQ:=hideIt hq;clear hq hbA;go_enter Tryz.func50,Tryz.ntmps50
  go_wp2_with fail
  refine HBE.out.mono ?_;rintro e w1 ⟨vo,vc,rfl,hown,hb1⟩;have K1:Hid (w1.ownsRow w.heap.size 72 3 (.slice vo q vc) q (flatT S.plan.tail)∧Chg (fun y=>y=gp) w w1∧w1.heap[gp]?=some (bDesk S.bud po S.pools.length pc so S.srv.length sc wo S.wts.length wc X.op ⟨.slice yo n4 yc,false,S.back,X.hb,.slice ho X.hps.length hc⟩)):=by
   refine ⟨by simpa using hown,Zab (ZQ w gp 6 (.bool false)) (Chg.of_below hb1),(hb1.block gp (by simpa using hgplt)).trans (Za9 HBX.out _)⟩
  clear hown hb1 g5 g6 g7 g8 g9 gz;obtain ⟨g5,g6,g7,g8,g9,gz⟩:=blkWd K1.out.2.2;by_cases hq0:q=0
  ·subst hq0;have HF:Hid (Moved w ((((w1.setCell ⟨gp,5,none⟩ (.slice vo 0 vc)).setCell ⟨gp,7,none⟩ (.bool false)).setCell ⟨gp,8,none⟩ (.int .i64 0)).setCell ⟨gp,9,none⟩ (.slice none 0 0)) gp (cTurned S X true).1 (cTurned S X true).2 F):=by
    rw [ZdZ HQ.out];have hch2:=Zab (Zab (Zab (ZQ w1 gp 5 (.slice vo 0 vc)) (ZQ _ gp 7 (.bool false))) (ZQ _ gp 8 (.int .i64 0))) (ZQ _ gp 9 (.slice none 0 0));have hch:=Zab K1.out.2.1 hch2;refine Zbv HX.out HH.out.gp HH.out.lt S.plan.tail false false 0 [] vo vc none 0 ?_ ?_ Held.nil hch
    ·rw [HQ.out];exact ZbO (ZbT (ZbQ (Zbb K1.out.2.2 _) _) _) _
    ·rw [HQ.out];exact Zb1 hgplt hch2 K1.out.1
   go_wp2_with fail
   first
   | (refine bodyPost_end (v:=.tuple #[]) (by simp [results,Tryz.results50,go_sem]) rfl ?_;exact ⟨⟨_,rfl⟩,HF.out⟩)
   | (refine bodyPost_ret (v:=.tuple #[]) (by simp [results,Tryz.results50,go_sem]) rfl ?_;exact ⟨⟨_,rfl⟩,HF.out⟩)
  ·have hqi:((q:Int) == 0)=false:=beq_eq_false_iff_ne.2 (by omega);have hqj:¬(q:Int)=0:=by omega
   have HF:Hid (Moved w (w1.setCell ⟨gp,5,none⟩ (.slice vo q vc)) gp (cTurned S X true).1 (cTurned S X true).2 F):=by
    rw [ZeG (by rw [HQ.out];exact hq0)];have hch2:=ZQ w1 gp 5 (.slice vo q vc);have hch:=Zab K1.out.2.1 hch2;refine Zbv HX.out HH.out.gp HH.out.lt S.plan.tail false S.back X.hb X.hps vo vc ho hc ?_ ?_ (Zbx HX.out HH.out.lt hch HX.out.h (by decide)) hch
    ·rw [HQ.out];exact Zbb K1.out.2.2 _
    ·rw [HQ.out];exact Zb1 hgplt hch2 K1.out.1
   go_wp2_with fail
   first
   | (refine bodyPost_end (v:=.tuple #[]) (by simp [results,Tryz.results50,go_sem]) rfl ?_;exact ⟨⟨_,rfl⟩,HF.out⟩)
   | (refine bodyPost_ret (v:=.tuple #[]) (by simp [results,Tryz.results50,go_sem]) rfl ?_;exact ⟨⟨_,rfl⟩,HF.out⟩)
structure Rsp where
 S:Sta
 X:Aux
 n:Int
 e:Int
 l:Int
def cTurn (S:Sta) (X:Aux):Rsp:=match S.plan with
 | []=>⟨S,X,0,14,0⟩
 | s :: _ =>
  let r:=cTurnS s.kind s.name s.n S.begun S X.op
  let q:=cTurned r.1 {X with op:=r.2} (cEnded s.kind s.name s.n r.1)
  ⟨q.1,q.2,q.1.plan.length,0,0⟩
def cReload (S:Sta) (X:Aux) (a:Ans):Rsp:=
 if ¬S.plan.length=0 then ⟨S,X,0,16,0⟩
 else if ¬a.err=0 then ⟨S,X,0,a.err,a.at'⟩
 else ⟨{S with plan:=Df.diffL S.bud S.pools a.tab.1 a.tab.2,begun:=false,back:=false},{X with hb:=(fwdH (Df.diffL S.bud S.pools a.tab.1 a.tab.2) S.bud S.pools).1,hps:=(fwdH (Df.diffL S.bud S.pools a.tab.1 a.tab.2) S.bud S.pools).2},(Df.diffL S.bud S.pools a.tab.1 a.tab.2).length,0,0⟩
def cAbort (S:Sta) (X:Aux):Rsp:=
 if S.plan.length=0 then ⟨S,X,0,14,0⟩
 else if S.back=true then ⟨S,X,0,17,0⟩
 else ⟨{S with plan:=Df.diffL S.bud S.pools X.hb X.hps,begun:=false,back:=anyS (Df.diffL S.bud S.pools X.hb X.hps)},{X with hb:=0,hps:=[]},(Df.diffL S.bud S.pools X.hb X.hps).length,0,0⟩
structure StpOk (s:Stp):Prop where
 k:okKind s.kind
 n:0≤s.n∧s.n≤1000000
theorem pTurn (gp:Nat) (S:Sta) (X:Aux) (F:Nat→Prop) (w:World) (h:DeskAt w gp S X F) (hok:Ok S X.op) (hq1:S.pools.length≤1000) (hp2:S.plan.length≤1000) (hst:∀ s∈S.plan,StpOk s) :
  Calls Tryz.prog 17 #[.pointer (some ⟨gp,0,none⟩)] w fun e w'=>e=.returned (.tuple #[.int .i64 (cTurn S X).n,.int .i64 (cTurn S X).e])∧Moved w w' gp (cTurn S X).S (cTurn S X).X F:=by
 obtain ⟨po,pc,so,sc,wo,wc,yo,yc,ho,hc,hx⟩:=h.ex;have hgplt:gp<w.heap.size:=h.lt gp h.gp;have HX:=hideIt hx;have HH:=hideIt h;have HL:=hideIt (wLeft gp S.bud po _ pc so _ sc wo _ wc X.op yo _ yc S.begun S.back X.hb ho _ hc w hx.box);obtain ⟨g5,g6,g7,g8,g9,gz⟩:=blkWd hx.box;cases hpl:S.plan with
 | nil =>
  have hn0:S.plan.length=0:=by rw [hpl];rfl
  rw [hn0] at HL;have HT:Hid (cTurn S X=⟨S,X,0,14,0⟩):=by show _=_;unfold cTurn;rw [hpl]
  clear h hx hok hq1 hp2 hst hn0 hpl;go_enter Tryz.func17,Tryz.ntmps17
  go_wp2_with fail
  refine HL.out.mono ?_;rintro e w1 ⟨rfl,h1⟩;obtain rfl:=h1.symm;go_wp2_with fail
  go_ret2
  rw [HT.out];exact ⟨rfl,Moved.refl HH.out⟩
 | cons s r =>
  obtain ⟨k,nm,n⟩:=s;obtain ⟨n4,hn4⟩:∃ n,S.plan.length=n:=⟨_,rfl⟩;have hn4':r.length+1=n4:=by rw [←hn4,hpl];rfl
  have hso:=hst ⟨k,nm,n⟩ (by rw [hpl];simp);have HFI:Hid (Calls Tryz.prog 48 #[.pointer (some ⟨gp,5,none⟩)] w fun e w'=>e=.returned (stA k nm n)∧Below w.heap.size w w'):=
   wFirst gp S.bud po _ pc so _ sc wo _ wc X.op yo _ yc S.begun S.back X.hb ho _ hc k nm n S.plan w hx.box (Zd hx.l.own) rfl (by rw [hpl];rfl)
  have HBG:=hideIt (fun u (hu:Below w.heap.size w u)=>ZdR gp S.bud po _ pc so _ sc wo _ wc X.op _ u ((hu.block gp hgplt).trans hx.box));have HDT:=hideIt (fun u (hu:Below w.heap.size w u)=>dTurn gp k nm n S.begun S X F u hso.k (h.keep (G:=fun _=>False) (Chg.of_below hu) (fun _ _ h=>h)) hok hq1 hso.n);obtain ⟨⟨D,t⟩,hD⟩:∃ q,cTurnS k nm n S.begun S X.op=q:=⟨_,rfl⟩;have hDp:D.plan=S.plan:=by
   have h1:=(Z9 (if S.begun=true then S else cBegin k nm n S).wts.length (if S.begun=true then S else cBegin k nm n S) X.op).2.2;have h2:D=(cTurnS k nm n S.begun S X.op).1:=by rw [hD]
   rw [h2];unfold cTurnS;rw [h1.2.2.1];split
   ·rfl
   ·exact (ZdS k nm n S).rest.2.2.1
  rw [hD] at HDT;obtain ⟨d,hd⟩:∃ d,cEnded k nm n D=d:=⟨_,rfl⟩;simp only [hd] at HDT;have HT:Hid (cTurn S X=⟨(cTurned D {X with op:=t} d).1,(cTurned D {X with op:=t} d).2,(cTurned D {X with op:=t} d).1.plan.length,0,0⟩):=by
   show _=_;unfold cTurn;rw [hpl];simp only;rw [hD];simp only;rw [hd]
  have HTD:Hid (∀ u F1,DeskAt u gp D {X with op:=t} F1→Calls Tryz.prog 50 #[.pointer (some ⟨gp,5,none⟩),.bool d] u fun e w'=>(∃ x,e=.returned x)∧Moved u w' gp (cTurned D {X with op:=t} d).1 (cTurned D {X with op:=t} d).2 F1):=
   fun u F1 hu=>wTurned gp D _ F1 d u hu (by rw [hDp,hn4];omega) (by rw [hDp];exact hp2)
  obtain ⟨⟨D2,X2⟩,hD2⟩:∃ q,cTurned D {X with op:=t} d=q:=⟨_,rfl⟩;rw [hD2] at HT HTD;rw [hn4] at HL;have hnz:((n4:Int) == 0)=false:=beq_eq_false_iff_ne.2 (by omega);have hnz2:¬(n4:Int)=0:=by omega
  have HNF:Hid (¬F w.heap.size):=fun hf=>by have:=h.lt _ hf;omega
  clear h hx hok hq1 hp2 hst hpl hn4 hn4' hso hD hDp hd hD2;go_enter Tryz.func17,Tryz.ntmps17
  go_wp2_with fail
  refine HL.out.mono ?_;rintro e w1 ⟨rfl,h1⟩;obtain rfl:=h1.symm;go_wp2_with fail
  refine HFI.out.mono ?_;rintro e w2 ⟨rfl,hb2⟩;have HB2:Hid (Below w.heap.size w (w2.alloc (bSt k nm n))∧(w2.alloc (bSt k nm n)).heap[w2.heap.size]?=some (bSt k nm n)):=⟨Za hb2 (Zb _ _),Zc _ _ rfl⟩;obtain ⟨V,hV⟩:∃ V,V=w2.alloc (bSt k nm n):=⟨_,rfl⟩;rw [←hV] at HB2;have KV:=hideIt hV;have HSZ:=hideIt hb2.size;clear hb2 g5 g6 g7 g8 g9 gz hV;obtain ⟨g5,g6,g7,g8,g9,gz⟩:=blkWd ((HB2.out.1.block gp hgplt).trans HX.out.box);obtain ⟨b0,b1,b2,bz⟩:=blk3d HB2.out.2;go_upto_region 4 with fail
  rw [←KV.out];go_wp2_with fail
  refine (HBG.out V HB2.out.1).mono ?_;rintro e w3 ⟨rfl,h3⟩;obtain rfl:=h3.symm;have hvV:w2.heap.size<V.heap.size:=(Array.getElem?_eq_some_iff.1 HB2.out.2).1;have HNV:Hid (¬F w2.heap.size):=fun hf=>by
   have h1:=HH.out.lt _ hf;have h2:=HSZ.out;omega
  go_upto_region 5 with fail
  go_cut [6] (fun v wx=>v=.bool d∧∃ wy,Hid (Moved w wy gp D {X with op:=t} F)∧wy=wx)
  case first =>
   go_region_held3 (fun w'=>w'.cell? ⟨w2.heap.size,0,none⟩=some (.int .i64 k)∧w'.cell? ⟨w2.heap.size,1,none⟩=some (.string nm)∧w'.cell? ⟨w2.heap.size,2,none⟩=some (.int .i64 n)) (go_keep)
    ((go_at_call 49;refine (HDT.out _ (HB2.out.1.drew)).mono ?_;rintro e w5 ⟨rfl,hm5⟩;have HM5:Hid (Moved w w5 gp D {X with op:=t} F):=Moved.after HB2.out.1.drew hm5;have HO5:Hid (w5.heap[w2.heap.size]?=V.heap[w2.heap.size]?):=(let ⟨_,_,_,hc5⟩:=hm5;hc5.block _ hvV HNV.out);have r0:=(World.cell?_of_block (a:=⟨w2.heap.size,0,none⟩) HO5.out).trans b0;have r1:=(World.cell?_of_block (a:=⟨w2.heap.size,1,none⟩) HO5.out).trans b1;have r2:=(World.cell?_of_block (a:=⟨w2.heap.size,2,none⟩) HO5.out).trans b2;clear hm5))
   all_goals
    go_wp2_with fail
    go_meet
    exact ⟨rfl,_,HM5.out,rfl⟩
  case rest =>
   obtain ⟨rfl,wy,HMV,rfl⟩:=hcut;obtain ⟨F1,hd1,hnx1⟩:=HMV.out.step;have HTD1:=hideIt (HTD.out wy F1 hd1);have HNX1:=hideIt hnx1;clear g5 g6 g7 g8 g9 gz b0 b1 b2 bz hd1 hnx1 hvV;go_wp2_with fail
   refine HTD1.out.mono ?_;rintro e w6 ⟨⟨x,rfl⟩,hm6⟩;have HM6:=hideIt (HNX1.out _ _ _ hm6);obtain ⟨F6,hd6⟩:=HM6.out.desk;obtain ⟨po6,pc6,so6,sc6,wo6,wc6,yo6,yc6,ho6,hc6,hx6⟩:=hd6.ex;have HL6:=hideIt (wLeft gp D2.bud po6 _ pc6 so6 _ sc6 wo6 _ wc6 X2.op yo6 _ yc6 D2.begun D2.back X2.hb ho6 _ hc6 w6 hx6.box);clear hm6 hd6 hx6;go_wp2_with fail
   refine HL6.out.mono ?_;rintro e w7 ⟨rfl,h7⟩;obtain rfl:=h7.symm;go_wp2_with fail
   go_ret2
   rw [HT.out];exact ⟨rfl,HM6.out⟩
theorem ZeA {w w1:World} {gp:Nat} {S:Sta} {X:Aux} {F:Nat→Prop} {po:Option Addr} {pc:Nat} {so:Option Addr} {sc:Nat} {wo:Option Addr} {wc:Nat} {yo:Option Addr} {yc:Nat} {ho:Option Addr} {hc:Nat} (h:DeskX w gp S X F po pc so sc wo wc yo yc ho hc) (hd:DeskAt w gp S X F) (hb:Below w.heap.size w w1) (L:List Stp) (bk:Bool) (H:Int×List Pl) (yo':Option Addr) (yc':Nat) (ho':Option Addr) (hc':Nat) (o1:w1.ownsRow w.heap.size 72 3 (.slice yo' L.length yc') L.length (flatT L)) (o2:w1.ownsRow w.heap.size 70 4 (.slice ho' H.2.length hc') H.2.length (flatP H.2)) :
  Moved w (((((w1.setCell ⟨gp,5,none⟩ (.slice yo' L.length yc')).setCell ⟨gp,6,none⟩ (.bool false)).setCell ⟨gp,7,none⟩ (.bool bk)).setCell ⟨gp,8,none⟩ (.int .i64 H.1)).setCell ⟨gp,9,none⟩ (.slice ho' H.2.length hc')) gp {S with plan:=L,begun:=false,back:=bk} {X with hb:=H.1,hps:=H.2} F:=by
 have hgplt:gp<w.heap.size:=hd.lt gp hd.gp;have hch2:=Zab (Zab (Zab (Zab (ZQ w1 gp 5 (.slice yo' L.length yc')) (ZQ _ gp 6 (.bool false))) (ZQ _ gp 7 (.bool bk))) (ZQ _ gp 8 (.int .i64 H.1))) (ZQ _ gp 9 (.slice ho' H.2.length hc'));have hch:=Zab (Chg.of_below hb) hch2;exact Zbv h hd.gp hd.lt L false bk H.1 H.2 yo' yc' ho' hc' (ZbO (ZbT (ZbQ (Za9 (Zbb ((hb.block gp hgplt).trans h.box) _) _) _) _) _) (Zb1 hgplt hch2 o1) (Zb1 hgplt hch2 o2) hch
theorem pReload (gp:Nat) (s:ByteArray) (S:Sta) (X:Aux) (F:Nat→Prop) (w:World) (h:DeskAt w gp S X F) (hs:s.size≤maxLen) (hq1:S.pools.length≤6) (hp2:S.plan.length≤1000) (hq2:(ans s).err=0→(ans s).tab.2.length≤6) :
  Calls Tryz.prog 15 #[.pointer (some ⟨gp,0,none⟩),.string s] w fun e w'=>e=.returned (.tuple #[.int .i64 (cReload S X (ans s)).n,.int .i64 (cReload S X (ans s)).e,.int .i64 (cReload S X (ans s)).l])∧Moved w w' gp (cReload S X (ans s)).S (cReload S X (ans s)).X F:=by
 obtain ⟨po,pc,so,sc,wo,wc,yo,yc,ho,hc,hx⟩:=h.ex;have hgplt:gp<w.heap.size:=h.lt gp h.gp;have HX:=hideIt hx;have HH:=hideIt h;obtain ⟨n4,hn4⟩:∃ n,S.plan.length=n:=⟨_,rfl⟩;have HL:=hideIt (wLeft gp S.bud po _ pc so _ sc wo _ wc X.op yo _ yc S.begun S.back X.hb ho _ hc w hx.box);rw [hn4] at HL hp2;have HC:=hideIt (Zc3 s w hs);obtain ⟨⟨⟨tb,tp⟩,er,pl⟩,ha⟩:∃ a,ans s=a:=⟨_,rfl⟩;rw [ha] at HC hq2 ⊢;simp only at hq2;have HN:=hideIt hn4;clear h hx hs ha hn4;by_cases hp:n4=0
 ·have hpi:¬(n4:Int) > 0:=by omega
  by_cases her:er=0
  ·subst her;obtain ⟨L,hL⟩:∃ L,Df.diffL S.bud S.pools tb tp=L:=⟨_,rfl⟩;have HR:Hid (cReload S X ⟨(tb,tp),0,pl⟩=⟨{S with plan:=L,begun:=false,back:=false},{X with hb:=(fwdH L S.bud S.pools).1,hps:=(fwdH L S.bud S.pools).2},L.length,0,0⟩):=by
    show _=_;unfold cReload;rw [if_neg (by rw [HN.out,hp];simp),if_neg (by simp)];simp only;rw [hL]
   have htl:=hq2 rfl;have HTB:=hideIt (fun u (hu:Below w.heap.size w u)=>dTable gp S.bud po _ pc so _ sc wo _ wc X.op yo _ yc S.begun S.back X.hb ho _ hc S.pools u ((hu.block gp hgplt).trans HX.out.box) (Zk HX.out.p.own hu) rfl (by omega));obtain ⟨m,hm⟩:∃ m,tp.length=m:=⟨_,rfl⟩;rw [hm] at htl;have HM:=hideIt hm;have HFO:=hideIt (fun u ao ac bo bc (h1:RowAt u (.slice ao S.pools.length ac) S.pools.length (flatP S.pools)) (h2:ao=none→ac=0) (h3:RowAt u (.slice bo m bc) m (flatP tp))=>cForth S.bud ao _ ac S.pools tb bo m bc tp u h1 h2 rfl hq1 h3 HM.out htl);rw [hL] at HFO;clear hL hm hq2;go_enter Tryz.func15,Tryz.ntmps15
   go_wp2_with fail
   refine HL.out.mono ?_;rintro e w1 ⟨rfl,h1⟩;obtain rfl:=h1.symm;go_wp2_with fail
   refine HC.out.mono ?_;rintro e w2 ⟨vo,vc,rfl,hown,hb2⟩;simp only at hown ⊢;rw [HM.out] at hown ⊢;obtain ⟨V,hV⟩:∃ V,V=w2.alloc (bTab tb (.slice vo m vc)):=⟨_,rfl⟩;have K2:Hid (V=w2.alloc (bTab tb (.slice vo m vc))∧V.heap[w2.heap.size]?=some (bTab tb (.slice vo m vc))∧Below w.heap.size w V∧RowAt V (.slice vo m vc) m (flatP tp)):=⟨hV,by rw [hV];exact Zc _ _ rfl,by rw [hV];exact Za hb2 (Zb _ _),by rw [hV];exact (Zd hown).nx (Zb _ _)⟩;clear hown hb2 hV;go_upto_region 6 with fail
   rw [←K2.out.1];go_wp2_with fail
   refine (HTB.out V K2.out.2.2.1).mono ?_;rintro e w3 ⟨ao,ac,rfl,hown3,hb3⟩;obtain ⟨U,hU⟩:∃ U,U=w3.alloc (bTab S.bud (.slice ao S.pools.length ac)):=⟨_,rfl⟩;have hbU:Below V.heap.size V U:=by rw [hU];exact Za hb3 (Zb _ _)
   have K3:Hid (U=w3.alloc (bTab S.bud (.slice ao S.pools.length ac))∧U.heap[w3.heap.size]?=some (bTab S.bud (.slice ao S.pools.length ac))∧U.heap[w2.heap.size]?=some (bTab tb (.slice vo m vc))∧Below w.heap.size w U):=
    ⟨hU,by rw [hU];exact Zc _ _ rfl,(hbU.block _ (Array.getElem?_eq_some_iff.1 K2.out.2.1).1).trans K2.out.2.1,Za K2.out.2.2.1 hbU⟩
   have HF1:=hideIt (HFO.out U ao ac vo vc (by rw [hU];exact (Zd hown3).nx (Zb _ _)) (Zv hown3) (K2.out.2.2.2.nx hbU));clear hown3 hb3 hU hbU;obtain ⟨a0,a1,az⟩:=blk2 K3.out.2.1;obtain ⟨b0,b1,bz⟩:=blk2 K3.out.2.2.1;go_upto_region 7 with fail
   rw [←K3.out.1];go_wp2_with fail
   refine HF1.out.mono ?_;rintro e w4 ⟨vo4,vc4,ho4,hc4,rfl,o1,o2,hb4⟩;have HM4:Hid (Moved w (((((w4.setCell ⟨gp,5,none⟩ (.slice vo4 L.length vc4)).setCell ⟨gp,6,none⟩ (.bool false)).setCell ⟨gp,7,none⟩ (.bool false)).setCell ⟨gp,8,none⟩ (.int .i64 (fwdH L S.bud S.pools).1)).setCell ⟨gp,9,none⟩ (.slice ho4 (fwdH L S.bud S.pools).2.length hc4)) gp {S with plan:=L,begun:=false,back:=false} {X with hb:=(fwdH L S.bud S.pools).1,hps:=(fwdH L S.bud S.pools).2} F):=
    ZeA HX.out HH.out (Za K3.out.2.2.2 hb4) L false _ vo4 vc4 ho4 hc4 (Zi o1 K3.out.2.2.2.size) (Zi o2 K3.out.2.2.2.size)
   have hg4:w4.heap[gp]?=some (bDesk S.bud po S.pools.length pc so S.srv.length sc wo S.wts.length wc X.op ⟨.slice yo S.plan.length yc,S.begun,S.back,X.hb,.slice ho X.hps.length hc⟩):=((Za K3.out.2.2.2 hb4).block gp hgplt).trans HX.out.box;obtain ⟨g5,g6,g7,g8,g9,gz⟩:=blkWd hg4;obtain ⟨lq,hlq⟩:∃ q,L.length=q:=⟨_,rfl⟩;have HLQ:=hideIt hlq;obtain ⟨⟨fb,fp⟩,hff⟩:∃ f,fwdH L S.bud S.pools=f:=⟨_,rfl⟩;rw [hff,hlq] at HM4 ⊢;simp only at HM4;obtain ⟨fq,hfq⟩:∃ q,fp.length=q:=⟨_,rfl⟩;rw [hfq] at HM4 ⊢;obtain ⟨Z,hZ⟩:∃ Z,Z=((((w4.setCell ⟨gp,5,none⟩ (.slice vo4 lq vc4)).setCell ⟨gp,6,none⟩ (.bool false)).setCell ⟨gp,7,none⟩ (.bool false)).setCell ⟨gp,8,none⟩ (.int .i64 fb)).setCell ⟨gp,9,none⟩ (.slice ho4 fq hc4):=⟨_,rfl⟩;rw [←hZ] at HM4;have hgZ:Z.heap[gp]?=some (bDesk S.bud po S.pools.length pc so S.srv.length sc wo S.wts.length wc X.op ⟨.slice vo4 lq vc4,false,false,fb,.slice ho4 fq hc4⟩):=by rw [hZ];exact ZbO (ZbT (ZbQ (Za9 (Zbb hg4 _) _) _) _) _
   have HLZ:=hideIt (wLeft gp S.bud po _ pc so _ sc wo _ wc X.op vo4 lq vc4 false false fb ho4 fq hc4 Z hgZ);have KZ:=hideIt hZ;have HFF:=hideIt hff;clear o1 o2 hb4 hg4 a0 a1 az b0 b1 bz hlq hff hfq hZ hgZ;go_upto_region 8 with fail
   rw [←KZ.out];clear g5 g6 g7 g8 g9 gz;go_wp2_with fail
   refine HLZ.out.mono ?_;rintro e w9 ⟨rfl,h9⟩;obtain rfl:=h9.symm;go_wp2_with fail
   refine bodyPost_ret (v:=.tuple #[.int .i64 (lq:Int),.int .i64 0,.int .i64 0]) (by simp [results,Tryz.results15,go_sem]) rfl ?_;rw [HR.out,HFF.out,HLQ.out];exact ⟨rfl,HM4.out⟩
  ·have HR:Hid (cReload S X ⟨(tb,tp),er,pl⟩=⟨S,X,0,er,pl⟩):=by
    show _=_;unfold cReload;rw [if_neg (by rw [HN.out,hp];simp),if_pos her]
   have heb:(er != 0)=true:=by simpa using her
   clear hq2;go_enter Tryz.func15,Tryz.ntmps15
   go_wp2_with fail
   refine HL.out.mono ?_;rintro e w1 ⟨rfl,h1⟩;obtain rfl:=h1.symm;go_wp2_with fail
   refine HC.out.mono ?_;rintro e w2 ⟨vo,vc,rfl,hown,hb2⟩;have K2:Hid (Below w.heap.size w w2):=hb2;simp only at hown ⊢;clear hown hb2;go_wp2_with fail
   refine bodyPost_ret (v:=.tuple #[.int .i64 0,.int .i64 er,.int .i64 pl]) (by simp [results,Tryz.results15,go_sem]) rfl ?_;rw [HR.out];exact ⟨rfl,Moved.below (Moved.refl HH.out) (Za K2.out (Zb _ _))⟩
 ·have hpi:(n4:Int) > 0:=by omega
  have HR:Hid (cReload S X ⟨(tb,tp),er,pl⟩=⟨S,X,0,16,0⟩):=by
   show _=_;unfold cReload;rw [if_pos (by rw [HN.out];exact hp)]
  clear hq2;go_enter Tryz.func15,Tryz.ntmps15
  go_wp2_with fail
  refine HL.out.mono ?_;rintro e w1 ⟨rfl,h1⟩;obtain rfl:=h1.symm;go_wp2_with fail
  refine bodyPost_ret (v:=.tuple #[.int .i64 0,.int .i64 16,.int .i64 0]) (by simp [results,Tryz.results15,go_sem]) rfl ?_;rw [HR.out];exact ⟨rfl,Moved.refl HH.out⟩
theorem pAbort (gp:Nat) (S:Sta) (X:Aux) (F:Nat→Prop) (w:World) (h:DeskAt w gp S X F) (hq1:S.pools.length≤6) (hq2:X.hps.length≤6) :
  Calls Tryz.prog 19 #[.pointer (some ⟨gp,0,none⟩)] w fun e w'=>e=.returned (.tuple #[.int .i64 (cAbort S X).n,.int .i64 (cAbort S X).e])∧Moved w w' gp (cAbort S X).S (cAbort S X).X F:=by
 obtain ⟨po,pc,so,sc,wo,wk,yo,yc,ho,hc,hx⟩:=h.ex;have hgplt:gp<w.heap.size:=h.lt gp h.gp;have HX:=hideIt hx;have HH:=hideIt h;obtain ⟨n4,hn4⟩:∃ n,S.plan.length=n:=⟨_,rfl⟩;have HL:=hideIt (wLeft gp S.bud po _ pc so _ sc wo _ wk X.op yo _ yc S.begun S.back X.hb ho _ hc w hx.box);have HBK:=hideIt (ZeP gp S.bud po _ pc so _ sc wo _ wk X.op _ w hx.box);rw [hn4] at HL;have HN:=hideIt hn4;clear h hx hn4;by_cases hp:n4=0
 ·have hpi:((n4:Int) == 0)=true:=by rw [hp];rfl
  have HR:Hid (cAbort S X=⟨S,X,0,14,0⟩):=by
   show _=_;unfold cAbort;rw [if_pos (by rw [HN.out];exact hp)]
  go_enter Tryz.func19,Tryz.ntmps19
  go_wp2_with fail
  refine HL.out.mono ?_;rintro e w1 ⟨rfl,h1⟩;obtain rfl:=h1.symm;go_wp2_with fail
  go_ret2
  rw [HR.out];exact ⟨rfl,Moved.refl HH.out⟩
 ·have hpi:((n4:Int) == 0)=false:=beq_eq_false_iff_ne.2 (by omega);have hpj:¬(n4:Int)=0:=by omega
  cases hbk:S.back with
  | true =>
   rw [hbk] at HBK;have HR:Hid (cAbort S X=⟨S,X,0,17,0⟩):=by
    show _=_;unfold cAbort;rw [if_neg (by rw [HN.out];exact hp),if_pos hbk]
   clear hbk;go_enter Tryz.func19,Tryz.ntmps19
   go_wp2_with fail
   refine HL.out.mono ?_;rintro e w1 ⟨rfl,h1⟩;obtain rfl:=h1.symm;go_wp2_with fail
   refine HBK.out.mono ?_;rintro e w1 ⟨rfl,h1⟩;obtain rfl:=h1.symm;go_wp2_with fail
   go_ret2
   rw [HR.out];exact ⟨rfl,Moved.refl HH.out⟩
  | false =>
   rw [hbk] at HBK;obtain ⟨L,hL⟩:∃ L,Df.diffL S.bud S.pools X.hb X.hps=L:=⟨_,rfl⟩;have HR:Hid (cAbort S X=⟨{S with plan:=L,begun:=false,back:=anyS L},{X with hb:=0,hps:=[]},L.length,0,0⟩):=by
    show _=_;unfold cAbort;rw [if_neg (by rw [HN.out];exact hp),if_neg (by rw [hbk];simp),hL]
   have HTB:=hideIt (fun u (hu:Below w.heap.size w u)=>dTable gp S.bud po _ pc so _ sc wo _ wk X.op yo _ yc S.begun S.back X.hb ho _ hc S.pools u ((hu.block gp hgplt).trans HX.out.box) (Zk HX.out.p.own hu) rfl (by omega));have HBA:=hideIt (fun u ao ac (hu:Below w.heap.size w u) (h1:RowAt u (.slice ao S.pools.length ac) S.pools.length (flatP S.pools))=>wBack gp S.bud po _ pc so _ sc wo _ wk X.op yo _ yc S.begun S.back X.hb ho _ hc S.bud ao _ ac S.pools X.hps u ((hu.block gp hgplt).trans HX.out.box) h1 rfl hq1 ((Zd HX.out.h.own).nx hu) rfl hq2);rw [hL] at HBA;clear hL hbk;go_enter Tryz.func19,Tryz.ntmps19
   go_wp2_with fail
   refine HL.out.mono ?_;rintro e w1 ⟨rfl,h1⟩;obtain rfl:=h1.symm;go_wp2_with fail
   refine HBK.out.mono ?_;rintro e w1 ⟨rfl,h1⟩;obtain rfl:=h1.symm;go_wp2_with fail
   refine (HTB.out w (Below.refl _ _)).mono ?_;rintro e w3 ⟨ao,ac,rfl,hown3,hb3⟩;obtain ⟨U,hU⟩:∃ U,U=w3.alloc (bTab S.bud (.slice ao S.pools.length ac)):=⟨_,rfl⟩;have hbU:Below w.heap.size w U:=by rw [hU];exact Za hb3 (Zb _ _)
   have K3:Hid (U=w3.alloc (bTab S.bud (.slice ao S.pools.length ac))∧U.heap[w3.heap.size]?=some (bTab S.bud (.slice ao S.pools.length ac))∧Below w.heap.size w U):=⟨hU,by rw [hU];exact Zc _ _ rfl,hbU⟩;have HF1:=hideIt (fun u (hu:Below U.heap.size U u)=>HBA.out u ao ac (Za hbU hu) (by
    have h1:=(Zd hown3).nx (Zb w3 (bTab S.bud (.slice ao S.pools.length ac)));rw [←hU] at h1;exact h1.nx hu))
   have hgU:gp<U.heap.size:=Nat.lt_of_lt_of_le hgplt hbU.size;have hw3:w3.heap.size<U.heap.size:=(Array.getElem?_eq_some_iff.1 K3.out.2.1).1;have hgb:=(hbU.block gp hgplt).trans HX.out.box;have HGB:=hideIt hgb;obtain ⟨g5,g6,g7,g8,g9,gz⟩:=blkWd hgb;clear hown3 hb3 hU hbU hgb;obtain ⟨a0,a1,az⟩:=blk2 K3.out.2.1;obtain ⟨lq,hlq⟩:∃ q,L.length=q:=⟨_,rfl⟩;have HLQ:=hideIt hlq;obtain ⟨ab,hab⟩:∃ q,anyS L=q:=⟨_,rfl⟩;have HAB:=hideIt hab;unfold WayG at HF1;rw [hlq,hab] at HF1;clear hlq hab;go_upto_region 6 with fail
   rw [←K3.out.1];go_cut [1] (fun _ wx=>∃ vo vc ho4 hc4 w4,Hid (w4.ownsRow U.heap.size 72 3 (.slice vo lq vc) lq (flatT L)∧w4.ownsRow U.heap.size 70 4 (.slice ho4 0 hc4) 0 (flatP [])∧Below U.heap.size U w4)∧((((w4.setCell ⟨gp,5,none⟩ (.slice vo lq vc)).setCell ⟨gp,6,none⟩ (.bool false)).setCell ⟨gp,7,none⟩ (.bool ab)).setCell ⟨gp,8,none⟩ (.int .i64 0)).setCell ⟨gp,9,none⟩ (.slice ho4 0 hc4)=wx)
   case first =>
    go_region_with (go_at_call 54;refine (HF1.out _ ((Below.refl _ _).drew)).mono ?_;rintro e w4 ⟨vo,vc,ho4,hc4,rfl,o1,o2,hb4⟩;have HB4:Hid (w4.ownsRow U.heap.size 72 3 (.slice vo lq vc) lq (flatT L)∧w4.ownsRow U.heap.size 70 4 (.slice ho4 0 hc4) 0 (flatP [])∧Below U.heap.size U w4):=⟨o1,o2,Za (Below.refl _ _).drew hb4⟩;obtain ⟨q5,q6,q7,q8,q9,qz⟩:=blkWd ((HB4.out.2.2.block gp hgU).trans HGB.out);clear o1 o2 hb4)
    all_goals
     go_wp2_with fail
     go_meet
     exact ⟨vo,vc,ho4,hc4,w4,HB4.out,rfl⟩
   case rest =>
    obtain ⟨vo4,vc4,ho4,hc4,w4,HB4,hZ⟩:=hcut;have HM4:Hid (Moved w (((((w4.setCell ⟨gp,5,none⟩ (.slice vo4 L.length vc4)).setCell ⟨gp,6,none⟩ (.bool false)).setCell ⟨gp,7,none⟩ (.bool ab)).setCell ⟨gp,8,none⟩ (.int .i64 0)).setCell ⟨gp,9,none⟩ (.slice ho4 0 hc4)) gp {S with plan:=L,begun:=false,back:=ab} {X with hb:=0,hps:=[]} F):=
     ZeA HX.out HH.out (Za K3.out.2.2 HB4.out.2.2) L ab (0,[]) vo4 vc4 ho4 hc4 (by rw [HLQ.out];exact Zi HB4.out.1 K3.out.2.2.size) (Zi HB4.out.2.1 K3.out.2.2.size)
    rw [HLQ.out,hZ] at HM4;have hgZ:wc.heap[gp]?=some (bDesk S.bud po S.pools.length pc so S.srv.length sc wo S.wts.length wk X.op ⟨.slice vo4 lq vc4,false,ab,0,.slice ho4 0 hc4⟩):=by rw [←hZ];exact ZbO (ZbT (ZbQ (Za9 (Zbb ((HB4.out.2.2.block gp hgU).trans HGB.out) _) _) _) _) _
    have HLZ:=hideIt (wLeft gp S.bud po _ pc so _ sc wo _ wk X.op vo4 lq vc4 false ab 0 ho4 0 hc4 wc hgZ);clear hZ hgZ a0 a1 az g5 g6 g7 g8 g9 gz;go_wp2_with fail
    refine HLZ.out.mono ?_;rintro e w9 ⟨rfl,h9⟩;obtain rfl:=h9.symm;go_wp2_with fail
    go_ret2
    rw [HR.out,HAB.out,HLQ.out];exact ⟨rfl,HM4.out⟩
end Lw
end Go.Proofs.YtcpikklofilkcaaGreat
