import Derived.Test.YtcpikklofilkcaaGreatNqAs
import Derived.Test.YtcpikklofilkcaaGreatNqAi
import Derived.Deep.RegionHeld3
import Derived.Deep.DeepCutAuto
set_option maxRecDepth 100000
set_option maxHeartbeats 16000000
namespace Go.Proofs.YtcpikklofilkcaaGreat
open Go.RowKit
namespace Lw
open Co
abbrev bOp (k A B:Int) (s:ByteArray):Obj:=.cells #[.int .i64 k,.int .i64 A,.int .i64 B,.string s] 49
theorem blk11f {w:World} {g:Nat} {c0 c1 c2 c3 c4 c5 c6 c7 c8 c9 c10:Value} {t:TypeId} (h:w.heap[g]?=some (.cells #[c0,c1,c2,c3,c4,c5,c6,c7,c8,c9,c10] t (0,0))) :
  w.cell? ⟨g,0,none⟩=some c0∧w.cell? ⟨g,1,none⟩=some c1∧w.cell? ⟨g,2,none⟩=some c2∧w.cell? ⟨g,3,none⟩=some c3∧w.cell? ⟨g,4,none⟩=some c4∧w.cell? ⟨g,5,none⟩=some c5∧w.cell? ⟨g,6,none⟩=some c6∧w.cell? ⟨g,7,none⟩=some c7∧w.cell? ⟨g,8,none⟩=some c8∧w.cell? ⟨g,9,none⟩=some c9∧w.cell? ⟨g,10,none⟩=some c10:=by
 refine ⟨?_,?_,?_,?_,?_,?_,?_,?_,?_,?_,?_⟩ <;> simp [World.cell?,h]
theorem blk11z {w:World} {g:Nat} {cs:Array Value} {t:TypeId} (h:w.heap[g]?=some (.cells cs t (0,0))):∀ a,w.frozen? ⟨g,a,none⟩=false:=fun a=>by simp [World.frozen?,h]
theorem blk4f {w:World} {g:Nat} {c0 c1 c2 c3:Value} {t:TypeId} (h:w.heap[g]?=some (.cells #[c0,c1,c2,c3] t (0,0))) :
  w.cell? ⟨g,0,none⟩=some c0∧w.cell? ⟨g,1,none⟩=some c1∧w.cell? ⟨g,2,none⟩=some c2∧w.cell? ⟨g,3,none⟩=some c3:=by
 refine ⟨?_,?_,?_,?_⟩ <;> simp [World.cell?,h]
theorem Zu {w w':World} {gp g:Nat} {S:Sta} {X:Aux} {F:Nat→Prop} (h:Moved w w' gp S X F) (hg:g<w.heap.size) (hF:¬F g):w'.heap[g]?=w.heap[g]?:=by
 obtain ⟨_,_,_,hc⟩:=h;exact hc.block g hg hF
theorem ZL {w w1 w2:World} {S:Sta} {u:Stv} {Y:Int×List Pl} {ho:Option Addr} {hc:Nat} {T:Sta} {v:Stv} {Z:Int×List Pl} {ho':Option Addr} {hc':Nat} (hb:Below w.heap.size w w1) (h:RefG w1 w2 S u Y ho hc T v Z ho' hc'):RefG w w2 S u Y ho hc T v Z ho' hc':=
 ⟨h.at',fun g hg=>(h.blk g hg).imp (fun x=>x) (fun x=>Nat.le_trans hb.size x),Za hb h.bel⟩
structure BoxW (w:World) (S:Sta) (u:Stv) (Y:Int×List Pl) (ho:Option Addr) (hc:Nat) (T:Sta) (v:Stv) (Z:Int×List Pl) (nx:Int) (ho':Option Addr) (hc':Nat) (g:Nat) (wz:World):Prop where
 new:w.heap.size≤g
 box:wz.heap[g]?=some (bWd (.int .i64 T.bud) (.slice v.po T.pools.length v.pc) (.slice v.so T.srv.length v.sc) (.slice v.wo T.wts.length v.wc) (.slice v.tqo T.plan.length v.tc) (.bool T.begun) (.bool T.back) (.int .i64 nx) (.int .i64 Z.1) (.slice ho' Z.2.length hc'))
 bel:Below w.heap.size w wz
 ref:RefG w wz S u Y ho hc T v Z ho' hc'
theorem Zbf {w w5:World} {S:Sta} {u:Stv} {Y:Int×List Pl} {ho:Option Addr} {hc:Nat} {T:Sta} {v:Stv} {Z:Int×List Pl} {nx:Int} {ho':Option Addr} {hc':Nat} (h:RefG w w5 S u Y ho hc T v Z ho' hc'):BoxW w S u Y ho hc T v Z nx ho' hc' w5.heap.size (w5.alloc (bWd (.int .i64 T.bud) (.slice v.po T.pools.length v.pc) (.slice v.so T.srv.length v.sc) (.slice v.wo T.wts.length v.wc) (.slice v.tqo T.plan.length v.tc) (.bool T.begun) (.bool T.back) (.int .i64 nx) (.int .i64 Z.1) (.slice ho' Z.2.length hc'))):=
 ⟨h.bel.size,Zc _ _ rfl,Za h.bel (Zb _ _),⟨h.at'.nx (Zb _ _),h.blk,Za h.bel (Zb _ _)⟩⟩
theorem ZcA {w w5:World} {S:Sta} {u:Stv} {Y:Int×List Pl} {ho:Option Addr} {hc:Nat} {T:Sta} {v:Stv} {Z:Int×List Pl} {nx:Int} {ho':Option Addr} {hc':Nat} (h6:RefG (w.drew.alloc zW) w5 S u Y ho hc T v Z ho' hc') (hz:w5.heap[w.heap.size]?=some zW) (hlt:∀ g,Blkh S u Y ho hc g→g<w.heap.size):BoxW w S u Y ho hc T v Z nx ho' hc' w.heap.size (st10 w5 w.heap.size (.int .i64 T.bud) (.slice v.po T.pools.length v.pc) (.slice v.so T.srv.length v.sc) (.slice v.wo T.wts.length v.wc) (.slice v.tqo T.plan.length v.tc) (.bool T.begun) (.bool T.back) (.int .i64 nx) (.int .i64 Z.1) (.slice ho' Z.2.length hc')):=by
 have h:RefG w w5 S u Y ho hc T v Z ho' hc':=ZL ((Below.refl _ _).drew.alloc (Nat.le_refl _) _) h6;have hnb:∀ g,Blkh T v Z ho' hc' g→g≠w.heap.size:=fun g hg e=>by
  rcases h6.blk g hg with h1 | h1
  ·have:=hlt g h1;omega
  ·have h2:(w.drew.alloc zW).heap.size=w.heap.size+1:=by rw [show (w.drew.alloc zW).heap=(w.alloc zW).heap from rfl];simp
   omega
 have hb:=Zas h.bel (Nat.le_refl w.heap.size) (.int .i64 T.bud) (.slice v.po T.pools.length v.pc) (.slice v.so T.srv.length v.sc) (.slice v.wo T.wts.length v.wc) (.slice v.tqo T.plan.length v.tc) (.bool T.begun) (.bool T.back) (.int .i64 nx) (.int .i64 Z.1) (.slice ho' Z.2.length hc');have hch:Chg (fun y=>y=w.heap.size) w5 (st10 w5 w.heap.size (.int .i64 T.bud) (.slice v.po T.pools.length v.pc) (.slice v.so T.srv.length v.sc) (.slice v.wo T.wts.length v.wc) (.slice v.tqo T.plan.length v.tc) (.bool T.begun) (.bool T.back) (.int .i64 nx) (.int .i64 Z.1) (.slice ho' Z.2.length hc')):=by
  have hs:∀ (x:World) (a:Nat) (y:Value),Chg (fun y=>y=w.heap.size) x (x.setCell ⟨w.heap.size,a,none⟩ y):=fun x a y=>Chg.set (F:=fun y=>y=w.heap.size) x w.heap.size a y rfl
  have ht:∀ {a b c:World},Chg (fun y=>y=w.heap.size) a b→Chg (fun y=>y=w.heap.size) b c→Chg (fun y=>y=w.heap.size) a c:=fun h k=>h.trans k (fun _ hx=>.inl hx)
  exact ht (ht (ht (ht (ht (ht (ht (ht (ht (hs _ _ _) (hs _ _ _)) (hs _ _ _)) (hs _ _ _)) (hs _ _ _)) (hs _ _ _)) (hs _ _ _)) (hs _ _ _)) (hs _ _ _)) (hs _ _ _)
 exact ⟨Nat.le_refl _,Zag hz _ _ _ _ _ _ _ _ _ _,hb,⟨h.at'.keep hch hnb,h.blk,hb⟩⟩
theorem BoxW.take {w wz:World} {gx gp go:Nat} {D:Sta} {X:Aux} {S:Sta} {nx:Int} {Y:Int×List Pl} {Fp F:Nat→Prop} {u:Stv} {ho:Option Addr} {hc q1 q2 q4:Nat} {T:Sta} {v:Stv} {Z:Int×List Pl} {nx':Int} {ho':Option Addr} {hc' g:Nat} (hx:BoxW w S u Y ho hc T v Z nx' ho' hc' g wz) (h:Run w gx gp go D X S nx Y Fp F u ho hc q1 q2 q4) :
  Run (stw wz gx (.int .i64 T.bud) (.slice v.po T.pools.length v.pc) (.slice v.so T.srv.length v.sc) (.slice v.wo T.wts.length v.wc) (.slice v.tqo T.plan.length v.tc) (.bool T.begun) (.bool T.back) (.int .i64 nx') (.int .i64 Z.1) (.slice ho' Z.2.length hc')) gx gp go D X T nx' Z Fp F v ho' hc' q1 q2 q4:=
 h.taken hx.ref (Below.refl _ _) nx'
def LeaseG (r:Res) (gx gp go:Nat) (Y:Int×List Pl) (Fp F:Nat→Prop) (q1 q2 q4:Nat) (X:Aux) (w w':World) (e:Ending):Prop:=
 e=.returned (.bool true)∧(∃ Fp' u' ho' hc',Run w' gx gp go r.S {X with op:=r.op} r.S (r.op+1) Y Fp' F u' ho' hc' q1 q2 q4∧∀ y,Fp' y→Fp y∨w.heap.size≤y)∧Chg (fun y=>Fp y∨y=gx) w w'
theorem Zdz {q:Res} {D:Sta} {t id:Int} {er:Nat} (h:q.S=D∧q.op=t∧q.id=id∧q.err=er):q=⟨D,t,id,er⟩:=by
 cases q;obtain ⟨rfl,rfl,rfl,rfl⟩:=h;rfl
theorem lease1 (gx gp go:Nat) (S:Sta) (X:Aux) (Y:Int×List Pl) (Fp F:Nat→Prop) (u:Stv) (ho:Option Addr) (hc:Nat) (q1 q2 q4:Nat) (w:World) (A B:Int) (s:ByteArray) (h:Run w gx gp go S X S (X.op+1) Y Fp F u ho hc q1 q2 q4) (hk:RefOk S X.op Y) (hst:Still S X.op) :
  Calls Tryz.prog 14 #[.pointer (some ⟨gx,0,none⟩),.agg #[.int .i64 1,.int .i64 A,.int .i64 B,.string s]] w fun e w'=>LeaseG (cAsk S X.op A s) gx gp go Y Fp F q1 q2 q4 X w w' e:=by
 obtain ⟨hsame,_,_⟩:=(Zhq hk.ok.inv hst A s);obtain ⟨W0,hW0⟩:∃ W0,W0=w.alloc (bOp 1 A B s):=⟨_,rfl⟩;have hbW:Below w.heap.size w W0:=by rw [hW0];exact Zb _ _
 have K0:Hid (W0=w.alloc (bOp 1 A B s)∧W0.heap[w.heap.size]?=some (bOp 1 A B s)∧Below w.heap.size w W0):=⟨hW0,by rw [hW0];exact Zc _ _ rfl,hbW⟩;have HR0:=hideIt (h.below hbW);have hd:∀ u2,Below W0.heap.size W0 u2→DeskAt u2 gp S X Fp:=fun u2 hu=>(h.below (Za hbW hu)).desk
 obtain ⟨⟨D,t,id,er⟩,hcr⟩:∃ r,(cAsk S X.op A s)=r:=⟨_,rfl⟩;have hrr:(rAsk S (X.op+1) A s).S=D∧(rAsk S (X.op+1) A s).op=t+1∧(rAsk S (X.op+1) A s).id=id∧(rAsk S (X.op+1) A s).err=er:=by
  obtain ⟨s1,s2,s3,s4⟩:=hsame;rw [hcr] at s1 s2 s3 s4;exact ⟨s1.symm,s2.symm,s3.symm,s4.symm⟩
 have HPC:Hid (∀ u2,Below W0.heap.size W0 u2→Calls Tryz.prog 34 #[.pointer (some ⟨gp,0,none⟩),.int .i64 A,.string s] u2 fun e w'=>e=.returned (.tuple #[.int .i64 id,.int .i64 (er:Int)])∧Moved u2 w' gp D {X with op:=t} Fp):=by
  intro u2 hu;have:=pAsk gp A s S X Fp u2 (hd u2 hu) hk.ok hk.pot1;rw [hcr] at this;exact this
 have HRC:Hid (∀ v,WdAt v S u Y ho hc→Calls Tryz.prog 35 #[wdA S u (X.op+1) Y ho hc,.int .i64 A,.string s] v fun e w'=>∃ u' ho' hc',e=.returned (.tuple #[wdA D u' (t+1) Y ho' hc',.int .i64 id,.int .i64 (er:Int)])∧RefG v w' S u Y ho hc D u' Y ho' hc'):=by
  intro v hv;have:=refAsk A s S X.op Y u ho hc v hv hk;rw [Zdz hrr] at this;exact this
 have HCR:=hideIt hcr;have HNF:Hid (¬Fp gx∧¬Fp w.heap.size):=⟨h.dxp,fun hf=>by have:=h.desk.lt _ hf;omega⟩;clear h hk hst hsame hW0 hbW hd hcr hrr;obtain ⟨x0,x1,x2,x3,x4,x5,x6,x7,x8,x9,x10⟩:=blk11f HR0.out.pr;obtain ⟨b0,b1,b2,b3⟩:=blk4f K0.out.2.1;have hgx0:=HR0.out.lt;have hw0:w.heap.size<W0.heap.size:=(Array.getElem?_eq_some_iff.1 K0.out.2.1).1;go_enter Tryz.func14,Tryz.ntmps14
 go_upto_region 3 with fail
 rw [←K0.out.1];go_cut [5,6] (fun v1 v wx=>v1=.int .i64 id∧v=.int .i64 (er:Int)∧∃ wy,Hid (Moved W0 wy gp D {X with op:=t} Fp)∧wy=wx)
 case first =>
  go_region_held3 (fun w'=>w'.cell? ⟨gx,0,none⟩=some (.pointer (some ⟨gp,0,none⟩))∧w'.cell? ⟨w.heap.size,1,none⟩=some (.int .i64 A)∧w'.cell? ⟨w.heap.size,3,none⟩=some (.string s)) (go_keep)
   ((go_at_call 34;refine (HPC.out _ ((Below.refl _ _).drew)).mono ?_;rintro e w2 ⟨rfl,hm2⟩;have HM2:Hid (Moved W0 w2 gp D {X with op:=t} Fp):=Moved.after (Below.refl _ _).drew hm2;have HX2:Hid (w2.heap[gx]?=W0.heap[gx]?):=Zu HM2.out hgx0 HNF.out.1;have HO2:Hid (w2.heap[w.heap.size]?=W0.heap[w.heap.size]?):=Zu HM2.out hw0 HNF.out.2;have q1:=(World.cell?_of_block (a:=⟨gx,0,none⟩) HX2.out).trans x0;have q2:=(World.cell?_of_block (a:=⟨w.heap.size,1,none⟩) HO2.out).trans b1;have q3:=(World.cell?_of_block (a:=⟨w.heap.size,3,none⟩) HO2.out).trans b3;clear hm2))
  all_goals
   go_wp2_with fail
   go_meet
   exact ⟨rfl,rfl,_,HM2.out,rfl⟩
 case rest =>
  obtain ⟨rfl,rfl,wy,HMV,rfl⟩:=hcut;obtain ⟨Fp1,hr1,hF1⟩:=HR0.out.moved HMV.out;have HR1:=hideIt hr1;have HF1:Hid (∀ y,Fp1 y→Fp y∨w.heap.size≤y):=fun y hy=>(hF1 y hy).imp (fun x=>x) (fun x=>Nat.le_trans K0.out.2.2.size x)
  have HY1:Hid (wy.heap[w.heap.size]?=some (bOp 1 A B s)):=(Zu HMV.out hw0 HNF.out.2).trans K0.out.2.1;clear x0 x1 x2 x3 x4 x5 x6 x7 x8 x9 x10 b0 b1 b2 b3 hr1 hF1;obtain ⟨x0,x1,x2,x3,x4,x5,x6,x7,x8,x9,x10⟩:=blk11f HR1.out.pr;obtain ⟨b0,b1,b2,b3⟩:=blk4f HY1.out;have hgy:=HR1.out.lt;have hwy:w.heap.size<wy.heap.size:=(Array.getElem?_eq_some_iff.1 HY1.out).1;have n1:=World.new_ne wy _ x1;have n2:=World.new_ne wy _ x2;have n3:=World.new_ne wy _ x3;have n4:=World.new_ne wy _ x4;have n5:=World.new_ne wy _ x5;have n6:=World.new_ne wy _ x6;have n7:=World.new_ne wy _ x7;have n8:=World.new_ne wy _ x8;have n9:=World.new_ne wy _ x9;have n10:=World.new_ne wy _ x10;have n11:=World.new_ne wy _ b1;have n12:=World.new_ne wy _ b3;have HRD:=hideIt (fun v (hv:Below wy.heap.size wy v)=>HRC.out v (HR1.out.ref.nx hv));simp only [wdA] at HRD;go_upto_region 4 with fail
  go_cut [7,8,9] (fun p v1 v wx=>v1=.int .i64 id∧v=.int .i64 (er:Int)∧∃ (g:Nat) (u':Stv) (ho':Option Addr) (hc':Nat) (wz:World),p=.pointer (some ⟨g,0,none⟩)∧Hid (BoxW wy S u Y ho hc D u' Y (t+1) ho' hc' g wz)∧wz=wx)
  case first =>
   go_region_held3 (fun w'=>w'.cell? ⟨gx,1,none⟩=some (.int .i64 S.bud)∧w'.cell? ⟨gx,2,none⟩=some (.slice u.po S.pools.length u.pc)∧w'.cell? ⟨gx,3,none⟩=some (.slice u.so S.srv.length u.sc)∧w'.cell? ⟨gx,4,none⟩=some (.slice u.wo S.wts.length u.wc)∧w'.cell? ⟨gx,5,none⟩=some (.slice u.tqo S.plan.length u.tc)∧w'.cell? ⟨gx,6,none⟩=some (.bool S.begun)∧w'.cell? ⟨gx,7,none⟩=some (.bool S.back)∧w'.cell? ⟨gx,8,none⟩=some (.int .i64 (X.op+1))∧w'.cell? ⟨gx,9,none⟩=some (.int .i64 Y.1)∧w'.cell? ⟨gx,10,none⟩=some (.slice ho Y.2.length hc)∧w'.cell? ⟨w.heap.size,1,none⟩=some (.int .i64 A)∧w'.cell? ⟨w.heap.size,3,none⟩=some (.string s)) (go_keep)
    ((go_at_call 35;refine (HRD.out _ (by first | exact (Below.refl _ _).drew | exact (Below.refl _ _).drew.alloc (Nat.le_refl _) _)).mono ?_;rintro e w5 ⟨u',ho',hc',rfl,hg5⟩;have HG5:Hid (RefG wy w5 S u Y ho hc D u' Y ho' hc'):=(by first | exact ZL (Below.refl _ _).drew hg5 | exact ZL ((Below.refl _ _).drew.alloc (Nat.le_refl _) _) hg5);have HB5:=hideIt HG5.out.bel;(first | (have HG6:Hid (RefG (wy.drew.alloc zW) w5 S u Y ho hc D u' Y ho' hc'):=hg5) | skip);have k1:=(HB5.out.cell (p:=⟨gx,1,none⟩) hgy).trans x1;have k2:=(HB5.out.cell (p:=⟨gx,2,none⟩) hgy).trans x2;have k3:=(HB5.out.cell (p:=⟨gx,3,none⟩) hgy).trans x3;have k4:=(HB5.out.cell (p:=⟨gx,4,none⟩) hgy).trans x4;have k5:=(HB5.out.cell (p:=⟨gx,5,none⟩) hgy).trans x5;have k6:=(HB5.out.cell (p:=⟨gx,6,none⟩) hgy).trans x6;have k7:=(HB5.out.cell (p:=⟨gx,7,none⟩) hgy).trans x7;have k8:=(HB5.out.cell (p:=⟨gx,8,none⟩) hgy).trans x8;have k9:=(HB5.out.cell (p:=⟨gx,9,none⟩) hgy).trans x9;have k10:=(HB5.out.cell (p:=⟨gx,10,none⟩) hgy).trans x10;have k11:=(HB5.out.cell (p:=⟨w.heap.size,1,none⟩) hwy).trans b1;have k12:=(HB5.out.cell (p:=⟨w.heap.size,3,none⟩) hwy).trans b3;have l1:=World.new_ne w5 _ k1;have l2:=World.new_ne w5 _ k2;have l3:=World.new_ne w5 _ k3;have l4:=World.new_ne w5 _ k4;have l5:=World.new_ne w5 _ k5;have l6:=World.new_ne w5 _ k6;have l7:=World.new_ne w5 _ k7;have l8:=World.new_ne w5 _ k8;have l9:=World.new_ne w5 _ k9;have l10:=World.new_ne w5 _ k10;have l11:=World.new_ne w5 _ k11;have l12:=World.new_ne w5 _ k12;(first | (have HBZ:Hid (w5.heap[wy.heap.size]?=some zW):=(hg5.bel.block wy.heap.size (by simp)).trans (Zc wy.drew zW rfl);obtain ⟨m0,m1,m2,m3,m4,m5,m6,m7,m8,m9,mz⟩:=blk10 HBZ.out) | skip);clear hg5))
   all_goals
    go_wp2_with fail
    go_meet
    first
    | exact ⟨rfl,rfl,_,u',ho',hc',_,rfl,Zbf HG5.out,rfl⟩
    | exact ⟨rfl,rfl,_,u',ho',hc',_,rfl,ZcA HG6.out HBZ.out HR1.out.ref.lt,rfl⟩
  case rest =>
   obtain ⟨rfl,rfl,g,u',ho',hc',wz,rfl,HBX,rfl⟩:=hcut;have HR2:=hideIt (HBX.out.take HR1.out);have HCZ:Hid (Chg (fun y=>Fp y∨y=gx) w wz):=by
    obtain ⟨_,_,_,hc2⟩:=HMV.out;exact ((Chg.of_below K0.out.2.2).trans (hc2.mono (fun y hy=>(.inl hy:Fp y∨y=gx))) (fun x hx=>.inl hx)).trans (Chg.of_below (F:=fun y=>Fp y∨y=gx) HBX.out.bel) (fun x hx=>.inl hx)
   clear x0 x1 x2 x3 x4 x5 x6 x7 x8 x9 x10 b0 b1 b2 b3 n1 n2 n3 n4 n5 n6 n7 n8 n9 n10 n11 n12 hgy hwy;obtain ⟨m0,m1,m2,m3,m4,m5,m6,m7,m8,m9,mz⟩:=blk10 HBX.out.box;have hpz:wz.heap[gx]?=some (bPair (.pointer (some ⟨gp,0,none⟩)) S.bud (.slice u.po S.pools.length u.pc) (.slice u.so S.srv.length u.sc) (.slice u.wo S.wts.length u.wc) (.slice u.tqo S.plan.length u.tc) S.begun S.back (X.op+1) Y.1 (.slice ho Y.2.length hc)):=(HBX.out.bel.block gx HR1.out.lt).trans HR1.out.pr;obtain ⟨x0,x1,x2,x3,x4,x5,x6,x7,x8,x9,x10⟩:=blk11f hpz;have xz:=blk11z hpz;have hgne:g≠gx:=by have h1:=HBX.out.new;have h2:=HR1.out.lt;omega
   clear hpz;go_wp2_with fail
   go_ret
   rw [HCR.out];exact ⟨by simp,⟨_,_,_,_,HR2.out,HF1.out⟩,HCZ.out.trans (Zaw _ _ _ _ _ _ _ _ _ _ _ _) (fun x hx=>.inl (.inr hx))⟩
theorem lease2 (gx gp go:Nat) (S:Sta) (X:Aux) (Y:Int×List Pl) (Fp F:Nat→Prop) (u:Stv) (ho:Option Addr) (hc:Nat) (q1 q2 q4:Nat) (w:World) (A B:Int) (s:ByteArray) (h:Run w gx gp go S X S (X.op+1) Y Fp F u ho hc q1 q2 q4) (hk:RefOk S X.op Y) (hst:Still S X.op) :
  Calls Tryz.prog 14 #[.pointer (some ⟨gx,0,none⟩),.agg #[.int .i64 2,.int .i64 A,.int .i64 B,.string s]] w fun e w'=>LeaseG (cDone S X.op A) gx gp go Y Fp F q1 q2 q4 X w w' e:=by
 obtain ⟨hsame,_,_⟩:=(Zgv hk.ok.inv hst A);obtain ⟨W0,hW0⟩:∃ W0,W0=w.alloc (bOp 2 A B s):=⟨_,rfl⟩;have hbW:Below w.heap.size w W0:=by rw [hW0];exact Zb _ _
 have K0:Hid (W0=w.alloc (bOp 2 A B s)∧W0.heap[w.heap.size]?=some (bOp 2 A B s)∧Below w.heap.size w W0):=⟨hW0,by rw [hW0];exact Zc _ _ rfl,hbW⟩;have HR0:=hideIt (h.below hbW);have hd:∀ u2,Below W0.heap.size W0 u2→DeskAt u2 gp S X Fp:=fun u2 hu=>(h.below (Za hbW hu)).desk
 obtain ⟨⟨D,t,id,er⟩,hcr⟩:∃ r,(cDone S X.op A)=r:=⟨_,rfl⟩;have hrr:(rDone S (X.op+1) A).S=D∧(rDone S (X.op+1) A).op=t+1∧(rDone S (X.op+1) A).id=id∧(rDone S (X.op+1) A).err=er:=by
  obtain ⟨s1,s2,s3,s4⟩:=hsame;rw [hcr] at s1 s2 s3 s4;exact ⟨s1.symm,s2.symm,s3.symm,s4.symm⟩
 have HPC:Hid (∀ u2,Below W0.heap.size W0 u2→Calls Tryz.prog 36 #[.pointer (some ⟨gp,0,none⟩),.int .i64 A] u2 fun e w'=>e=.returned (.int .i64 (er:Int))∧Moved u2 w' gp D {X with op:=t} Fp):=by
  intro u2 hu;have:=pDone gp A S X Fp u2 (hd u2 hu) hk.ok;rw [hcr] at this;exact this
 have HRC:Hid (∀ v,WdAt v S u Y ho hc→Calls Tryz.prog 37 #[wdA S u (X.op+1) Y ho hc,.int .i64 A] v fun e w'=>∃ u' ho' hc',e=.returned (.tuple #[wdA D u' (t+1) Y ho' hc',.int .i64 (er:Int)])∧RefG v w' S u Y ho hc D u' Y ho' hc'):=by
  intro v hv;have:=refDone A S X.op Y u ho hc v hv hk;rw [Zdz hrr] at this;exact this
 have HCR:=hideIt hcr;have HNF:Hid (¬Fp gx∧¬Fp w.heap.size):=⟨h.dxp,fun hf=>by have:=h.desk.lt _ hf;omega⟩;clear h hk hst hsame hW0 hbW hd hcr hrr;obtain ⟨x0,x1,x2,x3,x4,x5,x6,x7,x8,x9,x10⟩:=blk11f HR0.out.pr;obtain ⟨b0,b1,b2,b3⟩:=blk4f K0.out.2.1;have hgx0:=HR0.out.lt;have hw0:w.heap.size<W0.heap.size:=(Array.getElem?_eq_some_iff.1 K0.out.2.1).1;go_enter Tryz.func14,Tryz.ntmps14
 go_upto_region 8 with fail
 rw [←K0.out.1];go_cut [10] (fun v wx=>v=.int .i64 (er:Int)∧∃ wy,Hid (Moved W0 wy gp D {X with op:=t} Fp)∧wy=wx)
 case first =>
  go_region_held3 (fun w'=>w'.cell? ⟨gx,0,none⟩=some (.pointer (some ⟨gp,0,none⟩))∧w'.cell? ⟨w.heap.size,1,none⟩=some (.int .i64 A)) (go_keep)
   ((go_at_call 36;refine (HPC.out _ ((Below.refl _ _).drew)).mono ?_;rintro e w2 ⟨rfl,hm2⟩;have HM2:Hid (Moved W0 w2 gp D {X with op:=t} Fp):=Moved.after (Below.refl _ _).drew hm2;have HX2:Hid (w2.heap[gx]?=W0.heap[gx]?):=Zu HM2.out hgx0 HNF.out.1;have HO2:Hid (w2.heap[w.heap.size]?=W0.heap[w.heap.size]?):=Zu HM2.out hw0 HNF.out.2;have q1:=(World.cell?_of_block (a:=⟨gx,0,none⟩) HX2.out).trans x0;have q2:=(World.cell?_of_block (a:=⟨w.heap.size,1,none⟩) HO2.out).trans b1;clear hm2))
  all_goals
   go_wp2_with fail
   go_meet
   exact ⟨rfl,_,HM2.out,rfl⟩
 case rest =>
  obtain ⟨rfl,wy,HMV,rfl⟩:=hcut;obtain ⟨Fp1,hr1,hF1⟩:=HR0.out.moved HMV.out;have HR1:=hideIt hr1;have HF1:Hid (∀ y,Fp1 y→Fp y∨w.heap.size≤y):=fun y hy=>(hF1 y hy).imp (fun x=>x) (fun x=>Nat.le_trans K0.out.2.2.size x)
  have HY1:Hid (wy.heap[w.heap.size]?=some (bOp 2 A B s)):=(Zu HMV.out hw0 HNF.out.2).trans K0.out.2.1;clear x0 x1 x2 x3 x4 x5 x6 x7 x8 x9 x10 b0 b1 b2 b3 hr1 hF1;obtain ⟨x0,x1,x2,x3,x4,x5,x6,x7,x8,x9,x10⟩:=blk11f HR1.out.pr;obtain ⟨b0,b1,b2,b3⟩:=blk4f HY1.out;have hgy:=HR1.out.lt;have hwy:w.heap.size<wy.heap.size:=(Array.getElem?_eq_some_iff.1 HY1.out).1;have n1:=World.new_ne wy _ x1;have n2:=World.new_ne wy _ x2;have n3:=World.new_ne wy _ x3;have n4:=World.new_ne wy _ x4;have n5:=World.new_ne wy _ x5;have n6:=World.new_ne wy _ x6;have n7:=World.new_ne wy _ x7;have n8:=World.new_ne wy _ x8;have n9:=World.new_ne wy _ x9;have n10:=World.new_ne wy _ x10;have n11:=World.new_ne wy _ b1;have HRD:=hideIt (fun v (hv:Below wy.heap.size wy v)=>HRC.out v (HR1.out.ref.nx hv));simp only [wdA] at HRD;go_upto_region 9 with fail
  go_cut [11,12] (fun p v wx=>v=.int .i64 (er:Int)∧∃ (g:Nat) (u':Stv) (ho':Option Addr) (hc':Nat) (wz:World),p=.pointer (some ⟨g,0,none⟩)∧Hid (BoxW wy S u Y ho hc D u' Y (t+1) ho' hc' g wz)∧wz=wx)
  case first =>
   go_region_held3 (fun w'=>w'.cell? ⟨gx,1,none⟩=some (.int .i64 S.bud)∧w'.cell? ⟨gx,2,none⟩=some (.slice u.po S.pools.length u.pc)∧w'.cell? ⟨gx,3,none⟩=some (.slice u.so S.srv.length u.sc)∧w'.cell? ⟨gx,4,none⟩=some (.slice u.wo S.wts.length u.wc)∧w'.cell? ⟨gx,5,none⟩=some (.slice u.tqo S.plan.length u.tc)∧w'.cell? ⟨gx,6,none⟩=some (.bool S.begun)∧w'.cell? ⟨gx,7,none⟩=some (.bool S.back)∧w'.cell? ⟨gx,8,none⟩=some (.int .i64 (X.op+1))∧w'.cell? ⟨gx,9,none⟩=some (.int .i64 Y.1)∧w'.cell? ⟨gx,10,none⟩=some (.slice ho Y.2.length hc)∧w'.cell? ⟨w.heap.size,1,none⟩=some (.int .i64 A)) (go_keep)
    ((go_at_call 37;refine (HRD.out _ (by first | exact (Below.refl _ _).drew | exact (Below.refl _ _).drew.alloc (Nat.le_refl _) _)).mono ?_;rintro e w5 ⟨u',ho',hc',rfl,hg5⟩;have HG5:Hid (RefG wy w5 S u Y ho hc D u' Y ho' hc'):=(by first | exact ZL (Below.refl _ _).drew hg5 | exact ZL ((Below.refl _ _).drew.alloc (Nat.le_refl _) _) hg5);have HB5:=hideIt HG5.out.bel;(first | (have HG6:Hid (RefG (wy.drew.alloc zW) w5 S u Y ho hc D u' Y ho' hc'):=hg5) | skip);have k1:=(HB5.out.cell (p:=⟨gx,1,none⟩) hgy).trans x1;have k2:=(HB5.out.cell (p:=⟨gx,2,none⟩) hgy).trans x2;have k3:=(HB5.out.cell (p:=⟨gx,3,none⟩) hgy).trans x3;have k4:=(HB5.out.cell (p:=⟨gx,4,none⟩) hgy).trans x4;have k5:=(HB5.out.cell (p:=⟨gx,5,none⟩) hgy).trans x5;have k6:=(HB5.out.cell (p:=⟨gx,6,none⟩) hgy).trans x6;have k7:=(HB5.out.cell (p:=⟨gx,7,none⟩) hgy).trans x7;have k8:=(HB5.out.cell (p:=⟨gx,8,none⟩) hgy).trans x8;have k9:=(HB5.out.cell (p:=⟨gx,9,none⟩) hgy).trans x9;have k10:=(HB5.out.cell (p:=⟨gx,10,none⟩) hgy).trans x10;have k11:=(HB5.out.cell (p:=⟨w.heap.size,1,none⟩) hwy).trans b1;have l1:=World.new_ne w5 _ k1;have l2:=World.new_ne w5 _ k2;have l3:=World.new_ne w5 _ k3;have l4:=World.new_ne w5 _ k4;have l5:=World.new_ne w5 _ k5;have l6:=World.new_ne w5 _ k6;have l7:=World.new_ne w5 _ k7;have l8:=World.new_ne w5 _ k8;have l9:=World.new_ne w5 _ k9;have l10:=World.new_ne w5 _ k10;have l11:=World.new_ne w5 _ k11;(first | (have HBZ:Hid (w5.heap[wy.heap.size]?=some zW):=(hg5.bel.block wy.heap.size (by simp)).trans (Zc wy.drew zW rfl);obtain ⟨m0,m1,m2,m3,m4,m5,m6,m7,m8,m9,mz⟩:=blk10 HBZ.out) | skip);clear hg5))
   all_goals
    go_wp2_with fail
    go_meet
    first
    | exact ⟨rfl,_,u',ho',hc',_,rfl,Zbf HG5.out,rfl⟩
    | exact ⟨rfl,_,u',ho',hc',_,rfl,ZcA HG6.out HBZ.out HR1.out.ref.lt,rfl⟩
  case rest =>
   obtain ⟨rfl,g,u',ho',hc',wz,rfl,HBX,rfl⟩:=hcut;have HR2:=hideIt (HBX.out.take HR1.out);have HCZ:Hid (Chg (fun y=>Fp y∨y=gx) w wz):=by
    obtain ⟨_,_,_,hc2⟩:=HMV.out;exact ((Chg.of_below K0.out.2.2).trans (hc2.mono (fun y hy=>(.inl hy:Fp y∨y=gx))) (fun x hx=>.inl hx)).trans (Chg.of_below (F:=fun y=>Fp y∨y=gx) HBX.out.bel) (fun x hx=>.inl hx)
   clear x0 x1 x2 x3 x4 x5 x6 x7 x8 x9 x10 b0 b1 b2 b3 n1 n2 n3 n4 n5 n6 n7 n8 n9 n10 n11 hgy hwy;obtain ⟨m0,m1,m2,m3,m4,m5,m6,m7,m8,m9,mz⟩:=blk10 HBX.out.box;have hpz:wz.heap[gx]?=some (bPair (.pointer (some ⟨gp,0,none⟩)) S.bud (.slice u.po S.pools.length u.pc) (.slice u.so S.srv.length u.sc) (.slice u.wo S.wts.length u.wc) (.slice u.tqo S.plan.length u.tc) S.begun S.back (X.op+1) Y.1 (.slice ho Y.2.length hc)):=(HBX.out.bel.block gx HR1.out.lt).trans HR1.out.pr;obtain ⟨x0,x1,x2,x3,x4,x5,x6,x7,x8,x9,x10⟩:=blk11f hpz;have xz:=blk11z hpz;have hgne:g≠gx:=by have h1:=HBX.out.new;have h2:=HR1.out.lt;omega
   clear hpz;go_wp2_with fail
   go_ret
   rw [HCR.out];exact ⟨by simp,⟨_,_,_,_,HR2.out,HF1.out⟩,HCZ.out.trans (Zaw _ _ _ _ _ _ _ _ _ _ _ _) (fun x hx=>.inl (.inr hx))⟩
theorem lease3 (gx gp go:Nat) (S:Sta) (X:Aux) (Y:Int×List Pl) (Fp F:Nat→Prop) (u:Stv) (ho:Option Addr) (hc:Nat) (q1 q2 q4:Nat) (w:World) (A B:Int) (s:ByteArray) (h:Run w gx gp go S X S (X.op+1) Y Fp F u ho hc q1 q2 q4) (hk:RefOk S X.op Y) (hst:Still S X.op) :
  Calls Tryz.prog 14 #[.pointer (some ⟨gx,0,none⟩),.agg #[.int .i64 3,.int .i64 A,.int .i64 B,.string s]] w fun e w'=>LeaseG (cLeave S X.op A) gx gp go Y Fp F q1 q2 q4 X w w' e:=by
 obtain ⟨hsame,_,_⟩:=(ZfF hk.ok.inv hst A);obtain ⟨W0,hW0⟩:∃ W0,W0=w.alloc (bOp 3 A B s):=⟨_,rfl⟩;have hbW:Below w.heap.size w W0:=by rw [hW0];exact Zb _ _
 have K0:Hid (W0=w.alloc (bOp 3 A B s)∧W0.heap[w.heap.size]?=some (bOp 3 A B s)∧Below w.heap.size w W0):=⟨hW0,by rw [hW0];exact Zc _ _ rfl,hbW⟩;have HR0:=hideIt (h.below hbW);have hd:∀ u2,Below W0.heap.size W0 u2→DeskAt u2 gp S X Fp:=fun u2 hu=>(h.below (Za hbW hu)).desk
 obtain ⟨⟨D,t,id,er⟩,hcr⟩:∃ r,(cLeave S X.op A)=r:=⟨_,rfl⟩;have hrr:(rLeave S (X.op+1) A).S=D∧(rLeave S (X.op+1) A).op=t+1∧(rLeave S (X.op+1) A).id=id∧(rLeave S (X.op+1) A).err=er:=by
  obtain ⟨s1,s2,s3,s4⟩:=hsame;rw [hcr] at s1 s2 s3 s4;exact ⟨s1.symm,s2.symm,s3.symm,s4.symm⟩
 have HPC:Hid (∀ u2,Below W0.heap.size W0 u2→Calls Tryz.prog 38 #[.pointer (some ⟨gp,0,none⟩),.int .i64 A] u2 fun e w'=>e=.returned (.int .i64 (er:Int))∧Moved u2 w' gp D {X with op:=t} Fp):=by
  intro u2 hu;have:=pLeave gp A S X Fp u2 (hd u2 hu) hk.ok;rw [hcr] at this;exact this
 have HRC:Hid (∀ v,WdAt v S u Y ho hc→Calls Tryz.prog 39 #[wdA S u (X.op+1) Y ho hc,.int .i64 A] v fun e w'=>∃ u' ho' hc',e=.returned (.tuple #[wdA D u' (t+1) Y ho' hc',.int .i64 (er:Int)])∧RefG v w' S u Y ho hc D u' Y ho' hc'):=by
  intro v hv;have:=refLeave A S X.op Y u ho hc v hv hk;rw [Zdz hrr] at this;exact this
 have HCR:=hideIt hcr;have HNF:Hid (¬Fp gx∧¬Fp w.heap.size):=⟨h.dxp,fun hf=>by have:=h.desk.lt _ hf;omega⟩;clear h hk hst hsame hW0 hbW hd hcr hrr;obtain ⟨x0,x1,x2,x3,x4,x5,x6,x7,x8,x9,x10⟩:=blk11f HR0.out.pr;obtain ⟨b0,b1,b2,b3⟩:=blk4f K0.out.2.1;have hgx0:=HR0.out.lt;have hw0:w.heap.size<W0.heap.size:=(Array.getElem?_eq_some_iff.1 K0.out.2.1).1;go_enter Tryz.func14,Tryz.ntmps14
 go_upto_region 13 with fail
 rw [←K0.out.1];go_cut [13] (fun v wx=>v=.int .i64 (er:Int)∧∃ wy,Hid (Moved W0 wy gp D {X with op:=t} Fp)∧wy=wx)
 case first =>
  go_region_held3 (fun w'=>w'.cell? ⟨gx,0,none⟩=some (.pointer (some ⟨gp,0,none⟩))∧w'.cell? ⟨w.heap.size,1,none⟩=some (.int .i64 A)) (go_keep)
   ((go_at_call 38;refine (HPC.out _ ((Below.refl _ _).drew)).mono ?_;rintro e w2 ⟨rfl,hm2⟩;have HM2:Hid (Moved W0 w2 gp D {X with op:=t} Fp):=Moved.after (Below.refl _ _).drew hm2;have HX2:Hid (w2.heap[gx]?=W0.heap[gx]?):=Zu HM2.out hgx0 HNF.out.1;have HO2:Hid (w2.heap[w.heap.size]?=W0.heap[w.heap.size]?):=Zu HM2.out hw0 HNF.out.2;have q1:=(World.cell?_of_block (a:=⟨gx,0,none⟩) HX2.out).trans x0;have q2:=(World.cell?_of_block (a:=⟨w.heap.size,1,none⟩) HO2.out).trans b1;clear hm2))
  all_goals
   go_wp2_with fail
   go_meet
   exact ⟨rfl,_,HM2.out,rfl⟩
 case rest =>
  obtain ⟨rfl,wy,HMV,rfl⟩:=hcut;obtain ⟨Fp1,hr1,hF1⟩:=HR0.out.moved HMV.out;have HR1:=hideIt hr1;have HF1:Hid (∀ y,Fp1 y→Fp y∨w.heap.size≤y):=fun y hy=>(hF1 y hy).imp (fun x=>x) (fun x=>Nat.le_trans K0.out.2.2.size x)
  have HY1:Hid (wy.heap[w.heap.size]?=some (bOp 3 A B s)):=(Zu HMV.out hw0 HNF.out.2).trans K0.out.2.1;clear x0 x1 x2 x3 x4 x5 x6 x7 x8 x9 x10 b0 b1 b2 b3 hr1 hF1;obtain ⟨x0,x1,x2,x3,x4,x5,x6,x7,x8,x9,x10⟩:=blk11f HR1.out.pr;obtain ⟨b0,b1,b2,b3⟩:=blk4f HY1.out;have hgy:=HR1.out.lt;have hwy:w.heap.size<wy.heap.size:=(Array.getElem?_eq_some_iff.1 HY1.out).1;have n1:=World.new_ne wy _ x1;have n2:=World.new_ne wy _ x2;have n3:=World.new_ne wy _ x3;have n4:=World.new_ne wy _ x4;have n5:=World.new_ne wy _ x5;have n6:=World.new_ne wy _ x6;have n7:=World.new_ne wy _ x7;have n8:=World.new_ne wy _ x8;have n9:=World.new_ne wy _ x9;have n10:=World.new_ne wy _ x10;have n11:=World.new_ne wy _ b1;have HRD:=hideIt (fun v (hv:Below wy.heap.size wy v)=>HRC.out v (HR1.out.ref.nx hv));simp only [wdA] at HRD;go_upto_region 14 with fail
  go_cut [14,15] (fun p v wx=>v=.int .i64 (er:Int)∧∃ (g:Nat) (u':Stv) (ho':Option Addr) (hc':Nat) (wz:World),p=.pointer (some ⟨g,0,none⟩)∧Hid (BoxW wy S u Y ho hc D u' Y (t+1) ho' hc' g wz)∧wz=wx)
  case first =>
   go_region_held3 (fun w'=>w'.cell? ⟨gx,1,none⟩=some (.int .i64 S.bud)∧w'.cell? ⟨gx,2,none⟩=some (.slice u.po S.pools.length u.pc)∧w'.cell? ⟨gx,3,none⟩=some (.slice u.so S.srv.length u.sc)∧w'.cell? ⟨gx,4,none⟩=some (.slice u.wo S.wts.length u.wc)∧w'.cell? ⟨gx,5,none⟩=some (.slice u.tqo S.plan.length u.tc)∧w'.cell? ⟨gx,6,none⟩=some (.bool S.begun)∧w'.cell? ⟨gx,7,none⟩=some (.bool S.back)∧w'.cell? ⟨gx,8,none⟩=some (.int .i64 (X.op+1))∧w'.cell? ⟨gx,9,none⟩=some (.int .i64 Y.1)∧w'.cell? ⟨gx,10,none⟩=some (.slice ho Y.2.length hc)∧w'.cell? ⟨w.heap.size,1,none⟩=some (.int .i64 A)) (go_keep)
    ((go_at_call 39;refine (HRD.out _ (by first | exact (Below.refl _ _).drew | exact (Below.refl _ _).drew.alloc (Nat.le_refl _) _)).mono ?_;rintro e w5 ⟨u',ho',hc',rfl,hg5⟩;have HG5:Hid (RefG wy w5 S u Y ho hc D u' Y ho' hc'):=(by first | exact ZL (Below.refl _ _).drew hg5 | exact ZL ((Below.refl _ _).drew.alloc (Nat.le_refl _) _) hg5);have HB5:=hideIt HG5.out.bel;(first | (have HG6:Hid (RefG (wy.drew.alloc zW) w5 S u Y ho hc D u' Y ho' hc'):=hg5) | skip);have k1:=(HB5.out.cell (p:=⟨gx,1,none⟩) hgy).trans x1;have k2:=(HB5.out.cell (p:=⟨gx,2,none⟩) hgy).trans x2;have k3:=(HB5.out.cell (p:=⟨gx,3,none⟩) hgy).trans x3;have k4:=(HB5.out.cell (p:=⟨gx,4,none⟩) hgy).trans x4;have k5:=(HB5.out.cell (p:=⟨gx,5,none⟩) hgy).trans x5;have k6:=(HB5.out.cell (p:=⟨gx,6,none⟩) hgy).trans x6;have k7:=(HB5.out.cell (p:=⟨gx,7,none⟩) hgy).trans x7;have k8:=(HB5.out.cell (p:=⟨gx,8,none⟩) hgy).trans x8;have k9:=(HB5.out.cell (p:=⟨gx,9,none⟩) hgy).trans x9;have k10:=(HB5.out.cell (p:=⟨gx,10,none⟩) hgy).trans x10;have k11:=(HB5.out.cell (p:=⟨w.heap.size,1,none⟩) hwy).trans b1;have l1:=World.new_ne w5 _ k1;have l2:=World.new_ne w5 _ k2;have l3:=World.new_ne w5 _ k3;have l4:=World.new_ne w5 _ k4;have l5:=World.new_ne w5 _ k5;have l6:=World.new_ne w5 _ k6;have l7:=World.new_ne w5 _ k7;have l8:=World.new_ne w5 _ k8;have l9:=World.new_ne w5 _ k9;have l10:=World.new_ne w5 _ k10;have l11:=World.new_ne w5 _ k11;(first | (have HBZ:Hid (w5.heap[wy.heap.size]?=some zW):=(hg5.bel.block wy.heap.size (by simp)).trans (Zc wy.drew zW rfl);obtain ⟨m0,m1,m2,m3,m4,m5,m6,m7,m8,m9,mz⟩:=blk10 HBZ.out) | skip);clear hg5))
   all_goals
    go_wp2_with fail
    go_meet
    first
    | exact ⟨rfl,_,u',ho',hc',_,rfl,Zbf HG5.out,rfl⟩
    | exact ⟨rfl,_,u',ho',hc',_,rfl,ZcA HG6.out HBZ.out HR1.out.ref.lt,rfl⟩
  case rest =>
   obtain ⟨rfl,g,u',ho',hc',wz,rfl,HBX,rfl⟩:=hcut;have HR2:=hideIt (HBX.out.take HR1.out);have HCZ:Hid (Chg (fun y=>Fp y∨y=gx) w wz):=by
    obtain ⟨_,_,_,hc2⟩:=HMV.out;exact ((Chg.of_below K0.out.2.2).trans (hc2.mono (fun y hy=>(.inl hy:Fp y∨y=gx))) (fun x hx=>.inl hx)).trans (Chg.of_below (F:=fun y=>Fp y∨y=gx) HBX.out.bel) (fun x hx=>.inl hx)
   clear x0 x1 x2 x3 x4 x5 x6 x7 x8 x9 x10 b0 b1 b2 b3 n1 n2 n3 n4 n5 n6 n7 n8 n9 n10 n11 hgy hwy;obtain ⟨m0,m1,m2,m3,m4,m5,m6,m7,m8,m9,mz⟩:=blk10 HBX.out.box;have hpz:wz.heap[gx]?=some (bPair (.pointer (some ⟨gp,0,none⟩)) S.bud (.slice u.po S.pools.length u.pc) (.slice u.so S.srv.length u.sc) (.slice u.wo S.wts.length u.wc) (.slice u.tqo S.plan.length u.tc) S.begun S.back (X.op+1) Y.1 (.slice ho Y.2.length hc)):=(HBX.out.bel.block gx HR1.out.lt).trans HR1.out.pr;obtain ⟨x0,x1,x2,x3,x4,x5,x6,x7,x8,x9,x10⟩:=blk11f hpz;have xz:=blk11z hpz;have hgne:g≠gx:=by have h1:=HBX.out.new;have h2:=HR1.out.lt;omega
   clear hpz;go_wp2_with fail
   go_ret
   rw [HCR.out];exact ⟨by simp,⟨_,_,_,_,HR2.out,HF1.out⟩,HCZ.out.trans (Zaw _ _ _ _ _ _ _ _ _ _ _ _) (fun x hx=>.inl (.inr hx))⟩
theorem lease4 (gx gp go:Nat) (S:Sta) (X:Aux) (Y:Int×List Pl) (Fp F:Nat→Prop) (u:Stv) (ho:Option Addr) (hc:Nat) (q1 q2 q4:Nat) (w:World) (A B:Int) (s:ByteArray) (h:Run w gx gp go S X S (X.op+1) Y Fp F u ho hc q1 q2 q4) (hk:RefOk S X.op Y) (hst:Still S X.op) :
  Calls Tryz.prog 14 #[.pointer (some ⟨gx,0,none⟩),.agg #[.int .i64 4,.int .i64 A,.int .i64 B,.string s]] w fun e w'=>LeaseG (cCrash S X.op A) gx gp go Y Fp F q1 q2 q4 X w w' e:=by
 obtain ⟨hsame,_,_⟩:=(Zfp hk.ok.inv hst A);obtain ⟨W0,hW0⟩:∃ W0,W0=w.alloc (bOp 4 A B s):=⟨_,rfl⟩;have hbW:Below w.heap.size w W0:=by rw [hW0];exact Zb _ _
 have K0:Hid (W0=w.alloc (bOp 4 A B s)∧W0.heap[w.heap.size]?=some (bOp 4 A B s)∧Below w.heap.size w W0):=⟨hW0,by rw [hW0];exact Zc _ _ rfl,hbW⟩;have HR0:=hideIt (h.below hbW);have hd:∀ u2,Below W0.heap.size W0 u2→DeskAt u2 gp S X Fp:=fun u2 hu=>(h.below (Za hbW hu)).desk
 obtain ⟨⟨D,t,id,er⟩,hcr⟩:∃ r,(cCrash S X.op A)=r:=⟨_,rfl⟩;have hrr:(rCrash S (X.op+1) A).S=D∧(rCrash S (X.op+1) A).op=t+1∧(rCrash S (X.op+1) A).id=id∧(rCrash S (X.op+1) A).err=er:=by
  obtain ⟨s1,s2,s3,s4⟩:=hsame;rw [hcr] at s1 s2 s3 s4;exact ⟨s1.symm,s2.symm,s3.symm,s4.symm⟩
 have HPC:Hid (∀ u2,Below W0.heap.size W0 u2→Calls Tryz.prog 40 #[.pointer (some ⟨gp,0,none⟩),.int .i64 A] u2 fun e w'=>e=.returned (.int .i64 (er:Int))∧Moved u2 w' gp D {X with op:=t} Fp):=by
  intro u2 hu;have:=pCrash gp A S X Fp u2 (hd u2 hu) hk.ok;rw [hcr] at this;exact this
 have HRC:Hid (∀ v,WdAt v S u Y ho hc→Calls Tryz.prog 41 #[wdA S u (X.op+1) Y ho hc,.int .i64 A] v fun e w'=>∃ u' ho' hc',e=.returned (.tuple #[wdA D u' (t+1) Y ho' hc',.int .i64 (er:Int)])∧RefG v w' S u Y ho hc D u' Y ho' hc'):=by
  intro v hv;have:=refCrash A S X.op Y u ho hc v hv hk;rw [Zdz hrr] at this;exact this
 have HCR:=hideIt hcr;have HNF:Hid (¬Fp gx∧¬Fp w.heap.size):=⟨h.dxp,fun hf=>by have:=h.desk.lt _ hf;omega⟩;clear h hk hst hsame hW0 hbW hd hcr hrr;obtain ⟨x0,x1,x2,x3,x4,x5,x6,x7,x8,x9,x10⟩:=blk11f HR0.out.pr;obtain ⟨b0,b1,b2,b3⟩:=blk4f K0.out.2.1;have hgx0:=HR0.out.lt;have hw0:w.heap.size<W0.heap.size:=(Array.getElem?_eq_some_iff.1 K0.out.2.1).1;go_enter Tryz.func14,Tryz.ntmps14
 go_upto_region 17 with fail
 rw [←K0.out.1];go_cut [16] (fun v wx=>v=.int .i64 (er:Int)∧∃ wy,Hid (Moved W0 wy gp D {X with op:=t} Fp)∧wy=wx)
 case first =>
  go_region_held3 (fun w'=>w'.cell? ⟨gx,0,none⟩=some (.pointer (some ⟨gp,0,none⟩))∧w'.cell? ⟨w.heap.size,1,none⟩=some (.int .i64 A)) (go_keep)
   ((go_at_call 40;refine (HPC.out _ ((Below.refl _ _).drew)).mono ?_;rintro e w2 ⟨rfl,hm2⟩;have HM2:Hid (Moved W0 w2 gp D {X with op:=t} Fp):=Moved.after (Below.refl _ _).drew hm2;have HX2:Hid (w2.heap[gx]?=W0.heap[gx]?):=Zu HM2.out hgx0 HNF.out.1;have HO2:Hid (w2.heap[w.heap.size]?=W0.heap[w.heap.size]?):=Zu HM2.out hw0 HNF.out.2;have q1:=(World.cell?_of_block (a:=⟨gx,0,none⟩) HX2.out).trans x0;have q2:=(World.cell?_of_block (a:=⟨w.heap.size,1,none⟩) HO2.out).trans b1;clear hm2))
  all_goals
   go_wp2_with fail
   go_meet
   exact ⟨rfl,_,HM2.out,rfl⟩
 case rest =>
  obtain ⟨rfl,wy,HMV,rfl⟩:=hcut;obtain ⟨Fp1,hr1,hF1⟩:=HR0.out.moved HMV.out;have HR1:=hideIt hr1;have HF1:Hid (∀ y,Fp1 y→Fp y∨w.heap.size≤y):=fun y hy=>(hF1 y hy).imp (fun x=>x) (fun x=>Nat.le_trans K0.out.2.2.size x)
  have HY1:Hid (wy.heap[w.heap.size]?=some (bOp 4 A B s)):=(Zu HMV.out hw0 HNF.out.2).trans K0.out.2.1;clear x0 x1 x2 x3 x4 x5 x6 x7 x8 x9 x10 b0 b1 b2 b3 hr1 hF1;obtain ⟨x0,x1,x2,x3,x4,x5,x6,x7,x8,x9,x10⟩:=blk11f HR1.out.pr;obtain ⟨b0,b1,b2,b3⟩:=blk4f HY1.out;have hgy:=HR1.out.lt;have hwy:w.heap.size<wy.heap.size:=(Array.getElem?_eq_some_iff.1 HY1.out).1;have n1:=World.new_ne wy _ x1;have n2:=World.new_ne wy _ x2;have n3:=World.new_ne wy _ x3;have n4:=World.new_ne wy _ x4;have n5:=World.new_ne wy _ x5;have n6:=World.new_ne wy _ x6;have n7:=World.new_ne wy _ x7;have n8:=World.new_ne wy _ x8;have n9:=World.new_ne wy _ x9;have n10:=World.new_ne wy _ x10;have n11:=World.new_ne wy _ b1;have HRD:=hideIt (fun v (hv:Below wy.heap.size wy v)=>HRC.out v (HR1.out.ref.nx hv));simp only [wdA] at HRD;go_upto_region 18 with fail
  go_cut [17,18] (fun p v wx=>v=.int .i64 (er:Int)∧∃ (g:Nat) (u':Stv) (ho':Option Addr) (hc':Nat) (wz:World),p=.pointer (some ⟨g,0,none⟩)∧Hid (BoxW wy S u Y ho hc D u' Y (t+1) ho' hc' g wz)∧wz=wx)
  case first =>
   go_region_held3 (fun w'=>w'.cell? ⟨gx,1,none⟩=some (.int .i64 S.bud)∧w'.cell? ⟨gx,2,none⟩=some (.slice u.po S.pools.length u.pc)∧w'.cell? ⟨gx,3,none⟩=some (.slice u.so S.srv.length u.sc)∧w'.cell? ⟨gx,4,none⟩=some (.slice u.wo S.wts.length u.wc)∧w'.cell? ⟨gx,5,none⟩=some (.slice u.tqo S.plan.length u.tc)∧w'.cell? ⟨gx,6,none⟩=some (.bool S.begun)∧w'.cell? ⟨gx,7,none⟩=some (.bool S.back)∧w'.cell? ⟨gx,8,none⟩=some (.int .i64 (X.op+1))∧w'.cell? ⟨gx,9,none⟩=some (.int .i64 Y.1)∧w'.cell? ⟨gx,10,none⟩=some (.slice ho Y.2.length hc)∧w'.cell? ⟨w.heap.size,1,none⟩=some (.int .i64 A)) (go_keep)
    ((go_at_call 41;refine (HRD.out _ (by first | exact (Below.refl _ _).drew | exact (Below.refl _ _).drew.alloc (Nat.le_refl _) _)).mono ?_;rintro e w5 ⟨u',ho',hc',rfl,hg5⟩;have HG5:Hid (RefG wy w5 S u Y ho hc D u' Y ho' hc'):=(by first | exact ZL (Below.refl _ _).drew hg5 | exact ZL ((Below.refl _ _).drew.alloc (Nat.le_refl _) _) hg5);have HB5:=hideIt HG5.out.bel;(first | (have HG6:Hid (RefG (wy.drew.alloc zW) w5 S u Y ho hc D u' Y ho' hc'):=hg5) | skip);have k1:=(HB5.out.cell (p:=⟨gx,1,none⟩) hgy).trans x1;have k2:=(HB5.out.cell (p:=⟨gx,2,none⟩) hgy).trans x2;have k3:=(HB5.out.cell (p:=⟨gx,3,none⟩) hgy).trans x3;have k4:=(HB5.out.cell (p:=⟨gx,4,none⟩) hgy).trans x4;have k5:=(HB5.out.cell (p:=⟨gx,5,none⟩) hgy).trans x5;have k6:=(HB5.out.cell (p:=⟨gx,6,none⟩) hgy).trans x6;have k7:=(HB5.out.cell (p:=⟨gx,7,none⟩) hgy).trans x7;have k8:=(HB5.out.cell (p:=⟨gx,8,none⟩) hgy).trans x8;have k9:=(HB5.out.cell (p:=⟨gx,9,none⟩) hgy).trans x9;have k10:=(HB5.out.cell (p:=⟨gx,10,none⟩) hgy).trans x10;have k11:=(HB5.out.cell (p:=⟨w.heap.size,1,none⟩) hwy).trans b1;have l1:=World.new_ne w5 _ k1;have l2:=World.new_ne w5 _ k2;have l3:=World.new_ne w5 _ k3;have l4:=World.new_ne w5 _ k4;have l5:=World.new_ne w5 _ k5;have l6:=World.new_ne w5 _ k6;have l7:=World.new_ne w5 _ k7;have l8:=World.new_ne w5 _ k8;have l9:=World.new_ne w5 _ k9;have l10:=World.new_ne w5 _ k10;have l11:=World.new_ne w5 _ k11;(first | (have HBZ:Hid (w5.heap[wy.heap.size]?=some zW):=(hg5.bel.block wy.heap.size (by simp)).trans (Zc wy.drew zW rfl);obtain ⟨m0,m1,m2,m3,m4,m5,m6,m7,m8,m9,mz⟩:=blk10 HBZ.out) | skip);clear hg5))
   all_goals
    go_wp2_with fail
    go_meet
    first
    | exact ⟨rfl,_,u',ho',hc',_,rfl,Zbf HG5.out,rfl⟩
    | exact ⟨rfl,_,u',ho',hc',_,rfl,ZcA HG6.out HBZ.out HR1.out.ref.lt,rfl⟩
  case rest =>
   obtain ⟨rfl,g,u',ho',hc',wz,rfl,HBX,rfl⟩:=hcut;have HR2:=hideIt (HBX.out.take HR1.out);have HCZ:Hid (Chg (fun y=>Fp y∨y=gx) w wz):=by
    obtain ⟨_,_,_,hc2⟩:=HMV.out;exact ((Chg.of_below K0.out.2.2).trans (hc2.mono (fun y hy=>(.inl hy:Fp y∨y=gx))) (fun x hx=>.inl hx)).trans (Chg.of_below (F:=fun y=>Fp y∨y=gx) HBX.out.bel) (fun x hx=>.inl hx)
   clear x0 x1 x2 x3 x4 x5 x6 x7 x8 x9 x10 b0 b1 b2 b3 n1 n2 n3 n4 n5 n6 n7 n8 n9 n10 n11 hgy hwy;obtain ⟨m0,m1,m2,m3,m4,m5,m6,m7,m8,m9,mz⟩:=blk10 HBX.out.box;have hpz:wz.heap[gx]?=some (bPair (.pointer (some ⟨gp,0,none⟩)) S.bud (.slice u.po S.pools.length u.pc) (.slice u.so S.srv.length u.sc) (.slice u.wo S.wts.length u.wc) (.slice u.tqo S.plan.length u.tc) S.begun S.back (X.op+1) Y.1 (.slice ho Y.2.length hc)):=(HBX.out.bel.block gx HR1.out.lt).trans HR1.out.pr;obtain ⟨x0,x1,x2,x3,x4,x5,x6,x7,x8,x9,x10⟩:=blk11f hpz;have xz:=blk11z hpz;have hgne:g≠gx:=by have h1:=HBX.out.new;have h2:=HR1.out.lt;omega
   clear hpz;go_wp2_with fail
   go_ret
   rw [HCR.out];exact ⟨by simp,⟨_,_,_,_,HR2.out,HF1.out⟩,HCZ.out.trans (Zaw _ _ _ _ _ _ _ _ _ _ _ _) (fun x hx=>.inl (.inr hx))⟩
end Lw
end Go.Proofs.YtcpikklofilkcaaGreat
