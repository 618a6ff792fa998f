import Derived.Test.YtcpikklofilkcaaGreatNqAr
import Derived.Test.YtcpikklofilkcaaGreatNqAt
import Derived.Test.YtcpikklofilkcaaGreatNqV
import Derived.Test.YtcpikklofilkcaaGreatNqQ
set_option maxRecDepth 100000
set_option maxHeartbeats 16000000
namespace Go.Proofs.YtcpikklofilkcaaGreat
open Go.RowKit
namespace Lw
open Co
def PlayQ (q:Rsp) (Z:Int×List Pl) (gx gp go:Nat) (Fp F:Nat→Prop) (q1 q2 q4:Nat) (w w':World) (e:Ending):Prop:=
 e=.returned (.bool true)∧(∃ Fp' u' ho' hc',Run w' gx gp go q.S q.X q.S (q.X.op+1) Z Fp' F u' ho' hc' q1 q2 q4∧∀ y,Fp' y→Fp y∨w.heap.size≤y)∧Chg (fun y=>Fp y∨y=gx) w w'
theorem Zb6 {r:Res} {gx gp go:Nat} {X:Aux} {Y:Int×List Pl} {Fp F:Nat→Prop} {q1 q2 q4:Nat} {w W0 w':World} {e:Ending} (hb:Below w.heap.size w W0) (h:LeaseG r gx gp go Y Fp F q1 q2 q4 X W0 w' e):PlayQ ⟨r.S,{X with op:=r.op},0,0,0⟩ Y gx gp go Fp F q1 q2 q4 w w' e:=by
 obtain ⟨he,⟨Fp',u',ho',hc',hrun,hF⟩,hch⟩:=h;exact ⟨he,⟨Fp',u',ho',hc',hrun,fun y hy=>(hF y hy).imp (fun x=>x) (fun x=>Nat.le_trans hb.size x)⟩,(Chg.of_below hb).trans hch (fun x hx=>.inl hx)⟩
theorem playQ1 (gx gp go:Nat) (S:Sta) (X:Aux) (Y:Int×List Pl) (Fp F:Nat→Prop) (u:Stv) (ho:Option Addr) (hc:Nat) (q1 q2 q4:Nat) (w:World) (A B:Int) (s:ByteArray) (h:Run w gx gp go S X S (X.op+1) Y Fp F u ho hc q1 q2 q4) (hk:RefOk S X.op Y) (hst:Still S X.op) :
  Calls Tryz.prog 7 #[.pointer (some ⟨gx,0,none⟩),.agg #[.int .i64 1,.int .i64 A,.int .i64 B,.string s]] w fun e w'=>PlayQ ⟨(cAsk S X.op A s).S,{X with op:=(cAsk S X.op A s).op},0,0,0⟩ Y gx gp go Fp F q1 q2 q4 w w' e:=by
 obtain ⟨W0,hW0⟩:∃ W0,W0=w.alloc (bOp 1 A B s):=⟨_,rfl⟩;have hbW:Below w.heap.size w W0:=by rw [hW0];exact Zb _ _
 have K0:Hid (W0=w.alloc (bOp 1 A B s)∧W0.heap[w.heap.size]?=some (bOp 1 A B s)∧Below w.heap.size w W0):=⟨hW0,by rw [hW0];exact Zc _ _ rfl,hbW⟩;have HL:=hideIt (lease1 gx gp go S X Y Fp F u ho hc q1 q2 q4 W0 A B s (h.below hbW) hk hst);clear h hk hst hW0 hbW;go_enter Tryz.func7,Tryz.ntmps7
 go_upto_region 1 with fail
 rw [←K0.out.1];obtain ⟨b0,b1,b2,b3⟩:=blk4f K0.out.2.1;go_wp2_with fail
 refine HL.out.mono ?_;intro e w1 hg;have HG:=hideIt (Zb6 K0.out.2.2 hg);obtain rfl:=hg.1;clear hg b0 b1 b2 b3;go_wp2_with fail
 go_ret
 exact HG.out
theorem playQ2 (gx gp go:Nat) (S:Sta) (X:Aux) (Y:Int×List Pl) (Fp F:Nat→Prop) (u:Stv) (ho:Option Addr) (hc:Nat) (q1 q2 q4:Nat) (w:World) (A B:Int) (s:ByteArray) (h:Run w gx gp go S X S (X.op+1) Y Fp F u ho hc q1 q2 q4) (hk:RefOk S X.op Y) (hst:Still S X.op) :
  Calls Tryz.prog 7 #[.pointer (some ⟨gx,0,none⟩),.agg #[.int .i64 2,.int .i64 A,.int .i64 B,.string s]] w fun e w'=>PlayQ ⟨(cDone S X.op A).S,{X with op:=(cDone S X.op A).op},0,0,0⟩ Y gx gp go Fp F q1 q2 q4 w w' e:=by
 obtain ⟨W0,hW0⟩:∃ W0,W0=w.alloc (bOp 2 A B s):=⟨_,rfl⟩;have hbW:Below w.heap.size w W0:=by rw [hW0];exact Zb _ _
 have K0:Hid (W0=w.alloc (bOp 2 A B s)∧W0.heap[w.heap.size]?=some (bOp 2 A B s)∧Below w.heap.size w W0):=⟨hW0,by rw [hW0];exact Zc _ _ rfl,hbW⟩;have HL:=hideIt (lease2 gx gp go S X Y Fp F u ho hc q1 q2 q4 W0 A B s (h.below hbW) hk hst);clear h hk hst hW0 hbW;go_enter Tryz.func7,Tryz.ntmps7
 go_upto_region 1 with fail
 rw [←K0.out.1];obtain ⟨b0,b1,b2,b3⟩:=blk4f K0.out.2.1;go_wp2_with fail
 refine HL.out.mono ?_;intro e w1 hg;have HG:=hideIt (Zb6 K0.out.2.2 hg);obtain rfl:=hg.1;clear hg b0 b1 b2 b3;go_wp2_with fail
 go_ret
 exact HG.out
theorem playQ3 (gx gp go:Nat) (S:Sta) (X:Aux) (Y:Int×List Pl) (Fp F:Nat→Prop) (u:Stv) (ho:Option Addr) (hc:Nat) (q1 q2 q4:Nat) (w:World) (A B:Int) (s:ByteArray) (h:Run w gx gp go S X S (X.op+1) Y Fp F u ho hc q1 q2 q4) (hk:RefOk S X.op Y) (hst:Still S X.op) :
  Calls Tryz.prog 7 #[.pointer (some ⟨gx,0,none⟩),.agg #[.int .i64 3,.int .i64 A,.int .i64 B,.string s]] w fun e w'=>PlayQ ⟨(cLeave S X.op A).S,{X with op:=(cLeave S X.op A).op},0,0,0⟩ Y gx gp go Fp F q1 q2 q4 w w' e:=by
 obtain ⟨W0,hW0⟩:∃ W0,W0=w.alloc (bOp 3 A B s):=⟨_,rfl⟩;have hbW:Below w.heap.size w W0:=by rw [hW0];exact Zb _ _
 have K0:Hid (W0=w.alloc (bOp 3 A B s)∧W0.heap[w.heap.size]?=some (bOp 3 A B s)∧Below w.heap.size w W0):=⟨hW0,by rw [hW0];exact Zc _ _ rfl,hbW⟩;have HL:=hideIt (lease3 gx gp go S X Y Fp F u ho hc q1 q2 q4 W0 A B s (h.below hbW) hk hst);clear h hk hst hW0 hbW;go_enter Tryz.func7,Tryz.ntmps7
 go_upto_region 1 with fail
 rw [←K0.out.1];obtain ⟨b0,b1,b2,b3⟩:=blk4f K0.out.2.1;go_wp2_with fail
 refine HL.out.mono ?_;intro e w1 hg;have HG:=hideIt (Zb6 K0.out.2.2 hg);obtain rfl:=hg.1;clear hg b0 b1 b2 b3;go_wp2_with fail
 go_ret
 exact HG.out
theorem playQ4 (gx gp go:Nat) (S:Sta) (X:Aux) (Y:Int×List Pl) (Fp F:Nat→Prop) (u:Stv) (ho:Option Addr) (hc:Nat) (q1 q2 q4:Nat) (w:World) (A B:Int) (s:ByteArray) (h:Run w gx gp go S X S (X.op+1) Y Fp F u ho hc q1 q2 q4) (hk:RefOk S X.op Y) (hst:Still S X.op) :
  Calls Tryz.prog 7 #[.pointer (some ⟨gx,0,none⟩),.agg #[.int .i64 4,.int .i64 A,.int .i64 B,.string s]] w fun e w'=>PlayQ ⟨(cCrash S X.op A).S,{X with op:=(cCrash S X.op A).op},0,0,0⟩ Y gx gp go Fp F q1 q2 q4 w w' e:=by
 obtain ⟨W0,hW0⟩:∃ W0,W0=w.alloc (bOp 4 A B s):=⟨_,rfl⟩;have hbW:Below w.heap.size w W0:=by rw [hW0];exact Zb _ _
 have K0:Hid (W0=w.alloc (bOp 4 A B s)∧W0.heap[w.heap.size]?=some (bOp 4 A B s)∧Below w.heap.size w W0):=⟨hW0,by rw [hW0];exact Zc _ _ rfl,hbW⟩;have HL:=hideIt (lease4 gx gp go S X Y Fp F u ho hc q1 q2 q4 W0 A B s (h.below hbW) hk hst);clear h hk hst hW0 hbW;go_enter Tryz.func7,Tryz.ntmps7
 go_upto_region 1 with fail
 rw [←K0.out.1];obtain ⟨b0,b1,b2,b3⟩:=blk4f K0.out.2.1;go_wp2_with fail
 refine HL.out.mono ?_;intro e w1 hg;have HG:=hideIt (Zb6 K0.out.2.2 hg);obtain rfl:=hg.1;clear hg b0 b1 b2 b3;go_wp2_with fail
 go_ret
 exact HG.out
theorem playQ6 (gx gp go:Nat) (S:Sta) (X:Aux) (Y:Int×List Pl) (Fp F:Nat→Prop) (u:Stv) (ho:Option Addr) (hc:Nat) (q1 q2 q4:Nat) (w:World) (A B:Int) (s:ByteArray) (h:Run w gx gp go S X S (X.op+1) Y Fp F u ho hc q1 q2 q4) (hI:PlI S X Y) (hk:RefOk S X.op Y) :
  Calls Tryz.prog 7 #[.pointer (some ⟨gx,0,none⟩),.agg #[.int .i64 6,.int .i64 A,.int .i64 B,.string s]] w fun e w'=>PlayQ (cTurn S X) (rTurn S (X.op+1) Y).Y gx gp go Fp F q1 q2 q4 w w' e:=by
 obtain ⟨W0,hW0⟩:∃ W0,W0=w.alloc (bOp 6 A B s):=⟨_,rfl⟩;have hbW:Below w.heap.size w W0:=by rw [hW0];exact Zb _ _
 have K0:Hid (W0=w.alloc (bOp 6 A B s)∧W0.heap[w.heap.size]?=some (bOp 6 A B s)∧Below w.heap.size w W0):=⟨hW0,by rw [hW0];exact Zc _ _ rfl,hbW⟩;have HR0:=hideIt (h.below hbW);have hd:∀ u2,Below W0.heap.size W0 u2→DeskAt u2 gp S X Fp:=fun u2 hu=>(h.below (Za hbW hu)).desk
 obtain ⟨gg,hpl⟩:=hI.pln;have hsame:=ZeW hI.good hpl hI.home;obtain ⟨⟨D,X',n,er,l⟩,hcr⟩:∃ r,cTurn S X=r:=⟨_,rfl⟩;obtain ⟨⟨D2,nx2,Z,n2,er2,l2⟩,hrr⟩:∃ r,rTurn S (X.op+1) Y=r:=⟨_,rfl⟩;have hss:D=D2∧X'.op+1=nx2∧n=n2∧er=er2∧l=l2:=by
  rw [hcr,hrr] at hsame;exact ⟨hsame.S,hsame.op,hsame.n,hsame.e,hsame.l⟩
 obtain ⟨rfl,rfl,rfl,rfl,rfl⟩:=hss;have HPC:Hid (∀ u2,Below W0.heap.size W0 u2→Calls Tryz.prog 17 #[.pointer (some ⟨gp,0,none⟩)] u2 fun e w'=>e=.returned (.tuple #[.int .i64 n,.int .i64 er])∧Moved u2 w' gp D X' Fp):=by
  intro u2 hu;have:=pTurn gp S X Fp u2 (hd u2 hu) hk.ok (by have:=hpl.tab.len;omega) (by have:=hI.plan;omega) (fun s hs=>Zct (hpl.ok s hs));rw [hcr] at this;exact this
 have HRC:Hid (∀ v,WdAt v S u Y ho hc→Calls Tryz.prog 18 #[wdA S u (X.op+1) Y ho hc] v fun e w'=>TurnG v w' S u Y ho hc ⟨D,X'.op+1,Z,n,er,l⟩ e):=by
  intro v hv;have:=refTurn hI hk u ho hc v hv;rw [hrr] at this;exact this
 rw [hrr,hcr];have HNF:Hid (¬Fp gx∧¬Fp w.heap.size):=⟨h.dxp,fun hf=>by have:=h.desk.lt _ hf;omega⟩;clear h hk hI hpl hsame hW0 hbW hd hcr hrr;obtain ⟨x0,x1,x2,x3,x4,x5,x6,x7,x8,x9,x10⟩:=blk11f HR0.out.pr;obtain ⟨b0,b1,b2,b3⟩:=blk4f K0.out.2.1;have hgx0:=HR0.out.lt;have hw0:w.heap.size<W0.heap.size:=(Array.getElem?_eq_some_iff.1 K0.out.2.1).1;go_enter Tryz.func7,Tryz.ntmps7
 go_upto_region 13 with fail
 rw [←K0.out.1];go_wp2_with fail
 refine (HPC.out W0 (Below.refl _ _)).mono ?_;rintro e wy ⟨rfl,hm⟩;have HMV:=hideIt hm;clear hm;obtain ⟨Fp1,hr1,hF1⟩:=HR0.out.moved HMV.out;have HR1:=hideIt hr1;have HF1:Hid (∀ y,Fp1 y→Fp y∨w.heap.size≤y):=fun y hy=>(hF1 y hy).imp (fun x=>x) (fun x=>Nat.le_trans K0.out.2.2.size x)
 have HY1:Hid (wy.heap[w.heap.size]?=some (bOp 6 A B s)):=(Zu HMV.out hw0 HNF.out.2).trans K0.out.2.1;clear x0 x1 x2 x3 x4 x5 x6 x7 x8 x9 x10 b0 b1 b2 b3 hr1 hF1;obtain ⟨x0,x1,x2,x3,x4,x5,x6,x7,x8,x9,x10⟩:=blk11f HR1.out.pr;obtain ⟨b0,b1,b2,b3⟩:=blk4f HY1.out;have hgy:=HR1.out.lt;have hwy:w.heap.size<wy.heap.size:=(Array.getElem?_eq_some_iff.1 HY1.out).1;have HRD:=hideIt (fun v (hv:Below wy.heap.size wy v)=>HRC.out v (HR1.out.ref.nx hv));go_wp2_with fail
 refine (HRD.out wy (Below.refl _ _)).mono ?_;rintro e w5 ⟨u',ho',hc',rfl,hg5⟩;simp only at hg5 ⊢;obtain ⟨g,hg⟩:∃ g,w5.heap.size=g:=⟨_,rfl⟩;have hbx:=Zbf (nx:=X'.op+1) hg5;obtain ⟨wz,hwz⟩:∃ wz,w5.alloc (bWd (.int .i64 D.bud) (.slice u'.po D.pools.length u'.pc) (.slice u'.so D.srv.length u'.sc) (.slice u'.wo D.wts.length u'.wc) (.slice u'.tqo D.plan.length u'.tc) (.bool D.begun) (.bool D.back) (.int .i64 (X'.op+1)) (.int .i64 Z.1) (.slice ho' Z.2.length hc'))=wz:=⟨_,rfl⟩;rw [hwz,hg] at hbx;have HBX:=hideIt hbx;have HWZ:=hideIt hwz;have HGG:=hideIt hg;clear hbx hwz hg hg5 x0 x1 x2 x3 x4 x5 x6 x7 x8 x9 x10 b0 b1 b2 b3;go_upto_region 15 with fail
 rw [HWZ.out,HGG.out];have HR2:=hideIt (HBX.out.take HR1.out);have HCZ:Hid (Chg (fun y=>Fp y∨y=gx) w wz):=by
  obtain ⟨_,_,_,hc2⟩:=HMV.out;exact ((Chg.of_below K0.out.2.2).trans (hc2.mono (fun y hy=>(.inl hy:Fp y∨y=gx))) (fun x hx=>.inl hx)).trans (Chg.of_below (F:=fun y=>Fp y∨y=gx) HBX.out.bel) (fun x hx=>.inl hx)
 obtain ⟨m0,m1,m2,m3,m4,m5,m6,m7,m8,m9,mz⟩:=blk10 HBX.out.box;have hpz:wz.heap[gx]?=some (bPair (.pointer (some ⟨gp,0,none⟩)) S.bud (.slice u.po S.pools.length u.pc) (.slice u.so S.srv.length u.sc) (.slice u.wo S.wts.length u.wc) (.slice u.tqo S.plan.length u.tc) S.begun S.back (X.op+1) Y.1 (.slice ho Y.2.length hc)):=(HBX.out.bel.block gx HR1.out.lt).trans HR1.out.pr;obtain ⟨x0,x1,x2,x3,x4,x5,x6,x7,x8,x9,x10⟩:=blk11f hpz;have xz:=blk11z hpz;have hgne:g≠gx:=by have h1:=HBX.out.new;have h2:=HR1.out.lt;omega
 clear hpz;go_wp2_with fail
 go_ret
 exact ⟨by simp,⟨_,_,_,_,HR2.out,HF1.out⟩,HCZ.out.trans (Zaw _ _ _ _ _ _ _ _ _ _ _ _) (fun x hx=>.inl (.inr hx))⟩
theorem playQ7 (gx gp go:Nat) (S:Sta) (X:Aux) (Y:Int×List Pl) (Fp F:Nat→Prop) (u:Stv) (ho:Option Addr) (hc:Nat) (q1 q2 q4:Nat) (w:World) (A B:Int) (s:ByteArray) (h:Run w gx gp go S X S (X.op+1) Y Fp F u ho hc q1 q2 q4) (hI:PlI S X Y) (hk:RefOk S X.op Y) :
  Calls Tryz.prog 7 #[.pointer (some ⟨gx,0,none⟩),.agg #[.int .i64 7,.int .i64 A,.int .i64 B,.string s]] w fun e w'=>PlayQ (cAbort S X) (rAbort S (X.op+1) Y).Y gx gp go Fp F q1 q2 q4 w w' e:=by
 obtain ⟨W0,hW0⟩:∃ W0,W0=w.alloc (bOp 7 A B s):=⟨_,rfl⟩;have hbW:Below w.heap.size w W0:=by rw [hW0];exact Zb _ _
 have K0:Hid (W0=w.alloc (bOp 7 A B s)∧W0.heap[w.heap.size]?=some (bOp 7 A B s)∧Below w.heap.size w W0):=⟨hW0,by rw [hW0];exact Zc _ _ rfl,hbW⟩;have HR0:=hideIt (h.below hbW);have hd:∀ u2,Below W0.heap.size W0 u2→DeskAt u2 gp S X Fp:=fun u2 hu=>(h.below (Za hbW hu)).desk
 obtain ⟨gg,hpl⟩:=hI.pln;have hsame:=ZdK hI.home;obtain ⟨⟨D,X',n,er,l⟩,hcr⟩:∃ r,cAbort S X=r:=⟨_,rfl⟩;obtain ⟨⟨D2,nx2,Z,n2,er2,l2⟩,hrr⟩:∃ r,rAbort S (X.op+1) Y=r:=⟨_,rfl⟩;have hss:D=D2∧X'.op+1=nx2∧n=n2∧er=er2∧l=l2:=by
  rw [hcr,hrr] at hsame;exact ⟨hsame.S,hsame.op,hsame.n,hsame.e,hsame.l⟩
 obtain ⟨rfl,rfl,rfl,rfl,rfl⟩:=hss;have HPC:Hid (∀ u2,Below W0.heap.size W0 u2→Calls Tryz.prog 19 #[.pointer (some ⟨gp,0,none⟩)] u2 fun e w'=>e=.returned (.tuple #[.int .i64 n,.int .i64 er])∧Moved u2 w' gp D X' Fp):=by
  intro u2 hu;have:=pAbort gp S X Fp u2 (hd u2 hu) hpl.tab.len hI.hps;rw [hcr] at this;exact this
 have HRC:Hid (∀ v,WdAt v S u Y ho hc→Calls Tryz.prog 20 #[wdA S u (X.op+1) Y ho hc] v fun e w'=>TurnG v w' S u Y ho hc ⟨D,X'.op+1,Z,n,er,l⟩ e):=by
  intro v hv;have:=refAbort hI hk u ho hc v hv;rw [hrr] at this;exact this
 rw [hrr,hcr];have HNF:Hid (¬Fp gx∧¬Fp w.heap.size):=⟨h.dxp,fun hf=>by have:=h.desk.lt _ hf;omega⟩;clear h hk hI hpl hsame hW0 hbW hd hcr hrr;obtain ⟨x0,x1,x2,x3,x4,x5,x6,x7,x8,x9,x10⟩:=blk11f HR0.out.pr;obtain ⟨b0,b1,b2,b3⟩:=blk4f K0.out.2.1;have hgx0:=HR0.out.lt;have hw0:w.heap.size<W0.heap.size:=(Array.getElem?_eq_some_iff.1 K0.out.2.1).1;go_enter Tryz.func7,Tryz.ntmps7
 go_upto_region 18 with fail
 rw [←K0.out.1];go_wp2_with fail
 refine (HPC.out W0 (Below.refl _ _)).mono ?_;rintro e wy ⟨rfl,hm⟩;have HMV:=hideIt hm;clear hm;obtain ⟨Fp1,hr1,hF1⟩:=HR0.out.moved HMV.out;have HR1:=hideIt hr1;have HF1:Hid (∀ y,Fp1 y→Fp y∨w.heap.size≤y):=fun y hy=>(hF1 y hy).imp (fun x=>x) (fun x=>Nat.le_trans K0.out.2.2.size x)
 have HY1:Hid (wy.heap[w.heap.size]?=some (bOp 7 A B s)):=(Zu HMV.out hw0 HNF.out.2).trans K0.out.2.1;clear x0 x1 x2 x3 x4 x5 x6 x7 x8 x9 x10 b0 b1 b2 b3 hr1 hF1;obtain ⟨x0,x1,x2,x3,x4,x5,x6,x7,x8,x9,x10⟩:=blk11f HR1.out.pr;obtain ⟨b0,b1,b2,b3⟩:=blk4f HY1.out;have hgy:=HR1.out.lt;have hwy:w.heap.size<wy.heap.size:=(Array.getElem?_eq_some_iff.1 HY1.out).1;have HRD:=hideIt (fun v (hv:Below wy.heap.size wy v)=>HRC.out v (HR1.out.ref.nx hv));go_wp2_with fail
 refine (HRD.out wy (Below.refl _ _)).mono ?_;rintro e w5 ⟨u',ho',hc',rfl,hg5⟩;simp only at hg5 ⊢;obtain ⟨g,hg⟩:∃ g,w5.heap.size=g:=⟨_,rfl⟩;have hbx:=Zbf (nx:=X'.op+1) hg5;obtain ⟨wz,hwz⟩:∃ wz,w5.alloc (bWd (.int .i64 D.bud) (.slice u'.po D.pools.length u'.pc) (.slice u'.so D.srv.length u'.sc) (.slice u'.wo D.wts.length u'.wc) (.slice u'.tqo D.plan.length u'.tc) (.bool D.begun) (.bool D.back) (.int .i64 (X'.op+1)) (.int .i64 Z.1) (.slice ho' Z.2.length hc'))=wz:=⟨_,rfl⟩;rw [hwz,hg] at hbx;have HBX:=hideIt hbx;have HWZ:=hideIt hwz;have HGG:=hideIt hg;clear hbx hwz hg hg5 x0 x1 x2 x3 x4 x5 x6 x7 x8 x9 x10 b0 b1 b2 b3;go_upto_region 20 with fail
 rw [HWZ.out,HGG.out];have HR2:=hideIt (HBX.out.take HR1.out);have HCZ:Hid (Chg (fun y=>Fp y∨y=gx) w wz):=by
  obtain ⟨_,_,_,hc2⟩:=HMV.out;exact ((Chg.of_below K0.out.2.2).trans (hc2.mono (fun y hy=>(.inl hy:Fp y∨y=gx))) (fun x hx=>.inl hx)).trans (Chg.of_below (F:=fun y=>Fp y∨y=gx) HBX.out.bel) (fun x hx=>.inl hx)
 obtain ⟨m0,m1,m2,m3,m4,m5,m6,m7,m8,m9,mz⟩:=blk10 HBX.out.box;have hpz:wz.heap[gx]?=some (bPair (.pointer (some ⟨gp,0,none⟩)) S.bud (.slice u.po S.pools.length u.pc) (.slice u.so S.srv.length u.sc) (.slice u.wo S.wts.length u.wc) (.slice u.tqo S.plan.length u.tc) S.begun S.back (X.op+1) Y.1 (.slice ho Y.2.length hc)):=(HBX.out.bel.block gx HR1.out.lt).trans HR1.out.pr;obtain ⟨x0,x1,x2,x3,x4,x5,x6,x7,x8,x9,x10⟩:=blk11f hpz;have xz:=blk11z hpz;have hgne:g≠gx:=by have h1:=HBX.out.new;have h2:=HR1.out.lt;omega
 clear hpz;go_wp2_with fail
 go_ret
 exact ⟨by simp,⟨_,_,_,_,HR2.out,HF1.out⟩,HCZ.out.trans (Zaw _ _ _ _ _ _ _ _ _ _ _ _) (fun x hx=>.inl (.inr hx))⟩
theorem playQ5 (gx gp go:Nat) (S:Sta) (X:Aux) (Y:Int×List Pl) (Fp F:Nat→Prop) (u:Stv) (ho:Option Addr) (hc:Nat) (q1 q2 q4:Nat) (w:World) (A B:Int) (s:ByteArray) (h:Run w gx gp go S X S (X.op+1) Y Fp F u ho hc q1 q2 q4) (hI:PlI S X Y) (hk:RefOk S X.op Y) (hs:s.size≤maxLen) :
  Calls Tryz.prog 7 #[.pointer (some ⟨gx,0,none⟩),.agg #[.int .i64 5,.int .i64 A,.int .i64 B,.string s]] w fun e w'=>PlayQ (cReload S X (ans s)) (rReload S (X.op+1) Y (ans s)).Y gx gp go Fp F q1 q2 q4 w w' e:=by
 obtain ⟨W0,hW0⟩:∃ W0,W0=w.alloc (bOp 5 A B s):=⟨_,rfl⟩;have hbW:Below w.heap.size w W0:=by rw [hW0];exact Zb _ _
 have K0:Hid (W0=w.alloc (bOp 5 A B s)∧W0.heap[w.heap.size]?=some (bOp 5 A B s)∧Below w.heap.size w W0):=⟨hW0,by rw [hW0];exact Zc _ _ rfl,hbW⟩;have HR0:=hideIt (h.below hbW);have hd:∀ u2,Below W0.heap.size W0 u2→DeskAt u2 gp S X Fp:=fun u2 hu=>(h.below (Za hbW hu)).desk
 obtain ⟨gg,hpl⟩:=hI.pln;have hsame:=ZcY (a:=ans s) hI.home;obtain ⟨⟨D,X',n,er,l⟩,hcr⟩:∃ r,cReload S X (ans s)=r:=⟨_,rfl⟩;obtain ⟨⟨D2,nx2,Z,n2,er2,l2⟩,hrr⟩:∃ r,rReload S (X.op+1) Y (ans s)=r:=⟨_,rfl⟩;have hss:D=D2∧X'.op+1=nx2∧n=n2∧er=er2∧l=l2:=by
  rw [hcr,hrr] at hsame;exact ⟨hsame.S,hsame.op,hsame.n,hsame.e,hsame.l⟩
 obtain ⟨rfl,rfl,rfl,rfl,rfl⟩:=hss;have HPC:Hid (∀ u2,Below W0.heap.size W0 u2→Calls Tryz.prog 15 #[.pointer (some ⟨gp,0,none⟩),.string s] u2 fun e w'=>e=.returned (.tuple #[.int .i64 n,.int .i64 er,.int .i64 l])∧Moved u2 w' gp D X' Fp):=by
  intro u2 hu;have:=pReload gp s S X Fp u2 (hd u2 hu) hs hpl.tab.len (by have:=hI.plan;omega) (fun he=>(ZbJ s he).len);rw [hcr] at this;exact this
 have HRC:Hid (∀ v,WdAt v S u Y ho hc→Calls Tryz.prog 16 #[wdA S u (X.op+1) Y ho hc,.string s] v fun e w'=>RelG v w' S u Y ho hc ⟨D,X'.op+1,Z,n,er,l⟩ e):=by
  intro v hv;have:=refReload hI hk s hs u ho hc v hv;rw [hrr] at this;exact this
 rw [hrr,hcr];have HNF:Hid (¬Fp gx∧¬Fp w.heap.size):=⟨h.dxp,fun hf=>by have:=h.desk.lt _ hf;omega⟩;clear h hk hI hpl hsame hW0 hbW hd hcr hrr hs;obtain ⟨x0,x1,x2,x3,x4,x5,x6,x7,x8,x9,x10⟩:=blk11f HR0.out.pr;obtain ⟨b0,b1,b2,b3⟩:=blk4f K0.out.2.1;have hgx0:=HR0.out.lt;have hw0:w.heap.size<W0.heap.size:=(Array.getElem?_eq_some_iff.1 K0.out.2.1).1;go_enter Tryz.func7,Tryz.ntmps7
 go_upto_region 8 with fail
 rw [←K0.out.1];go_cut [5,6,7] (fun v1 v2 v3 wx=>v1=.int .i64 n∧v2=.int .i64 er∧v3=.int .i64 l∧∃ wy,Hid (Moved W0 wy gp D X' Fp)∧wy=wx)
 case first =>
  go_region_held3 (fun w'=>w'.cell? ⟨gx,0,none⟩=some (.pointer (some ⟨gp,0,none⟩))∧w'.cell? ⟨w.heap.size,3,none⟩=some (.string s)) (go_keep)
   ((go_at_call 15;refine (HPC.out _ ((Below.refl _ _).drew)).mono ?_;rintro e w2 ⟨rfl,hm2⟩;have HM2:Hid (Moved W0 w2 gp D X' Fp):=Moved.after (Below.refl _ _).drew hm2;have HX2:Hid (w2.heap[gx]?=W0.heap[gx]?):=Zu HM2.out hgx0 HNF.out.1;have HO2:Hid (w2.heap[w.heap.size]?=W0.heap[w.heap.size]?):=Zu HM2.out hw0 HNF.out.2;have q1:=(World.cell?_of_block (a:=⟨gx,0,none⟩) HX2.out).trans x0;have q3:=(World.cell?_of_block (a:=⟨w.heap.size,3,none⟩) HO2.out).trans b3;clear hm2))
  all_goals
   go_wp2_with fail
   go_meet
   exact ⟨rfl,rfl,rfl,_,HM2.out,rfl⟩
 case rest =>
  obtain ⟨rfl,rfl,rfl,wy,HMV,rfl⟩:=hcut;obtain ⟨Fp1,hr1,hF1⟩:=HR0.out.moved HMV.out;have HR1:=hideIt hr1;have HF1:Hid (∀ y,Fp1 y→Fp y∨w.heap.size≤y):=fun y hy=>(hF1 y hy).imp (fun x=>x) (fun x=>Nat.le_trans K0.out.2.2.size x)
  have HY1:Hid (wy.heap[w.heap.size]?=some (bOp 5 A B s)):=(Zu HMV.out hw0 HNF.out.2).trans K0.out.2.1;clear x0 x1 x2 x3 x4 x5 x6 x7 x8 x9 x10 b0 b1 b2 b3 hr1 hF1;obtain ⟨x0,x1,x2,x3,x4,x5,x6,x7,x8,x9,x10⟩:=blk11f HR1.out.pr;obtain ⟨b0,b1,b2,b3⟩:=blk4f HY1.out;have hgy:=HR1.out.lt;have hwy:w.heap.size<wy.heap.size:=(Array.getElem?_eq_some_iff.1 HY1.out).1;have HRD:=hideIt (fun v (hv:Below wy.heap.size wy v)=>HRC.out v (HR1.out.ref.nx hv));have n1:=World.new_ne wy _ x1;have n2:=World.new_ne wy _ x2;have n3:=World.new_ne wy _ x3;have n4:=World.new_ne wy _ x4;have n5:=World.new_ne wy _ x5;have n6:=World.new_ne wy _ x6;have n7:=World.new_ne wy _ x7;have n8:=World.new_ne wy _ x8;have n9:=World.new_ne wy _ x9;have n10:=World.new_ne wy _ x10;have n11:=World.new_ne wy _ b3;unfold RelG at HRD;simp only [wdA] at HRD;go_upto_region 9 with fail
  go_cut [8,9,10,11] (fun p v1 v2 v3 wx=>v1=.int .i64 n∧v2=.int .i64 er∧v3=.int .i64 l∧∃ (g:Nat) (u':Stv) (ho':Option Addr) (hc':Nat) (wz:World),p=.pointer (some ⟨g,0,none⟩)∧Hid (BoxW wy S u Y ho hc D u' Z (X'.op+1) ho' hc' g wz)∧wz=wx)
  case first =>
   go_region_held3 (fun w'=>w'.cell? ⟨gx,1,none⟩=some (.int .i64 S.bud)∧w'.cell? ⟨gx,2,none⟩=some (.slice u.po S.pools.length u.pc)∧w'.cell? ⟨gx,3,none⟩=some (.slice u.so S.srv.length u.sc)∧w'.cell? ⟨gx,4,none⟩=some (.slice u.wo S.wts.length u.wc)∧w'.cell? ⟨gx,5,none⟩=some (.slice u.tqo S.plan.length u.tc)∧w'.cell? ⟨gx,6,none⟩=some (.bool S.begun)∧w'.cell? ⟨gx,7,none⟩=some (.bool S.back)∧w'.cell? ⟨gx,8,none⟩=some (.int .i64 (X.op+1))∧w'.cell? ⟨gx,9,none⟩=some (.int .i64 Y.1)∧w'.cell? ⟨gx,10,none⟩=some (.slice ho Y.2.length hc)∧w'.cell? ⟨w.heap.size,3,none⟩=some (.string s)) (go_keep)
    ((go_at_call 16;refine (HRD.out _ (by first | exact (Below.refl _ _).drew | exact (Below.refl _ _).drew.alloc (Nat.le_refl _) _)).mono ?_;rintro e w5 ⟨u',ho',hc',rfl,hg5⟩;have HG5:Hid (RefG wy w5 S u Y ho hc D u' Z ho' hc'):=(by first | exact ZL (Below.refl _ _).drew hg5 | exact ZL ((Below.refl _ _).drew.alloc (Nat.le_refl _) _) hg5);have HB5:=hideIt HG5.out.bel;(first | (have HG6:Hid (RefG (wy.drew.alloc zW) w5 S u Y ho hc D u' Z ho' hc'):=hg5) | skip);have k1:=(HB5.out.cell (p:=⟨gx,1,none⟩) hgy).trans x1;have k2:=(HB5.out.cell (p:=⟨gx,2,none⟩) hgy).trans x2;have k3:=(HB5.out.cell (p:=⟨gx,3,none⟩) hgy).trans x3;have k4:=(HB5.out.cell (p:=⟨gx,4,none⟩) hgy).trans x4;have k5:=(HB5.out.cell (p:=⟨gx,5,none⟩) hgy).trans x5;have k6:=(HB5.out.cell (p:=⟨gx,6,none⟩) hgy).trans x6;have k7:=(HB5.out.cell (p:=⟨gx,7,none⟩) hgy).trans x7;have k8:=(HB5.out.cell (p:=⟨gx,8,none⟩) hgy).trans x8;have k9:=(HB5.out.cell (p:=⟨gx,9,none⟩) hgy).trans x9;have k10:=(HB5.out.cell (p:=⟨gx,10,none⟩) hgy).trans x10;have k11:=(HB5.out.cell (p:=⟨w.heap.size,3,none⟩) hwy).trans b3;have l1:=World.new_ne w5 _ k1;have l2:=World.new_ne w5 _ k2;have l3:=World.new_ne w5 _ k3;have l4:=World.new_ne w5 _ k4;have l5:=World.new_ne w5 _ k5;have l6:=World.new_ne w5 _ k6;have l7:=World.new_ne w5 _ k7;have l8:=World.new_ne w5 _ k8;have l9:=World.new_ne w5 _ k9;have l10:=World.new_ne w5 _ k10;have l11:=World.new_ne w5 _ k11;(first | (have HBZ:Hid (w5.heap[wy.heap.size]?=some zW):=(hg5.bel.block wy.heap.size (by simp)).trans (Zc wy.drew zW rfl);obtain ⟨m0,m1,m2,m3,m4,m5,m6,m7,m8,m9,mz⟩:=blk10 HBZ.out) | skip);clear hg5))
   all_goals
    go_wp2_with fail
    go_meet
    first
    | exact ⟨rfl,rfl,rfl,_,u',ho',hc',_,rfl,Zbf HG5.out,rfl⟩
    | exact ⟨rfl,rfl,rfl,_,u',ho',hc',_,rfl,ZcA HG6.out HBZ.out HR1.out.ref.lt,rfl⟩
  case rest =>
   obtain ⟨rfl,rfl,rfl,g,u',ho',hc',wz,rfl,HBX,rfl⟩:=hcut;have HR2:=hideIt (HBX.out.take HR1.out);have HCZ:Hid (Chg (fun y=>Fp y∨y=gx) w wz):=by
    obtain ⟨_,_,_,hc2⟩:=HMV.out;exact ((Chg.of_below K0.out.2.2).trans (hc2.mono (fun y hy=>(.inl hy:Fp y∨y=gx))) (fun x hx=>.inl hx)).trans (Chg.of_below (F:=fun y=>Fp y∨y=gx) HBX.out.bel) (fun x hx=>.inl hx)
   clear x0 x1 x2 x3 x4 x5 x6 x7 x8 x9 x10 b0 b1 b2 b3 n1 n2 n3 n4 n5 n6 n7 n8 n9 n10 n11 hgy hwy;obtain ⟨m0,m1,m2,m3,m4,m5,m6,m7,m8,m9,mz⟩:=blk10 HBX.out.box;have hpz:wz.heap[gx]?=some (bPair (.pointer (some ⟨gp,0,none⟩)) S.bud (.slice u.po S.pools.length u.pc) (.slice u.so S.srv.length u.sc) (.slice u.wo S.wts.length u.wc) (.slice u.tqo S.plan.length u.tc) S.begun S.back (X.op+1) Y.1 (.slice ho Y.2.length hc)):=(HBX.out.bel.block gx HR1.out.lt).trans HR1.out.pr;obtain ⟨x0,x1,x2,x3,x4,x5,x6,x7,x8,x9,x10⟩:=blk11f hpz;have xz:=blk11z hpz;have hgne:g≠gx:=by have h1:=HBX.out.new;have h2:=HR1.out.lt;omega
   clear hpz;go_wp2_with fail
   go_ret
   exact ⟨by simp,⟨_,_,_,_,HR2.out,HF1.out⟩,HCZ.out.trans (Zaw _ _ _ _ _ _ _ _ _ _ _ _) (fun x hx=>.inl (.inr hx))⟩
theorem playQ0 (gx gp go:Nat) (S:Sta) (X:Aux) (Y:Int×List Pl) (Fp F:Nat→Prop) (u:Stv) (ho:Option Addr) (hc:Nat) (q1 q2 q4:Nat) (w:World) (kd A B:Int) (s:ByteArray) (h:Run w gx gp go S X S (X.op+1) Y Fp F u ho hc q1 q2 q4) (hkd:kd≤0) :
  Calls Tryz.prog 7 #[.pointer (some ⟨gx,0,none⟩),.agg #[.int .i64 kd,.int .i64 A,.int .i64 B,.string s]] w fun e w'=>PlayQ ⟨S,X,0,0,0⟩ Y gx gp go Fp F q1 q2 q4 w w' e:=by
 obtain ⟨W0,hW0⟩:∃ W0,W0=w.alloc (bOp kd A B s):=⟨_,rfl⟩;have hbW:Below w.heap.size w W0:=by rw [hW0];exact Zb _ _
 have K0:Hid (W0=w.alloc (bOp kd A B s)∧W0.heap[w.heap.size]?=some (bOp kd A B s)∧Below w.heap.size w W0):=⟨hW0,by rw [hW0];exact Zc _ _ rfl,hbW⟩;have HG:Hid (PlayQ ⟨S,X,0,0,0⟩ Y gx gp go Fp F q1 q2 q4 w W0 (.returned (.bool true))):=⟨rfl,⟨Fp,u,ho,hc,h.below hbW,fun y hy=>.inl hy⟩,Chg.of_below hbW⟩;have e1:(kd == 1)=false:=by rw [beq_eq_false_iff_ne];omega
 have e2:(kd == 2)=false:=by rw [beq_eq_false_iff_ne];omega
 have e3:(kd == 3)=false:=by rw [beq_eq_false_iff_ne];omega
 have e4:(kd == 4)=false:=by rw [beq_eq_false_iff_ne];omega
 have e5:(kd == 5)=false:=by rw [beq_eq_false_iff_ne];omega
 have e6:(kd == 6)=false:=by rw [beq_eq_false_iff_ne];omega
 have e7:(kd == 7)=false:=by rw [beq_eq_false_iff_ne];omega
 clear h hW0 hbW hkd;go_enter Tryz.func7,Tryz.ntmps7
 go_upto_region 1 with fail
 rw [←K0.out.1];obtain ⟨b0,b1,b2,b3⟩:=blk4f K0.out.2.1;go_wp2_with fail
 go_ret
 exact HG.out
theorem Zit {S:Sta} {op:Int} {T:Sta} {t:Int} (h1:t≤op) (h2:T.wts.length≤S.wts.length):pot (T,t)≤pot (S,op):=by
 unfold pot;simp only;omega
theorem Zgy (S:Sta) (op c:Int) (nm:ByteArray):pot ((cAsk S op c nm).S,(cAsk S op c nm).op)≤pot (S,op)+1∧Rest S (cAsk S op c nm).S:=by
 have h0:pot (S,op)≤pot (S,op)+1:=by omega
 have hq:∀ (T:Sta) (t:Int),pot (cQuit T c,t)≤pot (T,t):=fun T t=>Zit (Int.le_refl _) (List.length_filter_le _ _)
 unfold cAsk;split
 ·exact ⟨h0,Rest.refl _⟩
 ·split
  ·exact ⟨h0,Rest.refl _⟩
  ·split
   ·exact ⟨h0,Rest.refl _⟩
   ·rename_i x _
    have h1:=Z9 (S.wts.length+1) (joined S c x.nm) op;have h2:pot (joined S c x.nm,op)=pot (S,op)+1:=by unfold pot joined;simp;omega
    have h3:pot (cAsked S op c x.nm)≤pot (S,op)+1:=by rw [←h2];exact h1.1
    have h4:Rest S (cAsked S op c x.nm).1:=Rest.trans (T:=joined S c x.nm) ⟨rfl,rfl,rfl,rfl,rfl⟩ h1.2.2;split
    ·exact ⟨h3,h4⟩
    ·split
     ·exact ⟨Int.le_trans (hq _ _) h3,h4.trans ⟨rfl,rfl,rfl,rfl,rfl⟩⟩
     ·exact ⟨h3,h4⟩
theorem Zeu (S:Sta) (op c:Int):pot ((cLeave S op c).S,(cLeave S op c).op)≤pot (S,op)+1∧Rest S (cLeave S op c).S:=by
 unfold cLeave;split
 ·exact ⟨by simp only;omega,Rest.refl _⟩
 ·split
  ·exact ⟨by simp only;omega,Rest.refl _⟩
  ·have:pot (cQuit S c,op)≤pot (S,op):=Zit (Int.le_refl _) (List.length_filter_le _ _);exact ⟨by simp only;omega,⟨rfl,rfl,rfl,rfl,rfl⟩⟩
theorem Zep (S:Sta) (op c:Int):pot ((cCrash S op c).S,(cCrash S op c).op)≤pot (S,op)+1∧Rest S (cCrash S op c).S:=by
 unfold cCrash;split
 ·exact ⟨by simp only;omega,Rest.refl _⟩
 ·have h1:=Z9 S.wts.length (cShut S c) op;have h2:pot (cShut S c,op)=pot (S,op):=rfl;exact ⟨by have:=h1.1;rw [h2] at this;simp only;exact Int.le_trans this (by omega),Rest.trans (T:=cShut S c) ⟨rfl,rfl,rfl,rfl,rfl⟩ h1.2.2⟩
theorem ZfV (S:Sta) (op c:Int):pot ((cDone S op c).S,(cDone S op c).op)≤pot (S,op)+1∧Rest S (cDone S op c).S:=by
 unfold cDone;split
 ·exact ⟨by simp only;omega,Rest.refl _⟩
 ·split
  ·exact ⟨by simp only;omega,Rest.refl _⟩
  ·rename_i s _
   simp only;obtain ⟨T,hT⟩:∃ T,(if isSur (cHand S s.id 0) s=true then cShut (cHand S s.id 0) s.id else cHand S s.id 0)=T:=⟨_,rfl⟩;rw [hT];have h3:pot (T,op)=pot (S,op)∧Rest S T:=by
    rw [←hT];split <;> exact ⟨rfl,rfl,rfl,rfl,rfl,rfl⟩
   have h1:=Z9 S.wts.length T op;exact ⟨by have:=h1.1;rw [h3.1] at this;exact Int.le_trans this (by omega),h3.2.trans h1.2.2⟩
theorem Zbr (ty tyl:TypeId) (sz:Nat) (mk:Int→List Value) (w:World) (F:Nat→Prop):RowsG ty tyl sz mk w F (.slice none 0 0) 0:=
 ⟨[],World.ownsRow_nil _ _ _ _,fun g hg=>by simp [Value.ownBlock] at hg,fun i x hx=>by simp at hx⟩
theorem Zkm {w:World} {go:Nat} (h:w.heap[go]?=some (bOw (.slice none 0 0) (.slice none 0 0) (.slice none 0 0) (.slice none 0 0))):OwnAt w go (fun y=>y=go) 0 0 0 0:=
 ⟨⟨_,_,_,_,h,Zbr _ _ _ _ _ _,Zbr _ _ _ _ _ _,Zbr _ _ _ _ _ _,Zbr _ _ _ _ _ _⟩,rfl,fun x hx=>by rw [hx];exact (Array.getElem?_eq_some_iff.1 h).1⟩
end Lw
end Go.Proofs.YtcpikklofilkcaaGreat
