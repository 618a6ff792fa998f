import Derived.Test.YtcpikklofilkcaaGreatNqAc
import Derived.Test.YtcpikklofilkcaaGreatNqAa
set_option maxRecDepth 100000
set_option maxHeartbeats 16000000
namespace Go.Proofs.YtcpikklofilkcaaGreat
open Go.RowKit
namespace Lw
open Co
def cEnded (k:Int) (nm:ByteArray) (n:Int) (S:Sta):Bool:=
 if k=1 then decide ((cntG (isPoolV nm) S.srv:Int)≤n)
 else if k=2 then decide ((cntG (isPoolV nm) S.srv:Int)=0)
 else if k=3 then decide ((S.srv.length:Int)≤n)
 else if k=5 then !S.srv.any (othF nm n)
 else true
theorem ended1 (gp:Nat) (nm:ByteArray) (n:Int) (S:Sta) (X:Aux) (F:Nat→Prop) (w:World) (h:DeskAt w gp S X F) (hq:S.srv.length≤549755813888) :
  Calls Tryz.prog 79 #[.pointer (some ⟨gp,0,none⟩),stA 1 nm n] w fun e w'=>e=.returned (.bool (cEnded 1 nm n S))∧Below w.heap.size w w':=by
 obtain ⟨po,pc,so,sc,wo,wc,yo,yc,ho,hc,hx⟩:=h.ex;have hgplt:gp<w.heap.size:=h.lt gp h.gp;obtain ⟨n2,hn2⟩:∃ n,S.srv.length=n:=⟨_,rfl⟩;have HN:=hideIt hn2;obtain ⟨W0,hW0⟩:∃ W0,W0=w.alloc (bSt 1 nm n):=⟨_,rfl⟩;have hbW:Below w.heap.size w W0:=by rw [hW0];exact Zb _ _
 have K0:Hid (W0=w.alloc (bSt 1 nm n)∧W0.heap[w.heap.size]?=some (bSt 1 nm n)∧Below w.heap.size w W0∧w.heap.size<W0.heap.size):=⟨hW0,by rw [hW0];exact Zc _ _ rfl,hbW,by rw [hW0];simp⟩;have hd0:=hx.nx hgplt hbW;have HRW:Hid (RowAt w (.slice so n2 sc) n2 (flatV S.srv)):=by have:=Zd hx.s.own;rw [hn2] at this;exact this
 rw [hn2] at hd0 hq;obtain ⟨g0,g1,g2,g3,g4,gz⟩:=blk5d hd0;obtain ⟨b0,b1,b2,bz⟩:=blk3d K0.out.2.1;have hgp0:gp<W0.heap.size:=Nat.lt_of_lt_of_le hgplt hbW.size;have hw0:w.heap.size<W0.heap.size:=K0.out.2.2.2;obtain ⟨q,hqq⟩:∃ q,cntG (isPoolV nm) S.srv=q:=⟨_,rfl⟩;have hql:q≤n2:=by rw [←hqq,←hn2];exact List.length_filter_le _ _
 have HE:Hid (cEnded 1 nm n S=(decide ((q:Int)≤n))):=by
  show _=_;unfold cEnded;rw [hqq];rfl
 have HC:Hid (∀ u,Below W0.heap.size W0 u→Calls Tryz.prog 123 #[.slice so n2 sc,.string nm] u fun e w'=>e=.returned (.int .i64 (q:Int))∧Below u.heap.size u w'):=by
  intro u hu;rw [←hqq];exact cCountOf so n2 sc nm S.srv u ((HRW.out.nx hbW).nx hu) HN.out (by omega)
 clear h hx hn2 hW0 hbW hd0 hqq;go_enter Tryz.func79,Tryz.ntmps79
 go_upto_region 1 with fail
 rw [←K0.out.1];go_upto_region 3 with fail
 go_cut [4] (fun v wx=>v=.bool (decide ((q:Int)≤n))∧∃ wy,Hid (Below W0.heap.size W0 wy)∧wy=wx)
 case first =>
  go_region_held3 (fun w'=>w'.cell? ⟨gp,2,none⟩=some (.slice so n2 sc)∧w'.cell? ⟨w.heap.size,1,none⟩=some (.string nm)∧w'.cell? ⟨w.heap.size,2,none⟩=some (.int .i64 n)) (go_keep)
   ((go_at_call 123;refine (HC.out _ ((Below.refl _ _).drew)).mono ?_;rintro e w5 ⟨rfl,hb5⟩;have HB5:Hid (Below W0.heap.size W0 w5):=Za (Below.refl _ _).drew hb5;have q1:=(HB5.out.cell (p:=⟨gp,2,none⟩) hgp0).trans g2;have q2:=(HB5.out.cell (p:=⟨w.heap.size,1,none⟩) hw0).trans b1;have q3:=(HB5.out.cell (p:=⟨w.heap.size,2,none⟩) hw0).trans b2;clear hb5))
  all_goals
   go_wp2_with fail
   go_meet
   exact ⟨rfl,_,HB5.out,rfl⟩
 case rest =>
  obtain ⟨rfl,wy,HB5,rfl⟩:=hcut;clear g0 g1 g2 g3 g4 gz b0 b1 b2 bz;go_wp2_with fail
  go_ret
  exact ⟨by rw [HE.out];rfl,Za K0.out.2.2.1 HB5.out⟩
theorem ended2 (gp:Nat) (nm:ByteArray) (n:Int) (S:Sta) (X:Aux) (F:Nat→Prop) (w:World) (h:DeskAt w gp S X F) (hq:S.srv.length≤549755813888) :
  Calls Tryz.prog 79 #[.pointer (some ⟨gp,0,none⟩),stA 2 nm n] w fun e w'=>e=.returned (.bool (cEnded 2 nm n S))∧Below w.heap.size w w':=by
 obtain ⟨po,pc,so,sc,wo,wc,yo,yc,ho,hc,hx⟩:=h.ex;have hgplt:gp<w.heap.size:=h.lt gp h.gp;obtain ⟨n2,hn2⟩:∃ n,S.srv.length=n:=⟨_,rfl⟩;have HN:=hideIt hn2;obtain ⟨W0,hW0⟩:∃ W0,W0=w.alloc (bSt 2 nm n):=⟨_,rfl⟩;have hbW:Below w.heap.size w W0:=by rw [hW0];exact Zb _ _
 have K0:Hid (W0=w.alloc (bSt 2 nm n)∧W0.heap[w.heap.size]?=some (bSt 2 nm n)∧Below w.heap.size w W0∧w.heap.size<W0.heap.size):=⟨hW0,by rw [hW0];exact Zc _ _ rfl,hbW,by rw [hW0];simp⟩;have hd0:=hx.nx hgplt hbW;have HRW:Hid (RowAt w (.slice so n2 sc) n2 (flatV S.srv)):=by have:=Zd hx.s.own;rw [hn2] at this;exact this
 rw [hn2] at hd0 hq;obtain ⟨g0,g1,g2,g3,g4,gz⟩:=blk5d hd0;obtain ⟨b0,b1,b2,bz⟩:=blk3d K0.out.2.1;have hgp0:gp<W0.heap.size:=Nat.lt_of_lt_of_le hgplt hbW.size;have hw0:w.heap.size<W0.heap.size:=K0.out.2.2.2;obtain ⟨q,hqq⟩:∃ q,cntG (isPoolV nm) S.srv=q:=⟨_,rfl⟩;have hql:q≤n2:=by rw [←hqq,←hn2];exact List.length_filter_le _ _
 have HE:Hid (cEnded 2 nm n S=((q:Int) == 0)):=by
  show _=_;unfold cEnded;rw [hqq];simp [BEq.beq]
 have HC:Hid (∀ u,Below W0.heap.size W0 u→Calls Tryz.prog 123 #[.slice so n2 sc,.string nm] u fun e w'=>e=.returned (.int .i64 (q:Int))∧Below u.heap.size u w'):=by
  intro u hu;rw [←hqq];exact cCountOf so n2 sc nm S.srv u ((HRW.out.nx hbW).nx hu) HN.out (by omega)
 clear h hx hn2 hW0 hbW hd0 hqq;go_enter Tryz.func79,Tryz.ntmps79
 go_upto_region 1 with fail
 rw [←K0.out.1];go_upto_region 5 with fail
 go_cut [4] (fun v wx=>v=.bool ((q:Int) == 0)∧∃ wy,Hid (Below W0.heap.size W0 wy)∧wy=wx)
 case first =>
  go_region_held3 (fun w'=>w'.cell? ⟨gp,2,none⟩=some (.slice so n2 sc)∧w'.cell? ⟨w.heap.size,1,none⟩=some (.string nm)) (go_keep)
   ((go_at_call 123;refine (HC.out _ ((Below.refl _ _).drew)).mono ?_;rintro e w5 ⟨rfl,hb5⟩;have HB5:Hid (Below W0.heap.size W0 w5):=Za (Below.refl _ _).drew hb5;have q1:=(HB5.out.cell (p:=⟨gp,2,none⟩) hgp0).trans g2;have q2:=(HB5.out.cell (p:=⟨w.heap.size,1,none⟩) hw0).trans b1;clear hb5))
  all_goals
   go_wp2_with fail
   go_meet
   exact ⟨rfl,_,HB5.out,rfl⟩
 case rest =>
  obtain ⟨rfl,wy,HB5,rfl⟩:=hcut;clear g0 g1 g2 g3 g4 gz b0 b1 b2 bz;go_wp2_with fail
  go_ret
  exact ⟨by rw [HE.out];rfl,Za K0.out.2.2.1 HB5.out⟩
theorem ended3 (gp:Nat) (nm:ByteArray) (n:Int) (S:Sta) (X:Aux) (F:Nat→Prop) (w:World) (h:DeskAt w gp S X F) (_hq:S.srv.length≤549755813888) :
  Calls Tryz.prog 79 #[.pointer (some ⟨gp,0,none⟩),stA 3 nm n] w fun e w'=>e=.returned (.bool (cEnded 3 nm n S))∧Below w.heap.size w w':=by
 obtain ⟨po,pc,so,sc,wo,wc,yo,yc,ho,hc,hx⟩:=h.ex;have hgplt:gp<w.heap.size:=h.lt gp h.gp;obtain ⟨n2,hn2⟩:∃ n,S.srv.length=n:=⟨_,rfl⟩;have HN:=hideIt hn2;obtain ⟨W0,hW0⟩:∃ W0,W0=w.alloc (bSt 3 nm n):=⟨_,rfl⟩;have hbW:Below w.heap.size w W0:=by rw [hW0];exact Zb _ _
 have K0:Hid (W0=w.alloc (bSt 3 nm n)∧W0.heap[w.heap.size]?=some (bSt 3 nm n)∧Below w.heap.size w W0∧w.heap.size<W0.heap.size):=⟨hW0,by rw [hW0];exact Zc _ _ rfl,hbW,by rw [hW0];simp⟩;have hd0:=hx.nx hgplt hbW;rw [hn2] at hd0;obtain ⟨g0,g1,g2,g3,g4,gz⟩:=blk5d hd0;obtain ⟨b0,b1,b2,bz⟩:=blk3d K0.out.2.1;have HE:Hid (cEnded 3 nm n S=decide ((n2:Int)≤n)):=by
  show _=_;unfold cEnded;rw [hn2];rfl
 clear h hx hn2 hW0 hbW hd0;go_enter Tryz.func79,Tryz.ntmps79
 go_upto_region 1 with fail
 rw [←K0.out.1];go_upto_region 7 with fail
 go_quiet (fail)
 go_wp2_with fail
 go_ret
 exact ⟨by rw [HE.out];rfl,below_drewN K0.out.2.2.1 _⟩
theorem ended4 (gp:Nat) (nm:ByteArray) (n:Int) (S:Sta) (X:Aux) (F:Nat→Prop) (w:World) (h:DeskAt w gp S X F) (_hq:S.srv.length≤549755813888) :
  Calls Tryz.prog 79 #[.pointer (some ⟨gp,0,none⟩),stA 4 nm n] w fun e w'=>e=.returned (.bool (cEnded 4 nm n S))∧Below w.heap.size w w':=by
 obtain ⟨po,pc,so,sc,wo,wc,yo,yc,ho,hc,hx⟩:=h.ex;have hgplt:gp<w.heap.size:=h.lt gp h.gp;obtain ⟨n2,hn2⟩:∃ n,S.srv.length=n:=⟨_,rfl⟩;obtain ⟨W0,hW0⟩:∃ W0,W0=w.alloc (bSt 4 nm n):=⟨_,rfl⟩;have hbW:Below w.heap.size w W0:=by rw [hW0];exact Zb _ _
 have K0:Hid (W0=w.alloc (bSt 4 nm n)∧W0.heap[w.heap.size]?=some (bSt 4 nm n)∧Below w.heap.size w W0∧w.heap.size<W0.heap.size):=⟨hW0,by rw [hW0];exact Zc _ _ rfl,hbW,by rw [hW0];simp⟩;have hd0:=hx.nx hgplt hbW;rw [hn2] at hd0;obtain ⟨g0,g1,g2,g3,g4,gz⟩:=blk5d hd0;obtain ⟨b0,b1,b2,bz⟩:=blk3d K0.out.2.1;clear h hx hn2 hW0 hbW hd0;go_enter Tryz.func79,Tryz.ntmps79
 go_upto_region 1 with fail
 rw [←K0.out.1];go_wp2_with fail
 go_ret
 exact ⟨rfl,K0.out.2.2.1⟩
theorem ended5 (gp:Nat) (nm:ByteArray) (n:Int) (S:Sta) (X:Aux) (F:Nat→Prop) (w:World) (h:DeskAt w gp S X F) (hq:S.srv.length≤549755813888) :
  Calls Tryz.prog 79 #[.pointer (some ⟨gp,0,none⟩),stA 5 nm n] w fun e w'=>e=.returned (.bool (cEnded 5 nm n S))∧Below w.heap.size w w':=by
 obtain ⟨po,pc,so,sc,wo,wc,yo,yc,ho,hc,hx⟩:=h.ex;have hgplt:gp<w.heap.size:=h.lt gp h.gp;obtain ⟨n2,hn2⟩:∃ n,S.srv.length=n:=⟨_,rfl⟩;have HN:=hideIt hn2;obtain ⟨W0,hW0⟩:∃ W0,W0=w.alloc (bSt 5 nm n):=⟨_,rfl⟩;have hbW:Below w.heap.size w W0:=by rw [hW0];exact Zb _ _
 have K0:Hid (W0=w.alloc (bSt 5 nm n)∧W0.heap[w.heap.size]?=some (bSt 5 nm n)∧Below w.heap.size w W0∧w.heap.size<W0.heap.size):=⟨hW0,by rw [hW0];exact Zc _ _ rfl,hbW,by rw [hW0];simp⟩;have hd0:=hx.nx hgplt hbW;have HRW:Hid (RowAt w (.slice so n2 sc) n2 (flatV S.srv)):=by have:=Zd hx.s.own;rw [hn2] at this;exact this
 rw [hn2] at hd0 hq;obtain ⟨g0,g1,g2,g3,g4,gz⟩:=blk5d hd0;obtain ⟨b0,b1,b2,bz⟩:=blk3d K0.out.2.1;have hgp0:gp<W0.heap.size:=Nat.lt_of_lt_of_le hgplt hbW.size;have hw0:w.heap.size<W0.heap.size:=K0.out.2.2.2;obtain ⟨qb,hqq⟩:∃ q,S.srv.any (othF nm n)=q:=⟨_,rfl⟩;have HE:Hid (cEnded 5 nm n S=!qb):=by
  show _=_;unfold cEnded;rw [hqq];rfl
 have HC:Hid (∀ u,Below W0.heap.size W0 u→Calls Tryz.prog 124 #[.slice so n2 sc,.string nm,.int .i64 n] u fun e w'=>e=.returned (.bool qb)∧Below u.heap.size u w'):=by
  intro u hu;rw [←hqq];exact cAnyOther so n2 sc nm n S.srv u ((HRW.out.nx hbW).nx hu) HN.out (by unfold maxLen;omega)
 clear h hx hn2 hW0 hbW hd0 hqq;go_enter Tryz.func79,Tryz.ntmps79
 go_upto_region 1 with fail
 rw [←K0.out.1];go_upto_region 9 with fail
 go_cut [4] (fun v wx=>v=.bool (!qb)∧∃ wy,Hid (Below W0.heap.size W0 wy)∧wy=wx)
 case first =>
  go_region_held3 (fun w'=>w'.cell? ⟨gp,2,none⟩=some (.slice so n2 sc)∧w'.cell? ⟨w.heap.size,1,none⟩=some (.string nm)∧w'.cell? ⟨w.heap.size,2,none⟩=some (.int .i64 n)) (go_keep)
   ((go_at_call 124;refine (HC.out _ ((Below.refl _ _).drew)).mono ?_;rintro e w5 ⟨rfl,hb5⟩;have HB5:Hid (Below W0.heap.size W0 w5):=Za (Below.refl _ _).drew hb5;have q1:=(HB5.out.cell (p:=⟨gp,2,none⟩) hgp0).trans g2;have q2:=(HB5.out.cell (p:=⟨w.heap.size,1,none⟩) hw0).trans b1;have q3:=(HB5.out.cell (p:=⟨w.heap.size,2,none⟩) hw0).trans b2;clear hb5))
  all_goals
   go_wp2_with fail
   go_meet
   exact ⟨rfl,_,HB5.out,rfl⟩
 case rest =>
  obtain ⟨rfl,wy,HB5,rfl⟩:=hcut;clear g0 g1 g2 g3 g4 gz b0 b1 b2 bz;go_wp2_with fail
  go_ret
  exact ⟨by rw [HE.out];rfl,Za K0.out.2.2.1 HB5.out⟩
theorem ended6 (gp:Nat) (nm:ByteArray) (n:Int) (S:Sta) (X:Aux) (F:Nat→Prop) (w:World) (h:DeskAt w gp S X F) (_hq:S.srv.length≤549755813888) :
  Calls Tryz.prog 79 #[.pointer (some ⟨gp,0,none⟩),stA 6 nm n] w fun e w'=>e=.returned (.bool (cEnded 6 nm n S))∧Below w.heap.size w w':=by
 obtain ⟨po,pc,so,sc,wo,wc,yo,yc,ho,hc,hx⟩:=h.ex;have hgplt:gp<w.heap.size:=h.lt gp h.gp;obtain ⟨n2,hn2⟩:∃ n,S.srv.length=n:=⟨_,rfl⟩;obtain ⟨W0,hW0⟩:∃ W0,W0=w.alloc (bSt 6 nm n):=⟨_,rfl⟩;have hbW:Below w.heap.size w W0:=by rw [hW0];exact Zb _ _
 have K0:Hid (W0=w.alloc (bSt 6 nm n)∧W0.heap[w.heap.size]?=some (bSt 6 nm n)∧Below w.heap.size w W0∧w.heap.size<W0.heap.size):=⟨hW0,by rw [hW0];exact Zc _ _ rfl,hbW,by rw [hW0];simp⟩;have hd0:=hx.nx hgplt hbW;rw [hn2] at hd0;obtain ⟨g0,g1,g2,g3,g4,gz⟩:=blk5d hd0;obtain ⟨b0,b1,b2,bz⟩:=blk3d K0.out.2.1;clear h hx hn2 hW0 hbW hd0;go_enter Tryz.func79,Tryz.ntmps79
 go_upto_region 1 with fail
 rw [←K0.out.1];go_wp2_with fail
 go_ret
 exact ⟨rfl,K0.out.2.2.1⟩
theorem ended7 (gp:Nat) (nm:ByteArray) (n:Int) (S:Sta) (X:Aux) (F:Nat→Prop) (w:World) (h:DeskAt w gp S X F) (_hq:S.srv.length≤549755813888) :
  Calls Tryz.prog 79 #[.pointer (some ⟨gp,0,none⟩),stA 7 nm n] w fun e w'=>e=.returned (.bool (cEnded 7 nm n S))∧Below w.heap.size w w':=by
 obtain ⟨po,pc,so,sc,wo,wc,yo,yc,ho,hc,hx⟩:=h.ex;have hgplt:gp<w.heap.size:=h.lt gp h.gp;obtain ⟨n2,hn2⟩:∃ n,S.srv.length=n:=⟨_,rfl⟩;obtain ⟨W0,hW0⟩:∃ W0,W0=w.alloc (bSt 7 nm n):=⟨_,rfl⟩;have hbW:Below w.heap.size w W0:=by rw [hW0];exact Zb _ _
 have K0:Hid (W0=w.alloc (bSt 7 nm n)∧W0.heap[w.heap.size]?=some (bSt 7 nm n)∧Below w.heap.size w W0∧w.heap.size<W0.heap.size):=⟨hW0,by rw [hW0];exact Zc _ _ rfl,hbW,by rw [hW0];simp⟩;have hd0:=hx.nx hgplt hbW;rw [hn2] at hd0;obtain ⟨g0,g1,g2,g3,g4,gz⟩:=blk5d hd0;obtain ⟨b0,b1,b2,bz⟩:=blk3d K0.out.2.1;clear h hx hn2 hW0 hbW hd0;go_enter Tryz.func79,Tryz.ntmps79
 go_upto_region 1 with fail
 rw [←K0.out.1];go_wp2_with fail
 go_ret
 exact ⟨rfl,K0.out.2.2.1⟩
theorem ended8 (gp:Nat) (nm:ByteArray) (n:Int) (S:Sta) (X:Aux) (F:Nat→Prop) (w:World) (h:DeskAt w gp S X F) (_hq:S.srv.length≤549755813888) :
  Calls Tryz.prog 79 #[.pointer (some ⟨gp,0,none⟩),stA 8 nm n] w fun e w'=>e=.returned (.bool (cEnded 8 nm n S))∧Below w.heap.size w w':=by
 obtain ⟨po,pc,so,sc,wo,wc,yo,yc,ho,hc,hx⟩:=h.ex;have hgplt:gp<w.heap.size:=h.lt gp h.gp;obtain ⟨n2,hn2⟩:∃ n,S.srv.length=n:=⟨_,rfl⟩;obtain ⟨W0,hW0⟩:∃ W0,W0=w.alloc (bSt 8 nm n):=⟨_,rfl⟩;have hbW:Below w.heap.size w W0:=by rw [hW0];exact Zb _ _
 have K0:Hid (W0=w.alloc (bSt 8 nm n)∧W0.heap[w.heap.size]?=some (bSt 8 nm n)∧Below w.heap.size w W0∧w.heap.size<W0.heap.size):=⟨hW0,by rw [hW0];exact Zc _ _ rfl,hbW,by rw [hW0];simp⟩;have hd0:=hx.nx hgplt hbW;rw [hn2] at hd0;obtain ⟨g0,g1,g2,g3,g4,gz⟩:=blk5d hd0;obtain ⟨b0,b1,b2,bz⟩:=blk3d K0.out.2.1;clear h hx hn2 hW0 hbW hd0;go_enter Tryz.func79,Tryz.ntmps79
 go_upto_region 1 with fail
 rw [←K0.out.1];go_wp2_with fail
 go_ret
 exact ⟨rfl,K0.out.2.2.1⟩
theorem ZhX (gp:Nat) (k:Int) (nm:ByteArray) (n:Int) (S:Sta) (X:Aux) (F:Nat→Prop) (w:World) (hk:okKind k) (h:DeskAt w gp S X F) (hq:S.srv.length≤549755813888) :
  Calls Tryz.prog 79 #[.pointer (some ⟨gp,0,none⟩),stA k nm n] w fun e w'=>e=.returned (.bool (cEnded k nm n S))∧Below w.heap.size w w':=by
 obtain ⟨h1,h2⟩:=hk;have h3:k=1∨k=2∨k=3∨k=4∨k=5∨k=6∨k=7∨k=8:=by omega
 rcases h3 with rfl | rfl | rfl | rfl | rfl | rfl | rfl | rfl
 ·exact ended1 gp nm n S X F w h hq
 ·exact ended2 gp nm n S X F w h hq
 ·exact ended3 gp nm n S X F w h hq
 ·exact ended4 gp nm n S X F w h hq
 ·exact ended5 gp nm n S X F w h hq
 ·exact ended6 gp nm n S X F w h hq
 ·exact ended7 gp nm n S X F w h hq
 ·exact ended8 gp nm n S X F w h hq
theorem ZdS (k:Int) (nm:ByteArray) (n:Int) (S:Sta):Less (tabS S (takeT k nm n S.bud S.pools)) (cBegin k nm n S):=by
 unfold cBegin;simp only;split
 ·exact Zb4 _ _ _
 ·split
  ·exact (Za1 _ _ _).trans (Zb4 _ _ _)
  ·split
   ·exact Zdt _ _
   ·split
    ·exact Zhh _ _ _
    ·split
     ·exact Za1 _ _ _
     ·exact Less.refl _
theorem ZiL (k:Int) (nm:ByteArray) (n b:Int) (ps:List Pl):(takeT k nm n b ps).2.length≤ps.length+1:=by
 unfold takeT;split
 ·simp
 ·split
  ·have:=List.length_filter_le (othN nm) ps;simp only;omega
  ·split
   ·rw [ZeN];exact Nat.le_refl _
   ·split
    ·exact Zfx _ _ _ _
    ·simp
theorem Zi8 {k:Int} {nm:ByteArray} {n:Int} {S:Sta} {op:Int} (hok:Ok S op) (hq1:S.pools.length≤1000):Ok (cBegin k nm n S) op:=by
 refine (ZdS k nm n S).ok ⟨⟨hok.inv.ids,hok.inv.low,hok.inv.op0,hok.inv.cli⟩,hok.pot,?_⟩;have:=ZiL k nm n S.bud S.pools;show (takeT k nm n S.bud S.pools).2.length≤_;omega
def cTurnS (k:Int) (nm:ByteArray) (n:Int) (bg:Bool) (S:Sta) (op:Int):Sta×Int:=
 cServe (if bg=true then S else cBegin k nm n S).wts.length (if bg=true then S else cBegin k nm n S) op
theorem dTurn (gp:Nat) (k:Int) (nm:ByteArray) (n:Int) (bg:Bool) (S:Sta) (X:Aux) (F:Nat→Prop) (w:World) (hk:okKind k) (h:DeskAt w gp S X F) (hok:Ok S X.op) (hq1:S.pools.length≤1000) (hN:0≤n∧n≤1000000) :
  Calls Tryz.prog 49 #[.pointer (some ⟨gp,0,none⟩),stA k nm n,.bool bg] w fun e w'=>e=.returned (.bool (cEnded k nm n (cTurnS k nm n bg S X.op).1))∧Moved w w' gp (cTurnS k nm n bg S X.op).1 {X with op:=(cTurnS k nm n bg S X.op).2} F:=by
 obtain ⟨W0,hW0⟩:∃ W0,W0=w.alloc (bSt k nm n):=⟨_,rfl⟩;have hbW:Below w.heap.size w W0:=by rw [hW0];exact Zb _ _
 have K0:Hid (W0=w.alloc (bSt k nm n)∧W0.heap[w.heap.size]?=some (bSt k nm n)∧Below w.heap.size w W0∧w.heap.size<W0.heap.size):=⟨hW0,by rw [hW0];exact Zc _ _ rfl,hbW,by rw [hW0];simp⟩;have HD0:Hid (DeskAt W0 gp S X F):=h.keep (G:=fun _=>False) (Chg.of_below hbW) (fun _ _ h=>h);have HNF:Hid (¬F w.heap.size):=fun hf=>by have:=h.lt _ hf;omega
 have HBG:=hideIt (Zh1 gp k nm n S X F W0 hk HD0.out hok hq1 hN);have HOK:=hideIt hok;have HQ1:=hideIt hq1;have HKK:=hideIt hk;have HSV:Hid (∀ (T:Sta) (G:Nat→Prop) (u:World),DeskAt u gp T X G→Ok T X.op→Calls Tryz.prog 78 #[.pointer (some ⟨gp,0,none⟩)] u fun e w'=>(∃ x,e=.returned x)∧Moved u w' gp (cServe T.wts.length T X.op).1 {X with op:=(cServe T.wts.length T X.op).2} G):=fun T G u hd hk=>dServe gp T X G u hd hk
 have HEN:Hid (∀ (T:Sta) (Z:Aux) (G:Nat→Prop) (u:World),DeskAt u gp T Z G→T.srv.length≤549755813888→Calls Tryz.prog 79 #[.pointer (some ⟨gp,0,none⟩),stA k nm n] u fun e w'=>e=.returned (.bool (cEnded k nm n T))∧Below u.heap.size u w'):=fun T Z G u hd hq=>ZhX gp k nm n T Z G u HKK.out hd hq
 clear h hok hq1 hN hW0 hbW hk;cases bg with
 | true =>
  have HOT:=hideIt (HOK.out.serve S.wts.length);obtain ⟨⟨T,t⟩,hT⟩:∃ y,cServe S.wts.length S X.op=y:=⟨_,rfl⟩;have HT:Hid (cTurnS k nm n true S X.op=(T,t)):=hT;have HS1:=hideIt (HSV.out S F W0 HD0.out HOK.out);rw [hT] at HS1 HOT;simp only at HS1 HOT;clear hT;go_enter Tryz.func49,Tryz.ntmps49
  go_upto_region 1 with fail
  rw [←K0.out.1];go_wp2_with fail
  refine HS1.out.mono ?_;rintro e w2 ⟨⟨x,rfl⟩,hm⟩;have HM:=hideIt hm;obtain ⟨F2,hd2,hF2,hch⟩:=hm;have hs2:w2.heap[w.heap.size]?=some (bSt k nm n):=(hch.block _ K0.out.2.2.2 HNF.out).trans K0.out.2.1;have HE:=hideIt (HEN.out T _ F2 w2 hd2 (by have h1:=HOT.out.inv.len;have h2:=HOT.out.pot;unfold pot at h2;simp only at h2;omega));obtain ⟨b0,b1,b2,bz⟩:=blk3d hs2;clear hd2 hF2 hch hs2;go_wp2_with fail
  refine HE.out.mono ?_;rintro e w3 ⟨rfl,hb3⟩;have KF:=hideIt (Moved.after K0.out.2.2.1 (HM.out.below hb3));clear hb3 b0 b1 b2 bz;go_wp2_with fail
  go_ret
  rw [HT.out];exact ⟨rfl,KF.out⟩
 | false =>
  have HOB:=hideIt (Zi8 (k:=k) (nm:=nm) (n:=n) HOK.out HQ1.out);obtain ⟨B1,hB1⟩:∃ B1,cBegin k nm n S=B1:=⟨_,rfl⟩;rw [hB1] at HBG HOB;have HOT:=hideIt (HOB.out.serve B1.wts.length);obtain ⟨⟨T,t⟩,hT⟩:∃ y,cServe B1.wts.length B1 X.op=y:=⟨_,rfl⟩;have HT:Hid (cTurnS k nm n false S X.op=(T,t)):=by
   show _=_;rw [←hT,←hB1];rfl
  have HTT:=hideIt hT;rw [hT] at HOT;simp only at HOT;clear hT hB1;go_enter Tryz.func49,Tryz.ntmps49
  go_upto_region 1 with fail
  rw [←K0.out.1];obtain ⟨b0,b1,b2,bz⟩:=blk3d K0.out.2.1;go_wp2_with fail
  refine HBG.out.mono ?_;rintro e w1 ⟨⟨x,rfl⟩,hm1⟩;obtain ⟨F1,hd1,hnx1⟩:=hm1.step;have hs1:=HSV.out B1 F1 w1 hd1 HOB.out;rw [HTT.out] at hs1;have HS1:=hideIt hs1;have HNX:=hideIt hnx1;clear hm1 hd1 hnx1 hs1 b0 b1 b2 bz;simp only at HS1;go_wp2_with fail
  refine HS1.out.mono ?_;rintro e w2 ⟨⟨x,rfl⟩,hm⟩;have HM:=hideIt (HNX.out _ _ _ hm);have hm':=HM.out;obtain ⟨F2,hd2,hF2,hch⟩:=hm';have hs2:w2.heap[w.heap.size]?=some (bSt k nm n):=(hch.block _ K0.out.2.2.2 HNF.out).trans K0.out.2.1;have HE:=hideIt (HEN.out T _ F2 w2 hd2 (by have h1:=HOT.out.inv.len;have h2:=HOT.out.pot;unfold pot at h2;simp only at h2;omega));obtain ⟨b0,b1,b2,bz⟩:=blk3d hs2;clear hm hd2 hF2 hch hs2;go_wp2_with fail
  refine HE.out.mono ?_;rintro e w3 ⟨rfl,hb3⟩;have KF:=hideIt (Moved.after K0.out.2.2.1 (HM.out.below hb3));clear hb3 b0 b1 b2 bz;go_wp2_with fail
  go_ret
  rw [HT.out];exact ⟨rfl,KF.out⟩
def trimR (pool:ByteArray) (all:Bool) (n:Int):Nat→List Srv→List Srv
 | 0,ss=>ss
 | f+1,ss=>if (if all=true then (ss.length:Int) else (cntG (isPoolV pool) ss:Int))≤n then ss else match lastI (isIdle pool all) ss with
  | none=>ss
  | some k=>trimR pool all n f (ss.eraseIdx k)
def isStr (pool:ByteArray) (far:Int) (idle:Bool) (x:Srv):Bool:=(x.pool.toList == pool.toList)&&(!(x.far == far)&&(x.client == 0||!idle))
def movR (pool:ByteArray) (far:Int):Nat→List Srv→List Srv
 | 0,ss=>ss
 | f+1,ss=>match ss.findIdx? (isStr pool far true) with
  | none=>ss
  | some k=>movR pool far f (ss.eraseIdx k)
def heldR (pool:ByteArray) (n:Int):Nat→List Wtr→List Wtr
 | 0,ws=>ws
 | f+1,ws=>if (cntG (isPoolW pool) ws:Int)≤n then ws else heldR pool n f (ws.eraseIdx ((lastI (isPoolW pool) ws).getD 0))
def rTrim (S:Sta) (pool:ByteArray) (all:Bool) (n:Int):Sta:={S with srv:=trimR pool all n (S.srv.length+1) S.srv}
def rMove (S:Sta) (pool:ByteArray) (far:Int):Sta:={S with srv:=movR pool far (S.srv.length+1) S.srv}
def rHeld (S:Sta) (pool:ByteArray) (n:Int):Sta:={S with wts:=heldR pool n (S.wts.length+1) S.wts}
def rTab (k:Int) (nm:ByteArray) (n:Int) (b:Int) (ps:List Pl):Int×List Pl:=
 if k=3∨k=7 then (n,ps) else if k=2 then (b,ps.filter (othN nm)) else if k=4 then (b,insP ⟨nm,0,0,0⟩ ps)
 else match ps.findIdx? (isNameP nm) with | none=>(b,ps) | some p=>(b,ps.modify p (updP k n))
def rBegin (k:Int) (nm:ByteArray) (n:Int) (S:Sta):Sta:=
 let S1:=tabS S (rTab k nm n S.bud S.pools)
 if k=1 then rTrim S1 nm false n
 else if k=2 then rTrim (rHeld S1 nm 0) nm false 0
 else if k=3 then rTrim S1 ⟨#[]⟩ true n
 else if k=5 then rMove S1 nm n
 else if k=6 then rHeld S1 nm n
 else S1
theorem Zfl (pool:ByteArray) (all:Bool) (n:Int):∀ (f:Nat) (ss:List Srv),(trimR pool all n f ss).length≤ss.length
 | 0,_=>Nat.le_refl _
 | f+1,ss=>by
  rw [trimR];by_cases hc:(if all=true then (ss.length:Int) else (cntG (isPoolV pool) ss:Int))≤n
  ·rw [if_pos hc];exact Nat.le_refl _
  ·rw [if_neg hc];cases lastI (isIdle pool all) ss with
   | none=>exact Nat.le_refl _
   | some k=>exact Nat.le_trans (Zfl pool all n f _) (List.length_eraseIdx_le ss k)
theorem ZgO (pool:ByteArray) (far:Int):∀ (f:Nat) (ss:List Srv),(movR pool far f ss).length≤ss.length
 | 0,_=>Nat.le_refl _
 | f+1,ss=>by
  rw [movR];split
  ·exact Nat.le_refl _
  ·rename_i k _
   exact Nat.le_trans (ZgO pool far f _) (List.length_eraseIdx_le ss k)
theorem Zc9 (pool:ByteArray) (n:Int):∀ (f:Nat) (ws:List Wtr),(heldR pool n f ws).length≤ws.length
 | 0,_=>Nat.le_refl _
 | f+1,ws=>by
  rw [heldR];split
  ·exact Nat.le_refl _
  ·exact Nat.le_trans (Zc9 pool n f _) (List.length_eraseIdx_le ws _)
theorem ZjU (k:Int) (nm:ByteArray) (n b:Int) (ps:List Pl):(rTab k nm n b ps).2.length≤ps.length+1:=by
 unfold rTab;split
 ·exact Nat.le_succ _
 ·split
  ·have:=List.length_filter_le (othN nm) ps;simp only;omega
  ·split
   ·simp only [ZX];exact Nat.le_refl _
   ·split
    ·exact Nat.le_succ _
    ·simp only [List.length_modify];exact Nat.le_succ _
theorem ZgT (k:Int) (nm:ByteArray) (n:Int) (S:Sta):(rBegin k nm n S).srv.length≤S.srv.length∧(rBegin k nm n S).wts.length≤S.wts.length∧(rBegin k nm n S).pools.length≤S.pools.length+1∧(rBegin k nm n S).plan=S.plan:=by
 have h1:=fun pool all n f=>Zfl pool all n f S.srv
 have h2:=fun pool far f=>ZgO pool far f S.srv
 have h3:=fun pool n f=>Zc9 pool n f S.wts
 have h4:=ZjU k nm n S.bud S.pools;unfold rBegin rTrim rMove rHeld tabS;simp only;repeat' split
 ·exact ⟨h1 _ _ _ _,Nat.le_refl _,h4,rfl⟩
 ·exact ⟨h1 _ _ _ _,h3 _ _ _,h4,rfl⟩
 ·exact ⟨h1 _ _ _ _,Nat.le_refl _,h4,rfl⟩
 ·exact ⟨h2 _ _ _,Nat.le_refl _,h4,rfl⟩
 ·exact ⟨Nat.le_refl _,h3 _ _ _,h4,rfl⟩
 ·exact ⟨Nat.le_refl _,Nat.le_refl _,h4,rfl⟩
structure Look (w W:World) (o:Obj):Prop where
 eq:W=w.alloc o
 b0:W.heap[w.heap.size]?=some o
 bel:Below w.heap.size w W
theorem ZgK (w:World) (o:Obj):∃ W,Hid (Look w W o):=⟨_,rfl,Zc _ _ rfl,Zb _ _⟩
theorem xLast (S:Sta) (u:Stv) (nx:Int) (Y:Int×List Pl) (ho:Option Addr) (hc:Nat) (pool:ByteArray) (all:Bool) (w:World) (hr:RowAt w (.slice u.so S.srv.length u.sc) S.srv.length (flatV S.srv)) (hq:S.srv.length≤549755813888) :
  Calls Tryz.prog 125 #[wdA S u nx Y ho hc,.string pool,.bool all] w fun e w'=>e=.returned (.int .i64 (optI (lastI (isIdle pool all) S.srv)))∧Below w.heap.size w w':=by
 obtain ⟨W,HW⟩:=ZgK w (bW S u nx Y ho hc);have HR:=hideIt (hr.nx HW.out.bel);obtain ⟨n,hn⟩:∃ n,S.srv.length=n:=⟨_,rfl⟩;obtain ⟨so,sc,hu⟩:∃ so sc,(Value.slice u.so S.srv.length u.sc)=.slice so n sc:=⟨_,_,by rw [hn]⟩;have HB0:=hideIt HW.out.b0;unfold bW at HB0 HW;unfold wdA;rw [hu] at HB0 HR HW ⊢;rw [hn] at HR hq;have HN:=hideIt hn;clear hr hu hn;go_enter Tryz.func125,Tryz.ntmps125
 go_wp2_with fail
 rw [←HW.out.eq];go_loopw [7,8] (fun q i wr=>∃ k:Nat,k≤n∧i=.int .i64 k∧q=.int .i64 (optI (lastI (isIdle pool all) (S.srv.take k)))∧Hid (Below W.heap.size W wr)) (fun _ i _=>n - (intOf i).toNat)
 case atStart=>exact ⟨0,Nat.zero_le _,rfl,rfl,Below.refl _ _⟩
 case round =>
  obtain ⟨k,hk,rfl,rfl,HB⟩:=hrel;obtain ⟨_,_,hcell,_⟩:=blk10 (Ze HB0.out HB.out);by_cases hlt:k<n
  ·obtain ⟨⟨x0,x1,x2,x3⟩,hp⟩:∃ p,S.srv[k]?=some p:=⟨_,List.getElem?_eq_getElem (by rw [HN.out];exact hlt)⟩;obtain ⟨bl,off,hao,hbl,c0,c1,c2,c3⟩:=ZN (HR.out.nx HB.out) hp;subst hao;simp only at c0 c1 c2 c3;have hlti:(k:Int)<(n:Int):=by omega
   have HBA:=hideIt (Za HB.out (Zb wr (.cells #[.int .i64 x0,.string x1,.int .i64 x2,.int .i64 x3] 74)));have hnx:=ZbS (p:=isIdle pool all) hp;cases hq:isIdle pool all ⟨x0,x1,x2,x3⟩ with
   | true =>
    rw [hq,if_pos rfl] at hnx;have HN2:=hideIt hnx;simp only [isIdle,Bool.and_eq_true,Bool.or_eq_true] at hq;obtain ⟨hq1,hq2⟩:=hq;clear hp hnx;cases all with
    | true =>
     go_wp2_with fail
     go_roundw
     case rel=>exact ⟨k+1,by omega,by go_num,by rw [HN2.out];rfl,HBA.out⟩
     case measure=>simp [intOf];omega
    | false =>
     have hq3:(x1.toList == pool.toList)=true:=by simpa using hq2
     go_wp2_with fail
     go_roundw
     case rel=>exact ⟨k+1,by omega,by go_num,by rw [HN2.out];rfl,HBA.out⟩
     case measure=>simp [intOf];omega
   | false =>
    rw [hq,if_neg (by simp)] at hnx;have HN2:=hideIt hnx;clear hp hnx;cases h3:(x3 == 0) with
    | false =>
     clear hq;go_wp2_with fail
     go_roundw
     case rel=>exact ⟨k+1,by omega,by go_num,by rw [HN2.out],HBA.out⟩
     case measure=>simp [intOf];omega
    | true =>
     have hall:all=false:=by cases all <;> simp [isIdle,h3] at hq ⊢
     have hq3:(x1.toList == pool.toList)=false:=by simpa [isIdle,h3,hall] using hq
     subst hall;clear hq;go_wp2_with fail
     go_roundw
     case rel=>exact ⟨k+1,by omega,by go_num,by rw [HN2.out],HBA.out⟩
     case measure=>simp [intOf];omega
  ·have HM:Hid (S.srv.take k=S.srv):=List.take_of_length_le (by rw [HN.out];omega);go_wp2_with fail
   go_ret
   exact ⟨by rw [HM.out];rfl,Za HW.out.bel HB.out⟩
theorem xStrange (S:Sta) (u:Stv) (nx:Int) (Y:Int×List Pl) (ho:Option Addr) (hc:Nat) (pool:ByteArray) (far:Int) (idle:Bool) (w:World) (hr:RowAt w (.slice u.so S.srv.length u.sc) S.srv.length (flatV S.srv)) (hq:S.srv.length≤549755813888) :
  Calls Tryz.prog 87 #[wdA S u nx Y ho hc,.string pool,.int .i64 far,.bool idle] w fun e w'=>e=.returned (.int .i64 (optI (S.srv.findIdx? (isStr pool far idle))))∧Below w.heap.size w w':=by
 obtain ⟨W,HW⟩:=ZgK w (bW S u nx Y ho hc);have HR:=hideIt (hr.nx HW.out.bel);obtain ⟨n,hn⟩:∃ n,S.srv.length=n:=⟨_,rfl⟩;obtain ⟨so,sc,hu⟩:∃ so sc,(Value.slice u.so S.srv.length u.sc)=.slice so n sc:=⟨_,_,by rw [hn]⟩;have HB0:=hideIt HW.out.b0;unfold bW at HB0 HW;unfold wdA;rw [hu] at HB0 HR HW ⊢;rw [hn] at HR hq;have HN:=hideIt hn;clear hr hu hn;go_enter Tryz.func87,Tryz.ntmps87
 go_wp2_with fail
 rw [←HW.out.eq];go_loopw [9] (fun i wr=>∃ k:Nat,k≤n∧i=.int .i64 k∧Hid (∀ y∈S.srv.take k,isStr pool far idle y=false)∧Hid (Below W.heap.size W wr)) (fun i _=>n - (intOf i).toNat)
 case atStart=>exact ⟨0,Nat.zero_le _,rfl,by intro y hy;simp at hy,Below.refl _ _⟩
 case round =>
  obtain ⟨k,hk,rfl,HT,HB⟩:=hrel;obtain ⟨_,_,hcell,_⟩:=blk10 (Ze HB0.out HB.out);by_cases hlt:k<n
  ·obtain ⟨⟨x0,x1,x2,x3⟩,hp⟩:∃ p,S.srv[k]?=some p:=⟨_,List.getElem?_eq_getElem (by rw [HN.out];exact hlt)⟩;obtain ⟨bl,off,hao,hbl,c0,c1,c2,c3⟩:=ZN (HR.out.nx HB.out) hp;subst hao;simp only at c0 c1 c2 c3;have hlti:(k:Int)<(n:Int):=by omega
   have HBA:=hideIt (Za HB.out (Zb wr (.cells #[.int .i64 x0,.string x1,.int .i64 x2,.int .i64 x3] 74)));have HBE:=hideIt (Za HW.out.bel HBA.out);cases hq:isStr pool far idle ⟨x0,x1,x2,x3⟩ with
   | true =>
    have HH:=hideIt (Zaq HT.out hp hq);simp only [isStr,Bool.and_eq_true,Bool.or_eq_true,Bool.not_eq_true'] at hq;obtain ⟨hq1,hq2,hq3⟩:=hq;have hq4:(x2 != far)=true:=by rw [bne,hq2];rfl
    clear hp;cases h3:(x3 == 0) with
    | true =>
     go_wp2_with fail
     go_ret
     exact ⟨by rw [HH.out];rfl,HBE.out⟩
    | false =>
     have hi:idle=false:=by simpa [h3] using hq3
     subst hi;go_wp2_with fail
     go_ret
     exact ⟨by rw [HH.out];rfl,HBE.out⟩
   | false =>
    have HN2:=hideIt (ZK HT.out hp hq);clear hp;cases h1:(x1.toList == pool.toList) with
    | false =>
     clear hq;go_wp2_with fail
     go_roundw
     case rel=>exact ⟨k+1,by omega,by go_num,HN2.out,HBA.out⟩
     case measure=>simp [intOf];omega
    | true =>
     cases h2:(x2 == far) with
     | true =>
      have hq4:(x2 != far)=false:=by rw [bne,h2];rfl
      clear hq;go_wp2_with fail
      go_roundw
      case rel=>exact ⟨k+1,by omega,by go_num,HN2.out,HBA.out⟩
      case measure=>simp [intOf];omega
     | false =>
      have hq4:(x2 != far)=true:=by rw [bne,h2];rfl
      cases h3:(x3 == 0) with
      | true=>simp [isStr,h1,h2,h3] at hq
      | false =>
       have hi:idle=true:=by simpa [isStr,h1,h2,h3] using hq
       subst hi;clear hq;go_wp2_with fail
       go_roundw
       case rel=>exact ⟨k+1,by omega,by go_num,HN2.out,HBA.out⟩
       case measure=>simp [intOf];omega
  ·have HM:Hid (S.srv.findIdx? (isStr pool far idle)=none):=Zad (fun y hy=>HT.out y (by rw [List.take_of_length_le (by rw [HN.out];omega)];exact hy));go_wp2_with fail
   go_ret
   exact ⟨by rw [HM.out];rfl,Za HW.out.bel HB.out⟩
end Lw
end Go.Proofs.YtcpikklofilkcaaGreat
