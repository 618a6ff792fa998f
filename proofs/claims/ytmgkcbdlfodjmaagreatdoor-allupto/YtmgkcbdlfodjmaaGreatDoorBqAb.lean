import Derived.Test.YtmgkcbdlfodjmaaGreatDoorBqAa
set_option maxRecDepth 100000
set_option maxHeartbeats 16000000
namespace Go.Proofs.YtmgkcbdlfodjmaaGreatDoor
open Go.RowKit
namespace Lw
open Co
def Z4 (k:Int) (nm:ByteArray) (n:Int) (S:Zh):Bool:=
 if k=1 then decide ((Zs (Zj nm) S.srv:Int)≤n)
 else if k=2 then decide ((Zs (Zj nm) S.srv:Int)=0)
 else if k=3 then decide ((S.srv.length:Int)≤n)
 else if k=5 then !S.srv.any (Zcg nm n)
 else true
theorem ZsG (a0:Nat) (nm:ByteArray) (n:Int) (S:Zh) (X:ZB) (F:Nat→Prop) (w:World) (h:DeskAt w a0 S X F) (aj:S.srv.length≤549755813888) :
  Calls Tryz.prog 90 #[.pointer (some ⟨a0,0,none⟩),stA 1 nm n] w fun e m=>e=.returned (.bool (Z4 1 nm n S))∧Below w.heap.size w m:=by
 obtain ⟨au,ar,so,sc,wo,wc,az,ay,ap,ao,N⟩:=h.ex;have V:a0<w.heap.size:=h.lt a0 h.gp;obtain ⟨A,I⟩:∃ n,S.srv.length=n:=⟨_,rfl⟩;have HN:=Za I;obtain ⟨d,D⟩:∃ d,d=w.alloc (bSt 1 nm n):=⟨_,rfl⟩;have E:Below w.heap.size w d:=by rw [D];exact Zc _ _
 have J:Hid (d=w.alloc (bSt 1 nm n)∧d.heap[w.heap.size]?=some (bSt 1 nm n)∧Below w.heap.size w d∧w.heap.size<d.heap.size):=⟨D,by rw [D];exact Zd _ _ rfl,E,by rw [D];simp⟩;have M:=N.nx V E;have aa:Hid (RowAt w (.slice so A sc) A (Zv S.srv)):=by have:=Zf N.s.own;rw [I] at this;exact this
 rw [I] at M aj;obtain ⟨ad,ae,R,af,ag,ah⟩:=ZS M;obtain ⟨ab,Q,b2,ac⟩:=Zaq J.out.2.1;have ai:a0<d.heap.size:=Yl V E.size;have a6:w.heap.size<d.heap.size:=J.out.2.2.2;obtain ⟨q,L⟩:∃ q,Zs (Zj nm) S.srv=q:=⟨_,rfl⟩;have aq:q≤A:=by rw [←L,←I];exact Yp _ _
 have HE:Hid (Z4 1 nm n S=(decide ((q:Int)≤n))):=by
  show _=_;unfold Z4;rw [L];rfl
 have Y:Hid (∀ u,Below d.heap.size d u→Calls Tryz.prog 139 #[.slice so A sc,.string nm] u fun e m=>e=.returned (.int .i64 (q:Int))∧Below u.heap.size u m):=by
  intro u ak;rw [←L];exact Ze4 so A sc nm S.srv u ((aa.out.nx E).nx ak) HN.out (by omega)
 clear h N I D E M L;go_enter Tryz.func90,Tryz.ntmps90
 go_upto_region 1 with fail
 rw [←J.out.1];go_upto_region 3 with fail
 go_cut [4] (fun v am=>v=.bool (decide ((q:Int)≤n))∧∃ O,Hid (Below d.heap.size d O)∧O=am)
 case first =>
  go_region_held3 (fun m=>m.cell? ⟨a0,2,none⟩=some (.slice so A sc)∧m.cell? ⟨w.heap.size,1,none⟩=some (.string nm)∧m.cell? ⟨w.heap.size,2,none⟩=some (.int .i64 n)) (go_keep)
   ((go_at_call 139;refine (Y.out _ ((Yh _ _).drew)).mono ?_;rintro e al ⟨rfl,U⟩;have a1:Hid (Below d.heap.size d al):=Zb (Yh _ _).drew U;have av:=(a1.out.cell (p:=⟨a0,2,none⟩) ai).trans R;have aw:=(a1.out.cell (p:=⟨w.heap.size,1,none⟩) a6).trans Q;have ax:=(a1.out.cell (p:=⟨w.heap.size,2,none⟩) a6).trans b2;clear U))
  all_goals
   go_wp2_with fail
   go_meet
   exact ⟨rfl,_,a1.out,rfl⟩
 case rest =>
  obtain ⟨rfl,O,a1,rfl⟩:=hcut;clear ad ae R af ag ah ab Q b2 ac;go_wp2_with fail
  go_ret
  exact ⟨by rw [HE.out];rfl,Zb J.out.2.2.1 a1.out⟩
theorem Zs3 (a0:Nat) (nm:ByteArray) (n:Int) (S:Zh) (X:ZB) (F:Nat→Prop) (w:World) (h:DeskAt w a0 S X F) (aj:S.srv.length≤549755813888) :
  Calls Tryz.prog 90 #[.pointer (some ⟨a0,0,none⟩),stA 2 nm n] w fun e A=>e=.returned (.bool (Z4 2 nm n S))∧Below w.heap.size w A:=by
 obtain ⟨av,au,so,sc,wo,wc,az,ay,aq,ap,O⟩:=h.ex;have a1:a0<w.heap.size:=h.lt a0 h.gp;obtain ⟨m,J⟩:∃ n,S.srv.length=n:=⟨_,rfl⟩;have HN:=Za J;obtain ⟨d,E⟩:∃ d,d=w.alloc (bSt 2 nm n):=⟨_,rfl⟩;have I:Below w.heap.size w d:=by rw [E];exact Zc _ _
 have L:Hid (d=w.alloc (bSt 2 nm n)∧d.heap[w.heap.size]?=some (bSt 2 nm n)∧Below w.heap.size w d∧w.heap.size<d.heap.size):=⟨E,by rw [E];exact Zd _ _ rfl,I,by rw [E];simp⟩;have N:=O.nx a1 I;have aa:Hid (RowAt w (.slice so m sc) m (Zv S.srv)):=by have:=Zf O.s.own;rw [J] at this;exact this
 rw [J] at N aj;obtain ⟨ad,ae,U,af,ag,ah⟩:=ZS N;obtain ⟨ab,R,b2,ac⟩:=Zaq L.out.2.1;have ai:a0<d.heap.size:=Yl a1 I.size;have al:w.heap.size<d.heap.size:=L.out.2.2.2;obtain ⟨q,M⟩:∃ q,Zs (Zj nm) S.srv=q:=⟨_,rfl⟩;have ar:q≤m:=by rw [←M,←J];exact Yp _ _
 have HE:Hid (Z4 2 nm n S=((q:Int) == 0)):=by
  show _=_;unfold Z4;rw [M];simp [BEq.beq]
 have Y:Hid (∀ u,Below d.heap.size d u→Calls Tryz.prog 139 #[.slice so m sc,.string nm] u fun e A=>e=.returned (.int .i64 (q:Int))∧Below u.heap.size u A):=by
  intro u ak;rw [←M];exact Ze4 so m sc nm S.srv u ((aa.out.nx I).nx ak) HN.out (by omega)
 clear h O J E I N M;go_enter Tryz.func90,Tryz.ntmps90
 go_upto_region 1 with fail
 rw [←L.out.1];go_upto_region 5 with fail
 go_cut [4] (fun v ao=>v=.bool ((q:Int) == 0)∧∃ Q,Hid (Below d.heap.size d Q)∧Q=ao)
 case first =>
  go_region_held3 (fun A=>A.cell? ⟨a0,2,none⟩=some (.slice so m sc)∧A.cell? ⟨w.heap.size,1,none⟩=some (.string nm)) (go_keep)
   ((go_at_call 139;refine (Y.out _ ((Yh _ _).drew)).mono ?_;rintro e am ⟨rfl,V⟩;have D:Hid (Below d.heap.size d am):=Zb (Yh _ _).drew V;have aw:=(D.out.cell (p:=⟨a0,2,none⟩) ai).trans U;have ax:=(D.out.cell (p:=⟨w.heap.size,1,none⟩) al).trans R;clear V))
  all_goals
   go_wp2_with fail
   go_meet
   exact ⟨rfl,_,D.out,rfl⟩
 case rest =>
  obtain ⟨rfl,Q,D,rfl⟩:=hcut;clear ad ae U af ag ah ab R b2 ac;go_wp2_with fail
  go_ret
  exact ⟨by rw [HE.out];rfl,Zb L.out.2.2.1 D.out⟩
theorem Zsy (m:Nat) (nm:ByteArray) (n:Int) (S:Zh) (L:ZB) (F:Nat→Prop) (w:World) (h:DeskAt w m S L F) (_hq:S.srv.length≤549755813888) :
  Calls Tryz.prog 90 #[.pointer (some ⟨m,0,none⟩),stA 3 nm n] w fun e O=>e=.returned (.bool (Z4 3 nm n S))∧Below w.heap.size w O:=by
 obtain ⟨ah,ag,so,sc,wo,wc,aj,ai,af,ae,I⟩:=h.ex;have M:m<w.heap.size:=h.lt m h.gp;obtain ⟨N,q⟩:∃ n,S.srv.length=n:=⟨_,rfl⟩;have Q:=Za q;obtain ⟨d,ak⟩:∃ d,d=w.alloc (bSt 3 nm n):=⟨_,rfl⟩;have D:Below w.heap.size w d:=by rw [ak];exact Zc _ _
 have A:Hid (d=w.alloc (bSt 3 nm n)∧d.heap[w.heap.size]?=some (bSt 3 nm n)∧Below w.heap.size w d∧w.heap.size<d.heap.size):=⟨ak,by rw [ak];exact Zd _ _ rfl,D,by rw [ak];simp⟩;have E:=I.nx M D;rw [q] at E;obtain ⟨X,Y,aa,ab,ac,ad⟩:=ZS E;obtain ⟨R,U,b2,V⟩:=Zaq A.out.2.1;have J:Hid (Z4 3 nm n S=decide ((N:Int)≤n)):=by
  show _=_;unfold Z4;rw [q];rfl
 clear h I q ak D E;go_enter Tryz.func90,Tryz.ntmps90
 go_upto_region 1 with fail
 rw [←A.out.1];go_upto_region 7 with fail
 go_quiet (fail)
 go_wp2_with fail
 go_ret
 exact ⟨by rw [J.out];rfl,below_drewN A.out.2.2.1 _⟩
theorem Zth (m:Nat) (nm:ByteArray) (n:Int) (S:Zh) (J:ZB) (F:Nat→Prop) (w:World) (h:DeskAt w m S J F) (_hq:S.srv.length≤549755813888) :
  Calls Tryz.prog 90 #[.pointer (some ⟨m,0,none⟩),stA 4 nm n] w fun e M=>e=.returned (.bool (Z4 4 nm n S))∧Below w.heap.size w M:=by
 obtain ⟨af,ae,so,sc,wo,wc,ah,ag,ac,ab,I⟩:=h.ex;have L:m<w.heap.size:=h.lt m h.gp;obtain ⟨ad,E⟩:∃ n,S.srv.length=n:=⟨_,rfl⟩;obtain ⟨d,ai⟩:∃ d,d=w.alloc (bSt 4 nm n):=⟨_,rfl⟩;have A:Below w.heap.size w d:=by rw [ai];exact Zc _ _
 have q:Hid (d=w.alloc (bSt 4 nm n)∧d.heap[w.heap.size]?=some (bSt 4 nm n)∧Below w.heap.size w d∧w.heap.size<d.heap.size):=⟨ai,by rw [ai];exact Zd _ _ rfl,A,by rw [ai];simp⟩;have D:=I.nx L A;rw [E] at D;obtain ⟨R,U,V,X,Y,aa⟩:=ZS D;obtain ⟨N,O,b2,Q⟩:=Zaq q.out.2.1;clear h I E ai A D;go_enter Tryz.func90,Tryz.ntmps90
 go_upto_region 1 with fail
 rw [←q.out.1];go_wp2_with fail
 go_ret
 exact ⟨rfl,q.out.2.2.1⟩
theorem Zso (az:Nat) (nm:ByteArray) (n:Int) (S:Zh) (X:ZB) (F:Nat→Prop) (w:World) (h:DeskAt w az S X F) (aj:S.srv.length≤549755813888) :
  Calls Tryz.prog 90 #[.pointer (some ⟨az,0,none⟩),stA 5 nm n] w fun e m=>e=.returned (.bool (Z4 5 nm n S))∧Below w.heap.size w m:=by
 obtain ⟨ar,aq,so,sc,wo,wc,ay,ax,ap,ao,N⟩:=h.ex;have a1:az<w.heap.size:=h.lt az h.gp;obtain ⟨E,J⟩:∃ n,S.srv.length=n:=⟨_,rfl⟩;have HN:=Za J;obtain ⟨d,A⟩:∃ d,d=w.alloc (bSt 5 nm n):=⟨_,rfl⟩;have D:Below w.heap.size w d:=by rw [A];exact Zc _ _
 have I:Hid (d=w.alloc (bSt 5 nm n)∧d.heap[w.heap.size]?=some (bSt 5 nm n)∧Below w.heap.size w d∧w.heap.size<d.heap.size):=⟨A,by rw [A];exact Zd _ _ rfl,D,by rw [A];simp⟩;have L:=N.nx a1 D;have aa:Hid (RowAt w (.slice so E sc) E (Zv S.srv)):=by have:=Zf N.s.own;rw [J] at this;exact this
 rw [J] at L aj;obtain ⟨ad,ae,U,af,ag,ah⟩:=ZS L;obtain ⟨ab,R,b2,ac⟩:=Zaq I.out.2.1;have ai:az<d.heap.size:=Yl a1 D.size;have Y:w.heap.size<d.heap.size:=I.out.2.2.2;obtain ⟨O,M⟩:∃ q,S.srv.any (Zcg nm n)=q:=⟨_,rfl⟩;have HE:Hid (Z4 5 nm n S=!O):=by
  show _=_;unfold Z4;rw [M];rfl
 have HC:Hid (∀ u,Below d.heap.size d u→Calls Tryz.prog 140 #[.slice so E sc,.string nm,.int .i64 n] u fun e m=>e=.returned (.bool O)∧Below u.heap.size u m):=by
  intro u ak;rw [←M];exact ZoM so E sc nm n S.srv u ((aa.out.nx D).nx ak) HN.out (by unfold maxLen;omega)
 clear h N J A D L M;go_enter Tryz.func90,Tryz.ntmps90
 go_upto_region 1 with fail
 rw [←I.out.1];go_upto_region 9 with fail
 go_cut [4] (fun v am=>v=.bool (!O)∧∃ Q,Hid (Below d.heap.size d Q)∧Q=am)
 case first =>
  go_region_held3 (fun m=>m.cell? ⟨az,2,none⟩=some (.slice so E sc)∧m.cell? ⟨w.heap.size,1,none⟩=some (.string nm)∧m.cell? ⟨w.heap.size,2,none⟩=some (.int .i64 n)) (go_keep)
   ((go_at_call 140;refine (HC.out _ ((Yh _ _).drew)).mono ?_;rintro e al ⟨rfl,V⟩;have a0:Hid (Below d.heap.size d al):=Zb (Yh _ _).drew V;have au:=(a0.out.cell (p:=⟨az,2,none⟩) ai).trans U;have av:=(a0.out.cell (p:=⟨w.heap.size,1,none⟩) Y).trans R;have aw:=(a0.out.cell (p:=⟨w.heap.size,2,none⟩) Y).trans b2;clear V))
  all_goals
   go_wp2_with fail
   go_meet
   exact ⟨rfl,_,a0.out,rfl⟩
 case rest =>
  obtain ⟨rfl,Q,a0,rfl⟩:=hcut;clear ad ae U af ag ah ab R b2 ac;go_wp2_with fail
  go_ret
  exact ⟨by rw [HE.out];rfl,Zb I.out.2.2.1 a0.out⟩
theorem ZsE (m:Nat) (nm:ByteArray) (n:Int) (S:Zh) (J:ZB) (F:Nat→Prop) (w:World) (h:DeskAt w m S J F) (_hq:S.srv.length≤549755813888) :
  Calls Tryz.prog 90 #[.pointer (some ⟨m,0,none⟩),stA 6 nm n] w fun e M=>e=.returned (.bool (Z4 6 nm n S))∧Below w.heap.size w M:=by
 obtain ⟨af,ae,so,sc,wo,wc,ah,ag,ac,ab,I⟩:=h.ex;have L:m<w.heap.size:=h.lt m h.gp;obtain ⟨ad,E⟩:∃ n,S.srv.length=n:=⟨_,rfl⟩;obtain ⟨d,ai⟩:∃ d,d=w.alloc (bSt 6 nm n):=⟨_,rfl⟩;have A:Below w.heap.size w d:=by rw [ai];exact Zc _ _
 have q:Hid (d=w.alloc (bSt 6 nm n)∧d.heap[w.heap.size]?=some (bSt 6 nm n)∧Below w.heap.size w d∧w.heap.size<d.heap.size):=⟨ai,by rw [ai];exact Zd _ _ rfl,A,by rw [ai];simp⟩;have D:=I.nx L A;rw [E] at D;obtain ⟨R,U,V,X,Y,aa⟩:=ZS D;obtain ⟨N,O,b2,Q⟩:=Zaq q.out.2.1;clear h I E ai A D;go_enter Tryz.func90,Tryz.ntmps90
 go_upto_region 1 with fail
 rw [←q.out.1];go_wp2_with fail
 go_ret
 exact ⟨rfl,q.out.2.2.1⟩
theorem Zsu (m:Nat) (nm:ByteArray) (n:Int) (S:Zh) (J:ZB) (F:Nat→Prop) (w:World) (h:DeskAt w m S J F) (_hq:S.srv.length≤549755813888) :
  Calls Tryz.prog 90 #[.pointer (some ⟨m,0,none⟩),stA 7 nm n] w fun e M=>e=.returned (.bool (Z4 7 nm n S))∧Below w.heap.size w M:=by
 obtain ⟨af,ae,so,sc,wo,wc,ah,ag,ac,ab,I⟩:=h.ex;have L:m<w.heap.size:=h.lt m h.gp;obtain ⟨ad,E⟩:∃ n,S.srv.length=n:=⟨_,rfl⟩;obtain ⟨d,ai⟩:∃ d,d=w.alloc (bSt 7 nm n):=⟨_,rfl⟩;have A:Below w.heap.size w d:=by rw [ai];exact Zc _ _
 have q:Hid (d=w.alloc (bSt 7 nm n)∧d.heap[w.heap.size]?=some (bSt 7 nm n)∧Below w.heap.size w d∧w.heap.size<d.heap.size):=⟨ai,by rw [ai];exact Zd _ _ rfl,A,by rw [ai];simp⟩;have D:=I.nx L A;rw [E] at D;obtain ⟨R,U,V,X,Y,aa⟩:=ZS D;obtain ⟨N,O,b2,Q⟩:=Zaq q.out.2.1;clear h I E ai A D;go_enter Tryz.func90,Tryz.ntmps90
 go_upto_region 1 with fail
 rw [←q.out.1];go_wp2_with fail
 go_ret
 exact ⟨rfl,q.out.2.2.1⟩
theorem ZsR (m:Nat) (nm:ByteArray) (n:Int) (S:Zh) (J:ZB) (F:Nat→Prop) (w:World) (h:DeskAt w m S J F) (_hq:S.srv.length≤549755813888) :
  Calls Tryz.prog 90 #[.pointer (some ⟨m,0,none⟩),stA 8 nm n] w fun e M=>e=.returned (.bool (Z4 8 nm n S))∧Below w.heap.size w M:=by
 obtain ⟨af,ae,so,sc,wo,wc,ah,ag,ac,ab,I⟩:=h.ex;have L:m<w.heap.size:=h.lt m h.gp;obtain ⟨ad,E⟩:∃ n,S.srv.length=n:=⟨_,rfl⟩;obtain ⟨d,ai⟩:∃ d,d=w.alloc (bSt 8 nm n):=⟨_,rfl⟩;have A:Below w.heap.size w d:=by rw [ai];exact Zc _ _
 have q:Hid (d=w.alloc (bSt 8 nm n)∧d.heap[w.heap.size]?=some (bSt 8 nm n)∧Below w.heap.size w d∧w.heap.size<d.heap.size):=⟨ai,by rw [ai];exact Zd _ _ rfl,A,by rw [ai];simp⟩;have D:=I.nx L A;rw [E] at D;obtain ⟨R,U,V,X,Y,aa⟩:=ZS D;obtain ⟨N,O,b2,Q⟩:=Zaq q.out.2.1;clear h I E ai A D;go_enter Tryz.func90,Tryz.ntmps90
 go_upto_region 1 with fail
 rw [←q.out.1];go_wp2_with fail
 go_ret
 exact ⟨rfl,q.out.2.2.1⟩
theorem ZoT (d:Nat) (k:Int) (nm:ByteArray) (n:Int) (S:Zh) (J:ZB) (F:Nat→Prop) (w:World) (A:ZdY k) (h:DeskAt w d S J F) (m:S.srv.length≤549755813888) :
  Calls Tryz.prog 90 #[.pointer (some ⟨d,0,none⟩),stA k nm n] w fun e D=>e=.returned (.bool (Z4 k nm n S))∧Below w.heap.size w D:=by
 obtain ⟨E,I⟩:=A;have q:k=1∨k=2∨k=3∨k=4∨k=5∨k=6∨k=7∨k=8:=by omega
 rcases q with rfl | rfl | rfl | rfl | rfl | rfl | rfl | rfl
 ·exact ZsG d nm n S J F w h m
 ·exact Zs3 d nm n S J F w h m
 ·exact Zsy d nm n S J F w h m
 ·exact Zth d nm n S J F w h m
 ·exact Zso d nm n S J F w h m
 ·exact ZsE d nm n S J F w h m
 ·exact Zsu d nm n S J F w h m
 ·exact ZsR d nm n S J F w h m
theorem ZiH (k:Int) (nm:ByteArray) (n:Int) (S:Zh):Less (Z1 S (Zba k nm n S.bud S.pools)) (Z2 k nm n S):=by
 unfold Z2;simp only;split
 ·exact Zgn _ _ _
 ·split
  ·exact (ZeJ _ _ _).trans (Zgn _ _ _)
  ·split
   ·exact ZjB _ _
   ·split
    ·exact Zoc _ _ _
    ·split
     ·exact ZeJ _ _ _
     ·exact Less.refl _
theorem Zqh (k:Int) (nm:ByteArray) (n b:Int) (ps:List Pl):(Zba k nm n b ps).2.length≤ps.length+1:=by
 unfold Zba;split
 ·simp
 ·split
  ·have:=Yp (ZZ nm) ps;simp only;omega
  ·split
   ·rw [ZkU];exact Yd _
   ·split
    ·exact ZlD _ _ _ _
    ·simp
theorem ZqJ {k:Int} {nm:ByteArray} {n:Int} {S:Zh} {op:Int} (d:Ok S op) (h:S.pools.length≤1000):Ok (Z2 k nm n S) op:=by
 refine (ZiH k nm n S).ok ⟨⟨d.inv.ids,d.inv.low,d.inv.op0,d.inv.cli⟩,d.pot,?_⟩;have:=Zqh k nm n S.bud S.pools;show (Zba k nm n S.bud S.pools).2.length≤_;omega
def Zak (k:Int) (nm:ByteArray) (n:Int) (bg:Bool) (S:Zh) (op:Int):Zh×Int:=
 ZD (if bg=true then S else Z2 k nm n S).wts.length (if bg=true then S else Z2 k nm n S) op
theorem ZtZ (bc:Nat) (k:Int) (nm:ByteArray) (n:Int) (M:Bool) (S:Zh) (d:ZB) (F:Nat→Prop) (w:World) (X:ZdY k) (h:DeskAt w bc S d F) (ai:Ok S d.op) (aj:S.pools.length≤1000) (hN:0≤n∧n≤1000000) :
  Calls Tryz.prog 53 #[.pointer (some ⟨bc,0,none⟩),stA k nm n,.bool M] w fun e w'=>e=.returned (.bool (Z4 k nm n (Zak k nm n M S d.op).1))∧Moved w w' bc (Zak k nm n M S d.op).1 {d with op:=(Zak k nm n M S d.op).2} F:=by
 obtain ⟨m,Q⟩:∃ m,m=w.alloc (bSt k nm n):=⟨_,rfl⟩;have ah:Below w.heap.size w m:=by rw [Q];exact Zc _ _
 have A:Hid (m=w.alloc (bSt k nm n)∧m.heap[w.heap.size]?=some (bSt k nm n)∧Below w.heap.size w m∧w.heap.size<m.heap.size):=⟨Q,by rw [Q];exact Zd _ _ rfl,ah,by rw [Q];simp⟩;have am:Hid (DeskAt m bc S d F):=h.keep (G:=fun _=>False) (Chg.of_below ah) (fun _ _ h=>h);have ap:Hid (¬F w.heap.size):=fun a6=>by have:=h.lt _ a6;omega
 have al:=Za (Zoz bc k nm n S d F m X am.out ai aj hN);have ae:=Za ai;have az:=Za aj;have ax:=Za X;have aq:Hid (∀ (T:Zh) (G:Nat→Prop) (u:World),DeskAt u bc T d G→Ok T d.op→Calls Tryz.prog 89 #[.pointer (some ⟨bc,0,none⟩)] u fun e w'=>(∃ x,e=.returned x)∧Moved u w' bc (ZD T.wts.length T d.op).1 {d with op:=(ZD T.wts.length T d.op).2} G):=fun T G u hd X=>Zhe bc T d G u hd X
 have ao:Hid (∀ (T:Zh) (Z:ZB) (G:Nat→Prop) (u:World),DeskAt u bc T Z G→T.srv.length≤549755813888→Calls Tryz.prog 90 #[.pointer (some ⟨bc,0,none⟩),stA k nm n] u fun e w'=>e=.returned (.bool (Z4 k nm n T))∧Below u.heap.size u w'):=fun T Z G u hd a8=>ZoT bc k nm n T Z G u ax.out hd a8
 clear h ai aj hN Q ah X;cases M with
 | true =>
  have q:=Za (ae.out.serve S.wts.length);obtain ⟨⟨T,t⟩,D⟩:∃ y,ZD S.wts.length S d.op=y:=⟨_,rfl⟩;have HT:Hid (Zak k nm n true S d.op=(T,t)):=D;have I:=Za (aq.out S F m am.out ae.out);rw [D] at I q;simp only at I q;clear D;go_enter Tryz.func53,Tryz.ntmps53
  go_upto_region 1 with fail
  rw [←A.out.1];go_wp2_with fail
  refine I.out.mono ?_;rintro e ab ⟨⟨x,rfl⟩,Y⟩;have HM:=Za Y;obtain ⟨ac,V,ag,U⟩:=Y;have aa:ab.heap[w.heap.size]?=some (bSt k nm n):=(U.block _ A.out.2.2.2 ap.out).trans A.out.2.1;have HE:=Za (ao.out T _ ac ab V (by have a1:=q.out.inv.len;have O:=q.out.pot;unfold pot at O;simp only at O;omega));obtain ⟨J,L,b2,N⟩:=Zaq aa;clear V ag U aa;go_wp2_with fail
  refine HE.out.mono ?_;rintro e a9 ⟨rfl,R⟩;have KF:=Za (Moved.after A.out.2.2.1 (HM.out.below R));clear R J L b2 N;go_wp2_with fail
  go_ret
  rw [HT.out];exact ⟨rfl,KF.out⟩
 | false =>
  have ad:=Za (ZqJ (k:=k) (nm:=nm) (n:=n) ae.out az.out);obtain ⟨E,af⟩:∃ E,Z2 k nm n S=E:=⟨_,rfl⟩;rw [af] at al ad;have q:=Za (ad.out.serve E.wts.length);obtain ⟨⟨T,t⟩,D⟩:∃ y,ZD E.wts.length E d.op=y:=⟨_,rfl⟩;have HT:Hid (Zak k nm n false S d.op=(T,t)):=by
   show _=_;rw [←D,←af];rfl
  have a0:=Za D;rw [D] at q;simp only at q;clear D af;go_enter Tryz.func53,Tryz.ntmps53
  go_upto_region 1 with fail
  rw [←A.out.1];obtain ⟨J,L,b2,N⟩:=Zaq A.out.2.1;go_wp2_with fail
  refine al.out.mono ?_;rintro e w1 ⟨⟨x,rfl⟩,au⟩;obtain ⟨aw,ar,av⟩:=au.step;have ak:=aq.out E aw w1 ar ad.out;rw [a0.out] at ak;have I:=Za ak;have ay:=Za av;clear au ar av ak J L b2 N;simp only at I;go_wp2_with fail
  refine I.out.mono ?_;rintro e ab ⟨⟨x,rfl⟩,Y⟩;have HM:=Za (ay.out _ _ _ Y);have a7:=HM.out;obtain ⟨ac,V,ag,U⟩:=a7;have aa:ab.heap[w.heap.size]?=some (bSt k nm n):=(U.block _ A.out.2.2.2 ap.out).trans A.out.2.1;have HE:=Za (ao.out T _ ac ab V (by have a1:=q.out.inv.len;have O:=q.out.pot;unfold pot at O;simp only at O;omega));obtain ⟨J,L,b2,N⟩:=Zaq aa;clear Y V ag U aa;go_wp2_with fail
  refine HE.out.mono ?_;rintro e a9 ⟨rfl,R⟩;have KF:=Za (Moved.after A.out.2.2.1 (HM.out.below R));clear R J L b2 N;go_wp2_with fail
  go_ret
  rw [HT.out];exact ⟨rfl,KF.out⟩
def Zcn (pool:ByteArray) (all:Bool) (n:Int):Nat→List Srv→List Srv
 | 0,ss=>ss
 | f+1,ss=>if (if all=true then (ss.length:Int) else (Zs (Zj pool) ss:Int))≤n then ss else match ZbC (ZU pool all) ss with
  | none=>ss
  | some k=>Zcn pool all n f (ss.eraseIdx k)
def Zcy (pool:ByteArray) (far:Int) (idle:Bool) (x:Srv):Bool:=(x.pool.toList == pool.toList)&&(!(x.far == far)&&(x.client == 0||!idle))
def Zep (pool:ByteArray) (far:Int):Nat→List Srv→List Srv
 | 0,ss=>ss
 | f+1,ss=>match ss.findIdx? (Zcy pool far true) with
  | none=>ss
  | some k=>Zep pool far f (ss.eraseIdx k)
def Zdt (pool:ByteArray) (n:Int):Nat→List Wtr→List Wtr
 | 0,ws=>ws
 | f+1,ws=>if (Zs (Zq pool) ws:Int)≤n then ws else Zdt pool n f (ws.eraseIdx ((ZbC (Zq pool) ws).getD 0))
def Zeb (S:Zh) (pool:ByteArray) (all:Bool) (n:Int):Zh:={S with srv:=Zcn pool all n (S.srv.length+1) S.srv}
def Zjv (S:Zh) (pool:ByteArray) (far:Int):Zh:={S with srv:=Zep pool far (S.srv.length+1) S.srv}
def Zd9 (S:Zh) (pool:ByteArray) (n:Int):Zh:={S with wts:=Zdt pool n (S.wts.length+1) S.wts}
def Zcs (k:Int) (nm:ByteArray) (n:Int) (b:Int) (ps:List Pl):Int×List Pl:=
 if k=3∨k=7 then (n,ps) else if k=2 then (b,ps.filter (ZZ nm)) else if k=4 then (b,ZH ⟨nm,0,0,0⟩ ps)
 else match ps.findIdx? (Zl nm) with | none=>(b,ps) | some p=>(b,ps.modify p (ZdW k n))
def ZaR (k:Int) (nm:ByteArray) (n:Int) (S:Zh):Zh:=
 let S1:=Z1 S (Zcs k nm n S.bud S.pools)
 if k=1 then Zeb S1 nm false n
 else if k=2 then Zeb (Zd9 S1 nm 0) nm false 0
 else if k=3 then Zeb S1 ⟨#[]⟩ true n
 else if k=5 then Zjv S1 nm n
 else if k=6 then Zd9 S1 nm n
 else S1
theorem Zlo (h:ByteArray) (d:Bool) (n:Int):∀ (f:Nat) (ss:List Srv),(Zcn h d n f ss).length≤ss.length
 | 0,_=>Yd _
 | f+1,ss=>by
  rw [Zcn];by_cases m:(if d=true then (ss.length:Int) else (Zs (Zj h) ss:Int))≤n
  ·rw [if_pos m];exact Yd _
  ·rw [if_neg m];cases ZbC (ZU h d) ss with
   | none=>exact Yd _
   | some k=>exact Ym (Zlo h d n f _) (List.length_eraseIdx_le ss k)
theorem Znr (h:ByteArray) (d:Int):∀ (f:Nat) (ss:List Srv),(Zep h d f ss).length≤ss.length
 | 0,_=>Yd _
 | f+1,ss=>by
  rw [Zep];split
  ·exact Yd _
  ·rename_i k _
   exact Ym (Znr h d f _) (List.length_eraseIdx_le ss k)
theorem Zik (h:ByteArray) (n:Int):∀ (f:Nat) (d:List Wtr),(Zdt h n f d).length≤d.length
 | 0,_=>Yd _
 | f+1,d=>by
  rw [Zdt];split
  ·exact Yd _
  ·exact Ym (Zik h n f _) (List.length_eraseIdx_le d _)
theorem ZdI (k:Int) (nm:ByteArray) (n b:Int) (ps:List Pl):(Zcs k nm n b ps).2.length≤ps.length+1:=by
 unfold Zcs;split
 ·exact Nat.le_succ _
 ·split
  ·have:=Yp (ZZ nm) ps;simp only;omega
  ·split
   ·simp only [Zch];exact Yd _
   ·split
    ·exact Nat.le_succ _
    ·simp only [List.length_modify];exact Nat.le_succ _
theorem Zoa (k:Int) (nm:ByteArray) (n:Int) (S:Zh):(ZaR k nm n S).srv.length≤S.srv.length∧(ZaR k nm n S).wts.length≤S.wts.length∧(ZaR k nm n S).pools.length≤S.pools.length+1∧(ZaR k nm n S).plan=S.plan:=by
 have m:=fun h A n f=>Zlo h A n f S.srv
 have E:=fun h D f=>Znr h D f S.srv
 have q:=fun h n f=>Zik h n f S.wts
 have d:=ZdI k nm n S.bud S.pools;unfold ZaR Zeb Zjv Zd9 Z1;simp only;repeat' split
 ·exact ⟨m _ _ _ _,Yd _,d,rfl⟩
 ·exact ⟨m _ _ _ _,q _ _ _,d,rfl⟩
 ·exact ⟨m _ _ _ _,Yd _,d,rfl⟩
 ·exact ⟨E _ _ _,Yd _,d,rfl⟩
 ·exact ⟨Yd _,q _ _ _,d,rfl⟩
 ·exact ⟨Yd _,Yd _,d,rfl⟩
structure Zuh (w W:World) (o:Obj):Prop where
 eq:W=w.alloc o
 b0:W.heap[w.heap.size]?=some o
 bel:Below w.heap.size w W
theorem ZmZ (w:World) (o:Obj):∃ W,Hid (Zuh w W o):=⟨_,rfl,Zd _ _ rfl,Zc _ _⟩
theorem Ztv (S:Zh) (u:ZA) (nx:Int) (U:Int×List Pl) (aa:Option Addr) (Y:Nat) (m:ByteArray) (h:Bool) (w:World) (ab:RowAt w (.slice u.so S.srv.length u.sc) S.srv.length (Zv S.srv)) (d:S.srv.length≤549755813888) :
  Calls Tryz.prog 141 #[wdA S u nx U aa Y,.string m,.bool h] w fun e w'=>e=.returned (.int .i64 (Zay (ZbC (ZU m h) S.srv)))∧Below w.heap.size w w':=by
 obtain ⟨W,ar⟩:=ZmZ w (bW S u nx U aa Y);have O:=Za (ab.nx ar.out.bel);obtain ⟨n,J⟩:∃ n,S.srv.length=n:=⟨_,rfl⟩;obtain ⟨so,sc,ac⟩:∃ so sc,(Value.slice u.so S.srv.length u.sc)=.slice so n sc:=⟨_,_,by rw [J]⟩;have N:=Za ar.out.b0;unfold bW at N ar;unfold wdA;rw [ac] at N O ar ⊢;rw [J] at O d;have R:=Za J;clear ab ac J;go_enter Tryz.func141,Tryz.ntmps141
 go_wp2_with fail
 rw [←ar.out.eq];go_loopw [7,8] (fun q i wr=>∃ k:Nat,k≤n∧i=.int .i64 k∧q=.int .i64 (Zay (ZbC (ZU m h) (S.srv.take k)))∧Hid (Below W.heap.size W wr)) (fun _ i _=>n - (intOf i).toNat)
 case atStart=>exact ⟨0,Ye _,rfl,rfl,Yh _ _⟩
 case round =>
  obtain ⟨k,ao,rfl,rfl,E⟩:=hrel;obtain ⟨_,_,am,_⟩:=Zg (Zk N.out E.out);by_cases ah:k<n
  ·obtain ⟨⟨ad,M,ae,Q⟩,L⟩:∃ p,S.srv[k]?=some p:=⟨_,Yb (by rw [R.out];exact ah)⟩;obtain ⟨ak,off,ag,al,af,c1,c2,c3⟩:=ZbA (O.out.nx E.out) L;subst ag;simp only at af c1 c2 c3;have ap:(k:Int)<(n:Int):=by omega
   have I:=Za (Zb E.out (Zc wr (.cells #[.int .i64 ad,.string M,.int .i64 ae,.int .i64 Q] 86)));have A:=Zgz (p:=ZU m h) L;cases d:ZU m h ⟨ad,M,ae,Q⟩ with
   | true =>
    rw [d,if_pos rfl] at A;have D:=Za A;simp only [ZU,Bool.and_eq_true,Bool.or_eq_true] at d;obtain ⟨aq,ai⟩:=d;clear L A;cases h with
    | true =>
     go_wp2_with fail
     go_roundw
     case rel=>exact ⟨k+1,by omega,by go_num,by rw [D.out];rfl,I.out⟩
     case measure=>simp [intOf];omega
    | false =>
     have aj:(M.toList == m.toList)=true:=by simpa using ai
     go_wp2_with fail
     go_roundw
     case rel=>exact ⟨k+1,by omega,by go_num,by rw [D.out];rfl,I.out⟩
     case measure=>simp [intOf];omega
   | false =>
    rw [d,if_neg (by simp)] at A;have D:=Za A;clear L A;cases V:(Q == 0) with
    | false =>
     clear d;go_wp2_with fail
     go_roundw
     case rel=>exact ⟨k+1,by omega,by go_num,by rw [D.out],I.out⟩
     case measure=>simp [intOf];omega
    | true =>
     have X:h=false:=by cases h <;> simp [ZU,V] at d ⊢
     have aj:(M.toList == m.toList)=false:=by simpa [ZU,V,X] using d
     subst X;clear d;go_wp2_with fail
     go_roundw
     case rel=>exact ⟨k+1,by omega,by go_num,by rw [D.out],I.out⟩
     case measure=>simp [intOf];omega
  ·have HM:Hid (S.srv.take k=S.srv):=Yj (by rw [R.out];omega);go_wp2_with fail
   go_ret
   exact ⟨by rw [HM.out];rfl,Zb ar.out.bel E.out⟩
theorem ZlV (S:Zh) (u:ZA) (nx:Int) (Y:Int×List Pl) (ae:Option Addr) (ad:Nat) (A:ByteArray) (h:Int) (q:Bool) (w:World) (ag:RowAt w (.slice u.so S.srv.length u.sc) S.srv.length (Zv S.srv)) (d:S.srv.length≤549755813888) :
  Calls Tryz.prog 98 #[wdA S u nx Y ae ad,.string A,.int .i64 h,.bool q] w fun e w'=>e=.returned (.int .i64 (Zay (S.srv.findIdx? (Zcy A h q))))∧Below w.heap.size w w':=by
 obtain ⟨W,m⟩:=ZmZ w (bW S u nx Y ae ad);have U:=Za (ag.nx m.out.bel);obtain ⟨n,N⟩:∃ n,S.srv.length=n:=⟨_,rfl⟩;obtain ⟨so,sc,ah⟩:∃ so sc,(Value.slice u.so S.srv.length u.sc)=.slice so n sc:=⟨_,_,by rw [N]⟩;have Q:=Za m.out.b0;unfold bW at Q m;unfold wdA;rw [ah] at Q U m ⊢;rw [N] at U d;have HN:=Za N;clear ag ah N;go_enter Tryz.func98,Tryz.ntmps98
 go_wp2_with fail
 rw [←m.out.eq];go_loopw [9] (fun i wr=>∃ k:Nat,k≤n∧i=.int .i64 k∧Hid (∀ y∈S.srv.take k,Zcy A h q y=false)∧Hid (Below W.heap.size W wr)) (fun i _=>n - (intOf i).toNat)
 case atStart=>exact ⟨0,Ye _,rfl,by intro y ax;simp at ax,Yh _ _⟩
 case round =>
  obtain ⟨k,au,rfl,V,I⟩:=hrel;obtain ⟨_,_,ar,_⟩:=Zg (Zk Q.out I.out);by_cases al:k<n
  ·obtain ⟨⟨ai,aa,D,O⟩,E⟩:∃ p,S.srv[k]?=some p:=⟨_,Yb (by rw [HN.out];exact al)⟩;obtain ⟨ap,off,ak,aq,aj,c1,c2,c3⟩:=ZbA (U.out.nx I.out) E;subst ak;simp only at aj c1 c2 c3;have av:(k:Int)<(n:Int):=by omega
   have J:=Za (Zb I.out (Zc wr (.cells #[.int .i64 ai,.string aa,.int .i64 D,.int .i64 O] 86)));have ab:=Za (Zb m.out.bel J.out);cases d:Zcy A h q ⟨ai,aa,D,O⟩ with
   | true =>
    have HH:=Za (Zdv V.out E d);simp only [Zcy,Bool.and_eq_true,Bool.or_eq_true,Bool.not_eq_true'] at d;obtain ⟨aw,am,ao⟩:=d;have af:(D != h)=true:=by rw [bne,am];rfl
    clear E;cases M:(O == 0) with
    | true =>
     go_wp2_with fail
     go_ret
     exact ⟨by rw [HH.out];rfl,ab.out⟩
    | false =>
     have X:q=false:=by simpa [M] using ao
     subst X;go_wp2_with fail
     go_ret
     exact ⟨by rw [HH.out];rfl,ab.out⟩
   | false =>
    have R:=Za (Zbo V.out E d);clear E;cases ac:(aa.toList == A.toList) with
    | false =>
     clear d;go_wp2_with fail
     go_roundw
     case rel=>exact ⟨k+1,by omega,by go_num,R.out,J.out⟩
     case measure=>simp [intOf];omega
    | true =>
     cases L:(D == h) with
     | true =>
      have af:(D != h)=false:=by rw [bne,L];rfl
      clear d;go_wp2_with fail
      go_roundw
      case rel=>exact ⟨k+1,by omega,by go_num,R.out,J.out⟩
      case measure=>simp [intOf];omega
     | false =>
      have af:(D != h)=true:=by rw [bne,L];rfl
      cases M:(O == 0) with
      | true=>simp [Zcy,ac,L,M] at d
      | false =>
       have X:q=true:=by simpa [Zcy,ac,L,M] using d
       subst X;clear d;go_wp2_with fail
       go_roundw
       case rel=>exact ⟨k+1,by omega,by go_num,R.out,J.out⟩
       case measure=>simp [intOf];omega
  ·have HM:Hid (S.srv.findIdx? (Zcy A h q)=none):=ZcY (fun y ax=>V.out y (by rw [Yj (by rw [HN.out];omega)];exact ax));go_wp2_with fail
   go_ret
   exact ⟨by rw [HM.out];rfl,Zb m.out.bel I.out⟩
def Zug (a b:World):Prop:=a=b
theorem ZnL (B:Nat) (L:ByteArray) (A:Bool) (n:Int) (f:Nat):∀ (S:Zh) (u:ZA) (nx:Int) (d:Int×List Pl) (E:Option Addr) (D:Nat) (w:World),B≤w.heap.size→OwnW B w S u d E D→Sml S d→S.srv.length<f →
  Calls Tryz.prog 92 #[wdA S u nx d E D,.string L,.bool A,.int .i64 n] w fun e w'=>GaveS B w w' {S with srv:=Zcn L A n f S.srv} nx d e:=by
 induction f with
 | zero=>intro S u nx d E D w _ _ _ h;omega
 | succ f ih =>
  intro S u nx d E D w hB hO az bt;obtain ⟨W,m⟩:=Zbc w (bW S u nx d E D);have HO:=Za (hO.nx m.out.bel);have HM:=Za az;have IH:=Za ih;have hW:w.heap.size≤W.heap.size:=m.out.bel.size;have HC:=Za (Zjm S.bud u.po S.pools.length u.pc u.so S.srv.length u.sc u.wo S.wts.length u.wc u.tqo S.plan.length u.tc S.begun S.back nx d.1 E d.2.length D L S.srv W (Zf HO.out.s) rfl (by have:=az.s;unfold maxLen;omega));have HL:=Za (fun v (hb:Below W.heap.size W v)=>Ztv S u nx d E D L A v (Zf (HO.out.nx hb).s) az.s);have bk:=Za (fun v k (hb:Below W.heap.size W v)=>ZfR S u nx d E D v k (HO.out.nx hb).rows az);clear hO ih az;unfold wdA;go_enter Tryz.func92,Tryz.ntmps92
  go_wp2_with fail
  rw [←m.out.eq];refine HC.out.mono ?_;rintro e w1 ⟨rfl,a9⟩;have X:=Za a9;clear a9;obtain ⟨M,N,a2,a3,a4,a5,O,Q,b6,b7,V⟩:=Zg (Zk m.out.b0 X.out);obtain ⟨aa,ab,ac,ad,ae,af,ag,ah,ai,aj,ak⟩:=Zg (Zk m.out.b1 X.out);by_cases am:(if A=true then (S.srv.length:Int) else (Zs (Zj L) S.srv:Int))≤n
  ·have HT:Hid ({S with srv:=Zcn L A n (f+1) S.srv}=S):=by show _=_;rw [Zcn,if_pos am]
   cases A;all_goals
    simp only [Bool.false_eq_true,if_false,if_true] at am;go_wp2_with fail
    refine (HL.out w1 X.out).mono ?_;rintro e a0 ⟨rfl,Y⟩;have bz:=Za (Zb X.out Y);clear Y M N a2 a3 a4 a5 O Q b6 b7 V aa ab ac ad ae af ag ah ai aj ak;obtain ⟨M,N,a2,a3,a4,a5,O,Q,b6,b7,V⟩:=Zg (Zk m.out.b0 bz.out);obtain ⟨aa,ab,ac,ad,ae,af,ag,ah,ai,aj,ak⟩:=Zg (Zk m.out.b1 bz.out);go_wp2_with fail
    obtain ⟨FW,J,I⟩:=ZaL m.out bz.out (HO.out.nx bz.out) (nx);unfold stS ZK at J;rw [J];obtain ⟨ao,ap,f2,aq,ar,au,av,aw,ax,ay,a8⟩:=Zg I.out.1;clear J;refine bodyPost_ret (v:=wdA S u nx d E D) (by simp [results,Tryz.results92,go_sem,ao,ap,f2,aq,ar,au,av,aw,ax,ay]) rfl ?_;rw [HT.out];exact ⟨u,E,D,rfl,I.out.2.2,I.out.2.1⟩
  ·cases al:ZbC (ZU L A) S.srv with
   | none =>
    have HT:Hid ({S with srv:=Zcn L A n (f+1) S.srv}=S):=by show _=_;rw [Zcn,if_neg am,al]
    rw [al] at HL;clear al;unfold Zay at HL;cases A;all_goals
     simp only [Bool.false_eq_true,if_false,if_true] at am;go_wp2_with fail
     refine (HL.out w1 X.out).mono ?_;rintro e a0 ⟨rfl,Y⟩;have bz:=Za (Zb X.out Y);clear Y M N a2 a3 a4 a5 O Q b6 b7 V aa ab ac ad ae af ag ah ai aj ak;obtain ⟨M,N,a2,a3,a4,a5,O,Q,b6,b7,V⟩:=Zg (Zk m.out.b0 bz.out);obtain ⟨aa,ab,ac,ad,ae,af,ag,ah,ai,aj,ak⟩:=Zg (Zk m.out.b1 bz.out);go_wp2_with fail
     obtain ⟨FW,J,I⟩:=ZaL m.out bz.out (HO.out.nx bz.out) (nx);unfold stS ZK at J;rw [J];obtain ⟨ao,ap,f2,aq,ar,au,av,aw,ax,ay,a8⟩:=Zg I.out.1;clear J;refine bodyPost_ret (v:=wdA S u nx d E D) (by simp [results,Tryz.results92,go_sem,ao,ap,f2,aq,ar,au,av,aw,ax,ay]) rfl ?_;rw [HT.out];exact ⟨u,E,D,rfl,I.out.2.2,I.out.2.1⟩
   | some k =>
    have bf:=Zl7 al;obtain ⟨T,hT⟩:∃ T,Zaa S k=T:=⟨_,rfl⟩;have bu:T.srv.length+1=S.srv.length:=by
     rw [←hT];show (S.srv.eraseIdx k).length+1=_;rw [List.length_eraseIdx_of_lt bf];omega
    have bl:Hid (Sml T d):=by
     rw [←hT];refine ⟨HM.out.p,?_,HM.out.q,HM.out.t,HM.out.h⟩;have:=HM.out.s;show (S.srv.eraseIdx k).length≤_;rw [List.length_eraseIdx_of_lt bf];omega
    obtain ⟨R,hR⟩:∃ R,{S with srv:=Zcn L A n (f+1) S.srv}=R:=⟨_,rfl⟩;have HR:Hid ({T with srv:=Zcn L A n f T.srv}=R):=by
     show _=_;rw [←hR,Zcn,if_neg am,al,←hT];rfl
    have bo:=Za hR;rw [al] at HL;have bv:¬(k:Int)<0:=by omega
    clear al hR;unfold Zay at HL;have a7:=Za (fun v (hb:Below W.heap.size W v)=>bk.out v k hb);rw [hT] at a7;clear hT;cases A;all_goals
     simp only [Bool.false_eq_true,if_false,if_true] at am;go_wp2_with fail
     refine (HL.out w1 X.out).mono ?_;rintro e a0 ⟨rfl,Y⟩;have bz:=Za (Zb X.out Y);clear Y M N a2 a3 a4 a5 O Q b6 b7 V aa ab ac ad ae af ag ah ai aj ak;obtain ⟨M,N,a2,a3,a4,a5,O,Q,b6,b7,V⟩:=Zg (Zk m.out.b0 bz.out);obtain ⟨aa,ab,ac,ad,ae,af,ag,ah,ai,aj,ak⟩:=Zg (Zk m.out.b1 bz.out);go_wp2_with fail
     refine (a7.out a0 bz.out).mono ?_;rintro e bw ⟨br,bq,bp,rfl,bh,bc⟩;obtain ⟨U,hU,HU⟩:=ZbY bh nx;have a1:=Za (Zb bz.out (Zb bc HU.out.2.2.1));have bs:=a1.out.size;have HI:=Za (IH.out T br nx d bq bp U (by omega) (HU.out.2.2.2.mono (by have:=bz.out.size;omega)) bl.out (by omega));clear hU bh bc M N a2 a3 a4 a5 O Q b6 b7 V aa ab ac ad ae af ag ah ai aj ak;go_upto_region 8 with fail
     rw [←HU.out.1];obtain ⟨M,N,a2,a3,a4,a5,O,Q,b6,b7,V⟩:=Zg HU.out.2.1;go_wp2_with fail
     refine HI.out.mono ?_;rw [HR.out];rintro e bx ⟨bj,bg,be,rfl,bi,bd⟩;have a6:=Za (Zb a1.out bd);have bm:=Za bi;clear bi bd M N a2 a3 a4 a5 O Q b6 b7 V;obtain ⟨aa,ab,ac,ad,ae,af,ag,ah,ai,aj,ak⟩:=Zg (Zk m.out.b1 a6.out);go_wp2_with fail
     obtain ⟨FW,J,I⟩:=ZaL m.out a6.out bm.out (nx);unfold stS ZK at J;rw [J];obtain ⟨ao,ap,f2,aq,ar,au,av,aw,ax,ay,a8⟩:=Zg I.out.1;clear J;refine bodyPost_ret (v:=wdA R bj nx d bg be) (by simp [results,Tryz.results92,go_sem,ao,ap,f2,aq,ar,au,av,aw,ax,ay]) rfl ?_;rw [bo.out];exact ⟨bj,bg,be,rfl,I.out.2.2,I.out.2.1⟩
theorem Ztw (B:Nat) (L:ByteArray) (I:Int) (f:Nat):∀ (S:Zh) (u:ZA) (nx:Int) (d:Int×List Pl) (m:Option Addr) (b8:Nat) (w:World),B≤w.heap.size→OwnW B w S u d m b8→Sml S d→S.srv.length<f →
  Calls Tryz.prog 94 #[wdA S u nx d m b8,.string L,.int .i64 I] w fun e w'=>GaveS B w w' {S with srv:=Zep L I f S.srv} nx d e:=by
 induction f with
 | zero=>intro S u nx d m b8 w _ _ _ h;omega
 | succ f ih =>
  intro S u nx d m b8 w hB hO b9 bw;obtain ⟨W,A⟩:=Zbc w (bW S u nx d m b8);have V:=Za (hO.nx A.out.bel);have M:=Za b9;have IH:=Za ih;have hW:w.heap.size≤W.heap.size:=A.out.bel.size;have HL:=Za (fun v (hb:Below W.heap.size W v)=>ZlV S u nx d m b8 L I true v (Zf (V.out.nx hb).s) b9.s);have bl:=Za (fun v k (hb:Below W.heap.size W v)=>ZfR S u nx d m b8 v k (V.out.nx hb).rows b9);clear hO ih b9;unfold wdA;go_enter Tryz.func94,Tryz.ntmps94
  go_wp2_with fail
  rw [←A.out.eq];refine (HL.out W (Yh _ W)).mono ?_;rintro e bu ⟨rfl,au⟩;have D:=Za au;clear au;obtain ⟨X,Y,a2,a3,a4,a5,aa,ab,ac,ad,ae⟩:=Zg (Zk A.out.b0 D.out);obtain ⟨a7,a8,a9,bc,bd,be,bf,bg,bh,bi,bj⟩:=Zg (Zk A.out.b1 D.out);cases O:S.srv.findIdx? (Zcy L I true) with
  | none =>
   have HT:Hid ({S with srv:=Zep L I (f+1) S.srv}=S):=by show _=_;rw [Zep,O]
   clear O;unfold Zay;go_wp2_with fail
   obtain ⟨FW,J,E⟩:=ZaL A.out D.out (V.out.nx D.out) (nx);unfold stS ZK at J;rw [J];obtain ⟨af,ag,f2,ah,ai,aj,ak,al,am,ao,bq⟩:=Zg E.out.1;clear J;refine bodyPost_ret (v:=wdA S u nx d m b8) (by simp [results,Tryz.results94,go_sem,af,ag,f2,ah,ai,aj,ak,al,am,ao]) rfl ?_;rw [HT.out];exact ⟨u,m,b8,rfl,E.out.2.2,E.out.2.1⟩
  | some k =>
   obtain ⟨y,a0,_⟩:=ZbH O;have ay:=(Yc.1 a0).1;obtain ⟨T,N⟩:∃ T,Zaa S k=T:=⟨_,rfl⟩;have bx:T.srv.length+1=S.srv.length:=by
    rw [←N];show (S.srv.eraseIdx k).length+1=_;rw [List.length_eraseIdx_of_lt ay];omega
   have bm:Hid (Sml T d):=by
    rw [←N];refine ⟨M.out.p,?_,M.out.q,M.out.t,M.out.h⟩;have:=M.out.s;show (S.srv.eraseIdx k).length≤_;rw [List.length_eraseIdx_of_lt ay];omega
   obtain ⟨R,hR⟩:∃ R,{S with srv:=Zep L I (f+1) S.srv}=R:=⟨_,rfl⟩;have HR:Hid ({T with srv:=Zep L I f T.srv}=R):=by
    show _=_;rw [←hR,Zep,O,←N];rfl
   have bp:=Za hR;have bz:¬(k:Int)<0:=by omega
   clear O hR a0;unfold Zay;have ar:=Za (fun v (hb:Below W.heap.size W v)=>bl.out v k hb);rw [N] at ar;clear N;go_wp2_with fail
   refine (ar.out bu D.out).mono ?_;rintro e b6 ⟨bt,bs,br,rfl,a1,av⟩;obtain ⟨U,hU,Q⟩:=ZbY a1 nx;have ap:=Za (Zb D.out (Zb av Q.out.2.2.1));have bv:=ap.out.size;have HI:=Za (IH.out T bt nx d bs br U (by omega) (Q.out.2.2.2.mono (by have:=D.out.size;omega)) bm.out (by omega));clear hU a1 av X Y a2 a3 a4 a5 aa ab ac ad ae a7 a8 a9 bc bd be bf bg bh bi bj;go_upto_region 5 with fail
   rw [←Q.out.1];obtain ⟨X,Y,a2,a3,a4,a5,aa,ab,ac,ad,ae⟩:=Zg Q.out.2.1;go_wp2_with fail
   refine HI.out.mono ?_;rw [HR.out];rintro e b7 ⟨bk,az,ax,rfl,a6,aw⟩;have aq:=Za (Zb ap.out aw);have bo:=Za a6;clear a6 aw X Y a2 a3 a4 a5 aa ab ac ad ae;obtain ⟨a7,a8,a9,bc,bd,be,bf,bg,bh,bi,bj⟩:=Zg (Zk A.out.b1 aq.out);go_wp2_with fail
   obtain ⟨FW,J,E⟩:=ZaL A.out aq.out bo.out (nx);unfold stS ZK at J;rw [J];obtain ⟨af,ag,f2,ah,ai,aj,ak,al,am,ao,bq⟩:=Zg E.out.1;clear J;refine bodyPost_ret (v:=wdA R bk nx d az ax) (by simp [results,Tryz.results94,go_sem,af,ag,f2,ah,ai,aj,ak,al,am,ao]) rfl ?_;rw [bp.out];exact ⟨bk,az,ax,rfl,E.out.2.2,E.out.2.1⟩
theorem ZqX (B:Nat) (d:ByteArray) (n:Int) (cq:0≤n) (f:Nat):∀ (S:Zh) (u:ZA) (nx:Int) (ct:Int×List Pl) (A:Option Addr) (cv:Nat) (w:World),B≤w.heap.size→OwnW B w S u ct A cv→Sml S ct→S.wts.length<f →
  Calls Tryz.prog 95 #[wdA S u nx ct A cv,.string d,.int .i64 n] w fun e w'=>GaveS B w w' {S with wts:=Zdt d n f S.wts} nx ct e:=by
 induction f with
 | zero=>intro S u nx ct A cv w _ _ _ h;omega
 | succ f ih =>
  intro S u nx ct A cv w hB hO V ck;obtain ⟨W,cu⟩:=Zbc w (bW S u nx ct A cv);have Q:=Za (hO.nx cu.out.bel);have J:=Za V;have IH:=Za ih;have hW:w.heap.size≤W.heap.size:=cu.out.bel.size;have HC:=Za (Zmg S.bud u.po S.pools.length u.pc u.so S.srv.length u.sc u.wo S.wts.length u.wc u.tqo S.plan.length u.tc S.begun S.back nx ct.1 A ct.2.length cv d S.wts W (Zf Q.out.q) rfl (by have:=V.q;unfold maxLen;omega));have bx:=Za (fun v k (hb:Below W.heap.size W v)=>ZnG S u nx ct A cv v k (Q.out.nx hb).rows V);clear hO ih V;unfold wdA;go_enter Tryz.func95,Tryz.ntmps95
  go_wp2_with fail
  rw [←cu.out.eq];refine HC.out.mono ?_;rintro e w1 ⟨rfl,a6⟩;have D:=Za a6;clear a6;obtain ⟨ac,ad,a2,a3,a4,a5,ae,af,ag,ah,ai⟩:=Zg (Zk cu.out.b0 D.out);obtain ⟨bj,bk,cy,bm,bo,bp,bq,br,bs,bt,bu⟩:=Zg (Zk cu.out.b1 D.out);by_cases bd:(Zs (Zq d) S.wts:Int)≤n
  ·have cw:Hid ({S with wts:=Zdt d n (f+1) S.wts}=S):=by show _=_;rw [Zdt,if_pos bd]
   go_wp2_with fail
   obtain ⟨FW,I,E⟩:=ZaL cu.out D.out (Q.out.nx D.out) (nx);unfold stS ZK at I;rw [I];obtain ⟨aj,ak,f2,al,am,ao,ap,aq,ar,au,cb⟩:=Zg E.out.1;clear I;refine bodyPost_ret (v:=wdA S u nx ct A cv) (by simp [results,Tryz.results95,go_sem,aj,ak,f2,al,am,ao,ap,aq,ar,au]) rfl ?_;rw [cw.out];exact ⟨u,A,cv,rfl,E.out.2.2,E.out.2.1⟩
  ·obtain ⟨k,L⟩:∃ k,ZbC (Zq d) S.wts=some k:=by
    cases L:ZbC (Zq d) S.wts with
    | some k=>exact ⟨k,rfl⟩
    | none =>
     have cc:=List.getLast?_eq_none_iff.1 (Zez L);have:Zs (Zq d) S.wts=0:=by unfold Zs;rw [cc];rfl
     omega
   have bc:=Zl7 L;obtain ⟨T,N⟩:∃ T,Zbp S k=T:=⟨_,rfl⟩;have cm:T.wts.length+1=S.wts.length:=by
    rw [←N];show (S.wts.eraseIdx k).length+1=_;rw [List.length_eraseIdx_of_lt bc];omega
   have b6:Hid (Sml T ct):=by
    rw [←N];refine ⟨J.out.p,J.out.s,?_,J.out.t,J.out.h⟩;have:=J.out.q;show (S.wts.eraseIdx k).length≤_;rw [List.length_eraseIdx_of_lt bc];omega
   obtain ⟨R,hR⟩:∃ R,{S with wts:=Zdt d n (f+1) S.wts}=R:=⟨_,rfl⟩;have HR:Hid ({T with wts:=Zdt d n f T.wts}=R):=by
    show _=_;rw [←hR,Zdt,if_neg bd,L,←N];rfl
   have b8:=Za hR;have bz:=Za L;clear L hR;have a0:=Za (fun v (hb:Below W.heap.size W v)=>bx.out v k hb);rw [N] at a0;have a1:=Za (Zf (Q.out.nx D.out).q);have HX:=Za (Zk cu.out.b0 D.out);clear N;obtain ⟨m,X⟩:∃ m,S.wts.length=m:=⟨_,rfl⟩;have aa:=Za X;have cp:m≤549755813888:=by rw [←X];exact J.out.q
   rw [X] at a3 a1;clear X;go_wp2_with fail
   go_loopw [8,9] (fun q i wr=>∃ (j:Nat) (v:Nat),j≤m∧v≤m∧i=.int .i64 j∧q=.int .i64 v∧Hid ((ZbC (Zq d) (S.wts.take j)).getD 0=v)∧Hid (Zug wr w1)) (fun _ i _=>m - (intOf i).toNat)
   case atStart=>exact ⟨0,0,Ye _,Ye _,rfl,rfl,rfl,rfl⟩
   case round =>
    obtain ⟨j,v,cl,cf,rfl,rfl,cw,b9⟩:=hrel;obtain rfl:w1=wr:=b9.out.symm;by_cases be:j<m
    ·obtain ⟨⟨bw,aw⟩,Y⟩:∃ p,S.wts[j]?=some p:=⟨_,Yb (by rw [aa.out];exact be)⟩;obtain ⟨bl,off,av,cj,ca,c1⟩:=Zdd a1.out Y;rw [av] at a3;simp only at ca c1;have co:(j:Int)<(m:Int):=by omega
     have M:=Zgz (p:=Zq d) Y;cases bg:(aw.toList == d.toList) with
     | true =>
      have O:Zq d ⟨bw,aw⟩=true:=bg;rw [O,if_pos rfl] at M;have ab:=Za M;clear Y M O av;go_wp2_with fail
      go_roundw
      case rel=>exact ⟨j+1,j,by omega,by omega,by go_num,rfl,by rw [ab.out];rfl,rfl⟩
      case measure=>simp [intOf];omega
     | false =>
      have O:Zq d ⟨bw,aw⟩=false:=bg;rw [O,if_neg (by simp)] at M;have ab:=Za M;clear Y M O av;go_wp2_with fail
      go_roundw
      case rel=>exact ⟨j+1,v,by omega,cf,by go_num,rfl,by rw [ab.out];exact cw.out,rfl⟩
      case measure=>simp [intOf];omega
    ·have cg:v=k:=by
      have h:=cw.out;rw [Yj (by rw [aa.out];omega),bz.out] at h;exact h.symm
     subst cg;have ax:=D;rw [←aa.out] at a3 be;go_wp2_with fail
     refine (a0.out w1 D.out).mono ?_;rintro e cr ⟨ch,ce,cd,rfl,bh,a7⟩;obtain ⟨U,hU,cx⟩:=ZbY bh nx;have ay:=Za (Zb ax.out (Zb a7 cx.out.2.2.1));have ci:=ay.out.size;have HI:=Za (IH.out T ch nx ct ce cd U (by omega) (cx.out.2.2.2.mono (by have:=ax.out.size;omega)) b6.out (by omega));clear hU bh a7 ac ad a2 a3 a4 a5 ae af ag ah ai bj bk cy bm bo bp bq br bs bt bu;go_upto_region 11 with fail
     rw [←cx.out.1];obtain ⟨ac,ad,a2,a3,a4,a5,ae,af,ag,ah,ai⟩:=Zg cx.out.2.1;go_wp2_with fail
     refine HI.out.mono ?_;rw [HR.out];rintro e cs ⟨bv,bf,a9,rfl,bi,a8⟩;have az:=Za (Zb ay.out a8);have b7:=Za bi;clear bi a8 ac ad a2 a3 a4 a5 ae af ag ah ai;obtain ⟨bj,bk,cy,bm,bo,bp,bq,br,bs,bt,bu⟩:=Zg (Zk cu.out.b1 az.out);go_wp2_with fail
     obtain ⟨FW,I,E⟩:=ZaL cu.out az.out b7.out (nx);unfold stS ZK at I;rw [I];obtain ⟨aj,ak,f2,al,am,ao,ap,aq,ar,au,cb⟩:=Zg E.out.1;clear I;refine bodyPost_ret (v:=wdA R bv nx ct bf a9) (by simp [results,Tryz.results95,go_sem,aj,ak,f2,al,am,ao,ap,aq,ar,au]) rfl ?_;rw [b8.out];exact ⟨bv,bf,a9,rfl,E.out.2.2,E.out.2.1⟩
end Lw
end Go.Proofs.YtmgkcbdlfodjmaaGreatDoor
