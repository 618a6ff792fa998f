import Derived.Test.YtmgkcbdlfodjmaaGreatDoorBqZ
set_option maxRecDepth 100000
set_option maxHeartbeats 16000000
namespace Go.Proofs.YtmgkcbdlfodjmaaGreatDoor
open Go.RowKit
namespace Lw
open Co
def Zba (k:Int) (nm:ByteArray) (n:Int) (b:Int) (ps:List Pl):Int×List Pl:=
 if k=3∨k=7 then (n,ps) else if k=2 then (b,ps.filter (ZZ nm)) else if k=4 then (b,ZH ⟨nm,0,0,0⟩ ps) else if k=1∨k=5∨k=6∨k=8 then (b,Zbr k nm n ps) else (b,ps)
def Zf3 (T:Int×List Pl) (w w':World) (e:Ending):Prop:=
 ∃ vo vc,e=.returned (.agg #[.int .i64 T.1,.slice vo T.2.length vc])∧w'.ownsRow w.heap.size 82 4 (.slice vo T.2.length vc) T.2.length (Ze T.2)∧Below w.heap.size w w'
theorem ZkU (x:Pl) (ps:List Pl):(ZH x ps).length=ps.length+1:=Zch x ps
theorem ZlD (k:Int) (nm:ByteArray) (n:Int) (ps:List Pl):(Zbr k nm n ps).length≤ps.length+1:=by
 unfold Zbr;rw [Zch];have:=Yp (ZZ nm) ps;omega
theorem Zk7 {k:Int} (R:k=1∨k=5∨k=6∨k=8) (b:Int) (so:Option Addr) (A sc:Nat) (nm:ByteArray) (n:Int) (ps:List Pl) (w:World) (ad:w.ownsRow 0 82 4 (.slice so A sc) A (Ze ps)) (ab:ps.length=A) (a0:A≤1000) :
  Calls Tryz.prog 133 #[.agg #[.int .i64 b,.slice so A sc],stA k nm n] w fun e w'=>Zf3 (Zba k nm n b ps) w w' e:=by
 obtain ⟨qs,V⟩:∃ qs,Zbr k nm n ps=qs:=⟨_,rfl⟩;have HT:Hid (Zba k nm n b ps=(b,qs)):=by
  rw [←V];show _=_;unfold Zba;rcases R with rfl | rfl | rfl | rfl <;> simp
 have aq:Hid (qs.length≤ps.length+1):=by rw [←V];exact ZlD k nm n ps
 obtain ⟨d,E⟩:∃ d,d=((w.alloc (Zi b (.slice so A sc))).alloc (bSt k nm n)).alloc (Zi 0 (.slice none 0 0)):=⟨_,rfl⟩;have Y:Below w.heap.size w d:=by rw [E];exact Zb (Zb (Zc _ _) (Zc _ _)) (Zc _ _)
 have q:Hid (d=((w.alloc (Zi b (.slice so A sc))).alloc (bSt k nm n)).alloc (Zi 0 (.slice none 0 0))∧d.heap[w.heap.size]?=some (Zi b (.slice so A sc))∧d.heap[w.heap.size+1]?=some (bSt k nm n)∧d.heap[w.heap.size+2]?=some (Zi 0 (.slice none 0 0))∧Below w.heap.size w d∧w.heap.size+3=d.heap.size):=by
  refine ⟨E,?_,?_,?_,Y,by rw [E];simp⟩
  ·rw [E];exact (Zn _ _ (by simp;omega)).trans ((Zn _ _ (by simp)).trans (Zd _ _ rfl))
  ·rw [E];exact (Zn _ _ (by simp)).trans (Zd _ _ (by simp))
  ·rw [E];exact Zd _ _ (by simp)
 have HO:=Za ad;have ap:=Za ab;have ai:=Za (Zmv R so A sc nm n ps d ((Zf ad).nx Y) ab (by omega));rw [V] at ai;have HK:=Za R;rw [HT.out];clear ad ab E Y R V HT;go_enter Tryz.func133,Tryz.ntmps133
 go_upto_region 1 with fail
 rw [←q.out.1];obtain ⟨L,M,N⟩:=Zw q.out.2.1;obtain ⟨ar,au,b2,av⟩:=Zaq q.out.2.2.1;obtain h:=HK.out;clear HK;rcases h with rfl | rfl | rfl | rfl
 all_goals
  go_wp2_with fail
  refine ai.out.mono ?_;rintro e w1 ⟨Q,vc,rfl,ac,O⟩;obtain ⟨a6,U⟩:∃ a6,qs.length=a6:=⟨_,rfl⟩;rw [U] at ac ⊢;have X:=Za U;have az:a6≤1001:=by
   rw [←U];have:=ap.out;have ay:=aq.out;omega
  have ae:w1.heap[w.heap.size]?=some (Zi b (.slice so A sc)):=(O.block _ (by have:=q.out.2.2.2.2.2;omega)).trans q.out.2.1;have al:w1.heap[w.heap.size+2]?=some (Zi 0 (.slice none 0 0)):=(O.block _ (by have:=q.out.2.2.2.2.2;omega)).trans q.out.2.2.2.1;obtain ⟨m,I⟩:∃ m,m=w1.setCell ⟨w.heap.size,1,none⟩ (.slice Q a6 vc):=⟨_,rfl⟩;have D:Hid (m=w1.setCell ⟨w.heap.size,1,none⟩ (.slice Q a6 vc)∧m.heap[w.heap.size]?=some (Zi b (.slice Q a6 vc))∧m.heap[w.heap.size+2]?=some (Zi 0 (.slice none 0 0))∧Below w.heap.size w m∧w.heap.size+3≤m.heap.size∧m.ownsRow d.heap.size 82 4 (.slice Q a6 vc) a6 (Ze qs)):=
   ⟨I,by rw [I];exact Zm _ _ _ _ _ _ ae,by rw [I];exact (Yf _ _ _ _ (by show w.heap.size+2≠w.heap.size;omega)).trans al,by rw [I];exact (Zb q.out.2.2.2.2.1 O).setCell (Yd _) _,by rw [I];simp;have:=q.out.2.2.2.2.2;have:=O.size;omega,by rw [I];exact Yi ac (by show w.heap.size<d.heap.size;have:=q.out.2.2.2.2.2;omega) _⟩
  have ao:=Za (ZcI b qs Q a6 vc m (Zf D.out.2.2.2.2.2) (ZaO D.out.2.2.2.2.2) X.out (by omega));clear L M N ar au b2 av ac U;obtain ⟨L,M,N⟩:=Zw ae;clear O ae al I;go_upto_region 14 with fail
  rw [←D.out.1];clear L M N;obtain ⟨L,M,N⟩:=Zw D.out.2.1;go_wp2_with fail
  refine ao.out.mono ?_;rintro e ah ⟨ag,af,rfl,ak,aa⟩;have am:ah.heap[w.heap.size+2]?=some (Zi 0 (.slice none 0 0)):=(aa.block _ (Ya.1 D.out.2.2.1).1).trans D.out.2.2.1;obtain ⟨aw,ax,a1⟩:=Zw am;have J:Hid (ah.ownsRow m.heap.size 82 4 (.slice ag a6 af) a6 (Ze qs)∧Below w.heap.size w ah∧w.heap.size+3≤m.heap.size):=⟨ak,Zb D.out.2.2.2.1 aa,D.out.2.2.2.2.1⟩;clear ak aa am L M N;go_wp2_with fail
  refine bodyPost_ret (v:=.agg #[.int .i64 b,.slice ag a6 af]) (by simp [results,Tryz.results133,go_sem,aw,ax]) rfl ?_;refine ⟨ag,af,?_,?_,?_⟩
  ·simp only [X.out]
  ·simp only [X.out];exact Zr (Yi (Yi J.out.1 (by show w.heap.size+2<_;have:=J.out.2.2;omega) _) (by show w.heap.size+2<_;have:=J.out.2.2;omega) _) (by have:=J.out.2.2;omega)
  ·have aj:w.heap.size≤w.heap.size+2:=by omega
   exact (J.out.2.1.setCell aj _).setCell aj _
theorem ZtW (b:Int) (so:Option Addr) (A sc:Nat) (nm:ByteArray) (n:Int) (ps:List Pl) (w:World) (ab:w.ownsRow 0 82 4 (.slice so A sc) A (Ze ps)) (Y:ps.length=A) (ax:A≤1000) :
  Calls Tryz.prog 133 #[.agg #[.int .i64 b,.slice so A sc],stA 2 nm n] w fun e w'=>Zf3 (Zba 2 nm n b ps) w w' e:=by
 have HT:Hid (Zba 2 nm n b ps=(b,(ps.filter (ZZ nm)))):=by
  show _=_;unfold Zba;simp
 obtain ⟨d,E⟩:∃ d,d=((w.alloc (Zi b (.slice so A sc))).alloc (bSt 2 nm n)).alloc (Zi 0 (.slice none 0 0)):=⟨_,rfl⟩;have V:Below w.heap.size w d:=by rw [E];exact Zb (Zb (Zc _ _) (Zc _ _)) (Zc _ _)
 have q:Hid (d=((w.alloc (Zi b (.slice so A sc))).alloc (bSt 2 nm n)).alloc (Zi 0 (.slice none 0 0))∧d.heap[w.heap.size]?=some (Zi b (.slice so A sc))∧d.heap[w.heap.size+1]?=some (bSt 2 nm n)∧d.heap[w.heap.size+2]?=some (Zi 0 (.slice none 0 0))∧Below w.heap.size w d∧w.heap.size+3=d.heap.size):=by
  refine ⟨E,?_,?_,?_,V,by rw [E];simp⟩
  ·rw [E];exact (Zn _ _ (by simp;omega)).trans ((Zn _ _ (by simp)).trans (Zd _ _ rfl))
  ·rw [E];exact (Zn _ _ (by simp)).trans (Zd _ _ (by simp))
  ·rw [E];exact Zd _ _ (by simp)
 have HO:=Za ab;have am:=Za Y;have ak:=Za (Zl8 so A sc nm ps d ((Zf ab).nx V) Y (by omega));clear ab Y E V;go_enter Tryz.func133,Tryz.ntmps133
 go_upto_region 1 with fail
 rw [←q.out.1];obtain ⟨L,M,N⟩:=Zw q.out.2.1;obtain ⟨ao,ap,b2,aq⟩:=Zaq q.out.2.2.1;go_wp2_with fail
 refine ak.out.mono ?_;rintro e w1 ⟨Q,vc,rfl,aa,O⟩;obtain ⟨h,R⟩:∃ h,(ps.filter (ZZ nm)).length=h:=⟨_,rfl⟩;rw [R] at aa ⊢;have U:=Za R;have aw:h≤1001:=by
  rw [←R];have:=am.out;have av:=Yp (ZZ nm) ps;omega
 have ac:w1.heap[w.heap.size]?=some (Zi b (.slice so A sc)):=(O.block _ (by have:=q.out.2.2.2.2.2;omega)).trans q.out.2.1;have ai:w1.heap[w.heap.size+2]?=some (Zi 0 (.slice none 0 0)):=(O.block _ (by have:=q.out.2.2.2.2.2;omega)).trans q.out.2.2.2.1;obtain ⟨m,I⟩:∃ m,m=w1.setCell ⟨w.heap.size,1,none⟩ (.slice Q h vc):=⟨_,rfl⟩;have D:Hid (m=w1.setCell ⟨w.heap.size,1,none⟩ (.slice Q h vc)∧m.heap[w.heap.size]?=some (Zi b (.slice Q h vc))∧m.heap[w.heap.size+2]?=some (Zi 0 (.slice none 0 0))∧Below w.heap.size w m∧w.heap.size+3≤m.heap.size∧m.ownsRow d.heap.size 82 4 (.slice Q h vc) h (Ze (ps.filter (ZZ nm)))):=
  ⟨I,by rw [I];exact Zm _ _ _ _ _ _ ac,by rw [I];exact (Yf _ _ _ _ (by show w.heap.size+2≠w.heap.size;omega)).trans ai,by rw [I];exact (Zb q.out.2.2.2.2.1 O).setCell (Yd _) _,by rw [I];simp;have:=q.out.2.2.2.2.2;have:=O.size;omega,by rw [I];exact Yi aa (by show w.heap.size<d.heap.size;have:=q.out.2.2.2.2.2;omega) _⟩
 have al:=Za (ZcI b (ps.filter (ZZ nm)) Q h vc m (Zf D.out.2.2.2.2.2) (ZaO D.out.2.2.2.2.2) U.out (by omega));clear L M N ao ap b2 aq aa R;obtain ⟨L,M,N⟩:=Zw ac;clear O ac ai I;go_upto_region 14 with fail
 rw [←D.out.1];clear L M N;obtain ⟨L,M,N⟩:=Zw D.out.2.1;go_wp2_with fail
 refine al.out.mono ?_;rintro e af ⟨ae,ad,rfl,ah,X⟩;have aj:af.heap[w.heap.size+2]?=some (Zi 0 (.slice none 0 0)):=(X.block _ (Ya.1 D.out.2.2.1).1).trans D.out.2.2.1;obtain ⟨ar,au,ay⟩:=Zw aj;have J:Hid (af.ownsRow m.heap.size 82 4 (.slice ae h ad) h (Ze (ps.filter (ZZ nm)))∧Below w.heap.size w af∧w.heap.size+3≤m.heap.size):=⟨ah,Zb D.out.2.2.2.1 X,D.out.2.2.2.2.1⟩;clear ah X aj L M N;go_wp2_with fail
 refine bodyPost_ret (v:=.agg #[.int .i64 b,.slice ae h ad]) (by simp [results,Tryz.results133,go_sem,ar,au]) rfl ?_;rw [HT.out];refine ⟨ae,ad,?_,?_,?_⟩
 ·simp only [U.out]
 ·simp only [U.out];exact Zr (Yi (Yi J.out.1 (by show w.heap.size+2<_;have:=J.out.2.2;omega) _) (by show w.heap.size+2<_;have:=J.out.2.2;omega) _) (by have:=J.out.2.2;omega)
 ·have ag:w.heap.size≤w.heap.size+2:=by omega
  exact (J.out.2.1.setCell ag _).setCell ag _
theorem Ztu (b:Int) (so:Option Addr) (d sc:Nat) (nm:ByteArray) (n:Int) (ps:List Pl) (w:World) (ae:w.ownsRow 0 82 4 (.slice so d sc) d (Ze ps)) (ac:ps.length=d) (ao:d≤1000) :
  Calls Tryz.prog 133 #[.agg #[.int .i64 b,.slice so d sc],stA 3 nm n] w fun e w'=>Zf3 (Zba 3 nm n b ps) w w' e:=by
 have HT:Hid (Zba 3 nm n b ps=(n,ps)):=by
  show _=_;unfold Zba;simp
 obtain ⟨h,D⟩:∃ h,h=((w.alloc (Zi b (.slice so d sc))).alloc (bSt 3 nm n)).alloc (Zi 0 (.slice none 0 0)):=⟨_,rfl⟩;have aa:Below w.heap.size w h:=by rw [D];exact Zb (Zb (Zc _ _) (Zc _ _)) (Zc _ _)
 have q:Hid (h=((w.alloc (Zi b (.slice so d sc))).alloc (bSt 3 nm n)).alloc (Zi 0 (.slice none 0 0))∧h.heap[w.heap.size]?=some (Zi b (.slice so d sc))∧h.heap[w.heap.size+1]?=some (bSt 3 nm n)∧h.heap[w.heap.size+2]?=some (Zi 0 (.slice none 0 0))∧Below w.heap.size w h∧w.heap.size+3=h.heap.size):=by
  refine ⟨D,?_,?_,?_,aa,by rw [D];simp⟩
  ·rw [D];exact (Zn _ _ (by simp;omega)).trans ((Zn _ _ (by simp)).trans (Zd _ _ rfl))
  ·rw [D];exact (Zn _ _ (by simp)).trans (Zd _ _ (by simp))
  ·rw [D];exact Zd _ _ (by simp)
 have Y:=Za ae;have V:=Za ac;clear ae ac D aa;go_enter Tryz.func133,Tryz.ntmps133
 go_upto_region 1 with fail
 rw [←q.out.1];obtain ⟨J,L,M⟩:=Zw q.out.2.1;obtain ⟨ah,ai,b2,aj⟩:=Zaq q.out.2.2.1;obtain ⟨aq,E⟩:∃ aq,aq=h.setCell ⟨w.heap.size,0,none⟩ (.int .i64 n):=⟨_,rfl⟩;have A:Hid (aq=h.setCell ⟨w.heap.size,0,none⟩ (.int .i64 n)∧aq.heap[w.heap.size]?=some (Zi n (.slice so d sc))∧aq.heap[w.heap.size+2]?=some (Zi 0 (.slice none 0 0))∧Below w.heap.size w aq∧w.heap.size+3≤aq.heap.size):=
  ⟨E,by rw [E];exact Zm _ _ _ _ _ _ q.out.2.1,by rw [E];exact (Yf _ _ _ _ (by show w.heap.size+2≠w.heap.size;omega)).trans q.out.2.2.2.1,by rw [E];exact q.out.2.2.2.2.1.setCell (Yd _) _,by rw [E];simp;have:=q.out.2.2.2.2.2;omega⟩
 have ag:=Za (ZcI n ps so d sc aq ((Zf Y.out).nx A.out.2.2.2.1) (ZaO Y.out) V.out (by omega));obtain ⟨m,O⟩:∃ m,ps.length=m:=⟨_,rfl⟩;have X:=Za O;have ak:d=m:=by rw [←O,V.out]
 subst ak;clear E O;go_upto_region 14 with fail
 rw [←A.out.1];clear J L M ah ai b2 aj;obtain ⟨J,L,M⟩:=Zw A.out.2.1;go_wp2_with fail
 refine ag.out.mono ?_;rintro e U ⟨R,Q,rfl,ad,N⟩;have af:U.heap[w.heap.size+2]?=some (Zi 0 (.slice none 0 0)):=(N.block _ (Ya.1 A.out.2.2.1).1).trans A.out.2.2.1;obtain ⟨al,am,ap⟩:=Zw af;have I:Hid (U.ownsRow aq.heap.size 82 4 (.slice R d Q) d (Ze ps)∧Below w.heap.size w U∧w.heap.size+3≤aq.heap.size):=⟨ad,Zb A.out.2.2.2.1 N,A.out.2.2.2.2⟩;clear ad N af J L M;go_wp2_with fail
 refine bodyPost_ret (v:=.agg #[.int .i64 n,.slice R d Q]) (by simp [results,Tryz.results133,go_sem,al,am]) rfl ?_;rw [HT.out];refine ⟨R,Q,?_,?_,?_⟩
 ·simp only [X.out]
 ·simp only [X.out];exact Zr (Yi (Yi I.out.1 (by show w.heap.size+2<_;have:=I.out.2.2;omega) _) (by show w.heap.size+2<_;have:=I.out.2.2;omega) _) (by have:=I.out.2.2;omega)
 ·have ab:w.heap.size≤w.heap.size+2:=by omega
  exact (I.out.2.1.setCell ab _).setCell ab _
theorem ZtY (b:Int) (so:Option Addr) (A sc:Nat) (nm:ByteArray) (n:Int) (ps:List Pl) (w:World) (ab:w.ownsRow 0 82 4 (.slice so A sc) A (Ze ps)) (aa:ps.length=A) (aw:A≤1000) :
  Calls Tryz.prog 133 #[.agg #[.int .i64 b,.slice so A sc],stA 4 nm n] w fun e w'=>Zf3 (Zba 4 nm n b ps) w w' e:=by
 have HT:Hid (Zba 4 nm n b ps=(b,(ZH ⟨nm,0,0,0⟩ ps))):=by
  show _=_;unfold Zba;simp
 obtain ⟨d,E⟩:∃ d,d=((w.alloc (Zi b (.slice so A sc))).alloc (bSt 4 nm n)).alloc (Zi 0 (.slice none 0 0)):=⟨_,rfl⟩;have X:Below w.heap.size w d:=by rw [E];exact Zb (Zb (Zc _ _) (Zc _ _)) (Zc _ _)
 have q:Hid (d=((w.alloc (Zi b (.slice so A sc))).alloc (bSt 4 nm n)).alloc (Zi 0 (.slice none 0 0))∧d.heap[w.heap.size]?=some (Zi b (.slice so A sc))∧d.heap[w.heap.size+1]?=some (bSt 4 nm n)∧d.heap[w.heap.size+2]?=some (Zi 0 (.slice none 0 0))∧Below w.heap.size w d∧w.heap.size+3=d.heap.size):=by
  refine ⟨E,?_,?_,?_,X,by rw [E];simp⟩
  ·rw [E];exact (Zn _ _ (by simp;omega)).trans ((Zn _ _ (by simp)).trans (Zd _ _ rfl))
  ·rw [E];exact (Zn _ _ (by simp)).trans (Zd _ _ (by simp))
  ·rw [E];exact Zd _ _ (by simp)
 have HO:=Za ab;have am:=Za aa;have ak:=Za (Zgp ⟨nm,0,0,0⟩ so sc A ps d ((Zf ab).nx X) aa (by omega));clear ab aa E X;go_enter Tryz.func133,Tryz.ntmps133
 go_upto_region 1 with fail
 rw [←q.out.1];obtain ⟨L,M,N⟩:=Zw q.out.2.1;obtain ⟨ao,ap,b2,aq⟩:=Zaq q.out.2.2.1;go_wp2_with fail
 refine ak.out.mono ?_;rintro e w1 ⟨v,rfl,U,O⟩;obtain ⟨Q,vc,rfl,_⟩:=Zf U;obtain ⟨h,R⟩:∃ h,(ZH ⟨nm,0,0,0⟩ ps).length=h:=⟨_,rfl⟩;rw [R] at U ⊢;have V:=Za R;have av:h≤1001:=by
  rw [←R];have:=am.out;rw [ZkU];omega
 have ac:w1.heap[w.heap.size]?=some (Zi b (.slice so A sc)):=(O.block _ (by have:=q.out.2.2.2.2.2;omega)).trans q.out.2.1;have ai:w1.heap[w.heap.size+2]?=some (Zi 0 (.slice none 0 0)):=(O.block _ (by have:=q.out.2.2.2.2.2;omega)).trans q.out.2.2.2.1;obtain ⟨m,I⟩:∃ m,m=w1.setCell ⟨w.heap.size,1,none⟩ (.slice Q h vc):=⟨_,rfl⟩;have D:Hid (m=w1.setCell ⟨w.heap.size,1,none⟩ (.slice Q h vc)∧m.heap[w.heap.size]?=some (Zi b (.slice Q h vc))∧m.heap[w.heap.size+2]?=some (Zi 0 (.slice none 0 0))∧Below w.heap.size w m∧w.heap.size+3≤m.heap.size∧m.ownsRow d.heap.size 82 4 (.slice Q h vc) h (Ze (ZH ⟨nm,0,0,0⟩ ps))):=
  ⟨I,by rw [I];exact Zm _ _ _ _ _ _ ac,by rw [I];exact (Yf _ _ _ _ (by show w.heap.size+2≠w.heap.size;omega)).trans ai,by rw [I];exact (Zb q.out.2.2.2.2.1 O).setCell (Yd _) _,by rw [I];simp;have:=q.out.2.2.2.2.2;have:=O.size;omega,by rw [I];exact Yi U (by show w.heap.size<d.heap.size;have:=q.out.2.2.2.2.2;omega) _⟩
 have al:=Za (ZcI b (ZH ⟨nm,0,0,0⟩ ps) Q h vc m (Zf D.out.2.2.2.2.2) (ZaO D.out.2.2.2.2.2) V.out (by omega));clear L M N ao ap b2 aq U R;obtain ⟨L,M,N⟩:=Zw ac;clear O ac ai I;go_upto_region 14 with fail
 rw [←D.out.1];clear L M N;obtain ⟨L,M,N⟩:=Zw D.out.2.1;go_wp2_with fail
 refine al.out.mono ?_;rintro e af ⟨ae,ad,rfl,ah,Y⟩;have aj:af.heap[w.heap.size+2]?=some (Zi 0 (.slice none 0 0)):=(Y.block _ (Ya.1 D.out.2.2.1).1).trans D.out.2.2.1;obtain ⟨ar,au,ax⟩:=Zw aj;have J:Hid (af.ownsRow m.heap.size 82 4 (.slice ae h ad) h (Ze (ZH ⟨nm,0,0,0⟩ ps))∧Below w.heap.size w af∧w.heap.size+3≤m.heap.size):=⟨ah,Zb D.out.2.2.2.1 Y,D.out.2.2.2.2.1⟩;clear ah Y aj L M N;go_wp2_with fail
 refine bodyPost_ret (v:=.agg #[.int .i64 b,.slice ae h ad]) (by simp [results,Tryz.results133,go_sem,ar,au]) rfl ?_;rw [HT.out];refine ⟨ae,ad,?_,?_,?_⟩
 ·simp only [V.out]
 ·simp only [V.out];exact Zr (Yi (Yi J.out.1 (by show w.heap.size+2<_;have:=J.out.2.2;omega) _) (by show w.heap.size+2<_;have:=J.out.2.2;omega) _) (by have:=J.out.2.2;omega)
 ·have ag:w.heap.size≤w.heap.size+2:=by omega
  exact (J.out.2.1.setCell ag _).setCell ag _
theorem ZtT (b:Int) (so:Option Addr) (d sc:Nat) (nm:ByteArray) (n:Int) (ps:List Pl) (w:World) (ae:w.ownsRow 0 82 4 (.slice so d sc) d (Ze ps)) (ac:ps.length=d) (ao:d≤1000) :
  Calls Tryz.prog 133 #[.agg #[.int .i64 b,.slice so d sc],stA 7 nm n] w fun e w'=>Zf3 (Zba 7 nm n b ps) w w' e:=by
 have HT:Hid (Zba 7 nm n b ps=(n,ps)):=by
  show _=_;unfold Zba;simp
 obtain ⟨h,D⟩:∃ h,h=((w.alloc (Zi b (.slice so d sc))).alloc (bSt 7 nm n)).alloc (Zi 0 (.slice none 0 0)):=⟨_,rfl⟩;have aa:Below w.heap.size w h:=by rw [D];exact Zb (Zb (Zc _ _) (Zc _ _)) (Zc _ _)
 have q:Hid (h=((w.alloc (Zi b (.slice so d sc))).alloc (bSt 7 nm n)).alloc (Zi 0 (.slice none 0 0))∧h.heap[w.heap.size]?=some (Zi b (.slice so d sc))∧h.heap[w.heap.size+1]?=some (bSt 7 nm n)∧h.heap[w.heap.size+2]?=some (Zi 0 (.slice none 0 0))∧Below w.heap.size w h∧w.heap.size+3=h.heap.size):=by
  refine ⟨D,?_,?_,?_,aa,by rw [D];simp⟩
  ·rw [D];exact (Zn _ _ (by simp;omega)).trans ((Zn _ _ (by simp)).trans (Zd _ _ rfl))
  ·rw [D];exact (Zn _ _ (by simp)).trans (Zd _ _ (by simp))
  ·rw [D];exact Zd _ _ (by simp)
 have Y:=Za ae;have V:=Za ac;clear ae ac D aa;go_enter Tryz.func133,Tryz.ntmps133
 go_upto_region 1 with fail
 rw [←q.out.1];obtain ⟨J,L,M⟩:=Zw q.out.2.1;obtain ⟨ah,ai,b2,aj⟩:=Zaq q.out.2.2.1;obtain ⟨aq,E⟩:∃ aq,aq=h.setCell ⟨w.heap.size,0,none⟩ (.int .i64 n):=⟨_,rfl⟩;have A:Hid (aq=h.setCell ⟨w.heap.size,0,none⟩ (.int .i64 n)∧aq.heap[w.heap.size]?=some (Zi n (.slice so d sc))∧aq.heap[w.heap.size+2]?=some (Zi 0 (.slice none 0 0))∧Below w.heap.size w aq∧w.heap.size+3≤aq.heap.size):=
  ⟨E,by rw [E];exact Zm _ _ _ _ _ _ q.out.2.1,by rw [E];exact (Yf _ _ _ _ (by show w.heap.size+2≠w.heap.size;omega)).trans q.out.2.2.2.1,by rw [E];exact q.out.2.2.2.2.1.setCell (Yd _) _,by rw [E];simp;have:=q.out.2.2.2.2.2;omega⟩
 have ag:=Za (ZcI n ps so d sc aq ((Zf Y.out).nx A.out.2.2.2.1) (ZaO Y.out) V.out (by omega));obtain ⟨m,O⟩:∃ m,ps.length=m:=⟨_,rfl⟩;have X:=Za O;have ak:d=m:=by rw [←O,V.out]
 subst ak;clear E O;go_upto_region 14 with fail
 rw [←A.out.1];clear J L M ah ai b2 aj;obtain ⟨J,L,M⟩:=Zw A.out.2.1;go_wp2_with fail
 refine ag.out.mono ?_;rintro e U ⟨R,Q,rfl,ad,N⟩;have af:U.heap[w.heap.size+2]?=some (Zi 0 (.slice none 0 0)):=(N.block _ (Ya.1 A.out.2.2.1).1).trans A.out.2.2.1;obtain ⟨al,am,ap⟩:=Zw af;have I:Hid (U.ownsRow aq.heap.size 82 4 (.slice R d Q) d (Ze ps)∧Below w.heap.size w U∧w.heap.size+3≤aq.heap.size):=⟨ad,Zb A.out.2.2.2.1 N,A.out.2.2.2.2⟩;clear ad N af J L M;go_wp2_with fail
 refine bodyPost_ret (v:=.agg #[.int .i64 n,.slice R d Q]) (by simp [results,Tryz.results133,go_sem,al,am]) rfl ?_;rw [HT.out];refine ⟨R,Q,?_,?_,?_⟩
 ·simp only [X.out]
 ·simp only [X.out];exact Zr (Yi (Yi I.out.1 (by show w.heap.size+2<_;have:=I.out.2.2;omega) _) (by show w.heap.size+2<_;have:=I.out.2.2;omega) _) (by have:=I.out.2.2;omega)
 ·have ab:w.heap.size≤w.heap.size+2:=by omega
  exact (I.out.2.1.setCell ab _).setCell ab _
theorem ZpF {w m:World} {ah:Nat} {S:Zh} {q:ZB} {F:Nat→Prop} {ag:Option Addr} {af:Nat} {so:Option Addr} {sc:Nat} {wo:Option Addr} {wc:Nat} {U:Option Addr} {R:Nat} {O:Option Addr} {M B:Nat} (h:DeskX w ah S q F ag af so sc wo wc U R O M) (d:F ah) (X:∀ x,F x→x<w.heap.size) (b:Int) (ps:List Pl) (I:Option Addr) (E:Nat)
  (ad:m.heap[ah]?=some (ZG b I ps.length E so S.srv.length sc wo S.wts.length wc q.op ⟨.slice U S.plan.length R,S.begun,S.back,q.hb,.slice O q.hps.length M⟩))
  (Y:m.ownsRow B 82 4 (.slice I ps.length E) ps.length (Ze ps)) (ac:∀ g,(Value.slice I ps.length E).ownBlock=some g→w.heap.size≤g)
  (N:Chg (fun y=>y=ah) w m):Moved w m ah {S with bud:=b,pools:=ps} q F:=by
 have aa:∀ g,F g→Nxt F w m g:=fun g d=>⟨.inl d,Yl (X g d) N.size⟩
 have D:∀ {J:TypeId} {sz n:Nat} {v:Value} {L:List Value},Held w F J sz v n L→J≠95→Held m (Nxt F w m) J sz v n L:=by
  intro J sz n v L A ab;refine ⟨Zz A.own (fun j V=>N.block j (X j (A.blk j V)) ?_),fun g d=>aa g (A.blk g d)⟩;intro e;exact Zd7 A.own h.box ab (by rw [←show j=ah from e];exact V)
 exact ⟨Nxt F w m,⟨⟨I,E,so,sc,wo,wc,U,R,O,M,ad,⟨Zr Y (Ye _),fun g d=>⟨.inr (ac g d),(Y.lt g d).2⟩⟩,D h.s (by decide),D h.t (by decide),D h.l (by decide),D h.h (by decide)⟩,aa ah d,fun x ae=>ae.2⟩,fun y Q=>Q.1,N.mono (fun y Q=>by rw [show y=ah from Q];exact d)⟩
structure Less (S T:Zh):Prop where
 srv:T.srv.Sublist S.srv
 wts:T.wts.Sublist S.wts
 rest:Rest S T
theorem Less.refl (S:Zh):Less S S:=⟨List.Sublist.refl _,List.Sublist.refl _,Rest.refl _⟩
theorem Less.trans {S T h:Zh} (d:Less S T) (k:Less T h):Less S h:=⟨k.srv.trans d.srv,k.wts.trans d.wts,d.rest.trans k.rest⟩
theorem Less.inv {S T:Zh} {op:Int} (h:Less S T) (d:Inv S op):Inv T op:=⟨d.ids.sublist h.srv,fun x m=>d.low x (h.srv.subset m),d.op0,d.cli.sublist h.wts⟩
theorem Less.ok {S T:Zh} {op:Int} (d:Less S T) (h:Ok S op):Ok T op:=by
 refine ⟨d.inv h.inv,?_,by rw [d.rest.1];exact h.pools⟩;have m:=h.pot;have q:=d.wts.length_le;unfold pot at *;simp only at *;omega
theorem Zgn (d:ByteArray):∀ (f:Nat) (S:Zh),Less S (ZaV d f S)
 | 0,S=>Less.refl _
 | f+1,S=>by
  rw [ZaV];split
  ·exact Less.refl _
  ·exact Less.trans (T:=ZR S _) ⟨List.filter_sublist,List.Sublist.refl _,⟨rfl,rfl,rfl,rfl,rfl⟩⟩ (Zgn d f _)
theorem ZjB:∀ (f:Nat) (S:Zh),Less S (Zbg f S)
 | 0,S=>Less.refl _
 | f+1,S=>by
  rw [Zbg];split
  ·exact Less.refl _
  ·exact Less.trans (T:=ZR S _) ⟨List.filter_sublist,List.Sublist.refl _,⟨rfl,rfl,rfl,rfl,rfl⟩⟩ (ZjB f _)
theorem ZeJ (d:ByteArray):∀ (f:Nat) (S:Zh),Less S (ZaB d f S)
 | 0,S=>Less.refl _
 | f+1,S=>by
  rw [ZaB];exact Less.trans (T:=ZO S _) ⟨List.Sublist.refl _,List.filter_sublist,⟨rfl,rfl,rfl,rfl,rfl⟩⟩ (ZeJ d f _)
theorem Zoc (S:Zh) (h:ByteArray) (d:Int):Less S (Ze6 S h d):=⟨List.filter_sublist,List.Sublist.refl _,⟨rfl,rfl,rfl,rfl,rfl⟩⟩
def Z1 (S:Zh) (T:Int×List Pl):Zh:={S with bud:=T.1,pools:=T.2}
def Z2 (k:Int) (nm:ByteArray) (n:Int) (S:Zh):Zh:=
 let S1:=Z1 S (Zba k nm n S.bud S.pools)
 if k=1 then ZaV nm ((Zs (Zj nm) S1.srv:Int) - n).toNat S1
 else if k=2 then ZaV nm ((Zs (Zj nm) (ZaB nm ((Zs (Zq nm) S1.wts:Int) - 0).toNat S1).srv:Int) - 0).toNat (ZaB nm ((Zs (Zq nm) S1.wts:Int) - 0).toNat S1)
 else if k=3 then Zbg ((S1.srv.length:Int) - n).toNat S1
 else if k=5 then Ze6 S1 nm n
 else if k=6 then ZaB nm ((Zs (Zq nm) S1.wts:Int) - n).toNat S1
 else S1
def ZdY (k:Int):Prop:=1≤k∧k≤8
theorem Zqr {k:Int} (A:ZdY k) (b:Int) (so:Option Addr) (d sc:Nat) (nm:ByteArray) (n:Int) (ps:List Pl) (w:World) (q:w.ownsRow 0 82 4 (.slice so d sc) d (Ze ps)) (h:ps.length=d) (m:d≤1000) :
  Calls Tryz.prog 133 #[.agg #[.int .i64 b,.slice so d sc],stA k nm n] w fun e D=>Zf3 (Zba k nm n b ps) w D e:=by
 obtain ⟨E,I⟩:=A;rcases (by omega:k=1∨k=2∨k=3∨k=4∨k=5∨k=6∨k=7∨k=8) with rfl | rfl | rfl | rfl | rfl | rfl | rfl | rfl
 ·exact Zk7 (by simp) b so d sc nm n ps w q h m
 ·exact ZtW b so d sc nm n ps w q h m
 ·exact Ztu b so d sc nm n ps w q h m
 ·exact ZtY b so d sc nm n ps w q h m
 ·exact Zk7 (by simp) b so d sc nm n ps w q h m
 ·exact Zk7 (by simp) b so d sc nm n ps w q h m
 ·exact ZtT b so d sc nm n ps w q h m
 ·exact Zk7 (by simp) b so d sc nm n ps w q h m
theorem Zoz (d:Nat) (k:Int) (nm:ByteArray) (n:Int) (S:Zh) (A:ZB) (F:Nat→Prop) (w:World) (ay:ZdY k) (h:DeskAt w d S A F) (ag:Ok S A.op) (bo:S.pools.length≤1000) (hN:0≤n∧n≤1000000) :
  Calls Tryz.prog 88 #[.pointer (some ⟨d,0,none⟩),stA k nm n] w fun e w'=>(∃ x,e=.returned x)∧Moved w w' d (Z2 k nm n S) A F:=by
 obtain ⟨ap,ao,so,sc,wo,wc,bt,bs,bm,bj,Y⟩:=h.ex;have ax:d<w.heap.size:=h.lt d h.gp;have hL:=ag.inv.len;have hP:=ag.pot;have hO:=ag.inv.op0;unfold pot at hP;simp only at hP;have Q:Hid ((∀ x∈S.srv,x.id≠0)∧S.srv.length≤549755813888∧S.wts.length≤549755813888):=⟨ag.inv.nz,by omega,by omega⟩;obtain ⟨D,ae⟩:∃ D,D=w.alloc (bSt k nm n):=⟨_,rfl⟩;have af:Below w.heap.size w D:=by rw [ae];exact Zc _ _
 have L:Hid (D=w.alloc (bSt k nm n)∧D.heap[w.heap.size]?=some (bSt k nm n)∧Below w.heap.size w D∧w.heap.size<D.heap.size):=⟨ae,by rw [ae];exact Zd _ _ rfl,af,by rw [ae];simp⟩;have ar:Hid (DeskAt D d S A F):=h.keep (G:=fun _=>False) (Chg.of_below af) (fun _ _ h=>h);have a6:DeskX D d S A F ap ao so sc wo wc bt bs bm bj:=by
  have ab:∀ g,F g→D.heap[g]?=w.heap[g]?:=fun g ak=>af.block g (h.lt g ak)
  exact ⟨(ab d h.gp).trans Y.box,Y.p.keep ab (fun _ h=>h),Y.s.keep ab (fun _ h=>h),Y.t.keep ab (fun _ h=>h),Y.l.keep ab (fun _ h=>h),Y.h.keep ab (fun _ h=>h)⟩
 have HX:=Za a6;have ah:d<D.heap.size:=Yl ax af.size;have aj:Hid (¬F w.heap.size∧d≠w.heap.size):=⟨fun bl=>by have:=h.lt _ bl;omega,by omega⟩;have au:Hid (∀ u,Below D.heap.size D u→Calls Tryz.prog 133 #[.agg #[.int .i64 S.bud,.slice ap S.pools.length ao],stA k nm n] u fun e w'=>Zf3 (Zba k nm n S.bud S.pools) u w' e):=by
  intro u bp;exact Zqr ay S.bud ap _ ao nm n S.pools u (Zx HX.out.p.own bp) rfl bo
 obtain ⟨⟨q,b7⟩,hT⟩:∃ T,Zba k nm n S.bud S.pools=T:=⟨_,rfl⟩;rw [hT] at au;have HT:=Za hT;obtain ⟨bd,be,bf,bg,bh,bi⟩:=ZS HX.out.box;obtain ⟨U,V,b2,X⟩:=Zaq L.out.2.1;clear h Y a6 ag hL hP hO ae af hT ax;go_enter Tryz.func88,Tryz.ntmps88
 go_upto_region 1 with fail
 rw [←L.out.1];go_cut [10] (fun v br=>∃ N,Hid (Moved D N d (Z1 S (q,b7)) A F∧N.heap[w.heap.size]?=some (bSt k nm n))∧N=br)
 case first =>
  go_region_with (go_at_call 133;refine (au.out _ ((Yh _ _).drew)).mono ?_;rintro e aq ⟨a7,vc,rfl,a0,av⟩;have aa:Hid (Below D.heap.size D aq∧aq.ownsRow D.heap.size 82 4 (.slice a7 b7.length vc) b7.length (Ze b7)):=⟨Zb (Yh _ _).drew av,a0⟩;obtain ⟨bw,bx,bz,b0,b1,b6⟩:=ZS ((aa.out.1.block d ah).trans HX.out.box);clear a0 av)
  all_goals
   go_wp2_with fail
   go_meet
   refine ⟨_,⟨ZpF (B:=D.heap.size) HX.out ar.out.gp ar.out.lt q b7 a7 vc ?_ ?_ (fun g ak=>(aa.out.2.lt g ak).1) ?_,?_⟩,rfl⟩
   ·exact Zm _ _ _ _ _ _ (Zm _ _ _ _ _ _ ((aa.out.1.block d ah).trans HX.out.box))
   ·exact Yi (Yi aa.out.2 ah _) ah _
   ·exact ((Chg.of_below aa.out.1).trans (Chg.set (F:=fun y=>y=d) aq d 0 _ rfl) (fun y am=>.inl am)).trans (Chg.set (F:=fun y=>y=d) _ d 1 _ rfl) (fun y am=>.inl am)
   ·exact (Yf _ _ _ _ (fun e=>aj.out.2 e.symm)).trans ((Yf _ _ _ _ (fun e=>aj.out.2 e.symm)).trans ((aa.out.1.block _ L.out.2.2.2).trans L.out.2.1))
 case rest =>
  obtain ⟨N,ad,rfl⟩:=hcut;obtain ⟨ac,hd,I⟩:=ad.out.1.step;clear bd be bf bg bh bi U V b2 X;obtain ⟨U,V,b2,X⟩:=Zaq ad.out.2;obtain ⟨bu,bv⟩:=ay;rcases (by omega:k=1∨k=2∨k=3∨k=4∨k=5∨k=6∨k=7∨k=8) with rfl | rfl | rfl | rfl | rfl | rfl | rfl | rfl
  ·have M:=Za I;have R:=Za (Zkr d nm n (Z1 S (q,b7)) A ac N hd Q.out.1 Q.out.2.1 hN);clear hd I;go_wp2_with fail
   refine R.out.mono ?_;rintro e O ⟨⟨x,rfl⟩,E⟩;have m:Hid (Moved w O d (Z2 1 nm n S) A F):=by
    have J:Z2 1 nm n S=ZaV nm ((Zs (Zj nm) (Z1 S (q,b7)).srv:Int) - n).toNat (Z1 S (q,b7)):=by unfold Z2;rw [HT.out];rfl
    rw [J];exact Moved.after L.out.2.2.1 (M.out _ _ _ E)
   clear E U V b2 X;go_wp2_with fail
   first
   | (refine bodyPost_end (v:=.tuple #[]) (by simp [results,Tryz.results88,go_sem]) rfl ?_;exact ⟨⟨_,rfl⟩,m.out⟩)
   | (refine bodyPost_ret (v:=.tuple #[]) (by simp [results,Tryz.results88,go_sem]) rfl ?_;exact ⟨⟨_,rfl⟩,m.out⟩)
  ·have M:=Za I;have bc:=Za (ZkK d nm 0 (Z1 S (q,b7)) A ac N hd Q.out.2.2 (by omega));clear hd I;go_wp2_with fail
   refine bc.out.mono ?_;rintro e O ⟨⟨x,rfl⟩,E⟩;have al:=M.out _ _ _ E;have a1:O.heap[w.heap.size]?=some (bSt 2 nm n):=by
    obtain ⟨_,_,_,bk⟩:=al;exact (bk.block _ L.out.2.2.2 aj.out.1).trans L.out.2.1
   obtain ⟨a8,aw,az⟩:=al.step;have ai:=ZeJ nm ((Zs (Zq nm) (Z1 S (q,b7)).wts:Int) - 0).toNat (Z1 S (q,b7));have R:=Za (Zkr d nm 0 _ A a8 O aw (fun x Y=>Q.out.1 x (ai.srv.subset Y)) (Ym ai.srv.length_le Q.out.2.1) (by omega));have a9:=Za az;clear E al aw az ai U V b2 X;obtain ⟨U,V,b2,X⟩:=Zaq a1;clear a1;go_wp2_with fail
   refine R.out.mono ?_;rintro e bq ⟨⟨x,rfl⟩,E⟩;have m:Hid (Moved w bq d (Z2 2 nm n S) A F):=by
    have J:Z2 2 nm n S=ZaV nm ((Zs (Zj nm) (ZaB nm ((Zs (Zq nm) (Z1 S (q,b7)).wts:Int) - 0).toNat (Z1 S (q,b7))).srv:Int) - 0).toNat (ZaB nm ((Zs (Zq nm) (Z1 S (q,b7)).wts:Int) - 0).toNat (Z1 S (q,b7))):=by unfold Z2;rw [HT.out];rfl
    rw [J];exact Moved.after L.out.2.2.1 (a9.out _ _ _ E)
   clear E U V b2 X;go_wp2_with fail
   first
   | (refine bodyPost_end (v:=.tuple #[]) (by simp [results,Tryz.results88,go_sem]) rfl ?_;exact ⟨⟨_,rfl⟩,m.out⟩)
   | (refine bodyPost_ret (v:=.tuple #[]) (by simp [results,Tryz.results88,go_sem]) rfl ?_;exact ⟨⟨_,rfl⟩,m.out⟩)
  ·have M:=Za I;have R:=Za (Zqk d n (Z1 S (q,b7)) A ac N hd Q.out.1 Q.out.2.1 hN);clear hd I;go_wp2_with fail
   refine R.out.mono ?_;rintro e O ⟨⟨x,rfl⟩,E⟩;have m:Hid (Moved w O d (Z2 3 nm n S) A F):=by
    have J:Z2 3 nm n S=Zbg (((Z1 S (q,b7)).srv.length:Int) - n).toNat (Z1 S (q,b7)):=by unfold Z2;rw [HT.out];rfl
    rw [J];exact Moved.after L.out.2.2.1 (M.out _ _ _ E)
   clear E U V b2 X;go_wp2_with fail
   first
   | (refine bodyPost_end (v:=.tuple #[]) (by simp [results,Tryz.results88,go_sem]) rfl ?_;exact ⟨⟨_,rfl⟩,m.out⟩)
   | (refine bodyPost_ret (v:=.tuple #[]) (by simp [results,Tryz.results88,go_sem]) rfl ?_;exact ⟨⟨_,rfl⟩,m.out⟩)
  ·have M:=Za I;have m:Hid (Moved w N d (Z2 4 nm n S) A F):=by
    have J:Z2 4 nm n S=Z1 S (q,b7):=by unfold Z2;rw [HT.out];rfl
    rw [J];exact Moved.after L.out.2.2.1 ad.out.1
   clear hd I;go_wp2_with fail
   first
   | (refine bodyPost_end (v:=.tuple #[]) (by simp [results,Tryz.results88,go_sem]) rfl ?_;exact ⟨⟨_,rfl⟩,m.out⟩)
   | (refine bodyPost_ret (v:=.tuple #[]) (by simp [results,Tryz.results88,go_sem]) rfl ?_;exact ⟨⟨_,rfl⟩,m.out⟩)
  ·have M:=Za I;have R:=Za (Zsp d nm n (Z1 S (q,b7)) A ac N hd (Ym Q.out.2.1 (by omega)));clear hd I;go_wp2_with fail
   refine R.out.mono ?_;rintro e O ⟨⟨x,rfl⟩,E⟩;have m:Hid (Moved w O d (Z2 5 nm n S) A F):=by
    have J:Z2 5 nm n S=Ze6 (Z1 S (q,b7)) nm n:=by unfold Z2;rw [HT.out];rfl
    rw [J];exact Moved.after L.out.2.2.1 (M.out _ _ _ E)
   clear E U V b2 X;go_wp2_with fail
   first
   | (refine bodyPost_end (v:=.tuple #[]) (by simp [results,Tryz.results88,go_sem]) rfl ?_;exact ⟨⟨_,rfl⟩,m.out⟩)
   | (refine bodyPost_ret (v:=.tuple #[]) (by simp [results,Tryz.results88,go_sem]) rfl ?_;exact ⟨⟨_,rfl⟩,m.out⟩)
  ·have M:=Za I;have R:=Za (ZkK d nm n (Z1 S (q,b7)) A ac N hd Q.out.2.2 hN);clear hd I;go_wp2_with fail
   refine R.out.mono ?_;rintro e O ⟨⟨x,rfl⟩,E⟩;have m:Hid (Moved w O d (Z2 6 nm n S) A F):=by
    have J:Z2 6 nm n S=ZaB nm ((Zs (Zq nm) (Z1 S (q,b7)).wts:Int) - n).toNat (Z1 S (q,b7)):=by unfold Z2;rw [HT.out];rfl
    rw [J];exact Moved.after L.out.2.2.1 (M.out _ _ _ E)
   clear E U V b2 X;go_wp2_with fail
   first
   | (refine bodyPost_end (v:=.tuple #[]) (by simp [results,Tryz.results88,go_sem]) rfl ?_;exact ⟨⟨_,rfl⟩,m.out⟩)
   | (refine bodyPost_ret (v:=.tuple #[]) (by simp [results,Tryz.results88,go_sem]) rfl ?_;exact ⟨⟨_,rfl⟩,m.out⟩)
  ·have M:=Za I;have m:Hid (Moved w N d (Z2 7 nm n S) A F):=by
    have J:Z2 7 nm n S=Z1 S (q,b7):=by unfold Z2;rw [HT.out];rfl
    rw [J];exact Moved.after L.out.2.2.1 ad.out.1
   clear hd I;go_wp2_with fail
   first
   | (refine bodyPost_end (v:=.tuple #[]) (by simp [results,Tryz.results88,go_sem]) rfl ?_;exact ⟨⟨_,rfl⟩,m.out⟩)
   | (refine bodyPost_ret (v:=.tuple #[]) (by simp [results,Tryz.results88,go_sem]) rfl ?_;exact ⟨⟨_,rfl⟩,m.out⟩)
  ·have M:=Za I;have m:Hid (Moved w N d (Z2 8 nm n S) A F):=by
    have J:Z2 8 nm n S=Z1 S (q,b7):=by unfold Z2;rw [HT.out];rfl
    rw [J];exact Moved.after L.out.2.2.1 ad.out.1
   clear hd I;go_wp2_with fail
   first
   | (refine bodyPost_end (v:=.tuple #[]) (by simp [results,Tryz.results88,go_sem]) rfl ?_;exact ⟨⟨_,rfl⟩,m.out⟩)
   | (refine bodyPost_ret (v:=.tuple #[]) (by simp [results,Tryz.results88,go_sem]) rfl ?_;exact ⟨⟨_,rfl⟩,m.out⟩)
end Lw
end Go.Proofs.YtmgkcbdlfodjmaaGreatDoor
