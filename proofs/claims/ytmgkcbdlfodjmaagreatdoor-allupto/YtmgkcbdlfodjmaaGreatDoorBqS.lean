import Derived.Test.YtmgkcbdlfodjmaaGreatDoorBqR
set_option maxRecDepth 100000
set_option maxHeartbeats 16000000
namespace Go.Proofs.YtmgkcbdlfodjmaaGreatDoor
open Go.RowKit
namespace Lw
open Co
theorem ZiV {u:World} {B q:Nat} {e X:TypeId} {sz M n L g:Nat} {v m:Value} {N O:List Value} (h:u.ownsRow B e sz v n N) (A:u.ownsRow q X M m L O) (E:e≠X) (I:v.ownBlock=some g):m.ownBlock≠some g:=by
 intro J;obtain ⟨Q,U,D⟩:=Go.Lib.ownsRow_kind h g I;obtain ⟨R,V,d⟩:=Go.Lib.ownsRow_kind A g J;rw [D] at d;simp at d;exact E d.2.1
theorem Zd7 {u:World} {B:Nat} {e:TypeId} {sz n g:Nat} {v:Value} {D:List Value} {J:Array Value} {t:TypeId} (h:u.ownsRow B e sz v n D) (m:u.heap[g]?=some (.cells J t (0,0))) (q:e≠t):v.ownBlock≠some g:=by
 intro A;obtain ⟨E,I,d⟩:=Go.Lib.ownsRow_kind h g A;rw [m] at d;simp at d;exact q d.2.1.symm
def Nxt (F:Nat→Prop) (w w':World) (y:Nat):Prop:=(F y∨w.heap.size≤y)∧y<w'.heap.size
def Moved (w w':World) (gp:Nat) (S:Zh) (X:ZB) (F:Nat→Prop):Prop:=∃ F',DeskAt w' gp S X F'∧(∀ y,F' y→F y∨w.heap.size≤y)∧Chg F w w'
theorem Moved.refl {w:World} {q:Nat} {S:Zh} {d:ZB} {F:Nat→Prop} (h:DeskAt w q S d F):Moved w w q S d F:=⟨F,h,fun _ m=>.inl m,Chg.refl _ _⟩
theorem Moved.trans {w w1 I:World} {U:Nat} {m q:Zh} {A D:ZB} {F:Nat→Prop} (L:Moved w w1 U m A F) (M:∀ d,DeskAt w1 U m A d→Moved w1 I U q D d):Moved w I U q D F:=by
 obtain ⟨d,hd,hF,E⟩:=L;obtain ⟨J,Q,N,O⟩:=M d hd;refine ⟨J,Q,fun y R=>?_,E.trans O hF⟩;rcases N y R with h | h
 ·exact hF y h
 ·exact .inr (Ym E.size h)
theorem Moved.below {w w1 q:World} {m:Nat} {S:Zh} {h:ZB} {F:Nat→Prop} (d:Moved w w1 m S h F) (hb:Below w1.heap.size w1 q):Moved w q m S h F:=
 d.trans (fun A hd=>⟨A,hd.keep (G:=fun _=>False) (Chg.of_below hb) (fun _ _ d=>d),fun _ D=>.inl D,Chg.of_below hb⟩)
theorem Moved.desk {w w1:World} {m:Nat} {S:Zh} {q:ZB} {F:Nat→Prop} (h:Moved w w1 m S q F):∃ d,DeskAt w1 m S q d:=let ⟨d,hd,_⟩:=h;⟨d,hd⟩
theorem Moved.step {w w1:World} {m:Nat} {S:Zh} {E:ZB} {F:Nat→Prop} (d:Moved w w1 m S E F):∃ h,DeskAt w1 m S E h∧∀ D q A,Moved w1 D m q A h→Moved w D m q A F:=by
 obtain ⟨h,hd,hF,I⟩:=d;refine ⟨h,hd,fun D q A L=>?_⟩;obtain ⟨J,O,M,N⟩:=L;refine ⟨J,O,fun y Q=>?_,I.trans N hF⟩;rcases M y Q with d | d
 ·exact hF y d
 ·exact .inr (Ym I.size d)
theorem Moved.after {w w1 q:World} {m:Nat} {S:Zh} {h:ZB} {F:Nat→Prop} (hb:Below w.heap.size w w1) (d:Moved w1 q m S h F):Moved w q m S h F:=by
 obtain ⟨A,hd,hF,D⟩:=d;refine ⟨A,hd,fun y I=>?_,(Chg.of_below hb).trans D (fun x E=>.inl E)⟩;rcases hF y I with d | d
 ·exact .inl d
 ·exact .inr (Ym hb.size d)
theorem Zfo {w m:World} {q:Nat} {S:Zh} {E:ZB} {F:Nat→Prop} {V:Option Addr} {U:Nat} {so:Option Addr} {sc:Nat} {wo:Option Addr} {wc:Nat} {Y:Option Addr} {X:Nat} {R:Option Addr} {N B:Nat} (h:DeskX w q S E F V U so sc wo wc Y X R N) (d:F q) (aa:∀ x,F x→x<w.heap.size) (ss:List Srv) (L:Option Addr) (J:Nat) (op:Int)
  (ag:m.heap[q]?=some (ZG S.bud V S.pools.length U L ss.length J wo S.wts.length wc op ⟨.slice Y S.plan.length X,S.begun,S.back,E.hb,.slice R E.hps.length N⟩))
  (ab:m.ownsRow B 86 4 (.slice L ss.length J) ss.length (Zv ss)) (af:∀ g,(Value.slice L ss.length J).ownBlock=some g→(Value.slice so S.srv.length sc).ownBlock=some g∨w.heap.size≤g)
  (O:Chg (fun y=>y=q∨(Value.slice so S.srv.length sc).ownBlock=some y) w m):Moved w m q {S with srv:=ss} {E with op:=op} F:=by
 have ac:∀ g,F g→Nxt F w m g:=fun g d=>⟨.inl d,Yl (aa g d) O.size⟩
 have I:∀ {D:TypeId} {sz n:Nat} {v:Value} {M:List Value},Held w F D sz v n M→D≠86→D≠95→Held m (Nxt F w m) D sz v n M:=by
  intro D sz n v M A ad ae;refine ⟨Zz A.own (fun j Q=>O.block j (aa j (A.blk j Q)) ?_),fun g d=>ac g (A.blk g d)⟩;rintro (e | e)
  ·exact Zd7 A.own h.box ae (by rw [←e];exact Q)
  ·exact ZiV A.own h.s.own ad Q e
 refine ⟨Nxt F w m,⟨⟨V,U,L,J,wo,wc,Y,X,R,N,ag,I h.p (by decide) (by decide),⟨Zr ab (Ye _),fun g d=>⟨?_,(ab.lt g d).2⟩⟩,I h.t (by decide) (by decide),I h.l (by decide) (by decide),I h.h (by decide) (by decide)⟩,ac q d,fun x ah=>ah.2⟩,fun y ai=>ai.1,O.mono ?_⟩
 ·rcases af g d with e | e
  ·exact .inl (h.s.blk g e)
  ·exact .inr e
 ·rintro y (rfl | e)
  ·exact d
  ·exact h.s.blk y e
theorem ZkJ {w m:World} {q:Nat} {S:Zh} {D:ZB} {F:Nat→Prop} {X:Option Addr} {V:Nat} {so:Option Addr} {sc:Nat} {wo:Option Addr} {wc:Nat} {aa:Option Addr} {Y:Nat} {U:Option Addr} {O B:Nat} (h:DeskX w q S D F X V so sc wo wc aa Y U O) (d:F q) (ab:∀ x,F x→x<w.heap.size) (A:List Wtr) (M:Option Addr) (L:Nat)
  (ah:m.heap[q]?=some (ZG S.bud X S.pools.length V so S.srv.length sc M A.length L D.op ⟨.slice aa S.plan.length Y,S.begun,S.back,D.hb,.slice U D.hps.length O⟩))
  (ac:m.ownsRow B 88 2 (.slice M A.length L) A.length (ZE A)) (ag:∀ g,(Value.slice M A.length L).ownBlock=some g→(Value.slice wo S.wts.length wc).ownBlock=some g∨w.heap.size≤g)
  (Q:Chg (fun y=>y=q∨(Value.slice wo S.wts.length wc).ownBlock=some y) w m):Moved w m q {S with wts:=A} D F:=by
 have ad:∀ g,F g→Nxt F w m g:=fun g d=>⟨.inl d,Yl (ab g d) Q.size⟩
 have J:∀ {I:TypeId} {sz n:Nat} {v:Value} {N:List Value},Held w F I sz v n N→I≠88→I≠95→Held m (Nxt F w m) I sz v n N:=by
  intro I sz n v N E ae af;refine ⟨Zz E.own (fun j R=>Q.block j (ab j (E.blk j R)) ?_),fun g d=>ad g (E.blk g d)⟩;rintro (e | e)
  ·exact Zd7 E.own h.box af (by rw [←e];exact R)
  ·exact ZiV E.own h.t.own ae R e
 refine ⟨Nxt F w m,⟨⟨X,V,so,sc,M,L,aa,Y,U,O,ah,J h.p (by decide) (by decide),J h.s (by decide) (by decide),⟨Zr ac (Ye _),fun g d=>⟨?_,(ac.lt g d).2⟩⟩,J h.l (by decide) (by decide),J h.h (by decide) (by decide)⟩,ad q d,fun x ai=>ai.2⟩,fun y aj=>aj.1,Q.mono ?_⟩
 ·rcases ag g d with e | e
  ·exact .inl (h.t.blk g e)
  ·exact .inr e
 ·rintro y (rfl | e)
  ·exact d
  ·exact h.t.blk y e
theorem Zi7 (aa:Nat) (m:Int) (S:Zh) (d:ZB) (F:Nat→Prop) (w:World) (h:DeskAt w aa S d F) (J:S.srv.length≤1099511627776) :
  Calls Tryz.prog 128 #[.pointer (some ⟨aa,0,none⟩),.int .i64 m] w fun e D=>(∃ x,e=.returned x)∧Moved w D aa (ZR S m) d F:=by
 obtain ⟨Q,O,so,sc,wo,wc,Y,X,V,U,q⟩:=h.ex;refine (ZoR aa S.bud Q _ O so _ sc wo _ wc d.op _ m S.srv w q.box (Zf q.s.own) rfl J).mono ?_;rintro e D ⟨E,R,vc,M,A,N⟩;exact ⟨E,Zfo q h.gp h.lt (S.srv.filter (Za7 m)) R vc d.op M A (fun g I=>.inr (A.lt g I).1) (N.mono (fun y L=>.inl L))⟩
theorem Zk9 (d:Nat) (c:Int) (S:Zh) (Y:ZB) (F:Nat→Prop) (w:World) (h:DeskAt w d S Y F) (I:S.wts.length≤1099511627776) :
  Calls Tryz.prog 125 #[.pointer (some ⟨d,0,none⟩),.int .i64 c] w fun e A=>(∃ x,e=.returned x)∧Moved w A d (ZO S c) Y F:=by
 obtain ⟨O,N,so,sc,wo,wc,X,V,U,R,m⟩:=h.ex;refine (ZoI d S.bud O _ N so _ sc wo _ wc Y.op _ c S.wts w m.box (Zf m.t.own) rfl I).mono ?_;rintro e A ⟨D,Q,vc,L,q,M⟩;exact ⟨D,ZkJ m h.gp h.lt (S.wts.filter (Zbz c)) Q vc L q (fun g E=>.inr (q.lt g E).1) (M.mono (fun y J=>.inl J))⟩
theorem Zq3 (m:Nat) (d c:Int) (S:Zh) (aa:ZB) (F:Nat→Prop) (w:World) (h:DeskAt w m S aa F) (J:S.srv.length≤1099511627776) :
  Calls Tryz.prog 126 #[.pointer (some ⟨m,0,none⟩),.int .i64 d,.int .i64 c] w fun e E=>(∃ x,e=.returned x)∧Moved w E m (ZT S d c) aa F:=by
 obtain ⟨R,Q,so,sc,wo,wc,Y,X,V,U,A⟩:=h.ex;refine (Zok 0 m S.bud R _ Q so _ sc wo _ wc aa.op _ d c S.srv w A.box A.s.own rfl J).mono ?_;rintro e E ⟨I,M,N,O⟩;have q:(S.srv.map (Zc4 d c)).length=S.srv.length:=List.length_map _;have:=Zfo (B:=0) A h.gp h.lt (S.srv.map (Zc4 d c)) so sc aa.op (by rw [q];exact M) (by rw [q];exact N) (fun g D=>.inl (by rw [q] at D;exact D)) (O.mono (fun y L=>.inr L));exact ⟨I,this⟩
theorem Ztp (d:Nat) (c:Int) (nm:ByteArray) (S:Zh) (Y:ZB) (F:Nat→Prop) (w:World) (h:DeskAt w d S Y F) (E:S.wts.length+1≤1099511627776) :
  Calls Tryz.prog 122 #[.pointer (some ⟨d,0,none⟩),.int .i64 c,.string nm] w fun e A=>(∃ x,e=.returned x)∧Moved w A d (Zad S c nm) Y F:=by
 obtain ⟨Q,O,so,sc,wo,wc,X,V,U,R,m⟩:=h.ex;refine (Zpc 0 d S.bud Q _ O so _ sc wo _ wc Y.op _ c nm S.wts w m.box m.t.own (Ye _) E).mono ?_;rintro e A ⟨D,g,vc,J,L,M,N⟩;have q:(S.wts++[(⟨c,nm⟩:Wtr)]).length=S.wts.length+1:=by simp
 have:=ZkJ (B:=0) m h.gp h.lt (S.wts++[⟨c,nm⟩]) (some ⟨g,0,none⟩) vc (by rw [q];exact J) (by rw [q];exact L) (fun y I=>by
  have e:g=y:=by simpa [Value.ownBlock] using I
  rw [←e];exact N) M
 exact ⟨D,this⟩
theorem ZtM (aa:Nat) (x:Pl) (c:Int) (S:Zh) (d:ZB) (F:Nat→Prop) (w:World) (h:DeskAt w aa S d F) (I:S.srv.length+1≤1099511627776) (E:0≤d.op∧d.op<9223372036854775807) :
  Calls Tryz.prog 184 #[.pointer (some ⟨aa,0,none⟩),plA x,.int .i64 c] w fun e A=>(∃ x,e=.returned x)∧Moved w A aa (ZeD S d.op x c) {d with op:=d.op+1} F:=by
 obtain ⟨R,Q,so,sc,wo,wc,Y,X,V,U,m⟩:=h.ex;refine (ZoE 0 aa S.bud R _ Q so _ sc wo _ wc d.op _ x.nm x.sz x.wt x.fr c S.srv w m.box m.s.own (Ye _) I E).mono ?_;rintro e A ⟨D,g,vc,L,M,N,O⟩;have q:(S.srv++[(⟨d.op+1,x.nm,x.fr,c⟩:Srv)]).length=S.srv.length+1:=by simp
 have:=Zfo (B:=0) m h.gp h.lt (S.srv++[⟨d.op+1,x.nm,x.fr,c⟩]) (some ⟨g,0,none⟩) vc (d.op+1) (by rw [q];exact L) (by rw [q];exact M) (fun y J=>by
  have e:g=y:=by simpa [Value.ownBlock] using J
  rw [←e];exact O) N
 exact ⟨D,this⟩
theorem ZeY {l:List Srv} {p:Srv→Bool} (h:∀ x∈l,x.id≠0):((orS (l.find? p)).id == 0)=(l.find? p).isNone:=by
 cases d:l.find? p with
 | none=>rfl
 | some s =>
  have:=h s (List.mem_of_find?_eq_some d);simpa [orS] using this
theorem DeskX.nx {w E:World} {M:Nat} {S:Zh} {d:ZB} {F:Nat→Prop} {D:Option Addr} {A:Nat} {so:Option Addr} {sc:Nat} {wo:Option Addr} {wc:Nat} {J:Option Addr} {I:Nat} {q:Option Addr} {m:Nat} (h:DeskX w M S d F D A so sc wo wc J I q m) (L:M<w.heap.size) (hb:Below w.heap.size w E):E.heap[M]?=some (ZG S.bud D S.pools.length A so S.srv.length sc wo S.wts.length wc d.op ⟨.slice J S.plan.length I,S.begun,S.back,d.hb,.slice q d.hps.length m⟩):=
 (hb.block M L).trans h.box
def ZbQ (S:Zh):Option Zh:=if (S.srv.length:Int)<S.bud then some S else match S.srv.find? (Zp 0) with | none=>none | some s=>if S.bud<(S.srv.length:Int) then none else some (ZR S s.id)
theorem Zty (q:Nat) (S:Zh) (X:ZB) (F:Nat→Prop) (w:World) (h:DeskAt w q S X F) (au:∀ x∈S.srv,x.id≠0) (ax:S.srv.length≤1099511627776) :
  Calls Tryz.prog 183 #[.pointer (some ⟨q,0,none⟩)] w fun e w'=>e=.returned (.bool (ZbQ S).isSome)∧Moved w w' q ((ZbQ S).getD S) X F:=by
 obtain ⟨bk,bj,so,sc,wo,wc,bm,bl,bi,bh,aj⟩:=h.ex;have ar:q<w.heap.size:=h.lt q h.gp;obtain ⟨J,M,L,N,O,Q⟩:=ZS aj.box;have bp:=Za h;have HX:=Za aj;obtain ⟨n,ah⟩:∃ n,S.srv.length=n:=⟨_,rfl⟩;obtain ⟨bud,ag⟩:∃ b,S.bud=b:=⟨_,rfl⟩;rw [ah] at L ax;rw [ag] at J;have d:=Za (And.intro ah ag);have bc:=Za au;clear h aj ah ag au;by_cases bf:(n:Int)<bud
 ·have bo:Hid (ZbQ S=some S):=by
   show _=_;unfold ZbQ;rw [if_pos (by rw [d.out.1,d.out.2];exact bf)]
  go_enter Tryz.func183,Tryz.ntmps183
  go_upto_region 1 with fail
  go_quiet (fail)
  go_wp2_with fail
  go_ret
  refine ⟨by rw [bo.out];rfl,?_⟩;rw [bo.out];exact (Moved.refl bp.out).below (below_drewN (Yh _ _) _)
 ·go_enter Tryz.func183,Tryz.ntmps183
  go_upto_region 1 with fail
  go_quiet (fail)
  obtain ⟨wd,ai⟩:∃ wd,w.drewN nq=wd:=⟨_,rfl⟩;have ab:Below w.heap.size w wd:=by rw [←ai];exact below_drewN (Yh _ _) _
  rw [ai];have a9:=Za ab;have I:=HX.out.nx ar ab;rw [d.out.1,d.out.2] at I;have HI:=Za (ZiK so n sc S.srv wd (by have:=Zf HX.out.s.own;rw [d.out.1] at this;exact this.nx ab) d.out.1 (by unfold maxLen;omega));clear J M L N O Q ai ab;obtain ⟨J,M,L,N,O,Q⟩:=ZS I;clear I;go_wp2_with fail
  refine HI.out.mono ?_;rintro e w1 ⟨rfl,ap⟩;have Y:=Za (ZeY (p:=Zp 0) bc.out);obtain ⟨⟨A,R,U,V⟩,ak⟩:∃ x,orS (S.srv.find? (Zp 0))=x:=⟨_,rfl⟩;rw [ak] at Y ⊢;simp only at Y;have bd:=Za ak;obtain ⟨m,aa⟩:∃ m,m=w1.alloc (.cells #[.int .i64 A,.string R,.int .i64 U,.int .i64 V] 86):=⟨_,rfl⟩;have af:Below w.heap.size w m:=by rw [aa];exact Zb (Zb a9.out ap) (Zc _ _)
  have D:Hid (m=w1.alloc (.cells #[.int .i64 A,.string R,.int .i64 U,.int .i64 V] 86)∧m.heap[w1.heap.size]?=some (.cells #[.int .i64 A,.string R,.int .i64 U,.int .i64 V] 86)∧Below w.heap.size w m):=⟨aa,by rw [aa];exact Zd _ _ rfl,af⟩;have I:=HX.out.nx ar af;rw [d.out.1,d.out.2] at I;clear ak ap aa af HI J M L N O Q;go_upto_region 4 with fail
  rw [←D.out.1];obtain ⟨J,M,L,N,O,Q⟩:=ZS I;obtain ⟨a0,a1,a6,a7,a8⟩:=ZaE D.out.2.1;clear I;cases aq:decide (bud<(n:Int)) with
  | true =>
   have bo:Hid (ZbQ S=none):=by
    show _=_;have hb:bud<(n:Int):=of_decide_eq_true aq;unfold ZbQ;rw [if_neg (by rw [d.out.1,d.out.2];omega)];cases S.srv.find? (Zp 0) with
    | none=>rfl
    | some s=>simp only;rw [if_pos (by rw [d.out.1,d.out.2];exact hb)]
   go_quiet (fail)
   go_wp2_with fail
   go_ret
   refine ⟨by rw [bo.out];rfl,?_⟩;rw [bo.out];exact (Moved.refl bp.out).below (below_drewN D.out.2.2 _)
  | false =>
   cases ay:(A == 0) with
   | true =>
    have bo:Hid (ZbQ S=none):=by
     show _=_;unfold ZbQ;rw [if_neg (by rw [d.out.1,d.out.2];omega)];cases ac:S.srv.find? (Zp 0) with
     | none=>rfl
     | some s=>have:=Y.out;rw [ay,ac] at this;simp at this
    go_quiet (fail)
    go_wp2_with fail
    go_ret
    refine ⟨by rw [bo.out];rfl,?_⟩;rw [bo.out];exact (Moved.refl bp.out).below (below_drewN D.out.2.2 _)
   | false =>
    have bo:Hid (ZbQ S=some (ZR S A)):=by
     show _=_;have hb:¬bud<(n:Int):=of_decide_eq_false aq;unfold ZbQ;rw [if_neg (by rw [d.out.1,d.out.2];omega)];cases ac:S.srv.find? (Zp 0) with
     | none=>have:=Y.out;rw [ay,ac] at this;simp at this
     | some s =>
      have:=bd.out;rw [ac] at this;simp only;rw [if_neg (by rw [d.out.1,d.out.2];exact hb),show s.id=A by rw [show s=⟨A,R,U,V⟩ from this]]
    go_quiet (fail)
    obtain ⟨E,ad⟩:∃ E,m.drewN nq=E:=⟨_,rfl⟩;have ae:Below m.heap.size m E:=by rw [←ad];exact below_drewN (Yh _ _) _
    rw [ad];have KM:Hid (Moved w E q S X F):=((Moved.refl bp.out).below D.out.2.2).below ae;have HY:Hid (E.heap[w1.heap.size]?=some (.cells #[.int .i64 A,.string R,.int .i64 U,.int .i64 V] 86)):=(ae.block _ (Ya.1 D.out.2.1).1).trans D.out.2.1;clear ad ae J M L N O Q a0 a1 a6 a7 a8;obtain ⟨a0,a1,a6,a7,a8⟩:=ZaE HY.out;obtain ⟨al,hd,aw⟩:=KM.out.step;have HS:=Za (Zi7 q A S X al E hd (by rw [d.out.1];exact ax));have be:=Za (aw:∀ az am ao,Moved E az q am ao al→Moved w az q am ao F);clear hd aw;go_wp2_with fail
    refine HS.out.mono ?_;rintro e bg ⟨⟨x,rfl⟩,av⟩;have KF:=Za (be.out bg _ _ av);clear av;go_wp2_with fail
    go_ret
    refine ⟨by rw [bo.out];rfl,?_⟩;rw [bo.out];exact KF.out
theorem Ztr (A:Nat) (c:Int) (S:Zh) (X:ZB) (F:Nat→Prop) (w:World) (h:DeskAt w A S X F) (af:∀ x∈S.srv,x.id≠0) (ao:S.srv.length≤1099511627776) (ap:S.wts.length≤1099511627776) :
  Calls Tryz.prog 120 #[.pointer (some ⟨A,0,none⟩),.int .i64 c] w fun e w'=>e=.returned (.bool ((S.srv.find? (Zp c)).isSome||(S.wts.find? (Z3 c)).isSome))∧Below w.heap.size w w':=by
 obtain ⟨ar,aq,so,sc,wo,wc,a0,az,am,al,I⟩:=h.ex;have ak:A<w.heap.size:=h.lt A h.gp;obtain ⟨V,a7,Y,aa,ab,ac⟩:=ZS I.box;have U:=Za I;have J:=Za (ZhV so _ sc c S.srv w (Zf I.s.own) rfl (by unfold maxLen;omega));have m:=Za (ZeY (p:=Zp c) af);obtain ⟨⟨a6,O,Q,R⟩,ag⟩:∃ x,orS (S.srv.find? (Zp c))=x:=⟨_,rfl⟩;rw [ag] at J m;simp only at m;clear h I af ag;go_enter Tryz.func120,Tryz.ntmps120
 go_wp2_with fail
 refine J.out.mono ?_;rintro e w1 ⟨rfl,ad⟩;obtain ⟨d,D⟩:∃ d,d=w1.alloc (.cells #[.int .i64 a6,.string O,.int .i64 Q,.int .i64 R] 86):=⟨_,rfl⟩;have E:Below w.heap.size w d:=by rw [D];exact Zb ad (Zc _ _)
 have q:Hid (d=w1.alloc (.cells #[.int .i64 a6,.string O,.int .i64 Q,.int .i64 R] 86)∧d.heap[w1.heap.size]?=some (.cells #[.int .i64 a6,.string O,.int .i64 Q,.int .i64 R] 86)∧Below w.heap.size w d):=⟨D,by rw [D];exact Zd _ _ rfl,E⟩;have ai:=Za (ZoZ wo _ wc c S.wts d ((Zf U.out.t.own).nx E) rfl (by unfold maxLen;omega));have ae:=U.out.nx ak E;clear ad D E J V a7 Y aa ab ac;go_upto_region 2 with fail
 rw [←q.out.1];obtain ⟨V,a7,Y,aa,ab,ac⟩:=ZS ae;obtain ⟨av,aw,ax,ay,a1⟩:=ZaE q.out.2.1;clear ae;cases ah:(a6 != 0) with
 | true =>
  have L:Hid ((S.srv.find? (Zp c)).isSome=true):=by
   show _=_;have M:(a6 == 0)=false:=by simpa [bne] using ah
   have:=m.out;rw [M] at this;cases N:S.srv.find? (Zp c) with
   | none=>rw [N] at this;simp at this
   | some s=>rfl
  go_wp2_with fail
  go_ret
  exact ⟨by rw [L.out];rfl,q.out.2.2⟩
 | false =>
  have L:Hid ((S.srv.find? (Zp c)).isSome=false):=by
   show _=_;have M:(a6 == 0)=true:=by simpa [bne] using ah
   have:=m.out;rw [M] at this;cases N:S.srv.find? (Zp c) with
   | none=>rfl
   | some s=>rw [N] at this;simp at this
  go_wp2_with fail
  refine ai.out.mono ?_;rintro e au ⟨rfl,aj⟩;obtain rfl:=aj.symm;go_wp2_with fail
  go_ret
  exact ⟨by rw [L.out];simp,q.out.2.2⟩
structure Fnd (W:World) (x:Pl) (g:Nat) (wz:World):Prop where
 new:W.heap.size≤g
 box:wz.heap[g]?=some (ZF x)
 bel:Below W.heap.size W wz
theorem ZqY {W h:World} {x:Pl} (d:Below W.heap.size W h):Fnd W x h.heap.size (h.alloc (ZF x)):=⟨d.size,Zd _ _ rfl,d.alloc d.size _⟩
theorem Zra {W d:World} {x z:Pl} (h:Below W.heap.size W d) (m:d.heap[W.heap.size]?=some (ZF z)):Fnd W x W.heap.size ((((d.setCell ⟨W.heap.size,0,none⟩ (.string x.nm)).setCell ⟨W.heap.size,1,none⟩ (.int .i64 x.sz)).setCell ⟨W.heap.size,2,none⟩ (.int .i64 x.wt)).setCell ⟨W.heap.size,3,none⟩ (.int .i64 x.fr)):=
 ⟨Yd _,Zm _ _ _ _ _ _ (Zm _ _ _ _ _ _ (Zm _ _ _ _ _ _ (Zm _ _ _ _ _ _ m))),(((h.setCell (Yd _) _).setCell (Yd _) _).setCell (Yd _) _).setCell (Yd _) _⟩
theorem Zit (o:Option Pl):ZhT o=.tuple #[plA (o.getD zPl),.bool o.isSome]:=by cases o <;> rfl
abbrev bSv (i:Int) (p:ByteArray) (f c:Int):Obj:=.cells #[.int .i64 i,.string p,.int .i64 f,.int .i64 c] 86
abbrev bWt (c:Int) (p:ByteArray):Obj:=.cells #[.int .i64 c,.string p] 88
theorem ZqI (D:Nat) (L:Int) (d:ByteArray) (A J:Int) (S:Zh) (X:ZB) (F:Nat→Prop) (w:World) (h:DeskAt w D S X F) (bx:S.srv.length≤1099511627776) (bz:S.pools.length≤1099511627776) :
  Calls Tryz.prog 127 #[.pointer (some ⟨D,0,none⟩),.agg #[.int .i64 L,.string d,.int .i64 A,.int .i64 J]] w fun e cm=>e=.returned (.bool (ZaY S ⟨L,d,A,J⟩))∧Below w.heap.size w cm:=by
 obtain ⟨aq,ap,so,sc,wo,wc,cb,ca,bw,bt,bo⟩:=h.ex;have am:D<w.heap.size:=h.lt D h.gp;obtain ⟨ab,a7⟩:∃ n,S.pools.length=n:=⟨_,rfl⟩;obtain ⟨n,a6⟩:∃ n,S.srv.length=n:=⟨_,rfl⟩;obtain ⟨bud,bh⟩:∃ b,S.bud=b:=⟨_,rfl⟩;rw [a7] at bz;rw [a6] at bx;have m:Hid (S.pools.length=ab∧S.srv.length=n∧S.bud=bud):=⟨a7,a6,bh⟩;have HX:=Za bo;have HH:=Za h;obtain ⟨cl,V⟩:∃ cl,cl=w.alloc (bSv L d A J):=⟨_,rfl⟩;have co:Below w.heap.size w cl:=by rw [V];exact Zc _ _
 have U:Hid (cl=w.alloc (bSv L d A J)∧cl.heap[w.heap.size]?=some (bSv L d A J)∧Below w.heap.size w cl∧w.heap.size<cl.heap.size):=⟨V,by rw [V];exact Zd _ _ rfl,co,by rw [V];simp⟩;have bv:D<cl.heap.size:=Yl am co.size;have bm:w.heap.size<cl.heap.size:=U.out.2.2.2;have a0:=HX.out.nx am co;rw [m.out.1,m.out.2.1,m.out.2.2] at a0;obtain ⟨⟨⟨av,I,aw,E⟩,ac⟩,a1⟩:∃ y:Pl×Bool,((S.pools.find? (Zl d)).getD zPl,(S.pools.find? (Zl d)).isSome)=y:=⟨_,rfl⟩;have ae:Hid ((S.pools.find? (Zl d)).getD zPl=⟨av,I,aw,E⟩∧(S.pools.find? (Zl d)).isSome=ac):=⟨congrArg Prod.fst a1,congrArg Prod.snd a1⟩;have HF:Hid (∀ u,Below cl.heap.size cl u→Calls Tryz.prog 121 #[.slice aq ab ap,.string d] u fun e cm=>e=.returned (.tuple #[.agg #[.string av,.int .i64 I,.int .i64 aw,.int .i64 E],.bool ac])∧Below u.heap.size u cm):=by
  intro u aa;have Y:=Zf HX.out.p.own;rw [m.out.1] at Y;refine (Zjp aq ab ap d S.pools u ((Y.nx co).nx aa) m.out.1 (by unfold maxLen;omega)).mono ?_;rintro e cm ⟨rfl,hb⟩;refine ⟨?_,hb⟩;rw [Zit,ae.out.1,ae.out.2]
 have HM:Hid (∀ u,Below w.heap.size w u→u.heap[D]?=some (ZG bud aq ab ap so n sc wo S.wts.length wc X.op ⟨.slice cb S.plan.length ca,S.begun,S.back,X.hb,.slice bw X.hps.length bt⟩)):=by
  intro u aa;have:=HX.out.nx am aa;rw [m.out.1,m.out.2.1,m.out.2.2] at this;exact this
 have HC:Hid (∀ u ao,Below w.heap.size w u→Calls Tryz.prog 139 #[.slice so n sc,.string ao] u fun e cm=>e=.returned (.int .i64 (Zs (Zj ao) S.srv:Int))∧Below u.heap.size u cm):=by
  intro u ao aa;have Y:=Zf HX.out.s.own;rw [m.out.2.1] at Y;exact Ze4 so n sc ao S.srv u (Y.nx aa) m.out.2.1 (by omega)
 have ag:Hid (ZaY S ⟨L,d,A,J⟩=(!ac||(!decide (A=E)||decide (I<(Zs (Zj d) S.srv:Int))||decide (bud<(n:Int))))):=by
  show _=_;unfold ZaY;simp only;rw [←ae.out.2,m.out.2.1,m.out.2.2];cases bu:S.pools.find? (Zl d) with
  | none=>rfl
  | some y =>
   have:y=⟨av,I,aw,E⟩:=by have:=ae.out.1;rw [bu] at this;exact this
   rw [this];simp
 obtain ⟨ah,Q,R,ai,aj,ak⟩:=ZS a0;obtain ⟨ax,O,b2,b3,ay⟩:=ZaE U.out.2.1;have bc:=Yg cl _ Q;have b0:=Yg cl _ O;clear h bo a7 a6 bh V co a0 a1;go_enter Tryz.func127,Tryz.ntmps127
 go_upto_region 1 with fail
 rw [←U.out.1];go_cut [5,6] (fun p ok bd=>ok=.bool ac∧∃ (g:Nat) (wz:World),p=.pointer (some ⟨g,0,none⟩)∧Hid (Fnd cl ⟨av,I,aw,E⟩ g wz)∧wz=bd)
 case first =>
  go_region_held3 (fun cm=>cm.cell? ⟨D,1,none⟩=some (.slice aq ab ap)∧cm.cell? ⟨w.heap.size,1,none⟩=some (.string d)) (go_keep)
   ((go_at_call 121;refine (HF.out _ (by first | exact (Yh _ _).drew | exact (Yh _ _).drew.alloc (Yd _) _)).mono ?_;rintro e ar ⟨rfl,al⟩;have ad:Hid (Below cl.heap.size cl ar):=(by first | exact Zb (Yh _ _).drew al | exact Zb ((Yh _ _).drew.alloc (Yd _) _) al);have bq:=(ad.out.cell (p:=⟨D,1,none⟩) bv).trans Q;have br:=(ad.out.cell (p:=⟨w.heap.size,1,none⟩) bm).trans O;have cj:=Yg ar _ bq;have ck:=Yg ar _ br;first | (have be:Hid (ar.heap[cl.heap.size]?=some (ZF zPl)):=(al.block cl.heap.size (by simp)).trans (Zd cl.drew (ZF zPl) rfl);obtain ⟨cd,ce,cf,cg,ch⟩:=ZaE be.out) | skip;clear al))
  all_goals
   go_wp2_with fail
   go_meet
   first
   | exact ⟨rfl,_,_,rfl,ZqY ad.out,rfl⟩
   | exact ⟨rfl,_,_,rfl,Zra ad.out be.out,rfl⟩
 case rest =>
  obtain ⟨rfl,g,wz,rfl,af,rfl⟩:=hcut;have N:Hid (Below w.heap.size w wz):=Zb U.out.2.2.1 af.out.bel;have a9:wz.heap[w.heap.size]?=some (bSv L d A J):=(af.out.bel.block _ bm).trans U.out.2.1;have bk:=HM.out wz N.out;clear ah Q R ai aj ak ax O b2 b3 ay bc b0;obtain ⟨ah,Q,R,ai,aj,ak⟩:=ZS bk;obtain ⟨ax,O,b2,b3,ay⟩:=ZaE a9;obtain ⟨b1,bp,b6,b7,b8⟩:=ZaE af.out.box;have bs:=Za a9;clear bk a9;cases ac with
  | false =>
   go_wp2_with fail
   go_ret
   exact ⟨by rw [ag.out];rfl,N.out⟩
  | true =>
   cases bl:(A != E) with
   | true =>
    have HE:Hid (decide (A=E)=false):=by
     show _=_;simpa using bl
    go_wp2_with fail
    go_ret
    exact ⟨by rw [ag.out,HE.out];rfl,N.out⟩
   | false =>
    have HE:Hid (decide (A=E)=true):=by
     show _=_;simpa using bl
    have bc:=Yg wz _ R;go_upto_region 4 with fail
    obtain ⟨q,a8⟩:∃ q,Zs (Zj d) S.srv=q:=⟨_,rfl⟩;have HQ:Hid (Zs (Zj d) S.srv=q∧q≤n):=⟨a8,by rw [←a8,←m.out.2.1];exact Yp _ _⟩;have cc:q≤n:=HQ.out.2;clear a8;go_cut [36] (fun v bd=>v=.bool (decide (I<(q:Int)))∧∃ au,Hid (Below wz.heap.size wz au)∧au=bd)
    case first =>
     go_region_held3 (fun cm=>cm.cell? ⟨D,2,none⟩=some (.slice so n sc)∧cm.cell? ⟨w.heap.size,1,none⟩=some (.string d)∧cm.cell? ⟨g,1,none⟩=some (.int .i64 I)) (go_keep)
      ((go_at_call 139;refine (HC.out _ d (Zb N.out ((Yh _ _).drew))).mono ?_;rintro e b9 ⟨rfl,bg⟩;rw [HQ.out.1];have M:Hid (Below wz.heap.size wz b9):=Zb (Yh _ _).drew bg;have bq:=(M.out.cell (p:=⟨D,2,none⟩) (Yl am N.out.size)).trans R;have br:=(M.out.cell (p:=⟨w.heap.size,1,none⟩) (Ya.1 bs.out).1).trans O;have ci:=(M.out.cell (p:=⟨g,1,none⟩) (Ya.1 af.out.box).1).trans bp;clear bg))
     all_goals
      go_wp2_with fail
      go_meet
      exact ⟨rfl,_,M.out,rfl⟩
    case rest =>
     obtain ⟨rfl,au,M,rfl⟩:=hcut;have az:=Zb N.out M.out;have bf:=Za az;have bj:=HM.out au az;clear ah Q R ai aj ak ax O b2 b3 ay b1 bp b6 b7 b8 bc az;obtain ⟨ah,Q,R,ai,aj,ak⟩:=ZS bj;clear bj;cases bi:decide (I<(q:Int)) with
     | true =>
      go_wp2_with fail
      go_ret
      exact ⟨by rw [ag.out,HE.out,HQ.out.1,bi];rfl,bf.out⟩
     | false =>
      go_upto_region 6 with fail
      go_quiet (fail)
      go_wp2_with fail
      go_ret
      refine ⟨?_,below_drewN bf.out _⟩;rw [ag.out,HE.out,HQ.out.1,bi];simp
structure ZpQ (W:World) (y:Srv) (g:Nat) (wz:World):Prop where
 new:W.heap.size≤g
 box:wz.heap[g]?=some (bSv y.id y.pool y.far y.client)
 bel:Below W.heap.size W wz
theorem Zsk {W h:World} {y:Srv} (d:Below W.heap.size W h):ZpQ W y h.heap.size (h.alloc (bSv y.id y.pool y.far y.client)):=⟨d.size,Zd _ _ rfl,d.alloc d.size _⟩
theorem Ztn {W d:World} {y z:Srv} (h:Below W.heap.size W d) (m:d.heap[W.heap.size]?=some (bSv z.id z.pool z.far z.client)):ZpQ W y W.heap.size ((((d.setCell ⟨W.heap.size,0,none⟩ (.int .i64 y.id)).setCell ⟨W.heap.size,1,none⟩ (.string y.pool)).setCell ⟨W.heap.size,2,none⟩ (.int .i64 y.far)).setCell ⟨W.heap.size,3,none⟩ (.int .i64 y.client)):=
 ⟨Yd _,Zm _ _ _ _ _ _ (Zm _ _ _ _ _ _ (Zm _ _ _ _ _ _ (Zm _ _ _ _ _ _ m))),(((h.setCell (Yd _) _).setCell (Yd _) _).setCell (Yd _) _).setCell (Yd _) _⟩
theorem ZmJ (S:Zh) (op:Int) (c:Wtr):ZaT S op c=match S.pools.find? (Zl c.pool) with
  | none=>none
  | some x=>match S.srv.find? (fun s=>Zj x.nm s&&Zp 0 s) with
   | some s=>some (ZT S s.id c.client,op)
   | none=>if x.sz≤(Zs (Zj x.nm) S.srv:Int) then none else (ZbQ S).map (fun T=>(ZeD T op x c.client,op+1)):=by
 unfold ZaT ZbQ;cases S.pools.find? (Zl c.pool) with
 | none=>rfl
 | some x =>
  simp only;cases S.srv.find? (fun s=>Zj x.nm s&&Zp 0 s) with
  | some s=>rfl
  | none =>
   simp only;split
   ·rfl
   ·split
    ·rfl
    ·cases S.srv.find? (Zp 0) with
     | none=>rfl
     | some s =>
      simp only;split <;> rfl
theorem Zqy (S T:Zh) (d:ZbQ S=some T):T.srv.length≤S.srv.length:=by
 unfold ZbQ at d;split at d
 ·simp at d;rw [←d];exact Yd _
 ·split at d
  ·simp at d
  ·split at d
   ·simp at d
   ·simp at d;rw [←d];exact Yp _ _
def Zq1 (o:Option (Zh×Int)) (w w':World) (gp:Nat) (S:Zh) (X:ZB) (F:Nat→Prop) (e:Ending):Prop:=
 e=.returned (.bool o.isSome)∧Moved w w' gp (o.getD (S,X.op)).1 {X with op:=(o.getD (S,X.op)).2} F
theorem ZtJ (A:Nat) (m:Int) (d8:ByteArray) (S:Zh) (d:ZB) (F:Nat→Prop) (w:World) (h:DeskAt w A S d F) (cv:∀ x∈S.srv,x.id≠0) (cx:S.srv.length+1≤1099511627776) (dl:S.pools.length≤1099511627776) (dk:0≤d.op∧d.op<9223372036854775807) :
  Calls Tryz.prog 167 #[.pointer (some ⟨A,0,none⟩),.agg #[.int .i64 m,.string d8]] w fun e D=>Zq1 (ZaT S d.op ⟨m,d8⟩) w D A S d F e:=by
 obtain ⟨bk,bj,so,sc,wo,wc,dy,dx,dj,dh,cz⟩:=h.ex;have a7:A<w.heap.size:=h.lt A h.gp;obtain ⟨a8,bv⟩:∃ n,S.pools.length=n:=⟨_,rfl⟩;obtain ⟨n,bu⟩:∃ n,S.srv.length=n:=⟨_,rfl⟩;obtain ⟨bud,co⟩:∃ b,S.bud=b:=⟨_,rfl⟩;rw [bv] at dl;rw [bu] at cx;have J:Hid (S.pools.length=a8∧S.srv.length=n∧S.bud=bud):=⟨bv,bu,co⟩;have HX:=Za cz;have HH:=Za h;obtain ⟨E,a1⟩:∃ E,E=w.alloc (bWt m d8):=⟨_,rfl⟩;have a6:Below w.heap.size w E:=by rw [a1];exact Zc _ _
 have K0:Hid (E=w.alloc (bWt m d8)∧E.heap[w.heap.size]?=some (bWt m d8)∧Below w.heap.size w E∧w.heap.size<E.heap.size):=⟨a1,by rw [a1];exact Zd _ _ rfl,a6,by rw [a1];simp⟩;have di:A<E.heap.size:=Yl a7 a6.size;have cy:w.heap.size<E.heap.size:=K0.out.2.2.2;have br:=HX.out.nx a7 a6;rw [J.out.1,J.out.2.1,J.out.2.2] at br;obtain ⟨⟨⟨d9,L,O,N⟩,bi⟩,bs⟩:∃ y:Pl×Bool,((S.pools.find? (Zl d8)).getD zPl,(S.pools.find? (Zl d8)).isSome)=y:=⟨_,rfl⟩;have a0:Hid ((S.pools.find? (Zl d8)).getD zPl=⟨d9,L,O,N⟩∧(S.pools.find? (Zl d8)).isSome=bi):=⟨congrArg Prod.fst bs,congrArg Prod.snd bs⟩;have HF:Hid (∀ u,Below E.heap.size E u→Calls Tryz.prog 121 #[.slice bk a8 bj,.string d8] u fun e D=>e=.returned (.tuple #[.agg #[.string d9,.int .i64 L,.int .i64 O,.int .i64 N],.bool bi])∧Below u.heap.size u D):=by
  intro u R;have ai:=Zf HX.out.p.own;rw [J.out.1] at ai;refine (Zjp bk a8 bj d8 S.pools u ((ai.nx a6).nx R) J.out.1 (by unfold maxLen;omega)).mono ?_;rintro e D ⟨rfl,hb⟩;refine ⟨?_,hb⟩;rw [Zit,a0.out.1,a0.out.2]
 have HM:Hid (∀ u,Below w.heap.size w u→u.heap[A]?=some (ZG bud bk a8 bj so n sc wo S.wts.length wc d.op ⟨.slice dy S.plan.length dx,S.begun,S.back,d.hb,.slice dj d.hps.length dh⟩)):=by
  intro u R;have:=HX.out.nx a7 R;rw [J.out.1,J.out.2.1,J.out.2.2] at this;exact this
 have HC:Hid (∀ u ab,Below w.heap.size w u→Calls Tryz.prog 139 #[.slice so n sc,.string ab] u fun e D=>e=.returned (.int .i64 (Zs (Zj ab) S.srv:Int))∧Below u.heap.size u D):=by
  intro u ab R;have ai:=Zf HX.out.s.own;rw [J.out.2.1] at ai;exact Ze4 so n sc ab S.srv u (ai.nx R) J.out.2.1 (by omega)
 have cf:Hid (∀ u,Below w.heap.size w u→DeskAt u A S d F):=fun u R=>HH.out.keep (G:=fun _=>False) (Chg.of_below R) (fun _ _ h=>h)
 have cg:Hid (∀ y,w.heap.size≤y→¬F y):=fun y d1 Q=>by have:=HH.out.lt y Q;omega
 have c8:Hid (∀ u ab,Below w.heap.size w u→Calls Tryz.prog 182 #[.slice so n sc,.string ab] u fun e D=>e=.returned (svA (orS (S.srv.find? (fun s=>Zj ab s&&Zp 0 s))))∧Below u.heap.size u D):=by
  intro u ab R;have ai:=Zf HX.out.s.own;rw [J.out.2.1] at ai;exact Zmm so n sc ab S.srv u (ai.nx R) J.out.2.1 (by omega)
 have ce:=Za cv;have HG:=Za (ZmJ S d.op ⟨m,d8⟩);have dz:n+1≤1099511627776:=cx;obtain ⟨ap,ah,X,aq,ar,au⟩:=ZS br;obtain ⟨af,V,ag⟩:=Zw K0.out.2.1;have a9:=Yg E _ ah;have b6:=Yg E _ V;clear h cz bv bu co a1 a6 br bs cv;go_enter Tryz.func167,Tryz.ntmps167
 go_upto_region 1 with fail
 rw [←K0.out.1];go_cut [5,6] (fun p ok be=>ok=.bool bi∧∃ (g:Nat) (wz:World),p=.pointer (some ⟨g,0,none⟩)∧Hid (Fnd E ⟨d9,L,O,N⟩ g wz)∧wz=be)
 case first =>
  go_region_held3 (fun D=>D.cell? ⟨A,1,none⟩=some (.slice bk a8 bj)∧D.cell? ⟨w.heap.size,1,none⟩=some (.string d8)) (go_keep)
   ((go_at_call 121;refine (HF.out _ (by first | exact (Yh _ _).drew | exact (Yh _ _).drew.alloc (Yd _) _)).mono ?_;rintro e ad ⟨rfl,aa⟩;have Y:Hid (Below E.heap.size E ad):=(by first | exact Zb (Yh _ _).drew aa | exact Zb ((Yh _ _).drew.alloc (Yd _) _) aa);have bl:=(Y.out.cell (p:=⟨A,1,none⟩) di).trans ah;have bm:=(Y.out.cell (p:=⟨w.heap.size,1,none⟩) cy).trans V;have dt:=Yg ad _ bl;have du:=Yg ad _ bm;first | (have ay:Hid (ad.heap[E.heap.size]?=some (ZF zPl)):=(aa.block E.heap.size (by simp)).trans (Zd E.drew (ZF zPl) rfl);obtain ⟨dm,dp,dq,dr,ds⟩:=ZaE ay.out) | skip;clear aa))
  all_goals
   go_wp2_with fail
   go_meet
   first
   | exact ⟨rfl,_,_,rfl,ZqY Y.out,rfl⟩
   | exact ⟨rfl,_,_,rfl,Zra Y.out ay.out,rfl⟩
 case rest =>
  obtain ⟨rfl,g,wz,rfl,ao,rfl⟩:=hcut;have az:Hid (Below w.heap.size w wz):=Zb K0.out.2.2.1 ao.out.bel;have bz:wz.heap[w.heap.size]?=some (bWt m d8):=(ao.out.bel.block _ cy).trans K0.out.2.1;have cs:=HM.out wz az.out;clear ap ah X aq ar au af V ag a9 b6;obtain ⟨ap,ah,X,aq,ar,au⟩:=ZS cs;obtain ⟨af,V,ag⟩:=Zw bz;obtain ⟨ac,al,av,aw,ax⟩:=ZaE ao.out.box;have ci:=Za bz;clear cs bz;cases bi with
  | false =>
   have HR:Hid (ZaT S d.op ⟨m,d8⟩=none):=by
    show _=_;rw [HG.out];cases Q:S.pools.find? (Zl d8) with
    | none=>rfl
    | some y=>have:=a0.out.2;rw [Q] at this;simp at this
   go_wp2_with fail
   go_ret
   rw [HR.out];exact ⟨rfl,(Moved.refl HH.out).below az.out⟩
  | true =>
   have ch:Hid (S.pools.find? (Zl d8)=some ⟨d9,L,O,N⟩):=by
    show _=_;cases Q:S.pools.find? (Zl d8) with
    | none=>have:=a0.out.2;rw [Q] at this;simp at this
    | some y=>have:=a0.out.1;rw [Q] at this;rw [←this];rfl
   have HZ:=Za (ZeY (p:=fun s=>Zj d9 s&&Zp 0 s) ce.out);obtain ⟨⟨U,bc,s2,s3⟩,b0⟩:∃ y,orS (S.srv.find? (fun s=>Zj d9 s&&Zp 0 s))=y:=⟨_,rfl⟩;have cj:=Za b0;have cb:Hid (∀ u,Below wz.heap.size wz u→Calls Tryz.prog 182 #[.slice so n sc,.string d9] u fun e D=>e=.returned (.agg #[.int .i64 U,.string bc,.int .i64 s2,.int .i64 s3])∧Below u.heap.size u D):=by
    intro u R;have:=c8.out u d9 (Zb az.out R);rw [cj.out] at this;exact this
   rw [b0] at HZ;simp only at HZ;clear b0;have a9:=Yg wz _ X;have b6:=Yg wz _ ac;have cu:A<wz.heap.size:=Yl a7 az.out.size;have bt:g<wz.heap.size:=(Ya.1 ao.out.box).1;go_upto_region 4 with fail
   go_cut [7] (fun p be=>∃ (bo:Nat) (I:World),p=.pointer (some ⟨bo,0,none⟩)∧Hid (ZpQ wz ⟨U,bc,s2,s3⟩ bo I)∧I=be)
   case first =>
    go_region_held3 (fun D=>D.cell? ⟨A,2,none⟩=some (.slice so n sc)∧D.cell? ⟨g,0,none⟩=some (.string d9)) (go_keep)
     ((go_at_call 182;refine (cb.out _ (by first | exact (Yh _ _).drew | exact (Yh _ _).drew.alloc (Yd _) _)).mono ?_;rintro e ad ⟨rfl,aa⟩;have Y:Hid (Below wz.heap.size wz ad):=(by first | exact Zb (Yh _ _).drew aa | exact Zb ((Yh _ _).drew.alloc (Yd _) _) aa);have bl:=(Y.out.cell (p:=⟨A,2,none⟩) cu).trans X;have bm:=(Y.out.cell (p:=⟨g,0,none⟩) bt).trans ac;have dt:=Yg ad _ bl;have du:=Yg ad _ bm;first | (have ay:Hid (ad.heap[wz.heap.size]?=some (bSv 0 ⟨#[]⟩ 0 0)):=(aa.block wz.heap.size (by simp)).trans (Zd wz.drew (bSv 0 ⟨#[]⟩ 0 0) rfl);obtain ⟨dm,dp,dq,dr,ds⟩:=ZaE ay.out) | skip;clear aa))
    all_goals
     go_wp2_with fail
     go_meet
     first
     | exact ⟨_,_,rfl,Zsk (y:=⟨U,bc,s2,s3⟩) Y.out,rfl⟩
     | exact ⟨_,_,rfl,Ztn (y:=⟨U,bc,s2,s3⟩) (z:=Zdn) Y.out ay.out,rfl⟩
   case rest =>
    obtain ⟨bo,I,rfl,bg,rfl⟩:=hcut;have am:Hid (Below w.heap.size w I):=Zb az.out bg.out.bel;have b1:I.heap[w.heap.size]?=some (bWt m d8):=(bg.out.bel.block _ (Ya.1 ci.out).1).trans ci.out;have bw:I.heap[g]?=some (ZF ⟨d9,L,O,N⟩):=(bg.out.bel.block _ bt).trans ao.out.box;have cr:=HM.out I am.out;clear ap ah X aq ar au af V ag ac al av aw ax a9 b6 cu bt;obtain ⟨ap,ah,X,aq,ar,au⟩:=ZS cr;obtain ⟨af,V,ag⟩:=Zw b1;obtain ⟨ac,al,av,aw,ax⟩:=ZaE bw;obtain ⟨b7,b8,b9,ca,c6⟩:=ZaE bg.out.box;have HY:Hid (I.heap[w.heap.size]?=some (bWt m d8)∧I.heap[g]?=some (ZF ⟨d9,L,O,N⟩)∧w.heap.size≤g):=⟨b1,bw,Ym K0.out.2.2.1.size ao.out.new⟩;simp only at b7 b8 b9 ca;clear cr b1 bw cb;cases c0:(U != 0) with
    | true =>
     have HR:Hid (ZaT S d.op ⟨m,d8⟩=some (ZT S U m,d.op)):=by
      show _=_;have bp:(U == 0)=false:=by simpa [bne] using c0
      rw [HG.out];simp only;rw [ch.out];simp only;cases Q:S.srv.find? (fun s=>Zj d9 s&&Zp 0 s) with
      | none=>have:=HZ.out;rw [bp,Q] at this;simp at this
      | some s =>
       have:=cj.out;rw [Q] at this;simp only;rw [show s.id=U by rw [show s=⟨U,bc,s2,s3⟩ from this]]
     have db:=Za (Zq3 A U m S d F I (cf.out I am.out) (by rw [J.out.2.1];omega));go_wp2_with fail
     refine db.out.mono ?_;rintro e d7 ⟨⟨x,rfl⟩,M⟩;have KF:=Za (Moved.after am.out M);clear M ap ah X aq ar au af V ag ac al av aw ax b7 b8 b9 ca c6;go_wp2_with fail
     go_ret
     rw [HR.out];exact ⟨rfl,KF.out⟩
    | false =>
     have c9:Hid (S.srv.find? (fun s=>Zj d9 s&&Zp 0 s)=none):=by
      show _=_;have bp:(U == 0)=true:=by simpa [bne] using c0
      cases Q:S.srv.find? (fun s=>Zj d9 s&&Zp 0 s) with
      | none=>rfl
      | some s=>have:=HZ.out;rw [bp,Q] at this;simp at this
     obtain ⟨q,bx⟩:∃ q,Zs (Zj d9) S.srv=q:=⟨_,rfl⟩;have HQ:Hid (Zs (Zj d9) S.srv=q∧q≤n):=⟨bx,by rw [←bx,←J.out.2.1];exact Yp _ _⟩;have d0:q≤n:=HQ.out.2;have cc:Hid (ZaT S d.op ⟨m,d8⟩=if L≤(q:Int) then none else (ZbQ S).map (fun T=>(ZeD T d.op ⟨d9,L,O,N⟩ m,d.op+1))):=by
      show _=_;rw [HG.out];simp only;rw [ch.out];simp only;rw [c9.out,HQ.out.1]
     have a9:=Yg I _ X;have ct:A<I.heap.size:=Yl a7 am.out.size;have bh:g<I.heap.size:=(Ya.1 HY.out.2.1).1;clear bx HG;go_upto_region 8 with fail
     go_cut [46] (fun v be=>v=.bool (decide (L≤(q:Int)))∧∃ aj,Hid (Below I.heap.size I aj)∧aj=be)
     case first =>
      go_region_held3 (fun D=>D.cell? ⟨A,2,none⟩=some (.slice so n sc)∧D.cell? ⟨g,0,none⟩=some (.string d9)∧D.cell? ⟨g,1,none⟩=some (.int .i64 L)) (go_keep)
       ((go_at_call 139;refine (HC.out _ d9 (Zb am.out ((Yh _ _).drew))).mono ?_;rintro e dv ⟨rfl,cm⟩;rw [HQ.out.1];have ae:Hid (Below I.heap.size I dv):=Zb (Yh _ _).drew cm;have bl:=(ae.out.cell (p:=⟨A,2,none⟩) ct).trans X;have bm:=(ae.out.cell (p:=⟨g,0,none⟩) bh).trans ac;have d6:=(ae.out.cell (p:=⟨g,1,none⟩) bh).trans al;clear cm))
      all_goals
       go_wp2_with fail
       go_meet
       exact ⟨rfl,_,ae.out,rfl⟩
     case rest =>
      obtain ⟨rfl,aj,ae,rfl⟩:=hcut;have bf:Hid (Below w.heap.size w aj):=Zb am.out ae.out;have HV:Hid (aj.heap[w.heap.size]?=some (bWt m d8)∧aj.heap[g]?=some (ZF ⟨d9,L,O,N⟩)):=⟨(ae.out.block _ (Ya.1 HY.out.1).1).trans HY.out.1,(ae.out.block _ bh).trans HY.out.2.1⟩;clear ap ah X aq ar au af V ag ac al av aw ax b7 b8 b9 ca c6 a9 ct bh;cases cp:decide (L≤(q:Int)) with
      | true =>
       have HR:Hid (ZaT S d.op ⟨m,d8⟩=none):=by
        show _=_;rw [cc.out,if_pos (of_decide_eq_true cp)]
       go_wp2_with fail
       go_ret
       rw [HR.out];exact ⟨rfl,(Moved.refl HH.out).below bf.out⟩
      | false =>
       have cd:Hid (ZaT S d.op ⟨m,d8⟩=(ZbQ S).map (fun T=>(ZeD T d.op ⟨d9,L,O,N⟩ m,d.op+1))):=by
        show _=_;rw [cc.out,if_neg (of_decide_eq_false cp)]
       have de:=Za (Zty A S d F aj (cf.out aj bf.out) ce.out (by rw [J.out.2.1];omega));go_wp2_with fail
       refine de.out.mono ?_;rintro e bd ⟨rfl,M⟩;cases ak:ZbQ S with
       | none =>
        rw [ak] at M;have KF:Hid (Moved w bd A S d F):=Moved.after bf.out M;have HR:Hid (ZaT S d.op ⟨m,d8⟩=none):=by
         show _=_;rw [cd.out,ak];rfl
        simp only [Option.isSome_none];clear M ak;go_wp2_with fail
        go_ret
        rw [HR.out];exact ⟨rfl,KF.out⟩
       | some T =>
        rw [ak] at M;have KF:Hid (Moved w bd A T d F):=Moved.after bf.out M;have HR:Hid (ZaT S d.op ⟨m,d8⟩=some (ZeD T d.op ⟨d9,L,O,N⟩ m,d.op+1)):=by
         show _=_;rw [cd.out,ak];rfl
        have df:T.srv.length≤n:=by rw [←J.out.2.1];exact Zqy S T ak
        obtain ⟨_,_,_,bq⟩:=M;have ck:bd.heap[w.heap.size]?=some (bWt m d8):=(bq.block _ (Ya.1 HV.out.1).1 (cg.out _ (Yd _))).trans HV.out.1;have cl:bd.heap[g]?=some (ZF ⟨d9,L,O,N⟩):=(bq.block _ (Ya.1 HV.out.2).1 (cg.out _ HY.out.2.2)).trans HV.out.2;obtain ⟨af,V,ag⟩:=Zw ck;obtain ⟨ac,al,av,aw,ax⟩:=ZaE cl;obtain ⟨c7,cq,cw⟩:=KF.out.step;have dd:=Za (ZtM A ⟨d9,L,O,N⟩ m T d c7 bd cq (by omega) dk);have dc:=Za cw;simp only [Option.isSome_some];clear ak bq ck cl cq cw df;go_wp2_with fail
        refine dd.out.mono ?_;rintro e dw ⟨⟨x,rfl⟩,M⟩;have KG:=Za (dc.out dw _ _ M);clear M af V ag ac al av aw ax;go_wp2_with fail
        go_ret
        rw [HR.out];exact ⟨rfl,KG.out⟩
end Lw
end Go.Proofs.YtmgkcbdlfodjmaaGreatDoor
