import Derived.Test.YtmgkcbdlfodjmaaGreatDoorBqU
set_option maxRecDepth 100000
set_option maxHeartbeats 16000000
namespace Go.Proofs.YtmgkcbdlfodjmaaGreatDoor
open Go.RowKit
namespace Lw
open Co
structure Run (w:World) (gx gp go:Nat) (D:Zh) (X:ZB) (S:Zh) (nx:Int) (Y:Int×List Pl) (Fp F:Nat→Prop) (u:ZA) (ho:Option Addr) (hc:Nat) (q1 q2 q4:Nat):Prop where
 pr:w.heap[gx]?=some (ZbE (.pointer (some ⟨gp,0,none⟩)) S.bud (.slice u.po S.pools.length u.pc) (.slice u.so S.srv.length u.sc) (.slice u.wo S.wts.length u.wc) (.slice u.tqo S.plan.length u.tc) S.begun S.back nx Y.1 (.slice ho Y.2.length hc))
 desk:DeskAt w gp D X Fp
 ref:WdAt w S u Y ho hc
 own:OwnAt w go F q1 q2 q2 q4
 dx:¬F gx
 dxp:¬Fp gx
 dp:∀ y,Fp y→¬F y
 dr:∀ g,Zes S u Y ho hc g→¬F g
 drp:∀ g,Zes S u Y ho hc g→¬Fp g
 drx:∀ g,Zes S u Y ho hc g→g≠gx
theorem Run.lt {w:World} {d E D:Nat} {O:Zh} {q:ZB} {S:Zh} {nx:Int} {A:Int×List Pl} {m F:Nat→Prop} {u:ZA} {J:Option Addr} {I L M N:Nat} (h:Run w d E D O q S nx A m F u J I L M N):d<w.heap.size:=(Ya.1 h.pr).1
theorem Run.below {w Q:World} {h I E:Nat} {m:Zh} {A:ZB} {S:Zh} {nx:Int} {D:Int×List Pl} {q F:Nat→Prop} {u:ZA} {L:Option Addr} {J M N O:Nat} (d:Run w h I E m A S nx D q F u L J M N O) (hb:Below w.heap.size w Q):Run Q h I E m A S nx D q F u L J M N O:=
 ⟨(hb.block h d.lt).trans d.pr,d.desk.keep (G:=fun _=>False) (Chg.of_below hb) (fun _ _ d=>d),d.ref.nx hb,d.own.keep (G:=fun _=>False) (Chg.of_below hb) (fun _ _ d=>d),d.dx,d.dxp,d.dp,d.dr,d.drp,d.drx⟩
theorem Run.moved {w w':World} {q ac N:Nat} {D:Zh} {X:ZB} {S:Zh} {nx:Int} {M:Int×List Pl} {A F:Nat→Prop} {u:ZA} {U:Option Addr} {O V ad Y:Nat} (d:Run w q ac N D X S nx M A F u U O V ad Y) {J:Zh} {L:ZB} (aa:Moved w w' ac J L A) :
  ∃ m,Run w' q ac N J L S nx M m F u U O V ad Y∧∀ y,m y→A y∨w.heap.size≤y:=by
 obtain ⟨m,hd,hF,E⟩:=aa;refine ⟨m,⟨(E.block q d.lt d.dxp).trans d.pr,hd,d.ref.keep E d.drp,d.own.keep E (fun x h I=>d.dp x I h),d.dx,fun h=>?_,fun y ab Q=>?_,d.dr,fun g R I=>?_,d.drx⟩,hF⟩
 ·rcases hF q h with h | h
  ·exact d.dxp h
  ·have:=d.lt;omega
 ·rcases hF y ab with h | h
  ·exact d.dp y h Q
  ·have:=d.own.lt y Q;omega
 ·rcases hF g I with h | h
  ·exact d.drp g R h
  ·have:=d.ref.lt g R;omega
theorem Run.seen {w:World} {I E D:Nat} {q:ZB} {S:Zh} {nx:Int} {A:Int×List Pl} {m F:Nat→Prop} {u:ZA} {O:Option Addr} {N J L M:Nat} (d:Run w I E D S q S nx A m F u O N J L M):Seen w I E D S q m F u J L M:=
 ⟨⟨nx,A.1,_,d.pr⟩,d.desk,d.ref.sta,fun g h=>d.ref.lt g (.inl h),d.own,d.dx,d.dp,fun g h=>d.dr g (.inl h)⟩
theorem Run.looked {w J:World} {m O A:Nat} {D:Zh} {M:ZB} {S:Zh} {nx:Int} {N:Int×List Pl} {L F q:Nat→Prop} {u:ZA} {U:Option Addr} {Q ab ac ad X I Y:Nat} (d:Run w m O A D M S nx N L F u U Q ab ac ad) (ae:Chg F w J) (aa:OwnAt J A q X I I Y) (hF:∀ y,q y→F y∨w.heap.size≤y):Run J m O A D M S nx N L q u U Q X I Y:=by
 refine ⟨(ae.block m d.lt d.dx).trans d.pr,d.desk.keep ae d.dp,d.ref.keep ae d.dr,aa,fun h=>?_,d.dxp,fun y V E=>?_,fun g R E=>?_,d.drp,d.drx⟩
 ·rcases hF m h with h | h
  ·exact d.dx h
  ·have:=d.lt;omega
 ·rcases hF y E with h | h
  ·exact d.dp y V h
  ·have:=d.desk.lt y V;omega
 ·rcases hF g E with h | h
  ·exact d.dr g R h
  ·have:=d.ref.lt g R;omega
abbrev stw (w:World) (g:Nat) (v0 v1 v2 v3 v4 v5 v6 v7 v8 v9:Value):World:=((((((((((w.setCell ⟨g,1,none⟩ v0).setCell ⟨g,2,none⟩ v1).setCell ⟨g,3,none⟩ v2).setCell ⟨g,4,none⟩ v3).setCell ⟨g,5,none⟩ v4).setCell ⟨g,6,none⟩ v5).setCell ⟨g,7,none⟩ v6).setCell ⟨g,8,none⟩ v7).setCell ⟨g,9,none⟩ v8).setCell ⟨g,10,none⟩ v9)
theorem ZdD (w:World) (g:Nat) (q A D E I J L M N O:Value):Chg (fun y=>y=g) w (stw w g q A D E I J L M N O):=by
 have d:∀ (u:World) (a:Nat) (v:Value),Chg (fun y=>y=g) u (u.setCell ⟨g,a,none⟩ v):=fun u a v=>Chg.set (F:=fun y=>y=g) u g a v rfl
 have Q:∀ {a b c:World},Chg (fun y=>y=g) a b→Chg (fun y=>y=g) b c→Chg (fun y=>y=g) a c:=fun h k=>h.trans k (fun _ m=>.inl m)
 exact Q (Q (Q (Q (Q (Q (Q (Q (Q (d _ _ _) (d _ _ _)) (d _ _ _)) (d _ _ _)) (d _ _ _)) (d _ _ _)) (d _ _ _)) (d _ _ _)) (d _ _ _)) (d _ _ _)
theorem ZrL {w:World} {g:Nat} {d c1 c2 c3 c4 c5 m q A D E:Value} {t:TypeId} (h:w.heap[g]?=some (.cells #[d,c1,c2,c3,c4,c5,m,q,A,D,E] t (0,0))) (v:Value):(w.setCell ⟨g,1,none⟩ v).heap[g]?=some (.cells #[d,v,c2,c3,c4,c5,m,q,A,D,E] t (0,0)):=Zm _ _ _ _ _ _ h
theorem ZrE {w:World} {g:Nat} {d c1 c2 c3 c4 c5 m q A D E:Value} {t:TypeId} (h:w.heap[g]?=some (.cells #[d,c1,c2,c3,c4,c5,m,q,A,D,E] t (0,0))) (v:Value):(w.setCell ⟨g,2,none⟩ v).heap[g]?=some (.cells #[d,c1,v,c3,c4,c5,m,q,A,D,E] t (0,0)):=Zm _ _ _ _ _ _ h
theorem Zrj {w:World} {g:Nat} {d c1 c2 c3 c4 c5 m q A D E:Value} {t:TypeId} (h:w.heap[g]?=some (.cells #[d,c1,c2,c3,c4,c5,m,q,A,D,E] t (0,0))) (v:Value):(w.setCell ⟨g,3,none⟩ v).heap[g]?=some (.cells #[d,c1,c2,v,c4,c5,m,q,A,D,E] t (0,0)):=Zm _ _ _ _ _ _ h
theorem Zse {w:World} {g:Nat} {d c1 c2 c3 c4 c5 m q A D E:Value} {t:TypeId} (h:w.heap[g]?=some (.cells #[d,c1,c2,c3,c4,c5,m,q,A,D,E] t (0,0))) (v:Value):(w.setCell ⟨g,4,none⟩ v).heap[g]?=some (.cells #[d,c1,c2,c3,v,c5,m,q,A,D,E] t (0,0)):=Zm _ _ _ _ _ _ h
theorem ZrQ {w:World} {g:Nat} {d c1 c2 c3 c4 c5 m q A D E:Value} {t:TypeId} (h:w.heap[g]?=some (.cells #[d,c1,c2,c3,c4,c5,m,q,A,D,E] t (0,0))) (v:Value):(w.setCell ⟨g,5,none⟩ v).heap[g]?=some (.cells #[d,c1,c2,c3,c4,v,m,q,A,D,E] t (0,0)):=Zm _ _ _ _ _ _ h
theorem Zrk {w:World} {g:Nat} {d c1 c2 c3 c4 c5 D m q A E:Value} {t:TypeId} (h:w.heap[g]?=some (.cells #[d,c1,c2,c3,c4,c5,D,m,q,A,E] t (0,0))) (v:Value):(w.setCell ⟨g,6,none⟩ v).heap[g]?=some (.cells #[d,c1,c2,c3,c4,c5,v,m,q,A,E] t (0,0)):=Zm _ _ _ _ _ _ h
theorem Zrx {w:World} {g:Nat} {d c1 c2 c3 c4 c5 m D q A E:Value} {t:TypeId} (h:w.heap[g]?=some (.cells #[d,c1,c2,c3,c4,c5,m,D,q,A,E] t (0,0))) (v:Value):(w.setCell ⟨g,7,none⟩ v).heap[g]?=some (.cells #[d,c1,c2,c3,c4,c5,m,v,q,A,E] t (0,0)):=Zm _ _ _ _ _ _ h
theorem Zr2 {w:World} {g:Nat} {d c1 c2 c3 c4 c5 m q D A E:Value} {t:TypeId} (h:w.heap[g]?=some (.cells #[d,c1,c2,c3,c4,c5,m,q,D,A,E] t (0,0))) (v:Value):(w.setCell ⟨g,8,none⟩ v).heap[g]?=some (.cells #[d,c1,c2,c3,c4,c5,m,q,v,A,E] t (0,0)):=Zm _ _ _ _ _ _ h
theorem ZrJ {w:World} {g:Nat} {d c1 c2 c3 c4 c5 m q A D E:Value} {t:TypeId} (h:w.heap[g]?=some (.cells #[d,c1,c2,c3,c4,c5,m,q,A,D,E] t (0,0))) (v:Value):(w.setCell ⟨g,9,none⟩ v).heap[g]?=some (.cells #[d,c1,c2,c3,c4,c5,m,q,A,v,E] t (0,0)):=Zm _ _ _ _ _ _ h
theorem ZqS {w:World} {g:Nat} {d c1 c2 c3 c4 c5 E m q A D:Value} {t:TypeId} (h:w.heap[g]?=some (.cells #[d,c1,c2,c3,c4,c5,E,m,q,A,D] t (0,0))) (v:Value):(w.setCell ⟨g,10,none⟩ v).heap[g]?=some (.cells #[d,c1,c2,c3,c4,c5,E,m,q,A,v] t (0,0)):=Zm _ _ _ _ _ _ h
theorem ZqO {w:World} {g:Nat} {p M c1 c2 c3 c4 c5 N O Q R:Value} {t:TypeId} (h:w.heap[g]?=some (.cells #[p,M,c1,c2,c3,c4,c5,N,O,Q,R] t (0,0))) (d U m q A D E I J L:Value):(stw w g d U m q A D E I J L).heap[g]?=some (.cells #[p,d,U,m,q,A,D,E,I,J,L] t (0,0)):=
 ZqS (ZrJ (Zr2 (Zrx (Zrk (ZrQ (Zse (Zrj (ZrE (ZrL h d) U) m) q) A) D) E) I) J) L
theorem Run.taken {w O:World} {m Y X:Nat} {D:Zh} {U:ZB} {S:Zh} {nx:Int} {V:Int×List Pl} {R F:Nat→Prop} {u:ZA} {ab:Option Addr} {aa ad ae af:Nat} (d:Run w m Y X D U S nx V R F u ab aa ad ae af) {T:Zh} {v:ZA} {Z:Int×List Pl} {I:Option Addr} {q:Nat} (ag:RefG w O S u V ab aa T v Z I q) {Q:World} (hb:Below O.heap.size O Q) (N:Int) :
  Run (stw Q m (.int .i64 T.bud) (.slice v.po T.pools.length v.pc) (.slice v.so T.srv.length v.sc) (.slice v.wo T.wts.length v.wc) (.slice v.tqo T.plan.length v.tc) (.bool T.begun) (.bool T.back) (.int .i64 N) (.int .i64 Z.1) (.slice I Z.2.length q)) m Y X D U T N Z R F v I q ad ae af:=by
 have J:=d.below (Zb ag.bel hb);have L:=ZdD Q m (.int .i64 T.bud) (.slice v.po T.pools.length v.pc) (.slice v.so T.srv.length v.sc) (.slice v.wo T.wts.length v.wc) (.slice v.tqo T.plan.length v.tc) (.bool T.begun) (.bool T.back) (.int .i64 N) (.int .i64 Z.1) (.slice I Z.2.length q);have ac:∀ g,Zes T v Z I q g→g≠m:=fun g E e=>by
  rcases ag.blk g E with h | h
  ·exact d.drx g h e
  ·have:=d.lt;omega
 refine ⟨ZqO J.pr _ _ _ _ _ _ _ _ _ _,J.desk.keep L (fun x M e=>d.dxp (by rw [←show x=m from e];exact M)),(ag.at'.nx hb).keep L ac,J.own.keep L (fun x M e=>d.dx (by rw [←show x=m from e];exact M)),d.dx,d.dxp,d.dp,fun g E A=>?_,fun g E A=>?_,ac⟩
 ·rcases ag.blk g E with h | h
  ·exact d.dr g h A
  ·have:=d.own.lt g A;omega
 ·rcases ag.blk g E with h | h
  ·exact d.drp g h A
  ·have:=d.desk.lt g A;omega
structure OwnW (B:Nat) (w:World) (S:Zh) (u:ZA) (Y:Int×List Pl) (ho:Option Addr) (hc:Nat):Prop where
 p:w.ownsRow B 82 4 (.slice u.po S.pools.length u.pc) S.pools.length (Ze S.pools)
 s:w.ownsRow B 86 4 (.slice u.so S.srv.length u.sc) S.srv.length (Zv S.srv)
 q:w.ownsRow B 88 2 (.slice u.wo S.wts.length u.wc) S.wts.length (ZE S.wts)
 t:w.ownsRow B 84 3 (.slice u.tqo S.plan.length u.tc) S.plan.length (Zo S.plan)
 h:w.ownsRow B 82 4 (.slice ho Y.2.length hc) Y.2.length (Ze Y.2)
theorem OwnW.nx {B:Nat} {w D:World} {S:Zh} {u:ZA} {h:Int×List Pl} {A:Option Addr} {m:Nat} (d:OwnW B w S u h A m) (hb:Below w.heap.size w D):OwnW B D S u h A m:=
 ⟨Zx d.p hb,Zx d.s hb,Zx d.q hb,Zx d.t hb,Zx d.h hb⟩
theorem OwnW.mono {B C:Nat} {w:World} {S:Zh} {u:ZA} {h:Int×List Pl} {A:Option Addr} {m:Nat} (d:OwnW C w S u h A m) (hb:B≤C):OwnW B w S u h A m:=
 ⟨Zr d.p hb,Zr d.s hb,Zr d.q hb,Zr d.t hb,Zr d.h hb⟩
def GaveS (B:Nat) (w w':World) (S:Zh) (nx:Int) (Y:Int×List Pl) (e:Ending):Prop:=
 ∃ u ho hc,e=.returned (wdA S u nx Y ho hc)∧OwnW B w' S u Y ho hc∧Below w.heap.size w w'
structure Sml (S:Zh) (Y:Int×List Pl):Prop where
 p:S.pools.length≤1000
 s:S.srv.length≤549755813888
 q:S.wts.length≤549755813888
 t:S.plan.length≤1000
 h:Y.2.length≤1000
abbrev bW (S:Zh) (u:ZA) (nx:Int) (Y:Int×List Pl) (ho:Option Addr) (hc:Nat):Obj:=bWd (.int .i64 S.bud) (.slice u.po S.pools.length u.pc) (.slice u.so S.srv.length u.sc) (.slice u.wo S.wts.length u.wc) (.slice u.tqo S.plan.length u.tc) (.bool S.begun) (.bool S.back) (.int .i64 nx) (.int .i64 Y.1) (.slice ho Y.2.length hc)
abbrev stS (w:World) (g:Nat) (S:Zh) (u:ZA) (nx:Int) (Y:Int×List Pl) (ho:Option Addr) (hc:Nat):World:=ZK w g (.int .i64 S.bud) (.slice u.po S.pools.length u.pc) (.slice u.so S.srv.length u.sc) (.slice u.wo S.wts.length u.wc) (.slice u.tqo S.plan.length u.tc) (.bool S.begun) (.bool S.back) (.int .i64 nx) (.int .i64 Y.1) (.slice ho Y.2.length hc)
structure Ent (w W:World) (o:Obj):Prop where
 eq:W=(w.alloc o).alloc zW
 b0:W.heap[w.heap.size]?=some o
 b1:W.heap[w.heap.size+1]?=some zW
 bel:Below w.heap.size w W
theorem Zbc (w:World) (o:Obj):∃ W,Hid (Ent w W o):=
 ⟨_,rfl,(Zn _ _ (by simp)).trans (Zd _ _ rfl),Zd _ _ (by simp),Zb (Zc _ _) (Zc _ _)⟩
theorem OwnW.st {B:Nat} {w:World} {g:Nat} {E:Array Value} {S:Zh} {u:ZA} {m:Int×List Pl} {D:Option Addr} {A:Nat} (d:OwnW B w S u m D A) (h:w.heap[g]?=some (.cells E 46 (0,0))) (I J L M N O Q R U V:Value):OwnW B (ZK w g I J L M N O Q R U V) S u m D A:=
 ⟨ZbZ d.p (Zaf d.p h (by decide)) _ _ _ _ _ _ _ _ _ _,ZbZ d.s (Zaf d.s h (by decide)) _ _ _ _ _ _ _ _ _ _,ZbZ d.q (Zaf d.q h (by decide)) _ _ _ _ _ _ _ _ _ _,ZbZ d.t (Zaf d.t h (by decide)) _ _ _ _ _ _ _ _ _ _,ZbZ d.h (Zaf d.h h (by decide)) _ _ _ _ _ _ _ _ _ _⟩
theorem OwnW.st1 {B:Nat} {w:World} {g a:Nat} {E:Array Value} {S:Zh} {u:ZA} {m:Int×List Pl} {D:Option Addr} {A:Nat} (d:OwnW B w S u m D A) (h:w.heap[g]?=some (.cells E 46 (0,0))) (v:Value):OwnW B (w.setCell ⟨g,a,none⟩ v) S u m D A:=
 ⟨Zab d.p (Zaf d.p h (by decide)),Zab d.s (Zaf d.s h (by decide)),Zab d.q (Zaf d.q h (by decide)),Zab d.t (Zaf d.t h (by decide)),Zab d.h (Zaf d.h h (by decide))⟩
theorem ZaL {w W w1:World} {o:Obj} (h:Ent w W o) (hb:Below W.heap.size W w1) {B:Nat} {S:Zh} {u:ZA} {D:Int×List Pl} {q:Option Addr} {m:Nat} (A:OwnW B w1 S u D q m) (nx:Int):∃ d,stS w1 (w.heap.size+1) S u nx D q m=d∧Hid (d.heap[w.heap.size+1]?=some (bW S u nx D q m)∧Below w.heap.size w d∧OwnW B d S u D q m):=
 ⟨_,rfl,ZcV (Zk h.b1 hb) _ _ _ _ _ _ _ _ _ _,Zdw (Zb h.bel hb) (Nat.le_succ _) _ _ _ _ _ _ _ _ _ _,A.st (Zk h.b1 hb) _ _ _ _ _ _ _ _ _ _⟩
theorem ZbY {w:World} {B:Nat} {S:Zh} {u:ZA} {h:Int×List Pl} {q:Option Addr} {m:Nat} (A:OwnW B w S u h q m) (nx:Int):∃ d,d=w.alloc (bW S u nx h q m)∧Hid (d=w.alloc (bW S u nx h q m)∧d.heap[w.heap.size]?=some (bW S u nx h q m)∧Below w.heap.size w d∧OwnW B d S u h q m):=
 ⟨_,rfl,rfl,Zd _ _ rfl,Zc _ _,A.nx (Zc _ _)⟩
structure RowX (w:World) (S:Zh) (u:ZA) (Y:Int×List Pl) (ho:Option Addr) (hc:Nat):Prop where
 p:RowAt w (.slice u.po S.pools.length u.pc) S.pools.length (Ze S.pools)
 s:RowAt w (.slice u.so S.srv.length u.sc) S.srv.length (Zv S.srv)
 q:RowAt w (.slice u.wo S.wts.length u.wc) S.wts.length (ZE S.wts)
 t:RowAt w (.slice u.tqo S.plan.length u.tc) S.plan.length (Zo S.plan)
 h:RowAt w (.slice ho Y.2.length hc) Y.2.length (Ze Y.2)
theorem OwnW.rows {B:Nat} {w:World} {S:Zh} {u:ZA} {h:Int×List Pl} {A:Option Addr} {m:Nat} (d:OwnW B w S u h A m):RowX w S u h A m:=⟨Zf d.p,Zf d.s,Zf d.q,Zf d.t,Zf d.h⟩
theorem WdAt.rows {w:World} {S:Zh} {u:ZA} {h:Int×List Pl} {q:Option Addr} {m:Nat} (d:WdAt w S u h q m):RowX w S u h q m:=⟨d.sta.p,d.sta.s,d.sta.t,d.sta.l,d.hom⟩
theorem RowX.nx {w D:World} {S:Zh} {u:ZA} {h:Int×List Pl} {A:Option Addr} {m:Nat} (d:RowX w S u h A m) (hb:Below w.heap.size w D):RowX D S u h A m:=⟨d.p.nx hb,d.s.nx hb,d.q.nx hb,d.t.nx hb,d.h.nx hb⟩
theorem Zl2 (S:Zh) (u:ZA) (nx:Int) (d:Int×List Pl) (J:Option Addr) (I:Nat) (w:World) (h:RowX w S u d J I) (A:Sml S d) :
  Calls Tryz.prog 49 #[wdA S u nx d J I] w fun e L=>∃ E D m,e=.returned (wdA S E nx d D m)∧OwnW w.heap.size L S E d D m∧Below w.heap.size w L∧∀ g,(Value.slice E.po S.pools.length E.pc).ownBlock=some g→(Value.slice D d.2.length m).ownBlock≠some g:=by
 refine (Zpg S.bud u.po _ u.pc u.so _ u.sc u.wo _ u.wc u.tqo _ u.tc S.begun S.back nx d.1 J _ I S.pools S.srv S.wts S.plan d.2 w h.p rfl (by have:=A.p;omega) h.s rfl (by have:=A.s;omega) h.q rfl (by have:=A.q;omega) h.t rfl (by have:=A.t;omega) h.h rfl (by have:=A.h;omega)).mono ?_;rintro e L ⟨X,V,so,sc,wo,wc,Y,aa,D,m,rfl,N,O,Q,R,U,hb,M⟩;exact ⟨⟨X,V,so,sc,wo,wc,Y,aa⟩,D,m,rfl,⟨N,O,Q,R,U⟩,hb,M⟩
theorem ZcL (S:Zh) (u:ZA) (nx:Int) (d:Int×List Pl) (m:Option Addr) (N:Nat) (w:World) (h:RowX w S u d m N) (I:Sml S d) :
  Calls Tryz.prog 49 #[wdA S u nx d m N] w fun e M=>GaveS w.heap.size w M S nx d e:=
 (Zl2 S u nx d m N w h I).mono fun _ _ ⟨L,J,E,q,A,D,_⟩=>⟨L,J,E,q,A,D⟩
theorem Zji {α:Type} {l:List α} {k i:Nat} {x:α} (q:l[k]?=some x):(l.take (k+1)).eraseIdx i=if k=i then (l.take k).eraseIdx i else (l.take k).eraseIdx i++[x]:=by
 obtain ⟨m,e⟩:=Yc.1 q;have h:(l.take k).length=k:=by rw [List.length_take];omega
 rw [Yk m,e];by_cases d:k=i
 ·subst d;rw [if_pos rfl,List.eraseIdx_append_of_length_le (by omega),h,Nat.sub_self,List.eraseIdx_of_length_le (by omega:(l.take k).length≤k)];simp
 ·rw [if_neg d];by_cases A:i<k
  ·rw [List.eraseIdx_append_of_lt_length (by omega)]
  ·rw [List.eraseIdx_of_length_le (by rw [List.length_append,h];simp;omega),List.eraseIdx_of_length_le (by omega)]
theorem Zcu {u:World} {B q:Nat} {e X:TypeId} {sz M n L g:Nat} {v m:Value} {N O:List Value} (h:u.ownsRow B e sz v n N) (A:u.ownsRow q X M m L O) (E:e≠X) (I:v.ownBlock=some g):m.ownBlock≠some g:=by
 intro J;obtain ⟨Q,U,D⟩:=Go.Lib.ownsRow_kind h g I;obtain ⟨R,V,d⟩:=Go.Lib.ownsRow_kind A g J;rw [D] at d;simp at d;exact E d.2.1
theorem ZbH {α:Type} {p:α→Bool} {l:List α} {k:Nat} (h:l.findIdx? p=some k):∃ x,l[k]?=some x∧l.find? p=some x:=by
 have:=List.findIdx?_eq_some_iff_getElem.1 h;obtain ⟨d,A,m⟩:=this;refine ⟨l[k],Yb d,?_⟩;rw [List.find?_eq_some_iff_getElem];exact ⟨A,k,d,rfl,fun j q=>by have:=m j q;simpa using this⟩
abbrev bWp (x:Value) (S:Zh) (u:ZA) (nx:Int) (Y:Int×List Pl) (ho:Option Addr) (hc:Nat):Obj:=bWd (.int .i64 S.bud) x (.slice u.so S.srv.length u.sc) (.slice u.wo S.wts.length u.wc) (.slice u.tqo S.plan.length u.tc) (.bool S.begun) (.bool S.back) (.int .i64 nx) (.int .i64 Y.1) (.slice ho Y.2.length hc)
abbrev bWs (x:Value) (S:Zh) (u:ZA) (nx:Int) (Y:Int×List Pl) (ho:Option Addr) (hc:Nat):Obj:=bWd (.int .i64 S.bud) (.slice u.po S.pools.length u.pc) x (.slice u.wo S.wts.length u.wc) (.slice u.tqo S.plan.length u.tc) (.bool S.begun) (.bool S.back) (.int .i64 nx) (.int .i64 Y.1) (.slice ho Y.2.length hc)
abbrev bWq (x:Value) (S:Zh) (u:ZA) (nx:Int) (Y:Int×List Pl) (ho:Option Addr) (hc:Nat):Obj:=bWd (.int .i64 S.bud) (.slice u.po S.pools.length u.pc) (.slice u.so S.srv.length u.sc) x (.slice u.tqo S.plan.length u.tc) (.bool S.begun) (.bool S.back) (.int .i64 nx) (.int .i64 Y.1) (.slice ho Y.2.length hc)
structure Oth (C:Nat) (w:World) (S:Zh) (u:ZA) (Y:Int×List Pl) (ho:Option Addr) (hc:Nat) (g:Nat):Prop where
 own:OwnW C w S u Y ho hc
 p:(Value.slice u.po S.pools.length u.pc).ownBlock≠some g
 s:(Value.slice u.so S.srv.length u.sc).ownBlock≠some g
 q:(Value.slice u.wo S.wts.length u.wc).ownBlock≠some g
 t:(Value.slice u.tqo S.plan.length u.tc).ownBlock≠some g
 h:(Value.slice ho Y.2.length hc).ownBlock≠some g
theorem Zoi {C:Nat} {w:World} {S:Zh} {u:ZA} {h:Int×List Pl} {A:Option Addr} {m:Nat} (d:OwnW C w S u h A m) (o:Obj):Oth C (w.alloc o) S u h A m w.heap.size:=
 ⟨d.nx (Zc _ _),fun e=>Nat.lt_irrefl _ (d.p.lt _ e).2,fun e=>Nat.lt_irrefl _ (d.s.lt _ e).2,fun e=>Nat.lt_irrefl _ (d.q.lt _ e).2,fun e=>Nat.lt_irrefl _ (d.t.lt _ e).2,fun e=>Nat.lt_irrefl _ (d.h.lt _ e).2⟩
theorem Oth.chg {C g:Nat} {w E:World} {S:Zh} {u:ZA} {m:Int×List Pl} {D:Option Addr} {A:Nat} (d:Oth C w S u m D A g) (h:Chg (fun y=>y=g) w E):OwnW C E S u m D A:=
 ⟨Zbb d.own.p h d.p,Zbb d.own.s h d.s,Zbb d.own.q h d.q,Zbb d.own.t h d.t,Zbb d.own.h h d.h⟩
theorem ZfR (S:Zh) (u:ZA) (nx:Int) (d:Int×List Pl) (ad:Option Addr) (Y:Nat) (w:World) (i:Nat) (hO:RowX w S u d ad Y) (ay:Sml S d) :
  Calls Tryz.prog 82 #[wdA S u nx d ad Y,.int .i64 i] w fun e w'=>GaveS w.heap.size w w' (Zaa S i) nx d e:=by
 obtain ⟨W,O⟩:=Zbc w (bW S u nx d ad Y);have HO:=Za (hO.nx O.out.bel);have hW:w.heap.size+2≤W.heap.size:=by rw [O.out.eq];simp
 have bc:=Za (ZcL S u nx d ad Y W HO.out ay);have dm:=ay.s;clear hO ay;unfold wdA;go_enter Tryz.func82,Tryz.ntmps82
 go_wp2_with fail
 rw [←O.out.eq];refine bc.out.mono ?_;rintro e w1 ⟨dh,E,di,rfl,dr,X⟩;obtain ⟨g,aa⟩:∃ g,w1.heap.size=g:=⟨_,rfl⟩;obtain ⟨A,V⟩:∃ A,A=w1.alloc (bWs (.slice none 0 0) S dh nx d E di):=⟨_,rfl⟩;have bf:Hid (Oth W.heap.size A S dh d E di g):=by rw [V,←aa];exact Zoi dr _
 have L:Hid (A=w1.alloc (bWs (.slice none 0 0) S dh nx d E di)∧A.heap[g]?=some (bWs (.slice none 0 0) S dh nx d E di)∧Below W.heap.size W A∧W.heap.size≤g):=⟨V,by rw [V];exact Zd _ _ aa.symm,by rw [V];exact Zb X (Zc _ _),by rw [←aa];exact X.size⟩;have HG:=Za aa;clear dr X V aa;go_upto_region 3 with fail
 rw [←L.out.1,HG.out];obtain ⟨n,ac⟩:∃ n,S.srv.length=n:=⟨_,rfl⟩;have HN:=Za ac;have cy:n≤549755813888:=by rw [←ac];exact dm
 have dl:Hid (∀ v,Below W.heap.size W v→v.heap[w.heap.size]?=some (bWs (.slice u.so n u.sc) S u nx d ad Y)):=fun v hb=>by rw [←ac];exact Zk O.out.b0 hb
 have bg:Hid (RowAt W (.slice u.so n u.sc) n (Zv S.srv)):=by rw [←ac];exact HO.out.s
 clear ac dm;go_wp2_with fail
 go_loopw [6] (fun dk wr=>∃ (k j:Nat) (I:Option Addr) (vc:Nat),k≤n∧j≤k∧dk=.int .i64 k∧Hid (wr.heap[g]?=some (bWs (.slice I j vc) S dh nx d E di)∧((S.srv.take k).eraseIdx i).length=j∧wr.ownsRow A.heap.size 86 4 (.slice I j vc) j (Zv ((S.srv.take k).eraseIdx i))∧Chg (fun y=>y=g) A wr)) (fun dk _=>n - (intOf dk).toNat)
 case atStart=>exact ⟨0,0,none,0,Ye _,Yd _,rfl,L.out.2.1,by simp,by simp only [List.take_zero,List.eraseIdx_nil];exact Yq _ _ _ _,Chg.refl _ _⟩
 case round =>
  obtain ⟨k,j,I,vc,ab,ai,rfl,m⟩:=hrel;have ax:g<A.heap.size:=(Ya.1 L.out.2.1).1;have cu:=m.out.2.2.2.size;have cv:=L.out.2.2.2;have U:Hid (Below W.heap.size W wr):=L.out.2.2.1.trans (m.out.2.2.2.below L.out.2.2.1.size (fun x ak=>by omega));obtain ⟨a0,a1,a2,a3,a4,a5,a6,a7,a8,a9,az⟩:=Zg (dl.out wr U.out);by_cases bx:k<n
  ·obtain ⟨⟨am,ao,ap,aq⟩,ak⟩:∃ x,S.srv[k]?=some x:=⟨_,Yb (by rw [HN.out];exact bx)⟩;have HX:=Za (Zji (i:=i) ak);obtain ⟨J,off,ag,bv,ar,au,d2,d3⟩:=ZbA bg.out ak;have cx:(k:Int)<(n:Int):=by omega
   have ct:(0:Int)≤(k:Int):=by omega
   clear ak;by_cases N:k=i
   ·have ae:Hid (((S.srv.take (k+1)).eraseIdx i)=((S.srv.take k).eraseIdx i)):=by show _=_;rw [HX.out,if_pos N]
    have X:((k:Int) != (i:Int))=false:=by simp [N]
    have bu:(k != i)=false:=by simp [N]
    clear N HX ar au d2 d3 ag;go_wp2_with fail
    go_roundw
    case rel=>exact ⟨k+1,j,I,vc,by omega,by omega,by go_num,by rw [ae.out];exact m.out⟩
    case measure=>simp [intOf];omega
   ·have ae:Hid (((S.srv.take (k+1)).eraseIdx i)=((S.srv.take k).eraseIdx i)++[⟨am,ao,ap,aq⟩]):=by show _=_;rw [HX.out,if_neg N]
    have X:((k:Int) != (i:Int))=true:=by simp;omega
    have bu:(k != i)=true:=by simp [N]
    have HK:Hid (∀ w1:World,(∀ b,b<wr.heap.size→some b≠(Value.slice I j vc).ownBlock→w1.heap[b]?=wr.heap[b]?)→w1.cell? ⟨g,2,none⟩=some (.slice I j vc)∧w1.frozen? ⟨g,2,none⟩=false∧w1.cell? ⟨w.heap.size,2,none⟩=some (.slice (some ⟨J,off,none⟩) n u.sc)∧w1.cell? ⟨J,off+k*4,none⟩=some (.int .i64 am)∧w1.cell? ⟨J,off+k*4+1,none⟩=some (.string ao)∧w1.cell? ⟨J,off+k*4+2,none⟩=some (.int .i64 ap)∧w1.cell? ⟨J,off+k*4+3,none⟩=some (.int .i64 aq)):=by
     intro w1 b7;have h:=rk m.out.2.2.2 m.out.2.2.1 b7;have e3:=(h g ax).trans m.out.1;have av:=(h w.heap.size (by omega)).trans (dl.out wr U.out);have af:w1.heap[J]?=W.heap[J]?:=(h J (by omega)).trans (U.out.block J bv);rw [ag] at av;exact ⟨(Zg e3).2.2.1,(Zg e3).2.2.2.2.2.2.2.2.2.2 2,(Zg av).2.2.1,(Yn af).trans ar,(Yn af).trans au,(Yn af).trans d2,(Yn af).trans d3⟩
    rw [ag] at a2;clear N HX a0 a1 a2 a3 a4 a5 a6 a7 a8 a9 az ar au d2 d3 ag;obtain ⟨cb,cc,cd,ce,cf,cg,ch⟩:=HK.out wr (fun _ _ _=>rfl);have aj:=m.out.2.2.1;have sA:∀ o,(wr.alloc o).cell? ⟨g,2,none⟩=some (.slice I j vc):=fun o=>(HK.out (wr.alloc o) (fun j ai _=>Zt _ _ ai)).1
    obtain ⟨ck,bw,b8,b9,ca⟩:=info_parts Zlt;go_upto_region 7 with fail
    go_region_law
     ((refine step_append_lies _ (by rfl) (.tmp 24) (.tmp 31) 40 (by rfl) A.heap.size 86 ck _ 4 40 Tryz.underlying40 bw b8 b9 ca (by rfl) (by decide) _ j (Zv ((S.srv.take k).eraseIdx i)) (by rfl) (aj.alloc _) ⟨wr.heap.size,0,none⟩ 1 1 [.int .i64 am,.string ao,.int .i64 ap,.int .i64 aq] (by rfl) (by rfl) (Zar _ [.int .i64 am,.string ao,.int .i64 ap,.int .i64 aq] _) (by intro u dq;simp at dq;rcases dq with rfl | rfl | rfl | rfl <;> rfl) (by omega) (by unfold maxLen;omega) (by omega) (by simp;omega) (wr.heap.size+1) (by simp) ?_;intro R Q al dp ah bt cw;obtain ⟨ci,cj,_⟩:=HK.out al (fun j ai bz=>(ah.block j (by simp;omega) bz).trans (Zt _ _ ai))))
    all_goals
     have bd:Hid ((al.setCell ⟨g,2,none⟩ (.slice (some ⟨R,0,none⟩) (j+1) Q)).heap[g]?=some (bWs (.slice (some ⟨R,0,none⟩) (j+1) Q) S dh nx d E di)∧((S.srv.take (k+1)).eraseIdx i).length=j+1∧(al.setCell ⟨g,2,none⟩ (.slice (some ⟨R,0,none⟩) (j+1) Q)).ownsRow A.heap.size 86 4 (.slice (some ⟨R,0,none⟩) (j+1) Q) (j+1) (Zv ((S.srv.take (k+1)).eraseIdx i))∧Chg (fun y=>y=g) A (al.setCell ⟨g,2,none⟩ (.slice (some ⟨R,0,none⟩) (j+1) Q))):=by
      refine ⟨ZhG ((Zd6 m.out.2.2.2.drew aj ah g ax).trans m.out.1) _,by rw [ae.out];simp [m.out.2.1],?_,ZeN m.out.2.2.2.drew aj ah⟩;rw [ae.out];unfold Zv;rw [List.flatMap_append];exact Yi dp ax _
     clear dp ah bt ci cj cb cc cd ce cf cg ch sA aj;go_wp2_with fail
     go_roundw
     case rel=>exact ⟨k+1,j+1,some ⟨R,0,none⟩,Q,by omega,by omega,by go_num,bd.out⟩
     case measure=>simp [intOf];omega
  ·have M:=m.out;rw [Yj (by rw [HN.out];omega)] at M;obtain ⟨D,hD⟩:∃ D,Zaa S i=D:=⟨_,rfl⟩;obtain ⟨v,dj⟩:∃ v:ZA,(⟨dh.po,dh.pc,I,vc,dh.wo,dh.wc,dh.tqo,dh.tc⟩:ZA)=v:=⟨_,rfl⟩;have bi:Hid (wr.heap[g]?=some (bW D v nx d E di)):=by
    rw [←hD,←dj];show _=some (bWs (.slice I (S.srv.eraseIdx i).length vc) S dh nx d E di);rw [M.2.1];exact M.1
   have be:Hid (OwnW w.heap.size wr D v d E di):=by
    rw [←hD,←dj];have ab:=(bf.out.chg M.2.2.2).mono (show w.heap.size≤W.heap.size by omega);have b6:wr.ownsRow w.heap.size 86 4 (.slice I (S.srv.eraseIdx i).length vc) (S.srv.eraseIdx i).length (Zv (S.srv.eraseIdx i)):=by
     rw [M.2.1];exact Zr M.2.2.1 (by have:=L.out.2.2.1.size;omega)
    exact ⟨ab.p,b6,ab.q,ab.t,ab.h⟩
   have bh:=Za hD;clear M hD dj;obtain ⟨av,cl,e2,e3,e4,e5,cm,co,cp,cq,cr⟩:=Zg bi.out;obtain ⟨cz,c0,c6,c7,c8,c9,db,dc,dd,de,df⟩:=Zg (Zk O.out.b1 U.out);go_wp2_with fail
   obtain ⟨FW,aw,HF⟩:=ZaL O.out U.out be.out (nx);unfold stS ZK at aw;rw [aw];obtain ⟨bj,bk,f2,bl,bm,bo,bp,bq,br,bs,cs⟩:=Zg HF.out.1;clear aw;refine bodyPost_ret (v:=wdA D v nx d E di) (by simp [results,Tryz.results82,go_sem,bj,bk,f2,bl,bm,bo,bp,bq,br,bs]) rfl ?_;rw [bh.out];exact ⟨v,E,di,rfl,HF.out.2.2,HF.out.2.1⟩
theorem ZnG (S:Zh) (u:ZA) (nx:Int) (d:Int×List Pl) (ad:Option Addr) (Y:Nat) (w:World) (i:Nat) (hO:RowX w S u d ad Y) (av:Sml S d) :
  Calls Tryz.prog 84 #[wdA S u nx d ad Y,.int .i64 i] w fun e w'=>GaveS w.heap.size w w' (Zbp S i) nx d e:=by
 obtain ⟨W,O⟩:=Zbc w (bW S u nx d ad Y);have HO:=Za (hO.nx O.out.bel);have hW:w.heap.size+2≤W.heap.size:=by rw [O.out.eq];simp
 have dk:=Za (ZcL S u nx d ad Y W HO.out av);have df:=av.q;clear hO av;unfold wdA;go_enter Tryz.func84,Tryz.ntmps84
 go_wp2_with fail
 rw [←O.out.eq];refine dk.out.mono ?_;rintro e w1 ⟨dc,E,dd,rfl,dj,X⟩;obtain ⟨g,aa⟩:∃ g,w1.heap.size=g:=⟨_,rfl⟩;obtain ⟨A,V⟩:∃ A,A=w1.alloc (bWq (.slice none 0 0) S dc nx d E dd):=⟨_,rfl⟩;have bd:Hid (Oth W.heap.size A S dc d E dd g):=by rw [V,←aa];exact Zoi dj _
 have J:Hid (A=w1.alloc (bWq (.slice none 0 0) S dc nx d E dd)∧A.heap[g]?=some (bWq (.slice none 0 0) S dc nx d E dd)∧Below W.heap.size W A∧W.heap.size≤g):=⟨V,by rw [V];exact Zd _ _ aa.symm,by rw [V];exact Zb X (Zc _ _),by rw [←aa];exact X.size⟩;have HG:=Za aa;clear dj X V aa;go_upto_region 3 with fail
 rw [←J.out.1,HG.out];obtain ⟨n,ac⟩:∃ n,S.wts.length=n:=⟨_,rfl⟩;have HN:=Za ac;have cu:n≤549755813888:=by rw [←ac];exact df
 have ay:Hid (∀ v,Below W.heap.size W v→v.heap[w.heap.size]?=some (bWq (.slice u.wo n u.wc) S u nx d ad Y)):=fun v hb=>by rw [←ac];exact Zk O.out.b0 hb
 have be:Hid (RowAt W (.slice u.wo n u.wc) n (ZE S.wts)):=by rw [←ac];exact HO.out.q
 clear ac df;go_wp2_with fail
 go_loopw [6] (fun ax wr=>∃ (k j:Nat) (I:Option Addr) (vc:Nat),k≤n∧j≤k∧ax=.int .i64 k∧Hid (wr.heap[g]?=some (bWq (.slice I j vc) S dc nx d E dd)∧((S.wts.take k).eraseIdx i).length=j∧wr.ownsRow A.heap.size 88 2 (.slice I j vc) j (ZE ((S.wts.take k).eraseIdx i))∧Chg (fun y=>y=g) A wr)) (fun ax _=>n - (intOf ax).toNat)
 case atStart=>exact ⟨0,0,none,0,Ye _,Yd _,rfl,J.out.2.1,by simp,by simp only [List.take_zero,List.eraseIdx_nil];exact Yq _ _ _ _,Chg.refl _ _⟩
 case round =>
  obtain ⟨k,j,I,vc,ab,ah,rfl,m⟩:=hrel;have au:g<A.heap.size:=(Ya.1 J.out.2.1).1;have cq:=m.out.2.2.2.size;have cr:=J.out.2.2.2;have U:Hid (Below W.heap.size W wr):=J.out.2.2.1.trans (m.out.2.2.2.below J.out.2.2.1.size (fun x aj=>by omega));obtain ⟨a0,a1,a2,a3,a4,a5,a6,a7,a8,a9,az⟩:=Zg (ay.out wr U.out);by_cases bv:k<n
  ·obtain ⟨⟨al,am⟩,aj⟩:∃ x,S.wts[k]?=some x:=⟨_,Yb (by rw [HN.out];exact bv)⟩;have HX:=Za (Zji (i:=i) aj);obtain ⟨L,off,af,bt,ao,ap⟩:=Zdd be.out aj;have ct:(k:Int)<(n:Int):=by omega
   have cp:(0:Int)≤(k:Int):=by omega
   clear aj;by_cases N:k=i
   ·have ae:Hid (((S.wts.take (k+1)).eraseIdx i)=((S.wts.take k).eraseIdx i)):=by show _=_;rw [HX.out,if_pos N]
    have X:((k:Int) != (i:Int))=false:=by simp [N]
    have bs:(k != i)=false:=by simp [N]
    clear N HX ao ap af;go_wp2_with fail
    go_roundw
    case rel=>exact ⟨k+1,j,I,vc,by omega,by omega,by go_num,by rw [ae.out];exact m.out⟩
    case measure=>simp [intOf];omega
   ·have ae:Hid (((S.wts.take (k+1)).eraseIdx i)=((S.wts.take k).eraseIdx i)++[⟨al,am⟩]):=by show _=_;rw [HX.out,if_neg N]
    have X:((k:Int) != (i:Int))=true:=by simp;omega
    have bs:(k != i)=true:=by simp [N]
    have HK:Hid (∀ w1:World,(∀ b,b<wr.heap.size→some b≠(Value.slice I j vc).ownBlock→w1.heap[b]?=wr.heap[b]?)→w1.cell? ⟨g,3,none⟩=some (.slice I j vc)∧w1.frozen? ⟨g,3,none⟩=false∧w1.cell? ⟨w.heap.size,3,none⟩=some (.slice (some ⟨L,off,none⟩) n u.wc)∧w1.cell? ⟨L,off+k*2,none⟩=some (.int .i64 al)∧w1.cell? ⟨L,off+k*2+1,none⟩=some (.string am)):=by
     intro w1 bz;have h:=rk m.out.2.2.2 m.out.2.2.1 bz;have e3:=(h g au).trans m.out.1;have aq:=(h w.heap.size (by omega)).trans (ay.out wr U.out);have de:w1.heap[L]?=W.heap[L]?:=(h L (by omega)).trans (U.out.block L bt);rw [af] at aq;exact ⟨(Zg e3).2.2.2.1,(Zg e3).2.2.2.2.2.2.2.2.2.2 3,(Zg aq).2.2.2.1,(Yn de).trans ao,(Yn de).trans ap⟩
    rw [af] at a3;clear N HX a0 a1 a2 a3 a4 a5 a6 a7 a8 a9 az ao ap af;obtain ⟨b9,ca,cb,cc,cd⟩:=HK.out wr (fun _ _ _=>rfl);have ai:=m.out.2.2.1;have sA:∀ o,(wr.alloc o).cell? ⟨g,3,none⟩=some (.slice I j vc):=fun o=>(HK.out (wr.alloc o) (fun j ah _=>Zt _ _ ah)).1
    obtain ⟨cg,bu,b6,b7,b8⟩:=info_parts Zlh;go_upto_region 7 with fail
    go_region_law
     ((refine step_append_lies _ (by rfl) (.tmp 24) (.tmp 31) 41 (by rfl) A.heap.size 88 cg _ 2 24 Tryz.underlying41 bu b6 b7 b8 (by rfl) (by decide) _ j (ZE ((S.wts.take k).eraseIdx i)) (by rfl) (ai.alloc _) ⟨wr.heap.size,0,none⟩ 1 1 [.int .i64 al,.string am] (by rfl) (by rfl) (Zar _ [.int .i64 al,.string am] _) (by intro u di;simp at di;rcases di with rfl | rfl <;> rfl) (by omega) (by unfold maxLen;omega) (by omega) (by simp;omega) (wr.heap.size+1) (by simp) ?_;intro R Q ak dh ag br cs;obtain ⟨ce,cf,_⟩:=HK.out ak (fun j ah bw=>(ag.block j (by simp;omega) bw).trans (Zt _ _ ah))))
    all_goals
     have dl:Hid ((ak.setCell ⟨g,3,none⟩ (.slice (some ⟨R,0,none⟩) (j+1) Q)).heap[g]?=some (bWq (.slice (some ⟨R,0,none⟩) (j+1) Q) S dc nx d E dd)∧((S.wts.take (k+1)).eraseIdx i).length=j+1∧(ak.setCell ⟨g,3,none⟩ (.slice (some ⟨R,0,none⟩) (j+1) Q)).ownsRow A.heap.size 88 2 (.slice (some ⟨R,0,none⟩) (j+1) Q) (j+1) (ZE ((S.wts.take (k+1)).eraseIdx i))∧Chg (fun y=>y=g) A (ak.setCell ⟨g,3,none⟩ (.slice (some ⟨R,0,none⟩) (j+1) Q))):=by
      refine ⟨ZhQ ((Zd6 m.out.2.2.2.drew ai ag g au).trans m.out.1) _,by rw [ae.out];simp [m.out.2.1],?_,ZeN m.out.2.2.2.drew ai ag⟩;rw [ae.out];unfold ZE;rw [List.flatMap_append];exact Yi dh au _
     clear dh ag br ce cf b9 ca cb cc cd sA ai;go_wp2_with fail
     go_roundw
     case rel=>exact ⟨k+1,j+1,some ⟨R,0,none⟩,Q,by omega,by omega,by go_num,dl.out⟩
     case measure=>simp [intOf];omega
  ·have M:=m.out;rw [Yj (by rw [HN.out];omega)] at M;obtain ⟨D,hD⟩:∃ D,Zbp S i=D:=⟨_,rfl⟩;obtain ⟨v,aw⟩:∃ v:ZA,(⟨dc.po,dc.pc,dc.so,dc.sc,I,vc,dc.tqo,dc.tc⟩:ZA)=v:=⟨_,rfl⟩;have bg:Hid (wr.heap[g]?=some (bW D v nx d E dd)):=by
    rw [←hD,←aw];show _=some (bWq (.slice I (S.wts.eraseIdx i).length vc) S dc nx d E dd);rw [M.2.1];exact M.1
   have bc:Hid (OwnW w.heap.size wr D v d E dd):=by
    rw [←hD,←aw];have ab:=(bd.out.chg M.2.2.2).mono (show w.heap.size≤W.heap.size by omega);have bx:wr.ownsRow w.heap.size 88 2 (.slice I (S.wts.eraseIdx i).length vc) (S.wts.eraseIdx i).length (ZE (S.wts.eraseIdx i)):=by
     rw [M.2.1];exact Zr M.2.2.1 (by have:=J.out.2.2.1.size;omega)
    exact ⟨ab.p,ab.s,bx,ab.t,ab.h⟩
   have bf:=Za hD;clear M hD aw;obtain ⟨aq,ch,e2,e3,e4,e5,ci,cj,ck,cl,cm⟩:=Zg bg.out;obtain ⟨cv,cw,cx,cy,cz,c0,c6,c7,c8,c9,db⟩:=Zg (Zk O.out.b1 U.out);go_wp2_with fail
   obtain ⟨FW,ar,HF⟩:=ZaL O.out U.out bc.out (nx);unfold stS ZK at ar;rw [ar];obtain ⟨bh,bi,f2,bj,bk,bl,bm,bo,bp,bq,co⟩:=Zg HF.out.1;clear ar;refine bodyPost_ret (v:=wdA D v nx d E dd) (by simp [results,Tryz.results84,go_sem,bh,bi,f2,bj,bk,bl,bm,bo,bp,bq]) rfl ?_;rw [bf.out];exact ⟨v,E,dd,rfl,HF.out.2.2,HF.out.2.1⟩
theorem ZmP {w:World} {L:Array Oper} {rest:List Oper} {o:Oper} {a:Act} {J:Exit→Act→World→Prop} (m E:TypeId) (sz A:Nat) (z:Value) (aa:(Tryz.prog.info? m).map (fun i=>(i.zero,i.size,i.bytes))=some (some z,sz,A)) (ak:Tryz.prog.underlying E=some (.slice m)) (aq:z.cells.size=sz) (aj:0<sz) (V:A≤64)
  (X:o.guard=none) (s x:Operand) (ae:o.op=.call {callee:=.builtin .append,args:=#[s,x],argTypes:=#[E,E]}) (base:Nat)
  (v:Value) (n:Nat) (I:List Value) (ai:a.eval s=v) (ag:w.ownsRow base m sz v n I)
  (b off:Nat) (d c:Nat) (av:List Value) (al:a.eval x=.slice (some ⟨b,off,none⟩) d c) (ad:av.length=d*sz) (ah:RowAt w (.slice (some ⟨b,off,none⟩) d c) d av) (af:∀ u∈av,u.oneCell'=true) (ac:0<d)
  (Q:n+d≤1099511627776) (U:base≤w.heap.size)
  (h:∀ g D q,q.ownsRow base m sz (.slice (some ⟨g,0,none⟩) (n+d) D) (n+d) (I++av)→w.grownBy q v.ownBlock→(v.ownBlock=some g∨g=w.heap.size)→wpList Tryz.prog L J rest (a.put o.dst (.slice (some ⟨g,0,none⟩) (n+d) D)) q):wpList Tryz.prog L J (o :: rest) a w:=by
 obtain ⟨ar,Y,am,ao,ap⟩:=info_parts aa;refine wpList_plain X fun _ R=>wp_append_lies w s x E ae base m ar z sz A ak Y am ao ap aq aj v n I ai ag ⟨b,off,none⟩ d c av al ad ?_ af ac (by unfold maxLen;omega) ?_ U _ rfl fun g D q M N O _=>R _ _ (h g D q M N O)
 ·intro j u ab;obtain ⟨b',au,e,_,g⟩:=ah.at ab;simp only [Option.some.injEq,Addr.mk.injEq,and_true] at e;obtain ⟨rfl,rfl⟩:=e;rw [show (⟨b,off,none⟩:Addr).add j=⟨b,off+j,none⟩ by unfold Addr.add;split <;> simp_all];exact g
 ·have:(n+d)*A≤1099511627776*64:=Nat.mul_le_mul Q V;omega
theorem Zcx {u v:World} {B D:Nat} {e h:TypeId} {sz M n L:Nat} {x q:Value} {A N:List Value} (d:u.ownsRow B e sz x n A) (E:u.ownsRow D h M q L N) (J:e≠h) (I:u.grownBy v q.ownBlock):v.ownsRow B e sz x n A:=
 Zz d (fun j m=>I.block j (d.lt j m).2 (fun e2=>Zcu d E J m e2.symm))
theorem ZcZ {α:Type} (f:α→α):∀ {l:List α} {k:Nat} {x:α},l[k]?=some x→l.modify k f=l.set k (f x)
 | [],k,x,d=>by simp at d
 | y :: r,0,x,d=>by
  obtain rfl:y=x:=by simpa using d
  rfl
 | y :: r,k+1,x,d=>by
  have ih:=ZcZ f (l:=r) (k:=k) (x:=x) (by simpa using d);simp [ih]
theorem ZkC:∀ (l:List Srv) (i:Nat) (x:Srv) (c:Int),l[i]?=some x→(Zv l).set (i*4+3) (.int .i64 c)=Zv (l.set i {x with client:=c})
 | [],i,x,c,d=>by simp at d
 | y :: l,0,x,c,d=>by
  obtain rfl:y=x:=by simpa using d
  rfl
 | y :: l,i+1,x,c,d=>by
  have ih:=ZkC l i x c (by simpa using d);have e:(i+1)*4+3=(i*4+3)+1+1+1+1:=by omega
  rw [e];show fSv y++(Zv l).set (i*4+3) (.int .i64 c)=fSv y++Zv (l.set i {x with client:=c});rw [ih]
theorem Za4 {w W w1:World} {o:Obj} (h:Ent w W o) (hb:Below W.heap.size W w1) (S:Zh) (u:ZA) (nx:Int) (A:Int×List Pl) (q:Option Addr) (m:Nat):∃ d,stS w1 (w.heap.size+1) S u nx A q m=d∧Hid (d.heap[w.heap.size+1]?=some (bW S u nx A q m)∧Below w.heap.size w d):=
 ⟨_,rfl,ZcV (Zk h.b1 hb) _ _ _ _ _ _ _ _ _ _,Zdw (Zb h.bel hb) (Nat.le_succ _) _ _ _ _ _ _ _ _ _ _⟩
theorem Ze8 {w:World} {g B:Nat} {A:Array Value} {S:Zh} {u:ZA} {R:Int×List Pl} {q:Option Addr} {m:Nat} {E c1 c2 c3 c4 c5 I J L M:Value} (O:OwnW B w S u R q m) (Q:A=#[E,c1,c2,c3,c4,c5,I,J,L,M]) (D:w.heap[g]?=some (.cells A 46 (0,0))) (nx:Int) :
  ∃ d,stS w g S u nx R q m=d∧Hid (d.heap[g]?=some (bW S u nx R q m)∧(∀ C a,Below C a w→C≤g→Below C a d)∧OwnW B d S u R q m):=by
 subst Q;exact ⟨_,rfl,ZcV D _ _ _ _ _ _ _ _ _ _,fun C a h N=>Zdw h N _ _ _ _ _ _ _ _ _ _,O.st D _ _ _ _ _ _ _ _ _ _⟩
theorem ZeZ {w d:World} {g:Nat} {S:Zh} {u:ZA} {nx:Int} {A:Int×List Pl} {q:Option Addr} {m:Nat} (h:stS w g S u nx A q m=d):Hid (stS w g S u nx A q m=d):=h
theorem ZdB {w:World} {B:Nat} {e:TypeId} {sz n m q J L:Nat} {A:List Value} (h:w.ownsRow B e sz (.slice (some ⟨q,J,none⟩) n L) m A):J=0:=by
 rcases h.2 with ⟨d,_⟩ | ⟨I,D,E,d,_⟩
 ·simp at d
 ·simp at d;exact d.1.2
theorem ZmW {B C m k:Nat} {w:World} {S:Zh} {u:ZA} {E:Int×List Pl} {J:Option Addr} {I:Nat} {c:Int} {y:Srv} (d:OwnW C w S u E J I) (M:B≤C) (D:u.so=some ⟨m,0,none⟩) (L:S.srv[k]?=some y):OwnW B (w.setCell ⟨m,k*4+3,none⟩ (.int .i64 c)) (ZbU S k c) u E J I:=by
 have A:(Value.slice u.so S.srv.length u.sc).ownBlock=some m:=by rw [D];rfl
 have h:=d.s;rw [D] at h;refine ⟨Zr (Zab d.p (Zcu d.s d.p (by decide) A)) M,?_,Zr (Zab d.q (Zcu d.s d.q (by decide) A)) M,Zr (Zab d.t (Zcu d.s d.t (by decide) A)) M,Zr (Zab d.h (Zcu d.s d.h (by decide) A)) M⟩;show (w.setCell ⟨m,k*4+3,none⟩ (.int .i64 c)).ownsRow B 86 4 (.slice u.so (S.srv.modify k (fun x=>{x with client:=c})).length u.sc) (S.srv.modify k (fun x=>{x with client:=c})).length (Zv (S.srv.modify k (fun x=>{x with client:=c})));rw [ZcZ (fun x=>{x with client:=c}) L,←ZkC _ _ _ c L,List.length_set,D];have:=(h.stored (k*4+3) (.int .i64 c)).1;exact Zr (by simpa [Nat.add_assoc] using this) M
theorem ZrH {C D A:Nat} {w m:World} {o:Obj} {S:Zh} {u:ZA} {E:Int×List Pl} {J:Option Addr} {I:Nat} {x:Srv} (h:OwnW C w S u E J I) (L:m.ownsRow C 86 4 (.slice (some ⟨D,0,none⟩) (S.srv.length+1) A) (S.srv.length+1) (Zv S.srv++[.int .i64 x.id,.string x.pool,.int .i64 x.far,.int .i64 x.client])) (M:(w.alloc o).grownBy m (Value.slice u.so S.srv.length u.sc).ownBlock) :
  OwnW C m {S with srv:=S.srv++[x]} {u with so:=some ⟨D,0,none⟩,sc:=A} E J I:=by
 have d:=h.nx (Zc w o);refine ⟨Zcx d.p d.s (by decide) M,?_,Zcx d.q d.s (by decide) M,Zcx d.t d.s (by decide) M,Zcx d.h d.s (by decide) M⟩;show m.ownsRow C 86 4 (.slice (some ⟨D,0,none⟩) (S.srv++[x]).length A) (S.srv++[x]).length (Zv (S.srv++[x]));rw [List.length_append];unfold Zv;rw [List.flatMap_append];exact L
theorem Zrn {C D A:Nat} {w m:World} {o:Obj} {S:Zh} {u:ZA} {E:Int×List Pl} {J:Option Addr} {I:Nat} {x:Wtr} (h:OwnW C w S u E J I) (L:m.ownsRow C 88 2 (.slice (some ⟨D,0,none⟩) (S.wts.length+1) A) (S.wts.length+1) (ZE S.wts++[.int .i64 x.client,.string x.pool])) (M:(w.alloc o).grownBy m (Value.slice u.wo S.wts.length u.wc).ownBlock) :
  OwnW C m {S with wts:=S.wts++[x]} {u with wo:=some ⟨D,0,none⟩,wc:=A} E J I:=by
 have d:=h.nx (Zc w o);refine ⟨Zcx d.p d.q (by decide) M,Zcx d.s d.q (by decide) M,?_,Zcx d.t d.q (by decide) M,Zcx d.h d.q (by decide) M⟩;show m.ownsRow C 88 2 (.slice (some ⟨D,0,none⟩) (S.wts++[x]).length A) (S.wts++[x]).length (ZE (S.wts++[x]));rw [List.length_append];unfold ZE;rw [List.flatMap_append];exact L
theorem ZgQ {w m:World} {o h:Obj} {v:Value} {b:Nat} (q:(w.alloc o).grownBy m v.ownBlock) (d:w.heap[b]?=some h) (A:v.ownBlock≠some b):m.heap[b]?=some h:=
 (q.block b (by have:=(Ya.1 d).1;simp;omega) (fun e=>A e.symm)).trans ((Zn _ _ (Ya.1 d).1).trans d)
theorem Zm1 (S:Zh) (u:ZA) (nx:Int) (d:Int×List Pl) (af:Option Addr) (ad:Nat) (w:World) (p:Nat) (x:Pl) (L:Int) (hO:RowX w S u d af ad) (aw:Sml S d) (ay:S.pools[p]?=some x) (cz:0≤nx) (c0:nx≤4611686018427387903) :
  Calls Tryz.prog 143 #[wdA S u nx d af ad,.int .i64 p,.int .i64 L] w fun e w'=>GaveS w.heap.size w w' (ZcM S nx x L) (nx+1) d e:=by
 obtain ⟨W,q⟩:=Zbc w (bW S u nx d af ad);have HO:=Za (hO.nx q.out.bel);have hW:w.heap.size+2≤W.heap.size:=by rw [q.out.eq];simp
 have bp:=Za (ZcL S u nx d af ad W HO.out aw);have HM:=Za aw;have HX:=Za ay;have cy:(p:Int)<(S.pools.length:Int):=by
  have:=(Yc.1 ay).1;omega
 have cv:(0:Int)≤(p:Int):=by omega
 obtain ⟨A,ag,ah,dj⟩:=x;clear hO aw ay;unfold wdA;go_enter Tryz.func143,Tryz.ntmps143
 go_wp2_with fail
 rw [←q.out.eq];refine bp.out.mono ?_;rintro e w1 ⟨m,O,N,rfl,bo,av⟩;obtain ⟨U,hU,R⟩:=ZbY bo nx;obtain ⟨g,ae⟩:∃ g,w1.heap.size=g:=⟨_,rfl⟩;have ai:=Za (Zb av R.out.2.2.1);have bh:W.heap.size≤g:=by rw [←ae];exact av.size
 rw [ae] at R;have HG:=Za ae;clear hU bo av ae;go_upto_region 2 with fail
 rw [←R.out.1,HG.out];obtain ⟨ak,ab,a2,a3,a4,a5,al,am,ao,ap,aq⟩:=Zg (Zk q.out.b0 ai.out);obtain ⟨bl,off,bi,cw,a1,a6,d2,d3⟩:=ZJ (HO.out.nx ai.out).p HX.out;rw [bi] at ab;simp only at a1 a6 d2 d3;obtain ⟨h,hV⟩:∃ h,h=U.alloc (ZF ⟨A,ag,ah,dj⟩):=⟨_,rfl⟩;have E:Hid (h=U.alloc (ZF ⟨A,ag,ah,dj⟩)∧Below U.heap.size U h∧h.heap[U.heap.size]?=some (ZF ⟨A,ag,ah,dj⟩)):=⟨hV,by rw [hV];exact Zc _ _,by rw [hV];exact Zd _ _ rfl⟩;clear hV bi;go_upto_region 3 with fail
 rw [←E.out.1];clear ak ab a2 a3 a4 a5 al am ao ap aq a1 a6 d2 d3;have aa:=Za (Zb ai.out E.out.2.1);have Q:=Za (R.out.2.2.2.nx E.out.2.1);have aj:=Za (Zk R.out.2.1 E.out.2.1);obtain ⟨ak,ab,a2,a3,a4,a5,al,am,ao,ap,aq⟩:=Zg (Zk q.out.b0 aa.out);obtain ⟨a7,a8,e2,e3,e4,e5,a9,bc,bd,be,bf⟩:=Zg aj.out;obtain ⟨co,cp,cq,cr,cs⟩:=ZbK (Yh h.heap.size h) (Ya.1 E.out.2.2).1 E.out.2.2;have cb:S.srv.length+1≤1099511627776:=by have:=HM.out.s;omega
 have b9:W.heap.size≤h.heap.size:=aa.out.size;go_wp2_with (at_builtin;refine ZmP 86 40 4 40 _ Zlt Tryz.underlying40 rfl (by decide) (by decide) rfl (.tmp 20) (.tmp 29) rfl W.heap.size _ S.srv.length (Zv S.srv) rfl (Q.out.s.alloc _) h.heap.size 0 1 1 [.int .i64 nx,.string A,.int .i64 dj,.int .i64 L] rfl rfl (ZaM h [.int .i64 nx,.string A,.int .i64 dj,.int .i64 L] _ 1 rfl) (by intro u bm;simp at bm;rcases bm with rfl | rfl | rfl | rfl <;> rfl) (by decide) cb (by simp;omega) ?next)
 case next =>
  intro M J Y bk X ca;have dk:∀ b,b<W.heap.size→(Value.slice m.so S.srv.length m.sc).ownBlock≠some b:=fun b hb e=>by have:=(Q.out.s.lt b e).1;omega
  have ac:=ZgQ X aj.out (Zaf Q.out.s aj.out (by decide));have bg:=ZgQ X (Zk q.out.b0 aa.out) (dk _ (by omega));have bj:Below W.heap.size W Y:=(aa.out.alloc b9 _).grown X (by simp;omega) (fun b hb=>by have:=(Q.out.s.lt b hb).1;omega);obtain ⟨D,hD⟩:∃ D,ZcM S nx ⟨A,ag,ah,dj⟩ L=D:=⟨_,rfl⟩;obtain ⟨v,ax⟩:∃ v:ZA,{m with so:=some ⟨M,0,none⟩,sc:=J}=v:=⟨_,rfl⟩;obtain ⟨I,V⟩:∃ I,I=(Y.setCell ⟨g,2,none⟩ (.slice (some ⟨M,0,none⟩) (S.srv.length+1) J)).setCell ⟨g,7,none⟩ (.int .i64 (nx+1)):=⟨_,rfl⟩;have ar:=ZhG ac (.slice (some ⟨M,0,none⟩) (S.srv.length+1) J);have a0:Hid (I=(Y.setCell ⟨g,2,none⟩ (.slice (some ⟨M,0,none⟩) (S.srv.length+1) J)).setCell ⟨g,7,none⟩ (.int .i64 (nx+1))∧I.heap[g]?=some (bW D v (nx+1) d O N)):=by
   refine ⟨V,?_⟩;rw [V,←hD,←ax];show _=some (bWd (.int .i64 S.bud) (.slice m.po S.pools.length m.pc) (.slice (some ⟨M,0,none⟩) (S.srv++[_]).length J) (.slice m.wo S.wts.length m.wc) (.slice m.tqo S.plan.length m.tc) (.bool S.begun) (.bool S.back) (.int .i64 (nx+1)) (.int .i64 d.1) (.slice O d.2.length N));rw [List.length_append];exact ZmU ar _
  have az:Hid (Below W.heap.size W I):=by rw [V];exact (bj.setCell (by show W.heap.size≤g;exact bh) _).setCell (by show W.heap.size≤g;exact bh) _
  have bq:Hid (OwnW w.heap.size I D v d O N):=by
   have b8:OwnW W.heap.size Y D v d O N:=by rw [←hD,←ax];exact ZrH (x:=⟨nx,A,dj,L⟩) Q.out bk X
   rw [V];exact ((b8.st1 ac _).st1 ar _).mono (by omega)
  have br:=Za hD;have ct:(Y.setCell ⟨g,2,none⟩ (.slice (some ⟨M,0,none⟩) (S.srv.length+1) J)).cell? ⟨w.heap.size,7,none⟩=some (.int .i64 nx):=(Yn (Yf _ _ _ _ (by show w.heap.size≠g;omega))).trans (Zg bg).2.2.2.2.2.2.2.1;have cx:w.heap.size≠g:=by omega
  clear bk X ca V hD ax bj bg ak ab a2 a3 a4 a5 al am ao ap aq a7 a8 e2 e3 e4 e5 a9 bc bd be bf co cp cq cr cs ar dk;obtain ⟨cc,cd,ce,cf,cg,ch,ci,cj,ck,cl,cm⟩:=Zg ac;clear ac;go_upto_region 5 with fail
  rw [←a0.out.1];clear cc cd ce cf cg ch ci cj ck cl cm ct;obtain ⟨a7,a8,e2,e3,e4,e5,a9,bc,bd,be,bf⟩:=Zg a0.out.2;obtain ⟨c6,c7,c8,c9,db,dc,dd,de,df,dh,di⟩:=Zg (Zk q.out.b1 az.out);go_wp2_with fail
  obtain ⟨FW,au,HF⟩:=ZaL q.out az.out bq.out (nx+1);unfold stS ZK at au;rw [au];obtain ⟨bs,bt,f2,bu,bv,bw,bx,bz,b6,b7,cu⟩:=Zg HF.out.1;clear au;refine bodyPost_ret (v:=wdA D v (nx+1) d O N) (by simp [results,Tryz.results143,go_sem,bs,bt,f2,bu,bv,bw,bx,bz,b6,b7]) rfl ?_;rw [br.out];exact ⟨v,O,N,rfl,HF.out.2.2,HF.out.2.1⟩
end Lw
end Go.Proofs.YtmgkcbdlfodjmaaGreatDoor
