import Derived.Test.YtmgkcbdlfodjmaaGreatDoorBqN
set_option maxRecDepth 100000
set_option maxHeartbeats 16000000
namespace Go.Proofs.YtmgkcbdlfodjmaaGreatDoor
open Go.RowKit
namespace Lw
open Co
structure WyV where
 st:Value
 bg:Bool
 bk:Bool
 hb:Int
 hp:Value
abbrev ZG (b:Int) (po:Option Addr) (n1 pc:Nat) (so:Option Addr) (n2 sc:Nat) (wo:Option Addr) (n3 wc:Nat) (op:Int) (q:WyV):Obj:=.cells #[.int .i64 b,.slice po n1 pc,.slice so n2 sc,.slice wo n3 wc,.int .i64 op,q.st,.bool q.bg,.bool q.bk,.int .i64 q.hb,q.hp] 95
structure ZB where
 op:Int
 hb:Int
 hps:List Pl
abbrev ZbT:Obj:=.cells #[.int .i64 0,.slice none 0 0,.slice none 0 0,.slice none 0 0,.slice none 0 0,.bool false,.bool false] 44
abbrev Zeu (b:Int) (v1 v2 v3 v4:Value) (x y:Bool):Obj:=.cells #[.int .i64 b,v1,v2,v3,v4,.bool x,.bool y] 44
structure Held (w:World) (F:Nat→Prop) (ty:TypeId) (sz:Nat) (v:Value) (n:Nat) (cs:List Value):Prop where
 own:w.ownsRow 0 ty sz v n cs
 blk:∀ g,v.ownBlock=some g→F g
theorem Held.keep {w A:World} {F h:Nat→Prop} {q:TypeId} {sz n:Nat} {v:Value} {m:List Value} (d:Held w F q sz v n m) (E:∀ g,F g→A.heap[g]?=w.heap[g]?) (hF:∀ g,F g→h g):Held A h q sz v n m:=
 ⟨Zz d.own (fun j I=>E j (d.blk j I)),fun g D=>hF g (d.blk g D)⟩
theorem Held.nil {w:World} {F:Nat→Prop} {h:TypeId} {sz:Nat}:Held w F h sz (.slice none 0 0) 0 []:=⟨Yq _ _ _ _,fun g d=>by simp [Value.ownBlock] at d⟩
structure DeskX (w:World) (gp:Nat) (S:Zh) (X:ZB) (F:Nat→Prop) (po:Option Addr) (pc:Nat) (so:Option Addr) (sc:Nat) (wo:Option Addr) (wc:Nat) (yo:Option Addr) (yc:Nat) (ho:Option Addr) (hc:Nat):Prop where
 box:w.heap[gp]?=some (ZG S.bud po S.pools.length pc so S.srv.length sc wo S.wts.length wc X.op ⟨.slice yo S.plan.length yc,S.begun,S.back,X.hb,.slice ho X.hps.length hc⟩)
 p:Held w F 82 4 (.slice po S.pools.length pc) S.pools.length (Ze S.pools)
 s:Held w F 86 4 (.slice so S.srv.length sc) S.srv.length (Zv S.srv)
 t:Held w F 88 2 (.slice wo S.wts.length wc) S.wts.length (ZE S.wts)
 l:Held w F 84 3 (.slice yo S.plan.length yc) S.plan.length (Zo S.plan)
 h:Held w F 82 4 (.slice ho X.hps.length hc) X.hps.length (Ze X.hps)
structure DeskAt (w:World) (gp:Nat) (S:Zh) (X:ZB) (F:Nat→Prop):Prop where
 ex:∃ po pc so sc wo wc yo yc ho hc,DeskX w gp S X F po pc so sc wo wc yo yc ho hc
 gp:F gp
 lt:∀ x,F x→x<w.heap.size
theorem DeskAt.keep {w A:World} {q:Nat} {S:Zh} {D:ZB} {F G:Nat→Prop} (d:DeskAt w q S D F) (E:Chg G w A) (hd:∀ x,F x→¬G x):DeskAt A q S D F:=by
 obtain ⟨N,M,so,sc,wo,wc,Q,O,L,J,h⟩:=d.ex;have m:∀ g,F g→A.heap[g]?=w.heap[g]?:=fun g I=>E.block g (d.lt g I) (hd g I)
 exact ⟨⟨N,M,so,sc,wo,wc,Q,O,L,J,(m q d.gp).trans h.box,h.p.keep m (fun _ d=>d),h.s.keep m (fun _ d=>d),h.t.keep m (fun _ d=>d),h.l.keep m (fun _ d=>d),h.h.keep m (fun _ d=>d)⟩,d.gp,fun x h=>Yl (d.lt x h) E.size⟩
theorem Zc9 (w:World) (d:TypeId) (sz:Nat) (g:Nat) (m:g=w.heap.size) (B:Nat) (h:B≤w.heap.size):(w.alloc (.cells #[] d)).ownsRow B d sz (.slice (some ⟨g,0,none⟩) 0 0) 0 []:=by
 subst m;exact World.ownsRow_made (base:=B) (e:=d) (size:=sz) w #[] 0 h (Ye _) (by simp)
theorem ZtL {w:World} {g:Nat} {d c1 c2 c3 c4:Value} {t:TypeId} (h:w.heap[g]?=some (.cells #[d,c1,c2,c3,c4] t (0,0))) :
  w.cell? ⟨g,0,none⟩=some d∧w.cell? ⟨g,1,none⟩=some c1∧w.cell? ⟨g,2,none⟩=some c2∧w.cell? ⟨g,3,none⟩=some c3∧w.cell? ⟨g,4,none⟩=some c4∧∀ a,w.frozen? ⟨g,a,none⟩=false:=by
 refine ⟨?_,?_,?_,?_,?_,fun a=>?_⟩ <;> simp [World.cell?,World.frozen?,h]
theorem ZS {w:World} {g:Nat} {d c1 c2 c3 c4 c5 D m q A:Value} {t:TypeId} (h:w.heap[g]?=some (.cells #[d,c1,c2,c3,c4,c5,D,m,q,A] t (0,0))) :
  w.cell? ⟨g,0,none⟩=some d∧w.cell? ⟨g,1,none⟩=some c1∧w.cell? ⟨g,2,none⟩=some c2∧w.cell? ⟨g,3,none⟩=some c3∧w.cell? ⟨g,4,none⟩=some c4∧∀ a,w.frozen? ⟨g,a,none⟩=false:=by
 refine ⟨?_,?_,?_,?_,?_,fun a=>?_⟩ <;> simp [World.cell?,World.frozen?,h]
theorem Zdc {w:World} {g:Nat} {A c1 c2 c3 c4 c5 d D m q:Value} {t:TypeId} (h:w.heap[g]?=some (.cells #[A,c1,c2,c3,c4,c5,d,D,m,q] t (0,0))) :
  w.cell? ⟨g,5,none⟩=some c5∧w.cell? ⟨g,6,none⟩=some d∧w.cell? ⟨g,7,none⟩=some D∧w.cell? ⟨g,8,none⟩=some m∧w.cell? ⟨g,9,none⟩=some q∧∀ a,w.frozen? ⟨g,a,none⟩=false:=by
 refine ⟨?_,?_,?_,?_,?_,fun a=>?_⟩ <;> simp [World.cell?,World.frozen?,h]
theorem ZcT {w:World} {g:Nat} {d c1 c2 c3 c4 c5 m:Value} {t:TypeId} (h:w.heap[g]?=some (.cells #[d,c1,c2,c3,c4,c5,m] t (0,0))) :
  w.cell? ⟨g,0,none⟩=some d∧w.cell? ⟨g,1,none⟩=some c1∧w.cell? ⟨g,2,none⟩=some c2∧w.cell? ⟨g,3,none⟩=some c3∧w.cell? ⟨g,4,none⟩=some c4∧w.cell? ⟨g,5,none⟩=some c5∧w.cell? ⟨g,6,none⟩=some m∧∀ a,w.frozen? ⟨g,a,none⟩=false:=by
 refine ⟨?_,?_,?_,?_,?_,?_,?_,fun a=>?_⟩ <;> simp [World.cell?,World.frozen?,h]
theorem ZfD (W:World) (g:Nat) (h c1 c2 c3 c4 c5 m:Value) (j:Nat) (d:j≠g):(((((((W.setCell ⟨g,0,none⟩ h).setCell ⟨g,1,none⟩ c1).setCell ⟨g,2,none⟩ c2).setCell ⟨g,3,none⟩ c3).setCell ⟨g,4,none⟩ c4).setCell ⟨g,5,none⟩ c5).setCell ⟨g,6,none⟩ m).heap[j]?=W.heap[j]?:=by
 refine (Yf _ _ _ _ d).trans ((Yf _ _ _ _ d).trans ((Yf _ _ _ _ d).trans ((Yf _ _ _ _ d).trans ((Yf _ _ _ _ d).trans ((Yf _ _ _ _ d).trans (Yf _ _ _ _ d))))))
theorem ZiW {B:Nat} {w0 W:World} (h:Below B w0 W) (g:Nat) (d:B≤g) (q c1 c2 c3 c4 c5 m:Value):Below B w0 (((((((W.setCell ⟨g,0,none⟩ q).setCell ⟨g,1,none⟩ c1).setCell ⟨g,2,none⟩ c2).setCell ⟨g,3,none⟩ c3).setCell ⟨g,4,none⟩ c4).setCell ⟨g,5,none⟩ c5).setCell ⟨g,6,none⟩ m):=
 ((((((h.setCell d _).setCell d _).setCell d _).setCell d _).setCell d _).setCell d _).setCell d _
theorem Zn1 (aa:Nat) (b:Int) (ps:List Pl) (ss:List Srv) (aj:List Wtr) (d m cf:Nat) (ae:Option Addr) (ad:Nat) (so:Option Addr) (sc:Nat) (wo:Option Addr) (wc:Nat) (op:Int) (q:WyV) (w:World) (a8:w.heap[aa]?=some (ZG b ae d ad so m sc wo cf wc op q))
  (a1:w.ownsRow 0 82 4 (.slice ae d ad) d (Ze ps)) (bi:w.ownsRow 0 86 4 (.slice so m sc) m (Zv ss)) (bj:w.ownsRow 0 88 2 (.slice wo cf wc) cf (ZE aj)) (bd:ps.length=d∧ss.length=m∧aj.length=cf) (bw:d≤1099511627776∧m≤1099511627776∧cf≤1099511627776) :
  Calls Tryz.prog 30 #[.pointer (some ⟨aa,0,none⟩)] w fun e w'=>∃ J I N M Y X,e=.returned (.agg #[.int .i64 b,.slice J d I,.slice N m M,.slice Y cf X,.slice none 0 0,.bool false,.bool false])∧w'.ownsRow w.heap.size 82 4 (.slice J d I) d (Ze ps)∧w'.ownsRow w.heap.size 86 4 (.slice N m M) m (Zv ss)∧w'.ownsRow w.heap.size 88 2 (.slice Y cf X) cf (ZE aj)∧Below w.heap.size w w':=by
 obtain ⟨bx,cc,cd⟩:=bw;have bu:aa<w.heap.size:=(Ya.1 a8).1;have HN:=Za bd;have ca:=Za a1;have bg:=Za bi;have bh:=Za bj;have cb:=Za a8;have a6:Below w.heap.size w ((w.alloc ZbT).alloc ZbT):=Zb (Zc _ _) (Zc _ _);have HZ:Hid (Below w.heap.size w ((w.alloc ZbT).alloc ZbT)∧((w.alloc ZbT).alloc ZbT).heap[w.heap.size]?=some ZbT∧((w.alloc ZbT).alloc ZbT).heap[w.heap.size+1]?=some ZbT∧((w.alloc ZbT).alloc ZbT).heap[aa]?=some (ZG b ae d ad so m sc wo cf wc op q)):=
  ⟨a6,(Zn _ _ (by simp)).trans (Zd _ _ rfl),Zd _ _ (by simp),(a6.block _ bu).trans a8⟩
 have bt:=Za (ZcI b ps ae d ad ((w.alloc ZbT).alloc ZbT) ((Zf a1).nx a6) (ZaO a1) bd.1 bx);obtain ⟨av,aw,ax,ay,az,a0⟩:=ZS HZ.out.2.2.2;clear a8 a1 bi bj bd a6;go_enter Tryz.func30,Tryz.ntmps30
 go_wp2_with fail
 refine bt.out.mono ?_;rintro e w1 ⟨J,I,rfl,bp,ah⟩;have R:w1.heap[w.heap.size+1]?=some ZbT:=(ah.block _ (by simp)).trans HZ.out.2.2.1;have bs:w1.heap[w.heap.size]?=some ZbT:=(ah.block _ (by simp;omega)).trans HZ.out.2.1;have bo:w1.heap[aa]?=some (ZG b ae d ad so m sc wo cf wc op q):=(ah.block _ (by simp;omega)).trans HZ.out.2.2.2;have bk:Below w.heap.size w w1:=Zb HZ.out.1 ah;have bq:w.heap.size+2≤w1.heap.size:=by have:=ah.size;simpa using this
 obtain ⟨L,ab⟩:∃ L,L=(w1.setCell ⟨w.heap.size+1,0,none⟩ (.int .i64 b)).setCell ⟨w.heap.size+1,1,none⟩ (.slice J d I):=⟨_,rfl⟩;have A:Hid (L=(w1.setCell ⟨w.heap.size+1,0,none⟩ (.int .i64 b)).setCell ⟨w.heap.size+1,1,none⟩ (.slice J d I)∧L.heap[w.heap.size+1]?=some (Zeu b (.slice J d I) (.slice none 0 0) (.slice none 0 0) (.slice none 0 0) false false)∧L.heap[w.heap.size]?=some ZbT∧L.heap[aa]?=some (ZG b ae d ad so m sc wo cf wc op q)∧Below w.heap.size w L∧w.heap.size+2≤L.heap.size∧L.ownsRow (w.heap.size+2) 82 4 (.slice J d I) d (Ze ps)):=by
  have Q:∀ j,j≠w.heap.size+1→L.heap[j]?=w1.heap[j]?:=fun j h=>by rw [ab];exact (Yf _ _ _ _ h).trans (Yf _ _ _ _ h)
  refine ⟨ab,?_,(Q _ (by omega)).trans bs,(Q _ (by omega)).trans bo,?_,by rw [ab];simpa using bq,?_⟩
  ·rw [ab];exact Zm _ _ _ _ _ _ (Zm _ _ _ _ _ _ R)
  ·rw [ab];exact (bk.setCell (by show w.heap.size≤w.heap.size+1;omega) _).setCell (by show w.heap.size≤w.heap.size+1;omega) _
  ·rw [ab];have bv:w1.ownsRow (w.heap.size+2) 82 4 (.slice J d I) d (Ze ps):=by simpa using bp
   exact Yi (Yi bv (by show w.heap.size+1<_;omega) _) (by show w.heap.size+1<_;omega) _
 obtain ⟨ak,al,am,ao,ap,aq,ar,au⟩:=ZcT R;clear bp ah R bs bo bk bq ab av aw ax ay az a0;go_upto_region 3 with fail
 rw [←A.out.1];clear ak al am ao ap aq ar au;obtain ⟨av,aw,ax,ay,az,a0⟩:=ZS ((Zn L (.cells #[] 86) (Ya.1 A.out.2.2.2.1).1).trans A.out.2.2.2.1);go_wp2_with (at_builtin;refine ZaN 86 40 4 40 _ Zg9 Tryz.underlying40 rfl (by decide) (by decide) rfl (.tmp 11) (.tmp 15) rfl L.heap.size _ 0 [] rfl (Zc9 L _ 4 _ rfl _ (Yd _)) so m sc (Zv ss) rfl (by rw [Zpe,HN.out.2.1]) (((Zf bg.out).nx A.out.2.2.2.2.1).nx (Zc _ _)) (ZoO ss) (ZaO bg.out) (by omega) (by simp) ?next)
 case next =>
  intro v' af be a7;obtain ⟨N,M,rfl,_⟩:=Zf be;have bl:Below w.heap.size w af:=(A.out.2.2.2.2.1.alloc (Ym (by omega) A.out.2.2.2.2.2.1) _).trans (a7.mono (Ym (by omega) A.out.2.2.2.2.2.1));have br:w.heap.size+2≤af.heap.size:=Ym A.out.2.2.2.2.2.1 (Ym (by simp) a7.size);have O:∀ j,j<L.heap.size→af.heap[j]?=L.heap[j]?:=fun j h=>(a7.block j h).trans (Zn _ _ h)
  have R:af.heap[w.heap.size+1]?=some (Zeu b (.slice J d I) (.slice none 0 0) (.slice none 0 0) (.slice none 0 0) false false):=(O _ (by have:=A.out.2.2.2.2.2.1;omega)).trans A.out.2.1;obtain ⟨E,ac⟩:∃ E,E=af.setCell ⟨w.heap.size+1,2,none⟩ (.slice N m M):=⟨_,rfl⟩;have D:Hid (E=af.setCell ⟨w.heap.size+1,2,none⟩ (.slice N m M)∧E.heap[w.heap.size+1]?=some (Zeu b (.slice J d I) (.slice N m M) (.slice none 0 0) (.slice none 0 0) false false)∧E.heap[w.heap.size]?=some ZbT∧E.heap[aa]?=some (ZG b ae d ad so m sc wo cf wc op q)∧Below w.heap.size w E∧w.heap.size+2≤E.heap.size∧E.ownsRow (w.heap.size+2) 82 4 (.slice J d I) d (Ze ps)∧E.ownsRow (w.heap.size+2) 86 4 (.slice N m M) m (Zv ss)):=by
   have Q:∀ j,j≠w.heap.size+1→E.heap[j]?=af.heap[j]?:=fun j h=>by rw [ac];exact Yf _ _ _ _ h
   have a9:=A.out.2.2.2.2.2.1;refine ⟨ac,?_,(Q _ (by omega)).trans ((O _ (by omega)).trans A.out.2.2.1),(Q _ (by omega)).trans ((O _ (by omega)).trans A.out.2.2.2.1),?_,by rw [ac];simpa using br,?_,?_⟩
   ·rw [ac];exact Zm _ _ _ _ _ _ R
   ·rw [ac];exact bl.setCell (by show w.heap.size≤w.heap.size+1;omega) _
   ·exact Zz A.out.2.2.2.2.2.2 (fun j h=>(Q j (by have:=(A.out.2.2.2.2.2.2.lt j h).1;omega)).trans (O j (A.out.2.2.2.2.2.2.lt j h).2))
   ·rw [ac];exact Yi (Zr be a9) (by show w.heap.size+1<_;omega) _
  obtain ⟨ak,al,am,ao,ap,aq,ar,au⟩:=ZcT R;clear be a7 bl br O R ac av aw ax ay az a0;go_upto_region 4 with fail
  rw [←D.out.1];clear ak al am ao ap aq ar au;obtain ⟨av,aw,ax,ay,az,a0⟩:=ZS ((Zn E (.cells #[] 88) (Ya.1 D.out.2.2.2.1).1).trans D.out.2.2.2.1);go_wp2_with (at_builtin;refine ZaN 88 41 2 24 _ Zmo Tryz.underlying41 rfl (by decide) (by decide) rfl (.tmp 18) (.tmp 22) rfl E.heap.size _ 0 [] rfl (Zc9 E _ 2 _ rfl _ (Yd _)) wo cf wc (ZE aj) rfl (by rw [Zot,HN.out.2.2]) (((Zf bh.out).nx D.out.2.2.2.2.1).nx (Zc _ _)) (Zox aj) (ZaO bh.out) (by omega) (by simp) ?next3)
  case next3 =>
   intro v' ai bf bc;obtain ⟨Y,X,rfl,_⟩:=Zf bf;have bm:Below w.heap.size w ai:=(D.out.2.2.2.2.1.alloc (Ym (by omega) D.out.2.2.2.2.2.1) _).trans (bc.mono (Ym (by omega) D.out.2.2.2.2.2.1));have O:∀ j,j<E.heap.size→ai.heap[j]?=E.heap[j]?:=fun j h=>(bc.block j h).trans (Zn _ _ h)
   have a9:=D.out.2.2.2.2.2.1;have R:ai.heap[w.heap.size+1]?=some (Zeu b (.slice J d I) (.slice N m M) (.slice none 0 0) (.slice none 0 0) false false):=(O _ (by omega)).trans D.out.2.1;obtain ⟨V,ag⟩:∃ V,V=ai.setCell ⟨w.heap.size+1,3,none⟩ (.slice Y cf X):=⟨_,rfl⟩;have Q:∀ j,j≠w.heap.size+1→V.heap[j]?=ai.heap[j]?:=fun j h=>by rw [ag];exact Yf _ _ _ _ h
   have U:Hid (V=ai.setCell ⟨w.heap.size+1,3,none⟩ (.slice Y cf X)∧V.heap[w.heap.size+1]?=some (Zeu b (.slice J d I) (.slice N m M) (.slice Y cf X) (.slice none 0 0) false false)∧V.heap[w.heap.size]?=some ZbT∧Below w.heap.size w V∧V.ownsRow (w.heap.size+2) 82 4 (.slice J d I) d (Ze ps)∧V.ownsRow (w.heap.size+2) 86 4 (.slice N m M) m (Zv ss)∧V.ownsRow (w.heap.size+2) 88 2 (.slice Y cf X) cf (ZE aj)):=by
    refine ⟨ag,?_,(Q _ (by omega)).trans ((O _ (by omega)).trans D.out.2.2.1),?_,?_,?_,?_⟩
    ·rw [ag];exact Zm _ _ _ _ _ _ R
    ·rw [ag];exact bm.setCell (by show w.heap.size≤w.heap.size+1;omega) _
    ·exact Zz D.out.2.2.2.2.2.2.1 (fun j h=>(Q j (by have:=(D.out.2.2.2.2.2.2.1.lt j h).1;omega)).trans (O j (D.out.2.2.2.2.2.2.1.lt j h).2))
    ·exact Zz D.out.2.2.2.2.2.2.2 (fun j h=>(Q j (by have:=(D.out.2.2.2.2.2.2.2.lt j h).1;omega)).trans (O j (D.out.2.2.2.2.2.2.2.lt j h).2))
    ·rw [ag];exact Yi (Zr bf a9) (by show w.heap.size+1<_;omega) _
   obtain ⟨ak,al,am,ao,ap,aq,ar,au⟩:=ZcT R;clear bf bc bm O R ag Q av aw ax ay az a0 a9;go_upto_region 5 with fail
   rw [←U.out.1];clear ak al am ao ap aq ar au;obtain ⟨ak,al,am,ao,ap,aq,ar,au⟩:=ZcT U.out.2.1;obtain ⟨bz,b0,b1,b6,b7,b8,b9,ce⟩:=ZcT U.out.2.2.1;go_wp2_with fail
   refine bodyPost_ret (v:=.agg #[.int .i64 b,.slice J d I,.slice N m M,.slice Y cf X,.slice none 0 0,.bool false,.bool false]) (by simp [results,Tryz.results30,go_sem,bz,b0,b1,b6,b7,b8,b9]) rfl ⟨J,I,N,M,Y,X,rfl,?_,?_,?_,?_⟩
   ·exact Zr (Zz U.out.2.2.2.2.1 (fun j h=>ZfD _ _ _ _ _ _ _ _ _ j (by have:=(U.out.2.2.2.2.1.lt j h).1;omega))) (by omega)
   ·exact Zr (Zz U.out.2.2.2.2.2.1 (fun j h=>ZfD _ _ _ _ _ _ _ _ _ j (by have:=(U.out.2.2.2.2.2.1.lt j h).1;omega))) (by omega)
   ·exact Zr (Zz U.out.2.2.2.2.2.2 (fun j h=>ZfD _ _ _ _ _ _ _ _ _ j (by have:=(U.out.2.2.2.2.2.2.lt j h).1;omega))) (by omega)
   ·exact ZiW U.out.2.2.2.1 _ (Yd _) _ _ _ _ _ _ _
theorem ZmY:(Tryz.prog.info? 84).map (fun i=>(i.zero,i.size,i.bytes))=some (some (.agg #[.int .i64 0,.string ⟨#[]⟩,.int .i64 0]),3,32):=by kernel_rfl
theorem Zn7 (l:List Stp):(Zo l).length=l.length*3:=Zhf fSt 3 (fun _=>rfl) l
theorem ZnH (l:List Stp):∀ u∈Zo l,u.oneCell'=true:=ZiF fSt (fun x u d=>by simp [fSt] at d;rcases d with rfl | rfl | rfl <;> rfl) l
theorem ZnP (D:Nat) (b:Int) (aj:Option Addr) (af ai:Nat) (so:Option Addr) (ag sc:Nat) (wo:Option Addr) (ah wc:Nat) (op:Int) (L:Option Addr) (d J:Nat) (R U:Bool) (hb:Int) (ae:Value) (al:List Stp) (w:World) (E:w.heap[D]?=some (ZG b aj af ai so ag sc wo ah wc op ⟨.slice L d J,R,U,hb,ae⟩))
  (h:w.ownsRow 0 84 3 (.slice L d J) d (Zo al)) (N:al.length=d) (ak:d≤1099511627776) :
  Calls Tryz.prog 31 #[.pointer (some ⟨D,5,none⟩)] w fun e O=>∃ q m,e=.returned (.slice q d m)∧O.ownsRow w.heap.size 84 3 (.slice q d m) d (Zo al)∧Below w.heap.size w O:=by
 have ad:D<w.heap.size:=(Ya.1 E).1;obtain ⟨V,X,Y,aa,ab,ac⟩:=Zdc ((Zn w (.cells #[] 84) ad).trans E);have A:=Za (And.intro h N);clear E h N;go_enter Tryz.func31,Tryz.ntmps31
 go_wp2_with (at_builtin;refine ZaN 84 42 3 32 _ ZmY Tryz.underlying42 rfl (by decide) (by decide) rfl (.tmp 3) (.tmp 7) rfl w.heap.size _ 0 [] rfl (Zc9 w _ 3 _ rfl _ (Yd _)) L d J (Zo al) rfl (by rw [Zn7,A.out.2]) ((Zf A.out.1).nx (Zc _ _)) (ZnH al) (ZaO A.out.1) (by omega) (by simp) ?next)
 case next =>
  intro v' Q I M;obtain ⟨q,m,rfl,_⟩:=Zf I;have K:Hid (Q.ownsRow w.heap.size 84 3 (.slice q d m) d (Zo al)∧Below w.heap.size w Q):=⟨by simpa using I,(Zc _ _).trans M⟩;clear I M V X Y aa ab ac;go_wp2_with fail
  go_ret
  exact ⟨q,m,by simp,K.out⟩
theorem ZiI (d:Nat) (b:Int) (I:Option Addr) (q E:Nat) (so:Option Addr) (A sc:Nat) (wo:Option Addr) (D wc:Nat) (op:Int) (h:WyV) (w:World) (m:w.heap[d]?=some (ZG b I q E so A sc wo D wc op h)) :
  Calls Tryz.prog 32 #[.pointer (some ⟨d,5,none⟩)] w fun e J=>e=.returned (.bool h.bg)∧J=w:=by
 obtain ⟨L,M,N,O,Q,R⟩:=Zdc m;go_enter Tryz.func32,Tryz.ntmps32
 go_wp2_with fail
 go_ret
 exact ⟨rfl,rfl⟩
theorem Zkw (d:Nat) (b:Int) (I:Option Addr) (q E:Nat) (so:Option Addr) (A sc:Nat) (wo:Option Addr) (D wc:Nat) (op:Int) (h:WyV) (w:World) (m:w.heap[d]?=some (ZG b I q E so A sc wo D wc op h)) :
  Calls Tryz.prog 33 #[.pointer (some ⟨d,5,none⟩)] w fun e J=>e=.returned (.bool h.bk)∧J=w:=by
 obtain ⟨L,M,N,O,Q,R⟩:=Zdc m;go_enter Tryz.func33,Tryz.ntmps33
 go_wp2_with fail
 go_ret
 exact ⟨rfl,rfl⟩
theorem ZnD (U:Nat) (b:Int) (ps:List Pl) (ss:List Srv) (ak:List Wtr) (a9:List Stp) (d cs m A:Nat) (ae:Option Addr) (ad:Nat) (so:Option Addr) (sc:Nat) (wo:Option Addr) (wc:Nat) (op:Int) (am:Option Addr) (al:Nat) (V ab:Bool) (hb:Int) (ao:Value) (w:World) (bg:w.heap[U]?=some (ZG b ae d ad so cs sc wo m wc op ⟨.slice am A al,V,ab,hb,ao⟩))
  (bl:w.ownsRow 0 82 4 (.slice ae d ad) d (Ze ps)) (bm:w.ownsRow 0 86 4 (.slice so cs sc) cs (Zv ss)) (az:w.ownsRow 0 88 2 (.slice wo m wc) m (ZE ak)) (bc:w.ownsRow 0 84 3 (.slice am A al) A (Zo a9)) (b1:ps.length=d∧ss.length=cs∧ak.length=m) (b6:a9.length=A) (b7:d≤1099511627776∧cs≤1099511627776∧m≤1099511627776) (cf:A≤1099511627776) :
  Calls Tryz.prog 12 #[.pointer (some ⟨U,0,none⟩)] w fun e w'=>∃ J I M L O N Y X,e=.returned (.agg #[.int .i64 b,.slice J d I,.slice M cs L,.slice O m N,.slice Y A X,.bool V,.bool ab])∧w'.ownsRow w.heap.size 82 4 (.slice J d I) d (Ze ps)∧w'.ownsRow w.heap.size 86 4 (.slice M cs L) cs (Zv ss)∧w'.ownsRow w.heap.size 88 2 (.slice O m N) m (ZE ak)∧w'.ownsRow w.heap.size 84 3 (.slice Y A X) A (Zo a9)∧Below w.heap.size w w':=by
 have bh:U<w.heap.size:=(Ya.1 bg).1;have a7:∀ j,j<w.heap.size→(w.alloc ZbT).heap[j]?=w.heap[j]?:=fun j q=>Zn _ _ q
 have HD:=Za (Zn1 U b ps ss ak d cs m ae ad so sc wo wc op ⟨.slice am A al,V,ab,hb,ao⟩ (w.alloc ZbT) ((a7 U bh).trans bg) (Zz bl (fun j q=>a7 j (bl.lt j q).2)) (Zz bm (fun j q=>a7 j (bm.lt j q).2)) (Zz az (fun j q=>a7 j (az.lt j q).2)) b1 b7);have HG:=Za bg;have br:=Za (And.intro bc b6);clear bg bl bm az b1 b7 a7 bc b6;go_enter Tryz.func12,Tryz.ntmps12
 go_wp2_with fail
 refine HD.out.mono ?_;rintro e w1 ⟨J,I,M,L,O,N,rfl,b9,cb,cd,bd⟩;have co:w.heap.size+1≤w1.heap.size:=by have:=bd.size;simpa using this
 obtain ⟨R,ac⟩:∃ R,R=w1.alloc (Zeu b (.slice J d I) (.slice M cs L) (.slice O m N) (.slice none 0 0) false false):=⟨_,rfl⟩;have be:Below w.heap.size w R:=by rw [ac];exact Zb (Zb (Zc _ _) bd) (Zc _ _)
 have Q:Hid (R=w1.alloc (Zeu b (.slice J d I) (.slice M cs L) (.slice O m N) (.slice none 0 0) false false)∧R.heap[w1.heap.size]?=some (Zeu b (.slice J d I) (.slice M cs L) (.slice O m N) (.slice none 0 0) false false)∧R.heap[w.heap.size]?=some ZbT∧Below w.heap.size w R∧w1.heap.size<R.heap.size∧R.ownsRow (w.heap.size+1) 82 4 (.slice J d I) d (Ze ps)∧R.ownsRow (w.heap.size+1) 86 4 (.slice M cs L) cs (Zv ss)∧R.ownsRow (w.heap.size+1) 88 2 (.slice O m N) m (ZE ak)∧(∀ v:Value,∀ g,(v=.slice J d I∨v=.slice M cs L∨v=.slice O m N)→v.ownBlock=some g→w.heap.size<g∧g<w1.heap.size)):=by
  have ca:w1.ownsRow (w.heap.size+1) 82 4 (.slice J d I) d (Ze ps):=by simpa using b9
  have cc:w1.ownsRow (w.heap.size+1) 86 4 (.slice M cs L) cs (Zv ss):=by simpa using cb
  have ce:w1.ownsRow (w.heap.size+1) 88 2 (.slice O m N) m (ZE ak):=by simpa using cd
  refine ⟨ac,?_,?_,be,by rw [ac];simp,by rw [ac];exact ca.alloc _,by rw [ac];exact cc.alloc _,by rw [ac];exact ce.alloc _,?_⟩
  ·rw [ac];exact Zd _ _ rfl
  ·rw [ac];exact (Zn _ _ (by omega)).trans ((bd.block _ (by simp)).trans (Zd _ _ rfl))
  ·rintro v g (rfl | rfl | rfl) E
   ·exact ca.lt g E
   ·exact cc.lt g E
   ·exact ce.lt g E
 have bx:R.heap[U]?=some (ZG b ae d ad so cs sc wo m wc op ⟨.slice am A al,V,ab,hb,ao⟩):=(be.block U bh).trans HG.out;have bu:=Za (ZnP U b ae d ad so cs sc wo m wc op am A al V ab hb ao a9 R bx (Zx br.out.1 be) br.out.2 cf);clear b9 cb cd bd HD ac be bx;go_upto_region 2 with fail
 rw [←Q.out.1];go_wp2_with fail
 refine bu.out.mono ?_;rintro e bk ⟨Y,X,rfl,bj,a8⟩;have bq:bk.heap[w1.heap.size]?=some (Zeu b (.slice J d I) (.slice M cs L) (.slice O m N) (.slice none 0 0) false false):=(a8.block _ Q.out.2.2.2.2.1).trans Q.out.2.1;obtain ⟨D,a0⟩:∃ D,D=bk.setCell ⟨w1.heap.size,4,none⟩ (.slice Y A X):=⟨_,rfl⟩;have ai:∀ j,j≠w1.heap.size→D.heap[j]?=bk.heap[j]?:=fun j q=>by rw [a0];exact Yf _ _ _ _ q
 have bp:w.heap.size≤w1.heap.size:=by omega
 have K2:Hid (D=bk.setCell ⟨w1.heap.size,4,none⟩ (.slice Y A X)∧D.heap[w1.heap.size]?=some (Zeu b (.slice J d I) (.slice M cs L) (.slice O m N) (.slice Y A X) false false)∧D.heap[w.heap.size]?=some ZbT∧Below w.heap.size w D∧D.ownsRow (w.heap.size+1) 82 4 (.slice J d I) d (Ze ps)∧D.ownsRow (w.heap.size+1) 86 4 (.slice M cs L) cs (Zv ss)∧D.ownsRow (w.heap.size+1) 88 2 (.slice O m N) m (ZE ak)∧D.ownsRow (w.heap.size+1) 84 3 (.slice Y A X) A (Zo a9)∧(∀ g,(Value.slice Y A X).ownBlock=some g→w1.heap.size<g)):=by
  have bo:∀ {aj:TypeId} {sz n:Nat} {v:Value} {ag:List Value},R.ownsRow (w.heap.size+1) aj sz v n ag→(∀ g,v.ownBlock=some g→w.heap.size<g∧g<w1.heap.size)→D.ownsRow (w.heap.size+1) aj sz v n ag:=by
   intro aj sz n v ag h bi;exact Zz h (fun j q=>(ai j (by have:=bi j q;omega)).trans (a8.block j (by have:=bi j q;have:=Q.out.2.2.2.2.1;omega)))
  have ah:=Q.out.2.2.2.2.2.2.2.2;refine ⟨a0,?_,?_,?_,bo Q.out.2.2.2.2.2.1 (fun g E=>ah _ g (.inl rfl) E),bo Q.out.2.2.2.2.2.2.1 (fun g E=>ah _ g (.inr (.inl rfl)) E),bo Q.out.2.2.2.2.2.2.2.1 (fun g E=>ah _ g (.inr (.inr rfl)) E),?_,?_⟩
  ·rw [a0];exact Zm _ _ _ _ _ _ bq
  ·exact (ai _ (by omega)).trans ((a8.block _ (by have:=Q.out.2.2.2.2.1;omega)).trans Q.out.2.2.1)
  ·rw [a0];exact (Zb Q.out.2.2.2.1 a8).setCell bp _
  ·refine Zr (Zz bj (fun j q=>ai j (by have:=(bj.lt j q).1;have:=Q.out.2.2.2.2.1;omega))) (by have:=Q.out.2.2.2.2.1;omega)
  ·intro g E;have:=(bj.lt g E).1;have:=Q.out.2.2.2.2.1;omega
 have bz:D.heap[U]?=some (ZG b ae d ad so cs sc wo m wc op ⟨.slice am A al,V,ab,hb,ao⟩):=(K2.out.2.2.2.1.block U bh).trans HG.out;obtain ⟨ap,aq,ar,au,av,aw,ax,ay⟩:=ZcT bq;clear bj a8 bq a0 ai bu;go_upto_region 3 with fail
 rw [←K2.out.1];clear ap aq ar au av aw ax ay;have bs:=Za (ZiI U b ae d ad so cs sc wo m wc op _ D bz);obtain ⟨ap,aq,ar,au,av,aw,ax,ay⟩:=ZcT K2.out.2.1;clear bz;go_wp2_with fail
 refine bs.out.mono ?_;rintro e cp ⟨rfl,az⟩;obtain rfl:=az.symm;obtain ⟨aa,a1⟩:∃ aa,aa=D.setCell ⟨w1.heap.size,5,none⟩ (.bool V):=⟨_,rfl⟩;have ai:∀ j,j≠w1.heap.size→aa.heap[j]?=D.heap[j]?:=fun j q=>by rw [a1];exact Yf _ _ _ _ q
 have K3:Hid (aa=D.setCell ⟨w1.heap.size,5,none⟩ (.bool V)∧aa.heap[w1.heap.size]?=some (Zeu b (.slice J d I) (.slice M cs L) (.slice O m N) (.slice Y A X) V false)∧(∀ j,j≠w1.heap.size→aa.heap[j]?=D.heap[j]?)∧Below w.heap.size w aa):=
  ⟨a1,by rw [a1];exact Zm _ _ _ _ _ _ K2.out.2.1,ai,by rw [a1];exact K2.out.2.2.2.1.setCell bp _⟩
 have b0:aa.heap[U]?=some (ZG b ae d ad so cs sc wo m wc op ⟨.slice am A al,V,ab,hb,ao⟩):=(K3.out.2.2.2.block U bh).trans HG.out;clear a1 ai bs;go_upto_region 4 with fail
 rw [←K3.out.1];clear ap aq ar au av aw ax ay;have bt:=Za (Zkw U b ae d ad so cs sc wo m wc op _ aa b0);obtain ⟨ap,aq,ar,au,av,aw,ax,ay⟩:=ZcT K3.out.2.1;clear b0;go_wp2_with fail
 refine bt.out.mono ?_;rintro e cq ⟨rfl,bc⟩;obtain rfl:=bc.symm;obtain ⟨af,a6⟩:∃ af,af=aa.setCell ⟨w1.heap.size,6,none⟩ (.bool ab):=⟨_,rfl⟩;have K4:Hid (af=aa.setCell ⟨w1.heap.size,6,none⟩ (.bool ab)∧af.heap[w1.heap.size]?=some (Zeu b (.slice J d I) (.slice M cs L) (.slice O m N) (.slice Y A X) V ab)∧(∀ j,j≠w1.heap.size→af.heap[j]?=D.heap[j]?)∧Below w.heap.size w af):=
  ⟨a6,by rw [a6];exact Zm _ _ _ _ _ _ K3.out.2.1,fun j q=>by rw [a6];exact (Yf _ _ _ _ q).trans (K3.out.2.2.1 j q),by rw [a6];exact K3.out.2.2.2.setCell bp _⟩
 have b8:af.heap[w.heap.size]?=some ZbT:=(K4.out.2.2.1 _ (by omega)).trans K2.out.2.2.1;clear a6 bt;go_upto_region 5 with fail
 rw [←K4.out.1];clear ap aq ar au av aw ax ay;obtain ⟨ap,aq,ar,au,av,aw,ax,ay⟩:=ZcT K4.out.2.1;obtain ⟨cg,ch,ci,cj,ck,cl,cm,cr⟩:=ZcT b8;clear b8;go_wp2_with fail
 have bf:∀ {aj:TypeId} {sz n:Nat} {v:Value} {ag:List Value} (bv c1 c2 c3 c4 c5 bw:Value),D.ownsRow (w.heap.size+1) aj sz v n ag→(∀ g,v.ownBlock=some g→g≠w1.heap.size)→(((((((af.setCell ⟨w.heap.size,0,none⟩ bv).setCell ⟨w.heap.size,1,none⟩ c1).setCell ⟨w.heap.size,2,none⟩ c2).setCell ⟨w.heap.size,3,none⟩ c3).setCell ⟨w.heap.size,4,none⟩ c4).setCell ⟨w.heap.size,5,none⟩ c5).setCell ⟨w.heap.size,6,none⟩ bw).ownsRow w.heap.size aj sz v n ag:=by
  intro aj sz n v ag bv c1 c2 c3 c4 c5 bw h bi;exact Zr (Zz h (fun j q=>(ZfD _ _ _ _ _ _ _ _ _ j (by have:=(h.lt j q).1;omega)).trans (K4.out.2.2.1 j (bi j q)))) (by omega)
 have ah:=Q.out.2.2.2.2.2.2.2.2;refine bodyPost_ret (v:=.agg #[.int .i64 b,.slice J d I,.slice M cs L,.slice O m N,.slice Y A X,.bool V,.bool ab]) (by simp [results,Tryz.results12,go_sem,cg,ch,ci,cj,ck,cl,cm]) rfl ⟨J,I,M,L,O,N,Y,X,rfl,?_,?_,?_,?_,?_⟩
 ·exact bf _ _ _ _ _ _ _ K2.out.2.2.2.2.1 (fun g E e=>by have:=ah _ g (.inl rfl) E;omega)
 ·exact bf _ _ _ _ _ _ _ K2.out.2.2.2.2.2.1 (fun g E e=>by have:=ah _ g (.inr (.inl rfl)) E;omega)
 ·exact bf _ _ _ _ _ _ _ K2.out.2.2.2.2.2.2.1 (fun g E e=>by have:=ah _ g (.inr (.inr rfl)) E;omega)
 ·exact bf _ _ _ _ _ _ _ K2.out.2.2.2.2.2.2.2.1 (fun g E e=>by have:=K2.out.2.2.2.2.2.2.2.2 g E;omega)
 ·exact ZiW K4.out.2.2.2 _ (Yd _) _ _ _ _ _ _ _
structure Zlz (S:Zh):Prop where
 p:S.pools.length≤1099511627776
 s:S.srv.length≤1099511627776
 t:S.wts.length≤1099511627776
 l:S.plan.length≤1099511627776
structure NewSta (w w':World) (S:Zh) (v:ZA):Prop where
 p:w'.ownsRow w.heap.size 82 4 (.slice v.po S.pools.length v.pc) S.pools.length (Ze S.pools)
 s:w'.ownsRow w.heap.size 86 4 (.slice v.so S.srv.length v.sc) S.srv.length (Zv S.srv)
 t:w'.ownsRow w.heap.size 88 2 (.slice v.wo S.wts.length v.wc) S.wts.length (ZE S.wts)
 l:w'.ownsRow w.heap.size 84 3 (.slice v.tqo S.plan.length v.tc) S.plan.length (Zo S.plan)
theorem Zmp (q:Nat) (S:Zh) (m:ZB) (F:Nat→Prop) (w:World) (h:DeskAt w q S m F) (ae:Zlz S) :
  Calls Tryz.prog 12 #[.pointer (some ⟨q,0,none⟩)] w fun e A=>∃ v,e=.returned (Zg0 S v)∧NewSta w A S v∧Below w.heap.size w A:=by
 obtain ⟨N,L,so,sc,wo,wc,aa,X,ad,ac,d⟩:=h.ex;refine (ZnD q S.bud S.pools S.srv S.wts S.plan _ _ _ _ N L so sc wo wc m.op aa X S.begun S.back m.hb _ w d.box d.p.own d.s.own d.t.own d.l.own ⟨rfl,rfl,rfl⟩ rfl ⟨ae.p,ae.s,ae.t⟩ ae.l).mono ?_;rintro e A ⟨O,M,R,Q,V,U,ab,Y,rfl,D,E,I,J,hb⟩;exact ⟨⟨O,M,R,Q,V,U,ab,Y⟩,rfl,⟨D,E,I,J⟩,hb⟩
theorem ZjU:∀ (ps:List ByteArray) (i:Nat) (d:List Ln),(rdC i d ps).lines.length≤d.length+ps.length
 | [],i,d=>by
  rw [rdC];split <;> simp
 | p :: r,i,d=>by
  rw [rdC];split
  ·have:=ZjU r (i+1) d;simp;omega
  ·split
   ·simp
   ·split
    ·rename_i l _ _
     have:=ZjU r (i+1) (d++[{l with place:=i+1}]);simp at this ⊢;omega
    ·simp
theorem Zl1 (d:List Ln):∀ (m:List Ln) (x:Int×List Pl),(m.foldl (stC d) x).2.length≤x.2.length+m.length
 | [],x=>by simp
 | l :: r,x=>by
  have:=Zl1 d r (stC d x l);rw [List.foldl_cons];have h:(stC d x l).2.length≤x.2.length+1:=by
   unfold stC;split
   ·simp
   ·split
    ·simp [Zch]
    ·omega
  simp;omega
theorem Zrw (s:ByteArray):(Z7 s).tab.2.length≤1001:=by
 unfold Z7;split
 ·simp
 ·split
  ·simp
  ·split
   ·simp
   ·rename_i h _ _
    have d:=Zl1 (rd s).lines (rd s).lines (0,[]);have m:(rd s).lines.length≤0+(ZP s 10).length:=ZjU _ _ _;have q:=Zdh s 10;have A:(ZfM (rd s).lines).2.length≤0+(rd s).lines.length:=d;simp only;omega
theorem Zpl (s:ByteArray) (d:(Z7 s).err=0):(Z7 s).at'=0:=by
 unfold Z7 at d ⊢;split at d
 ·simp at d
 ·rename_i q
  rw [if_neg q];split at d
  ·rename_i h;exact absurd d h
  ·rename_i h
   rw [if_neg h];split at d
   ·rename_i m;exact absurd d m
   ·rename_i m;rw [if_neg m]
theorem Zne (s:ByteArray) (d:(Z7 s).err≠0):(Z7 s).tab=(0,[]):=by
 unfold Z7 at d ⊢;split at d
 ·rename_i h;rw [if_pos h]
 ·rename_i h
  rw [if_neg h];split at d
  ·rename_i m;rw [if_pos m]
  ·rename_i m
   rw [if_neg m];split at d
   ·rename_i q;rw [if_pos q]
   ·exact absurd rfl d
abbrev ZhR:Obj:=.cells #[.int .i64 0,.slice none 0 0,.slice none 0 0,.slice none 0 0,.int .i64 0] 90
theorem Zqu (b:Int) (ps:List Pl) (d:Option Addr) (n vc:Nat) (w:World) (Q:RowAt w (.slice d n vc) n (Ze ps)) (M:d=none→vc=0) (L:ps.length=n) (O:n≤1099511627776) :
  Calls Tryz.prog 29 #[.agg #[.int .i64 b,.slice d n vc]] w fun e U=>∃ m h,e=.returned (.agg #[.int .i64 b,.slice m n h,.slice none 0 0,.slice none 0 0,.int .i64 0])∧U.ownsRow w.heap.size 82 4 (.slice m n h) n (Ze ps)∧Below w.heap.size w U:=by
 have D:Below w.heap.size w ((w.alloc (Zi b (.slice d n vc))).alloc ZhR):=Zb (Zc _ _) (Zc _ _);have I:=Za (ZcI b ps d n vc ((w.alloc (Zi b (.slice d n vc))).alloc ZhR) (Q.nx D) M L O);have J:Hid (Below w.heap.size w ((w.alloc (Zi b (.slice d n vc))).alloc ZhR)∧((w.alloc (Zi b (.slice d n vc))).alloc ZhR).heap[w.heap.size+1]?=some ZhR):=⟨D,Zd _ _ (by simp)⟩;clear Q M L O D;go_enter Tryz.func29,Tryz.ntmps29
 go_wp2_with fail
 refine I.out.mono ?_;rintro e w1 ⟨m,h,rfl,N,E⟩;have R:w1.heap[w.heap.size+1]?=some ZhR:=(E.block _ (by simp)).trans J.out.2;have K:Hid (w1.ownsRow (w.heap.size+2) 82 4 (.slice m n h) n (Ze ps)∧Below w.heap.size w w1):=⟨by simpa using N,Zb J.out.1 E⟩;obtain ⟨X,Y,aa,ab,ac,ad⟩:=ZtL R;clear N E R I;go_wp2_with fail
 refine bodyPost_ret (v:=.agg #[.int .i64 b,.slice m n h,.slice none 0 0,.slice none 0 0,.int .i64 0]) (by simp [results,Tryz.results29,go_sem,X,Y,aa,ab,ac]) rfl ⟨m,h,rfl,?_,?_⟩
 ·refine Zr (Zz K.out.1 (fun j V=>?_)) (by omega);have A:j≠w.heap.size+1:=by have:=(K.out.1.lt j V).1;omega
  exact (Yf _ _ _ _ A).trans ((Yf _ _ _ _ A).trans ((Yf _ _ _ _ A).trans ((Yf _ _ _ _ A).trans (Yf _ _ _ _ A))))
 ·have q:w.heap.size≤w.heap.size+1:=by omega
  exact ((((K.out.2.setCell q _).setCell q _).setCell q _).setCell q _).setCell q _
abbrev Zc2 (a:Ans):Zh:=⟨a.tab.1,a.tab.2,[],[],[],false,false⟩
def Zul (a:Ans) (w w':World) (e:Ending):Prop:=
 (a.err≠0∧e=.returned (.tuple #[.pointer none,.int .i64 a.err,.int .i64 a.at'])∧Below w.heap.size w w') ∨
 (a.err=0∧∃ gp F,e=.returned (.tuple #[.pointer (some ⟨gp,0,none⟩),.int .i64 0,.int .i64 0])∧DeskAt w' gp (Zc2 a) ⟨0,0,[]⟩ F∧(∀ y,F y→w.heap.size≤y)∧Below w.heap.size w w')
theorem Zr4 (s:ByteArray) (w:World) (ad:s.size≤maxLen) :
  Calls Tryz.prog 10 #[.string s] w fun e w'=>Zul (Z7 s) w w' e:=by
 have M:=Za (ZfH s w ad);have O:=Za (Zrw s);have ab:=Za (Zne s);obtain ⟨⟨⟨b,ps⟩,Q,ae⟩,ac⟩:∃ a,Z7 s=a:=⟨_,rfl⟩;rw [ac] at M O ab ⊢;simp only at O ab;unfold maxLen at ad;clear ac;go_enter Tryz.func10,Tryz.ntmps10
 go_wp2_with fail
 refine M.out.mono ?_;rintro e w1 ⟨aa,vc,rfl,q,R⟩;simp only at q ⊢;obtain ⟨d,A⟩:∃ d,ps.length=d:=⟨_,rfl⟩;rw [A] at q ⊢;have ah:d≤1001:=by rw [←A];exact O.out
 have h:Hid (w1.ownsRow w.heap.size 82 4 (.slice aa d vc) d (Ze ps)∧Below w.heap.size w w1∧ps.length=d):=⟨q,R,A⟩;by_cases V:Q=0
 ·subst V;have HO:=Za (Zqu b ps aa d vc (w1.alloc (Zi b (.slice aa d vc))) ((Zf q).nx (Zc _ _)) (ZaO q) A (by omega));clear q R A M;go_wp2_with fail
  refine HO.out.mono ?_;rintro e m ⟨E,D,rfl,X,U⟩;have Y:w.heap.size≤m.heap.size:=Ym h.out.2.1.size (Ym (by simp) U.size);have I:Hid ((m.alloc (ZG b E d D none 0 0 none 0 0 0 ⟨.slice none 0 0,false,false,0,.slice none 0 0⟩)).ownsRow 0 82 4 (.slice E d D) d (Ze ps)∧(∀ g,(Value.slice E d D).ownBlock=some g→w.heap.size≤g∧g<m.heap.size)∧Below w.heap.size w (m.alloc (ZG b E d D none 0 0 none 0 0 0 ⟨.slice none 0 0,false,false,0,.slice none 0 0⟩))∧w.heap.size≤m.heap.size):=by
   refine ⟨Zr (X.alloc _) (Ye _),fun g N=>?_,?_,Y⟩
   ·have:=X.lt g N;have af:=h.out.2.1.size;simp at this;omega
   ·exact (Zb (Zb h.out.2.1 (Zc _ _)) U).alloc Y _
  clear X U Y HO;go_wp2_with fail
  refine bodyPost_ret (v:=.tuple #[.pointer (some ⟨m.heap.size,0,none⟩),.int .i64 0,.int .i64 0]) (by simp [results,Tryz.results10,go_sem]) rfl ?_;refine .inr ⟨rfl,m.heap.size,fun y=>y=m.heap.size∨(Value.slice E d D).ownBlock=some y,rfl,?_,fun y L=>?_,I.out.2.2.1⟩
  ·refine ⟨⟨E,D,none,0,none,0,none,0,none,0,?_,⟨?_,fun g N=>.inr ?_⟩,Held.nil,Held.nil,Held.nil,Held.nil⟩,.inl rfl,fun x J=>?_⟩
   ·simp only [h.out.2.2];exact Zd _ _ rfl
   ·simp only [h.out.2.2];exact I.out.1
   ·simp only [h.out.2.2] at N;exact N
   ·rcases J with J | J
    ·rw [J];simp
    ·have:=(I.out.2.1 x J).2;simp;omega
  ·rcases L with L | L
   ·rw [L];exact I.out.2.2.2
   ·exact (I.out.2.1 y L).1
 ·have ag:((Q:Int) != 0)=true:=by rw [bne_iff_ne];omega
  have HE:=Za V;clear q R A V M;go_wp2_with fail
  refine bodyPost_ret (v:=.tuple #[.pointer none,.int .i64 Q,.int .i64 ae]) (by simp [results,Tryz.results10,go_sem]) rfl ?_;exact .inl ⟨HE.out,rfl,(h.out.2.1.alloc h.out.2.1.size _)⟩
abbrev Zp4 (b:Int) (v1:Value) (nx:Int):Value:=.agg #[.int .i64 b,v1,.slice none 0 0,.slice none 0 0,.slice none 0 0,.bool false,.bool false,.int .i64 nx,.int .i64 0,.slice none 0 0]
abbrev Zgf (b:Int) (v1:Value) (nx:Int):Obj:=.cells #[.int .i64 b,v1,.slice none 0 0,.slice none 0 0,.slice none 0 0,.bool false,.bool false,.int .i64 nx,.int .i64 0,.slice none 0 0] 46
theorem Zli {w:World} {g:Nat} {d c1 c2 c3 c4 c5 D m q A:Value} {t:TypeId} (h:w.heap[g]?=some (.cells #[d,c1,c2,c3,c4,c5,D,m,q,A] t (0,0))) :
  w.cell? ⟨g,0,none⟩=some d∧w.cell? ⟨g,1,none⟩=some c1∧w.cell? ⟨g,2,none⟩=some c2∧w.cell? ⟨g,3,none⟩=some c3∧w.cell? ⟨g,4,none⟩=some c4∧w.cell? ⟨g,5,none⟩=some c5∧w.cell? ⟨g,6,none⟩=some D∧w.cell? ⟨g,7,none⟩=some m∧w.cell? ⟨g,8,none⟩=some q∧w.cell? ⟨g,9,none⟩=some A∧∀ a,w.frozen? ⟨g,a,none⟩=false:=by
 refine ⟨?_,?_,?_,?_,?_,?_,?_,?_,?_,?_,fun a=>?_⟩ <;> simp [World.cell?,World.frozen?,h]
abbrev ZgF (W:World) (g:Nat) (c0 c1 c2 c3 c4 c5 c6 c7 c8 c9:Value):World:=
 (((((((((W.setCell ⟨g,0,none⟩ c0).setCell ⟨g,1,none⟩ c1).setCell ⟨g,2,none⟩ c2).setCell ⟨g,3,none⟩ c3).setCell ⟨g,4,none⟩ c4).setCell ⟨g,5,none⟩ c5).setCell ⟨g,6,none⟩ c6).setCell ⟨g,7,none⟩ c7).setCell ⟨g,8,none⟩ c8).setCell ⟨g,9,none⟩ c9
theorem ZnS (W:World) (g:Nat) (h c1 c2 c3 c4 c5 m q A D:Value) (j:Nat) (d:j≠g):(ZgF W g h c1 c2 c3 c4 c5 m q A D).heap[j]?=W.heap[j]?:=by
 refine (Yf _ _ _ _ d).trans ((Yf _ _ _ _ d).trans ((Yf _ _ _ _ d).trans ((Yf _ _ _ _ d).trans ((Yf _ _ _ _ d).trans ((Yf _ _ _ _ d).trans ((Yf _ _ _ _ d).trans ((Yf _ _ _ _ d).trans ((Yf _ _ _ _ d).trans (Yf _ _ _ _ d)))))))))
theorem Zh3 {B:Nat} {w0 W:World} (h:Below B w0 W) (g:Nat) (d:B≤g) (E c1 c2 c3 c4 c5 m q A D:Value):Below B w0 (ZgF W g E c1 c2 c3 c4 c5 m q A D):=
 (((((((((h.setCell d _).setCell d _).setCell d _).setCell d _).setCell d _).setCell d _).setCell d _).setCell d _).setCell d _).setCell d _
theorem ZiJ (W:World) (g:Nat) (M L d2 d3 d4 d5 E D q m d c1 c2 c3 c4 c5 ac A I J:Value) (t:TypeId) (h:W.heap[g]?=some (.cells #[M,L,d2,d3,d4,d5,E,D,q,m] t (0,0))):(ZgF W g d c1 c2 c3 c4 c5 ac A I J).heap[g]?=some (.cells #[d,c1,c2,c3,c4,c5,ac,A,I,J] t (0,0)):=by
 have N:(W.setCell ⟨g,0,none⟩ d).heap[g]?=some (.cells #[d,L,d2,d3,d4,d5,E,D,q,m] t (0,0)):=Zm _ g 0 _ _ _ h;have O:((W.setCell ⟨g,0,none⟩ d).setCell ⟨g,1,none⟩ c1).heap[g]?=some (.cells #[d,c1,d2,d3,d4,d5,E,D,q,m] t (0,0)):=Zm _ g 1 _ _ _ N;have Q:(((W.setCell ⟨g,0,none⟩ d).setCell ⟨g,1,none⟩ c1).setCell ⟨g,2,none⟩ c2).heap[g]?=some (.cells #[d,c1,c2,d3,d4,d5,E,D,q,m] t (0,0)):=Zm _ g 2 _ _ _ O;have R:((((W.setCell ⟨g,0,none⟩ d).setCell ⟨g,1,none⟩ c1).setCell ⟨g,2,none⟩ c2).setCell ⟨g,3,none⟩ c3).heap[g]?=some (.cells #[d,c1,c2,c3,d4,d5,E,D,q,m] t (0,0)):=Zm _ g 3 _ _ _ Q;have U:(((((W.setCell ⟨g,0,none⟩ d).setCell ⟨g,1,none⟩ c1).setCell ⟨g,2,none⟩ c2).setCell ⟨g,3,none⟩ c3).setCell ⟨g,4,none⟩ c4).heap[g]?=some (.cells #[d,c1,c2,c3,c4,d5,E,D,q,m] t (0,0)):=Zm _ g 4 _ _ _ R;have V:((((((W.setCell ⟨g,0,none⟩ d).setCell ⟨g,1,none⟩ c1).setCell ⟨g,2,none⟩ c2).setCell ⟨g,3,none⟩ c3).setCell ⟨g,4,none⟩ c4).setCell ⟨g,5,none⟩ c5).heap[g]?=some (.cells #[d,c1,c2,c3,c4,c5,E,D,q,m] t (0,0)):=Zm _ g 5 _ _ _ U;have X:(((((((W.setCell ⟨g,0,none⟩ d).setCell ⟨g,1,none⟩ c1).setCell ⟨g,2,none⟩ c2).setCell ⟨g,3,none⟩ c3).setCell ⟨g,4,none⟩ c4).setCell ⟨g,5,none⟩ c5).setCell ⟨g,6,none⟩ ac).heap[g]?=some (.cells #[d,c1,c2,c3,c4,c5,ac,D,q,m] t (0,0)):=Zm _ g 6 _ _ _ V;have Y:((((((((W.setCell ⟨g,0,none⟩ d).setCell ⟨g,1,none⟩ c1).setCell ⟨g,2,none⟩ c2).setCell ⟨g,3,none⟩ c3).setCell ⟨g,4,none⟩ c4).setCell ⟨g,5,none⟩ c5).setCell ⟨g,6,none⟩ ac).setCell ⟨g,7,none⟩ A).heap[g]?=some (.cells #[d,c1,c2,c3,c4,c5,ac,A,q,m] t (0,0)):=Zm _ g 7 _ _ _ X;have aa:(((((((((W.setCell ⟨g,0,none⟩ d).setCell ⟨g,1,none⟩ c1).setCell ⟨g,2,none⟩ c2).setCell ⟨g,3,none⟩ c3).setCell ⟨g,4,none⟩ c4).setCell ⟨g,5,none⟩ c5).setCell ⟨g,6,none⟩ ac).setCell ⟨g,7,none⟩ A).setCell ⟨g,8,none⟩ I).heap[g]?=some (.cells #[d,c1,c2,c3,c4,c5,ac,A,I,m] t (0,0)):=Zm _ g 8 _ _ _ Y;have ab:((((((((((W.setCell ⟨g,0,none⟩ d).setCell ⟨g,1,none⟩ c1).setCell ⟨g,2,none⟩ c2).setCell ⟨g,3,none⟩ c3).setCell ⟨g,4,none⟩ c4).setCell ⟨g,5,none⟩ c5).setCell ⟨g,6,none⟩ ac).setCell ⟨g,7,none⟩ A).setCell ⟨g,8,none⟩ I).setCell ⟨g,9,none⟩ J).heap[g]?=some (.cells #[d,c1,c2,c3,c4,c5,ac,A,I,J] t (0,0)):=Zm _ g 9 _ _ _ aa;exact ab
def ZtS (a:Ans) (w w':World) (e:Ending):Prop:=
 ∃ vo vc nx,e=.returned (.tuple #[Zp4 a.tab.1 (.slice vo a.tab.2.length vc) nx,.int .i64 a.err,.int .i64 a.at'])∧w'.ownsRow w.heap.size 82 4 (.slice vo a.tab.2.length vc) a.tab.2.length (Ze a.tab.2)∧Below w.heap.size w w'∧(a.err=0→nx=1)
theorem Zqw (s:ByteArray) (w:World) (aj:s.size≤maxLen) :
  Calls Tryz.prog 11 #[.string s] w fun e w'=>ZtS (Z7 s) w w' e:=by
 have O:=Za (ZdV s (w.alloc (Zgf 0 (.slice none 0 0) 0)) aj);have R:=Za (Zne s);have U:=Za (Zpl s);obtain ⟨⟨⟨b,ps⟩,V,ak⟩,ai⟩:∃ a,Z7 s=a:=⟨_,rfl⟩;rw [ai] at O R U ⊢;simp only at R U;unfold maxLen at aj;clear ai;go_enter Tryz.func11,Tryz.ntmps11
 go_wp2_with fail
 refine O.out.mono ?_;rintro e w1 ⟨m,vc,rfl,M,I⟩;simp only at M ⊢;obtain ⟨d,L⟩:∃ d,ps.length=d:=⟨_,rfl⟩;rw [L] at M ⊢;have N:w1.heap[w.heap.size]?=some (Zgf 0 (.slice none 0 0) 0):=(I.block _ (by simp)).trans (Zd _ _ rfl);have Q:w.heap.size<w1.heap.size:=Zda I;have A:Hid (w1.ownsRow (w.heap.size+1) 82 4 (.slice m d vc) d (Ze ps)∧Below w.heap.size w w1∧ps.length=d):=⟨by simpa using M,Zb (Zc _ _) I,L⟩;obtain ⟨al,am,ao,ap,aq,ar,au,av,aw,ax,ay⟩:=Zli N;by_cases J:V=0
 ·have a6:ak=0:=U.out J;subst J a6;obtain ⟨a9,q⟩:∃ a9,a9=(ZgF w1 w.heap.size (.int .i64 b) (.slice m d vc) (.slice none 0 0) (.slice none 0 0) (.slice none 0 0) (.bool false) (.bool false) (.int .i64 1) (.int .i64 0) (.slice none 0 0)).alloc (Zi b (.slice m d vc)):=⟨_,rfl⟩;have E:a9.heap[w.heap.size]?=some (Zgf b (.slice m d vc) 1):=by
   rw [q];exact (Zn _ _ (by simpa using Q)).trans (ZiJ w1 _ _ _ _ _ _ _ _ _ _ _ _ _ _ _ _ _ _ _ _ _ _ N)
  have D:Hid (a9=(ZgF w1 w.heap.size (.int .i64 b) (.slice m d vc) (.slice none 0 0) (.slice none 0 0) (.slice none 0 0) (.bool false) (.bool false) (.int .i64 1) (.int .i64 0) (.slice none 0 0)).alloc (Zi b (.slice m d vc))∧Below w.heap.size w a9):=by
   refine ⟨q,?_⟩;rw [q];exact (Zh3 A.out.2.1 _ (Yd _) _ _ _ _ _ _ _ _ _ _).alloc (by simpa using Nat.le_of_lt Q) _
  obtain ⟨X,Y,aa,ab,ac,ad,ae,af,ag,ah,a7⟩:=Zli E;clear M I L O N q E;go_wp2_with fail
  rw [←D.out.1];clear al am ao ap aq ar au av aw ax ay;refine bodyPost_ret (v:=.tuple #[Zp4 b (.slice m d vc) 1,.int .i64 0,.int .i64 0]) (by simp [results,Tryz.results11,go_sem,X,Y,aa,ab,ac,ad,ae,af,ag,ah]) rfl ?_;refine ⟨m,vc,1,?_,?_,D.out.2,fun _=>rfl⟩
  ·simp only [A.out.2.2];rfl
  ·simp only [A.out.2.2];rw [D.out.1];exact Zr ((Zz A.out.1 (fun j a0=>ZnS _ _ _ _ _ _ _ _ _ _ _ _ j (by have:=(A.out.1.lt j a0).1;omega))).alloc _) (by omega)
 ·have a8:((V:Int) != 0)=true:=by rw [bne_iff_ne];omega
  have az:=Za J;obtain ⟨rfl,rfl⟩:b=0∧ps=[]:=by have:=R.out J;simpa using this
  have a1:d=0:=by rw [←L];rfl
  subst a1;obtain ⟨a9,q⟩:∃ a9,a9=(ZgF w1 w.heap.size (.int .i64 0) (.slice none 0 0) (.slice none 0 0) (.slice none 0 0) (.slice none 0 0) (.bool false) (.bool false) (.int .i64 0) (.int .i64 0) (.slice none 0 0)).alloc (Zi 0 (.slice m 0 vc)):=⟨_,rfl⟩;have E:a9.heap[w.heap.size]?=some (Zgf 0 (.slice none 0 0) 0):=by
   rw [q];exact (Zn _ _ (by simpa using Q)).trans (ZiJ w1 _ _ _ _ _ _ _ _ _ _ _ _ _ _ _ _ _ _ _ _ _ _ N)
  have D:Hid (a9=(ZgF w1 w.heap.size (.int .i64 0) (.slice none 0 0) (.slice none 0 0) (.slice none 0 0) (.slice none 0 0) (.bool false) (.bool false) (.int .i64 0) (.int .i64 0) (.slice none 0 0)).alloc (Zi 0 (.slice m 0 vc))∧Below w.heap.size w a9):=by
   refine ⟨q,?_⟩;rw [q];exact (Zh3 A.out.2.1 _ (Yd _) _ _ _ _ _ _ _ _ _ _).alloc (by simpa using Nat.le_of_lt Q) _
  obtain ⟨X,Y,aa,ab,ac,ad,ae,af,ag,ah,a7⟩:=Zli E;clear M I O N J L q E;go_wp2_with fail
  rw [←D.out.1];clear al am ao ap aq ar au av aw ax ay;refine bodyPost_ret (v:=.tuple #[Zp4 0 (.slice none 0 0) 0,.int .i64 V,.int .i64 ak]) (by simp [results,Tryz.results11,go_sem,X,Y,aa,ab,ac,ad,ae,af,ag,ah]) rfl ?_;exact ⟨none,0,0,rfl,Yq _ _ _ _,D.out.2,fun h=>absurd h az.out⟩
end Lw
end Go.Proofs.YtmgkcbdlfodjmaaGreatDoor
