import Derived.Test.YtcpikklofilkcaaGreatNqH
import Derived.Deep.DeepCutAuto
set_option maxRecDepth 100000
set_option maxHeartbeats 16000000
namespace Go.Proofs.YtcpikklofilkcaaGreat
open Go.RowKit
namespace Lw
open Co
structure WyV where
 st:Value
 bg:Bool
 bk:Bool
 hb:Int
 hp:Value
abbrev bDesk (b:Int) (po:Option Addr) (n1 pc:Nat) (so:Option Addr) (n2 sc:Nat) (wo:Option Addr) (n3 wc:Nat) (op:Int) (q:WyV):Obj:=.cells #[.int .i64 b,.slice po n1 pc,.slice so n2 sc,.slice wo n3 wc,.int .i64 op,q.st,.bool q.bg,.bool q.bk,.int .i64 q.hb,q.hp] 85
structure Aux where
 op:Int
 hb:Int
 hps:List Pl
abbrev zSta:Obj:=.cells #[.int .i64 0,.slice none 0 0,.slice none 0 0,.slice none 0 0,.slice none 0 0,.bool false,.bool false] 36
abbrev bSt7 (b:Int) (v1 v2 v3 v4:Value) (x y:Bool):Obj:=.cells #[.int .i64 b,v1,v2,v3,v4,.bool x,.bool y] 36
structure Held (w:World) (F:Nat→Prop) (ty:TypeId) (sz:Nat) (v:Value) (n:Nat) (cs:List Value):Prop where
 own:w.ownsRow 0 ty sz v n cs
 blk:∀ g,v.ownBlock=some g→F g
theorem Held.keep {w w':World} {F F':Nat→Prop} {ty:TypeId} {sz n:Nat} {v:Value} {cs:List Value} (h:Held w F ty sz v n cs) (hh:∀ g,F g→w'.heap[g]?=w.heap[g]?) (hF:∀ g,F g→F' g):Held w' F' ty sz v n cs:=
 ⟨Zj h.own (fun j hj=>hh j (h.blk j hj)),fun g hg=>hF g (h.blk g hg)⟩
theorem Held.nil {w:World} {F:Nat→Prop} {ty:TypeId} {sz:Nat}:Held w F ty sz (.slice none 0 0) 0 []:=⟨World.ownsRow_nil _ _ _ _,fun g hg=>by simp [Value.ownBlock] at hg⟩
structure DeskX (w:World) (gp:Nat) (S:Sta) (X:Aux) (F:Nat→Prop) (po:Option Addr) (pc:Nat) (so:Option Addr) (sc:Nat) (wo:Option Addr) (wc:Nat) (yo:Option Addr) (yc:Nat) (ho:Option Addr) (hc:Nat):Prop where
 box:w.heap[gp]?=some (bDesk S.bud po S.pools.length pc so S.srv.length sc wo S.wts.length wc X.op ⟨.slice yo S.plan.length yc,S.begun,S.back,X.hb,.slice ho X.hps.length hc⟩)
 p:Held w F 70 4 (.slice po S.pools.length pc) S.pools.length (flatP S.pools)
 s:Held w F 74 4 (.slice so S.srv.length sc) S.srv.length (flatV S.srv)
 t:Held w F 76 2 (.slice wo S.wts.length wc) S.wts.length (flatW S.wts)
 l:Held w F 72 3 (.slice yo S.plan.length yc) S.plan.length (flatT S.plan)
 h:Held w F 70 4 (.slice ho X.hps.length hc) X.hps.length (flatP X.hps)
structure DeskAt (w:World) (gp:Nat) (S:Sta) (X:Aux) (F:Nat→Prop):Prop where
 ex:∃ po pc so sc wo wc yo yc ho hc,DeskX w gp S X F po pc so sc wo wc yo yc ho hc
 gp:F gp
 lt:∀ x,F x→x<w.heap.size
theorem DeskAt.keep {w w':World} {gp:Nat} {S:Sta} {X:Aux} {F G:Nat→Prop} (h:DeskAt w gp S X F) (hc:Chg G w w') (hd:∀ x,F x→¬G x):DeskAt w' gp S X F:=by
 obtain ⟨po,pc,so,sc,wo,wc,yo,yc,ho,hhc,hx⟩:=h.ex;have hh:∀ g,F g→w'.heap[g]?=w.heap[g]?:=fun g hg=>hc.block g (h.lt g hg) (hd g hg)
 exact ⟨⟨po,pc,so,sc,wo,wc,yo,yc,ho,hhc,(hh gp h.gp).trans hx.box,hx.p.keep hh (fun _ h=>h),hx.s.keep hh (fun _ h=>h),hx.t.keep hh (fun _ h=>h),hx.l.keep hh (fun _ h=>h),hx.h.keep hh (fun _ h=>h)⟩,h.gp,fun x hx=>Nat.lt_of_lt_of_le (h.lt x hx) hc.size⟩
theorem made0 (w:World) (ty:TypeId) (sz:Nat) (g:Nat) (hg:g=w.heap.size) (B:Nat) (hB:B≤w.heap.size):(w.alloc (.cells #[] ty)).ownsRow B ty sz (.slice (some ⟨g,0,none⟩) 0 0) 0 []:=by
 subst hg;exact World.ownsRow_made (base:=B) (e:=ty) (size:=sz) w #[] 0 hB (Nat.zero_le _) (by simp)
theorem blk5e {w:World} {g:Nat} {c0 c1 c2 c3 c4:Value} {t:TypeId} (h:w.heap[g]?=some (.cells #[c0,c1,c2,c3,c4] t (0,0))) :
  w.cell? ⟨g,0,none⟩=some c0∧w.cell? ⟨g,1,none⟩=some c1∧w.cell? ⟨g,2,none⟩=some c2∧w.cell? ⟨g,3,none⟩=some c3∧w.cell? ⟨g,4,none⟩=some c4∧∀ a,w.frozen? ⟨g,a,none⟩=false:=by
 refine ⟨?_,?_,?_,?_,?_,fun a=>?_⟩ <;> simp [World.cell?,World.frozen?,h]
theorem blk5d {w:World} {g:Nat} {c0 c1 c2 c3 c4 c5 c6 c7 c8 c9:Value} {t:TypeId} (h:w.heap[g]?=some (.cells #[c0,c1,c2,c3,c4,c5,c6,c7,c8,c9] t (0,0))) :
  w.cell? ⟨g,0,none⟩=some c0∧w.cell? ⟨g,1,none⟩=some c1∧w.cell? ⟨g,2,none⟩=some c2∧w.cell? ⟨g,3,none⟩=some c3∧w.cell? ⟨g,4,none⟩=some c4∧∀ a,w.frozen? ⟨g,a,none⟩=false:=by
 refine ⟨?_,?_,?_,?_,?_,fun a=>?_⟩ <;> simp [World.cell?,World.frozen?,h]
theorem blkWd {w:World} {g:Nat} {c0 c1 c2 c3 c4 c5 c6 c7 c8 c9:Value} {t:TypeId} (h:w.heap[g]?=some (.cells #[c0,c1,c2,c3,c4,c5,c6,c7,c8,c9] t (0,0))) :
  w.cell? ⟨g,5,none⟩=some c5∧w.cell? ⟨g,6,none⟩=some c6∧w.cell? ⟨g,7,none⟩=some c7∧w.cell? ⟨g,8,none⟩=some c8∧w.cell? ⟨g,9,none⟩=some c9∧∀ a,w.frozen? ⟨g,a,none⟩=false:=by
 refine ⟨?_,?_,?_,?_,?_,fun a=>?_⟩ <;> simp [World.cell?,World.frozen?,h]
theorem blk7d {w:World} {g:Nat} {c0 c1 c2 c3 c4 c5 c6:Value} {t:TypeId} (h:w.heap[g]?=some (.cells #[c0,c1,c2,c3,c4,c5,c6] t (0,0))) :
  w.cell? ⟨g,0,none⟩=some c0∧w.cell? ⟨g,1,none⟩=some c1∧w.cell? ⟨g,2,none⟩=some c2∧w.cell? ⟨g,3,none⟩=some c3∧w.cell? ⟨g,4,none⟩=some c4∧w.cell? ⟨g,5,none⟩=some c5∧w.cell? ⟨g,6,none⟩=some c6∧∀ a,w.frozen? ⟨g,a,none⟩=false:=by
 refine ⟨?_,?_,?_,?_,?_,?_,?_,fun a=>?_⟩ <;> simp [World.cell?,World.frozen?,h]
theorem Zbt (W:World) (g:Nat) (c0 c1 c2 c3 c4 c5 c6:Value) (j:Nat) (hj:j≠g):(((((((W.setCell ⟨g,0,none⟩ c0).setCell ⟨g,1,none⟩ c1).setCell ⟨g,2,none⟩ c2).setCell ⟨g,3,none⟩ c3).setCell ⟨g,4,none⟩ c4).setCell ⟨g,5,none⟩ c5).setCell ⟨g,6,none⟩ c6).heap[j]?=W.heap[j]?:=by
 refine (Below.heap_setCell _ _ _ _ hj).trans ((Below.heap_setCell _ _ _ _ hj).trans ((Below.heap_setCell _ _ _ _ hj).trans ((Below.heap_setCell _ _ _ _ hj).trans ((Below.heap_setCell _ _ _ _ hj).trans ((Below.heap_setCell _ _ _ _ hj).trans (Below.heap_setCell _ _ _ _ hj))))))
theorem ZdG {B:Nat} {w0 W:World} (h:Below B w0 W) (g:Nat) (hg:B≤g) (c0 c1 c2 c3 c4 c5 c6:Value):Below B w0 (((((((W.setCell ⟨g,0,none⟩ c0).setCell ⟨g,1,none⟩ c1).setCell ⟨g,2,none⟩ c2).setCell ⟨g,3,none⟩ c3).setCell ⟨g,4,none⟩ c4).setCell ⟨g,5,none⟩ c5).setCell ⟨g,6,none⟩ c6):=
 ((((((h.setCell hg _).setCell hg _).setCell hg _).setCell hg _).setCell hg _).setCell hg _).setCell hg _
theorem Zhk (gp:Nat) (b:Int) (ps:List Pl) (ss:List Srv) (ws:List Wtr) (n1 n2 n3:Nat) (po:Option Addr) (pc:Nat) (so:Option Addr) (sc:Nat) (wo:Option Addr) (wc:Nat) (op:Int) (q:WyV) (w:World) (hgp:w.heap[gp]?=some (bDesk b po n1 pc so n2 sc wo n3 wc op q))
  (h1:w.ownsRow 0 70 4 (.slice po n1 pc) n1 (flatP ps)) (h2:w.ownsRow 0 74 4 (.slice so n2 sc) n2 (flatV ss)) (h3:w.ownsRow 0 76 2 (.slice wo n3 wc) n3 (flatW ws)) (hn:ps.length=n1∧ss.length=n2∧ws.length=n3) (hq:n1≤1099511627776∧n2≤1099511627776∧n3≤1099511627776) :
  Calls Tryz.prog 24 #[.pointer (some ⟨gp,0,none⟩)] w fun e w'=>∃ po' pc' so' sc' wo' wc',e=.returned (.agg #[.int .i64 b,.slice po' n1 pc',.slice so' n2 sc',.slice wo' n3 wc',.slice none 0 0,.bool false,.bool false])∧w'.ownsRow w.heap.size 70 4 (.slice po' n1 pc') n1 (flatP ps)∧w'.ownsRow w.heap.size 74 4 (.slice so' n2 sc') n2 (flatV ss)∧w'.ownsRow w.heap.size 76 2 (.slice wo' n3 wc') n3 (flatW ws)∧Below w.heap.size w w':=by
 obtain ⟨hq1,hq2,hq3⟩:=hq;have hgplt:gp<w.heap.size:=(Array.getElem?_eq_some_iff.1 hgp).1;have HN:=hideIt hn;have H1:=hideIt h1;have H2:=hideIt h2;have H3:=hideIt h3;have HGP:=hideIt hgp;have hb0:Below w.heap.size w ((w.alloc zSta).alloc zSta):=Za (Zb _ _) (Zb _ _);have HZ:Hid (Below w.heap.size w ((w.alloc zSta).alloc zSta)∧((w.alloc zSta).alloc zSta).heap[w.heap.size]?=some zSta∧((w.alloc zSta).alloc zSta).heap[w.heap.size+1]?=some zSta∧((w.alloc zSta).alloc zSta).heap[gp]?=some (bDesk b po n1 pc so n2 sc wo n3 wc op q)):=
  ⟨hb0,(Zf _ _ (by simp)).trans (Zc _ _ rfl),Zc _ _ (by simp),(hb0.block _ hgplt).trans hgp⟩
 have HCP:=hideIt (Z5 b ps po n1 pc ((w.alloc zSta).alloc zSta) ((Zd h1).nx hb0) (Zv h1) hn.1 hq1);obtain ⟨g0,g1,g2,g3,g4,gz⟩:=blk5d HZ.out.2.2.2;clear hgp h1 h2 h3 hn hb0;go_enter Tryz.func24,Tryz.ntmps24
 go_wp2_with fail
 refine HCP.out.mono ?_;rintro e w1 ⟨po',pc',rfl,hown1,hb1⟩;have hz1:w1.heap[w.heap.size+1]?=some zSta:=(hb1.block _ (by simp)).trans HZ.out.2.2.1;have hz0:w1.heap[w.heap.size]?=some zSta:=(hb1.block _ (by simp;omega)).trans HZ.out.2.1;have hd1:w1.heap[gp]?=some (bDesk b po n1 pc so n2 sc wo n3 wc op q):=(hb1.block _ (by simp;omega)).trans HZ.out.2.2.2;have hbw1:Below w.heap.size w w1:=Za HZ.out.1 hb1;have hsz1:w.heap.size+2≤w1.heap.size:=by have:=hb1.size;simpa using this
 obtain ⟨W1,hW1⟩:∃ W1,W1=(w1.setCell ⟨w.heap.size+1,0,none⟩ (.int .i64 b)).setCell ⟨w.heap.size+1,1,none⟩ (.slice po' n1 pc'):=⟨_,rfl⟩;have K1:Hid (W1=(w1.setCell ⟨w.heap.size+1,0,none⟩ (.int .i64 b)).setCell ⟨w.heap.size+1,1,none⟩ (.slice po' n1 pc')∧W1.heap[w.heap.size+1]?=some (bSt7 b (.slice po' n1 pc') (.slice none 0 0) (.slice none 0 0) (.slice none 0 0) false false)∧W1.heap[w.heap.size]?=some zSta∧W1.heap[gp]?=some (bDesk b po n1 pc so n2 sc wo n3 wc op q)∧Below w.heap.size w W1∧w.heap.size+2≤W1.heap.size∧W1.ownsRow (w.heap.size+2) 70 4 (.slice po' n1 pc') n1 (flatP ps)):=by
  have hoth:∀ j,j≠w.heap.size+1→W1.heap[j]?=w1.heap[j]?:=fun j hj=>by rw [hW1];exact (Below.heap_setCell _ _ _ _ hj).trans (Below.heap_setCell _ _ _ _ hj)
  refine ⟨hW1,?_,(hoth _ (by omega)).trans hz0,(hoth _ (by omega)).trans hd1,?_,by rw [hW1];simpa using hsz1,?_⟩
  ·rw [hW1];exact Zg _ _ _ _ _ _ (Zg _ _ _ _ _ _ hz1)
  ·rw [hW1];exact (hbw1.setCell (by show w.heap.size≤w.heap.size+1;omega) _).setCell (by show w.heap.size≤w.heap.size+1;omega) _
  ·rw [hW1];have ho:w1.ownsRow (w.heap.size+2) 70 4 (.slice po' n1 pc') n1 (flatP ps):=by simpa using hown1
   exact ownsRow_setCell_below (ownsRow_setCell_below ho (by show w.heap.size+1<_;omega) _) (by show w.heap.size+1<_;omega) _
 obtain ⟨x0,x1,x2,x3,x4,x5,x6,xz⟩:=blk7d hz1;clear hown1 hb1 hz1 hz0 hd1 hbw1 hsz1 hW1 g0 g1 g2 g3 g4 gz;go_upto_region 3 with fail
 rw [←K1.out.1];clear x0 x1 x2 x3 x4 x5 x6 xz;obtain ⟨g0,g1,g2,g3,g4,gz⟩:=blk5d ((Zf W1 (.cells #[] 74) (Array.getElem?_eq_some_iff.1 K1.out.2.2.2.1).1).trans K1.out.2.2.2.1);go_wp2_with (at_builtin;refine appendG 74 32 4 40 _ Zce Tryz.underlying32 rfl (by decide) (by decide) rfl (.tmp 11) (.tmp 15) rfl W1.heap.size _ 0 [] rfl (made0 W1 _ 4 _ rfl _ (Nat.le_refl _)) so n2 sc (flatV ss) rfl (by rw [Zh2,HN.out.2.1]) (((Zd H2.out).nx K1.out.2.2.2.2.1).nx (Zb _ _)) (Zhr ss) (Zv H2.out) (by omega) (by simp) ?next)
 case next =>
  intro v' w2 hown2 hb2;obtain ⟨so',sc',rfl,_⟩:=Zd hown2;have hbw2:Below w.heap.size w w2:=(K1.out.2.2.2.2.1.alloc (Nat.le_trans (by omega) K1.out.2.2.2.2.2.1) _).trans (hb2.mono (Nat.le_trans (by omega) K1.out.2.2.2.2.2.1));have hsz2:w.heap.size+2≤w2.heap.size:=Nat.le_trans K1.out.2.2.2.2.2.1 (Nat.le_trans (by simp) hb2.size);have hold:∀ j,j<W1.heap.size→w2.heap[j]?=W1.heap[j]?:=fun j hj=>(hb2.block j hj).trans (Zf _ _ hj)
  have hz1:w2.heap[w.heap.size+1]?=some (bSt7 b (.slice po' n1 pc') (.slice none 0 0) (.slice none 0 0) (.slice none 0 0) false false):=(hold _ (by have:=K1.out.2.2.2.2.2.1;omega)).trans K1.out.2.1;obtain ⟨W2,hW2⟩:∃ W2,W2=w2.setCell ⟨w.heap.size+1,2,none⟩ (.slice so' n2 sc'):=⟨_,rfl⟩;have K2:Hid (W2=w2.setCell ⟨w.heap.size+1,2,none⟩ (.slice so' n2 sc')∧W2.heap[w.heap.size+1]?=some (bSt7 b (.slice po' n1 pc') (.slice so' n2 sc') (.slice none 0 0) (.slice none 0 0) false false)∧W2.heap[w.heap.size]?=some zSta∧W2.heap[gp]?=some (bDesk b po n1 pc so n2 sc wo n3 wc op q)∧Below w.heap.size w W2∧w.heap.size+2≤W2.heap.size∧W2.ownsRow (w.heap.size+2) 70 4 (.slice po' n1 pc') n1 (flatP ps)∧W2.ownsRow (w.heap.size+2) 74 4 (.slice so' n2 sc') n2 (flatV ss)):=by
   have hoth:∀ j,j≠w.heap.size+1→W2.heap[j]?=w2.heap[j]?:=fun j hj=>by rw [hW2];exact Below.heap_setCell _ _ _ _ hj
   have hgs:=K1.out.2.2.2.2.2.1;refine ⟨hW2,?_,(hoth _ (by omega)).trans ((hold _ (by omega)).trans K1.out.2.2.1),(hoth _ (by omega)).trans ((hold _ (by omega)).trans K1.out.2.2.2.1),?_,by rw [hW2];simpa using hsz2,?_,?_⟩
   ·rw [hW2];exact Zg _ _ _ _ _ _ hz1
   ·rw [hW2];exact hbw2.setCell (by show w.heap.size≤w.heap.size+1;omega) _
   ·exact Zj K1.out.2.2.2.2.2.2 (fun j hj=>(hoth j (by have:=(K1.out.2.2.2.2.2.2.lt j hj).1;omega)).trans (hold j (K1.out.2.2.2.2.2.2.lt j hj).2))
   ·rw [hW2];exact ownsRow_setCell_below (Zi hown2 hgs) (by show w.heap.size+1<_;omega) _
  obtain ⟨x0,x1,x2,x3,x4,x5,x6,xz⟩:=blk7d hz1;clear hown2 hb2 hbw2 hsz2 hold hz1 hW2 g0 g1 g2 g3 g4 gz;go_upto_region 4 with fail
  rw [←K2.out.1];clear x0 x1 x2 x3 x4 x5 x6 xz;obtain ⟨g0,g1,g2,g3,g4,gz⟩:=blk5d ((Zf W2 (.cells #[] 76) (Array.getElem?_eq_some_iff.1 K2.out.2.2.2.1).1).trans K2.out.2.2.2.1);go_wp2_with (at_builtin;refine appendG 76 33 2 24 _ ZfY Tryz.underlying33 rfl (by decide) (by decide) rfl (.tmp 18) (.tmp 22) rfl W2.heap.size _ 0 [] rfl (made0 W2 _ 2 _ rfl _ (Nat.le_refl _)) wo n3 wc (flatW ws) rfl (by rw [Zh3,HN.out.2.2]) (((Zd H3.out).nx K2.out.2.2.2.2.1).nx (Zb _ _)) (ZiC ws) (Zv H3.out) (by omega) (by simp) ?next3)
  case next3 =>
   intro v' w3 hown3 hb3;obtain ⟨wo',wc',rfl,_⟩:=Zd hown3;have hbw3:Below w.heap.size w w3:=(K2.out.2.2.2.2.1.alloc (Nat.le_trans (by omega) K2.out.2.2.2.2.2.1) _).trans (hb3.mono (Nat.le_trans (by omega) K2.out.2.2.2.2.2.1));have hold:∀ j,j<W2.heap.size→w3.heap[j]?=W2.heap[j]?:=fun j hj=>(hb3.block j hj).trans (Zf _ _ hj)
   have hgs:=K2.out.2.2.2.2.2.1;have hz1:w3.heap[w.heap.size+1]?=some (bSt7 b (.slice po' n1 pc') (.slice so' n2 sc') (.slice none 0 0) (.slice none 0 0) false false):=(hold _ (by omega)).trans K2.out.2.1;obtain ⟨W3,hW3⟩:∃ W3,W3=w3.setCell ⟨w.heap.size+1,3,none⟩ (.slice wo' n3 wc'):=⟨_,rfl⟩;have hoth:∀ j,j≠w.heap.size+1→W3.heap[j]?=w3.heap[j]?:=fun j hj=>by rw [hW3];exact Below.heap_setCell _ _ _ _ hj
   have K3:Hid (W3=w3.setCell ⟨w.heap.size+1,3,none⟩ (.slice wo' n3 wc')∧W3.heap[w.heap.size+1]?=some (bSt7 b (.slice po' n1 pc') (.slice so' n2 sc') (.slice wo' n3 wc') (.slice none 0 0) false false)∧W3.heap[w.heap.size]?=some zSta∧Below w.heap.size w W3∧W3.ownsRow (w.heap.size+2) 70 4 (.slice po' n1 pc') n1 (flatP ps)∧W3.ownsRow (w.heap.size+2) 74 4 (.slice so' n2 sc') n2 (flatV ss)∧W3.ownsRow (w.heap.size+2) 76 2 (.slice wo' n3 wc') n3 (flatW ws)):=by
    refine ⟨hW3,?_,(hoth _ (by omega)).trans ((hold _ (by omega)).trans K2.out.2.2.1),?_,?_,?_,?_⟩
    ·rw [hW3];exact Zg _ _ _ _ _ _ hz1
    ·rw [hW3];exact hbw3.setCell (by show w.heap.size≤w.heap.size+1;omega) _
    ·exact Zj K2.out.2.2.2.2.2.2.1 (fun j hj=>(hoth j (by have:=(K2.out.2.2.2.2.2.2.1.lt j hj).1;omega)).trans (hold j (K2.out.2.2.2.2.2.2.1.lt j hj).2))
    ·exact Zj K2.out.2.2.2.2.2.2.2 (fun j hj=>(hoth j (by have:=(K2.out.2.2.2.2.2.2.2.lt j hj).1;omega)).trans (hold j (K2.out.2.2.2.2.2.2.2.lt j hj).2))
    ·rw [hW3];exact ownsRow_setCell_below (Zi hown3 hgs) (by show w.heap.size+1<_;omega) _
   obtain ⟨x0,x1,x2,x3,x4,x5,x6,xz⟩:=blk7d hz1;clear hown3 hb3 hbw3 hold hz1 hW3 hoth g0 g1 g2 g3 g4 gz hgs;go_upto_region 5 with fail
   rw [←K3.out.1];clear x0 x1 x2 x3 x4 x5 x6 xz;obtain ⟨x0,x1,x2,x3,x4,x5,x6,xz⟩:=blk7d K3.out.2.1;obtain ⟨y0,y1,y2,y3,y4,y5,y6,yz⟩:=blk7d K3.out.2.2.1;go_wp2_with fail
   refine bodyPost_ret (v:=.agg #[.int .i64 b,.slice po' n1 pc',.slice so' n2 sc',.slice wo' n3 wc',.slice none 0 0,.bool false,.bool false]) (by simp [results,Tryz.results24,go_sem,y0,y1,y2,y3,y4,y5,y6]) rfl ⟨po',pc',so',sc',wo',wc',rfl,?_,?_,?_,?_⟩
   ·exact Zi (Zj K3.out.2.2.2.2.1 (fun j hj=>Zbt _ _ _ _ _ _ _ _ _ j (by have:=(K3.out.2.2.2.2.1.lt j hj).1;omega))) (by omega)
   ·exact Zi (Zj K3.out.2.2.2.2.2.1 (fun j hj=>Zbt _ _ _ _ _ _ _ _ _ j (by have:=(K3.out.2.2.2.2.2.1.lt j hj).1;omega))) (by omega)
   ·exact Zi (Zj K3.out.2.2.2.2.2.2 (fun j hj=>Zbt _ _ _ _ _ _ _ _ _ j (by have:=(K3.out.2.2.2.2.2.2.lt j hj).1;omega))) (by omega)
   ·exact ZdG K3.out.2.2.2.1 _ (Nat.le_refl _) _ _ _ _ _ _ _
theorem ZgN:(Tryz.prog.info? 72).map (fun i=>(i.zero,i.size,i.bytes))=some (some (.agg #[.int .i64 0,.string ⟨#[]⟩,.int .i64 0]),3,32):=by kernel_rfl
theorem Zhc (l:List Stp):(flatT l).length=l.length*3:=Zcx fSt 3 (fun _=>rfl) l
theorem ZgR (l:List Stp):∀ u∈flatT l,u.oneCell'=true:=ZdT fSt (fun x u hu=>by simp [fSt] at hu;rcases hu with rfl | rfl | rfl <;> rfl) l
theorem Zg5 (gp:Nat) (b:Int) (po:Option Addr) (n1 pc:Nat) (so:Option Addr) (n2 sc:Nat) (wo:Option Addr) (n3 wc:Nat) (op:Int) (yo:Option Addr) (n4 yc:Nat) (bg bk:Bool) (hb:Int) (hp:Value) (ts:List Stp) (w:World) (hgp:w.heap[gp]?=some (bDesk b po n1 pc so n2 sc wo n3 wc op ⟨.slice yo n4 yc,bg,bk,hb,hp⟩))
  (h:w.ownsRow 0 72 3 (.slice yo n4 yc) n4 (flatT ts)) (hn:ts.length=n4) (hq:n4≤1099511627776) :
  Calls Tryz.prog 25 #[.pointer (some ⟨gp,5,none⟩)] w fun e w'=>∃ yo' yc',e=.returned (.slice yo' n4 yc')∧w'.ownsRow w.heap.size 72 3 (.slice yo' n4 yc') n4 (flatT ts)∧Below w.heap.size w w':=by
 have hgplt:gp<w.heap.size:=(Array.getElem?_eq_some_iff.1 hgp).1;obtain ⟨g5,g6,g7,g8,g9,gz⟩:=blkWd ((Zf w (.cells #[] 72) hgplt).trans hgp);have HH:=hideIt (And.intro h hn);clear hgp h hn;go_enter Tryz.func25,Tryz.ntmps25
 go_wp2_with (at_builtin;refine appendG 72 34 3 32 _ ZgN Tryz.underlying34 rfl (by decide) (by decide) rfl (.tmp 3) (.tmp 7) rfl w.heap.size _ 0 [] rfl (made0 w _ 3 _ rfl _ (Nat.le_refl _)) yo n4 yc (flatT ts) rfl (by rw [Zhc,HH.out.2]) ((Zd HH.out.1).nx (Zb _ _)) (ZgR ts) (Zv HH.out.1) (by omega) (by simp) ?next)
 case next =>
  intro v' w2 hown2 hb2;obtain ⟨yo',yc',rfl,_⟩:=Zd hown2;have K:Hid (w2.ownsRow w.heap.size 72 3 (.slice yo' n4 yc') n4 (flatT ts)∧Below w.heap.size w w2):=⟨by simpa using hown2,(Zb _ _).trans hb2⟩;clear hown2 hb2 g5 g6 g7 g8 g9 gz;go_wp2_with fail
  go_ret
  exact ⟨yo',yc',by simp,K.out⟩
theorem ZdR (gp:Nat) (b:Int) (po:Option Addr) (n1 pc:Nat) (so:Option Addr) (n2 sc:Nat) (wo:Option Addr) (n3 wc:Nat) (op:Int) (q:WyV) (w:World) (hgp:w.heap[gp]?=some (bDesk b po n1 pc so n2 sc wo n3 wc op q)) :
  Calls Tryz.prog 26 #[.pointer (some ⟨gp,5,none⟩)] w fun e w'=>e=.returned (.bool q.bg)∧w'=w:=by
 obtain ⟨g5,g6,g7,g8,g9,gz⟩:=blkWd hgp;go_enter Tryz.func26,Tryz.ntmps26
 go_wp2_with fail
 go_ret
 exact ⟨rfl,rfl⟩
theorem ZeP (gp:Nat) (b:Int) (po:Option Addr) (n1 pc:Nat) (so:Option Addr) (n2 sc:Nat) (wo:Option Addr) (n3 wc:Nat) (op:Int) (q:WyV) (w:World) (hgp:w.heap[gp]?=some (bDesk b po n1 pc so n2 sc wo n3 wc op q)) :
  Calls Tryz.prog 27 #[.pointer (some ⟨gp,5,none⟩)] w fun e w'=>e=.returned (.bool q.bk)∧w'=w:=by
 obtain ⟨g5,g6,g7,g8,g9,gz⟩:=blkWd hgp;go_enter Tryz.func27,Tryz.ntmps27
 go_wp2_with fail
 go_ret
 exact ⟨rfl,rfl⟩
theorem Zg1 (gp:Nat) (b:Int) (ps:List Pl) (ss:List Srv) (ws:List Wtr) (ts:List Stp) (n1 n2 n3 n4:Nat) (po:Option Addr) (pc:Nat) (so:Option Addr) (sc:Nat) (wo:Option Addr) (wc:Nat) (op:Int) (yo:Option Addr) (yc:Nat) (bg bk:Bool) (hb:Int) (hp:Value) (w:World) (hgp:w.heap[gp]?=some (bDesk b po n1 pc so n2 sc wo n3 wc op ⟨.slice yo n4 yc,bg,bk,hb,hp⟩))
  (h1:w.ownsRow 0 70 4 (.slice po n1 pc) n1 (flatP ps)) (h2:w.ownsRow 0 74 4 (.slice so n2 sc) n2 (flatV ss)) (h3:w.ownsRow 0 76 2 (.slice wo n3 wc) n3 (flatW ws)) (h4:w.ownsRow 0 72 3 (.slice yo n4 yc) n4 (flatT ts)) (hn:ps.length=n1∧ss.length=n2∧ws.length=n3) (hn4:ts.length=n4) (hq:n1≤1099511627776∧n2≤1099511627776∧n3≤1099511627776) (hq4:n4≤1099511627776) :
  Calls Tryz.prog 11 #[.pointer (some ⟨gp,0,none⟩)] w fun e w'=>∃ po' pc' so' sc' wo' wc' yo' yc',e=.returned (.agg #[.int .i64 b,.slice po' n1 pc',.slice so' n2 sc',.slice wo' n3 wc',.slice yo' n4 yc',.bool bg,.bool bk])∧w'.ownsRow w.heap.size 70 4 (.slice po' n1 pc') n1 (flatP ps)∧w'.ownsRow w.heap.size 74 4 (.slice so' n2 sc') n2 (flatV ss)∧w'.ownsRow w.heap.size 76 2 (.slice wo' n3 wc') n3 (flatW ws)∧w'.ownsRow w.heap.size 72 3 (.slice yo' n4 yc') n4 (flatT ts)∧Below w.heap.size w w':=by
 have hgplt:gp<w.heap.size:=(Array.getElem?_eq_some_iff.1 hgp).1;have hal:∀ j,j<w.heap.size→(w.alloc zSta).heap[j]?=w.heap[j]?:=fun j hj=>Zf _ _ hj
 have HD:=hideIt (Zhk gp b ps ss ws n1 n2 n3 po pc so sc wo wc op ⟨.slice yo n4 yc,bg,bk,hb,hp⟩ (w.alloc zSta) ((hal gp hgplt).trans hgp) (Zj h1 (fun j hj=>hal j (h1.lt j hj).2)) (Zj h2 (fun j hj=>hal j (h2.lt j hj).2)) (Zj h3 (fun j hj=>hal j (h3.lt j hj).2)) hn hq);have HG:=hideIt hgp;have H4:=hideIt (And.intro h4 hn4);clear hgp h1 h2 h3 hn hq hal h4 hn4;go_enter Tryz.func11,Tryz.ntmps11
 go_wp2_with fail
 refine HD.out.mono ?_;rintro e w1 ⟨po',pc',so',sc',wo',wc',rfl,k1,k2,k3,hb1⟩;have hsz1:w.heap.size+1≤w1.heap.size:=by have:=hb1.size;simpa using this
 obtain ⟨W1,hW1⟩:∃ W1,W1=w1.alloc (bSt7 b (.slice po' n1 pc') (.slice so' n2 sc') (.slice wo' n3 wc') (.slice none 0 0) false false):=⟨_,rfl⟩;have hbW:Below w.heap.size w W1:=by rw [hW1];exact Za (Za (Zb _ _) hb1) (Zb _ _)
 have K1:Hid (W1=w1.alloc (bSt7 b (.slice po' n1 pc') (.slice so' n2 sc') (.slice wo' n3 wc') (.slice none 0 0) false false)∧W1.heap[w1.heap.size]?=some (bSt7 b (.slice po' n1 pc') (.slice so' n2 sc') (.slice wo' n3 wc') (.slice none 0 0) false false)∧W1.heap[w.heap.size]?=some zSta∧Below w.heap.size w W1∧w1.heap.size<W1.heap.size∧W1.ownsRow (w.heap.size+1) 70 4 (.slice po' n1 pc') n1 (flatP ps)∧W1.ownsRow (w.heap.size+1) 74 4 (.slice so' n2 sc') n2 (flatV ss)∧W1.ownsRow (w.heap.size+1) 76 2 (.slice wo' n3 wc') n3 (flatW ws)∧(∀ v:Value,∀ g,(v=.slice po' n1 pc'∨v=.slice so' n2 sc'∨v=.slice wo' n3 wc')→v.ownBlock=some g→w.heap.size<g∧g<w1.heap.size)):=by
  have k1':w1.ownsRow (w.heap.size+1) 70 4 (.slice po' n1 pc') n1 (flatP ps):=by simpa using k1
  have k2':w1.ownsRow (w.heap.size+1) 74 4 (.slice so' n2 sc') n2 (flatV ss):=by simpa using k2
  have k3':w1.ownsRow (w.heap.size+1) 76 2 (.slice wo' n3 wc') n3 (flatW ws):=by simpa using k3
  refine ⟨hW1,?_,?_,hbW,by rw [hW1];simp,by rw [hW1];exact k1'.alloc _,by rw [hW1];exact k2'.alloc _,by rw [hW1];exact k3'.alloc _,?_⟩
  ·rw [hW1];exact Zc _ _ rfl
  ·rw [hW1];exact (Zf _ _ (by omega)).trans ((hb1.block _ (by simp)).trans (Zc _ _ rfl))
  ·rintro v g (rfl | rfl | rfl) hg
   ·exact k1'.lt g hg
   ·exact k2'.lt g hg
   ·exact k3'.lt g hg
 have hg1:W1.heap[gp]?=some (bDesk b po n1 pc so n2 sc wo n3 wc op ⟨.slice yo n4 yc,bg,bk,hb,hp⟩):=(hbW.block gp hgplt).trans HG.out;have HST:=hideIt (Zg5 gp b po n1 pc so n2 sc wo n3 wc op yo n4 yc bg bk hb hp ts W1 hg1 (Zk H4.out.1 hbW) H4.out.2 hq4);clear k1 k2 k3 hb1 HD hW1 hbW hg1;go_upto_region 2 with fail
 rw [←K1.out.1];go_wp2_with fail
 refine HST.out.mono ?_;rintro e w2 ⟨yo',yc',rfl,k4,hb2⟩;have hz2:w2.heap[w1.heap.size]?=some (bSt7 b (.slice po' n1 pc') (.slice so' n2 sc') (.slice wo' n3 wc') (.slice none 0 0) false false):=(hb2.block _ K1.out.2.2.2.2.1).trans K1.out.2.1;obtain ⟨W2,hW2⟩:∃ W2,W2=w2.setCell ⟨w1.heap.size,4,none⟩ (.slice yo' n4 yc'):=⟨_,rfl⟩;have hoth:∀ j,j≠w1.heap.size→W2.heap[j]?=w2.heap[j]?:=fun j hj=>by rw [hW2];exact Below.heap_setCell _ _ _ _ hj
 have hw1:w.heap.size≤w1.heap.size:=by omega
 have K2:Hid (W2=w2.setCell ⟨w1.heap.size,4,none⟩ (.slice yo' n4 yc')∧W2.heap[w1.heap.size]?=some (bSt7 b (.slice po' n1 pc') (.slice so' n2 sc') (.slice wo' n3 wc') (.slice yo' n4 yc') false false)∧W2.heap[w.heap.size]?=some zSta∧Below w.heap.size w W2∧W2.ownsRow (w.heap.size+1) 70 4 (.slice po' n1 pc') n1 (flatP ps)∧W2.ownsRow (w.heap.size+1) 74 4 (.slice so' n2 sc') n2 (flatV ss)∧W2.ownsRow (w.heap.size+1) 76 2 (.slice wo' n3 wc') n3 (flatW ws)∧W2.ownsRow (w.heap.size+1) 72 3 (.slice yo' n4 yc') n4 (flatT ts)∧(∀ g,(Value.slice yo' n4 yc').ownBlock=some g→w1.heap.size<g)):=by
  have hk:∀ {ty:TypeId} {sz n:Nat} {v:Value} {cs:List Value},W1.ownsRow (w.heap.size+1) ty sz v n cs→(∀ g,v.ownBlock=some g→w.heap.size<g∧g<w1.heap.size)→W2.ownsRow (w.heap.size+1) ty sz v n cs:=by
   intro ty sz n v cs h hv;exact Zj h (fun j hj=>(hoth j (by have:=hv j hj;omega)).trans (hb2.block j (by have:=hv j hj;have:=K1.out.2.2.2.2.1;omega)))
  have h9:=K1.out.2.2.2.2.2.2.2.2;refine ⟨hW2,?_,?_,?_,hk K1.out.2.2.2.2.2.1 (fun g hg=>h9 _ g (.inl rfl) hg),hk K1.out.2.2.2.2.2.2.1 (fun g hg=>h9 _ g (.inr (.inl rfl)) hg),hk K1.out.2.2.2.2.2.2.2.1 (fun g hg=>h9 _ g (.inr (.inr rfl)) hg),?_,?_⟩
  ·rw [hW2];exact Zg _ _ _ _ _ _ hz2
  ·exact (hoth _ (by omega)).trans ((hb2.block _ (by have:=K1.out.2.2.2.2.1;omega)).trans K1.out.2.2.1)
  ·rw [hW2];exact (Za K1.out.2.2.2.1 hb2).setCell hw1 _
  ·refine Zi (Zj k4 (fun j hj=>hoth j (by have:=(k4.lt j hj).1;have:=K1.out.2.2.2.2.1;omega))) (by have:=K1.out.2.2.2.2.1;omega)
  ·intro g hg;have:=(k4.lt g hg).1;have:=K1.out.2.2.2.2.1;omega
 have hg2:W2.heap[gp]?=some (bDesk b po n1 pc so n2 sc wo n3 wc op ⟨.slice yo n4 yc,bg,bk,hb,hp⟩):=(K2.out.2.2.2.1.block gp hgplt).trans HG.out;obtain ⟨x0,x1,x2,x3,x4,x5,x6,xz⟩:=blk7d hz2;clear k4 hb2 hz2 hW2 hoth HST;go_upto_region 3 with fail
 rw [←K2.out.1];clear x0 x1 x2 x3 x4 x5 x6 xz;have HBG:=hideIt (ZdR gp b po n1 pc so n2 sc wo n3 wc op _ W2 hg2);obtain ⟨x0,x1,x2,x3,x4,x5,x6,xz⟩:=blk7d K2.out.2.1;clear hg2;go_wp2_with fail
 refine HBG.out.mono ?_;rintro e w3 ⟨rfl,h3⟩;obtain rfl:=h3.symm;obtain ⟨W3,hW3⟩:∃ W3,W3=W2.setCell ⟨w1.heap.size,5,none⟩ (.bool bg):=⟨_,rfl⟩;have hoth:∀ j,j≠w1.heap.size→W3.heap[j]?=W2.heap[j]?:=fun j hj=>by rw [hW3];exact Below.heap_setCell _ _ _ _ hj
 have K3:Hid (W3=W2.setCell ⟨w1.heap.size,5,none⟩ (.bool bg)∧W3.heap[w1.heap.size]?=some (bSt7 b (.slice po' n1 pc') (.slice so' n2 sc') (.slice wo' n3 wc') (.slice yo' n4 yc') bg false)∧(∀ j,j≠w1.heap.size→W3.heap[j]?=W2.heap[j]?)∧Below w.heap.size w W3):=
  ⟨hW3,by rw [hW3];exact Zg _ _ _ _ _ _ K2.out.2.1,hoth,by rw [hW3];exact K2.out.2.2.2.1.setCell hw1 _⟩
 have hg3:W3.heap[gp]?=some (bDesk b po n1 pc so n2 sc wo n3 wc op ⟨.slice yo n4 yc,bg,bk,hb,hp⟩):=(K3.out.2.2.2.block gp hgplt).trans HG.out;clear hW3 hoth HBG;go_upto_region 4 with fail
 rw [←K3.out.1];clear x0 x1 x2 x3 x4 x5 x6 xz;have HBK:=hideIt (ZeP gp b po n1 pc so n2 sc wo n3 wc op _ W3 hg3);obtain ⟨x0,x1,x2,x3,x4,x5,x6,xz⟩:=blk7d K3.out.2.1;clear hg3;go_wp2_with fail
 refine HBK.out.mono ?_;rintro e w4 ⟨rfl,h4⟩;obtain rfl:=h4.symm;obtain ⟨W4,hW4⟩:∃ W4,W4=W3.setCell ⟨w1.heap.size,6,none⟩ (.bool bk):=⟨_,rfl⟩;have K4:Hid (W4=W3.setCell ⟨w1.heap.size,6,none⟩ (.bool bk)∧W4.heap[w1.heap.size]?=some (bSt7 b (.slice po' n1 pc') (.slice so' n2 sc') (.slice wo' n3 wc') (.slice yo' n4 yc') bg bk)∧(∀ j,j≠w1.heap.size→W4.heap[j]?=W2.heap[j]?)∧Below w.heap.size w W4):=
  ⟨hW4,by rw [hW4];exact Zg _ _ _ _ _ _ K3.out.2.1,fun j hj=>by rw [hW4];exact (Below.heap_setCell _ _ _ _ hj).trans (K3.out.2.2.1 j hj),by rw [hW4];exact K3.out.2.2.2.setCell hw1 _⟩
 have hz4:W4.heap[w.heap.size]?=some zSta:=(K4.out.2.2.1 _ (by omega)).trans K2.out.2.2.1;clear hW4 HBK;go_upto_region 5 with fail
 rw [←K4.out.1];clear x0 x1 x2 x3 x4 x5 x6 xz;obtain ⟨x0,x1,x2,x3,x4,x5,x6,xz⟩:=blk7d K4.out.2.1;obtain ⟨y0,y1,y2,y3,y4,y5,y6,yz⟩:=blk7d hz4;clear hz4;go_wp2_with fail
 have hfin:∀ {ty:TypeId} {sz n:Nat} {v:Value} {cs:List Value} (c0 c1 c2 c3 c4 c5 c6:Value),W2.ownsRow (w.heap.size+1) ty sz v n cs→(∀ g,v.ownBlock=some g→g≠w1.heap.size)→(((((((W4.setCell ⟨w.heap.size,0,none⟩ c0).setCell ⟨w.heap.size,1,none⟩ c1).setCell ⟨w.heap.size,2,none⟩ c2).setCell ⟨w.heap.size,3,none⟩ c3).setCell ⟨w.heap.size,4,none⟩ c4).setCell ⟨w.heap.size,5,none⟩ c5).setCell ⟨w.heap.size,6,none⟩ c6).ownsRow w.heap.size ty sz v n cs:=by
  intro ty sz n v cs c0 c1 c2 c3 c4 c5 c6 h hv;exact Zi (Zj h (fun j hj=>(Zbt _ _ _ _ _ _ _ _ _ j (by have:=(h.lt j hj).1;omega)).trans (K4.out.2.2.1 j (hv j hj)))) (by omega)
 have h9:=K1.out.2.2.2.2.2.2.2.2;refine bodyPost_ret (v:=.agg #[.int .i64 b,.slice po' n1 pc',.slice so' n2 sc',.slice wo' n3 wc',.slice yo' n4 yc',.bool bg,.bool bk]) (by simp [results,Tryz.results11,go_sem,y0,y1,y2,y3,y4,y5,y6]) rfl ⟨po',pc',so',sc',wo',wc',yo',yc',rfl,?_,?_,?_,?_,?_⟩
 ·exact hfin _ _ _ _ _ _ _ K2.out.2.2.2.2.1 (fun g hg e=>by have:=h9 _ g (.inl rfl) hg;omega)
 ·exact hfin _ _ _ _ _ _ _ K2.out.2.2.2.2.2.1 (fun g hg e=>by have:=h9 _ g (.inr (.inl rfl)) hg;omega)
 ·exact hfin _ _ _ _ _ _ _ K2.out.2.2.2.2.2.2.1 (fun g hg e=>by have:=h9 _ g (.inr (.inr rfl)) hg;omega)
 ·exact hfin _ _ _ _ _ _ _ K2.out.2.2.2.2.2.2.2.1 (fun g hg e=>by have:=K2.out.2.2.2.2.2.2.2.2 g hg;omega)
 ·exact ZdG K4.out.2.2.2 _ (Nat.le_refl _) _ _ _ _ _ _ _
structure Fits (S:Sta):Prop where
 p:S.pools.length≤1099511627776
 s:S.srv.length≤1099511627776
 t:S.wts.length≤1099511627776
 l:S.plan.length≤1099511627776
structure NewSta (w w':World) (S:Sta) (v:Stv):Prop where
 p:w'.ownsRow w.heap.size 70 4 (.slice v.po S.pools.length v.pc) S.pools.length (flatP S.pools)
 s:w'.ownsRow w.heap.size 74 4 (.slice v.so S.srv.length v.sc) S.srv.length (flatV S.srv)
 t:w'.ownsRow w.heap.size 76 2 (.slice v.wo S.wts.length v.wc) S.wts.length (flatW S.wts)
 l:w'.ownsRow w.heap.size 72 3 (.slice v.tqo S.plan.length v.tc) S.plan.length (flatT S.plan)
theorem ZfH (gp:Nat) (S:Sta) (X:Aux) (F:Nat→Prop) (w:World) (h:DeskAt w gp S X F) (hf:Fits S) :
  Calls Tryz.prog 11 #[.pointer (some ⟨gp,0,none⟩)] w fun e w'=>∃ v,e=.returned (staA S v)∧NewSta w w' S v∧Below w.heap.size w w':=by
 obtain ⟨po,pc,so,sc,wo,wc,yo,yc,ho,hc,hx⟩:=h.ex;refine (Zg1 gp S.bud S.pools S.srv S.wts S.plan _ _ _ _ po pc so sc wo wc X.op yo yc S.begun S.back X.hb _ w hx.box hx.p.own hx.s.own hx.t.own hx.l.own ⟨rfl,rfl,rfl⟩ rfl ⟨hf.p,hf.s,hf.t⟩ hf.l).mono ?_;rintro e w' ⟨po',pc',so',sc',wo',wc',yo',yc',rfl,k1,k2,k3,k4,hb⟩;exact ⟨⟨po',pc',so',sc',wo',wc',yo',yc'⟩,rfl,⟨k1,k2,k3,k4⟩,hb⟩
end Lw
end Go.Proofs.YtcpikklofilkcaaGreat
