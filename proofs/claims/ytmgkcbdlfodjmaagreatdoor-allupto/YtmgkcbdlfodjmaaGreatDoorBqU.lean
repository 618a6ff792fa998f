import Derived.Test.YtmgkcbdlfodjmaaGreatDoorBqT
set_option maxRecDepth 100000
set_option maxHeartbeats 16000000
namespace Go.Proofs.YtmgkcbdlfodjmaaGreatDoor
open Go.RowKit
namespace Lw
open Co
abbrev ZK (w:World) (g:Nat) (v0 v1 v2 v3 v4 v5 v6 v7 v8 v9:Value):World:=((((((((((w.setCell ⟨g,0,none⟩ v0).setCell ⟨g,1,none⟩ v1).setCell ⟨g,2,none⟩ v2).setCell ⟨g,3,none⟩ v3).setCell ⟨g,4,none⟩ v4).setCell ⟨g,5,none⟩ v5).setCell ⟨g,6,none⟩ v6).setCell ⟨g,7,none⟩ v7).setCell ⟨g,8,none⟩ v8).setCell ⟨g,9,none⟩ v9)
theorem ZeO {w:World} {g:Nat} {A c1 c2 c3 c4 c5 d D m q:Value} {t:TypeId} (h:w.heap[g]?=some (.cells #[A,c1,c2,c3,c4,c5,d,D,m,q] t (0,0))) (v:Value):(w.setCell ⟨g,0,none⟩ v).heap[g]?=some (.cells #[v,c1,c2,c3,c4,c5,d,D,m,q] t (0,0)):=Zm _ _ _ _ _ _ h
theorem ZhO {w:World} {g:Nat} {d c1 c2 c3 c4 c5 D m q A:Value} {t:TypeId} (h:w.heap[g]?=some (.cells #[d,c1,c2,c3,c4,c5,D,m,q,A] t (0,0))) (v:Value):(w.setCell ⟨g,1,none⟩ v).heap[g]?=some (.cells #[d,v,c2,c3,c4,c5,D,m,q,A] t (0,0)):=Zm _ _ _ _ _ _ h
theorem ZhG {w:World} {g:Nat} {d c1 c2 c3 c4 c5 D m q A:Value} {t:TypeId} (h:w.heap[g]?=some (.cells #[d,c1,c2,c3,c4,c5,D,m,q,A] t (0,0))) (v:Value):(w.setCell ⟨g,2,none⟩ v).heap[g]?=some (.cells #[d,c1,v,c3,c4,c5,D,m,q,A] t (0,0)):=Zm _ _ _ _ _ _ h
theorem ZhQ {w:World} {g:Nat} {d c1 c2 c3 c4 c5 D m q A:Value} {t:TypeId} (h:w.heap[g]?=some (.cells #[d,c1,c2,c3,c4,c5,D,m,q,A] t (0,0))) (v:Value):(w.setCell ⟨g,3,none⟩ v).heap[g]?=some (.cells #[d,c1,c2,v,c4,c5,D,m,q,A] t (0,0)):=Zm _ _ _ _ _ _ h
theorem ZfY {w:World} {g:Nat} {d c1 c2 c3 c4 c5 D m q A:Value} {t:TypeId} (h:w.heap[g]?=some (.cells #[d,c1,c2,c3,c4,c5,D,m,q,A] t (0,0))) (v:Value):(w.setCell ⟨g,4,none⟩ v).heap[g]?=some (.cells #[d,c1,c2,c3,v,c5,D,m,q,A] t (0,0)):=Zm _ _ _ _ _ _ h
theorem ZeL {w:World} {g:Nat} {d c1 c2 c3 c4 c5 D m q A:Value} {t:TypeId} (h:w.heap[g]?=some (.cells #[d,c1,c2,c3,c4,c5,D,m,q,A] t (0,0))) (v:Value):(w.setCell ⟨g,5,none⟩ v).heap[g]?=some (.cells #[d,c1,c2,c3,c4,v,D,m,q,A] t (0,0)):=Zm _ _ _ _ _ _ h
theorem ZfT {w:World} {g:Nat} {d c1 c2 c3 c4 c5 A D m q:Value} {t:TypeId} (h:w.heap[g]?=some (.cells #[d,c1,c2,c3,c4,c5,A,D,m,q] t (0,0))) (v:Value):(w.setCell ⟨g,6,none⟩ v).heap[g]?=some (.cells #[d,c1,c2,c3,c4,c5,v,D,m,q] t (0,0)):=Zm _ _ _ _ _ _ h
theorem ZmU {w:World} {g:Nat} {d c1 c2 c3 c4 c5 D A m q:Value} {t:TypeId} (h:w.heap[g]?=some (.cells #[d,c1,c2,c3,c4,c5,D,A,m,q] t (0,0))) (v:Value):(w.setCell ⟨g,7,none⟩ v).heap[g]?=some (.cells #[d,c1,c2,c3,c4,c5,D,v,m,q] t (0,0)):=Zm _ _ _ _ _ _ h
theorem Znm {w:World} {g:Nat} {d c1 c2 c3 c4 c5 D m A q:Value} {t:TypeId} (h:w.heap[g]?=some (.cells #[d,c1,c2,c3,c4,c5,D,m,A,q] t (0,0))) (v:Value):(w.setCell ⟨g,8,none⟩ v).heap[g]?=some (.cells #[d,c1,c2,c3,c4,c5,D,m,v,q] t (0,0)):=Zm _ _ _ _ _ _ h
theorem ZmI {w:World} {g:Nat} {d c1 c2 c3 c4 c5 D m q A:Value} {t:TypeId} (h:w.heap[g]?=some (.cells #[d,c1,c2,c3,c4,c5,D,m,q,A] t (0,0))) (v:Value):(w.setCell ⟨g,9,none⟩ v).heap[g]?=some (.cells #[d,c1,c2,c3,c4,c5,D,m,q,v] t (0,0)):=Zm _ _ _ _ _ _ h
theorem ZcV {w:World} {g:Nat} {M c1 c2 c3 c4 c5 N O Q R:Value} {t:TypeId} (h:w.heap[g]?=some (.cells #[M,c1,c2,c3,c4,c5,N,O,Q,R] t (0,0))) (d U m q A D E I J L:Value):(ZK w g d U m q A D E I J L).heap[g]?=some (.cells #[d,U,m,q,A,D,E,I,J,L] t (0,0)):=
 ZmI (Znm (ZmU (ZfT (ZeL (ZfY (ZhQ (ZhG (ZhO (ZeO h d) U) m) q) A) D) E) I) J) L
theorem Zqc (w:World) (g:Nat) (d h m q A D E I J L:Value) {b:Nat} (hb:b≠g):(ZK w g d h m q A D E I J L).heap[b]?=w.heap[b]?:=by
 unfold ZK;simp only [Yf _ (⟨g,_,none⟩:Addr) _ b hb]
theorem Zdw {B:Nat} {a w:World} (h:Below B a w) {g:Nat} (d:B≤g) (m q A D E I J L M N:Value):Below B a (ZK w g m q A D E I J L M N):=by
 exact (((((((((h.setCell d _).setCell d _).setCell d _).setCell d _).setCell d _).setCell d _).setCell d _).setCell d _).setCell d _).setCell d _
theorem Zaf {u:World} {B:Nat} {e:TypeId} {sz n g:Nat} {v:Value} {D:List Value} {J:Array Value} {t:TypeId} (h:u.ownsRow B e sz v n D) (m:u.heap[g]?=some (.cells J t (0,0))) (q:e≠t):v.ownBlock≠some g:=by
 intro A;obtain ⟨E,I,d⟩:=Go.Lib.ownsRow_kind h g A;rw [m] at d;simp at d;exact q d.2.1.symm
theorem ZbZ {u:World} {B:Nat} {e:TypeId} {sz n g:Nat} {v:Value} {M:List Value} (h:u.ownsRow B e sz v n M) (O:v.ownBlock≠some g) (d Q m q A D E I J L:Value):(ZK u g d Q m q A D E I J L).ownsRow B e sz v n M:=
 Zz h (fun j N=>Zqc u g d Q m q A D E I J L (fun e=>O (by rw [←e];exact N)))
theorem Zbb {u v:World} {B:Nat} {e:TypeId} {sz n g:Nat} {x:Value} {m:List Value} (d:u.ownsRow B e sz x n m) (q:Chg (fun y=>y=g) u v) (A:x.ownBlock≠some g):v.ownsRow B e sz x n m:=
 Zz d (fun j h=>q.block j (d.lt j h).2 (fun e=>A (by rw [←e];exact h)))
theorem Zab {u:World} {B:Nat} {e:TypeId} {sz n g a:Nat} {x y:Value} {d:List Value} (h:u.ownsRow B e sz x n d) (q:x.ownBlock≠some g):(u.setCell ⟨g,a,none⟩ y).ownsRow B e sz x n d:=
 Zz h (fun j m=>Yf _ _ _ _ (fun e=>q (by rw [←show j=g from e];exact m)))
theorem Zlt:(Tryz.prog.info? 86).map (fun i=>(i.zero,i.size,i.bytes))=some (some (.agg #[.int .i64 0,.string ⟨#[]⟩,.int .i64 0,.int .i64 0]),4,40):=by kernel_rfl
theorem Zlh:(Tryz.prog.info? 88).map (fun i=>(i.zero,i.size,i.bytes))=some (some (.agg #[.int .i64 0,.string ⟨#[]⟩]),2,24):=by kernel_rfl
theorem Zte:(Tryz.prog.info? 84).map (fun i=>(i.zero,i.size,i.bytes))=some (some (.agg #[.int .i64 0,.string ⟨#[]⟩,.int .i64 0]),3,32):=by kernel_rfl
theorem Chg.drew {F:Nat→Prop} {u v:World} (d:Chg F u v):Chg F u v.drew:=⟨d.os,d.tape,d.output,d.size,d.block⟩
theorem rk {d wr w1:World} {h:Nat} {e:TypeId} {sz n:Nat} {v:Value} {D:List Value} (m:Chg (fun y=>y=h) d wr) (q:wr.ownsRow d.heap.size e sz v n D) (A:∀ b,b<wr.heap.size→some b≠v.ownBlock→w1.heap[b]?=wr.heap[b]?):∀ b,b<d.heap.size→w1.heap[b]?=wr.heap[b]?:=by
 intro b hb;refine A b (Yl hb m.size) (fun e=>?_);have:=(q.lt b e.symm).1;omega
structure CP (w:World) (src:Obj) (g3:Nat) (d:Obj) (u:World):Prop where
 h0:u.heap[w.heap.size]?=some src
 h1:u.heap[w.heap.size+1]?=some zW
 h2:u.heap[g3]?=some d
 bel:Below w.heap.size w u
 lo:w.heap.size+2≤g3
theorem CP.chg {w:World} {A:Obj} {h:Nat} {d q:Obj} {u v:World} (J:CP w A h d u) (m:Chg (fun y=>y=h) u v) (D:v.heap[h]?=some q):CP w A h q v:=by
 have E:=J.lo;refine ⟨Znb J.h0 m (by omega),Znb J.h1 m (by omega),D,?_,E⟩;exact J.bel.trans (m.below J.bel.size (fun x I=>by omega))
theorem Zpg (bud:Int) (bj:Option Addr) (m bi:Nat) (so:Option Addr) (q sc:Nat) (wo:Option Addr) (A wc:Nat) (bk:Option Addr) (I be:Nat) (aa gg:Bool) (nx hb:Int) (bc:Option Addr) (gf a8:Nat) (ps:List Pl) (ss:List Srv) (ao:List Wtr) (au:List Stp) (am:List Pl) (w:World)
  (ek:RowAt w (.slice bj m bi) m (Ze ps)) (ed:ps.length=m) (fa:m≤1099511627776) (el:RowAt w (.slice so q sc) q (Zv ss)) (ee:ss.length=q) (fp:q≤1099511627776) (em:RowAt w (.slice wo A wc) A (ZE ao)) (ef:ao.length=A) (fq:A≤1099511627776)
  (eo:RowAt w (.slice bk I be) I (Zo au)) (eg:au.length=I) (ft:I≤1099511627776) (ep:RowAt w (.slice bc gf a8) gf (Ze am)) (eh:am.length=gf) (fb:gf≤1099511627776) :
  Calls Tryz.prog 49 #[.agg #[.int .i64 bud,.slice bj m bi,.slice so q sc,.slice wo A wc,.slice bk I be,.bool aa,.bool gg,.int .i64 nx,.int .i64 hb,.slice bc gf a8]] w fun e w'=>∃ M L O N R Q X Y E D,e=.returned (.agg #[.int .i64 bud,.slice M m L,.slice O q N,.slice R A Q,.slice X I Y,.bool aa,.bool gg,.int .i64 nx,.int .i64 hb,.slice E gf D]) ∧
   w'.ownsRow w.heap.size 82 4 (.slice M m L) m (Ze ps)∧w'.ownsRow w.heap.size 86 4 (.slice O q N) q (Zv ss)∧w'.ownsRow w.heap.size 88 2 (.slice R A Q) A (ZE ao)∧w'.ownsRow w.heap.size 84 3 (.slice X I Y) I (Zo au)∧w'.ownsRow w.heap.size 82 4 (.slice E gf D) gf (Ze am)∧Below w.heap.size w w'∧∀ g,(Value.slice M m L).ownBlock=some g→(Value.slice E gf D).ownBlock≠some g:=by
 obtain ⟨W,hW⟩:∃ W,W=(w.alloc (bWd (.int .i64 bud) (.slice bj m bi) (.slice so q sc) (.slice wo A wc) (.slice bk I be) (.bool aa) (.bool gg) (.int .i64 nx) (.int .i64 hb) (.slice bc gf a8))).alloc zW:=⟨_,rfl⟩;have c9:Below w.heap.size w W:=by rw [hW];exact Zb (Zc _ _) (Zc _ _)
 have HW:Hid (W=(w.alloc (bWd (.int .i64 bud) (.slice bj m bi) (.slice so q sc) (.slice wo A wc) (.slice bk I be) (.bool aa) (.bool gg) (.int .i64 nx) (.int .i64 hb) (.slice bc gf a8))).alloc zW∧W.heap[w.heap.size]?=some (bWd (.int .i64 bud) (.slice bj m bi) (.slice so q sc) (.slice wo A wc) (.slice bk I be) (.bool aa) (.bool gg) (.int .i64 nx) (.int .i64 hb) (.slice bc gf a8))∧W.heap[w.heap.size+1]?=some zW∧W.heap.size=w.heap.size+2∧Below w.heap.size w W):=by
  refine ⟨hW,?_,?_,?_,c9⟩
  ·rw [hW];exact (Zn _ _ (by simp)).trans (Zd _ _ rfl)
  ·rw [hW];exact Zd _ _ (by simp)
  ·rw [hW];simp
 have et:=Za (fun u (dz:Below W.heap.size W u)=>Zgg hb am bc gf a8 u ((ep.nx c9).nx dz) eh fb);have es:=Za (fun u (dz:Below W.heap.size W u)=>Zgg bud ps bj m bi u ((ek.nx c9).nx dz) ed fa);have HR:Hid (RowAt w (.slice so q sc) q (Zv ss)∧ss.length=q∧RowAt w (.slice wo A wc) A (ZE ao)∧ao.length=A∧RowAt w (.slice bk I be) I (Zo au)∧au.length=I):=⟨el,ee,em,ef,eo,eg⟩;clear ek ed el ee em ef eo eg ep eh hW c9;go_enter Tryz.func49,Tryz.ntmps49
 go_upto_region 1 with fail
 rw [←HW.out.1];obtain ⟨ah,ai,a2,a3,a4,a5,aj,ad,ae,af,ak⟩:=Zg HW.out.2.1;have dc:=HW.out.2.2.2.1;have bl:w.heap.size<W.heap.size:=by omega
 have HZ:=Za dc;clear dc;have fc:=Yg W _ ad;have fd:=Yg W _ ae;have fe:=Yg W _ af;go_cut [3] (fun bv fm=>∃ (d:Nat) (E:Option Addr) (D:Nat) (wz:World),bv=.pointer (some ⟨d,0,none⟩)∧Hid (W.heap.size≤d∧wz.heap[d]?=some (bWd (.int .i64 0) (.slice none 0 0) (.slice none 0 0) (.slice none 0 0) (.slice none 0 0) (.bool false) (.bool false) (.int .i64 nx) (.int .i64 hb) (.slice E gf D))∧wz.ownsRow W.heap.size 82 4 (.slice E gf D) gf (Ze am)∧Below W.heap.size W wz)∧wz=fm)
 case first =>
  go_region_held3 (fun w'=>w'.cell? ⟨w.heap.size,7,none⟩=some (.int .i64 nx)∧w'.cell? ⟨w.heap.size,8,none⟩=some (.int .i64 hb)∧w'.cell? ⟨w.heap.size,9,none⟩=some (.slice bc gf a8)) (go_keep)
   ((go_at_call 51;refine (et.out _ (by first | exact (Yh _ _).drew | exact (Yh _ _).drew.alloc (Yd _) _)).mono ?_;rintro e cb ⟨E,D,rfl,ei,c8⟩;have bx:Hid (Below W.heap.size W cb):=(by first | exact Zb (Yh _ _).drew c8 | exact Zb ((Yh _ _).drew.alloc (Yd _) _) c8);have dh:Hid (cb.ownsRow W.heap.size 82 4 (.slice E gf D) gf (Ze am)):=Zr ei (by simp);clear ei;have bw:=(bx.out.cell (p:=⟨w.heap.size,7,none⟩) bl).trans ad;have fg:=(bx.out.cell (p:=⟨w.heap.size,8,none⟩) bl).trans ae;have fh:=(bx.out.cell (p:=⟨w.heap.size,9,none⟩) bl).trans af;have fi:=Yg cb _ bw;have fj:=Yg cb _ fg;have fk:=Yg cb _ fh;first | (have df:Hid (cb.heap[W.heap.size]?=some zW):=(c8.block W.heap.size (by simp)).trans (Zd W zW rfl);obtain ⟨fu,fv,fw,fx,fy,fz,f0,f1,f3,f4,f5⟩:=Zg df.out) | skip;clear c8))
  all_goals
   go_wp2_with fail
   go_meet
   first
   | exact ⟨_,E,D,_,rfl,⟨bx.out.size,Zd _ _ rfl,Zx dh.out (Zc _ _),Zb bx.out (Zc _ _)⟩,rfl⟩
   | exact ⟨_,E,D,_,rfl,⟨Yd _,ZcV df.out _ _ _ _ _ _ _ _ _ _,ZbZ dh.out (Zaf dh.out df.out (by decide)) _ _ _ _ _ _ _ _ _ _,Zdw bx.out (Yd _) _ _ _ _ _ _ _ _ _ _⟩,rfl⟩
 case rest =>
  obtain ⟨d,E,D,fl,rfl,bf,rfl⟩:=hcut;clear ah ai a2 a3 a4 a5 aj ad ae af ak fc fd fe;obtain ⟨ah,ai,a2,a3,a4,a5,aj,ad,ae,af,ak⟩:=Zg (Zk HW.out.2.1 bf.out.2.2.2);go_wp2_with fail
  refine (es.out fl bf.out.2.2.2).mono ?_;rintro e dd ⟨M,L,rfl,db,ca⟩;have er:Hid (∀ g,(Value.slice M m L).ownBlock=some g→(Value.slice E gf D).ownBlock≠some g):=fun g bh al=>by have:=(db.lt g bh).1;have:=(bf.out.2.2.1.lt g al).2;omega
  have ch:dd.heap[d]?=some (bWd (.int .i64 0) (.slice none 0 0) (.slice none 0 0) (.slice none 0 0) (.slice none 0 0) (.bool false) (.bool false) (.int .i64 nx) (.int .i64 hb) (.slice E gf D)):=Zk bf.out.2.1 ca;obtain ⟨az,b0,e2,e3,e4,e5,b1,b6,b7,b8,b9⟩:=Zg ch;obtain ⟨U,hU⟩:∃ U,U=(dd.setCell ⟨d,0,none⟩ (.int .i64 bud)).setCell ⟨d,1,none⟩ (.slice M m L):=⟨_,rfl⟩;have fo:=bf.out.1;have dc:=HZ.out;have HU:Hid (U=(dd.setCell ⟨d,0,none⟩ (.int .i64 bud)).setCell ⟨d,1,none⟩ (.slice M m L)∧CP w (bWd (.int .i64 bud) (.slice bj m bi) (.slice so q sc) (.slice wo A wc) (.slice bk I be) (.bool aa) (.bool gg) (.int .i64 nx) (.int .i64 hb) (.slice bc gf a8)) d (bWd (.int .i64 bud) (.slice M m L) (.slice none 0 0) (.slice none 0 0) (.slice none 0 0) (.bool false) (.bool false) (.int .i64 nx) (.int .i64 hb) (.slice E gf D)) U∧(U.ownsRow w.heap.size 82 4 (.slice M m L) m (Ze ps)∧(Value.slice M m L).ownBlock≠some d)∧(U.ownsRow w.heap.size 82 4 (.slice E gf D) gf (Ze am)∧(Value.slice E gf D).ownBlock≠some d)):=by
   have ej:=Zx bf.out.2.2.1 ca;have np:=Zaf db ch (by decide);have d0:=Zaf ej ch (by decide);have am:∀ b,b≠d→U.heap[b]?=dd.heap[b]?:=fun b hb=>by rw [hU];exact (Yf _ _ _ _ hb).trans (Yf _ _ _ _ hb)
   refine ⟨hU,⟨(am _ (by omega)).trans (Zk (Zk HW.out.2.1 bf.out.2.2.2) ca),(am _ (by omega)).trans (Zk (Zk HW.out.2.2.1 bf.out.2.2.2) ca),?_,?_,by omega⟩,⟨?_,np⟩,⟨?_,d0⟩⟩
   ·rw [hU];exact ZhO (ZeO ch _) _
   ·rw [hU];exact ((Zb HW.out.2.2.2.2 (Zb bf.out.2.2.2 ca)).setCell (by show w.heap.size≤d;omega) _).setCell (by show w.heap.size≤d;omega) _
   ·rw [hU];exact Zr (Zab (Zab db np) np) (Ym HW.out.2.2.2.2.size bf.out.2.2.2.size)
   ·rw [hU];exact Zr (Zab (Zab ej d0) d0) HW.out.2.2.2.2.size
  clear hU db ca ch dc;go_upto_region 3 with fail
  rw [←HU.out.1];clear ah ai a2 a3 a4 a5 aj ad ae af ak az b0 e2 e3 e4 e5 b1 b6 b7 b8 b9;go_wp2_with fail
  have cd:=Za HU.out.2.1;have dm:=Za HU.out.2.2.1;have di:=Za HU.out.2.2.2;go_loopw [4] (fun i wr=>∃ (k:Nat) (O:Option Addr) (N:Nat),k≤q∧i=.int .i64 k∧Hid (wr.heap[d]?=some (bWd (.int .i64 bud) (.slice M m L) (.slice O k N) (.slice none 0 0) (.slice none 0 0) (.bool false) (.bool false) (.int .i64 nx) (.int .i64 hb) (.slice E gf D))∧wr.ownsRow U.heap.size 86 4 (.slice O k N) k (Zv (ss.take k))∧Chg (fun y=>y=d) U wr)) (fun i _=>q - (intOf i).toNat)
  case atStart=>exact ⟨0,none,0,Ye _,rfl,cd.out.h2,Yq _ _ _ _,Chg.refl _ _⟩
  case round =>
   obtain ⟨k,O,N,ea,rfl,J⟩:=hrel;have ag:=Za (cd.out.chg J.out.2.2 J.out.1);have ap:d<U.heap.size:=(Ya.1 cd.out.h2).1;have ci:=J.out.2.2.size;have cp:=cd.out.lo;obtain ⟨ah,ai,a2,a3,a4,a5,aj,ad,ae,af,ak⟩:=Zg ag.out.h0;by_cases bl:k<q
   ·obtain ⟨⟨aw,ax,bm,de⟩,bd⟩:∃ x,ss[k]?=some x:=⟨_,Yb (by rw [HR.out.2.1];exact bl)⟩;obtain ⟨V,off,cj,cl,bq,br,d2,d3⟩:=ZbA HR.out.1 bd;subst cj;have HX:Hid (ss.take (k+1)=ss.take k++[⟨aw,ax,bm,de⟩]):=by
     obtain ⟨co,e⟩:=Yc.1 bd;show _=_;rw [Yk co,e]
    have HK:Hid (∀ w1:World,(∀ b,b<wr.heap.size→some b≠(Value.slice O k N).ownBlock→w1.heap[b]?=wr.heap[b]?)→w1.cell? ⟨d,2,none⟩=some (.slice O k N)∧w1.frozen? ⟨d,2,none⟩=false∧w1.cell? ⟨w.heap.size,2,none⟩=some (.slice (some ⟨V,off,none⟩) q sc)∧w1.cell? ⟨V,off+k*4,none⟩=some (.int .i64 aw)∧w1.cell? ⟨V,off+k*4+1,none⟩=some (.string ax)∧w1.cell? ⟨V,off+k*4+2,none⟩=some (.int .i64 bm)∧w1.cell? ⟨V,off+k*4+3,none⟩=some (.int .i64 de)):=by
     intro w1 cr;have h:=rk J.out.2.2 J.out.2.1 cr;have e3:=(h d ap).trans J.out.1;have az:=(h w.heap.size (by omega)).trans ag.out.h0;have a7:w1.heap[V]?=w.heap[V]?:=(h V (by omega)).trans (ag.out.bel.block V cl);exact ⟨(Zg e3).2.2.1,(Zg e3).2.2.2.2.2.2.2.2.2.2 2,(Zg az).2.2.1,(Yn a7).trans bq,(Yn a7).trans br,(Yn a7).trans d2,(Yn a7).trans d3⟩
    clear bd ah ai a2 a3 a4 a5 aj ad ae af ak bq br d2 d3;have ec:(k:Int)<(q:Int):=by omega
    have d8:(0:Int)≤(k:Int):=by omega
    obtain ⟨cv,cw,cx,bv,cy,d1,ff⟩:=HK.out wr (fun _ _ _=>rfl);have ar:=J.out.2.1;have sA:∀ o,(wr.alloc o).cell? ⟨d,2,none⟩=some (.slice O k N):=fun o=>(HK.out (wr.alloc o) (fun j a9 _=>Zt _ _ a9)).1
    obtain ⟨c0,cm,cs,ct,cu⟩:=info_parts Zlt;go_upto_region 6 with fail
    go_region_law
     ((refine step_append_lies _ (by rfl) (.tmp 29) (.tmp 36) 40 (by rfl) U.heap.size 86 c0 _ 4 40 Tryz.underlying40 cm cs ct cu (by rfl) (by decide) _ k (Zv (ss.take k)) (by rfl) (ar.alloc _) ⟨wr.heap.size,0,none⟩ 1 1 [.int .i64 aw,.string ax,.int .i64 bm,.int .i64 de] (by rfl) (by rfl) (Zar _ [.int .i64 aw,.string ax,.int .i64 bm,.int .i64 de] _) (by intro u bu;simp at bu;rcases bu with rfl | rfl | rfl | rfl <;> rfl) (by omega) (by unfold maxLen;omega) (by omega) (by simp;omega) (wr.heap.size+1) (by simp) ?_;intro ac ab av bt aq ck eb;obtain ⟨cz,bw,_⟩:=HK.out av (fun j a9 cq=>(aq.block j (by simp;omega) cq).trans (Zt _ _ a9))))
    all_goals
     have cg:Hid ((av.setCell ⟨d,2,none⟩ (.slice (some ⟨ac,0,none⟩) (k+1) ab)).heap[d]?=some (bWd (.int .i64 bud) (.slice M m L) (.slice (some ⟨ac,0,none⟩) (k+1) ab) (.slice none 0 0) (.slice none 0 0) (.bool false) (.bool false) (.int .i64 nx) (.int .i64 hb) (.slice E gf D))∧(av.setCell ⟨d,2,none⟩ (.slice (some ⟨ac,0,none⟩) (k+1) ab)).ownsRow U.heap.size 86 4 (.slice (some ⟨ac,0,none⟩) (k+1) ab) (k+1) (Zv (ss.take (k+1)))∧Chg (fun y=>y=d) U (av.setCell ⟨d,2,none⟩ (.slice (some ⟨ac,0,none⟩) (k+1) ab))):=by
      refine ⟨ZhG ((Zd6 J.out.2.2.drew ar aq d ap).trans J.out.1) _,?_,ZeN J.out.2.2.drew ar aq⟩;rw [HX.out];unfold Zv;rw [List.flatMap_append];exact Yi bt ap _
     clear bt aq ck cz bw cv cw cx bv cy d1 ff sA ar;go_wp2_with fail
     go_roundw
     case rel=>exact ⟨k+1,some ⟨ac,0,none⟩,ab,by omega,by go_num,cg.out⟩
     case measure=>simp [intOf];omega
   ·have bs:k=q:=by omega
    have HE:Hid (CP w (bWd (.int .i64 bud) (.slice bj m bi) (.slice so q sc) (.slice wo A wc) (.slice bk I be) (.bool aa) (.bool gg) (.int .i64 nx) (.int .i64 hb) (.slice bc gf a8)) d (bWd (.int .i64 bud) (.slice M m L) (.slice O q N) (.slice none 0 0) (.slice none 0 0) (.bool false) (.bool false) (.int .i64 nx) (.int .i64 hb) (.slice E gf D)) wr∧wr.ownsRow w.heap.size 86 4 (.slice O q N) q (Zv ss)∧(Value.slice O q N).ownBlock≠some d∧Chg (fun y=>y=d) U wr):=by
     have bh:=ag.out;have al:=J.out.2.1;rw [bs] at bh al;rw [Yj (by rw [HR.out.2.1];exact Yd _)] at al;refine ⟨bh,Zr al cd.out.bel.size,fun e=>?_,J.out.2.2⟩;have:=(al.lt d e).1;omega
    clear bs ci cp;obtain ⟨a6,rfl⟩:∃ a6,a6=wr:=⟨_,rfl⟩;have ce:=Za HE.out.1;have dp:Hid (a6.ownsRow w.heap.size 82 4 (.slice M m L) m (Ze ps)∧(Value.slice M m L).ownBlock≠some d):=⟨Zbb dm.out.1 HE.out.2.2.2 dm.out.2,dm.out.2⟩;have dj:Hid (a6.ownsRow w.heap.size 82 4 (.slice E gf D) gf (Ze am)∧(Value.slice E gf D).ownBlock≠some d):=⟨Zbb di.out.1 HE.out.2.2.2 di.out.2,di.out.2⟩;have ds:=Za (And.intro HE.out.2.1 HE.out.2.2.1);clear HE J ag ap;go_wp2_with fail
    clear ah ai a2 a3 a4 a5 aj ad ae af ak;go_loopw [5] (fun i wr=>∃ (k:Nat) (R:Option Addr) (Q:Nat),k≤A∧i=.int .i64 k∧Hid (wr.heap[d]?=some (bWd (.int .i64 bud) (.slice M m L) (.slice O q N) (.slice R k Q) (.slice none 0 0) (.bool false) (.bool false) (.int .i64 nx) (.int .i64 hb) (.slice E gf D))∧wr.ownsRow a6.heap.size 88 2 (.slice R k Q) k (ZE (ao.take k))∧Chg (fun y=>y=d) a6 wr)) (fun i _=>A - (intOf i).toNat)
    case atStart=>exact ⟨0,none,0,Ye _,rfl,ce.out.h2,Yq _ _ _ _,Chg.refl _ _⟩
    case round =>
     obtain ⟨k,R,Q,ea,rfl,J⟩:=hrel;have ag:=Za (ce.out.chg J.out.2.2 J.out.1);have ap:d<a6.heap.size:=(Ya.1 ce.out.h2).1;have ci:=J.out.2.2.size;have cp:=ce.out.lo;obtain ⟨ah,ai,a2,a3,a4,a5,aj,ad,ae,af,ak⟩:=Zg ag.out.h0;by_cases bl:k<A
     ·obtain ⟨⟨aw,ax⟩,bd⟩:∃ x,ao[k]?=some x:=⟨_,Yb (by rw [HR.out.2.2.2.1];exact bl)⟩;obtain ⟨V,off,cj,cl,bq,br⟩:=Zdd HR.out.2.2.1 bd;subst cj;have HX:Hid (ao.take (k+1)=ao.take k++[⟨aw,ax⟩]):=by
       obtain ⟨co,e⟩:=Yc.1 bd;show _=_;rw [Yk co,e]
      have HK:Hid (∀ w1:World,(∀ b,b<wr.heap.size→some b≠(Value.slice R k Q).ownBlock→w1.heap[b]?=wr.heap[b]?)→w1.cell? ⟨d,3,none⟩=some (.slice R k Q)∧w1.frozen? ⟨d,3,none⟩=false∧w1.cell? ⟨w.heap.size,3,none⟩=some (.slice (some ⟨V,off,none⟩) A wc)∧w1.cell? ⟨V,off+k*2,none⟩=some (.int .i64 aw)∧w1.cell? ⟨V,off+k*2+1,none⟩=some (.string ax)):=by
       intro w1 cr;have h:=rk J.out.2.2 J.out.2.1 cr;have e3:=(h d ap).trans J.out.1;have az:=(h w.heap.size (by omega)).trans ag.out.h0;have a7:w1.heap[V]?=w.heap[V]?:=(h V (by omega)).trans (ag.out.bel.block V cl);exact ⟨(Zg e3).2.2.2.1,(Zg e3).2.2.2.2.2.2.2.2.2.2 3,(Zg az).2.2.2.1,(Yn a7).trans bq,(Yn a7).trans br⟩
      clear bd ah ai a2 a3 a4 a5 aj ad ae af ak bq br;have ec:(k:Int)<(A:Int):=by omega
      have d8:(0:Int)≤(k:Int):=by omega
      obtain ⟨cv,cw,cx,bv,cy⟩:=HK.out wr (fun _ _ _=>rfl);have ar:=J.out.2.1;have sA:∀ o,(wr.alloc o).cell? ⟨d,3,none⟩=some (.slice R k Q):=fun o=>(HK.out (wr.alloc o) (fun j a9 _=>Zt _ _ a9)).1
      obtain ⟨c0,cm,cs,ct,cu⟩:=info_parts Zlh;go_upto_region 10 with fail
      go_region_law
       ((refine step_append_lies _ (by rfl) (.tmp 50) (.tmp 57) 41 (by rfl) a6.heap.size 88 c0 _ 2 24 Tryz.underlying41 cm cs ct cu (by rfl) (by decide) _ k (ZE (ao.take k)) (by rfl) (ar.alloc _) ⟨wr.heap.size,0,none⟩ 1 1 [.int .i64 aw,.string ax] (by rfl) (by rfl) (Zar _ [.int .i64 aw,.string ax] _) (by intro u bu;simp at bu;rcases bu with rfl | rfl <;> rfl) (by omega) (by unfold maxLen;omega) (by omega) (by simp;omega) (wr.heap.size+1) (by simp) ?_;intro ac ab av bt aq ck eb;obtain ⟨cz,bw,_⟩:=HK.out av (fun j a9 cq=>(aq.block j (by simp;omega) cq).trans (Zt _ _ a9))))
      all_goals
       have cg:Hid ((av.setCell ⟨d,3,none⟩ (.slice (some ⟨ac,0,none⟩) (k+1) ab)).heap[d]?=some (bWd (.int .i64 bud) (.slice M m L) (.slice O q N) (.slice (some ⟨ac,0,none⟩) (k+1) ab) (.slice none 0 0) (.bool false) (.bool false) (.int .i64 nx) (.int .i64 hb) (.slice E gf D))∧(av.setCell ⟨d,3,none⟩ (.slice (some ⟨ac,0,none⟩) (k+1) ab)).ownsRow a6.heap.size 88 2 (.slice (some ⟨ac,0,none⟩) (k+1) ab) (k+1) (ZE (ao.take (k+1)))∧Chg (fun y=>y=d) a6 (av.setCell ⟨d,3,none⟩ (.slice (some ⟨ac,0,none⟩) (k+1) ab))):=by
        refine ⟨ZhQ ((Zd6 J.out.2.2.drew ar aq d ap).trans J.out.1) _,?_,ZeN J.out.2.2.drew ar aq⟩;rw [HX.out];unfold ZE;rw [List.flatMap_append];exact Yi bt ap _
       clear bt aq ck cz bw cv cw cx bv cy sA ar;go_wp2_with fail
       go_roundw
       case rel=>exact ⟨k+1,some ⟨ac,0,none⟩,ab,by omega,by go_num,cg.out⟩
       case measure=>simp [intOf];omega
     ·have bs:k=A:=by omega
      have HE:Hid (CP w (bWd (.int .i64 bud) (.slice bj m bi) (.slice so q sc) (.slice wo A wc) (.slice bk I be) (.bool aa) (.bool gg) (.int .i64 nx) (.int .i64 hb) (.slice bc gf a8)) d (bWd (.int .i64 bud) (.slice M m L) (.slice O q N) (.slice R A Q) (.slice none 0 0) (.bool false) (.bool false) (.int .i64 nx) (.int .i64 hb) (.slice E gf D)) wr∧wr.ownsRow w.heap.size 88 2 (.slice R A Q) A (ZE ao)∧(Value.slice R A Q).ownBlock≠some d∧Chg (fun y=>y=d) a6 wr):=by
       have bh:=ag.out;have al:=J.out.2.1;rw [bs] at bh al;rw [Yj (by rw [HR.out.2.2.2.1];exact Yd _)] at al;refine ⟨bh,Zr al ce.out.bel.size,fun e=>?_,J.out.2.2⟩;have:=(al.lt d e).1;omega
      clear bs ci cp;obtain ⟨ay,rfl⟩:∃ ay,ay=wr:=⟨_,rfl⟩;have cf:=Za HE.out.1;have dq:Hid (ay.ownsRow w.heap.size 82 4 (.slice M m L) m (Ze ps)∧(Value.slice M m L).ownBlock≠some d):=⟨Zbb dp.out.1 HE.out.2.2.2 dp.out.2,dp.out.2⟩;have dk:Hid (ay.ownsRow w.heap.size 82 4 (.slice E gf D) gf (Ze am)∧(Value.slice E gf D).ownBlock≠some d):=⟨Zbb dj.out.1 HE.out.2.2.2 dj.out.2,dj.out.2⟩;have dt:Hid (ay.ownsRow w.heap.size 86 4 (.slice O q N) q (Zv ss)∧(Value.slice O q N).ownBlock≠some d):=⟨Zbb ds.out.1 HE.out.2.2.2 ds.out.2,ds.out.2⟩;have dw:=Za (And.intro HE.out.2.1 HE.out.2.2.1);clear HE J ag ap;go_wp2_with fail
      clear ah ai a2 a3 a4 a5 aj ad ae af ak;go_loopw [6] (fun i wr=>∃ (k:Nat) (X:Option Addr) (Y:Nat),k≤I∧i=.int .i64 k∧Hid (wr.heap[d]?=some (bWd (.int .i64 bud) (.slice M m L) (.slice O q N) (.slice R A Q) (.slice X k Y) (.bool false) (.bool false) (.int .i64 nx) (.int .i64 hb) (.slice E gf D))∧wr.ownsRow ay.heap.size 84 3 (.slice X k Y) k (Zo (au.take k))∧Chg (fun y=>y=d) ay wr)) (fun i _=>I - (intOf i).toNat)
      case atStart=>exact ⟨0,none,0,Ye _,rfl,cf.out.h2,Yq _ _ _ _,Chg.refl _ _⟩
      case round =>
       obtain ⟨k,X,Y,ea,rfl,J⟩:=hrel;have ag:=Za (cf.out.chg J.out.2.2 J.out.1);have ap:d<ay.heap.size:=(Ya.1 cf.out.h2).1;have ci:=J.out.2.2.size;have cp:=cf.out.lo;obtain ⟨ah,ai,a2,a3,a4,a5,aj,ad,ae,af,ak⟩:=Zg ag.out.h0;by_cases bl:k<I
       ·obtain ⟨⟨aw,ax,bm⟩,bd⟩:∃ x,au[k]?=some x:=⟨_,Yb (by rw [HR.out.2.2.2.2.2];exact bl)⟩;obtain ⟨V,off,cj,cl,bq,br,d2⟩:=Zge HR.out.2.2.2.2.1 bd;subst cj;have HX:Hid (au.take (k+1)=au.take k++[⟨aw,ax,bm⟩]):=by
         obtain ⟨co,e⟩:=Yc.1 bd;show _=_;rw [Yk co,e]
        have HK:Hid (∀ w1:World,(∀ b,b<wr.heap.size→some b≠(Value.slice X k Y).ownBlock→w1.heap[b]?=wr.heap[b]?)→w1.cell? ⟨d,4,none⟩=some (.slice X k Y)∧w1.frozen? ⟨d,4,none⟩=false∧w1.cell? ⟨w.heap.size,4,none⟩=some (.slice (some ⟨V,off,none⟩) I be)∧w1.cell? ⟨V,off+k*3,none⟩=some (.int .i64 aw)∧w1.cell? ⟨V,off+k*3+1,none⟩=some (.string ax)∧w1.cell? ⟨V,off+k*3+2,none⟩=some (.int .i64 bm)):=by
         intro w1 cr;have h:=rk J.out.2.2 J.out.2.1 cr;have e3:=(h d ap).trans J.out.1;have az:=(h w.heap.size (by omega)).trans ag.out.h0;have a7:w1.heap[V]?=w.heap[V]?:=(h V (by omega)).trans (ag.out.bel.block V cl);exact ⟨(Zg e3).2.2.2.2.1,(Zg e3).2.2.2.2.2.2.2.2.2.2 4,(Zg az).2.2.2.2.1,(Yn a7).trans bq,(Yn a7).trans br,(Yn a7).trans d2⟩
        clear bd ah ai a2 a3 a4 a5 aj ad ae af ak bq br d2;have ec:(k:Int)<(I:Int):=by omega
        have d8:(0:Int)≤(k:Int):=by omega
        obtain ⟨cv,cw,cx,bv,cy,d1⟩:=HK.out wr (fun _ _ _=>rfl);have ar:=J.out.2.1;have sA:∀ o,(wr.alloc o).cell? ⟨d,4,none⟩=some (.slice X k Y):=fun o=>(HK.out (wr.alloc o) (fun j a9 _=>Zt _ _ a9)).1
        obtain ⟨c0,cm,cs,ct,cu⟩:=info_parts Zte;go_upto_region 14 with fail
        go_region_law
         ((refine step_append_lies _ (by rfl) (.tmp 71) (.tmp 78) 42 (by rfl) ay.heap.size 84 c0 _ 3 32 Tryz.underlying42 cm cs ct cu (by rfl) (by decide) _ k (Zo (au.take k)) (by rfl) (ar.alloc _) ⟨wr.heap.size,0,none⟩ 1 1 [.int .i64 aw,.string ax,.int .i64 bm] (by rfl) (by rfl) (Zar _ [.int .i64 aw,.string ax,.int .i64 bm] _) (by intro u bu;simp at bu;rcases bu with rfl | rfl | rfl <;> rfl) (by omega) (by unfold maxLen;omega) (by omega) (by simp;omega) (wr.heap.size+1) (by simp) ?_;intro ac ab av bt aq ck eb;obtain ⟨cz,bw,_⟩:=HK.out av (fun j a9 cq=>(aq.block j (by simp;omega) cq).trans (Zt _ _ a9))))
        all_goals
         have cg:Hid ((av.setCell ⟨d,4,none⟩ (.slice (some ⟨ac,0,none⟩) (k+1) ab)).heap[d]?=some (bWd (.int .i64 bud) (.slice M m L) (.slice O q N) (.slice R A Q) (.slice (some ⟨ac,0,none⟩) (k+1) ab) (.bool false) (.bool false) (.int .i64 nx) (.int .i64 hb) (.slice E gf D))∧(av.setCell ⟨d,4,none⟩ (.slice (some ⟨ac,0,none⟩) (k+1) ab)).ownsRow ay.heap.size 84 3 (.slice (some ⟨ac,0,none⟩) (k+1) ab) (k+1) (Zo (au.take (k+1)))∧Chg (fun y=>y=d) ay (av.setCell ⟨d,4,none⟩ (.slice (some ⟨ac,0,none⟩) (k+1) ab))):=by
          refine ⟨ZfY ((Zd6 J.out.2.2.drew ar aq d ap).trans J.out.1) _,?_,ZeN J.out.2.2.drew ar aq⟩;rw [HX.out];unfold Zo;rw [List.flatMap_append];exact Yi bt ap _
         clear bt aq ck cz bw cv cw cx bv cy d1 sA ar;go_wp2_with fail
         go_roundw
         case rel=>exact ⟨k+1,some ⟨ac,0,none⟩,ab,by omega,by go_num,cg.out⟩
         case measure=>simp [intOf];omega
       ·have bs:k=I:=by omega
        have HE:Hid (CP w (bWd (.int .i64 bud) (.slice bj m bi) (.slice so q sc) (.slice wo A wc) (.slice bk I be) (.bool aa) (.bool gg) (.int .i64 nx) (.int .i64 hb) (.slice bc gf a8)) d (bWd (.int .i64 bud) (.slice M m L) (.slice O q N) (.slice R A Q) (.slice X I Y) (.bool false) (.bool false) (.int .i64 nx) (.int .i64 hb) (.slice E gf D)) wr∧wr.ownsRow w.heap.size 84 3 (.slice X I Y) I (Zo au)∧(Value.slice X I Y).ownBlock≠some d∧Chg (fun y=>y=d) ay wr):=by
         have bh:=ag.out;have al:=J.out.2.1;rw [bs] at bh al;rw [Yj (by rw [HR.out.2.2.2.2.2];exact Yd _)] at al;refine ⟨bh,Zr al cf.out.bel.size,fun e=>?_,J.out.2.2⟩;have:=(al.lt d e).1;omega
        clear bs ci cp;obtain ⟨bo,rfl⟩:∃ bo,bo=wr:=⟨_,rfl⟩;have c6:=Za HE.out.1;have dr:Hid (bo.ownsRow w.heap.size 82 4 (.slice M m L) m (Ze ps)∧(Value.slice M m L).ownBlock≠some d):=⟨Zbb dq.out.1 HE.out.2.2.2 dq.out.2,dq.out.2⟩;have dl:Hid (bo.ownsRow w.heap.size 82 4 (.slice E gf D) gf (Ze am)∧(Value.slice E gf D).ownBlock≠some d):=⟨Zbb dk.out.1 HE.out.2.2.2 dk.out.2,dk.out.2⟩;have du:Hid (bo.ownsRow w.heap.size 86 4 (.slice O q N) q (Zv ss)∧(Value.slice O q N).ownBlock≠some d):=⟨Zbb dt.out.1 HE.out.2.2.2 dt.out.2,dt.out.2⟩;have dx:Hid (bo.ownsRow w.heap.size 88 2 (.slice R A Q) A (ZE ao)∧(Value.slice R A Q).ownBlock≠some d):=⟨Zbb dw.out.1 HE.out.2.2.2 dw.out.2,dw.out.2⟩;have dv:=Za (And.intro HE.out.2.1 HE.out.2.2.1);clear HE J ag ap;clear ah ai a2 a3 a4 a5 aj ad ae af ak;obtain ⟨bp,c7⟩:∃ bp,bp=bo.setCell ⟨d,5,none⟩ (.bool aa):=⟨_,rfl⟩;have cc:=Za (c6.out.chg (Chg.set (F:=fun y=>y=d) bo d 5 (.bool aa) rfl) (ZeL c6.out.h2 (.bool aa)));have a0:=Za (cc.out.chg (Chg.set (F:=fun y=>y=d) _ d 6 (.bool gg) rfl) (ZfT cc.out.h2 (.bool gg)));have a1:Hid ((bp.setCell ⟨d,6,none⟩ (.bool gg)).ownsRow w.heap.size 82 4 (.slice M m L) m (Ze ps)∧(bp.setCell ⟨d,6,none⟩ (.bool gg)).ownsRow w.heap.size 86 4 (.slice O q N) q (Zv ss)∧(bp.setCell ⟨d,6,none⟩ (.bool gg)).ownsRow w.heap.size 88 2 (.slice R A Q) A (ZE ao)∧(bp.setCell ⟨d,6,none⟩ (.bool gg)).ownsRow w.heap.size 84 3 (.slice X I Y) I (Zo au)∧(bp.setCell ⟨d,6,none⟩ (.bool gg)).ownsRow w.heap.size 82 4 (.slice E gf D) gf (Ze am)):=by
         rw [c7];exact ⟨Zab (Zab dr.out.1 dr.out.2) dr.out.2,Zab (Zab du.out.1 du.out.2) du.out.2,Zab (Zab dx.out.1 dx.out.2) dx.out.2,Zab (Zab dv.out.1 dv.out.2) dv.out.2,Zab (Zab dl.out.1 dl.out.2) dl.out.2⟩
        rw [←c7] at cc a0;have eu:=Za c7;clear c7;obtain ⟨ah,ai,a2,a3,a4,a5,aj,ad,ae,af,ak⟩:=Zg c6.out.h0;obtain ⟨az,b0,e2,e3,e4,e5,b1,b6,b7,b8,b9⟩:=Zg c6.out.h2;go_upto_region 16 with fail
        rw [←eu.out];clear ah ai a2 a3 a4 a5 aj ad ae af ak az b0 e2 e3 e4 e5 b1 b6 b7 b8 b9;obtain ⟨ah,ai,a2,a3,a4,a5,aj,ad,ae,af,ak⟩:=Zg cc.out.h0;obtain ⟨az,b0,e2,e3,e4,e5,b1,b6,b7,b8,b9⟩:=Zg cc.out.h2;obtain ⟨bg,dy⟩:∃ bg,bg=bp.setCell ⟨d,6,none⟩ (.bool gg):=⟨_,rfl⟩;rw [←dy] at a0 a1;have ev:=Za dy;clear dy;go_upto_region 17 with fail
        rw [←ev.out];clear ah ai a2 a3 a4 a5 aj ad ae af ak az b0 e2 e3 e4 e5 b1 b6 b7 b8 b9;obtain ⟨az,b0,e2,e3,e4,e5,b1,b6,b7,b8,b9⟩:=Zg a0.out.h2;obtain ⟨f6,fi,fj,fk,f7,f8,f9,ga,gb,gc,gd⟩:=Zg a0.out.h1;have d7:Hid ((((((((((((bg.setCell ⟨w.heap.size+1,0,none⟩ (.int .i64 bud)).setCell ⟨w.heap.size+1,1,none⟩ (.slice M m L)).setCell ⟨w.heap.size+1,2,none⟩ (.slice O q N)).setCell ⟨w.heap.size+1,3,none⟩ (.slice R A Q)).setCell ⟨w.heap.size+1,4,none⟩ (.slice X I Y)).setCell ⟨w.heap.size+1,5,none⟩ (.bool aa)).setCell ⟨w.heap.size+1,6,none⟩ (.bool gg)).setCell ⟨w.heap.size+1,7,none⟩ (.int .i64 nx)).setCell ⟨w.heap.size+1,8,none⟩ (.int .i64 hb)).setCell ⟨w.heap.size+1,9,none⟩ (.slice E gf D))).heap[w.heap.size+1]?=some (bWd (.int .i64 bud) (.slice M m L) (.slice O q N) (.slice R A Q) (.slice X I Y) (.bool aa) (.bool gg) (.int .i64 nx) (.int .i64 hb) (.slice E gf D))):=ZcV a0.out.h1 _ _ _ _ _ _ _ _ _ _;have d6:Hid (Below w.heap.size w (((((((((((bg.setCell ⟨w.heap.size+1,0,none⟩ (.int .i64 bud)).setCell ⟨w.heap.size+1,1,none⟩ (.slice M m L)).setCell ⟨w.heap.size+1,2,none⟩ (.slice O q N)).setCell ⟨w.heap.size+1,3,none⟩ (.slice R A Q)).setCell ⟨w.heap.size+1,4,none⟩ (.slice X I Y)).setCell ⟨w.heap.size+1,5,none⟩ (.bool aa)).setCell ⟨w.heap.size+1,6,none⟩ (.bool gg)).setCell ⟨w.heap.size+1,7,none⟩ (.int .i64 nx)).setCell ⟨w.heap.size+1,8,none⟩ (.int .i64 hb)).setCell ⟨w.heap.size+1,9,none⟩ (.slice E gf D)))):=Zdw a0.out.bel (by omega) _ _ _ _ _ _ _ _ _ _;have bz:Hid ((((((((((((bg.setCell ⟨w.heap.size+1,0,none⟩ (.int .i64 bud)).setCell ⟨w.heap.size+1,1,none⟩ (.slice M m L)).setCell ⟨w.heap.size+1,2,none⟩ (.slice O q N)).setCell ⟨w.heap.size+1,3,none⟩ (.slice R A Q)).setCell ⟨w.heap.size+1,4,none⟩ (.slice X I Y)).setCell ⟨w.heap.size+1,5,none⟩ (.bool aa)).setCell ⟨w.heap.size+1,6,none⟩ (.bool gg)).setCell ⟨w.heap.size+1,7,none⟩ (.int .i64 nx)).setCell ⟨w.heap.size+1,8,none⟩ (.int .i64 hb)).setCell ⟨w.heap.size+1,9,none⟩ (.slice E gf D))).ownsRow w.heap.size 82 4 (.slice M m L) m (Ze ps)∧(((((((((((bg.setCell ⟨w.heap.size+1,0,none⟩ (.int .i64 bud)).setCell ⟨w.heap.size+1,1,none⟩ (.slice M m L)).setCell ⟨w.heap.size+1,2,none⟩ (.slice O q N)).setCell ⟨w.heap.size+1,3,none⟩ (.slice R A Q)).setCell ⟨w.heap.size+1,4,none⟩ (.slice X I Y)).setCell ⟨w.heap.size+1,5,none⟩ (.bool aa)).setCell ⟨w.heap.size+1,6,none⟩ (.bool gg)).setCell ⟨w.heap.size+1,7,none⟩ (.int .i64 nx)).setCell ⟨w.heap.size+1,8,none⟩ (.int .i64 hb)).setCell ⟨w.heap.size+1,9,none⟩ (.slice E gf D))).ownsRow w.heap.size 86 4 (.slice O q N) q (Zv ss)∧(((((((((((bg.setCell ⟨w.heap.size+1,0,none⟩ (.int .i64 bud)).setCell ⟨w.heap.size+1,1,none⟩ (.slice M m L)).setCell ⟨w.heap.size+1,2,none⟩ (.slice O q N)).setCell ⟨w.heap.size+1,3,none⟩ (.slice R A Q)).setCell ⟨w.heap.size+1,4,none⟩ (.slice X I Y)).setCell ⟨w.heap.size+1,5,none⟩ (.bool aa)).setCell ⟨w.heap.size+1,6,none⟩ (.bool gg)).setCell ⟨w.heap.size+1,7,none⟩ (.int .i64 nx)).setCell ⟨w.heap.size+1,8,none⟩ (.int .i64 hb)).setCell ⟨w.heap.size+1,9,none⟩ (.slice E gf D))).ownsRow w.heap.size 88 2 (.slice R A Q) A (ZE ao)∧(((((((((((bg.setCell ⟨w.heap.size+1,0,none⟩ (.int .i64 bud)).setCell ⟨w.heap.size+1,1,none⟩ (.slice M m L)).setCell ⟨w.heap.size+1,2,none⟩ (.slice O q N)).setCell ⟨w.heap.size+1,3,none⟩ (.slice R A Q)).setCell ⟨w.heap.size+1,4,none⟩ (.slice X I Y)).setCell ⟨w.heap.size+1,5,none⟩ (.bool aa)).setCell ⟨w.heap.size+1,6,none⟩ (.bool gg)).setCell ⟨w.heap.size+1,7,none⟩ (.int .i64 nx)).setCell ⟨w.heap.size+1,8,none⟩ (.int .i64 hb)).setCell ⟨w.heap.size+1,9,none⟩ (.slice E gf D))).ownsRow w.heap.size 84 3 (.slice X I Y) I (Zo au)∧(((((((((((bg.setCell ⟨w.heap.size+1,0,none⟩ (.int .i64 bud)).setCell ⟨w.heap.size+1,1,none⟩ (.slice M m L)).setCell ⟨w.heap.size+1,2,none⟩ (.slice O q N)).setCell ⟨w.heap.size+1,3,none⟩ (.slice R A Q)).setCell ⟨w.heap.size+1,4,none⟩ (.slice X I Y)).setCell ⟨w.heap.size+1,5,none⟩ (.bool aa)).setCell ⟨w.heap.size+1,6,none⟩ (.bool gg)).setCell ⟨w.heap.size+1,7,none⟩ (.int .i64 nx)).setCell ⟨w.heap.size+1,8,none⟩ (.int .i64 hb)).setCell ⟨w.heap.size+1,9,none⟩ (.slice E gf D))).ownsRow w.heap.size 82 4 (.slice E gf D) gf (Ze am)):=
         ⟨ZbZ a1.out.1 (Zaf a1.out.1 a0.out.h1 (by decide)) _ _ _ _ _ _ _ _ _ _,ZbZ a1.out.2.1 (Zaf a1.out.2.1 a0.out.h1 (by decide)) _ _ _ _ _ _ _ _ _ _,ZbZ a1.out.2.2.1 (Zaf a1.out.2.2.1 a0.out.h1 (by decide)) _ _ _ _ _ _ _ _ _ _,ZbZ a1.out.2.2.2.1 (Zaf a1.out.2.2.2.1 a0.out.h1 (by decide)) _ _ _ _ _ _ _ _ _ _,ZbZ a1.out.2.2.2.2 (Zaf a1.out.2.2.2.2 a0.out.h1 (by decide)) _ _ _ _ _ _ _ _ _ _⟩
        go_wp2_with fail
        obtain ⟨FW,d9⟩:∃ FW,((((((((((bg.setCell ⟨w.heap.size+1,0,none⟩ (.int .i64 bud)).setCell ⟨w.heap.size+1,1,none⟩ (.slice M m L)).setCell ⟨w.heap.size+1,2,none⟩ (.slice O q N)).setCell ⟨w.heap.size+1,3,none⟩ (.slice R A Q)).setCell ⟨w.heap.size+1,4,none⟩ (.slice X I Y)).setCell ⟨w.heap.size+1,5,none⟩ (.bool aa)).setCell ⟨w.heap.size+1,6,none⟩ (.bool gg)).setCell ⟨w.heap.size+1,7,none⟩ (.int .i64 nx)).setCell ⟨w.heap.size+1,8,none⟩ (.int .i64 hb)).setCell ⟨w.heap.size+1,9,none⟩ (.slice E gf D))=FW:=⟨_,rfl⟩;rw [d9] at d7 d6 bz ⊢;obtain ⟨ew,ey,f2,ez,e0,e1,e6,e7,e8,e9,fn⟩:=Zg d7.out;clear d9;refine bodyPost_ret (v:=.agg #[.int .i64 bud,.slice M m L,.slice O q N,.slice R A Q,.slice X I Y,.bool aa,.bool gg,.int .i64 nx,.int .i64 hb,.slice E gf D]) (by simp [results,Tryz.results49,go_sem,ew,ey,f2,ez,e0,e1,e6,e7,e8,e9]) rfl ⟨M,L,O,N,R,Q,X,Y,E,D,rfl,bz.out.1,bz.out.2.1,bz.out.2.2.1,bz.out.2.2.2.1,bz.out.2.2.2.2,d6.out,er.out⟩
abbrev wdA (S:Zh) (u:ZA) (nx:Int) (Y:Int×List Pl) (ho:Option Addr) (hc:Nat):Value:=
 .agg #[.int .i64 S.bud,.slice u.po S.pools.length u.pc,.slice u.so S.srv.length u.sc,.slice u.wo S.wts.length u.wc,.slice u.tqo S.plan.length u.tc,.bool S.begun,.bool S.back,.int .i64 nx,.int .i64 Y.1,.slice ho Y.2.length hc]
def Zes (S:Zh) (u:ZA) (Y:Int×List Pl) (ho:Option Addr) (hc:Nat) (g:Nat):Prop:=Blk S u g∨(Value.slice ho Y.2.length hc).ownBlock=some g
structure WdAt (w:World) (S:Zh) (u:ZA) (Y:Int×List Pl) (ho:Option Addr) (hc:Nat):Prop where
 sta:StaAt w S u
 hom:RowAt w (.slice ho Y.2.length hc) Y.2.length (Ze Y.2)
 lt:∀ g,Zes S u Y ho hc g→g<w.heap.size
theorem WdAt.keep {w E:World} {S:Zh} {u:ZA} {q:Int×List Pl} {D:Option Addr} {A:Nat} {G:Nat→Prop} (h:WdAt w S u q D A) (m:Chg G w E) (hd:∀ g,Zes S u q D A g→¬G g):WdAt E S u q D A:=
 ⟨h.sta.keep m (fun g d=>h.lt g (.inl d)) (fun g d=>hd g (.inl d)),Ze3 h.hom m.size (fun g d=>m.block g (h.lt g (.inr d)) (hd g (.inr d))),fun g d=>Yl (h.lt g d) m.size⟩
theorem WdAt.nx {w A:World} {S:Zh} {u:ZA} {h:Int×List Pl} {q:Option Addr} {m:Nat} (d:WdAt w S u h q m) (hb:Below w.heap.size w A):WdAt A S u h q m:=d.keep (G:=fun _=>False) (Chg.of_below hb) (fun _ _ d=>d)
structure RefG (w w':World) (S:Zh) (u:ZA) (Y:Int×List Pl) (ho:Option Addr) (hc:Nat) (T:Zh) (v:ZA) (Z:Int×List Pl) (ho':Option Addr) (hc':Nat):Prop where
 at':WdAt w' T v Z ho' hc'
 blk:∀ g,Zes T v Z ho' hc' g→Zes S u Y ho hc g∨w.heap.size≤g
 bel:Below w.heap.size w w'
theorem RefG.same {w q:World} {S:Zh} {u:ZA} {d:Int×List Pl} {m:Option Addr} {D:Nat} (h:WdAt w S u d m D) (hb:Below w.heap.size w q):RefG w q S u d m D S u d m D:=⟨h.nx hb,fun _ A=>.inl A,hb⟩
structure RefOk (S:Zh) (op:Int) (Y:Int×List Pl):Prop where
 ok:Ok S op
 pot1:pot (S,op)+1≤549755813888
 pools:S.pools.length≤1000
 plan:S.plan.length≤1000
 home:Y.2.length≤1000
theorem RefOk.num {S:Zh} {op:Int} {m:Int×List Pl} (d:RefOk S op m):S.srv.length≤549755813888∧S.wts.length≤549755813888∧S.srv.length+S.wts.length+1≤549755813888∧0≤op+1∧op+1+S.wts.length+1≤4611686018427387904:=by
 have q:=d.ok.inv.len;have A:=d.ok.inv.op0;have h:=d.pot1;unfold pot at h;simp only at h;omega
end Lw
end Go.Proofs.YtmgkcbdlfodjmaaGreatDoor
