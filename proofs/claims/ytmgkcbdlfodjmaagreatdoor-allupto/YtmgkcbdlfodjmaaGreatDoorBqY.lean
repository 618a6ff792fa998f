import Derived.Test.YtmgkcbdlfodjmaaGreatDoorBqX
set_option maxRecDepth 100000
set_option maxHeartbeats 16000000
namespace Go.Proofs.YtmgkcbdlfodjmaaGreatDoor
open Go.RowKit
namespace Lw
open Co
abbrev bOp (k A B:Int) (s:ByteArray):Obj:=.cells #[.int .i64 k,.int .i64 A,.int .i64 B,.string s] 32
theorem Za0 {w:World} {g:Nat} {d c1 c2 c3 c4 c5 m q A D E:Value} {t:TypeId} (h:w.heap[g]?=some (.cells #[d,c1,c2,c3,c4,c5,m,q,A,D,E] t (0,0))) :
  w.cell? ⟨g,0,none⟩=some d∧w.cell? ⟨g,1,none⟩=some c1∧w.cell? ⟨g,2,none⟩=some c2∧w.cell? ⟨g,3,none⟩=some c3∧w.cell? ⟨g,4,none⟩=some c4∧w.cell? ⟨g,5,none⟩=some c5∧w.cell? ⟨g,6,none⟩=some m∧w.cell? ⟨g,7,none⟩=some q∧w.cell? ⟨g,8,none⟩=some A∧w.cell? ⟨g,9,none⟩=some D∧w.cell? ⟨g,10,none⟩=some E:=by
 refine ⟨?_,?_,?_,?_,?_,?_,?_,?_,?_,?_,?_⟩ <;> simp [World.cell?,h]
theorem Ze5 {w:World} {g:Nat} {d:Array Value} {t:TypeId} (h:w.heap[g]?=some (.cells d t (0,0))):∀ a,w.frozen? ⟨g,a,none⟩=false:=fun a=>by simp [World.frozen?,h]
theorem Zbq {w:World} {g:Nat} {d c1 c2 c3:Value} {t:TypeId} (h:w.heap[g]?=some (.cells #[d,c1,c2,c3] t (0,0))) :
  w.cell? ⟨g,0,none⟩=some d∧w.cell? ⟨g,1,none⟩=some c1∧w.cell? ⟨g,2,none⟩=some c2∧w.cell? ⟨g,3,none⟩=some c3:=by
 refine ⟨?_,?_,?_,?_⟩ <;> simp [World.cell?,h]
theorem Zan {w d:World} {m g:Nat} {S:Zh} {D:ZB} {F:Nat→Prop} (h:Moved w d m S D F) (A:g<w.heap.size) (hF:¬F g):d.heap[g]?=w.heap[g]?:=by
 obtain ⟨_,_,_,q⟩:=h;exact q.block g A hF
theorem Zbx {w w1 E:World} {S:Zh} {u:ZA} {h:Int×List Pl} {A:Option Addr} {m:Nat} {T:Zh} {v:ZA} {Z:Int×List Pl} {D:Option Addr} {q:Nat} (hb:Below w.heap.size w w1) (d:RefG w1 E S u h A m T v Z D q):RefG w E S u h A m T v Z D q:=
 ⟨d.at',fun g I=>(d.blk g I).imp (fun x=>x) (fun x=>Ym hb.size x),Zb hb d.bel⟩
structure BoxW (w:World) (S:Zh) (u:ZA) (Y:Int×List Pl) (ho:Option Addr) (hc:Nat) (T:Zh) (v:ZA) (Z:Int×List Pl) (nx:Int) (ho':Option Addr) (hc':Nat) (g:Nat) (wz:World):Prop where
 new:w.heap.size≤g
 box:wz.heap[g]?=some (bWd (.int .i64 T.bud) (.slice v.po T.pools.length v.pc) (.slice v.so T.srv.length v.sc) (.slice v.wo T.wts.length v.wc) (.slice v.tqo T.plan.length v.tc) (.bool T.begun) (.bool T.back) (.int .i64 nx) (.int .i64 Z.1) (.slice ho' Z.2.length hc'))
 bel:Below w.heap.size w wz
 ref:RefG w wz S u Y ho hc T v Z ho' hc'
theorem Ze7 {w q:World} {S:Zh} {u:ZA} {A:Int×List Pl} {E:Option Addr} {D:Nat} {T:Zh} {v:ZA} {Z:Int×List Pl} {nx:Int} {m:Option Addr} {h:Nat} (d:RefG w q S u A E D T v Z m h):BoxW w S u A E D T v Z nx m h q.heap.size (q.alloc (bWd (.int .i64 T.bud) (.slice v.po T.pools.length v.pc) (.slice v.so T.srv.length v.sc) (.slice v.wo T.wts.length v.wc) (.slice v.tqo T.plan.length v.tc) (.bool T.begun) (.bool T.back) (.int .i64 nx) (.int .i64 Z.1) (.slice m Z.2.length h))):=
 ⟨d.bel.size,Zd _ _ rfl,Zb d.bel (Zc _ _),⟨d.at'.nx (Zc _ _),d.blk,Zb d.bel (Zc _ _)⟩⟩
theorem Zhp {w A:World} {S:Zh} {u:ZA} {D:Int×List Pl} {I:Option Addr} {E:Nat} {T:Zh} {v:ZA} {Z:Int×List Pl} {nx:Int} {q:Option Addr} {m:Nat} (L:RefG (w.drew.alloc zW) A S u D I E T v Z q m) (U:A.heap[w.heap.size]?=some zW) (O:∀ g,Zes S u D I E g→g<w.heap.size):BoxW w S u D I E T v Z nx q m w.heap.size (ZK A w.heap.size (.int .i64 T.bud) (.slice v.po T.pools.length v.pc) (.slice v.so T.srv.length v.sc) (.slice v.wo T.wts.length v.wc) (.slice v.tqo T.plan.length v.tc) (.bool T.begun) (.bool T.back) (.int .i64 nx) (.int .i64 Z.1) (.slice q Z.2.length m)):=by
 have h:RefG w A S u D I E T v Z q m:=Zbx ((Yh _ _).drew.alloc (Yd _) _) L;have Q:∀ g,Zes T v Z q m g→g≠w.heap.size:=fun g N e=>by
  rcases L.blk g N with J | J
  ·have:=O g J;omega
  ·have V:(w.drew.alloc zW).heap.size=w.heap.size+1:=by rw [show (w.drew.alloc zW).heap=(w.alloc zW).heap from rfl];simp
   omega
 have hb:=Zdw h.bel (Yd w.heap.size) (.int .i64 T.bud) (.slice v.po T.pools.length v.pc) (.slice v.so T.srv.length v.sc) (.slice v.wo T.wts.length v.wc) (.slice v.tqo T.plan.length v.tc) (.bool T.begun) (.bool T.back) (.int .i64 nx) (.int .i64 Z.1) (.slice q Z.2.length m);have M:Chg (fun y=>y=w.heap.size) A (ZK A w.heap.size (.int .i64 T.bud) (.slice v.po T.pools.length v.pc) (.slice v.so T.srv.length v.sc) (.slice v.wo T.wts.length v.wc) (.slice v.tqo T.plan.length v.tc) (.bool T.begun) (.bool T.back) (.int .i64 nx) (.int .i64 Z.1) (.slice q Z.2.length m)):=by
  have d:∀ (x:World) (a:Nat) (y:Value),Chg (fun y=>y=w.heap.size) x (x.setCell ⟨w.heap.size,a,none⟩ y):=fun x a y=>Chg.set (F:=fun y=>y=w.heap.size) x w.heap.size a y rfl
  have X:∀ {a b c:World},Chg (fun y=>y=w.heap.size) a b→Chg (fun y=>y=w.heap.size) b c→Chg (fun y=>y=w.heap.size) a c:=fun h k=>h.trans k (fun _ R=>.inl R)
  exact X (X (X (X (X (X (X (X (X (d _ _ _) (d _ _ _)) (d _ _ _)) (d _ _ _)) (d _ _ _)) (d _ _ _)) (d _ _ _)) (d _ _ _)) (d _ _ _)) (d _ _ _)
 exact ⟨Yd _,ZcV U _ _ _ _ _ _ _ _ _ _,hb,⟨h.at'.keep M Q,h.blk,hb⟩⟩
theorem BoxW.take {w wz:World} {V L J:Nat} {A:Zh} {E:ZB} {S:Zh} {nx:Int} {I:Int×List Pl} {D F:Nat→Prop} {u:ZA} {N:Option Addr} {M O Q R:Nat} {T:Zh} {v:ZA} {Z:Int×List Pl} {d:Int} {q:Option Addr} {m g:Nat} (U:BoxW w S u I N M T v Z d q m g wz) (h:Run w V L J A E S nx I D F u N M O Q R) :
  Run (stw wz V (.int .i64 T.bud) (.slice v.po T.pools.length v.pc) (.slice v.so T.srv.length v.sc) (.slice v.wo T.wts.length v.wc) (.slice v.tqo T.plan.length v.tc) (.bool T.begun) (.bool T.back) (.int .i64 d) (.int .i64 Z.1) (.slice q Z.2.length m)) V L J A E T d Z D F v q m O Q R:=
 h.taken U.ref (Yh _ _) d
def Zg1 (r:Res) (gx gp go:Nat) (Y:Int×List Pl) (Fp F:Nat→Prop) (q1 q2 q4:Nat) (X:ZB) (w w':World) (e:Ending):Prop:=
 e=.returned (.bool true)∧(∃ Fp' u' ho' hc',Run w' gx gp go r.S {X with op:=r.op} r.S (r.op+1) Y Fp' F u' ho' hc' q1 q2 q4∧∀ y,Fp' y→Fp y∨w.heap.size≤y)∧Chg (fun y=>Fp y∨y=gx) w w'
theorem Zjh {d:Res} {A:Zh} {t q:Int} {m:Nat} (h:d.S=A∧d.op=t∧d.id=q∧d.err=m):d=⟨A,t,q,m⟩:=by
 cases d;obtain ⟨rfl,rfl,rfl,rfl⟩:=h;rfl
theorem Ztd (d M go:Nat) (S:Zh) (q:ZB) (ea:Int×List Pl) (I F:Nat→Prop) (u:ZA) (Q:Option Addr) (N:Nat) (bd be bv:Nat) (w:World) (A B:Int) (s:ByteArray) (h:Run w d M go S q S (q.op+1) ea I F u Q N bd be bv) (ap:RefOk S q.op ea) (bt:ZaW S q.op) :
  Calls Tryz.prog 15 #[.pointer (some ⟨d,0,none⟩),.agg #[.int .i64 1,.int .i64 A,.int .i64 B,.string s]] w fun e m=>Zg1 (ZaD S q.op A s) d M go ea I F bd be bv q w m e:=by
 obtain ⟨bs,_,_⟩:=(ZoD ap.ok.inv bt A s);obtain ⟨eb,au⟩:∃ eb,eb=w.alloc (bOp 1 A B s):=⟨_,rfl⟩;have av:Below w.heap.size w eb:=by rw [au];exact Zc _ _
 have Y:Hid (eb=w.alloc (bOp 1 A B s)∧eb.heap[w.heap.size]?=some (bOp 1 A B s)∧Below w.heap.size w eb):=⟨au,by rw [au];exact Zd _ _ rfl,av⟩;have a0:=Za (h.below av);have hd:∀ V,Below eb.heap.size eb V→DeskAt V M S q I:=fun V a7=>(h.below (Zb av a7)).desk
 obtain ⟨⟨D,t,id,am⟩,aw⟩:∃ r,(ZaD S q.op A s)=r:=⟨_,rfl⟩;have br:(Zce S (q.op+1) A s).S=D∧(Zce S (q.op+1) A s).op=t+1∧(Zce S (q.op+1) A s).id=id∧(Zce S (q.op+1) A s).err=am:=by
  obtain ⟨bw,s2,s3,bx⟩:=bs;rw [aw] at bw s2 s3 bx;exact ⟨bw.symm,s2.symm,s3.symm,bx.symm⟩
 have b8:Hid (∀ V,Below eb.heap.size eb V→Calls Tryz.prog 38 #[.pointer (some ⟨M,0,none⟩),.int .i64 A,.string s] V fun e m=>e=.returned (.tuple #[.int .i64 id,.int .i64 (am:Int)])∧Moved V m M D {q with op:=t} I):=by
  intro V a7;have:=Zt4 M A s S q I V (hd V a7) ap.ok ap.pot1;rw [aw] at this;exact this
 have ca:Hid (∀ v,WdAt v S u ea Q N→Calls Tryz.prog 39 #[wdA S u (q.op+1) ea Q N,.int .i64 A,.string s] v fun e m=>∃ U R O,e=.returned (.tuple #[wdA D U (t+1) ea R O,.int .i64 id,.int .i64 (am:Int)])∧RefG v m S u ea Q N D U ea R O):=by
  intro v a8;have:=ZsZ A s S q.op ea u Q N v a8 ap;rw [Zjh br] at this;exact this
 have b0:=Za aw;have az:Hid (¬I d∧¬I w.heap.size):=⟨h.dxp,fun cd=>by have:=h.desk.lt _ cd;omega⟩;clear h ap bt bs au av hd aw br;obtain ⟨ar,ab,ad,ae,af,ag,ah,ai,aj,ak,ac⟩:=Za0 a0.out.pr;obtain ⟨a1,aa,b2,b3⟩:=Zbq Y.out.2.1;have ce:=a0.out.lt;have bu:w.heap.size<eb.heap.size:=(Ya.1 Y.out.2.1).1;go_enter Tryz.func15,Tryz.ntmps15
 go_upto_region 3 with fail
 rw [←Y.out.1];go_cut [5,6] (fun bf v bh=>bf=.int .i64 id∧v=.int .i64 (am:Int)∧∃ d9,Hid (Moved eb d9 M D {q with op:=t} I)∧d9=bh)
 case first =>
  go_region_held3 (fun m=>m.cell? ⟨d,0,none⟩=some (.pointer (some ⟨M,0,none⟩))∧m.cell? ⟨w.heap.size,1,none⟩=some (.int .i64 A)∧m.cell? ⟨w.heap.size,3,none⟩=some (.string s)) (go_keep)
   ((go_at_call 38;refine (b8.out _ ((Yh _ _).drew)).mono ?_;rintro e bg ⟨rfl,bp⟩;have ax:Hid (Moved eb bg M D {q with op:=t} I):=Moved.after (Yh _ _).drew bp;have cb:Hid (bg.heap[d]?=eb.heap[d]?):=Zan ax.out ce az.out.1;have bk:Hid (bg.heap[w.heap.size]?=eb.heap[w.heap.size]?):=Zan ax.out bu az.out.2;have bd:=(Yn (a:=⟨d,0,none⟩) cb.out).trans ar;have be:=(Yn (a:=⟨w.heap.size,1,none⟩) bk.out).trans aa;have d7:=(Yn (a:=⟨w.heap.size,3,none⟩) bk.out).trans b3;clear bp))
  all_goals
   go_wp2_with fail
   go_meet
   exact ⟨rfl,rfl,_,ax.out,rfl⟩
 case rest =>
  obtain ⟨rfl,rfl,d9,ay,rfl⟩:=hcut;obtain ⟨bz,bq,bo⟩:=a0.out.moved ay.out;have X:=Za bq;have b6:Hid (∀ y,bz y→I y∨w.heap.size≤y):=fun y bc=>(bo y bc).imp (fun x=>x) (fun x=>Ym Y.out.2.2.size x)
  have bm:Hid (d9.heap[w.heap.size]?=some (bOp 1 A B s)):=(Zan ay.out bu az.out.2).trans Y.out.2.1;clear ar ab ad ae af ag ah ai aj ak ac a1 aa b2 b3 bq bo;obtain ⟨ar,ab,ad,ae,af,ag,ah,ai,aj,ak,ac⟩:=Za0 X.out.pr;obtain ⟨a1,aa,b2,b3⟩:=Zbq bm.out;have L:=X.out.lt;have a9:w.heap.size<d9.heap.size:=(Ya.1 bm.out).1;have c8:=Yg d9 _ ab;have dd:=Yg d9 _ ad;have de:=Yg d9 _ ae;have df:=Yg d9 _ af;have dh:=Yg d9 _ ag;have di:=Yg d9 _ ah;have dj:=Yg d9 _ ai;have dk:=Yg d9 _ aj;have dl:=Yg d9 _ ak;have c9:=Yg d9 _ ac;have db:=Yg d9 _ aa;have dc:=Yg d9 _ b3;have bl:=Za (fun v (a8:Below d9.heap.size d9 v)=>ca.out v (X.out.ref.nx a8));simp only [wdA] at bl;go_upto_region 4 with fail
  go_cut [7,8,9] (fun p bf v bh=>bf=.int .i64 id∧v=.int .i64 (am:Int)∧∃ (g:Nat) (U:ZA) (R:Option Addr) (O:Nat) (wz:World),p=.pointer (some ⟨g,0,none⟩)∧Hid (BoxW d9 S u ea Q N D U ea (t+1) R O g wz)∧wz=bh)
  case first =>
   go_region_held3 (fun m=>m.cell? ⟨d,1,none⟩=some (.int .i64 S.bud)∧m.cell? ⟨d,2,none⟩=some (.slice u.po S.pools.length u.pc)∧m.cell? ⟨d,3,none⟩=some (.slice u.so S.srv.length u.sc)∧m.cell? ⟨d,4,none⟩=some (.slice u.wo S.wts.length u.wc)∧m.cell? ⟨d,5,none⟩=some (.slice u.tqo S.plan.length u.tc)∧m.cell? ⟨d,6,none⟩=some (.bool S.begun)∧m.cell? ⟨d,7,none⟩=some (.bool S.back)∧m.cell? ⟨d,8,none⟩=some (.int .i64 (q.op+1))∧m.cell? ⟨d,9,none⟩=some (.int .i64 ea.1)∧m.cell? ⟨d,10,none⟩=some (.slice Q ea.2.length N)∧m.cell? ⟨w.heap.size,1,none⟩=some (.int .i64 A)∧m.cell? ⟨w.heap.size,3,none⟩=some (.string s)) (go_keep)
    ((go_at_call 39;refine (bl.out _ (by first | exact (Yh _ _).drew | exact (Yh _ _).drew.alloc (Yd _) _)).mono ?_;rintro e E ⟨U,R,O,rfl,ao⟩;have bj:Hid (RefG d9 E S u ea Q N D U ea R O):=(by first | exact Zbx (Yh _ _).drew ao | exact Zbx ((Yh _ _).drew.alloc (Yd _) _) ao);have J:=Za bj.out.bel;(first | (have b7:Hid (RefG (d9.drew.alloc zW) E S u ea Q N D U ea R O):=ao) | skip);have cf:=(J.out.cell (p:=⟨d,1,none⟩) L).trans ab;have cj:=(J.out.cell (p:=⟨d,2,none⟩) L).trans ad;have ck:=(J.out.cell (p:=⟨d,3,none⟩) L).trans ae;have cl:=(J.out.cell (p:=⟨d,4,none⟩) L).trans af;have cm:=(J.out.cell (p:=⟨d,5,none⟩) L).trans ag;have co:=(J.out.cell (p:=⟨d,6,none⟩) L).trans ah;have cp:=(J.out.cell (p:=⟨d,7,none⟩) L).trans ai;have cq:=(J.out.cell (p:=⟨d,8,none⟩) L).trans aj;have cr:=(J.out.cell (p:=⟨d,9,none⟩) L).trans ak;have cg:=(J.out.cell (p:=⟨d,10,none⟩) L).trans ac;have ch:=(J.out.cell (p:=⟨w.heap.size,1,none⟩) a9).trans aa;have ci:=(J.out.cell (p:=⟨w.heap.size,3,none⟩) a9).trans b3;have dr:=Yg E _ cf;have dv:=Yg E _ cj;have dw:=Yg E _ ck;have dx:=Yg E _ cl;have dy:=Yg E _ cm;have dz:=Yg E _ co;have d0:=Yg E _ cp;have d1:=Yg E _ cq;have d6:=Yg E _ cr;have ds:=Yg E _ cg;have dt:=Yg E _ ch;have du:=Yg E _ ci;(first | (have bi:Hid (E.heap[d9.heap.size]?=some zW):=(ao.bel.block d9.heap.size (by simp)).trans (Zd d9.drew zW rfl);obtain ⟨cs,ct,cu,cv,cw,cx,cy,cz,c0,c6,c7⟩:=Zg bi.out) | skip);clear ao))
   all_goals
    go_wp2_with fail
    go_meet
    first
    | exact ⟨rfl,rfl,_,U,R,O,_,rfl,Ze7 bj.out,rfl⟩
    | exact ⟨rfl,rfl,_,U,R,O,_,rfl,Zhp b7.out bi.out X.out.ref.lt,rfl⟩
  case rest =>
   obtain ⟨rfl,rfl,g,U,R,O,wz,rfl,al,rfl⟩:=hcut;have b9:=Za (al.out.take X.out);have b1:Hid (Chg (fun y=>I y∨y=d) w wz):=by
    obtain ⟨_,_,_,cc⟩:=ay.out;exact ((Chg.of_below Y.out.2.2).trans (cc.mono (fun y bc=>(.inl bc:I y∨y=d))) (fun x aq=>.inl aq)).trans (Chg.of_below (F:=fun y=>I y∨y=d) al.out.bel) (fun x aq=>.inl aq)
   clear ar ab ad ae af ag ah ai aj ak ac a1 aa b2 b3 c8 dd de df dh di dj dk dl c9 db dc L a9;obtain ⟨cs,ct,cu,cv,cw,cx,cy,cz,c0,c6,c7⟩:=Zg al.out.box;have a6:wz.heap[d]?=some (ZbE (.pointer (some ⟨M,0,none⟩)) S.bud (.slice u.po S.pools.length u.pc) (.slice u.so S.srv.length u.sc) (.slice u.wo S.wts.length u.wc) (.slice u.tqo S.plan.length u.tc) S.begun S.back (q.op+1) ea.1 (.slice Q ea.2.length N)):=(al.out.bel.block d X.out.lt).trans X.out.pr;obtain ⟨ar,ab,ad,ae,af,ag,ah,ai,aj,ak,ac⟩:=Za0 a6;have d8:=Ze5 a6;have dq:g≠d:=by have dm:=al.out.new;have dp:=X.out.lt;omega
   clear a6;go_wp2_with fail
   go_ret
   rw [b0.out];exact ⟨by simp,⟨_,_,_,_,b9.out,b6.out⟩,b1.out.trans (ZdD _ _ _ _ _ _ _ _ _ _ _ _) (fun x aq=>.inl (.inr aq))⟩
theorem ZsB (d M go:Nat) (S:Zh) (m:ZB) (d1:Int×List Pl) (I F:Nat→Prop) (u:ZA) (Q:Option Addr) (N:Nat) (bc bd bt:Nat) (w:World) (A B:Int) (s:ByteArray) (h:Run w d M go S m S (m.op+1) d1 I F u Q N bc bd bt) (aw:RefOk S m.op d1) (bq:ZaW S m.op) :
  Calls Tryz.prog 15 #[.pointer (some ⟨d,0,none⟩),.agg #[.int .i64 2,.int .i64 A,.int .i64 B,.string s]] w fun e q=>Zg1 (ZaH S m.op A) d M go d1 I F bc bd bt m w q e:=by
 obtain ⟨bp,_,_⟩:=(Zm2 aw.ok.inv bq A);obtain ⟨d6,ar⟩:∃ d6,d6=w.alloc (bOp 2 A B s):=⟨_,rfl⟩;have au:Below w.heap.size w d6:=by rw [ar];exact Zc _ _
 have Y:Hid (d6=w.alloc (bOp 2 A B s)∧d6.heap[w.heap.size]?=some (bOp 2 A B s)∧Below w.heap.size w d6):=⟨ar,by rw [ar];exact Zd _ _ rfl,au⟩;have a0:=Za (h.below au);have hd:∀ V,Below d6.heap.size d6 V→DeskAt V M S m I:=fun V a7=>(h.below (Zb au a7)).desk
 obtain ⟨⟨D,t,id,am⟩,av⟩:∃ r,(ZaH S m.op A)=r:=⟨_,rfl⟩;have bo:(Zcp S (m.op+1) A).S=D∧(Zcp S (m.op+1) A).op=t+1∧(Zcp S (m.op+1) A).id=id∧(Zcp S (m.op+1) A).err=am:=by
  obtain ⟨bu,s2,s3,bv⟩:=bp;rw [av] at bu s2 s3 bv;exact ⟨bu.symm,s2.symm,s3.symm,bv.symm⟩
 have b7:Hid (∀ V,Below d6.heap.size d6 V→Calls Tryz.prog 40 #[.pointer (some ⟨M,0,none⟩),.int .i64 A] V fun e q=>e=.returned (.int .i64 (am:Int))∧Moved V q M D {m with op:=t} I):=by
  intro V a7;have:=ZtR M A S m I V (hd V a7) aw.ok;rw [av] at this;exact this
 have b9:Hid (∀ v,WdAt v S u d1 Q N→Calls Tryz.prog 41 #[wdA S u (m.op+1) d1 Q N,.int .i64 A] v fun e q=>∃ U R O,e=.returned (.tuple #[wdA D U (t+1) d1 R O,.int .i64 (am:Int)])∧RefG v q S u d1 Q N D U d1 R O):=by
  intro v a8;have:=Zr8 A S m.op d1 u Q N v a8 aw;rw [Zjh bo] at this;exact this
 have bx:=Za av;have az:Hid (¬I d∧¬I w.heap.size):=⟨h.dxp,fun cc=>by have:=h.desk.lt _ cc;omega⟩;clear h aw bq bp ar au hd av bo;obtain ⟨aq,ab,ad,ae,af,ag,ah,ai,aj,ak,ac⟩:=Za0 a0.out.pr;obtain ⟨a1,aa,b2,b3⟩:=Zbq Y.out.2.1;have cd:=a0.out.lt;have br:w.heap.size<d6.heap.size:=(Ya.1 Y.out.2.1).1;go_enter Tryz.func15,Tryz.ntmps15
 go_upto_region 8 with fail
 rw [←Y.out.1];go_cut [10] (fun v bf=>v=.int .i64 (am:Int)∧∃ d0,Hid (Moved d6 d0 M D {m with op:=t} I)∧d0=bf)
 case first =>
  go_region_held3 (fun q=>q.cell? ⟨d,0,none⟩=some (.pointer (some ⟨M,0,none⟩))∧q.cell? ⟨w.heap.size,1,none⟩=some (.int .i64 A)) (go_keep)
   ((go_at_call 40;refine (b7.out _ ((Yh _ _).drew)).mono ?_;rintro e be ⟨rfl,bl⟩;have ax:Hid (Moved d6 be M D {m with op:=t} I):=Moved.after (Yh _ _).drew bl;have ca:Hid (be.heap[d]?=d6.heap[d]?):=Zan ax.out cd az.out.1;have b6:Hid (be.heap[w.heap.size]?=d6.heap[w.heap.size]?):=Zan ax.out br az.out.2;have bc:=(Yn (a:=⟨d,0,none⟩) ca.out).trans aq;have bd:=(Yn (a:=⟨w.heap.size,1,none⟩) b6.out).trans aa;clear bl))
  all_goals
   go_wp2_with fail
   go_meet
   exact ⟨rfl,_,ax.out,rfl⟩
 case rest =>
  obtain ⟨rfl,d0,ay,rfl⟩:=hcut;obtain ⟨bw,bm,bk⟩:=a0.out.moved ay.out;have X:=Za bm;have b0:Hid (∀ y,bw y→I y∨w.heap.size≤y):=fun y a9=>(bk y a9).imp (fun x=>x) (fun x=>Ym Y.out.2.2.size x)
  have bj:Hid (d0.heap[w.heap.size]?=some (bOp 2 A B s)):=(Zan ay.out br az.out.2).trans Y.out.2.1;clear aq ab ad ae af ag ah ai aj ak ac a1 aa b2 b3 bm bk;obtain ⟨aq,ab,ad,ae,af,ag,ah,ai,aj,ak,ac⟩:=Za0 X.out.pr;obtain ⟨a1,aa,b2,b3⟩:=Zbq bj.out;have L:=X.out.lt;have bs:w.heap.size<d0.heap.size:=(Ya.1 bj.out).1;have c6:=Yg d0 _ ab;have c9:=Yg d0 _ ad;have db:=Yg d0 _ ae;have dc:=Yg d0 _ af;have dd:=Yg d0 _ ag;have de:=Yg d0 _ ah;have df:=Yg d0 _ ai;have dh:=Yg d0 _ aj;have di:=Yg d0 _ ak;have c7:=Yg d0 _ ac;have c8:=Yg d0 _ aa;have bi:=Za (fun v (a8:Below d0.heap.size d0 v)=>b9.out v (X.out.ref.nx a8));simp only [wdA] at bi;go_upto_region 9 with fail
  go_cut [11,12] (fun p v bf=>v=.int .i64 (am:Int)∧∃ (g:Nat) (U:ZA) (R:Option Addr) (O:Nat) (wz:World),p=.pointer (some ⟨g,0,none⟩)∧Hid (BoxW d0 S u d1 Q N D U d1 (t+1) R O g wz)∧wz=bf)
  case first =>
   go_region_held3 (fun q=>q.cell? ⟨d,1,none⟩=some (.int .i64 S.bud)∧q.cell? ⟨d,2,none⟩=some (.slice u.po S.pools.length u.pc)∧q.cell? ⟨d,3,none⟩=some (.slice u.so S.srv.length u.sc)∧q.cell? ⟨d,4,none⟩=some (.slice u.wo S.wts.length u.wc)∧q.cell? ⟨d,5,none⟩=some (.slice u.tqo S.plan.length u.tc)∧q.cell? ⟨d,6,none⟩=some (.bool S.begun)∧q.cell? ⟨d,7,none⟩=some (.bool S.back)∧q.cell? ⟨d,8,none⟩=some (.int .i64 (m.op+1))∧q.cell? ⟨d,9,none⟩=some (.int .i64 d1.1)∧q.cell? ⟨d,10,none⟩=some (.slice Q d1.2.length N)∧q.cell? ⟨w.heap.size,1,none⟩=some (.int .i64 A)) (go_keep)
    ((go_at_call 41;refine (bi.out _ (by first | exact (Yh _ _).drew | exact (Yh _ _).drew.alloc (Yd _) _)).mono ?_;rintro e E ⟨U,R,O,rfl,ao⟩;have bh:Hid (RefG d0 E S u d1 Q N D U d1 R O):=(by first | exact Zbx (Yh _ _).drew ao | exact Zbx ((Yh _ _).drew.alloc (Yd _) _) ao);have J:=Za bh.out.bel;(first | (have b1:Hid (RefG (d0.drew.alloc zW) E S u d1 Q N D U d1 R O):=ao) | skip);have ce:=(J.out.cell (p:=⟨d,1,none⟩) L).trans ab;have ch:=(J.out.cell (p:=⟨d,2,none⟩) L).trans ad;have ci:=(J.out.cell (p:=⟨d,3,none⟩) L).trans ae;have cj:=(J.out.cell (p:=⟨d,4,none⟩) L).trans af;have ck:=(J.out.cell (p:=⟨d,5,none⟩) L).trans ag;have cl:=(J.out.cell (p:=⟨d,6,none⟩) L).trans ah;have cm:=(J.out.cell (p:=⟨d,7,none⟩) L).trans ai;have co:=(J.out.cell (p:=⟨d,8,none⟩) L).trans aj;have cp:=(J.out.cell (p:=⟨d,9,none⟩) L).trans ak;have cf:=(J.out.cell (p:=⟨d,10,none⟩) L).trans ac;have cg:=(J.out.cell (p:=⟨w.heap.size,1,none⟩) bs).trans aa;have dm:=Yg E _ ce;have dr:=Yg E _ ch;have ds:=Yg E _ ci;have dt:=Yg E _ cj;have du:=Yg E _ ck;have dv:=Yg E _ cl;have dw:=Yg E _ cm;have dx:=Yg E _ co;have dy:=Yg E _ cp;have dp:=Yg E _ cf;have dq:=Yg E _ cg;(first | (have bg:Hid (E.heap[d0.heap.size]?=some zW):=(ao.bel.block d0.heap.size (by simp)).trans (Zd d0.drew zW rfl);obtain ⟨cq,cr,cs,ct,cu,cv,cw,cx,cy,cz,c0⟩:=Zg bg.out) | skip);clear ao))
   all_goals
    go_wp2_with fail
    go_meet
    first
    | exact ⟨rfl,_,U,R,O,_,rfl,Ze7 bh.out,rfl⟩
    | exact ⟨rfl,_,U,R,O,_,rfl,Zhp b1.out bg.out X.out.ref.lt,rfl⟩
  case rest =>
   obtain ⟨rfl,g,U,R,O,wz,rfl,al,rfl⟩:=hcut;have b8:=Za (al.out.take X.out);have bz:Hid (Chg (fun y=>I y∨y=d) w wz):=by
    obtain ⟨_,_,_,cb⟩:=ay.out;exact ((Chg.of_below Y.out.2.2).trans (cb.mono (fun y a9=>(.inl a9:I y∨y=d))) (fun x ap=>.inl ap)).trans (Chg.of_below (F:=fun y=>I y∨y=d) al.out.bel) (fun x ap=>.inl ap)
   clear aq ab ad ae af ag ah ai aj ak ac a1 aa b2 b3 c6 c9 db dc dd de df dh di c7 c8 L bs;obtain ⟨cq,cr,cs,ct,cu,cv,cw,cx,cy,cz,c0⟩:=Zg al.out.box;have a6:wz.heap[d]?=some (ZbE (.pointer (some ⟨M,0,none⟩)) S.bud (.slice u.po S.pools.length u.pc) (.slice u.so S.srv.length u.sc) (.slice u.wo S.wts.length u.wc) (.slice u.tqo S.plan.length u.tc) S.begun S.back (m.op+1) d1.1 (.slice Q d1.2.length N)):=(al.out.bel.block d X.out.lt).trans X.out.pr;obtain ⟨aq,ab,ad,ae,af,ag,ah,ai,aj,ak,ac⟩:=Za0 a6;have dz:=Ze5 a6;have dl:g≠d:=by have dj:=al.out.new;have dk:=X.out.lt;omega
   clear a6;go_wp2_with fail
   go_ret
   rw [bx.out];exact ⟨by simp,⟨_,_,_,_,b8.out,b0.out⟩,bz.out.trans (ZdD _ _ _ _ _ _ _ _ _ _ _ _) (fun x ap=>.inl (.inr ap))⟩
theorem Zsh (d M go:Nat) (S:Zh) (m:ZB) (d1:Int×List Pl) (I F:Nat→Prop) (u:ZA) (Q:Option Addr) (N:Nat) (bc bd bt:Nat) (w:World) (A B:Int) (s:ByteArray) (h:Run w d M go S m S (m.op+1) d1 I F u Q N bc bd bt) (aw:RefOk S m.op d1) (bq:ZaW S m.op) :
  Calls Tryz.prog 15 #[.pointer (some ⟨d,0,none⟩),.agg #[.int .i64 3,.int .i64 A,.int .i64 B,.string s]] w fun e q=>Zg1 (ZaI S m.op A) d M go d1 I F bc bd bt m w q e:=by
 obtain ⟨bp,_,_⟩:=(Zmn aw.ok.inv bq A);obtain ⟨d6,ar⟩:∃ d6,d6=w.alloc (bOp 3 A B s):=⟨_,rfl⟩;have au:Below w.heap.size w d6:=by rw [ar];exact Zc _ _
 have Y:Hid (d6=w.alloc (bOp 3 A B s)∧d6.heap[w.heap.size]?=some (bOp 3 A B s)∧Below w.heap.size w d6):=⟨ar,by rw [ar];exact Zd _ _ rfl,au⟩;have a0:=Za (h.below au);have hd:∀ V,Below d6.heap.size d6 V→DeskAt V M S m I:=fun V a7=>(h.below (Zb au a7)).desk
 obtain ⟨⟨D,t,id,am⟩,av⟩:∃ r,(ZaI S m.op A)=r:=⟨_,rfl⟩;have bo:(Zcb S (m.op+1) A).S=D∧(Zcb S (m.op+1) A).op=t+1∧(Zcb S (m.op+1) A).id=id∧(Zcb S (m.op+1) A).err=am:=by
  obtain ⟨bu,s2,s3,bv⟩:=bp;rw [av] at bu s2 s3 bv;exact ⟨bu.symm,s2.symm,s3.symm,bv.symm⟩
 have b7:Hid (∀ V,Below d6.heap.size d6 V→Calls Tryz.prog 42 #[.pointer (some ⟨M,0,none⟩),.int .i64 A] V fun e q=>e=.returned (.int .i64 (am:Int))∧Moved V q M D {m with op:=t} I):=by
  intro V a7;have:=Zsj M A S m I V (hd V a7) aw.ok;rw [av] at this;exact this
 have b9:Hid (∀ v,WdAt v S u d1 Q N→Calls Tryz.prog 43 #[wdA S u (m.op+1) d1 Q N,.int .i64 A] v fun e q=>∃ U R O,e=.returned (.tuple #[wdA D U (t+1) d1 R O,.int .i64 (am:Int)])∧RefG v q S u d1 Q N D U d1 R O):=by
  intro v a8;have:=Zqn A S m.op d1 u Q N v a8 aw;rw [Zjh bo] at this;exact this
 have bx:=Za av;have az:Hid (¬I d∧¬I w.heap.size):=⟨h.dxp,fun cc=>by have:=h.desk.lt _ cc;omega⟩;clear h aw bq bp ar au hd av bo;obtain ⟨aq,ab,ad,ae,af,ag,ah,ai,aj,ak,ac⟩:=Za0 a0.out.pr;obtain ⟨a1,aa,b2,b3⟩:=Zbq Y.out.2.1;have cd:=a0.out.lt;have br:w.heap.size<d6.heap.size:=(Ya.1 Y.out.2.1).1;go_enter Tryz.func15,Tryz.ntmps15
 go_upto_region 13 with fail
 rw [←Y.out.1];go_cut [13] (fun v bf=>v=.int .i64 (am:Int)∧∃ d0,Hid (Moved d6 d0 M D {m with op:=t} I)∧d0=bf)
 case first =>
  go_region_held3 (fun q=>q.cell? ⟨d,0,none⟩=some (.pointer (some ⟨M,0,none⟩))∧q.cell? ⟨w.heap.size,1,none⟩=some (.int .i64 A)) (go_keep)
   ((go_at_call 42;refine (b7.out _ ((Yh _ _).drew)).mono ?_;rintro e be ⟨rfl,bl⟩;have ax:Hid (Moved d6 be M D {m with op:=t} I):=Moved.after (Yh _ _).drew bl;have ca:Hid (be.heap[d]?=d6.heap[d]?):=Zan ax.out cd az.out.1;have b6:Hid (be.heap[w.heap.size]?=d6.heap[w.heap.size]?):=Zan ax.out br az.out.2;have bc:=(Yn (a:=⟨d,0,none⟩) ca.out).trans aq;have bd:=(Yn (a:=⟨w.heap.size,1,none⟩) b6.out).trans aa;clear bl))
  all_goals
   go_wp2_with fail
   go_meet
   exact ⟨rfl,_,ax.out,rfl⟩
 case rest =>
  obtain ⟨rfl,d0,ay,rfl⟩:=hcut;obtain ⟨bw,bm,bk⟩:=a0.out.moved ay.out;have X:=Za bm;have b0:Hid (∀ y,bw y→I y∨w.heap.size≤y):=fun y a9=>(bk y a9).imp (fun x=>x) (fun x=>Ym Y.out.2.2.size x)
  have bj:Hid (d0.heap[w.heap.size]?=some (bOp 3 A B s)):=(Zan ay.out br az.out.2).trans Y.out.2.1;clear aq ab ad ae af ag ah ai aj ak ac a1 aa b2 b3 bm bk;obtain ⟨aq,ab,ad,ae,af,ag,ah,ai,aj,ak,ac⟩:=Za0 X.out.pr;obtain ⟨a1,aa,b2,b3⟩:=Zbq bj.out;have L:=X.out.lt;have bs:w.heap.size<d0.heap.size:=(Ya.1 bj.out).1;have c6:=Yg d0 _ ab;have c9:=Yg d0 _ ad;have db:=Yg d0 _ ae;have dc:=Yg d0 _ af;have dd:=Yg d0 _ ag;have de:=Yg d0 _ ah;have df:=Yg d0 _ ai;have dh:=Yg d0 _ aj;have di:=Yg d0 _ ak;have c7:=Yg d0 _ ac;have c8:=Yg d0 _ aa;have bi:=Za (fun v (a8:Below d0.heap.size d0 v)=>b9.out v (X.out.ref.nx a8));simp only [wdA] at bi;go_upto_region 14 with fail
  go_cut [14,15] (fun p v bf=>v=.int .i64 (am:Int)∧∃ (g:Nat) (U:ZA) (R:Option Addr) (O:Nat) (wz:World),p=.pointer (some ⟨g,0,none⟩)∧Hid (BoxW d0 S u d1 Q N D U d1 (t+1) R O g wz)∧wz=bf)
  case first =>
   go_region_held3 (fun q=>q.cell? ⟨d,1,none⟩=some (.int .i64 S.bud)∧q.cell? ⟨d,2,none⟩=some (.slice u.po S.pools.length u.pc)∧q.cell? ⟨d,3,none⟩=some (.slice u.so S.srv.length u.sc)∧q.cell? ⟨d,4,none⟩=some (.slice u.wo S.wts.length u.wc)∧q.cell? ⟨d,5,none⟩=some (.slice u.tqo S.plan.length u.tc)∧q.cell? ⟨d,6,none⟩=some (.bool S.begun)∧q.cell? ⟨d,7,none⟩=some (.bool S.back)∧q.cell? ⟨d,8,none⟩=some (.int .i64 (m.op+1))∧q.cell? ⟨d,9,none⟩=some (.int .i64 d1.1)∧q.cell? ⟨d,10,none⟩=some (.slice Q d1.2.length N)∧q.cell? ⟨w.heap.size,1,none⟩=some (.int .i64 A)) (go_keep)
    ((go_at_call 43;refine (bi.out _ (by first | exact (Yh _ _).drew | exact (Yh _ _).drew.alloc (Yd _) _)).mono ?_;rintro e E ⟨U,R,O,rfl,ao⟩;have bh:Hid (RefG d0 E S u d1 Q N D U d1 R O):=(by first | exact Zbx (Yh _ _).drew ao | exact Zbx ((Yh _ _).drew.alloc (Yd _) _) ao);have J:=Za bh.out.bel;(first | (have b1:Hid (RefG (d0.drew.alloc zW) E S u d1 Q N D U d1 R O):=ao) | skip);have ce:=(J.out.cell (p:=⟨d,1,none⟩) L).trans ab;have ch:=(J.out.cell (p:=⟨d,2,none⟩) L).trans ad;have ci:=(J.out.cell (p:=⟨d,3,none⟩) L).trans ae;have cj:=(J.out.cell (p:=⟨d,4,none⟩) L).trans af;have ck:=(J.out.cell (p:=⟨d,5,none⟩) L).trans ag;have cl:=(J.out.cell (p:=⟨d,6,none⟩) L).trans ah;have cm:=(J.out.cell (p:=⟨d,7,none⟩) L).trans ai;have co:=(J.out.cell (p:=⟨d,8,none⟩) L).trans aj;have cp:=(J.out.cell (p:=⟨d,9,none⟩) L).trans ak;have cf:=(J.out.cell (p:=⟨d,10,none⟩) L).trans ac;have cg:=(J.out.cell (p:=⟨w.heap.size,1,none⟩) bs).trans aa;have dm:=Yg E _ ce;have dr:=Yg E _ ch;have ds:=Yg E _ ci;have dt:=Yg E _ cj;have du:=Yg E _ ck;have dv:=Yg E _ cl;have dw:=Yg E _ cm;have dx:=Yg E _ co;have dy:=Yg E _ cp;have dp:=Yg E _ cf;have dq:=Yg E _ cg;(first | (have bg:Hid (E.heap[d0.heap.size]?=some zW):=(ao.bel.block d0.heap.size (by simp)).trans (Zd d0.drew zW rfl);obtain ⟨cq,cr,cs,ct,cu,cv,cw,cx,cy,cz,c0⟩:=Zg bg.out) | skip);clear ao))
   all_goals
    go_wp2_with fail
    go_meet
    first
    | exact ⟨rfl,_,U,R,O,_,rfl,Ze7 bh.out,rfl⟩
    | exact ⟨rfl,_,U,R,O,_,rfl,Zhp b1.out bg.out X.out.ref.lt,rfl⟩
  case rest =>
   obtain ⟨rfl,g,U,R,O,wz,rfl,al,rfl⟩:=hcut;have b8:=Za (al.out.take X.out);have bz:Hid (Chg (fun y=>I y∨y=d) w wz):=by
    obtain ⟨_,_,_,cb⟩:=ay.out;exact ((Chg.of_below Y.out.2.2).trans (cb.mono (fun y a9=>(.inl a9:I y∨y=d))) (fun x ap=>.inl ap)).trans (Chg.of_below (F:=fun y=>I y∨y=d) al.out.bel) (fun x ap=>.inl ap)
   clear aq ab ad ae af ag ah ai aj ak ac a1 aa b2 b3 c6 c9 db dc dd de df dh di c7 c8 L bs;obtain ⟨cq,cr,cs,ct,cu,cv,cw,cx,cy,cz,c0⟩:=Zg al.out.box;have a6:wz.heap[d]?=some (ZbE (.pointer (some ⟨M,0,none⟩)) S.bud (.slice u.po S.pools.length u.pc) (.slice u.so S.srv.length u.sc) (.slice u.wo S.wts.length u.wc) (.slice u.tqo S.plan.length u.tc) S.begun S.back (m.op+1) d1.1 (.slice Q d1.2.length N)):=(al.out.bel.block d X.out.lt).trans X.out.pr;obtain ⟨aq,ab,ad,ae,af,ag,ah,ai,aj,ak,ac⟩:=Za0 a6;have dz:=Ze5 a6;have dl:g≠d:=by have dj:=al.out.new;have dk:=X.out.lt;omega
   clear a6;go_wp2_with fail
   go_ret
   rw [bx.out];exact ⟨by simp,⟨_,_,_,_,b8.out,b0.out⟩,bz.out.trans (ZdD _ _ _ _ _ _ _ _ _ _ _ _) (fun x ap=>.inl (.inr ap))⟩
theorem Zsz (d M go:Nat) (S:Zh) (m:ZB) (d1:Int×List Pl) (I F:Nat→Prop) (u:ZA) (Q:Option Addr) (N:Nat) (bc bd bt:Nat) (w:World) (A B:Int) (s:ByteArray) (h:Run w d M go S m S (m.op+1) d1 I F u Q N bc bd bt) (aw:RefOk S m.op d1) (bq:ZaW S m.op) :
  Calls Tryz.prog 15 #[.pointer (some ⟨d,0,none⟩),.agg #[.int .i64 4,.int .i64 A,.int .i64 B,.string s]] w fun e q=>Zg1 (Zau S m.op A) d M go d1 I F bc bd bt m w q e:=by
 obtain ⟨bp,_,_⟩:=(Zml aw.ok.inv bq A);obtain ⟨d6,ar⟩:∃ d6,d6=w.alloc (bOp 4 A B s):=⟨_,rfl⟩;have au:Below w.heap.size w d6:=by rw [ar];exact Zc _ _
 have Y:Hid (d6=w.alloc (bOp 4 A B s)∧d6.heap[w.heap.size]?=some (bOp 4 A B s)∧Below w.heap.size w d6):=⟨ar,by rw [ar];exact Zd _ _ rfl,au⟩;have a0:=Za (h.below au);have hd:∀ V,Below d6.heap.size d6 V→DeskAt V M S m I:=fun V a7=>(h.below (Zb au a7)).desk
 obtain ⟨⟨D,t,id,am⟩,av⟩:∃ r,(Zau S m.op A)=r:=⟨_,rfl⟩;have bo:(Zct S (m.op+1) A).S=D∧(Zct S (m.op+1) A).op=t+1∧(Zct S (m.op+1) A).id=id∧(Zct S (m.op+1) A).err=am:=by
  obtain ⟨bu,s2,s3,bv⟩:=bp;rw [av] at bu s2 s3 bv;exact ⟨bu.symm,s2.symm,s3.symm,bv.symm⟩
 have b7:Hid (∀ V,Below d6.heap.size d6 V→Calls Tryz.prog 44 #[.pointer (some ⟨M,0,none⟩),.int .i64 A] V fun e q=>e=.returned (.int .i64 (am:Int))∧Moved V q M D {m with op:=t} I):=by
  intro V a7;have:=Zsm M A S m I V (hd V a7) aw.ok;rw [av] at this;exact this
 have b9:Hid (∀ v,WdAt v S u d1 Q N→Calls Tryz.prog 45 #[wdA S u (m.op+1) d1 Q N,.int .i64 A] v fun e q=>∃ U R O,e=.returned (.tuple #[wdA D U (t+1) d1 R O,.int .i64 (am:Int)])∧RefG v q S u d1 Q N D U d1 R O):=by
  intro v a8;have:=Zp1 A S m.op d1 u Q N v a8 aw;rw [Zjh bo] at this;exact this
 have bx:=Za av;have az:Hid (¬I d∧¬I w.heap.size):=⟨h.dxp,fun cc=>by have:=h.desk.lt _ cc;omega⟩;clear h aw bq bp ar au hd av bo;obtain ⟨aq,ab,ad,ae,af,ag,ah,ai,aj,ak,ac⟩:=Za0 a0.out.pr;obtain ⟨a1,aa,b2,b3⟩:=Zbq Y.out.2.1;have cd:=a0.out.lt;have br:w.heap.size<d6.heap.size:=(Ya.1 Y.out.2.1).1;go_enter Tryz.func15,Tryz.ntmps15
 go_upto_region 17 with fail
 rw [←Y.out.1];go_cut [16] (fun v bf=>v=.int .i64 (am:Int)∧∃ d0,Hid (Moved d6 d0 M D {m with op:=t} I)∧d0=bf)
 case first =>
  go_region_held3 (fun q=>q.cell? ⟨d,0,none⟩=some (.pointer (some ⟨M,0,none⟩))∧q.cell? ⟨w.heap.size,1,none⟩=some (.int .i64 A)) (go_keep)
   ((go_at_call 44;refine (b7.out _ ((Yh _ _).drew)).mono ?_;rintro e be ⟨rfl,bl⟩;have ax:Hid (Moved d6 be M D {m with op:=t} I):=Moved.after (Yh _ _).drew bl;have ca:Hid (be.heap[d]?=d6.heap[d]?):=Zan ax.out cd az.out.1;have b6:Hid (be.heap[w.heap.size]?=d6.heap[w.heap.size]?):=Zan ax.out br az.out.2;have bc:=(Yn (a:=⟨d,0,none⟩) ca.out).trans aq;have bd:=(Yn (a:=⟨w.heap.size,1,none⟩) b6.out).trans aa;clear bl))
  all_goals
   go_wp2_with fail
   go_meet
   exact ⟨rfl,_,ax.out,rfl⟩
 case rest =>
  obtain ⟨rfl,d0,ay,rfl⟩:=hcut;obtain ⟨bw,bm,bk⟩:=a0.out.moved ay.out;have X:=Za bm;have b0:Hid (∀ y,bw y→I y∨w.heap.size≤y):=fun y a9=>(bk y a9).imp (fun x=>x) (fun x=>Ym Y.out.2.2.size x)
  have bj:Hid (d0.heap[w.heap.size]?=some (bOp 4 A B s)):=(Zan ay.out br az.out.2).trans Y.out.2.1;clear aq ab ad ae af ag ah ai aj ak ac a1 aa b2 b3 bm bk;obtain ⟨aq,ab,ad,ae,af,ag,ah,ai,aj,ak,ac⟩:=Za0 X.out.pr;obtain ⟨a1,aa,b2,b3⟩:=Zbq bj.out;have L:=X.out.lt;have bs:w.heap.size<d0.heap.size:=(Ya.1 bj.out).1;have c6:=Yg d0 _ ab;have c9:=Yg d0 _ ad;have db:=Yg d0 _ ae;have dc:=Yg d0 _ af;have dd:=Yg d0 _ ag;have de:=Yg d0 _ ah;have df:=Yg d0 _ ai;have dh:=Yg d0 _ aj;have di:=Yg d0 _ ak;have c7:=Yg d0 _ ac;have c8:=Yg d0 _ aa;have bi:=Za (fun v (a8:Below d0.heap.size d0 v)=>b9.out v (X.out.ref.nx a8));simp only [wdA] at bi;go_upto_region 18 with fail
  go_cut [17,18] (fun p v bf=>v=.int .i64 (am:Int)∧∃ (g:Nat) (U:ZA) (R:Option Addr) (O:Nat) (wz:World),p=.pointer (some ⟨g,0,none⟩)∧Hid (BoxW d0 S u d1 Q N D U d1 (t+1) R O g wz)∧wz=bf)
  case first =>
   go_region_held3 (fun q=>q.cell? ⟨d,1,none⟩=some (.int .i64 S.bud)∧q.cell? ⟨d,2,none⟩=some (.slice u.po S.pools.length u.pc)∧q.cell? ⟨d,3,none⟩=some (.slice u.so S.srv.length u.sc)∧q.cell? ⟨d,4,none⟩=some (.slice u.wo S.wts.length u.wc)∧q.cell? ⟨d,5,none⟩=some (.slice u.tqo S.plan.length u.tc)∧q.cell? ⟨d,6,none⟩=some (.bool S.begun)∧q.cell? ⟨d,7,none⟩=some (.bool S.back)∧q.cell? ⟨d,8,none⟩=some (.int .i64 (m.op+1))∧q.cell? ⟨d,9,none⟩=some (.int .i64 d1.1)∧q.cell? ⟨d,10,none⟩=some (.slice Q d1.2.length N)∧q.cell? ⟨w.heap.size,1,none⟩=some (.int .i64 A)) (go_keep)
    ((go_at_call 45;refine (bi.out _ (by first | exact (Yh _ _).drew | exact (Yh _ _).drew.alloc (Yd _) _)).mono ?_;rintro e E ⟨U,R,O,rfl,ao⟩;have bh:Hid (RefG d0 E S u d1 Q N D U d1 R O):=(by first | exact Zbx (Yh _ _).drew ao | exact Zbx ((Yh _ _).drew.alloc (Yd _) _) ao);have J:=Za bh.out.bel;(first | (have b1:Hid (RefG (d0.drew.alloc zW) E S u d1 Q N D U d1 R O):=ao) | skip);have ce:=(J.out.cell (p:=⟨d,1,none⟩) L).trans ab;have ch:=(J.out.cell (p:=⟨d,2,none⟩) L).trans ad;have ci:=(J.out.cell (p:=⟨d,3,none⟩) L).trans ae;have cj:=(J.out.cell (p:=⟨d,4,none⟩) L).trans af;have ck:=(J.out.cell (p:=⟨d,5,none⟩) L).trans ag;have cl:=(J.out.cell (p:=⟨d,6,none⟩) L).trans ah;have cm:=(J.out.cell (p:=⟨d,7,none⟩) L).trans ai;have co:=(J.out.cell (p:=⟨d,8,none⟩) L).trans aj;have cp:=(J.out.cell (p:=⟨d,9,none⟩) L).trans ak;have cf:=(J.out.cell (p:=⟨d,10,none⟩) L).trans ac;have cg:=(J.out.cell (p:=⟨w.heap.size,1,none⟩) bs).trans aa;have dm:=Yg E _ ce;have dr:=Yg E _ ch;have ds:=Yg E _ ci;have dt:=Yg E _ cj;have du:=Yg E _ ck;have dv:=Yg E _ cl;have dw:=Yg E _ cm;have dx:=Yg E _ co;have dy:=Yg E _ cp;have dp:=Yg E _ cf;have dq:=Yg E _ cg;(first | (have bg:Hid (E.heap[d0.heap.size]?=some zW):=(ao.bel.block d0.heap.size (by simp)).trans (Zd d0.drew zW rfl);obtain ⟨cq,cr,cs,ct,cu,cv,cw,cx,cy,cz,c0⟩:=Zg bg.out) | skip);clear ao))
   all_goals
    go_wp2_with fail
    go_meet
    first
    | exact ⟨rfl,_,U,R,O,_,rfl,Ze7 bh.out,rfl⟩
    | exact ⟨rfl,_,U,R,O,_,rfl,Zhp b1.out bg.out X.out.ref.lt,rfl⟩
  case rest =>
   obtain ⟨rfl,g,U,R,O,wz,rfl,al,rfl⟩:=hcut;have b8:=Za (al.out.take X.out);have bz:Hid (Chg (fun y=>I y∨y=d) w wz):=by
    obtain ⟨_,_,_,cb⟩:=ay.out;exact ((Chg.of_below Y.out.2.2).trans (cb.mono (fun y a9=>(.inl a9:I y∨y=d))) (fun x ap=>.inl ap)).trans (Chg.of_below (F:=fun y=>I y∨y=d) al.out.bel) (fun x ap=>.inl ap)
   clear aq ab ad ae af ag ah ai aj ak ac a1 aa b2 b3 c6 c9 db dc dd de df dh di c7 c8 L bs;obtain ⟨cq,cr,cs,ct,cu,cv,cw,cx,cy,cz,c0⟩:=Zg al.out.box;have a6:wz.heap[d]?=some (ZbE (.pointer (some ⟨M,0,none⟩)) S.bud (.slice u.po S.pools.length u.pc) (.slice u.so S.srv.length u.sc) (.slice u.wo S.wts.length u.wc) (.slice u.tqo S.plan.length u.tc) S.begun S.back (m.op+1) d1.1 (.slice Q d1.2.length N)):=(al.out.bel.block d X.out.lt).trans X.out.pr;obtain ⟨aq,ab,ad,ae,af,ag,ah,ai,aj,ak,ac⟩:=Za0 a6;have dz:=Ze5 a6;have dl:g≠d:=by have dj:=al.out.new;have dk:=X.out.lt;omega
   clear a6;go_wp2_with fail
   go_ret
   rw [bx.out];exact ⟨by simp,⟨_,_,_,_,b8.out,b0.out⟩,bz.out.trans (ZdD _ _ _ _ _ _ _ _ _ _ _ _) (fun x ap=>.inl (.inr ap))⟩
def vp (p:Pl):Pr.Pl:=⟨p.nm,p.sz,p.wt,p.fr⟩
theorem Ziq {w:World} {d:Option Addr} {n c:Nat} {ps:List Pl} (h:RowAt w (.slice d n c) n (Ze ps)) (D:∀ p∈ps,p.nm.size≤maxLen):Pr.Pools w d (ps.map vp):=by
 cases ps with
 | nil=>exact .inl rfl
 | cons I r =>
  obtain ⟨b,off,e,hb,_⟩:=ZJ h (k:=0) (p:=I) rfl;refine .inr ⟨b,off,e,hb,fun i p m=>?_⟩;rw [List.getElem?_map] at m;obtain ⟨q,L,rfl⟩:=Option.map_eq_some_iff.1 m;obtain ⟨b2,E,e2,J,A,c1,c2,c3⟩:=ZJ h L;rw [e] at e2;obtain ⟨rfl,rfl⟩:b=b2∧off=E:=by simpa using e2
  exact ⟨A,c1,c2,c3,D q (Yo L)⟩
theorem Znp {w:World} {d:Option Addr} {n c:Nat} {D:List Value} (h:RowAt w (.slice d n c) n D):n≤c:=by
 obtain ⟨m,q,e,A,_⟩:=h;simp at e;omega
def Zsn (go:Nat) (F:Nat→Prop) (q1 q2 q4:Nat) (w w':World) (e:Ending):Prop:=
 e=.returned (.bool true)∧∃ F',OwnAt w' go F' (q1+1) q2 q2 (q4+1)∧(∀ y,F' y→F y∨w.heap.size≤y)∧Chg F w w'
theorem ZkQ (O c0 go:Nat) (S:Zh) (X:ZB) (Y:Int×List Pl) (cs F:Nat→Prop) (u:ZA) (c8:Option Addr) (c6:Nat) (aa N ab:Nat) (w:World) (kd A B:Int) (s:ByteArray) (h:Run w O c0 go S X S (X.op+1) Y cs F u c8 c6 aa N ab) (ck:aa≤1099511627776) (cl:ab≤1099511627776) (bh:s.size≤maxLen) (co:Pr.Tab w) (c7:S.pools.length≤1000) (be:∀ p∈S.pools,p.nm.size≤maxLen) (bc:(Z7 s).tab.2.length≤1000) (au:∀ p∈(Z7 s).tab.2,p.nm.size≤maxLen) :
  Calls Tryz.prog 8 #[.pointer (some ⟨O,0,none⟩),.agg #[.int .i64 kd,.int .i64 A,.int .i64 B,.string s],.pointer (some ⟨go,0,none⟩)] w fun e M=>Zsn go F aa N ab w M e:=by
 obtain ⟨m,ap⟩:∃ m,m=w.alloc (bOp kd A B s):=⟨_,rfl⟩;have aq:Below w.heap.size w m:=by rw [ap];exact Zc _ _
 have K0:Hid (m=w.alloc (bOp kd A B s)∧m.heap[w.heap.size]?=some (bOp kd A B s)∧Below w.heap.size w m):=⟨ap,by rw [ap];exact Zd _ _ rfl,aq⟩;have ah:=Za (h.below aq);have a9:=ah.out.lt;have c9:w.heap.size<m.heap.size:=(Ya.1 K0.out.2.1).1;have a0:Hid (∀ y,F y→y<w.heap.size):=h.own.lt;obtain ⟨Q,ar⟩:∃ Q,S.pools.length=Q:=⟨_,rfl⟩;have aw:RowAt m (.slice u.po Q u.pc) Q (Ze S.pools):=by rw [←ar];exact ah.out.ref.sta.p
 have cb:=Znp aw;have HC:=Za (ZlW s m bh);have bx:=Za (fun v=>ZdV s v bh);have cx:Hid (∀ v,Below m.heap.size m v→Calls Tryz.prog 23 #[.agg #[.int .i64 S.bud,.slice u.po Q u.pc]] v fun e M=>∃ s,e=.returned (.tuple #[.string s,.bool true])∧Below v.heap.size v M):=fun v ax =>
  Pr.Zmx S.bud u.po u.pc Q (S.pools.map vp) v (Ziq (aw.nx ax) be) (by rw [List.length_map];exact ar) (by omega) (co.nx (Zb aq ax))
 obtain ⟨⟨⟨b,ps⟩,dk,ds⟩,b6⟩:∃ a,Z7 s=a:=⟨_,rfl⟩;rw [b6] at HC bx bc au;simp only at bc au;obtain ⟨dt,bd⟩:∃ dt,ps.length=dt:=⟨_,rfl⟩;have ct:Hid (∀ (v:World) (bs:Nat) (J:Option Addr) (I:Nat),Below m.heap.size m v→v.ownsRow bs 82 4 (.slice J dt I) dt (Ze ps)→Calls Tryz.prog 25 #[.agg #[.int .i64 S.bud,.slice u.po Q u.pc],.agg #[.int .i64 b,.slice J dt I]] v fun e M=>∃ (du:List Stp) (L:Option Addr) (c:Nat),e=.returned (.tuple #[.slice L du.length c,.bool true])∧M.ownsRow v.heap.size 84 3 (.slice L du.length c) du.length (Zo du)∧Below v.heap.size v M):=fun v bs J I ax cf =>
  Df.ZnK S.bud u.po Q u.pc (S.pools.map vp) b J dt I (ps.map vp) v (Ziq (aw.nx ax) be) (by rw [List.length_map];exact ar) (by omega) cb (Ziq (Zf cf) au) (by rw [List.length_map];exact bd) (by omega) (Znp (Zf cf))
 have HM:=Za bd;have HN:=Za ar;have HQ:=Za (And.intro ck cl);clear h ap aq aw cb be co c7 au bc b6 bh ck cl;rw [bd] at HC;go_enter Tryz.func8,Tryz.ntmps8
 go_upto_region 1 with fail
 rw [←K0.out.1];obtain ⟨a1,a6,b2,b3⟩:=Zbq K0.out.2.1;go_wp2_with fail
 refine HC.out.mono ?_;rintro e w1 ⟨L,vc,rfl,ci,a7⟩;obtain ⟨D,ai⟩:∃ D,D=w1.alloc (Zi b (.slice L dt vc)):=⟨_,rfl⟩;have E:Hid (D=w1.alloc (Zi b (.slice L dt vc))∧Below m.heap.size m D∧D.heap[w1.heap.size]?=some (Zi b (.slice L dt vc))∧D.ownsRow m.heap.size 82 4 (.slice L dt vc) dt (Ze ps)∧m.heap.size≤w1.heap.size∧w1.heap.size<D.heap.size):=by
  have af:Below w1.heap.size w1 D:=by rw [ai];exact Zc _ _
  exact ⟨ai,Zb a7 af,by rw [ai];exact Zd _ _ rfl,Zx ci af,a7.size,by rw [ai];simp⟩
 obtain ⟨bz,a8⟩:∃ bz,w1.heap.size=bz:=⟨_,rfl⟩;clear ci a7 ai a1 a6 b2 b3;go_upto_region 2 with fail
 rw [←E.out.1];rw [a8] at E;have dj:=Za a8;clear a8;have bf:=(E.out.2.1.block O a9).trans ah.out.pr;rw [HN.out] at bf;obtain ⟨bi,ay,az,bk,bl,bm,bo,bp,bq,br,bj⟩:=Za0 bf;clear bf;go_wp2_with fail
 refine (cx.out D E.out.2.1).mono ?_;rintro e al ⟨t,rfl,af⟩;have bt:Hid (Below D.heap.size D al∧Below m.heap.size m al):=⟨af,Zb E.out.2.1 af⟩;clear af bi ay az bk bl bm bo bp bq br bj;obtain ⟨a1,a6,b2,b3⟩:=Zbq ((bt.out.2.block _ c9).trans K0.out.2.1);go_wp2_with fail
 refine (bx.out al).mono ?_;rintro e ac ⟨J,I,rfl,av,b7⟩;simp only at av ⊢;rw [HM.out] at av ⊢;obtain ⟨q,aj⟩:∃ q,q=ac.alloc (Zi b (.slice J dt I)):=⟨_,rfl⟩;have dw:Hid (q=ac.alloc (Zi b (.slice J dt I))∧Below D.heap.size D q∧q.heap[ac.heap.size]?=some (Zi b (.slice J dt I))∧q.ownsRow al.heap.size 82 4 (.slice J dt I) dt (Ze ps)∧ac.heap.size<q.heap.size):=by
  have b8:Below ac.heap.size ac q:=by rw [aj];exact Zc _ _
  exact ⟨aj,Zb bt.out.1 (Zb b7 b8),by rw [aj];exact Zd _ _ rfl,Zx av b8,by rw [aj];simp⟩
 obtain ⟨ae,cc⟩:∃ ae,ac.heap.size=ae:=⟨_,rfl⟩;clear av b7 aj a1 a6 b2 b3;go_upto_region 4 with fail
 rw [←dw.out.1];rw [cc] at dw;have am:=Za (Zb E.out.2.1 dw.out.2.1);have bg:=(am.out.block O a9).trans ah.out.pr;rw [HN.out] at bg;obtain ⟨bi,ay,az,bk,bl,bm,bo,bp,bq,br,bj⟩:=Za0 bg;obtain ⟨cp,cq,db⟩:=Zw dw.out.2.2.1;have ce:O<q.heap.size:=Yl a9 am.out.size;have cd:=dw.out.2.2.2.2;have dl:m.heap.size≤q.heap.size:=am.out.size;clear bg cc bi bk bl bm bo bp bq br bj db;go_cut [14,15] (fun dc dd de=>dd=.bool true∧∃ (du:List Stp) (l:Nat) (so:Option Addr) (c:Nat) (wz:World),dc=.slice so l c∧Hid (du.length=l∧wz.ownsRow q.heap.size 84 3 (.slice so l c) l (Zo du)∧Below q.heap.size q wz)∧wz=de)
 case first =>
  go_region_held3 (fun M=>M.cell? ⟨O,1,none⟩=some (.int .i64 S.bud)∧M.cell? ⟨O,2,none⟩=some (.slice u.po Q u.pc)∧M.cell? ⟨ae,0,none⟩=some (.int .i64 b)∧M.cell? ⟨ae,1,none⟩=some (.slice J dt I)) (go_keep)
   ((go_at_call 25;refine (ct.out _ al.heap.size J I (Zb am.out (Yh _ _).drew) (Zx dw.out.2.2.2.1 (Yh _ _).drew)).mono ?_;rintro e dv ⟨du,so,c,rfl,cj,b9⟩;have cu:Hid (dv.ownsRow q.heap.size 84 3 (.slice so du.length c) du.length (Zo du)):=cj;have ag:Hid (Below q.heap.size q dv):=Zb (Yh _ _).drew b9;have dm:=(ag.out.cell (p:=⟨O,1,none⟩) ce).trans ay;have dp:=(ag.out.cell (p:=⟨O,2,none⟩) ce).trans az;have dq:=(ag.out.cell (p:=⟨ae,0,none⟩) cd).trans cp;have dr:=(ag.out.cell (p:=⟨ae,1,none⟩) cd).trans cq;clear cj b9))
  all_goals
   go_wp2_with fail
   go_meet
   exact ⟨rfl,du,_,so,c,_,rfl,⟨rfl,cu.out,ag.out⟩,rfl⟩
 case rest =>
  obtain ⟨rfl,du,l,so,c,wz,rfl,R,rfl⟩:=hcut;have ao:=Za (Zb dw.out.2.1 R.out.2.2);have bu:=Za (Zb K0.out.2.2 (Zb E.out.2.1 ao.out));obtain ⟨df,dh,di⟩:=Zw ((ao.out.block _ E.out.2.2.2.2.2).trans E.out.2.2.1);have cv:Hid (OwnAt wz go F aa N N ab):=(ah.out.below (Zb E.out.2.1 ao.out)).own;have ad:Hid (wz.ownsRow m.heap.size 82 4 (.slice L dt vc) dt (Ze ps)):=Zx E.out.2.2.2.1 ao.out;have cz:=Za (Zlx go F aa N N ab b L dt vc (Ze ps) wz cv.out HQ.out.1 (Zr ad.out (Ye _)) (fun g V U=>by have b0:=(ad.out.lt g V).1;have b1:=a0.out g U;omega));clear ay az cp cq;go_wp2_with fail
  refine cz.out.mono ?_;rintro e dv ⟨⟨x,rfl⟩,cg,hc5⟩;have cy:Hid (dv.ownsRow q.heap.size 84 3 (.slice so l c) l (Zo du)):=Zz R.out.2.1 (fun g V=>hc5.block g (R.out.2.1.lt g V).2 (fun ak=>by
   have b0:=(R.out.2.1.lt g V).1;rcases ak with ak | ak
   ·have b1:=a0.out g ak;omega
   ·exact Zb8 ad.out R.out.2.1 (by decide) g ak V))
  have bw:Hid (∀ y,Za2 F (.slice L dt vc) wz dv y→F y∨w.heap.size≤y):=by
   rintro y (d | d | d)
   ·exact .inl d
   ·exact .inr (by have:=(ad.out.lt y d).1;omega)
   ·exact .inr (Ym bu.out.size d.1)
  have bv:Hid (Chg F w dv):=(Chg.of_below bu.out).trans hc5 (fun y d=>by
   rcases d with d | d
   ·exact .inl d
   ·exact .inr (by have:=(ad.out.lt y d).1;omega))
  have cw:=Za (ZlQ go (Za2 F (.slice L dt vc) wz dv) (aa+1) N N ab so l c (Zo du) dv cg HQ.out.2 (Zr cy.out (Ye _)) (fun g V U=>by
   have b0:=R.out.2.1.lt g V;rcases U with U | U | U
   ·have b1:=a0.out g U;omega
   ·exact Zb8 ad.out R.out.2.1 (by decide) g U V
   ·omega))
  clear cg hc5 df dh di;go_wp2_with fail
  refine cw.out.mono ?_;rintro e cr ⟨⟨x,rfl⟩,ch,ca⟩;have HE:Hid (∃ F',OwnAt cr go F' (aa+1) N N (ab+1)∧(∀ y,F' y→F y∨w.heap.size≤y)∧Chg F w cr):=by
   have cm:∀ y,(Value.slice so l c).ownBlock=some y→w.heap.size≤y:=fun y d=>by have:=(R.out.2.1.lt y d).1;omega
   refine ⟨_,ch,fun y d=>?_,bv.out.trans ca (fun y d=>?_)⟩
   ·rcases d with d | d | d
    ·exact bw.out y d
    ·exact .inr (cm y d)
    ·exact .inr (Ym bv.out.size d.1)
   ·rcases d with d | d
    ·exact bw.out y d
    ·exact .inr (cm y d)
  clear ch ca;go_wp2_with fail
  go_ret
  exact ⟨rfl,HE.out⟩
end Lw
end Go.Proofs.YtmgkcbdlfodjmaaGreatDoor
