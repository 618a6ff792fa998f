import Derived.Test.YtmgkcbdlfodjmaaGreatDoorBqP
set_option maxRecDepth 100000
set_option maxHeartbeats 16000000
namespace Go.Proofs.YtmgkcbdlfodjmaaGreatDoor
open Go.RowKit
namespace Lw
open Co
theorem ZhW {w:World} {g:Nat} {d c1 c2 c3 c4 c5 E m A D q:Value} {t:TypeId} (h:w.heap[g]?=some (.cells #[d,c1,c2,c3,c4,c5,E,m,A,D,q] t (0,0))) :
  w.cell? ⟨g,0,none⟩=some d∧w.cell? ⟨g,1,none⟩=some c1∧w.cell? ⟨g,2,none⟩=some c2∧w.cell? ⟨g,3,none⟩=some c3∧w.cell? ⟨g,4,none⟩=some c4∧w.cell? ⟨g,5,none⟩=some c5∧w.cell? ⟨g,6,none⟩=some E∧w.cell? ⟨g,7,none⟩=some m:=by
 refine ⟨?_,?_,?_,?_,?_,?_,?_,?_⟩ <;> simp [World.cell?,h]
theorem Ze3 {w h:World} {v:Value} {n:Nat} {m:List Value} (d:RowAt w v n m) (L:w.heap.size≤h.heap.size) (J:∀ g,v.ownBlock=some g→h.heap[g]?=w.heap[g]?):RowAt h v n m:=by
 obtain ⟨q,A,rfl,I,d⟩:=d;refine ⟨q,A,rfl,I,?_⟩;rcases d with d | ⟨b,off,rfl,D,E⟩
 ·exact .inl d
 ·refine .inr ⟨b,off,rfl,Yl D L,fun j x M=>?_⟩;rw [Yn (J b rfl)];exact E j x M
def Blk (S:Zh) (v:ZA) (g:Nat):Prop:=(Value.slice v.po S.pools.length v.pc).ownBlock=some g∨(Value.slice v.so S.srv.length v.sc).ownBlock=some g∨(Value.slice v.wo S.wts.length v.wc).ownBlock=some g∨(Value.slice v.tqo S.plan.length v.tc).ownBlock=some g
theorem StaAt.keep {w q:World} {S:Zh} {v:ZA} {G:Nat→Prop} (h:StaAt w S v) (D:Chg G w q) (A:∀ g,Blk S v g→g<w.heap.size) (hd:∀ g,Blk S v g→¬G g):StaAt q S v:=by
 have m:∀ g,Blk S v g→q.heap[g]?=w.heap[g]?:=fun g d=>D.block g (A g d) (hd g d)
 exact ⟨Ze3 h.p D.size (fun g d=>m g (.inl d)),Ze3 h.s D.size (fun g d=>m g (.inr (.inl d))),Ze3 h.t D.size (fun g d=>m g (.inr (.inr (.inl d)))),Ze3 h.l D.size (fun g d=>m g (.inr (.inr (.inr d))))⟩
theorem NewSta.at {w h:World} {S:Zh} {v:ZA} (d:NewSta w h S v):StaAt h S v:=⟨Zf d.p,Zf d.s,Zf d.t,Zf d.l⟩
theorem NewSta.blk {w m:World} {S:Zh} {v:ZA} (h:NewSta w m S v):∀ g,Blk S v g→w.heap.size≤g∧g<m.heap.size:=by
 rintro g (d | d | d | d)
 ·exact h.p.lt g d
 ·exact h.s.lt g d
 ·exact h.t.lt g d
 ·exact h.l.lt g d
theorem NewSta.nx {w h m:World} {S:Zh} {v:ZA} (d:NewSta w h S v) (hb:Below h.heap.size h m):NewSta w m S v:=⟨Zx d.p hb,Zx d.s hb,Zx d.t hb,Zx d.l hb⟩
structure Seen (w:World) (gx gp go:Nat) (S:Zh) (op:ZB) (Fp F:Nat→Prop) (u:ZA) (q1 q2 q4:Nat):Prop where
 pr:∃ nx hb hv,w.heap[gx]?=some (ZbE (.pointer (some ⟨gp,0,none⟩)) S.bud (.slice u.po S.pools.length u.pc) (.slice u.so S.srv.length u.sc) (.slice u.wo S.wts.length u.wc) (.slice u.tqo S.plan.length u.tc) S.begun S.back nx hb hv)
 desk:DeskAt w gp S op Fp
 ref:StaAt w S u
 rlt:∀ g,Blk S u g→g<w.heap.size
 own:OwnAt w go F q1 q2 q2 q4
 dx:¬F gx
 dp:∀ y,Fp y→¬F y
 dr:∀ g,Blk S u g→¬F g
theorem Seen.next {w J:World} {m M E:Nat} {S:Zh} {op:ZB} {L F D:Nat→Prop} {u:ZA} {Y aa ab Q I R:Nat} (h:Seen w m M E S op L F u Y aa ab) (q:Chg F w J) (U:OwnAt J E D Q I I R) (hF:∀ y,D y→F y∨w.heap.size≤y):Seen J m M E S op L D u Q I R:=by
 obtain ⟨nx,hb,V,N⟩:=h.pr;have X:m<w.heap.size:=(Ya.1 N).1;refine ⟨⟨nx,hb,V,(q.block m X h.dx).trans N⟩,h.desk.keep q h.dp,h.ref.keep q h.rlt h.dr,fun g A=>Yl (h.rlt g A) q.size,U,fun d=>?_,fun y O d=>?_,fun g A d=>?_⟩
 ·rcases hF m d with d | d
  ·exact h.dx d
  ·omega
 ·rcases hF y d with d | d
  ·exact h.dp y O d
  ·have:=h.desk.lt y O;omega
 ·rcases hF g d with d | d
  ·exact h.dr g A d
  ·have:=h.rlt g A;omega
theorem Zju {w I:World} {A:Nat} {S:Zh} {F:Nat→Prop} {v:ZA} {D q E:Nat} (Q:OwnAt w A F D q q E) (hb:Below w.heap.size w I) (L:D≤1099511627776∧q≤1099511627776∧E≤1099511627776) (h:NewSta w I S v) :
  Calls Tryz.prog 14 #[.pointer (some ⟨A,0,none⟩),Zg0 S v] I fun e N=>(∃ x,e=.returned x)∧∃ J,OwnAt N A J (D+1) (q+1) (q+1) (E+1)∧(∀ y,J y→F y∨w.heap.size≤y)∧Chg F w N:=by
 have hd:∀ g,Blk S v g→¬F g:=fun g m d=>by
  have:=Q.lt g d;have O:=(h.blk g m).1;omega
 have V:OwnAt I A F D q q E:=Q.keep (G:=fun _=>False) (Chg.of_below hb) (fun _ _ d=>d);refine (Znz A F D q q E S.bud v.po _ v.pc v.so _ v.sc v.wo _ v.wc v.tqo _ v.tc S.begun S.back _ _ _ _ I V ⟨L.1,L.2.1,L.2.1,L.2.2⟩ ⟨Zr h.p (Ye _),fun g m=>hd g (.inl m)⟩ ⟨Zr h.s (Ye _),fun g m=>hd g (.inr (.inl m))⟩ ⟨Zr h.t (Ye _),fun g m=>hd g (.inr (.inr (.inl m)))⟩ ⟨Zr h.l (Ye _),fun g m=>hd g (.inr (.inr (.inr m)))⟩).mono ?_;rintro e N ⟨X,J,R,O,U⟩;refine ⟨X,J,R,fun y M=>?_,(Chg.of_below hb).trans U (fun y M=>?_)⟩
 ·rcases O y M with d | d | d | d | d | d
  ·exact .inl d
  ·exact .inr (h.blk y (.inl d)).1
  ·exact .inr (h.blk y (.inr (.inl d))).1
  ·exact .inr (h.blk y (.inr (.inr (.inl d)))).1
  ·exact .inr (h.blk y (.inr (.inr (.inr d)))).1
  ·exact .inr (Ym hb.size d)
 ·rcases M with d | d | d | d | d
  ·exact .inl d
  ·exact .inr (h.blk y (.inl d)).1
  ·exact .inr (h.blk y (.inr (.inl d))).1
  ·exact .inr (h.blk y (.inr (.inr (.inl d)))).1
  ·exact .inr (h.blk y (.inr (.inr (.inr d)))).1
theorem ZmB (I al go:Nat) (bud:Int) (ps:List Pl) (ss:List Srv) (q:List Wtr) (m:List Stp) (d c6:Bool) (op:ZB) (bz F:Nat→Prop) (ao:Option Addr) (ap:Nat) (aq:Option Addr) (ar:Nat) (au:Option Addr) (av:Nat) (aw:Option Addr) (ax:Nat) (bs ay bt:Nat) (w:World)
  (h:Seen w I al go ⟨bud,ps,ss,q,m,d,c6⟩ op bz F ⟨ao,ap,aq,ar,au,av,aw,ax⟩ bs ay bt) (co:Zjy ⟨bud,ps,ss,q,m,d,c6⟩) (b8:Zlz ⟨bud,ps,ss,q,m,d,c6⟩) (cu:bs≤1099511627770∧ay≤1099511627770∧bt≤1099511627770) :
  Calls Tryz.prog 6 #[.pointer (some ⟨I,0,none⟩),.pointer (some ⟨go,0,none⟩)] w fun e w'=>e=.returned (.bool true)∧∃ F',OwnAt w' go F' (bs+2) (ay+2) (ay+2) (bt+2)∧(∀ y,F' y→F y∨w.heap.size≤y)∧Chg F w w':=by
 have b0:=Za h;have ci:=Za co;have HF:=Za b8;obtain ⟨cx,cy,cz⟩:=cu;obtain ⟨nx,hb,cp,bq⟩:=h.pr;have cv:I<w.heap.size:=(Ya.1 bq).1;simp only at bq;obtain ⟨az,a0,a1,a6,a7,a8,a9,bc⟩:=ZhW bq;have HP:=Za bq;have bl:=Za (Zmp al ⟨bud,ps,ss,q,m,d,c6⟩ op bz w h.desk b8);clear h co b8 bq;go_enter Tryz.func6,Tryz.ntmps6
 go_wp2_with fail
 refine bl.out.mono ?_;rintro e w1 ⟨⟨N,O,Q,R,U,V,X,Y⟩,rfl,b9,bx⟩;simp only;have K1:Hid (NewSta w w1 ⟨bud,ps,ss,q,m,d,c6⟩ ⟨N,O,Q,R,U,V,X,Y⟩∧Below w.heap.size w w1):=⟨b9,bx⟩;obtain ⟨A,bm⟩:∃ A,A=w1.alloc (.cells #[.int .i64 bud,.slice N ps.length O,.slice Q ss.length R,.slice U q.length V,.slice X m.length Y,.bool d,.bool c6] 44):=⟨_,rfl⟩;have M:Below w1.heap.size w1 A:=by rw [bm];exact Zc _ _
 have cd:A.heap[w1.heap.size]?=some (.cells #[.int .i64 bud,.slice N ps.length O,.slice Q ss.length R,.slice U q.length V,.slice X m.length Y,.bool d,.bool c6] 44):=by rw [bm];exact Zd _ _ rfl
 have cb:A.heap[I]?=some (ZbE (.pointer (some ⟨al,0,none⟩)) bud (.slice ao ps.length ap) (.slice aq ss.length ar) (.slice au q.length av) (.slice aw m.length ax) d c6 nx hb cp):=((Zb bx M).block I cv).trans HP.out;have E:Hid (A=w1.alloc (.cells #[.int .i64 bud,.slice N ps.length O,.slice Q ss.length R,.slice U q.length V,.slice X m.length Y,.bool d,.bool c6] 44)∧Below w.heap.size w A∧A.heap[w1.heap.size]?=some (.cells #[.int .i64 bud,.slice N ps.length O,.slice Q ss.length R,.slice U q.length V,.slice X m.length Y,.bool d,.bool c6] 44)∧A.heap[I]?=some (ZbE (.pointer (some ⟨al,0,none⟩)) bud (.slice ao ps.length ap) (.slice aq ss.length ar) (.slice au q.length av) (.slice aw m.length ax) d c6 nx hb cp)∧NewSta w A ⟨bud,ps,ss,q,m,d,c6⟩ ⟨N,O,Q,R,U,V,X,Y⟩∧w1.heap.size<A.heap.size):=⟨bm,Zb bx M,cd,cb,b9.nx M,by rw [bm];simp⟩;have ak:=Za (ZfU ⟨bud,ps,ss,q,m,d,c6⟩ ⟨N,O,Q,R,U,V,X,Y⟩ ⟨ao,ap,aq,ar,au,av,aw,ax⟩ A.drew ((E.out.2.2.2.2.1.at).nx ((Yh _ A).drew)) ((b0.out.ref.nx E.out.2.1).nx ((Yh _ A).drew)) ci.out);simp only [Zg0] at ak;clear b9 bx M bm bl az a0 a1 a6 a7 a8 a9 bc;go_upto_region 2 with fail
 rw [←E.out.1];obtain ⟨az,a0,a1,a6,a7,a8,a9,bc⟩:=ZhW cb;obtain ⟨bd,be,bf,bg,bh,bi,bj,bk⟩:=ZcT cd;clear cb cd;go_cut [6] (fun v ch=>v=.bool true∧Hid (Below A.heap.size A ch))
 case first =>
  go_region_with (go_at_call 13;refine ak.out.mono ?_;rintro e cg ⟨rfl,bp⟩)
  all_goals
   have K9:Hid (Below A.heap.size A cg):=Zb ((Yh _ A).drew) bp;clear bp;go_wp2_with fail
   go_meet
   exact ⟨rfl,K9.out⟩
 case rest =>
  obtain ⟨rfl,J⟩:=hcut;have L:Hid (Below w.heap.size w wc∧NewSta w wc ⟨bud,ps,ss,q,m,d,c6⟩ ⟨N,O,Q,R,U,V,X,Y⟩∧wc.heap[w1.heap.size]?=some (.cells #[.int .i64 bud,.slice N ps.length O,.slice Q ss.length R,.slice U q.length V,.slice X m.length Y,.bool d,.bool c6] 44)):=
   ⟨Zb E.out.2.1 J.out,E.out.2.2.2.2.1.nx J.out,(J.out.block _ E.out.2.2.2.2.2).trans E.out.2.2.1⟩
  have HT:=Za (Zju b0.out.own L.out.1 ⟨by omega,by omega,by omega⟩ L.out.2.1);simp only [Zg0] at HT;clear az a0 a1 a6 a7 a8 a9 bc bd be bf bg bh bi bj bk ak;obtain ⟨bd,be,bf,bg,bh,bi,bj,bk⟩:=ZcT L.out.2.2;go_wp2_with fail
  refine HT.out.mono ?_;rintro e aa ⟨⟨x,rfl⟩,cs,cm,b1,b7⟩;have bv:=Za (b0.out.next b7 cm b1);have bw:Hid ((∀ y,cs y→F y∨w.heap.size≤y)∧Chg F w aa):=⟨b1,b7⟩;obtain ⟨cr,ck,cq,br⟩:=bv.out.pr;have cw:I<aa.heap.size:=(Ya.1 br).1;simp only at br;obtain ⟨az,a0,a1,a6,a7,a8,a9,bc⟩:=ZhW br;have ct:=Za br;have bl:=Za (Zmp al ⟨bud,ps,ss,q,m,d,c6⟩ op bz aa bv.out.desk HF.out);clear cm b1 b7 br HT bd be bf bg bh bi bj bk J L E K1;go_wp2_with fail
  refine bl.out.mono ?_;rintro e aj ⟨⟨ab,ac,ad,ae,af,ag,ah,ai⟩,rfl,cl,b6⟩;simp only;obtain ⟨D,bo⟩:∃ D,D=aj.alloc (.cells #[.int .i64 bud,.slice ab ps.length ac,.slice ad ss.length ae,.slice af q.length ag,.slice ah m.length ai,.bool d,.bool c6] 44):=⟨_,rfl⟩;have M:Below aj.heap.size aj D:=by rw [bo];exact Zc _ _
  have ce:D.heap[aj.heap.size]?=some (.cells #[.int .i64 bud,.slice ab ps.length ac,.slice ad ss.length ae,.slice af q.length ag,.slice ah m.length ai,.bool d,.bool c6] 44):=by rw [bo];exact Zd _ _ rfl
  have cc:D.heap[I]?=some (ZbE (.pointer (some ⟨al,0,none⟩)) bud (.slice ao ps.length ap) (.slice aq ss.length ar) (.slice au q.length av) (.slice aw m.length ax) d c6 cr ck cq):=((Zb b6 M).block I cw).trans ct.out;have E:Hid (D=aj.alloc (.cells #[.int .i64 bud,.slice ab ps.length ac,.slice ad ss.length ae,.slice af q.length ag,.slice ah m.length ai,.bool d,.bool c6] 44)∧Below aa.heap.size aa D∧D.heap[aj.heap.size]?=some (.cells #[.int .i64 bud,.slice ab ps.length ac,.slice ad ss.length ae,.slice af q.length ag,.slice ah m.length ai,.bool d,.bool c6] 44)∧D.heap[I]?=some (ZbE (.pointer (some ⟨al,0,none⟩)) bud (.slice ao ps.length ap) (.slice aq ss.length ar) (.slice au q.length av) (.slice aw m.length ax) d c6 cr ck cq)∧NewSta aa D ⟨bud,ps,ss,q,m,d,c6⟩ ⟨ab,ac,ad,ae,af,ag,ah,ai⟩∧aj.heap.size<D.heap.size):=⟨bo,Zb b6 M,ce,cc,cl.nx M,by rw [bo];simp⟩;have ak:=Za (ZfU ⟨bud,ps,ss,q,m,d,c6⟩ ⟨ab,ac,ad,ae,af,ag,ah,ai⟩ ⟨ao,ap,aq,ar,au,av,aw,ax⟩ D.drew ((E.out.2.2.2.2.1.at).nx ((Yh _ D).drew)) ((bv.out.ref.nx E.out.2.1).nx ((Yh _ D).drew)) ci.out);simp only [Zg0] at ak;clear cl b6 M bo bl az a0 a1 a6 a7 a8 a9 bc;go_upto_region 7 with fail
  rw [←E.out.1];obtain ⟨az,a0,a1,a6,a7,a8,a9,bc⟩:=ZhW cc;obtain ⟨bd,be,bf,bg,bh,bi,bj,bk⟩:=ZcT ce;clear cc ce;go_cut [8] (fun v ch=>v=.bool true∧Hid (Below D.heap.size D ch))
  case first =>
   go_region_with (go_at_call 13;refine ak.out.mono ?_;rintro e cg ⟨rfl,bp⟩)
   all_goals
    have K9:Hid (Below D.heap.size D cg):=Zb ((Yh _ D).drew) bp;clear bp;go_wp2_with fail
    go_meet
    exact ⟨rfl,K9.out⟩
  case rest =>
   obtain ⟨rfl,J⟩:=hcut;rename_i wd
   have L:Hid (Below aa.heap.size aa wc∧NewSta aa wc ⟨bud,ps,ss,q,m,d,c6⟩ ⟨ab,ac,ad,ae,af,ag,ah,ai⟩∧wc.heap[aj.heap.size]?=some (.cells #[.int .i64 bud,.slice ab ps.length ac,.slice ad ss.length ae,.slice af q.length ag,.slice ah m.length ai,.bool d,.bool c6] 44)):=
    ⟨Zb E.out.2.1 J.out,E.out.2.2.2.2.1.nx J.out,(J.out.block _ E.out.2.2.2.2.2).trans E.out.2.2.1⟩
   have HT:=Za (Zju bv.out.own L.out.1 ⟨by omega,by omega,by omega⟩ L.out.2.1);simp only [Zg0] at HT;clear az a0 a1 a6 a7 a8 a9 bc bd be bf bg bh bi bj bk ak;obtain ⟨bd,be,bf,bg,bh,bi,bj,bk⟩:=ZcT L.out.2.2;go_wp2_with fail
   refine HT.out.mono ?_;rintro e cf ⟨⟨x,rfl⟩,bu,ca,cj,hc5⟩;have HK:=Za (Zhw go bu (bs+1+1) (ay+1+1) (bt+1+1) cf ca ⟨by omega,by omega,by omega⟩);have KE:Hid (OwnAt cf go bu (bs+2) (ay+2) (ay+2) (bt+2)∧(∀ y,bu y→F y∨w.heap.size≤y)∧Chg F w cf):=by
    refine ⟨ca,fun y am=>?_,bw.out.2.trans hc5 (fun y am=>bw.out.1 y am)⟩;rcases cj y am with am | am
    ·exact bw.out.1 y am
    ·exact .inr (Ym bw.out.2.size am)
   clear ca cj hc5 HT bd be bf bg bh bi bj bk J L E;go_wp2_with fail
   refine HK.out.mono ?_;rintro e c0 ⟨rfl,rfl⟩;go_wp2_with fail
   go_ret
   exact ⟨rfl,bu,KE.out.1,KE.out.2.1,KE.out.2.2⟩
theorem Zjd (A I O:Nat) (S:Zh) (op:ZB) (E F:Nat→Prop) (u:ZA) (m d q:Nat) (w:World) (h:Seen w A I O S op E F u m d q) (N:Zjy S) (L:Zlz S) (M:m≤1099511627770∧d≤1099511627770∧q≤1099511627770) :
  Calls Tryz.prog 6 #[.pointer (some ⟨A,0,none⟩),.pointer (some ⟨O,0,none⟩)] w fun e J=>e=.returned (.bool true)∧∃ D,OwnAt J O D (m+2) (d+2) (d+2) (q+2)∧(∀ y,D y→F y∨w.heap.size≤y)∧Chg F w J:=
 ZmB A I O S.bud S.pools S.srv S.wts S.plan S.begun S.back op E F u.po u.pc u.so u.sc u.wo u.wc u.tqo u.tc m d q w h N L M
def Zbp (S:Zh) (i:Nat):Zh:={S with wts:=S.wts.eraseIdx i}
def Zaa (S:Zh) (i:Nat):Zh:={S with srv:=S.srv.eraseIdx i}
def ZcM (S:Zh) (nx:Int) (x:Pl) (client:Int):Zh:={S with srv:=S.srv++[⟨nx,x.nm,x.fr,client⟩]}
def ZbU (S:Zh) (k:Nat) (c:Int):Zh:={S with srv:=S.srv.modify k (fun x=>{x with client:=c})}
def Zde (S:Zh):Option (Option Nat):=if (S.srv.length:Int)<S.bud then some none else match S.srv.findIdx? (ZU ⟨#[]⟩ true) with | none=>none | some k=>some (some k)
def Z9 (S:Zh) (nx:Int) (i:Nat) (c:Wtr):Option (Zh×Int):=
 match S.pools.find? (Zl c.pool) with
 | none=>none
 | some x=>match S.srv.findIdx? (ZU c.pool false) with
  | some k=>some (ZbU (Zbp S i) k c.client,nx)
  | none=>if x.sz≤(Zs (Zj c.pool) S.srv:Int)∨S.bud<(S.srv.length:Int) then none
   else match Zde S with
    | none=>none
    | some none=>some (ZcM (Zbp S i) nx x c.client,nx+1)
    | some (some k)=>some (ZcM (Zaa (Zbp S i) k) nx x c.client,nx+1)
def ZaK (S:Zh) (nx:Int):Nat→List Wtr→Option (Zh×Int)
 | _,[]=>none
 | i,c :: r=>match Z9 S nx i c with | some y=>some y | none=>ZaK S nx (i+1) r
def ZI:Nat→Zh→Int→Zh×Int
 | 0,S,nx=>(S,nx)
 | f+1,S,nx=>match ZaK S nx 0 S.wts with | none=>(S,nx) | some y=>ZI f y.1 y.2
def ZT (S:Zh) (id c:Int):Zh:={S with srv:=S.srv.map fun x=>if x.id=id then {x with client:=c} else x}
def ZR (S:Zh) (id:Int):Zh:={S with srv:=S.srv.filter fun x=>!decide (x.id=id)}
def ZO (S:Zh) (c:Int):Zh:={S with wts:=S.wts.filter fun x=>!decide (x.client=c)}
def ZeD (S:Zh) (op:Int) (x:Pl) (c:Int):Zh:={S with srv:=S.srv++[⟨op+1,x.nm,x.fr,c⟩]}
def ZaT (S:Zh) (op:Int) (c:Wtr):Option (Zh×Int):=
 match S.pools.find? (Zl c.pool) with
 | none=>none
 | some x=>match S.srv.find? (fun s=>Zj x.nm s&&Zp 0 s) with
  | some s=>some (ZT S s.id c.client,op)
  | none=>if x.sz≤(Zs (Zj x.nm) S.srv:Int) then none
   else if (S.srv.length:Int)<S.bud then some (ZeD S op x c.client,op+1)
   else match S.srv.find? (Zp 0) with
    | none=>none
    | some s=>if S.bud<(S.srv.length:Int) then none else some (ZeD (ZR S s.id) op x c.client,op+1)
def Zax (S:Zh) (op:Int):List Wtr→Option (Zh×Int)
 | []=>none
 | c :: r=>match ZaT S op c with | some y=>some (ZO y.1 c.client,y.2) | none=>Zax S op r
def ZD:Nat→Zh→Int→Zh×Int
 | 0,S,op=>(S,op)
 | f+1,S,op=>match Zax S op S.wts with | none=>(S,op) | some y=>ZD f y.1 y.2
structure Inv (S:Zh) (op:Int):Prop where
 ids:S.srv.Pairwise (fun a b=>a.id<b.id)
 low:∀ x∈S.srv,1≤x.id∧x.id≤op
 op0:0≤op
 cli:S.wts.Pairwise (fun a b=>a.client≠b.client)
theorem Znt {a b:ByteArray} (d:a.toList=b.toList):a=b:=by
 rw [ByteArray.toList_eq,ByteArray.toList_eq] at d;cases a;cases b;simp at d;rw [d]
theorem Zfl {S:Zh} {n:ByteArray} {x:Pl} (d:S.pools.find? (Zl n)=some x):x.nm=n:=by
 have:=List.find?_some d;simp only [Zl,beq_iff_eq] at this;exact Znt this
theorem ZaU {α:Type} (p:α→Bool):∀ l:List α,(∀ k,l.findIdx? p=some k→∃ x,l[k]?=some x∧l.find? p=some x)∧(l.findIdx? p=none→l.find? p=none)
 | []=>by simp
 | y :: r=>by
  obtain ⟨q,A⟩:=ZaU p r;cases I:p y with
  | true =>
   refine ⟨fun k d=>?_,fun h=>?_⟩
   ·simp [List.findIdx?_cons,I] at d;subst d;exact ⟨y,rfl,by simp [I]⟩
   ·simp [List.findIdx?_cons,I] at h
  | false =>
   refine ⟨fun k d=>?_,fun h=>?_⟩
   ·simp only [List.findIdx?_cons,I] at d;cases m:r.findIdx? p with
    | none=>rw [m] at d;simp at d
    | some j =>
     rw [m] at d;simp at d;subst d;obtain ⟨x,D,E⟩:=q j m;exact ⟨x,by simpa using D,by simp [I,E]⟩
   ·simp only [List.findIdx?_cons,I] at h;have:r.findIdx? p=none:=by
     cases m:r.findIdx? p with
     | none=>rfl
     | some j=>rw [m] at h;simp at h
    simp [I,A this]
theorem Zgb:∀ (l:List Srv),l.Pairwise (fun a b=>a.id<b.id)→∀ (k:Nat) (s:Srv) (c:Int),l[k]?=some s→(l.map fun x=>if x.id=s.id then {x with client:=c} else x)=l.modify k (fun x=>{x with client:=c})
 | [],_,k,s,c,d=>by simp at d
 | y :: r,h,0,s,c,d=>by
  simp at d;subst d;have m:=(List.pairwise_cons.1 h).1;simp only [List.map_cons,if_true,List.modify_zero_cons];congr 1;refine (List.map_congr_left (fun x A=>?_)).trans (List.map_id _);rw [if_neg (by have:=m x A;omega)];rfl
 | y :: r,h,k+1,s,c,d=>by
  have m:=(List.pairwise_cons.1 h).1;have q:s∈r:=Yo (by simpa using d);have ih:=Zgb r (List.pairwise_cons.1 h).2 k s c (by simpa using d);simp only [List.map_cons,List.modify_succ_cons];rw [ih,if_neg (by have:=m s q;omega)]
theorem Zdg:∀ (l:List Srv),l.Pairwise (fun a b=>a.id<b.id)→∀ (k:Nat) (s:Srv),l[k]?=some s→(l.filter fun x=>!decide (x.id=s.id))=l.eraseIdx k
 | [],_,k,s,d=>by simp at d
 | y :: r,h,0,s,d=>by
  simp at d;subst d;have m:=(List.pairwise_cons.1 h).1;simp only [List.filter_cons,decide_true,Bool.not_true,Bool.false_eq_true,if_false,List.eraseIdx_zero,List.tail_cons];refine List.filter_eq_self.2 (fun x A=>?_);have:=m x A;simp;omega
 | y :: r,h,k+1,s,d=>by
  have m:=(List.pairwise_cons.1 h).1;have q:s∈r:=Yo (by simpa using d);have ih:=Zdg r (List.pairwise_cons.1 h).2 k s (by simpa using d);have:=m s q;rw [List.filter_cons,if_pos (by simp;omega),ih];rfl
theorem ZcB:∀ (l:List Wtr),l.Pairwise (fun a b=>a.client≠b.client)→∀ (k:Nat) (s:Wtr),l[k]?=some s→(l.filter fun x=>!decide (x.client=s.client))=l.eraseIdx k
 | [],_,k,s,d=>by simp at d
 | y :: r,h,0,s,d=>by
  simp at d;subst d;have m:=(List.pairwise_cons.1 h).1;simp only [List.filter_cons,decide_true,Bool.not_true,Bool.false_eq_true,if_false,List.eraseIdx_zero,List.tail_cons];refine List.filter_eq_self.2 (fun x A=>?_);have:=m x A;simp;omega
 | y :: r,h,k+1,s,d=>by
  have m:=(List.pairwise_cons.1 h).1;have q:s∈r:=Yo (by simpa using d);have ih:=ZcB r (List.pairwise_cons.1 h).2 k s (by simpa using d);have:=m s q;rw [List.filter_cons,if_pos (by simp;omega),ih];rfl
theorem ZoH {S:Zh} {op:Int} (d:Inv S op) {i:Nat} {c:Wtr} (h:S.wts[i]?=some c) :
  (ZaT S op c).map (fun y=>(ZO y.1 c.client,y.2+1))=Z9 S (op+1) i c:=by
 have V:∀ T:Zh,T.wts=S.wts→ZO T c.client=Zbp T i:=by
  intro T O;unfold ZO Zbp;rw [O,ZcB S.wts d.cli i c h]
 unfold ZaT Z9;cases Q:S.pools.find? (Zl c.pool) with
 | none=>rfl
 | some x =>
  have J:=Zfl Q;have R:(fun s=>Zj x.nm s&&Zp 0 s)=ZU c.pool false:=by
   funext s
   simp only [Zj,Zp,ZU,J,Bool.false_or];exact Bool.and_comm _ _
  have U:Zp 0=ZU ⟨#[]⟩ true:=by
   funext s
   simp [Zp,ZU]
  simp only;rw [R,U,J];obtain ⟨L,f2⟩:=ZaU (ZU c.pool false) S.srv;cases I:S.srv.findIdx? (ZU c.pool false) with
  | some k =>
   obtain ⟨s,A,D⟩:=L k I;rw [D];simp only [Option.map_some];congr 2;unfold ZO ZT ZbU Zbp;rw [ZcB S.wts d.cli i c h,Zgb S.srv d.ids k s c.client A]
  | none =>
   rw [f2 I];simp only;by_cases E:x.sz≤(Zs (Zj c.pool) S.srv:Int)
   ·rw [if_pos E,if_pos (.inl E)];rfl
   ·rw [if_neg E];by_cases hb:(S.srv.length:Int)<S.bud
    ·rw [if_pos hb,if_neg (by omega)];unfold Zde;rw [if_pos hb];simp only [Option.map_some];congr 2;unfold ZO ZeD ZcM Zbp;rw [ZcB S.wts d.cli i c h]
    ·rw [if_neg hb];obtain ⟨M,N⟩:=ZaU (ZU ⟨#[]⟩ true) S.srv;cases m:S.srv.findIdx? (ZU ⟨#[]⟩ true) with
     | none =>
      rw [N m];simp only [Option.map_none];split
      ·rfl
      ·unfold Zde;rw [if_neg hb,m]
     | some j =>
      obtain ⟨s,A,D⟩:=M j m;rw [D];simp only;by_cases q:S.bud<(S.srv.length:Int)
      ·rw [if_pos q,if_pos (.inr q)];rfl
      ·rw [if_neg q,if_neg (by omega)];unfold Zde;rw [if_neg hb,m];simp only [Option.map_some];congr 2;unfold ZO ZeD ZR ZcM Zaa Zbp;rw [ZcB S.wts d.cli i c h,Zdg S.srv d.ids j s A]
theorem ZeS {α:Type} {p:α→Bool} {l:List α} {k:Nat} {x:α} (q:∀ y∈l.take k,p y=false) (h:l[k]?=some x) (A:p x=true):l.find? p=some x:=by
 obtain ⟨D,d,m⟩:=(ZaU p l).1 k (Zdv q h A);rw [h] at d;rw [m,Option.some.inj d]
theorem ZfN {α:Type} {p:α→Bool} {l:List α} (d:∀ y∈l,p y=false):l.find? p=none:=(ZaU p l).2 (ZcY d)
abbrev svA (x:Srv):Value:=.agg #[.int .i64 x.id,.string x.pool,.int .i64 x.far,.int .i64 x.client]
abbrev Zdn:Srv:=⟨0,⟨#[]⟩,0,0⟩
def orS (o:Option Srv):Srv:=match o with | some s=>s | none=>Zdn
def ZjY (id:Int) (x:Srv):Bool:=x.id == id
theorem ZoZ (A:Option Addr) (n q:Nat) (c:Int) (d:List Wtr) (w:World) (M:RowAt w (.slice A n q) n (ZE d)) (J:d.length=n) (X:n≤maxLen) :
  Calls Tryz.prog 129 #[.slice A n q,.int .i64 c] w fun e w'=>e=.returned (.bool (d.find? (Z3 c)).isSome)∧w'=w:=by
 unfold maxLen at X;have m:Hid (RowAt w (.slice A n q) n (ZE d)∧d.length=n):=⟨M,J⟩;clear M J;go_enter Tryz.func129,Tryz.ntmps129
 go_wp2_with fail
 go_loop [5] (fun i=>∃ k:Nat,k≤n∧i=.int .i64 k∧Hid (∀ y∈d.take k,(Z3 c) y=false)) (fun i=>n - (intOf i).toNat)
 case atStart=>exact ⟨0,Ye _,rfl,by intro y D;simp at D⟩
 case round =>
  obtain ⟨k,ac,rfl,I⟩:=hrel;by_cases Y:k<n
  ·have E:=m.out.1;obtain ⟨⟨N,ae⟩,h⟩:∃ p,d[k]?=some p:=⟨_,Yb (by rw [m.out.2];exact Y)⟩;obtain ⟨aa,off,V,ab,U,c1⟩:=Zdd E h;subst V;simp only at U c1;have ad:(k:Int)<(n:Int):=by omega
   clear E;cases L:(N == c) with
   | true =>
    have O:Hid ((d.find? (Z3 c)).isSome=true):=List.find?_isSome.2 ⟨_,Yo h,L⟩;clear h;go_wp2_with fail
    go_ret
    exact ⟨by rw [O.out];rfl,rfl⟩
   | false =>
    have R:Hid (∀ y∈d.take (k+1),(Z3 c) y=false):=Zbo I.out h (by show (N == c)=false;exact L);clear h;go_wp2_with fail
    go_round
    case rel=>exact ⟨k+1,by omega,by go_num,R.out⟩
    case measure=>simp [intOf];omega
  ·have Q:Hid ((d.find? (Z3 c)).isSome=false):=by
    show _=_;rw [List.find?_eq_none.2 (fun y D=>by rw [I.out y (by rw [Yj (by rw [m.out.2];omega)];exact D)];simp)];rfl
   go_wp2_with fail
   go_ret
   exact ⟨by rw [Q.out];rfl,rfl⟩
theorem Zpj (q:Option Addr) (n m:Nat) (c:Int) (ss:List Srv) (w:World) (L:RowAt w (.slice q n m) n (Zv ss)) (I:ss.length=n) (V:n≤maxLen) :
  Calls Tryz.prog 130 #[.slice q n m,.int .i64 c] w fun e Y=>e=.returned (.bool (ss.find? (ZjY c)).isSome)∧Y=w:=by
 unfold maxLen at V;have h:Hid (RowAt w (.slice q n m) n (Zv ss)∧ss.length=n):=⟨L,I⟩;clear L I;go_enter Tryz.func130,Tryz.ntmps130
 go_wp2_with fail
 go_loop [5] (fun i=>∃ k:Nat,k≤n∧i=.int .i64 k∧Hid (∀ y∈ss.take k,(ZjY c) y=false)) (fun i=>n - (intOf i).toNat)
 case atStart=>exact ⟨0,Ye _,rfl,by intro y A;simp at A⟩
 case round =>
  obtain ⟨k,ac,rfl,E⟩:=hrel;by_cases X:k<n
  ·have D:=h.out.1;obtain ⟨⟨M,ae,af,ag⟩,d⟩:∃ p,ss[k]?=some p:=⟨_,Yb (by rw [h.out.2];exact X)⟩;obtain ⟨aa,off,U,ab,R,c1,c2,c3⟩:=ZbA D d;subst U;simp only at R c1 c2 c3;have ad:(k:Int)<(n:Int):=by omega
   clear D;cases J:(M == c) with
   | true =>
    have N:Hid ((ss.find? (ZjY c)).isSome=true):=List.find?_isSome.2 ⟨_,Yo d,J⟩;clear d;go_wp2_with fail
    go_ret
    exact ⟨by rw [N.out];rfl,rfl⟩
   | false =>
    have Q:Hid (∀ y∈ss.take (k+1),(ZjY c) y=false):=Zbo E.out d (by show (M == c)=false;exact J);clear d;go_wp2_with fail
    go_round
    case rel=>exact ⟨k+1,by omega,by go_num,Q.out⟩
    case measure=>simp [intOf];omega
  ·have O:Hid ((ss.find? (ZjY c)).isSome=false):=by
    show _=_;rw [List.find?_eq_none.2 (fun y A=>by rw [E.out y (by rw [Yj (by rw [h.out.2];omega)];exact A)];simp)];rfl
   go_wp2_with fail
   go_ret
   exact ⟨by rw [O.out];rfl,rfl⟩
theorem Zh4 (L:Option Addr) (n J:Nat) (d:ByteArray) (ai:List Wtr) (w:World) (V:RowAt w (.slice L n J) n (ZE ai)) (R:ai.length=n) (ab:n≤maxLen) :
  Calls Tryz.prog 124 #[.slice L n J,.string d] w fun e w'=>e=.returned (.int .i64 (Zs (Zq d) ai:Int))∧w'=w:=by
 unfold maxLen at ab;have I:Hid (RowAt w (.slice L n J) n (ZE ai)∧ai.length=n):=⟨V,R⟩;clear V R;go_enter Tryz.func124,Tryz.ntmps124
 go_wp2_with fail
 go_loop [5,6] (fun q i=>∃ k m:Nat,k≤n∧m≤k∧i=.int .i64 k∧q=.int .i64 m∧Hid (Zs (Zq d) (ai.take k)=m)) (fun _ i=>n - (intOf i).toNat)
 case atStart=>exact ⟨0,0,Ye _,Yd _,rfl,rfl,by show Zs _ _=0;simp [Zs]⟩
 case round =>
  obtain ⟨k,m,af,ah,rfl,rfl,Q⟩:=hrel;by_cases ac:k<n
  ·have O:=I.out.1;obtain ⟨⟨N,A⟩,D⟩:∃ p,ai[k]?=some p:=⟨_,Yb (by rw [I.out.2];exact ac)⟩;obtain ⟨ad,off,aa,ae,Y,c1⟩:=Zdd O D;subst aa;simp only at Y c1;have ag:(k:Int)<(n:Int):=by omega
   clear O;have aj:=Zg7 (p:=Zq d) D;rw [Q.out] at aj;cases U:(A.toList == d.toList) with
   | true =>
    have E:Hid (Zs (Zq d) (ai.take (k+1))=m+1):=by
     have M:(Zq d) ⟨N,A⟩=true:=U;show _=_;rw [aj,if_pos M]
    clear D aj;go_wp2_with fail
    go_round
    case rel=>exact ⟨k+1,m+1,by omega,by omega,by go_num,by go_num,E.out⟩
    case measure=>simp [intOf];omega
   | false =>
    have E:Hid (Zs (Zq d) (ai.take (k+1))=m):=by
     have M:¬(Zq d) ⟨N,A⟩=true:=fun h=>by rw [show (Zq d) ⟨N,A⟩=(A.toList == d.toList) from rfl,U] at h;simp at h
     show _=_;rw [aj,if_neg M];rfl
    clear D aj;go_wp2_with fail
    go_round
    case rel=>exact ⟨k+1,m,by omega,by omega,by go_num,rfl,E.out⟩
    case measure=>simp [intOf];omega
  ·have X:Hid (Zs (Zq d) ai=m):=by
    show _=_;rw [←Q.out,Yj (by rw [I.out.2];omega)]
   go_wp2_with fail
   go_ret
   exact ⟨by rw [X.out];rfl,rfl⟩
theorem ZhV (D:Option Addr) (n A:Nat) (c:Int) (ss:List Srv) (w:World) (M:RowAt w (.slice D n A) n (Zv ss)) (J:ss.length=n) (aa:n≤maxLen) :
  Calls Tryz.prog 123 #[.slice D n A,.int .i64 c] w fun e w'=>e=.returned (svA (orS (ss.find? (Zp c))))∧Below w.heap.size w w':=by
 unfold maxLen at aa;have m:Hid (RowAt (w.alloc (.cells #[.int .i64 0,.string ⟨#[]⟩,.int .i64 0,.int .i64 0] 86)) (.slice D n A) n (Zv ss)∧ss.length=n):=⟨M.nx (Zc _ _),J⟩;clear M J;go_enter Tryz.func123,Tryz.ntmps123
 go_wp2_with fail
 go_loop [5] (fun i=>∃ k:Nat,k≤n∧i=.int .i64 k∧Hid (∀ y∈ss.take k,(Zp c) y=false)) (fun i=>n - (intOf i).toNat)
 case atStart=>exact ⟨0,Ye _,rfl,by intro y E;simp at E⟩
 case round =>
  obtain ⟨k,ae,rfl,q⟩:=hrel;by_cases ab:k<n
  ·have I:=m.out.1;obtain ⟨⟨N,O,Q,h⟩,d⟩:∃ p,ss[k]?=some p:=⟨_,Yb (by rw [m.out.2];exact ab)⟩;obtain ⟨ac,off,Y,ad,X,c1,c2,c3⟩:=ZbA I d;subst Y;simp only at X c1 c2 c3;have af:(k:Int)<(n:Int):=by omega
   clear I;cases L:(h == c) with
   | true =>
    have R:Hid (ss.find? (Zp c)=some ⟨N,O,Q,h⟩):=ZeS q.out d L;clear d;go_wp2_with fail
    refine bodyPost_ret (v:=svA ⟨N,O,Q,h⟩) (by simp [results,Tryz.results123,go_sem]) rfl ⟨by rw [R.out];rfl,?_⟩;exact Zc _ _
   | false =>
    have V:Hid (∀ y∈ss.take (k+1),(Zp c) y=false):=Zbo q.out d (by show (h == c)=false;exact L);clear d;go_wp2_with fail
    go_round
    case rel=>exact ⟨k+1,by omega,by go_num,V.out⟩
    case measure=>simp [intOf];omega
  ·have U:Hid (ss.find? (Zp c)=none):=ZfN (fun y E=>q.out y (by rw [Yj (by rw [m.out.2];omega)];exact E));go_wp2_with fail
   refine bodyPost_ret (v:=svA Zdn) (by simp [results,Tryz.results123,go_sem]) rfl ⟨by rw [U.out];rfl,?_⟩;exact Zc _ _
theorem ZiK (m:Option Addr) (n h:Nat) (ss:List Srv) (w:World) (E:RowAt w (.slice m n h) n (Zv ss)) (D:ss.length=n) (L:n≤maxLen) :
  Calls Tryz.prog 189 #[.slice m n h] w fun e M=>e=.returned (svA (orS (ss.find? (Zp 0))))∧Below w.heap.size w M:=by
 have A:=Za (ZhV m n h 0 ss (w.alloc (.cells #[.int .i64 0,.string ⟨#[]⟩,.int .i64 0,.int .i64 0] 86)) (E.nx (Zc _ _)) D L);clear E D;go_enter Tryz.func189,Tryz.ntmps189
 go_wp2_with fail
 refine A.out.mono ?_;rintro e w1 ⟨rfl,hb⟩;obtain ⟨⟨N,O,Q,R⟩,q⟩:∃ x,orS (ss.find? (Zp 0))=x:=⟨_,rfl⟩;rw [q];have I:=Za q;obtain ⟨U,V,X,Y,aa⟩:=ZbK hb (g:=w.heap.size) (by simp) (Zd _ _ rfl);have J:Hid (Below w.heap.size w w1):=Zb (Zc _ _) hb;clear hb q A;go_wp2_with fail
 refine bodyPost_ret (v:=svA ⟨N,O,Q,R⟩) (by simp [results,Tryz.results189,go_sem,U,V,X,Y]) rfl ⟨by rw [I.out],?_⟩;have d:w.heap.size≤w.heap.size:=Yd _;exact (((J.out.setCell d _).setCell d _).setCell d _).setCell d _
abbrev zPl:Pl:=⟨⟨#[]⟩,0,0,0⟩
def ZhT (o:Option Pl):Value:=match o with | some p=>.tuple #[plA p,.bool true] | none=>.tuple #[plA zPl,.bool false]
theorem Zjp (E:Option Addr) (n D:Nat) (d:ByteArray) (ps:List Pl) (w:World) (N:RowAt w (.slice E n D) n (Ze ps)) (L:ps.length=n) (ab:n≤maxLen) :
  Calls Tryz.prog 121 #[.slice E n D,.string d] w fun e w'=>e=.returned (ZhT (ps.find? (Zl d)))∧Below w.heap.size w w':=by
 unfold maxLen at ab;have q:Hid (RowAt (w.alloc (ZF zPl)) (.slice E n D) n (Ze ps)∧ps.length=n):=⟨N.nx (Zc _ _),L⟩;clear N L;go_enter Tryz.func121,Tryz.ntmps121
 go_wp2_with fail
 go_loop [6] (fun i=>∃ k:Nat,k≤n∧i=.int .i64 k∧Hid (∀ y∈ps.take k,(Zl d) y=false)) (fun i=>n - (intOf i).toNat)
 case atStart=>exact ⟨0,Ye _,rfl,by intro y I;simp at I⟩
 case round =>
  obtain ⟨k,af,rfl,A⟩:=hrel;by_cases ac:k<n
  ·have J:=q.out.1;obtain ⟨⟨m,O,Q,R⟩,h⟩:∃ p,ps[k]?=some p:=⟨_,Yb (by rw [q.out.2];exact ac)⟩;obtain ⟨ad,off,aa,ae,Y,c1,c2,c3⟩:=ZJ J h;subst aa;simp only at Y c1 c2 c3;have ag:(k:Int)<(n:Int):=by omega
   clear J;cases M:(m.toList == d.toList) with
   | true =>
    have U:Hid (ps.find? (Zl d)=some ⟨m,O,Q,R⟩):=ZeS A.out h M;clear h;go_wp2_with fail
    refine bodyPost_ret (v:=.tuple #[plA ⟨m,O,Q,R⟩,.bool true]) (by simp [results,Tryz.results121,go_sem]) rfl ⟨by rw [U.out];rfl,?_⟩;exact Zc _ _
   | false =>
    have X:Hid (∀ y∈ps.take (k+1),(Zl d) y=false):=Zbo A.out h (by show (m.toList == d.toList)=false;exact M);clear h;go_wp2_with fail
    go_round
    case rel=>exact ⟨k+1,by omega,by go_num,X.out⟩
    case measure=>simp [intOf];omega
  ·have V:Hid (ps.find? (Zl d)=none):=ZfN (fun y I=>A.out y (by rw [Yj (by rw [q.out.2];omega)];exact I));go_wp2_with fail
   refine bodyPost_ret (v:=.tuple #[plA zPl,.bool false]) (by simp [results,Tryz.results121,go_sem]) rfl ⟨by rw [V.out];rfl,?_⟩;exact Zc _ _
theorem Zha (c:Int) (w:World):Calls Tryz.prog 119 #[.int .i64 c] w fun e m=>e=.returned (.bool (decide (1≤c)&&decide (c≤99)))∧m=w:=by
 by_cases h:1≤c
 ·by_cases d:c≤99
  ·go_enter Tryz.func119,Tryz.ntmps119
   go_wp2_with fail
   go_ret
   exact ⟨by simp [h,d],rfl⟩
  ·go_enter Tryz.func119,Tryz.ntmps119
   go_wp2_with fail
   go_ret
   exact ⟨by simp [d],rfl⟩
 ·go_enter Tryz.func119,Tryz.ntmps119
  go_wp2_with fail
  go_ret
  exact ⟨by simp;omega,rfl⟩
def Za7 (id:Int) (x:Srv):Bool:=!decide (x.id=id)
def Zbz (c:Int) (x:Wtr):Bool:=!decide (x.client=c)
theorem ZoR (bg:Nat) (b:Int) (U:Option Addr) (O R:Nat) (so:Option Addr) (m sc:Nat) (wo:Option Addr) (Q wc:Nat) (op:Int) (q:WyV) (d:Int) (ss:List Srv) (w:World) (Y:w.heap[bg]?=some (ZG b U O R so m sc wo Q wc op q)) (af:RowAt w (.slice so m sc) m (Zv ss)) (ae:ss.length=m) (be:m≤1099511627776) :
  Calls Tryz.prog 128 #[.pointer (some ⟨bg,0,none⟩),.int .i64 d] w fun e w'=>(∃ x,e=.returned x)∧∃ D vc,w'.heap[bg]?=some (ZG b U O R D (ss.filter (Za7 d)).length vc wo Q wc op q)∧w'.ownsRow w.heap.size 86 4 (.slice D (ss.filter (Za7 d)).length vc) (ss.filter (Za7 d)).length (Zv (ss.filter (Za7 d)))∧Chg (fun y=>y=bg) w w':=by
 have aw:bg<w.heap.size:=(Ya.1 Y).1;have X:Hid (RowAt w (.slice so m sc) m (Zv ss)∧ss.length=m∧w.heap[bg]?=some (ZG b U O R so m sc wo Q wc op q)):=⟨af,ae,Y⟩;clear af ae Y;go_enter Tryz.func128,Tryz.ntmps128
 go_wp2_with fail
 go_loopw [4,5] (fun l i wr=>∃ (k bf:Nat) (D:Option Addr) (vc:Nat),k≤m∧bf≤k∧i=.int .i64 k∧l=.slice D bf vc∧Hid (((ss.take k).filter (Za7 d)).length=bf∧wr.ownsRow w.heap.size 86 4 (.slice D bf vc) bf (Zv ((ss.take k).filter (Za7 d)))∧Below w.heap.size w wr)) (fun _ i _=>m - (intOf i).toNat)
 case atStart=>exact ⟨0,0,some ⟨w.heap.size,0,none⟩,0,Ye _,Yd _,rfl,rfl,by simp,Zc9 w _ 4 _ rfl _ (Yd _),Zc _ _⟩
 case round =>
  obtain ⟨k,bf,D,vc,a9,bd,rfl,rfl,A⟩:=hrel;have hd:wr.heap[bg]?=some (ZG b U O R so m sc wo Q wc op q):=(A.out.2.2.block bg aw).trans X.out.2.2;obtain ⟨al,am,ao,ap,aq,ar⟩:=ZS hd;by_cases a0:k<m
  ·obtain ⟨⟨E,L,M,N⟩,ab⟩:∃ p,ss[k]?=some p:=⟨_,Yb (by rw [X.out.2.1];exact a0)⟩;obtain ⟨a7,off,au,a8,ak,c1,c2,c3⟩:=ZbA (X.out.1.nx A.out.2.2) ab;subst au;simp only at ak c1 c2 c3;have bc:(k:Int)<(m:Int):=by omega
   have ac:Hid ((ss.take (k+1)).filter (Za7 d)=(ss.take k).filter (Za7 d)++if (Za7 d) ⟨E,L,M,N⟩=true then [(⟨E,L,M,N⟩:Srv)] else []):=by
    obtain ⟨ay,e⟩:=Yc.1 ab;show _=_;rw [Yk ay,Yr,e];congr 1;cases az:(Za7 d) ⟨E,L,M,N⟩ <;> simp [az]
   clear ab hd;by_cases J:E=d
   ·have av:(E == d)=true:=by rw [beq_iff_eq];exact J
    have V:Hid ((ss.take (k+1)).filter (Za7 d)=(ss.take k).filter (Za7 d)):=by
     show _=_;rw [ac.out,if_neg (by simp [Za7,J])];simp
    clear J;go_wp2_with fail
    go_roundw
    case rel=>exact ⟨k+1,bf,D,vc,by omega,by omega,by go_num,rfl,by rw [V.out];exact A.out⟩
    case measure=>simp [intOf];omega
   ·have av:(E == d)=false:=by rw [beq_eq_false_iff_ne];exact J
    have V:Hid ((ss.take (k+1)).filter (Za7 d)=(ss.take k).filter (Za7 d)++[⟨E,L,M,N⟩]):=by
     show _=_;rw [ac.out,if_pos (by simp [Za7,J])]
    clear J;go_wp2_with (at_builtin;refine ZaN 86 40 4 40 _ Zg9 Tryz.underlying40 rfl (by decide) (by decide) rfl (.tmp 26) (.tmp 34) rfl w.heap.size _ bf (Zv ((ss.take k).filter (Za7 d))) rfl (A.out.2.1.alloc _) (some ⟨wr.heap.size,0,none⟩) 1 1 [.int .i64 E,.string L,.int .i64 M,.int .i64 N] rfl rfl (ZaM wr [.int .i64 E,.string L,.int .i64 M,.int .i64 N] _ 1 rfl) (by intro u ag;simp at ag;rcases ag with rfl | rfl | rfl | rfl <;> rfl) (fun h=>by cases h) (by omega) (by simp;have:=A.out.2.2.size;omega) ?next)
    case next =>
     intro v' aj aa ad;obtain ⟨ai,ah,rfl,_⟩:=Zf aa;have K6:Hid (((ss.take (k+1)).filter (Za7 d)).length=bf+1∧aj.ownsRow w.heap.size 86 4 (.slice ai (bf+1) ah) (bf+1) (Zv ((ss.take (k+1)).filter (Za7 d)))∧Below w.heap.size w aj):=by
      refine ⟨by rw [V.out];simp [A.out.1],?_,(A.out.2.2.alloc A.out.2.2.size _).trans ad⟩;rw [V.out];unfold Zv;rw [List.flatMap_append];exact aa
     clear aa ad al am ao ap aq ar;go_wp2_with fail
     go_roundw
     case rel=>exact ⟨k+1,bf+1,ai,ah,by omega,by omega,by go_num,rfl,K6.out⟩
     case measure=>simp [intOf];omega
  ·have I:Hid ((ss.filter (Za7 d)).length=bf∧wr.ownsRow w.heap.size 86 4 (.slice D bf vc) bf (Zv (ss.filter (Za7 d)))∧Below w.heap.size w wr∧wr.heap[bg]?=some (ZG b U O R so m sc wo Q wc op q)):=by
    have a1:ss.take k=ss:=Yj (by rw [X.out.2.1];omega);have:=A.out;rw [a1] at this;exact ⟨this.1,this.2.1,this.2.2,hd⟩
   clear hd;go_wp2_with fail
   refine bodyPost_end (v:=.tuple #[]) (by simp [results,Tryz.results128,go_sem]) rfl ?_;refine ⟨⟨_,rfl⟩,D,vc,?_,?_,?_⟩
   ·rw [I.out.1];exact Zm _ _ _ _ _ _ I.out.2.2.2
   ·rw [I.out.1];exact Zz I.out.2.1 (fun j ax=>Yf _ _ _ _ (by show j≠bg;have:=(I.out.2.1.lt j ax).1;omega))
   ·exact (Chg.of_below I.out.2.2.1).trans (Chg.set (F:=fun y=>y=bg) wr bg 2 _ rfl) (fun y a6=>.inl a6)
theorem ZoI (be:Nat) (b:Int) (Q:Option Addr) (M O:Nat) (so:Option Addr) (N sc:Nat) (wo:Option Addr) (m wc:Nat) (op:Int) (q:WyV) (c:Int) (d:List Wtr) (w:World) (V:w.heap[be]?=some (ZG b Q M O so N sc wo m wc op q)) (ad:RowAt w (.slice wo m wc) m (ZE d)) (ac:d.length=m) (bc:m≤1099511627776) :
  Calls Tryz.prog 125 #[.pointer (some ⟨be,0,none⟩),.int .i64 c] w fun e w'=>(∃ x,e=.returned x)∧∃ D vc,w'.heap[be]?=some (ZG b Q M O so N sc D (d.filter (Zbz c)).length vc op q)∧w'.ownsRow w.heap.size 88 2 (.slice D (d.filter (Zbz c)).length vc) (d.filter (Zbz c)).length (ZE (d.filter (Zbz c)))∧Chg (fun y=>y=be) w w':=by
 have au:be<w.heap.size:=(Ya.1 V).1;have U:Hid (RowAt w (.slice wo m wc) m (ZE d)∧d.length=m∧w.heap[be]?=some (ZG b Q M O so N sc wo m wc op q)):=⟨ad,ac,V⟩;clear ad ac V;go_enter Tryz.func125,Tryz.ntmps125
 go_wp2_with fail
 go_loopw [4,5] (fun l i wr=>∃ (k bd:Nat) (D:Option Addr) (vc:Nat),k≤m∧bd≤k∧i=.int .i64 k∧l=.slice D bd vc∧Hid (((d.take k).filter (Zbz c)).length=bd∧wr.ownsRow w.heap.size 88 2 (.slice D bd vc) bd (ZE ((d.take k).filter (Zbz c)))∧Below w.heap.size w wr)) (fun _ i _=>m - (intOf i).toNat)
 case atStart=>exact ⟨0,0,some ⟨w.heap.size,0,none⟩,0,Ye _,Yd _,rfl,rfl,by simp,Zc9 w _ 2 _ rfl _ (Yd _),Zc _ _⟩
 case round =>
  obtain ⟨k,bd,D,vc,a7,a9,rfl,rfl,A⟩:=hrel;have hd:wr.heap[be]?=some (ZG b Q M O so N sc wo m wc op q):=(A.out.2.2.block be au).trans U.out.2.2;obtain ⟨aj,ak,al,am,ao,ap⟩:=ZS hd;by_cases ay:k<m
  ·obtain ⟨⟨E,L⟩,Y⟩:∃ p,d[k]?=some p:=⟨_,Yb (by rw [U.out.2.1];exact ay)⟩;obtain ⟨a1,off,aq,a6,ai,c1⟩:=Zdd (U.out.1.nx A.out.2.2) Y;subst aq;simp only at ai c1;have a8:(k:Int)<(m:Int):=by omega
   have aa:Hid ((d.take (k+1)).filter (Zbz c)=(d.take k).filter (Zbz c)++if (Zbz c) ⟨E,L⟩=true then [(⟨E,L⟩:Wtr)] else []):=by
    obtain ⟨aw,e⟩:=Yc.1 Y;show _=_;rw [Yk aw,Yr,e];congr 1;cases ax:(Zbz c) ⟨E,L⟩ <;> simp [ax]
   clear Y hd;by_cases J:E=c
   ·have ar:(E == c)=true:=by rw [beq_iff_eq];exact J
    have R:Hid ((d.take (k+1)).filter (Zbz c)=(d.take k).filter (Zbz c)):=by
     show _=_;rw [aa.out,if_neg (by simp [Zbz,J])];simp
    clear J;go_wp2_with fail
    go_roundw
    case rel=>exact ⟨k+1,bd,D,vc,by omega,by omega,by go_num,rfl,by rw [R.out];exact A.out⟩
    case measure=>simp [intOf];omega
   ·have ar:(E == c)=false:=by rw [beq_eq_false_iff_ne];exact J
    have R:Hid ((d.take (k+1)).filter (Zbz c)=(d.take k).filter (Zbz c)++[⟨E,L⟩]):=by
     show _=_;rw [aa.out,if_pos (by simp [Zbz,J])]
    clear J;go_wp2_with (at_builtin;refine ZaN 88 41 2 24 _ Zmo Tryz.underlying41 rfl (by decide) (by decide) rfl (.tmp 26) (.tmp 34) rfl w.heap.size _ bd (ZE ((d.take k).filter (Zbz c))) rfl (A.out.2.1.alloc _) (some ⟨wr.heap.size,0,none⟩) 1 1 [.int .i64 E,.string L] rfl rfl (ZaM wr [.int .i64 E,.string L] _ 1 rfl) (by intro u ae;simp at ae;rcases ae with rfl | rfl <;> rfl) (fun h=>by cases h) (by omega) (by simp;have:=A.out.2.2.size;omega) ?next)
    case next =>
     intro v' ah X ab;obtain ⟨ag,af,rfl,_⟩:=Zf X;have K6:Hid (((d.take (k+1)).filter (Zbz c)).length=bd+1∧ah.ownsRow w.heap.size 88 2 (.slice ag (bd+1) af) (bd+1) (ZE ((d.take (k+1)).filter (Zbz c)))∧Below w.heap.size w ah):=by
      refine ⟨by rw [R.out];simp [A.out.1],?_,(A.out.2.2.alloc A.out.2.2.size _).trans ab⟩;rw [R.out];unfold ZE;rw [List.flatMap_append];exact X
     clear X ab aj ak al am ao ap;go_wp2_with fail
     go_roundw
     case rel=>exact ⟨k+1,bd+1,ag,af,by omega,by omega,by go_num,rfl,K6.out⟩
     case measure=>simp [intOf];omega
  ·have I:Hid ((d.filter (Zbz c)).length=bd∧wr.ownsRow w.heap.size 88 2 (.slice D bd vc) bd (ZE (d.filter (Zbz c)))∧Below w.heap.size w wr∧wr.heap[be]?=some (ZG b Q M O so N sc wo m wc op q)):=by
    have az:d.take k=d:=Yj (by rw [U.out.2.1];omega);have:=A.out;rw [az] at this;exact ⟨this.1,this.2.1,this.2.2,hd⟩
   clear hd;go_wp2_with fail
   refine bodyPost_end (v:=.tuple #[]) (by simp [results,Tryz.results125,go_sem]) rfl ?_;refine ⟨⟨_,rfl⟩,D,vc,?_,?_,?_⟩
   ·rw [I.out.1];exact Zm _ _ _ _ _ _ I.out.2.2.2
   ·rw [I.out.1];exact Zz I.out.2.1 (fun j av=>Yf _ _ _ _ (by show j≠be;have:=(I.out.2.1.lt j av).1;omega))
   ·exact (Chg.of_below I.out.2.2.1).trans (Chg.set (F:=fun y=>y=be) wr be 3 _ rfl) (fun y a0=>.inl a0)
theorem Zgu (so:Option Addr) (m sc:Nat) (d:ByteArray) (ss:List Srv) (w:World) (aa:RowAt w (.slice so m sc) m (Zv ss)) (Y:ss.length=m) (ar:m≤1099511627776) :
  Calls Tryz.prog 168 #[.slice so m sc,.string d] w fun e w'=>∃ A vc,e=.returned (.slice A (ss.filter (Zj d)).length vc)∧w'.ownsRow w.heap.size 86 4 (.slice A (ss.filter (Zj d)).length vc) (ss.filter (Zj d)).length (Zv (ss.filter (Zj d)))∧Below w.heap.size w w':=by
 have N:Hid (RowAt w (.slice so m sc) m (Zv ss)∧ss.length=m):=⟨aa,Y⟩;clear aa Y;go_enter Tryz.func168,Tryz.ntmps168
 go_wp2_with fail
 go_loopw [5,6] (fun l i wr=>∃ (k au:Nat) (A:Option Addr) (vc:Nat),k≤m∧au≤k∧i=.int .i64 k∧l=.slice A au vc∧Hid (((ss.take k).filter (Zj d)).length=au∧wr.ownsRow w.heap.size 86 4 (.slice A au vc) au (Zv ((ss.take k).filter (Zj d)))∧Below w.heap.size w wr)) (fun _ i _=>m - (intOf i).toNat)
 case atStart=>exact ⟨0,0,some ⟨w.heap.size,0,none⟩,0,Ye _,Yd _,rfl,rfl,by simp,Zc9 w _ 4 _ rfl _ (Yd _),Zc _ _⟩
 case round =>
  obtain ⟨k,au,A,vc,ao,aq,rfl,rfl,J⟩:=hrel;by_cases aj:k<m
  ·obtain ⟨⟨D,q,E,I⟩,Q⟩:∃ p,ss[k]?=some p:=⟨_,Yb (by rw [N.out.2];exact aj)⟩;obtain ⟨al,off,ag,am,af,c1,c2,c3⟩:=ZbA (N.out.1.nx J.out.2.2) Q;subst ag;simp only at af c1 c2 c3;have ap:(k:Int)<(m:Int):=by omega
   have U:Hid ((ss.take (k+1)).filter (Zj d)=(ss.take k).filter (Zj d)++if (Zj d) ⟨D,q,E,I⟩=true then [(⟨D,q,E,I⟩:Srv)] else []):=by
    obtain ⟨ah,e⟩:=Yc.1 Q;show _=_;rw [Yk ah,Yr,e];congr 1;cases ai:(Zj d) ⟨D,q,E,I⟩ <;> simp [ai]
   clear Q;cases X:(q.toList == d.toList) with
   | false =>
    have M:Hid ((ss.take (k+1)).filter (Zj d)=(ss.take k).filter (Zj d)):=by
     show _=_;have R:¬(Zj d) ⟨D,q,E,I⟩=true:=fun h=>by rw [show (Zj d) ⟨D,q,E,I⟩=(q.toList == d.toList) from rfl,X] at h;simp at h
     rw [U.out,if_neg R];simp
    go_wp2_with fail
    go_roundw
    case rel=>exact ⟨k+1,au,A,vc,by omega,by omega,by go_num,rfl,by rw [M.out];exact J.out⟩
    case measure=>simp [intOf];omega
   | true =>
    have M:Hid ((ss.take (k+1)).filter (Zj d)=(ss.take k).filter (Zj d)++[⟨D,q,E,I⟩]):=by
     show _=_;have R:(Zj d) ⟨D,q,E,I⟩=true:=X;rw [U.out,if_pos R]
    go_wp2_with (at_builtin;refine ZaN 86 40 4 40 _ Zg9 Tryz.underlying40 rfl (by decide) (by decide) rfl (.tmp 21) (.tmp 26) rfl w.heap.size _ au (Zv ((ss.take k).filter (Zj d))) rfl (J.out.2.1.alloc _) (some ⟨wr.heap.size,0,none⟩) 1 1 [.int .i64 D,.string q,.int .i64 E,.int .i64 I] rfl rfl (ZaM wr [.int .i64 D,.string q,.int .i64 E,.int .i64 I] _ 1 rfl) (by intro u ab;simp at ab;rcases ab with rfl | rfl | rfl | rfl <;> rfl) (fun h=>by cases h) (by omega) (by simp;have:=J.out.2.2.size;omega) ?next)
    case next =>
     intro v' ae O V;obtain ⟨ad,ac,rfl,_⟩:=Zf O;have K6:Hid (((ss.take (k+1)).filter (Zj d)).length=au+1∧ae.ownsRow w.heap.size 86 4 (.slice ad (au+1) ac) (au+1) (Zv ((ss.take (k+1)).filter (Zj d)))∧Below w.heap.size w ae):=by
      refine ⟨by rw [M.out];simp [J.out.1],?_,(J.out.2.2.alloc J.out.2.2.size _).trans V⟩;rw [M.out];unfold Zv;rw [List.flatMap_append];exact O
     clear O V;go_wp2_with fail
     go_roundw
     case rel=>exact ⟨k+1,au+1,ad,ac,by omega,by omega,by go_num,rfl,K6.out⟩
     case measure=>simp [intOf];omega
  ·have L:Hid ((ss.filter (Zj d)).length=au∧wr.ownsRow w.heap.size 86 4 (.slice A au vc) au (Zv (ss.filter (Zj d)))∧Below w.heap.size w wr):=by
    have ak:ss.take k=ss:=Yj (by rw [N.out.2];omega);have:=J.out;rw [ak] at this;exact this
   go_wp2_with fail
   go_ret
   refine ⟨A,vc,?_,?_,L.out.2.2⟩
   ·rw [L.out.1];rfl
   ·rw [L.out.1];exact L.out.2.1
theorem Ze4 (so:Option Addr) (d sc:Nat) (h:ByteArray) (ss:List Srv) (w:World) (A:RowAt w (.slice so d sc) d (Zv ss)) (m:ss.length=d) (E:d≤1099511627776) :
  Calls Tryz.prog 139 #[.slice so d sc,.string h] w fun e I=>e=.returned (.int .i64 (Zs (Zj h) ss:Int))∧Below w.heap.size w I:=by
 have q:=Za (Zgu so d sc h ss w A m E);have J:(ss.filter (Zj h)).length≤d:=by rw [←m];exact Yp _ _
 clear A m;go_enter Tryz.func139,Tryz.ntmps139
 go_wp2_with fail
 refine q.out.mono ?_;rintro e w1 ⟨L,vc,rfl,D,hb⟩;have K:=Za hb;clear D hb q;go_wp2_with fail
 go_ret
 exact ⟨rfl,K.out⟩
theorem Zmm (so:Option Addr) (h sc:Nat) (d:ByteArray) (ss:List Srv) (w:World) (J:RowAt w (.slice so h sc) h (Zv ss)) (q:ss.length=h) (U:h≤1099511627776) :
  Calls Tryz.prog 182 #[.slice so h sc,.string d] w fun e X=>e=.returned (svA (orS (ss.find? (fun s=>Zj d s&&Zp 0 s))))∧Below w.heap.size w X:=by
 have D:=Za (Zgu so h sc d ss (w.alloc (.cells #[.int .i64 0,.string ⟨#[]⟩,.int .i64 0,.int .i64 0] 86)) (J.nx (Zc _ _)) q U);have ae:(ss.filter (Zj d)).length≤h:=by rw [←q];exact Yp _ _
 clear J q;go_enter Tryz.func182,Tryz.ntmps182
 go_wp2_with fail
 refine D.out.mono ?_;rintro e w1 ⟨V,vc,rfl,I,hb⟩;have E:=Za (ZiK V (ss.filter (Zj d)).length vc (ss.filter (Zj d)) w1 (Zf I) rfl (by unfold maxLen;omega));have K:Hid (w1.heap[w.heap.size]?=some (.cells #[.int .i64 0,.string ⟨#[]⟩,.int .i64 0,.int .i64 0] 86)∧Below w.heap.size w w1∧w.heap.size<w1.heap.size):=⟨(hb.block _ (by simp)).trans (Zd _ _ rfl),Zb (Zc _ _) hb,Yl (by simp) hb.size⟩;clear I hb D;go_wp2_with fail
 refine E.out.mono ?_;rintro e Y ⟨rfl,hb⟩;obtain ⟨⟨L,M,N,O⟩,A⟩:∃ x,orS ((ss.filter (Zj d)).find? (Zp 0))=x:=⟨_,rfl⟩;rw [A];have Q:Hid (orS (ss.find? (fun s=>Zj d s&&Zp 0 s))=⟨L,M,N,O⟩):=by
  show _=_;rw [←A,List.find?_filter];refine congrArg (fun p=>orS (List.find? p ss)) (funext fun s=>?_);cases Zj d s <;> cases Zp 0 s <;> rfl
 obtain ⟨aa,ab,ac,ad,af⟩:=ZbK hb (g:=w.heap.size) K.out.2.2 K.out.1;have R:Hid (Below w.heap.size w Y):=Zb K.out.2.1 hb;clear hb A E;go_wp2_with fail
 refine bodyPost_ret (v:=svA ⟨L,M,N,O⟩) (by simp [results,Tryz.results182,go_sem,aa,ab,ac,ad]) rfl ⟨by rw [Q.out],?_⟩;have m:w.heap.size≤w.heap.size:=Yd _;exact (((R.out.setCell m _).setCell m _).setCell m _).setCell m _
end Lw
end Go.Proofs.YtmgkcbdlfodjmaaGreatDoor
