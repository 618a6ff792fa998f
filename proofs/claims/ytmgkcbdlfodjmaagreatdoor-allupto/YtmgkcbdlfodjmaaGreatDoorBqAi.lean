import Derived.Test.YtmgkcbdlfodjmaaGreatDoorBqY
import Derived.Test.YtmgkcbdlfodjmaaGreatDoorBqAh
set_option maxRecDepth 100000
set_option maxHeartbeats 16000000
namespace Go.Proofs.YtmgkcbdlfodjmaaGreatDoor
open Go.RowKit
namespace Lw
open Co
def ZdZ (q:Rsp) (Z:Int×List Pl) (gx gp go:Nat) (Fp F:Nat→Prop) (q1 q2 q4:Nat) (w w':World) (e:Ending):Prop:=
 e=.returned (.bool true)∧(∃ Fp' u' ho' hc',Run w' gx gp go q.S q.X q.S (q.X.op+1) Z Fp' F u' ho' hc' q1 q2 q4∧∀ y,Fp' y→Fp y∨w.heap.size≤y)∧Chg (fun y=>Fp y∨y=gx) w w'
theorem Zf9 {r:Res} {E D A:Nat} {m:ZB} {q:Int×List Pl} {d F:Nat→Prop} {I J L:Nat} {w aa M:World} {e:Ending} (hb:Below w.heap.size w aa) (h:Zg1 r E D A q d F I J L m aa M e):ZdZ ⟨r.S,{m with op:=r.op},0,0,0⟩ q E D A d F I J L w M e:=by
 obtain ⟨R,⟨N,u',U,O,V,hF⟩,Q⟩:=h;exact ⟨R,⟨N,u',U,O,V,fun y Y=>(hF y Y).imp (fun x=>x) (fun x=>Ym hb.size x)⟩,(Chg.of_below hb).trans Q (fun x X=>.inl X)⟩
theorem ZsO (A L J:Nat) (S:Zh) (d:ZB) (q:Int×List Pl) (E F:Nat→Prop) (u:ZA) (X:Option Addr) (U:Nat) (O Q R:Nat) (w:World) (ac B:Int) (s:ByteArray) (h:Run w A L J S d S (d.op+1) q E F u X U O Q R) (V:RefOk S d.op q) (Y:ZaW S d.op) :
  Calls Tryz.prog 7 #[.pointer (some ⟨A,0,none⟩),.agg #[.int .i64 1,.int .i64 ac,.int .i64 B,.string s]] w fun e w'=>ZdZ ⟨(ZaD S d.op ac s).S,{d with op:=(ZaD S d.op ac s).op},0,0,0⟩ q A L J E F O Q R w w' e:=by
 obtain ⟨m,D⟩:∃ m,m=w.alloc (bOp 1 ac B s):=⟨_,rfl⟩;have M:Below w.heap.size w m:=by rw [D];exact Zc _ _
 have I:Hid (m=w.alloc (bOp 1 ac B s)∧m.heap[w.heap.size]?=some (bOp 1 ac B s)∧Below w.heap.size w m):=⟨D,by rw [D];exact Zd _ _ rfl,M⟩;have HL:=Za (Ztd A L J S d q E F u X U O Q R m ac B s (h.below M) V Y);clear h V Y D M;go_enter Tryz.func7,Tryz.ntmps7
 go_upto_region 1 with fail
 rw [←I.out.1];obtain ⟨aa,ab,b2,b3⟩:=Zbq I.out.2.1;go_wp2_with fail
 refine HL.out.mono ?_;intro e w1 N;have HG:=Za (Zf9 I.out.2.2 N);obtain rfl:=N.1;clear N aa ab b2 b3;go_wp2_with fail
 go_ret
 exact HG.out
theorem ZsU (A L J:Nat) (S:Zh) (d:ZB) (q:Int×List Pl) (E F:Nat→Prop) (u:ZA) (X:Option Addr) (U:Nat) (O Q R:Nat) (w:World) (ac B:Int) (s:ByteArray) (h:Run w A L J S d S (d.op+1) q E F u X U O Q R) (V:RefOk S d.op q) (Y:ZaW S d.op) :
  Calls Tryz.prog 7 #[.pointer (some ⟨A,0,none⟩),.agg #[.int .i64 2,.int .i64 ac,.int .i64 B,.string s]] w fun e w'=>ZdZ ⟨(ZaH S d.op ac).S,{d with op:=(ZaH S d.op ac).op},0,0,0⟩ q A L J E F O Q R w w' e:=by
 obtain ⟨m,D⟩:∃ m,m=w.alloc (bOp 2 ac B s):=⟨_,rfl⟩;have M:Below w.heap.size w m:=by rw [D];exact Zc _ _
 have I:Hid (m=w.alloc (bOp 2 ac B s)∧m.heap[w.heap.size]?=some (bOp 2 ac B s)∧Below w.heap.size w m):=⟨D,by rw [D];exact Zd _ _ rfl,M⟩;have HL:=Za (ZsB A L J S d q E F u X U O Q R m ac B s (h.below M) V Y);clear h V Y D M;go_enter Tryz.func7,Tryz.ntmps7
 go_upto_region 1 with fail
 rw [←I.out.1];obtain ⟨aa,ab,b2,b3⟩:=Zbq I.out.2.1;go_wp2_with fail
 refine HL.out.mono ?_;intro e w1 N;have HG:=Za (Zf9 I.out.2.2 N);obtain rfl:=N.1;clear N aa ab b2 b3;go_wp2_with fail
 go_ret
 exact HG.out
theorem Zsr (A L J:Nat) (S:Zh) (d:ZB) (q:Int×List Pl) (E F:Nat→Prop) (u:ZA) (X:Option Addr) (U:Nat) (O Q R:Nat) (w:World) (ac B:Int) (s:ByteArray) (h:Run w A L J S d S (d.op+1) q E F u X U O Q R) (V:RefOk S d.op q) (Y:ZaW S d.op) :
  Calls Tryz.prog 7 #[.pointer (some ⟨A,0,none⟩),.agg #[.int .i64 3,.int .i64 ac,.int .i64 B,.string s]] w fun e w'=>ZdZ ⟨(ZaI S d.op ac).S,{d with op:=(ZaI S d.op ac).op},0,0,0⟩ q A L J E F O Q R w w' e:=by
 obtain ⟨m,D⟩:∃ m,m=w.alloc (bOp 3 ac B s):=⟨_,rfl⟩;have M:Below w.heap.size w m:=by rw [D];exact Zc _ _
 have I:Hid (m=w.alloc (bOp 3 ac B s)∧m.heap[w.heap.size]?=some (bOp 3 ac B s)∧Below w.heap.size w m):=⟨D,by rw [D];exact Zd _ _ rfl,M⟩;have HL:=Za (Zsh A L J S d q E F u X U O Q R m ac B s (h.below M) V Y);clear h V Y D M;go_enter Tryz.func7,Tryz.ntmps7
 go_upto_region 1 with fail
 rw [←I.out.1];obtain ⟨aa,ab,b2,b3⟩:=Zbq I.out.2.1;go_wp2_with fail
 refine HL.out.mono ?_;intro e w1 N;have HG:=Za (Zf9 I.out.2.2 N);obtain rfl:=N.1;clear N aa ab b2 b3;go_wp2_with fail
 go_ret
 exact HG.out
theorem Zs1 (A L J:Nat) (S:Zh) (d:ZB) (q:Int×List Pl) (E F:Nat→Prop) (u:ZA) (X:Option Addr) (U:Nat) (O Q R:Nat) (w:World) (ac B:Int) (s:ByteArray) (h:Run w A L J S d S (d.op+1) q E F u X U O Q R) (V:RefOk S d.op q) (Y:ZaW S d.op) :
  Calls Tryz.prog 7 #[.pointer (some ⟨A,0,none⟩),.agg #[.int .i64 4,.int .i64 ac,.int .i64 B,.string s]] w fun e w'=>ZdZ ⟨(Zau S d.op ac).S,{d with op:=(Zau S d.op ac).op},0,0,0⟩ q A L J E F O Q R w w' e:=by
 obtain ⟨m,D⟩:∃ m,m=w.alloc (bOp 4 ac B s):=⟨_,rfl⟩;have M:Below w.heap.size w m:=by rw [D];exact Zc _ _
 have I:Hid (m=w.alloc (bOp 4 ac B s)∧m.heap[w.heap.size]?=some (bOp 4 ac B s)∧Below w.heap.size w m):=⟨D,by rw [D];exact Zd _ _ rfl,M⟩;have HL:=Za (Zsz A L J S d q E F u X U O Q R m ac B s (h.below M) V Y);clear h V Y D M;go_enter Tryz.func7,Tryz.ntmps7
 go_upto_region 1 with fail
 rw [←I.out.1];obtain ⟨aa,ab,b2,b3⟩:=Zbq I.out.2.1;go_wp2_with fail
 refine HL.out.mono ?_;intro e w1 N;have HG:=Za (Zf9 I.out.2.2 N);obtain rfl:=N.1;clear N aa ab b2 b3;go_wp2_with fail
 go_ret
 exact HG.out
theorem Zto (D L go:Nat) (S:Zh) (cy:ZB) (cz:Int×List Pl) (m F:Nat→Prop) (u:ZA) (R:Option Addr) (Q:Nat) (bi bj bk:Nat) (w:World) (A B:Int) (s:ByteArray) (h:Run w D L go S cy S (cy.op+1) cz m F u R Q bi bj bk) (O:PlI S cy cz) (a6:RefOk S cy.op cz) :
  Calls Tryz.prog 7 #[.pointer (some ⟨D,0,none⟩),.agg #[.int .i64 6,.int .i64 A,.int .i64 B,.string s]] w fun e Y=>ZdZ (Zaw S cy) (Zco S (cy.op+1) cz).Y D L go m F bi bj bk w Y e:=by
 obtain ⟨d,ab⟩:∃ d,d=w.alloc (bOp 6 A B s):=⟨_,rfl⟩;have ac:Below w.heap.size w d:=by rw [ab];exact Zc _ _
 have N:Hid (d=w.alloc (bOp 6 A B s)∧d.heap[w.heap.size]?=some (bOp 6 A B s)∧Below w.heap.size w d):=⟨ab,by rw [ab];exact Zd _ _ rfl,ac⟩;have av:=Za (h.below ac);have hd:∀ E,Below d.heap.size d E→DeskAt E L S cy m:=fun E a8=>(h.below (Zb ac a8)).desk
 obtain ⟨ce,ae⟩:=O.pln;have M:=Zkq O.good ae O.home;obtain ⟨⟨q,V,n,ay,l⟩,ad⟩:∃ r,Zaw S cy=r:=⟨_,rfl⟩;obtain ⟨⟨bm,cd,Z,cc,bz,cb⟩,af⟩:∃ r,Zco S (cy.op+1) cz=r:=⟨_,rfl⟩;have b9:q=bm∧V.op+1=cd∧n=cc∧ay=bz∧l=cb:=by
  rw [ad,af] at M;exact ⟨M.S,M.op,M.n,M.e,M.l⟩
 obtain ⟨rfl,rfl,rfl,rfl,rfl⟩:=b9;have bt:Hid (∀ E,Below d.heap.size d E→Calls Tryz.prog 18 #[.pointer (some ⟨L,0,none⟩)] E fun e Y=>e=.returned (.tuple #[.int .i64 n,.int .i64 ay])∧Moved E Y L q V m):=by
  intro E a8;have:=ZtO L S cy m E (hd E a8) a6.ok (by have:=ae.tab.len;omega) (by have:=O.plan;omega) (fun s b8=>ZgS (ae.ok s b8));rw [ad] at this;exact this
 have bv:Hid (∀ v,WdAt v S u cz R Q→Calls Tryz.prog 19 #[wdA S u (cy.op+1) cz R Q] v fun e Y=>ZeA v Y S u cz R Q ⟨q,V.op+1,Z,n,ay,l⟩ e):=by
  intro v a9;have:=ZrD O a6 u R Q v a9;rw [af] at this;exact this
 rw [af,ad];have bs:Hid (¬m D∧¬m w.heap.size):=⟨h.dxp,fun b6=>by have:=h.desk.lt _ b6;omega⟩;clear h a6 O ae M ab ac hd ad af;obtain ⟨ag,ah,aj,ak,al,am,ao,ap,aq,ar,ai⟩:=Za0 av.out.pr;obtain ⟨aw,ax,b2,b3⟩:=Zbq N.out.2.1;have ci:=av.out.lt;have ca:w.heap.size<d.heap.size:=(Ya.1 N.out.2.1).1;go_enter Tryz.func7,Tryz.ntmps7
 go_upto_region 13 with fail
 rw [←N.out.1];go_wp2_with fail
 refine (bt.out d (Yh _ _)).mono ?_;rintro e aa ⟨rfl,bg⟩;have au:=Za bg;clear bg;obtain ⟨bo,bh,bf⟩:=av.out.moved au.out;have J:=Za bh;have bq:Hid (∀ y,bo y→m y∨w.heap.size≤y):=fun y bd=>(bf y bd).imp (fun x=>x) (fun x=>Ym N.out.2.2.size x)
 have be:Hid (aa.heap[w.heap.size]?=some (bOp 6 A B s)):=(Zan au.out ca bs.out.2).trans N.out.2.1;clear ag ah aj ak al am ao ap aq ar ai aw ax b2 b3 bh bf;obtain ⟨ag,ah,aj,ak,al,am,ao,ap,aq,ar,ai⟩:=Za0 J.out.pr;obtain ⟨aw,ax,b2,b3⟩:=Zbq be.out;have cj:=J.out.lt;have ck:w.heap.size<aa.heap.size:=(Ya.1 be.out).1;have bw:=Za (fun v (a9:Below aa.heap.size aa v)=>bv.out v (J.out.ref.nx a9));go_wp2_with fail
 refine (bw.out aa (Yh _ _)).mono ?_;rintro e bl ⟨I,b7,b0,rfl,a1⟩;simp only at a1 ⊢;obtain ⟨g,a0⟩:∃ g,bl.heap.size=g:=⟨_,rfl⟩;have az:=Ze7 (nx:=V.op+1) a1;obtain ⟨wz,bc⟩:∃ wz,bl.alloc (bWd (.int .i64 q.bud) (.slice I.po q.pools.length I.pc) (.slice I.so q.srv.length I.sc) (.slice I.wo q.wts.length I.wc) (.slice I.tqo q.plan.length I.tc) (.bool q.begun) (.bool q.back) (.int .i64 (V.op+1)) (.int .i64 Z.1) (.slice b7 Z.2.length b0))=wz:=⟨_,rfl⟩;rw [bc,a0] at az;have U:=Za az;have bx:=Za bc;have br:=Za a0;clear az bc a0 a1 ag ah aj ak al am ao ap aq ar ai aw ax b2 b3;go_upto_region 15 with fail
 rw [bx.out,br.out];have bu:=Za (U.out.take J.out);have bp:Hid (Chg (fun y=>m y∨y=D) w wz):=by
  obtain ⟨_,_,_,b1⟩:=au.out;exact ((Chg.of_below N.out.2.2).trans (b1.mono (fun y bd=>(.inl bd:m y∨y=D))) (fun x X=>.inl X)).trans (Chg.of_below (F:=fun y=>m y∨y=D) U.out.bel) (fun x X=>.inl X)
 obtain ⟨cl,cm,co,cp,cq,cr,cs,ct,cu,cv,cw⟩:=Zg U.out.box;have a7:wz.heap[D]?=some (ZbE (.pointer (some ⟨L,0,none⟩)) S.bud (.slice u.po S.pools.length u.pc) (.slice u.so S.srv.length u.sc) (.slice u.wo S.wts.length u.wc) (.slice u.tqo S.plan.length u.tc) S.begun S.back (cy.op+1) cz.1 (.slice R cz.2.length Q)):=(U.out.bel.block D J.out.lt).trans J.out.pr;obtain ⟨ag,ah,aj,ak,al,am,ao,ap,aq,ar,ai⟩:=Za0 a7;have cx:=Ze5 a7;have ch:g≠D:=by have cf:=U.out.new;have cg:=J.out.lt;omega
 clear a7;go_wp2_with fail
 go_ret
 exact ⟨by simp,⟨_,_,_,_,bu.out,bq.out⟩,bp.out.trans (ZdD _ _ _ _ _ _ _ _ _ _ _ _) (fun x X=>.inl (.inr X))⟩
theorem Zs8 (D L go:Nat) (S:Zh) (cx:ZB) (cy:Int×List Pl) (m F:Nat→Prop) (u:ZA) (Q:Option Addr) (O:Nat) (bi bj bk:Nat) (w:World) (A B:Int) (s:ByteArray) (h:Run w D L go S cx S (cx.op+1) cy m F u Q O bi bj bk) (V:PlI S cx cy) (be:RefOk S cx.op cy) :
  Calls Tryz.prog 7 #[.pointer (some ⟨D,0,none⟩),.agg #[.int .i64 7,.int .i64 A,.int .i64 B,.string s]] w fun e Y=>ZdZ (Zao S cx) (ZbN S (cx.op+1) cy).Y D L go m F bi bj bk w Y e:=by
 obtain ⟨d,ab⟩:∃ d,d=w.alloc (bOp 7 A B s):=⟨_,rfl⟩;have ac:Below w.heap.size w d:=by rw [ab];exact Zc _ _
 have N:Hid (d=w.alloc (bOp 7 A B s)∧d.heap[w.heap.size]?=some (bOp 7 A B s)∧Below w.heap.size w d):=⟨ab,by rw [ab];exact Zd _ _ rfl,ac⟩;have au:=Za (h.below ac);have hd:∀ E,Below d.heap.size d E→DeskAt E L S cx m:=fun E a6=>(h.below (Zb ac a6)).desk
 obtain ⟨cd,bg⟩:=V.pln;have M:=Zjg V.home;obtain ⟨⟨q,U,n,ax,l⟩,ad⟩:∃ r,Zao S cx=r:=⟨_,rfl⟩;obtain ⟨⟨bm,cc,Z,cb,bz,ca⟩,ae⟩:∃ r,ZbN S (cx.op+1) cy=r:=⟨_,rfl⟩;have b8:q=bm∧U.op+1=cc∧n=cb∧ax=bz∧l=ca:=by
  rw [ad,ae] at M;exact ⟨M.S,M.op,M.n,M.e,M.l⟩
 obtain ⟨rfl,rfl,rfl,rfl,rfl⟩:=b8;have bt:Hid (∀ E,Below d.heap.size d E→Calls Tryz.prog 20 #[.pointer (some ⟨L,0,none⟩)] E fun e Y=>e=.returned (.tuple #[.int .i64 n,.int .i64 ax])∧Moved E Y L q U m):=by
  intro E a6;have:=ZsI L S cx m E (hd E a6) bg.tab.len V.hps;rw [ad] at this;exact this
 have bv:Hid (∀ v,WdAt v S u cy Q O→Calls Tryz.prog 21 #[wdA S u (cx.op+1) cy Q O] v fun e Y=>ZeA v Y S u cy Q O ⟨q,U.op+1,Z,n,ax,l⟩ e):=by
  intro v a7;have:=Zp9 V be u Q O v a7;rw [ae] at this;exact this
 rw [ae,ad];have bs:Hid (¬m D∧¬m w.heap.size):=⟨h.dxp,fun b6=>by have:=h.desk.lt _ b6;omega⟩;clear h be V bg M ab ac hd ad ae;obtain ⟨af,ag,ai,aj,ak,al,am,ao,ap,aq,ah⟩:=Za0 au.out.pr;obtain ⟨av,aw,b2,b3⟩:=Zbq N.out.2.1;have ch:=au.out.lt;have b9:w.heap.size<d.heap.size:=(Ya.1 N.out.2.1).1;go_enter Tryz.func7,Tryz.ntmps7
 go_upto_region 18 with fail
 rw [←N.out.1];go_wp2_with fail
 refine (bt.out d (Yh _ _)).mono ?_;rintro e aa ⟨rfl,bf⟩;have ar:=Za bf;clear bf;obtain ⟨bo,bh,bd⟩:=au.out.moved ar.out;have J:=Za bh;have bq:Hid (∀ y,bo y→m y∨w.heap.size≤y):=fun y a9=>(bd y a9).imp (fun x=>x) (fun x=>Ym N.out.2.2.size x)
 have bc:Hid (aa.heap[w.heap.size]?=some (bOp 7 A B s)):=(Zan ar.out b9 bs.out.2).trans N.out.2.1;clear af ag ai aj ak al am ao ap aq ah av aw b2 b3 bh bd;obtain ⟨af,ag,ai,aj,ak,al,am,ao,ap,aq,ah⟩:=Za0 J.out.pr;obtain ⟨av,aw,b2,b3⟩:=Zbq bc.out;have ci:=J.out.lt;have cj:w.heap.size<aa.heap.size:=(Ya.1 bc.out).1;have bw:=Za (fun v (a7:Below aa.heap.size aa v)=>bv.out v (J.out.ref.nx a7));go_wp2_with fail
 refine (bw.out aa (Yh _ _)).mono ?_;rintro e bl ⟨I,b7,b0,rfl,a0⟩;simp only at a0 ⊢;obtain ⟨g,az⟩:∃ g,bl.heap.size=g:=⟨_,rfl⟩;have ay:=Ze7 (nx:=U.op+1) a0;obtain ⟨wz,a8⟩:∃ wz,bl.alloc (bWd (.int .i64 q.bud) (.slice I.po q.pools.length I.pc) (.slice I.so q.srv.length I.sc) (.slice I.wo q.wts.length I.wc) (.slice I.tqo q.plan.length I.tc) (.bool q.begun) (.bool q.back) (.int .i64 (U.op+1)) (.int .i64 Z.1) (.slice b7 Z.2.length b0))=wz:=⟨_,rfl⟩;rw [a8,az] at ay;have R:=Za ay;have bx:=Za a8;have br:=Za az;clear ay a8 az a0 af ag ai aj ak al am ao ap aq ah av aw b2 b3;go_upto_region 20 with fail
 rw [bx.out,br.out];have bu:=Za (R.out.take J.out);have bp:Hid (Chg (fun y=>m y∨y=D) w wz):=by
  obtain ⟨_,_,_,b1⟩:=ar.out;exact ((Chg.of_below N.out.2.2).trans (b1.mono (fun y a9=>(.inl a9:m y∨y=D))) (fun x X=>.inl X)).trans (Chg.of_below (F:=fun y=>m y∨y=D) R.out.bel) (fun x X=>.inl X)
 obtain ⟨ck,cl,cm,co,cp,cq,cr,cs,ct,cu,cv⟩:=Zg R.out.box;have a1:wz.heap[D]?=some (ZbE (.pointer (some ⟨L,0,none⟩)) S.bud (.slice u.po S.pools.length u.pc) (.slice u.so S.srv.length u.sc) (.slice u.wo S.wts.length u.wc) (.slice u.tqo S.plan.length u.tc) S.begun S.back (cx.op+1) cy.1 (.slice Q cy.2.length O)):=(R.out.bel.block D J.out.lt).trans J.out.pr;obtain ⟨af,ag,ai,aj,ak,al,am,ao,ap,aq,ah⟩:=Za0 a1;have cw:=Ze5 a1;have cg:g≠D:=by have ce:=R.out.new;have cf:=J.out.lt;omega
 clear a1;go_wp2_with fail
 go_ret
 exact ⟨by simp,⟨_,_,_,_,bu.out,bq.out⟩,bp.out.trans (ZdD _ _ _ _ _ _ _ _ _ _ _ _) (fun x X=>.inl (.inr X))⟩
theorem Ztg (d M go:Nat) (S:Zh) (I:ZB) (ec:Int×List Pl) (E F:Nat→Prop) (u:ZA) (O:Option Addr) (N:Nat) (bf bx bz:Nat) (w:World) (A B:Int) (s:ByteArray) (h:Run w d M go S I S (I.op+1) ec E F u O N bf bx bz) (hI:PlI S I ec) (bq:RefOk S I.op ec) (a8:s.size≤maxLen) :
  Calls Tryz.prog 7 #[.pointer (some ⟨d,0,none⟩),.agg #[.int .i64 5,.int .i64 A,.int .i64 B,.string s]] w fun e m=>ZdZ (Z0 S I (Z7 s)) (ZbD S (I.op+1) ec (Z7 s)).Y d M go E F bf bx bz w m e:=by
 obtain ⟨q,aq⟩:∃ q,q=w.alloc (bOp 5 A B s):=⟨_,rfl⟩;have ar:Below w.heap.size w q:=by rw [aq];exact Zc _ _
 have K0:Hid (q=w.alloc (bOp 5 A B s)∧q.heap[w.heap.size]?=some (bOp 5 A B s)∧Below w.heap.size w q):=⟨aq,by rw [aq];exact Zd _ _ rfl,ar⟩;have az:=Za (h.below ar);have hd:∀ Q,Below q.heap.size q Q→DeskAt Q M S I E:=fun Q a9=>(h.below (Zb ar a9)).desk
 obtain ⟨dr,bs⟩:=hI.pln;have X:=Zib (a:=Z7 s) hI.home;obtain ⟨⟨D,X',n,al,l⟩,au⟩:∃ r,Z0 S I (Z7 s)=r:=⟨_,rfl⟩;obtain ⟨⟨b0,dq,Z,be,ce,bw⟩,av⟩:∃ r,ZbD S (I.op+1) ec (Z7 s)=r:=⟨_,rfl⟩;have cj:D=b0∧X'.op+1=dq∧n=be∧al=ce∧l=bw:=by
  rw [au,av] at X;exact ⟨X.S,X.op,X.n,X.e,X.l⟩
 obtain ⟨rfl,rfl,rfl,rfl,rfl⟩:=cj;have ca:Hid (∀ Q,Below q.heap.size q Q→Calls Tryz.prog 16 #[.pointer (some ⟨M,0,none⟩),.string s] Q fun e m=>e=.returned (.tuple #[.int .i64 n,.int .i64 al,.int .i64 l])∧Moved Q m M D X' E):=by
  intro Q a9;have:=ZrF M s S I E Q (hd Q a9) a8 bs.tab.len (by have:=hI.plan;omega) (fun cg=>(ZeQ s cg).len);rw [au] at this;exact this
 have cc:Hid (∀ v,WdAt v S u ec O N→Calls Tryz.prog 17 #[wdA S u (I.op+1) ec O N,.string s] v fun e m=>ZlX v m S u ec O N ⟨D,X'.op+1,Z,n,al,l⟩ e):=by
  intro v bc;have:=Zpk hI bq s a8 u O N v bc;rw [av] at this;exact this
 rw [av,au];have ay:Hid (¬E d∧¬E w.heap.size):=⟨h.dxp,fun ch=>by have:=h.desk.lt _ ch;omega⟩;clear h bq hI bs X aq ar hd au av a8;obtain ⟨ap,aa,ac,ad,ae,af,ag,ah,ai,aj,ab⟩:=Za0 az.out.pr;obtain ⟨a1,a6,b2,b3⟩:=Zbq K0.out.2.1;have ci:=az.out.lt;have bu:w.heap.size<q.heap.size:=(Ya.1 K0.out.2.1).1;go_enter Tryz.func7,Tryz.ntmps7
 go_upto_region 8 with fail
 rw [←K0.out.1];go_cut [5,6,7] (fun bg bh bi bk=>bg=.int .i64 n∧bh=.int .i64 al∧bi=.int .i64 l∧∃ eb,Hid (Moved q eb M D X' E)∧eb=bk)
 case first =>
  go_region_held3 (fun m=>m.cell? ⟨d,0,none⟩=some (.pointer (some ⟨M,0,none⟩))∧m.cell? ⟨w.heap.size,3,none⟩=some (.string s)) (go_keep)
   ((go_at_call 16;refine (ca.out _ ((Yh _ _).drew)).mono ?_;rintro e bj ⟨rfl,br⟩;have aw:Hid (Moved q bj M D X' E):=Moved.after (Yh _ _).drew br;have cd:Hid (bj.heap[d]?=q.heap[d]?):=Zan aw.out ci ay.out.1;have b9:Hid (bj.heap[w.heap.size]?=q.heap[w.heap.size]?):=Zan aw.out bu ay.out.2;have bf:=(Yn (a:=⟨d,0,none⟩) cd.out).trans ap;have d9:=(Yn (a:=⟨w.heap.size,3,none⟩) b9.out).trans b3;clear br))
  all_goals
   go_wp2_with fail
   go_meet
   exact ⟨rfl,rfl,rfl,_,aw.out,rfl⟩
 case rest =>
  obtain ⟨rfl,rfl,rfl,eb,ax,rfl⟩:=hcut;obtain ⟨b1,bt,bp⟩:=az.out.moved ax.out;have R:=Za bt;have b7:Hid (∀ y,b1 y→E y∨w.heap.size≤y):=fun y bd=>(bp y bd).imp (fun x=>x) (fun x=>Ym K0.out.2.2.size x)
  have bo:Hid (eb.heap[w.heap.size]?=some (bOp 5 A B s)):=(Zan ax.out bu ay.out.2).trans K0.out.2.1;clear ap aa ac ad ae af ag ah ai aj ab a1 a6 b2 b3 bt bp;obtain ⟨ap,aa,ac,ad,ae,af,ag,ah,ai,aj,ab⟩:=Za0 R.out.pr;obtain ⟨a1,a6,b2,b3⟩:=Zbq bo.out;have L:=R.out.lt;have bv:w.heap.size<eb.heap.size:=(Ya.1 bo.out).1;have a0:=Za (fun v (bc:Below eb.heap.size eb v)=>cc.out v (R.out.ref.nx bc));have dd:=Yg eb _ aa;have be:=Yg eb _ ac;have dh:=Yg eb _ ad;have di:=Yg eb _ ae;have dj:=Yg eb _ af;have dk:=Yg eb _ ag;have dl:=Yg eb _ ah;have dm:=Yg eb _ ai;have dp:=Yg eb _ aj;have de:=Yg eb _ ab;have df:=Yg eb _ b3;unfold ZlX at a0;simp only [wdA] at a0;go_upto_region 9 with fail
  go_cut [8,9,10,11] (fun p bg bh bi bk=>bg=.int .i64 n∧bh=.int .i64 al∧bi=.int .i64 l∧∃ (g:Nat) (Y:ZA) (V:Option Addr) (U:Nat) (wz:World),p=.pointer (some ⟨g,0,none⟩)∧Hid (BoxW eb S u ec O N D Y Z (X'.op+1) V U g wz)∧wz=bk)
  case first =>
   go_region_held3 (fun m=>m.cell? ⟨d,1,none⟩=some (.int .i64 S.bud)∧m.cell? ⟨d,2,none⟩=some (.slice u.po S.pools.length u.pc)∧m.cell? ⟨d,3,none⟩=some (.slice u.so S.srv.length u.sc)∧m.cell? ⟨d,4,none⟩=some (.slice u.wo S.wts.length u.wc)∧m.cell? ⟨d,5,none⟩=some (.slice u.tqo S.plan.length u.tc)∧m.cell? ⟨d,6,none⟩=some (.bool S.begun)∧m.cell? ⟨d,7,none⟩=some (.bool S.back)∧m.cell? ⟨d,8,none⟩=some (.int .i64 (I.op+1))∧m.cell? ⟨d,9,none⟩=some (.int .i64 ec.1)∧m.cell? ⟨d,10,none⟩=some (.slice O ec.2.length N)∧m.cell? ⟨w.heap.size,3,none⟩=some (.string s)) (go_keep)
    ((go_at_call 17;refine (a0.out _ (by first | exact (Yh _ _).drew | exact (Yh _ _).drew.alloc (Yd _) _)).mono ?_;rintro e ed ⟨Y,V,U,rfl,am⟩;have bm:Hid (RefG eb ed S u ec O N D Y Z V U):=(by first | exact Zbx (Yh _ _).drew am | exact Zbx ((Yh _ _).drew.alloc (Yd _) _) am);have J:=Za bm.out.bel;(first | (have b8:Hid (RefG (eb.drew.alloc zW) ed S u ec O N D Y Z V U):=am) | skip);have ck:=(J.out.cell (p:=⟨d,1,none⟩) L).trans aa;have co:=(J.out.cell (p:=⟨d,2,none⟩) L).trans ac;have cp:=(J.out.cell (p:=⟨d,3,none⟩) L).trans ad;have cq:=(J.out.cell (p:=⟨d,4,none⟩) L).trans ae;have cr:=(J.out.cell (p:=⟨d,5,none⟩) L).trans af;have cs:=(J.out.cell (p:=⟨d,6,none⟩) L).trans ag;have ct:=(J.out.cell (p:=⟨d,7,none⟩) L).trans ah;have cu:=(J.out.cell (p:=⟨d,8,none⟩) L).trans ai;have cv:=(J.out.cell (p:=⟨d,9,none⟩) L).trans aj;have cl:=(J.out.cell (p:=⟨d,10,none⟩) L).trans ab;have cm:=(J.out.cell (p:=⟨w.heap.size,3,none⟩) bv).trans b3;have dv:=Yg ed _ ck;have bw:=Yg ed _ co;have dy:=Yg ed _ cp;have dz:=Yg ed _ cq;have d0:=Yg ed _ cr;have d1:=Yg ed _ cs;have d6:=Yg ed _ ct;have d7:=Yg ed _ cu;have d8:=Yg ed _ cv;have dw:=Yg ed _ cl;have dx:=Yg ed _ cm;(first | (have bl:Hid (ed.heap[eb.heap.size]?=some zW):=(am.bel.block eb.heap.size (by simp)).trans (Zd eb.drew zW rfl);obtain ⟨cw,cx,cy,cz,c0,c6,c7,c8,c9,db,dc⟩:=Zg bl.out) | skip);clear am))
   all_goals
    go_wp2_with fail
    go_meet
    first
    | exact ⟨rfl,rfl,rfl,_,Y,V,U,_,rfl,Ze7 bm.out,rfl⟩
    | exact ⟨rfl,rfl,rfl,_,Y,V,U,_,rfl,Zhp b8.out bl.out R.out.ref.lt,rfl⟩
  case rest =>
   obtain ⟨rfl,rfl,rfl,g,Y,V,U,wz,rfl,ak,rfl⟩:=hcut;have cb:=Za (ak.out.take R.out);have b6:Hid (Chg (fun y=>E y∨y=d) w wz):=by
    obtain ⟨_,_,_,cf⟩:=ax.out;exact ((Chg.of_below K0.out.2.2).trans (cf.mono (fun y bd=>(.inl bd:E y∨y=d))) (fun x ao=>.inl ao)).trans (Chg.of_below (F:=fun y=>E y∨y=d) ak.out.bel) (fun x ao=>.inl ao)
   clear ap aa ac ad ae af ag ah ai aj ab a1 a6 b2 b3 dd be dh di dj dk dl dm dp de df L bv;obtain ⟨cw,cx,cy,cz,c0,c6,c7,c8,c9,db,dc⟩:=Zg ak.out.box;have a7:wz.heap[d]?=some (ZbE (.pointer (some ⟨M,0,none⟩)) S.bud (.slice u.po S.pools.length u.pc) (.slice u.so S.srv.length u.sc) (.slice u.wo S.wts.length u.wc) (.slice u.tqo S.plan.length u.tc) S.begun S.back (I.op+1) ec.1 (.slice O ec.2.length N)):=(ak.out.bel.block d R.out.lt).trans R.out.pr;obtain ⟨ap,aa,ac,ad,ae,af,ag,ah,ai,aj,ab⟩:=Za0 a7;have ea:=Ze5 a7;have du:g≠d:=by have ds:=ak.out.new;have dt:=R.out.lt;omega
   clear a7;go_wp2_with fail
   go_ret
   exact ⟨by simp,⟨_,_,_,_,cb.out,b7.out⟩,b6.out.trans (ZdD _ _ _ _ _ _ _ _ _ _ _ _) (fun x ao=>.inl (.inr ao))⟩
theorem Ztl (A L J:Nat) (S:Zh) (q:ZB) (I:Int×List Pl) (m F:Nat→Prop) (u:ZA) (U:Option Addr) (R:Nat) (M N O:Nat) (w:World) (kd af B:Int) (s:ByteArray) (h:Run w A L J S q S (q.op+1) I m F u U R M N O) (X:kd≤0∨8≤kd) :
  Calls Tryz.prog 7 #[.pointer (some ⟨A,0,none⟩),.agg #[.int .i64 kd,.int .i64 af,.int .i64 B,.string s]] w fun e w'=>ZdZ ⟨S,q,0,0,0⟩ I A L J m F M N O w w' e:=by
 obtain ⟨d,D⟩:∃ d,d=w.alloc (bOp kd af B s):=⟨_,rfl⟩;have E:Below w.heap.size w d:=by rw [D];exact Zc _ _
 have Q:Hid (d=w.alloc (bOp kd af B s)∧d.heap[w.heap.size]?=some (bOp kd af B s)∧Below w.heap.size w d):=⟨D,by rw [D];exact Zd _ _ rfl,E⟩;have V:Hid (ZdZ ⟨S,q,0,0,0⟩ I A L J m F M N O w d (.returned (.bool true))):=⟨rfl,⟨m,u,U,R,h.below E,fun y Y=>.inl Y⟩,Chg.of_below E⟩;have ac:(kd == 1)=false:=by rw [beq_eq_false_iff_ne];omega
 have e2:(kd == 2)=false:=by rw [beq_eq_false_iff_ne];omega
 have e3:(kd == 3)=false:=by rw [beq_eq_false_iff_ne];omega
 have e4:(kd == 4)=false:=by rw [beq_eq_false_iff_ne];omega
 have e5:(kd == 5)=false:=by rw [beq_eq_false_iff_ne];omega
 have ad:(kd == 6)=false:=by rw [beq_eq_false_iff_ne];omega
 have ae:(kd == 7)=false:=by rw [beq_eq_false_iff_ne];omega
 clear h D E X;go_enter Tryz.func7,Tryz.ntmps7
 go_upto_region 1 with fail
 rw [←Q.out.1];obtain ⟨aa,ab,b2,b3⟩:=Zbq Q.out.2.1;go_wp2_with fail
 go_ret
 exact V.out
theorem Zpr {S:Zh} {op:Int} {T:Zh} {t:Int} (d:t≤op) (h:T.wts.length≤S.wts.length):pot (T,t)≤pot (S,op):=by
 unfold pot;simp only;omega
theorem Zno (S:Zh) (op c:Int) (nm:ByteArray):pot ((ZaD S op c nm).S,(ZaD S op c nm).op)≤pot (S,op)+1∧Rest S (ZaD S op c nm).S:=by
 have d:pot (S,op)≤pot (S,op)+1:=by omega
 have D:∀ (T:Zh) (t:Int),pot (ZO T c,t)≤pot (T,t):=fun T t=>Zpr (Int.le_refl _) (Yp _ _)
 unfold ZaD;split
 ·exact ⟨d,Rest.refl _⟩
 ·split
  ·exact ⟨d,Rest.refl _⟩
  ·split
   ·exact ⟨d,Rest.refl _⟩
   ·rename_i x _
    have q:=Zc1 (S.wts.length+1) (Zad S c x.nm) op;have A:pot (Zad S c x.nm,op)=pot (S,op)+1:=by unfold pot Zad;simp;omega
    have h:pot (ZL S op c x.nm)≤pot (S,op)+1:=by rw [←A];exact q.1
    have m:Rest S (ZL S op c x.nm).1:=Rest.trans (T:=Zad S c x.nm) ⟨rfl,rfl,rfl,rfl,rfl⟩ q.2.2;split
    ·exact ⟨h,m⟩
    ·split
     ·exact ⟨Int.le_trans (D _ _) h,m.trans ⟨rfl,rfl,rfl,rfl,rfl⟩⟩
     ·exact ⟨h,m⟩
theorem ZkB (S:Zh) (op c:Int):pot ((ZaI S op c).S,(ZaI S op c).op)≤pot (S,op)+1∧Rest S (ZaI S op c).S:=by
 unfold ZaI;split
 ·exact ⟨by simp only;omega,Rest.refl _⟩
 ·split
  ·exact ⟨by simp only;omega,Rest.refl _⟩
  ·have:pot (ZO S c,op)≤pot (S,op):=Zpr (Int.le_refl _) (Yp _ _);exact ⟨by simp only;omega,⟨rfl,rfl,rfl,rfl,rfl⟩⟩
theorem ZkM (S:Zh) (op c:Int):pot ((Zau S op c).S,(Zau S op c).op)≤pot (S,op)+1∧Rest S (Zau S op c).S:=by
 unfold Zau;split
 ·exact ⟨by simp only;omega,Rest.refl _⟩
 ·have d:=Zc1 S.wts.length (ZR S c) op;have h:pot (ZR S c,op)=pot (S,op):=rfl;exact ⟨by have:=d.1;rw [h] at this;simp only;exact Int.le_trans this (by omega),Rest.trans (T:=ZR S c) ⟨rfl,rfl,rfl,rfl,rfl⟩ d.2.2⟩
theorem ZlG (S:Zh) (op c:Int):pot ((ZaH S op c).S,(ZaH S op c).op)≤pot (S,op)+1∧Rest S (ZaH S op c).S:=by
 unfold ZaH;split
 ·exact ⟨by simp only;omega,Rest.refl _⟩
 ·split
  ·exact ⟨by simp only;omega,Rest.refl _⟩
  ·rename_i s _
   simp only;obtain ⟨T,m⟩:∃ T,(if ZaY (ZT S s.id 0) s=true then ZR (ZT S s.id 0) s.id else ZT S s.id 0)=T:=⟨_,rfl⟩;rw [m];have h:pot (T,op)=pot (S,op)∧Rest S T:=by
    rw [←m];split <;> exact ⟨rfl,rfl,rfl,rfl,rfl,rfl⟩
   have d:=Zc1 S.wts.length T op;exact ⟨by have:=d.1;rw [h.1] at this;exact Int.le_trans this (by omega),h.2.trans d.2.2⟩
theorem Zft (m q:TypeId) (sz:Nat) (mk:Int→List Value) (w:World) (F:Nat→Prop):RowsG m q sz mk w F (.slice none 0 0) 0:=
 ⟨[],Yq _ _ _ _,fun g d=>by simp [Value.ownBlock] at d,fun i x h=>by simp at h⟩
theorem ZrW {w:World} {d:Nat} (h:w.heap[d]?=some (bOw (.slice none 0 0) (.slice none 0 0) (.slice none 0 0) (.slice none 0 0))):OwnAt w d (fun y=>y=d) 0 0 0 0:=
 ⟨⟨_,_,_,_,h,Zft _ _ _ _ _ _,Zft _ _ _ _ _ _,Zft _ _ _ _ _ _,Zft _ _ _ _ _ _⟩,rfl,fun x m=>by rw [m];exact (Ya.1 h).1⟩
structure Opr where
 k:Int
 a:Int
 b:Int
 s:ByteArray
def fOp (x:Opr):List Value:=[.int .i64 x.k,.int .i64 x.a,.int .i64 x.b,.string x.s]
def ZhN (l:List Opr):List Value:=l.flatMap fOp
theorem ZtG {w:World} {d:Option Addr} {n m q:Nat} {l:List Opr} (h:RowAt w (.slice d n q) m (ZhN l)) {i:Nat} {x:Opr} (A:l[i]?=some x) :
  ∃ b off,d=some ⟨b,off,none⟩∧b<w.heap.size∧w.cell? ⟨b,off+i*4,none⟩=some (.int .i64 x.k)∧w.cell? ⟨b,off+i*4+1,none⟩=some (.int .i64 x.a)∧w.cell? ⟨b,off+i*4+2,none⟩=some (.int .i64 x.b)∧w.cell? ⟨b,off+i*4+3,none⟩=some (.string x.s):=by
 obtain ⟨b,off,e,hb,g⟩:=ZhM (f:=fOp) (k:=4) (fun _=>rfl) h A (by omega);exact ⟨b,off,e,hb,g 0 _ rfl,g 1 _ rfl,g 2 _ rfl,g 3 _ rfl⟩
theorem Zfu {S T:Zh} {m:ZB} {q:Int×List Pl} {t:Int} (d:PlI S m q) (D:Zbt T t) (h:Rest S T):PlI T {m with op:=t} q:=by
 obtain ⟨g,E⟩:=d.pln;refine ⟨D,⟨g,Zqb E h ⟨rfl,rfl⟩⟩,fun A hb=>?_,d.y,d.hps,by rw [h.2.2.1];exact d.plan⟩;rw [h.2.2.1] at A;rw [h.2.2.2.2] at hb;exact d.home A hb
theorem Zjn (S:Zh) (h:ZB) (d:Bool):(Zac S h d).1.plan.length≤S.plan.length∧((Zac S h d).2.hps=[]∨(Zac S h d).2.hps=h.hps):=by
 unfold Zac;split
 ·split
  ·exact ⟨by simp,.inl rfl⟩
  ·exact ⟨by simp,.inr rfl⟩
 ·exact ⟨Yd _,.inr rfl⟩
theorem ZrG (d:List Stp) (b:Int) (ps:List Pl) (h:ps.length≤6):(ZcD d b ps).2.length≤6:=by
 unfold ZcD;split
 ·simp
 ·exact h
theorem ZqE {S:Zh} {d:ZB} {q:Int×List Pl} (h:PlI S d q):PlI (Zaw S d).S (Zaw S d).X (Zco S (d.op+1) q).Y∧pot ((Zaw S d).S,(Zaw S d).X.op)≤pot (S,d.op):=by
 obtain ⟨g,D⟩:=h.pln;obtain ⟨M,N,R,O⟩:=ZqW h.good D;have I:=Zkq h.good D h.home;have E:=I.home;rw [←I.S] at E;have L:(Zco S (d.op+1) q).Y=q:=by unfold Zco;split <;> rfl
 refine ⟨⟨M,⟨g,N⟩,E,by rw [L];exact h.y,?_,?_⟩,O⟩
 ·cases m:S.plan with
  | nil =>
   have e:Zaw S d=⟨S,d,0,14,0⟩:=by unfold Zaw;rw [m]
   rw [e];exact h.hps
  | cons s r =>
   have e:(Zaw S d).X=(Zac (Zak s.kind s.name s.n S.begun S d.op).1 {d with op:=(Zak s.kind s.name s.n S.begun S d.op).2} (Z4 s.kind s.name s.n (Zak s.kind s.name s.n S.begun S d.op).1)).2:=by unfold Zaw;rw [m]
   rw [e];rcases (Zjn _ _ _).2 with A | A
   ·rw [A];simp
   ·rw [A];exact h.hps
 ·cases m:S.plan with
  | nil =>
   have e:Zaw S d=⟨S,d,0,14,0⟩:=by unfold Zaw;rw [m]
   rw [e];exact h.plan
  | cons s r =>
   have e:(Zaw S d).S=(Zac (Zak s.kind s.name s.n S.begun S d.op).1 {d with op:=(Zak s.kind s.name s.n S.begun S d.op).2} (Z4 s.kind s.name s.n (Zak s.kind s.name s.n S.begun S d.op).1)).1:=by unfold Zaw;rw [m]
   rw [e];refine Ym (Zjn _ _ _).1 ?_;obtain ⟨Q,t,hb,J,_⟩:=ZlR h.good D m;rw [J.rest.2.2.1,hb.tab.2.2.1];exact h.plan
theorem ZnT {S:Zh} {h:ZB} {q:Int×List Pl} (d:PlI S h q) {a:Ans} (A:a.err=0→Okt a.tab.1 a.tab.2):PlI (Z0 S h a).S (Z0 S h a).X (ZbD S (h.op+1) q a).Y∧pot ((Z0 S h a).S,(Z0 S h a).X.op)≤pot (S,h.op):=by
 obtain ⟨g,m⟩:=d.pln;obtain ⟨L,⟨I,M,_,_⟩,N,O⟩:=ZnU d.good m A;have E:=Zib (a:=a) d.home;have D:=E.home;rw [←E.S] at D;refine ⟨⟨L,⟨I,M⟩,D,?_,?_,?_⟩,by omega⟩
 ·unfold ZbD;split
  ·exact d.y
  ·split
   ·exact d.y
   ·exact m.tab.len
 ·unfold Z0;split
  ·exact d.hps
  ·split
   ·exact d.hps
   ·exact ZrG _ _ _ m.tab.len
 ·unfold Z0;split
  ·exact d.plan
  ·split
   ·exact d.plan
   ·rename_i J
    exact Ziz _ _ _ _ m.tab.len (A (Classical.not_not.1 J)).len
theorem Zpa {S:Zh} {h:ZB} {m:Int×List Pl} (d:PlI S h m):PlI (Zao S h).S (Zao S h).X (ZbN S (h.op+1) m).Y∧pot ((Zao S h).S,(Zao S h).X.op)≤pot (S,h.op):=by
 obtain ⟨g,A⟩:=d.pln;obtain ⟨I,⟨E,J,_,_⟩,L,M⟩:=Zpb d.good A;have D:=Zjg d.home;have q:=D.home;rw [←D.S] at q;refine ⟨⟨I,⟨E,J⟩,q,?_,?_,?_⟩,by omega⟩
 ·unfold ZbN;split
  ·exact d.y
  ·split
   ·exact d.y
   ·exact d.y
 ·unfold Zao;split
  ·exact d.hps
  ·split
   ·exact d.hps
   ·simp
 ·unfold Zao;split
  ·exact d.plan
  ·split
   ·exact d.plan
   ·exact Ziz _ _ _ _ A.tab.len d.hps
structure Plys (B:Nat) (w:World) (gx gp go:Nat) (S:Zh) (X:ZB) (Y:Int×List Pl) (Fp F:Nat→Prop) (u:ZA) (ho:Option Addr) (hc q1 q2 q4:Nat) (k:Nat):Prop where
 run:Run w gx gp go S X S (X.op+1) Y Fp F u ho hc q1 q2 q4
 pli:PlI S X Y
 pot:pot (S,X.op)≤k
 q:q1≤2*k∧q2≤2*k∧q4≤2*k
 fp:∀ y,Fp y→B≤y
 f:∀ y,F y→B≤y
 x:B≤gx
theorem Plys.num {B:Nat} {w:World} {J I E:Nat} {S:Zh} {m:ZB} {q:Int×List Pl} {D F:Nat→Prop} {u:ZA} {M:Option Addr} {L O Q R k:Nat} (d:Plys B w J I E S m q D F u M L O Q R k) (ac:k≤1073741824):RefOk S m.op q∧Zjy S∧Zlz S:=by
 have h:=d.pli.good.fine.inv;obtain ⟨g,N⟩:=d.pli.pln;have U:=h.len;have V:=h.op0;have A:=d.pot;have X:=N.tab.len;have Y:=d.pli.plan;have aa:=d.pot;have ab:=d.pli.y;unfold Lw.pot at A;simp only at A;refine ⟨⟨⟨h,by omega,by omega⟩,by omega,by omega,by omega,by omega⟩,⟨?_,?_,?_,?_⟩,⟨?_,?_,?_,?_⟩⟩ <;> (try unfold maxLen) <;> omega
def ZsF (S:Zh) (X:ZB) (gx gp go:Nat) (Fp F:Nat→Prop) (q1 q2 q4:Nat) (w w':World) (e:Ending):Prop:=
 e=.returned (.bool true)∧∃ D X' Z Fp' u' ho' hc',Run w' gx gp go D X' D (X'.op+1) Z Fp' F u' ho' hc' q1 q2 q4∧(∀ y,Fp' y→Fp y∨w.heap.size≤y)∧Chg (fun y=>Fp y∨y=gx) w w'∧PlI D X' Z∧pot (D,X'.op)≤pot (S,X.op)+1
theorem ZdE {d:Rsp} {Z:Int×List Pl} {S:Zh} {m:ZB} {D A q:Nat} {aa F:Nat→Prop} {E I J:Nat} {w L:World} {e:Ending} (h:ZdZ d Z D A q aa F E I J w L e) (N:PlI d.S d.X Z) (V:pot (d.S,d.X.op)≤pot (S,m.op)+1):ZsF S m D A q aa F E I J w L e:=by
 obtain ⟨R,⟨M,Y,U,O,X,hF⟩,Q⟩:=h;exact ⟨R,d.S,d.X,Z,M,Y,U,O,X,hF,Q,N,V⟩
theorem Zqx (D J I:Nat) (S:Zh) (d:ZB) (A:Int×List Pl) (E F:Nat→Prop) (u:ZA) (Q:Option Addr) (O:Nat) (L M N:Nat) (w:World) (kd aa B:Int) (s:ByteArray) (h:Run w D J I S d S (d.op+1) A E F u Q O L M N) (m:PlI S d A) (U:RefOk S d.op A) (Y:s.size≤maxLen) :
  Calls Tryz.prog 7 #[.pointer (some ⟨D,0,none⟩),.agg #[.int .i64 kd,.int .i64 aa,.int .i64 B,.string s]] w fun e R=>ZsF S d D J I E F L M N w R e:=by
 rcases (by omega:(kd≤0∨8≤kd)∨kd=1∨kd=2∨kd=3∨kd=4∨kd=5∨kd=6∨kd=7) with X | rfl | rfl | rfl | rfl | rfl | rfl | rfl
 ·exact (Ztl D J I S d A E F u Q O L M N w kd aa B s h X).mono fun e R q=>ZdE q m (by show pot (S,d.op)≤_;omega)
 ·exact (ZsO D J I S d A E F u Q O L M N w aa B s h U m.good.still).mono fun e R q=>ZdE q (Zfu m (Zqs m.good aa s).1 (Zno S d.op aa s).2) (Zno S d.op aa s).1
 ·exact (ZsU D J I S d A E F u Q O L M N w aa B s h U m.good.still).mono fun e R q=>ZdE q (Zfu m (Zo5 m.good aa 0 0).1 (ZlG S d.op aa).2) (ZlG S d.op aa).1
 ·exact (Zsr D J I S d A E F u Q O L M N w aa B s h U m.good.still).mono fun e R q=>ZdE q (Zfu m (Zn8 m.good aa).1 (ZkB S d.op aa).2) (ZkB S d.op aa).1
 ·exact (Zs1 D J I S d A E F u Q O L M N w aa B s h U m.good.still).mono fun e R q=>ZdE q (Zfu m (ZnA m.good aa 0 0).1 (ZkM S d.op aa).2) (ZkM S d.op aa).1
 ·have V:=ZnT m (ZeQ s);exact (Ztg D J I S d A E F u Q O L M N w aa B s h m U Y).mono fun e R q=>ZdE q V.1 (by omega)
 ·have V:=ZqE m;exact (Zto D J I S d A E F u Q O L M N w aa B s h m U).mono fun e R q=>ZdE q V.1 (by omega)
 ·have V:=Zpa m;exact (Zs8 D J I S d A E F u Q O L M N w aa B s h m U).mono fun e R q=>ZdE q V.1 (by omega)
theorem OwnAt.grow {w:World} {m:Nat} {F X:Nat→Prop} {q A D E:Nat} (h:OwnAt w m F q A D E) (d:∀ y,F y→X y) (O:∀ y,X y→y<w.heap.size):OwnAt w m X q A D E:=by
 obtain ⟨Q,R,U,V,I,J,L,M,N⟩:=h.ex;exact ⟨⟨Q,R,U,V,I,J.keep (fun _ _=>rfl) d,L.keep (fun _ _=>rfl) d,M.keep (fun _ _=>rfl) d,N.keep (fun _ _=>rfl) d⟩,d _ h.go,O⟩
structure Two where
 gx:Nat
 gp:Nat
 S:Zh
 X:ZB
 Y:Int×List Pl
 Fp:Nat→Prop
 u:ZA
 ho:Option Addr
 hc:Nat
def Zd0 (p:Two) (y:Nat):Prop:=p.Fp y∨y=p.gx∨Zes p.S p.u p.Y p.ho p.hc y
abbrev ZfG (w:World) (go:Nat) (p:Two) (F:Nat→Prop) (q1 q2 q4:Nat):Prop:=Run w p.gx p.gp go p.S p.X p.S (p.X.op+1) p.Y p.Fp F p.u p.ho p.hc q1 q2 q4
def ZdP (p:Two):Value:=.pointer (some ⟨p.gx,0,none⟩)
theorem ZeU {w:World} {m:Nat} {p:Two} {F:Nat→Prop} {q A D:Nat} (h:ZfG w m p F q A D) {y:Nat} (d:Zd0 p y):y<w.heap.size:=by
 rcases d with d | rfl | d
 ·exact h.desk.lt y d
 ·exact h.lt
 ·exact h.ref.lt y d
theorem ZfX {w:World} {m:Nat} {p:Two} {F:Nat→Prop} {q A D:Nat} (h:ZfG w m p F q A D) {y:Nat} (d:Zd0 p y):¬F y:=by
 rcases d with d | rfl | d
 ·exact h.dp y d
 ·exact h.dx
 ·exact h.dr y d
theorem ZfO {w J:World} {m:Nat} {p:Two} {F h G:Nat→Prop} {O Q R L I M:Nat} (d:ZfG w m p F O Q R) (q:Chg G w J) (hd:∀ y,Zd0 p y→¬G y) (N:OwnAt J m h L I I M) (E:∀ y,Zd0 p y→¬h y):ZfG J m p h L I M:=
 ⟨(q.block p.gx d.lt (hd _ (.inr (.inl rfl)))).trans d.pr,d.desk.keep q (fun y D=>hd y (.inl D)),d.ref.keep q (fun g A=>hd g (.inr (.inr A))),N,E _ (.inr (.inl rfl)),d.dxp,fun y D=>E y (.inl D),fun g A=>E g (.inr (.inr A)),d.drp,d.drx⟩
structure Alls (B:Nat) (w:World) (go:Nat) (lv:Value) (L:List Two) (F:Nat→Prop) (q1 q2 q4 k:Nat):Prop where
 own:OwnAt w go F q1 q2 q2 q4
 run:∀ p∈L,ZfG w go p F q1 q2 q4
 pli:∀ p∈L,PlI p.S p.X p.Y
 pot:∀ p∈L,Lw.pot (p.S,p.X.op)≤k
 apart:∀ (i j:Nat) (p q:Two),L[i]?=some p→L[j]?=some q→i≠j→∀ y,Zd0 p y→¬Zd0 q y
 base:∀ p∈L,(∀ y,p.Fp y→B≤y)∧B≤p.gx
 f:∀ y,F y→B≤y
 row:w.ownsRow B 33 1 lv L.length (L.map ZdP)
 lf:∀ g,lv.ownBlock=some g→¬F g∧∀ p∈L,¬Zd0 p g
def Zld (F:Nat→Prop) (lv:Value) (L:List Two) (i:Nat) (y:Nat):Prop:=F y∨lv.ownBlock=some y∨∃ j q,j≠i∧L[j]?=some q∧Zd0 q y
theorem Alls.at {B:Nat} {w:World} {E:Nat} {L:Value} {m:List Two} {F:Nat→Prop} {M N O k:Nat} (h:Alls B w E L m F M N O k) {i:Nat} {p:Two} (A:m[i]?=some p):ZfG w E p (Zld F L m i) M N O:=by
 have J:=h.run p (Yo A);refine ZfO J (Chg.refl (fun _=>False) w) (fun _ _ h=>h) (h.own.grow (fun y d=>.inl d) ?_) ?_
 ·rintro y (d | d | ⟨j,q,I,D,d⟩)
  ·exact h.own.lt y d
  ·exact (h.row.lt y d).2
  ·exact ZeU (h.run q (Yo D)) d
 ·rintro y d (R | R | ⟨j,q,I,D,Q⟩)
  ·exact ZfX J d R
  ·exact (h.lf y R).2 p (Yo A) d
  ·exact h.apart i j p q A D (Ne.symm I) y d Q
theorem Zjw {α:Type} {l:List α} {i j:Nat} {a b:α} (d:(l.set i a)[j]?=some b):(j=i∧b=a)∨(j≠i∧l[j]?=some b):=by
 rw [List.getElem?_set] at d;split at d
 ·rename_i e
  split at d
  ·exact .inl ⟨e.symm,(Option.some.inj d).symm⟩
  ·simp at d
 ·rename_i e
  exact .inr ⟨Ne.symm e,d⟩
theorem Zf1 {α:Type} {l:List α} {i:Nat} {a b:α} (d:b∈l.set i a):b=a∨∃ j,j≠i∧l[j]?=some b:=by
 obtain ⟨j,h⟩:=List.getElem?_of_mem d;rcases Zjw h with ⟨_,e⟩ | e
 ·exact .inl e
 ·exact .inr ⟨j,e⟩
theorem Zl6 {α β:Type} (f:α→β) {l:List α} {i:Nat} {a b:α} (d:l[i]?=some b) (e:f a=f b):(l.set i a).map f=l.map f:=by
 apply List.ext_getElem?;intro j;rw [List.getElem?_map,List.getElem?_map,List.getElem?_set];split
 ·rename_i h
  subst h;have:=(Yc.1 d).1;rw [if_pos this,d];simp [e]
 ·rfl
theorem Alls.played {B:Nat} {w I:World} {M:Nat} {V:Value} {J:List Two} {F:Nat→Prop} {O L Q k:Nat} (h:Alls B w M V J F O L Q k) {i:Nat} {p p':Two} (ac:J[i]?=some p) (al:p'.gx=p.gx) (aj:ZfG I M p' (Zld F V J i) O L Q) (hF:∀ y,p'.Fp y→p.Fp y∨w.heap.size≤y) (R:Chg (fun y=>p.Fp y∨y=p.gx) w I) (hI:PlI p'.S p'.X p'.Y) (aq:Lw.pot (p'.S,p'.X.op)≤Lw.pot (p.S,p.X.op)+1) (hB:B≤w.heap.size) :
  Alls B I M V (J.set i p') F O L Q (k+1)∧Below B w I:=by
 have E:=Yo ac;have ai:=h.run p E;have U:∀ y,Zd0 p' y→¬Zld F V J i y:=fun y d=>ZfX aj d
 have ab:OwnAt I M F O L L Q:=h.own.keep R (fun y d ar=>ar.elim (fun e=>ai.dp y e d) (fun e=>ai.dx (by rw [←e];exact d)));have ah:∀ y,(p.Fp y∨y=p.gx)→Zd0 p y:=fun y d=>d.elim .inl (fun e=>.inr (.inl e))
 have N:∀ j q,j≠i→J[j]?=some q→ZfG I M q F O L Q:=fun j q m N =>
  ZfO (h.run q (Yo N)) R (fun y d ar=>h.apart i j p q ac N (Ne.symm m) y (ah y ar) d) ab (fun y d=>ZfX (h.run q (Yo N)) d)
 refine ⟨⟨ab,fun r D=>?_,fun r D=>?_,fun r D=>?_,fun a b r s ap ak ae y d ad=>?_,fun r D=>?_,h.f,?_,fun g ar=>⟨(h.lf g ar).1,fun r D ag=>?_⟩⟩,R.below hB ?_⟩
 ·rcases Zf1 D with rfl | ⟨j,m,A⟩
  ·exact ZfO aj (Chg.refl (fun _=>False) I) (fun _ _ h=>h) ab (fun y d ao=>U y d (.inl ao))
  ·exact N j r m A
 ·rcases Zf1 D with rfl | ⟨j,m,A⟩
  ·exact hI
  ·exact h.pli r (Yo A)
 ·rcases Zf1 D with rfl | ⟨j,m,A⟩
  ·have:=h.pot p E;omega
  ·have:=h.pot r (Yo A);omega
 ·rcases Zjw ap with ⟨rfl,rfl⟩ | ⟨am,af⟩
  ·rcases Zjw ak with ⟨rfl,rfl⟩ | ⟨hb,aa⟩
   ·exact ae rfl
   ·exact U y d (.inr (.inr ⟨b,s,hb,aa,ad⟩))
  ·rcases Zjw ak with ⟨rfl,rfl⟩ | ⟨hb,aa⟩
   ·exact U y ad (.inr (.inr ⟨a,r,am,af,d⟩))
   ·exact h.apart a b r s af aa ae y d ad
 ·rcases Zf1 D with rfl | ⟨j,m,A⟩
  ·refine ⟨fun y d=>?_,by rw [al];exact (h.base p E).2⟩;rcases hF y d with d | d
   ·exact (h.base p E).1 y d
   ·exact Ym hB d
  ·exact h.base r (Yo A)
 ·rw [List.length_set,Zl6 ZdP ac (by unfold ZdP;rw [al])];exact Zz h.row (fun j m=>R.block j (h.row.lt j m).2 (fun ar=>(h.lf j m).2 p E (ah j ar)))
 ·rcases Zf1 D with rfl | ⟨j,m,A⟩
  ·exact U g ag (.inr (.inl ar))
  ·exact (h.lf g ar).2 r (Yo A) ag
 ·rintro y (d | rfl)
  ·exact (h.base p E).1 y d
  ·exact (h.base p E).2
theorem Alls.looked {B:Nat} {w q:World} {D:Nat} {Q:Value} {L:List Two} {F A:Nat→Prop} {X Y aa R J U k:Nat} (d:Alls B w D Q L F X Y aa k) (E:Chg F w q) (O:OwnAt q D A R J J U) (hF:∀ y,A y→F y∨w.heap.size≤y) (M:B≤w.heap.size) :
  Alls B q D Q L A R J U k∧Below B w q:=by
 refine ⟨⟨O,fun p V=>(d.run p V).looked E O hF,d.pli,d.pot,d.apart,d.base,fun y h=>?_,Zz d.row (fun j N=>E.block j (d.row.lt j N).2 (d.lf j N).1),fun g I=>⟨fun m=>?_,(d.lf g I).2⟩⟩,E.below M d.f⟩
 ·rcases hF y h with h | h
  ·exact d.f y h
  ·exact Ym M h
 ·rcases hF g m with m | m
  ·exact (d.lf g I).1 m
  ·have:=(d.row.lt g I).2;omega
theorem Alls.below {B:Nat} {w I:World} {m:Nat} {q:Value} {h:List Two} {F:Nat→Prop} {A D E k:Nat} (d:Alls B w m q h F A D E k) (hb:Below w.heap.size w I) (J:B≤w.heap.size):Alls B I m q h F A D E k:=
 (d.looked (Chg.of_below hb) (d.own.keep (G:=fun _=>False) (Chg.of_below hb) (fun _ _ d=>d)) (fun _ L=>.inl L) J).1
theorem Zl0 {α:Type} {l:List α} {a b:α} {i:Nat} (d:(l++[a])[i]?=some b):l[i]?=some b∨(i=l.length∧b=a):=by
 by_cases h:i<l.length
 ·rw [List.getElem?_append_left h] at d;exact .inl d
 ·rw [List.getElem?_append_right (by omega)] at d;have:i - l.length<1:=by
   have:=(Yc.1 d).1;simpa using this
  have e:i=l.length:=by omega
  subst e;simp at d;exact .inr ⟨rfl,d.symm⟩
theorem Alls.add {B:Nat} {w w1 M:World} {N:Nat} {ae lv':Value} {m:List Two} {F:Nat→Prop} {R L U k:Nat} {p:Two} (h:Alls B w N ae m F R L U k) (E:B≤w.heap.size) (hb:Below w.heap.size w w1) (J:ZfG w1 N p F R L U) (A:∀ y,Zd0 p y→w.heap.size≤y) (hI:PlI p.S p.X p.Y) (ak:Lw.pot (p.S,p.X.op)≤k) (O:Chg (fun y=>ae.ownBlock=some y) w1 M) (am:M.ownsRow B 33 1 lv' (m.length+1) (m.map ZdP++[ZdP p])) (af:∀ g,lv'.ownBlock=some g→ae.ownBlock=some g∨w1.heap.size≤g) :
  Alls B M N lv' (m++[p]) F R L U k∧Below B w M:=by
 have D:=h.below hb E;have ac:OwnAt M N F R L L U:=D.own.keep O (fun y ao e=>(h.lf y e).1 ao);have q:∀ r∈m++[p],r∈m∨r=p:=fun r J=>by simpa using J
 refine ⟨⟨ac,fun r d=>?_,fun r d=>?_,fun r d=>?_,fun a b r s al ai aj y ao ad=>?_,fun r d=>?_,h.f,?_,fun g ah=>⟨fun ag=>?_,fun r d Q=>?_⟩⟩,(hb.mono E).trans (O.below (Ym E hb.size) (fun y ao=>(h.row.lt y ao).1))⟩
 ·rcases q r d with d | rfl
  ·exact ZfO (D.run r d) O (fun y ao e=>(h.lf y e).2 r d ao) ac (fun y ao=>ZfX (D.run r d) ao)
  ·exact ZfO J O (fun y ao e=>by have V:=A y ao;have aa:=(h.row.lt y e).2;omega) ac (fun y ao=>ZfX J ao)
 ·rcases q r d with d | rfl
  ·exact h.pli r d
  ·exact hI
 ·rcases q r d with d | rfl
  ·exact h.pot r d
  ·exact ak
 ·rcases Zl0 al with ab | ⟨ab,rfl⟩
  ·rcases Zl0 ai with I | ⟨I,rfl⟩
   ·exact h.apart a b r s ab I aj y ao ad
   ·have V:=ZeU (h.run r (Yo ab)) ao;have aa:=A y ad;omega
  ·rcases Zl0 ai with I | ⟨I,rfl⟩
   ·have V:=ZeU (h.run s (Yo I)) ad;have aa:=A y ao;omega
   ·omega
 ·rcases q r d with d | rfl
  ·exact h.base r d
  ·exact ⟨fun y ao=>Ym E (A y (.inl ao)),Ym E (A _ (.inr (.inl rfl)))⟩
 ·rw [List.length_append,List.map_append];exact am
 ·rcases af g ah with e | e
  ·exact (h.lf g e).1 ag
  ·have:=D.own.lt g ag;omega
 ·rcases af g ah with e | e
  ·rcases q r d with d | rfl
   ·exact (h.lf g e).2 r d Q
   ·have V:=A g Q;have aa:=(h.row.lt g e).2;omega
  ·rcases q r d with d | rfl
   ·have:=ZeU (D.run r d) Q;omega
   ·have:=ZeU J Q;omega
abbrev Zmr (a:Ans) (gx gp:Nat) (Fd:Nat→Prop) (vo:Option Addr) (vc:Nat):Two:=⟨gx,gp,Zc2 a,⟨0,0,[]⟩,(0,[]),Fd,⟨vo,vc,none,0,none,0,none,0⟩,none,0⟩
theorem Zop {a:Ans} {w w1:World} {O ab I:Nat} {F q:Nat→Prop} {m:Option Addr} {vc R N U:Nat} (J:OwnAt w O F R N N U) (hb:Below w.heap.size w w1) (Y:w.heap.size≤ab) (Q:w1.heap[ab]?=some (ZbE (.pointer (some ⟨I,0,none⟩)) a.tab.1 (.slice m a.tab.2.length vc) (.slice none 0 0) (.slice none 0 0) (.slice none 0 0) false false 1 0 (.slice none 0 0))) (hd:DeskAt w1 I (Zc2 a) ⟨0,0,[]⟩ q) (hF:∀ y,q y→w.heap.size≤y) (aa:¬q ab) (M:w1.ownsRow 0 82 4 (.slice m a.tab.2.length vc) a.tab.2.length (Ze a.tab.2)) (L:∀ g,(Value.slice m a.tab.2.length vc).ownBlock=some g→¬q g∧w.heap.size≤g) :
  ZfG w1 O (Zmr a ab I q m vc) F R N U∧∀ y,Zd0 (Zmr a ab I q m vc) y→w.heap.size≤y:=by
 have A:∀ g,Zes (Zc2 a) ⟨m,vc,none,0,none,0,none,0⟩ (0,[]) none 0 g→(Value.slice m a.tab.2.length vc).ownBlock=some g:=by
  rintro g ((d | d | d | d) | d)
  ·exact d
  ·simp [Value.ownBlock] at d
  ·simp [Value.ownBlock] at d
  ·simp [Value.ownBlock] at d
  ·simp [Value.ownBlock] at d
 refine ⟨⟨Q,hd,⟨⟨Zf M,Zdb _ _ _,Zdb _ _ _,Zdb _ _ _⟩,Zdb _ _ _,fun g d=>(M.lt g (A g d)).2⟩,J.keep (G:=fun _=>False) (Chg.of_below hb) (fun _ _ h=>h),fun D=>?_,aa,fun y E D=>?_,fun g d D=>?_,fun g d=>(L g (A g d)).1,fun g d e=>?_⟩,?_⟩
 ·have:ab<w.heap.size:=J.lt _ D;omega
 ·have V:=J.lt _ D;have X:=hF y E;omega
 ·have V:=J.lt _ D;have X:=(L g (A g d)).2;omega
 ·exact Zd7 M Q (by decide) (by rw [←show g=ab from e];exact A g d)
 ·rintro y (E | rfl | E)
  ·exact hF y E
  ·exact Y
  ·exact (L y (A y E)).2
theorem Zoh {a:Ans} (q:Okt a.tab.1 a.tab.2):PlI (Zc2 a) ⟨0,0,[]⟩ (0,[])∧pot (Zc2 a,0)≤0:=by
 have A:Inv (Zc2 a) 0:=⟨List.Pairwise.nil,fun x h=>by simp at h,Int.le_refl _,List.Pairwise.nil⟩;refine ⟨⟨⟨⟨A,fun y m=>by simp at m,fun x h=>by simp at h,List.Pairwise.nil,fun x h=>by simp at h,fun x h=>by simp at h⟩,rfl,fun y m=>by simp at m⟩,⟨a.tab,⟨q,q,fun _=>⟨rfl,rfl,rfl⟩,fun _=>⟨trivial,rfl⟩,fun d=>by simp at d,fun d=>absurd rfl d,fun s D=>by simp at D,fun d=>by simp at d⟩⟩,fun d=>absurd rfl d,Ye _,Ye _,Ye _⟩,?_⟩;unfold Lw.pot;simp
end Lw
end Go.Proofs.YtmgkcbdlfodjmaaGreatDoor
