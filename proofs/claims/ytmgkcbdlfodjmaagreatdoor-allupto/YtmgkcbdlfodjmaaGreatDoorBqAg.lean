import Derived.Test.YtmgkcbdlfodjmaaGreatDoorBqAd
import Derived.Test.YtmgkcbdlfodjmaaGreatDoorBqAf
set_option maxRecDepth 100000
set_option maxHeartbeats 16000000
namespace Go.Proofs.YtmgkcbdlfodjmaaGreatDoor
open Go.RowKit
namespace Lw
open Co
def Zac (S:Zh) (X:ZB) (d:Bool):Zh×ZB:=
 if d=true then
  if S.plan.tail.length=0 then ({S with plan:=S.plan.tail,begun:=false,back:=false},{X with hb:=0,hps:=[]})
  else ({S with plan:=S.plan.tail,begun:=false},X)
 else ({S with begun:=true},X)
theorem Zi8 {S:Zh} {d:ZB} (h:S.plan.tail.length=0):Zac S d true=({S with plan:=S.plan.tail,begun:=false,back:=false},{d with hb:=0,hps:=[]}):=by
 unfold Zac;rw [if_pos rfl,if_pos h]
theorem ZkT {S:Zh} {d:ZB} (h:¬S.plan.tail.length=0):Zac S d true=({S with plan:=S.plan.tail,begun:=false},d):=by
 unfold Zac;rw [if_pos rfl,if_neg h]
theorem ZeX {w:World} {g:Nat} {d c1 c2 c3 c4 c5 D m q A:Value} {t:TypeId} (h:w.heap[g]?=some (.cells #[d,c1,c2,c3,c4,c5,D,m,q,A] t (0,0))) (v:Value):(w.setCell ⟨g,5,none⟩ v).heap[g]?=some (.cells #[d,c1,c2,c3,c4,v,D,m,q,A] t (0,0)):=Zm _ _ _ _ _ _ h
theorem Zfb {w:World} {g:Nat} {d c1 c2 c3 c4 c5 A D m q:Value} {t:TypeId} (h:w.heap[g]?=some (.cells #[d,c1,c2,c3,c4,c5,A,D,m,q] t (0,0))) (v:Value):(w.setCell ⟨g,6,none⟩ v).heap[g]?=some (.cells #[d,c1,c2,c3,c4,c5,v,D,m,q] t (0,0)):=Zm _ _ _ _ _ _ h
theorem ZgE {w:World} {g:Nat} {d c1 c2 c3 c4 c5 D A m q:Value} {t:TypeId} (h:w.heap[g]?=some (.cells #[d,c1,c2,c3,c4,c5,D,A,m,q] t (0,0))) (v:Value):(w.setCell ⟨g,7,none⟩ v).heap[g]?=some (.cells #[d,c1,c2,c3,c4,c5,D,v,m,q] t (0,0)):=Zm _ _ _ _ _ _ h
theorem Zgk {w:World} {g:Nat} {d c1 c2 c3 c4 c5 D m A q:Value} {t:TypeId} (h:w.heap[g]?=some (.cells #[d,c1,c2,c3,c4,c5,D,m,A,q] t (0,0))) (v:Value):(w.setCell ⟨g,8,none⟩ v).heap[g]?=some (.cells #[d,c1,c2,c3,c4,c5,D,m,v,q] t (0,0)):=Zm _ _ _ _ _ _ h
theorem Zgl {w:World} {g:Nat} {d c1 c2 c3 c4 c5 D m q A:Value} {t:TypeId} (h:w.heap[g]?=some (.cells #[d,c1,c2,c3,c4,c5,D,m,q,A] t (0,0))) (v:Value):(w.setCell ⟨g,9,none⟩ v).heap[g]?=some (.cells #[d,c1,c2,c3,c4,c5,D,m,q,v] t (0,0)):=Zm _ _ _ _ _ _ h
theorem ZbX (w:World) (g a:Nat) (v:Value):Chg (fun y=>y=g) w (w.setCell ⟨g,a,none⟩ v):=Chg.set (F:=fun y=>y=g) w g a v rfl
theorem Zc5 {g:Nat} {a b c:World} (d:Chg (fun y=>y=g) a b) (k:Chg (fun y=>y=g) b c):Chg (fun y=>y=g) a c:=d.trans k (fun _ h=>.inl h)
theorem ZrO (ax:Nat) (S:Zh) (ay:ZB) (F:Nat→Prop) (d:Bool) (w:World) (h:DeskAt w ax S ay F) (al:1≤S.plan.length) (aq:S.plan.length≤1000) :
  Calls Tryz.prog 54 #[.pointer (some ⟨ax,5,none⟩),.bool d] w fun e O=>(∃ x,e=.returned x)∧Moved w O ax (Zac S ay d).1 (Zac S ay d).2 F:=by
 obtain ⟨au,ar,so,sc,wo,wc,R,Q,Y,V,ab⟩:=h.ex;have X:ax<w.heap.size:=h.lt ax h.gp;have m:=Za ab;have az:=Za h;obtain ⟨ac,N⟩:∃ n,S.plan.length=n:=⟨_,rfl⟩;have HN:=Za N;rw [N] at al aq;have M:=ab.box;rw [N] at M;have ao:=Za M;obtain ⟨ae,af,ag,ah,ai,aj⟩:=Zdc M;clear h ab N M;cases d with
 | false =>
  have E:Hid (Moved w (w.setCell ⟨ax,6,none⟩ (.bool true)) ax (Zac S ay false).1 (Zac S ay false).2 F):=by
   have A:=ZbX w ax 6 (.bool true);exact Zfd m.out az.out.gp az.out.lt S.plan true S.back ay.hb ay.hps R Q Y V (Zfb m.out.box _) (Zfr m.out az.out.lt A m.out.l (by decide)) (Zfr m.out az.out.lt A m.out.h (by decide)) A
  go_enter Tryz.func54,Tryz.ntmps54
  go_wp2_with fail
  first
  | (refine bodyPost_end (v:=.tuple #[]) (by simp [results,go_sem]) rfl ?_;exact ⟨⟨_,rfl⟩,E.out⟩)
  | (refine bodyPost_ret (v:=.tuple #[]) (by simp [results,go_sem]) rfl ?_;exact ⟨⟨_,rfl⟩,E.out⟩)
 | true =>
  have ap:(w.setCell ⟨ax,6,none⟩ (.bool false)).heap.size=w.heap.size:=by simp
  have ad:Hid (Calls Tryz.prog 91 #[.slice R ac Q] (w.setCell ⟨ax,6,none⟩ (.bool false)) fun e O=>∃ D vc,e=.returned (.slice D S.plan.tail.length vc)∧O.ownsRow (w.setCell ⟨ax,6,none⟩ (.bool false)).heap.size 84 3 (.slice D S.plan.tail.length vc) S.plan.tail.length (Zo S.plan.tail)∧Below (w.setCell ⟨ax,6,none⟩ (.bool false)).heap.size (w.setCell ⟨ax,6,none⟩ (.bool false)) O):=by
   refine ZrA R ac Q S.plan _ ?_ HN.out (by omega) al;rw [←HN.out];have A:=ZbX w ax 6 (.bool false);exact Zf (Zfr m.out az.out.lt A m.out.l (by decide)).own
  obtain ⟨q,aa⟩:∃ q,S.plan.tail.length=q:=⟨_,rfl⟩;rw [aa] at ad;have J:=Za aa;clear aa ap;go_enter Tryz.func54,Tryz.ntmps54
  go_wp2_with fail
  refine ad.out.mono ?_;rintro e w1 ⟨D,vc,rfl,ak,U⟩;have I:Hid (w1.ownsRow w.heap.size 84 3 (.slice D q vc) q (Zo S.plan.tail)∧Chg (fun y=>y=ax) w w1∧w1.heap[ax]?=some (ZG S.bud au S.pools.length ar so S.srv.length sc wo S.wts.length wc ay.op ⟨.slice R ac Q,false,S.back,ay.hb,.slice Y ay.hps.length V⟩)):=by
   refine ⟨by simpa using ak,Zc5 (ZbX w ax 6 (.bool false)) (Chg.of_below U),(U.block ax (by simpa using X)).trans (Zfb ao.out _)⟩
  clear ak U ae af ag ah ai aj;obtain ⟨ae,af,ag,ah,ai,aj⟩:=Zdc I.out.2.2;by_cases am:q=0
  ·subst am;have E:Hid (Moved w ((((w1.setCell ⟨ax,5,none⟩ (.slice D 0 vc)).setCell ⟨ax,7,none⟩ (.bool false)).setCell ⟨ax,8,none⟩ (.int .i64 0)).setCell ⟨ax,9,none⟩ (.slice none 0 0)) ax (Zac S ay true).1 (Zac S ay true).2 F):=by
    rw [Zi8 J.out];have L:=Zc5 (Zc5 (Zc5 (ZbX w1 ax 5 (.slice D 0 vc)) (ZbX _ ax 7 (.bool false))) (ZbX _ ax 8 (.int .i64 0))) (ZbX _ ax 9 (.slice none 0 0));have A:=Zc5 I.out.2.1 L;refine Zfd m.out az.out.gp az.out.lt S.plan.tail false false 0 [] D vc none 0 ?_ ?_ Held.nil A
    ·rw [J.out];exact Zgl (Zgk (ZgE (ZeX I.out.2.2 _) _) _) _
    ·rw [J.out];exact ZgC X L I.out.1
   go_wp2_with fail
   first
   | (refine bodyPost_end (v:=.tuple #[]) (by simp [results,Tryz.results54,go_sem]) rfl ?_;exact ⟨⟨_,rfl⟩,E.out⟩)
   | (refine bodyPost_ret (v:=.tuple #[]) (by simp [results,Tryz.results54,go_sem]) rfl ?_;exact ⟨⟨_,rfl⟩,E.out⟩)
  ·have av:((q:Int) == 0)=false:=beq_eq_false_iff_ne.2 (by omega);have aw:¬(q:Int)=0:=by omega
   have E:Hid (Moved w (w1.setCell ⟨ax,5,none⟩ (.slice D q vc)) ax (Zac S ay true).1 (Zac S ay true).2 F):=by
    rw [ZkT (by rw [J.out];exact am)];have L:=ZbX w1 ax 5 (.slice D q vc);have A:=Zc5 I.out.2.1 L;refine Zfd m.out az.out.gp az.out.lt S.plan.tail false S.back ay.hb ay.hps D vc Y V ?_ ?_ (Zfr m.out az.out.lt A m.out.h (by decide)) A
    ·rw [J.out];exact ZeX I.out.2.2 _
    ·rw [J.out];exact ZgC X L I.out.1
   go_wp2_with fail
   first
   | (refine bodyPost_end (v:=.tuple #[]) (by simp [results,Tryz.results54,go_sem]) rfl ?_;exact ⟨⟨_,rfl⟩,E.out⟩)
   | (refine bodyPost_ret (v:=.tuple #[]) (by simp [results,Tryz.results54,go_sem]) rfl ?_;exact ⟨⟨_,rfl⟩,E.out⟩)
structure Rsp where
 S:Zh
 X:ZB
 n:Int
 e:Int
 l:Int
def Zaw (S:Zh) (X:ZB):Rsp:=match S.plan with
 | []=>⟨S,X,0,14,0⟩
 | s :: _ =>
  let r:=Zak s.kind s.name s.n S.begun S X.op
  let q:=Zac r.1 {X with op:=r.2} (Z4 s.kind s.name s.n r.1)
  ⟨q.1,q.2,q.1.plan.length,0,0⟩
def Z0 (S:Zh) (X:ZB) (a:Ans):Rsp:=
 if ¬S.plan.length=0 then ⟨S,X,0,16,0⟩
 else if ¬a.err=0 then ⟨S,X,0,a.err,a.at'⟩
 else ⟨{S with plan:=Df.diffL S.bud S.pools a.tab.1 a.tab.2,begun:=false,back:=false},{X with hb:=(ZcD (Df.diffL S.bud S.pools a.tab.1 a.tab.2) S.bud S.pools).1,hps:=(ZcD (Df.diffL S.bud S.pools a.tab.1 a.tab.2) S.bud S.pools).2},(Df.diffL S.bud S.pools a.tab.1 a.tab.2).length,0,0⟩
def Zao (S:Zh) (X:ZB):Rsp:=
 if S.plan.length=0 then ⟨S,X,0,14,0⟩
 else if S.back=true then ⟨S,X,0,17,0⟩
 else ⟨{S with plan:=Df.diffL S.bud S.pools X.hb X.hps,begun:=false,back:=Zdo (Df.diffL S.bud S.pools X.hb X.hps)},{X with hb:=0,hps:=[]},(Df.diffL S.bud S.pools X.hb X.hps).length,0,0⟩
structure ZqZ (s:Stp):Prop where
 k:ZdY s.kind
 n:0≤s.n∧s.n≤1000000
theorem ZtO (cs:Nat) (S:Zh) (cr:ZB) (F:Nat→Prop) (w:World) (h:DeskAt w cs S cr F) (al:Ok S cr.op) (ao:S.pools.length≤1000) (am:S.plan.length≤1000) (aq:∀ s∈S.plan,ZqZ s) :
  Calls Tryz.prog 18 #[.pointer (some ⟨cs,0,none⟩)] w fun e A=>e=.returned (.tuple #[.int .i64 (Zaw S cr).n,.int .i64 (Zaw S cr).e])∧Moved w A cs (Zaw S cr).S (Zaw S cr).X F:=by
 obtain ⟨av,au,so,sc,wo,wc,bl,bk,bg,a7,E⟩:=h.ex;have bc:cs<w.heap.size:=h.lt cs h.gp;have HX:=Za E;have HH:=Za h;have O:=Za (ZhA cs S.bud av _ au so _ sc wo _ wc cr.op bl _ bk S.begun S.back cr.hb bg _ a7 w E.box);obtain ⟨ab,ac,ad,ae,af,ag⟩:=Zdc E.box;cases D:S.plan with
 | nil =>
  have be:S.plan.length=0:=by rw [D];rfl
  rw [be] at O;have Q:Hid (Zaw S cr=⟨S,cr,0,14,0⟩):=by show _=_;unfold Zaw;rw [D]
  clear h E al ao am aq be D;go_enter Tryz.func18,Tryz.ntmps18
  go_wp2_with fail
  refine O.out.mono ?_;rintro e w1 ⟨rfl,L⟩;obtain rfl:=L.symm;go_wp2_with fail
  go_ret2
  rw [Q.out];exact ⟨rfl,Moved.refl HH.out⟩
 | cons s r =>
  obtain ⟨k,nm,n⟩:=s;obtain ⟨ar,U⟩:∃ n,S.plan.length=n:=⟨_,rfl⟩;have b1:r.length+1=ar:=by rw [←U,D];rfl
  have ap:=aq ⟨k,nm,n⟩ (by rw [D];simp);have bo:Hid (Calls Tryz.prog 52 #[.pointer (some ⟨cs,5,none⟩)] w fun e A=>e=.returned (stA k nm n)∧Below w.heap.size w A):=
   Ztf cs S.bud av _ au so _ sc wo _ wc cr.op bl _ bk S.begun S.back cr.hb bg _ a7 k nm n S.plan w E.box (Zf E.l.own) rfl (by rw [D];rfl)
  have bm:=Za (fun u (N:Below w.heap.size w u)=>ZiI cs S.bud av _ au so _ sc wo _ wc cr.op _ u ((N.block cs bc).trans E.box));have Y:=Za (fun u (N:Below w.heap.size w u)=>ZtZ cs k nm n S.begun S cr F u ap.k (h.keep (G:=fun _=>False) (Chg.of_below N) (fun _ _ h=>h)) al ao ap.n);obtain ⟨⟨ct,t⟩,R⟩:∃ q,Zak k nm n S.begun S cr.op=q:=⟨_,rfl⟩;have ah:ct.plan=S.plan:=by
   have L:=(Zc1 (if S.begun=true then S else Z2 k nm n S).wts.length (if S.begun=true then S else Z2 k nm n S) cr.op).2.2;have a1:ct=(Zak k nm n S.begun S cr.op).1:=by rw [R]
   rw [a1];unfold Zak;rw [L.2.2.1];split
   ·rfl
   ·exact (ZiH k nm n S).rest.2.2.1
  rw [R] at Y;obtain ⟨d,hd⟩:∃ d,Z4 k nm n ct=d:=⟨_,rfl⟩;simp only [hd] at Y;have Q:Hid (Zaw S cr=⟨(Zac ct {cr with op:=t} d).1,(Zac ct {cr with op:=t} d).2,(Zac ct {cr with op:=t} d).1.plan.length,0,0⟩):=by
   show _=_;unfold Zaw;rw [D];simp only;rw [R];simp only;rw [hd]
  have ax:Hid (∀ u J,DeskAt u cs ct {cr with op:=t} J→Calls Tryz.prog 54 #[.pointer (some ⟨cs,5,none⟩),.bool d] u fun e A=>(∃ x,e=.returned x)∧Moved u A cs (Zac ct {cr with op:=t} d).1 (Zac ct {cr with op:=t} d).2 J):=
   fun u J N=>ZrO cs ct _ J d u N (by rw [ah,U];omega) (by rw [ah];exact am)
  obtain ⟨⟨X,ay⟩,a6⟩:∃ q,Zac ct {cr with op:=t} d=q:=⟨_,rfl⟩;rw [a6] at Q ax;rw [U] at O;have cj:((ar:Int) == 0)=false:=beq_eq_false_iff_ne.2 (by omega);have ck:¬(ar:Int)=0:=by omega
  have ci:Hid (¬F w.heap.size):=fun aj=>by have:=h.lt _ aj;omega
  clear h E al ao am aq D U b1 ap R ah hd a6;go_enter Tryz.func18,Tryz.ntmps18
  go_wp2_with fail
  refine O.out.mono ?_;rintro e w1 ⟨rfl,L⟩;obtain rfl:=L.symm;go_wp2_with fail
  refine bo.out.mono ?_;rintro e m ⟨rfl,ai⟩;have I:Hid (Below w.heap.size w (m.alloc (bSt k nm n))∧(m.alloc (bSt k nm n)).heap[m.heap.size]?=some (bSt k nm n)):=⟨Zb ai (Zc _ _),Zd _ _ rfl⟩;obtain ⟨M,hV⟩:∃ M,M=m.alloc (bSt k nm n):=⟨_,rfl⟩;rw [←hV] at I;have KV:=Za hV;have bu:=Za ai.size;clear ai ab ac ad ae af ag hV;obtain ⟨ab,ac,ad,ae,af,ag⟩:=Zdc ((I.out.1.block cs bc).trans HX.out.box);obtain ⟨az,a0,b2,bw⟩:=Zaq I.out.2;go_upto_region 4 with fail
  rw [←KV.out];go_wp2_with fail
  refine (bm.out M I.out.1).mono ?_;rintro e cp ⟨rfl,bx⟩;obtain rfl:=bx.symm;have bh:m.heap.size<M.heap.size:=(Ya.1 I.out.2).1;have bs:Hid (¬F m.heap.size):=fun aj=>by
   have L:=HH.out.lt _ aj;have a1:=bu.out;omega
  go_upto_region 5 with fail
  go_cut [6] (fun v ce=>v=.bool d∧∃ V,Hid (Moved w V cs ct {cr with op:=t} F)∧V=ce)
  case first =>
   go_region_held3 (fun A=>A.cell? ⟨m.heap.size,0,none⟩=some (.int .i64 k)∧A.cell? ⟨m.heap.size,1,none⟩=some (.string nm)∧A.cell? ⟨m.heap.size,2,none⟩=some (.int .i64 n)) (go_keep)
    ((go_at_call 53;refine (Y.out _ (I.out.1.drew)).mono ?_;rintro e bj ⟨rfl,ak⟩;have bq:Hid (Moved w bj cs ct {cr with op:=t} F):=Moved.after I.out.1.drew ak;have aa:Hid (bj.heap[m.heap.size]?=M.heap[m.heap.size]?):=(let ⟨_,_,_,hc5⟩:=ak;hc5.block _ bh bs.out);have cl:=(Yn (a:=⟨m.heap.size,0,none⟩) aa.out).trans az;have cm:=(Yn (a:=⟨m.heap.size,1,none⟩) aa.out).trans a0;have co:=(Yn (a:=⟨m.heap.size,2,none⟩) aa.out).trans b2;clear ak))
   all_goals
    go_wp2_with fail
    go_meet
    exact ⟨rfl,_,bq.out,rfl⟩
  case rest =>
   obtain ⟨rfl,V,br,rfl⟩:=hcut;obtain ⟨J,a8,bf⟩:=br.out.step;have bv:=Za (ax.out V J a8);have bt:=Za bf;clear ab ac ad ae af ag az a0 b2 bw a8 bf bh;go_wp2_with fail
   refine bv.out.mono ?_;rintro e cb ⟨⟨x,rfl⟩,bd⟩;have aw:=Za (bt.out _ _ _ bd);obtain ⟨ch,a9⟩:=aw.out.desk;obtain ⟨b8,b7,ca,b9,cd,cc,cg,cf,b6,b0,bi⟩:=a9.ex;have bp:=Za (ZhA cs X.bud b8 _ b7 ca _ b9 cd _ cc ay.op cg _ cf X.begun X.back ay.hb b6 _ b0 cb bi.box);clear bd a9 bi;go_wp2_with fail
   refine bp.out.mono ?_;rintro e cq ⟨rfl,bz⟩;obtain rfl:=bz.symm;go_wp2_with fail
   go_ret2
   rw [Q.out];exact ⟨rfl,aw.out⟩
theorem ZkY {w w1:World} {d:Nat} {S:Zh} {I:ZB} {F:Nat→Prop} {V:Option Addr} {U:Nat} {so:Option Addr} {sc:Nat} {wo:Option Addr} {wc:Nat} {Y:Option Addr} {X:Nat} {O:Option Addr} {M:Nat} (h:DeskX w d S I F V U so sc wo wc Y X O M) (hd:DeskAt w d S I F) (hb:Below w.heap.size w w1) (aa:List Stp) (m:Bool) (H:Int×List Pl) (E:Option Addr) (D:Nat) (A:Option Addr) (q:Nat) (Q:w1.ownsRow w.heap.size 84 3 (.slice E aa.length D) aa.length (Zo aa)) (R:w1.ownsRow w.heap.size 82 4 (.slice A H.2.length q) H.2.length (Ze H.2)) :
  Moved w (((((w1.setCell ⟨d,5,none⟩ (.slice E aa.length D)).setCell ⟨d,6,none⟩ (.bool false)).setCell ⟨d,7,none⟩ (.bool m)).setCell ⟨d,8,none⟩ (.int .i64 H.1)).setCell ⟨d,9,none⟩ (.slice A H.2.length q)) d {S with plan:=aa,begun:=false,back:=m} {I with hb:=H.1,hps:=H.2} F:=by
 have L:d<w.heap.size:=hd.lt d hd.gp;have J:=Zc5 (Zc5 (Zc5 (Zc5 (ZbX w1 d 5 (.slice E aa.length D)) (ZbX _ d 6 (.bool false))) (ZbX _ d 7 (.bool m))) (ZbX _ d 8 (.int .i64 H.1))) (ZbX _ d 9 (.slice A H.2.length q));have N:=Zc5 (Chg.of_below hb) J;exact Zfd h hd.gp hd.lt aa false m H.1 H.2 E D A q (Zgl (Zgk (ZgE (Zfb (ZeX ((hb.block d L).trans h.box) _) _) _) _) _) (ZgC L J Q) (ZgC L J R) N
theorem ZrF (d:Nat) (s:ByteArray) (S:Zh) (ch:ZB) (F:Nat→Prop) (w:World) (h:DeskAt w d S ch F) (bj:s.size≤maxLen) (ce:S.pools.length≤6) (cc:S.plan.length≤1000) (U:(Z7 s).err=0→(Z7 s).tab.2.length≤6) :
  Calls Tryz.prog 16 #[.pointer (some ⟨d,0,none⟩),.string s] w fun e w'=>e=.returned (.tuple #[.int .i64 (Z0 S ch (Z7 s)).n,.int .i64 (Z0 S ch (Z7 s)).e,.int .i64 (Z0 S ch (Z7 s)).l])∧Moved w w' d (Z0 S ch (Z7 s)).S (Z0 S ch (Z7 s)).X F:=by
 obtain ⟨af,ad,so,sc,wo,wc,a9,a8,ax,ao,cl⟩:=h.ex;have bi:d<w.heap.size:=h.lt d h.gp;have HX:=Za cl;have HH:=Za h;obtain ⟨cm,aw⟩:∃ n,S.plan.length=n:=⟨_,rfl⟩;have HL:=Za (ZhA d S.bud af _ ad so _ sc wo _ wc ch.op a9 _ a8 S.begun S.back ch.hb ax _ ao w cl.box);rw [aw] at HL cc;have HC:=Za (ZfH s w bj);obtain ⟨⟨⟨A,L⟩,R,ae⟩,be⟩:∃ a,Z7 s=a:=⟨_,rfl⟩;rw [be] at HC U ⊢;simp only at U;have HN:=Za aw;clear h cl bj be aw;by_cases ck:cm=0
 ·have cd:¬(cm:Int) > 0:=by omega
  by_cases ap:R=0
  ·subst ap;obtain ⟨ci,hL⟩:∃ ci,Df.diffL S.bud S.pools A L=ci:=⟨_,rfl⟩;have Y:Hid (Z0 S ch ⟨(A,L),0,ae⟩=⟨{S with plan:=ci,begun:=false,back:=false},{ch with hb:=(ZcD ci S.bud S.pools).1,hps:=(ZcD ci S.bud S.pools).2},ci.length,0,0⟩):=by
    show _=_;unfold Z0;rw [if_neg (by rw [HN.out,ck];simp),if_neg (by simp)];simp only;rw [hL]
   have bk:=U rfl;have bt:=Za (fun u (bl:Below w.heap.size w u)=>Zph d S.bud af _ ad so _ sc wo _ wc ch.op a9 _ a8 S.begun S.back ch.hb ax _ ao S.pools u ((bl.block d bi).trans HX.out.box) (Zx HX.out.p.own bl) rfl (by omega));obtain ⟨m,av⟩:∃ m,L.length=m:=⟨_,rfl⟩;rw [av] at bk;have HM:=Za av;have co:=Za (fun u J I bd bc (N:RowAt u (.slice J S.pools.length I) S.pools.length (Ze S.pools)) (b9:J=none→I=0) (ca:RowAt u (.slice bd m bc) m (Ze L))=>ZsT S.bud J _ I S.pools A bd m bc L u N b9 rfl ce ca HM.out bk);rw [hL] at co;clear hL av U;go_enter Tryz.func16,Tryz.ntmps16
   go_wp2_with fail
   refine HL.out.mono ?_;rintro e w1 ⟨rfl,N⟩;obtain rfl:=N.symm;go_wp2_with fail
   refine HC.out.mono ?_;rintro e V ⟨Q,vc,rfl,O,aa⟩;simp only at O ⊢;rw [HM.out] at O ⊢;obtain ⟨cj,hV⟩:∃ cj,cj=V.alloc (Zi A (.slice Q m vc)):=⟨_,rfl⟩;have D:Hid (cj=V.alloc (Zi A (.slice Q m vc))∧cj.heap[V.heap.size]?=some (Zi A (.slice Q m vc))∧Below w.heap.size w cj∧RowAt cj (.slice Q m vc) m (Ze L)):=⟨hV,by rw [hV];exact Zd _ _ rfl,by rw [hV];exact Zb aa (Zc _ _),by rw [hV];exact (Zf O).nx (Zc _ _)⟩;clear O aa hV;go_upto_region 6 with fail
   rw [←D.out.1];go_wp2_with fail
   refine (bt.out cj D.out.2.2.1).mono ?_;rintro e a6 ⟨J,I,rfl,ay,bf⟩;obtain ⟨E,hU⟩:∃ E,E=a6.alloc (Zi S.bud (.slice J S.pools.length I)):=⟨_,rfl⟩;have ai:Below cj.heap.size cj E:=by rw [hU];exact Zb bf (Zc _ _)
   have M:Hid (E=a6.alloc (Zi S.bud (.slice J S.pools.length I))∧E.heap[a6.heap.size]?=some (Zi S.bud (.slice J S.pools.length I))∧E.heap[V.heap.size]?=some (Zi A (.slice Q m vc))∧Below w.heap.size w E):=
    ⟨hU,by rw [hU];exact Zd _ _ rfl,(ai.block _ (Ya.1 D.out.2.1).1).trans D.out.2.1,Zb D.out.2.2.1 ai⟩
   have bp:=Za (co.out E J I Q vc (by rw [hU];exact (Zf ay).nx (Zc _ _)) (ZaO ay) (D.out.2.2.2.nx ai));clear ay bf hU ai;obtain ⟨a0,a1,az⟩:=Zw M.out.2.1;obtain ⟨bu,bv,bw⟩:=Zw M.out.2.2.1;go_upto_region 7 with fail
   rw [←M.out.1];go_wp2_with fail
   refine bp.out.mono ?_;rintro e a7 ⟨ah,ag,ac,ab,rfl,bm,bo,am⟩;have X:Hid (Moved w (((((a7.setCell ⟨d,5,none⟩ (.slice ah ci.length ag)).setCell ⟨d,6,none⟩ (.bool false)).setCell ⟨d,7,none⟩ (.bool false)).setCell ⟨d,8,none⟩ (.int .i64 (ZcD ci S.bud S.pools).1)).setCell ⟨d,9,none⟩ (.slice ac (ZcD ci S.bud S.pools).2.length ab)) d {S with plan:=ci,begun:=false,back:=false} {ch with hb:=(ZcD ci S.bud S.pools).1,hps:=(ZcD ci S.bud S.pools).2} F):=
    ZkY HX.out HH.out (Zb M.out.2.2.2 am) ci false _ ah ag ac ab (Zr bm M.out.2.2.2.size) (Zr bo M.out.2.2.2.size)
   have ar:a7.heap[d]?=some (ZG S.bud af S.pools.length ad so S.srv.length sc wo S.wts.length wc ch.op ⟨.slice a9 S.plan.length a8,S.begun,S.back,ch.hb,.slice ax ch.hps.length ao⟩):=((Zb M.out.2.2.2 am).block d bi).trans HX.out.box;obtain ⟨bz,b0,b1,b6,b7,b8⟩:=Zdc ar;obtain ⟨aj,au⟩:∃ q,ci.length=q:=⟨_,rfl⟩;have br:=Za au;obtain ⟨⟨ak,bx⟩,aq⟩:∃ f,ZcD ci S.bud S.pools=f:=⟨_,rfl⟩;rw [aq,au] at X ⊢;simp only at X;obtain ⟨al,bg⟩:∃ q,bx.length=q:=⟨_,rfl⟩;rw [bg] at X ⊢;obtain ⟨Z,hZ⟩:∃ Z,Z=((((a7.setCell ⟨d,5,none⟩ (.slice ah aj ag)).setCell ⟨d,6,none⟩ (.bool false)).setCell ⟨d,7,none⟩ (.bool false)).setCell ⟨d,8,none⟩ (.int .i64 ak)).setCell ⟨d,9,none⟩ (.slice ac al ab):=⟨_,rfl⟩;rw [←hZ] at X;have bh:Z.heap[d]?=some (ZG S.bud af S.pools.length ad so S.srv.length sc wo S.wts.length wc ch.op ⟨.slice ah aj ag,false,false,ak,.slice ac al ab⟩):=by rw [hZ];exact Zgl (Zgk (ZgE (Zfb (ZeX ar _) _) _) _) _
   have bs:=Za (ZhA d S.bud af _ ad so _ sc wo _ wc ch.op ah aj ag false false ak ac al ab Z bh);have KZ:=Za hZ;have bq:=Za aq;clear bm bo am ar a0 a1 az bu bv bw au aq bg hZ bh;go_upto_region 8 with fail
   rw [←KZ.out];clear bz b0 b1 b6 b7 b8;go_wp2_with fail
   refine bs.out.mono ?_;rintro e cg ⟨rfl,cb⟩;obtain rfl:=cb.symm;go_wp2_with fail
   refine bodyPost_ret (v:=.tuple #[.int .i64 (aj:Int),.int .i64 0,.int .i64 0]) (by simp [results,Tryz.results16,go_sem]) rfl ?_;rw [Y.out,bq.out,br.out];exact ⟨rfl,X.out⟩
  ·have Y:Hid (Z0 S ch ⟨(A,L),R,ae⟩=⟨S,ch,0,R,ae⟩):=by
    show _=_;unfold Z0;rw [if_neg (by rw [HN.out,ck];simp),if_pos ap]
   have cf:(R != 0)=true:=by simpa using ap
   clear U;go_enter Tryz.func16,Tryz.ntmps16
   go_wp2_with fail
   refine HL.out.mono ?_;rintro e w1 ⟨rfl,N⟩;obtain rfl:=N.symm;go_wp2_with fail
   refine HC.out.mono ?_;rintro e V ⟨Q,vc,rfl,O,aa⟩;have D:Hid (Below w.heap.size w V):=aa;simp only at O ⊢;clear O aa;go_wp2_with fail
   refine bodyPost_ret (v:=.tuple #[.int .i64 0,.int .i64 R,.int .i64 ae]) (by simp [results,Tryz.results16,go_sem]) rfl ?_;rw [Y.out];exact ⟨rfl,Moved.below (Moved.refl HH.out) (Zb D.out (Zc _ _))⟩
 ·have cd:(cm:Int) > 0:=by omega
  have Y:Hid (Z0 S ch ⟨(A,L),R,ae⟩=⟨S,ch,0,16,0⟩):=by
   show _=_;unfold Z0;rw [if_pos (by rw [HN.out];exact ck)]
  clear U;go_enter Tryz.func16,Tryz.ntmps16
  go_wp2_with fail
  refine HL.out.mono ?_;rintro e w1 ⟨rfl,N⟩;obtain rfl:=N.symm;go_wp2_with fail
  refine bodyPost_ret (v:=.tuple #[.int .i64 0,.int .i64 16,.int .i64 0]) (by simp [results,Tryz.results16,go_sem]) rfl ?_;rw [Y.out];exact ⟨rfl,Moved.refl HH.out⟩
theorem ZsI (d:Nat) (S:Zh) (b7:ZB) (F:Nat→Prop) (w:World) (h:DeskAt w d S b7 F) (bq:S.pools.length≤6) (br:b7.hps.length≤6) :
  Calls Tryz.prog 20 #[.pointer (some ⟨d,0,none⟩)] w fun e w'=>e=.returned (.tuple #[.int .i64 (Zao S b7).n,.int .i64 (Zao S b7).e])∧Moved w w' d (Zao S b7).S (Zao S b7).X F:=by
 obtain ⟨Y,X,so,sc,wo,aa,ax,aw,av,ap,ah⟩:=h.ex;have af:d<w.heap.size:=h.lt d h.gp;have Q:=Za ah;have HH:=Za h;obtain ⟨ai,au⟩:∃ n,S.plan.length=n:=⟨_,rfl⟩;have HL:=Za (ZhA d S.bud Y _ X so _ sc wo _ aa b7.op ax _ aw S.begun S.back b7.hb av _ ap w ah.box);have ae:=Za (Zkw d S.bud Y _ X so _ sc wo _ aa b7.op _ w ah.box);rw [au] at HL;have HN:=Za au;clear h ah au;by_cases ag:ai=0
 ·have bp:((ai:Int) == 0)=true:=by rw [ag];rfl
  have HR:Hid (Zao S b7=⟨S,b7,0,14,0⟩):=by
   show _=_;unfold Zao;rw [if_pos (by rw [HN.out];exact ag)]
  go_enter Tryz.func20,Tryz.ntmps20
  go_wp2_with fail
  refine HL.out.mono ?_;rintro e w1 ⟨rfl,b8⟩;obtain rfl:=b8.symm;go_wp2_with fail
  go_ret2
  rw [HR.out];exact ⟨rfl,Moved.refl HH.out⟩
 ·have bp:((ai:Int) == 0)=false:=beq_eq_false_iff_ne.2 (by omega);have bt:¬(ai:Int)=0:=by omega
  cases V:S.back with
  | true =>
   rw [V] at ae;have HR:Hid (Zao S b7=⟨S,b7,0,17,0⟩):=by
    show _=_;unfold Zao;rw [if_neg (by rw [HN.out];exact ag),if_pos V]
   clear V;go_enter Tryz.func20,Tryz.ntmps20
   go_wp2_with fail
   refine HL.out.mono ?_;rintro e w1 ⟨rfl,b8⟩;obtain rfl:=b8.symm;go_wp2_with fail
   refine ae.out.mono ?_;rintro e w1 ⟨rfl,b8⟩;obtain rfl:=b8.symm;go_wp2_with fail
   go_ret2
   rw [HR.out];exact ⟨rfl,Moved.refl HH.out⟩
  | false =>
   rw [V] at ae;obtain ⟨A,hL⟩:∃ A,Df.diffL S.bud S.pools b7.hb b7.hps=A:=⟨_,rfl⟩;have HR:Hid (Zao S b7=⟨{S with plan:=A,begun:=false,back:=Zdo A},{b7 with hb:=0,hps:=[]},A.length,0,0⟩):=by
    show _=_;unfold Zao;rw [if_neg (by rw [HN.out];exact ag),if_neg (by rw [V];simp),hL]
   have bg:=Za (fun u (M:Below w.heap.size w u)=>Zph d S.bud Y _ X so _ sc wo _ aa b7.op ax _ aw S.begun S.back b7.hb av _ ap S.pools u ((M.block d af).trans Q.out.box) (Zx Q.out.p.own M) rfl (by omega));have ay:=Za (fun u L J (M:Below w.heap.size w u) (b8:RowAt u (.slice L S.pools.length J) S.pools.length (Ze S.pools))=>Zts d S.bud Y _ X so _ sc wo _ aa b7.op ax _ aw S.begun S.back b7.hb av _ ap S.bud L _ J S.pools b7.hps u ((M.block d af).trans Q.out.box) b8 rfl bq ((Zf Q.out.h.own).nx M) rfl br);rw [hL] at ay;clear hL V;go_enter Tryz.func20,Tryz.ntmps20
   go_wp2_with fail
   refine HL.out.mono ?_;rintro e w1 ⟨rfl,b8⟩;obtain rfl:=b8.symm;go_wp2_with fail
   refine ae.out.mono ?_;rintro e w1 ⟨rfl,b8⟩;obtain rfl:=b8.symm;go_wp2_with fail
   refine (bg.out w (Yh _ _)).mono ?_;rintro e ad ⟨L,J,rfl,a9,cb⟩;obtain ⟨m,hU⟩:∃ m,m=ad.alloc (Zi S.bud (.slice L S.pools.length J)):=⟨_,rfl⟩;have ab:Below w.heap.size w m:=by rw [hU];exact Zb cb (Zc _ _)
   have R:Hid (m=ad.alloc (Zi S.bud (.slice L S.pools.length J))∧m.heap[ad.heap.size]?=some (Zi S.bud (.slice L S.pools.length J))∧Below w.heap.size w m):=⟨hU,by rw [hU];exact Zd _ _ rfl,ab⟩;have al:=Za (fun u (M:Below m.heap.size m u)=>ay.out u L J (Zb ab M) (by
    have b8:=(Zf a9).nx (Zc ad (Zi S.bud (.slice L S.pools.length J)));rw [←hU] at b8;exact b8.nx M))
   have a7:d<m.heap.size:=Yl af ab.size;have bu:ad.heap.size<m.heap.size:=(Ya.1 R.out.2.1).1;have aq:=(ab.block d af).trans Q.out.box;have b9:=Za aq;obtain ⟨bh,bi,bj,bk,bl,bm⟩:=Zdc aq;clear a9 cb hU ab aq;obtain ⟨a0,a1,az⟩:=Zw R.out.2.1;obtain ⟨O,ar⟩:∃ q,A.length=q:=⟨_,rfl⟩;have am:=Za ar;obtain ⟨U,ao⟩:∃ q,Zdo A=q:=⟨_,rfl⟩;have be:=Za ao;unfold ZqP at al;rw [ar,ao] at al;clear ar ao;go_upto_region 6 with fail
   rw [←R.out.1];go_cut [1] (fun _ bs=>∃ ac vc I E D,Hid (D.ownsRow m.heap.size 84 3 (.slice ac O vc) O (Zo A)∧D.ownsRow m.heap.size 82 4 (.slice I 0 E) 0 (Ze [])∧Below m.heap.size m D)∧((((D.setCell ⟨d,5,none⟩ (.slice ac O vc)).setCell ⟨d,6,none⟩ (.bool false)).setCell ⟨d,7,none⟩ (.bool U)).setCell ⟨d,8,none⟩ (.int .i64 0)).setCell ⟨d,9,none⟩ (.slice I 0 E)=bs)
   case first =>
    go_region_with (go_at_call 58;refine (al.out _ ((Yh _ _).drew)).mono ?_;rintro e D ⟨ac,vc,I,E,rfl,bc,bd,a6⟩;have N:Hid (D.ownsRow m.heap.size 84 3 (.slice ac O vc) O (Zo A)∧D.ownsRow m.heap.size 82 4 (.slice I 0 E) 0 (Ze [])∧Below m.heap.size m D):=⟨bc,bd,Zb (Yh _ _).drew a6⟩;obtain ⟨bv,bw,bx,bz,b0,b1⟩:=Zdc ((N.out.2.2.block d a7).trans b9.out);clear bc bd a6)
    all_goals
     go_wp2_with fail
     go_meet
     exact ⟨ac,vc,I,E,D,N.out,rfl⟩
   case rest =>
    obtain ⟨ak,aj,I,E,D,N,hZ⟩:=hcut;have ca:Hid (Moved w (((((D.setCell ⟨d,5,none⟩ (.slice ak A.length aj)).setCell ⟨d,6,none⟩ (.bool false)).setCell ⟨d,7,none⟩ (.bool U)).setCell ⟨d,8,none⟩ (.int .i64 0)).setCell ⟨d,9,none⟩ (.slice I 0 E)) d {S with plan:=A,begun:=false,back:=U} {b7 with hb:=0,hps:=[]} F):=
     ZkY Q.out HH.out (Zb R.out.2.2 N.out.2.2) A U (0,[]) ak aj I E (by rw [am.out];exact Zr N.out.1 R.out.2.2.size) (Zr N.out.2.1 R.out.2.2.size)
    rw [am.out,hZ] at ca;have a8:wc.heap[d]?=some (ZG S.bud Y S.pools.length X so S.srv.length sc wo S.wts.length aa b7.op ⟨.slice ak O aj,false,U,0,.slice I 0 E⟩):=by rw [←hZ];exact Zgl (Zgk (ZgE (Zfb (ZeX ((N.out.2.2.block d a7).trans b9.out) _) _) _) _) _
    have bf:=Za (ZhA d S.bud Y _ X so _ sc wo _ aa b7.op ak O aj false U 0 I 0 E wc a8);clear hZ a8 a0 a1 az bh bi bj bk bl bm;go_wp2_with fail
    refine bf.out.mono ?_;rintro e b6 ⟨rfl,bo⟩;obtain rfl:=bo.symm;go_wp2_with fail
    go_ret2
    rw [HR.out,be.out,am.out];exact ⟨rfl,ca.out⟩
structure Bgn (S R:Zh) (t:Int×List Pl):Prop where
 thin:R.srv.Sublist S.srv∧(∀ x∈S.srv,x.client≠0→x∈R.srv)∧R.wts.Sublist S.wts
 tab:R.bud=t.1∧R.pools=t.2∧R.plan=S.plan∧R.begun=S.begun∧R.back=S.back
 sur:∀ x∈R.srv,x.client=0→ZaY R x=false
 wts:∀ y∈R.wts,∃ x,R.pools.find? (Zl y.pool)=some x∧(Zs (Zq y.pool) R.wts:Int)≤x.wt
theorem Bgn.fine {S A:Zh} {t:Int×List Pl} {op:Int} (d:Bgn S A t) (h:ZdA S op):ZdA A op:=
 ⟨⟨h.inv.ids.sublist d.thin.1,fun x m=>h.inv.low x (d.thin.1.subset m),h.inv.op0,h.inv.cli.sublist d.thin.2.2⟩,fun y q=>h.wc y (d.thin.2.2.subset q),fun x m=>h.sc x (d.thin.1.subset m),h.one.sublist d.thin.1,fun x m y q=>h.sep x (d.thin.1.subset m) y (d.thin.2.2.subset q),d.sur⟩
theorem Zeo {S T d:Zh} {t:Int×List Pl} {op:Int} (L:Zbt S op) (O:T=Z1 S t) (h:Thin T d)
  (Q:∀ x∈d.srv,x.client=0→∀ p,S.pools.find? (Zl x.pool)=some p→x.far=p.fr→(Zs (Zj x.pool) d.srv:Int)≤p.sz→(d.srv.length:Int)≤S.bud→∃ m,t.2.find? (Zl x.pool)=some m∧x.far=m.fr∧(Zs (Zj x.pool) d.srv:Int)≤m.sz∧(d.srv.length:Int)≤t.1)
  (R:∀ y∈d.wts,∀ p,S.pools.find? (Zl y.pool)=some p→(Zs (Zq y.pool) d.wts:Int)≤p.wt→∃ m,t.2.find? (Zl y.pool)=some m∧(Zs (Zq y.pool) d.wts:Int)≤m.wt):Bgn S d t:=by
 subst O;have q:d.pools=t.2:=h.rest.1;have e2:d.bud=t.1:=h.rest.2.1;refine ⟨⟨h.srv,h.keep,h.wts⟩,⟨e2,q,h.rest.2.2⟩,fun x M I=>?_,fun y N=>?_⟩
 ·obtain ⟨p,A,J,X,Y⟩:=Zf0.1 (L.fine.sur x (h.srv.subset M) I);have c1:Zs (Zj x.pool) d.srv≤Zs (Zj x.pool) S.srv:=ZfV h.srv;have c2:d.srv.length≤S.srv.length:=h.srv.length_le;obtain ⟨m,D,E,U,V⟩:=Q x M I p A J (by omega) (by omega);exact Zf0.2 ⟨m,by rw [q];exact D,E,U,by rw [e2];exact V⟩
 ·obtain ⟨p,A,J⟩:=L.wts y (h.wts.subset N);have c1:Zs (Zq y.pool) d.wts≤Zs (Zq y.pool) S.wts:=Ziy h.wts;obtain ⟨m,D,E⟩:=R y N p A (by omega);exact ⟨m,by rw [q];exact D,E⟩
theorem Zm5 {S:Zh} {op:Int} (d:Inv S op) (t:Int×List Pl):Inv (Z1 S t) op:=⟨d.ids,d.low,d.op0,d.cli⟩
theorem ZjX {nm:ByteArray} {x:Srv} (d:x.pool=nm):Zj nm x=true:=by unfold Zj;rw [d];simp
theorem ZcU {f:Pl→Pl} (m:∀ p,(f p).nm=p.nm) {nm d:ByteArray} {ps:List Pl} {p:Pl} (h:ps.find? (Zl d)=some p):(Df.updT nm f ps).find? (Zl d)=some (if nm=d then f p else p):=by
 have:=Df.Zhy m nm d ps;unfold Df.lk at this;rw [this,h];split <;> rfl
theorem Zkf {S:Zh} {op:Int} (M:Zbt S op) (ai:Df.Up S.pools) {s:Stp} (ac:Df.goodS (S.bud,S.pools) s) (af:0≤s.n):Bgn S (Z2 s.kind s.name s.n S) (Df.stepT (S.bud,S.pools) s):=by
 have ad:=ZkN (t:=(S.bud,S.pools)) ai ac;simp only at ad;have R:Inv (Z1 S (Df.stepT (S.bud,S.pools) s)) op:=Zm5 M.fine.inv _;unfold Z2;simp only;rw [ad];obtain ⟨t,al⟩:∃ t,Df.stepT (S.bud,S.pools) s=t:=⟨_,rfl⟩;rw [al] at R ⊢;unfold Df.stepT at al;simp only at al;rcases ac with ⟨A,_,O⟩ | ⟨A,_,O⟩ | ⟨A,_,U,_⟩ | ⟨A,_,X,V⟩ | ⟨X,V,ae⟩
 ·rw [if_pos (.inl A)] at al;subst al;rw [if_neg (by omega),if_neg (by omega),if_pos A];obtain ⟨L,q⟩:=ZkW s.n op (((Z1 S (s.n,S.pools)).srv.length:Int) - s.n).toNat _ R (by omega);refine Zeo M rfl L (fun x I J p d h D E=>⟨p,d,h,D,?_⟩) (fun y N p d h=>⟨p,d,h⟩);rcases q with q | q
  ·exact q
  ·exact absurd J (q x I)
 ·rw [if_pos (.inr A)] at al;subst al;rw [if_neg (by omega),if_neg (by omega),if_neg (by omega),if_neg (by omega),if_neg (by omega)];simp only at O;exact Zeo M rfl (Thin.refl _) (fun x I J p d h D E=>⟨p,d,h,D,by simp only;omega⟩) (fun y N p d h=>⟨p,d,h⟩)
 ·rw [if_neg (by omega),if_neg (by omega),if_pos A] at al;subst al;rw [if_neg (by omega),if_neg (by omega),if_neg (by omega),if_neg (by omega),if_neg (by omega)];simp only at U;have Q:∀ m p,S.pools.find? (Zl m)=some p→(ZH ⟨s.name,0,0,0⟩ S.pools).find? (Zl m)=some p:=by
   intro m p d;have:=Df.ZiS (⟨s.name,0,0,0⟩:Pl) m S.pools U;unfold Df.lk at this U;rw [this];by_cases e:s.name=m
   ·rw [←e,U] at d;simp at d
   ·rw [if_neg e];exact d
  exact Zeo M rfl (Thin.refl _) (fun x I J p d h D E=>⟨p,Q _ _ d,h,D,E⟩) (fun y N p d h=>⟨p,Q _ _ d,h⟩)
 ·rw [if_neg (by omega),if_pos A] at al;subst al;rw [if_neg (by omega),if_pos A];obtain ⟨Y,a2,a3⟩:=Zfx s.name 0 (Int.le_refl _) ((Zs (Zq s.name) (Z1 S (S.bud,Df.dropT s.name S.pools)).wts:Int) - 0).toNat (Z1 S (S.bud,Df.dropT s.name S.pools)) (by omega);obtain ⟨L,q⟩:=Zho s.name 0 op ((Zs (Zj s.name) (ZaB s.name ((Zs (Zq s.name) (Z1 S (S.bud,Df.dropT s.name S.pools)).wts:Int) - 0).toNat (Z1 S (S.bud,Df.dropT s.name S.pools))).srv:Int) - 0).toNat _ (Zgr R Y) (by omega);have Q:∀ m p,s.name≠m→S.pools.find? (Zl m)=some p→(Df.dropT s.name S.pools).find? (Zl m)=some p:=by
   intro m p ag d;have:=Df.ZfS s.name m S.pools;unfold Df.lk at this;rw [this,if_neg ag];exact d
  refine Zeo M rfl (Y.trans L) (fun x I J p d h D E=>⟨p,Q _ _ (fun e=>?_) d,h,D,E⟩) (fun y N p d h=>⟨p,Q _ _ (fun e=>?_) d,h⟩)
  ·have ab:=ZjX e.symm;rcases q with q | q
   ·have:0<Zs (Zj s.name) (ZaV s.name ((Zs (Zj s.name) (ZaB s.name ((Zs (Zq s.name) (Z1 S (S.bud,Df.dropT s.name S.pools)).wts:Int) - 0).toNat (Z1 S (S.bud,Df.dropT s.name S.pools))).srv:Int) - 0).toNat (ZaB s.name ((Zs (Zq s.name) (Z1 S (S.bud,Df.dropT s.name S.pools)).wts:Int) - 0).toNat (Z1 S (S.bud,Df.dropT s.name S.pools)))).srv:=List.length_pos_of_mem (List.mem_filter.2 ⟨I,ab⟩);omega
   ·exact q x I ab J
  ·have aj:=L.wts.subset N;have:0<Zs (Zq s.name) (ZaB s.name ((Zs (Zq s.name) (Z1 S (S.bud,Df.dropT s.name S.pools)).wts:Int) - 0).toNat (Z1 S (S.bud,Df.dropT s.name S.pools))).wts:=List.length_pos_of_mem (List.mem_filter.2 ⟨aj,by unfold Zq;rw [←e];simp⟩);omega
 ·simp only at V;rcases ae with ⟨A,O⟩ | ⟨A,O⟩ | ⟨A,O⟩ | ⟨A,O⟩
  ·rw [if_neg (by omega),if_neg (by omega),if_neg (by omega),if_neg (by omega),if_neg (by omega)] at al;subst al;rw [if_pos A];obtain ⟨L,q⟩:=Zho s.name s.n op ((Zs (Zj s.name) (Z1 S (S.bud,Df.updT s.name (fun p=>⟨p.nm,s.n,p.wt,p.fr⟩) S.pools)).srv:Int) - s.n).toNat _ R (by omega);refine Zeo M rfl L (fun x I J p d h D E=>⟨_,ZcU (f:=fun p=>⟨p.nm,s.n,p.wt,p.fr⟩) (fun _=>rfl) d,?_,?_,E⟩) (fun y N p d h=>⟨_,ZcU (f:=fun p=>⟨p.nm,s.n,p.wt,p.fr⟩) (fun _=>rfl) d,?_⟩)
   ·split <;> exact h
   ·split
    ·rename_i e
     rcases q with q | q
     ·rw [←e];exact q
     ·exact absurd J (q x I (ZjX e.symm))
    ·exact D
   ·split <;> exact h
  ·rw [if_neg (by omega),if_neg (by omega),if_neg (by omega),if_pos A] at al;subst al;rw [if_neg (by omega),if_neg (by omega),if_neg (by omega),if_pos A];obtain ⟨L,q⟩:=ZoX (Z1 S (S.bud,Df.updT s.name (fun p=>⟨p.nm,p.sz,p.wt,s.n⟩) S.pools)) s.name s.n;refine Zeo M rfl L (fun x I J p d h D E=>⟨_,ZcU (f:=fun p=>⟨p.nm,p.sz,p.wt,s.n⟩) (fun _=>rfl) d,?_,?_,E⟩) (fun y N p d h=>⟨_,ZcU (f:=fun p=>⟨p.nm,p.sz,p.wt,s.n⟩) (fun _=>rfl) d,?_⟩)
   ·split
    ·rename_i e
     exact q x I J (ZjX e.symm)
    ·exact h
   ·split <;> exact D
   ·split <;> exact h
  ·rw [if_neg (by omega),if_neg (by omega),if_neg (by omega),if_neg (by omega),if_pos A] at al;subst al;rw [if_neg (by omega),if_neg (by omega),if_neg (by omega),if_neg (by omega),if_pos A];obtain ⟨L,q,ak⟩:=Zfx s.name s.n af ((Zs (Zq s.name) (Z1 S (S.bud,Df.updT s.name (fun p=>⟨p.nm,p.sz,s.n,p.fr⟩) S.pools)).wts:Int) - s.n).toNat (Z1 S (S.bud,Df.updT s.name (fun p=>⟨p.nm,p.sz,s.n,p.fr⟩) S.pools)) (by omega);refine Zeo M rfl L (fun x I J p d h D E=>⟨_,ZcU (f:=fun p=>⟨p.nm,p.sz,s.n,p.fr⟩) (fun _=>rfl) d,?_,?_,E⟩) (fun y N p d h=>⟨_,ZcU (f:=fun p=>⟨p.nm,p.sz,s.n,p.fr⟩) (fun _=>rfl) d,?_⟩)
   ·split <;> exact h
   ·split <;> exact D
   ·split
    ·rename_i e
     rw [←e];exact ak
    ·exact h
  ·rw [if_neg (by omega),if_neg (by omega),if_neg (by omega),if_neg (by omega),if_neg (by omega)] at al;subst al;rw [if_neg (by omega),if_neg (by omega),if_neg (by omega),if_neg (by omega),if_neg (by omega)];refine Zeo M rfl (Thin.refl _) (fun x I J p d h D E=>⟨_,ZcU (f:=fun p=>⟨p.nm,s.n,p.wt,p.fr⟩) (fun _=>rfl) d,?_,?_,E⟩) (fun y N p d h=>⟨_,ZcU (f:=fun p=>⟨p.nm,s.n,p.wt,p.fr⟩) (fun _=>rfl) d,?_⟩)
   ·split <;> exact h
   ·split
    ·rename_i e
     have ah:p=X:=by
      have aa:S.pools.find? (Zl s.name)=some X:=V;rw [e,d] at aa;exact Option.some.inj aa
     rw [ah] at D;simp only;omega
    ·exact D
   ·split <;> exact h
theorem ZnE {S:Zh} {op:Int} (h:ZaW S op) (a:List Stp) (b c:Bool):ZaW {S with plan:=a,begun:=b,back:=c} op:=by
 unfold ZaW at *;rw [Zex] at h ⊢;intro d hd;have m:(Z9 S (op+1) 0 d).isSome=(Z9 {S with plan:=a,begun:=b,back:=c} (op+1) 0 d).isSome:=by
  unfold Z9 Zde;simp only;cases S.pools.find? (Zl d.pool) with
  | none=>rfl
  | some x =>
   simp only;cases S.srv.findIdx? (ZU d.pool false) with
   | some k=>rfl
   | none =>
    simp only;split
    ·rfl
    ·split <;> rfl
 rw [←m];exact h d hd
theorem Zek {S:Zh} {op:Int} (d:Zbt S op) (a:List Stp) (b c:Bool):Zbt {S with plan:=a,begun:=b,back:=c} op:=
 ⟨⟨⟨d.fine.inv.ids,d.fine.inv.low,d.fine.inv.op0,d.fine.inv.cli⟩,d.fine.wc,d.fine.sc,d.fine.one,d.fine.sep,d.fine.sur⟩,ZnE d.still a b c,d.wts⟩
structure Eff (S T:Zh):Prop where
 keep:∀ x∈S.srv,x.client≠0→x∈T.srv
 new:∀ x∈T.srv,x.client≠0→x∈S.srv∨∃ y∈S.wts,y.client=x.client
 sub:∀ y∈T.wts,y∈S.wts
theorem Eff.refl (S:Zh):Eff S S:=⟨fun _ d _=>d,fun _ d _=>.inl d,fun _ d=>d⟩
theorem Eff.of {S A T:Zh} {t:Int×List Pl} {op E:Int} (d:Bgn S A t) (k:Srvd A T op E):Eff S T:=
 ⟨fun x m h=>k.keep x (d.thin.2.1 x m h) h,fun x m h=>by
  rcases k.new x m h with D | ⟨y,q,e⟩
  ·exact .inl (d.thin.1.subset D)
  ·exact .inr ⟨y,d.thin.2.2.subset q,e⟩,fun y q=>d.thin.2.2.subset (k.sub.subset q)⟩
def okN (s:Stp):Prop:=(s.kind=1∧0≤s.n∧s.n≤20)∨(s.kind=2∧s.n=0)∨(s.kind=3∧1≤s.n∧s.n≤99)∨(s.kind=4∧s.n=0)∨(s.kind=5∧0≤s.n∧s.n≤999)∨(s.kind=6∧0≤s.n∧s.n≤20)∨(s.kind=7∧1≤s.n∧s.n≤99)∨(s.kind=8∧0≤s.n∧s.n≤20)
structure Pln (S:Zh) (X:ZB) (g:Int×List Pl):Prop where
 tab:Okt S.bud S.pools
 goal:Okt g.1 g.2
 none:S.plan=[]→S.begun=false∧S.back=false∧g=(S.bud,S.pools)
 rest:S.begun=false→Df.RunOk (S.bud,S.pools) S.plan∧S.plan.foldl Df.stepT (S.bud,S.pools)=g
 on:S.begun=true→Df.RunOk (S.bud,S.pools) S.plan.tail∧S.plan.tail.foldl Df.stepT (S.bud,S.pools)=g
 home:S.plan≠[]→S.back=false→Okt X.hb X.hps
 ok:∀ s∈S.plan,okN s
 did:S.begun=true→∃ s r t0,S.plan=s :: r∧Df.goodS t0 s∧Df.Up t0.2∧(S.bud,S.pools)=Df.stepT t0 s
end Lw
end Go.Proofs.YtmgkcbdlfodjmaaGreatDoor
