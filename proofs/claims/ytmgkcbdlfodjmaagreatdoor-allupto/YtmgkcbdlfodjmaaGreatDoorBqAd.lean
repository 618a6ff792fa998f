import Derived.Test.YtmgkcbdlfodjmaaGreatDoorBqX
import Derived.Test.YtmgkcbdlfodjmaaGreatDoorBqAc
set_option maxRecDepth 100000
set_option maxHeartbeats 16000000
namespace Go.Proofs.YtmgkcbdlfodjmaaGreatDoor
open Go.RowKit
namespace Lw
open Co
theorem Ziz (ba:Int) (ps:List Pl) (bb:Int) (qs:List Pl) (h:ps.length≤6) (m:qs.length≤6):(Df.diffL ba ps bb qs).length≤56:=by
 have d:∀ n:Nat,(Df.diffTo n ba ps bb qs).length≤7*n:=by
  intro n;induction n with
  | zero=>simp [Df.diffTo]
  | succ n ih =>
   rw [Df.Zae,List.length_append];have:=Df.Zfm ((n:Int)+1) ba ps bb qs h m;omega
 exact d 8
theorem Zn4 {w:World} {g:Nat} {d c1 c2 c3 c4:Value} {t:TypeId} (h:w.heap[g]?=some (.cells #[d,c1,c2,c3,c4] t (0,0))) :
  w.cell? ⟨g,0,none⟩=some d∧w.cell? ⟨g,1,none⟩=some c1∧w.cell? ⟨g,2,none⟩=some c2∧w.cell? ⟨g,3,none⟩=some c3∧w.cell? ⟨g,4,none⟩=some c4∧∀ a,w.frozen? ⟨g,a,none⟩=false:=by
 refine ⟨?_,?_,?_,?_,?_,fun a=>?_⟩ <;> simp [World.cell?,World.frozen?,h]
def ZcD (L:List Stp) (b:Int) (ps:List Pl):Int×List Pl:=if L.length=0 then (0,[]) else (b,ps)
theorem ZsT (ba:Int) (q:Option Addr) (n bi:Nat) (ps:List Pl) (bb:Int) (J:Option Addr) (m I:Nat) (qs:List Pl) (w:World) (ah:RowAt w (.slice q n bi) n (Ze ps)) (au:q=none→bi=0) (V:ps.length=n) (bc:n≤6) (ax:RowAt w (.slice J m I) m (Ze qs)) (ar:qs.length=m) (a9:m≤6) :
  Calls Tryz.prog 48 #[.agg #[.int .i64 ba,.slice q n bi],.agg #[.int .i64 bb,.slice J m I]] w fun e w'=>ZqP (Df.diffL ba ps bb qs) false (ZcD (Df.diffL ba ps bb qs) ba ps) w w' e:=by
 obtain ⟨W,L⟩:∃ W,W=((w.alloc (Zi ba (.slice q n bi))).alloc (Zi bb (.slice J m I))).alloc Zgv:=⟨_,rfl⟩;have N:Below w.heap.size w W:=by rw [L];exact Zb (Zb (Zc _ _) (Zc _ _)) (Zc _ _)
 have A:Hid (W=((w.alloc (Zi ba (.slice q n bi))).alloc (Zi bb (.slice J m I))).alloc Zgv∧W.heap[w.heap.size]?=some (Zi ba (.slice q n bi))∧W.heap[w.heap.size+1]?=some (Zi bb (.slice J m I))∧W.heap[w.heap.size+2]?=some Zgv∧Below w.heap.size w W):=by
  refine ⟨L,?_,?_,?_,N⟩
  ·rw [L];exact (Zn _ _ (by simp;omega)).trans ((Zn _ _ (by simp)).trans (Zd _ _ rfl))
  ·rw [L];exact (Zn _ _ (by simp)).trans (Zd _ _ (by simp))
  ·rw [L];exact Zd _ _ (by simp)
 have ai:w.heap.size+2<W.heap.size:=(Ya.1 A.out.2.2.2.1).1;have Q:=Za (Df.cBetween ba q n bi ps bb J m I qs W (ah.nx N) V bc (ax.nx N) ar a9);have a0:=Za (fun u (bd:Below W.heap.size W u)=>ZcI ba ps q n bi u ((ah.nx N).nx bd) au V (by omega));have HN:=Za V;obtain ⟨E,hL⟩:∃ E,Df.diffL ba ps bb qs=E:=⟨_,rfl⟩;unfold Df.GaveB at Q;rw [hL] at Q ⊢;obtain ⟨bh,Y⟩:∃ bh,E.length=bh:=⟨_,rfl⟩;rw [Y] at Q;have M:=Za Y;have bf:bh≤56:=by rw [←Y,←hL];exact Ziz ba ps bb qs (by omega) (by omega)
 obtain ⟨ac,ad,ae⟩:=Zw A.out.2.1;obtain ⟨a6,a7,a8⟩:=Zw A.out.2.2.1;clear ah au V ax ar L N hL Y;go_enter Tryz.func48,Tryz.ntmps48
 go_upto_region 1 with fail
 rw [←A.out.1];go_wp2_with fail
 refine Q.out.mono ?_;rintro e w1 ⟨aj,vc,rfl,av,aq⟩;have D:=Za (And.intro av aq);clear av aq ac ad ae a6 a7 a8;have O:w1.heap[w.heap.size+2]?=some Zgv:=(D.out.2.block _ ai).trans A.out.2.2.2.1;have ag:w1.heap[w.heap.size]?=some (Zi ba (.slice q n bi)):=(D.out.2.block _ (by omega)).trans A.out.2.1;cases af:((bh:Int) == 0) with
 | true =>
  have aa:bh=0:=by have:=eq_of_beq af;omega
  obtain ⟨ak,al,am,ao,ap,be⟩:=Zn4 O;have HF:Hid (ZcD E ba ps=(0,[])):=by show _=_;unfold ZcD;rw [M.out,if_pos aa]
  have a1:Hid (E=[]):=List.length_eq_zero_iff.1 (by rw [M.out];exact aa);clear ag O;go_wp2_with fail
  refine bodyPost_ret (v:=.agg #[.slice none 0 0,.bool false,.bool false,.int .i64 0,.slice none 0 0]) (by simp [results,Tryz.results48,go_sem,ak,al,am,ao,ap]) rfl ?_;rw [HF.out,a1.out];refine ⟨none,0,none,0,rfl,Yq _ _ _ _,Yq _ _ _ _,?_⟩;have d:w.heap.size≤w.heap.size+2:=by omega
  exact (((((Zb A.out.2.2.2.2 D.out.2).setCell d _).setCell d _).setCell d _).setCell d _).setCell d _
 | false =>
  have aa:¬bh=0:=fun h=>by rw [h] at af;simp at af
  have HF:Hid (ZcD E ba ps=(ba,ps)):=by show _=_;unfold ZcD;rw [M.out,if_neg aa]
  have az:=Za (a0.out w1 D.out.2);obtain ⟨ac,ad,ae⟩:=Zw ag;have bg:¬(bh:Int)=0:=by omega
  clear ag;go_wp2_with fail
  refine az.out.mono ?_;rintro e ab ⟨X,U,rfl,aw,R⟩;have ay:ab.heap[w.heap.size+2]?=some Zgv:=(R.block _ (Ya.1 O).1).trans O;have K2:Hid (ab.ownsRow W.heap.size 84 3 (.slice aj bh vc) bh (Zo E)∧ab.ownsRow W.heap.size 82 4 (.slice X n U) n (Ze ps)∧Below W.heap.size W ab):=⟨Zx D.out.1 R,Zr aw D.out.2.size,Zb D.out.2 R⟩;obtain ⟨ak,al,am,ao,ap,be⟩:=Zn4 ay;clear aw R O ay ac ad ae;go_wp2_with fail
  refine bodyPost_ret (v:=.agg #[.slice aj bh vc,.bool false,.bool false,.int .i64 ba,.slice X n U]) (by simp [results,Tryz.results48,go_sem,ak,al,am,ao,ap]) rfl ?_;rw [HF.out];refine ⟨aj,vc,X,U,by rw [M.out,HN.out],?_,?_,?_⟩
  ·rw [M.out];exact Zr (Zin K2.out.1 ai _ _ _ _ _) (by omega)
  ·show World.ownsRow _ _ _ _ (.slice X ps.length U) ps.length (Ze ps);rw [HN.out];exact Zr (Zin K2.out.2.1 ai _ _ _ _ _) (by omega)
  ·have d:w.heap.size≤w.heap.size+2:=by omega
   exact (((((Zb A.out.2.2.2.2 K2.out.2.2).setCell d _).setCell d _).setCell d _).setCell d _).setCell d _
def Zdo (L:List Stp):Bool:=!decide (L.length=0)
theorem Zts (q:Nat) (b:Int) (bm:Option Addr) (bh bl:Nat) (so:Option Addr) (bi sc:Nat) (wo:Option Addr) (bj wc:Nat) (op:Int) (bq:Option Addr) (bk bp:Nat) (a7 a8:Bool) (hb:Int) (Y:Option Addr) (J X:Nat) (ba:Int) (I:Option Addr) (n E:Nat) (ps:List Pl) (N:List Pl) (w:World) (ab:w.heap[q]?=some (ZG b bm bh bl so bi sc wo bj wc op ⟨.slice bq bk bp,a7,a8,hb,.slice Y J X⟩)) (ap:RowAt w (.slice I n E) n (Ze ps)) (am:ps.length=n) (bg:n≤6) (aq:RowAt w (.slice Y J X) J (Ze N)) (al:N.length=J) (bf:J≤6) :
  Calls Tryz.prog 58 #[.pointer (some ⟨q,5,none⟩),.agg #[.int .i64 ba,.slice I n E]] w fun e O=>ZqP (Df.diffL ba ps hb N) (Zdo (Df.diffL ba ps hb N)) (0,[]) w O e:=by
 have ak:q<w.heap.size:=(Ya.1 ab).1;obtain ⟨W,Q⟩:∃ W,W=(w.alloc (Zi ba (.slice I n E))).alloc Zgv:=⟨_,rfl⟩;have M:Below w.heap.size w W:=by rw [Q];exact Zb (Zc _ _) (Zc _ _)
 have L:Hid (W=(w.alloc (Zi ba (.slice I n E))).alloc Zgv∧W.heap[w.heap.size]?=some (Zi ba (.slice I n E))∧W.heap[w.heap.size+1]?=some Zgv∧Below w.heap.size w W):=by
  refine ⟨Q,?_,?_,M⟩
  ·rw [Q];exact (Zn _ _ (by simp)).trans (Zd _ _ rfl)
  ·rw [Q];exact Zd _ _ (by simp)
 have ar:w.heap.size+1<W.heap.size:=(Ya.1 L.out.2.2.1).1;have U:=Za (fun u (au:Below W.heap.size W u)=>Df.cBetween ba I n E ps hb Y J X N u ((ap.nx M).nx au) am bg ((aq.nx M).nx au) al bf);obtain ⟨D,hL⟩:∃ D,Df.diffL ba ps hb N=D:=⟨_,rfl⟩;unfold Df.GaveB at U;rw [hL] at U ⊢;obtain ⟨d,ac⟩:∃ d,D.length=d:=⟨_,rfl⟩;rw [ac] at U;have V:=Za ac;obtain ⟨ae,af,az⟩:=Zw L.out.2.1;obtain ⟨a9,bc,bd,ag,ah,be⟩:=Zdc ((M.block q ak).trans ab);have aj:q<W.heap.size:=Yl ak M.size;have av:w.heap.size<W.heap.size:=by omega
 clear ab ap am aq al Q M hL ac;go_enter Tryz.func58,Tryz.ntmps58
 go_upto_region 1 with fail
 rw [←L.out.1];go_cut [5] (fun v bo=>∃ A vc R,v=.slice A d vc∧Hid (R.ownsRow W.heap.size 84 3 (.slice A d vc) d (Zo D)∧Below W.heap.size W R)∧R=bo)
 case first =>
  go_region_held3 (fun O=>O.cell? ⟨w.heap.size,0,none⟩=some (.int .i64 ba)∧O.cell? ⟨w.heap.size,1,none⟩=some (.slice I n E)∧O.cell? ⟨q,8,none⟩=some (.int .i64 hb)∧O.cell? ⟨q,9,none⟩=some (.slice Y J X)) (go_keep)
   ((go_at_call 86;refine (U.out _ ((Yh _ _).drew)).mono ?_;rintro e w1 ⟨A,vc,rfl,ao,ai⟩;have m:Hid (w1.ownsRow W.heap.size 84 3 (.slice A d vc) d (Zo D)∧Below W.heap.size W w1):=⟨ao,Zb (Yh _ _).drew ai⟩;have bs:=(m.out.2.cell (p:=⟨w.heap.size,0,none⟩) av).trans ae;have bt:=(m.out.2.cell (p:=⟨w.heap.size,1,none⟩) av).trans af;have bu:=(m.out.2.cell (p:=⟨q,8,none⟩) aj).trans ag;have bv:=(m.out.2.cell (p:=⟨q,9,none⟩) aj).trans ah;clear ao ai))
  all_goals
   go_wp2_with fail
   go_meet
   exact ⟨A,vc,_,rfl,m.out,rfl⟩
 case rest =>
  obtain ⟨A,vc,R,rfl,m,rfl⟩:=hcut;clear ae af az a9 bc bd ag ah be;have aw:R.heap[w.heap.size+1]?=some Zgv:=(m.out.2.block _ ar).trans L.out.2.2.1;obtain ⟨ax,ay,bz,a0,a1,bw⟩:=Zn4 aw;clear aw;cases aa:((d:Int) == 0) with
  | true =>
   have ad:d=0:=by have:=eq_of_beq aa;omega
   have a6:Hid (D=[]):=List.length_eq_zero_iff.1 (by rw [V.out];exact ad);go_wp2_with fail
   refine bodyPost_ret (v:=.agg #[.slice none 0 0,.bool false,.bool false,.int .i64 0,.slice none 0 0]) (by simp [results,Tryz.results58,go_sem,ax,ay,bz,a0,a1]) rfl ?_;rw [a6.out];refine ⟨none,0,none,0,rfl,Yq _ _ _ _,Yq _ _ _ _,?_⟩;have bx:w.heap.size≤w.heap.size+1:=by omega
   exact (((((Zb L.out.2.2.2 m.out.2).setCell bx _).setCell bx _).setCell bx _).setCell bx _).setCell bx _
  | false =>
   have ad:¬d=0:=fun h=>by rw [h] at aa;simp at aa
   have br:¬(d:Int)=0:=by omega
   have HA:Hid (Zdo D=true):=by show _=_;unfold Zdo;rw [V.out];simp [ad]
   go_wp2_with fail
   refine bodyPost_ret (v:=.agg #[.slice A d vc,.bool false,.bool true,.int .i64 0,.slice none 0 0]) (by simp [results,Tryz.results58,go_sem,ax,ay,bz,a0,a1]) rfl ?_;rw [HA.out];refine ⟨A,vc,none,0,by rw [V.out];rfl,?_,Yq _ _ _ _,?_⟩
   ·rw [V.out];exact Zr (Zin m.out.1 ar _ _ _ _ _) (by omega)
   ·have bx:w.heap.size≤w.heap.size+1:=by omega
    exact (((((Zb L.out.2.2.2 m.out.2).setCell bx _).setCell bx _).setCell bx _).setCell bx _).setCell bx _
theorem Zfd {w d:World} {ak:Nat} {S:Zh} {I:ZB} {F:Nat→Prop} {R:Option Addr} {Q:Nat} {so:Option Addr} {sc:Nat} {wo:Option Addr} {wc:Nat} {aj:Option Addr} {ai:Nat} {ag:Option Addr} {af:Nat} (h:DeskX w ak S I F R Q so sc wo wc aj ai ag af) (m:F ak) (ab:∀ x,F x→x<w.heap.size) (T:List Stp) (X Y:Bool) (hb:Int) (A:List Pl) (V:Option Addr) (U:Nat) (O:Option Addr) (L:Nat)
  (ae:d.heap[ak]?=some (ZG S.bud R S.pools.length Q so S.srv.length sc wo S.wts.length wc I.op ⟨.slice V T.length U,X,Y,hb,.slice O A.length L⟩))
  (D:Held d (Nxt F w d) 84 3 (.slice V T.length U) T.length (Zo T)) (q:Held d (Nxt F w d) 82 4 (.slice O A.length L) A.length (Ze A))
  (M:Chg (fun y=>y=ak) w d):Moved w d ak {S with plan:=T,begun:=X,back:=Y} {I with hb:=hb,hps:=A} F:=by
 have ac:∀ g,F g→Nxt F w d g:=fun g m=>⟨.inl m,Yl (ab g m) M.size⟩
 have N:∀ {E:TypeId} {sz n:Nat} {v:Value} {J:List Value},Held w F E sz v n J→E≠95→Held d (Nxt F w d) E sz v n J:=by
  intro E sz n v J q ad;refine ⟨Zz q.own (fun j aa=>M.block j (ab j (q.blk j aa)) ?_),fun g m=>ac g (q.blk g m)⟩;intro e;exact Zd7 q.own h.box ad (by rw [←show j=ak from e];exact aa)
 exact ⟨Nxt F w d,⟨⟨R,Q,so,sc,wo,wc,V,U,O,L,ae,N h.p (by decide),N h.s (by decide),N h.t (by decide),D,q⟩,ac ak m,fun x ah=>ah.2⟩,fun y D=>D.1,M.mono (fun y D=>by rw [show y=ak from D];exact m)⟩
theorem Zfr {w q:World} {X:Nat} {S:Zh} {L:ZB} {F:Nat→Prop} {R:Option Addr} {Q:Nat} {so:Option Addr} {sc:Nat} {wo:Option Addr} {wc:Nat} {V:Option Addr} {U:Nat} {O:Option Addr} {N:Nat} (h:DeskX w X S L F R Q so sc wo wc V U O N) (J:∀ x,F x→x<w.heap.size) (D:Chg (fun y=>y=X) w q) {m:TypeId} {sz n:Nat} {v:Value} {A:List Value} (d:Held w F m sz v n A) (M:m≠95):Held q (Nxt F w q) m sz v n A:=by
 refine ⟨Zz d.own (fun j I=>D.block j (J j (d.blk j I)) ?_),fun g E=>⟨.inl (d.blk g E),Yl (J g (d.blk g E)) D.size⟩⟩;intro e;exact Zd7 d.own h.box M (by rw [←show j=X from e];exact I)
theorem ZgC {w w1 m:World} {h:Nat} {F:Nat→Prop} (L:h<w.heap.size) (A:Chg (fun y=>y=h) w1 m) {I:TypeId} {sz n:Nat} {v:Value} {q:List Value} (d:w1.ownsRow w.heap.size I sz v n q):Held m (Nxt F w m) I sz v n q:=by
 refine ⟨Zr (Zz d (fun j E=>A.block j (d.lt j E).2 (fun e=>by have:=(d.lt j E).1;have J:j=h:=e;omega))) (Ye _),fun g D=>⟨.inr (d.lt g D).1,Yl (d.lt g D).2 A.size⟩⟩
structure Rsq where
 S:Zh
 nx:Int
 Y:Int×List Pl
 n:Int
 e:Int
 l:Int
def Zj5 (S:Zh) (d:Bool):Zh:=if d=true then {S with plan:=S.plan.tail,begun:=false,back:=S.back&&!decide (S.plan.tail.length=0)} else S
def Zhm (s:Stp) (S:Zh) (nx:Int):Zh×Int:=
 let R:={(if S.begun=true then S else ZaR s.kind s.name s.n S) with begun:=true}
 ZI R.wts.length R nx
def Zco (S:Zh) (nx:Int) (Y:Int×List Pl):Rsq:=match S.plan with
 | []=>⟨S,nx,Y,0,14,0⟩
 | s :: _ =>
  let T:=Zhm s S nx
  let q:=Zj5 T.1 (Z4 s.kind s.name s.n T.1)
  ⟨q,T.2,Y,q.plan.length,0,0⟩
def ZbD (S:Zh) (nx:Int) (Y:Int×List Pl) (a:Ans):Rsq:=
 if ¬S.plan.length=0 then ⟨S,nx,Y,0,16,0⟩
 else if ¬a.err=0 then ⟨S,nx,Y,0,a.err,a.at'⟩
 else ⟨{S with plan:=Df.diffL S.bud S.pools a.tab.1 a.tab.2,begun:=false,back:=false},nx,(S.bud,S.pools),(Df.diffL S.bud S.pools a.tab.1 a.tab.2).length,0,0⟩
def ZbN (S:Zh) (nx:Int) (Y:Int×List Pl):Rsq:=
 if S.plan.length=0 then ⟨S,nx,Y,0,14,0⟩
 else if S.back=true then ⟨S,nx,Y,0,17,0⟩
 else ⟨{S with plan:=Df.diffL S.bud S.pools Y.1 Y.2,begun:=false,back:=Zdo (Df.diffL S.bud S.pools Y.1 Y.2)},nx,Y,(Df.diffL S.bud S.pools Y.1 Y.2).length,0,0⟩
theorem Zps {w:World} {g o h vc:Nat} {s:Stp} {m:List Stp} (d:RowAt w (.slice (some ⟨g,o,none⟩) (h+1) vc) (h+1) (Zo (s :: m))) (N:m.length=h):RowAt w (.slice (if vc=1 then some ⟨g,o,none⟩ else some ⟨g,o+3,none⟩) h (vc - 1)) h (Zo m):=by
 obtain ⟨J,L,e,M,d⟩:=d;simp only [Value.slice.injEq] at e;obtain ⟨rfl,_,rfl⟩:=e;refine ⟨_,_,rfl,by omega,?_⟩;by_cases E:vc=1
 ·left;rw [List.eq_nil_of_length_eq_zero (show m.length=0 by omega)];rfl
 ·right;rcases d with d | ⟨b,off,q,A,D⟩
  ·exact absurd d (by simp [Zo,fSt])
  ·simp only [Option.some.injEq,Addr.mk.injEq] at q;obtain ⟨rfl,rfl,_⟩:=q;refine ⟨g,o+3,by rw [if_neg E],A,fun j x I=>?_⟩;rw [show o+3+j=o+(j+3) by omega];exact D (j+3) x I
theorem Zpw {w O:World} {S T A:Zh} {u v:ZA} {Q ae:Int×List Pl} {ag aa:Option Addr} {af V B ai m:Nat} {s:Stp} {r:List Stp} {E:Option Addr} (h:OwnW B O T v Q aa V) (D:w.heap.size≤B) (hb:Below w.heap.size w O) (ad:v.tqo=some ⟨ai,0,none⟩) (ah:T.plan=s :: r) (I:r.length=m) (R:(if v.tc=1 then some (⟨ai,0,none⟩:Addr) else some ⟨ai,3,none⟩)=E) (J:A.pools=T.pools) (L:A.srv=T.srv) (M:A.wts=T.wts) (N:A.plan=r) :
  RefG w O S u ae ag af A ⟨v.po,v.pc,v.so,v.sc,v.wo,v.wc,E,v.tc - 1⟩ Q aa V:=by
 have ac:=h.t;rw [ad,ah] at ac;have ab:=Zf ac;rw [List.length_cons,I] at ab;have Y:=Zps (o:=0) ab I;rw [Nat.zero_add,R] at Y;have U:(Value.slice v.tqo T.plan.length v.tc).ownBlock=some ai:=by rw [ad];rfl
 have X:∀ g,(Value.slice E r.length (v.tc - 1)).ownBlock=some g→g=ai:=by
  intro g d;rw [←R] at d;split at d <;> exact (Option.some.inj d).symm
 refine ⟨⟨⟨?_,?_,?_,?_⟩,Zf h.h,?_⟩,?_,hb⟩
 ·rw [J];exact Zf h.p
 ·rw [L];exact Zf h.s
 ·rw [M];exact Zf h.q
 ·rw [N,I];exact Y
 ·rintro g ((d | d | d | d) | d)
  ·rw [J] at d;exact (h.p.lt g d).2
  ·rw [L] at d;exact (h.s.lt g d).2
  ·rw [M] at d;exact (h.q.lt g d).2
  ·rw [N] at d;rw [X g d];exact (h.t.lt ai U).2
  ·exact (h.h.lt g d).2
 ·rintro g ((d | d | d | d) | d)
  ·rw [J] at d;exact .inr (Ym D (h.p.lt g d).1)
  ·rw [L] at d;exact .inr (Ym D (h.s.lt g d).1)
  ·rw [M] at d;exact .inr (Ym D (h.q.lt g d).1)
  ·rw [N] at d;rw [X g d];exact .inr (Ym D (h.t.lt ai U).1)
  ·exact .inr (Ym D (h.h.lt g d).1)
def ZeA (w w':World) (S:Zh) (u:ZA) (Y:Int×List Pl) (ho:Option Addr) (hc:Nat) (q:Rsq) (e:Ending):Prop:=
 ∃ u' ho' hc',e=.returned (.tuple #[wdA q.S u' q.nx q.Y ho' hc',.int .i64 q.n,.int .i64 q.e])∧RefG w w' S u Y ho hc q.S u' q.Y ho' hc'
theorem ZsM (S:Zh) (u:ZA) (nx:Int) (d:Int×List Pl) (m:Option Addr) (ax:Nat) (w:World) (h:WdAt w S u d m ax) (D:S.plan=[]) :
  Calls Tryz.prog 19 #[wdA S u nx d m ax] w fun e Y=>ZeA w Y S u d m ax (Zco S nx d) e:=by
 obtain ⟨W,q⟩:=Zbc w (bW S u nx d m ax);have I:=Za h;have ai:(S.plan.length:Int)=0:=by rw [D];rfl
 have J:Hid (Zco S nx d=⟨S,nx,d,0,14,0⟩):=by show _=_;unfold Zco;rw [D]
 clear D h;unfold wdA;go_enter Tryz.func19,Tryz.ntmps19
 go_upto_region 1 with fail
 rw [←q.out.eq];obtain ⟨aa,ab,a2,a3,a4,a5,ac,ad,ae,af,ag⟩:=Zg q.out.b0;obtain ⟨aj,ak,al,am,ao,ap,aq,ar,au,av,aw⟩:=Zg q.out.b1;go_wp2_with fail
 obtain ⟨FW,A,E⟩:=Za4 q.out (Yh _ W) S u nx d m ax;unfold stS ZK at A;rw [A];obtain ⟨L,M,f2,N,O,Q,R,U,V,X,ah⟩:=Zg E.out.1;clear A;refine bodyPost_ret (v:=.tuple #[wdA S u nx d m ax,.int .i64 0,.int .i64 14]) (by simp [results,Tryz.results19,go_sem,L,M,f2,N,O,Q,R,U,V,X]) rfl ?_;rw [J.out];exact ⟨u,m,ax,rfl,RefG.same I.out E.out.2⟩
theorem ZsP (S:Zh) (u:ZA) (nx:Int) (fq:Int×List Pl) (am:Option Addr) (ak:Nat) (w:World) (ft:Int) (O:ByteArray) (Q:Int) (r:List Stp) (h:WdAt w S u fq am ak) (a8:S.plan=⟨ft,O,Q⟩ :: r) (fx:Sml S fq) (fk:S.pools.length≤99) (fl:S.srv.length+S.wts.length≤549755813888) (er:0≤nx) (fm:nx≤1099511627776) (dv:ZdY ft) (ep:0≤Q) (du:S.begun=false→ft=1∨ft=5∨ft=6∨ft=8→∃ i,S.pools.findIdx? (Zl O)=some i) :
  Calls Tryz.prog 19 #[wdA S u nx fq am ak] w fun e w'=>ZeA w w' S u fq am ak (Zco S nx fq) e:=by
 obtain ⟨W,Y⟩:=Zbc w (bW S u nx fq am ak);have HH:=Za h;have HM:=Za fx;have hW:w.heap.size+2≤W.heap.size:=by rw [Y.out.eq];simp
 have fg:(0:Int)<(S.plan.length:Int):=by rw [a8];simp
 have fh:((S.plan.length:Int) == 0)=false:=by rw [a8];simp;omega
 have fi:¬(S.plan.length:Int)=0:=by omega
 obtain ⟨bl,off,ds,fd,dh,di,d2⟩:=Zge (h.nx Y.out.bel).sta.l (i:=0) (x:=⟨ft,O,Q⟩) (by rw [a8];rfl);simp only [Nat.zero_mul,Nat.add_zero] at dh di d2;have HP:=Za a8;have ed:=Za du;obtain ⟨fv,hV⟩:∃ fv,fv=W.alloc (bSt ft O Q):=⟨_,rfl⟩;have HV:Hid (fv=W.alloc (bSt ft O Q)∧fv.heap[W.heap.size]?=some (bSt ft O Q)∧Below W.heap.size W fv):=⟨hV,by rw [hV];exact Zd _ _ rfl,by rw [hV];exact Zc _ _⟩;have ea:=Za (ZcL S u nx fq am ak fv ((h.nx Y.out.bel).nx HV.out.2.2).rows fx);have d7:=Za ds;clear a8 h fx du hV ds;unfold wdA;go_enter Tryz.func19,Tryz.ntmps19
 go_upto_region 1 with fail
 rw [←Y.out.eq];obtain ⟨aq,ar,a2,a3,a4,a5,au,av,aw,ax,ay⟩:=Zg Y.out.b0;rw [d7.out] at a4;go_upto_region 4 with fail
 rw [←HV.out.1];clear aq ar a2 a3 a4 a5 au av aw ax ay dh di d2;obtain ⟨aq,ar,a2,a3,a4,a5,au,av,aw,ax,ay⟩:=Zg (Zk Y.out.b0 HV.out.2.2);go_wp2_with fail
 refine ea.out.mono ?_;rintro e w1 ⟨cz,cs,cp,rfl,dy,bi⟩;obtain ⟨U,hU,HU⟩:=ZbY dy nx;obtain ⟨g,fz⟩:∃ g,w1.heap.size=g:=⟨_,rfl⟩;have bc:=Za (Zb bi HU.out.2.2.1);have bs:=Za (Zb HV.out.2.2 bc.out);have fc:W.heap.size<g:=by
  have fb:=bi.size;have ci:=(Ya.1 HV.out.2.1).1;omega
 have dq:=HV.out.2.2.size;have bh:fv.heap.size≤g:=by rw [←fz];exact bi.size
 rw [fz] at HU;have HG:=Za fz;have bd:=Za (HU.out.2.2.2.mono dq);clear hU dy bi fz aq ar a2 a3 a4 a5 au av aw ax ay;go_upto_region 5 with fail
 rw [←HU.out.1,HG.out];obtain ⟨aq,ar,a2,a3,a4,a5,au,av,aw,ax,ay⟩:=Zg (Zk Y.out.b0 bs.out);obtain ⟨bo,bp,s2,sz⟩:=Zaq (Zk HV.out.2.1 bc.out);obtain ⟨E,I,e2,e3,e4,e5,A,J,L,M,N⟩:=Zg HU.out.2.1;rcases Bool.eq_false_or_eq_true S.begun with af | af
 all_goals
  first
  | (
   rw [af] at a5;obtain ⟨R,hR⟩:∃ R,R=S:=⟨_,rfl⟩;obtain ⟨v,ct⟩:∃ v,v=cz:=⟨_,rfl⟩;obtain ⟨ao,cq⟩:∃ x,x=cs:=⟨_,rfl⟩;obtain ⟨al,cr⟩:∃ x,x=cp:=⟨_,rfl⟩;have HR:Hid (R=(if S.begun=true then S else ZaR ft O Q S)):=by show _=_;rw [if_pos af,hR]
   have bf:Hid (U.heap[g]?=some (bW R v nx fq ao al)):=by rw [hR,ct,cq,cr];exact HU.out.2.1
   have db:Hid (OwnW W.heap.size U R v fq ao al):=by rw [hR,ct,cq,cr];exact bd.out
   have dc:=bc;clear af hR ct cq cr;go_upto_region 7 with fail
   clear aq ar a2 a3 a4 a5 au av aw ax ay E I e2 e3 e4 e5 A J L M N bo bp s2 sz HU bd;obtain ⟨Z,rfl⟩:∃ Z,Z=U:=⟨_,rfl⟩)
  | (
   rw [af] at a5;obtain ⟨R,hR⟩:∃ R,R=ZaR ft O Q S:=⟨_,rfl⟩;have HR:Hid (R=(if S.begun=true then S else ZaR ft O Q S)):=by show _=_;rw [if_neg (by rw [af];simp),hR]
   have d9:Hid (Calls Tryz.prog 55 #[wdA S cz nx fq cs cp,stA ft O Q] U fun e w'=>GaveS U.heap.size U w' R nx fq e):=by
    rw [hR];exact Zs5 _ S cz nx fq cs cp ft O Q U bd.out HM.out (by omega) dv ep (ed.out af)
   clear af hR;go_wp2_with fail
   refine d9.out.mono ?_;rintro e fn ⟨v,ao,al,rfl,dz,bj⟩;have e9:=Za (Zb bs.out bj);have cv:=Zk HU.out.2.1 bj;obtain ⟨Z,hZ,HZ⟩:=Ze8 (dz.mono bs.out.size) rfl cv nx;have bw:=ZeZ hZ;have dc:Hid (Below fv.heap.size fv Z):=HZ.out.2.1 _ _ (Zb bc.out bj) bh;have bf:=Za HZ.out.1;have db:=Za HZ.out.2.2;clear dz bj aq ar a2 a3 a4 a5 au av aw ax ay E I e2 e3 e4 e5 A J L M N bo bp s2 sz hZ;obtain ⟨E,I,e2,e3,e4,e5,A,J,L,M,N⟩:=Zg cv;clear cv;unfold stS ZK at bw;go_upto_region 7 with fail
   rw [bw.out];clear E I e2 e3 e4 e5 A J L M N HZ bw HU bd)
  obtain ⟨E,I,e2,e3,e4,e5,A,J,L,M,N⟩:=Zg bf.out;obtain ⟨D,hD⟩:∃ D,{R with begun:=true}=D:=⟨_,rfl⟩;obtain ⟨X,hX⟩:∃ X,X=Z.setCell ⟨g,5,none⟩ (.bool true):=⟨_,rfl⟩;have b7:Hid (X=Z.setCell ⟨g,5,none⟩ (.bool true)∧X.heap[g]?=some (bW D v nx fq ao al)):=⟨hX,by rw [hX,←hD];exact ZeL bf.out _⟩;have c7:Hid (Below fv.heap.size fv X):=by rw [hX];exact dc.out.setCell (by show fv.heap.size≤g;exact bh) _
  have ef:Hid (OwnW W.heap.size X D v fq ao al):=by
   rw [hX,←hD];have h:=db.out.st1 (a:=5) bf.out (.bool true);exact ⟨h.p,h.s,h.q,h.t,h.h⟩
  have dl:R.srv.length≤S.srv.length∧R.wts.length≤S.wts.length∧R.pools.length≤S.pools.length+1∧R.plan=S.plan:=by
   rw [HR.out];split
   ·exact ⟨Yd _,Yd _,Nat.le_succ _,rfl⟩
   ·exact Zoa ft O Q S
  have bv:Hid (D.srv.length≤S.srv.length∧D.wts.length≤S.wts.length∧D.pools.length≤S.pools.length+1∧D.plan=S.plan):=by rw [←hD];exact dl
  have ee:Hid (Sml D fq):=by
   have h:=bv.out;have fx:=HM.out;exact ⟨by omega,by omega,by omega,by rw [h.2.2.2];exact fx.t,fx.h⟩
  obtain ⟨⟨T,t⟩,hT⟩:∃ T,ZI D.wts.length D nx=T:=⟨_,rfl⟩;have ei:Hid (Calls Tryz.prog 56 #[wdA D v nx fq ao al] X fun e w'=>GaveS W.heap.size X w' T t fq e):=by
   have h:=bv.out;have:=ZfP W.heap.size D.wts.length D v nx fq ao al X (Ym dq c7.out.size) ef.out ee.out (Yd _) (by omega) er (by omega);rw [hT] at this;exact this
  have ag:Hid (T.srv.length≤549755813888∧T.plan=⟨ft,O,Q⟩ :: r∧Sml T fq):=by
   have h:=Zec D.wts.length D nx;rw [hT] at h;simp only at h;have ci:=bv.out;have fx:=HM.out;exact ⟨by omega,h.2.2.2.1.trans (ci.2.2.2.trans HP.out),⟨by rw [h.2.2.1];omega,by omega,by omega,by rw [h.2.2.2.1,ci.2.2.2];exact fx.t,fx.h⟩⟩
  have b6:Hid (Zco S nx fq=⟨Zj5 T (Z4 ft O Q T),t,fq,(Zj5 T (Z4 ft O Q T)).plan.length,0,0⟩):=by
   have e:Zhm ⟨ft,O,Q⟩ S nx=(T,t):=by
    unfold Zhm;simp only;rw [←HR.out];have h:=hT;rw [←hD] at h;exact h
   show _=_;unfold Zco;rw [HP.out];simp only [e]
  clear hD hX dl hT;go_upto_region 8 with fail
  rw [←b7.out.1];clear E I e2 e3 e4 e5 A J L M N;obtain ⟨E,I,e2,e3,e4,e5,A,J,L,M,N⟩:=Zg b7.out.2;go_wp2_with fail
  refine ei.out.mono ?_;rintro e fo ⟨a1,a0,az,rfl,d0,cm⟩;have cw:=Zk b7.out.2 cm;obtain ⟨df,dm,a6⟩:=Ze8 d0 rfl cw t;have bx:=ZeZ dm;have f0:Hid (Below fv.heap.size fv df):=a6.out.2.1 _ _ (Zb c7.out cm) bh;clear d0 cm dm E I e2 e3 e4 e5 A J L M N;obtain ⟨E,I,e2,e3,e4,e5,A,J,L,M,N⟩:=Zg cw;clear cw;unfold stS ZK at bx;go_upto_region 9 with fail
  rw [bx.out];clear E I e2 e3 e4 e5 A J L M N bx;obtain ⟨E,I,e2,e3,e4,e5,A,J,L,M,N⟩:=Zg a6.out.1;obtain ⟨bo,bp,s2,sz⟩:=Zaq (Zk HV.out.2.1 f0.out);have c8:=Za (Ztk T a1 t fq a0 az ft O Q df dv (Zf a6.out.2.2.s) ag.out.1);obtain ⟨d,hd⟩:∃ d,Z4 ft O Q T=d:=⟨_,rfl⟩;rw [hd] at c8 b6;clear hd;go_wp2_with fail
  refine c8.out.mono ?_;rintro e d6 ⟨rfl,bk⟩;have c6:=Za (Zb f0.out bk);have dd:=Za (Zk a6.out.1 bk);have c9:=Za (a6.out.2.2.nx bk);have bt:=Za (Zb HV.out.2.2 c6.out);have ff:g≠w.heap.size+1:=by omega
  clear bk E I e2 e3 e4 e5 A J L M N bo bp s2 sz;obtain ⟨E,I,e2,e3,e4,e5,A,J,L,M,N⟩:=Zg dd.out;cases d with
  | false =>
   have HQ:Hid (Zco S nx fq=⟨T,t,fq,T.plan.length,0,0⟩):=b6.out;obtain ⟨et,eu,ev,ew,ey,ez,e0,e1,e6,e7,e8⟩:=Zg (Zk Y.out.b1 bt.out);go_upto_region 15 with fail
   go_region
   go_wp2_with fail
   obtain ⟨br,fy,ab⟩:=ZaL Y.out bt.out c9.out t;unfold stS ZK at fy;rw [fy];obtain ⟨fw,ai⟩:∃ fw,br.drew=fw:=⟨_,rfl⟩;have HF:Hid (fw.heap[w.heap.size+1]?=some (bW T a1 t fq a0 az)∧Below w.heap.size w fw∧OwnW W.heap.size fw T a1 fq a0 az):=by rw [←ai];exact ⟨ab.out.1,ab.out.2.1.drew,⟨ab.out.2.2.p.drew,ab.out.2.2.s.drew,ab.out.2.2.q.drew,ab.out.2.2.t.drew,ab.out.2.2.h.drew⟩⟩
   rw [ai];obtain ⟨b9,ca,f2,cb,cc,cd,ce,cf,cg,ch,ej⟩:=Zg HF.out.1;clear fy ai;refine bodyPost_ret (v:=.tuple #[wdA T a1 t fq a0 az,.int .i64 (T.plan.length:Int),.int .i64 0]) (by simp [results,Tryz.results19,go_sem,b9,ca,f2,cb,cc,cd,ce,cf,cg,ch]) rfl ?_;rw [HQ.out];exact ⟨a1,a0,az,rfl,ZcH (HF.out.2.2.mono (by omega)) HF.out.2.1⟩
  | true =>
   have eb:=Za (ZcL T a1 t fq a0 az d6 c9.out.rows ag.out.2.2);go_wp2_with fail
   refine eb.out.mono ?_;rintro e fp ⟨aa,ac,hc5,rfl,d1,co⟩;have cx:=Zk dd.out co;obtain ⟨b8,dp,ae⟩:=Ze8 (d1.mono (show W.heap.size≤d6.heap.size from bt.out.size)) rfl cx t;have bz:=ZeZ dp;have d8:Hid (Below fv.heap.size fv b8):=ae.out.2.1 _ _ (Zb c6.out co) bh;clear d1 co dp E I e2 e3 e4 e5 A J L M N;obtain ⟨E,I,e2,e3,e4,e5,A,J,L,M,N⟩:=Zg cx;clear cx;unfold stS ZK at bz;go_upto_region 12 with fail
   rw [bz.out];clear E I e2 e3 e4 e5 A J L M N bz;obtain ⟨E,I,e2,e3,e4,e5,A,J,L,M,N⟩:=Zg ae.out.1;obtain ⟨dj,ek,bm,eo,c0,c1,c2⟩:=Zge (Zf ae.out.2.2.t) (i:=0) (x:=⟨ft,O,Q⟩) (by rw [ag.out.2.1];rfl);have es:ek=0:=by
    have h:=ae.out.2.2.t;rw [bm] at h;exact ZdB h
   subst es;obtain ⟨m,fx⟩:∃ m,r.length=m:=⟨_,rfl⟩;have a9:T.plan.length=m+1:=by rw [ag.out.2.1,←fx];rfl
   have fe:m+1≤aa.tc:=by
    have h:=ZeR (Zf ae.out.2.2.t);rw [a9] at h;exact h
   have fj:m+1≤1000:=by rw [←a9];exact ag.out.2.2.t
   rw [bm,a9] at e4;have fa:=Za a9;have ec:=Za bm;have be:=Za fx;clear c0 c1 c2 eo a9 fx bm;obtain ⟨ad,dr⟩:∃ ad,(if aa.tc=1 then some (⟨dj,0,none⟩:Addr) else some ⟨dj,3,none⟩)=ad:=⟨_,rfl⟩;obtain ⟨bq,dx⟩:∃ c,aa.tc - 1=c:=⟨_,rfl⟩;obtain ⟨ah,aj⟩:∃ b,(T.back&&!decide (m=0))=b:=⟨_,rfl⟩;obtain ⟨fu,hQ⟩:∃ fu,Zj5 T true=fu:=⟨_,rfl⟩;obtain ⟨V,cu⟩:∃ v:ZA,(⟨aa.po,aa.pc,aa.so,aa.sc,aa.wo,aa.wc,ad,bq⟩:ZA)=v:=⟨_,rfl⟩;obtain ⟨bg,a7⟩:∃ X,X=((b8.setCell ⟨g,4,none⟩ (.slice ad m bq)).setCell ⟨g,5,none⟩ (.bool false)).setCell ⟨g,6,none⟩ (.bool ah):=⟨_,rfl⟩;have cl:fu={T with plan:=r,begun:=false,back:=ah}:=by
    rw [←hQ,←aj];unfold Zj5;rw [if_pos rfl];simp only [ag.out.2.1,List.tail_cons,be.out]
   have cj:=ZfY ae.out.1 (.slice ad m bq);have ck:=ZeL cj (.bool false);have de:Hid (bg=((b8.setCell ⟨g,4,none⟩ (.slice ad m bq)).setCell ⟨g,5,none⟩ (.bool false)).setCell ⟨g,6,none⟩ (.bool ah)∧bg.heap[g]?=some (bW fu V t fq ac hc5)):=by
    refine ⟨a7,?_⟩;have dt:=ZfT ck (.bool ah);rw [←be.out] at dt;rw [a7,cl,←cu,←be.out];exact dt
   have bu:Hid (Below W.heap.size W bg):=by
    rw [a7];have hb:=Zb HV.out.2.2 d8.out;exact ((hb.setCell (by show W.heap.size≤g;omega) _).setCell (by show W.heap.size≤g;omega) _).setCell (by show W.heap.size≤g;omega) _
   have eg:Hid (OwnW W.heap.size bg T aa fq ac hc5):=by
    rw [a7];exact ((ae.out.2.2.st1 ae.out.1 _).st1 cj _).st1 ck _
   have eh:Hid (∀ (fw:World),OwnW W.heap.size fw T aa fq ac hc5→Below w.heap.size w fw→RefG w fw S u fq am ak fu V fq ac hc5):=by
    intro fw hF hb;rw [cl,←cu,←dx];exact Zpw hF (by omega) hb ec.out ag.out.2.1 be.out dr rfl rfl rfl rfl
   have HQ:Hid (Zco S nx fq=⟨fu,t,fq,fu.plan.length,0,0⟩):=by rw [←hQ];exact b6.out
   clear hQ cl cu a7 cj ck;go_upto_region 13 with fail
   try rw [dr]
   try rw [dx]
   obtain ⟨cy,dw⟩:∃ b,T.back=b:=⟨_,rfl⟩;rw [dw] at A aj;clear dw;have hA:cy=true→decide (0<(m:Int))=ah∧decide (0<m)=ah:=by
    intro h;rw [h,Bool.true_and] at aj;rw [←aj];by_cases dk:m=0
    ·subst dk;exact ⟨rfl,rfl⟩
    ·rw [decide_eq_false dk];exact ⟨decide_eq_true (by omega),decide_eq_true (by omega)⟩
   have hB:cy=false→ah=false:=by
    intro h;rw [h] at aj;exact aj.symm
   clear aj;cases cy;all_goals
    first
    | (obtain ⟨el,em⟩:=hA rfl;clear hA hB)
    | (obtain rfl:=hB rfl;clear hA hB)
    go_upto_region 15 with fail
    first | rw [el] | rw [em] | skip
    rw [←de.out.1];clear E I e2 e3 e4 e5 A J L M N;obtain ⟨E,I,e2,e3,e4,e5,A,J,L,M,N⟩:=Zg de.out.2;obtain ⟨et,eu,ev,ew,ey,ez,e0,e1,e6,e7,e8⟩:=Zg (Zk Y.out.b1 bu.out);go_region
    go_wp2_with fail
    obtain ⟨br,fy,ab⟩:=Za4 Y.out bu.out fu V t fq ac hc5;have ap:=Za (eg.out.st (Zk Y.out.b1 bu.out) (.int .i64 fu.bud) (.slice V.po fu.pools.length V.pc) (.slice V.so fu.srv.length V.sc) (.slice V.wo fu.wts.length V.wc) (.slice V.tqo fu.plan.length V.tc) (.bool fu.begun) (.bool fu.back) (.int .i64 t) (.int .i64 fq.1) (.slice ac fq.2.length hc5));unfold stS at fy;rw [fy] at ap;unfold ZK at fy;rw [fy];obtain ⟨fw,ai⟩:∃ fw,br.drew=fw:=⟨_,rfl⟩;have HF:Hid (fw.heap[w.heap.size+1]?=some (bW fu V t fq ac hc5)∧RefG w fw S u fq am ak fu V fq ac hc5):=by
     rw [←ai];exact ⟨ab.out.1,eh.out _ ⟨ap.out.p.drew,ap.out.s.drew,ap.out.q.drew,ap.out.t.drew,ap.out.h.drew⟩ ab.out.2.drew⟩
    rw [ai];obtain ⟨b9,ca,f2,cb,cc,cd,ce,cf,cg,ch,ej⟩:=Zg HF.out.1;clear fy ai;refine bodyPost_ret (v:=.tuple #[wdA fu V t fq ac hc5,.int .i64 (fu.plan.length:Int),.int .i64 0]) (by simp [results,Tryz.results19,go_sem,b9,ca,f2,cb,cc,cd,ce,cf,cg,ch]) rfl ?_;rw [HQ.out];exact ⟨V,ac,hc5,rfl,HF.out.2⟩
def ZlX (w w':World) (S:Zh) (u:ZA) (Y:Int×List Pl) (ho:Option Addr) (hc:Nat) (q:Rsq) (e:Ending):Prop:=
 ∃ u' ho' hc',e=.returned (.tuple #[wdA q.S u' q.nx q.Y ho' hc',.int .i64 q.n,.int .i64 q.e,.int .i64 q.l])∧RefG w w' S u Y ho hc q.S u' q.Y ho' hc'
theorem Zqa (S:Zh) (u:ZA) (nx:Int) (d:Int×List Pl) (m:Option Addr) (ay:Nat) (s:ByteArray) (w:World) (h:WdAt w S u d m ay) (E:¬S.plan.length=0) :
  Calls Tryz.prog 17 #[wdA S u nx d m ay,.string s] w fun e Y=>ZlX w Y S u d m ay (ZbD S nx d (Z7 s)) e:=by
 obtain ⟨W,q⟩:=Zbc w (bW S u nx d m ay);have I:=Za h;have ai:(0:Int)<(S.plan.length:Int):=by omega
 have aj:0<S.plan.length:=by omega
 have J:Hid (ZbD S nx d (Z7 s)=⟨S,nx,d,0,16,0⟩):=by show _=_;unfold ZbD;rw [if_pos E]
 clear E h;unfold wdA;go_enter Tryz.func17,Tryz.ntmps17
 go_upto_region 1 with fail
 rw [←q.out.eq];obtain ⟨aa,ab,a2,a3,a4,a5,ac,ad,ae,af,ag⟩:=Zg q.out.b0;obtain ⟨ak,al,am,ao,ap,aq,ar,au,av,aw,ax⟩:=Zg q.out.b1;go_wp2_with fail
 obtain ⟨FW,A,D⟩:=Za4 q.out (Yh _ W) S u nx d m ay;unfold stS ZK at A;rw [A];obtain ⟨L,M,f2,N,O,Q,R,U,V,X,ah⟩:=Zg D.out.1;clear A;refine bodyPost_ret (v:=.tuple #[wdA S u nx d m ay,.int .i64 0,.int .i64 16,.int .i64 0]) (by simp [results,Tryz.results17,go_sem,L,M,f2,N,O,Q,R,U,V,X]) rfl ?_;rw [J.out];exact ⟨u,m,ay,rfl,RefG.same I.out D.out.2⟩
theorem Zqq (S:Zh) (u:ZA) (nx:Int) (d:Int×List Pl) (ag:Option Addr) (af:Nat) (s:ByteArray) (w:World) (h:WdAt w S u d ag af) (cf:Sml S d) (cg:S.plan.length=0) (cw:s.size≤maxLen) (cv:S.pools.length≤6) (az:(Z7 s).err=0→(Z7 s).tab.2.length≤6∧∀ p∈(Z7 s).tab.2,0≤p.sz) :
  Calls Tryz.prog 17 #[wdA S u nx d ag af,.string s] w fun e w'=>ZlX w w' S u d ag af (ZbD S nx d (Z7 s)) e:=by
 obtain ⟨W,dv⟩:=Zbc w (bW S u nx d ag af);have HH:=Za h;have HM:=Za cf;have hW:w.heap.size+2≤W.heap.size:=by rw [dv.out.eq];simp
 have dt:¬(0:Int)<(S.plan.length:Int):=by omega
 have du:¬0<S.plan.length:=by omega
 have HP:=Za cg;have b7:=Za (ZdV s W cw);obtain ⟨a,cd⟩:∃ a,Z7 s=a:=⟨_,rfl⟩;rw [cd] at b7 az ⊢;clear cg cd;obtain ⟨⟨aj,al⟩,ak,au⟩:=a;simp only at az;have b8:=Za az;clear h cf az;unfold wdA;go_enter Tryz.func17,Tryz.ntmps17
 go_upto_region 1 with fail
 rw [←dv.out.eq];obtain ⟨D,E,a2,a3,a4,a5,I,J,L,M,N⟩:=Zg dv.out.b0;go_wp2_with fail
 refine b7.out.mono ?_;rintro e w1 ⟨ar,vc,rfl,a8,bs⟩;simp only at a8 ⊢;obtain ⟨q,bv⟩:∃ q,al.length=q:=⟨_,rfl⟩;rw [bv] at a8 ⊢;obtain ⟨R,hV⟩:∃ R,R=w1.alloc (Zi aj (.slice ar q vc)):=⟨_,rfl⟩;have dw:Hid (R=w1.alloc (Zi aj (.slice ar q vc))∧R.heap[w1.heap.size]?=some (Zi aj (.slice ar q vc))∧Below W.heap.size W R∧RowAt R (.slice ar q vc) q (Ze al)):=⟨hV,by rw [hV];exact Zd _ _ rfl,by rw [hV];exact Zb bs (Zc _ _),by rw [hV];exact Zf (Zx a8 (Zc _ _))⟩;have ca:=Za bv;have dp:=bs.size;clear a8 bs hV bv D E a2 a3 a4 a5 I J L M N;go_upto_region 4 with fail
 rw [←dw.out.1];obtain ⟨D,E,a2,a3,a4,a5,I,J,L,M,N⟩:=Zg (Zk dv.out.b0 dw.out.2.2.1);by_cases ce:(ak:Int)=0
 ·have di:=Za ce;have cu:ak=0:=by omega
  subst cu;have b9:=Za (b8.out rfl);clear ce b8;have cl:=Za (ZcL S u nx d ag af R ((HH.out.nx dv.out.bel).nx dw.out.2.2.1).rows HM.out);go_wp2_with fail
  refine cl.out.mono ?_;rintro e dh ⟨am,bu,bt,rfl,ch,aw⟩;obtain ⟨U,hU,HU⟩:=ZbY ch nx;obtain ⟨g,ay⟩:∃ g,dh.heap.size=g:=⟨_,rfl⟩;have a9:=Za (Zb aw HU.out.2.2.1);have ao:=Za (Zb dw.out.2.2.1 a9.out);have dm:=(Ya.1 dw.out.2.1).1;have dq:W.heap.size<g:=by
   have dk:=aw.size;omega
  have dl:R.heap.size≤g:=by rw [←ay];exact aw.size
  have ct:=dw.out.2.2.1.size;rw [ay] at HU;have HG:=Za ay;have co:=Za (HU.out.2.2.2.mono ct);clear hU ch aw ay D E a2 a3 a4 a5 I J L M N;go_upto_region 7 with fail
  rw [←HU.out.1,HG.out];obtain ⟨D,E,a2,a3,a4,a5,I,J,L,M,N⟩:=Zg (Zk dv.out.b0 ao.out);obtain ⟨de,df⟩:=Zw (Zk dw.out.2.1 a9.out);obtain ⟨X,Y,e2,e3,e4,e5,aa,ab,ac,ad,ae⟩:=Zg HU.out.2.1;have cb:=Za (Df.rSteps S.bud u.po _ u.pc S.pools aj ar q vc al U ((HH.out.nx dv.out.bel).nx ao.out).sta.p rfl cv (dw.out.2.2.2.nx a9.out) ca.out (by rw [←ca.out];exact b9.out.1) b9.out.2);obtain ⟨A,hL⟩:∃ A,Df.diffL S.bud S.pools aj al=A:=⟨_,rfl⟩;rw [hL] at cb;have HQ:Hid (ZbD S nx d ⟨(aj,al),0,au⟩=⟨{S with plan:=A,begun:=false,back:=false},nx,(S.bud,S.pools),A.length,0,0⟩):=by
   show _=_;unfold ZbD;rw [if_neg (by rw [HP.out];simp),if_neg (by simp),←hL]
  clear hL;go_wp2_with fail
  refine cb.out.mono ?_;rintro e bx ⟨a7,a6,rfl,cj,aq⟩;have a0:=Zk HU.out.2.1 aq;obtain ⟨m,hD⟩:∃ m,{S with plan:=A,begun:=false,back:=false}=m:=⟨_,rfl⟩;obtain ⟨v,bw⟩:∃ v:ZA,(⟨am.po,am.pc,am.so,am.sc,am.wo,am.wc,a7,a6⟩:ZA)=v:=⟨_,rfl⟩;obtain ⟨dx,hX⟩:∃ dx,dx=((bx.setCell ⟨g,4,none⟩ (.slice a7 A.length a6)).setCell ⟨g,5,none⟩ (.bool false)).setCell ⟨g,6,none⟩ (.bool false):=⟨_,rfl⟩;have bo:=ZfY a0 (.slice a7 A.length a6);have bp:=ZeL bo (.bool false);have bc:Hid (dx=((bx.setCell ⟨g,4,none⟩ (.slice a7 A.length a6)).setCell ⟨g,5,none⟩ (.bool false)).setCell ⟨g,6,none⟩ (.bool false)∧dx.heap[g]?=some (bW m v nx d bu bt)):=by
   refine ⟨hX,?_⟩;rw [hX,←hD,←bw];exact ZfT bp _
  have ap:Hid (Below W.heap.size W dx):=by
   rw [hX];have hb:=Zb ao.out aq;exact ((hb.setCell (by show W.heap.size≤g;omega) _).setCell (by show W.heap.size≤g;omega) _).setCell (by show W.heap.size≤g;omega) _
  have cp:Hid (OwnW W.heap.size dx m v d bu bt):=by
   have bm:OwnW W.heap.size bx m v d bu bt:=by
    rw [←hD,←bw];have Q:=co.out.nx aq;exact ⟨Q.p,Q.s,Q.q,Zr cj (by have:=ao.out.size;omega),Q.h⟩
   rw [hX];exact ((bm.st1 a0 _).st1 bo _).st1 bp _
  have dj:Hid (∀ {o:Obj},W.heap[w.heap.size]?=some o→dx.heap[w.heap.size]?=some o):=fun h=>Zk h ap.out
  clear cj hX D E a2 a3 a4 a5 I J L M N X Y e2 e3 e4 e5 aa ab ac ad ae de df bo bp;obtain ⟨D,E,a2,a3,a4,a5,I,J,L,M,N⟩:=Zg (Zk dv.out.b0 (Zb ao.out aq));obtain ⟨X,Y,e2,e3,e4,e5,aa,ab,ac,ad,ae⟩:=Zg a0;clear aq a0;go_upto_region 10 with fail
  rw [←bc.out.1];clear D E a2 a3 a4 a5 I J L M N X Y e2 e3 e4 e5 aa ab ac ad ae;obtain ⟨D,E,a2,a3,a4,a5,I,J,L,M,N⟩:=Zg (Zk dv.out.b0 ap.out);obtain ⟨X,Y,e2,e3,e4,e5,aa,ab,ac,ad,ae⟩:=Zg bc.out.2;have cr:=Za (Zgg S.bud S.pools u.po _ u.pc dx ((HH.out.nx dv.out.bel).nx ap.out).sta.p rfl (by omega));go_wp2_with fail
  refine cr.out.mono ?_;rintro e bz ⟨O,hc5,rfl,ci,ax⟩;have a1:=Zk bc.out.2 ax;obtain ⟨Z,hZ⟩:∃ Z,Z=(bz.setCell ⟨g,8,none⟩ (.int .i64 S.bud)).setCell ⟨g,9,none⟩ (.slice O S.pools.length hc5):=⟨_,rfl⟩;obtain ⟨V,av⟩:∃ V,(S.bud,S.pools)=V:=⟨_,rfl⟩;have bq:=Znm a1 (.int .i64 S.bud);have cc:Hid (Z=(bz.setCell ⟨g,8,none⟩ (.int .i64 S.bud)).setCell ⟨g,9,none⟩ (.slice O S.pools.length hc5)∧Z.heap[g]?=some (bW m v nx V O hc5)):=by
   refine ⟨hZ,?_⟩;rw [hZ,←av];exact ZmI bq _
  have b6:Hid (Below W.heap.size W Z):=by
   rw [hZ];exact ((Zb ap.out ax).setCell (by show W.heap.size≤g;omega) _).setCell (by show W.heap.size≤g;omega) _
  have cq:Hid (OwnW W.heap.size Z m v V O hc5):=by
   have bm:OwnW W.heap.size bz m v V O hc5:=by
    rw [←av];have Q:=cp.out.nx ax;exact ⟨Q.p,Q.s,Q.q,Q.t,Zr ci ap.out.size⟩
   rw [hZ];exact (bm.st1 a1 _).st1 bq _
  have cm:Hid (A.length=m.plan.length):=by rw [←hD];exact rfl
  rw [hD,av,cm.out] at HQ;clear ci ax hZ D E a2 a3 a4 a5 I J L M N X Y e2 e3 e4 e5 aa ab ac ad ae bq av hD bw;obtain ⟨X,Y,e2,e3,e4,e5,aa,ab,ac,ad,ae⟩:=Zg a1;clear a1;go_upto_region 11 with fail
  rw [←cc.out.1];clear X Y e2 e3 e4 e5 aa ab ac ad ae;obtain ⟨X,Y,e2,e3,e4,e5,aa,ab,ac,ad,ae⟩:=Zg cc.out.2;have ds:g≠w.heap.size+1:=by omega
  obtain ⟨cx,cy,cz,c0,c6,c7,c8,c9,db,dc,dd⟩:=Zg (Zk dv.out.b1 b6.out);go_region
  go_wp2_with fail
  obtain ⟨ck,ai,ah⟩:=ZaL dv.out b6.out cq.out nx;unfold stS ZK at ai;rw [ai];obtain ⟨FW,br⟩:∃ FW,ck.drew=FW:=⟨_,rfl⟩;have HF:Hid (FW.heap[w.heap.size+1]?=some (bW m v nx V O hc5)∧Below w.heap.size w FW∧OwnW W.heap.size FW m v V O hc5):=by rw [←br];exact ⟨ah.out.1,ah.out.2.1.drew,⟨ah.out.2.2.p.drew,ah.out.2.2.s.drew,ah.out.2.2.q.drew,ah.out.2.2.t.drew,ah.out.2.2.h.drew⟩⟩
  rw [br];obtain ⟨bd,be,f2,bf,bg,bh,bi,bj,bk,bl,cs⟩:=Zg HF.out.1;clear ai br;refine bodyPost_ret (v:=.tuple #[wdA m v nx V O hc5,.int .i64 (m.plan.length:Int),.int .i64 0,.int .i64 0]) (by simp [results,Tryz.results17,go_sem,bd,be,f2,bf,bg,bh,bi,bj,bk,bl]) rfl ?_;rw [HQ.out];exact ⟨v,O,hc5,rfl,ZcH (HF.out.2.2.mono (by omega)) HF.out.2.1⟩
 ·have HQ:Hid (ZbD S nx d ⟨(aj,al),ak,au⟩=⟨S,nx,d,0,ak,au⟩):=by
   show _=_;unfold ZbD;rw [if_neg (by rw [HP.out];simp),if_pos (by simp;omega)]
  have dr:((ak:Int) != 0)=true:=by simp;omega
  obtain ⟨cx,cy,cz,c0,c6,c7,c8,c9,db,dc,dd⟩:=Zg (Zk dv.out.b1 dw.out.2.2.1);go_wp2_with fail
  obtain ⟨FW,ai,HF⟩:=Za4 dv.out dw.out.2.2.1 S u nx d ag af;unfold stS ZK at ai;rw [ai];obtain ⟨bd,be,f2,bf,bg,bh,bi,bj,bk,bl,cs⟩:=Zg HF.out.1;clear ai;refine bodyPost_ret (v:=.tuple #[wdA S u nx d ag af,.int .i64 0,.int .i64 (ak:Int),.int .i64 (au:Int)]) (by simp [results,Tryz.results17,go_sem,bd,be,f2,bf,bg,bh,bi,bj,bk,bl]) rfl ?_;rw [HQ.out];exact ⟨u,ag,af,rfl,RefG.same HH.out HF.out.2⟩
theorem ZrT (S:Zh) (u:ZA) (nx:Int) (d:Int×List Pl) (m:Option Addr) (ax:Nat) (w:World) (h:WdAt w S u d m ax) (E:S.plan.length=0) :
  Calls Tryz.prog 21 #[wdA S u nx d m ax] w fun e Y=>ZeA w Y S u d m ax (ZbN S nx d) e:=by
 obtain ⟨W,q⟩:=Zbc w (bW S u nx d m ax);have I:=Za h;have ai:(S.plan.length:Int)=0:=by omega
 have J:Hid (ZbN S nx d=⟨S,nx,d,0,14,0⟩):=by show _=_;unfold ZbN;rw [if_pos E]
 clear E h;unfold wdA;go_enter Tryz.func21,Tryz.ntmps21
 go_upto_region 1 with fail
 rw [←q.out.eq];obtain ⟨aa,ab,a2,a3,a4,a5,ac,ad,ae,af,ag⟩:=Zg q.out.b0;obtain ⟨aj,ak,al,am,ao,ap,aq,ar,au,av,aw⟩:=Zg q.out.b1;go_wp2_with fail
 obtain ⟨FW,A,D⟩:=Za4 q.out (Yh _ W) S u nx d m ax;unfold stS ZK at A;rw [A];obtain ⟨L,M,f2,N,O,Q,R,U,V,X,ah⟩:=Zg D.out.1;clear A;refine bodyPost_ret (v:=.tuple #[wdA S u nx d m ax,.int .i64 0,.int .i64 14]) (by simp [results,Tryz.results21,go_sem,L,M,f2,N,O,Q,R,U,V,X]) rfl ?_;rw [J.out];exact ⟨u,m,ax,rfl,RefG.same I.out D.out.2⟩
theorem Zri (S:Zh) (u:ZA) (nx:Int) (d:Int×List Pl) (m:Option Addr) (ay:Nat) (w:World) (h:WdAt w S u d m ay) (J:¬S.plan.length=0) (hb:S.back=true) :
  Calls Tryz.prog 21 #[wdA S u nx d m ay] w fun e w'=>ZeA w w' S u d m ay (ZbN S nx d) e:=by
 obtain ⟨W,q⟩:=Zbc w (bW S u nx d m ay);have L:=Za h;have ai:¬(S.plan.length:Int)=0:=by omega
 have aj:((S.plan.length:Int) == 0)=false:=by rw [beq_eq_false_iff_ne];omega
 have M:Hid (ZbN S nx d=⟨S,nx,d,0,17,0⟩):=by show _=_;unfold ZbN;rw [if_neg J,if_pos hb]
 have D:=Za hb;clear hb;clear J h;unfold wdA;go_enter Tryz.func21,Tryz.ntmps21
 go_upto_region 1 with fail
 rw [←q.out.eq];obtain ⟨ab,ac,a2,a3,a4,a5,I,ad,ae,af,ag⟩:=Zg q.out.b0;obtain ⟨ak,al,am,ao,ap,aq,ar,au,av,aw,ax⟩:=Zg q.out.b1;rw [D.out] at I;go_upto_region 4 with fail
 rw [←D.out] at I;go_wp2_with fail
 obtain ⟨FW,A,E⟩:=Za4 q.out (Yh _ W) S u nx d m ay;unfold stS ZK at A;rw [A];obtain ⟨N,O,f2,Q,R,U,V,X,Y,aa,ah⟩:=Zg E.out.1;clear A;refine bodyPost_ret (v:=.tuple #[wdA S u nx d m ay,.int .i64 0,.int .i64 17]) (by simp [results,Tryz.results21,go_sem,N,O,f2,Q,R,U,V,X,Y,aa]) rfl ?_;rw [M.out];exact ⟨u,m,ay,rfl,RefG.same L.out E.out.2⟩
theorem Zre (S:Zh) (u:ZA) (nx:Int) (d:Int×List Pl) (N:Option Addr) (M:Nat) (w:World) (h:WdAt w S u d N M) (a6:Sml S d) (a7:¬S.plan.length=0) (hb:S.back=false) (bz:S.pools.length≤6) (b7:d.2.length≤6) (b6:∀ p∈d.2,0≤p.sz) :
  Calls Tryz.prog 21 #[wdA S u nx d N M] w fun e w'=>ZeA w w' S u d N M (ZbN S nx d) e:=by
 obtain ⟨W,A⟩:=Zbc w (bW S u nx d N M);have HH:=Za h;have HM:=Za a6;have hW:w.heap.size+2≤W.heap.size:=by rw [A.out.eq];simp
 have cc:¬(S.plan.length:Int)=0:=by omega
 have cd:((S.plan.length:Int) == 0)=false:=by rw [beq_eq_false_iff_ne];omega
 have HP:=Za a7;have HB:=Za hb;have bj:=Za (ZcL S u nx d N M W (h.nx A.out.bel).rows a6);have bd:=Za (fun v (hb:Below W.heap.size W v)=>Df.rSteps S.bud u.po _ u.pc S.pools d.1 N _ M d.2 v ((h.nx A.out.bel).nx hb).sta.p rfl bz ((h.nx A.out.bel).nx hb).hom rfl b7 b6);obtain ⟨cq,hL⟩:∃ cq,Df.diffL S.bud S.pools d.1 d.2=cq:=⟨_,rfl⟩;rw [hL] at bd;have HQ:Hid (ZbN S nx d=⟨{S with plan:=cq,begun:=false,back:=Zdo cq},nx,d,cq.length,0,0⟩):=by
  show _=_;unfold ZbN;rw [if_neg a7,if_neg (by rw [hb];simp),hL]
 clear a7 h a6 hL hb;unfold wdA;go_enter Tryz.func21,Tryz.ntmps21
 go_upto_region 1 with fail
 rw [←A.out.eq];obtain ⟨ao,ap,a2,a3,a4,a5,R,aq,ar,au,av⟩:=Zg A.out.b0;rw [HB.out] at R;go_upto_region 5 with fail
 rw [←HB.out] at R;go_wp2_with fail
 refine bj.out.mono ?_;rintro e b8 ⟨O,I,E,rfl,bg,a0⟩;obtain ⟨U,hU,J⟩:=ZbY bg nx;obtain ⟨g,ah⟩:∃ g,b8.heap.size=g:=⟨_,rfl⟩;have X:=Za (Zb a0 J.out.2.2.1);have ca:W.heap.size≤g:=by rw [←ah];exact a0.size
 rw [ah] at J;have HG:=Za ah;clear hU bg a0 ah ao ap a2 a3 a4 a5 R aq ar au av;go_upto_region 6 with fail
 rw [←J.out.1,HG.out];obtain ⟨ao,ap,a2,a3,a4,a5,R,aq,ar,au,av⟩:=Zg (Zk A.out.b0 X.out);obtain ⟨Y,aa,e2,e3,e4,e5,ab,ac,ad,ae,af⟩:=Zg J.out.2.1;go_wp2_with fail
 refine (bd.out U X.out).mono ?_;rintro e a9 ⟨am,al,rfl,bh,ag⟩;have aj:=Zk J.out.2.1 ag;obtain ⟨m,cr⟩:∃ m,{S with plan:=cq,begun:=false,back:=Zdo cq}=m:=⟨_,rfl⟩;obtain ⟨v,a8⟩:∃ v:ZA,(⟨O.po,O.pc,O.so,O.sc,O.wo,O.wc,am,al⟩:ZA)=v:=⟨_,rfl⟩;obtain ⟨ak,a1⟩:∃ b,Zdo cq=b:=⟨_,rfl⟩;have bf:decide (0<(cq.length:Int))=ak:=by
  rw [←a1];unfold Zdo;by_cases h:cq.length=0
  ·simp [h]
  ·simp [h];omega
 have bx:decide (0<cq.length)=ak:=by rw [←bf];simp
 obtain ⟨L,V⟩:∃ L,L=((a9.setCell ⟨g,4,none⟩ (.slice am cq.length al)).setCell ⟨g,5,none⟩ (.bool false)).setCell ⟨g,6,none⟩ (.bool ak):=⟨_,rfl⟩;have aw:=ZfY aj (.slice am cq.length al);have ax:=ZeL aw (.bool false);have be:Hid (L=((a9.setCell ⟨g,4,none⟩ (.slice am cq.length al)).setCell ⟨g,5,none⟩ (.bool false)).setCell ⟨g,6,none⟩ (.bool ak)∧L.heap[g]?=some (bW m v nx d I E)):=by
  refine ⟨V,?_⟩;rw [V,←cr,←a8,←a1];exact ZfT ax _
 have bc:Hid (Below W.heap.size W L):=by
  rw [V];have hb:=Zb X.out ag;exact ((hb.setCell (by show W.heap.size≤g;omega) _).setCell (by show W.heap.size≤g;omega) _).setCell (by show W.heap.size≤g;omega) _
 have bl:Hid (OwnW W.heap.size L m v d I E):=by
  have bw:OwnW W.heap.size a9 m v d I E:=by
   rw [←cr,←a8];have ai:=J.out.2.2.2.nx ag;exact ⟨ai.p,ai.s,ai.q,Zr bh X.out.size,ai.h⟩
  rw [V];exact ((bw.st1 aj _).st1 aw _).st1 ax _
 have bk:Hid (cq.length=m.plan.length):=by rw [←cr];exact rfl
 rw [cr,bk.out] at HQ;clear bh V cr a8 a1 ao ap a2 a3 a4 a5 R aq ar au av Y aa e2 e3 e4 e5 ab ac ad ae af aw ax ag;obtain ⟨Y,aa,e2,e3,e4,e5,ab,ac,ad,ae,af⟩:=Zg aj;clear aj;go_upto_region 9 with fail
 rw [←be.out.1];clear Y aa e2 e3 e4 e5 ab ac ad ae af bf bx;obtain ⟨Y,aa,e2,e3,e4,e5,ab,ac,ad,ae,af⟩:=Zg be.out.2;have cb:g≠w.heap.size+1:=by omega
 obtain ⟨ce,cf,cg,ch,ci,cj,ck,cl,cm,co,cp⟩:=Zg (Zk A.out.b1 bc.out);go_region
 go_wp2_with fail
 obtain ⟨bi,az,D⟩:=ZaL A.out bc.out bl.out nx;unfold stS ZK at az;rw [az];obtain ⟨Q,ay⟩:∃ Q,bi.drew=Q:=⟨_,rfl⟩;have HF:Hid (Q.heap[w.heap.size+1]?=some (bW m v nx d I E)∧Below w.heap.size w Q∧OwnW W.heap.size Q m v d I E):=by rw [←ay];exact ⟨D.out.1,D.out.2.1.drew,⟨D.out.2.2.p.drew,D.out.2.2.s.drew,D.out.2.2.q.drew,D.out.2.2.t.drew,D.out.2.2.h.drew⟩⟩
 rw [ay];obtain ⟨bm,bo,f2,bp,bq,br,bs,bt,bu,bv,b9⟩:=Zg HF.out.1;clear az ay;refine bodyPost_ret (v:=.tuple #[wdA m v nx d I E,.int .i64 (m.plan.length:Int),.int .i64 0]) (by simp [results,Tryz.results21,go_sem,bm,bo,f2,bp,bq,br,bs,bt,bu,bv]) rfl ?_;rw [HQ.out];exact ⟨v,I,E,rfl,ZcH (HF.out.2.2.mono (by omega)) HF.out.2.1⟩
end Lw
end Go.Proofs.YtmgkcbdlfodjmaaGreatDoor
