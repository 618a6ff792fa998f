import Derived.Test.YtmgkcbdlfodjmaaGreatDoorBqAb
set_option maxRecDepth 100000
set_option maxHeartbeats 16000000
namespace Go.Proofs.YtmgkcbdlfodjmaaGreatDoor
open Go.RowKit
namespace Lw
open Co
theorem ZoS {α:Type} {p:α→Bool} {l:List α} {k:Nat} {x:α} (m:l[k]?=some x):(l.take (k+1)).filter p=if p x=true then (l.take k).filter p++[x] else (l.take k).filter p:=by
 obtain ⟨d,e⟩:=Yc.1 m;rw [Yk d,Yr,e];cases h:p x <;> simp [h]
theorem ZpZ (B:Nat) (S:Zh) (u:ZA) (nx:Int) (d:Int×List Pl) (ao:Option Addr) (al:Nat) (nm:ByteArray) (w:World) (hO:OwnW B w S u d ao al) (bk:Sml S d) :
  Calls Tryz.prog 93 #[wdA S u nx d ao al,.string nm] w fun e w'=>GaveS w.heap.size w w' (Zeb (Zd9 {S with pools:=S.pools.filter (ZZ nm)} nm 0) nm false 0) nx d e:=by
 obtain ⟨W,V⟩:=Zbc w (bW S u nx d ao al);have HO:=Za (hO.nx V.out.bel);have ev:=Za bk;have hW:w.heap.size+2≤W.heap.size:=by rw [V.out.eq];simp
 have ci:=Za (ZcL S u nx d ao al W HO.out.rows bk);clear hO bk;unfold wdA;go_enter Tryz.func93,Tryz.ntmps93
 go_wp2_with fail
 rw [←V.out.eq];refine ci.out.mono ?_;rintro e w1 ⟨m,E,eu,rfl,ah,bh⟩;obtain ⟨g,ax⟩:∃ g,w1.heap.size=g:=⟨_,rfl⟩;have aj:=Za (ah.nx (Zc w1 (bWp (.slice none 0 0) S m nx d E eu)));obtain ⟨I,hU⟩:∃ I,I=w1.alloc (bWp (.slice none 0 0) S m nx d E eu):=⟨_,rfl⟩;have ar:Hid (∀ et,(Value.slice m.so S.srv.length m.sc).ownBlock=some et∨(Value.slice m.wo S.wts.length m.wc).ownBlock=some et∨(Value.slice m.tqo S.plan.length m.tc).ownBlock=some et∨(Value.slice E d.2.length eu).ownBlock=some et→et<g):=by
  rintro et (h | h | h | h)
  ·have:=(ah.s.lt et h).2;omega
  ·have:=(ah.q.lt et h).2;omega
  ·have:=(ah.t.lt et h).2;omega
  ·have:=(ah.h.lt et h).2;omega
 rw [←hU] at aj;have N:Hid (I=w1.alloc (bWp (.slice none 0 0) S m nx d E eu)∧I.heap[g]?=some (bWp (.slice none 0 0) S m nx d E eu)∧Below W.heap.size W I∧W.heap.size≤g):=⟨hU,by rw [hU];exact Zd _ _ ax.symm,by rw [hU];exact Zb bh (Zc _ _),by rw [←ax];exact bh.size⟩;have HG:=Za ax;clear ah bh hU ax;go_upto_region 3 with fail
 rw [←N.out.1,HG.out];obtain ⟨n,am⟩:∃ n,S.pools.length=n:=⟨_,rfl⟩;have HN:=Za am;have ec:n≤1000:=by rw [←am];exact ev.out.p
 have bp:Hid (∀ v,Below W.heap.size W v→v.heap[w.heap.size]?=some (bWp (.slice u.po n u.pc) S u nx d ao al)):=fun v hb=>by rw [←am];exact Zk V.out.b0 hb
 have bu:Hid (RowAt W (.slice u.po n u.pc) n (Ze S.pools)):=by rw [←am];exact Zf HO.out.p
 clear am;go_wp2_with fail
 go_loopw [6] (fun bo wr=>∃ (k j:Nat) (M:Option Addr) (vc:Nat),k≤n∧j≤k∧bo=.int .i64 k∧Hid (wr.heap[g]?=some (bWp (.slice M j vc) S m nx d E eu)∧((S.pools.take k).filter (ZZ nm)).length=j∧wr.ownsRow I.heap.size 82 4 (.slice M j vc) j (Ze ((S.pools.take k).filter (ZZ nm)))∧Chg (fun y=>y=g) I wr)) (fun bo _=>n - (intOf bo).toNat)
 case atStart=>exact ⟨0,0,none,0,Ye _,Yd _,rfl,N.out.2.1,by simp,by simp only [List.take_zero,List.filter_nil];exact Yq _ _ _ _,Chg.refl _ _⟩
 case round =>
  obtain ⟨k,j,M,vc,d9,az,rfl,A⟩:=hrel;have bj:g<I.heap.size:=(Ya.1 N.out.2.1).1;have d6:=A.out.2.2.2.size;have dc:=N.out.2.2.2;have ai:Hid (Below W.heap.size W wr):=N.out.2.2.1.trans (A.out.2.2.2.below N.out.2.2.1.size (fun x ap=>by omega));obtain ⟨X,O,a2,a3,a4,a5,Y,aa,ab,ac,ad⟩:=Zg (bp.out wr ai.out);by_cases dh:k<n
  ·obtain ⟨⟨Q,a7,a8,a9⟩,ap⟩:∃ x,S.pools[k]?=some x:=⟨_,Yb (by rw [HN.out];exact dh)⟩;have HX:=Za (ZoS (p:=ZZ nm) ap);obtain ⟨J,off,ak,d8,bd,be,d2,d3⟩:=ZJ (bu.out.nx ai.out) ap;have ch:Hid (J<W.heap.size):=by
    obtain ⟨dz,ed,bg,de,_⟩:=ZJ bu.out ap;rw [ak] at bg;simp only [Option.some.injEq,Addr.mk.injEq] at bg;show J<W.heap.size;rw [bg.1];exact de
   simp only at bd be d2 d3;rw [ak] at O;have eb:(k:Int)<(n:Int):=by omega
   have d1:(0:Int)≤(k:Int):=by omega
   clear ap;cases a1:(Q.toList == nm.toList) with
   | true =>
    have aq:Hid (((S.pools.take (k+1)).filter (ZZ nm))=((S.pools.take k).filter (ZZ nm))):=by show _=_;rw [HX.out,if_neg (by simp only [ZZ,a1];simp)]
    have di:(Q.toList != nm.toList)=false:=by rw [bne,a1];rfl
    clear HX ak;go_wp2_with fail
    go_roundw
    case rel=>exact ⟨k+1,j,M,vc,by omega,by omega,by go_num,by rw [aq.out];exact A.out⟩
    case measure=>simp [intOf];omega
   | false =>
    have aq:Hid (((S.pools.take (k+1)).filter (ZZ nm))=((S.pools.take k).filter (ZZ nm))++[⟨Q,a7,a8,a9⟩]):=by show _=_;rw [HX.out,if_pos (by simp only [ZZ,a1];simp)]
    have di:(Q.toList != nm.toList)=true:=by rw [bne,a1];rfl
    have cf:=Za ak;have HK:Hid (∀ w1:World,(∀ b,b<wr.heap.size→some b≠(Value.slice M j vc).ownBlock→w1.heap[b]?=wr.heap[b]?)→w1.cell? ⟨g,1,none⟩=some (.slice M j vc)∧w1.frozen? ⟨g,1,none⟩=false∧w1.cell? ⟨w.heap.size,1,none⟩=some (.slice (some ⟨J,off,none⟩) n u.pc)∧w1.cell? ⟨J,off+k*4,none⟩=some (.string Q)∧w1.cell? ⟨J,off+k*4+1,none⟩=some (.int .i64 a7)∧w1.cell? ⟨J,off+k*4+2,none⟩=some (.int .i64 a8)∧w1.cell? ⟨J,off+k*4+3,none⟩=some (.int .i64 a9)):=by
     intro w1 dj;have h:=rk A.out.2.2.2 A.out.2.2.1 dj;have e3:=(h g bj).trans A.out.1;have av:=(h w.heap.size (by omega)).trans (bp.out wr ai.out);have aw:w1.heap[J]?=wr.heap[J]?:=h J (by have:=ch.out;omega);rw [cf.out] at av;exact ⟨(Zg e3).2.1,(Zg e3).2.2.2.2.2.2.2.2.2.2 1,(Zg av).2.1,(Yn aw).trans bd,(Yn aw).trans be,(Yn aw).trans d2,(Yn aw).trans d3⟩
    clear HX X O a2 a3 a4 a5 Y aa ab ac ad bd be d2 d3 ak;obtain ⟨dp,dq,dr,ds,dt,du,dv⟩:=HK.out wr (fun _ _ _=>rfl);have a0:=A.out.2.2.1;have sA:∀ o,(wr.alloc o).cell? ⟨g,1,none⟩=some (.slice M j vc):=fun o=>(HK.out (wr.alloc o) (fun j az _=>Zt _ _ az)).1
    obtain ⟨dy,df,dk,dl,dm⟩:=info_parts ZhP;go_upto_region 7 with fail
    go_region_law
     ((refine step_append_lies _ (by rfl) (.tmp 34) (.tmp 42) 37 (by rfl) I.heap.size 82 dy _ 4 40 Tryz.underlying37 df dk dl dm (by rfl) (by decide) _ j (Ze ((S.pools.take k).filter (ZZ nm))) (by rfl) (a0.alloc _) ⟨wr.heap.size,0,none⟩ 1 1 [.string Q,.int .i64 a7,.int .i64 a8,.int .i64 a9] (by rfl) (by rfl) (Zar _ [.string Q,.int .i64 a7,.int .i64 a8,.int .i64 a9] _) (by intro u ca;simp at ca;rcases ca with rfl | rfl | rfl | rfl <;> rfl) (by omega) (by unfold maxLen;omega) (by omega) (by simp;omega) (wr.heap.size+1) (by simp) ?_;intro af ae a6 b9 ay dd ea;obtain ⟨dw,dx,_⟩:=HK.out a6 (fun j az ag=>(ay.block j (by simp;omega) ag).trans (Zt _ _ az))))
    all_goals
     have ck:Hid ((a6.setCell ⟨g,1,none⟩ (.slice (some ⟨af,0,none⟩) (j+1) ae)).heap[g]?=some (bWp (.slice (some ⟨af,0,none⟩) (j+1) ae) S m nx d E eu)∧((S.pools.take (k+1)).filter (ZZ nm)).length=j+1∧(a6.setCell ⟨g,1,none⟩ (.slice (some ⟨af,0,none⟩) (j+1) ae)).ownsRow I.heap.size 82 4 (.slice (some ⟨af,0,none⟩) (j+1) ae) (j+1) (Ze ((S.pools.take (k+1)).filter (ZZ nm)))∧Chg (fun y=>y=g) I (a6.setCell ⟨g,1,none⟩ (.slice (some ⟨af,0,none⟩) (j+1) ae))):=by
      refine ⟨ZhO ((Zd6 A.out.2.2.2.drew a0 ay g bj).trans A.out.1) _,by rw [aq.out];simp [A.out.2.1],?_,ZeN A.out.2.2.2.drew a0 ay⟩;rw [aq.out,Zbe];exact Yi b9 bj _
     clear b9 ay dd dw dx dp dq dr ds dt du dv sA a0;go_wp2_with fail
     go_roundw
     case rel=>exact ⟨k+1,j+1,some ⟨af,0,none⟩,ae,by omega,by omega,by go_num,ck.out⟩
     case measure=>simp [intOf];omega
  ·have b6:S.pools.take k=S.pools:=Yj (by rw [HN.out];omega);have L:=A.out;rw [b6] at L;obtain ⟨D,hD⟩:∃ D,{S with pools:=S.pools.filter (ZZ nm)}=D:=⟨_,rfl⟩;obtain ⟨v,bl⟩:∃ v:ZA,(⟨M,vc,m.so,m.sc,m.wo,m.wc,m.tqo,m.tc⟩:ZA)=v:=⟨_,rfl⟩;have U:Hid (Sml D d):=by
    rw [←hD];exact ⟨Ym (Yp _ _) ev.out.p,ev.out.s,ev.out.q,ev.out.t,ev.out.h⟩
   have bv:Hid (wr.heap[g]?=some (bW D v nx d E eu)):=by
    rw [←hD,←bl];show _=some (bWp (.slice M (S.pools.filter (ZZ nm)).length vc) S m nx d E eu);rw [L.2.1];exact L.1
   have co:Hid (OwnW w.heap.size wr D v d E eu):=by
    rw [←hD,←bl];have d7:=N.out.2.2.1.size;have ag:∀ {x:Value},(∀ et,x.ownBlock=some et→et<g)→x.ownBlock≠some g:=fun h e=>Nat.lt_irrefl _ (h g e)
    refine ⟨?_,Zr (Zbb aj.out.s L.2.2.2 (ag fun et h=>ar.out et (.inl h))) (by omega),Zr (Zbb aj.out.q L.2.2.2 (ag fun et h=>ar.out et (.inr (.inl h)))) (by omega),Zr (Zbb aj.out.t L.2.2.2 (ag fun et h=>ar.out et (.inr (.inr (.inl h))))) (by omega),Zr (Zbb aj.out.h L.2.2.2 (ag fun et h=>ar.out et (.inr (.inr (.inr h))))) (by omega)⟩;show wr.ownsRow w.heap.size 82 4 (.slice M (S.pools.filter (ZZ nm)).length vc) (S.pools.filter (ZZ nm)).length (Ze (S.pools.filter (ZZ nm)));rw [L.2.1];exact Zr L.2.2.1 (by omega)
   have bs:=Za (ZqX w.heap.size nm 0 (Int.le_refl _) (D.wts.length+1) D v nx d E eu wr (by have:=ai.out.size;omega) co.out U.out (Nat.lt_succ_self _));obtain ⟨T,hT⟩:∃ T,Zd9 D nm 0=T:=⟨_,rfl⟩;have cl:Hid (Sml T d):=by
    rw [←hT];exact ⟨U.out.p,U.out.s,Ym (Zik _ _ _ _) U.out.q,U.out.t,U.out.h⟩
   have cj:Hid (Calls Tryz.prog 95 #[wdA D v nx d E eu,.string nm,.int .i64 0] wr fun e w'=>GaveS w.heap.size wr w' T nx d e):=by rw [←hT];exact bs.out
   obtain ⟨R,hR⟩:∃ R,Zeb (Zd9 {S with pools:=S.pools.filter (ZZ nm)} nm 0) nm false 0=R:=⟨_,rfl⟩;have HR:Hid (Zeb T nm false 0=R):=by rw [←hR,←hT,←hD];exact rfl
   have cp:=Za hR;clear b6 L hD bl bs hT hR;obtain ⟨av,cr,e2,e3,e4,e5,cs,ct,cu,cv,cw⟩:=Zg bv.out;go_wp2_with fail
   refine cj.out.mono ?_;rintro e er ⟨cd,b7,hc5,rfl,cb,bi⟩;have cg:=Za (Zb ai.out bi);have bm:=Zk bv.out bi;obtain ⟨au,bw,bc⟩:=Ze8 cb rfl bm nx;have bt:=ZeZ bw;have br:Hid (Below W.heap.size W au):=bc.out.2.1 _ _ cg.out dc;clear cb bi X O a2 a3 a4 a5 Y aa ab ac ad av cr e2 e3 e4 e5 cs ct cu cv cw bw;obtain ⟨X,O,a2,a3,a4,a5,Y,aa,ab,ac,ad⟩:=Zg bm;clear bm;unfold stS ZK at bt;go_upto_region 9 with fail
   rw [bt.out];clear X O a2 a3 a4 a5 Y aa ab ac ad;have cq:Hid (Calls Tryz.prog 92 #[wdA T cd nx d b7 hc5,.string nm,.bool false,.int .i64 0] au fun e w'=>GaveS w.heap.size au w' R nx d e):=by
    rw [←HR.out];exact ZnL w.heap.size nm false 0 (T.srv.length+1) T cd nx d b7 hc5 au (by have:=br.out.size;omega) bc.out.2.2 cl.out (Nat.lt_succ_self _)
   obtain ⟨X,O,a2,a3,a4,a5,Y,aa,ab,ac,ad⟩:=Zg bc.out.1;go_wp2_with fail
   refine cq.out.mono ?_;rintro e es ⟨ce,b8,bz,rfl,cc,bx⟩;have bq:=Za (Zb br.out bx);have cm:=Za cc;clear cc bx X O a2 a3 a4 a5 Y aa ab ac ad;obtain ⟨ee,ef,eg,eh,ei,ej,ek,el,em,eo,ep⟩:=Zg (Zk V.out.b1 bq.out);go_wp2_with fail
   obtain ⟨FW,bf,HF⟩:=ZaL V.out bq.out cm.out (nx);unfold stS ZK at bf;rw [bf];obtain ⟨cx,cy,f2,cz,c0,c6,c7,c8,c9,db,d0⟩:=Zg HF.out.1;clear bf;refine bodyPost_ret (v:=wdA R ce nx d b8 bz) (by simp [results,Tryz.results93,go_sem,cx,cy,f2,cz,c0,c6,c7,c8,c9,db]) rfl ?_;rw [cp.out];exact ⟨ce,b8,bz,rfl,HF.out.2.2,HF.out.2.1⟩
structure Zui (w W:World) (o s:Obj):Prop where
 eq:W=((w.alloc o).alloc s).alloc zW
 b0:W.heap[w.heap.size]?=some o
 bs:W.heap[w.heap.size+1]?=some s
 b1:W.heap[w.heap.size+1+1]?=some zW
 bel:Below w.heap.size w W
theorem Zrg (w:World) (o s:Obj):∃ W,Hid (Zui w W o s):=
 ⟨_,rfl,((Zn _ _ (by simp;omega)).trans (Zn _ _ (by simp))).trans (Zd _ _ rfl),(Zn _ _ (by simp)).trans (Zd _ _ (by simp)),Zd _ _ (by simp),Zb (Zb (Zc _ _) (Zc _ _)) (Zc _ _)⟩
theorem ZgW {w W w1:World} {g:Nat} (A:W.heap[g]?=some zW) (E:Below w.heap.size w W) (I:w.heap.size≤g) (hb:Below W.heap.size W w1) {B:Nat} {S:Zh} {u:ZA} {h:Int×List Pl} {q:Option Addr} {m:Nat} (D:OwnW B w1 S u h q m) (nx:Int):∃ d,stS w1 g S u nx h q m=d∧Hid (d.heap[g]?=some (bW S u nx h q m)∧Below w.heap.size w d∧OwnW B d S u h q m):=
 ⟨_,rfl,ZcV (Zk A hb) _ _ _ _ _ _ _ _ _ _,Zdw (Zb E hb) I _ _ _ _ _ _ _ _ _ _,D.st (Zk A hb) _ _ _ _ _ _ _ _ _ _⟩
theorem Zei:∀ (l:List Pl) (i:Nat) (x:Pl),l[i]?=some x →
  (∀ c,(Ze l).set (i*4+1) (.int .i64 c)=Ze (l.set i ⟨x.nm,c,x.wt,x.fr⟩))∧(∀ c,(Ze l).set (i*4+2) (.int .i64 c)=Ze (l.set i ⟨x.nm,x.sz,c,x.fr⟩))∧(∀ c,(Ze l).set (i*4+3) (.int .i64 c)=Ze (l.set i ⟨x.nm,x.sz,x.wt,c⟩))
 | [],i,x,d=>by simp at d
 | y :: l,0,x,d=>by
  obtain rfl:y=x:=by simpa using d
  exact ⟨fun c=>rfl,fun c=>rfl,fun c=>rfl⟩
 | y :: l,i+1,x,d=>by
  obtain ⟨h,m,q⟩:=Zei l i x (by simpa using d);refine ⟨fun c=>?_,fun c=>?_,fun c=>?_⟩
  ·rw [show (i+1)*4+1=(i*4+1)+1+1+1+1 by omega];show _ :: _ :: _ :: _ :: (Ze l).set (i*4+1) (.int .i64 c)=_ :: _ :: _ :: _ :: Ze (l.set i _);rw [h]
  ·rw [show (i+1)*4+2=(i*4+2)+1+1+1+1 by omega];show _ :: _ :: _ :: _ :: (Ze l).set (i*4+2) (.int .i64 c)=_ :: _ :: _ :: _ :: Ze (l.set i _);rw [m]
  ·rw [show (i+1)*4+3=(i*4+3)+1+1+1+1 by omega];show _ :: _ :: _ :: _ :: (Ze l).set (i*4+3) (.int .i64 c)=_ :: _ :: _ :: _ :: Ze (l.set i _);rw [q]
theorem Zgq {B C Q i j:Nat} {w:World} {S D:Zh} {u:ZA} {E:Int×List Pl} {L:Option Addr} {I:Nat} {n:Int} {A:Pl} (d:OwnW C w S u E L I) (m:B≤C) (N:∀ g,(Value.slice u.po S.pools.length u.pc).ownBlock=some g→(Value.slice L E.2.length I).ownBlock≠some g) (J:u.po=some ⟨Q,0,none⟩) (O:(Ze S.pools).set (i*4+j) (.int .i64 n)=Ze (S.pools.set i A))
  (M:D={S with pools:=S.pools.set i A}):OwnW B (w.setCell ⟨Q,i*4+j,none⟩ (.int .i64 n)) D u E L I:=by
 subst M;have R:(Value.slice u.po S.pools.length u.pc).ownBlock=some Q:=by rw [J];rfl
 have h:=d.p;rw [J] at h;refine ⟨?_,Zr (Zab d.s (Zcu d.p d.s (by decide) R)) m,Zr (Zab d.q (Zcu d.p d.q (by decide) R)) m,Zr (Zab d.t (Zcu d.p d.t (by decide) R)) m,Zr (Zab d.h (N Q R)) m⟩;show (w.setCell ⟨Q,i*4+j,none⟩ (.int .i64 n)).ownsRow B 82 4 (.slice u.po (S.pools.set i A).length u.pc) (S.pools.set i A).length (Ze (S.pools.set i A));rw [←O,List.length_set,J];have:=(h.stored (i*4+j) (.int .i64 n)).1;exact Zr (by simpa [Nat.add_assoc] using this) m
theorem Zs5 (B:Nat) (S:Zh) (u:ZA) (nx:Int) (m:Int×List Pl) (cj:Option Addr) (ch:Nat) (k:Int) (nm:ByteArray) (n:Int) (w:World) (hO:OwnW B w S u m cj ch) (cs:Sml S m) (dc:S.pools.length≤100) (cz:ZdY k) (db:0≤n) (Y:k=1∨k=5∨k=6∨k=8→∃ i,S.pools.findIdx? (Zl nm)=some i) :
  Calls Tryz.prog 55 #[wdA S u nx m cj ch,stA k nm n] w fun e w'=>GaveS w.heap.size w w' (ZaR k nm n S) nx m e:=by
 obtain ⟨W,D⟩:=Zrg w (bW S u nx m cj ch) (bSt k nm n);have HO:=Za (hO.nx D.out.bel);have N:=Za cs;have bg:=Za Y;have HK:=Za cz;have hW:w.heap.size+3≤W.heap.size:=by rw [D.out.eq];simp
 have c8:=Za (Zl2 S u nx m cj ch W HO.out.rows cs);have c7:=Za (fun v (hb:Below W.heap.size W v)=>rAt S.bud u.po _ u.pc nm S.pools v (Zf (HO.out.nx hb).p) rfl (by unfold maxLen;omega));clear hO cs Y cz;unfold wdA stA;go_enter Tryz.func55,Tryz.ntmps55
 go_wp2_with fail
 rw [←D.out.eq];refine c8.out.mono ?_;rintro e w1 ⟨de,J,E,rfl,c0,cp,cy⟩;obtain ⟨U,hU,HU⟩:=ZbY c0 nx;obtain ⟨g,ci⟩:∃ g,w1.heap.size=g:=⟨_,rfl⟩;have cc:=Za (Zb cp HU.out.2.2.1);have ce:W.heap.size≤g:=by rw [←ci];exact cp.size
 have cb:=Za cy;rw [ci] at HU;have HG:=Za ci;clear hU c0 cp cy ci;go_upto_region 2 with fail
 rw [←HU.out.1,HG.out];obtain ⟨a0,a1,a2,a3,a4,a5,a6,a7,a8,a9,az⟩:=Zg (Zk D.out.b0 cc.out);obtain ⟨aa,ab,s2,sz⟩:=Zaq (Zk D.out.bs cc.out);go_wp2_with fail
 refine (c7.out U cc.out).mono ?_;rintro e ac ⟨rfl,cf⟩;have bf:=Za (Zb cc.out cf);have dl:=Za (Zk HU.out.2.1 cf);have df:=Za (HU.out.2.2.2.nx cf);clear a0 a1 a2 a3 a4 a5 a6 a7 a8 a9 az aa ab s2 sz cf;obtain ⟨aa,ab,s2,sz⟩:=Zaq (Zk D.out.bs bf.out);obtain ⟨ae,af,ag,ah,ai,aj,ak,al,am,ao,ap⟩:=Zg (Zk D.out.b1 bf.out);obtain ⟨bh,dm,e2,e3,e4,e5,bi,bj,bk,bl,bm⟩:=Zg dl.out;obtain ⟨bt,bu⟩:=HK.out;clear HK;rcases (by omega:k=1∨k=2∨k=3∨k=4∨k=5∨k=6∨k=7∨k=8) with rfl | rfl | rfl | rfl | rfl | rfl | rfl | rfl
 ·obtain ⟨i,Y⟩:=bg.out (by simp);clear bg bt bu;obtain ⟨y,X,_⟩:=ZbH Y;have HI:=Za Y;have HY:=Za X;rw [Y];unfold Zay;have cr:(i:Int)<(S.pools.length:Int):=by
   have:=(Yc.1 X).1;omega
  have co:(0:Int)≤(i:Int):=by omega
  obtain ⟨O,bw,I,cq,b7,b8,b9,ca⟩:=ZJ (Zf df.out.p) X;have bz:bw=0:=by
   have h:=df.out.p;rw [I] at h;exact ZdB h
  subst bz;simp only [Nat.zero_add] at b7 b8 b9 ca;have cm:=Za I;have cv:∀ a,ac.frozen? ⟨O,a,none⟩=false:=by
   have h:=df.out.p;rw [I] at h;exact fun a=>h.frozenAt a
  rw [I] at dm;obtain ⟨dd,A⟩:∃ dd,dd=ac.setCell ⟨O,i*4+1,none⟩ (.int .i64 n):=⟨_,rfl⟩;obtain ⟨d,V⟩:∃ d,Z1 S (Zcs 1 nm n S.bud S.pools)=d:=⟨_,rfl⟩;have HD:=Za V;have L:d={S with pools:=S.pools.set i ⟨y.nm,n,y.wt,y.fr⟩}:=by
   rw [←V];unfold Z1 Zcs;rw [if_neg (by decide),if_neg (by decide),if_neg (by decide),Y];simp only;rw [ZcZ _ X];rfl
  have bp:Hid (Sml d m):=by
   rw [L];refine ⟨?_,N.out.s,N.out.q,N.out.t,N.out.h⟩;show (S.pools.set i _).length≤1000;rw [List.length_set];exact N.out.p
  have bx:W.heap.size≤O:=(df.out.p.lt O (by rw [I];rfl)).1;have dh:Hid (Below W.heap.size W dd):=by rw [A];exact bf.out.setCell (by show W.heap.size≤O;exact bx) _
  have be:Hid (OwnW w.heap.size dd d de m J E):=by
   rw [A];exact Zgq df.out (by omega) cb.out I ((Zei S.pools i y X).1 n) L
  have ad:Hid (dd=ac.setCell ⟨O,i*4+1,none⟩ (.int .i64 n)∧dd.heap[g]?=some (bW d de nx m J E)):=by
   refine ⟨A,?_⟩;have b6:g≠O:=fun e=>Zaf df.out.p dl.out (by decide) (by rw [I,e];rfl)
   rw [A,L];show _=some (bWp (.slice de.po (S.pools.set i _).length de.pc) S de nx m J E);rw [List.length_set];exact (Yf _ _ _ _ b6).trans dl.out
  obtain ⟨R,hR⟩:∃ R,ZaR 1 nm n S=R:=⟨_,rfl⟩;have bo:Hid (Calls Tryz.prog 92 #[wdA d de nx m J E,.string nm,.bool false,.int .i64 n] dd fun e w'=>GaveS w.heap.size dd w' R nx m e):=by
   have e:Zeb d nm false n=R:=by rw [←hR,←HD.out];rfl
   rw [←e];exact ZnL w.heap.size nm false n (d.srv.length+1) d de nx m J E dd (by have:=dh.out.size;omega) be.out bp.out (Nat.lt_succ_self _)
  have br:=Za hR;clear hR;clear A V L Y X I;go_upto_region 6 with fail
  rw [←ad.out.1];clear bh dm e2 e3 e4 e5 bi bj bk bl bm ae af ag ah ai aj ak al am ao ap aa ab s2 sz;obtain ⟨a0,a1,a2,a3,a4,a5,a6,a7,a8,a9,az⟩:=Zg ad.out.2;obtain ⟨aa,ab,s2,sz⟩:=Zaq (Zk D.out.bs dh.out);go_wp2_with fail
  refine bo.out.mono ?_;rintro e ck ⟨bd,dq,hc5,rfl,bc,dp⟩;have dk:=Za (Zb dh.out dp);have bq:=Za bc;clear bc dp a0 a1 a2 a3 a4 a5 a6 a7 a8 a9 az aa ab s2 sz;obtain ⟨ae,af,ag,ah,ai,aj,ak,al,am,ao,ap⟩:=Zg (Zk D.out.b1 dk.out);go_wp2_with fail
  obtain ⟨FW,Q,M⟩:=ZgW D.out.b1 D.out.bel (by omega) dk.out bq.out (nx);unfold stS ZK at Q;rw [Q];obtain ⟨aq,ar,f2,au,av,aw,ax,ay,di,dj,bv⟩:=Zg M.out.1;clear Q;refine bodyPost_ret (v:=wdA R bd nx m dq hc5) (by simp [results,Tryz.results55,go_sem,aq,ar,f2,au,av,aw,ax,ay,di,dj]) rfl ?_;rw [br.out];exact ⟨bd,dq,hc5,rfl,M.out.2.2,M.out.2.1⟩
 ·clear bg bt bu;obtain ⟨R,hR⟩:∃ R,ZaR 2 nm n S=R:=⟨_,rfl⟩;have bo:Hid (Calls Tryz.prog 93 #[wdA S de nx m J E,.string nm] ac fun e w'=>GaveS ac.heap.size ac w' R nx m e):=by
   rw [←hR];exact ZpZ _ S de nx m J E nm ac df.out N.out
  have br:=Za hR;clear hR;generalize Zay (List.findIdx? (Zl nm) S.pools)=ip;go_wp2_with fail
  refine bo.out.mono ?_;rintro e ck ⟨bd,dq,hc5,rfl,bc,dp⟩;have dk:=Za (Zb bf.out dp);have bq:=Za (bc.mono (show w.heap.size≤ac.heap.size by have:=bf.out.size;omega));clear bc dp bh dm e2 e3 e4 e5 bi bj bk bl bm ae af ag ah ai aj ak al am ao ap aa ab s2 sz;obtain ⟨ae,af,ag,ah,ai,aj,ak,al,am,ao,ap⟩:=Zg (Zk D.out.b1 dk.out);go_wp2_with fail
  obtain ⟨FW,Q,M⟩:=ZgW D.out.b1 D.out.bel (by omega) dk.out bq.out (nx);unfold stS ZK at Q;rw [Q];obtain ⟨aq,ar,f2,au,av,aw,ax,ay,di,dj,bv⟩:=Zg M.out.1;clear Q;refine bodyPost_ret (v:=wdA R bd nx m dq hc5) (by simp [results,Tryz.results55,go_sem,aq,ar,f2,au,av,aw,ax,ay,di,dj]) rfl ?_;rw [br.out];exact ⟨bd,dq,hc5,rfl,M.out.2.2,M.out.2.1⟩
 ·clear bg bt bu;obtain ⟨dd,A⟩:∃ dd,dd=ac.setCell ⟨g,0,none⟩ (.int .i64 n):=⟨_,rfl⟩;obtain ⟨d,V⟩:∃ d,Z1 S (Zcs 3 nm n S.bud S.pools)=d:=⟨_,rfl⟩;have HD:=Za V;have L:d={S with bud:=n}:=by
   rw [←V];unfold Z1 Zcs;rw [if_pos (by decide)]
  have bp:Hid (Sml d m):=by
   rw [L];exact ⟨N.out.p,N.out.s,N.out.q,N.out.t,N.out.h⟩
  have dh:Hid (Below W.heap.size W dd):=by rw [A];exact bf.out.setCell (by show W.heap.size≤g;exact ce) _
  have be:Hid (OwnW w.heap.size dd d de m J E):=by
   rw [A,L];have h:=(df.out.mono (show w.heap.size≤W.heap.size by omega)).st1 (a:=0) dl.out (.int .i64 n);exact ⟨h.p,h.s,h.q,h.t,h.h⟩
  have ad:Hid (dd=ac.setCell ⟨g,0,none⟩ (.int .i64 n)∧dd.heap[g]?=some (bW d de nx m J E)):=by
   refine ⟨A,?_⟩;rw [A,L];exact ZeO dl.out _
  obtain ⟨R,hR⟩:∃ R,ZaR 3 nm n S=R:=⟨_,rfl⟩;have bo:Hid (Calls Tryz.prog 92 #[wdA d de nx m J E,.string ⟨#[]⟩,.bool true,.int .i64 n] dd fun e w'=>GaveS w.heap.size dd w' R nx m e):=by
   have e:Zeb d ⟨#[]⟩ true n=R:=by rw [←hR,←HD.out];rfl
   rw [←e];exact ZnL w.heap.size ⟨#[]⟩ true n (d.srv.length+1) d de nx m J E dd (by have:=dh.out.size;omega) be.out bp.out (Nat.lt_succ_self _)
  have br:=Za hR;clear hR;clear A V L;generalize Zay (List.findIdx? (Zl nm) S.pools)=ip;go_upto_region 11 with fail
  rw [←ad.out.1];clear bh dm e2 e3 e4 e5 bi bj bk bl bm ae af ag ah ai aj ak al am ao ap aa ab s2 sz;obtain ⟨a0,a1,a2,a3,a4,a5,a6,a7,a8,a9,az⟩:=Zg ad.out.2;obtain ⟨aa,ab,s2,sz⟩:=Zaq (Zk D.out.bs dh.out);go_wp2_with fail
  refine bo.out.mono ?_;rintro e ck ⟨bd,dq,hc5,rfl,bc,dp⟩;have dk:=Za (Zb dh.out dp);have bq:=Za bc;clear bc dp a0 a1 a2 a3 a4 a5 a6 a7 a8 a9 az aa ab s2 sz;obtain ⟨ae,af,ag,ah,ai,aj,ak,al,am,ao,ap⟩:=Zg (Zk D.out.b1 dk.out);go_wp2_with fail
  obtain ⟨FW,Q,M⟩:=ZgW D.out.b1 D.out.bel (by omega) dk.out bq.out (nx);unfold stS ZK at Q;rw [Q];obtain ⟨aq,ar,f2,au,av,aw,ax,ay,di,dj,bv⟩:=Zg M.out.1;clear Q;refine bodyPost_ret (v:=wdA R bd nx m dq hc5) (by simp [results,Tryz.results55,go_sem,aq,ar,f2,au,av,aw,ax,ay,di,dj]) rfl ?_;rw [br.out];exact ⟨bd,dq,hc5,rfl,M.out.2.2,M.out.2.1⟩
 ·clear bg bt bu;have HJ:=Za (ZiR S.bud ⟨nm,0,0,0⟩ de.po de.pc _ S.pools ac (Zf df.out.p) rfl (by omega));generalize Zay (List.findIdx? (Zl nm) S.pools)=ip;go_wp2_with fail
  refine HJ.out.mono ?_;rintro e cx ⟨cw,vc,rfl,c6,cg⟩;have cl:=Za (Zb bf.out cg);have cd:=Za (Zk dl.out cg);obtain ⟨q,ct⟩:∃ q,(ZH ⟨nm,0,0,0⟩ S.pools).length=q:=⟨_,rfl⟩;obtain ⟨dd,A⟩:∃ dd,dd=(cx.setCell ⟨g,0,none⟩ (.int .i64 S.bud)).setCell ⟨g,1,none⟩ (.slice cw q vc):=⟨_,rfl⟩;obtain ⟨d,V⟩:∃ d,Z1 S (Zcs 4 nm n S.bud S.pools)=d:=⟨_,rfl⟩;obtain ⟨v,cu⟩:∃ v:ZA,(⟨cw,vc,de.so,de.sc,de.wo,de.wc,de.tqo,de.tc⟩:ZA)=v:=⟨_,rfl⟩;have HD:=Za V;have L:d={S with pools:=ZH ⟨nm,0,0,0⟩ S.pools}:=by
   rw [←V];unfold Z1 Zcs;rw [if_neg (by decide),if_neg (by decide),if_pos rfl]
  have dh:Hid (Below W.heap.size W dd):=by rw [A];exact (cl.out.setCell (by show W.heap.size≤g;exact ce) _).setCell (by show W.heap.size≤g;exact ce) _
  have be:Hid (OwnW w.heap.size dd d v m J E):=by
   have c9:OwnW w.heap.size cx d v m J E:=by
    rw [L,←cu];have h:=(df.out.nx cg).mono (show w.heap.size≤W.heap.size by omega);exact ⟨Zr c6 (by have:=bf.out.size;omega),h.s,h.q,h.t,h.h⟩
   rw [A];exact (c9.st1 cd.out _).st1 (ZeO cd.out _) _
  have ad:Hid (dd=(cx.setCell ⟨g,0,none⟩ (.int .i64 S.bud)).setCell ⟨g,1,none⟩ (.slice cw q vc)∧dd.heap[g]?=some (bW d v nx m J E)):=by
   refine ⟨A,?_⟩;rw [A,L,←cu,←ct];exact ZhO (ZeO cd.out _) _
  rw [ct];have HR:Hid (ZaR 4 nm n S=d):=by rw [←HD.out];exact rfl
  clear A V L cu ct c6 cg bh dm e2 e3 e4 e5 bi bj bk bl bm ae af ag ah ai aj ak al am ao ap aa ab s2 sz;obtain ⟨bh,dm,e2,e3,e4,e5,bi,bj,bk,bl,bm⟩:=Zg cd.out;obtain ⟨aa,ab,s2,sz⟩:=Zaq (Zk D.out.bs cl.out);obtain ⟨ae,af,ag,ah,ai,aj,ak,al,am,ao,ap⟩:=Zg (Zk D.out.b1 cl.out);go_upto_region 24 with fail
  rw [←ad.out.1];clear bh dm e2 e3 e4 e5 bi bj bk bl bm ae af ag ah ai aj ak al am ao ap aa ab s2 sz;obtain ⟨a0,a1,a2,a3,a4,a5,a6,a7,a8,a9,az⟩:=Zg ad.out.2;obtain ⟨aa,ab,s2,sz⟩:=Zaq (Zk D.out.bs dh.out);obtain ⟨ae,af,ag,ah,ai,aj,ak,al,am,ao,ap⟩:=Zg (Zk D.out.b1 dh.out);go_wp2_with fail
  obtain ⟨FW,Q,M⟩:=ZgW D.out.b1 D.out.bel (by omega) dh.out be.out (nx);unfold stS ZK at Q;rw [Q];obtain ⟨aq,ar,f2,au,av,aw,ax,ay,di,dj,bv⟩:=Zg M.out.1;clear Q;refine bodyPost_ret (v:=wdA d v nx m J E) (by simp [results,Tryz.results55,go_sem,aq,ar,f2,au,av,aw,ax,ay,di,dj]) rfl ?_;rw [HR.out];exact ⟨v,J,E,rfl,M.out.2.2,M.out.2.1⟩
 ·obtain ⟨i,Y⟩:=bg.out (by simp);clear bg bt bu;obtain ⟨y,X,_⟩:=ZbH Y;have HI:=Za Y;have HY:=Za X;rw [Y];unfold Zay;have cr:(i:Int)<(S.pools.length:Int):=by
   have:=(Yc.1 X).1;omega
  have co:(0:Int)≤(i:Int):=by omega
  obtain ⟨O,bw,I,cq,b7,b8,b9,ca⟩:=ZJ (Zf df.out.p) X;have bz:bw=0:=by
   have h:=df.out.p;rw [I] at h;exact ZdB h
  subst bz;simp only [Nat.zero_add] at b7 b8 b9 ca;have cm:=Za I;have cv:∀ a,ac.frozen? ⟨O,a,none⟩=false:=by
   have h:=df.out.p;rw [I] at h;exact fun a=>h.frozenAt a
  rw [I] at dm;obtain ⟨dd,A⟩:∃ dd,dd=ac.setCell ⟨O,i*4+3,none⟩ (.int .i64 n):=⟨_,rfl⟩;obtain ⟨d,V⟩:∃ d,Z1 S (Zcs 5 nm n S.bud S.pools)=d:=⟨_,rfl⟩;have HD:=Za V;have L:d={S with pools:=S.pools.set i ⟨y.nm,y.sz,y.wt,n⟩}:=by
   rw [←V];unfold Z1 Zcs;rw [if_neg (by decide),if_neg (by decide),if_neg (by decide),Y];simp only;rw [ZcZ _ X];rfl
  have bp:Hid (Sml d m):=by
   rw [L];refine ⟨?_,N.out.s,N.out.q,N.out.t,N.out.h⟩;show (S.pools.set i _).length≤1000;rw [List.length_set];exact N.out.p
  have bx:W.heap.size≤O:=(df.out.p.lt O (by rw [I];rfl)).1;have dh:Hid (Below W.heap.size W dd):=by rw [A];exact bf.out.setCell (by show W.heap.size≤O;exact bx) _
  have be:Hid (OwnW w.heap.size dd d de m J E):=by
   rw [A];exact Zgq df.out (by omega) cb.out I ((Zei S.pools i y X).2.2 n) L
  have ad:Hid (dd=ac.setCell ⟨O,i*4+3,none⟩ (.int .i64 n)∧dd.heap[g]?=some (bW d de nx m J E)):=by
   refine ⟨A,?_⟩;have b6:g≠O:=fun e=>Zaf df.out.p dl.out (by decide) (by rw [I,e];rfl)
   rw [A,L];show _=some (bWp (.slice de.po (S.pools.set i _).length de.pc) S de nx m J E);rw [List.length_set];exact (Yf _ _ _ _ b6).trans dl.out
  obtain ⟨R,hR⟩:∃ R,ZaR 5 nm n S=R:=⟨_,rfl⟩;have bo:Hid (Calls Tryz.prog 94 #[wdA d de nx m J E,.string nm,.int .i64 n] dd fun e w'=>GaveS w.heap.size dd w' R nx m e):=by
   have e:Zjv d nm n=R:=by rw [←hR,←HD.out];rfl
   rw [←e];exact Ztw w.heap.size nm n (d.srv.length+1) d de nx m J E dd (by have:=dh.out.size;omega) be.out bp.out (Nat.lt_succ_self _)
  have br:=Za hR;clear hR;clear A V L Y X I;go_upto_region 16 with fail
  rw [←ad.out.1];clear bh dm e2 e3 e4 e5 bi bj bk bl bm ae af ag ah ai aj ak al am ao ap aa ab s2 sz;obtain ⟨a0,a1,a2,a3,a4,a5,a6,a7,a8,a9,az⟩:=Zg ad.out.2;obtain ⟨aa,ab,s2,sz⟩:=Zaq (Zk D.out.bs dh.out);go_wp2_with fail
  refine bo.out.mono ?_;rintro e ck ⟨bd,dq,hc5,rfl,bc,dp⟩;have dk:=Za (Zb dh.out dp);have bq:=Za bc;clear bc dp a0 a1 a2 a3 a4 a5 a6 a7 a8 a9 az aa ab s2 sz;obtain ⟨ae,af,ag,ah,ai,aj,ak,al,am,ao,ap⟩:=Zg (Zk D.out.b1 dk.out);go_wp2_with fail
  obtain ⟨FW,Q,M⟩:=ZgW D.out.b1 D.out.bel (by omega) dk.out bq.out (nx);unfold stS ZK at Q;rw [Q];obtain ⟨aq,ar,f2,au,av,aw,ax,ay,di,dj,bv⟩:=Zg M.out.1;clear Q;refine bodyPost_ret (v:=wdA R bd nx m dq hc5) (by simp [results,Tryz.results55,go_sem,aq,ar,f2,au,av,aw,ax,ay,di,dj]) rfl ?_;rw [br.out];exact ⟨bd,dq,hc5,rfl,M.out.2.2,M.out.2.1⟩
 ·obtain ⟨i,Y⟩:=bg.out (by simp);clear bg bt bu;obtain ⟨y,X,_⟩:=ZbH Y;have HI:=Za Y;have HY:=Za X;rw [Y];unfold Zay;have cr:(i:Int)<(S.pools.length:Int):=by
   have:=(Yc.1 X).1;omega
  have co:(0:Int)≤(i:Int):=by omega
  obtain ⟨O,bw,I,cq,b7,b8,b9,ca⟩:=ZJ (Zf df.out.p) X;have bz:bw=0:=by
   have h:=df.out.p;rw [I] at h;exact ZdB h
  subst bz;simp only [Nat.zero_add] at b7 b8 b9 ca;have cm:=Za I;have cv:∀ a,ac.frozen? ⟨O,a,none⟩=false:=by
   have h:=df.out.p;rw [I] at h;exact fun a=>h.frozenAt a
  rw [I] at dm;obtain ⟨dd,A⟩:∃ dd,dd=ac.setCell ⟨O,i*4+2,none⟩ (.int .i64 n):=⟨_,rfl⟩;obtain ⟨d,V⟩:∃ d,Z1 S (Zcs 6 nm n S.bud S.pools)=d:=⟨_,rfl⟩;have HD:=Za V;have L:d={S with pools:=S.pools.set i ⟨y.nm,y.sz,n,y.fr⟩}:=by
   rw [←V];unfold Z1 Zcs;rw [if_neg (by decide),if_neg (by decide),if_neg (by decide),Y];simp only;rw [ZcZ _ X];rfl
  have bp:Hid (Sml d m):=by
   rw [L];refine ⟨?_,N.out.s,N.out.q,N.out.t,N.out.h⟩;show (S.pools.set i _).length≤1000;rw [List.length_set];exact N.out.p
  have bx:W.heap.size≤O:=(df.out.p.lt O (by rw [I];rfl)).1;have dh:Hid (Below W.heap.size W dd):=by rw [A];exact bf.out.setCell (by show W.heap.size≤O;exact bx) _
  have be:Hid (OwnW w.heap.size dd d de m J E):=by
   rw [A];exact Zgq df.out (by omega) cb.out I ((Zei S.pools i y X).2.1 n) L
  have ad:Hid (dd=ac.setCell ⟨O,i*4+2,none⟩ (.int .i64 n)∧dd.heap[g]?=some (bW d de nx m J E)):=by
   refine ⟨A,?_⟩;have b6:g≠O:=fun e=>Zaf df.out.p dl.out (by decide) (by rw [I,e];rfl)
   rw [A,L];show _=some (bWp (.slice de.po (S.pools.set i _).length de.pc) S de nx m J E);rw [List.length_set];exact (Yf _ _ _ _ b6).trans dl.out
  obtain ⟨R,hR⟩:∃ R,ZaR 6 nm n S=R:=⟨_,rfl⟩;have bo:Hid (Calls Tryz.prog 95 #[wdA d de nx m J E,.string nm,.int .i64 n] dd fun e w'=>GaveS w.heap.size dd w' R nx m e):=by
   have e:Zd9 d nm n=R:=by rw [←hR,←HD.out];rfl
   rw [←e];exact ZqX w.heap.size nm n db (d.wts.length+1) d de nx m J E dd (by have:=dh.out.size;omega) be.out bp.out (Nat.lt_succ_self _)
  have br:=Za hR;clear hR;clear A V L Y X I;go_upto_region 19 with fail
  rw [←ad.out.1];clear bh dm e2 e3 e4 e5 bi bj bk bl bm ae af ag ah ai aj ak al am ao ap aa ab s2 sz;obtain ⟨a0,a1,a2,a3,a4,a5,a6,a7,a8,a9,az⟩:=Zg ad.out.2;obtain ⟨aa,ab,s2,sz⟩:=Zaq (Zk D.out.bs dh.out);go_wp2_with fail
  refine bo.out.mono ?_;rintro e ck ⟨bd,dq,hc5,rfl,bc,dp⟩;have dk:=Za (Zb dh.out dp);have bq:=Za bc;clear bc dp a0 a1 a2 a3 a4 a5 a6 a7 a8 a9 az aa ab s2 sz;obtain ⟨ae,af,ag,ah,ai,aj,ak,al,am,ao,ap⟩:=Zg (Zk D.out.b1 dk.out);go_wp2_with fail
  obtain ⟨FW,Q,M⟩:=ZgW D.out.b1 D.out.bel (by omega) dk.out bq.out (nx);unfold stS ZK at Q;rw [Q];obtain ⟨aq,ar,f2,au,av,aw,ax,ay,di,dj,bv⟩:=Zg M.out.1;clear Q;refine bodyPost_ret (v:=wdA R bd nx m dq hc5) (by simp [results,Tryz.results55,go_sem,aq,ar,f2,au,av,aw,ax,ay,di,dj]) rfl ?_;rw [br.out];exact ⟨bd,dq,hc5,rfl,M.out.2.2,M.out.2.1⟩
 ·clear bg bt bu;obtain ⟨dd,A⟩:∃ dd,dd=ac.setCell ⟨g,0,none⟩ (.int .i64 n):=⟨_,rfl⟩;obtain ⟨d,V⟩:∃ d,Z1 S (Zcs 7 nm n S.bud S.pools)=d:=⟨_,rfl⟩;have HD:=Za V;have L:d={S with bud:=n}:=by
   rw [←V];unfold Z1 Zcs;rw [if_pos (by decide)]
  have bp:Hid (Sml d m):=by
   rw [L];exact ⟨N.out.p,N.out.s,N.out.q,N.out.t,N.out.h⟩
  have dh:Hid (Below W.heap.size W dd):=by rw [A];exact bf.out.setCell (by show W.heap.size≤g;exact ce) _
  have be:Hid (OwnW w.heap.size dd d de m J E):=by
   rw [A,L];have h:=(df.out.mono (show w.heap.size≤W.heap.size by omega)).st1 (a:=0) dl.out (.int .i64 n);exact ⟨h.p,h.s,h.q,h.t,h.h⟩
  have ad:Hid (dd=ac.setCell ⟨g,0,none⟩ (.int .i64 n)∧dd.heap[g]?=some (bW d de nx m J E)):=by
   refine ⟨A,?_⟩;rw [A,L];exact ZeO dl.out _
  have HR:Hid (ZaR 7 nm n S=d):=by rw [←HD.out];exact rfl
  clear A V L;generalize Zay (List.findIdx? (Zl nm) S.pools)=ip;go_upto_region 24 with fail
  rw [←ad.out.1];clear bh dm e2 e3 e4 e5 bi bj bk bl bm ae af ag ah ai aj ak al am ao ap aa ab s2 sz;obtain ⟨a0,a1,a2,a3,a4,a5,a6,a7,a8,a9,az⟩:=Zg ad.out.2;obtain ⟨aa,ab,s2,sz⟩:=Zaq (Zk D.out.bs dh.out);obtain ⟨ae,af,ag,ah,ai,aj,ak,al,am,ao,ap⟩:=Zg (Zk D.out.b1 dh.out);go_wp2_with fail
  obtain ⟨FW,Q,M⟩:=ZgW D.out.b1 D.out.bel (by omega) dh.out be.out (nx);unfold stS ZK at Q;rw [Q];obtain ⟨aq,ar,f2,au,av,aw,ax,ay,di,dj,bv⟩:=Zg M.out.1;clear Q;refine bodyPost_ret (v:=wdA d de nx m J E) (by simp [results,Tryz.results55,go_sem,aq,ar,f2,au,av,aw,ax,ay,di,dj]) rfl ?_;rw [HR.out];exact ⟨de,J,E,rfl,M.out.2.2,M.out.2.1⟩
 ·obtain ⟨i,Y⟩:=bg.out (by simp);clear bg bt bu;obtain ⟨y,X,_⟩:=ZbH Y;have HI:=Za Y;have HY:=Za X;rw [Y];unfold Zay;have cr:(i:Int)<(S.pools.length:Int):=by
   have:=(Yc.1 X).1;omega
  have co:(0:Int)≤(i:Int):=by omega
  obtain ⟨O,bw,I,cq,b7,b8,b9,ca⟩:=ZJ (Zf df.out.p) X;have bz:bw=0:=by
   have h:=df.out.p;rw [I] at h;exact ZdB h
  subst bz;simp only [Nat.zero_add] at b7 b8 b9 ca;have cm:=Za I;have cv:∀ a,ac.frozen? ⟨O,a,none⟩=false:=by
   have h:=df.out.p;rw [I] at h;exact fun a=>h.frozenAt a
  rw [I] at dm;obtain ⟨dd,A⟩:∃ dd,dd=ac.setCell ⟨O,i*4+1,none⟩ (.int .i64 n):=⟨_,rfl⟩;obtain ⟨d,V⟩:∃ d,Z1 S (Zcs 8 nm n S.bud S.pools)=d:=⟨_,rfl⟩;have HD:=Za V;have L:d={S with pools:=S.pools.set i ⟨y.nm,n,y.wt,y.fr⟩}:=by
   rw [←V];unfold Z1 Zcs;rw [if_neg (by decide),if_neg (by decide),if_neg (by decide),Y];simp only;rw [ZcZ _ X];rfl
  have bp:Hid (Sml d m):=by
   rw [L];refine ⟨?_,N.out.s,N.out.q,N.out.t,N.out.h⟩;show (S.pools.set i _).length≤1000;rw [List.length_set];exact N.out.p
  have bx:W.heap.size≤O:=(df.out.p.lt O (by rw [I];rfl)).1;have dh:Hid (Below W.heap.size W dd):=by rw [A];exact bf.out.setCell (by show W.heap.size≤O;exact bx) _
  have be:Hid (OwnW w.heap.size dd d de m J E):=by
   rw [A];exact Zgq df.out (by omega) cb.out I ((Zei S.pools i y X).1 n) L
  have ad:Hid (dd=ac.setCell ⟨O,i*4+1,none⟩ (.int .i64 n)∧dd.heap[g]?=some (bW d de nx m J E)):=by
   refine ⟨A,?_⟩;have b6:g≠O:=fun e=>Zaf df.out.p dl.out (by decide) (by rw [I,e];rfl)
   rw [A,L];show _=some (bWp (.slice de.po (S.pools.set i _).length de.pc) S de nx m J E);rw [List.length_set];exact (Yf _ _ _ _ b6).trans dl.out
  have HR:Hid (ZaR 8 nm n S=d):=by rw [←HD.out];exact rfl
  clear A V L Y X I;go_upto_region 24 with fail
  rw [←ad.out.1];clear bh dm e2 e3 e4 e5 bi bj bk bl bm ae af ag ah ai aj ak al am ao ap aa ab s2 sz;obtain ⟨a0,a1,a2,a3,a4,a5,a6,a7,a8,a9,az⟩:=Zg ad.out.2;obtain ⟨aa,ab,s2,sz⟩:=Zaq (Zk D.out.bs dh.out);obtain ⟨ae,af,ag,ah,ai,aj,ak,al,am,ao,ap⟩:=Zg (Zk D.out.b1 dh.out);go_wp2_with fail
  obtain ⟨FW,Q,M⟩:=ZgW D.out.b1 D.out.bel (by omega) dh.out be.out (nx);unfold stS ZK at Q;rw [Q];obtain ⟨aq,ar,f2,au,av,aw,ax,ay,di,dj,bv⟩:=Zg M.out.1;clear Q;refine bodyPost_ret (v:=wdA d de nx m J E) (by simp [results,Tryz.results55,go_sem,aq,ar,f2,au,av,aw,ax,ay,di,dj]) rfl ?_;rw [HR.out];exact ⟨de,J,E,rfl,M.out.2.2,M.out.2.1⟩
structure ZtU (w W:World) (o s:Obj):Prop where
 eq:W=(w.alloc o).alloc s
 b0:W.heap[w.heap.size]?=some o
 bs:W.heap[w.heap.size+1]?=some s
 bel:Below w.heap.size w W
theorem ZpJ (w:World) (o s:Obj):∃ W,Hid (ZtU w W o s):=
 ⟨_,rfl,(Zn _ _ (by simp)).trans (Zd _ _ rfl),Zd _ _ (by simp),Zb (Zc _ _) (Zc _ _)⟩
theorem Zr3 (E:ByteArray) (d:Int) (ss:List Srv):decide (Zay (ss.findIdx? (Zcy E d false))<0)=!ss.any (Zcg E d):=by
 have m:Zcy E d false=Zcg E d:=by
  funext x
  unfold Zcy Zcg Zj;simp
 rw [m];cases h:ss.findIdx? (Zcg E d) with
 | none =>
  rw [List.findIdx?_eq_none_iff] at h;have:ss.any (Zcg E d)=false:=by
   rw [List.any_eq_false];exact fun x q=>by rw [h x q];simp
  rw [this];rfl
 | some k =>
  obtain ⟨y,A,D⟩:=ZbH h;have:ss.any (Zcg E d)=true:=List.any_eq_true.2 ⟨y,Yo A,List.find?_some D⟩;rw [this];unfold Zay;simp
theorem Ztk (S:Zh) (u:ZA) (nx:Int) (m:Int×List Pl) (A:Option Addr) (q:Nat) (k:Int) (nm:ByteArray) (n:Int) (w:World) (L:ZdY k) (M:RowAt w (.slice u.so S.srv.length u.sc) S.srv.length (Zv S.srv)) (V:S.srv.length≤549755813888) :
  Calls Tryz.prog 57 #[wdA S u nx m A q,stA k nm n] w fun e X=>e=.returned (.bool (Z4 k nm n S))∧Below w.heap.size w X:=by
 obtain ⟨W,d⟩:=ZpJ w (bW S u nx m A q) (bSt k nm n);have E:=Za (M.nx d.out.bel);have O:=Za (Zjm S.bud u.po S.pools.length u.pc u.so S.srv.length u.sc u.wo S.wts.length u.wc u.tqo S.plan.length u.tc S.begun S.back nx m.1 A m.2.length q nm S.srv W E.out rfl (by unfold maxLen;omega));have Q:=Za (fun v (hb:Below W.heap.size W v)=>ZlV S u nx m A q nm n false v (E.out.nx hb) V);have D:=Za L;clear M L;unfold wdA stA;go_enter Tryz.func57,Tryz.ntmps57
 go_wp2_with fail
 rw [←d.out.eq];refine O.out.mono ?_;rintro e w1 ⟨rfl,I⟩;have h:=Za I;clear I;obtain ⟨Y,aa,a2,a3,a4,a5,ab,ac,ad,ae,af⟩:=Zg (Zk d.out.b0 h.out);obtain ⟨ag,ah,s2,sz⟩:=Zaq (Zk d.out.bs h.out);obtain ⟨R,U⟩:=D.out;clear D;rcases (by omega:k=1∨k=2∨k=3∨k=4∨k=5∨k=6∨k=7∨k=8) with rfl | rfl | rfl | rfl | rfl | rfl | rfl | rfl
 all_goals
  clear R U;go_wp2_with fail
  first
  | (go_ret;refine ⟨?_,Zb d.out.bel h.out⟩;simp [Z4];done)
  | (go_ret;refine ⟨?_,Zb d.out.bel h.out⟩;simp [Z4];rw [Bool.eq_iff_iff,beq_iff_eq,decide_eq_true_iff];omega)
  | (refine (Q.out w1 h.out).mono ?_;rintro e ai ⟨rfl,J⟩;have N:=Za (Zb h.out J);clear J;go_wp2_with fail;go_ret;exact ⟨by simp only [Z4];rw [←Zr3];rfl,Zb d.out.bel N.out⟩)
theorem ZhA (d:Nat) (b:Int) (O:Option Addr) (I N:Nat) (so:Option Addr) (J sc:Nat) (wo:Option Addr) (L wc:Nat) (op:Int) (U:Option Addr) (m R:Nat) (q A:Bool) (hb:Int) (E:Option Addr) (M D:Nat) (w:World) (h:w.heap[d]?=some (ZG b O I N so J sc wo L wc op ⟨.slice U m R,q,A,hb,.slice E M D⟩)) :
  Calls Tryz.prog 46 #[.pointer (some ⟨d,5,none⟩)] w fun e Q=>e=.returned (.int .i64 (m:Int))∧Q=w:=by
 obtain ⟨V,X,Y,aa,ab,ac⟩:=Zdc h;clear h;go_enter Tryz.func46,Tryz.ntmps46
 go_wp2_with fail
 go_ret
 exact ⟨rfl,rfl⟩
theorem Ztf (h:Nat) (b:Int) (al:Option Addr) (ag ak:Nat) (so:Option Addr) (ah sc:Nat) (wo:Option Addr) (ai wc:Nat) (op:Int) (U:Option Addr) (d R:Nat) (Y aa:Bool) (hb:Int) (ae:Option Addr) (aj ac:Nat) (L:Int) (M:ByteArray) (N:Int) (J:List Stp) (w:World) (E:w.heap[h]?=some (ZG b al ag ak so ah sc wo ai wc op ⟨.slice U d R,Y,aa,hb,.slice ae aj ac⟩)) (Q:RowAt w (.slice U d R) d (Zo J)) (O:J.length=d) (I:J[0]?=some ⟨L,M,N⟩) :
  Calls Tryz.prog 52 #[.pointer (some ⟨h,5,none⟩)] w fun e w'=>e=.returned (stA L M N)∧Below w.heap.size w w':=by
 have ax:0<d:=by rw [←O];exact (Yc.1 I).1
 have ad:h<w.heap.size:=(Ya.1 E).1;obtain ⟨W,m⟩:∃ W,W=w.alloc (bSt 0 ⟨#[]⟩ 0):=⟨_,rfl⟩;have q:Below w.heap.size w W:=by rw [m];exact Zc _ _
 have A:Hid (W=w.alloc (bSt 0 ⟨#[]⟩ 0)∧W.heap[w.heap.size]?=some (bSt 0 ⟨#[]⟩ 0)∧Below w.heap.size w W):=⟨m,by rw [m];exact Zd _ _ rfl,q⟩;obtain ⟨ap,aq,ar,au,av,aw⟩:=Zdc ((q.block h ad).trans E);obtain ⟨am,off,af,a0,ab,c1,c2⟩:=Zge (Q.nx q) I;subst af;simp only [Nat.zero_mul,Nat.add_zero] at ab c1 c2;obtain ⟨V,X,b2,ao⟩:=Zaq A.out.2.1;have a1:((d:Int) == 0)=false:=beq_eq_false_iff_ne.2 (by omega);have ay:(0:Int)<(d:Int):=by omega
 have az:¬(d:Int)=0:=by omega
 clear E Q O I m q;go_enter Tryz.func52,Tryz.ntmps52
 go_upto_region 1 with fail
 rw [←A.out.1];go_wp2_with fail
 refine bodyPost_ret (v:=stA L M N) (by simp [results,Tryz.results52,go_sem,V,X,b2]) rfl ⟨rfl,?_⟩;have D:w.heap.size≤w.heap.size:=Yd _;exact ((A.out.2.2.setCell D _).setCell D _).setCell D _
theorem ZrA (so:Option Addr) (m sc:Nat) (d:List Stp) (w:World) (U:RowAt w (.slice so m sc) m (Zo d)) (R:d.length=m) (ao:m≤1099511627776) (ac:1≤m) :
  Calls Tryz.prog 91 #[.slice so m sc] w fun e w'=>∃ q vc,e=.returned (.slice q d.tail.length vc)∧w'.ownsRow w.heap.size 84 3 (.slice q d.tail.length vc) d.tail.length (Zo d.tail)∧Below w.heap.size w w':=by
 have E:Hid (RowAt w (.slice so m sc) m (Zo d)∧d.length=m):=⟨U,R⟩;clear U R;go_enter Tryz.func91,Tryz.ntmps91
 go_wp2_with fail
 go_loopw [3,4] (fun l i wr=>∃ (k ap:Nat) (q:Option Addr) (vc:Nat),k≤m∧1≤k∧ap≤k∧i=.int .i64 k∧l=.slice q ap vc∧Hid ((d.take k).tail.length=ap∧wr.ownsRow w.heap.size 84 3 (.slice q ap vc) ap (Zo (d.take k).tail)∧Below w.heap.size w wr)) (fun _ i _=>m - (intOf i).toNat)
 case atStart =>
  refine ⟨1,0,some ⟨w.heap.size,0,none⟩,0,ac,Yd _,Ye _,rfl,rfl,?_,?_,Zc _ _⟩
  ·cases d <;> rfl
  ·have:(d.take 1).tail=[]:=by cases d <;> rfl
   rw [this];exact Zc9 w _ 3 _ rfl _ (Yd _)
 case round =>
  obtain ⟨k,ap,q,vc,aj,ak,am,rfl,rfl,A⟩:=hrel;by_cases af:k<m
  ·obtain ⟨⟨L,M,N⟩,J⟩:∃ p,d[k]?=some p:=⟨_,Yb (by rw [E.out.2];exact af)⟩;obtain ⟨ah,off,ad,ai,ab,c1,c2⟩:=Zge (E.out.1.nx A.out.2.2) J;subst ad;simp only at ab c1 c2;have al:(k:Int)<(m:Int):=by omega
   have O:Hid ((d.take (k+1)).tail=(d.take k).tail++[⟨L,M,N⟩]):=by
    obtain ⟨ae,e⟩:=Yc.1 J;show _=_;rw [←List.drop_one,←List.drop_one,Yk ae,List.drop_append_of_le_length (by rw [List.length_take];omega),e]
   clear J;go_wp2_with (at_builtin;refine ZaN 84 42 3 32 _ ZmY Tryz.underlying42 rfl (by decide) (by decide) rfl (.tmp 12) (.tmp 17) rfl w.heap.size _ ap (Zo (d.take k).tail) rfl (A.out.2.1.alloc _) (some ⟨wr.heap.size,0,none⟩) 1 1 [.int .i64 L,.string M,.int .i64 N] rfl rfl (ZaM wr [.int .i64 L,.string M,.int .i64 N] _ 1 rfl) (by intro u V;simp at V;rcases V with rfl | rfl | rfl <;> rfl) (fun h=>by cases h) (by omega) (by simp;have:=A.out.2.2.size;omega) ?next)
   case next =>
    intro v' aa I Q;obtain ⟨Y,X,rfl,_⟩:=Zf I;have K6:Hid ((d.take (k+1)).tail.length=ap+1∧aa.ownsRow w.heap.size 84 3 (.slice Y (ap+1) X) (ap+1) (Zo (d.take (k+1)).tail)∧Below w.heap.size w aa):=by
     refine ⟨by rw [O.out,List.length_append,A.out.1];rfl,?_,(A.out.2.2.alloc A.out.2.2.size _).trans Q⟩;rw [O.out];unfold Zo;rw [List.flatMap_append];exact I
    clear I Q;go_wp2_with fail
    go_roundw
    case rel=>exact ⟨k+1,ap+1,Y,X,by omega,by omega,by omega,by go_num,rfl,K6.out⟩
    case measure=>simp [intOf];omega
  ·have D:Hid (d.tail.length=ap∧wr.ownsRow w.heap.size 84 3 (.slice q ap vc) ap (Zo d.tail)∧Below w.heap.size w wr):=by
    have ag:d.take k=d:=Yj (by rw [E.out.2];omega);have:=A.out;rw [ag] at this;exact this
   go_wp2_with fail
   go_ret
   refine ⟨q,vc,?_,?_,D.out.2.2⟩
   ·rw [D.out.1];rfl
   ·rw [D.out.1];exact D.out.2.1
theorem Zph (q:Nat) (b:Int) (L:Option Addr) (d J:Nat) (so:Option Addr) (al sc:Nat) (wo:Option Addr) (am wc:Nat) (op:Int) (ar:Option Addr) (ao aq:Nat) (aa ab:Bool) (hb:Int) (ak:Option Addr) (ap ai:Nat) (ps:List Pl) (w:World) (E:w.heap[q]?=some (ZG b L d J so al sc wo am wc op ⟨.slice ar ao aq,aa,ab,hb,.slice ak ap ai⟩)) (I:w.ownsRow 0 82 4 (.slice L d J) d (Ze ps)) (N:ps.length=d) (av:d≤1000) :
  Calls Tryz.prog 47 #[.pointer (some ⟨q,0,none⟩)] w fun e U=>∃ h vc,e=.returned (.agg #[.int .i64 b,.slice h d vc])∧U.ownsRow w.heap.size 82 4 (.slice h d vc) d (Ze ps)∧Below w.heap.size w U:=by
 have aj:q<w.heap.size:=(Ya.1 E).1;obtain ⟨W,A⟩:∃ W,W=w.alloc (Zi 0 (.slice none 0 0)):=⟨_,rfl⟩;have D:Below w.heap.size w W:=by rw [A];exact Zc _ _
 have m:Hid (W=w.alloc (Zi 0 (.slice none 0 0))∧W.heap[w.heap.size]?=some (Zi 0 (.slice none 0 0))∧Below w.heap.size w W):=⟨A,by rw [A];exact Zd _ _ rfl,D⟩;have V:=Za (ZcI b ps L d J W ((Zf I).nx D) (ZaO I) N (by omega));obtain ⟨ac,ad,ae,af,ag,ah⟩:=ZS ((D.block q aj).trans E);clear E I N A D;go_enter Tryz.func47,Tryz.ntmps47
 go_upto_region 1 with fail
 rw [←m.out.1];go_wp2_with fail
 refine V.out.mono ?_;rintro e w1 ⟨h,vc,rfl,O,hb⟩;have R:w1.heap[w.heap.size]?=some (Zi 0 (.slice none 0 0)):=(hb.block _ (Ya.1 m.out.2.1).1).trans m.out.2.1;have Q:w.heap.size<W.heap.size:=(Ya.1 m.out.2.1).1;have K:Hid (w1.ownsRow W.heap.size 82 4 (.slice h d vc) d (Ze ps)∧Below w.heap.size w w1∧w.heap.size<W.heap.size):=⟨O,Zb m.out.2.2 hb,Q⟩;obtain ⟨X,Y,au⟩:=Zw R;clear O hb R Q ac ad ae af ag ah;go_wp2_with fail
 refine bodyPost_ret (v:=.agg #[.int .i64 b,.slice h d vc]) (by simp [results,Tryz.results47,go_sem,X,Y]) rfl ⟨h,vc,rfl,?_,?_⟩
 ·exact Zr (Yi (Yi K.out.1 K.out.2.2 _) K.out.2.2 _) (Nat.le_of_lt K.out.2.2)
 ·have M:w.heap.size≤w.heap.size:=Yd _;exact (K.out.2.1.setCell M _).setCell M _
def ZqP (L:List Stp) (bk:Bool) (H:Int×List Pl) (w w':World) (e:Ending):Prop:=
 ∃ vo vc ho hc,e=.returned (.agg #[.slice vo L.length vc,.bool false,.bool bk,.int .i64 H.1,.slice ho H.2.length hc])∧w'.ownsRow w.heap.size 84 3 (.slice vo L.length vc) L.length (Zo L)∧w'.ownsRow w.heap.size 82 4 (.slice ho H.2.length hc) H.2.length (Ze H.2)∧Below w.heap.size w w'
abbrev Zgv:Obj:=.cells #[.slice none 0 0,.bool false,.bool false,.int .i64 0,.slice none 0 0] 93
theorem Zin {w:World} {B g:Nat} {e:TypeId} {sz n:Nat} {v:Value} {I:List Value} (h:w.ownsRow B e sz v n I) (d:g<B) (m q A D E:Value):(((((w.setCell ⟨g,0,none⟩ m).setCell ⟨g,1,none⟩ q).setCell ⟨g,2,none⟩ A).setCell ⟨g,3,none⟩ D).setCell ⟨g,4,none⟩ E).ownsRow B e sz v n I:=
 Yi (Yi (Yi (Yi (Yi h d _) d _) d _) d _) d _
end Lw
end Go.Proofs.YtmgkcbdlfodjmaaGreatDoor
