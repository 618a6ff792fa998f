import Derived.Test.YtmgkcbdlfodjmaaGreatDoorBqW
set_option maxRecDepth 100000
set_option maxHeartbeats 16000000
namespace Go.Proofs.YtmgkcbdlfodjmaaGreatDoor
open Go.RowKit
namespace Lw
open Co
theorem ZjZ (n h d:Int) (w:World) :
  Calls Tryz.prog 75 #[.int .i64 n,.int .i64 h,.int .i64 d] w fun e A=>e=.returned (.bool (decide (h≤n∧n≤d)))∧A=w:=by
 by_cases m:h≤n
 ·by_cases q:n≤d
  ·go_enter Tryz.func75,Tryz.ntmps75
   go_wp2_with fail
   go_ret
   exact ⟨by simp [m,q],rfl⟩
  ·go_enter Tryz.func75,Tryz.ntmps75
   go_wp2_with fail
   go_ret
   exact ⟨by simp;omega,rfl⟩
 ·go_enter Tryz.func75,Tryz.ntmps75
  go_wp2_with fail
  go_ret
  exact ⟨by simp;omega,rfl⟩
def Zg3 (bud:Int) (ps:List Pl) (ss:List Srv) (s:Srv):Bool:=match ps.find? (Zl s.pool) with
 | none=>true
 | some x=>(s.far != x.fr)||decide (x.sz<(Zs (Zj s.pool) ss:Int))||decide (bud<(ss.length:Int))
theorem Zlc {w:World} {g:Nat} {d c1 c2 c3:Value} {t:TypeId} (h:w.heap[g]?=some (.cells #[d,c1,c2,c3] t (0,0))):w.cell? ⟨g,0,none⟩=some d∧w.cell? ⟨g,1,none⟩=some c1∧w.cell? ⟨g,2,none⟩=some c2∧w.cell? ⟨g,3,none⟩=some c3:=by
 refine ⟨?_,?_,?_,?_⟩ <;> simp [World.cell?,h]
theorem ZmG (bud:Int) (I:Option Addr) (cj Q:Nat) (so:Option Addr) (A sc:Nat) (wo:Option Addr) (aj wc:Nat) (am:Option Addr) (ak ao:Nat) (ae af:Bool) (nx hb:Int) (ai:Option Addr) (al ah:Nat) (ps:List Pl) (ss:List Srv) (w:World) (i:Nat) (J:Int) (d:ByteArray) (D L:Int) (bd:RowAt w (.slice I cj Q) cj (Ze ps)) (bc:ps.length=cj) (cb:cj≤1099511627776) (be:RowAt w (.slice so A sc) A (Zv ss)) (ay:ss.length=A) (cc:A≤1099511627776) (bf:ss[i]?=some ⟨J,d,D,L⟩) :
  Calls Tryz.prog 81 #[.agg #[.int .i64 bud,.slice I cj Q,.slice so A sc,.slice wo aj wc,.slice am ak ao,.bool ae,.bool af,.int .i64 nx,.int .i64 hb,.slice ai al ah],.int .i64 i] w fun e w'=>e=.returned (.bool (Zg3 bud ps ss ⟨J,d,D,L⟩))∧Below w.heap.size w w':=by
 obtain ⟨m,off,bw,ax,a8,a9,d2,d3⟩:=ZbA be bf;have b8:(i:Int)<(A:Int):=by
  have:=(Yc.1 bf).1;rw [ay] at this;omega
 have b6:(0:Int)≤(i:Int):=by omega
 subst bw;simp only at a8 a9 d2 d3;obtain ⟨W,hW⟩:∃ W,W=(w.alloc (bWd (.int .i64 bud) (.slice I cj Q) (.slice (some ⟨m,off,none⟩) A sc) (.slice wo aj wc) (.slice am ak ao) (.bool ae) (.bool af) (.int .i64 nx) (.int .i64 hb) (.slice ai al ah))).alloc (.cells #[.int .i64 J,.string d,.int .i64 D,.int .i64 L] 86):=⟨_,rfl⟩;have ag:Below w.heap.size w W:=by rw [hW];exact Zb (Zc _ _) (Zc _ _)
 have h:Hid (W=(w.alloc (bWd (.int .i64 bud) (.slice I cj Q) (.slice (some ⟨m,off,none⟩) A sc) (.slice wo aj wc) (.slice am ak ao) (.bool ae) (.bool af) (.int .i64 nx) (.int .i64 hb) (.slice ai al ah))).alloc (.cells #[.int .i64 J,.string d,.int .i64 D,.int .i64 L] 86)∧W.heap[w.heap.size]?=some (bWd (.int .i64 bud) (.slice I cj Q) (.slice (some ⟨m,off,none⟩) A sc) (.slice wo aj wc) (.slice am ak ao) (.bool ae) (.bool af) (.int .i64 nx) (.int .i64 hb) (.slice ai al ah))∧W.heap[w.heap.size+1]?=some (.cells #[.int .i64 J,.string d,.int .i64 D,.int .i64 L] 86)∧Below w.heap.size w W):=by
  refine ⟨hW,?_,?_,ag⟩
  ·rw [hW];exact (Zn _ _ (by simp)).trans (Zd _ _ rfl)
  ·rw [hW];exact Zd _ _ (by simp)
 have bq:=Za (rAt bud I cj Q d ps W (bd.nx ag) bc (by unfold maxLen;omega));have br:=Za (fun u (bx:Below W.heap.size W u)=>Zjm bud I cj Q (some ⟨m,off,none⟩) A sc wo aj wc am ak ao ae af nx hb ai al ah d ss u ((be.nx ag).nx bx) ay (by unfold maxLen;omega));have bs:Hid (∀ (u:World) (q:Nat) (x:Pl),Below W.heap.size W u→ps[q]?=some x→∃ N O,I=some ⟨N,O,none⟩∧u.cell? ⟨N,O+q*4,none⟩=some (.string x.nm)∧u.cell? ⟨N,O+q*4+1,none⟩=some (.int .i64 x.sz)∧u.cell? ⟨N,O+q*4+2,none⟩=some (.int .i64 x.wt)∧u.cell? ⟨N,O+q*4+3,none⟩=some (.int .i64 x.fr)):=by
  intro u q x b1 b0;obtain ⟨N,O,e,_,ar,au,av,aw⟩:=ZJ ((bd.nx ag).nx b1) b0;exact ⟨N,O,e,ar,au,av,aw⟩
 have bj:Hid (ps.length=cj∧ss.length=A):=⟨bc,ay⟩;have bt:∀ o,(w.alloc o).cell? ⟨m,off+i*4,none⟩=some (.int .i64 J):=fun o=>((Zc w o).cell (p:=⟨m,off+i*4,none⟩) ax).trans a8
 have bu:∀ o,(w.alloc o).cell? ⟨m,off+i*4+1,none⟩=some (.string d):=fun o=>((Zc w o).cell (p:=⟨m,off+i*4+1,none⟩) ax).trans a9
 have e2:∀ o,(w.alloc o).cell? ⟨m,off+i*4+2,none⟩=some (.int .i64 D):=fun o=>((Zc w o).cell (p:=⟨m,off+i*4+2,none⟩) ax).trans d2
 have e3:∀ o,(w.alloc o).cell? ⟨m,off+i*4+3,none⟩=some (.int .i64 L):=fun o=>((Zc w o).cell (p:=⟨m,off+i*4+3,none⟩) ax).trans d3
 clear bd bc be ay bf hW ag a8 a9 d2 d3;go_enter Tryz.func81,Tryz.ntmps81
 go_upto_region 2 with fail
 rw [←h.out.1];clear bt bu e2 e3;obtain ⟨R,U,a2,a3,a4,a5,ck,X,Y,aa,ab⟩:=Zg h.out.2.1;obtain ⟨a0,a1,s2,s3⟩:=Zlc h.out.2.2.1;go_wp2_with fail
 refine bq.out.mono ?_;rintro e w1 ⟨rfl,bk⟩;have ad:=Za bk;clear bk R U a2 a3 a4 a5 ck X Y aa ab a0 a1 s2 s3;obtain ⟨R,U,a2,a3,a4,a5,ck,X,Y,aa,ab⟩:=Zg (Zk h.out.2.1 ad.out);obtain ⟨a0,a1,s2,s3⟩:=Zlc (Zk h.out.2.2.1 ad.out);cases az:ps.findIdx? (Zl d) with
 | none =>
  have E:Hid (Zg3 bud ps ss ⟨J,d,D,L⟩=true):=by show _=_;simp only [Zg3,(ZaU _ _).2 az]
  clear az;unfold Zay;go_wp2_with fail
  go_ret
  exact ⟨Zu E.out.symm,Zb h.out.2.2.2 ad.out⟩
 | some p =>
  obtain ⟨⟨bh,ac,bi,ap⟩,bg,bo⟩:=ZbH az;have ca:(p:Int)<(cj:Int):=by
   have:=(Yc.1 bg).1;rw [bj.out.1] at this;omega
  have b7:(0:Int)≤(p:Int):=by omega
  have b9:¬(p:Int)<0:=by omega
  have E:Hid (Zg3 bud ps ss ⟨J,d,D,L⟩=((D != ap)||decide (ac<(Zs (Zj d) ss:Int))||decide (bud<(A:Int)))):=by show _=_;simp only [Zg3,bo,bj.out.2]
  have HY:=Za bg;clear az bg bo;unfold Zay;go_wp2_with fail
  refine (br.out w1 ad.out).mono ?_;rintro e a6 ⟨rfl,bl⟩;have a7:=Za (Zb ad.out bl);clear bl R U a2 a3 a4 a5 ck X Y aa ab a0 a1 s2 s3;obtain ⟨aq,bm⟩:∃ aq:Nat,Zs (Zj d) ss=aq:=⟨_,rfl⟩;rw [bm] at E ⊢;clear bm;obtain ⟨R,U,a2,a3,a4,a5,ck,X,Y,aa,ab⟩:=Zg (Zk h.out.2.1 a7.out);obtain ⟨cd,ce,bz,ar,au,av,aw⟩:=bs.out a6 p _ a7.out HY.out;subst bz;simp only at ar au av aw;obtain ⟨V,hV⟩:∃ V,V=a6.alloc (ZF ⟨bh,ac,bi,ap⟩):=⟨_,rfl⟩;have M:Hid (V=a6.alloc (ZF ⟨bh,ac,bi,ap⟩)∧Below W.heap.size W V∧V.heap[a6.heap.size]?=some (ZF ⟨bh,ac,bi,ap⟩)):=⟨hV,by rw [hV];exact Zb a7.out (Zc _ _),by rw [hV];exact Zd _ _ rfl⟩;clear hV;go_upto_region 7 with fail
  rw [←M.out.1];clear R U a2 a3 a4 a5 ck X Y aa ab ar au av aw;obtain ⟨R,U,a2,a3,a4,a5,ck,X,Y,aa,ab⟩:=Zg (Zk h.out.2.1 M.out.2.1);obtain ⟨a0,a1,s2,s3⟩:=Zlc (Zk h.out.2.2.1 M.out.2.1);obtain ⟨cf,cg,ch,ci⟩:=Zlc M.out.2.2;cases bp:(D != ap) with
  | true =>
   rw [bp] at E;go_wp2_with fail
   go_ret
   exact ⟨Zu (by rw [E.out];rfl),Zb h.out.2.2.2 M.out.2.1⟩
  | false =>
   rw [bp] at E;by_cases bv:ac<(aq:Int)
   ·go_wp2_with fail
    go_ret
    exact ⟨Zu (by rw [E.out,decide_eq_true bv];rfl),Zb h.out.2.2.2 M.out.2.1⟩
   ·go_wp2_with fail
    go_ret
    exact ⟨Zu (by rw [E.out,decide_eq_false (show ¬ac<(aq:Int) by omega)];simp),Zb h.out.2.2.2 M.out.2.1⟩
theorem ZpY (S:Zh) (s:Srv) (c:Int):Zg3 S.bud S.pools S.srv {s with client:=c}=ZaY S s:=by
 unfold Zg3 ZaY;simp only;cases S.pools.find? (Zl s.pool) with
 | none=>rfl
 | some x =>
  simp only;congr 2
theorem Zdf (c:Int):Zbi c=decide (1≤c∧c≤99):=by
 unfold Zbi;by_cases d:1≤c <;> by_cases h:c≤99 <;> simp [d,h] <;> omega
theorem ZcH {w m:World} {S T:Zh} {u v:ZA} {E Z:Int×List Pl} {J D:Option Addr} {I A:Nat} (h:OwnW w.heap.size m T v Z D A) (hb:Below w.heap.size w m):RefG w m S u E J I T v Z D A:=by
 refine ⟨⟨⟨Zf h.p,Zf h.s,Zf h.q,Zf h.t⟩,Zf h.h,?_⟩,?_,hb⟩
 ·rintro g ((d | d | d | d) | d)
  ·exact (h.p.lt g d).2
  ·exact (h.s.lt g d).2
  ·exact (h.q.lt g d).2
  ·exact (h.t.lt g d).2
  ·exact (h.h.lt g d).2
 ·rintro g ((d | d | d | d) | d)
  ·exact .inr (h.p.lt g d).1
  ·exact .inr (h.s.lt g d).1
  ·exact .inr (h.q.lt g d).1
  ·exact .inr (h.t.lt g d).1
  ·exact .inr (h.h.lt g d).1
theorem RefOk.sml {S:Zh} {op:Int} {m:Int×List Pl} (d:RefOk S op m):Sml S m:=by
 have h:=d.num;exact ⟨d.pools,by omega,by omega,d.plan,d.home⟩
def LvG (w w':World) (S:Zh) (u:ZA) (Y:Int×List Pl) (ho:Option Addr) (hc:Nat) (r:Res) (e:Ending):Prop:=
 ∃ u' ho' hc',e=.returned (.tuple #[wdA r.S u' r.op Y ho' hc',.int .i64 (r.err:Int)])∧RefG w w' S u Y ho hc r.S u' Y ho' hc'
def Zs9 (w w':World) (S:Zh) (u:ZA) (Y:Int×List Pl) (ho:Option Addr) (hc:Nat) (r:Res) (e:Ending):Prop:=
 ∃ u' ho' hc',e=.returned (.tuple #[wdA r.S u' r.op Y ho' hc',.int .i64 r.id,.int .i64 (r.err:Int)])∧RefG w w' S u Y ho hc r.S u' Y ho' hc'
theorem ZsW (S:Zh) (u:ZA) (nx:Int) (d:Int×List Pl) (m:Option Addr) (bk:Nat) (c:Int) (w:World) (h:WdAt w S u d m bk) (ab:Sml S d) :
  Calls Tryz.prog 43 #[wdA S u nx d m bk,.int .i64 c] w fun e w'=>LvG w w' S u d m bk (Zcb S nx c) e:=by
 obtain ⟨W,A⟩:=Zbc w (bW S u nx d m bk);have HH:=Za h;have HM:=Za ab;have HO:=Za (h.rows.nx A.out.bel);have hW:w.heap.size+2≤W.heap.size:=by rw [A.out.eq];simp
 have bh:=Za (ZoL S.bud u.po S.pools.length u.pc u.so S.srv.length u.sc u.wo S.wts.length u.wc u.tqo S.plan.length u.tc S.begun S.back nx d.1 m d.2.length bk c S.wts W HO.out.q rfl (by have:=ab.q;unfold maxLen;omega));have bf:=Za (fun v i (hb:Below W.heap.size W v)=>ZnG S u nx d m bk v i (HO.out.nx hb) ab);clear h ab;unfold wdA;go_enter Tryz.func43,Tryz.ntmps43
 go_wp2_with fail
 rw [←A.out.eq];refine (ZjZ c 1 99 W).mono ?_;rintro e w1 ⟨rfl,a1⟩;obtain rfl:=a1.symm;clear a1;obtain ⟨ao,ap,a2,a3,a4,a5,aq,ar,au,av,aw⟩:=Zg (Zk A.out.b0 (Yh _ W));obtain ⟨ac,ad,ae,af,ag,ah,ai,aj,ak,al,am⟩:=Zg (Zk A.out.b1 (Yh _ W));by_cases J:1≤c∧c≤99
 ·rw [decide_eq_true J];have az:Hid (Zbi c=true):=by rw [Zdf];exact decide_eq_true J
  clear J;go_wp2_with fail
  refine bh.out.mono ?_;rintro e be ⟨rfl,a6⟩;have I:=Za a6;clear a6 ao ap a2 a3 a4 a5 aq ar au av aw ac ad ae af ag ah ai aj ak al am;obtain ⟨ao,ap,a2,a3,a4,a5,aq,ar,au,av,aw⟩:=Zg (Zk A.out.b0 I.out);obtain ⟨ac,ad,ae,af,ag,ah,ai,aj,ak,al,am⟩:=Zg (Zk A.out.b1 I.out);cases aa:S.wts.findIdx? (Z3 c) with
  | none =>
   have L:Hid (Zcb S nx c=⟨S,nx,0,14⟩):=by show _=_;unfold Zcb;rw [az.out,aa];rfl
   unfold Zay;clear aa;go_wp2_with fail
   obtain ⟨FW,D,E⟩:=Za4 A.out I.out S u nx d m bk;unfold stS ZK at D;rw [D];obtain ⟨M,N,f2,O,Q,R,U,V,X,Y,a0⟩:=Zg E.out.1;clear D;refine bodyPost_ret (v:=.tuple #[wdA S u nx d m bk,.int .i64 14]) (by simp [results,Tryz.results43,go_sem,M,N,f2,O,Q,R,U,V,X,Y]) rfl ?_;rw [L.out];exact ⟨u,m,bk,rfl,RefG.same HH.out E.out.2⟩
  | some l =>
   obtain ⟨T,hT⟩:∃ T,Zbp S l=T:=⟨_,rfl⟩;have L:Hid (Zcb S nx c=⟨T,nx,0,0⟩):=by show _=_;unfold Zcb;rw [az.out,aa,←hT];rfl
   have ay:=Za (bf.out be l I.out);rw [hT] at ay;have bi:¬(l:Int)<0:=by omega
   unfold Zay;clear aa hT;go_wp2_with fail
   refine ay.out.mono ?_;rintro e bj ⟨bd,a9,a8,rfl,bc,a7⟩;have ax:=Za (Zb I.out a7);have bg:=Za (bc.mono (show W.heap.size≤be.heap.size from I.out.size));clear bc a7 ao ap a2 a3 a4 a5 aq ar au av aw ac ad ae af ag ah ai aj ak al am;obtain ⟨ac,ad,ae,af,ag,ah,ai,aj,ak,al,am⟩:=Zg (Zk A.out.b1 ax.out);go_wp2_with fail
   obtain ⟨FW,D,E⟩:=ZaL A.out ax.out bg.out nx;unfold stS ZK at D;rw [D];obtain ⟨M,N,f2,O,Q,R,U,V,X,Y,a0⟩:=Zg E.out.1;clear D;refine bodyPost_ret (v:=.tuple #[wdA T bd nx d a9 a8,.int .i64 0]) (by simp [results,Tryz.results43,go_sem,M,N,f2,O,Q,R,U,V,X,Y]) rfl ?_;rw [L.out];exact ⟨bd,a9,a8,rfl,ZcH (E.out.2.2.mono (by omega)) E.out.2.1⟩
 ·rw [decide_eq_false J];have L:Hid (Zcb S nx c=⟨S,nx,0,10⟩):=by show _=_;unfold Zcb;rw [Zdf,decide_eq_false J];rfl
  clear J;go_wp2_with fail
  obtain ⟨FW,D,E⟩:=Za4 A.out (Yh _ W) S u nx d m bk;unfold stS ZK at D;rw [D];obtain ⟨M,N,f2,O,Q,R,U,V,X,Y,a0⟩:=Zg E.out.1;clear D;refine bodyPost_ret (v:=.tuple #[wdA S u nx d m bk,.int .i64 10]) (by simp [results,Tryz.results43,go_sem,M,N,f2,O,Q,R,U,V,X,Y]) rfl ?_;rw [L.out];exact ⟨u,m,bk,rfl,RefG.same HH.out E.out.2⟩
theorem ZsK (S:Zh) (u:ZA) (nx:Int) (d:Int×List Pl) (D:Option Addr) (A:Nat) (E:Int) (w:World) (h:WdAt w S u d D A) (aa:Sml S d) (cc:S.srv.length+S.wts.length+1≤549755813888) (bo:0≤nx) (cd:nx+S.wts.length+1≤4611686018427387903) :
  Calls Tryz.prog 45 #[wdA S u nx d D A,.int .i64 E] w fun e w'=>LvG w w' S u d D A (Zct S nx E) e:=by
 obtain ⟨W,ck⟩:=Zbc w (bW S u nx d D A);have HH:=Za h;have V:=Za aa;have HO:=Za (h.rows.nx ck.out.bel);have hW:w.heap.size+2≤W.heap.size:=by rw [ck.out.eq];simp
 have be:=Za (fun v i (hb:Below W.heap.size W v)=>ZfR S u nx d D A v i (HO.out.nx hb) aa);obtain ⟨m,X⟩:∃ m,S.srv.length=m:=⟨_,rfl⟩;have ar:=Za X;have cb:m≤549755813888:=by rw [←X];exact aa.s
 have bd:Hid (∀ v,Below W.heap.size W v→v.heap[w.heap.size]?=some (bWs (.slice u.so m u.sc) S u nx d D A)):=fun v hb=>by rw [←X];exact Zk ck.out.b0 hb
 have bj:Hid (RowAt W (.slice u.so m u.sc) m (Zv S.srv)):=by rw [←X];exact HO.out.s
 clear X;clear h aa;unfold wdA;go_enter Tryz.func45,Tryz.ntmps45
 go_wp2_with fail
 rw [←ck.out.eq];go_loopw [6] (fun am wr=>∃ k:Nat,k≤m∧am=.int .i64 k∧Hid (∀ y∈S.srv.take k,(fun x:Srv=>x.id == E) y=false)∧Hid (Below W.heap.size W wr)) (fun am _=>m - (intOf am).toNat)
 case atStart=>exact ⟨0,Ye _,rfl,by intro y al;simp at al,Yh _ _⟩
 case round =>
  obtain ⟨k,b9,rfl,HT,cj⟩:=hrel;obtain ⟨I,J,a2,a3,a4,a5,L,M,N,O,Q⟩:=Zg (bd.out wr cj.out);by_cases bm:k<m
  ·obtain ⟨⟨b7,cg,ch,ci⟩,Y⟩:∃ p,S.srv[k]?=some p:=⟨_,Yb (by rw [ar.out];exact bm)⟩;obtain ⟨bl,off,av,b8,au,c1,c2,c3⟩:=ZbA (bj.out.nx cj.out) Y;rw [av] at a2;simp only at au c1 c2 c3;have ca:(k:Int)<(m:Int):=by omega
   clear av;cases a6:(b7 == E) with
   | true =>
    obtain ⟨T,hT⟩:∃ T,Zaa S k=T:=⟨_,rfl⟩;have HQ:Hid (Zct S nx E=⟨(ZI S.wts.length T nx).1,(ZI S.wts.length T nx).2,0,0⟩):=by
     show _=_;unfold Zct;rw [Zdv HT.out Y a6,←hT]
    have ab:Hid (Sml T d∧T.wts.length=S.wts.length∧T.srv.length≤S.srv.length):=by
     rw [←hT];exact ⟨⟨V.out.p,Ym (List.length_eraseIdx_le _ _) V.out.s,V.out.q,V.out.t,V.out.h⟩,rfl,List.length_eraseIdx_le _ _⟩
    have aq:=Za (be.out wr k cj.out);rw [hT] at aq;clear Y hT;go_upto_region 5 with fail
    clear I J a2 a3 a4 a5 L M N O Q au c1 c2 c3;obtain ⟨I,J,a2,a3,a4,a5,L,M,N,O,Q⟩:=Zg (Zk ck.out.b0 cj.out);go_wp2_with fail
    refine aq.out.mono ?_;rintro e ce ⟨a9,a0,ay,rfl,a7,aw⟩;obtain ⟨U,hU,HU⟩:=ZbY a7 nx;have ap:=Za (Zb cj.out (Zb aw HU.out.2.2.1));have bh:=Za (HU.out.2.2.2.mono (show W.heap.size≤wr.heap.size from cj.out.size));clear hU a7 aw I J a2 a3 a4 a5 L M N O Q;go_upto_region 6 with fail
    rw [←HU.out.1];obtain ⟨I,J,a2,a3,a4,a5,L,M,N,O,Q⟩:=Zg HU.out.2.1;obtain ⟨⟨R,t⟩,hR⟩:∃ R,ZI S.wts.length T nx=R:=⟨_,rfl⟩;have bk:Hid (Calls Tryz.prog 56 #[wdA T a9 nx d a0 ay] U fun e w'=>GaveS W.heap.size U w' R t d e):=by
     have:=ZfP W.heap.size S.wts.length T a9 nx d a0 ay U ap.out.size bh.out ab.out.1 (by have:=ab.out.2;omega) (by have:=ab.out.2;omega) bo (by omega);rw [hR] at this;exact this
    have bi:Hid (Zct S nx E=⟨R,t,0,0⟩):=by
     have h:=HQ.out;rw [hR] at h;exact h
    clear hR HQ;go_wp2_with fail
    refine bk.out.mono ?_;rintro e cf ⟨bc,a1,az,rfl,a8,ax⟩;have ao:=Za (Zb ap.out ax);have bg:=Za a8;clear a8 ax I J a2 a3 a4 a5 L M N O Q;obtain ⟨bp,bq,br,bs,bt,bu,bv,bw,bx,bz,b6⟩:=Zg (Zk ck.out.b1 ao.out);go_wp2_with fail
    obtain ⟨FW,cl,cm⟩:=ZaL ck.out ao.out bg.out t;unfold stS ZK at cl;rw [cl];obtain ⟨ac,ad,f2,ae,af,ag,ah,ai,aj,ak,co⟩:=Zg cm.out.1;clear cl;refine bodyPost_ret (v:=.tuple #[wdA R bc t d a1 az,.int .i64 0]) (by simp [results,Tryz.results45,go_sem,ac,ad,f2,ae,af,ag,ah,ai,aj,ak]) rfl ?_;rw [bi.out];exact ⟨bc,a1,az,rfl,ZcH (cm.out.2.2.mono (by omega)) cm.out.2.1⟩
   | false =>
    have bf:=Za (Zbo (p:=fun x:Srv=>x.id == E) HT.out Y a6);clear Y;go_wp2_with fail
    go_roundw
    case rel=>exact ⟨k+1,by omega,by go_num,bf.out,cj.out⟩
    case measure=>simp [intOf];omega
  ·have HQ:Hid (Zct S nx E=⟨S,nx,0,15⟩):=by
    show _=_;unfold Zct;rw [ZcY (fun y al=>HT.out y (by rw [Yj (by rw [ar.out];omega)];exact al))]
   go_upto_region 7 with fail
   clear I J a2 a3 a4 a5 L M N O Q;obtain ⟨I,J,a2,a3,a4,a5,L,M,N,O,Q⟩:=Zg (Zk ck.out.b0 cj.out);obtain ⟨bp,bq,br,bs,bt,bu,bv,bw,bx,bz,b6⟩:=Zg (Zk ck.out.b1 cj.out);go_wp2_with fail
   obtain ⟨FW,cl,cm⟩:=Za4 ck.out cj.out S u nx d D A;unfold stS ZK at cl;rw [cl];obtain ⟨ac,ad,f2,ae,af,ag,ah,ai,aj,ak,co⟩:=Zg cm.out.1;clear cl;refine bodyPost_ret (v:=.tuple #[wdA S u nx d D A,.int .i64 15]) (by simp [results,Tryz.results45,go_sem,ac,ad,f2,ae,af,ag,ah,ai,aj,ak]) rfl ?_;rw [HQ.out];exact ⟨u,D,A,rfl,RefG.same HH.out cm.out.2⟩
theorem Ztx (S:Zh) (u:ZA) (nx:Int) (dh:Int×List Pl) (V:Option Addr) (dj:Nat) (c:Int) (w:World) (h:WdAt w S u dh V dj) (bm:Sml S dh) (dc:S.srv.length+S.wts.length+1≤549755813888) (cf:0≤nx) (dd:nx+S.wts.length+1≤4611686018427387903) :
  Calls Tryz.prog 41 #[wdA S u nx dh V dj,.int .i64 c] w fun e w'=>LvG w w' S u dh V dj (Zcp S nx c) e:=by
 obtain ⟨W,Q⟩:=Zbc w (bW S u nx dh V dj);have HH:=Za h;have HM:=Za bm;have HO:=Za (h.rows.nx Q.out.bel);have hW:w.heap.size+2≤W.heap.size:=by rw [Q.out.eq];simp
 have ct:=Za (Zms S.bud u.po S.pools.length u.pc u.so S.srv.length u.sc u.wo S.wts.length u.wc u.tqo S.plan.length u.tc S.begun S.back nx dh.1 V dh.2.length dj c S.srv W HO.out.s rfl (by have:=bm.s;unfold maxLen;omega));have cs:=Za (fun v (hb:Below W.heap.size W v)=>ZcL S u nx dh V dj v (HO.out.nx hb) bm);clear h bm;unfold wdA;go_enter Tryz.func41,Tryz.ntmps41
 go_wp2_with fail
 rw [←Q.out.eq];refine (ZjZ c 1 99 W).mono ?_;rintro e w1 ⟨rfl,cb⟩;obtain rfl:=cb.symm;clear cb;obtain ⟨D,E,a2,a3,a4,a5,I,J,L,M,N⟩:=Zg (Zk Q.out.b0 (Yh _ W));obtain ⟨a1,a6,a7,a8,a9,bc,bd,be,bf,bg,bh⟩:=Zg (Zk Q.out.b1 (Yh _ W));by_cases au:1≤c∧c≤99
 ·rw [decide_eq_true au];have b8:Hid (Zbi c=true):=by rw [Zdf];exact decide_eq_true au
  clear au;go_wp2_with fail
  refine ct.out.mono ?_;rintro e co ⟨rfl,cc⟩;have ae:=Za cc;clear cc D E a2 a3 a4 a5 I J L M N a1 a6 a7 a8 a9 bc bd be bf bg bh;obtain ⟨D,E,a2,a3,a4,a5,I,J,L,M,N⟩:=Zg (Zk Q.out.b0 ae.out);obtain ⟨a1,a6,a7,a8,a9,bc,bd,be,bf,bg,bh⟩:=Zg (Zk Q.out.b1 ae.out);cases ab:S.srv.findIdx? (Zp c) with
  | none =>
   have Y:Hid (Zcp S nx c=⟨S,nx,0,14⟩):=by show _=_;unfold Zcp;rw [b8.out,ab];rfl
   unfold Zay;clear ab;go_wp2_with fail
   obtain ⟨FW,A,O⟩:=Za4 Q.out ae.out S u nx dh V dj;unfold stS ZK at A;rw [A];obtain ⟨ag,ah,f2,ai,aj,ak,al,am,ao,ap,bv⟩:=Zg O.out.1;clear A;refine bodyPost_ret (v:=.tuple #[wdA S u nx dh V dj,.int .i64 14]) (by simp [results,Tryz.results41,go_sem,ag,ah,f2,ai,aj,ak,al,am,ao,ap]) rfl ?_;rw [Y.out];exact ⟨u,V,dj,rfl,RefG.same HH.out O.out.2⟩
  | some k =>
   obtain ⟨y,az,_⟩:=ZbH ab;have HY:=Za az;obtain ⟨df,hD⟩:∃ df,ZbU S k 0=df:=⟨_,rfl⟩;have dk:Hid (df.srv[k]?=some ⟨y.id,y.pool,y.far,0⟩∧df.srv.length=S.srv.length∧df.wts=S.wts∧Sml df dh):=by
    rw [←hD];have ab:(S.srv.modify k (fun x=>{x with client:=0})).length=S.srv.length:=List.length_modify _ _ _;exact ⟨ZjI S.srv k 0 y az,ab,rfl,⟨HM.out.p,by show (S.srv.modify k _).length≤_;rw [ab];exact HM.out.s,HM.out.q,HM.out.t,HM.out.h⟩⟩
   have br:Hid (∀ T,(if ZaY df y=true then Zaa df k else df)=T→Zcp S nx c=⟨(ZI S.wts.length T nx).1,(ZI S.wts.length T nx).2,0,0⟩):=by
    intro T hT;unfold Zcp;rw [b8.out,ab];simp only [az,hD,hT];rfl
   have c9:(k:Int)<(S.srv.length:Int):=by
    have:=(Yc.1 az).1;omega
   have c7:(0:Int)≤(k:Int):=by omega
   have db:¬(k:Int)<0:=by omega
   have HD:=Za hD;unfold Zay;clear ab az hD;go_wp2_with fail
   refine (cs.out co ae.out).mono ?_;rintro e c0 ⟨m,ac,aa,rfl,cg,bw⟩;obtain ⟨U,hU,di⟩:=ZbY (cg.mono (show W.heap.size≤co.heap.size from ae.out.size)) nx;obtain ⟨g,bl⟩:∃ g,c0.heap.size=g:=⟨_,rfl⟩;have cp:=Za (Zb ae.out (Zb bw di.out.2.2.1));have cw:W.heap.size≤g:=by rw [←bl];exact Ym ae.out.size bw.size
   rw [bl] at di;have HG:=Za bl;clear hU cg bw bl D E a2 a3 a4 a5 I J L M N a1 a6 a7 a8 a9 bc bd be bf bg bh;go_upto_region 8 with fail
   rw [←di.out.1,HG.out];obtain ⟨D,E,a2,a3,a4,a5,I,J,L,M,N⟩:=Zg di.out.2.1;obtain ⟨aq,cu,ar,c8,ci,cj,ck,cl⟩:=ZbA (Zf di.out.2.2.2.s) HY.out;have cx:cu=0:=by
    have h:=di.out.2.2.2.s;rw [ar] at h;exact ZdB h
   subst cx;simp only [Nat.zero_add] at ci cj ck cl;have cz:∀ a,U.frozen? ⟨aq,a,none⟩=false:=by
    have h:=di.out.2.2.2.s;rw [ar] at h;exact fun a=>h.frozenAt a
   rw [ar] at a2;obtain ⟨X,hX⟩:∃ X,X=U.setCell ⟨aq,k*4+3,none⟩ (.int .i64 0):=⟨_,rfl⟩;have cv:W.heap.size≤aq:=(di.out.2.2.2.s.lt aq (by rw [ar];rfl)).1;have cq:Hid (Below W.heap.size W X):=by rw [hX];exact cp.out.setCell (by show W.heap.size≤aq;exact cv) _
   have bp:Hid (OwnW W.heap.size X df m dh ac aa):=by
    rw [hX,←HD.out];exact ZmW di.out.2.2.2 (Yd _) ar HY.out
   have bu:Hid (X=U.setCell ⟨aq,k*4+3,none⟩ (.int .i64 0)∧X.heap[g]?=some (bW df m nx dh ac aa)):=by
    refine ⟨hX,?_⟩;have cy:g≠aq:=fun e=>Zaf di.out.2.2.2.s di.out.2.1 (by decide) (by rw [ar,e];rfl)
    rw [hX,←HD.out];show _=some (bWs (.slice m.so (S.srv.modify k (fun x=>{x with client:=0})).length m.sc) S m nx dh ac aa);rw [List.length_modify];exact (Yf _ _ _ _ cy).trans di.out.2.1
   clear hX ar;go_upto_region 9 with fail
   rw [←bu.out.1];clear D E a2 a3 a4 a5 I J L M N ci cj ck cl cz;obtain ⟨D,E,a2,a3,a4,a5,I,J,L,M,N⟩:=Zg bu.out.2;have b9:=Za (ZmG df.bud m.po df.pools.length m.pc m.so df.srv.length m.sc m.wo df.wts.length m.wc m.tqo df.plan.length m.tc df.begun df.back nx dh.1 ac dh.2.length aa df.pools df.srv X k y.id y.pool y.far 0 bp.out.rows.p rfl (by have:=dk.out.2.2.2.p;omega) bp.out.rows.s rfl (by have:=dk.out.2.2.2.s;omega) dk.out.1);rw [show Zg3 df.bud df.pools df.srv ⟨y.id,y.pool,y.far,0⟩=ZaY df y from ZpY df y 0] at b9;go_wp2_with fail
   refine b9.out.mono ?_;rintro e ad ⟨rfl,bk⟩;have bj:=Za (Zb cq.out bk);have ca:=Za (Zk bu.out.2 bk);have b7:=Za (bp.out.nx bk);clear bk D E a2 a3 a4 a5 I J L M N;obtain ⟨D,E,a2,a3,a4,a5,I,J,L,M,N⟩:=Zg ca.out;obtain ⟨d,hd⟩:∃ d,ZaY df y=d:=⟨_,rfl⟩;rw [hd] at br ⊢;clear hd;cases d with
   | false =>
    have Y:=Za (br.out df rfl);have af:Hid (Sml df dh∧df.wts.length=S.wts.length∧df.srv.length≤S.srv.length):=⟨dk.out.2.2.2,by rw [dk.out.2.2.1],Nat.le_of_eq dk.out.2.1⟩;obtain ⟨⟨R,t⟩,hR⟩:∃ R,ZI S.wts.length df nx=R:=⟨_,rfl⟩;have bt:Hid (Calls Tryz.prog 56 #[wdA df m nx dh ac aa] ad fun e w'=>GaveS W.heap.size ad w' R t dh e):=by
     have:=ZfP W.heap.size S.wts.length df m nx dh ac aa ad bj.out.size b7.out af.out.1 (by have:=af.out.2;omega) (by have:=af.out.2;omega) cf (by omega);rw [hR] at this;exact this
    have bq:Hid (Zcp S nx c=⟨R,t,0,0⟩):=by
     have h:=Y.out;rw [hR] at h;exact h
    clear hR Y;go_wp2_with fail
    refine bt.out.mono ?_;rintro e c6 ⟨bi,ay,ax,rfl,a0,aw⟩;have av:=Za (Zb bj.out aw);have bo:=Za a0;clear a0 aw D E a2 a3 a4 a5 I J L M N;obtain ⟨a1,a6,a7,a8,a9,bc,bd,be,bf,bg,bh⟩:=Zg (Zk Q.out.b1 av.out);go_wp2_with fail
    obtain ⟨FW,A,O⟩:=ZaL Q.out av.out bo.out t;unfold stS ZK at A;rw [A];obtain ⟨ag,ah,f2,ai,aj,ak,al,am,ao,ap,bv⟩:=Zg O.out.1;clear A;refine bodyPost_ret (v:=.tuple #[wdA R bi t dh ay ax,.int .i64 0]) (by simp [results,Tryz.results41,go_sem,ag,ah,f2,ai,aj,ak,al,am,ao,ap]) rfl ?_;rw [bq.out];exact ⟨bi,ay,ax,rfl,ZcH (O.out.2.2.mono (by omega)) O.out.2.1⟩
   | true =>
    obtain ⟨T,hT⟩:∃ T,Zaa df k=T:=⟨_,rfl⟩;have Y:=Za (br.out T hT);have af:Hid (Sml T dh∧T.wts.length=S.wts.length∧T.srv.length≤S.srv.length):=by
     rw [←hT];have h:=dk.out.2.2.2;exact ⟨⟨h.p,Ym (List.length_eraseIdx_le _ _) h.s,h.q,h.t,h.h⟩,by show df.wts.length=_;rw [dk.out.2.2.1],by rw [←dk.out.2.1];exact List.length_eraseIdx_le _ _⟩
    have cr:Hid (Calls Tryz.prog 82 #[wdA df m nx dh ac aa,.int .i64 k] ad fun e w'=>GaveS ad.heap.size ad w' T nx dh e):=by rw [←hT];exact ZfR df m nx dh ac aa ad k b7.out.rows dk.out.2.2.2
    clear hT;go_wp2_with fail
    refine cr.out.mono ?_;rintro e de ⟨cm,ce,cd,rfl,ch,bx⟩;have bz:=Zk ca.out bx;obtain ⟨Z,hZ,HZ⟩:=Ze8 (ch.mono (show W.heap.size≤ad.heap.size from bj.out.size)) rfl bz nx;have bs:=ZeZ hZ;have b6:Hid (Below W.heap.size W Z):=HZ.out.2.1 _ _ (Zb bj.out bx) cw;clear ch bx D E a2 a3 a4 a5 I J L M N hZ;obtain ⟨D,E,a2,a3,a4,a5,I,J,L,M,N⟩:=Zg bz;clear bz;unfold stS ZK at bs;go_upto_region 12 with fail
    rw [bs.out];clear D E a2 a3 a4 a5 I J L M N bs;obtain ⟨D,E,a2,a3,a4,a5,I,J,L,M,N⟩:=Zg HZ.out.1;obtain ⟨⟨R,t⟩,hR⟩:∃ R,ZI S.wts.length T nx=R:=⟨_,rfl⟩;have bt:Hid (Calls Tryz.prog 56 #[wdA T cm nx dh ce cd] Z fun e w'=>GaveS W.heap.size Z w' R t dh e):=by
     have:=ZfP W.heap.size S.wts.length T cm nx dh ce cd Z b6.out.size HZ.out.2.2 af.out.1 (by have:=af.out.2;omega) (by have:=af.out.2;omega) cf (by omega);rw [hR] at this;exact this
    have bq:Hid (Zcp S nx c=⟨R,t,0,0⟩):=by
     have h:=Y.out;rw [hR] at h;exact h
    clear hR Y;go_wp2_with fail
    refine bt.out.mono ?_;rintro e c6 ⟨bi,ay,ax,rfl,a0,aw⟩;have av:=Za (Zb b6.out aw);have bo:=Za a0;clear a0 aw D E a2 a3 a4 a5 I J L M N;obtain ⟨a1,a6,a7,a8,a9,bc,bd,be,bf,bg,bh⟩:=Zg (Zk Q.out.b1 av.out);go_wp2_with fail
    obtain ⟨FW,A,O⟩:=ZaL Q.out av.out bo.out t;unfold stS ZK at A;rw [A];obtain ⟨ag,ah,f2,ai,aj,ak,al,am,ao,ap,bv⟩:=Zg O.out.1;clear A;refine bodyPost_ret (v:=.tuple #[wdA R bi t dh ay ax,.int .i64 0]) (by simp [results,Tryz.results41,go_sem,ag,ah,f2,ai,aj,ak,al,am,ao,ap]) rfl ?_;rw [bq.out];exact ⟨bi,ay,ax,rfl,ZcH (O.out.2.2.mono (by omega)) O.out.2.1⟩
 ·rw [decide_eq_false au];have Y:Hid (Zcp S nx c=⟨S,nx,0,10⟩):=by show _=_;unfold Zcp;rw [Zdf,decide_eq_false au];rfl
  clear au;go_wp2_with fail
  obtain ⟨FW,A,O⟩:=Za4 Q.out (Yh _ W) S u nx dh V dj;unfold stS ZK at A;rw [A];obtain ⟨ag,ah,f2,ai,aj,ak,al,am,ao,ap,bv⟩:=Zg O.out.1;clear A;refine bodyPost_ret (v:=.tuple #[wdA S u nx dh V dj,.int .i64 10]) (by simp [results,Tryz.results41,go_sem,ag,ah,f2,ai,aj,ak,al,am,ao,ap]) rfl ?_;rw [Y.out];exact ⟨u,V,dj,rfl,RefG.same HH.out O.out.2⟩
theorem Zqn (c:Int) (S:Zh) (op:Int) (d:Int×List Pl) (u:ZA) (m:Option Addr) (D:Nat) (w:World) (h:WdAt w S u d m D) (q:RefOk S op d) :
  Calls Tryz.prog 43 #[wdA S u (op+1) d m D,.int .i64 c] w fun e A=>LvG w A S u d m D (Zcb S (op+1) c) e:=
 ZsW S u (op+1) d m D c w h q.sml
theorem Zr8 (c:Int) (S:Zh) (op:Int) (d:Int×List Pl) (u:ZA) (q:Option Addr) (m:Nat) (w:World) (h:WdAt w S u d q m) (D:RefOk S op d) :
  Calls Tryz.prog 41 #[wdA S u (op+1) d q m,.int .i64 c] w fun e A=>LvG w A S u d q m (Zcp S (op+1) c) e:=
 Ztx S u (op+1) d q m c w h D.sml (by have:=D.num;omega) D.num.2.2.2.1 (by have:=D.num;have:=D.pot1;unfold pot at this;simp only at this;omega)
theorem Zp1 (c:Int) (S:Zh) (op:Int) (d:Int×List Pl) (u:ZA) (q:Option Addr) (m:Nat) (w:World) (h:WdAt w S u d q m) (D:RefOk S op d) :
  Calls Tryz.prog 45 #[wdA S u (op+1) d q m,.int .i64 c] w fun e A=>LvG w A S u d q m (Zct S (op+1) c) e:=
 ZsK S u (op+1) d q m c w h D.sml (by have:=D.num;omega) D.num.2.2.2.1 (by have:=D.num;have:=D.pot1;unfold pot at this;simp only at this;omega)
theorem ZiC {α:Type} (p:α→Bool) (l:List α):(l.findIdx? p).isSome=(l.find? p).isSome:=by
 cases d:l.findIdx? p with
 | none=>rw [(ZaU p l).2 d];rfl
 | some k=>obtain ⟨x,_,h⟩:=(ZaU p l).1 k d;rw [h];rfl
theorem Zec:∀ (f:Nat) (S:Zh) (nx:Int),(ZI f S nx).1.srv.length≤S.srv.length+f∧(ZI f S nx).1.wts.length≤S.wts.length∧(ZI f S nx).1.pools=S.pools∧(ZI f S nx).1.plan=S.plan∧(ZI f S nx).1.begun=S.begun∧(ZI f S nx).1.back=S.back
 | 0,S,nx=>⟨Yd _,Yd _,rfl,rfl,rfl,rfl⟩
 | f+1,S,nx=>by
  rw [ZI];have A:∀ (l:List Wtr) (i:Nat) (y:Zh×Int),ZaK S nx i l=some y→∃ k c,Z9 S nx k c=some y:=by
   intro l;induction l with
   | nil=>intro i y d;simp [ZaK] at d
   | cons c r ih =>
    intro i y d;rw [ZaK] at d;cases q:Z9 S nx i c with
    | some z=>rw [q] at d;exact ⟨i,c,by rw [q];exact d⟩
    | none=>rw [q] at d;exact ih _ _ d
  cases d:ZaK S nx 0 S.wts with
  | none=>exact ⟨Nat.le_add_right _ _,Yd _,rfl,rfl,rfl,rfl⟩
  | some y =>
   obtain ⟨k,c,q⟩:=A _ _ _ d;have h:=ZiZ q;have m:=Zec f y.1 y.2;have D:=List.length_eraseIdx_le S.wts k;simp only;rw [h.1] at m;exact ⟨by omega,by omega,m.2.2.1.trans h.2.2.1,m.2.2.2.1.trans h.2.2.2.1,m.2.2.2.2.1.trans h.2.2.2.2.2.2.1,m.2.2.2.2.2.trans h.2.2.2.2.2.2.2⟩
theorem Zud (S:Zh) (u:ZA) (nx:Int) (d:Int×List Pl) (E:Option Addr) (ez:Nat) (c:Int) (nm:ByteArray) (w:World) (h:WdAt w S u d E ez) (e0:Sml S d) (er:S.srv.length+S.wts.length+1≤549755813888) (d7:0≤nx) (es:nx+S.wts.length+1≤4611686018427387903) :
  Calls Tryz.prog 39 #[wdA S u nx d E ez,.int .i64 c,.string nm] w fun e w'=>Zs9 w w' S u d E ez (Zce S nx c nm) e:=by
 obtain ⟨W,A⟩:=Zbc w (bW S u nx d E ez);have HH:=Za h;have HM:=Za e0;have HO:=Za (h.rows.nx A.out.bel);have hW:w.heap.size+2≤W.heap.size:=by rw [A.out.eq];simp
 have dq:=Za (Zms S.bud u.po S.pools.length u.pc u.so S.srv.length u.sc u.wo S.wts.length u.wc u.tqo S.plan.length u.tc S.begun S.back nx d.1 E d.2.length ez c S.srv W HO.out.s rfl (by have:=e0.s;unfold maxLen;omega));have dw:=Za (fun v (hb:Below W.heap.size W v)=>ZoL S.bud u.po S.pools.length u.pc u.so S.srv.length u.sc u.wo S.wts.length u.wc u.tqo S.plan.length u.tc S.begun S.back nx d.1 E d.2.length ez c S.wts v (HO.out.nx hb).q rfl (by have:=e0.q;unfold maxLen;omega));have dj:=Za (fun v (hb:Below W.heap.size W v)=>rAt S.bud u.po _ u.pc nm S.pools v (HO.out.nx hb).p rfl (by have:=e0.p;unfold maxLen;omega));have dl:=Za (fun v (hb:Below W.heap.size W v)=>ZcL S u nx d E ez v (HO.out.nx hb) e0);clear h e0;unfold wdA;go_enter Tryz.func39,Tryz.ntmps39
 go_wp2_with fail
 rw [←A.out.eq];refine (ZjZ c 1 99 W).mono ?_;rintro e w1 ⟨rfl,cu⟩;obtain rfl:=cu.symm;clear cu;obtain ⟨ax,ay,a2,a3,a4,a5,e6,a0,a1,a6,az⟩:=Zg (Zk A.out.b0 (Yh _ W));obtain ⟨ah,ai,aj,ak,al,am,ao,ap,aq,ar,au⟩:=Zg (Zk A.out.b1 (Yh _ W));by_cases bf:1≤c∧c≤99
 ·rw [decide_eq_true bf];have bl:Hid (Zbi c=true):=by rw [Zdf];exact decide_eq_true bf
  clear bf;go_wp2_with fail
  refine dq.out.mono ?_;rintro e d8 ⟨rfl,cw⟩;have bk:=Za cw;clear cw ax ay a2 a3 a4 a5 e6 a0 a1 a6 az ah ai aj ak al am ao ap aq ar au;obtain ⟨ax,ay,a2,a3,a4,a5,e6,a0,a1,a6,az⟩:=Zg (Zk A.out.b0 bk.out);obtain ⟨ah,ai,aj,ak,al,am,ao,ap,aq,ar,au⟩:=Zg (Zk A.out.b1 bk.out);go_wp2_with fail
  refine (dw.out d8 bk.out).mono ?_;rintro e d9 ⟨rfl,cx⟩;have bd:=Za (Zb bk.out cx);clear cx ax ay a2 a3 a4 a5 e6 a0 a1 a6 az ah ai aj ak al am ao ap aq ar au;obtain ⟨ax,ay,a2,a3,a4,a5,e6,a0,a1,a6,az⟩:=Zg (Zk A.out.b0 bd.out);obtain ⟨ah,ai,aj,ak,al,am,ao,ap,aq,ar,au⟩:=Zg (Zk A.out.b1 bd.out);have av:=Za (And.intro (ZiC (Zp c) S.srv) (ZiC (Z3 c) S.wts));cases aw:S.srv.findIdx? (Zp c) with
  | some h =>
   rw [aw] at av;have dz:(0:Int)≤(h:Int):=by omega
   rw [show Zay (some h)=(h:Int) from rfl];clear aw;have V:Hid (Zce S nx c nm=⟨S,nx,0,11⟩):=by
    show _=_;unfold Zce;rw [bl.out,if_neg (by simp),if_pos (by rw [←av.out.1];rfl)]
   go_wp2_with fail
   obtain ⟨FW,ey,m⟩:=Za4 A.out bd.out S u nx d E ez;unfold stS ZK at ey;rw [ey];obtain ⟨e1,Y,f2,aa,ab,ac,ad,ae,af,ag,be⟩:=Zg m.out.1;clear ey;refine bodyPost_ret (v:=.tuple #[wdA S u nx d E ez,.int .i64 0,.int .i64 11]) (by simp [results,Tryz.results39,go_sem,e1,Y,f2,aa,ab,ac,ad,ae,af,ag]) rfl ?_;rw [V.out];exact ⟨u,E,ez,rfl,RefG.same HH.out m.out.2⟩
  | none =>
   rw [aw] at av;clear aw;cases bw:S.wts.findIdx? (Z3 c) with
   | some l =>
    rw [bw] at av;have eg:(0:Int)≤(l:Int):=by omega
    unfold Zay;clear bw;have V:Hid (Zce S nx c nm=⟨S,nx,0,11⟩):=by
     show _=_;unfold Zce;rw [bl.out,if_neg (by simp),if_pos (by rw [←av.out.2];simp)]
    go_wp2_with fail
    obtain ⟨FW,ey,m⟩:=Za4 A.out bd.out S u nx d E ez;unfold stS ZK at ey;rw [ey];obtain ⟨e1,Y,f2,aa,ab,ac,ad,ae,af,ag,be⟩:=Zg m.out.1;clear ey;refine bodyPost_ret (v:=.tuple #[wdA S u nx d E ez,.int .i64 0,.int .i64 11]) (by simp [results,Tryz.results39,go_sem,e1,Y,f2,aa,ab,ac,ad,ae,af,ag]) rfl ?_;rw [V.out];exact ⟨u,E,ez,rfl,RefG.same HH.out m.out.2⟩
   | none =>
    rw [bw] at av;have cp:Hid (((S.srv.find? (Zp c)).isSome||(S.wts.find? (Z3 c)).isSome)=false):=by
     rw [←av.out.1,←av.out.2];exact rfl
    unfold Zay;clear bw av;go_wp2_with fail
    refine (dj.out d9 bd.out).mono ?_;rintro e dh ⟨rfl,cy⟩;have a9:=Za (Zb bd.out cy);clear cy ax ay a2 a3 a4 a5 e6 a0 a1 a6 az ah ai aj ak al am ao ap aq ar au;obtain ⟨ax,ay,a2,a3,a4,a5,e6,a0,a1,a6,az⟩:=Zg (Zk A.out.b0 a9.out);obtain ⟨ah,ai,aj,ak,al,am,ao,ap,aq,ar,au⟩:=Zg (Zk A.out.b1 a9.out);cases bx:S.pools.findIdx? (Zl nm) with
    | none =>
     have dt:=Za ((ZaU (Zl nm) S.pools).2 bx);unfold Zay;clear bx;have V:Hid (Zce S nx c nm=⟨S,nx,0,12⟩):=by
      show _=_;unfold Zce;rw [bl.out,if_neg (by simp),if_neg (by rw [cp.out];simp),dt.out]
     go_wp2_with fail
     obtain ⟨FW,ey,m⟩:=Za4 A.out a9.out S u nx d E ez;unfold stS ZK at ey;rw [ey];obtain ⟨e1,Y,f2,aa,ab,ac,ad,ae,af,ag,be⟩:=Zg m.out.1;clear ey;refine bodyPost_ret (v:=.tuple #[wdA S u nx d E ez,.int .i64 0,.int .i64 12]) (by simp [results,Tryz.results39,go_sem,e1,Y,f2,aa,ab,ac,ad,ae,af,ag]) rfl ?_;rw [V.out];exact ⟨u,E,ez,rfl,RefG.same HH.out m.out.2⟩
    | some p =>
     obtain ⟨⟨ec,ed,cl,ee⟩,c8,c9⟩:=ZbH bx;have HX:=Za c8;have dx:=Za c9;have em:¬(p:Int)<0:=by omega
     have eh:(0:Int)≤(p:Int):=by omega
     unfold Zay;clear bx c8 c9;go_wp2_with fail
     refine (dl.out dh a9.out).mono ?_;rintro e ea ⟨df,bg,hc5,rfl,dd,cg⟩;obtain ⟨U,hU,HU⟩:=ZbY (dd.mono (show W.heap.size≤dh.heap.size from a9.out.size)) nx;obtain ⟨g,bt⟩:∃ g,ea.heap.size=g:=⟨_,rfl⟩;have cm:=Za (Zb a9.out (Zb cg HU.out.2.2.1));have cv:W.heap.size≤g:=by rw [←bt];exact Ym a9.out.size cg.size
     rw [bt] at HU;have HG:=Za bt;clear hU dd cg bt ax ay a2 a3 a4 a5 e6 a0 a1 a6 az ah ai aj ak al am ao ap aq ar au;go_upto_region 12 with fail
     rw [←HU.out.1,HG.out];obtain ⟨L,J,e2,e3,e4,e5,M,N,O,Q,R⟩:=Zg HU.out.2.1;have d6:S.wts.length+1≤1099511627776:=by omega
     have d0:W.heap.size≤U.heap.size:=cm.out.size;go_wp2_with (at_builtin;refine ZmP 88 41 2 24 _ Zlh Tryz.underlying41 rfl (by decide) (by decide) rfl (.tmp 45) (.tmp 49) rfl W.heap.size _ S.wts.length (ZE S.wts) rfl (HU.out.2.2.2.q.alloc _) U.heap.size 0 1 1 [.int .i64 c,.string nm] rfl rfl (ZaM U [.int .i64 c,.string nm] _ 1 rfl) (by intro u c7;simp at c7;rcases c7 with rfl | rfl <;> rfl) (by decide) d6 (by simp;omega) ?next)
     case next =>
      intro bp bo b9 c0 bu d1;have bq:=ZgQ bu HU.out.2.1 (Zaf HU.out.2.2.2.q HU.out.2.1 (by decide));have cz:Below W.heap.size W b9:=(cm.out.alloc d0 _).grown bu (by simp;omega) (fun b hb=>by have:=(HU.out.2.2.2.q.lt b hb).1;omega);obtain ⟨D,hD⟩:∃ D,Zad S c nm=D:=⟨_,rfl⟩;obtain ⟨v,ci⟩:∃ v:ZA,{df with wo:=some ⟨bp,0,none⟩,wc:=bo}=v:=⟨_,rfl⟩;obtain ⟨X,hX⟩:∃ X,X=b9.setCell ⟨g,3,none⟩ (.slice (some ⟨bp,0,none⟩) (S.wts.length+1) bo):=⟨_,rfl⟩;have cd:Hid (X=b9.setCell ⟨g,3,none⟩ (.slice (some ⟨bp,0,none⟩) (S.wts.length+1) bo)∧X.heap[g]?=some (bW D v nx d bg hc5)):=by
       refine ⟨hX,?_⟩;rw [hX,←hD,←ci];show _=some (bWq (.slice (some ⟨bp,0,none⟩) (S.wts++[_]).length bo) S df nx d bg hc5);rw [List.length_append];exact ZhQ bq _
      have co:Hid (Below W.heap.size W X):=by rw [hX];exact cz.setCell (by show W.heap.size≤g;exact cv) _
      have ds:Hid (OwnW W.heap.size X D v d bg hc5):=by
       have dy:OwnW W.heap.size b9 D v d bg hc5:=by rw [←hD,←ci];exact Zrn (x:=⟨c,nm⟩) HU.out.2.2.2 c0 bu
       rw [hX];exact dy.st1 bq _
      have cb:Hid (D.srv.length=S.srv.length∧D.wts.length=S.wts.length+1∧D.pools=S.pools∧D.plan=S.plan):=by
       rw [←hD];exact ⟨rfl,by show (S.wts++[_]).length=_;simp,rfl,rfl⟩
      have dr:Hid (Sml D d):=by
       have h:=cb.out;have e0:=HM.out;exact ⟨by rw [h.2.2.1];exact e0.p,by omega,by omega,by rw [h.2.2.2];exact e0.t,e0.h⟩
      obtain ⟨⟨T,t⟩,hT⟩:∃ T,ZI (S.wts.length+1) D nx=T:=⟨_,rfl⟩;have du:Hid (Calls Tryz.prog 56 #[wdA D v nx d bg hc5] X fun e w'=>GaveS W.heap.size X w' T t d e):=by
       have h:=cb.out;have:=ZfP W.heap.size (S.wts.length+1) D v nx d bg hc5 X co.out.size ds.out dr.out (by omega) (by omega) d7 (by omega);rw [hT] at this;exact this
      have bm:Hid (Sml T d∧T.pools[p]?=some ⟨ec,ed,cl,ee⟩):=by
       have h:=Zec (S.wts.length+1) D nx;rw [hT] at h;simp only at h;have ce:=cb.out;have e0:=HM.out;exact ⟨⟨by rw [h.2.2.1,ce.2.2.1];exact e0.p,by omega,by omega,by rw [h.2.2.2.1,ce.2.2.2];exact e0.t,e0.h⟩,by rw [h.2.2.1,ce.2.2.1];exact HX.out⟩
      have bj:Hid (Zce S nx c nm=match T.srv.find? (Zp c) with | some s=>⟨T,t,s.id,0⟩ | none=>if cl<(Zs (Zq nm) T.wts:Int) then ⟨S,nx,0,13⟩ else ⟨T,t,0,0⟩):=by
       have e:ZdU S nx c nm=(T,t):=by unfold ZdU;rw [hD];exact hT
       show _=_;unfold Zce;rw [bl.out,if_neg (by simp),if_neg (by rw [cp.out];simp),dx.out];simp only [e];rfl
      clear c0 bu d1 hX hD ci cz L J e2 e3 e4 e5 M N O Q R hT;obtain ⟨L,J,e2,e3,e4,e5,M,N,O,Q,R⟩:=Zg bq;clear bq;go_upto_region 13 with fail
      rw [←cd.out.1];clear L J e2 e3 e4 e5 M N O Q R;obtain ⟨L,J,e2,e3,e4,e5,M,N,O,Q,R⟩:=Zg cd.out.2;go_wp2_with fail
      refine du.out.mono ?_;rintro e ev ⟨I,a8,a7,rfl,de,ch⟩;have cj:=Zk cd.out.2 ch;obtain ⟨Z,hZ,HZ⟩:=Ze8 de rfl cj t;have cc:=ZeZ hZ;have dk:Hid (Below W.heap.size W Z):=HZ.out.2.1 _ _ (Zb co.out ch) cv;clear de ch L J e2 e3 e4 e5 M N O Q R hZ;obtain ⟨L,J,e2,e3,e4,e5,M,N,O,Q,R⟩:=Zg cj;clear cj;unfold stS ZK at cc;go_upto_region 14 with fail
      rw [cc.out];clear L J e2 e3 e4 e5 M N O Q R cc;obtain ⟨L,J,e2,e3,e4,e5,M,N,O,Q,R⟩:=Zg HZ.out.1;have dp:=Za (Zms T.bud I.po T.pools.length I.pc I.so T.srv.length I.sc I.wo T.wts.length I.wc I.tqo T.plan.length I.tc T.begun T.back t d.1 a8 d.2.length a7 c T.srv Z HZ.out.2.2.rows.s rfl (by have:=bm.out.1.s;unfold maxLen;omega));go_wp2_with fail
      refine dp.out.mono ?_;rintro e eb ⟨rfl,br⟩;have ca:=Za (Zb dk.out br);have cr:=Za (Zk HZ.out.1 br);have bi:=Za (HZ.out.2.2.nx br);clear br L J e2 e3 e4 e5 M N O Q R;obtain ⟨L,J,e2,e3,e4,e5,M,N,O,Q,R⟩:=Zg cr.out;cases aw:T.srv.findIdx? (Zp c) with
      | some h =>
       obtain ⟨y,ck,db⟩:=ZbH aw;have V:Hid (Zce S nx c nm=⟨T,t,y.id,0⟩):=by show _=_;rw [bj.out,db]
       have el:(h:Int)<(T.srv.length:Int):=by
        have:=(Yc.1 ck).1;omega
       have dz:(0:Int)≤(h:Int):=by omega
       have HY:=Za ck;unfold Zay;clear aw ck db bj;go_upto_region 16 with fail
       obtain ⟨ah,ai,aj,ak,al,am,ao,ap,aq,ar,au⟩:=Zg (Zk A.out.b1 ca.out);obtain ⟨ct,ef,bv,ej,bz,b6,b7,b8⟩:=ZbA (Zf bi.out.s) HY.out;have dm:=Za bv;rw [bv] at e2;have ek:ct≠w.heap.size+1:=fun e=>by have:=(bi.out.s.lt ct (by rw [bv];rfl)).1;omega
       have ei:g≠w.heap.size+1:=by omega
       clear bv;go_region
       go_wp2_with fail
       obtain ⟨di,ey,bc⟩:=ZaL A.out ca.out bi.out t;unfold stS ZK at ey;rw [dm.out] at ey;rw [ey];obtain ⟨FW,cf⟩:∃ FW,di.drew=FW:=⟨_,rfl⟩;have m:Hid (FW.heap[w.heap.size+1]?=some (bW T I t d a8 a7)∧Below w.heap.size w FW∧OwnW W.heap.size FW T I d a8 a7):=by rw [←cf];exact ⟨bc.out.1,bc.out.2.1.drew,⟨bc.out.2.2.p.drew,bc.out.2.2.s.drew,bc.out.2.2.q.drew,bc.out.2.2.t.drew,bc.out.2.2.h.drew⟩⟩
       rw [cf];obtain ⟨e1,Y,f2,aa,ab,ac,ad,ae,af,ag,be⟩:=Zg m.out.1;clear ey cf;refine bodyPost_ret (v:=.tuple #[wdA T I t d a8 a7,.int .i64 y.id,.int .i64 0]) (by simp [results,Tryz.results39,go_sem,e1,Y,f2,aa,ab,ac,ad,ae,af,ag]) rfl ?_;rw [V.out];exact ⟨I,a8,a7,rfl,ZcH (m.out.2.2.mono (by omega)) m.out.2.1⟩
      | none =>
       rw [(ZaU (Zp c) T.srv).2 aw] at bj;have dv:=Za (Zmg T.bud I.po T.pools.length I.pc I.so T.srv.length I.sc I.wo T.wts.length I.wc I.tqo T.plan.length I.tc T.begun T.back t d.1 a8 d.2.length a7 nm T.wts eb bi.out.rows.q rfl (by have:=bm.out.1.q;unfold maxLen;omega));unfold Zay;clear aw;go_wp2_with fail
       refine dv.out.mono ?_;rintro e ew ⟨rfl,bs⟩;have bh:=Za (Zb ca.out bs);have cs:=Za (Zk cr.out bs);have cq:=Za (bi.out.nx bs);clear bs L J e2 e3 e4 e5 M N O Q R;obtain ⟨L,J,e2,e3,e4,e5,M,N,O,Q,R⟩:=Zg cs.out;obtain ⟨et,eu,c6,eo,bz,b6,b7,b8⟩:=ZJ (Zf cq.out.p) bm.out.2;simp only at bz b6 b7 b8;have ep:(p:Int)<(T.pools.length:Int):=by
        have:=(Yc.1 bm.out.2).1;omega
       rw [c6] at J;clear c6;by_cases dc:cl<(Zs (Zq nm) T.wts:Int)
       ·have V:Hid (Zce S nx c nm=⟨S,nx,0,13⟩):=by show _=_;rw [bj.out,if_pos dc]
        go_upto_region 19 with fail
        clear L J e2 e3 e4 e5 M N O Q R bz b6 b7 b8;obtain ⟨ax,ay,a2,a3,a4,a5,e6,a0,a1,a6,az⟩:=Zg (Zk A.out.b0 bh.out);obtain ⟨ah,ai,aj,ak,al,am,ao,ap,aq,ar,au⟩:=Zg (Zk A.out.b1 bh.out);go_wp2_with fail
        obtain ⟨FW,ey,m⟩:=Za4 A.out bh.out S u nx d E ez;unfold stS ZK at ey;rw [ey];obtain ⟨e1,Y,f2,aa,ab,ac,ad,ae,af,ag,be⟩:=Zg m.out.1;clear ey;refine bodyPost_ret (v:=.tuple #[wdA S u nx d E ez,.int .i64 0,.int .i64 13]) (by simp [results,Tryz.results39,go_sem,e1,Y,f2,aa,ab,ac,ad,ae,af,ag]) rfl ?_;rw [V.out];exact ⟨u,E,ez,rfl,RefG.same HH.out m.out.2⟩
       ·have V:Hid (Zce S nx c nm=⟨T,t,0,0⟩):=by show _=_;rw [bj.out,if_neg dc]
        go_upto_region 20 with fail
        clear L J e2 e3 e4 e5 M N O Q R bz b6 b7 b8;obtain ⟨L,J,e2,e3,e4,e5,M,N,O,Q,R⟩:=Zg cs.out;obtain ⟨ah,ai,aj,ak,al,am,ao,ap,aq,ar,au⟩:=Zg (Zk A.out.b1 bh.out);go_wp2_with fail
        obtain ⟨FW,ey,m⟩:=ZaL A.out bh.out cq.out t;unfold stS ZK at ey;rw [ey];obtain ⟨e1,Y,f2,aa,ab,ac,ad,ae,af,ag,be⟩:=Zg m.out.1;clear ey;refine bodyPost_ret (v:=.tuple #[wdA T I t d a8 a7,.int .i64 0,.int .i64 0]) (by simp [results,Tryz.results39,go_sem,e1,Y,f2,aa,ab,ac,ad,ae,af,ag]) rfl ?_;rw [V.out];exact ⟨I,a8,a7,rfl,ZcH (m.out.2.2.mono (by omega)) m.out.2.1⟩
 ·rw [decide_eq_false bf];have V:Hid (Zce S nx c nm=⟨S,nx,0,10⟩):=by show _=_;unfold Zce;rw [Zdf,decide_eq_false bf];rfl
  clear bf;go_wp2_with fail
  obtain ⟨FW,ey,m⟩:=Za4 A.out (Yh _ W) S u nx d E ez;unfold stS ZK at ey;rw [ey];obtain ⟨e1,Y,f2,aa,ab,ac,ad,ae,af,ag,be⟩:=Zg m.out.1;clear ey;refine bodyPost_ret (v:=.tuple #[wdA S u nx d E ez,.int .i64 0,.int .i64 10]) (by simp [results,Tryz.results39,go_sem,e1,Y,f2,aa,ab,ac,ad,ae,af,ag]) rfl ?_;rw [V.out];exact ⟨u,E,ez,rfl,RefG.same HH.out m.out.2⟩
theorem ZsZ (c:Int) (nm:ByteArray) (S:Zh) (op:Int) (D:Int×List Pl) (u:ZA) (q:Option Addr) (m:Nat) (w:World) (h:WdAt w S u D q m) (d:RefOk S op D) :
  Calls Tryz.prog 39 #[wdA S u (op+1) D q m,.int .i64 c,.string nm] w fun e A=>Zs9 w A S u D q m (Zce S (op+1) c nm) e:=
 Zud S u (op+1) D q m c nm w h d.sml (by have:=d.num;have:=d.pot1;have:=d.ok.inv.len;unfold pot at *;simp only at *;omega) d.num.2.2.2.1 (by have:=d.num;have:=d.pot1;unfold pot at this;simp only at this;omega)
end Lw
end Go.Proofs.YtmgkcbdlfodjmaaGreatDoor
