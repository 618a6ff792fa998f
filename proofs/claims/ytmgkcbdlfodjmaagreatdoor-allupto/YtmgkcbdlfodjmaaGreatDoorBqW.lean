import Derived.Test.YtmgkcbdlfodjmaaGreatDoorBqV
set_option maxRecDepth 100000
set_option maxHeartbeats 16000000
namespace Go.Proofs.YtmgkcbdlfodjmaaGreatDoor
open Go.RowKit
namespace Lw
open Co
def ZtC (w w':World) (S:Zh) (u:ZA) (nx:Int) (Y:Int×List Pl) (ho:Option Addr) (hc:Nat) (r:Option (Zh×Int)) (e:Ending):Prop:=match r with
 | none=>e=.returned (.tuple #[wdA S u nx Y ho hc,.bool false])∧Below w.heap.size w w'
 | some y=>∃ u' ho' hc',e=.returned (.tuple #[wdA y.1 u' y.2 Y ho' hc',.bool true])∧OwnW w.heap.size w' y.1 u' Y ho' hc'∧Below w.heap.size w w'
theorem ZtA (S:Zh) (u:ZA) (nx:Int) (ew:Int×List Pl) (ac:Option Addr) (ab:Nat) (w:World) (i:Nat) (c:Wtr) (hO:RowX w S u ew ac ab) (aq:Sml S ew) (cu:S.wts[i]?=some c) (dk:0≤nx) (dl:nx≤4611686018427387903) :
  Calls Tryz.prog 96 #[wdA S u nx ew ac ab,.int .i64 i] w fun e w'=>ZtC w w' S u nx ew ac ab (Z9 S nx i c) e:=by
 obtain ⟨W,m⟩:=Zbc w (bW S u nx ew ac ab);have HO:=Za (hO.nx m.out.bel);have HM:=Za aq;have hW:w.heap.size+2≤W.heap.size:=by rw [m.out.eq];simp
 obtain ⟨V,e1⟩:=c;have el:(i:Int)<(S.wts.length:Int):=by
  have:=(Yc.1 cu).1;omega
 have ef:(0:Int)≤(i:Int):=by omega
 obtain ⟨bl,off,dd,ej,db,dc⟩:=Zdd HO.out.q cu;simp only at db dc;have dt:=Za dd;obtain ⟨E,hV⟩:∃ E,E=W.alloc (bWt V e1):=⟨_,rfl⟩;have d:Hid (E=W.alloc (bWt V e1)∧E.heap[W.heap.size]?=some (bWt V e1)∧Below W.heap.size W E):=⟨hV,by rw [hV];exact Zd _ _ rfl,by rw [hV];exact Zc _ _⟩;have ei:=d.out.2.2.size;have cj:=Za (fun v (hb:Below E.heap.size E v)=>HO.out.nx (Zb d.out.2.2 hb));have du:=Za (rAt S.bud u.po _ u.pc e1 S.pools E (HO.out.nx d.out.2.2).p rfl (by have:=aq.p;unfold maxLen;omega));have c6:=Za (fun v eb dy (hb:Below E.heap.size E v)=>ZtN S.bud u.po S.pools.length u.pc u.so S.srv.length u.sc u.wo S.wts.length u.wc u.tqo S.plan.length u.tc S.begun S.back nx ew.1 ac ew.2.length ab eb dy S.srv v (cj.out v hb).s rfl (by have:=aq.s;unfold maxLen;omega));have dw:=Za (fun v (hb:Below E.heap.size E v)=>Zjm S.bud u.po S.pools.length u.pc u.so S.srv.length u.sc u.wo S.wts.length u.wc u.tqo S.plan.length u.tc S.begun S.back nx ew.1 ac ew.2.length ab e1 S.srv v (cj.out v hb).s rfl (by have:=aq.s;unfold maxLen;omega));have bj:=Za (fun v (hb:Below E.heap.size E v)=>ZnG S u nx ew ac ab v i (cj.out v hb) aq);have bf:Hid (Sml (Zbp S i) ew):=⟨aq.p,aq.s,Ym (List.length_eraseIdx_le _ _) aq.q,aq.t,aq.h⟩;clear hO aq cu hV dd;unfold wdA;go_enter Tryz.func96,Tryz.ntmps96
 go_upto_region 1 with fail
 rw [←m.out.eq];obtain ⟨I,A,a2,a3,a4,a5,J,L,M,N,O⟩:=Zg m.out.b0;rw [dt.out] at a3;go_upto_region 2 with fail
 rw [←d.out.1];clear I A a2 a3 a4 a5 J L M N O db dc;obtain ⟨I,A,a2,a3,a4,a5,J,L,M,N,O⟩:=Zg (Zk m.out.b0 (Zb d.out.2.2 (Yh _ E)));obtain ⟨Q,c1⟩:=Zw (Zk d.out.2.1 (Yh _ E));go_wp2_with fail
 refine du.out.mono ?_;rintro e w1 ⟨rfl,de⟩;have bi:=Za de;clear de;clear I A a2 a3 a4 a5 J L M N O Q c1;obtain ⟨I,A,a2,a3,a4,a5,J,L,M,N,O⟩:=Zg (Zk m.out.b0 (Zb d.out.2.2 bi.out));obtain ⟨Q,c1⟩:=Zw (Zk d.out.2.1 bi.out);cases cl:S.pools.findIdx? (Zl e1) with
 | none =>
  have HL:Hid (Z9 S nx i ⟨V,e1⟩=none):=by
   show _=_;unfold Z9;simp only;rw [(ZaU (Zl e1) S.pools).2 cl]
  unfold Zay;clear cl;obtain ⟨bz,b6,b7,b8,b9,ca,cb,cc,cd,ce,cf⟩:=Zg (Zk m.out.b1 (Zb d.out.2.2 bi.out));go_wp2_with fail
  obtain ⟨FW,ez,e0⟩:=Za4 m.out (Zb d.out.2.2 bi.out) S u nx ew ac ab;unfold stS ZK at ez;rw [ez];obtain ⟨af,ag,f2,ah,ai,aj,ak,al,am,ao,bt⟩:=Zg e0.out.1;clear ez;refine bodyPost_ret (v:=.tuple #[wdA S u nx ew ac ab,.bool false]) (by simp [results,Tryz.results96,go_sem,af,ag,f2,ah,ai,aj,ak,al,am,ao]) rfl ?_;rw [HL.out];exact ⟨rfl,e0.out.2⟩
 | some p =>
  obtain ⟨⟨bc,ar,bd,be⟩,cw,dm⟩:=ZbH cl;have ep:¬(p:Int)<0:=by omega
  have eh:(0:Int)≤(p:Int):=by omega
  have es:(p:Int)<(S.pools.length:Int):=by
   have:=(Yc.1 cw).1;omega
  have HX:=Za cw;have bs:=Za dm;unfold Zay;clear cl cw dm;go_wp2_with fail
  refine (c6.out w1 e1 false bi.out).mono ?_;rintro e cm ⟨rfl,df⟩;have a7:=Za (Zb bi.out df);clear df;clear I A a2 a3 a4 a5 J L M N O Q c1;obtain ⟨I,A,a2,a3,a4,a5,J,L,M,N,O⟩:=Zg (Zk m.out.b0 (Zb d.out.2.2 a7.out));obtain ⟨Q,c1⟩:=Zw (Zk d.out.2.1 a7.out);cases a1:S.srv.findIdx? (ZU e1 false) with
  | some k =>
   obtain ⟨y,cy,_⟩:=ZbH a1;have HY:=Za cy;obtain ⟨T,hT⟩:∃ T,Zbp S i=T:=⟨_,rfl⟩;obtain ⟨D,hD⟩:∃ D,ZbU T k V=D:=⟨_,rfl⟩;have HL:Hid (Z9 S nx i ⟨V,e1⟩=some (D,nx)):=by
    show _=_;unfold Z9;simp only;rw [bs.out];simp only;rw [a1,←hD,←hT]
   have cq:Hid (T.srv=S.srv):=by rw [←hT];exact rfl
   have em:(k:Int)<(T.srv.length:Int):=by
    have:=(Yc.1 cy).1;rw [cq.out];omega
   have eg:(0:Int)≤(k:Int):=by omega
   rw [hT] at bj;have HD:=Za hD;unfold Zay;clear a1 cy hT hD;go_wp2_with fail
   refine (bj.out cm a7.out).mono ?_;rintro e ch ⟨ae,a6,hc5,rfl,a9,ap⟩;obtain ⟨U,hU,ey⟩:=ZbY a9 nx;obtain ⟨g,aa⟩:∃ g,ch.heap.size=g:=⟨_,rfl⟩;have ad:=Za (Zb a7.out (Zb ap ey.out.2.2.1));have cs:E.heap.size≤g:=by rw [←aa];exact Ym a7.out.size ap.size
   have dj:w.heap.size≤cm.heap.size:=by have:=a7.out.size;omega
   rw [aa] at ey;have HG:=Za aa;clear hU a9 ap aa;clear I A a2 a3 a4 a5 J L M N O Q c1;go_upto_region 8 with fail
   rw [←ey.out.1,HG.out];obtain ⟨I,A,a2,a3,a4,a5,J,L,M,N,O⟩:=Zg (Zk m.out.b0 (Zb d.out.2.2 ad.out));obtain ⟨Q,c1⟩:=Zw (Zk d.out.2.1 ad.out);obtain ⟨au,av,e2,e3,e4,e5,aw,ax,ay,az,a0⟩:=Zg ey.out.2.1;obtain ⟨bg,dz,bh,ek,e6,bm,bo,bp⟩:=ZbA (Zf ey.out.2.2.2.s) (show T.srv[k]?=some y by rw [cq.out];exact HY.out);have d6:dz=0:=by
    have h:=ey.out.2.2.2.s;rw [bh] at h;exact ZdB h
   subst d6;simp only [Nat.zero_add] at e6 bm bo bp;have ea:∀ a,U.frozen? ⟨bg,a,none⟩=false:=by
    have h:=ey.out.2.2.2.s;rw [bh] at h;exact fun a=>h.frozenAt a
   rw [bh] at e2;obtain ⟨X,hX⟩:∃ X,X=U.setCell ⟨bg,k*4+3,none⟩ (.int .i64 V):=⟨_,rfl⟩;have d0:E.heap.size≤bg:=Ym a7.out.size (ey.out.2.2.2.s.lt bg (by rw [bh];rfl)).1;have c0:Hid (Below E.heap.size E X):=by rw [hX];exact ad.out.setCell (by show E.heap.size≤bg;exact d0) _
   have dx:Hid (OwnW cm.heap.size X D ae ew a6 hc5):=by
    rw [hX,←HD.out];exact ZmW ey.out.2.2.2 (Yd _) bh (by rw [cq.out];exact HY.out)
   have c9:Hid (X=U.setCell ⟨bg,k*4+3,none⟩ (.int .i64 V)∧X.heap[g]?=some (bW D ae nx ew a6 hc5)):=by
    refine ⟨hX,?_⟩;have d8:g≠bg:=fun e=>Zaf ey.out.2.2.2.s ey.out.2.1 (by decide) (by rw [bh,e];rfl)
    rw [hX,←HD.out];show _=some (bWs (.slice ae.so (T.srv.modify k (fun x=>{x with client:=V})).length ae.sc) T ae nx ew a6 hc5);rw [List.length_modify];exact (Yf _ _ _ _ d8).trans ey.out.2.1
   clear hX bh;go_upto_region 9 with fail
   rw [←c9.out.1];clear I A a2 a3 a4 a5 J L M N O Q c1 au av e2 e3 e4 e5 aw ax ay az a0 e6 bm bo bp ea;obtain ⟨au,av,e2,e3,e4,e5,aw,ax,ay,az,a0⟩:=Zg c9.out.2;obtain ⟨bz,b6,b7,b8,b9,ca,cb,cc,cd,ce,cf⟩:=Zg (Zk m.out.b1 (Zb d.out.2.2 c0.out));go_wp2_with fail
   obtain ⟨FW,ez,e0⟩:=ZaL m.out (Zb d.out.2.2 c0.out) dx.out nx;unfold stS ZK at ez;rw [ez];obtain ⟨af,ag,f2,ah,ai,aj,ak,al,am,ao,bt⟩:=Zg e0.out.1;clear ez;refine bodyPost_ret (v:=.tuple #[wdA D ae nx ew a6 hc5,.bool true]) (by simp [results,Tryz.results96,go_sem,af,ag,f2,ah,ai,aj,ak,al,am,ao]) rfl ?_;rw [HL.out];exact ⟨ae,a6,hc5,rfl,e0.out.2.2.mono (by omega),e0.out.2.1⟩
  | none =>
   have HK:=Za a1;unfold Zay;clear a1;go_wp2_with fail
   refine (dw.out cm a7.out).mono ?_;rintro e co ⟨rfl,dh⟩;have Y:=Za (Zb a7.out dh);clear dh;clear I A a2 a3 a4 a5 J L M N O Q c1;obtain ⟨I,A,a2,a3,a4,a5,J,L,M,N,O⟩:=Zg (Zk m.out.b0 (Zb d.out.2.2 Y.out));obtain ⟨Q,c1⟩:=Zw (Zk d.out.2.1 Y.out);obtain ⟨et,eu,cv,er,e6,bm,bo,bp⟩:=ZJ (cj.out co Y.out).p HX.out;simp only at e6 bm bo bp;have ee:=Za cv;rw [cv] at A;clear cv;by_cases bk:ar≤(Zs (Zj e1) S.srv:Int)∨S.bud<(S.srv.length:Int)
   ·have HL:Hid (Z9 S nx i ⟨V,e1⟩=none):=by
     show _=_;unfold Z9;simp only;rw [bs.out];simp only;rw [HK.out];simp only;rw [if_pos bk]
    by_cases dp:ar≤(Zs (Zj e1) S.srv:Int);all_goals
     try have dq:S.bud<(S.srv.length:Int):=by omega
     clear bk;go_upto_region 12 with fail
     clear e6 bm bo bp;clear I A a2 a3 a4 a5 J L M N O Q c1;obtain ⟨I,A,a2,a3,a4,a5,J,L,M,N,O⟩:=Zg (Zk m.out.b0 (Zb d.out.2.2 Y.out));obtain ⟨Q,c1⟩:=Zw (Zk d.out.2.1 Y.out);obtain ⟨bz,b6,b7,b8,b9,ca,cb,cc,cd,ce,cf⟩:=Zg (Zk m.out.b1 (Zb d.out.2.2 Y.out));go_wp2_with fail
     obtain ⟨FW,ez,e0⟩:=Za4 m.out (Zb d.out.2.2 Y.out) S u nx ew ac ab;unfold stS ZK at ez;rw [ez];obtain ⟨af,ag,f2,ah,ai,aj,ak,al,am,ao,bt⟩:=Zg e0.out.1;clear ez;refine bodyPost_ret (v:=.tuple #[wdA S u nx ew ac ab,.bool false]) (by simp [results,Tryz.results96,go_sem,af,ag,f2,ah,ai,aj,ak,al,am,ao]) rfl ?_;rw [HL.out];exact ⟨rfl,e0.out.2⟩
   ·have dp:¬ar≤(Zs (Zj e1) S.srv:Int):=fun h=>bk (.inl h)
    have dq:¬S.bud<(S.srv.length:Int):=fun h=>bk (.inr h)
    have HZ:=Za bk;clear bk;go_upto_region 13 with fail
    clear e6 bm bo bp dp dq;clear I A a2 a3 a4 a5 J L M N O Q c1;obtain ⟨I,A,a2,a3,a4,a5,J,L,M,N,O⟩:=Zg (Zk m.out.b0 (Zb d.out.2.2 Y.out));obtain ⟨Q,c1⟩:=Zw (Zk d.out.2.1 Y.out);by_cases hb:(S.srv.length:Int)<S.bud
    ·obtain ⟨T,hT⟩:∃ T,Zbp S i=T:=⟨_,rfl⟩;have HL:Hid (Z9 S nx i ⟨V,e1⟩=some (ZcM T nx ⟨bc,ar,bd,be⟩ V,nx+1)):=by
      show _=_;unfold Z9;simp only;rw [bs.out];simp only;rw [HK.out];simp only;rw [if_neg HZ.out];unfold Zde;rw [if_pos hb,←hT]
     have ck:Hid (T.pools[p]?=some ⟨bc,ar,bd,be⟩∧Sml T ew):=by rw [←hT];exact ⟨HX.out,bf.out⟩
     rw [hT] at bj;clear hT;go_wp2_with fail
     refine (bj.out co Y.out).mono ?_;rintro e ch ⟨ae,a6,hc5,rfl,a9,ap⟩;obtain ⟨U,hU,ey⟩:=ZbY a9 nx;obtain ⟨g,aa⟩:∃ g,ch.heap.size=g:=⟨_,rfl⟩;have ad:=Za (Zb Y.out (Zb ap ey.out.2.2.1));have cs:E.heap.size≤g:=by rw [←aa];exact Ym Y.out.size ap.size
     have dj:w.heap.size≤co.heap.size:=by have:=Y.out.size;omega
     rw [aa] at ey;have HG:=Za aa;clear hU a9 ap aa;clear I A a2 a3 a4 a5 J L M N O Q c1;go_upto_region 15 with fail
     rw [←ey.out.1,HG.out];obtain ⟨I,A,a2,a3,a4,a5,J,L,M,N,O⟩:=Zg (Zk m.out.b0 (Zb d.out.2.2 ad.out));obtain ⟨Q,c1⟩:=Zw (Zk d.out.2.1 ad.out);obtain ⟨au,av,e2,e3,e4,e5,aw,ax,ay,az,a0⟩:=Zg ey.out.2.1;have br:=Za (Zm1 T ae nx ew a6 hc5 U p ⟨bc,ar,bd,be⟩ V ey.out.2.2.2.rows ck.out.2 ck.out.1 dk dl);obtain ⟨D,hD⟩:∃ D,ZcM T nx ⟨bc,ar,bd,be⟩ V=D:=⟨_,rfl⟩;rw [hD] at br HL;clear hD;go_wp2_with fail
     refine br.out.mono ?_;rintro e ed ⟨cg,bw,bv,rfl,bx,bu⟩;have bq:=Za (Zb ad.out bu);have cp:=Za bx;have d7:w.heap.size≤U.heap.size:=by have:=ad.out.size;omega
     clear bx bu au av e2 e3 e4 e5 aw ax ay az a0;clear I A a2 a3 a4 a5 J L M N O Q c1;obtain ⟨bz,b6,b7,b8,b9,ca,cb,cc,cd,ce,cf⟩:=Zg (Zk m.out.b1 (Zb d.out.2.2 bq.out));go_wp2_with fail
     obtain ⟨FW,ez,e0⟩:=ZaL m.out (Zb d.out.2.2 bq.out) cp.out (nx+1);unfold stS ZK at ez;rw [ez];obtain ⟨af,ag,f2,ah,ai,aj,ak,al,am,ao,bt⟩:=Zg e0.out.1;clear ez;refine bodyPost_ret (v:=.tuple #[wdA D cg (nx+1) ew bw bv,.bool true]) (by simp [results,Tryz.results96,go_sem,af,ag,f2,ah,ai,aj,ak,al,am,ao]) rfl ?_;rw [HL.out];exact ⟨cg,bw,bv,rfl,e0.out.2.2.mono (by omega),e0.out.2.1⟩
    ·have cz:=Za hb;go_wp2_with fail
     refine (c6.out co ⟨#[]⟩ true Y.out).mono ?_;rintro e ds ⟨rfl,di⟩;have a8:=Za (Zb Y.out di);clear di;clear I A a2 a3 a4 a5 J L M N O Q c1;obtain ⟨I,A,a2,a3,a4,a5,J,L,M,N,O⟩:=Zg (Zk m.out.b0 (Zb d.out.2.2 a8.out));obtain ⟨Q,c1⟩:=Zw (Zk d.out.2.1 a8.out);cases a1:S.srv.findIdx? (ZU ⟨#[]⟩ true) with
     | none =>
      have HL:Hid (Z9 S nx i ⟨V,e1⟩=none):=by
       show _=_;unfold Z9;simp only;rw [bs.out];simp only;rw [HK.out];simp only;rw [if_neg HZ.out];unfold Zde;rw [if_neg (by have:=cz.out;omega),a1]
      unfold Zay;clear a1;obtain ⟨bz,b6,b7,b8,b9,ca,cb,cc,cd,ce,cf⟩:=Zg (Zk m.out.b1 (Zb d.out.2.2 a8.out));go_wp2_with fail
      obtain ⟨FW,ez,e0⟩:=Za4 m.out (Zb d.out.2.2 a8.out) S u nx ew ac ab;unfold stS ZK at ez;rw [ez];obtain ⟨af,ag,f2,ah,ai,aj,ak,al,am,ao,bt⟩:=Zg e0.out.1;clear ez;refine bodyPost_ret (v:=.tuple #[wdA S u nx ew ac ab,.bool false]) (by simp [results,Tryz.results96,go_sem,af,ag,f2,ah,ai,aj,ak,al,am,ao]) rfl ?_;rw [HL.out];exact ⟨rfl,e0.out.2⟩
     | some k =>
      obtain ⟨T,hT⟩:∃ T,Zbp S i=T:=⟨_,rfl⟩;obtain ⟨R,hR⟩:∃ R,Zaa T k=R:=⟨_,rfl⟩;have HL:Hid (Z9 S nx i ⟨V,e1⟩=some (ZcM R nx ⟨bc,ar,bd,be⟩ V,nx+1)):=by
       show _=_;unfold Z9;simp only;rw [bs.out];simp only;rw [HK.out];simp only;rw [if_neg HZ.out];unfold Zde;rw [if_neg (by have:=cz.out;omega),a1,←hR,←hT]
      have ck:Hid (Sml T ew):=by rw [←hT];exact bf.out
      have c8:Hid (R.pools[p]?=some ⟨bc,ar,bd,be⟩∧Sml R ew):=by
       rw [←hR,←hT];exact ⟨HX.out,⟨bf.out.p,Ym (List.length_eraseIdx_le _ _) bf.out.s,bf.out.q,bf.out.t,bf.out.h⟩⟩
      rw [hT] at bj;have HR:=Za hR;have eo:¬(k:Int)<0:=by omega
      unfold Zay;clear hT a1 hR;go_wp2_with fail
      refine (bj.out ds a8.out).mono ?_;rintro e ch ⟨ae,a6,hc5,rfl,a9,ap⟩;obtain ⟨U,hU,ey⟩:=ZbY a9 nx;obtain ⟨g,aa⟩:∃ g,ch.heap.size=g:=⟨_,rfl⟩;have ad:=Za (Zb a8.out (Zb ap ey.out.2.2.1));have cs:E.heap.size≤g:=by rw [←aa];exact Ym a8.out.size ap.size
      have dj:w.heap.size≤ds.heap.size:=by have:=a8.out.size;omega
      rw [aa] at ey;have HG:=Za aa;clear hU a9 ap aa;clear I A a2 a3 a4 a5 J L M N O Q c1;go_upto_region 20 with fail
      rw [←ey.out.1,HG.out];obtain ⟨I,A,a2,a3,a4,a5,J,L,M,N,O⟩:=Zg (Zk m.out.b0 (Zb d.out.2.2 ad.out));obtain ⟨Q,c1⟩:=Zw (Zk d.out.2.1 ad.out);obtain ⟨au,av,e2,e3,e4,e5,aw,ax,ay,az,a0⟩:=Zg ey.out.2.1;have dv:Hid (Calls Tryz.prog 82 #[wdA T ae nx ew a6 hc5,.int .i64 k] U fun e w'=>GaveS U.heap.size U w' R nx ew e):=by rw [←HR.out];exact ZfR T ae nx ew a6 hc5 U k ey.out.2.2.2.rows ck.out
      go_wp2_with fail
      refine dv.out.mono ?_;rintro e ev ⟨ec,d9,d1,rfl,dr,ct⟩;have cx:=Zk ey.out.2.1 ct;obtain ⟨Z,hZ,cr⟩:=Ze8 dr rfl cx nx;have c7:=ZeZ hZ;have ci:Hid (Below E.heap.size E Z):=cr.out.2.1 _ _ (Zb ad.out ct) cs;clear dr ct au av e2 e3 e4 e5 aw ax ay az a0 hZ;clear I A a2 a3 a4 a5 J L M N O Q c1;obtain ⟨au,av,e2,e3,e4,e5,aw,ax,ay,az,a0⟩:=Zg cx;clear cx;unfold stS ZK at c7;go_upto_region 21 with fail
      rw [c7.out];clear au av e2 e3 e4 e5 aw ax ay az a0;obtain ⟨I,A,a2,a3,a4,a5,J,L,M,N,O⟩:=Zg (Zk m.out.b0 (Zb d.out.2.2 ci.out));obtain ⟨Q,c1⟩:=Zw (Zk d.out.2.1 ci.out);obtain ⟨au,av,e2,e3,e4,e5,aw,ax,ay,az,a0⟩:=Zg cr.out.1;have br:=Za (Zm1 R ec nx ew d9 d1 Z p ⟨bc,ar,bd,be⟩ V cr.out.2.2.rows c8.out.2 c8.out.1 dk dl);obtain ⟨D,hD⟩:∃ D,ZcM R nx ⟨bc,ar,bd,be⟩ V=D:=⟨_,rfl⟩;rw [hD] at br HL;clear hD;go_wp2_with fail
      refine br.out.mono ?_;rintro e ed ⟨cg,bw,bv,rfl,bx,bu⟩;have bq:=Za (Zb ci.out bu);have cp:=Za bx;have d7:w.heap.size≤Z.heap.size:=by have:=ci.out.size;omega
      clear bx bu au av e2 e3 e4 e5 aw ax ay az a0;clear I A a2 a3 a4 a5 J L M N O Q c1;obtain ⟨bz,b6,b7,b8,b9,ca,cb,cc,cd,ce,cf⟩:=Zg (Zk m.out.b1 (Zb d.out.2.2 bq.out));go_wp2_with fail
      obtain ⟨FW,ez,e0⟩:=ZaL m.out (Zb d.out.2.2 bq.out) cp.out (nx+1);unfold stS ZK at ez;rw [ez];obtain ⟨af,ag,f2,ah,ai,aj,ak,al,am,ao,bt⟩:=Zg e0.out.1;clear ez;refine bodyPost_ret (v:=.tuple #[wdA D cg (nx+1) ew bw bv,.bool true]) (by simp [results,Tryz.results96,go_sem,af,ag,f2,ah,ai,aj,ak,al,am,ao]) rfl ?_;rw [HL.out];exact ⟨cg,bw,bv,rfl,e0.out.2.2.mono (by omega),e0.out.2.1⟩
theorem ZiZ {S:Zh} {nx:Int} {i:Nat} {c:Wtr} {y:Zh×Int} (d:Z9 S nx i c=some y):y.1.wts=S.wts.eraseIdx i∧y.1.srv.length≤S.srv.length+1∧y.1.pools=S.pools∧y.1.plan=S.plan∧nx≤y.2∧y.2≤nx+1∧y.1.begun=S.begun∧y.1.back=S.back:=by
 unfold Z9 at d;split at d
 ·simp at d
 ·split at d
  ·simp only [Option.some.injEq] at d;subst d;exact ⟨rfl,by show (List.modify _ _ _).length≤_;rw [List.length_modify];exact Nat.le_succ _,rfl,rfl,Int.le_refl _,by simp;omega,rfl,rfl⟩
  ·split at d
   ·simp at d
   ·split at d
    ·simp at d
    ·simp only [Option.some.injEq] at d;subst d;exact ⟨rfl,by show (S.srv++[_]).length≤_;simp,rfl,rfl,by simp;omega,by simp,rfl,rfl⟩
    ·rename_i k _
     simp only [Option.some.injEq] at d;subst d;have:=List.length_eraseIdx_le S.srv k;exact ⟨rfl,by show (S.srv.eraseIdx k++[_]).length≤_;simp;omega,rfl,rfl,by simp;omega,by simp,rfl,rfl⟩
theorem ZfP (B:Nat) (f:Nat):∀ (S:Zh) (u:ZA) (nx:Int) (ci:Int×List Pl) (D:Option Addr) (A:Nat) (w:World),B≤w.heap.size→OwnW B w S u ci D A→Sml S ci→S.wts.length≤f→S.srv.length+f≤549755813888→0≤nx→nx+f≤4611686018427387903 →
  Calls Tryz.prog 56 #[wdA S u nx ci D A] w fun e w'=>GaveS B w w' (ZI f S nx).1 (ZI f S nx).2 ci e:=by
 induction f with
 | zero =>
  intro S u nx ci D A w hB hO ah bs _ _ _;obtain ⟨W,ch⟩:=Zbc w (bW S u nx ci D A);have HO:=Za (hO.nx ch.out.bel);have b9:¬(0:Int)<(S.wts.length:Int):=by omega
  have ca:¬0<S.wts.length:=by omega
  clear hO ah;unfold wdA;go_enter Tryz.func56,Tryz.ntmps56
  go_wp2_with fail
  rw [←ch.out.eq];go_loopw [3] (fun ak wr=>∃ k:Nat,ak=.int .i64 k∧k=0∧Hid (Below W.heap.size W wr)) (fun _ _=>0)
  case atStart=>exact ⟨0,rfl,rfl,Yh _ _⟩
  case round =>
   obtain ⟨k,rfl,rfl,d⟩:=hrel;obtain ⟨J,L,a2,a3,a4,a5,M,N,O,Q,cj⟩:=Zg (Zk ch.out.b0 d.out);obtain ⟨a8,a9,bc,bd,be,bf,bg,bh,bi,bj,bk⟩:=Zg (Zk ch.out.b1 d.out);go_wp2_with fail
   obtain ⟨FW,I,E⟩:=ZaL ch.out d.out (HO.out.nx d.out) (nx);unfold stS ZK at I;rw [I];obtain ⟨V,X,f2,Y,aa,ab,ac,ad,ae,af,ay⟩:=Zg E.out.1;clear I;refine bodyPost_ret (v:=wdA S u nx ci D A) (by simp [results,Tryz.results56,go_sem,V,X,f2,Y,aa,ab,ac,ad,ae,af]) rfl ?_;exact ⟨u,D,A,rfl,E.out.2.2,E.out.2.1⟩
 | succ f ih =>
  intro S u nx ci D A w hB hO ah bs ce bw cf;obtain ⟨W,ch⟩:=Zbc w (bW S u nx ci D A);have HO:=Za (hO.nx ch.out.bel);have HM:=Za ah;have IH:=Za ih;have hW:w.heap.size≤W.heap.size:=ch.out.bel.size;have bp:=Za (fun v (hb:Below W.heap.size W v) (i:Nat) (c:Wtr) (bt:S.wts[i]?=some c)=>ZtA S u nx ci D A v i c (HO.out.nx hb).rows ah bt bw (by omega));obtain ⟨m,aq⟩:∃ m,S.wts.length=m:=⟨_,rfl⟩;have ck:=Za aq;have au:Hid (∀ v,Below W.heap.size W v→v.heap[w.heap.size]?=some (bWq (.slice u.wo m u.wc) S u nx ci D A)):=fun v hb=>by rw [←aq];exact Zk ch.out.b0 hb
  have cd:m≤f+1:=by omega
  clear hO ih ah aq;unfold wdA;go_enter Tryz.func56,Tryz.ntmps56
  go_wp2_with fail
  rw [←ch.out.eq];go_loopw [3] (fun ak wr=>∃ k:Nat,k≤m∧ak=.int .i64 k∧Hid (ZaK S nx k (S.wts.drop k)=ZaK S nx 0 S.wts)∧Hid (Below W.heap.size W wr)) (fun ak _=>m - (intOf ak).toNat)
  case atStart=>exact ⟨0,Ye _,rfl,rfl,Yh _ _⟩
  case round =>
   obtain ⟨k,b8,rfl,HT,d⟩:=hrel;by_cases a1:k<m
   ·obtain ⟨c,ap⟩:∃ x,S.wts[k]?=some x:=⟨_,Yb (by rw [ck.out];exact a1)⟩;have al:Hid (ZaK S nx 0 S.wts=match Z9 S nx k c with | some y=>some y | none=>ZaK S nx (k+1) (S.wts.drop (k+1))):=by
     obtain ⟨bu,e⟩:=Yc.1 ap;show _=_;rw [←HT.out,List.drop_eq_getElem_cons bu,e];rfl
    have bo:=Za (bp.out wr d.out k c ap);have cc:(k:Int)<(m:Int):=by omega
    have bz:=Za ap;clear ap;obtain ⟨J,L,a2,a3,a4,a5,M,N,O,Q,cj⟩:=Zg (au.out wr d.out);go_upto_region 4 with fail
    clear J L a2 a3 a4 a5 M N O Q cj;obtain ⟨J,L,a2,a3,a4,a5,M,N,O,Q,cj⟩:=Zg (Zk ch.out.b0 d.out);go_wp2_with fail
    refine bo.out.mono ?_;intro e w1 ao;cases aj:Z9 S nx k c with
    | none =>
     rw [aj] at ao al;obtain ⟨rfl,ag⟩:=ao;have bm:=Za (Zb d.out ag);clear ag aj;go_wp2_with fail
     go_roundw
     case rel=>exact ⟨k+1,by omega,by go_num,al.out.symm,Zb bm.out (Zc _ _)⟩
     case measure=>simp [intOf];omega
    | some y =>
     obtain ⟨T,t⟩:=y;rw [aj] at ao al;have ai:=ZiZ aj;simp only at ai;obtain ⟨bx,bv,br,rfl,ar,ag⟩:=ao;simp only at ar;obtain ⟨U,hU,HU⟩:=ZbY ar t;have av:=Za (Zb d.out (Zb ag HU.out.2.2.1));have b6:=av.out.size;have b7:T.wts.length+1=m:=by
      rw [ai.1,List.length_eraseIdx_of_lt (by rw [ck.out];exact a1),ck.out];omega
     have bq:Hid (Sml T ci):=by
      have h:=HM.out;exact ⟨by rw [ai.2.2.1];exact h.p,by omega,by have:=h.q;have:=ck.out;omega,by rw [ai.2.2.2.1];exact h.t,h.h⟩
     have HI:=Za (IH.out T bx t ci bv br U (by omega) (HU.out.2.2.2.mono (by have:=d.out.size;omega)) bq.out (by omega) (by omega) (by omega) (by omega));have am:Hid (ZI (f+1) S nx=ZI f T t):=by show _=_;rw [ZI,al.out]
     clear hU ar ag aj J L a2 a3 a4 a5 M N O Q cj ai;go_upto_region 6 with fail
     rw [←HU.out.1];obtain ⟨J,L,a2,a3,a4,a5,M,N,O,Q,cj⟩:=Zg HU.out.2.1;obtain ⟨⟨R,r⟩,hR⟩:∃ R,ZI f T t=R:=⟨_,rfl⟩;rw [hR] at HI am;clear hR;go_wp2_with fail
     refine HI.out.mono ?_;rintro e cg ⟨bl,a6,a0,rfl,a7,az⟩;have aw:=Za (Zb av.out az);have ax:=Za a7;clear a7 az J L a2 a3 a4 a5 M N O Q cj;simp only at ax ⊢;obtain ⟨a8,a9,bc,bd,be,bf,bg,bh,bi,bj,bk⟩:=Zg (Zk ch.out.b1 aw.out);go_wp2_with fail
     obtain ⟨FW,I,E⟩:=ZaL ch.out aw.out ax.out (r);unfold stS ZK at I;rw [I];obtain ⟨V,X,f2,Y,aa,ab,ac,ad,ae,af,ay⟩:=Zg E.out.1;clear I;refine bodyPost_ret (v:=wdA R bl r ci a6 a0) (by simp [results,Tryz.results56,go_sem,V,X,f2,Y,aa,ab,ac,ad,ae,af]) rfl ?_;rw [am.out];exact ⟨bl,a6,a0,rfl,E.out.2.2,E.out.2.1⟩
   ·have am:Hid (ZI (f+1) S nx=(S,nx)):=by
     have h:=HT.out;rw [List.drop_of_length_le (by rw [ck.out];omega)] at h;show _=_;rw [ZI,←h];rfl
    have cb:¬(k:Int)<(m:Int):=by omega
    obtain ⟨J,L,a2,a3,a4,a5,M,N,O,Q,cj⟩:=Zg (au.out wr d.out);go_upto_region 7 with fail
    clear J L a2 a3 a4 a5 M N O Q cj;obtain ⟨J,L,a2,a3,a4,a5,M,N,O,Q,cj⟩:=Zg (Zk ch.out.b0 d.out);obtain ⟨a8,a9,bc,bd,be,bf,bg,bh,bi,bj,bk⟩:=Zg (Zk ch.out.b1 d.out);go_wp2_with fail
    obtain ⟨FW,I,E⟩:=ZaL ch.out d.out (HO.out.nx d.out) (nx);unfold stS ZK at I;rw [I];obtain ⟨V,X,f2,Y,aa,ab,ac,ad,ae,af,ay⟩:=Zg E.out.1;clear I;refine bodyPost_ret (v:=wdA S u nx ci D A) (by simp [results,Tryz.results56,go_sem,V,X,f2,Y,aa,ab,ac,ad,ae,af]) rfl ?_;rw [am.out];exact ⟨u,D,A,rfl,E.out.2.2,E.out.2.1⟩
end Lw
end Go.Proofs.YtmgkcbdlfodjmaaGreatDoor
