import Derived.Test.YtcpikklofilkcaaGreatNqY
set_option maxRecDepth 100000
set_option maxHeartbeats 16000000
namespace Go.Proofs.YtcpikklofilkcaaGreat
open Go.RowKit
namespace Lw
open Co
theorem appendR {w:World} {ops:Array Oper} {rest:List Oper} {o:Oper} {a:Act} {Q:Exit→Act→World→Prop} (ty tyl:TypeId) (sz bytes:Nat) (z:Value) (hinfo:(Tryz.prog.info? ty).map (fun i=>(i.zero,i.size,i.bytes))=some (some z,sz,bytes)) (hund:Tryz.prog.underlying tyl=some (.slice ty)) (hzs:z.cells.size=sz) (hsz:0<sz) (hby:bytes≤64)
  (hgd:o.guard=none) (s x:Operand) (ho:o.op=.call {callee:=.builtin .append,args:=#[s,x],argTypes:=#[tyl,tyl]}) (base:Nat)
  (v:Value) (n:Nat) (xs:List Value) (hs:a.eval s=v) (hown:w.ownsRow base ty sz v n xs)
  (b off:Nat) (m c:Nat) (news:List Value) (hx:a.eval x=.slice (some ⟨b,off,none⟩) m c) (hnl:news.length=m*sz) (hrow:RowAt w (.slice (some ⟨b,off,none⟩) m c) m news) (hone:∀ u∈news,u.oneCell'=true) (hm:0<m)
  (h6:n+m≤1099511627776) (hbase:base≤w.heap.size)
  (h:∀ g cap w',w'.ownsRow base ty sz (.slice (some ⟨g,0,none⟩) (n+m) cap) (n+m) (xs++news)→w.grownBy w' v.ownBlock→(v.ownBlock=some g∨g=w.heap.size)→wpList Tryz.prog ops Q rest (a.put o.dst (.slice (some ⟨g,0,none⟩) (n+m) cap)) w'):wpList Tryz.prog ops Q (o :: rest) a w:=by
 obtain ⟨t0,hi,hz0,hz1,hz2⟩:=info_parts hinfo;refine wpList_plain hgd fun _ hK=>wp_append_lies w s x tyl ho base ty t0 z sz bytes hund hi hz0 hz1 hz2 hzs hsz v n xs hs hown ⟨b,off,none⟩ m c news hx hnl ?_ hone hm (by unfold maxLen;omega) ?_ hbase _ rfl fun g cap w' h2 h3 h4 _=>hK _ _ (h g cap w' h2 h3 h4)
 ·intro j u hj;obtain ⟨b',off',e,_,g⟩:=hrow.at hj;simp only [Option.some.injEq,Addr.mk.injEq,and_true] at e;obtain ⟨rfl,rfl⟩:=e;rw [show (⟨b,off,none⟩:Addr).add j=⟨b,off+j,none⟩ by unfold Addr.add;split <;> simp_all];exact g
 ·have:(n+m)*bytes≤1099511627776*64:=Nat.mul_le_mul h6 hby;omega
theorem Z1 {u v:World} {B B':Nat} {e e':TypeId} {sz sz' n n':Nat} {x x':Value} {xs xs':List Value} (h:u.ownsRow B e sz x n xs) (h':u.ownsRow B' e' sz' x' n' xs') (ht:e≠e') (hg:u.grownBy v x'.ownBlock):v.ownsRow B e sz x n xs:=
 Zj h (fun j hj=>hg.block j (h.lt j hj).2 (fun e2=>Z0 h h' ht hj e2.symm))
theorem Zaf {α:Type} (f:α→α):∀ {l:List α} {k:Nat} {x:α},l[k]?=some x→l.modify k f=l.set k (f x)
 | [],k,x,h=>by simp at h
 | y :: r,0,x,h=>by
  obtain rfl:y=x:=by simpa using h
  rfl
 | y :: r,k+1,x,h=>by
  have ih:=Zaf f (l:=r) (k:=k) (x:=x) (by simpa using h);simp [ih]
theorem Zet:∀ (l:List Srv) (i:Nat) (x:Srv) (c:Int),l[i]?=some x→(flatV l).set (i*4+3) (.int .i64 c)=flatV (l.set i {x with client:=c})
 | [],i,x,c,h=>by simp at h
 | y :: l,0,x,c,h=>by
  obtain rfl:y=x:=by simpa using h
  rfl
 | y :: l,i+1,x,c,h=>by
  have ih:=Zet l i x c (by simpa using h);have e:(i+1)*4+3=(i*4+3)+1+1+1+1:=by omega
  rw [e];show fSv y++(flatV l).set (i*4+3) (.int .i64 c)=fSv y++flatV (l.set i {x with client:=c});rw [ih]
theorem ZE {w W w1:World} {o:Obj} (h:Ent w W o) (hb:Below W.heap.size W w1) (S:Sta) (u:Stv) (nx:Int) (Y:Int×List Pl) (ho:Option Addr) (hc:Nat):∃ FW,stS w1 (w.heap.size+1) S u nx Y ho hc=FW∧Hid (FW.heap[w.heap.size+1]?=some (bW S u nx Y ho hc)∧Below w.heap.size w FW):=
 ⟨_,rfl,Zag (Ze h.b1 hb) _ _ _ _ _ _ _ _ _ _,Zas (Za h.bel hb) (Nat.le_succ _) _ _ _ _ _ _ _ _ _ _⟩
theorem Zbg {w:World} {g B:Nat} {cs:Array Value} {S:Sta} {u:Stv} {Y:Int×List Pl} {ho:Option Addr} {hc:Nat} {c0 c1 c2 c3 c4 c5 c6 c7 c8 c9:Value} (hO:OwnW B w S u Y ho hc) (hcs:cs=#[c0,c1,c2,c3,c4,c5,c6,c7,c8,c9]) (hg:w.heap[g]?=some (.cells cs 38 (0,0))) (nx:Int) :
  ∃ U,stS w g S u nx Y ho hc=U∧Hid (U.heap[g]?=some (bW S u nx Y ho hc)∧(∀ C a,Below C a w→C≤g→Below C a U)∧OwnW B U S u Y ho hc):=by
 subst hcs;exact ⟨_,rfl,Zag hg _ _ _ _ _ _ _ _ _ _,fun C a h hC=>Zas h hC _ _ _ _ _ _ _ _ _ _,hO.st hg _ _ _ _ _ _ _ _ _ _⟩
theorem Zbd {w U:World} {g:Nat} {S:Sta} {u:Stv} {nx:Int} {Y:Int×List Pl} {ho:Option Addr} {hc:Nat} (h:stS w g S u nx Y ho hc=U):Hid (stS w g S u nx Y ho hc=U):=h
theorem Zat {w:World} {B:Nat} {e:TypeId} {sz n m gs gf cap:Nat} {xs:List Value} (h:w.ownsRow B e sz (.slice (some ⟨gs,gf,none⟩) n cap) m xs):gf=0:=by
 rcases h.2 with ⟨h',_⟩ | ⟨g',cap',cur,h',_⟩
 ·simp at h'
 ·simp at h';exact h'.1.2
theorem ZgD {B C gs k:Nat} {w:World} {S:Sta} {u:Stv} {Y:Int×List Pl} {ho:Option Addr} {hc:Nat} {c:Int} {y:Srv} (hO:OwnW C w S u Y ho hc) (hB:B≤C) (hgo:u.so=some ⟨gs,0,none⟩) (hy:S.srv[k]?=some y):OwnW B (w.setCell ⟨gs,k*4+3,none⟩ (.int .i64 c)) (rSet S k c) u Y ho hc:=by
 have hv:(Value.slice u.so S.srv.length u.sc).ownBlock=some gs:=by rw [hgo];rfl
 have h:=hO.s;rw [hgo] at h;refine ⟨Zi (Zr hO.p (Z0 hO.s hO.p (by decide) hv)) hB,?_,Zi (Zr hO.q (Z0 hO.s hO.q (by decide) hv)) hB,Zi (Zr hO.t (Z0 hO.s hO.t (by decide) hv)) hB,Zi (Zr hO.h (Z0 hO.s hO.h (by decide) hv)) hB⟩;show (w.setCell ⟨gs,k*4+3,none⟩ (.int .i64 c)).ownsRow B 74 4 (.slice u.so (S.srv.modify k (fun x=>{x with client:=c})).length u.sc) (S.srv.modify k (fun x=>{x with client:=c})).length (flatV (S.srv.modify k (fun x=>{x with client:=c})));rw [Zaf (fun x=>{x with client:=c}) hy,←Zet _ _ _ c hy,List.length_set,hgo];have:=(h.stored (k*4+3) (.int .i64 c)).1;exact Zi (by simpa [Nat.add_assoc] using this) hB
theorem ZjS {C g6 cap6:Nat} {w w6:World} {o:Obj} {S:Sta} {u:Stv} {Y:Int×List Pl} {ho:Option Addr} {hc:Nat} {x:Srv} (h:OwnW C w S u Y ho hc) (h6:w6.ownsRow C 74 4 (.slice (some ⟨g6,0,none⟩) (S.srv.length+1) cap6) (S.srv.length+1) (flatV S.srv++[.int .i64 x.id,.string x.pool,.int .i64 x.far,.int .i64 x.client])) (hg:(w.alloc o).grownBy w6 (Value.slice u.so S.srv.length u.sc).ownBlock) :
  OwnW C w6 {S with srv:=S.srv++[x]} {u with so:=some ⟨g6,0,none⟩,sc:=cap6} Y ho hc:=by
 have ha:=h.nx (Zb w o);refine ⟨Z1 ha.p ha.s (by decide) hg,?_,Z1 ha.q ha.s (by decide) hg,Z1 ha.t ha.s (by decide) hg,Z1 ha.h ha.s (by decide) hg⟩;show w6.ownsRow C 74 4 (.slice (some ⟨g6,0,none⟩) (S.srv++[x]).length cap6) (S.srv++[x]).length (flatV (S.srv++[x]));rw [List.length_append];unfold flatV;rw [List.flatMap_append];exact h6
theorem ZjR {C g6 cap6:Nat} {w w6:World} {o:Obj} {S:Sta} {u:Stv} {Y:Int×List Pl} {ho:Option Addr} {hc:Nat} {x:Wtr} (h:OwnW C w S u Y ho hc) (h6:w6.ownsRow C 76 2 (.slice (some ⟨g6,0,none⟩) (S.wts.length+1) cap6) (S.wts.length+1) (flatW S.wts++[.int .i64 x.client,.string x.pool])) (hg:(w.alloc o).grownBy w6 (Value.slice u.wo S.wts.length u.wc).ownBlock) :
  OwnW C w6 {S with wts:=S.wts++[x]} {u with wo:=some ⟨g6,0,none⟩,wc:=cap6} Y ho hc:=by
 have ha:=h.nx (Zb w o);refine ⟨Z1 ha.p ha.q (by decide) hg,Z1 ha.s ha.q (by decide) hg,?_,Z1 ha.t ha.q (by decide) hg,Z1 ha.h ha.q (by decide) hg⟩;show w6.ownsRow C 76 2 (.slice (some ⟨g6,0,none⟩) (S.wts++[x]).length cap6) (S.wts++[x]).length (flatW (S.wts++[x]));rw [List.length_append];unfold flatW;rw [List.flatMap_append];exact h6
theorem Zcn {w w6:World} {o o':Obj} {v:Value} {b:Nat} (hg:(w.alloc o).grownBy w6 v.ownBlock) (h:w.heap[b]?=some o') (hne:v.ownBlock≠some b):w6.heap[b]?=some o':=
 (hg.block b (by have:=(Array.getElem?_eq_some_iff.1 h).1;simp;omega) (fun e=>hne e.symm)).trans ((Zf _ _ (Array.getElem?_eq_some_iff.1 h).1).trans h)
theorem xOpened (S:Sta) (u:Stv) (nx:Int) (Y:Int×List Pl) (ho:Option Addr) (hc:Nat) (w:World) (p:Nat) (x:Pl) (cl:Int) (hO:RowX w S u Y ho hc) (hm:Sml S Y) (hx:S.pools[p]?=some x) (hx0:0≤nx) (hx1:nx≤4611686018427387903) :
  Calls Tryz.prog 127 #[wdA S u nx Y ho hc,.int .i64 p,.int .i64 cl] w fun e w'=>GaveS w.heap.size w w' (rOpened S nx x cl) (nx+1) Y e:=by
 obtain ⟨W,HW⟩:=ZH w (bW S u nx Y ho hc);have HO:=hideIt (hO.nx HW.out.bel);have hW:w.heap.size+2≤W.heap.size:=by rw [HW.out.eq];simp
 have HCO:=hideIt (xCopied S u nx Y ho hc W HO.out hm);have HM:=hideIt hm;have HX:=hideIt hx;have hpn:(p:Int)<(S.pools.length:Int):=by
  have:=(List.getElem?_eq_some_iff.1 hx).1;omega
 have h0p:(0:Int)≤(p:Int):=by omega
 obtain ⟨x0,x1,x2,x3⟩:=x;clear hO hm hx;unfold wdA;go_enter Tryz.func127,Tryz.ntmps127
 go_wp2_with fail
 rw [←HW.out.eq];refine HCO.out.mono ?_;rintro e w1 ⟨u1,ho1,hc1,rfl,o1,hb1⟩;obtain ⟨U,hU,HU⟩:=ZS o1 nx;obtain ⟨g,hg⟩:∃ g,w1.heap.size=g:=⟨_,rfl⟩;have HBU:=hideIt (Za hb1 HU.out.2.2.1);have hWg:W.heap.size≤g:=by rw [←hg];exact hb1.size
 rw [hg] at HU;have HG:=hideIt hg;clear hU o1 hb1 hg;go_upto_region 2 with fail
 rw [←HU.out.1,HG.out];obtain ⟨a0,a1,a2,a3,a4,a5,a6,a7,a8,a9,az⟩:=blk10 (Ze HW.out.b0 HBU.out);obtain ⟨bl,off,hao,hbl,d0,d1,d2,d3⟩:=Zn (HO.out.nx HBU.out).p HX.out;rw [hao] at a1;simp only at d0 d1 d2 d3;obtain ⟨V,hV⟩:∃ V,V=U.alloc (bPl ⟨x0,x1,x2,x3⟩):=⟨_,rfl⟩;have HV:Hid (V=U.alloc (bPl ⟨x0,x1,x2,x3⟩)∧Below U.heap.size U V∧V.heap[U.heap.size]?=some (bPl ⟨x0,x1,x2,x3⟩)):=⟨hV,by rw [hV];exact Zb _ _,by rw [hV];exact Zc _ _ rfl⟩;clear hV hao;go_upto_region 3 with fail
 rw [←HV.out.1];clear a0 a1 a2 a3 a4 a5 a6 a7 a8 a9 az d0 d1 d2 d3;have HBV:=hideIt (Za HBU.out HV.out.2.1);have HOV:=hideIt (HU.out.2.2.2.nx HV.out.2.1);have HXV:=hideIt (Ze HU.out.2.1 HV.out.2.1);obtain ⟨a0,a1,a2,a3,a4,a5,a6,a7,a8,a9,az⟩:=blk10 (Ze HW.out.b0 HBV.out);obtain ⟨e0,e1,e2,e3,e4,e5,e6,e7,e8,e9,ez⟩:=blk10 HXV.out;obtain ⟨y0,y1,y2,y3,yz⟩:=blk4 (Below.refl V.heap.size V) (Array.getElem?_eq_some_iff.1 HV.out.2.2).1 HV.out.2.2;have hs2:S.srv.length+1≤1099511627776:=by have:=HM.out.s;omega
 have hVz:W.heap.size≤V.heap.size:=HBV.out.size;go_wp2_with (at_builtin;refine appendR 74 32 4 40 _ ZfX Tryz.underlying32 rfl (by decide) (by decide) rfl (.tmp 20) (.tmp 29) rfl W.heap.size _ S.srv.length (flatV S.srv) rfl (HOV.out.s.alloc _) V.heap.size 0 1 1 [.int .i64 nx,.string x0,.int .i64 x3,.int .i64 cl] rfl rfl (ZA V [.int .i64 nx,.string x0,.int .i64 x3,.int .i64 cl] _ 1 rfl) (by intro u hu;simp at hu;rcases hu with rfl | rfl | rfl | rfl <;> rfl) (by decide) hs2 (by simp;omega) ?next)
 case next =>
  intro g6 cap6 w6 hown6 hg6 hor;have hso:∀ b,b<W.heap.size→(Value.slice u1.so S.srv.length u1.sc).ownBlock≠some b:=fun b hb e=>by have:=(HOV.out.s.lt b e).1;omega
  have h63:=Zcn hg6 HXV.out (Zs HOV.out.s HXV.out (by decide));have h60:=Zcn hg6 (Ze HW.out.b0 HBV.out) (hso _ (by omega));have hbig:Below W.heap.size W w6:=(HBV.out.alloc hVz _).grown hg6 (by simp;omega) (fun b hb=>by have:=(HOV.out.s.lt b hb).1;omega);obtain ⟨D,hD⟩:∃ D,rOpened S nx ⟨x0,x1,x2,x3⟩ cl=D:=⟨_,rfl⟩;obtain ⟨v,hv⟩:∃ v:Stv,{u1 with so:=some ⟨g6,0,none⟩,sc:=cap6}=v:=⟨_,rfl⟩;obtain ⟨X,hX⟩:∃ X,X=(w6.setCell ⟨g,2,none⟩ (.slice (some ⟨g6,0,none⟩) (S.srv.length+1) cap6)).setCell ⟨g,7,none⟩ (.int .i64 (nx+1)):=⟨_,rfl⟩;have h2:=ZcT h63 (.slice (some ⟨g6,0,none⟩) (S.srv.length+1) cap6);have HXX:Hid (X=(w6.setCell ⟨g,2,none⟩ (.slice (some ⟨g6,0,none⟩) (S.srv.length+1) cap6)).setCell ⟨g,7,none⟩ (.int .i64 (nx+1))∧X.heap[g]?=some (bW D v (nx+1) Y ho1 hc1)):=by
   refine ⟨hX,?_⟩;rw [hX,←hD,←hv];show _=some (bWd (.int .i64 S.bud) (.slice u1.po S.pools.length u1.pc) (.slice (some ⟨g6,0,none⟩) (S.srv++[_]).length cap6) (.slice u1.wo S.wts.length u1.wc) (.slice u1.tqo S.plan.length u1.tc) (.bool S.begun) (.bool S.back) (.int .i64 (nx+1)) (.int .i64 Y.1) (.slice ho1 Y.2.length hc1));rw [List.length_append];exact Zgl h2 _
  have HBX:Hid (Below W.heap.size W X):=by rw [hX];exact (hbig.setCell (by show W.heap.size≤g;exact hWg) _).setCell (by show W.heap.size≤g;exact hWg) _
  have HOX:Hid (OwnW w.heap.size X D v Y ho1 hc1):=by
   have h0:OwnW W.heap.size w6 D v Y ho1 hc1:=by rw [←hD,←hv];exact ZjS (x:=⟨nx,x0,x3,cl⟩) HOV.out hown6 hg6
   rw [hX];exact ((h0.st1 h63 _).st1 h2 _).mono (by omega)
  have HRR:=hideIt hD;have z7:(w6.setCell ⟨g,2,none⟩ (.slice (some ⟨g6,0,none⟩) (S.srv.length+1) cap6)).cell? ⟨w.heap.size,7,none⟩=some (.int .i64 nx):=(World.cell?_of_block (Below.heap_setCell _ _ _ _ (by show w.heap.size≠g;omega))).trans (blk10 h60).2.2.2.2.2.2.2.1;have hne:w.heap.size≠g:=by omega
  clear hown6 hg6 hor hX hD hv hbig h60 a0 a1 a2 a3 a4 a5 a6 a7 a8 a9 az e0 e1 e2 e3 e4 e5 e6 e7 e8 e9 ez y0 y1 y2 y3 yz h2 hso;obtain ⟨k0,k1,k2,k3,k4,k5,k6,k7,k8,k9,kz⟩:=blk10 h63;clear h63;go_upto_region 5 with fail
  rw [←HXX.out.1];clear k0 k1 k2 k3 k4 k5 k6 k7 k8 k9 kz z7;obtain ⟨e0,e1,e2,e3,e4,e5,e6,e7,e8,e9,ez⟩:=blk10 HXX.out.2;obtain ⟨r0,r1,r2,r3,r4,r5,r6,r7,r8,r9,rz⟩:=blk10 (Ze HW.out.b1 HBX.out);go_wp2_with fail
  obtain ⟨FW,hFW,HF⟩:=Zz HW.out HBX.out HOX.out (nx+1);unfold stS st10 at hFW;rw [hFW];obtain ⟨f0,f1,f2,f3,f4,f5,f6,f7,f8,f9,fz⟩:=blk10 HF.out.1;clear hFW;refine bodyPost_ret (v:=wdA D v (nx+1) Y ho1 hc1) (by simp [results,Tryz.results127,go_sem,f0,f1,f2,f3,f4,f5,f6,f7,f8,f9]) rfl ?_;rw [HRR.out];exact ⟨v,ho1,hc1,rfl,HF.out.2.2,HF.out.2.1⟩
def LentG (w w':World) (S:Sta) (u:Stv) (nx:Int) (Y:Int×List Pl) (ho:Option Addr) (hc:Nat) (r:Option (Sta×Int)) (e:Ending):Prop:=match r with
 | none=>e=.returned (.tuple #[wdA S u nx Y ho hc,.bool false])∧Below w.heap.size w w'
 | some y=>∃ u' ho' hc',e=.returned (.tuple #[wdA y.1 u' y.2 Y ho' hc',.bool true])∧OwnW w.heap.size w' y.1 u' Y ho' hc'∧Below w.heap.size w w'
theorem xLent (S:Sta) (u:Stv) (nx:Int) (Y:Int×List Pl) (ho:Option Addr) (hc:Nat) (w:World) (i:Nat) (c:Wtr) (hO:RowX w S u Y ho hc) (hm:Sml S Y) (hi:S.wts[i]?=some c) (hx0:0≤nx) (hx1:nx≤4611686018427387903) :
  Calls Tryz.prog 85 #[wdA S u nx Y ho hc,.int .i64 i] w fun e w'=>LentG w w' S u nx Y ho hc (rLent S nx i c) e:=by
 obtain ⟨W,HW⟩:=ZH w (bW S u nx Y ho hc);have HO:=hideIt (hO.nx HW.out.bel);have HM:=hideIt hm;have hW:w.heap.size+2≤W.heap.size:=by rw [HW.out.eq];simp
 obtain ⟨cc,cp⟩:=c;have hil:(i:Int)<(S.wts.length:Int):=by
  have:=(List.getElem?_eq_some_iff.1 hi).1;omega
 have h0i:(0:Int)≤(i:Int):=by omega
 obtain ⟨bl,off,hao,hbl,d0,d1⟩:=Zaj HO.out.q hi;simp only at d0 d1;have HAO:=hideIt hao;obtain ⟨V,hV⟩:∃ V,V=W.alloc (bWt cc cp):=⟨_,rfl⟩;have HV:Hid (V=W.alloc (bWt cc cp)∧V.heap[W.heap.size]?=some (bWt cc cp)∧Below W.heap.size W V):=⟨hV,by rw [hV];exact Zc _ _ rfl,by rw [hV];exact Zb _ _⟩;have hWV:=HV.out.2.2.size;have HOV:=hideIt (fun v (hb:Below V.heap.size V v)=>HO.out.nx (Za HV.out.2.2 hb));have HAT:=hideIt (rAt S.bud u.po _ u.pc cp S.pools V (HO.out.nx HV.out.2.2).p rfl (by have:=hm.p;unfold maxLen;omega));have HID:=hideIt (fun v pool all (hb:Below V.heap.size V v)=>rIdle S.bud u.po S.pools.length u.pc u.so S.srv.length u.sc u.wo S.wts.length u.wc u.tqo S.plan.length u.tc S.begun S.back nx Y.1 ho Y.2.length hc pool all S.srv v (HOV.out v hb).s rfl (by have:=hm.s;unfold maxLen;omega));have HCN:=hideIt (fun v (hb:Below V.heap.size V v)=>rCount S.bud u.po S.pools.length u.pc u.so S.srv.length u.sc u.wo S.wts.length u.wc u.tqo S.plan.length u.tc S.begun S.back nx Y.1 ho Y.2.length hc cp S.srv v (HOV.out v hb).s rfl (by have:=hm.s;unfold maxLen;omega));have HLE:=hideIt (fun v (hb:Below V.heap.size V v)=>xLeft S u nx Y ho hc v i (HOV.out v hb) hm);have HSL:Hid (Sml (rLeft S i) Y):=⟨hm.p,hm.s,Nat.le_trans (List.length_eraseIdx_le _ _) hm.q,hm.t,hm.h⟩;clear hO hm hi hV hao;unfold wdA;go_enter Tryz.func85,Tryz.ntmps85
 go_upto_region 1 with fail
 rw [←HW.out.eq];obtain ⟨a0,a1,a2,a3,a4,a5,a6,a7,a8,a9,az⟩:=blk10 HW.out.b0;rw [HAO.out] at a3;go_upto_region 2 with fail
 rw [←HV.out.1];clear a0 a1 a2 a3 a4 a5 a6 a7 a8 a9 az d0 d1;obtain ⟨a0,a1,a2,a3,a4,a5,a6,a7,a8,a9,az⟩:=blk10 (Ze HW.out.b0 (Za HV.out.2.2 (Below.refl _ V)));obtain ⟨c0,c1⟩:=blk2 (Ze HV.out.2.1 (Below.refl _ V));go_wp2_with fail
 refine HAT.out.mono ?_;rintro e w1 ⟨rfl,hb1⟩;have HB1:=hideIt hb1;clear hb1;clear a0 a1 a2 a3 a4 a5 a6 a7 a8 a9 az c0 c1;obtain ⟨a0,a1,a2,a3,a4,a5,a6,a7,a8,a9,az⟩:=blk10 (Ze HW.out.b0 (Za HV.out.2.2 HB1.out));obtain ⟨c0,c1⟩:=blk2 (Ze HV.out.2.1 HB1.out);cases hp:S.pools.findIdx? (isNameP cp) with
 | none =>
  have HL:Hid (rLent S nx i ⟨cc,cp⟩=none):=by
   show _=_;unfold rLent;simp only;rw [(ZB (isNameP cp) S.pools).2 hp]
  unfold optI;clear hp;obtain ⟨r0,r1,r2,r3,r4,r5,r6,r7,r8,r9,rz⟩:=blk10 (Ze HW.out.b1 (Za HV.out.2.2 HB1.out));go_wp2_with fail
  obtain ⟨FW,hFW,HF⟩:=ZE HW.out (Za HV.out.2.2 HB1.out) S u nx Y ho hc;unfold stS st10 at hFW;rw [hFW];obtain ⟨f0,f1,f2,f3,f4,f5,f6,f7,f8,f9,fz⟩:=blk10 HF.out.1;clear hFW;refine bodyPost_ret (v:=.tuple #[wdA S u nx Y ho hc,.bool false]) (by simp [results,Tryz.results85,go_sem,f0,f1,f2,f3,f4,f5,f6,f7,f8,f9]) rfl ?_;rw [HL.out];exact ⟨rfl,HF.out.2⟩
 | some p =>
  obtain ⟨⟨x0,x1,x2,x3⟩,hx,hx2⟩:=ZP hp;have hnp:¬(p:Int)<0:=by omega
  have h0p:(0:Int)≤(p:Int):=by omega
  have hpn:(p:Int)<(S.pools.length:Int):=by
   have:=(List.getElem?_eq_some_iff.1 hx).1;omega
  have HX:=hideIt hx;have HX2:=hideIt hx2;unfold optI;clear hp hx hx2;go_wp2_with fail
  refine (HID.out w1 cp false HB1.out).mono ?_;rintro e w2 ⟨rfl,hb2⟩;have HB2:=hideIt (Za HB1.out hb2);clear hb2;clear a0 a1 a2 a3 a4 a5 a6 a7 a8 a9 az c0 c1;obtain ⟨a0,a1,a2,a3,a4,a5,a6,a7,a8,a9,az⟩:=blk10 (Ze HW.out.b0 (Za HV.out.2.2 HB2.out));obtain ⟨c0,c1⟩:=blk2 (Ze HV.out.2.1 HB2.out);cases hk:S.srv.findIdx? (isIdle cp false) with
  | some k =>
   obtain ⟨y,hy,_⟩:=ZP hk;have HY:=hideIt hy;obtain ⟨T,hT⟩:∃ T,rLeft S i=T:=⟨_,rfl⟩;obtain ⟨D,hD⟩:∃ D,rSet T k cc=D:=⟨_,rfl⟩;have HL:Hid (rLent S nx i ⟨cc,cp⟩=some (D,nx)):=by
    show _=_;unfold rLent;simp only;rw [HX2.out];simp only;rw [hk,←hD,←hT]
   have HTS:Hid (T.srv=S.srv):=by rw [←hT];exact rfl
   have hkn:(k:Int)<(T.srv.length:Int):=by
    have:=(List.getElem?_eq_some_iff.1 hy).1;rw [HTS.out];omega
   have h0k:(0:Int)≤(k:Int):=by omega
   rw [hT] at HLE;have HD:=hideIt hD;unfold optI;clear hk hy hT hD;go_wp2_with fail
   refine (HLE.out w2 HB2.out).mono ?_;rintro e w5 ⟨u5,ho5,hc5,rfl,o5,hb5⟩;obtain ⟨U,hU,HU⟩:=ZS o5 nx;obtain ⟨g,hg⟩:∃ g,w5.heap.size=g:=⟨_,rfl⟩;have HBU:=hideIt (Za HB2.out (Za hb5 HU.out.2.2.1));have hVg:V.heap.size≤g:=by rw [←hg];exact Nat.le_trans HB2.out.size hb5.size
   have hle5:w.heap.size≤w2.heap.size:=by have:=HB2.out.size;omega
   rw [hg] at HU;have HG:=hideIt hg;clear hU o5 hb5 hg;clear a0 a1 a2 a3 a4 a5 a6 a7 a8 a9 az c0 c1;go_upto_region 8 with fail
   rw [←HU.out.1,HG.out];obtain ⟨a0,a1,a2,a3,a4,a5,a6,a7,a8,a9,az⟩:=blk10 (Ze HW.out.b0 (Za HV.out.2.2 HBU.out));obtain ⟨c0,c1⟩:=blk2 (Ze HV.out.2.1 HBU.out);obtain ⟨e0,e1,e2,e3,e4,e5,e6,e7,e8,e9,ez⟩:=blk10 HU.out.2.1;obtain ⟨gs,gf,hgo,hgs,t0,t1,t2,t3⟩:=ZN (Zd HU.out.2.2.2.s) (show T.srv[k]?=some y by rw [HTS.out];exact HY.out);have hgf:gf=0:=by
    have h:=HU.out.2.2.2.s;rw [hgo] at h;exact Zat h
   subst hgf;simp only [Nat.zero_add] at t0 t1 t2 t3;have hzf:∀ a,U.frozen? ⟨gs,a,none⟩=false:=by
    have h:=HU.out.2.2.2.s;rw [hgo] at h;exact fun a=>h.frozenAt a
   rw [hgo] at e2;obtain ⟨X,hX⟩:∃ X,X=U.setCell ⟨gs,k*4+3,none⟩ (.int .i64 cc):=⟨_,rfl⟩;have hGl:V.heap.size≤gs:=Nat.le_trans HB2.out.size (HU.out.2.2.2.s.lt gs (by rw [hgo];rfl)).1;have HBX:Hid (Below V.heap.size V X):=by rw [hX];exact HBU.out.setCell (by show V.heap.size≤gs;exact hGl) _
   have HOX:Hid (OwnW w2.heap.size X D u5 Y ho5 hc5):=by
    rw [hX,←HD.out];exact ZgD HU.out.2.2.2 (Nat.le_refl _) hgo (by rw [HTS.out];exact HY.out)
   have HXX:Hid (X=U.setCell ⟨gs,k*4+3,none⟩ (.int .i64 cc)∧X.heap[g]?=some (bW D u5 nx Y ho5 hc5)):=by
    refine ⟨hX,?_⟩;have hne:g≠gs:=fun e=>Zs HU.out.2.2.2.s HU.out.2.1 (by decide) (by rw [hgo,e];rfl)
    rw [hX,←HD.out];show _=some (bWs (.slice u5.so (T.srv.modify k (fun x=>{x with client:=cc})).length u5.sc) T u5 nx Y ho5 hc5);rw [List.length_modify];exact (Below.heap_setCell _ _ _ _ hne).trans HU.out.2.1
   clear hX hgo;go_upto_region 9 with fail
   rw [←HXX.out.1];clear a0 a1 a2 a3 a4 a5 a6 a7 a8 a9 az c0 c1 e0 e1 e2 e3 e4 e5 e6 e7 e8 e9 ez t0 t1 t2 t3 hzf;obtain ⟨e0,e1,e2,e3,e4,e5,e6,e7,e8,e9,ez⟩:=blk10 HXX.out.2;obtain ⟨r0,r1,r2,r3,r4,r5,r6,r7,r8,r9,rz⟩:=blk10 (Ze HW.out.b1 (Za HV.out.2.2 HBX.out));go_wp2_with fail
   obtain ⟨FW,hFW,HF⟩:=Zz HW.out (Za HV.out.2.2 HBX.out) HOX.out nx;unfold stS st10 at hFW;rw [hFW];obtain ⟨f0,f1,f2,f3,f4,f5,f6,f7,f8,f9,fz⟩:=blk10 HF.out.1;clear hFW;refine bodyPost_ret (v:=.tuple #[wdA D u5 nx Y ho5 hc5,.bool true]) (by simp [results,Tryz.results85,go_sem,f0,f1,f2,f3,f4,f5,f6,f7,f8,f9]) rfl ?_;rw [HL.out];exact ⟨u5,ho5,hc5,rfl,HF.out.2.2.mono (by omega),HF.out.2.1⟩
  | none =>
   have HK:=hideIt hk;unfold optI;clear hk;go_wp2_with fail
   refine (HCN.out w2 HB2.out).mono ?_;rintro e w3 ⟨rfl,hb3⟩;have HB3:=hideIt (Za HB2.out hb3);clear hb3;clear a0 a1 a2 a3 a4 a5 a6 a7 a8 a9 az c0 c1;obtain ⟨a0,a1,a2,a3,a4,a5,a6,a7,a8,a9,az⟩:=blk10 (Ze HW.out.b0 (Za HV.out.2.2 HB3.out));obtain ⟨c0,c1⟩:=blk2 (Ze HV.out.2.1 HB3.out);obtain ⟨pb,pf,hpo,hpb,t0,t1,t2,t3⟩:=Zn (HOV.out w3 HB3.out).p HX.out;simp only at t0 t1 t2 t3;have HPO:=hideIt hpo;rw [hpo] at a1;clear hpo;by_cases hz:x1≤(cntG (isPoolV cp) S.srv:Int)∨S.bud<(S.srv.length:Int)
   ·have HL:Hid (rLent S nx i ⟨cc,cp⟩=none):=by
     show _=_;unfold rLent;simp only;rw [HX2.out];simp only;rw [HK.out];simp only;rw [if_pos hz]
    by_cases hz1:x1≤(cntG (isPoolV cp) S.srv:Int);all_goals
     try have hz2:S.bud<(S.srv.length:Int):=by omega
     clear hz;go_upto_region 12 with fail
     clear t0 t1 t2 t3;clear a0 a1 a2 a3 a4 a5 a6 a7 a8 a9 az c0 c1;obtain ⟨a0,a1,a2,a3,a4,a5,a6,a7,a8,a9,az⟩:=blk10 (Ze HW.out.b0 (Za HV.out.2.2 HB3.out));obtain ⟨c0,c1⟩:=blk2 (Ze HV.out.2.1 HB3.out);obtain ⟨r0,r1,r2,r3,r4,r5,r6,r7,r8,r9,rz⟩:=blk10 (Ze HW.out.b1 (Za HV.out.2.2 HB3.out));go_wp2_with fail
     obtain ⟨FW,hFW,HF⟩:=ZE HW.out (Za HV.out.2.2 HB3.out) S u nx Y ho hc;unfold stS st10 at hFW;rw [hFW];obtain ⟨f0,f1,f2,f3,f4,f5,f6,f7,f8,f9,fz⟩:=blk10 HF.out.1;clear hFW;refine bodyPost_ret (v:=.tuple #[wdA S u nx Y ho hc,.bool false]) (by simp [results,Tryz.results85,go_sem,f0,f1,f2,f3,f4,f5,f6,f7,f8,f9]) rfl ?_;rw [HL.out];exact ⟨rfl,HF.out.2⟩
   ·have hz1:¬x1≤(cntG (isPoolV cp) S.srv:Int):=fun h=>hz (.inl h)
    have hz2:¬S.bud<(S.srv.length:Int):=fun h=>hz (.inr h)
    have HZ:=hideIt hz;clear hz;go_upto_region 13 with fail
    clear t0 t1 t2 t3 hz1 hz2;clear a0 a1 a2 a3 a4 a5 a6 a7 a8 a9 az c0 c1;obtain ⟨a0,a1,a2,a3,a4,a5,a6,a7,a8,a9,az⟩:=blk10 (Ze HW.out.b0 (Za HV.out.2.2 HB3.out));obtain ⟨c0,c1⟩:=blk2 (Ze HV.out.2.1 HB3.out);by_cases hb:(S.srv.length:Int)<S.bud
    ·obtain ⟨T,hT⟩:∃ T,rLeft S i=T:=⟨_,rfl⟩;have HL:Hid (rLent S nx i ⟨cc,cp⟩=some (rOpened T nx ⟨x0,x1,x2,x3⟩ cc,nx+1)):=by
      show _=_;unfold rLent;simp only;rw [HX2.out];simp only;rw [HK.out];simp only;rw [if_neg HZ.out];unfold rRoom;rw [if_pos hb,←hT]
     have HTX:Hid (T.pools[p]?=some ⟨x0,x1,x2,x3⟩∧Sml T Y):=by rw [←hT];exact ⟨HX.out,HSL.out⟩
     rw [hT] at HLE;clear hT;go_wp2_with fail
     refine (HLE.out w3 HB3.out).mono ?_;rintro e w5 ⟨u5,ho5,hc5,rfl,o5,hb5⟩;obtain ⟨U,hU,HU⟩:=ZS o5 nx;obtain ⟨g,hg⟩:∃ g,w5.heap.size=g:=⟨_,rfl⟩;have HBU:=hideIt (Za HB3.out (Za hb5 HU.out.2.2.1));have hVg:V.heap.size≤g:=by rw [←hg];exact Nat.le_trans HB3.out.size hb5.size
     have hle5:w.heap.size≤w3.heap.size:=by have:=HB3.out.size;omega
     rw [hg] at HU;have HG:=hideIt hg;clear hU o5 hb5 hg;clear a0 a1 a2 a3 a4 a5 a6 a7 a8 a9 az c0 c1;go_upto_region 15 with fail
     rw [←HU.out.1,HG.out];obtain ⟨a0,a1,a2,a3,a4,a5,a6,a7,a8,a9,az⟩:=blk10 (Ze HW.out.b0 (Za HV.out.2.2 HBU.out));obtain ⟨c0,c1⟩:=blk2 (Ze HV.out.2.1 HBU.out);obtain ⟨e0,e1,e2,e3,e4,e5,e6,e7,e8,e9,ez⟩:=blk10 HU.out.2.1;have HOP:=hideIt (xOpened T u5 nx Y ho5 hc5 U p ⟨x0,x1,x2,x3⟩ cc HU.out.2.2.2.rows HTX.out.2 HTX.out.1 hx0 hx1);obtain ⟨D,hD⟩:∃ D,rOpened T nx ⟨x0,x1,x2,x3⟩ cc=D:=⟨_,rfl⟩;rw [hD] at HOP HL;clear hD;go_wp2_with fail
     refine HOP.out.mono ?_;rintro e w7 ⟨u7,ho7,hc7,rfl,o7,hb7⟩;have HB7:=hideIt (Za HBU.out hb7);have HO7:=hideIt o7;have hle7:w.heap.size≤U.heap.size:=by have:=HBU.out.size;omega
     clear o7 hb7 e0 e1 e2 e3 e4 e5 e6 e7 e8 e9 ez;clear a0 a1 a2 a3 a4 a5 a6 a7 a8 a9 az c0 c1;obtain ⟨r0,r1,r2,r3,r4,r5,r6,r7,r8,r9,rz⟩:=blk10 (Ze HW.out.b1 (Za HV.out.2.2 HB7.out));go_wp2_with fail
     obtain ⟨FW,hFW,HF⟩:=Zz HW.out (Za HV.out.2.2 HB7.out) HO7.out (nx+1);unfold stS st10 at hFW;rw [hFW];obtain ⟨f0,f1,f2,f3,f4,f5,f6,f7,f8,f9,fz⟩:=blk10 HF.out.1;clear hFW;refine bodyPost_ret (v:=.tuple #[wdA D u7 (nx+1) Y ho7 hc7,.bool true]) (by simp [results,Tryz.results85,go_sem,f0,f1,f2,f3,f4,f5,f6,f7,f8,f9]) rfl ?_;rw [HL.out];exact ⟨u7,ho7,hc7,rfl,HF.out.2.2.mono (by omega),HF.out.2.1⟩
    ·have HBB:=hideIt hb;go_wp2_with fail
     refine (HID.out w3 ⟨#[]⟩ true HB3.out).mono ?_;rintro e w4 ⟨rfl,hb4⟩;have HB4:=hideIt (Za HB3.out hb4);clear hb4;clear a0 a1 a2 a3 a4 a5 a6 a7 a8 a9 az c0 c1;obtain ⟨a0,a1,a2,a3,a4,a5,a6,a7,a8,a9,az⟩:=blk10 (Ze HW.out.b0 (Za HV.out.2.2 HB4.out));obtain ⟨c0,c1⟩:=blk2 (Ze HV.out.2.1 HB4.out);cases hk:S.srv.findIdx? (isIdle ⟨#[]⟩ true) with
     | none =>
      have HL:Hid (rLent S nx i ⟨cc,cp⟩=none):=by
       show _=_;unfold rLent;simp only;rw [HX2.out];simp only;rw [HK.out];simp only;rw [if_neg HZ.out];unfold rRoom;rw [if_neg (by have:=HBB.out;omega),hk]
      unfold optI;clear hk;obtain ⟨r0,r1,r2,r3,r4,r5,r6,r7,r8,r9,rz⟩:=blk10 (Ze HW.out.b1 (Za HV.out.2.2 HB4.out));go_wp2_with fail
      obtain ⟨FW,hFW,HF⟩:=ZE HW.out (Za HV.out.2.2 HB4.out) S u nx Y ho hc;unfold stS st10 at hFW;rw [hFW];obtain ⟨f0,f1,f2,f3,f4,f5,f6,f7,f8,f9,fz⟩:=blk10 HF.out.1;clear hFW;refine bodyPost_ret (v:=.tuple #[wdA S u nx Y ho hc,.bool false]) (by simp [results,Tryz.results85,go_sem,f0,f1,f2,f3,f4,f5,f6,f7,f8,f9]) rfl ?_;rw [HL.out];exact ⟨rfl,HF.out.2⟩
     | some k =>
      obtain ⟨T,hT⟩:∃ T,rLeft S i=T:=⟨_,rfl⟩;obtain ⟨R,hR⟩:∃ R,rClosed T k=R:=⟨_,rfl⟩;have HL:Hid (rLent S nx i ⟨cc,cp⟩=some (rOpened R nx ⟨x0,x1,x2,x3⟩ cc,nx+1)):=by
       show _=_;unfold rLent;simp only;rw [HX2.out];simp only;rw [HK.out];simp only;rw [if_neg HZ.out];unfold rRoom;rw [if_neg (by have:=HBB.out;omega),hk,←hR,←hT]
      have HTX:Hid (Sml T Y):=by rw [←hT];exact HSL.out
      have HRX:Hid (R.pools[p]?=some ⟨x0,x1,x2,x3⟩∧Sml R Y):=by
       rw [←hR,←hT];exact ⟨HX.out,⟨HSL.out.p,Nat.le_trans (List.length_eraseIdx_le _ _) HSL.out.s,HSL.out.q,HSL.out.t,HSL.out.h⟩⟩
      rw [hT] at HLE;have HR:=hideIt hR;have hnk:¬(k:Int)<0:=by omega
      unfold optI;clear hT hk hR;go_wp2_with fail
      refine (HLE.out w4 HB4.out).mono ?_;rintro e w5 ⟨u5,ho5,hc5,rfl,o5,hb5⟩;obtain ⟨U,hU,HU⟩:=ZS o5 nx;obtain ⟨g,hg⟩:∃ g,w5.heap.size=g:=⟨_,rfl⟩;have HBU:=hideIt (Za HB4.out (Za hb5 HU.out.2.2.1));have hVg:V.heap.size≤g:=by rw [←hg];exact Nat.le_trans HB4.out.size hb5.size
      have hle5:w.heap.size≤w4.heap.size:=by have:=HB4.out.size;omega
      rw [hg] at HU;have HG:=hideIt hg;clear hU o5 hb5 hg;clear a0 a1 a2 a3 a4 a5 a6 a7 a8 a9 az c0 c1;go_upto_region 20 with fail
      rw [←HU.out.1,HG.out];obtain ⟨a0,a1,a2,a3,a4,a5,a6,a7,a8,a9,az⟩:=blk10 (Ze HW.out.b0 (Za HV.out.2.2 HBU.out));obtain ⟨c0,c1⟩:=blk2 (Ze HV.out.2.1 HBU.out);obtain ⟨e0,e1,e2,e3,e4,e5,e6,e7,e8,e9,ez⟩:=blk10 HU.out.2.1;have HCL:Hid (Calls Tryz.prog 71 #[wdA T u5 nx Y ho5 hc5,.int .i64 k] U fun e w'=>GaveS U.heap.size U w' R nx Y e):=by rw [←HR.out];exact xClosed T u5 nx Y ho5 hc5 U k HU.out.2.2.2.rows HTX.out
      go_wp2_with fail
      refine HCL.out.mono ?_;rintro e w6 ⟨u6,ho6,hc6,rfl,o6,hb6⟩;have hx6:=Ze HU.out.2.1 hb6;obtain ⟨Z,hZ,HZZ⟩:=Zbg o6 rfl hx6 nx;have HQZ:=Zbd hZ;have HBZ:Hid (Below V.heap.size V Z):=HZZ.out.2.1 _ _ (Za HBU.out hb6) hVg;clear o6 hb6 e0 e1 e2 e3 e4 e5 e6 e7 e8 e9 ez hZ;clear a0 a1 a2 a3 a4 a5 a6 a7 a8 a9 az c0 c1;obtain ⟨e0,e1,e2,e3,e4,e5,e6,e7,e8,e9,ez⟩:=blk10 hx6;clear hx6;unfold stS st10 at HQZ;go_upto_region 21 with fail
      rw [HQZ.out];clear e0 e1 e2 e3 e4 e5 e6 e7 e8 e9 ez;obtain ⟨a0,a1,a2,a3,a4,a5,a6,a7,a8,a9,az⟩:=blk10 (Ze HW.out.b0 (Za HV.out.2.2 HBZ.out));obtain ⟨c0,c1⟩:=blk2 (Ze HV.out.2.1 HBZ.out);obtain ⟨e0,e1,e2,e3,e4,e5,e6,e7,e8,e9,ez⟩:=blk10 HZZ.out.1;have HOP:=hideIt (xOpened R u6 nx Y ho6 hc6 Z p ⟨x0,x1,x2,x3⟩ cc HZZ.out.2.2.rows HRX.out.2 HRX.out.1 hx0 hx1);obtain ⟨D,hD⟩:∃ D,rOpened R nx ⟨x0,x1,x2,x3⟩ cc=D:=⟨_,rfl⟩;rw [hD] at HOP HL;clear hD;go_wp2_with fail
      refine HOP.out.mono ?_;rintro e w7 ⟨u7,ho7,hc7,rfl,o7,hb7⟩;have HB7:=hideIt (Za HBZ.out hb7);have HO7:=hideIt o7;have hle7:w.heap.size≤Z.heap.size:=by have:=HBZ.out.size;omega
      clear o7 hb7 e0 e1 e2 e3 e4 e5 e6 e7 e8 e9 ez;clear a0 a1 a2 a3 a4 a5 a6 a7 a8 a9 az c0 c1;obtain ⟨r0,r1,r2,r3,r4,r5,r6,r7,r8,r9,rz⟩:=blk10 (Ze HW.out.b1 (Za HV.out.2.2 HB7.out));go_wp2_with fail
      obtain ⟨FW,hFW,HF⟩:=Zz HW.out (Za HV.out.2.2 HB7.out) HO7.out (nx+1);unfold stS st10 at hFW;rw [hFW];obtain ⟨f0,f1,f2,f3,f4,f5,f6,f7,f8,f9,fz⟩:=blk10 HF.out.1;clear hFW;refine bodyPost_ret (v:=.tuple #[wdA D u7 (nx+1) Y ho7 hc7,.bool true]) (by simp [results,Tryz.results85,go_sem,f0,f1,f2,f3,f4,f5,f6,f7,f8,f9]) rfl ?_;rw [HL.out];exact ⟨u7,ho7,hc7,rfl,HF.out.2.2.mono (by omega),HF.out.2.1⟩
theorem ZdE {S:Sta} {nx:Int} {i:Nat} {c:Wtr} {y:Sta×Int} (h:rLent S nx i c=some y):y.1.wts=S.wts.eraseIdx i∧y.1.srv.length≤S.srv.length+1∧y.1.pools=S.pools∧y.1.plan=S.plan∧nx≤y.2∧y.2≤nx+1∧y.1.begun=S.begun∧y.1.back=S.back:=by
 unfold rLent at h;split at h
 ·simp at h
 ·split at h
  ·simp only [Option.some.injEq] at h;subst h;exact ⟨rfl,by show (List.modify _ _ _).length≤_;rw [List.length_modify];exact Nat.le_succ _,rfl,rfl,Int.le_refl _,by simp;omega,rfl,rfl⟩
  ·split at h
   ·simp at h
   ·split at h
    ·simp at h
    ·simp only [Option.some.injEq] at h;subst h;exact ⟨rfl,by show (S.srv++[_]).length≤_;simp,rfl,rfl,by simp;omega,by simp,rfl,rfl⟩
    ·rename_i k _
     simp only [Option.some.injEq] at h;subst h;have:=List.length_eraseIdx_le S.srv k;exact ⟨rfl,by show (S.srv.eraseIdx k++[_]).length≤_;simp;omega,rfl,rfl,by simp;omega,by simp,rfl,rfl⟩
theorem xServed (B:Nat) (f:Nat):∀ (S:Sta) (u:Stv) (nx:Int) (Y:Int×List Pl) (ho:Option Addr) (hc:Nat) (w:World),B≤w.heap.size→OwnW B w S u Y ho hc→Sml S Y→S.wts.length≤f→S.srv.length+f≤549755813888→0≤nx→nx+f≤4611686018427387903 →
  Calls Tryz.prog 52 #[wdA S u nx Y ho hc] w fun e w'=>GaveS B w w' (rServed f S nx).1 (rServed f S nx).2 Y e:=by
 induction f with
 | zero =>
  intro S u nx Y ho hc w hB hO hm hf _ _ _;obtain ⟨W,HW⟩:=ZH w (bW S u nx Y ho hc);have HO:=hideIt (hO.nx HW.out.bel);have hl0:¬(0:Int)<(S.wts.length:Int):=by omega
  have hl1:¬0<S.wts.length:=by omega
  clear hO hm;unfold wdA;go_enter Tryz.func52,Tryz.ntmps52
  go_wp2_with fail
  rw [←HW.out.eq];go_loopw [3] (fun ix wr=>∃ k:Nat,ix=.int .i64 k∧k=0∧Hid (Below W.heap.size W wr)) (fun _ _=>0)
  case atStart=>exact ⟨0,rfl,rfl,Below.refl _ _⟩
  case round =>
   obtain ⟨k,rfl,rfl,HB⟩:=hrel;obtain ⟨a0,a1,a2,a3,a4,a5,a6,a7,a8,a9,az⟩:=blk10 (Ze HW.out.b0 HB.out);obtain ⟨r0,r1,r2,r3,r4,r5,r6,r7,r8,r9,rz⟩:=blk10 (Ze HW.out.b1 HB.out);go_wp2_with fail
   obtain ⟨FW,hFW,HF⟩:=Zz HW.out HB.out (HO.out.nx HB.out) (nx);unfold stS st10 at hFW;rw [hFW];obtain ⟨f0,f1,f2,f3,f4,f5,f6,f7,f8,f9,fz⟩:=blk10 HF.out.1;clear hFW;refine bodyPost_ret (v:=wdA S u nx Y ho hc) (by simp [results,Tryz.results52,go_sem,f0,f1,f2,f3,f4,f5,f6,f7,f8,f9]) rfl ?_;exact ⟨u,ho,hc,rfl,HF.out.2.2,HF.out.2.1⟩
 | succ f ih =>
  intro S u nx Y ho hc w hB hO hm hf hsf hx0 hx1;obtain ⟨W,HW⟩:=ZH w (bW S u nx Y ho hc);have HO:=hideIt (hO.nx HW.out.bel);have HM:=hideIt hm;have IH:=hideIt ih;have hW:w.heap.size≤W.heap.size:=HW.out.bel.size;have HLT:=hideIt (fun v (hb:Below W.heap.size W v) (i:Nat) (c:Wtr) (hi:S.wts[i]?=some c)=>xLent S u nx Y ho hc v i c (HO.out.nx hb).rows hm hi hx0 (by omega));obtain ⟨m,hm3⟩:∃ m,S.wts.length=m:=⟨_,rfl⟩;have HM3:=hideIt hm3;have HB0:Hid (∀ v,Below W.heap.size W v→v.heap[w.heap.size]?=some (bWq (.slice u.wo m u.wc) S u nx Y ho hc)):=fun v hb=>by rw [←hm3];exact Ze HW.out.b0 hb
  have hmf:m≤f+1:=by omega
  clear hO ih hm hm3;unfold wdA;go_enter Tryz.func52,Tryz.ntmps52
  go_wp2_with fail
  rw [←HW.out.eq];go_loopw [3] (fun ix wr=>∃ k:Nat,k≤m∧ix=.int .i64 k∧Hid (rFirst S nx k (S.wts.drop k)=rFirst S nx 0 S.wts)∧Hid (Below W.heap.size W wr)) (fun ix _=>m - (intOf ix).toNat)
  case atStart=>exact ⟨0,Nat.zero_le _,rfl,rfl,Below.refl _ _⟩
  case round =>
   obtain ⟨k,hk,rfl,HT,HB⟩:=hrel;by_cases hlt:k<m
   ·obtain ⟨c,hx⟩:∃ x,S.wts[k]?=some x:=⟨_,List.getElem?_eq_getElem (by rw [HM3.out];exact hlt)⟩;have HDR:Hid (rFirst S nx 0 S.wts=match rLent S nx k c with | some y=>some y | none=>rFirst S nx (k+1) (S.wts.drop (k+1))):=by
     obtain ⟨hk',e⟩:=List.getElem?_eq_some_iff.1 hx;show _=_;rw [←HT.out,List.drop_eq_getElem_cons hk',e];rfl
    have HLE:=hideIt (HLT.out wr HB.out k c hx);have hlti:(k:Int)<(m:Int):=by omega
    have HXC:=hideIt hx;clear hx;obtain ⟨a0,a1,a2,a3,a4,a5,a6,a7,a8,a9,az⟩:=blk10 (HB0.out wr HB.out);go_upto_region 4 with fail
    clear a0 a1 a2 a3 a4 a5 a6 a7 a8 a9 az;obtain ⟨a0,a1,a2,a3,a4,a5,a6,a7,a8,a9,az⟩:=blk10 (Ze HW.out.b0 HB.out);go_wp2_with fail
    refine HLE.out.mono ?_;intro e w1 hl;cases hr:rLent S nx k c with
    | none =>
     rw [hr] at hl HDR;obtain ⟨rfl,hb1⟩:=hl;have HB1:=hideIt (Za HB.out hb1);clear hb1 hr;go_wp2_with fail
     go_roundw
     case rel=>exact ⟨k+1,by omega,by go_num,HDR.out.symm,Za HB1.out (Zb _ _)⟩
     case measure=>simp [intOf];omega
    | some y =>
     obtain ⟨T,t⟩:=y;rw [hr] at hl HDR;have hq:=ZdE hr;simp only at hq;obtain ⟨u1,ho1,hc1,rfl,o1,hb1⟩:=hl;simp only at o1;obtain ⟨U,hU,HU⟩:=ZS o1 t;have HB3:=hideIt (Za HB.out (Za hb1 HU.out.2.2.1));have hB3:=HB3.out.size;have hTw:T.wts.length+1=m:=by
      rw [hq.1,List.length_eraseIdx_of_lt (by rw [HM3.out];exact hlt),HM3.out];omega
     have HMT:Hid (Sml T Y):=by
      have h:=HM.out;exact ⟨by rw [hq.2.2.1];exact h.p,by omega,by have:=h.q;have:=HM3.out;omega,by rw [hq.2.2.2.1];exact h.t,h.h⟩
     have HI:=hideIt (IH.out T u1 t Y ho1 hc1 U (by omega) (HU.out.2.2.2.mono (by have:=HB.out.size;omega)) HMT.out (by omega) (by omega) (by omega) (by omega));have HFS:Hid (rServed (f+1) S nx=rServed f T t):=by show _=_;rw [rServed,HDR.out]
     clear hU o1 hb1 hr a0 a1 a2 a3 a4 a5 a6 a7 a8 a9 az hq;go_upto_region 6 with fail
     rw [←HU.out.1];obtain ⟨a0,a1,a2,a3,a4,a5,a6,a7,a8,a9,az⟩:=blk10 HU.out.2.1;obtain ⟨⟨R,r⟩,hR⟩:∃ R,rServed f T t=R:=⟨_,rfl⟩;rw [hR] at HI HFS;clear hR;go_wp2_with fail
     refine HI.out.mono ?_;rintro e w4 ⟨u4,ho4,hc4,rfl,o4,hb4⟩;have HB4:=hideIt (Za HB3.out hb4);have HO4:=hideIt o4;clear o4 hb4 a0 a1 a2 a3 a4 a5 a6 a7 a8 a9 az;simp only at HO4 ⊢;obtain ⟨r0,r1,r2,r3,r4,r5,r6,r7,r8,r9,rz⟩:=blk10 (Ze HW.out.b1 HB4.out);go_wp2_with fail
     obtain ⟨FW,hFW,HF⟩:=Zz HW.out HB4.out HO4.out (r);unfold stS st10 at hFW;rw [hFW];obtain ⟨f0,f1,f2,f3,f4,f5,f6,f7,f8,f9,fz⟩:=blk10 HF.out.1;clear hFW;refine bodyPost_ret (v:=wdA R u4 r Y ho4 hc4) (by simp [results,Tryz.results52,go_sem,f0,f1,f2,f3,f4,f5,f6,f7,f8,f9]) rfl ?_;rw [HFS.out];exact ⟨u4,ho4,hc4,rfl,HF.out.2.2,HF.out.2.1⟩
   ·have HFS:Hid (rServed (f+1) S nx=(S,nx)):=by
     have h:=HT.out;rw [List.drop_of_length_le (by rw [HM3.out];omega)] at h;show _=_;rw [rServed,←h];rfl
    have hlt2:¬(k:Int)<(m:Int):=by omega
    obtain ⟨a0,a1,a2,a3,a4,a5,a6,a7,a8,a9,az⟩:=blk10 (HB0.out wr HB.out);go_upto_region 7 with fail
    clear a0 a1 a2 a3 a4 a5 a6 a7 a8 a9 az;obtain ⟨a0,a1,a2,a3,a4,a5,a6,a7,a8,a9,az⟩:=blk10 (Ze HW.out.b0 HB.out);obtain ⟨r0,r1,r2,r3,r4,r5,r6,r7,r8,r9,rz⟩:=blk10 (Ze HW.out.b1 HB.out);go_wp2_with fail
    obtain ⟨FW,hFW,HF⟩:=Zz HW.out HB.out (HO.out.nx HB.out) (nx);unfold stS st10 at hFW;rw [hFW];obtain ⟨f0,f1,f2,f3,f4,f5,f6,f7,f8,f9,fz⟩:=blk10 HF.out.1;clear hFW;refine bodyPost_ret (v:=wdA S u nx Y ho hc) (by simp [results,Tryz.results52,go_sem,f0,f1,f2,f3,f4,f5,f6,f7,f8,f9]) rfl ?_;rw [HFS.out];exact ⟨u,ho,hc,rfl,HF.out.2.2,HF.out.2.1⟩
end Lw
end Go.Proofs.YtcpikklofilkcaaGreat
