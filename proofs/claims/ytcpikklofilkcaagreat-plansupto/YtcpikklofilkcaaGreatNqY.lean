import Derived.Test.YtcpikklofilkcaaGreatNqX
import Derived.Deep.RegionLaw
import Derived.Deep.AppendLies
set_option maxRecDepth 100000
set_option maxHeartbeats 16000000
namespace Go.Proofs.YtcpikklofilkcaaGreat
open Go.RowKit
namespace Lw
open Co
structure OwnW (B:Nat) (w:World) (S:Sta) (u:Stv) (Y:Int×List Pl) (ho:Option Addr) (hc:Nat):Prop where
 p:w.ownsRow B 70 4 (.slice u.po S.pools.length u.pc) S.pools.length (flatP S.pools)
 s:w.ownsRow B 74 4 (.slice u.so S.srv.length u.sc) S.srv.length (flatV S.srv)
 q:w.ownsRow B 76 2 (.slice u.wo S.wts.length u.wc) S.wts.length (flatW S.wts)
 t:w.ownsRow B 72 3 (.slice u.tqo S.plan.length u.tc) S.plan.length (flatT S.plan)
 h:w.ownsRow B 70 4 (.slice ho Y.2.length hc) Y.2.length (flatP Y.2)
theorem OwnW.nx {B:Nat} {w w':World} {S:Sta} {u:Stv} {Y:Int×List Pl} {ho:Option Addr} {hc:Nat} (h:OwnW B w S u Y ho hc) (hb:Below w.heap.size w w'):OwnW B w' S u Y ho hc:=
 ⟨Zk h.p hb,Zk h.s hb,Zk h.q hb,Zk h.t hb,Zk h.h hb⟩
theorem OwnW.mono {B C:Nat} {w:World} {S:Sta} {u:Stv} {Y:Int×List Pl} {ho:Option Addr} {hc:Nat} (h:OwnW C w S u Y ho hc) (hb:B≤C):OwnW B w S u Y ho hc:=
 ⟨Zi h.p hb,Zi h.s hb,Zi h.q hb,Zi h.t hb,Zi h.h hb⟩
def GaveS (B:Nat) (w w':World) (S:Sta) (nx:Int) (Y:Int×List Pl) (e:Ending):Prop:=
 ∃ u ho hc,e=.returned (wdA S u nx Y ho hc)∧OwnW B w' S u Y ho hc∧Below w.heap.size w w'
structure Sml (S:Sta) (Y:Int×List Pl):Prop where
 p:S.pools.length≤1000
 s:S.srv.length≤549755813888
 q:S.wts.length≤549755813888
 t:S.plan.length≤1000
 h:Y.2.length≤1000
abbrev bW (S:Sta) (u:Stv) (nx:Int) (Y:Int×List Pl) (ho:Option Addr) (hc:Nat):Obj:=bWd (.int .i64 S.bud) (.slice u.po S.pools.length u.pc) (.slice u.so S.srv.length u.sc) (.slice u.wo S.wts.length u.wc) (.slice u.tqo S.plan.length u.tc) (.bool S.begun) (.bool S.back) (.int .i64 nx) (.int .i64 Y.1) (.slice ho Y.2.length hc)
abbrev stS (w:World) (g:Nat) (S:Sta) (u:Stv) (nx:Int) (Y:Int×List Pl) (ho:Option Addr) (hc:Nat):World:=st10 w g (.int .i64 S.bud) (.slice u.po S.pools.length u.pc) (.slice u.so S.srv.length u.sc) (.slice u.wo S.wts.length u.wc) (.slice u.tqo S.plan.length u.tc) (.bool S.begun) (.bool S.back) (.int .i64 nx) (.int .i64 Y.1) (.slice ho Y.2.length hc)
structure Ent (w W:World) (o:Obj):Prop where
 eq:W=(w.alloc o).alloc zW
 b0:W.heap[w.heap.size]?=some o
 b1:W.heap[w.heap.size+1]?=some zW
 bel:Below w.heap.size w W
theorem ZH (w:World) (o:Obj):∃ W,Hid (Ent w W o):=
 ⟨_,rfl,(Zf _ _ (by simp)).trans (Zc _ _ rfl),Zc _ _ (by simp),Za (Zb _ _) (Zb _ _)⟩
theorem OwnW.st {B:Nat} {w:World} {g:Nat} {cs:Array Value} {S:Sta} {u:Stv} {Y:Int×List Pl} {ho:Option Addr} {hc:Nat} (h:OwnW B w S u Y ho hc) (hg:w.heap[g]?=some (.cells cs 38 (0,0))) (v0 v1 v2 v3 v4 v5 v6 v7 v8 v9:Value):OwnW B (st10 w g v0 v1 v2 v3 v4 v5 v6 v7 v8 v9) S u Y ho hc:=
 ⟨ZR h.p (Zs h.p hg (by decide)) _ _ _ _ _ _ _ _ _ _,ZR h.s (Zs h.s hg (by decide)) _ _ _ _ _ _ _ _ _ _,ZR h.q (Zs h.q hg (by decide)) _ _ _ _ _ _ _ _ _ _,ZR h.t (Zs h.t hg (by decide)) _ _ _ _ _ _ _ _ _ _,ZR h.h (Zs h.h hg (by decide)) _ _ _ _ _ _ _ _ _ _⟩
theorem OwnW.st1 {B:Nat} {w:World} {g a:Nat} {cs:Array Value} {S:Sta} {u:Stv} {Y:Int×List Pl} {ho:Option Addr} {hc:Nat} (h:OwnW B w S u Y ho hc) (hg:w.heap[g]?=some (.cells cs 38 (0,0))) (v:Value):OwnW B (w.setCell ⟨g,a,none⟩ v) S u Y ho hc:=
 ⟨Zr h.p (Zs h.p hg (by decide)),Zr h.s (Zs h.s hg (by decide)),Zr h.q (Zs h.q hg (by decide)),Zr h.t (Zs h.t hg (by decide)),Zr h.h (Zs h.h hg (by decide))⟩
theorem Zz {w W w1:World} {o:Obj} (h:Ent w W o) (hb:Below W.heap.size W w1) {B:Nat} {S:Sta} {u:Stv} {Y:Int×List Pl} {ho:Option Addr} {hc:Nat} (hO:OwnW B w1 S u Y ho hc) (nx:Int):∃ FW,stS w1 (w.heap.size+1) S u nx Y ho hc=FW∧Hid (FW.heap[w.heap.size+1]?=some (bW S u nx Y ho hc)∧Below w.heap.size w FW∧OwnW B FW S u Y ho hc):=
 ⟨_,rfl,Zag (Ze h.b1 hb) _ _ _ _ _ _ _ _ _ _,Zas (Za h.bel hb) (Nat.le_succ _) _ _ _ _ _ _ _ _ _ _,hO.st (Ze h.b1 hb) _ _ _ _ _ _ _ _ _ _⟩
theorem ZS {w:World} {B:Nat} {S:Sta} {u:Stv} {Y:Int×List Pl} {ho:Option Addr} {hc:Nat} (hO:OwnW B w S u Y ho hc) (nx:Int):∃ U,U=w.alloc (bW S u nx Y ho hc)∧Hid (U=w.alloc (bW S u nx Y ho hc)∧U.heap[w.heap.size]?=some (bW S u nx Y ho hc)∧Below w.heap.size w U∧OwnW B U S u Y ho hc):=
 ⟨_,rfl,rfl,Zc _ _ rfl,Zb _ _,hO.nx (Zb _ _)⟩
structure RowX (w:World) (S:Sta) (u:Stv) (Y:Int×List Pl) (ho:Option Addr) (hc:Nat):Prop where
 p:RowAt w (.slice u.po S.pools.length u.pc) S.pools.length (flatP S.pools)
 s:RowAt w (.slice u.so S.srv.length u.sc) S.srv.length (flatV S.srv)
 q:RowAt w (.slice u.wo S.wts.length u.wc) S.wts.length (flatW S.wts)
 t:RowAt w (.slice u.tqo S.plan.length u.tc) S.plan.length (flatT S.plan)
 h:RowAt w (.slice ho Y.2.length hc) Y.2.length (flatP Y.2)
theorem OwnW.rows {B:Nat} {w:World} {S:Sta} {u:Stv} {Y:Int×List Pl} {ho:Option Addr} {hc:Nat} (h:OwnW B w S u Y ho hc):RowX w S u Y ho hc:=⟨Zd h.p,Zd h.s,Zd h.q,Zd h.t,Zd h.h⟩
theorem WdAt.rows {w:World} {S:Sta} {u:Stv} {Y:Int×List Pl} {ho:Option Addr} {hc:Nat} (h:WdAt w S u Y ho hc):RowX w S u Y ho hc:=⟨h.sta.p,h.sta.s,h.sta.t,h.sta.l,h.hom⟩
theorem RowX.nx {w w':World} {S:Sta} {u:Stv} {Y:Int×List Pl} {ho:Option Addr} {hc:Nat} (h:RowX w S u Y ho hc) (hb:Below w.heap.size w w'):RowX w' S u Y ho hc:=⟨h.p.nx hb,h.s.nx hb,h.q.nx hb,h.t.nx hb,h.h.nx hb⟩
theorem xCopiedA (S:Sta) (u:Stv) (nx:Int) (Y:Int×List Pl) (ho:Option Addr) (hc:Nat) (w:World) (h:RowX w S u Y ho hc) (hm:Sml S Y) :
  Calls Tryz.prog 45 #[wdA S u nx Y ho hc] w fun e w'=>∃ u' ho' hc',e=.returned (wdA S u' nx Y ho' hc')∧OwnW w.heap.size w' S u' Y ho' hc'∧Below w.heap.size w w'∧∀ g,(Value.slice u'.po S.pools.length u'.pc).ownBlock=some g→(Value.slice ho' Y.2.length hc').ownBlock≠some g:=by
 refine (Ziq S.bud u.po _ u.pc u.so _ u.sc u.wo _ u.wc u.tqo _ u.tc S.begun S.back nx Y.1 ho _ hc S.pools S.srv S.wts S.plan Y.2 w h.p rfl (by have:=hm.p;omega) h.s rfl (by have:=hm.s;omega) h.q rfl (by have:=hm.q;omega) h.t rfl (by have:=hm.t;omega) h.h rfl (by have:=hm.h;omega)).mono ?_;rintro e w' ⟨po,pc,so,sc,wo,wc,qo,tc,ho',hc',rfl,o0,o1,o2,o3,o4,hb,ha⟩;exact ⟨⟨po,pc,so,sc,wo,wc,qo,tc⟩,ho',hc',rfl,⟨o0,o1,o2,o3,o4⟩,hb,ha⟩
theorem xCopied (S:Sta) (u:Stv) (nx:Int) (Y:Int×List Pl) (ho:Option Addr) (hc:Nat) (w:World) (h:RowX w S u Y ho hc) (hm:Sml S Y) :
  Calls Tryz.prog 45 #[wdA S u nx Y ho hc] w fun e w'=>GaveS w.heap.size w w' S nx Y e:=
 (xCopiedA S u nx Y ho hc w h hm).mono fun _ _ ⟨u',ho',hc',h1,h2,h3,_⟩=>⟨u',ho',hc',h1,h2,h3⟩
theorem ZdL {α:Type} {l:List α} {k i:Nat} {x:α} (hx:l[k]?=some x):(l.take (k+1)).eraseIdx i=if k=i then (l.take k).eraseIdx i else (l.take k).eraseIdx i++[x]:=by
 obtain ⟨hk,e⟩:=List.getElem?_eq_some_iff.1 hx;have hl:(l.take k).length=k:=by rw [List.length_take];omega
 rw [List.take_succ_eq_append_getElem hk,e];by_cases h:k=i
 ·subst h;rw [if_pos rfl,List.eraseIdx_append_of_length_le (by omega),hl,Nat.sub_self,List.eraseIdx_of_length_le (by omega:(l.take k).length≤k)];simp
 ·rw [if_neg h];by_cases h2:i<k
  ·rw [List.eraseIdx_append_of_lt_length (by omega)]
  ·rw [List.eraseIdx_of_length_le (by rw [List.length_append,hl];simp;omega),List.eraseIdx_of_length_le (by omega)]
theorem Z0 {u:World} {B B':Nat} {e e':TypeId} {sz sz' n n' g:Nat} {v v':Value} {xs xs':List Value} (h:u.ownsRow B e sz v n xs) (h':u.ownsRow B' e' sz' v' n' xs') (ht:e≠e') (hv:v.ownBlock=some g):v'.ownBlock≠some g:=by
 intro hv';obtain ⟨cc,fz,hh⟩:=Go.Lib.ownsRow_kind h g hv;obtain ⟨cc',fz',hh'⟩:=Go.Lib.ownsRow_kind h' g hv';rw [hh] at hh';simp at hh';exact ht hh'.2.1
theorem ZP {α:Type} {p:α→Bool} {l:List α} {k:Nat} (h:l.findIdx? p=some k):∃ x,l[k]?=some x∧l.find? p=some x:=by
 have:=List.findIdx?_eq_some_iff_getElem.1 h;obtain ⟨hk,hp,hj⟩:=this;refine ⟨l[k],List.getElem?_eq_getElem hk,?_⟩;rw [List.find?_eq_some_iff_getElem];exact ⟨hp,k,hk,rfl,fun j hj'=>by have:=hj j hj';simpa using this⟩
abbrev bWp (x:Value) (S:Sta) (u:Stv) (nx:Int) (Y:Int×List Pl) (ho:Option Addr) (hc:Nat):Obj:=bWd (.int .i64 S.bud) x (.slice u.so S.srv.length u.sc) (.slice u.wo S.wts.length u.wc) (.slice u.tqo S.plan.length u.tc) (.bool S.begun) (.bool S.back) (.int .i64 nx) (.int .i64 Y.1) (.slice ho Y.2.length hc)
abbrev bWs (x:Value) (S:Sta) (u:Stv) (nx:Int) (Y:Int×List Pl) (ho:Option Addr) (hc:Nat):Obj:=bWd (.int .i64 S.bud) (.slice u.po S.pools.length u.pc) x (.slice u.wo S.wts.length u.wc) (.slice u.tqo S.plan.length u.tc) (.bool S.begun) (.bool S.back) (.int .i64 nx) (.int .i64 Y.1) (.slice ho Y.2.length hc)
abbrev bWq (x:Value) (S:Sta) (u:Stv) (nx:Int) (Y:Int×List Pl) (ho:Option Addr) (hc:Nat):Obj:=bWd (.int .i64 S.bud) (.slice u.po S.pools.length u.pc) (.slice u.so S.srv.length u.sc) x (.slice u.tqo S.plan.length u.tc) (.bool S.begun) (.bool S.back) (.int .i64 nx) (.int .i64 Y.1) (.slice ho Y.2.length hc)
structure Oth (C:Nat) (w:World) (S:Sta) (u:Stv) (Y:Int×List Pl) (ho:Option Addr) (hc:Nat) (g:Nat):Prop where
 own:OwnW C w S u Y ho hc
 p:(Value.slice u.po S.pools.length u.pc).ownBlock≠some g
 s:(Value.slice u.so S.srv.length u.sc).ownBlock≠some g
 q:(Value.slice u.wo S.wts.length u.wc).ownBlock≠some g
 t:(Value.slice u.tqo S.plan.length u.tc).ownBlock≠some g
 h:(Value.slice ho Y.2.length hc).ownBlock≠some g
theorem ZhD {C:Nat} {w:World} {S:Sta} {u:Stv} {Y:Int×List Pl} {ho:Option Addr} {hc:Nat} (h:OwnW C w S u Y ho hc) (o:Obj):Oth C (w.alloc o) S u Y ho hc w.heap.size:=
 ⟨h.nx (Zb _ _),fun e=>Nat.lt_irrefl _ (h.p.lt _ e).2,fun e=>Nat.lt_irrefl _ (h.s.lt _ e).2,fun e=>Nat.lt_irrefl _ (h.q.lt _ e).2,fun e=>Nat.lt_irrefl _ (h.t.lt _ e).2,fun e=>Nat.lt_irrefl _ (h.h.lt _ e).2⟩
theorem Oth.chg {C g:Nat} {w w':World} {S:Sta} {u:Stv} {Y:Int×List Pl} {ho:Option Addr} {hc:Nat} (h:Oth C w S u Y ho hc g) (hc':Chg (fun y=>y=g) w w'):OwnW C w' S u Y ho hc:=
 ⟨ZF h.own.p hc' h.p,ZF h.own.s hc' h.s,ZF h.own.q hc' h.q,ZF h.own.t hc' h.t,ZF h.own.h hc' h.h⟩
theorem xClosed (S:Sta) (u:Stv) (nx:Int) (Y:Int×List Pl) (ho:Option Addr) (hc:Nat) (w:World) (i:Nat) (hO:RowX w S u Y ho hc) (hm:Sml S Y) :
  Calls Tryz.prog 71 #[wdA S u nx Y ho hc,.int .i64 i] w fun e w'=>GaveS w.heap.size w w' (rClosed S i) nx Y e:=by
 obtain ⟨W,HW⟩:=ZH w (bW S u nx Y ho hc);have HO:=hideIt (hO.nx HW.out.bel);have hW:w.heap.size+2≤W.heap.size:=by rw [HW.out.eq];simp
 have HCO:=hideIt (xCopied S u nx Y ho hc W HO.out hm);have hnq0:=hm.s;clear hO hm;unfold wdA;go_enter Tryz.func71,Tryz.ntmps71
 go_wp2_with fail
 rw [←HW.out.eq];refine HCO.out.mono ?_;rintro e w1 ⟨u1,ho1,hc1,rfl,o1,hb1⟩;obtain ⟨g,hg⟩:∃ g,w1.heap.size=g:=⟨_,rfl⟩;obtain ⟨U,hU⟩:∃ U,U=w1.alloc (bWs (.slice none 0 0) S u1 nx Y ho1 hc1):=⟨_,rfl⟩;have HOT:Hid (Oth W.heap.size U S u1 Y ho1 hc1 g):=by rw [hU,←hg];exact ZhD o1 _
 have HU:Hid (U=w1.alloc (bWs (.slice none 0 0) S u1 nx Y ho1 hc1)∧U.heap[g]?=some (bWs (.slice none 0 0) S u1 nx Y ho1 hc1)∧Below W.heap.size W U∧W.heap.size≤g):=⟨hU,by rw [hU];exact Zc _ _ hg.symm,by rw [hU];exact Za hb1 (Zb _ _),by rw [←hg];exact hb1.size⟩;have HG:=hideIt hg;clear o1 hb1 hU hg;go_upto_region 3 with fail
 rw [←HU.out.1,HG.out];obtain ⟨n,hn⟩:∃ n,S.srv.length=n:=⟨_,rfl⟩;have HN:=hideIt hn;have hnq:n≤549755813888:=by rw [←hn];exact hnq0
 have HB0:Hid (∀ v,Below W.heap.size W v→v.heap[w.heap.size]?=some (bWs (.slice u.so n u.sc) S u nx Y ho hc)):=fun v hb=>by rw [←hn];exact Ze HW.out.b0 hb
 have HRP:Hid (RowAt W (.slice u.so n u.sc) n (flatV S.srv)):=by rw [←hn];exact HO.out.s
 clear hn hnq0;go_wp2_with fail
 go_loopw [6] (fun ix wr=>∃ (k j:Nat) (vo:Option Addr) (vc:Nat),k≤n∧j≤k∧ix=.int .i64 k∧Hid (wr.heap[g]?=some (bWs (.slice vo j vc) S u1 nx Y ho1 hc1)∧((S.srv.take k).eraseIdx i).length=j∧wr.ownsRow U.heap.size 74 4 (.slice vo j vc) j (flatV ((S.srv.take k).eraseIdx i))∧Chg (fun y=>y=g) U wr)) (fun ix _=>n - (intOf ix).toNat)
 case atStart=>exact ⟨0,0,none,0,Nat.zero_le _,Nat.le_refl _,rfl,HU.out.2.1,by simp,by simp only [List.take_zero,List.eraseIdx_nil];exact World.ownsRow_nil _ _ _ _,Chg.refl _ _⟩
 case round =>
  obtain ⟨k,j,vo,vc,hk,hj,rfl,HS⟩:=hrel;have hgU:g<U.heap.size:=(Array.getElem?_eq_some_iff.1 HU.out.2.1).1;have hUr:=HS.out.2.2.2.size;have hWg:=HU.out.2.2.2;have HBW:Hid (Below W.heap.size W wr):=HU.out.2.2.1.trans (HS.out.2.2.2.below HU.out.2.2.1.size (fun x hx=>by omega));obtain ⟨a0,a1,a2,a3,a4,a5,a6,a7,a8,a9,az⟩:=blk10 (HB0.out wr HBW.out);by_cases hlt:k<n
  ·obtain ⟨⟨x0,x1,x2,x3⟩,hx⟩:∃ x,S.srv[k]?=some x:=⟨_,List.getElem?_eq_getElem (by rw [HN.out];exact hlt)⟩;have HX:=hideIt (ZdL (i:=i) hx);obtain ⟨bl,off,hao,hbl,d0,d1,d2,d3⟩:=ZN HRP.out hx;have hlti:(k:Int)<(n:Int):=by omega
   have h0i:(0:Int)≤(k:Int):=by omega
   clear hx;by_cases hki:k=i
   ·have HN2:Hid (((S.srv.take (k+1)).eraseIdx i)=((S.srv.take k).eraseIdx i)):=by show _=_;rw [HX.out,if_pos hki]
    have hb1:((k:Int) != (i:Int))=false:=by simp [hki]
    have hb2:(k != i)=false:=by simp [hki]
    clear hki HX d0 d1 d2 d3 hao;go_wp2_with fail
    go_roundw
    case rel=>exact ⟨k+1,j,vo,vc,by omega,by omega,by go_num,by rw [HN2.out];exact HS.out⟩
    case measure=>simp [intOf];omega
   ·have HN2:Hid (((S.srv.take (k+1)).eraseIdx i)=((S.srv.take k).eraseIdx i)++[⟨x0,x1,x2,x3⟩]):=by show _=_;rw [HX.out,if_neg hki]
    have hb1:((k:Int) != (i:Int))=true:=by simp;omega
    have hb2:(k != i)=true:=by simp [hki]
    have HK:Hid (∀ w1:World,(∀ b,b<wr.heap.size→some b≠(Value.slice vo j vc).ownBlock→w1.heap[b]?=wr.heap[b]?)→w1.cell? ⟨g,2,none⟩=some (.slice vo j vc)∧w1.frozen? ⟨g,2,none⟩=false∧w1.cell? ⟨w.heap.size,2,none⟩=some (.slice (some ⟨bl,off,none⟩) n u.sc)∧w1.cell? ⟨bl,off+k*4,none⟩=some (.int .i64 x0)∧w1.cell? ⟨bl,off+k*4+1,none⟩=some (.string x1)∧w1.cell? ⟨bl,off+k*4+2,none⟩=some (.int .i64 x2)∧w1.cell? ⟨bl,off+k*4+3,none⟩=some (.int .i64 x3)):=by
     intro w1 hw;have h:=rk HS.out.2.2.2 HS.out.2.2.1 hw;have e3:=(h g hgU).trans HS.out.1;have e0:=(h w.heap.size (by omega)).trans (HB0.out wr HBW.out);have eb:w1.heap[bl]?=W.heap[bl]?:=(h bl (by omega)).trans (HBW.out.block bl hbl);rw [hao] at e0;exact ⟨(blk10 e3).2.2.1,(blk10 e3).2.2.2.2.2.2.2.2.2.2 2,(blk10 e0).2.2.1,(World.cell?_of_block eb).trans d0,(World.cell?_of_block eb).trans d1,(World.cell?_of_block eb).trans d2,(World.cell?_of_block eb).trans d3⟩
    rw [hao] at a2;clear hki HX a0 a1 a2 a3 a4 a5 a6 a7 a8 a9 az d0 d1 d2 d3 hao;obtain ⟨p0,p1,p2,p3,p4,p5,p6⟩:=HK.out wr (fun _ _ _=>rfl);have hownd:=HS.out.2.2.1;have sA:∀ o,(wr.alloc o).cell? ⟨g,2,none⟩=some (.slice vo j vc):=fun o=>(HK.out (wr.alloc o) (fun j hj _=>Zh _ _ hj)).1
    obtain ⟨t0,hi,hz0,hz1,hz2⟩:=info_parts ZfX;go_upto_region 7 with fail
    go_region_law
     ((refine step_append_lies _ (by rfl) (.tmp 24) (.tmp 31) 32 (by rfl) U.heap.size 74 t0 _ 4 40 Tryz.underlying32 hi hz0 hz1 hz2 (by rfl) (by decide) _ j (flatV ((S.srv.take k).eraseIdx i)) (by rfl) (hownd.alloc _) ⟨wr.heap.size,0,none⟩ 1 1 [.int .i64 x0,.string x1,.int .i64 x2,.int .i64 x3] (by rfl) (by rfl) (Zw _ [.int .i64 x0,.string x1,.int .i64 x2,.int .i64 x3] _) (by intro u hu;simp at hu;rcases hu with rfl | rfl | rfl | rfl <;> rfl) (by omega) (by unfold maxLen;omega) (by omega) (by simp;omega) (wr.heap.size+1) (by simp) ?_;intro g6 cap6 w6 hown6 hgrow6 hat6 hlt6;obtain ⟨q0,q1,_⟩:=HK.out w6 (fun j hj hne=>(hgrow6.block j (by simp;omega) hne).trans (Zh _ _ hj))))
    all_goals
     have HJ6:Hid ((w6.setCell ⟨g,2,none⟩ (.slice (some ⟨g6,0,none⟩) (j+1) cap6)).heap[g]?=some (bWs (.slice (some ⟨g6,0,none⟩) (j+1) cap6) S u1 nx Y ho1 hc1)∧((S.srv.take (k+1)).eraseIdx i).length=j+1∧(w6.setCell ⟨g,2,none⟩ (.slice (some ⟨g6,0,none⟩) (j+1) cap6)).ownsRow U.heap.size 74 4 (.slice (some ⟨g6,0,none⟩) (j+1) cap6) (j+1) (flatV ((S.srv.take (k+1)).eraseIdx i))∧Chg (fun y=>y=g) U (w6.setCell ⟨g,2,none⟩ (.slice (some ⟨g6,0,none⟩) (j+1) cap6))):=by
      refine ⟨ZcT ((ZaF HS.out.2.2.2.drew hownd hgrow6 g hgU).trans HS.out.1) _,by rw [HN2.out];simp [HS.out.2.1],?_,Za6 HS.out.2.2.2.drew hownd hgrow6⟩;rw [HN2.out];unfold flatV;rw [List.flatMap_append];exact ownsRow_setCell_below hown6 hgU _
     clear hown6 hgrow6 hat6 q0 q1 p0 p1 p2 p3 p4 p5 p6 sA hownd;go_wp2_with fail
     go_roundw
     case rel=>exact ⟨k+1,j+1,some ⟨g6,0,none⟩,cap6,by omega,by omega,by go_num,HJ6.out⟩
     case measure=>simp [intOf];omega
  ·have hS:=HS.out;rw [List.take_of_length_le (by rw [HN.out];omega)] at hS;obtain ⟨D,hD⟩:∃ D,rClosed S i=D:=⟨_,rfl⟩;obtain ⟨v,hv⟩:∃ v:Stv,(⟨u1.po,u1.pc,vo,vc,u1.wo,u1.wc,u1.tqo,u1.tc⟩:Stv)=v:=⟨_,rfl⟩;have HXD:Hid (wr.heap[g]?=some (bW D v nx Y ho1 hc1)):=by
    rw [←hD,←hv];show _=some (bWs (.slice vo (S.srv.eraseIdx i).length vc) S u1 nx Y ho1 hc1);rw [hS.2.1];exact hS.1
   have HOD:Hid (OwnW w.heap.size wr D v Y ho1 hc1):=by
    rw [←hD,←hv];have hk:=(HOT.out.chg hS.2.2.2).mono (show w.heap.size≤W.heap.size by omega);have hown:wr.ownsRow w.heap.size 74 4 (.slice vo (S.srv.eraseIdx i).length vc) (S.srv.eraseIdx i).length (flatV (S.srv.eraseIdx i)):=by
     rw [hS.2.1];exact Zi hS.2.2.1 (by have:=HU.out.2.2.1.size;omega)
    exact ⟨hk.p,hown,hk.q,hk.t,hk.h⟩
   have HRR:=hideIt hD;clear hS hD hv;obtain ⟨e0,e1,e2,e3,e4,e5,e6,e7,e8,e9,ez⟩:=blk10 HXD.out;obtain ⟨r0,r1,r2,r3,r4,r5,r6,r7,r8,r9,rz⟩:=blk10 (Ze HW.out.b1 HBW.out);go_wp2_with fail
   obtain ⟨FW,hFW,HF⟩:=Zz HW.out HBW.out HOD.out (nx);unfold stS st10 at hFW;rw [hFW];obtain ⟨f0,f1,f2,f3,f4,f5,f6,f7,f8,f9,fz⟩:=blk10 HF.out.1;clear hFW;refine bodyPost_ret (v:=wdA D v nx Y ho1 hc1) (by simp [results,Tryz.results71,go_sem,f0,f1,f2,f3,f4,f5,f6,f7,f8,f9]) rfl ?_;rw [HRR.out];exact ⟨v,ho1,hc1,rfl,HF.out.2.2,HF.out.2.1⟩
theorem xLeft (S:Sta) (u:Stv) (nx:Int) (Y:Int×List Pl) (ho:Option Addr) (hc:Nat) (w:World) (i:Nat) (hO:RowX w S u Y ho hc) (hm:Sml S Y) :
  Calls Tryz.prog 73 #[wdA S u nx Y ho hc,.int .i64 i] w fun e w'=>GaveS w.heap.size w w' (rLeft S i) nx Y e:=by
 obtain ⟨W,HW⟩:=ZH w (bW S u nx Y ho hc);have HO:=hideIt (hO.nx HW.out.bel);have hW:w.heap.size+2≤W.heap.size:=by rw [HW.out.eq];simp
 have HCO:=hideIt (xCopied S u nx Y ho hc W HO.out hm);have hnq0:=hm.q;clear hO hm;unfold wdA;go_enter Tryz.func73,Tryz.ntmps73
 go_wp2_with fail
 rw [←HW.out.eq];refine HCO.out.mono ?_;rintro e w1 ⟨u1,ho1,hc1,rfl,o1,hb1⟩;obtain ⟨g,hg⟩:∃ g,w1.heap.size=g:=⟨_,rfl⟩;obtain ⟨U,hU⟩:∃ U,U=w1.alloc (bWq (.slice none 0 0) S u1 nx Y ho1 hc1):=⟨_,rfl⟩;have HOT:Hid (Oth W.heap.size U S u1 Y ho1 hc1 g):=by rw [hU,←hg];exact ZhD o1 _
 have HU:Hid (U=w1.alloc (bWq (.slice none 0 0) S u1 nx Y ho1 hc1)∧U.heap[g]?=some (bWq (.slice none 0 0) S u1 nx Y ho1 hc1)∧Below W.heap.size W U∧W.heap.size≤g):=⟨hU,by rw [hU];exact Zc _ _ hg.symm,by rw [hU];exact Za hb1 (Zb _ _),by rw [←hg];exact hb1.size⟩;have HG:=hideIt hg;clear o1 hb1 hU hg;go_upto_region 3 with fail
 rw [←HU.out.1,HG.out];obtain ⟨n,hn⟩:∃ n,S.wts.length=n:=⟨_,rfl⟩;have HN:=hideIt hn;have hnq:n≤549755813888:=by rw [←hn];exact hnq0
 have HB0:Hid (∀ v,Below W.heap.size W v→v.heap[w.heap.size]?=some (bWq (.slice u.wo n u.wc) S u nx Y ho hc)):=fun v hb=>by rw [←hn];exact Ze HW.out.b0 hb
 have HRP:Hid (RowAt W (.slice u.wo n u.wc) n (flatW S.wts)):=by rw [←hn];exact HO.out.q
 clear hn hnq0;go_wp2_with fail
 go_loopw [6] (fun ix wr=>∃ (k j:Nat) (vo:Option Addr) (vc:Nat),k≤n∧j≤k∧ix=.int .i64 k∧Hid (wr.heap[g]?=some (bWq (.slice vo j vc) S u1 nx Y ho1 hc1)∧((S.wts.take k).eraseIdx i).length=j∧wr.ownsRow U.heap.size 76 2 (.slice vo j vc) j (flatW ((S.wts.take k).eraseIdx i))∧Chg (fun y=>y=g) U wr)) (fun ix _=>n - (intOf ix).toNat)
 case atStart=>exact ⟨0,0,none,0,Nat.zero_le _,Nat.le_refl _,rfl,HU.out.2.1,by simp,by simp only [List.take_zero,List.eraseIdx_nil];exact World.ownsRow_nil _ _ _ _,Chg.refl _ _⟩
 case round =>
  obtain ⟨k,j,vo,vc,hk,hj,rfl,HS⟩:=hrel;have hgU:g<U.heap.size:=(Array.getElem?_eq_some_iff.1 HU.out.2.1).1;have hUr:=HS.out.2.2.2.size;have hWg:=HU.out.2.2.2;have HBW:Hid (Below W.heap.size W wr):=HU.out.2.2.1.trans (HS.out.2.2.2.below HU.out.2.2.1.size (fun x hx=>by omega));obtain ⟨a0,a1,a2,a3,a4,a5,a6,a7,a8,a9,az⟩:=blk10 (HB0.out wr HBW.out);by_cases hlt:k<n
  ·obtain ⟨⟨x0,x1⟩,hx⟩:∃ x,S.wts[k]?=some x:=⟨_,List.getElem?_eq_getElem (by rw [HN.out];exact hlt)⟩;have HX:=hideIt (ZdL (i:=i) hx);obtain ⟨bl,off,hao,hbl,d0,d1⟩:=Zaj HRP.out hx;have hlti:(k:Int)<(n:Int):=by omega
   have h0i:(0:Int)≤(k:Int):=by omega
   clear hx;by_cases hki:k=i
   ·have HN2:Hid (((S.wts.take (k+1)).eraseIdx i)=((S.wts.take k).eraseIdx i)):=by show _=_;rw [HX.out,if_pos hki]
    have hb1:((k:Int) != (i:Int))=false:=by simp [hki]
    have hb2:(k != i)=false:=by simp [hki]
    clear hki HX d0 d1 hao;go_wp2_with fail
    go_roundw
    case rel=>exact ⟨k+1,j,vo,vc,by omega,by omega,by go_num,by rw [HN2.out];exact HS.out⟩
    case measure=>simp [intOf];omega
   ·have HN2:Hid (((S.wts.take (k+1)).eraseIdx i)=((S.wts.take k).eraseIdx i)++[⟨x0,x1⟩]):=by show _=_;rw [HX.out,if_neg hki]
    have hb1:((k:Int) != (i:Int))=true:=by simp;omega
    have hb2:(k != i)=true:=by simp [hki]
    have HK:Hid (∀ w1:World,(∀ b,b<wr.heap.size→some b≠(Value.slice vo j vc).ownBlock→w1.heap[b]?=wr.heap[b]?)→w1.cell? ⟨g,3,none⟩=some (.slice vo j vc)∧w1.frozen? ⟨g,3,none⟩=false∧w1.cell? ⟨w.heap.size,3,none⟩=some (.slice (some ⟨bl,off,none⟩) n u.wc)∧w1.cell? ⟨bl,off+k*2,none⟩=some (.int .i64 x0)∧w1.cell? ⟨bl,off+k*2+1,none⟩=some (.string x1)):=by
     intro w1 hw;have h:=rk HS.out.2.2.2 HS.out.2.2.1 hw;have e3:=(h g hgU).trans HS.out.1;have e0:=(h w.heap.size (by omega)).trans (HB0.out wr HBW.out);have eb:w1.heap[bl]?=W.heap[bl]?:=(h bl (by omega)).trans (HBW.out.block bl hbl);rw [hao] at e0;exact ⟨(blk10 e3).2.2.2.1,(blk10 e3).2.2.2.2.2.2.2.2.2.2 3,(blk10 e0).2.2.2.1,(World.cell?_of_block eb).trans d0,(World.cell?_of_block eb).trans d1⟩
    rw [hao] at a3;clear hki HX a0 a1 a2 a3 a4 a5 a6 a7 a8 a9 az d0 d1 hao;obtain ⟨p0,p1,p2,p3,p4⟩:=HK.out wr (fun _ _ _=>rfl);have hownd:=HS.out.2.2.1;have sA:∀ o,(wr.alloc o).cell? ⟨g,3,none⟩=some (.slice vo j vc):=fun o=>(HK.out (wr.alloc o) (fun j hj _=>Zh _ _ hj)).1
    obtain ⟨t0,hi,hz0,hz1,hz2⟩:=info_parts ZfE;go_upto_region 7 with fail
    go_region_law
     ((refine step_append_lies _ (by rfl) (.tmp 24) (.tmp 31) 33 (by rfl) U.heap.size 76 t0 _ 2 24 Tryz.underlying33 hi hz0 hz1 hz2 (by rfl) (by decide) _ j (flatW ((S.wts.take k).eraseIdx i)) (by rfl) (hownd.alloc _) ⟨wr.heap.size,0,none⟩ 1 1 [.int .i64 x0,.string x1] (by rfl) (by rfl) (Zw _ [.int .i64 x0,.string x1] _) (by intro u hu;simp at hu;rcases hu with rfl | rfl <;> rfl) (by omega) (by unfold maxLen;omega) (by omega) (by simp;omega) (wr.heap.size+1) (by simp) ?_;intro g6 cap6 w6 hown6 hgrow6 hat6 hlt6;obtain ⟨q0,q1,_⟩:=HK.out w6 (fun j hj hne=>(hgrow6.block j (by simp;omega) hne).trans (Zh _ _ hj))))
    all_goals
     have HJ6:Hid ((w6.setCell ⟨g,3,none⟩ (.slice (some ⟨g6,0,none⟩) (j+1) cap6)).heap[g]?=some (bWq (.slice (some ⟨g6,0,none⟩) (j+1) cap6) S u1 nx Y ho1 hc1)∧((S.wts.take (k+1)).eraseIdx i).length=j+1∧(w6.setCell ⟨g,3,none⟩ (.slice (some ⟨g6,0,none⟩) (j+1) cap6)).ownsRow U.heap.size 76 2 (.slice (some ⟨g6,0,none⟩) (j+1) cap6) (j+1) (flatW ((S.wts.take (k+1)).eraseIdx i))∧Chg (fun y=>y=g) U (w6.setCell ⟨g,3,none⟩ (.slice (some ⟨g6,0,none⟩) (j+1) cap6))):=by
      refine ⟨ZcO ((ZaF HS.out.2.2.2.drew hownd hgrow6 g hgU).trans HS.out.1) _,by rw [HN2.out];simp [HS.out.2.1],?_,Za6 HS.out.2.2.2.drew hownd hgrow6⟩;rw [HN2.out];unfold flatW;rw [List.flatMap_append];exact ownsRow_setCell_below hown6 hgU _
     clear hown6 hgrow6 hat6 q0 q1 p0 p1 p2 p3 p4 sA hownd;go_wp2_with fail
     go_roundw
     case rel=>exact ⟨k+1,j+1,some ⟨g6,0,none⟩,cap6,by omega,by omega,by go_num,HJ6.out⟩
     case measure=>simp [intOf];omega
  ·have hS:=HS.out;rw [List.take_of_length_le (by rw [HN.out];omega)] at hS;obtain ⟨D,hD⟩:∃ D,rLeft S i=D:=⟨_,rfl⟩;obtain ⟨v,hv⟩:∃ v:Stv,(⟨u1.po,u1.pc,u1.so,u1.sc,vo,vc,u1.tqo,u1.tc⟩:Stv)=v:=⟨_,rfl⟩;have HXD:Hid (wr.heap[g]?=some (bW D v nx Y ho1 hc1)):=by
    rw [←hD,←hv];show _=some (bWq (.slice vo (S.wts.eraseIdx i).length vc) S u1 nx Y ho1 hc1);rw [hS.2.1];exact hS.1
   have HOD:Hid (OwnW w.heap.size wr D v Y ho1 hc1):=by
    rw [←hD,←hv];have hk:=(HOT.out.chg hS.2.2.2).mono (show w.heap.size≤W.heap.size by omega);have hown:wr.ownsRow w.heap.size 76 2 (.slice vo (S.wts.eraseIdx i).length vc) (S.wts.eraseIdx i).length (flatW (S.wts.eraseIdx i)):=by
     rw [hS.2.1];exact Zi hS.2.2.1 (by have:=HU.out.2.2.1.size;omega)
    exact ⟨hk.p,hk.s,hown,hk.t,hk.h⟩
   have HRR:=hideIt hD;clear hS hD hv;obtain ⟨e0,e1,e2,e3,e4,e5,e6,e7,e8,e9,ez⟩:=blk10 HXD.out;obtain ⟨r0,r1,r2,r3,r4,r5,r6,r7,r8,r9,rz⟩:=blk10 (Ze HW.out.b1 HBW.out);go_wp2_with fail
   obtain ⟨FW,hFW,HF⟩:=Zz HW.out HBW.out HOD.out (nx);unfold stS st10 at hFW;rw [hFW];obtain ⟨f0,f1,f2,f3,f4,f5,f6,f7,f8,f9,fz⟩:=blk10 HF.out.1;clear hFW;refine bodyPost_ret (v:=wdA D v nx Y ho1 hc1) (by simp [results,Tryz.results73,go_sem,f0,f1,f2,f3,f4,f5,f6,f7,f8,f9]) rfl ?_;rw [HRR.out];exact ⟨v,ho1,hc1,rfl,HF.out.2.2,HF.out.2.1⟩
end Lw
end Go.Proofs.YtcpikklofilkcaaGreat
