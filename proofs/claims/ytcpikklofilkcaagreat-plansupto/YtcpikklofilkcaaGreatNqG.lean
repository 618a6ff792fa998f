import Derived.Test.YtcpikklofilkcaaGreatNqF
import Derived.Maps.AppendAt
set_option maxRecDepth 100000
set_option maxHeartbeats 16000000
namespace Go.Proofs.YtcpikklofilkcaaGreat
open Go.RowKit
namespace Lw
open Co
theorem Zd7 (bud:Int) (ps:List Pl) (ss:List Srv) (ws:List Wtr) (ts:List Stp) (bg bk:Bool) (n1 n2 n3 n4:Nat) (po:Option Addr) (pc:Nat) (so:Option Addr) (sc:Nat) (wo:Option Addr) (wc:Nat) (tqo:Option Addr) (tc:Nat) (po':Option Addr) (pc':Nat) (so':Option Addr) (sc':Nat) (wo':Option Addr) (wc':Nat) (tqo':Option Addr) (tc':Nat) (w:World)
  (hn:ps.length=n1∧ss.length=n2∧ws.length=n3∧ts.length=n4) (hl:n1≤maxLen∧n2≤maxLen∧n3≤maxLen∧n4≤maxLen)
  (h1:RowAt w (.slice po n1 pc) n1 (flatP ps)∧RowAt w (.slice so n2 sc) n2 (flatV ss)∧RowAt w (.slice wo n3 wc) n3 (flatW ws)∧RowAt w (.slice tqo n4 tc) n4 (flatT ts))
  (h2:RowAt w (.slice po' n1 pc') n1 (flatP ps)∧RowAt w (.slice so' n2 sc') n2 (flatV ss)∧RowAt w (.slice wo' n3 wc') n3 (flatW ws)∧RowAt w (.slice tqo' n4 tc') n4 (flatT ts)) :
  Calls Tryz.prog 12 #[.agg #[.int .i64 bud,.slice po n1 pc,.slice so n2 sc,.slice wo n3 wc,.slice tqo n4 tc,.bool bg,.bool bk],.agg #[.int .i64 bud,.slice po' n1 pc',.slice so' n2 sc',.slice wo' n3 wc',.slice tqo' n4 tc',.bool bg,.bool bk]] w fun e w'=>e=.returned (.bool true)∧Below w.heap.size w w':=by
 have HN:=hideIt hn;have HL:=hideIt hl;obtain ⟨W,hW⟩:∃ W,W=(w.alloc (.cells #[.int .i64 bud,.slice po n1 pc,.slice so n2 sc,.slice wo n3 wc,.slice tqo n4 tc,.bool bg,.bool bk] 36)).alloc (.cells #[.int .i64 bud,.slice po' n1 pc',.slice so' n2 sc',.slice wo' n3 wc',.slice tqo' n4 tc',.bool bg,.bool bk] 36):=⟨_,rfl⟩;have hB0:Below w.heap.size w W:=by rw [hW];exact Za (Zb _ _) (Zb _ _)
 have HG:Hid (W.heap[w.heap.size]?=some (.cells #[.int .i64 bud,.slice po n1 pc,.slice so n2 sc,.slice wo n3 wc,.slice tqo n4 tc,.bool bg,.bool bk] 36)∧W.heap[w.heap.size+1]?=some (.cells #[.int .i64 bud,.slice po' n1 pc',.slice so' n2 sc',.slice wo' n3 wc',.slice tqo' n4 tc',.bool bg,.bool bk] 36)∧W.heap.size=w.heap.size+2∧Below w.heap.size w W):=by
  refine ⟨?_,?_,?_,hB0⟩
  ·rw [hW];exact (Zf _ _ (by simp)).trans (Zc _ _ rfl)
  ·rw [hW];exact Zc _ _ (by simp)
  ·rw [hW];simp
 have H1:Hid (RowAt W (.slice so n2 sc) n2 (flatV ss)∧RowAt W (.slice wo n3 wc) n3 (flatW ws)∧RowAt W (.slice tqo n4 tc) n4 (flatT ts)):=⟨h1.2.1.nx hB0,h1.2.2.1.nx hB0,h1.2.2.2.nx hB0⟩;have H2:Hid (RowAt W (.slice so' n2 sc') n2 (flatV ss)∧RowAt W (.slice wo' n3 wc') n3 (flatW ws)∧RowAt W (.slice tqo' n4 tc') n4 (flatT ts)):=⟨h2.2.1.nx hB0,h2.2.2.1.nx hB0,h2.2.2.2.nx hB0⟩;have HC:=hideIt (sameP bud po po' n1 pc pc' ps W (h1.1.nx hB0) (h2.1.nx hB0) hn.1 hl.1);rw [hW] at HC;have HW:=hideIt hW;clear h1 h2 hn hl hB0 hW;go_enter Tryz.func12,Tryz.ntmps12
 go_wp2_with fail
 refine HC.out.mono ?_;rintro e w1 ⟨rfl,hb1⟩;rw [←HW.out] at hb1;have K1:Hid (Below W.heap.size W w1):=hb1;obtain ⟨a0,a1,a2,a3,a4,a5,a6⟩:=blk7 hb1 (by rw [HG.out.2.2.1];omega) HG.out.1;obtain ⟨b0,b1,b2,b3,b4,b5,b6⟩:=blk7 hb1 (by rw [HG.out.2.2.1];omega) HG.out.2.1;have HC1:=hideIt (sameV so so' n2 sc sc' ss w1 (H1.out.1.nx hb1) (H2.out.1.nx hb1) HN.out.2.1 HL.out.2.1);clear hb1 HC;go_wp2_with fail
 refine HC1.out.mono ?_;rintro e w2 ⟨rfl,hb2⟩;have hb02:=Za K1.out hb2;have K2:Hid (Below W.heap.size W w2):=hb02;clear a0 a1 a2 a3 a4 a5 a6 b0 b1 b2 b3 b4 b5 b6;obtain ⟨a0,a1,a2,a3,a4,a5,a6⟩:=blk7 hb02 (by rw [HG.out.2.2.1];omega) HG.out.1;obtain ⟨b0,b1,b2,b3,b4,b5,b6⟩:=blk7 hb02 (by rw [HG.out.2.2.1];omega) HG.out.2.1;have HC2:=hideIt (sameW wo wo' n3 wc wc' ws w2 (H1.out.2.1.nx hb02) (H2.out.2.1.nx hb02) HN.out.2.2.1 HL.out.2.2.1);clear hb2 hb02 HC1;go_wp2_with fail
 refine HC2.out.mono ?_;rintro e w3 ⟨rfl,hb3⟩;have hb03:=Za K2.out hb3;have K3:Hid (Below W.heap.size W w3):=hb03;clear a0 a1 a2 a3 a4 a5 a6 b0 b1 b2 b3 b4 b5 b6;obtain ⟨a0,a1,a2,a3,a4,a5,a6⟩:=blk7 hb03 (by rw [HG.out.2.2.1];omega) HG.out.1;obtain ⟨b0,b1,b2,b3,b4,b5,b6⟩:=blk7 hb03 (by rw [HG.out.2.2.1];omega) HG.out.2.1;have HC3:=hideIt (sameS tqo tqo' n4 tc tc' ts w3 (H1.out.2.2.nx hb03) (H2.out.2.2.nx hb03) HN.out.2.2.2 HL.out.2.2.2);clear hb3 hb03 HC2;go_wp2_with fail
 refine HC3.out.mono ?_;rintro e w4 ⟨rfl,hb4⟩;have hb04:=Za K3.out hb4;have K4:Hid (Below w.heap.size w w4):=Za HG.out.2.2.2 hb04;clear a0 a1 a2 a3 a4 a5 a6 b0 b1 b2 b3 b4 b5 b6;obtain ⟨a0,a1,a2,a3,a4,a5,a6⟩:=blk7 hb04 (by rw [HG.out.2.2.1];omega) HG.out.1;obtain ⟨b0,b1,b2,b3,b4,b5,b6⟩:=blk7 hb04 (by rw [HG.out.2.2.1];omega) HG.out.2.1;clear hb4 hb04 HC3;go_wp2_with fail
 go_ret
 exact ⟨by simp,K4.out⟩
theorem ZbD (S:Sta) (v u:Stv) (w:World) (h1:StaAt w S v) (h2:StaAt w S u) (hs:Small S) :
  Calls Tryz.prog 12 #[staA S v,staA S u] w fun e w'=>e=.returned (.bool true)∧Below w.heap.size w w':=
 Zd7 S.bud S.pools S.srv S.wts S.plan S.begun S.back _ _ _ _ v.po v.pc v.so v.sc v.wo v.wc v.tqo v.tc u.po u.pc u.so u.sc u.wo u.wc u.tqo u.tc w ⟨rfl,rfl,rfl,rfl⟩ ⟨hs.p,hs.s,hs.t,hs.l⟩ ⟨h1.p,h1.s,h1.t,h1.l⟩ ⟨h2.p,h2.s,h2.t,h2.l⟩
abbrev bOw (v1 v2 v3 v4:Value):Obj:=.cells #[v1,v2,v3,v4] 47
def mP (q:Int):List Value:=[.string ⟨#[]⟩,.int .i64 0,.int .i64 0,.int .i64 q]
def mV (q:Int):List Value:=[.int .i64 0,.string ⟨#[]⟩,.int .i64 q,.int .i64 0]
def mW (q:Int):List Value:=[.int .i64 q,.string ⟨#[]⟩]
def mT (q:Int):List Value:=[.int .i64 0,.string ⟨#[]⟩,.int .i64 q]
def MarkG (sz:Nat) (m:List Value) (cur:Array Value) (k:Nat):Prop:=∀ j,j<k→∀ (i:Nat) (x:Value),m[i]?=some x→cur[j*sz+i]?=some x
def FullG (ty:TypeId) (sz:Nat) (m:List Value) (w:World) (v:Value):Prop:=
 v=.slice none 0 0∨∃ g cap cur,v=.slice (some ⟨g,0,none⟩) cap cap∧cap≤maxLen∧w.heap[g]?=some (.cells cur ty (0,0))∧MarkG sz m cur cap
theorem FullG.keep {ty:TypeId} {sz:Nat} {m:List Value} {w w':World} {v:Value} (h:FullG ty sz m w v) (hh:∀ g,v.ownBlock=some g→w'.heap[g]?=w.heap[g]?):FullG ty sz m w' v:=by
 rcases h with h | ⟨g,cap,cur,h1,h2,h3,h4⟩
 ·exact .inl h
 ·exact .inr ⟨g,cap,cur,h1,h2,(hh g (by rw [h1];rfl)).trans h3,h4⟩
theorem ZaQ (sz:Nat) (m:List Value) (cur:Array Value):MarkG sz m cur 0:=fun j hj=>by omega
theorem ZhV {cur:Array Value} {k cap:Nat} {m0 m1 m2 m3:Value} (h:MarkG 4 [m0,m1,m2,m3] cur k) (hc:cur.size=cap*4) (hk:k<cap) :
  MarkG 4 [m0,m1,m2,m3] ((((cur.setIfInBounds (k*4) m0).setIfInBounds (k*4+1) m1).setIfInBounds (k*4+2) m2).setIfInBounds (k*4+3) m3) (k+1):=by
 intro j hj i x hx;have hi:i<4:=(List.getElem?_eq_some_iff.1 hx).1;have hsz:k*4+3<cur.size:=by omega
 by_cases hjk:j<k
 ·rw [Array.getElem?_setIfInBounds_ne (by omega),Array.getElem?_setIfInBounds_ne (by omega),Array.getElem?_setIfInBounds_ne (by omega),Array.getElem?_setIfInBounds_ne (by omega)];exact h j hjk i x hx
 ·obtain rfl:j=k:=by omega
  match i,hi,hx with
  | 0,_,hx=>simp at hx;subst hx;simp only [Nat.add_zero];rw [Array.getElem?_setIfInBounds_ne (by omega),Array.getElem?_setIfInBounds_ne (by omega),Array.getElem?_setIfInBounds_ne (by omega),Array.getElem?_setIfInBounds_self_of_lt (by omega)]
  | 1,_,hx=>simp at hx;subst hx;rw [Array.getElem?_setIfInBounds_ne (by omega),Array.getElem?_setIfInBounds_ne (by omega),Array.getElem?_setIfInBounds_self_of_lt (by simp;omega)]
  | 2,_,hx=>simp at hx;subst hx;rw [Array.getElem?_setIfInBounds_ne (by omega),Array.getElem?_setIfInBounds_self_of_lt (by simp;omega)]
  | 3,_,hx=>simp at hx;subst hx;rw [Array.getElem?_setIfInBounds_self_of_lt (by simp;omega)]
theorem ZkA {cur:Array Value} {k cap:Nat} {m0 m1 m2:Value} (h:MarkG 3 [m0,m1,m2] cur k) (hc:cur.size=cap*3) (hk:k<cap) :
  MarkG 3 [m0,m1,m2] (((cur.setIfInBounds (k*3) m0).setIfInBounds (k*3+1) m1).setIfInBounds (k*3+2) m2) (k+1):=by
 intro j hj i x hx;have hi:i<3:=(List.getElem?_eq_some_iff.1 hx).1;have hsz:k*3+2<cur.size:=by omega
 by_cases hjk:j<k
 ·rw [Array.getElem?_setIfInBounds_ne (by omega),Array.getElem?_setIfInBounds_ne (by omega),Array.getElem?_setIfInBounds_ne (by omega)];exact h j hjk i x hx
 ·obtain rfl:j=k:=by omega
  match i,hi,hx with
  | 0,_,hx=>simp at hx;subst hx;simp only [Nat.add_zero];rw [Array.getElem?_setIfInBounds_ne (by omega),Array.getElem?_setIfInBounds_ne (by omega),Array.getElem?_setIfInBounds_self_of_lt (by omega)]
  | 1,_,hx=>simp at hx;subst hx;rw [Array.getElem?_setIfInBounds_ne (by omega),Array.getElem?_setIfInBounds_self_of_lt (by simp;omega)]
  | 2,_,hx=>simp at hx;subst hx;rw [Array.getElem?_setIfInBounds_self_of_lt (by simp;omega)]
theorem Zij {cur:Array Value} {k cap:Nat} {m0 m1:Value} (h:MarkG 2 [m0,m1] cur k) (hc:cur.size=cap*2) (hk:k<cap) :
  MarkG 2 [m0,m1] ((cur.setIfInBounds (k*2) m0).setIfInBounds (k*2+1) m1) (k+1):=by
 intro j hj i x hx;have hi:i<2:=(List.getElem?_eq_some_iff.1 hx).1;have hsz:k*2+1<cur.size:=by omega
 by_cases hjk:j<k
 ·rw [Array.getElem?_setIfInBounds_ne (by omega),Array.getElem?_setIfInBounds_ne (by omega)];exact h j hjk i x hx
 ·obtain rfl:j=k:=by omega
  match i,hi,hx with
  | 0,_,hx=>simp at hx;subst hx;simp only [Nat.add_zero];rw [Array.getElem?_setIfInBounds_ne (by omega),Array.getElem?_setIfInBounds_self_of_lt (by omega)]
  | 1,_,hx=>simp at hx;subst hx;rw [Array.getElem?_setIfInBounds_self_of_lt (by simp;omega)]
theorem blkOw {w:World} {g:Nat} {v1 v2 v3 v4:Value} (h:w.heap[g]?=some (bOw v1 v2 v3 v4)):w.cell? ⟨g,0,none⟩=some v1∧w.cell? ⟨g,1,none⟩=some v2∧w.cell? ⟨g,2,none⟩=some v3∧w.cell? ⟨g,3,none⟩=some v4∧∀ a,w.frozen? ⟨g,a,none⟩=false:=by
 refine ⟨?_,?_,?_,?_,fun a=>?_⟩ <;> simp [World.cell?,World.frozen?,h]
theorem blkC {w:World} {g:Nat} {cur:Array Value} {t:TypeId} (h:w.heap[g]?=some (.cells cur t (0,0))) (a:Nat) (ha:a<cur.size):(∃ v,w.cell? ⟨g,a,none⟩=some v)∧w.frozen? ⟨g,a,none⟩=false:=by
 refine ⟨⟨cur[a],?_⟩,?_⟩
 ·simp [World.cell?,h,ha]
 ·simp [World.frozen?,h]
theorem Zj {w w':World} {B:Nat} {e:TypeId} {size:Nat} {v:Value} {n:Nat} {xs:List Value} (h:w.ownsRow B e size v n xs) (hh:∀ j,v.ownBlock=some j→w'.heap[j]?=w.heap[j]?):w'.ownsRow B e size v n xs:=by
 obtain ⟨hl,h⟩:=h;refine ⟨hl,?_⟩;rcases h with h | ⟨g,cap,cur,h1,h2,hg,h4⟩
 ·exact .inl h
 ·exact .inr ⟨g,cap,cur,h1,h2,(hh g (by rw [h1];rfl)).trans hg,h4⟩
def SameW (w w':World):Prop:=w'.os=w.os∧w'.tape=w.tape∧w'.output=w.output
theorem SameW.trans {a b c:World} (h:SameW a b) (k:SameW b c):SameW a c:=⟨k.1.trans h.1,k.2.1.trans h.2.1,k.2.2.trans h.2.2⟩
theorem Zp (w:World) (a:Addr) (v:Value):SameW w (w.setCell a v):=by
 have h:=(Below.refl 0 w).setCell (Nat.zero_le a.block) v;exact ⟨h.os,h.tape,h.output⟩
theorem ZgF:(Tryz.prog.info? 29).map (fun i=>(i.zero,i.size,i.bytes))=some (some (.slice none 0 0),1,24):=by kernel_rfl
theorem Zj7:(Tryz.prog.info? 32).map (fun i=>(i.zero,i.size,i.bytes))=some (some (.slice none 0 0),1,24):=by kernel_rfl
theorem Zgt:(Tryz.prog.info? 33).map (fun i=>(i.zero,i.size,i.bytes))=some (some (.slice none 0 0),1,24):=by kernel_rfl
theorem Zgq:(Tryz.prog.info? 34).map (fun i=>(i.zero,i.size,i.bytes))=some (some (.slice none 0 0),1,24):=by kernel_rfl
theorem Zh5 (go g:Nat) (b:Int) (v2 v3 v4:Value) (po:Option Addr) (pc q:Nat) (vs:List Value) (n cap:Nat) (cur:Array Value) (w:World) (hgo:w.heap[go]?=some (bOw (.slice po q pc) v2 v3 v4)) (hpv:w.ownsRow 0 29 1 (.slice po q pc) q vs) (hq:q≤1099511627776)
  (hg:w.heap[g]?=some (.cells cur 70 (0,0))) (hc:cur.size=cap*4) (hcap:cap≤maxLen) (hn:n≤cap) :
  Calls Tryz.prog 32 #[.pointer (some ⟨go,0,none⟩),.agg #[.int .i64 b,.slice (some ⟨g,0,none⟩) n cap]] w fun e w'=>(∃ x,e=.returned x)∧∃ po6 pc6,w'.heap[go]?=some (bOw (.slice po6 (q+1) pc6) v2 v3 v4)∧w'.ownsRow 0 29 1 (.slice po6 (q+1) pc6) (q+1) (vs++[.slice (some ⟨g,0,none⟩) cap cap])∧FullG 70 4 (mP ((q+1:Nat):Int)) w' (.slice (some ⟨g,0,none⟩) cap cap)∧Chg (fun x=>x=go∨x=g∨(Value.slice po q pc).ownBlock=some x) w w'∧(∀ j,(Value.slice po6 (q+1) pc6).ownBlock=some j→(Value.slice po q pc).ownBlock=some j∨w.heap.size≤j):=by
 obtain ⟨t0,hi,hz0,hz1,hz2⟩:=info_parts ZgF;have HCAP:=hideIt hcap;unfold maxLen at hcap;have hglt:g<w.heap.size:=(Array.getElem?_eq_some_iff.1 hg).1;have hgolt:go<w.heap.size:=(Array.getElem?_eq_some_iff.1 hgo).1;have hne:go≠g:=by
  intro e;rw [e,hg] at hgo;simp at hgo
 obtain ⟨a0,a1,a2,a3,az⟩:=blkOw hgo;have ka:=fun o=>(blkOw (w:=w.alloc o) ((Zh _ _ hgolt).trans hgo))
 have ka0:=fun o=>(ka o).1
 have kz:=fun o=>(ka o).2.2.2.2
 clear ka;have hpg:(Value.slice po q pc).ownBlock≠some g:=by
  intro e;obtain ⟨cur',h'⟩:=Zq hpv g e;rw [hg] at h';simp at h'
 have hpo:(Value.slice po q pc).ownBlock≠some go:=by
  intro e;obtain ⟨cur',h'⟩:=Zq hpv go e;rw [hgo] at h';simp at h'
 have HH:Hid (w.heap[go]?=some (bOw (.slice po q pc) v2 v3 v4)∧w.heap[g]?=some (.cells cur 70 (0,0))∧cur.size=cap*4∧(Value.slice po q pc).ownBlock≠some g∧(Value.slice po q pc).ownBlock≠some go):=⟨hgo,hg,hc,hpg,hpo⟩;clear hgo hg hc hpg hpo;go_enter Tryz.func32,Tryz.ntmps32
 go_wp2_with (at_builtin;refine wpList_append_own_at _ rfl (.tmp 16) (.tmp 18) 42 rfl 0 29 t0 _ 1 24 Tryz.underlying42 hi hz0 hz1 hz2 rfl (by decide) _ _ _ rfl ((hpv.alloc _).alloc _) ⟨w.heap.size+1,0,none⟩ 1 1 [.slice (some ⟨g,0,none⟩) cap cap] rfl rfl (Zo _ [.slice (some ⟨g,0,none⟩) cap cap] 29 (by simp)) (by intro u hu;simp at hu;subst hu;rfl) (by unfold maxLen;omega) (by omega) (Nat.zero_le _) ?next)
 case next =>
  intro v' w6 hown6 hgrow6 _ hat6;obtain ⟨po6,pc6,hv6,_⟩:=Zd hown6;subst hv6;have hlow:∀ j,j<w.heap.size→(Value.slice po q pc).ownBlock≠some j→w6.heap[j]?=w.heap[j]?:=fun j hj hne'=>(hgrow6.block j (by simp;omega) (fun e=>hne' e.symm)).trans ((Zh _ _ (by simp;omega)).trans (Zh _ _ hj))
  have hgo6:w6.heap[go]?=some (bOw (.slice po q pc) v2 v3 v4):=(hlow go hgolt HH.out.2.2.2.2).trans HH.out.1;have hg6:w6.heap[g]?=some (.cells cur 70 (0,0)):=(hlow g hglt HH.out.2.2.2.1).trans HH.out.2.1;obtain ⟨W7,hW7⟩:∃ W7,W7=w6.setCell ⟨go,0,none⟩ (.slice po6 (q+1) pc6):=⟨_,rfl⟩;have hoth:∀ j,j≠go→W7.heap[j]?=w6.heap[j]?:=fun j hj=>by rw [hW7];exact Below.heap_setCell _ _ _ _ hj
  have hnb:∀ j,(Value.slice po6 (q+1) pc6).ownBlock=some j→(Value.slice po q pc).ownBlock=some j∨w.heap.size≤j:=by
   intro j hj;rcases hat6 with h | h
   ·exact .inl (h.symm.trans hj)
   ·right;rw [hj] at h;simp at h;omega
  have hnb2:∀ j,(Value.slice po6 (q+1) pc6).ownBlock=some j→j≠g∧j≠go:=by
   intro j hj;rcases hnb j hj with h | h
   ·exact ⟨fun e=>HH.out.2.2.2.1 (by rw [h,e]),fun e=>HH.out.2.2.2.2 (by rw [h,e])⟩
   ·exact ⟨by omega,by omega⟩
  have HW:Hid (W7=w6.setCell ⟨go,0,none⟩ (.slice po6 (q+1) pc6)∧W7.heap[go]?=some (bOw (.slice po6 (q+1) pc6) v2 v3 v4)∧W7.heap[g]?=some (.cells cur 70 (0,0))∧W7.ownsRow 0 29 1 (.slice po6 (q+1) pc6) (q+1) (vs++[.slice (some ⟨g,0,none⟩) cap cap])∧w.heap.size≤W7.heap.size∧(∀ k,k<w.heap.size→k≠go→(Value.slice po q pc).ownBlock≠some k→W7.heap[k]?=w.heap[k]?)∧(∀ j,(Value.slice po6 (q+1) pc6).ownBlock=some j→j≠g)∧SameW w W7∧(∀ j,(Value.slice po6 (q+1) pc6).ownBlock=some j→(Value.slice po q pc).ownBlock=some j∨w.heap.size≤j)):=by
   refine ⟨hW7,by rw [hW7];exact Zg _ _ _ _ _ _ hgo6,(hoth g (fun e=>hne e.symm)).trans hg6,Zj hown6 (fun j hj=>hoth j (hnb2 j hj).2),?_,fun k h1 h2 h4=>(hoth k h2).trans (hlow k h1 h4),fun j hj=>(hnb2 j hj).1,by rw [hW7];exact SameW.trans ⟨hgrow6.os,hgrow6.tape,hgrow6.output⟩ (Zp _ _ _),hnb⟩;have:=hgrow6.size;rw [hW7];simp at this ⊢;omega
  obtain ⟨b0,b1,b2,b3,bz⟩:=blkOw hgo6;clear hown6 hgrow6 hat6 hlow hgo6 hg6 hW7 hoth hnb hnb2;go_wp2_with fail
  rw [←HW.out.1];clear b0 b1 b2 b3 bz a0 a1 a2 a3 az ka0 kz;go_loopw [5] (fun i wr=>∃ (k:Nat) (cur':Array Value),k≤cap∧i=.int .i64 k∧Hid (cur'.size=cap*4∧MarkG 4 (mP ((q+1:Nat):Int)) cur' k∧wr.heap[g]?=some (.cells cur' 70 (0,0))∧wr.heap.size=W7.heap.size∧(∀ j,j≠g→wr.heap[j]?=W7.heap[j]?)∧SameW W7 wr)) (fun i _=>cap - (intOf i).toNat)
  case atStart=>exact ⟨0,cur,Nat.zero_le _,rfl,HH.out.2.2.1,ZaQ _ _ _,HW.out.2.2.1,rfl,fun _ _=>rfl,rfl,rfl,rfl⟩
  case round =>
   obtain ⟨k,cur',hk,rfl,HC⟩:=hrel;have hgor:wr.heap[go]?=some (bOw (.slice po6 (q+1) pc6) v2 v3 v4):=(HC.out.2.2.2.2.1 go hne).trans HW.out.2.1;obtain ⟨b0,b1,b2,b3,bz⟩:=blkOw hgor;by_cases hlt:k<cap
   ·have hsz:=HC.out.1;obtain ⟨⟨u0,hu0⟩,z0⟩:=blkC HC.out.2.2.1 (k*4) (by omega);obtain ⟨⟨u1,hu1⟩,z1⟩:=blkC HC.out.2.2.1 (k*4+1) (by omega);obtain ⟨⟨u2,hu2⟩,z2⟩:=blkC HC.out.2.2.1 (k*4+2) (by omega);obtain ⟨⟨u3,hu3⟩,z3⟩:=blkC HC.out.2.2.1 (k*4+3) (by omega);have hlti:(k:Int)<(cap:Int):=by omega
    have HR:Hid (((((wr.setCell ⟨g,k*4,none⟩ (.string ⟨#[]⟩)).setCell ⟨g,k*4+1,none⟩ (.int .i64 0)).setCell ⟨g,k*4+2,none⟩ (.int .i64 0)).setCell ⟨g,k*4+3,none⟩ (.int .i64 ((q+1:Nat):Int))).heap[g]?=some (.cells ((((cur'.setIfInBounds (k*4) (.string ⟨#[]⟩)).setIfInBounds (k*4+1) (.int .i64 0)).setIfInBounds (k*4+2) (.int .i64 0)).setIfInBounds (k*4+3) (.int .i64 ((q+1:Nat):Int))) 70 (0,0))):=
     (Zg _ g (k*4+3) _ _ _ (Zg _ g (k*4+2) _ _ _ (Zg _ g (k*4+1) _ _ _ (Zg _ g (k*4) _ _ _ HC.out.2.2.1))))
    clear hsz hgor;go_wp2_with fail
    go_roundw
    case rel =>
     refine ⟨k+1,_,by omega,by go_num,?_,ZhV HC.out.2.1 HC.out.1 hlt,HR.out,?_,?_,?_⟩
     ·simp;exact HC.out.1
     ·simp;exact HC.out.2.2.2.1
     ·intro j hj;exact (Below.heap_setCell _ _ _ _ hj).trans ((Below.heap_setCell _ _ _ _ hj).trans ((Below.heap_setCell _ _ _ _ hj).trans ((Below.heap_setCell _ _ _ _ hj).trans (HC.out.2.2.2.2.1 j hj))))
     ·exact HC.out.2.2.2.2.2.trans ((((Zp _ _ _).trans (Zp _ _ _)).trans (Zp _ _ _)).trans (Zp _ _ _))
    case measure=>simp [intOf];omega
   ·obtain rfl:k=cap:=by omega
    clear hgor;go_wp2_with fail
    refine bodyPost_end (v:=.tuple #[]) (by simp [results,Tryz.results32,go_sem]) rfl ?_;have hS:=HW.out.2.2.2.2.2.2.2.1.trans HC.out.2.2.2.2.2;refine ⟨⟨_,rfl⟩,po6,pc6,(HC.out.2.2.2.2.1 go hne).trans HW.out.2.1,Zj HW.out.2.2.2.1 (fun j hj=>HC.out.2.2.2.2.1 j (HW.out.2.2.2.2.2.2.1 j hj)),.inr ⟨g,k,cur',rfl,HCAP.out,HC.out.2.2.1,HC.out.2.1⟩,⟨hS.1,hS.2.1,hS.2.2,by rw [HC.out.2.2.2.1];exact HW.out.2.2.2.2.1,fun j h1 h2=>(HC.out.2.2.2.2.1 j (fun e=>h2 (.inr (.inl e)))).trans (HW.out.2.2.2.2.2.1 j h1 (fun e=>h2 (.inl e)) (fun e=>h2 (.inr (.inr e))))⟩,HW.out.2.2.2.2.2.2.2.2⟩
theorem Zi9 (go:Nat) (b:Int) (v2 v3 v4:Value) (po:Option Addr) (pc q:Nat) (vs:List Value) (w:World) (hgo:w.heap[go]?=some (bOw (.slice po q pc) v2 v3 v4)) (hpv:w.ownsRow 0 29 1 (.slice po q pc) q vs) (hq:q≤1099511627776) :
  Calls Tryz.prog 32 #[.pointer (some ⟨go,0,none⟩),.agg #[.int .i64 b,.slice none 0 0]] w fun e w'=>(∃ x,e=.returned x)∧∃ po6 pc6,w'.heap[go]?=some (bOw (.slice po6 (q+1) pc6) v2 v3 v4)∧w'.ownsRow 0 29 1 (.slice po6 (q+1) pc6) (q+1) (vs++[.slice none 0 0])∧Chg (fun x=>x=go∨(Value.slice po q pc).ownBlock=some x) w w'∧(∀ j,(Value.slice po6 (q+1) pc6).ownBlock=some j→(Value.slice po q pc).ownBlock=some j∨w.heap.size≤j):=by
 obtain ⟨t0,hi,hz0,hz1,hz2⟩:=info_parts ZgF;have hgolt:go<w.heap.size:=(Array.getElem?_eq_some_iff.1 hgo).1;obtain ⟨a0,a1,a2,a3,az⟩:=blkOw hgo;have ka:=fun o=>(blkOw (w:=w.alloc o) ((Zh _ _ hgolt).trans hgo))
 have ka0:=fun o=>(ka o).1
 have kz:=fun o=>(ka o).2.2.2.2
 clear ka;have hpo:(Value.slice po q pc).ownBlock≠some go:=by
  intro e;obtain ⟨cur',h'⟩:=Zq hpv go e;rw [hgo] at h';simp at h'
 have HH:Hid (w.heap[go]?=some (bOw (.slice po q pc) v2 v3 v4)∧(Value.slice po q pc).ownBlock≠some go):=⟨hgo,hpo⟩;clear hgo hpo;go_enter Tryz.func32,Tryz.ntmps32
 go_wp2_with (at_builtin;refine wpList_append_own_at _ rfl (.tmp 16) (.tmp 18) 42 rfl 0 29 t0 _ 1 24 Tryz.underlying42 hi hz0 hz1 hz2 rfl (by decide) _ _ _ rfl ((hpv.alloc _).alloc _) ⟨w.heap.size+1,0,none⟩ 1 1 [.slice none 0 0] rfl rfl (Zo _ [.slice none 0 0] 29 (by simp)) (by intro u hu;simp at hu;subst hu;rfl) (by unfold maxLen;omega) (by omega) (Nat.zero_le _) ?next)
 case next =>
  intro v' w6 hown6 hgrow6 _ hat6;obtain ⟨po6,pc6,hv6,_⟩:=Zd hown6;subst hv6;have hlow:∀ j,j<w.heap.size→(Value.slice po q pc).ownBlock≠some j→w6.heap[j]?=w.heap[j]?:=fun j hj hne'=>(hgrow6.block j (by simp;omega) (fun e=>hne' e.symm)).trans ((Zh _ _ (by simp;omega)).trans (Zh _ _ hj))
  have hgo6:w6.heap[go]?=some (bOw (.slice po q pc) v2 v3 v4):=(hlow go hgolt HH.out.2).trans HH.out.1;obtain ⟨W7,hW7⟩:∃ W7,W7=w6.setCell ⟨go,0,none⟩ (.slice po6 (q+1) pc6):=⟨_,rfl⟩;have hoth:∀ j,j≠go→W7.heap[j]?=w6.heap[j]?:=fun j hj=>by rw [hW7];exact Below.heap_setCell _ _ _ _ hj
  have hnb:∀ j,(Value.slice po6 (q+1) pc6).ownBlock=some j→(Value.slice po q pc).ownBlock=some j∨w.heap.size≤j:=by
   intro j hj;rcases hat6 with h | h
   ·exact .inl (h.symm.trans hj)
   ·right;rw [hj] at h;simp at h;omega
  have hnb2:∀ j,(Value.slice po6 (q+1) pc6).ownBlock=some j→j≠go:=by
   intro j hj;rcases hnb j hj with h | h
   ·exact fun e=>HH.out.2 (by rw [h,e])
   ·omega
  have hsz7:w.heap.size≤W7.heap.size:=by
   have:=hgrow6.size;rw [hW7];simp at this ⊢;omega
  have hS:SameW w W7:=by rw [hW7];exact SameW.trans ⟨hgrow6.os,hgrow6.tape,hgrow6.output⟩ (Zp _ _ _)
  have HW:Hid (W7=w6.setCell ⟨go,0,none⟩ (.slice po6 (q+1) pc6)∧W7.heap[go]?=some (bOw (.slice po6 (q+1) pc6) v2 v3 v4)∧W7.ownsRow 0 29 1 (.slice po6 (q+1) pc6) (q+1) (vs++[.slice none 0 0])∧Chg (fun x=>x=go∨(Value.slice po q pc).ownBlock=some x) w W7∧(∀ j,(Value.slice po6 (q+1) pc6).ownBlock=some j→(Value.slice po q pc).ownBlock=some j∨w.heap.size≤j)):=
   ⟨hW7,by rw [hW7];exact Zg _ _ _ _ _ _ hgo6,Zj hown6 (fun j hj=>hoth j (hnb2 j hj)),⟨hS.1,hS.2.1,hS.2.2,hsz7,fun k h1 h2=>(hoth k (fun e=>h2 (.inl e))).trans (hlow k h1 (fun e=>h2 (.inr e)))⟩,hnb⟩
  obtain ⟨b0,b1,b2,b3,bz⟩:=blkOw hgo6;clear hown6 hgrow6 hat6 hlow hgo6 hW7 hoth hnb hnb2 hsz7 hS;go_wp2_with fail
  rw [←HW.out.1];clear b0 b1 b2 b3 bz a0 a1 a2 a3 az ka0 kz;go_loopw [5] (fun i wr=>i=.int .i64 0∧wr=W7) (fun _ _=>0)
  case atStart=>exact ⟨rfl,rfl⟩
  case round =>
   obtain ⟨rfl,rfl⟩:=hrel;go_wp2_with fail
   refine bodyPost_end (v:=.tuple #[]) (by simp [results,Tryz.results32,go_sem]) rfl ?_;exact ⟨⟨_,rfl⟩,po6,pc6,HW.out.2.1,HW.out.2.2.1,HW.out.2.2.2.1,HW.out.2.2.2.2⟩
theorem Ziz (go g:Nat) (v1 v2 v3:Value) (po:Option Addr) (pc q:Nat) (vs:List Value) (n cap:Nat) (cur:Array Value) (w:World) (hgo:w.heap[go]?=some (bOw v1 v2 v3 (.slice po q pc))) (hpv:w.ownsRow 0 34 1 (.slice po q pc) q vs) (hq:q≤1099511627776)
  (hg:w.heap[g]?=some (.cells cur 72 (0,0))) (hc:cur.size=cap*3) (hcap:cap≤maxLen) (hn:n≤cap) :
  Calls Tryz.prog 33 #[.pointer (some ⟨go,0,none⟩),.slice (some ⟨g,0,none⟩) n cap] w fun e w'=>(∃ x,e=.returned x)∧∃ po6 pc6,w'.heap[go]?=some (bOw v1 v2 v3 (.slice po6 (q+1) pc6))∧w'.ownsRow 0 34 1 (.slice po6 (q+1) pc6) (q+1) (vs++[.slice (some ⟨g,0,none⟩) cap cap])∧FullG 72 3 (mT ((q+1:Nat):Int)) w' (.slice (some ⟨g,0,none⟩) cap cap)∧Chg (fun x=>x=go∨x=g∨(Value.slice po q pc).ownBlock=some x) w w'∧(∀ j,(Value.slice po6 (q+1) pc6).ownBlock=some j→(Value.slice po q pc).ownBlock=some j∨w.heap.size≤j):=by
 obtain ⟨t0,hi,hz0,hz1,hz2⟩:=info_parts Zgq;have HCAP:=hideIt hcap;unfold maxLen at hcap;have hglt:g<w.heap.size:=(Array.getElem?_eq_some_iff.1 hg).1;have hgolt:go<w.heap.size:=(Array.getElem?_eq_some_iff.1 hgo).1;have hne:go≠g:=by
  intro e;rw [e,hg] at hgo;simp at hgo
 obtain ⟨a0,a1,a2,a3,az⟩:=blkOw hgo;have hpg:(Value.slice po q pc).ownBlock≠some g:=by
  intro e;obtain ⟨cur',h'⟩:=Zq hpv g e;rw [hg] at h';simp at h'
 have hpo:(Value.slice po q pc).ownBlock≠some go:=by
  intro e;obtain ⟨cur',h'⟩:=Zq hpv go e;rw [hgo] at h';simp at h'
 have HH:Hid (w.heap[go]?=some (bOw v1 v2 v3 (.slice po q pc))∧w.heap[g]?=some (.cells cur 72 (0,0))∧cur.size=cap*3∧(Value.slice po q pc).ownBlock≠some g∧(Value.slice po q pc).ownBlock≠some go):=⟨hgo,hg,hc,hpg,hpo⟩;clear hgo hg hc hpg hpo;go_enter Tryz.func33,Tryz.ntmps33
 go_wp2_with (at_builtin;refine wpList_append_own_at _ rfl (.tmp 14) (.tmp 16) 45 rfl 0 34 t0 _ 1 24 Tryz.underlying45 hi hz0 hz1 hz2 rfl (by decide) _ _ _ rfl (hpv.alloc _) ⟨w.heap.size,0,none⟩ 1 1 [.slice (some ⟨g,0,none⟩) cap cap] rfl rfl (Zo _ [.slice (some ⟨g,0,none⟩) cap cap] 34 (by simp)) (by intro u hu;simp at hu;subst hu;rfl) (by unfold maxLen;omega) (by omega) (Nat.zero_le _) ?next)
 case next =>
  intro v' w6 hown6 hgrow6 _ hat6;obtain ⟨po6,pc6,hv6,_⟩:=Zd hown6;subst hv6;have hlow:∀ j,j<w.heap.size→(Value.slice po q pc).ownBlock≠some j→w6.heap[j]?=w.heap[j]?:=fun j hj hne'=>(hgrow6.block j (by simp;omega) (fun e=>hne' e.symm)).trans (Zh _ _ hj)
  have hgo6:w6.heap[go]?=some (bOw v1 v2 v3 (.slice po q pc)):=(hlow go hgolt HH.out.2.2.2.2).trans HH.out.1;have hg6:w6.heap[g]?=some (.cells cur 72 (0,0)):=(hlow g hglt HH.out.2.2.2.1).trans HH.out.2.1;obtain ⟨W7,hW7⟩:∃ W7,W7=w6.setCell ⟨go,3,none⟩ (.slice po6 (q+1) pc6):=⟨_,rfl⟩;have hoth:∀ j,j≠go→W7.heap[j]?=w6.heap[j]?:=fun j hj=>by rw [hW7];exact Below.heap_setCell _ _ _ _ hj
  have hnb:∀ j,(Value.slice po6 (q+1) pc6).ownBlock=some j→(Value.slice po q pc).ownBlock=some j∨w.heap.size≤j:=by
   intro j hj;rcases hat6 with h | h
   ·exact .inl (h.symm.trans hj)
   ·right;rw [hj] at h;simp at h;omega
  have hnb2:∀ j,(Value.slice po6 (q+1) pc6).ownBlock=some j→j≠g∧j≠go:=by
   intro j hj;rcases hnb j hj with h | h
   ·exact ⟨fun e=>HH.out.2.2.2.1 (by rw [h,e]),fun e=>HH.out.2.2.2.2 (by rw [h,e])⟩
   ·exact ⟨by omega,by omega⟩
  have HW:Hid (W7=w6.setCell ⟨go,3,none⟩ (.slice po6 (q+1) pc6)∧W7.heap[go]?=some (bOw v1 v2 v3 (.slice po6 (q+1) pc6))∧W7.heap[g]?=some (.cells cur 72 (0,0))∧W7.ownsRow 0 34 1 (.slice po6 (q+1) pc6) (q+1) (vs++[.slice (some ⟨g,0,none⟩) cap cap])∧w.heap.size≤W7.heap.size∧(∀ k,k<w.heap.size→k≠go→(Value.slice po q pc).ownBlock≠some k→W7.heap[k]?=w.heap[k]?)∧(∀ j,(Value.slice po6 (q+1) pc6).ownBlock=some j→j≠g)∧SameW w W7∧(∀ j,(Value.slice po6 (q+1) pc6).ownBlock=some j→(Value.slice po q pc).ownBlock=some j∨w.heap.size≤j)):=by
   refine ⟨hW7,by rw [hW7];exact Zg _ _ _ _ _ _ hgo6,(hoth g (fun e=>hne e.symm)).trans hg6,Zj hown6 (fun j hj=>hoth j (hnb2 j hj).2),?_,fun k h1 h2 h4=>(hoth k h2).trans (hlow k h1 h4),fun j hj=>(hnb2 j hj).1,by rw [hW7];exact SameW.trans ⟨hgrow6.os,hgrow6.tape,hgrow6.output⟩ (Zp _ _ _),hnb⟩;have:=hgrow6.size;rw [hW7];simp at this ⊢;omega
  obtain ⟨b0,b1,b2,b3,bz⟩:=blkOw hgo6;clear hown6 hgrow6 hat6 hlow hgo6 hg6 hW7 hoth hnb hnb2;go_wp2_with fail
  rw [←HW.out.1];clear b0 b1 b2 b3 bz a0 a1 a2 a3 az;go_loopw [5] (fun i wr=>∃ (k:Nat) (cur':Array Value),k≤cap∧i=.int .i64 k∧Hid (cur'.size=cap*3∧MarkG 3 (mT ((q+1:Nat):Int)) cur' k∧wr.heap[g]?=some (.cells cur' 72 (0,0))∧wr.heap.size=W7.heap.size∧(∀ j,j≠g→wr.heap[j]?=W7.heap[j]?)∧SameW W7 wr)) (fun i _=>cap - (intOf i).toNat)
  case atStart=>exact ⟨0,cur,Nat.zero_le _,rfl,HH.out.2.2.1,ZaQ _ _ _,HW.out.2.2.1,rfl,fun _ _=>rfl,rfl,rfl,rfl⟩
  case round =>
   obtain ⟨k,cur',hk,rfl,HC⟩:=hrel;have hgor:wr.heap[go]?=some (bOw v1 v2 v3 (.slice po6 (q+1) pc6)):=(HC.out.2.2.2.2.1 go hne).trans HW.out.2.1;obtain ⟨b0,b1,b2,b3,bz⟩:=blkOw hgor;by_cases hlt:k<cap
   ·have hsz:=HC.out.1;obtain ⟨⟨u0,hu0⟩,z0⟩:=blkC HC.out.2.2.1 (k*3) (by omega);obtain ⟨⟨u1,hu1⟩,z1⟩:=blkC HC.out.2.2.1 (k*3+1) (by omega);obtain ⟨⟨u2,hu2⟩,z2⟩:=blkC HC.out.2.2.1 (k*3+2) (by omega);have hlti:(k:Int)<(cap:Int):=by omega
    have HR:Hid ((((wr.setCell ⟨g,k*3,none⟩ (.int .i64 0)).setCell ⟨g,k*3+1,none⟩ (.string ⟨#[]⟩)).setCell ⟨g,k*3+2,none⟩ (.int .i64 ((q+1:Nat):Int))).heap[g]?=some (.cells (((cur'.setIfInBounds (k*3) (.int .i64 0)).setIfInBounds (k*3+1) (.string ⟨#[]⟩)).setIfInBounds (k*3+2) (.int .i64 ((q+1:Nat):Int))) 72 (0,0))):=
     (Zg _ g (k*3+2) _ _ _ (Zg _ g (k*3+1) _ _ _ (Zg _ g (k*3) _ _ _ HC.out.2.2.1)))
    clear hsz hgor;go_wp2_with fail
    go_roundw
    case rel =>
     refine ⟨k+1,_,by omega,by go_num,?_,ZkA HC.out.2.1 HC.out.1 hlt,HR.out,?_,?_,?_⟩
     ·simp;exact HC.out.1
     ·simp;exact HC.out.2.2.2.1
     ·intro j hj;exact (Below.heap_setCell _ _ _ _ hj).trans ((Below.heap_setCell _ _ _ _ hj).trans ((Below.heap_setCell _ _ _ _ hj).trans (HC.out.2.2.2.2.1 j hj)))
     ·exact HC.out.2.2.2.2.2.trans (((Zp _ _ _).trans (Zp _ _ _)).trans (Zp _ _ _))
    case measure=>simp [intOf];omega
   ·obtain rfl:k=cap:=by omega
    clear hgor;go_wp2_with fail
    refine bodyPost_end (v:=.tuple #[]) (by simp [results,Tryz.results33,go_sem]) rfl ?_;have hS:=HW.out.2.2.2.2.2.2.2.1.trans HC.out.2.2.2.2.2;refine ⟨⟨_,rfl⟩,po6,pc6,(HC.out.2.2.2.2.1 go hne).trans HW.out.2.1,Zj HW.out.2.2.2.1 (fun j hj=>HC.out.2.2.2.2.1 j (HW.out.2.2.2.2.2.2.1 j hj)),.inr ⟨g,k,cur',rfl,HCAP.out,HC.out.2.2.1,HC.out.2.1⟩,⟨hS.1,hS.2.1,hS.2.2,by rw [HC.out.2.2.2.1];exact HW.out.2.2.2.2.1,fun j h1 h2=>(HC.out.2.2.2.2.1 j (fun e=>h2 (.inr (.inl e)))).trans (HW.out.2.2.2.2.2.1 j h1 (fun e=>h2 (.inl e)) (fun e=>h2 (.inr (.inr e))))⟩,HW.out.2.2.2.2.2.2.2.2⟩
theorem ZiT (go:Nat) (v1 v2 v3:Value) (po:Option Addr) (pc q:Nat) (vs:List Value) (w:World) (hgo:w.heap[go]?=some (bOw v1 v2 v3 (.slice po q pc))) (hpv:w.ownsRow 0 34 1 (.slice po q pc) q vs) (hq:q≤1099511627776) :
  Calls Tryz.prog 33 #[.pointer (some ⟨go,0,none⟩),.slice none 0 0] w fun e w'=>(∃ x,e=.returned x)∧∃ po6 pc6,w'.heap[go]?=some (bOw v1 v2 v3 (.slice po6 (q+1) pc6))∧w'.ownsRow 0 34 1 (.slice po6 (q+1) pc6) (q+1) (vs++[.slice none 0 0])∧Chg (fun x=>x=go∨(Value.slice po q pc).ownBlock=some x) w w'∧(∀ j,(Value.slice po6 (q+1) pc6).ownBlock=some j→(Value.slice po q pc).ownBlock=some j∨w.heap.size≤j):=by
 obtain ⟨t0,hi,hz0,hz1,hz2⟩:=info_parts Zgq;have hgolt:go<w.heap.size:=(Array.getElem?_eq_some_iff.1 hgo).1;obtain ⟨a0,a1,a2,a3,az⟩:=blkOw hgo;have hpo:(Value.slice po q pc).ownBlock≠some go:=by
  intro e;obtain ⟨cur',h'⟩:=Zq hpv go e;rw [hgo] at h';simp at h'
 have HH:Hid (w.heap[go]?=some (bOw v1 v2 v3 (.slice po q pc))∧(Value.slice po q pc).ownBlock≠some go):=⟨hgo,hpo⟩;clear hgo hpo;go_enter Tryz.func33,Tryz.ntmps33
 go_wp2_with (at_builtin;refine wpList_append_own_at _ rfl (.tmp 14) (.tmp 16) 45 rfl 0 34 t0 _ 1 24 Tryz.underlying45 hi hz0 hz1 hz2 rfl (by decide) _ _ _ rfl (hpv.alloc _) ⟨w.heap.size,0,none⟩ 1 1 [.slice none 0 0] rfl rfl (Zo _ [.slice none 0 0] 34 (by simp)) (by intro u hu;simp at hu;subst hu;rfl) (by unfold maxLen;omega) (by omega) (Nat.zero_le _) ?next)
 case next =>
  intro v' w6 hown6 hgrow6 _ hat6;obtain ⟨po6,pc6,hv6,_⟩:=Zd hown6;subst hv6;have hlow:∀ j,j<w.heap.size→(Value.slice po q pc).ownBlock≠some j→w6.heap[j]?=w.heap[j]?:=fun j hj hne'=>(hgrow6.block j (by simp;omega) (fun e=>hne' e.symm)).trans (Zh _ _ hj)
  have hgo6:w6.heap[go]?=some (bOw v1 v2 v3 (.slice po q pc)):=(hlow go hgolt HH.out.2).trans HH.out.1;obtain ⟨W7,hW7⟩:∃ W7,W7=w6.setCell ⟨go,3,none⟩ (.slice po6 (q+1) pc6):=⟨_,rfl⟩;have hoth:∀ j,j≠go→W7.heap[j]?=w6.heap[j]?:=fun j hj=>by rw [hW7];exact Below.heap_setCell _ _ _ _ hj
  have hnb:∀ j,(Value.slice po6 (q+1) pc6).ownBlock=some j→(Value.slice po q pc).ownBlock=some j∨w.heap.size≤j:=by
   intro j hj;rcases hat6 with h | h
   ·exact .inl (h.symm.trans hj)
   ·right;rw [hj] at h;simp at h;omega
  have hnb2:∀ j,(Value.slice po6 (q+1) pc6).ownBlock=some j→j≠go:=by
   intro j hj;rcases hnb j hj with h | h
   ·exact fun e=>HH.out.2 (by rw [h,e])
   ·omega
  have hsz7:w.heap.size≤W7.heap.size:=by
   have:=hgrow6.size;rw [hW7];simp at this ⊢;omega
  have hS:SameW w W7:=by rw [hW7];exact SameW.trans ⟨hgrow6.os,hgrow6.tape,hgrow6.output⟩ (Zp _ _ _)
  have HW:Hid (W7=w6.setCell ⟨go,3,none⟩ (.slice po6 (q+1) pc6)∧W7.heap[go]?=some (bOw v1 v2 v3 (.slice po6 (q+1) pc6))∧W7.ownsRow 0 34 1 (.slice po6 (q+1) pc6) (q+1) (vs++[.slice none 0 0])∧Chg (fun x=>x=go∨(Value.slice po q pc).ownBlock=some x) w W7∧(∀ j,(Value.slice po6 (q+1) pc6).ownBlock=some j→(Value.slice po q pc).ownBlock=some j∨w.heap.size≤j)):=
   ⟨hW7,by rw [hW7];exact Zg _ _ _ _ _ _ hgo6,Zj hown6 (fun j hj=>hoth j (hnb2 j hj)),⟨hS.1,hS.2.1,hS.2.2,hsz7,fun k h1 h2=>(hoth k (fun e=>h2 (.inl e))).trans (hlow k h1 (fun e=>h2 (.inr e)))⟩,hnb⟩
  obtain ⟨b0,b1,b2,b3,bz⟩:=blkOw hgo6;clear hown6 hgrow6 hat6 hlow hgo6 hW7 hoth hnb hnb2 hsz7 hS;go_wp2_with fail
  rw [←HW.out.1];clear b0 b1 b2 b3 bz a0 a1 a2 a3 az;go_loopw [5] (fun i wr=>i=.int .i64 0∧wr=W7) (fun _ _=>0)
  case atStart=>exact ⟨rfl,rfl⟩
  case round =>
   obtain ⟨rfl,rfl⟩:=hrel;go_wp2_with fail
   refine bodyPost_end (v:=.tuple #[]) (by simp [results,Tryz.results33,go_sem]) rfl ?_;exact ⟨⟨_,rfl⟩,po6,pc6,HW.out.2.1,HW.out.2.2.1,HW.out.2.2.2.1,HW.out.2.2.2.2⟩
end Lw
end Go.Proofs.YtcpikklofilkcaaGreat
