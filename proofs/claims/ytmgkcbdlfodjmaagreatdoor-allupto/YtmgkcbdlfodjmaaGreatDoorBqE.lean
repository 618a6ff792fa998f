import Derived.Test.YtmgkcbdlfodjmaaGreatDoorBqD
import Derived.Maps.AppendAt
set_option maxRecDepth 100000
set_option maxHeartbeats 16000000
namespace Go.Proofs.YtmgkcbdlfodjmaaGreatDoor
open Go.RowKit
namespace Lw
open Co
theorem Zj1 (bud:Int) (ps:List Pl) (ss:List Srv) (ai:List Wtr) (af:List Stp) (R U:Bool) (A h m q:Nat) (ao:Option Addr) (al:Nat) (so:Option Addr) (sc:Nat) (wo:Option Addr) (wc:Nat) (ad:Option Addr) (ab:Nat) (ap:Option Addr) (am:Nat) (aa:Option Addr) (Y:Nat) (ah:Option Addr) (ag:Nat) (ae:Option Addr) (ac:Nat) (w:World)
  (aw:ps.length=A∧ss.length=h∧ai.length=m∧af.length=q) (av:A≤maxLen∧h≤maxLen∧m≤maxLen∧q≤maxLen)
  (aj:RowAt w (.slice ao A al) A (Ze ps)∧RowAt w (.slice so h sc) h (Zv ss)∧RowAt w (.slice wo m wc) m (ZE ai)∧RowAt w (.slice ad q ab) q (Zo af))
  (ak:RowAt w (.slice ap A am) A (Ze ps)∧RowAt w (.slice aa h Y) h (Zv ss)∧RowAt w (.slice ah m ag) m (ZE ai)∧RowAt w (.slice ae q ac) q (Zo af)) :
  Calls Tryz.prog 13 #[.agg #[.int .i64 bud,.slice ao A al,.slice so h sc,.slice wo m wc,.slice ad q ab,.bool R,.bool U],.agg #[.int .i64 bud,.slice ap A am,.slice aa h Y,.slice ah m ag,.slice ae q ac,.bool R,.bool U]] w fun e w'=>e=.returned (.bool true)∧Below w.heap.size w w':=by
 have HN:=Za aw;have HL:=Za av;obtain ⟨W,E⟩:∃ W,W=(w.alloc (.cells #[.int .i64 bud,.slice ao A al,.slice so h sc,.slice wo m wc,.slice ad q ab,.bool R,.bool U] 44)).alloc (.cells #[.int .i64 bud,.slice ap A am,.slice aa h Y,.slice ah m ag,.slice ae q ac,.bool R,.bool U] 44):=⟨_,rfl⟩;have D:Below w.heap.size w W:=by rw [E];exact Zb (Zc _ _) (Zc _ _)
 have d:Hid (W.heap[w.heap.size]?=some (.cells #[.int .i64 bud,.slice ao A al,.slice so h sc,.slice wo m wc,.slice ad q ab,.bool R,.bool U] 44)∧W.heap[w.heap.size+1]?=some (.cells #[.int .i64 bud,.slice ap A am,.slice aa h Y,.slice ah m ag,.slice ae q ac,.bool R,.bool U] 44)∧W.heap.size=w.heap.size+2∧Below w.heap.size w W):=by
  refine ⟨?_,?_,?_,D⟩
  ·rw [E];exact (Zn _ _ (by simp)).trans (Zd _ _ rfl)
  ·rw [E];exact Zd _ _ (by simp)
  ·rw [E];simp
 have ar:Hid (RowAt W (.slice so h sc) h (Zv ss)∧RowAt W (.slice wo m wc) m (ZE ai)∧RowAt W (.slice ad q ab) q (Zo af)):=⟨aj.2.1.nx D,aj.2.2.1.nx D,aj.2.2.2.nx D⟩;have au:Hid (RowAt W (.slice aa h Y) h (Zv ss)∧RowAt W (.slice ah m ag) m (ZE ai)∧RowAt W (.slice ae q ac) q (Zo af)):=⟨ak.2.1.nx D,ak.2.2.1.nx D,ak.2.2.2.nx D⟩;have HC:=Za (ZtE bud ao ap A al am ps W (aj.1.nx D) (ak.1.nx D) aw.1 av.1);rw [E] at HC;have HW:=Za E;clear aj ak aw av D E;go_enter Tryz.func13,Tryz.ntmps13
 go_wp2_with fail
 refine HC.out.mono ?_;rintro e w1 ⟨rfl,I⟩;rw [←HW.out] at I;have K1:Hid (Below W.heap.size W w1):=I;obtain ⟨J,L,a2,a3,a4,a5,M⟩:=Zeq I (by rw [d.out.2.2.1];omega) d.out.1;obtain ⟨N,O,b2,b3,b4,b5,Q⟩:=Zeq I (by rw [d.out.2.2.1];omega) d.out.2.1;have ax:=Za (ZtQ so aa h sc Y ss w1 (ar.out.1.nx I) (au.out.1.nx I) HN.out.2.1 HL.out.2.1);clear I HC;go_wp2_with fail
 refine ax.out.mono ?_;rintro e a7 ⟨rfl,a0⟩;have V:=Zb K1.out a0;have K2:Hid (Below W.heap.size W a7):=V;clear J L a2 a3 a4 a5 M N O b2 b3 b4 b5 Q;obtain ⟨J,L,a2,a3,a4,a5,M⟩:=Zeq V (by rw [d.out.2.2.1];omega) d.out.1;obtain ⟨N,O,b2,b3,b4,b5,Q⟩:=Zeq V (by rw [d.out.2.2.1];omega) d.out.2.1;have ay:=Za (Ztt wo ah m wc ag ai a7 (ar.out.2.1.nx V) (au.out.2.1.nx V) HN.out.2.2.1 HL.out.2.2.1);clear a0 V ax;go_wp2_with fail
 refine ay.out.mono ?_;rintro e a8 ⟨rfl,a1⟩;have X:=Zb K2.out a1;have K3:Hid (Below W.heap.size W a8):=X;clear J L a2 a3 a4 a5 M N O b2 b3 b4 b5 Q;obtain ⟨J,L,a2,a3,a4,a5,M⟩:=Zeq X (by rw [d.out.2.2.1];omega) d.out.1;obtain ⟨N,O,b2,b3,b4,b5,Q⟩:=Zeq X (by rw [d.out.2.2.1];omega) d.out.2.1;have az:=Za (Zq4 ad ae q ab ac af a8 (ar.out.2.2.nx X) (au.out.2.2.nx X) HN.out.2.2.2 HL.out.2.2.2);clear a1 X ay;go_wp2_with fail
 refine az.out.mono ?_;rintro e a9 ⟨rfl,a6⟩;have aq:=Zb K3.out a6;have K4:Hid (Below w.heap.size w a9):=Zb d.out.2.2.2 aq;clear J L a2 a3 a4 a5 M N O b2 b3 b4 b5 Q;obtain ⟨J,L,a2,a3,a4,a5,M⟩:=Zeq aq (by rw [d.out.2.2.1];omega) d.out.1;obtain ⟨N,O,b2,b3,b4,b5,Q⟩:=Zeq aq (by rw [d.out.2.2.1];omega) d.out.2.1;clear a6 aq az;go_wp2_with fail
 go_ret
 exact ⟨by simp,K4.out⟩
theorem ZfU (S:Zh) (v u:ZA) (w:World) (d:StaAt w S v) (h:StaAt w S u) (m:Zjy S) :
  Calls Tryz.prog 13 #[Zg0 S v,Zg0 S u] w fun e q=>e=.returned (.bool true)∧Below w.heap.size w q:=
 Zj1 S.bud S.pools S.srv S.wts S.plan S.begun S.back _ _ _ _ v.po v.pc v.so v.sc v.wo v.wc v.tqo v.tc u.po u.pc u.so u.sc u.wo u.wc u.tqo u.tc w ⟨rfl,rfl,rfl,rfl⟩ ⟨m.p,m.s,m.t,m.l⟩ ⟨d.p,d.s,d.t,d.l⟩ ⟨h.p,h.s,h.t,h.l⟩
def Zay:Option Nat→Int
 | none=>-1
 | some i=>(i:Int)
theorem Zdv {α:Type} {p:α→Bool} {l:List α} {k:Nat} {x:α} (h:∀ y∈l.take k,p y=false) (q:l[k]?=some x) (m:p x=true):l.findIdx? p=some k:=by
 obtain ⟨d,e⟩:=Yc.1 q;rw [List.findIdx?_eq_some_iff_getElem];refine ⟨d,by rw [e];exact m,fun j A=>?_⟩;have:l[j]'(by omega)∈l.take k:=by
  rw [List.mem_take_iff_getElem];exact ⟨j,by omega,rfl⟩
 rw [h _ this];simp
theorem ZcY {α:Type} {p:α→Bool} {l:List α} (d:∀ y∈l,p y=false):l.findIdx? p=none:=by
 rw [List.findIdx?_eq_none_iff];exact d
theorem Zbo {α:Type} {p:α→Bool} {l:List α} {k:Nat} {x:α} (q:∀ y∈l.take k,p y=false) (D:l[k]?=some x) (A:p x=false):∀ y∈l.take (k+1),p y=false:=by
 obtain ⟨m,e⟩:=Yc.1 D;intro y h;rw [Yk m,e] at h;rcases List.mem_append.1 h with d | d
 ·exact q y d
 ·simp at d;subst d;exact A
def Zs {α:Type} (p:α→Bool) (l:List α):Nat:=(l.filter p).length
theorem Zg7 {α:Type} {p:α→Bool} {l:List α} {k:Nat} {x:α} (m:l[k]?=some x):Zs p (l.take (k+1))=Zs p (l.take k)+if p x=true then 1 else 0:=by
 obtain ⟨d,e⟩:=Yc.1 m;unfold Zs;rw [Yk d,Yr,e,List.length_append];cases h:p x <;> simp [h]
def Zj (pool:ByteArray) (x:Srv):Bool:=x.pool.toList == pool.toList
def Zq (pool:ByteArray) (x:Wtr):Bool:=x.pool.toList == pool.toList
def Zl (name:ByteArray) (x:Pl):Bool:=x.nm.toList == name.toList
def Zp (c:Int) (x:Srv):Bool:=x.client == c
def Z3 (c:Int) (x:Wtr):Bool:=x.client == c
def ZU (pool:ByteArray) (all:Bool) (x:Srv):Bool:=(x.client == 0)&&(all||x.pool.toList == pool.toList)
abbrev bOw (v1 v2 v3 v4:Value):Obj:=.cells #[v1,v2,v3,v4] 30
def mP (q:Int):List Value:=[.string ⟨#[]⟩,.int .i64 0,.int .i64 0,.int .i64 q]
def mV (q:Int):List Value:=[.int .i64 0,.string ⟨#[]⟩,.int .i64 q,.int .i64 0]
def mW (q:Int):List Value:=[.int .i64 q,.string ⟨#[]⟩]
def mT (q:Int):List Value:=[.int .i64 0,.string ⟨#[]⟩,.int .i64 q]
def ZbB (sz:Nat) (m:List Value) (cur:Array Value) (k:Nat):Prop:=∀ j,j<k→∀ (i:Nat) (x:Value),m[i]?=some x→cur[j*sz+i]?=some x
def FullG (ty:TypeId) (sz:Nat) (m:List Value) (w:World) (v:Value):Prop:=
 v=.slice none 0 0∨∃ g cap cur,v=.slice (some ⟨g,0,none⟩) cap cap∧cap≤maxLen∧w.heap[g]?=some (.cells cur ty (0,0))∧ZbB sz m cur cap
theorem FullG.keep {q:TypeId} {sz:Nat} {m:List Value} {w A:World} {v:Value} (d:FullG q sz m w v) (M:∀ g,v.ownBlock=some g→A.heap[g]?=w.heap[g]?):FullG q sz m A v:=by
 rcases d with d | ⟨g,D,E,h,I,J,L⟩
 ·exact .inl d
 ·exact .inr ⟨g,D,E,h,I,(M g (by rw [h];rfl)).trans J,L⟩
theorem Zef (sz:Nat) (h:List Value) (d:Array Value):ZbB sz h d 0:=fun j m=>by omega
theorem Zo6 {Q:Array Value} {k E:Nat} {m q A D:Value} (h:ZbB 4 [m,q,A,D] Q k) (L:Q.size=E*4) (N:k<E) :
  ZbB 4 [m,q,A,D] ((((Q.setIfInBounds (k*4) m).setIfInBounds (k*4+1) q).setIfInBounds (k*4+2) A).setIfInBounds (k*4+3) D) (k+1):=by
 intro j M i x d;have I:i<4:=(Yc.1 d).1;have O:k*4+3<Q.size:=by omega
 by_cases J:j<k
 ·rw [Array.getElem?_setIfInBounds_ne (by omega),Array.getElem?_setIfInBounds_ne (by omega),Array.getElem?_setIfInBounds_ne (by omega),Array.getElem?_setIfInBounds_ne (by omega)];exact h j J i x d
 ·obtain rfl:j=k:=by omega
  match i,I,d with
  | 0,_,d=>simp at d;subst d;simp only [Nat.add_zero];rw [Array.getElem?_setIfInBounds_ne (by omega),Array.getElem?_setIfInBounds_ne (by omega),Array.getElem?_setIfInBounds_ne (by omega),Array.getElem?_setIfInBounds_self_of_lt (by omega)]
  | 1,_,d=>simp at d;subst d;rw [Array.getElem?_setIfInBounds_ne (by omega),Array.getElem?_setIfInBounds_ne (by omega),Array.getElem?_setIfInBounds_self_of_lt (by simp;omega)]
  | 2,_,d=>simp at d;subst d;rw [Array.getElem?_setIfInBounds_ne (by omega),Array.getElem?_setIfInBounds_self_of_lt (by simp;omega)]
  | 3,_,d=>simp at d;subst d;rw [Array.getElem?_setIfInBounds_self_of_lt (by simp;omega)]
theorem ZsN {O:Array Value} {k D:Nat} {m q A:Value} (h:ZbB 3 [m,q,A] O k) (J:O.size=D*3) (M:k<D) :
  ZbB 3 [m,q,A] (((O.setIfInBounds (k*3) m).setIfInBounds (k*3+1) q).setIfInBounds (k*3+2) A) (k+1):=by
 intro j L i x d;have E:i<3:=(Yc.1 d).1;have N:k*3+2<O.size:=by omega
 by_cases I:j<k
 ·rw [Array.getElem?_setIfInBounds_ne (by omega),Array.getElem?_setIfInBounds_ne (by omega),Array.getElem?_setIfInBounds_ne (by omega)];exact h j I i x d
 ·obtain rfl:j=k:=by omega
  match i,E,d with
  | 0,_,d=>simp at d;subst d;simp only [Nat.add_zero];rw [Array.getElem?_setIfInBounds_ne (by omega),Array.getElem?_setIfInBounds_ne (by omega),Array.getElem?_setIfInBounds_self_of_lt (by omega)]
  | 1,_,d=>simp at d;subst d;rw [Array.getElem?_setIfInBounds_ne (by omega),Array.getElem?_setIfInBounds_self_of_lt (by simp;omega)]
  | 2,_,d=>simp at d;subst d;rw [Array.getElem?_setIfInBounds_self_of_lt (by simp;omega)]
theorem Zow {N:Array Value} {k A:Nat} {m q:Value} (h:ZbB 2 [m,q] N k) (I:N.size=A*2) (L:k<A) :
  ZbB 2 [m,q] ((N.setIfInBounds (k*2) m).setIfInBounds (k*2+1) q) (k+1):=by
 intro j J i x d;have D:i<2:=(Yc.1 d).1;have M:k*2+1<N.size:=by omega
 by_cases E:j<k
 ·rw [Array.getElem?_setIfInBounds_ne (by omega),Array.getElem?_setIfInBounds_ne (by omega)];exact h j E i x d
 ·obtain rfl:j=k:=by omega
  match i,D,d with
  | 0,_,d=>simp at d;subst d;simp only [Nat.add_zero];rw [Array.getElem?_setIfInBounds_ne (by omega),Array.getElem?_setIfInBounds_self_of_lt (by omega)]
  | 1,_,d=>simp at d;subst d;rw [Array.getElem?_setIfInBounds_self_of_lt (by simp;omega)]
theorem Zbk {w:World} {g:Nat} {d A m q:Value} (h:w.heap[g]?=some (bOw d A m q)):w.cell? ⟨g,0,none⟩=some d∧w.cell? ⟨g,1,none⟩=some A∧w.cell? ⟨g,2,none⟩=some m∧w.cell? ⟨g,3,none⟩=some q∧∀ a,w.frozen? ⟨g,a,none⟩=false:=by
 refine ⟨?_,?_,?_,?_,fun a=>?_⟩ <;> simp [World.cell?,World.frozen?,h]
theorem ZdC {w:World} {g:Nat} {d:Array Value} {t:TypeId} (h:w.heap[g]?=some (.cells d t (0,0))) (a:Nat) (m:a<d.size):(∃ v,w.cell? ⟨g,a,none⟩=some v)∧w.frozen? ⟨g,a,none⟩=false:=by
 refine ⟨⟨d[a],?_⟩,?_⟩
 ·simp [World.cell?,h,m]
 ·simp [World.frozen?,h]
theorem Zz {w m:World} {B:Nat} {e:TypeId} {size:Nat} {v:Value} {n:Nat} {q:List Value} (d:w.ownsRow B e size v n q) (L:∀ j,v.ownBlock=some j→m.heap[j]?=w.heap[j]?):m.ownsRow B e size v n q:=by
 obtain ⟨M,d⟩:=d;refine ⟨M,?_⟩;rcases d with d | ⟨g,A,D,h,E,J,I⟩
 ·exact .inl d
 ·exact .inr ⟨g,A,D,h,E,(L g (by rw [h];rfl)).trans J,I⟩
def SameW (w w':World):Prop:=w'.os=w.os∧w'.tape=w.tape∧w'.output=w.output
theorem SameW.trans {a b c:World} (d:SameW a b) (k:SameW b c):SameW a c:=⟨k.1.trans d.1,k.2.1.trans d.2.1,k.2.2.trans d.2.2⟩
theorem Zat (w:World) (a:Addr) (v:Value):SameW w (w.setCell a v):=by
 have d:=(Yh 0 w).setCell (Ye a.block) v;exact ⟨d.os,d.tape,d.output⟩
theorem Znc:(Tryz.prog.info? 37).map (fun i=>(i.zero,i.size,i.bytes))=some (some (.slice none 0 0),1,24):=by kernel_rfl
theorem Zrd:(Tryz.prog.info? 40).map (fun i=>(i.zero,i.size,i.bytes))=some (some (.slice none 0 0),1,24):=by kernel_rfl
theorem ZmQ:(Tryz.prog.info? 41).map (fun i=>(i.zero,i.size,i.bytes))=some (some (.slice none 0 0),1,24):=by kernel_rfl
theorem Znh:(Tryz.prog.info? 42).map (fun i=>(i.zero,i.size,i.bytes))=some (some (.slice none 0 0),1,24):=by kernel_rfl
theorem ZoQ (m g:Nat) (b:Int) (X Y aa:Value) (I:Option Addr) (D d:Nat) (aq:List Value) (n ca:Nat) (R:Array Value) (w:World) (O:w.heap[m]?=some (bOw (.slice I d D) X Y aa)) (ao:w.ownsRow 0 37 1 (.slice I d D) d aq) (bs:d≤1099511627776)
  (ad:w.heap[g]?=some (.cells R 82 (0,0))) (ax:R.size=ca*4) (ay:ca≤maxLen) (br:n≤ca) :
  Calls Tryz.prog 26 #[.pointer (some ⟨m,0,none⟩),.agg #[.int .i64 b,.slice (some ⟨g,0,none⟩) n ca]] w fun e w'=>(∃ x,e=.returned x)∧∃ J E,w'.heap[m]?=some (bOw (.slice J (d+1) E) X Y aa)∧w'.ownsRow 0 37 1 (.slice J (d+1) E) (d+1) (aq++[.slice (some ⟨g,0,none⟩) ca ca])∧FullG 82 4 (mP ((d+1:Nat):Int)) w' (.slice (some ⟨g,0,none⟩) ca ca)∧Chg (fun x=>x=m∨x=g∨(Value.slice I d D).ownBlock=some x) w w'∧(∀ j,(Value.slice J (d+1) E).ownBlock=some j→(Value.slice I d D).ownBlock=some j∨w.heap.size≤j):=by
 obtain ⟨bo,bd,bi,bj,bk⟩:=info_parts Znc;have a8:=Za ay;unfold maxLen at ay;have bc:g<w.heap.size:=(Ya.1 ad).1;have cc:m<w.heap.size:=(Ya.1 O).1;have al:m≠g:=by
  intro e;rw [e,ad] at O;simp at O
 obtain ⟨a0,a1,a2,a3,az⟩:=Zbk O;have ap:=fun o=>(Zbk (w:=w.alloc o) ((Zt _ _ cc).trans O))
 have bl:=fun o=>(ap o).1
 have bm:=fun o=>(ap o).2.2.2.2
 clear ap;have cd:(Value.slice I d D).ownBlock≠some g:=by
  intro e;obtain ⟨N,h'⟩:=Z5 ao g e;rw [ad] at h';simp at h'
 have a6:(Value.slice I d D).ownBlock≠some m:=by
  intro e;obtain ⟨N,h'⟩:=Z5 ao m e;rw [O] at h';simp at h'
 have Q:Hid (w.heap[m]?=some (bOw (.slice I d D) X Y aa)∧w.heap[g]?=some (.cells R 82 (0,0))∧R.size=ca*4∧(Value.slice I d D).ownBlock≠some g∧(Value.slice I d D).ownBlock≠some m):=⟨O,ad,ax,cd,a6⟩;clear O ad ax cd a6;go_enter Tryz.func26,Tryz.ntmps26
 go_wp2_with (at_builtin;refine wpList_append_own_at _ rfl (.tmp 16) (.tmp 18) 25 rfl 0 37 bo _ 1 24 Tryz.underlying25 bd bi bj bk rfl (by decide) _ _ _ rfl ((ao.alloc _).alloc _) ⟨w.heap.size+1,0,none⟩ 1 1 [.slice (some ⟨g,0,none⟩) ca ca] rfl rfl (ZY _ [.slice (some ⟨g,0,none⟩) ca ca] 37 (by simp)) (by intro u a7;simp at a7;subst a7;rfl) (by unfold maxLen;omega) (by omega) (Ye _) ?next)
 case next =>
  intro v' ab am V _ aw;obtain ⟨J,E,bh,_⟩:=Zf am;subst bh;have ae:∀ j,j<w.heap.size→(Value.slice I d D).ownBlock≠some j→ab.heap[j]?=w.heap[j]?:=fun j A bf=>(V.block j (by simp;omega) (fun e=>bf e.symm)).trans ((Zt _ _ (by simp;omega)).trans (Zt _ _ A))
  have ah:ab.heap[m]?=some (bOw (.slice I d D) X Y aa):=(ae m cc Q.out.2.2.2.2).trans Q.out.1;have cb:ab.heap[g]?=some (.cells R 82 (0,0)):=(ae g bc Q.out.2.2.2.1).trans Q.out.2.1;obtain ⟨L,U⟩:∃ L,L=ab.setCell ⟨m,0,none⟩ (.slice J (d+1) E):=⟨_,rfl⟩;have af:∀ j,j≠m→L.heap[j]?=ab.heap[j]?:=fun j A=>by rw [U];exact Yf _ _ _ _ A
  have aj:∀ j,(Value.slice J (d+1) E).ownBlock=some j→(Value.slice I d D).ownBlock=some j∨w.heap.size≤j:=by
   intro j A;rcases aw with h | h
   ·exact .inl (h.symm.trans A)
   ·right;rw [A] at h;simp at h;omega
  have ak:∀ j,(Value.slice J (d+1) E).ownBlock=some j→j≠g∧j≠m:=by
   intro j A;rcases aj j A with h | h
   ·exact ⟨fun e=>Q.out.2.2.2.1 (by rw [h,e]),fun e=>Q.out.2.2.2.2 (by rw [h,e])⟩
   ·exact ⟨by omega,by omega⟩
  have M:Hid (L=ab.setCell ⟨m,0,none⟩ (.slice J (d+1) E)∧L.heap[m]?=some (bOw (.slice J (d+1) E) X Y aa)∧L.heap[g]?=some (.cells R 82 (0,0))∧L.ownsRow 0 37 1 (.slice J (d+1) E) (d+1) (aq++[.slice (some ⟨g,0,none⟩) ca ca])∧w.heap.size≤L.heap.size∧(∀ k,k<w.heap.size→k≠m→(Value.slice I d D).ownBlock≠some k→L.heap[k]?=w.heap[k]?)∧(∀ j,(Value.slice J (d+1) E).ownBlock=some j→j≠g)∧SameW w L∧(∀ j,(Value.slice J (d+1) E).ownBlock=some j→(Value.slice I d D).ownBlock=some j∨w.heap.size≤j)):=by
   refine ⟨U,by rw [U];exact Zm _ _ _ _ _ _ ah,(af g (fun e=>al e.symm)).trans cb,Zz am (fun j A=>af j (ak j A).2),?_,fun k ag ac a9=>(af k ac).trans (ae k ag a9),fun j A=>(ak j A).1,by rw [U];exact SameW.trans ⟨V.os,V.tape,V.output⟩ (Zat _ _ _),aj⟩;have:=V.size;rw [U];simp at this ⊢;omega
  obtain ⟨ar,au,b2,b3,av⟩:=Zbk ah;clear am V aw ae ah cb U af aj ak;go_wp2_with fail
  rw [←M.out.1];clear ar au b2 b3 av a0 a1 a2 a3 az bl bm;go_loopw [5] (fun i wr=>∃ (k:Nat) (N:Array Value),k≤ca∧i=.int .i64 k∧Hid (N.size=ca*4∧ZbB 4 (mP ((d+1:Nat):Int)) N k∧wr.heap[g]?=some (.cells N 82 (0,0))∧wr.heap.size=L.heap.size∧(∀ j,j≠g→wr.heap[j]?=L.heap[j]?)∧SameW L wr)) (fun i _=>ca - (intOf i).toNat)
  case atStart=>exact ⟨0,R,Ye _,rfl,Q.out.2.2.1,Zef _ _ _,M.out.2.2.1,rfl,fun _ _=>rfl,rfl,rfl,rfl⟩
  case round =>
   obtain ⟨k,N,bp,rfl,q⟩:=hrel;have ai:wr.heap[m]?=some (bOw (.slice J (d+1) E) X Y aa):=(q.out.2.2.2.2.1 m al).trans M.out.2.1;obtain ⟨ar,au,b2,b3,av⟩:=Zbk ai;by_cases be:k<ca
   ·have bg:=q.out.1;obtain ⟨⟨bx,bt⟩,b6⟩:=ZdC q.out.2.2.1 (k*4) (by omega);obtain ⟨⟨bz,bu⟩,b7⟩:=ZdC q.out.2.2.1 (k*4+1) (by omega);obtain ⟨⟨b0,bv⟩,b8⟩:=ZdC q.out.2.2.1 (k*4+2) (by omega);obtain ⟨⟨b1,bw⟩,b9⟩:=ZdC q.out.2.2.1 (k*4+3) (by omega);have bq:(k:Int)<(ca:Int):=by omega
    have HR:Hid (((((wr.setCell ⟨g,k*4,none⟩ (.string ⟨#[]⟩)).setCell ⟨g,k*4+1,none⟩ (.int .i64 0)).setCell ⟨g,k*4+2,none⟩ (.int .i64 0)).setCell ⟨g,k*4+3,none⟩ (.int .i64 ((d+1:Nat):Int))).heap[g]?=some (.cells ((((N.setIfInBounds (k*4) (.string ⟨#[]⟩)).setIfInBounds (k*4+1) (.int .i64 0)).setIfInBounds (k*4+2) (.int .i64 0)).setIfInBounds (k*4+3) (.int .i64 ((d+1:Nat):Int))) 82 (0,0))):=
     (Zm _ g (k*4+3) _ _ _ (Zm _ g (k*4+2) _ _ _ (Zm _ g (k*4+1) _ _ _ (Zm _ g (k*4) _ _ _ q.out.2.2.1))))
    clear bg ai;go_wp2_with fail
    go_roundw
    case rel =>
     refine ⟨k+1,_,by omega,by go_num,?_,Zo6 q.out.2.1 q.out.1 be,HR.out,?_,?_,?_⟩
     ·simp;exact q.out.1
     ·simp;exact q.out.2.2.2.1
     ·intro j A;exact (Yf _ _ _ _ A).trans ((Yf _ _ _ _ A).trans ((Yf _ _ _ _ A).trans ((Yf _ _ _ _ A).trans (q.out.2.2.2.2.1 j A))))
     ·exact q.out.2.2.2.2.2.trans ((((Zat _ _ _).trans (Zat _ _ _)).trans (Zat _ _ _)).trans (Zat _ _ _))
    case measure=>simp [intOf];omega
   ·obtain rfl:k=ca:=by omega
    clear ai;go_wp2_with fail
    refine bodyPost_end (v:=.tuple #[]) (by simp [results,Tryz.results26,go_sem]) rfl ?_;have hS:=M.out.2.2.2.2.2.2.2.1.trans q.out.2.2.2.2.2;refine ⟨⟨_,rfl⟩,J,E,(q.out.2.2.2.2.1 m al).trans M.out.2.1,Zz M.out.2.2.2.1 (fun j A=>q.out.2.2.2.2.1 j (M.out.2.2.2.2.2.2.1 j A)),.inr ⟨g,k,N,rfl,a8.out,q.out.2.2.1,q.out.2.1⟩,⟨hS.1,hS.2.1,hS.2.2,by rw [q.out.2.2.2.1];exact M.out.2.2.2.2.1,fun j ag ac=>(q.out.2.2.2.2.1 j (fun e=>ac (.inr (.inl e)))).trans (M.out.2.2.2.2.2.1 j ag (fun e=>ac (.inl e)) (fun e=>ac (.inr (.inr e))))⟩,M.out.2.2.2.2.2.2.2.2⟩
theorem ZqN (bf:Nat) (b:Int) (O Q R:Value) (A:Option Addr) (m d:Nat) (af:List Value) (w:World) (L:w.heap[bf]?=some (bOw (.slice A d m) O Q R)) (al:w.ownsRow 0 37 1 (.slice A d m) d af) (be:d≤1099511627776) :
  Calls Tryz.prog 26 #[.pointer (some ⟨bf,0,none⟩),.agg #[.int .i64 b,.slice none 0 0]] w fun e w'=>(∃ x,e=.returned x)∧∃ D q,w'.heap[bf]?=some (bOw (.slice D (d+1) q) O Q R)∧w'.ownsRow 0 37 1 (.slice D (d+1) q) (d+1) (af++[.slice none 0 0])∧Chg (fun x=>x=bf∨(Value.slice A d m).ownBlock=some x) w w'∧(∀ j,(Value.slice D (d+1) q).ownBlock=some j→(Value.slice A d m).ownBlock=some j∨w.heap.size≤j):=by
 obtain ⟨bc,ay,a1,a6,a7⟩:=info_parts Znc;have ai:bf<w.heap.size:=(Ya.1 L).1;obtain ⟨ap,aq,a2,a3,ar⟩:=Zbk L;have ae:=fun o=>(Zbk (w:=w.alloc o) ((Zt _ _ ai).trans L))
 have a8:=fun o=>(ae o).1
 have a9:=fun o=>(ae o).2.2.2.2
 clear ae;have ak:(Value.slice A d m).ownBlock≠some bf:=by
  intro e;obtain ⟨bd,h'⟩:=Z5 al bf e;rw [L] at h';simp at h'
 have X:Hid (w.heap[bf]?=some (bOw (.slice A d m) O Q R)∧(Value.slice A d m).ownBlock≠some bf):=⟨L,ak⟩;clear L ak;go_enter Tryz.func26,Tryz.ntmps26
 go_wp2_with (at_builtin;refine wpList_append_own_at _ rfl (.tmp 16) (.tmp 18) 25 rfl 0 37 bc _ 1 24 Tryz.underlying25 ay a1 a6 a7 rfl (by decide) _ _ _ rfl ((al.alloc _).alloc _) ⟨w.heap.size+1,0,none⟩ 1 1 [.slice none 0 0] rfl rfl (ZY _ [.slice none 0 0] 37 (by simp)) (by intro u ao;simp at ao;subst ao;rfl) (by unfold maxLen;omega) (by omega) (Ye _) ?next)
 case next =>
  intro v' U ad M _ ah;obtain ⟨D,q,a0,_⟩:=Zf ad;subst a0;have aa:∀ j,j<w.heap.size→(Value.slice A d m).ownBlock≠some j→U.heap[j]?=w.heap[j]?:=fun j I az=>(M.block j (by simp;omega) (fun e=>az e.symm)).trans ((Zt _ _ (by simp;omega)).trans (Zt _ _ I))
  have Y:U.heap[bf]?=some (bOw (.slice A d m) O Q R):=(aa bf ai X.out.2).trans X.out.1;obtain ⟨E,J⟩:∃ E,E=U.setCell ⟨bf,0,none⟩ (.slice D (d+1) q):=⟨_,rfl⟩;have ac:∀ j,j≠bf→E.heap[j]?=U.heap[j]?:=fun j I=>by rw [J];exact Yf _ _ _ _ I
  have ab:∀ j,(Value.slice D (d+1) q).ownBlock=some j→(Value.slice A d m).ownBlock=some j∨w.heap.size≤j:=by
   intro j I;rcases ah with h | h
   ·exact .inl (h.symm.trans I)
   ·right;rw [I] at h;simp at h;omega
  have aj:∀ j,(Value.slice D (d+1) q).ownBlock=some j→j≠bf:=by
   intro j I;rcases ab j I with h | h
   ·exact fun e=>X.out.2 (by rw [h,e])
   ·omega
  have am:w.heap.size≤E.heap.size:=by
   have:=M.size;rw [J];simp at this ⊢;omega
  have V:SameW w E:=by rw [J];exact SameW.trans ⟨M.os,M.tape,M.output⟩ (Zat _ _ _)
  have N:Hid (E=U.setCell ⟨bf,0,none⟩ (.slice D (d+1) q)∧E.heap[bf]?=some (bOw (.slice D (d+1) q) O Q R)∧E.ownsRow 0 37 1 (.slice D (d+1) q) (d+1) (af++[.slice none 0 0])∧Chg (fun x=>x=bf∨(Value.slice A d m).ownBlock=some x) w E∧(∀ j,(Value.slice D (d+1) q).ownBlock=some j→(Value.slice A d m).ownBlock=some j∨w.heap.size≤j)):=
   ⟨J,by rw [J];exact Zm _ _ _ _ _ _ Y,Zz ad (fun j I=>ac j (aj j I)),⟨V.1,V.2.1,V.2.2,am,fun k ax ag=>(ac k (fun e=>ag (.inl e))).trans (aa k ax (fun e=>ag (.inr e)))⟩,ab⟩
  obtain ⟨au,av,b2,b3,aw⟩:=Zbk Y;clear ad M ah aa Y J ac ab aj am V;go_wp2_with fail
  rw [←N.out.1];clear au av b2 b3 aw ap aq a2 a3 ar a8 a9;go_loopw [5] (fun i wr=>i=.int .i64 0∧wr=E) (fun _ _=>0)
  case atStart=>exact ⟨rfl,rfl⟩
  case round =>
   obtain ⟨rfl,rfl⟩:=hrel;go_wp2_with fail
   refine bodyPost_end (v:=.tuple #[]) (by simp [results,Tryz.results26,go_sem]) rfl ?_;exact ⟨⟨_,rfl⟩,D,q,N.out.2.1,N.out.2.2.1,N.out.2.2.2.1,N.out.2.2.2.2⟩
theorem Zo2 (m g:Nat) (X Y aa:Value) (I:Option Addr) (D d:Nat) (ap:List Value) (n b0:Nat) (Q:Array Value) (w:World) (R:w.heap[m]?=some (bOw X Y aa (.slice I d D))) (ao:w.ownsRow 0 42 1 (.slice I d D) d ap) (bp:d≤1099511627776)
  (ad:w.heap[g]?=some (.cells Q 84 (0,0))) (aw:Q.size=b0*3) (ax:b0≤maxLen) (bo:n≤b0) :
  Calls Tryz.prog 27 #[.pointer (some ⟨m,0,none⟩),.slice (some ⟨g,0,none⟩) n b0] w fun e w'=>(∃ x,e=.returned x)∧∃ J E,w'.heap[m]?=some (bOw X Y aa (.slice J (d+1) E))∧w'.ownsRow 0 42 1 (.slice J (d+1) E) (d+1) (ap++[.slice (some ⟨g,0,none⟩) b0 b0])∧FullG 84 3 (mT ((d+1:Nat):Int)) w' (.slice (some ⟨g,0,none⟩) b0 b0)∧Chg (fun x=>x=m∨x=g∨(Value.slice I d D).ownBlock=some x) w w'∧(∀ j,(Value.slice J (d+1) E).ownBlock=some j→(Value.slice I d D).ownBlock=some j∨w.heap.size≤j):=by
 obtain ⟨bk,bc,bh,bi,bj⟩:=info_parts Znh;have a6:=Za ax;unfold maxLen at ax;have a8:g<w.heap.size:=(Ya.1 ad).1;have a9:m<w.heap.size:=(Ya.1 R).1;have al:m≠g:=by
  intro e;rw [e,ad] at R;simp at R
 obtain ⟨a0,a1,a2,a3,az⟩:=Zbk R;have b1:(Value.slice I d D).ownBlock≠some g:=by
  intro e;obtain ⟨N,h'⟩:=Z5 ao g e;rw [ad] at h';simp at h'
 have b6:(Value.slice I d D).ownBlock≠some m:=by
  intro e;obtain ⟨N,h'⟩:=Z5 ao m e;rw [R] at h';simp at h'
 have O:Hid (w.heap[m]?=some (bOw X Y aa (.slice I d D))∧w.heap[g]?=some (.cells Q 84 (0,0))∧Q.size=b0*3∧(Value.slice I d D).ownBlock≠some g∧(Value.slice I d D).ownBlock≠some m):=⟨R,ad,aw,b1,b6⟩;clear R ad aw b1 b6;go_enter Tryz.func27,Tryz.ntmps27
 go_wp2_with (at_builtin;refine wpList_append_own_at _ rfl (.tmp 14) (.tmp 16) 28 rfl 0 42 bk _ 1 24 Tryz.underlying28 bc bh bi bj rfl (by decide) _ _ _ rfl (ao.alloc _) ⟨w.heap.size,0,none⟩ 1 1 [.slice (some ⟨g,0,none⟩) b0 b0] rfl rfl (ZY _ [.slice (some ⟨g,0,none⟩) b0 b0] 42 (by simp)) (by intro u b7;simp at b7;subst b7;rfl) (by unfold maxLen;omega) (by omega) (Ye _) ?next)
 case next =>
  intro v' ab am V _ av;obtain ⟨J,E,bg,_⟩:=Zf am;subst bg;have ae:∀ j,j<w.heap.size→(Value.slice I d D).ownBlock≠some j→ab.heap[j]?=w.heap[j]?:=fun j A be=>(V.block j (by simp;omega) (fun e=>be e.symm)).trans (Zt _ _ A)
  have ah:ab.heap[m]?=some (bOw X Y aa (.slice I d D)):=(ae m a9 O.out.2.2.2.2).trans O.out.1;have ay:ab.heap[g]?=some (.cells Q 84 (0,0)):=(ae g a8 O.out.2.2.2.1).trans O.out.2.1;obtain ⟨L,U⟩:∃ L,L=ab.setCell ⟨m,3,none⟩ (.slice J (d+1) E):=⟨_,rfl⟩;have af:∀ j,j≠m→L.heap[j]?=ab.heap[j]?:=fun j A=>by rw [U];exact Yf _ _ _ _ A
  have aj:∀ j,(Value.slice J (d+1) E).ownBlock=some j→(Value.slice I d D).ownBlock=some j∨w.heap.size≤j:=by
   intro j A;rcases av with h | h
   ·exact .inl (h.symm.trans A)
   ·right;rw [A] at h;simp at h;omega
  have ak:∀ j,(Value.slice J (d+1) E).ownBlock=some j→j≠g∧j≠m:=by
   intro j A;rcases aj j A with h | h
   ·exact ⟨fun e=>O.out.2.2.2.1 (by rw [h,e]),fun e=>O.out.2.2.2.2 (by rw [h,e])⟩
   ·exact ⟨by omega,by omega⟩
  have M:Hid (L=ab.setCell ⟨m,3,none⟩ (.slice J (d+1) E)∧L.heap[m]?=some (bOw X Y aa (.slice J (d+1) E))∧L.heap[g]?=some (.cells Q 84 (0,0))∧L.ownsRow 0 42 1 (.slice J (d+1) E) (d+1) (ap++[.slice (some ⟨g,0,none⟩) b0 b0])∧w.heap.size≤L.heap.size∧(∀ k,k<w.heap.size→k≠m→(Value.slice I d D).ownBlock≠some k→L.heap[k]?=w.heap[k]?)∧(∀ j,(Value.slice J (d+1) E).ownBlock=some j→j≠g)∧SameW w L∧(∀ j,(Value.slice J (d+1) E).ownBlock=some j→(Value.slice I d D).ownBlock=some j∨w.heap.size≤j)):=by
   refine ⟨U,by rw [U];exact Zm _ _ _ _ _ _ ah,(af g (fun e=>al e.symm)).trans ay,Zz am (fun j A=>af j (ak j A).2),?_,fun k ag ac a7=>(af k ac).trans (ae k ag a7),fun j A=>(ak j A).1,by rw [U];exact SameW.trans ⟨V.os,V.tape,V.output⟩ (Zat _ _ _),aj⟩;have:=V.size;rw [U];simp at this ⊢;omega
  obtain ⟨aq,ar,b2,b3,au⟩:=Zbk ah;clear am V av ae ah ay U af aj ak;go_wp2_with fail
  rw [←M.out.1];clear aq ar b2 b3 au a0 a1 a2 a3 az;go_loopw [5] (fun i wr=>∃ (k:Nat) (N:Array Value),k≤b0∧i=.int .i64 k∧Hid (N.size=b0*3∧ZbB 3 (mT ((d+1:Nat):Int)) N k∧wr.heap[g]?=some (.cells N 84 (0,0))∧wr.heap.size=L.heap.size∧(∀ j,j≠g→wr.heap[j]?=L.heap[j]?)∧SameW L wr)) (fun i _=>b0 - (intOf i).toNat)
  case atStart=>exact ⟨0,Q,Ye _,rfl,O.out.2.2.1,Zef _ _ _,M.out.2.2.1,rfl,fun _ _=>rfl,rfl,rfl,rfl⟩
  case round =>
   obtain ⟨k,N,bl,rfl,q⟩:=hrel;have ai:wr.heap[m]?=some (bOw X Y aa (.slice J (d+1) E)):=(q.out.2.2.2.2.1 m al).trans M.out.2.1;obtain ⟨aq,ar,b2,b3,au⟩:=Zbk ai;by_cases bd:k<b0
   ·have bf:=q.out.1;obtain ⟨⟨bt,bq⟩,bw⟩:=ZdC q.out.2.2.1 (k*3) (by omega);obtain ⟨⟨bu,br⟩,bx⟩:=ZdC q.out.2.2.1 (k*3+1) (by omega);obtain ⟨⟨bv,bs⟩,bz⟩:=ZdC q.out.2.2.1 (k*3+2) (by omega);have bm:(k:Int)<(b0:Int):=by omega
    have HR:Hid ((((wr.setCell ⟨g,k*3,none⟩ (.int .i64 0)).setCell ⟨g,k*3+1,none⟩ (.string ⟨#[]⟩)).setCell ⟨g,k*3+2,none⟩ (.int .i64 ((d+1:Nat):Int))).heap[g]?=some (.cells (((N.setIfInBounds (k*3) (.int .i64 0)).setIfInBounds (k*3+1) (.string ⟨#[]⟩)).setIfInBounds (k*3+2) (.int .i64 ((d+1:Nat):Int))) 84 (0,0))):=
     (Zm _ g (k*3+2) _ _ _ (Zm _ g (k*3+1) _ _ _ (Zm _ g (k*3) _ _ _ q.out.2.2.1)))
    clear bf ai;go_wp2_with fail
    go_roundw
    case rel =>
     refine ⟨k+1,_,by omega,by go_num,?_,ZsN q.out.2.1 q.out.1 bd,HR.out,?_,?_,?_⟩
     ·simp;exact q.out.1
     ·simp;exact q.out.2.2.2.1
     ·intro j A;exact (Yf _ _ _ _ A).trans ((Yf _ _ _ _ A).trans ((Yf _ _ _ _ A).trans (q.out.2.2.2.2.1 j A)))
     ·exact q.out.2.2.2.2.2.trans (((Zat _ _ _).trans (Zat _ _ _)).trans (Zat _ _ _))
    case measure=>simp [intOf];omega
   ·obtain rfl:k=b0:=by omega
    clear ai;go_wp2_with fail
    refine bodyPost_end (v:=.tuple #[]) (by simp [results,Tryz.results27,go_sem]) rfl ?_;have hS:=M.out.2.2.2.2.2.2.2.1.trans q.out.2.2.2.2.2;refine ⟨⟨_,rfl⟩,J,E,(q.out.2.2.2.2.1 m al).trans M.out.2.1,Zz M.out.2.2.2.1 (fun j A=>q.out.2.2.2.2.1 j (M.out.2.2.2.2.2.2.1 j A)),.inr ⟨g,k,N,rfl,a6.out,q.out.2.2.1,q.out.2.1⟩,⟨hS.1,hS.2.1,hS.2.2,by rw [q.out.2.2.2.1];exact M.out.2.2.2.2.1,fun j ag ac=>(q.out.2.2.2.2.1 j (fun e=>ac (.inr (.inl e)))).trans (M.out.2.2.2.2.2.1 j ag (fun e=>ac (.inl e)) (fun e=>ac (.inr (.inr e))))⟩,M.out.2.2.2.2.2.2.2.2⟩
theorem Zqp (bc:Nat) (O Q R:Value) (A:Option Addr) (m d:Nat) (ae:List Value) (w:World) (N:w.heap[bc]?=some (bOw O Q R (.slice A d m))) (aj:w.ownsRow 0 42 1 (.slice A d m) d ae) (a9:d≤1099511627776) :
  Calls Tryz.prog 27 #[.pointer (some ⟨bc,0,none⟩),.slice none 0 0] w fun e w'=>(∃ x,e=.returned x)∧∃ D q,w'.heap[bc]?=some (bOw O Q R (.slice D (d+1) q))∧w'.ownsRow 0 42 1 (.slice D (d+1) q) (d+1) (ae++[.slice none 0 0])∧Chg (fun x=>x=bc∨(Value.slice A d m).ownBlock=some x) w w'∧(∀ j,(Value.slice D (d+1) q).ownBlock=some j→(Value.slice A d m).ownBlock=some j∨w.heap.size≤j):=by
 obtain ⟨a7,ax,a0,a1,a6⟩:=info_parts Znh;have aw:bc<w.heap.size:=(Ya.1 N).1;obtain ⟨am,ao,a2,a3,ap⟩:=Zbk N;have ai:(Value.slice A d m).ownBlock≠some bc:=by
  intro e;obtain ⟨a8,h'⟩:=Z5 aj bc e;rw [N] at h';simp at h'
 have X:Hid (w.heap[bc]?=some (bOw O Q R (.slice A d m))∧(Value.slice A d m).ownBlock≠some bc):=⟨N,ai⟩;clear N ai;go_enter Tryz.func27,Tryz.ntmps27
 go_wp2_with (at_builtin;refine wpList_append_own_at _ rfl (.tmp 14) (.tmp 16) 28 rfl 0 42 a7 _ 1 24 Tryz.underlying28 ax a0 a1 a6 rfl (by decide) _ _ _ rfl (aj.alloc _) ⟨w.heap.size,0,none⟩ 1 1 [.slice none 0 0] rfl rfl (ZY _ [.slice none 0 0] 42 (by simp)) (by intro u al;simp at al;subst al;rfl) (by unfold maxLen;omega) (by omega) (Ye _) ?next)
 case next =>
  intro v' U ad L _ ag;obtain ⟨D,q,az,_⟩:=Zf ad;subst az;have aa:∀ j,j<w.heap.size→(Value.slice A d m).ownBlock≠some j→U.heap[j]?=w.heap[j]?:=fun j I ay=>(L.block j (by simp;omega) (fun e=>ay e.symm)).trans (Zt _ _ I)
  have Y:U.heap[bc]?=some (bOw O Q R (.slice A d m)):=(aa bc aw X.out.2).trans X.out.1;obtain ⟨E,J⟩:∃ E,E=U.setCell ⟨bc,3,none⟩ (.slice D (d+1) q):=⟨_,rfl⟩;have ac:∀ j,j≠bc→E.heap[j]?=U.heap[j]?:=fun j I=>by rw [J];exact Yf _ _ _ _ I
  have ab:∀ j,(Value.slice D (d+1) q).ownBlock=some j→(Value.slice A d m).ownBlock=some j∨w.heap.size≤j:=by
   intro j I;rcases ag with h | h
   ·exact .inl (h.symm.trans I)
   ·right;rw [I] at h;simp at h;omega
  have ah:∀ j,(Value.slice D (d+1) q).ownBlock=some j→j≠bc:=by
   intro j I;rcases ab j I with h | h
   ·exact fun e=>X.out.2 (by rw [h,e])
   ·omega
  have ak:w.heap.size≤E.heap.size:=by
   have:=L.size;rw [J];simp at this ⊢;omega
  have V:SameW w E:=by rw [J];exact SameW.trans ⟨L.os,L.tape,L.output⟩ (Zat _ _ _)
  have M:Hid (E=U.setCell ⟨bc,3,none⟩ (.slice D (d+1) q)∧E.heap[bc]?=some (bOw O Q R (.slice D (d+1) q))∧E.ownsRow 0 42 1 (.slice D (d+1) q) (d+1) (ae++[.slice none 0 0])∧Chg (fun x=>x=bc∨(Value.slice A d m).ownBlock=some x) w E∧(∀ j,(Value.slice D (d+1) q).ownBlock=some j→(Value.slice A d m).ownBlock=some j∨w.heap.size≤j)):=
   ⟨J,by rw [J];exact Zm _ _ _ _ _ _ Y,Zz ad (fun j I=>ac j (ah j I)),⟨V.1,V.2.1,V.2.2,ak,fun k av af=>(ac k (fun e=>af (.inl e))).trans (aa k av (fun e=>af (.inr e)))⟩,ab⟩
  obtain ⟨aq,ar,b2,b3,au⟩:=Zbk Y;clear ad L ag aa Y J ac ab ah ak V;go_wp2_with fail
  rw [←M.out.1];clear aq ar b2 b3 au am ao a2 a3 ap;go_loopw [5] (fun i wr=>i=.int .i64 0∧wr=E) (fun _ _=>0)
  case atStart=>exact ⟨rfl,rfl⟩
  case round =>
   obtain ⟨rfl,rfl⟩:=hrel;go_wp2_with fail
   refine bodyPost_end (v:=.tuple #[]) (by simp [results,Tryz.results27,go_sem]) rfl ?_;exact ⟨⟨_,rfl⟩,D,q,M.out.2.1,M.out.2.2.1,M.out.2.2.2.1,M.out.2.2.2.2⟩
end Lw
end Go.Proofs.YtmgkcbdlfodjmaaGreatDoor
