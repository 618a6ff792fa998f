import Derived.Test.YtmgkcbdlfodjmaaGreatDoorBqO
set_option maxRecDepth 100000
set_option maxHeartbeats 16000000
namespace Go.Proofs.YtmgkcbdlfodjmaaGreatDoor
open Go.RowKit
namespace Lw
open Co
abbrev ZbE (p:Value) (b:Int) (v1 v2 v3 v4:Value) (x y:Bool) (nx hb:Int) (hv:Value):Obj:=.cells #[p,.int .i64 b,v1,v2,v3,v4,.bool x,.bool y,.int .i64 nx,.int .i64 hb,hv] 48
def Zuf (a:Ans) (w w':World) (e:Ending):Prop:=
 ∃ gx,e=.returned (.tuple #[.pointer (some ⟨gx,0,none⟩),.bool true])∧w.heap.size≤gx∧Below w.heap.size w w' ∧
  ((a.err≠0∧∃ b v1 nx,w'.heap[gx]?=some (ZbE (.pointer none) b v1 (.slice none 0 0) (.slice none 0 0) (.slice none 0 0) false false nx 0 (.slice none 0 0))) ∨
   (a.err=0∧∃ gp F vo vc nx,w'.heap[gx]?=some (ZbE (.pointer (some ⟨gp,0,none⟩)) a.tab.1 (.slice vo a.tab.2.length vc) (.slice none 0 0) (.slice none 0 0) (.slice none 0 0) false false nx 0 (.slice none 0 0)) ∧
    DeskAt w' gp (Zc2 a) ⟨0,0,[]⟩ F∧(∀ y,F y→w.heap.size≤y)∧¬F gx∧w'.ownsRow 0 82 4 (.slice vo a.tab.2.length vc) a.tab.2.length (Ze a.tab.2)∧(∀ g,(Value.slice vo a.tab.2.length vc).ownBlock=some g→¬F g∧w.heap.size≤g)∧nx=1))
theorem ZoF (s:ByteArray) (w:World) (U:s.size≤maxLen) :
  Calls Tryz.prog 4 #[.string s] w fun e w'=>Zuf (Z7 s) w w' e:=by
 have N:=Za (Zr4 s w U);have R:=Za (fun w1=>Zqw s w1 U);have Q:=Za (Zpl s);obtain ⟨⟨⟨b,ps⟩,ab,ag⟩,V⟩:∃ a,Z7 s=a:=⟨_,rfl⟩;rw [V] at N R Q ⊢;simp only at Q;unfold maxLen at U;clear V;go_enter Tryz.func4,Tryz.ntmps4
 go_wp2_with fail
 refine N.out.mono ?_;rintro e w1 (⟨J,rfl,M⟩ | ⟨J,D,F,rfl,hd,hF,M⟩)
 ·simp only at J ⊢;have HE:=Za J;have ah:((ab:Int) != 0)=true:=by rw [bne_iff_ne];omega
  have Y:=Za M;clear J M N;go_wp2_with fail
  refine (R.out w1).mono ?_;rintro e m ⟨ai,vc,nx,rfl,A,E,_⟩;simp only at A ⊢;obtain ⟨d,L⟩:∃ d,ps.length=d:=⟨_,rfl⟩;rw [L];have q:=Zb Y.out E;have K:Hid (Below w.heap.size w ((m.alloc (Zgf b (.slice ai d vc) nx)).alloc (ZbE (.pointer none) b (.slice ai d vc) (.slice none 0 0) (.slice none 0 0) (.slice none 0 0) false false nx 0 (.slice none 0 0)))∧w.heap.size≤m.heap.size):=⟨(q.alloc q.size _).alloc (by simp;have:=q.size;omega) _,q.size⟩;clear A E q L;go_wp2_with fail
  go_ret2
  refine ⟨m.heap.size+1,rfl,by have:=K.out.2;omega,K.out.1,.inl ⟨HE.out,b,.slice ai d vc,nx,?_⟩⟩;exact Zd _ _ (by simp)
 ·simp only at J;subst J;have ae:ag=0:=Q.out rfl;subst ae;have I:Hid (DeskAt w1 D (Zc2 ⟨(b,ps),0,0⟩) ⟨0,0,[]⟩ F∧(∀ y,F y→w.heap.size≤y)∧Below w.heap.size w w1):=⟨hd,hF,M⟩;clear hd hF M N;go_wp2_with fail
  refine (R.out w1).mono ?_;rintro e m ⟨ai,vc,nx,rfl,A,E,X⟩;have aa:Hid (nx=1):=X rfl;simp only at A ⊢;clear X;obtain ⟨d,L⟩:∃ d,ps.length=d:=⟨_,rfl⟩;rw [L] at A ⊢;have q:=Zb I.out.2.2 E;have O:Below m.heap.size m ((m.alloc (Zgf b (.slice ai d vc) nx)).alloc (ZbE (.pointer (some ⟨D,0,none⟩)) b (.slice ai d vc) (.slice none 0 0) (.slice none 0 0) (.slice none 0 0) false false nx 0 (.slice none 0 0))):=Zb (Zc _ _) (Zc _ _);have K:Hid (Below w.heap.size w ((m.alloc (Zgf b (.slice ai d vc) nx)).alloc (ZbE (.pointer (some ⟨D,0,none⟩)) b (.slice ai d vc) (.slice none 0 0) (.slice none 0 0) (.slice none 0 0) false false nx 0 (.slice none 0 0)))∧w.heap.size≤m.heap.size∧ps.length=d ∧
    DeskAt ((m.alloc (Zgf b (.slice ai d vc) nx)).alloc (ZbE (.pointer (some ⟨D,0,none⟩)) b (.slice ai d vc) (.slice none 0 0) (.slice none 0 0) (.slice none 0 0) false false nx 0 (.slice none 0 0))) D (Zc2 ⟨(b,ps),0,0⟩) ⟨0,0,[]⟩ F∧(∀ y,F y→y<m.heap.size) ∧
    ((m.alloc (Zgf b (.slice ai d vc) nx)).alloc (ZbE (.pointer (some ⟨D,0,none⟩)) b (.slice ai d vc) (.slice none 0 0) (.slice none 0 0) (.slice none 0 0) false false nx 0 (.slice none 0 0))).ownsRow 0 82 4 (.slice ai d vc) d (Ze ps)∧(∀ g,(Value.slice ai d vc).ownBlock=some g→¬F g∧w.heap.size≤g)):=by
   refine ⟨Zb q O,q.size,L,I.out.1.keep (G:=fun _=>False) (Chg.of_below (Zb E O)) (fun _ _ h=>h),fun y af=>Yl (I.out.1.lt y af) E.size,Zr (Zx A O) (Ye _),fun g ad=>?_⟩;have ac:=(A.lt g ad).1;refine ⟨fun h=>?_,Ym I.out.2.2.size ac⟩;have:=I.out.1.lt g h;omega
  clear A E q L O;go_wp2_with fail
  go_ret2
  refine ⟨m.heap.size+1,rfl,by have:=K.out.2.1;omega,K.out.1,.inr ⟨rfl,D,F,ai,vc,nx,?_,K.out.2.2.2.1,I.out.2.1,fun h=>?_,?_,?_,aa.out⟩⟩
  ·simp only [K.out.2.2.1];exact Zd _ _ (by simp)
  ·have:=K.out.2.2.2.2.1 _ h;omega
  ·simp only [K.out.2.2.1];exact K.out.2.2.2.2.2.1
  ·simp only [K.out.2.2.1];exact K.out.2.2.2.2.2.2
theorem Zb1 {w q:World} {G:Nat→Prop} {m:TypeId} {sz:Nat} {v:Value} {n:Nat} {A:List Value} (d:w.ownsRow 0 m sz v n A) (D:Chg G w q) (hd:∀ g,v.ownBlock=some g→¬G g):q.ownsRow 0 m sz v n A:=
 Zz d (fun j h=>D.block j (d.lt j h).2 (hd j h))
theorem Zb8 {w:World} {B A:Nat} {R m:TypeId} {sz M:Nat} {v q:Value} {n L:Nat} {N O:List Value} (h:w.ownsRow B R sz v n N) (D:w.ownsRow A m M q L O) (J:R≠m):∀ g,v.ownBlock=some g→q.ownBlock≠some g:=by
 intro g E I;obtain ⟨c,e⟩:=Z5 h g E;obtain ⟨Q,d⟩:=Z5 D g I;rw [e] at d;simp at d;exact J d.2
theorem ZdF {w q:World} {o:Obj} {M i:Nat} {m lv6:Value} (L:M<w.heap.size) (I:m.ownBlock≠some M) (A:(w.alloc o).grownBy q m.ownBlock) (E:lv6.ownBlock=m.ownBlock∨lv6.ownBlock=some (w.heap.size+1)) :
  (∀ j,j<w.heap.size→m.ownBlock≠some j→q.heap[j]?=w.heap[j]?)∧(∀ j,lv6.ownBlock=some j→m.ownBlock=some j∨w.heap.size≤j)∧(∀ j,lv6.ownBlock=some j→j≠M)∧(∀ j,j≠M→(q.setCell ⟨M,i,none⟩ lv6).heap[j]?=q.heap[j]?)∧w.heap.size≤(q.setCell ⟨M,i,none⟩ lv6).heap.size∧SameW w (q.setCell ⟨M,i,none⟩ lv6):=by
 have D:∀ j,lv6.ownBlock=some j→m.ownBlock=some j∨w.heap.size≤j:=by
  intro j d;rcases E with h | h
  ·exact .inl (h.symm.trans d)
  ·right;rw [d] at h;simp at h;omega
 refine ⟨fun j d J=>(A.block j (by simp;omega) (fun e=>J e.symm)).trans (Zt _ _ d),D,fun j d=>?_,fun j d=>Yf _ _ _ _ d,?_,SameW.trans ⟨A.os,A.tape,A.output⟩ (Zat _ _ _)⟩
 ·rcases D j d with h | h
  ·exact fun e=>I (by rw [h,e])
  ·omega
 ·have:=A.size;simp at this ⊢;omega
theorem ZjP {w:World} {d g:Nat} {q lv6:Value} (I:g<w.heap.size) (E:q.ownBlock≠some g) (D:∀ j,lv6.ownBlock=some j→q.ownBlock=some j∨w.heap.size≤j) (A:∀ j,lv6.ownBlock=some j→j≠d):∀ j,lv6.ownBlock=some j→j≠g∧j≠d:=by
 intro j m;refine ⟨?_,A j m⟩;rcases D j m with h | h
 ·exact fun e=>E (by rw [h,e])
 ·omega
theorem Znz (q:Nat) (F:Nat→Prop) (bt L A bu:Nat) (b:Int) (ag:Option Addr) (ad af:Nat) (so:Option Addr) (aa sc:Nat) (wo:Option Addr) (Q wc:Nat) (ar:Option Addr) (ae aq:Nat) (bg bk:Bool) (ep dl cz dq:List Value) (w:World) (d:OwnAt w q F bt L A bu) (eu:bt≤1099511627776∧L≤1099511627776∧A≤1099511627776∧bu≤1099511627776)
  (co:w.ownsRow 0 82 4 (.slice ag ad af) ad ep∧∀ g,(Value.slice ag ad af).ownBlock=some g→¬F g) (cp:w.ownsRow 0 86 4 (.slice so aa sc) aa dl∧∀ g,(Value.slice so aa sc).ownBlock=some g→¬F g)
  (cq:w.ownsRow 0 88 2 (.slice wo Q wc) Q cz∧∀ g,(Value.slice wo Q wc).ownBlock=some g→¬F g) (cr:w.ownsRow 0 84 3 (.slice ar ae aq) ae dq∧∀ g,(Value.slice ar ae aq).ownBlock=some g→¬F g) :
  Calls Tryz.prog 14 #[.pointer (some ⟨q,0,none⟩),.agg #[.int .i64 b,.slice ag ad af,.slice so aa sc,.slice wo Q wc,.slice ar ae aq,.bool bg,.bool bk]] w fun e w'=>(∃ x,e=.returned x)∧∃ F',OwnAt w' q F' (bt+1) (L+1) (A+1) (bu+1)∧(∀ y,F' y→F y∨(Value.slice ag ad af).ownBlock=some y∨(Value.slice so aa sc).ownBlock=some y∨(Value.slice wo Q wc).ownBlock=some y∨(Value.slice ar ae aq).ownBlock=some y∨w.heap.size≤y)∧Chg (fun y=>F y∨(Value.slice ag ad af).ownBlock=some y∨(Value.slice so aa sc).ownBlock=some y∨(Value.slice wo Q wc).ownBlock=some y∨(Value.slice ar ae aq).ownBlock=some y) w w':=by
 obtain ⟨ev,ey,ez,ew⟩:=eu;obtain ⟨ff,cu⟩:∃ ff,ff=w.alloc (.cells #[.int .i64 b,.slice ag ad af,.slice so aa sc,.slice wo Q wc,.slice ar ae aq,.bool bg,.bool bk] 44):=⟨_,rfl⟩;have d8:Below w.heap.size w ff:=by rw [cu];exact Zc _ _
 have cm:Chg (fun _=>False) w ff:=Chg.of_below d8;have eh:w.heap.size<ff.heap.size:=by rw [cu];simp
 have d9:ff.heap[w.heap.size]?=some (.cells #[.int .i64 b,.slice ag ad af,.slice so aa sc,.slice wo Q wc,.slice ar ae aq,.bool bg,.bool bk] 44):=by rw [cu];exact Zd _ _ rfl
 have d7:=d.lt;have ee:=d.keep cm (fun _ _ d=>d);have ei:=Zb1 co.1 cm (fun _ _ d=>d);have ej:=Zb1 cp.1 cm (fun _ _ d=>d);have ek:=Zb1 cq.1 cm (fun _ _ d=>d);have el:=Zb1 cr.1 cm (fun _ _ d=>d);have d2:∀ g,(Value.slice so aa sc).ownBlock=some g→g<w.heap.size:=fun g D=>(cp.1.lt g D).2
 have d3:∀ g,(Value.slice wo Q wc).ownBlock=some g→g<w.heap.size:=fun g D=>(cq.1.lt g D).2
 have d4:∀ g,(Value.slice ar ae aq).ownBlock=some g→g<w.heap.size:=fun g D=>(cr.1.lt g D).2
 have d1:∀ g,(Value.slice ag ad af).ownBlock=some g→g<w.heap.size:=fun g D=>(co.1.lt g D).2
 have dr:=Za (Zlx q F bt L A bu b ag ad af ep ff ee ev ei co.2);rw [cu] at dr;have ct:Hid (ff=w.alloc (.cells #[.int .i64 b,.slice ag ad af,.slice so aa sc,.slice wo Q wc,.slice ar ae aq,.bool bg,.bool bk] 44)∧Chg (fun _=>False) w ff∧w.heap.size<ff.heap.size∧ff.heap[w.heap.size]?=some (.cells #[.int .i64 b,.slice ag ad af,.slice so aa sc,.slice wo Q wc,.slice ar ae aq,.bool bg,.bool bk] 44)):=⟨cu,cm,eh,d9⟩;have HD:Hid ((∀ x,F x→x<w.heap.size)∧(∀ g,(Value.slice ag ad af).ownBlock=some g→g<w.heap.size)∧(∀ g,(Value.slice so aa sc).ownBlock=some g→g<w.heap.size∧¬F g∧(Value.slice ag ad af).ownBlock≠some g)∧(∀ g,(Value.slice wo Q wc).ownBlock=some g→g<w.heap.size∧¬F g∧(Value.slice ag ad af).ownBlock≠some g∧(Value.slice so aa sc).ownBlock≠some g)∧(∀ g,(Value.slice ar ae aq).ownBlock=some g→g<w.heap.size∧¬F g∧(Value.slice ag ad af).ownBlock≠some g∧(Value.slice so aa sc).ownBlock≠some g∧(Value.slice wo Q wc).ownBlock≠some g)):=by
  refine ⟨d7,d1,fun g D=>⟨d2 g D,cp.2 g D,Zb8 cp.1 co.1 (by decide) g D⟩,fun g D=>⟨d3 g D,cq.2 g D,Zb8 cq.1 co.1 (by decide) g D,Zb8 cq.1 cp.1 (by decide) g D⟩,fun g D=>⟨d4 g D,cr.2 g D,Zb8 cr.1 co.1 (by decide) g D,Zb8 cr.1 cp.1 (by decide) g D,Zb8 cr.1 cq.1 (by decide) g D⟩⟩
 have dp:Hid (ff.ownsRow 0 86 4 (.slice so aa sc) aa dl∧ff.ownsRow 0 88 2 (.slice wo Q wc) Q cz∧ff.ownsRow 0 84 3 (.slice ar ae aq) ae dq):=⟨ej,ek,el⟩;clear d co cp cq cr d8 cm eh d9 d7 ee ei ej ek el d1 d2 d3 d4 cu;go_enter Tryz.func14,Tryz.ntmps14
 go_wp2_with fail
 refine dr.out.mono ?_;rintro e w1 ⟨⟨e8,rfl⟩,di,b8⟩;rw [←ct.out.1] at di b8;have dw:w1.heap[w.heap.size]?=some (.cells #[.int .i64 b,.slice ag ad af,.slice so aa sc,.slice wo Q wc,.slice ar ae aq,.bool bg,.bool bk] 44):=
  (b8.block _ ct.out.2.2.1 (fun h=>h.elim (fun h=>absurd (HD.out.1 _ h) (by omega)) (fun h=>absurd (HD.out.2.1 _ h) (by omega)))).trans ct.out.2.2.2
 have dm:Hid (w1.ownsRow 0 86 4 (.slice so aa sc) aa dl∧w1.ownsRow 0 88 2 (.slice wo Q wc) Q cz∧w1.ownsRow 0 84 3 (.slice ar ae aq) ae dq):=by
  refine ⟨Zb1 dp.out.1 b8 (fun g D h=>?_),Zb1 dp.out.2.1 b8 (fun g D h=>?_),Zb1 dp.out.2.2 b8 (fun g D h=>?_)⟩
  ·have:=HD.out.2.2.1 g D;exact h.elim this.2.1 this.2.2
  ·have:=HD.out.2.2.2.1 g D;exact h.elim this.2.1 this.2.2.1
  ·have:=HD.out.2.2.2.2 g D;exact h.elim this.2.1 this.2.2.1
 obtain ⟨c0,du⟩:∃ c0,Za2 F (.slice ag ad af) ff w1=c0:=⟨_,rfl⟩;have bm:Hid ((∀ y,c0 y→F y∨(Value.slice ag ad af).ownBlock=some y∨w.heap.size<y)∧Chg (fun y=>F y∨(Value.slice ag ad af).ownBlock=some y) w w1∧w.heap.size<w1.heap.size):=by
  refine ⟨fun y m=>?_,ct.out.2.1.mono (fun _ d=>d.elim) |>.trans b8 (fun y m=>.inl m),Yl ct.out.2.2.1 b8.size⟩;rw [←du] at m;rcases m with m | m | m
  ·exact .inl m
  ·exact .inr (.inl m)
  ·have:=ct.out.2.2.1;exact .inr (.inr (by omega))
 rw [du] at di;have et:=Za di;have dz:=Za dw;obtain ⟨cw,cx,s2,s3,cy,s5,s6⟩:=Zeq (Yh _ w1) bm.out.2.2 dw;have fh:=Za (ZlQ q c0 (bt+1) L A bu ar ae aq dq w1 di ew dm.out.2.2 (fun g D h=>by
  have:=HD.out.2.2.2.2 g D;rcases bm.out.1 g h with h | h | h
  ·exact this.2.1 h
  ·exact this.2.2.1 h
  ·omega))
 clear b8 dw du di dr dp;go_wp2_with fail
 refine fh.out.mono ?_;rintro e ai ⟨⟨e9,rfl⟩,dy,cv⟩;have dx:ai.heap[w.heap.size]?=some (.cells #[.int .i64 b,.slice ag ad af,.slice so aa sc,.slice wo Q wc,.slice ar ae aq,.bool bg,.bool bk] 44):=
  (cv.block _ bm.out.2.2 (fun h=>by
   rcases h with h | h
   ·rcases bm.out.1 _ h with h | h | h
    ·exact absurd (HD.out.1 _ h) (by omega)
    ·exact absurd (HD.out.2.1 _ h) (by omega)
    ·omega
   ·exact absurd (HD.out.2.2.2.2 _ h).1 (by omega))).trans dz.out
 have ds:Hid (ai.ownsRow 0 86 4 (.slice so aa sc) aa dl∧ai.ownsRow 0 88 2 (.slice wo Q wc) Q cz):=by
  refine ⟨Zb1 dm.out.1 cv (fun g D h=>?_),Zb1 dm.out.2.1 cv (fun g D h=>?_)⟩
  ·have:=HD.out.2.2.1 g D;rcases h with h | h
   ·rcases bm.out.1 g h with h | h | h
    ·exact this.2.1 h
    ·exact this.2.2 h
    ·omega
   ·exact (HD.out.2.2.2.2 g h).2.2.2.1 D
  ·have:=HD.out.2.2.2.1 g D;rcases h with h | h
   ·rcases bm.out.1 g h with h | h | h
    ·exact this.2.1 h
    ·exact this.2.2.1 h
    ·omega
   ·exact (HD.out.2.2.2.2 g h).2.2.2.2 D
 obtain ⟨bz,dv⟩:∃ bz,Za2 c0 (.slice ar ae aq) w1 ai=bz:=⟨_,rfl⟩;have bf:Hid ((∀ y,bz y→F y∨(Value.slice ag ad af).ownBlock=some y∨(Value.slice ar ae aq).ownBlock=some y∨w.heap.size<y)∧Chg (fun y=>F y∨(Value.slice ag ad af).ownBlock=some y∨(Value.slice ar ae aq).ownBlock=some y) w ai∧w.heap.size<ai.heap.size):=by
  refine ⟨fun y m=>?_,(bm.out.2.1.mono (fun y d=>d.elim .inl (fun d=>.inr (.inl d)))).trans cv (fun y m=>?_),Yl bm.out.2.2 cv.size⟩
  ·rw [←dv] at m;rcases m with m | m | m
   ·rcases bm.out.1 y m with d | d | d
    ·exact .inl d
    ·exact .inr (.inl d)
    ·exact .inr (.inr (.inr d))
   ·exact .inr (.inr (.inl m))
   ·have:=bm.out.2.2;exact .inr (.inr (.inr (by omega)))
  ·rcases m with m | m
   ·rcases bm.out.1 y m with d | d | d
    ·exact .inl (.inl d)
    ·exact .inl (.inr (.inl d))
    ·exact .inr (by omega)
   ·exact .inl (.inr (.inr m))
 rw [dv] at dy;have HO:=Za dy;have d0:=Za dx;have dt:Hid (ai.ownsRow 0 86 4 (.slice so aa sc) aa dl∧∀ g,(Value.slice so aa sc).ownBlock=some g→¬bz g):=⟨ds.out.1,fun g D h=>by
  have:=HD.out.2.2.1 g D;rcases bf.out.1 g h with h | h | h | h
  ·exact this.2.1 h
  ·exact this.2.2 h
  ·exact (HD.out.2.2.2.2 g h).2.2.2.1 D
  ·omega⟩
 clear cw cx s2 s3 cy s5 s6 cv dv dy fh et dz dm;obtain ⟨cw,cx,s2,s3,cy,s5,s6⟩:=Zeq (Yh _ ai) bf.out.2.2 dx;clear dx;obtain ⟨ao,a7,b0,ap,aj,bv,b6,cs,bw⟩:=HO.out.ex;obtain ⟨bx,am,br,bs⟩:=b6;obtain ⟨X,V,rfl,_⟩:=Zf am;have fg:q<ai.heap.size:=HO.out.lt q HO.out.go;have HR:Hid (ai.heap[q]?=some (bOw ao (.slice X (L) V) b0 ap)∧∀ w',Zn5 ai w' q ao (.slice X (L) V) b0 ap (.slice so aa sc) (L) bx→OwnAt w' q (Za2 bz (.slice so aa sc) ai w') (bt+1) ((L+1)) (A) (bu+1)∧Chg (fun y=>bz y∨(Value.slice so aa sc).ownBlock=some y) ai w'):=
  ⟨aj,fun w' dk=>ZtI HO.out.lt HO.out.go aj bv cs bw am br bs (fun y m=>⟨dt.out.2 y m,(dt.out.1.lt y m).2⟩) dk⟩
 have bl:(Value.slice X (L) V).ownBlock≠some q:=by
  intro e;obtain ⟨N,h'⟩:=Z5 am q e;rw [aj] at h';simp at h'
 obtain ⟨a0,a1,a2,a3,az⟩:=Zbk aj;obtain ⟨ck,cc,ch,ci,cj⟩:=info_parts Zrd;rcases dt.out.1.2 with ⟨e,e2⟩ | ⟨g,d6,a8,e,_,D,ed,bp,cg,_⟩
 ·simp only [Value.slice.injEq] at e;obtain ⟨rfl,rfl,rfl⟩:=e;have HP:Hid (True∧(Value.slice X (L) V).ownBlock≠some q):=⟨trivial,bl⟩;clear aj bv cs bw br bs bl;go_wp2_with (at_builtin;refine wpList_append_own_at _ rfl (.tmp 26) (.tmp 28) 26 rfl 0 40 ck _ 1 24 Tryz.underlying26 cc ch ci cj rfl (by decide) _ _ _ rfl (am.alloc _) ⟨ai.heap.size,0,none⟩ 1 1 [.slice none 0 0] rfl rfl (ZY _ [.slice none 0 0] 40 rfl) (by intro u be;simp at be;subst be;rfl) (by unfold maxLen;omega) (by omega) (Ye _) ?nextV)
  case nextV =>
   intro v' ax av bd _ bc;obtain ⟨U,R,bq,_⟩:=Zf av;subst bq;obtain ⟨al,fd,fe,ab,aw,O⟩:=ZdF (lv6:=.slice U (L+1) R) (i:=1) fg HP.out.2 bd (by simpa using bc);have au:ax.heap[q]?=some (bOw ao (.slice X (L) V) b0 ap):=(al q fg HP.out.2).trans HR.out.1;obtain ⟨I,ac⟩:∃ I,I=ax.setCell ⟨q,1,none⟩ (.slice U (L+1) R):=⟨_,rfl⟩;rw [←ac] at ab aw O;have hT:Zn5 ai I q ao (.slice X (L) V) b0 ap (.slice none 0 0) (L) bx:=
    ⟨_,.slice none 0 0,by rw [ac];exact Zm _ _ _ _ _ _ au,Zz av (fun j Y=>ab j (fe j Y)),.inl rfl,rfl,⟨O.1,O.2.1,O.2.2,aw,fun k a9 ak=>(ab k (fun e=>ak (.inl e))).trans (al k a9 (fun e=>ak (.inr (.inr e))))⟩,fd⟩
   have ah:=Za (HR.out.2 I hT);have M:=Za ac;obtain ⟨bh,bi,b2,b3,bj⟩:=Zbk au;clear av bd bc al au ac ab fd fe aw O am hT;go_wp2_with fail
   rw [←M.out];clear bh bi b2 b3 bj a0 a1 a2 a3 az M;go_loopw [5] (fun i wr=>i=.int .i64 0∧I=wr) (fun _ _=>0)
   case atStart=>exact ⟨rfl,rfl⟩
   case round =>
    obtain ⟨rfl,rfl⟩:=hrel;obtain ⟨a6,b1⟩:∃ a6,Za2 bz (Value.slice none 0 0) ai I=a6:=⟨_,rfl⟩;rw [b1] at ah;have ay:Hid ((∀ y,a6 y→F y∨(Value.slice ag ad af).ownBlock=some y∨(Value.slice ar ae aq).ownBlock=some y∨(Value.slice none 0 0).ownBlock=some y∨w.heap.size<y)∧Chg (fun y=>F y∨(Value.slice ag ad af).ownBlock=some y∨(Value.slice ar ae aq).ownBlock=some y∨(Value.slice none 0 0).ownBlock=some y) w I∧w.heap.size<I.heap.size):=by
     refine ⟨fun y m=>?_,(bf.out.2.1.mono (fun y d=>?_)).trans ah.out.2 (fun y m=>?_),Yl bf.out.2.2 ah.out.2.size⟩
     ·rw [←b1] at m;rcases m with m | m | m
      ·rcases bf.out.1 y m with d | d | d | d
       ·exact .inl d
       ·exact .inr (.inl d)
       ·exact .inr (.inr (.inl d))
       ·exact .inr (.inr (.inr (.inr d)))
      ·exact .inr (.inr (.inr (.inl m)))
      ·have:=bf.out.2.2;exact .inr (.inr (.inr (.inr (by omega))))
     ·rcases d with d | d | d
      ·exact .inl d
      ·exact .inr (.inl d)
      ·exact .inr (.inr (.inl d))
     ·rcases m with m | m
      ·rcases bf.out.1 y m with d | d | d | d
       ·exact .inl (.inl d)
       ·exact .inl (.inr (.inl d))
       ·exact .inl (.inr (.inr (.inl d)))
       ·exact .inr (by omega)
      ·exact .inl (.inr (.inr (.inr m)))
    have c9:I.heap[w.heap.size]?=some (.cells #[.int .i64 b,.slice ag ad af,.slice none 0 0,.slice wo Q wc,.slice ar ae aq,.bool bg,.bool bk] 44):=
     (ah.out.2.block _ bf.out.2.2 (fun h=>by
      rcases h with h | h
      ·rcases bf.out.1 _ h with h | h | h | h
       ·exact absurd (HD.out.1 _ h) (by omega)
       ·exact absurd (HD.out.2.1 _ h) (by omega)
       ·exact absurd (HD.out.2.2.2.2 _ h).1 (by omega)
       ·omega
      ·exact absurd (HD.out.2.2.1 _ h).1 (by omega))).trans d0.out
    have cl:Hid (I.ownsRow 0 88 2 (.slice wo Q wc) Q cz∧∀ g,(Value.slice wo Q wc).ownBlock=some g→¬a6 g):=by
     have dh:∀ g,(Value.slice wo Q wc).ownBlock=some g→¬a6 g:=fun g D h=>by
      have:=HD.out.2.2.2.1 g D;rcases ay.out.1 g h with h | h | h | h | h
      ·exact this.2.1 h
      ·exact this.2.2.1 h
      ·exact (HD.out.2.2.2.2 g h).2.2.2.2 D
      ·exact this.2.2.2 h
      ·omega
     refine ⟨Zb1 ds.out.2 ah.out.2 (fun g D h=>?_),dh⟩;rcases h with h | h
     ·exact dh g D (by rw [←b1];exact .inl h)
     ·exact (HD.out.2.2.2.1 g D).2.2.2 h
    have c6:=Za ah.out.1;clear HO ah b1 HR HP cw cx s2 s3 cy s5 s6;have HO:=c6;clear c6;obtain ⟨cw,cx,s2,s3,cy,s5,s6⟩:=Zeq (Yh _ I) ay.out.2.2 c9;clear c9;obtain ⟨ao,a7,b0,ap,aj,bv,b6,cs,bw⟩:=HO.out.ex;obtain ⟨bx,am,br,bs⟩:=cs;obtain ⟨X,V,rfl,_⟩:=Zf am;have fg:q<I.heap.size:=HO.out.lt q HO.out.go;have HR:Hid (I.heap[q]?=some (bOw ao a7 (.slice X (A) V) ap)∧∀ w',ZiY I w' q ao a7 (.slice X (A) V) ap (.slice wo Q wc) (A) bx→OwnAt w' q (Za2 a6 (.slice wo Q wc) I w') (bt+1) (L+1) ((A+1)) (bu+1)∧Chg (fun y=>a6 y∨(Value.slice wo Q wc).ownBlock=some y) I w'):=
     ⟨aj,fun w' dk=>Zq0 HO.out.lt HO.out.go aj bv b6 bw am br bs (fun y m=>⟨cl.out.2 y m,(cl.out.1.lt y m).2⟩) dk⟩
    have bl:(Value.slice X (A) V).ownBlock≠some q:=by
     intro e;obtain ⟨N,h'⟩:=Z5 am q e;rw [aj] at h';simp at h'
    obtain ⟨a0,a1,a2,a3,az⟩:=Zbk aj;obtain ⟨ck,cc,ch,ci,cj⟩:=info_parts ZmQ;rcases cl.out.1.2 with ⟨e,e2⟩ | ⟨g,d6,a8,e,_,D,ed,bp,cg,_⟩
    ·simp only [Value.slice.injEq] at e;obtain ⟨rfl,rfl,rfl⟩:=e;have HP:Hid (True∧(Value.slice X (A) V).ownBlock≠some q):=⟨trivial,bl⟩;clear aj bv b6 bw br bs bl;go_wp2_with (at_builtin;refine wpList_append_own_at _ rfl (.tmp 57) (.tmp 59) 27 rfl 0 41 ck _ 1 24 Tryz.underlying27 cc ch ci cj rfl (by decide) _ _ _ rfl (am.alloc _) ⟨I.heap.size,0,none⟩ 1 1 [.slice none 0 0] rfl rfl (ZY _ [.slice none 0 0] 41 rfl) (by intro u be;simp at be;subst be;rfl) (by unfold maxLen;omega) (by omega) (Ye _) ?nextW)
     case nextW =>
      intro v' ax av bd _ bc;obtain ⟨U,R,bq,_⟩:=Zf av;subst bq;obtain ⟨al,fd,fe,ab,aw,O⟩:=ZdF (lv6:=.slice U (A+1) R) (i:=2) fg HP.out.2 bd (by simpa using bc);have au:ax.heap[q]?=some (bOw ao a7 (.slice X (A) V) ap):=(al q fg HP.out.2).trans HR.out.1;obtain ⟨J,ac⟩:∃ J,J=ax.setCell ⟨q,2,none⟩ (.slice U (A+1) R):=⟨_,rfl⟩;rw [←ac] at ab aw O;have hT:ZiY I J q ao a7 (.slice X (A) V) ap (.slice none 0 0) (A) bx:=
       ⟨_,.slice none 0 0,by rw [ac];exact Zm _ _ _ _ _ _ au,Zz av (fun j Y=>ab j (fe j Y)),.inl rfl,rfl,⟨O.1,O.2.1,O.2.2,aw,fun k a9 ak=>(ab k (fun e=>ak (.inl e))).trans (al k a9 (fun e=>ak (.inr (.inr e))))⟩,fd⟩
      have ah:=Za (HR.out.2 J hT);have M:=Za ac;obtain ⟨bh,bi,b2,b3,bj⟩:=Zbk au;clear av bd bc al au ac ab fd fe aw O am hT;go_wp2_with fail
      rw [←M.out];clear bh bi b2 b3 bj a0 a1 a2 a3 az M;go_loopw [7] (fun i wr=>i=.int .i64 0∧J=wr) (fun _ _=>0)
      case atStart=>exact ⟨rfl,rfl⟩
      case round =>
       obtain ⟨rfl,rfl⟩:=hrel;go_wp2_with fail
       refine bodyPost_end (v:=.tuple #[]) (by simp [results,Tryz.results14,go_sem]) rfl ?_;refine ⟨⟨_,rfl⟩,_,ah.out.1,fun y m=>?_,(ay.out.2.1.mono (fun y d=>?_)).trans ah.out.2 (fun y m=>?_)⟩
       ·rcases m with m | m | m
        ·rcases ay.out.1 y m with d | d | d | d | d
         ·exact .inl d
         ·exact .inr (.inl d)
         ·exact .inr (.inr (.inr (.inr (.inl d))))
         ·exact .inr (.inr (.inl d))
         ·exact .inr (.inr (.inr (.inr (.inr (by omega)))))
        ·exact .inr (.inr (.inr (.inl m)))
        ·have:=ay.out.2.2;exact .inr (.inr (.inr (.inr (.inr (by omega)))))
       ·rcases d with d | d | d | d
        ·exact .inl d
        ·exact .inr (.inl d)
        ·exact .inr (.inr (.inr (.inr d)))
        ·exact .inr (.inr (.inl d))
       ·rcases m with m | m
        ·rcases ay.out.1 y m with d | d | d | d | d
         ·exact .inl (.inl d)
         ·exact .inl (.inr (.inl d))
         ·exact .inl (.inr (.inr (.inr (.inr d))))
         ·exact .inl (.inr (.inr (.inl d)))
         ·exact .inr (by omega)
        ·exact .inl (.inr (.inr (.inr (.inl m))))
    ·simp only [Value.slice.injEq] at e;obtain ⟨rfl,_,rfl⟩:=e;have cb:g<I.heap.size:=(Ya.1 D).1;have ce:q≠g:=by
      intro e;rw [e,D] at aj;simp at aj
     have cf:(Value.slice X (A) V).ownBlock≠some g:=by
      intro e;obtain ⟨N,h'⟩:=Z5 am g e;rw [D] at h';simp at h'
     have HP:Hid ((Value.slice X (A) V).ownBlock≠some g∧(Value.slice X (A) V).ownBlock≠some q):=⟨cf,bl⟩;have bo:Hid (I.heap[g]?=some (.cells a8 88 (0,0))∧a8.size=wc*2∧wc≤maxLen):=⟨D,cg,bp⟩;have ea:wc≤9223372036854775807:=bp;clear aj bv b6 bw br bs bl cf D cg bp;go_wp2_with (at_builtin;refine wpList_append_own_at _ rfl (.tmp 57) (.tmp 59) 27 rfl 0 41 ck _ 1 24 Tryz.underlying27 cc ch ci cj rfl (by decide) _ _ _ rfl (am.alloc _) ⟨I.heap.size,0,none⟩ 1 1 [.slice (some ⟨g,0,none⟩) wc wc] rfl rfl (ZY _ [.slice (some ⟨g,0,none⟩) wc wc] 41 rfl) (by intro u be;simp at be;subst be;rfl) (by unfold maxLen;omega) (by omega) (Ye _) ?nextW)
     case nextW =>
      intro v' ax av bd _ bc;obtain ⟨U,R,bq,_⟩:=Zf av;subst bq;obtain ⟨al,fd,cd,ab,aw,O⟩:=ZdF (lv6:=.slice U (A+1) R) (i:=2) fg HP.out.2 bd (by simpa using bc);have au:ax.heap[q]?=some (bOw ao a7 (.slice X (A) V) ap):=(al q fg HP.out.2).trans HR.out.1;obtain ⟨J,ac⟩:∃ J,J=ax.setCell ⟨q,2,none⟩ (.slice U (A+1) R):=⟨_,rfl⟩;rw [←ac] at ab aw O;have ca:ax.heap[g]?=some (.cells a8 88 (0,0)):=(al g cb HP.out.1).trans bo.out.1;have fe:∀ j,(Value.slice U (A+1) R).ownBlock=some j→j≠g∧j≠q:=ZjP cb HP.out.1 fd cd;clear cd;have M:Hid (J=ax.setCell ⟨q,2,none⟩ (.slice U (A+1) R)∧J.heap[q]?=some (bOw ao a7 (.slice U (A+1) R) ap)∧J.heap[g]?=some (.cells a8 88 (0,0))∧J.ownsRow 0 41 1 (.slice U (A+1) R) (A+1) (bx++[.slice (some ⟨g,0,none⟩) wc wc])∧I.heap.size≤J.heap.size∧(∀ k,k<I.heap.size→k≠q→(Value.slice X (A) V).ownBlock≠some k→J.heap[k]?=I.heap[k]?)∧(∀ j,(Value.slice U (A+1) R).ownBlock=some j→j≠g)∧SameW I J∧(∀ j,(Value.slice U (A+1) R).ownBlock=some j→(Value.slice X (A) V).ownBlock=some j∨I.heap.size≤j)):=
       ⟨ac,by rw [ac];exact Zm _ _ _ _ _ _ au,(ab g (fun e=>ce e.symm)).trans ca,Zz av (fun j Y=>ab j (fe j Y).2),aw,fun k a9 ak c8=>(ab k ak).trans (al k a9 c8),fun j Y=>(fe j Y).1,O,fd⟩
      have b7:Hid (∀ (wz:World) (N:Array Value),wz.heap[q]?=some (bOw ao a7 (.slice U (A+1) R) ap)→(∀ j,j≠g→wz.heap[j]?=J.heap[j]?)→wz.heap.size=J.heap.size→SameW J wz→wz.heap[g]?=some (.cells N 88 (0,0))→ZbB 2 (mW (((A)+1:Nat):Int)) N wc→OwnAt wz q (Za2 a6 (.slice (some ⟨g,0,none⟩) Q wc) I wz) (bt+1) (L+1) ((A+1)) (bu+1)∧Chg (fun y=>a6 y∨(Value.slice (some ⟨g,0,none⟩) Q wc).ownBlock=some y) I wz):=by
       intro wz N fc b9 de db dc dd;have O:=M.out.2.2.2.2.2.2.2.1.trans db;exact HR.out.2 wz ⟨_,.slice (some ⟨g,0,none⟩) wc wc,fc,Zz M.out.2.2.2.1 (fun j Y=>b9 j (M.out.2.2.2.2.2.2.1 j Y)),.inr ⟨g,wc,N,rfl,bo.out.2.2,dc,dd⟩,rfl,⟨O.1,O.2.1,O.2.2,by rw [de];exact M.out.2.2.2.2.1,fun j a9 ak=>(b9 j (fun e=>ak (.inr (.inl (by rw [e];rfl))))).trans (M.out.2.2.2.2.2.1 j a9 (fun e=>ak (.inl e)) (fun e=>ak (.inr (.inr e))))⟩,M.out.2.2.2.2.2.2.2.2⟩
      obtain ⟨bh,bi,b2,b3,bj⟩:=Zbk au;clear av bd bc al au ca ac ab fd fe aw O am;go_wp2_with fail
      rw [←M.out.1];clear bh bi b2 b3 bj a0 a1 a2 a3 az;go_loopw [7] (fun i wr=>∃ (k:Nat) (N:Array Value),k≤wc∧i=.int .i64 k∧Hid (N.size=wc*2∧ZbB 2 (mW (((A)+1:Nat):Int)) N k∧wr.heap[g]?=some (.cells N 88 (0,0))∧wr.heap.size=J.heap.size∧(∀ j,j≠g→wr.heap[j]?=J.heap[j]?)∧SameW J wr)) (fun i _=>wc - (intOf i).toNat)
      case atStart=>exact ⟨0,a8,Ye _,rfl,bo.out.2.1,Zef _ _ _,M.out.2.2.1,rfl,fun _ _=>rfl,rfl,rfl,rfl⟩
      case round =>
       obtain ⟨k,N,eb,rfl,E⟩:=hrel;have fc:wr.heap[q]?=some (bOw ao a7 (.slice U (A+1) R) ap):=(E.out.2.2.2.2.1 q ce).trans M.out.2.1;by_cases df:k<wc
       ·obtain ⟨bh,bi,b2,b3,bj⟩:=Zbk fc;have dj:=E.out.1;obtain ⟨⟨em,ef⟩,er⟩:=ZdC E.out.2.2.1 (k*2) (by omega);obtain ⟨⟨eo,eg⟩,es⟩:=ZdC E.out.2.2.1 (k*2+1) (by omega);have ec:(k:Int)<(wc:Int):=by omega
        have c7:Hid (((wr.setCell ⟨g,k*2,none⟩ (.int .i64 (((A)+1:Nat):Int))).setCell ⟨g,k*2+1,none⟩ (.string ⟨#[]⟩)).heap[g]?=some (.cells ((N.setIfInBounds (k*2) (.int .i64 (((A)+1:Nat):Int))).setIfInBounds (k*2+1) (.string ⟨#[]⟩)) 88 (0,0))):=
         (Zm _ g (k*2+1) _ _ _ (Zm _ g (k*2) _ _ _ E.out.2.2.1))
        clear dj fc;go_wp2_with fail
        go_roundw
        case rel =>
         refine ⟨k+1,_,by omega,by go_num,?_,Zow E.out.2.1 E.out.1 df,c7.out,?_,?_,?_⟩
         ·simp;exact E.out.1
         ·simp;exact E.out.2.2.2.1
         ·intro j Y;exact (Yf _ _ _ _ Y).trans ((Yf _ _ _ _ Y).trans (E.out.2.2.2.2.1 j Y))
         ·exact E.out.2.2.2.2.2.trans ((Zat _ _ _).trans (Zat _ _ _))
        case measure=>simp [intOf];omega
       ·obtain rfl:k=wc:=by omega
        have ah:=Za (b7.out wr N fc E.out.2.2.2.2.1 E.out.2.2.2.1 E.out.2.2.2.2.2 E.out.2.2.1 E.out.2.1);clear fc E M b7;go_wp2_with fail
        refine bodyPost_end (v:=.tuple #[]) (by simp [results,Tryz.results14,go_sem]) rfl ?_;refine ⟨⟨_,rfl⟩,_,ah.out.1,fun y m=>?_,(ay.out.2.1.mono (fun y d=>?_)).trans ah.out.2 (fun y m=>?_)⟩
        ·rcases m with m | m | m
         ·rcases ay.out.1 y m with d | d | d | d | d
          ·exact .inl d
          ·exact .inr (.inl d)
          ·exact .inr (.inr (.inr (.inr (.inl d))))
          ·exact .inr (.inr (.inl d))
          ·exact .inr (.inr (.inr (.inr (.inr (by omega)))))
         ·exact .inr (.inr (.inr (.inl m)))
         ·have:=ay.out.2.2;exact .inr (.inr (.inr (.inr (.inr (by omega)))))
        ·rcases d with d | d | d | d
         ·exact .inl d
         ·exact .inr (.inl d)
         ·exact .inr (.inr (.inr (.inr d)))
         ·exact .inr (.inr (.inl d))
        ·rcases m with m | m
         ·rcases ay.out.1 y m with d | d | d | d | d
          ·exact .inl (.inl d)
          ·exact .inl (.inr (.inl d))
          ·exact .inl (.inr (.inr (.inr (.inr d))))
          ·exact .inl (.inr (.inr (.inl d)))
          ·exact .inr (by omega)
         ·exact .inl (.inr (.inr (.inr (.inl m))))
 ·simp only [Value.slice.injEq] at e;obtain ⟨rfl,_,rfl⟩:=e;have cb:g<ai.heap.size:=(Ya.1 D).1;have ce:q≠g:=by
   intro e;rw [e,D] at aj;simp at aj
  have cf:(Value.slice X (L) V).ownBlock≠some g:=by
   intro e;obtain ⟨N,h'⟩:=Z5 am g e;rw [D] at h';simp at h'
  have HP:Hid ((Value.slice X (L) V).ownBlock≠some g∧(Value.slice X (L) V).ownBlock≠some q):=⟨cf,bl⟩;have bo:Hid (ai.heap[g]?=some (.cells a8 86 (0,0))∧a8.size=sc*4∧sc≤maxLen):=⟨D,cg,bp⟩;have ea:sc≤9223372036854775807:=bp;clear aj bv cs bw br bs bl cf D cg bp;go_wp2_with (at_builtin;refine wpList_append_own_at _ rfl (.tmp 26) (.tmp 28) 26 rfl 0 40 ck _ 1 24 Tryz.underlying26 cc ch ci cj rfl (by decide) _ _ _ rfl (am.alloc _) ⟨ai.heap.size,0,none⟩ 1 1 [.slice (some ⟨g,0,none⟩) sc sc] rfl rfl (ZY _ [.slice (some ⟨g,0,none⟩) sc sc] 40 rfl) (by intro u be;simp at be;subst be;rfl) (by unfold maxLen;omega) (by omega) (Ye _) ?nextV)
  case nextV =>
   intro v' ax av bd _ bc;obtain ⟨U,R,bq,_⟩:=Zf av;subst bq;obtain ⟨al,fd,cd,ab,aw,O⟩:=ZdF (lv6:=.slice U (L+1) R) (i:=1) fg HP.out.2 bd (by simpa using bc);have au:ax.heap[q]?=some (bOw ao (.slice X (L) V) b0 ap):=(al q fg HP.out.2).trans HR.out.1;obtain ⟨I,ac⟩:∃ I,I=ax.setCell ⟨q,1,none⟩ (.slice U (L+1) R):=⟨_,rfl⟩;rw [←ac] at ab aw O;have ca:ax.heap[g]?=some (.cells a8 86 (0,0)):=(al g cb HP.out.1).trans bo.out.1;have fe:∀ j,(Value.slice U (L+1) R).ownBlock=some j→j≠g∧j≠q:=ZjP cb HP.out.1 fd cd;clear cd;have M:Hid (I=ax.setCell ⟨q,1,none⟩ (.slice U (L+1) R)∧I.heap[q]?=some (bOw ao (.slice U (L+1) R) b0 ap)∧I.heap[g]?=some (.cells a8 86 (0,0))∧I.ownsRow 0 40 1 (.slice U (L+1) R) (L+1) (bx++[.slice (some ⟨g,0,none⟩) sc sc])∧ai.heap.size≤I.heap.size∧(∀ k,k<ai.heap.size→k≠q→(Value.slice X (L) V).ownBlock≠some k→I.heap[k]?=ai.heap[k]?)∧(∀ j,(Value.slice U (L+1) R).ownBlock=some j→j≠g)∧SameW ai I∧(∀ j,(Value.slice U (L+1) R).ownBlock=some j→(Value.slice X (L) V).ownBlock=some j∨ai.heap.size≤j)):=
    ⟨ac,by rw [ac];exact Zm _ _ _ _ _ _ au,(ab g (fun e=>ce e.symm)).trans ca,Zz av (fun j Y=>ab j (fe j Y).2),aw,fun k a9 ak c8=>(ab k ak).trans (al k a9 c8),fun j Y=>(fe j Y).1,O,fd⟩
   have b7:Hid (∀ (wz:World) (N:Array Value),wz.heap[q]?=some (bOw ao (.slice U (L+1) R) b0 ap)→(∀ j,j≠g→wz.heap[j]?=I.heap[j]?)→wz.heap.size=I.heap.size→SameW I wz→wz.heap[g]?=some (.cells N 86 (0,0))→ZbB 4 (mV (((L)+1:Nat):Int)) N sc→OwnAt wz q (Za2 bz (.slice (some ⟨g,0,none⟩) aa sc) ai wz) (bt+1) ((L+1)) (A) (bu+1)∧Chg (fun y=>bz y∨(Value.slice (some ⟨g,0,none⟩) aa sc).ownBlock=some y) ai wz):=by
    intro wz N fc b9 de db dc dd;have O:=M.out.2.2.2.2.2.2.2.1.trans db;exact HR.out.2 wz ⟨_,.slice (some ⟨g,0,none⟩) sc sc,fc,Zz M.out.2.2.2.1 (fun j Y=>b9 j (M.out.2.2.2.2.2.2.1 j Y)),.inr ⟨g,sc,N,rfl,bo.out.2.2,dc,dd⟩,rfl,⟨O.1,O.2.1,O.2.2,by rw [de];exact M.out.2.2.2.2.1,fun j a9 ak=>(b9 j (fun e=>ak (.inr (.inl (by rw [e];rfl))))).trans (M.out.2.2.2.2.2.1 j a9 (fun e=>ak (.inl e)) (fun e=>ak (.inr (.inr e))))⟩,M.out.2.2.2.2.2.2.2.2⟩
   obtain ⟨bh,bi,b2,b3,bj⟩:=Zbk au;clear av bd bc al au ca ac ab fd fe aw O am;go_wp2_with fail
   rw [←M.out.1];clear bh bi b2 b3 bj a0 a1 a2 a3 az;go_loopw [5] (fun i wr=>∃ (k:Nat) (N:Array Value),k≤sc∧i=.int .i64 k∧Hid (N.size=sc*4∧ZbB 4 (mV (((L)+1:Nat):Int)) N k∧wr.heap[g]?=some (.cells N 86 (0,0))∧wr.heap.size=I.heap.size∧(∀ j,j≠g→wr.heap[j]?=I.heap[j]?)∧SameW I wr)) (fun i _=>sc - (intOf i).toNat)
   case atStart=>exact ⟨0,a8,Ye _,rfl,bo.out.2.1,Zef _ _ _,M.out.2.2.1,rfl,fun _ _=>rfl,rfl,rfl,rfl⟩
   case round =>
    obtain ⟨k,N,eb,rfl,E⟩:=hrel;have fc:wr.heap[q]?=some (bOw ao (.slice U (L+1) R) b0 ap):=(E.out.2.2.2.2.1 q ce).trans M.out.2.1;by_cases df:k<sc
    ·obtain ⟨bh,bi,b2,b3,bj⟩:=Zbk fc;have dj:=E.out.1;obtain ⟨⟨em,ef⟩,er⟩:=ZdC E.out.2.2.1 (k*4) (by omega);obtain ⟨⟨eo,eg⟩,es⟩:=ZdC E.out.2.2.1 (k*4+1) (by omega);obtain ⟨⟨e6,e0⟩,fa⟩:=ZdC E.out.2.2.1 (k*4+2) (by omega);obtain ⟨⟨e7,e1⟩,fb⟩:=ZdC E.out.2.2.1 (k*4+3) (by omega);have ec:(k:Int)<(sc:Int):=by omega
     have c7:Hid (((((wr.setCell ⟨g,k*4,none⟩ (.int .i64 0)).setCell ⟨g,k*4+1,none⟩ (.string ⟨#[]⟩)).setCell ⟨g,k*4+2,none⟩ (.int .i64 (((L)+1:Nat):Int))).setCell ⟨g,k*4+3,none⟩ (.int .i64 0)).heap[g]?=some (.cells ((((N.setIfInBounds (k*4) (.int .i64 0)).setIfInBounds (k*4+1) (.string ⟨#[]⟩)).setIfInBounds (k*4+2) (.int .i64 (((L)+1:Nat):Int))).setIfInBounds (k*4+3) (.int .i64 0)) 86 (0,0))):=
      (Zm _ g (k*4+3) _ _ _ (Zm _ g (k*4+2) _ _ _ (Zm _ g (k*4+1) _ _ _ (Zm _ g (k*4) _ _ _ E.out.2.2.1))))
     clear dj fc;go_wp2_with fail
     go_roundw
     case rel =>
      refine ⟨k+1,_,by omega,by go_num,?_,Zo6 E.out.2.1 E.out.1 df,c7.out,?_,?_,?_⟩
      ·simp;exact E.out.1
      ·simp;exact E.out.2.2.2.1
      ·intro j Y;exact (Yf _ _ _ _ Y).trans ((Yf _ _ _ _ Y).trans ((Yf _ _ _ _ Y).trans ((Yf _ _ _ _ Y).trans (E.out.2.2.2.2.1 j Y))))
      ·exact E.out.2.2.2.2.2.trans ((((Zat _ _ _).trans (Zat _ _ _)).trans (Zat _ _ _)).trans (Zat _ _ _))
     case measure=>simp [intOf];omega
    ·obtain rfl:k=sc:=by omega
     have ah:=Za (b7.out wr N fc E.out.2.2.2.2.1 E.out.2.2.2.1 E.out.2.2.2.2.2 E.out.2.2.1 E.out.2.1);clear fc E M b7;obtain ⟨a6,b1⟩:∃ a6,Za2 bz (Value.slice (some ⟨g,0,none⟩) aa k) ai wr=a6:=⟨_,rfl⟩;rw [b1] at ah;have ay:Hid ((∀ y,a6 y→F y∨(Value.slice ag ad af).ownBlock=some y∨(Value.slice ar ae aq).ownBlock=some y∨(Value.slice (some ⟨g,0,none⟩) aa k).ownBlock=some y∨w.heap.size<y)∧Chg (fun y=>F y∨(Value.slice ag ad af).ownBlock=some y∨(Value.slice ar ae aq).ownBlock=some y∨(Value.slice (some ⟨g,0,none⟩) aa k).ownBlock=some y) w wr∧w.heap.size<wr.heap.size):=by
      refine ⟨fun y m=>?_,(bf.out.2.1.mono (fun y d=>?_)).trans ah.out.2 (fun y m=>?_),Yl bf.out.2.2 ah.out.2.size⟩
      ·rw [←b1] at m;rcases m with m | m | m
       ·rcases bf.out.1 y m with d | d | d | d
        ·exact .inl d
        ·exact .inr (.inl d)
        ·exact .inr (.inr (.inl d))
        ·exact .inr (.inr (.inr (.inr d)))
       ·exact .inr (.inr (.inr (.inl m)))
       ·have:=bf.out.2.2;exact .inr (.inr (.inr (.inr (by omega))))
      ·rcases d with d | d | d
       ·exact .inl d
       ·exact .inr (.inl d)
       ·exact .inr (.inr (.inl d))
      ·rcases m with m | m
       ·rcases bf.out.1 y m with d | d | d | d
        ·exact .inl (.inl d)
        ·exact .inl (.inr (.inl d))
        ·exact .inl (.inr (.inr (.inl d)))
        ·exact .inr (by omega)
       ·exact .inl (.inr (.inr (.inr m)))
     have c9:wr.heap[w.heap.size]?=some (.cells #[.int .i64 b,.slice ag ad af,.slice (some ⟨g,0,none⟩) aa k,.slice wo Q wc,.slice ar ae aq,.bool bg,.bool bk] 44):=
      (ah.out.2.block _ bf.out.2.2 (fun h=>by
       rcases h with h | h
       ·rcases bf.out.1 _ h with h | h | h | h
        ·exact absurd (HD.out.1 _ h) (by omega)
        ·exact absurd (HD.out.2.1 _ h) (by omega)
        ·exact absurd (HD.out.2.2.2.2 _ h).1 (by omega)
        ·omega
       ·exact absurd (HD.out.2.2.1 _ h).1 (by omega))).trans d0.out
     have cl:Hid (wr.ownsRow 0 88 2 (.slice wo Q wc) Q cz∧∀ g,(Value.slice wo Q wc).ownBlock=some g→¬a6 g):=by
      have dh:∀ g,(Value.slice wo Q wc).ownBlock=some g→¬a6 g:=fun g D h=>by
       have:=HD.out.2.2.2.1 g D;rcases ay.out.1 g h with h | h | h | h | h
       ·exact this.2.1 h
       ·exact this.2.2.1 h
       ·exact (HD.out.2.2.2.2 g h).2.2.2.2 D
       ·exact this.2.2.2 h
       ·omega
      refine ⟨Zb1 ds.out.2 ah.out.2 (fun g D h=>?_),dh⟩;rcases h with h | h
      ·exact dh g D (by rw [←b1];exact .inl h)
      ·exact (HD.out.2.2.2.1 g D).2.2.2 h
     have c6:=Za ah.out.1;clear HO ah b1 HR HP cw cx s2 s3 cy s5 s6;have HO:=c6;clear c6;obtain ⟨cw,cx,s2,s3,cy,s5,s6⟩:=Zeq (Yh _ wr) ay.out.2.2 c9;clear c9;obtain ⟨ao,a7,b0,ap,aj,bv,b6,cs,bw⟩:=HO.out.ex;obtain ⟨bx,am,br,bs⟩:=cs;obtain ⟨X,V,rfl,_⟩:=Zf am;have fg:q<wr.heap.size:=HO.out.lt q HO.out.go;have HR:Hid (wr.heap[q]?=some (bOw ao a7 (.slice X (A) V) ap)∧∀ w',ZiY wr w' q ao a7 (.slice X (A) V) ap (.slice wo Q wc) (A) bx→OwnAt w' q (Za2 a6 (.slice wo Q wc) wr w') (bt+1) (L+1) ((A+1)) (bu+1)∧Chg (fun y=>a6 y∨(Value.slice wo Q wc).ownBlock=some y) wr w'):=
      ⟨aj,fun w' dk=>Zq0 HO.out.lt HO.out.go aj bv b6 bw am br bs (fun y m=>⟨cl.out.2 y m,(cl.out.1.lt y m).2⟩) dk⟩
     have bl:(Value.slice X (A) V).ownBlock≠some q:=by
      intro e;obtain ⟨N,h'⟩:=Z5 am q e;rw [aj] at h';simp at h'
     obtain ⟨a0,a1,a2,a3,az⟩:=Zbk aj;obtain ⟨ck,cc,ch,ci,cj⟩:=info_parts ZmQ;rcases cl.out.1.2 with ⟨e,e2⟩ | ⟨g,d6,a8,e,_,D,ed,bp,cg,_⟩
     ·simp only [Value.slice.injEq] at e;obtain ⟨rfl,rfl,rfl⟩:=e;have HP:Hid (True∧(Value.slice X (A) V).ownBlock≠some q):=⟨trivial,bl⟩;clear aj bv b6 bw br bs bl;go_wp2_with (at_builtin;refine wpList_append_own_at _ rfl (.tmp 57) (.tmp 59) 27 rfl 0 41 ck _ 1 24 Tryz.underlying27 cc ch ci cj rfl (by decide) _ _ _ rfl (am.alloc _) ⟨wr.heap.size,0,none⟩ 1 1 [.slice none 0 0] rfl rfl (ZY _ [.slice none 0 0] 41 rfl) (by intro u be;simp at be;subst be;rfl) (by unfold maxLen;omega) (by omega) (Ye _) ?nextW)
      case nextW =>
       intro v' ax av bd _ bc;obtain ⟨U,R,bq,_⟩:=Zf av;subst bq;obtain ⟨al,fd,fe,ab,aw,O⟩:=ZdF (lv6:=.slice U (A+1) R) (i:=2) fg HP.out.2 bd (by simpa using bc);have au:ax.heap[q]?=some (bOw ao a7 (.slice X (A) V) ap):=(al q fg HP.out.2).trans HR.out.1;obtain ⟨J,ac⟩:∃ J,J=ax.setCell ⟨q,2,none⟩ (.slice U (A+1) R):=⟨_,rfl⟩;rw [←ac] at ab aw O;have hT:ZiY wr J q ao a7 (.slice X (A) V) ap (.slice none 0 0) (A) bx:=
        ⟨_,.slice none 0 0,by rw [ac];exact Zm _ _ _ _ _ _ au,Zz av (fun j Y=>ab j (fe j Y)),.inl rfl,rfl,⟨O.1,O.2.1,O.2.2,aw,fun k a9 ak=>(ab k (fun e=>ak (.inl e))).trans (al k a9 (fun e=>ak (.inr (.inr e))))⟩,fd⟩
       have ah:=Za (HR.out.2 J hT);have M:=Za ac;obtain ⟨bh,bi,b2,b3,bj⟩:=Zbk au;clear av bd bc al au ac ab fd fe aw O am hT;go_wp2_with fail
       rw [←M.out];clear bh bi b2 b3 bj a0 a1 a2 a3 az M;go_loopw [7] (fun i wr=>i=.int .i64 0∧J=wr) (fun _ _=>0)
       case atStart=>exact ⟨rfl,rfl⟩
       case round =>
        obtain ⟨rfl,rfl⟩:=hrel;go_wp2_with fail
        refine bodyPost_end (v:=.tuple #[]) (by simp [results,Tryz.results14,go_sem]) rfl ?_;refine ⟨⟨_,rfl⟩,_,ah.out.1,fun y m=>?_,(ay.out.2.1.mono (fun y d=>?_)).trans ah.out.2 (fun y m=>?_)⟩
        ·rcases m with m | m | m
         ·rcases ay.out.1 y m with d | d | d | d | d
          ·exact .inl d
          ·exact .inr (.inl d)
          ·exact .inr (.inr (.inr (.inr (.inl d))))
          ·exact .inr (.inr (.inl d))
          ·exact .inr (.inr (.inr (.inr (.inr (by omega)))))
         ·exact .inr (.inr (.inr (.inl m)))
         ·have:=ay.out.2.2;exact .inr (.inr (.inr (.inr (.inr (by omega)))))
        ·rcases d with d | d | d | d
         ·exact .inl d
         ·exact .inr (.inl d)
         ·exact .inr (.inr (.inr (.inr d)))
         ·exact .inr (.inr (.inl d))
        ·rcases m with m | m
         ·rcases ay.out.1 y m with d | d | d | d | d
          ·exact .inl (.inl d)
          ·exact .inl (.inr (.inl d))
          ·exact .inl (.inr (.inr (.inr (.inr d))))
          ·exact .inl (.inr (.inr (.inl d)))
          ·exact .inr (by omega)
         ·exact .inl (.inr (.inr (.inr (.inl m))))
     ·simp only [Value.slice.injEq] at e;obtain ⟨rfl,_,rfl⟩:=e;have cb:g<wr.heap.size:=(Ya.1 D).1;have ce:q≠g:=by
       intro e;rw [e,D] at aj;simp at aj
      have cf:(Value.slice X (A) V).ownBlock≠some g:=by
       intro e;obtain ⟨N,h'⟩:=Z5 am g e;rw [D] at h';simp at h'
      have HP:Hid ((Value.slice X (A) V).ownBlock≠some g∧(Value.slice X (A) V).ownBlock≠some q):=⟨cf,bl⟩;have bo:Hid (wr.heap[g]?=some (.cells a8 88 (0,0))∧a8.size=wc*2∧wc≤maxLen):=⟨D,cg,bp⟩;have ea:wc≤9223372036854775807:=bp;clear aj bv b6 bw br bs bl cf D cg bp;go_wp2_with (at_builtin;refine wpList_append_own_at _ rfl (.tmp 57) (.tmp 59) 27 rfl 0 41 ck _ 1 24 Tryz.underlying27 cc ch ci cj rfl (by decide) _ _ _ rfl (am.alloc _) ⟨wr.heap.size,0,none⟩ 1 1 [.slice (some ⟨g,0,none⟩) wc wc] rfl rfl (ZY _ [.slice (some ⟨g,0,none⟩) wc wc] 41 rfl) (by intro u be;simp at be;subst be;rfl) (by unfold maxLen;omega) (by omega) (Ye _) ?nextW)
      case nextW =>
       intro v' ax av bd _ bc;obtain ⟨U,R,bq,_⟩:=Zf av;subst bq;obtain ⟨al,fd,cd,ab,aw,O⟩:=ZdF (lv6:=.slice U (A+1) R) (i:=2) fg HP.out.2 bd (by simpa using bc);have au:ax.heap[q]?=some (bOw ao a7 (.slice X (A) V) ap):=(al q fg HP.out.2).trans HR.out.1;obtain ⟨J,ac⟩:∃ J,J=ax.setCell ⟨q,2,none⟩ (.slice U (A+1) R):=⟨_,rfl⟩;rw [←ac] at ab aw O;have ca:ax.heap[g]?=some (.cells a8 88 (0,0)):=(al g cb HP.out.1).trans bo.out.1;have fe:∀ j,(Value.slice U (A+1) R).ownBlock=some j→j≠g∧j≠q:=ZjP cb HP.out.1 fd cd;clear cd;have M:Hid (J=ax.setCell ⟨q,2,none⟩ (.slice U (A+1) R)∧J.heap[q]?=some (bOw ao a7 (.slice U (A+1) R) ap)∧J.heap[g]?=some (.cells a8 88 (0,0))∧J.ownsRow 0 41 1 (.slice U (A+1) R) (A+1) (bx++[.slice (some ⟨g,0,none⟩) wc wc])∧wr.heap.size≤J.heap.size∧(∀ k,k<wr.heap.size→k≠q→(Value.slice X (A) V).ownBlock≠some k→J.heap[k]?=wr.heap[k]?)∧(∀ j,(Value.slice U (A+1) R).ownBlock=some j→j≠g)∧SameW wr J∧(∀ j,(Value.slice U (A+1) R).ownBlock=some j→(Value.slice X (A) V).ownBlock=some j∨wr.heap.size≤j)):=
        ⟨ac,by rw [ac];exact Zm _ _ _ _ _ _ au,(ab g (fun e=>ce e.symm)).trans ca,Zz av (fun j Y=>ab j (fe j Y).2),aw,fun k a9 ak c8=>(ab k ak).trans (al k a9 c8),fun j Y=>(fe j Y).1,O,fd⟩
       have b7:Hid (∀ (wz:World) (N:Array Value),wz.heap[q]?=some (bOw ao a7 (.slice U (A+1) R) ap)→(∀ j,j≠g→wz.heap[j]?=J.heap[j]?)→wz.heap.size=J.heap.size→SameW J wz→wz.heap[g]?=some (.cells N 88 (0,0))→ZbB 2 (mW (((A)+1:Nat):Int)) N wc→OwnAt wz q (Za2 a6 (.slice (some ⟨g,0,none⟩) Q wc) wr wz) (bt+1) (L+1) ((A+1)) (bu+1)∧Chg (fun y=>a6 y∨(Value.slice (some ⟨g,0,none⟩) Q wc).ownBlock=some y) wr wz):=by
        intro wz N fc b9 de db dc dd;have O:=M.out.2.2.2.2.2.2.2.1.trans db;exact HR.out.2 wz ⟨_,.slice (some ⟨g,0,none⟩) wc wc,fc,Zz M.out.2.2.2.1 (fun j Y=>b9 j (M.out.2.2.2.2.2.2.1 j Y)),.inr ⟨g,wc,N,rfl,bo.out.2.2,dc,dd⟩,rfl,⟨O.1,O.2.1,O.2.2,by rw [de];exact M.out.2.2.2.2.1,fun j a9 ak=>(b9 j (fun e=>ak (.inr (.inl (by rw [e];rfl))))).trans (M.out.2.2.2.2.2.1 j a9 (fun e=>ak (.inl e)) (fun e=>ak (.inr (.inr e))))⟩,M.out.2.2.2.2.2.2.2.2⟩
       obtain ⟨bh,bi,b2,b3,bj⟩:=Zbk au;clear av bd bc al au ca ac ab fd fe aw O am;go_wp2_with fail
       rw [←M.out.1];clear bh bi b2 b3 bj a0 a1 a2 a3 az;go_loopw [7] (fun i wr=>∃ (k:Nat) (N:Array Value),k≤wc∧i=.int .i64 k∧Hid (N.size=wc*2∧ZbB 2 (mW (((A)+1:Nat):Int)) N k∧wr.heap[g]?=some (.cells N 88 (0,0))∧wr.heap.size=J.heap.size∧(∀ j,j≠g→wr.heap[j]?=J.heap[j]?)∧SameW J wr)) (fun i _=>wc - (intOf i).toNat)
       case atStart=>exact ⟨0,a8,Ye _,rfl,bo.out.2.1,Zef _ _ _,M.out.2.2.1,rfl,fun _ _=>rfl,rfl,rfl,rfl⟩
       case round =>
        obtain ⟨k,N,eb,rfl,E⟩:=hrel;have fc:wr.heap[q]?=some (bOw ao a7 (.slice U (A+1) R) ap):=(E.out.2.2.2.2.1 q ce).trans M.out.2.1;by_cases df:k<wc
        ·obtain ⟨bh,bi,b2,b3,bj⟩:=Zbk fc;have dj:=E.out.1;obtain ⟨⟨em,ef⟩,er⟩:=ZdC E.out.2.2.1 (k*2) (by omega);obtain ⟨⟨eo,eg⟩,es⟩:=ZdC E.out.2.2.1 (k*2+1) (by omega);have ec:(k:Int)<(wc:Int):=by omega
         have c7:Hid (((wr.setCell ⟨g,k*2,none⟩ (.int .i64 (((A)+1:Nat):Int))).setCell ⟨g,k*2+1,none⟩ (.string ⟨#[]⟩)).heap[g]?=some (.cells ((N.setIfInBounds (k*2) (.int .i64 (((A)+1:Nat):Int))).setIfInBounds (k*2+1) (.string ⟨#[]⟩)) 88 (0,0))):=
          (Zm _ g (k*2+1) _ _ _ (Zm _ g (k*2) _ _ _ E.out.2.2.1))
         clear dj fc;go_wp2_with fail
         go_roundw
         case rel =>
          refine ⟨k+1,_,by omega,by go_num,?_,Zow E.out.2.1 E.out.1 df,c7.out,?_,?_,?_⟩
          ·simp;exact E.out.1
          ·simp;exact E.out.2.2.2.1
          ·intro j Y;exact (Yf _ _ _ _ Y).trans ((Yf _ _ _ _ Y).trans (E.out.2.2.2.2.1 j Y))
          ·exact E.out.2.2.2.2.2.trans ((Zat _ _ _).trans (Zat _ _ _))
         case measure=>simp [intOf];omega
        ·obtain rfl:k=wc:=by omega
         have ah:=Za (b7.out wr N fc E.out.2.2.2.2.1 E.out.2.2.2.1 E.out.2.2.2.2.2 E.out.2.2.1 E.out.2.1);clear fc E M b7;go_wp2_with fail
         refine bodyPost_end (v:=.tuple #[]) (by simp [results,Tryz.results14,go_sem]) rfl ?_;refine ⟨⟨_,rfl⟩,_,ah.out.1,fun y m=>?_,(ay.out.2.1.mono (fun y d=>?_)).trans ah.out.2 (fun y m=>?_)⟩
         ·rcases m with m | m | m
          ·rcases ay.out.1 y m with d | d | d | d | d
           ·exact .inl d
           ·exact .inr (.inl d)
           ·exact .inr (.inr (.inr (.inr (.inl d))))
           ·exact .inr (.inr (.inl d))
           ·exact .inr (.inr (.inr (.inr (.inr (by omega)))))
          ·exact .inr (.inr (.inr (.inl m)))
          ·have:=ay.out.2.2;exact .inr (.inr (.inr (.inr (.inr (by omega)))))
         ·rcases d with d | d | d | d
          ·exact .inl d
          ·exact .inr (.inl d)
          ·exact .inr (.inr (.inr (.inr d)))
          ·exact .inr (.inr (.inl d))
         ·rcases m with m | m
          ·rcases ay.out.1 y m with d | d | d | d | d
           ·exact .inl (.inl d)
           ·exact .inl (.inr (.inl d))
           ·exact .inl (.inr (.inr (.inr (.inr d))))
           ·exact .inl (.inr (.inr (.inl d)))
           ·exact .inr (by omega)
          ·exact .inl (.inr (.inr (.inr (.inl m))))
end Lw
end Go.Proofs.YtmgkcbdlfodjmaaGreatDoor
