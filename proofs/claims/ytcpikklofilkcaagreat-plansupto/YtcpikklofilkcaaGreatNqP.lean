import Derived.Test.YtcpikklofilkcaaGreatNqH
set_option maxRecDepth 100000
set_option maxHeartbeats 16000000
namespace Go.Proofs.YtcpikklofilkcaaGreat
open Go.RowKit
namespace Lw
open Co
theorem ZT {w w':World} {G:Nat→Prop} {ty:TypeId} {sz:Nat} {v:Value} {n:Nat} {xs:List Value} (h:w.ownsRow 0 ty sz v n xs) (hc:Chg G w w') (hd:∀ g,v.ownBlock=some g→¬G g):w'.ownsRow 0 ty sz v n xs:=
 Zj h (fun j hj=>hc.block j (h.lt j hj).2 (hd j hj))
theorem Zam {w:World} {B B':Nat} {ty ty':TypeId} {sz sz':Nat} {v v':Value} {n n':Nat} {xs xs':List Value} (h:w.ownsRow B ty sz v n xs) (h':w.ownsRow B' ty' sz' v' n' xs') (hne:ty≠ty'):∀ g,v.ownBlock=some g→v'.ownBlock≠some g:=by
 intro g hg hg';obtain ⟨c,e⟩:=Zq h g hg;obtain ⟨c',e'⟩:=Zq h' g hg';rw [e] at e';simp at e';exact hne e'.2
theorem Zhe (go:Nat) (F:Nat→Prop) (q1 q2 q3 q4:Nat) (b:Int) (po0:Option Addr) (n1 pc0:Nat) (so:Option Addr) (n2 sc:Nat) (wo:Option Addr) (n3 wc:Nat) (tqo:Option Addr) (n4 tc:Nat) (bg bk:Bool) (xs1 xs2 xs3 xs4:List Value) (w:World) (h:OwnAt w go F q1 q2 q3 q4) (hq:q1≤1099511627776∧q2≤1099511627776∧q3≤1099511627776∧q4≤1099511627776)
  (hl1:w.ownsRow 0 70 4 (.slice po0 n1 pc0) n1 xs1∧∀ g,(Value.slice po0 n1 pc0).ownBlock=some g→¬F g) (hl2:w.ownsRow 0 74 4 (.slice so n2 sc) n2 xs2∧∀ g,(Value.slice so n2 sc).ownBlock=some g→¬F g)
  (hl3:w.ownsRow 0 76 2 (.slice wo n3 wc) n3 xs3∧∀ g,(Value.slice wo n3 wc).ownBlock=some g→¬F g) (hl4:w.ownsRow 0 72 3 (.slice tqo n4 tc) n4 xs4∧∀ g,(Value.slice tqo n4 tc).ownBlock=some g→¬F g) :
  Calls Tryz.prog 13 #[.pointer (some ⟨go,0,none⟩),.agg #[.int .i64 b,.slice po0 n1 pc0,.slice so n2 sc,.slice wo n3 wc,.slice tqo n4 tc,.bool bg,.bool bk]] w fun e w'=>(∃ x,e=.returned x)∧∃ F',OwnAt w' go F' (q1+1) (q2+1) (q3+1) (q4+1)∧(∀ y,F' y→F y∨(Value.slice po0 n1 pc0).ownBlock=some y∨(Value.slice so n2 sc).ownBlock=some y∨(Value.slice wo n3 wc).ownBlock=some y∨(Value.slice tqo n4 tc).ownBlock=some y∨w.heap.size≤y)∧Chg (fun y=>F y∨(Value.slice po0 n1 pc0).ownBlock=some y∨(Value.slice so n2 sc).ownBlock=some y∨(Value.slice wo n3 wc).ownBlock=some y∨(Value.slice tqo n4 tc).ownBlock=some y) w w':=by
 obtain ⟨hq1,hq2,hq3,hq4⟩:=hq;obtain ⟨W0,hW0⟩:∃ W0,W0=w.alloc (.cells #[.int .i64 b,.slice po0 n1 pc0,.slice so n2 sc,.slice wo n3 wc,.slice tqo n4 tc,.bool bg,.bool bk] 36):=⟨_,rfl⟩;have hb0:Below w.heap.size w W0:=by rw [hW0];exact Zb _ _
 have hc0:Chg (fun _=>False) w W0:=Chg.of_below hb0;have hz0':w.heap.size<W0.heap.size:=by rw [hW0];simp
 have hbox:W0.heap[w.heap.size]?=some (.cells #[.int .i64 b,.slice po0 n1 pc0,.slice so n2 sc,.slice wo n3 wc,.slice tqo n4 tc,.bool bg,.bool bk] 36):=by rw [hW0];exact Zc _ _ rfl
 have hFlt:=h.lt;have hown0:=h.keep hc0 (fun _ _ h=>h);have l1:=ZT hl1.1 hc0 (fun _ _ h=>h);have l2:=ZT hl2.1 hc0 (fun _ _ h=>h);have l3:=ZT hl3.1 hc0 (fun _ _ h=>h);have l4:=ZT hl4.1 hc0 (fun _ _ h=>h);have d2:∀ g,(Value.slice so n2 sc).ownBlock=some g→g<w.heap.size:=fun g hg=>(hl2.1.lt g hg).2
 have d3:∀ g,(Value.slice wo n3 wc).ownBlock=some g→g<w.heap.size:=fun g hg=>(hl3.1.lt g hg).2
 have d4:∀ g,(Value.slice tqo n4 tc).ownBlock=some g→g<w.heap.size:=fun g hg=>(hl4.1.lt g hg).2
 have d1:∀ g,(Value.slice po0 n1 pc0).ownBlock=some g→g<w.heap.size:=fun g hg=>(hl1.1.lt g hg).2
 have HC1:=hideIt (Zjw go F q1 q2 q3 q4 b po0 n1 pc0 xs1 W0 hown0 hq1 l1 hl1.2);rw [hW0] at HC1;have H0:Hid (W0=w.alloc (.cells #[.int .i64 b,.slice po0 n1 pc0,.slice so n2 sc,.slice wo n3 wc,.slice tqo n4 tc,.bool bg,.bool bk] 36)∧Chg (fun _=>False) w W0∧w.heap.size<W0.heap.size∧W0.heap[w.heap.size]?=some (.cells #[.int .i64 b,.slice po0 n1 pc0,.slice so n2 sc,.slice wo n3 wc,.slice tqo n4 tc,.bool bg,.bool bk] 36)):=⟨hW0,hc0,hz0',hbox⟩;have HD:Hid ((∀ x,F x→x<w.heap.size)∧(∀ g,(Value.slice po0 n1 pc0).ownBlock=some g→g<w.heap.size)∧(∀ g,(Value.slice so n2 sc).ownBlock=some g→g<w.heap.size∧¬F g∧(Value.slice po0 n1 pc0).ownBlock≠some g)∧(∀ g,(Value.slice wo n3 wc).ownBlock=some g→g<w.heap.size∧¬F g∧(Value.slice po0 n1 pc0).ownBlock≠some g∧(Value.slice so n2 sc).ownBlock≠some g)∧(∀ g,(Value.slice tqo n4 tc).ownBlock=some g→g<w.heap.size∧¬F g∧(Value.slice po0 n1 pc0).ownBlock≠some g∧(Value.slice so n2 sc).ownBlock≠some g∧(Value.slice wo n3 wc).ownBlock≠some g)):=by
  refine ⟨hFlt,d1,fun g hg=>⟨d2 g hg,hl2.2 g hg,Zam hl2.1 hl1.1 (by decide) g hg⟩,fun g hg=>⟨d3 g hg,hl3.2 g hg,Zam hl3.1 hl1.1 (by decide) g hg,Zam hl3.1 hl2.1 (by decide) g hg⟩,fun g hg=>⟨d4 g hg,hl4.2 g hg,Zam hl4.1 hl1.1 (by decide) g hg,Zam hl4.1 hl2.1 (by decide) g hg,Zam hl4.1 hl3.1 (by decide) g hg⟩⟩
 have HLL:Hid (W0.ownsRow 0 74 4 (.slice so n2 sc) n2 xs2∧W0.ownsRow 0 76 2 (.slice wo n3 wc) n3 xs3∧W0.ownsRow 0 72 3 (.slice tqo n4 tc) n4 xs4):=⟨l2,l3,l4⟩;clear h hl1 hl2 hl3 hl4 hb0 hc0 hz0' hbox hFlt hown0 l1 l2 l3 l4 d1 d2 d3 d4 hW0;go_enter Tryz.func13,Tryz.ntmps13
 go_wp2_with fail
 refine HC1.out.mono ?_;rintro e w1 ⟨⟨x1,rfl⟩,ho1,hc1⟩;rw [←H0.out.1] at ho1 hc1;have hbx1:w1.heap[w.heap.size]?=some (.cells #[.int .i64 b,.slice po0 n1 pc0,.slice so n2 sc,.slice wo n3 wc,.slice tqo n4 tc,.bool bg,.bool bk] 36):=
  (hc1.block _ H0.out.2.2.1 (fun hh=>hh.elim (fun hh=>absurd (HD.out.1 _ hh) (by omega)) (fun hh=>absurd (HD.out.2.1 _ hh) (by omega)))).trans H0.out.2.2.2
 have HL1:Hid (w1.ownsRow 0 74 4 (.slice so n2 sc) n2 xs2∧w1.ownsRow 0 76 2 (.slice wo n3 wc) n3 xs3∧w1.ownsRow 0 72 3 (.slice tqo n4 tc) n4 xs4):=by
  refine ⟨ZT HLL.out.1 hc1 (fun g hg hh=>?_),ZT HLL.out.2.1 hc1 (fun g hg hh=>?_),ZT HLL.out.2.2 hc1 (fun g hg hh=>?_)⟩
  ·have:=HD.out.2.2.1 g hg;exact hh.elim this.2.1 this.2.2
  ·have:=HD.out.2.2.2.1 g hg;exact hh.elim this.2.1 this.2.2.1
  ·have:=HD.out.2.2.2.2 g hg;exact hh.elim this.2.1 this.2.2.1
 obtain ⟨F1,hF1⟩:∃ F1,Plus F (.slice po0 n1 pc0) W0 w1=F1:=⟨_,rfl⟩;have HF1:Hid ((∀ y,F1 y→F y∨(Value.slice po0 n1 pc0).ownBlock=some y∨w.heap.size<y)∧Chg (fun y=>F y∨(Value.slice po0 n1 pc0).ownBlock=some y) w w1∧w.heap.size<w1.heap.size):=by
  refine ⟨fun y hy=>?_,H0.out.2.1.mono (fun _ h=>h.elim) |>.trans hc1 (fun y hy=>.inl hy),Nat.lt_of_lt_of_le H0.out.2.2.1 hc1.size⟩;rw [←hF1] at hy;rcases hy with hy | hy | hy
  ·exact .inl hy
  ·exact .inr (.inl hy)
  ·have:=H0.out.2.2.1;exact .inr (.inr (by omega))
 rw [hF1] at ho1;have HO1:=hideIt ho1;have HB1:=hideIt hbx1;obtain ⟨s0,s1,s2,s3,s4,s5,s6⟩:=blk7 (Below.refl _ w1) HF1.out.2.2 hbx1;have HC2:=hideIt (ZiD go F1 (q1+1) q2 q3 q4 tqo n4 tc xs4 w1 ho1 hq4 HL1.out.2.2 (fun g hg hh=>by
  have:=HD.out.2.2.2.2 g hg;rcases HF1.out.1 g hh with hh | hh | hh
  ·exact this.2.1 hh
  ·exact this.2.2.1 hh
  ·omega))
 clear hc1 hbx1 hF1 ho1 HC1 HLL;go_wp2_with fail
 refine HC2.out.mono ?_;rintro e w2 ⟨⟨x2,rfl⟩,ho2,hc2⟩;have hbx2:w2.heap[w.heap.size]?=some (.cells #[.int .i64 b,.slice po0 n1 pc0,.slice so n2 sc,.slice wo n3 wc,.slice tqo n4 tc,.bool bg,.bool bk] 36):=
  (hc2.block _ HF1.out.2.2 (fun hh=>by
   rcases hh with hh | hh
   ·rcases HF1.out.1 _ hh with hh | hh | hh
    ·exact absurd (HD.out.1 _ hh) (by omega)
    ·exact absurd (HD.out.2.1 _ hh) (by omega)
    ·omega
   ·exact absurd (HD.out.2.2.2.2 _ hh).1 (by omega))).trans HB1.out
 have HL2:Hid (w2.ownsRow 0 74 4 (.slice so n2 sc) n2 xs2∧w2.ownsRow 0 76 2 (.slice wo n3 wc) n3 xs3):=by
  refine ⟨ZT HL1.out.1 hc2 (fun g hg hh=>?_),ZT HL1.out.2.1 hc2 (fun g hg hh=>?_)⟩
  ·have:=HD.out.2.2.1 g hg;rcases hh with hh | hh
   ·rcases HF1.out.1 g hh with hh | hh | hh
    ·exact this.2.1 hh
    ·exact this.2.2 hh
    ·omega
   ·exact (HD.out.2.2.2.2 g hh).2.2.2.1 hg
  ·have:=HD.out.2.2.2.1 g hg;rcases hh with hh | hh
   ·rcases HF1.out.1 g hh with hh | hh | hh
    ·exact this.2.1 hh
    ·exact this.2.2.1 hh
    ·omega
   ·exact (HD.out.2.2.2.2 g hh).2.2.2.2 hg
 obtain ⟨F2,hF2⟩:∃ F2,Plus F1 (.slice tqo n4 tc) w1 w2=F2:=⟨_,rfl⟩;have HF2:Hid ((∀ y,F2 y→F y∨(Value.slice po0 n1 pc0).ownBlock=some y∨(Value.slice tqo n4 tc).ownBlock=some y∨w.heap.size<y)∧Chg (fun y=>F y∨(Value.slice po0 n1 pc0).ownBlock=some y∨(Value.slice tqo n4 tc).ownBlock=some y) w w2∧w.heap.size<w2.heap.size):=by
  refine ⟨fun y hy=>?_,(HF1.out.2.1.mono (fun y h=>h.elim .inl (fun h=>.inr (.inl h)))).trans hc2 (fun y hy=>?_),Nat.lt_of_lt_of_le HF1.out.2.2 hc2.size⟩
  ·rw [←hF2] at hy;rcases hy with hy | hy | hy
   ·rcases HF1.out.1 y hy with h | h | h
    ·exact .inl h
    ·exact .inr (.inl h)
    ·exact .inr (.inr (.inr h))
   ·exact .inr (.inr (.inl hy))
   ·have:=HF1.out.2.2;exact .inr (.inr (.inr (by omega)))
  ·rcases hy with hy | hy
   ·rcases HF1.out.1 y hy with h | h | h
    ·exact .inl (.inl h)
    ·exact .inl (.inr (.inl h))
    ·exact .inr (by omega)
   ·exact .inl (.inr (.inr hy))
 rw [hF2] at ho2;have HO:=hideIt ho2;have HBX:=hideIt hbx2;have HLV:Hid (w2.ownsRow 0 74 4 (.slice so n2 sc) n2 xs2∧∀ g,(Value.slice so n2 sc).ownBlock=some g→¬F2 g):=⟨HL2.out.1,fun g hg hh=>by
  have:=HD.out.2.2.1 g hg;rcases HF2.out.1 g hh with hh | hh | hh | hh
  ·exact this.2.1 hh
  ·exact this.2.2 hh
  ·exact (HD.out.2.2.2.2 g hh).2.2.2.1 hg
  ·omega⟩
 clear s0 s1 s2 s3 s4 s5 s6 hc2 hF2 ho2 HC2 HO1 HB1 HL1;obtain ⟨s0,s1,s2,s3,s4,s5,s6⟩:=blk7 (Below.refl _ w2) HF2.out.2.2 hbx2;clear hbx2;obtain ⟨v1,v2,v3,v4,h0,r1,r2,r3,r4⟩:=HO.out.ex;obtain ⟨vs,o1,o2,o3⟩:=r2;obtain ⟨po,pc,rfl,_⟩:=Zd o1;have hgolt:go<w2.heap.size:=HO.out.lt go HO.out.go;have HR:Hid (w2.heap[go]?=some (bOw v1 (.slice po (q2) pc) v3 v4)∧∀ w',TookV w2 w' go v1 (.slice po (q2) pc) v3 v4 (.slice so n2 sc) (q2) vs→OwnAt w' go (Plus F2 (.slice so n2 sc) w2 w') (q1+1) ((q2+1)) (q3) (q4+1)∧Chg (fun y=>F2 y∨(Value.slice so n2 sc).ownBlock=some y) w2 w'):=
  ⟨h0,fun w' ht=>tookV HO.out.lt HO.out.go h0 r1 r3 r4 o1 o2 o3 (fun y hy=>⟨HLV.out.2 y hy,(HLV.out.1.lt y hy).2⟩) ht⟩
 have hpo:(Value.slice po (q2) pc).ownBlock≠some go:=by
  intro e;obtain ⟨cur',h'⟩:=Zq o1 go e;rw [h0] at h';simp at h'
 obtain ⟨a0,a1,a2,a3,az⟩:=blkOw h0;obtain ⟨t0,hi,hz0,hz1,hz2⟩:=info_parts Zj7;rcases HLV.out.1.2 with ⟨e,e2⟩ | ⟨g,cap,cur,e,_,hg,hn,hm,hs,_⟩
 ·simp only [Value.slice.injEq] at e;obtain ⟨rfl,rfl,rfl⟩:=e;have HP:Hid (True∧(Value.slice po (q2) pc).ownBlock≠some go):=⟨trivial,hpo⟩;clear h0 r1 r3 r4 o2 o3 hpo;go_wp2_with (at_builtin;refine wpList_append_own_at _ rfl (.tmp 26) (.tmp 28) 43 rfl 0 32 t0 _ 1 24 Tryz.underlying43 hi hz0 hz1 hz2 rfl (by decide) _ _ _ rfl (o1.alloc _) ⟨w2.heap.size,0,none⟩ 1 1 [.slice none 0 0] rfl rfl (Zo _ [.slice none 0 0] 32 rfl) (by intro u hu;simp at hu;subst hu;rfl) (by unfold maxLen;omega) (by omega) (Nat.zero_le _) ?nextV)
  case nextV =>
   intro v' w6 hown6 hgrow6 _ hat6;obtain ⟨po6,pc6,hv6,_⟩:=Zd hown6;subst hv6;have hlow:∀ j,j<w2.heap.size→(Value.slice po (q2) pc).ownBlock≠some j→w6.heap[j]?=w2.heap[j]?:=fun j hj hne'=>(hgrow6.block j (by simp;omega) (fun e=>hne' e.symm)).trans (Zh _ _ hj)
   have hgo6:w6.heap[go]?=some (bOw v1 (.slice po (q2) pc) v3 v4):=(hlow go hgolt HP.out.2).trans HR.out.1;obtain ⟨W7V,hW7⟩:∃ W7V,W7V=w6.setCell ⟨go,1,none⟩ (.slice po6 (q2+1) pc6):=⟨_,rfl⟩;have hoth:∀ j,j≠go→W7V.heap[j]?=w6.heap[j]?:=fun j hj=>by rw [hW7];exact Below.heap_setCell _ _ _ _ hj
   have hnb:∀ j,(Value.slice po6 (q2+1) pc6).ownBlock=some j→(Value.slice po (q2) pc).ownBlock=some j∨w2.heap.size≤j:=by
    intro j hj;rcases hat6 with h | h
    ·exact .inl (h.symm.trans hj)
    ·right;rw [hj] at h;simp at h;omega
   have hsz7:w2.heap.size≤W7V.heap.size:=by
    have:=hgrow6.size;rw [hW7];simp at this ⊢;omega
   have hS:SameW w2 W7V:=by rw [hW7];exact SameW.trans ⟨hgrow6.os,hgrow6.tape,hgrow6.output⟩ (Zp _ _ _)
   have hnb2:∀ j,(Value.slice po6 (q2+1) pc6).ownBlock=some j→j≠go:=by
    intro j hj;rcases hnb j hj with h | h
    ·exact fun e=>HP.out.2 (by rw [h,e])
    ·omega
   have hT:TookV w2 W7V go v1 (.slice po (q2) pc) v3 v4 (.slice none 0 0) (q2) vs:=
    ⟨_,.slice none 0 0,by rw [hW7];exact Zg _ _ _ _ _ _ hgo6,Zj hown6 (fun j hj=>hoth j (hnb2 j hj)),.inl rfl,rfl,⟨hS.1,hS.2.1,hS.2.2,hsz7,fun k h1 h2=>(hoth k (fun e=>h2 (.inl e))).trans (hlow k h1 (fun e=>h2 (.inr (.inr e))))⟩,hnb⟩
   have HO':=hideIt (HR.out.2 W7V hT);have HW:=hideIt hW7;obtain ⟨b0,b1,b2,b3,bz⟩:=blkOw hgo6;clear hown6 hgrow6 hat6 hlow hgo6 hW7 hoth hnb hnb2 hsz7 hS o1 hT;go_wp2_with fail
   rw [←HW.out];clear b0 b1 b2 b3 bz a0 a1 a2 a3 az HW;go_loopw [5] (fun i wr=>i=.int .i64 0∧W7V=wr) (fun _ _=>0)
   case atStart=>exact ⟨rfl,rfl⟩
   case round =>
    obtain ⟨rfl,rfl⟩:=hrel;obtain ⟨F3,hF3⟩:∃ F3,Plus F2 (Value.slice none 0 0) w2 W7V=F3:=⟨_,rfl⟩;rw [hF3] at HO';have HF3:Hid ((∀ y,F3 y→F y∨(Value.slice po0 n1 pc0).ownBlock=some y∨(Value.slice tqo n4 tc).ownBlock=some y∨(Value.slice none 0 0).ownBlock=some y∨w.heap.size<y)∧Chg (fun y=>F y∨(Value.slice po0 n1 pc0).ownBlock=some y∨(Value.slice tqo n4 tc).ownBlock=some y∨(Value.slice none 0 0).ownBlock=some y) w W7V∧w.heap.size<W7V.heap.size):=by
     refine ⟨fun y hy=>?_,(HF2.out.2.1.mono (fun y h=>?_)).trans HO'.out.2 (fun y hy=>?_),Nat.lt_of_lt_of_le HF2.out.2.2 HO'.out.2.size⟩
     ·rw [←hF3] at hy;rcases hy with hy | hy | hy
      ·rcases HF2.out.1 y hy with h | h | h | h
       ·exact .inl h
       ·exact .inr (.inl h)
       ·exact .inr (.inr (.inl h))
       ·exact .inr (.inr (.inr (.inr h)))
      ·exact .inr (.inr (.inr (.inl hy)))
      ·have:=HF2.out.2.2;exact .inr (.inr (.inr (.inr (by omega))))
     ·rcases h with h | h | h
      ·exact .inl h
      ·exact .inr (.inl h)
      ·exact .inr (.inr (.inl h))
     ·rcases hy with hy | hy
      ·rcases HF2.out.1 y hy with h | h | h | h
       ·exact .inl (.inl h)
       ·exact .inl (.inr (.inl h))
       ·exact .inl (.inr (.inr (.inl h)))
       ·exact .inr (by omega)
      ·exact .inl (.inr (.inr (.inr hy)))
    have hbx3:W7V.heap[w.heap.size]?=some (.cells #[.int .i64 b,.slice po0 n1 pc0,.slice none 0 0,.slice wo n3 wc,.slice tqo n4 tc,.bool bg,.bool bk] 36):=
     (HO'.out.2.block _ HF2.out.2.2 (fun hh=>by
      rcases hh with hh | hh
      ·rcases HF2.out.1 _ hh with hh | hh | hh | hh
       ·exact absurd (HD.out.1 _ hh) (by omega)
       ·exact absurd (HD.out.2.1 _ hh) (by omega)
       ·exact absurd (HD.out.2.2.2.2 _ hh).1 (by omega)
       ·omega
      ·exact absurd (HD.out.2.2.1 _ hh).1 (by omega))).trans HBX.out
    have HLW:Hid (W7V.ownsRow 0 76 2 (.slice wo n3 wc) n3 xs3∧∀ g,(Value.slice wo n3 wc).ownBlock=some g→¬F3 g):=by
     have hno:∀ g,(Value.slice wo n3 wc).ownBlock=some g→¬F3 g:=fun g hg hh=>by
      have:=HD.out.2.2.2.1 g hg;rcases HF3.out.1 g hh with hh | hh | hh | hh | hh
      ·exact this.2.1 hh
      ·exact this.2.2.1 hh
      ·exact (HD.out.2.2.2.2 g hh).2.2.2.2 hg
      ·exact this.2.2.2 hh
      ·omega
     refine ⟨ZT HL2.out.2 HO'.out.2 (fun g hg hh=>?_),hno⟩;rcases hh with hh | hh
     ·exact hno g hg (by rw [←hF3];exact .inl hh)
     ·exact (HD.out.2.2.2.1 g hg).2.2.2 hh
    have HO3:=hideIt HO'.out.1;clear HO HO' hF3 HR HP s0 s1 s2 s3 s4 s5 s6;have HO:=HO3;clear HO3;obtain ⟨s0,s1,s2,s3,s4,s5,s6⟩:=blk7 (Below.refl _ W7V) HF3.out.2.2 hbx3;clear hbx3;obtain ⟨v1,v2,v3,v4,h0,r1,r2,r3,r4⟩:=HO.out.ex;obtain ⟨vs,o1,o2,o3⟩:=r3;obtain ⟨po,pc,rfl,_⟩:=Zd o1;have hgolt:go<W7V.heap.size:=HO.out.lt go HO.out.go;have HR:Hid (W7V.heap[go]?=some (bOw v1 v2 (.slice po (q3) pc) v4)∧∀ w',TookW W7V w' go v1 v2 (.slice po (q3) pc) v4 (.slice wo n3 wc) (q3) vs→OwnAt w' go (Plus F3 (.slice wo n3 wc) W7V w') (q1+1) (q2+1) ((q3+1)) (q4+1)∧Chg (fun y=>F3 y∨(Value.slice wo n3 wc).ownBlock=some y) W7V w'):=
     ⟨h0,fun w' ht=>tookW HO.out.lt HO.out.go h0 r1 r2 r4 o1 o2 o3 (fun y hy=>⟨HLW.out.2 y hy,(HLW.out.1.lt y hy).2⟩) ht⟩
    have hpo:(Value.slice po (q3) pc).ownBlock≠some go:=by
     intro e;obtain ⟨cur',h'⟩:=Zq o1 go e;rw [h0] at h';simp at h'
    obtain ⟨a0,a1,a2,a3,az⟩:=blkOw h0;obtain ⟨t0,hi,hz0,hz1,hz2⟩:=info_parts Zgt;rcases HLW.out.1.2 with ⟨e,e2⟩ | ⟨g,cap,cur,e,_,hg,hn,hm,hs,_⟩
    ·simp only [Value.slice.injEq] at e;obtain ⟨rfl,rfl,rfl⟩:=e;have HP:Hid (True∧(Value.slice po (q3) pc).ownBlock≠some go):=⟨trivial,hpo⟩;clear h0 r1 r2 r4 o2 o3 hpo;go_wp2_with (at_builtin;refine wpList_append_own_at _ rfl (.tmp 57) (.tmp 59) 44 rfl 0 33 t0 _ 1 24 Tryz.underlying44 hi hz0 hz1 hz2 rfl (by decide) _ _ _ rfl (o1.alloc _) ⟨W7V.heap.size,0,none⟩ 1 1 [.slice none 0 0] rfl rfl (Zo _ [.slice none 0 0] 33 rfl) (by intro u hu;simp at hu;subst hu;rfl) (by unfold maxLen;omega) (by omega) (Nat.zero_le _) ?nextW)
     case nextW =>
      intro v' w6 hown6 hgrow6 _ hat6;obtain ⟨po6,pc6,hv6,_⟩:=Zd hown6;subst hv6;have hlow:∀ j,j<W7V.heap.size→(Value.slice po (q3) pc).ownBlock≠some j→w6.heap[j]?=W7V.heap[j]?:=fun j hj hne'=>(hgrow6.block j (by simp;omega) (fun e=>hne' e.symm)).trans (Zh _ _ hj)
      have hgo6:w6.heap[go]?=some (bOw v1 v2 (.slice po (q3) pc) v4):=(hlow go hgolt HP.out.2).trans HR.out.1;obtain ⟨W7W,hW7⟩:∃ W7W,W7W=w6.setCell ⟨go,2,none⟩ (.slice po6 (q3+1) pc6):=⟨_,rfl⟩;have hoth:∀ j,j≠go→W7W.heap[j]?=w6.heap[j]?:=fun j hj=>by rw [hW7];exact Below.heap_setCell _ _ _ _ hj
      have hnb:∀ j,(Value.slice po6 (q3+1) pc6).ownBlock=some j→(Value.slice po (q3) pc).ownBlock=some j∨W7V.heap.size≤j:=by
       intro j hj;rcases hat6 with h | h
       ·exact .inl (h.symm.trans hj)
       ·right;rw [hj] at h;simp at h;omega
      have hsz7:W7V.heap.size≤W7W.heap.size:=by
       have:=hgrow6.size;rw [hW7];simp at this ⊢;omega
      have hS:SameW W7V W7W:=by rw [hW7];exact SameW.trans ⟨hgrow6.os,hgrow6.tape,hgrow6.output⟩ (Zp _ _ _)
      have hnb2:∀ j,(Value.slice po6 (q3+1) pc6).ownBlock=some j→j≠go:=by
       intro j hj;rcases hnb j hj with h | h
       ·exact fun e=>HP.out.2 (by rw [h,e])
       ·omega
      have hT:TookW W7V W7W go v1 v2 (.slice po (q3) pc) v4 (.slice none 0 0) (q3) vs:=
       ⟨_,.slice none 0 0,by rw [hW7];exact Zg _ _ _ _ _ _ hgo6,Zj hown6 (fun j hj=>hoth j (hnb2 j hj)),.inl rfl,rfl,⟨hS.1,hS.2.1,hS.2.2,hsz7,fun k h1 h2=>(hoth k (fun e=>h2 (.inl e))).trans (hlow k h1 (fun e=>h2 (.inr (.inr e))))⟩,hnb⟩
      have HO':=hideIt (HR.out.2 W7W hT);have HW:=hideIt hW7;obtain ⟨b0,b1,b2,b3,bz⟩:=blkOw hgo6;clear hown6 hgrow6 hat6 hlow hgo6 hW7 hoth hnb hnb2 hsz7 hS o1 hT;go_wp2_with fail
      rw [←HW.out];clear b0 b1 b2 b3 bz a0 a1 a2 a3 az HW;go_loopw [7] (fun i wr=>i=.int .i64 0∧W7W=wr) (fun _ _=>0)
      case atStart=>exact ⟨rfl,rfl⟩
      case round =>
       obtain ⟨rfl,rfl⟩:=hrel;go_wp2_with fail
       refine bodyPost_end (v:=.tuple #[]) (by simp [results,Tryz.results13,go_sem]) rfl ?_;refine ⟨⟨_,rfl⟩,_,HO'.out.1,fun y hy=>?_,(HF3.out.2.1.mono (fun y h=>?_)).trans HO'.out.2 (fun y hy=>?_)⟩
       ·rcases hy with hy | hy | hy
        ·rcases HF3.out.1 y hy with h | h | h | h | h
         ·exact .inl h
         ·exact .inr (.inl h)
         ·exact .inr (.inr (.inr (.inr (.inl h))))
         ·exact .inr (.inr (.inl h))
         ·exact .inr (.inr (.inr (.inr (.inr (by omega)))))
        ·exact .inr (.inr (.inr (.inl hy)))
        ·have:=HF3.out.2.2;exact .inr (.inr (.inr (.inr (.inr (by omega)))))
       ·rcases h with h | h | h | h
        ·exact .inl h
        ·exact .inr (.inl h)
        ·exact .inr (.inr (.inr (.inr h)))
        ·exact .inr (.inr (.inl h))
       ·rcases hy with hy | hy
        ·rcases HF3.out.1 y hy with h | h | h | h | h
         ·exact .inl (.inl h)
         ·exact .inl (.inr (.inl h))
         ·exact .inl (.inr (.inr (.inr (.inr h))))
         ·exact .inl (.inr (.inr (.inl h)))
         ·exact .inr (by omega)
        ·exact .inl (.inr (.inr (.inr (.inl hy))))
    ·simp only [Value.slice.injEq] at e;obtain ⟨rfl,_,rfl⟩:=e;have hglt:g<W7V.heap.size:=(Array.getElem?_eq_some_iff.1 hg).1;have hne:go≠g:=by
      intro e;rw [e,hg] at h0;simp at h0
     have hpg:(Value.slice po (q3) pc).ownBlock≠some g:=by
      intro e;obtain ⟨cur',h'⟩:=Zq o1 g e;rw [hg] at h';simp at h'
     have HP:Hid ((Value.slice po (q3) pc).ownBlock≠some g∧(Value.slice po (q3) pc).ownBlock≠some go):=⟨hpg,hpo⟩;have HGG:Hid (W7V.heap[g]?=some (.cells cur 76 (0,0))∧cur.size=wc*2∧wc≤maxLen):=⟨hg,hs,hm⟩;have hcap:wc≤9223372036854775807:=hm;clear h0 r1 r2 r4 o2 o3 hpo hpg hg hs hm;go_wp2_with (at_builtin;refine wpList_append_own_at _ rfl (.tmp 57) (.tmp 59) 44 rfl 0 33 t0 _ 1 24 Tryz.underlying44 hi hz0 hz1 hz2 rfl (by decide) _ _ _ rfl (o1.alloc _) ⟨W7V.heap.size,0,none⟩ 1 1 [.slice (some ⟨g,0,none⟩) wc wc] rfl rfl (Zo _ [.slice (some ⟨g,0,none⟩) wc wc] 33 rfl) (by intro u hu;simp at hu;subst hu;rfl) (by unfold maxLen;omega) (by omega) (Nat.zero_le _) ?nextW)
     case nextW =>
      intro v' w6 hown6 hgrow6 _ hat6;obtain ⟨po6,pc6,hv6,_⟩:=Zd hown6;subst hv6;have hlow:∀ j,j<W7V.heap.size→(Value.slice po (q3) pc).ownBlock≠some j→w6.heap[j]?=W7V.heap[j]?:=fun j hj hne'=>(hgrow6.block j (by simp;omega) (fun e=>hne' e.symm)).trans (Zh _ _ hj)
      have hgo6:w6.heap[go]?=some (bOw v1 v2 (.slice po (q3) pc) v4):=(hlow go hgolt HP.out.2).trans HR.out.1;obtain ⟨W7W,hW7⟩:∃ W7W,W7W=w6.setCell ⟨go,2,none⟩ (.slice po6 (q3+1) pc6):=⟨_,rfl⟩;have hoth:∀ j,j≠go→W7W.heap[j]?=w6.heap[j]?:=fun j hj=>by rw [hW7];exact Below.heap_setCell _ _ _ _ hj
      have hnb:∀ j,(Value.slice po6 (q3+1) pc6).ownBlock=some j→(Value.slice po (q3) pc).ownBlock=some j∨W7V.heap.size≤j:=by
       intro j hj;rcases hat6 with h | h
       ·exact .inl (h.symm.trans hj)
       ·right;rw [hj] at h;simp at h;omega
      have hsz7:W7V.heap.size≤W7W.heap.size:=by
       have:=hgrow6.size;rw [hW7];simp at this ⊢;omega
      have hS:SameW W7V W7W:=by rw [hW7];exact SameW.trans ⟨hgrow6.os,hgrow6.tape,hgrow6.output⟩ (Zp _ _ _)
      have hg6:w6.heap[g]?=some (.cells cur 76 (0,0)):=(hlow g hglt HP.out.1).trans HGG.out.1;have hnb2:∀ j,(Value.slice po6 (q3+1) pc6).ownBlock=some j→j≠g∧j≠go:=by
       intro j hj;rcases hnb j hj with h | h
       ·exact ⟨fun e=>HP.out.1 (by rw [h,e]),fun e=>HP.out.2 (by rw [h,e])⟩
       ·exact ⟨by omega,by omega⟩
      have HW:Hid (W7W=w6.setCell ⟨go,2,none⟩ (.slice po6 (q3+1) pc6)∧W7W.heap[go]?=some (bOw v1 v2 (.slice po6 (q3+1) pc6) v4)∧W7W.heap[g]?=some (.cells cur 76 (0,0))∧W7W.ownsRow 0 33 1 (.slice po6 (q3+1) pc6) (q3+1) (vs++[.slice (some ⟨g,0,none⟩) wc wc])∧W7V.heap.size≤W7W.heap.size∧(∀ k,k<W7V.heap.size→k≠go→(Value.slice po (q3) pc).ownBlock≠some k→W7W.heap[k]?=W7V.heap[k]?)∧(∀ j,(Value.slice po6 (q3+1) pc6).ownBlock=some j→j≠g)∧SameW W7V W7W∧(∀ j,(Value.slice po6 (q3+1) pc6).ownBlock=some j→(Value.slice po (q3) pc).ownBlock=some j∨W7V.heap.size≤j)):=
       ⟨hW7,by rw [hW7];exact Zg _ _ _ _ _ _ hgo6,(hoth g (fun e=>hne e.symm)).trans hg6,Zj hown6 (fun j hj=>hoth j (hnb2 j hj).2),hsz7,fun k h1 h2 h4=>(hoth k h2).trans (hlow k h1 h4),fun j hj=>(hnb2 j hj).1,hS,hnb⟩
      have HFIN:Hid (∀ (wz:World) (cur':Array Value),wz.heap[go]?=some (bOw v1 v2 (.slice po6 (q3+1) pc6) v4)→(∀ j,j≠g→wz.heap[j]?=W7W.heap[j]?)→wz.heap.size=W7W.heap.size→SameW W7W wz→wz.heap[g]?=some (.cells cur' 76 (0,0))→MarkG 2 (mW (((q3)+1:Nat):Int)) cur' wc→OwnAt wz go (Plus F3 (.slice (some ⟨g,0,none⟩) n3 wc) W7V wz) (q1+1) (q2+1) ((q3+1)) (q4+1)∧Chg (fun y=>F3 y∨(Value.slice (some ⟨g,0,none⟩) n3 wc).ownBlock=some y) W7V wz):=by
       intro wz cur' hgor hcj hcs hcS hcg hcm;have hS:=HW.out.2.2.2.2.2.2.2.1.trans hcS;exact HR.out.2 wz ⟨_,.slice (some ⟨g,0,none⟩) wc wc,hgor,Zj HW.out.2.2.2.1 (fun j hj=>hcj j (HW.out.2.2.2.2.2.2.1 j hj)),.inr ⟨g,wc,cur',rfl,HGG.out.2.2,hcg,hcm⟩,rfl,⟨hS.1,hS.2.1,hS.2.2,by rw [hcs];exact HW.out.2.2.2.2.1,fun j h1 h2=>(hcj j (fun e=>h2 (.inr (.inl (by rw [e];rfl))))).trans (HW.out.2.2.2.2.2.1 j h1 (fun e=>h2 (.inl e)) (fun e=>h2 (.inr (.inr e))))⟩,HW.out.2.2.2.2.2.2.2.2⟩
      obtain ⟨b0,b1,b2,b3,bz⟩:=blkOw hgo6;clear hown6 hgrow6 hat6 hlow hgo6 hg6 hW7 hoth hnb hnb2 hsz7 hS o1;go_wp2_with fail
      rw [←HW.out.1];clear b0 b1 b2 b3 bz a0 a1 a2 a3 az;go_loopw [7] (fun i wr=>∃ (k:Nat) (cur':Array Value),k≤wc∧i=.int .i64 k∧Hid (cur'.size=wc*2∧MarkG 2 (mW (((q3)+1:Nat):Int)) cur' k∧wr.heap[g]?=some (.cells cur' 76 (0,0))∧wr.heap.size=W7W.heap.size∧(∀ j,j≠g→wr.heap[j]?=W7W.heap[j]?)∧SameW W7W wr)) (fun i _=>wc - (intOf i).toNat)
      case atStart=>exact ⟨0,cur,Nat.zero_le _,rfl,HGG.out.2.1,ZaQ _ _ _,HW.out.2.2.1,rfl,fun _ _=>rfl,rfl,rfl,rfl⟩
      case round =>
       obtain ⟨k,cur',hk,rfl,HC⟩:=hrel;have hgor:wr.heap[go]?=some (bOw v1 v2 (.slice po6 (q3+1) pc6) v4):=(HC.out.2.2.2.2.1 go hne).trans HW.out.2.1;by_cases hlt:k<wc
       ·obtain ⟨b0,b1,b2,b3,bz⟩:=blkOw hgor;have hsz:=HC.out.1;obtain ⟨⟨u0,hu0⟩,z0⟩:=blkC HC.out.2.2.1 (k*2) (by omega);obtain ⟨⟨u1,hu1⟩,z1⟩:=blkC HC.out.2.2.1 (k*2+1) (by omega);have hlti:(k:Int)<(wc:Int):=by omega
        have HRR:Hid (((wr.setCell ⟨g,k*2,none⟩ (.int .i64 (((q3)+1:Nat):Int))).setCell ⟨g,k*2+1,none⟩ (.string ⟨#[]⟩)).heap[g]?=some (.cells ((cur'.setIfInBounds (k*2) (.int .i64 (((q3)+1:Nat):Int))).setIfInBounds (k*2+1) (.string ⟨#[]⟩)) 76 (0,0))):=
         (Zg _ g (k*2+1) _ _ _ (Zg _ g (k*2) _ _ _ HC.out.2.2.1))
        clear hsz hgor;go_wp2_with fail
        go_roundw
        case rel =>
         refine ⟨k+1,_,by omega,by go_num,?_,Zij HC.out.2.1 HC.out.1 hlt,HRR.out,?_,?_,?_⟩
         ·simp;exact HC.out.1
         ·simp;exact HC.out.2.2.2.1
         ·intro j hj;exact (Below.heap_setCell _ _ _ _ hj).trans ((Below.heap_setCell _ _ _ _ hj).trans (HC.out.2.2.2.2.1 j hj))
         ·exact HC.out.2.2.2.2.2.trans ((Zp _ _ _).trans (Zp _ _ _))
        case measure=>simp [intOf];omega
       ·obtain rfl:k=wc:=by omega
        have HO':=hideIt (HFIN.out wr cur' hgor HC.out.2.2.2.2.1 HC.out.2.2.2.1 HC.out.2.2.2.2.2 HC.out.2.2.1 HC.out.2.1);clear hgor HC HW HFIN;go_wp2_with fail
        refine bodyPost_end (v:=.tuple #[]) (by simp [results,Tryz.results13,go_sem]) rfl ?_;refine ⟨⟨_,rfl⟩,_,HO'.out.1,fun y hy=>?_,(HF3.out.2.1.mono (fun y h=>?_)).trans HO'.out.2 (fun y hy=>?_)⟩
        ·rcases hy with hy | hy | hy
         ·rcases HF3.out.1 y hy with h | h | h | h | h
          ·exact .inl h
          ·exact .inr (.inl h)
          ·exact .inr (.inr (.inr (.inr (.inl h))))
          ·exact .inr (.inr (.inl h))
          ·exact .inr (.inr (.inr (.inr (.inr (by omega)))))
         ·exact .inr (.inr (.inr (.inl hy)))
         ·have:=HF3.out.2.2;exact .inr (.inr (.inr (.inr (.inr (by omega)))))
        ·rcases h with h | h | h | h
         ·exact .inl h
         ·exact .inr (.inl h)
         ·exact .inr (.inr (.inr (.inr h)))
         ·exact .inr (.inr (.inl h))
        ·rcases hy with hy | hy
         ·rcases HF3.out.1 y hy with h | h | h | h | h
          ·exact .inl (.inl h)
          ·exact .inl (.inr (.inl h))
          ·exact .inl (.inr (.inr (.inr (.inr h))))
          ·exact .inl (.inr (.inr (.inl h)))
          ·exact .inr (by omega)
         ·exact .inl (.inr (.inr (.inr (.inl hy))))
 ·simp only [Value.slice.injEq] at e;obtain ⟨rfl,_,rfl⟩:=e;have hglt:g<w2.heap.size:=(Array.getElem?_eq_some_iff.1 hg).1;have hne:go≠g:=by
   intro e;rw [e,hg] at h0;simp at h0
  have hpg:(Value.slice po (q2) pc).ownBlock≠some g:=by
   intro e;obtain ⟨cur',h'⟩:=Zq o1 g e;rw [hg] at h';simp at h'
  have HP:Hid ((Value.slice po (q2) pc).ownBlock≠some g∧(Value.slice po (q2) pc).ownBlock≠some go):=⟨hpg,hpo⟩;have HGG:Hid (w2.heap[g]?=some (.cells cur 74 (0,0))∧cur.size=sc*4∧sc≤maxLen):=⟨hg,hs,hm⟩;have hcap:sc≤9223372036854775807:=hm;clear h0 r1 r3 r4 o2 o3 hpo hpg hg hs hm;go_wp2_with (at_builtin;refine wpList_append_own_at _ rfl (.tmp 26) (.tmp 28) 43 rfl 0 32 t0 _ 1 24 Tryz.underlying43 hi hz0 hz1 hz2 rfl (by decide) _ _ _ rfl (o1.alloc _) ⟨w2.heap.size,0,none⟩ 1 1 [.slice (some ⟨g,0,none⟩) sc sc] rfl rfl (Zo _ [.slice (some ⟨g,0,none⟩) sc sc] 32 rfl) (by intro u hu;simp at hu;subst hu;rfl) (by unfold maxLen;omega) (by omega) (Nat.zero_le _) ?nextV)
  case nextV =>
   intro v' w6 hown6 hgrow6 _ hat6;obtain ⟨po6,pc6,hv6,_⟩:=Zd hown6;subst hv6;have hlow:∀ j,j<w2.heap.size→(Value.slice po (q2) pc).ownBlock≠some j→w6.heap[j]?=w2.heap[j]?:=fun j hj hne'=>(hgrow6.block j (by simp;omega) (fun e=>hne' e.symm)).trans (Zh _ _ hj)
   have hgo6:w6.heap[go]?=some (bOw v1 (.slice po (q2) pc) v3 v4):=(hlow go hgolt HP.out.2).trans HR.out.1;obtain ⟨W7V,hW7⟩:∃ W7V,W7V=w6.setCell ⟨go,1,none⟩ (.slice po6 (q2+1) pc6):=⟨_,rfl⟩;have hoth:∀ j,j≠go→W7V.heap[j]?=w6.heap[j]?:=fun j hj=>by rw [hW7];exact Below.heap_setCell _ _ _ _ hj
   have hnb:∀ j,(Value.slice po6 (q2+1) pc6).ownBlock=some j→(Value.slice po (q2) pc).ownBlock=some j∨w2.heap.size≤j:=by
    intro j hj;rcases hat6 with h | h
    ·exact .inl (h.symm.trans hj)
    ·right;rw [hj] at h;simp at h;omega
   have hsz7:w2.heap.size≤W7V.heap.size:=by
    have:=hgrow6.size;rw [hW7];simp at this ⊢;omega
   have hS:SameW w2 W7V:=by rw [hW7];exact SameW.trans ⟨hgrow6.os,hgrow6.tape,hgrow6.output⟩ (Zp _ _ _)
   have hg6:w6.heap[g]?=some (.cells cur 74 (0,0)):=(hlow g hglt HP.out.1).trans HGG.out.1;have hnb2:∀ j,(Value.slice po6 (q2+1) pc6).ownBlock=some j→j≠g∧j≠go:=by
    intro j hj;rcases hnb j hj with h | h
    ·exact ⟨fun e=>HP.out.1 (by rw [h,e]),fun e=>HP.out.2 (by rw [h,e])⟩
    ·exact ⟨by omega,by omega⟩
   have HW:Hid (W7V=w6.setCell ⟨go,1,none⟩ (.slice po6 (q2+1) pc6)∧W7V.heap[go]?=some (bOw v1 (.slice po6 (q2+1) pc6) v3 v4)∧W7V.heap[g]?=some (.cells cur 74 (0,0))∧W7V.ownsRow 0 32 1 (.slice po6 (q2+1) pc6) (q2+1) (vs++[.slice (some ⟨g,0,none⟩) sc sc])∧w2.heap.size≤W7V.heap.size∧(∀ k,k<w2.heap.size→k≠go→(Value.slice po (q2) pc).ownBlock≠some k→W7V.heap[k]?=w2.heap[k]?)∧(∀ j,(Value.slice po6 (q2+1) pc6).ownBlock=some j→j≠g)∧SameW w2 W7V∧(∀ j,(Value.slice po6 (q2+1) pc6).ownBlock=some j→(Value.slice po (q2) pc).ownBlock=some j∨w2.heap.size≤j)):=
    ⟨hW7,by rw [hW7];exact Zg _ _ _ _ _ _ hgo6,(hoth g (fun e=>hne e.symm)).trans hg6,Zj hown6 (fun j hj=>hoth j (hnb2 j hj).2),hsz7,fun k h1 h2 h4=>(hoth k h2).trans (hlow k h1 h4),fun j hj=>(hnb2 j hj).1,hS,hnb⟩
   have HFIN:Hid (∀ (wz:World) (cur':Array Value),wz.heap[go]?=some (bOw v1 (.slice po6 (q2+1) pc6) v3 v4)→(∀ j,j≠g→wz.heap[j]?=W7V.heap[j]?)→wz.heap.size=W7V.heap.size→SameW W7V wz→wz.heap[g]?=some (.cells cur' 74 (0,0))→MarkG 4 (mV (((q2)+1:Nat):Int)) cur' sc→OwnAt wz go (Plus F2 (.slice (some ⟨g,0,none⟩) n2 sc) w2 wz) (q1+1) ((q2+1)) (q3) (q4+1)∧Chg (fun y=>F2 y∨(Value.slice (some ⟨g,0,none⟩) n2 sc).ownBlock=some y) w2 wz):=by
    intro wz cur' hgor hcj hcs hcS hcg hcm;have hS:=HW.out.2.2.2.2.2.2.2.1.trans hcS;exact HR.out.2 wz ⟨_,.slice (some ⟨g,0,none⟩) sc sc,hgor,Zj HW.out.2.2.2.1 (fun j hj=>hcj j (HW.out.2.2.2.2.2.2.1 j hj)),.inr ⟨g,sc,cur',rfl,HGG.out.2.2,hcg,hcm⟩,rfl,⟨hS.1,hS.2.1,hS.2.2,by rw [hcs];exact HW.out.2.2.2.2.1,fun j h1 h2=>(hcj j (fun e=>h2 (.inr (.inl (by rw [e];rfl))))).trans (HW.out.2.2.2.2.2.1 j h1 (fun e=>h2 (.inl e)) (fun e=>h2 (.inr (.inr e))))⟩,HW.out.2.2.2.2.2.2.2.2⟩
   obtain ⟨b0,b1,b2,b3,bz⟩:=blkOw hgo6;clear hown6 hgrow6 hat6 hlow hgo6 hg6 hW7 hoth hnb hnb2 hsz7 hS o1;go_wp2_with fail
   rw [←HW.out.1];clear b0 b1 b2 b3 bz a0 a1 a2 a3 az;go_loopw [5] (fun i wr=>∃ (k:Nat) (cur':Array Value),k≤sc∧i=.int .i64 k∧Hid (cur'.size=sc*4∧MarkG 4 (mV (((q2)+1:Nat):Int)) cur' k∧wr.heap[g]?=some (.cells cur' 74 (0,0))∧wr.heap.size=W7V.heap.size∧(∀ j,j≠g→wr.heap[j]?=W7V.heap[j]?)∧SameW W7V wr)) (fun i _=>sc - (intOf i).toNat)
   case atStart=>exact ⟨0,cur,Nat.zero_le _,rfl,HGG.out.2.1,ZaQ _ _ _,HW.out.2.2.1,rfl,fun _ _=>rfl,rfl,rfl,rfl⟩
   case round =>
    obtain ⟨k,cur',hk,rfl,HC⟩:=hrel;have hgor:wr.heap[go]?=some (bOw v1 (.slice po6 (q2+1) pc6) v3 v4):=(HC.out.2.2.2.2.1 go hne).trans HW.out.2.1;by_cases hlt:k<sc
    ·obtain ⟨b0,b1,b2,b3,bz⟩:=blkOw hgor;have hsz:=HC.out.1;obtain ⟨⟨u0,hu0⟩,z0⟩:=blkC HC.out.2.2.1 (k*4) (by omega);obtain ⟨⟨u1,hu1⟩,z1⟩:=blkC HC.out.2.2.1 (k*4+1) (by omega);obtain ⟨⟨u2,hu2⟩,z2⟩:=blkC HC.out.2.2.1 (k*4+2) (by omega);obtain ⟨⟨u3,hu3⟩,z3⟩:=blkC HC.out.2.2.1 (k*4+3) (by omega);have hlti:(k:Int)<(sc:Int):=by omega
     have HRR:Hid (((((wr.setCell ⟨g,k*4,none⟩ (.int .i64 0)).setCell ⟨g,k*4+1,none⟩ (.string ⟨#[]⟩)).setCell ⟨g,k*4+2,none⟩ (.int .i64 (((q2)+1:Nat):Int))).setCell ⟨g,k*4+3,none⟩ (.int .i64 0)).heap[g]?=some (.cells ((((cur'.setIfInBounds (k*4) (.int .i64 0)).setIfInBounds (k*4+1) (.string ⟨#[]⟩)).setIfInBounds (k*4+2) (.int .i64 (((q2)+1:Nat):Int))).setIfInBounds (k*4+3) (.int .i64 0)) 74 (0,0))):=
      (Zg _ g (k*4+3) _ _ _ (Zg _ g (k*4+2) _ _ _ (Zg _ g (k*4+1) _ _ _ (Zg _ g (k*4) _ _ _ HC.out.2.2.1))))
     clear hsz hgor;go_wp2_with fail
     go_roundw
     case rel =>
      refine ⟨k+1,_,by omega,by go_num,?_,ZhV HC.out.2.1 HC.out.1 hlt,HRR.out,?_,?_,?_⟩
      ·simp;exact HC.out.1
      ·simp;exact HC.out.2.2.2.1
      ·intro j hj;exact (Below.heap_setCell _ _ _ _ hj).trans ((Below.heap_setCell _ _ _ _ hj).trans ((Below.heap_setCell _ _ _ _ hj).trans ((Below.heap_setCell _ _ _ _ hj).trans (HC.out.2.2.2.2.1 j hj))))
      ·exact HC.out.2.2.2.2.2.trans ((((Zp _ _ _).trans (Zp _ _ _)).trans (Zp _ _ _)).trans (Zp _ _ _))
     case measure=>simp [intOf];omega
    ·obtain rfl:k=sc:=by omega
     have HO':=hideIt (HFIN.out wr cur' hgor HC.out.2.2.2.2.1 HC.out.2.2.2.1 HC.out.2.2.2.2.2 HC.out.2.2.1 HC.out.2.1);clear hgor HC HW HFIN;obtain ⟨F3,hF3⟩:∃ F3,Plus F2 (Value.slice (some ⟨g,0,none⟩) n2 k) w2 wr=F3:=⟨_,rfl⟩;rw [hF3] at HO';have HF3:Hid ((∀ y,F3 y→F y∨(Value.slice po0 n1 pc0).ownBlock=some y∨(Value.slice tqo n4 tc).ownBlock=some y∨(Value.slice (some ⟨g,0,none⟩) n2 k).ownBlock=some y∨w.heap.size<y)∧Chg (fun y=>F y∨(Value.slice po0 n1 pc0).ownBlock=some y∨(Value.slice tqo n4 tc).ownBlock=some y∨(Value.slice (some ⟨g,0,none⟩) n2 k).ownBlock=some y) w wr∧w.heap.size<wr.heap.size):=by
      refine ⟨fun y hy=>?_,(HF2.out.2.1.mono (fun y h=>?_)).trans HO'.out.2 (fun y hy=>?_),Nat.lt_of_lt_of_le HF2.out.2.2 HO'.out.2.size⟩
      ·rw [←hF3] at hy;rcases hy with hy | hy | hy
       ·rcases HF2.out.1 y hy with h | h | h | h
        ·exact .inl h
        ·exact .inr (.inl h)
        ·exact .inr (.inr (.inl h))
        ·exact .inr (.inr (.inr (.inr h)))
       ·exact .inr (.inr (.inr (.inl hy)))
       ·have:=HF2.out.2.2;exact .inr (.inr (.inr (.inr (by omega))))
      ·rcases h with h | h | h
       ·exact .inl h
       ·exact .inr (.inl h)
       ·exact .inr (.inr (.inl h))
      ·rcases hy with hy | hy
       ·rcases HF2.out.1 y hy with h | h | h | h
        ·exact .inl (.inl h)
        ·exact .inl (.inr (.inl h))
        ·exact .inl (.inr (.inr (.inl h)))
        ·exact .inr (by omega)
       ·exact .inl (.inr (.inr (.inr hy)))
     have hbx3:wr.heap[w.heap.size]?=some (.cells #[.int .i64 b,.slice po0 n1 pc0,.slice (some ⟨g,0,none⟩) n2 k,.slice wo n3 wc,.slice tqo n4 tc,.bool bg,.bool bk] 36):=
      (HO'.out.2.block _ HF2.out.2.2 (fun hh=>by
       rcases hh with hh | hh
       ·rcases HF2.out.1 _ hh with hh | hh | hh | hh
        ·exact absurd (HD.out.1 _ hh) (by omega)
        ·exact absurd (HD.out.2.1 _ hh) (by omega)
        ·exact absurd (HD.out.2.2.2.2 _ hh).1 (by omega)
        ·omega
       ·exact absurd (HD.out.2.2.1 _ hh).1 (by omega))).trans HBX.out
     have HLW:Hid (wr.ownsRow 0 76 2 (.slice wo n3 wc) n3 xs3∧∀ g,(Value.slice wo n3 wc).ownBlock=some g→¬F3 g):=by
      have hno:∀ g,(Value.slice wo n3 wc).ownBlock=some g→¬F3 g:=fun g hg hh=>by
       have:=HD.out.2.2.2.1 g hg;rcases HF3.out.1 g hh with hh | hh | hh | hh | hh
       ·exact this.2.1 hh
       ·exact this.2.2.1 hh
       ·exact (HD.out.2.2.2.2 g hh).2.2.2.2 hg
       ·exact this.2.2.2 hh
       ·omega
      refine ⟨ZT HL2.out.2 HO'.out.2 (fun g hg hh=>?_),hno⟩;rcases hh with hh | hh
      ·exact hno g hg (by rw [←hF3];exact .inl hh)
      ·exact (HD.out.2.2.2.1 g hg).2.2.2 hh
     have HO3:=hideIt HO'.out.1;clear HO HO' hF3 HR HP s0 s1 s2 s3 s4 s5 s6;have HO:=HO3;clear HO3;obtain ⟨s0,s1,s2,s3,s4,s5,s6⟩:=blk7 (Below.refl _ wr) HF3.out.2.2 hbx3;clear hbx3;obtain ⟨v1,v2,v3,v4,h0,r1,r2,r3,r4⟩:=HO.out.ex;obtain ⟨vs,o1,o2,o3⟩:=r3;obtain ⟨po,pc,rfl,_⟩:=Zd o1;have hgolt:go<wr.heap.size:=HO.out.lt go HO.out.go;have HR:Hid (wr.heap[go]?=some (bOw v1 v2 (.slice po (q3) pc) v4)∧∀ w',TookW wr w' go v1 v2 (.slice po (q3) pc) v4 (.slice wo n3 wc) (q3) vs→OwnAt w' go (Plus F3 (.slice wo n3 wc) wr w') (q1+1) (q2+1) ((q3+1)) (q4+1)∧Chg (fun y=>F3 y∨(Value.slice wo n3 wc).ownBlock=some y) wr w'):=
      ⟨h0,fun w' ht=>tookW HO.out.lt HO.out.go h0 r1 r2 r4 o1 o2 o3 (fun y hy=>⟨HLW.out.2 y hy,(HLW.out.1.lt y hy).2⟩) ht⟩
     have hpo:(Value.slice po (q3) pc).ownBlock≠some go:=by
      intro e;obtain ⟨cur',h'⟩:=Zq o1 go e;rw [h0] at h';simp at h'
     obtain ⟨a0,a1,a2,a3,az⟩:=blkOw h0;obtain ⟨t0,hi,hz0,hz1,hz2⟩:=info_parts Zgt;rcases HLW.out.1.2 with ⟨e,e2⟩ | ⟨g,cap,cur,e,_,hg,hn,hm,hs,_⟩
     ·simp only [Value.slice.injEq] at e;obtain ⟨rfl,rfl,rfl⟩:=e;have HP:Hid (True∧(Value.slice po (q3) pc).ownBlock≠some go):=⟨trivial,hpo⟩;clear h0 r1 r2 r4 o2 o3 hpo;go_wp2_with (at_builtin;refine wpList_append_own_at _ rfl (.tmp 57) (.tmp 59) 44 rfl 0 33 t0 _ 1 24 Tryz.underlying44 hi hz0 hz1 hz2 rfl (by decide) _ _ _ rfl (o1.alloc _) ⟨wr.heap.size,0,none⟩ 1 1 [.slice none 0 0] rfl rfl (Zo _ [.slice none 0 0] 33 rfl) (by intro u hu;simp at hu;subst hu;rfl) (by unfold maxLen;omega) (by omega) (Nat.zero_le _) ?nextW)
      case nextW =>
       intro v' w6 hown6 hgrow6 _ hat6;obtain ⟨po6,pc6,hv6,_⟩:=Zd hown6;subst hv6;have hlow:∀ j,j<wr.heap.size→(Value.slice po (q3) pc).ownBlock≠some j→w6.heap[j]?=wr.heap[j]?:=fun j hj hne'=>(hgrow6.block j (by simp;omega) (fun e=>hne' e.symm)).trans (Zh _ _ hj)
       have hgo6:w6.heap[go]?=some (bOw v1 v2 (.slice po (q3) pc) v4):=(hlow go hgolt HP.out.2).trans HR.out.1;obtain ⟨W7W,hW7⟩:∃ W7W,W7W=w6.setCell ⟨go,2,none⟩ (.slice po6 (q3+1) pc6):=⟨_,rfl⟩;have hoth:∀ j,j≠go→W7W.heap[j]?=w6.heap[j]?:=fun j hj=>by rw [hW7];exact Below.heap_setCell _ _ _ _ hj
       have hnb:∀ j,(Value.slice po6 (q3+1) pc6).ownBlock=some j→(Value.slice po (q3) pc).ownBlock=some j∨wr.heap.size≤j:=by
        intro j hj;rcases hat6 with h | h
        ·exact .inl (h.symm.trans hj)
        ·right;rw [hj] at h;simp at h;omega
       have hsz7:wr.heap.size≤W7W.heap.size:=by
        have:=hgrow6.size;rw [hW7];simp at this ⊢;omega
       have hS:SameW wr W7W:=by rw [hW7];exact SameW.trans ⟨hgrow6.os,hgrow6.tape,hgrow6.output⟩ (Zp _ _ _)
       have hnb2:∀ j,(Value.slice po6 (q3+1) pc6).ownBlock=some j→j≠go:=by
        intro j hj;rcases hnb j hj with h | h
        ·exact fun e=>HP.out.2 (by rw [h,e])
        ·omega
       have hT:TookW wr W7W go v1 v2 (.slice po (q3) pc) v4 (.slice none 0 0) (q3) vs:=
        ⟨_,.slice none 0 0,by rw [hW7];exact Zg _ _ _ _ _ _ hgo6,Zj hown6 (fun j hj=>hoth j (hnb2 j hj)),.inl rfl,rfl,⟨hS.1,hS.2.1,hS.2.2,hsz7,fun k h1 h2=>(hoth k (fun e=>h2 (.inl e))).trans (hlow k h1 (fun e=>h2 (.inr (.inr e))))⟩,hnb⟩
       have HO':=hideIt (HR.out.2 W7W hT);have HW:=hideIt hW7;obtain ⟨b0,b1,b2,b3,bz⟩:=blkOw hgo6;clear hown6 hgrow6 hat6 hlow hgo6 hW7 hoth hnb hnb2 hsz7 hS o1 hT;go_wp2_with fail
       rw [←HW.out];clear b0 b1 b2 b3 bz a0 a1 a2 a3 az HW;go_loopw [7] (fun i wr=>i=.int .i64 0∧W7W=wr) (fun _ _=>0)
       case atStart=>exact ⟨rfl,rfl⟩
       case round =>
        obtain ⟨rfl,rfl⟩:=hrel;go_wp2_with fail
        refine bodyPost_end (v:=.tuple #[]) (by simp [results,Tryz.results13,go_sem]) rfl ?_;refine ⟨⟨_,rfl⟩,_,HO'.out.1,fun y hy=>?_,(HF3.out.2.1.mono (fun y h=>?_)).trans HO'.out.2 (fun y hy=>?_)⟩
        ·rcases hy with hy | hy | hy
         ·rcases HF3.out.1 y hy with h | h | h | h | h
          ·exact .inl h
          ·exact .inr (.inl h)
          ·exact .inr (.inr (.inr (.inr (.inl h))))
          ·exact .inr (.inr (.inl h))
          ·exact .inr (.inr (.inr (.inr (.inr (by omega)))))
         ·exact .inr (.inr (.inr (.inl hy)))
         ·have:=HF3.out.2.2;exact .inr (.inr (.inr (.inr (.inr (by omega)))))
        ·rcases h with h | h | h | h
         ·exact .inl h
         ·exact .inr (.inl h)
         ·exact .inr (.inr (.inr (.inr h)))
         ·exact .inr (.inr (.inl h))
        ·rcases hy with hy | hy
         ·rcases HF3.out.1 y hy with h | h | h | h | h
          ·exact .inl (.inl h)
          ·exact .inl (.inr (.inl h))
          ·exact .inl (.inr (.inr (.inr (.inr h))))
          ·exact .inl (.inr (.inr (.inl h)))
          ·exact .inr (by omega)
         ·exact .inl (.inr (.inr (.inr (.inl hy))))
     ·simp only [Value.slice.injEq] at e;obtain ⟨rfl,_,rfl⟩:=e;have hglt:g<wr.heap.size:=(Array.getElem?_eq_some_iff.1 hg).1;have hne:go≠g:=by
       intro e;rw [e,hg] at h0;simp at h0
      have hpg:(Value.slice po (q3) pc).ownBlock≠some g:=by
       intro e;obtain ⟨cur',h'⟩:=Zq o1 g e;rw [hg] at h';simp at h'
      have HP:Hid ((Value.slice po (q3) pc).ownBlock≠some g∧(Value.slice po (q3) pc).ownBlock≠some go):=⟨hpg,hpo⟩;have HGG:Hid (wr.heap[g]?=some (.cells cur 76 (0,0))∧cur.size=wc*2∧wc≤maxLen):=⟨hg,hs,hm⟩;have hcap:wc≤9223372036854775807:=hm;clear h0 r1 r2 r4 o2 o3 hpo hpg hg hs hm;go_wp2_with (at_builtin;refine wpList_append_own_at _ rfl (.tmp 57) (.tmp 59) 44 rfl 0 33 t0 _ 1 24 Tryz.underlying44 hi hz0 hz1 hz2 rfl (by decide) _ _ _ rfl (o1.alloc _) ⟨wr.heap.size,0,none⟩ 1 1 [.slice (some ⟨g,0,none⟩) wc wc] rfl rfl (Zo _ [.slice (some ⟨g,0,none⟩) wc wc] 33 rfl) (by intro u hu;simp at hu;subst hu;rfl) (by unfold maxLen;omega) (by omega) (Nat.zero_le _) ?nextW)
      case nextW =>
       intro v' w6 hown6 hgrow6 _ hat6;obtain ⟨po6,pc6,hv6,_⟩:=Zd hown6;subst hv6;have hlow:∀ j,j<wr.heap.size→(Value.slice po (q3) pc).ownBlock≠some j→w6.heap[j]?=wr.heap[j]?:=fun j hj hne'=>(hgrow6.block j (by simp;omega) (fun e=>hne' e.symm)).trans (Zh _ _ hj)
       have hgo6:w6.heap[go]?=some (bOw v1 v2 (.slice po (q3) pc) v4):=(hlow go hgolt HP.out.2).trans HR.out.1;obtain ⟨W7W,hW7⟩:∃ W7W,W7W=w6.setCell ⟨go,2,none⟩ (.slice po6 (q3+1) pc6):=⟨_,rfl⟩;have hoth:∀ j,j≠go→W7W.heap[j]?=w6.heap[j]?:=fun j hj=>by rw [hW7];exact Below.heap_setCell _ _ _ _ hj
       have hnb:∀ j,(Value.slice po6 (q3+1) pc6).ownBlock=some j→(Value.slice po (q3) pc).ownBlock=some j∨wr.heap.size≤j:=by
        intro j hj;rcases hat6 with h | h
        ·exact .inl (h.symm.trans hj)
        ·right;rw [hj] at h;simp at h;omega
       have hsz7:wr.heap.size≤W7W.heap.size:=by
        have:=hgrow6.size;rw [hW7];simp at this ⊢;omega
       have hS:SameW wr W7W:=by rw [hW7];exact SameW.trans ⟨hgrow6.os,hgrow6.tape,hgrow6.output⟩ (Zp _ _ _)
       have hg6:w6.heap[g]?=some (.cells cur 76 (0,0)):=(hlow g hglt HP.out.1).trans HGG.out.1;have hnb2:∀ j,(Value.slice po6 (q3+1) pc6).ownBlock=some j→j≠g∧j≠go:=by
        intro j hj;rcases hnb j hj with h | h
        ·exact ⟨fun e=>HP.out.1 (by rw [h,e]),fun e=>HP.out.2 (by rw [h,e])⟩
        ·exact ⟨by omega,by omega⟩
       have HW:Hid (W7W=w6.setCell ⟨go,2,none⟩ (.slice po6 (q3+1) pc6)∧W7W.heap[go]?=some (bOw v1 v2 (.slice po6 (q3+1) pc6) v4)∧W7W.heap[g]?=some (.cells cur 76 (0,0))∧W7W.ownsRow 0 33 1 (.slice po6 (q3+1) pc6) (q3+1) (vs++[.slice (some ⟨g,0,none⟩) wc wc])∧wr.heap.size≤W7W.heap.size∧(∀ k,k<wr.heap.size→k≠go→(Value.slice po (q3) pc).ownBlock≠some k→W7W.heap[k]?=wr.heap[k]?)∧(∀ j,(Value.slice po6 (q3+1) pc6).ownBlock=some j→j≠g)∧SameW wr W7W∧(∀ j,(Value.slice po6 (q3+1) pc6).ownBlock=some j→(Value.slice po (q3) pc).ownBlock=some j∨wr.heap.size≤j)):=
        ⟨hW7,by rw [hW7];exact Zg _ _ _ _ _ _ hgo6,(hoth g (fun e=>hne e.symm)).trans hg6,Zj hown6 (fun j hj=>hoth j (hnb2 j hj).2),hsz7,fun k h1 h2 h4=>(hoth k h2).trans (hlow k h1 h4),fun j hj=>(hnb2 j hj).1,hS,hnb⟩
       have HFIN:Hid (∀ (wz:World) (cur':Array Value),wz.heap[go]?=some (bOw v1 v2 (.slice po6 (q3+1) pc6) v4)→(∀ j,j≠g→wz.heap[j]?=W7W.heap[j]?)→wz.heap.size=W7W.heap.size→SameW W7W wz→wz.heap[g]?=some (.cells cur' 76 (0,0))→MarkG 2 (mW (((q3)+1:Nat):Int)) cur' wc→OwnAt wz go (Plus F3 (.slice (some ⟨g,0,none⟩) n3 wc) wr wz) (q1+1) (q2+1) ((q3+1)) (q4+1)∧Chg (fun y=>F3 y∨(Value.slice (some ⟨g,0,none⟩) n3 wc).ownBlock=some y) wr wz):=by
        intro wz cur' hgor hcj hcs hcS hcg hcm;have hS:=HW.out.2.2.2.2.2.2.2.1.trans hcS;exact HR.out.2 wz ⟨_,.slice (some ⟨g,0,none⟩) wc wc,hgor,Zj HW.out.2.2.2.1 (fun j hj=>hcj j (HW.out.2.2.2.2.2.2.1 j hj)),.inr ⟨g,wc,cur',rfl,HGG.out.2.2,hcg,hcm⟩,rfl,⟨hS.1,hS.2.1,hS.2.2,by rw [hcs];exact HW.out.2.2.2.2.1,fun j h1 h2=>(hcj j (fun e=>h2 (.inr (.inl (by rw [e];rfl))))).trans (HW.out.2.2.2.2.2.1 j h1 (fun e=>h2 (.inl e)) (fun e=>h2 (.inr (.inr e))))⟩,HW.out.2.2.2.2.2.2.2.2⟩
       obtain ⟨b0,b1,b2,b3,bz⟩:=blkOw hgo6;clear hown6 hgrow6 hat6 hlow hgo6 hg6 hW7 hoth hnb hnb2 hsz7 hS o1;go_wp2_with fail
       rw [←HW.out.1];clear b0 b1 b2 b3 bz a0 a1 a2 a3 az;go_loopw [7] (fun i wr=>∃ (k:Nat) (cur':Array Value),k≤wc∧i=.int .i64 k∧Hid (cur'.size=wc*2∧MarkG 2 (mW (((q3)+1:Nat):Int)) cur' k∧wr.heap[g]?=some (.cells cur' 76 (0,0))∧wr.heap.size=W7W.heap.size∧(∀ j,j≠g→wr.heap[j]?=W7W.heap[j]?)∧SameW W7W wr)) (fun i _=>wc - (intOf i).toNat)
       case atStart=>exact ⟨0,cur,Nat.zero_le _,rfl,HGG.out.2.1,ZaQ _ _ _,HW.out.2.2.1,rfl,fun _ _=>rfl,rfl,rfl,rfl⟩
       case round =>
        obtain ⟨k,cur',hk,rfl,HC⟩:=hrel;have hgor:wr.heap[go]?=some (bOw v1 v2 (.slice po6 (q3+1) pc6) v4):=(HC.out.2.2.2.2.1 go hne).trans HW.out.2.1;by_cases hlt:k<wc
        ·obtain ⟨b0,b1,b2,b3,bz⟩:=blkOw hgor;have hsz:=HC.out.1;obtain ⟨⟨u0,hu0⟩,z0⟩:=blkC HC.out.2.2.1 (k*2) (by omega);obtain ⟨⟨u1,hu1⟩,z1⟩:=blkC HC.out.2.2.1 (k*2+1) (by omega);have hlti:(k:Int)<(wc:Int):=by omega
         have HRR:Hid (((wr.setCell ⟨g,k*2,none⟩ (.int .i64 (((q3)+1:Nat):Int))).setCell ⟨g,k*2+1,none⟩ (.string ⟨#[]⟩)).heap[g]?=some (.cells ((cur'.setIfInBounds (k*2) (.int .i64 (((q3)+1:Nat):Int))).setIfInBounds (k*2+1) (.string ⟨#[]⟩)) 76 (0,0))):=
          (Zg _ g (k*2+1) _ _ _ (Zg _ g (k*2) _ _ _ HC.out.2.2.1))
         clear hsz hgor;go_wp2_with fail
         go_roundw
         case rel =>
          refine ⟨k+1,_,by omega,by go_num,?_,Zij HC.out.2.1 HC.out.1 hlt,HRR.out,?_,?_,?_⟩
          ·simp;exact HC.out.1
          ·simp;exact HC.out.2.2.2.1
          ·intro j hj;exact (Below.heap_setCell _ _ _ _ hj).trans ((Below.heap_setCell _ _ _ _ hj).trans (HC.out.2.2.2.2.1 j hj))
          ·exact HC.out.2.2.2.2.2.trans ((Zp _ _ _).trans (Zp _ _ _))
         case measure=>simp [intOf];omega
        ·obtain rfl:k=wc:=by omega
         have HO':=hideIt (HFIN.out wr cur' hgor HC.out.2.2.2.2.1 HC.out.2.2.2.1 HC.out.2.2.2.2.2 HC.out.2.2.1 HC.out.2.1);clear hgor HC HW HFIN;go_wp2_with fail
         refine bodyPost_end (v:=.tuple #[]) (by simp [results,Tryz.results13,go_sem]) rfl ?_;refine ⟨⟨_,rfl⟩,_,HO'.out.1,fun y hy=>?_,(HF3.out.2.1.mono (fun y h=>?_)).trans HO'.out.2 (fun y hy=>?_)⟩
         ·rcases hy with hy | hy | hy
          ·rcases HF3.out.1 y hy with h | h | h | h | h
           ·exact .inl h
           ·exact .inr (.inl h)
           ·exact .inr (.inr (.inr (.inr (.inl h))))
           ·exact .inr (.inr (.inl h))
           ·exact .inr (.inr (.inr (.inr (.inr (by omega)))))
          ·exact .inr (.inr (.inr (.inl hy)))
          ·have:=HF3.out.2.2;exact .inr (.inr (.inr (.inr (.inr (by omega)))))
         ·rcases h with h | h | h | h
          ·exact .inl h
          ·exact .inr (.inl h)
          ·exact .inr (.inr (.inr (.inr h)))
          ·exact .inr (.inr (.inl h))
         ·rcases hy with hy | hy
          ·rcases HF3.out.1 y hy with h | h | h | h | h
           ·exact .inl (.inl h)
           ·exact .inl (.inr (.inl h))
           ·exact .inl (.inr (.inr (.inr (.inr h))))
           ·exact .inl (.inr (.inr (.inl h)))
           ·exact .inr (by omega)
          ·exact .inl (.inr (.inr (.inr (.inl hy))))
end Lw
end Go.Proofs.YtcpikklofilkcaaGreat
