import Derived.Test.YtmgkcbdlfodjmaaGreatDoorBqE
import Derived.Laws.AppendOwnNone
set_option maxRecDepth 100000
set_option maxHeartbeats 16000000
namespace Go.Proofs.YtmgkcbdlfodjmaaGreatDoor
open Go.RowKit
namespace Lw
open Co
def RowsG (ty tyl:TypeId) (sz:Nat) (mk:Int→List Value) (w:World) (F:Nat→Prop) (v:Value) (q:Nat):Prop:=
 ∃ vs,w.ownsRow 0 tyl 1 v q vs∧(∀ g,v.ownBlock=some g→F g)∧∀ (i:Nat) (x:Value),vs[i]?=some x→FullG ty sz (mk ((i+1:Nat):Int)) w x∧∀ g,x.ownBlock=some g→F g
theorem RowsG.keep {E I:TypeId} {sz:Nat} {mk:Int→List Value} {w J:World} {F Q:Nat→Prop} {v:Value} {q:Nat} (h:RowsG E I sz mk w F v q) (D:∀ g,F g→J.heap[g]?=w.heap[g]?) (hF:∀ g,F g→Q g):RowsG E I sz mk J Q v q:=by
 obtain ⟨N,L,A,O⟩:=h;refine ⟨N,Zz L (fun j M=>D j (A j M)),fun g d=>hF g (A g d),fun i x m=>?_⟩;exact ⟨(O i x m).1.keep (fun g d=>D g ((O i x m).2 g d)),fun g d=>hF g ((O i x m).2 g d)⟩
theorem RowsG.keep' {A D:TypeId} {sz:Nat} {mk:Int→List Value} {w Q:World} {F J:Nat→Prop} {v:Value} {q:Nat} (h:RowsG A D sz mk w F v q) (N:∀ g V t,F g→w.heap[g]?=some (.cells V t (0,0))→(t=A∨t=D)→Q.heap[g]?=w.heap[g]?) (hF:∀ g,F g→J g):RowsG A D sz mk Q J v q:=by
 obtain ⟨R,L,M,m⟩:=h;refine ⟨R,Zz L (fun j O=>?_),fun g d=>hF g (M g d),fun i x X=>?_⟩
 ·obtain ⟨V,I⟩:=Z5 L j O;exact N j V D (M j O) I (.inr rfl)
 ·refine ⟨(m i x X).1.keep (fun g d=>?_),fun g d=>hF g ((m i x X).2 g d)⟩;rcases (m i x X).1 with e | ⟨E,U,V,e,_,I,_⟩
  ·rw [e] at d;simp [Value.ownBlock] at d
  ·have:E=g:=by rw [e] at d;simpa [Value.ownBlock] using d
   subst this;exact N E V A ((m i x X).2 E d) I (.inl rfl)
abbrev Zfz (w:World) (F:Nat→Prop) (v:Value) (q:Nat):Prop:=RowsG 82 37 4 mP w F v q
abbrev Zfy (w:World) (F:Nat→Prop) (v:Value) (q:Nat):Prop:=RowsG 86 40 4 mV w F v q
abbrev Zfw (w:World) (F:Nat→Prop) (v:Value) (q:Nat):Prop:=RowsG 88 41 2 mW w F v q
abbrev Zff (w:World) (F:Nat→Prop) (v:Value) (q:Nat):Prop:=RowsG 84 42 3 mT w F v q
structure OwnAt (w:World) (go:Nat) (F:Nat→Prop) (q1 q2 q3 q4:Nat):Prop where
 ex:∃ v1 v2 v3 v4,w.heap[go]?=some (bOw v1 v2 v3 v4)∧Zfz w F v1 q1∧Zfy w F v2 q2∧Zfw w F v3 q3∧Zff w F v4 q4
 go:F go
 lt:∀ x,F x→x<w.heap.size
theorem OwnAt.keep {w q:World} {m:Nat} {F G:Nat→Prop} {E I J L:Nat} (d:OwnAt w m F E I J L) (A:Chg G w q) (hd:∀ x,F x→¬G x):OwnAt q m F E I J L:=by
 obtain ⟨V,X,Y,aa,M,N,O,Q,R⟩:=d.ex;have h:∀ g,F g→q.heap[g]?=w.heap[g]?:=fun g D=>A.block g (d.lt g D) (hd g D)
 exact ⟨⟨V,X,Y,aa,(h m d.go).trans M,N.keep h (fun _ d=>d),O.keep h (fun _ d=>d),Q.keep h (fun _ d=>d),R.keep h (fun _ d=>d)⟩,d.go,fun x U=>Yl (d.lt x U) A.size⟩
def Za2 (F:Nat→Prop) (src:Value) (w w':World):Nat→Prop:=fun y=>F y∨src.ownBlock=some y∨(w.heap.size≤y∧y<w'.heap.size)
def ZtF (w w':World) (go:Nat) (v1 v2 v3 v4:Value) (src:Value) (q:Nat) (vs:List Value):Prop:=
 ∃ v' x,w'.heap[go]?=some (bOw v' v2 v3 v4)∧w'.ownsRow 0 37 1 v' (q+1) (vs++[x])∧FullG 82 4 (mP ((q+1:Nat):Int)) w' x∧x.ownBlock=src.ownBlock∧Chg (fun y=>y=go∨src.ownBlock=some y∨v1.ownBlock=some y) w w'∧∀ j,v'.ownBlock=some j→v1.ownBlock=some j∨w.heap.size≤j
theorem Zrb {w D:World} {M:Nat} {F:Nat→Prop} {Q ad ae af:Nat} {N R U V J:Value} {L:List Value} (ah:∀ x,F x→x<w.heap.size) (ag:F M) (hb:w.heap[M]?=some (bOw N R U V)) (ac:Zfy w F R ad) (ap:Zfw w F U ae) (aq:Zff w F V af) 
  (ai:w.ownsRow 0 37 1 N Q L) (ak:∀ g,N.ownBlock=some g→F g) (X:∀ (i:Nat) (x:Value),L[i]?=some x→FullG 82 4 (mP ((i+1:Nat):Int)) w x∧∀ g,x.ownBlock=some g→F g)
  (aj:∀ g,J.ownBlock=some g→¬F g∧g<w.heap.size) (d:ZtF w D M N R U V J Q L):OwnAt D M (Za2 F J w D) (Q+1) ad ae af∧Chg (fun y=>F y∨J.ownBlock=some y) w D:=by
 obtain ⟨v',x,al,a2,a3,a4,a5,am⟩:=d;have aa:∀ g,F g→g≠M→N.ownBlock≠some g→D.heap[g]?=w.heap[g]?:=fun g m ao ac=>a5.block g (ah g m) (fun d=>by
  rcases d with d | d | d
  ·exact ao d
  ·exact (aj g d).1 m
  ·exact ac d)
 have Y:∀ g q t,w.heap[g]?=some (.cells q t (0,0))→g=M→t=30:=by
  intro g q t E e;rw [e,hb] at E;simp at E;exact E.2.symm
 have ab:∀ g q t,w.heap[g]?=some (.cells q t (0,0))→N.ownBlock=some g→t=37:=by
  intro g q t E e;obtain ⟨a6,ar⟩:=Z5 ai g e;rw [ar] at E;simp at E;exact E.2.symm
 have ax:Zfy D (Za2 F J w D) R ad:=ac.keep' (fun g q t m I h=>aa g m
  (fun e=>by have:=Y g q t I e;rcases h with h | h <;> rw [h] at this <;> exact absurd this (by decide))
  (fun e=>by have:=ab g q t I e;rcases h with h | h <;> rw [h] at this <;> exact absurd this (by decide))) (fun _ d=>.inl d)
 have ay:Zfw D (Za2 F J w D) U ae:=ap.keep' (fun g q t m I h=>aa g m
  (fun e=>by have:=Y g q t I e;rcases h with h | h <;> rw [h] at this <;> exact absurd this (by decide))
  (fun e=>by have:=ab g q t I e;rcases h with h | h <;> rw [h] at this <;> exact absurd this (by decide))) (fun _ d=>.inl d)
 have az:Zff D (Za2 F J w D) V af:=aq.keep' (fun g q t m I h=>aa g m
  (fun e=>by have:=Y g q t I e;rcases h with h | h <;> rw [h] at this <;> exact absurd this (by decide))
  (fun e=>by have:=ab g q t I e;rcases h with h | h <;> rw [h] at this <;> exact absurd this (by decide))) (fun _ d=>.inl d)
 have a0:Zfz D (Za2 F J w D) v' (Q+1):=by
  have aw:L.length=Q:=by simpa using ai.1
  refine ⟨L++[x],a2,fun g m=>?_,fun i y A=>?_⟩
  ·rcases am g m with d | d
   ·exact .inl (ak g d)
   ·refine .inr (.inr ⟨d,?_⟩);obtain ⟨q,E⟩:=Z5 a2 g m;exact (Ya.1 E).1
  ·by_cases au:i<L.length
   ·rw [List.getElem?_append_left au] at A;refine ⟨(X i y A).1.keep (fun g m=>?_),fun g m=>.inl ((X i y A).2 g m)⟩;rcases (X i y A).1 with e | ⟨O,a1,q,e,_,E,_⟩
    ·rw [e] at m;simp [Value.ownBlock] at m
    ·have:O=g:=by rw [e] at m;simpa [Value.ownBlock] using m
     subst this;refine aa O ((X i y A).2 O m) (fun e=>?_) (fun e=>?_)
     ·exact absurd (Y O q _ E e) (by decide)
     ·exact absurd (ab O q _ E e) (by decide)
   ·have av:i=L.length:=by
     have:=(Yc.1 A).1;simp at this;omega
    subst av;rw [List.getElem?_append_right (Yd _)] at A;simp at A;subst A;rw [aw];exact ⟨a3,fun g m=>.inr (.inl (by rw [←a4];exact m))⟩
 refine ⟨⟨⟨v',R,U,V,al,a0,ax,ay,az⟩,.inl ag,fun y A=>?_⟩,a5.mono (fun y A=>?_)⟩
 ·rcases A with d | d | d
  ·exact Yl (ah y d) a5.size
  ·exact Yl (aj y d).2 a5.size
  ·exact d.2
 ·rcases A with d | d | d
  ·exact .inl (by rw [d];exact ag)
  ·exact .inr d
  ·exact .inl (ak y d)
def Zn5 (w w':World) (go:Nat) (v1 v2 v3 v4:Value) (src:Value) (q:Nat) (vs:List Value):Prop:=
 ∃ v' x,w'.heap[go]?=some (bOw v1 v' v3 v4)∧w'.ownsRow 0 40 1 v' (q+1) (vs++[x])∧FullG 86 4 (mV ((q+1:Nat):Int)) w' x∧x.ownBlock=src.ownBlock∧Chg (fun y=>y=go∨src.ownBlock=some y∨v2.ownBlock=some y) w w'∧∀ j,v'.ownBlock=some j→v2.ownBlock=some j∨w.heap.size≤j
theorem ZtI {w D:World} {M:Nat} {F:Nat→Prop} {ad Q ae af:Nat} {R N U V J:Value} {L:List Value} (ah:∀ x,F x→x<w.heap.size) (ag:F M) (hb:w.heap[M]?=some (bOw R N U V)) (ac:Zfz w F R ad) (ap:Zfw w F U ae) (aq:Zff w F V af) 
  (ai:w.ownsRow 0 40 1 N Q L) (ak:∀ g,N.ownBlock=some g→F g) (X:∀ (i:Nat) (x:Value),L[i]?=some x→FullG 86 4 (mV ((i+1:Nat):Int)) w x∧∀ g,x.ownBlock=some g→F g)
  (aj:∀ g,J.ownBlock=some g→¬F g∧g<w.heap.size) (d:Zn5 w D M R N U V J Q L):OwnAt D M (Za2 F J w D) ad (Q+1) ae af∧Chg (fun y=>F y∨J.ownBlock=some y) w D:=by
 obtain ⟨v',x,al,a2,a3,a4,a5,am⟩:=d;have aa:∀ g,F g→g≠M→N.ownBlock≠some g→D.heap[g]?=w.heap[g]?:=fun g m ac ao=>a5.block g (ah g m) (fun d=>by
  rcases d with d | d | d
  ·exact ac d
  ·exact (aj g d).1 m
  ·exact ao d)
 have Y:∀ g q t,w.heap[g]?=some (.cells q t (0,0))→g=M→t=30:=by
  intro g q t E e;rw [e,hb] at E;simp at E;exact E.2.symm
 have ab:∀ g q t,w.heap[g]?=some (.cells q t (0,0))→N.ownBlock=some g→t=40:=by
  intro g q t E e;obtain ⟨a6,ar⟩:=Z5 ai g e;rw [ar] at E;simp at E;exact E.2.symm
 have ax:Zfz D (Za2 F J w D) R ad:=ac.keep' (fun g q t m I h=>aa g m
  (fun e=>by have:=Y g q t I e;rcases h with h | h <;> rw [h] at this <;> exact absurd this (by decide))
  (fun e=>by have:=ab g q t I e;rcases h with h | h <;> rw [h] at this <;> exact absurd this (by decide))) (fun _ d=>.inl d)
 have ay:Zfw D (Za2 F J w D) U ae:=ap.keep' (fun g q t m I h=>aa g m
  (fun e=>by have:=Y g q t I e;rcases h with h | h <;> rw [h] at this <;> exact absurd this (by decide))
  (fun e=>by have:=ab g q t I e;rcases h with h | h <;> rw [h] at this <;> exact absurd this (by decide))) (fun _ d=>.inl d)
 have az:Zff D (Za2 F J w D) V af:=aq.keep' (fun g q t m I h=>aa g m
  (fun e=>by have:=Y g q t I e;rcases h with h | h <;> rw [h] at this <;> exact absurd this (by decide))
  (fun e=>by have:=ab g q t I e;rcases h with h | h <;> rw [h] at this <;> exact absurd this (by decide))) (fun _ d=>.inl d)
 have a0:Zfy D (Za2 F J w D) v' (Q+1):=by
  have aw:L.length=Q:=by simpa using ai.1
  refine ⟨L++[x],a2,fun g m=>?_,fun i y A=>?_⟩
  ·rcases am g m with d | d
   ·exact .inl (ak g d)
   ·refine .inr (.inr ⟨d,?_⟩);obtain ⟨q,E⟩:=Z5 a2 g m;exact (Ya.1 E).1
  ·by_cases au:i<L.length
   ·rw [List.getElem?_append_left au] at A;refine ⟨(X i y A).1.keep (fun g m=>?_),fun g m=>.inl ((X i y A).2 g m)⟩;rcases (X i y A).1 with e | ⟨O,a1,q,e,_,E,_⟩
    ·rw [e] at m;simp [Value.ownBlock] at m
    ·have:O=g:=by rw [e] at m;simpa [Value.ownBlock] using m
     subst this;refine aa O ((X i y A).2 O m) (fun e=>?_) (fun e=>?_)
     ·exact absurd (Y O q _ E e) (by decide)
     ·exact absurd (ab O q _ E e) (by decide)
   ·have av:i=L.length:=by
     have:=(Yc.1 A).1;simp at this;omega
    subst av;rw [List.getElem?_append_right (Yd _)] at A;simp at A;subst A;rw [aw];exact ⟨a3,fun g m=>.inr (.inl (by rw [←a4];exact m))⟩
 refine ⟨⟨⟨R,v',U,V,al,ax,a0,ay,az⟩,.inl ag,fun y A=>?_⟩,a5.mono (fun y A=>?_)⟩
 ·rcases A with d | d | d
  ·exact Yl (ah y d) a5.size
  ·exact Yl (aj y d).2 a5.size
  ·exact d.2
 ·rcases A with d | d | d
  ·exact .inl (by rw [d];exact ag)
  ·exact .inr d
  ·exact .inl (ak y d)
def ZiY (w w':World) (go:Nat) (v1 v2 v3 v4:Value) (src:Value) (q:Nat) (vs:List Value):Prop:=
 ∃ v' x,w'.heap[go]?=some (bOw v1 v2 v' v4)∧w'.ownsRow 0 41 1 v' (q+1) (vs++[x])∧FullG 88 2 (mW ((q+1:Nat):Int)) w' x∧x.ownBlock=src.ownBlock∧Chg (fun y=>y=go∨src.ownBlock=some y∨v3.ownBlock=some y) w w'∧∀ j,v'.ownBlock=some j→v3.ownBlock=some j∨w.heap.size≤j
theorem Zq0 {w D:World} {M:Nat} {F:Nat→Prop} {ae af Q ag:Nat} {R U N V J:Value} {L:List Value} (ai:∀ x,F x→x<w.heap.size) (ah:F M) (hb:w.heap[M]?=some (bOw R U N V)) (ac:Zfz w F R ae) (ad:Zfy w F U af) (ap:Zff w F V ag) 
  (aj:w.ownsRow 0 41 1 N Q L) (al:∀ g,N.ownBlock=some g→F g) (X:∀ (i:Nat) (x:Value),L[i]?=some x→FullG 88 2 (mW ((i+1:Nat):Int)) w x∧∀ g,x.ownBlock=some g→F g)
  (ak:∀ g,J.ownBlock=some g→¬F g∧g<w.heap.size) (d:ZiY w D M R U N V J Q L):OwnAt D M (Za2 F J w D) ae af (Q+1) ag∧Chg (fun y=>F y∨J.ownBlock=some y) w D:=by
 obtain ⟨v',x,am,a2,a3,a4,a5,ao⟩:=d;have aa:∀ g,F g→g≠M→N.ownBlock≠some g→D.heap[g]?=w.heap[g]?:=fun g m ac ad=>a5.block g (ai g m) (fun d=>by
  rcases d with d | d | d
  ·exact ac d
  ·exact (ak g d).1 m
  ·exact ad d)
 have Y:∀ g q t,w.heap[g]?=some (.cells q t (0,0))→g=M→t=30:=by
  intro g q t E e;rw [e,hb] at E;simp at E;exact E.2.symm
 have ab:∀ g q t,w.heap[g]?=some (.cells q t (0,0))→N.ownBlock=some g→t=41:=by
  intro g q t E e;obtain ⟨a1,aq⟩:=Z5 aj g e;rw [aq] at E;simp at E;exact E.2.symm
 have aw:Zfz D (Za2 F J w D) R ae:=ac.keep' (fun g q t m I h=>aa g m
  (fun e=>by have:=Y g q t I e;rcases h with h | h <;> rw [h] at this <;> exact absurd this (by decide))
  (fun e=>by have:=ab g q t I e;rcases h with h | h <;> rw [h] at this <;> exact absurd this (by decide))) (fun _ d=>.inl d)
 have ax:Zfy D (Za2 F J w D) U af:=ad.keep' (fun g q t m I h=>aa g m
  (fun e=>by have:=Y g q t I e;rcases h with h | h <;> rw [h] at this <;> exact absurd this (by decide))
  (fun e=>by have:=ab g q t I e;rcases h with h | h <;> rw [h] at this <;> exact absurd this (by decide))) (fun _ d=>.inl d)
 have ay:Zff D (Za2 F J w D) V ag:=ap.keep' (fun g q t m I h=>aa g m
  (fun e=>by have:=Y g q t I e;rcases h with h | h <;> rw [h] at this <;> exact absurd this (by decide))
  (fun e=>by have:=ab g q t I e;rcases h with h | h <;> rw [h] at this <;> exact absurd this (by decide))) (fun _ d=>.inl d)
 have az:Zfw D (Za2 F J w D) v' (Q+1):=by
  have av:L.length=Q:=by simpa using aj.1
  refine ⟨L++[x],a2,fun g m=>?_,fun i y A=>?_⟩
  ·rcases ao g m with d | d
   ·exact .inl (al g d)
   ·refine .inr (.inr ⟨d,?_⟩);obtain ⟨q,E⟩:=Z5 a2 g m;exact (Ya.1 E).1
  ·by_cases ar:i<L.length
   ·rw [List.getElem?_append_left ar] at A;refine ⟨(X i y A).1.keep (fun g m=>?_),fun g m=>.inl ((X i y A).2 g m)⟩;rcases (X i y A).1 with e | ⟨O,a0,q,e,_,E,_⟩
    ·rw [e] at m;simp [Value.ownBlock] at m
    ·have:O=g:=by rw [e] at m;simpa [Value.ownBlock] using m
     subst this;refine aa O ((X i y A).2 O m) (fun e=>?_) (fun e=>?_)
     ·exact absurd (Y O q _ E e) (by decide)
     ·exact absurd (ab O q _ E e) (by decide)
   ·have au:i=L.length:=by
     have:=(Yc.1 A).1;simp at this;omega
    subst au;rw [List.getElem?_append_right (Yd _)] at A;simp at A;subst A;rw [av];exact ⟨a3,fun g m=>.inr (.inl (by rw [←a4];exact m))⟩
 refine ⟨⟨⟨R,U,v',V,am,aw,ax,az,ay⟩,.inl ah,fun y A=>?_⟩,a5.mono (fun y A=>?_)⟩
 ·rcases A with d | d | d
  ·exact Yl (ai y d) a5.size
  ·exact Yl (ak y d).2 a5.size
  ·exact d.2
 ·rcases A with d | d | d
  ·exact .inl (by rw [d];exact ah)
  ·exact .inr d
  ·exact .inl (al y d)
def ZtK (w w':World) (go:Nat) (v1 v2 v3 v4:Value) (src:Value) (q:Nat) (vs:List Value):Prop:=
 ∃ v' x,w'.heap[go]?=some (bOw v1 v2 v3 v')∧w'.ownsRow 0 42 1 v' (q+1) (vs++[x])∧FullG 84 3 (mT ((q+1:Nat):Int)) w' x∧x.ownBlock=src.ownBlock∧Chg (fun y=>y=go∨src.ownBlock=some y∨v4.ownBlock=some y) w w'∧∀ j,v'.ownBlock=some j→v4.ownBlock=some j∨w.heap.size≤j
theorem Zq9 {w D:World} {M:Nat} {F:Nat→Prop} {ae af ag Q:Nat} {R U V N J:Value} {L:List Value} (ai:∀ x,F x→x<w.heap.size) (ah:F M) (hb:w.heap[M]?=some (bOw R U V N)) (ac:Zfz w F R ae) (ad:Zfy w F U af) (ap:Zfw w F V ag) 
  (aj:w.ownsRow 0 42 1 N Q L) (al:∀ g,N.ownBlock=some g→F g) (X:∀ (i:Nat) (x:Value),L[i]?=some x→FullG 84 3 (mT ((i+1:Nat):Int)) w x∧∀ g,x.ownBlock=some g→F g)
  (ak:∀ g,J.ownBlock=some g→¬F g∧g<w.heap.size) (d:ZtK w D M R U V N J Q L):OwnAt D M (Za2 F J w D) ae af ag (Q+1)∧Chg (fun y=>F y∨J.ownBlock=some y) w D:=by
 obtain ⟨v',x,am,a2,a3,a4,a5,ao⟩:=d;have aa:∀ g,F g→g≠M→N.ownBlock≠some g→D.heap[g]?=w.heap[g]?:=fun g m ac ad=>a5.block g (ai g m) (fun d=>by
  rcases d with d | d | d
  ·exact ac d
  ·exact (ak g d).1 m
  ·exact ad d)
 have Y:∀ g q t,w.heap[g]?=some (.cells q t (0,0))→g=M→t=30:=by
  intro g q t E e;rw [e,hb] at E;simp at E;exact E.2.symm
 have ab:∀ g q t,w.heap[g]?=some (.cells q t (0,0))→N.ownBlock=some g→t=42:=by
  intro g q t E e;obtain ⟨a1,aq⟩:=Z5 aj g e;rw [aq] at E;simp at E;exact E.2.symm
 have aw:Zfz D (Za2 F J w D) R ae:=ac.keep' (fun g q t m I h=>aa g m
  (fun e=>by have:=Y g q t I e;rcases h with h | h <;> rw [h] at this <;> exact absurd this (by decide))
  (fun e=>by have:=ab g q t I e;rcases h with h | h <;> rw [h] at this <;> exact absurd this (by decide))) (fun _ d=>.inl d)
 have ax:Zfy D (Za2 F J w D) U af:=ad.keep' (fun g q t m I h=>aa g m
  (fun e=>by have:=Y g q t I e;rcases h with h | h <;> rw [h] at this <;> exact absurd this (by decide))
  (fun e=>by have:=ab g q t I e;rcases h with h | h <;> rw [h] at this <;> exact absurd this (by decide))) (fun _ d=>.inl d)
 have ay:Zfw D (Za2 F J w D) V ag:=ap.keep' (fun g q t m I h=>aa g m
  (fun e=>by have:=Y g q t I e;rcases h with h | h <;> rw [h] at this <;> exact absurd this (by decide))
  (fun e=>by have:=ab g q t I e;rcases h with h | h <;> rw [h] at this <;> exact absurd this (by decide))) (fun _ d=>.inl d)
 have az:Zff D (Za2 F J w D) v' (Q+1):=by
  have av:L.length=Q:=by simpa using aj.1
  refine ⟨L++[x],a2,fun g m=>?_,fun i y A=>?_⟩
  ·rcases ao g m with d | d
   ·exact .inl (al g d)
   ·refine .inr (.inr ⟨d,?_⟩);obtain ⟨q,E⟩:=Z5 a2 g m;exact (Ya.1 E).1
  ·by_cases ar:i<L.length
   ·rw [List.getElem?_append_left ar] at A;refine ⟨(X i y A).1.keep (fun g m=>?_),fun g m=>.inl ((X i y A).2 g m)⟩;rcases (X i y A).1 with e | ⟨O,a0,q,e,_,E,_⟩
    ·rw [e] at m;simp [Value.ownBlock] at m
    ·have:O=g:=by rw [e] at m;simpa [Value.ownBlock] using m
     subst this;refine aa O ((X i y A).2 O m) (fun e=>?_) (fun e=>?_)
     ·exact absurd (Y O q _ E e) (by decide)
     ·exact absurd (ab O q _ E e) (by decide)
   ·have au:i=L.length:=by
     have:=(Yc.1 A).1;simp at this;omega
    subst au;rw [List.getElem?_append_right (Yd _)] at A;simp at A;subst A;rw [av];exact ⟨a3,fun g m=>.inr (.inl (by rw [←a4];exact m))⟩
 refine ⟨⟨⟨R,U,V,v',am,aw,ax,ay,az⟩,.inl ah,fun y A=>?_⟩,a5.mono (fun y A=>?_)⟩
 ·rcases A with d | d | d
  ·exact Yl (ai y d) a5.size
  ·exact Yl (ak y d).2 a5.size
  ·exact d.2
 ·rcases A with d | d | d
  ·exact .inl (by rw [d];exact ah)
  ·exact .inr d
  ·exact .inl (al y d)
theorem Zlx (m:Nat) (F:Nat→Prop) (A Y aa ab:Nat) (b:Int) (h:Option Addr) (n vc:Nat) (ar:List Value) (w:World) (d:OwnAt w m F A Y aa ab) (O:A≤1099511627776) (N:w.ownsRow 0 82 4 (.slice h n vc) n ar) (hd:∀ g,(Value.slice h n vc).ownBlock=some g→¬F g) :
  Calls Tryz.prog 26 #[.pointer (some ⟨m,0,none⟩),.agg #[.int .i64 b,.slice h n vc]] w fun e D=>(∃ x,e=.returned x)∧OwnAt D m (Za2 F (.slice h n vc) w D) (A+1) Y aa ab∧Chg (fun y=>F y∨(Value.slice h n vc).ownBlock=some y) w D:=by
 obtain ⟨av,af,ag,ah,E,aq,ac,ad,ae⟩:=d.ex;obtain ⟨ai,q,R,U⟩:=aq;obtain ⟨X,V,rfl,_⟩:=Zf q;have Q:∀ g,(Value.slice h n vc).ownBlock=some g→¬F g∧g<w.heap.size:=fun g I=>⟨hd g I,(N.lt g I).2⟩
 rcases N.2 with ⟨e,e2⟩ | ⟨g,au,aj,e,_,I,al,ak,am,_⟩
 ·simp only [Value.slice.injEq] at e;obtain ⟨rfl,rfl,rfl⟩:=e;refine (ZqN m b af ag ah X V A ai w E q O).mono ?_;rintro e D ⟨L,ap,ao,J,a2,a3,a4⟩;exact ⟨L,Zrb d.lt d.go E ac ad ae q R U Q ⟨_,.slice none 0 0,J,a2,.inl rfl,rfl,a3.mono (fun y M=>M.elim .inl (fun d=>.inr (.inr d))),a4⟩⟩
 ·simp only [Value.slice.injEq] at e;obtain ⟨rfl,_,rfl⟩:=e;refine (ZoQ m g b af ag ah X V A ai n vc aj w E q O I am ak al).mono ?_;rintro e D ⟨L,ap,ao,J,a2,a3,a4,a5⟩;exact ⟨L,Zrb d.lt d.go E ac ad ae q R U Q ⟨_,.slice (some ⟨g,0,none⟩) vc vc,J,a2,a3,rfl,a4.mono (fun y M=>by
   rcases M with d | d | d
   ·exact .inl d
   ·exact .inr (.inl (by rw [d];rfl))
   ·exact .inr (.inr d)),a5⟩⟩
theorem ZlQ (m:Nat) (F:Nat→Prop) (Y aa ab A:Nat) (h:Option Addr) (n vc:Nat) (ar:List Value) (w:World) (d:OwnAt w m F Y aa ab A) (O:A≤1099511627776) (N:w.ownsRow 0 84 3 (.slice h n vc) n ar) (hd:∀ g,(Value.slice h n vc).ownBlock=some g→¬F g) :
  Calls Tryz.prog 27 #[.pointer (some ⟨m,0,none⟩),.slice h n vc] w fun e D=>(∃ x,e=.returned x)∧OwnAt D m (Za2 F (.slice h n vc) w D) Y aa ab (A+1)∧Chg (fun y=>F y∨(Value.slice h n vc).ownBlock=some y) w D:=by
 obtain ⟨af,ag,ah,av,E,ac,ad,ae,aq⟩:=d.ex;obtain ⟨ai,q,R,U⟩:=aq;obtain ⟨X,V,rfl,_⟩:=Zf q;have Q:∀ g,(Value.slice h n vc).ownBlock=some g→¬F g∧g<w.heap.size:=fun g I=>⟨hd g I,(N.lt g I).2⟩
 rcases N.2 with ⟨e,e2⟩ | ⟨g,au,aj,e,_,I,al,ak,am,_⟩
 ·simp only [Value.slice.injEq] at e;obtain ⟨rfl,rfl,rfl⟩:=e;refine (Zqp m af ag ah X V A ai w E q O).mono ?_;rintro e D ⟨L,ap,ao,J,a2,a3,a4⟩;exact ⟨L,Zq9 d.lt d.go E ac ad ae q R U Q ⟨_,.slice none 0 0,J,a2,.inl rfl,rfl,a3.mono (fun y M=>M.elim .inl (fun d=>.inr (.inr d))),a4⟩⟩
 ·simp only [Value.slice.injEq] at e;obtain ⟨rfl,_,rfl⟩:=e;refine (Zo2 m g af ag ah X V A ai n vc aj w E q O I am ak al).mono ?_;rintro e D ⟨L,ap,ao,J,a2,a3,a4,a5⟩;exact ⟨L,Zq9 d.lt d.go E ac ad ae q R U Q ⟨_,.slice (some ⟨g,0,none⟩) vc vc,J,a2,a3,rfl,a4.mono (fun y M=>by
   rcases M with d | d | d
   ·exact .inl d
   ·exact .inr (.inl (by rw [d];rfl))
   ·exact .inr (.inr d)),a5⟩⟩
theorem ZaN {w:World} {ad:Array Oper} {rest:List Oper} {o:Oper} {a:Act} {O:Exit→Act→World→Prop} (m q:TypeId) (sz D:Nat) (z:Value) (aj:(Tryz.prog.info? m).map (fun i=>(i.zero,i.size,i.bytes))=some (some z,sz,D)) (ab:Tryz.prog.underlying q=some (.slice m)) (aw:z.cells.size=sz) (aq:0<sz) (ah:D≤64)
  (U:o.guard=none) (s x:Operand) (X:o.op=.call {callee:=.builtin .append,args:=#[s,x],argTypes:=#[q,q]}) (base:Nat)
  (v:Value) (n:Nat) (L:List Value) (aa:a.eval s=v) (I:w.ownsRow base m sz v n L)
  (so:Option Addr) (d c:Nat) (ay:List Value) (ac:a.eval x=.slice so d c) (E:ay.length=d*sz) (Y:RowAt w (.slice so d c) d ay) (ap:∀ u∈ay,u.oneCell'=true) (am:so=none→c=0)
  (ag:n+d≤1099511627776) (R:base≤w.heap.size)
  (h:∀ J A,A.ownsRow base m sz J (n+d) (L++ay)→Below base w A→wpList Tryz.prog ad O rest (a.put o.dst J) A):wpList Tryz.prog ad O (o :: rest) a w:=by
 obtain ⟨ae,V,ar,au,av⟩:=info_parts aj;cases so with
 | none =>
  have al:d=0:=by
   obtain ⟨ax,c',e,_,N⟩:=Y;rcases N with N | ⟨b,off,e',_⟩
   ·rw [N] at E;have af:d*sz=0:=by simpa using E.symm
    rcases Nat.mul_eq_zero.1 af with h | h
    ·exact h
    ·omega
   ·simp only [Value.slice.injEq] at e;rw [e'] at e;simp at e
  subst al;have ai:c=0:=am rfl;subst ai;obtain rfl:ay=[]:=List.length_eq_zero_iff.1 (by simpa using E);refine wpList_append_own_none U s x q X base m ae sz ab V v n L aa I ac ?_;exact h v w (by simpa using I) (Yh _ _)
 | some Q =>
  refine wpList_append_own _ U s x q X base m ae z sz D ab V ar au av aw aq v n L aa I Q d c ay ac E ?_ ap (by unfold maxLen;omega) ?_ R ?_
  ·intro j u ak;obtain ⟨b,off,e,_,g⟩:=Y.at ak;obtain rfl:Q=⟨b,off,none⟩:=by simpa using e
   rw [show (⟨b,off,none⟩:Addr).add j=⟨b,off+j,none⟩ by unfold Addr.add;split <;> simp_all];exact g
  ·have:(n+d)*D≤1099511627776*64:=Nat.mul_le_mul ag ah;omega
  ·intro J A ao M _;exact h J A ao ((Yh _ _).grown M R (fun g M=>(I.lt g M).1))
theorem Zpi:(Tryz.prog.info? 82).map (fun i=>(i.zero,i.size,i.bytes))=some (some (.agg #[.string ⟨#[]⟩,.int .i64 0,.int .i64 0,.int .i64 0]),4,40):=by kernel_rfl
theorem Zg9:(Tryz.prog.info? 86).map (fun i=>(i.zero,i.size,i.bytes))=some (some (.agg #[.int .i64 0,.string ⟨#[]⟩,.int .i64 0,.int .i64 0]),4,40):=by kernel_rfl
theorem Zmo:(Tryz.prog.info? 88).map (fun i=>(i.zero,i.size,i.bytes))=some (some (.agg #[.int .i64 0,.string ⟨#[]⟩]),2,24):=by kernel_rfl
theorem ZkR:∀ l:List Pl,(Ze l).length=l.length*4
 | []=>rfl
 | p :: r=>by simp [Ze,ZkR r];omega
theorem ZkX:∀ (l:List Pl),∀ u∈Ze l,u.oneCell'=true
 | [],u,d=>by simp [Ze] at d
 | p :: r,u,d=>by
  simp only [Ze,List.mem_cons] at d;rcases d with rfl | rfl | rfl | rfl | d
  ·rfl
  ·rfl
  ·rfl
  ·rfl
  ·exact ZkX r u d
theorem Zpe (l:List Srv):(Zv l).length=l.length*4:=Zhf fSv 4 (fun _=>rfl) l
theorem Zot (l:List Wtr):(ZE l).length=l.length*2:=Zhf fWt 2 (fun _=>rfl) l
theorem ZoO (l:List Srv):∀ u∈Zv l,u.oneCell'=true:=ZiF fSv (fun x u d=>by simp [fSv] at d;rcases d with rfl | rfl | rfl | rfl <;> rfl) l
theorem Zox (l:List Wtr):∀ u∈ZE l,u.oneCell'=true:=ZiF fWt (fun x u d=>by simp [fWt] at d;rcases d with rfl | rfl <;> rfl) l
theorem ZaO {w:World} {B:Nat} {e:TypeId} {size:Nat} {so:Option Addr} {n c:Nat} {h:List Value} (d:w.ownsRow B e size (.slice so n c) n h):so=none→c=0:=by
 rintro rfl;rcases d.2 with ⟨e,_⟩ | ⟨g,m,q,e,_⟩
 ·simp only [Value.slice.injEq] at e;exact e.2.2
 ·simp at e
theorem ZcI (b:Int) (ps:List Pl) (d:Option Addr) (n vc:Nat) (w:World) (R:RowAt w (.slice d n vc) n (Ze ps)) (Q:d=none→vc=0) (O:ps.length=n) (af:n≤1099511627776) :
  Calls Tryz.prog 73 #[.agg #[.int .i64 b,.slice d n vc]] w fun e U=>∃ m h,e=.returned (.agg #[.int .i64 b,.slice m n h])∧U.ownsRow w.heap.size 82 4 (.slice m n h) n (Ze ps)∧Below w.heap.size w U:=by
 have V:=Za O;have X:=Za Q;have E:Below w.heap.size w ((w.alloc (Zi b (.slice d n vc))).alloc (Zi 0 (.slice none 0 0))):=Zb (Zc _ _) (Zc _ _);have L:Hid (RowAt (((w.alloc (Zi b (.slice d n vc))).alloc (Zi 0 (.slice none 0 0))).alloc (.cells #[] 82)) (.slice d n vc) n (Ze ps)∧(((w.alloc (Zi b (.slice d n vc))).alloc (Zi 0 (.slice none 0 0))).alloc (.cells #[] 82)).ownsRow (w.heap.size+2) 82 4 (.slice (some ⟨w.heap.size+1+1,0,none⟩) 0 0) 0 []):=by
  refine ⟨(R.nx E).nx (Zc _ _),?_⟩;have:=World.ownsRow_made (base:=w.heap.size+2) (e:=82) (size:=4) ((w.alloc (Zi b (.slice d n vc))).alloc (Zi 0 (.slice none 0 0))) #[] 0 (by simp) (Ye _) rfl;simpa using this
 have D:Hid (Below w.heap.size w (((w.alloc (Zi b (.slice d n vc))).alloc (Zi 0 (.slice none 0 0))).alloc (.cells #[] 82))∧(((w.alloc (Zi b (.slice d n vc))).alloc (Zi 0 (.slice none 0 0))).alloc (.cells #[] 82)).heap[w.heap.size]?=some (Zi b (.slice d n vc))∧(((w.alloc (Zi b (.slice d n vc))).alloc (Zi 0 (.slice none 0 0))).alloc (.cells #[] 82)).heap[w.heap.size+1]?=some (Zi 0 (.slice none 0 0))):=by
  refine ⟨Zb E (Zc _ _),?_,?_⟩
  ·exact (Zn _ _ (by simp;omega)).trans ((Zn _ _ (by simp)).trans (Zd _ _ rfl))
  ·exact (Zn _ _ (by simp)).trans (Zd _ _ (by simp))
 clear E R O Q;go_enter Tryz.func73,Tryz.ntmps73
 go_wp2_with (at_builtin;refine ZaN 82 37 4 40 _ Zpi Tryz.underlying37 rfl (by decide) (by decide) rfl (.tmp 4) (.tmp 6) rfl (w.heap.size+2) _ 0 [] rfl L.out.2 d n vc (Ze ps) rfl (by rw [ZkR,V.out]) L.out.1 (ZkX ps) X.out (by omega) (by simp) ?next)
 case next =>
  intro v' A I q;obtain ⟨m,h,rfl,_⟩:=Zf I;have M:A.heap[w.heap.size]?=some (Zi b (.slice d n vc)):=(q.block _ (by omega)).trans D.out.2.1;have N:A.heap[w.heap.size+1]?=some (Zi 0 (.slice none 0 0)):=(q.block _ (by omega)).trans D.out.2.2;obtain ⟨ab,ac,ad⟩:=Zw M;obtain ⟨Y,aa,ae⟩:=Zw N;have J:Hid (A.ownsRow (w.heap.size+2) 82 4 (.slice m n h) n (Ze ps)∧Below w.heap.size w A):=⟨I,D.out.1.trans (q.mono (by omega))⟩;clear I q M N;go_wp2_with fail
  refine bodyPost_ret (v:=.agg #[.int .i64 b,.slice m n h]) (by simp [results,Tryz.results73,go_sem,Y,aa]) rfl ⟨m,h,rfl,?_,?_⟩
  ·exact Zr (Yi (Yi J.out.1 (by show w.heap.size+1<_;omega) _) (by show w.heap.size+1<_;omega) _) (by omega)
  ·exact (J.out.2.setCell (by show w.heap.size≤w.heap.size+1;omega) _).setCell (by show w.heap.size≤w.heap.size+1;omega) _
end Lw
namespace Df
open Co Lw
theorem ZeS {α:Type} {p:α→Bool}:∀ {l:List α} {k:Nat} {x:α},(∀ y∈l.take k,p y=false)→l[k]?=some x→p x=true→l.find? p=some x
 | [],k,x,_,d,_=>by simp at d
 | y :: r,0,x,_,d,h=>by
  simp at d;subst d;exact List.find?_cons_of_pos h
 | y :: r,k+1,x,m,d,h=>by
  have q:p y=false:=m y (by simp);rw [List.find?_cons_of_neg (by rw [q];simp)];exact ZeS (k:=k) (fun z A=>m z (by simp [A])) (by simpa using d) h
theorem ZfN {α:Type} {p:α→Bool} {l:List α} (d:∀ y∈l,p y=false):l.find? p=none:=by
 rw [List.find?_eq_none];intro x h;rw [d x h];simp
theorem Zpd {α:Type} {p:α→Bool} {l:List α} {k:Nat} {x:α} (h:l[k]?=some x) (d:p x=true):l.any p=true:=List.any_eq_true.2 ⟨x,Yo h,d⟩
theorem ZoW {α:Type} {p:α→Bool} {l:List α} (d:∀ y∈l,p y=false):l.any p=false:=by
 rw [List.any_eq_false];intro x h;rw [d x h];simp
def ZV (k f t:Int):Bool:=if k=1∨k=3 then decide (t<f) else if k=7∨k=8 then decide (f<t) else !decide (t=f)
def numP (k:Int) (p:Pl):Int:=if k=5 then p.fr else if k=6 then p.wt else p.sz
def inP (ps:List Pl) (nm:ByteArray):Pl:=match ps.find? (Zl nm) with
 | some p=>p
 | none=>⟨nm,0,0,0⟩
def Ziv (ps:List Pl) (p:Pl):Bool:=ps.any (Zl p.nm)
def ZaG (k:Int) (nm:ByteArray) (n:Int):Stp:=⟨k,nm,n⟩
def missL (k:Int) (ps qs:List Pl):List Stp:=(ps.filter (fun p=>!Ziv qs p)).map (fun p=>ZaG k p.nm 0)
def budL (k f t:Int):List Stp:=if ZV k f t=true then [⟨k,⟨#[]⟩,t⟩] else []
def Zbr (k:Int) (ps:List Pl) (p:Pl):Bool:=ZV k (numP k (inP ps p.nm)) (numP k p)
def chgL (k:Int) (ps bs:List Pl):List Stp:=(bs.filter (Zbr k ps)).map (fun p=>ZaG k p.nm (numP k p))
def Zbh (k:Int) (ba:Int) (ps:List Pl) (bb:Int) (bs:List Pl):List Stp:=
 if k=2 then missL k ps bs else if k=4 then missL k bs ps else if k=3∨k=7 then budL k ba bb else chgL k ps bs
def diffTo (n:Nat) (ba:Int) (ps:List Pl) (bb:Int) (bs:List Pl):List Stp:=(List.range n).flatMap (fun (i:Nat)=>Zbh ((i:Int)+1) ba ps bb bs)
def diffL (ba:Int) (ps:List Pl) (bb:Int) (bs:List Pl):List Stp:=diffTo 8 ba ps bb bs
theorem ZlU (k f t:Int) (w:World):Calls Tryz.prog 179 #[.int .i64 k,.int .i64 f,.int .i64 t] w fun e D=>e=.returned (.bool (ZV k f t))∧D=w:=by
 by_cases d:k=1
 ·subst d;go_enter Tryz.func179,Tryz.ntmps179
  go_wp2_with fail
  go_ret
  exact ⟨by simp [ZV],rfl⟩
 ·by_cases h:k=3
  ·subst h;go_enter Tryz.func179,Tryz.ntmps179
   go_wp2_with fail
   go_ret
   exact ⟨by simp [ZV],rfl⟩
  ·by_cases m:k=7
   ·subst m;go_enter Tryz.func179,Tryz.ntmps179
    go_wp2_with fail
    go_ret
    exact ⟨by simp [ZV],rfl⟩
   ·by_cases q:k=8
    ·subst q;go_enter Tryz.func179,Tryz.ntmps179
     go_wp2_with fail
     go_ret
     exact ⟨by simp [ZV],rfl⟩
    ·have E:(k == 1)=false:=by simp [d]
     have b3:(k == 3)=false:=by simp [h]
     have I:(k == 7)=false:=by simp [m]
     have J:(k == 8)=false:=by simp [q]
     have A:Hid (ZV k f t=!decide (t=f)):=by show _=_;simp [ZV,d,h,m,q]
     clear d h m q;go_enter Tryz.func179,Tryz.ntmps179
     go_wp2_with fail
     go_ret
     exact ⟨Zu (by rw [A.out];first | rfl | simp),rfl⟩
theorem Zs6 (k:Int) (nm:ByteArray) (sz wt fr:Int) (w:World):Calls Tryz.prog 181 #[.int .i64 k,.agg #[.string nm,.int .i64 sz,.int .i64 wt,.int .i64 fr]] w fun e q=>e=.returned (.int .i64 (numP k ⟨nm,sz,wt,fr⟩))∧Below w.heap.size w q:=by
 by_cases d:k=5
 ·subst d;go_enter Tryz.func181,Tryz.ntmps181
  go_wp2_with fail
  go_ret
  exact ⟨by simp [numP],Zc _ _⟩
 ·by_cases h:k=6
  ·subst h;go_enter Tryz.func181,Tryz.ntmps181
   go_wp2_with fail
   go_ret
   exact ⟨by simp [numP],Zc _ _⟩
  ·have b5:(k == 5)=false:=by simp [d]
   have A:(k == 6)=false:=by simp [h]
   have m:Hid (numP k ⟨nm,sz,wt,fr⟩=sz):=by show _=_;simp [numP,d,h]
   clear d h;go_enter Tryz.func181,Tryz.ntmps181
   go_wp2_with fail
   go_ret
   exact ⟨Zaj m.out.symm,Zc _ _⟩
abbrev zPl:Pl:=⟨⟨#[]⟩,0,0,0⟩
def ZhT (o:Option Pl):Value:=match o with | some p=>.tuple #[plA p,.bool true] | none=>.tuple #[plA zPl,.bool false]
theorem Zjp (E:Option Addr) (n D:Nat) (d:ByteArray) (ps:List Pl) (w:World) (N:RowAt w (.slice E n D) n (Ze ps)) (L:ps.length=n) (ab:n≤maxLen) :
  Calls Tryz.prog 121 #[.slice E n D,.string d] w fun e w'=>e=.returned (ZhT (ps.find? (Zl d)))∧Below w.heap.size w w':=by
 unfold maxLen at ab;have q:Hid (RowAt (w.alloc (ZF zPl)) (.slice E n D) n (Ze ps)∧ps.length=n):=⟨N.nx (Zc _ _),L⟩;clear N L;go_enter Tryz.func121,Tryz.ntmps121
 go_wp2_with fail
 go_loop [6] (fun i=>∃ k:Nat,k≤n∧i=.int .i64 k∧Hid (∀ y∈ps.take k,(Zl d) y=false)) (fun i=>n - (intOf i).toNat)
 case atStart=>exact ⟨0,Ye _,rfl,by intro y I;simp at I⟩
 case round =>
  obtain ⟨k,af,rfl,A⟩:=hrel;by_cases ac:k<n
  ·have J:=q.out.1;obtain ⟨⟨m,O,Q,R⟩,h⟩:∃ p,ps[k]?=some p:=⟨_,Yb (by rw [q.out.2];exact ac)⟩;obtain ⟨ad,off,aa,ae,Y,c1,c2,c3⟩:=ZJ J h;subst aa;simp only at Y c1 c2 c3;have ag:(k:Int)<(n:Int):=by omega
   clear J;cases M:(m.toList == d.toList) with
   | true =>
    have U:Hid (ps.find? (Zl d)=some ⟨m,O,Q,R⟩):=ZeS A.out h M;clear h;go_wp2_with fail
    refine bodyPost_ret (v:=.tuple #[plA ⟨m,O,Q,R⟩,.bool true]) (by simp [results,Tryz.results121,go_sem]) rfl ⟨by rw [U.out];rfl,?_⟩;exact Zc _ _
   | false =>
    have X:Hid (∀ y∈ps.take (k+1),(Zl d) y=false):=Zbo A.out h (by show (m.toList == d.toList)=false;exact M);clear h;go_wp2_with fail
    go_round
    case rel=>exact ⟨k+1,by omega,by go_num,X.out⟩
    case measure=>simp [intOf];omega
  ·have V:Hid (ps.find? (Zl d)=none):=ZfN (fun y I=>A.out y (by rw [Yj (by rw [q.out.2];omega)];exact I));go_wp2_with fail
   refine bodyPost_ret (v:=.tuple #[plA zPl,.bool false]) (by simp [results,Tryz.results121,go_sem]) rfl ⟨by rw [V.out];rfl,?_⟩;exact Zc _ _
theorem Zuc (A:Option Addr) (n q:Nat) (d:ByteArray) (ps:List Pl) (w:World) (M:RowAt w (.slice A n q) n (Ze ps)) (J:ps.length=n) (X:n≤maxLen) :
  Calls Tryz.prog 178 #[.slice A n q,.string d] w fun e w'=>e=.returned (.bool (ps.any (Zl d)))∧w'=w:=by
 unfold maxLen at X;have m:Hid (RowAt w (.slice A n q) n (Ze ps)∧ps.length=n):=⟨M,J⟩;clear M J;go_enter Tryz.func178,Tryz.ntmps178
 go_wp2_with fail
 go_loop [5] (fun i=>∃ k:Nat,k≤n∧i=.int .i64 k∧Hid (∀ y∈ps.take k,(Zl d) y=false)) (fun i=>n - (intOf i).toNat)
 case atStart=>exact ⟨0,Ye _,rfl,by intro y D;simp at D⟩
 case round =>
  obtain ⟨k,ac,rfl,I⟩:=hrel;by_cases Y:k<n
  ·have E:=m.out.1;obtain ⟨⟨N,ae,af,ag⟩,h⟩:∃ p,ps[k]?=some p:=⟨_,Yb (by rw [m.out.2];exact Y)⟩;obtain ⟨aa,off,V,ab,U,c1,c2,c3⟩:=ZJ E h;subst V;simp only at U c1 c2 c3;have ad:(k:Int)<(n:Int):=by omega
   clear E;cases L:(N.toList == d.toList) with
   | true =>
    have O:Hid (ps.any (Zl d)=true):=Zpd h L;clear h;go_wp2_with fail
    go_ret
    exact ⟨by rw [O.out];rfl,rfl⟩
   | false =>
    have R:Hid (∀ y∈ps.take (k+1),(Zl d) y=false):=Zbo I.out h (by show (N.toList == d.toList)=false;exact L);clear h;go_wp2_with fail
    go_round
    case rel=>exact ⟨k+1,by omega,by go_num,R.out⟩
    case measure=>simp [intOf];omega
  ·have Q:Hid (ps.any (Zl d)=false):=ZoW (fun y D=>I.out y (by rw [Yj (by rw [m.out.2];omega)];exact D));go_wp2_with fail
   go_ret
   exact ⟨by rw [Q.out];rfl,rfl⟩
theorem Zc9 (w:World) (d:TypeId) (sz:Nat) (g:Nat) (m:g=w.heap.size) (B:Nat) (h:B≤w.heap.size):(w.alloc (.cells #[] d)).ownsRow B d sz (.slice (some ⟨g,0,none⟩) 0 0) 0 []:=by
 subst m;exact World.ownsRow_made (base:=B) (e:=d) (size:=sz) w #[] 0 h (Ye _) (by simp)
theorem ZcJ:(Tryz.prog.info? 84).map (fun i=>(i.zero,i.size,i.bytes))=some (some (.agg #[.int .i64 0,.string ⟨#[]⟩,.int .i64 0]),3,32):=by kernel_rfl
theorem ZkD (l:List Stp):(Zo l).length=l.length*3:=Zhf fSt 3 (fun _=>rfl) l
theorem Zkz (l:List Stp):∀ u∈Zo l,u.oneCell'=true:=ZiF fSt (fun x u d=>by simp [fSt] at d;rcases d with rfl | rfl | rfl <;> rfl) l
theorem Zq2 {w1:World} {g:Nat} {t:TypeId} {D c1 c2 c3:Value} (E:w1.heap[g]?=some (.cells #[D,c1,c2,c3] t (0,0))) (d h m q:Value) (o:Obj) :
  ((((((w1.setCell ⟨g,0,none⟩ d).setCell ⟨g,1,none⟩ h).setCell ⟨g,2,none⟩ m).setCell ⟨g,3,none⟩ q)).alloc o).heap[g]?=some (.cells #[d,h,m,q] t (0,0)):=by
 have A:=Zm _ g 3 q _ _ (Zm _ g 2 m _ _ (Zm _ g 1 h _ _ (Zm _ g 0 d _ _ E)));refine (Zn _ _ (Ya.1 A).1).trans ?_;rw [A];rfl
theorem cPoolIn (V:Option Addr) (n U:Nat) (h:ByteArray) (ps:List Pl) (w:World) (ag:RowAt w (.slice V n U) n (Ze ps)) (af:ps.length=n) (ai:n≤maxLen) :
  Calls Tryz.prog 180 #[.slice V n U,.string h] w fun e w'=>e=.returned (plA (inP ps h))∧Below w.heap.size w w':=by
 have I:=Za (fun u (hb:Below w.heap.size w u)=>Zjp V n U h ps u (ag.nx hb) af ai);have E:=Za (Zc w (ZF zPl));clear ag af;cases J:ps.find? (Zl h) with
 | none =>
  have R:Hid (inP ps h=⟨h,0,0,0⟩):=by show _=_;rw [inP,J]
  rw [J] at I;clear J;go_enter Tryz.func180,Tryz.ntmps180
  go_wp2_with fail
  refine (I.out _ E.out).mono ?_;rintro e w1 ⟨rfl,D⟩;have m:w1.heap[w.heap.size]?=some (ZF zPl):=(D.block _ (by simp)).trans (Zd _ _ rfl);have Q:=Za (Zb E.out D);have ae:w.heap.size<w1.heap.size:=(Ya.1 m).1;obtain ⟨X,c1,c2,c3,Y⟩:=ZbK (Yh w1.heap.size w1) ae m;have q:=Za (Zq2 m (.string h) (.int .i64 0) (.int .i64 0) (.int .i64 0) (ZF zPl));clear D I E m;unfold ZhT;go_wp2_with fail
  obtain ⟨d,A⟩:∃ d,((((((w1.setCell ⟨w.heap.size,0,none⟩ (.string h)).setCell ⟨w.heap.size,1,none⟩ (.int .i64 0)).setCell ⟨w.heap.size,2,none⟩ (.int .i64 0)).setCell ⟨w.heap.size,3,none⟩ (.int .i64 0))).alloc (ZF zPl))=d:=⟨_,rfl⟩;have ad:Below w.heap.size w d:=by
   rw [←A];exact ((((Q.out.setCell (Yd _) _).setCell (Yd _) _).setCell (Yd _) _).setCell (Yd _) _).alloc (by simp;omega) _
  rw [A] at q ⊢;obtain ⟨aa,ab,f2,ac,ah⟩:=ZbK (Yh d.heap.size d) (Ya.1 q.out).1 q.out;clear A X c1 c2 c3 Y;refine bodyPost_ret (v:=plA ⟨h,0,0,0⟩) (by simp [results,Tryz.results180,go_sem,aa,ab,f2,ac]) rfl ⟨by rw [R.out],ad⟩
 | some p =>
  obtain ⟨L,M,N,O⟩:=p;have R:Hid (inP ps h=⟨L,M,N,O⟩):=by show _=_;rw [inP,J]
  rw [J] at I;clear J;go_enter Tryz.func180,Tryz.ntmps180
  go_wp2_with fail
  refine (I.out _ E.out).mono ?_;rintro e w1 ⟨rfl,D⟩;have m:w1.heap[w.heap.size]?=some (ZF zPl):=(D.block _ (by simp)).trans (Zd _ _ rfl);have Q:=Za (Zb E.out D);have ae:w.heap.size<w1.heap.size:=(Ya.1 m).1;obtain ⟨X,c1,c2,c3,Y⟩:=ZbK (Yh w1.heap.size w1) ae m;have q:=Za (Zq2 m (.string L) (.int .i64 M) (.int .i64 N) (.int .i64 O) (ZF ⟨L,M,N,O⟩));clear D I E m;unfold ZhT;go_wp2_with fail
  obtain ⟨d,A⟩:∃ d,((((((w1.setCell ⟨w.heap.size,0,none⟩ (.string L)).setCell ⟨w.heap.size,1,none⟩ (.int .i64 M)).setCell ⟨w.heap.size,2,none⟩ (.int .i64 N)).setCell ⟨w.heap.size,3,none⟩ (.int .i64 O))).alloc (ZF ⟨L,M,N,O⟩))=d:=⟨_,rfl⟩;have ad:Below w.heap.size w d:=by
   rw [←A];exact ((((Q.out.setCell (Yd _) _).setCell (Yd _) _).setCell (Yd _) _).setCell (Yd _) _).alloc (by simp;omega) _
  rw [A] at q ⊢;obtain ⟨aa,ab,f2,ac,ah⟩:=ZbK (Yh d.heap.size d) (Ya.1 q.out).1 q.out;clear A X c1 c2 c3 Y;refine bodyPost_ret (v:=plA ⟨L,M,N,O⟩) (by simp [results,Tryz.results180,go_sem,aa,ab,f2,ac]) rfl ⟨by rw [R.out],ad⟩
theorem ZmN (k f t:Int) (w:World):Calls Tryz.prog 159 #[.int .i64 k,.int .i64 f,.int .i64 t] w fun e A=>∃ m c,e=.returned (.slice m (budL k f t).length c)∧RowAt A (.slice m (budL k f t).length c) (budL k f t).length (Zo (budL k f t))∧(m=none→c=0)∧Below w.heap.size w A:=by
 cases D:ZV k f t with
 | false =>
  have d:Hid (budL k f t=[]):=by show _=_;rw [budL,D];rfl
  go_enter Tryz.func159,Tryz.ntmps159
  go_wp2_with fail
  refine (ZlU _ _ _ _).mono ?_;rintro e w1 ⟨rfl,q⟩;obtain rfl:=q.symm;rw [D];go_wp2_with fail
  go_ret
  exact ⟨none,0,by rw [d.out];rfl,by rw [d.out];exact Zdb _ _ _,fun _=>rfl,Yh _ _⟩
 | true =>
  have d:Hid (budL k f t=[⟨k,⟨#[]⟩,t⟩]):=by show _=_;rw [budL,D];rfl
  go_enter Tryz.func159,Tryz.ntmps159
  go_wp2_with fail
  refine (ZlU _ _ _ _).mono ?_;rintro e w1 ⟨rfl,q⟩;obtain rfl:=q.symm;rw [D];go_wp2_with fail
  go_ret
  exact ⟨some ⟨w.heap.size,0,none⟩,1,by rw [d.out];rfl,by rw [d.out];exact ZaM w [.int .i64 k,.string ⟨#[]⟩,.int .i64 t] _ 1 rfl,(fun h=>by cases h),Zc _ _⟩
theorem Zlm (kd:Int) (J:Option Addr) (n I:Nat) (ps:List Pl) (M:Option Addr) (m L:Nat) (qs:List Pl) (w:World) (X:RowAt w (.slice J n I) n (Ze ps)) (V:ps.length=n) (av:n≤1099511627776) (Y:RowAt w (.slice M m L) m (Ze qs)) (U:qs.length=m) (ak:m≤maxLen) :
  Calls Tryz.prog 158 #[.int .i64 kd,.slice J n I,.slice M m L] w fun e w'=>∃ az vc,e=.returned (.slice az (missL kd ps qs).length vc)∧w'.ownsRow w.heap.size 84 3 (.slice az (missL kd ps qs).length vc) (missL kd ps qs).length (Zo (missL kd ps qs))∧Below w.heap.size w w':=by
 have E:Hid (RowAt w (.slice J n I) n (Ze ps)∧ps.length=n):=⟨X,V⟩;have HH:=Za (fun u (hb:Below w.heap.size w u) am=>Zuc M m L am qs u (Y.nx hb) U ak);clear X V Y U;go_enter Tryz.func158,Tryz.ntmps158
 go_wp2_with fail
 go_loopw [7,8,9] (fun l i nm wr=>∃ (k j:Nat) (az:Option Addr) (vc:Nat),k≤n∧j≤k∧i=.int .i64 k∧l=.slice az j vc∧Hid ((missL kd (ps.take k) qs).length=j∧wr.ownsRow w.heap.size 84 3 (.slice az j vc) j (Zo (missL kd (ps.take k) qs))∧Below w.heap.size w wr)) (fun _ i _ _=>n - (intOf i).toNat)
 case atStart=>exact ⟨0,0,some ⟨w.heap.size,0,none⟩,0,Ye _,Yd _,rfl,rfl,by simp [missL],Zc9 w _ 3 _ rfl _ (Yd _),Zc _ _⟩
 case round =>
  obtain ⟨k,j,az,vc,ar,aq,rfl,rfl,d⟩:=hrel;by_cases aj:k<n
  ·obtain ⟨⟨a0,aw,ax,ay⟩,O⟩:∃ p,ps[k]?=some p:=⟨_,Yb (by rw [E.out.2];exact aj)⟩;obtain ⟨ao,off,ag,ap,ae,c1,c2,c3⟩:=ZJ (E.out.1.nx d.out.2.2) O;subst ag;simp only at ae c1 c2 c3;have au:(k:Int)<(n:Int):=by omega
   have Q:Hid (missL kd (ps.take (k+1)) qs=missL kd (ps.take k) qs++if qs.any (Zl a0)=true then [] else [ZaG kd a0 0]):=by
    obtain ⟨ah,e⟩:=Yc.1 O;show _=_;unfold missL;rw [Yk ah,Yr,List.map_append,e];congr 1;cases ai:qs.any (Zl a0) <;> simp [Ziv,ai]
   clear O;go_wp2_with fail
   refine (HH.out _ d.out.2.2 _).mono ?_;rintro e w1 ⟨rfl,af⟩;obtain rfl:=af.symm;cases D:qs.any (Zl a0) with
   | true =>
    have A:Hid (missL kd (ps.take (k+1)) qs=missL kd (ps.take k) qs):=by
     show _=_;rw [Q.out,D];simp
    clear D;go_wp2_with fail
    go_roundw
    case rel=>exact ⟨k+1,j,az,vc,by omega,by omega,by go_num,rfl,by rw [A.out];exact d.out⟩
    case measure=>simp [intOf];omega
   | false =>
    have A:Hid (missL kd (ps.take (k+1)) qs=missL kd (ps.take k) qs++[ZaG kd a0 0]):=by
     show _=_;rw [Q.out,D];simp
    clear D;go_wp2_with (at_builtin;refine ZaN 84 42 3 32 _ ZcJ Tryz.underlying42 rfl (by decide) (by decide) rfl (.tmp 26) (.tmp 30) rfl w.heap.size _ j (Zo (missL kd (ps.take k) qs)) rfl (d.out.2.1.alloc _) (some ⟨wr.heap.size,0,none⟩) 1 1 [.int .i64 kd,.string a0,.int .i64 0] rfl rfl (ZaM wr [.int .i64 kd,.string a0,.int .i64 0] _ 1 rfl) (by intro u aa;simp at aa;rcases aa with rfl | rfl | rfl <;> rfl) (fun h=>by cases h) (by omega) (by simp;have:=d.out.2.2.size;omega) ?next)
    case next =>
     intro v' ad N R;obtain ⟨ac,ab,rfl,_⟩:=Zf N;have K6:Hid ((missL kd (ps.take (k+1)) qs).length=j+1∧ad.ownsRow w.heap.size 84 3 (.slice ac (j+1) ab) (j+1) (Zo (missL kd (ps.take (k+1)) qs))∧Below w.heap.size w ad):=by
      refine ⟨by rw [A.out];simp [d.out.1],?_,(d.out.2.2.alloc d.out.2.2.size _).trans R⟩;rw [A.out];unfold Zo;rw [List.flatMap_append];exact N
     clear N R;go_wp2_with fail
     go_roundw
     case rel=>exact ⟨k+1,j+1,ac,ab,by omega,by omega,by go_num,rfl,K6.out⟩
     case measure=>simp [intOf];omega
  ·have q:Hid ((missL kd ps qs).length=j∧wr.ownsRow w.heap.size 84 3 (.slice az j vc) j (Zo (missL kd ps qs))∧Below w.heap.size w wr):=by
    have al:ps.take k=ps:=Yj (by rw [E.out.2];omega);have:=d.out;rw [al] at this;exact this
   go_wp2_with fail
   go_ret
   exact ⟨az,vc,by rw [q.out.1];rfl,by rw [q.out.1];exact q.out.2.1,q.out.2.2⟩
end Df
end Go.Proofs.YtmgkcbdlfodjmaaGreatDoor
