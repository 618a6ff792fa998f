import Derived.Test.YtcpikklofilkcaaGreatNqG
import Derived.Laws.AppendOwnNone
set_option maxRecDepth 100000
set_option maxHeartbeats 16000000
namespace Go.Proofs.YtcpikklofilkcaaGreat
open Go.RowKit
namespace Lw
open Co
def RowsG (ty tyl:TypeId) (sz:Nat) (mk:Int→List Value) (w:World) (F:Nat→Prop) (v:Value) (q:Nat):Prop:=
 ∃ vs,w.ownsRow 0 tyl 1 v q vs∧(∀ g,v.ownBlock=some g→F g)∧∀ (i:Nat) (x:Value),vs[i]?=some x→FullG ty sz (mk ((i+1:Nat):Int)) w x∧∀ g,x.ownBlock=some g→F g
theorem RowsG.keep {ty tyl:TypeId} {sz:Nat} {mk:Int→List Value} {w w':World} {F F':Nat→Prop} {v:Value} {q:Nat} (h:RowsG ty tyl sz mk w F v q) (hh:∀ g,F g→w'.heap[g]?=w.heap[g]?) (hF:∀ g,F g→F' g):RowsG ty tyl sz mk w' F' v q:=by
 obtain ⟨vs,h1,h2,h3⟩:=h;refine ⟨vs,Zj h1 (fun j hj=>hh j (h2 j hj)),fun g hg=>hF g (h2 g hg),fun i x hx=>?_⟩;exact ⟨(h3 i x hx).1.keep (fun g hg=>hh g ((h3 i x hx).2 g hg)),fun g hg=>hF g ((h3 i x hx).2 g hg)⟩
theorem RowsG.keep' {ty tyl:TypeId} {sz:Nat} {mk:Int→List Value} {w w':World} {F F':Nat→Prop} {v:Value} {q:Nat} (h:RowsG ty tyl sz mk w F v q) (hh:∀ g cur t,F g→w.heap[g]?=some (.cells cur t (0,0))→(t=ty∨t=tyl)→w'.heap[g]?=w.heap[g]?) (hF:∀ g,F g→F' g):RowsG ty tyl sz mk w' F' v q:=by
 obtain ⟨vs,h1,h2,h3⟩:=h;refine ⟨vs,Zj h1 (fun j hj=>?_),fun g hg=>hF g (h2 g hg),fun i x hx=>?_⟩
 ·obtain ⟨cur,hc⟩:=Zq h1 j hj;exact hh j cur tyl (h2 j hj) hc (.inr rfl)
 ·refine ⟨(h3 i x hx).1.keep (fun g hg=>?_),fun g hg=>hF g ((h3 i x hx).2 g hg)⟩;rcases (h3 i x hx).1 with e | ⟨g',cap,cur,e,_,hc,_⟩
  ·rw [e] at hg;simp [Value.ownBlock] at hg
  ·have:g'=g:=by rw [e] at hg;simpa [Value.ownBlock] using hg
   subst this;exact hh g' cur ty ((h3 i x hx).2 g' hg) hc (.inl rfl)
abbrev RowsP (w:World) (F:Nat→Prop) (v:Value) (q:Nat):Prop:=RowsG 70 29 4 mP w F v q
abbrev RowsV (w:World) (F:Nat→Prop) (v:Value) (q:Nat):Prop:=RowsG 74 32 4 mV w F v q
abbrev RowsW (w:World) (F:Nat→Prop) (v:Value) (q:Nat):Prop:=RowsG 76 33 2 mW w F v q
abbrev RowsT (w:World) (F:Nat→Prop) (v:Value) (q:Nat):Prop:=RowsG 72 34 3 mT w F v q
structure OwnAt (w:World) (go:Nat) (F:Nat→Prop) (q1 q2 q3 q4:Nat):Prop where
 ex:∃ v1 v2 v3 v4,w.heap[go]?=some (bOw v1 v2 v3 v4)∧RowsP w F v1 q1∧RowsV w F v2 q2∧RowsW w F v3 q3∧RowsT w F v4 q4
 go:F go
 lt:∀ x,F x→x<w.heap.size
theorem OwnAt.keep {w w':World} {go:Nat} {F G:Nat→Prop} {q1 q2 q3 q4:Nat} (h:OwnAt w go F q1 q2 q3 q4) (hc:Chg G w w') (hd:∀ x,F x→¬G x):OwnAt w' go F q1 q2 q3 q4:=by
 obtain ⟨v1,v2,v3,v4,h0,h1,h2,h3,h4⟩:=h.ex;have hh:∀ g,F g→w'.heap[g]?=w.heap[g]?:=fun g hg=>hc.block g (h.lt g hg) (hd g hg)
 exact ⟨⟨v1,v2,v3,v4,(hh go h.go).trans h0,h1.keep hh (fun _ h=>h),h2.keep hh (fun _ h=>h),h3.keep hh (fun _ h=>h),h4.keep hh (fun _ h=>h)⟩,h.go,fun x hx=>Nat.lt_of_lt_of_le (h.lt x hx) hc.size⟩
def Plus (F:Nat→Prop) (src:Value) (w w':World):Nat→Prop:=fun y=>F y∨src.ownBlock=some y∨(w.heap.size≤y∧y<w'.heap.size)
def TookP (w w':World) (go:Nat) (v1 v2 v3 v4:Value) (src:Value) (q:Nat) (vs:List Value):Prop:=
 ∃ v' x,w'.heap[go]?=some (bOw v' v2 v3 v4)∧w'.ownsRow 0 29 1 v' (q+1) (vs++[x])∧FullG 70 4 (mP ((q+1:Nat):Int)) w' x∧x.ownBlock=src.ownBlock∧Chg (fun y=>y=go∨src.ownBlock=some y∨v1.ownBlock=some y) w w'∧∀ j,v'.ownBlock=some j→v1.ownBlock=some j∨w.heap.size≤j
theorem tookP {w w':World} {go:Nat} {F:Nat→Prop} {q1 q2 q3 q4:Nat} {v1 v2 v3 v4 src:Value} {vs:List Value} (hlt:∀ x,F x→x<w.heap.size) (hgo:F go) (hb:w.heap[go]?=some (bOw v1 v2 v3 v4)) (h2:RowsV w F v2 q2) (h3:RowsW w F v3 q3) (h4:RowsT w F v4 q4) 
  (ho:w.ownsRow 0 29 1 v1 q1 vs) (hv:∀ g,v1.ownBlock=some g→F g) (hf:∀ (i:Nat) (x:Value),vs[i]?=some x→FullG 70 4 (mP ((i+1:Nat):Int)) w x∧∀ g,x.ownBlock=some g→F g)
  (hsrc:∀ g,src.ownBlock=some g→¬F g∧g<w.heap.size) (h:TookP w w' go v1 v2 v3 v4 src q1 vs):OwnAt w' go (Plus F src w w') (q1+1) q2 q3 q4∧Chg (fun y=>F y∨src.ownBlock=some y) w w':=by
 obtain ⟨v',x,a1,a2,a3,a4,a5,a6⟩:=h;have hoth:∀ g,F g→g≠go→v1.ownBlock≠some g→w'.heap[g]?=w.heap[g]?:=fun g hg h1 h2=>a5.block g (hlt g hg) (fun h=>by
  rcases h with h | h | h
  ·exact h1 h
  ·exact (hsrc g h).1 hg
  ·exact h2 h)
 have hgt:∀ g cur t,w.heap[g]?=some (.cells cur t (0,0))→g=go→t=47:=by
  intro g cur t hc e;rw [e,hb] at hc;simp at hc;exact hc.2.symm
 have hvt:∀ g cur t,w.heap[g]?=some (.cells cur t (0,0))→v1.ownBlock=some g→t=29:=by
  intro g cur t hc e;obtain ⟨cur',hc'⟩:=Zq ho g e;rw [hc'] at hc;simp at hc;exact hc.2.symm
 have k2:RowsV w' (Plus F src w w') v2 q2:=h2.keep' (fun g cur t hg hcur ht=>hoth g hg
  (fun e=>by have:=hgt g cur t hcur e;rcases ht with ht | ht <;> rw [ht] at this <;> exact absurd this (by decide))
  (fun e=>by have:=hvt g cur t hcur e;rcases ht with ht | ht <;> rw [ht] at this <;> exact absurd this (by decide))) (fun _ h=>.inl h)
 have k3:RowsW w' (Plus F src w w') v3 q3:=h3.keep' (fun g cur t hg hcur ht=>hoth g hg
  (fun e=>by have:=hgt g cur t hcur e;rcases ht with ht | ht <;> rw [ht] at this <;> exact absurd this (by decide))
  (fun e=>by have:=hvt g cur t hcur e;rcases ht with ht | ht <;> rw [ht] at this <;> exact absurd this (by decide))) (fun _ h=>.inl h)
 have k4:RowsT w' (Plus F src w w') v4 q4:=h4.keep' (fun g cur t hg hcur ht=>hoth g hg
  (fun e=>by have:=hgt g cur t hcur e;rcases ht with ht | ht <;> rw [ht] at this <;> exact absurd this (by decide))
  (fun e=>by have:=hvt g cur t hcur e;rcases ht with ht | ht <;> rw [ht] at this <;> exact absurd this (by decide))) (fun _ h=>.inl h)
 have kn:RowsP w' (Plus F src w w') v' (q1+1):=by
  have hlen:vs.length=q1:=by simpa using ho.1
  refine ⟨vs++[x],a2,fun g hg=>?_,fun i y hy=>?_⟩
  ·rcases a6 g hg with h | h
   ·exact .inl (hv g h)
   ·refine .inr (.inr ⟨h,?_⟩);obtain ⟨cur,hc⟩:=Zq a2 g hg;exact (Array.getElem?_eq_some_iff.1 hc).1
  ·by_cases hi:i<vs.length
   ·rw [List.getElem?_append_left hi] at hy;refine ⟨(hf i y hy).1.keep (fun g hg=>?_),fun g hg=>.inl ((hf i y hy).2 g hg)⟩;rcases (hf i y hy).1 with e | ⟨g',cap,cur,e,_,hc,_⟩
    ·rw [e] at hg;simp [Value.ownBlock] at hg
    ·have:g'=g:=by rw [e] at hg;simpa [Value.ownBlock] using hg
     subst this;refine hoth g' ((hf i y hy).2 g' hg) (fun e=>?_) (fun e=>?_)
     ·exact absurd (hgt g' cur _ hc e) (by decide)
     ·exact absurd (hvt g' cur _ hc e) (by decide)
   ·have hi':i=vs.length:=by
     have:=(List.getElem?_eq_some_iff.1 hy).1;simp at this;omega
    subst hi';rw [List.getElem?_append_right (Nat.le_refl _)] at hy;simp at hy;subst hy;rw [hlen];exact ⟨a3,fun g hg=>.inr (.inl (by rw [←a4];exact hg))⟩
 refine ⟨⟨⟨v',v2,v3,v4,a1,kn,k2,k3,k4⟩,.inl hgo,fun y hy=>?_⟩,a5.mono (fun y hy=>?_)⟩
 ·rcases hy with h | h | h
  ·exact Nat.lt_of_lt_of_le (hlt y h) a5.size
  ·exact Nat.lt_of_lt_of_le (hsrc y h).2 a5.size
  ·exact h.2
 ·rcases hy with h | h | h
  ·exact .inl (by rw [h];exact hgo)
  ·exact .inr h
  ·exact .inl (hv y h)
def TookV (w w':World) (go:Nat) (v1 v2 v3 v4:Value) (src:Value) (q:Nat) (vs:List Value):Prop:=
 ∃ v' x,w'.heap[go]?=some (bOw v1 v' v3 v4)∧w'.ownsRow 0 32 1 v' (q+1) (vs++[x])∧FullG 74 4 (mV ((q+1:Nat):Int)) w' x∧x.ownBlock=src.ownBlock∧Chg (fun y=>y=go∨src.ownBlock=some y∨v2.ownBlock=some y) w w'∧∀ j,v'.ownBlock=some j→v2.ownBlock=some j∨w.heap.size≤j
theorem tookV {w w':World} {go:Nat} {F:Nat→Prop} {q1 q2 q3 q4:Nat} {v1 v2 v3 v4 src:Value} {vs:List Value} (hlt:∀ x,F x→x<w.heap.size) (hgo:F go) (hb:w.heap[go]?=some (bOw v1 v2 v3 v4)) (h1:RowsP w F v1 q1) (h3:RowsW w F v3 q3) (h4:RowsT w F v4 q4) 
  (ho:w.ownsRow 0 32 1 v2 q2 vs) (hv:∀ g,v2.ownBlock=some g→F g) (hf:∀ (i:Nat) (x:Value),vs[i]?=some x→FullG 74 4 (mV ((i+1:Nat):Int)) w x∧∀ g,x.ownBlock=some g→F g)
  (hsrc:∀ g,src.ownBlock=some g→¬F g∧g<w.heap.size) (h:TookV w w' go v1 v2 v3 v4 src q2 vs):OwnAt w' go (Plus F src w w') q1 (q2+1) q3 q4∧Chg (fun y=>F y∨src.ownBlock=some y) w w':=by
 obtain ⟨v',x,a1,a2,a3,a4,a5,a6⟩:=h;have hoth:∀ g,F g→g≠go→v2.ownBlock≠some g→w'.heap[g]?=w.heap[g]?:=fun g hg h1 h2=>a5.block g (hlt g hg) (fun h=>by
  rcases h with h | h | h
  ·exact h1 h
  ·exact (hsrc g h).1 hg
  ·exact h2 h)
 have hgt:∀ g cur t,w.heap[g]?=some (.cells cur t (0,0))→g=go→t=47:=by
  intro g cur t hc e;rw [e,hb] at hc;simp at hc;exact hc.2.symm
 have hvt:∀ g cur t,w.heap[g]?=some (.cells cur t (0,0))→v2.ownBlock=some g→t=32:=by
  intro g cur t hc e;obtain ⟨cur',hc'⟩:=Zq ho g e;rw [hc'] at hc;simp at hc;exact hc.2.symm
 have k1:RowsP w' (Plus F src w w') v1 q1:=h1.keep' (fun g cur t hg hcur ht=>hoth g hg
  (fun e=>by have:=hgt g cur t hcur e;rcases ht with ht | ht <;> rw [ht] at this <;> exact absurd this (by decide))
  (fun e=>by have:=hvt g cur t hcur e;rcases ht with ht | ht <;> rw [ht] at this <;> exact absurd this (by decide))) (fun _ h=>.inl h)
 have k3:RowsW w' (Plus F src w w') v3 q3:=h3.keep' (fun g cur t hg hcur ht=>hoth g hg
  (fun e=>by have:=hgt g cur t hcur e;rcases ht with ht | ht <;> rw [ht] at this <;> exact absurd this (by decide))
  (fun e=>by have:=hvt g cur t hcur e;rcases ht with ht | ht <;> rw [ht] at this <;> exact absurd this (by decide))) (fun _ h=>.inl h)
 have k4:RowsT w' (Plus F src w w') v4 q4:=h4.keep' (fun g cur t hg hcur ht=>hoth g hg
  (fun e=>by have:=hgt g cur t hcur e;rcases ht with ht | ht <;> rw [ht] at this <;> exact absurd this (by decide))
  (fun e=>by have:=hvt g cur t hcur e;rcases ht with ht | ht <;> rw [ht] at this <;> exact absurd this (by decide))) (fun _ h=>.inl h)
 have kn:RowsV w' (Plus F src w w') v' (q2+1):=by
  have hlen:vs.length=q2:=by simpa using ho.1
  refine ⟨vs++[x],a2,fun g hg=>?_,fun i y hy=>?_⟩
  ·rcases a6 g hg with h | h
   ·exact .inl (hv g h)
   ·refine .inr (.inr ⟨h,?_⟩);obtain ⟨cur,hc⟩:=Zq a2 g hg;exact (Array.getElem?_eq_some_iff.1 hc).1
  ·by_cases hi:i<vs.length
   ·rw [List.getElem?_append_left hi] at hy;refine ⟨(hf i y hy).1.keep (fun g hg=>?_),fun g hg=>.inl ((hf i y hy).2 g hg)⟩;rcases (hf i y hy).1 with e | ⟨g',cap,cur,e,_,hc,_⟩
    ·rw [e] at hg;simp [Value.ownBlock] at hg
    ·have:g'=g:=by rw [e] at hg;simpa [Value.ownBlock] using hg
     subst this;refine hoth g' ((hf i y hy).2 g' hg) (fun e=>?_) (fun e=>?_)
     ·exact absurd (hgt g' cur _ hc e) (by decide)
     ·exact absurd (hvt g' cur _ hc e) (by decide)
   ·have hi':i=vs.length:=by
     have:=(List.getElem?_eq_some_iff.1 hy).1;simp at this;omega
    subst hi';rw [List.getElem?_append_right (Nat.le_refl _)] at hy;simp at hy;subst hy;rw [hlen];exact ⟨a3,fun g hg=>.inr (.inl (by rw [←a4];exact hg))⟩
 refine ⟨⟨⟨v1,v',v3,v4,a1,k1,kn,k3,k4⟩,.inl hgo,fun y hy=>?_⟩,a5.mono (fun y hy=>?_)⟩
 ·rcases hy with h | h | h
  ·exact Nat.lt_of_lt_of_le (hlt y h) a5.size
  ·exact Nat.lt_of_lt_of_le (hsrc y h).2 a5.size
  ·exact h.2
 ·rcases hy with h | h | h
  ·exact .inl (by rw [h];exact hgo)
  ·exact .inr h
  ·exact .inl (hv y h)
def TookW (w w':World) (go:Nat) (v1 v2 v3 v4:Value) (src:Value) (q:Nat) (vs:List Value):Prop:=
 ∃ v' x,w'.heap[go]?=some (bOw v1 v2 v' v4)∧w'.ownsRow 0 33 1 v' (q+1) (vs++[x])∧FullG 76 2 (mW ((q+1:Nat):Int)) w' x∧x.ownBlock=src.ownBlock∧Chg (fun y=>y=go∨src.ownBlock=some y∨v3.ownBlock=some y) w w'∧∀ j,v'.ownBlock=some j→v3.ownBlock=some j∨w.heap.size≤j
theorem tookW {w w':World} {go:Nat} {F:Nat→Prop} {q1 q2 q3 q4:Nat} {v1 v2 v3 v4 src:Value} {vs:List Value} (hlt:∀ x,F x→x<w.heap.size) (hgo:F go) (hb:w.heap[go]?=some (bOw v1 v2 v3 v4)) (h1:RowsP w F v1 q1) (h2:RowsV w F v2 q2) (h4:RowsT w F v4 q4) 
  (ho:w.ownsRow 0 33 1 v3 q3 vs) (hv:∀ g,v3.ownBlock=some g→F g) (hf:∀ (i:Nat) (x:Value),vs[i]?=some x→FullG 76 2 (mW ((i+1:Nat):Int)) w x∧∀ g,x.ownBlock=some g→F g)
  (hsrc:∀ g,src.ownBlock=some g→¬F g∧g<w.heap.size) (h:TookW w w' go v1 v2 v3 v4 src q3 vs):OwnAt w' go (Plus F src w w') q1 q2 (q3+1) q4∧Chg (fun y=>F y∨src.ownBlock=some y) w w':=by
 obtain ⟨v',x,a1,a2,a3,a4,a5,a6⟩:=h;have hoth:∀ g,F g→g≠go→v3.ownBlock≠some g→w'.heap[g]?=w.heap[g]?:=fun g hg h1 h2=>a5.block g (hlt g hg) (fun h=>by
  rcases h with h | h | h
  ·exact h1 h
  ·exact (hsrc g h).1 hg
  ·exact h2 h)
 have hgt:∀ g cur t,w.heap[g]?=some (.cells cur t (0,0))→g=go→t=47:=by
  intro g cur t hc e;rw [e,hb] at hc;simp at hc;exact hc.2.symm
 have hvt:∀ g cur t,w.heap[g]?=some (.cells cur t (0,0))→v3.ownBlock=some g→t=33:=by
  intro g cur t hc e;obtain ⟨cur',hc'⟩:=Zq ho g e;rw [hc'] at hc;simp at hc;exact hc.2.symm
 have k1:RowsP w' (Plus F src w w') v1 q1:=h1.keep' (fun g cur t hg hcur ht=>hoth g hg
  (fun e=>by have:=hgt g cur t hcur e;rcases ht with ht | ht <;> rw [ht] at this <;> exact absurd this (by decide))
  (fun e=>by have:=hvt g cur t hcur e;rcases ht with ht | ht <;> rw [ht] at this <;> exact absurd this (by decide))) (fun _ h=>.inl h)
 have k2:RowsV w' (Plus F src w w') v2 q2:=h2.keep' (fun g cur t hg hcur ht=>hoth g hg
  (fun e=>by have:=hgt g cur t hcur e;rcases ht with ht | ht <;> rw [ht] at this <;> exact absurd this (by decide))
  (fun e=>by have:=hvt g cur t hcur e;rcases ht with ht | ht <;> rw [ht] at this <;> exact absurd this (by decide))) (fun _ h=>.inl h)
 have k4:RowsT w' (Plus F src w w') v4 q4:=h4.keep' (fun g cur t hg hcur ht=>hoth g hg
  (fun e=>by have:=hgt g cur t hcur e;rcases ht with ht | ht <;> rw [ht] at this <;> exact absurd this (by decide))
  (fun e=>by have:=hvt g cur t hcur e;rcases ht with ht | ht <;> rw [ht] at this <;> exact absurd this (by decide))) (fun _ h=>.inl h)
 have kn:RowsW w' (Plus F src w w') v' (q3+1):=by
  have hlen:vs.length=q3:=by simpa using ho.1
  refine ⟨vs++[x],a2,fun g hg=>?_,fun i y hy=>?_⟩
  ·rcases a6 g hg with h | h
   ·exact .inl (hv g h)
   ·refine .inr (.inr ⟨h,?_⟩);obtain ⟨cur,hc⟩:=Zq a2 g hg;exact (Array.getElem?_eq_some_iff.1 hc).1
  ·by_cases hi:i<vs.length
   ·rw [List.getElem?_append_left hi] at hy;refine ⟨(hf i y hy).1.keep (fun g hg=>?_),fun g hg=>.inl ((hf i y hy).2 g hg)⟩;rcases (hf i y hy).1 with e | ⟨g',cap,cur,e,_,hc,_⟩
    ·rw [e] at hg;simp [Value.ownBlock] at hg
    ·have:g'=g:=by rw [e] at hg;simpa [Value.ownBlock] using hg
     subst this;refine hoth g' ((hf i y hy).2 g' hg) (fun e=>?_) (fun e=>?_)
     ·exact absurd (hgt g' cur _ hc e) (by decide)
     ·exact absurd (hvt g' cur _ hc e) (by decide)
   ·have hi':i=vs.length:=by
     have:=(List.getElem?_eq_some_iff.1 hy).1;simp at this;omega
    subst hi';rw [List.getElem?_append_right (Nat.le_refl _)] at hy;simp at hy;subst hy;rw [hlen];exact ⟨a3,fun g hg=>.inr (.inl (by rw [←a4];exact hg))⟩
 refine ⟨⟨⟨v1,v2,v',v4,a1,k1,k2,kn,k4⟩,.inl hgo,fun y hy=>?_⟩,a5.mono (fun y hy=>?_)⟩
 ·rcases hy with h | h | h
  ·exact Nat.lt_of_lt_of_le (hlt y h) a5.size
  ·exact Nat.lt_of_lt_of_le (hsrc y h).2 a5.size
  ·exact h.2
 ·rcases hy with h | h | h
  ·exact .inl (by rw [h];exact hgo)
  ·exact .inr h
  ·exact .inl (hv y h)
def TookT (w w':World) (go:Nat) (v1 v2 v3 v4:Value) (src:Value) (q:Nat) (vs:List Value):Prop:=
 ∃ v' x,w'.heap[go]?=some (bOw v1 v2 v3 v')∧w'.ownsRow 0 34 1 v' (q+1) (vs++[x])∧FullG 72 3 (mT ((q+1:Nat):Int)) w' x∧x.ownBlock=src.ownBlock∧Chg (fun y=>y=go∨src.ownBlock=some y∨v4.ownBlock=some y) w w'∧∀ j,v'.ownBlock=some j→v4.ownBlock=some j∨w.heap.size≤j
theorem tookT {w w':World} {go:Nat} {F:Nat→Prop} {q1 q2 q3 q4:Nat} {v1 v2 v3 v4 src:Value} {vs:List Value} (hlt:∀ x,F x→x<w.heap.size) (hgo:F go) (hb:w.heap[go]?=some (bOw v1 v2 v3 v4)) (h1:RowsP w F v1 q1) (h2:RowsV w F v2 q2) (h3:RowsW w F v3 q3) 
  (ho:w.ownsRow 0 34 1 v4 q4 vs) (hv:∀ g,v4.ownBlock=some g→F g) (hf:∀ (i:Nat) (x:Value),vs[i]?=some x→FullG 72 3 (mT ((i+1:Nat):Int)) w x∧∀ g,x.ownBlock=some g→F g)
  (hsrc:∀ g,src.ownBlock=some g→¬F g∧g<w.heap.size) (h:TookT w w' go v1 v2 v3 v4 src q4 vs):OwnAt w' go (Plus F src w w') q1 q2 q3 (q4+1)∧Chg (fun y=>F y∨src.ownBlock=some y) w w':=by
 obtain ⟨v',x,a1,a2,a3,a4,a5,a6⟩:=h;have hoth:∀ g,F g→g≠go→v4.ownBlock≠some g→w'.heap[g]?=w.heap[g]?:=fun g hg h1 h2=>a5.block g (hlt g hg) (fun h=>by
  rcases h with h | h | h
  ·exact h1 h
  ·exact (hsrc g h).1 hg
  ·exact h2 h)
 have hgt:∀ g cur t,w.heap[g]?=some (.cells cur t (0,0))→g=go→t=47:=by
  intro g cur t hc e;rw [e,hb] at hc;simp at hc;exact hc.2.symm
 have hvt:∀ g cur t,w.heap[g]?=some (.cells cur t (0,0))→v4.ownBlock=some g→t=34:=by
  intro g cur t hc e;obtain ⟨cur',hc'⟩:=Zq ho g e;rw [hc'] at hc;simp at hc;exact hc.2.symm
 have k1:RowsP w' (Plus F src w w') v1 q1:=h1.keep' (fun g cur t hg hcur ht=>hoth g hg
  (fun e=>by have:=hgt g cur t hcur e;rcases ht with ht | ht <;> rw [ht] at this <;> exact absurd this (by decide))
  (fun e=>by have:=hvt g cur t hcur e;rcases ht with ht | ht <;> rw [ht] at this <;> exact absurd this (by decide))) (fun _ h=>.inl h)
 have k2:RowsV w' (Plus F src w w') v2 q2:=h2.keep' (fun g cur t hg hcur ht=>hoth g hg
  (fun e=>by have:=hgt g cur t hcur e;rcases ht with ht | ht <;> rw [ht] at this <;> exact absurd this (by decide))
  (fun e=>by have:=hvt g cur t hcur e;rcases ht with ht | ht <;> rw [ht] at this <;> exact absurd this (by decide))) (fun _ h=>.inl h)
 have k3:RowsW w' (Plus F src w w') v3 q3:=h3.keep' (fun g cur t hg hcur ht=>hoth g hg
  (fun e=>by have:=hgt g cur t hcur e;rcases ht with ht | ht <;> rw [ht] at this <;> exact absurd this (by decide))
  (fun e=>by have:=hvt g cur t hcur e;rcases ht with ht | ht <;> rw [ht] at this <;> exact absurd this (by decide))) (fun _ h=>.inl h)
 have kn:RowsT w' (Plus F src w w') v' (q4+1):=by
  have hlen:vs.length=q4:=by simpa using ho.1
  refine ⟨vs++[x],a2,fun g hg=>?_,fun i y hy=>?_⟩
  ·rcases a6 g hg with h | h
   ·exact .inl (hv g h)
   ·refine .inr (.inr ⟨h,?_⟩);obtain ⟨cur,hc⟩:=Zq a2 g hg;exact (Array.getElem?_eq_some_iff.1 hc).1
  ·by_cases hi:i<vs.length
   ·rw [List.getElem?_append_left hi] at hy;refine ⟨(hf i y hy).1.keep (fun g hg=>?_),fun g hg=>.inl ((hf i y hy).2 g hg)⟩;rcases (hf i y hy).1 with e | ⟨g',cap,cur,e,_,hc,_⟩
    ·rw [e] at hg;simp [Value.ownBlock] at hg
    ·have:g'=g:=by rw [e] at hg;simpa [Value.ownBlock] using hg
     subst this;refine hoth g' ((hf i y hy).2 g' hg) (fun e=>?_) (fun e=>?_)
     ·exact absurd (hgt g' cur _ hc e) (by decide)
     ·exact absurd (hvt g' cur _ hc e) (by decide)
   ·have hi':i=vs.length:=by
     have:=(List.getElem?_eq_some_iff.1 hy).1;simp at this;omega
    subst hi';rw [List.getElem?_append_right (Nat.le_refl _)] at hy;simp at hy;subst hy;rw [hlen];exact ⟨a3,fun g hg=>.inr (.inl (by rw [←a4];exact hg))⟩
 refine ⟨⟨⟨v1,v2,v3,v',a1,k1,k2,k3,kn⟩,.inl hgo,fun y hy=>?_⟩,a5.mono (fun y hy=>?_)⟩
 ·rcases hy with h | h | h
  ·exact Nat.lt_of_lt_of_le (hlt y h) a5.size
  ·exact Nat.lt_of_lt_of_le (hsrc y h).2 a5.size
  ·exact h.2
 ·rcases hy with h | h | h
  ·exact .inl (by rw [h];exact hgo)
  ·exact .inr h
  ·exact .inl (hv y h)
theorem Zjw (go:Nat) (F:Nat→Prop) (q1 q2 q3 q4:Nat) (b:Int) (vo:Option Addr) (n vc:Nat) (xs:List Value) (w:World) (h:OwnAt w go F q1 q2 q3 q4) (hq:q1≤1099511627776) (hl:w.ownsRow 0 70 4 (.slice vo n vc) n xs) (hd:∀ g,(Value.slice vo n vc).ownBlock=some g→¬F g) :
  Calls Tryz.prog 32 #[.pointer (some ⟨go,0,none⟩),.agg #[.int .i64 b,.slice vo n vc]] w fun e w'=>(∃ x,e=.returned x)∧OwnAt w' go (Plus F (.slice vo n vc) w w') (q1+1) q2 q3 q4∧Chg (fun y=>F y∨(Value.slice vo n vc).ownBlock=some y) w w':=by
 obtain ⟨v1,v2,v3,v4,h0,r1,r2,r3,r4⟩:=h.ex;obtain ⟨vs,o1,o2,o3⟩:=r1;obtain ⟨po,pc,rfl,_⟩:=Zd o1;have hsrc:∀ g,(Value.slice vo n vc).ownBlock=some g→¬F g∧g<w.heap.size:=fun g hg=>⟨hd g hg,(hl.lt g hg).2⟩
 rcases hl.2 with ⟨e,e2⟩ | ⟨g,cap,cur,e,_,hg,hn,hm,hs,_⟩
 ·simp only [Value.slice.injEq] at e;obtain ⟨rfl,rfl,rfl⟩:=e;refine (Zi9 go b v2 v3 v4 po pc q1 vs w h0 o1 hq).mono ?_;rintro e w' ⟨hx,po6,pc6,a1,a2,a3,a4⟩;exact ⟨hx,tookP h.lt h.go h0 r2 r3 r4 o1 o2 o3 hsrc ⟨_,.slice none 0 0,a1,a2,.inl rfl,rfl,a3.mono (fun y hy=>hy.elim .inl (fun h=>.inr (.inr h))),a4⟩⟩
 ·simp only [Value.slice.injEq] at e;obtain ⟨rfl,_,rfl⟩:=e;refine (Zh5 go g b v2 v3 v4 po pc q1 vs n vc cur w h0 o1 hq hg hs hm hn).mono ?_;rintro e w' ⟨hx,po6,pc6,a1,a2,a3,a4,a5⟩;exact ⟨hx,tookP h.lt h.go h0 r2 r3 r4 o1 o2 o3 hsrc ⟨_,.slice (some ⟨g,0,none⟩) vc vc,a1,a2,a3,rfl,a4.mono (fun y hy=>by
   rcases hy with h | h | h
   ·exact .inl h
   ·exact .inr (.inl (by rw [h];rfl))
   ·exact .inr (.inr h)),a5⟩⟩
theorem ZiD (go:Nat) (F:Nat→Prop) (q1 q2 q3 q4:Nat) (vo:Option Addr) (n vc:Nat) (xs:List Value) (w:World) (h:OwnAt w go F q1 q2 q3 q4) (hq:q4≤1099511627776) (hl:w.ownsRow 0 72 3 (.slice vo n vc) n xs) (hd:∀ g,(Value.slice vo n vc).ownBlock=some g→¬F g) :
  Calls Tryz.prog 33 #[.pointer (some ⟨go,0,none⟩),.slice vo n vc] w fun e w'=>(∃ x,e=.returned x)∧OwnAt w' go (Plus F (.slice vo n vc) w w') q1 q2 q3 (q4+1)∧Chg (fun y=>F y∨(Value.slice vo n vc).ownBlock=some y) w w':=by
 obtain ⟨v1,v2,v3,v4,h0,r1,r2,r3,r4⟩:=h.ex;obtain ⟨vs,o1,o2,o3⟩:=r4;obtain ⟨po,pc,rfl,_⟩:=Zd o1;have hsrc:∀ g,(Value.slice vo n vc).ownBlock=some g→¬F g∧g<w.heap.size:=fun g hg=>⟨hd g hg,(hl.lt g hg).2⟩
 rcases hl.2 with ⟨e,e2⟩ | ⟨g,cap,cur,e,_,hg,hn,hm,hs,_⟩
 ·simp only [Value.slice.injEq] at e;obtain ⟨rfl,rfl,rfl⟩:=e;refine (ZiT go v1 v2 v3 po pc q4 vs w h0 o1 hq).mono ?_;rintro e w' ⟨hx,po6,pc6,a1,a2,a3,a4⟩;exact ⟨hx,tookT h.lt h.go h0 r1 r2 r3 o1 o2 o3 hsrc ⟨_,.slice none 0 0,a1,a2,.inl rfl,rfl,a3.mono (fun y hy=>hy.elim .inl (fun h=>.inr (.inr h))),a4⟩⟩
 ·simp only [Value.slice.injEq] at e;obtain ⟨rfl,_,rfl⟩:=e;refine (Ziz go g v1 v2 v3 po pc q4 vs n vc cur w h0 o1 hq hg hs hm hn).mono ?_;rintro e w' ⟨hx,po6,pc6,a1,a2,a3,a4,a5⟩;exact ⟨hx,tookT h.lt h.go h0 r1 r2 r3 o1 o2 o3 hsrc ⟨_,.slice (some ⟨g,0,none⟩) vc vc,a1,a2,a3,rfl,a4.mono (fun y hy=>by
   rcases hy with h | h | h
   ·exact .inl h
   ·exact .inr (.inl (by rw [h];rfl))
   ·exact .inr (.inr h)),a5⟩⟩
theorem appendG {w:World} {ops:Array Oper} {rest:List Oper} {o:Oper} {a:Act} {Q:Exit→Act→World→Prop} (ty tyl:TypeId) (sz bytes:Nat) (z:Value) (hinfo:(Tryz.prog.info? ty).map (fun i=>(i.zero,i.size,i.bytes))=some (some z,sz,bytes)) (hund:Tryz.prog.underlying tyl=some (.slice ty)) (hzs:z.cells.size=sz) (hsz:0<sz) (hby:bytes≤64)
  (hgd:o.guard=none) (s x:Operand) (ho:o.op=.call {callee:=.builtin .append,args:=#[s,x],argTypes:=#[tyl,tyl]}) (base:Nat)
  (v:Value) (n:Nat) (xs:List Value) (hs:a.eval s=v) (hown:w.ownsRow base ty sz v n xs)
  (so:Option Addr) (m c:Nat) (news:List Value) (hx:a.eval x=.slice so m c) (hnl:news.length=m*sz) (hrow:RowAt w (.slice so m c) m news) (hone:∀ u∈news,u.oneCell'=true) (hnil:so=none→c=0)
  (h6:n+m≤1099511627776) (hbase:base≤w.heap.size)
  (h:∀ v' w',w'.ownsRow base ty sz v' (n+m) (xs++news)→Below base w w'→wpList Tryz.prog ops Q rest (a.put o.dst v') w'):wpList Tryz.prog ops Q (o :: rest) a w:=by
 obtain ⟨t0,hi,hz0,hz1,hz2⟩:=info_parts hinfo;cases so with
 | none =>
  have hm:m=0:=by
   obtain ⟨ao',c',e,_,hh⟩:=hrow;rcases hh with hh | ⟨b,off,e',_⟩
   ·rw [hh] at hnl;have h0:m*sz=0:=by simpa using hnl.symm
    rcases Nat.mul_eq_zero.1 h0 with h | h
    ·exact h
    ·omega
   ·simp only [Value.slice.injEq] at e;rw [e'] at e;simp at e
  subst hm;have hc:c=0:=hnil rfl;subst hc;obtain rfl:news=[]:=List.length_eq_zero_iff.1 (by simpa using hnl);refine wpList_append_own_none hgd s x tyl ho base ty t0 sz hund hi v n xs hs hown hx ?_;exact h v w (by simpa using hown) (Below.refl _ _)
 | some ad =>
  refine wpList_append_own _ hgd s x tyl ho base ty t0 z sz bytes hund hi hz0 hz1 hz2 hzs hsz v n xs hs hown ad m c news hx hnl ?_ hone (by unfold maxLen;omega) ?_ hbase ?_
  ·intro j u hj;obtain ⟨b,off,e,_,g⟩:=hrow.at hj;obtain rfl:ad=⟨b,off,none⟩:=by simpa using e
   rw [show (⟨b,off,none⟩:Addr).add j=⟨b,off+j,none⟩ by unfold Addr.add;split <;> simp_all];exact g
  ·have:(n+m)*bytes≤1099511627776*64:=Nat.mul_le_mul h6 hby;omega
  ·intro v' w' ho' hg _;exact h v' w' ho' ((Below.refl _ _).grown hg hbase (fun g hg=>(hown.lt g hg).1))
theorem Zhz:(Tryz.prog.info? 70).map (fun i=>(i.zero,i.size,i.bytes))=some (some (.agg #[.string ⟨#[]⟩,.int .i64 0,.int .i64 0,.int .i64 0]),4,40):=by kernel_rfl
theorem Zce:(Tryz.prog.info? 74).map (fun i=>(i.zero,i.size,i.bytes))=some (some (.agg #[.int .i64 0,.string ⟨#[]⟩,.int .i64 0,.int .i64 0]),4,40):=by kernel_rfl
theorem ZfY:(Tryz.prog.info? 76).map (fun i=>(i.zero,i.size,i.bytes))=some (some (.agg #[.int .i64 0,.string ⟨#[]⟩]),2,24):=by kernel_rfl
theorem Zes:∀ l:List Pl,(flatP l).length=l.length*4
 | []=>rfl
 | p :: r=>by simp [flatP,Zes r];omega
theorem Zey:∀ (l:List Pl),∀ u∈flatP l,u.oneCell'=true
 | [],u,h=>by simp [flatP] at h
 | p :: r,u,h=>by
  simp only [flatP,List.mem_cons] at h;rcases h with rfl | rfl | rfl | rfl | h
  ·rfl
  ·rfl
  ·rfl
  ·rfl
  ·exact Zey r u h
theorem Zh2 (l:List Srv):(flatV l).length=l.length*4:=Zcx fSv 4 (fun _=>rfl) l
theorem Zh3 (l:List Wtr):(flatW l).length=l.length*2:=Zcx fWt 2 (fun _=>rfl) l
theorem Zhr (l:List Srv):∀ u∈flatV l,u.oneCell'=true:=ZdT fSv (fun x u hu=>by simp [fSv] at hu;rcases hu with rfl | rfl | rfl | rfl <;> rfl) l
theorem ZiC (l:List Wtr):∀ u∈flatW l,u.oneCell'=true:=ZdT fWt (fun x u hu=>by simp [fWt] at hu;rcases hu with rfl | rfl <;> rfl) l
theorem Zv {w:World} {B:Nat} {e:TypeId} {size:Nat} {so:Option Addr} {n c:Nat} {xs:List Value} (h:w.ownsRow B e size (.slice so n c) n xs):so=none→c=0:=by
 rintro rfl;rcases h.2 with ⟨e,_⟩ | ⟨g,cap,cur,e,_⟩
 ·simp only [Value.slice.injEq] at e;exact e.2.2
 ·simp at e
theorem Z5 (b:Int) (ps:List Pl) (vo:Option Addr) (n vc:Nat) (w:World) (hr:RowAt w (.slice vo n vc) n (flatP ps)) (hnil:vo=none→vc=0) (hn:ps.length=n) (hq:n≤1099511627776) :
  Calls Tryz.prog 58 #[.agg #[.int .i64 b,.slice vo n vc]] w fun e w'=>∃ po pc,e=.returned (.agg #[.int .i64 b,.slice po n pc])∧w'.ownsRow w.heap.size 70 4 (.slice po n pc) n (flatP ps)∧Below w.heap.size w w':=by
 have HN:=hideIt hn;have HNIL:=hideIt hnil;have hb0:Below w.heap.size w ((w.alloc (bTab b (.slice vo n vc))).alloc (bTab 0 (.slice none 0 0))):=Za (Zb _ _) (Zb _ _);have HR:Hid (RowAt (((w.alloc (bTab b (.slice vo n vc))).alloc (bTab 0 (.slice none 0 0))).alloc (.cells #[] 70)) (.slice vo n vc) n (flatP ps)∧(((w.alloc (bTab b (.slice vo n vc))).alloc (bTab 0 (.slice none 0 0))).alloc (.cells #[] 70)).ownsRow (w.heap.size+2) 70 4 (.slice (some ⟨w.heap.size+1+1,0,none⟩) 0 0) 0 []):=by
  refine ⟨(hr.nx hb0).nx (Zb _ _),?_⟩;have:=World.ownsRow_made (base:=w.heap.size+2) (e:=70) (size:=4) ((w.alloc (bTab b (.slice vo n vc))).alloc (bTab 0 (.slice none 0 0))) #[] 0 (by simp) (Nat.zero_le _) rfl;simpa using this
 have HB:Hid (Below w.heap.size w (((w.alloc (bTab b (.slice vo n vc))).alloc (bTab 0 (.slice none 0 0))).alloc (.cells #[] 70))∧(((w.alloc (bTab b (.slice vo n vc))).alloc (bTab 0 (.slice none 0 0))).alloc (.cells #[] 70)).heap[w.heap.size]?=some (bTab b (.slice vo n vc))∧(((w.alloc (bTab b (.slice vo n vc))).alloc (bTab 0 (.slice none 0 0))).alloc (.cells #[] 70)).heap[w.heap.size+1]?=some (bTab 0 (.slice none 0 0))):=by
  refine ⟨Za hb0 (Zb _ _),?_,?_⟩
  ·exact (Zf _ _ (by simp;omega)).trans ((Zf _ _ (by simp)).trans (Zc _ _ rfl))
  ·exact (Zf _ _ (by simp)).trans (Zc _ _ (by simp))
 clear hb0 hr hn hnil;go_enter Tryz.func58,Tryz.ntmps58
 go_wp2_with (at_builtin;refine appendG 70 29 4 40 _ Zhz Tryz.underlying29 rfl (by decide) (by decide) rfl (.tmp 4) (.tmp 6) rfl (w.heap.size+2) _ 0 [] rfl HR.out.2 vo n vc (flatP ps) rfl (by rw [Zes,HN.out]) HR.out.1 (Zey ps) HNIL.out (by omega) (by simp) ?next)
 case next =>
  intro v' w3 hown hb3;obtain ⟨po,pc,rfl,_⟩:=Zd hown;have e0:w3.heap[w.heap.size]?=some (bTab b (.slice vo n vc)):=(hb3.block _ (by omega)).trans HB.out.2.1;have e1:w3.heap[w.heap.size+1]?=some (bTab 0 (.slice none 0 0)):=(hb3.block _ (by omega)).trans HB.out.2.2;obtain ⟨a0,a1,az⟩:=blk2 e0;obtain ⟨b0,b1,bz⟩:=blk2 e1;have HO:Hid (w3.ownsRow (w.heap.size+2) 70 4 (.slice po n pc) n (flatP ps)∧Below w.heap.size w w3):=⟨hown,HB.out.1.trans (hb3.mono (by omega))⟩;clear hown hb3 e0 e1;go_wp2_with fail
  refine bodyPost_ret (v:=.agg #[.int .i64 b,.slice po n pc]) (by simp [results,Tryz.results58,go_sem,b0,b1]) rfl ⟨po,pc,rfl,?_,?_⟩
  ·exact Zi (ownsRow_setCell_below (ownsRow_setCell_below HO.out.1 (by show w.heap.size+1<_;omega) _) (by show w.heap.size+1<_;omega) _) (by omega)
  ·exact (HO.out.2.setCell (by show w.heap.size≤w.heap.size+1;omega) _).setCell (by show w.heap.size≤w.heap.size+1;omega) _
end Lw
end Go.Proofs.YtcpikklofilkcaaGreat
