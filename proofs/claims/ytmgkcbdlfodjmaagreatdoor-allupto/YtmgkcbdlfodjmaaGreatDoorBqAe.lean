import Derived.Test.YtmgkcbdlfodjmaaGreatDoorBqR
import Derived.Deep.CutBlock
import Derived.BigCall
set_option maxRecDepth 100000
set_option maxHeartbeats 16000000
namespace Go.Proofs.YtmgkcbdlfodjmaaGreatDoor
open Go.RowKit
namespace Lw
open Co
structure ZdA (S:Zh) (op:Int):Prop where
 inv:Inv S op
 wc:∀ y∈S.wts,1≤y.client∧y.client≤99
 sc:∀ x∈S.srv,0≤x.client∧x.client≤99
 one:S.srv.Pairwise (fun a b=>a.client=b.client→a.client=0)
 sep:∀ x∈S.srv,∀ y∈S.wts,x.client≠y.client
 sur:∀ x∈S.srv,x.client=0→ZaY S x=false
theorem Zf0 {S:Zh} {s:Srv}:ZaY S s=false↔∃ x,S.pools.find? (Zl s.pool)=some x∧s.far=x.fr∧(Zs (Zj s.pool) S.srv:Int)≤x.sz∧(S.srv.length:Int)≤S.bud:=by
 unfold ZaY;cases d:S.pools.find? (Zl s.pool) with
 | none=>simp
 | some x=>simp [Int.not_lt,and_assoc]
theorem Zj4 {p:Srv→Bool} {f:Srv→Srv} (d:∀ x,p (f x)=p x) (l:List Srv):Zs p (l.map f)=Zs p l:=by
 unfold Zs;rw [List.filter_map,List.length_map];congr 2;funext x
 exact d x
theorem ZfV {α:Type} {p:α→Bool} {l d:List α} (h:l.Sublist d):Zs p l≤Zs p d:=(h.filter p).length_le
theorem Zf4 {S T:Zh} {s:Srv} (q:T.pools=S.pools) (hb:T.bud=S.bud) (E:Zs (Zj s.pool) T.srv≤Zs (Zj s.pool) S.srv) (I:T.srv.length≤S.srv.length) (d:ZaY S s=false):ZaY T s=false:=by
 obtain ⟨x,h,m,A,D⟩:=Zf0.1 d;exact Zf0.2 ⟨x,by rw [q];exact h,m,by omega,by rw [hb];omega⟩
theorem ZbJ {b:Bool} (d:¬b=true):b=false:=by cases b <;> simp_all
structure Gvn (S T:Zh) (op op':Int) (c:Wtr):Prop where
 fine:ZdA (ZO T c.client) op'
 has:∃ x∈T.srv,x.client=c.client
 keep:∀ x∈S.srv,x.client≠0→x∈T.srv
 new:∀ x∈T.srv,x.client≠0→x∈S.srv∨x.client=c.client
 rest:T.pools=S.pools∧T.bud=S.bud∧T.plan=S.plan∧T.begun=S.begun∧T.back=S.back
 wts:T.wts=S.wts
 op:op≤op'∧op'≤op+1
 far:∀ x∈T.srv,(∃ z∈S.srv,x.id=z.id∧x.pool=z.pool∧x.far=z.far)∨∃ p,S.pools.find? (Zl c.pool)=some p∧x.pool=p.nm∧x.far=p.fr
 cnt:∀ nm,Zs (Zj nm) T.srv≤Zs (Zj nm) S.srv∨∃ p,S.pools.find? (Zl nm)=some p∧(Zs (Zj nm) T.srv:Int)≤p.sz
 len:T.srv.length≤S.srv.length∨(T.srv.length:Int)≤S.bud
theorem ZkL {ps:List Pl} {n d:ByteArray} (h:n.toList=d.toList):ps.find? (Zl n)=ps.find? (Zl d):=by
 have:Zl n=Zl d:=by funext x;unfold Zl;rw [h]
 rw [this]
theorem ZqB {l:List Srv} {n d:ByteArray} (h:n.toList=d.toList):Zs (Zj n) l=Zs (Zj d) l:=by
 have:Zj n=Zj d:=by funext x;unfold Zj;rw [h]
 rw [this]
theorem ZeE {α:Type} {p:α→Bool} {l:List α} (d:l.find? p=none):∀ x∈l,p x=false:=by
 intro x h;have:=List.find?_eq_none.1 d x h;exact ZbJ this
theorem Zh6 {S:Zh} {op:Int} (hF:ZdA S op) {c:Wtr} (L:c∈S.wts) {x:Pl} (J:S.pools.find? (Zl c.pool)=some x) (Q:∀ s∈S.srv,(Zj x.nm s&&Zp 0 s)=false) {ss:List Srv} (ac:ss.Sublist S.srv) (ab:(ss.length:Int)+1≤S.bud)
  (R:∀ x∈S.srv,x.client≠0→x∈ss) (M:(Zs (Zj x.nm) ss:Int)<x.sz):Gvn S {S with srv:=ss++[⟨op+1,x.nm,x.fr,c.client⟩]} op (op+1) c:=by
 have aa:=hF.wc c L;have U:=Zfl J;have O:∀ s∈S.srv,s.client=0→Zs (Zj s.pool) (ss++[(⟨op+1,x.nm,x.fr,c.client⟩:Srv)])≤Zs (Zj s.pool) S.srv:=by
  intro s V m;have q:=Q s V;have D:Zp 0 s=true:=by unfold Zp;simp [m]
  rw [D,Bool.and_true] at q;have A:Zj s.pool ⟨op+1,x.nm,x.fr,c.client⟩=false:=by
   unfold Zj at q ⊢;simp only at q ⊢;exact ZbJ (fun h=>by have:=eq_of_beq h;rw [this] at q;simp at q)
  unfold Zs;rw [Yr,List.length_append];simp only [List.filter_cons,A,Bool.false_eq_true,if_false,List.filter_nil,List.length_nil,Nat.add_zero];exact (ac.filter _).length_le
 refine ⟨⟨⟨?_,?_,by have:=hF.inv.op0;omega,hF.inv.cli.sublist List.filter_sublist⟩,?_,?_,?_,?_,?_⟩,⟨_,List.mem_append_right _ (List.mem_singleton.2 rfl),rfl⟩,fun y d m=>List.mem_append_left _ (R y d m),?_,⟨rfl,rfl,rfl,rfl,rfl⟩,rfl,by omega,?_,?_,?_⟩
 ·show (ss++[_]).Pairwise _;rw [List.pairwise_append];refine ⟨hF.inv.ids.sublist ac,by simp,fun a E b hb=>?_⟩;simp only [List.mem_singleton] at hb;subst hb;have:=hF.inv.low a (ac.subset E);show a.id<op+1;omega
 ·intro y d;rcases List.mem_append.1 d with d | d
  ·have:=hF.inv.low y (ac.subset d);omega
  ·simp only [List.mem_singleton] at d;subst d;have:=hF.inv.op0;show 1≤op+1∧op+1≤op+1;omega
 ·exact fun y d=>hF.wc y (List.mem_filter.1 d).1
 ·intro y d;rcases List.mem_append.1 d with d | d
  ·exact hF.sc y (ac.subset d)
  ·simp only [List.mem_singleton] at d;subst d;show 0≤c.client∧c.client≤99;omega
 ·show (ss++[_]).Pairwise _;rw [List.pairwise_append];refine ⟨hF.one.sublist ac,by simp,fun a E b hb h=>?_⟩;simp only [List.mem_singleton] at hb;subst hb;exact absurd h (hF.sep a (ac.subset E) c L)
 ·intro y d z M;obtain ⟨X,N⟩:=List.mem_filter.1 M;rcases List.mem_append.1 d with d | d
  ·exact hF.sep y (ac.subset d) z X
  ·simp only [List.mem_singleton] at d;subst d;intro h;simp only [Bool.not_eq_true',decide_eq_false_iff_not] at N;exact N h.symm
 ·intro y d m;rcases List.mem_append.1 d with d | d
  ·obtain ⟨p,q,D,A,Y⟩:=Zf0.1 (hF.sur y (ac.subset d) m);refine Zf0.2 ⟨p,q,D,?_,?_⟩
   ·have:=O y (ac.subset d) m;show ((Zs (Zj y.pool) (ss++[_]):Nat):Int)≤_;omega
   ·show (((ss++[_]).length:Nat):Int)≤S.bud;rw [List.length_append];simp only [List.length_singleton];omega
  ·simp only [List.mem_singleton] at d;subst d;have:c.client=0:=m;omega
 ·intro y d _;rcases List.mem_append.1 d with d | d
  ·exact .inl (ac.subset d)
  ·simp only [List.mem_singleton] at d;subst d;exact .inr rfl
 ·intro y d;rcases List.mem_append.1 d with d | d
  ·exact .inl ⟨y,ac.subset d,rfl,rfl,rfl⟩
  ·simp only [List.mem_singleton] at d;subst d;exact .inr ⟨x,J,rfl,rfl⟩
 ·intro nm;by_cases I:x.nm.toList=nm.toList
  ·right;refine ⟨x,by rw [←ZkL (show c.pool.toList=nm.toList by rw [←U];exact I)];exact J,?_⟩;show ((Zs (Zj nm) (ss++[_]):Nat):Int)≤_;rw [ZqB I.symm];have A:Zs (Zj x.nm) (ss++[(⟨op+1,x.nm,x.fr,c.client⟩:Srv)])≤Zs (Zj x.nm) ss+1:=by
    unfold Zs;rw [Yr,List.length_append];have:=Yp (Zj x.nm) [(⟨op+1,x.nm,x.fr,c.client⟩:Srv)];simp only [List.length_singleton] at this;omega
   omega
  ·left;show Zs (Zj nm) (ss++[_])≤_;unfold Zs;rw [Yr,List.length_append];have A:Zj nm ⟨op+1,x.nm,x.fr,c.client⟩=false:=ZbJ (fun h=>I (eq_of_beq h));simp only [List.filter_cons,A,Bool.false_eq_true,if_false,List.filter_nil,List.length_nil,Nat.add_zero];exact (ac.filter _).length_le
 ·right;show (((ss++[_]).length:Nat):Int)≤S.bud;rw [List.length_append];simp only [List.length_singleton];omega
theorem ZoY {S:Zh} {op:Int} (hF:ZdA S op) {c:Wtr} (L:c∈S.wts) {y:Zh×Int} (d:ZaT S op c=some y):Gvn S y.1 op y.2 c:=by
 have ah:=hF.wc c L;unfold ZaT at d;cases R:S.pools.find? (Zl c.pool) with
 | none=>rw [R] at d;simp at d
 | some x =>
  rw [R] at d;simp only at d;cases J:S.srv.find? (fun s=>Zj x.nm s&&Zp 0 s) with
  | some s =>
   rw [J] at d;simp only [Option.some.injEq] at d;subst d;have O:=List.mem_of_find?_eq_some J;have aa:=List.find?_some J;simp only [Bool.and_eq_true] at aa;have V:s.client=0:=by have:=aa.2;unfold Zp at this;exact eq_of_beq this
   have Y:∀ (p:ByteArray) (z:Srv),Zj p (if z.id=s.id then {z with client:=c.client} else z)=Zj p z:=by
    intro p z;split <;> rfl
   have U:∀ z∈S.srv,z.id=s.id→z=s:=fun z h e=>by
    have E:=hF.inv.ids;obtain ⟨i,M,rfl⟩:=List.getElem_of_mem h;obtain ⟨j,N,rfl⟩:=List.getElem_of_mem O;rw [List.pairwise_iff_getElem] at E;rcases Nat.lt_trichotomy i j with d | d | d
    ·have:=E i j M N d;omega
    ·subst d;rfl
    ·have:=E j i N M d;omega
   have D:∀ a:Srv,(if a.id=s.id then {a with client:=c.client} else a).client=if a.id=s.id then c.client else a.client:=fun a=>by split <;> rfl
   refine ⟨⟨⟨?_,?_,hF.inv.op0,hF.inv.cli.sublist List.filter_sublist⟩,?_,?_,?_,?_,?_⟩,?_,?_,?_,⟨rfl,rfl,rfl,rfl,rfl⟩,rfl,by simp only;omega,?_,?_,?_⟩
   ·show (S.srv.map _).Pairwise _;rw [List.pairwise_map];refine hF.inv.ids.imp (fun {a b} I=>?_);have A:∀ a:Srv,(if a.id=s.id then {a with client:=c.client} else a).id=a.id:=fun a=>by split <;> rfl
    rw [A,A];exact I
   ·intro z h;obtain ⟨a,m,rfl⟩:=List.mem_map.1 h;have A:(if a.id=s.id then {a with client:=c.client} else a).id=a.id:=by split <;> rfl
    rw [A];exact hF.inv.low a m
   ·exact fun z h=>hF.wc z (List.mem_filter.1 h).1
   ·intro z h;obtain ⟨a,m,rfl⟩:=List.mem_map.1 h;rw [D];have:=hF.sc a m;split <;> omega
   ·show (S.srv.map _).Pairwise _;rw [List.pairwise_map];refine (List.pairwise_iff_forall_sublist.2 (fun {a b} I=>?_));have m:a∈S.srv:=I.subset (by simp);have hb:b∈S.srv:=I.subset (by simp);have ac:a.client=b.client→a.client=0:=List.pairwise_iff_forall_sublist.1 hF.one I;have ag:a.id<b.id:=List.pairwise_iff_forall_sublist.1 hF.inv.ids I;rw [D,D];intro d;by_cases A:a.id=s.id
    ·have e2:¬b.id=s.id:=by omega
     rw [if_pos A,if_neg e2] at d;exact absurd d.symm (hF.sep b hb c L)
    ·rw [if_neg A] at d ⊢;by_cases e2:b.id=s.id
     ·rw [if_pos e2] at d;exact absurd d (hF.sep a m c L)
     ·rw [if_neg e2] at d;exact ac d
   ·intro z h v ae;obtain ⟨af,ab⟩:=List.mem_filter.1 ae;simp only [Bool.not_eq_true',decide_eq_false_iff_not] at ab;obtain ⟨a,m,rfl⟩:=List.mem_map.1 h;rw [D];split
    ·exact fun d=>ab d.symm
    ·exact hF.sep a m v af
   ·intro z h q;obtain ⟨a,m,rfl⟩:=List.mem_map.1 h;rw [D] at q;have ad:¬a.id=s.id:=fun e=>by rw [if_pos e] at q;omega
    rw [if_neg ad] at q ⊢;refine Zf4 (S:=S) rfl rfl ?_ ?_ (hF.sur a m q)
    ·exact Nat.le_of_eq (Zj4 (Y _) _)
    ·exact Nat.le_of_eq (by show (S.srv.map _).length=_;rw [List.length_map])
   ·exact ⟨_,List.mem_map.2 ⟨s,O,rfl⟩,by rw [D,if_pos rfl]⟩
   ·intro z h q;refine List.mem_map.2 ⟨z,h,if_neg (fun e=>q ?_)⟩;rw [U z h e];exact V
   ·intro z h q;obtain ⟨a,m,rfl⟩:=List.mem_map.1 h;by_cases e:a.id=s.id
    ·right;rw [D,if_pos e]
    ·left;rw [if_neg e];exact m
   ·intro z h;obtain ⟨a,m,rfl⟩:=List.mem_map.1 h;exact .inl ⟨a,m,by split <;> rfl,by split <;> rfl,by split <;> rfl⟩
   ·exact fun nm=>.inl (Nat.le_of_eq (Zj4 (Y _) _))
   ·exact .inl (Nat.le_of_eq (by show (S.srv.map _).length=_;rw [List.length_map]))
  | none =>
   rw [J] at d;simp only at d;by_cases h:x.sz≤(Zs (Zj x.nm) S.srv:Int)
   ·rw [if_pos h] at d;simp at d
   ·rw [if_neg h] at d;by_cases hb:(S.srv.length:Int)<S.bud
    ·rw [if_pos hb] at d;simp only [Option.some.injEq] at d;subst d;exact Zh6 hF L R (ZeE J) (List.Sublist.refl _) (by omega) (fun _ d _=>d) (by omega)
    ·rw [if_neg hb] at d;cases Q:S.srv.find? (Zp 0) with
     | none=>rw [Q] at d;simp at d
     | some s =>
      rw [Q] at d;simp only at d;by_cases X:S.bud<(S.srv.length:Int)
      ·rw [if_pos X] at d;simp at d
      ·rw [if_neg X] at d;simp only [Option.some.injEq] at d;subst d;have O:=List.mem_of_find?_eq_some Q;have V:s.client=0:=by have:=List.find?_some Q;unfold Zp at this;exact eq_of_beq this
       have U:∀ z∈S.srv,z.id=s.id→z=s:=fun z h e=>by
        have E:=hF.inv.ids;obtain ⟨i,M,rfl⟩:=List.getElem_of_mem h;obtain ⟨j,N,rfl⟩:=List.getElem_of_mem O;rw [List.pairwise_iff_getElem] at E;rcases Nat.lt_trichotomy i j with d | d | d
        ·have:=E i j M N d;omega
        ·subst d;rfl
        ·have:=E j i N M d;omega
       have ai:(S.srv.filter fun x=>!decide (x.id=s.id)).length<S.srv.length:=by
        rw [List.length_filter_lt_length_iff_exists];exact ⟨s,O,by simp⟩
       refine Zh6 hF L R (ZeE J) (ss:=S.srv.filter fun x=>!decide (x.id=s.id)) List.filter_sublist (by omega) (fun z h q=>List.mem_filter.2 ⟨h,?_⟩) ?_
       ·simp only [Bool.not_eq_true',decide_eq_false_iff_not];exact fun e=>q (by rw [U z h e];exact V)
       ·have:=ZfV (p:=Zj x.nm) (List.filter_sublist (p:=fun x:Srv=>!decide (x.id=s.id)) (l:=S.srv));omega
theorem ZoN {S:Zh} {op:Int} {c d:Wtr} (h:c.pool=d.pool):(ZaT S op c).isSome=(ZaT S op d).isSome:=by
 unfold ZaT;rw [h];cases S.pools.find? (Zl d.pool) with
 | none=>rfl
 | some x =>
  simp only;cases S.srv.find? (fun s=>Zj x.nm s&&Zp 0 s) with
  | some s=>rfl
  | none =>
   simp only;split
   ·rfl
   ·split
    ·rfl
    ·cases S.srv.find? (Zp 0) with
     | none=>rfl
     | some s=>simp only;split <;> rfl
theorem Zh5 {S:Zh} {op:Int}:∀ {l:List Wtr} {y:Zh×Int},Zax S op l=some y→∃ m c A z,l=m++c :: A∧(∀ d∈m,ZaT S op d=none)∧ZaT S op c=some z∧y=(ZO z.1 c.client,z.2)
 | [],y,J=>by simp [Zax] at J
 | c :: r,y,J=>by
  rw [Zax] at J;cases h:ZaT S op c with
  | some z =>
   rw [h] at J;simp only [Option.some.injEq] at J;exact ⟨[],c,r,z,rfl,by simp,h,J.symm⟩
  | none =>
   rw [h] at J;obtain ⟨m,d,A,z,e,D,E,I⟩:=Zh5 (l:=r) J;refine ⟨c :: m,d,A,z,by rw [e];rfl,fun v q=>?_,E,I⟩;rcases List.mem_cons.1 q with rfl | q
   ·exact h
   ·exact D v q
theorem Zkg {α:Type}:∀ {E I h m:List α} {c:α},E++c :: h=I++c :: m→c ∉ E→c ∉ I→E=I
 | [],[],_,_,_,_,_,_=>rfl
 | [],y :: r,h,m,c,d,_,D=>by
  simp only [List.nil_append,List.cons_append,List.cons.injEq] at d;exact absurd (by rw [d.1];exact List.mem_cons_self) D
 | x :: l,[],h,m,c,d,A,_=>by
  simp only [List.nil_append,List.cons_append,List.cons.injEq] at d;exact absurd (by rw [←d.1];exact List.mem_cons_self) A
 | x :: l,y :: r,h,m,c,d,A,D=>by
  simp only [List.cons_append,List.cons.injEq] at d;rw [d.1,Zkg d.2 (fun q=>A (List.mem_cons_of_mem _ q)) (fun q=>D (List.mem_cons_of_mem _ q))]
structure Srvd (S T:Zh) (op op':Int):Prop where
 fine:ZdA T op'
 keep:∀ x∈S.srv,x.client≠0→x∈T.srv
 new:∀ x∈T.srv,x.client≠0→x∈S.srv∨∃ y∈S.wts,y.client=x.client
 sub:T.wts.Sublist S.wts
 gone:∀ l1 w l2,S.wts=l1++w :: l2→w ∉ T.wts→(∃ x∈T.srv,x.client=w.client)∧∀ v∈l1,v.pool=w.pool→v ∉ T.wts
 rest:T.pools=S.pools∧T.bud=S.bud∧T.plan=S.plan∧T.begun=S.begun∧T.back=S.back
 far:∀ x∈T.srv,(∃ z∈S.srv,x.id=z.id∧x.pool=z.pool∧x.far=z.far)∨∃ p∈S.pools,x.pool=p.nm∧x.far=p.fr
 cnt:∀ nm,Zs (Zj nm) T.srv≤Zs (Zj nm) S.srv∨∃ p,S.pools.find? (Zl nm)=some p∧(Zs (Zj nm) T.srv:Int)≤p.sz
 len:T.srv.length≤S.srv.length∨(T.srv.length:Int)≤S.bud
theorem Srvd.refl {S:Zh} {op:Int} (h:ZdA S op):Srvd S S op op:=
 ⟨h,fun _ d _=>d,fun _ d _=>.inl d,List.Sublist.refl _,fun q w A e m=>absurd (by rw [e];simp) m,⟨rfl,rfl,rfl,rfl,rfl⟩,fun x d=>.inl ⟨x,d,rfl,rfl,rfl⟩,fun _=>.inl (Yd _),.inl (Yd _)⟩
theorem ZqH {l:List Wtr} (h:l.Pairwise (fun a b=>a.client≠b.client)) {a b:Wtr} (A:a∈l) (hb:b∈l) (e:a.client=b.client):a=b:=by
 obtain ⟨i,m,rfl⟩:=List.getElem_of_mem A;obtain ⟨j,q,rfl⟩:=List.getElem_of_mem hb;rw [List.pairwise_iff_getElem] at h;rcases Nat.lt_trichotomy i j with d | d | d
 ·exact absurd e (h i j m q d)
 ·subst d;rfl
 ·exact absurd e.symm (h j i q m d)
theorem ZdT:∀ (f:Nat) (S:Zh) (op:Int),ZdA S op→Srvd S (ZD f S op).1 op (ZD f S op).2
 | 0,S,op,d=>Srvd.refl d
 | f+1,S,op,hF=>by
  rw [ZD];cases ae:Zax S op S.wts with
  | none=>exact Srvd.refl hF
  | some y =>
   obtain ⟨ak,c,ao,z,O,ag,R,rfl⟩:=Zh5 ae;simp only;have I:c∈S.wts:=by rw [O];simp
   have G:=ZoY hF I R;have J:(ZO z.1 c.client).wts=S.wts.filter (fun x=>!decide (x.client=c.client)):=by show z.1.wts.filter _=_;rw [G.wts]
   have ih:=ZdT f (ZO z.1 c.client) z.2 G.fine;have hT:∀ v∈(ZD f (ZO z.1 c.client) z.2).1.wts,v.client≠c.client:=fun v A=>by
    have:=ih.sub.subset A;rw [J] at this;have:=(List.mem_filter.1 this).2;simpa using this
   refine ⟨ih.fine,fun x m D=>ih.keep x (G.keep x m D) D,fun x m D=>?_,ih.sub.trans (by rw [J];exact List.filter_sublist),fun aa w al e af=>?_,⟨ih.rest.1.trans G.rest.1,ih.rest.2.1.trans G.rest.2.1,ih.rest.2.2.1.trans G.rest.2.2.1,ih.rest.2.2.2.1.trans G.rest.2.2.2.1,ih.rest.2.2.2.2.trans G.rest.2.2.2.2⟩,fun x m=>?_,fun nm=>?_,?_⟩
   ·rcases ih.new x m D with d | ⟨y,Y,e⟩
    ·rcases G.new x d D with d | d
     ·exact .inl d
     ·exact .inr ⟨c,I,d.symm⟩
    ·rw [J] at Y;exact .inr ⟨y,(List.mem_filter.1 Y).1,e⟩
   ·by_cases X:w.client=c.client
    ·have ai:w=c:=ZqH hF.inv.cli (by rw [e];simp) I X;subst ai;obtain ⟨x,m,aj⟩:=G.has;have U:∀ {L a2:List Wtr},S.wts=L++w :: a2→w ∉ L:=fun {L a2} N Q=>by
      have h:=hF.inv.cli;rw [N,List.pairwise_append] at h;exact h.2.2 w Q w List.mem_cons_self rfl
     have Q:aa=ak:=Zkg (e.symm.trans O) (U e) (U O);refine ⟨⟨x,ih.keep x m (by have:=hF.wc w I;omega),aj⟩,fun v A h=>?_⟩;rw [Q] at A;have q:=ZoN (S:=S) (op:=op) h;rw [ag v A,R] at q;simp at q
    ·have ah:(ZO z.1 c.client).wts=aa.filter (fun x=>!decide (x.client=c.client))++w :: al.filter (fun x=>!decide (x.client=c.client)):=by
      rw [J,e,Yr,List.filter_cons,if_pos (by simpa using X)]
     obtain ⟨q,M⟩:=ih.gone _ w _ ah af;refine ⟨q,fun v A h V=>?_⟩;exact M v (List.mem_filter.2 ⟨A,by simpa using hT v V⟩) h V
   ·rcases ih.far x m with ⟨a,N,ab,e2,e3⟩ | ⟨p,h,d⟩
    ·rcases G.far a N with ⟨b,hb,ac,f2,ad⟩ | ⟨p,h,q,M⟩
     ·exact .inl ⟨b,hb,ab.trans ac,e2.trans f2,e3.trans ad⟩
     ·exact .inr ⟨p,List.mem_of_find?_eq_some h,e2.trans q,e3.trans M⟩
    ·exact .inr ⟨p,by rw [←G.rest.1];exact h,d⟩
   ·rcases ih.cnt nm with d | ⟨p,h,d⟩
    ·rcases G.cnt nm with E | ⟨p,h,E⟩
     ·exact .inl (Ym d E)
     ·exact .inr ⟨p,h,by have:Zs (Zj nm) (ZO z.1 c.client).srv=Zs (Zj nm) z.1.srv:=rfl;omega⟩
    ·exact .inr ⟨p,by rw [←G.rest.1];exact h,d⟩
   ·have hb:(ZO z.1 c.client).bud=S.bud:=G.rest.2.1;have am:(ZO z.1 c.client).srv.length=z.1.srv.length:=rfl;rcases ih.len with d | d
    ·rcases G.len with E | E
     ·exact .inl (by omega)
     ·exact .inr (by omega)
    ·exact .inr (by omega)
structure Zbt (S:Zh) (op:Int):Prop where
 fine:ZdA S op
 still:ZaW S op
 wts:∀ y∈S.wts,∃ x,S.pools.find? (Zl y.pool)=some x∧(Zs (Zq y.pool) S.wts:Int)≤x.wt
def ZfF (T:Zh) (w:Wtr):Bool:=T.wts.any (Z3 w.client)
def Zn9 (T:Zh) (c:Int):Int:=match T.srv.find? (Zp c) with | some s=>s.id | none=>0
theorem Zrm {T:Zh} {op c:Int} (m:Inv T op) (h:∃ x∈T.srv,x.client=c):Zn9 T c≠0:=by
 unfold Zn9;cases d:T.srv.find? (Zp c) with
 | none =>
  obtain ⟨x,q,e⟩:=h;have:=ZeE d x q;unfold Zp at this;rw [e] at this;simp at this
 | some s =>
  have:=m.low s (List.mem_of_find?_eq_some d);simp only;omega
theorem Zey:∀ {l d:List Wtr},l.Sublist d→d.Pairwise (fun a b=>a.client≠b.client)→l=d.filter (fun w=>l.any (Z3 w.client)):=by
 intro l d h;induction h with
 | slnil=>intro _;rfl
 | @cons l d a h ih =>
  intro D;obtain ⟨m,q⟩:=List.pairwise_cons.1 D;rw [List.filter_cons,if_neg]
  ·exact ih q
  ·intro A;obtain ⟨x,I,J⟩:=List.any_eq_true.1 A;exact m x (h.subset I) (eq_of_beq J).symm
 | @cons_cons l d a h ih =>
  intro D;obtain ⟨m,q⟩:=List.pairwise_cons.1 D;rw [List.filter_cons,if_pos (by simp [Z3])];congr 1;refine (ih q).trans (List.filter_congr fun w E=>?_);have:Z3 w.client a=false:=ZbJ (fun A=>m w E (eq_of_beq A));rw [List.any_cons,this,Bool.false_or]
theorem Zj7 {T:Zh} {w:Wtr} (d:ZfF T w=false):w ∉ T.wts:=fun h=>by
 have:ZfF T w=true:=List.any_eq_true.2 ⟨w,h,by simp [Z3]⟩;rw [d] at this;simp at this
structure FairF (S T:Zh) (k A:Int):Prop where
 ex:∃ ex,T.wts=S.wts.filter (ZfF T)++ex∧(ex=[]∨(k=1∧∃ nm,ex=[⟨A,nm⟩]))
 gone:∀ i w,S.wts[i]?=some w→ZfF T w=false→w ∉ T.wts∧((k=3∧A=w.client)∨(Zn9 T w.client≠0∧∀ v∈(S.wts.take i).filter (ZfF T),(v.pool.toList == w.pool.toList)=false))
theorem FairF.refl {S:Zh} {op:Int} (h:Inv S op) (k d:Int):FairF S S k d:=
 ⟨⟨[],by rw [List.append_nil];exact Zey (List.Sublist.refl _) h.cli,.inl rfl⟩,fun i w q m=>absurd (Yo q) (Zj7 m)⟩
theorem Zp6 {α:Type} {l:List α} {i:Nat} {w:α} (d:l[i]?=some w):l=l.take i++w :: l.drop (i+1):=by
 obtain ⟨h,rfl⟩:=Yc.1 d;rw [←List.drop_eq_getElem_cons h,List.take_append_drop]
theorem Zk0 {S d T:Zh} {op X k A:Int} (h:Srvd d T op X) (M:d.wts.Pairwise (fun a b=>a.client≠b.client)) {ex:List Wtr} (m:d.wts=S.wts++ex) (q:ex.filter (ZfF T)=[]∨(k=1∧∃ nm,ex=[⟨A,nm⟩])):FairF S T k A:=by
 have D:=Zey h.sub M;refine ⟨⟨ex.filter (ZfF T),?_,?_⟩,fun i w V O=>?_⟩
 ·rw [←Yr,←m];exact D
 ·rcases q with q | ⟨N,nm,rfl⟩
  ·exact .inl q
  ·rw [List.filter_cons];split
   ·exact .inr ⟨N,nm,rfl⟩
   ·exact .inl rfl
 ·have E:=Zj7 O;obtain ⟨J,L⟩:=h.gone (S.wts.take i) w (S.wts.drop (i+1)++ex) (by rw [m,←List.cons_append,←List.append_assoc,←Zp6 V]) E;refine ⟨E,.inr ⟨Zrm h.fine.inv J,fun v Q=>ZbJ (fun e=>?_)⟩⟩;obtain ⟨I,R⟩:=List.mem_filter.1 Q;have U:v∈T.wts:=by
   rw [D,m,Yr];exact List.mem_append_left _ (List.mem_filter.2 ⟨List.mem_of_mem_take I,R⟩)
  exact L v I (Znt (eq_of_beq e)) U
theorem ZkO {S:Zh} {op:Int} (h:ZdA S op) {c:Int} {nm:ByteArray} (A:1≤c∧c≤99) (D:∀ x∈S.srv,x.client≠c) (E:∀ y∈S.wts,y.client≠c):ZdA (Zad S c nm) op:=by
 refine ⟨⟨h.inv.ids,h.inv.low,h.inv.op0,?_⟩,?_,h.sc,h.one,?_,h.sur⟩
 ·show (S.wts++[_]).Pairwise _;rw [List.pairwise_append];refine ⟨h.inv.cli,by simp,fun a q b hb=>?_⟩;simp only [List.mem_singleton] at hb;subst hb;exact E a q
 ·intro y d;rcases List.mem_append.1 d with d | d
  ·exact h.wc y d
  ·simp only [List.mem_singleton] at d;subst d;exact A
 ·intro x m y d;rcases List.mem_append.1 d with d | d
  ·exact h.sep x m y d
  ·simp only [List.mem_singleton] at d;subst d;exact D x m
theorem Zko {c:Int}:¬Zbi c=false↔1≤c∧c≤99:=by unfold Zbi;simp
theorem Ziy {p:Wtr→Bool} {l d:List Wtr} (h:l.Sublist d):Zs p l≤Zs p d:=(h.filter p).length_le
theorem ZhD {S T:Zh} (q:T.pools=S.pools) (d:T.wts.Sublist S.wts) (h:∀ y∈S.wts,∃ x,S.pools.find? (Zl y.pool)=some x∧(Zs (Zq y.pool) S.wts:Int)≤x.wt):∀ y∈T.wts,∃ x,T.pools.find? (Zl y.pool)=some x∧(Zs (Zq y.pool) T.wts:Int)≤x.wt:=by
 intro y A;obtain ⟨x,m,D⟩:=h y (d.subset A);have:=Ziy (p:=Zq y.pool) d;exact ⟨x,by rw [q];exact m,by omega⟩
theorem ZpG {S:Zh} {op:Int} (h:Zbt S op) (c:Int) (d:ByteArray) :
  ((ZaD S op c d).S=S∧(ZaD S op c d).op=op∧(ZaD S op c d).id=0∧(ZaD S op c d).err≠0)
  ∨ (1≤c∧c≤99∧(∀ x∈S.srv,x.client≠c)∧(∀ y∈S.wts,y.client≠c)∧(ZaD S op c d).err=0∧∃ x,S.pools.find? (Zl d)=some x ∧
   (ZaD S op c d).S=(ZL S op c x.nm).1∧(ZaD S op c d).op=(ZL S op c x.nm).2∧Srvd (Zad S c x.nm) (ZL S op c x.nm).1 op (ZL S op c x.nm).2
   ∧ ((∃ s∈(ZL S op c x.nm).1.srv,s.client=c∧(ZaD S op c d).id=s.id)∨((ZL S op c x.nm).1=Zad S c x.nm∧(ZL S op c x.nm).2=op∧(ZaD S op c d).id=0∧(Zs (Zq x.nm) (Zad S c x.nm).wts:Int)≤x.wt))):=by
 unfold ZaD;by_cases D:Zbi c=false
 ·rw [if_pos D];exact .inl ⟨rfl,rfl,rfl,by simp⟩
 ·rw [if_neg D];by_cases E:((S.srv.find? (Zp c)).isSome||(S.wts.find? (Z3 c)).isSome)=true
  ·rw [if_pos E];exact .inl ⟨rfl,rfl,rfl,by simp⟩
  ·rw [if_neg E];have I:=ZbJ E;rw [Bool.or_eq_false_iff] at I;have J:∀ x∈S.srv,x.client≠c:=fun x M e=>by
    have:=Zc0 I.1 x M;unfold Zp at this;rw [e] at this;simp at this
   have A:∀ y∈S.wts,y.client≠c:=fun x M e=>by
    have:=Zc0 I.2 x M;unfold Z3 at this;rw [e] at this;simp at this
   cases ab:S.pools.find? (Zl d) with
   | none=>exact .inl ⟨rfl,rfl,rfl,by simp⟩
   | some x =>
    simp only;have q:=Zko.1 D;have V:=ZkO h.fine (nm:=x.nm) q J A;have O:Srvd (Zad S c x.nm) (ZL S op c x.nm).1 op (ZL S op c x.nm).2:=ZdT _ _ _ V;obtain ⟨_,N⟩:=Zg4 h.fine.inv h.still (c:=⟨c,x.nm⟩) A (by show c≠0;omega);have U:ZL S op c x.nm=(Zad S c x.nm,op)∨∃ z∈(ZL S op c x.nm).1.srv,z.client=c:=by
     have X:(S.wts++[(⟨c,x.nm⟩:Wtr)]).length=S.wts.length+1:=by simp
     rw [X] at N;exact N
    cases L:(ZL S op c x.nm).1.srv.find? (Zp c) with
    | some s =>
     refine .inr ⟨q.1,q.2,J,A,rfl,x,rfl,rfl,rfl,O,.inl ⟨s,List.mem_of_find?_eq_some L,?_,rfl⟩⟩;have:=List.find?_some L;exact eq_of_beq this
    | none =>
     have m:ZL S op c x.nm=(Zad S c x.nm,op):=by
      rcases U with h | ⟨z,aa,e⟩
      ·exact h
      ·have:=ZeE L z aa;unfold Zp at this;rw [e] at this;simp at this
     simp only;rw [m];simp only;by_cases Q:x.wt<(Zs (Zq x.nm) (Zad S c x.nm).wts:Int)
     ·rw [if_pos Q];refine .inl ⟨?_,rfl,rfl,by simp⟩;show ZO (Zad S c x.nm) c=S;unfold ZO Zad;simp only [Yr];have R:S.wts.filter (fun y=>!decide (y.client=c))=S.wts:=List.filter_eq_self.2 (fun y Y=>by simpa using A y Y);rw [R];simp
     ·rw [if_neg Q];exact .inr ⟨q.1,q.2,J,A,rfl,x,rfl,by rw [m],by rw [m],O,.inr ⟨by rw [m],by rw [m],rfl,by omega⟩⟩
theorem Zqs {S:Zh} {op:Int} (d:Zbt S op) (c:Int) (h:ByteArray):Zbt (ZaD S op c h).S (ZaD S op c h).op∧FairF S (ZaD S op c h).S 1 c:=by
 have q:=(ZoD d.fine.inv d.still c h).2.2;rcases ZpG d c h with ⟨D,E,_,_⟩ | ⟨aa,ab,ae,ah,_,x,I,D,E,m,ac⟩
 ·rw [D,E];exact ⟨d,FairF.refl d.fine.inv _ _⟩
 ·rw [D,E] at q ⊢;have N:=ZkO d.fine (nm:=x.nm) ⟨aa,ab⟩ ae ah;refine ⟨⟨m.fine,q,?_⟩,Zk0 (S:=S) m N.inv.cli (ex:=[⟨c,x.nm⟩]) rfl (.inr ⟨rfl,x.nm,rfl⟩)⟩;rcases ac with ⟨s,af,ag,_⟩ | ⟨V,_,_,O⟩
  ·refine ZhD (S:=S) m.rest.1 ?_ d.wts;have X:=Zey m.sub N.inv.cli;have ad:([(⟨c,x.nm⟩:Wtr)].filter (ZfF (ZL S op c x.nm).1))=[]:=by
    rw [List.filter_cons,if_neg]
    ·rfl
    ·intro q;obtain ⟨y,L,e⟩:=List.any_eq_true.1 q;exact m.fine.sep s af y L (ag.trans (eq_of_beq e).symm)
   have Y:(ZL S op c x.nm).1.wts=S.wts.filter (ZfF (ZL S op c x.nm).1):=by
    refine X.trans ?_;show (S.wts++[(⟨c,x.nm⟩:Wtr)]).filter (ZfF (ZL S op c x.nm).1)=_;rw [Yr,ad,List.append_nil]
   rw [Y];exact List.filter_sublist
  ·rw [V];intro y L;have Q:=Zfl I;rcases List.mem_append.1 L with A | A
   ·obtain ⟨p,M,U⟩:=d.wts y A;refine ⟨p,M,?_⟩;by_cases J:x.nm.toList=y.pool.toList
    ·have R:Zq y.pool=Zq x.nm:=by funext z;unfold Zq;rw [J]
     have e2:p=x:=by
      have:S.pools.find? (Zl h)=S.pools.find? (Zl y.pool):=ZkL (by rw [←Q];exact J);rw [I,M] at this;exact (Option.some.inj this).symm
     rw [R,e2];exact O
    ·have e3:Zs (Zq y.pool) (Zad S c x.nm).wts=Zs (Zq y.pool) S.wts:=by
      unfold Zad Zs;rw [Yr];have:Zq y.pool (⟨c,x.nm⟩:Wtr)=false:=ZbJ (fun e=>J (eq_of_beq e));simp [this]
     rw [e3];exact U
   ·simp only [List.mem_singleton] at A;subst A;exact ⟨x,by show S.pools.find? (Zl x.nm)=some x;rw [Q];exact I,O⟩
theorem Zn8 {S:Zh} {op:Int} (d:Zbt S op) (c:Int):Zbt (ZaI S op c).S (ZaI S op c).op∧FairF S (ZaI S op c).S 3 c:=by
 have h:=(Zmn d.fine.inv d.still c).2;unfold ZaI at h ⊢;by_cases A:Zbi c=false
 ·rw [if_pos A];exact ⟨d,FairF.refl d.fine.inv _ _⟩
 ·rw [if_neg A] at h ⊢;by_cases D:(S.wts.find? (Z3 c)).isSome=false
  ·rw [if_pos D];exact ⟨d,FairF.refl d.fine.inv _ _⟩
  ·rw [if_neg D] at h ⊢;have m:(ZO S c).wts.Sublist S.wts:=List.filter_sublist;refine ⟨⟨⟨h.1,fun y q=>d.fine.wc y (m.subset q),d.fine.sc,d.fine.one,fun x L y q=>d.fine.sep x L y (m.subset q),d.fine.sur⟩,h.2,ZhD (S:=S) rfl m d.wts⟩,⟨[],?_,.inl rfl⟩,fun i w J I=>?_⟩
   ·rw [List.append_nil];exact Zey m d.fine.inv.cli
   ·have E:=Zj7 I;refine ⟨E,.inl ⟨rfl,?_⟩⟩;by_cases e:c=w.client
    ·exact e
    ·exact absurd (List.mem_filter.2 ⟨Yo J,by simpa using fun e2=>e (Eq.symm e2)⟩) E
theorem Zo7 {S:Zh} {op:Int} (d:ZdA S op) (q:Int):ZdA (ZR S q) op:=by
 have h:(ZR S q).srv.Sublist S.srv:=List.filter_sublist;exact ⟨⟨d.inv.ids.sublist h,fun x m=>d.inv.low x (h.subset m),d.inv.op0,d.inv.cli⟩,d.wc,fun x m=>d.sc x (h.subset m),d.one.sublist h,fun x m=>d.sep x (h.subset m),fun x m A=>Zf4 (S:=S) rfl rfl (ZfV h) h.length_le (d.sur x (h.subset m) A)⟩
theorem Zjb {S T I:Zh} {op q:Int} (h:Zbt S op) (d:Srvd I T op q) (E:ZaW T q) (m:I.wts=S.wts) (D:I.pools=S.pools) (k A:Int):Zbt T q∧FairF S T k A:=by
 refine ⟨⟨d.fine,E,ZhD (S:=S) (d.rest.1.trans D) (by rw [←m];exact d.sub) h.wts⟩,Zk0 d (by rw [m];exact h.fine.inv.cli) (ex:=[]) (by rw [m,List.append_nil]) (.inl rfl)⟩
theorem ZmE {S:Zh} {op:Int} (h:Zbt S op) (d:Int) :
  ((Zau S op d).S=S∧(Zau S op d).op=op∧(Zau S op d).err≠0)
  ∨ ((Zau S op d).err=0∧(∃ s∈S.srv,s.id=d)∧Srvd (ZR S d) (Zau S op d).S op (Zau S op d).op):=by
 unfold Zau;by_cases A:(S.srv.find? (fun x=>x.id == d)).isSome=false
 ·rw [if_pos A];exact .inl ⟨rfl,rfl,by simp⟩
 ·rw [if_neg A];refine .inr ⟨rfl,?_,ZdT _ _ _ (Zo7 h.fine d)⟩;have m:(S.srv.find? (fun x=>x.id == d)).isSome=true:=by simpa using A
  obtain ⟨x,q,e⟩:=List.find?_isSome.1 m;exact ⟨x,q,eq_of_beq e⟩
theorem ZnA {S:Zh} {op:Int} (d:Zbt S op) (h:Int) (k m:Int):Zbt (Zau S op h).S (Zau S op h).op∧FairF S (Zau S op h).S k m:=by
 have E:=(Zml d.fine.inv d.still h).2.2;rcases ZmE d h with ⟨q,A,_⟩ | ⟨_,_,D⟩
 ·rw [q,A];exact ⟨d,FairF.refl d.fine.inv _ _⟩
 ·exact Zjb d D E rfl rfl k m
def Zb6 (S:Zh) (s:Srv):Zh:=if ZaY (ZT S s.id 0) s=true then ZR (ZT S s.id 0) s.id else ZT S s.id 0
theorem ZoC {S:Zh} {op:Int} (d:Inv S op) {a b:Srv} (A:a∈S.srv) (hb:b∈S.srv) (e:a.id=b.id):a=b:=by
 have h:=d.ids;obtain ⟨i,m,rfl⟩:=List.getElem_of_mem A;obtain ⟨j,q,rfl⟩:=List.getElem_of_mem hb;rw [List.pairwise_iff_getElem] at h;rcases Nat.lt_trichotomy i j with d | d | d
 ·have:=h i j m q d;omega
 ·subst d;rfl
 ·have:=h j i q m d;omega
theorem Zkc {S:Zh} {op:Int} (h:ZdA S op) {s:Srv} (ai:s∈S.srv) (aj:s.client≠0):ZdA (Zb6 S s) op∧(Zb6 S s).wts=S.wts∧(Zb6 S s).pools=S.pools∧(Zb6 S s).bud=S.bud
  ∧ (∀ x∈S.srv,x.id≠s.id→x∈(Zb6 S s).srv)∧(∀ x∈(Zb6 S s).srv,x.client≠0→x∈S.srv∧x.id≠s.id)∧(∀ x∈(Zb6 S s).srv,∃ z∈S.srv,x.id=z.id∧x.pool=z.pool∧x.far=z.far)∧(∀ nm,Zs (Zj nm) (Zb6 S s).srv≤Zs (Zj nm) S.srv)∧(Zb6 S s).srv.length≤S.srv.length
  ∧ (Zb6 S s).plan=S.plan∧(Zb6 S s).begun=S.begun∧(Zb6 S s).back=S.back:=by
 have J:∀ a:Srv,(if a.id=s.id then {a with client:=0} else a).client=if a.id=s.id then 0 else a.client:=fun a=>by split <;> rfl
 have I:∀ a:Srv,(if a.id=s.id then {a with client:=0} else a).id=a.id:=fun a=>by split <;> rfl
 have ah:∀ (p:ByteArray) (z:Srv),Zj p (if z.id=s.id then {z with client:=0} else z)=Zj p z:=by
  intro p z;split <;> rfl
 have L:Inv (ZT S s.id 0) op:=by
  refine ⟨?_,fun z D=>?_,h.inv.op0,h.inv.cli⟩
  ·show (S.srv.map _).Pairwise _;rw [List.pairwise_map];exact h.inv.ids.imp (fun {a b} M=>by rw [I,I];exact M)
  ·obtain ⟨a,q,rfl⟩:=List.mem_map.1 D;rw [I];exact h.inv.low a q
 have O:∀ nm,Zs (Zj nm) (ZT S s.id 0).srv=Zs (Zj nm) S.srv:=fun nm=>Zj4 (ah nm) _
 have Q:(ZT S s.id 0).srv.length=S.srv.length:=by show (S.srv.map _).length=_;rw [List.length_map]
 have ac:(ZT S s.id 0).srv.Pairwise (fun a b=>a.client=b.client→a.client=0):=by
  show (S.srv.map _).Pairwise _;rw [List.pairwise_map];refine h.one.imp (fun {a b} M=>?_);rw [J,J];intro e;by_cases U:a.id=s.id
  ·rw [if_pos U]
  ·rw [if_neg U] at e ⊢;by_cases e2:b.id=s.id
   ·rw [if_pos e2] at e;exact e
   ·rw [if_neg e2] at e;exact M e
 have ad:∀ x∈(ZT S s.id 0).srv,0≤x.client∧x.client≤99:=fun z D=>by
  obtain ⟨a,q,rfl⟩:=List.mem_map.1 D;rw [J];have:=h.sc a q;split <;> omega
 have ae:∀ x∈(ZT S s.id 0).srv,∀ y∈S.wts,x.client≠y.client:=fun z D y af=>by
  obtain ⟨a,q,rfl⟩:=List.mem_map.1 D;rw [J];split
  ·have:=h.wc y af;omega
  ·exact h.sep a q y af
 have N:∀ x∈(ZT S s.id 0).srv,x.id≠s.id→x∈S.srv:=fun z D E=>by
  obtain ⟨a,q,rfl⟩:=List.mem_map.1 D;rw [I] at E;rw [if_neg E];exact q
 have X:∀ x∈S.srv,x.id≠s.id→x∈(ZT S s.id 0).srv:=fun x d E=>List.mem_map.2 ⟨x,d,if_neg E⟩
 have V:∀ x∈(ZT S s.id 0).srv,∃ z∈S.srv,x.id=z.id∧x.pool=z.pool∧x.far=z.far:=fun z D=>by
  obtain ⟨a,q,rfl⟩:=List.mem_map.1 D;exact ⟨a,q,by split <;> rfl,by split <;> rfl,by split <;> rfl⟩
 have aa:∀ x∈(ZT S s.id 0).srv,x.client≠0→x.id≠s.id:=fun z D m e=>by
  obtain ⟨a,q,rfl⟩:=List.mem_map.1 D;rw [I] at e;rw [J,if_pos e] at m;exact m rfl
 have ab:∀ x∈(ZT S s.id 0).srv,x.id≠s.id→x.client=0→ZaY (ZT S s.id 0) x=false:=fun x d E m =>
  Zf4 (S:=S) rfl rfl (Nat.le_of_eq (O _)) (Nat.le_of_eq Q) (h.sur x (N x d E) m)
 unfold Zb6;by_cases R:ZaY (ZT S s.id 0) s=true
 ·rw [if_pos R];have A:(ZR (ZT S s.id 0) s.id).srv.Sublist (ZT S s.id 0).srv:=List.filter_sublist;have E:∀ x∈(ZR (ZT S s.id 0) s.id).srv,x.id≠s.id:=fun x d=>by simpa using (List.mem_filter.1 d).2
  refine ⟨⟨⟨L.ids.sublist A,fun x d=>L.low x (A.subset d),L.op0,h.inv.cli⟩,h.wc,fun x d=>ad x (A.subset d),ac.sublist A,fun x d=>ae x (A.subset d),fun x d m=>Zf4 (S:=ZT S s.id 0) rfl rfl (ZfV A) A.length_le (ab x (A.subset d) (E x d) m)⟩,rfl,rfl,rfl,fun x d Y=>List.mem_filter.2 ⟨X x d Y,by simpa using Y⟩,fun x d m=>⟨N x (A.subset d) (E x d),E x d⟩,fun x d=>V x (A.subset d),fun nm=>?_,?_,rfl,rfl,rfl⟩
  ·rw [←O nm];exact ZfV A
  ·rw [←Q];exact A.length_le
 ·rw [if_neg R];refine ⟨⟨L,h.wc,ad,ac,ae,fun x d m=>?_⟩,rfl,rfl,rfl,X,fun x d m=>⟨N x d (aa x d m),aa x d m⟩,V,fun nm=>Nat.le_of_eq (O nm),Nat.le_of_eq Q,rfl,rfl,rfl⟩;by_cases e:x.id=s.id
  ·obtain ⟨a,q,rfl⟩:=List.mem_map.1 d;rw [I] at e;have ag:a=s:=ZoC h.inv q ai e;subst ag;rw [if_pos rfl];exact (show ZaY (ZT S a.id 0) {a with client:=0}=ZaY (ZT S a.id 0) a from rfl).trans (ZbJ R)
  ·exact ab x d e m
theorem ZnV {S:Zh} {op:Int} (h:Zbt S op) (c:Int) :
  ((ZaH S op c).S=S∧(ZaH S op c).op=op∧(ZaH S op c).err≠0)
  ∨ (1≤c∧c≤99∧(ZaH S op c).err=0∧∃ s∈S.srv,s.client=c∧Srvd (Zb6 S s) (ZaH S op c).S op (ZaH S op c).op):=by
 unfold ZaH;by_cases d:Zbi c=false
 ·rw [if_pos d];exact .inl ⟨rfl,rfl,by simp⟩
 ·rw [if_neg d];cases m:S.srv.find? (Zp c) with
  | none=>exact .inl ⟨rfl,rfl,by simp⟩
  | some s =>
   have D:=Zko.1 d;have q:=List.mem_of_find?_eq_some m;have A:s.client=c:=by have:=List.find?_some m;exact eq_of_beq this
   exact .inr ⟨D.1,D.2,rfl,s,q,A,ZdT _ _ _ (Zkc h.fine q (by omega)).1⟩
theorem Zo5 {S:Zh} {op:Int} (d:Zbt S op) (c:Int) (k h:Int):Zbt (ZaH S op c).S (ZaH S op c).op∧FairF S (ZaH S op c).S k h:=by
 have I:=(Zm2 d.fine.inv d.still c).2.2;rcases ZnV d c with ⟨m,q,_⟩ | ⟨L,M,_,s,E,N,A⟩
 ·rw [m,q];exact ⟨d,FairF.refl d.fine.inv _ _⟩
 ·obtain ⟨_,J,D,_⟩:=Zkc d.fine E (by omega);exact Zjb d A I J D k h
end Lw
namespace Co
abbrev tl (s:ByteArray):List UInt8:=s.data.toList
theorem ZkP (s:ByteArray):s.toList=tl s:=ByteArray.toList_eq s
def dg:Nat→List UInt8
 | n=>if h:9<n then dg (n / 10)++[UInt8.ofNat (48+n % 10)] else [UInt8.ofNat (48+n)]
 decreasing_by omega
structure Okp (p:Pl):Prop where
 nm:ZW p.nm=true
 s0:0≤p.sz
 s1:p.sz≤20
 w0:0≤p.wt
 w1:p.wt≤20
 f0:0≤p.fr
 f1:p.fr≤999
abbrev mk (l:List UInt8):ByteArray:=⟨l.toArray⟩
abbrev np (l:Ln):Ln:={l with place:=0}
theorem Zs7 (a:ByteArray):lt a a=false:=by
 have:=ZcG a.toList a.toList;unfold lt;cases d:Op.bytesLess a.toList a.toList <;> simp [d] at this ⊢
theorem Znx {a b:ByteArray} (d:lt a b=true):lt b a=false:=by
 unfold lt at *;have:=ZcG a.toList b.toList;rw [d] at this;cases h:Op.bytesLess b.toList a.toList <;> simp [h] at this ⊢
theorem Zfe {a b:ByteArray} (d:lt a b=true):a≠b:=by
 rintro rfl;rw [Zs7] at d;exact absurd d (by simp)
structure Okt (b:Int) (ps:List Pl):Prop where
 b0:1≤b
 b1:b≤99
 len:ps.length≤6
 ok:∀ p∈ps,Okp p
 up:ps.Pairwise (fun a b=>lt a.nm b.nm=true)
theorem Zq8 {p:Pl} (d:Okp p):(p.sz.toNat:Int)=p.sz∧(p.wt.toNat:Int)=p.wt∧(p.fr.toNat:Int)=p.fr:=
 ⟨Int.toNat_of_nonneg d.s0,Int.toNat_of_nonneg d.w0,Int.toNat_of_nonneg d.f0⟩
theorem Zpu {a b c:ByteArray} (h:lt a b=true) (d:lt b c=true):lt a c=true:=by
 unfold lt at *;generalize a.toList=x at *;generalize b.toList=y at *;generalize c.toList=z at *;induction x generalizing y z with
 | nil =>
  cases y with
  | nil=>simp [Op.bytesLess] at h
  | cons m y =>
   cases z with
   | nil=>simp [Op.bytesLess] at d
   | cons q z=>rfl
 | cons A x ih =>
  cases y with
  | nil=>simp [Op.bytesLess] at h
  | cons m y =>
   cases z with
   | nil=>simp [Op.bytesLess] at d
   | cons q z =>
    simp only [Op.bytesLess,Bool.or_eq_true,Bool.and_eq_true,decide_eq_true_eq,beq_iff_eq] at h d ⊢;rcases h with h | ⟨rfl,h⟩
    ·rcases d with d | ⟨rfl,d⟩
     ·exact .inl (UInt8.lt_trans h d)
     ·exact .inl h
    ·rcases d with d | ⟨rfl,d⟩
     ·exact .inl d
     ·exact .inr ⟨rfl,ih y h z d⟩
theorem ZqV {a b:ByteArray} (d:lt a b=false) (h:(a.toList == b.toList)=false):lt b a=true:=by
 have:=Zjo a b;unfold lt at *;rw [d,h] at this;simpa using this
structure BS (w:World) (b:Int) (sv:Value) (r:Int) (v:Value) (m:Nat) (ps:List Pl) (wr:World):Prop where
 h0:wr.heap[w.heap.size]?=some (Zi b sv)
 h1:wr.heap[w.heap.size+1]?=some (Zi 0 (.slice none 0 0))
 h2:wr.heap[w.heap.size+2]?=some (Zi r v)
 own:wr.ownsRow (w.heap.size+3) 82 4 v m (Ze ps)
 bel:Below w.heap.size w wr
 sz:w.heap.size+3≤wr.heap.size
theorem BS.nx {w:World} {b:Int} {m:Value} {r:Int} {v:Value} {h:Nat} {ps:List Pl} {wr q:World} (d:BS w b m r v h ps wr) (hb:Below wr.heap.size wr q):BS w b m r v h ps q:=
 have A:=d.sz
 ⟨(hb.block _ (by omega)).trans d.h0,(hb.block _ (by omega)).trans d.h1,(hb.block _ (by omega)).trans d.h2,Zx d.own hb,Zb d.bel hb,Ym d.sz hb.size⟩
theorem BS.put {w:World} {b:Int} {A:Value} {r:Int} {v h:Value} {m I B:Nat} {ps q:List Pl} {wr:World} (d:BS w b A r v m ps wr) (E:wr.ownsRow B 82 4 h I (Ze q)) (D:w.heap.size+3≤B) :
  BS w b A r h I q (wr.setCell ⟨w.heap.size+2,1,none⟩ h):=by
 refine ⟨?_,?_,?_,?_,?_,?_⟩
 ·exact (Yf _ _ _ _ (by show w.heap.size≠w.heap.size+2;omega)).trans d.h0
 ·exact (Yf _ _ _ _ (by show w.heap.size+1≠w.heap.size+2;omega)).trans d.h1
 ·exact Zm _ _ _ _ _ _ d.h2
 ·exact Yi (Zr E D) (by show w.heap.size+2<_;omega) _
 ·exact d.bel.setCell (by show w.heap.size≤w.heap.size+2;omega) _
 ·have:=d.sz;simpa using this
def Ztz (xs:List Pl):Prop:=(∀ x∈xs,Okp x)∧xs.Pairwise (fun a b=>a.nm≠b.nm)∧xs.length≤6
theorem Zf5 (p x:Pl):∀ l:List Pl,x∈ZH p l↔x=p∨x∈l
 | []=>by simp [ZH]
 | h :: r=>by
  rw [ZH];split
  ·simp
  ·rw [List.mem_cons,Zf5 p x r,List.mem_cons];constructor
   ·rintro (d | d | d)
    ·exact .inr (.inl d)
    ·exact .inl d
    ·exact .inr (.inr d)
   ·rintro (d | d | d)
    ·exact .inr (.inl d)
    ·exact .inl d
    ·exact .inr (.inr d)
theorem Zmi {a b:ByteArray} (h:(a.toList == b.toList)=true):a=b:=by
 have d:a.toList=b.toList:=by simpa using h
 rw [ZkP,ZkP] at d;exact Go.WideShapes.bytes_inj d
end Co
end Go.Proofs.YtmgkcbdlfodjmaaGreatDoor
