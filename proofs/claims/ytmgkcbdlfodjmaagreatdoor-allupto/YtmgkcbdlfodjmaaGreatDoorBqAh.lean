import Derived.Test.YtmgkcbdlfodjmaaGreatDoorBqAg
set_option maxRecDepth 100000
set_option maxHeartbeats 16000000
namespace Go.Proofs.YtmgkcbdlfodjmaaGreatDoor
open Go.RowKit
namespace Lw
open Co
theorem ZgS {s:Stp} (d:okN s):ZqZ s:=by
 unfold okN at d;refine ⟨?_,?_⟩
 ·unfold ZdY;omega
 ·omega
theorem Zr6 {f:Pl→Pl} {nm:ByteArray} {ps:List Pl} {x:Pl} (d:x∈Df.updT nm f ps):x∈ps∨∃ p∈ps,x=f p∧p.nm=nm:=by
 unfold Df.updT at d;obtain ⟨p,h,rfl⟩:=List.mem_map.1 d;by_cases e:Zl nm p=true
 ·rw [if_pos e];exact .inr ⟨p,h,rfl,Df.Zb0.1 e⟩
 ·rw [if_neg e];exact .inl h
theorem ZrR (f:Pl→Pl) (nm:ByteArray) (ps:List Pl):(Df.updT nm f ps).length=ps.length:=by unfold Df.updT;rw [List.length_map]
theorem ZqM {t:Int×List Pl} {s:Stp} (d:Okt t.1 t.2) (E:Df.goodS t s) (J:okN s):Okt (Df.stepT t s).1 (Df.stepT t s).2:=by
 unfold okN at J;have R:∀ (f:Pl→Pl),(∀ p,(f p).nm=p.nm)→(∀ p,Okp p→Okp (f p))→Okt t.1 (Df.updT s.name f t.2):=by
  intro f D M;refine ⟨d.b0,d.b1,by rw [ZrR];exact d.len,fun p m=>?_,Df.ZjA D _ d.up⟩;rcases Zr6 m with m | ⟨q,N,rfl,_⟩
  ·exact d.ok p m
  ·exact M q (d.ok q N)
 unfold Df.stepT;rcases E with ⟨h,_,_⟩ | ⟨h,_,_⟩ | ⟨h,_,L,A,_,_⟩ | ⟨h,_,_⟩ | ⟨Q,O,I⟩
 ·rw [if_pos (.inl h)];exact ⟨by simp only;omega,by simp only;omega,d.len,d.ok,d.up⟩
 ·rw [if_pos (.inr h)];exact ⟨by simp only;omega,by simp only;omega,d.len,d.ok,d.up⟩
 ·rw [if_neg (by omega),if_neg (by omega),if_pos h];refine ⟨d.b0,d.b1,?_,fun p m=>?_,Df.Zhh _ d.up L⟩
  ·show (ZH _ t.2).length≤6;rw [Zch];have:=A.2.2;rw [List.length_append] at this;exact this
  ·rcases (Zf5 _ _ _).1 m with rfl | m
   ·exact A.1 _ (by simp)
   ·exact d.ok p m
 ·rw [if_neg (by omega),if_pos h];refine ⟨d.b0,d.b1,Ym (Yp _ _) d.len,fun p m=>d.ok p (List.mem_filter.1 m).1,Df.ZjD _ d.up⟩
 ·rcases I with ⟨h,_⟩ | ⟨h,_⟩ | ⟨h,_⟩ | ⟨h,_⟩
  ·rw [if_neg (by omega),if_neg (by omega),if_neg (by omega),if_neg (by omega),if_neg (by omega)];exact R _ (fun _=>rfl) (fun p o=>⟨o.nm,by simp only;omega,by simp only;omega,o.w0,o.w1,o.f0,o.f1⟩)
  ·rw [if_neg (by omega),if_neg (by omega),if_neg (by omega),if_pos h];exact R _ (fun _=>rfl) (fun p o=>⟨o.nm,o.s0,o.s1,o.w0,o.w1,by simp only;omega,by simp only;omega⟩)
  ·rw [if_neg (by omega),if_neg (by omega),if_neg (by omega),if_neg (by omega),if_pos h];exact R _ (fun _=>rfl) (fun p o=>⟨o.nm,o.s0,o.s1,by simp only;omega,by simp only;omega,o.f0,o.f1⟩)
  ·rw [if_neg (by omega),if_neg (by omega),if_neg (by omega),if_neg (by omega),if_neg (by omega)];exact R _ (fun _=>rfl) (fun p o=>⟨o.nm,by simp only;omega,by simp only;omega,o.w0,o.w1,o.f0,o.f1⟩)
theorem ZpN {ba bb:Int} {ps qs:List Pl} {s:Stp} (d:s∈Df.diffL ba ps bb qs):((s.kind=1∨s.kind=5∨s.kind=6∨s.kind=8)∧∃ I∈qs,s.name=I.nm∧s.n=Df.numP s.kind I)∨(s.kind=2∧s.n=0)∨(s.kind=4∧s.n=0)∨((s.kind=3∨s.kind=7)∧s.n=bb):=by
 have q:∀ k:Int,(k=1∨k=5∨k=6∨k=8)→s∈Df.chgL k ps qs→(s.kind=1∨s.kind=5∨s.kind=6∨s.kind=8)∧∃ I∈qs,s.name=I.nm∧s.n=Df.numP s.kind I:=by
  intro k D h;obtain ⟨I,E,rfl⟩:=List.mem_map.1 h;exact ⟨D,I,(List.mem_filter.1 E).1,rfl,rfl⟩
 have A:∀ (k:Int) (l m:List Pl),s∈Df.missL k l m→s.kind=k∧s.n=0:=by
  intro k l m h;obtain ⟨I,_,rfl⟩:=List.mem_map.1 h;exact ⟨rfl,rfl⟩
 have hb:∀ k:Int,s∈Df.budL k ba bb→s.kind=k∧s.n=bb:=by
  intro k h;unfold Df.budL at h;split at h
  ·simp only [List.mem_singleton] at h;subst h;exact ⟨rfl,rfl⟩
  ·simp at h
 rw [Df.Zh1] at d;simp only [List.mem_append] at d;rcases d with ((((((d | d) | d) | d) | d) | d) | d) | d
 ·exact .inl (q 1 (.inl rfl) d)
 ·exact .inr (.inl (A _ _ _ d))
 ·exact .inr (.inr (.inr ⟨.inl (hb _ d).1,(hb _ d).2⟩))
 ·exact .inr (.inr (.inl (A _ _ _ d)))
 ·exact .inl (q 5 (.inr (.inl rfl)) d)
 ·exact .inl (q 6 (.inr (.inr (.inl rfl))) d)
 ·exact .inr (.inr (.inr ⟨.inr (hb _ d).1,(hb _ d).2⟩))
 ·exact .inl (q 8 (.inr (.inr (.inr rfl))) d)
theorem Zl3 {ba bb:Int} {ps qs:List Pl} (hb:Okt bb qs):∀ s∈Df.diffL ba ps bb qs,okN s:=by
 intro s O;have A:=hb.b0;have D:=hb.b1;unfold okN;rcases ZpN O with ⟨d,q,m,_,h⟩ | ⟨d,h⟩ | ⟨d,h⟩ | ⟨d,h⟩
 ·have o:=hb.ok q m;have E:=o.s0;have I:=o.s1;have J:=o.w0;have L:=o.w1;have M:=o.f0;have N:=o.f1;rcases d with d | d | d | d <;> rw [d] at h <;> simp [Df.numP] at h <;> omega
 ·omega
 ·omega
 ·omega
theorem Zqb {S T:Zh} {D E:ZB} {g:Int×List Pl} (d:Pln S D g) (L:Rest S T) (I:E.hb=D.hb∧E.hps=D.hps):Pln T E g:=by
 obtain ⟨m,q,h,A,J⟩:=L;refine ⟨by rw [m,q];exact d.tab,d.goal,?_,?_,?_,?_,?_,?_⟩
 ·rw [m,q,h,A,J];exact d.none
 ·rw [m,q,h,A];exact d.rest
 ·rw [m,q,h,A];exact d.on
 ·rw [h,J,I.1,I.2];exact d.home
 ·rw [h];exact d.ok
 ·rw [m,q,h,A];exact d.did
theorem ZlR {S:Zh} {d:ZB} {g:Int×List Pl} (D:Zbt S d.op) (h:Pln S d g) {s:Stp} {r:List Stp} (I:S.plan=s :: r) :
  ∃ X t,Bgn S X t∧Srvd X (Zak s.kind s.name s.n S.begun S d.op).1 d.op (Zak s.kind s.name s.n S.begun S d.op).2∧Zbt (Zak s.kind s.name s.n S.begun S d.op).1 (Zak s.kind s.name s.n S.begun S d.op).2
   ∧ Okt t.1 t.2∧Df.RunOk t r∧r.foldl Df.stepT t=g∧(S.begun=true→t=(S.bud,S.pools)∧X=S)∧(S.begun=false→t=Df.stepT (S.bud,S.pools) s∧X=Z2 s.kind s.name s.n S):=by
 have M:=h.ok s (by rw [I];simp);have L:∀ X t,Bgn S X t→Zak s.kind s.name s.n S.begun S d.op=ZD X.wts.length X d.op→Srvd X (Zak s.kind s.name s.n S.begun S d.op).1 d.op (Zak s.kind s.name s.n S.begun S d.op).2∧Zbt (Zak s.kind s.name s.n S.begun S d.op).1 (Zak s.kind s.name s.n S.begun S d.op).2:=by
  intro X t hb O;have J:=hb.fine D.fine;have E:=ZdT X.wts.length X d.op J;rw [O];exact ⟨E,E.fine,Zc3 X.wts.length X d.op J.inv (Yd _),ZhD (S:=X) E.rest.1 E.sub hb.wts⟩
 cases m:S.begun with
 | true =>
  obtain ⟨q,A⟩:=h.on m;rw [I] at q A;have hb:Bgn S S (S.bud,S.pools):=⟨⟨List.Sublist.refl _,fun _ h _=>h,List.Sublist.refl _⟩,⟨rfl,rfl,rfl,rfl,rfl⟩,D.fine.sur,D.wts⟩;have:=L S _ hb (by unfold Zak;rw [m];rfl);rw [m] at this;exact ⟨S,_,hb,this.1,this.2,h.tab,q,A,fun _=>⟨rfl,rfl⟩,fun h=>by simp at h⟩
 | false =>
  obtain ⟨q,A⟩:=h.rest m;rw [I] at q A;obtain ⟨R,V,N,U⟩:=q;have Q:0≤s.n:=(ZgS M).n.1;have hb:=Zkf D R N Q;have:=L _ _ hb (by unfold Zak;rw [m];rfl);rw [m] at this;exact ⟨_,_,hb,this.1,this.2,ZqM h.tab N M,U,A,fun h=>by simp at h,fun _=>⟨rfl,rfl⟩⟩
theorem ZqW {S:Zh} {d:ZB} {g:Int×List Pl} (ah:Zbt S d.op) (h:Pln S d g) :
  Zbt (Zaw S d).S (Zaw S d).X.op∧Pln (Zaw S d).S (Zaw S d).X g∧Eff S (Zaw S d).S∧pot ((Zaw S d).S,(Zaw S d).X.op)≤pot (S,d.op):=by
 cases av:S.plan with
 | nil =>
  have e:Zaw S d=⟨S,d,0,14,0⟩:=by unfold Zaw;rw [av]
  rw [e];exact ⟨ah,h,Eff.refl _,Int.le_refl _⟩
 | cons s r =>
  obtain ⟨R,t,hb,E,L,ab,ak,U,af,ae⟩:=ZlR ah h av;obtain ⟨⟨T,o⟩,hT⟩:∃ q,Zak s.kind s.name s.n S.begun S d.op=q:=⟨_,rfl⟩;rw [hT] at E L;simp only at E L;have e:Zaw S d=⟨(Zac T {d with op:=o} (Z4 s.kind s.name s.n T)).1,(Zac T {d with op:=o} (Z4 s.kind s.name s.n T)).2,(Zac T {d with op:=o} (Z4 s.kind s.name s.n T)).1.plan.length,0,0⟩:=by
   unfold Zaw;rw [av];simp only;rw [hT]
  rw [e];simp only;have aq:T.plan=s :: r∧T.begun=S.begun∧T.back=S.back∧T.bud=t.1∧T.pools=t.2:=by
   refine ⟨?_,?_,?_,?_,?_⟩
   ·rw [E.rest.2.2.1,hb.tab.2.2.1,av]
   ·rw [E.rest.2.2.2.1,hb.tab.2.2.2.1]
   ·rw [E.rest.2.2.2.2,hb.tab.2.2.2.2]
   ·rw [E.rest.2.1,hb.tab.1]
   ·rw [E.rest.1,hb.tab.2.1]
  obtain ⟨m,au,al,X,Y⟩:=aq;have N:(T.bud,T.pools)=t:=by rw [X,Y]
  have A:=Eff.of hb E;have ac:pot (T,o)≤pot (S,d.op):=by
   have am:pot (T,o)=pot (Zak s.kind s.name s.n S.begun S d.op):=by rw [hT]
   have ao:∀ R':Zh,R'.wts.length≤S.wts.length→pot (R',d.op)≤pot (S,d.op):=fun R' aj=>by unfold pot;simp only;omega
   have aj:R.wts.length≤S.wts.length:=hb.thin.2.2.length_le;have ap:Zak s.kind s.name s.n S.begun S d.op=ZD R.wts.length R d.op:=by
    cases J:S.begun with
    | true=>rw [(af J).2];unfold Zak;rfl
    | false=>rw [(ae J).2];unfold Zak;rfl
   rw [am,ap];exact Int.le_trans (Zc1 _ _ _).1 (ao R aj)
  have ai:S.plan≠[]→S.back=false→Okt d.hb d.hps:=h.home;have ar:∀ x∈r,okN x:=fun x I=>h.ok x (by rw [av];simp [I])
  cases hd:Z4 s.kind s.name s.n T with
  | true =>
   by_cases D:r.length=0
   ·have V:r=[]:=List.length_eq_zero_iff.1 D;rw [Zi8 (by rw [m];exact D)];simp only;have ag:t=g:=by rw [V] at U;exact U
    refine ⟨Zek L _ _ _,⟨by simp only;rw [X,Y];exact ab,h.goal,fun _=>⟨rfl,rfl,?_⟩,fun _=>?_,fun h=>by simp at h,fun M=>?_,fun x I=>?_,fun h=>by simp at h⟩,⟨A.keep,A.new,A.sub⟩,ac⟩
    ·show g=(T.bud,T.pools);rw [N,ag]
    ·show Df.RunOk (T.bud,T.pools) T.plan.tail∧T.plan.tail.foldl Df.stepT (T.bud,T.pools)=g;rw [m,V,N];exact ⟨trivial,ag⟩
    ·have:T.plan.tail=[]:=by rw [m];exact V
     exact absurd this M
    ·have:T.plan.tail=[]:=by rw [m];exact V
     simp only [this] at I;simp at I
   ·rw [ZkT (by rw [m];exact D)];simp only;refine ⟨Zek L _ _ _,⟨by simp only;rw [X,Y];exact ab,h.goal,fun M=>?_,fun _=>?_,fun h=>by simp at h,fun _ aa=>?_,fun x I=>?_,fun h=>by simp at h⟩,⟨A.keep,A.new,A.sub⟩,ac⟩
    ·have:T.plan.tail=[]:=M;rw [m] at this;exact absurd (by rw [show r=[] from this];rfl) D
    ·show Df.RunOk (T.bud,T.pools) T.plan.tail∧T.plan.tail.foldl Df.stepT (T.bud,T.pools)=g;rw [m,N];exact ⟨ak,U⟩
    ·exact ai (by rw [av];simp) (al.symm.trans aa)
    ·have O:x∈T.plan.tail:=I;rw [m] at O;exact ar x O
  | false =>
   have e2:Zac T {d with op:=o} false=({T with begun:=true},{d with op:=o}):=by unfold Zac;rw [if_neg (by simp)]
   rw [e2];simp only;refine ⟨Zek L T.plan true T.back,⟨by simp only;rw [X,Y];exact ab,h.goal,fun M=>?_,fun h=>by simp at h,fun _=>?_,fun _ aa=>?_,fun x I=>?_,fun _=>?_⟩,⟨A.keep,A.new,A.sub⟩,ac⟩
   ·have:T.plan=[]:=M;rw [m] at this;simp at this
   ·show Df.RunOk (T.bud,T.pools) T.plan.tail∧T.plan.tail.foldl Df.stepT (T.bud,T.pools)=g;rw [m,N];exact ⟨ak,U⟩
   ·exact ai (by rw [av];simp) (al.symm.trans aa)
   ·have O:x∈T.plan:=I;rw [m,←av] at O;exact h.ok x O
   ·show ∃ s r Q,T.plan=s :: r∧Df.goodS Q s∧Df.Up Q.2∧(T.bud,T.pools)=Df.stepT Q s;rw [m,N];cases J:S.begun with
    | true =>
     obtain ⟨s',r',Q,ad,e2,e3,e4⟩:=h.did J;rw [av] at ad;obtain ⟨rfl,rfl⟩:=List.cons.inj ad;exact ⟨_,_,Q,rfl,e2,e3,by rw [(af J).1];exact e4⟩
    | false =>
     have D:=(h.rest J).1;rw [av] at D;exact ⟨_,_,(S.bud,S.pools),rfl,D.2.2.1,D.1,(ae J).1⟩
theorem ZnU {S:Zh} {h:ZB} {g:Int×List Pl} (A:Zbt S h.op) (d:Pln S h g) {a:Ans} (L:a.err=0→Okt a.tab.1 a.tab.2) :
  Zbt (Z0 S h a).S (Z0 S h a).X.op∧(∃ q,Pln (Z0 S h a).S (Z0 S h a).X q∧((Z0 S h a).e=0→q=a.tab)∧((Z0 S h a).e≠0→q=g∧(Z0 S h a).S=S∧(Z0 S h a).X=h∧(Z0 S h a).n=0))∧Eff S (Z0 S h a).S∧pot ((Z0 S h a).S,(Z0 S h a).X.op)=pot (S,h.op):=by
 unfold Z0;by_cases J:¬S.plan.length=0
 ·rw [if_pos J];exact ⟨A,⟨g,d,fun d=>by simp at d,fun _=>⟨rfl,rfl,rfl,rfl⟩⟩,Eff.refl _,rfl⟩
 ·rw [if_neg J];by_cases m:¬a.err=0
  ·rw [if_pos m];exact ⟨A,⟨g,d,fun d=>absurd (by have O:(a.err:Int)=0:=d;omega) m,fun _=>⟨rfl,rfl,rfl,rfl⟩⟩,Eff.refl _,rfl⟩
  ·rw [if_neg m];simp only;have E:=L (Classical.not_not.1 m);obtain ⟨N,I⟩:=Df.Zm0 d.tab E;refine ⟨Zek A _ _ _,⟨a.tab,⟨d.tab,E,fun D=>⟨rfl,rfl,?_⟩,fun _=>⟨N,I⟩,fun d=>by simp at d,fun D _=>?_,Zl3 E,fun d=>by simp at d⟩,fun _=>rfl,fun d=>absurd rfl d⟩,⟨fun _ d _=>d,fun _ d _=>.inl d,fun _ d=>d⟩,rfl⟩
   ·have M:Df.diffL S.bud S.pools a.tab.1 a.tab.2=[]:=D;rw [M] at I;exact I.symm
   ·have:ZcD (Df.diffL S.bud S.pools a.tab.1 a.tab.2) S.bud S.pools=(S.bud,S.pools):=by
     unfold ZcD;rw [if_neg (fun e=>D (List.length_eq_zero_iff.1 e))]
    simp only [this];exact d.tab
theorem Zpb {S:Zh} {d:ZB} {g:Int×List Pl} (I:Zbt S d.op) (h:Pln S d g) :
  Zbt (Zao S d).S (Zao S d).X.op∧(∃ A,Pln (Zao S d).S (Zao S d).X A∧((Zao S d).e=0→A=(d.hb,d.hps)∧S.plan≠[]∧S.back=false)∧((Zao S d).e≠0→A=g∧(Zao S d).S=S∧(Zao S d).X=d))∧Eff S (Zao S d).S∧pot ((Zao S d).S,(Zao S d).X.op)=pot (S,d.op):=by
 unfold Zao;by_cases D:S.plan.length=0
 ·rw [if_pos D];exact ⟨I,⟨g,h,fun h=>by simp at h,fun _=>⟨rfl,rfl,rfl⟩⟩,Eff.refl _,rfl⟩
 ·rw [if_neg D];have N:S.plan≠[]:=fun e=>D (by rw [e];rfl)
  by_cases m:S.back=true
  ·rw [if_pos m];exact ⟨I,⟨g,h,fun h=>by simp at h,fun _=>⟨rfl,rfl,rfl⟩⟩,Eff.refl _,rfl⟩
  ·rw [if_neg m];simp only;have L:=h.home N (ZbJ m);obtain ⟨Q,M⟩:=Df.Zm0 h.tab L;refine ⟨Zek I _ _ _,⟨(d.hb,d.hps),⟨h.tab,L,fun q=>⟨rfl,?_,?_⟩,fun _=>⟨Q,M⟩,fun h=>by simp at h,fun q O=>?_,Zl3 L,fun h=>by simp at h⟩,fun _=>⟨rfl,N,ZbJ m⟩,fun h=>absurd rfl h⟩,⟨fun _ h _=>h,fun _ h _=>.inl h,fun _ h=>h⟩,rfl⟩
   ·have J:Df.diffL S.bud S.pools d.hb d.hps=[]:=q;show Zdo (Df.diffL S.bud S.pools d.hb d.hps)=false;rw [J];rfl
   ·have J:Df.diffL S.bud S.pools d.hb d.hps=[]:=q;rw [J] at M;exact M.symm
   ·have E:Zdo (Df.diffL S.bud S.pools d.hb d.hps)=false:=O;unfold Zdo at E;simp only [Bool.not_eq_false',decide_eq_true_eq] at E;exact absurd (List.length_eq_zero_iff.1 E) q
theorem Zg5 {α:Type} {p:α→Bool}:∀ {l:List α} {k:Nat} {s:α},l[k]?=some s→p s=true→Zs p (l.eraseIdx k)+1=Zs p l
 | [],k,s,d,_=>by simp at d
 | y :: r,0,s,d,h=>by
  simp at d;subst d;unfold Zs;simp [h]
 | y :: r,k+1,s,d,h=>by
  have ih:=Zg5 (l:=r) (k:=k) (by simpa using d) h;unfold Zs at ih ⊢;rw [List.eraseIdx_cons_succ,List.filter_cons,List.filter_cons];split
  ·simp only [List.length_cons];omega
  ·exact ih
theorem Zfv {α:Type} {l:List α} {k:Nat} (d:k<l.length):(l.eraseIdx k).length+1=l.length:=by
 rw [List.length_eraseIdx_of_lt d];omega
theorem ZgB (d:ByteArray) (n:Int) (op:Int):∀ (f:Nat) (S:Zh),Inv S op→S.srv.length<f→ZaV d ((Zs (Zj d) S.srv:Int) - n).toNat S={S with srv:=Zcn d false n f S.srv}
 | 0,_,_,h=>by omega
 | f+1,S,q,N=>by
  rw [Zcn];simp only [Bool.false_eq_true,if_false];by_cases A:(Zs (Zj d) S.srv:Int)≤n
  ·rw [if_pos A,show ((Zs (Zj d) S.srv:Int) - n).toNat=0 by omega];rfl
  ·rw [if_neg A];have E:(fun s=>Zj d s&&Zp 0 s)=ZU d false:=by
    funext s
    simp only [Zj,Zp,ZU,Bool.false_or];exact Bool.and_comm _ _
   obtain ⟨Q,J⟩:∃ Q,((Zs (Zj d) S.srv:Int) - n).toNat=Q+1:=⟨_,(Nat.succ_pred_eq_of_pos (by omega)).symm⟩;rw [J,ZaV,E];cases D:ZbC (ZU d false) S.srv with
   | none=>rw [Zez D]
   | some k =>
    obtain ⟨s,m,I⟩:=Zgj D;rw [I];simp only;have hps:=(Zeg I).2;have e:ZR S s.id=Zaa S k:=by unfold ZR Zaa;rw [Zdg S.srv q.ids k s m]
    have L:Zj d s=true:=by
     rw [←E] at hps;simp only [Bool.and_eq_true] at hps;exact hps.1
    have M:=Zg5 (p:=Zj d) m L;have O:=Zfv (Yc.1 m).1;have ih:=ZgB d n op f (Zaa S k) (ZeI q k) (by show (S.srv.eraseIdx k).length<f;omega);rw [e,←show ((Zs (Zj d) (Zaa S k).srv:Int) - n).toNat=Q by show ((Zs (Zj d) (S.srv.eraseIdx k):Int) - n).toNat=Q;omega,ih];rfl
theorem ZiQ (N:ByteArray) (n:Int) (op:Int):∀ (f:Nat) (S:Zh),Inv S op→S.srv.length<f→Zbg ((S.srv.length:Int) - n).toNat S={S with srv:=Zcn N true n f S.srv}
 | 0,_,_,h=>by omega
 | f+1,S,m,L=>by
  rw [Zcn];simp only [if_true];by_cases q:(S.srv.length:Int)≤n
  ·rw [if_pos q,show ((S.srv.length:Int) - n).toNat=0 by omega];rfl
  ·rw [if_neg q];have I:Zp 0=ZU N true:=by
    funext s
    simp [Zp,ZU]
   obtain ⟨d,E⟩:∃ d,((S.srv.length:Int) - n).toNat=d+1:=⟨_,(Nat.succ_pred_eq_of_pos (by omega)).symm⟩;rw [E,Zbg,I];cases A:ZbC (ZU N true) S.srv with
   | none=>rw [Zez A]
   | some k =>
    obtain ⟨s,D,J⟩:=Zgj A;rw [J];simp only;have e:ZR S s.id=Zaa S k:=by unfold ZR Zaa;rw [Zdg S.srv m.ids k s D]
    have M:=Zfv (Yc.1 D).1;have ih:=ZiQ N n op f (Zaa S k) (ZeI m k) (by show (S.srv.eraseIdx k).length<f;omega);rw [e,←show (((Zaa S k).srv.length:Int) - n).toNat=d by show (((S.srv.eraseIdx k).length:Int) - n).toNat=d;omega,ih];rfl
theorem Zgc (d:ByteArray) (n:Int) (M:0≤n) (op:Int):∀ (f:Nat) (S:Zh),Inv S op→S.wts.length<f→ZaB d ((Zs (Zq d) S.wts:Int) - n).toNat S={S with wts:=Zdt d n f S.wts}
 | 0,_,_,h=>by omega
 | f+1,S,U,Q=>by
  rw [Zdt];by_cases A:(Zs (Zq d) S.wts:Int)≤n
  ·rw [if_pos A,show ((Zs (Zq d) S.wts:Int) - n).toNat=0 by omega];rfl
  ·rw [if_neg A];obtain ⟨m,L⟩:∃ m,((Zs (Zq d) S.wts:Int) - n).toNat=m+1:=⟨_,(Nat.succ_pred_eq_of_pos (by omega)).symm⟩;rw [L,ZaB];cases D:ZbC (Zq d) S.wts with
   | none =>
    have I:=Zfk (Zez D);have:Zs (Zq d) S.wts=0:=by
     unfold Zs;rw [List.filter_eq_nil_iff.2 (fun x N=>by rw [I x N];simp)];rfl
    omega
   | some k =>
    obtain ⟨s,q,E⟩:=Zgj D;rw [E];simp only [orW,Option.getD_some];have hps:=(Zeg E).2;have e:ZO S s.client=Zbp S k:=by unfold ZO Zbp;rw [ZcB S.wts U.cli k s q]
    have O:=Zg5 (p:=Zq d) q hps;have R:=Zfv (Yc.1 q).1;have J:Inv (Zbp S k) op:=⟨U.ids,U.low,U.op0,U.cli.sublist (List.eraseIdx_sublist _ _)⟩;have ih:=Zgc d n M op f (Zbp S k) J (by show (S.wts.eraseIdx k).length<f;omega);rw [e,←show ((Zs (Zq d) (Zbp S k).wts:Int) - n).toNat=m by show ((Zs (Zq d) (S.wts.eraseIdx k):Int) - n).toNat=m;omega,ih];rfl
theorem ZgT {α:Type} {p:α→Bool}:∀ {l:List α} {k:Nat} {s:α},l[k]?=some s→p s=true→(l.eraseIdx k).filter (fun x=>!p x)=l.filter (fun x=>!p x)
 | [],k,s,d,_=>by simp at d
 | y :: r,0,s,d,h=>by
  simp at d;subst d;simp [h]
 | y :: r,k+1,s,d,h=>by
  have ih:=ZgT (l:=r) (k:=k) (by simpa using d) h;rw [List.eraseIdx_cons_succ,List.filter_cons,List.filter_cons,ih]
theorem ZiL (L:ByteArray) (d:Int):∀ (f:Nat) (ss:List Srv),ss.length<f→Zep L d f ss=ss.filter (fun x=>!Zcy L d true x)
 | 0,_,h=>by omega
 | f+1,ss,I=>by
  rw [Zep];cases m:ss.findIdx? (Zcy L d true) with
  | none =>
   rw [List.findIdx?_eq_none_iff] at m;simp only;exact (List.filter_eq_self.2 (fun x E=>by rw [m x E];rfl)).symm
  | some k =>
   obtain ⟨s,q,D⟩:=ZbH m;have A:Zcy L d true s=true:=List.find?_some D;have J:=Zfv (Yc.1 q).1;simp only;rw [ZiL L d f _ (by omega),ZgT q A]
theorem Zod (m:ByteArray) (d:Int):Za5 m d=fun x=>!Zcy m d true x:=by
 funext x
 unfold Za5 Zcg Zcy Zj;cases (x.pool.toList == m.toList) <;> cases (x.far == d) <;> cases h:(x.client == 0) <;> simp_all
theorem Zrz {ps:List Pl} {p:Nat} {x:Pl} (d:ps[p]?=some x) (f:Pl→Pl):ps.modify p f=ps.set p (f x):=ZcZ f d
theorem ZpP {t:Int×List Pl} {s:Stp} (O:Df.Up t.2) (L:Df.goodS t s):Zba s.kind s.name s.n t.1 t.2=Zcs s.kind s.name s.n t.1 t.2:=by
 rw [ZkN O L];unfold Zcs Df.stepT;by_cases m:s.kind=3∨s.kind=7
 ·rw [if_pos m,if_pos m]
 ·rw [if_neg m,if_neg m];by_cases A:s.kind=2
  ·rw [if_pos A,if_pos A];rfl
  ·rw [if_neg A,if_neg A];by_cases D:s.kind=4
   ·rw [if_pos D,if_pos D]
   ·rw [if_neg D,if_neg D];have q:∃ p,Df.lk t.2 s.name=some p∧(s.kind=1∨s.kind=5∨s.kind=6∨s.kind=8):=by
     rcases L with ⟨d,_⟩ | ⟨d,_⟩ | ⟨d,_⟩ | ⟨d,_⟩ | ⟨p,q,d⟩
     ·exact absurd (.inl d) m
     ·exact absurd (.inr d) m
     ·exact absurd d D
     ·exact absurd d A
     ·exact ⟨p,q,by rcases d with ⟨d,_⟩ | ⟨d,_⟩ | ⟨d,_⟩ | ⟨d,_⟩ <;> simp [d]⟩
    obtain ⟨p,q,U⟩:=q;have N:t.2.find? (Zl s.name)=some p:=q;cases M:t.2.findIdx? (Zl s.name) with
    | none =>
     have:=(ZaU (Zl s.name) t.2).2 M;rw [N] at this;simp at this
    | some i =>
     obtain ⟨x,Q,J⟩:=ZbH M;rw [N] at J;simp only [Option.some.injEq] at J;subst J;simp only;have V:=Df.Zdu q;have e:=fun f=>(Zrz Q f).trans (Df.Znk s.name f O Q V)
     by_cases E:s.kind=5
     ·rw [if_pos E,show ZdW s.kind s.n=(fun h:Pl=>(⟨h.nm,h.sz,h.wt,s.n⟩:Pl)) by funext h;simp [ZdW,E],e]
     ·rw [if_neg E];by_cases I:s.kind=6
      ·rw [if_pos I,show ZdW s.kind s.n=(fun h:Pl=>(⟨h.nm,h.sz,s.n,h.fr⟩:Pl)) by funext h;simp [ZdW,I],e]
      ·rw [if_neg I];have R:s.kind=1∨s.kind=8:=by
        rcases U with d | d | d | d
        ·exact .inl d
        ·exact absurd d E
        ·exact absurd d I
        ·exact .inr d
       rw [show ZdW s.kind s.n=(fun h:Pl=>(⟨h.nm,s.n,h.wt,h.fr⟩:Pl)) by funext h;rcases R with d | d <;> simp [ZdW,d],e]
theorem ZnZ {S:Zh} {op:Int} (J:Inv S op) {s:Stp} (O:Df.Up S.pools) (M:Df.goodS (S.bud,S.pools) s) (N:0≤s.n):Z2 s.kind s.name s.n S=ZaR s.kind s.name s.n S:=by
 have I:=ZpP (t:=(S.bud,S.pools)) O M;simp only at I;unfold Z2 ZaR;rw [I];obtain ⟨T,E⟩:∃ T,Z1 S (Zcs s.kind s.name s.n S.bud S.pools)=T:=⟨_,rfl⟩;have d:Inv T op:=by rw [←E];exact Zm5 J _
 rw [E];simp only;by_cases Q:s.kind=1
 ·rw [if_pos Q,if_pos Q];exact ZgB s.name s.n op _ T d (Nat.lt_succ_self _)
 ·rw [if_neg Q,if_neg Q];by_cases m:s.kind=2
  ·rw [if_pos m,if_pos m];have e:=Zgc s.name 0 (Int.le_refl _) op (T.wts.length+1) T d (Nat.lt_succ_self _);have L:Inv (Zd9 T s.name 0) op:=by
    have:=(Zfx s.name 0 (Int.le_refl _) _ T (Int.self_le_toNat _)).1;have h:=Zgr d this;rw [e] at h;exact h
   rw [e];exact ZgB s.name 0 op _ (Zd9 T s.name 0) L (Nat.lt_succ_self _)
  ·rw [if_neg m,if_neg m];by_cases q:s.kind=3
   ·rw [if_pos q,if_pos q];exact ZiQ ⟨#[]⟩ s.n op _ T d (Nat.lt_succ_self _)
   ·rw [if_neg q,if_neg q];by_cases A:s.kind=5
    ·rw [if_pos A,if_pos A];unfold Ze6 Zjv;rw [Zod,ZiL s.name s.n _ _ (Nat.lt_succ_self _)]
    ·rw [if_neg A,if_neg A];by_cases D:s.kind=6
     ·rw [if_pos D,if_pos D];exact Zgc s.name s.n N op _ T d (Nat.lt_succ_self _)
     ·rw [if_neg D,if_neg D]
def Zjq (S:Zh) (X:ZB) (Y:Int×List Pl):Prop:=S.plan≠[]→S.back=false→Y=(X.hb,X.hps)
structure Zn6 (a:Rsp) (b:Rsq):Prop where
 S:a.S=b.S
 op:a.X.op+1=b.nx
 n:a.n=b.n
 e:a.e=b.e
 l:a.l=b.l
 home:Zjq b.S a.X b.Y
theorem ZnM (S:Zh) (b:Bool) (nx:Int) (i:Nat) (c:Wtr):Z9 {S with begun:=b} nx i c=(Z9 S nx i c).map (fun y=>({y.1 with begun:=b},y.2)):=by
 unfold Z9;cases S.pools.find? (Zl c.pool) with
 | none=>rfl
 | some x =>
  simp only;cases S.srv.findIdx? (ZU c.pool false) with
  | some k=>rfl
  | none =>
   simp only;split
   ·rfl
   ·show (match Zde S with | none=>none | some none=>_ | some (some k)=>_)=_;cases Zde S with
    | none=>rfl
    | some o=>cases o <;> rfl
theorem Zh8 (S:Zh) (b:Bool) (nx:Int):∀ (l:List Wtr) (i:Nat),ZaK {S with begun:=b} nx i l=(ZaK S nx i l).map (fun y=>({y.1 with begun:=b},y.2))
 | [],i=>rfl
 | c :: r,i=>by
  rw [ZaK,ZaK,ZnM];cases Z9 S nx i c with
  | none=>exact Zh8 S b nx r (i+1)
  | some y=>rfl
theorem ZgV:∀ (f:Nat) (S:Zh) (b:Bool) (nx:Int),ZI f {S with begun:=b} nx=({(ZI f S nx).1 with begun:=b},(ZI f S nx).2)
 | 0,S,b,nx=>rfl
 | f+1,S,b,nx=>by
  rw [ZI,ZI];show (match ZaK {S with begun:=b} nx 0 S.wts with | none=>_ | some y=>_)=_;rw [Zh8];cases ZaK S nx 0 S.wts with
  | none=>rfl
  | some y=>exact ZgV f y.1 b y.2
theorem Zk5 (f:Nat) (S:Zh) (nx:Int):(ZI f S nx).1.plan=S.plan∧(ZI f S nx).1.begun=S.begun∧(ZI f S nx).1.back=S.back:=(Zec f S nx).2.2.2
theorem ZgL (k:Int) (nm:ByteArray) (n:Int) (S:Zh):(ZaR k nm n S).plan=S.plan∧(ZaR k nm n S).begun=S.begun∧(ZaR k nm n S).back=S.back:=by
 unfold ZaR Zeb Zjv Zd9 Z1;simp only;repeat' split
 all_goals exact ⟨rfl,rfl,rfl⟩
theorem ZmA (k:Int) (nm:ByteArray) (n:Int) (S:Zh) (b:Bool):Z4 k nm n {S with begun:=b}=Z4 k nm n S:=rfl
theorem Zkq {S:Zh} {ad:ZB} {g M:Int×List Pl} (E:Zbt S ad.op) (h:Pln S ad g) (R:Zjq S ad M):Zn6 (Zaw S ad) (Zco S (ad.op+1) M):=by
 have N:=E.fine.inv;unfold Zaw Zco;cases m:S.plan with
 | nil=>exact ⟨rfl,rfl,rfl,rfl,rfl,fun J=>absurd m J⟩
 | cons s r =>
  obtain ⟨d,D⟩:∃ d,(if S.begun=true then S else Z2 s.kind s.name s.n S)=d:=⟨_,rfl⟩;have Q:(if S.begun=true then S else ZaR s.kind s.name s.n S)=d:=by
   rw [←D];cases hb:S.begun with
   | true=>rfl
   | false =>
    have q:=(h.rest hb).1;rw [m] at q;have I:=(ZgS (h.ok s (by rw [m];simp))).n.1;simp only [Bool.false_eq_true,if_false];exact (ZnZ N q.1 q.2.2.1 I).symm
  have U:d.plan=S.plan∧d.back=S.back:=by
   rw [←Q];split
   ·exact ⟨rfl,rfl⟩
   ·exact ⟨(ZgL _ _ _ _).1,(ZgL _ _ _ _).2.2⟩
  have O:Inv d ad.op:=by
   rw [←D];split
   ·exact N
   ·rename_i hb
    have aa:=ZbJ hb;have q:=(h.rest aa).1;rw [m] at q;have I:=(ZgS (h.ok s (by rw [m];simp))).n.1;exact ((Zkf E q.1 q.2.2.1 I).fine E.fine).inv
  have X:Zak s.kind s.name s.n S.begun S ad.op=ZD d.wts.length d ad.op:=by unfold Zak;rw [D]
  have e2:Zhm s S (ad.op+1)=({(ZD d.wts.length d ad.op).1 with begun:=true},(ZD d.wts.length d ad.op).2+1):=by
   unfold Zhm;rw [Q];simp only;rw [ZgV,←(ZcC d.wts.length d ad.op O).1]
  have L:(ZD d.wts.length d ad.op).1.plan=s :: r∧(ZD d.wts.length d ad.op).1.back=S.back:=by
   have e:=(ZcC d.wts.length d ad.op O).1;have f:=Zk5 d.wts.length d (ad.op+1);rw [←e] at f;exact ⟨f.1.trans (U.1.trans m),f.2.2.trans U.2⟩
  simp only;rw [X,e2];obtain ⟨⟨T,t⟩,Y⟩:∃ T,ZD d.wts.length d ad.op=T:=⟨_,rfl⟩;rw [Y] at L ⊢;simp only at L ⊢;rw [ZmA s.kind s.name s.n T true];obtain ⟨ac,V⟩:=L;cases hd:Z4 s.kind s.name s.n T with
  | false =>
   refine ⟨rfl,rfl,rfl,rfl,rfl,fun _ hb=>?_⟩;exact R (by rw [m];simp) (V.symm.trans hb)
  | true =>
   have ab:T.plan.tail=r:=by rw [ac];rfl
   unfold Zac Zj5;simp only [if_true];rw [ab];by_cases A:r.length=0
   ·rw [if_pos A];refine ⟨?_,rfl,rfl,rfl,rfl,fun J=>absurd (List.length_eq_zero_iff.1 A) J⟩;simp [A]
   ·rw [if_neg A];refine ⟨?_,rfl,rfl,rfl,rfl,fun _ hb=>?_⟩
    ·simp [A]
    ·simp [A] at hb;exact R (by rw [m];simp) (V.symm.trans hb)
theorem Zib {S:Zh} {m:ZB} {q:Int×List Pl} {a:Ans} (A:Zjq S m q):Zn6 (Z0 S m a) (ZbD S (m.op+1) q a):=by
 unfold Z0 ZbD;by_cases d:¬S.plan.length=0
 ·rw [if_pos d,if_pos d];exact ⟨rfl,rfl,rfl,rfl,rfl,A⟩
 ·rw [if_neg d,if_neg d];by_cases h:¬a.err=0
  ·rw [if_pos h,if_pos h];exact ⟨rfl,rfl,rfl,rfl,rfl,A⟩
  ·rw [if_neg h,if_neg h];refine ⟨rfl,rfl,rfl,rfl,rfl,fun D _=>?_⟩;have E:Df.diffL S.bud S.pools a.tab.1 a.tab.2≠[]:=D;unfold ZcD;rw [if_neg (fun e=>E (List.length_eq_zero_iff.1 e))]
theorem Zjg {S:Zh} {d:ZB} {D:Int×List Pl} (q:Zjq S d D):Zn6 (Zao S d) (ZbN S (d.op+1) D):=by
 unfold Zao ZbN;by_cases h:S.plan.length=0
 ·rw [if_pos h,if_pos h];exact ⟨rfl,rfl,rfl,rfl,rfl,q⟩
 ·rw [if_neg h,if_neg h];by_cases m:S.back=true
  ·rw [if_pos m,if_pos m];exact ⟨rfl,rfl,rfl,rfl,rfl,q⟩
  ·rw [if_neg m,if_neg m];have e:=q (fun e=>h (by rw [e];rfl)) (ZbJ m);rw [e];refine ⟨rfl,rfl,rfl,rfl,rfl,fun E hb=>?_⟩;have I:Df.diffL S.bud S.pools d.hb d.hps≠[]:=E;have A:Zdo (Df.diffL S.bud S.pools d.hb d.hps)=false:=hb;unfold Zdo at A;simp only [Bool.not_eq_false',decide_eq_true_eq] at A;exact absurd (List.length_eq_zero_iff.1 A) I
structure Zhq (l:Ln):Prop where
 fit:ZaQ l.sets=true
 kind:(l.kind=1∧∃ n,l.sets=[(3,n)])∨((l.kind=2∨l.kind=3)∧ZW l.name=true)
structure ZlT (ls:List Ln):Prop where
 ok:∀ l∈ls,Zhq l
 hd:∀ l r,ls=l :: r→l.kind=1
 cnt:ZaC ls 3≤6
 dis:ls.Pairwise (fun a b=>a.kind=3→b.kind=3→a.name≠b.name)
 one:∀ l r,ls=l :: r→∀ x∈r,x.kind≠1
theorem Zlk {k:Nat} {q:List ByteArray} {l:Ln} (d:namedF k q=some l):l.kind=k∧ZW l.name=true:=by
 unfold namedF at d;cases q with
 | nil=>simp at d
 | cons nm r =>
  simp only at d;by_cases h:ZW nm=true
  ·rw [if_pos h] at d;cases r with
   | nil=>simp only [Option.some.injEq] at d;subst d;exact ⟨rfl,h⟩
   | cons D A =>
    simp only at d;split at d
    ·cases A with
     | nil=>simp at d
     | cons b E =>
      simp only at d;split at d
      ·cases m:Z8 E with
       | none=>rw [m] at d;simp at d
       | some ss=>rw [m] at d;simp only [Option.map_some,Option.some.injEq] at d;subst d;exact ⟨rfl,h⟩
      ·simp at d
    ·cases m:Z8 (D :: A) with
     | none=>rw [m] at d;simp at d
     | some ss=>rw [m] at d;simp only [Option.map_some,Option.some.injEq] at d;subst d;exact ⟨rfl,h⟩
  ·rw [if_neg h] at d;simp at d
theorem Zp8 {q:List ByteArray} {l:Ln} (d:Zag q=some l):(l.kind=1∧∃ n,l.sets=[(3,n)])∨((l.kind=2∨l.kind=3)∧ZW l.name=true):=by
 unfold Zag at d;cases q with
 | nil=>simp at d
 | cons D r =>
  simp only at d;split at d
  ·left;unfold ZcF at d;split at d
   ·rename_i a
    cases A:Za9 a with
    | none=>rw [A] at d;simp at d
    | some n=>rw [A] at d;simp only [Option.map_some,Option.some.injEq] at d;subst d;exact ⟨rfl,n,rfl⟩
   ·simp at d
  ·split at d
   ·obtain ⟨h,m⟩:=Zlk d;exact .inr ⟨.inl h,m⟩
   ·split at d
    ·obtain ⟨h,m⟩:=Zlk d;exact .inr ⟨.inr h,m⟩
    ·simp at d
theorem Zru {ab:List Ln} {l:Ln} (h:ZlT ab) (U:(l.kind=1∧∃ n,l.sets=[(3,n)])∨((l.kind=2∨l.kind=3)∧ZW l.name=true)) (d:ZM ab l=0) (p:Nat):ZlT (ab++[{l with place:=p}]):=by
 unfold ZM at d;by_cases A:(decide (ab.length=0) != decide (l.kind=1))=true
 ·rw [if_pos A] at d;simp at d
 ·rw [if_neg A] at d;by_cases f2:ZaQ l.sets=false
  ·rw [if_pos f2] at d;simp at d
  ·rw [if_neg f2] at d;by_cases D:Zfg ab l.kind=true
   ·rw [if_pos D] at d;simp at d
   ·rw [if_neg D] at d;by_cases L:twc l.sets=true
    ·rw [if_pos L] at d;simp at d
    ·rw [if_neg L] at d;by_cases E:(Zbj ab l.kind l.name).isSome=true
     ·rw [if_pos E] at d;simp at d
     ·have J:ab.length=0↔l.kind=1:=by
       have:decide (ab.length=0)=decide (l.kind=1):=by simpa using A
       exact ⟨fun h=>by rw [decide_eq_true h] at this;exact of_decide_eq_true this.symm,fun h=>by rw [decide_eq_true h] at this;exact of_decide_eq_true this⟩
      have R:Zbj ab l.kind l.name=none:=by
       cases I:Zbj ab l.kind l.name with
       | none=>rfl
       | some x=>rw [I] at E;simp at E
      refine ⟨fun x m=>?_,fun x r m=>?_,?_,?_,fun x r m y ac=>?_⟩
      ·rcases List.mem_append.1 m with m | m
       ·exact h.ok x m
       ·rw [List.mem_singleton] at m;subst m;exact ⟨by simpa using f2,U⟩
      ·cases ab with
       | nil =>
        obtain ⟨rfl,_⟩:=List.cons.inj m;exact J.1 rfl
       | cons a q =>
        obtain ⟨rfl,_⟩:=List.cons.inj m;exact h.hd a q rfl
      ·unfold ZaC;rw [Yr,List.length_append];have I:=h.cnt;unfold ZaC at I;by_cases M:l.kind=3
       ·have V:¬6≤ZaC ab 3:=by
         intro O;apply D;unfold Zfg;rw [M,if_pos (.inr rfl)];exact decide_eq_true O
        unfold ZaC at V;have:(List.filter (fun x:Ln=>x.kind == 3) [{l with place:=p}]).length≤1:=Yp _ _;omega
       ·have:(List.filter (fun x:Ln=>x.kind == 3) [{l with place:=p}]).length=0:=by
         simp [M]
        omega
      ·refine List.pairwise_append.2 ⟨h.dis,List.pairwise_singleton _ _,fun a Q b hb X Y e=>?_⟩;rw [List.mem_singleton] at hb;subst hb;have:=List.find?_eq_none.1 R a Q;apply this;have aa:l.kind=3:=Y;have N:a.name=l.name:=e;rw [X,aa,N];simp
      ·cases ab with
       | nil =>
        obtain ⟨rfl,rfl⟩:=List.cons.inj m;simp at ac
       | cons a q =>
        obtain ⟨rfl,rfl⟩:=List.cons.inj m;rcases List.mem_append.1 ac with ac | ac
        ·exact h.one a q rfl y ac
        ·rw [List.mem_singleton] at ac;subst ac;intro e;have:=J.2 e;simp at this
theorem Zlr:∀ (ps:List ByteArray) (i:Nat) (D:List Ln),ZlT D→(rdC i D ps).err=0→ZlT (rdC i D ps).lines∧(rdC i D ps).lines≠[]
 | [],i,D,h,d=>by
  rw [rdC] at d ⊢;by_cases m:D.length=0
  ·rw [if_pos m] at d;simp at d
  ·rw [if_neg m] at d ⊢;exact ⟨h,fun e=>m (by simp only at e;rw [e];rfl)⟩
 | p :: r,i,D,h,d=>by
  by_cases m:(Zav p).length=0
  ·rw [Zim m] at d ⊢;exact Zlr r _ _ h d
  ·rw [rdC,if_neg m] at d ⊢;cases A:Zag (Zav p) with
   | none=>rw [A] at d;simp at d
   | some l =>
    rw [A] at d;simp only at d ⊢;by_cases q:ZM D l=0
    ·rw [if_pos q] at d ⊢;exact Zlr r _ _ (Zru h (Zp8 A) q _) d
    ·rw [if_neg q] at d;exact absurd d q
theorem ZpR {ss:List (Nat×Nat)} (h:ZaQ ss=true) {k n:Nat} (d:ZaA ss k=some n):∃ p∈ss,(ZX p.1).toList=(ZX k).toList∧p.2=n∧Zcm p.1 p.2=true:=by
 unfold ZaA at d;cases A:ss.find? (fun p=>(ZX p.1).toList == (ZX k).toList) with
 | none=>rw [A] at d;simp at d
 | some p =>
  rw [A] at d;have m:=List.mem_of_find?_eq_some A;have q:=List.find?_some A;refine ⟨p,m,eq_of_beq q,Option.some.inj d,?_⟩;unfold ZaQ at h;exact List.all_eq_true.1 h p m
theorem ZlJ {k:Nat} {n:Int} (d:Zcm k n=true):(k=0→0≤n∧n≤20)∧(k=1→0≤n∧n≤20)∧(k=2→0≤n∧n≤999)∧(3≤k→1≤n∧n≤99):=by
 match k with
 | 0=>simp [Zcm,inB] at d ⊢;omega
 | 1=>simp [Zcm,inB] at d ⊢;omega
 | 2=>simp [Zcm,inB] at d ⊢;omega
 | k+3=>simp [Zcm,inB] at d ⊢;omega
theorem Zrp {a k:Nat} (d:(ZX a).toList=(ZX k).toList) (h:k≤2):a=k:=by
 have tl:∀ x:Nat,(ZX x).toList=kwL x:=fun x=>by rw [ByteArray.toList_eq];rfl
 rw [tl,tl] at d;match k,h with
 | 0,_=>match a with
  | 0=>rfl
  | 1=>exact absurd d (by decide)
  | 2=>exact absurd d (by decide)
  | a+3=>exact absurd d (show ¬kwL 3=kwL 0 by decide)
 | 1,_=>match a with
  | 0=>exact absurd d (by decide)
  | 1=>rfl
  | 2=>exact absurd d (by decide)
  | a+3=>exact absurd d (show ¬kwL 3=kwL 1 by decide)
 | 2,_=>match a with
  | 0=>exact absurd d (by decide)
  | 1=>exact absurd d (by decide)
  | 2=>rfl
  | a+3=>exact absurd d (show ¬kwL 3=kwL 2 by decide)
def InK (k:Nat) (n:Int):Prop:=(k=2→0≤n∧n≤999)∧(k<2→0≤n∧n≤20)
theorem ZoG {ss:List (Nat×Nat)} (h:ZaQ ss=true) {k n:Nat} (A:k≤2) (D:ZaA ss k=some n):InK k n:=by
 obtain ⟨p,_,q,d,E⟩:=ZpR h D;have e:=Zrp q A;obtain ⟨a,b⟩:=p;simp only at e d E;subst e d;have:=ZlJ E;exact ⟨fun e=>this.2.2.1 e,fun e=>by
  rcases Nat.lt_or_ge a 1 with m | m
  ·exact this.1 (by omega)
  ·exact this.2.1 (by omega)⟩
theorem Zov {k:Nat} {o:Int} (h:k≤2) (m:InK k o):∀ q:List Ln,(∀ l∈q,Zhq l)→InK k (ZgY k o q)
 | [],_=>m
 | p :: r,d=>by
  unfold ZgY;cases D:ZaA p.sets k with
  | none=>exact Zov h m r (fun l A=>d l (by simp [A]))
  | some n=>exact ZoG (d p (by simp)).fit h D
theorem ZeT (h:List Ln):∀ (f:Nat) (nm:ByteArray),∀ l∈chC h f nm,l∈h
 | 0,_,l,d=>by simp [chC] at d
 | f+1,nm,l,d=>by
  rw [chC] at d;cases m:Zbj h 2 nm with
  | none=>rw [m] at d;simp at d
  | some p =>
   rw [m] at d;rcases List.mem_cons.1 d with rfl | d
   ·exact List.mem_of_find?_eq_some m
   ·exact ZeT h f _ l d
theorem ZjN {k:Nat} {o:Int} (D:k≤2) (q:InK k o) {ss:List (Nat×Nat)} (h:ZaQ ss=true) {d:List Ln} (m:∀ l∈d,Zhq l):InK k (Zfa k o ss d):=by
 unfold Zfa;cases A:ZaA ss k with
 | none=>exact Zov D q d m
 | some n=>exact ZoG h D A
theorem Zq8 {M:List Ln} (E:∀ l∈M,Zhq l) {l:Ln} (d:Zhq l) (L:l.kind=3):Okp (plC M l):=by
 have m:∀ x∈chC M 7 l.frm,Zhq x:=fun x J=>E x (ZeT _ _ _ x J)
 have q:=ZjN (k:=0) (o:=1) (by omega) ⟨by omega,by omega⟩ d.fit m;have A:=ZjN (k:=1) (o:=0) (by omega) ⟨by omega,by omega⟩ d.fit m;have D:=ZjN (k:=2) (o:=0) (by omega) ⟨by omega,by omega⟩ d.fit m;have I:ZW l.name=true:=by
  rcases d.kind with ⟨h,_⟩ | ⟨_,h⟩
  ·omega
  ·exact h
 exact ⟨I,(q.2 (by omega)).1,(q.2 (by omega)).2,(A.2 (by omega)).1,(A.2 (by omega)).2,(D.1 rfl).1,(D.1 rfl).2⟩
structure ZsJ (pre:List Ln) (st:Int×List Pl):Prop where
 bud:pre≠[]→1≤st.1∧st.1≤99
 len:st.2.length=ZaC pre 3
 ok:∀ p∈st.2,Okp p∧∃ l∈pre,l.kind=3∧p.nm=l.name
 up:Df.Up st.2
theorem Zj2 (h:List Ln) (l:Ln):ZaC (h++[l]) 3=ZaC h 3+if l.kind=3 then 1 else 0:=by
 unfold ZaC;rw [Yr,List.length_append];congr 1;by_cases d:l.kind=3
 ·simp [d]
 ·simp [d]
theorem ZmR (J:List Ln) (N:∀ l∈J,Zhq l):∀ (r m:List Ln) (st:Int×List Pl),ZsJ m st→ZlT (m++r)→ZsJ (m++r) (r.foldl (stC J) st)
 | [],m,st,d,_=>by rw [List.append_nil];exact d
 | l :: r,m,st,d,E=>by
  have e:m++l :: r=(m++[l])++r:=by simp
  rw [e] at E ⊢;rw [List.foldl_cons];refine ZmR J N r (m++[l]) _ ?_ E;have M:Zhq l:=E.ok l (by simp);unfold stC;by_cases L:l.kind=1
  ·rw [if_pos L];refine ⟨fun _=>?_,?_,fun p h=>?_,d.up⟩
   ·rcases M.kind with ⟨_,n,Y⟩ | ⟨ac,_⟩
    ·have O:=M.fit;rw [Y] at O ⊢;have aa:ZaA [(3,n)] 3=some n:=by simp [ZaA]
     unfold Zfa;rw [aa];have V:Zcm 3 (n:Int)=true:=by simpa [ZaQ] using O
     exact (ZlJ V).2.2.2 (by omega)
    ·omega
   ·rw [Zj2,if_neg (by omega)];exact d.len
   ·obtain ⟨I,x,A,D⟩:=d.ok p h;exact ⟨I,x,by simp [A],D⟩
  ·rw [if_neg L];have Q:m≠[]:=by
    intro R;subst R;have:=E.hd l r (by simp);exact L this
   by_cases q:l.kind=3
   ·rw [if_pos q];refine ⟨fun _=>d.bud Q,?_,fun p h=>?_,?_⟩
    ·show (ZH _ _).length=_;rw [Zch,Zj2,if_pos q,d.len]
    ·rcases (Zf5 _ _ _).1 h with rfl | h
     ·exact ⟨Zq8 N M q,l,by simp,q,rfl⟩
     ·obtain ⟨I,x,A,D⟩:=d.ok p h;exact ⟨I,x,by simp [A],D⟩
    ·refine Df.Zhh _ d.up ?_;unfold Df.lk;refine List.find?_eq_none.2 (fun p h X=>?_);obtain ⟨_,x,A,D,ab⟩:=d.ok p h;have U:p.nm=l.name:=Df.Zb0.1 X;have hd:=E.dis;rw [List.append_assoc] at hd;exact (List.pairwise_append.1 hd).2.2 x A l (by simp) D q (ab.symm.trans U)
   ·rw [if_neg q];refine ⟨fun _=>d.bud Q,?_,fun p h=>?_,d.up⟩
    ·rw [Zj2,if_neg q];exact d.len
    ·obtain ⟨I,x,A,D⟩:=d.ok p h;exact ⟨I,x,by simp [A],D⟩
theorem ZeQ (s:ByteArray) (d:(Z7 s).err=0):Okt (Z7 s).tab.1 (Z7 s).tab.2:=by
 unfold Z7 at d ⊢;by_cases m:1000<s.size
 ·rw [if_pos m] at d;simp at d
 ·rw [if_neg m] at d ⊢;by_cases h:(rd s).err≠0
  ·rw [if_pos h] at d;exact absurd d h
  ·rw [if_neg h] at d ⊢;by_cases q:(chE (rd s).lines).1≠0
   ·rw [if_pos q] at d;exact absurd d q
   ·rw [if_neg q];have E:(rdC 0 [] (ZP s 10)).err=0:=by simpa [rd] using h
    obtain ⟨A,D⟩:=Zlr (ZP s 10) 0 [] ⟨by simp,by simp,by simp [ZaC],List.Pairwise.nil,by simp⟩ E;have k:=ZmR (rd s).lines A.ok (rd s).lines [] (0,[]) ⟨fun d=>absurd rfl d,by simp [ZaC],by simp,List.Pairwise.nil⟩ A;simp only [List.nil_append] at k;show Okt (ZfM (rd s).lines).1 (ZfM (rd s).lines).2;exact ⟨(k.bud D).1,(k.bud D).2,by have m:=k.len;have h:=A.cnt;exact Ym (Nat.le_of_eq m) h,fun p I=>(k.ok p I).1,k.up⟩
structure PlI (S:Zh) (X:ZB) (Y:Int×List Pl):Prop where
 good:Zbt S X.op
 pln:∃ g,Pln S X g
 home:Zjq S X Y
 y:Y.2.length≤6
 hps:X.hps.length≤6
 plan:S.plan.length≤56
theorem PlI.sml {S:Zh} {m:ZB} {d:Int×List Pl} (h:PlI S m d) (q:RefOk S m.op d):Sml S d:=by
 obtain ⟨g,A⟩:=h.pln;have D:=A.tab.len;have E:=q.num;exact ⟨by omega,by omega,by omega,by have:=h.plan;omega,by have:=h.y;omega⟩
theorem ZrD {S:Zh} {aa:ZB} {d:Int×List Pl} (E:PlI S aa d) (I:RefOk S aa.op d) (u:ZA) (q:Option Addr) (m:Nat) (w:World) (h:WdAt w S u d q m) :
  Calls Tryz.prog 19 #[wdA S u (aa.op+1) d q m] w fun e U=>ZeA w U S u d q m (Zco S (aa.op+1) d) e:=by
 obtain ⟨g,A⟩:=E.pln;cases D:S.plan with
 | nil=>exact ZsM S u (aa.op+1) d q m w h D
 | cons s r =>
  have M:=ZgS (A.ok s (by rw [D];simp));have V:=I.num;have L:=I.pot1;have X:=E.good.fine.inv.op0;unfold pot at L;simp only at L;refine ZsP S u (aa.op+1) d q m w s.kind s.name s.n r h D (E.sml I) (by have:=A.tab.len;omega) (by omega) (by omega) (by omega) M.k M.n.1 (fun hb Y=>?_);have N:=(A.rest hb).1;rw [D] at N;have O:=N.2.2.1;have J:∃ p,Df.lk S.pools s.name=some p:=by
   rcases O with ⟨h,_⟩ | ⟨h,_⟩ | ⟨h,_⟩ | ⟨h,_⟩ | ⟨p,A,_⟩
   ·omega
   ·omega
   ·omega
   ·omega
   ·exact ⟨p,A⟩
  obtain ⟨p,J⟩:=J;have R:S.pools.find? (Zl s.name)=some p:=J;cases Q:S.pools.findIdx? (Zl s.name) with
  | some i=>exact ⟨i,rfl⟩
  | none =>
   have:=(ZaU (Zl s.name) S.pools).2 Q;rw [R] at this;simp at this
theorem ZmO {b:Int} {ps:List Pl} (d:Okt b ps):∀ p∈ps,0≤p.sz:=fun p h=>(d.ok p h).s0
theorem Zpk {S:Zh} {N:ZB} {d:Int×List Pl} (A:PlI S N d) (I:RefOk S N.op d) (s:ByteArray) (L:s.size≤maxLen) (u:ZA) (q:Option Addr) (m:Nat) (w:World) (h:WdAt w S u d q m) :
  Calls Tryz.prog 17 #[wdA S u (N.op+1) d q m,.string s] w fun e M=>ZlX w M S u d q m (ZbD S (N.op+1) d (Z7 s)) e:=by
 obtain ⟨g,J⟩:=A.pln;by_cases E:S.plan.length=0
 ·exact Zqq S u (N.op+1) d q m s w h (A.sml I) E L J.tab.len (fun D=>⟨(ZeQ s D).len,ZmO (ZeQ s D)⟩)
 ·exact Zqa S u (N.op+1) d q m s w h E
theorem Zp9 {S:Zh} {N:ZB} {d:Int×List Pl} (A:PlI S N d) (J:RefOk S N.op d) (u:ZA) (q:Option Addr) (m:Nat) (w:World) (h:WdAt w S u d q m) :
  Calls Tryz.prog 21 #[wdA S u (N.op+1) d q m] w fun e M=>ZeA w M S u d q m (ZbN S (N.op+1) d) e:=by
 obtain ⟨g,I⟩:=A.pln;by_cases D:S.plan.length=0
 ·exact ZrT S u (N.op+1) d q m w h D
 ·rcases Bool.eq_false_or_eq_true S.back with hb | hb
  ·exact Zri S u (N.op+1) d q m w h D hb
  ·have E:S.plan≠[]:=fun e=>D (by rw [e];rfl)
   have e:=A.home E hb;have L:=I.home E hb;refine Zre S u (N.op+1) d q m w h (A.sml J) D hb I.tab.len A.y ?_;rw [e];exact ZmO L
end Lw
end Go.Proofs.YtmgkcbdlfodjmaaGreatDoor
