import Derived.Test.YtmgkcbdlfodjmaaGreatDoorBqAb
import Derived.Test.YtmgkcbdlfodjmaaGreatDoorBqAe
set_option maxRecDepth 100000
set_option maxHeartbeats 16000000
namespace Go.Proofs.YtmgkcbdlfodjmaaGreatDoor
open Go.RowKit
namespace Df
open Co Lw
abbrev Up (l:List Pl):Prop:=l.Pairwise (fun a b=>lt a.nm b.nm=true)
def lk (l:List Pl) (nm:ByteArray):Option Pl:=l.find? (Zl nm)
theorem Zb0 {nm:ByteArray} {p:Pl}:Zl nm p=true↔p.nm=nm:=by
 constructor
 ·intro d;exact Zmi d
 ·rintro rfl;simp [Zl]
theorem Zo1 {nm:ByteArray} {p:Pl} (d:p.nm≠nm):Zl nm p=false:=by
 cases h:Zl nm p with
 | false=>rfl
 | true=>exact absurd (Zb0.1 h) d
theorem Zdu {l:List Pl} {nm:ByteArray} {p:Pl} (d:lk l nm=some p):p.nm=nm:=Zb0.1 (List.find?_some d)
theorem Zc7 {l:List Pl} {nm:ByteArray} {p:Pl} (d:lk l nm=some p):p∈l:=List.mem_of_find?_eq_some d
theorem ZcK {l:List Pl} {nm:ByteArray}:lk l nm=none↔∀ p∈l,p.nm≠nm:=by
 unfold lk;rw [List.find?_eq_none];constructor
 ·intro d p h e;exact d p h (Zb0.2 e)
 ·intro d p h e;exact d p h (Zb0.1 e)
theorem Za3 {x:Pl} {l:List Pl} {nm:ByteArray} (d:x.nm=nm):lk (x :: l) nm=some x:=List.find?_cons_of_pos (Zb0.2 d)
theorem Zbl {x:Pl} {l:List Pl} {nm:ByteArray} (d:x.nm≠nm):lk (x :: l) nm=lk l nm:=List.find?_cons_of_neg (by rw [Zo1 d];simp)
theorem Zcw:∀ {l:List Pl},Up l→∀ {x:Pl},x∈l→lk l x.nm=some x
 | [],_,x,d=>by simp at d
 | y :: r,h,x,d=>by
  rcases List.mem_cons.1 d with rfl | d
  ·exact Za3 rfl
  ·rw [Zbl (Zfe ((List.pairwise_cons.1 h).1 x d)),Zcw (List.pairwise_cons.1 h).2 d]
theorem ZlP:∀ {l l':List Pl},Up l→Up l'→(∀ nm,lk l nm=lk l' nm)→l=l'
 | [],[],_,_,_=>rfl
 | [],y :: r,_,_,d=>by
  have:=d y.nm;rw [Za3 rfl] at this;simp [lk] at this
 | x :: r,[],_,_,d=>by
  have:=d x.nm;rw [Za3 rfl] at this;simp [lk] at this
 | x :: r,y :: N,D,E,d=>by
  have L:lk (y :: N) x.nm=some x:=by rw [←d,Za3 rfl]
  have M:lk (x :: r) y.nm=some y:=by rw [d,Za3 rfl]
  obtain ⟨q,A⟩:=List.pairwise_cons.1 D;obtain ⟨a2,b2⟩:=List.pairwise_cons.1 E;have e:x=y:=by
   rcases List.mem_cons.1 (Zc7 L) with e | I
   ·exact e
   ·rcases List.mem_cons.1 (Zc7 M) with e | J
    ·exact e.symm
    ·have c1:=a2 x I;have c2:=q y J;rw [Znx c1] at c2;exact absurd c2 (by simp)
  subst e;congr 1;refine ZlP A b2 (fun nm=>?_);by_cases h:x.nm=nm
  ·rw [ZcK.2 (fun p m e=>Zfe (q p m) (h.trans e.symm)),ZcK.2 (fun p m e=>Zfe (a2 p m) (h.trans e.symm))]
  ·have:=d nm
   rwa [Zbl h,Zbl h] at this
theorem Zjz:∀ {l' l:List Pl},Up l→Up l'→(∀ x∈l,∃ y∈l',y.nm=x.nm)→l.length≤l'.length
 | [],l,_,_,h=>by
  cases l with
  | nil=>simp
  | cons x r=>obtain ⟨y,M,_⟩:=h x (by simp);simp at M
 | y :: A,[],_,_,_=>by simp
 | y :: A,x :: r,E,L,h=>by
  obtain ⟨D,J⟩:=List.pairwise_cons.1 E;obtain ⟨a2,b2⟩:=List.pairwise_cons.1 L;by_cases e:y.nm=x.nm
  ·have:=Zjz (l':=A) (l:=r) J b2 (fun z N=>by
    obtain ⟨u,d,m⟩:=h z (by simp [N]);rcases List.mem_cons.1 d with rfl | d
    ·exact absurd (e.symm.trans m) (Zfe (D z N))
    ·exact ⟨u,d,m⟩)
   simp;omega
  ·have:=Zjz (l':=A) (l:=x :: r) E b2 (fun z N=>by
    obtain ⟨u,d,m⟩:=h z N;rcases List.mem_cons.1 d with rfl | d
    ·exfalso;obtain ⟨v,q,I⟩:=h x (by simp);rcases List.mem_cons.1 q with rfl | q
     ·exact e I
     ·have c1:=a2 v q;rw [I] at c1;rcases List.mem_cons.1 N with rfl | N
      ·exact e m
      ·have c2:=D z N;rw [←m] at c2;rw [Znx c1] at c2;exact absurd c2 (by simp)
    ·exact ⟨u,d,m⟩)
   simp at this ⊢;omega
def updT (nm:ByteArray) (f:Pl→Pl) (ts:List Pl):List Pl:=ts.map (fun p=>if Zl nm p=true then f p else p)
def dropT (nm:ByteArray) (ts:List Pl):List Pl:=ts.filter (fun p=>!Zl nm p)
theorem Zhy {f:Pl→Pl} (q:∀ p,(f p).nm=p.nm) (nm d:ByteArray):∀ (m:List Pl),lk (updT nm f m) d=if nm=d then (lk m d).map f else lk m d
 | []=>by simp [lk,updT]
 | x :: r=>by
  have ih:=Zhy q nm d r;have e:updT nm f (x :: r)=(if Zl nm x=true then f x else x) :: updT nm f r:=rfl;have A:(if Zl nm x=true then f x else x).nm=x.nm:=by split <;> simp [q]
  rw [e];by_cases D:x.nm=d
  ·rw [Za3 (A.trans D),Za3 D];by_cases h:nm=d
   ·rw [if_pos h,if_pos (Zb0.2 (D.trans h.symm))];rfl
   ·rw [if_neg h,if_neg (by rw [Zb0];exact fun e=>h (e.symm.trans D))]
  ·rw [Zbl (by rw [A];exact D),Zbl D,ih]
theorem ZjA {f:Pl→Pl} (d:∀ p,(f p).nm=p.nm) (nm:ByteArray) {A:List Pl} (h:Up A):Up (updT nm f A):=by
 unfold Up updT;rw [List.pairwise_map];refine List.Pairwise.imp ?_ h;intro a b q;have m:(if Zl nm a=true then f a else a).nm=a.nm:=by split <;> simp [d]
 have hb:(if Zl nm b=true then f b else b).nm=b.nm:=by split <;> simp [d]
 rw [m,hb];exact q
theorem Znk (nm:ByteArray) (f:Pl→Pl):∀ {q:List Pl} {k:Nat} {x:Pl},Up q→q[k]?=some x→x.nm=nm→q.set k (f x)=updT nm f q
 | [],k,x,_,d,_=>by simp at d
 | y :: r,0,x,m,d,h=>by
  obtain rfl:y=x:=by simpa using d
  have e:updT nm f (y :: r)=(if Zl nm y=true then f y else y) :: updT nm f r:=rfl;rw [e,if_pos (Zb0.2 h)];have e2:updT nm f r=r:=by
   unfold updT
   conv=>rhs;rw [←List.map_id r]
   refine List.map_congr_left (fun p D=>?_);rw [if_neg (by rw [Zb0];exact fun e=>Zfe ((List.pairwise_cons.1 m).1 p D) (h.trans e.symm))];rfl
  rw [e2];rfl
 | y :: r,k+1,x,m,d,h=>by
  have A:r[k]?=some x:=by simpa using d
  have e:updT nm f (y :: r)=(if Zl nm y=true then f y else y) :: updT nm f r:=rfl;rw [e,if_neg (by rw [Zb0];exact fun e=>Zfe ((List.pairwise_cons.1 m).1 x (Yo A)) (e.trans h.symm)),List.set_cons_succ,Znk nm f (List.pairwise_cons.1 m).2 A h]
theorem ZfS (nm d:ByteArray):∀ (A:List Pl),lk (dropT nm A) d=if nm=d then none else lk A d
 | []=>by simp [lk,dropT]
 | x :: r=>by
  have ih:=ZfS nm d r;unfold dropT at ih ⊢;by_cases q:x.nm=nm
  ·rw [List.filter_cons_of_neg (by rw [Zb0.2 q];simp),ih];by_cases h:nm=d
   ·rw [if_pos h,if_pos h]
   ·rw [if_neg h,if_neg h,Zbl (fun e=>h (q.symm.trans e))]
  ·rw [List.filter_cons_of_pos (by rw [Zo1 q];rfl)];by_cases m:x.nm=d
   ·rw [Za3 m,Za3 m,if_neg (fun e=>q (m.trans e.symm))]
   ·rw [Zbl m,Zbl m,ih]
theorem ZjD (nm:ByteArray) {d:List Pl} (h:Up d):Up (dropT nm d):=List.Pairwise.filter _ h
theorem ZiS (p:Pl) (h:ByteArray):∀ (A:List Pl),lk A p.nm=none→lk (ZH p A) h=if p.nm=h then some p else lk A h
 | [],_=>by
  by_cases d:p.nm=h
  ·rw [if_pos d];exact Za3 d
  ·rw [if_neg d];exact Zbl d
 | q :: r,D=>by
  have E:q.nm≠p.nm:=ZcK.1 D q (by simp);have I:lk r p.nm=none:=ZcK.2 (fun x J=>ZcK.1 D x (by simp [J]));rw [ZH];split
  ·by_cases d:p.nm=h
   ·rw [if_pos d,Za3 d]
   ·rw [if_neg d,Zbl d]
  ·by_cases m:q.nm=h
   ·rw [Za3 m,if_neg (fun e=>E (m.trans e.symm)),Za3 m]
   ·rw [Zbl m,ZiS p h r I,Zbl m]
theorem Zhh (p:Pl):∀ {q:List Pl},Up q→lk q p.nm=none→Up (ZH p q)
 | [],_,_=>by simp [ZH]
 | m :: r,E,D=>by
  have L:m.nm≠p.nm:=ZcK.1 D m (by simp);have M:lk r p.nm=none:=ZcK.2 (fun x d=>ZcK.1 D x (by simp [d]));obtain ⟨A,I⟩:=List.pairwise_cons.1 E;rw [ZH];split
  ·rename_i h
   refine List.pairwise_cons.2 ⟨fun x d=>?_,E⟩;rcases List.mem_cons.1 d with rfl | d
   ·exact h
   ·exact Zpu h (A x d)
  ·rename_i h
   refine List.pairwise_cons.2 ⟨fun x d=>?_,Zhh p I M⟩;rcases (Zf5 p x r).1 d with rfl | d
   ·refine ZqV (by simpa using h) ?_;cases J:(x.nm.toList == m.nm.toList) with
    | false=>rfl
    | true=>exact absurd (Zmi J).symm L
   ·exact A x d
def stepT (t:Int×List Pl) (s:Stp):Int×List Pl:=
 if s.kind=3∨s.kind=7 then (s.n,t.2)
 else if s.kind=2 then (t.1,dropT s.name t.2)
 else if s.kind=4 then (t.1,ZH ⟨s.name,0,0,0⟩ t.2)
 else if s.kind=5 then (t.1,updT s.name (fun p=>⟨p.nm,p.sz,p.wt,s.n⟩) t.2)
 else if s.kind=6 then (t.1,updT s.name (fun p=>⟨p.nm,p.sz,s.n,p.fr⟩) t.2)
 else (t.1,updT s.name (fun p=>⟨p.nm,s.n,p.wt,p.fr⟩) t.2)
def goodS (t:Int×List Pl) (s:Stp):Prop:=
 (s.kind=3∧s.name=⟨#[]⟩∧s.n<t.1)∨(s.kind=7∧s.name=⟨#[]⟩∧t.1<s.n) ∨
 (s.kind=4∧s.n=0∧lk t.2 s.name=none∧Ztz (t.2++[⟨s.name,0,0,0⟩])∧1≤t.1∧t.1≤99) ∨
 (s.kind=2∧s.n=0∧∃ p,lk t.2 s.name=some p) ∨
 (∃ p,lk t.2 s.name=some p∧((s.kind=1∧s.n<p.sz)∨(s.kind=5∧s.n≠p.fr)∨(s.kind=6∧s.n≠p.wt)∨(s.kind=8∧p.sz<s.n)))
def RunOk:(Int×List Pl)→List Stp→Prop
 | _,[]=>True
 | t,s :: r=>Up t.2∧t.2.length≤6∧goodS t s∧RunOk (stepT t s) r
theorem RunOk.append:∀ {A m:List Stp} {t:Int×List Pl},RunOk t A→RunOk (A.foldl stepT t) m→RunOk t (A++m)
 | [],_,_,_,h=>h
 | _ :: _,_,_,d,q=>⟨d.1,d.2.1,d.2.2.1,RunOk.append d.2.2.2 q⟩
theorem RunOk.at:∀ {l:List Stp} {t:Int×List Pl} {i:Nat} {s:Stp},RunOk t l→l[i]?=some s→Up ((l.take i).foldl stepT t).2∧((l.take i).foldl stepT t).2.length≤6∧goodS ((l.take i).foldl stepT t) s
 | [],_,i,_,_,d=>by simp at d
 | m :: r,t,0,s,d,h=>by
  obtain rfl:m=s:=by simpa using h
  exact ⟨d.1,d.2.1,d.2.2.1⟩
 | m :: r,t,i+1,s,d,h=>by
  have:=RunOk.at d.2.2.2 (i:=i) (s:=s) (by simpa using h);simpa using this
theorem Zem (D A:ByteArray→Option Pl) (b:Int)
  (O:∀ h,Up h→(∀ d,lk h d=D d∨lk h d=A d)→h.length≤6) :
  ∀ (q:List Stp),q.Pairwise (fun x y=>x.name≠y.name) →
  (∀ s∈q,∀ h,Up h→(∀ d,lk h d=D d∨lk h d=A d)→lk h s.name=D s.name→goodS (b,h) s∧Up (stepT (b,h) s).2∧(stepT (b,h) s).1=b∧∀ d,lk (stepT (b,h) s).2 d=if s.name=d then A d else lk h d) →
  ∀ h,Up h→(∀ s∈q,lk h s.name=D s.name)→(∀ d,lk h d=D d∨lk h d=A d)→(∀ d,(∀ s∈q,s.name≠d)→lk h d=A d) →
  RunOk (b,h) q∧Up (q.foldl stepT (b,h)).2∧(q.foldl stepT (b,h)).1=b∧∀ d,lk (q.foldl stepT (b,h)).2 d=A d
 | [],_,_,h,I,_,_,L=>⟨trivial,I,rfl,fun d=>L d (by simp)⟩
 | s :: r,hd,Q,h,I,R,J,L=>by
  obtain ⟨U,d2⟩:=List.pairwise_cons.1 hd;obtain ⟨g,u,hb,e⟩:=Q s (by simp) h I J (R s (by simp));obtain ⟨N,M⟩:∃ N,stepT (b,h) s=(b,N):=⟨(stepT (b,h) s).2,Prod.ext hb rfl⟩;rw [M] at u e;have ih:=Zem D A b O r d2 (fun E m=>Q E (by simp [m])) N u
   (fun E m=>by rw [e,if_neg (U E m)];exact R E (by simp [m]))
   (fun d=>by
    rw [e];split
    ·exact .inr rfl
    ·exact J d)
   (fun d V=>by
    rw [e];split
    ·rfl
    ·rename_i X
     exact L d (fun E m=>by
      rcases List.mem_cons.1 m with rfl | m
      ·exact X
      ·exact V E m))
  refine ⟨⟨I,O h I J,g,?_⟩,?_⟩
  ·rw [M];exact ih.1
  ·rw [List.foldl_cons,M];exact ih.2
def s2 (A B:Option Pl):Option Pl:=match A,B with
 | some p,some q=>some (if q.sz<p.sz then ⟨p.nm,q.sz,p.wt,p.fr⟩ else p)
 | A,_=>A
def s3 (A B:Option Pl):Option Pl:=match B with
 | none=>none
 | some _=>s2 A B
def s5 (A B:Option Pl):Option Pl:=match A,B with
 | none,some q=>some ⟨q.nm,0,0,0⟩
 | A,B=>s3 A B
def s6 (A B:Option Pl):Option Pl:=match B with
 | none=>none
 | some q=>(s5 A B).map (fun p=>⟨p.nm,p.sz,p.wt,q.fr⟩)
def s7 (A B:Option Pl):Option Pl:=match B with
 | none=>none
 | some q=>(s6 A B).map (fun p=>⟨p.nm,p.sz,q.wt,p.fr⟩)
theorem ZrP {h:Option Pl} {d:Pl} (m:∀ p,h=some p→p.nm=d.nm):(s7 h (some d)).map (fun p=>(⟨p.nm,d.sz,p.wt,p.fr⟩:Pl))=some d:=by
 cases h with
 | none=>simp [s7,s6,s5]
 | some p =>
  have:=m p rfl;obtain ⟨q,_,_,_⟩:=d;simp only at this;simp only [s7,s6,s5,s3,s2];split <;> simp [this]
theorem Zmk {ps:List Pl} {nm:ByteArray} (d:lk ps nm=none):inP ps nm=⟨nm,0,0,0⟩:=by
 have h:ps.find? (Zl nm)=none:=d;rw [inP,h]
theorem Zgt {ps:List Pl} {nm:ByteArray} {p:Pl} (d:lk ps nm=some p):inP ps nm=p:=by
 have h:ps.find? (Zl nm)=some p:=d;rw [inP,h]
theorem ZhJ {qs:List Pl} {p:Pl}:Ziv qs p=true↔lk qs p.nm≠none:=by
 unfold Ziv;rw [Ne,ZcK,List.any_eq_true];constructor
 ·rintro ⟨x,h,m⟩ d;exact d x h (Zb0.1 m)
 ·intro d;refine Classical.byContradiction fun q=>d (fun x h e=>q ⟨x,h,Zb0.2 e⟩)
theorem Zfj {f:Pl→Stp} (d:∀ p,(f p).name=p.nm) (c:Pl→Bool) {l:List Pl} (h:Up l):((l.filter c).map f).Pairwise (fun x y=>x.name≠y.name):=by
 rw [List.pairwise_map];refine List.Pairwise.imp ?_ (List.Pairwise.filter _ h);intro a b m;rw [d,d];exact Zfe m
theorem ZpC {ba:Int} {ps:List Pl} (E:Okt ba ps) {D:List Pl} (q:Up D) (h:∀ m x,lk D m=some x→lk ps m≠none):D.length≤6:=by
 refine Ym (Zjz q E.up (fun x A=>?_)) E.len;have:=h x.nm x (Zcw q A);cases d:lk ps x.nm with
 | none=>exact absurd d this
 | some p=>exact ⟨p,Zc7 d,Zdu d⟩
theorem ZgN {bb:Int} {qs:List Pl} (hb:Okt bb qs) {A:List Pl} (D:Up A) (h:∀ m x,lk A m=some x→lk qs m≠none):A.length≤qs.length:=by
 refine Zjz D hb.up (fun x q=>?_);have:=h x.nm x (Zcw D q);cases d:lk qs x.nm with
 | none=>exact absurd d this
 | some p=>exact ⟨p,Zc7 d,Zdu d⟩
theorem Zuk {ba bb:Int} {ps qs:List Pl} (N:Okt ba ps) (hb:Okt bb qs) (b:Int):RunOk (b,ps) (chgL 1 ps qs)∧Up ((chgL 1 ps qs).foldl stepT (b,ps)).2∧((chgL 1 ps qs).foldl stepT (b,ps)).1=b∧∀ ac,lk ((chgL 1 ps qs).foldl stepT (b,ps)).2 ac=s2 (lk ps ac) (lk qs ac):=by
 have key:∀ d∈qs,Zbr 1 ps d=true→∃ p,lk ps d.nm=some p∧d.sz<p.sz:=by
  intro d m J;have E:d.sz<(inP ps d.nm).sz:=by simpa [Zbr,ZV,numP] using J
  cases q:lk ps d.nm with
  | none =>
   rw [Zmk q] at E;have:=(hb.ok d m).s0;simp only at E;omega
  | some p=>rw [Zgt q] at E;exact ⟨p,rfl,E⟩
 refine Zem (lk ps) (fun ac=>s2 (lk ps ac) (lk qs ac)) b ?_ (chgL 1 ps qs) (Zfj (fun _=>rfl) _ hb.up) ?_ ps N.up (fun _ _=>rfl) (fun _=>.inl rfl) ?_
 ·intro A L h;refine ZpC N L (fun ac x U Q=>?_);rcases h ac with h | h
  ·rw [U,Q] at h;simp at h
  ·rw [U,Q] at h;simp [s2] at h
 ·intro s aa A L _ V;obtain ⟨d,m,rfl⟩:=List.mem_map.1 aa;obtain ⟨m,J⟩:=List.mem_filter.1 m;obtain ⟨p,q,I⟩:=key d m J;have Y:=Zcw hb.up m;have O:lk A d.nm=lk ps d.nm:=V;have M:numP 1 d=d.sz:=by simp [numP]
  have ab:stepT (b,A) (ZaG 1 d.nm (numP 1 d))=(b,updT d.nm (fun p=>⟨p.nm,d.sz,p.wt,p.fr⟩) A):=by rw [M];simp [stepT,ZaG]
  rw [ab];refine ⟨.inr (.inr (.inr (.inr ⟨p,by show lk A d.nm=some p;rw [O,q],.inl ⟨rfl,by show numP 1 d<p.sz;rw [M];exact I⟩⟩))),ZjA (f:=fun p=>⟨p.nm,d.sz,p.wt,p.fr⟩) (fun _=>rfl) _ L,rfl,fun ac=>?_⟩;show lk (updT d.nm _ A) ac=if d.nm=ac then _ else _
  rw [Zhy (f:=fun p=>⟨p.nm,d.sz,p.wt,p.fr⟩) (fun _=>rfl)];by_cases D:d.nm=ac
  ·subst D;rw [if_pos rfl,if_pos rfl,O,q,Y];simp [s2,I]
  ·rw [if_neg D,if_neg D]
 ·intro ac D;cases q:lk ps ac with
  | none=>simp [s2]
  | some p =>
   cases m:lk qs ac with
   | none=>simp [s2]
   | some d =>
    have R:=Zdu m;have:¬d.sz<p.sz:=by
     intro I;refine D (ZaG 1 d.nm (numP 1 d)) (List.mem_map.2 ⟨d,List.mem_filter.2 ⟨Zc7 m,?_⟩,rfl⟩) R;have X:lk ps d.nm=some p:=by rw [R];exact q
     simp [Zbr,ZV,numP,Zgt X,I]
    simp [s2,this]
theorem Zt3 {ba:Int} {ps qs:List Pl} (J:Okt ba ps) (b:Int) (m:List Pl) (ab:Up m) (I:∀ d,lk m d=s2 (lk ps d) (lk qs d)):RunOk (b,m) (missL 2 ps qs)∧Up ((missL 2 ps qs).foldl stepT (b,m)).2∧((missL 2 ps qs).foldl stepT (b,m)).1=b∧∀ d,lk ((missL 2 ps qs).foldl stepT (b,m)).2 d=s3 (lk ps d) (lk qs d):=by
 refine Zem (fun d=>s2 (lk ps d) (lk qs d)) (fun d=>s3 (lk ps d) (lk qs d)) b ?_ (missL 2 ps qs) (Zfj (fun _=>rfl) _ J.up) ?_ m ab (fun s _=>I _) (fun d=>.inl (I d)) ?_
 ·intro A M h;refine ZpC J M (fun d x R E=>?_);rcases h d with h | h
  ·rw [R,E] at h;simp [s2] at h
  ·rw [R,E] at h;cases L:lk qs d <;> simp [s3,s2,L] at h
 ·intro s Y A M _ U;obtain ⟨p,ac,rfl⟩:=List.mem_map.1 Y;obtain ⟨ac,N⟩:=List.mem_filter.1 ac;have X:=Zcw J.up ac;have Q:lk qs p.nm=none:=by
   refine Classical.byContradiction fun E=>?_
   rw [ZhJ.2 E] at N;simp at N
  have V:lk A p.nm=some p:=by
   have:lk A p.nm=s2 (lk ps p.nm) (lk qs p.nm):=U;rw [this,X,Q];rfl
  have aa:stepT (b,A) (ZaG 2 p.nm 0)=(b,dropT p.nm A):=by simp [stepT,ZaG]
  rw [aa];refine ⟨.inr (.inr (.inr (.inl ⟨rfl,rfl,p,V⟩))),ZjD _ M,rfl,fun d=>?_⟩;show lk (dropT p.nm A) d=if p.nm=d then _ else _
  rw [ZfS];by_cases D:p.nm=d
  ·subst D;rw [if_pos rfl,if_pos rfl,Q];rfl
  ·rw [if_neg D,if_neg D]
 ·intro d D;rw [I];cases L:lk qs d with
  | some q=>rfl
  | none =>
   cases ac:lk ps d with
   | none=>rfl
   | some p =>
    have O:=Zdu ac;exfalso;refine D (ZaG 2 p.nm 0) (List.mem_map.2 ⟨p,List.mem_filter.2 ⟨Zc7 ac,?_⟩,rfl⟩) O;cases h:Ziv qs p with
    | false=>rfl
    | true=>exact absurd (by rw [O];exact L) (ZhJ.1 h)
theorem ZsV {ba bb:Int} {ps qs:List Pl} (E:Okt ba ps) (hb:Okt bb qs) {h:ByteArray} {x:Pl} (d:s3 (lk ps h) (lk qs h)=some x∨s5 (lk ps h) (lk qs h)=some x):Okp x∧lk qs h≠none:=by
 cases I:lk qs h with
 | none =>
  rw [I] at d;cases m:lk ps h <;> simp [s5,s3,m] at d
 | some q =>
  refine ⟨?_,by simp⟩;have A:=hb.ok q (Zc7 I);rw [I] at d;cases m:lk ps h with
  | none =>
   rw [m] at d;rcases d with d | d
   ·simp [s3,s2] at d
   ·simp [s5] at d;subst d;exact ⟨A.nm,by simp,by simp,by simp,by simp,by simp,by simp⟩
  | some p =>
   have op:=E.ok p (Zc7 m);rw [m] at d;have D:(if q.sz<p.sz then (⟨p.nm,q.sz,p.wt,p.fr⟩:Pl) else p)=x:=by
    rcases d with d | d
    ·simpa [s3,s2] using d
    ·simpa [s5,s3,s2] using d
   rw [←D];split
   ·exact ⟨op.nm,A.s0,A.s1,op.w0,op.w1,op.f0,op.f1⟩
   ·exact op
theorem Zue {ba bb:Int} {ps qs:List Pl} (ab:Okt ba ps) (hb:Okt bb qs) (b:Int) (ac:1≤b) (ad:b≤99) (E:List Pl) (ai:Up E) (L:∀ d,lk E d=s3 (lk ps d) (lk qs d)):RunOk (b,E) (missL 4 qs ps)∧Up ((missL 4 qs ps).foldl stepT (b,E)).2∧((missL 4 qs ps).foldl stepT (b,E)).1=b∧∀ d,lk ((missL 4 qs ps).foldl stepT (b,E)).2 d=s5 (lk ps d) (lk qs d):=by
 have M:∀ m,(∀ d,lk m d=s3 (lk ps d) (lk qs d)∨lk m d=s5 (lk ps d) (lk qs d))→∀ d x,lk m d=some x→Okp x∧lk qs d≠none:=by
  intro m h d x q;refine ZsV ab hb ?_;rcases h d with h | h
  ·exact .inl (h.symm.trans q)
  ·exact .inr (h.symm.trans q)
 refine Zem (fun d=>s3 (lk ps d) (lk qs d)) (fun d=>s5 (lk ps d) (lk qs d)) b ?_ (missL 4 qs ps) (Zfj (fun _=>rfl) _ hb.up) ?_ E ai (fun s _=>L _) (fun d=>.inl (L d)) ?_
 ·intro m I h;exact Ym (ZgN hb I (fun d x q=>(M m h d x q).2)) hb.len
 ·intro s ag m I h ae;obtain ⟨ak,D,rfl⟩:=List.mem_map.1 ag;obtain ⟨D,O⟩:=List.mem_filter.1 D;have N:=Zcw hb.up D;have U:lk ps ak.nm=none:=by
   refine Classical.byContradiction fun af=>?_
   rw [ZhJ.2 af] at O;simp at O
  have J:lk m ak.nm=none:=by
   have:lk m ak.nm=s3 (lk ps ak.nm) (lk qs ak.nm):=ae;rw [this,N,U];rfl
  have ah:stepT (b,m) (ZaG 4 ak.nm 0)=(b,ZH ⟨ak.nm,0,0,0⟩ m):=by simp [stepT,ZaG]
  have Q:∀ d,lk (ZH ⟨ak.nm,0,0,0⟩ m) d=if ak.nm=d then some ⟨ak.nm,0,0,0⟩ else lk m d:=fun d=>ZiS ⟨ak.nm,0,0,0⟩ d m J
  have X:Up (ZH ⟨ak.nm,0,0,0⟩ m):=Zhh ⟨ak.nm,0,0,0⟩ I J;have aj:=hb.ok ak D;rw [ah];refine ⟨.inr (.inr (.inl ⟨rfl,rfl,J,⟨?_,?_,?_⟩,ac,ad⟩)),X,rfl,fun d=>?_⟩
  ·intro x q;rcases List.mem_append.1 q with q | q
   ·exact (M m h x.nm x (Zcw I q)).1
   ·simp at q;subst q;exact ⟨aj.nm,by simp,by simp,by simp,by simp,by simp,by simp⟩
  ·rw [List.pairwise_append];refine ⟨List.Pairwise.imp (fun h=>Zfe h) I,by simp,fun x q y Y=>?_⟩;simp at Y;subst Y;exact ZcK.1 J x q
  ·have aa:=ZgN hb X (fun d x q=>by
    rw [Q] at q;by_cases A:ak.nm=d
    ·rw [←A,N];simp
    ·rw [if_neg A] at q;exact (M m h d x q).2)
   rw [Zch] at aa;have:=hb.len;simp only [List.length_append,List.length_cons,List.length_nil];omega
  ·show lk (ZH ⟨ak.nm,0,0,0⟩ m) d=if ak.nm=d then _ else _
   rw [Q];by_cases A:ak.nm=d
   ·subst A;rw [if_pos rfl,if_pos rfl,N,U];rfl
   ·rw [if_neg A,if_neg A]
 ·intro d A;rw [L];cases D:lk qs d with
  | none=>cases R:lk ps d <;> rfl
  | some ak =>
   cases R:lk ps d with
   | some p=>rfl
   | none =>
    have V:=Zdu D;exfalso;refine A (ZaG 4 ak.nm 0) (List.mem_map.2 ⟨ak,List.mem_filter.2 ⟨Zc7 D,?_⟩,rfl⟩) V;cases h:Ziv ps ak with
    | false=>rfl
    | true=>exact absurd (by rw [V];exact R) (ZhJ.1 h)
theorem ZjR {ba bb:Int} {ps qs:List Pl} (_ha:Okt ba ps) (hb:Okt bb qs) (kd:Int) (ad:kd=5∨kd=6∨kd=8) (m:Option Pl→Option Pl→Option Pl) (f:Pl→Pl→Pl) (U:∀ d p,(f d p).nm=p.nm)
  (ag:∀ b D d,stepT (b,D) (ZaG kd d.nm (numP kd d))=(b,updT d.nm (f d) D))
  (Y:∀ A,m A none=none)
  (ab:∀ A d,(∀ p,A=some p→p.nm=d.nm)→Okp d→∃ p,m A (some d)=some p ∧
   (ZV kd (numP kd (match A with | some x=>x | none=>⟨d.nm,0,0,0⟩)) (numP kd d)=true→(kd=5→d.fr≠p.fr)∧(kd=6→d.wt≠p.wt)∧(kd=8→p.sz<d.sz)) ∧
   (ZV kd (numP kd (match A with | some x=>x | none=>⟨d.nm,0,0,0⟩)) (numP kd d)=false→f d p=p))
  (b:Int) (E:List Pl) (ah:Up E) (M:∀ aj,lk E aj=m (lk ps aj) (lk qs aj)) :
  RunOk (b,E) (chgL kd ps qs)∧Up ((chgL kd ps qs).foldl stepT (b,E)).2∧((chgL kd ps qs).foldl stepT (b,E)).1=b∧∀ aj,lk ((chgL kd ps qs).foldl stepT (b,E)).2 aj=(match lk qs aj with | some d=>(m (lk ps aj) (lk qs aj)).map (f d) | none=>none):=by
 have V:∀ d,inP ps d=(match lk ps d with | some x=>x | none=>⟨d,0,0,0⟩):=by
  intro d;cases h:lk ps d with
  | none=>exact Zmk h
  | some p=>exact Zgt h
 refine Zem (fun aj=>m (lk ps aj) (lk qs aj)) (fun aj=>match lk qs aj with | some d=>(m (lk ps aj) (lk qs aj)).map (f d) | none=>none) b ?_ (chgL kd ps qs) (Zfj (fun _=>rfl) _ hb.up) ?_ E ah (fun s _=>M _) (fun aj=>.inl (M aj)) ?_
 ·intro D R h;refine Ym (ZgN hb R (fun aj x ai Q=>?_)) hb.len;have O:=h aj;simp only [Q,Y] at O;rw [ai] at O;simp at O
 ·intro s af D R _ ae;obtain ⟨d,ak,rfl⟩:=List.mem_map.1 af;obtain ⟨ak,I⟩:=List.mem_filter.1 ak;have aa:=Zcw hb.up ak;obtain ⟨p,q,ac,_⟩:=ab (lk ps d.nm) d (fun p q=>Zdu q) (hb.ok d ak);have X:lk D d.nm=some p:=by
   have:lk D d.nm=m (lk ps d.nm) (lk qs d.nm):=ae;rw [this,aa,q]
  have N:=ac (by unfold Zbr at I;rw [V] at I;exact I);rw [ag];refine ⟨.inr (.inr (.inr (.inr ⟨p,X,?_⟩))),ZjA (U d) _ R,rfl,fun aj=>?_⟩
  ·rcases ad with rfl | rfl | rfl
   ·exact .inr (.inl ⟨rfl,by show numP 5 d≠p.fr;simpa [numP] using N.1 rfl⟩)
   ·exact .inr (.inr (.inl ⟨rfl,by show numP 6 d≠p.wt;simpa [numP] using N.2.1 rfl⟩))
   ·exact .inr (.inr (.inr ⟨rfl,by show p.sz<numP 8 d;simpa [numP] using N.2.2 rfl⟩))
  ·show lk (updT d.nm (f d) D) aj=if d.nm=aj then _ else _
   rw [Zhy (U d)];by_cases J:d.nm=aj
   ·subst J;rw [if_pos rfl,if_pos rfl,X];simp only [aa,q]
   ·rw [if_neg J,if_neg J]
 ·intro aj J;rw [M];cases ak:lk qs aj with
  | none=>exact Y _
  | some d =>
   have L:=Zdu ak;obtain ⟨p,q,_,Q⟩:=ab (lk ps aj) d (fun p q=>(Zdu q).trans L.symm) (hb.ok d (Zc7 ak));show m (lk ps aj) (some d)=(m (lk ps aj) (some d)).map (f d);rw [q];have:ZV kd (numP kd (match lk ps aj with | some x=>x | none=>⟨d.nm,0,0,0⟩)) (numP kd d)=false:=by
    cases I:ZV kd (numP kd (match lk ps aj with | some x=>x | none=>⟨d.nm,0,0,0⟩)) (numP kd d) with
    | false=>rfl
    | true =>
     exfalso;refine J (ZaG kd d.nm (numP kd d)) (List.mem_map.2 ⟨d,List.mem_filter.2 ⟨Zc7 ak,?_⟩,rfl⟩) L;unfold Zbr;rw [V,L];rw [L] at I;exact I
   rw [Option.map_some,Q this]
theorem Zt7 {ba bb:Int} {ps qs:List Pl} (M:Okt ba ps) (hb:Okt bb qs) (b:Int) (q:List Pl) (N:Up q) (D:∀ h,lk q h=s5 (lk ps h) (lk qs h)) :
  RunOk (b,q) (chgL 5 ps qs)∧Up ((chgL 5 ps qs).foldl stepT (b,q)).2∧((chgL 5 ps qs).foldl stepT (b,q)).1=b∧∀ h,lk ((chgL 5 ps qs).foldl stepT (b,q)).2 h=s6 (lk ps h) (lk qs h):=by
 obtain ⟨E,I,J,L⟩:=ZjR M hb 5 (.inl rfl) s5 (fun m p=>⟨p.nm,p.sz,p.wt,m.fr⟩) (fun _ _=>rfl) (fun b Q m=>by simp [stepT,ZaG,numP]) (fun A=>by cases A <;> rfl) (fun A m _ O=>by
  cases A with
  | none =>
   refine ⟨⟨m.nm,0,0,0⟩,rfl,fun d=>⟨fun _=>by simpa [ZV,numP] using d,fun d=>by omega,fun d=>by omega⟩,fun d=>?_⟩;have:m.fr=0:=by simpa [ZV,numP] using d
   simp [this]
  | some p =>
   refine ⟨if m.sz<p.sz then ⟨p.nm,m.sz,p.wt,p.fr⟩ else p,rfl,fun d=>⟨fun _=>?_,fun d=>by omega,fun d=>by omega⟩,fun d=>?_⟩
   ·have:m.fr≠p.fr:=by simpa [ZV,numP] using d
    split <;> exact this
   ·have:m.fr=p.fr:=by simpa [ZV,numP] using d
    split <;> simp [this]) b q N D
 exact ⟨E,I,J,fun h=>by rw [L];cases lk qs h <;> rfl⟩
theorem ZmL (h:Option Pl) (d:Pl):s6 h (some d)=some (match h with | some p=>(if d.sz<p.sz then ⟨p.nm,d.sz,p.wt,d.fr⟩ else ⟨p.nm,p.sz,p.wt,d.fr⟩) | none=>⟨d.nm,0,0,d.fr⟩):=by
 cases h with
 | none=>rfl
 | some p=>simp only [s6,s5,s3,s2];split <;> rfl
theorem Zuj {ba bb:Int} {ps qs:List Pl} (M:Okt ba ps) (hb:Okt bb qs) (b:Int) (m:List Pl) (N:Up m) (D:∀ h,lk m h=s6 (lk ps h) (lk qs h)) :
  RunOk (b,m) (chgL 6 ps qs)∧Up ((chgL 6 ps qs).foldl stepT (b,m)).2∧((chgL 6 ps qs).foldl stepT (b,m)).1=b∧∀ h,lk ((chgL 6 ps qs).foldl stepT (b,m)).2 h=s7 (lk ps h) (lk qs h):=by
 obtain ⟨E,I,J,L⟩:=ZjR M hb 6 (.inr (.inl rfl)) s6 (fun q p=>⟨p.nm,p.sz,q.wt,p.fr⟩) (fun _ _=>rfl) (fun b Q q=>by simp [stepT,ZaG,numP]) (fun A=>rfl) (fun A q _ O=>by
  rw [ZmL];cases A with
  | none =>
   refine ⟨_,rfl,fun d=>⟨fun d=>by omega,fun _=>by simpa [ZV,numP] using d,fun d=>by omega⟩,fun d=>?_⟩;have:q.wt=0:=by simpa [ZV,numP] using d
   simp [this]
  | some p =>
   refine ⟨_,rfl,fun d=>⟨fun d=>by omega,fun _=>?_,fun d=>by omega⟩,fun d=>?_⟩
   ·have:q.wt≠p.wt:=by simpa [ZV,numP] using d
    simp only;split <;> exact this
   ·have:q.wt=p.wt:=by simpa [ZV,numP] using d
    simp only;split <;> simp [this]) b m N D
 exact ⟨E,I,J,fun h=>by rw [L];cases lk qs h <;> rfl⟩
theorem ZrK (h:Option Pl) (d:Pl):s7 h (some d)=some (match h with | some p=>(if d.sz<p.sz then ⟨p.nm,d.sz,d.wt,d.fr⟩ else ⟨p.nm,p.sz,d.wt,d.fr⟩) | none=>⟨d.nm,0,d.wt,d.fr⟩):=by
 unfold s7;simp only [ZmL];cases h with
 | none=>rfl
 | some p=>simp only [Option.map_some];split <;> rfl
theorem Zt6 {ba bb:Int} {ps qs:List Pl} (L:Okt ba ps) (hb:Okt bb qs) (b:Int) (q:List Pl) (O:Up q) (D:∀ m,lk q m=s7 (lk ps m) (lk qs m)) :
  RunOk (b,q) (chgL 8 ps qs)∧Up ((chgL 8 ps qs).foldl stepT (b,q)).2∧((chgL 8 ps qs).foldl stepT (b,q)).1=b∧∀ m,lk ((chgL 8 ps qs).foldl stepT (b,q)).2 m=lk qs m:=by
 obtain ⟨E,U,I,J⟩:=ZjR L hb 8 (.inr (.inr rfl)) s7 (fun h p=>⟨p.nm,h.sz,p.wt,p.fr⟩) (fun _ _=>rfl) (fun b R h=>by simp [stepT,ZaG,numP]) (fun A=>rfl) (fun A h _ Q=>by
  rw [ZrK];cases A with
  | none =>
   refine ⟨_,rfl,fun d=>⟨fun d=>by omega,fun d=>by omega,fun _=>by simpa [ZV,numP] using d⟩,fun d=>?_⟩;have U:h.sz≤0:=by simpa [ZV,numP] using d
   have:h.sz=0:=by have:=Q.s0;omega
   simp [this]
  | some p =>
   refine ⟨_,rfl,fun d=>⟨fun d=>by omega,fun d=>by omega,fun _=>?_⟩,fun d=>?_⟩
   ·have:p.sz<h.sz:=by simpa [ZV,numP] using d
    simp only;split
    ·omega
    ·exact this
   ·have U:h.sz≤p.sz:=by simpa [ZV,numP] using d
    simp only;split
    ·rfl
    ·have:h.sz=p.sz:=by omega
     simp [this]) b q O D
 refine ⟨E,U,I,fun m=>?_⟩;rw [J];cases N:lk qs m with
 | none=>rfl
 | some h=>exact ZrP (fun p M=>(Zdu M).trans (Zdu N).symm)
theorem Zh1 (ba:Int) (ps:List Pl) (bb:Int) (qs:List Pl):diffL ba ps bb qs=chgL 1 ps qs++missL 2 ps qs++budL 3 ba bb++missL 4 qs ps++chgL 5 ps qs++chgL 6 ps qs++budL 7 ba bb++chgL 8 ps qs:=by
 unfold diffL;rw [Zae 7,Zae 6,Zae 5,Zae 4,Zae 3,Zae 2,Zae 1,Zae 0];simp [diffTo,Zbh]
theorem ZtH {ba bb:Int} {d:List Pl} (q:Up d) (m:d.length≤6):RunOk (ba,d) (budL 3 ba bb)∧(budL 3 ba bb).foldl stepT (ba,d)=(if bb<ba then bb else ba,d):=by
 unfold budL;by_cases h:bb<ba
 ·rw [if_pos (by simp [ZV,h]),if_pos h];exact ⟨⟨q,m,.inl ⟨rfl,rfl,h⟩,trivial⟩,by simp [stepT]⟩
 ·rw [if_neg (by simp [ZV];omega),if_neg h];exact ⟨trivial,rfl⟩
theorem ZtX {ba bb:Int} {d:List Pl} (A:Up d) (q:d.length≤6):RunOk (if bb<ba then bb else ba,d) (budL 7 ba bb)∧(budL 7 ba bb).foldl stepT (if bb<ba then bb else ba,d)=(bb,d):=by
 by_cases h:ba<bb
 ·have e:budL 7 ba bb=[⟨7,⟨#[]⟩,bb⟩]:=by rw [budL,if_pos (by simp [ZV,h])]
  rw [e,if_neg (by omega)];exact ⟨⟨A,q,.inr (.inl ⟨rfl,rfl,h⟩),trivial⟩,by simp [stepT]⟩
 ·have e:budL 7 ba bb=[]:=by rw [budL,if_neg (by simp [ZV];omega)]
  rw [e];refine ⟨trivial,?_⟩;by_cases m:bb<ba
  ·rw [if_pos m];rfl
  ·rw [if_neg m,show ba=bb by omega];rfl
theorem seq {t m:Int×List Pl} {d h:List Stp} (q:RunOk t d) (e:d.foldl stepT t=m) (A:RunOk m h):RunOk t (d++h):=RunOk.append q (by rw [e];exact A)
theorem ZgD {t m q:Int×List Pl} {d h:List Stp} (e:d.foldl stepT t=m) (e2:h.foldl stepT m=q):(d++h).foldl stepT t=q:=by rw [List.foldl_append,e,e2]
theorem Zm0 {ba bb:Int} {ps qs:List Pl} (h:Okt ba ps) (hb:Okt bb qs):RunOk (ba,ps) (diffL ba ps bb qs)∧(diffL ba ps bb qs).foldl stepT (ba,ps)=(bb,qs):=by
 rw [Zh1];have a0:=h.b0;have a1:=h.b1;have bl:=hb.b0;have bm:=hb.b1;obtain ⟨be,aq,aw,ak⟩:=Zuk h hb ba;obtain ⟨A,L⟩:∃ A,(chgL 1 ps qs).foldl stepT (ba,ps)=(ba,A):=⟨_,Prod.ext aw rfl⟩;rw [L] at aq ak;obtain ⟨bf,I,e2,Q⟩:=Zt3 (qs:=qs) h ba A aq ak;obtain ⟨bo,ad⟩:∃ bo,(missL 2 ps qs).foldl stepT (ba,A)=(ba,bo):=⟨_,Prod.ext e2 rfl⟩;rw [ad] at I Q;have az:bo.length≤6:=Ym (ZgN hb I (fun m x O N=>by
  have:=Q m;simp only [N,s3] at this;rw [O] at this;simp at this)) hb.len
 obtain ⟨bg,ae⟩:=ZtH (ba:=ba) (bb:=bb) I az;obtain ⟨d,M⟩:∃ d,(if bb<ba then bb else ba)=d:=⟨_,rfl⟩;have V:1≤d∧d≤99:=by rw [←M];split <;> omega
 rw [M] at ae;obtain ⟨bh,ar,e4,al⟩:=Zue h hb d V.1 V.2 bo I Q;obtain ⟨D,af⟩:∃ D,(missL 4 qs ps).foldl stepT (d,bo)=(d,D):=⟨_,Prod.ext e4 rfl⟩;rw [af] at ar al;obtain ⟨bi,au,e5,am⟩:=Zt7 h hb d D ar al;obtain ⟨E,ag⟩:∃ E,(chgL 5 ps qs).foldl stepT (d,D)=(d,E):=⟨_,Prod.ext e5 rfl⟩;rw [ag] at au am;obtain ⟨bj,J,ax,R⟩:=Zuj h hb d E au am;obtain ⟨q,ah⟩:∃ q,(chgL 6 ps qs).foldl stepT (d,E)=(d,q):=⟨_,Prod.ext ax rfl⟩;rw [ah] at J R;have bp:q.length≤6:=Ym (ZgN hb J (fun m x O N=>by
  have:=R m;simp only [N,s7] at this;rw [O] at this;simp at this)) hb.len
 obtain ⟨ap,ai⟩:=ZtX (ba:=ba) (bb:=bb) J bp;rw [M] at ap ai;obtain ⟨bk,av,ay,ao⟩:=Zt6 h hb bb q J R;obtain ⟨U,aj⟩:∃ U,(chgL 8 ps qs).foldl stepT (bb,q)=(bb,U):=⟨_,Prod.ext ay rfl⟩;rw [aj] at av ao;obtain rfl:U=qs:=ZlP av hb.up ao;have bq:=be;have a6:=seq bq L bf;have f2:=ZgD L ad;have a7:=seq a6 f2 bg;have X:=ZgD f2 ae;have a8:=seq a7 X bh;have Y:=ZgD X af;have a9:=seq a8 Y bi;have aa:=ZgD Y ag;have bc:=seq a9 aa bj;have ab:=ZgD aa ah;have bd:=seq bc ab ap;have ac:=ZgD ab ai;exact ⟨seq bd ac bk,ZgD ac aj⟩
end Df
namespace Lw
open Co
theorem ZjV {ps:List Pl} (D:Df.Up ps) {nm:ByteArray} {p:Pl} (A:Df.lk ps nm=some p) {f:Pl→Pl} (h:∀ q,(f q).nm=q.nm):ZH (f p) (ps.filter (ZZ nm))=Df.updT nm f ps:=by
 have E:=Df.Zdu A;have hd:ps.filter (ZZ nm)=Df.dropT nm ps:=rfl;have I:(f p).nm=nm:=(h p).trans E;have J:Df.lk (Df.dropT nm ps) (f p).nm=none:=by rw [Df.ZfS,if_pos I.symm]
 rw [hd];refine Df.ZlP (Df.Zhh _ (Df.ZjD nm D) J) (Df.ZjA h nm D) (fun m=>?_);rw [Df.ZiS _ _ _ J,Df.Zhy h,Df.ZfS,I];by_cases d:nm=m
 ·rw [if_pos d,if_pos d,←d,A];rfl
 ·rw [if_neg d,if_neg d,if_neg d]
theorem Zsw {ps:List Pl} {nm:ByteArray} {p:Pl} (d:Df.lk ps nm=some p):Df.inP ps nm=p:=Df.Zgt d
theorem ZkN {t:Int×List Pl} {s:Stp} (J:Df.Up t.2) (N:Df.goodS t s):Zba s.kind s.name s.n t.1 t.2=Df.stepT t s:=by
 unfold Zba Df.stepT;by_cases q:s.kind=3∨s.kind=7
 ·rw [if_pos q,if_pos q]
 ·rw [if_neg q,if_neg q];by_cases A:s.kind=2
  ·rw [if_pos A,if_pos A];rfl
  ·rw [if_neg A,if_neg A];by_cases D:s.kind=4
   ·rw [if_pos D,if_pos D]
   ·rw [if_neg D,if_neg D];have m:∃ p,Df.lk t.2 s.name=some p∧(s.kind=1∨s.kind=5∨s.kind=6∨s.kind=8):=by
     rcases N with ⟨d,_⟩ | ⟨d,_⟩ | ⟨d,_⟩ | ⟨d,_⟩ | ⟨p,m,d⟩
     ·exact absurd (.inl d) q
     ·exact absurd (.inr d) q
     ·exact absurd d D
     ·exact absurd d A
     ·exact ⟨p,m,by rcases d with ⟨d,_⟩ | ⟨d,_⟩ | ⟨d,_⟩ | ⟨d,_⟩ <;> simp [d]⟩
    obtain ⟨p,m,L⟩:=m;rw [if_pos L];unfold Zbr;rw [Zsw m];by_cases E:s.kind=5
    ·rw [if_pos E];have:ZdW s.kind s.n p=(fun h:Pl=>(⟨h.nm,h.sz,h.wt,s.n⟩:Pl)) p:=by simp [ZdW,E]
     rw [this,ZjV (f:=fun h:Pl=>(⟨h.nm,h.sz,h.wt,s.n⟩:Pl)) J m (fun _=>rfl)]
    ·rw [if_neg E];by_cases I:s.kind=6
     ·rw [if_pos I];have:ZdW s.kind s.n p=(fun h:Pl=>(⟨h.nm,h.sz,s.n,h.fr⟩:Pl)) p:=by simp [ZdW,I]
      rw [this,ZjV (f:=fun h:Pl=>(⟨h.nm,h.sz,s.n,h.fr⟩:Pl)) J m (fun _=>rfl)]
     ·rw [if_neg I];have M:s.kind=1∨s.kind=8:=by
       rcases L with d | d | d | d
       ·exact .inl d
       ·exact absurd d E
       ·exact absurd d I
       ·exact .inr d
      have:ZdW s.kind s.n p=(fun h:Pl=>(⟨h.nm,s.n,h.wt,h.fr⟩:Pl)) p:=by
       rcases M with d | d <;> simp [ZdW,d]
      rw [this,ZjV (f:=fun h:Pl=>(⟨h.nm,s.n,h.wt,h.fr⟩:Pl)) J m (fun _=>rfl)]
structure Thin (S T:Zh):Prop where
 srv:T.srv.Sublist S.srv
 keep:∀ x∈S.srv,x.client≠0→x∈T.srv
 wts:T.wts.Sublist S.wts
 rest:Rest S T
theorem Thin.refl (S:Zh):Thin S S:=⟨List.Sublist.refl _,fun _ d _=>d,List.Sublist.refl _,Rest.refl _⟩
theorem Thin.trans {S T h:Zh} (d:Thin S T) (k:Thin T h):Thin S h:=⟨k.srv.trans d.srv,fun x q m=>k.keep x (d.keep x q m) m,k.wts.trans d.wts,d.rest.trans k.rest⟩
theorem Zeg {α:Type} {p:α→Bool} {l:List α} {s:α} (d:ZQ p l=some s):s∈l∧p s=true:=by
 unfold ZQ at d;have:=List.mem_of_getLast? d;exact List.mem_filter.1 this
theorem Zfk {α:Type} {p:α→Bool} {l:List α} (d:ZQ p l=none):∀ x∈l,p x=false:=by
 unfold ZQ at d;rw [List.getLast?_eq_none_iff,List.filter_eq_nil_iff] at d;exact fun x h=>ZbJ (d x h)
theorem Zkv {S:Zh} {op:Int} (m:Inv S op) {s:Srv} (q:s∈S.srv) (h:s.client=0):Thin S (ZR S s.id):=
 ⟨List.filter_sublist,fun x d A=>List.mem_filter.2 ⟨d,by
  simp only [Bool.not_eq_true',decide_eq_false_iff_not];exact fun e=>A (by rw [ZoC m d q e];exact h)⟩,List.Sublist.refl _,⟨rfl,rfl,rfl,rfl,rfl⟩⟩
theorem Zgr {S T:Zh} {op:Int} (d:Inv S op) (h:Thin S T):Inv T op:=⟨d.ids.sublist h.srv,fun x m=>d.low x (h.srv.subset m),d.op0,d.cli.sublist h.wts⟩
theorem ZpW {S:Zh} {s:Srv} (m:s∈S.srv) {p:Srv→Bool} (h:p s=true):Zs p (ZR S s.id).srv+1≤Zs p S.srv:=by
 unfold Zs ZR;simp only;rw [List.filter_filter];have d:(S.srv.filter p).filter (fun x=>!decide (x.id=s.id))=S.srv.filter (fun x=>p x&&!decide (x.id=s.id)):=by
  rw [List.filter_filter];exact List.filter_congr (fun x _=>Bool.and_comm _ _)
 rw [←d];have q:((S.srv.filter p).filter (fun x=>!decide (x.id=s.id))).length<(S.srv.filter p).length:=by
  rw [List.length_filter_lt_length_iff_exists];exact ⟨s,List.mem_filter.2 ⟨m,h⟩,by simp⟩
 omega
theorem Zho (nm:ByteArray) (n:Int) (op:Int):∀ (f:Nat) (S:Zh),Inv S op→(Zs (Zj nm) S.srv:Int) - n≤f→Thin S (ZaV nm f S)∧((Zs (Zj nm) (ZaV nm f S).srv:Int)≤n∨∀ x∈(ZaV nm f S).srv,Zj nm x=true→x.client≠0)
 | 0,S,m,h=>⟨Thin.refl _,.inl (by show (Zs (Zj nm) S.srv:Int)≤n;simp at h;omega)⟩
 | f+1,S,m,h=>by
  rw [ZaV];cases q:ZQ (fun s=>Zj nm s&&Zp 0 s) S.srv with
  | none =>
   refine ⟨Thin.refl _,.inr fun x E d M=>?_⟩;have:=Zfk q x E;simp only [d,Bool.true_and] at this;unfold Zp at this;rw [M] at this;simp at this
  | some s =>
   obtain ⟨A,d⟩:=Zeg q;simp only [Bool.and_eq_true] at d;have M:s.client=0:=eq_of_beq d.2;have D:=Zkv m A M;have L:=ZpW A d.1;obtain ⟨I,J⟩:=Zho nm n op f (ZR S s.id) (Zgr m D) (by omega);exact ⟨D.trans I,J⟩
theorem ZkW (n:Int) (op:Int):∀ (f:Nat) (S:Zh),Inv S op→(S.srv.length:Int) - n≤f→Thin S (Zbg f S)∧(((Zbg f S).srv.length:Int)≤n∨∀ x∈(Zbg f S).srv,x.client≠0)
 | 0,S,M,h=>⟨Thin.refl _,.inl (by show (S.srv.length:Int)≤n;simp at h;omega)⟩
 | f+1,S,M,h=>by
  rw [Zbg];cases m:ZQ (Zp 0) S.srv with
  | none =>
   refine ⟨Thin.refl _,.inr fun x E d=>?_⟩;have:=Zfk m x E;unfold Zp at this;rw [d] at this;simp at this
  | some s =>
   obtain ⟨q,D⟩:=Zeg m;have d:s.client=0:=eq_of_beq D;have A:=Zkv M q d;have L:(ZR S s.id).srv.length<S.srv.length:=by
    unfold ZR;simp only;rw [List.length_filter_lt_length_iff_exists];exact ⟨s,q,by simp⟩
   obtain ⟨I,J⟩:=ZkW n op f (ZR S s.id) (Zgr M A) (by omega);exact ⟨A.trans I,J⟩
theorem ZoP (S:Zh) (c:Int):Thin S (ZO S c):=⟨List.Sublist.refl _,fun _ d _=>d,List.filter_sublist,⟨rfl,rfl,rfl,rfl,rfl⟩⟩
theorem Zfx (nm:ByteArray) (n:Int) (A:0≤n):∀ (f:Nat) (S:Zh),(Zs (Zq nm) S.wts:Int) - n≤f→Thin S (ZaB nm f S)∧(ZaB nm f S).srv=S.srv∧(Zs (Zq nm) (ZaB nm f S).wts:Int)≤n
 | 0,S,h=>⟨Thin.refl _,rfl,by show (Zs (Zq nm) S.wts:Int)≤n;simp at h;omega⟩
 | f+1,S,h=>by
  rw [ZaB];have I:=ZoP S (orW (ZQ (Zq nm) S.wts)).client;have q:(Zs (Zq nm) (ZO S (orW (ZQ (Zq nm) S.wts)).client).wts:Int) - n≤f:=by
   cases m:ZQ (Zq nm) S.wts with
   | none =>
    have O:Zs (Zq nm) S.wts=0:=by
     unfold Zs;rw [List.filter_eq_nil_iff.2 (fun x J=>by rw [Zfk m x J];simp)];rfl
    have d:Zs (Zq nm) (ZO S (orW (none:Option Wtr)).client).wts≤Zs (Zq nm) S.wts:=Ziy List.filter_sublist;omega
   | some s =>
    obtain ⟨E,D⟩:=Zeg m;have d:Zs (Zq nm) (ZO S s.client).wts+1≤Zs (Zq nm) S.wts:=by
     unfold Zs ZO;simp only;rw [List.filter_filter];have d:(S.wts.filter (Zq nm)).filter (fun x=>!decide (x.client=s.client))=S.wts.filter (fun x=>Zq nm x&&!decide (x.client=s.client)):=by
      rw [List.filter_filter];exact List.filter_congr (fun x _=>Bool.and_comm _ _)
     rw [←d];have Q:((S.wts.filter (Zq nm)).filter (fun x=>!decide (x.client=s.client))).length<(S.wts.filter (Zq nm)).length:=by
      rw [List.length_filter_lt_length_iff_exists];exact ⟨s,List.mem_filter.2 ⟨E,D⟩,by simp⟩
     omega
    show (Zs (Zq nm) (ZO S s.client).wts:Int) - n≤f;omega
  obtain ⟨L,M,N⟩:=Zfx nm n A f (ZO S (orW (ZQ (Zq nm) S.wts)).client) q;exact ⟨I.trans L,M,N⟩
theorem ZoX (S:Zh) (nm:ByteArray) (d:Int):Thin S (Ze6 S nm d)∧∀ x∈(Ze6 S nm d).srv,x.client=0→Zj nm x=true→x.far=d:=by
 refine ⟨⟨List.filter_sublist,fun x q h=>List.mem_filter.2 ⟨q,?_⟩,List.Sublist.refl _,⟨rfl,rfl,rfl,rfl,rfl⟩⟩,fun x q h A=>?_⟩
 ·unfold Za5;have:Zp 0 x=false:=ZbJ (fun e=>h (eq_of_beq e));simp [Zp] at this;simp [this]
 ·have m:=(List.mem_filter.1 q).2;unfold Za5 Zcg at m;rw [A,h] at m;simpa using m
end Lw
end Go.Proofs.YtmgkcbdlfodjmaaGreatDoor
