import Derived.Test.YtcpikklofilkcaaGreatNqAn
import Derived.Test.YtcpikklofilkcaaGreatNqAd
set_option maxRecDepth 100000
set_option maxHeartbeats 16000000
namespace Go.Proofs.YtcpikklofilkcaaGreat
open Go.RowKit
namespace Df
open Co Lw
def stepT (t:Int×List Pl) (s:Stp):Int×List Pl:=
 if s.kind=3∨s.kind=7 then (s.n,t.2)
 else if s.kind=2 then (t.1,dropT s.name t.2)
 else if s.kind=4 then (t.1,insP ⟨s.name,0,0,0⟩ t.2)
 else if s.kind=5 then (t.1,updT s.name (fun p=>⟨p.nm,p.sz,p.wt,s.n⟩) t.2)
 else if s.kind=6 then (t.1,updT s.name (fun p=>⟨p.nm,p.sz,s.n,p.fr⟩) t.2)
 else (t.1,updT s.name (fun p=>⟨p.nm,s.n,p.wt,p.fr⟩) t.2)
def goodS (t:Int×List Pl) (s:Stp):Prop:=
 (s.kind=3∧s.name=⟨#[]⟩∧s.n<t.1)∨(s.kind=7∧s.name=⟨#[]⟩∧t.1<s.n) ∨
 (s.kind=4∧s.n=0∧lk t.2 s.name=none∧GoodT (t.2++[⟨s.name,0,0,0⟩])∧1≤t.1∧t.1≤99) ∨
 (s.kind=2∧s.n=0∧∃ p,lk t.2 s.name=some p) ∨
 (∃ p,lk t.2 s.name=some p∧((s.kind=1∧s.n<p.sz)∨(s.kind=5∧s.n≠p.fr)∨(s.kind=6∧s.n≠p.wt)∨(s.kind=8∧p.sz<s.n)))
def RunOk:(Int×List Pl)→List Stp→Prop
 | _,[]=>True
 | t,s :: r=>Up t.2∧t.2.length≤6∧goodS t s∧RunOk (stepT t s) r
theorem RunOk.append:∀ {l1 l2:List Stp} {t:Int×List Pl},RunOk t l1→RunOk (l1.foldl stepT t) l2→RunOk t (l1++l2)
 | [],_,_,_,h=>h
 | _ :: _,_,_,h1,h2=>⟨h1.1,h1.2.1,h1.2.2.1,RunOk.append h1.2.2.2 h2⟩
theorem RunOk.at:∀ {l:List Stp} {t:Int×List Pl} {i:Nat} {s:Stp},RunOk t l→l[i]?=some s→Up ((l.take i).foldl stepT t).2∧((l.take i).foldl stepT t).2.length≤6∧goodS ((l.take i).foldl stepT t) s
 | [],_,i,_,_,h=>by simp at h
 | s0 :: r,t,0,s,h,hs=>by
  obtain rfl:s0=s:=by simpa using hs
  exact ⟨h.1,h.2.1,h.2.2.1⟩
 | s0 :: r,t,i+1,s,h,hs=>by
  have:=RunOk.at h.2.2.2 (i:=i) (s:=s) (by simpa using hs);simpa using this
theorem ZaP (pre post:ByteArray→Option Pl) (b:Int)
  (H0:∀ ts,Up ts→(∀ m,lk ts m=pre m∨lk ts m=post m)→ts.length≤6) :
  ∀ (steps:List Stp),steps.Pairwise (fun x y=>x.name≠y.name) →
  (∀ s∈steps,∀ ts,Up ts→(∀ m,lk ts m=pre m∨lk ts m=post m)→lk ts s.name=pre s.name→goodS (b,ts) s∧Up (stepT (b,ts) s).2∧(stepT (b,ts) s).1=b∧∀ m,lk (stepT (b,ts) s).2 m=if s.name=m then post m else lk ts m) →
  ∀ ts,Up ts→(∀ s∈steps,lk ts s.name=pre s.name)→(∀ m,lk ts m=pre m∨lk ts m=post m)→(∀ m,(∀ s∈steps,s.name≠m)→lk ts m=post m) →
  RunOk (b,ts) steps∧Up (steps.foldl stepT (b,ts)).2∧(steps.foldl stepT (b,ts)).1=b∧∀ m,lk (steps.foldl stepT (b,ts)).2 m=post m
 | [],_,_,ts,hu,_,_,h3=>⟨trivial,hu,rfl,fun m=>h3 m (by simp)⟩
 | s :: r,hd,H1,ts,hu,h1,h2,h3=>by
  obtain ⟨d1,d2⟩:=List.pairwise_cons.1 hd;obtain ⟨g,u,hb,e⟩:=H1 s (by simp) ts hu h2 (h1 s (by simp));obtain ⟨ts',hts⟩:∃ ts',stepT (b,ts) s=(b,ts'):=⟨(stepT (b,ts) s).2,Prod.ext hb rfl⟩;rw [hts] at u e;have ih:=ZaP pre post b H0 r d2 (fun s' hs'=>H1 s' (by simp [hs'])) ts' u
   (fun s' hs'=>by rw [e,if_neg (d1 s' hs')];exact h1 s' (by simp [hs']))
   (fun m=>by
    rw [e];split
    ·exact .inr rfl
    ·exact h2 m)
   (fun m hm=>by
    rw [e];split
    ·rfl
    ·rename_i hne
     exact h3 m (fun s' hs'=>by
      rcases List.mem_cons.1 hs' with rfl | hs'
      ·exact hne
      ·exact hm s' hs'))
  refine ⟨⟨hu,H0 ts hu h2,g,?_⟩,?_⟩
  ·rw [hts];exact ih.1
  ·rw [List.foldl_cons,hts];exact ih.2
def s2 (A B:Option Pl):Option Pl:=match A,B with
 | some p,some q=>some (if q.sz<p.sz then ⟨p.nm,q.sz,p.wt,p.fr⟩ else p)
 | A,_=>A
def s3 (A B:Option Pl):Option Pl:=match B with
 | none=>none
 | some _=>s2 A B
def s5 (A B:Option Pl):Option Pl:=match A,B with
 | none,some q=>some ⟨q.nm,0,0,0⟩
 | A,B=>s3 A B
def s6 (A B:Option Pl):Option Pl:=match B with
 | none=>none
 | some q=>(s5 A B).map (fun p=>⟨p.nm,p.sz,p.wt,q.fr⟩)
def s7 (A B:Option Pl):Option Pl:=match B with
 | none=>none
 | some q=>(s6 A B).map (fun p=>⟨p.nm,p.sz,q.wt,p.fr⟩)
theorem ZjG {A:Option Pl} {q:Pl} (hA:∀ p,A=some p→p.nm=q.nm):(s7 A (some q)).map (fun p=>(⟨p.nm,q.sz,p.wt,p.fr⟩:Pl))=some q:=by
 cases A with
 | none=>simp [s7,s6,s5]
 | some p =>
  have:=hA p rfl;obtain ⟨qn,_,_,_⟩:=q;simp only at this;simp only [s7,s6,s5,s3,s2];split <;> simp [this]
theorem ZfT {ps:List Pl} {nm:ByteArray} (h:lk ps nm=none):inP ps nm=⟨nm,0,0,0⟩:=by
 have h':ps.find? (isNameP nm)=none:=h;rw [inP,h']
theorem ZbM {ps:List Pl} {nm:ByteArray} {p:Pl} (h:lk ps nm=some p):inP ps nm=p:=by
 have h':ps.find? (isNameP nm)=some p:=h;rw [inP,h']
theorem ZcL {qs:List Pl} {p:Pl}:hasP qs p=true↔lk qs p.nm≠none:=by
 unfold hasP;rw [Ne,Z8,List.any_eq_true];constructor
 ·rintro ⟨x,hx,he⟩ h;exact h x hx (ZU.1 he)
 ·intro h;refine Classical.byContradiction fun hn=>h (fun x hx e=>hn ⟨x,hx,ZU.2 e⟩)
theorem Zbw {f:Pl→Stp} (hf:∀ p,(f p).name=p.nm) (c:Pl→Bool) {l:List Pl} (h:Up l):((l.filter c).map f).Pairwise (fun x y=>x.name≠y.name):=by
 rw [List.pairwise_map];refine List.Pairwise.imp ?_ (List.Pairwise.filter _ h);intro a b hab;rw [hf,hf];exact Zbn hab
theorem Zh7 {ba:Int} {ps:List Pl} (ha:Okt ba ps) {ts:List Pl} (hu:Up ts) (h:∀ m x,lk ts m=some x→lk ps m≠none):ts.length≤6:=by
 refine Nat.le_trans (Zdp hu ha.up (fun x hx=>?_)) ha.len;have:=h x.nm x (ZZ hu hx);cases hp:lk ps x.nm with
 | none=>exact absurd hp this
 | some p=>exact ⟨p,Zah hp,Zap hp⟩
theorem Zcm {bb:Int} {qs:List Pl} (hb:Okt bb qs) {ts:List Pl} (hu:Up ts) (h:∀ m x,lk ts m=some x→lk qs m≠none):ts.length≤qs.length:=by
 refine Zdp hu hb.up (fun x hx=>?_);have:=h x.nm x (ZZ hu hx);cases hp:lk qs x.nm with
 | none=>exact absurd hp this
 | some p=>exact ⟨p,Zah hp,Zap hp⟩
theorem run1 {ba bb:Int} {ps qs:List Pl} (ha:Okt ba ps) (hb:Okt bb qs) (b:Int):RunOk (b,ps) (chgL 1 ps qs)∧Up ((chgL 1 ps qs).foldl stepT (b,ps)).2∧((chgL 1 ps qs).foldl stepT (b,ps)).1=b∧∀ m,lk ((chgL 1 ps qs).foldl stepT (b,ps)).2 m=s2 (lk ps m) (lk qs m):=by
 have key:∀ q∈qs,chgP 1 ps q=true→∃ p,lk ps q.nm=some p∧q.sz<p.sz:=by
  intro q hq hc;have hc':q.sz<(inP ps q.nm).sz:=by simpa [chgP,leadsB,numP] using hc
  cases hp:lk ps q.nm with
  | none =>
   rw [ZfT hp] at hc';have:=(hb.ok q hq).s0;simp only at hc';omega
  | some p=>rw [ZbM hp] at hc';exact ⟨p,rfl,hc'⟩
 refine ZaP (lk ps) (fun m=>s2 (lk ps m) (lk qs m)) b ?_ (chgL 1 ps qs) (Zbw (fun _=>rfl) _ hb.up) ?_ ps ha.up (fun _ _=>rfl) (fun _=>.inl rfl) ?_
 ·intro ts hu h;refine Zh7 ha hu (fun m x hx hn=>?_);rcases h m with h | h
  ·rw [hx,hn] at h;simp at h
  ·rw [hx,hn] at h;simp [s2] at h
 ·intro s hs ts hu _ hl;obtain ⟨q,hq,rfl⟩:=List.mem_map.1 hs;obtain ⟨hq,hc⟩:=List.mem_filter.1 hq;obtain ⟨p,hp,hlt⟩:=key q hq hc;have hqq:=ZZ hb.up hq;have hl':lk ts q.nm=lk ps q.nm:=hl;have hN:numP 1 q=q.sz:=by simp [numP]
  have hst:stepT (b,ts) (stepP 1 q.nm (numP 1 q))=(b,updT q.nm (fun p=>⟨p.nm,q.sz,p.wt,p.fr⟩) ts):=by rw [hN];simp [stepT,stepP]
  rw [hst];refine ⟨.inr (.inr (.inr (.inr ⟨p,by show lk ts q.nm=some p;rw [hl',hp],.inl ⟨rfl,by show numP 1 q<p.sz;rw [hN];exact hlt⟩⟩))),Zdv (f:=fun p=>⟨p.nm,q.sz,p.wt,p.fr⟩) (fun _=>rfl) _ hu,rfl,fun m=>?_⟩;show lk (updT q.nm _ ts) m=if q.nm=m then _ else _
  rw [ZcF (f:=fun p=>⟨p.nm,q.sz,p.wt,p.fr⟩) (fun _=>rfl)];by_cases hm:q.nm=m
  ·subst hm;rw [if_pos rfl,if_pos rfl,hl',hp,hqq];simp [s2,hlt]
  ·rw [if_neg hm,if_neg hm]
 ·intro m hm;cases hp:lk ps m with
  | none=>simp [s2]
  | some p =>
   cases hq:lk qs m with
   | none=>simp [s2]
   | some q =>
    have hqn:=Zap hq;have:¬q.sz<p.sz:=by
     intro hlt;refine hm (stepP 1 q.nm (numP 1 q)) (List.mem_map.2 ⟨q,List.mem_filter.2 ⟨Zah hq,?_⟩,rfl⟩) hqn;have hp':lk ps q.nm=some p:=by rw [hqn];exact hp
     simp [chgP,leadsB,numP,ZbM hp',hlt]
    simp [s2,this]
theorem run2 {ba:Int} {ps qs:List Pl} (ha:Okt ba ps) (b:Int) (ts0:List Pl) (hu0:Up ts0) (h0:∀ m,lk ts0 m=s2 (lk ps m) (lk qs m)):RunOk (b,ts0) (missL 2 ps qs)∧Up ((missL 2 ps qs).foldl stepT (b,ts0)).2∧((missL 2 ps qs).foldl stepT (b,ts0)).1=b∧∀ m,lk ((missL 2 ps qs).foldl stepT (b,ts0)).2 m=s3 (lk ps m) (lk qs m):=by
 refine ZaP (fun m=>s2 (lk ps m) (lk qs m)) (fun m=>s3 (lk ps m) (lk qs m)) b ?_ (missL 2 ps qs) (Zbw (fun _=>rfl) _ ha.up) ?_ ts0 hu0 (fun s _=>h0 _) (fun m=>.inl (h0 m)) ?_
 ·intro ts hu h;refine Zh7 ha hu (fun m x hx hn=>?_);rcases h m with h | h
  ·rw [hx,hn] at h;simp [s2] at h
  ·rw [hx,hn] at h;cases hq:lk qs m <;> simp [s3,s2,hq] at h
 ·intro s hs ts hu _ hl;obtain ⟨p,hp,rfl⟩:=List.mem_map.1 hs;obtain ⟨hp,hc⟩:=List.mem_filter.1 hp;have hpp:=ZZ ha.up hp;have hqn:lk qs p.nm=none:=by
   refine Classical.byContradiction fun hn=>?_
   rw [ZcL.2 hn] at hc;simp at hc
  have hl':lk ts p.nm=some p:=by
   have:lk ts p.nm=s2 (lk ps p.nm) (lk qs p.nm):=hl;rw [this,hpp,hqn];rfl
  have hst:stepT (b,ts) (stepP 2 p.nm 0)=(b,dropT p.nm ts):=by simp [stepT,stepP]
  rw [hst];refine ⟨.inr (.inr (.inr (.inl ⟨rfl,rfl,p,hl'⟩))),Zd5 _ hu,rfl,fun m=>?_⟩;show lk (dropT p.nm ts) m=if p.nm=m then _ else _
  rw [ZbC];by_cases hm:p.nm=m
  ·subst hm;rw [if_pos rfl,if_pos rfl,hqn];rfl
  ·rw [if_neg hm,if_neg hm]
 ·intro m hm;rw [h0];cases hq:lk qs m with
  | some q=>rfl
  | none =>
   cases hp:lk ps m with
   | none=>rfl
   | some p =>
    have hpn:=Zap hp;exfalso;refine hm (stepP 2 p.nm 0) (List.mem_map.2 ⟨p,List.mem_filter.2 ⟨Zah hp,?_⟩,rfl⟩) hpn;cases h:hasP qs p with
    | false=>rfl
    | true=>exact absurd (by rw [hpn];exact hq) (ZcL.1 h)
theorem Zkw {ba bb:Int} {ps qs:List Pl} (ha:Okt ba ps) (hb:Okt bb qs) {m:ByteArray} {x:Pl} (h:s3 (lk ps m) (lk qs m)=some x∨s5 (lk ps m) (lk qs m)=some x):Okp x∧lk qs m≠none:=by
 cases hq:lk qs m with
 | none =>
  rw [hq] at h;cases hp:lk ps m <;> simp [s5,s3,hp] at h
 | some q =>
  refine ⟨?_,by simp⟩;have oq:=hb.ok q (Zah hq);rw [hq] at h;cases hp:lk ps m with
  | none =>
   rw [hp] at h;rcases h with h | h
   ·simp [s3,s2] at h
   ·simp [s5] at h;subst h;exact ⟨oq.nm,by simp,by simp,by simp,by simp,by simp,by simp⟩
  | some p =>
   have op:=ha.ok p (Zah hp);rw [hp] at h;have h':(if q.sz<p.sz then (⟨p.nm,q.sz,p.wt,p.fr⟩:Pl) else p)=x:=by
    rcases h with h | h
    ·simpa [s3,s2] using h
    ·simpa [s5,s3,s2] using h
   rw [←h'];split
   ·exact ⟨op.nm,oq.s0,oq.s1,op.w0,op.w1,op.f0,op.f1⟩
   ·exact op
theorem run4 {ba bb:Int} {ps qs:List Pl} (ha:Okt ba ps) (hb:Okt bb qs) (b:Int) (hb1:1≤b) (hb2:b≤99) (ts0:List Pl) (hu0:Up ts0) (h0:∀ m,lk ts0 m=s3 (lk ps m) (lk qs m)):RunOk (b,ts0) (missL 4 qs ps)∧Up ((missL 4 qs ps).foldl stepT (b,ts0)).2∧((missL 4 qs ps).foldl stepT (b,ts0)).1=b∧∀ m,lk ((missL 4 qs ps).foldl stepT (b,ts0)).2 m=s5 (lk ps m) (lk qs m):=by
 have hin:∀ ts,(∀ m,lk ts m=s3 (lk ps m) (lk qs m)∨lk ts m=s5 (lk ps m) (lk qs m))→∀ m x,lk ts m=some x→Okp x∧lk qs m≠none:=by
  intro ts h m x hx;refine Zkw ha hb ?_;rcases h m with h | h
  ·exact .inl (h.symm.trans hx)
  ·exact .inr (h.symm.trans hx)
 refine ZaP (fun m=>s3 (lk ps m) (lk qs m)) (fun m=>s5 (lk ps m) (lk qs m)) b ?_ (missL 4 qs ps) (Zbw (fun _=>rfl) _ hb.up) ?_ ts0 hu0 (fun s _=>h0 _) (fun m=>.inl (h0 m)) ?_
 ·intro ts hu h;exact Nat.le_trans (Zcm hb hu (fun m x hx=>(hin ts h m x hx).2)) hb.len
 ·intro s hs ts hu h hl;obtain ⟨q,hq,rfl⟩:=List.mem_map.1 hs;obtain ⟨hq,hc⟩:=List.mem_filter.1 hq;have hqq:=ZZ hb.up hq;have hpn:lk ps q.nm=none:=by
   refine Classical.byContradiction fun hn=>?_
   rw [ZcL.2 hn] at hc;simp at hc
  have hl':lk ts q.nm=none:=by
   have:lk ts q.nm=s3 (lk ps q.nm) (lk qs q.nm):=hl;rw [this,hqq,hpn];rfl
  have hst:stepT (b,ts) (stepP 4 q.nm 0)=(b,insP ⟨q.nm,0,0,0⟩ ts):=by simp [stepT,stepP]
  have hlk:∀ m,lk (insP ⟨q.nm,0,0,0⟩ ts) m=if q.nm=m then some ⟨q.nm,0,0,0⟩ else lk ts m:=fun m=>Zdo ⟨q.nm,0,0,0⟩ m ts hl'
  have hui:Up (insP ⟨q.nm,0,0,0⟩ ts):=ZcG ⟨q.nm,0,0,0⟩ hu hl';have oq:=hb.ok q hq;rw [hst];refine ⟨.inr (.inr (.inl ⟨rfl,rfl,hl',⟨?_,?_,?_⟩,hb1,hb2⟩)),hui,rfl,fun m=>?_⟩
  ·intro x hx;rcases List.mem_append.1 hx with hx | hx
   ·exact (hin ts h x.nm x (ZZ hu hx)).1
   ·simp at hx;subst hx;exact ⟨oq.nm,by simp,by simp,by simp,by simp,by simp,by simp⟩
  ·rw [List.pairwise_append];refine ⟨List.Pairwise.imp (fun h=>Zbn h) hu,by simp,fun x hx y hy=>?_⟩;simp at hy;subst hy;exact Z8.1 hl' x hx
  ·have h1:=Zcm hb hui (fun m x hx=>by
    rw [hlk] at hx;by_cases hm:q.nm=m
    ·rw [←hm,hqq];simp
    ·rw [if_neg hm] at hx;exact (hin ts h m x hx).2)
   rw [ZX] at h1;have:=hb.len;simp only [List.length_append,List.length_cons,List.length_nil];omega
  ·show lk (insP ⟨q.nm,0,0,0⟩ ts) m=if q.nm=m then _ else _
   rw [hlk];by_cases hm:q.nm=m
   ·subst hm;rw [if_pos rfl,if_pos rfl,hqq,hpn];rfl
   ·rw [if_neg hm,if_neg hm]
 ·intro m hm;rw [h0];cases hq:lk qs m with
  | none=>cases hp:lk ps m <;> rfl
  | some q =>
   cases hp:lk ps m with
   | some p=>rfl
   | none =>
    have hqn:=Zap hq;exfalso;refine hm (stepP 4 q.nm 0) (List.mem_map.2 ⟨q,List.mem_filter.2 ⟨Zah hq,?_⟩,rfl⟩) hqn;cases h:hasP ps q with
    | false=>rfl
    | true=>exact absurd (by rw [hqn];exact hp) (ZcL.1 h)
theorem Zee {ba bb:Int} {ps qs:List Pl} (_ha:Okt ba ps) (hb:Okt bb qs) (kd:Int) (hkd:kd=5∨kd=6∨kd=8) (pre:Option Pl→Option Pl→Option Pl) (f:Pl→Pl→Pl) (hf:∀ q p,(f q p).nm=p.nm)
  (hst:∀ b ts q,stepT (b,ts) (stepP kd q.nm (numP kd q))=(b,updT q.nm (f q) ts))
  (hnone:∀ A,pre A none=none)
  (hsome:∀ A q,(∀ p,A=some p→p.nm=q.nm)→Okp q→∃ p,pre A (some q)=some p ∧
   (leadsB kd (numP kd (match A with | some x=>x | none=>⟨q.nm,0,0,0⟩)) (numP kd q)=true→(kd=5→q.fr≠p.fr)∧(kd=6→q.wt≠p.wt)∧(kd=8→p.sz<q.sz)) ∧
   (leadsB kd (numP kd (match A with | some x=>x | none=>⟨q.nm,0,0,0⟩)) (numP kd q)=false→f q p=p))
  (b:Int) (ts0:List Pl) (hu0:Up ts0) (h0:∀ m,lk ts0 m=pre (lk ps m) (lk qs m)) :
  RunOk (b,ts0) (chgL kd ps qs)∧Up ((chgL kd ps qs).foldl stepT (b,ts0)).2∧((chgL kd ps qs).foldl stepT (b,ts0)).1=b∧∀ m,lk ((chgL kd ps qs).foldl stepT (b,ts0)).2 m=(match lk qs m with | some q=>(pre (lk ps m) (lk qs m)).map (f q) | none=>none):=by
 have hin:∀ q,inP ps q=(match lk ps q with | some x=>x | none=>⟨q,0,0,0⟩):=by
  intro q;cases h:lk ps q with
  | none=>exact ZfT h
  | some p=>exact ZbM h
 refine ZaP (fun m=>pre (lk ps m) (lk qs m)) (fun m=>match lk qs m with | some q=>(pre (lk ps m) (lk qs m)).map (f q) | none=>none) b ?_ (chgL kd ps qs) (Zbw (fun _=>rfl) _ hb.up) ?_ ts0 hu0 (fun s _=>h0 _) (fun m=>.inl (h0 m)) ?_
 ·intro ts hu h;refine Nat.le_trans (Zcm hb hu (fun m x hx hn=>?_)) hb.len;have hh:=h m;simp only [hn,hnone] at hh;rw [hx] at hh;simp at hh
 ·intro s hs ts hu _ hl;obtain ⟨q,hq,rfl⟩:=List.mem_map.1 hs;obtain ⟨hq,hc⟩:=List.mem_filter.1 hq;have hqq:=ZZ hb.up hq;obtain ⟨p,hp,hg,_⟩:=hsome (lk ps q.nm) q (fun p hp=>Zap hp) (hb.ok q hq);have hl':lk ts q.nm=some p:=by
   have:lk ts q.nm=pre (lk ps q.nm) (lk qs q.nm):=hl;rw [this,hqq,hp]
  have hgg:=hg (by unfold chgP at hc;rw [hin] at hc;exact hc);rw [hst];refine ⟨.inr (.inr (.inr (.inr ⟨p,hl',?_⟩))),Zdv (hf q) _ hu,rfl,fun m=>?_⟩
  ·rcases hkd with rfl | rfl | rfl
   ·exact .inr (.inl ⟨rfl,by show numP 5 q≠p.fr;simpa [numP] using hgg.1 rfl⟩)
   ·exact .inr (.inr (.inl ⟨rfl,by show numP 6 q≠p.wt;simpa [numP] using hgg.2.1 rfl⟩))
   ·exact .inr (.inr (.inr ⟨rfl,by show p.sz<numP 8 q;simpa [numP] using hgg.2.2 rfl⟩))
  ·show lk (updT q.nm (f q) ts) m=if q.nm=m then _ else _
   rw [ZcF (hf q)];by_cases hm:q.nm=m
   ·subst hm;rw [if_pos rfl,if_pos rfl,hl'];simp only [hqq,hp]
   ·rw [if_neg hm,if_neg hm]
 ·intro m hm;rw [h0];cases hq:lk qs m with
  | none=>exact hnone _
  | some q =>
   have hqn:=Zap hq;obtain ⟨p,hp,_,hn⟩:=hsome (lk ps m) q (fun p hp=>(Zap hp).trans hqn.symm) (hb.ok q (Zah hq));show pre (lk ps m) (some q)=(pre (lk ps m) (some q)).map (f q);rw [hp];have:leadsB kd (numP kd (match lk ps m with | some x=>x | none=>⟨q.nm,0,0,0⟩)) (numP kd q)=false:=by
    cases hc:leadsB kd (numP kd (match lk ps m with | some x=>x | none=>⟨q.nm,0,0,0⟩)) (numP kd q) with
    | false=>rfl
    | true =>
     exfalso;refine hm (stepP kd q.nm (numP kd q)) (List.mem_map.2 ⟨q,List.mem_filter.2 ⟨Zah hq,?_⟩,rfl⟩) hqn;unfold chgP;rw [hin,hqn];rw [hqn] at hc;exact hc
   rw [Option.map_some,hn this]
theorem run5 {ba bb:Int} {ps qs:List Pl} (ha:Okt ba ps) (hb:Okt bb qs) (b:Int) (ts0:List Pl) (hu0:Up ts0) (h0:∀ m,lk ts0 m=s5 (lk ps m) (lk qs m)) :
  RunOk (b,ts0) (chgL 5 ps qs)∧Up ((chgL 5 ps qs).foldl stepT (b,ts0)).2∧((chgL 5 ps qs).foldl stepT (b,ts0)).1=b∧∀ m,lk ((chgL 5 ps qs).foldl stepT (b,ts0)).2 m=s6 (lk ps m) (lk qs m):=by
 obtain ⟨h1,h2,h3,h4⟩:=Zee ha hb 5 (.inl rfl) s5 (fun q p=>⟨p.nm,p.sz,p.wt,q.fr⟩) (fun _ _=>rfl) (fun b ts q=>by simp [stepT,stepP,numP]) (fun A=>by cases A <;> rfl) (fun A q _ oq=>by
  cases A with
  | none =>
   refine ⟨⟨q.nm,0,0,0⟩,rfl,fun h=>⟨fun _=>by simpa [leadsB,numP] using h,fun h=>by omega,fun h=>by omega⟩,fun h=>?_⟩;have:q.fr=0:=by simpa [leadsB,numP] using h
   simp [this]
  | some p =>
   refine ⟨if q.sz<p.sz then ⟨p.nm,q.sz,p.wt,p.fr⟩ else p,rfl,fun h=>⟨fun _=>?_,fun h=>by omega,fun h=>by omega⟩,fun h=>?_⟩
   ·have:q.fr≠p.fr:=by simpa [leadsB,numP] using h
    split <;> exact this
   ·have:q.fr=p.fr:=by simpa [leadsB,numP] using h
    split <;> simp [this]) b ts0 hu0 h0
 exact ⟨h1,h2,h3,fun m=>by rw [h4];cases lk qs m <;> rfl⟩
theorem ZgL (A:Option Pl) (q:Pl):s6 A (some q)=some (match A with | some p=>(if q.sz<p.sz then ⟨p.nm,q.sz,p.wt,q.fr⟩ else ⟨p.nm,p.sz,p.wt,q.fr⟩) | none=>⟨q.nm,0,0,q.fr⟩):=by
 cases A with
 | none=>rfl
 | some p=>simp only [s6,s5,s3,s2];split <;> rfl
theorem run6 {ba bb:Int} {ps qs:List Pl} (ha:Okt ba ps) (hb:Okt bb qs) (b:Int) (ts0:List Pl) (hu0:Up ts0) (h0:∀ m,lk ts0 m=s6 (lk ps m) (lk qs m)) :
  RunOk (b,ts0) (chgL 6 ps qs)∧Up ((chgL 6 ps qs).foldl stepT (b,ts0)).2∧((chgL 6 ps qs).foldl stepT (b,ts0)).1=b∧∀ m,lk ((chgL 6 ps qs).foldl stepT (b,ts0)).2 m=s7 (lk ps m) (lk qs m):=by
 obtain ⟨h1,h2,h3,h4⟩:=Zee ha hb 6 (.inr (.inl rfl)) s6 (fun q p=>⟨p.nm,p.sz,q.wt,p.fr⟩) (fun _ _=>rfl) (fun b ts q=>by simp [stepT,stepP,numP]) (fun A=>rfl) (fun A q _ oq=>by
  rw [ZgL];cases A with
  | none =>
   refine ⟨_,rfl,fun h=>⟨fun h=>by omega,fun _=>by simpa [leadsB,numP] using h,fun h=>by omega⟩,fun h=>?_⟩;have:q.wt=0:=by simpa [leadsB,numP] using h
   simp [this]
  | some p =>
   refine ⟨_,rfl,fun h=>⟨fun h=>by omega,fun _=>?_,fun h=>by omega⟩,fun h=>?_⟩
   ·have:q.wt≠p.wt:=by simpa [leadsB,numP] using h
    simp only;split <;> exact this
   ·have:q.wt=p.wt:=by simpa [leadsB,numP] using h
    simp only;split <;> simp [this]) b ts0 hu0 h0
 exact ⟨h1,h2,h3,fun m=>by rw [h4];cases lk qs m <;> rfl⟩
theorem Zj1 (A:Option Pl) (q:Pl):s7 A (some q)=some (match A with | some p=>(if q.sz<p.sz then ⟨p.nm,q.sz,q.wt,q.fr⟩ else ⟨p.nm,p.sz,q.wt,q.fr⟩) | none=>⟨q.nm,0,q.wt,q.fr⟩):=by
 unfold s7;simp only [ZgL];cases A with
 | none=>rfl
 | some p=>simp only [Option.map_some];split <;> rfl
theorem run8 {ba bb:Int} {ps qs:List Pl} (ha:Okt ba ps) (hb:Okt bb qs) (b:Int) (ts0:List Pl) (hu0:Up ts0) (h0:∀ m,lk ts0 m=s7 (lk ps m) (lk qs m)) :
  RunOk (b,ts0) (chgL 8 ps qs)∧Up ((chgL 8 ps qs).foldl stepT (b,ts0)).2∧((chgL 8 ps qs).foldl stepT (b,ts0)).1=b∧∀ m,lk ((chgL 8 ps qs).foldl stepT (b,ts0)).2 m=lk qs m:=by
 obtain ⟨h1,h2,h3,h4⟩:=Zee ha hb 8 (.inr (.inr rfl)) s7 (fun q p=>⟨p.nm,q.sz,p.wt,p.fr⟩) (fun _ _=>rfl) (fun b ts q=>by simp [stepT,stepP,numP]) (fun A=>rfl) (fun A q _ oq=>by
  rw [Zj1];cases A with
  | none =>
   refine ⟨_,rfl,fun h=>⟨fun h=>by omega,fun h=>by omega,fun _=>by simpa [leadsB,numP] using h⟩,fun h=>?_⟩;have h2:q.sz≤0:=by simpa [leadsB,numP] using h
   have:q.sz=0:=by have:=oq.s0;omega
   simp [this]
  | some p =>
   refine ⟨_,rfl,fun h=>⟨fun h=>by omega,fun h=>by omega,fun _=>?_⟩,fun h=>?_⟩
   ·have:p.sz<q.sz:=by simpa [leadsB,numP] using h
    simp only;split
    ·omega
    ·exact this
   ·have h2:q.sz≤p.sz:=by simpa [leadsB,numP] using h
    simp only;split
    ·rfl
    ·have:q.sz=p.sz:=by omega
     simp [this]) b ts0 hu0 h0
 refine ⟨h1,h2,h3,fun m=>?_⟩;rw [h4];cases hq:lk qs m with
 | none=>rfl
 | some q=>exact ZjG (fun p hp=>(Zap hp).trans (Zap hq).symm)
theorem Zc1 (ba:Int) (ps:List Pl) (bb:Int) (qs:List Pl):diffL ba ps bb qs=chgL 1 ps qs++missL 2 ps qs++budL 3 ba bb++missL 4 qs ps++chgL 5 ps qs++chgL 6 ps qs++budL 7 ba bb++chgL 8 ps qs:=by
 unfold diffL;rw [ZG 7,ZG 6,ZG 5,ZG 4,ZG 3,ZG 2,ZG 1,ZG 0];simp [diffTo,kindL]
theorem runB3 {ba bb:Int} {ts:List Pl} (hu:Up ts) (hl:ts.length≤6):RunOk (ba,ts) (budL 3 ba bb)∧(budL 3 ba bb).foldl stepT (ba,ts)=(if bb<ba then bb else ba,ts):=by
 unfold budL;by_cases h:bb<ba
 ·rw [if_pos (by simp [leadsB,h]),if_pos h];exact ⟨⟨hu,hl,.inl ⟨rfl,rfl,h⟩,trivial⟩,by simp [stepT]⟩
 ·rw [if_neg (by simp [leadsB];omega),if_neg h];exact ⟨trivial,rfl⟩
theorem runB7 {ba bb:Int} {ts:List Pl} (hu:Up ts) (hl:ts.length≤6):RunOk (if bb<ba then bb else ba,ts) (budL 7 ba bb)∧(budL 7 ba bb).foldl stepT (if bb<ba then bb else ba,ts)=(bb,ts):=by
 by_cases h:ba<bb
 ·have e:budL 7 ba bb=[⟨7,⟨#[]⟩,bb⟩]:=by rw [budL,if_pos (by simp [leadsB,h])]
  rw [e,if_neg (by omega)];exact ⟨⟨hu,hl,.inr (.inl ⟨rfl,rfl,h⟩),trivial⟩,by simp [stepT]⟩
 ·have e:budL 7 ba bb=[]:=by rw [budL,if_neg (by simp [leadsB];omega)]
  rw [e];refine ⟨trivial,?_⟩;by_cases h2:bb<ba
  ·rw [if_pos h2];rfl
  ·rw [if_neg h2,show ba=bb by omega];rfl
theorem seq {t t1:Int×List Pl} {l1 l2:List Stp} (h1:RunOk t l1) (e:l1.foldl stepT t=t1) (h2:RunOk t1 l2):RunOk t (l1++l2):=RunOk.append h1 (by rw [e];exact h2)
theorem Zb8 {t t1 t2:Int×List Pl} {l1 l2:List Stp} (e:l1.foldl stepT t=t1) (e2:l2.foldl stepT t1=t2):(l1++l2).foldl stepT t=t2:=by rw [List.foldl_append,e,e2]
theorem Zgr {ba bb:Int} {ps qs:List Pl} (ha:Okt ba ps) (hb:Okt bb qs):RunOk (ba,ps) (diffL ba ps bb qs)∧(diffL ba ps bb qs).foldl stepT (ba,ps)=(bb,qs):=by
 rw [Zc1];have a0:=ha.b0;have a1:=ha.b1;have b0:=hb.b0;have b1:=hb.b1;obtain ⟨r1,u1,e1,k1⟩:=run1 ha hb ba;obtain ⟨t1,h1⟩:∃ t1,(chgL 1 ps qs).foldl stepT (ba,ps)=(ba,t1):=⟨_,Prod.ext e1 rfl⟩;rw [h1] at u1 k1;obtain ⟨r2,u2,e2,k2⟩:=run2 (qs:=qs) ha ba t1 u1 k1;obtain ⟨t2,h2⟩:∃ t2,(missL 2 ps qs).foldl stepT (ba,t1)=(ba,t2):=⟨_,Prod.ext e2 rfl⟩;rw [h2] at u2 k2;have l2:t2.length≤6:=Nat.le_trans (Zcm hb u2 (fun m x hx hn=>by
  have:=k2 m;simp only [hn,s3] at this;rw [hx] at this;simp at this)) hb.len
 obtain ⟨r3,h3⟩:=runB3 (ba:=ba) (bb:=bb) u2 l2;obtain ⟨b',hb'⟩:∃ b',(if bb<ba then bb else ba)=b':=⟨_,rfl⟩;have c0:1≤b'∧b'≤99:=by rw [←hb'];split <;> omega
 rw [hb'] at h3;obtain ⟨r4,u4,e4,k4⟩:=run4 ha hb b' c0.1 c0.2 t2 u2 k2;obtain ⟨t4,h4⟩:∃ t4,(missL 4 qs ps).foldl stepT (b',t2)=(b',t4):=⟨_,Prod.ext e4 rfl⟩;rw [h4] at u4 k4;obtain ⟨r5,u5,e5,k5⟩:=run5 ha hb b' t4 u4 k4;obtain ⟨t5,h5⟩:∃ t5,(chgL 5 ps qs).foldl stepT (b',t4)=(b',t5):=⟨_,Prod.ext e5 rfl⟩;rw [h5] at u5 k5;obtain ⟨r6,u6,e6,k6⟩:=run6 ha hb b' t5 u5 k5;obtain ⟨t6,h6⟩:∃ t6,(chgL 6 ps qs).foldl stepT (b',t5)=(b',t6):=⟨_,Prod.ext e6 rfl⟩;rw [h6] at u6 k6;have l6:t6.length≤6:=Nat.le_trans (Zcm hb u6 (fun m x hx hn=>by
  have:=k6 m;simp only [hn,s7] at this;rw [hx] at this;simp at this)) hb.len
 obtain ⟨r7,h7⟩:=runB7 (ba:=ba) (bb:=bb) u6 l6;rw [hb'] at r7 h7;obtain ⟨r8,u8,e8,k8⟩:=run8 ha hb bb t6 u6 k6;obtain ⟨t8,h8⟩:∃ t8,(chgL 8 ps qs).foldl stepT (bb,t6)=(bb,t8):=⟨_,Prod.ext e8 rfl⟩;rw [h8] at u8 k8;obtain rfl:t8=qs:=ZfG u8 hb.up k8;have q1:=r1;have q2:=seq q1 h1 r2;have f2:=Zb8 h1 h2;have q3:=seq q2 f2 r3;have f3:=Zb8 f2 h3;have q4:=seq q3 f3 r4;have f4:=Zb8 f3 h4;have q5:=seq q4 f4 r5;have f5:=Zb8 f4 h5;have q6:=seq q5 f5 r6;have f6:=Zb8 f5 h6;have q7:=seq q6 f6 r7;have f7:=Zb8 f6 h7;exact ⟨seq q7 f7 r8,Zb8 f7 h8⟩
end Df
end Go.Proofs.YtcpikklofilkcaaGreat
namespace Go.Proofs.YtcpikklofilkcaaGreat
open Go.RowKit
namespace Lw
open Co
theorem Zej {ps:List Pl} (hu:Df.Up ps) {nm:ByteArray} {p:Pl} (hp:Df.lk ps nm=some p) {f:Pl→Pl} (hf:∀ q,(f q).nm=q.nm):insP (f p) (ps.filter (othN nm))=Df.updT nm f ps:=by
 have hpn:=Df.Zap hp;have hd:ps.filter (othN nm)=Df.dropT nm ps:=rfl;have hfn:(f p).nm=nm:=(hf p).trans hpn;have hno:Df.lk (Df.dropT nm ps) (f p).nm=none:=by rw [Df.ZbC,if_pos hfn.symm]
 rw [hd];refine Df.ZfG (Df.ZcG _ (Df.Zd5 nm hu) hno) (Df.Zdv hf nm hu) (fun m=>?_);rw [Df.Zdo _ _ _ hno,Df.ZcF hf,Df.ZbC,hfn];by_cases h:nm=m
 ·rw [if_pos h,if_pos h,←h,hp];rfl
 ·rw [if_neg h,if_neg h,if_neg h]
theorem Zkz {ps:List Pl} {nm:ByteArray} {p:Pl} (h:Df.lk ps nm=some p):Df.inP ps nm=p:=Df.ZbM h
theorem ZeO {t:Int×List Pl} {s:Stp} (hu:Df.Up t.2) (hg:Df.goodS t s):takeT s.kind s.name s.n t.1 t.2=Df.stepT t s:=by
 unfold takeT Df.stepT;by_cases h3:s.kind=3∨s.kind=7
 ·rw [if_pos h3,if_pos h3]
 ·rw [if_neg h3,if_neg h3];by_cases h2:s.kind=2
  ·rw [if_pos h2,if_pos h2];rfl
  ·rw [if_neg h2,if_neg h2];by_cases h4:s.kind=4
   ·rw [if_pos h4,if_pos h4]
   ·rw [if_neg h4,if_neg h4];have hp:∃ p,Df.lk t.2 s.name=some p∧(s.kind=1∨s.kind=5∨s.kind=6∨s.kind=8):=by
     rcases hg with ⟨h,_⟩ | ⟨h,_⟩ | ⟨h,_⟩ | ⟨h,_⟩ | ⟨p,hp,h⟩
     ·exact absurd (.inl h) h3
     ·exact absurd (.inr h) h3
     ·exact absurd h h4
     ·exact absurd h h2
     ·exact ⟨p,hp,by rcases h with ⟨h,_⟩ | ⟨h,_⟩ | ⟨h,_⟩ | ⟨h,_⟩ <;> simp [h]⟩
    obtain ⟨p,hp,hk⟩:=hp;rw [if_pos hk];unfold chgP;rw [Zkz hp];by_cases h5:s.kind=5
    ·rw [if_pos h5];have:updP s.kind s.n p=(fun q:Pl=>(⟨q.nm,q.sz,q.wt,s.n⟩:Pl)) p:=by simp [updP,h5]
     rw [this,Zej (f:=fun q:Pl=>(⟨q.nm,q.sz,q.wt,s.n⟩:Pl)) hu hp (fun _=>rfl)]
    ·rw [if_neg h5];by_cases h6:s.kind=6
     ·rw [if_pos h6];have:updP s.kind s.n p=(fun q:Pl=>(⟨q.nm,q.sz,s.n,q.fr⟩:Pl)) p:=by simp [updP,h6]
      rw [this,Zej (f:=fun q:Pl=>(⟨q.nm,q.sz,s.n,q.fr⟩:Pl)) hu hp (fun _=>rfl)]
     ·rw [if_neg h6];have h18:s.kind=1∨s.kind=8:=by
       rcases hk with h | h | h | h
       ·exact .inl h
       ·exact absurd h h5
       ·exact absurd h h6
       ·exact .inr h
      have:updP s.kind s.n p=(fun q:Pl=>(⟨q.nm,s.n,q.wt,q.fr⟩:Pl)) p:=by
       rcases h18 with h | h <;> simp [updP,h]
      rw [this,Zej (f:=fun q:Pl=>(⟨q.nm,s.n,q.wt,q.fr⟩:Pl)) hu hp (fun _=>rfl)]
structure Thin (S T:Sta):Prop where
 srv:T.srv.Sublist S.srv
 keep:∀ x∈S.srv,x.client≠0→x∈T.srv
 wts:T.wts.Sublist S.wts
 rest:Rest S T
theorem Thin.refl (S:Sta):Thin S S:=⟨List.Sublist.refl _,fun _ h _=>h,List.Sublist.refl _,Rest.refl _⟩
theorem Thin.trans {S T U:Sta} (h:Thin S T) (k:Thin T U):Thin S U:=⟨k.srv.trans h.srv,fun x hx h0=>k.keep x (h.keep x hx h0) h0,k.wts.trans h.wts,h.rest.trans k.rest⟩
theorem ZaN {α:Type} {p:α→Bool} {l:List α} {s:α} (h:lastP p l=some s):s∈l∧p s=true:=by
 unfold lastP at h;have:=List.mem_of_getLast? h;exact List.mem_filter.1 this
theorem Zbm {α:Type} {p:α→Bool} {l:List α} (h:lastP p l=none):∀ x∈l,p x=false:=by
 unfold lastP at h;rw [List.getLast?_eq_none_iff,List.filter_eq_nil_iff] at h;exact fun x hx=>ZO (h x hx)
theorem ZeI {S:Sta} {op:Int} (hi:Inv S op) {s:Srv} (hs:s∈S.srv) (h0:s.client=0):Thin S (cShut S s.id):=
 ⟨List.filter_sublist,fun x hx hx0=>List.mem_filter.2 ⟨hx,by
  simp only [Bool.not_eq_true',decide_eq_false_iff_not];exact fun e=>hx0 (by rw [Zia hi hx hs e];exact h0)⟩,List.Sublist.refl _,⟨rfl,rfl,rfl,rfl,rfl⟩⟩
theorem ZbV {S T:Sta} {op:Int} (hi:Inv S op) (h:Thin S T):Inv T op:=⟨hi.ids.sublist h.srv,fun x hx=>hi.low x (h.srv.subset hx),hi.op0,hi.cli.sublist h.wts⟩
theorem ZiM {S:Sta} {s:Srv} (hs:s∈S.srv) {p:Srv→Bool} (hp:p s=true):cntG p (cShut S s.id).srv+1≤cntG p S.srv:=by
 unfold cntG cShut;simp only;rw [List.filter_filter];have h1:(S.srv.filter p).filter (fun x=>!decide (x.id=s.id))=S.srv.filter (fun x=>p x&&!decide (x.id=s.id)):=by
  rw [List.filter_filter];exact List.filter_congr (fun x _=>Bool.and_comm _ _)
 rw [←h1];have h2:((S.srv.filter p).filter (fun x=>!decide (x.id=s.id))).length<(S.srv.filter p).length:=by
  rw [List.length_filter_lt_length_iff_exists];exact ⟨s,List.mem_filter.2 ⟨hs,hp⟩,by simp⟩
 omega
theorem Zcc (nm:ByteArray) (n:Int) (op:Int):∀ (f:Nat) (S:Sta),Inv S op→(cntG (isPoolV nm) S.srv:Int) - n≤f→Thin S (cThinP nm f S)∧((cntG (isPoolV nm) (cThinP nm f S).srv:Int)≤n∨∀ x∈(cThinP nm f S).srv,isPoolV nm x=true→x.client≠0)
 | 0,S,hi,h=>⟨Thin.refl _,.inl (by show (cntG (isPoolV nm) S.srv:Int)≤n;simp at h;omega)⟩
 | f+1,S,hi,h=>by
  rw [cThinP];cases hl:lastP (fun s=>isPoolV nm s&&isCliV 0 s) S.srv with
  | none =>
   refine ⟨Thin.refl _,.inr fun x hx hp h0=>?_⟩;have:=Zbm hl x hx;simp only [hp,Bool.true_and] at this;unfold isCliV at this;rw [h0] at this;simp at this
  | some s =>
   obtain ⟨hs,hp⟩:=ZaN hl;simp only [Bool.and_eq_true] at hp;have h0:s.client=0:=eq_of_beq hp.2;have ht:=ZeI hi hs h0;have hc:=ZiM hs hp.1;obtain ⟨k1,k2⟩:=Zcc nm n op f (cShut S s.id) (ZbV hi ht) (by omega);exact ⟨ht.trans k1,k2⟩
theorem Zex (n:Int) (op:Int):∀ (f:Nat) (S:Sta),Inv S op→(S.srv.length:Int) - n≤f→Thin S (cThinA f S)∧(((cThinA f S).srv.length:Int)≤n∨∀ x∈(cThinA f S).srv,x.client≠0)
 | 0,S,hi,h=>⟨Thin.refl _,.inl (by show (S.srv.length:Int)≤n;simp at h;omega)⟩
 | f+1,S,hi,h=>by
  rw [cThinA];cases hl:lastP (isCliV 0) S.srv with
  | none =>
   refine ⟨Thin.refl _,.inr fun x hx h0=>?_⟩;have:=Zbm hl x hx;unfold isCliV at this;rw [h0] at this;simp at this
  | some s =>
   obtain ⟨hs,hp⟩:=ZaN hl;have h0:s.client=0:=eq_of_beq hp;have ht:=ZeI hi hs h0;have hc:(cShut S s.id).srv.length<S.srv.length:=by
    unfold cShut;simp only;rw [List.length_filter_lt_length_iff_exists];exact ⟨s,hs,by simp⟩
   obtain ⟨k1,k2⟩:=Zex n op f (cShut S s.id) (ZbV hi ht) (by omega);exact ⟨ht.trans k1,k2⟩
theorem Ziy (S:Sta) (c:Int):Thin S (cQuit S c):=⟨List.Sublist.refl _,fun _ h _=>h,List.filter_sublist,⟨rfl,rfl,rfl,rfl,rfl⟩⟩
theorem Zbq (nm:ByteArray) (n:Int) (hn:0≤n):∀ (f:Nat) (S:Sta),(cntG (isPoolW nm) S.wts:Int) - n≤f→Thin S (cThinL nm f S)∧(cThinL nm f S).srv=S.srv∧(cntG (isPoolW nm) (cThinL nm f S).wts:Int)≤n
 | 0,S,h=>⟨Thin.refl _,rfl,by show (cntG (isPoolW nm) S.wts:Int)≤n;simp at h;omega⟩
 | f+1,S,h=>by
  rw [cThinL];have ht:=Ziy S (orW (lastP (isPoolW nm) S.wts)).client;have hc:(cntG (isPoolW nm) (cQuit S (orW (lastP (isPoolW nm) S.wts)).client).wts:Int) - n≤f:=by
   cases hl:lastP (isPoolW nm) S.wts with
   | none =>
    have h0:cntG (isPoolW nm) S.wts=0:=by
     unfold cntG;rw [List.filter_eq_nil_iff.2 (fun x hx=>by rw [Zbm hl x hx];simp)];rfl
    have h1:cntG (isPoolW nm) (cQuit S (orW (none:Option Wtr)).client).wts≤cntG (isPoolW nm) S.wts:=Zdi List.filter_sublist;omega
   | some s =>
    obtain ⟨hs,hp⟩:=ZaN hl;have h1:cntG (isPoolW nm) (cQuit S s.client).wts+1≤cntG (isPoolW nm) S.wts:=by
     unfold cntG cQuit;simp only;rw [List.filter_filter];have h1:(S.wts.filter (isPoolW nm)).filter (fun x=>!decide (x.client=s.client))=S.wts.filter (fun x=>isPoolW nm x&&!decide (x.client=s.client)):=by
      rw [List.filter_filter];exact List.filter_congr (fun x _=>Bool.and_comm _ _)
     rw [←h1];have h2:((S.wts.filter (isPoolW nm)).filter (fun x=>!decide (x.client=s.client))).length<(S.wts.filter (isPoolW nm)).length:=by
      rw [List.length_filter_lt_length_iff_exists];exact ⟨s,List.mem_filter.2 ⟨hs,hp⟩,by simp⟩
     omega
    show (cntG (isPoolW nm) (cQuit S s.client).wts:Int) - n≤f;omega
  obtain ⟨k1,k2,k3⟩:=Zbq nm n hn f (cQuit S (orW (lastP (isPoolW nm) S.wts)).client) hc;exact ⟨ht.trans k1,k2,k3⟩
theorem Zhx (S:Sta) (nm:ByteArray) (far:Int):Thin S (cShutF S nm far)∧∀ x∈(cShutF S nm far).srv,x.client=0→isPoolV nm x=true→x.far=far:=by
 refine ⟨⟨List.filter_sublist,fun x hx h0=>List.mem_filter.2 ⟨hx,?_⟩,List.Sublist.refl _,⟨rfl,rfl,rfl,rfl,rfl⟩⟩,fun x hx h0 hp=>?_⟩
 ·unfold keepF;have:isCliV 0 x=false:=ZO (fun e=>h0 (eq_of_beq e));simp [isCliV] at this;simp [this]
 ·have h1:=(List.mem_filter.1 hx).2;unfold keepF othF at h1;rw [hp,h0] at h1;simpa using h1
end Lw
end Go.Proofs.YtcpikklofilkcaaGreat
