import Derived.Test.YtcpikklofilkcaaGreatNqAo
import Derived.Test.YtcpikklofilkcaaGreatNqAp
set_option maxRecDepth 100000
set_option maxHeartbeats 16000000
namespace Go.Proofs.YtcpikklofilkcaaGreat
open Go.RowKit
namespace Lw
open Co
structure Bgn (S R:Sta) (t:Int×List Pl):Prop where
 thin:R.srv.Sublist S.srv∧(∀ x∈S.srv,x.client≠0→x∈R.srv)∧R.wts.Sublist S.wts
 tab:R.bud=t.1∧R.pools=t.2∧R.plan=S.plan∧R.begun=S.begun∧R.back=S.back
 sur:∀ x∈R.srv,x.client=0→isSur R x=false
 wts:∀ y∈R.wts,∃ x,R.pools.find? (isNameP y.pool)=some x∧(cntG (isPoolW y.pool) R.wts:Int)≤x.wt
theorem Bgn.fine {S R:Sta} {t:Int×List Pl} {op:Int} (h:Bgn S R t) (hf:Fine S op):Fine R op:=
 ⟨⟨hf.inv.ids.sublist h.thin.1,fun x hx=>hf.inv.low x (h.thin.1.subset hx),hf.inv.op0,hf.inv.cli.sublist h.thin.2.2⟩,fun y hy=>hf.wc y (h.thin.2.2.subset hy),fun x hx=>hf.sc x (h.thin.1.subset hx),hf.one.sublist h.thin.1,fun x hx y hy=>hf.sep x (h.thin.1.subset hx) y (h.thin.2.2.subset hy),h.sur⟩
theorem ZaM {S T R:Sta} {t:Int×List Pl} {op:Int} (hg:Good S op) (hT:T=tabS S t) (hR:Thin T R)
  (hs:∀ x∈R.srv,x.client=0→∀ p,S.pools.find? (isNameP x.pool)=some p→x.far=p.fr→(cntG (isPoolV x.pool) R.srv:Int)≤p.sz→(R.srv.length:Int)≤S.bud→∃ q,t.2.find? (isNameP x.pool)=some q∧x.far=q.fr∧(cntG (isPoolV x.pool) R.srv:Int)≤q.sz∧(R.srv.length:Int)≤t.1)
  (hw:∀ y∈R.wts,∀ p,S.pools.find? (isNameP y.pool)=some p→(cntG (isPoolW y.pool) R.wts:Int)≤p.wt→∃ q,t.2.find? (isNameP y.pool)=some q∧(cntG (isPoolW y.pool) R.wts:Int)≤q.wt):Bgn S R t:=by
 subst hT;have e1:R.pools=t.2:=hR.rest.1;have e2:R.bud=t.1:=hR.rest.2.1;refine ⟨⟨hR.srv,hR.keep,hR.wts⟩,⟨e2,e1,hR.rest.2.2⟩,fun x hx h0=>?_,fun y hy=>?_⟩
 ·obtain ⟨p,h1,h2,h3,h4⟩:=ZbH.1 (hg.fine.sur x (hR.srv.subset hx) h0);have c1:cntG (isPoolV x.pool) R.srv≤cntG (isPoolV x.pool) S.srv:=ZbG hR.srv;have c2:R.srv.length≤S.srv.length:=hR.srv.length_le;obtain ⟨q,k1,k2,k3,k4⟩:=hs x hx h0 p h1 h2 (by omega) (by omega);exact ZbH.2 ⟨q,by rw [e1];exact k1,k2,k3,by rw [e2];exact k4⟩
 ·obtain ⟨p,h1,h2⟩:=hg.wts y (hR.wts.subset hy);have c1:cntG (isPoolW y.pool) R.wts≤cntG (isPoolW y.pool) S.wts:=Zdi hR.wts;obtain ⟨q,k1,k2⟩:=hw y hy p h1 (by omega);exact ⟨q,by rw [e1];exact k1,k2⟩
theorem ZgE {S:Sta} {op:Int} (h:Inv S op) (t:Int×List Pl):Inv (tabS S t) op:=⟨h.ids,h.low,h.op0,h.cli⟩
theorem Zd2 {nm:ByteArray} {x:Srv} (h:x.pool=nm):isPoolV nm x=true:=by unfold isPoolV;rw [h];simp
theorem Zaa {f:Pl→Pl} (hf:∀ p,(f p).nm=p.nm) {nm m:ByteArray} {ps:List Pl} {p:Pl} (h:ps.find? (isNameP m)=some p):(Df.updT nm f ps).find? (isNameP m)=some (if nm=m then f p else p):=by
 have:=Df.ZcF hf nm m ps;unfold Df.lk at this;rw [this,h];split <;> rfl
theorem ZeQ {S:Sta} {op:Int} (hg:Good S op) (hu:Df.Up S.pools) {s:Stp} (hs:Df.goodS (S.bud,S.pools) s) (hn:0≤s.n):Bgn S (cBegin s.kind s.name s.n S) (Df.stepT (S.bud,S.pools) s):=by
 have htk:=ZeO (t:=(S.bud,S.pools)) hu hs;simp only at htk;have hI:Inv (tabS S (Df.stepT (S.bud,S.pools) s)) op:=ZgE hg.fine.inv _;unfold cBegin;simp only;rw [htk];obtain ⟨t,ht⟩:∃ t,Df.stepT (S.bud,S.pools) s=t:=⟨_,rfl⟩;rw [ht] at hI ⊢;unfold Df.stepT at ht;simp only at ht;rcases hs with ⟨hk,_,hlt⟩ | ⟨hk,_,hlt⟩ | ⟨hk,_,hno,_⟩ | ⟨hk,_,p0,hp0⟩ | ⟨p0,hp0,hkk⟩
 ·rw [if_pos (.inl hk)] at ht;subst ht;rw [if_neg (by omega),if_neg (by omega),if_pos hk];obtain ⟨k1,k2⟩:=Zex s.n op (((tabS S (s.n,S.pools)).srv.length:Int) - s.n).toNat _ hI (by omega);refine ZaM hg rfl k1 (fun x hx h0 p h1 h2 h3 h4=>⟨p,h1,h2,h3,?_⟩) (fun y hy p h1 h2=>⟨p,h1,h2⟩);rcases k2 with k2 | k2
  ·exact k2
  ·exact absurd h0 (k2 x hx)
 ·rw [if_pos (.inr hk)] at ht;subst ht;rw [if_neg (by omega),if_neg (by omega),if_neg (by omega),if_neg (by omega),if_neg (by omega)];simp only at hlt;exact ZaM hg rfl (Thin.refl _) (fun x hx h0 p h1 h2 h3 h4=>⟨p,h1,h2,h3,by simp only;omega⟩) (fun y hy p h1 h2=>⟨p,h1,h2⟩)
 ·rw [if_neg (by omega),if_neg (by omega),if_pos hk] at ht;subst ht;rw [if_neg (by omega),if_neg (by omega),if_neg (by omega),if_neg (by omega),if_neg (by omega)];simp only at hno;have hfi:∀ m p,S.pools.find? (isNameP m)=some p→(insP ⟨s.name,0,0,0⟩ S.pools).find? (isNameP m)=some p:=by
   intro m p h1;have:=Df.Zdo (⟨s.name,0,0,0⟩:Pl) m S.pools hno;unfold Df.lk at this hno;rw [this];by_cases e:s.name=m
   ·rw [←e,hno] at h1;simp at h1
   ·rw [if_neg e];exact h1
  exact ZaM hg rfl (Thin.refl _) (fun x hx h0 p h1 h2 h3 h4=>⟨p,hfi _ _ h1,h2,h3,h4⟩) (fun y hy p h1 h2=>⟨p,hfi _ _ h1,h2⟩)
 ·rw [if_neg (by omega),if_pos hk] at ht;subst ht;rw [if_neg (by omega),if_pos hk];obtain ⟨a1,a2,a3⟩:=Zbq s.name 0 (Int.le_refl _) ((cntG (isPoolW s.name) (tabS S (S.bud,Df.dropT s.name S.pools)).wts:Int) - 0).toNat (tabS S (S.bud,Df.dropT s.name S.pools)) (by omega);obtain ⟨k1,k2⟩:=Zcc s.name 0 op ((cntG (isPoolV s.name) (cThinL s.name ((cntG (isPoolW s.name) (tabS S (S.bud,Df.dropT s.name S.pools)).wts:Int) - 0).toNat (tabS S (S.bud,Df.dropT s.name S.pools))).srv:Int) - 0).toNat _ (ZbV hI a1) (by omega);have hfi:∀ m p,s.name≠m→S.pools.find? (isNameP m)=some p→(Df.dropT s.name S.pools).find? (isNameP m)=some p:=by
   intro m p hne h1;have:=Df.ZbC s.name m S.pools;unfold Df.lk at this;rw [this,if_neg hne];exact h1
  refine ZaM hg rfl (a1.trans k1) (fun x hx h0 p h1 h2 h3 h4=>⟨p,hfi _ _ (fun e=>?_) h1,h2,h3,h4⟩) (fun y hy p h1 h2=>⟨p,hfi _ _ (fun e=>?_) h1,h2⟩)
  ·have hp:=Zd2 e.symm;rcases k2 with k2 | k2
   ·have:0<cntG (isPoolV s.name) (cThinP s.name ((cntG (isPoolV s.name) (cThinL s.name ((cntG (isPoolW s.name) (tabS S (S.bud,Df.dropT s.name S.pools)).wts:Int) - 0).toNat (tabS S (S.bud,Df.dropT s.name S.pools))).srv:Int) - 0).toNat (cThinL s.name ((cntG (isPoolW s.name) (tabS S (S.bud,Df.dropT s.name S.pools)).wts:Int) - 0).toNat (tabS S (S.bud,Df.dropT s.name S.pools)))).srv:=List.length_pos_of_mem (List.mem_filter.2 ⟨hx,hp⟩);omega
   ·exact k2 x hx hp h0
  ·have hy2:=k1.wts.subset hy;have:0<cntG (isPoolW s.name) (cThinL s.name ((cntG (isPoolW s.name) (tabS S (S.bud,Df.dropT s.name S.pools)).wts:Int) - 0).toNat (tabS S (S.bud,Df.dropT s.name S.pools))).wts:=List.length_pos_of_mem (List.mem_filter.2 ⟨hy2,by unfold isPoolW;rw [←e];simp⟩);omega
 ·simp only at hp0;rcases hkk with ⟨hk,hlt⟩ | ⟨hk,hlt⟩ | ⟨hk,hlt⟩ | ⟨hk,hlt⟩
  ·rw [if_neg (by omega),if_neg (by omega),if_neg (by omega),if_neg (by omega),if_neg (by omega)] at ht;subst ht;rw [if_pos hk];obtain ⟨k1,k2⟩:=Zcc s.name s.n op ((cntG (isPoolV s.name) (tabS S (S.bud,Df.updT s.name (fun p=>⟨p.nm,s.n,p.wt,p.fr⟩) S.pools)).srv:Int) - s.n).toNat _ hI (by omega);refine ZaM hg rfl k1 (fun x hx h0 p h1 h2 h3 h4=>⟨_,Zaa (f:=fun p=>⟨p.nm,s.n,p.wt,p.fr⟩) (fun _=>rfl) h1,?_,?_,h4⟩) (fun y hy p h1 h2=>⟨_,Zaa (f:=fun p=>⟨p.nm,s.n,p.wt,p.fr⟩) (fun _=>rfl) h1,?_⟩)
   ·split <;> exact h2
   ·split
    ·rename_i e
     rcases k2 with k2 | k2
     ·rw [←e];exact k2
     ·exact absurd h0 (k2 x hx (Zd2 e.symm))
    ·exact h3
   ·split <;> exact h2
  ·rw [if_neg (by omega),if_neg (by omega),if_neg (by omega),if_pos hk] at ht;subst ht;rw [if_neg (by omega),if_neg (by omega),if_neg (by omega),if_pos hk];obtain ⟨k1,k2⟩:=Zhx (tabS S (S.bud,Df.updT s.name (fun p=>⟨p.nm,p.sz,p.wt,s.n⟩) S.pools)) s.name s.n;refine ZaM hg rfl k1 (fun x hx h0 p h1 h2 h3 h4=>⟨_,Zaa (f:=fun p=>⟨p.nm,p.sz,p.wt,s.n⟩) (fun _=>rfl) h1,?_,?_,h4⟩) (fun y hy p h1 h2=>⟨_,Zaa (f:=fun p=>⟨p.nm,p.sz,p.wt,s.n⟩) (fun _=>rfl) h1,?_⟩)
   ·split
    ·rename_i e
     exact k2 x hx h0 (Zd2 e.symm)
    ·exact h2
   ·split <;> exact h3
   ·split <;> exact h2
  ·rw [if_neg (by omega),if_neg (by omega),if_neg (by omega),if_neg (by omega),if_pos hk] at ht;subst ht;rw [if_neg (by omega),if_neg (by omega),if_neg (by omega),if_neg (by omega),if_pos hk];obtain ⟨k1,k2,k3⟩:=Zbq s.name s.n hn ((cntG (isPoolW s.name) (tabS S (S.bud,Df.updT s.name (fun p=>⟨p.nm,p.sz,s.n,p.fr⟩) S.pools)).wts:Int) - s.n).toNat (tabS S (S.bud,Df.updT s.name (fun p=>⟨p.nm,p.sz,s.n,p.fr⟩) S.pools)) (by omega);refine ZaM hg rfl k1 (fun x hx h0 p h1 h2 h3 h4=>⟨_,Zaa (f:=fun p=>⟨p.nm,p.sz,s.n,p.fr⟩) (fun _=>rfl) h1,?_,?_,h4⟩) (fun y hy p h1 h2=>⟨_,Zaa (f:=fun p=>⟨p.nm,p.sz,s.n,p.fr⟩) (fun _=>rfl) h1,?_⟩)
   ·split <;> exact h2
   ·split <;> exact h3
   ·split
    ·rename_i e
     rw [←e];exact k3
    ·exact h2
  ·rw [if_neg (by omega),if_neg (by omega),if_neg (by omega),if_neg (by omega),if_neg (by omega)] at ht;subst ht;rw [if_neg (by omega),if_neg (by omega),if_neg (by omega),if_neg (by omega),if_neg (by omega)];refine ZaM hg rfl (Thin.refl _) (fun x hx h0 p h1 h2 h3 h4=>⟨_,Zaa (f:=fun p=>⟨p.nm,s.n,p.wt,p.fr⟩) (fun _=>rfl) h1,?_,?_,h4⟩) (fun y hy p h1 h2=>⟨_,Zaa (f:=fun p=>⟨p.nm,s.n,p.wt,p.fr⟩) (fun _=>rfl) h1,?_⟩)
   ·split <;> exact h2
   ·split
    ·rename_i e
     have hpe:p=p0:=by
      have h5:S.pools.find? (isNameP s.name)=some p0:=hp0;rw [e,h1] at h5;exact Option.some.inj h5
     rw [hpe] at h3;simp only;omega
    ·exact h3
   ·split <;> exact h2
theorem Zg2 {S:Sta} {op:Int} (h:Still S op) (a:List Stp) (b c:Bool):Still {S with plan:=a,begun:=b,back:=c} op:=by
 unfold Still at *;rw [ZaX] at h ⊢;intro d hd;have h2:(rLent S (op+1) 0 d).isSome=(rLent {S with plan:=a,begun:=b,back:=c} (op+1) 0 d).isSome:=by
  unfold rLent rRoom;simp only;cases S.pools.find? (isNameP d.pool) with
  | none=>rfl
  | some x =>
   simp only;cases S.srv.findIdx? (isIdle d.pool false) with
   | some k=>rfl
   | none =>
    simp only;split
    ·rfl
    ·split <;> rfl
 rw [←h2];exact h d hd
theorem ZaR {S:Sta} {op:Int} (h:Good S op) (a:List Stp) (b c:Bool):Good {S with plan:=a,begun:=b,back:=c} op:=
 ⟨⟨⟨h.fine.inv.ids,h.fine.inv.low,h.fine.inv.op0,h.fine.inv.cli⟩,h.fine.wc,h.fine.sc,h.fine.one,h.fine.sep,h.fine.sur⟩,Zg2 h.still a b c,h.wts⟩
structure Eff (S T:Sta):Prop where
 keep:∀ x∈S.srv,x.client≠0→x∈T.srv
 new:∀ x∈T.srv,x.client≠0→x∈S.srv∨∃ y∈S.wts,y.client=x.client
 sub:∀ y∈T.wts,y∈S.wts
theorem Eff.refl (S:Sta):Eff S S:=⟨fun _ h _=>h,fun _ h _=>.inl h,fun _ h=>h⟩
theorem Eff.of {S R T:Sta} {t:Int×List Pl} {op op':Int} (h:Bgn S R t) (k:Srvd R T op op'):Eff S T:=
 ⟨fun x hx h0=>k.keep x (h.thin.2.1 x hx h0) h0,fun x hx h0=>by
  rcases k.new x hx h0 with h1 | ⟨y,hy,e⟩
  ·exact .inl (h.thin.1.subset h1)
  ·exact .inr ⟨y,h.thin.2.2.subset hy,e⟩,fun y hy=>h.thin.2.2.subset (k.sub.subset hy)⟩
def okN (s:Stp):Prop:=(s.kind=1∧0≤s.n∧s.n≤20)∨(s.kind=2∧s.n=0)∨(s.kind=3∧1≤s.n∧s.n≤99)∨(s.kind=4∧s.n=0)∨(s.kind=5∧0≤s.n∧s.n≤999)∨(s.kind=6∧0≤s.n∧s.n≤20)∨(s.kind=7∧1≤s.n∧s.n≤99)∨(s.kind=8∧0≤s.n∧s.n≤20)
structure Pln (S:Sta) (X:Aux) (g:Int×List Pl):Prop where
 tab:Okt S.bud S.pools
 goal:Okt g.1 g.2
 none:S.plan=[]→S.begun=false∧S.back=false∧g=(S.bud,S.pools)
 rest:S.begun=false→Df.RunOk (S.bud,S.pools) S.plan∧S.plan.foldl Df.stepT (S.bud,S.pools)=g
 on:S.begun=true→Df.RunOk (S.bud,S.pools) S.plan.tail∧S.plan.tail.foldl Df.stepT (S.bud,S.pools)=g
 home:S.plan≠[]→S.back=false→Okt X.hb X.hps
 ok:∀ s∈S.plan,okN s
 did:S.begun=true→∃ s r t0,S.plan=s :: r∧Df.goodS t0 s∧Df.Up t0.2∧(S.bud,S.pools)=Df.stepT t0 s
theorem Zct {s:Stp} (h:okN s):StpOk s:=by
 unfold okN at h;refine ⟨?_,?_⟩
 ·unfold okKind;omega
 ·omega
theorem Zj9 {f:Pl→Pl} {nm:ByteArray} {ps:List Pl} {x:Pl} (h:x∈Df.updT nm f ps):x∈ps∨∃ p∈ps,x=f p∧p.nm=nm:=by
 unfold Df.updT at h;obtain ⟨p,hp,rfl⟩:=List.mem_map.1 h;by_cases e:isNameP nm p=true
 ·rw [if_pos e];exact .inr ⟨p,hp,rfl,Df.ZU.1 e⟩
 ·rw [if_neg e];exact .inl hp
theorem Zkp (f:Pl→Pl) (nm:ByteArray) (ps:List Pl):(Df.updT nm f ps).length=ps.length:=by unfold Df.updT;rw [List.length_map]
theorem ZiH {t:Int×List Pl} {s:Stp} (h:Okt t.1 t.2) (hg:Df.goodS t s) (hn:okN s):Okt (Df.stepT t s).1 (Df.stepT t s).2:=by
 unfold okN at hn;have hupd:∀ (f:Pl→Pl),(∀ p,(f p).nm=p.nm)→(∀ p,Okp p→Okp (f p))→Okt t.1 (Df.updT s.name f t.2):=by
  intro f hf ho;refine ⟨h.b0,h.b1,by rw [Zkp];exact h.len,fun p hp=>?_,Df.Zdv hf _ h.up⟩;rcases Zj9 hp with hp | ⟨q,hq,rfl,_⟩
  ·exact h.ok p hp
  ·exact ho q (h.ok q hq)
 unfold Df.stepT;rcases hg with ⟨hk,_,_⟩ | ⟨hk,_,_⟩ | ⟨hk,_,hno,hG,_,_⟩ | ⟨hk,_,_⟩ | ⟨p0,hp0,hkk⟩
 ·rw [if_pos (.inl hk)];exact ⟨by simp only;omega,by simp only;omega,h.len,h.ok,h.up⟩
 ·rw [if_pos (.inr hk)];exact ⟨by simp only;omega,by simp only;omega,h.len,h.ok,h.up⟩
 ·rw [if_neg (by omega),if_neg (by omega),if_pos hk];refine ⟨h.b0,h.b1,?_,fun p hp=>?_,Df.ZcG _ h.up hno⟩
  ·show (insP _ t.2).length≤6;rw [ZX];have:=hG.2.2;rw [List.length_append] at this;exact this
  ·rcases (ZbL _ _ _).1 hp with rfl | hp
   ·exact hG.1 _ (by simp)
   ·exact h.ok p hp
 ·rw [if_neg (by omega),if_pos hk];refine ⟨h.b0,h.b1,Nat.le_trans (List.length_filter_le _ _) h.len,fun p hp=>h.ok p (List.mem_filter.1 hp).1,Df.Zd5 _ h.up⟩
 ·rcases hkk with ⟨hk,_⟩ | ⟨hk,_⟩ | ⟨hk,_⟩ | ⟨hk,_⟩
  ·rw [if_neg (by omega),if_neg (by omega),if_neg (by omega),if_neg (by omega),if_neg (by omega)];exact hupd _ (fun _=>rfl) (fun p o=>⟨o.nm,by simp only;omega,by simp only;omega,o.w0,o.w1,o.f0,o.f1⟩)
  ·rw [if_neg (by omega),if_neg (by omega),if_neg (by omega),if_pos hk];exact hupd _ (fun _=>rfl) (fun p o=>⟨o.nm,o.s0,o.s1,o.w0,o.w1,by simp only;omega,by simp only;omega⟩)
  ·rw [if_neg (by omega),if_neg (by omega),if_neg (by omega),if_neg (by omega),if_pos hk];exact hupd _ (fun _=>rfl) (fun p o=>⟨o.nm,o.s0,o.s1,by simp only;omega,by simp only;omega,o.f0,o.f1⟩)
  ·rw [if_neg (by omega),if_neg (by omega),if_neg (by omega),if_neg (by omega),if_neg (by omega)];exact hupd _ (fun _=>rfl) (fun p o=>⟨o.nm,by simp only;omega,by simp only;omega,o.w0,o.w1,o.f0,o.f1⟩)
theorem Zi3 {ba bb:Int} {ps qs:List Pl} {s:Stp} (h:s∈Df.diffL ba ps bb qs):((s.kind=1∨s.kind=5∨s.kind=6∨s.kind=8)∧∃ q∈qs,s.name=q.nm∧s.n=Df.numP s.kind q)∨(s.kind=2∧s.n=0)∨(s.kind=4∧s.n=0)∨((s.kind=3∨s.kind=7)∧s.n=bb):=by
 have hc:∀ k:Int,(k=1∨k=5∨k=6∨k=8)→s∈Df.chgL k ps qs→(s.kind=1∨s.kind=5∨s.kind=6∨s.kind=8)∧∃ q∈qs,s.name=q.nm∧s.n=Df.numP s.kind q:=by
  intro k hk hs;obtain ⟨q,hq,rfl⟩:=List.mem_map.1 hs;exact ⟨hk,q,(List.mem_filter.1 hq).1,rfl,rfl⟩
 have hm:∀ (k:Int) (l m:List Pl),s∈Df.missL k l m→s.kind=k∧s.n=0:=by
  intro k l m hs;obtain ⟨q,_,rfl⟩:=List.mem_map.1 hs;exact ⟨rfl,rfl⟩
 have hb:∀ k:Int,s∈Df.budL k ba bb→s.kind=k∧s.n=bb:=by
  intro k hs;unfold Df.budL at hs;split at hs
  ·simp only [List.mem_singleton] at hs;subst hs;exact ⟨rfl,rfl⟩
  ·simp at hs
 rw [Df.Zc1] at h;simp only [List.mem_append] at h;rcases h with ((((((h | h) | h) | h) | h) | h) | h) | h
 ·exact .inl (hc 1 (.inl rfl) h)
 ·exact .inr (.inl (hm _ _ _ h))
 ·exact .inr (.inr (.inr ⟨.inl (hb _ h).1,(hb _ h).2⟩))
 ·exact .inr (.inr (.inl (hm _ _ _ h)))
 ·exact .inl (hc 5 (.inr (.inl rfl)) h)
 ·exact .inl (hc 6 (.inr (.inr (.inl rfl))) h)
 ·exact .inr (.inr (.inr ⟨.inr (hb _ h).1,(hb _ h).2⟩))
 ·exact .inl (hc 8 (.inr (.inr (.inr rfl))) h)
theorem Zfs {ba bb:Int} {ps qs:List Pl} (hb:Okt bb qs):∀ s∈Df.diffL ba ps bb qs,okN s:=by
 intro s hs;have b0:=hb.b0;have b1:=hb.b1;unfold okN;rcases Zi3 hs with ⟨hk,q,hq,_,hn⟩ | ⟨hk,hn⟩ | ⟨hk,hn⟩ | ⟨hk,hn⟩
 ·have o:=hb.ok q hq;have o1:=o.s0;have o2:=o.s1;have o3:=o.w0;have o4:=o.w1;have o5:=o.f0;have o6:=o.f1;rcases hk with hk | hk | hk | hk <;> rw [hk] at hn <;> simp [Df.numP] at hn <;> omega
 ·omega
 ·omega
 ·omega
theorem Zje {S T:Sta} {X X':Aux} {g:Int×List Pl} (h:Pln S X g) (hr:Rest S T) (hx:X'.hb=X.hb∧X'.hps=X.hps):Pln T X' g:=by
 obtain ⟨r1,r2,r3,r4,r5⟩:=hr;refine ⟨by rw [r1,r2];exact h.tab,h.goal,?_,?_,?_,?_,?_,?_⟩
 ·rw [r1,r2,r3,r4,r5];exact h.none
 ·rw [r1,r2,r3,r4];exact h.rest
 ·rw [r1,r2,r3,r4];exact h.on
 ·rw [r3,r5,hx.1,hx.2];exact h.home
 ·rw [r3];exact h.ok
 ·rw [r1,r2,r3,r4];exact h.did
theorem ZfI {S:Sta} {X:Aux} {g:Int×List Pl} (hg:Good S X.op) (h:Pln S X g) {s:Stp} {r:List Stp} (hp:S.plan=s :: r) :
  ∃ R t,Bgn S R t∧Srvd R (cTurnS s.kind s.name s.n S.begun S X.op).1 X.op (cTurnS s.kind s.name s.n S.begun S X.op).2∧Good (cTurnS s.kind s.name s.n S.begun S X.op).1 (cTurnS s.kind s.name s.n S.begun S X.op).2
   ∧ Okt t.1 t.2∧Df.RunOk t r∧r.foldl Df.stepT t=g∧(S.begun=true→t=(S.bud,S.pools)∧R=S)∧(S.begun=false→t=Df.stepT (S.bud,S.pools) s∧R=cBegin s.kind s.name s.n S):=by
 have hso:=h.ok s (by rw [hp];simp);have hfin:∀ R t,Bgn S R t→cTurnS s.kind s.name s.n S.begun S X.op=cServe R.wts.length R X.op→Srvd R (cTurnS s.kind s.name s.n S.begun S X.op).1 X.op (cTurnS s.kind s.name s.n S.begun S X.op).2∧Good (cTurnS s.kind s.name s.n S.begun S X.op).1 (cTurnS s.kind s.name s.n S.begun S X.op).2:=by
  intro R t hb he;have hfR:=hb.fine hg.fine;have hsv:=ZaD R.wts.length R X.op hfR;rw [he];exact ⟨hsv,hsv.fine,Zac R.wts.length R X.op hfR.inv (Nat.le_refl _),ZcS (S:=R) hsv.rest.1 hsv.sub hb.wts⟩
 cases hbg:S.begun with
 | true =>
  obtain ⟨k1,k2⟩:=h.on hbg;rw [hp] at k1 k2;have hb:Bgn S S (S.bud,S.pools):=⟨⟨List.Sublist.refl _,fun _ h _=>h,List.Sublist.refl _⟩,⟨rfl,rfl,rfl,rfl,rfl⟩,hg.fine.sur,hg.wts⟩;have:=hfin S _ hb (by unfold cTurnS;rw [hbg];rfl);rw [hbg] at this;exact ⟨S,_,hb,this.1,this.2,h.tab,k1,k2,fun _=>⟨rfl,rfl⟩,fun h=>by simp at h⟩
 | false =>
  obtain ⟨k1,k2⟩:=h.rest hbg;rw [hp] at k1 k2;obtain ⟨u1,u2,u3,u4⟩:=k1;have hn:0≤s.n:=(Zct hso).n.1;have hb:=ZeQ hg u1 u3 hn;have:=hfin _ _ hb (by unfold cTurnS;rw [hbg];rfl);rw [hbg] at this;exact ⟨_,_,hb,this.1,this.2,ZiH h.tab u3 hso,u4,k2,fun h=>by simp at h,fun _=>⟨rfl,rfl⟩⟩
theorem Zjk {S:Sta} {X:Aux} {g:Int×List Pl} (hg:Good S X.op) (h:Pln S X g) :
  Good (cTurn S X).S (cTurn S X).X.op∧Pln (cTurn S X).S (cTurn S X).X g∧Eff S (cTurn S X).S∧pot ((cTurn S X).S,(cTurn S X).X.op)≤pot (S,X.op):=by
 cases hp:S.plan with
 | nil =>
  have e:cTurn S X=⟨S,X,0,14,0⟩:=by unfold cTurn;rw [hp]
  rw [e];exact ⟨hg,h,Eff.refl _,Int.le_refl _⟩
 | cons s r =>
  obtain ⟨R,t,hb,hsv,hgd,hot,hrun,hfo,hbt,hbf⟩:=ZfI hg h hp;obtain ⟨⟨T,o⟩,hT⟩:∃ q,cTurnS s.kind s.name s.n S.begun S X.op=q:=⟨_,rfl⟩;rw [hT] at hsv hgd;simp only at hsv hgd;have e:cTurn S X=⟨(cTurned T {X with op:=o} (cEnded s.kind s.name s.n T)).1,(cTurned T {X with op:=o} (cEnded s.kind s.name s.n T)).2,(cTurned T {X with op:=o} (cEnded s.kind s.name s.n T)).1.plan.length,0,0⟩:=by
   unfold cTurn;rw [hp];simp only;rw [hT]
  rw [e];simp only;have hTp:T.plan=s :: r∧T.begun=S.begun∧T.back=S.back∧T.bud=t.1∧T.pools=t.2:=by
   refine ⟨?_,?_,?_,?_,?_⟩
   ·rw [hsv.rest.2.2.1,hb.tab.2.2.1,hp]
   ·rw [hsv.rest.2.2.2.1,hb.tab.2.2.2.1]
   ·rw [hsv.rest.2.2.2.2,hb.tab.2.2.2.2]
   ·rw [hsv.rest.2.1,hb.tab.1]
   ·rw [hsv.rest.1,hb.tab.2.1]
  obtain ⟨t1,t2,t3,t4,t5⟩:=hTp;have htt:(T.bud,T.pools)=t:=by rw [t4,t5]
  have heff:=Eff.of hb hsv;have hpot:pot (T,o)≤pot (S,X.op):=by
   have h1:pot (T,o)=pot (cTurnS s.kind s.name s.n S.begun S X.op):=by rw [hT]
   have h2:∀ R':Sta,R'.wts.length≤S.wts.length→pot (R',X.op)≤pot (S,X.op):=fun R' hl=>by unfold pot;simp only;omega
   have hl:R.wts.length≤S.wts.length:=hb.thin.2.2.length_le;have h3:cTurnS s.kind s.name s.n S.begun S X.op=cServe R.wts.length R X.op:=by
    cases hbg:S.begun with
    | true=>rw [(hbt hbg).2];unfold cTurnS;rfl
    | false=>rw [(hbf hbg).2];unfold cTurnS;rfl
   rw [h1,h3];exact Int.le_trans (Z9 _ _ _).1 (h2 R hl)
  have hhome:S.plan≠[]→S.back=false→Okt X.hb X.hps:=h.home;have hokr:∀ x∈r,okN x:=fun x hx=>h.ok x (by rw [hp];simp [hx])
  cases hd:cEnded s.kind s.name s.n T with
  | true =>
   by_cases hr:r.length=0
   ·have hr':r=[]:=List.length_eq_zero_iff.1 hr;rw [ZdZ (by rw [t1];exact hr)];simp only;have hfo':t=g:=by rw [hr'] at hfo;exact hfo
    refine ⟨ZaR hgd _ _ _,⟨by simp only;rw [t4,t5];exact hot,h.goal,fun _=>⟨rfl,rfl,?_⟩,fun _=>?_,fun h=>by simp at h,fun hne=>?_,fun x hx=>?_,fun h=>by simp at h⟩,⟨heff.keep,heff.new,heff.sub⟩,hpot⟩
    ·show g=(T.bud,T.pools);rw [htt,hfo']
    ·show Df.RunOk (T.bud,T.pools) T.plan.tail∧T.plan.tail.foldl Df.stepT (T.bud,T.pools)=g;rw [t1,hr',htt];exact ⟨trivial,hfo'⟩
    ·have:T.plan.tail=[]:=by rw [t1];exact hr'
     exact absurd this hne
    ·have:T.plan.tail=[]:=by rw [t1];exact hr'
     simp only [this] at hx;simp at hx
   ·rw [ZeG (by rw [t1];exact hr)];simp only;refine ⟨ZaR hgd _ _ _,⟨by simp only;rw [t4,t5];exact hot,h.goal,fun hne=>?_,fun _=>?_,fun h=>by simp at h,fun _ hbk=>?_,fun x hx=>?_,fun h=>by simp at h⟩,⟨heff.keep,heff.new,heff.sub⟩,hpot⟩
    ·have:T.plan.tail=[]:=hne;rw [t1] at this;exact absurd (by rw [show r=[] from this];rfl) hr
    ·show Df.RunOk (T.bud,T.pools) T.plan.tail∧T.plan.tail.foldl Df.stepT (T.bud,T.pools)=g;rw [t1,htt];exact ⟨hrun,hfo⟩
    ·exact hhome (by rw [hp];simp) (t3.symm.trans hbk)
    ·have hx':x∈T.plan.tail:=hx;rw [t1] at hx';exact hokr x hx'
  | false =>
   have e2:cTurned T {X with op:=o} false=({T with begun:=true},{X with op:=o}):=by unfold cTurned;rw [if_neg (by simp)]
   rw [e2];simp only;refine ⟨ZaR hgd T.plan true T.back,⟨by simp only;rw [t4,t5];exact hot,h.goal,fun hne=>?_,fun h=>by simp at h,fun _=>?_,fun _ hbk=>?_,fun x hx=>?_,fun _=>?_⟩,⟨heff.keep,heff.new,heff.sub⟩,hpot⟩
   ·have:T.plan=[]:=hne;rw [t1] at this;simp at this
   ·show Df.RunOk (T.bud,T.pools) T.plan.tail∧T.plan.tail.foldl Df.stepT (T.bud,T.pools)=g;rw [t1,htt];exact ⟨hrun,hfo⟩
   ·exact hhome (by rw [hp];simp) (t3.symm.trans hbk)
   ·have hx':x∈T.plan:=hx;rw [t1,←hp] at hx';exact h.ok x hx'
   ·show ∃ s r t0,T.plan=s :: r∧Df.goodS t0 s∧Df.Up t0.2∧(T.bud,T.pools)=Df.stepT t0 s;rw [t1,htt];cases hbg:S.begun with
    | true =>
     obtain ⟨s',r',t0,e1,e2,e3,e4⟩:=h.did hbg;rw [hp] at e1;obtain ⟨rfl,rfl⟩:=List.cons.inj e1;exact ⟨_,_,t0,rfl,e2,e3,by rw [(hbt hbg).1];exact e4⟩
    | false =>
     have hr:=(h.rest hbg).1;rw [hp] at hr;exact ⟨_,_,(S.bud,S.pools),rfl,hr.2.2.1,hr.1,(hbf hbg).1⟩
theorem Zg6 {S:Sta} {X:Aux} {g:Int×List Pl} (hg:Good S X.op) (h:Pln S X g) {a:Ans} (ha:a.err=0→Okt a.tab.1 a.tab.2) :
  Good (cReload S X a).S (cReload S X a).X.op∧(∃ g',Pln (cReload S X a).S (cReload S X a).X g'∧((cReload S X a).e=0→g'=a.tab)∧((cReload S X a).e≠0→g'=g∧(cReload S X a).S=S∧(cReload S X a).X=X∧(cReload S X a).n=0))∧Eff S (cReload S X a).S∧pot ((cReload S X a).S,(cReload S X a).X.op)=pot (S,X.op):=by
 unfold cReload;by_cases h1:¬S.plan.length=0
 ·rw [if_pos h1];exact ⟨hg,⟨g,h,fun h=>by simp at h,fun _=>⟨rfl,rfl,rfl,rfl⟩⟩,Eff.refl _,rfl⟩
 ·rw [if_neg h1];by_cases h2:¬a.err=0
  ·rw [if_pos h2];exact ⟨hg,⟨g,h,fun h=>absurd (by have h':(a.err:Int)=0:=h;omega) h2,fun _=>⟨rfl,rfl,rfl,rfl⟩⟩,Eff.refl _,rfl⟩
  ·rw [if_neg h2];simp only;have hot:=ha (Classical.not_not.1 h2);obtain ⟨k1,k2⟩:=Df.Zgr h.tab hot;refine ⟨ZaR hg _ _ _,⟨a.tab,⟨h.tab,hot,fun hne=>⟨rfl,rfl,?_⟩,fun _=>⟨k1,k2⟩,fun h=>by simp at h,fun hne _=>?_,Zfs hot,fun h=>by simp at h⟩,fun _=>rfl,fun h=>absurd rfl h⟩,⟨fun _ h _=>h,fun _ h _=>.inl h,fun _ h=>h⟩,rfl⟩
   ·have hne':Df.diffL S.bud S.pools a.tab.1 a.tab.2=[]:=hne;rw [hne'] at k2;exact k2.symm
   ·have:fwdH (Df.diffL S.bud S.pools a.tab.1 a.tab.2) S.bud S.pools=(S.bud,S.pools):=by
     unfold fwdH;rw [if_neg (fun e=>hne (List.length_eq_zero_iff.1 e))]
    simp only [this];exact h.tab
theorem Zio {S:Sta} {X:Aux} {g:Int×List Pl} (hg:Good S X.op) (h:Pln S X g) :
  Good (cAbort S X).S (cAbort S X).X.op∧(∃ g',Pln (cAbort S X).S (cAbort S X).X g'∧((cAbort S X).e=0→g'=(X.hb,X.hps)∧S.plan≠[]∧S.back=false)∧((cAbort S X).e≠0→g'=g∧(cAbort S X).S=S∧(cAbort S X).X=X))∧Eff S (cAbort S X).S∧pot ((cAbort S X).S,(cAbort S X).X.op)=pot (S,X.op):=by
 unfold cAbort;by_cases h1:S.plan.length=0
 ·rw [if_pos h1];exact ⟨hg,⟨g,h,fun h=>by simp at h,fun _=>⟨rfl,rfl,rfl⟩⟩,Eff.refl _,rfl⟩
 ·rw [if_neg h1];have hne:S.plan≠[]:=fun e=>h1 (by rw [e];rfl)
  by_cases h2:S.back=true
  ·rw [if_pos h2];exact ⟨hg,⟨g,h,fun h=>by simp at h,fun _=>⟨rfl,rfl,rfl⟩⟩,Eff.refl _,rfl⟩
  ·rw [if_neg h2];simp only;have hot:=h.home hne (ZO h2);obtain ⟨k1,k2⟩:=Df.Zgr h.tab hot;refine ⟨ZaR hg _ _ _,⟨(X.hb,X.hps),⟨h.tab,hot,fun hn=>⟨rfl,?_,?_⟩,fun _=>⟨k1,k2⟩,fun h=>by simp at h,fun hn hbk=>?_,Zfs hot,fun h=>by simp at h⟩,fun _=>⟨rfl,hne,ZO h2⟩,fun h=>absurd rfl h⟩,⟨fun _ h _=>h,fun _ h _=>.inl h,fun _ h=>h⟩,rfl⟩
   ·have hn':Df.diffL S.bud S.pools X.hb X.hps=[]:=hn;show anyS (Df.diffL S.bud S.pools X.hb X.hps)=false;rw [hn'];rfl
   ·have hn':Df.diffL S.bud S.pools X.hb X.hps=[]:=hn;rw [hn'] at k2;exact k2.symm
   ·have hbk':anyS (Df.diffL S.bud S.pools X.hb X.hps)=false:=hbk;unfold anyS at hbk';simp only [Bool.not_eq_false',decide_eq_true_eq] at hbk';exact absurd (List.length_eq_zero_iff.1 hbk') hn
end Lw
end Go.Proofs.YtcpikklofilkcaaGreat
