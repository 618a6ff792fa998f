import Derived.Test.YtcpikklofilkcaaGreatNqAg
import Derived.Test.YtcpikklofilkcaaGreatNqAi
import Derived.Test.YtcpikklofilkcaaGreatNqAq
import Derived.Test.YtcpikklofilkcaaGreatNqAo
import Derived.Test.YtcpikklofilkcaaGreatNqAm
set_option maxRecDepth 100000
set_option maxHeartbeats 16000000
namespace Go.Proofs.YtcpikklofilkcaaGreat
open Go.RowKit
namespace Lw
open Co
theorem Zcd {α:Type} {p:α→Bool}:∀ {l:List α} {k:Nat} {s:α},l[k]?=some s→p s=true→cntG p (l.eraseIdx k)+1=cntG p l
 | [],k,s,h,_=>by simp at h
 | y :: r,0,s,h,hp=>by
  simp at h;subst h;unfold cntG;simp [hp]
 | y :: r,k+1,s,h,hp=>by
  have ih:=Zcd (l:=r) (k:=k) (by simpa using h) hp;unfold cntG at ih ⊢;rw [List.eraseIdx_cons_succ,List.filter_cons,List.filter_cons];split
  ·simp only [List.length_cons];omega
  ·exact ih
theorem Zby {α:Type} {l:List α} {k:Nat} (h:k<l.length):(l.eraseIdx k).length+1=l.length:=by
 rw [List.length_eraseIdx_of_lt h];omega
theorem Zb9 (pool:ByteArray) (n:Int) (op:Int):∀ (f:Nat) (S:Sta),Inv S op→S.srv.length<f→cThinP pool ((cntG (isPoolV pool) S.srv:Int) - n).toNat S={S with srv:=trimR pool false n f S.srv}
 | 0,_,_,h=>by omega
 | f+1,S,hI,hf=>by
  rw [trimR];simp only [Bool.false_eq_true,if_false];by_cases hc:(cntG (isPoolV pool) S.srv:Int)≤n
  ·rw [if_pos hc,show ((cntG (isPoolV pool) S.srv:Int) - n).toNat=0 by omega];rfl
  ·rw [if_neg hc];have hp:(fun s=>isPoolV pool s&&isCliV 0 s)=isIdle pool false:=by
    funext s
    simp only [isPoolV,isCliV,isIdle,Bool.false_or];exact Bool.and_comm _ _
   obtain ⟨m,hm⟩:∃ m,((cntG (isPoolV pool) S.srv:Int) - n).toNat=m+1:=⟨_,(Nat.succ_pred_eq_of_pos (by omega)).symm⟩;rw [hm,cThinP,hp];cases hl:lastI (isIdle pool false) S.srv with
   | none=>rw [Za0 hl]
   | some k =>
    obtain ⟨s,hs,hs2⟩:=ZbX hl;rw [hs2];simp only;have hps:=(ZaN hs2).2;have e:cShut S s.id=rClosed S k:=by unfold cShut rClosed;rw [Zal S.srv hI.ids k s hs]
    have hpo:isPoolV pool s=true:=by
     rw [←hp] at hps;simp only [Bool.and_eq_true] at hps;exact hps.1
    have hce:=Zcd (p:=isPoolV pool) hs hpo;have hle:=Zby (List.getElem?_eq_some_iff.1 hs).1;have ih:=Zb9 pool n op f (rClosed S k) (ZaT hI k) (by show (S.srv.eraseIdx k).length<f;omega);rw [e,←show ((cntG (isPoolV pool) (rClosed S k).srv:Int) - n).toNat=m by show ((cntG (isPoolV pool) (S.srv.eraseIdx k):Int) - n).toNat=m;omega,ih];rfl
theorem ZdD (pool:ByteArray) (n:Int) (op:Int):∀ (f:Nat) (S:Sta),Inv S op→S.srv.length<f→cThinA ((S.srv.length:Int) - n).toNat S={S with srv:=trimR pool true n f S.srv}
 | 0,_,_,h=>by omega
 | f+1,S,hI,hf=>by
  rw [trimR];simp only [if_true];by_cases hc:(S.srv.length:Int)≤n
  ·rw [if_pos hc,show ((S.srv.length:Int) - n).toNat=0 by omega];rfl
  ·rw [if_neg hc];have hp:isCliV 0=isIdle pool true:=by
    funext s
    simp [isCliV,isIdle]
   obtain ⟨m,hm⟩:∃ m,((S.srv.length:Int) - n).toNat=m+1:=⟨_,(Nat.succ_pred_eq_of_pos (by omega)).symm⟩;rw [hm,cThinA,hp];cases hl:lastI (isIdle pool true) S.srv with
   | none=>rw [Za0 hl]
   | some k =>
    obtain ⟨s,hs,hs2⟩:=ZbX hl;rw [hs2];simp only;have e:cShut S s.id=rClosed S k:=by unfold cShut rClosed;rw [Zal S.srv hI.ids k s hs]
    have hle:=Zby (List.getElem?_eq_some_iff.1 hs).1;have ih:=ZdD pool n op f (rClosed S k) (ZaT hI k) (by show (S.srv.eraseIdx k).length<f;omega);rw [e,←show (((rClosed S k).srv.length:Int) - n).toNat=m by show (((S.srv.eraseIdx k).length:Int) - n).toNat=m;omega,ih];rfl
theorem Zb5 (pool:ByteArray) (n:Int) (hn:0≤n) (op:Int):∀ (f:Nat) (S:Sta),Inv S op→S.wts.length<f→cThinL pool ((cntG (isPoolW pool) S.wts:Int) - n).toNat S={S with wts:=heldR pool n f S.wts}
 | 0,_,_,h=>by omega
 | f+1,S,hI,hf=>by
  rw [heldR];by_cases hc:(cntG (isPoolW pool) S.wts:Int)≤n
  ·rw [if_pos hc,show ((cntG (isPoolW pool) S.wts:Int) - n).toNat=0 by omega];rfl
  ·rw [if_neg hc];obtain ⟨m,hm⟩:∃ m,((cntG (isPoolW pool) S.wts:Int) - n).toNat=m+1:=⟨_,(Nat.succ_pred_eq_of_pos (by omega)).symm⟩;rw [hm,cThinL];cases hl:lastI (isPoolW pool) S.wts with
   | none =>
    have h0:=Zbm (Za0 hl);have:cntG (isPoolW pool) S.wts=0:=by
     unfold cntG;rw [List.filter_eq_nil_iff.2 (fun x hx=>by rw [h0 x hx];simp)];rfl
    omega
   | some k =>
    obtain ⟨s,hs,hs2⟩:=ZbX hl;rw [hs2];simp only [orW,Option.getD_some];have hps:=(ZaN hs2).2;have e:cQuit S s.client=rLeft S k:=by unfold cQuit rLeft;rw [Z3 S.wts hI.cli k s hs]
    have hce:=Zcd (p:=isPoolW pool) hs hps;have hle:=Zby (List.getElem?_eq_some_iff.1 hs).1;have hI':Inv (rLeft S k) op:=⟨hI.ids,hI.low,hI.op0,hI.cli.sublist (List.eraseIdx_sublist _ _)⟩;have ih:=Zb5 pool n hn op f (rLeft S k) hI' (by show (S.wts.eraseIdx k).length<f;omega);rw [e,←show ((cntG (isPoolW pool) (rLeft S k).wts:Int) - n).toNat=m by show ((cntG (isPoolW pool) (S.wts.eraseIdx k):Int) - n).toNat=m;omega,ih];rfl
theorem ZcD {α:Type} {p:α→Bool}:∀ {l:List α} {k:Nat} {s:α},l[k]?=some s→p s=true→(l.eraseIdx k).filter (fun x=>!p x)=l.filter (fun x=>!p x)
 | [],k,s,h,_=>by simp at h
 | y :: r,0,s,h,hp=>by
  simp at h;subst h;simp [hp]
 | y :: r,k+1,s,h,hp=>by
  have ih:=ZcD (l:=r) (k:=k) (by simpa using h) hp;rw [List.eraseIdx_cons_succ,List.filter_cons,List.filter_cons,ih]
theorem ZdB (pool:ByteArray) (far:Int):∀ (f:Nat) (ss:List Srv),ss.length<f→movR pool far f ss=ss.filter (fun x=>!isStr pool far true x)
 | 0,_,h=>by omega
 | f+1,ss,hf=>by
  rw [movR];cases hk:ss.findIdx? (isStr pool far true) with
  | none =>
   rw [List.findIdx?_eq_none_iff] at hk;simp only;exact (List.filter_eq_self.2 (fun x hx=>by rw [hk x hx];rfl)).symm
  | some k =>
   obtain ⟨s,hs,hs2⟩:=ZP hk;have hp:isStr pool far true s=true:=List.find?_some hs2;have hle:=Zby (List.getElem?_eq_some_iff.1 hs).1;simp only;rw [ZdB pool far f _ (by omega),ZcD hs hp]
theorem Zix (pool:ByteArray) (far:Int):keepF pool far=fun x=>!isStr pool far true x:=by
 funext x
 unfold keepF othF isStr isPoolV;cases (x.pool.toList == pool.toList) <;> cases (x.far == far) <;> cases h:(x.client == 0) <;> simp_all
theorem Zkd {ps:List Pl} {p:Nat} {x:Pl} (hx:ps[p]?=some x) (f:Pl→Pl):ps.modify p f=ps.set p (f x):=Zaf f hx
theorem Zjn {t:Int×List Pl} {s:Stp} (hu:Df.Up t.2) (hg:Df.goodS t s):takeT s.kind s.name s.n t.1 t.2=rTab s.kind s.name s.n t.1 t.2:=by
 rw [ZeO hu hg];unfold rTab Df.stepT;by_cases h3:s.kind=3∨s.kind=7
 ·rw [if_pos h3,if_pos h3]
 ·rw [if_neg h3,if_neg h3];by_cases h2:s.kind=2
  ·rw [if_pos h2,if_pos h2];rfl
  ·rw [if_neg h2,if_neg h2];by_cases h4:s.kind=4
   ·rw [if_pos h4,if_pos h4]
   ·rw [if_neg h4,if_neg h4];have hp:∃ p,Df.lk t.2 s.name=some p∧(s.kind=1∨s.kind=5∨s.kind=6∨s.kind=8):=by
     rcases hg with ⟨h,_⟩ | ⟨h,_⟩ | ⟨h,_⟩ | ⟨h,_⟩ | ⟨p,hp,h⟩
     ·exact absurd (.inl h) h3
     ·exact absurd (.inr h) h3
     ·exact absurd h h4
     ·exact absurd h h2
     ·exact ⟨p,hp,by rcases h with ⟨h,_⟩ | ⟨h,_⟩ | ⟨h,_⟩ | ⟨h,_⟩ <;> simp [h]⟩
    obtain ⟨p,hp,hk⟩:=hp;have hp':t.2.find? (isNameP s.name)=some p:=hp;cases hi:t.2.findIdx? (isNameP s.name) with
    | none =>
     have:=(ZB (isNameP s.name) t.2).2 hi;rw [hp'] at this;simp at this
    | some i =>
     obtain ⟨x,hx,hx2⟩:=ZP hi;rw [hp'] at hx2;simp only [Option.some.injEq] at hx2;subst hx2;simp only;have hn:=Df.Zap hp;have e:=fun f=>(Zkd hx f).trans (Df.Zgh s.name f hu hx hn)
     by_cases h5:s.kind=5
     ·rw [if_pos h5,show updP s.kind s.n=(fun q:Pl=>(⟨q.nm,q.sz,q.wt,s.n⟩:Pl)) by funext q;simp [updP,h5],e]
     ·rw [if_neg h5];by_cases h6:s.kind=6
      ·rw [if_pos h6,show updP s.kind s.n=(fun q:Pl=>(⟨q.nm,q.sz,s.n,q.fr⟩:Pl)) by funext q;simp [updP,h6],e]
      ·rw [if_neg h6];have h18:s.kind=1∨s.kind=8:=by
        rcases hk with h | h | h | h
        ·exact .inl h
        ·exact absurd h h5
        ·exact absurd h h6
        ·exact .inr h
       rw [show updP s.kind s.n=(fun q:Pl=>(⟨q.nm,s.n,q.wt,q.fr⟩:Pl)) by funext q;rcases h18 with h | h <;> simp [updP,h],e]
theorem Zhi {S:Sta} {op:Int} (hI:Inv S op) {s:Stp} (hu:Df.Up S.pools) (hg:Df.goodS (S.bud,S.pools) s) (hn:0≤s.n):cBegin s.kind s.name s.n S=rBegin s.kind s.name s.n S:=by
 have ht:=Zjn (t:=(S.bud,S.pools)) hu hg;simp only at ht;unfold cBegin rBegin;rw [ht];obtain ⟨T,hT⟩:∃ T,tabS S (rTab s.kind s.name s.n S.bud S.pools)=T:=⟨_,rfl⟩;have hIT:Inv T op:=by rw [←hT];exact ZgE hI _
 rw [hT];simp only;by_cases h1:s.kind=1
 ·rw [if_pos h1,if_pos h1];exact Zb9 s.name s.n op _ T hIT (Nat.lt_succ_self _)
 ·rw [if_neg h1,if_neg h1];by_cases h2:s.kind=2
  ·rw [if_pos h2,if_pos h2];have e:=Zb5 s.name 0 (Int.le_refl _) op (T.wts.length+1) T hIT (Nat.lt_succ_self _);have hIR:Inv (rHeld T s.name 0) op:=by
    have:=(Zbq s.name 0 (Int.le_refl _) _ T (Int.self_le_toNat _)).1;have h:=ZbV hIT this;rw [e] at h;exact h
   rw [e];exact Zb9 s.name 0 op _ (rHeld T s.name 0) hIR (Nat.lt_succ_self _)
  ·rw [if_neg h2,if_neg h2];by_cases h3:s.kind=3
   ·rw [if_pos h3,if_pos h3];exact ZdD ⟨#[]⟩ s.n op _ T hIT (Nat.lt_succ_self _)
   ·rw [if_neg h3,if_neg h3];by_cases h5:s.kind=5
    ·rw [if_pos h5,if_pos h5];unfold cShutF rMove;rw [Zix,ZdB s.name s.n _ _ (Nat.lt_succ_self _)]
    ·rw [if_neg h5,if_neg h5];by_cases h6:s.kind=6
     ·rw [if_pos h6,if_pos h6];exact Zb5 s.name s.n hn op _ T hIT (Nat.lt_succ_self _)
     ·rw [if_neg h6,if_neg h6]
def HomeI (S:Sta) (X:Aux) (Y:Int×List Pl):Prop:=S.plan≠[]→S.back=false→Y=(X.hb,X.hps)
structure SameQ (a:Rsp) (b:Rsq):Prop where
 S:a.S=b.S
 op:a.X.op+1=b.nx
 n:a.n=b.n
 e:a.e=b.e
 l:a.l=b.l
 home:HomeI b.S a.X b.Y
theorem Zhf (S:Sta) (b:Bool) (nx:Int) (i:Nat) (c:Wtr):rLent {S with begun:=b} nx i c=(rLent S nx i c).map (fun y=>({y.1 with begun:=b},y.2)):=by
 unfold rLent;cases S.pools.find? (isNameP c.pool) with
 | none=>rfl
 | some x =>
  simp only;cases S.srv.findIdx? (isIdle c.pool false) with
  | some k=>rfl
  | none =>
   simp only;split
   ·rfl
   ·show (match rRoom S with | none=>none | some none=>_ | some (some k)=>_)=_;cases rRoom S with
    | none=>rfl
    | some o=>cases o <;> rfl
theorem ZcX (S:Sta) (b:Bool) (nx:Int):∀ (l:List Wtr) (i:Nat),rFirst {S with begun:=b} nx i l=(rFirst S nx i l).map (fun y=>({y.1 with begun:=b},y.2))
 | [],i=>rfl
 | c :: r,i=>by
  rw [rFirst,rFirst,Zhf];cases rLent S nx i c with
  | none=>exact ZcX S b nx r (i+1)
  | some y=>rfl
theorem Zcg:∀ (f:Nat) (S:Sta) (b:Bool) (nx:Int),rServed f {S with begun:=b} nx=({(rServed f S nx).1 with begun:=b},(rServed f S nx).2)
 | 0,S,b,nx=>rfl
 | f+1,S,b,nx=>by
  rw [rServed,rServed];show (match rFirst {S with begun:=b} nx 0 S.wts with | none=>_ | some y=>_)=_;rw [ZcX];cases rFirst S nx 0 S.wts with
  | none=>rfl
  | some y=>exact Zcg f y.1 b y.2
theorem Zfb (f:Nat) (S:Sta) (nx:Int):(rServed f S nx).1.plan=S.plan∧(rServed f S nx).1.begun=S.begun∧(rServed f S nx).1.back=S.back:=(ZaK f S nx).2.2.2
theorem Zca (k:Int) (nm:ByteArray) (n:Int) (S:Sta):(rBegin k nm n S).plan=S.plan∧(rBegin k nm n S).begun=S.begun∧(rBegin k nm n S).back=S.back:=by
 unfold rBegin rTrim rMove rHeld tabS;simp only;repeat' split
 all_goals exact ⟨rfl,rfl,rfl⟩
theorem Zgd (k:Int) (nm:ByteArray) (n:Int) (S:Sta) (b:Bool):cEnded k nm n {S with begun:=b}=cEnded k nm n S:=rfl
theorem ZeW {S:Sta} {X:Aux} {g Y:Int×List Pl} (hg:Good S X.op) (h:Pln S X g) (hY:HomeI S X Y):SameQ (cTurn S X) (rTurn S (X.op+1) Y):=by
 have hI:=hg.fine.inv;unfold cTurn rTurn;cases hp:S.plan with
 | nil=>exact ⟨rfl,rfl,rfl,rfl,rfl,fun hne=>absurd hp hne⟩
 | cons s r =>
  obtain ⟨R,hR⟩:∃ R,(if S.begun=true then S else cBegin s.kind s.name s.n S)=R:=⟨_,rfl⟩;have hR2:(if S.begun=true then S else rBegin s.kind s.name s.n S)=R:=by
   rw [←hR];cases hb:S.begun with
   | true=>rfl
   | false =>
    have k1:=(h.rest hb).1;rw [hp] at k1;have hn:=(Zct (h.ok s (by rw [hp];simp))).n.1;simp only [Bool.false_eq_true,if_false];exact (Zhi hI k1.1 k1.2.2.1 hn).symm
  have hf:R.plan=S.plan∧R.back=S.back:=by
   rw [←hR2];split
   ·exact ⟨rfl,rfl⟩
   ·exact ⟨(Zca _ _ _ _).1,(Zca _ _ _ _).2.2⟩
  have hIR:Inv R X.op:=by
   rw [←hR];split
   ·exact hI
   ·rename_i hb
    have hb':=ZO hb;have k1:=(h.rest hb').1;rw [hp] at k1;have hn:=(Zct (h.ok s (by rw [hp];simp))).n.1;exact ((ZeQ hg k1.1 k1.2.2.1 hn).fine hg.fine).inv
  have e1:cTurnS s.kind s.name s.n S.begun S X.op=cServe R.wts.length R X.op:=by unfold cTurnS;rw [hR]
  have e2:rTurnS s S (X.op+1)=({(cServe R.wts.length R X.op).1 with begun:=true},(cServe R.wts.length R X.op).2+1):=by
   unfold rTurnS;rw [hR2];simp only;rw [Zcg,←(Z4 R.wts.length R X.op hIR).1]
  have hq:(cServe R.wts.length R X.op).1.plan=s :: r∧(cServe R.wts.length R X.op).1.back=S.back:=by
   have e:=(Z4 R.wts.length R X.op hIR).1;have f:=Zfb R.wts.length R (X.op+1);rw [←e] at f;exact ⟨f.1.trans (hf.1.trans hp),f.2.2.trans hf.2⟩
  simp only;rw [e1,e2];obtain ⟨⟨T,t⟩,hT⟩:∃ T,cServe R.wts.length R X.op=T:=⟨_,rfl⟩;rw [hT] at hq ⊢;simp only at hq ⊢;rw [Zgd s.kind s.name s.n T true];obtain ⟨hq1,hq2⟩:=hq;cases hd:cEnded s.kind s.name s.n T with
  | false =>
   refine ⟨rfl,rfl,rfl,rfl,rfl,fun _ hb=>?_⟩;exact hY (by rw [hp];simp) (hq2.symm.trans hb)
  | true =>
   have hl:T.plan.tail=r:=by rw [hq1];rfl
   unfold cTurned rEnd;simp only [if_true];rw [hl];by_cases hr:r.length=0
   ·rw [if_pos hr];refine ⟨?_,rfl,rfl,rfl,rfl,fun hne=>absurd (List.length_eq_zero_iff.1 hr) hne⟩;simp [hr]
   ·rw [if_neg hr];refine ⟨?_,rfl,rfl,rfl,rfl,fun _ hb=>?_⟩
    ·simp [hr]
    ·simp [hr] at hb;exact hY (by rw [hp];simp) (hq2.symm.trans hb)
theorem ZcY {S:Sta} {X:Aux} {Y:Int×List Pl} {a:Ans} (hY:HomeI S X Y):SameQ (cReload S X a) (rReload S (X.op+1) Y a):=by
 unfold cReload rReload;by_cases h1:¬S.plan.length=0
 ·rw [if_pos h1,if_pos h1];exact ⟨rfl,rfl,rfl,rfl,rfl,hY⟩
 ·rw [if_neg h1,if_neg h1];by_cases h2:¬a.err=0
  ·rw [if_pos h2,if_pos h2];exact ⟨rfl,rfl,rfl,rfl,rfl,hY⟩
  ·rw [if_neg h2,if_neg h2];refine ⟨rfl,rfl,rfl,rfl,rfl,fun hne _=>?_⟩;have hne':Df.diffL S.bud S.pools a.tab.1 a.tab.2≠[]:=hne;unfold fwdH;rw [if_neg (fun e=>hne' (List.length_eq_zero_iff.1 e))]
theorem ZdK {S:Sta} {X:Aux} {Y:Int×List Pl} (hY:HomeI S X Y):SameQ (cAbort S X) (rAbort S (X.op+1) Y):=by
 unfold cAbort rAbort;by_cases h1:S.plan.length=0
 ·rw [if_pos h1,if_pos h1];exact ⟨rfl,rfl,rfl,rfl,rfl,hY⟩
 ·rw [if_neg h1,if_neg h1];by_cases h2:S.back=true
  ·rw [if_pos h2,if_pos h2];exact ⟨rfl,rfl,rfl,rfl,rfl,hY⟩
  ·rw [if_neg h2,if_neg h2];have e:=hY (fun e=>h1 (by rw [e];rfl)) (ZO h2);rw [e];refine ⟨rfl,rfl,rfl,rfl,rfl,fun hne hb=>?_⟩;have hne':Df.diffL S.bud S.pools X.hb X.hps≠[]:=hne;have hb':anyS (Df.diffL S.bud S.pools X.hb X.hps)=false:=hb;unfold anyS at hb';simp only [Bool.not_eq_false',decide_eq_true_eq] at hb';exact absurd (List.length_eq_zero_iff.1 hb') hne'
structure LnOk (l:Ln):Prop where
 fit:allFit l.sets=true
 kind:(l.kind=1∧∃ n,l.sets=[(3,n)])∨((l.kind=2∨l.kind=3)∧isNm l.name=true)
structure LsOk (ls:List Ln):Prop where
 ok:∀ l∈ls,LnOk l
 hd:∀ l r,ls=l :: r→l.kind=1
 cnt:cntC ls 3≤6
 dis:ls.Pairwise (fun a b=>a.kind=3→b.kind=3→a.name≠b.name)
 one:∀ l r,ls=l :: r→∀ x∈r,x.kind≠1
theorem Zfk {k:Nat} {fs:List ByteArray} {l:Ln} (h:namedF k fs=some l):l.kind=k∧isNm l.name=true:=by
 unfold namedF at h;cases fs with
 | nil=>simp at h
 | cons nm r =>
  simp only at h;by_cases hn:isNm nm=true
  ·rw [if_pos hn] at h;cases r with
   | nil=>simp only [Option.some.injEq] at h;subst h;exact ⟨rfl,hn⟩
   | cons fw r2 =>
    simp only at h;split at h
    ·cases r2 with
     | nil=>simp at h
     | cons b r3 =>
      simp only at h;split at h
      ·cases hs:setsF r3 with
       | none=>rw [hs] at h;simp at h
       | some ss=>rw [hs] at h;simp only [Option.map_some,Option.some.injEq] at h;subst h;exact ⟨rfl,hn⟩
      ·simp at h
    ·cases hs:setsF (fw :: r2) with
     | none=>rw [hs] at h;simp at h
     | some ss=>rw [hs] at h;simp only [Option.map_some,Option.some.injEq] at h;subst h;exact ⟨rfl,hn⟩
  ·rw [if_neg hn] at h;simp at h
theorem ZiK {fs:List ByteArray} {l:Ln} (h:parseF fs=some l):(l.kind=1∧∃ n,l.sets=[(3,n)])∨((l.kind=2∨l.kind=3)∧isNm l.name=true):=by
 unfold parseF at h;cases fs with
 | nil=>simp at h
 | cons f0 r =>
  simp only at h;split at h
  ·left;unfold budF at h;split at h
   ·rename_i a
    cases hn:numF a with
    | none=>rw [hn] at h;simp at h
    | some n=>rw [hn] at h;simp only [Option.map_some,Option.some.injEq] at h;subst h;exact ⟨rfl,n,rfl⟩
   ·simp at h
  ·split at h
   ·obtain ⟨h1,h2⟩:=Zfk h;exact .inr ⟨.inl h1,h2⟩
   ·split at h
    ·obtain ⟨h1,h2⟩:=Zfk h;exact .inr ⟨.inr h1,h2⟩
    ·simp at h
theorem ZjF {acc:List Ln} {l:Ln} (h:LsOk acc) (hk:(l.kind=1∧∃ n,l.sets=[(3,n)])∨((l.kind=2∨l.kind=3)∧isNm l.name=true)) (hf:faultC acc l=0) (p:Nat):LsOk (acc++[{l with place:=p}]):=by
 unfold faultC at hf;by_cases f1:(decide (acc.length=0) != decide (l.kind=1))=true
 ·rw [if_pos f1] at hf;simp at hf
 ·rw [if_neg f1] at hf;by_cases f2:allFit l.sets=false
  ·rw [if_pos f2] at hf;simp at hf
  ·rw [if_neg f2] at hf;by_cases f3:manyC acc l.kind=true
   ·rw [if_pos f3] at hf;simp at hf
   ·rw [if_neg f3] at hf;by_cases f4:twc l.sets=true
    ·rw [if_pos f4] at hf;simp at hf
    ·rw [if_neg f4] at hf;by_cases f5:(findC acc l.kind l.name).isSome=true
     ·rw [if_pos f5] at hf;simp at hf
     ·have e1:acc.length=0↔l.kind=1:=by
       have:decide (acc.length=0)=decide (l.kind=1):=by simpa using f1
       exact ⟨fun h=>by rw [decide_eq_true h] at this;exact of_decide_eq_true this.symm,fun h=>by rw [decide_eq_true h] at this;exact of_decide_eq_true this⟩
      have hfd:findC acc l.kind l.name=none:=by
       cases hc:findC acc l.kind l.name with
       | none=>rfl
       | some x=>rw [hc] at f5;simp at f5
      refine ⟨fun x hx=>?_,fun x r hx=>?_,?_,?_,fun x r hx y hy=>?_⟩
      ·rcases List.mem_append.1 hx with hx | hx
       ·exact h.ok x hx
       ·rw [List.mem_singleton] at hx;subst hx;exact ⟨by simpa using f2,hk⟩
      ·cases acc with
       | nil =>
        obtain ⟨rfl,_⟩:=List.cons.inj hx;exact e1.1 rfl
       | cons a q =>
        obtain ⟨rfl,_⟩:=List.cons.inj hx;exact h.hd a q rfl
      ·unfold cntC;rw [List.filter_append,List.length_append];have hc:=h.cnt;unfold cntC at hc;by_cases h3:l.kind=3
       ·have hm:¬6≤cntC acc 3:=by
         intro h6;apply f3;unfold manyC;rw [h3,if_pos (.inr rfl)];exact decide_eq_true h6
        unfold cntC at hm;have:(List.filter (fun x:Ln=>x.kind == 3) [{l with place:=p}]).length≤1:=List.length_filter_le _ _;omega
       ·have:(List.filter (fun x:Ln=>x.kind == 3) [{l with place:=p}]).length=0:=by
         simp [h3]
        omega
      ·refine List.pairwise_append.2 ⟨h.dis,List.pairwise_singleton _ _,fun a ha b hb ka kb e=>?_⟩;rw [List.mem_singleton] at hb;subst hb;have:=List.find?_eq_none.1 hfd a ha;apply this;have kb':l.kind=3:=kb;have e':a.name=l.name:=e;rw [ka,kb',e'];simp
      ·cases acc with
       | nil =>
        obtain ⟨rfl,rfl⟩:=List.cons.inj hx;simp at hy
       | cons a q =>
        obtain ⟨rfl,rfl⟩:=List.cons.inj hx;rcases List.mem_append.1 hy with hy | hy
        ·exact h.one a q rfl y hy
        ·rw [List.mem_singleton] at hy;subst hy;intro e;have:=e1.2 e;simp at this
theorem ZfQ:∀ (ps:List ByteArray) (i:Nat) (acc:List Ln),LsOk acc→(rdC i acc ps).err=0→LsOk (rdC i acc ps).lines∧(rdC i acc ps).lines≠[]
 | [],i,acc,h,he=>by
  rw [rdC] at he ⊢;by_cases h0:acc.length=0
  ·rw [if_pos h0] at he;simp at he
  ·rw [if_neg h0] at he ⊢;exact ⟨h,fun e=>h0 (by simp only at e;rw [e];rfl)⟩
 | p :: r,i,acc,h,he=>by
  by_cases h0:(flds p).length=0
  ·rw [Zdm h0] at he ⊢;exact ZfQ r _ _ h he
  ·rw [rdC,if_neg h0] at he ⊢;cases hp:parseF (flds p) with
   | none=>rw [hp] at he;simp at he
   | some l =>
    rw [hp] at he;simp only at he ⊢;by_cases hf:faultC acc l=0
    ·rw [if_pos hf] at he ⊢;exact ZfQ r _ _ (ZjF h (ZiK hp) hf _) he
    ·rw [if_neg hf] at he;exact absurd he hf
theorem Zjh {ss:List (Nat×Nat)} (h:allFit ss=true) {k n:Nat} (hv:valL ss k=some n):∃ p∈ss,(wordB p.1).toList=(wordB k).toList∧p.2=n∧fitsK p.1 p.2=true:=by
 unfold valL at hv;cases hf:ss.find? (fun p=>(wordB p.1).toList == (wordB k).toList) with
 | none=>rw [hf] at hv;simp at hv
 | some p =>
  rw [hf] at hv;have hm:=List.mem_of_find?_eq_some hf;have hw:=List.find?_some hf;refine ⟨p,hm,eq_of_beq hw,Option.some.inj hv,?_⟩;unfold allFit at h;exact List.all_eq_true.1 h p hm
theorem Zfw {k:Nat} {n:Int} (h:fitsK k n=true):(k=0→0≤n∧n≤20)∧(k=1→0≤n∧n≤20)∧(k=2→0≤n∧n≤999)∧(3≤k→1≤n∧n≤99):=by
 match k with
 | 0=>simp [fitsK,inB] at h ⊢;omega
 | 1=>simp [fitsK,inB] at h ⊢;omega
 | 2=>simp [fitsK,inB] at h ⊢;omega
 | k+3=>simp [fitsK,inB] at h ⊢;omega
theorem Zke {a k:Nat} (h:(wordB a).toList=(wordB k).toList) (hk:k≤2):a=k:=by
 have tl:∀ x:Nat,(wordB x).toList=kwL x:=fun x=>by rw [ByteArray.toList_eq];rfl
 rw [tl,tl] at h;match k,hk with
 | 0,_=>match a with
  | 0=>rfl
  | 1=>exact absurd h (by decide)
  | 2=>exact absurd h (by decide)
  | a+3=>exact absurd h (show ¬kwL 3=kwL 0 by decide)
 | 1,_=>match a with
  | 0=>exact absurd h (by decide)
  | 1=>rfl
  | 2=>exact absurd h (by decide)
  | a+3=>exact absurd h (show ¬kwL 3=kwL 1 by decide)
 | 2,_=>match a with
  | 0=>exact absurd h (by decide)
  | 1=>exact absurd h (by decide)
  | 2=>rfl
  | a+3=>exact absurd h (show ¬kwL 3=kwL 2 by decide)
def InK (k:Nat) (n:Int):Prop:=(k=2→0≤n∧n≤999)∧(k<2→0≤n∧n≤20)
theorem Zir {ss:List (Nat×Nat)} (h:allFit ss=true) {k n:Nat} (hk:k≤2) (hv:valL ss k=some n):InK k n:=by
 obtain ⟨p,_,h2,h3,h4⟩:=Zjh h hv;have e:=Zke h2 hk;obtain ⟨a,b⟩:=p;simp only at e h3 h4;subst e h3;have:=Zfw h4;exact ⟨fun e=>this.2.2.1 e,fun e=>by
  rcases Nat.lt_or_ge a 1 with h1 | h1
  ·exact this.1 (by omega)
  ·exact this.2.1 (by omega)⟩
theorem ZhZ {k:Nat} {o:Int} (hk:k≤2) (ho:InK k o):∀ ls:List Ln,(∀ l∈ls,LnOk l)→InK k (chvC k o ls)
 | [],_=>ho
 | p :: r,h=>by
  unfold chvC;cases hv:valL p.sets k with
  | none=>exact ZhZ hk ho r (fun l hl=>h l (by simp [hl]))
  | some n=>exact Zir (h p (by simp)).fit hk hv
theorem Za2 (all:List Ln):∀ (f:Nat) (nm:ByteArray),∀ l∈chC all f nm,l∈all
 | 0,_,l,hl=>by simp [chC] at hl
 | f+1,nm,l,hl=>by
  rw [chC] at hl;cases hf:findC all 2 nm with
  | none=>rw [hf] at hl;simp at hl
  | some p =>
   rw [hf] at hl;rcases List.mem_cons.1 hl with rfl | hl
   ·exact List.mem_of_find?_eq_some hf
   ·exact Za2 all f _ l hl
theorem Zef {k:Nat} {o:Int} (hk:k≤2) (ho:InK k o) {ss:List (Nat×Nat)} (h:allFit ss=true) {ls:List Ln} (hl:∀ l∈ls,LnOk l):InK k (valC k o ss ls):=by
 unfold valC;cases hv:valL ss k with
 | none=>exact ZhZ hk ho ls hl
 | some n=>exact Zir h hk hv
theorem ZjC {all:List Ln} (ha:∀ l∈all,LnOk l) {l:Ln} (hl:LnOk l) (h3:l.kind=3):Okp (plC all l):=by
 have hc:∀ x∈chC all 7 l.frm,LnOk x:=fun x hx=>ha x (Za2 _ _ _ x hx)
 have v0:=Zef (k:=0) (o:=1) (by omega) ⟨by omega,by omega⟩ hl.fit hc;have v1:=Zef (k:=1) (o:=0) (by omega) ⟨by omega,by omega⟩ hl.fit hc;have v2:=Zef (k:=2) (o:=0) (by omega) ⟨by omega,by omega⟩ hl.fit hc;have hn:isNm l.name=true:=by
  rcases hl.kind with ⟨h,_⟩ | ⟨_,h⟩
  ·omega
  ·exact h
 exact ⟨hn,(v0.2 (by omega)).1,(v0.2 (by omega)).2,(v1.2 (by omega)).1,(v1.2 (by omega)).2,(v2.1 rfl).1,(v2.1 rfl).2⟩
structure TabI (pre:List Ln) (st:Int×List Pl):Prop where
 bud:pre≠[]→1≤st.1∧st.1≤99
 len:st.2.length=cntC pre 3
 ok:∀ p∈st.2,Okp p∧∃ l∈pre,l.kind=3∧p.nm=l.name
 up:Df.Up st.2
theorem Zeg (pre:List Ln) (l:Ln):cntC (pre++[l]) 3=cntC pre 3+if l.kind=3 then 1 else 0:=by
 unfold cntC;rw [List.filter_append,List.length_append];congr 1;by_cases h:l.kind=3
 ·simp [h]
 ·simp [h]
theorem ZgA (all:List Ln) (ha:∀ l∈all,LnOk l):∀ (r pre:List Ln) (st:Int×List Pl),TabI pre st→LsOk (pre++r)→TabI (pre++r) (r.foldl (stC all) st)
 | [],pre,st,h,_=>by rw [List.append_nil];exact h
 | l :: r,pre,st,h,hl=>by
  have e:pre++l :: r=(pre++[l])++r:=by simp
  rw [e] at hl ⊢;rw [List.foldl_cons];refine ZgA all ha r (pre++[l]) _ ?_ hl;have hlo:LnOk l:=hl.ok l (by simp);unfold stC;by_cases h1:l.kind=1
  ·rw [if_pos h1];refine ⟨fun _=>?_,?_,fun p hp=>?_,h.up⟩
   ·rcases hlo.kind with ⟨_,n,hs⟩ | ⟨h2,_⟩
    ·have hf:=hlo.fit;rw [hs] at hf ⊢;have hv:valL [(3,n)] 3=some n:=by simp [valL]
     unfold valC;rw [hv];have hk:fitsK 3 (n:Int)=true:=by simpa [allFit] using hf
     exact (Zfw hk).2.2.2 (by omega)
    ·omega
   ·rw [Zeg,if_neg (by omega)];exact h.len
   ·obtain ⟨k1,x,k2,k3⟩:=h.ok p hp;exact ⟨k1,x,by simp [k2],k3⟩
  ·rw [if_neg h1];have hpre:pre≠[]:=by
    intro e0;subst e0;have:=hl.hd l r (by simp);exact h1 this
   by_cases h3:l.kind=3
   ·rw [if_pos h3];refine ⟨fun _=>h.bud hpre,?_,fun p hp=>?_,?_⟩
    ·show (insP _ _).length=_;rw [ZX,Zeg,if_pos h3,h.len]
    ·rcases (ZbL _ _ _).1 hp with rfl | hp
     ·exact ⟨ZjC ha hlo h3,l,by simp,h3,rfl⟩
     ·obtain ⟨k1,x,k2,k3⟩:=h.ok p hp;exact ⟨k1,x,by simp [k2],k3⟩
    ·refine Df.ZcG _ h.up ?_;unfold Df.lk;refine List.find?_eq_none.2 (fun p hp hn=>?_);obtain ⟨_,x,k2,k3,k4⟩:=h.ok p hp;have e1:p.nm=l.name:=Df.ZU.1 hn;have hd:=hl.dis;rw [List.append_assoc] at hd;exact (List.pairwise_append.1 hd).2.2 x k2 l (by simp) k3 h3 (k4.symm.trans e1)
   ·rw [if_neg h3];refine ⟨fun _=>h.bud hpre,?_,fun p hp=>?_,h.up⟩
    ·rw [Zeg,if_neg h3];exact h.len
    ·obtain ⟨k1,x,k2,k3⟩:=h.ok p hp;exact ⟨k1,x,by simp [k2],k3⟩
theorem ZbJ (s:ByteArray) (h:(ans s).err=0):Okt (ans s).tab.1 (ans s).tab.2:=by
 unfold ans at h ⊢;by_cases h1:1000<s.size
 ·rw [if_pos h1] at h;simp at h
 ·rw [if_neg h1] at h ⊢;by_cases h2:(rd s).err≠0
  ·rw [if_pos h2] at h;exact absurd h h2
  ·rw [if_neg h2] at h ⊢;by_cases h3:(chE (rd s).lines).1≠0
   ·rw [if_pos h3] at h;exact absurd h h3
   ·rw [if_neg h3];have he:(rdC 0 [] (pieces s 10)).err=0:=by simpa [rd] using h2
    obtain ⟨k1,k2⟩:=ZfQ (pieces s 10) 0 [] ⟨by simp,by simp,by simp [cntC],List.Pairwise.nil,by simp⟩ he;have k:=ZgA (rd s).lines k1.ok (rd s).lines [] (0,[]) ⟨fun h=>absurd rfl h,by simp [cntC],by simp,List.Pairwise.nil⟩ k1;simp only [List.nil_append] at k;show Okt (tabC (rd s).lines).1 (tabC (rd s).lines).2;exact ⟨(k.bud k2).1,(k.bud k2).2,by have h1:=k.len;have h2:=k1.cnt;exact Nat.le_trans (Nat.le_of_eq h1) h2,fun p hp=>(k.ok p hp).1,k.up⟩
structure PlI (S:Sta) (X:Aux) (Y:Int×List Pl):Prop where
 good:Good S X.op
 pln:∃ g,Pln S X g
 home:HomeI S X Y
 y:Y.2.length≤6
 hps:X.hps.length≤6
 plan:S.plan.length≤56
theorem PlI.sml {S:Sta} {X:Aux} {Y:Int×List Pl} (h:PlI S X Y) (hk:RefOk S X.op Y):Sml S Y:=by
 obtain ⟨g,hp⟩:=h.pln;have h1:=hp.tab.len;have h2:=hk.num;exact ⟨by omega,by omega,by omega,by have:=h.plan;omega,by have:=h.y;omega⟩
theorem refTurn {S:Sta} {X:Aux} {Y:Int×List Pl} (hI:PlI S X Y) (hk:RefOk S X.op Y) (u:Stv) (ho:Option Addr) (hc:Nat) (w:World) (h:WdAt w S u Y ho hc) :
  Calls Tryz.prog 18 #[wdA S u (X.op+1) Y ho hc] w fun e w'=>TurnG w w' S u Y ho hc (rTurn S (X.op+1) Y) e:=by
 obtain ⟨g,hp⟩:=hI.pln;cases hpl:S.plan with
 | nil=>exact xTurn0 S u (X.op+1) Y ho hc w h hpl
 | cons s r =>
  have hok:=Zct (hp.ok s (by rw [hpl];simp));have h2:=hk.num;have h3:=hk.pot1;have h4:=hI.good.fine.inv.op0;unfold pot at h3;simp only at h3;refine xTurn1 S u (X.op+1) Y ho hc w s.kind s.name s.n r h hpl (hI.sml hk) (by have:=hp.tab.len;omega) (by omega) (by omega) (by omega) hok.k hok.n.1 (fun hb hkd=>?_);have k1:=(hp.rest hb).1;rw [hpl] at k1;have hg:=k1.2.2.1;have hl:∃ p,Df.lk S.pools s.name=some p:=by
   rcases hg with ⟨h,_⟩ | ⟨h,_⟩ | ⟨h,_⟩ | ⟨h,_⟩ | ⟨p,hp,_⟩
   ·omega
   ·omega
   ·omega
   ·omega
   ·exact ⟨p,hp⟩
  obtain ⟨p,hl⟩:=hl;have hl':S.pools.find? (isNameP s.name)=some p:=hl;cases hi:S.pools.findIdx? (isNameP s.name) with
  | some i=>exact ⟨i,rfl⟩
  | none =>
   have:=(ZB (isNameP s.name) S.pools).2 hi;rw [hl'] at this;simp at this
theorem Zgm {b:Int} {ps:List Pl} (h:Okt b ps):∀ p∈ps,0≤p.sz:=fun p hp=>(h.ok p hp).s0
theorem refReload {S:Sta} {X:Aux} {Y:Int×List Pl} (hI:PlI S X Y) (hk:RefOk S X.op Y) (s:ByteArray) (hs:s.size≤maxLen) (u:Stv) (ho:Option Addr) (hc:Nat) (w:World) (h:WdAt w S u Y ho hc) :
  Calls Tryz.prog 16 #[wdA S u (X.op+1) Y ho hc,.string s] w fun e w'=>RelG w w' S u Y ho hc (rReload S (X.op+1) Y (ans s)) e:=by
 obtain ⟨g,hp⟩:=hI.pln;by_cases hpl:S.plan.length=0
 ·exact xReload1 S u (X.op+1) Y ho hc s w h (hI.sml hk) hpl hs hp.tab.len (fun he=>⟨(ZbJ s he).len,Zgm (ZbJ s he)⟩)
 ·exact xReload0 S u (X.op+1) Y ho hc s w h hpl
theorem refAbort {S:Sta} {X:Aux} {Y:Int×List Pl} (hI:PlI S X Y) (hk:RefOk S X.op Y) (u:Stv) (ho:Option Addr) (hc:Nat) (w:World) (h:WdAt w S u Y ho hc) :
  Calls Tryz.prog 20 #[wdA S u (X.op+1) Y ho hc] w fun e w'=>TurnG w w' S u Y ho hc (rAbort S (X.op+1) Y) e:=by
 obtain ⟨g,hp⟩:=hI.pln;by_cases hpl:S.plan.length=0
 ·exact xAbort0 S u (X.op+1) Y ho hc w h hpl
 ·rcases Bool.eq_false_or_eq_true S.back with hb | hb
  ·exact xAbort1 S u (X.op+1) Y ho hc w h hpl hb
  ·have hne:S.plan≠[]:=fun e=>hpl (by rw [e];rfl)
   have e:=hI.home hne hb;have hot:=hp.home hne hb;refine xAbort2 S u (X.op+1) Y ho hc w h (hI.sml hk) hpl hb hp.tab.len hI.y ?_;rw [e];exact Zgm hot
end Lw
end Go.Proofs.YtcpikklofilkcaaGreat
