import Derived.Test.YtcpikklofilkcaaGreatNqAm
import Derived.Test.YtcpikklofilkcaaGreatNqA
import Derived.Laws.IdiomStrings
import Derived.Test.YtcpikklofilkcaaGreatNqJ
import Derived.Deep.RegionWith
import Derived.Deep.DeepCutAuto
import Derived.Deep.CutBlock
import Derived.Deep.RegionHeld3
import Derived.BigCall
import Derived.Laws.AppendOwnNone
import Derived.Test.YtcpikklofilkcaaGreatNqAg
set_option maxRecDepth 100000
set_option maxHeartbeats 16000000
namespace Go.Proofs.YtcpikklofilkcaaGreat
open Go.RowKit
namespace Lw
open Co
structure Good (S:Sta) (op:Int):Prop where
 fine:Fine S op
 still:Still S op
 wts:∀ y∈S.wts,∃ x,S.pools.find? (isNameP y.pool)=some x∧(cntG (isPoolW y.pool) S.wts:Int)≤x.wt
def stay (T:Sta) (w:Wtr):Bool:=T.wts.any (isCliW w.client)
def holdP (T:Sta) (c:Int):Int:=match T.srv.find? (isCliV c) with | some s=>s.id | none=>0
theorem Zkn {T:Sta} {op c:Int} (hi:Inv T op) (h:∃ x∈T.srv,x.client=c):holdP T c≠0:=by
 unfold holdP;cases hf:T.srv.find? (isCliV c) with
 | none =>
  obtain ⟨x,hx,e⟩:=h;have:=ZaW hf x hx;unfold isCliV at this;rw [e] at this;simp at this
 | some s =>
  have:=hi.low s (List.mem_of_find?_eq_some hf);simp only;omega
theorem ZaZ:∀ {l m:List Wtr},l.Sublist m→m.Pairwise (fun a b=>a.client≠b.client)→l=m.filter (fun w=>l.any (isCliW w.client)):=by
 intro l m h;induction h with
 | slnil=>intro _;rfl
 | @cons l m a h ih =>
  intro hp;obtain ⟨h1,h2⟩:=List.pairwise_cons.1 hp;rw [List.filter_cons,if_neg]
  ·exact ih h2
  ·intro h3;obtain ⟨x,hx,hx2⟩:=List.any_eq_true.1 h3;exact h1 x (h.subset hx) (eq_of_beq hx2).symm
 | @cons_cons l m a h ih =>
  intro hp;obtain ⟨h1,h2⟩:=List.pairwise_cons.1 hp;rw [List.filter_cons,if_pos (by simp [isCliW])];congr 1;refine (ih h2).trans (List.filter_congr fun w hw=>?_);have:isCliW w.client a=false:=ZO (fun h3=>h1 w hw (eq_of_beq h3));rw [List.any_cons,this,Bool.false_or]
theorem Zei {T:Sta} {w:Wtr} (h:stay T w=false):w ∉ T.wts:=fun hm=>by
 have:stay T w=true:=List.any_eq_true.2 ⟨w,hm,by simp [isCliW]⟩;rw [h] at this;simp at this
structure FairF (S T:Sta) (k A:Int):Prop where
 ex:∃ ex,T.wts=S.wts.filter (stay T)++ex∧(ex=[]∨(k=1∧∃ nm,ex=[⟨A,nm⟩]))
 gone:∀ i w,S.wts[i]?=some w→stay T w=false→w ∉ T.wts∧((k=3∧A=w.client)∨(holdP T w.client≠0∧∀ v∈(S.wts.take i).filter (stay T),(v.pool.toList == w.pool.toList)=false))
theorem FairF.refl {S:Sta} {op:Int} (h:Inv S op) (k A:Int):FairF S S k A:=
 ⟨⟨[],by rw [List.append_nil];exact ZaZ (List.Sublist.refl _) h.cli,.inl rfl⟩,fun i w hw hs=>absurd (List.mem_of_getElem? hw) (Zei hs)⟩
theorem Zjs {α:Type} {l:List α} {i:Nat} {w:α} (h:l[i]?=some w):l=l.take i++w :: l.drop (i+1):=by
 obtain ⟨hi,rfl⟩:=List.getElem?_eq_some_iff.1 h;rw [←List.drop_eq_getElem_cons hi,List.take_append_drop]
theorem ZeM {S J T:Sta} {op op' k A:Int} (h:Srvd J T op op') (hJ:J.wts.Pairwise (fun a b=>a.client≠b.client)) {ex:List Wtr} (hw:J.wts=S.wts++ex) (hx:ex.filter (stay T)=[]∨(k=1∧∃ nm,ex=[⟨A,nm⟩])):FairF S T k A:=by
 have hT:=ZaZ h.sub hJ;refine ⟨⟨ex.filter (stay T),?_,?_⟩,fun i w hwi hs=>?_⟩
 ·rw [←List.filter_append,←hw];exact hT
 ·rcases hx with hx | ⟨hk,nm,rfl⟩
  ·exact .inl hx
  ·rw [List.filter_cons];split
   ·exact .inr ⟨hk,nm,rfl⟩
   ·exact .inl rfl
 ·have hn:=Zei hs;obtain ⟨h1,h2⟩:=h.gone (S.wts.take i) w (S.wts.drop (i+1)++ex) (by rw [hw,←List.cons_append,←List.append_assoc,←Zjs hwi]) hn;refine ⟨hn,.inr ⟨Zkn h.fine.inv h1,fun v hv=>ZO (fun e=>?_)⟩⟩;obtain ⟨hv1,hv2⟩:=List.mem_filter.1 hv;have hvT:v∈T.wts:=by
   rw [hT,hw,List.filter_append];exact List.mem_append_left _ (List.mem_filter.2 ⟨List.mem_of_mem_take hv1,hv2⟩)
  exact h2 v hv1 (Zgx (eq_of_beq e)) hvT
theorem Ze2 {S:Sta} {op:Int} (h:Fine S op) {c:Int} {nm:ByteArray} (hc:1≤c∧c≤99) (hs:∀ x∈S.srv,x.client≠c) (hw:∀ y∈S.wts,y.client≠c):Fine (joined S c nm) op:=by
 refine ⟨⟨h.inv.ids,h.inv.low,h.inv.op0,?_⟩,?_,h.sc,h.one,?_,h.sur⟩
 ·show (S.wts++[_]).Pairwise _;rw [List.pairwise_append];refine ⟨h.inv.cli,by simp,fun a ha b hb=>?_⟩;simp only [List.mem_singleton] at hb;subst hb;exact hw a ha
 ·intro y hy;rcases List.mem_append.1 hy with hy | hy
  ·exact h.wc y hy
  ·simp only [List.mem_singleton] at hy;subst hy;exact hc
 ·intro x hx y hy;rcases List.mem_append.1 hy with hy | hy
  ·exact h.sep x hx y hy
  ·simp only [List.mem_singleton] at hy;subst hy;exact hs x hx
theorem Ze7 {c:Int}:¬okCli c=false↔1≤c∧c≤99:=by unfold okCli;simp
theorem Zdi {p:Wtr→Bool} {l m:List Wtr} (h:l.Sublist m):cntG p l≤cntG p m:=(h.filter p).length_le
theorem ZcS {S T:Sta} (hp:T.pools=S.pools) (hs:T.wts.Sublist S.wts) (h:∀ y∈S.wts,∃ x,S.pools.find? (isNameP y.pool)=some x∧(cntG (isPoolW y.pool) S.wts:Int)≤x.wt):∀ y∈T.wts,∃ x,T.pools.find? (isNameP y.pool)=some x∧(cntG (isPoolW y.pool) T.wts:Int)≤x.wt:=by
 intro y hy;obtain ⟨x,h1,h2⟩:=h y (hs.subset hy);have:=Zdi (p:=isPoolW y.pool) hs;exact ⟨x,by rw [hp];exact h1,by omega⟩
theorem ZiA {S:Sta} {op:Int} (h:Good S op) (c:Int) (name:ByteArray) :
  ((cAsk S op c name).S=S∧(cAsk S op c name).op=op∧(cAsk S op c name).id=0∧(cAsk S op c name).err≠0)
  ∨ (1≤c∧c≤99∧(∀ x∈S.srv,x.client≠c)∧(∀ y∈S.wts,y.client≠c)∧(cAsk S op c name).err=0∧∃ x,S.pools.find? (isNameP name)=some x ∧
   (cAsk S op c name).S=(cAsked S op c x.nm).1∧(cAsk S op c name).op=(cAsked S op c x.nm).2∧Srvd (joined S c x.nm) (cAsked S op c x.nm).1 op (cAsked S op c x.nm).2
   ∧ ((∃ s∈(cAsked S op c x.nm).1.srv,s.client=c∧(cAsk S op c name).id=s.id)∨((cAsked S op c x.nm).1=joined S c x.nm∧(cAsked S op c x.nm).2=op∧(cAsk S op c name).id=0∧(cntG (isPoolW x.nm) (joined S c x.nm).wts:Int)≤x.wt))):=by
 unfold cAsk;by_cases h0:okCli c=false
 ·rw [if_pos h0];exact .inl ⟨rfl,rfl,rfl,by simp⟩
 ·rw [if_neg h0];by_cases h1:((S.srv.find? (isCliV c)).isSome||(S.wts.find? (isCliW c)).isSome)=true
  ·rw [if_pos h1];exact .inl ⟨rfl,rfl,rfl,by simp⟩
  ·rw [if_neg h1];have h2:=ZO h1;rw [Bool.or_eq_false_iff] at h2;have hs:∀ x∈S.srv,x.client≠c:=fun x hx e=>by
    have:=Zae h2.1 x hx;unfold isCliV at this;rw [e] at this;simp at this
   have hw:∀ y∈S.wts,y.client≠c:=fun x hx e=>by
    have:=Zae h2.2 x hx;unfold isCliW at this;rw [e] at this;simp at this
   cases hf:S.pools.find? (isNameP name) with
   | none=>exact .inl ⟨rfl,rfl,rfl,by simp⟩
   | some x =>
    simp only;have hc:=Ze7.1 h0;have hJ:=Ze2 h.fine (nm:=x.nm) hc hs hw;have hR:Srvd (joined S c x.nm) (cAsked S op c x.nm).1 op (cAsked S op c x.nm).2:=ZaD _ _ _ hJ;obtain ⟨_,hA⟩:=Zcw h.fine.inv h.still (c:=⟨c,x.nm⟩) hw (by show c≠0;omega);have hA':cAsked S op c x.nm=(joined S c x.nm,op)∨∃ z∈(cAsked S op c x.nm).1.srv,z.client=c:=by
     have hl:(S.wts++[(⟨c,x.nm⟩:Wtr)]).length=S.wts.length+1:=by simp
     rw [hl] at hA;exact hA
    cases hs2:(cAsked S op c x.nm).1.srv.find? (isCliV c) with
    | some s =>
     refine .inr ⟨hc.1,hc.2,hs,hw,rfl,x,rfl,rfl,rfl,hR,.inl ⟨s,List.mem_of_find?_eq_some hs2,?_,rfl⟩⟩;have:=List.find?_some hs2;exact eq_of_beq this
    | none =>
     have hE:cAsked S op c x.nm=(joined S c x.nm,op):=by
      rcases hA' with h | ⟨z,hz,e⟩
      ·exact h
      ·have:=ZaW hs2 z hz;unfold isCliV at this;rw [e] at this;simp at this
     simp only;rw [hE];simp only;by_cases hn:x.wt<(cntG (isPoolW x.nm) (joined S c x.nm).wts:Int)
     ·rw [if_pos hn];refine .inl ⟨?_,rfl,rfl,by simp⟩;show cQuit (joined S c x.nm) c=S;unfold cQuit joined;simp only [List.filter_append];have e1:S.wts.filter (fun y=>!decide (y.client=c))=S.wts:=List.filter_eq_self.2 (fun y hy=>by simpa using hw y hy);rw [e1];simp
     ·rw [if_neg hn];exact .inr ⟨hc.1,hc.2,hs,hw,rfl,x,rfl,by rw [hE],by rw [hE],hR,.inr ⟨by rw [hE],by rw [hE],rfl,by omega⟩⟩
theorem ZiO {S:Sta} {op:Int} (h:Good S op) (c:Int) (name:ByteArray):Good (cAsk S op c name).S (cAsk S op c name).op∧FairF S (cAsk S op c name).S 1 c:=by
 have hst:=(Zhq h.fine.inv h.still c name).2.2;rcases ZiA h c name with ⟨h1,h2,_,_⟩ | ⟨hc1,hc2,hs,hw,_,x,hf,h1,h2,hR,hid⟩
 ·rw [h1,h2];exact ⟨h,FairF.refl h.fine.inv _ _⟩
 ·rw [h1,h2] at hst ⊢;have hJ:=Ze2 h.fine (nm:=x.nm) ⟨hc1,hc2⟩ hs hw;refine ⟨⟨hR.fine,hst,?_⟩,ZeM (S:=S) hR hJ.inv.cli (ex:=[⟨c,x.nm⟩]) rfl (.inr ⟨rfl,x.nm,rfl⟩)⟩;rcases hid with ⟨s,hs1,hs2,_⟩ | ⟨hE,_,_,hn⟩
  ·refine ZcS (S:=S) hR.rest.1 ?_ h.wts;have hT:=ZaZ hR.sub hJ.inv.cli;have hno:([(⟨c,x.nm⟩:Wtr)].filter (stay (cAsked S op c x.nm).1))=[]:=by
    rw [List.filter_cons,if_neg]
    ·rfl
    ·intro hst;obtain ⟨y,hy,e⟩:=List.any_eq_true.1 hst;exact hR.fine.sep s hs1 y hy (hs2.trans (eq_of_beq e).symm)
   have hT2:(cAsked S op c x.nm).1.wts=S.wts.filter (stay (cAsked S op c x.nm).1):=by
    refine hT.trans ?_;show (S.wts++[(⟨c,x.nm⟩:Wtr)]).filter (stay (cAsked S op c x.nm).1)=_;rw [List.filter_append,hno,List.append_nil]
   rw [hT2];exact List.filter_sublist
  ·rw [hE];intro y hy;have hxn:=Zbu hf;rcases List.mem_append.1 hy with hy' | hy'
   ·obtain ⟨p,h3,h4⟩:=h.wts y hy';refine ⟨p,h3,?_⟩;by_cases hp:x.nm.toList=y.pool.toList
    ·have e1:isPoolW y.pool=isPoolW x.nm:=by funext z;unfold isPoolW;rw [hp]
     have e2:p=x:=by
      have:S.pools.find? (isNameP name)=S.pools.find? (isNameP y.pool):=ZeR (by rw [←hxn];exact hp);rw [hf,h3] at this;exact (Option.some.inj this).symm
     rw [e1,e2];exact hn
    ·have e3:cntG (isPoolW y.pool) (joined S c x.nm).wts=cntG (isPoolW y.pool) S.wts:=by
      unfold joined cntG;rw [List.filter_append];have:isPoolW y.pool (⟨c,x.nm⟩:Wtr)=false:=ZO (fun e=>hp (eq_of_beq e));simp [this]
     rw [e3];exact h4
   ·simp only [List.mem_singleton] at hy';subst hy';exact ⟨x,by show S.pools.find? (isNameP x.nm)=some x;rw [hxn];exact hf,hn⟩
theorem Zha {S:Sta} {op:Int} (h:Good S op) (c:Int):Good (cLeave S op c).S (cLeave S op c).op∧FairF S (cLeave S op c).S 3 c:=by
 have hst:=(ZfF h.fine.inv h.still c).2;unfold cLeave at hst ⊢;by_cases h0:okCli c=false
 ·rw [if_pos h0];exact ⟨h,FairF.refl h.fine.inv _ _⟩
 ·rw [if_neg h0] at hst ⊢;by_cases h1:(S.wts.find? (isCliW c)).isSome=false
  ·rw [if_pos h1];exact ⟨h,FairF.refl h.fine.inv _ _⟩
  ·rw [if_neg h1] at hst ⊢;have hsub:(cQuit S c).wts.Sublist S.wts:=List.filter_sublist;refine ⟨⟨⟨hst.1,fun y hy=>h.fine.wc y (hsub.subset hy),h.fine.sc,h.fine.one,fun x hx y hy=>h.fine.sep x hx y (hsub.subset hy),h.fine.sur⟩,hst.2,ZcS (S:=S) rfl hsub h.wts⟩,⟨[],?_,.inl rfl⟩,fun i w hw hs=>?_⟩
   ·rw [List.append_nil];exact ZaZ hsub h.fine.inv.cli
   ·have hn:=Zei hs;refine ⟨hn,.inl ⟨rfl,?_⟩⟩;by_cases e:c=w.client
    ·exact e
    ·exact absurd (List.mem_filter.2 ⟨List.mem_of_getElem? hw,by simpa using fun e2=>e (Eq.symm e2)⟩) hn
theorem Zht {S:Sta} {op:Int} (h:Fine S op) (id:Int):Fine (cShut S id) op:=by
 have hsub:(cShut S id).srv.Sublist S.srv:=List.filter_sublist;exact ⟨⟨h.inv.ids.sublist hsub,fun x hx=>h.inv.low x (hsub.subset hx),h.inv.op0,h.inv.cli⟩,h.wc,fun x hx=>h.sc x (hsub.subset hx),h.one.sublist hsub,fun x hx=>h.sep x (hsub.subset hx),fun x hx h0=>Zb3 (S:=S) rfl rfl (ZbG hsub) hsub.length_le (h.sur x (hsub.subset hx) h0)⟩
theorem Zdr {S T J:Sta} {op op':Int} (h:Good S op) (hR:Srvd J T op op') (hst:Still T op') (hw:J.wts=S.wts) (hp:J.pools=S.pools) (k A:Int):Good T op'∧FairF S T k A:=by
 refine ⟨⟨hR.fine,hst,ZcS (S:=S) (hR.rest.1.trans hp) (by rw [←hw];exact hR.sub) h.wts⟩,ZeM hR (by rw [hw];exact h.fine.inv.cli) (ex:=[]) (by rw [hw,List.append_nil]) (.inl rfl)⟩
theorem Zf5 {S:Sta} {op:Int} (h:Good S op) (id:Int) :
  ((cCrash S op id).S=S∧(cCrash S op id).op=op∧(cCrash S op id).err≠0)
  ∨ ((cCrash S op id).err=0∧(∃ s∈S.srv,s.id=id)∧Srvd (cShut S id) (cCrash S op id).S op (cCrash S op id).op):=by
 unfold cCrash;by_cases h1:(S.srv.find? (fun x=>x.id == id)).isSome=false
 ·rw [if_pos h1];exact .inl ⟨rfl,rfl,by simp⟩
 ·rw [if_neg h1];refine .inr ⟨rfl,?_,ZaD _ _ _ (Zht h.fine id)⟩;have h2:(S.srv.find? (fun x=>x.id == id)).isSome=true:=by simpa using h1
  obtain ⟨x,hx,e⟩:=List.find?_isSome.1 h2;exact ⟨x,hx,eq_of_beq e⟩
theorem ZgU {S:Sta} {op:Int} (h:Good S op) (id:Int) (k A:Int):Good (cCrash S op id).S (cCrash S op id).op∧FairF S (cCrash S op id).S k A:=by
 have hst:=(Zfp h.fine.inv h.still id).2.2;rcases Zf5 h id with ⟨h1,h2,_⟩ | ⟨_,_,hR⟩
 ·rw [h1,h2];exact ⟨h,FairF.refl h.fine.inv _ _⟩
 ·exact Zdr h hR hst rfl rfl k A
def cGive' (S:Sta) (s:Srv):Sta:=if isSur (cHand S s.id 0) s=true then cShut (cHand S s.id 0) s.id else cHand S s.id 0
theorem Zia {S:Sta} {op:Int} (h:Inv S op) {a b:Srv} (ha:a∈S.srv) (hb:b∈S.srv) (e:a.id=b.id):a=b:=by
 have hp:=h.ids;obtain ⟨i,hi,rfl⟩:=List.getElem_of_mem ha;obtain ⟨j,hj,rfl⟩:=List.getElem_of_mem hb;rw [List.pairwise_iff_getElem] at hp;rcases Nat.lt_trichotomy i j with h | h | h
 ·have:=hp i j hi hj h;omega
 ·subst h;rfl
 ·have:=hp j i hj hi h;omega
theorem ZeU {S:Sta} {op:Int} (h:Fine S op) {s:Srv} (hs:s∈S.srv) (hs0:s.client≠0):Fine (cGive' S s) op∧(cGive' S s).wts=S.wts∧(cGive' S s).pools=S.pools∧(cGive' S s).bud=S.bud
  ∧ (∀ x∈S.srv,x.id≠s.id→x∈(cGive' S s).srv)∧(∀ x∈(cGive' S s).srv,x.client≠0→x∈S.srv∧x.id≠s.id)∧(∀ x∈(cGive' S s).srv,∃ z∈S.srv,x.id=z.id∧x.pool=z.pool∧x.far=z.far)∧(∀ nm,cntG (isPoolV nm) (cGive' S s).srv≤cntG (isPoolV nm) S.srv)∧(cGive' S s).srv.length≤S.srv.length
  ∧ (cGive' S s).plan=S.plan∧(cGive' S s).begun=S.begun∧(cGive' S s).back=S.back:=by
 have hcl:∀ a:Srv,(if a.id=s.id then {a with client:=0} else a).client=if a.id=s.id then 0 else a.client:=fun a=>by split <;> rfl
 have hid:∀ a:Srv,(if a.id=s.id then {a with client:=0} else a).id=a.id:=fun a=>by split <;> rfl
 have hfp:∀ (p:ByteArray) (z:Srv),isPoolV p (if z.id=s.id then {z with client:=0} else z)=isPoolV p z:=by
  intro p z;split <;> rfl
 have hInv:Inv (cHand S s.id 0) op:=by
  refine ⟨?_,fun z hz=>?_,h.inv.op0,h.inv.cli⟩
  ·show (S.srv.map _).Pairwise _;rw [List.pairwise_map];exact h.inv.ids.imp (fun {a b} hab=>by rw [hid,hid];exact hab)
  ·obtain ⟨a,ha,rfl⟩:=List.mem_map.1 hz;rw [hid];exact h.inv.low a ha
 have hcnt:∀ nm,cntG (isPoolV nm) (cHand S s.id 0).srv=cntG (isPoolV nm) S.srv:=fun nm=>Zd9 (hfp nm) _
 have hlen:(cHand S s.id 0).srv.length=S.srv.length:=by show (S.srv.map _).length=_;rw [List.length_map]
 have hone:(cHand S s.id 0).srv.Pairwise (fun a b=>a.client=b.client→a.client=0):=by
  show (S.srv.map _).Pairwise _;rw [List.pairwise_map];refine h.one.imp (fun {a b} hab=>?_);rw [hcl,hcl];intro e;by_cases e1:a.id=s.id
  ·rw [if_pos e1]
  ·rw [if_neg e1] at e ⊢;by_cases e2:b.id=s.id
   ·rw [if_pos e2] at e;exact e
   ·rw [if_neg e2] at e;exact hab e
 have hsc:∀ x∈(cHand S s.id 0).srv,0≤x.client∧x.client≤99:=fun z hz=>by
  obtain ⟨a,ha,rfl⟩:=List.mem_map.1 hz;rw [hcl];have:=h.sc a ha;split <;> omega
 have hsep:∀ x∈(cHand S s.id 0).srv,∀ y∈S.wts,x.client≠y.client:=fun z hz y hy=>by
  obtain ⟨a,ha,rfl⟩:=List.mem_map.1 hz;rw [hcl];split
  ·have:=h.wc y hy;omega
  ·exact h.sep a ha y hy
 have hback:∀ x∈(cHand S s.id 0).srv,x.id≠s.id→x∈S.srv:=fun z hz hne=>by
  obtain ⟨a,ha,rfl⟩:=List.mem_map.1 hz;rw [hid] at hne;rw [if_neg hne];exact ha
 have hkeep:∀ x∈S.srv,x.id≠s.id→x∈(cHand S s.id 0).srv:=fun x hx hne=>List.mem_map.2 ⟨x,hx,if_neg hne⟩
 have hfar:∀ x∈(cHand S s.id 0).srv,∃ z∈S.srv,x.id=z.id∧x.pool=z.pool∧x.far=z.far:=fun z hz=>by
  obtain ⟨a,ha,rfl⟩:=List.mem_map.1 hz;exact ⟨a,ha,by split <;> rfl,by split <;> rfl,by split <;> rfl⟩
 have hnz:∀ x∈(cHand S s.id 0).srv,x.client≠0→x.id≠s.id:=fun z hz h0 e=>by
  obtain ⟨a,ha,rfl⟩:=List.mem_map.1 hz;rw [hid] at e;rw [hcl,if_pos e] at h0;exact h0 rfl
 have hold:∀ x∈(cHand S s.id 0).srv,x.id≠s.id→x.client=0→isSur (cHand S s.id 0) x=false:=fun x hx hne h0 =>
  Zb3 (S:=S) rfl rfl (Nat.le_of_eq (hcnt _)) (Nat.le_of_eq hlen) (h.sur x (hback x hx hne) h0)
 unfold cGive';by_cases hsu:isSur (cHand S s.id 0) s=true
 ·rw [if_pos hsu];have hsub:(cShut (cHand S s.id 0) s.id).srv.Sublist (cHand S s.id 0).srv:=List.filter_sublist;have hne:∀ x∈(cShut (cHand S s.id 0) s.id).srv,x.id≠s.id:=fun x hx=>by simpa using (List.mem_filter.1 hx).2
  refine ⟨⟨⟨hInv.ids.sublist hsub,fun x hx=>hInv.low x (hsub.subset hx),hInv.op0,h.inv.cli⟩,h.wc,fun x hx=>hsc x (hsub.subset hx),hone.sublist hsub,fun x hx=>hsep x (hsub.subset hx),fun x hx h0=>Zb3 (S:=cHand S s.id 0) rfl rfl (ZbG hsub) hsub.length_le (hold x (hsub.subset hx) (hne x hx) h0)⟩,rfl,rfl,rfl,fun x hx hn=>List.mem_filter.2 ⟨hkeep x hx hn,by simpa using hn⟩,fun x hx h0=>⟨hback x (hsub.subset hx) (hne x hx),hne x hx⟩,fun x hx=>hfar x (hsub.subset hx),fun nm=>?_,?_,rfl,rfl,rfl⟩
  ·rw [←hcnt nm];exact ZbG hsub
  ·rw [←hlen];exact hsub.length_le
 ·rw [if_neg hsu];refine ⟨⟨hInv,h.wc,hsc,hone,hsep,fun x hx h0=>?_⟩,rfl,rfl,rfl,hkeep,fun x hx h0=>⟨hback x hx (hnz x hx h0),hnz x hx h0⟩,hfar,fun nm=>Nat.le_of_eq (hcnt nm),Nat.le_of_eq hlen,rfl,rfl,rfl⟩;by_cases e:x.id=s.id
  ·obtain ⟨a,ha,rfl⟩:=List.mem_map.1 hx;rw [hid] at e;have hae:a=s:=Zia h.inv ha hs e;subst hae;rw [if_pos rfl];exact (show isSur (cHand S a.id 0) {a with client:=0}=isSur (cHand S a.id 0) a from rfl).trans (ZO hsu)
  ·exact hold x hx e h0
theorem ZgV {S:Sta} {op:Int} (h:Good S op) (c:Int) :
  ((cDone S op c).S=S∧(cDone S op c).op=op∧(cDone S op c).err≠0)
  ∨ (1≤c∧c≤99∧(cDone S op c).err=0∧∃ s∈S.srv,s.client=c∧Srvd (cGive' S s) (cDone S op c).S op (cDone S op c).op):=by
 unfold cDone;by_cases h0:okCli c=false
 ·rw [if_pos h0];exact .inl ⟨rfl,rfl,by simp⟩
 ·rw [if_neg h0];cases hf:S.srv.find? (isCliV c) with
  | none=>exact .inl ⟨rfl,rfl,by simp⟩
  | some s =>
   have hc:=Ze7.1 h0;have hs:=List.mem_of_find?_eq_some hf;have hsc:s.client=c:=by have:=List.find?_some hf;exact eq_of_beq this
   exact .inr ⟨hc.1,hc.2,rfl,s,hs,hsc,ZaD _ _ _ (ZeU h.fine hs (by omega)).1⟩
theorem ZhH {S:Sta} {op:Int} (h:Good S op) (c:Int) (k A:Int):Good (cDone S op c).S (cDone S op c).op∧FairF S (cDone S op c).S k A:=by
 have hst:=(Zgv h.fine.inv h.still c).2.2;rcases ZgV h c with ⟨h1,h2,_⟩ | ⟨hc1,hc2,_,s,hs,hsc,hR⟩
 ·rw [h1,h2];exact ⟨h,FairF.refl h.fine.inv _ _⟩
 ·obtain ⟨_,hw,hp,_⟩:=ZeU h.fine hs (by omega);exact Zdr h hR hst hw hp k A
end Lw
end Go.Proofs.YtcpikklofilkcaaGreat
namespace Go.Proofs.YtcpikklofilkcaaGreat
open Go.RowKit
namespace Co
abbrev tl (s:ByteArray):List UInt8:=s.data.toList
theorem Ze8 (s:ByteArray):s.toList=tl s:=ByteArray.toList_eq s
structure Okp (p:Pl):Prop where
 nm:isNm p.nm=true
 s0:0≤p.sz
 s1:p.sz≤20
 w0:0≤p.wt
 w1:p.wt≤20
 f0:0≤p.fr
 f1:p.fr≤999
abbrev mk (l:List UInt8):ByteArray:=⟨l.toArray⟩
abbrev np (l:Ln):Ln:={l with place:=0}
theorem Zkq (a:ByteArray):lt a a=false:=by
 have:=ZaY a.toList a.toList;unfold lt;cases h:Op.bytesLess a.toList a.toList <;> simp [h] at this ⊢
theorem Zgj {a b:ByteArray} (h:lt a b=true):lt b a=false:=by
 unfold lt at *;have:=ZaY a.toList b.toList;rw [h] at this;cases h2:Op.bytesLess b.toList a.toList <;> simp [h2] at this ⊢
theorem Zbn {a b:ByteArray} (h:lt a b=true):a≠b:=by
 rintro rfl;rw [Zkq] at h;exact absurd h (by simp)
structure Okt (b:Int) (ps:List Pl):Prop where
 b0:1≤b
 b1:b≤99
 len:ps.length≤6
 ok:∀ p∈ps,Okp p
 up:ps.Pairwise (fun a b=>lt a.nm b.nm=true)
theorem ZjC {p:Pl} (h:Okp p):(p.sz.toNat:Int)=p.sz∧(p.wt.toNat:Int)=p.wt∧(p.fr.toNat:Int)=p.fr:=
 ⟨Int.toNat_of_nonneg h.s0,Int.toNat_of_nonneg h.w0,Int.toNat_of_nonneg h.f0⟩
theorem ZhL {a b c:ByteArray} (h1:lt a b=true) (h2:lt b c=true):lt a c=true:=by
 unfold lt at *;generalize a.toList=x at *;generalize b.toList=y at *;generalize c.toList=z at *;induction x generalizing y z with
 | nil =>
  cases y with
  | nil=>simp [Op.bytesLess] at h1
  | cons y0 y =>
   cases z with
   | nil=>simp [Op.bytesLess] at h2
   | cons z0 z=>rfl
 | cons x0 x ih =>
  cases y with
  | nil=>simp [Op.bytesLess] at h1
  | cons y0 y =>
   cases z with
   | nil=>simp [Op.bytesLess] at h2
   | cons z0 z =>
    simp only [Op.bytesLess,Bool.or_eq_true,Bool.and_eq_true,decide_eq_true_eq,beq_iff_eq] at h1 h2 ⊢;rcases h1 with h1 | ⟨rfl,h1⟩
    ·rcases h2 with h2 | ⟨rfl,h2⟩
     ·exact .inl (UInt8.lt_trans h1 h2)
     ·exact .inl h1
    ·rcases h2 with h2 | ⟨rfl,h2⟩
     ·exact .inl h2
     ·exact .inr ⟨rfl,ih y h1 z h2⟩
theorem Zja {a b:ByteArray} (h1:lt a b=false) (h2:(a.toList == b.toList)=false):lt b a=true:=by
 have:=Zks a b;unfold lt at *;rw [h1,h2] at this;simpa using this
structure BS (w:World) (b:Int) (sv:Value) (r:Int) (v:Value) (m:Nat) (ps:List Pl) (wr:World):Prop where
 h0:wr.heap[w.heap.size]?=some (bTab b sv)
 h1:wr.heap[w.heap.size+1]?=some (bTab 0 (.slice none 0 0))
 h2:wr.heap[w.heap.size+2]?=some (bTab r v)
 own:wr.ownsRow (w.heap.size+3) 70 4 v m (flatP ps)
 bel:Below w.heap.size w wr
 sz:w.heap.size+3≤wr.heap.size
theorem BS.nx {w:World} {b:Int} {sv:Value} {r:Int} {v:Value} {m:Nat} {ps:List Pl} {wr wx:World} (h:BS w b sv r v m ps wr) (hb:Below wr.heap.size wr wx):BS w b sv r v m ps wx:=
 have hs:=h.sz
 ⟨(hb.block _ (by omega)).trans h.h0,(hb.block _ (by omega)).trans h.h1,(hb.block _ (by omega)).trans h.h2,Zk h.own hb,Za h.bel hb,Nat.le_trans h.sz hb.size⟩
theorem BS.put {w:World} {b:Int} {sv:Value} {r:Int} {v v':Value} {m m' B:Nat} {ps ps':List Pl} {wr:World} (h:BS w b sv r v m ps wr) (hown:wr.ownsRow B 70 4 v' m' (flatP ps')) (hB:w.heap.size+3≤B) :
  BS w b sv r v' m' ps' (wr.setCell ⟨w.heap.size+2,1,none⟩ v'):=by
 refine ⟨?_,?_,?_,?_,?_,?_⟩
 ·exact (Below.heap_setCell _ _ _ _ (by show w.heap.size≠w.heap.size+2;omega)).trans h.h0
 ·exact (Below.heap_setCell _ _ _ _ (by show w.heap.size+1≠w.heap.size+2;omega)).trans h.h1
 ·exact Zg _ _ _ _ _ _ h.h2
 ·exact ownsRow_setCell_below (Zi hown hB) (by show w.heap.size+2<_;omega) _
 ·exact h.bel.setCell (by show w.heap.size≤w.heap.size+2;omega) _
 ·have:=h.sz;simpa using this
def GoodT (xs:List Pl):Prop:=(∀ x∈xs,Okp x)∧xs.Pairwise (fun a b=>a.nm≠b.nm)∧xs.length≤6
theorem ZbL (p x:Pl):∀ l:List Pl,x∈insP p l↔x=p∨x∈l
 | []=>by simp [insP]
 | q :: r=>by
  rw [insP];split
  ·simp
  ·rw [List.mem_cons,ZbL p x r,List.mem_cons];constructor
   ·rintro (h | h | h)
    ·exact .inr (.inl h)
    ·exact .inl h
    ·exact .inr (.inr h)
   ·rintro (h | h | h)
    ·exact .inr (.inl h)
    ·exact .inl h
    ·exact .inr (.inr h)
theorem Zfi {a b:ByteArray} (h:(a.toList == b.toList)=true):a=b:=by
 have h1:a.toList=b.toList:=by simpa using h
 rw [Ze8,Ze8] at h1;exact Go.WideShapes.bytes_inj h1
end Co
end Go.Proofs.YtcpikklofilkcaaGreat
namespace Go.Proofs.YtcpikklofilkcaaGreat
open Go.RowKit
namespace Df
open Co Lw
abbrev Up (l:List Pl):Prop:=l.Pairwise (fun a b=>lt a.nm b.nm=true)
def lk (l:List Pl) (nm:ByteArray):Option Pl:=l.find? (isNameP nm)
theorem ZU {nm:ByteArray} {p:Pl}:isNameP nm p=true↔p.nm=nm:=by
 constructor
 ·intro h;exact Zfi h
 ·rintro rfl;simp [isNameP]
theorem Zin {nm:ByteArray} {p:Pl} (h:p.nm≠nm):isNameP nm p=false:=by
 cases h2:isNameP nm p with
 | false=>rfl
 | true=>exact absurd (ZU.1 h2) h
theorem Zap {l:List Pl} {nm:ByteArray} {p:Pl} (h:lk l nm=some p):p.nm=nm:=ZU.1 (List.find?_some h)
theorem Zah {l:List Pl} {nm:ByteArray} {p:Pl} (h:lk l nm=some p):p∈l:=List.mem_of_find?_eq_some h
theorem Z8 {l:List Pl} {nm:ByteArray}:lk l nm=none↔∀ p∈l,p.nm≠nm:=by
 unfold lk;rw [List.find?_eq_none];constructor
 ·intro h p hp e;exact h p hp (ZU.2 e)
 ·intro h p hp e;exact h p hp (ZU.1 e)
theorem ZD {x:Pl} {l:List Pl} {nm:ByteArray} (h:x.nm=nm):lk (x :: l) nm=some x:=List.find?_cons_of_pos (ZU.2 h)
theorem ZJ {x:Pl} {l:List Pl} {nm:ByteArray} (h:x.nm≠nm):lk (x :: l) nm=lk l nm:=List.find?_cons_of_neg (by rw [Zin h];simp)
theorem ZZ:∀ {l:List Pl},Up l→∀ {x:Pl},x∈l→lk l x.nm=some x
 | [],_,x,hx=>by simp at hx
 | y :: r,hu,x,hx=>by
  rcases List.mem_cons.1 hx with rfl | hx
  ·exact ZD rfl
  ·rw [ZJ (Zbn ((List.pairwise_cons.1 hu).1 x hx)),ZZ (List.pairwise_cons.1 hu).2 hx]
theorem ZfG:∀ {l l':List Pl},Up l→Up l'→(∀ nm,lk l nm=lk l' nm)→l=l'
 | [],[],_,_,_=>rfl
 | [],y :: r,_,_,h=>by
  have:=h y.nm;rw [ZD rfl] at this;simp [lk] at this
 | x :: r,[],_,_,h=>by
  have:=h x.nm;rw [ZD rfl] at this;simp [lk] at this
 | x :: r,y :: r',h1,h2,h=>by
  have hx:lk (y :: r') x.nm=some x:=by rw [←h,ZD rfl]
  have hy:lk (x :: r) y.nm=some y:=by rw [h,ZD rfl]
  obtain ⟨a1,b1⟩:=List.pairwise_cons.1 h1;obtain ⟨a2,b2⟩:=List.pairwise_cons.1 h2;have e:x=y:=by
   rcases List.mem_cons.1 (Zah hx) with e | hm
   ·exact e
   ·rcases List.mem_cons.1 (Zah hy) with e | hm'
    ·exact e.symm
    ·have c1:=a2 x hm;have c2:=a1 y hm';rw [Zgj c1] at c2;exact absurd c2 (by simp)
  subst e;congr 1;refine ZfG b1 b2 (fun nm=>?_);by_cases hn:x.nm=nm
  ·rw [Z8.2 (fun p hp e=>Zbn (a1 p hp) (hn.trans e.symm)),Z8.2 (fun p hp e=>Zbn (a2 p hp) (hn.trans e.symm))]
  ·have:=h nm
   rwa [ZJ hn,ZJ hn] at this
theorem Zdp:∀ {l' l:List Pl},Up l→Up l'→(∀ x∈l,∃ y∈l',y.nm=x.nm)→l.length≤l'.length
 | [],l,_,_,h=>by
  cases l with
  | nil=>simp
  | cons x r=>obtain ⟨y,hy,_⟩:=h x (by simp);simp at hy
 | y :: r',[],_,_,_=>by simp
 | y :: r',x :: r,h1,h2,h=>by
  obtain ⟨a1,b1⟩:=List.pairwise_cons.1 h1;obtain ⟨a2,b2⟩:=List.pairwise_cons.1 h2;by_cases e:y.nm=x.nm
  ·have:=Zdp (l':=r') (l:=r) b1 b2 (fun z hz=>by
    obtain ⟨u,hu,he⟩:=h z (by simp [hz]);rcases List.mem_cons.1 hu with rfl | hu
    ·exact absurd (e.symm.trans he) (Zbn (a1 z hz))
    ·exact ⟨u,hu,he⟩)
   simp;omega
  ·have:=Zdp (l':=r') (l:=x :: r) h1 b2 (fun z hz=>by
    obtain ⟨u,hu,he⟩:=h z hz;rcases List.mem_cons.1 hu with rfl | hu
    ·exfalso;obtain ⟨v,hv,hve⟩:=h x (by simp);rcases List.mem_cons.1 hv with rfl | hv
     ·exact e hve
     ·have c1:=a2 v hv;rw [hve] at c1;rcases List.mem_cons.1 hz with rfl | hz
      ·exact e he
      ·have c2:=a1 z hz;rw [←he] at c2;rw [Zgj c1] at c2;exact absurd c2 (by simp)
    ·exact ⟨u,hu,he⟩)
   simp at this ⊢;omega
def updT (nm:ByteArray) (f:Pl→Pl) (ts:List Pl):List Pl:=ts.map (fun p=>if isNameP nm p=true then f p else p)
def dropT (nm:ByteArray) (ts:List Pl):List Pl:=ts.filter (fun p=>!isNameP nm p)
theorem ZcF {f:Pl→Pl} (hf:∀ p,(f p).nm=p.nm) (nm m:ByteArray):∀ (ts:List Pl),lk (updT nm f ts) m=if nm=m then (lk ts m).map f else lk ts m
 | []=>by simp [lk,updT]
 | x :: r=>by
  have ih:=ZcF hf nm m r;have e:updT nm f (x :: r)=(if isNameP nm x=true then f x else x) :: updT nm f r:=rfl;have hn:(if isNameP nm x=true then f x else x).nm=x.nm:=by split <;> simp [hf]
  rw [e];by_cases hx:x.nm=m
  ·rw [ZD (hn.trans hx),ZD hx];by_cases h:nm=m
   ·rw [if_pos h,if_pos (ZU.2 (hx.trans h.symm))];rfl
   ·rw [if_neg h,if_neg (by rw [ZU];exact fun e=>h (e.symm.trans hx))]
  ·rw [ZJ (by rw [hn];exact hx),ZJ hx,ih]
theorem Zdv {f:Pl→Pl} (hf:∀ p,(f p).nm=p.nm) (nm:ByteArray) {ts:List Pl} (h:Up ts):Up (updT nm f ts):=by
 unfold Up updT;rw [List.pairwise_map];refine List.Pairwise.imp ?_ h;intro a b hab;have ha:(if isNameP nm a=true then f a else a).nm=a.nm:=by split <;> simp [hf]
 have hb:(if isNameP nm b=true then f b else b).nm=b.nm:=by split <;> simp [hf]
 rw [ha,hb];exact hab
theorem Zgh (nm:ByteArray) (f:Pl→Pl):∀ {ts:List Pl} {k:Nat} {x:Pl},Up ts→ts[k]?=some x→x.nm=nm→ts.set k (f x)=updT nm f ts
 | [],k,x,_,h,_=>by simp at h
 | y :: r,0,x,hu,h,hn=>by
  obtain rfl:y=x:=by simpa using h
  have e:updT nm f (y :: r)=(if isNameP nm y=true then f y else y) :: updT nm f r:=rfl;rw [e,if_pos (ZU.2 hn)];have e2:updT nm f r=r:=by
   unfold updT
   conv=>rhs;rw [←List.map_id r]
   refine List.map_congr_left (fun p hp=>?_);rw [if_neg (by rw [ZU];exact fun e=>Zbn ((List.pairwise_cons.1 hu).1 p hp) (hn.trans e.symm))];rfl
  rw [e2];rfl
 | y :: r,k+1,x,hu,h,hn=>by
  have hx:r[k]?=some x:=by simpa using h
  have e:updT nm f (y :: r)=(if isNameP nm y=true then f y else y) :: updT nm f r:=rfl;rw [e,if_neg (by rw [ZU];exact fun e=>Zbn ((List.pairwise_cons.1 hu).1 x (List.mem_of_getElem? hx)) (e.trans hn.symm)),List.set_cons_succ,Zgh nm f (List.pairwise_cons.1 hu).2 hx hn]
theorem ZbC (nm m:ByteArray):∀ (ts:List Pl),lk (dropT nm ts) m=if nm=m then none else lk ts m
 | []=>by simp [lk,dropT]
 | x :: r=>by
  have ih:=ZbC nm m r;unfold dropT at ih ⊢;by_cases hx:x.nm=nm
  ·rw [List.filter_cons_of_neg (by rw [ZU.2 hx];simp),ih];by_cases h:nm=m
   ·rw [if_pos h,if_pos h]
   ·rw [if_neg h,if_neg h,ZJ (fun e=>h (hx.symm.trans e))]
  ·rw [List.filter_cons_of_pos (by rw [Zin hx];rfl)];by_cases hm:x.nm=m
   ·rw [ZD hm,ZD hm,if_neg (fun e=>hx (hm.trans e.symm))]
   ·rw [ZJ hm,ZJ hm,ih]
theorem Zd5 (nm:ByteArray) {ts:List Pl} (h:Up ts):Up (dropT nm ts):=List.Pairwise.filter _ h
theorem Zdo (p:Pl) (m:ByteArray):∀ (ts:List Pl),lk ts p.nm=none→lk (insP p ts) m=if p.nm=m then some p else lk ts m
 | [],_=>by
  by_cases h:p.nm=m
  ·rw [if_pos h];exact ZD h
  ·rw [if_neg h];exact ZJ h
 | q :: r,hn=>by
  have hq:q.nm≠p.nm:=Z8.1 hn q (by simp);have hr:lk r p.nm=none:=Z8.2 (fun x hx=>Z8.1 hn x (by simp [hx]));rw [insP];split
  ·by_cases h:p.nm=m
   ·rw [if_pos h,ZD h]
   ·rw [if_neg h,ZJ h]
  ·by_cases hm:q.nm=m
   ·rw [ZD hm,if_neg (fun e=>hq (hm.trans e.symm)),ZD hm]
   ·rw [ZJ hm,Zdo p m r hr,ZJ hm]
theorem ZcG (p:Pl):∀ {ts:List Pl},Up ts→lk ts p.nm=none→Up (insP p ts)
 | [],_,_=>by simp [insP]
 | q :: r,hu,hn=>by
  have hq:q.nm≠p.nm:=Z8.1 hn q (by simp);have hr:lk r p.nm=none:=Z8.2 (fun x hx=>Z8.1 hn x (by simp [hx]));obtain ⟨a1,b1⟩:=List.pairwise_cons.1 hu;rw [insP];split
  ·rename_i h
   refine List.pairwise_cons.2 ⟨fun x hx=>?_,hu⟩;rcases List.mem_cons.1 hx with rfl | hx
   ·exact h
   ·exact ZhL h (a1 x hx)
  ·rename_i h
   refine List.pairwise_cons.2 ⟨fun x hx=>?_,ZcG p b1 hr⟩;rcases (ZbL p x r).1 hx with rfl | hx
   ·refine Zja (by simpa using h) ?_;cases he:(x.nm.toList == q.nm.toList) with
    | false=>rfl
    | true=>exact absurd (Zfi he).symm hq
   ·exact a1 x hx
end Df
end Go.Proofs.YtcpikklofilkcaaGreat
