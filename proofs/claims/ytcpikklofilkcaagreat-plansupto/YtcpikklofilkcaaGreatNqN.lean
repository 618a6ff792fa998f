import Derived.Test.YtcpikklofilkcaaGreatNqM
import Derived.Deep.RegionLaw
import Derived.Deep.AppendLies
set_option maxRecDepth 100000
set_option maxHeartbeats 16000000
namespace Go.Proofs.YtcpikklofilkcaaGreat
open Go.RowKit
namespace Co
theorem Zau {L:List Ln} {f:Nat} {nm:ByteArray} (h:findC L 2 nm=none):chC L f nm=[]:=by
 cases f with
 | zero=>rfl
 | succ f=>rw [chC,h]
theorem Zar {L:List Ln} {f:Nat} {nm:ByteArray} {p:Ln} (h:findC L 2 nm=some p):chC L (f+1) nm=p :: chC L f p.frm:=by rw [chC,h]
theorem Zc6 (L:List Ln):∀ (f f2:Nat) (nm:ByteArray),f≤f2→chC L f nm=(chC L f2 nm).take f
 | 0,f2,nm,_=>by simp [chC]
 | f+1,0,nm,h=>by omega
 | f+1,f2+1,nm,h=>by
  cases hf:findC L 2 nm with
  | none=>rw [Zau hf,Zau hf];rfl
  | some p=>rw [Zar hf,Zar hf,Zc6 L f f2 p.frm (by omega)];rfl
theorem ZfJ (L:List Ln) {f f2:Nat} (nm:ByteArray) (h:f≤f2):(chC L f nm).length≤(chC L f2 nm).length:=by
 rw [Zc6 L f f2 nm h];simp;omega
theorem ZaC (L:List Ln):∀ (f f2:Nat) (nm:ByteArray),(chC L f nm).length<f→f≤f2→chC L f2 nm=chC L f nm
 | 0,f2,nm,h,_=>by omega
 | f+1,0,nm,_,h=>by omega
 | f+1,f2+1,nm,h,h2=>by
  cases hf:findC L 2 nm with
  | none=>rw [Zau hf,Zau hf]
  | some p =>
   rw [Zar hf] at h ⊢;rw [Zar hf,ZaC L f f2 p.frm (by simpa using h) (by omega)]
theorem Za2 (L:List Ln):∀ (f:Nat) (nm:ByteArray),∀ p∈chC L f nm,p∈L.filter (fun l=>l.kind == 2)
 | 0,_,p,h=>by simp [chC] at h
 | f+1,nm,p,h=>by
  cases hf:findC L 2 nm with
  | none=>rw [Zau hf] at h;simp at h
  | some q =>
   rw [Zar hf] at h;rcases List.mem_cons.1 h with h | h
   ·subst h;have h1:=List.mem_of_find?_eq_some hf;have h2:=List.find?_some hf;simp only [Bool.and_eq_true] at h2;exact List.mem_filter.2 ⟨h1,h2.1⟩
   ·exact Za2 L f q.frm p h
theorem ZeD (L:List Ln) (N:Nat):∀ (f:Nat) (nm:ByteArray),f≤N→(chC L f nm).length<f →
  (chC L f nm).Pairwise (fun a b=>(chC L N b.frm).length<(chC L N a.frm).length)∧∀ x∈chC L f nm,(chC L N x.frm).length<(chC L f nm).length
 | 0,nm,_,h=>by omega
 | f+1,nm,hN,h=>by
  cases hf:findC L 2 nm with
  | none=>rw [Zau hf];simp
  | some p =>
   rw [Zar hf] at h ⊢;have hl:(chC L f p.frm).length<f:=by simpa using h
   obtain ⟨i1,i2⟩:=ZeD L N f p.frm (by omega) hl;have e:chC L N p.frm=chC L f p.frm:=ZaC L f N p.frm hl (by omega);refine ⟨List.pairwise_cons.2 ⟨fun x hx=>by rw [e];exact i2 x hx,i1⟩,fun x hx=>?_⟩;rcases List.mem_cons.1 hx with h | h
   ·rw [h,e];simp
   ·have:=i2 x h;simp;omega
theorem Zjf {α:Type}:∀ (l B:List α),l.Pairwise (fun a b=>a≠b)→(∀ x∈l,x∈B)→l.length≤B.length:=by
 classical
 intro l;induction l with
 | nil=>intro B _ _;simp
 | cons a r ih =>
  intro B hp hs;obtain ⟨h1,h2⟩:=List.pairwise_cons.1 hp;have ha:a∈B:=hs a List.mem_cons_self;have:=ih (B.erase a) h2 (fun x hx=>(List.mem_erase_of_ne (fun e=>h1 x hx e.symm)).2 (hs x (List.mem_cons_of_mem _ hx)));rw [List.length_erase_of_mem ha] at this;have hpos:0<B.length:=List.length_pos_of_mem ha;simp;omega
theorem Zdc (L:List Ln) (f:Nat) (nm:ByteArray) (h:(chC L f nm).length<f):(chC L f nm).length≤cntC L 2:=by
 refine Zjf _ (L.filter fun l=>l.kind == 2) ?_ (Za2 L f nm);refine (ZeD L f f nm (Nat.le_refl _) h).1.imp ?_;intro a b hab e;rw [e] at hab;omega
theorem ZiB (L:List Ln):cntC L 2≤L.length:=List.length_filter_le _ _
theorem Zga (L:List Ln) (h6:cntC L 2≤6) (nm:ByteArray):6<(chC L 7 nm).length↔L.length<(chC L (L.length+1) nm).length:=by
 have hc:=ZiB L;constructor
 ·intro h;by_cases hx:(chC L (L.length+1) nm).length<L.length+1
  ·have h1:=Zdc L _ nm hx;have h2:chC L (max 7 (L.length+1)) nm=chC L (L.length+1) nm:=ZaC L _ _ nm hx (by omega);have h3:=ZfJ L (f:=7) (f2:=max 7 (L.length+1)) nm (by omega);rw [h2] at h3;omega
  ·omega
 ·intro h;by_cases hx:(chC L 7 nm).length<7
  ·have h1:=Zdc L _ nm hx;have h2:chC L (max 7 (L.length+1)) nm=chC L 7 nm:=ZaC L _ _ nm hx (by omega);have h3:=ZfJ L (f:=L.length+1) (f2:=max 7 (L.length+1)) nm (by omega);rw [h2] at h3;omega
  ·omega
theorem ZfA (L:List Ln) (nm:ByteArray) (h:¬6<(chC L 7 nm).length):chC L L.length nm=chC L 7 nm:=by
 have hc:=ZiB L;have h1:=Zdc L 7 nm (by omega);by_cases hn:7≤L.length
 ·exact ZaC L _ _ nm (by omega) hn
 ·rw [Zc6 L L.length 7 nm (by omega)];exact List.take_of_length_le (by omega)
def NmB (L:List Ln):Prop:=∀ l∈L,l.kind=2→isNm l.name=true
theorem Zhg {L:List Ln} (hn:NmB L) {nm:ByteArray} (he:nm.toList.isEmpty=true):findC L 2 nm=none:=by
 unfold findC;rw [List.find?_eq_none];intro l hl hc;simp only [Bool.and_eq_true,beq_iff_eq] at hc;have h1:=hn l hl hc.1;have h2:=ZiX l.name h1;have e:l.name.toList=[]:=by
  rw [hc.2];simpa using he
 unfold lt at h2;rw [e] at h2;have e0:(ByteArray.mk #[]).toList=[]:=ByteArray.toList_mk [];rw [e0] at h2;simp [Op.bytesLess] at h2
theorem Zec {L:List Ln} (hb:AllB L) (hn:NmB L):∀ (f k:Nat) (l:Ln),L[k]?=some l→(chI L f k).map (fun j=>L[j]?)=(chC L f l.frm).map some
 | 0,_,_,_=>by simp [chI,chC]
 | f+1,k,l,hl=>by
  cases he:l.frm.toList.isEmpty
  ·obtain ⟨j,l',h1,h2,h3,_⟩:=Zeb hb hl he;rw [ZfC hl he h3,Zar h1,List.map_cons,List.map_cons,h2,Zec hb hn f j l' h2]
  ·rw [Zdb hl he,Zau (Zhg hn he)];rfl
theorem ZdI {L:List Ln} (hb:AllB L) (hn:NmB L) {f k:Nat} {l:Ln} (hl:L[k]?=some l):(chI L f k).length=(chC L f l.frm).length:=by
 have:=congrArg List.length (Zec hb hn f k l hl);simpa using this
theorem ZfR {L:List Ln} (hb:AllB L) (hn:NmB L) (h6:cntC L 2≤6) (hp:∀ l∈L,0<l.place):∀ (R:List Ln) (k:Nat),L.drop k=R →
  (∀ p,lonI L (L.length+1) L.length k R=some p→lonC L 6 R=p∧0<p)∧(lonI L (L.length+1) L.length k R=none→lonC L 6 R=0∧∀ l∈R,¬6<(chC L 7 l.frm).length)
 | [],k,_=>⟨by simp [lonI],fun _=>⟨rfl,by simp⟩⟩
 | l :: r,k,hd=>by
  have hk:L[k]?=some l:=by
   have:=congrArg (fun x=>x[0]?) hd;simpa using this
  have hr:L.drop (k+1)=r:=by
   have:=Zy hk;rw [hd] at this;simpa using this.symm
  obtain ⟨i1,i2⟩:=ZfR hb hn h6 hp r (k+1) hr;rw [lonI,lonC,ZdI hb hn hk];have hiff:=Zga L h6 l.frm;by_cases hx:6<(chC L 7 l.frm).length
  ·rw [if_pos (hiff.1 hx),if_pos hx];refine ⟨fun p h=>?_,fun h=>by cases h⟩;cases h;exact ⟨rfl,hp l (List.mem_of_getElem? hk)⟩
  ·rw [if_neg (fun h=>hx (hiff.2 h)),if_neg hx];refine ⟨i1,fun h=>⟨(i2 h).1,fun x hxm=>?_⟩⟩;rcases List.mem_cons.1 hxm with e | e
   ·rw [e];exact hx
   ·exact (i2 h).2 x e
theorem ZfK {L:List Ln} (hb:AllB L) (hn:NmB L) (hp:∀ l∈L,0<l.place) (hend:∀ l∈L,¬6<(chC L 7 l.frm).length):∀ (R:List Ln) (k:Nat),L.drop k=R →
  (∀ p,lonI L L.length 3 k R=some p→lonC L 3 R=p∧0<p)∧(lonI L L.length 3 k R=none→lonC L 3 R=0)
 | [],k,_=>⟨by simp [lonI],fun _=>rfl⟩
 | l :: r,k,hd=>by
  have hk:L[k]?=some l:=by
   have:=congrArg (fun x=>x[0]?) hd;simpa using this
  have hr:L.drop (k+1)=r:=by
   have:=Zy hk;rw [hd] at this;simpa using this.symm
  obtain ⟨i1,i2⟩:=ZfK hb hn hp hend r (k+1) hr;rw [lonI,lonC,ZdI hb hn hk,ZfA L l.frm (hend l (List.mem_of_getElem? hk))];by_cases hx:3<(chC L 7 l.frm).length
  ·rw [if_pos hx,if_pos hx];refine ⟨fun p h=>?_,fun h=>by cases h⟩;cases h;exact ⟨rfl,hp l (List.mem_of_getElem? hk)⟩
  ·rw [if_neg hx,if_neg hx];exact ⟨i1,i2⟩
theorem Zkx {L:List Ln} (hn:NmB L) (h6:cntC L 2≤6) (hp:∀ l∈L,0<l.place):chER L=chE L∧((chE L).1=0→AllB L∧∀ l∈L,¬6<(chC L 7 l.frm).length):=by
 unfold chER chE;cases hno:noC L L with
 | some k=>exact ⟨rfl,fun h=>by simp at h⟩
 | none =>
  have hb:AllB L:=ZcP L L hno;obtain ⟨a1,a2⟩:=ZfR hb hn h6 hp L 0 rfl;simp only;cases hl:lonI L (L.length+1) L.length 0 L with
  | some p =>
   obtain ⟨e,hpos⟩:=a1 p hl;simp only;rw [e,if_pos hpos];exact ⟨rfl,fun h=>by simp at h⟩
  | none =>
   obtain ⟨e,hend⟩:=a2 hl;obtain ⟨b1,b2⟩:=ZfK hb hn hp hend L 0 rfl;simp only;rw [e,if_neg (by omega)];cases hd:lonI L L.length 3 0 L with
   | some p =>
    obtain ⟨e3,hpos⟩:=b1 p hd;simp only;rw [e3,if_pos hpos];exact ⟨rfl,fun h=>by simp at h⟩
   | none =>
    simp only;rw [b2 hd,if_neg (by omega)];exact ⟨rfl,fun _=>⟨hb,hend⟩⟩
def Inv (acc:List Ln):Prop:=(∀ l∈acc,OkL l∧0<l.place)∧cntC acc 2≤6∧∀ (i:Nat) (l:Ln),acc[i]?=some l→(i=0↔l.kind=1)
theorem Zf2 (a b:List Ln) (k:Nat):cntC (a++b) k=cntC a k+cntC b k:=by simp [cntC]
theorem fault0 {acc:List Ln} {l:Ln} (h:faultC acc l=0):(acc.length=0↔l.kind=1)∧(l.kind=2→cntC acc 2<6):=by
 unfold faultC at h;split at h
 ·cases h
 ·rename_i h1
  split at h
  ·cases h
  ·split at h
   ·cases h
   ·rename_i h3
    refine ⟨?_,fun hk=>?_⟩
    ·simp only [bne_iff_ne,ne_eq,Decidable.not_not,decide_eq_decide] at h1;exact h1
    ·unfold manyC at h3;rw [if_pos (.inl hk),hk] at h3;simp at h3;omega
theorem Inv.snoc {acc:List Ln} {l:Ln} (h:Inv acc) (hok:OkL l) (hf:faultC acc l=0) (p:Nat):Inv (acc++[{l with place:=p+1}]):=by
 obtain ⟨f1,f2⟩:=fault0 hf;refine ⟨fun x hx=>?_,?_,fun i x hx=>?_⟩
 ·rcases List.mem_append.1 hx with h1 | h1
  ·exact h.1 x h1
  ·simp at h1;subst h1;exact ⟨hok,by simp⟩
 ·rw [Zf2];by_cases hk:l.kind=2
  ·have:=f2 hk;have e:cntC [{l with place:=p+1}] 2≤1:=List.length_filter_le _ _;omega
  ·have e:cntC [{l with place:=p+1}] 2=0:=by simp [cntC,hk]
   have:=h.2.1;omega
 ·by_cases hi:i<acc.length
  ·rw [List.getElem?_append_left hi] at hx;exact h.2.2 i x hx
  ·rw [List.getElem?_append_right (by omega)] at hx;have h0:i - acc.length=0:=by
    have:=(List.getElem?_eq_some_iff.1 hx).1;simp at this;omega
   rw [h0] at hx;simp at hx;subst hx;simp only;rw [←f1];omega
theorem Zd1:∀ (ps:List ByteArray) (i:Nat) (acc:List Ln),Inv acc→(rdC i acc ps).err=0→Inv (rdC i acc ps).lines
 | [],i,acc,h,he=>by
  rw [rdC] at he ⊢;split
  ·rename_i h0;rw [if_pos h0] at he;cases he
  ·exact h
 | p :: r,i,acc,h,he=>by
  rw [rdC] at he ⊢;split
  ·rename_i h0;rw [if_pos h0] at he;exact Zd1 r _ _ h he
  ·rename_i h0
   rw [if_neg h0] at he;cases hp:parseF (flds p) with
   | none=>rw [hp] at he;cases he
   | some l =>
    rw [hp] at he;simp only at he ⊢;by_cases hf:faultC acc l=0
    ·rw [if_pos hf] at he ⊢;exact Zd1 r _ _ (h.snoc (Zeq hp) hf i) he
    ·rw [if_neg hf] at he;exact absurd he hf
theorem Zhy (s:ByteArray) (h:(rd s).err=0):Inv (rd s).lines:=Zd1 _ _ _ ⟨by simp,by simp [cntC],by simp⟩ h
theorem Inv.nmB {L:List Ln} (h:Inv L):NmB L:=by
 intro l hl hk;rcases (h.1 l hl).1 with ⟨h1,_⟩ | ⟨_,h2,_⟩
 ·omega
 ·exact h2
theorem Zgn:∀ (ss:List (Nat×Nat)) (key:Nat),(∀ p∈ss,p.1≤2)→key≤2→fK ss key=valL ss key
 | [],_,_,_=>rfl
 | (a,b) :: r,key,h,hk=>by
  have ih:=Zgn r key (fun p hp=>h p (List.mem_cons_of_mem _ hp)) hk;have ha:a≤2:=h (a,b) List.mem_cons_self;unfold fK valL at ih ⊢;rw [List.find?_cons,List.find?_cons];by_cases he:a=key
  ·subst he;simp
  ·have h1:(a == key)=false:=by simpa using he
   have h2:((wordB a).toList == (wordB key).toList)=false:=by
    rw [beq_eq_false_iff_ne];intro e;exact he ((Zci ha hk).1 e)
   simp only [h1,h2];exact ih
theorem Zjl {l:Ln} (hok:OkL l) (hk:l.kind≠1) {key:Nat} (hkey:key≤2):fK (pairsOf l) key=valL l.sets key:=by
 rcases hok with ⟨h,_⟩ | ⟨_,_,h⟩
 ·exact absurd h hk
 ·rw [pairsOf,if_neg hk];exact Zgn _ _ h hkey
theorem ZhC {L:List Ln} {key:Nat} (hkey:key≤2):∀ (js:List Nat) (R:List Ln),js.map (fun j=>L[j]?)=R.map some→(∀ l∈R,OkL l∧l.kind≠1)→vI L key js=chvC key (plainN key) R
 | [],[],_,_=>rfl
 | [],l :: r,h,_=>by simp at h
 | j :: js,[],h,_=>by simp at h
 | j :: js,l :: r,h,hr=>by
  simp only [List.map_cons,List.cons.injEq] at h;have ih:=ZhC hkey js r h.2 (fun x hx=>hr x (List.mem_cons_of_mem _ hx));obtain ⟨hok,hk⟩:=hr l List.mem_cons_self;rw [vI,chvC,h.1,ih];simp only [Option.bind_some];rw [Zjl hok hk hkey];cases valL l.sets key <;> rfl
theorem Zdj {L:List Ln} (hi:Inv L) (hb:AllB L) (hend:∀ l∈L,¬6<(chC L 7 l.frm).length) {k:Nat} {l:Ln} (hk:L[k]?=some l) (h3:l.kind=3) {key:Nat} (hkey:key≤2) :
  vI L key (k :: chI L L.length k)=valC key (plainN key) l.sets (chC L 7 l.frm):=by
 have hm:=List.mem_of_getElem? hk;rw [ZhC hkey (k :: chI L L.length k) (l :: chC L 7 l.frm)]
 ·rfl
 ·rw [List.map_cons,List.map_cons,hk,Zec hb hi.nmB L.length k l hk,ZfA L l.frm (hend l hm)]
 ·intro x hx;rcases List.mem_cons.1 hx with h | h
  ·subst h;exact ⟨(hi.1 x hm).1,by omega⟩
  ·have h1:=List.mem_filter.1 (Za2 L 7 l.frm x h);have h2:x.kind=2:=by simpa using h1.2
   exact ⟨(hi.1 x h1.1).1,by omega⟩
def plR (L:List Ln) (k:Nat) (l:Ln):Pl:=
 ⟨l.name,vI L 0 (k :: chI L L.length k),vI L 1 (k :: chI L L.length k),vI L 2 (k :: chI L L.length k)⟩
def foldR (L:List Ln):Nat→List Ln→List Pl→List Pl
 | _,[],ps=>ps
 | k,l :: r,ps=>foldR L (k+1) r (if l.kind=3 then insP (plR L k l) ps else ps)
theorem Zkt {L:List Ln} (hi:Inv L) (hb:AllB L) (hend:∀ l∈L,¬6<(chC L 7 l.frm).length) {k:Nat} {l:Ln} (hk:L[k]?=some l) (h3:l.kind=3):plR L k l=plC L l:=by
 unfold plR plC;rw [Zdj hi hb hend hk h3 (by omega),Zdj hi hb hend hk h3 (by omega),Zdj hi hb hend hk h3 (by omega)];rfl
theorem Zd6 {L:List Ln} (hi:Inv L) (hb:AllB L) (hend:∀ l∈L,¬6<(chC L 7 l.frm).length):∀ (R:List Ln) (k:Nat) (b:Int) (ps:List Pl),L.drop (k+1)=R→R.foldl (stC L) (b,ps)=(b,foldR L (k+1) R ps)
 | [],k,b,ps,_=>rfl
 | l :: r,k,b,ps,hd=>by
  have hk:L[k+1]?=some l:=by
   have:=congrArg (fun x=>x[0]?) hd;simpa using this
  have hr:L.drop (k+1+1)=r:=by
   have:=Zy hk;rw [hd] at this;simpa using this.symm
  have h1:¬l.kind=1:=by
   intro e;have:=(hi.2.2 (k+1) l hk).2 e;omega
  rw [List.foldl_cons,foldR,stC,if_neg h1];by_cases h3:l.kind=3
  ·rw [if_pos h3,if_pos h3,Zkt hi hb hend hk h3];exact Zd6 hi hb hend r (k+1) b _ hr
  ·rw [if_neg h3,if_neg h3];exact Zd6 hi hb hend r (k+1) b ps hr
def bud0 (L:List Ln):Nat:=match L with | l :: _=>(match l.sets with | p :: _=>p.2 | []=>0) | []=>0
theorem Zky {L:List Ln} (hi:Inv L) (hb:AllB L) (hend:∀ l∈L,¬6<(chC L 7 l.frm).length) (h0:0<L.length):tabC L=((bud0 L:Int),foldR L 0 L []):=by
 obtain ⟨l,r,hl⟩:∃ l r,L=l :: r:=by
  match L,h0 with
  | l :: r,_=>exact ⟨l,r,rfl⟩
 have hk:L[0]?=some l:=by rw [hl];rfl
 have h1:l.kind=1:=(hi.2.2 0 l hk).1 rfl;have hr:L.drop (0+1)=r:=by rw [hl];rfl
 obtain ⟨n,hs⟩:∃ n,l.sets=[(3,n)]:=by
  rcases (hi.1 l (List.mem_of_getElem? hk)).1 with ⟨_,_,_,n,h⟩ | ⟨h,_⟩
  ·exact ⟨n,h⟩
  ·omega
 have e1:tabC L=r.foldl (stC L) (stC L (0,[]) l):=by
  unfold tabC
  conv=>lhs;arg 3;rw [hl]
  rfl
 have e2:foldR L 0 L []=foldR L 1 r []:=by
  conv=>lhs;arg 3;rw [hl]
  rw [foldR,if_neg (by omega)]
 have e3:bud0 L=n:=by rw [hl,bud0,hs]
 have e4:stC L (0,[]) l=((n:Int),[]):=by
  have hv:valL [(3,n)] 3=some n:=by
   unfold valL;rw [List.find?_cons];simp
  rw [stC,if_pos h1,hs,valC,hv]
 rw [e1,e2,e3,e4];exact Zd6 hi hb hend r 0 n [] hr
theorem ZjM (s:ByteArray) (hs:s.size≤1000) (h0:(rd s).err=0→0<(rd s).lines.length) :
  ans s=if (rd s).err≠0 then ⟨(0,[]),(rd s).err,(rd s).at'⟩ else if (chER (rd s).lines).1≠0 then ⟨(0,[]),(chER (rd s).lines).1,(chER (rd s).lines).2⟩ else ⟨((bud0 (rd s).lines:Int),foldR (rd s).lines 0 (rd s).lines []),0,0⟩:=by
 rw [ans,if_neg (by omega)];by_cases he:(rd s).err≠0
 ·rw [if_pos he,if_pos he]
 ·rw [if_neg he,if_neg he];have he0:(rd s).err=0:=by omega
  have hi:=Zhy s he0;obtain ⟨e,hx⟩:=Zkx hi.nmB hi.2.1 (fun l hl=>(hi.1 l hl).2);rw [e];by_cases hc:(chE (rd s).lines).1≠0
  ·rw [if_pos hc,if_pos hc]
  ·rw [if_neg hc,if_neg hc];obtain ⟨hb,hend⟩:=hx (by omega);rw [Zky hi hb hend (h0 he0)]
def JS (w wr:World) (b:Int) (po:Option Addr) (n pc:Nat) (p:Pl) (v:Value) (q:Nat) (acc:List Pl):Prop:=
 wr.heap[w.heap.size]?=some (bTab b (.slice po n pc))∧wr.heap[w.heap.size+1]?=some (bPl p)∧wr.heap[w.heap.size+2]?=some (bTab 0 (.slice none 0 0))∧wr.heap[w.heap.size+3]?=some (bTab b v) ∧
 wr.ownsRow (w.heap.size+4) 70 4 v q (flatP acc)∧Below w.heap.size w wr∧w.heap.size+4≤wr.heap.size
theorem JS.app {w wr w6:World} {b:Int} {po:Option Addr} {n pc q:Nat} {p x:Pl} {v v':Value} {acc:List Pl} {o:Obj} (h:JS w wr b po n pc p v q acc)
  (hg:(wr.alloc o).grownBy w6 v.ownBlock) (hown:w6.ownsRow (w.heap.size+4) 70 4 v' (q+1) (flatP acc++[.string x.nm,.int .i64 x.sz,.int .i64 x.wt,.int .i64 x.fr])) :
  w6.heap[w.heap.size+3]?=some (bTab b v)∧JS w (w6.setCell ⟨w.heap.size+3,1,none⟩ v') b po n pc p v' (q+1) (acc++[x]):=by
 obtain ⟨h0,h1,h2,h3,ho,hb,hz⟩:=h;have hlow:∀ k,k<w.heap.size+4→w6.heap[k]?=wr.heap[k]?:=by
  intro k hk';refine (hg.block k (by simp;omega) ?_).trans (Zh _ _ (by omega));intro e;have:=(ho.lt k e.symm).1;omega
 have g3:w6.heap[w.heap.size+3]?=some (bTab b v):=(hlow _ (by omega)).trans h3;refine ⟨g3,?_,?_,?_,Zg _ _ _ _ _ _ g3,?_,?_,?_⟩
 ·exact (Below.heap_setCell _ _ _ _ (by show w.heap.size≠w.heap.size+3;omega)).trans ((hlow _ (by omega)).trans h0)
 ·exact (Below.heap_setCell _ _ _ _ (by show w.heap.size+1≠w.heap.size+3;omega)).trans ((hlow _ (by omega)).trans h1)
 ·exact (Below.heap_setCell _ _ _ _ (by show w.heap.size+2≠w.heap.size+3;omega)).trans ((hlow _ (by omega)).trans h2)
 ·rw [ZI];exact ownsRow_setCell_below hown (by show w.heap.size+3<_;omega) _
 ·exact (((hb.alloc (Nat.le_trans (by omega) hz) o)).grown hg (by simp;omega) (fun g hgg=>by have:=(ho.lt g hgg).1;omega)).setCell (by show w.heap.size≤w.heap.size+3;omega) _
 ·have:=hg.size;simp at this ⊢;omega
theorem JS.start (w:World) (b:Int) (po:Option Addr) (n pc:Nat) (p:Pl):JS w ((((w.alloc (bTab b (.slice po n pc))).alloc (bPl p)).alloc (bTab 0 (.slice none 0 0))).alloc (bTab b (.slice none 0 0))) b po n pc p (.slice none 0 0) 0 []:=by
 refine ⟨?_,?_,?_,?_,World.ownsRow_nil _ _ _ _,Za (Za (Za (Zb _ _) (Zb _ _)) (Zb _ _)) (Zb _ _),by simp⟩
 ·exact (Zh _ _ (by simp;omega)).trans ((Zh _ _ (by simp;omega)).trans ((Zh _ _ (by simp)).trans (Zm _ _ rfl)))
 ·exact (Zh _ _ (by simp)).trans ((Zh _ _ (by simp)).trans (Zm _ _ (by simp)))
 ·exact (Zh _ _ (by simp)).trans (Zm _ _ (by simp))
 ·exact Zm _ _ (by simp)
theorem JS.drew {w wr:World} {b:Int} {po:Option Addr} {n pc q:Nat} {p:Pl} {v:Value} {acc:List Pl} (h:JS w wr b po n pc p v q acc) (k:Nat):JS w (wr.drewN k) b po n pc p v q acc:=
 ⟨h.1,h.2.1,h.2.2.1,h.2.2.2.1,h.2.2.2.2.1,below_drewN h.2.2.2.2.2.1 k,h.2.2.2.2.2.2⟩
theorem blkP {w:World} {g:Nat} {p:Pl} (h:w.heap[g]?=some (bPl p)):w.cell? ⟨g,0,none⟩=some (.string p.nm)∧w.cell? ⟨g,1,none⟩=some (.int .i64 p.sz)∧w.cell? ⟨g,2,none⟩=some (.int .i64 p.wt)∧w.cell? ⟨g,3,none⟩=some (.int .i64 p.fr):=by
 refine ⟨?_,?_,?_,?_⟩ <;> simp [World.cell?,h]
abbrev KS (w:World) (v:Value) (bl off k n pc:Nat) (nm':ByteArray) (sz' wt' fr':Int) (w':World):Prop:=
 w'.cell? ⟨w.heap.size+1+1+1,1,none⟩=some v∧w'.frozen? ⟨w.heap.size+1+1+1,1,none⟩=false∧w'.cell? ⟨w.heap.size,1,none⟩=some (.slice (some ⟨bl,off,none⟩) n pc)∧w'.cell? ⟨bl,off+k*4,none⟩=some (.string nm')∧w'.cell? ⟨bl,off+k*4+1,none⟩=some (.int .i64 sz')∧w'.cell? ⟨bl,off+k*4+2,none⟩=some (.int .i64 wt')∧w'.cell? ⟨bl,off+k*4+3,none⟩=some (.int .i64 fr')
abbrev CW (w:World) (bl off k:Nat) (nm':ByteArray) (sz' wt' fr':Int):Prop:=bl<w.heap.size∧w.cell? ⟨bl,off+k*4,none⟩=some (.string nm')∧w.cell? ⟨bl,off+k*4+1,none⟩=some (.int .i64 sz')∧w.cell? ⟨bl,off+k*4+2,none⟩=some (.int .i64 wt')∧w.cell? ⟨bl,off+k*4+3,none⟩=some (.int .i64 fr')
theorem Zbz {w wd:World} {b:Int} {n pc q k bl off:Nat} {p:Pl} {v:Value} {acc:List Pl} {nm':ByteArray} {sz' wt' fr':Int} (h:JS w wd b (some ⟨bl,off,none⟩) n pc p v q acc)
  (hc:CW w bl off k nm' sz' wt' fr'):∀ w1:World,(∀ k,k<wd.heap.size→some k≠v.ownBlock→w1.heap[k]?=wd.heap[k]?)→KS w v bl off k n pc nm' sz' wt' fr' w1:=by
 intro w1 hw;obtain ⟨h0,h1,h2,h3,ho,hb,hz⟩:=h;have hlow:∀ j,j<w.heap.size+4→w1.heap[j]?=wd.heap[j]?:=by
  intro j hj;refine hw j (by omega) (fun e=>?_);have:=(ho.lt j e.symm).1;omega
 have g3:w1.heap[w.heap.size+3]?=some (bTab b v):=(hlow _ (by omega)).trans h3;have g0:w1.heap[w.heap.size]?=some (bTab b (.slice (some ⟨bl,off,none⟩) n pc)):=(hlow _ (by omega)).trans h0;have gb:w1.heap[bl]?=w.heap[bl]?:=(hlow _ (by have:=hc.1;omega)).trans (hb.block _ hc.1);refine ⟨(blk2 g3).2.1,(blk2 g3).2.2 1,(blk2 g0).2.1,?_,?_,?_,?_⟩
 ·exact (World.cell?_of_block gb).trans hc.2.1
 ·exact (World.cell?_of_block gb).trans hc.2.2.1
 ·exact (World.cell?_of_block gb).trans hc.2.2.2.1
 ·exact (World.cell?_of_block gb).trans hc.2.2.2.2
theorem ZdC (b:Int) (p:Pl) (po:Option Addr) (pc n:Nat) (ps:List Pl) (w:World) (hr:RowAt w (.slice po n pc) n (flatP ps)) (hn:ps.length=n) (hn1:n≤1001) :
  Calls Tryz.prog 62 #[.agg #[.int .i64 b,.slice po n pc],plA p] w fun e w'=>∃ vo vc,e=.returned (.agg #[.int .i64 b,.slice vo (insP p ps).length vc])∧w'.ownsRow w.heap.size 70 4 (.slice vo (insP p ps).length vc) (insP p ps).length (flatP (insP p ps))∧Below w.heap.size w w':=by
 obtain ⟨t0,hi,hz0,hz1,hz2⟩:=info_parts ZcK;have HST:=hideIt (JS.start w b po n pc p);obtain ⟨nm,sz,wt,fr⟩:=p;have HR:Hid (RowAt w (.slice po n pc) n (flatP ps)∧ps.length=n):=⟨hr,hn⟩;obtain ⟨R,hR⟩:∃ R,insP ⟨nm,sz,wt,fr⟩ ps=R:=⟨_,rfl⟩;rw [hR];have HRR:=hideIt hR;clear hr hn hR;go_enter Tryz.func62,Tryz.ntmps62
 go_wp2_with fail
 go_loopw [6,7] (fun bv i wr=>∃ (k q:Nat) (acc:List Pl) (inb:Bool) (vo:Option Addr) (vc:Nat),k≤n∧i=.int .i64 k∧bv=.bool inb∧q≤k+1 ∧
   Hid (R=acc++(if inb=true then ps.drop k else insP ⟨nm,sz,wt,fr⟩ (ps.drop k))∧acc.length=q∧(inb=false→q=k)) ∧
   Hid (JS w wr b po n pc ⟨nm,sz,wt,fr⟩ (.slice vo q vc) q acc)) (fun _ i _=>n - (intOf i).toNat)
 case atStart=>exact ⟨0,0,[],false,none,0,Nat.zero_le _,rfl,rfl,by omega,⟨by rw [←HRR.out];simp,rfl,fun _=>rfl⟩,HST.out⟩
 case round =>
  obtain ⟨k,q,acc,inb,vo,vc,hk,rfl,rfl,hq,HS,HJ⟩:=hrel;obtain ⟨b0,b1,bz⟩:=blk2 HJ.out.1;obtain ⟨p0,p1,p2,p3⟩:=blkP HJ.out.2.1;obtain ⟨r0,r1,rz⟩:=blk2 HJ.out.2.2.1;obtain ⟨o0,o1,oz⟩:=blk2 HJ.out.2.2.2.1;simp only at p0 p1 p2 p3;by_cases hlt:k<n
  ·obtain ⟨⟨nm',sz',wt',fr'⟩,hp⟩:∃ q,ps[k]?=some q:=⟨_,List.getElem?_eq_getElem (by rw [HR.out.2];exact hlt)⟩;obtain ⟨bl,off,hao,hbl,cw0,cw1,cw2,cw3⟩:=Zn HR.out.1 hp;have hbw:=HJ.out.2.2.2.2.2.1;have c0:wr.cell? ⟨bl,off+k*4,none⟩=some (.string nm'):=(hbw.cell (p:=⟨bl,off+k*4,none⟩) hbl).trans cw0;have c1:wr.cell? ⟨bl,off+k*4+1,none⟩=some (.int .i64 sz'):=(hbw.cell (p:=⟨bl,off+k*4+1,none⟩) hbl).trans cw1;have c2:wr.cell? ⟨bl,off+k*4+2,none⟩=some (.int .i64 wt'):=(hbw.cell (p:=⟨bl,off+k*4+2,none⟩) hbl).trans cw2;have c3:wr.cell? ⟨bl,off+k*4+3,none⟩=some (.int .i64 fr'):=(hbw.cell (p:=⟨bl,off+k*4+3,none⟩) hbl).trans cw3;have HCW:Hid (bl<w.heap.size∧w.cell? ⟨bl,off+k*4,none⟩=some (.string nm')∧w.cell? ⟨bl,off+k*4+1,none⟩=some (.int .i64 sz')∧w.cell? ⟨bl,off+k*4+2,none⟩=some (.int .i64 wt')∧w.cell? ⟨bl,off+k*4+3,none⟩=some (.int .i64 fr')):=⟨hbl,cw0,cw1,cw2,cw3⟩;clear cw0 cw1 cw2 cw3 hbw;have HD:Hid (ps.drop k=⟨nm',sz',wt',fr'⟩ :: ps.drop (k+1)):=Zy hp;have hlti:(k:Int)<(n:Int):=by omega
   have h0i:(0:Int)≤(k:Int):=by omega
   subst hao;clear hp;cases inb
   ·have hqk1:q≤k:=Nat.le_of_eq (HS.out.2.2 rfl);have hqk2:k≤q:=Nat.le_of_eq (HS.out.2.2 rfl).symm;cases hl:lt nm nm'
    ·have hlb:Op.bytesLess nm.toList nm'.toList=false:=hl;have HX:Hid (R=(acc++[Pl.mk nm' sz' wt' fr'])++(if false=true then ps.drop (k+1) else insP (Pl.mk nm sz wt fr) (ps.drop (k+1)))):=by
      show _=_;rw [HS.out.1];simp only [Bool.false_eq_true,if_false];rw [HD.out,ZgH hl];simp
     clear hl;go_upto_region 6 with fail
     go_quiet (fail)
     go_upto_region 9 with fail
     obtain ⟨wd,hwd⟩:∃ wd,wr.drewN nq=wd:=⟨_,rfl⟩;have HJd:Hid (JS w wd b (some ⟨bl,off,none⟩) n pc ⟨nm,sz,wt,fr⟩ (.slice vo q vc) q acc):=by rw [←hwd];exact HJ.out.drew nq
     rw [hwd];clear b0 b1 bz p0 p1 p2 p3 r0 r1 rz o0 o1 oz c0 c1 c2 c3 hwd hbl;have HK:Hid (∀ w1:World,(∀ k,k<wd.heap.size→some k≠(Value.slice vo (q) vc).ownBlock→w1.heap[k]?=wd.heap[k]?)→KS w (.slice vo (q) vc) bl off k n pc nm' sz' wt' fr' w1):=Zbz HJd.out HCW.out;obtain ⟨s0,s1,s2,s3,s4,s5,s6⟩:=HK.out wd (fun _ _ _=>rfl);have hownd:=HJd.out.2.2.2.2.1;have hBd:=HJd.out.2.2.2.2.2.2;have sA:∀ o,(wd.alloc o).cell? ⟨w.heap.size+1+1+1,1,none⟩=some (.slice vo (q) vc):=fun o=>(HK.out (wd.alloc o) (fun j hj _=>Zh _ _ hj)).1
     go_region_law
      ((refine step_append_lies _ (by rfl) (.tmp 38) (.tmp 44) 29 (by rfl) (w.heap.size+4) 70 t0 _ 4 40 Tryz.underlying29 hi hz0 hz1 hz2 (by rfl) (by decide) _ (q) (flatP (acc)) (by rfl) (hownd.alloc _) ⟨wd.heap.size,0,none⟩ 1 1 [.string nm',.int .i64 sz',.int .i64 wt',.int .i64 fr'] (by rfl) (by rfl) (Zw _ [.string nm',.int .i64 sz',.int .i64 wt',.int .i64 fr'] _) (by intro u hu;simp at hu;rcases hu with rfl | rfl | rfl | rfl <;> rfl) (by omega) (by unfold maxLen;omega) (by omega) (by simp;omega) (wd.heap.size+1) (by simp) ?_;intro g6 cap6 w6 hown6 hgrow6 hat6 hlt6;obtain ⟨q0,q1,_⟩:=HK.out w6 (fun j hj hne=>(hgrow6.block j (by simp;omega) hne).trans (Zh _ _ hj))))
     all_goals
      have HJ6:=hideIt (JS.app (x:=Pl.mk nm' sz' wt' fr') (HJd.out.drew 1) hgrow6 hown6).2;clear hown6 hgrow6 hat6 q0 q1 s0 s1 s2 s3 s4 s5 s6 sA hownd;go_wp2_with fail
      go_roundw
      case rel=>exact ⟨k+1,(q)+1,(acc)++[Pl.mk nm' sz' wt' fr'],false,some ⟨g6,0,none⟩,cap6,by omega,by go_num,rfl,by omega,⟨HX.out,by simp [HS.out.2.1],fun _=>by omega⟩,HJ6.out⟩
      case measure=>simp [intOf];omega
    ·have hlb:Op.bytesLess nm.toList nm'.toList=true:=hl;have HX:Hid (R=((acc++[Pl.mk nm sz wt fr])++[Pl.mk nm' sz' wt' fr'])++(if true=true then ps.drop (k+1) else insP (Pl.mk nm sz wt fr) (ps.drop (k+1)))):=by
      show _=_;rw [HS.out.1];simp only [Bool.false_eq_true,if_false];rw [HD.out,Zfr hl];simp
     clear hl;go_upto_region 6 with fail
     go_quiet (fail)
     obtain ⟨wr1,hwr1⟩:∃ wr1,wr.drewN nq=wr1:=⟨_,rfl⟩;have HJ1:Hid (JS w wr1 b (some ⟨bl,off,none⟩) n pc ⟨nm,sz,wt,fr⟩ (.slice vo q vc) q acc):=by rw [←hwr1];exact HJ.out.drew nq
     rw [hwr1];clear b0 b1 bz p0 p1 p2 p3 r0 r1 rz o0 o1 oz c0 c1 c2 c3 hwr1 hbl;obtain ⟨b0,b1,bz⟩:=blk2 HJ1.out.1;obtain ⟨p0,p1,p2,p3⟩:=blkP HJ1.out.2.1;obtain ⟨o0,o1,oz⟩:=blk2 (show wr1.heap[w.heap.size+1+1+1]?=_ from HJ1.out.2.2.2.1);simp only at p0 p1 p2 p3;go_wp2_with (at_builtin;refine wpList_append_own _ rfl (.tmp 32) (.tmp 34) 29 rfl (w.heap.size+4) 70 t0 _ 4 40 Tryz.underlying29 hi hz0 hz1 hz2 rfl (by decide) _ q (flatP acc) rfl (HJ1.out.2.2.2.2.1.alloc _) ⟨wr1.heap.size,0,none⟩ 1 1 [.string nm,.int .i64 sz,.int .i64 wt,.int .i64 fr] rfl rfl (Zw _ [.string nm,.int .i64 sz,.int .i64 wt,.int .i64 fr] _) (by intro u hu;simp at hu;rcases hu with rfl | rfl | rfl | rfl <;> rfl) (by unfold maxLen;omega) (by omega) (by have:=HJ1.out.2.2.2.2.2.2;simp;omega) ?next)
     case next =>
      intro v5 w5 hown5 hgrow5 _;obtain ⟨vo5,vc5,hv5,_⟩:=Zd hown5;subst hv5;obtain ⟨hg3,hJ5⟩:=JS.app (x:=Pl.mk nm sz wt fr) HJ1.out hgrow5 hown5;obtain ⟨f0,f1,fz⟩:=blk2 (show w5.heap[w.heap.size+1+1+1]?=_ from hg3);have HJ5:=hideIt hJ5;clear hown5 hgrow5 hg3 hJ5 b0 b1 bz p0 p1 p2 p3 o0 o1 oz;go_upto_region 9 with fail
      obtain ⟨wd,hwd⟩:∃ wd,w5.setCell ⟨w.heap.size+1+1+1,1,none⟩ (.slice vo5 (q+1) vc5)=wd:=⟨_,rfl⟩;have HJd:Hid (JS w wd b (some ⟨bl,off,none⟩) n pc ⟨nm,sz,wt,fr⟩ (.slice vo5 (q+1) vc5) (q+1) (acc++[Pl.mk nm sz wt fr])):=by rw [←hwd];exact HJ5.out
      rw [hwd];clear f0 f1 fz hwd;have HK:Hid (∀ w1:World,(∀ k,k<wd.heap.size→some k≠(Value.slice vo5 (q+1) vc5).ownBlock→w1.heap[k]?=wd.heap[k]?)→KS w (.slice vo5 (q+1) vc5) bl off k n pc nm' sz' wt' fr' w1):=Zbz HJd.out HCW.out;obtain ⟨s0,s1,s2,s3,s4,s5,s6⟩:=HK.out wd (fun _ _ _=>rfl);have hownd:=HJd.out.2.2.2.2.1;have hBd:=HJd.out.2.2.2.2.2.2;have sA:∀ o,(wd.alloc o).cell? ⟨w.heap.size+1+1+1,1,none⟩=some (.slice vo5 (q+1) vc5):=fun o=>(HK.out (wd.alloc o) (fun j hj _=>Zh _ _ hj)).1
      go_region_law
       ((refine step_append_lies _ (by rfl) (.tmp 38) (.tmp 44) 29 (by rfl) (w.heap.size+4) 70 t0 _ 4 40 Tryz.underlying29 hi hz0 hz1 hz2 (by rfl) (by decide) _ (q+1) (flatP (acc++[Pl.mk nm sz wt fr])) (by rfl) (hownd.alloc _) ⟨wd.heap.size,0,none⟩ 1 1 [.string nm',.int .i64 sz',.int .i64 wt',.int .i64 fr'] (by rfl) (by rfl) (Zw _ [.string nm',.int .i64 sz',.int .i64 wt',.int .i64 fr'] _) (by intro u hu;simp at hu;rcases hu with rfl | rfl | rfl | rfl <;> rfl) (by omega) (by unfold maxLen;omega) (by omega) (by simp;omega) (wd.heap.size+1) (by simp) ?_;intro g6 cap6 w6 hown6 hgrow6 hat6 hlt6;obtain ⟨q0,q1,_⟩:=HK.out w6 (fun j hj hne=>(hgrow6.block j (by simp;omega) hne).trans (Zh _ _ hj))))
      all_goals
       have HJ6:=hideIt (JS.app (x:=Pl.mk nm' sz' wt' fr') (HJd.out.drew 1) hgrow6 hown6).2;clear hown6 hgrow6 hat6 q0 q1 s0 s1 s2 s3 s4 s5 s6 sA hownd;go_wp2_with fail
       go_roundw
       case rel=>exact ⟨k+1,(q+1)+1,(acc++[Pl.mk nm sz wt fr])++[Pl.mk nm' sz' wt' fr'],true,some ⟨g6,0,none⟩,cap6,by omega,by go_num,rfl,by omega,⟨HX.out,by simp [HS.out.2.1],fun h=>by cases h⟩,HJ6.out⟩
       case measure=>simp [intOf];omega
   ·have HX:Hid (R=(acc++[Pl.mk nm' sz' wt' fr'])++(if true=true then ps.drop (k+1) else insP (Pl.mk nm sz wt fr) (ps.drop (k+1)))):=by
     show _=_;rw [HS.out.1,if_pos rfl,if_pos rfl,HD.out];simp
    go_upto_region 6 with fail
    go_quiet (fail)
    go_upto_region 9 with fail
    obtain ⟨wd,hwd⟩:∃ wd,wr.drewN nq=wd:=⟨_,rfl⟩;have HJd:Hid (JS w wd b (some ⟨bl,off,none⟩) n pc ⟨nm,sz,wt,fr⟩ (.slice vo q vc) q acc):=by rw [←hwd];exact HJ.out.drew nq
    rw [hwd];clear b0 b1 bz p0 p1 p2 p3 r0 r1 rz o0 o1 oz c0 c1 c2 c3 hwd hbl;have HK:Hid (∀ w1:World,(∀ k,k<wd.heap.size→some k≠(Value.slice vo (q) vc).ownBlock→w1.heap[k]?=wd.heap[k]?)→KS w (.slice vo (q) vc) bl off k n pc nm' sz' wt' fr' w1):=Zbz HJd.out HCW.out;obtain ⟨s0,s1,s2,s3,s4,s5,s6⟩:=HK.out wd (fun _ _ _=>rfl);have hownd:=HJd.out.2.2.2.2.1;have hBd:=HJd.out.2.2.2.2.2.2;have sA:∀ o,(wd.alloc o).cell? ⟨w.heap.size+1+1+1,1,none⟩=some (.slice vo (q) vc):=fun o=>(HK.out (wd.alloc o) (fun j hj _=>Zh _ _ hj)).1
    go_region_law
     ((refine step_append_lies _ (by rfl) (.tmp 38) (.tmp 44) 29 (by rfl) (w.heap.size+4) 70 t0 _ 4 40 Tryz.underlying29 hi hz0 hz1 hz2 (by rfl) (by decide) _ (q) (flatP (acc)) (by rfl) (hownd.alloc _) ⟨wd.heap.size,0,none⟩ 1 1 [.string nm',.int .i64 sz',.int .i64 wt',.int .i64 fr'] (by rfl) (by rfl) (Zw _ [.string nm',.int .i64 sz',.int .i64 wt',.int .i64 fr'] _) (by intro u hu;simp at hu;rcases hu with rfl | rfl | rfl | rfl <;> rfl) (by omega) (by unfold maxLen;omega) (by omega) (by simp;omega) (wd.heap.size+1) (by simp) ?_;intro g6 cap6 w6 hown6 hgrow6 hat6 hlt6;obtain ⟨q0,q1,_⟩:=HK.out w6 (fun j hj hne=>(hgrow6.block j (by simp;omega) hne).trans (Zh _ _ hj))))
    all_goals
     have HJ6:=hideIt (JS.app (x:=Pl.mk nm' sz' wt' fr') (HJd.out.drew 1) hgrow6 hown6).2;clear hown6 hgrow6 hat6 q0 q1 s0 s1 s2 s3 s4 s5 s6 sA hownd;go_wp2_with fail
     go_roundw
     case rel=>exact ⟨k+1,(q)+1,(acc)++[Pl.mk nm' sz' wt' fr'],true,some ⟨g6,0,none⟩,cap6,by omega,by go_num,rfl,by omega,⟨HX.out,by simp [HS.out.2.1],fun h=>by cases h⟩,HJ6.out⟩
     case measure=>simp [intOf];omega
  ·have hkn:ps.drop k=[]:=List.drop_of_length_le (by rw [HR.out.2];omega);cases inb
   ·have HX:Hid (R=acc++[Pl.mk nm sz wt fr]∧(acc++[Pl.mk nm sz wt fr]).length=q+1):=⟨by rw [HS.out.1,hkn];rfl,by simp [HS.out.2.1]⟩;have o1':wr.cell? ⟨w.heap.size+1+1+1,1,none⟩=some (.slice vo q vc):=o1;clear hkn bz r0 r1 rz o0 oz;go_wp2_with (at_builtin;refine wpList_append_own _ rfl (.tmp 50) (.tmp 52) 29 rfl (w.heap.size+4) 70 t0 _ 4 40 Tryz.underlying29 hi hz0 hz1 hz2 rfl (by decide) _ q (flatP acc) rfl (HJ.out.2.2.2.2.1.alloc _) ⟨wr.heap.size,0,none⟩ 1 1 [.string nm,.int .i64 sz,.int .i64 wt,.int .i64 fr] rfl rfl (Zw _ [.string nm,.int .i64 sz,.int .i64 wt,.int .i64 fr] _) (by intro u hu;simp at hu;rcases hu with rfl | rfl | rfl | rfl <;> rfl) (by unfold maxLen;omega) (by omega) (by have:=HJ.out.2.2.2.2.2.2;simp;omega) ?next)
    case next =>
     intro v5 w5 hown5 hgrow5 _;obtain ⟨vo5,vc5,hv5,_⟩:=Zd hown5;subst hv5;obtain ⟨hg3,hJ5⟩:=JS.app (x:=Pl.mk nm sz wt fr) HJ.out hgrow5 hown5;obtain ⟨f0,f1,fz⟩:=blk2 (show w5.heap[w.heap.size+1+1+1]?=_ from hg3);have HF:=hideIt hJ5;obtain ⟨x0,x1,xz⟩:=blk2 (show (w5.setCell ⟨w.heap.size+1+1+1,1,none⟩ (.slice vo5 (q+1) vc5)).heap[w.heap.size+1+1]?=_ from hJ5.2.2.1);clear hown5 hgrow5 hg3 hJ5;go_wp2_with fail
     refine bodyPost_ret (v:=.agg #[.int .i64 b,.slice vo5 (q+1) vc5]) (by simp [results,Tryz.results62,go_sem,x0,x1]) rfl ⟨vo5,vc5,?_,?_,?_⟩
     ·rw [HX.out.1,HX.out.2]
     ·rw [HX.out.1,HX.out.2];exact Zi (ownsRow_setCell_below (ownsRow_setCell_below HF.out.2.2.2.2.1 (by show w.heap.size+2<_;omega) _) (by show w.heap.size+2<_;omega) _) (by omega)
     ·exact (HF.out.2.2.2.2.2.1.setCell (by show w.heap.size≤w.heap.size+2;omega) _).setCell (by show w.heap.size≤w.heap.size+2;omega) _
   ·have HX:Hid (R=acc∧acc.length=q):=⟨by rw [HS.out.1,hkn];simp,HS.out.2.1⟩;have HF:=HJ;have x0:wr.cell? ⟨w.heap.size+1+1,0,none⟩=some (.int .i64 0):=r0;have x1:wr.cell? ⟨w.heap.size+1+1,1,none⟩=some (.slice none 0 0):=r1;have xz:∀ a,wr.frozen? ⟨w.heap.size+1+1,a,none⟩=false:=rz;have o0':wr.cell? ⟨w.heap.size+1+1+1,0,none⟩=some (.int .i64 b):=o0;have o1':wr.cell? ⟨w.heap.size+1+1+1,1,none⟩=some (.slice vo q vc):=o1;clear hkn;go_wp2_with fail
    refine bodyPost_ret (v:=.agg #[.int .i64 b,.slice vo (q) vc]) (by simp [results,Tryz.results62,go_sem,x0,x1]) rfl ⟨vo,vc,?_,?_,?_⟩
    ·rw [HX.out.1,HX.out.2]
    ·rw [HX.out.1,HX.out.2];exact Zi (ownsRow_setCell_below (ownsRow_setCell_below HF.out.2.2.2.2.1 (by show w.heap.size+2<_;omega) _) (by show w.heap.size+2<_;omega) _) (by omega)
    ·exact (HF.out.2.2.2.2.2.1.setCell (by show w.heap.size≤w.heap.size+2;omega) _).setCell (by show w.heap.size≤w.heap.size+2;omega) _
end Co
end Go.Proofs.YtcpikklofilkcaaGreat
