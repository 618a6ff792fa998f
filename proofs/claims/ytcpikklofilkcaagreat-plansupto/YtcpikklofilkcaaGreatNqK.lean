import Derived.Test.YtcpikklofilkcaaGreatNqJ
import Derived.Deep.DeepCutAuto
set_option maxRecDepth 100000
set_option maxHeartbeats 16000000
namespace Go.Proofs.YtcpikklofilkcaaGreat
open Go.RowKit
namespace Co
def onceK (ks:List Nat):Prop:=ks.Pairwise fun a b=>¬b=a
def twK (ks:List Nat):Bool:=!decide (ks.Pairwise fun a b=>¬b=a)
theorem ZgY {ks:List Nat} {k a:Nat} (h:ks[k]?=some a) (h1:onceK (ks.take k)) (h2:∀ j q,j<k→ks[j]?=some q→¬a=q):onceK (ks.take (k+1)):=by
 obtain ⟨hk,e⟩:=List.getElem?_eq_some_iff.1 h;unfold onceK at *;rw [List.take_succ_eq_append_getElem hk,List.pairwise_append];refine ⟨h1,by simp,?_⟩;intro x hx y hy;simp at hy;subst hy;obtain ⟨j,hj⟩:=List.getElem?_of_mem hx;rw [List.getElem?_take] at hj;split at hj
 ·rw [e];exact h2 j x (by assumption) hj
 ·cases hj
theorem ZjQ {ks:List Nat} {j k a b:Nat} (hjk:j<k) (hq:ks[j]?=some a) (hp:ks[k]?=some b) (he:b=a):twK ks=true:=by
 unfold twK;simp only [Bool.not_eq_true',decide_eq_false_iff_not];intro h;obtain ⟨h1,e1⟩:=List.getElem?_eq_some_iff.1 hq;obtain ⟨h2,e2⟩:=List.getElem?_eq_some_iff.1 hp;have:=List.pairwise_iff_getElem.1 h j k h1 h2 hjk;rw [e1,e2] at this;exact this he
theorem Zi2 {ks:List Nat} (h:onceK ks):twK ks=false:=by
 unfold twK;simp only [Bool.not_eq_false',decide_eq_true_iff];exact h
theorem Zcr (wd nm fr:ByteArray) (ko:Option Addr) (n kc:Nat) (vo:Option Addr) (nv vc:Nat) (pl:Int) (ks:List Nat) (w:World) (hr:RowAt w (.slice ko n kc) n (ints ks)) (hn:ks.length=n) (hn1:n≤1001) :
  Calls Tryz.prog 138 #[rlA wd nm fr ko n kc vo nv vc pl] w fun e w'=>e=.returned (.bool (twK ks))∧Below w.heap.size w w':=by
 have HN:Hid (ks.length=n):=hn;have HR:Hid (RowAt (w.alloc (bRL wd nm fr ko n kc vo nv vc pl)) (.slice ko n kc) n (ints ks)):=hr.nx (Zb _ _);clear hr hn;go_enter Tryz.func138,Tryz.ntmps138
 go_wp2_with fail
 go_loopw [3] (fun i wr=>∃ (k:Nat),k≤n∧i=.int .i64 k∧Hid (onceK (ks.take k))∧Below (w.alloc (bRL wd nm fr ko n kc vo nv vc pl)).heap.size (w.alloc (bRL wd nm fr ko n kc vo nv vc pl)) wr) (fun i _=>n - (intOf i).toNat)
 case atStart=>exact ⟨0,Nat.zero_le _,rfl,List.Pairwise.nil,Below.refl _ _⟩
 case round =>
  obtain ⟨k,hk,rfl,HS,hbel⟩:=hrel;have hcell:wr.cell? ⟨w.heap.size,3,none⟩=some (.slice ko n kc):=(hbel.cell (p:=⟨w.heap.size,3,none⟩) (by simp)).trans (by simp);by_cases hlt:k<n
  ·obtain ⟨a,hp⟩:∃ p,ks[k]?=some p:=⟨_,List.getElem?_eq_getElem (by rw [HN.out];exact hlt)⟩;have HPk:Hid (ks[k]?=some a):=hp;have HBL:=hideIt hbel;clear hp;go_wp2_with fail
   go_loopw [4] (fun i wq=>∃ (j:Nat),j≤k∧i=.int .i64 j∧Hid (∀ j' q,j'<j→ks[j']?=some q→¬a=q)∧Below (w.alloc (bRL wd nm fr ko n kc vo nv vc pl)).heap.size (w.alloc (bRL wd nm fr ko n kc vo nv vc pl)) wq) (fun i _=>k - (intOf i).toNat)
   case atStart=>exact ⟨0,Nat.zero_le _,rfl,(fun j' q h=>by omega),HBL.out⟩
   case round =>
    obtain ⟨j,hj,rfl,HJ,hbel2⟩:=hrel;have hcell2:wr.cell? ⟨w.heap.size,3,none⟩=some (.slice ko n kc):=(hbel2.cell (p:=⟨w.heap.size,3,none⟩) (by simp)).trans (by simp);have HB:Hid (Below w.heap.size w wr):=Za (Zb _ _) hbel2;by_cases hjk:j<k
    ·obtain ⟨b,hq⟩:∃ p,ks[j]?=some p:=⟨_,List.getElem?_eq_getElem (by rw [HN.out];omega)⟩;obtain ⟨bl,off,hso,hbl,c0⟩:=Z6 (HR.out.nx hbel2) HPk.out;obtain ⟨bl',off',e1,_,d0⟩:=Z6 (HR.out.nx hbel2) hq;rw [hso] at e1;obtain ⟨rfl,rfl⟩:bl=bl'∧off=off':=by simpa using e1
     rw [hso] at hcell2;have HQ:Hid (ks[j]?=some b):=hq;have HSO:=hideIt hso;have hi1:(k:Int)<(n:Int):=by omega
     have hi2:(j:Int)<(n:Int):=by omega
     clear hq e1 hso hcell;by_cases hw:a=b
     ·have hwb:((a:Int) == (b:Int))=true:=by simp [hw]
      have HT:Hid (twK ks=true):=ZjQ hjk HQ.out HPk.out hw;clear hw;go_wp2_with fail
      go_quiet (fail)
      go_wp2_with fail
      go_ret
      exact ⟨Zl HT.out.symm,below_drewN HB.out _⟩
     ·have hwb:((a:Int) == (b:Int))=false:=by simp;omega
      have HT:Hid (¬a=b):=hw;clear hw;go_wp2_with fail
      go_quiet (fail)
      go_wp2_with fail
      go_roundw
      case rel=>exact ⟨j+1,by omega,by go_num,(fun j' q h h2=>by
       by_cases hjj:j'<j
       ·exact HJ.out j' q hjj h2
       ·obtain rfl:j'=j:=by omega
        rw [HQ.out] at h2;cases h2;exact HT.out),below_drewN hbel2 _⟩
      case measure=>simp [intOf];omega
    ·obtain rfl:j=k:=by omega
     clear hcell;go_wp2_with fail
     go_roundw
     case rel=>exact ⟨j+1,by omega,by go_num,ZgY HPk.out HS.out HJ.out,hbel2⟩
     case measure=>simp [intOf];omega
  ·go_wp2_with fail
   go_ret
   exact ⟨Zl (by rw [Zi2];rw [←List.take_of_length_le (l:=ks) (i:=k) (by rw [HN.out];omega)];exact HS.out),Za (Zb _ _) hbel⟩
def allM (ss:List (Nat×Nat)):Bool:=ss.all fun p=>decide (p.2≤mostN p.1)
theorem Zcl (a b:Nat) (r:List (Nat×Nat)):allM ((a,b) :: r)=(decide (b≤mostN a)&&allM r):=by simp [allM]
theorem Zft (wd nm fr:ByteArray) (ko:Option Addr) (n kc:Nat) (vo:Option Addr) (vc:Nat) (pl:Int) (ss:List (Nat×Nat)) (w:World) (hb:(wd.toList == [98,117,100,103,101,116])=false)
  (hr:RowAt w (.slice ko n kc) n (ints (ss.map (·.1)))) (hr2:RowAt w (.slice vo n vc) n (ints (ss.map (·.2)))) (hn:ss.length=n) (hn1:n≤1001) :
  Calls Tryz.prog 136 #[rlA wd nm fr ko n kc vo n vc pl] w fun e w'=>e=.returned (.bool (allM ss))∧Below w.heap.size w w':=by
 have HN:Hid (ss.length=n):=hn;have HR:Hid (RowAt (w.alloc (bRL wd nm fr ko n kc vo n vc pl)) (.slice ko n kc) n (ints (ss.map (·.1)))∧RowAt (w.alloc (bRL wd nm fr ko n kc vo n vc pl)) (.slice vo n vc) n (ints (ss.map (·.2)))):=⟨hr.nx (Zb _ _),hr2.nx (Zb _ _)⟩;clear hr hr2 hn;go_enter Tryz.func136,Tryz.ntmps136
 go_wp2_with fail
 go_loopw [3] (fun i wr=>∃ (k:Nat),k≤n∧i=.int .i64 k∧Hid (allM (ss.drop k)=allM ss)∧Below (w.alloc (bRL wd nm fr ko n kc vo n vc pl)).heap.size (w.alloc (bRL wd nm fr ko n kc vo n vc pl)) wr) (fun i _=>n - (intOf i).toNat)
 case atStart=>exact ⟨0,Nat.zero_le _,rfl,rfl,Below.refl _ _⟩
 case round =>
  obtain ⟨k,hk,rfl,HS,hbel⟩:=hrel;have hc3:wr.cell? ⟨w.heap.size,3,none⟩=some (.slice ko n kc):=(hbel.cell (p:=⟨w.heap.size,3,none⟩) (by simp)).trans (by simp);have hc4:wr.cell? ⟨w.heap.size,4,none⟩=some (.slice vo n vc):=(hbel.cell (p:=⟨w.heap.size,4,none⟩) (by simp)).trans (by simp);have HB:Hid (Below w.heap.size w wr):=Za (Zb _ _) hbel;by_cases hlt:k<n
  ·obtain ⟨⟨a,b⟩,hp⟩:∃ p,ss[k]?=some p:=⟨_,List.getElem?_eq_getElem (by rw [HN.out];exact hlt)⟩;obtain ⟨bl,off,rfl,hbl,c0⟩:=Z6 (HR.out.1.nx hbel) (show (ss.map (·.1))[k]?=some a by simp [hp]);obtain ⟨bl2,off2,rfl,hbl2,d0⟩:=Z6 (HR.out.2.nx hbel) (show (ss.map (·.2))[k]?=some b by simp [hp]);have HD:Hid (ss.drop k=(a,b) :: ss.drop (k+1)):=Zy hp;have hlti:(k:Int)<(n:Int):=by omega
   clear hp;by_cases hf:b≤mostN a
   ·have HF:=hideIt hf;obtain ⟨q,hq⟩:∃ q,mostN a=q:=⟨_,rfl⟩;have HM:=hideIt (Zfo a);rw [hq] at hf HM;have hfi:¬(q:Int)<(b:Int):=by omega
    clear hq hf;go_wp2_with fail
    go_quiet ((go_at_call 155;exact Calls.quiet_of_same (HM.out _)))
    go_wp2_with fail
    go_roundw
    case rel=>exact ⟨k+1,by omega,by go_num,(by show _=_;rw [←HS.out,HD.out,Zcl,decide_eq_true HF.out];simp),below_drewN hbel _⟩
    case measure=>simp [intOf];omega
   ·have HF:=hideIt hf;obtain ⟨q,hq⟩:∃ q,mostN a=q:=⟨_,rfl⟩;have HM:=hideIt (Zfo a);rw [hq] at hf HM;have hfi:(q:Int)<(b:Int):=by omega
    clear hq hf;go_wp2_with fail
    go_quiet ((go_at_call 155;exact Calls.quiet_of_same (HM.out _)))
    go_wp2_with fail
    go_ret
    exact ⟨Zl (by rw [←HS.out,HD.out,Zcl,decide_eq_false HF.out];rfl),below_drewN HB.out _⟩
  ·go_wp2_with fail
   go_ret
   exact ⟨Zl (by rw [←HS.out,List.drop_of_length_le (by rw [HN.out];omega)];rfl),HB.out⟩
theorem ZiI (nm fr:ByteArray) (ko:Option Addr) (nk kc:Nat) (vo:Option Addr) (vc:Nat) (pl:Int) (x:Nat) (w:World) (hr:RowAt w (.slice vo 1 vc) 1 (ints [x])) :
  Calls Tryz.prog 136 #[rlA sBudget nm fr ko nk kc vo 1 vc pl] w fun e w'=>e=.returned (.bool (inB 1 99 x))∧Below w.heap.size w w':=by
 obtain ⟨bl,off,rfl,hbl,c0⟩:=Z6 (hr.nx (Zb w (bRL sBudget nm fr ko nk kc vo 1 vc pl))) (show [x][0]?=some x from rfl);simp only [Nat.add_zero] at c0;clear hr;by_cases h1:(1:Int)≤(x:Int)
 ·go_enter Tryz.func136,Tryz.ntmps136
  go_wp2_with fail
  go_ret
  exact ⟨Zl (by simp only [inB,decide_eq_true h1,Bool.true_and]),Zb _ _⟩
 ·go_enter Tryz.func136,Tryz.ntmps136
  go_wp2_with fail
  go_ret
  exact ⟨Zl (Zcy (by omega)).symm,Zb _ _⟩
def OkL (l:Ln):Prop:=
 (l.kind=1∧l.name=⟨#[]⟩∧l.frm=⟨#[]⟩∧∃ n,l.sets=[(3,n)])∨((l.kind=2∨l.kind=3)∧isNm l.name=true∧∀ p∈l.sets,p.1≤2)
theorem Zci {a b:Nat} (ha:a≤2) (hb:b≤2):(wordB a).toList=(wordB b).toList↔a=b:=by
 have e:∀ k,(wordB k).toList=kwL k:=fun k=>by rw [ByteArray.toList_eq];rfl
 rw [e,e];refine ⟨fun h=>?_,fun h=>by rw [h]⟩;match a,b,ha,hb with
 | 0,0,_,_=>rfl
 | 0,1,_,_=>simp [kwL] at h
 | 0,2,_,_=>simp [kwL] at h
 | 1,0,_,_=>simp [kwL] at h
 | 1,1,_,_=>rfl
 | 1,2,_,_=>simp [kwL] at h
 | 2,0,_,_=>simp [kwL] at h
 | 2,1,_,_=>simp [kwL] at h
 | 2,2,_,_=>rfl
theorem Zdg:∀ (ss:List (Nat×Nat)),(∀ p∈ss,p.1≤2)→allM ss=allFit ss
 | [],_=>rfl
 | (a,b) :: r,h=>by
  have ih:=Zdg r (fun p hp=>h p (List.mem_cons_of_mem _ hp));have ha:a≤2:=h (a,b) List.mem_cons_self;rw [Zcl,ZbB,ih];congr 1;match a,ha with
  | 0,_=>simp [mostN,fitsK,inB];omega
  | 1,_=>simp [mostN,fitsK,inB];omega
  | 2,_=>simp [mostN,fitsK,inB];omega
theorem ZgB (ss:List (Nat×Nat)) (h:∀ p∈ss,p.1≤2):twK (ss.map (·.1))=twc ss:=by
 unfold twK twc;congr 1;rw [decide_eq_decide,List.pairwise_map];constructor
 ·intro hp;refine List.Pairwise.imp_of_mem ?_ hp;intro a b ha hb hab hw;exact hab ((Zci (h a ha) (h b hb)).1 hw).symm
 ·intro hp;refine List.Pairwise.imp_of_mem ?_ hp;intro a b ha hb hab hw;exact hab ((Zci (h a ha) (h b hb)).2 hw.symm)
theorem Zdd:∀ (ls:List Ln) (kind:Nat) (name:ByteArray) (k:Nat),(findC ls kind name).isSome=decide (0≤idxN ls kind name k)
 | [],kind,name,k=>by simp [findC,idxN]
 | l :: r,kind,name,k=>by
  have ih:=Zdd r kind name (k+1);unfold findC at ih ⊢;rw [idxN,List.find?_cons];by_cases h:hitC kind name l=true
  ·rw [if_pos h];have h':((l.kind == kind)&&(l.name.toList == name.toList))=true:=h;rw [h'];simp
  ·have h1:hitC kind name l=false:=by simpa using h
   rw [if_neg h];have h':((l.kind == kind)&&(l.name.toList == name.toList))=false:=h1;rw [h'];exact ih
theorem blk6 {W w3:World} {B:Nat} (hb:Below B W w3) {g:Nat} (hg:g<B) {c0 c1 c2 c3 c4 c5:Value} {t:TypeId} (h:W.heap[g]?=some (.cells #[c0,c1,c2,c3,c4,c5] t (0,0))) :
  w3.cell? ⟨g,0,none⟩=some c0∧w3.cell? ⟨g,1,none⟩=some c1∧w3.cell? ⟨g,2,none⟩=some c2∧w3.cell? ⟨g,3,none⟩=some c3∧w3.cell? ⟨g,4,none⟩=some c4∧w3.cell? ⟨g,5,none⟩=some c5∧∀ a,w3.frozen? ⟨g,a,none⟩=false:=by
 have h':w3.heap[g]?=some (.cells #[c0,c1,c2,c3,c4,c5] t (0,0)):=(hb.block g hg).trans h;refine ⟨?_,?_,?_,?_,?_,?_,fun a=>?_⟩ <;> simp [World.cell?,World.frozen?,h']
theorem ZiU (wd nm fr:ByteArray) (ko:Option Addr) (nk kc:Nat) (vo:Option Addr) (nv vc:Nat) (pl:Int) (ao:Option Addr) (n cap:Nat) (w:World) :
  Calls Tryz.prog 99 #[.slice ao n cap,rlA wd nm fr ko nk kc vo nv vc pl,.bool false] w fun e w'=>e=.returned (.int .i64 2)∧Below w.heap.size w w':=by
 go_enter Tryz.func99,Tryz.ntmps99
 go_wp2_with fail
 go_ret
 exact ⟨rfl,Zb _ _⟩
theorem ZjH (ao:Option Addr) (cap n:Nat) (ls:List RL) (w:World) (hl:RLinesAt w (.slice ao n cap) ls) (hn:ls.length=n) (hn1:n≤1001) :
  Calls Tryz.prog 137 #[.slice ao n cap,.string sBudget] w fun e w'=>e=.returned (.int .i64 (cntC (bareR ls) 1))∧w'=w:=ZcB 1 ao cap n ls w hl hn hn1
theorem Zj4 (name:ByteArray) (ao:Option Addr) (cap n:Nat) (ls:List RL) (w:World) (hl:RLinesAt w (.slice ao n cap) ls) (hn:ls.length=n) (hn1:n≤1001) :
  Calls Tryz.prog 100 #[.slice ao n cap,.string sBudget,.string name] w fun e w'=>e=.returned (.int .i64 (idxN (bareR ls) 1 name 0))∧w'=w:=Zaz 1 name ao cap n ls w hl hn hn1
theorem ZgM (name:ByteArray) (ao:Option Addr) (cap n:Nat) (ls:List RL) (w:World) (hl:RLinesAt w (.slice ao n cap) ls) (hn:ls.length=n) (hn1:n≤1001) :
  Calls Tryz.prog 100 #[.slice ao n cap,.string ⟨#[98,97,115,101]⟩,.string name] w fun e w'=>e=.returned (.int .i64 (idxN (bareR ls) 2 name 0))∧w'=w:=Zaz 2 name ao cap n ls w hl hn hn1
theorem Ziv (x:Nat) (name fr:ByteArray) (ko:Option Addr) (kc:Nat) (vo:Option Addr) (vc:Nat) (pl:Int) (place:Nat) (ao:Option Addr) (cap n:Nat) (ls:List RL) (w:World) (hl:RLinesAt w (.slice ao n cap) ls) (hn:ls.length=n) (hn1:n≤1001)
  (hr:RowAt w (.slice vo 1 vc) 1 (ints [x])) :
  Calls Tryz.prog 99 #[.slice ao n cap,rlA sBudget name fr ko 0 kc vo 1 vc pl,.bool true] w fun e w'=>e=.returned (.int .i64 (faultC (bareR ls) ⟨1,name,fr,[(3,x)],place⟩))∧Below w.heap.size w w':=by
 obtain ⟨W1,hW1⟩:∃ W1,W1=w.alloc (bRL sBudget name fr ko 0 kc vo 1 vc pl):=⟨_,rfl⟩;have hb1:Below w.heap.size w W1:=by rw [hW1];exact Zb _ _
 have HW:Hid (W1=w.alloc (bRL sBudget name fr ko 0 kc vo 1 vc pl)∧Below w.heap.size w W1∧W1.heap.size=w.heap.size+1∧W1.heap[w.heap.size]?=some (bRL sBudget name fr ko 0 kc vo 1 vc pl)):=by
  refine ⟨hW1,hb1,by rw [hW1];simp,by rw [hW1];exact Zm _ _ rfl⟩
 have HL:Hid (RLinesAt W1 (.slice ao n cap) ls∧ls.length=n):=⟨hl.nx hb1,hn⟩;have HR:Hid (RowAt W1 (.slice vo 1 vc) 1 (ints [x])):=hr.nx hb1;by_cases h0:n=0
 ·have HLS:Hid (ls=[]):=List.eq_nil_of_length_eq_zero (by omega);have HRG:=hideIt (ZiI name fr ko 0 kc vo vc pl x W1 HR.out);subst h0;clear hl hn hr hW1 hb1;cases hf:inB 1 99 x
  ·have HX:Hid (faultC (bareR ls) ⟨1,name,fr,[(3,x)],place⟩=3):=by
    show _=_;rw [HLS.out];simp [faultC,allFit,fitsK,hf]
   go_enter Tryz.func99,Tryz.ntmps99
   go_wp2_with fail
   rw [←HW.out.1];refine HRG.out.mono ?_;rintro e w2 ⟨rfl,hb2⟩;rw [hf];have HB:Hid (Below w.heap.size w w2):=Za HW.out.2.1 hb2;clear hb2;go_wp2_with fail
   go_ret
   exact ⟨Zt (by rw [HX.out];rfl),HB.out⟩
  ·have HX:Hid (faultC (bareR ls) ⟨1,name,fr,[(3,x)],place⟩=0):=by
    show _=_;rw [HLS.out];simp [faultC,allFit,fitsK,hf,manyC,twc,findC]
   go_enter Tryz.func99,Tryz.ntmps99
   go_wp2_with fail
   rw [←HW.out.1];refine HRG.out.mono ?_;rintro e w2 ⟨rfl,hb2⟩;rw [hf];have HB:Hid (Below w.heap.size w w2∧Below W1.heap.size W1 w2):=⟨Za HW.out.2.1 hb2,hb2⟩;obtain ⟨e0,e1,e2,e3,e4,e5,ez⟩:=blk6 hb2 (by rw [HW.out.2.2.1];omega) HW.out.2.2.2;clear hb2;go_wp2_with fail
   refine (ZjH ao cap 0 ls w2 (HL.out.1.nx HB.out.2) HL.out.2 (by omega)).mono ?_;rintro e w3 ⟨rfl,rfl⟩;obtain ⟨c,hc⟩:∃ c:Int,((cntC (bareR ls) 1:Nat):Int)=c:=⟨_,rfl⟩;rw [hc];clear hc;go_wp2_with fail
   refine (Zcr sBudget name fr ko 0 kc vo 1 vc pl [] w3 ⟨_,_,rfl,Nat.zero_le _,.inl rfl⟩ rfl (by omega)).mono ?_;rintro e w4 ⟨rfl,hb4⟩;have hbb:=Za HB.out.2 hb4;have HB4:Hid (Below w.heap.size w w4):=Za HB.out.1 hb4;obtain ⟨e0,e1,e2,e3,e4,e5,ez⟩:=blk6 hbb (by rw [HW.out.2.2.1];omega) HW.out.2.2.2;have HL4:Hid (RLinesAt w4 (.slice ao 0 cap) ls):=HL.out.1.nx hbb;clear hb4 hbb;go_wp2_with fail
   refine (Zj4 name ao cap 0 ls w4 HL4.out HL.out.2 (by omega)).mono ?_;rintro e w5 ⟨rfl,rfl⟩;obtain ⟨c,hc⟩:∃ c:Int,idxN (bareR ls) 1 name 0=c:=⟨_,rfl⟩;rw [hc];clear hc;go_wp2_with fail
   go_ret
   exact ⟨Zt (by rw [HX.out];rfl),HB4.out⟩
 ·have HX:Hid (faultC (bareR ls) ⟨1,name,fr,[(3,x)],place⟩=2):=by
   show _=_;simp only [faultC,ZM];rw [hn];simp [h0]
  have hz:((n:Int) == 0)=false:=by simp;omega
  have h0':¬(n:Int)=0:=by omega
  clear h0 hl hn hr hW1 hb1;go_enter Tryz.func99,Tryz.ntmps99
  go_wp2_with fail
  go_ret
  exact ⟨Zt (by rw [HX.out];rfl),Zb _ _⟩
theorem Zj3 (l:Ln) (hkd:l.kind=2) (hkeys:∀ p∈l.sets,p.1≤2) (m:Nat) (hm:l.sets.length=m) (hm1:m≤1001) (ko:Option Addr) (kc:Nat) (vo:Option Addr) (vc:Nat) (pl:Int) (ao:Option Addr) (cap n:Nat) (ls:List RL) (w:World) (hl:RLinesAt w (.slice ao n cap) ls) (hn:ls.length=n) (hn1:n≤1001)
  (hr:RowAt w (.slice ko m kc) m (ints (l.sets.map (·.1)))) (hr2:RowAt w (.slice vo m vc) m (ints (l.sets.map (·.2)))) :
  Calls Tryz.prog 99 #[.slice ao n cap,rlA ⟨#[98,97,115,101]⟩ l.name l.frm ko m kc vo m vc pl,.bool true] w fun e w'=>e=.returned (.int .i64 (faultC (bareR ls) l))∧Below w.heap.size w w':=by
 obtain ⟨kind,name,frm,ss,place⟩:=l;simp only at hkd hkeys hm hr hr2 ⊢;subst hkd;obtain ⟨W1,hW1⟩:∃ W1,W1=w.alloc (bRL ⟨#[98,97,115,101]⟩ name frm ko m kc vo m vc pl):=⟨_,rfl⟩;have hb1:Below w.heap.size w W1:=by rw [hW1];exact Zb _ _
 have HW:Hid (W1=w.alloc (bRL ⟨#[98,97,115,101]⟩ name frm ko m kc vo m vc pl)∧Below w.heap.size w W1∧W1.heap.size=w.heap.size+1∧W1.heap[w.heap.size]?=some (bRL ⟨#[98,97,115,101]⟩ name frm ko m kc vo m vc pl)):=by
  refine ⟨hW1,hb1,by rw [hW1];simp,by rw [hW1];exact Zm _ _ rfl⟩
 have HL:Hid (RLinesAt W1 (.slice ao n cap) ls∧ls.length=n):=⟨hl.nx hb1,hn⟩;have HR:Hid (RowAt W1 (.slice ko m kc) m (ints (ss.map (·.1)))∧RowAt W1 (.slice vo m vc) m (ints (ss.map (·.2)))):=⟨hr.nx hb1,hr2.nx hb1⟩;have HRG:=hideIt (Zft ⟨#[98,97,115,101]⟩ name frm ko m kc vo vc pl ss W1 (by rw [ByteArray.toList_mk];rfl) HR.out.1 HR.out.2 hm hm1);rw [Zdg ss hkeys] at HRG;have HTW:=hideIt (fun w0 h=>Zcr ⟨#[98,97,115,101]⟩ name frm ko m kc vo m vc pl (ss.map (·.1)) w0 h (by simp [hm]) hm1);rw [ZgB ss hkeys] at HTW;by_cases h0:n=0
 ·have HX:Hid (faultC (bareR ls) ⟨2,name,frm,ss,place⟩=2):=by
   show _=_;simp only [faultC,ZM];rw [hn];simp [h0]
  subst h0;clear hl hn hr hr2 hW1 hb1 hkeys hm;go_enter Tryz.func99,Tryz.ntmps99
  go_wp2_with fail
  go_ret
  exact ⟨Zt (by rw [HX.out];rfl),Zb _ _⟩
 ·have HF0:Hid (faultC (bareR ls) ⟨2,name,frm,ss,place⟩=if allFit ss=false then 3 else if 6≤cntC (bareR ls) 2 then 4 else if twc ss=true then 5 else if 0≤idxN (bareR ls) 2 name 0 then 5 else 0):=by
   show _=_;simp only [faultC,ZM,manyC];rw [hn,Zdd _ _ _ 0];simp [h0]
  have hz:((n:Int) == 0)=false:=by simp;omega
  have h0':¬(n:Int)=0:=by omega
  clear hl hn hr hr2 hW1 hb1 hkeys hm h0;cases hf:allFit ss
  ·have HX:Hid (faultC (bareR ls) ⟨2,name,frm,ss,place⟩=3):=by show _=_;rw [HF0.out,if_pos hf]
   go_enter Tryz.func99,Tryz.ntmps99
   go_wp2_with fail
   rw [←HW.out.1];refine HRG.out.mono ?_;rintro e w2 ⟨rfl,hb2⟩;rw [hf];have HB:Hid (Below w.heap.size w w2):=Za HW.out.2.1 hb2;clear hb2;go_wp2_with fail
   go_ret
   exact ⟨Zt (by rw [HX.out];rfl),HB.out⟩
  ·go_enter Tryz.func99,Tryz.ntmps99
   go_wp2_with fail
   rw [←HW.out.1];refine HRG.out.mono ?_;rintro e w2 ⟨rfl,hb2⟩;rw [hf];have HB:Hid (Below w.heap.size w w2∧Below W1.heap.size W1 w2):=⟨Za HW.out.2.1 hb2,hb2⟩;obtain ⟨e0,e1,e2,e3,e4,e5,ez⟩:=blk6 hb2 (by rw [HW.out.2.2.1];omega) HW.out.2.2.2;clear hb2;go_wp2_with fail
   refine (ZcB 2 ao cap n ls w2 (HL.out.1.nx HB.out.2) HL.out.2 (by omega)).mono ?_;rintro e w3 ⟨rfl,rfl⟩;obtain ⟨c,hc⟩:∃ c,cntC (bareR ls) 2=c:=⟨_,rfl⟩;rw [hc];by_cases hc6:6≤c
   ·have HX:Hid (faultC (bareR ls) ⟨2,name,frm,ss,place⟩=4):=by show _=_;rw [HF0.out,if_neg (by simp [hf]),hc,if_pos hc6]
    clear hc hf;go_wp2_with fail
    go_ret
    exact ⟨Zt (by rw [HX.out];rfl),HB.out.1⟩
   ·have HF1:Hid (faultC (bareR ls) ⟨2,name,frm,ss,place⟩=if twc ss=true then 5 else if 0≤idxN (bareR ls) 2 name 0 then 5 else 0):=by show _=_;rw [HF0.out,if_neg (by simp [hf]),hc,if_neg hc6]
    have hc6':¬(6:Int)≤(c:Int):=by omega
    have HT3:=hideIt (HTW.out w3 (HR.out.1.nx HB.out.2));clear hc hf HF0 hc6;go_wp2_with fail
    refine HT3.out.mono ?_;rintro e w4 ⟨rfl,hb4⟩;have hbb:=Za HB.out.2 hb4;have HB4:Hid (Below w.heap.size w w4):=Za HB.out.1 hb4;obtain ⟨e0,e1,e2,e3,e4,e5,ez⟩:=blk6 hbb (by rw [HW.out.2.2.1];omega) HW.out.2.2.2;have HL4:Hid (RLinesAt w4 (.slice ao n cap) ls):=HL.out.1.nx hbb;clear hb4 hbb;obtain ⟨ix,hix⟩:∃ ix,idxN (bareR ls) 2 name 0=ix:=⟨_,rfl⟩;cases htw:twc ss
    ·go_wp2_with fail
     refine (Zaz 2 name ao cap n ls w4 HL4.out HL.out.2 (by omega)).mono ?_;rintro e w5 ⟨rfl,rfl⟩;rw [hix];by_cases hp:0≤ix
     ·have HX:Hid (faultC (bareR ls) ⟨2,name,frm,ss,place⟩=5):=by show _=_;rw [HF1.out,if_neg (by simp [htw]),hix,if_pos hp]
      clear hix htw;go_wp2_with fail
      go_ret
      exact ⟨Zt (by rw [HX.out];rfl),HB4.out⟩
     ·have HX:Hid (faultC (bareR ls) ⟨2,name,frm,ss,place⟩=0):=by show _=_;rw [HF1.out,if_neg (by simp [htw]),hix,if_neg hp]
      clear hix htw;go_wp2_with fail
      go_ret
      exact ⟨Zt (by rw [HX.out];rfl),HB4.out⟩
    ·have HX:Hid (faultC (bareR ls) ⟨2,name,frm,ss,place⟩=5):=by show _=_;rw [HF1.out,if_pos htw]
     go_wp2_with fail
     refine (Zaz 2 name ao cap n ls w4 HL4.out HL.out.2 (by omega)).mono ?_;rintro e w5 ⟨rfl,rfl⟩;rw [hix];clear hix htw;go_wp2_with fail
     go_ret
     exact ⟨Zt (by rw [HX.out];rfl),HB4.out⟩
theorem ZjO (l:Ln) (hkd:l.kind=3) (hkeys:∀ p∈l.sets,p.1≤2) (m:Nat) (hm:l.sets.length=m) (hm1:m≤1001) (ko:Option Addr) (kc:Nat) (vo:Option Addr) (vc:Nat) (pl:Int) (ao:Option Addr) (cap n:Nat) (ls:List RL) (w:World) (hl:RLinesAt w (.slice ao n cap) ls) (hn:ls.length=n) (hn1:n≤1001)
  (hr:RowAt w (.slice ko m kc) m (ints (l.sets.map (·.1)))) (hr2:RowAt w (.slice vo m vc) m (ints (l.sets.map (·.2)))) :
  Calls Tryz.prog 99 #[.slice ao n cap,rlA ⟨#[112,111,111,108]⟩ l.name l.frm ko m kc vo m vc pl,.bool true] w fun e w'=>e=.returned (.int .i64 (faultC (bareR ls) l))∧Below w.heap.size w w':=by
 obtain ⟨kind,name,frm,ss,place⟩:=l;simp only at hkd hkeys hm hr hr2 ⊢;subst hkd;obtain ⟨W1,hW1⟩:∃ W1,W1=w.alloc (bRL ⟨#[112,111,111,108]⟩ name frm ko m kc vo m vc pl):=⟨_,rfl⟩;have hb1:Below w.heap.size w W1:=by rw [hW1];exact Zb _ _
 have HW:Hid (W1=w.alloc (bRL ⟨#[112,111,111,108]⟩ name frm ko m kc vo m vc pl)∧Below w.heap.size w W1∧W1.heap.size=w.heap.size+1∧W1.heap[w.heap.size]?=some (bRL ⟨#[112,111,111,108]⟩ name frm ko m kc vo m vc pl)):=by
  refine ⟨hW1,hb1,by rw [hW1];simp,by rw [hW1];exact Zm _ _ rfl⟩
 have HL:Hid (RLinesAt W1 (.slice ao n cap) ls∧ls.length=n):=⟨hl.nx hb1,hn⟩;have HR:Hid (RowAt W1 (.slice ko m kc) m (ints (ss.map (·.1)))∧RowAt W1 (.slice vo m vc) m (ints (ss.map (·.2)))):=⟨hr.nx hb1,hr2.nx hb1⟩;have HRG:=hideIt (Zft ⟨#[112,111,111,108]⟩ name frm ko m kc vo vc pl ss W1 (by rw [ByteArray.toList_mk];rfl) HR.out.1 HR.out.2 hm hm1);rw [Zdg ss hkeys] at HRG;have HTW:=hideIt (fun w0 h=>Zcr ⟨#[112,111,111,108]⟩ name frm ko m kc vo m vc pl (ss.map (·.1)) w0 h (by simp [hm]) hm1);rw [ZgB ss hkeys] at HTW;by_cases h0:n=0
 ·have HX:Hid (faultC (bareR ls) ⟨3,name,frm,ss,place⟩=2):=by
   show _=_;simp only [faultC,ZM];rw [hn];simp [h0]
  subst h0;clear hl hn hr hr2 hW1 hb1 hkeys hm;go_enter Tryz.func99,Tryz.ntmps99
  go_wp2_with fail
  go_ret
  exact ⟨Zt (by rw [HX.out];rfl),Zb _ _⟩
 ·have HF0:Hid (faultC (bareR ls) ⟨3,name,frm,ss,place⟩=if allFit ss=false then 3 else if 6≤cntC (bareR ls) 3 then 4 else if twc ss=true then 5 else if 0≤idxN (bareR ls) 3 name 0 then 5 else 0):=by
   show _=_;simp only [faultC,ZM,manyC];rw [hn,Zdd _ _ _ 0];simp [h0]
  have hz:((n:Int) == 0)=false:=by simp;omega
  have h0':¬(n:Int)=0:=by omega
  clear hl hn hr hr2 hW1 hb1 hkeys hm h0;cases hf:allFit ss
  ·have HX:Hid (faultC (bareR ls) ⟨3,name,frm,ss,place⟩=3):=by show _=_;rw [HF0.out,if_pos hf]
   go_enter Tryz.func99,Tryz.ntmps99
   go_wp2_with fail
   rw [←HW.out.1];refine HRG.out.mono ?_;rintro e w2 ⟨rfl,hb2⟩;rw [hf];have HB:Hid (Below w.heap.size w w2):=Za HW.out.2.1 hb2;clear hb2;go_wp2_with fail
   go_ret
   exact ⟨Zt (by rw [HX.out];rfl),HB.out⟩
  ·go_enter Tryz.func99,Tryz.ntmps99
   go_wp2_with fail
   rw [←HW.out.1];refine HRG.out.mono ?_;rintro e w2 ⟨rfl,hb2⟩;rw [hf];have HB:Hid (Below w.heap.size w w2∧Below W1.heap.size W1 w2):=⟨Za HW.out.2.1 hb2,hb2⟩;obtain ⟨e0,e1,e2,e3,e4,e5,ez⟩:=blk6 hb2 (by rw [HW.out.2.2.1];omega) HW.out.2.2.2;clear hb2;go_wp2_with fail
   refine (ZcB 3 ao cap n ls w2 (HL.out.1.nx HB.out.2) HL.out.2 (by omega)).mono ?_;rintro e w3 ⟨rfl,rfl⟩;obtain ⟨c,hc⟩:∃ c,cntC (bareR ls) 3=c:=⟨_,rfl⟩;rw [hc];by_cases hc6:6≤c
   ·have HX:Hid (faultC (bareR ls) ⟨3,name,frm,ss,place⟩=4):=by show _=_;rw [HF0.out,if_neg (by simp [hf]),hc,if_pos hc6]
    clear hc hf;go_wp2_with fail
    go_ret
    exact ⟨Zt (by rw [HX.out];rfl),HB.out.1⟩
   ·have HF1:Hid (faultC (bareR ls) ⟨3,name,frm,ss,place⟩=if twc ss=true then 5 else if 0≤idxN (bareR ls) 3 name 0 then 5 else 0):=by show _=_;rw [HF0.out,if_neg (by simp [hf]),hc,if_neg hc6]
    have hc6':¬(6:Int)≤(c:Int):=by omega
    have HT3:=hideIt (HTW.out w3 (HR.out.1.nx HB.out.2));clear hc hf HF0 hc6;go_wp2_with fail
    refine HT3.out.mono ?_;rintro e w4 ⟨rfl,hb4⟩;have hbb:=Za HB.out.2 hb4;have HB4:Hid (Below w.heap.size w w4):=Za HB.out.1 hb4;obtain ⟨e0,e1,e2,e3,e4,e5,ez⟩:=blk6 hbb (by rw [HW.out.2.2.1];omega) HW.out.2.2.2;have HL4:Hid (RLinesAt w4 (.slice ao n cap) ls):=HL.out.1.nx hbb;clear hb4 hbb;obtain ⟨ix,hix⟩:∃ ix,idxN (bareR ls) 3 name 0=ix:=⟨_,rfl⟩;cases htw:twc ss
    ·go_wp2_with fail
     refine (Zaz 3 name ao cap n ls w4 HL4.out HL.out.2 (by omega)).mono ?_;rintro e w5 ⟨rfl,rfl⟩;rw [hix];by_cases hp:0≤ix
     ·have HX:Hid (faultC (bareR ls) ⟨3,name,frm,ss,place⟩=5):=by show _=_;rw [HF1.out,if_neg (by simp [htw]),hix,if_pos hp]
      clear hix htw;go_wp2_with fail
      go_ret
      exact ⟨Zt (by rw [HX.out];rfl),HB4.out⟩
     ·have HX:Hid (faultC (bareR ls) ⟨3,name,frm,ss,place⟩=0):=by show _=_;rw [HF1.out,if_neg (by simp [htw]),hix,if_neg hp]
      clear hix htw;go_wp2_with fail
      go_ret
      exact ⟨Zt (by rw [HX.out];rfl),HB4.out⟩
    ·have HX:Hid (faultC (bareR ls) ⟨3,name,frm,ss,place⟩=5):=by show _=_;rw [HF1.out,if_pos htw]
     go_wp2_with fail
     refine (Zaz 3 name ao cap n ls w4 HL4.out HL.out.2 (by omega)).mono ?_;rintro e w5 ⟨rfl,rfl⟩;rw [hix];clear hix htw;go_wp2_with fail
     go_ret
     exact ⟨Zt (by rw [HX.out];rfl),HB4.out⟩
def prs:List ByteArray→List (ByteArray×ByteArray)
 | a :: b :: r=>(a,b) :: prs r
 | _=>[]
theorem Zd3:∀ l:List ByteArray,(prs l).length=l.length / 2
 | []=>rfl
 | [_]=>by simp [prs]
 | a :: b :: r=>by simp [prs,Zd3 r];omega
theorem ZhO:∀ (l:List ByteArray) (k:Nat) (a b:ByteArray),(prs l)[k]?=some (a,b)→l[2*k]?=some a∧l[2*k+1]?=some b
 | [],k,a,b,h=>by simp [prs] at h
 | [_],k,a,b,h=>by simp [prs] at h
 | x :: y :: r,0,a,b,h=>by simp [prs] at h;simp [h]
 | x :: y :: r,k+1,a,b,h=>by
  have ih:=ZhO r k a b (by simpa [prs] using h);have e:2*(k+1)=2*k+2:=by omega
  rw [e];simpa using ih
def goodP (p:ByteArray×ByteArray):Bool:=decide (0≤keyR p.1)&&decide (0≤numR p.2)
def kvP (p:ByteArray×ByteArray):Nat×Nat:=((keyR p.1).toNat,(numR p.2).toNat)
theorem ZeZ:∀ l:List ByteArray,l.length % 2=0→setsF l=if (prs l).all goodP=true then some ((prs l).map kvP) else none
 | [],_=>rfl
 | [_],h=>by simp at h
 | a :: b :: r,h=>by
  have ih:=ZeZ r (by simp at h;omega);have hk0:keyF a=none→keyR a=-1:=fun h=>by rw [keyR,h]
  have hn0:numF b=none→numR b=-1:=fun h=>by rw [numR,h]
  simp only [prs,List.all_cons,List.map_cons,goodP,kvP];cases hka:keyF a with
  | none=>rw [ZfW hka,hk0 hka];simp
  | some x =>
   cases hnb:numF b with
   | none=>rw [Zfn hnb,hn0 hnb];simp
   | some y =>
    have hk1:keyR a=(x:Int):=by rw [keyR,hka]
    have hn1:numR b=(y:Int):=by rw [numR,hnb]
    rw [ZfL hka hnb,ih,hk1,hn1];have e1:decide ((0:Int)≤(x:Int))=true:=by simp
    have e2:decide ((0:Int)≤(y:Int))=true:=by simp
    rw [e1,e2];simp only [Bool.true_and,Int.toNat_natCast];have hfun:(prs r).all (fun p=>decide (0≤keyR p.1)&&decide (0≤numR p.2))=(prs r).all goodP:=rfl;by_cases hh:(prs r).all goodP=true
    ·rw [if_pos hh,if_pos hh];rfl
    ·rw [if_neg hh,if_neg hh];rfl
def intsI (xs:List Int):List Value:=xs.map fun n=>Value.int .i64 n
theorem Zdx (xs:List Int) (x:Int):intsI (xs++[x])=intsI xs++[.int .i64 x]:=by simp [intsI]
def keyP (l:List (ByteArray×ByteArray)):List Int:=l.map fun p=>keyR p.1
def numP (l:List (ByteArray×ByteArray)):List Int:=l.map fun p=>numR p.2
theorem ZeF:∀ l:List (ByteArray×ByteArray),l.all goodP=true→intsI (keyP l)=ints ((l.map kvP).map (·.1))∧intsI (numP l)=ints ((l.map kvP).map (·.2))
 | [],_=>⟨rfl,rfl⟩
 | p :: r,h=>by
  simp only [List.all_cons,Bool.and_eq_true] at h;obtain ⟨h1,h2⟩:=h;obtain ⟨i1,i2⟩:=ZeF r h2;simp only [goodP,Bool.and_eq_true,decide_eq_true_iff] at h1;simp only [intsI,ints,keyP,numP,List.map_cons,List.map_map] at i1 i2 ⊢;refine ⟨?_,?_⟩
  ·rw [i1];simp only [kvP];rw [Int.toNat_of_nonneg h1.1]
  ·rw [i2];simp only [kvP];rw [Int.toNat_of_nonneg h1.2]
theorem Zg8 {l:List (ByteArray×ByteArray)} {k:Nat} {p:ByteArray×ByteArray} (h:l[k]?=some p):l.take (k+1)=l.take k++[p]:=by
 obtain ⟨hk,rfl⟩:=List.getElem?_eq_some_iff.1 h;rw [List.take_succ_eq_append_getElem hk]
theorem Zc5:(Tryz.prog.info? 3).map (fun i=>(i.zero,i.size,i.bytes))=some (some (.int .i64 0),1,8):=by kernel_rfl
def FrI (w:World) (so:Option Addr):Prop:=∀ b off,so=some ⟨b,off,none⟩→∃ cur,w.heap[b]?=some (.cells cur 3 (0,0))
theorem ZgJ {w:World} {B:Nat} {size:Nat} {so:Option Addr} {m sc n:Nat} {xs:List Value} (h:w.ownsRow B 3 size (.slice so m sc) n xs):FrI w so:=by
 intro b off e;subst e;rcases h.2 with ⟨h',_⟩ | ⟨g',cap',cur,h',hb,hg,_⟩
 ·simp at h'
 ·simp only [Value.slice.injEq,Option.some.injEq,Addr.mk.injEq] at h';obtain ⟨⟨rfl,_⟩,_⟩:=h';exact ⟨cur,hg⟩
theorem FrI.nx {w w':World} {so:Option Addr} (h:FrI w so) (hb:Below w.heap.size w w'):FrI w' so:=by
 intro b o e;obtain ⟨cur,h2⟩:=h b o e;exact ⟨cur,(hb.block b (Array.getElem?_eq_some_iff.1 h2).1).trans h2⟩
abbrev bV6 (wd nm fr:ByteArray) (kv vv:Value) (pl:Int):Obj:=.cells #[.string wd,.string nm,.string fr,kv,vv,.int .i64 pl] 122
def St (w wr:World) (wd nm fr:ByteArray) (pl:Int) (kv:Value) (qk:Nat) (ks:List Int) (vv:Value) (qv:Nat) (vs:List Int):Prop:=
 wr.heap[w.heap.size]?=some (bV6 ⟨#[]⟩ ⟨#[]⟩ ⟨#[]⟩ (.slice none 0 0) (.slice none 0 0) 0)∧wr.heap[w.heap.size+1]?=some (bV6 wd nm fr kv vv pl) ∧
 wr.ownsRow (w.heap.size+2) 3 1 kv qk (intsI ks)∧wr.ownsRow (w.heap.size+2) 3 1 vv qv (intsI vs)∧(∀ g,kv.ownBlock=some g→vv.ownBlock≠some g)∧Below w.heap.size w wr∧w.heap.size+2≤wr.heap.size
theorem St.cells {w wr:World} {wd nm fr:ByteArray} {pl:Int} {kv vv:Value} {qk qv:Nat} {ks vs:List Int} (h:St w wr wd nm fr pl kv qk ks vv qv vs) :
  wr.cell? ⟨w.heap.size+1,0,none⟩=some (.string wd)∧wr.cell? ⟨w.heap.size+1,1,none⟩=some (.string nm)∧wr.cell? ⟨w.heap.size+1,2,none⟩=some (.string fr)∧wr.cell? ⟨w.heap.size+1,3,none⟩=some kv∧wr.cell? ⟨w.heap.size+1,4,none⟩=some vv∧wr.cell? ⟨w.heap.size+1,5,none⟩=some (.int .i64 pl)∧∀ a,wr.frozen? ⟨w.heap.size+1,a,none⟩=false:=
 blk6 (Below.refl wr.heap.size wr) (Array.getElem?_eq_some_iff.1 h.2.1).1 h.2.1
theorem St.cells0 {w wr:World} {wd nm fr:ByteArray} {pl:Int} {kv vv:Value} {qk qv:Nat} {ks vs:List Int} (h:St w wr wd nm fr pl kv qk ks vv qv vs) :
  wr.cell? ⟨w.heap.size,0,none⟩=some (.string ⟨#[]⟩)∧wr.cell? ⟨w.heap.size,1,none⟩=some (.string ⟨#[]⟩)∧wr.cell? ⟨w.heap.size,2,none⟩=some (.string ⟨#[]⟩)∧wr.cell? ⟨w.heap.size,3,none⟩=some (.slice none 0 0)∧wr.cell? ⟨w.heap.size,4,none⟩=some (.slice none 0 0)∧wr.cell? ⟨w.heap.size,5,none⟩=some (.int .i64 0)∧∀ a,wr.frozen? ⟨w.heap.size,a,none⟩=false:=
 blk6 (Below.refl wr.heap.size wr) (Array.getElem?_eq_some_iff.1 h.1).1 h.1
theorem St.start (w:World) (wd nm fr:ByteArray) (pl:Int):St w ((w.alloc (bV6 ⟨#[]⟩ ⟨#[]⟩ ⟨#[]⟩ (.slice none 0 0) (.slice none 0 0) 0)).alloc (bV6 wd nm fr (.slice none 0 0) (.slice none 0 0) pl)) wd nm fr pl (.slice none 0 0) 0 [] (.slice none 0 0) 0 []:=
 ⟨(Zh _ _ (by simp)).trans (Zm _ _ rfl),Zm _ _ (by simp),World.ownsRow_nil _ _ _ _,World.ownsRow_nil _ _ _ _,by simp [Value.ownBlock],Za (Zb _ _) (Zb _ _),by simp⟩
theorem St.key {w wr w6:World} {wd nm fr:ByteArray} {pl:Int} {kv vv kv':Value} {qk qv:Nat} {ks vs:List Int} {o:Obj} {x:Int} (h:St w wr wd nm fr pl kv qk ks vv qv vs)
  (hg:(wr.alloc o).grownBy w6 kv.ownBlock) (hown:w6.ownsRow (w.heap.size+2) 3 1 kv' (qk+1) (intsI ks++[.int .i64 x])) (hat:kv'.ownBlock=kv.ownBlock∨kv'.ownBlock=some (wr.alloc o).heap.size) :
  w6.heap[w.heap.size+1]?=some (bV6 wd nm fr kv vv pl)∧St w (w6.setCell ⟨w.heap.size+1,3,none⟩ kv') wd nm fr pl kv' (qk+1) (ks++[x]) vv qv vs:=by
 obtain ⟨h0,h1,hk,hv,hd,hb,hz⟩:=h;have hlow:∀ k,k<w.heap.size+2→w6.heap[k]?=wr.heap[k]?:=by
  intro k hk';refine (hg.block k (by simp;omega) ?_).trans (Zh _ _ (by omega));intro e;have:=(hk.lt k e.symm).1;omega
 have g1:w6.heap[w.heap.size+1]?=some (bV6 wd nm fr kv vv pl):=(hlow _ (by omega)).trans h1;have hv6:w6.ownsRow (w.heap.size+2) 3 1 vv qv (intsI vs):=by
  refine (hv.alloc o).kept hg ?_;cases hvb:vv.ownBlock with
  | none=>exact .inl rfl
  | some g=>exact .inr (fun e=>hd g e.symm hvb)
 refine ⟨g1,(Below.heap_setCell _ _ _ _ (by show w.heap.size≠w.heap.size+1;omega)).trans ((hlow _ (by omega)).trans h0),Zg _ _ _ _ _ _ g1,?_,ownsRow_setCell_below hv6 (by show w.heap.size+1<_;omega) _,?_,?_,?_⟩
 ·rw [Zdx];exact ownsRow_setCell_below hown (by show w.heap.size+1<_;omega) _
 ·intro g hgk hgv;rcases hat with e | e
  ·exact hd g (e▸hgk) hgv
  ·rw [e] at hgk;have:=(hv.lt g hgv).2;simp at hgk;omega
 ·exact (((hb.alloc (Nat.le_trans (by omega) hz) o)).grown hg (by simp;omega) (fun g hgg=>by have:=(hk.lt g hgg).1;omega)).setCell (by show w.heap.size≤w.heap.size+1;omega) _
 ·have:=hg.size;simp at this ⊢;omega
theorem St.val {w wr w6:World} {wd nm fr:ByteArray} {pl:Int} {kv vv vv':Value} {qk qv:Nat} {ks vs:List Int} {o:Obj} {x:Int} (h:St w wr wd nm fr pl kv qk ks vv qv vs)
  (hg:(wr.alloc o).grownBy w6 vv.ownBlock) (hown:w6.ownsRow (w.heap.size+2) 3 1 vv' (qv+1) (intsI vs++[.int .i64 x])) (hat:vv'.ownBlock=vv.ownBlock∨vv'.ownBlock=some (wr.alloc o).heap.size) :
  w6.heap[w.heap.size+1]?=some (bV6 wd nm fr kv vv pl)∧St w (w6.setCell ⟨w.heap.size+1,4,none⟩ vv') wd nm fr pl kv qk ks vv' (qv+1) (vs++[x]):=by
 obtain ⟨h0,h1,hk,hv,hd,hb,hz⟩:=h;have hlow:∀ k,k<w.heap.size+2→w6.heap[k]?=wr.heap[k]?:=by
  intro k hk';refine (hg.block k (by simp;omega) ?_).trans (Zh _ _ (by omega));intro e;have:=(hv.lt k e.symm).1;omega
 have g1:w6.heap[w.heap.size+1]?=some (bV6 wd nm fr kv vv pl):=(hlow _ (by omega)).trans h1;have hk6:w6.ownsRow (w.heap.size+2) 3 1 kv qk (intsI ks):=by
  refine (hk.alloc o).kept hg ?_;cases hvb:kv.ownBlock with
  | none=>exact .inl rfl
  | some g=>exact .inr (fun e=>hd g hvb e.symm)
 refine ⟨g1,(Below.heap_setCell _ _ _ _ (by show w.heap.size≠w.heap.size+1;omega)).trans ((hlow _ (by omega)).trans h0),Zg _ _ _ _ _ _ g1,ownsRow_setCell_below hk6 (by show w.heap.size+1<_;omega) _,?_,?_,?_,?_⟩
 ·rw [Zdx];exact ownsRow_setCell_below hown (by show w.heap.size+1<_;omega) _
 ·intro g hgk hgv;rcases hat with e | e
  ·exact hd g hgk (e▸hgv)
  ·rw [e] at hgv;have:=(hk.lt g hgk).2;simp at hgv;omega
 ·exact (((hb.alloc (Nat.le_trans (by omega) hz) o)).grown hg (by simp;omega) (fun g hgg=>by have:=(hv.lt g hgg).1;omega)).setCell (by show w.heap.size≤w.heap.size+1;omega) _
 ·have:=hg.size;simp at this ⊢;omega
end Co
end Go.Proofs.YtcpikklofilkcaaGreat
