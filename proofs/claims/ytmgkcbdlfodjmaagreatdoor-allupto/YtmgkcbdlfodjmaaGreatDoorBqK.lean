import Derived.Test.YtmgkcbdlfodjmaaGreatDoorBqJ
set_option maxRecDepth 100000
set_option maxHeartbeats 16000000
namespace Go.Proofs.YtmgkcbdlfodjmaaGreatDoor
open Go.RowKit
namespace Co
def kwW (k:Nat):List UInt8:=match k with
 | 1=>[98,117,100,103,101,116] | 2=>[98,97,115,101] | 3=>[112,111,111,108] | k=>List.replicate (k+10) 0
def kwK (k:Nat):ByteArray:=⟨(kwW k).toArray⟩
theorem Ziw (a:Nat):(kwK a).toList=kwW a:=by
 rw [ByteArray.toList_eq];rfl
theorem Zos (a:Nat) (d:a≠1) (h:a≠2) (m:a≠3):kwW a=List.replicate (a+10) 0:=by
 unfold kwW;split <;> simp_all
theorem Zm9 (a:Nat):(kwW a).length=(if a=1 then 6 else if a=2∨a=3 then 4 else a+10):=by
 by_cases d:a=1
 ·subst d;rfl
 ·by_cases a2:a=2
  ·subst a2;rfl
  ·by_cases a3:a=3
   ·subst a3;rfl
   ·rw [Zos _ d a2 a3,if_neg d,if_neg (by omega)];simp
theorem Zrs (a b:Nat) (h:kwW a=kwW b):a=b:=by
 have d:=congrArg List.length h;rw [Zm9,Zm9] at d;by_cases m:a=2∧b=3
 ·obtain ⟨rfl,rfl⟩:=m;simp [kwW] at h
 by_cases q:a=3∧b=2
 ·obtain ⟨rfl,rfl⟩:=q;simp [kwW] at h
 split at d <;> split at d <;> (try split at d) <;> (try split at d) <;> omega
theorem ZlC (a b:Nat):((kwK a).toList == (kwK b).toList)=decide (a=b):=by
 rw [Ziw,Ziw,Bool.eq_iff_iff];simp only [beq_iff_eq,decide_eq_true_iff];exact ⟨Zrs a b,fun d=>by rw [d]⟩
abbrev RL:=Ln×Value×Value
def Zai (xs:List Nat):List Value:=xs.map fun (n:Nat)=>Value.int .i64 (n:Int)
theorem ZrN {d:List Nat} {k n:Nat} (h:d[k]?=some n):(Zai d)[k]?=some (.int .i64 (n:Int)):=by simp [Zai,h]
def ZaX (l:Ln):List Nat:=if l.kind=1 then [] else l.sets.map (·.1)
def Zds (l:Ln):List Nat:=l.sets.map (·.2)
def Zb9:List RL→List Value
 | []=>[]
 | p :: r=>.string (kwK p.1.kind) :: .string p.1.name :: .string p.1.frm :: p.2.1 :: p.2.2 :: .int .i64 (p.1.place:Int) :: Zb9 r
theorem ZgX:∀ a b:List RL,Zb9 (a++b)=Zb9 a++Zb9 b
 | [],b=>rfl
 | p :: a,b=>by simp [Zb9,ZgX a b]
theorem ZlS:∀ (d:List RL) (i:Nat) (l:Ln) (m D:Value),d[i]?=some (l,m,D)→(Zb9 d)[i*6]?=some (.string (kwK l.kind))∧(Zb9 d)[i*6+1]?=some (.string l.name)∧(Zb9 d)[i*6+2]?=some (.string l.frm)∧(Zb9 d)[i*6+3]?=some m∧(Zb9 d)[i*6+4]?=some D∧(Zb9 d)[i*6+5]?=some (.int .i64 (l.place:Int))
 | [],i,l,m,D,h=>by simp at h
 | q :: r,0,l,m,D,h=>by simp at h;subst h;simp [Zb9]
 | q :: r,i+1,l,m,D,h=>by
  have ih:=ZlS r i l m D (by simpa using h);have A:(i+1)*6=i*6+6:=by omega
  rw [A];simp only [Zb9];exact ih
def Lists (w:World) (p:RL):Prop:=RowAt w p.2.1 (ZaX p.1).length (Zai (ZaX p.1))∧RowAt w p.2.2 p.1.sets.length (Zai (Zds p.1))
theorem Lists.nx {w h:World} {p:RL} (d:Lists w p) (hb:Below w.heap.size w h):Lists h p:=⟨d.1.nx hb,d.2.nx hb⟩
def RLinesAt (w:World) (v:Value) (ls:List RL):Prop:=RowAt w v ls.length (Zb9 ls)∧∀ p∈ls,Lists w p
theorem RLinesAt.nx {w m:World} {v:Value} {h:List RL} (d:RLinesAt w v h) (hb:Below w.heap.size w m):RLinesAt m v h:=⟨d.1.nx hb,fun p q=>(d.2 p q).nx hb⟩
theorem Zr5 {w:World} {b off n D:Nat} {m:Nat} {d:List Value} (h:RowAt w (.slice (some ⟨b,off,none⟩) n D) m d):∀ (j:Nat) (x:Value),d[j]?=some x→w.cell? ⟨b,off+j,none⟩=some x:=by
 intro j x E;obtain ⟨q,A,e,_,g⟩:=h.at E;simp only [Option.some.injEq,Addr.mk.injEq,and_true] at e;obtain ⟨rfl,rfl⟩:=e;exact g
theorem RLinesAt.at {w:World} {J:Option Addr} {n O:Nat} {E:List RL} (h:RLinesAt w (.slice J n O) E) {k:Nat} {l:Ln} {D I:Value} (L:E[k]?=some (l,D,I)) :
  ∃ b off q m A vc,J=some ⟨b,off,none⟩∧b<w.heap.size∧D=.slice q (ZaX l).length m∧I=.slice A l.sets.length vc∧RowAt w (.slice q (ZaX l).length m) (ZaX l).length (Zai (ZaX l))∧RowAt w (.slice A l.sets.length vc) l.sets.length (Zai (Zds l)) ∧
   w.cell? ⟨b,off+k*6,none⟩=some (.string (kwK l.kind))∧w.cell? ⟨b,off+k*6+1,none⟩=some (.string l.name)∧w.cell? ⟨b,off+k*6+2,none⟩=some (.string l.frm) ∧
   w.cell? ⟨b,off+k*6+3,none⟩=some (.slice q (ZaX l).length m)∧w.cell? ⟨b,off+k*6+4,none⟩=some (.slice A l.sets.length vc)∧w.cell? ⟨b,off+k*6+5,none⟩=some (.int .i64 (l.place:Int)):=by
 obtain ⟨Q,R,f2,U,V,X⟩:=ZlS E k l D I L;obtain ⟨b,off,rfl,hb,Y⟩:=h.1.at Q;have ac:=Zr5 h.1;obtain ⟨M,N⟩:=h.2 _ (Yo L);simp only at M N;obtain ⟨q,m,rfl,aa⟩:=M;obtain ⟨A,vc,rfl,ab⟩:=N;have d:∀ j,off+k*6+j=off+(k*6+j):=fun j=>by omega
 refine ⟨b,off,q,m,A,vc,rfl,hb,rfl,rfl,⟨_,_,rfl,aa⟩,⟨_,_,rfl,ab⟩,Y,?_,?_,?_,?_,?_⟩
 ·rw [d];exact ac _ _ R
 ·rw [d];exact ac _ _ f2
 ·rw [d];exact ac _ _ U
 ·rw [d];exact ac _ _ V
 ·rw [d];exact ac _ _ X
theorem ZcE {w:World} {so:Option Addr} {n sc m:Nat} {d:List Nat} (h:RowAt w (.slice so n sc) m (Zai d)) {k a:Nat} (q:d[k]?=some a) :
  ∃ b off,so=some ⟨b,off,none⟩∧b<w.heap.size∧w.cell? ⟨b,off+k,none⟩=some (.int .i64 (a:Int)):=h.at (ZrN q)
abbrev Zy (ls:List RL):List Ln:=ls.map (·.1)
theorem Zci {d:List RL} {k:Nat} {p:RL} (h:d[k]?=some p):(Zy d)[k]?=some p.1:=by simp [Zy,h]
theorem Zby (d:List RL):(Zy d).length=d.length:=by simp [Zy]
abbrev rlA (wd nm fr:ByteArray) (ko:Option Addr) (nk kc:Nat) (vo:Option Addr) (nv vc:Nat) (pl:Int):Value:=.agg #[.string wd,.string nm,.string fr,.slice ko nk kc,.slice vo nv vc,.int .i64 pl]
abbrev bRL (wd nm fr:ByteArray) (ko:Option Addr) (nk kc:Nat) (vo:Option Addr) (nv vc:Nat) (pl:Int):Obj:=.cells #[.string wd,.string nm,.string fr,.slice ko nk kc,.slice vo nv vc,.int .i64 pl] 127
def ZeC (k:Nat):Nat:=match k with | 0=>20 | 1=>20 | _=>999
theorem ZlF (k:Nat) (w:World):Calls Tryz.prog 172 #[.int .i64 (k:Int)] w fun e A=>e=.returned (.int .i64 (ZeC k))∧A=w:=by
 match k with
 | 0=>go_enter Tryz.func172,Tryz.ntmps172;go_wp2;go_ret;exact ⟨rfl,rfl⟩
 | 1=>go_enter Tryz.func172,Tryz.ntmps172;go_wp2;go_ret;exact ⟨rfl,rfl⟩
 | k+2 =>
  have m:(((k+2:Nat):Int) == 0)=false:=by simp;omega
  have q:(((k+2:Nat):Int) == 1)=false:=by simp;omega
  obtain ⟨h,d⟩:∃ h:Int,((k+2:Nat):Int)=h:=⟨_,rfl⟩;rw [d] at m q ⊢;clear d;go_enter Tryz.func172,Tryz.ntmps172;go_wp2;go_ret;exact ⟨rfl,rfl⟩
def Zhx (k:Nat):Int:=if k=0 then 1 else 0
theorem Zof (k:Nat) (w:World):Calls Tryz.prog 109 #[.int .i64 (k:Int)] w fun e q=>e=.returned (.int .i64 (Zhx k))∧q=w:=by
 match k with
 | 0=>go_enter Tryz.func109,Tryz.ntmps109;go_wp2;go_ret;exact ⟨rfl,rfl⟩
 | k+1 =>
  have m:(((k+1:Nat):Int) == 0)=false:=by simp;omega
  obtain ⟨h,d⟩:∃ h:Int,((k+1:Nat):Int)=h:=⟨_,rfl⟩;rw [d] at m ⊢;clear d;go_enter Tryz.func109,Tryz.ntmps109;go_wp2;go_ret;exact ⟨rfl,rfl⟩
theorem ZoA (d:List Ln) (kind k:Nat) (l:Ln) (h:d[k]?=some l):ZaC (d.take (k+1)) kind=ZaC (d.take k) kind+(if l.kind=kind then 1 else 0):=by
 obtain ⟨q,e⟩:=Yc.1 h;unfold ZaC;rw [Yk q,Yr,e,List.length_append];by_cases m:l.kind=kind <;> simp [m]
theorem Zhb (kind:Nat) (J:Option Addr) (L n:Nat) (d:List RL) (w:World) (R:RLinesAt w (.slice J n L) d) (V:d.length=n) (ah:n≤1001) :
  Calls Tryz.prog 151 #[.slice J n L,.string (kwK kind)] w fun e w'=>e=.returned (.int .i64 (ZaC (Zy d) kind))∧w'=w:=by
 have Q:Hid (d.length=n):=V;have HL:Hid (RLinesAt w (.slice J n L) d):=R;have X:=Za ZlC;obtain ⟨A,M⟩:∃ A,kwK kind=A:=⟨_,rfl⟩;rw [M];have Y:=Za M;clear R V M;go_enter Tryz.func151,Tryz.ntmps151
 go_wp2_with fail
 go_loop [5,6] (fun c i=>∃ (k ap:Nat),k≤n∧i=.int .i64 k∧c=.int .i64 ap∧ap≤k∧Hid (ZaC ((Zy d).take k) kind=ap)) (fun _ i=>n - (intOf i).toNat)
 case atStart=>exact ⟨0,0,Ye _,rfl,rfl,Yd _,rfl⟩
 case round =>
  obtain ⟨k,ap,af,rfl,rfl,ai,I⟩:=hrel;by_cases ac:k<n
  ·obtain ⟨⟨l,al,ao⟩,N⟩:∃ p,d[k]?=some p:=⟨_,Yb (by rw [Q.out];exact ac)⟩;obtain ⟨ad,off,ak,aj,am,vc,rfl,ae,_,_,_,_,aa,c1,c2,c3,c4,c5⟩:=HL.out.at N;have O:=Za (ZoA (Zy d) kind k l (Zci N));have ag:(k:Int)<(n:Int):=by omega
   have q:((kwK l.kind).toList == A.toList)=decide (l.kind=kind):=by rw [←Y.out];exact X.out _ _
   obtain ⟨D,U⟩:∃ D,kwK l.kind=D:=⟨_,rfl⟩;rw [U] at aa q;clear N c1 c2 c3 c4 c5 U;by_cases m:l.kind=kind
   ·have ab:(D.toList == A.toList)=true:=by rw [q];simp [m]
    have E:Hid (l.kind=kind):=m;clear m q;go_wp2_with fail
    go_round
    case rel=>exact ⟨k+1,ap+1,by omega,by go_num,by go_num,by omega,(by show _=_;rw [O.out,I.out,if_pos E.out])⟩
    case measure=>simp [intOf];omega
   ·have ab:(D.toList == A.toList)=false:=by rw [q];simp [m]
    have E:Hid (¬l.kind=kind):=m;clear m q;go_wp2_with fail
    go_round
    case rel=>exact ⟨k+1,ap,by omega,by go_num,rfl,by omega,(by show _=_;rw [O.out,I.out,if_neg E.out];rfl)⟩
    case measure=>simp [intOf];omega
  ·have HQ:Hid (ZaC (Zy d) kind=ap):=by
    have h:=I.out;rw [Yj (by rw [Zby,Q.out];omega)] at h;exact h
   go_wp2_with fail
   go_ret
   exact ⟨Zaj (by rw [HQ.out]),rfl⟩
def Zhu (kind:Nat) (name:ByteArray) (l:Ln):Bool:=(l.kind == kind)&&(l.name.toList == name.toList)
def Zbd:List Ln→Nat→ByteArray→Nat→Int
 | [],_,_,_=>-1
 | l :: r,kind,name,k=>if Zhu kind name l=true then (k:Int) else Zbd r kind name (k+1)
theorem ZdK (kind:Nat) (h:ByteArray) (L:Option Addr) (M n:Nat) (d:List RL) (w:World) (R:RLinesAt w (.slice L n M) d) (V:d.length=n) (ai:n≤1001) :
  Calls Tryz.prog 107 #[.slice L n M,.string (kwK kind),.string h] w fun e w'=>e=.returned (.int .i64 (Zbd (Zy d) kind h 0))∧w'=w:=by
 have Q:Hid (d.length=n):=V;have HL:Hid (RLinesAt w (.slice L n M) d):=R;have Y:=Za ZlC;obtain ⟨D,N⟩:∃ D,kwK kind=D:=⟨_,rfl⟩;rw [N];have aa:=Za N;clear R V N;go_enter Tryz.func107,Tryz.ntmps107
 go_wp2_with fail
 go_loop [7] (fun i=>∃ (k:Nat),k≤n∧i=.int .i64 k∧Hid (Zbd ((Zy d).drop k) kind h k=Zbd (Zy d) kind h 0)) (fun i=>n - (intOf i).toNat)
 case atStart=>exact ⟨0,Ye _,rfl,rfl⟩
 case round =>
  obtain ⟨k,ag,rfl,E⟩:=hrel;by_cases ad:k<n
  ·obtain ⟨⟨l,al,ao⟩,O⟩:∃ p,d[k]?=some p:=⟨_,Yb (by rw [Q.out];exact ad)⟩;obtain ⟨ae,off,ak,aj,am,vc,rfl,af,_,_,_,_,ab,c1,c2,c3,c4,c5⟩:=HL.out.at O;have J:Hid ((Zy d).drop k=l :: (Zy d).drop (k+1)):=Zas (Zci O);have ah:(k:Int)<(n:Int):=by omega
   have A:((kwK l.kind).toList == D.toList)=decide (l.kind=kind):=by rw [←aa.out];exact Y.out _ _
   obtain ⟨I,U⟩:∃ I,kwK l.kind=I:=⟨_,rfl⟩;rw [U] at ab A;clear O c2 c3 c4 c5 U;by_cases m:l.kind=kind
   ·have ac:(I.toList == D.toList)=true:=by rw [A];simp [m]
    have HK:Hid (l.kind=kind):=m;clear m A;cases X:l.name.toList == h.toList
    ·have q:Hid (Zbd ((Zy d).drop (k+1)) kind h (k+1)=Zbd (Zy d) kind h 0):=by
      show _=_;rw [←E.out,J.out,Zbd,if_neg (by simp [Zhu,X])]
     go_wp2_with fail
     go_round
     case rel=>exact ⟨k+1,by omega,by go_num,q.out⟩
     case measure=>simp [intOf];omega
    ·have q:Hid ((k:Int)=Zbd (Zy d) kind h 0):=by
      show _=_;rw [←E.out,J.out,Zbd,if_pos (by simp [Zhu,X,HK.out])]
     go_wp2_with fail
     go_ret
     exact ⟨Zaj q.out,rfl⟩
   ·have ac:(I.toList == D.toList)=false:=by rw [A];simp [m]
    have q:Hid (Zbd ((Zy d).drop (k+1)) kind h (k+1)=Zbd (Zy d) kind h 0):=by
     show _=_;rw [←E.out,J.out,Zbd,if_neg (by simp [Zhu,m])]
    clear m A;go_wp2_with fail
    go_round
    case rel=>exact ⟨k+1,by omega,by go_num,q.out⟩
    case measure=>simp [intOf];omega
  ·go_wp2_with fail
   go_ret
   exact ⟨Zaj (by rw [←E.out,List.drop_of_length_le (by rw [Zby,Q.out];omega)];rfl),rfl⟩
def Zja (ks:List Nat):Prop:=ks.Pairwise fun a b=>¬b=a
def twK (ks:List Nat):Bool:=!decide (ks.Pairwise fun a b=>¬b=a)
theorem ZnX {J:List Nat} {k a:Nat} (h:J[k]?=some a) (A:Zja (J.take k)) (D:∀ j q,j<k→J[j]?=some q→¬a=q):Zja (J.take (k+1)):=by
 obtain ⟨E,e⟩:=Yc.1 h;unfold Zja at *;rw [Yk E,List.pairwise_append];refine ⟨A,by simp,?_⟩;intro x I y m;simp at m;subst m;obtain ⟨j,d⟩:=List.getElem?_of_mem I;rw [List.getElem?_take] at d;split at d
 ·rw [e];exact D j x (by assumption) d
 ·cases d
theorem Zsa {d:List Nat} {j k a b:Nat} (D:j<k) (I:d[j]?=some a) (E:d[k]?=some b) (A:b=a):twK d=true:=by
 unfold twK;simp only [Bool.not_eq_true',decide_eq_false_iff_not];intro h;obtain ⟨m,J⟩:=Yc.1 I;obtain ⟨q,e2⟩:=Yc.1 E;have:=List.pairwise_iff_getElem.1 h j k m q D;rw [J,e2] at this;exact this A
theorem ZpI {d:List Nat} (h:Zja d):twK d=false:=by
 unfold twK;simp only [Bool.not_eq_false',decide_eq_true_iff];exact h
theorem ZgU (wd nm fr:ByteArray) (m:Option Addr) (n a0:Nat) (I:Option Addr) (D vc:Nat) (E:Int) (d:List Nat) (w:World) (ad:RowAt w (.slice m n a0) n (Zai d)) (ab:d.length=n) (az:n≤1001) :
  Calls Tryz.prog 152 #[rlA wd nm fr m n a0 I D vc E] w fun e w'=>e=.returned (.bool (twK d))∧Below w.heap.size w w':=by
 have M:Hid (d.length=n):=ab;have HR:Hid (RowAt (w.alloc (bRL wd nm fr m n a0 I D vc E)) (.slice m n a0) n (Zai d)):=ad.nx (Zc _ _);clear ad ab;go_enter Tryz.func152,Tryz.ntmps152
 go_wp2_with fail
 go_loopw [3] (fun i wr=>∃ (k:Nat),k≤n∧i=.int .i64 k∧Hid (Zja (d.take k))∧Below (w.alloc (bRL wd nm fr m n a0 I D vc E)).heap.size (w.alloc (bRL wd nm fr m n a0 I D vc E)) wr) (fun i _=>n - (intOf i).toNat)
 case atStart=>exact ⟨0,Ye _,rfl,List.Pairwise.nil,Yh _ _⟩
 case round =>
  obtain ⟨k,ay,rfl,HS,U⟩:=hrel;have aa:wr.cell? ⟨w.heap.size,3,none⟩=some (.slice m n a0):=(U.cell (p:=⟨w.heap.size,3,none⟩) (by simp)).trans (by simp);by_cases ak:k<n
  ·obtain ⟨a,ac⟩:∃ p,d[k]?=some p:=⟨_,Yb (by rw [M.out];exact ak)⟩;have N:Hid (d[k]?=some a):=ac;have ae:=Za U;clear ac;go_wp2_with fail
   go_loopw [4] (fun i ao=>∃ (j:Nat),j≤k∧i=.int .i64 j∧Hid (∀ a1 q,a1<j→d[a1]?=some q→¬a=q)∧Below (w.alloc (bRL wd nm fr m n a0 I D vc E)).heap.size (w.alloc (bRL wd nm fr m n a0 I D vc E)) ao) (fun i _=>k - (intOf i).toNat)
   case atStart=>exact ⟨0,Ye _,rfl,(fun a1 q h=>by omega),ae.out⟩
   case round =>
    obtain ⟨j,ax,rfl,X,A⟩:=hrel;have ah:wr.cell? ⟨w.heap.size,3,none⟩=some (.slice m n a0):=(A.cell (p:=⟨w.heap.size,3,none⟩) (by simp)).trans (by simp);have HB:Hid (Below w.heap.size w wr):=Zb (Zc _ _) A;by_cases aj:j<k
    ·obtain ⟨b,V⟩:∃ p,d[j]?=some p:=⟨_,Yb (by rw [M.out];omega)⟩;obtain ⟨af,off,L,au,aq⟩:=ZcE (HR.out.nx A) N.out;obtain ⟨ag,am,Q,_,ar⟩:=ZcE (HR.out.nx A) V;rw [L] at Q;obtain ⟨rfl,rfl⟩:af=ag∧off=am:=by simpa using Q
     rw [L] at ah;have Y:Hid (d[j]?=some b):=V;have ap:=Za L;have av:(k:Int)<(n:Int):=by omega
     have aw:(j:Int)<(n:Int):=by omega
     clear V Q L aa;by_cases J:a=b
     ·have al:((a:Int) == (b:Int))=true:=by simp [J]
      have O:Hid (twK d=true):=Zsa aj Y.out N.out J;clear J;go_wp2_with fail
      go_quiet (fail)
      go_wp2_with fail
      go_ret
      exact ⟨Zu O.out.symm,below_drewN HB.out _⟩
     ·have al:((a:Int) == (b:Int))=false:=by simp;omega
      have O:Hid (¬a=b):=J;clear J;go_wp2_with fail
      go_quiet (fail)
      go_wp2_with fail
      go_roundw
      case rel=>exact ⟨j+1,by omega,by go_num,(fun a1 q h R=>by
       by_cases ai:a1<j
       ·exact X.out a1 q ai R
       ·obtain rfl:a1=j:=by omega
        rw [Y.out] at R;cases R;exact O.out),below_drewN A _⟩
      case measure=>simp [intOf];omega
    ·obtain rfl:j=k:=by omega
     clear aa;go_wp2_with fail
     go_roundw
     case rel=>exact ⟨j+1,by omega,by go_num,ZnX N.out HS.out X.out,A⟩
     case measure=>simp [intOf];omega
  ·go_wp2_with fail
   go_ret
   exact ⟨Zu (by rw [ZpI];rw [←Yj (l:=d) (i:=k) (by rw [M.out];omega)];exact HS.out),Zb (Zc _ _) U⟩
def Zir (ss:List (Nat×Nat)):Bool:=ss.all fun p=>decide (p.2≤ZeC p.1)
theorem Zhk (a b:Nat) (r:List (Nat×Nat)):Zir ((a,b) :: r)=(decide (b≤ZeC a)&&Zir r):=by simp [Zir]
theorem Zmh (wd nm fr:ByteArray) (h:Option Addr) (n d:Nat) (m:Option Addr) (vc:Nat) (J:Int) (ss:List (Nat×Nat)) (w:World) (hb:(wd.toList == [98,117,100,103,101,116])=false)
  (X:RowAt w (.slice h n d) n (Zai (ss.map (·.1)))) (Y:RowAt w (.slice m n vc) n (Zai (ss.map (·.2)))) (V:ss.length=n) (am:n≤1001) :
  Calls Tryz.prog 150 #[rlA wd nm fr h n d m n vc J] w fun e w'=>e=.returned (.bool (Zir ss))∧Below w.heap.size w w':=by
 have R:Hid (ss.length=n):=V;have U:Hid (RowAt (w.alloc (bRL wd nm fr h n d m n vc J)) (.slice h n d) n (Zai (ss.map (·.1)))∧RowAt (w.alloc (bRL wd nm fr h n d m n vc J)) (.slice m n vc) n (Zai (ss.map (·.2)))):=⟨X.nx (Zc _ _),Y.nx (Zc _ _)⟩;clear X Y V;go_enter Tryz.func150,Tryz.ntmps150
 go_wp2_with fail
 go_loopw [3] (fun i wr=>∃ (k:Nat),k≤n∧i=.int .i64 k∧Hid (Zir (ss.drop k)=Zir ss)∧Below (w.alloc (bRL wd nm fr h n d m n vc J)).heap.size (w.alloc (bRL wd nm fr h n d m n vc J)) wr) (fun i _=>n - (intOf i).toNat)
 case atStart=>exact ⟨0,Ye _,rfl,rfl,Yh _ _⟩
 case round =>
  obtain ⟨k,ak,rfl,N,A⟩:=hrel;have ai:wr.cell? ⟨w.heap.size,3,none⟩=some (.slice h n d):=(A.cell (p:=⟨w.heap.size,3,none⟩) (by simp)).trans (by simp);have aj:wr.cell? ⟨w.heap.size,4,none⟩=some (.slice m n vc):=(A.cell (p:=⟨w.heap.size,4,none⟩) (by simp)).trans (by simp);have O:Hid (Below w.heap.size w wr):=Zb (Zc _ _) A;by_cases ab:k<n
  ·obtain ⟨⟨a,b⟩,L⟩:∃ p,ss[k]?=some p:=⟨_,Yb (by rw [R.out];exact ab)⟩;obtain ⟨ac,off,rfl,ag,ae⟩:=ZcE (U.out.1.nx A) (show (ss.map (·.1))[k]?=some a by simp [L]);obtain ⟨ad,ao,rfl,ah,af⟩:=ZcE (U.out.2.nx A) (show (ss.map (·.2))[k]?=some b by simp [L]);have Q:Hid (ss.drop k=(a,b) :: ss.drop (k+1)):=Zas L;have al:(k:Int)<(n:Int):=by omega
   clear L;by_cases D:b≤ZeC a
   ·have M:=Za D;obtain ⟨q,I⟩:∃ q,ZeC a=q:=⟨_,rfl⟩;have E:=Za (ZlF a);rw [I] at D E;have aa:¬(q:Int)<(b:Int):=by omega
    clear I D;go_wp2_with fail
    go_quiet ((go_at_call 172;exact Calls.quiet_of_same (E.out _)))
    go_wp2_with fail
    go_roundw
    case rel=>exact ⟨k+1,by omega,by go_num,(by show _=_;rw [←N.out,Q.out,Zhk,decide_eq_true M.out];simp),below_drewN A _⟩
    case measure=>simp [intOf];omega
   ·have M:=Za D;obtain ⟨q,I⟩:∃ q,ZeC a=q:=⟨_,rfl⟩;have E:=Za (ZlF a);rw [I] at D E;have aa:(q:Int)<(b:Int):=by omega
    clear I D;go_wp2_with fail
    go_quiet ((go_at_call 172;exact Calls.quiet_of_same (E.out _)))
    go_wp2_with fail
    go_ret
    exact ⟨Zu (by rw [←N.out,Q.out,Zhk,decide_eq_false M.out];rfl),below_drewN O.out _⟩
  ·go_wp2_with fail
   go_ret
   exact ⟨Zu (by rw [←N.out,List.drop_of_length_le (by rw [R.out];omega)];rfl),O.out⟩
theorem Zql (nm fr:ByteArray) (q:Option Addr) (A m:Nat) (d:Option Addr) (vc:Nat) (D:Int) (x:Nat) (w:World) (h:RowAt w (.slice d 1 vc) 1 (Zai [x])) :
  Calls Tryz.prog 150 #[rlA sBudget nm fr q A m d 1 vc D] w fun e J=>e=.returned (.bool (inB 1 99 x))∧Below w.heap.size w J:=by
 obtain ⟨L,off,rfl,M,E⟩:=ZcE (h.nx (Zc w (bRL sBudget nm fr q A m d 1 vc D))) (show [x][0]?=some x from rfl);simp only [Nat.add_zero] at E;clear h;by_cases I:(1:Int)≤(x:Int)
 ·go_enter Tryz.func150,Tryz.ntmps150
  go_wp2_with fail
  go_ret
  exact ⟨Zu (by simp only [inB,decide_eq_true I,Bool.true_and]),Zc _ _⟩
 ·go_enter Tryz.func150,Tryz.ntmps150
  go_wp2_with fail
  go_ret
  exact ⟨Zu (Zc6 (by omega)).symm,Zc _ _⟩
def OkL (l:Ln):Prop:=
 (l.kind=1∧l.name=⟨#[]⟩∧l.frm=⟨#[]⟩∧∃ n,l.sets=[(3,n)])∨((l.kind=2∨l.kind=3)∧ZW l.name=true∧∀ p∈l.sets,p.1≤2)
theorem Zhl {a b:Nat} (h:a≤2) (hb:b≤2):(ZX a).toList=(ZX b).toList↔a=b:=by
 have e:∀ k,(ZX k).toList=kwL k:=fun k=>by rw [ByteArray.toList_eq];rfl
 rw [e,e];refine ⟨fun d=>?_,fun d=>by rw [d]⟩;match a,b,h,hb with
 | 0,0,_,_=>rfl
 | 0,1,_,_=>simp [kwL] at d
 | 0,2,_,_=>simp [kwL] at d
 | 1,0,_,_=>simp [kwL] at d
 | 1,1,_,_=>rfl
 | 1,2,_,_=>simp [kwL] at d
 | 2,0,_,_=>simp [kwL] at d
 | 2,1,_,_=>simp [kwL] at d
 | 2,2,_,_=>rfl
theorem Zie:∀ (ss:List (Nat×Nat)),(∀ p∈ss,p.1≤2)→Zir ss=ZaQ ss
 | [],_=>rfl
 | (a,b) :: r,d=>by
  have ih:=Zie r (fun p m=>d p (List.mem_cons_of_mem _ m));have h:a≤2:=d (a,b) List.mem_cons_self;rw [Zhk,ZfK,ih];congr 1;match a,h with
  | 0,_=>simp [ZeC,Zcm,inB];omega
  | 1,_=>simp [ZeC,Zcm,inB];omega
  | 2,_=>simp [ZeC,Zcm,inB];omega
theorem ZmS (ss:List (Nat×Nat)) (d:∀ p∈ss,p.1≤2):twK (ss.map (·.1))=twc ss:=by
 unfold twK twc;congr 1;rw [decide_eq_decide,List.pairwise_map];constructor
 ·intro q;refine List.Pairwise.imp_of_mem ?_ q;intro a b h hb m A;exact m ((Zhl (d a h) (d b hb)).1 A).symm
 ·intro q;refine List.Pairwise.imp_of_mem ?_ q;intro a b h hb m A;exact m ((Zhl (d a h) (d b hb)).2 A.symm)
theorem Zii:∀ (q:List Ln) (kind:Nat) (d:ByteArray) (k:Nat),(Zbj q kind d).isSome=decide (0≤Zbd q kind d k)
 | [],kind,d,k=>by simp [Zbj,Zbd]
 | l :: r,kind,d,k=>by
  have ih:=Zii r kind d (k+1);unfold Zbj at ih ⊢;rw [Zbd,List.find?_cons];by_cases h:Zhu kind d l=true
  ·rw [if_pos h];have m:((l.kind == kind)&&(l.name.toList == d.toList))=true:=h;rw [m];simp
  ·have A:Zhu kind d l=false:=by simpa using h
   rw [if_neg h];have m:((l.kind == kind)&&(l.name.toList == d.toList))=false:=A;rw [m];exact ih
theorem Zdk {W d:World} {B:Nat} (hb:Below B W d) {g:Nat} (q:g<B) {A c1 c2 c3 c4 c5:Value} {t:TypeId} (h:W.heap[g]?=some (.cells #[A,c1,c2,c3,c4,c5] t (0,0))) :
  d.cell? ⟨g,0,none⟩=some A∧d.cell? ⟨g,1,none⟩=some c1∧d.cell? ⟨g,2,none⟩=some c2∧d.cell? ⟨g,3,none⟩=some c3∧d.cell? ⟨g,4,none⟩=some c4∧d.cell? ⟨g,5,none⟩=some c5∧∀ a,d.frozen? ⟨g,a,none⟩=false:=by
 have m:d.heap[g]?=some (.cells #[A,c1,c2,c3,c4,c5] t (0,0)):=(hb.block g q).trans h;refine ⟨?_,?_,?_,?_,?_,?_,fun a=>?_⟩ <;> simp [World.cell?,World.frozen?,m]
theorem Zqz (wd nm fr:ByteArray) (q:Option Addr) (A m:Nat) (I:Option Addr) (D vc:Nat) (E:Int) (d:Option Addr) (n h:Nat) (w:World) :
  Calls Tryz.prog 106 #[.slice d n h,rlA wd nm fr q A m I D vc E,.bool false] w fun e J=>e=.returned (.int .i64 2)∧Below w.heap.size w J:=by
 go_enter Tryz.func106,Tryz.ntmps106
 go_wp2_with fail
 go_ret
 exact ⟨rfl,Zc _ _⟩
theorem Zr7 (h:Option Addr) (m n:Nat) (d:List RL) (w:World) (q:RLinesAt w (.slice h n m) d) (A:d.length=n) (D:n≤1001) :
  Calls Tryz.prog 151 #[.slice h n m,.string sBudget] w fun e E=>e=.returned (.int .i64 (ZaC (Zy d) 1))∧E=w:=Zhb 1 h m n d w q A D
theorem ZrZ (q:ByteArray) (h:Option Addr) (m n:Nat) (d:List RL) (w:World) (A:RLinesAt w (.slice h n m) d) (D:d.length=n) (E:n≤1001) :
  Calls Tryz.prog 107 #[.slice h n m,.string sBudget,.string q] w fun e I=>e=.returned (.int .i64 (Zbd (Zy d) 1 q 0))∧I=w:=ZdK 1 q h m n d w A D E
theorem Znq (q:ByteArray) (h:Option Addr) (m n:Nat) (d:List RL) (w:World) (A:RLinesAt w (.slice h n m) d) (D:d.length=n) (E:n≤1001) :
  Calls Tryz.prog 107 #[.slice h n m,.string ⟨#[98,97,115,101]⟩,.string q] w fun e I=>e=.returned (.int .i64 (Zbd (Zy d) 2 q 0))∧I=w:=ZdK 2 q h m n d w A D E
theorem ZpA (x:Nat) (m fr:ByteArray) (M:Option Addr) (L:Nat) (A:Option Addr) (vc:Nat) (N:Int) (place:Nat) (E:Option Addr) (I n:Nat) (d:List RL) (w:World) (ae:RLinesAt w (.slice E n I) d) (aa:d.length=n) (ar:n≤1001)
  (af:RowAt w (.slice A 1 vc) 1 (Zai [x])) :
  Calls Tryz.prog 106 #[.slice E n I,rlA sBudget m fr M 0 L A 1 vc N,.bool true] w fun e w'=>e=.returned (.int .i64 (ZM (Zy d) ⟨1,m,fr,[(3,x)],place⟩))∧Below w.heap.size w w':=by
 obtain ⟨h,J⟩:∃ h,h=w.alloc (bRL sBudget m fr M 0 L A 1 vc N):=⟨_,rfl⟩;have R:Below w.heap.size w h:=by rw [J];exact Zc _ _
 have q:Hid (h=w.alloc (bRL sBudget m fr M 0 L A 1 vc N)∧Below w.heap.size w h∧h.heap.size=w.heap.size+1∧h.heap[w.heap.size]?=some (bRL sBudget m fr M 0 L A 1 vc N)):=by
  refine ⟨J,R,by rw [J];simp,by rw [J];exact ZC _ _ rfl⟩
 have X:Hid (RLinesAt h (.slice E n I) d∧d.length=n):=⟨ae.nx R,aa⟩;have HR:Hid (RowAt h (.slice A 1 vc) 1 (Zai [x])):=af.nx R;by_cases ab:n=0
 ·have ah:Hid (d=[]):=List.eq_nil_of_length_eq_zero (by omega);have ai:=Za (Zql m fr M 0 L A vc N x h HR.out);subst ab;clear ae aa af J R;cases Y:inB 1 99 x
  ·have Q:Hid (ZM (Zy d) ⟨1,m,fr,[(3,x)],place⟩=3):=by
    show _=_;rw [ah.out];simp [ZM,ZaQ,Zcm,Y]
   go_enter Tryz.func106,Tryz.ntmps106
   go_wp2_with fail
   rw [←q.out.1];refine ai.out.mono ?_;rintro e V ⟨rfl,D⟩;rw [Y];have O:Hid (Below w.heap.size w V):=Zb q.out.2.1 D;clear D;go_wp2_with fail
   go_ret
   exact ⟨Zaj (by rw [Q.out];rfl),O.out⟩
  ·have Q:Hid (ZM (Zy d) ⟨1,m,fr,[(3,x)],place⟩=0):=by
    show _=_;rw [ah.out];simp [ZM,ZaQ,Zcm,Y,Zfg,twc,Zbj]
   go_enter Tryz.func106,Tryz.ntmps106
   go_wp2_with fail
   rw [←q.out.1];refine ai.out.mono ?_;rintro e V ⟨rfl,D⟩;rw [Y];have O:Hid (Below w.heap.size w V∧Below h.heap.size h V):=⟨Zb q.out.2.1 D,D⟩;obtain ⟨al,am,e2,e3,e4,e5,ao⟩:=Zdk D (by rw [q.out.2.2.1];omega) q.out.2.2.2;clear D;go_wp2_with fail
   refine (Zr7 E I 0 d V (X.out.1.nx O.out.2) X.out.2 (by omega)).mono ?_;rintro e ap ⟨rfl,rfl⟩;obtain ⟨c,U⟩:∃ c:Int,((ZaC (Zy d) 1:Nat):Int)=c:=⟨_,rfl⟩;rw [U];clear U;go_wp2_with fail
   refine (ZgU sBudget m fr M 0 L A 1 vc N [] ap ⟨_,_,rfl,Ye _,.inl rfl⟩ rfl (by omega)).mono ?_;rintro e ag ⟨rfl,ac⟩;have ad:=Zb O.out.2 ac;have aj:Hid (Below w.heap.size w ag):=Zb O.out.1 ac;obtain ⟨al,am,e2,e3,e4,e5,ao⟩:=Zdk ad (by rw [q.out.2.2.1];omega) q.out.2.2.2;have ak:Hid (RLinesAt ag (.slice E 0 I) d):=X.out.1.nx ad;clear ac ad;go_wp2_with fail
   refine (ZrZ m E I 0 d ag ak.out X.out.2 (by omega)).mono ?_;rintro e av ⟨rfl,rfl⟩;obtain ⟨c,U⟩:∃ c:Int,Zbd (Zy d) 1 m 0=c:=⟨_,rfl⟩;rw [U];clear U;go_wp2_with fail
   go_ret
   exact ⟨Zaj (by rw [Q.out];rfl),aj.out⟩
 ·have Q:Hid (ZM (Zy d) ⟨1,m,fr,[(3,x)],place⟩=2):=by
   show _=_;simp only [ZM,Zby];rw [aa];simp [ab]
  have au:((n:Int) == 0)=false:=by simp;omega
  have aq:¬(n:Int)=0:=by omega
  clear ab ae aa af J R;go_enter Tryz.func106,Tryz.ntmps106
  go_wp2_with fail
  go_ret
  exact ⟨Zaj (by rw [Q.out];rfl),Zc _ _⟩
theorem Zsd (l:Ln) (ay:l.kind=2) (ac:∀ p∈l.sets,p.1≤2) (bh:Nat) (ad:l.sets.length=bh) (az:bh≤1001) (J:Option Addr) (I:Nat) (L:Option Addr) (vc:Nat) (aa:Int) (N:Option Addr) (O n:Nat) (d:List RL) (w:World) (au:RLinesAt w (.slice N n O) d) (ae:d.length=n) (bf:n≤1001)
  (ai:RowAt w (.slice J bh I) bh (Zai (l.sets.map (·.1)))) (aj:RowAt w (.slice L bh vc) bh (Zai (l.sets.map (·.2)))) :
  Calls Tryz.prog 106 #[.slice N n O,rlA ⟨#[98,97,115,101]⟩ l.name l.frm J bh I L bh vc aa,.bool true] w fun e w'=>e=.returned (.int .i64 (ZM (Zy d) l))∧Below w.heap.size w w':=by
 obtain ⟨kind,m,A,ss,place⟩:=l;simp only at ay ac ad ai aj ⊢;subst ay;obtain ⟨q,V⟩:∃ q,q=w.alloc (bRL ⟨#[98,97,115,101]⟩ m A J bh I L bh vc aa):=⟨_,rfl⟩;have X:Below w.heap.size w q:=by rw [V];exact Zc _ _
 have E:Hid (q=w.alloc (bRL ⟨#[98,97,115,101]⟩ m A J bh I L bh vc aa)∧Below w.heap.size w q∧q.heap.size=w.heap.size+1∧q.heap[w.heap.size]?=some (bRL ⟨#[98,97,115,101]⟩ m A J bh I L bh vc aa)):=by
  refine ⟨V,X,by rw [V];simp,by rw [V];exact ZC _ _ rfl⟩
 have HL:Hid (RLinesAt q (.slice N n O) d∧d.length=n):=⟨au.nx X,ae⟩;have HR:Hid (RowAt q (.slice J bh I) bh (Zai (ss.map (·.1)))∧RowAt q (.slice L bh vc) bh (Zai (ss.map (·.2)))):=⟨ai.nx X,aj.nx X⟩;have ao:=Za (Zmh ⟨#[98,97,115,101]⟩ m A J bh I L vc aa ss q (by rw [ByteArray.toList_mk];rfl) HR.out.1 HR.out.2 ad az);rw [Zie ss ac] at ao;have ax:=Za (fun w0 h=>ZgU ⟨#[98,97,115,101]⟩ m A J bh I L bh vc aa (ss.map (·.1)) w0 h (by simp [ad]) az);rw [ZmS ss ac] at ax;by_cases ah:n=0
 ·have D:Hid (ZM (Zy d) ⟨2,m,A,ss,place⟩=2):=by
   show _=_;simp only [ZM,Zby];rw [ae];simp [ah]
  subst ah;clear au ae ai aj V X ac ad;go_enter Tryz.func106,Tryz.ntmps106
  go_wp2_with fail
  go_ret
  exact ⟨Zaj (by rw [D.out];rfl),Zc _ _⟩
 ·have ag:Hid (ZM (Zy d) ⟨2,m,A,ss,place⟩=if ZaQ ss=false then 3 else if 6≤ZaC (Zy d) 2 then 4 else if twc ss=true then 5 else if 0≤Zbd (Zy d) 2 m 0 then 5 else 0):=by
   show _=_;simp only [ZM,Zby,Zfg];rw [ae,Zii _ _ _ 0];simp [ah]
  have bg:((n:Int) == 0)=false:=by simp;omega
  have bd:¬(n:Int)=0:=by omega
  clear au ae ai aj V X ac ad ah;cases R:ZaQ ss
  ·have D:Hid (ZM (Zy d) ⟨2,m,A,ss,place⟩=3):=by show _=_;rw [ag.out,if_pos R]
   go_enter Tryz.func106,Tryz.ntmps106
   go_wp2_with fail
   rw [←E.out.1];refine ao.out.mono ?_;rintro e af ⟨rfl,Q⟩;rw [R];have M:Hid (Below w.heap.size w af):=Zb E.out.2.1 Q;clear Q;go_wp2_with fail
   go_ret
   exact ⟨Zaj (by rw [D.out];rfl),M.out⟩
  ·go_enter Tryz.func106,Tryz.ntmps106
   go_wp2_with fail
   rw [←E.out.1];refine ao.out.mono ?_;rintro e af ⟨rfl,Q⟩;rw [R];have M:Hid (Below w.heap.size w af∧Below q.heap.size q af):=⟨Zb E.out.2.1 Q,Q⟩;obtain ⟨a6,a7,e2,e3,e4,e5,a8⟩:=Zdk Q (by rw [E.out.2.2.1];omega) E.out.2.2.2;clear Q;go_wp2_with fail
   refine (Zhb 2 N O n d af (HL.out.1.nx M.out.2) HL.out.2 (by omega)).mono ?_;rintro e a9 ⟨rfl,rfl⟩;obtain ⟨c,ab⟩:∃ c,ZaC (Zy d) 2=c:=⟨_,rfl⟩;rw [ab];by_cases ar:6≤c
   ·have D:Hid (ZM (Zy d) ⟨2,m,A,ss,place⟩=4):=by show _=_;rw [ag.out,if_neg (by simp [R]),ab,if_pos ar]
    clear ab R;go_wp2_with fail
    go_ret
    exact ⟨Zaj (by rw [D.out];rfl),M.out.1⟩
   ·have am:Hid (ZM (Zy d) ⟨2,m,A,ss,place⟩=if twc ss=true then 5 else if 0≤Zbd (Zy d) 2 m 0 then 5 else 0):=by show _=_;rw [ag.out,if_neg (by simp [R]),ab,if_neg ar]
    have be:¬(6:Int)≤(c:Int):=by omega
    have a1:=Za (ax.out a9 (HR.out.1.nx M.out.2));clear ab R ag ar;go_wp2_with fail
    refine a1.out.mono ?_;rintro e ak ⟨rfl,ap⟩;have aq:=Zb M.out.2 ap;have al:Hid (Below w.heap.size w ak):=Zb M.out.1 ap;obtain ⟨a6,a7,e2,e3,e4,e5,a8⟩:=Zdk aq (by rw [E.out.2.2.1];omega) E.out.2.2.2;have aw:Hid (RLinesAt ak (.slice N n O) d):=HL.out.1.nx aq;clear ap aq;obtain ⟨av,U⟩:∃ av,Zbd (Zy d) 2 m 0=av:=⟨_,rfl⟩;cases Y:twc ss
    ·go_wp2_with fail
     refine (ZdK 2 m N O n d ak aw.out HL.out.2 (by omega)).mono ?_;rintro e bc ⟨rfl,rfl⟩;rw [U];by_cases a0:0≤av
     ·have D:Hid (ZM (Zy d) ⟨2,m,A,ss,place⟩=5):=by show _=_;rw [am.out,if_neg (by simp [Y]),U,if_pos a0]
      clear U Y;go_wp2_with fail
      go_ret
      exact ⟨Zaj (by rw [D.out];rfl),al.out⟩
     ·have D:Hid (ZM (Zy d) ⟨2,m,A,ss,place⟩=0):=by show _=_;rw [am.out,if_neg (by simp [Y]),U,if_neg a0]
      clear U Y;go_wp2_with fail
      go_ret
      exact ⟨Zaj (by rw [D.out];rfl),al.out⟩
    ·have D:Hid (ZM (Zy d) ⟨2,m,A,ss,place⟩=5):=by show _=_;rw [am.out,if_pos Y]
     go_wp2_with fail
     refine (ZdK 2 m N O n d ak aw.out HL.out.2 (by omega)).mono ?_;rintro e bc ⟨rfl,rfl⟩;rw [U];clear U Y;go_wp2_with fail
     go_ret
     exact ⟨Zaj (by rw [D.out];rfl),al.out⟩
theorem ZrY (l:Ln) (ay:l.kind=3) (ac:∀ p∈l.sets,p.1≤2) (bh:Nat) (ad:l.sets.length=bh) (az:bh≤1001) (J:Option Addr) (I:Nat) (L:Option Addr) (vc:Nat) (aa:Int) (N:Option Addr) (O n:Nat) (d:List RL) (w:World) (au:RLinesAt w (.slice N n O) d) (ae:d.length=n) (bf:n≤1001)
  (ai:RowAt w (.slice J bh I) bh (Zai (l.sets.map (·.1)))) (aj:RowAt w (.slice L bh vc) bh (Zai (l.sets.map (·.2)))) :
  Calls Tryz.prog 106 #[.slice N n O,rlA ⟨#[112,111,111,108]⟩ l.name l.frm J bh I L bh vc aa,.bool true] w fun e w'=>e=.returned (.int .i64 (ZM (Zy d) l))∧Below w.heap.size w w':=by
 obtain ⟨kind,m,A,ss,place⟩:=l;simp only at ay ac ad ai aj ⊢;subst ay;obtain ⟨q,V⟩:∃ q,q=w.alloc (bRL ⟨#[112,111,111,108]⟩ m A J bh I L bh vc aa):=⟨_,rfl⟩;have X:Below w.heap.size w q:=by rw [V];exact Zc _ _
 have E:Hid (q=w.alloc (bRL ⟨#[112,111,111,108]⟩ m A J bh I L bh vc aa)∧Below w.heap.size w q∧q.heap.size=w.heap.size+1∧q.heap[w.heap.size]?=some (bRL ⟨#[112,111,111,108]⟩ m A J bh I L bh vc aa)):=by
  refine ⟨V,X,by rw [V];simp,by rw [V];exact ZC _ _ rfl⟩
 have HL:Hid (RLinesAt q (.slice N n O) d∧d.length=n):=⟨au.nx X,ae⟩;have HR:Hid (RowAt q (.slice J bh I) bh (Zai (ss.map (·.1)))∧RowAt q (.slice L bh vc) bh (Zai (ss.map (·.2)))):=⟨ai.nx X,aj.nx X⟩;have ao:=Za (Zmh ⟨#[112,111,111,108]⟩ m A J bh I L vc aa ss q (by rw [ByteArray.toList_mk];rfl) HR.out.1 HR.out.2 ad az);rw [Zie ss ac] at ao;have ax:=Za (fun w0 h=>ZgU ⟨#[112,111,111,108]⟩ m A J bh I L bh vc aa (ss.map (·.1)) w0 h (by simp [ad]) az);rw [ZmS ss ac] at ax;by_cases ah:n=0
 ·have D:Hid (ZM (Zy d) ⟨3,m,A,ss,place⟩=2):=by
   show _=_;simp only [ZM,Zby];rw [ae];simp [ah]
  subst ah;clear au ae ai aj V X ac ad;go_enter Tryz.func106,Tryz.ntmps106
  go_wp2_with fail
  go_ret
  exact ⟨Zaj (by rw [D.out];rfl),Zc _ _⟩
 ·have ag:Hid (ZM (Zy d) ⟨3,m,A,ss,place⟩=if ZaQ ss=false then 3 else if 6≤ZaC (Zy d) 3 then 4 else if twc ss=true then 5 else if 0≤Zbd (Zy d) 3 m 0 then 5 else 0):=by
   show _=_;simp only [ZM,Zby,Zfg];rw [ae,Zii _ _ _ 0];simp [ah]
  have bg:((n:Int) == 0)=false:=by simp;omega
  have bd:¬(n:Int)=0:=by omega
  clear au ae ai aj V X ac ad ah;cases R:ZaQ ss
  ·have D:Hid (ZM (Zy d) ⟨3,m,A,ss,place⟩=3):=by show _=_;rw [ag.out,if_pos R]
   go_enter Tryz.func106,Tryz.ntmps106
   go_wp2_with fail
   rw [←E.out.1];refine ao.out.mono ?_;rintro e af ⟨rfl,Q⟩;rw [R];have M:Hid (Below w.heap.size w af):=Zb E.out.2.1 Q;clear Q;go_wp2_with fail
   go_ret
   exact ⟨Zaj (by rw [D.out];rfl),M.out⟩
  ·go_enter Tryz.func106,Tryz.ntmps106
   go_wp2_with fail
   rw [←E.out.1];refine ao.out.mono ?_;rintro e af ⟨rfl,Q⟩;rw [R];have M:Hid (Below w.heap.size w af∧Below q.heap.size q af):=⟨Zb E.out.2.1 Q,Q⟩;obtain ⟨a6,a7,e2,e3,e4,e5,a8⟩:=Zdk Q (by rw [E.out.2.2.1];omega) E.out.2.2.2;clear Q;go_wp2_with fail
   refine (Zhb 3 N O n d af (HL.out.1.nx M.out.2) HL.out.2 (by omega)).mono ?_;rintro e a9 ⟨rfl,rfl⟩;obtain ⟨c,ab⟩:∃ c,ZaC (Zy d) 3=c:=⟨_,rfl⟩;rw [ab];by_cases ar:6≤c
   ·have D:Hid (ZM (Zy d) ⟨3,m,A,ss,place⟩=4):=by show _=_;rw [ag.out,if_neg (by simp [R]),ab,if_pos ar]
    clear ab R;go_wp2_with fail
    go_ret
    exact ⟨Zaj (by rw [D.out];rfl),M.out.1⟩
   ·have am:Hid (ZM (Zy d) ⟨3,m,A,ss,place⟩=if twc ss=true then 5 else if 0≤Zbd (Zy d) 3 m 0 then 5 else 0):=by show _=_;rw [ag.out,if_neg (by simp [R]),ab,if_neg ar]
    have be:¬(6:Int)≤(c:Int):=by omega
    have a1:=Za (ax.out a9 (HR.out.1.nx M.out.2));clear ab R ag ar;go_wp2_with fail
    refine a1.out.mono ?_;rintro e ak ⟨rfl,ap⟩;have aq:=Zb M.out.2 ap;have al:Hid (Below w.heap.size w ak):=Zb M.out.1 ap;obtain ⟨a6,a7,e2,e3,e4,e5,a8⟩:=Zdk aq (by rw [E.out.2.2.1];omega) E.out.2.2.2;have aw:Hid (RLinesAt ak (.slice N n O) d):=HL.out.1.nx aq;clear ap aq;obtain ⟨av,U⟩:∃ av,Zbd (Zy d) 3 m 0=av:=⟨_,rfl⟩;cases Y:twc ss
    ·go_wp2_with fail
     refine (ZdK 3 m N O n d ak aw.out HL.out.2 (by omega)).mono ?_;rintro e bc ⟨rfl,rfl⟩;rw [U];by_cases a0:0≤av
     ·have D:Hid (ZM (Zy d) ⟨3,m,A,ss,place⟩=5):=by show _=_;rw [am.out,if_neg (by simp [Y]),U,if_pos a0]
      clear U Y;go_wp2_with fail
      go_ret
      exact ⟨Zaj (by rw [D.out];rfl),al.out⟩
     ·have D:Hid (ZM (Zy d) ⟨3,m,A,ss,place⟩=0):=by show _=_;rw [am.out,if_neg (by simp [Y]),U,if_neg a0]
      clear U Y;go_wp2_with fail
      go_ret
      exact ⟨Zaj (by rw [D.out];rfl),al.out⟩
    ·have D:Hid (ZM (Zy d) ⟨3,m,A,ss,place⟩=5):=by show _=_;rw [am.out,if_pos Y]
     go_wp2_with fail
     refine (ZdK 3 m N O n d ak aw.out HL.out.2 (by omega)).mono ?_;rintro e bc ⟨rfl,rfl⟩;rw [U];clear U Y;go_wp2_with fail
     go_ret
     exact ⟨Zaj (by rw [D.out];rfl),al.out⟩
def prs:List ByteArray→List (ByteArray×ByteArray)
 | a :: b :: r=>(a,b) :: prs r
 | _=>[]
theorem ZjW:∀ l:List ByteArray,(prs l).length=l.length / 2
 | []=>rfl
 | [_]=>by simp [prs]
 | a :: b :: r=>by simp [prs,ZjW r];omega
theorem ZoB:∀ (l:List ByteArray) (k:Nat) (a b:ByteArray),(prs l)[k]?=some (a,b)→l[2*k]?=some a∧l[2*k+1]?=some b
 | [],k,a,b,d=>by simp [prs] at d
 | [_],k,a,b,d=>by simp [prs] at d
 | x :: y :: r,0,a,b,d=>by simp [prs] at d;simp [d]
 | x :: y :: r,k+1,a,b,d=>by
  have ih:=ZoB r k a b (by simpa [prs] using d);have e:2*(k+1)=2*k+2:=by omega
  rw [e];simpa using ih
def ZcR (p:ByteArray×ByteArray):Bool:=decide (0≤Zd2 p.1)&&decide (0≤ZcA p.2)
def kvP (p:ByteArray×ByteArray):Nat×Nat:=((Zd2 p.1).toNat,(ZcA p.2).toNat)
theorem Zkx:∀ l:List ByteArray,l.length % 2=0→Z8 l=if (prs l).all ZcR=true then some ((prs l).map kvP) else none
 | [],_=>rfl
 | [_],d=>by simp at d
 | a :: b :: r,d=>by
  have ih:=Zkx r (by simp at d;omega);have D:ZcO a=none→Zd2 a=-1:=fun d=>by rw [Zd2,d]
  have I:Za9 b=none→ZcA b=-1:=fun d=>by rw [ZcA,d]
  simp only [prs,List.all_cons,List.map_cons,ZcR,kvP];cases m:ZcO a with
  | none=>rw [ZlN m,D m];simp
  | some x =>
   cases q:Za9 b with
   | none=>rw [Zln q,I q];simp
   | some y =>
    have E:Zd2 a=(x:Int):=by rw [Zd2,m]
    have J:ZcA b=(y:Int):=by rw [ZcA,q]
    rw [ZlY m q,ih,E,J];have A:decide ((0:Int)≤(x:Int))=true:=by simp
    have e2:decide ((0:Int)≤(y:Int))=true:=by simp
    rw [A,e2];simp only [Bool.true_and,Int.toNat_natCast];have L:(prs r).all (fun p=>decide (0≤Zd2 p.1)&&decide (0≤ZcA p.2))=(prs r).all ZcR:=rfl;by_cases h:(prs r).all ZcR=true
    ·rw [if_pos h,if_pos h];rfl
    ·rw [if_neg h,if_neg h];rfl
def ZcP (xs:List Int):List Value:=xs.map fun n=>Value.int .i64 n
theorem ZiB (d:List Int) (x:Int):ZcP (d++[x])=ZcP d++[.int .i64 x]:=by simp [ZcP]
def ZjF (l:List (ByteArray×ByteArray)):List Int:=l.map fun p=>Zd2 p.1
def numP (l:List (ByteArray×ByteArray)):List Int:=l.map fun p=>ZcA p.2
theorem Zkn:∀ l:List (ByteArray×ByteArray),l.all ZcR=true→ZcP (ZjF l)=Zai ((l.map kvP).map (·.1))∧ZcP (numP l)=Zai ((l.map kvP).map (·.2))
 | [],_=>⟨rfl,rfl⟩
 | p :: r,h=>by
  simp only [List.all_cons,Bool.and_eq_true] at h;obtain ⟨d,A⟩:=h;obtain ⟨m,q⟩:=Zkn r A;simp only [ZcR,Bool.and_eq_true,decide_eq_true_iff] at d;simp only [ZcP,Zai,ZjF,numP,List.map_cons,List.map_map] at m q ⊢;refine ⟨?_,?_⟩
  ·rw [m];simp only [kvP];rw [Int.toNat_of_nonneg d.1]
  ·rw [q];simp only [kvP];rw [Int.toNat_of_nonneg d.2]
theorem ZnJ {l:List (ByteArray×ByteArray)} {k:Nat} {p:ByteArray×ByteArray} (d:l[k]?=some p):l.take (k+1)=l.take k++[p]:=by
 obtain ⟨h,rfl⟩:=Yc.1 d;rw [Yk h]
theorem Zij:(Tryz.prog.info? 3).map (fun i=>(i.zero,i.size,i.bytes))=some (some (.int .i64 0),1,8):=by kernel_rfl
def FrI (w:World) (so:Option Addr):Prop:=∀ b off,so=some ⟨b,off,none⟩→∃ cur,w.heap[b]?=some (.cells cur 3 (0,0))
theorem Zm8 {w:World} {B:Nat} {size:Nat} {so:Option Addr} {m sc n:Nat} {q:List Value} (h:w.ownsRow B 3 size (.slice so m sc) n q):FrI w so:=by
 intro b off e;subst e;rcases h.2 with ⟨d,_⟩ | ⟨D,A,E,d,hb,I,_⟩
 ·simp at d
 ·simp only [Value.slice.injEq,Option.some.injEq,Addr.mk.injEq] at d;obtain ⟨⟨rfl,_⟩,_⟩:=d;exact ⟨E,I⟩
theorem FrI.nx {w q:World} {so:Option Addr} (h:FrI w so) (hb:Below w.heap.size w q):FrI q so:=by
 intro b o e;obtain ⟨m,d⟩:=h b o e;exact ⟨m,(hb.block b (Ya.1 d).1).trans d⟩
abbrev bV6 (wd nm fr:ByteArray) (kv vv:Value) (pl:Int):Obj:=.cells #[.string wd,.string nm,.string fr,kv,vv,.int .i64 pl] 127
def St (w wr:World) (wd nm fr:ByteArray) (pl:Int) (kv:Value) (qk:Nat) (ks:List Int) (vv:Value) (qv:Nat) (vs:List Int):Prop:=
 wr.heap[w.heap.size]?=some (bV6 ⟨#[]⟩ ⟨#[]⟩ ⟨#[]⟩ (.slice none 0 0) (.slice none 0 0) 0)∧wr.heap[w.heap.size+1]?=some (bV6 wd nm fr kv vv pl) ∧
 wr.ownsRow (w.heap.size+2) 3 1 kv qk (ZcP ks)∧wr.ownsRow (w.heap.size+2) 3 1 vv qv (ZcP vs)∧(∀ g,kv.ownBlock=some g→vv.ownBlock≠some g)∧Below w.heap.size w wr∧w.heap.size+2≤wr.heap.size
theorem St.cells {w wr:World} {wd nm fr:ByteArray} {m:Int} {h q:Value} {D E:Nat} {A I:List Int} (d:St w wr wd nm fr m h D A q E I) :
  wr.cell? ⟨w.heap.size+1,0,none⟩=some (.string wd)∧wr.cell? ⟨w.heap.size+1,1,none⟩=some (.string nm)∧wr.cell? ⟨w.heap.size+1,2,none⟩=some (.string fr)∧wr.cell? ⟨w.heap.size+1,3,none⟩=some h∧wr.cell? ⟨w.heap.size+1,4,none⟩=some q∧wr.cell? ⟨w.heap.size+1,5,none⟩=some (.int .i64 m)∧∀ a,wr.frozen? ⟨w.heap.size+1,a,none⟩=false:=
 Zdk (Yh wr.heap.size wr) (Ya.1 d.2.1).1 d.2.1
theorem St.cells0 {w wr:World} {wd nm fr:ByteArray} {q:Int} {m I:Value} {A D:Nat} {h E:List Int} (d:St w wr wd nm fr q m A h I D E) :
  wr.cell? ⟨w.heap.size,0,none⟩=some (.string ⟨#[]⟩)∧wr.cell? ⟨w.heap.size,1,none⟩=some (.string ⟨#[]⟩)∧wr.cell? ⟨w.heap.size,2,none⟩=some (.string ⟨#[]⟩)∧wr.cell? ⟨w.heap.size,3,none⟩=some (.slice none 0 0)∧wr.cell? ⟨w.heap.size,4,none⟩=some (.slice none 0 0)∧wr.cell? ⟨w.heap.size,5,none⟩=some (.int .i64 0)∧∀ a,wr.frozen? ⟨w.heap.size,a,none⟩=false:=
 Zdk (Yh wr.heap.size wr) (Ya.1 d.1).1 d.1
theorem St.start (w:World) (wd nm fr:ByteArray) (d:Int):St w ((w.alloc (bV6 ⟨#[]⟩ ⟨#[]⟩ ⟨#[]⟩ (.slice none 0 0) (.slice none 0 0) 0)).alloc (bV6 wd nm fr (.slice none 0 0) (.slice none 0 0) d)) wd nm fr d (.slice none 0 0) 0 [] (.slice none 0 0) 0 []:=
 ⟨(Zt _ _ (by simp)).trans (ZC _ _ rfl),ZC _ _ (by simp),Yq _ _ _ _,Yq _ _ _ _,by simp [Value.ownBlock],Zb (Zc _ _) (Zc _ _),by simp⟩
theorem St.key {w wr d:World} {wd nm fr:ByteArray} {D:Int} {m ag q:Value} {J L:Nat} {I M:List Int} {o:Obj} {x:Int} (h:St w wr wd nm fr D m J I ag L M)
  (A:(wr.alloc o).grownBy d m.ownBlock) (ab:d.ownsRow (w.heap.size+2) 3 1 q (J+1) (ZcP I++[.int .i64 x])) (Y:q.ownBlock=m.ownBlock∨q.ownBlock=some (wr.alloc o).heap.size) :
  d.heap[w.heap.size+1]?=some (bV6 wd nm fr m ag D)∧St w (d.setCell ⟨w.heap.size+1,3,none⟩ q) wd nm fr D q (J+1) (I++[x]) ag L M:=by
 obtain ⟨V,X,Q,U,hd,hb,ae⟩:=h;have R:∀ k,k<w.heap.size+2→d.heap[k]?=wr.heap[k]?:=by
  intro k af;refine (A.block k (by simp;omega) ?_).trans (Zt _ _ (by omega));intro e;have:=(Q.lt k e.symm).1;omega
 have N:d.heap[w.heap.size+1]?=some (bV6 wd nm fr m ag D):=(R _ (by omega)).trans X;have ac:d.ownsRow (w.heap.size+2) 3 1 ag L (ZcP M):=by
  refine (U.alloc o).kept A ?_;cases ad:ag.ownBlock with
  | none=>exact .inl rfl
  | some g=>exact .inr (fun e=>hd g e.symm ad)
 refine ⟨N,(Yf _ _ _ _ (by show w.heap.size≠w.heap.size+1;omega)).trans ((R _ (by omega)).trans V),Zm _ _ _ _ _ _ N,?_,Yi ac (by show w.heap.size+1<_;omega) _,?_,?_,?_⟩
 ·rw [ZiB];exact Yi ab (by show w.heap.size+1<_;omega) _
 ·intro g E O;rcases Y with e | e
  ·exact hd g (e▸E) O
  ·rw [e] at E;have:=(U.lt g O).2;simp at E;omega
 ·exact (((hb.alloc (Ym (by omega) ae) o)).grown A (by simp;omega) (fun g aa=>by have:=(Q.lt g aa).1;omega)).setCell (by show w.heap.size≤w.heap.size+1;omega) _
 ·have:=A.size;simp at this ⊢;omega
theorem St.val {w wr d:World} {wd nm fr:ByteArray} {D:Int} {ag m q:Value} {J L:Nat} {I M:List Int} {o:Obj} {x:Int} (h:St w wr wd nm fr D ag J I m L M)
  (A:(wr.alloc o).grownBy d m.ownBlock) (ac:d.ownsRow (w.heap.size+2) 3 1 q (L+1) (ZcP M++[.int .i64 x])) (Y:q.ownBlock=m.ownBlock∨q.ownBlock=some (wr.alloc o).heap.size) :
  d.heap[w.heap.size+1]?=some (bV6 wd nm fr ag m D)∧St w (d.setCell ⟨w.heap.size+1,4,none⟩ q) wd nm fr D ag J I q (L+1) (M++[x]):=by
 obtain ⟨V,X,Q,U,hd,hb,ae⟩:=h;have R:∀ k,k<w.heap.size+2→d.heap[k]?=wr.heap[k]?:=by
  intro k af;refine (A.block k (by simp;omega) ?_).trans (Zt _ _ (by omega));intro e;have:=(U.lt k e.symm).1;omega
 have N:d.heap[w.heap.size+1]?=some (bV6 wd nm fr ag m D):=(R _ (by omega)).trans X;have ab:d.ownsRow (w.heap.size+2) 3 1 ag J (ZcP I):=by
  refine (Q.alloc o).kept A ?_;cases ad:ag.ownBlock with
  | none=>exact .inl rfl
  | some g=>exact .inr (fun e=>hd g ad e.symm)
 refine ⟨N,(Yf _ _ _ _ (by show w.heap.size≠w.heap.size+1;omega)).trans ((R _ (by omega)).trans V),Zm _ _ _ _ _ _ N,Yi ab (by show w.heap.size+1<_;omega) _,?_,?_,?_,?_⟩
 ·rw [ZiB];exact Yi ac (by show w.heap.size+1<_;omega) _
 ·intro g O E;rcases Y with e | e
  ·exact hd g O (e▸E)
  ·rw [e] at E;have:=(Q.lt g O).2;simp at E;omega
 ·exact (((hb.alloc (Ym (by omega) ae) o)).grown A (by simp;omega) (fun g aa=>by have:=(U.lt g aa).1;omega)).setCell (by show w.heap.size≤w.heap.size+1;omega) _
 ·have:=A.size;simp at this ⊢;omega
end Co
end Go.Proofs.YtmgkcbdlfodjmaaGreatDoor
