import Derived.Test.YtmgkcbdlfodjmaaGreatDoorBqA
set_option maxRecDepth 100000
set_option maxHeartbeats 16000000
namespace Go.Proofs.YtmgkcbdlfodjmaaGreatDoor
open Go.RowKit
namespace Co
abbrev ZcW (x0 x1:Int) (s2 s3:ByteArray) (a4:Option Addr) (n4 c4:Nat):Value:=.agg #[.int .i64 x0,.int .i64 x1,.string s2,.string s3,.slice a4 n4 c4]
def ZbP:List (Ln×Value)→List Value
 | []=>[]
 | p :: r=>.int .i64 (p.1.place:Int) :: .int .i64 (p.1.kind:Int) :: .string p.1.name :: .string p.1.frm :: p.2 :: ZbP r
theorem ZeW:∀ a b:List (Ln×Value),ZbP (a++b)=ZbP a++ZbP b
 | [],b=>rfl
 | p :: a,b=>by simp [ZbP,ZeW a b]
theorem Zle:∀ (h:List (Ln×Value)) (i:Nat) (l:Ln) (m:Value),h[i]?=some (l,m)→(ZbP h)[i*5]?=some (.int .i64 (l.place:Int))∧(ZbP h)[i*5+1]?=some (.int .i64 (l.kind:Int))∧(ZbP h)[i*5+2]?=some (.string l.name)∧(ZbP h)[i*5+3]?=some (.string l.frm)∧(ZbP h)[i*5+4]?=some m
 | [],i,l,m,d=>by simp at d
 | q :: r,0,l,m,d=>by simp at d;subst d;simp [ZbP]
 | q :: r,i+1,l,m,d=>by
  have ih:=Zle r i l m (by simpa using d);have A:(i+1)*5=i*5+5:=by omega
  rw [A];simp only [ZbP];exact ih
theorem Zlv:∀ (ss:List (Nat×Nat)) (i:Nat) (a b:Nat),ss[i]?=some (a,b)→(Zah ss)[i*2]?=some (.string (ZX a))∧(Zah ss)[i*2+1]?=some (.int .i64 (b:Int))
 | [],i,a,b,d=>by simp at d
 | m :: r,0,a,b,d=>by simp at d;subst d;simp [Zah]
 | m :: r,i+1,a,b,d=>by
  have ih:=Zlv r i a b (by simpa using d);have h:(i+1)*2=i*2+2:=by omega
  rw [h];simp only [Zah];exact ih
def LinesAt (w:World) (v:Value) (ls:List (Ln×Value)):Prop:=RowAt w v ls.length (ZbP ls)∧∀ p∈ls,RowAt w p.2 p.1.sets.length (Zah p.1.sets)
theorem LinesAt.nx {w m:World} {v:Value} {h:List (Ln×Value)} (d:LinesAt w v h) (hb:Below w.heap.size w m):LinesAt m v h:=⟨d.1.nx hb,fun p q=>(d.2 p q).nx hb⟩
theorem LinesAt.at {w:World} {q:Option Addr} {n E:Nat} {X:List (Ln×Value)} (h:LinesAt w (.slice q n E) X) {k:Nat} {l:Ln} {m:Value} (A:X[k]?=some (l,m)) :
  ∃ b off so sc,q=some ⟨b,off,none⟩∧b<w.heap.size∧m=.slice so l.sets.length sc∧RowAt w (.slice so l.sets.length sc) l.sets.length (Zah l.sets) ∧
   w.cell? ⟨b,off+k*5,none⟩=some (.int .i64 (l.place:Int))∧w.cell? ⟨b,off+k*5+1,none⟩=some (.int .i64 (l.kind:Int))∧w.cell? ⟨b,off+k*5+2,none⟩=some (.string l.name) ∧
   w.cell? ⟨b,off+k*5+3,none⟩=some (.string l.frm)∧w.cell? ⟨b,off+k*5+4,none⟩=some (.slice so l.sets.length sc):=by
 obtain ⟨I,J,f2,L,M⟩:=Zle X k l m A;obtain ⟨b,off,rfl,hb,N⟩:=h.1.at I;have d:∀ j x,(ZbP X)[k*5+j]?=some x→w.cell? ⟨b,off+k*5+j,none⟩=some x:=by
  intro j x U;obtain ⟨D,V,e,_,g⟩:=h.1.at U;obtain ⟨rfl,rfl⟩:b=D∧off=V:=by simpa using e
  rw [Nat.add_assoc];exact g
 have R:=h.2 (l,m) (Yo A);obtain ⟨so,sc,e,O,Q⟩:=R;simp only at e;refine ⟨b,off,so,sc,rfl,hb,e,⟨so,sc,rfl,O,Q⟩,N,d 1 _ J,d 2 _ f2,d 3 _ L,?_⟩;rw [←e];exact d 4 _ M
theorem ZhX {w:World} {so:Option Addr} {n sc:Nat} {ss:List (Nat×Nat)} (h:RowAt w (.slice so n sc) n (Zah ss)) {k a b:Nat} (E:ss[k]?=some (a,b)) :
  ∃ d off,so=some ⟨d,off,none⟩∧d<w.heap.size∧w.cell? ⟨d,off+k*2,none⟩=some (.string (ZX a))∧w.cell? ⟨d,off+k*2+1,none⟩=some (.int .i64 (b:Int)):=by
 obtain ⟨q,A⟩:=Zlv ss k a b E;obtain ⟨d,off,rfl,hb,D⟩:=h.at q;obtain ⟨m,I,e,_,g⟩:=h.at A;obtain ⟨rfl,rfl⟩:d=m∧off=I:=by simpa using e
 exact ⟨d,off,rfl,hb,D,by rw [Nat.add_assoc];exact g⟩
def Zcm (k:Nat) (n:Int):Bool:=match k with | 0=>inB 0 20 n | 1=>inB 0 20 n | 2=>inB 0 999 n | _=>inB 1 99 n
theorem Zma (k:Nat) (n:Int) (w:World) :
  Calls Tryz.prog 169 #[.string (ZX k),.int .i64 n] w fun e d=>e=.returned (.bool (Zcm k n))∧d=w:=by
 match k with
 | 0=>exact Zen n w
 | 1=>exact Zfn n w
 | 2=>exact Zip n w
 | k+3=>exact Zdp n w
abbrev bLn (x0 x1:Int) (s2 s3:ByteArray) (a4:Option Addr) (n4 c4:Nat):Obj:=.cells #[.int .i64 x0,.int .i64 x1,.string s2,.string s3,.slice a4 n4 c4] 167
def ZaQ (ss:List (Nat×Nat)):Bool:=ss.all fun p=>Zcm p.1 p.2
theorem ZfK (a b:Nat) (r:List (Nat×Nat)):ZaQ ((a,b) :: r)=(Zcm a b&&ZaQ r):=by simp [ZaQ]
theorem Zj9 (m q:Int) (s2 s3:ByteArray) (so:Option Addr) (sc n:Nat) (ss:List (Nat×Nat)) (w:World) (M:RowAt w (.slice so n sc) n (Zah ss)) (L:ss.length=n) (ab:n≤1001) :
  Calls Tryz.prog 175 #[ZcW m q s2 s3 so n sc] w fun e Q=>e=.returned (.bool (ZaQ ss))∧Below w.heap.size w Q:=by
 have J:Hid (ss.length=n):=L;have N:Hid (RowAt (w.alloc (bLn m q s2 s3 so n sc)) (.slice so n sc) n (Zah ss)):=M.nx (Zc _ _);clear M L;go_enter Tryz.func175,Tryz.ntmps175
 go_wp2_with fail
 go_loopw [3] (fun i wr=>∃ (k:Nat),k≤n∧i=.int .i64 k∧Hid (ZaQ (ss.drop k)=ZaQ ss)∧Below (w.alloc (bLn m q s2 s3 so n sc)).heap.size (w.alloc (bLn m q s2 s3 so n sc)) wr) (fun i _=>n - (intOf i).toNat)
 case atStart=>exact ⟨0,Ye _,rfl,rfl,Yh _ _⟩
 case round =>
  obtain ⟨k,Y,rfl,A,d⟩:=hrel;have X:wr.cell? ⟨w.heap.size,4,none⟩=some (.slice so n sc):=(d.cell (p:=⟨w.heap.size,4,none⟩) (by simp)).trans (by simp);have E:Hid (Below w.heap.size w wr):=Zb (Zc _ _) d;by_cases O:k<n
  ·obtain ⟨⟨a,b⟩,D⟩:∃ p,ss[k]?=some p:=⟨_,Yb (by rw [J.out];exact O)⟩;obtain ⟨R,off,rfl,V,U,c1⟩:=ZhX (N.out.nx d) D;have I:Hid (ss.drop k=(a,b) :: ss.drop (k+1)):=Zas D;have aa:(k:Int)<(n:Int):=by omega
   clear D;cases h:Zcm a b
   ·go_wp2_with fail
    go_quiet ((go_at_call 169;exact Calls.quiet_of_same (Zma _ _ _)))
    rw [h];go_wp2_with fail
    go_ret
    exact ⟨Zu (by rw [←A.out,I.out,ZfK,h];rfl),below_drewN E.out _⟩
   ·go_wp2_with fail
    go_quiet ((go_at_call 169;exact Calls.quiet_of_same (Zma _ _ _)))
    rw [h];go_wp2_with fail
    go_roundw
    case rel=>exact ⟨k+1,by omega,by go_num,(by show _=_;rw [←A.out,I.out,ZfK,h];simp),below_drewN d _⟩
    case measure=>simp [intOf];omega
  ·go_wp2_with fail
   go_ret
   exact ⟨Zu (by rw [←A.out,List.drop_of_length_le (by rw [J.out];omega)];rfl),E.out⟩
def cnt (ls:List (Ln×Value)) (kind:Nat):Nat:=(ls.filter fun p=>p.1.kind == kind).length
theorem ZqK (d:List (Ln×Value)) (kind k:Nat) (l:Ln) (A:Value) (h:d[k]?=some (l,A)):cnt (d.take (k+1)) kind=cnt (d.take k) kind+(if l.kind=kind then 1 else 0):=by
 obtain ⟨q,e⟩:=Yc.1 h;unfold cnt;rw [Yk q,Yr,e,List.length_append];by_cases m:l.kind=kind <;> simp [m]
def ZfI (ls:List (Ln×Value)) (kind:Nat):Bool:=if kind=2∨kind=3 then decide (6≤cnt ls kind) else false
theorem Zmw (A:Int) (kind:Nat) (s2 s3:ByteArray) (so:Option Addr) (sc m:Nat) (J:Option Addr) (L n:Nat) (d:List (Ln×Value)) (w:World) (V:LinesAt w (.slice J n L) d) (X:d.length=n) (am:n≤1001) (ak:kind≤3) :
  Calls Tryz.prog 176 #[ZcW A (kind:Int) s2 s3 so m sc,.slice J n L] w fun e w'=>e=.returned (.bool (ZfI d kind))∧Below w.heap.size w w':=by
 have O:Hid (d.length=n):=X;have HL:Hid (LinesAt (w.alloc (bLn A kind s2 s3 so m sc)) (.slice J n L) d):=V.nx (Zc _ _);clear V X;go_enter Tryz.func176,Tryz.ntmps176
 go_wp2_with fail
 go_loopw [5,6] (fun c i wr=>∃ (k ar:Nat),k≤n∧i=.int .i64 k∧c=.int .i64 ar∧ar≤k∧Hid (cnt (d.take k) kind=ar)∧Below (w.alloc (bLn A kind s2 s3 so m sc)).heap.size (w.alloc (bLn A kind s2 s3 so m sc)) wr) (fun _ i _=>n - (intOf i).toNat)
 case atStart=>exact ⟨0,0,Ye _,rfl,rfl,Yd _,rfl,Yh _ _⟩
 case round =>
  obtain ⟨k,ar,aj,rfl,rfl,ao,I,au⟩:=hrel;have ai:wr.cell? ⟨w.heap.size,1,none⟩=some (.int .i64 (kind:Int)):=(au.cell (p:=⟨w.heap.size,1,none⟩) (by simp)).trans (by simp);have D:Hid (Below w.heap.size w wr):=Zb (Zc _ _) au;by_cases ac:k<n
  ·obtain ⟨⟨l,ad⟩,M⟩:∃ p,d[k]?=some p:=⟨_,Yb (by rw [O.out];exact ac)⟩;obtain ⟨ae,off,aq,ap,rfl,ah,_,_,aa,c1,c2,c3,c4⟩:=(HL.out.nx au).at M;have N:=Za (ZqK d kind k l ad M);have al:(k:Int)<(n:Int):=by omega
   clear M aa c2 c3 c4;by_cases q:l.kind=kind
   ·have ab:((l.kind:Int) == (kind:Int))=true:=by simp [q]
    have E:Hid (l.kind=kind):=q;clear q;go_wp2_with fail
    go_quiet (fail)
    go_wp2_with fail
    go_roundw
    case rel=>exact ⟨k+1,ar+1,by omega,by go_num,by go_num,by omega,(by show _=_;rw [N.out,I.out,if_pos E.out]),below_drewN au _⟩
    case measure=>simp [intOf];omega
   ·have ab:((l.kind:Int) == (kind:Int))=false:=by simp;omega
    have E:Hid (¬l.kind=kind):=q;clear q;go_wp2_with fail
    go_quiet (fail)
    go_wp2_with fail
    go_roundw
    case rel=>exact ⟨k+1,ar,by omega,by go_num,rfl,by omega,(by show _=_;rw [N.out,I.out,if_neg E.out];rfl),below_drewN au _⟩
    case measure=>simp [intOf];omega
  ·have Q:Hid (cnt d kind=ar):=by
    have h:=I.out;rw [Yj (by rw [O.out];omega)] at h;exact h
   by_cases R:kind=2
   ·subst R;go_wp2_with fail
    go_ret
    exact ⟨Zu (by rw [ZfI,if_pos (.inl rfl),Q.out,Bool.eq_iff_iff,decide_eq_true_iff,decide_eq_true_iff];omega),D.out⟩
   ·have af:((kind:Int) == 2)=false:=by simp;omega
    by_cases U:kind=3
    ·subst U;go_wp2_with fail
     go_ret
     exact ⟨Zu (by rw [ZfI,if_pos (.inr rfl),Q.out,Bool.eq_iff_iff,decide_eq_true_iff,decide_eq_true_iff];omega),D.out⟩
    ·have ag:((kind:Int) == 3)=false:=by simp;omega
     have Y:Hid (¬(kind=2∨kind=3)):=by intro h;omega
     clear R U;go_wp2_with fail
     go_ret
     exact ⟨Zu (by rw [ZfI,if_neg Y.out]),D.out⟩
def ZjQ (ss:List (Nat×Nat)):Prop:=ss.Pairwise fun a b=>¬(ZX a.1).toList=(ZX b.1).toList
def twc (ss:List (Nat×Nat)):Bool:=!decide (ss.Pairwise fun a b=>¬(ZX a.1).toList=(ZX b.1).toList)
theorem Zon {ss:List (Nat×Nat)} {k:Nat} {p:Nat×Nat} (h:ss[k]?=some p) (q:ZjQ (ss.take k)) (A:∀ j m,j<k→ss[j]?=some m→¬(ZX m.1).toList=(ZX p.1).toList):ZjQ (ss.take (k+1)):=by
 obtain ⟨E,e⟩:=Yc.1 h;unfold ZjQ at *;rw [Yk E,List.pairwise_append];refine ⟨q,by simp,fun a D b hb=>?_⟩;simp at hb;subst hb;obtain ⟨j,d⟩:=List.getElem?_of_mem D;have I:j<k:=by
  have:=(Yc.1 d).1;simp at this;omega
 rw [List.getElem?_take,if_pos I] at d;rw [e];exact A j a I d
theorem Zsb {ss:List (Nat×Nat)} {j k:Nat} {d p:Nat×Nat} (D:j<k) (I:ss[j]?=some d) (E:ss[k]?=some p) (A:(ZX d.1).toList=(ZX p.1).toList):twc ss=true:=by
 unfold twc;have:¬ss.Pairwise fun a b=>¬(ZX a.1).toList=(ZX b.1).toList:=by
  intro h;obtain ⟨m,rfl⟩:=Yc.1 I;obtain ⟨q,rfl⟩:=Yc.1 E;exact List.pairwise_iff_getElem.1 h j k m q D A
 simp [this]
theorem ZqG {ss:List (Nat×Nat)} (d:ZjQ ss):twc ss=false:=by
 unfold twc;unfold ZjQ at d;simp [d]
theorem Zmd (a1 A:Int) (s2 s3:ByteArray) (so:Option Addr) (sc n:Nat) (ss:List (Nat×Nat)) (w:World) (ac:RowAt w (.slice so n sc) n (Zah ss)) (aa:ss.length=n) (az:n≤1001) :
  Calls Tryz.prog 177 #[ZcW a1 A s2 s3 so n sc] w fun e w'=>e=.returned (.bool (twc ss))∧Below w.heap.size w w':=by
 have I:Hid (ss.length=n):=aa;have V:Hid (RowAt (w.alloc (bLn a1 A s2 s3 so n sc)) (.slice so n sc) n (Zah ss)):=ac.nx (Zc _ _);clear ac aa;go_enter Tryz.func177,Tryz.ntmps177
 go_wp2_with fail
 go_loopw [3] (fun i wr=>∃ (k:Nat),k≤n∧i=.int .i64 k∧Hid (ZjQ (ss.take k))∧Below (w.alloc (bLn a1 A s2 s3 so n sc)).heap.size (w.alloc (bLn a1 A s2 s3 so n sc)) wr) (fun i _=>n - (intOf i).toNat)
 case atStart=>exact ⟨0,Ye _,rfl,List.Pairwise.nil,Yh _ _⟩
 case round =>
  obtain ⟨k,ay,rfl,X,O⟩:=hrel;have Y:wr.cell? ⟨w.heap.size,4,none⟩=some (.slice so n sc):=(O.cell (p:=⟨w.heap.size,4,none⟩) (by simp)).trans (by simp);by_cases ak:k<n
  ·obtain ⟨⟨a,b⟩,ab⟩:∃ p,ss[k]?=some p:=⟨_,Yb (by rw [I.out];exact ak)⟩;have J:Hid (ss[k]?=some (a,b)):=ab;have ad:=Za O;clear ab;go_wp2_with fail
   go_loopw [4] (fun i ao=>∃ (j:Nat),j≤k∧i=.int .i64 j∧Hid (∀ d q,d<j→ss[d]?=some q→¬(ZX q.1).toList=(ZX a).toList)∧Below (w.alloc (bLn a1 A s2 s3 so n sc)).heap.size (w.alloc (bLn a1 A s2 s3 so n sc)) ao) (fun i _=>k - (intOf i).toNat)
   case atStart=>exact ⟨0,Ye _,rfl,(fun d q h=>by omega),ad.out⟩
   case round =>
    obtain ⟨j,ax,rfl,R,a0⟩:=hrel;have ah:wr.cell? ⟨w.heap.size,4,none⟩=some (.slice so n sc):=(a0.cell (p:=⟨w.heap.size,4,none⟩) (by simp)).trans (by simp);have HB:Hid (Below w.heap.size w wr):=Zb (Zc _ _) a0;by_cases aj:j<k
    ·obtain ⟨⟨D,b'⟩,Q⟩:∃ p,ss[j]?=some p:=⟨_,Yb (by rw [I.out];omega)⟩;obtain ⟨ae,off,E,au,aq,c1⟩:=ZhX (V.out.nx a0) J.out;obtain ⟨af,am,M,_,ar,ag⟩:=ZhX (V.out.nx a0) Q;rw [E] at M;obtain ⟨rfl,rfl⟩:ae=af∧off=am:=by simpa using M
     rw [E] at ah;have U:Hid (ss[j]?=some (D,b')):=Q;have ap:=Za E;have av:(k:Int)<(n:Int):=by omega
     have aw:(j:Int)<(n:Int):=by omega
     clear Q M c1 ag E Y;by_cases m:(ZX D).toList=(ZX a).toList
     ·have al:((ZX D).toList == (ZX a).toList)=true:=by simp [m]
      have L:Hid (twc ss=true):=Zsb aj U.out J.out m;clear m;go_wp2_with fail
      go_quiet (fail)
      go_wp2_with fail
      go_ret
      exact ⟨Zu L.out.symm,below_drewN HB.out _⟩
     ·have al:((ZX D).toList == (ZX a).toList)=false:=by simp [m]
      have L:Hid (¬(ZX D).toList=(ZX a).toList):=m;clear m;go_wp2_with fail
      go_quiet (fail)
      go_wp2_with fail
      go_roundw
      case rel=>exact ⟨j+1,by omega,by go_num,(fun d q h N=>by
       by_cases ai:d<j
       ·exact R.out d q ai N
       ·obtain rfl:d=j:=by omega
        rw [U.out] at N;cases N;exact L.out),below_drewN a0 _⟩
      case measure=>simp [intOf];omega
    ·obtain rfl:j=k:=by omega
     clear Y;go_wp2_with fail
     go_roundw
     case rel=>exact ⟨j+1,by omega,by go_num,Zon J.out X.out R.out,a0⟩
     case measure=>simp [intOf];omega
  ·go_wp2_with fail
   go_ret
   exact ⟨Zu (by rw [ZqG];rw [←Yj (l:=ss) (i:=k) (by rw [I.out];omega)];exact X.out),Zb (Zc _ _) O⟩
abbrev Zly:Obj:=.cells #[.int .i64 0,.int .i64 0,.string ⟨#[]⟩,.string ⟨#[]⟩,.slice none 0 0] 167
def isL (kind:Nat) (name:ByteArray) (p:Ln×Value):Bool:=(p.1.kind == kind)&&(p.1.name.toList == name.toList)
def ZaP (ls:List (Ln×Value)) (kind:Nat) (name:ByteArray):Option (Ln×Value):=ls.find? (isL kind name)
theorem ZoJ {d:List (Ln×Value)} {kind:Nat} {q:ByteArray} {k:Nat} {p:Ln×Value} (hd:d.drop k=p :: d.drop (k+1)) (m:ZaP (d.drop k) kind q=ZaP d kind q) (h:isL kind q p=true):ZaP d kind q=some p:=by
 rw [←m,hd,ZaP,List.find?_cons,h]
theorem ZiG {d:List (Ln×Value)} {kind:Nat} {q:ByteArray} {k:Nat} {p:Ln×Value} (hd:d.drop k=p :: d.drop (k+1)) (m:ZaP (d.drop k) kind q=ZaP d kind q) (h:isL kind q p=false):ZaP (d.drop (k+1)) kind q=ZaP d kind q:=by
 rw [←m,hd,ZaP,ZaP,List.find?_cons,h]
theorem ZkA {d:List (Ln×Value)} {kind:Nat} {m:ByteArray} {p:Ln×Value} (h:ZaP d kind m=some p):p∈d:=List.mem_of_find?_eq_some h
def Zrc (o:Option (Ln×Value)) (w w':World) (e:Ending):Prop:=
 (o=none∧e=.returned (ZcW 0 0 ⟨#[]⟩ ⟨#[]⟩ none 0 0)∧Below w.heap.size w w') ∨
 (∃ l so sc,o=some (l,.slice so l.sets.length sc)∧e=.returned (ZcW l.place l.kind l.name l.frm so l.sets.length sc)∧Below w.heap.size w w')
theorem Zl5 (kind:Nat) (h:ByteArray) (I:Option Addr) (J n:Nat) (d:List (Ln×Value)) (w:World) (N:LinesAt w (.slice I n J) d) (O:d.length=n) (af:n≤1001) :
  Calls Tryz.prog 155 #[.slice I n J,.int .i64 (kind:Int),.string h] w fun e Y=>Zrc (ZaP d kind h) w Y e:=by
 have M:Hid (d.length=n):=O;have R:Hid (LinesAt (w.alloc Zly) (.slice I n J) d):=N.nx (Zc _ _);clear N O;go_enter Tryz.func155,Tryz.ntmps155
 go_wp2_with fail
 go_loop [7] (fun i=>∃ (k:Nat),k≤n∧i=.int .i64 k∧Hid (ZaP (d.drop k) kind h=ZaP d kind h)) (fun i=>n - (intOf i).toNat)
 case atStart=>exact ⟨0,Ye _,rfl,rfl⟩
 case round =>
  obtain ⟨k,ad,rfl,q⟩:=hrel;by_cases V:k<n
  ·obtain ⟨⟨l,ag⟩,L⟩:∃ p,d[k]?=some p:=⟨_,Yb (by rw [M.out];exact V)⟩;obtain ⟨aa,off,so,sc,rfl,ac,X,_,ab,c1,c2,c3,c4⟩:=R.out.at L;subst X;have A:Hid (d.drop k=(l,.slice so l.sets.length sc) :: d.drop (k+1)):=Zas L;have ae:(k:Int)<(n:Int):=by omega
   clear L;by_cases m:l.kind=kind
   ·have U:((l.kind:Int) == (kind:Int))=true:=by simp [m]
    have E:Hid (l.kind=kind):=m;clear m;cases Q:l.name.toList == h.toList
    ·go_wp2_with fail
     go_round
     case rel=>exact ⟨k+1,by omega,by go_num,ZiG A.out q.out (by simp [isL,Q])⟩
     case measure=>simp [intOf];omega
    ·have D:Hid (ZaP d kind h=some (l,.slice so l.sets.length sc)):=ZoJ A.out q.out (by simp [isL,Q,E.out]);go_wp2_with fail
     refine bodyPost_ret (v:=ZcW l.place l.kind l.name l.frm so l.sets.length sc) (by simp [results,Tryz.results155,go_sem]) rfl (.inr ⟨l,so,sc,D.out,rfl,?_⟩);exact Zc _ _
   ·have U:((l.kind:Int) == (kind:Int))=false:=by simp;omega
    have E:Hid (¬l.kind=kind):=m;clear m;go_wp2_with fail
    go_round
    case rel=>exact ⟨k+1,by omega,by go_num,ZiG A.out q.out (by simp [isL,E.out])⟩
    case measure=>simp [intOf];omega
  ·have D:Hid (ZaP d kind h=none):=by
    show _=_;rw [←q.out,List.drop_of_length_le (by rw [M.out];omega)];rfl
   go_wp2_with fail
   exact bodyPost_ret (v:=ZcW 0 0 ⟨#[]⟩ ⟨#[]⟩ none 0 0) (by simp [results,Tryz.results155,go_sem]) rfl (.inl ⟨D.out,rfl,Zc _ _⟩)
theorem Zk1 (q:ByteArray) (h:Option Addr) (m n:Nat) (d:List (Ln×Value)) (w:World) (A:LinesAt w (.slice h n m) d) (D:d.length=n) (E:n≤1001) :
  Calls Tryz.prog 155 #[.slice h n m,.int .i64 2,.string q] w fun e I=>Zrc (ZaP d 2 q) w I e:=Zl5 2 q h m n d w A D E
def ZaA (ss:List (Nat×Nat)) (k:Nat):Option Nat:=(ss.find? fun p=>(ZX p.1).toList == (ZX k).toList).map (·.2)
def Ze1 (ss:List (Nat×Nat)) (k:Nat):Int:=match ZaA ss k with | some n=>n | none=>0
theorem Zqg {ss:List (Nat×Nat)} {key k a b:Nat} (hd:ss.drop k=(a,b) :: ss.drop (k+1)) (h:ZaA (ss.drop k) key=ZaA ss key) (d:((ZX a).toList == (ZX key).toList)=true):ZaA ss key=some b:=by
 rw [←h,hd,ZaA,List.find?_cons];simp [d]
theorem Zpq {ss:List (Nat×Nat)} {key k a b:Nat} (hd:ss.drop k=(a,b) :: ss.drop (k+1)) (h:ZaA (ss.drop k) key=ZaA ss key) (d:((ZX a).toList == (ZX key).toList)=false):ZaA (ss.drop (k+1)) key=ZaA ss key:=by
 rw [←h,hd,ZaA,ZaA,List.find?_cons];simp [d]
theorem Zhi (key:Nat) (J L:Int) (s2 s3:ByteArray) (so:Option Addr) (sc n:Nat) (ss:List (Nat×Nat)) (w:World) (E:RowAt w (.slice so n sc) n (Zah ss)) (D:ss.length=n) (Y:n≤1001) :
  Calls Tryz.prog 157 #[ZcW J L s2 s3 so n sc,.string (ZX key)] w fun e O=>e=.returned (.tuple #[.int .i64 (Ze1 ss key),.bool (ZaA ss key).isSome])∧Below w.heap.size w O:=by
 have A:Hid (ss.length=n):=D;have M:Hid (RowAt (w.alloc (bLn J L s2 s3 so n sc)) (.slice so n sc) n (Zah ss)):=E.nx (Zc _ _);clear E D;go_enter Tryz.func157,Tryz.ntmps157
 go_wp2_with fail
 go_loop [6] (fun i=>∃ (k:Nat),k≤n∧i=.int .i64 k∧Hid (ZaA (ss.drop k) key=ZaA ss key)) (fun i=>n - (intOf i).toNat)
 case atStart=>exact ⟨0,Ye _,rfl,rfl⟩
 case round =>
  obtain ⟨k,V,rfl,h⟩:=hrel;by_cases N:k<n
  ·obtain ⟨⟨a,b⟩,m⟩:∃ p,ss[k]?=some p:=⟨_,Yb (by rw [A.out];exact N)⟩;obtain ⟨Q,off,rfl,U,R,c1⟩:=ZhX M.out m;have q:Hid (ss.drop k=(a,b) :: ss.drop (k+1)):=Zas m;have X:(k:Int)<(n:Int):=by omega
   clear m;cases I:(ZX a).toList == (ZX key).toList
   ·go_wp2_with fail
    go_round
    case rel=>exact ⟨k+1,by omega,by go_num,Zpq q.out h.out I⟩
    case measure=>simp [intOf];omega
   ·have d:Hid (ZaA ss key=some b):=Zqg q.out h.out I;go_wp2_with fail
    go_ret2
    exact ⟨ZeV (by simp [Ze1,d.out]) (by simp [d.out]),Zc _ _⟩
  ·have d:Hid (ZaA ss key=none):=by
    show _=_;rw [←h.out,List.drop_of_length_le (by rw [A.out];omega)];rfl
   go_wp2_with fail
   go_ret2
   exact ⟨ZeV (by simp [Ze1,d.out]) (by simp [d.out]),Zc _ _⟩
def Zbv (ls:List (Ln×Value)) (l:Ln):Nat:=
 if decide (ls.length=0) != decide (l.kind=1) then 2
 else if ZaQ l.sets=false then 3
 else if ZfI ls l.kind=true then 4
 else if twc l.sets=true then 5
 else if (ZaP ls l.kind l.name).isSome=true then 5 else 0
theorem ZjL (n:Nat):((n:Int) == 0)=decide (n=0):=by rw [Bool.eq_iff_iff];simp
theorem ZhB (n:Nat):((n:Int) == 1)=decide (n=1):=by rw [Bool.eq_iff_iff];simp;omega
theorem Zf8 {h:List (Ln×Value)} {kind:Nat} {m:ByteArray} {p:Ln×Value} (d:ZaP h kind m=some p):p.1.kind=kind:=by
 have:=List.find?_some d;simp [isL] at this;exact this.1
theorem ZmH (l:Ln) (E:Int) (so:Option Addr) (sc:Nat) (M:Option Addr) (N n:Nat) (d:List (Ln×Value)) (w:World) (ax:LinesAt w (.slice M n N) d) (am:d.length=n) (az:n≤1001)
  (aa:RowAt w (.slice so l.sets.length sc) l.sets.length (Zah l.sets)) (ab:l.sets.length≤1001) (bc:1≤l.kind) (aw:l.kind≤3) :
  Calls Tryz.prog 154 #[ZcW E l.kind l.name l.frm so l.sets.length sc,.slice M n N] w fun e w'=>e=.returned (.int .i64 (Zbv d l))∧Below w.heap.size w w':=by
 obtain ⟨kind,h,bp,ss,D⟩:=l;simp only at aa ab bc aw ⊢;obtain ⟨m,al⟩:∃ m,ss.length=m:=⟨_,rfl⟩;rw [al] at aa ab ⊢;obtain ⟨bq,O⟩:∃ bq,bq=w.alloc (bLn E kind h bp so m sc):=⟨_,rfl⟩;have X:Below w.heap.size w bq:=by rw [O];exact Zc _ _
 have I:Hid (bq=w.alloc (bLn E kind h bp so m sc)∧Below w.heap.size w bq∧w.heap.size<bq.heap.size∧bq.heap[w.heap.size]?=some (.cells #[.int .i64 E,.int .i64 (kind:Int),.string h,.string bp,.slice so m sc] 167 (0,0))):=
  ⟨O,X,by rw [O];simp,by rw [O];show (w.heap.push _)[w.heap.size]?=_;simp⟩
 have U:Hid (LinesAt bq (.slice M n N) d∧d.length=n):=⟨ax.nx X,am⟩;have V:Hid (RowAt bq (.slice so m sc) m (Zah ss)∧ss.length=m):=⟨aa.nx X,al⟩;have ah:Hid (Zbv d ⟨kind,h,bp,ss,D⟩=(if decide (n=0) != decide (kind=1) then 2 else if ZaQ ss=false then 3 else if ZfI d kind=true then 4 else if twc ss=true then 5 else if (ZaP d kind h).isSome=true then 5 else 0)):=by
  show _=_;rw [Zbv,am]
 clear ax am aa al O X;have au:∀ J,Below bq.heap.size bq J→J.cell? ⟨w.heap.size,0,none⟩=some (.int .i64 E)∧J.cell? ⟨w.heap.size,1,none⟩=some (.int .i64 (kind:Int))∧J.cell? ⟨w.heap.size,2,none⟩=some (.string h)∧J.cell? ⟨w.heap.size,3,none⟩=some (.string bp)∧J.cell? ⟨w.heap.size,4,none⟩=some (.slice so m sc):=by
  intro J hb;have h':J.heap[w.heap.size]?=some (.cells #[.int .i64 E,.int .i64 (kind:Int),.string h,.string bp,.slice so m sc] 167 (0,0)):=(hb.block _ I.out.2.2.1).trans I.out.2.2.2;refine ⟨?_,?_,?_,?_,?_⟩ <;> simp [World.cell?,h']
 have ad:=Za au;clear au;by_cases L:(decide (n=0) != decide (kind=1))=true
 ·have A:Hid (Zbv d ⟨kind,h,bp,ss,D⟩=2):=by show _=_;rw [ah.out,if_pos L]
  obtain ⟨q,be,bf⟩:∃ q,((n:Int) == 0)=q∧((kind:Int) == 1)=!q:=⟨decide (n=0),ZjL n,by
   rw [ZhB]
   revert L
   cases decide (n=0) <;> cases decide (kind=1) <;> simp⟩
  clear L;go_enter Tryz.func154,Tryz.ntmps154
  go_wp2_with fail
  go_ret
  exact ⟨Zaj (by rw [A.out];rfl),Zc _ _⟩
 obtain ⟨q,be,bf⟩:∃ q,((n:Int) == 0)=q∧((kind:Int) == 1)=q:=⟨decide (n=0),ZjL n,by
  rw [ZhB]
  revert L
  cases decide (n=0) <;> cases decide (kind=1) <;> simp⟩
 have ae:Hid (Zbv d ⟨kind,h,bp,ss,D⟩=(if ZaQ ss=false then 3 else if ZfI d kind=true then 4 else if twc ss=true then 5 else if (ZaP d kind h).isSome=true then 5 else 0)):=by
  show _=_;rw [ah.out,if_neg L]
 clear L ah;go_enter Tryz.func154,Tryz.ntmps154
 go_wp2_with fail
 rw [←I.out.1];refine (Zj9 E kind h bp so sc m ss bq V.out.1 V.out.2 ab).mono ?_;rintro e a6 ⟨rfl,Y⟩;cases av:ZaQ ss
 ·have A:Hid (Zbv d ⟨kind,h,bp,ss,D⟩=3):=by show _=_;rw [ae.out,av];rfl
  go_wp2_with fail
  go_ret
  exact ⟨Zaj (by rw [A.out];rfl),Zb I.out.2.1 Y⟩
 have af:Hid (Zbv d ⟨kind,h,bp,ss,D⟩=(if ZfI d kind=true then 4 else if twc ss=true then 5 else if (ZaP d kind h).isSome=true then 5 else 0)):=by
  show _=_;rw [ae.out,av];rfl
 obtain ⟨a7,c1,c2,c3,c4⟩:=ad.out a6 Y;have ac:=Za Y;clear Y ae;go_wp2_with fail
 refine (Zmw E kind h bp so sc m M N n d a6 (U.out.1.nx ac.out) U.out.2 az aw).mono ?_;rintro e ap ⟨rfl,ai⟩;cases ay:ZfI d kind
 ·have ag:Hid (Zbv d ⟨kind,h,bp,ss,D⟩=(if twc ss=true then 5 else if (ZaP d kind h).isSome=true then 5 else 0)):=by
   show _=_;rw [af.out,ay];rfl
  have Q:Hid (Below bq.heap.size bq ap):=Zb ac.out ai;obtain ⟨a8,a9,d2,d3,d4⟩:=ad.out ap Q.out;clear ai af a7 c1 c2 c3 c4;go_wp2_with fail
  refine (Zmd E kind h bp so sc m ss ap (V.out.1.nx Q.out) V.out.2 ab).mono ?_;rintro e aq ⟨rfl,aj⟩;cases a1:twc ss
  ·have ar:Hid (Zbv d ⟨kind,h,bp,ss,D⟩=(if (ZaP d kind h).isSome=true then 5 else 0)):=by
    show _=_;rw [ag.out,a1];rfl
   have R:Hid (Below bq.heap.size bq aq):=Zb Q.out aj;obtain ⟨bg,bh,f2,bi,bj⟩:=ad.out aq R.out;clear aj ag a8 a9 d2 d3 d4;go_wp2_with fail
   refine (Zl5 kind h M N n d aq (U.out.1.nx R.out) U.out.2 az).mono ?_;rintro e bo (⟨a0,rfl,ak⟩ | ⟨l,bm,bl,ao,rfl,ak⟩)
   ·have A:Hid (Zbv d ⟨kind,h,bp,ss,D⟩=0):=by show _=_;rw [ar.out,a0];rfl
    clear a0;go_wp2_with fail
    go_ret
    exact ⟨Zaj (by rw [A.out];rfl),Zb (Zb I.out.2.1 R.out) (Zb ak (Zc _ _))⟩
   ·have A:Hid (Zbv d ⟨kind,h,bp,ss,D⟩=5):=by show _=_;rw [ar.out,ao];rfl
    have bd:l.kind=kind:=Zf8 ao;have bk:((l.kind:Int) != 0)=true:=by rw [bne_iff_ne];omega
    clear ao bd;go_wp2_with fail
    go_ret
    exact ⟨Zaj (by rw [A.out];rfl),Zb (Zb I.out.2.1 R.out) (Zb ak (Zc _ _))⟩
  ·have A:Hid (Zbv d ⟨kind,h,bp,ss,D⟩=5):=by show _=_;rw [ag.out,a1];rfl
   go_wp2_with fail
   go_ret
   exact ⟨Zaj (by rw [A.out];rfl),Zb (Zb I.out.2.1 Q.out) aj⟩
 ·have A:Hid (Zbv d ⟨kind,h,bp,ss,D⟩=4):=by show _=_;rw [af.out,ay];rfl
  go_wp2_with fail
  go_ret
  exact ⟨Zaj (by rw [A.out];rfl),Zb (Zb I.out.2.1 ac.out) ai⟩
def Zd8 (ls:List (Ln×Value)) (frm:ByteArray):Bool:=frm.toList.isEmpty||(ZaP ls 2 frm).isSome
theorem Zk6 (O Q:Int) (s2 h:ByteArray) (so:Option Addr) (m sc:Nat) (ac:Option Addr) (q n:Nat) (d:List (Ln×Value)) (w:World) (L:LinesAt w (.slice ac n q) d) (M:d.length=n) (U:n≤1001) :
  Calls Tryz.prog 114 #[ZcW O Q s2 h so m sc,.slice ac n q] w fun e V=>e=.returned (.bool (Zd8 d h))∧Below w.heap.size w V:=by
 have J:Hid (LinesAt (w.alloc (bLn O Q s2 h so m sc)) (.slice ac n q) d∧d.length=n):=⟨L.nx (Zc _ _),M⟩;clear L M;cases E:h.toList.isEmpty
 ·go_enter Tryz.func114,Tryz.ntmps114
  go_wp2_with fail
  refine (Zk1 h ac q n d _ J.out.1 J.out.2 U).mono ?_;rintro e ab (⟨N,rfl,D⟩ | ⟨l,aa,Y,I,rfl,D⟩)
  ·have A:Hid (Zd8 d h=false):=by show _=_;rw [Zd8,E,N];rfl
   clear N;go_wp2_with fail
   go_ret
   exact ⟨Zu (by rw [A.out]),Zb (Zc _ _) (Zb D (Zc _ _))⟩
  ·have A:Hid (Zd8 d h=true):=by show _=_;rw [Zd8,E,I];rfl
   have R:l.kind=2:=Zf8 I;have X:((l.kind:Int) != 0)=true:=by rw [bne_iff_ne];omega
   clear I R;go_wp2_with fail
   go_ret
   exact ⟨Zu (by rw [A.out]),Zb (Zc _ _) (Zb D (Zc _ _))⟩
 ·go_enter Tryz.func114,Tryz.ntmps114
  go_wp2_with fail
  go_ret
  exact ⟨Zu (by rw [Zd8,E];rfl),Zc _ _⟩
def chn (ls:List (Ln×Value)):Nat→ByteArray→List (Ln×Value)
 | 0,_=>[]
 | f+1,nm=>match ZaP ls 2 nm with
  | none=>[]
  | some p=>p :: chn ls f p.1.frm
theorem ZqU {d:List (Ln×Value)} {f:Nat} {nm:ByteArray} (h:ZaP d 2 nm=none):chn d f nm=[]:=by
 cases f with
 | zero=>rfl
 | succ f=>rw [chn,h]
theorem ZqQ {d:List (Ln×Value)} {f:Nat} {nm:ByteArray} {p:Ln×Value} (h:ZaP d 2 nm=some p):chn d (f+1) nm=p :: chn d f p.1.frm:=by rw [chn,h]
theorem Zm6 (h:List (Ln×Value)):∀ (f:Nat) (nm:ByteArray),∀ p∈chn h f nm,p∈h
 | 0,_,p,d=>by simp [chn] at d
 | f+1,nm,p,d=>by
  rw [chn] at d;split at d
  ·simp at d
  ·rename_i q m
   rcases List.mem_cons.1 d with d | d
   ·subst d;exact ZkA m
   ·exact Zm6 h f _ p d
theorem ZjO (d:List (Ln×Value)):∀ (f:Nat) (nm:ByteArray),(chn d f nm).length≤f
 | 0,_=>by simp [chn]
 | f+1,nm=>by
  rw [chn];split
  ·simp
  ·have:=ZjO d f (by assumption:Ln×Value).1.frm;simp;omega
theorem ZkI:(Tryz.prog.info? 167).map (fun i=>(i.zero,i.size,i.bytes))=some (some (.agg #[.int .i64 0,.int .i64 0,.string ⟨#[]⟩,.string ⟨#[]⟩,.slice none 0 0]),5,72):=by kernel_rfl
theorem ZY (w:World) (d:List Value) (t:TypeId) {g:Nat} (h:g=w.heap.size):∀ (j:Nat) (u:Value),d[j]?=some u→(w.alloc (.cells d.toArray t)).cell? ((⟨g,0,none⟩:Addr).add j)=some u:=by
 subst h;exact Zar w d t
theorem ZC (w:World) (o:Obj) {k:Nat} (d:k=w.heap.size):(w.alloc o).heap[k]?=some o:=by
 subst d;show (w.heap.push o)[w.heap.size]?=some o;simp
theorem Zt (w:World) (o:Obj) {k:Nat} (d:k<w.heap.size):(w.alloc o).heap[k]?=w.heap[k]?:=Below.heap_alloc w o k d
def lenOf:Value→Nat
 | .slice _ n _=>n
 | _=>0
theorem ZhZ (ah ai:Int) (s2 q:ByteArray) (so:Option Addr) (af sc:Nat) (V:Option Addr) (X n:Nat) (d:List (Ln×Value)) (w:World) (am:LinesAt w (.slice V n X) d) (ao:d.length=n) (a6:n≤1001) :
  Calls Tryz.prog 156 #[ZcW ah ai s2 q so af sc,.slice V n X] w fun e w'=>∃ al ak,e=.returned (.slice al (chn d 7 q).length ak)∧LinesAt w' (.slice al (chn d 7 q).length ak) (chn d 7 q)∧Below w.heap.size w w':=by
 obtain ⟨be,a0,a9,bc,bd⟩:=info_parts ZkI;have U:Hid (LinesAt w (.slice V n X) d∧d.length=n):=⟨am,ao⟩;clear am ao;have aj:((w.alloc (bLn ah ai s2 q so af sc)).alloc (.cells #[] 167)).ownsRow w.heap.size 167 5 (.slice (some ⟨w.heap.size+1,0,none⟩) 0 0) 0 []:=by
  have h:=World.ownsRow_made (base:=w.heap.size) (e:=167) (size:=5) (w.alloc (bLn ah ai s2 q so af sc)) #[] 0 (by rw [World.size_alloc];omega) (Ye _) rfl;rw [World.size_alloc] at h;exact h
 have av:=Za aj;clear aj;go_enter Tryz.func156,Tryz.ntmps156
 go_wp2_with fail
 go_loopw [5,6] (fun v s wr=>∃ (bl:Nat) (m:List (Ln×Value)) (nm:ByteArray),bl≤7∧s=.string nm∧Hid (chn d 7 q=m++chn d (7 - bl) nm∧m.length=bl∧∀ p∈m,p∈d)∧wr.ownsRow w.heap.size 167 5 v bl (ZbP m)∧Below w.heap.size w wr) (fun v _ _=>7 - lenOf v)
 case atStart=>exact ⟨0,[],q,by omega,rfl,⟨rfl,rfl,by simp⟩,av.out,Zb (Zc _ _) (Zc _ _)⟩
 case round =>
  obtain ⟨bl,m,nm,bh,rfl,A,L,D⟩:=hrel;have ay:w.heap.size≤wr.heap.size:=D.size;obtain ⟨O,vc,a7,_⟩:=Zf L;subst a7;by_cases bi:bl≤6
  ·go_wp2_with fail
   refine (Zk1 nm V X n d _ (U.out.1.nx D) U.out.2 a6).mono ?_;rintro e E (⟨ap,rfl,J⟩ | ⟨l,N,M,aa,rfl,J⟩)
   ·have I:Hid (chn d 7 q=m∧(chn d 7 q).length=bl):=by
     have e:chn d 7 q=m:=by rw [A.out.1,ZqU ap,List.append_nil]
     exact ⟨e,by rw [e];exact A.out.2.1⟩
    have Q:Hid (LinesAt (E.alloc Zly) (.slice O bl vc) m∧Below w.heap.size w (E.alloc Zly)):=by
     have aw:LinesAt wr (.slice O bl vc) m:=⟨by rw [A.out.2.1];exact Zf L,fun p bm=>((U.out.1.nx D).2 p (A.out.2.2 p bm))⟩;exact ⟨(aw.nx J).nx (Zc _ _),Zb D (Zb J (Zc _ _))⟩
    clear ap L D J;go_wp2_with fail
    go_ret
    exact ⟨O,vc,ZeP I.out.2.symm,(by rw [I.out.2,I.out.1];exact Q.out.1),Q.out.2⟩
   ·have a1:l.kind=2:=Zf8 aa;have bg:((l.kind:Int) == 0)=false:=by rw [ZjL];simp;omega
    have HN:Hid (chn d 7 q=(m++[(l,.slice N l.sets.length M)])++chn d (7 - (bl+1)) l.frm∧(l,Value.slice N l.sets.length M)∈d):=by
     refine ⟨?_,ZkA aa⟩;have e:7 - bl=(7 - (bl+1))+1:=by omega
     rw [A.out.1,e,ZqQ aa];simp
    obtain ⟨ab,ae⟩:∃ ab,l.sets.length=ab:=⟨_,rfl⟩;have Y:E.ownsRow w.heap.size 167 5 (.slice O bl vc) bl (ZbP m):=Zx L J;have ac:Below w.heap.size w E:=Zb D J;have ax:w.heap.size≤E.heap.size:=ac.size;have au:=Za ae;rw [ae];clear aa a1 L D J ay ae;go_wp2_with (at_builtin;refine wpList_append_own _ rfl (.tmp 21) (.tmp 23) 132 rfl w.heap.size 167 be _ 5 72 Tryz.underlying132 a0 a9 bc bd rfl (by decide) _ _ _ rfl ((Y.alloc _).alloc _) ⟨E.heap.size+1,0,none⟩ 1 1 [.int .i64 (l.place:Int),.int .i64 (l.kind:Int),.string l.name,.string l.frm,.slice N ab M] rfl rfl ?c1 ?c2 ?c3 ?c4 ?c5 ?next)
    case c1=>exact ZY (E.alloc _) [.int .i64 (l.place:Int),.int .i64 (l.kind:Int),.string l.name,.string l.frm,.slice N ab M] _ (by simp)
    case c2=>intro u ar;simp at ar;rcases ar with rfl | rfl | rfl | rfl | rfl <;> rfl
    case c3=>unfold maxLen;omega
    case c4=>omega
    case c5=>simp;omega
    case next =>
     intro v' ag aq ad _;have R:ag.ownsRow w.heap.size 167 5 v' (bl+1) (ZbP (m++[(l,.slice N l.sets.length M)]))∧Below w.heap.size w ag:=by
      refine ⟨by rw [ZeW,au.out];exact aq,((ac.alloc ax _).alloc (by simp;omega) _).grown ad (by simp;omega) (fun g az=>(Y.lt g az).1)⟩
     have bf:ag.cell? ⟨E.heap.size,3,none⟩=some (.string l.frm):=by
      have hb:=ad.block E.heap.size (by simp;omega) (by
       intro h;have:=(Y.lt _ h.symm).2;omega)
      rw [Zt _ _ (by simp),ZC _ _ rfl] at hb;simp [World.cell?,hb]
     obtain ⟨bk,bj,a8,_⟩:=Zf R.1;subst a8;clear aq ad Y ac;go_wp2_with fail
     go_roundw
     case rel=>exact ⟨bl+1,m++[(l,.slice N l.sets.length M)],l.frm,by omega,rfl,⟨HN.out.1,by simp [A.out.2.1],fun p bm=>by
      rcases List.mem_append.1 bm with h | h
      ·exact A.out.2.2 p h
      ·simp at h;subst h;exact HN.out.2⟩,R.1,R.2⟩
     case measure=>simp [lenOf];omega
  ·obtain rfl:bl=7:=by omega
   have I:Hid (chn d 7 q=m∧(chn d 7 q).length=7):=by
    have e:chn d 7 q=m:=by rw [A.out.1];simp [chn]
    exact ⟨e,by rw [e];exact A.out.2.1⟩
   have Q:Hid (LinesAt wr (.slice O 7 vc) m∧Below w.heap.size w wr):=
    ⟨⟨by rw [A.out.2.1];exact Zf L,fun p bm=>((U.out.1.nx D).2 p (A.out.2.2 p bm))⟩,D⟩
   clear L D;go_wp2_with fail
   go_ret
   exact ⟨O,vc,ZeP I.out.2.symm,(by rw [I.out.2,I.out.1];exact Q.out.1),Q.out.2⟩
def ZbS (all:List (Ln×Value)) (most:Nat):List (Ln×Value)→Nat
 | []=>0
 | p :: r=>if most<(chn all 7 p.1.frm).length then p.1.place else ZbS all most r
theorem ZiT (h:Nat) (D:Option Addr) (E n:Nat) (d:List (Ln×Value)) (w:World) (U:LinesAt w (.slice D n E) d) (X:d.length=n) (ae:n≤1001) :
  Calls Tryz.prog 115 #[.slice D n E,.int .i64 (h:Int)] w fun e w'=>e=.returned (.int .i64 (ZbS d h d))∧Below w.heap.size w w':=by
 have A:Hid (LinesAt w (.slice D n E) d∧d.length=n):=⟨U,X⟩;clear U X;go_enter Tryz.func115,Tryz.ntmps115
 go_wp2_with fail
 go_loopw [5] (fun i wr=>∃ (k:Nat),k≤n∧i=.int .i64 k∧Hid (ZbS d h (d.drop k)=ZbS d h d)∧Below w.heap.size w wr) (fun i _=>n - (intOf i).toNat)
 case atStart=>exact ⟨0,Ye _,rfl,rfl,Yh _ _⟩
 case round =>
  obtain ⟨k,ak,rfl,J,m⟩:=hrel;by_cases ad:k<n
  ·obtain ⟨⟨l,ag⟩,N⟩:∃ p,d[k]?=some p:=⟨_,Yb (by rw [A.out.2];exact ad)⟩;obtain ⟨R,off,so,sc,ab,ac,af,_,M,c1,c2,c3,c4⟩:=(A.out.1.nx m).at N;have Q:Hid (d.drop k=(l,ag) :: d.drop (k+1)):=Zas N;have al:(k:Int)<(n:Int):=by omega
   have aa:=Za (ZhZ l.place l.kind l.name l.frm so l.sets.length sc D E n d wr (A.out.1.nx m) A.out.2 ae);subst ab;clear N af;go_wp2_with fail
   refine aa.out.mono ?_;rintro e Y ⟨ai,ah,rfl,_,I⟩;obtain ⟨q,ao⟩:∃ q,(chn d 7 l.frm).length=q:=⟨_,rfl⟩;rw [ao];have am:q≤7:=by rw [←ao];exact ZjO _ _ _
   have aj:Y.cell? ⟨R,off+k*5,none⟩=some (.int .i64 (l.place:Int)):=(I.cell (p:=⟨R,off+k*5,none⟩) ac).trans M;have O:Hid (Below w.heap.size w Y):=Zb m I;by_cases V:h<q
   ·have L:Hid (ZbS d h d=l.place):=by
     show _=_;rw [←J.out,Q.out,ZbS,ao,if_pos V]
    clear ao I m M c1 c2 c3 c4;go_wp2_with fail
    go_ret
    exact ⟨Zaj (by rw [L.out]),O.out⟩
   ·have L:Hid (ZbS d h (d.drop (k+1))=ZbS d h d):=by
     show _=_;rw [←J.out,Q.out,ZbS,ao,if_neg V]
    clear ao I m M c1 c2 c3 c4;go_wp2_with fail
    go_roundw
    case rel=>exact ⟨k+1,by omega,by go_num,L.out,O.out⟩
    case measure=>simp [intOf];omega
  ·go_wp2_with fail
   go_ret
   exact ⟨Zaj (by rw [←J.out,List.drop_of_length_le (by rw [A.out.2];omega)];rfl),m⟩
theorem ZpS (h:Option Addr) (m n:Nat) (d:List (Ln×Value)) (w:World) (q:LinesAt w (.slice h n m) d) (A:d.length=n) (D:n≤1001) :
  Calls Tryz.prog 115 #[.slice h n m,.int .i64 6] w fun e E=>e=.returned (.int .i64 (ZbS d 6 d))∧Below w.heap.size w E:=ZiT 6 h m n d w q A D
theorem ZpL (h:Option Addr) (m n:Nat) (d:List (Ln×Value)) (w:World) (q:LinesAt w (.slice h n m) d) (A:d.length=n) (D:n≤1001) :
  Calls Tryz.prog 115 #[.slice h n m,.int .i64 3] w fun e E=>e=.returned (.int .i64 (ZbS d 3 d))∧Below w.heap.size w E:=ZiT 3 h m n d w q A D
def Zcq (all:List (Ln×Value)):List (Ln×Value)→Option Nat
 | []=>none
 | p :: r=>if Zd8 all p.1.frm=true then Zcq all r else some p.1.place
def ZbO (ls:List (Ln×Value)):Nat×Nat:=
 match Zcq ls ls with
 | some k=>(6,k)
 | none=>if 0<ZbS ls 6 ls then (7,ZbS ls 6 ls) else if 0<ZbS ls 3 ls then (8,ZbS ls 3 ls) else (0,0)
theorem Zee {a b x y:Int} (d:a=b) (h:x=y):Ending.returned (.tuple #[.int .i64 a,.int .i64 x])=.returned (.tuple #[.int .i64 b,.int .i64 y]):=by rw [d,h]
theorem ZjH (D:Option Addr) (E n:Nat) (d:List (Ln×Value)) (w:World) (ah:LinesAt w (.slice D n E) d) (ai:d.length=n) (aa:n≤1001) :
  Calls Tryz.prog 71 #[.slice D n E] w fun e w'=>e=.returned (.tuple #[.int .i64 (ZbO d).1,.int .i64 (ZbO d).2])∧Below w.heap.size w w':=by
 have A:Hid (LinesAt w (.slice D n E) d∧d.length=n):=⟨ah,ai⟩;clear ah ai;go_enter Tryz.func71,Tryz.ntmps71
 go_wp2_with fail
 go_loopw [4] (fun i wr=>∃ (k:Nat),k≤n∧i=.int .i64 k∧Hid (Zcq d (d.drop k)=Zcq d d)∧Below w.heap.size w wr) (fun i _=>n - (intOf i).toNat)
 case atStart=>exact ⟨0,Ye _,rfl,rfl,Yh _ _⟩
 case round =>
  obtain ⟨k,au,rfl,U,q⟩:=hrel;by_cases al:k<n
  ·obtain ⟨⟨l,ao⟩,ab⟩:∃ p,d[k]?=some p:=⟨_,Yb (by rw [A.out.2];exact al)⟩;obtain ⟨ae,off,so,sc,aj,ak,am,_,V,c1,c2,c3,c4⟩:=(A.out.1.nx q).at ab;have HD:Hid (d.drop k=(l,ao) :: d.drop (k+1)):=Zas ab;have av:(k:Int)<(n:Int):=by omega
   have ad:=Za (Zk6 l.place l.kind l.name l.frm so l.sets.length sc D E n d wr (A.out.1.nx q) A.out.2 aa);subst aj;clear ab am;cases O:Zd8 d l.frm
   ·have h:Hid (ZbO d=(6,l.place)):=by
     have e:Zcq d d=some l.place:=by rw [←U.out,HD.out,Zcq,O];rfl
     show _=_;rw [ZbO,e]
    go_wp2_with fail
    refine ad.out.mono ?_;rintro e I ⟨rfl,m⟩;rw [O];have ap:I.cell? ⟨ae,off+k*5,none⟩=some (.int .i64 (l.place:Int)):=(m.cell (p:=⟨ae,off+k*5,none⟩) ak).trans V;have Q:Hid (Below w.heap.size w I):=Zb q m;clear m q V c1 c2 c3 c4;go_wp2_with fail
    go_quiet (fail)
    go_wp2_with fail
    go_ret2
    exact ⟨Zee (by rw [h.out];rfl) (by rw [h.out]),below_drewN Q.out _⟩
   ·have h:Hid (Zcq d (d.drop (k+1))=Zcq d d):=by
     show _=_;rw [←U.out,HD.out,Zcq,O,if_pos rfl]
    go_wp2_with fail
    refine ad.out.mono ?_;rintro e I ⟨rfl,m⟩;rw [O];have Q:Hid (Below w.heap.size w I):=Zb q m;clear m q V c1 c2 c3 c4;go_wp2_with fail
    go_roundw
    case rel=>exact ⟨k+1,by omega,by go_num,h.out,Q.out⟩
    case measure=>simp [intOf];omega
  ·have R:Hid (Zcq d d=none):=by
    show _=_;rw [←U.out,List.drop_of_length_le (by rw [A.out.2];omega)];rfl
   go_wp2_with fail
   refine (ZpS D E n d wr (A.out.1.nx q) A.out.2 aa).mono ?_;rintro e I ⟨rfl,m⟩;obtain ⟨J,M⟩:∃ J,ZbS d 6 d=J:=⟨_,rfl⟩;rw [M];have N:=Zb q m;by_cases X:0<J
   ·have h:Hid (ZbO d=(7,J)):=by show _=_;rw [ZbO,R.out];simp only;rw [M,if_pos X]
    clear M q m;go_wp2_with fail
    go_ret2
    exact ⟨Zee (by rw [h.out];rfl) (by rw [h.out]),N⟩
   ·have ar:¬(0:Int)<(J:Int):=by omega
    have ac:=Za M;clear M q m;go_wp2_with fail
    refine (ZpL D E n d I (A.out.1.nx N) A.out.2 aa).mono ?_;rintro e aw ⟨rfl,Y⟩;obtain ⟨a3,L⟩:∃ a3,ZbS d 3 d=a3:=⟨_,rfl⟩;rw [L];have ag:=Zb N Y;by_cases af:0<a3
    ·have h:Hid (ZbO d=(8,a3)):=by show _=_;rw [ZbO,R.out];simp only;rw [ac.out,if_neg X,L,if_pos af]
     clear L N Y;go_wp2_with fail
     go_ret2
     exact ⟨Zee (by rw [h.out];rfl) (by rw [h.out]),ag⟩
    ·have h:Hid (ZbO d=(0,0)):=by show _=_;rw [ZbO,R.out];simp only;rw [ac.out,if_neg X,L,if_neg af]
     have aq:¬(0:Int)<(a3:Int):=by omega
     clear L N Y;go_wp2_with fail
     go_ret2
     exact ⟨Zee (by rw [h.out];rfl) (by rw [h.out];rfl),ag⟩
def chv (key:Nat) (other:Int):List (Ln×Value)→Int
 | []=>other
 | p :: r=>match ZaA p.1.sets key with | some n=>n | none=>chv key other r
def Zbu (key:Nat) (other:Int) (ss:List (Nat×Nat)) (ch:List (Ln×Value)):Int:=match ZaA ss key with | some n=>n | none=>chv key other ch
theorem Zea (key:Nat) (a0:Int) (X Y:Int) (s2 s3:ByteArray) (so:Option Addr) (sc m:Nat) (ss:List (Nat×Nat)) (V:Option Addr) (U q:Nat) (d:List (Ln×Value)) (w:World)
  (ae:RowAt w (.slice so m sc) m (Zah ss)) (ac:ss.length=m) (am:m≤1001) (ab:LinesAt w (.slice V q U) d) (ad:d.length=q) (az:q≤1001) (ag:∀ p∈d,p.1.sets.length≤1001) :
  Calls Tryz.prog 116 #[.string (ZX key),ZcW X Y s2 s3 so m sc,.slice V q U,.int .i64 a0] w fun e w'=>e=.returned (.int .i64 (Zbu key a0 ss d))∧Below w.heap.size w w':=by
 have O:=Za (Zhi key X Y s2 s3 so sc m ss (w.alloc (bLn X Y s2 s3 so m sc)) (ae.nx (Zc _ _)) ac am);have I:Hid (LinesAt w (.slice V q U) d∧d.length=q∧∀ p∈d,p.1.sets.length≤1001):=⟨ab,ad,ag⟩;clear ae ac ab ad ag;cases h:ZaA ss key with
 | some n =>
  have J:Hid (Zbu key a0 ss d=n):=by show _=_;rw [Zbu,h]
  have A:Ze1 ss key=n:=by rw [Ze1,h]
  have D:(ZaA ss key).isSome=true:=by rw [h];rfl
  clear h;go_enter Tryz.func116,Tryz.ntmps116
  go_wp2_with fail
  refine O.out.mono ?_;rintro e w1 ⟨rfl,L⟩;rw [A,D];go_wp2_with fail
  go_ret
  exact ⟨Zaj J.out.symm,Zb (Zc _ _) L⟩
 | none =>
  have J:Hid (Zbu key a0 ss d=chv key a0 d):=by show _=_;rw [Zbu,h]
  have A:Ze1 ss key=0:=by rw [Ze1,h]
  have D:(ZaA ss key).isSome=false:=by rw [h];rfl
  clear h;go_enter Tryz.func116,Tryz.ntmps116
  go_wp2_with fail
  refine O.out.mono ?_;rintro e w1 ⟨rfl,L⟩;rw [A,D];have ah:Hid (Below w.heap.size w w1):=Zb (Zc _ _) L;clear L A D O;go_wp2_with fail
  go_loopw [9,10,11] (fun x ok i wr=>∃ (k:Nat) (a:Int),k≤q∧i=.int .i64 k∧x=.int .i64 a∧ok=.bool false∧Hid (chv key a0 (d.drop k)=chv key a0 d)∧Below w.heap.size w wr) (fun _ _ i _=>q - (intOf i).toNat)
  case atStart=>exact ⟨0,0,Ye _,rfl,rfl,rfl,rfl,ah.out⟩
  case round =>
   obtain ⟨k,a,ax,rfl,rfl,rfl,Q,E⟩:=hrel;by_cases al:k<q
   ·obtain ⟨⟨l,ar⟩,N⟩:∃ p,d[k]?=some p:=⟨_,Yb (by rw [I.out.2.1];exact al)⟩;obtain ⟨av,off,aq,ap,aj,aw,ao,af,ai,c1,c2,c3,c4⟩:=(I.out.1.nx E).at N;have HD:Hid (d.drop k=(l,ar) :: d.drop (k+1)):=Zas N;have ay:(k:Int)<(q:Int):=by omega
    have aa:=Za (Zhi key l.place l.kind l.name l.frm aq ap l.sets.length l.sets wr af rfl (I.out.2.2 _ (Yo N)));subst aj;clear N ao af;cases h:ZaA l.sets key with
    | some n =>
     have R:Hid (chv key a0 d=n):=by show _=_;rw [←Q.out,HD.out,chv,h]
     have A:Ze1 l.sets key=n:=by rw [Ze1,h]
     have D:(ZaA l.sets key).isSome=true:=by rw [h];rfl
     clear h;go_wp2_with fail
     refine aa.out.mono ?_;rintro e au ⟨rfl,M⟩;rw [A,D];go_wp2_with fail
     go_ret
     exact ⟨Zaj (by rw [J.out,R.out]),Zb E M⟩
    | none =>
     have R:Hid (chv key a0 (d.drop (k+1))=chv key a0 d):=by show _=_;rw [←Q.out,HD.out,chv,h]
     have A:Ze1 l.sets key=0:=by rw [Ze1,h]
     have D:(ZaA l.sets key).isSome=false:=by rw [h];rfl
     clear h;go_wp2_with fail
     refine aa.out.mono ?_;rintro e au ⟨rfl,M⟩;rw [A,D];have ak:=Zb E M;clear E M ai c1 c2 c3 c4;go_wp2_with fail
     go_roundw
     case rel=>exact ⟨k+1,0,by omega,by go_num,rfl,rfl,R.out,ak⟩
     case measure=>simp [intOf];omega
   ·go_wp2_with fail
    go_ret
    exact ⟨Zaj (by rw [J.out,←Q.out,List.drop_of_length_le (by rw [I.out.2.1];omega)];rfl),E⟩
structure Pl where
 nm:ByteArray
 sz:Int
 wt:Int
 fr:Int
def Ze:List Pl→List Value
 | []=>[]
 | p :: r=>.string p.nm :: .int .i64 p.sz :: .int .i64 p.wt :: .int .i64 p.fr :: Ze r
theorem Zbe:∀ a b:List Pl,Ze (a++b)=Ze a++Ze b
 | [],b=>rfl
 | p :: a,b=>by simp [Ze,Zbe a b]
theorem ZlH:∀ (ps:List Pl) (i:Nat) (p:Pl),ps[i]?=some p→(Ze ps)[i*4]?=some (.string p.nm)∧(Ze ps)[i*4+1]?=some (.int .i64 p.sz)∧(Ze ps)[i*4+2]?=some (.int .i64 p.wt)∧(Ze ps)[i*4+3]?=some (.int .i64 p.fr)
 | [],i,p,d=>by simp at d
 | m :: r,0,p,d=>by simp at d;subst d;simp [Ze]
 | m :: r,i+1,p,d=>by
  have ih:=ZlH r i p (by simpa using d);have h:(i+1)*4=i*4+4:=by omega
  rw [h];simp only [Ze];exact ih
theorem ZJ {w:World} {N:Option Addr} {n m q:Nat} {ps:List Pl} (h:RowAt w (.slice N n q) m (Ze ps)) {k:Nat} {p:Pl} (J:ps[k]?=some p) :
  ∃ b off,N=some ⟨b,off,none⟩∧b<w.heap.size∧w.cell? ⟨b,off+k*4,none⟩=some (.string p.nm)∧w.cell? ⟨b,off+k*4+1,none⟩=some (.int .i64 p.sz)∧w.cell? ⟨b,off+k*4+2,none⟩=some (.int .i64 p.wt)∧w.cell? ⟨b,off+k*4+3,none⟩=some (.int .i64 p.fr):=by
 obtain ⟨A,D,f2,E⟩:=ZlH ps k p J;obtain ⟨b,off,rfl,hb,I⟩:=h.at A;have d:∀ j x,(Ze ps)[k*4+j]?=some x→w.cell? ⟨b,off+k*4+j,none⟩=some x:=by
  intro j x L;obtain ⟨O,M,e,_,g⟩:=h.at L;obtain ⟨rfl,rfl⟩:b=O∧off=M:=by simpa using e
  rw [Nat.add_assoc];exact g
 exact ⟨b,off,rfl,hb,I,d 1 _ D,d 2 _ f2,d 3 _ E⟩
abbrev plA (p:Pl):Value:=.agg #[.string p.nm,.int .i64 p.sz,.int .i64 p.wt,.int .i64 p.fr]
def ZH (p:Pl):List Pl→List Pl
 | []=>[p]
 | q :: r=>if lt p.nm q.nm=true then p :: q :: r else q :: ZH p r
theorem ZlM {p d:Pl} {r:List Pl} (h:lt p.nm d.nm=true):ZH p (d :: r)=p :: d :: r:=by rw [ZH,if_pos h]
theorem Zns {p d:Pl} {r:List Pl} (h:lt p.nm d.nm=false):ZH p (d :: r)=d :: ZH p r:=by rw [ZH,if_neg (by simp [h])]
theorem Zch (p:Pl):∀ ps:List Pl,(ZH p ps).length=ps.length+1
 | []=>rfl
 | d :: r=>by
  rw [ZH];split
  ·rfl
  ·simp [Zch p r]
theorem ZhP:(Tryz.prog.info? 82).map (fun i=>(i.zero,i.size,i.bytes))=some (some (.agg #[.string ⟨#[]⟩,.int .i64 0,.int .i64 0,.int .i64 0]),4,40):=by kernel_rfl
end Co
end Go.Proofs.YtmgkcbdlfodjmaaGreatDoor
