import Derived.Test.YtmgkcbdlfodjmaaGreatDoorBqW
set_option maxRecDepth 100000
set_option maxHeartbeats 16000000
namespace Go.Proofs.YtmgkcbdlfodjmaaGreatDoor
open Go.RowKit
namespace Lw
open Co
def ZQ {α:Type} (p:α→Bool) (l:List α):Option α:=(l.filter p).getLast?
theorem Zgh {α:Type} {p:α→Bool} {l:List α} {k:Nat} {x:α} (m:l[k]?=some x):ZQ p (l.take (k+1))=if p x=true then some x else ZQ p (l.take k):=by
 obtain ⟨d,e⟩:=Yc.1 m;unfold ZQ;rw [Yk d,Yr,e];cases h:p x <;> simp [h]
abbrev Zer:Wtr:=⟨0,⟨#[]⟩⟩
def orW (o:Option Wtr):Wtr:=match o with | some s=>s | none=>Zer
abbrev bSx (x:Srv):Obj:=bSv x.id x.pool x.far x.client
abbrev bWx (x:Wtr):Obj:=bWt x.client x.pool
theorem Zkd (Q:Option Addr) (n O:Nat) (ss:List Srv) (w:World) (ac:RowAt w (.slice Q n O) n (Zv ss)) (aa:ss.length=n) (ag:n≤maxLen) :
  Calls Tryz.prog 165 #[.slice Q n O] w fun e w'=>e=.returned (svA (orS (ZQ (Zp 0) ss)))∧Below w.heap.size w w':=by
 unfold maxLen at ag;have Y:Below w.heap.size w ((w.alloc (bSx Zdn)).alloc (bSx Zdn)):=Zb (Zc _ _) (Zc _ _);have M:Hid (RowAt w (.slice Q n O) n (Zv ss)∧ss.length=n):=⟨ac,aa⟩;have N:Hid (Below w.heap.size w ((w.alloc (bSx Zdn)).alloc (bSx Zdn))∧((w.alloc (bSx Zdn)).alloc (bSx Zdn)).heap[w.heap.size]?=some (bSx Zdn)∧((w.alloc (bSx Zdn)).alloc (bSx Zdn)).heap[w.heap.size+1]?=some (bSx Zdn)):=⟨Y,(Zn _ _ (by simp)).trans (Zd _ _ rfl),Zd _ _ (by simp)⟩;clear ac aa Y;go_enter Tryz.func165,Tryz.ntmps165
 go_wp2_with fail
 go_loopw [4] (fun i wr=>∃ k:Nat,k≤n∧i=.int .i64 k∧Hid (wr.heap[w.heap.size+1]?=some (bSx (orS (ZQ (Zp 0) (ss.take k))))∧wr.heap[w.heap.size]?=some (bSx Zdn)∧Below w.heap.size w wr)) (fun i _=>n - (intOf i).toNat)
 case atStart=>exact ⟨0,Ye _,rfl,N.out.2.2,N.out.2.1,N.out.1⟩
 case round =>
  obtain ⟨k,aq,rfl,av⟩:=hrel;obtain ⟨V,X,b2,b3,ao⟩:=ZaE av.out.1;obtain ⟨ai,aj,ak,al,au⟩:=ZaE av.out.2.1;by_cases ah:k<n
  ·obtain ⟨⟨q,A,D,m⟩,J⟩:∃ p,ss[k]?=some p:=⟨_,Yb (by rw [M.out.2];exact ah)⟩;obtain ⟨am,off,af,ap,ae,c1,c2,c3⟩:=ZbA (M.out.1.nx av.out.2.2) J;subst af;simp only at ae c1 c2 c3;have ar:(k:Int)<(n:Int):=by omega
   have I:=Zgh (p:=Zp 0) J;cases ab:(m == 0) with
   | true =>
    have L:Hid (orS (ZQ (Zp 0) (ss.take (k+1)))=⟨q,A,D,m⟩):=by
     have R:(Zp 0) ⟨q,A,D,m⟩=true:=ab;show _=_;rw [I,if_pos R];rfl
    clear J I;go_wp2_with fail
    go_roundw
    case rel =>
     refine ⟨k+1,by omega,by go_num,?_,?_,?_⟩
     ·rw [L.out];exact Zm _ _ _ _ _ _ (Zm _ _ _ _ _ _ (Zm _ _ _ _ _ _ (Zm _ _ _ _ _ _ av.out.1)))
     ·have E:w.heap.size≠w.heap.size+1:=by omega
      exact (Yf _ _ _ _ E).trans ((Yf _ _ _ _ E).trans ((Yf _ _ _ _ E).trans ((Yf _ _ _ _ E).trans av.out.2.1)))
     ·have d:w.heap.size≤w.heap.size+1:=by omega
      exact (((av.out.2.2.setCell d _).setCell d _).setCell d _).setCell d _
    case measure=>simp [intOf];omega
   | false =>
    have L:Hid (ZQ (Zp 0) (ss.take (k+1))=ZQ (Zp 0) (ss.take k)):=by
     have R:¬(Zp 0) ⟨q,A,D,m⟩=true:=fun h=>by rw [show (Zp 0) ⟨q,A,D,m⟩=(m == 0) from rfl,ab] at h;simp at h
     show _=_;rw [I,if_neg R]
    clear J I;go_wp2_with fail
    go_roundw
    case rel=>exact ⟨k+1,by omega,by go_num,by rw [L.out];exact av.out⟩
    case measure=>simp [intOf];omega
  ·have ad:ss.take k=ss:=Yj (by rw [M.out.2];omega);rw [ad] at V X b2 b3;obtain ⟨⟨q,A,D,m⟩,U⟩:∃ x,orS (ZQ (Zp 0) ss)=x:=⟨_,rfl⟩;rw [U] at V X b2 b3;have HX:=Za U;clear ad U;go_wp2_with fail
   refine bodyPost_ret (v:=svA ⟨q,A,D,m⟩) (by simp [results,Tryz.results165,go_sem,ai,aj,ak,al]) rfl ⟨by rw [HX.out],?_⟩;have d:w.heap.size≤w.heap.size:=Yd _;exact (((av.out.2.2.setCell d _).setCell d _).setCell d _).setCell d _
theorem ZmF (so:Option Addr) (h sc:Nat) (d:ByteArray) (ss:List Srv) (w:World) (J:RowAt w (.slice so h sc) h (Zv ss)) (q:ss.length=h) (U:h≤1099511627776) :
  Calls Tryz.prog 163 #[.slice so h sc,.string d] w fun e X=>e=.returned (svA (orS (ZQ (fun s=>Zj d s&&Zp 0 s) ss)))∧Below w.heap.size w X:=by
 have D:=Za (Zgu so h sc d ss (w.alloc (bSx Zdn)) (J.nx (Zc _ _)) q U);have ae:(ss.filter (Zj d)).length≤h:=by rw [←q];exact Yp _ _
 clear J q;go_enter Tryz.func163,Tryz.ntmps163
 go_wp2_with fail
 refine D.out.mono ?_;rintro e w1 ⟨V,vc,rfl,I,hb⟩;have E:=Za (Zkd V (ss.filter (Zj d)).length vc (ss.filter (Zj d)) w1 (Zf I) rfl (by unfold maxLen;omega));have K:Hid (w1.heap[w.heap.size]?=some (bSx Zdn)∧Below w.heap.size w w1∧w.heap.size<w1.heap.size):=⟨(hb.block _ (by simp)).trans (Zd _ _ rfl),Zb (Zc _ _) hb,Yl (by simp) hb.size⟩;clear I hb D;go_wp2_with fail
 refine E.out.mono ?_;rintro e Y ⟨rfl,hb⟩;obtain ⟨⟨L,M,N,O⟩,A⟩:∃ x,orS (ZQ (Zp 0) (ss.filter (Zj d)))=x:=⟨_,rfl⟩;rw [A];have Q:Hid (orS (ZQ (fun s=>Zj d s&&Zp 0 s) ss)=⟨L,M,N,O⟩):=by
  show _=_;rw [←A];unfold ZQ;rw [List.filter_filter];refine congrArg (fun l=>orS (List.getLast? l)) (List.filter_congr fun s _=>?_);exact Bool.and_comm _ _
 obtain ⟨aa,ab,ac,ad,af⟩:=ZbK hb (g:=w.heap.size) K.out.2.2 K.out.1;have R:Hid (Below w.heap.size w Y):=Zb K.out.2.1 hb;clear hb A E;go_wp2_with fail
 refine bodyPost_ret (v:=svA ⟨L,M,N,O⟩) (by simp [results,Tryz.results163,go_sem,aa,ab,ac,ad]) rfl ⟨by rw [Q.out],?_⟩;have m:w.heap.size≤w.heap.size:=Yd _;exact (((R.out.setCell m _).setCell m _).setCell m _).setCell m _
theorem ZjT (O:Option Addr) (n N:Nat) (d:ByteArray) (ar:List Wtr) (w:World) (ac:RowAt w (.slice O n N) n (ZE ar)) (Y:ar.length=n) (ag:n≤maxLen) :
  Calls Tryz.prog 164 #[.slice O n N,.string d] w fun e w'=>e=.returned (.agg #[.int .i64 (orW (ZQ (Zq d) ar)).client,.string (orW (ZQ (Zq d) ar)).pool])∧Below w.heap.size w w':=by
 unfold maxLen at ag;have X:Below w.heap.size w ((w.alloc (bWx Zer)).alloc (bWx Zer)):=Zb (Zc _ _) (Zc _ _);have L:Hid (RowAt w (.slice O n N) n (ZE ar)∧ar.length=n):=⟨ac,Y⟩;have M:Hid (Below w.heap.size w ((w.alloc (bWx Zer)).alloc (bWx Zer))∧((w.alloc (bWx Zer)).alloc (bWx Zer)).heap[w.heap.size]?=some (bWx Zer)∧((w.alloc (bWx Zer)).alloc (bWx Zer)).heap[w.heap.size+1]?=some (bWx Zer)):=⟨X,(Zn _ _ (by simp)).trans (Zd _ _ rfl),Zd _ _ (by simp)⟩;clear ac Y X;go_enter Tryz.func164,Tryz.ntmps164
 go_wp2_with fail
 go_loopw [6] (fun i wr=>∃ k:Nat,k≤n∧i=.int .i64 k∧Hid (wr.heap[w.heap.size+1]?=some (bWx (orW (ZQ (Zq d) (ar.take k))))∧wr.heap[w.heap.size]?=some (bWx Zer)∧Below w.heap.size w wr)) (fun i _=>n - (intOf i).toNat)
 case atStart=>exact ⟨0,Ye _,rfl,M.out.2.2,M.out.2.1,M.out.1⟩
 case round =>
  obtain ⟨k,ao,rfl,m⟩:=hrel;obtain ⟨U,V,al⟩:=Zw m.out.1;obtain ⟨ai,aj,aq⟩:=Zw m.out.2.1;by_cases ah:k<n
  ·obtain ⟨⟨A,q⟩,I⟩:∃ p,ar[k]?=some p:=⟨_,Yb (by rw [L.out.2];exact ah)⟩;obtain ⟨ak,off,af,am,ae,c1⟩:=Zdd (L.out.1.nx m.out.2.2) I;subst af;simp only at ae c1;have ap:(k:Int)<(n:Int):=by omega
   have E:=Zgh (p:=Zq d) I;cases ab:(q.toList == d.toList) with
   | true =>
    have J:Hid (orW (ZQ (Zq d) (ar.take (k+1)))=⟨A,q⟩):=by
     have Q:(Zq d) ⟨A,q⟩=true:=ab;show _=_;rw [E,if_pos Q];rfl
    clear I E;go_wp2_with fail
    go_roundw
    case rel =>
     refine ⟨k+1,by omega,by go_num,?_,?_,?_⟩
     ·rw [J.out];exact Zm _ _ _ _ _ _ (Zm _ _ _ _ _ _ m.out.1)
     ·have aa:w.heap.size≠w.heap.size+1:=by omega
      exact (Yf _ _ _ _ aa).trans ((Yf _ _ _ _ aa).trans m.out.2.1)
     ·have D:w.heap.size≤w.heap.size+1:=by omega
      exact (m.out.2.2.setCell D _).setCell D _
    case measure=>simp [intOf];omega
   | false =>
    have J:Hid (ZQ (Zq d) (ar.take (k+1))=ZQ (Zq d) (ar.take k)):=by
     have Q:¬(Zq d) ⟨A,q⟩=true:=fun h=>by rw [show (Zq d) ⟨A,q⟩=(q.toList == d.toList) from rfl,ab] at h;simp at h
     show _=_;rw [E,if_neg Q]
    clear I E;go_wp2_with fail
    go_roundw
    case rel=>exact ⟨k+1,by omega,by go_num,by rw [J.out];exact m.out⟩
    case measure=>simp [intOf];omega
  ·have ad:ar.take k=ar:=Yj (by rw [L.out.2];omega);rw [ad] at U V;obtain ⟨⟨A,q⟩,R⟩:∃ x,orW (ZQ (Zq d) ar)=x:=⟨_,rfl⟩;rw [R] at U V;have HX:=Za R;clear ad R;go_wp2_with fail
   refine bodyPost_ret (v:=.agg #[.int .i64 A,.string q]) (by simp [results,Tryz.results164,go_sem,ai,aj]) rfl ⟨by rw [HX.out],?_⟩;have D:w.heap.size≤w.heap.size:=Yd _;exact (m.out.2.2.setCell D _).setCell D _
def Zcg (pool:ByteArray) (far:Int) (x:Srv):Bool:=Zj pool x&&!(x.far == far)
theorem Zkj (A:Int) (m:ByteArray) (q D:Int) (h:ByteArray) (d:Int) (w:World) :
  Calls Tryz.prog 166 #[.agg #[.int .i64 A,.string m,.int .i64 q,.int .i64 D],.string h,.int .i64 d] w fun e J=>e=.returned (.bool (Zcg h d ⟨A,m,q,D⟩))∧Below w.heap.size w J:=by
 cases I:(m.toList == h.toList) with
 | true =>
  have E:Hid (Zcg h d ⟨A,m,q,D⟩=(q != d)):=by
   show _=_;unfold Zcg Zj;simp only [I,Bool.true_and];rfl
  go_enter Tryz.func166,Tryz.ntmps166
  go_wp2_with fail
  go_ret
  exact ⟨by rw [E.out];rfl,Zc _ _⟩
 | false =>
  have E:Hid (Zcg h d ⟨A,m,q,D⟩=false):=by
   show _=_;unfold Zcg Zj;simp only [I,Bool.false_and]
  go_enter Tryz.func166,Tryz.ntmps166
  go_wp2_with fail
  go_ret
  exact ⟨by rw [E.out];rfl,Zc _ _⟩
theorem ZoM (E:Option Addr) (n D:Nat) (h:ByteArray) (d:Int) (ss:List Srv) (w:World) (R:RowAt w (.slice E n D) n (Zv ss)) (Q:ss.length=n) (ab:n≤maxLen) :
  Calls Tryz.prog 140 #[.slice E n D,.string h,.int .i64 d] w fun e w'=>e=.returned (.bool (ss.any (Zcg h d)))∧Below w.heap.size w w':=by
 unfold maxLen at ab;have A:Hid (RowAt w (.slice E n D) n (Zv ss)∧ss.length=n):=⟨R,Q⟩;clear R Q;go_enter Tryz.func140,Tryz.ntmps140
 go_wp2_with fail
 go_loopw [7] (fun i wr=>∃ k:Nat,k≤n∧i=.int .i64 k∧Hid ((∀ y∈ss.take k,Zcg h d y=false)∧Below w.heap.size w wr)) (fun i _=>n - (intOf i).toNat)
 case atStart=>exact ⟨0,Ye _,rfl,by intro y J;simp at J,Yh _ _⟩
 case round =>
  obtain ⟨k,af,rfl,m⟩:=hrel;by_cases ac:k<n
  ·obtain ⟨⟨U,V,X,Y⟩,I⟩:∃ p,ss[k]?=some p:=⟨_,Yb (by rw [A.out.2];exact ac)⟩;obtain ⟨ad,off,aa,ae,N,c1,c2,c3⟩:=ZbA (A.out.1.nx m.out.2) I;subst aa;simp only at N c1 c2 c3;have ag:(k:Int)<(n:Int):=by omega
   have M:=Za I;clear I;go_wp2_with fail
   refine (Zkj U V X Y h d wr).mono ?_;rintro e ah ⟨rfl,O⟩;have L:=Za (Zb m.out.2 O);clear O N c1 c2 c3;cases q:Zcg h d ⟨U,V,X,Y⟩ with
   | true =>
    have HH:Hid (ss.any (Zcg h d)=true):=List.any_eq_true.2 ⟨_,Yo M.out,q⟩;clear q;go_wp2_with fail
    go_ret
    exact ⟨by rw [HH.out];rfl,L.out⟩
   | false =>
    have HN:Hid (∀ y∈ss.take (k+1),Zcg h d y=false):=Zbo m.out.1 M.out q;clear q;go_wp2_with fail
    go_roundw
    case rel=>exact ⟨k+1,by omega,by go_num,HN.out,L.out⟩
    case measure=>simp [intOf];omega
  ·have HM:Hid (ss.any (Zcg h d)=false):=by
    show _=_;rw [List.any_eq_false];intro y J;rw [m.out.1 y (by rw [Yj (by rw [A.out.2];omega)];exact J)];simp
   go_wp2_with fail
   go_ret
   exact ⟨by rw [HM.out];rfl,m.out.2⟩
def ZbC {α:Type} (p:α→Bool) (l:List α):Option Nat:=match l.reverse.findIdx? p with
 | none=>none
 | some j=>some (l.length - 1 - j)
theorem Zgz {α:Type} {p:α→Bool} {l:List α} {k:Nat} {x:α} (m:l[k]?=some x):ZbC p (l.take (k+1))=if p x=true then some k else ZbC p (l.take k):=by
 obtain ⟨h,e⟩:=Yc.1 m;have d:(l.take k).length=k:=by rw [List.length_take];omega
 unfold ZbC;rw [Yk h,e,List.reverse_append,List.reverse_singleton,List.singleton_append,List.findIdx?_cons];cases q:p x with
 | true=>simp only [if_true,List.length_append,d,List.length_singleton];congr 1
 | false =>
  simp only [Bool.false_eq_true,if_false,List.length_append,d,List.length_singleton];cases (l.take k).reverse.findIdx? p with
  | none=>rfl
  | some j=>simp only [Option.map_some];congr 1;omega
theorem Zl7 {α:Type} {p:α→Bool} {l:List α} {k:Nat} (d:ZbC p l=some k):k<l.length:=by
 unfold ZbC at d;split at d
 ·simp at d
 ·rename_i j h
  simp only [Option.some.injEq] at d;have:=(List.findIdx?_eq_some_iff_getElem.1 h).1;simp at this;omega
theorem Zi4 {α:Type} (p:α→Bool) (l:List α):∀ n,n≤l.length→(∀ k,ZbC p (l.take n)=some k→∃ s,l[k]?=some s∧ZQ p (l.take n)=some s)∧(ZbC p (l.take n)=none→ZQ p (l.take n)=none):=by
 intro n;induction n with
 | zero=>intro _;simp [ZbC,ZQ]
 | succ n ih =>
  intro D;obtain ⟨q,A⟩:=ih (by omega);have E:l[n]?=some (l[n]'(by omega)):=Yb (by omega);rw [Zgz E,Zgh E];by_cases d:p (l[n]'(by omega))=true
  ·rw [if_pos d,if_pos d];exact ⟨fun k m=>⟨_,by simp at m;subst m;exact E,rfl⟩,fun h=>by simp at h⟩
  ·rw [if_neg d,if_neg d];exact ⟨q,A⟩
theorem Zgj {α:Type} {p:α→Bool} {l:List α} {k:Nat} (d:ZbC p l=some k):∃ s,l[k]?=some s∧ZQ p l=some s:=by
 have:=(Zi4 p l l.length (Yd _)).1;rw [Yj (Yd _)] at this;exact this k d
theorem Zez {α:Type} {p:α→Bool} {l:List α} (d:ZbC p l=none):ZQ p l=none:=by
 have:=(Zi4 p l l.length (Yd _)).2;rw [Yj (Yd _)] at this;exact this d
def Za5 (pool:ByteArray) (far:Int) (x:Srv):Bool:=(x.client != 0)||!Zcg pool far x
def Ze6 (S:Zh) (pool:ByteArray) (far:Int):Zh:={S with srv:=S.srv.filter (Za5 pool far)}
theorem Zsp (J:Nat) (bz:ByteArray) (d:Int) (S:Zh) (X:ZB) (F:Nat→Prop) (w:World) (h:DeskAt w J S X F) (bg:S.srv.length≤1099511627776) :
  Calls Tryz.prog 137 #[.pointer (some ⟨J,0,none⟩),.string bz,.int .i64 d] w fun e w'=>(∃ x,e=.returned x)∧Moved w w' J (Ze6 S bz d) X F:=by
 obtain ⟨bu,bt,so,sc,wo,wc,bx,bw,br,bm,ag⟩:=h.ex;have aq:J<w.heap.size:=h.lt J h.gp;obtain ⟨Q,aa⟩:∃ n,S.srv.length=n:=⟨_,rfl⟩;have HN:=Za aa;rw [aa] at bg;have HX:=Za ag;have HH:=Za h;have ay:Hid (RowAt w (.slice so Q sc) Q (Zv S.srv)):=by have:=Zf ag.s.own;rw [aa] at this;exact this
 clear h ag aa;go_enter Tryz.func137,Tryz.ntmps137
 go_wp2_with fail
 go_loopw [6,7,8] (fun l i bs wr=>∃ (k m:Nat) (R:Option Addr) (vc:Nat),k≤Q∧m≤k∧i=.int .i64 k∧l=.slice R m vc∧Hid (((S.srv.take k).filter (Za5 bz d)).length=m∧wr.ownsRow w.heap.size 86 4 (.slice R m vc) m (Zv ((S.srv.take k).filter (Za5 bz d)))∧Below w.heap.size w wr)) (fun _ i _ _=>Q - (intOf i).toNat)
 case atStart=>exact ⟨0,0,some ⟨w.heap.size,0,none⟩,0,Ye _,Yd _,rfl,rfl,by simp,Zc9 w _ 4 _ rfl _ (Yd _),Zc _ _⟩
 case round =>
  obtain ⟨k,m,R,vc,bo,bq,rfl,rfl,L⟩:=hrel;have hd:=HX.out.nx aq L.out.2.2;rw [HN.out] at hd;obtain ⟨az,a0,a1,a6,a7,a8⟩:=ZS hd;by_cases bf:k<Q
  ·obtain ⟨⟨q,A,D,b0⟩,af⟩:∃ p,S.srv[k]?=some p:=⟨_,Yb (by rw [HN.out];exact bf)⟩;obtain ⟨bk,off,a9,bl,aj,c1,c2,c3⟩:=ZbA (ay.out.nx L.out.2.2) af;subst a9;simp only at aj c1 c2 c3;have bp:(k:Int)<(Q:Int):=by omega
   have ah:Hid ((S.srv.take (k+1)).filter (Za5 bz d)=(S.srv.take k).filter (Za5 bz d)++if Za5 bz d ⟨q,A,D,b0⟩=true then [(⟨q,A,D,b0⟩:Srv)] else []):=by
    obtain ⟨be,e⟩:=Yc.1 af;show _=_;rw [Yk be,Yr,e];congr 1;cases O:Za5 bz d ⟨q,A,D,b0⟩ <;> simp [O]
   obtain ⟨E,Y⟩:∃ E,E=wr.alloc (bSv q A D b0):=⟨_,rfl⟩;have am:Below wr.heap.size wr E:=by rw [Y];exact Zc _ _
   have N:Hid (E=wr.alloc (bSv q A D b0)∧E.heap[wr.heap.size]?=some (bSv q A D b0)∧Below wr.heap.size wr E):=⟨Y,by rw [Y];exact Zd _ _ rfl,am⟩;clear af hd Y am;go_upto_region 5 with fail
   rw [←N.out.1];clear az a0 a1 a6 a7 a8 aj c1 c2 c3;obtain ⟨ab,ac,b2,b3,ad⟩:=ZaE N.out.2.1;go_cut [35] (fun v bj=>v=.bool (Za5 bz d ⟨q,A,D,b0⟩)∧∃ M,Hid (Below E.heap.size E M)∧M=bj)
   case first =>
    cases au:(b0 != 0) with
    | true =>
     have HK:Hid (Za5 bz d ⟨q,A,D,b0⟩=true):=by
      show _=_;unfold Za5;simp only [au,Bool.true_or]
     go_wp2_with fail
     go_meet
     exact ⟨by rw [HK.out],_,Yh _ _,rfl⟩
    | false =>
     have HK:Hid (Za5 bz d ⟨q,A,D,b0⟩=!Zcg bz d ⟨q,A,D,b0⟩):=by
      show _=_;unfold Za5;simp only [au,Bool.false_or]
     go_wp2_with fail
     refine (Zkj q A D b0 bz d E).mono ?_;rintro e bv ⟨rfl,ak⟩;have U:=Za ak;clear ak;go_wp2_with fail
     go_meet
     exact ⟨by rw [HK.out],_,U.out,rfl⟩
   case rest =>
    obtain ⟨rfl,M,U,rfl⟩:=hcut;have V:Hid (Below w.heap.size w M):=Zb (Zb L.out.2.2 N.out.2.2) U.out;have ao:M.heap[wr.heap.size]?=some (bSv q A D b0):=(U.out.block _ (Ya.1 N.out.2.1).1).trans N.out.2.1;have ai:=Za (Zx (Zx L.out.2.1 N.out.2.2) U.out);clear ab ac b2 b3 ad;obtain ⟨ab,ac,b2,b3,ad⟩:=ZaE ao;clear ao;cases O:Za5 bz d ⟨q,A,D,b0⟩ with
    | false =>
     have b1:Hid ((S.srv.take (k+1)).filter (Za5 bz d)=(S.srv.take k).filter (Za5 bz d)):=by
      show _=_;rw [ah.out,if_neg (by rw [O];simp),List.append_nil]
     clear O;go_wp2_with fail
     go_roundw
     case rel=>exact ⟨k+1,m,R,vc,by omega,by omega,by go_num,rfl,by rw [b1.out];exact ⟨L.out.1,ai.out,V.out⟩⟩
     case measure=>simp [intOf];omega
    | true =>
     have b1:Hid ((S.srv.take (k+1)).filter (Za5 bz d)=(S.srv.take k).filter (Za5 bz d)++[⟨q,A,D,b0⟩]):=by
      show _=_;rw [ah.out,if_pos O]
     clear O;go_wp2_with (at_builtin;refine ZaN 86 40 4 40 _ Zg9 Tryz.underlying40 rfl (by decide) (by decide) rfl (.tmp 36) (.tmp 38) rfl w.heap.size _ m (Zv ((S.srv.take k).filter (Za5 bz d))) rfl (ai.out.alloc _) (some ⟨M.heap.size,0,none⟩) 1 1 [.int .i64 q,.string A,.int .i64 D,.int .i64 b0] rfl rfl (ZaM M [.int .i64 q,.string A,.int .i64 D,.int .i64 b0] _ 1 rfl) (by intro u ar;simp at ar;rcases ar with rfl | rfl | rfl | rfl <;> rfl) (fun h=>by cases h) (by omega) (by simp;have:=V.out.size;omega) ?next)
     case next =>
      intro v' ax ae al;obtain ⟨aw,av,rfl,_⟩:=Zf ae;have K6:Hid (((S.srv.take (k+1)).filter (Za5 bz d)).length=m+1∧ax.ownsRow w.heap.size 86 4 (.slice aw (m+1) av) (m+1) (Zv ((S.srv.take (k+1)).filter (Za5 bz d)))∧Below w.heap.size w ax):=by
       refine ⟨by rw [b1.out];simp [L.out.1],?_,(V.out.alloc V.out.size _).trans al⟩;rw [b1.out];unfold Zv;rw [List.flatMap_append];exact ae
      clear ae al ab ac b2 b3 ad;go_wp2_with fail
      go_roundw
      case rel=>exact ⟨k+1,m+1,aw,av,by omega,by omega,by go_num,rfl,K6.out⟩
      case measure=>simp [intOf];omega
  ·have I:Hid ((S.srv.filter (Za5 bz d)).length=m∧wr.ownsRow w.heap.size 86 4 (.slice R m vc) m (Zv (S.srv.filter (Za5 bz d)))∧Below w.heap.size w wr):=by
    have bh:S.srv.take k=S.srv:=Yj (by rw [HN.out];omega);have:=L.out;rw [bh] at this;exact this
   clear hd;go_wp2_with fail
   refine bodyPost_end (v:=.tuple #[]) (by simp [results,Tryz.results137,go_sem]) rfl ?_;have bc:=HX.out.nx aq I.out.2.2;refine ⟨⟨_,rfl⟩,Zfo (B:=w.heap.size) HX.out HH.out.gp HH.out.lt (S.srv.filter (Za5 bz d)) R vc X.op ?_ ?_ (fun g ap=>.inr ?_) ?_⟩
   ·rw [I.out.1];exact Zm _ _ _ _ _ _ bc
   ·rw [I.out.1];exact Zz I.out.2.1 (fun j bd=>Yf _ _ _ _ (by show j≠J;have:=(I.out.2.1.lt j bd).1;omega))
   ·rw [I.out.1] at ap;exact (I.out.2.1.lt g ap).1
   ·exact (Chg.of_below I.out.2.2).trans (Chg.set (F:=fun y=>y=J∨(Value.slice so S.srv.length sc).ownBlock=some y) wr J 2 _ (.inl rfl)) (fun y bi=>.inl bi)
def ZZ (name:ByteArray) (x:Pl):Bool:=!(x.nm.toList == name.toList)
theorem Zl8 (so:Option Addr) (m sc:Nat) (d:ByteArray) (ps:List Pl) (w:World) (aa:RowAt w (.slice so m sc) m (Ze ps)) (Y:ps.length=m) (ar:m≤1099511627776) :
  Calls Tryz.prog 161 #[.slice so m sc,.string d] w fun e w'=>∃ A vc,e=.returned (.slice A (ps.filter (ZZ d)).length vc)∧w'.ownsRow w.heap.size 82 4 (.slice A (ps.filter (ZZ d)).length vc) (ps.filter (ZZ d)).length (Ze (ps.filter (ZZ d)))∧Below w.heap.size w w':=by
 have N:Hid (RowAt w (.slice so m sc) m (Ze ps)∧ps.length=m):=⟨aa,Y⟩;clear aa Y;go_enter Tryz.func161,Tryz.ntmps161
 go_wp2_with fail
 go_loopw [5,6] (fun l i wr=>∃ (k au:Nat) (A:Option Addr) (vc:Nat),k≤m∧au≤k∧i=.int .i64 k∧l=.slice A au vc∧Hid (((ps.take k).filter (ZZ d)).length=au∧wr.ownsRow w.heap.size 82 4 (.slice A au vc) au (Ze ((ps.take k).filter (ZZ d)))∧Below w.heap.size w wr)) (fun _ i _=>m - (intOf i).toNat)
 case atStart=>exact ⟨0,0,some ⟨w.heap.size,0,none⟩,0,Ye _,Yd _,rfl,rfl,by simp,Zc9 w _ 4 _ rfl _ (Yd _),Zc _ _⟩
 case round =>
  obtain ⟨k,au,A,vc,ao,aq,rfl,rfl,J⟩:=hrel;by_cases aj:k<m
  ·obtain ⟨⟨q,D,E,I⟩,Q⟩:∃ p,ps[k]?=some p:=⟨_,Yb (by rw [N.out.2];exact aj)⟩;obtain ⟨al,off,ag,am,af,c1,c2,c3⟩:=ZJ (N.out.1.nx J.out.2.2) Q;subst ag;simp only at af c1 c2 c3;have ap:(k:Int)<(m:Int):=by omega
   have U:Hid ((ps.take (k+1)).filter (ZZ d)=(ps.take k).filter (ZZ d)++if (ZZ d) ⟨q,D,E,I⟩=true then [(⟨q,D,E,I⟩:Pl)] else []):=by
    obtain ⟨ah,e⟩:=Yc.1 Q;show _=_;rw [Yk ah,Yr,e];congr 1;cases ai:(ZZ d) ⟨q,D,E,I⟩ <;> simp [ai]
   clear Q;cases X:(q.toList == d.toList) with
   | true =>
    have M:Hid ((ps.take (k+1)).filter (ZZ d)=(ps.take k).filter (ZZ d)):=by
     show _=_;have R:¬(ZZ d) ⟨q,D,E,I⟩=true:=fun h=>by rw [show (ZZ d) ⟨q,D,E,I⟩=!(q.toList == d.toList) from rfl,X] at h;simp at h
     rw [U.out,if_neg R];simp
    go_wp2_with fail
    go_roundw
    case rel=>exact ⟨k+1,au,A,vc,by omega,by omega,by go_num,rfl,by rw [M.out];exact J.out⟩
    case measure=>simp [intOf];omega
   | false =>
    have M:Hid ((ps.take (k+1)).filter (ZZ d)=(ps.take k).filter (ZZ d)++[⟨q,D,E,I⟩]):=by
     show _=_;have R:(ZZ d) ⟨q,D,E,I⟩=true:=by show (!(q.toList == d.toList))=true;rw [X];rfl
     rw [U.out,if_pos R]
    go_wp2_with (at_builtin;refine ZaN 82 37 4 40 _ Zpi Tryz.underlying37 rfl (by decide) (by decide) rfl (.tmp 21) (.tmp 26) rfl w.heap.size _ au (Ze ((ps.take k).filter (ZZ d))) rfl (J.out.2.1.alloc _) (some ⟨wr.heap.size,0,none⟩) 1 1 [.string q,.int .i64 D,.int .i64 E,.int .i64 I] rfl rfl (ZaM wr [.string q,.int .i64 D,.int .i64 E,.int .i64 I] _ 1 rfl) (by intro u ab;simp at ab;rcases ab with rfl | rfl | rfl | rfl <;> rfl) (fun h=>by cases h) (by omega) (by simp;have:=J.out.2.2.size;omega) ?next)
    case next =>
     intro v' ae O V;obtain ⟨ad,ac,rfl,_⟩:=Zf O;have K6:Hid (((ps.take (k+1)).filter (ZZ d)).length=au+1∧ae.ownsRow w.heap.size 82 4 (.slice ad (au+1) ac) (au+1) (Ze ((ps.take (k+1)).filter (ZZ d)))∧Below w.heap.size w ae):=by
      refine ⟨by rw [M.out];simp [J.out.1],?_,(J.out.2.2.alloc J.out.2.2.size _).trans V⟩;rw [M.out];rw [Zbe];exact O
     clear O V;go_wp2_with fail
     go_roundw
     case rel=>exact ⟨k+1,au+1,ad,ac,by omega,by omega,by go_num,rfl,K6.out⟩
     case measure=>simp [intOf];omega
  ·have L:Hid ((ps.filter (ZZ d)).length=au∧wr.ownsRow w.heap.size 82 4 (.slice A au vc) au (Ze (ps.filter (ZZ d)))∧Below w.heap.size w wr):=by
    have ak:ps.take k=ps:=Yj (by rw [N.out.2];omega);have:=J.out;rw [ak] at this;exact this
   go_wp2_with fail
   go_ret
   refine ⟨A,vc,?_,?_,L.out.2.2⟩
   ·rw [L.out.1];rfl
   ·rw [L.out.1];exact L.out.2.1
def ZaV (pool:ByteArray):Nat→Zh→Zh
 | 0,S=>S
 | f+1,S=>match ZQ (fun s=>Zj pool s&&Zp 0 s) S.srv with | none=>S | some s=>ZaV pool f (ZR S s.id)
theorem Zkr (E:Nat) (d:ByteArray) (M:Int) (S:Zh) (L:ZB) (F:Nat→Prop) (w:World) (h:DeskAt w E S L F) (av:∀ x∈S.srv,x.id≠0) (ah:S.srv.length≤549755813888) (hN:0≤M∧M≤1000000) :
  Calls Tryz.prog 134 #[.pointer (some ⟨E,0,none⟩),.string d,.int .i64 M] w fun e w'=>(∃ x,e=.returned x)∧Moved w w' E (ZaV d ((Zs (Zj d) S.srv:Int) - M).toNat S) L F:=by
 obtain ⟨bu,bs,so,sc,wo,wc,b6,b0,bl,bi,D⟩:=h.ex;obtain ⟨aa,ab,ac,ad,ae,af⟩:=ZS D.box;have HH:=Za h;have a1:=Za av;have am:=Za (Ze4 so _ sc d S.srv w (Zf D.s.own) rfl (by omega));obtain ⟨q,R⟩:∃ q:Nat,Zs (Zj d) S.srv=q:=⟨_,rfl⟩;have bo:q≤549755813888:=by
  rw [←R];exact Ym (Yp _ _) ah
 have HQ:Hid (Zs (Zj d) S.srv=q∧S.srv.length≤549755813888):=⟨R,ah⟩;rw [R] at am ⊢;obtain ⟨b9,hV⟩:∃ b9:Int,(q:Int) - M=b9:=⟨_,rfl⟩;have aq:-1000000≤b9∧b9≤549755813888:=by omega
 have Y:=Za hV;clear h D av R ah;go_enter Tryz.func134,Tryz.ntmps134
 go_wp2_with fail
 refine am.out.mono ?_;rintro e w1 ⟨rfl,ar⟩;have az:=Za ar;clear ar;go_wp2_with fail
 clear aa ab ac ad ae af;go_loopw [6,7] (fun i br wr=>∃ (v:Int) (T:Zh),v≤549755813888∧-1000000≤v∧i=.int .i64 v∧Hid (Moved w wr E T L F∧(∀ x∈T.srv,x.id≠0)∧T.srv.length≤549755813888∧ZaV d v.toNat T=ZaV d b9.toNat S)) (fun i _ _=>(intOf i).toNat)
 case atStart=>exact ⟨b9,S,aq.2,aq.1,by rw [←Y.out],(Moved.refl HH.out).below az.out,a1.out,HQ.out.2,rfl⟩
 case round =>
  obtain ⟨v,T,bp,bq,rfl,b8⟩:=hrel;by_cases bk:0<v
  ·obtain ⟨al,hd,ax⟩:=b8.out.1.step;obtain ⟨bv,bt,bh,bg,bz,bx,b7,b1,bm,bj,D⟩:=hd.ex;obtain ⟨aa,ab,ac,ad,ae,af⟩:=ZS D.box;have ao:=Za (ZmF bh _ bg d T.srv wr (Zf D.s.own) rfl (by have:=b8.out.2.2.1;omega));have N:Hid (((orS (ZQ (fun s=>Zj d s&&Zp 0 s) T.srv)).id == 0)=(ZQ (fun s=>Zj d s&&Zp 0 s) T.srv).isNone):=by
    show _=_;cases I:ZQ (fun s=>Zj d s&&Zp 0 s) T.srv with
    | none=>rfl
    | some s =>
     have:s∈T.srv:=(List.mem_filter.1 (List.mem_of_getLast? I)).1;have:=b8.out.2.1 s this;simpa [orS] using this
   obtain ⟨⟨m,U,V,X⟩,aj⟩:∃ x,orS (ZQ (fun s=>Zj d s&&Zp 0 s) T.srv)=x:=⟨_,rfl⟩;rw [aj] at ao N;simp only at N;have a9:=Za aj;have HD:=Za hd;have a6:=Za ax;clear hd ax D aj;go_wp2_with fail
   refine ao.out.mono ?_;rintro e ak ⟨rfl,au⟩;obtain ⟨A,Q⟩:∃ A,A=ak.alloc (bSv m U V X):=⟨_,rfl⟩;have ag:Below wr.heap.size wr A:=by rw [Q];exact Zb au (Zc _ _)
   have O:Hid (A=ak.alloc (bSv m U V X)∧A.heap[ak.heap.size]?=some (bSv m U V X)∧Below wr.heap.size wr A):=⟨Q,by rw [Q];exact Zd _ _ rfl,ag⟩;have a0:Hid (DeskAt A E T L al):=HD.out.keep (G:=fun _=>False) (Chg.of_below ag) (fun _ _ h=>h);clear au Q ag aa ab ac ad ae af;go_upto_region 4 with fail
   rw [←O.out.1];obtain ⟨bc,bd,b2,b3,be⟩:=ZaE O.out.2.1;have HE:Hid (∃ r:Nat,v.toNat=r+1∧(v - 1).toNat=r):=⟨v.toNat - 1,by omega,by omega⟩;cases ay:(m == 0) with
   | true =>
    have J:Hid (Moved w A E (ZaV d b9.toNat S) L F):=by
     have I:ZQ (fun s=>Zj d s&&Zp 0 s) T.srv=none:=by
      cases I:ZQ (fun s=>Zj d s&&Zp 0 s) T.srv with
      | none=>rfl
      | some s=>have:=N.out;rw [ay,I] at this;simp at this
     obtain ⟨r,ai,_⟩:=HE.out;have:=b8.out.2.2.2;rw [ai,ZaV,I] at this;rw [←this];exact b8.out.1.below O.out.2.2
    go_wp2_with fail
    refine bodyPost_ret (v:=.tuple #[]) (by simp [results,Tryz.results134,go_sem]) rfl ?_;exact ⟨⟨_,rfl⟩,by first | exact J.out | (rw [Y.out];exact J.out)⟩
   | false =>
    have a7:=Za (Zi7 E m T L al A a0.out (by have:=b8.out.2.2.1;omega));have a8:Hid ((∀ x∈(ZR T m).srv,x.id≠0)∧(ZR T m).srv.length≤549755813888∧ZaV d (v - 1).toNat (ZR T m)=ZaV d b9.toNat S):=by
     refine ⟨fun x D=>b8.out.2.1 x (List.mem_filter.1 D).1,Ym (Yp _ _) b8.out.2.2.1,?_⟩;obtain ⟨r,ai,bf⟩:=HE.out;have:=b8.out.2.2.2;rw [ai,ZaV] at this;rw [bf,←this];cases I:ZQ (fun s=>Zj d s&&Zp 0 s) T.srv with
     | none=>have:=N.out;rw [ay,I] at this;simp at this
     | some s =>
      have ap:=a9.out;rw [I] at ap;simp only;rw [show s.id=m by rw [show s=⟨m,U,V,X⟩ from ap]]
    go_wp2_with fail
    refine a7.out.mono ?_;rintro e bw ⟨⟨x,rfl⟩,aw⟩;have J:=Za (a6.out _ _ _ (Moved.after O.out.2.2 aw));clear aw bc bd b2 b3 be;go_wp2_with fail
    go_roundw
    case rel=>exact ⟨v - 1,ZR T m,by omega,by omega,by go_num,J.out,a8.out⟩
    case measure=>simp [intOf];omega
  ·have J:Hid (Moved w wr E (ZaV d b9.toNat S) L F):=by
    have:=b8.out.2.2.2;rw [show v.toNat=0 by omega,ZaV] at this;rw [←this];exact b8.out.1
   go_wp2_with fail
   refine bodyPost_end (v:=.tuple #[]) (by simp [results,Tryz.results134,go_sem]) rfl ?_;exact ⟨⟨_,rfl⟩,by first | exact J.out | (rw [Y.out];exact J.out)⟩
def Zbg:Nat→Zh→Zh
 | 0,S=>S
 | f+1,S=>match ZQ (Zp 0) S.srv with | none=>S | some s=>Zbg f (ZR S s.id)
theorem Zqk (A:Nat) (L:Int) (S:Zh) (J:ZB) (F:Nat→Prop) (w:World) (h:DeskAt w A S J F) (aq:∀ x∈S.srv,x.id≠0) (ag:S.srv.length≤549755813888) (hN:0≤L∧L≤1000000) :
  Calls Tryz.prog 136 #[.pointer (some ⟨A,0,none⟩),.int .i64 L] w fun e w'=>(∃ x,e=.returned x)∧Moved w w' A (Zbg ((S.srv.length:Int) - L).toNat S) J F:=by
 obtain ⟨bq,bo,so,sc,wo,wc,bx,bv,bh,be,E⟩:=h.ex;obtain ⟨aa,ab,O,ac,ad,ae⟩:=ZS E.box;have HH:=Za h;have ax:=Za aq;obtain ⟨q,R⟩:∃ q:Nat,S.srv.length=q:=⟨_,rfl⟩;have bj:q≤549755813888:=by
  rw [←R];exact ag
 have HQ:Hid (S.srv.length=q∧S.srv.length≤549755813888):=⟨R,ag⟩;rw [R] at O ⊢;obtain ⟨m,hV⟩:∃ m:Int,(q:Int) - L=m:=⟨_,rfl⟩;have ao:-1000000≤m∧m≤549755813888:=by omega
 have Y:=Za hV;clear h E aq R ag;go_enter Tryz.func136,Tryz.ntmps136
 go_wp2_with fail
 clear aa ab O ac ad ae;go_loopw [4,5] (fun i bm wr=>∃ (v:Int) (T:Zh),v≤549755813888∧-1000000≤v∧i=.int .i64 v∧Hid (Moved w wr A T J F∧(∀ x∈T.srv,x.id≠0)∧T.srv.length≤549755813888∧Zbg v.toNat T=Zbg m.toNat S)) (fun i _ _=>(intOf i).toNat)
 case atStart=>exact ⟨m,S,ao.2,ao.1,by rw [←Y.out],Moved.refl HH.out,ax.out,HQ.out.2,rfl⟩
 case round =>
  obtain ⟨v,T,bk,bl,rfl,d⟩:=hrel;by_cases bg:0<v
  ·obtain ⟨ak,hd,au⟩:=d.out.1.step;obtain ⟨br,bp,bd,bc,bu,bt,bz,bw,bi,bf,E⟩:=hd.ex;obtain ⟨aa,ab,O,ac,ad,ae⟩:=ZS E.box;have al:=Za (Zkd bd _ bc T.srv wr (Zf E.s.own) rfl (by have:=d.out.2.2.1;unfold maxLen;omega));have M:Hid (((orS (ZQ (Zp 0) T.srv)).id == 0)=(ZQ (Zp 0) T.srv).isNone):=by
    show _=_;cases D:ZQ (Zp 0) T.srv with
    | none=>rfl
    | some s =>
     have:s∈T.srv:=(List.mem_filter.1 (List.mem_of_getLast? D)).1;have:=d.out.2.1 s this;simpa [orS] using this
   obtain ⟨⟨b0,U,V,X⟩,ai⟩:∃ x,orS (ZQ (Zp 0) T.srv)=x:=⟨_,rfl⟩;rw [ai] at al M;simp only at M;have a1:=Za ai;have HD:=Za hd;have ay:=Za au;clear hd au E ai;go_wp2_with fail
   refine al.out.mono ?_;rintro e aj ⟨rfl,ap⟩;obtain ⟨b1,Q⟩:∃ b1,b1=aj.alloc (bSv b0 U V X):=⟨_,rfl⟩;have af:Below wr.heap.size wr b1:=by rw [Q];exact Zb ap (Zc _ _)
   have N:Hid (b1=aj.alloc (bSv b0 U V X)∧b1.heap[aj.heap.size]?=some (bSv b0 U V X)∧Below wr.heap.size wr b1):=⟨Q,by rw [Q];exact Zd _ _ rfl,af⟩;have aw:Hid (DeskAt b1 A T J ak):=HD.out.keep (G:=fun _=>False) (Chg.of_below af) (fun _ _ h=>h);clear ap Q af aa ab O ac ad ae;go_upto_region 4 with fail
   rw [←N.out.1];obtain ⟨a6,a7,b2,b3,a8⟩:=ZaE N.out.2.1;have HE:Hid (∃ r:Nat,v.toNat=r+1∧(v - 1).toNat=r):=⟨v.toNat - 1,by omega,by omega⟩;cases av:(b0 == 0) with
   | true =>
    have I:Hid (Moved w b1 A (Zbg m.toNat S) J F):=by
     have D:ZQ (Zp 0) T.srv=none:=by
      cases D:ZQ (Zp 0) T.srv with
      | none=>rfl
      | some s=>have:=M.out;rw [av,D] at this;simp at this
     obtain ⟨r,ah,_⟩:=HE.out;have:=d.out.2.2.2;rw [ah,Zbg,D] at this;rw [←this];exact d.out.1.below N.out.2.2
    go_wp2_with fail
    refine bodyPost_ret (v:=.tuple #[]) (by simp [results,Tryz.results136,go_sem]) rfl ?_;exact ⟨⟨_,rfl⟩,by first | exact I.out | (rw [Y.out];exact I.out)⟩
   | false =>
    have az:=Za (Zi7 A b0 T J ak b1 aw.out (by have:=d.out.2.2.1;omega));have a0:Hid ((∀ x∈(ZR T b0).srv,x.id≠0)∧(ZR T b0).srv.length≤549755813888∧Zbg (v - 1).toNat (ZR T b0)=Zbg m.toNat S):=by
     refine ⟨fun x E=>d.out.2.1 x (List.mem_filter.1 E).1,Ym (Yp _ _) d.out.2.2.1,?_⟩;obtain ⟨r,ah,a9⟩:=HE.out;have:=d.out.2.2.2;rw [ah,Zbg] at this;rw [a9,←this];cases D:ZQ (Zp 0) T.srv with
     | none=>have:=M.out;rw [av,D] at this;simp at this
     | some s =>
      have am:=a1.out;rw [D] at am;simp only;rw [show s.id=b0 by rw [show s=⟨b0,U,V,X⟩ from am]]
    go_wp2_with fail
    refine az.out.mono ?_;rintro e bs ⟨⟨x,rfl⟩,ar⟩;have I:=Za (ay.out _ _ _ (Moved.after N.out.2.2 ar));clear ar a6 a7 b2 b3 a8;go_wp2_with fail
    go_roundw
    case rel=>exact ⟨v - 1,ZR T b0,by omega,by omega,by go_num,I.out,a0.out⟩
    case measure=>simp [intOf];omega
  ·have I:Hid (Moved w wr A (Zbg m.toNat S) J F):=by
    have:=d.out.2.2.2;rw [show v.toNat=0 by omega,Zbg] at this;rw [←this];exact d.out.1
   go_wp2_with fail
   refine bodyPost_end (v:=.tuple #[]) (by simp [results,Tryz.results136,go_sem]) rfl ?_;exact ⟨⟨_,rfl⟩,by first | exact I.out | (rw [Y.out];exact I.out)⟩
def ZaB (pool:ByteArray):Nat→Zh→Zh
 | 0,S=>S
 | f+1,S=>ZaB pool f (ZO S (orW (ZQ (Zq pool) S.wts)).client)
theorem ZkK (E:Nat) (d:ByteArray) (I:Int) (S:Zh) (J:ZB) (F:Nat→Prop) (w:World) (h:DeskAt w E S J F) (aa:S.wts.length≤549755813888) (hN:0≤I∧I≤1000000) :
  Calls Tryz.prog 135 #[.pointer (some ⟨E,0,none⟩),.string d,.int .i64 I] w fun e w'=>(∃ x,e=.returned x)∧Moved w w' E (ZaB d ((Zs (Zq d) S.wts:Int) - I).toNat S) J F:=by
 obtain ⟨bg,be,so,sc,wo,wc,bo,bl,a6,az,A⟩:=h.ex;obtain ⟨O,Q,R,U,V,X⟩:=ZS A.box;have HH:=Za h;have af:=Za (Zh4 wo _ wc d S.wts w (Zf A.t.own) rfl (by unfold maxLen;omega));obtain ⟨q,ab⟩:∃ q:Nat,Zs (Zq d) S.wts=q:=⟨_,rfl⟩;have a8:q≤549755813888:=by
  rw [←ab];exact Ym (Yp _ _) aa
 have HQ:=Za aa;rw [ab] at af ⊢;obtain ⟨bq,hV⟩:∃ bq:Int,(q:Int) - I=bq:=⟨_,rfl⟩;have ah:-1000000≤bq∧bq≤549755813888:=by omega
 have HV:=Za hV;clear h A ab aa;go_enter Tryz.func135,Tryz.ntmps135
 go_wp2_with fail
 refine af.out.mono ?_;rintro e w1 ⟨rfl,aw⟩;obtain rfl:=aw.symm;go_wp2_with fail
 clear O Q R U V X;go_loopw [6,7] (fun i bd wr=>∃ (v:Int) (T:Zh),v≤549755813888∧-1000000≤v∧i=.int .i64 v∧Hid (Moved w wr E T J F∧T.wts.length≤549755813888∧ZaB d v.toNat T=ZaB d bq.toNat S)) (fun i _ _=>(intOf i).toNat)
 case atStart=>exact ⟨bq,S,ah.2,ah.1,by rw [←HV.out],Moved.refl HH.out,HQ.out,rfl⟩
 case round =>
  obtain ⟨v,T,a9,bc,rfl,m⟩:=hrel;by_cases a1:0<v
  ·obtain ⟨al,hd,ak⟩:=m.out.1.step;obtain ⟨bh,bf,bj,bi,ay,ax,bp,bm,a7,a0,A⟩:=hd.ex;obtain ⟨O,Q,R,U,V,X⟩:=ZS A.box;have ag:=Za (ZjT ay _ ax d T.wts wr (Zf A.t.own) rfl (by have:=m.out.2.1;unfold maxLen;omega));obtain ⟨⟨D,ae⟩,ac⟩:∃ x,orW (ZQ (Zq d) T.wts)=x:=⟨_,rfl⟩;rw [ac] at ag;have aq:=Za ac;have HD:=Za hd;have am:=Za ak;clear hd ak A ac;go_wp2_with fail
   refine ag.out.mono ?_;rintro e ad ⟨rfl,ai⟩;obtain ⟨br,M⟩:∃ br,br=ad.alloc (bWt D ae):=⟨_,rfl⟩;have Y:Below wr.heap.size wr br:=by rw [M];exact Zb ai (Zc _ _)
   have N:Hid (br=ad.alloc (bWt D ae)∧br.heap[ad.heap.size]?=some (bWt D ae)∧Below wr.heap.size wr br):=⟨M,by rw [M];exact Zd _ _ rfl,Y⟩;have ao:=Za (Zk9 E D T J al br (HD.out.keep (G:=fun _=>False) (Chg.of_below Y) (fun _ _ h=>h)) (by have:=m.out.2.1;omega));have ap:Hid ((ZO T D).wts.length≤549755813888∧ZaB d (v - 1).toNat (ZO T D)=ZaB d bq.toNat S):=by
    refine ⟨Ym (Yp _ _) m.out.2.1,?_⟩;have:=m.out.2.2;rw [show v.toNat=(v - 1).toNat+1 by omega,ZaB,aq.out] at this;exact this
   clear ai M Y O Q R U V X;go_upto_region 4 with fail
   rw [←N.out.1];obtain ⟨ar,au,av⟩:=Zw N.out.2.1;go_wp2_with fail
   refine ao.out.mono ?_;rintro e bk ⟨⟨x,rfl⟩,aj⟩;have L:=Za (am.out _ _ _ (Moved.after N.out.2.2 aj));clear aj ar au av;go_wp2_with fail
   go_roundw
   case rel=>exact ⟨v - 1,ZO T D,by omega,by omega,by go_num,L.out,ap.out⟩
   case measure=>simp [intOf];omega
  ·have L:Hid (Moved w wr E (ZaB d bq.toNat S) J F):=by
    have:=m.out.2.2;rw [show v.toNat=0 by omega,ZaB] at this;rw [←this];exact m.out.1
   go_wp2_with fail
   refine bodyPost_end (v:=.tuple #[]) (by simp [results,Tryz.results135,go_sem]) rfl ?_;exact ⟨⟨_,rfl⟩,by first | exact L.out | (rw [HV.out];exact L.out)⟩
def ZdW (k n:Int) (x:Pl):Pl:=if k=1∨k=8 then {x with sz:=n} else if k=5 then {x with fr:=n} else if k=6 then {x with wt:=n} else x
def Zbr (k:Int) (nm:ByteArray) (n:Int) (ps:List Pl):List Pl:=ZH (ZdW k n (Df.inP ps nm)) (ps.filter (ZZ nm))
abbrev bSt (k:Int) (nm:ByteArray) (n:Int):Obj:=.cells #[.int .i64 k,.string nm,.int .i64 n] 84
abbrev stA (k:Int) (nm:ByteArray) (n:Int):Value:=.agg #[.int .i64 k,.string nm,.int .i64 n]
theorem Zaq {w:World} {g:Nat} {d c1 c2:Value} {t:TypeId} (h:w.heap[g]?=some (.cells #[d,c1,c2] t (0,0))) :
  w.cell? ⟨g,0,none⟩=some d∧w.cell? ⟨g,1,none⟩=some c1∧w.cell? ⟨g,2,none⟩=some c2∧∀ a,w.frozen? ⟨g,a,none⟩=false:=by
 refine ⟨?_,?_,?_,fun a=>?_⟩ <;> simp [World.cell?,World.frozen?,h]
theorem Zmv {k:Int} (a0:k=1∨k=5∨k=6∨k=8) (so:Option Addr) (I sc:Nat) (nm:ByteArray) (n:Int) (ps:List Pl) (w:World) (al:RowAt w (.slice so I sc) I (Ze ps)) (ai:ps.length=I) (bp:I≤1001) :
  Calls Tryz.prog 162 #[.slice so I sc,stA k nm n] w fun e w'=>∃ Y vc,e=.returned (.slice Y (Zbr k nm n ps).length vc)∧w'.ownsRow w.heap.size 82 4 (.slice Y (Zbr k nm n ps).length vc) (Zbr k nm n ps).length (Ze (Zbr k nm n ps))∧Below w.heap.size w w':=by
 obtain ⟨qs,ak⟩:∃ qs,Zbr k nm n ps=qs:=⟨_,rfl⟩;rw [ak];have ay:=Za ak;have HK:=Za a0;clear ak a0;obtain ⟨m,aa⟩:∃ m,m=w.alloc (bSt k nm n):=⟨_,rfl⟩;have af:Below w.heap.size w m:=by rw [aa];exact Zc _ _
 have M:Hid (m=w.alloc (bSt k nm n)∧m.heap[w.heap.size]?=some (bSt k nm n)∧Below w.heap.size w m):=⟨aa,by rw [aa];exact Zd _ _ rfl,af⟩;have bf:=Za (Zl8 so I sc nm ps m (al.nx af) ai (by omega));have bd:=Za (fun u (bi:Below w.heap.size w u)=>Df.cPoolIn so I sc nm ps u (al.nx bi) ai (by unfold maxLen;omega));have bc:Hid ((ps.filter (ZZ nm)).length≤1001):=by
  have:=Yp (ZZ nm) ps;show _≤_;omega
 clear al ai aa af;go_enter Tryz.func162,Tryz.ntmps162
 go_upto_region 1 with fail
 rw [←M.out.1];obtain ⟨R,U,b2,V⟩:=Zaq M.out.2.1;go_wp2_with fail
 refine bf.out.mono ?_;rintro e w1 ⟨Y,vc,rfl,a1,ag⟩;have ax:=Za a1;have av:=Za (Zb M.out.2.2 ag);have am:w1.heap[w.heap.size]?=some (bSt k nm n):=(ag.block _ (Ya.1 M.out.2.1).1).trans M.out.2.1;clear a1 ag R U b2 V;obtain ⟨R,U,b2,V⟩:=Zaq am;have ae:=Za am;clear am;go_wp2_with fail
 refine (bd.out w1 av.out).mono ?_;rintro e d ⟨rfl,ac⟩;obtain ⟨⟨D,O,J,L⟩,N⟩:∃ x,Df.inP ps nm=x:=⟨_,rfl⟩;rw [N];obtain ⟨c,y,ad,aw⟩:∃ (c:Nat) (y:Pl),Hid (qs=ZH y (ps.filter (ZZ nm))∧(∀ u:World,u.heap[d.heap.size]?=some (ZF ⟨D,O,J,L⟩)→(u.setCell ⟨d.heap.size,c,none⟩ (.int .i64 n)).heap[d.heap.size]?=some (ZF y)))∧Hid (k=1∧c=1∨k=5∧c=3∨k=6∧c=2∨k=8∧c=1):=by
  rw [←ay.out];have h:=HK.out;rcases h with rfl | rfl | rfl | rfl
  ·exact ⟨1,⟨D,n,J,L⟩,⟨by unfold Zbr;rw [N];rfl,fun u h=>Zm _ _ _ _ _ _ h⟩,.inl ⟨rfl,rfl⟩⟩
  ·exact ⟨3,⟨D,O,J,n⟩,⟨by unfold Zbr;rw [N];rfl,fun u h=>Zm _ _ _ _ _ _ h⟩,.inr (.inl ⟨rfl,rfl⟩)⟩
  ·exact ⟨2,⟨D,O,n,L⟩,⟨by unfold Zbr;rw [N];rfl,fun u h=>Zm _ _ _ _ _ _ h⟩,.inr (.inr (.inl ⟨rfl,rfl⟩))⟩
  ·exact ⟨1,⟨D,n,J,L⟩,⟨by unfold Zbr;rw [N];rfl,fun u h=>Zm _ _ _ _ _ _ h⟩,.inr (.inr (.inr ⟨rfl,rfl⟩))⟩
 obtain ⟨q,ab⟩:∃ q,q=d.alloc (ZF ⟨D,O,J,L⟩):=⟨_,rfl⟩;have ah:Below w1.heap.size w1 q:=by rw [ab];exact Zb ac (Zc _ _)
 have A:Hid (q=d.alloc (ZF ⟨D,O,J,L⟩)∧q.heap[d.heap.size]?=some (ZF ⟨D,O,J,L⟩)∧Below w1.heap.size w1 q∧q.heap[w.heap.size]?=some (bSt k nm n)∧w.heap.size<d.heap.size):=⟨ab,by rw [ab];exact Zd _ _ rfl,ah,(ah.block _ (Ya.1 ae.out).1).trans ae.out,Yl (Ya.1 ae.out).1 ac.size⟩;have be:Hid (w1.heap.size≤d.heap.size):=ac.size;clear ac ab ah N R U b2 V;go_upto_region 3 with fail
 rw [←A.out.1];obtain ⟨R,U,b2,V⟩:=Zaq A.out.2.2.2.1;obtain ⟨ao,ap,aq,ar,au⟩:=ZaE A.out.2.1;obtain ⟨E,X⟩:∃ E,E=q.setCell ⟨d.heap.size,c,none⟩ (.int .i64 n):=⟨_,rfl⟩;have bo:m.heap.size≤d.heap.size:=by
  have bj:=A.out.2.2.2.2;rw [M.out.1];simp;omega
 have Q:Hid (E=q.setCell ⟨d.heap.size,c,none⟩ (.int .i64 n)∧E.heap[d.heap.size]?=some (ZF y)∧Below w.heap.size w E∧E.ownsRow m.heap.size 82 4 (.slice Y (ps.filter (ZZ nm)).length vc) (ps.filter (ZZ nm)).length (Ze (ps.filter (ZZ nm)))):=by
  have bg:=Zx ax.out A.out.2.2.1;refine ⟨X,by rw [X];exact ad.out.2 _ A.out.2.1,by rw [X];exact (Zb av.out A.out.2.2.1).setCell (Nat.le_of_lt A.out.2.2.2.2) _,?_⟩;rw [X];exact Zz bg (fun j bh=>Yf _ _ _ _ (fun e=>by
   have bk:=(ax.out.lt j bh).2;have bl:j=d.heap.size:=e;have bm:=be.out;omega))
 have a9:=Za (Zgp y Y vc _ (ps.filter (ZZ nm)) E (Zf Q.out.2.2.2) rfl bc.out);clear X;obtain h:=aw.out;clear aw HK ay;rcases h with ⟨rfl,rfl⟩ | ⟨rfl,rfl⟩ | ⟨rfl,rfl⟩ | ⟨rfl,rfl⟩
 all_goals
  go_upto_region 11 with fail
  rw [←Q.out.1];clear R U b2 V ao ap aq ar au;obtain ⟨ao,ap,aq,ar,au⟩:=ZaE Q.out.2.1;go_wp2_with fail
  refine a9.out.mono ?_;rintro e a8 ⟨v,rfl,aj,az⟩;obtain ⟨a7,a6,rfl,_⟩:=Zf aj;have KF:Hid (a8.ownsRow w.heap.size 82 4 (.slice a7 qs.length a6) qs.length (Ze qs)∧Below w.heap.size w a8):=by
   rw [ad.out.1];exact ⟨Zr aj Q.out.2.2.1.size,Zb Q.out.2.2.1 az⟩
  clear aj az ao ap aq ar au;go_wp2_with fail
  go_ret
  exact ⟨a7,a6,by rw [ad.out.1];rfl,KF.out⟩
end Lw
end Go.Proofs.YtmgkcbdlfodjmaaGreatDoor
