import Derived.Test.YtmgkcbdlfodjmaaGreatDoorBqH
import Derived.Laws.CopyOwn
set_option maxRecDepth 100000
set_option maxHeartbeats 16000000
namespace Go.Proofs.YtmgkcbdlfodjmaaGreatDoor
open Go.RowKit
namespace Pr
theorem Zb {a b c:World} (d:Below a.heap.size a b) (k:Below b.heap.size b c):Below a.heap.size a c:=d.trans (k.mono d.size)
theorem Zc (w:World) (o:Obj):Below w.heap.size w (w.alloc o):=(Yh _ _).alloc (Yd _) o
theorem Zda {w wr:World} {o:Obj} (d:Below (w.alloc o).heap.size (w.alloc o) wr):w.heap.size<wr.heap.size:=by
 have:=d.size;rw [World.size_alloc] at this;omega
theorem ZcG:∀ (x y:List UInt8),(Op.bytesLess y x||y == x)=!(Op.bytesLess x y)
 | [],[]=>by simp [Op.bytesLess]
 | [],b :: y=>by simp [Op.bytesLess]
 | a :: x,[]=>by simp [Op.bytesLess]
 | a :: x,b :: y=>by
  have ih:=ZcG x y;simp only [Op.bytesLess];by_cases q:a<b
  ·have m:¬b<a:=by simp [UInt8.lt_iff_toNat_lt] at *;omega
   have d:¬b=a:=by intro h;subst h;simp at q
   simp [q,m,d]
  ·by_cases m:b<a
   ·have d:¬a=b:=by intro h;subst h;simp at m
    simp [q,m,d]
   ·have d:a=b:=by
     rw [←UInt8.toNat_inj];simp [UInt8.lt_iff_toNat_lt] at *;omega
    subst d;simpa [q] using ih
def lt (a b:ByteArray):Bool:=Op.bytesLess a.toList b.toList
theorem Zjo (a b:ByteArray):(Op.bytesLess a.toList b.toList||a.toList == b.toList)=!(lt b a):=ZcG _ _
theorem Zic (s:ByteArray) (h:ZW s=true):lt ⟨#[]⟩ s=true:=by
 simp [ZW] at h;unfold lt;rw [ByteArray.toList_eq s];have e:s.data.toList.length=s.size:=by rw [Array.length_toList];rfl
 have d:(ByteArray.mk #[]).toList=[]:=ByteArray.toList_mk [];rw [d];cases m:s.data.toList with
 | nil=>rw [m] at e;simp at e;omega
 | cons a r=>rfl
structure Pl where
 nm:ByteArray
 sz:Int
 wt:Int
 fr:Int
def plOk (p:Pl):Bool:=ZW p.nm&&inB 0 20 p.sz&&inB 0 20 p.wt&&inB 0 999 p.fr
def chk (l:ByteArray):List Pl→Bool
 | []=>true
 | p :: r=>plOk p&&lt l p.nm&&chk p.nm r
def tabOk (b:Int) (ps:List Pl):Bool:=inB 1 99 b&&decide (ps.length≤6)&&chk ⟨#[]⟩ ps
def Pools (w:World) (ao:Option Addr) (ps:List Pl):Prop:=
 ps=[]∨∃ b off,ao=some ⟨b,off,none⟩∧b<w.heap.size∧∀ i p,ps[i]?=some p →
  w.cell? ⟨b,off+i*4,none⟩=some (.string p.nm)∧w.cell? ⟨b,off+i*4+1,none⟩=some (.int .i64 p.sz) ∧
  w.cell? ⟨b,off+i*4+2,none⟩=some (.int .i64 p.wt)∧w.cell? ⟨b,off+i*4+3,none⟩=some (.int .i64 p.fr)∧p.nm.size≤maxLen
theorem Pools.nx {w q:World} {h:Option Addr} {ps:List Pl} (d:Pools w h ps) (hb:Below w.heap.size w q):Pools q h ps:=by
 rcases d with d | ⟨b,off,A,m,D⟩
 ·exact .inl d
 ·refine .inr ⟨b,off,A,Yl m hb.size,fun i p E=>?_⟩;have:=D i p E;simp only [hb.cell (p:=⟨b,_,none⟩) m];exact this
theorem Pools.at {w:World} {h:Option Addr} {ps:List Pl} (d:Pools w h ps) {k:Nat} {p:Pl} (m:ps[k]?=some p) :
  ∃ b off,h=some ⟨b,off,none⟩∧b<w.heap.size ∧
  w.cell? ⟨b,off+k*4,none⟩=some (.string p.nm)∧w.cell? ⟨b,off+k*4+1,none⟩=some (.int .i64 p.sz) ∧
  w.cell? ⟨b,off+k*4+2,none⟩=some (.int .i64 p.wt)∧w.cell? ⟨b,off+k*4+3,none⟩=some (.int .i64 p.fr)∧p.nm.size≤maxLen:=by
 rcases d with d | ⟨b,off,q,A,D⟩
 ·subst d;simp at m
 ·exact ⟨b,off,q,A,D k p m⟩
theorem Zas {α:Type} {l:List α} {k:Nat} {p:α} (d:l[k]?=some p):l.drop k=p :: l.drop (k+1):=by
 obtain ⟨h,rfl⟩:=Yc.1 d;exact List.drop_eq_getElem_cons h
theorem Zgi (nm:ByteArray) (sz wt fr:Int) (w:World) (m:nm.size≤maxLen) :
  Calls Tryz.prog 170 #[.agg #[.string nm,.int .i64 sz,.int .i64 wt,.int .i64 fr]] w fun e d=>e=.returned (.bool (plOk ⟨nm,sz,wt,fr⟩))∧Below w.heap.size w d:=by
 cases h:ZW nm
 ·go_enter Tryz.func170,Tryz.ntmps170
  go_wp2_with fail
  refine (Za6 _ _ m).mono ?_;rintro e d ⟨rfl,rfl⟩;go_wp2_with fail
  go_ret
  exact ⟨Zu (by simp [plOk,h]),Zc _ _⟩
 cases q:inB 0 20 sz
 ·go_enter Tryz.func170,Tryz.ntmps170
  go_wp2_with fail
  refine (Za6 _ _ m).mono ?_;rintro e d ⟨rfl,rfl⟩;go_wp2_with fail
  refine (Zen _ _).mono ?_;rintro e d ⟨rfl,rfl⟩;go_wp2_with fail
  go_ret
  exact ⟨Zu (by simp [plOk,h,q]),Zc _ _⟩
 cases A:inB 0 20 wt
 ·go_enter Tryz.func170,Tryz.ntmps170
  go_wp2_with fail
  refine (Za6 _ _ m).mono ?_;rintro e d ⟨rfl,rfl⟩;go_wp2_with fail
  refine (Zen _ _).mono ?_;rintro e d ⟨rfl,rfl⟩;go_wp2_with fail
  refine (Zfn _ _).mono ?_;rintro e d ⟨rfl,rfl⟩;go_wp2_with fail
  go_ret
  exact ⟨Zu (by simp [plOk,h,q,A]),Zc _ _⟩
 go_enter Tryz.func170,Tryz.ntmps170
 go_wp2_with fail
 refine (Za6 _ _ m).mono ?_;rintro e d ⟨rfl,rfl⟩;go_wp2_with fail
 refine (Zen _ _).mono ?_;rintro e d ⟨rfl,rfl⟩;go_wp2_with fail
 refine (Zfn _ _).mono ?_;rintro e d ⟨rfl,rfl⟩;go_wp2_with fail
 refine (Zip _ _).mono ?_;rintro e d ⟨rfl,rfl⟩;go_wp2_with fail
 go_ret
 exact ⟨Zu (by simp [plOk,h,q,A]),Zc _ _⟩
theorem ZfL (b:Int) (m:Option Addr) (c:Nat) (ps:List Pl) (w:World) (hps:Pools w m ps) (Y:ps.length≤maxLen) :
  Calls Tryz.prog 144 #[.agg #[.int .i64 b,.slice m ps.length c]] w fun e N=>e=.returned (.bool (tabOk b ps))∧Below w.heap.size w N:=by
 unfold maxLen at Y;cases hb:inB 1 99 b
 ·go_enter Tryz.func144,Tryz.ntmps144
  go_wp2_with fail
  refine (Zdp _ _).mono ?_;rintro e N ⟨rfl,rfl⟩;go_wp2_with fail
  go_ret
  exact ⟨Zu (by simp [tabOk,hb]),Zc _ _⟩
 obtain ⟨n,R⟩:∃ n,ps.length=n:=⟨_,rfl⟩;rw [R] at Y ⊢;by_cases af:6<n
 ·go_enter Tryz.func144,Tryz.ntmps144
  go_wp2_with fail
  refine (Zdp _ _).mono ?_;rintro e N ⟨rfl,rfl⟩;go_wp2_with fail
  go_ret
  exact ⟨Zu (by simp [tabOk,hb];omega),Zc _ _⟩
 have ag:decide ((6:Int)<(n:Int))=false:=by simp;omega
 have Q:Hid (ps.length=n):=R;clear R;have HP:Hid (Pools (w.alloc (.cells #[.int .i64 b,.slice m n c] 39)) m ps):=hps.nx (Zc _ _);clear hps;go_enter Tryz.func144,Tryz.ntmps144
 go_wp2_with fail
 refine (Zdp _ _).mono ?_;rintro e N ⟨rfl,rfl⟩;go_wp2_with fail
 go_loopw [3,4] (fun l i wr=>∃ (k:Nat) (h:ByteArray),k≤n∧i=.int .i64 k∧l=.string h∧Hid (chk h (ps.drop k)=chk ⟨#[]⟩ ps) ∧
   Below (w.alloc (.cells #[.int .i64 b,.slice m n c] 39)).heap.size (w.alloc (.cells #[.int .i64 b,.slice m n c] 39)) wr) (fun _ i _=>n - (intOf i).toNat)
 case atStart=>exact ⟨0,_,Ye _,rfl,rfl,rfl,Yh _ _⟩
 case round =>
  obtain ⟨k,h,ah,rfl,rfl,I,A⟩:=hrel;have J:wr.cell? ⟨w.heap.size,1,none⟩=some (.slice m n c):=by
   refine (A.cell (p:=⟨w.heap.size,1,none⟩) (by simp)).trans ?_;simp
  have X:Below w.heap.size w wr:=Zb (Zc _ _) A;have O:Hid (Below w.heap.size w wr):=X;clear X;by_cases ae:k<n
  ·obtain ⟨⟨nm,sz,wt,fr⟩,U⟩:∃ p,ps[k]?=some p:=⟨_,Yb (by rw [Q.out];exact ae)⟩;obtain ⟨q,off,rfl,V,D,c1,c2,c3,M⟩:=(HP.out.nx A).at U;have hd:Hid (ps.drop k=⟨nm,sz,wt,fr⟩ :: ps.drop (k+1)):=Zas U;clear U;simp only at D c1 c2 c3 M;cases E:plOk ⟨nm,sz,wt,fr⟩
   ·go_wp2_with fail
    refine (Zgi _ _ _ _ _ M).mono ?_;rintro e w1 ⟨rfl,d⟩;rw [E];go_wp2_with fail
    go_ret
    exact ⟨Zu (by simp [tabOk,hb];intro _;rw [←I.out,hd.out];simp [chk,E]),Zb O.out d⟩
   ·cases L:lt h nm
    ·go_wp2_with fail
     refine (Zgi _ _ _ _ _ M).mono ?_;rintro e w1 ⟨rfl,d⟩;rw [E];have aa:w1.cell? ⟨q,off+k*4,none⟩=some (.string nm):=(d.cell (p:=⟨q,off+k*4,none⟩) V).trans D;have ab:w1.cell? ⟨w.heap.size,1,none⟩=some (.slice (some ⟨q,off,none⟩) n c):=(d.cell (p:=⟨w.heap.size,1,none⟩) (Zda A)).trans J;clear D c1 c2 c3 J;have ad:(Op.bytesLess nm.toList h.toList||nm.toList == h.toList)=true:=by rw [Zjo,L];rfl
     go_wp2_with fail
     go_ret
     exact ⟨Zu (by simp [tabOk,hb];intro _;rw [←I.out,hd.out];simp [chk,L]),Zb O.out d⟩
    ·go_wp2_with fail
     refine (Zgi _ _ _ _ _ M).mono ?_;rintro e w1 ⟨rfl,d⟩;rw [E];have aa:w1.cell? ⟨q,off+k*4,none⟩=some (.string nm):=(d.cell (p:=⟨q,off+k*4,none⟩) V).trans D;have ab:w1.cell? ⟨w.heap.size,1,none⟩=some (.slice (some ⟨q,off,none⟩) n c):=(d.cell (p:=⟨w.heap.size,1,none⟩) (Zda A)).trans J;clear D c1 c2 c3 J;have ad:(Op.bytesLess nm.toList h.toList||nm.toList == h.toList)=false:=by rw [Zjo,L];rfl
     go_wp2_with fail
     go_roundw
     case rel=>exact ⟨k+1,nm,by omega,by go_num,rfl,by
      show chk nm (ps.drop (k+1))=_;rw [←I.out,hd.out];simp [chk,E,L],Zb A d⟩
     case measure=>simp [intOf];omega
  ·go_wp2_with fail
   go_ret
   exact ⟨Zu (by
    have ac:ps.drop k=[]:=List.drop_of_length_le (by rw [Q.out];omega);have:=I.out;rw [ac] at this;simp [tabOk,hb,←this,chk,Q.out];omega),O.out⟩
theorem ZgP (b:Int) (J:Option Addr) (c:Nat) (ps:List Pl) (w:World) (hps:Pools w J ps) (ab:ps.length≤maxLen) :
  Calls Tryz.prog 101 #[.agg #[.int .i64 b,.slice J ps.length c]] w fun e d=>e=.returned (.bool (tabOk b ps))∧Below w.heap.size w d:=by
 unfold maxLen at ab;cases hb:inB 1 99 b
 ·go_enter Tryz.func101,Tryz.ntmps101
  go_wp2_with fail
  refine (ZN _ _ _ _).mono ?_;rintro e d ⟨rfl,rfl⟩;rw [hb];go_wp2_with fail
  go_ret
  exact ⟨Zu (by simp [tabOk,hb]),Zc _ _⟩
 obtain ⟨n,U⟩:∃ n,ps.length=n:=⟨_,rfl⟩;rw [U] at ab ⊢;by_cases av:6<n
 ·go_enter Tryz.func101,Tryz.ntmps101
  go_wp2_with fail
  refine (ZN _ _ _ _).mono ?_;rintro e d ⟨rfl,rfl⟩;rw [hb];go_wp2_with fail
  go_ret
  exact ⟨Zu (by simp [tabOk,hb];omega),Zc _ _⟩
 have aw:decide ((6:Int)<(n:Int))=false:=by simp;omega
 have R:Hid (ps.length=n):=U;clear U;have V:Hid (Pools (w.alloc (.cells #[.int .i64 b,.slice J n c] 39)) J ps):=hps.nx (Zc _ _);clear hps;go_enter Tryz.func101,Tryz.ntmps101
 go_wp2_with fail
 refine (ZN _ _ _ _).mono ?_;rintro e d ⟨rfl,rfl⟩;rw [hb];go_wp2_with fail
 go_loopw [4] (fun i wr=>∃ (k:Nat) (I:ByteArray),k≤n∧i=.int .i64 k∧Hid (k=0∧I=⟨#[]⟩∨0<k∧∃ q,ps[k - 1]?=some q∧I=q.nm)∧Hid (chk I (ps.drop k)=chk ⟨#[]⟩ ps) ∧
   Below (w.alloc (.cells #[.int .i64 b,.slice J n c] 39)).heap.size (w.alloc (.cells #[.int .i64 b,.slice J n c] 39)) wr) (fun i _=>n - (intOf i).toNat)
 case atStart=>exact ⟨0,⟨#[]⟩,Ye _,rfl,.inl ⟨rfl,rfl⟩,rfl,Yh _ _⟩
 case round =>
  obtain ⟨k,I,az,rfl,HL,a9,D⟩:=hrel;have al:wr.cell? ⟨w.heap.size,1,none⟩=some (.slice J n c):=by
   refine (D.cell (p:=⟨w.heap.size,1,none⟩) (by simp)).trans ?_;simp
  have M:Hid (Below w.heap.size w wr):=Zb (Zc _ _) D;by_cases aq:k<n
  ·obtain ⟨⟨nm,sz,wt,fr⟩,Q⟩:∃ p,ps[k]?=some p:=⟨_,Yb (by rw [R.out];exact aq)⟩;obtain ⟨N,off,rfl,ak,ag,c1,c2,c3,E⟩:=(V.out.nx D).at Q;have hd:Hid (ps.drop k=⟨nm,sz,wt,fr⟩ :: ps.drop (k+1)):=Zas Q;have X:Hid (ps[k]?=some ⟨nm,sz,wt,fr⟩):=Q;clear Q;simp only at ag c1 c2 c3 E;have ay:∀ o,(wr.alloc o).cell? ⟨w.heap.size,1,none⟩=some (.slice (some ⟨N,off,none⟩) n c):=fun o=>((Zc wr o).cell (p:=⟨w.heap.size,1,none⟩) (Zda D)).trans al
   have a8:=Zda D;cases h:ZW nm
   ·go_wp2_with fail
    refine (ZbW _ _ E).mono ?_;rintro e d ⟨rfl,rfl⟩;rw [h];go_wp2_with fail
    refine (ZN _ _ _ _).mono ?_;rintro e d ⟨rfl,rfl⟩;go_wp2_with fail
    refine (ZN _ _ _ _).mono ?_;rintro e d ⟨rfl,rfl⟩;go_wp2_with fail
    refine (ZN _ _ _ _).mono ?_;rintro e d ⟨rfl,rfl⟩;go_wp2_with fail
    go_quiet (fail)
    go_wp2_with fail
    go_ret
    exact ⟨Zu (by simp [tabOk,hb];intro _;rw [←a9.out,hd.out];simp [chk,plOk,h]),Zb M.out (below_drewN (Zc _ _) _)⟩
   cases m:inB 0 20 sz
   ·go_wp2_with fail
    refine (ZbW _ _ E).mono ?_;rintro e d ⟨rfl,rfl⟩;rw [h];go_wp2_with fail
    refine (ZN _ _ _ _).mono ?_;rintro e d ⟨rfl,rfl⟩;rw [m];go_wp2_with fail
    refine (ZN _ _ _ _).mono ?_;rintro e d ⟨rfl,rfl⟩;go_wp2_with fail
    refine (ZN _ _ _ _).mono ?_;rintro e d ⟨rfl,rfl⟩;go_wp2_with fail
    go_quiet (fail)
    go_wp2_with fail
    go_ret
    exact ⟨Zu (by simp [tabOk,hb];intro _;rw [←a9.out,hd.out];simp [chk,plOk,m]),Zb M.out (below_drewN (Zc _ _) _)⟩
   cases A:inB 0 20 wt
   ·go_wp2_with fail
    refine (ZbW _ _ E).mono ?_;rintro e d ⟨rfl,rfl⟩;rw [h];go_wp2_with fail
    refine (ZN _ _ _ _).mono ?_;rintro e d ⟨rfl,rfl⟩;rw [m];go_wp2_with fail
    refine (ZN _ _ _ _).mono ?_;rintro e d ⟨rfl,rfl⟩;rw [A];go_wp2_with fail
    refine (ZN _ _ _ _).mono ?_;rintro e d ⟨rfl,rfl⟩;go_wp2_with fail
    go_quiet (fail)
    go_wp2_with fail
    go_ret
    exact ⟨Zu (by simp [tabOk,hb];intro _;rw [←a9.out,hd.out];simp [chk,plOk,A]),Zb M.out (below_drewN (Zc _ _) _)⟩
   cases L:inB 0 999 fr
   ·go_wp2_with fail
    refine (ZbW _ _ E).mono ?_;rintro e d ⟨rfl,rfl⟩;rw [h];go_wp2_with fail
    refine (ZN _ _ _ _).mono ?_;rintro e d ⟨rfl,rfl⟩;rw [m];go_wp2_with fail
    refine (ZN _ _ _ _).mono ?_;rintro e d ⟨rfl,rfl⟩;rw [A];go_wp2_with fail
    refine (ZN _ _ _ _).mono ?_;rintro e d ⟨rfl,rfl⟩;rw [L];go_wp2_with fail
    go_quiet (fail)
    go_wp2_with fail
    go_ret
    exact ⟨Zu (by simp [tabOk,hb];intro _;rw [←a9.out,hd.out];simp [chk,plOk,L]),Zb M.out (below_drewN (Zc _ _) _)⟩
   rcases HL.out with ⟨Y,ap⟩ | ⟨a0,q,ad,ac⟩
   ·subst ap;have ao:decide ((0:Int)<(k:Int))=false:=by simp;omega
    have a1:decide (0<k)=false:=by simp;omega
    have au:Hid (k=0):=Y;clear Y;have aa:=Zic nm h;have ae:Hid (lt ⟨#[]⟩ nm=true):=aa;clear aa;go_wp2_with fail
    refine (ZbW _ _ E).mono ?_;rintro e d ⟨rfl,rfl⟩;rw [h];go_wp2_with fail
    refine (ZN _ _ _ _).mono ?_;rintro e d ⟨rfl,rfl⟩;rw [m];go_wp2_with fail
    refine (ZN _ _ _ _).mono ?_;rintro e d ⟨rfl,rfl⟩;rw [A];go_wp2_with fail
    refine (ZN _ _ _ _).mono ?_;rintro e d ⟨rfl,rfl⟩;rw [L];go_wp2_with fail
    go_quiet (fail)
    go_wp2_with fail
    go_roundw
    case rel=>exact ⟨k+1,nm,by omega,by go_num,.inr ⟨Nat.succ_pos _,_,X.out,rfl⟩,by
     show chk nm (ps.drop (k+1))=_;rw [←a9.out,hd.out];simp [chk,plOk,h,m,A,L,ae.out],Zb D (below_drewN (Zc _ _) _)⟩
    case measure=>simp [intOf];omega
   have ax:∀ o,(wr.alloc o).cell? ⟨N,off+(k - 1)*4,none⟩=some (.string I):=by
    intro o;obtain ⟨af,ar,ai,_,ah,_⟩:=(V.out.nx D).at ad;obtain ⟨rfl,rfl⟩:N=af∧off=ar:=by simpa using ai
    rw [ac];exact ((Zc wr o).cell (p:=⟨N,off+(k - 1)*4,none⟩) ak).trans ah
   clear ad ac;have ao:decide ((0:Int)<(k:Int))=true:=by simp;omega
   have a6:(0:Int)≤(k:Int) - 1:=by omega
   have a7:(k:Int) - 1<(n:Int):=by omega
   cases O:lt I nm
   ·have am:Op.bytesLess I.toList nm.toList=false:=O;go_wp2_with fail
    refine (ZbW _ _ E).mono ?_;rintro e d ⟨rfl,rfl⟩;rw [h];go_wp2_with fail
    refine (ZN _ _ _ _).mono ?_;rintro e d ⟨rfl,rfl⟩;rw [m];go_wp2_with fail
    refine (ZN _ _ _ _).mono ?_;rintro e d ⟨rfl,rfl⟩;rw [A];go_wp2_with fail
    refine (ZN _ _ _ _).mono ?_;rintro e d ⟨rfl,rfl⟩;rw [L];go_wp2_with fail
    go_quiet (fail)
    go_wp2_with fail
    go_ret
    exact ⟨Zu (by simp [tabOk,hb];intro _;rw [←a9.out,hd.out];simp [chk,O]),Zb M.out (below_drewN (Zc _ _) _)⟩
   ·have am:Op.bytesLess I.toList nm.toList=true:=O;go_wp2_with fail
    refine (ZbW _ _ E).mono ?_;rintro e d ⟨rfl,rfl⟩;rw [h];go_wp2_with fail
    refine (ZN _ _ _ _).mono ?_;rintro e d ⟨rfl,rfl⟩;rw [m];go_wp2_with fail
    refine (ZN _ _ _ _).mono ?_;rintro e d ⟨rfl,rfl⟩;rw [A];go_wp2_with fail
    refine (ZN _ _ _ _).mono ?_;rintro e d ⟨rfl,rfl⟩;rw [L];go_wp2_with fail
    go_quiet (fail)
    go_wp2_with fail
    go_roundw
    case rel=>exact ⟨k+1,nm,by omega,by go_num,.inr ⟨Nat.succ_pos _,_,X.out,rfl⟩,by
     show chk nm (ps.drop (k+1))=_;rw [←a9.out,hd.out];simp [chk,plOk,h,m,A,L,O],Zb D (below_drewN (Zc _ _) _)⟩
    case measure=>simp [intOf];omega
  ·go_wp2_with fail
   go_ret
   exact ⟨Zu (by
    have aj:ps.drop k=[]:=List.drop_of_length_le (by rw [R.out];omega);have:=a9.out;rw [aj] at this;simp [tabOk,hb,←this,chk,R.out];omega),M.out⟩
abbrev Zi (b:Int) (ao:Option Addr) (n c:Nat):Obj:=.cells #[.int .i64 b,.slice ao n c] 39
theorem Zhg (b:Int) (d h:Option Addr) (n c1 c2:Nat) (ps:List Pl) (w:World) (E:Pools w d ps) (I:Pools w h ps) (D:ps.length=n) (U:n≤maxLen) :
  Calls Tryz.prog 34 #[.agg #[.int .i64 b,.slice d n c1],.agg #[.int .i64 b,.slice h n c2]] w fun e w'=>e=.returned (.bool true)∧Below w.heap.size w w':=by
 unfold maxLen at U;have L:Hid (ps.length=n):=D;clear D;have A:Hid (Pools ((w.alloc (Zi b d n c1)).alloc (Zi b h n c2)) d ps∧Pools ((w.alloc (Zi b d n c1)).alloc (Zi b h n c2)) h ps):=
  ⟨(E.nx (Zc _ _)).nx (Zc _ _),(I.nx (Zc _ _)).nx (Zc _ _)⟩
 clear E I;go_enter Tryz.func34,Tryz.ntmps34
 go_wp2
 go_loopw [5] (fun i wr=>∃ (k:Nat),k≤n∧i=.int .i64 k ∧
   Below ((w.alloc (Zi b d n c1)).alloc (Zi b h n c2)).heap.size ((w.alloc (Zi b d n c1)).alloc (Zi b h n c2)) wr) (fun i _=>n - (intOf i).toNat)
 case atStart=>exact ⟨0,Ye _,rfl,Yh _ _⟩
 case round =>
  obtain ⟨k,ae,rfl,m⟩:=hrel;have ac:wr.cell? ⟨w.heap.size,1,none⟩=some (.slice d n c1):=by
   refine (m.cell (p:=⟨w.heap.size,1,none⟩) (by simp;omega)).trans ?_;simp
  have ad:wr.cell? ⟨w.heap.size+1,1,none⟩=some (.slice h n c2):=by
   refine (m.cell (p:=⟨w.heap.size+1,1,none⟩) (by simp)).trans ?_;simp
  have J:Hid (Below w.heap.size w wr):=Zb (Zb (Zc _ _) (Zc _ _)) m;by_cases V:k<n
  ·obtain ⟨⟨nm,sz,wt,fr⟩,q⟩:∃ p,ps[k]?=some p:=⟨_,Yb (by rw [L.out];exact V)⟩;obtain ⟨aa,off,rfl,Q,M,c1,c2,c3,X⟩:=(A.out.1.nx m).at q;obtain ⟨ab,ag,rfl,R,N,O,d2,d3,Y⟩:=(A.out.2.nx m).at q;clear q X Y Q R;simp only at M c1 c2 c3 N O d2 d3;have af:(k:Int)<(n:Int):=by omega
   go_wp2
   go_quiet (fail)
   go_wp2
   go_roundw
   case rel=>exact ⟨k+1,by omega,by go_num,below_drewN m _⟩
   case measure=>simp [intOf];omega
  ·go_wp2
   go_ret
   exact ⟨rfl,J.out⟩
abbrev Zdz:ByteArray:=⟨#[102,111,114,101,105,103,110]⟩
def fgn:Pl:=⟨Zdz,7,7,7⟩
abbrev ZcN:Obj:=.cells #[.string Zdz,.int .i64 7,.int .i64 7,.int .i64 7] 82
theorem Zh7 (w:World) :
  Calls Tryz.prog 99 #[] w fun e d=>e=.returned (.agg #[.string Zdz,.int .i64 7,.int .i64 7,.int .i64 7])∧w.alloc ZcN=d:=by
 go_enter Tryz.func99,Tryz.ntmps99
 go_wp2
 exact bodyPost_ret (v:=.agg #[.string Zdz,.int .i64 7,.int .i64 7,.int .i64 7]) (by simp [results,Tryz.results99,go_sem]) rfl ⟨rfl,rfl⟩
theorem Zk4 {P:Program} (w:World) (J sT ad E:TypeId) (size:Nat) (g D R:Nat) (so:Option Addr) (af ac:Nat) (m:Array Value) (t:TypeId) (d:List Value)
  (Q:P.underlying J=some (.slice E)) (N:(P.info? E).map (·.size)=some size) (ae:0<size)
  (L:w.heap[g]?=some (.cells m t (0,0))) (aa:af≤D) (M:d.length=af*size)
  (I:d=[]∨∃ a,so=some a∧∀ j v,d[j]?=some v→w.cell? (a.add j)=some v) (X:d.length≤m.size) (V:∀ v∈d,v.oneCell'=true) :
  (Builtin.copy_ #[J,sT] ad #[.slice (some ⟨g,0,none⟩) D R,.slice so af ac]).run P w =
   .ok (goInt af) (w.setRow g (d++m.toList.drop d.length).toArray):=by
 have ab:Nat.min af D=af:=Nat.min_eq_left aa;have O:=run_storeCells_at P g 0 t d 0 m w L (by simpa using X) V;simp only [Nat.add_zero,List.take_zero,List.nil_append,Nat.zero_add] at O;cases A:P.info? E with
 | none=>simp [A] at N
 | some i =>
  have Y:i.size=size:=by simpa [A] using N
  rcases I with U | ⟨a,rfl,I⟩
  ·subst U;have:af=0:=by
    rcases Nat.mul_eq_zero.1 (show af*size=0 by simpa using M.symm) with h | h
    ·exact h
    ·omega
   subst this;have q:∀ (x:Addr),(loadCells x 0).run P w=.ok #[] w:=fun x=>by simpa using run_loadCells_list (P:=P) w x [] (by simp)
   have e:w.setRow g ([]++m.toList.drop ([]:List Value).length).toArray=w:=by
    simpa using setRow_self w g m t (0,0) L
   rw [e];cases so <;> simp [Builtin.copy_,run_underlying Q,Builtin.lenOf,Builtin.firstCells,sizeOf,typeInfo,A,storeCells,q]
  ·have q:=run_loadCells_list (P:=P) w a d I;rw [M] at q;simp [Builtin.copy_,run_underlying Q,Builtin.lenOf,Builtin.firstCells,sizeOf,typeInfo,A,Y,ab,q,O]
def Zb4:List Pl→List Value
 | []=>[]
 | p :: r=>.string p.nm :: .int .i64 p.sz :: .int .i64 p.wt :: .int .i64 p.fr :: Zb4 r
theorem Zd1:∀ ps:List Pl,(Zb4 ps).length=ps.length*4
 | []=>rfl
 | p :: r=>by simp [Zb4,Zd1 r];omega
theorem Zmj:∀ (ps:List Pl),∀ v∈Zb4 ps,v.oneCell'=true
 | [],v,d=>by simp [Zb4] at d
 | p :: r,v,d=>by
  simp [Zb4] at d;rcases d with rfl | rfl | rfl | rfl | d
  ·rfl
  ·rfl
  ·rfl
  ·rfl
  ·exact Zmj r v d
theorem ZjK:∀ (ps:List Pl) (i:Nat) (p:Pl),ps[i]?=some p→(Zb4 ps)[i*4]?=some (.string p.nm)∧(Zb4 ps)[i*4+1]?=some (.int .i64 p.sz)∧(Zb4 ps)[i*4+2]?=some (.int .i64 p.wt)∧(Zb4 ps)[i*4+3]?=some (.int .i64 p.fr)
 | [],i,p,d=>by simp at d
 | m :: r,0,p,d=>by simp at d;subst d;simp [Zb4]
 | m :: r,i+1,p,d=>by
  have ih:=ZjK r i p (by simpa using d);have h:(i+1)*4=i*4+4:=by omega
  rw [h];simp only [Zb4];exact ih
theorem ZnW {w:World} {b off:Nat} (ps:List Pl) (h:∀ i p,ps[i]?=some p →
  w.cell? ⟨b,off+i*4,none⟩=some (.string p.nm)∧w.cell? ⟨b,off+i*4+1,none⟩=some (.int .i64 p.sz) ∧
  w.cell? ⟨b,off+i*4+2,none⟩=some (.int .i64 p.wt)∧w.cell? ⟨b,off+i*4+3,none⟩=some (.int .i64 p.fr)) :
  ∀ j v,(Zb4 ps)[j]?=some v→w.cell? ⟨b,off+j,none⟩=some v:=by
 intro j v d;have N:j<ps.length*4:=by
  rw [←Zd1];exact (Yc.1 d).1
 have M:j / 4<ps.length:=by omega
 obtain ⟨p,L⟩:∃ p,ps[j / 4]?=some p:=⟨_,Yb M⟩;obtain ⟨m,q,f2,A⟩:=ZjK ps _ _ L;obtain ⟨D,E,I,J⟩:=h _ _ L;have O:j % 4=0∨j % 4=1∨j % 4=2∨j % 4=3:=by omega
 rcases O with O | O | O | O
 ·have e:j / 4*4=j:=by omega
  rw [e] at m D;rw [m] at d;rw [D,←d]
 ·have e:j / 4*4+1=j:=by omega
  rw [e] at q;rw [q] at d;rw [Nat.add_assoc,e] at E;rw [E,←d]
 ·have e:j / 4*4+2=j:=by omega
  rw [e] at f2;rw [f2] at d;rw [Nat.add_assoc,e] at I;rw [I,←d]
 ·have e:j / 4*4+3=j:=by omega
  rw [e] at A;rw [A] at d;rw [Nat.add_assoc,e] at J;rw [J,←d]
theorem Pools.cells {w:World} {h:Option Addr} {ps:List Pl} (d:Pools w h ps):Zb4 ps=[]∨∃ a,h=some a∧∀ j v,(Zb4 ps)[j]?=some v→w.cell? (a.add j)=some v:=by
 rcases d with d | ⟨b,off,q,I,A⟩
 ·subst d;exact .inl rfl
 ·refine .inr ⟨_,q,fun j v D=>?_⟩;have:=ZnW (w:=w) (b:=b) (off:=off) ps (fun i p E=>by obtain ⟨m,a2,a3,a4,_⟩:=A i p E;exact ⟨m,a2,a3,a4⟩) j v D;have e:(⟨b,off,none⟩:Addr).add j=⟨b,off+j,none⟩:=by unfold Addr.add;split <;> simp_all
  rw [e];exact this
def Row4 (w:World) (g cap:Nat) (ps:List Pl):Prop:=
 g<w.heap.size∧(∀ a,a<cap*4→∃ v,w.cell? ⟨g,a,none⟩=some v)∧(∀ a,w.frozen? ⟨g,a,none⟩=false)∧∀ i p,ps[i]?=some p →
  w.cell? ⟨g,i*4,none⟩=some (.string p.nm)∧w.cell? ⟨g,i*4+1,none⟩=some (.int .i64 p.sz) ∧
  w.cell? ⟨g,i*4+2,none⟩=some (.int .i64 p.wt)∧w.cell? ⟨g,i*4+3,none⟩=some (.int .i64 p.fr)
abbrev st4 (w:World) (g a:Nat) (v0 v1 v2 v3:Value):World:=
 (((w.setCell ⟨g,a,none⟩ v0).setCell ⟨g,a+1,none⟩ v1).setCell ⟨g,a+2,none⟩ v2).setCell ⟨g,a+3,none⟩ v3
theorem ZbM (w:World) (g a b:Nat) (v:Value) (d:a≠b):(w.setCell ⟨g,a,none⟩ v).cell? ⟨g,b,none⟩=w.cell? ⟨g,b,none⟩:=
 World.cell?_setCell_other _ _ _ _ (by intro e;injection e with h e2 e3;exact d e2)
theorem Zeh (w:World) (g a b:Nat) (d A m q:Value) (h:b<a∨a+4≤b):(st4 w g a d A m q).cell? ⟨g,b,none⟩=w.cell? ⟨g,b,none⟩:=by
 unfold st4;rw [ZbM _ _ _ _ _ (by omega),ZbM _ _ _ _ _ (by omega),ZbM _ _ _ _ _ (by omega),ZbM _ _ _ _ _ (by omega)]
theorem Zs0 (w:World) (g a:Nat) (d h m q N A D E:Value) (I:w.cell? ⟨g,a,none⟩=some N) (J:w.cell? ⟨g,a+1,none⟩=some A) (L:w.cell? ⟨g,a+2,none⟩=some D) (M:w.cell? ⟨g,a+3,none⟩=some E) :
  (st4 w g a d h m q).cell? ⟨g,a,none⟩=some d∧(st4 w g a d h m q).cell? ⟨g,a+1,none⟩=some h∧(st4 w g a d h m q).cell? ⟨g,a+2,none⟩=some m∧(st4 w g a d h m q).cell? ⟨g,a+3,none⟩=some q:=by
 unfold st4;refine ⟨?_,?_,?_,?_⟩
 ·rw [ZbM _ _ _ _ _ (by omega),ZbM _ _ _ _ _ (by omega),ZbM _ _ _ _ _ (by omega)];exact World.cell?_setCell_same _ _ _ I
 ·rw [ZbM _ _ _ _ _ (by omega),ZbM _ _ _ _ _ (by omega)];exact World.cell?_setCell_same _ _ _ (u:=A) (by rw [ZbM _ _ _ _ _ (by omega)];exact J)
 ·rw [ZbM _ _ _ _ _ (by omega)];exact World.cell?_setCell_same _ _ _ (u:=D) (by rw [ZbM _ _ _ _ _ (by omega),ZbM _ _ _ _ _ (by omega)];exact L)
 ·exact World.cell?_setCell_same _ _ _ (u:=E) (by rw [ZbM _ _ _ _ _ (by omega),ZbM _ _ _ _ _ (by omega),ZbM _ _ _ _ _ (by omega)];exact M)
theorem Zpn {B:Nat} {w0 w:World} {g:Nat} (h:Below B w0 w) (d:B≤g) (a:Nat) (m q A D:Value):Below B w0 (st4 w g a m q A D):=
 (((h.setCell d _).setCell d _).setCell d _).setCell d _
theorem Row4.nx {w m:World} {g J:Nat} {ps:List Pl} (h:Row4 w g J ps) (hb:Below w.heap.size w m):Row4 m g J ps:=by
 obtain ⟨d,q,A,D⟩:=h;refine ⟨Yl d hb.size,fun a E=>?_,fun a=>?_,fun i p I=>?_⟩
 ·rw [hb.cell (p:=⟨g,a,none⟩) d];exact q a E
 ·rw [hb.frozen (p:=⟨g,a,none⟩) d];exact A a
 ·simp only [hb.cell (p:=⟨g,_,none⟩) d];exact D i p I
theorem Row4.put {w:World} {g q:Nat} {ps:List Pl} (h:Row4 w g q ps) (V:ps.length<q) (nm:ByteArray) (sz wt fr:Int) :
  Row4 (st4 w g (ps.length*4) (.string nm) (.int .i64 sz) (.int .i64 wt) (.int .i64 fr)) g q (ps++[⟨nm,sz,wt,fr⟩]):=by
 obtain ⟨D,X,E,I⟩:=h;obtain ⟨O,A⟩:=X (ps.length*4) (by omega);obtain ⟨Q,c1⟩:=X (ps.length*4+1) (by omega);obtain ⟨R,c2⟩:=X (ps.length*4+2) (by omega);obtain ⟨U,c3⟩:=X (ps.length*4+3) (by omega);have m:=Zs0 w g (ps.length*4) (.string nm) (.int .i64 sz) (.int .i64 wt) (.int .i64 fr) O Q R U A c1 c2 c3;refine ⟨by simpa [st4] using D,fun a J=>?_,fun a=>by simpa [st4] using E a,fun i p d=>?_⟩
 ·by_cases hb:a<ps.length*4∨ps.length*4+4≤a
  ·rw [Zeh _ _ _ _ _ _ _ _ hb];exact X a J
  ·have N:a=ps.length*4∨a=ps.length*4+1∨a=ps.length*4+2∨a=ps.length*4+3:=by omega
   rcases N with rfl | rfl | rfl | rfl
   ·exact ⟨_,m.1⟩
   ·exact ⟨_,m.2.1⟩
   ·exact ⟨_,m.2.2.1⟩
   ·exact ⟨_,m.2.2.2⟩
 ·by_cases L:i<ps.length
  ·rw [List.getElem?_append_left L] at d;rw [Zeh _ _ _ _ _ _ _ _ (by omega),Zeh _ _ _ _ _ _ _ _ (by omega),Zeh _ _ _ _ _ _ _ _ (by omega),Zeh _ _ _ _ _ _ _ _ (by omega)];exact I i p d
  ·have M:i=ps.length:=by
    have:=(Yc.1 d).1;simp at this;omega
   subst M;rw [List.getElem?_append_right (Yd _)] at d;simp at d;subst d;exact m
theorem Zoe {w:World} {g h:Nat} {ps:List Pl} {rest:List Value} {t:TypeId} (d:w.heap[g]?=some (.cells (Zb4 ps++rest).toArray t (0,0))) (J:h*4≤(Zb4 ps).length+rest.length):Row4 w g h ps:=by
 have E:g<w.heap.size:=(Ya.1 d).1;have m:∀ a,w.cell? ⟨g,a,none⟩=(Zb4 ps++rest)[a]?:=fun a=>by simp [World.cell?,d]
 refine ⟨E,fun a I=>⟨(Zb4 ps++rest)[a]'(by simp;omega),?_⟩,fun a=>by simp [World.frozen?,d],fun i p q=>?_⟩
 ·rw [m,Yb]
 ·have M:i<ps.length:=(Yc.1 q).1;have L:=Zd1 ps;obtain ⟨A,D,a2,a3⟩:=ZjK ps i p q;simp only [m];rw [List.getElem?_append_left (by omega),List.getElem?_append_left (by omega),List.getElem?_append_left (by omega),List.getElem?_append_left (by omega)];exact ⟨A,D,a2,a3⟩
theorem ZhE (w:World) (g b a c:Nat) (v:Value) (h:g≠b):(w.setCell ⟨g,a,none⟩ v).cell? ⟨b,c,none⟩=w.cell? ⟨b,c,none⟩:=
 World.cell?_setCell_other _ _ _ _ (by intro e;injection e with d e2 e3;exact h d)
theorem Zog {w d:World} {g D:Nat} {qs:List Pl} (h:Row4 w g D qs) (E:∀ a,d.cell? ⟨g,a,none⟩=w.cell? ⟨g,a,none⟩) (J:w.heap.size≤d.heap.size) (I:∀ (i:Nat) (p:Pl),qs[i]?=some p→p.nm.size≤maxLen) :
  Pools d (some ⟨g,0,none⟩) qs:=by
 refine .inr ⟨g,0,rfl,Yl h.1 J,fun i p m=>?_⟩;obtain ⟨q,A,a2,a3⟩:=h.2.2.2 i p m;simp only [Nat.zero_add,E];exact ⟨q,A,a2,a3,I i p m⟩
theorem Zjt (w:World) (o:Obj) {k:Nat} (d:k=w.heap.size):(w.alloc o).heap[k]?=some o:=by
 subst d;show (w.heap.push o)[w.heap.size]?=some o;simp
theorem ZoV:(Tryz.prog.info? 82).map (fun i=>(i.zero,i.size,i.bytes))=some (some (.agg #[.string ⟨#[]⟩,.int .i64 0,.int .i64 0,.int .i64 0]),4,40):=by kernel_rfl
theorem Zgo (b:Int) (A:Option Addr) (c n:Nat) (ps:List Pl) (w:World) (hps:Pools w A ps) (N:ps.length=n) (bc:n*40≤140737488351232) :
  Calls Tryz.prog 60 #[.agg #[.int .i64 b,.slice A n c]] w fun e X=>∃ g,e=.returned (.agg #[.int .i64 b,.slice (some ⟨g,0,none⟩) n (n+2)]) ∧
   Pools X (some ⟨g,0,none⟩) (ps++[fgn,fgn])∧Below w.heap.size w X:=by
 obtain ⟨V,M,aq,aa,Q⟩:=info_parts ZoV;have bd:∀ u:World,(Instr.makeSlice 37 (.int .i64 ((n:Int)+2)) (.int .i64 ((n:Int)+2))).run Tryz.prog u =
   .ok (.slice (some ⟨u.heap.size,0,none⟩) (n+2) (n+2)) (u.alloc (.cells (madeCells #[.string ⟨#[]⟩,.int .i64 0,.int .i64 0,.int .i64 0] ((n+2)*4)) 82)):=fun u=>by
  have h:=run_make (P:=Tryz.prog) u 37 82 V _ Tryz.underlying37 M aq .i64 .i64 ((n:Int)+2) ((n:Int)+2) (by omega) (Int.le_refl _) (by rw [Q];omega) (by omega);have e:((n:Int)+2).toNat=n+2:=by omega
  rw [e] at h;simpa [aa,Value.cells] using h
 obtain ⟨d,m⟩:∃ d,d=((w.alloc (Zi b A n c)).alloc (Zi 0 none 0 0)).alloc (.cells (madeCells #[.string ⟨#[]⟩,.int .i64 0,.int .i64 0,.int .i64 0] ((n+2)*4)) 82):=⟨_,rfl⟩;have I:Below w.heap.size w d:=by rw [m];exact Zb (Zb (Zc _ _) (Zc _ _)) (Zc _ _)
 have ab:d.heap.size=w.heap.size+3:=by rw [m];simp
 have U:d.heap[w.heap.size+1+1]?=some (.cells (madeCells #[.string ⟨#[]⟩,.int .i64 0,.int .i64 0,.int .i64 0] ((n+2)*4)) 82 (0,0)):=by
  rw [m];exact Zjt _ _ (by simp)
 obtain ⟨bf,ap,HG,q,Q⟩:∃ bf,(Builtin.copy_ #[37,37] 3 #[.slice (some ⟨w.heap.size+1+1,0,none⟩) (n+2) (n+2),.slice A n c]).run Tryz.prog d=.ok (goInt n) bf ∧
   Hid (bf.heap[w.heap.size+1+1]?=some (.cells (Zb4 ps++(madeCells #[.string ⟨#[]⟩,.int .i64 0,.int .i64 0,.int .i64 0] ((n+2)*4)).toList.drop (Zb4 ps).length).toArray 82 (0,0)))∧Below (w.heap.size+1+1) d bf∧bf.heap.size=d.heap.size:=by
  refine ⟨_,Zk4 d 37 37 3 82 4 (w.heap.size+1+1) (n+2) (n+2) A n c _ 82 (Zb4 ps) Tryz.underlying37 (by rw [M];simp [aa]) (by decide) U (by omega) (by rw [Zd1,N]) (hps.nx I).cells (by rw [Zd1,N,size_madeCells];omega) (Zmj ps),?_,?_,?_⟩
  ·exact setRow_heap d _ _ _ _ _ U
  ·exact below_setRow (Yh _ _) (Yd _) _
  ·simp [World.setRow]
 rw [m] at ap;have J:Hid (ps.length=n∧d.heap.size=w.heap.size+3∧bf.heap.size=d.heap.size∧Below w.heap.size w d∧Below (w.heap.size+1+1) d bf):=⟨N,ab,Q,I,q⟩;have ak:bf.cell? ⟨w.heap.size,1,none⟩=some (.slice A n c):=by
  rw [q.cell (p:=⟨w.heap.size,1,none⟩) (show w.heap.size<_ by omega),m,((Zc _ _).cell (p:=⟨w.heap.size,1,none⟩) (by simp;omega)),((Zc _ _).cell (p:=⟨w.heap.size,1,none⟩) (by simp))];simp
 have aj:bf.cell? ⟨w.heap.size,0,none⟩=some (.int .i64 b):=by
  rw [q.cell (p:=⟨w.heap.size,0,none⟩) (show w.heap.size<_ by omega),m,((Zc _ _).cell (p:=⟨w.heap.size,0,none⟩) (by simp;omega)),((Zc _ _).cell (p:=⟨w.heap.size,0,none⟩) (by simp))];simp
 have R:Hid (bf.cell? ⟨w.heap.size+1,0,none⟩=some (.int .i64 0)∧bf.cell? ⟨w.heap.size+1,1,none⟩=some (.slice none 0 0)∧∀ a,bf.frozen? ⟨w.heap.size+1,a,none⟩=false):=by
  refine ⟨?_,?_,fun a=>?_⟩
  ·rw [q.cell (p:=⟨w.heap.size+1,0,none⟩) (show w.heap.size+1<_ by omega),m,((Zc _ _).cell (p:=⟨w.heap.size+1,0,none⟩) (by simp))];simp
  ·rw [q.cell (p:=⟨w.heap.size+1,1,none⟩) (show w.heap.size+1<_ by omega),m,((Zc _ _).cell (p:=⟨w.heap.size+1,1,none⟩) (by simp))];simp
  ·rw [q.frozen (p:=⟨w.heap.size+1,a,none⟩) (show w.heap.size+1<_ by omega),m,((Zc _ _).frozen (p:=⟨w.heap.size+1,a,none⟩) (by simp))];simp
 clear N ab Q I q m U;go_enter Tryz.func60,Tryz.ntmps60
 go_wp2_with fail
 go_loopw [4] (fun i wr=>∃ (k:Nat),n≤k∧k≤n+2∧i=.int .i64 k∧Hid (Row4 wr (w.heap.size+1+1) (n+2) (ps++List.replicate (k - n) fgn))∧Below (w.heap.size+1+1) bf wr) (fun i _=>n+2 - (intOf i).toNat)
 case atStart =>
  refine ⟨n,Yd _,by omega,rfl,?_,Yh _ _⟩;rw [Nat.sub_self,List.replicate_zero,List.append_nil];exact Zoe HG.out (by rw [Zd1,J.out.1];simp [size_madeCells];omega)
 case round =>
  obtain ⟨k,a8,a9,rfl,E,D⟩:=hrel;have ay:wr.cell? ⟨w.heap.size,0,none⟩=some (.int .i64 b):=(D.cell (p:=⟨w.heap.size,0,none⟩) (show w.heap.size<_ by omega)).trans aj;have az:wr.cell? ⟨w.heap.size,1,none⟩=some (.slice A n c):=(D.cell (p:=⟨w.heap.size,1,none⟩) (show w.heap.size<_ by omega)).trans ak;have Y:Hid ((ps++List.replicate (k - n) fgn).length=k):=by
   show _=_;rw [List.length_append,J.out.1,List.length_replicate];omega
  by_cases am:k<n+2
  ·obtain ⟨ac,ad,ae,af,a0,a1,a6,a7⟩:∃ ac ad ae af,(wr.alloc ZcN).cell? ⟨w.heap.size+1+1,k*4,none⟩=some ac∧(wr.alloc ZcN).cell? ⟨w.heap.size+1+1,k*4+1,none⟩=some ad∧(wr.alloc ZcN).cell? ⟨w.heap.size+1+1,k*4+2,none⟩=some ae∧(wr.alloc ZcN).cell? ⟨w.heap.size+1+1,k*4+3,none⟩=some af:=by
    have L:=(E.out.nx (Zc wr ZcN)).2.1;obtain ⟨au,ai⟩:=L (k*4) (by omega);obtain ⟨av,c1⟩:=L (k*4+1) (by omega);obtain ⟨aw,c2⟩:=L (k*4+2) (by omega);obtain ⟨ax,c3⟩:=L (k*4+3) (by omega);exact ⟨au,av,aw,ax,ai,c1,c2,c3⟩
   have z:∀ a,(wr.alloc ZcN).frozen? ⟨w.heap.size+1+1,a,none⟩=false:=(E.out.nx (Zc wr ZcN)).2.2.1;have ag:Hid (Row4 (st4 (wr.alloc ZcN) (w.heap.size+1+1) (k*4) (.string Zdz) (.int .i64 7) (.int .i64 7) (.int .i64 7)) (w.heap.size+1+1) (n+2) (ps++List.replicate (k+1 - n) fgn)):=by
    have h:=(E.out.nx (Zc wr ZcN)).put (by rw [Y.out];exact am) Zdz 7 7 7;rw [Y.out] at h;have e:k+1 - n=(k - n)+1:=by omega
    rw [e,List.replicate_succ',←List.append_assoc];exact h
   have al:w.heap.size+1+1≤wr.heap.size:=Nat.le_of_lt E.out.1;go_wp2_with fail
   refine (Zh7 _).mono ?_;rintro e X ⟨rfl,rfl⟩;go_wp2_with fail
   go_roundw
   case rel=>exact ⟨k+1,by omega,by omega,by go_num,ag,Zpn (D.alloc al _) (Yd _) _ _ _ _ _⟩
   case measure=>simp [intOf];omega
  ·obtain rfl:k=n+2:=by omega
   have V:wr.cell? ⟨w.heap.size+1,0,none⟩=some (.int .i64 0):=(D.cell (p:=⟨w.heap.size+1,0,none⟩) (show w.heap.size+1<_ by omega)).trans R.out.1;have ar:wr.cell? ⟨w.heap.size+1,1,none⟩=some (.slice none 0 0):=(D.cell (p:=⟨w.heap.size+1,1,none⟩) (show w.heap.size+1<_ by omega)).trans R.out.2.1;have z:∀ a,wr.frozen? ⟨w.heap.size+1,a,none⟩=false:=fun a=>(D.frozen (p:=⟨w.heap.size+1,a,none⟩) (show w.heap.size+1<_ by omega)).trans (R.out.2.2 a)
   have be:(n:Int)≤(n:Int)+2:=by omega
   have ah:Hid (Row4 wr (w.heap.size+1+1) (n+2) (ps++[fgn,fgn])):=by
    have h:=E.out;have e:n+2 - n=2:=by omega
    rw [e] at h;exact h
   go_wp2_with fail
   go_region
   all_goals go_wp2_with fail
   refine bodyPost_ret (v:=.agg #[.int .i64 b,.slice (some ⟨w.heap.size+1+1,0,none⟩) n (n+2)]) (by simp [results,Tryz.results60,go_sem,V,ar]) rfl ⟨w.heap.size+1+1,rfl,?_,?_⟩
   ·refine Zog ah.out (fun a=>?_) (by simp) (fun i p O=>?_)
    ·rw [World.cell?_drew,ZhE _ _ _ _ _ _ (by omega),ZhE _ _ _ _ _ _ (by omega)]
    ·by_cases M:i<ps.length
     ·rw [List.getElem?_append_left M] at O;obtain ⟨_,_,_,_,_,_,_,_,h⟩:=hps.at O;exact h
     ·rw [List.getElem?_append_right (by omega)] at O;have:p=fgn:=by
       have ao:=Yo O;simpa using ao
      subst this;simp [fgn,maxLen,ByteArray.size]
   ·have I:=J.out.2.2.2.1;have q:=J.out.2.2.2.2;exact ((((I.trans (q.mono (by omega))).trans (D.mono (by omega))).setCell (Nat.le_succ _) _).setCell (Nat.le_succ _) _).drew
theorem Za {p:Prop} (d:p):Hid p:=d
theorem Zgd (b:Int) (g:Nat) (aw:Option Addr) (c n:Nat) (ps:List Pl) (w:World) (hps:Pools w aw ps) (N:Pools w (some ⟨g,0,none⟩) (ps++[fgn,fgn])) (ab:ps.length=n) (ao:n*40≤140737488351232) :
  Calls Tryz.prog 63 #[.agg #[.int .i64 b,.slice (some ⟨g,0,none⟩) n (n+2)],.agg #[.int .i64 b,.slice aw n c]] w fun e w'=>e=.returned (.bool true)∧Below w.heap.size w w':=by
 have J:Hid (ps.length=n):=ab;clear ab;have L:Hid (Pools w aw ps∧Pools w (some ⟨g,0,none⟩) ps∧Pools w (some ⟨g,0,none⟩) (ps++[fgn,fgn])):=by
  refine ⟨hps,?_,N⟩;rcases N with h | ⟨M,off,ae,af,ag⟩
  ·simp at h
  ·exact .inr ⟨M,off,ae,af,fun i p D=>ag i p (by rw [List.getElem?_append_left (Yc.1 D).1];exact D)⟩
 clear hps N;obtain ⟨d,m⟩:∃ d,d=(w.alloc (Zi b (some ⟨g,0,none⟩) n (n+2))).alloc (Zi b aw n c):=⟨_,rfl⟩;have E:Below w.heap.size w d:=by rw [m];exact Zb (Zc _ _) (Zc _ _)
 have ac:d.heap.size=w.heap.size+2:=by rw [m];simp
 have Y:d.cell? ⟨w.heap.size,1,none⟩=some (.slice (some ⟨g,0,none⟩) n (n+2)):=by rw [m];simp
 have aa:d.cell? ⟨w.heap.size+1,1,none⟩=some (.slice aw n c):=by rw [m];simp
 have O:=Zhg b (some ⟨g,0,none⟩) aw n (n+2) c ps d (L.out.2.1.nx E) (L.out.1.nx E) J.out (by unfold maxLen;omega);rw [m] at O;have R:=Za O;clear O;have q:Hid (d=(w.alloc (Zi b (some ⟨g,0,none⟩) n (n+2))).alloc (Zi b aw n c)∧Below w.heap.size w d∧d.heap.size=w.heap.size+2∧d.cell? ⟨w.heap.size,1,none⟩=some (.slice (some ⟨g,0,none⟩) n (n+2))∧d.cell? ⟨w.heap.size+1,1,none⟩=some (.slice aw n c)):=⟨m,E,ac,Y,aa⟩;clear m E ac Y aa;go_enter Tryz.func63,Tryz.ntmps63
 go_wp2_with fail
 refine R.out.mono ?_;rintro e w1 ⟨rfl,A⟩;rw [←q.out.1] at A;have ai:=q.out.2.2.1;have aj:w1.cell? ⟨w.heap.size,1,none⟩=some (.slice (some ⟨g,0,none⟩) n (n+2)):=(A.cell (p:=⟨w.heap.size,1,none⟩) (show w.heap.size<_ by omega)).trans q.out.2.2.2.1;have d2:w1.cell? ⟨w.heap.size+1,1,none⟩=some (.slice aw n c):=(A.cell (p:=⟨w.heap.size+1,1,none⟩) (show w.heap.size+1<_ by omega)).trans q.out.2.2.2.2;have ad:Hid (Below w.heap.size w w1∧w.heap.size+2≤w1.heap.size):=⟨Zb q.out.2.1 A,by have:=A.size;omega⟩;clear A ai q R;go_wp2_with fail
 go_loopw [7] (fun i wr=>∃ (k:Nat),n≤k∧k≤n+2∧i=.int .i64 k∧Below w1.heap.size w1 wr) (fun i _=>n+2 - (intOf i).toNat)
 case atStart=>exact ⟨n,Yd _,by omega,rfl,Yh _ _⟩
 case round =>
  obtain ⟨k,ak,al,rfl,X⟩:=hrel;have Q:Hid (Below w.heap.size w wr):=Zb ad.out.1 X;by_cases ap:k<n+2
  ·have D:(ps++[fgn,fgn])[k]?=some fgn:=by
    rw [List.getElem?_append_right (by rw [J.out];omega),J.out];have:k - n=0∨k - n=1:=by omega
    rcases this with h | h <;> rw [h] <;> rfl
   obtain ⟨M,off,V,I,U,c1,c2,c3,ah⟩:=(L.out.2.2.nx Q.out).at D;obtain ⟨rfl,rfl⟩:g=M∧0=off:=by simpa using V
   clear D V ah;simp only [Nat.zero_add,fgn] at U c1 c2 c3;have am:(k:Int)<(n:Int)+2:=by omega
   have aq:(wr.alloc ZcN).cell? ⟨g,k*4,none⟩=some (.string Zdz):=((Zc wr ZcN).cell (p:=⟨g,k*4,none⟩) I).trans U;have ar:(wr.alloc ZcN).cell? ⟨g,k*4+1,none⟩=some (.int .i64 7):=((Zc wr ZcN).cell (p:=⟨g,k*4+1,none⟩) I).trans c1;have au:(wr.alloc ZcN).cell? ⟨g,k*4+2,none⟩=some (.int .i64 7):=((Zc wr ZcN).cell (p:=⟨g,k*4+2,none⟩) I).trans c2;have av:(wr.alloc ZcN).cell? ⟨g,k*4+3,none⟩=some (.int .i64 7):=((Zc wr ZcN).cell (p:=⟨g,k*4+3,none⟩) I).trans c3;go_wp2_with fail
   go_region_with (go_at_call 99;refine (Zh7 _).mono ?_;rintro e w' ⟨rfl,rfl⟩)
   all_goals go_wp2_with fail
   all_goals
    go_roundw
    case rel=>exact ⟨k+1,by omega,by omega,by go_num,Zb X (Zc _ _).drew⟩
    case measure=>simp [intOf];omega
  ·go_wp2_with fail
   go_ret
   exact ⟨rfl,Q.out⟩
end Pr
end Go.Proofs.YtmgkcbdlfodjmaaGreatDoor
