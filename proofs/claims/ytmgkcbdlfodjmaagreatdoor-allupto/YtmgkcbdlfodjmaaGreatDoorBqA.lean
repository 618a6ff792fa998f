import Derived.Test.YtmgkcbdlfodjmaaGreatDoorProg
import Derived.WalkKit
import Derived.WalkSpells
import Derived.WalkLawsBesides
import Derived.BigQuiet
import Derived.Deep.QuietTactic
import Derived.Deep.RegionWith
import Derived.Deep.RegionHeld
set_option maxRecDepth 100000
set_option maxHeartbeats 16000000
namespace Go.Proofs.YtmgkcbdlfodjmaaGreatDoor
open Go.RowKit
theorem Ya {α:Type}{i:Nat}{b:α}{xs:Array α}:xs[i]?=some b↔∃ h:i<xs.size,xs[i]=b:=Array.getElem?_eq_some_iff
theorem Yb {α:Type}{l:List α}{i:Nat}(h:i<l.length):l[i]?=some l[i]:=List.getElem?_eq_getElem h
theorem Yc {α:Type}{i:Nat}{a:α}{l:List α}:l[i]?=some a↔∃ h:i<l.length,l[i]=a:=List.getElem?_eq_some_iff
theorem Yd (n:Nat):n≤n:=Nat.le_refl n
theorem Ye (n:Nat):0≤n:=Nat.zero_le n
theorem Yf (w:World)(a:Addr)(u:Value)(k:Nat)(h:k≠a.block):(w.setCell a u).heap[k]?=w.heap[k]?:=Below.heap_setCell w a u k h
theorem Yg (w:World)(a:Addr){u:Value}(h:w.cell? a=some u):w.heap.size≠a.block:=World.new_ne w a h
theorem Yh (B:Nat)(w:World):Below B w w:=Below.refl B w
theorem Yi {w:World}{base:Nat}{e:TypeId}{size:Nat}{v:Value}{n:Nat}{xs:List Value}(h:w.ownsRow base e size v n xs){a:Addr}(k:a.block<base)(u:Value):(w.setCell a u).ownsRow base e size v n xs:=ownsRow_setCell_below h k u
theorem Yj {α:Type}{i:Nat}{l:List α}(h:l.length≤i):l.take i=l:=List.take_of_length_le h
theorem Yk {α:Type}{i:Nat}{l:List α}(h:i<l.length):l.take (i+1)=l.take i++[l[i]]:=List.take_succ_eq_append_getElem h
theorem Yl {n m k:Nat}(h:n<m)(j:m≤k):n<k:=Nat.lt_of_lt_of_le h j
theorem Ym {n m k:Nat}(h:n≤m)(j:m≤k):n≤k:=Nat.le_trans h j
theorem Yn {w w':World}{a:Addr}(h:w'.heap[a.block]?=w.heap[a.block]?):w'.cell? a=w.cell? a:=World.cell?_of_block h
theorem Yo {α:Type}{l:List α}{i:Nat}{a:α}(h:l[i]?=some a):a∈l:=List.mem_of_getElem? h
theorem Yp {α:Type}(p:α→Bool)(l:List α):(l.filter p).length≤l.length:=List.length_filter_le p l
theorem Yq (w:World)(base:Nat)(e:TypeId)(size:Nat):w.ownsRow base e size (.slice none 0 0) 0 []:=World.ownsRow_nil w base e size
theorem Yr {α:Type}{p:α→Bool}(a b:List α):(a++b).filter p=a.filter p++b.filter p:=List.filter_append a b
end Go.Proofs.YtmgkcbdlfodjmaaGreatDoor
namespace Go.Proofs.YtmgkcbdlfodjmaaGreatDoor
open Go.RowKit
namespace Co
theorem Zu {a b:Bool} (d:a=b):Ending.returned (.bool a)=.returned (.bool b):=by rw [d]
def Zb2 (l:List UInt8):Bool:=l.all fun c=>97≤c&&c≤122
def ZW (s:ByteArray):Bool:=decide (1≤s.size)&&decide (s.size≤8)&&Zb2 s.data.toList
theorem Zca (s:ByteArray) (k:Nat) (d:k<s.size):s.data.toList.take (k+1)=s.data.toList.take k++[s[k]]:=by
 rw [Yk (by simpa using d)];rfl
theorem ZgA (s:ByteArray) (k:Nat) (d:¬k<s.size):s.data.toList.take k=s.data.toList:=by
 refine Yj ?_;have e:s.data.toList.length=s.size:=by rw [Array.length_toList];rfl
 omega
theorem Zej (s:ByteArray) (k:Nat) (d:k<s.size) (h:Zb2 (s.data.toList.take k)=true) (m:(97:Int)≤(s[k].toNat:Int)) (q:(s[k].toNat:Int)≤122) :
  Zb2 (s.data.toList.take (k+1))=true:=by
 rw [Zca s k d];unfold Zb2 at *;rw [List.all_append,h];simp [UInt8.le_iff_toNat_le];omega
theorem Zcz (s:ByteArray) (k:Nat) (d:k<s.size) (hb:(s[k].toNat:Int)<97∨122<(s[k].toNat:Int)):ZW s=false:=by
 have h:s[k]∈s.data.toList:=by
  rw [←List.take_append_drop (k+1) s.data.toList,Zca s k d];simp
 unfold ZW;have:Zb2 s.data.toList=false:=by
  unfold Zb2;rw [List.all_eq_false];refine ⟨s[k],h,?_⟩;simp [UInt8.le_iff_toNat_le];omega
 rw [this];simp
theorem ZfW (s:ByteArray) (k:Nat) (h:¬k<s.size) (d:Zb2 (s.data.toList.take k)=true):ZW s=(decide (1≤s.size)&&decide (s.size≤8)):=by
 rw [ZgA s k h] at d;simp [ZW,d]
theorem ZbW (s:ByteArray) (w:World) (I:s.size≤maxLen) :
  Calls Tryz.prog 147 #[.string s] w fun e J=>e=.returned (.bool (ZW s))∧J=w:=by
 unfold maxLen at I;go_enter Tryz.func147,Tryz.ntmps147
 go_wp2
 go_loop [3] (fun i=>∃ k:Nat,k≤s.size∧i=.int .i64 k∧Zb2 (s.data.toList.take k)=true) (fun i=>s.size - (intOf i).toNat)
 case atStart=>exact ⟨0,Ye _,rfl,rfl⟩
 case round =>
  obtain ⟨k,M,rfl,q⟩:=hrel;have h:Hid (Zb2 (s.data.toList.take k)=true):=q;clear q;by_cases d:k<s.size
  ·by_cases D:(97:Int)≤(s[k].toNat:Int)
   ·by_cases E:(s[k].toNat:Int)≤122
    ·go_wp2
     go_round
     case rel=>exact ⟨k+1,by omega,by go_num,Zej s k d h.out D E⟩
     case measure=>simp [intOf];omega
    ·go_wp2
     go_ret
     exact ⟨Zu (Zcz s k d (by omega)).symm,rfl⟩
   ·go_wp2
    go_ret
    exact ⟨Zu (Zcz s k d (by omega)).symm,rfl⟩
  ·have A:=ZfW s k d h.out;have m:Hid (ZW s=(decide (1≤s.size)&&decide (s.size≤8))):=A;clear A;by_cases L:0<s.size
   ·go_wp2
    go_ret
    exact ⟨Zu (by rw [m.out,Bool.eq_iff_iff];simp;omega),rfl⟩
   ·go_wp2
    go_ret
    exact ⟨Zu (by rw [m.out,Bool.eq_iff_iff];simp;omega),rfl⟩
theorem Za6 (s:ByteArray) (w:World) (I:s.size≤maxLen) :
  Calls Tryz.prog 185 #[.string s] w fun e J=>e=.returned (.bool (ZW s))∧J=w:=by
 unfold maxLen at I;by_cases L:s.size<1
 ·go_enter Tryz.func185,Tryz.ntmps185
  go_wp2
  go_ret
  exact ⟨Zu (by simp [ZW];omega),rfl⟩
 by_cases hb:8<s.size
 ·go_enter Tryz.func185,Tryz.ntmps185
  go_wp2
  go_ret
  exact ⟨Zu (by simp [ZW];omega),rfl⟩
 have M:decide ((8:Int)<(s.size:Int))=false:=by simp;omega
 have N:decide ((s.size:Int)<1)=false:=by simp;omega
 go_enter Tryz.func185,Tryz.ntmps185
 go_wp2
 go_loop [3] (fun i=>∃ k:Nat,k≤s.size∧i=.int .i64 k∧Zb2 (s.data.toList.take k)=true) (fun i=>s.size - (intOf i).toNat)
 case atStart=>exact ⟨0,Ye _,rfl,rfl⟩
 case round =>
  obtain ⟨k,O,rfl,m⟩:=hrel;have h:Hid (Zb2 (s.data.toList.take k)=true):=m;clear m;by_cases d:k<s.size
  ·by_cases D:(97:Int)≤(s[k].toNat:Int)
   ·by_cases E:(s[k].toNat:Int)≤122
    ·go_wp2
     go_round
     case rel=>exact ⟨k+1,by omega,by go_num,Zej s k d h.out D E⟩
     case measure=>simp [intOf];omega
    ·go_wp2
     go_ret
     exact ⟨Zu (Zcz s k d (by omega)).symm,rfl⟩
   ·go_wp2
    go_ret
    exact ⟨Zu (Zcz s k d (by omega)).symm,rfl⟩
  ·have q:=ZfW s k d h.out;have A:Hid (ZW s=(decide (1≤s.size)&&decide (s.size≤8))):=q;clear q;go_wp2
   go_ret
   exact ⟨Zu (by rw [A.out,Bool.eq_iff_iff];simp;omega),rfl⟩
def inB (lo hi n:Int):Bool:=decide (lo≤n)&&decide (n≤hi)
theorem Zlb {m d n:Int} (h:inB m d n=true):m≤n∧n≤d:=by simpa [inB] using h
theorem Zc6 {d h n:Int} (m:n<d):inB d h n=false:=by simp [inB];omega
abbrev sBudget:ByteArray:=⟨#[98,117,100,103,101,116]⟩
abbrev sSize:ByteArray:=⟨#[115,105,122,101]⟩
abbrev sWait:ByteArray:=⟨#[119,97,105,116]⟩
abbrev sFar:ByteArray:=⟨#[102,97,114]⟩
theorem Zdp (n:Int) (w:World) :
  Calls Tryz.prog 169 #[.string sBudget,.int .i64 n] w fun e h=>e=.returned (.bool (inB 1 99 n))∧h=w:=by
 by_cases d:1≤n
 ·go_enter Tryz.func169,Tryz.ntmps169
  go_wp2
  go_ret
  exact ⟨Zu (by simp [inB,d]),rfl⟩
 ·go_enter Tryz.func169,Tryz.ntmps169
  go_wp2
  go_ret
  exact ⟨Zu (Zc6 (by omega)).symm,rfl⟩
theorem Zen (n:Int) (w:World) :
  Calls Tryz.prog 169 #[.string sSize,.int .i64 n] w fun e h=>e=.returned (.bool (inB 0 20 n))∧h=w:=by
 by_cases d:0≤n
 ·go_enter Tryz.func169,Tryz.ntmps169
  go_wp2
  go_ret
  exact ⟨Zu (by simp [inB,d]),rfl⟩
 ·go_enter Tryz.func169,Tryz.ntmps169
  go_wp2
  go_ret
  exact ⟨Zu (Zc6 (by omega)).symm,rfl⟩
theorem Zfn (n:Int) (w:World) :
  Calls Tryz.prog 169 #[.string sWait,.int .i64 n] w fun e h=>e=.returned (.bool (inB 0 20 n))∧h=w:=by
 by_cases d:0≤n
 ·go_enter Tryz.func169,Tryz.ntmps169
  go_wp2
  go_ret
  exact ⟨Zu (by simp [inB,d]),rfl⟩
 ·go_enter Tryz.func169,Tryz.ntmps169
  go_wp2
  go_ret
  exact ⟨Zu (Zc6 (by omega)).symm,rfl⟩
theorem Zip (n:Int) (w:World) :
  Calls Tryz.prog 169 #[.string sFar,.int .i64 n] w fun e h=>e=.returned (.bool (inB 0 999 n))∧h=w:=by
 by_cases d:0≤n
 ·go_enter Tryz.func169,Tryz.ntmps169
  go_wp2
  go_ret
  exact ⟨Zu (by simp [inB,d]),rfl⟩
 ·go_enter Tryz.func169,Tryz.ntmps169
  go_wp2
  go_ret
  exact ⟨Zu (Zc6 (by omega)).symm,rfl⟩
theorem Zb {a b c:World} (d:Below a.heap.size a b) (k:Below b.heap.size b c):Below a.heap.size a c:=d.trans (k.mono d.size)
theorem Zc (w:World) (o:Obj):Below w.heap.size w (w.alloc o):=(Yh _ _).alloc (Yd _) o
theorem Zda {w wr:World} {o:Obj} (d:Below (w.alloc o).heap.size (w.alloc o) wr):w.heap.size<wr.heap.size:=by
 have:=d.size;rw [World.size_alloc] at this;omega
theorem ZcG:∀ (x y:List UInt8),(Op.bytesLess y x||y == x)=!(Op.bytesLess x y)
 | [],[]=>by simp [Op.bytesLess]
 | [],b :: y=>by simp [Op.bytesLess]
 | a :: x,[]=>by simp [Op.bytesLess]
 | a :: x,b :: y=>by
  have ih:=ZcG x y;simp only [Op.bytesLess];by_cases q:a<b
  ·have m:¬b<a:=by simp [UInt8.lt_iff_toNat_lt] at *;omega
   have d:¬b=a:=by intro h;subst h;simp at q
   simp [q,m,d]
  ·by_cases m:b<a
   ·have d:¬a=b:=by intro h;subst h;simp at m
    simp [q,m,d]
   ·have d:a=b:=by
     rw [←UInt8.toNat_inj];simp [UInt8.lt_iff_toNat_lt] at *;omega
    subst d;simpa [q] using ih
def lt (a b:ByteArray):Bool:=Op.bytesLess a.toList b.toList
theorem Zjo (a b:ByteArray):(Op.bytesLess a.toList b.toList||a.toList == b.toList)=!(lt b a):=ZcG _ _
theorem Zic (s:ByteArray) (h:ZW s=true):lt ⟨#[]⟩ s=true:=by
 simp [ZW] at h;unfold lt;rw [ByteArray.toList_eq s];have e:s.data.toList.length=s.size:=by rw [Array.length_toList];rfl
 have d:(ByteArray.mk #[]).toList=[]:=ByteArray.toList_mk [];rw [d];cases m:s.data.toList with
 | nil=>rw [m] at e;simp at e;omega
 | cons a r=>rfl
theorem Za {p:Prop} (d:p):Hid p:=d
theorem Zas {α:Type} {l:List α} {k:Nat} {p:α} (d:l[k]?=some p):l.drop k=p :: l.drop (k+1):=by
 obtain ⟨h,rfl⟩:=Yc.1 d;exact List.drop_eq_getElem_cons h
theorem ZfQ {a b:ByteArray} (d:a.data.toList=b.data.toList):a=b:=Go.WideShapes.bytes_inj d
def RowAt (w:World) (v:Value) (n:Nat) (cs:List Value):Prop:=
 ∃ ao cap,v=.slice ao n cap∧n≤cap∧(cs=[]∨∃ b off,ao=some ⟨b,off,none⟩∧b<w.heap.size∧∀ (j:Nat) (x:Value),cs[j]?=some x→w.cell? ⟨b,off+j,none⟩=some x)
theorem RowAt.nx {w q:World} {v:Value} {n:Nat} {h:List Value} (d:RowAt w v n h) (hb:Below w.heap.size w q):RowAt q v n h:=by
 obtain ⟨A,D,rfl,J,d⟩:=d;refine ⟨A,D,rfl,J,?_⟩;rcases d with d | ⟨b,off,E,m,I⟩
 ·exact .inl d
 ·refine .inr ⟨b,off,E,Yl m hb.size,fun j x L=>?_⟩;rw [hb.cell (p:=⟨b,off+j,none⟩) m];exact I j x L
theorem Zdb (w:World) (d:Option Addr) (h:Nat):RowAt w (.slice d 0 h) 0 []:=⟨d,h,rfl,Ye _,.inl rfl⟩
theorem Zf {w:World} {B:Nat} {e:TypeId} {size:Nat} {v:Value} {n:Nat} {m:List Value} (h:w.ownsRow B e size v n m):RowAt w v n m:=by
 obtain ⟨E,h⟩:=h;rcases h with ⟨rfl,rfl⟩ | ⟨g,A,D,rfl,hb,q,I,L,M,J⟩
 ·obtain rfl:m=[]:=List.eq_nil_of_length_eq_zero (by simpa using E);exact Zdb _ _ _
 ·refine ⟨some ⟨g,0,none⟩,A,rfl,I,.inr ⟨g,0,rfl,(Ya.1 q).1,fun j x d=>?_⟩⟩;have e:w.cell? ⟨g,0+j,none⟩=D.toList[j]?:=by simp [World.cell?,q]
  rw [e];rw [←J] at d;rw [List.getElem?_take] at d;split at d
  ·exact d
  ·cases d
theorem Zg6 {w:World} {B:Nat} {e:TypeId} {size:Nat} {v:Value} {n:Nat} {d:List Value} (h:w.ownsRow B e size v n d) (k:Nat):(w.drewN k).ownsRow B e size v n d:=h
theorem Zx {w m:World} {B:Nat} {e:TypeId} {size:Nat} {v:Value} {n:Nat} {q:List Value} (d:w.ownsRow B e size v n q) (hb:Below w.heap.size w m):m.ownsRow B e size v n q:=by
 obtain ⟨L,d⟩:=d;refine ⟨L,?_⟩;rcases d with d | ⟨g,A,D,E,I,h,J⟩
 ·exact .inl d
 ·exact .inr ⟨g,A,D,E,I,(hb.block g (Ya.1 h).1).trans h,J⟩
def Z6 (fs:List ByteArray):List Value:=fs.map Value.string
theorem ZdH {d:List ByteArray} {k:Nat} {s:ByteArray} (h:d[k]?=some s):(Z6 d)[k]?=some (.string s):=by simp [Z6,h]
def spl (s:ByteArray) (c:Nat):Nat→List ByteArray×Nat
 | 0=>([],0)
 | i+1=>if (s.data.toList.getD i 0).toNat=c then ((spl s c i).1++[s.extract (spl s c i).2 i],i+1) else spl s c i
def ZP (s:ByteArray) (c:Nat):List ByteArray:=(spl s c s.size).1++[s.extract (spl s c s.size).2 s.size]
theorem Zor (s:ByteArray) (c:Nat):∀ i,(spl s c i).2≤i∧(spl s c i).1.length≤i
 | 0=>by simp [spl]
 | i+1=>by
  have:=Zor s c i;unfold spl;split
  ·simp;omega
  ·omega
theorem Znl (s:ByteArray) (i:Nat) (d:i<s.size):s.data.toList.getD i 0=s[i]:=by
 have h:i<s.data.toList.length:=by simpa using d
 rw [List.getD_eq_getElem?_getD,Yb h];rfl
theorem Zng (s:ByteArray) (c:Nat) (i:Nat) (d:i<s.size) (h:s[i].toNat=c):spl s c (i+1)=((spl s c i).1++[s.extract (spl s c i).2 i],i+1):=by
 rw [spl,Znl s i d,if_pos h]
theorem ZlZ (s:ByteArray) (c:Nat) (i:Nat) (d:i<s.size) (h:¬s[i].toNat=c):spl s c (i+1)=spl s c i:=by
 rw [spl,Znl s i d,if_neg h]
theorem Zfh (s:ByteArray) (a b:Nat):(s.extract a b).size≤s.size:=by
 rw [ByteArray.size_extract];omega
theorem Zhr (s:ByteArray) (c:Nat):∀ i,∀ p∈(spl s c i).1,p.size≤s.size
 | 0,p,d=>by simp [spl] at d
 | i+1,p,d=>by
  rw [spl] at d;split at d
  ·rcases List.mem_append.1 d with d | d
   ·exact Zhr s c i p d
   ·simp at d;subst d;exact Zfh _ _ _
  ·exact Zhr s c i p d
theorem ZdQ (s:ByteArray) (c:Nat):∀ p∈ZP s c,p.size≤s.size:=by
 intro p d;rcases List.mem_append.1 d with d | d
 ·exact Zhr s c _ p d
 ·simp at d;subst d;exact Zfh _ _ _
theorem Zdh (s:ByteArray) (c:Nat):(ZP s c).length≤s.size+1:=by
 have:=(Zor s c s.size).2;simp [ZP];omega
theorem Zgw:(Tryz.prog.info? 9).map (fun i=>(i.zero,i.size,i.bytes))=some (some (.string ⟨#[]⟩),1,16):=by kernel_rfl
theorem Zka (s:ByteArray) (c:Nat) (w:World) (ae:s.size≤1000) :
  Calls Tryz.prog 111 #[.string s,.int .u8 c] w fun e w'=>∃ v,e=.returned v∧w'.ownsRow w.heap.size 9 1 v (ZP s c).length (Z6 (ZP s c))∧Below w.heap.size w w':=by
 obtain ⟨aa,R,V,X,Y⟩:=info_parts Zgw;go_enter Tryz.func111,Tryz.ntmps111
 go_wp2_with fail
 go_loopw [5,6,7] (fun v f i wr=>∃ (k st n:Nat) (d:List ByteArray),k≤s.size∧i=.int .i64 k∧f=.int .i64 st∧st≤k∧n≤k∧Hid (spl s c k=(d,st)∧d.length=n)∧wr.ownsRow w.heap.size 9 1 v n (Z6 d)∧Below w.heap.size w wr) (fun _ _ i _=>s.size - (intOf i).toNat)
 case atStart=>exact ⟨0,0,0,[],Ye _,rfl,rfl,Yd _,Yd _,⟨rfl,rfl⟩,World.ownsRow_made w #[] 0 (Yd _) (Ye _) rfl,Zc _ _⟩
 case round =>
  obtain ⟨k,st,n,d,ac,rfl,rfl,af,ad,m,h,q⟩:=hrel;have Q:w.heap.size≤wr.heap.size:=q.size;by_cases U:k<s.size
  ·by_cases D:s[k].toNat=c
   ·have ab:((s[k].toNat:Int) == (c:Int))=true:=by simp [D]
    have L:Hid (s[k].toNat=c):=D;clear D;go_wp2_with (at_builtin;refine wpList_append_own _ rfl (.tmp 20) (.tmp 25) 157 rfl w.heap.size 9 aa (.string ⟨#[]⟩) 1 16 Tryz.underlying157 R V X Y rfl (by decide) _ _ _ rfl (h.alloc _) ⟨wr.heap.size,0,none⟩ 1 1 [.string (s.extract st k)] rfl rfl (cell_one_new _ _ _) ?c2 ?c3 ?c4 ?c5 ?next)
    case c2=>intro u J;simp at J;subst J;rfl
    case c3=>unfold maxLen;omega
    case c4=>omega
    case c5=>simp;omega
    case next =>
     intro N w1 I E _;have A:w1.ownsRow w.heap.size 9 1 N (n+1) (Z6 (d++[s.extract st k]))∧Below w.heap.size w w1:=by
      refine ⟨by simpa [Z6] using I,(q.alloc Q _).grown E (by simp;omega) (fun g M=>(h.lt g M).1)⟩
     clear I E h q;go_wp2_with fail
     go_roundw
     case rel=>exact ⟨k+1,k+1,n+1,d++[s.extract st k],by omega,by go_num,by go_num,Yd _,by omega,⟨(by rw [Zng s c k U L.out,m.out.1]),by simp [m.out.2]⟩,A.1,A.2⟩
     case measure=>simp [intOf];omega
   ·have ab:((s[k].toNat:Int) == (c:Int))=false:=by simp;omega
    have L:Hid (¬s[k].toNat=c):=D;clear D;go_wp2_with fail
    go_roundw
    case rel=>exact ⟨k+1,st,n,d,by omega,by go_num,rfl,by omega,by omega,⟨(by rw [ZlZ s c k U L.out,m.out.1]),m.out.2⟩,h,q⟩
    case measure=>simp [intOf];omega
  ·obtain rfl:k=s.size:=by omega
   have O:Hid (ZP s c=d++[s.extract st s.size]∧(ZP s c).length=n+1):=by
    have e:ZP s c=d++[s.extract st s.size]:=by rw [ZP,m.out.1]
    exact ⟨e,by rw [e];simp [m.out.2]⟩
   go_wp2_with (at_builtin;refine wpList_append_own _ rfl (.tmp 29) (.tmp 33) 157 rfl w.heap.size 9 aa (.string ⟨#[]⟩) 1 16 Tryz.underlying157 R V X Y rfl (by decide) _ _ _ rfl (h.alloc _) ⟨wr.heap.size,0,none⟩ 1 1 [.string (s.extract st s.size)] rfl rfl (cell_one_new _ _ _) ?d2 ?d3 ?d4 ?d5 ?last)
   case d2=>intro u J;simp at J;subst J;rfl
   case d3=>unfold maxLen;omega
   case d4=>omega
   case d5=>simp;omega
   case last =>
    intro N w1 I E _;have A:w1.ownsRow w.heap.size 9 1 N (n+1) (Z6 (d++[s.extract st s.size]))∧Below w.heap.size w w1:=by
     refine ⟨by simpa [Z6] using I,(q.alloc Q _).grown E (by simp;omega) (fun g M=>(h.lt g M).1)⟩
    clear I E h q;go_wp2_with fail
    go_ret
    exact ⟨_,rfl,(by rw [O.out.2,O.out.1];exact A.1),A.2⟩
theorem Zi0 (s:ByteArray) (c:Nat) (w:World) (ae:s.size≤1000) :
  Calls Tryz.prog 103 #[.string s,.int .u8 c] w fun e w'=>∃ v,e=.returned v∧w'.ownsRow w.heap.size 9 1 v (ZP s c).length (Z6 (ZP s c))∧Below w.heap.size w w':=by
 obtain ⟨aa,R,V,X,Y⟩:=info_parts Zgw;go_enter Tryz.func103,Tryz.ntmps103
 go_wp2_with fail
 go_loopw [5,6,7] (fun v f i wr=>∃ (k st n:Nat) (d:List ByteArray),k≤s.size∧i=.int .i64 k∧f=.int .i64 st∧st≤k∧n≤k∧Hid (spl s c k=(d,st)∧d.length=n)∧wr.ownsRow w.heap.size 9 1 v n (Z6 d)∧Below w.heap.size w wr) (fun _ _ i _=>s.size - (intOf i).toNat)
 case atStart=>exact ⟨0,0,0,[],Ye _,rfl,rfl,Yd _,Yd _,⟨rfl,rfl⟩,Yq _ _ _ _,Yh _ _⟩
 case round =>
  obtain ⟨k,st,n,d,ac,rfl,rfl,af,ad,m,h,q⟩:=hrel;have Q:w.heap.size≤wr.heap.size:=q.size;by_cases U:k<s.size
  ·by_cases D:s[k].toNat=c
   ·have ab:((s[k].toNat:Int) == (c:Int))=true:=by simp [D]
    have L:Hid (s[k].toNat=c):=D;clear D;go_wp2_with (at_builtin;refine wpList_append_own _ rfl (.tmp 19) (.tmp 24) 157 rfl w.heap.size 9 aa (.string ⟨#[]⟩) 1 16 Tryz.underlying157 R V X Y rfl (by decide) _ _ _ rfl (h.alloc _) ⟨wr.heap.size,0,none⟩ 1 1 [.string (s.extract st k)] rfl rfl (cell_one_new _ _ _) ?c2 ?c3 ?c4 ?c5 ?next)
    case c2=>intro u J;simp at J;subst J;rfl
    case c3=>unfold maxLen;omega
    case c4=>omega
    case c5=>simp;omega
    case next =>
     intro N w1 I E _;have A:w1.ownsRow w.heap.size 9 1 N (n+1) (Z6 (d++[s.extract st k]))∧Below w.heap.size w w1:=by
      refine ⟨by simpa [Z6] using I,(q.alloc Q _).grown E (by simp;omega) (fun g M=>(h.lt g M).1)⟩
     clear I E h q;go_wp2_with fail
     go_roundw
     case rel=>exact ⟨k+1,k+1,n+1,d++[s.extract st k],by omega,by go_num,by go_num,Yd _,by omega,⟨(by rw [Zng s c k U L.out,m.out.1]),by simp [m.out.2]⟩,A.1,A.2⟩
     case measure=>simp [intOf];omega
   ·have ab:((s[k].toNat:Int) == (c:Int))=false:=by simp;omega
    have L:Hid (¬s[k].toNat=c):=D;clear D;go_wp2_with fail
    go_roundw
    case rel=>exact ⟨k+1,st,n,d,by omega,by go_num,rfl,by omega,by omega,⟨(by rw [ZlZ s c k U L.out,m.out.1]),m.out.2⟩,h,q⟩
    case measure=>simp [intOf];omega
  ·obtain rfl:k=s.size:=by omega
   have O:Hid (ZP s c=d++[s.extract st s.size]∧(ZP s c).length=n+1):=by
    have e:ZP s c=d++[s.extract st s.size]:=by rw [ZP,m.out.1]
    exact ⟨e,by rw [e];simp [m.out.2]⟩
   go_wp2_with (at_builtin;refine wpList_append_own _ rfl (.tmp 28) (.tmp 32) 157 rfl w.heap.size 9 aa (.string ⟨#[]⟩) 1 16 Tryz.underlying157 R V X Y rfl (by decide) _ _ _ rfl (h.alloc _) ⟨wr.heap.size,0,none⟩ 1 1 [.string (s.extract st s.size)] rfl rfl (cell_one_new _ _ _) ?d2 ?d3 ?d4 ?d5 ?last)
   case d2=>intro u J;simp at J;subst J;rfl
   case d3=>unfold maxLen;omega
   case d4=>omega
   case d5=>simp;omega
   case last =>
    intro N w1 I E _;have A:w1.ownsRow w.heap.size 9 1 N (n+1) (Z6 (d++[s.extract st s.size]))∧Below w.heap.size w w1:=by
     refine ⟨by simpa [Z6] using I,(q.alloc Q _).grown E (by simp;omega) (fun g M=>(h.lt g M).1)⟩
    clear I E h q;go_wp2_with fail
    go_ret
    exact ⟨_,rfl,(by rw [O.out.2,O.out.1];exact A.1),A.2⟩
theorem Zqm (s:ByteArray) (w:World) (A:s.size≤1000) :
  Calls Tryz.prog 111 #[.string s,.int .u8 10] w fun e m=>∃ d E,e=.returned (.slice d (ZP s 10).length E)∧RowAt m (.slice d (ZP s 10).length E) (ZP s 10).length (Z6 (ZP s 10))∧Below w.heap.size w m:=
 (show Calls Tryz.prog 111 #[.string s,.int .u8 10] w _ from Zka s 10 w A).mono (by
  rintro e m ⟨v,rfl,h,hb⟩;have q:=Zf h;obtain ⟨d,E,rfl,D⟩:=Zf h;exact ⟨d,E,rfl,q,hb⟩)
theorem ZpV (s:ByteArray) (w:World) (A:s.size≤1000) :
  Calls Tryz.prog 111 #[.string s,.int .u8 32] w fun e m=>∃ d E,e=.returned (.slice d (ZP s 32).length E)∧RowAt m (.slice d (ZP s 32).length E) (ZP s 32).length (Z6 (ZP s 32))∧Below w.heap.size w m:=
 (show Calls Tryz.prog 111 #[.string s,.int .u8 32] w _ from Zka s 32 w A).mono (by
  rintro e m ⟨v,rfl,h,hb⟩;have q:=Zf h;obtain ⟨d,E,rfl,D⟩:=Zf h;exact ⟨d,E,rfl,q,hb⟩)
theorem ZpD (s:ByteArray) (w:World) (A:s.size≤1000) :
  Calls Tryz.prog 103 #[.string s,.int .u8 10] w fun e m=>∃ d E,e=.returned (.slice d (ZP s 10).length E)∧RowAt m (.slice d (ZP s 10).length E) (ZP s 10).length (Z6 (ZP s 10))∧Below w.heap.size w m:=
 (show Calls Tryz.prog 103 #[.string s,.int .u8 10] w _ from Zi0 s 10 w A).mono (by
  rintro e m ⟨v,rfl,h,hb⟩;have q:=Zf h;obtain ⟨d,E,rfl,D⟩:=Zf h;exact ⟨d,E,rfl,q,hb⟩)
theorem Zo4 (s:ByteArray) (w:World) (A:s.size≤1000) :
  Calls Tryz.prog 103 #[.string s,.int .u8 32] w fun e m=>∃ d E,e=.returned (.slice d (ZP s 32).length E)∧RowAt m (.slice d (ZP s 32).length E) (ZP s 32).length (Z6 (ZP s 32))∧Below w.heap.size w m:=
 (show Calls Tryz.prog 103 #[.string s,.int .u8 32] w _ from Zi0 s 32 w A).mono (by
  rintro e m ⟨v,rfl,h,hb⟩;have q:=Zf h;obtain ⟨d,E,rfl,D⟩:=Zf h;exact ⟨d,E,rfl,q,hb⟩)
theorem ZeP {a:Option Addr} {n d c:Nat} (h:n=d):Ending.returned (.slice a n c)=.returned (.slice a d c):=by rw [h]
def Zgy (p:ByteArray):Bool:=!p.toList.isEmpty
def Zav (s:ByteArray):List ByteArray:=(ZP s 32).filter Zgy
theorem Zio (s:ByteArray):(Zav s).length≤s.size+1:=Ym (Yp _ _) (Zdh s 32)
theorem Zjk (s:ByteArray):∀ p∈Zav s,p.size≤s.size:=fun p d=>ZdQ s 32 p (List.mem_filter.1 d).1
theorem Zlg (l:List ByteArray) (k:Nat) (p:ByteArray) (d:l[k]?=some p) (m:p.toList.isEmpty=false):(l.take (k+1)).filter Zgy=(l.take k).filter Zgy++[p]:=by
 obtain ⟨h,rfl⟩:=Yc.1 d;rw [Yk h,Yr];simp [Zgy,m]
theorem Zm7 (l:List ByteArray) (k:Nat) (p:ByteArray) (d:l[k]?=some p) (m:p.toList.isEmpty=true):(l.take (k+1)).filter Zgy=(l.take k).filter Zgy:=by
 obtain ⟨h,rfl⟩:=Yc.1 d;rw [Yk h,Yr];simp [Zgy,m]
theorem RowAt.at {w:World} {h:Option Addr} {n m A:Nat} {M:List Value} (d:RowAt w (.slice h n A) m M) {j:Nat} {x:Value} (q:M[j]?=some x) :
  ∃ b off,h=some ⟨b,off,none⟩∧b<w.heap.size∧w.cell? ⟨b,off+j,none⟩=some x:=by
 obtain ⟨J,L,e,_,d⟩:=d;simp only [Value.slice.injEq] at e;obtain ⟨rfl,_,_⟩:=e;rcases d with d | ⟨b,off,D,E,I⟩
 ·subst d;simp at q
 ·exact ⟨b,off,D,E,I j x q⟩
theorem ZlE (s:ByteArray) (w:World) (ai:s.size≤1000) :
  Calls Tryz.prog 112 #[.string s] w fun e w'=>∃ D E,e=.returned (.slice D (Zav s).length E)∧RowAt w' (.slice D (Zav s).length E) (Zav s).length (Z6 (Zav s))∧Below w.heap.size w w':=by
 obtain ⟨am,ag,aj,ak,al⟩:=info_parts Zgw;go_enter Tryz.func112,Tryz.ntmps112
 go_wp2_with fail
 refine (ZpV s _ ai).mono ?_;rintro e w1 ⟨ao,ap,rfl,J,M⟩;have X:=Zdh s 32;obtain ⟨ps,hps⟩:∃ ps,ZP s 32=ps:=⟨_,rfl⟩;rw [hps] at J X ⊢;obtain ⟨n,N⟩:∃ n,ps.length=n:=⟨_,rfl⟩;rw [N] at J X ⊢;have I:Hid (RowAt w1 (.slice ao n ap) n (Z6 ps)∧ps.length=n∧ZP s 32=ps):=⟨J,N,hps⟩;have ad:Hid (Below w.heap.size w w1):=M;have ax:w.heap.size≤w1.heap.size:=M.size;clear J N hps M;go_wp2_with fail
 go_loopw [4,5] (fun v i wr=>∃ (k h:Nat) (d:List ByteArray),k≤n∧i=.int .i64 k∧h≤k∧Hid ((ps.take k).filter Zgy=d∧d.length=h)∧wr.ownsRow w1.heap.size 9 1 v h (Z6 d)∧Below w1.heap.size w1 wr) (fun _ i _=>n - (intOf i).toNat)
 case atStart=>exact ⟨0,0,[],Ye _,rfl,Yd _,⟨rfl,rfl⟩,World.ownsRow_made w1 #[] 0 (Yd _) (Ye _) rfl,Zc _ _⟩
 case round =>
  obtain ⟨k,h,d,av,rfl,aw,A,q,m⟩:=hrel;have ae:w1.heap.size≤wr.heap.size:=m.size;by_cases ah:k<n
  ·obtain ⟨p,O⟩:∃ p,ps[k]?=some p:=⟨_,Yb (by rw [I.out.2.1];exact ah)⟩;obtain ⟨aq,off,rfl,ar,au⟩:=(I.out.1.nx m).at (ZdH O);have Q:Hid (ps[k]?=some p):=O;clear O;cases U:p.toList.isEmpty
   ·go_wp2_with (at_builtin;refine wpList_append_own _ rfl (.tmp 20) (.tmp 25) 157 rfl w1.heap.size 9 am (.string ⟨#[]⟩) 1 16 Tryz.underlying157 ag aj ak al rfl (by decide) _ _ _ rfl (q.alloc _) ⟨wr.heap.size,0,none⟩ 1 1 [.string p] rfl rfl (cell_one_new _ _ _) ?c2 ?c3 ?c4 ?c5 ?next)
    case c2=>intro u ab;simp at ab;subst ab;rfl
    case c3=>unfold maxLen;omega
    case c4=>omega
    case c5=>simp;omega
    case next =>
     intro v' ac Y V _;have R:ac.ownsRow w1.heap.size 9 1 v' (h+1) (Z6 (d++[p]))∧Below w1.heap.size w1 ac:=by
      refine ⟨by simpa [Z6] using Y,(m.alloc ae _).grown V (by simp;omega) (fun g af=>(q.lt g af).1)⟩
     clear Y V q m;go_wp2_with fail
     go_roundw
     case rel=>exact ⟨k+1,h+1,d++[p],by omega,by go_num,by omega,⟨(by rw [Zlg ps k p Q.out U,A.out.1]),by simp [A.out.2]⟩,R.1,R.2⟩
     case measure=>simp [intOf];omega
   ·go_wp2_with fail
    go_roundw
    case rel=>exact ⟨k+1,h,d,by omega,by go_num,by omega,⟨(by rw [Zm7 ps k p Q.out U,A.out.1]),A.out.2⟩,q,m⟩
    case measure=>simp [intOf];omega
  ·have L:Hid (Zav s=d∧(Zav s).length=h):=by
    have e:Zav s=d:=by rw [Zav,I.out.2.2,←A.out.1,Yj (by rw [I.out.2.1];omega)]
    exact ⟨e,by rw [e];exact A.out.2⟩
   have aa:=Zf q;obtain ⟨D,E,rfl,_⟩:=Zf q;have ay:Hid (RowAt wr (.slice D h E) h (Z6 d)∧Below w.heap.size w wr):=⟨aa,Zb ad.out m⟩;clear aa q m;go_wp2_with fail
   go_ret
   exact ⟨D,E,ZeP L.out.2.symm,(by rw [L.out.2,L.out.1];exact ay.out.1),ay.out.2⟩
theorem Zmt (s:ByteArray) (w:World) (ai:s.size≤1000) :
  Calls Tryz.prog 104 #[.string s] w fun e w'=>∃ D E,e=.returned (.slice D (Zav s).length E)∧RowAt w' (.slice D (Zav s).length E) (Zav s).length (Z6 (Zav s))∧Below w.heap.size w w':=by
 obtain ⟨am,ag,aj,ak,al⟩:=info_parts Zgw;go_enter Tryz.func104,Tryz.ntmps104
 go_wp2_with fail
 refine (Zo4 s _ ai).mono ?_;rintro e w1 ⟨ao,ap,rfl,J,M⟩;have X:=Zdh s 32;obtain ⟨ps,hps⟩:∃ ps,ZP s 32=ps:=⟨_,rfl⟩;rw [hps] at J X ⊢;obtain ⟨n,N⟩:∃ n,ps.length=n:=⟨_,rfl⟩;rw [N] at J X ⊢;have I:Hid (RowAt w1 (.slice ao n ap) n (Z6 ps)∧ps.length=n∧ZP s 32=ps):=⟨J,N,hps⟩;have ad:Hid (Below w.heap.size w w1):=M;have ax:w.heap.size≤w1.heap.size:=M.size;clear J N hps M;go_wp2_with fail
 go_loopw [3,5] (fun v i wr=>∃ (k h:Nat) (d:List ByteArray),k≤n∧i=.int .i64 k∧h≤k∧Hid ((ps.take k).filter Zgy=d∧d.length=h)∧wr.ownsRow w1.heap.size 9 1 v h (Z6 d)∧Below w1.heap.size w1 wr) (fun _ i _=>n - (intOf i).toNat)
 case atStart=>exact ⟨0,0,[],Ye _,rfl,Yd _,⟨rfl,rfl⟩,Yq _ _ _ _,Yh _ _⟩
 case round =>
  obtain ⟨k,h,d,av,rfl,aw,A,q,m⟩:=hrel;have ae:w1.heap.size≤wr.heap.size:=m.size;by_cases ah:k<n
  ·obtain ⟨p,O⟩:∃ p,ps[k]?=some p:=⟨_,Yb (by rw [I.out.2.1];exact ah)⟩;obtain ⟨aq,off,rfl,ar,au⟩:=(I.out.1.nx m).at (ZdH O);have Q:Hid (ps[k]?=some p):=O;clear O;cases U:p.toList.isEmpty
   ·go_wp2_with (at_builtin;refine wpList_append_own _ rfl (.tmp 19) (.tmp 24) 157 rfl w1.heap.size 9 am (.string ⟨#[]⟩) 1 16 Tryz.underlying157 ag aj ak al rfl (by decide) _ _ _ rfl (q.alloc _) ⟨wr.heap.size,0,none⟩ 1 1 [.string p] rfl rfl (cell_one_new _ _ _) ?c2 ?c3 ?c4 ?c5 ?next)
    case c2=>intro u ab;simp at ab;subst ab;rfl
    case c3=>unfold maxLen;omega
    case c4=>omega
    case c5=>simp;omega
    case next =>
     intro v' ac Y V _;have R:ac.ownsRow w1.heap.size 9 1 v' (h+1) (Z6 (d++[p]))∧Below w1.heap.size w1 ac:=by
      refine ⟨by simpa [Z6] using Y,(m.alloc ae _).grown V (by simp;omega) (fun g af=>(q.lt g af).1)⟩
     clear Y V q m;go_wp2_with fail
     go_roundw
     case rel=>exact ⟨k+1,h+1,d++[p],by omega,by go_num,by omega,⟨(by rw [Zlg ps k p Q.out U,A.out.1]),by simp [A.out.2]⟩,R.1,R.2⟩
     case measure=>simp [intOf];omega
   ·go_wp2_with fail
    go_roundw
    case rel=>exact ⟨k+1,h,d,by omega,by go_num,by omega,⟨(by rw [Zm7 ps k p Q.out U,A.out.1]),A.out.2⟩,q,m⟩
    case measure=>simp [intOf];omega
  ·have L:Hid (Zav s=d∧(Zav s).length=h):=by
    have e:Zav s=d:=by rw [Zav,I.out.2.2,←A.out.1,Yj (by rw [I.out.2.1];omega)]
    exact ⟨e,by rw [e];exact A.out.2⟩
   have aa:=Zf q;obtain ⟨D,E,rfl,_⟩:=Zf q;have ay:Hid (RowAt wr (.slice D h E) h (Z6 d)∧Below w.heap.size w wr):=⟨aa,Zb ad.out m⟩;clear aa q m;go_wp2_with fail
   go_ret
   exact ⟨D,E,ZeP L.out.2.symm,(by rw [L.out.2,L.out.1];exact ay.out.1),ay.out.2⟩
def Zgx (l:List UInt8):Bool:=l.all fun c=>48≤c&&c≤57
def Zga (l:List UInt8):Nat:=l.foldl (fun a c=>a*10+(c.toNat - 48)) 0
def ZeH (s:ByteArray):Bool:=decide (1≤s.size)&&decide (s.size≤4)&&Zgx s.data.toList
def Za9 (s:ByteArray):Option Nat:=if ZeH s then some (Zga s.data.toList) else none
theorem Zkl (l:List UInt8) (c:UInt8):Zga (l++[c])=Zga l*10+(c.toNat - 48):=by simp [Zga]
theorem Zki (s:ByteArray) (k:Nat) (d:k<s.size) (h:Zgx (s.data.toList.take k)=true) (m:(48:Int)≤(s[k].toNat:Int)) (q:(s[k].toNat:Int)≤57) :
  Zgx (s.data.toList.take (k+1))=true:=by
 rw [Zca s k d];unfold Zgx at *;rw [List.all_append,h];simp [UInt8.le_iff_toNat_le];omega
theorem Zgm (s:ByteArray) (k:Nat) (d:k<s.size) (hb:(s[k].toNat:Int)<48∨57<(s[k].toNat:Int)):ZeH s=false:=by
 have h:s[k]∈s.data.toList:=by
  rw [←List.take_append_drop (k+1) s.data.toList,Zca s k d];simp
 unfold ZeH;have:Zgx s.data.toList=false:=by
  unfold Zgx;rw [List.all_eq_false];refine ⟨s[k],h,?_⟩;simp [UInt8.le_iff_toNat_le];omega
 rw [this];simp
theorem ZdG {s:ByteArray} (d:ZeH s=false):Za9 s=none:=by simp [Za9,d]
theorem Zlq {s:ByteArray} {k:Nat} (h:1≤s.size) (m:s.size≤4) (q:¬k<s.size) (d:Zgx (s.data.toList.take k)=true):Za9 s=some (Zga (s.data.toList.take k)):=by
 rw [ZgA s k q] at d ⊢;simp [Za9,ZeH,h,m,d]
def Zet (s:ByteArray):Int:=match Za9 s with | some n=>n | none=>0
def ZdN (s:ByteArray):Bool:=(Za9 s).isSome
def ZcA (s:ByteArray):Int:=match Za9 s with | some n=>n | none=>-1
theorem ZeV {a b:Int} {x y:Bool} (d:a=b) (h:x=y):Ending.returned (.tuple #[.int .i64 a,.bool x])=.returned (.tuple #[.int .i64 b,.bool y]):=by rw [d,h]
theorem Zaj {a b:Int} (d:a=b):Ending.returned (.int .i64 a)=.returned (.int .i64 b):=by rw [d]
theorem Zb5 (s:ByteArray) (w:World) (R:s.size≤1000) :
  Calls Tryz.prog 187 #[.string s] w fun e I=>e=.returned (.tuple #[.int .i64 (Zet s),.bool (ZdN s)])∧I=w:=by
 by_cases M:s.size<1
 ·have d:Za9 s=none:=ZdG (by simp [ZeH];omega);go_enter Tryz.func187,Tryz.ntmps187
  go_wp2_with fail
  go_ret2
  exact ⟨ZeV (by simp [Zet,d]) (by simp [ZdN,d]),rfl⟩
 by_cases hb:4<s.size
 ·have d:Za9 s=none:=ZdG (by simp [ZeH];omega);go_enter Tryz.func187,Tryz.ntmps187
  go_wp2_with fail
  go_ret2
  exact ⟨ZeV (by simp [Zet,d]) (by simp [ZdN,d]),rfl⟩
 have N:decide ((4:Int)<(s.size:Int))=false:=by simp;omega
 have O:decide ((s.size:Int)<1)=false:=by simp;omega
 go_enter Tryz.func187,Tryz.ntmps187
 go_wp2_with fail
 go_loop [4,5] (fun x i=>∃ (k:Nat) (a:Int),k≤s.size∧i=.int .i64 k∧x=.int .i64 a∧Hid (Zgx (s.data.toList.take k)=true∧a=(Zga (s.data.toList.take k):Int))∧0≤a∧Hid (a<10 ^ k)) (fun _ i=>s.size - (intOf i).toNat)
 case atStart=>exact ⟨0,0,Ye _,rfl,rfl,⟨rfl,rfl⟩,by omega,(by show (0:Int)<10 ^ 0;decide)⟩
 case round =>
  obtain ⟨k,a,Q,rfl,rfl,m,J,q⟩:=hrel;have L:a≤10000:=by
   have h:=q.out;have E:k≤4:=by omega
   have:(10:Int) ^ k≤10 ^ 4:=by exact_mod_cast Nat.pow_le_pow_right (by decide) E
   omega
  by_cases U:k<s.size
  ·by_cases A:(48:Int)≤(s[k].toNat:Int)
   ·by_cases D:(s[k].toNat:Int)≤57
    ·go_wp2_with fail
     go_round
     case rel=>exact ⟨k+1,_,by omega,by go_num,rfl,⟨Zki s k U m.out.1 A D,(by rw [Zca s k U,Zkl,m.out.2];omega)⟩,by omega,(by
      show _<_;have h:=q.out;rw [Int.pow_succ];omega)⟩
     case measure=>simp [intOf];omega
    ·have d:Hid (Za9 s=none):=ZdG (Zgm s k U (by omega));go_wp2_with fail
     go_ret2
     exact ⟨ZeV (by simp [Zet,d.out]) (by simp [ZdN,d.out]),rfl⟩
   ·have d:Hid (Za9 s=none):=ZdG (Zgm s k U (by omega));go_wp2_with fail
    go_ret2
    exact ⟨ZeV (by simp [Zet,d.out]) (by simp [ZdN,d.out]),rfl⟩
  ·have d:Hid (Za9 s=some (Zga (s.data.toList.take k))):=Zlq (by omega) (by omega) U m.out.1;go_wp2_with fail
   go_ret2
   exact ⟨ZeV (by simp [Zet,d.out,m.out.2]) (by simp [ZdN,d.out]),rfl⟩
theorem ZiU (s:ByteArray) (w:World) (R:s.size≤1000) :
  Calls Tryz.prog 148 #[.string s] w fun e I=>e=.returned (.int .i64 (ZcA s))∧I=w:=by
 by_cases M:s.size<1
 ·have d:Za9 s=none:=ZdG (by simp [ZeH];omega);go_enter Tryz.func148,Tryz.ntmps148
  go_wp2_with fail
  go_ret
  exact ⟨Zaj (by simp [ZcA,d]),rfl⟩
 by_cases hb:4<s.size
 ·have d:Za9 s=none:=ZdG (by simp [ZeH];omega);go_enter Tryz.func148,Tryz.ntmps148
  go_wp2_with fail
  go_ret
  exact ⟨Zaj (by simp [ZcA,d]),rfl⟩
 have N:decide ((4:Int)<(s.size:Int))=false:=by simp;omega
 have O:decide ((s.size:Int)<1)=false:=by simp;omega
 go_enter Tryz.func148,Tryz.ntmps148
 go_wp2_with fail
 go_loop [3,4] (fun x i=>∃ (k:Nat) (a:Int),k≤s.size∧i=.int .i64 k∧x=.int .i64 a∧Hid (Zgx (s.data.toList.take k)=true∧a=(Zga (s.data.toList.take k):Int))∧0≤a∧Hid (a<10 ^ k)) (fun _ i=>s.size - (intOf i).toNat)
 case atStart=>exact ⟨0,0,Ye _,rfl,rfl,⟨rfl,rfl⟩,by omega,(by show (0:Int)<10 ^ 0;decide)⟩
 case round =>
  obtain ⟨k,a,Q,rfl,rfl,m,J,q⟩:=hrel;have L:a≤10000:=by
   have h:=q.out;have E:k≤4:=by omega
   have:(10:Int) ^ k≤10 ^ 4:=by exact_mod_cast Nat.pow_le_pow_right (by decide) E
   omega
  by_cases U:k<s.size
  ·by_cases A:(48:Int)≤(s[k].toNat:Int)
   ·by_cases D:(s[k].toNat:Int)≤57
    ·go_wp2_with fail
     go_round
     case rel=>exact ⟨k+1,_,by omega,by go_num,rfl,⟨Zki s k U m.out.1 A D,(by rw [Zca s k U,Zkl,m.out.2];omega)⟩,by omega,(by
      show _<_;have h:=q.out;rw [Int.pow_succ];omega)⟩
     case measure=>simp [intOf];omega
    ·have d:Hid (Za9 s=none):=ZdG (Zgm s k U (by omega));go_wp2_with fail
     go_ret
     exact ⟨Zaj (by simp [ZcA,d.out]),rfl⟩
   ·have d:Hid (Za9 s=none):=ZdG (Zgm s k U (by omega));go_wp2_with fail
    go_ret
    exact ⟨Zaj (by simp [ZcA,d.out]),rfl⟩
  ·have d:Hid (Za9 s=some (Zga (s.data.toList.take k))):=Zlq (by omega) (by omega) U m.out.1;go_wp2_with fail
   go_ret
   exact ⟨Zaj (by simp [ZcA,d.out,m.out.2]),rfl⟩
def kwL (k:Nat):List UInt8:=match k with | 0=>[115,105,122,101] | 1=>[119,97,105,116] | 2=>[102,97,114] | _=>[98,117,100,103,101,116]
def ZcO (s:ByteArray):Option Nat:=if s.toList == kwL 0 then some 0 else if s.toList == kwL 1 then some 1 else if s.toList == kwL 2 then some 2 else none
def Zg8 (s:ByteArray):Bool:=(ZcO s).isSome
def Zd2 (s:ByteArray):Int:=match ZcO s with | some k=>k | none=>-1
theorem Zkh (s:ByteArray) (w:World) :
  Calls Tryz.prog 191 #[.string s] w fun e q=>e=.returned (.bool (Zg8 s))∧q=w:=by
 cases d:s.toList == [115,105,122,101]
 ·cases h:s.toList == [119,97,105,116]
  ·cases m:s.toList == [102,97,114];all_goals
    go_enter Tryz.func191,Tryz.ntmps191
    go_wp2_with fail
    go_ret
    exact ⟨Zu (by simp [Zg8,ZcO,kwL,d,h,m]),rfl⟩
  ·go_enter Tryz.func191,Tryz.ntmps191
   go_wp2_with fail
   go_ret
   exact ⟨Zu (by simp [Zg8,ZcO,kwL,d,h]),rfl⟩
 ·go_enter Tryz.func191,Tryz.ntmps191
  go_wp2_with fail
  go_ret
  exact ⟨Zu (by simp [Zg8,ZcO,kwL,d]),rfl⟩
theorem Zry (s:ByteArray) (w:World) :
  Calls Tryz.prog 149 #[.string s] w fun e q=>e=.returned (.int .i64 (Zd2 s))∧q=w:=by
 cases d:s.toList == [115,105,122,101]
 ·cases h:s.toList == [119,97,105,116]
  ·cases m:s.toList == [102,97,114];all_goals
    go_enter Tryz.func149,Tryz.ntmps149
    go_wp2_with fail
    go_ret
    exact ⟨Zaj (by simp [Zd2,ZcO,kwL,d,h,m]),rfl⟩
  ·go_enter Tryz.func149,Tryz.ntmps149
   go_wp2_with fail
   go_ret
   exact ⟨Zaj (by simp [Zd2,ZcO,kwL,d,h]),rfl⟩
 ·go_enter Tryz.func149,Tryz.ntmps149
  go_wp2_with fail
  go_ret
  exact ⟨Zaj (by simp [Zd2,ZcO,kwL,d]),rfl⟩
theorem Zar (w:World) (d:List Value) (t:TypeId):∀ (j:Nat) (u:Value),d[j]?=some u→(w.alloc (.cells d.toArray t)).cell? ((⟨w.heap.size,0,none⟩:Addr).add j)=some u:=by
 intro j u h;have e:(⟨w.heap.size,0,none⟩:Addr).add j=⟨w.heap.size,j,none⟩:=by unfold Addr.add;split <;> simp_all
 rw [e,World.cell?_alloc_new];simpa using h
def Fr (B:Nat) (w:World) (so:Option Addr):Prop:=∀ b off,so=some ⟨b,off,none⟩→B≤b∧∃ cur,w.heap[b]?=some (.cells cur 221 (0,0))
theorem Zsf {w:World} {B:Nat} {size:Nat} {so:Option Addr} {m sc n:Nat} {q:List Value} (h:w.ownsRow B 221 size (.slice so m sc) n q):Fr B w so:=by
 intro b off e;subst e;rcases h.2 with ⟨d,_⟩ | ⟨D,A,E,d,hb,I,_⟩
 ·simp at d
 ·simp only [Value.slice.injEq,Option.some.injEq,Addr.mk.injEq] at d;obtain ⟨⟨rfl,_⟩,_⟩:=d;exact ⟨hb,E,I⟩
theorem Fr.mono {B d:Nat} {w:World} {so:Option Addr} (h:Fr B w so) (m:d≤B):Fr d w so:=fun b o e=>⟨Ym m (h b o e).1,(h b o e).2⟩
theorem Fr.nx {B:Nat} {w A:World} {so:Option Addr} (h:Fr B w so) (hb:Below w.heap.size w A):Fr B A so:=by
 intro b o e;obtain ⟨q,m,d⟩:=h b o e;exact ⟨q,m,(hb.block b (Ya.1 d).1).trans d⟩
theorem Fr.set {B:Nat} {w:World} {so:Option Addr} (h:Fr B w so) {g:Nat} (A:g<B) (a:Nat) (x:Value):Fr B (w.setCell ⟨g,a,none⟩ x) so:=by
 intro b o e;obtain ⟨m,d,q⟩:=h b o e;exact ⟨m,d,(Yf w ⟨g,a,none⟩ x b (by show b≠g;omega)).trans q⟩
theorem Fr.drew {B:Nat} {w:World} {so:Option Addr} (d:Fr B w so):Fr B w.drew so:=d
theorem ZhE (w:World) (g b a c:Nat) (v:Value) (h:g≠b):(w.setCell ⟨g,a,none⟩ v).cell? ⟨b,c,none⟩=w.cell? ⟨b,c,none⟩:=
 World.cell?_setCell_other _ _ _ _ (by intro e;injection e with d e2 e3;exact h d)
theorem RowAt.set {w:World} {so:Option Addr} {m sc n:Nat} {h:List Value} (d:RowAt w (.slice so m sc) n h) {g:Nat} (J:∀ b off,so=some ⟨b,off,none⟩→g≠b) (a:Nat) (x:Value):RowAt (w.setCell ⟨g,a,none⟩ x) (.slice so m sc) n h:=by
 obtain ⟨q,A,e,I,d⟩:=d;refine ⟨q,A,e,I,?_⟩;rcases d with d | ⟨b,off,M,D,E⟩
 ·exact .inl d
 ·refine .inr ⟨b,off,M,by simpa using D,fun j y L=>?_⟩;simp only [Value.slice.injEq] at e;rw [ZhE _ _ _ _ _ _ (J b off (e.1.trans M))];exact E j y L
theorem RowAt.drew {w:World} {v:Value} {n:Nat} {d:List Value} (h:RowAt w v n d):RowAt w.drew v n d:=h
theorem Ze2 {w:World} {m off n q:Nat} {d:List ByteArray} (k:Nat) (h:RowAt w (.slice (some ⟨m,off,none⟩) n q) n (Z6 d)) (Q:d.length=n) (O:k≤n) :
  RowAt w (.slice (if q=k then some ⟨m,off,none⟩ else some ⟨m,off+k,none⟩) (n - k) (q - k)) (n - k) (Z6 (d.drop k)):=by
 obtain ⟨L,M,e,N,h⟩:=h;simp only [Value.slice.injEq] at e;obtain ⟨rfl,_,rfl⟩:=e;by_cases D:q=k
 ·rw [if_pos D];have:d.drop k=[]:=List.drop_of_length_le (by omega);rw [this];exact ⟨_,_,rfl,by omega,.inl rfl⟩
 ·rw [if_neg D];refine ⟨_,_,rfl,by omega,?_⟩;rcases h with h | ⟨b,o,A,E,I⟩
  ·have:d=[]:=by simpa [Z6] using h
   subst this;exact .inl (by simp [Z6])
  ·simp only [Option.some.injEq,Addr.mk.injEq,and_true] at A;obtain ⟨rfl,rfl⟩:=A;refine .inr ⟨m,off+k,rfl,E,fun j x J=>?_⟩;have:=I (k+j) x (by simpa [Z6] using J);rw [Nat.add_assoc];exact this
theorem ZeR {w:World} {so:Option Addr} {m sc n:Nat} {d:List Value} (h:RowAt w (.slice so m sc) n d):n≤sc:=by
 obtain ⟨_,_,e,q,_⟩:=h;simp only [Value.slice.injEq] at e;omega
structure Ln where
 kind:Nat
 name:ByteArray
 frm:ByteArray
 sets:List (Nat×Nat)
 place:Nat
def ZX (k:Nat):ByteArray:=⟨(kwL k).toArray⟩
theorem Zkt {s:ByteArray} {k:Nat} (d:ZcO s=some k):s=ZX k∧k≤2:=by
 have m:∀ l:List UInt8,(s.toList == l)=true→s=⟨l.toArray⟩:=by
  intro l q;apply ZfQ;rw [←ByteArray.toList_eq];simpa using q
 unfold ZcO at d;split at d
 ·rename_i h;cases d;exact ⟨m _ h,by omega⟩
 ·split at d
  ·rename_i h;cases d;exact ⟨m _ h,by omega⟩
  ·split at d
   ·rename_i h;cases d;exact ⟨m _ h,by omega⟩
   ·cases d
def Zah:List (Nat×Nat)→List Value
 | []=>[]
 | p :: r=>.string (ZX p.1) :: .int .i64 (p.2:Int) :: Zah r
theorem Zhc:∀ a b:List (Nat×Nat),Zah (a++b)=Zah a++Zah b
 | [],b=>rfl
 | p :: a,b=>by simp [Zah,Zhc a b]
def Z8:List ByteArray→Option (List (Nat×Nat))
 | []=>some []
 | [_]=>none
 | k :: n :: r=>match ZcO k,Za9 n,Z8 r with
  | some a,some b,some l=>some ((a,b) :: l)
  | _,_,_=>none
theorem Zht:∀ (l:List ByteArray),l.length % 2=1→Z8 l=none
 | [],d=>by simp at d
 | [_],_=>rfl
 | k :: n :: r,d=>by
  have:=Zht r (by simp at d;omega);rw [Z8,this];cases ZcO k <;> cases Za9 n <;> rfl
theorem ZgZ:∀ (l:List ByteArray) (ss:List (Nat×Nat)),Z8 l=some ss→ss.length*2=l.length
 | [],ss,d=>by cases d;rfl
 | [_],ss,d=>by cases d
 | k :: n :: r,ss,d=>by
  rw [Z8] at d;split at d
  ·rename_i a b l m q h
   cases d;have:=ZgZ r l h;simp;omega
  ·cases d
theorem ZlY {k n:ByteArray} {r:List ByteArray} {a b:Nat} (d:ZcO k=some a) (h:Za9 n=some b):Z8 (k :: n :: r)=(Z8 r).map ((a,b) :: ·):=by
 rw [Z8,d,h];cases Z8 r <;> rfl
theorem ZlN {k n:ByteArray} {r:List ByteArray} (d:ZcO k=none):Z8 (k :: n :: r)=none:=by
 rw [Z8,d]
theorem Zln {k n:ByteArray} {r:List ByteArray} (d:Za9 n=none):Z8 (k :: n :: r)=none:=by
 rw [Z8,d];cases ZcO k <;> rfl
theorem Ztb {a:Option Addr} {n d c:Nat} {b:Bool} (h:n=d):Ending.returned (.tuple #[.slice a n c,.bool b])=.returned (.tuple #[.slice a d c,.bool b]):=by rw [h]
theorem ZpU:(Tryz.prog.info? 221).map (fun i=>(i.zero,i.size,i.bytes))=some (some (.agg #[.string ⟨#[]⟩,.int .i64 0]),2,24):=by kernel_rfl
theorem Zdl (Y:Option Addr) (aa n:Nat) (d:List ByteArray) (w:World) (O:RowAt w (.slice Y n aa) n (Z6 d)) (aj:d.length=n) (bj:n≤1001) (ao:∀ p∈d,p.size≤1000) :
  Calls Tryz.prog 188 #[.slice Y n aa] w fun e A =>
   (Z8 d=none∧e=.returned (.tuple #[.slice none 0 0,.bool false])∧Below w.heap.size w A) ∨
   (∃ ss so sc,Z8 d=some ss∧e=.returned (.tuple #[.slice so ss.length sc,.bool true])∧RowAt A (.slice so ss.length sc) ss.length (Zah ss)∧Fr w.heap.size A so∧Below w.heap.size w A):=by
 obtain ⟨a8,ay,a0,a1,a6⟩:=info_parts ZpU;have I:Hid (RowAt w (.slice Y n aa) n (Z6 d)∧d.length=n∧∀ p∈d,p.size≤1000):=⟨O,aj,ao⟩;clear O aj ao;by_cases al:n % 2=1
 ·have ak:((n:Int) % 2 != 0)=true:=by rw [bne_iff_ne];omega
  have HO:Hid (Z8 d=none):=Zht d (by rw [I.out.2.1];exact al);go_enter Tryz.func188,Tryz.ntmps188
  go_wp2_with fail
  go_ret2
  exact .inl ⟨HO.out,rfl,Yh _ _⟩
 have ak:((n:Int) % 2 != 0)=false:=by
  have:(n:Int) % 2=0:=by omega
  rw [this];rfl
 have ar:Hid (n % 2=0):=by show _=_;omega
 clear al;go_enter Tryz.func188,Tryz.ntmps188
 go_wp2_with fail
 clear ak;generalize az:((n:Int) % 2)=r10;clear az;go_loopw [4,5] (fun v i wr=>∃ (h m:Nat) (q:List (Nat×Nat)),h≤n∧i=.int .i64 h∧m≤h∧Hid (h % 2=0)∧Hid (Z8 d=(Z8 (d.drop h)).map (q++·)∧q.length=m)∧wr.ownsRow w.heap.size 221 2 v m (Zah q)∧Below w.heap.size w wr) (fun _ i _=>n - (intOf i).toNat)
 case atStart=>exact ⟨0,0,[],Ye _,rfl,Yd _,rfl,⟨by simp,rfl⟩,World.ownsRow_made w #[] 0 (Yd _) (Ye _) rfl,Zc _ _⟩
 case round =>
  obtain ⟨h,m,q,bg,rfl,bi,ae,M,L,D⟩:=hrel;have aw:w.heap.size≤wr.heap.size:=D.size;by_cases bh:h+1<n
  ·obtain ⟨p,ac⟩:∃ p,d[h]?=some p:=⟨_,Yb (by rw [I.out.2.1];omega)⟩;obtain ⟨bk,bl⟩:∃ bk,d[h+1]?=some bk:=⟨_,Yb (by rw [I.out.2.1];omega)⟩;obtain ⟨au,off,rfl,bd,be⟩:=(I.out.1.nx D).at (ZdH ac);obtain ⟨av,a7,af,_,bf⟩:=(I.out.1.nx D).at (ZdH bl);obtain ⟨rfl,rfl⟩:au=av∧off=a7:=by simpa using af
   clear af;have U:Hid (d.drop h=p :: bk :: d.drop (h+2)):=by
    show _=_;rw [Zas ac,Zas bl]
   have ad:bk.size≤1000:=I.out.2.2 bk (Yo bl);clear ac bl;cases E:Za9 bk with
   | none =>
    have N:Hid (Z8 d=none):=by show _=_;rw [M.out.1,U.out,Zln E];rfl
    have Q:ZdN bk=false:=by simp [ZdN,E]
    clear E;go_wp2_with fail
    refine (Zb5 bk _ ad).mono ?_;rintro e A ⟨rfl,rfl⟩;rw [Q];go_wp2_with fail
    go_ret2
    exact .inl ⟨N.out,rfl,D⟩
   | some b =>
    have Q:ZdN bk=true:=by simp [ZdN,E]
    have ag:Zet bk=(b:Int):=by simp [Zet,E]
    cases J:ZcO p with
    | none =>
     have N:Hid (Z8 d=none):=by show _=_;rw [M.out.1,U.out,ZlN J];rfl
     have ab:Zg8 p=false:=by simp [Zg8,J]
     clear E J;go_wp2_with fail
     refine (Zb5 bk _ ad).mono ?_;rintro e A ⟨rfl,rfl⟩;rw [Q,ag];go_wp2_with fail
     refine (Zkh p _).mono ?_;rintro e A ⟨rfl,rfl⟩;rw [ab];go_wp2_with fail
     go_ret2
     exact .inl ⟨N.out,rfl,D⟩
    | some a =>
     have N:Hid (Z8 d=(Z8 (d.drop (h+2))).map ((q++[(a,b)])++·)):=by
      show _=_;rw [M.out.1,U.out,ZlY J E];cases Z8 (d.drop (h+2)) <;> simp
     have ab:Zg8 p=true:=by simp [Zg8,J]
     obtain ⟨rfl,_⟩:=Zkt J;clear E J;go_wp2_with fail
     refine (Zb5 bk _ ad).mono ?_;rintro e A ⟨rfl,rfl⟩;rw [Q,ag];go_wp2_with fail
     refine (Zkh (ZX a) _).mono ?_;rintro e A ⟨rfl,rfl⟩;rw [ab];go_wp2_with (at_builtin;refine wpList_append_own _ rfl (.tmp 39) (.tmp 46) 165 rfl w.heap.size 221 a8 _ 2 24 Tryz.underlying165 ay a0 a1 a6 rfl (by decide) _ _ _ rfl (L.alloc _) ⟨A.heap.size,0,none⟩ 1 1 [.string (ZX a),.int .i64 (b:Int)] rfl rfl (Zar _ [.string (ZX a),.int .i64 (b:Int)] _) ?c2 ?c3 ?c4 ?c5 ?next)
     case c2=>intro u ap;simp at ap;rcases ap with rfl | rfl <;> rfl
     case c3=>unfold maxLen;omega
     case c4=>omega
     case c5=>simp;omega
     case next =>
      intro v' aq am ai _;have R:aq.ownsRow w.heap.size 221 2 v' (m+1) (Zah (q++[(a,b)]))∧Below w.heap.size w aq:=by
       refine ⟨by rw [Zhc];exact am,(D.alloc aw _).grown ai (by simp;omega) (fun g ax=>(L.lt g ax).1)⟩
      clear am ai L D;go_wp2_with fail
      go_roundw
      case rel=>exact ⟨h+2,m+1,q++[(a,b)],by omega,by go_num,by omega,(by show _=_;have:=ae.out;omega),⟨N.out,by simp [M.out.2]⟩,R.1,R.2⟩
      case measure=>simp [intOf];omega
  ·have V:Hid (Z8 d=some q∧q.length=m):=by
    have e:d.drop h=[]:=List.drop_of_length_le (by rw [I.out.2.1];have a9:=ae.out;have bc:=ar.out;omega);refine ⟨?_,M.out.2⟩;rw [M.out.1,e];simp [Z8]
   have O:=Zf L;obtain ⟨so,sc,rfl,_⟩:=Zf L;have ah:=Zsf L;have X:Hid (RowAt wr (.slice so m sc) m (Zah q)∧Below w.heap.size w wr∧Fr w.heap.size wr so):=⟨O,D,ah⟩;clear O L D ah;go_wp2_with fail
   go_ret2
   refine .inr ⟨q,so,sc,V.out.1,?_,?_,X.out.2.2,X.out.2.1⟩
   ·exact Ztb V.out.2.symm
   ·rw [V.out.2];exact X.out.1
end Co
end Go.Proofs.YtmgkcbdlfodjmaaGreatDoor
