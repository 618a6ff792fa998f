import Derived.Test.YtcpikklofilkcaaGreatProg
import Derived.WalkKit
import Derived.WalkSpells
import Derived.WalkLawsBesides
import Derived.BigQuiet
import Derived.Deep.QuietTactic
set_option maxRecDepth 100000
set_option maxHeartbeats 16000000
namespace Go.Proofs.YtcpikklofilkcaaGreat
open Go.RowKit
namespace Co
theorem Zl {a b:Bool} (h:a=b):Ending.returned (.bool a)=.returned (.bool b):=by rw [h]
def lets (l:List UInt8):Bool:=l.all fun c=>97≤c&&c≤122
def isNm (s:ByteArray):Bool:=decide (1≤s.size)&&decide (s.size≤8)&&lets s.data.toList
theorem Zav (s:ByteArray) (k:Nat) (h:k<s.size):s.data.toList.take (k+1)=s.data.toList.take k++[s[k]]:=by
 rw [List.take_succ_eq_append_getElem (by simpa using h)];rfl
theorem ZfZ (s:ByteArray) (k:Nat) (h:¬k<s.size):s.data.toList.take k=s.data.toList:=by
 refine List.take_of_length_le ?_;have e:s.data.toList.length=s.size:=by rw [Array.length_toList];rfl
 omega
theorem Zer (s:ByteArray) (k:Nat) (h:k<s.size) (hl:lets (s.data.toList.take k)=true) (h1:(97:Int)≤(s[k].toNat:Int)) (h2:(s[k].toNat:Int)≤122) :
  lets (s.data.toList.take (k+1))=true:=by
 rw [Zav s k h];unfold lets at *;rw [List.all_append,hl];simp [UInt8.le_iff_toNat_le];omega
theorem ZbK (s:ByteArray) (k:Nat) (h:k<s.size) (hb:(s[k].toNat:Int)<97∨122<(s[k].toNat:Int)):isNm s=false:=by
 have hm:s[k]∈s.data.toList:=by
  rw [←List.take_append_drop (k+1) s.data.toList,Zav s k h];simp
 unfold isNm;have:lets s.data.toList=false:=by
  unfold lets;rw [List.all_eq_false];refine ⟨s[k],hm,?_⟩;simp [UInt8.le_iff_toNat_le];omega
 rw [this];simp
theorem Zgz (s:ByteArray) (k:Nat) (hk:¬k<s.size) (hl:lets (s.data.toList.take k)=true):isNm s=(decide (1≤s.size)&&decide (s.size≤8)):=by
 rw [ZfZ s k hk] at hl;simp [isNm,hl]
theorem ZeY (s:ByteArray) (w:World) (hs:s.size≤maxLen) :
  Calls Tryz.prog 134 #[.string s] w fun e w'=>e=.returned (.bool (isNm s))∧w'=w:=by
 unfold maxLen at hs;go_enter Tryz.func134,Tryz.ntmps134
 go_wp2
 go_loop [3] (fun i=>∃ k:Nat,k≤s.size∧i=.int .i64 k∧lets (s.data.toList.take k)=true) (fun i=>s.size - (intOf i).toNat)
 case atStart=>exact ⟨0,Nat.zero_le _,rfl,rfl⟩
 case round =>
  obtain ⟨k,hk,rfl,hl⟩:=hrel;have HL:Hid (lets (s.data.toList.take k)=true):=hl;clear hl;by_cases hlt:k<s.size
  ·by_cases h1:(97:Int)≤(s[k].toNat:Int)
   ·by_cases h2:(s[k].toNat:Int)≤122
    ·go_wp2
     go_round
     case rel=>exact ⟨k+1,by omega,by go_num,Zer s k hlt HL.out h1 h2⟩
     case measure=>simp [intOf];omega
    ·go_wp2
     go_ret
     exact ⟨Zl (ZbK s k hlt (by omega)).symm,rfl⟩
   ·go_wp2
    go_ret
    exact ⟨Zl (ZbK s k hlt (by omega)).symm,rfl⟩
  ·have hn:=Zgz s k hlt HL.out;have HN:Hid (isNm s=(decide (1≤s.size)&&decide (s.size≤8))):=hn;clear hn;by_cases h0:0<s.size
   ·go_wp2
    go_ret
    exact ⟨Zl (by rw [HN.out,Bool.eq_iff_iff];simp;omega),rfl⟩
   ·go_wp2
    go_ret
    exact ⟨Zl (by rw [HN.out,Bool.eq_iff_iff];simp;omega),rfl⟩
theorem ZV (s:ByteArray) (w:World) (hs:s.size≤maxLen) :
  Calls Tryz.prog 164 #[.string s] w fun e w'=>e=.returned (.bool (isNm s))∧w'=w:=by
 unfold maxLen at hs;by_cases ha:s.size<1
 ·go_enter Tryz.func164,Tryz.ntmps164
  go_wp2
  go_ret
  exact ⟨Zl (by simp [isNm];omega),rfl⟩
 by_cases hb:8<s.size
 ·go_enter Tryz.func164,Tryz.ntmps164
  go_wp2
  go_ret
  exact ⟨Zl (by simp [isNm];omega),rfl⟩
 have hb1:decide ((8:Int)<(s.size:Int))=false:=by simp;omega
 have hb2:decide ((s.size:Int)<1)=false:=by simp;omega
 go_enter Tryz.func164,Tryz.ntmps164
 go_wp2
 go_loop [3] (fun i=>∃ k:Nat,k≤s.size∧i=.int .i64 k∧lets (s.data.toList.take k)=true) (fun i=>s.size - (intOf i).toNat)
 case atStart=>exact ⟨0,Nat.zero_le _,rfl,rfl⟩
 case round =>
  obtain ⟨k,hk,rfl,hl⟩:=hrel;have HL:Hid (lets (s.data.toList.take k)=true):=hl;clear hl;by_cases hlt:k<s.size
  ·by_cases h1:(97:Int)≤(s[k].toNat:Int)
   ·by_cases h2:(s[k].toNat:Int)≤122
    ·go_wp2
     go_round
     case rel=>exact ⟨k+1,by omega,by go_num,Zer s k hlt HL.out h1 h2⟩
     case measure=>simp [intOf];omega
    ·go_wp2
     go_ret
     exact ⟨Zl (ZbK s k hlt (by omega)).symm,rfl⟩
   ·go_wp2
    go_ret
    exact ⟨Zl (ZbK s k hlt (by omega)).symm,rfl⟩
  ·have hn:=Zgz s k hlt HL.out;have HN:Hid (isNm s=(decide (1≤s.size)&&decide (s.size≤8))):=hn;clear hn;go_wp2
   go_ret
   exact ⟨Zl (by rw [HN.out,Bool.eq_iff_iff];simp;omega),rfl⟩
def inB (lo hi n:Int):Bool:=decide (lo≤n)&&decide (n≤hi)
theorem Zcy {lo hi n:Int} (h1:n<lo):inB lo hi n=false:=by simp [inB];omega
abbrev sBudget:ByteArray:=⟨#[98,117,100,103,101,116]⟩
abbrev sSize:ByteArray:=⟨#[115,105,122,101]⟩
abbrev sWait:ByteArray:=⟨#[119,97,105,116]⟩
abbrev sFar:ByteArray:=⟨#[102,97,114]⟩
theorem Zf6 (n:Int) (w:World) :
  Calls Tryz.prog 166 #[.string sBudget,.int .i64 n] w fun e w'=>e=.returned (.bool (inB 1 99 n))∧w'=w:=by
 by_cases h1:1≤n
 ·go_enter Tryz.func166,Tryz.ntmps166
  go_wp2
  go_ret
  exact ⟨Zl (by simp [inB,h1]),rfl⟩
 ·go_enter Tryz.func166,Tryz.ntmps166
  go_wp2
  go_ret
  exact ⟨Zl (Zcy (by omega)).symm,rfl⟩
theorem ZhG (n:Int) (w:World) :
  Calls Tryz.prog 166 #[.string sSize,.int .i64 n] w fun e w'=>e=.returned (.bool (inB 0 20 n))∧w'=w:=by
 by_cases h1:0≤n
 ·go_enter Tryz.func166,Tryz.ntmps166
  go_wp2
  go_ret
  exact ⟨Zl (by simp [inB,h1]),rfl⟩
 ·go_enter Tryz.func166,Tryz.ntmps166
  go_wp2
  go_ret
  exact ⟨Zl (Zcy (by omega)).symm,rfl⟩
theorem ZhI (n:Int) (w:World) :
  Calls Tryz.prog 166 #[.string sWait,.int .i64 n] w fun e w'=>e=.returned (.bool (inB 0 20 n))∧w'=w:=by
 by_cases h1:0≤n
 ·go_enter Tryz.func166,Tryz.ntmps166
  go_wp2
  go_ret
  exact ⟨Zl (by simp [inB,h1]),rfl⟩
 ·go_enter Tryz.func166,Tryz.ntmps166
  go_wp2
  go_ret
  exact ⟨Zl (Zcy (by omega)).symm,rfl⟩
theorem ZiP (n:Int) (w:World) :
  Calls Tryz.prog 166 #[.string sFar,.int .i64 n] w fun e w'=>e=.returned (.bool (inB 0 999 n))∧w'=w:=by
 by_cases h1:0≤n
 ·go_enter Tryz.func166,Tryz.ntmps166
  go_wp2
  go_ret
  exact ⟨Zl (by simp [inB,h1]),rfl⟩
 ·go_enter Tryz.func166,Tryz.ntmps166
  go_wp2
  go_ret
  exact ⟨Zl (Zcy (by omega)).symm,rfl⟩
theorem Za {a b c:World} (h:Below a.heap.size a b) (k:Below b.heap.size b c):Below a.heap.size a c:=h.trans (k.mono h.size)
theorem Zb (w:World) (o:Obj):Below w.heap.size w (w.alloc o):=(Below.refl _ _).alloc (Nat.le_refl _) o
theorem Zfd {w wr:World} {o:Obj} (h:Below (w.alloc o).heap.size (w.alloc o) wr):w.heap.size<wr.heap.size:=by
 have:=h.size;rw [World.size_alloc] at this;omega
theorem ZaY:∀ (x y:List UInt8),(Op.bytesLess y x||y == x)=!(Op.bytesLess x y)
 | [],[]=>by simp [Op.bytesLess]
 | [],b :: y=>by simp [Op.bytesLess]
 | a :: x,[]=>by simp [Op.bytesLess]
 | a :: x,b :: y=>by
  have ih:=ZaY x y;simp only [Op.bytesLess];by_cases h1:a<b
  ·have h2:¬b<a:=by simp [UInt8.lt_iff_toNat_lt] at *;omega
   have h3:¬b=a:=by intro h;subst h;simp at h1
   simp [h1,h2,h3]
  ·by_cases h2:b<a
   ·have h3:¬a=b:=by intro h;subst h;simp at h2
    simp [h1,h2,h3]
   ·have h3:a=b:=by
     rw [←UInt8.toNat_inj];simp [UInt8.lt_iff_toNat_lt] at *;omega
    subst h3;simpa [h1] using ih
def lt (a b:ByteArray):Bool:=Op.bytesLess a.toList b.toList
theorem Zks (a b:ByteArray):(Op.bytesLess a.toList b.toList||a.toList == b.toList)=!(lt b a):=ZaY _ _
theorem ZiX (s:ByteArray) (h:isNm s=true):lt ⟨#[]⟩ s=true:=by
 simp [isNm] at h;unfold lt;rw [ByteArray.toList_eq s];have e:s.data.toList.length=s.size:=by rw [Array.length_toList];rfl
 have e0:(ByteArray.mk #[]).toList=[]:=ByteArray.toList_mk [];rw [e0];cases hl:s.data.toList with
 | nil=>rw [hl] at e;simp at e;omega
 | cons a r=>rfl
theorem hideIt {p:Prop} (h:p):Hid p:=h
theorem Zy {α:Type} {l:List α} {k:Nat} {p:α} (h:l[k]?=some p):l.drop k=p :: l.drop (k+1):=by
 obtain ⟨hk,rfl⟩:=List.getElem?_eq_some_iff.1 h;exact List.drop_eq_getElem_cons hk
theorem Zhs {a b:ByteArray} (h:a.data.toList=b.data.toList):a=b:=Go.WideShapes.bytes_inj h
def RowAt (w:World) (v:Value) (n:Nat) (cs:List Value):Prop:=
 ∃ ao cap,v=.slice ao n cap∧n≤cap∧(cs=[]∨∃ b off,ao=some ⟨b,off,none⟩∧b<w.heap.size∧∀ (j:Nat) (x:Value),cs[j]?=some x→w.cell? ⟨b,off+j,none⟩=some x)
theorem RowAt.nx {w w':World} {v:Value} {n:Nat} {cs:List Value} (h:RowAt w v n cs) (hb:Below w.heap.size w w'):RowAt w' v n cs:=by
 obtain ⟨ao,cap,rfl,hc,h⟩:=h;refine ⟨ao,cap,rfl,hc,?_⟩;rcases h with h | ⟨b,off,h1,h2,h3⟩
 ·exact .inl h
 ·refine .inr ⟨b,off,h1,Nat.lt_of_lt_of_le h2 hb.size,fun j x hx=>?_⟩;rw [hb.cell (p:=⟨b,off+j,none⟩) h2];exact h3 j x hx
theorem Zak (w:World) (ao:Option Addr) (cap:Nat):RowAt w (.slice ao 0 cap) 0 []:=⟨ao,cap,rfl,Nat.zero_le _,.inl rfl⟩
theorem Zd {w:World} {B:Nat} {e:TypeId} {size:Nat} {v:Value} {n:Nat} {xs:List Value} (h:w.ownsRow B e size v n xs):RowAt w v n xs:=by
 obtain ⟨hl,h⟩:=h;rcases h with ⟨rfl,rfl⟩ | ⟨g,cap,cur,rfl,hb,hg,hn,hm,hs,ht⟩
 ·obtain rfl:xs=[]:=List.eq_nil_of_length_eq_zero (by simpa using hl);exact Zak _ _ _
 ·refine ⟨some ⟨g,0,none⟩,cap,rfl,hn,.inr ⟨g,0,rfl,(Array.getElem?_eq_some_iff.1 hg).1,fun j x hx=>?_⟩⟩;have e:w.cell? ⟨g,0+j,none⟩=cur.toList[j]?:=by simp [World.cell?,hg]
  rw [e];rw [←ht] at hx;rw [List.getElem?_take] at hx;split at hx
  ·exact hx
  ·cases hx
theorem ZcE {w:World} {B:Nat} {e:TypeId} {size:Nat} {v:Value} {n:Nat} {xs:List Value} (h:w.ownsRow B e size v n xs) (k:Nat):(w.drewN k).ownsRow B e size v n xs:=h
theorem Zk {w w':World} {B:Nat} {e:TypeId} {size:Nat} {v:Value} {n:Nat} {xs:List Value} (h:w.ownsRow B e size v n xs) (hb:Below w.heap.size w w'):w'.ownsRow B e size v n xs:=by
 obtain ⟨hl,h⟩:=h;refine ⟨hl,?_⟩;rcases h with h | ⟨g,cap,cur,h1,h2,hg,h4⟩
 ·exact .inl h
 ·exact .inr ⟨g,cap,cur,h1,h2,(hb.block g (Array.getElem?_eq_some_iff.1 hg).1).trans hg,h4⟩
def strs (fs:List ByteArray):List Value:=fs.map Value.string
theorem Zax {fs:List ByteArray} {k:Nat} {s:ByteArray} (h:fs[k]?=some s):(strs fs)[k]?=some (.string s):=by simp [strs,h]
def spl (s:ByteArray) (c:Nat):Nat→List ByteArray×Nat
 | 0=>([],0)
 | i+1=>if (s.data.toList.getD i 0).toNat=c then ((spl s c i).1++[s.extract (spl s c i).2 i],i+1) else spl s c i
def pieces (s:ByteArray) (c:Nat):List ByteArray:=(spl s c s.size).1++[s.extract (spl s c s.size).2 s.size]
theorem Zip (s:ByteArray) (c:Nat):∀ i,(spl s c i).2≤i∧(spl s c i).1.length≤i
 | 0=>by simp [spl]
 | i+1=>by
  have:=Zip s c i;unfold spl;split
  ·simp;omega
  ·omega
theorem Zgp (s:ByteArray) (i:Nat) (h:i<s.size):s.data.toList.getD i 0=s[i]:=by
 have h':i<s.data.toList.length:=by simpa using h
 rw [List.getD_eq_getElem?_getD,List.getElem?_eq_getElem h'];rfl
theorem Zgg (s:ByteArray) (c:Nat) (i:Nat) (h:i<s.size) (hc:s[i].toNat=c):spl s c (i+1)=((spl s c i).1++[s.extract (spl s c i).2 i],i+1):=by
 rw [spl,Zgp s i h,if_pos hc]
theorem ZfN (s:ByteArray) (c:Nat) (i:Nat) (h:i<s.size) (hc:¬s[i].toNat=c):spl s c (i+1)=spl s c i:=by
 rw [spl,Zgp s i h,if_neg hc]
theorem Zbl (s:ByteArray) (a b:Nat):(s.extract a b).size≤s.size:=by
 rw [ByteArray.size_extract];omega
theorem ZcI (s:ByteArray) (c:Nat):∀ i,∀ p∈(spl s c i).1,p.size≤s.size
 | 0,p,h=>by simp [spl] at h
 | i+1,p,h=>by
  rw [spl] at h;split at h
  ·rcases List.mem_append.1 h with h | h
   ·exact ZcI s c i p h
   ·simp at h;subst h;exact Zbl _ _ _
  ·exact ZcI s c i p h
theorem ZaE (s:ByteArray) (c:Nat):∀ p∈pieces s c,p.size≤s.size:=by
 intro p h;rcases List.mem_append.1 h with h | h
 ·exact ZcI s c _ p h
 ·simp at h;subst h;exact Zbl _ _ _
theorem Zai (s:ByteArray) (c:Nat):(pieces s c).length≤s.size+1:=by
 have:=(Zip s c s.size).2;simp [pieces];omega
theorem Zb2:(Tryz.prog.info? 9).map (fun i=>(i.zero,i.size,i.bytes))=some (some (.string ⟨#[]⟩),1,16):=by kernel_rfl
theorem Zew (s:ByteArray) (c:Nat) (w:World) (hs:s.size≤1000) :
  Calls Tryz.prog 88 #[.string s,.int .u8 c] w fun e w'=>∃ v,e=.returned v∧w'.ownsRow w.heap.size 9 1 v (pieces s c).length (strs (pieces s c))∧Below w.heap.size w w':=by
 obtain ⟨i0,hi,hz0,hz1,hz2⟩:=info_parts Zb2;go_enter Tryz.func88,Tryz.ntmps88
 go_wp2_with fail
 go_loopw [5,6,7] (fun v f i wr=>∃ (k st n:Nat) (acc:List ByteArray),k≤s.size∧i=.int .i64 k∧f=.int .i64 st∧st≤k∧n≤k∧Hid (spl s c k=(acc,st)∧acc.length=n)∧wr.ownsRow w.heap.size 9 1 v n (strs acc)∧Below w.heap.size w wr) (fun _ _ i _=>s.size - (intOf i).toNat)
 case atStart=>exact ⟨0,0,0,[],Nat.zero_le _,rfl,rfl,Nat.le_refl _,Nat.le_refl _,⟨rfl,rfl⟩,World.ownsRow_made w #[] 0 (Nat.le_refl _) (Nat.zero_le _) rfl,Zb _ _⟩
 case round =>
  obtain ⟨k,st,n,acc,hk,rfl,rfl,hst,hn,HS,hown,hbel⟩:=hrel;have hBw:w.heap.size≤wr.heap.size:=hbel.size;by_cases hlt:k<s.size
  ·by_cases hc:s[k].toNat=c
   ·have hcb:((s[k].toNat:Int) == (c:Int))=true:=by simp [hc]
    have HC:Hid (s[k].toNat=c):=hc;clear hc;go_wp2_with (at_builtin;refine wpList_append_own _ rfl (.tmp 20) (.tmp 25) 142 rfl w.heap.size 9 i0 (.string ⟨#[]⟩) 1 16 Tryz.underlying142 hi hz0 hz1 hz2 rfl (by decide) _ _ _ rfl (hown.alloc _) ⟨wr.heap.size,0,none⟩ 1 1 [.string (s.extract st k)] rfl rfl (cell_one_new _ _ _) ?c2 ?c3 ?c4 ?c5 ?next)
    case c2=>intro u hu;simp at hu;subst hu;rfl
    case c3=>unfold maxLen;omega
    case c4=>omega
    case c5=>simp;omega
    case next =>
     intro v' w1 hown' hgrow _;have R:w1.ownsRow w.heap.size 9 1 v' (n+1) (strs (acc++[s.extract st k]))∧Below w.heap.size w w1:=by
      refine ⟨by simpa [strs] using hown',(hbel.alloc hBw _).grown hgrow (by simp;omega) (fun g hg=>(hown.lt g hg).1)⟩
     clear hown' hgrow hown hbel;go_wp2_with fail
     go_roundw
     case rel=>exact ⟨k+1,k+1,n+1,acc++[s.extract st k],by omega,by go_num,by go_num,Nat.le_refl _,by omega,⟨(by rw [Zgg s c k hlt HC.out,HS.out.1]),by simp [HS.out.2]⟩,R.1,R.2⟩
     case measure=>simp [intOf];omega
   ·have hcb:((s[k].toNat:Int) == (c:Int))=false:=by simp;omega
    have HC:Hid (¬s[k].toNat=c):=hc;clear hc;go_wp2_with fail
    go_roundw
    case rel=>exact ⟨k+1,st,n,acc,by omega,by go_num,rfl,by omega,by omega,⟨(by rw [ZfN s c k hlt HC.out,HS.out.1]),HS.out.2⟩,hown,hbel⟩
    case measure=>simp [intOf];omega
  ·obtain rfl:k=s.size:=by omega
   have HP:Hid (pieces s c=acc++[s.extract st s.size]∧(pieces s c).length=n+1):=by
    have e:pieces s c=acc++[s.extract st s.size]:=by rw [pieces,HS.out.1]
    exact ⟨e,by rw [e];simp [HS.out.2]⟩
   go_wp2_with (at_builtin;refine wpList_append_own _ rfl (.tmp 29) (.tmp 33) 142 rfl w.heap.size 9 i0 (.string ⟨#[]⟩) 1 16 Tryz.underlying142 hi hz0 hz1 hz2 rfl (by decide) _ _ _ rfl (hown.alloc _) ⟨wr.heap.size,0,none⟩ 1 1 [.string (s.extract st s.size)] rfl rfl (cell_one_new _ _ _) ?d2 ?d3 ?d4 ?d5 ?last)
   case d2=>intro u hu;simp at hu;subst hu;rfl
   case d3=>unfold maxLen;omega
   case d4=>omega
   case d5=>simp;omega
   case last =>
    intro v' w1 hown' hgrow _;have R:w1.ownsRow w.heap.size 9 1 v' (n+1) (strs (acc++[s.extract st s.size]))∧Below w.heap.size w w1:=by
     refine ⟨by simpa [strs] using hown',(hbel.alloc hBw _).grown hgrow (by simp;omega) (fun g hg=>(hown.lt g hg).1)⟩
    clear hown' hgrow hown hbel;go_wp2_with fail
    go_ret
    exact ⟨_,rfl,(by rw [HP.out.2,HP.out.1];exact R.1),R.2⟩
theorem ZdW (s:ByteArray) (c:Nat) (w:World) (hs:s.size≤1000) :
  Calls Tryz.prog 96 #[.string s,.int .u8 c] w fun e w'=>∃ v,e=.returned v∧w'.ownsRow w.heap.size 9 1 v (pieces s c).length (strs (pieces s c))∧Below w.heap.size w w':=by
 obtain ⟨i0,hi,hz0,hz1,hz2⟩:=info_parts Zb2;go_enter Tryz.func96,Tryz.ntmps96
 go_wp2_with fail
 go_loopw [5,6,7] (fun v f i wr=>∃ (k st n:Nat) (acc:List ByteArray),k≤s.size∧i=.int .i64 k∧f=.int .i64 st∧st≤k∧n≤k∧Hid (spl s c k=(acc,st)∧acc.length=n)∧wr.ownsRow w.heap.size 9 1 v n (strs acc)∧Below w.heap.size w wr) (fun _ _ i _=>s.size - (intOf i).toNat)
 case atStart=>exact ⟨0,0,0,[],Nat.zero_le _,rfl,rfl,Nat.le_refl _,Nat.le_refl _,⟨rfl,rfl⟩,World.ownsRow_nil _ _ _ _,Below.refl _ _⟩
 case round =>
  obtain ⟨k,st,n,acc,hk,rfl,rfl,hst,hn,HS,hown,hbel⟩:=hrel;have hBw:w.heap.size≤wr.heap.size:=hbel.size;by_cases hlt:k<s.size
  ·by_cases hc:s[k].toNat=c
   ·have hcb:((s[k].toNat:Int) == (c:Int))=true:=by simp [hc]
    have HC:Hid (s[k].toNat=c):=hc;clear hc;go_wp2_with (at_builtin;refine wpList_append_own _ rfl (.tmp 19) (.tmp 24) 142 rfl w.heap.size 9 i0 (.string ⟨#[]⟩) 1 16 Tryz.underlying142 hi hz0 hz1 hz2 rfl (by decide) _ _ _ rfl (hown.alloc _) ⟨wr.heap.size,0,none⟩ 1 1 [.string (s.extract st k)] rfl rfl (cell_one_new _ _ _) ?c2 ?c3 ?c4 ?c5 ?next)
    case c2=>intro u hu;simp at hu;subst hu;rfl
    case c3=>unfold maxLen;omega
    case c4=>omega
    case c5=>simp;omega
    case next =>
     intro v' w1 hown' hgrow _;have R:w1.ownsRow w.heap.size 9 1 v' (n+1) (strs (acc++[s.extract st k]))∧Below w.heap.size w w1:=by
      refine ⟨by simpa [strs] using hown',(hbel.alloc hBw _).grown hgrow (by simp;omega) (fun g hg=>(hown.lt g hg).1)⟩
     clear hown' hgrow hown hbel;go_wp2_with fail
     go_roundw
     case rel=>exact ⟨k+1,k+1,n+1,acc++[s.extract st k],by omega,by go_num,by go_num,Nat.le_refl _,by omega,⟨(by rw [Zgg s c k hlt HC.out,HS.out.1]),by simp [HS.out.2]⟩,R.1,R.2⟩
     case measure=>simp [intOf];omega
   ·have hcb:((s[k].toNat:Int) == (c:Int))=false:=by simp;omega
    have HC:Hid (¬s[k].toNat=c):=hc;clear hc;go_wp2_with fail
    go_roundw
    case rel=>exact ⟨k+1,st,n,acc,by omega,by go_num,rfl,by omega,by omega,⟨(by rw [ZfN s c k hlt HC.out,HS.out.1]),HS.out.2⟩,hown,hbel⟩
    case measure=>simp [intOf];omega
  ·obtain rfl:k=s.size:=by omega
   have HP:Hid (pieces s c=acc++[s.extract st s.size]∧(pieces s c).length=n+1):=by
    have e:pieces s c=acc++[s.extract st s.size]:=by rw [pieces,HS.out.1]
    exact ⟨e,by rw [e];simp [HS.out.2]⟩
   go_wp2_with (at_builtin;refine wpList_append_own _ rfl (.tmp 28) (.tmp 32) 142 rfl w.heap.size 9 i0 (.string ⟨#[]⟩) 1 16 Tryz.underlying142 hi hz0 hz1 hz2 rfl (by decide) _ _ _ rfl (hown.alloc _) ⟨wr.heap.size,0,none⟩ 1 1 [.string (s.extract st s.size)] rfl rfl (cell_one_new _ _ _) ?d2 ?d3 ?d4 ?d5 ?last)
   case d2=>intro u hu;simp at hu;subst hu;rfl
   case d3=>unfold maxLen;omega
   case d4=>omega
   case d5=>simp;omega
   case last =>
    intro v' w1 hown' hgrow _;have R:w1.ownsRow w.heap.size 9 1 v' (n+1) (strs (acc++[s.extract st s.size]))∧Below w.heap.size w w1:=by
     refine ⟨by simpa [strs] using hown',(hbel.alloc hBw _).grown hgrow (by simp;omega) (fun g hg=>(hown.lt g hg).1)⟩
    clear hown' hgrow hown hbel;go_wp2_with fail
    go_ret
    exact ⟨_,rfl,(by rw [HP.out.2,HP.out.1];exact R.1),R.2⟩
theorem Zji (s:ByteArray) (w:World) (hs:s.size≤1000) :
  Calls Tryz.prog 88 #[.string s,.int .u8 10] w fun e w'=>∃ ao cap,e=.returned (.slice ao (pieces s 10).length cap)∧RowAt w' (.slice ao (pieces s 10).length cap) (pieces s 10).length (strs (pieces s 10))∧Below w.heap.size w w':=
 (show Calls Tryz.prog 88 #[.string s,.int .u8 10] w _ from Zew s 10 w hs).mono (by
  rintro e w' ⟨v,rfl,h,hb⟩;have hr:=Zd h;obtain ⟨ao,cap,rfl,h1⟩:=Zd h;exact ⟨ao,cap,rfl,hr,hb⟩)
theorem Zjj (s:ByteArray) (w:World) (hs:s.size≤1000) :
  Calls Tryz.prog 88 #[.string s,.int .u8 32] w fun e w'=>∃ ao cap,e=.returned (.slice ao (pieces s 32).length cap)∧RowAt w' (.slice ao (pieces s 32).length cap) (pieces s 32).length (strs (pieces s 32))∧Below w.heap.size w w':=
 (show Calls Tryz.prog 88 #[.string s,.int .u8 32] w _ from Zew s 32 w hs).mono (by
  rintro e w' ⟨v,rfl,h,hb⟩;have hr:=Zd h;obtain ⟨ao,cap,rfl,h1⟩:=Zd h;exact ⟨ao,cap,rfl,hr,hb⟩)
theorem ZhS (s:ByteArray) (w:World) (hs:s.size≤1000) :
  Calls Tryz.prog 96 #[.string s,.int .u8 10] w fun e w'=>∃ ao cap,e=.returned (.slice ao (pieces s 10).length cap)∧RowAt w' (.slice ao (pieces s 10).length cap) (pieces s 10).length (strs (pieces s 10))∧Below w.heap.size w w':=
 (show Calls Tryz.prog 96 #[.string s,.int .u8 10] w _ from ZdW s 10 w hs).mono (by
  rintro e w' ⟨v,rfl,h,hb⟩;have hr:=Zd h;obtain ⟨ao,cap,rfl,h1⟩:=Zd h;exact ⟨ao,cap,rfl,hr,hb⟩)
theorem Zie (s:ByteArray) (w:World) (hs:s.size≤1000) :
  Calls Tryz.prog 96 #[.string s,.int .u8 32] w fun e w'=>∃ ao cap,e=.returned (.slice ao (pieces s 32).length cap)∧RowAt w' (.slice ao (pieces s 32).length cap) (pieces s 32).length (strs (pieces s 32))∧Below w.heap.size w w':=
 (show Calls Tryz.prog 96 #[.string s,.int .u8 32] w _ from ZdW s 32 w hs).mono (by
  rintro e w' ⟨v,rfl,h,hb⟩;have hr:=Zd h;obtain ⟨ao,cap,rfl,h1⟩:=Zd h;exact ⟨ao,cap,rfl,hr,hb⟩)
theorem Za3 {a:Option Addr} {n m c:Nat} (h:n=m):Ending.returned (.slice a n c)=.returned (.slice a m c):=by rw [h]
def notE (p:ByteArray):Bool:=!p.toList.isEmpty
def flds (s:ByteArray):List ByteArray:=(pieces s 32).filter notE
theorem Zdl (s:ByteArray):(flds s).length≤s.size+1:=Nat.le_trans (List.length_filter_le _ _) (Zai s 32)
theorem Zdy (s:ByteArray):∀ p∈flds s,p.size≤s.size:=fun p h=>ZaE s 32 p (List.mem_filter.1 h).1
theorem ZfO (l:List ByteArray) (k:Nat) (p:ByteArray) (h:l[k]?=some p) (hp:p.toList.isEmpty=false):(l.take (k+1)).filter notE=(l.take k).filter notE++[p]:=by
 obtain ⟨hk,rfl⟩:=List.getElem?_eq_some_iff.1 h;rw [List.take_succ_eq_append_getElem hk,List.filter_append];simp [notE,hp]
theorem ZgP (l:List ByteArray) (k:Nat) (p:ByteArray) (h:l[k]?=some p) (hp:p.toList.isEmpty=true):(l.take (k+1)).filter notE=(l.take k).filter notE:=by
 obtain ⟨hk,rfl⟩:=List.getElem?_eq_some_iff.1 h;rw [List.take_succ_eq_append_getElem hk,List.filter_append];simp [notE,hp]
theorem RowAt.at {w:World} {ao:Option Addr} {n m cap:Nat} {cs:List Value} (h:RowAt w (.slice ao n cap) m cs) {j:Nat} {x:Value} (hx:cs[j]?=some x) :
  ∃ b off,ao=some ⟨b,off,none⟩∧b<w.heap.size∧w.cell? ⟨b,off+j,none⟩=some x:=by
 obtain ⟨ao',cap',e,_,h⟩:=h;simp only [Value.slice.injEq] at e;obtain ⟨rfl,_,_⟩:=e;rcases h with h | ⟨b,off,h1,h2,h3⟩
 ·subst h;simp at hx
 ·exact ⟨b,off,h1,h2,h3 j x hx⟩
theorem Zfh (s:ByteArray) (w:World) (hs:s.size≤1000) :
  Calls Tryz.prog 89 #[.string s] w fun e w'=>∃ ao cap,e=.returned (.slice ao (flds s).length cap)∧RowAt w' (.slice ao (flds s).length cap) (flds s).length (strs (flds s))∧Below w.heap.size w w':=by
 obtain ⟨i0,hi,hz0,hz1,hz2⟩:=info_parts Zb2;go_enter Tryz.func89,Tryz.ntmps89
 go_wp2_with fail
 refine (Zjj s _ hs).mono ?_;rintro e w1 ⟨pa,pc,rfl,hp,hb1⟩;have hlen:=Zai s 32;obtain ⟨ps,hps⟩:∃ ps,pieces s 32=ps:=⟨_,rfl⟩;rw [hps] at hp hlen ⊢;obtain ⟨n,hn⟩:∃ n,ps.length=n:=⟨_,rfl⟩;rw [hn] at hp hlen ⊢;have HP:Hid (RowAt w1 (.slice pa n pc) n (strs ps)∧ps.length=n∧pieces s 32=ps):=⟨hp,hn,hps⟩;have HB1:Hid (Below w.heap.size w w1):=hb1;have hz1':w.heap.size≤w1.heap.size:=hb1.size;clear hp hn hps hb1;go_wp2_with fail
 go_loopw [4,5] (fun v i wr=>∃ (k m:Nat) (acc:List ByteArray),k≤n∧i=.int .i64 k∧m≤k∧Hid ((ps.take k).filter notE=acc∧acc.length=m)∧wr.ownsRow w1.heap.size 9 1 v m (strs acc)∧Below w1.heap.size w1 wr) (fun _ i _=>n - (intOf i).toNat)
 case atStart=>exact ⟨0,0,[],Nat.zero_le _,rfl,Nat.le_refl _,⟨rfl,rfl⟩,World.ownsRow_made w1 #[] 0 (Nat.le_refl _) (Nat.zero_le _) rfl,Zb _ _⟩
 case round =>
  obtain ⟨k,m,acc,hk,rfl,hm,HS,hown,hbel⟩:=hrel;have hBw:w1.heap.size≤wr.heap.size:=hbel.size;by_cases hlt:k<n
  ·obtain ⟨p,hpk⟩:∃ p,ps[k]?=some p:=⟨_,List.getElem?_eq_getElem (by rw [HP.out.2.1];exact hlt)⟩;obtain ⟨bl,off,rfl,hbl,hc⟩:=(HP.out.1.nx hbel).at (Zax hpk);have HK:Hid (ps[k]?=some p):=hpk;clear hpk;cases he:p.toList.isEmpty
   ·go_wp2_with (at_builtin;refine wpList_append_own _ rfl (.tmp 20) (.tmp 25) 142 rfl w1.heap.size 9 i0 (.string ⟨#[]⟩) 1 16 Tryz.underlying142 hi hz0 hz1 hz2 rfl (by decide) _ _ _ rfl (hown.alloc _) ⟨wr.heap.size,0,none⟩ 1 1 [.string p] rfl rfl (cell_one_new _ _ _) ?c2 ?c3 ?c4 ?c5 ?next)
    case c2=>intro u hu;simp at hu;subst hu;rfl
    case c3=>unfold maxLen;omega
    case c4=>omega
    case c5=>simp;omega
    case next =>
     intro v' w2 hown' hgrow _;have R:w2.ownsRow w1.heap.size 9 1 v' (m+1) (strs (acc++[p]))∧Below w1.heap.size w1 w2:=by
      refine ⟨by simpa [strs] using hown',(hbel.alloc hBw _).grown hgrow (by simp;omega) (fun g hg=>(hown.lt g hg).1)⟩
     clear hown' hgrow hown hbel;go_wp2_with fail
     go_roundw
     case rel=>exact ⟨k+1,m+1,acc++[p],by omega,by go_num,by omega,⟨(by rw [ZfO ps k p HK.out he,HS.out.1]),by simp [HS.out.2]⟩,R.1,R.2⟩
     case measure=>simp [intOf];omega
   ·go_wp2_with fail
    go_roundw
    case rel=>exact ⟨k+1,m,acc,by omega,by go_num,by omega,⟨(by rw [ZgP ps k p HK.out he,HS.out.1]),HS.out.2⟩,hown,hbel⟩
    case measure=>simp [intOf];omega
  ·have HF:Hid (flds s=acc∧(flds s).length=m):=by
    have e:flds s=acc:=by rw [flds,HP.out.2.2,←HS.out.1,List.take_of_length_le (by rw [HP.out.2.1];omega)]
    exact ⟨e,by rw [e];exact HS.out.2⟩
   have hr:=Zd hown;obtain ⟨ao,cap,rfl,_⟩:=Zd hown;have HR:Hid (RowAt wr (.slice ao m cap) m (strs acc)∧Below w.heap.size w wr):=⟨hr,Za HB1.out hbel⟩;clear hr hown hbel;go_wp2_with fail
   go_ret
   exact ⟨ao,cap,Za3 HF.out.2.symm,(by rw [HF.out.2,HF.out.1];exact HR.out.1),HR.out.2⟩
theorem Zf9 (s:ByteArray) (w:World) (hs:s.size≤1000) :
  Calls Tryz.prog 97 #[.string s] w fun e w'=>∃ ao cap,e=.returned (.slice ao (flds s).length cap)∧RowAt w' (.slice ao (flds s).length cap) (flds s).length (strs (flds s))∧Below w.heap.size w w':=by
 obtain ⟨i0,hi,hz0,hz1,hz2⟩:=info_parts Zb2;go_enter Tryz.func97,Tryz.ntmps97
 go_wp2_with fail
 refine (Zie s _ hs).mono ?_;rintro e w1 ⟨pa,pc,rfl,hp,hb1⟩;have hlen:=Zai s 32;obtain ⟨ps,hps⟩:∃ ps,pieces s 32=ps:=⟨_,rfl⟩;rw [hps] at hp hlen ⊢;obtain ⟨n,hn⟩:∃ n,ps.length=n:=⟨_,rfl⟩;rw [hn] at hp hlen ⊢;have HP:Hid (RowAt w1 (.slice pa n pc) n (strs ps)∧ps.length=n∧pieces s 32=ps):=⟨hp,hn,hps⟩;have HB1:Hid (Below w.heap.size w w1):=hb1;have hz1':w.heap.size≤w1.heap.size:=hb1.size;clear hp hn hps hb1;go_wp2_with fail
 go_loopw [3,5] (fun v i wr=>∃ (k m:Nat) (acc:List ByteArray),k≤n∧i=.int .i64 k∧m≤k∧Hid ((ps.take k).filter notE=acc∧acc.length=m)∧wr.ownsRow w1.heap.size 9 1 v m (strs acc)∧Below w1.heap.size w1 wr) (fun _ i _=>n - (intOf i).toNat)
 case atStart=>exact ⟨0,0,[],Nat.zero_le _,rfl,Nat.le_refl _,⟨rfl,rfl⟩,World.ownsRow_nil _ _ _ _,Below.refl _ _⟩
 case round =>
  obtain ⟨k,m,acc,hk,rfl,hm,HS,hown,hbel⟩:=hrel;have hBw:w1.heap.size≤wr.heap.size:=hbel.size;by_cases hlt:k<n
  ·obtain ⟨p,hpk⟩:∃ p,ps[k]?=some p:=⟨_,List.getElem?_eq_getElem (by rw [HP.out.2.1];exact hlt)⟩;obtain ⟨bl,off,rfl,hbl,hc⟩:=(HP.out.1.nx hbel).at (Zax hpk);have HK:Hid (ps[k]?=some p):=hpk;clear hpk;cases he:p.toList.isEmpty
   ·go_wp2_with (at_builtin;refine wpList_append_own _ rfl (.tmp 19) (.tmp 24) 142 rfl w1.heap.size 9 i0 (.string ⟨#[]⟩) 1 16 Tryz.underlying142 hi hz0 hz1 hz2 rfl (by decide) _ _ _ rfl (hown.alloc _) ⟨wr.heap.size,0,none⟩ 1 1 [.string p] rfl rfl (cell_one_new _ _ _) ?c2 ?c3 ?c4 ?c5 ?next)
    case c2=>intro u hu;simp at hu;subst hu;rfl
    case c3=>unfold maxLen;omega
    case c4=>omega
    case c5=>simp;omega
    case next =>
     intro v' w2 hown' hgrow _;have R:w2.ownsRow w1.heap.size 9 1 v' (m+1) (strs (acc++[p]))∧Below w1.heap.size w1 w2:=by
      refine ⟨by simpa [strs] using hown',(hbel.alloc hBw _).grown hgrow (by simp;omega) (fun g hg=>(hown.lt g hg).1)⟩
     clear hown' hgrow hown hbel;go_wp2_with fail
     go_roundw
     case rel=>exact ⟨k+1,m+1,acc++[p],by omega,by go_num,by omega,⟨(by rw [ZfO ps k p HK.out he,HS.out.1]),by simp [HS.out.2]⟩,R.1,R.2⟩
     case measure=>simp [intOf];omega
   ·go_wp2_with fail
    go_roundw
    case rel=>exact ⟨k+1,m,acc,by omega,by go_num,by omega,⟨(by rw [ZgP ps k p HK.out he,HS.out.1]),HS.out.2⟩,hown,hbel⟩
    case measure=>simp [intOf];omega
  ·have HF:Hid (flds s=acc∧(flds s).length=m):=by
    have e:flds s=acc:=by rw [flds,HP.out.2.2,←HS.out.1,List.take_of_length_le (by rw [HP.out.2.1];omega)]
    exact ⟨e,by rw [e];exact HS.out.2⟩
   have hr:=Zd hown;obtain ⟨ao,cap,rfl,_⟩:=Zd hown;have HR:Hid (RowAt wr (.slice ao m cap) m (strs acc)∧Below w.heap.size w wr):=⟨hr,Za HB1.out hbel⟩;clear hr hown hbel;go_wp2_with fail
   go_ret
   exact ⟨ao,cap,Za3 HF.out.2.symm,(by rw [HF.out.2,HF.out.1];exact HR.out.1),HR.out.2⟩
def digs (l:List UInt8):Bool:=l.all fun c=>48≤c&&c≤57
def numV (l:List UInt8):Nat:=l.foldl (fun a c=>a*10+(c.toNat - 48)) 0
def isNum (s:ByteArray):Bool:=decide (1≤s.size)&&decide (s.size≤4)&&digs s.data.toList
def numF (s:ByteArray):Option Nat:=if isNum s then some (numV s.data.toList) else none
theorem ZeB (l:List UInt8) (c:UInt8):numV (l++[c])=numV l*10+(c.toNat - 48):=by simp [numV]
theorem ZeX (s:ByteArray) (k:Nat) (h:k<s.size) (hl:digs (s.data.toList.take k)=true) (h1:(48:Int)≤(s[k].toNat:Int)) (h2:(s[k].toNat:Int)≤57) :
  digs (s.data.toList.take (k+1))=true:=by
 rw [Zav s k h];unfold digs at *;rw [List.all_append,hl];simp [UInt8.le_iff_toNat_le];omega
theorem ZbY (s:ByteArray) (k:Nat) (h:k<s.size) (hb:(s[k].toNat:Int)<48∨57<(s[k].toNat:Int)):isNum s=false:=by
 have hm:s[k]∈s.data.toList:=by
  rw [←List.take_append_drop (k+1) s.data.toList,Zav s k h];simp
 unfold isNum;have:digs s.data.toList=false:=by
  unfold digs;rw [List.all_eq_false];refine ⟨s[k],hm,?_⟩;simp [UInt8.le_iff_toNat_le];omega
 rw [this];simp
theorem ZaA {s:ByteArray} (h:isNum s=false):numF s=none:=by simp [numF,h]
theorem Zf0 {s:ByteArray} {k:Nat} (h1:1≤s.size) (h2:s.size≤4) (hk:¬k<s.size) (hl:digs (s.data.toList.take k)=true):numF s=some (numV (s.data.toList.take k)):=by
 rw [ZfZ s k hk] at hl ⊢;simp [numF,isNum,h1,h2,hl]
def numN (s:ByteArray):Int:=match numF s with | some n=>n | none=>0
def numB (s:ByteArray):Bool:=(numF s).isSome
def numR (s:ByteArray):Int:=match numF s with | some n=>n | none=>-1
theorem Zbh {a b:Int} {x y:Bool} (h:a=b) (h2:x=y):Ending.returned (.tuple #[.int .i64 a,.bool x])=.returned (.tuple #[.int .i64 b,.bool y]):=by rw [h,h2]
theorem Zt {a b:Int} (h:a=b):Ending.returned (.int .i64 a)=.returned (.int .i64 b):=by rw [h]
theorem ZW (s:ByteArray) (w:World) (hs:s.size≤1000) :
  Calls Tryz.prog 163 #[.string s] w fun e w'=>e=.returned (.tuple #[.int .i64 (numN s),.bool (numB s)])∧w'=w:=by
 by_cases ha:s.size<1
 ·have hn:numF s=none:=ZaA (by simp [isNum];omega);go_enter Tryz.func163,Tryz.ntmps163
  go_wp2_with fail
  go_ret2
  exact ⟨Zbh (by simp [numN,hn]) (by simp [numB,hn]),rfl⟩
 by_cases hb:4<s.size
 ·have hn:numF s=none:=ZaA (by simp [isNum];omega);go_enter Tryz.func163,Tryz.ntmps163
  go_wp2_with fail
  go_ret2
  exact ⟨Zbh (by simp [numN,hn]) (by simp [numB,hn]),rfl⟩
 have hb1:decide ((4:Int)<(s.size:Int))=false:=by simp;omega
 have hb2:decide ((s.size:Int)<1)=false:=by simp;omega
 go_enter Tryz.func163,Tryz.ntmps163
 go_wp2_with fail
 go_loop [4,5] (fun x i=>∃ (k:Nat) (a:Int),k≤s.size∧i=.int .i64 k∧x=.int .i64 a∧Hid (digs (s.data.toList.take k)=true∧a=(numV (s.data.toList.take k):Int))∧0≤a∧Hid (a<10 ^ k)) (fun _ i=>s.size - (intOf i).toNat)
 case atStart=>exact ⟨0,0,Nat.zero_le _,rfl,rfl,⟨rfl,rfl⟩,by omega,(by show (0:Int)<10 ^ 0;decide)⟩
 case round =>
  obtain ⟨k,a,hk,rfl,rfl,HD,h0,H10⟩:=hrel;have h4:a≤10000:=by
   have h:=H10.out;have hk4:k≤4:=by omega
   have:(10:Int) ^ k≤10 ^ 4:=by exact_mod_cast Nat.pow_le_pow_right (by decide) hk4
   omega
  by_cases hlt:k<s.size
  ·by_cases h1:(48:Int)≤(s[k].toNat:Int)
   ·by_cases h2:(s[k].toNat:Int)≤57
    ·go_wp2_with fail
     go_round
     case rel=>exact ⟨k+1,_,by omega,by go_num,rfl,⟨ZeX s k hlt HD.out.1 h1 h2,(by rw [Zav s k hlt,ZeB,HD.out.2];omega)⟩,by omega,(by
      show _<_;have h:=H10.out;rw [Int.pow_succ];omega)⟩
     case measure=>simp [intOf];omega
    ·have hn:Hid (numF s=none):=ZaA (ZbY s k hlt (by omega));go_wp2_with fail
     go_ret2
     exact ⟨Zbh (by simp [numN,hn.out]) (by simp [numB,hn.out]),rfl⟩
   ·have hn:Hid (numF s=none):=ZaA (ZbY s k hlt (by omega));go_wp2_with fail
    go_ret2
    exact ⟨Zbh (by simp [numN,hn.out]) (by simp [numB,hn.out]),rfl⟩
  ·have hn:Hid (numF s=some (numV (s.data.toList.take k))):=Zf0 (by omega) (by omega) hlt HD.out.1;go_wp2_with fail
   go_ret2
   exact ⟨Zbh (by simp [numN,hn.out,HD.out.2]) (by simp [numB,hn.out]),rfl⟩
theorem ZdH (s:ByteArray) (w:World) (hs:s.size≤1000) :
  Calls Tryz.prog 133 #[.string s] w fun e w'=>e=.returned (.int .i64 (numR s))∧w'=w:=by
 by_cases ha:s.size<1
 ·have hn:numF s=none:=ZaA (by simp [isNum];omega);go_enter Tryz.func133,Tryz.ntmps133
  go_wp2_with fail
  go_ret
  exact ⟨Zt (by simp [numR,hn]),rfl⟩
 by_cases hb:4<s.size
 ·have hn:numF s=none:=ZaA (by simp [isNum];omega);go_enter Tryz.func133,Tryz.ntmps133
  go_wp2_with fail
  go_ret
  exact ⟨Zt (by simp [numR,hn]),rfl⟩
 have hb1:decide ((4:Int)<(s.size:Int))=false:=by simp;omega
 have hb2:decide ((s.size:Int)<1)=false:=by simp;omega
 go_enter Tryz.func133,Tryz.ntmps133
 go_wp2_with fail
 go_loop [3,4] (fun x i=>∃ (k:Nat) (a:Int),k≤s.size∧i=.int .i64 k∧x=.int .i64 a∧Hid (digs (s.data.toList.take k)=true∧a=(numV (s.data.toList.take k):Int))∧0≤a∧Hid (a<10 ^ k)) (fun _ i=>s.size - (intOf i).toNat)
 case atStart=>exact ⟨0,0,Nat.zero_le _,rfl,rfl,⟨rfl,rfl⟩,by omega,(by show (0:Int)<10 ^ 0;decide)⟩
 case round =>
  obtain ⟨k,a,hk,rfl,rfl,HD,h0,H10⟩:=hrel;have h4:a≤10000:=by
   have h:=H10.out;have hk4:k≤4:=by omega
   have:(10:Int) ^ k≤10 ^ 4:=by exact_mod_cast Nat.pow_le_pow_right (by decide) hk4
   omega
  by_cases hlt:k<s.size
  ·by_cases h1:(48:Int)≤(s[k].toNat:Int)
   ·by_cases h2:(s[k].toNat:Int)≤57
    ·go_wp2_with fail
     go_round
     case rel=>exact ⟨k+1,_,by omega,by go_num,rfl,⟨ZeX s k hlt HD.out.1 h1 h2,(by rw [Zav s k hlt,ZeB,HD.out.2];omega)⟩,by omega,(by
      show _<_;have h:=H10.out;rw [Int.pow_succ];omega)⟩
     case measure=>simp [intOf];omega
    ·have hn:Hid (numF s=none):=ZaA (ZbY s k hlt (by omega));go_wp2_with fail
     go_ret
     exact ⟨Zt (by simp [numR,hn.out]),rfl⟩
   ·have hn:Hid (numF s=none):=ZaA (ZbY s k hlt (by omega));go_wp2_with fail
    go_ret
    exact ⟨Zt (by simp [numR,hn.out]),rfl⟩
  ·have hn:Hid (numF s=some (numV (s.data.toList.take k))):=Zf0 (by omega) (by omega) hlt HD.out.1;go_wp2_with fail
   go_ret
   exact ⟨Zt (by simp [numR,hn.out,HD.out.2]),rfl⟩
def kwL (k:Nat):List UInt8:=match k with | 0=>[115,105,122,101] | 1=>[119,97,105,116] | 2=>[102,97,114] | _=>[98,117,100,103,101,116]
def keyF (s:ByteArray):Option Nat:=if s.toList == kwL 0 then some 0 else if s.toList == kwL 1 then some 1 else if s.toList == kwL 2 then some 2 else none
def keyB (s:ByteArray):Bool:=(keyF s).isSome
def keyR (s:ByteArray):Int:=match keyF s with | some k=>k | none=>-1
theorem Ze0 (s:ByteArray) (w:World) :
  Calls Tryz.prog 168 #[.string s] w fun e w'=>e=.returned (.bool (keyB s))∧w'=w:=by
 cases h0:s.toList == [115,105,122,101]
 ·cases h1:s.toList == [119,97,105,116]
  ·cases h2:s.toList == [102,97,114];all_goals
    go_enter Tryz.func168,Tryz.ntmps168
    go_wp2_with fail
    go_ret
    exact ⟨Zl (by simp [keyB,keyF,kwL,h0,h1,h2]),rfl⟩
  ·go_enter Tryz.func168,Tryz.ntmps168
   go_wp2_with fail
   go_ret
   exact ⟨Zl (by simp [keyB,keyF,kwL,h0,h1]),rfl⟩
 ·go_enter Tryz.func168,Tryz.ntmps168
  go_wp2_with fail
  go_ret
  exact ⟨Zl (by simp [keyB,keyF,kwL,h0]),rfl⟩
theorem ZjN (s:ByteArray) (w:World) :
  Calls Tryz.prog 135 #[.string s] w fun e w'=>e=.returned (.int .i64 (keyR s))∧w'=w:=by
 cases h0:s.toList == [115,105,122,101]
 ·cases h1:s.toList == [119,97,105,116]
  ·cases h2:s.toList == [102,97,114];all_goals
    go_enter Tryz.func135,Tryz.ntmps135
    go_wp2_with fail
    go_ret
    exact ⟨Zt (by simp [keyR,keyF,kwL,h0,h1,h2]),rfl⟩
  ·go_enter Tryz.func135,Tryz.ntmps135
   go_wp2_with fail
   go_ret
   exact ⟨Zt (by simp [keyR,keyF,kwL,h0,h1]),rfl⟩
 ·go_enter Tryz.func135,Tryz.ntmps135
  go_wp2_with fail
  go_ret
  exact ⟨Zt (by simp [keyR,keyF,kwL,h0]),rfl⟩
end Co
end Go.Proofs.YtcpikklofilkcaaGreat
