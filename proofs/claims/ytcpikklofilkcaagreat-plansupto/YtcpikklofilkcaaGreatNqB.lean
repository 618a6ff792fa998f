import Derived.Test.YtcpikklofilkcaaGreatNqA
import Derived.Deep.RegionWith
set_option maxRecDepth 100000
set_option maxHeartbeats 16000000
namespace Go.Proofs.YtcpikklofilkcaaGreat
open Go.RowKit
namespace Co
theorem Zw (w:World) (cs:List Value) (t:TypeId):∀ (j:Nat) (u:Value),cs[j]?=some u→(w.alloc (.cells cs.toArray t)).cell? ((⟨w.heap.size,0,none⟩:Addr).add j)=some u:=by
 intro j u hj;have e:(⟨w.heap.size,0,none⟩:Addr).add j=⟨w.heap.size,j,none⟩:=by unfold Addr.add;split <;> simp_all
 rw [e,World.cell?_alloc_new];simpa using hj
def Fr (B:Nat) (w:World) (so:Option Addr):Prop:=∀ b off,so=some ⟨b,off,none⟩→B≤b∧∃ cur,w.heap[b]?=some (.cells cur 201 (0,0))
theorem Zkr {w:World} {B:Nat} {size:Nat} {so:Option Addr} {m sc n:Nat} {xs:List Value} (h:w.ownsRow B 201 size (.slice so m sc) n xs):Fr B w so:=by
 intro b off e;subst e;rcases h.2 with ⟨h',_⟩ | ⟨g',cap',cur,h',hb,hg,_⟩
 ·simp at h'
 ·simp only [Value.slice.injEq,Option.some.injEq,Addr.mk.injEq] at h';obtain ⟨⟨rfl,_⟩,_⟩:=h';exact ⟨hb,cur,hg⟩
theorem Fr.mono {B B':Nat} {w:World} {so:Option Addr} (h:Fr B w so) (hB:B'≤B):Fr B' w so:=fun b o e=>⟨Nat.le_trans hB (h b o e).1,(h b o e).2⟩
theorem Fr.nx {B:Nat} {w w':World} {so:Option Addr} (h:Fr B w so) (hb:Below w.heap.size w w'):Fr B w' so:=by
 intro b o e;obtain ⟨h1,cur,h2⟩:=h b o e;exact ⟨h1,cur,(hb.block b (Array.getElem?_eq_some_iff.1 h2).1).trans h2⟩
theorem Fr.set {B:Nat} {w:World} {so:Option Addr} (h:Fr B w so) {g:Nat} (hg:g<B) (a:Nat) (x:Value):Fr B (w.setCell ⟨g,a,none⟩ x) so:=by
 intro b o e;obtain ⟨h1,cur,h2⟩:=h b o e;exact ⟨h1,cur,(Below.heap_setCell w ⟨g,a,none⟩ x b (by show b≠g;omega)).trans h2⟩
theorem Fr.drew {B:Nat} {w:World} {so:Option Addr} (h:Fr B w so):Fr B w.drew so:=h
theorem Zka (w:World) (g b a c:Nat) (v:Value) (h:g≠b):(w.setCell ⟨g,a,none⟩ v).cell? ⟨b,c,none⟩=w.cell? ⟨b,c,none⟩:=
 World.cell?_setCell_other _ _ _ _ (by intro e;injection e with e1 e2 e3;exact h e1)
theorem RowAt.set {w:World} {so:Option Addr} {m sc n:Nat} {cs:List Value} (h:RowAt w (.slice so m sc) n cs) {g:Nat} (hg:∀ b off,so=some ⟨b,off,none⟩→g≠b) (a:Nat) (x:Value):RowAt (w.setCell ⟨g,a,none⟩ x) (.slice so m sc) n cs:=by
 obtain ⟨ao,cap,e,hc,h⟩:=h;refine ⟨ao,cap,e,hc,?_⟩;rcases h with h | ⟨b,off,h1,h2,h3⟩
 ·exact .inl h
 ·refine .inr ⟨b,off,h1,by simpa using h2,fun j y hy=>?_⟩;simp only [Value.slice.injEq] at e;rw [Zka _ _ _ _ _ _ (hg b off (e.1.trans h1))];exact h3 j y hy
theorem RowAt.drew {w:World} {v:Value} {n:Nat} {cs:List Value} (h:RowAt w v n cs):RowAt w.drew v n cs:=h
theorem Zbe {w:World} {bl off n cap:Nat} {fs:List ByteArray} (k:Nat) (h:RowAt w (.slice (some ⟨bl,off,none⟩) n cap) n (strs fs)) (hl:fs.length=n) (hk:k≤n) :
  RowAt w (.slice (if cap=k then some ⟨bl,off,none⟩ else some ⟨bl,off+k,none⟩) (n - k) (cap - k)) (n - k) (strs (fs.drop k)):=by
 obtain ⟨ao,cap',e,hc,h⟩:=h;simp only [Value.slice.injEq] at e;obtain ⟨rfl,_,rfl⟩:=e;by_cases hck:cap=k
 ·rw [if_pos hck];have:fs.drop k=[]:=List.drop_of_length_le (by omega);rw [this];exact ⟨_,_,rfl,by omega,.inl rfl⟩
 ·rw [if_neg hck];refine ⟨_,_,rfl,by omega,?_⟩;rcases h with h | ⟨b,o,h1,h2,h3⟩
  ·have:fs=[]:=by simpa [strs] using h
   subst this;exact .inl (by simp [strs])
  ·simp only [Option.some.injEq,Addr.mk.injEq,and_true] at h1;obtain ⟨rfl,rfl⟩:=h1;refine .inr ⟨bl,off+k,rfl,h2,fun j x hx=>?_⟩;have:=h3 (k+j) x (by simpa [strs] using hx);rw [Nat.add_assoc];exact this
theorem Za8 {w:World} {so:Option Addr} {m sc n:Nat} {cs:List Value} (h:RowAt w (.slice so m sc) n cs):n≤sc:=by
 obtain ⟨_,_,e,hc,_⟩:=h;simp only [Value.slice.injEq] at e;omega
structure Ln where
 kind:Nat
 name:ByteArray
 frm:ByteArray
 sets:List (Nat×Nat)
 place:Nat
def wordB (k:Nat):ByteArray:=⟨(kwL k).toArray⟩
theorem ZeV {s:ByteArray} {k:Nat} (h:keyF s=some k):s=wordB k∧k≤2:=by
 have hx:∀ l:List UInt8,(s.toList == l)=true→s=⟨l.toArray⟩:=by
  intro l hl;apply Zhs;rw [←ByteArray.toList_eq];simpa using hl
 unfold keyF at h;split at h
 ·rename_i h0;cases h;exact ⟨hx _ h0,by omega⟩
 ·split at h
  ·rename_i h0;cases h;exact ⟨hx _ h0,by omega⟩
  ·split at h
   ·rename_i h0;cases h;exact ⟨hx _ h0,by omega⟩
   ·cases h
def flatS:List (Nat×Nat)→List Value
 | []=>[]
 | p :: r=>.string (wordB p.1) :: .int .i64 (p.2:Int) :: flatS r
theorem ZcC:∀ a b:List (Nat×Nat),flatS (a++b)=flatS a++flatS b
 | [],b=>rfl
 | p :: a,b=>by simp [flatS,ZcC a b]
def setsF:List ByteArray→Option (List (Nat×Nat))
 | []=>some []
 | [_]=>none
 | k :: n :: r=>match keyF k,numF n,setsF r with
  | some a,some b,some l=>some ((a,b) :: l)
  | _,_,_=>none
theorem Zcs:∀ (l:List ByteArray),l.length % 2=1→setsF l=none
 | [],h=>by simp at h
 | [_],_=>rfl
 | k :: n :: r,h=>by
  have:=Zcs r (by simp at h;omega);rw [setsF,this];cases keyF k <;> cases numF n <;> rfl
theorem Zcj:∀ (l:List ByteArray) (ss:List (Nat×Nat)),setsF l=some ss→ss.length*2=l.length
 | [],ss,h=>by cases h;rfl
 | [_],ss,h=>by cases h
 | k :: n :: r,ss,h=>by
  rw [setsF] at h;split at h
  ·rename_i a b l h1 h2 h3
   cases h;have:=Zcj r l h3;simp;omega
  ·cases h
theorem ZfL {k n:ByteArray} {r:List ByteArray} {a b:Nat} (h1:keyF k=some a) (h2:numF n=some b):setsF (k :: n :: r)=(setsF r).map ((a,b) :: ·):=by
 rw [setsF,h1,h2];cases setsF r <;> rfl
theorem ZfW {k n:ByteArray} {r:List ByteArray} (h1:keyF k=none):setsF (k :: n :: r)=none:=by
 rw [setsF,h1]
theorem Zfn {k n:ByteArray} {r:List ByteArray} (h1:numF n=none):setsF (k :: n :: r)=none:=by
 rw [setsF,h1];cases keyF k <;> rfl
theorem ZkB {a:Option Addr} {n m c:Nat} {b:Bool} (h:n=m):Ending.returned (.tuple #[.slice a n c,.bool b])=.returned (.tuple #[.slice a m c,.bool b]):=by rw [h]
theorem Zjp:(Tryz.prog.info? 201).map (fun i=>(i.zero,i.size,i.bytes))=some (some (.agg #[.string ⟨#[]⟩,.int .i64 0]),2,24):=by kernel_rfl
theorem Zao (ao:Option Addr) (cap n:Nat) (fs:List ByteArray) (w:World) (hr:RowAt w (.slice ao n cap) n (strs fs)) (hn:fs.length=n) (hn1:n≤1001) (hsm:∀ p∈fs,p.size≤1000) :
  Calls Tryz.prog 165 #[.slice ao n cap] w fun e w' =>
   (setsF fs=none∧e=.returned (.tuple #[.slice none 0 0,.bool false])∧Below w.heap.size w w') ∨
   (∃ ss so sc,setsF fs=some ss∧e=.returned (.tuple #[.slice so ss.length sc,.bool true])∧RowAt w' (.slice so ss.length sc) ss.length (flatS ss)∧Fr w.heap.size w' so∧Below w.heap.size w w'):=by
 obtain ⟨t0,hi,hz0,hz1,hz2⟩:=info_parts Zjp;have HR:Hid (RowAt w (.slice ao n cap) n (strs fs)∧fs.length=n∧∀ p∈fs,p.size≤1000):=⟨hr,hn,hsm⟩;clear hr hn hsm;by_cases hodd:n % 2=1
 ·have hob:((n:Int) % 2 != 0)=true:=by rw [bne_iff_ne];omega
  have HO:Hid (setsF fs=none):=Zcs fs (by rw [HR.out.2.1];exact hodd);go_enter Tryz.func165,Tryz.ntmps165
  go_wp2_with fail
  go_ret2
  exact .inl ⟨HO.out,rfl,Below.refl _ _⟩
 have hob:((n:Int) % 2 != 0)=false:=by
  have:(n:Int) % 2=0:=by omega
  rw [this];rfl
 have HOD:Hid (n % 2=0):=by show _=_;omega
 clear hodd;go_enter Tryz.func165,Tryz.ntmps165
 go_wp2_with fail
 clear hob;generalize hr10:((n:Int) % 2)=r10;clear hr10;go_loopw [4,5] (fun v i wr=>∃ (i0 m:Nat) (acc:List (Nat×Nat)),i0≤n∧i=.int .i64 i0∧m≤i0∧Hid (i0 % 2=0)∧Hid (setsF fs=(setsF (fs.drop i0)).map (acc++·)∧acc.length=m)∧wr.ownsRow w.heap.size 201 2 v m (flatS acc)∧Below w.heap.size w wr) (fun _ i _=>n - (intOf i).toNat)
 case atStart=>exact ⟨0,0,[],Nat.zero_le _,rfl,Nat.le_refl _,rfl,⟨by simp,rfl⟩,World.ownsRow_made w #[] 0 (Nat.le_refl _) (Nat.zero_le _) rfl,Zb _ _⟩
 case round =>
  obtain ⟨i0,m,acc,hk,rfl,hm,HEV,HS,hown,hbel⟩:=hrel;have hBw:w.heap.size≤wr.heap.size:=hbel.size;by_cases hlt:i0+1<n
  ·obtain ⟨p,hp⟩:∃ p,fs[i0]?=some p:=⟨_,List.getElem?_eq_getElem (by rw [HR.out.2.1];omega)⟩;obtain ⟨q,hq⟩:∃ q,fs[i0+1]?=some q:=⟨_,List.getElem?_eq_getElem (by rw [HR.out.2.1];omega)⟩;obtain ⟨bl,off,rfl,hbl,hc⟩:=(HR.out.1.nx hbel).at (Zax hp);obtain ⟨bl',off',e1,_,hc'⟩:=(HR.out.1.nx hbel).at (Zax hq);obtain ⟨rfl,rfl⟩:bl=bl'∧off=off':=by simpa using e1
   clear e1;have HD:Hid (fs.drop i0=p :: q :: fs.drop (i0+2)):=by
    show _=_;rw [Zy hp,Zy hq]
   have hqs:q.size≤1000:=HR.out.2.2 q (List.mem_of_getElem? hq);clear hp hq;cases hnq:numF q with
   | none =>
    have HN:Hid (setsF fs=none):=by show _=_;rw [HS.out.1,HD.out,Zfn hnq];rfl
    have hb0:numB q=false:=by simp [numB,hnq]
    clear hnq;go_wp2_with fail
    refine (ZW q _ hqs).mono ?_;rintro e w' ⟨rfl,rfl⟩;rw [hb0];go_wp2_with fail
    go_ret2
    exact .inl ⟨HN.out,rfl,hbel⟩
   | some b =>
    have hb0:numB q=true:=by simp [numB,hnq]
    have hb1:numN q=(b:Int):=by simp [numN,hnq]
    cases hkp:keyF p with
    | none =>
     have HN:Hid (setsF fs=none):=by show _=_;rw [HS.out.1,HD.out,ZfW hkp];rfl
     have hb2:keyB p=false:=by simp [keyB,hkp]
     clear hnq hkp;go_wp2_with fail
     refine (ZW q _ hqs).mono ?_;rintro e w' ⟨rfl,rfl⟩;rw [hb0,hb1];go_wp2_with fail
     refine (Ze0 p _).mono ?_;rintro e w' ⟨rfl,rfl⟩;rw [hb2];go_wp2_with fail
     go_ret2
     exact .inl ⟨HN.out,rfl,hbel⟩
    | some a =>
     have HN:Hid (setsF fs=(setsF (fs.drop (i0+2))).map ((acc++[(a,b)])++·)):=by
      show _=_;rw [HS.out.1,HD.out,ZfL hkp hnq];cases setsF (fs.drop (i0+2)) <;> simp
     have hb2:keyB p=true:=by simp [keyB,hkp]
     obtain ⟨rfl,_⟩:=ZeV hkp;clear hnq hkp;go_wp2_with fail
     refine (ZW q _ hqs).mono ?_;rintro e w' ⟨rfl,rfl⟩;rw [hb0,hb1];go_wp2_with fail
     refine (Ze0 (wordB a) _).mono ?_;rintro e w' ⟨rfl,rfl⟩;rw [hb2];go_wp2_with (at_builtin;refine wpList_append_own _ rfl (.tmp 39) (.tmp 46) 145 rfl w.heap.size 201 t0 _ 2 24 Tryz.underlying145 hi hz0 hz1 hz2 rfl (by decide) _ _ _ rfl (hown.alloc _) ⟨w'.heap.size,0,none⟩ 1 1 [.string (wordB a),.int .i64 (b:Int)] rfl rfl (Zw _ [.string (wordB a),.int .i64 (b:Int)] _) ?c2 ?c3 ?c4 ?c5 ?next)
     case c2=>intro u hu;simp at hu;rcases hu with rfl | rfl <;> rfl
     case c3=>unfold maxLen;omega
     case c4=>omega
     case c5=>simp;omega
     case next =>
      intro v' w2 hown' hgrow _;have R:w2.ownsRow w.heap.size 201 2 v' (m+1) (flatS (acc++[(a,b)]))∧Below w.heap.size w w2:=by
       refine ⟨by rw [ZcC];exact hown',(hbel.alloc hBw _).grown hgrow (by simp;omega) (fun g hg=>(hown.lt g hg).1)⟩
      clear hown' hgrow hown hbel;go_wp2_with fail
      go_roundw
      case rel=>exact ⟨i0+2,m+1,acc++[(a,b)],by omega,by go_num,by omega,(by show _=_;have:=HEV.out;omega),⟨HN.out,by simp [HS.out.2]⟩,R.1,R.2⟩
      case measure=>simp [intOf];omega
  ·have HF:Hid (setsF fs=some acc∧acc.length=m):=by
    have e:fs.drop i0=[]:=List.drop_of_length_le (by rw [HR.out.2.1];have h1:=HEV.out;have h2:=HOD.out;omega);refine ⟨?_,HS.out.2⟩;rw [HS.out.1,e];simp [setsF]
   have hr:=Zd hown;obtain ⟨so,sc,rfl,_⟩:=Zd hown;have hfr:=Zkr hown;have HX:Hid (RowAt wr (.slice so m sc) m (flatS acc)∧Below w.heap.size w wr∧Fr w.heap.size wr so):=⟨hr,hbel,hfr⟩;clear hr hown hbel hfr;go_wp2_with fail
   go_ret2
   refine .inr ⟨acc,so,sc,HF.out.1,?_,?_,HX.out.2.2,HX.out.2.1⟩
   ·exact ZkB HF.out.2.symm
   ·rw [HF.out.2];exact HX.out.1
abbrev lnA' (x0 x1:Int) (s2 s3:ByteArray) (a4:Option Addr) (n4 c4:Nat):Value:=.agg #[.int .i64 x0,.int .i64 x1,.string s2,.string s3,.slice a4 n4 c4]
def flatL:List (Ln×Value)→List Value
 | []=>[]
 | p :: r=>.int .i64 (p.1.place:Int) :: .int .i64 (p.1.kind:Int) :: .string p.1.name :: .string p.1.frm :: p.2 :: flatL r
theorem Zbj:∀ a b:List (Ln×Value),flatL (a++b)=flatL a++flatL b
 | [],b=>rfl
 | p :: a,b=>by simp [flatL,Zbj a b]
theorem Zff:∀ (ls:List (Ln×Value)) (i:Nat) (l:Ln) (sv:Value),ls[i]?=some (l,sv)→(flatL ls)[i*5]?=some (.int .i64 (l.place:Int))∧(flatL ls)[i*5+1]?=some (.int .i64 (l.kind:Int))∧(flatL ls)[i*5+2]?=some (.string l.name)∧(flatL ls)[i*5+3]?=some (.string l.frm)∧(flatL ls)[i*5+4]?=some sv
 | [],i,l,sv,h=>by simp at h
 | q :: r,0,l,sv,h=>by simp at h;subst h;simp [flatL]
 | q :: r,i+1,l,sv,h=>by
  have ih:=Zff r i l sv (by simpa using h);have e0:(i+1)*5=i*5+5:=by omega
  rw [e0];simp only [flatL];exact ih
theorem Zfg:∀ (ss:List (Nat×Nat)) (i:Nat) (a b:Nat),ss[i]?=some (a,b)→(flatS ss)[i*2]?=some (.string (wordB a))∧(flatS ss)[i*2+1]?=some (.int .i64 (b:Int))
 | [],i,a,b,h=>by simp at h
 | q :: r,0,a,b,h=>by simp at h;subst h;simp [flatS]
 | q :: r,i+1,a,b,h=>by
  have ih:=Zfg r i a b (by simpa using h);have e0:(i+1)*2=i*2+2:=by omega
  rw [e0];simp only [flatS];exact ih
def LinesAt (w:World) (v:Value) (ls:List (Ln×Value)):Prop:=RowAt w v ls.length (flatL ls)∧∀ p∈ls,RowAt w p.2 p.1.sets.length (flatS p.1.sets)
theorem LinesAt.nx {w w':World} {v:Value} {ls:List (Ln×Value)} (h:LinesAt w v ls) (hb:Below w.heap.size w w'):LinesAt w' v ls:=⟨h.1.nx hb,fun p hp=>(h.2 p hp).nx hb⟩
theorem LinesAt.at {w:World} {ao:Option Addr} {n cap:Nat} {ls:List (Ln×Value)} (h:LinesAt w (.slice ao n cap) ls) {k:Nat} {l:Ln} {sv:Value} (hk:ls[k]?=some (l,sv)) :
  ∃ b off so sc,ao=some ⟨b,off,none⟩∧b<w.heap.size∧sv=.slice so l.sets.length sc∧RowAt w (.slice so l.sets.length sc) l.sets.length (flatS l.sets) ∧
   w.cell? ⟨b,off+k*5,none⟩=some (.int .i64 (l.place:Int))∧w.cell? ⟨b,off+k*5+1,none⟩=some (.int .i64 (l.kind:Int))∧w.cell? ⟨b,off+k*5+2,none⟩=some (.string l.name) ∧
   w.cell? ⟨b,off+k*5+3,none⟩=some (.string l.frm)∧w.cell? ⟨b,off+k*5+4,none⟩=some (.slice so l.sets.length sc):=by
 obtain ⟨f0,f1,f2,f3,f4⟩:=Zff ls k l sv hk;obtain ⟨b,off,rfl,hb,g0⟩:=h.1.at f0;have hin:∀ j x,(flatL ls)[k*5+j]?=some x→w.cell? ⟨b,off+k*5+j,none⟩=some x:=by
  intro j x hx;obtain ⟨b',off',e,_,g⟩:=h.1.at hx;obtain ⟨rfl,rfl⟩:b=b'∧off=off':=by simpa using e
  rw [Nat.add_assoc];exact g
 have hs:=h.2 (l,sv) (List.mem_of_getElem? hk);obtain ⟨so,sc,e,hcap,hrest⟩:=hs;simp only at e;refine ⟨b,off,so,sc,rfl,hb,e,⟨so,sc,rfl,hcap,hrest⟩,g0,hin 1 _ f1,hin 2 _ f2,hin 3 _ f3,?_⟩;rw [←e];exact hin 4 _ f4
theorem ZcR {w:World} {so:Option Addr} {n sc:Nat} {ss:List (Nat×Nat)} (h:RowAt w (.slice so n sc) n (flatS ss)) {k a b:Nat} (hk:ss[k]?=some (a,b)) :
  ∃ bl off,so=some ⟨bl,off,none⟩∧bl<w.heap.size∧w.cell? ⟨bl,off+k*2,none⟩=some (.string (wordB a))∧w.cell? ⟨bl,off+k*2+1,none⟩=some (.int .i64 (b:Int)):=by
 obtain ⟨f0,f1⟩:=Zfg ss k a b hk;obtain ⟨bl,off,rfl,hb,g0⟩:=h.at f0;obtain ⟨b',off',e,_,g⟩:=h.at f1;obtain ⟨rfl,rfl⟩:bl=b'∧off=off':=by simpa using e
 exact ⟨bl,off,rfl,hb,g0,by rw [Nat.add_assoc];exact g⟩
def fitsK (k:Nat) (n:Int):Bool:=match k with | 0=>inB 0 20 n | 1=>inB 0 20 n | 2=>inB 0 999 n | _=>inB 1 99 n
theorem ZfB (k:Nat) (n:Int) (w:World) :
  Calls Tryz.prog 166 #[.string (wordB k),.int .i64 n] w fun e w'=>e=.returned (.bool (fitsK k n))∧w'=w:=by
 match k with
 | 0=>exact ZhG n w
 | 1=>exact ZhI n w
 | 2=>exact ZiP n w
 | k+3=>exact Zf6 n w
abbrev bLn (x0 x1:Int) (s2 s3:ByteArray) (a4:Option Addr) (n4 c4:Nat):Obj:=.cells #[.int .i64 x0,.int .i64 x1,.string s2,.string s3,.slice a4 n4 c4] 147
def allFit (ss:List (Nat×Nat)):Bool:=ss.all fun p=>fitsK p.1 p.2
theorem ZbB (a b:Nat) (r:List (Nat×Nat)):allFit ((a,b) :: r)=(fitsK a b&&allFit r):=by simp [allFit]
theorem Zea (x0 x1:Int) (s2 s3:ByteArray) (so:Option Addr) (sc n:Nat) (ss:List (Nat×Nat)) (w:World) (hr:RowAt w (.slice so n sc) n (flatS ss)) (hn:ss.length=n) (hn1:n≤1001) :
  Calls Tryz.prog 152 #[lnA' x0 x1 s2 s3 so n sc] w fun e w'=>e=.returned (.bool (allFit ss))∧Below w.heap.size w w':=by
 have HN:Hid (ss.length=n):=hn;have HR:Hid (RowAt (w.alloc (bLn x0 x1 s2 s3 so n sc)) (.slice so n sc) n (flatS ss)):=hr.nx (Zb _ _);clear hr hn;go_enter Tryz.func152,Tryz.ntmps152
 go_wp2_with fail
 go_loopw [3] (fun i wr=>∃ (k:Nat),k≤n∧i=.int .i64 k∧Hid (allFit (ss.drop k)=allFit ss)∧Below (w.alloc (bLn x0 x1 s2 s3 so n sc)).heap.size (w.alloc (bLn x0 x1 s2 s3 so n sc)) wr) (fun i _=>n - (intOf i).toNat)
 case atStart=>exact ⟨0,Nat.zero_le _,rfl,rfl,Below.refl _ _⟩
 case round =>
  obtain ⟨k,hk,rfl,HS,hbel⟩:=hrel;have hcell:wr.cell? ⟨w.heap.size,4,none⟩=some (.slice so n sc):=(hbel.cell (p:=⟨w.heap.size,4,none⟩) (by simp)).trans (by simp);have HB:Hid (Below w.heap.size w wr):=Za (Zb _ _) hbel;by_cases hlt:k<n
  ·obtain ⟨⟨a,b⟩,hp⟩:∃ p,ss[k]?=some p:=⟨_,List.getElem?_eq_getElem (by rw [HN.out];exact hlt)⟩;obtain ⟨bl,off,rfl,hbl,c0,c1⟩:=ZcR (HR.out.nx hbel) hp;have HD:Hid (ss.drop k=(a,b) :: ss.drop (k+1)):=Zy hp;have hlti:(k:Int)<(n:Int):=by omega
   clear hp;cases hf:fitsK a b
   ·go_wp2_with fail
    go_quiet ((go_at_call 166;exact Calls.quiet_of_same (ZfB _ _ _)))
    rw [hf];go_wp2_with fail
    go_ret
    exact ⟨Zl (by rw [←HS.out,HD.out,ZbB,hf];rfl),below_drewN HB.out _⟩
   ·go_wp2_with fail
    go_quiet ((go_at_call 166;exact Calls.quiet_of_same (ZfB _ _ _)))
    rw [hf];go_wp2_with fail
    go_roundw
    case rel=>exact ⟨k+1,by omega,by go_num,(by show _=_;rw [←HS.out,HD.out,ZbB,hf];simp),below_drewN hbel _⟩
    case measure=>simp [intOf];omega
  ·go_wp2_with fail
   go_ret
   exact ⟨Zl (by rw [←HS.out,List.drop_of_length_le (by rw [HN.out];omega)];rfl),HB.out⟩
def cnt (ls:List (Ln×Value)) (kind:Nat):Nat:=(ls.filter fun p=>p.1.kind == kind).length
theorem Zjm (ls:List (Ln×Value)) (kind k:Nat) (l:Ln) (sv:Value) (h:ls[k]?=some (l,sv)):cnt (ls.take (k+1)) kind=cnt (ls.take k) kind+(if l.kind=kind then 1 else 0):=by
 obtain ⟨hk,e⟩:=List.getElem?_eq_some_iff.1 h;unfold cnt;rw [List.take_succ_eq_append_getElem hk,List.filter_append,e,List.length_append];by_cases hh:l.kind=kind <;> simp [hh]
def many (ls:List (Ln×Value)) (kind:Nat):Bool:=if kind=2∨kind=3 then decide (6≤cnt ls kind) else false
theorem Zf7 (x0:Int) (kind:Nat) (s2 s3:ByteArray) (so:Option Addr) (sc m:Nat) (ao:Option Addr) (cap n:Nat) (ls:List (Ln×Value)) (w:World) (hl:LinesAt w (.slice ao n cap) ls) (hn:ls.length=n) (hn1:n≤1001) (hkind:kind≤3) :
  Calls Tryz.prog 153 #[lnA' x0 (kind:Int) s2 s3 so m sc,.slice ao n cap] w fun e w'=>e=.returned (.bool (many ls kind))∧Below w.heap.size w w':=by
 have HN:Hid (ls.length=n):=hn;have HL:Hid (LinesAt (w.alloc (bLn x0 kind s2 s3 so m sc)) (.slice ao n cap) ls):=hl.nx (Zb _ _);clear hl hn;go_enter Tryz.func153,Tryz.ntmps153
 go_wp2_with fail
 go_loopw [5,6] (fun c i wr=>∃ (k q:Nat),k≤n∧i=.int .i64 k∧c=.int .i64 q∧q≤k∧Hid (cnt (ls.take k) kind=q)∧Below (w.alloc (bLn x0 kind s2 s3 so m sc)).heap.size (w.alloc (bLn x0 kind s2 s3 so m sc)) wr) (fun _ i _=>n - (intOf i).toNat)
 case atStart=>exact ⟨0,0,Nat.zero_le _,rfl,rfl,Nat.le_refl _,rfl,Below.refl _ _⟩
 case round =>
  obtain ⟨k,q,hk,rfl,rfl,hq,HS,hbel⟩:=hrel;have hcell:wr.cell? ⟨w.heap.size,1,none⟩=some (.int .i64 (kind:Int)):=(hbel.cell (p:=⟨w.heap.size,1,none⟩) (by simp)).trans (by simp);have HB:Hid (Below w.heap.size w wr):=Za (Zb _ _) hbel;by_cases hlt:k<n
  ·obtain ⟨⟨l,sv⟩,hp⟩:∃ p,ls[k]?=some p:=⟨_,List.getElem?_eq_getElem (by rw [HN.out];exact hlt)⟩;obtain ⟨bl,off,so',sc',rfl,hbl,_,_,c0,c1,c2,c3,c4⟩:=(HL.out.nx hbel).at hp;have HC:=hideIt (Zjm ls kind k l sv hp);have hlti:(k:Int)<(n:Int):=by omega
   clear hp c0 c2 c3 c4;by_cases hkk:l.kind=kind
   ·have hkb:((l.kind:Int) == (kind:Int))=true:=by simp [hkk]
    have HK:Hid (l.kind=kind):=hkk;clear hkk;go_wp2_with fail
    go_quiet (fail)
    go_wp2_with fail
    go_roundw
    case rel=>exact ⟨k+1,q+1,by omega,by go_num,by go_num,by omega,(by show _=_;rw [HC.out,HS.out,if_pos HK.out]),below_drewN hbel _⟩
    case measure=>simp [intOf];omega
   ·have hkb:((l.kind:Int) == (kind:Int))=false:=by simp;omega
    have HK:Hid (¬l.kind=kind):=hkk;clear hkk;go_wp2_with fail
    go_quiet (fail)
    go_wp2_with fail
    go_roundw
    case rel=>exact ⟨k+1,q,by omega,by go_num,rfl,by omega,(by show _=_;rw [HC.out,HS.out,if_neg HK.out];rfl),below_drewN hbel _⟩
    case measure=>simp [intOf];omega
  ·have HQ:Hid (cnt ls kind=q):=by
    have h:=HS.out;rw [List.take_of_length_le (by rw [HN.out];omega)] at h;exact h
   by_cases h2:kind=2
   ·subst h2;go_wp2_with fail
    go_ret
    exact ⟨Zl (by rw [many,if_pos (.inl rfl),HQ.out,Bool.eq_iff_iff,decide_eq_true_iff,decide_eq_true_iff];omega),HB.out⟩
   ·have h2b:((kind:Int) == 2)=false:=by simp;omega
    by_cases h3:kind=3
    ·subst h3;go_wp2_with fail
     go_ret
     exact ⟨Zl (by rw [many,if_pos (.inr rfl),HQ.out,Bool.eq_iff_iff,decide_eq_true_iff,decide_eq_true_iff];omega),HB.out⟩
    ·have h3b:((kind:Int) == 3)=false:=by simp;omega
     have H23:Hid (¬(kind=2∨kind=3)):=by intro h;omega
     clear h2 h3;go_wp2_with fail
     go_ret
     exact ⟨Zl (by rw [many,if_neg H23.out]),HB.out⟩
def once (ss:List (Nat×Nat)):Prop:=ss.Pairwise fun a b=>¬(wordB a.1).toList=(wordB b.1).toList
def twc (ss:List (Nat×Nat)):Bool:=!decide (ss.Pairwise fun a b=>¬(wordB a.1).toList=(wordB b.1).toList)
theorem ZhQ {ss:List (Nat×Nat)} {k:Nat} {p:Nat×Nat} (h:ss[k]?=some p) (h1:once (ss.take k)) (h2:∀ j q,j<k→ss[j]?=some q→¬(wordB q.1).toList=(wordB p.1).toList):once (ss.take (k+1)):=by
 obtain ⟨hk,e⟩:=List.getElem?_eq_some_iff.1 h;unfold once at *;rw [List.take_succ_eq_append_getElem hk,List.pairwise_append];refine ⟨h1,by simp,fun a ha b hb=>?_⟩;simp at hb;subst hb;obtain ⟨j,hj⟩:=List.getElem?_of_mem ha;have hjl:j<k:=by
  have:=(List.getElem?_eq_some_iff.1 hj).1;simp at this;omega
 rw [List.getElem?_take,if_pos hjl] at hj;rw [e];exact h2 j a hjl hj
theorem ZjD {ss:List (Nat×Nat)} {j k:Nat} {q p:Nat×Nat} (hjk:j<k) (hq:ss[j]?=some q) (hp:ss[k]?=some p) (he:(wordB q.1).toList=(wordB p.1).toList):twc ss=true:=by
 unfold twc;have:¬ss.Pairwise fun a b=>¬(wordB a.1).toList=(wordB b.1).toList:=by
  intro h;obtain ⟨h1,rfl⟩:=List.getElem?_eq_some_iff.1 hq;obtain ⟨h2,rfl⟩:=List.getElem?_eq_some_iff.1 hp;exact List.pairwise_iff_getElem.1 h j k h1 h2 hjk he
 simp [this]
theorem Zjt {ss:List (Nat×Nat)} (h:once ss):twc ss=false:=by
 unfold twc;unfold once at h;simp [h]
theorem Zfv (x0 x1:Int) (s2 s3:ByteArray) (so:Option Addr) (sc n:Nat) (ss:List (Nat×Nat)) (w:World) (hr:RowAt w (.slice so n sc) n (flatS ss)) (hn:ss.length=n) (hn1:n≤1001) :
  Calls Tryz.prog 154 #[lnA' x0 x1 s2 s3 so n sc] w fun e w'=>e=.returned (.bool (twc ss))∧Below w.heap.size w w':=by
 have HN:Hid (ss.length=n):=hn;have HR:Hid (RowAt (w.alloc (bLn x0 x1 s2 s3 so n sc)) (.slice so n sc) n (flatS ss)):=hr.nx (Zb _ _);clear hr hn;go_enter Tryz.func154,Tryz.ntmps154
 go_wp2_with fail
 go_loopw [3] (fun i wr=>∃ (k:Nat),k≤n∧i=.int .i64 k∧Hid (once (ss.take k))∧Below (w.alloc (bLn x0 x1 s2 s3 so n sc)).heap.size (w.alloc (bLn x0 x1 s2 s3 so n sc)) wr) (fun i _=>n - (intOf i).toNat)
 case atStart=>exact ⟨0,Nat.zero_le _,rfl,List.Pairwise.nil,Below.refl _ _⟩
 case round =>
  obtain ⟨k,hk,rfl,HS,hbel⟩:=hrel;have hcell:wr.cell? ⟨w.heap.size,4,none⟩=some (.slice so n sc):=(hbel.cell (p:=⟨w.heap.size,4,none⟩) (by simp)).trans (by simp);by_cases hlt:k<n
  ·obtain ⟨⟨a,b⟩,hp⟩:∃ p,ss[k]?=some p:=⟨_,List.getElem?_eq_getElem (by rw [HN.out];exact hlt)⟩;have HPk:Hid (ss[k]?=some (a,b)):=hp;have HBL:=hideIt hbel;clear hp;go_wp2_with fail
   go_loopw [4] (fun i wq=>∃ (j:Nat),j≤k∧i=.int .i64 j∧Hid (∀ j' q,j'<j→ss[j']?=some q→¬(wordB q.1).toList=(wordB a).toList)∧Below (w.alloc (bLn x0 x1 s2 s3 so n sc)).heap.size (w.alloc (bLn x0 x1 s2 s3 so n sc)) wq) (fun i _=>k - (intOf i).toNat)
   case atStart=>exact ⟨0,Nat.zero_le _,rfl,(fun j' q h=>by omega),HBL.out⟩
   case round =>
    obtain ⟨j,hj,rfl,HJ,hbel2⟩:=hrel;have hcell2:wr.cell? ⟨w.heap.size,4,none⟩=some (.slice so n sc):=(hbel2.cell (p:=⟨w.heap.size,4,none⟩) (by simp)).trans (by simp);have HB:Hid (Below w.heap.size w wr):=Za (Zb _ _) hbel2;by_cases hjk:j<k
    ·obtain ⟨⟨a',b'⟩,hq⟩:∃ p,ss[j]?=some p:=⟨_,List.getElem?_eq_getElem (by rw [HN.out];omega)⟩;obtain ⟨bl,off,hso,hbl,c0,c1⟩:=ZcR (HR.out.nx hbel2) HPk.out;obtain ⟨bl',off',e1,_,d0,d1⟩:=ZcR (HR.out.nx hbel2) hq;rw [hso] at e1;obtain ⟨rfl,rfl⟩:bl=bl'∧off=off':=by simpa using e1
     rw [hso] at hcell2;have HQ:Hid (ss[j]?=some (a',b')):=hq;have HSO:=hideIt hso;have hi1:(k:Int)<(n:Int):=by omega
     have hi2:(j:Int)<(n:Int):=by omega
     clear hq e1 c1 d1 hso hcell;by_cases hw:(wordB a').toList=(wordB a).toList
     ·have hwb:((wordB a').toList == (wordB a).toList)=true:=by simp [hw]
      have HT:Hid (twc ss=true):=ZjD hjk HQ.out HPk.out hw;clear hw;go_wp2_with fail
      go_quiet (fail)
      go_wp2_with fail
      go_ret
      exact ⟨Zl HT.out.symm,below_drewN HB.out _⟩
     ·have hwb:((wordB a').toList == (wordB a).toList)=false:=by simp [hw]
      have HT:Hid (¬(wordB a').toList=(wordB a).toList):=hw;clear hw;go_wp2_with fail
      go_quiet (fail)
      go_wp2_with fail
      go_roundw
      case rel=>exact ⟨j+1,by omega,by go_num,(fun j' q h h2=>by
       by_cases hjj:j'<j
       ·exact HJ.out j' q hjj h2
       ·obtain rfl:j'=j:=by omega
        rw [HQ.out] at h2;cases h2;exact HT.out),below_drewN hbel2 _⟩
      case measure=>simp [intOf];omega
    ·obtain rfl:j=k:=by omega
     clear hcell;go_wp2_with fail
     go_roundw
     case rel=>exact ⟨j+1,by omega,by go_num,ZhQ HPk.out HS.out HJ.out,hbel2⟩
     case measure=>simp [intOf];omega
  ·go_wp2_with fail
   go_ret
   exact ⟨Zl (by rw [Zjt];rw [←List.take_of_length_le (l:=ss) (i:=k) (by rw [HN.out];omega)];exact HS.out),Za (Zb _ _) hbel⟩
abbrev bZero':Obj:=.cells #[.int .i64 0,.int .i64 0,.string ⟨#[]⟩,.string ⟨#[]⟩,.slice none 0 0] 147
def isL (kind:Nat) (name:ByteArray) (p:Ln×Value):Bool:=(p.1.kind == kind)&&(p.1.name.toList == name.toList)
def findL (ls:List (Ln×Value)) (kind:Nat) (name:ByteArray):Option (Ln×Value):=ls.find? (isL kind name)
theorem ZhA {ls:List (Ln×Value)} {kind:Nat} {name:ByteArray} {k:Nat} {p:Ln×Value} (hd:ls.drop k=p :: ls.drop (k+1)) (hs:findL (ls.drop k) kind name=findL ls kind name) (h:isL kind name p=true):findL ls kind name=some p:=by
 rw [←hs,hd,findL,List.find?_cons,h]
theorem Zdn {ls:List (Ln×Value)} {kind:Nat} {name:ByteArray} {k:Nat} {p:Ln×Value} (hd:ls.drop k=p :: ls.drop (k+1)) (hs:findL (ls.drop k) kind name=findL ls kind name) (h:isL kind name p=false):findL (ls.drop (k+1)) kind name=findL ls kind name:=by
 rw [←hs,hd,findL,findL,List.find?_cons,h]
theorem ZeC {ls:List (Ln×Value)} {kind:Nat} {name:ByteArray} {p:Ln×Value} (h:findL ls kind name=some p):p∈ls:=List.mem_of_find?_eq_some h
def Found (o:Option (Ln×Value)) (w w':World) (e:Ending):Prop:=
 (o=none∧e=.returned (lnA' 0 0 ⟨#[]⟩ ⟨#[]⟩ none 0 0)∧Below w.heap.size w w') ∨
 (∃ l so sc,o=some (l,.slice so l.sets.length sc)∧e=.returned (lnA' l.place l.kind l.name l.frm so l.sets.length sc)∧Below w.heap.size w w')
theorem Zf1 (kind:Nat) (name:ByteArray) (ao:Option Addr) (cap n:Nat) (ls:List (Ln×Value)) (w:World) (hl:LinesAt w (.slice ao n cap) ls) (hn:ls.length=n) (hn1:n≤1001) :
  Calls Tryz.prog 130 #[.slice ao n cap,.int .i64 (kind:Int),.string name] w fun e w'=>Found (findL ls kind name) w w' e:=by
 have HN:Hid (ls.length=n):=hn;have HL:Hid (LinesAt (w.alloc bZero') (.slice ao n cap) ls):=hl.nx (Zb _ _);clear hl hn;go_enter Tryz.func130,Tryz.ntmps130
 go_wp2_with fail
 go_loop [7] (fun i=>∃ (k:Nat),k≤n∧i=.int .i64 k∧Hid (findL (ls.drop k) kind name=findL ls kind name)) (fun i=>n - (intOf i).toNat)
 case atStart=>exact ⟨0,Nat.zero_le _,rfl,rfl⟩
 case round =>
  obtain ⟨k,hk,rfl,HS⟩:=hrel;by_cases hlt:k<n
  ·obtain ⟨⟨l,sv⟩,hp⟩:∃ p,ls[k]?=some p:=⟨_,List.getElem?_eq_getElem (by rw [HN.out];exact hlt)⟩;obtain ⟨bl,off,so,sc,rfl,hbl,hsv,_,c0,c1,c2,c3,c4⟩:=HL.out.at hp;subst hsv;have HD:Hid (ls.drop k=(l,.slice so l.sets.length sc) :: ls.drop (k+1)):=Zy hp;have hlti:(k:Int)<(n:Int):=by omega
   clear hp;by_cases hkk:l.kind=kind
   ·have hkb:((l.kind:Int) == (kind:Int))=true:=by simp [hkk]
    have HK:Hid (l.kind=kind):=hkk;clear hkk;cases hnb:l.name.toList == name.toList
    ·go_wp2_with fail
     go_round
     case rel=>exact ⟨k+1,by omega,by go_num,Zdn HD.out HS.out (by simp [isL,hnb])⟩
     case measure=>simp [intOf];omega
    ·have HF:Hid (findL ls kind name=some (l,.slice so l.sets.length sc)):=ZhA HD.out HS.out (by simp [isL,hnb,HK.out]);go_wp2_with fail
     refine bodyPost_ret (v:=lnA' l.place l.kind l.name l.frm so l.sets.length sc) (by simp [results,Tryz.results130,go_sem]) rfl (.inr ⟨l,so,sc,HF.out,rfl,?_⟩);exact Zb _ _
   ·have hkb:((l.kind:Int) == (kind:Int))=false:=by simp;omega
    have HK:Hid (¬l.kind=kind):=hkk;clear hkk;go_wp2_with fail
    go_round
    case rel=>exact ⟨k+1,by omega,by go_num,Zdn HD.out HS.out (by simp [isL,HK.out])⟩
    case measure=>simp [intOf];omega
  ·have HF:Hid (findL ls kind name=none):=by
    show _=_;rw [←HS.out,List.drop_of_length_le (by rw [HN.out];omega)];rfl
   go_wp2_with fail
   exact bodyPost_ret (v:=lnA' 0 0 ⟨#[]⟩ ⟨#[]⟩ none 0 0) (by simp [results,Tryz.results130,go_sem]) rfl (.inl ⟨HF.out,rfl,Zb _ _⟩)
theorem Ze3 (name:ByteArray) (ao:Option Addr) (cap n:Nat) (ls:List (Ln×Value)) (w:World) (hl:LinesAt w (.slice ao n cap) ls) (hn:ls.length=n) (hn1:n≤1001) :
  Calls Tryz.prog 130 #[.slice ao n cap,.int .i64 2,.string name] w fun e w'=>Found (findL ls 2 name) w w' e:=Zf1 2 name ao cap n ls w hl hn hn1
def valL (ss:List (Nat×Nat)) (k:Nat):Option Nat:=(ss.find? fun p=>(wordB p.1).toList == (wordB k).toList).map (·.2)
def valN (ss:List (Nat×Nat)) (k:Nat):Int:=match valL ss k with | some n=>n | none=>0
theorem ZiJ {ss:List (Nat×Nat)} {key k a b:Nat} (hd:ss.drop k=(a,b) :: ss.drop (k+1)) (hs:valL (ss.drop k) key=valL ss key) (h:((wordB a).toList == (wordB key).toList)=true):valL ss key=some b:=by
 rw [←hs,hd,valL,List.find?_cons];simp [h]
theorem ZhB {ss:List (Nat×Nat)} {key k a b:Nat} (hd:ss.drop k=(a,b) :: ss.drop (k+1)) (hs:valL (ss.drop k) key=valL ss key) (h:((wordB a).toList == (wordB key).toList)=false):valL (ss.drop (k+1)) key=valL ss key:=by
 rw [←hs,hd,valL,valL,List.find?_cons];simp [h]
theorem Zcz (key:Nat) (x0 x1:Int) (s2 s3:ByteArray) (so:Option Addr) (sc n:Nat) (ss:List (Nat×Nat)) (w:World) (hr:RowAt w (.slice so n sc) n (flatS ss)) (hn:ss.length=n) (hn1:n≤1001) :
  Calls Tryz.prog 132 #[lnA' x0 x1 s2 s3 so n sc,.string (wordB key)] w fun e w'=>e=.returned (.tuple #[.int .i64 (valN ss key),.bool (valL ss key).isSome])∧Below w.heap.size w w':=by
 have HN:Hid (ss.length=n):=hn;have HR:Hid (RowAt (w.alloc (bLn x0 x1 s2 s3 so n sc)) (.slice so n sc) n (flatS ss)):=hr.nx (Zb _ _);clear hr hn;go_enter Tryz.func132,Tryz.ntmps132
 go_wp2_with fail
 go_loop [6] (fun i=>∃ (k:Nat),k≤n∧i=.int .i64 k∧Hid (valL (ss.drop k) key=valL ss key)) (fun i=>n - (intOf i).toNat)
 case atStart=>exact ⟨0,Nat.zero_le _,rfl,rfl⟩
 case round =>
  obtain ⟨k,hk,rfl,HS⟩:=hrel;by_cases hlt:k<n
  ·obtain ⟨⟨a,b⟩,hp⟩:∃ p,ss[k]?=some p:=⟨_,List.getElem?_eq_getElem (by rw [HN.out];exact hlt)⟩;obtain ⟨bl,off,rfl,hbl,c0,c1⟩:=ZcR HR.out hp;have HD:Hid (ss.drop k=(a,b) :: ss.drop (k+1)):=Zy hp;have hlti:(k:Int)<(n:Int):=by omega
   clear hp;cases hw:(wordB a).toList == (wordB key).toList
   ·go_wp2_with fail
    go_round
    case rel=>exact ⟨k+1,by omega,by go_num,ZhB HD.out HS.out hw⟩
    case measure=>simp [intOf];omega
   ·have HV:Hid (valL ss key=some b):=ZiJ HD.out HS.out hw;go_wp2_with fail
    go_ret2
    exact ⟨Zbh (by simp [valN,HV.out]) (by simp [HV.out]),Zb _ _⟩
  ·have HV:Hid (valL ss key=none):=by
    show _=_;rw [←HS.out,List.drop_of_length_le (by rw [HN.out];omega)];rfl
   go_wp2_with fail
   go_ret2
   exact ⟨Zbh (by simp [valN,HV.out]) (by simp [HV.out]),Zb _ _⟩
end Co
end Go.Proofs.YtcpikklofilkcaaGreat
