import Derived.Test.YtcpikklofilkcaaGreatNqE
import Derived.Test.YtcpikklofilkcaaGreatNqD
set_option maxRecDepth 100000
set_option maxHeartbeats 16000000
namespace Go.Proofs.YtcpikklofilkcaaGreat
open Go.RowKit
namespace Co
def findC (ls:List Ln) (kind:Nat) (name:ByteArray):Option Ln:=ls.find? fun l=>(l.kind == kind)&&(l.name.toList == name.toList)
def cntC (ls:List Ln) (kind:Nat):Nat:=(ls.filter fun l=>l.kind == kind).length
def manyC (ls:List Ln) (kind:Nat):Bool:=if kind=2∨kind=3 then decide (6≤cntC ls kind) else false
def faultC (ls:List Ln) (l:Ln):Nat:=
 if decide (ls.length=0) != decide (l.kind=1) then 2
 else if allFit l.sets=false then 3
 else if manyC ls l.kind=true then 4
 else if twc l.sets=true then 5
 else if (findC ls l.kind l.name).isSome=true then 5 else 0
abbrev bare (ls:List (Ln×Value)):List Ln:=ls.map (·.1)
theorem ZaU:∀ (ls:List (Ln×Value)) (kind:Nat) (name:ByteArray),findC (bare ls) kind name=(findL ls kind name).map (·.1)
 | [],_,_=>rfl
 | p :: r,kind,name=>by
  have ih:=ZaU r kind name;simp only [findC,findL,bare,List.map_cons,List.find?_cons] at ih ⊢;by_cases h:isL kind name p=true
  ·have h':((p.1.kind == kind)&&(p.1.name.toList == name.toList))=true:=h;rw [h,h'];rfl
  ·have h1:isL kind name p=false:=by simpa using h
   have h':((p.1.kind == kind)&&(p.1.name.toList == name.toList))=false:=h1;rw [h1,h'];exact ih
theorem Zjq (ls:List (Ln×Value)) (kind:Nat):cntC (bare ls) kind=cnt ls kind:=by
 unfold cntC cnt bare;rw [List.filter_map,List.length_map];rfl
theorem ZdV (ls:List (Ln×Value)) (l:Ln):faultC (bare ls) l=faultN ls l:=by
 unfold faultC faultN manyC many;rw [ZaU,Zjq];simp only [bare,List.length_map,Option.isSome_map]
structure Rd where
 lines:List Ln
 err:Nat
 at':Nat
def rdC:Nat→List Ln→List ByteArray→Rd
 | i,acc,[]=>if acc.length=0 then ⟨[],2,i⟩ else ⟨acc,0,0⟩
 | i,acc,p :: r =>
  if (flds p).length=0 then rdC (i+1) acc r
  else match parseF (flds p) with
   | none=>⟨[],2,i+1⟩
   | some l=>if faultC acc l=0 then rdC (i+1) (acc++[{l with place:=i+1}]) r else ⟨[],faultC acc l,i+1⟩
def rd (s:ByteArray):Rd:=rdC 0 [] (pieces s 10)
theorem Zdm {i:Nat} {acc:List Ln} {p:ByteArray} {r:List ByteArray} (h:(flds p).length=0):rdC i acc (p :: r)=rdC (i+1) acc r:=by rw [rdC,if_pos h]
theorem Zj8 {i:Nat} {acc:List (Ln×Value)} {p:ByteArray} {r:List ByteArray} (h:¬(flds p).length=0) (hb:readN acc (flds p)≠0):rdC i (bare acc) (p :: r)=⟨[],readN acc (flds p),i+1⟩:=by
 rw [rdC,if_neg h];unfold readN at hb ⊢;cases hp:parseF (flds p) with
 | none=>rfl
 | some l =>
  rw [hp] at hb;simp only at hb ⊢;rw [ZdV,if_neg hb]
theorem Zjb {i:Nat} {acc:List (Ln×Value)} {p:ByteArray} {r:List ByteArray} {l:Ln} (h:¬(flds p).length=0) (hl:parseF (flds p)=some l) (hb:readN acc (flds p)=0):rdC i (bare acc) (p :: r)=rdC (i+1) (bare acc++[{l with place:=i+1}]) r:=by
 rw [rdC,if_neg h,hl];unfold readN at hb;rw [hl] at hb;simp only at hb ⊢;rw [ZdV,if_pos hb]
def Sv (w:World) (p:Ln×Value):Prop:=RowAt w p.2 p.1.sets.length (flatS p.1.sets)∧∀ so n sc,p.2=.slice so n sc→Fr 0 w so
theorem Sv.nx {w w':World} {p:Ln×Value} (h:Sv w p) (hb:Below w.heap.size w w'):Sv w' p:=⟨h.1.nx hb,fun so n sc e=>(h.2 so n sc e).nx hb⟩
theorem Zcp {w w':World} {v:Value} {n:Nat} {cs:List Value} {row:Option Nat} (h:RowAt w v n cs) (hg:w.grownBy w' row) (hne:∀ so m sc b off,v=.slice so m sc→so=some ⟨b,off,none⟩→row≠some b):RowAt w' v n cs:=by
 obtain ⟨ao,cap,e,hc,h⟩:=h;refine ⟨ao,cap,e,hc,?_⟩;rcases h with h | ⟨b,off,h1,h2,h3⟩
 ·exact .inl h
 ·refine .inr ⟨b,off,h1,Nat.lt_of_lt_of_le h2 hg.size,fun j x hx=>?_⟩;exact hg.cell (h3 j x hx) (fun e'=>hne ao n cap b off e h1 e'.symm)
theorem Sv.grown {w w':World} {p:Ln×Value} {row:Option Nat} (h:Sv w p) (hg:w.grownBy w' row) (hrow:∀ g,row=some g→∃ cur,w.heap[g]?=some (.cells cur 147 (0,0))):Sv w' p:=by
 have key:∀ so m sc b off,p.2=.slice so m sc→so=some ⟨b,off,none⟩→row≠some b:=by
  intro so m sc b off e1 e2 e3;obtain ⟨_,cur,h2⟩:=h.2 so m sc e1 b off e2;obtain ⟨cur',h3⟩:=hrow b e3;rw [h2] at h3;simp at h3
 refine ⟨Zcp h.1 hg key,fun so n sc e b off e2=>?_⟩;obtain ⟨h1,cur,h2⟩:=h.2 so n sc e b off e2;exact ⟨h1,cur,(hg.block b (Array.getElem?_eq_some_iff.1 h2).1 (fun e'=>key so n sc b off e e2 e'.symm)).trans h2⟩
theorem Zq {w:World} {B size:Nat} {e:TypeId} {v:Value} {n:Nat} {xs:List Value} (h:w.ownsRow B e size v n xs):∀ g,v.ownBlock=some g→∃ cur,w.heap[g]?=some (.cells cur e (0,0)):=by
 intro g hg;rcases h.2 with ⟨rfl,_⟩ | ⟨g',cap',cur,rfl,hb,hh,_⟩
 ·simp [Value.ownBlock] at hg
 ·simp [Value.ownBlock] at hg;subst hg;exact ⟨cur,hh⟩
def ReadAll (s:ByteArray) (w w':World) (e:Ending):Prop:=
 ((rd s).err≠0∧e=.returned (.tuple #[.slice none 0 0,.int .i64 (rd s).err,.int .i64 (rd s).at'])∧Below w.heap.size w w') ∨
 (∃ ls ao cap,(rd s).err=0∧(rd s).lines=bare ls∧ls.length≤1001∧0<ls.length∧e=.returned (.tuple #[.slice ao ls.length cap,.int .i64 0,.int .i64 0])∧LinesAt w' (.slice ao ls.length cap) ls∧Below w.heap.size w w')
theorem ZaI {a b:Option Addr} {n m c d:Nat} {x y z t:Int} (h:x=y) (h2:z=t) (h3:Value.slice a n c=.slice b m d):Ending.returned (.tuple #[.slice a n c,.int .i64 x,.int .i64 z])=.returned (.tuple #[.slice b m d,.int .i64 y,.int .i64 t]):=by rw [h,h2,h3]
theorem Ze9 (s:ByteArray) (w:World) (hs:s.size≤1000) :
  Calls Tryz.prog 55 #[.string s] w fun e w'=>ReadAll s w w' e:=by
 obtain ⟨t0,hi,hz0,hz1,hz2⟩:=info_parts Zev;go_enter Tryz.func55,Tryz.ntmps55
 go_wp2_with fail
 refine (Zji s _ hs).mono ?_;rintro e w1 ⟨pa,pc,rfl,hp,hb1⟩;have hlen:=Zai s 10;have hsmall:=ZaE s 10;obtain ⟨ps,hps⟩:∃ ps,pieces s 10=ps:=⟨_,rfl⟩;rw [hps] at hp hlen hsmall ⊢;obtain ⟨n,hn⟩:∃ n,ps.length=n:=⟨_,rfl⟩;rw [hn] at hp hlen ⊢;have HP:Hid (RowAt w1 (.slice pa n pc) n (strs ps)∧ps.length=n∧pieces s 10=ps∧∀ p∈ps,p.size≤s.size):=⟨hp,hn,hps,hsmall⟩;have HB1:Hid (Below w.heap.size w w1):=hb1;clear hp hn hps hb1 hsmall;go_wp2_with fail
 go_loopw [6,7] (fun v i wr=>∃ (k m:Nat) (acc:List (Ln×Value)),k≤n∧i=.int .i64 k∧m≤k∧Hid (rd s=rdC k (bare acc) (ps.drop k)∧acc.length=m∧∀ p∈acc,Sv wr p)∧wr.ownsRow w1.heap.size 147 5 v m (flatL acc)∧Below w1.heap.size w1 wr) (fun _ i _=>n - (intOf i).toNat)
 case atStart=>exact ⟨0,0,[],Nat.zero_le _,rfl,Nat.le_refl _,⟨by rw [rd,HP.out.2.2.1];rfl,rfl,by simp⟩,World.ownsRow_made w1 #[] 0 (Nat.le_refl _) (Nat.zero_le _) rfl,Zb _ _⟩
 case round =>
  obtain ⟨k,m,acc,hk,rfl,hm,HS,hown,hbel⟩:=hrel;obtain ⟨vo,vc,hv,_⟩:=Zd hown;subst hv;by_cases hlt:k<n
  ·obtain ⟨p,hpk⟩:∃ p,ps[k]?=some p:=⟨_,List.getElem?_eq_getElem (by rw [HP.out.2.1];exact hlt)⟩;obtain ⟨bl,off,hpa,hbl,hc⟩:=(HP.out.1.nx hbel).at (Zax hpk);subst hpa;have hps2:p.size≤1000:=Nat.le_trans (HP.out.2.2.2 p (List.mem_of_getElem? hpk)) hs;have HD:Hid (ps.drop k=p :: ps.drop (k+1)):=Zy hpk;have hlti:(k:Int)<(n:Int):=by omega
   clear hpk;go_wp2_with fail
   refine (Zfh p _ hps2).mono ?_;rintro e w2 ⟨fo,fc,rfl,hf,hb2⟩;have hfl:=Zdl p;have hfs:=Zdy p;obtain ⟨fs,hfe⟩:∃ fs,flds p=fs:=⟨_,rfl⟩;rw [hfe] at hf hfl hfs ⊢;obtain ⟨fn,hfn⟩:∃ fn,fs.length=fn:=⟨_,rfl⟩;rw [hfn] at hf hfl ⊢;have hown2:=Zk hown hb2;have hbel2:=Za hbel hb2;have HF:Hid (RowAt w2 (.slice fo fn fc) fn (strs fs)∧fs.length=fn∧flds p=fs∧∀ q∈fs,q.size≤p.size):=⟨hf,hfn,hfe,hfs⟩;have HSv:Hid (∀ p∈acc,Sv w2 p):=fun q hq=>(HS.out.2.2 q hq).nx hb2
   clear hf hfn hfe hfs hown hbel hb2;by_cases hf0:fn=0
   ·have HF0:Hid (fn=0):=hf0;have hf0b:¬(0:Int)<(fn:Int):=by omega
    have hf0c:¬0<fn:=by omega
    clear hf0;go_wp2_with fail
    go_roundw
    case rel=>exact ⟨k+1,m,acc,by omega,by go_num,by omega,⟨by rw [HS.out.1,HD.out,Zdm (by rw [HF.out.2.2.1,HF.out.2.1];exact HF0.out)],HS.out.2.1,HSv.out⟩,hown2,hbel2⟩
    case measure=>simp [intOf];omega
   ·have hf0b:(0:Int)<(fn:Int):=by omega
    have HF0:Hid (¬(flds p).length=0):=by show ¬_;rw [HF.out.2.2.1,HF.out.2.1];exact hf0
    have HRL:=hideIt (ZfU fo fc fn fs vo vc m acc w2 HF.out.1 HF.out.2.1 (by omega) (by omega) (fun q hq=>Nat.le_trans (HF.out.2.2.2 q hq) hps2) (by
     have h:=Zd hown2;refine ⟨by rw [HS.out.2.1];exact h,fun q hq=>(HSv.out q hq).1⟩) HS.out.2.1 (by omega))
    go_wp2_with fail
    refine HRL.out.mono ?_;rintro e w3 (⟨hbad,x0,x1,s2,s3,a4,n4,c4,rfl,hb3⟩ | ⟨l,so,sc,hz,hpl,rfl,hrow,hfr,hb3⟩)
    ·obtain ⟨er,her⟩:∃ er,readN acc fs=er:=⟨_,rfl⟩;rw [her] at hbad ⊢;have HX:Hid ((rd s).err=er∧(rd s).at'=k+1∧Below w.heap.size w w3):=by
      have e:rd s=⟨[],er,k+1⟩:=by
       rw [HS.out.1,HD.out,Zj8 HF0.out (by rw [HF.out.2.2.1,her];exact hbad),HF.out.2.2.1,her]
      refine ⟨by rw [e],by rw [e],Za HB1.out (Za hbel2 hb3)⟩
     have herb:((er:Int) != 0)=true:=by rw [bne_iff_ne];omega
     have HBD:=hideIt hbad;clear hown2 hbel2 hb3 her hbad;go_wp2_with fail
     go_ret3
     refine .inl ⟨by rw [HX.out.1];exact HBD.out,?_,Za HX.out.2.2 (Zb _ _)⟩;exact ZaI (by rw [HX.out.1]) (by rw [HX.out.2.1];omega) rfl
    ·obtain ⟨m5,hm5⟩:∃ m5,l.sets.length=m5:=⟨_,rfl⟩;rw [hm5] at hrow ⊢;have hown3:=Zk hown2 hb3;have hbel3:=Za hbel2 hb3;have hB3:w1.heap.size≤w3.heap.size:=hbel3.size;have HX:Hid (rd s=rdC (k+1) (bare (acc++[({l with place:=k+1},.slice so m5 sc)])) (ps.drop (k+1))∧l.sets.length=m5):=by
      refine ⟨?_,hm5⟩;rw [HS.out.1,HD.out,Zjb HF0.out (by rw [HF.out.2.2.1];exact hpl) (by rw [HF.out.2.2.1];exact hz)];simp [bare]
     have HV:Hid ((∀ p∈acc,Sv w3 p)∧Sv w3 ({l with place:=k+1},.slice so m5 sc)):=by
      refine ⟨fun q hq=>(HSv.out q hq).nx hb3,?_,?_⟩
      ·show RowAt w3 (.slice so m5 sc) l.sets.length (flatS l.sets);rw [hm5];exact hrow
      ·intro so' n' sc' e;simp only [Value.slice.injEq] at e;obtain ⟨rfl,_,_⟩:=e;exact hfr.mono (Nat.zero_le _)
     clear hown2 hbel2 hb3 hz hpl hrow hfr hm5 HSv;go_wp2_with (at_builtin;refine wpList_append_own _ rfl (.tmp 42) (.tmp 44) 110 rfl w1.heap.size 147 t0 _ 5 72 Tryz.underlying110 hi hz0 hz1 hz2 rfl (by decide) _ _ _ rfl ((hown3.alloc _).alloc _) ⟨w3.heap.size+1,0,none⟩ 1 1 [.int .i64 ((k:Int)+1),.int .i64 (l.kind:Int),.string l.name,.string l.frm,.slice so m5 sc] rfl rfl ?c1 ?c2 ?c3 ?c4 ?c5 ?next)
     case c1=>exact Zo (w3.alloc _) [.int .i64 ((k:Int)+1),.int .i64 (l.kind:Int),.string l.name,.string l.frm,.slice so m5 sc] _ (by simp)
     case c2=>intro u hu;simp at hu;rcases hu with rfl | rfl | rfl | rfl | rfl <;> rfl
     case c3=>unfold maxLen;omega
     case c4=>omega
     case c5=>simp;omega
     case next =>
      intro v' w6 hown' hgrow _;have R:w6.ownsRow w1.heap.size 147 5 v' (m+1) (flatL (acc++[({l with place:=k+1},.slice so m5 sc)]))∧Below w1.heap.size w1 w6∧∀ p∈acc++[({l with place:=k+1},.slice so m5 sc)],Sv w6 p:=by
       refine ⟨by rw [Zbj];exact hown',((hbel3.alloc hB3 _).alloc (by simp;omega) _).grown hgrow (by simp;omega) (fun g hg=>(hown3.lt g hg).1),?_⟩;intro q hq;have hq3:Sv w3 q:=by
        rcases List.mem_append.1 hq with h | h
        ·exact HV.out.1 q h
        ·simp at h;subst h;exact HV.out.2
       exact ((hq3.nx (Zb _ _)).nx (Zb _ _)).grown hgrow (Zq ((hown3.alloc _).alloc _))
      clear hown' hgrow hown3 hbel3;go_wp2_with fail
      go_roundw
      case rel=>exact ⟨k+1,m+1,acc++[({l with place:=k+1},.slice so m5 sc)],by omega,by go_num,by omega,⟨HX.out.1,by simp [HS.out.2.1],R.2.2⟩,R.1,R.2.1⟩
      case measure=>simp [intOf];omega
  ·have e0:ps.drop k=[]:=List.drop_of_length_le (by rw [HP.out.2.1];omega);obtain rfl:k=n:=by omega
   have hrr:rd s=rdC k (bare acc) []:=by rw [HS.out.1,e0]
   rw [rdC] at hrr;by_cases hm0:m=0
   ·have HX:Hid (rd s=⟨[],2,k⟩∧Below w.heap.size w wr):=⟨by rw [hrr,if_pos (by simp [bare,HS.out.2.1,hm0])],Za HB1.out hbel⟩;subst hm0;clear hrr e0 hown hbel;go_wp2_with fail
    go_ret3
    exact .inl ⟨by rw [HX.out.1];exact (by decide:(2:Nat)≠0),ZaI (by rw [HX.out.1];rfl) (by rw [HX.out.1]) rfl,HX.out.2⟩
   ·have HX:Hid (rd s=⟨bare acc,0,0⟩∧Below w.heap.size w wr∧LinesAt wr (.slice vo m vc) acc∧acc.length=m):=
     ⟨by rw [hrr,if_neg (by simp [bare,HS.out.2.1,hm0])],Za HB1.out hbel,⟨by rw [HS.out.2.1];exact Zd hown,fun q hq=>(HS.out.2.2 q hq).1⟩,HS.out.2.1⟩
    have hm0b:((m:Int) == 0)=false:=by simp;omega
    clear hrr e0 hown hbel;go_wp2_with fail
    go_ret3
    refine .inr ⟨acc,vo,vc,by rw [HX.out.1],by rw [HX.out.1],by rw [HX.out.2.2.2];omega,by rw [HX.out.2.2.2];omega,ZaI rfl rfl (by rw [HX.out.2.2.2]),?_,HX.out.2.1⟩;rw [HX.out.2.2.2];exact HX.out.2.2.1
def tabStep (all:List (Ln×Value)) (st:Int×List Pl) (p:Ln×Value):Int×List Pl:=
 if p.1.kind=1 then (valOf 3 0 p.1.sets [],st.2) else if p.1.kind=3 then (st.1,insP (poolC all p.1) st.2) else st
def tabTo (all:List (Ln×Value)) (k:Nat):Int×List Pl:=(all.take k).foldl (tabStep all) (0,[])
theorem Zg7 (all:List (Ln×Value)) (k:Nat) (p:Ln×Value) (h:all[k]?=some p):tabTo all (k+1)=tabStep all (tabTo all k) p:=by
 unfold tabTo;obtain ⟨hk,rfl⟩:=List.getElem?_eq_some_iff.1 h;rw [List.take_succ_eq_append_getElem hk,List.foldl_append];rfl
abbrev bTab (b:Int) (v:Value):Obj:=.cells #[.int .i64 b,v] 31
theorem blk2 {w:World} {g:Nat} {c0 c1:Value} {t:TypeId} (h:w.heap[g]?=some (.cells #[c0,c1] t (0,0))) :
  w.cell? ⟨g,0,none⟩=some c0∧w.cell? ⟨g,1,none⟩=some c1∧∀ a,w.frozen? ⟨g,a,none⟩=false:=by
 refine ⟨?_,?_,fun a=>?_⟩ <;> simp [World.cell?,World.frozen?,h]
theorem Zge (ao:Option Addr) (cap n:Nat) (ls:List (Ln×Value)) (w:World) (hl:LinesAt w (.slice ao n cap) ls) (hn:ls.length=n) (hn1:n≤1001) (hsl:∀ p∈ls,p.1.sets.length≤1001) :
  Calls Tryz.prog 57 #[.slice ao n cap] w fun e w'=>∃ vo vc,e=.returned (.agg #[.int .i64 (tabTo ls n).1,.slice vo (tabTo ls n).2.length vc])∧w'.ownsRow w.heap.size 70 4 (.slice vo (tabTo ls n).2.length vc) (tabTo ls n).2.length (flatP (tabTo ls n).2)∧Below w.heap.size w w':=by
 have HL:Hid (LinesAt w (.slice ao n cap) ls∧ls.length=n∧∀ p∈ls,p.1.sets.length≤1001):=⟨hl,hn,hsl⟩;clear hl hn hsl;have HST:Hid (((w.alloc (bTab 0 (.slice none 0 0))).alloc (bTab 0 (.slice none 0 0))).heap[w.heap.size]?=some (bTab 0 (.slice none 0 0))∧((w.alloc (bTab 0 (.slice none 0 0))).alloc (bTab 0 (.slice none 0 0))).heap[w.heap.size+1]?=some (bTab 0 (.slice none 0 0))):=
  ⟨(Zh _ _ (by simp)).trans (Zm _ _ rfl),Zm _ _ (by simp)⟩
 go_enter Tryz.func57,Tryz.ntmps57
 go_wp2_with fail
 go_loopw [4] (fun i wr=>∃ (k m:Nat) (b:Int) (ps:List Pl) (vo:Option Addr) (vc:Nat),k≤n∧i=.int .i64 k∧m≤k∧Hid (tabTo ls k=(b,ps)∧ps.length=m)∧Hid (wr.heap[w.heap.size]?=some (bTab 0 (.slice none 0 0))∧wr.heap[w.heap.size+1]?=some (bTab b (.slice vo m vc))) ∧
   wr.ownsRow (w.heap.size+2) 70 4 (.slice vo m vc) m (flatP ps)∧Below w.heap.size w wr∧w.heap.size+2≤wr.heap.size) (fun i _=>n - (intOf i).toNat)
 case atStart=>exact ⟨0,0,0,[],none,0,Nat.zero_le _,rfl,Nat.le_refl _,⟨rfl,rfl⟩,HST.out,World.ownsRow_nil _ _ _ _,Za (Zb _ _) (Zb _ _),by simp⟩
 case round =>
  obtain ⟨k,m,b,ps,vo,vc,hk,rfl,hm,HS,HH,hown,hbel,hz⟩:=hrel;by_cases hlt:k<n
  ·obtain ⟨⟨l,sv⟩,hp⟩:∃ p,ls[k]?=some p:=⟨_,List.getElem?_eq_getElem (by rw [HL.out.2.1];exact hlt)⟩;obtain ⟨bl,off,so,sc,hao,hbl,hsv,hrow,c0,c1,c2,c3,c4⟩:=(HL.out.1.nx hbel).at hp;have hsl1:l.sets.length≤1001:=HL.out.2.2 _ (List.mem_of_getElem? hp);have HT:=hideIt (Zg7 ls k (l,sv) hp);have hlti:(k:Int)<(n:Int):=by omega
   clear hp hsv;by_cases hk1:l.kind=1
   ·have HX:Hid (tabTo ls (k+1)=(valOf 3 0 l.sets [],ps)):=by
     show _=_;rw [HT.out,HS.out.1,tabStep,if_pos hk1]
    have hkb:((l.kind:Int) == 1)=true:=by rw [ZcJ];simp [hk1]
    have HV:=hideIt (ZhJ l.place l.kind l.name l.frm so sc l.sets.length l.sets wr hrow rfl hsl1);obtain ⟨v3,hv3⟩:∃ v3,valOf 3 0 l.sets []=v3:=⟨_,rfl⟩;rw [hv3] at HX HV;subst hao;clear hk1 HT hrow hv3;go_wp2_with fail
    refine HV.out.mono ?_;rintro e w2 ⟨rfl,hb2⟩;have hh0:w2.heap[w.heap.size]?=some (bTab 0 (.slice none 0 0)):=(hb2.block _ (by omega)).trans HH.out.1;have hh1:w2.heap[w.heap.size+1]?=some (bTab b (.slice vo m vc)):=(hb2.block _ (by omega)).trans HH.out.2;obtain ⟨e0,e1,ze⟩:=blk2 hh1;have hz2:w.heap.size+2≤w2.heap.size:=Nat.le_trans hz hb2.size;have R:Hid ((w2.setCell ⟨w.heap.size+1,0,none⟩ (.int .i64 v3)).ownsRow (w.heap.size+2) 70 4 (.slice vo m vc) m (flatP ps)∧Below w.heap.size w (w2.setCell ⟨w.heap.size+1,0,none⟩ (.int .i64 v3)) ∧
      (w2.setCell ⟨w.heap.size+1,0,none⟩ (.int .i64 v3)).heap[w.heap.size]?=some (bTab 0 (.slice none 0 0))∧(w2.setCell ⟨w.heap.size+1,0,none⟩ (.int .i64 v3)).heap[w.heap.size+1]?=some (bTab v3 (.slice vo m vc))):=
     ⟨ownsRow_setCell_below (Zk hown hb2) (by show w.heap.size+1<_;omega) _,(Za hbel hb2).setCell (Nat.le_succ _) _,(Below.heap_setCell _ _ _ _ (by show w.heap.size≠w.heap.size+1;omega)).trans hh0,Zg _ _ _ _ _ _ hh1⟩
    clear hb2 hh0 hh1 hown hbel c0 c1 c2 c3 c4 hz;go_wp2_with fail
    go_roundw
    case rel=>exact ⟨k+1,m,v3,ps,vo,vc,by omega,by go_num,by omega,⟨HX.out,HS.out.2⟩,⟨R.out.2.2.1,R.out.2.2.2⟩,R.out.1,R.out.2.1,by simpa using hz2⟩
    case measure=>simp [intOf];omega
   ·have hkb:((l.kind:Int) == 1)=false:=by rw [ZcJ];simp [hk1]
    by_cases hk3:l.kind=3
    ·have HX:Hid (tabTo ls (k+1)=(b,insP (poolC ls l) ps)):=by
      show _=_;rw [HT.out,HS.out.1,tabStep,if_neg hk1,if_pos hk3]
     have hkb3:((l.kind:Int) == 3)=true:=by rw [hk3];rfl
     have HPO:=hideIt (Zg0 l l.place l.kind so sc l.sets.length ao cap n ls wr (HL.out.1.nx hbel) HL.out.2.1 hn1 hrow rfl hsl1 HL.out.2.2);obtain ⟨pc,hpc⟩:∃ pc,poolC ls l=pc:=⟨_,rfl⟩;rw [hpc] at HX HPO;subst hao;clear hk1 hk3 HT hrow hpc;go_wp2_with fail
     refine HPO.out.mono ?_;rintro e w2 ⟨rfl,hb2⟩;have hh0:w2.heap[w.heap.size]?=some (bTab 0 (.slice none 0 0)):=(hb2.block _ (by omega)).trans HH.out.1;have hh1:w2.heap[w.heap.size+1]?=some (bTab b (.slice vo m vc)):=(hb2.block _ (by omega)).trans HH.out.2;have hz2:w.heap.size+2≤w2.heap.size:=Nat.le_trans hz hb2.size;obtain ⟨nm,sz,wt,fr⟩:=pc;obtain ⟨W3,hW3⟩:∃ W3,W3=w2.alloc (bPl ⟨nm,sz,wt,fr⟩):=⟨_,rfl⟩;have hb3:Below w2.heap.size w2 W3:=by rw [hW3];exact Zb _ _
     have hown3:=Zk (Zk hown hb2) hb3;have HI:=hideIt (ZbP ⟨nm,sz,wt,fr⟩ vo vc m ps W3 (Zd hown3) HS.out.2 (by omega));have k0:=fun o=>(blk2 (w:=w2.alloc o) ((Zh _ _ (show w.heap.size+1<w2.heap.size by omega)).trans hh1)).1
     have k1:=fun o=>(blk2 (w:=w2.alloc o) ((Zh _ _ (show w.heap.size+1<w2.heap.size by omega)).trans hh1)).2.1
     have H3:Hid (W3=w2.alloc (bPl ⟨nm,sz,wt,fr⟩)∧Below w.heap.size w W3∧W3.heap[w.heap.size]?=some (bTab 0 (.slice none 0 0))∧W3.heap[w.heap.size+1]?=some (bTab b (.slice vo m vc))∧w.heap.size+2≤W3.heap.size):=
      ⟨hW3,Za (Za hbel hb2) hb3,(hb3.block _ (by omega)).trans hh0,(hb3.block _ (by omega)).trans hh1,Nat.le_trans hz2 hb3.size⟩
     clear hb2 hb3 hh0 hh1 hown hown3 hbel hW3 c0 c1 c2 c3 c4 hz;go_wp2_with fail
     rw [←H3.out.1];refine HI.out.mono ?_;rintro e w4 ⟨v4,rfl,hown4,hb4⟩;obtain ⟨vo4,vc4,hv4,_⟩:=Zd hown4;subst hv4;obtain ⟨m4,hm4⟩:∃ m4,(insP ⟨nm,sz,wt,fr⟩ ps).length=m4:=⟨_,rfl⟩;rw [hm4] at hown4 ⊢;have HM41:Hid (m4=m+1):=hideIt (by rw [←hm4,ZX,HS.out.2]);have hh1:w4.heap[w.heap.size+1]?=some (bTab b (.slice vo m vc)):=(hb4.block _ (by have:=H3.out.2.2.2.2;omega)).trans H3.out.2.2.2.1;have hh0:w4.heap[w.heap.size]?=some (bTab 0 (.slice none 0 0)):=(hb4.block _ (by have:=H3.out.2.2.2.2;omega)).trans H3.out.2.2.1;obtain ⟨e0,e1,ze⟩:=blk2 hh1;have R:Hid ((w4.setCell ⟨w.heap.size+1,1,none⟩ (.slice vo4 m4 vc4)).ownsRow (w.heap.size+2) 70 4 (.slice vo4 m4 vc4) m4 (flatP (insP ⟨nm,sz,wt,fr⟩ ps))∧Below w.heap.size w (w4.setCell ⟨w.heap.size+1,1,none⟩ (.slice vo4 m4 vc4)) ∧
       (w4.setCell ⟨w.heap.size+1,1,none⟩ (.slice vo4 m4 vc4)).heap[w.heap.size]?=some (bTab 0 (.slice none 0 0))∧(w4.setCell ⟨w.heap.size+1,1,none⟩ (.slice vo4 m4 vc4)).heap[w.heap.size+1]?=some (bTab b (.slice vo4 m4 vc4))∧w.heap.size+2≤w4.heap.size∧(insP ⟨nm,sz,wt,fr⟩ ps).length=m4):=
      ⟨ownsRow_setCell_below (Zi hown4 H3.out.2.2.2.2) (by show w.heap.size+1<_;omega) _,(Za H3.out.2.1 hb4).setCell (Nat.le_succ _) _,(Below.heap_setCell _ _ _ _ (by show w.heap.size≠w.heap.size+1;omega)).trans hh0,Zg _ _ _ _ _ _ hh1,Nat.le_trans H3.out.2.2.2.2 hb4.size,hm4⟩
     clear hb4 hh0 hh1 hown4 hm4 k0 k1;go_wp2_with fail
     go_roundw
     case rel=>exact ⟨k+1,m4,b,insP ⟨nm,sz,wt,fr⟩ ps,vo4,vc4,by omega,by go_num,by have:=HM41.out;omega,⟨HX.out,R.out.2.2.2.2.2⟩,⟨R.out.2.2.1,R.out.2.2.2.1⟩,R.out.1,R.out.2.1,by simpa using R.out.2.2.2.2.1⟩
     case measure=>simp [intOf];omega
    ·have hkb3:((l.kind:Int) == 3)=false:=by simp;omega
     have HX:Hid (tabTo ls (k+1)=(b,ps)):=by
      show _=_;rw [HT.out,HS.out.1,tabStep,if_neg hk1,if_neg hk3]
     subst hao;clear hk1 hk3 HT hrow;go_wp2_with fail
     go_roundw
     case rel=>exact ⟨k+1,m,b,ps,vo,vc,by omega,by go_num,by omega,⟨HX.out,HS.out.2⟩,HH.out,hown,hbel,hz⟩
     case measure=>simp [intOf];omega
  ·obtain rfl:k=n:=by omega
   obtain ⟨r0,r1,zr⟩:=blk2 HH.out.1;obtain ⟨e0,e1,ze⟩:=blk2 HH.out.2;have HX:Hid (tabTo ls k=(b,ps)∧ps.length=m∧wr.ownsRow w.heap.size 70 4 (.slice vo m vc) m (flatP ps)∧wr.ownsRow (w.heap.size+2) 70 4 (.slice vo m vc) m (flatP ps)∧Below w.heap.size w wr):=⟨HS.out.1,HS.out.2,Zi hown (by omega),hown,hbel⟩;clear hown hbel;go_wp2_with fail
   refine bodyPost_ret (v:=.agg #[.int .i64 b,.slice vo m vc]) (by simp [results,Tryz.results57,go_sem,r0,r1]) rfl ⟨vo,vc,?_,?_,?_⟩
   ·rw [HX.out.1];simp only;rw [HX.out.2.1]
   ·rw [HX.out.1];simp only;rw [HX.out.2.1];exact Zi (ownsRow_setCell_below (ownsRow_setCell_below HX.out.2.2.2.1 (by show w.heap.size<_;omega) _) (by show w.heap.size<_;omega) _) (by omega)
   ·exact (HX.out.2.2.2.2.setCell (Nat.le_refl _) _).setCell (Nat.le_refl _) _
end Co
end Go.Proofs.YtcpikklofilkcaaGreat
namespace Go.Proofs.YtcpikklofilkcaaGreat
open Go.RowKit
namespace Lw
open Co
structure Srv where
 id:Int
 pool:ByteArray
 far:Int
 client:Int
structure Wtr where
 client:Int
 pool:ByteArray
structure Stp where
 kind:Int
 name:ByteArray
 n:Int
def fSv (x:Srv):List Value:=[.int .i64 x.id,.string x.pool,.int .i64 x.far,.int .i64 x.client]
def fWt (x:Wtr):List Value:=[.int .i64 x.client,.string x.pool]
def fSt (x:Stp):List Value:=[.int .i64 x.kind,.string x.name,.int .i64 x.n]
def flatV (l:List Srv):List Value:=l.flatMap fSv
def flatW (l:List Wtr):List Value:=l.flatMap fWt
def flatT (l:List Stp):List Value:=l.flatMap fSt
theorem Zfc {α:Type} (f:α→List Value) (k:Nat) (hf:∀ x,(f x).length=k):∀ (l:List α) (i:Nat) (x:α),l[i]?=some x→∀ j,j<k→(l.flatMap f)[i*k+j]?=(f x)[j]?
 | [],i,x,h,_,_=>by simp at h
 | y :: r,0,x,h,j,hj=>by
  simp at h;subst h;rw [List.flatMap_cons,Nat.zero_mul,Nat.zero_add,List.getElem?_append_left (by rw [hf];exact hj)]
 | y :: r,i+1,x,h,j,hj=>by
  have ih:=Zfc f k hf r i x (by simpa using h) j hj;rw [List.flatMap_cons,List.getElem?_append_right (by rw [hf,Nat.succ_mul];omega),hf,←ih];congr 1;rw [Nat.succ_mul];omega
theorem Zcx {α:Type} (f:α→List Value) (k:Nat) (hf:∀ x,(f x).length=k) (l:List α):(l.flatMap f).length=l.length*k:=by
 induction l with
 | nil=>simp
 | cons x r ih=>rw [List.flatMap_cons,List.length_append,ih,hf,List.length_cons,Nat.succ_mul];omega
theorem ZdT {α:Type} (f:α→List Value) (hf:∀ x,∀ u∈f x,u.oneCell'=true) (l:List α):∀ u∈l.flatMap f,u.oneCell'=true:=by
 intro u hu;obtain ⟨x,_,hx⟩:=List.mem_flatMap.1 hu;exact hf x u hx
theorem ZcU {α:Type} {f:α→List Value} {k:Nat} (hf:∀ x,(f x).length=k) {w:World} {ao:Option Addr} {n m cap:Nat} {l:List α} (h:RowAt w (.slice ao n cap) m (l.flatMap f)) {i:Nat} {x:α} (hi:l[i]?=some x) (hk:0<k) :
  ∃ b off,ao=some ⟨b,off,none⟩∧b<w.heap.size∧∀ j v,(f x)[j]?=some v→w.cell? ⟨b,off+(i*k+j),none⟩=some v:=by
 have h0:(l.flatMap f)[i*k+0]?=some ((f x)[0]'(by rw [hf];exact hk)):=by
  rw [Zfc f k hf l i x hi 0 hk,List.getElem?_eq_getElem]
 obtain ⟨b,off,e,hb,_⟩:=h.at h0;refine ⟨b,off,e,hb,fun j v hj=>?_⟩;have hjk:j<k:=by rw [←hf x];exact (List.getElem?_eq_some_iff.1 hj).1
 obtain ⟨b',off',e',_,g⟩:=h.at ((Zfc f k hf l i x hi j hjk).trans hj);rw [e] at e';obtain ⟨rfl,rfl⟩:b=b'∧off=off':=by simpa using e'
 exact g
theorem ZN {w:World} {ao:Option Addr} {n m cap:Nat} {l:List Srv} (h:RowAt w (.slice ao n cap) m (flatV l)) {i:Nat} {x:Srv} (hi:l[i]?=some x) :
  ∃ b off,ao=some ⟨b,off,none⟩∧b<w.heap.size∧w.cell? ⟨b,off+i*4,none⟩=some (.int .i64 x.id)∧w.cell? ⟨b,off+i*4+1,none⟩=some (.string x.pool)∧w.cell? ⟨b,off+i*4+2,none⟩=some (.int .i64 x.far)∧w.cell? ⟨b,off+i*4+3,none⟩=some (.int .i64 x.client):=by
 obtain ⟨b,off,e,hb,g⟩:=ZcU (f:=fSv) (k:=4) (fun _=>rfl) h hi (by omega);exact ⟨b,off,e,hb,g 0 _ rfl,g 1 _ rfl,g 2 _ rfl,g 3 _ rfl⟩
theorem Zaj {w:World} {ao:Option Addr} {n m cap:Nat} {l:List Wtr} (h:RowAt w (.slice ao n cap) m (flatW l)) {i:Nat} {x:Wtr} (hi:l[i]?=some x) :
  ∃ b off,ao=some ⟨b,off,none⟩∧b<w.heap.size∧w.cell? ⟨b,off+i*2,none⟩=some (.int .i64 x.client)∧w.cell? ⟨b,off+i*2+1,none⟩=some (.string x.pool):=by
 obtain ⟨b,off,e,hb,g⟩:=ZcU (f:=fWt) (k:=2) (fun _=>rfl) h hi (by omega);exact ⟨b,off,e,hb,g 0 _ rfl,g 1 _ rfl⟩
theorem ZbW {w:World} {ao:Option Addr} {n m cap:Nat} {l:List Stp} (h:RowAt w (.slice ao n cap) m (flatT l)) {i:Nat} {x:Stp} (hi:l[i]?=some x) :
  ∃ b off,ao=some ⟨b,off,none⟩∧b<w.heap.size∧w.cell? ⟨b,off+i*3,none⟩=some (.int .i64 x.kind)∧w.cell? ⟨b,off+i*3+1,none⟩=some (.string x.name)∧w.cell? ⟨b,off+i*3+2,none⟩=some (.int .i64 x.n):=by
 obtain ⟨b,off,e,hb,g⟩:=ZcU (f:=fSt) (k:=3) (fun _=>rfl) h hi (by omega);exact ⟨b,off,e,hb,g 0 _ rfl,g 1 _ rfl,g 2 _ rfl⟩
structure Chg (F:Nat→Prop) (w w':World):Prop where
 os:w'.os=w.os
 tape:w'.tape=w.tape
 output:w'.output=w.output
 size:w.heap.size≤w'.heap.size
 block:∀ b,b<w.heap.size→¬F b→w'.heap[b]?=w.heap[b]?
theorem Chg.of_below {w w':World} {F:Nat→Prop} (h:Below w.heap.size w w'):Chg F w w':=⟨h.os,h.tape,h.output,h.size,fun b hb _=>h.block b hb⟩
theorem Chg.refl (F:Nat→Prop) (w:World):Chg F w w:=⟨rfl,rfl,rfl,Nat.le_refl _,fun _ _ _=>rfl⟩
theorem Chg.trans {F G:Nat→Prop} {a b c:World} (h:Chg F a b) (k:Chg G b c) (hG:∀ x,G x→F x∨a.heap.size≤x):Chg F a c:=
 ⟨k.os.trans h.os,k.tape.trans h.tape,k.output.trans h.output,Nat.le_trans h.size k.size,fun x hx hF=>(k.block x (Nat.lt_of_lt_of_le hx h.size) (fun hg=>(hG x hg).elim hF (fun h1=>by omega))).trans (h.block x hx hF)⟩
theorem Chg.mono {F G:Nat→Prop} {a b:World} (h:Chg F a b) (hF:∀ x,F x→G x):Chg G a b:=⟨h.os,h.tape,h.output,h.size,fun x hx hg=>h.block x hx (fun hf=>hg (hF x hf))⟩
theorem Chg.below {F:Nat→Prop} {a b:World} (h:Chg F a b) {B:Nat} (hB:B≤a.heap.size) (hF:∀ x,F x→B≤x):Below B a b:=
 ⟨h.os,h.tape,h.output,h.size,fun x hx=>h.block x (Nat.lt_of_lt_of_le hx hB) (fun hf=>by have:=hF x hf;omega)⟩
theorem Chg.set {F:Nat→Prop} (w:World) (g a:Nat) (v:Value) (hF:F g):Chg F w (w.setCell ⟨g,a,none⟩ v):=by
 have h:=(Below.refl 0 w).setCell (Nat.zero_le (⟨g,a,none⟩:Addr).block) v;refine ⟨h.os,h.tape,h.output,h.size,fun b hb hb2=>?_⟩;exact Below.heap_setCell _ _ _ _ (fun e=>hb2 (by rw [show b=g from e];exact hF))
theorem sameV (ao1 ao2:Option Addr) (n k1 k2:Nat) (l:List Srv) (w:World) (hr1:RowAt w (.slice ao1 n k1) n (flatV l)) (hr2:RowAt w (.slice ao2 n k2) n (flatV l)) (hn:l.length=n) (hlen:n≤maxLen) :
  Calls Tryz.prog 29 #[.slice ao1 n k1,.slice ao2 n k2] w fun e w'=>e=.returned (.bool true)∧Below w.heap.size w w':=by
 unfold maxLen at hlen;have HP:Hid (RowAt w (.slice ao1 n k1) n (flatV l)∧RowAt w (.slice ao2 n k2) n (flatV l)∧l.length=n):=⟨hr1,hr2,hn⟩;clear hr1 hr2 hn;go_enter Tryz.func29,Tryz.ntmps29
 go_wp2_with fail
 go_loopw [5] (fun i wr=>∃ (k:Nat),k≤n∧i=.int .i64 k∧Below w.heap.size w wr) (fun i _=>n - (intOf i).toNat)
 case atStart=>exact ⟨0,Nat.zero_le _,rfl,Below.refl _ _⟩
 case round =>
  obtain ⟨k,hk,rfl,hbel⟩:=hrel;by_cases hlt:k<n
  ·obtain ⟨⟨x0,x1,x2,x3⟩,hp⟩:∃ p,l[k]?=some p:=⟨_,List.getElem?_eq_getElem (by rw [HP.out.2.2];exact hlt)⟩;obtain ⟨bl,off,hao,hbl,c0,c1,c2,c3⟩:=ZN (HP.out.1.nx hbel) hp;obtain ⟨bl',off',hao',hbl',d0,d1,d2,d3⟩:=ZN (HP.out.2.1.nx hbel) hp;subst hao hao';clear hp hbl hbl';simp only at c0 c1 c2 c3 d0 d1 d2 d3;have hlti:(k:Int)<(n:Int):=by omega
   go_wp2_with fail
   go_quiet (fail)
   go_wp2_with fail
   go_roundw
   case rel=>exact ⟨k+1,by omega,by go_num,below_drewN hbel _⟩
   case measure=>simp [intOf];omega
  ·go_wp2_with fail
   go_ret
   exact ⟨rfl,hbel⟩
theorem sameW (ao1 ao2:Option Addr) (n k1 k2:Nat) (l:List Wtr) (w:World) (hr1:RowAt w (.slice ao1 n k1) n (flatW l)) (hr2:RowAt w (.slice ao2 n k2) n (flatW l)) (hn:l.length=n) (hlen:n≤maxLen) :
  Calls Tryz.prog 30 #[.slice ao1 n k1,.slice ao2 n k2] w fun e w'=>e=.returned (.bool true)∧Below w.heap.size w w':=by
 unfold maxLen at hlen;have HP:Hid (RowAt w (.slice ao1 n k1) n (flatW l)∧RowAt w (.slice ao2 n k2) n (flatW l)∧l.length=n):=⟨hr1,hr2,hn⟩;clear hr1 hr2 hn;go_enter Tryz.func30,Tryz.ntmps30
 go_wp2_with fail
 go_loopw [5] (fun i wr=>∃ (k:Nat),k≤n∧i=.int .i64 k∧Below w.heap.size w wr) (fun i _=>n - (intOf i).toNat)
 case atStart=>exact ⟨0,Nat.zero_le _,rfl,Below.refl _ _⟩
 case round =>
  obtain ⟨k,hk,rfl,hbel⟩:=hrel;by_cases hlt:k<n
  ·obtain ⟨⟨x0,x1⟩,hp⟩:∃ p,l[k]?=some p:=⟨_,List.getElem?_eq_getElem (by rw [HP.out.2.2];exact hlt)⟩;obtain ⟨bl,off,hao,hbl,c0,c1⟩:=Zaj (HP.out.1.nx hbel) hp;obtain ⟨bl',off',hao',hbl',d0,d1⟩:=Zaj (HP.out.2.1.nx hbel) hp;subst hao hao';clear hp hbl hbl';simp only at c0 c1 d0 d1;have hlti:(k:Int)<(n:Int):=by omega
   go_wp2_with fail
   go_quiet (fail)
   go_wp2_with fail
   go_roundw
   case rel=>exact ⟨k+1,by omega,by go_num,below_drewN hbel _⟩
   case measure=>simp [intOf];omega
  ·go_wp2_with fail
   go_ret
   exact ⟨rfl,hbel⟩
theorem sameS (ao1 ao2:Option Addr) (n k1 k2:Nat) (l:List Stp) (w:World) (hr1:RowAt w (.slice ao1 n k1) n (flatT l)) (hr2:RowAt w (.slice ao2 n k2) n (flatT l)) (hn:l.length=n) (hlen:n≤maxLen) :
  Calls Tryz.prog 31 #[.slice ao1 n k1,.slice ao2 n k2] w fun e w'=>e=.returned (.bool true)∧Below w.heap.size w w':=by
 unfold maxLen at hlen;have HP:Hid (RowAt w (.slice ao1 n k1) n (flatT l)∧RowAt w (.slice ao2 n k2) n (flatT l)∧l.length=n):=⟨hr1,hr2,hn⟩;clear hr1 hr2 hn;go_enter Tryz.func31,Tryz.ntmps31
 go_wp2_with fail
 go_loopw [5] (fun i wr=>∃ (k:Nat),k≤n∧i=.int .i64 k∧Below w.heap.size w wr) (fun i _=>n - (intOf i).toNat)
 case atStart=>exact ⟨0,Nat.zero_le _,rfl,Below.refl _ _⟩
 case round =>
  obtain ⟨k,hk,rfl,hbel⟩:=hrel;by_cases hlt:k<n
  ·obtain ⟨⟨x0,x1,x2⟩,hp⟩:∃ p,l[k]?=some p:=⟨_,List.getElem?_eq_getElem (by rw [HP.out.2.2];exact hlt)⟩;obtain ⟨bl,off,hao,hbl,c0,c1,c2⟩:=ZbW (HP.out.1.nx hbel) hp;obtain ⟨bl',off',hao',hbl',d0,d1,d2⟩:=ZbW (HP.out.2.1.nx hbel) hp;subst hao hao';clear hp hbl hbl';simp only at c0 c1 c2 d0 d1 d2;have hlti:(k:Int)<(n:Int):=by omega
   go_wp2_with fail
   go_quiet (fail)
   go_wp2_with fail
   go_roundw
   case rel=>exact ⟨k+1,by omega,by go_num,below_drewN hbel _⟩
   case measure=>simp [intOf];omega
  ·go_wp2_with fail
   go_ret
   exact ⟨rfl,hbel⟩
theorem sameP (b:Int) (ao1 ao2:Option Addr) (n c1 c2:Nat) (ps:List Pl) (w:World) (hr1:RowAt w (.slice ao1 n c1) n (flatP ps)) (hr2:RowAt w (.slice ao2 n c2) n (flatP ps)) (hn:ps.length=n) (hlen:n≤maxLen) :
  Calls Tryz.prog 28 #[.agg #[.int .i64 b,.slice ao1 n c1],.agg #[.int .i64 b,.slice ao2 n c2]] w fun e w'=>e=.returned (.bool true)∧Below w.heap.size w w':=by
 unfold maxLen at hlen;have HN:Hid (ps.length=n):=hn;clear hn;have HP:Hid (RowAt ((w.alloc (bTab b (.slice ao1 n c1))).alloc (bTab b (.slice ao2 n c2))) (.slice ao1 n c1) n (flatP ps)∧RowAt ((w.alloc (bTab b (.slice ao1 n c1))).alloc (bTab b (.slice ao2 n c2))) (.slice ao2 n c2) n (flatP ps)):=
  ⟨(hr1.nx (Zb _ _)).nx (Zb _ _),(hr2.nx (Zb _ _)).nx (Zb _ _)⟩
 clear hr1 hr2;go_enter Tryz.func28,Tryz.ntmps28
 go_wp2_with fail
 go_loopw [5] (fun i wr=>∃ (k:Nat),k≤n∧i=.int .i64 k ∧
   Below ((w.alloc (bTab b (.slice ao1 n c1))).alloc (bTab b (.slice ao2 n c2))).heap.size ((w.alloc (bTab b (.slice ao1 n c1))).alloc (bTab b (.slice ao2 n c2))) wr) (fun i _=>n - (intOf i).toNat)
 case atStart=>exact ⟨0,Nat.zero_le _,rfl,Below.refl _ _⟩
 case round =>
  obtain ⟨k,hk,rfl,hbel⟩:=hrel;have hcell:wr.cell? ⟨w.heap.size,1,none⟩=some (.slice ao1 n c1):=by
   refine (hbel.cell (p:=⟨w.heap.size,1,none⟩) (by simp;omega)).trans ?_;simp
  have hcell2:wr.cell? ⟨w.heap.size+1,1,none⟩=some (.slice ao2 n c2):=by
   refine (hbel.cell (p:=⟨w.heap.size+1,1,none⟩) (by simp)).trans ?_;simp
  have HB:Hid (Below w.heap.size w wr):=Za (Za (Zb _ _) (Zb _ _)) hbel;by_cases hlt:k<n
  ·obtain ⟨⟨nm,sz,wt,fr⟩,hp⟩:∃ p,ps[k]?=some p:=⟨_,List.getElem?_eq_getElem (by rw [HN.out];exact hlt)⟩;obtain ⟨bl,off,hao,hbl,c0,c1',c2',c3⟩:=Zn (HP.out.1.nx hbel) hp;obtain ⟨bl',off',hao',hbl',d0,d1,d2,d3⟩:=Zn (HP.out.2.nx hbel) hp;subst hao hao';clear hp hbl hbl';simp only at c0 c1' c2' c3 d0 d1 d2 d3;have hlti:(k:Int)<(n:Int):=by omega
   go_wp2_with fail
   go_quiet (fail)
   go_wp2_with fail
   go_roundw
   case rel=>exact ⟨k+1,by omega,by go_num,below_drewN hbel _⟩
   case measure=>simp [intOf];omega
  ·go_wp2_with fail
   go_ret
   exact ⟨rfl,HB.out⟩
structure Sta where
 bud:Int
 pools:List Pl
 srv:List Srv
 wts:List Wtr
 plan:List Stp
 begun:Bool
 back:Bool
structure Stv where
 po:Option Addr
 pc:Nat
 so:Option Addr
 sc:Nat
 wo:Option Addr
 wc:Nat
 tqo:Option Addr
 tc:Nat
abbrev staA (S:Sta) (v:Stv):Value:=.agg #[.int .i64 S.bud,.slice v.po S.pools.length v.pc,.slice v.so S.srv.length v.sc,.slice v.wo S.wts.length v.wc,.slice v.tqo S.plan.length v.tc,.bool S.begun,.bool S.back]
structure StaAt (w:World) (S:Sta) (v:Stv):Prop where
 p:RowAt w (.slice v.po S.pools.length v.pc) S.pools.length (flatP S.pools)
 s:RowAt w (.slice v.so S.srv.length v.sc) S.srv.length (flatV S.srv)
 t:RowAt w (.slice v.wo S.wts.length v.wc) S.wts.length (flatW S.wts)
 l:RowAt w (.slice v.tqo S.plan.length v.tc) S.plan.length (flatT S.plan)
theorem StaAt.nx {w w':World} {S:Sta} {v:Stv} (h:StaAt w S v) (hb:Below w.heap.size w w'):StaAt w' S v:=⟨h.p.nx hb,h.s.nx hb,h.t.nx hb,h.l.nx hb⟩
structure Small (S:Sta):Prop where
 p:S.pools.length≤maxLen
 s:S.srv.length≤maxLen
 t:S.wts.length≤maxLen
 l:S.plan.length≤maxLen
theorem blk7 {W w3:World} {B:Nat} (hb:Below B W w3) {g:Nat} (hg:g<B) {c0 c1 c2 c3 c4 c5 c6:Value} {t:TypeId} (h:W.heap[g]?=some (.cells #[c0,c1,c2,c3,c4,c5,c6] t (0,0))) :
  w3.cell? ⟨g,0,none⟩=some c0∧w3.cell? ⟨g,1,none⟩=some c1∧w3.cell? ⟨g,2,none⟩=some c2∧w3.cell? ⟨g,3,none⟩=some c3∧w3.cell? ⟨g,4,none⟩=some c4∧w3.cell? ⟨g,5,none⟩=some c5∧w3.cell? ⟨g,6,none⟩=some c6:=by
 have h':w3.heap[g]?=some (.cells #[c0,c1,c2,c3,c4,c5,c6] t (0,0)):=(hb.block g hg).trans h;refine ⟨?_,?_,?_,?_,?_,?_,?_⟩ <;> simp [World.cell?,h']
end Lw
end Go.Proofs.YtcpikklofilkcaaGreat
