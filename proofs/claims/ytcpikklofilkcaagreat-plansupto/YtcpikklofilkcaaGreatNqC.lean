import Derived.Test.YtcpikklofilkcaaGreatNqB
set_option maxRecDepth 100000
set_option maxHeartbeats 16000000
namespace Go.Proofs.YtcpikklofilkcaaGreat
open Go.RowKit
namespace Co
def faultN (ls:List (Ln×Value)) (l:Ln):Nat:=
 if decide (ls.length=0) != decide (l.kind=1) then 2
 else if allFit l.sets=false then 3
 else if many ls l.kind=true then 4
 else if twc l.sets=true then 5
 else if (findL ls l.kind l.name).isSome=true then 5 else 0
theorem Zem (n:Nat):((n:Int) == 0)=decide (n=0):=by rw [Bool.eq_iff_iff];simp
theorem ZcJ (n:Nat):((n:Int) == 1)=decide (n=1):=by rw [Bool.eq_iff_iff];simp;omega
theorem ZbZ {ls:List (Ln×Value)} {kind:Nat} {name:ByteArray} {p:Ln×Value} (h:findL ls kind name=some p):p.1.kind=kind:=by
 have:=List.find?_some h;simp [isL] at this;exact this.1
theorem Zgc (l:Ln) (x0:Int) (so:Option Addr) (sc:Nat) (ao:Option Addr) (cap n:Nat) (ls:List (Ln×Value)) (w:World) (hl:LinesAt w (.slice ao n cap) ls) (hn:ls.length=n) (hn1:n≤1001)
  (hr:RowAt w (.slice so l.sets.length sc) l.sets.length (flatS l.sets)) (hs1:l.sets.length≤1001) (hk1:1≤l.kind) (hk3:l.kind≤3) :
  Calls Tryz.prog 129 #[lnA' x0 l.kind l.name l.frm so l.sets.length sc,.slice ao n cap] w fun e w'=>e=.returned (.int .i64 (faultN ls l))∧Below w.heap.size w w':=by
 obtain ⟨kind,name,frm,ss,pl⟩:=l;simp only at hr hs1 hk1 hk3 ⊢;obtain ⟨m,hm⟩:∃ m,ss.length=m:=⟨_,rfl⟩;rw [hm] at hr hs1 ⊢;obtain ⟨W1,hW1⟩:∃ W1,W1=w.alloc (bLn x0 kind name frm so m sc):=⟨_,rfl⟩;have hb1:Below w.heap.size w W1:=by rw [hW1];exact Zb _ _
 have HW:Hid (W1=w.alloc (bLn x0 kind name frm so m sc)∧Below w.heap.size w W1∧w.heap.size<W1.heap.size∧W1.heap[w.heap.size]?=some (.cells #[.int .i64 x0,.int .i64 (kind:Int),.string name,.string frm,.slice so m sc] 147 (0,0))):=
  ⟨hW1,hb1,by rw [hW1];simp,by rw [hW1];show (w.heap.push _)[w.heap.size]?=_;simp⟩
 have HL:Hid (LinesAt W1 (.slice ao n cap) ls∧ls.length=n):=⟨hl.nx hb1,hn⟩;have HR:Hid (RowAt W1 (.slice so m sc) m (flatS ss)∧ss.length=m):=⟨hr.nx hb1,hm⟩;have HFN:Hid (faultN ls ⟨kind,name,frm,ss,pl⟩=(if decide (n=0) != decide (kind=1) then 2 else if allFit ss=false then 3 else if many ls kind=true then 4 else if twc ss=true then 5 else if (findL ls kind name).isSome=true then 5 else 0)):=by
  show _=_;rw [faultN,hn]
 clear hl hn hr hm hW1 hb1;have hcells:∀ wx,Below W1.heap.size W1 wx→wx.cell? ⟨w.heap.size,0,none⟩=some (.int .i64 x0)∧wx.cell? ⟨w.heap.size,1,none⟩=some (.int .i64 (kind:Int))∧wx.cell? ⟨w.heap.size,2,none⟩=some (.string name)∧wx.cell? ⟨w.heap.size,3,none⟩=some (.string frm)∧wx.cell? ⟨w.heap.size,4,none⟩=some (.slice so m sc):=by
  intro wx hb;have h':wx.heap[w.heap.size]?=some (.cells #[.int .i64 x0,.int .i64 (kind:Int),.string name,.string frm,.slice so m sc] 147 (0,0)):=(hb.block _ HW.out.2.2.1).trans HW.out.2.2.2;refine ⟨?_,?_,?_,?_,?_⟩ <;> simp [World.cell?,h']
 have HCE:=hideIt hcells;clear hcells;by_cases hfirst:(decide (n=0) != decide (kind=1))=true
 ·have HF:Hid (faultN ls ⟨kind,name,frm,ss,pl⟩=2):=by show _=_;rw [HFN.out,if_pos hfirst]
  obtain ⟨q,hq1,hq2⟩:∃ q,((n:Int) == 0)=q∧((kind:Int) == 1)=!q:=⟨decide (n=0),Zem n,by
   rw [ZcJ]
   revert hfirst
   cases decide (n=0) <;> cases decide (kind=1) <;> simp⟩
  clear hfirst;go_enter Tryz.func129,Tryz.ntmps129
  go_wp2_with fail
  go_ret
  exact ⟨Zt (by rw [HF.out];rfl),Zb _ _⟩
 obtain ⟨q,hq1,hq2⟩:∃ q,((n:Int) == 0)=q∧((kind:Int) == 1)=q:=⟨decide (n=0),Zem n,by
  rw [ZcJ]
  revert hfirst
  cases decide (n=0) <;> cases decide (kind=1) <;> simp⟩
 have HF0:Hid (faultN ls ⟨kind,name,frm,ss,pl⟩=(if allFit ss=false then 3 else if many ls kind=true then 4 else if twc ss=true then 5 else if (findL ls kind name).isSome=true then 5 else 0)):=by
  show _=_;rw [HFN.out,if_neg hfirst]
 clear hfirst HFN;go_enter Tryz.func129,Tryz.ntmps129
 go_wp2_with fail
 rw [←HW.out.1];refine (Zea x0 kind name frm so sc m ss W1 HR.out.1 HR.out.2 hs1).mono ?_;rintro e w2 ⟨rfl,hb2⟩;cases hfit:allFit ss
 ·have HF:Hid (faultN ls ⟨kind,name,frm,ss,pl⟩=3):=by show _=_;rw [HF0.out,hfit];rfl
  go_wp2_with fail
  go_ret
  exact ⟨Zt (by rw [HF.out];rfl),Za HW.out.2.1 hb2⟩
 have HF1:Hid (faultN ls ⟨kind,name,frm,ss,pl⟩=(if many ls kind=true then 4 else if twc ss=true then 5 else if (findL ls kind name).isSome=true then 5 else 0)):=by
  show _=_;rw [HF0.out,hfit];rfl
 obtain ⟨c0,c1,c2,c3,c4⟩:=HCE.out w2 hb2;have HB2:=hideIt hb2;clear hb2 HF0;go_wp2_with fail
 refine (Zf7 x0 kind name frm so sc m ao cap n ls w2 (HL.out.1.nx HB2.out) HL.out.2 hn1 hk3).mono ?_;rintro e w3 ⟨rfl,hb3⟩;cases hmany:many ls kind
 ·have HF2:Hid (faultN ls ⟨kind,name,frm,ss,pl⟩=(if twc ss=true then 5 else if (findL ls kind name).isSome=true then 5 else 0)):=by
   show _=_;rw [HF1.out,hmany];rfl
  have HB3:Hid (Below W1.heap.size W1 w3):=Za HB2.out hb3;obtain ⟨d0,d1,d2,d3,d4⟩:=HCE.out w3 HB3.out;clear hb3 HF1 c0 c1 c2 c3 c4;go_wp2_with fail
  refine (Zfv x0 kind name frm so sc m ss w3 (HR.out.1.nx HB3.out) HR.out.2 hs1).mono ?_;rintro e w4 ⟨rfl,hb4⟩;cases htw:twc ss
  ·have HF3:Hid (faultN ls ⟨kind,name,frm,ss,pl⟩=(if (findL ls kind name).isSome=true then 5 else 0)):=by
    show _=_;rw [HF2.out,htw];rfl
   have HB4:Hid (Below W1.heap.size W1 w4):=Za HB3.out hb4;obtain ⟨f0,f1,f2,f3,f4⟩:=HCE.out w4 HB4.out;clear hb4 HF2 d0 d1 d2 d3 d4;go_wp2_with fail
   refine (Zf1 kind name ao cap n ls w4 (HL.out.1.nx HB4.out) HL.out.2 hn1).mono ?_;rintro e w5 (⟨hno,rfl,hb5⟩ | ⟨l,so',sc',hso,rfl,hb5⟩)
   ·have HF:Hid (faultN ls ⟨kind,name,frm,ss,pl⟩=0):=by show _=_;rw [HF3.out,hno];rfl
    clear hno;go_wp2_with fail
    go_ret
    exact ⟨Zt (by rw [HF.out];rfl),Za (Za HW.out.2.1 HB4.out) (Za hb5 (Zb _ _))⟩
   ·have HF:Hid (faultN ls ⟨kind,name,frm,ss,pl⟩=5):=by show _=_;rw [HF3.out,hso];rfl
    have hlk:l.kind=kind:=ZbZ hso;have hlb:((l.kind:Int) != 0)=true:=by rw [bne_iff_ne];omega
    clear hso hlk;go_wp2_with fail
    go_ret
    exact ⟨Zt (by rw [HF.out];rfl),Za (Za HW.out.2.1 HB4.out) (Za hb5 (Zb _ _))⟩
  ·have HF:Hid (faultN ls ⟨kind,name,frm,ss,pl⟩=5):=by show _=_;rw [HF2.out,htw];rfl
   go_wp2_with fail
   go_ret
   exact ⟨Zt (by rw [HF.out];rfl),Za (Za HW.out.2.1 HB3.out) hb4⟩
 ·have HF:Hid (faultN ls ⟨kind,name,frm,ss,pl⟩=4):=by show _=_;rw [HF1.out,hmany];rfl
  go_wp2_with fail
  go_ret
  exact ⟨Zt (by rw [HF.out];rfl),Za (Za HW.out.2.1 HB2.out) hb3⟩
def baseB (ls:List (Ln×Value)) (frm:ByteArray):Bool:=frm.toList.isEmpty||(findL ls 2 frm).isSome
theorem Zfa (x0 x1:Int) (s2 frm:ByteArray) (so:Option Addr) (m sc:Nat) (ao:Option Addr) (cap n:Nat) (ls:List (Ln×Value)) (w:World) (hl:LinesAt w (.slice ao n cap) ls) (hn:ls.length=n) (hn1:n≤1001) :
  Calls Tryz.prog 91 #[lnA' x0 x1 s2 frm so m sc,.slice ao n cap] w fun e w'=>e=.returned (.bool (baseB ls frm))∧Below w.heap.size w w':=by
 have HL:Hid (LinesAt (w.alloc (bLn x0 x1 s2 frm so m sc)) (.slice ao n cap) ls∧ls.length=n):=⟨hl.nx (Zb _ _),hn⟩;clear hl hn;cases he:frm.toList.isEmpty
 ·go_enter Tryz.func91,Tryz.ntmps91
  go_wp2_with fail
  refine (Ze3 frm ao cap n ls _ HL.out.1 HL.out.2 hn1).mono ?_;rintro e w5 (⟨hno,rfl,hb5⟩ | ⟨l,so',sc',hso,rfl,hb5⟩)
  ·have HF:Hid (baseB ls frm=false):=by show _=_;rw [baseB,he,hno];rfl
   clear hno;go_wp2_with fail
   go_ret
   exact ⟨Zl (by rw [HF.out]),Za (Zb _ _) (Za hb5 (Zb _ _))⟩
  ·have HF:Hid (baseB ls frm=true):=by show _=_;rw [baseB,he,hso];rfl
   have hlk:l.kind=2:=ZbZ hso;have hlb:((l.kind:Int) != 0)=true:=by rw [bne_iff_ne];omega
   clear hso hlk;go_wp2_with fail
   go_ret
   exact ⟨Zl (by rw [HF.out]),Za (Zb _ _) (Za hb5 (Zb _ _))⟩
 ·go_enter Tryz.func91,Tryz.ntmps91
  go_wp2_with fail
  go_ret
  exact ⟨Zl (by rw [baseB,he];rfl),Zb _ _⟩
def chn (ls:List (Ln×Value)):Nat→ByteArray→List (Ln×Value)
 | 0,_=>[]
 | f+1,nm=>match findL ls 2 nm with
  | none=>[]
  | some p=>p :: chn ls f p.1.frm
theorem Zi5 {ls:List (Ln×Value)} {f:Nat} {nm:ByteArray} (h:findL ls 2 nm=none):chn ls f nm=[]:=by
 cases f with
 | zero=>rfl
 | succ f=>rw [chn,h]
theorem Zjc {ls:List (Ln×Value)} {f:Nat} {nm:ByteArray} {p:Ln×Value} (h:findL ls 2 nm=some p):chn ls (f+1) nm=p :: chn ls f p.1.frm:=by rw [chn,h]
theorem Zgu (ls:List (Ln×Value)):∀ (f:Nat) (nm:ByteArray),∀ p∈chn ls f nm,p∈ls
 | 0,_,p,h=>by simp [chn] at h
 | f+1,nm,p,h=>by
  rw [chn] at h;split at h
  ·simp at h
  ·rename_i q hq
   rcases List.mem_cons.1 h with h | h
   ·subst h;exact ZeC hq
   ·exact Zgu ls f _ p h
theorem Zed (ls:List (Ln×Value)):∀ (f:Nat) (nm:ByteArray),(chn ls f nm).length≤f
 | 0,_=>by simp [chn]
 | f+1,nm=>by
  rw [chn];split
  ·simp
  ·have:=Zed ls f (by assumption:Ln×Value).1.frm;simp;omega
theorem Zev:(Tryz.prog.info? 147).map (fun i=>(i.zero,i.size,i.bytes))=some (some (.agg #[.int .i64 0,.int .i64 0,.string ⟨#[]⟩,.string ⟨#[]⟩,.slice none 0 0]),5,72):=by kernel_rfl
theorem Zo (w:World) (cs:List Value) (t:TypeId) {g:Nat} (hg:g=w.heap.size):∀ (j:Nat) (u:Value),cs[j]?=some u→(w.alloc (.cells cs.toArray t)).cell? ((⟨g,0,none⟩:Addr).add j)=some u:=by
 subst hg;exact Zw w cs t
theorem Zm (w:World) (o:Obj) {k:Nat} (hk:k=w.heap.size):(w.alloc o).heap[k]?=some o:=by
 subst hk;show (w.heap.push o)[w.heap.size]?=some o;simp
theorem Zh (w:World) (o:Obj) {k:Nat} (hk:k<w.heap.size):(w.alloc o).heap[k]?=w.heap[k]?:=Below.heap_alloc w o k hk
def lenOf:Value→Nat
 | .slice _ n _=>n
 | _=>0
theorem Zc2 (x0 x1:Int) (s2 frm:ByteArray) (so:Option Addr) (m4 sc:Nat) (ao:Option Addr) (cap n:Nat) (ls:List (Ln×Value)) (w:World) (hl:LinesAt w (.slice ao n cap) ls) (hn:ls.length=n) (hn1:n≤1001) :
  Calls Tryz.prog 131 #[lnA' x0 x1 s2 frm so m4 sc,.slice ao n cap] w fun e w'=>∃ co cc,e=.returned (.slice co (chn ls 7 frm).length cc)∧LinesAt w' (.slice co (chn ls 7 frm).length cc) (chn ls 7 frm)∧Below w.heap.size w w':=by
 obtain ⟨t0,hi,hz0,hz1,hz2⟩:=info_parts Zev;have HL:Hid (LinesAt w (.slice ao n cap) ls∧ls.length=n):=⟨hl,hn⟩;clear hl hn;have HST:((w.alloc (bLn x0 x1 s2 frm so m4 sc)).alloc (.cells #[] 147)).ownsRow w.heap.size 147 5 (.slice (some ⟨w.heap.size+1,0,none⟩) 0 0) 0 []:=by
  have h:=World.ownsRow_made (base:=w.heap.size) (e:=147) (size:=5) (w.alloc (bLn x0 x1 s2 frm so m4 sc)) #[] 0 (by rw [World.size_alloc];omega) (Nat.zero_le _) rfl;rw [World.size_alloc] at h;exact h
 have HST':=hideIt HST;clear HST;go_enter Tryz.func131,Tryz.ntmps131
 go_wp2_with fail
 go_loopw [5,6] (fun v s wr=>∃ (m:Nat) (acc:List (Ln×Value)) (nm:ByteArray),m≤7∧s=.string nm∧Hid (chn ls 7 frm=acc++chn ls (7 - m) nm∧acc.length=m∧∀ p∈acc,p∈ls)∧wr.ownsRow w.heap.size 147 5 v m (flatL acc)∧Below w.heap.size w wr) (fun v _ _=>7 - lenOf v)
 case atStart=>exact ⟨0,[],frm,by omega,rfl,⟨rfl,rfl,by simp⟩,HST'.out,Za (Zb _ _) (Zb _ _)⟩
 case round =>
  obtain ⟨m,acc,nm,hm,rfl,HS,hown,hbel⟩:=hrel;have hBw:w.heap.size≤wr.heap.size:=hbel.size;obtain ⟨vo,vc,hv,_⟩:=Zd hown;subst hv;by_cases hm6:m≤6
  ·go_wp2_with fail
   refine (Ze3 nm ao cap n ls _ (HL.out.1.nx hbel) HL.out.2 hn1).mono ?_;rintro e w5 (⟨hno,rfl,hb5⟩ | ⟨l,so',sc',hso,rfl,hb5⟩)
   ·have HF:Hid (chn ls 7 frm=acc∧(chn ls 7 frm).length=m):=by
     have e:chn ls 7 frm=acc:=by rw [HS.out.1,Zi5 hno,List.append_nil]
     exact ⟨e,by rw [e];exact HS.out.2.1⟩
    have HX:Hid (LinesAt (w5.alloc bZero') (.slice vo m vc) acc∧Below w.heap.size w (w5.alloc bZero')):=by
     have h1:LinesAt wr (.slice vo m vc) acc:=⟨by rw [HS.out.2.1];exact Zd hown,fun p hp=>((HL.out.1.nx hbel).2 p (HS.out.2.2 p hp))⟩;exact ⟨(h1.nx hb5).nx (Zb _ _),Za hbel (Za hb5 (Zb _ _))⟩
    clear hno hown hbel hb5;go_wp2_with fail
    go_ret
    exact ⟨vo,vc,Za3 HF.out.2.symm,(by rw [HF.out.2,HF.out.1];exact HX.out.1),HX.out.2⟩
   ·have hlk:l.kind=2:=ZbZ hso;have hlb:((l.kind:Int) == 0)=false:=by rw [Zem];simp;omega
    have HN:Hid (chn ls 7 frm=(acc++[(l,.slice so' l.sets.length sc')])++chn ls (7 - (m+1)) l.frm∧(l,Value.slice so' l.sets.length sc')∈ls):=by
     refine ⟨?_,ZeC hso⟩;have e:7 - m=(7 - (m+1))+1:=by omega
     rw [HS.out.1,e,Zjc hso];simp
    obtain ⟨k5,hk5⟩:∃ k5,l.sets.length=k5:=⟨_,rfl⟩;have hown5:w5.ownsRow w.heap.size 147 5 (.slice vo m vc) m (flatL acc):=Zk hown hb5;have hbel5:Below w.heap.size w w5:=Za hbel hb5;have hB5:w.heap.size≤w5.heap.size:=hbel5.size;have HK5:=hideIt hk5;rw [hk5];clear hso hlk hown hbel hb5 hBw hk5;go_wp2_with (at_builtin;refine wpList_append_own _ rfl (.tmp 21) (.tmp 23) 110 rfl w.heap.size 147 t0 _ 5 72 Tryz.underlying110 hi hz0 hz1 hz2 rfl (by decide) _ _ _ rfl ((hown5.alloc _).alloc _) ⟨w5.heap.size+1,0,none⟩ 1 1 [.int .i64 (l.place:Int),.int .i64 (l.kind:Int),.string l.name,.string l.frm,.slice so' k5 sc'] rfl rfl ?c1 ?c2 ?c3 ?c4 ?c5 ?next)
    case c1=>exact Zo (w5.alloc _) [.int .i64 (l.place:Int),.int .i64 (l.kind:Int),.string l.name,.string l.frm,.slice so' k5 sc'] _ (by simp)
    case c2=>intro u hu;simp at hu;rcases hu with rfl | rfl | rfl | rfl | rfl <;> rfl
    case c3=>unfold maxLen;omega
    case c4=>omega
    case c5=>simp;omega
    case next =>
     intro v' w6 hown' hgrow _;have R:w6.ownsRow w.heap.size 147 5 v' (m+1) (flatL (acc++[(l,.slice so' l.sets.length sc')]))∧Below w.heap.size w w6:=by
      refine ⟨by rw [Zbj,HK5.out];exact hown',((hbel5.alloc hB5 _).alloc (by simp;omega) _).grown hgrow (by simp;omega) (fun g hg=>(hown5.lt g hg).1)⟩
     have hcb:w6.cell? ⟨w5.heap.size,3,none⟩=some (.string l.frm):=by
      have hb:=hgrow.block w5.heap.size (by simp;omega) (by
       intro h;have:=(hown5.lt _ h.symm).2;omega)
      rw [Zh _ _ (by simp),Zm _ _ rfl] at hb;simp [World.cell?,hb]
     obtain ⟨vo',vc',hv',_⟩:=Zd R.1;subst hv';clear hown' hgrow hown5 hbel5;go_wp2_with fail
     go_roundw
     case rel=>exact ⟨m+1,acc++[(l,.slice so' l.sets.length sc')],l.frm,by omega,rfl,⟨HN.out.1,by simp [HS.out.2.1],fun p hp=>by
      rcases List.mem_append.1 hp with h | h
      ·exact HS.out.2.2 p h
      ·simp at h;subst h;exact HN.out.2⟩,R.1,R.2⟩
     case measure=>simp [lenOf];omega
  ·obtain rfl:m=7:=by omega
   have HF:Hid (chn ls 7 frm=acc∧(chn ls 7 frm).length=7):=by
    have e:chn ls 7 frm=acc:=by rw [HS.out.1];simp [chn]
    exact ⟨e,by rw [e];exact HS.out.2.1⟩
   have HX:Hid (LinesAt wr (.slice vo 7 vc) acc∧Below w.heap.size w wr):=
    ⟨⟨by rw [HS.out.2.1];exact Zd hown,fun p hp=>((HL.out.1.nx hbel).2 p (HS.out.2.2 p hp))⟩,hbel⟩
   clear hown hbel;go_wp2_with fail
   go_ret
   exact ⟨vo,vc,Za3 HF.out.2.symm,(by rw [HF.out.2,HF.out.1];exact HX.out.1),HX.out.2⟩
def longN (all:List (Ln×Value)) (most:Nat):List (Ln×Value)→Nat
 | []=>0
 | p :: r=>if most<(chn all 7 p.1.frm).length then p.1.place else longN all most r
theorem Zdq (most:Nat) (ao:Option Addr) (cap n:Nat) (ls:List (Ln×Value)) (w:World) (hl:LinesAt w (.slice ao n cap) ls) (hn:ls.length=n) (hn1:n≤1001) :
  Calls Tryz.prog 92 #[.slice ao n cap,.int .i64 (most:Int)] w fun e w'=>e=.returned (.int .i64 (longN ls most ls))∧Below w.heap.size w w':=by
 have HL:Hid (LinesAt w (.slice ao n cap) ls∧ls.length=n):=⟨hl,hn⟩;clear hl hn;go_enter Tryz.func92,Tryz.ntmps92
 go_wp2_with fail
 go_loopw [5] (fun i wr=>∃ (k:Nat),k≤n∧i=.int .i64 k∧Hid (longN ls most (ls.drop k)=longN ls most ls)∧Below w.heap.size w wr) (fun i _=>n - (intOf i).toNat)
 case atStart=>exact ⟨0,Nat.zero_le _,rfl,rfl,Below.refl _ _⟩
 case round =>
  obtain ⟨k,hk,rfl,HS,hbel⟩:=hrel;by_cases hlt:k<n
  ·obtain ⟨⟨l,sv⟩,hp⟩:∃ p,ls[k]?=some p:=⟨_,List.getElem?_eq_getElem (by rw [HL.out.2];exact hlt)⟩;obtain ⟨bl,off,so,sc,hao,hbl,hsv,_,c0,c1,c2,c3,c4⟩:=(HL.out.1.nx hbel).at hp;have HD:Hid (ls.drop k=(l,sv) :: ls.drop (k+1)):=Zy hp;have hlti:(k:Int)<(n:Int):=by omega
   have HCH:=hideIt (Zc2 l.place l.kind l.name l.frm so l.sets.length sc ao cap n ls wr (HL.out.1.nx hbel) HL.out.2 hn1);subst hao;clear hp hsv;go_wp2_with fail
   refine HCH.out.mono ?_;rintro e w2 ⟨co,cc,rfl,_,hb2⟩;obtain ⟨q,hq⟩:∃ q,(chn ls 7 l.frm).length=q:=⟨_,rfl⟩;rw [hq];have hq7:q≤7:=by rw [←hq];exact Zed _ _ _
   have d0:w2.cell? ⟨bl,off+k*5,none⟩=some (.int .i64 (l.place:Int)):=(hb2.cell (p:=⟨bl,off+k*5,none⟩) hbl).trans c0;have HB:Hid (Below w.heap.size w w2):=Za hbel hb2;by_cases hmq:most<q
   ·have HX:Hid (longN ls most ls=l.place):=by
     show _=_;rw [←HS.out,HD.out,longN,hq,if_pos hmq]
    clear hq hb2 hbel c0 c1 c2 c3 c4;go_wp2_with fail
    go_ret
    exact ⟨Zt (by rw [HX.out]),HB.out⟩
   ·have HX:Hid (longN ls most (ls.drop (k+1))=longN ls most ls):=by
     show _=_;rw [←HS.out,HD.out,longN,hq,if_neg hmq]
    clear hq hb2 hbel c0 c1 c2 c3 c4;go_wp2_with fail
    go_roundw
    case rel=>exact ⟨k+1,by omega,by go_num,HX.out,HB.out⟩
    case measure=>simp [intOf];omega
  ·go_wp2_with fail
   go_ret
   exact ⟨Zt (by rw [←HS.out,List.drop_of_length_le (by rw [HL.out.2];omega)];rfl),hbel⟩
theorem Zjg (ao:Option Addr) (cap n:Nat) (ls:List (Ln×Value)) (w:World) (hl:LinesAt w (.slice ao n cap) ls) (hn:ls.length=n) (hn1:n≤1001) :
  Calls Tryz.prog 92 #[.slice ao n cap,.int .i64 6] w fun e w'=>e=.returned (.int .i64 (longN ls 6 ls))∧Below w.heap.size w w':=Zdq 6 ao cap n ls w hl hn hn1
theorem ZiF (ao:Option Addr) (cap n:Nat) (ls:List (Ln×Value)) (w:World) (hl:LinesAt w (.slice ao n cap) ls) (hn:ls.length=n) (hn1:n≤1001) :
  Calls Tryz.prog 92 #[.slice ao n cap,.int .i64 3] w fun e w'=>e=.returned (.int .i64 (longN ls 3 ls))∧Below w.heap.size w w':=Zdq 3 ao cap n ls w hl hn hn1
def noBase (all:List (Ln×Value)):List (Ln×Value)→Option Nat
 | []=>none
 | p :: r=>if baseB all p.1.frm=true then noBase all r else some p.1.place
def chainE (ls:List (Ln×Value)):Nat×Nat:=
 match noBase ls ls with
 | some k=>(6,k)
 | none=>if 0<longN ls 6 ls then (7,longN ls 6 ls) else if 0<longN ls 3 ls then (8,longN ls 3 ls) else (0,0)
theorem ZaL {a b x y:Int} (h:a=b) (h2:x=y):Ending.returned (.tuple #[.int .i64 a,.int .i64 x])=.returned (.tuple #[.int .i64 b,.int .i64 y]):=by rw [h,h2]
theorem Zek (ao:Option Addr) (cap n:Nat) (ls:List (Ln×Value)) (w:World) (hl:LinesAt w (.slice ao n cap) ls) (hn:ls.length=n) (hn1:n≤1001) :
  Calls Tryz.prog 56 #[.slice ao n cap] w fun e w'=>e=.returned (.tuple #[.int .i64 (chainE ls).1,.int .i64 (chainE ls).2])∧Below w.heap.size w w':=by
 have HL:Hid (LinesAt w (.slice ao n cap) ls∧ls.length=n):=⟨hl,hn⟩;clear hl hn;go_enter Tryz.func56,Tryz.ntmps56
 go_wp2_with fail
 go_loopw [4] (fun i wr=>∃ (k:Nat),k≤n∧i=.int .i64 k∧Hid (noBase ls (ls.drop k)=noBase ls ls)∧Below w.heap.size w wr) (fun i _=>n - (intOf i).toNat)
 case atStart=>exact ⟨0,Nat.zero_le _,rfl,rfl,Below.refl _ _⟩
 case round =>
  obtain ⟨k,hk,rfl,HS,hbel⟩:=hrel;by_cases hlt:k<n
  ·obtain ⟨⟨l,sv⟩,hp⟩:∃ p,ls[k]?=some p:=⟨_,List.getElem?_eq_getElem (by rw [HL.out.2];exact hlt)⟩;obtain ⟨bl,off,so,sc,hao,hbl,hsv,_,c0,c1,c2,c3,c4⟩:=(HL.out.1.nx hbel).at hp;have HD:Hid (ls.drop k=(l,sv) :: ls.drop (k+1)):=Zy hp;have hlti:(k:Int)<(n:Int):=by omega
   have HBT:=hideIt (Zfa l.place l.kind l.name l.frm so l.sets.length sc ao cap n ls wr (HL.out.1.nx hbel) HL.out.2 hn1);subst hao;clear hp hsv;cases hbb:baseB ls l.frm
   ·have HX:Hid (chainE ls=(6,l.place)):=by
     have e:noBase ls ls=some l.place:=by rw [←HS.out,HD.out,noBase,hbb];rfl
     show _=_;rw [chainE,e]
    go_wp2_with fail
    refine HBT.out.mono ?_;rintro e w2 ⟨rfl,hb2⟩;rw [hbb];have d0:w2.cell? ⟨bl,off+k*5,none⟩=some (.int .i64 (l.place:Int)):=(hb2.cell (p:=⟨bl,off+k*5,none⟩) hbl).trans c0;have HB:Hid (Below w.heap.size w w2):=Za hbel hb2;clear hb2 hbel c0 c1 c2 c3 c4;go_wp2_with fail
    go_quiet (fail)
    go_wp2_with fail
    go_ret2
    exact ⟨ZaL (by rw [HX.out];rfl) (by rw [HX.out]),below_drewN HB.out _⟩
   ·have HX:Hid (noBase ls (ls.drop (k+1))=noBase ls ls):=by
     show _=_;rw [←HS.out,HD.out,noBase,hbb,if_pos rfl]
    go_wp2_with fail
    refine HBT.out.mono ?_;rintro e w2 ⟨rfl,hb2⟩;rw [hbb];have HB:Hid (Below w.heap.size w w2):=Za hbel hb2;clear hb2 hbel c0 c1 c2 c3 c4;go_wp2_with fail
    go_roundw
    case rel=>exact ⟨k+1,by omega,by go_num,HX.out,HB.out⟩
    case measure=>simp [intOf];omega
  ·have HN:Hid (noBase ls ls=none):=by
    show _=_;rw [←HS.out,List.drop_of_length_le (by rw [HL.out.2];omega)];rfl
   go_wp2_with fail
   refine (Zjg ao cap n ls wr (HL.out.1.nx hbel) HL.out.2 hn1).mono ?_;rintro e w2 ⟨rfl,hb2⟩;obtain ⟨a6,h6⟩:∃ a6,longN ls 6 ls=a6:=⟨_,rfl⟩;rw [h6];have hbel2:=Za hbel hb2;by_cases h6p:0<a6
   ·have HX:Hid (chainE ls=(7,a6)):=by show _=_;rw [chainE,HN.out];simp only;rw [h6,if_pos h6p]
    clear h6 hbel hb2;go_wp2_with fail
    go_ret2
    exact ⟨ZaL (by rw [HX.out];rfl) (by rw [HX.out]),hbel2⟩
   ·have h6i:¬(0:Int)<(a6:Int):=by omega
    have H6:=hideIt h6;clear h6 hbel hb2;go_wp2_with fail
    refine (ZiF ao cap n ls w2 (HL.out.1.nx hbel2) HL.out.2 hn1).mono ?_;rintro e w3 ⟨rfl,hb3⟩;obtain ⟨a3,h3⟩:∃ a3,longN ls 3 ls=a3:=⟨_,rfl⟩;rw [h3];have hbel3:=Za hbel2 hb3;by_cases h3p:0<a3
    ·have HX:Hid (chainE ls=(8,a3)):=by show _=_;rw [chainE,HN.out];simp only;rw [H6.out,if_neg h6p,h3,if_pos h3p]
     clear h3 hbel2 hb3;go_wp2_with fail
     go_ret2
     exact ⟨ZaL (by rw [HX.out];rfl) (by rw [HX.out]),hbel3⟩
    ·have HX:Hid (chainE ls=(0,0)):=by show _=_;rw [chainE,HN.out];simp only;rw [H6.out,if_neg h6p,h3,if_neg h3p]
     have h3i:¬(0:Int)<(a3:Int):=by omega
     clear h3 hbel2 hb3;go_wp2_with fail
     go_ret2
     exact ⟨ZaL (by rw [HX.out];rfl) (by rw [HX.out];rfl),hbel3⟩
def chv (key:Nat) (other:Int):List (Ln×Value)→Int
 | []=>other
 | p :: r=>match valL p.1.sets key with | some n=>n | none=>chv key other r
def valOf (key:Nat) (other:Int) (ss:List (Nat×Nat)) (ch:List (Ln×Value)):Int:=match valL ss key with | some n=>n | none=>chv key other ch
theorem ZaJ (key:Nat) (other:Int) (x0 x1:Int) (s2 s3:ByteArray) (so:Option Addr) (sc m:Nat) (ss:List (Nat×Nat)) (co:Option Addr) (cc q:Nat) (ch:List (Ln×Value)) (w:World)
  (hr:RowAt w (.slice so m sc) m (flatS ss)) (hm:ss.length=m) (hm1:m≤1001) (hl:LinesAt w (.slice co q cc) ch) (hq:ch.length=q) (hq1:q≤1001) (hsl:∀ p∈ch,p.1.sets.length≤1001) :
  Calls Tryz.prog 93 #[.string (wordB key),lnA' x0 x1 s2 s3 so m sc,.slice co q cc,.int .i64 other] w fun e w'=>e=.returned (.int .i64 (valOf key other ss ch))∧Below w.heap.size w w':=by
 have HNO:=hideIt (Zcz key x0 x1 s2 s3 so sc m ss (w.alloc (bLn x0 x1 s2 s3 so m sc)) (hr.nx (Zb _ _)) hm hm1);have HL:Hid (LinesAt w (.slice co q cc) ch∧ch.length=q∧∀ p∈ch,p.1.sets.length≤1001):=⟨hl,hq,hsl⟩;clear hr hm hl hq hsl;cases hv:valL ss key with
 | some n =>
  have HX:Hid (valOf key other ss ch=n):=by show _=_;rw [valOf,hv]
  have hN:valN ss key=n:=by rw [valN,hv]
  have hS:(valL ss key).isSome=true:=by rw [hv];rfl
  clear hv;go_enter Tryz.func93,Tryz.ntmps93
  go_wp2_with fail
  refine HNO.out.mono ?_;rintro e w1 ⟨rfl,hb1⟩;rw [hN,hS];go_wp2_with fail
  go_ret
  exact ⟨Zt HX.out.symm,Za (Zb _ _) hb1⟩
 | none =>
  have HX:Hid (valOf key other ss ch=chv key other ch):=by show _=_;rw [valOf,hv]
  have hN:valN ss key=0:=by rw [valN,hv]
  have hS:(valL ss key).isSome=false:=by rw [hv];rfl
  clear hv;go_enter Tryz.func93,Tryz.ntmps93
  go_wp2_with fail
  refine HNO.out.mono ?_;rintro e w1 ⟨rfl,hb1⟩;rw [hN,hS];have HB1:Hid (Below w.heap.size w w1):=Za (Zb _ _) hb1;clear hb1 hN hS HNO;go_wp2_with fail
  go_loopw [9,10,11] (fun x ok i wr=>∃ (k:Nat) (a:Int),k≤q∧i=.int .i64 k∧x=.int .i64 a∧ok=.bool false∧Hid (chv key other (ch.drop k)=chv key other ch)∧Below w.heap.size w wr) (fun _ _ i _=>q - (intOf i).toNat)
  case atStart=>exact ⟨0,0,Nat.zero_le _,rfl,rfl,rfl,rfl,HB1.out⟩
  case round =>
   obtain ⟨k,a,hk,rfl,rfl,rfl,HS,hbel⟩:=hrel;by_cases hlt:k<q
   ·obtain ⟨⟨l,sv⟩,hp⟩:∃ p,ch[k]?=some p:=⟨_,List.getElem?_eq_getElem (by rw [HL.out.2.1];exact hlt)⟩;obtain ⟨bl,off,so',sc',hao,hbl,hsv,hrow,c0,c1,c2,c3,c4⟩:=(HL.out.1.nx hbel).at hp;have HD:Hid (ch.drop k=(l,sv) :: ch.drop (k+1)):=Zy hp;have hlti:(k:Int)<(q:Int):=by omega
    have HNO2:=hideIt (Zcz key l.place l.kind l.name l.frm so' sc' l.sets.length l.sets wr hrow rfl (HL.out.2.2 _ (List.mem_of_getElem? hp)));subst hao;clear hp hsv hrow;cases hv:valL l.sets key with
    | some n =>
     have HY:Hid (chv key other ch=n):=by show _=_;rw [←HS.out,HD.out,chv,hv]
     have hN:valN l.sets key=n:=by rw [valN,hv]
     have hS:(valL l.sets key).isSome=true:=by rw [hv];rfl
     clear hv;go_wp2_with fail
     refine HNO2.out.mono ?_;rintro e w2 ⟨rfl,hb2⟩;rw [hN,hS];go_wp2_with fail
     go_ret
     exact ⟨Zt (by rw [HX.out,HY.out]),Za hbel hb2⟩
    | none =>
     have HY:Hid (chv key other (ch.drop (k+1))=chv key other ch):=by show _=_;rw [←HS.out,HD.out,chv,hv]
     have hN:valN l.sets key=0:=by rw [valN,hv]
     have hS:(valL l.sets key).isSome=false:=by rw [hv];rfl
     clear hv;go_wp2_with fail
     refine HNO2.out.mono ?_;rintro e w2 ⟨rfl,hb2⟩;rw [hN,hS];have hb3:=Za hbel hb2;clear hbel hb2 c0 c1 c2 c3 c4;go_wp2_with fail
     go_roundw
     case rel=>exact ⟨k+1,0,by omega,by go_num,rfl,rfl,HY.out,hb3⟩
     case measure=>simp [intOf];omega
   ·go_wp2_with fail
    go_ret
    exact ⟨Zt (by rw [HX.out,←HS.out,List.drop_of_length_le (by rw [HL.out.2.1];omega)];rfl),hbel⟩
structure Pl where
 nm:ByteArray
 sz:Int
 wt:Int
 fr:Int
def flatP:List Pl→List Value
 | []=>[]
 | p :: r=>.string p.nm :: .int .i64 p.sz :: .int .i64 p.wt :: .int .i64 p.fr :: flatP r
theorem ZI:∀ a b:List Pl,flatP (a++b)=flatP a++flatP b
 | [],b=>rfl
 | p :: a,b=>by simp [flatP,ZI a b]
theorem Zfu:∀ (ps:List Pl) (i:Nat) (p:Pl),ps[i]?=some p→(flatP ps)[i*4]?=some (.string p.nm)∧(flatP ps)[i*4+1]?=some (.int .i64 p.sz)∧(flatP ps)[i*4+2]?=some (.int .i64 p.wt)∧(flatP ps)[i*4+3]?=some (.int .i64 p.fr)
 | [],i,p,h=>by simp at h
 | q :: r,0,p,h=>by simp at h;subst h;simp [flatP]
 | q :: r,i+1,p,h=>by
  have ih:=Zfu r i p (by simpa using h);have e0:(i+1)*4=i*4+4:=by omega
  rw [e0];simp only [flatP];exact ih
theorem Zn {w:World} {ao:Option Addr} {n m cap:Nat} {ps:List Pl} (h:RowAt w (.slice ao n cap) m (flatP ps)) {k:Nat} {p:Pl} (hk:ps[k]?=some p) :
  ∃ b off,ao=some ⟨b,off,none⟩∧b<w.heap.size∧w.cell? ⟨b,off+k*4,none⟩=some (.string p.nm)∧w.cell? ⟨b,off+k*4+1,none⟩=some (.int .i64 p.sz)∧w.cell? ⟨b,off+k*4+2,none⟩=some (.int .i64 p.wt)∧w.cell? ⟨b,off+k*4+3,none⟩=some (.int .i64 p.fr):=by
 obtain ⟨f0,f1,f2,f3⟩:=Zfu ps k p hk;obtain ⟨b,off,rfl,hb,g0⟩:=h.at f0;have hin:∀ j x,(flatP ps)[k*4+j]?=some x→w.cell? ⟨b,off+k*4+j,none⟩=some x:=by
  intro j x hx;obtain ⟨b',off',e,_,g⟩:=h.at hx;obtain ⟨rfl,rfl⟩:b=b'∧off=off':=by simpa using e
  rw [Nat.add_assoc];exact g
 exact ⟨b,off,rfl,hb,g0,hin 1 _ f1,hin 2 _ f2,hin 3 _ f3⟩
abbrev plA (p:Pl):Value:=.agg #[.string p.nm,.int .i64 p.sz,.int .i64 p.wt,.int .i64 p.fr]
def insP (p:Pl):List Pl→List Pl
 | []=>[p]
 | q :: r=>if lt p.nm q.nm=true then p :: q :: r else q :: insP p r
theorem Zfr {p q:Pl} {r:List Pl} (h:lt p.nm q.nm=true):insP p (q :: r)=p :: q :: r:=by rw [insP,if_pos h]
theorem ZgH {p q:Pl} {r:List Pl} (h:lt p.nm q.nm=false):insP p (q :: r)=q :: insP p r:=by rw [insP,if_neg (by simp [h])]
theorem ZX (p:Pl):∀ ps:List Pl,(insP p ps).length=ps.length+1
 | []=>rfl
 | q :: r=>by
  rw [insP];split
  ·rfl
  ·simp [ZX p r]
theorem ZcK:(Tryz.prog.info? 70).map (fun i=>(i.zero,i.size,i.bytes))=some (some (.agg #[.string ⟨#[]⟩,.int .i64 0,.int .i64 0,.int .i64 0]),4,40):=by kernel_rfl
end Co
end Go.Proofs.YtcpikklofilkcaaGreat
