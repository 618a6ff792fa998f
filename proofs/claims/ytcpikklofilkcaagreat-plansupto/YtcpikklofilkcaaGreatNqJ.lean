import Derived.Test.YtcpikklofilkcaaGreatNqF
import Derived.Test.YtcpikklofilkcaaGreatNqI
import Derived.Maps.AppendAt
set_option maxRecDepth 100000
set_option maxHeartbeats 16000000
namespace Go.Proofs.YtcpikklofilkcaaGreat
open Go.RowKit
namespace Co
def chC (ls:List Ln):Nat→ByteArray→List Ln
 | 0,_=>[]
 | f+1,nm=>match findC ls 2 nm with
  | none=>[]
  | some p=>p :: chC ls f p.frm
theorem Zdk (ls:List (Ln×Value)):∀ (f:Nat) (nm:ByteArray),chC (bare ls) f nm=bare (chn ls f nm)
 | 0,_=>rfl
 | f+1,nm=>by
  rw [chC,chn,ZaU];cases findL ls 2 nm with
  | none=>rfl
  | some p=>simp only [Option.map_some];rw [Zdk ls f];rfl
def lonC (all:List Ln) (most:Nat):List Ln→Nat
 | []=>0
 | p :: r=>if most<(chC all 7 p.frm).length then p.place else lonC all most r
theorem Zc7 (all:List (Ln×Value)) (most:Nat):∀ ls:List (Ln×Value),lonC (bare all) most (bare ls)=longN all most ls
 | []=>rfl
 | p :: r=>by
  have ih:=Zc7 all most r;simp only [bare,List.map_cons,lonC,longN] at ih ⊢;rw [ih];have e:=Zdk all 7 p.1.frm;simp only [bare] at e;rw [e,List.length_map]
def baC (ls:List Ln) (frm:ByteArray):Bool:=frm.toList.isEmpty||(findC ls 2 frm).isSome
theorem Zj6 (ls:List (Ln×Value)) (frm:ByteArray):baC (bare ls) frm=baseB ls frm:=by
 unfold baC baseB;rw [ZaU,Option.isSome_map]
def noC (all:List Ln):List Ln→Option Nat
 | []=>none
 | p :: r=>if baC all p.frm=true then noC all r else some p.place
theorem ZgG (all:List (Ln×Value)):∀ ls:List (Ln×Value),noC (bare all) (bare ls)=noBase all ls
 | []=>rfl
 | p :: r=>by
  have ih:=ZgG all r;have e:=Zj6 all p.1.frm;simp only [bare,List.map_cons,noC,noBase] at ih e ⊢;rw [ih,e]
def chE (ls:List Ln):Nat×Nat:=
 match noC ls ls with
 | some k=>(6,k)
 | none=>if 0<lonC ls 6 ls then (7,lonC ls 6 ls) else if 0<lonC ls 3 ls then (8,lonC ls 3 ls) else (0,0)
theorem Zjx (ls:List (Ln×Value)):chE (bare ls)=chainE ls:=by
 unfold chE chainE;rw [ZgG,Zc7,Zc7];cases noBase ls ls <;> rfl
def chvC (key:Nat) (other:Int):List Ln→Int
 | []=>other
 | p :: r=>match valL p.sets key with | some n=>n | none=>chvC key other r
theorem Zfj (key:Nat) (other:Int):∀ ls:List (Ln×Value),chvC key other (bare ls)=chv key other ls
 | []=>rfl
 | p :: r=>by
  have ih:=Zfj key other r;simp only [bare,List.map_cons,chvC,chv] at ih ⊢;rw [ih];cases valL p.1.sets key <;> rfl
def valC (key:Nat) (other:Int) (ss:List (Nat×Nat)) (ch:List Ln):Int:=match valL ss key with | some n=>n | none=>chvC key other ch
theorem Zb0 (key:Nat) (other:Int) (ss:List (Nat×Nat)) (ch:List (Ln×Value)):valC key other ss (bare ch)=valOf key other ss ch:=by
 unfold valC valOf;rw [Zfj];cases valL ss key <;> rfl
def plC (ls:List Ln) (l:Ln):Pl:=
 ⟨l.name,valC 0 1 l.sets (chC ls 7 l.frm),valC 1 0 l.sets (chC ls 7 l.frm),valC 2 0 l.sets (chC ls 7 l.frm)⟩
theorem Zkh (ls:List (Ln×Value)) (l:Ln):plC (bare ls) l=poolC ls l:=by
 unfold plC poolC;rw [Zdk,Zb0,Zb0,Zb0]
def stC (all:List Ln) (st:Int×List Pl) (l:Ln):Int×List Pl:=
 if l.kind=1 then (valC 3 0 l.sets [],st.2) else if l.kind=3 then (st.1,insP (plC all l) st.2) else st
def tabC (all:List Ln):Int×List Pl:=all.foldl (stC all) (0,[])
theorem Zi7 (ls:List (Ln×Value)):tabC (bare ls)=tabTo ls ls.length:=by
 unfold tabC tabTo bare;rw [List.take_length,List.foldl_map];congr 1;funext st p
 unfold stC tabStep;have e:=Zkh ls p.1;have e2:=Zb0 3 0 p.1.sets [];simp only [bare,List.map_nil] at e e2;rw [e,e2]
structure Ans where
 tab:Int×List Pl
 err:Nat
 at':Nat
def ans (s:ByteArray):Ans:=
 if 1000<s.size then ⟨(0,[]),1,0⟩
 else if (rd s).err≠0 then ⟨(0,[]),(rd s).err,(rd s).at'⟩
 else if (chE (rd s).lines).1≠0 then ⟨(0,[]),(chE (rd s).lines).1,(chE (rd s).lines).2⟩
 else ⟨tabC (rd s).lines,0,0⟩
theorem ZhT (p:ByteArray) (h:p.size≤1000):(flds p).length≤1001:=Nat.le_trans (Zdl p) (by omega)
theorem Zco:∀ (ps:List ByteArray) (i:Nat) (acc:List Ln),(∀ p∈ps,p.size≤1000)→(∀ l∈acc,l.sets.length≤1001)→∀ l∈(rdC i acc ps).lines,l.sets.length≤1001
 | [],i,acc,_,ha,l,hl=>by
  rw [rdC] at hl;split at hl
  ·simp at hl
  ·exact ha l hl
 | p :: r,i,acc,hp,ha,l,hl=>by
  rw [rdC] at hl;have hr:∀ q∈r,q.size≤1000:=fun q hq=>hp q (List.mem_cons_of_mem _ hq)
  split at hl
  ·exact Zco r _ _ hr ha l hl
  ·split at hl
   ·simp at hl
   ·rename_i l1 hl1
    split at hl
    ·refine Zco r _ _ hr ?_ l hl;intro q hq;rcases List.mem_append.1 hq with h | h
     ·exact ha q h
     ·simp at h;subst h;exact Nat.le_trans (ZbA hl1).2.2 (ZhT p (hp p List.mem_cons_self))
    ·simp at hl
theorem ZfD (s:ByteArray) (hs:s.size≤1000):∀ l∈(rd s).lines,l.sets.length≤1001:=
 Zco _ _ _ (fun p hp=>Nat.le_trans (ZaE s 10 p hp) hs) (by simp)
def Gave (a:Ans) (w w':World) (e:Ending):Prop:=
 ∃ vo vc,e=.returned (.tuple #[.agg #[.int .i64 a.tab.1,.slice vo a.tab.2.length vc],.int .i64 a.err,.int .i64 a.at'])∧w'.ownsRow w.heap.size 70 4 (.slice vo a.tab.2.length vc) a.tab.2.length (flatP a.tab.2)∧Below w.heap.size w w'
theorem ZaH {w w':World} {e:Ending} {a:Ans} {x y:Int} (he:e=.returned (.tuple #[.agg #[.int .i64 0,.slice none 0 0],.int .i64 x,.int .i64 y])) (h:a.tab=(0,[])) (hx:x=a.err) (hy:y=a.at') (hb:Below w.heap.size w w'):Gave a w w' e:=by
 refine ⟨none,0,?_,?_,hb⟩
 ·rw [he,h,hx,hy];rfl
 ·rw [h];exact World.ownsRow_nil _ _ _ _
theorem Zc3 (s:ByteArray) (w:World) (hs:s.size≤maxLen) :
  Calls Tryz.prog 21 #[.string s] w fun e w'=>Gave (ans s) w w' e:=by
 unfold maxLen at hs;by_cases hlong:1000<s.size
 ·have HA:Hid (ans s=⟨(0,[]),1,0⟩):=by show _=_;rw [ans,if_pos hlong]
  have hli:(1000:Int)<(s.size:Int):=by omega
  go_enter Tryz.func21,Tryz.ntmps21
  go_wp2_with fail
  refine bodyPost_ret (v:=.tuple #[.agg #[.int .i64 0,.slice none 0 0],.int .i64 1,.int .i64 0]) (by simp [results,Tryz.results21,go_sem]) rfl ?_;exact ZaH rfl (by rw [HA.out]) (by rw [HA.out];rfl) (by rw [HA.out];rfl) (Zb _ _)
 ·have hs2:s.size≤1000:=by omega
  have hli:¬(1000:Int)<(s.size:Int):=by omega
  have H0:Hid ((w.alloc (bTab 0 (.slice none 0 0))).heap[w.heap.size]?=some (bTab 0 (.slice none 0 0))):=Zm _ _ rfl;have HRL:=hideIt (Ze9 s (w.alloc (bTab 0 (.slice none 0 0))) hs2);have HSM:=hideIt (ZfD s hs2);have HAA:Hid (ans s=if (rd s).err≠0 then ⟨(0,[]),(rd s).err,(rd s).at'⟩ else if (chE (rd s).lines).1≠0 then ⟨(0,[]),(chE (rd s).lines).1,(chE (rd s).lines).2⟩ else ⟨tabC (rd s).lines,0,0⟩):=by
   show _=_;rw [ans,if_neg hlong]
  clear hlong;go_enter Tryz.func21,Tryz.ntmps21
  go_wp2_with fail
  refine HRL.out.mono ?_;rintro e w1 (⟨hbad,rfl,hb1⟩ | ⟨ls,ao,cap,hz,hls,hn1,hn0,rfl,hl,hb1⟩)
  ·obtain ⟨er,her⟩:∃ er,(rd s).err=er:=⟨_,rfl⟩;obtain ⟨pl,hpl⟩:∃ pl,(rd s).at'=pl:=⟨_,rfl⟩;rw [her] at hbad;rw [her,hpl];have HA:Hid (ans s=⟨(0,[]),er,pl⟩):=by show _=_;rw [HAA.out,her,hpl,if_pos hbad]
   have hh0:w1.heap[w.heap.size]?=some (bTab 0 (.slice none 0 0)):=(hb1.block _ (by simp)).trans H0.out;obtain ⟨e0,e1,ze⟩:=blk2 hh0;have herb:((er:Int) != 0)=true:=by rw [bne_iff_ne];omega
   have HB:Hid (Below w.heap.size w w1):=Za (Zb _ _) hb1;clear hb1 her hpl hbad hh0;go_wp2_with fail
   refine bodyPost_ret (v:=.tuple #[.agg #[.int .i64 0,.slice none 0 0],.int .i64 er,.int .i64 pl]) (by simp [results,Tryz.results21,go_sem,e0,e1]) rfl ?_;exact ZaH rfl (by rw [HA.out]) (by rw [HA.out]) (by rw [HA.out]) ((HB.out.setCell (Nat.le_refl _) _).setCell (Nat.le_refl _) _)
  ·obtain ⟨n,hn⟩:∃ n,ls.length=n:=⟨_,rfl⟩;have HSL:Hid (∀ p∈ls,p.1.sets.length≤1001):=by
    intro p hp;exact HSM.out p.1 (by rw [hls];exact List.mem_map_of_mem hp)
   have HAB:Hid (ans s=if (chainE ls).1≠0 then ⟨(0,[]),(chainE ls).1,(chainE ls).2⟩ else ⟨tabTo ls n,0,0⟩):=by
    show _=_;rw [HAA.out,if_neg (by simp [hz]),hls,Zjx,Zi7,hn]
   rw [hn] at hl hn1 ⊢;have HL:Hid (LinesAt w1 (.slice ao n cap) ls∧ls.length=n):=⟨hl,hn⟩;have hh0:w1.heap[w.heap.size]?=some (bTab 0 (.slice none 0 0)):=(hb1.block _ (by simp)).trans H0.out;have hlt1:w.heap.size<w1.heap.size:=Zfd hb1;have HB:Hid (Below w.heap.size w w1∧w1.heap[w.heap.size]?=some (bTab 0 (.slice none 0 0))):=⟨Za (Zb _ _) hb1,hh0⟩;have HCF:=hideIt (Zek ao cap n ls w1 hl hn hn1);clear hl hn hls hz hb1 hh0 HAA;go_wp2_with fail
   refine HCF.out.mono ?_;rintro e w2 ⟨rfl,hb2⟩;obtain ⟨⟨er,pl⟩,hce⟩:∃ ce,chainE ls=ce:=⟨_,rfl⟩;rw [hce];simp only;have hh0:w2.heap[w.heap.size]?=some (bTab 0 (.slice none 0 0)):=(hb2.block _ hlt1).trans HB.out.2;by_cases her:er=0
   ·have HA:Hid (ans s=⟨tabTo ls n,0,0⟩):=by show _=_;rw [HAB.out,hce,if_neg (by simp [her])]
    have HTO:=hideIt (Zge ao cap n ls w2 (HL.out.1.nx hb2) HL.out.2 hn1 HSL.out);have HB2:Hid (Below w.heap.size w w2∧w.heap.size<w2.heap.size∧w2.heap[w.heap.size]?=some (bTab 0 (.slice none 0 0))):=⟨Za HB.out.1 hb2,Nat.lt_of_lt_of_le hlt1 hb2.size,hh0⟩;subst her;clear hce hh0 hb2;go_wp2_with fail
    refine HTO.out.mono ?_;rintro e w3 ⟨vo,vc,rfl,hown,hb3⟩;have hh0:w3.heap[w.heap.size]?=some (bTab 0 (.slice none 0 0)):=(hb3.block _ HB2.out.2.1).trans HB2.out.2.2;obtain ⟨e0,e1,ze⟩:=blk2 hh0;obtain ⟨⟨b,ps⟩,htb⟩:∃ tb,tabTo ls n=tb:=⟨_,rfl⟩;rw [htb] at HA hown ⊢;simp only at hown ⊢;obtain ⟨m,hm⟩:∃ m,ps.length=m:=⟨_,rfl⟩;rw [hm] at hown ⊢;have HO:Hid (w3.ownsRow w2.heap.size 70 4 (.slice vo m vc) m (flatP ps)∧Below w.heap.size w w3∧ps.length=m):=⟨hown,Za HB2.out.1 hb3,hm⟩;clear hown hb3 htb hm hh0;go_wp2_with fail
    refine bodyPost_ret (v:=.tuple #[.agg #[.int .i64 b,.slice vo m vc],.int .i64 0,.int .i64 0]) (by simp [results,Tryz.results21,go_sem,e0,e1]) rfl ⟨vo,vc,?_,?_,?_⟩
    ·rw [HA.out];simp only;rw [HO.out.2.2];rfl
    ·rw [HA.out];simp only;rw [HO.out.2.2];exact Zi (ownsRow_setCell_below (ownsRow_setCell_below HO.out.1 (by show w.heap.size<_;exact HB2.out.2.1) _) (by show w.heap.size<_;exact HB2.out.2.1) _) (Nat.le_of_lt HB2.out.2.1)
    ·exact (HO.out.2.1.setCell (Nat.le_refl _) _).setCell (Nat.le_refl _) _
   ·have HA:Hid (ans s=⟨(0,[]),er,pl⟩):=by show _=_;rw [HAB.out,hce,if_pos her]
    obtain ⟨e0,e1,ze⟩:=blk2 hh0;have herb:((er:Int) != 0)=true:=by rw [bne_iff_ne];omega
    have HB2:Hid (Below w.heap.size w w2):=Za HB.out.1 hb2;clear hce her hh0 hb2;go_wp2_with fail
    refine bodyPost_ret (v:=.tuple #[.agg #[.int .i64 0,.slice none 0 0],.int .i64 er,.int .i64 pl]) (by simp [results,Tryz.results21,go_sem,e0,e1]) rfl ?_;exact ZaH rfl (by rw [HA.out]) (by rw [HA.out]) (by rw [HA.out]) ((HB2.out.setCell (Nat.le_refl _) _).setCell (Nat.le_refl _) _)
end Co
end Go.Proofs.YtcpikklofilkcaaGreat
namespace Go.Proofs.YtcpikklofilkcaaGreat
open Go.RowKit
namespace Lw
open Co
theorem Zd4:∀ (ps:List ByteArray) (i:Nat) (acc:List Ln),(rdC i acc ps).lines.length≤acc.length+ps.length
 | [],i,acc=>by
  rw [rdC];split <;> simp
 | p :: r,i,acc=>by
  rw [rdC];split
  ·have:=Zd4 r (i+1) acc;simp;omega
  ·split
   ·simp
   ·split
    ·rename_i l _ _
     have:=Zd4 r (i+1) (acc++[{l with place:=i+1}]);simp at this ⊢;omega
    ·simp
theorem ZfM (all:List Ln):∀ (ls:List Ln) (x:Int×List Pl),(ls.foldl (stC all) x).2.length≤x.2.length+ls.length
 | [],x=>by simp
 | l :: r,x=>by
  have:=ZfM all r (stC all x l);rw [List.foldl_cons];have h:(stC all x l).2.length≤x.2.length+1:=by
   unfold stC;split
   ·simp
   ·split
    ·simp [ZX]
    ·omega
  simp;omega
theorem ZjX (s:ByteArray):(ans s).tab.2.length≤1001:=by
 unfold ans;split
 ·simp
 ·split
  ·simp
  ·split
   ·simp
   ·rename_i h _ _
    have h1:=ZfM (rd s).lines (rd s).lines (0,[]);have h2:(rd s).lines.length≤0+(pieces s 10).length:=Zd4 _ _ _;have h3:=Zai s 10;have h4:(tabC (rd s).lines).2.length≤0+(rd s).lines.length:=h1;simp only;omega
theorem Zim (s:ByteArray) (h:(ans s).err=0):(ans s).at'=0:=by
 unfold ans at h ⊢;split at h
 ·simp at h
 ·rename_i h0
  rw [if_neg h0];split at h
  ·rename_i h1;exact absurd h h1
  ·rename_i h1
   rw [if_neg h1];split at h
   ·rename_i h2;exact absurd h h2
   ·rename_i h2;rw [if_neg h2]
theorem Zgk (s:ByteArray) (h:(ans s).err≠0):(ans s).tab=(0,[]):=by
 unfold ans at h ⊢;split at h
 ·rename_i h0;rw [if_pos h0]
 ·rename_i h0
  rw [if_neg h0];split at h
  ·rename_i h1;rw [if_pos h1]
  ·rename_i h1
   rw [if_neg h1];split at h
   ·rename_i h2;rw [if_pos h2]
   ·exact absurd rfl h
abbrev zDesk:Obj:=.cells #[.int .i64 0,.slice none 0 0,.slice none 0 0,.slice none 0 0,.int .i64 0] 80
theorem ZiY (b:Int) (ps:List Pl) (vo:Option Addr) (n vc:Nat) (w:World) (hr:RowAt w (.slice vo n vc) n (flatP ps)) (hnil:vo=none→vc=0) (hn:ps.length=n) (hq:n≤1099511627776) :
  Calls Tryz.prog 22 #[.agg #[.int .i64 b,.slice vo n vc]] w fun e w'=>∃ po pc,e=.returned (.agg #[.int .i64 b,.slice po n pc,.slice none 0 0,.slice none 0 0,.int .i64 0])∧w'.ownsRow w.heap.size 70 4 (.slice po n pc) n (flatP ps)∧Below w.heap.size w w':=by
 have hb0:Below w.heap.size w ((w.alloc (bTab b (.slice vo n vc))).alloc zDesk):=Za (Zb _ _) (Zb _ _);have HC:=hideIt (Z5 b ps vo n vc ((w.alloc (bTab b (.slice vo n vc))).alloc zDesk) (hr.nx hb0) hnil hn hq);have HZ:Hid (Below w.heap.size w ((w.alloc (bTab b (.slice vo n vc))).alloc zDesk)∧((w.alloc (bTab b (.slice vo n vc))).alloc zDesk).heap[w.heap.size+1]?=some zDesk):=⟨hb0,Zc _ _ (by simp)⟩;clear hr hnil hn hq hb0;go_enter Tryz.func22,Tryz.ntmps22
 go_wp2_with fail
 refine HC.out.mono ?_;rintro e w1 ⟨po,pc,rfl,hown,hb1⟩;have hz:w1.heap[w.heap.size+1]?=some zDesk:=(hb1.block _ (by simp)).trans HZ.out.2;have K:Hid (w1.ownsRow (w.heap.size+2) 70 4 (.slice po n pc) n (flatP ps)∧Below w.heap.size w w1):=⟨by simpa using hown,Za HZ.out.1 hb1⟩;obtain ⟨y0,y1,y2,y3,y4,yz⟩:=blk5e hz;clear hown hb1 hz HC;go_wp2_with fail
 refine bodyPost_ret (v:=.agg #[.int .i64 b,.slice po n pc,.slice none 0 0,.slice none 0 0,.int .i64 0]) (by simp [results,Tryz.results22,go_sem,y0,y1,y2,y3,y4]) rfl ⟨po,pc,rfl,?_,?_⟩
 ·refine Zi (Zj K.out.1 (fun j hj=>?_)) (by omega);have hne:j≠w.heap.size+1:=by have:=(K.out.1.lt j hj).1;omega
  exact (Below.heap_setCell _ _ _ _ hne).trans ((Below.heap_setCell _ _ _ _ hne).trans ((Below.heap_setCell _ _ _ _ hne).trans ((Below.heap_setCell _ _ _ _ hne).trans (Below.heap_setCell _ _ _ _ hne))))
 ·have hg:w.heap.size≤w.heap.size+1:=by omega
  exact ((((K.out.2.setCell hg _).setCell hg _).setCell hg _).setCell hg _).setCell hg _
abbrev staNew (a:Ans):Sta:=⟨a.tab.1,a.tab.2,[],[],[],false,false⟩
def NewG (a:Ans) (w w':World) (e:Ending):Prop:=
 (a.err≠0∧e=.returned (.tuple #[.pointer none,.int .i64 a.err,.int .i64 a.at'])∧Below w.heap.size w w') ∨
 (a.err=0∧∃ gp F,e=.returned (.tuple #[.pointer (some ⟨gp,0,none⟩),.int .i64 0,.int .i64 0])∧DeskAt w' gp (staNew a) ⟨0,0,[]⟩ F∧(∀ y,F y→w.heap.size≤y)∧Below w.heap.size w w')
theorem ZjK (s:ByteArray) (w:World) (hs:s.size≤maxLen) :
  Calls Tryz.prog 9 #[.string s] w fun e w'=>NewG (ans s) w w' e:=by
 have HC:=hideIt (Zc3 s w hs);have HL:=hideIt (ZjX s);have HBAD:=hideIt (Zgk s);obtain ⟨⟨⟨b,ps⟩,er,pl⟩,ha⟩:∃ a,ans s=a:=⟨_,rfl⟩;rw [ha] at HC HL HBAD ⊢;simp only at HL HBAD;unfold maxLen at hs;clear ha;go_enter Tryz.func9,Tryz.ntmps9
 go_wp2_with fail
 refine HC.out.mono ?_;rintro e w1 ⟨vo,vc,rfl,hown,hb1⟩;simp only at hown ⊢;obtain ⟨m,hm⟩:∃ m,ps.length=m:=⟨_,rfl⟩;rw [hm] at hown ⊢;have hm1:m≤1001:=by rw [←hm];exact HL.out
 have K1:Hid (w1.ownsRow w.heap.size 70 4 (.slice vo m vc) m (flatP ps)∧Below w.heap.size w w1∧ps.length=m):=⟨hown,hb1,hm⟩;by_cases her:er=0
 ·subst her;have HO:=hideIt (ZiY b ps vo m vc (w1.alloc (bTab b (.slice vo m vc))) ((Zd hown).nx (Zb _ _)) (Zv hown) hm (by omega));clear hown hb1 hm HC;go_wp2_with fail
  refine HO.out.mono ?_;rintro e w2 ⟨po,pc,rfl,hown2,hb2⟩;have hsz:w.heap.size≤w2.heap.size:=Nat.le_trans K1.out.2.1.size (Nat.le_trans (by simp) hb2.size);have K2:Hid ((w2.alloc (bDesk b po m pc none 0 0 none 0 0 0 ⟨.slice none 0 0,false,false,0,.slice none 0 0⟩)).ownsRow 0 70 4 (.slice po m pc) m (flatP ps)∧(∀ g,(Value.slice po m pc).ownBlock=some g→w.heap.size≤g∧g<w2.heap.size)∧Below w.heap.size w (w2.alloc (bDesk b po m pc none 0 0 none 0 0 0 ⟨.slice none 0 0,false,false,0,.slice none 0 0⟩))∧w.heap.size≤w2.heap.size):=by
   refine ⟨Zi (hown2.alloc _) (Nat.zero_le _),fun g hg=>?_,?_,hsz⟩
   ·have:=hown2.lt g hg;have h1:=K1.out.2.1.size;simp at this;omega
   ·exact (Za (Za K1.out.2.1 (Zb _ _)) hb2).alloc hsz _
  clear hown2 hb2 hsz HO;go_wp2_with fail
  refine bodyPost_ret (v:=.tuple #[.pointer (some ⟨w2.heap.size,0,none⟩),.int .i64 0,.int .i64 0]) (by simp [results,Tryz.results9,go_sem]) rfl ?_;refine .inr ⟨rfl,w2.heap.size,fun y=>y=w2.heap.size∨(Value.slice po m pc).ownBlock=some y,rfl,?_,fun y hy=>?_,K2.out.2.2.1⟩
  ·refine ⟨⟨po,pc,none,0,none,0,none,0,none,0,?_,⟨?_,fun g hg=>.inr ?_⟩,Held.nil,Held.nil,Held.nil,Held.nil⟩,.inl rfl,fun x hx=>?_⟩
   ·simp only [K1.out.2.2];exact Zc _ _ rfl
   ·simp only [K1.out.2.2];exact K2.out.1
   ·simp only [K1.out.2.2] at hg;exact hg
   ·rcases hx with hx | hx
    ·rw [hx];simp
    ·have:=(K2.out.2.1 x hx).2;simp;omega
  ·rcases hy with hy | hy
   ·rw [hy];exact K2.out.2.2.2
   ·exact (K2.out.2.1 y hy).1
 ·have herb:((er:Int) != 0)=true:=by rw [bne_iff_ne];omega
  have HE:=hideIt her;clear hown hb1 hm her HC;go_wp2_with fail
  refine bodyPost_ret (v:=.tuple #[.pointer none,.int .i64 er,.int .i64 pl]) (by simp [results,Tryz.results9,go_sem]) rfl ?_;exact .inl ⟨HE.out,rfl,(K1.out.2.1.alloc K1.out.2.1.size _)⟩
end Lw
end Go.Proofs.YtcpikklofilkcaaGreat
namespace Go.Proofs.YtcpikklofilkcaaGreat
open Go.RowKit
namespace Co
def kwW (k:Nat):List UInt8:=match k with
 | 1=>[98,117,100,103,101,116] | 2=>[98,97,115,101] | 3=>[112,111,111,108] | k=>List.replicate (k+10) 0
def kwK (k:Nat):ByteArray:=⟨(kwW k).toArray⟩
theorem Zde (a:Nat):(kwK a).toList=kwW a:=by
 rw [ByteArray.toList_eq];rfl
theorem Zhp (a:Nat) (h1:a≠1) (h2:a≠2) (h3:a≠3):kwW a=List.replicate (a+10) 0:=by
 unfold kwW;split <;> simp_all
theorem ZgI (a:Nat):(kwW a).length=(if a=1 then 6 else if a=2∨a=3 then 4 else a+10):=by
 by_cases a1:a=1
 ·subst a1;rfl
 ·by_cases a2:a=2
  ·subst a2;rfl
  ·by_cases a3:a=3
   ·subst a3;rfl
   ·rw [Zhp _ a1 a2 a3,if_neg a1,if_neg (by omega)];simp
theorem ZjJ (a b:Nat) (h:kwW a=kwW b):a=b:=by
 have hl:=congrArg List.length h;rw [ZgI,ZgI] at hl;by_cases h23:a=2∧b=3
 ·obtain ⟨rfl,rfl⟩:=h23;simp [kwW] at h
 by_cases h32:a=3∧b=2
 ·obtain ⟨rfl,rfl⟩:=h32;simp [kwW] at h
 split at hl <;> split at hl <;> (try split at hl) <;> (try split at hl) <;> omega
theorem ZfP (a b:Nat):((kwK a).toList == (kwK b).toList)=decide (a=b):=by
 rw [Zde,Zde,Bool.eq_iff_iff];simp only [beq_iff_eq,decide_eq_true_iff];exact ⟨ZjJ a b,fun h=>by rw [h]⟩
abbrev RL:=Ln×Value×Value
def ints (xs:List Nat):List Value:=xs.map fun (n:Nat)=>Value.int .i64 (n:Int)
theorem ZjP {xs:List Nat} {k n:Nat} (h:xs[k]?=some n):(ints xs)[k]?=some (.int .i64 (n:Int)):=by simp [ints,h]
def keysOf (l:Ln):List Nat:=if l.kind=1 then [] else l.sets.map (·.1)
def valsOf (l:Ln):List Nat:=l.sets.map (·.2)
def flatR:List RL→List Value
 | []=>[]
 | p :: r=>.string (kwK p.1.kind) :: .string p.1.name :: .string p.1.frm :: p.2.1 :: p.2.2 :: .int .i64 (p.1.place:Int) :: flatR r
theorem Zcv:∀ a b:List RL,flatR (a++b)=flatR a++flatR b
 | [],b=>rfl
 | p :: a,b=>by simp [flatR,Zcv a b]
theorem Zfy:∀ (ls:List RL) (i:Nat) (l:Ln) (kv vv:Value),ls[i]?=some (l,kv,vv)→(flatR ls)[i*6]?=some (.string (kwK l.kind))∧(flatR ls)[i*6+1]?=some (.string l.name)∧(flatR ls)[i*6+2]?=some (.string l.frm)∧(flatR ls)[i*6+3]?=some kv∧(flatR ls)[i*6+4]?=some vv∧(flatR ls)[i*6+5]?=some (.int .i64 (l.place:Int))
 | [],i,l,kv,vv,h=>by simp at h
 | q :: r,0,l,kv,vv,h=>by simp at h;subst h;simp [flatR]
 | q :: r,i+1,l,kv,vv,h=>by
  have ih:=Zfy r i l kv vv (by simpa using h);have e0:(i+1)*6=i*6+6:=by omega
  rw [e0];simp only [flatR];exact ih
def Lists (w:World) (p:RL):Prop:=RowAt w p.2.1 (keysOf p.1).length (ints (keysOf p.1))∧RowAt w p.2.2 p.1.sets.length (ints (valsOf p.1))
theorem Lists.nx {w w':World} {p:RL} (h:Lists w p) (hb:Below w.heap.size w w'):Lists w' p:=⟨h.1.nx hb,h.2.nx hb⟩
def RLinesAt (w:World) (v:Value) (ls:List RL):Prop:=RowAt w v ls.length (flatR ls)∧∀ p∈ls,Lists w p
theorem RLinesAt.nx {w w':World} {v:Value} {ls:List RL} (h:RLinesAt w v ls) (hb:Below w.heap.size w w'):RLinesAt w' v ls:=⟨h.1.nx hb,fun p hp=>(h.2 p hp).nx hb⟩
theorem Zko {w:World} {b off n cap:Nat} {m:Nat} {cs:List Value} (h:RowAt w (.slice (some ⟨b,off,none⟩) n cap) m cs):∀ (j:Nat) (x:Value),cs[j]?=some x→w.cell? ⟨b,off+j,none⟩=some x:=by
 intro j x hx;obtain ⟨b',off',e,_,g⟩:=h.at hx;simp only [Option.some.injEq,Addr.mk.injEq,and_true] at e;obtain ⟨rfl,rfl⟩:=e;exact g
theorem RLinesAt.at {w:World} {ao:Option Addr} {n cap:Nat} {ls:List RL} (h:RLinesAt w (.slice ao n cap) ls) {k:Nat} {l:Ln} {kv vv:Value} (hk:ls[k]?=some (l,kv,vv)) :
  ∃ b off ko kc vo vc,ao=some ⟨b,off,none⟩∧b<w.heap.size∧kv=.slice ko (keysOf l).length kc∧vv=.slice vo l.sets.length vc∧RowAt w (.slice ko (keysOf l).length kc) (keysOf l).length (ints (keysOf l))∧RowAt w (.slice vo l.sets.length vc) l.sets.length (ints (valsOf l)) ∧
   w.cell? ⟨b,off+k*6,none⟩=some (.string (kwK l.kind))∧w.cell? ⟨b,off+k*6+1,none⟩=some (.string l.name)∧w.cell? ⟨b,off+k*6+2,none⟩=some (.string l.frm) ∧
   w.cell? ⟨b,off+k*6+3,none⟩=some (.slice ko (keysOf l).length kc)∧w.cell? ⟨b,off+k*6+4,none⟩=some (.slice vo l.sets.length vc)∧w.cell? ⟨b,off+k*6+5,none⟩=some (.int .i64 (l.place:Int)):=by
 obtain ⟨f0,f1,f2,f3,f4,f5⟩:=Zfy ls k l kv vv hk;obtain ⟨b,off,rfl,hb,g0⟩:=h.1.at f0;have hin:=Zko h.1;obtain ⟨hk1,hv1⟩:=h.2 _ (List.mem_of_getElem? hk);simp only at hk1 hv1;obtain ⟨ko,kc,rfl,hkk⟩:=hk1;obtain ⟨vo,vc,rfl,hvv⟩:=hv1;have ha:∀ j,off+k*6+j=off+(k*6+j):=fun j=>by omega
 refine ⟨b,off,ko,kc,vo,vc,rfl,hb,rfl,rfl,⟨_,_,rfl,hkk⟩,⟨_,_,rfl,hvv⟩,g0,?_,?_,?_,?_,?_⟩
 ·rw [ha];exact hin _ _ f1
 ·rw [ha];exact hin _ _ f2
 ·rw [ha];exact hin _ _ f3
 ·rw [ha];exact hin _ _ f4
 ·rw [ha];exact hin _ _ f5
theorem Z6 {w:World} {so:Option Addr} {n sc m:Nat} {xs:List Nat} (h:RowAt w (.slice so n sc) m (ints xs)) {k a:Nat} (hk:xs[k]?=some a) :
  ∃ b off,so=some ⟨b,off,none⟩∧b<w.heap.size∧w.cell? ⟨b,off+k,none⟩=some (.int .i64 (a:Int)):=h.at (ZjP hk)
abbrev bareR (ls:List RL):List Ln:=ls.map (·.1)
theorem ZY {ls:List RL} {k:Nat} {p:RL} (h:ls[k]?=some p):(bareR ls)[k]?=some p.1:=by simp [bareR,h]
theorem ZM (ls:List RL):(bareR ls).length=ls.length:=by simp [bareR]
abbrev rlA (wd nm fr:ByteArray) (ko:Option Addr) (nk kc:Nat) (vo:Option Addr) (nv vc:Nat) (pl:Int):Value:=.agg #[.string wd,.string nm,.string fr,.slice ko nk kc,.slice vo nv vc,.int .i64 pl]
abbrev bRL (wd nm fr:ByteArray) (ko:Option Addr) (nk kc:Nat) (vo:Option Addr) (nv vc:Nat) (pl:Int):Obj:=.cells #[.string wd,.string nm,.string fr,.slice ko nk kc,.slice vo nv vc,.int .i64 pl] 122
def mostN (k:Nat):Nat:=match k with | 0=>20 | 1=>20 | _=>999
theorem Zfo (k:Nat) (w:World):Calls Tryz.prog 155 #[.int .i64 (k:Int)] w fun e w'=>e=.returned (.int .i64 (mostN k))∧w'=w:=by
 match k with
 | 0=>go_enter Tryz.func155,Tryz.ntmps155;go_wp2;go_ret;exact ⟨rfl,rfl⟩
 | 1=>go_enter Tryz.func155,Tryz.ntmps155;go_wp2;go_ret;exact ⟨rfl,rfl⟩
 | k+2 =>
  have h0:(((k+2:Nat):Int) == 0)=false:=by simp;omega
  have h1:(((k+2:Nat):Int) == 1)=false:=by simp;omega
  obtain ⟨q,hq⟩:∃ q:Int,((k+2:Nat):Int)=q:=⟨_,rfl⟩;rw [hq] at h0 h1 ⊢;clear hq;go_enter Tryz.func155,Tryz.ntmps155;go_wp2;go_ret;exact ⟨rfl,rfl⟩
def plainN (k:Nat):Int:=if k=0 then 1 else 0
theorem ZhE (k:Nat) (w:World):Calls Tryz.prog 102 #[.int .i64 (k:Int)] w fun e w'=>e=.returned (.int .i64 (plainN k))∧w'=w:=by
 match k with
 | 0=>go_enter Tryz.func102,Tryz.ntmps102;go_wp2;go_ret;exact ⟨rfl,rfl⟩
 | k+1 =>
  have h0:(((k+1:Nat):Int) == 0)=false:=by simp;omega
  obtain ⟨q,hq⟩:∃ q:Int,((k+1:Nat):Int)=q:=⟨_,rfl⟩;rw [hq] at h0 ⊢;clear hq;go_enter Tryz.func102,Tryz.ntmps102;go_wp2;go_ret;exact ⟨rfl,rfl⟩
theorem Zh8 (ls:List Ln) (kind k:Nat) (l:Ln) (h:ls[k]?=some l):cntC (ls.take (k+1)) kind=cntC (ls.take k) kind+(if l.kind=kind then 1 else 0):=by
 obtain ⟨hk,e⟩:=List.getElem?_eq_some_iff.1 h;unfold cntC;rw [List.take_succ_eq_append_getElem hk,List.filter_append,e,List.length_append];by_cases hh:l.kind=kind <;> simp [hh]
theorem ZcB (kind:Nat) (ao:Option Addr) (cap n:Nat) (ls:List RL) (w:World) (hl:RLinesAt w (.slice ao n cap) ls) (hn:ls.length=n) (hn1:n≤1001) :
  Calls Tryz.prog 137 #[.slice ao n cap,.string (kwK kind)] w fun e w'=>e=.returned (.int .i64 (cntC (bareR ls) kind))∧w'=w:=by
 have HN:Hid (ls.length=n):=hn;have HL:Hid (RLinesAt w (.slice ao n cap) ls):=hl;have HE:=hideIt ZfP;obtain ⟨kw,hkw⟩:∃ kw,kwK kind=kw:=⟨_,rfl⟩;rw [hkw];have HKW:=hideIt hkw;clear hl hn hkw;go_enter Tryz.func137,Tryz.ntmps137
 go_wp2_with fail
 go_loop [5,6] (fun c i=>∃ (k q:Nat),k≤n∧i=.int .i64 k∧c=.int .i64 q∧q≤k∧Hid (cntC ((bareR ls).take k) kind=q)) (fun _ i=>n - (intOf i).toNat)
 case atStart=>exact ⟨0,0,Nat.zero_le _,rfl,rfl,Nat.le_refl _,rfl⟩
 case round =>
  obtain ⟨k,q,hk,rfl,rfl,hq,HS⟩:=hrel;by_cases hlt:k<n
  ·obtain ⟨⟨l,kv,vv⟩,hp⟩:∃ p,ls[k]?=some p:=⟨_,List.getElem?_eq_getElem (by rw [HN.out];exact hlt)⟩;obtain ⟨bl,off,ko,kc,vo,vc,rfl,hbl,_,_,_,_,c0,c1,c2,c3,c4,c5⟩:=HL.out.at hp;have HC:=hideIt (Zh8 (bareR ls) kind k l (ZY hp));have hlti:(k:Int)<(n:Int):=by omega
   have hkb:((kwK l.kind).toList == kw.toList)=decide (l.kind=kind):=by rw [←HKW.out];exact HE.out _ _
   obtain ⟨lw,hlw⟩:∃ lw,kwK l.kind=lw:=⟨_,rfl⟩;rw [hlw] at c0 hkb;clear hp c1 c2 c3 c4 c5 hlw;by_cases hkk:l.kind=kind
   ·have hkb2:(lw.toList == kw.toList)=true:=by rw [hkb];simp [hkk]
    have HK:Hid (l.kind=kind):=hkk;clear hkk hkb;go_wp2_with fail
    go_round
    case rel=>exact ⟨k+1,q+1,by omega,by go_num,by go_num,by omega,(by show _=_;rw [HC.out,HS.out,if_pos HK.out])⟩
    case measure=>simp [intOf];omega
   ·have hkb2:(lw.toList == kw.toList)=false:=by rw [hkb];simp [hkk]
    have HK:Hid (¬l.kind=kind):=hkk;clear hkk hkb;go_wp2_with fail
    go_round
    case rel=>exact ⟨k+1,q,by omega,by go_num,rfl,by omega,(by show _=_;rw [HC.out,HS.out,if_neg HK.out];rfl)⟩
    case measure=>simp [intOf];omega
  ·have HQ:Hid (cntC (bareR ls) kind=q):=by
    have h:=HS.out;rw [List.take_of_length_le (by rw [ZM,HN.out];omega)] at h;exact h
   go_wp2_with fail
   go_ret
   exact ⟨Zt (by rw [HQ.out]),rfl⟩
def hitC (kind:Nat) (name:ByteArray) (l:Ln):Bool:=(l.kind == kind)&&(l.name.toList == name.toList)
def idxN:List Ln→Nat→ByteArray→Nat→Int
 | [],_,_,_=>-1
 | l :: r,kind,name,k=>if hitC kind name l=true then (k:Int) else idxN r kind name (k+1)
theorem Zaz (kind:Nat) (name:ByteArray) (ao:Option Addr) (cap n:Nat) (ls:List RL) (w:World) (hl:RLinesAt w (.slice ao n cap) ls) (hn:ls.length=n) (hn1:n≤1001) :
  Calls Tryz.prog 100 #[.slice ao n cap,.string (kwK kind),.string name] w fun e w'=>e=.returned (.int .i64 (idxN (bareR ls) kind name 0))∧w'=w:=by
 have HN:Hid (ls.length=n):=hn;have HL:Hid (RLinesAt w (.slice ao n cap) ls):=hl;have HE:=hideIt ZfP;obtain ⟨kw,hkw⟩:∃ kw,kwK kind=kw:=⟨_,rfl⟩;rw [hkw];have HKW:=hideIt hkw;clear hl hn hkw;go_enter Tryz.func100,Tryz.ntmps100
 go_wp2_with fail
 go_loop [7] (fun i=>∃ (k:Nat),k≤n∧i=.int .i64 k∧Hid (idxN ((bareR ls).drop k) kind name k=idxN (bareR ls) kind name 0)) (fun i=>n - (intOf i).toNat)
 case atStart=>exact ⟨0,Nat.zero_le _,rfl,rfl⟩
 case round =>
  obtain ⟨k,hk,rfl,HS⟩:=hrel;by_cases hlt:k<n
  ·obtain ⟨⟨l,kv,vv⟩,hp⟩:∃ p,ls[k]?=some p:=⟨_,List.getElem?_eq_getElem (by rw [HN.out];exact hlt)⟩;obtain ⟨bl,off,ko,kc,vo,vc,rfl,hbl,_,_,_,_,c0,c1,c2,c3,c4,c5⟩:=HL.out.at hp;have HD:Hid ((bareR ls).drop k=l :: (bareR ls).drop (k+1)):=Zy (ZY hp);have hlti:(k:Int)<(n:Int):=by omega
   have hkb:((kwK l.kind).toList == kw.toList)=decide (l.kind=kind):=by rw [←HKW.out];exact HE.out _ _
   obtain ⟨lw,hlw⟩:∃ lw,kwK l.kind=lw:=⟨_,rfl⟩;rw [hlw] at c0 hkb;clear hp c2 c3 c4 c5 hlw;by_cases hkk:l.kind=kind
   ·have hkb2:(lw.toList == kw.toList)=true:=by rw [hkb];simp [hkk]
    have HK:Hid (l.kind=kind):=hkk;clear hkk hkb;cases hnb:l.name.toList == name.toList
    ·have HX:Hid (idxN ((bareR ls).drop (k+1)) kind name (k+1)=idxN (bareR ls) kind name 0):=by
      show _=_;rw [←HS.out,HD.out,idxN,if_neg (by simp [hitC,hnb])]
     go_wp2_with fail
     go_round
     case rel=>exact ⟨k+1,by omega,by go_num,HX.out⟩
     case measure=>simp [intOf];omega
    ·have HX:Hid ((k:Int)=idxN (bareR ls) kind name 0):=by
      show _=_;rw [←HS.out,HD.out,idxN,if_pos (by simp [hitC,hnb,HK.out])]
     go_wp2_with fail
     go_ret
     exact ⟨Zt HX.out,rfl⟩
   ·have hkb2:(lw.toList == kw.toList)=false:=by rw [hkb];simp [hkk]
    have HX:Hid (idxN ((bareR ls).drop (k+1)) kind name (k+1)=idxN (bareR ls) kind name 0):=by
     show _=_;rw [←HS.out,HD.out,idxN,if_neg (by simp [hitC,hkk])]
    clear hkk hkb;go_wp2_with fail
    go_round
    case rel=>exact ⟨k+1,by omega,by go_num,HX.out⟩
    case measure=>simp [intOf];omega
  ·go_wp2_with fail
   go_ret
   exact ⟨Zt (by rw [←HS.out,List.drop_of_length_le (by rw [ZM,HN.out];omega)];rfl),rfl⟩
end Co
end Go.Proofs.YtcpikklofilkcaaGreat
