import Derived.Test.YtcpikklofilkcaaGreatNqAu
import Derived.Test.YtcpikklofilkcaaGreatRows
import Derived.WalkKit
import Derived.ProofKit
import Derived.OpenShut
import Derived.Deep.Slices
import Derived.JoinedCond
set_option maxRecDepth 100000
set_option maxHeartbeats 16000000
namespace Go.Proofs.YtcpikklofilkcaaGreat
open Go.RowKit
namespace Lw
open Co
structure Opr where
 k:Int
 a:Int
 b:Int
 s:ByteArray
def fOp (x:Opr):List Value:=[.int .i64 x.k,.int .i64 x.a,.int .i64 x.b,.string x.s]
def flatO (l:List Opr):List Value:=l.flatMap fOp
theorem ZkF {w:World} {ao:Option Addr} {n m cap:Nat} {l:List Opr} (h:RowAt w (.slice ao n cap) m (flatO l)) {i:Nat} {x:Opr} (hi:l[i]?=some x) :
  ∃ b off,ao=some ⟨b,off,none⟩∧b<w.heap.size∧w.cell? ⟨b,off+i*4,none⟩=some (.int .i64 x.k)∧w.cell? ⟨b,off+i*4+1,none⟩=some (.int .i64 x.a)∧w.cell? ⟨b,off+i*4+2,none⟩=some (.int .i64 x.b)∧w.cell? ⟨b,off+i*4+3,none⟩=some (.string x.s):=by
 obtain ⟨b,off,e,hb,g⟩:=ZcU (f:=fOp) (k:=4) (fun _=>rfl) h hi (by omega);exact ⟨b,off,e,hb,g 0 _ rfl,g 1 _ rfl,g 2 _ rfl,g 3 _ rfl⟩
theorem Zbp {S T:Sta} {X:Aux} {Y:Int×List Pl} {t:Int} (h:PlI S X Y) (hg:Good T t) (hr:Rest S T):PlI T {X with op:=t} Y:=by
 obtain ⟨g,hp⟩:=h.pln;refine ⟨hg,⟨g,Zje hp hr ⟨rfl,rfl⟩⟩,fun hne hb=>?_,h.y,h.hps,by rw [hr.2.2.1];exact h.plan⟩;rw [hr.2.2.1] at hne;rw [hr.2.2.2.2] at hb;exact h.home hne hb
theorem ZdA (S:Sta) (X:Aux) (d:Bool):(cTurned S X d).1.plan.length≤S.plan.length∧((cTurned S X d).2.hps=[]∨(cTurned S X d).2.hps=X.hps):=by
 unfold cTurned;split
 ·split
  ·exact ⟨by simp,.inl rfl⟩
  ·exact ⟨by simp,.inr rfl⟩
 ·exact ⟨Nat.le_refl _,.inr rfl⟩
theorem Zkg (L:List Stp) (b:Int) (ps:List Pl) (h:ps.length≤6):(fwdH L b ps).2.length≤6:=by
 unfold fwdH;split
 ·simp
 ·exact h
theorem ZiV {S:Sta} {X:Aux} {Y:Int×List Pl} (h:PlI S X Y):PlI (cTurn S X).S (cTurn S X).X (rTurn S (X.op+1) Y).Y∧pot ((cTurn S X).S,(cTurn S X).X.op)≤pot (S,X.op):=by
 obtain ⟨g,hpl⟩:=h.pln;obtain ⟨k1,k2,k3,k4⟩:=Zjk h.good hpl;have hs:=ZeW h.good hpl h.home;have hh:=hs.home;rw [←hs.S] at hh;have hy:(rTurn S (X.op+1) Y).Y=Y:=by unfold rTurn;split <;> rfl
 refine ⟨⟨k1,⟨g,k2⟩,hh,by rw [hy];exact h.y,?_,?_⟩,k4⟩
 ·cases hp:S.plan with
  | nil =>
   have e:cTurn S X=⟨S,X,0,14,0⟩:=by unfold cTurn;rw [hp]
   rw [e];exact h.hps
  | cons s r =>
   have e:(cTurn S X).X=(cTurned (cTurnS s.kind s.name s.n S.begun S X.op).1 {X with op:=(cTurnS s.kind s.name s.n S.begun S X.op).2} (cEnded s.kind s.name s.n (cTurnS s.kind s.name s.n S.begun S X.op).1)).2:=by unfold cTurn;rw [hp]
   rw [e];rcases (ZdA _ _ _).2 with h1 | h1
   ·rw [h1];simp
   ·rw [h1];exact h.hps
 ·cases hp:S.plan with
  | nil =>
   have e:cTurn S X=⟨S,X,0,14,0⟩:=by unfold cTurn;rw [hp]
   rw [e];exact h.plan
  | cons s r =>
   have e:(cTurn S X).S=(cTurned (cTurnS s.kind s.name s.n S.begun S X.op).1 {X with op:=(cTurnS s.kind s.name s.n S.begun S X.op).2} (cEnded s.kind s.name s.n (cTurnS s.kind s.name s.n S.begun S X.op).1)).1:=by unfold cTurn;rw [hp]
   rw [e];refine Nat.le_trans (ZdA _ _ _).1 ?_;obtain ⟨R,t,hb,hsv,_⟩:=ZfI h.good hpl hp;rw [hsv.rest.2.2.1,hb.tab.2.2.1];exact h.plan
theorem Zhb {S:Sta} {X:Aux} {Y:Int×List Pl} (h:PlI S X Y) {a:Ans} (ha:a.err=0→Okt a.tab.1 a.tab.2):PlI (cReload S X a).S (cReload S X a).X (rReload S (X.op+1) Y a).Y∧pot ((cReload S X a).S,(cReload S X a).X.op)≤pot (S,X.op):=by
 obtain ⟨g,hpl⟩:=h.pln;obtain ⟨k1,⟨g',k2,_,_⟩,k3,k4⟩:=Zg6 h.good hpl ha;have hs:=ZcY (a:=a) h.home;have hh:=hs.home;rw [←hs.S] at hh;refine ⟨⟨k1,⟨g',k2⟩,hh,?_,?_,?_⟩,by omega⟩
 ·unfold rReload;split
  ·exact h.y
  ·split
   ·exact h.y
   ·exact hpl.tab.len
 ·unfold cReload;split
  ·exact h.hps
  ·split
   ·exact h.hps
   ·exact Zkg _ _ _ hpl.tab.len
 ·unfold cReload;split
  ·exact h.plan
  ·split
   ·exact h.plan
   ·rename_i h2
    exact Zdh _ _ _ _ hpl.tab.len (ha (Classical.not_not.1 h2)).len
theorem ZhF {S:Sta} {X:Aux} {Y:Int×List Pl} (h:PlI S X Y):PlI (cAbort S X).S (cAbort S X).X (rAbort S (X.op+1) Y).Y∧pot ((cAbort S X).S,(cAbort S X).X.op)≤pot (S,X.op):=by
 obtain ⟨g,hpl⟩:=h.pln;obtain ⟨k1,⟨g',k2,_,_⟩,k3,k4⟩:=Zio h.good hpl;have hs:=ZdK h.home;have hh:=hs.home;rw [←hs.S] at hh;refine ⟨⟨k1,⟨g',k2⟩,hh,?_,?_,?_⟩,by omega⟩
 ·unfold rAbort;split
  ·exact h.y
  ·split
   ·exact h.y
   ·exact h.y
 ·unfold cAbort;split
  ·exact h.hps
  ·split
   ·exact h.hps
   ·simp
 ·unfold cAbort;split
  ·exact h.plan
  ·split
   ·exact h.plan
   ·exact Zdh _ _ _ _ hpl.tab.len h.hps
structure Plys (B:Nat) (w:World) (gx gp go:Nat) (S:Sta) (X:Aux) (Y:Int×List Pl) (Fp F:Nat→Prop) (u:Stv) (ho:Option Addr) (hc q1 q2 q4:Nat) (k:Nat):Prop where
 run:Run w gx gp go S X S (X.op+1) Y Fp F u ho hc q1 q2 q4
 pli:PlI S X Y
 pot:pot (S,X.op)≤k
 q:q1≤2*k∧q2≤2*k∧q4≤2*k
 fp:∀ y,Fp y→B≤y
 f:∀ y,F y→B≤y
 x:B≤gx
theorem Plys.num {B:Nat} {w:World} {gx gp go:Nat} {S:Sta} {X:Aux} {Y:Int×List Pl} {Fp F:Nat→Prop} {u:Stv} {ho:Option Addr} {hc q1 q2 q4 k:Nat} (h:Plys B w gx gp go S X Y Fp F u ho hc q1 q2 q4 k) (hk:k≤1073741824):RefOk S X.op Y∧Small S∧Fits S:=by
 have hi:=h.pli.good.fine.inv;obtain ⟨g,hpl⟩:=h.pli.pln;have h1:=hi.len;have h2:=hi.op0;have h3:=h.pot;have h4:=hpl.tab.len;have h5:=h.pli.plan;have h6:=h.pot;have h7:=h.pli.y;unfold Lw.pot at h3;simp only at h3;refine ⟨⟨⟨hi,by omega,by omega⟩,by omega,by omega,by omega,by omega⟩,⟨?_,?_,?_,?_⟩,⟨?_,?_,?_,?_⟩⟩ <;> (try unfold maxLen) <;> omega
def PlyG (S:Sta) (X:Aux) (gx gp go:Nat) (Fp F:Nat→Prop) (q1 q2 q4:Nat) (w w':World) (e:Ending):Prop:=
 e=.returned (.bool true)∧∃ D X' Z Fp' u' ho' hc',Run w' gx gp go D X' D (X'.op+1) Z Fp' F u' ho' hc' q1 q2 q4∧(∀ y,Fp' y→Fp y∨w.heap.size≤y)∧Chg (fun y=>Fp y∨y=gx) w w'∧PlI D X' Z∧pot (D,X'.op)≤pot (S,X.op)+1
theorem Zay {q:Rsp} {Z:Int×List Pl} {S:Sta} {X:Aux} {gx gp go:Nat} {Fp F:Nat→Prop} {q1 q2 q4:Nat} {w w':World} {e:Ending} (h:PlayQ q Z gx gp go Fp F q1 q2 q4 w w' e) (hI:PlI q.S q.X Z) (hp:pot (q.S,q.X.op)≤pot (S,X.op)+1):PlyG S X gx gp go Fp F q1 q2 q4 w w' e:=by
 obtain ⟨he,⟨Fp',u',ho',hc',hrun,hF⟩,hch⟩:=h;exact ⟨he,q.S,q.X,Z,Fp',u',ho',hc',hrun,hF,hch,hI,hp⟩
theorem Zjz (gx gp go:Nat) (S:Sta) (X:Aux) (Y:Int×List Pl) (Fp F:Nat→Prop) (u:Stv) (ho:Option Addr) (hc:Nat) (q1 q2 q4:Nat) (w:World) (kd A B:Int) (s:ByteArray) (h:Run w gx gp go S X S (X.op+1) Y Fp F u ho hc q1 q2 q4) (hI:PlI S X Y) (hk:RefOk S X.op Y) (hs:s.size≤maxLen) (hkd:kd≤7) :
  Calls Tryz.prog 7 #[.pointer (some ⟨gx,0,none⟩),.agg #[.int .i64 kd,.int .i64 A,.int .i64 B,.string s]] w fun e w'=>PlyG S X gx gp go Fp F q1 q2 q4 w w' e:=by
 rcases (by omega:kd≤0∨kd=1∨kd=2∨kd=3∨kd=4∨kd=5∨kd=6∨kd=7) with h0 | rfl | rfl | rfl | rfl | rfl | rfl | rfl
 ·exact (playQ0 gx gp go S X Y Fp F u ho hc q1 q2 q4 w kd A B s h h0).mono fun e w' hg=>Zay hg hI (by show pot (S,X.op)≤_;omega)
 ·exact (playQ1 gx gp go S X Y Fp F u ho hc q1 q2 q4 w A B s h hk hI.good.still).mono fun e w' hg=>Zay hg (Zbp hI (ZiO hI.good A s).1 (Zgy S X.op A s).2) (Zgy S X.op A s).1
 ·exact (playQ2 gx gp go S X Y Fp F u ho hc q1 q2 q4 w A B s h hk hI.good.still).mono fun e w' hg=>Zay hg (Zbp hI (ZhH hI.good A 0 0).1 (ZfV S X.op A).2) (ZfV S X.op A).1
 ·exact (playQ3 gx gp go S X Y Fp F u ho hc q1 q2 q4 w A B s h hk hI.good.still).mono fun e w' hg=>Zay hg (Zbp hI (Zha hI.good A).1 (Zeu S X.op A).2) (Zeu S X.op A).1
 ·exact (playQ4 gx gp go S X Y Fp F u ho hc q1 q2 q4 w A B s h hk hI.good.still).mono fun e w' hg=>Zay hg (Zbp hI (ZgU hI.good A 0 0).1 (Zep S X.op A).2) (Zep S X.op A).1
 ·have hp:=Zhb hI (ZbJ s);exact (playQ5 gx gp go S X Y Fp F u ho hc q1 q2 q4 w A B s h hI hk hs).mono fun e w' hg=>Zay hg hp.1 (by omega)
 ·have hp:=ZiV hI;exact (playQ6 gx gp go S X Y Fp F u ho hc q1 q2 q4 w A B s h hI hk).mono fun e w' hg=>Zay hg hp.1 (by omega)
 ·have hp:=ZhF hI;exact (playQ7 gx gp go S X Y Fp F u ho hc q1 q2 q4 w A B s h hI hk).mono fun e w' hg=>Zay hg hp.1 (by omega)
theorem Zhj (s:ByteArray) (os:List Opr) (ao:Option Addr) (n ac:Nat) (w:World) (hr:RowAt w (.slice ao n ac) n (flatO os)) (hn:os.length=n) (hs:s.size≤maxLen) (hst:∀ x∈os,x.s.size≤maxLen) (hq:n≤1073741823) :
  Calls Tryz.prog 4 #[.string s,.slice ao n ac,.int .i64 7] w fun e w'=>e=.returned (.bool true)∧Below w.heap.size w w':=by
 have HB:=hideIt (Zh0 s w hs);have HL:=hideIt (fun h=>ZbJ s h);have HST:=hideIt hst;have HR:Hid (RowAt w (.slice ao n ac) n (flatO os)∧os.length=n):=⟨hr,hn⟩;unfold maxLen at hs;clear hr hn hst;go_enter Tryz.func4,Tryz.ntmps4
 go_wp2_with fail
 refine HB.out.mono ?_;rintro e w1 ⟨gx,rfl,hgx,hb1,⟨her,b,v1,nx,hp⟩ | ⟨her,gp,F,vo,vc,nx,hp,hd,hF,hnx,hown,hno,hn1⟩⟩
 ·obtain ⟨x0,x1,x2,x3,x4,x5,x6,x7⟩:=blk11 hp;have K:=hideIt hb1;clear hp hb1 HB her;go_wp2_with fail
  go_ret
  exact ⟨rfl,K.out⟩
 ·subst hn1;obtain ⟨x0,x1,x2,x3,x4,x5,x6,x7⟩:=blk11 hp;obtain ⟨W,hW⟩:∃ W,W=w1.alloc (bOw (.slice none 0 0) (.slice none 0 0) (.slice none 0 0) (.slice none 0 0)):=⟨_,rfl⟩;have hbW:Below w1.heap.size w1 W:=by rw [hW];exact Zb _ _
  have hgo:W.heap[w1.heap.size]?=some (bOw (.slice none 0 0) (.slice none 0 0) (.slice none 0 0) (.slice none 0 0)):=by rw [hW];exact Zc _ _ rfl
  have hxlt:gx<w1.heap.size:=(Array.getElem?_eq_some_iff.1 hp).1;have hownW:=Zk hown hbW;have hblk:∀ g,Blkh (staNew (ans s)) ⟨vo,vc,none,0,none,0,none,0⟩ (0,[]) none 0 g→(Value.slice vo (ans s).tab.2.length vc).ownBlock=some g:=by
   rintro g ((hg | hg | hg | hg) | hg)
   ·exact hg
   ·simp [Value.ownBlock] at hg
   ·simp [Value.ownBlock] at hg
   ·simp [Value.ownBlock] at hg
   ·simp [Value.ownBlock] at hg
  have hrun:Run W gx gp w1.heap.size (staNew (ans s)) ⟨0,0,[]⟩ (staNew (ans s)) (0+1) (0,[]) F (fun y=>y=w1.heap.size) ⟨vo,vc,none,0,none,0,none,0⟩ none 0 0 0 0:=by
   refine ⟨(hbW.block gx hxlt).trans hp,hd.keep (G:=fun _=>False) (Chg.of_below hbW) (fun _ _ h=>h),⟨⟨Zd hownW,Zak _ _ _,Zak _ _ _,Zak _ _ _⟩,Zak _ _ _,fun g hg=>(hownW.lt g (hblk g hg)).2⟩,Zkm hgo,by omega,hnx,fun y hy h=>?_,fun g hg h=>?_,fun g hg=>(hno g (hblk g hg)).1,fun g hg e=>?_⟩
   ·have:=hd.lt y hy;omega
   ·have:=(hown.lt g (hblk g hg)).2;omega
   ·exact ZaG hown hp (by decide) (by rw [←e];exact hblk g hg)
  have hbb:=Za hb1 hbW;have HPL:Hid (Plys w.heap.size W gx gp w1.heap.size (staNew (ans s)) ⟨0,0,[]⟩ (0,[]) F (fun y=>y=w1.heap.size) ⟨vo,vc,none,0,none,0,none,0⟩ none 0 0 0 0 0∧Below w.heap.size w W):=by
   have hot:=HL.out her;have hi:Inv (staNew (ans s)) 0:=⟨List.Pairwise.nil,fun x hx=>by simp at hx,Int.le_refl _,List.Pairwise.nil⟩;refine ⟨⟨hrun,⟨⟨⟨hi,fun y hy=>by simp at hy,fun x hx=>by simp at hx,List.Pairwise.nil,fun x hx=>by simp at hx,fun x hx=>by simp at hx⟩,rfl,fun y hy=>by simp at hy⟩,⟨(ans s).tab,⟨hot,hot,fun _=>⟨rfl,rfl,rfl⟩,fun _=>⟨trivial,rfl⟩,fun h=>by simp at h,fun h=>absurd rfl h,fun s hs=>by simp at hs,fun h=>by simp at h⟩⟩,fun h=>absurd rfl h,Nat.zero_le _,Nat.zero_le _,Nat.zero_le _⟩,?_,⟨Nat.le_refl _,Nat.le_refl _,Nat.le_refl _⟩,hF,fun y hy=>by rw [hy];exact hb1.size,hgx⟩,hbb⟩;unfold Lw.pot;simp
  have KW:Hid (W=w1.alloc (bOw (.slice none 0 0) (.slice none 0 0) (.slice none 0 0) (.slice none 0 0))):=hW;obtain ⟨go,hgoe⟩:∃ go,w1.heap.size=go:=⟨_,rfl⟩;rw [hgoe] at HPL;have HGO:=hideIt hgoe;clear hp hd hF hnx hown hno hbW hgo hownW hblk hrun hW HB her hb1 hbb hxlt hgx hgoe;go_upto_region 5 with fail
  rw [←KW.out,HGO.out];clear x0 x1 x2 x3 x4 x5 x6 x7;go_wp2_with fail
  go_loopw [8,10,11] (fun ok i kk wr=>∃ (k:Nat),k≤n∧i=.int .i64 k∧ok=.bool true∧Hid (∃ S X Y Fp F u ho hc q1 q2 q4,Plys w.heap.size wr gx gp go S X Y Fp F u ho hc q1 q2 q4 k∧Below w.heap.size w wr)) (fun _ i _ _=>n - (intOf i).toNat)
  case atStart=>exact ⟨0,Nat.zero_le _,rfl,rfl,_,_,_,_,_,_,_,_,_,_,_,HPL.out⟩
  case round =>
   obtain ⟨k,hk,rfl,rfl,HS⟩:=hrel;obtain ⟨S,X,Y,Fp,F,u,ho,hc,q1,q2,q4,hpl,hbw⟩:=HS.out;obtain ⟨hrok,hsm,hfit⟩:=hpl.num (by omega);have hq':=hpl.q;have hqq:q1≤1099511627770∧q2≤1099511627770∧q4≤1099511627770:=by omega
   have HP:=hideIt hpl;have HBW:=hideIt hbw;have HLK:=hideIt (Zhd gx gp go S X Fp F u q1 q2 q4 wr hpl.run.seen hsm hfit hqq);have HQ:=hideIt (And.intro hqq hq');by_cases hlt:k<n
   ·have hlti:(k:Int)<(n:Int):=by omega
    obtain ⟨⟨kd,A,B,t⟩,hp⟩:∃ p,os[k]?=some p:=⟨_,List.getElem?_eq_getElem (by rw [HR.out.2];exact hlt)⟩;obtain ⟨bl,off,hao,hbl,c0,c1,c2,c3⟩:=ZkF (HR.out.1.nx hbw) hp;have hts:t.size≤maxLen:=HST.out _ (List.mem_of_getElem? hp);subst hao;simp only at c0 c1 c2 c3;clear hp hpl hbw hsm hfit hqq hq';cases h8:(kd == 8) with
    | true =>
     clear hrok;go_wp2_with fail
     refine HLK.out.mono ?_;rintro e w2 ⟨rfl,F2,hown2,hF2,hch⟩;have HK:=hideIt (Zbo go F2 (q1+2) (q2+2) (q4+2) w2 hown2 (by have:=HQ.out.1;omega));have HN:Hid (∃ S X Y Fp F u ho hc q1 q2 q4,Plys w.heap.size w2 gx gp go S X Y Fp F u ho hc q1 q2 q4 (k+1)∧Below w.heap.size w w2):=by
      have h:=HP.out;have hq2:=HQ.out.2;refine ⟨S,X,Y,Fp,F2,u,ho,hc,q1+2,q2+2,q4+2,⟨h.run.looked hch hown2 hF2,h.pli,by have:=h.pot;omega,by omega,h.fp,fun y hy=>?_,h.x⟩,HBW.out.trans (hch.below HBW.out.size h.f)⟩;rcases hF2 y hy with hy | hy
      ·exact h.f y hy
      ·exact Nat.le_trans HBW.out.size hy
     clear hown2 hF2 hch c0 c1 c2 c3;go_wp2_with fail
     refine HK.out.mono ?_;rintro e w3 ⟨rfl,h3⟩;obtain rfl:=h3.symm;go_wp2_with fail
     go_roundw
     case rel=>exact ⟨k+1,by omega,by go_num,rfl,HN.out⟩
     case measure=>simp [intOf];omega
    | false =>
     cases h4:decide (kd≤7) with
     | true =>
      have HPY:=hideIt (Zjz gx gp go S X Y Fp F u ho hc q1 q2 q4 wr kd A B t HP.out.run HP.out.pli hrok hts (of_decide_eq_true h4));clear hrok;go_wp2_with fail
      refine HPY.out.mono ?_;rintro e w2 ⟨rfl,D,X',Z,Fp',u',ho',hc',hrun,hFp,hch,hpli,hpot⟩;have HK:=hideIt (Zbo go F q1 q2 q4 w2 hrun.own (by have:=HQ.out.1;omega));have HN:Hid (∃ S X Y Fp F u ho hc q1 q2 q4,Plys w.heap.size w2 gx gp go S X Y Fp F u ho hc q1 q2 q4 (k+1)∧Below w.heap.size w w2):=by
       have h:=HP.out;have hq2:=HQ.out.2;refine ⟨D,X',Z,Fp',F,u',ho',hc',q1,q2,q4,⟨hrun,hpli,by have:=h.pot;omega,by omega,fun y hy=>?_,h.f,h.x⟩,HBW.out.trans (hch.below HBW.out.size (fun y hy=>?_))⟩
       ·rcases hFp y hy with hy | hy
        ·exact h.fp y hy
        ·exact Nat.le_trans HBW.out.size hy
       ·rcases hy with hy | hy
        ·exact h.fp y hy
        ·rw [hy];exact h.x
      clear hrun hFp hch hpli hpot c0 c1 c2 c3;go_wp2_with fail
      refine HK.out.mono ?_;rintro e w3 ⟨rfl,h3⟩;obtain rfl:=h3.symm;go_wp2_with fail
      go_roundw
      case rel=>exact ⟨k+1,by omega,by go_num,rfl,HN.out⟩
      case measure=>simp [intOf];omega
     | false =>
      have HK:=hideIt (Zbo go F q1 q2 q4 wr HP.out.run.own (by have:=HQ.out.1;omega));have HN:Hid (∃ S X Y Fp F u ho hc q1 q2 q4,Plys w.heap.size wr gx gp go S X Y Fp F u ho hc q1 q2 q4 (k+1)∧Below w.heap.size w wr):=by
       have h:=HP.out;have hq2:=HQ.out.2;exact ⟨S,X,Y,Fp,F,u,ho,hc,q1,q2,q4,⟨h.run,h.pli,by have:=h.pot;omega,by omega,h.fp,h.f,h.x⟩,HBW.out⟩
      clear hrok;go_wp2_with fail
      refine HK.out.mono ?_;rintro e w3 ⟨rfl,h3⟩;obtain rfl:=h3.symm;go_wp2_with fail
      go_roundw
      case rel=>exact ⟨k+1,by omega,by go_num,rfl,HN.out⟩
      case measure=>simp [intOf];omega
   ·clear hpl hbw hsm hfit hqq hq' hrok;go_wp2_with fail
    refine HLK.out.mono ?_;rintro e w2 ⟨rfl,F2,hown2,hF2,hch⟩;have KF:Hid (Below w.heap.size w w2):=HBW.out.trans (hch.below HBW.out.size HP.out.f);clear hown2 hF2 hch;go_wp2_with fail
    go_ret
    exact ⟨rfl,KF.out⟩
theorem ZhU (s:ByteArray) (os:List Opr) (ao:Option Addr) (n ac:Nat) (w:World) (hr:RowAt w (.slice ao n ac) n (flatO os)) (hn:os.length=n) (hs:s.size≤maxLen) (hst:∀ x∈os,x.s.size≤maxLen) (hq:n≤1073741823) :
  Calls Tryz.prog 3 #[.string s,.slice ao n ac] w fun e w'=>e=.returned (.bool true)∧Below w.heap.size w w':=by
 have HP:=hideIt (Zhj s os ao n ac w hr hn hs hst hq);clear hr hn hs hst hq;go_enter Tryz.func3,Tryz.ntmps3
 go_wp2_with fail
 refine HP.out.mono ?_;rintro e w1 ⟨rfl,hb⟩;have KF:=hideIt hb;clear hb;go_wp2_with fail
 go_ret
 exact ⟨rfl,KF.out⟩
end Lw
end Go.Proofs.YtcpikklofilkcaaGreat
namespace Go.Proofs.YtcpikklofilkcaaGreat
namespace Lw
open Go.ChangeShapes Go.WideShapes Go.ChangeAt Go.RowKit Go.ChangeMaps
open Co
theorem ownL:ownKnob Tryz.prog.godebug=none:=by kernel_rfl
theorem laidOutL:laidOutB Tryz.prog=true:=by kernel_rfl
theorem cellsOp:Tryz.prog.cellsOf 49=4:=by kernel_rfl
theorem cellsIntL:Tryz.prog.cellsOf 3=1:=by kernel_rfl
theorem cellsStrL:Tryz.prog.cellsOf 9=1:=by kernel_rfl
section
variable {H:Type} {enc:TypeId×Value→H} {W:World}
theorem fourL {α:Type} (l:List α) (h:l.length=4):∃ a b c d,l=[a,b,c,d]:=by
 match l,h with
 | [a,b,c,d],_=>exact ⟨a,b,c,d,rfl⟩
theorem Zj0 {n:Nat} {cs:List Value} {y:DataW H×List MemPlace} (h:DataW.trod enc Tryz.prog W 0 (fun _=>true) true n 49 cs=some y) :
  ∃ x:Opr,cs=[.int .i64 x.k,.int .i64 x.a,.int .i64 x.b,.string x.s]∧x.s.size≤maxLen:=by
 obtain ⟨xs,m,_,_,hl,hx,hf⟩:=DataW.trod_struct Tryz.underlying49 h;rw [cellsOp] at hl;obtain ⟨c0,c1,c2,c3,rfl⟩:=fourL cs hl;obtain ⟨x0,x1,x2,x3,rfl⟩:=fourL xs hx;have f0:DataW.trod enc Tryz.prog W 0 (fun _=>true) true m 3 [c0]=some x0:=by
  have:=hf 0 _ rfl;simpa [cellsIntL] using this
 have f1:DataW.trod enc Tryz.prog W 0 (fun _=>true) true m 3 [c1]=some x1:=by
  have:=hf 1 _ rfl;simpa [cellsIntL] using this
 have f2:DataW.trod enc Tryz.prog W 0 (fun _=>true) true m 3 [c2]=some x2:=by
  have:=hf 2 _ rfl;simpa [cellsIntL] using this
 have f3:DataW.trod enc Tryz.prog W 0 (fun _=>true) true m 9 [c3]=some x3:=by
  have:=hf 3 _ rfl;simpa [cellsStrL] using this
 obtain ⟨a,e1,_,_⟩:=DataW.trod_int Tryz.underlying3 f0;obtain ⟨b,e2,_,_⟩:=DataW.trod_int Tryz.underlying3 f1;obtain ⟨c,e3,_,_⟩:=DataW.trod_int Tryz.underlying3 f2;obtain ⟨s,e0,_,hs⟩:=DataW.trod_string Tryz.underlying9 f3;simp only [List.cons.injEq,and_true] at e0 e1 e2 e3;subst e0 e1 e2 e3;exact ⟨⟨a,b,c,s⟩,rfl,hs⟩
theorem Zf3 {b0:Nat} {v:Value} {d:DataW H} {p:List MemPlace} (hval:Value.okWide Tryz.prog W .any b0 22 v) (h:DataW.Trod enc Tryz.prog W 0 (fun _=>true) true 22 v d p) :
  ∃ (ao:Option Addr) (n c:Nat) (os:List Opr),v=.slice ao n c∧RowAt W (.slice ao n c) n (flatO os)∧os.length=n∧(n=0∨∃ e sp,d=.slice e sp∧e.length=n)∧∀ x∈os,x.s.size≤maxLen:=by
 obtain ⟨ao,n,c,rfl⟩:=okWide_slice Tryz.underlying22 hval;obtain ⟨fuel,hf⟩:=h;rcases Deep.open_slice Tryz.underlying22 hf with ⟨h1,_⟩ | ⟨a,len,cap,mm,k,D,Pm,h1,_,hl,hm,hmm,hx,hc⟩
 ·have h2:Value.slice ao n c=.slice none 0 0:=by simpa [Value.cells] using h1
  obtain ⟨rfl,rfl,rfl⟩:ao=none∧n=0∧c=0:=by simpa using h2
  exact ⟨none,0,0,[],rfl,Zak _ _ _,rfl,.inl rfl,fun x hx=>by simp at hx⟩
 ·have h2:Value.slice ao n c=.slice (some a) len cap:=by simpa [Value.cells] using h1
  obtain ⟨rfl,rfl,rfl⟩:ao=some a∧n=len∧c=cap:=by simpa using h2
  simp only [if_true] at hmm;subst hmm;rw [cellsOp] at hc;have hex:∀ i,i<n→∃ x:Opr,W.cell? (a.add (i*4))=some (.int .i64 x.k)∧W.cell? ((a.add (i*4)).add 1)=some (.int .i64 x.a)∧W.cell? ((a.add (i*4)).add 2)=some (.int .i64 x.b)∧W.cell? ((a.add (i*4)).add 3)=some (.string x.s)∧x.s.size≤maxLen:=by
   intro i hi;obtain ⟨cs',h1,h2⟩:=hc i (by omega);obtain ⟨x,rfl,hsz⟩:=Zj0 h2;obtain ⟨_,_,h3⟩:=World.cells?_some h1;have g0:=h3 0 (by omega);have g1:=h3 1 (by omega);have g2:=h3 2 (by omega);have g3:=h3 3 (by omega);simp only [List.getElem?_cons_zero,List.getElem?_cons_succ] at g0 g1 g2 g3;refine ⟨x,?_,g1,g2,g3,hsz⟩;simpa [Addr.add] using g0
  have:Inhabited Opr:=⟨⟨0,0,0,⟨#[]⟩⟩⟩;obtain ⟨f,hf⟩:=Deep.choose_lt hex;refine ⟨some a,n,mm,(List.range n).map f,rfl,?_,by simp,.inr ⟨(List.range n).map D,(List.range (mm - n)).map fun j=>D (n+j),?_,by simp⟩,fun x hx=>?_⟩
  ·refine ⟨some a,mm,rfl,hl,?_⟩;by_cases h0:n=0
   ·subst h0;exact .inl (by simp [flatO])
   ·obtain ⟨bl,off,spot⟩:=a;have z0:=(hf 0 (by omega)).1;have hspot:spot=none:=by simpa [Addr.add] using World.cell?_spot z0
    subst hspot;refine .inr ⟨bl,off,rfl,?_,fun j x hx=>?_⟩
    ·have hb:=block_lt_of_cell z0;simpa [Addr.add] using hb
    ·have hj:j<n*4:=by
      have:=(List.getElem?_eq_some_iff.1 hx).1;rw [flatO,Zcx fOp 4 (fun _=>rfl)] at this;simpa using this
     have hi:j / 4<n:=by omega
     have hx2:=Zfc fOp 4 (fun _=>rfl) ((List.range n).map f) (j / 4) (f (j / 4)) (by rw [List.getElem?_map,List.getElem?_range hi];rfl) (j % 4) (by omega);have hje:j / 4*4+j % 4=j:=by omega
     rw [hje] at hx2;have hx3:(fOp (f (j / 4)))[j % 4]?=some x:=hx2.symm.trans hx;obtain ⟨z0,z1,z2,z3,_⟩:=hf (j / 4) hi;simp only [add_plain] at z0 z1 z2 z3;have h4:j % 4=0∨j % 4=1∨j % 4=2∨j % 4=3:=by omega
     rcases h4 with h4 | h4 | h4 | h4 <;> rw [h4] at hx3 <;> simp [fOp] at hx3 <;> subst hx3
     ·have:off+j=off+j / 4*4:=by omega
      rw [this];exact z0
     ·have:off+j=off+j / 4*4+1:=by omega
      rw [this];exact z1
     ·have:off+j=off+j / 4*4+2:=by omega
      rw [this];exact z2
     ·have:off+j=off+j / 4*4+3:=by omega
      rw [this];exact z3
  ·have:=congrArg Prod.fst hx;exact this
  ·obtain ⟨i,hi,rfl⟩:=List.mem_map.1 hx;exact (hf i (List.mem_range.1 hi)).2.2.2.2
theorem Zi4 (l:List (DataW H)):l.length≤Rows.uptoBulkAll l:=by
 induction l with
 | nil=>simp [Rows.uptoBulkAll]
 | cons x r ih =>
  have:1≤Rows.uptoBulk x:=by
   cases x with
   | lit l=>cases l <;> simp [Rows.uptoBulk]
   | nil=>simp [Rows.uptoBulk]
   | ptr d=>simp [Rows.uptoBulk]
   | slice elems spare=>simp [Rows.uptoBulk]
   | agg parts=>simp [Rows.uptoBulk]
   | iface t d=>simp [Rows.uptoBulk]
   | map entries=>simp [Rows.uptoBulk]
   | held h=>simp [Rows.uptoBulk]
  simp only [Rows.uptoBulkAll,List.length_cons];omega
end
theorem Zel (H:Type) (enc:TypeId×Value→H) (W:World) (base:Nat) (args:Array Value) (ds gs:List (DataW H)) (before:List MemPlace)
  (hval:∀ (j:Nat) t v,Tryz.f3.params[j]?=some t→args[j]?=some v→Value.okWide Tryz.prog W .any base t v)
  (hW:DataW.Whole enc Tryz.prog Tryz.f3.params.toList Rows.plansSpec.vars false W args.toList ds gs before) (hk:Rows.uptoSmall H (ds++gs)=true) :
  Calls Tryz.prog 3 args W fun e W'=>∃ v,e=.returned v∧Rows.plansSpec.post enc Tryz.prog Tryz.f3 false true false false W args v W':=by
 have hW':=hW;obtain ⟨p,q,hA0,hV,rfl,hfz,hnd⟩:=hW;have hA:DataW.TrodAll enc Tryz.prog W 0 (fun _=>true) true Tryz.f3.params.toList args.toList ds p:=hA0;rw [Tryz.params3] at hA hval;obtain ⟨v0,vs0,d0,ds0,p0,q0,hargs,rfl,rfl,h0,r0⟩:=trodAll_cons hA;obtain ⟨v1,vs1,d1,ds1,p1,q1,hargs1,rfl,rfl,h1,r1⟩:=trodAll_cons r0;obtain ⟨rfl,rfl,rfl⟩:=trodAll_nil r1;obtain rfl:args=#[v0,v1]:=by cases args;simp_all
 obtain ⟨rfl,rfl⟩:=trodVars_none hV;have hok1:=hval 1 22 v1 rfl rfl;obtain ⟨s,rfl,rfl,rfl,hmax⟩:=open_string Tryz.underlying9 (hval 0 9 v0 rfl rfl) h0;obtain ⟨ao,n,c,os,rfl,hrow,hn,hd,hst⟩:=Zf3 hok1 h1;clear hA0;simp only [List.append_nil] at hW' hk;have hbk:Rows.uptoBulkAll [DataW.lit (H:=H) (.string s.data.toList),d1]≤1048576:=of_decide_eq_true hk;have hn2:n≤1048576:=by
  rcases hd with h | ⟨e,sp,hd,he⟩
  ·omega
  ·rw [hd] at hbk;simp only [Rows.uptoBulkAll,Rows.uptoBulk] at hbk;have:=Zi4 e;omega
 have hlt1:∀ x∈p1,x.block<W.heap.size:=fun x hx=>hW'.lt x (by simp [hx])
 refine (ZhU s os ao n c W hrow hn hmax hst (by omega)).mono fun e W' ⟨he,hb⟩=>?_
 subst he;refine ⟨_,rfl,_,_,_,[],[]++(p1++[]),[],hW',?_,?_,rfl,hb.frame _,fun h=>by cases h⟩
 ·exact trodAll_cons_mk (shut_bool Tryz.underlying4 _) trodAll_mk0
 ·exact trodAll_cons_mk (shut_string Tryz.underlying9 hmax) (trodAll_cons_mk (Below.trod laidOutL (by kernel_rfl) (of_decide_eq_true (by kernel_rfl)) h1 hb hlt1) trodAll_mk0)
theorem Zfq (os:Os) (started:os.Started) (H:Type) (enc:TypeId×Value→H) (F:Stop.Interp) :
  ReturnsInHanded {} Tryz.checked os 3 .any ((Rows.OpenSpec.upto Rows.plansSpec).pre6 enc Tryz.prog Tryz.f3 Rows.plansUptoRow.domain false) (((Rows.OpenSpec.upto Rows.plansSpec).at F).post enc Tryz.prog Tryz.f3 false true false false):=by
 refine returnsInHanded_of_cond (C:=Tryz.checked) (s:=Rows.OpenSpec.upto Rows.plansSpec) (k:=Rows.uptoSmall) rfl ownL started (by kernel_rfl) Tryz.func3
  (OpenSpec.witness (enc:=enc) (C:=Tryz.checked) (s:=Rows.OpenSpec.upto Rows.plansSpec) (k:=Rows.uptoSmall) rfl false ⟨#[],#[.string .empty,.slice none 0 0],[]⟩ 8 (by kernel_rfl) (by kernel_rfl) (by kernel_rfl)
   (x:=([.lit (.string []),.nil],[],[])) (by kernel_rfl) rfl (by kernel_rfl)) ?_
 intro W base args ds gs before hval hW _ hk _;exact Zel H enc W base args ds gs before hval hW hk
end Lw
theorem plans_upto_said:Rows.PlansUptoSaid:=
 OpenClaim.holds_of_cond 3 Tryz.f3 rfl rfl rfl rfl rfl rfl rfl ⟨rfl,rfl,rfl,rfl,rfl⟩ rfl rfl rfl rfl rfl (by kernel_rfl) Tryz.func3 (by kernel_rfl)
  (of_decide_eq_true (by kernel_rfl)) (by unfold Func.isWrapper;first | (rw [if_pos (by decide +kernel)];kernel_rfl) | (rw [if_neg (by decide +kernel)];exact ⟨rfl,rfl⟩))
  (fun os started H enc _ F=>Lw.Zfq os started H enc F)
#print axioms plans_upto_said
end Go.Proofs.YtcpikklofilkcaaGreat
