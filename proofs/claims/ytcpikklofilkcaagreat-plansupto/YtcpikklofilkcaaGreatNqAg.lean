import Derived.Test.YtcpikklofilkcaaGreatNqAf
import Derived.Deep.DeepCutAuto
import Derived.Test.YtcpikklofilkcaaGreatNqAd
import Derived.Deep.RegionHeld3
set_option maxRecDepth 100000
set_option maxHeartbeats 16000000
namespace Go.Proofs.YtcpikklofilkcaaGreat
open Go.RowKit
namespace Df
open Co Lw
theorem ZcH (k ba:Int) (ps:List Pl) (bb:Int) (qs:List Pl) (h1:ps.length≤6) (h2:qs.length≤6):(kindL k ba ps bb qs).length≤7:=by
 unfold kindL;split
 ·unfold missL;rw [List.length_map];exact Nat.le_trans (List.length_filter_le _ _) (by omega)
 ·split
  ·unfold missL;rw [List.length_map];exact Nat.le_trans (List.length_filter_le _ _) (by omega)
  ·split
   ·unfold budL;split <;> simp
   ·unfold chgL;rw [List.length_map];exact Nat.le_trans (List.length_filter_le _ _) (by omega)
theorem ZG (i:Nat) (ba:Int) (ps:List Pl) (bb:Int) (qs:List Pl):diffTo (i+1) ba ps bb qs=diffTo i ba ps bb qs++kindL ((i:Int)+1) ba ps bb qs:=by
 unfold diffTo;rw [List.range_succ,List.flatMap_append];simp
def GaveB (w w':World) (ba:Int) (ps:List Pl) (bb:Int) (qs:List Pl) (e:Ending):Prop:=
 ∃ vo vc,e=.returned (.slice vo (diffL ba ps bb qs).length vc)∧w'.ownsRow w.heap.size 72 3 (.slice vo (diffL ba ps bb qs).length vc) (diffL ba ps bb qs).length (flatT (diffL ba ps bb qs))∧Below w.heap.size w w'
theorem cBetween (ba:Int) (ao:Option Addr) (n ac:Nat) (ps:List Pl) (bb:Int) (bo:Option Addr) (m bc:Nat) (qs:List Pl) (w:World) (hr:RowAt w (.slice ao n ac) n (flatP ps)) (hn:ps.length=n) (hn6:n≤6) (hr2:RowAt w (.slice bo m bc) m (flatP qs)) (hm:qs.length=m) (hm6:m≤6) :
  Calls Tryz.prog 75 #[.agg #[.int .i64 ba,.slice ao n ac],.agg #[.int .i64 bb,.slice bo m bc]] w fun e w'=>GaveB w w' ba ps bb qs e:=by
 obtain ⟨w2,hW⟩:∃ W,W=(w.alloc (bTab ba (.slice ao n ac))).alloc (bTab bb (.slice bo m bc)):=⟨_,rfl⟩;have hbW:Below w.heap.size w w2:=by rw [hW];exact Za (Zb _ _) (Zb _ _)
 have HH2:Hid (w2.heap[w.heap.size]?=some (bTab ba (.slice ao n ac))∧w2.heap[w.heap.size+1]?=some (bTab bb (.slice bo m bc))∧w.heap.size+2≤w2.heap.size):=by
  refine ⟨?_,?_,?_⟩
  ·rw [hW];exact (Zf _ _ (by simp)).trans (Zc _ _ rfl)
  ·rw [hW];exact Zc _ _ (by simp)
  ·rw [hW];simp
 have HW:=hideIt hW;have HB2:=hideIt hbW;have HR:Hid (RowAt w (.slice ao n ac) n (flatP ps)∧ps.length=n∧RowAt w (.slice bo m bc) m (flatP qs)∧qs.length=m∧True):=⟨hr,hn,hr2,hm,trivial⟩;clear hr hn hr2 hm hW hbW;go_enter Tryz.func75,Tryz.ntmps75
 go_upto_region 1 with fail
 rw [←HW.out];go_wp2_with fail
 go_loopw [5,6,7] (fun l kd x wr=>∃ (i j:Nat) (vo:Option Addr) (vc:Nat),i≤8∧j≤7*i∧kd=.int .i64 ((i:Int)+1)∧l=.slice vo j vc∧Hid ((diffTo i ba ps bb qs).length=j∧wr.ownsRow w2.heap.size 72 3 (.slice vo j vc) j (flatT (diffTo i ba ps bb qs))∧Below w2.heap.size w2 wr)) (fun _ kd _ _=>9 - (intOf kd).toNat)
 case atStart=>exact ⟨0,0,some ⟨w2.heap.size,0,none⟩,0,Nat.zero_le _,Nat.le_refl _,rfl,rfl,by simp [diffTo],made0 w2 _ 3 _ rfl _ (Nat.le_refl _),Zb _ _⟩
 case round =>
  obtain ⟨i,j,vo,vc,hi,hj,rfl,rfl,HS⟩:=hrel;have hra:wr.heap[w.heap.size]?=some (bTab ba (.slice ao n ac)):=(HS.out.2.2.block _ (by have:=HH2.out.2.2;omega)).trans HH2.out.1;have hrb:wr.heap[w.heap.size+1]?=some (bTab bb (.slice bo m bc)):=(HS.out.2.2.block _ (by have:=HH2.out.2.2;omega)).trans HH2.out.2.1;obtain ⟨a0,a1,az⟩:=blk2 hra;obtain ⟨b0,b1,bz⟩:=blk2 hrb;clear hra hrb;by_cases hlt:i<8
  ·have hlti:(i:Int)+1≤8:=by omega
   have HBR:=hideIt (Za HB2.out HS.out.2.2);have HC:=hideIt (cStepsOf ((i:Int)+1) ba ao n ac ps bb bo m bc qs wr (HR.out.1.nx HBR.out) HR.out.2.1 (by omega) (HR.out.2.2.1.nx HBR.out) HR.out.2.2.2.1 (by omega));have HN:=hideIt (ZG i ba ps bb qs);have hkl:=ZcH ((i:Int)+1) ba ps bb qs (by rw [HR.out.2.1];exact hn6) (by rw [HR.out.2.2.2.1];exact hm6);go_wp2_with fail
   refine HC.out.mono ?_;rintro e w3 ⟨so,sc,rfl,hrow,hnil,hb3⟩;obtain ⟨q,hq⟩:∃ q,(kindL ((i:Int)+1) ba ps bb qs).length=q:=⟨_,rfl⟩;rw [hq] at hrow hkl ⊢;have HX:Hid ((kindL ((i:Int)+1) ba ps bb qs).length=q∧RowAt w3 (.slice so q sc) q (flatT (kindL ((i:Int)+1) ba ps bb qs))∧(so=none→sc=0)∧w3.ownsRow w2.heap.size 72 3 (.slice vo j vc) j (flatT (diffTo i ba ps bb qs))∧Below w2.heap.size w2 w3):=⟨hq,hrow,hnil,Zk HS.out.2.1 hb3,Za HS.out.2.2 hb3⟩;clear hrow hnil hb3 hq a0 a1 az b0 b1 bz;go_wp2_with (at_builtin;refine appendG 72 34 3 32 _ Z7 Tryz.underlying34 rfl (by decide) (by decide) rfl (.tmp 17) (.tmp 18) rfl w2.heap.size _ j (flatT (diffTo i ba ps bb qs)) rfl HX.out.2.2.2.1 so q sc (flatT (kindL ((i:Int)+1) ba ps bb qs)) rfl (by rw [ZeK,HX.out.1]) HX.out.2.1 (ZeL _) HX.out.2.2.1 (by omega) HX.out.2.2.2.2.size ?next)
   case next =>
    intro v' w6 hown6 hb6;obtain ⟨vo6,vc6,rfl,_⟩:=Zd hown6;have K6:Hid ((diffTo (i+1) ba ps bb qs).length=j+q∧w6.ownsRow w2.heap.size 72 3 (.slice vo6 (j+q) vc6) (j+q) (flatT (diffTo (i+1) ba ps bb qs))∧Below w2.heap.size w2 w6):=by
     refine ⟨by rw [HN.out,List.length_append,HS.out.1,HX.out.1],?_,HX.out.2.2.2.2.trans hb6⟩;rw [HN.out];unfold flatT;rw [List.flatMap_append];exact hown6
    clear hown6 hb6;go_wp2_with fail
    go_roundw
    case rel=>exact ⟨i+1,j+q,vo6,vc6,by omega,by omega,by go_num,rfl,K6.out⟩
    case measure=>simp [intOf];omega
  ·obtain rfl:i=8:=by omega
   go_wp2_with fail
   go_ret
   refine ⟨vo,vc,?_,?_,Za HB2.out HS.out.2.2⟩
   ·show Ending.returned _=Ending.returned (.slice vo (diffTo 8 ba ps bb qs).length vc);rw [HS.out.1];rfl
   ·show wr.ownsRow w.heap.size 72 3 (.slice vo (diffTo 8 ba ps bb qs).length vc) (diffTo 8 ba ps bb qs).length (flatT (diffTo 8 ba ps bb qs));rw [HS.out.1];exact Zi HS.out.2.1 HB2.out.size
end Df
end Go.Proofs.YtcpikklofilkcaaGreat
namespace Go.Proofs.YtcpikklofilkcaaGreat
open Go.RowKit
namespace Lw
open Co
theorem wLeft (gp:Nat) (b:Int) (po:Option Addr) (n1 pc:Nat) (so:Option Addr) (n2 sc:Nat) (wo:Option Addr) (n3 wc:Nat) (op:Int) (yo:Option Addr) (n4 yc:Nat) (bg bk:Bool) (hb:Int) (ho:Option Addr) (n5 hc:Nat) (w:World) (hgp:w.heap[gp]?=some (bDesk b po n1 pc so n2 sc wo n3 wc op ⟨.slice yo n4 yc,bg,bk,hb,.slice ho n5 hc⟩)) :
  Calls Tryz.prog 42 #[.pointer (some ⟨gp,5,none⟩)] w fun e w'=>e=.returned (.int .i64 (n4:Int))∧w'=w:=by
 obtain ⟨g5,g6,g7,g8,g9,gz⟩:=blkWd hgp;clear hgp;go_enter Tryz.func42,Tryz.ntmps42
 go_wp2_with fail
 go_ret
 exact ⟨rfl,rfl⟩
theorem wFirst (gp:Nat) (b:Int) (po:Option Addr) (n1 pc:Nat) (so:Option Addr) (n2 sc:Nat) (wo:Option Addr) (n3 wc:Nat) (op:Int) (yo:Option Addr) (n4 yc:Nat) (bg bk:Bool) (hb:Int) (ho:Option Addr) (n5 hc:Nat) (x0:Int) (x1:ByteArray) (x2:Int) (ts:List Stp) (w:World) (hgp:w.heap[gp]?=some (bDesk b po n1 pc so n2 sc wo n3 wc op ⟨.slice yo n4 yc,bg,bk,hb,.slice ho n5 hc⟩)) (hr:RowAt w (.slice yo n4 yc) n4 (flatT ts)) (hn:ts.length=n4) (hx:ts[0]?=some ⟨x0,x1,x2⟩) :
  Calls Tryz.prog 48 #[.pointer (some ⟨gp,5,none⟩)] w fun e w'=>e=.returned (stA x0 x1 x2)∧Below w.heap.size w w':=by
 have h0:0<n4:=by rw [←hn];exact (List.getElem?_eq_some_iff.1 hx).1
 have hgplt:gp<w.heap.size:=(Array.getElem?_eq_some_iff.1 hgp).1;obtain ⟨W,hW⟩:∃ W,W=w.alloc (bSt 0 ⟨#[]⟩ 0):=⟨_,rfl⟩;have hbW:Below w.heap.size w W:=by rw [hW];exact Zb _ _
 have HW:Hid (W=w.alloc (bSt 0 ⟨#[]⟩ 0)∧W.heap[w.heap.size]?=some (bSt 0 ⟨#[]⟩ 0)∧Below w.heap.size w W):=⟨hW,by rw [hW];exact Zc _ _ rfl,hbW⟩;obtain ⟨g5,g6,g7,g8,g9,gz⟩:=blkWd ((hbW.block gp hgplt).trans hgp);obtain ⟨bl,off,hyo,hbl,c0,c1,c2⟩:=ZbW (hr.nx hbW) hx;subst hyo;simp only [Nat.zero_mul,Nat.add_zero] at c0 c1 c2;obtain ⟨b0,b1,b2,bz⟩:=blk3d HW.out.2.1;have hne:((n4:Int) == 0)=false:=beq_eq_false_iff_ne.2 (by omega);have h0i:(0:Int)<(n4:Int):=by omega
 have h0j:¬(n4:Int)=0:=by omega
 clear hgp hr hn hx hW hbW;go_enter Tryz.func48,Tryz.ntmps48
 go_upto_region 1 with fail
 rw [←HW.out.1];go_wp2_with fail
 refine bodyPost_ret (v:=stA x0 x1 x2) (by simp [results,Tryz.results48,go_sem,b0,b1,b2]) rfl ⟨rfl,?_⟩;have hg:w.heap.size≤w.heap.size:=Nat.le_refl _;exact ((HW.out.2.2.setCell hg _).setCell hg _).setCell hg _
theorem cBehind (so:Option Addr) (n2 sc:Nat) (ts:List Stp) (w:World) (hr:RowAt w (.slice so n2 sc) n2 (flatT ts)) (hn:ts.length=n2) (hq:n2≤1099511627776) (h1:1≤n2) :
  Calls Tryz.prog 80 #[.slice so n2 sc] w fun e w'=>∃ vo vc,e=.returned (.slice vo ts.tail.length vc)∧w'.ownsRow w.heap.size 72 3 (.slice vo ts.tail.length vc) ts.tail.length (flatT ts.tail)∧Below w.heap.size w w':=by
 have HR:Hid (RowAt w (.slice so n2 sc) n2 (flatT ts)∧ts.length=n2):=⟨hr,hn⟩;clear hr hn;go_enter Tryz.func80,Tryz.ntmps80
 go_wp2_with fail
 go_loopw [3,4] (fun l i wr=>∃ (k m:Nat) (vo:Option Addr) (vc:Nat),k≤n2∧1≤k∧m≤k∧i=.int .i64 k∧l=.slice vo m vc∧Hid ((ts.take k).tail.length=m∧wr.ownsRow w.heap.size 72 3 (.slice vo m vc) m (flatT (ts.take k).tail)∧Below w.heap.size w wr)) (fun _ i _=>n2 - (intOf i).toNat)
 case atStart =>
  refine ⟨1,0,some ⟨w.heap.size,0,none⟩,0,h1,Nat.le_refl _,Nat.zero_le _,rfl,rfl,?_,?_,Zb _ _⟩
  ·cases ts <;> rfl
  ·have:(ts.take 1).tail=[]:=by cases ts <;> rfl
   rw [this];exact made0 w _ 3 _ rfl _ (Nat.le_refl _)
 case round =>
  obtain ⟨k,m,vo,vc,hk,hk1,hm,rfl,rfl,HS⟩:=hrel;by_cases hlt:k<n2
  ·obtain ⟨⟨x0,x1,x2⟩,hp⟩:∃ p,ts[k]?=some p:=⟨_,List.getElem?_eq_getElem (by rw [HR.out.2];exact hlt)⟩;obtain ⟨bl,off,hao,hbl,c0,c1,c2⟩:=ZbW (HR.out.1.nx HS.out.2.2) hp;subst hao;simp only at c0 c1 c2;have hlti:(k:Int)<(n2:Int):=by omega
   have HN:Hid ((ts.take (k+1)).tail=(ts.take k).tail++[⟨x0,x1,x2⟩]):=by
    obtain ⟨hk',e⟩:=List.getElem?_eq_some_iff.1 hp;show _=_;rw [←List.drop_one,←List.drop_one,List.take_succ_eq_append_getElem hk',List.drop_append_of_le_length (by rw [List.length_take];omega),e]
   clear hp;go_wp2_with (at_builtin;refine appendG 72 34 3 32 _ ZgN Tryz.underlying34 rfl (by decide) (by decide) rfl (.tmp 12) (.tmp 17) rfl w.heap.size _ m (flatT (ts.take k).tail) rfl (HS.out.2.1.alloc _) (some ⟨wr.heap.size,0,none⟩) 1 1 [.int .i64 x0,.string x1,.int .i64 x2] rfl rfl (ZA wr [.int .i64 x0,.string x1,.int .i64 x2] _ 1 rfl) (by intro u hu;simp at hu;rcases hu with rfl | rfl | rfl <;> rfl) (fun h=>by cases h) (by omega) (by simp;have:=HS.out.2.2.size;omega) ?next)
   case next =>
    intro v' w6 hown6 hb6;obtain ⟨vo6,vc6,rfl,_⟩:=Zd hown6;have K6:Hid ((ts.take (k+1)).tail.length=m+1∧w6.ownsRow w.heap.size 72 3 (.slice vo6 (m+1) vc6) (m+1) (flatT (ts.take (k+1)).tail)∧Below w.heap.size w w6):=by
     refine ⟨by rw [HN.out,List.length_append,HS.out.1];rfl,?_,(HS.out.2.2.alloc HS.out.2.2.size _).trans hb6⟩;rw [HN.out];unfold flatT;rw [List.flatMap_append];exact hown6
    clear hown6 hb6;go_wp2_with fail
    go_roundw
    case rel=>exact ⟨k+1,m+1,vo6,vc6,by omega,by omega,by omega,by go_num,rfl,K6.out⟩
    case measure=>simp [intOf];omega
  ·have HE:Hid (ts.tail.length=m∧wr.ownsRow w.heap.size 72 3 (.slice vo m vc) m (flatT ts.tail)∧Below w.heap.size w wr):=by
    have ht:ts.take k=ts:=List.take_of_length_le (by rw [HR.out.2];omega);have:=HS.out;rw [ht] at this;exact this
   go_wp2_with fail
   go_ret
   refine ⟨vo,vc,?_,?_,HE.out.2.2⟩
   ·rw [HE.out.1];rfl
   ·rw [HE.out.1];exact HE.out.2.1
theorem dTable (gp:Nat) (b:Int) (po:Option Addr) (n1 pc:Nat) (so:Option Addr) (n2 sc:Nat) (wo:Option Addr) (n3 wc:Nat) (op:Int) (yo:Option Addr) (n4 yc:Nat) (bg bk:Bool) (hb:Int) (ho:Option Addr) (n5 hc:Nat) (ps:List Pl) (w:World) (hgp:w.heap[gp]?=some (bDesk b po n1 pc so n2 sc wo n3 wc op ⟨.slice yo n4 yc,bg,bk,hb,.slice ho n5 hc⟩)) (hr:w.ownsRow 0 70 4 (.slice po n1 pc) n1 (flatP ps)) (hn:ps.length=n1) (hq:n1≤1000) :
  Calls Tryz.prog 43 #[.pointer (some ⟨gp,0,none⟩)] w fun e w'=>∃ vo vc,e=.returned (.agg #[.int .i64 b,.slice vo n1 vc])∧w'.ownsRow w.heap.size 70 4 (.slice vo n1 vc) n1 (flatP ps)∧Below w.heap.size w w':=by
 have hgplt:gp<w.heap.size:=(Array.getElem?_eq_some_iff.1 hgp).1;obtain ⟨W,hW⟩:∃ W,W=w.alloc (bTab 0 (.slice none 0 0)):=⟨_,rfl⟩;have hbW:Below w.heap.size w W:=by rw [hW];exact Zb _ _
 have HW:Hid (W=w.alloc (bTab 0 (.slice none 0 0))∧W.heap[w.heap.size]?=some (bTab 0 (.slice none 0 0))∧Below w.heap.size w W):=⟨hW,by rw [hW];exact Zc _ _ rfl,hbW⟩;have HC:=hideIt (Z5 b ps po n1 pc W ((Zd hr).nx hbW) (Zv hr) hn (by omega));obtain ⟨g0,g1,g2,g3,g4,gz⟩:=blk5d ((hbW.block gp hgplt).trans hgp);clear hgp hr hn hW hbW;go_enter Tryz.func43,Tryz.ntmps43
 go_upto_region 1 with fail
 rw [←HW.out.1];go_wp2_with fail
 refine HC.out.mono ?_;rintro e w1 ⟨vo,vc,rfl,hown,hb⟩;have hz1:w1.heap[w.heap.size]?=some (bTab 0 (.slice none 0 0)):=(hb.block _ (Array.getElem?_eq_some_iff.1 HW.out.2.1).1).trans HW.out.2.1;have hsz:w.heap.size<W.heap.size:=(Array.getElem?_eq_some_iff.1 HW.out.2.1).1;have K:Hid (w1.ownsRow W.heap.size 70 4 (.slice vo n1 vc) n1 (flatP ps)∧Below w.heap.size w w1∧w.heap.size<W.heap.size):=⟨hown,Za HW.out.2.2 hb,hsz⟩;obtain ⟨b0,b1,bz⟩:=blk2 hz1;clear hown hb hz1 hsz g0 g1 g2 g3 g4 gz;go_wp2_with fail
 refine bodyPost_ret (v:=.agg #[.int .i64 b,.slice vo n1 vc]) (by simp [results,Tryz.results43,go_sem,b0,b1]) rfl ⟨vo,vc,rfl,?_,?_⟩
 ·exact Zi (ownsRow_setCell_below (ownsRow_setCell_below K.out.1 K.out.2.2 _) K.out.2.2 _) (Nat.le_of_lt K.out.2.2)
 ·have hg:w.heap.size≤w.heap.size:=Nat.le_refl _;exact (K.out.2.1.setCell hg _).setCell hg _
def WayG (L:List Stp) (bk:Bool) (H:Int×List Pl) (w w':World) (e:Ending):Prop:=
 ∃ vo vc ho hc,e=.returned (.agg #[.slice vo L.length vc,.bool false,.bool bk,.int .i64 H.1,.slice ho H.2.length hc])∧w'.ownsRow w.heap.size 72 3 (.slice vo L.length vc) L.length (flatT L)∧w'.ownsRow w.heap.size 70 4 (.slice ho H.2.length hc) H.2.length (flatP H.2)∧Below w.heap.size w w'
abbrev zWay:Obj:=.cells #[.slice none 0 0,.bool false,.bool false,.int .i64 0,.slice none 0 0] 83
theorem Zdf {w:World} {B g:Nat} {e:TypeId} {sz n:Nat} {v:Value} {cs:List Value} (h:w.ownsRow B e sz v n cs) (hg:g<B) (v0 v1 v2 v3 v4:Value):(((((w.setCell ⟨g,0,none⟩ v0).setCell ⟨g,1,none⟩ v1).setCell ⟨g,2,none⟩ v2).setCell ⟨g,3,none⟩ v3).setCell ⟨g,4,none⟩ v4).ownsRow B e sz v n cs:=
 ownsRow_setCell_below (ownsRow_setCell_below (ownsRow_setCell_below (ownsRow_setCell_below (ownsRow_setCell_below h hg _) hg _) hg _) hg _) hg _
theorem Zdh (ba:Int) (ps:List Pl) (bb:Int) (qs:List Pl) (h1:ps.length≤6) (h2:qs.length≤6):(Df.diffL ba ps bb qs).length≤56:=by
 have h:∀ n:Nat,(Df.diffTo n ba ps bb qs).length≤7*n:=by
  intro n;induction n with
  | zero=>simp [Df.diffTo]
  | succ n ih =>
   rw [Df.ZG,List.length_append];have:=Df.ZcH ((n:Int)+1) ba ps bb qs h1 h2;omega
 exact h 8
theorem blk5y {w:World} {g:Nat} {c0 c1 c2 c3 c4:Value} {t:TypeId} (h:w.heap[g]?=some (.cells #[c0,c1,c2,c3,c4] t (0,0))) :
  w.cell? ⟨g,0,none⟩=some c0∧w.cell? ⟨g,1,none⟩=some c1∧w.cell? ⟨g,2,none⟩=some c2∧w.cell? ⟨g,3,none⟩=some c3∧w.cell? ⟨g,4,none⟩=some c4∧∀ a,w.frozen? ⟨g,a,none⟩=false:=by
 refine ⟨?_,?_,?_,?_,?_,fun a=>?_⟩ <;> simp [World.cell?,World.frozen?,h]
def fwdH (L:List Stp) (b:Int) (ps:List Pl):Int×List Pl:=if L.length=0 then (0,[]) else (b,ps)
theorem cForth (ba:Int) (ao:Option Addr) (n ac:Nat) (ps:List Pl) (bb:Int) (bo:Option Addr) (m bc:Nat) (qs:List Pl) (w:World) (hr:RowAt w (.slice ao n ac) n (flatP ps)) (hnil:ao=none→ac=0) (hn:ps.length=n) (hn6:n≤6) (hr2:RowAt w (.slice bo m bc) m (flatP qs)) (hm:qs.length=m) (hm6:m≤6) :
  Calls Tryz.prog 44 #[.agg #[.int .i64 ba,.slice ao n ac],.agg #[.int .i64 bb,.slice bo m bc]] w fun e w'=>WayG (Df.diffL ba ps bb qs) false (fwdH (Df.diffL ba ps bb qs) ba ps) w w' e:=by
 obtain ⟨W,hW⟩:∃ W,W=((w.alloc (bTab ba (.slice ao n ac))).alloc (bTab bb (.slice bo m bc))).alloc zWay:=⟨_,rfl⟩;have hbW:Below w.heap.size w W:=by rw [hW];exact Za (Za (Zb _ _) (Zb _ _)) (Zb _ _)
 have HW:Hid (W=((w.alloc (bTab ba (.slice ao n ac))).alloc (bTab bb (.slice bo m bc))).alloc zWay∧W.heap[w.heap.size]?=some (bTab ba (.slice ao n ac))∧W.heap[w.heap.size+1]?=some (bTab bb (.slice bo m bc))∧W.heap[w.heap.size+2]?=some zWay∧Below w.heap.size w W):=by
  refine ⟨hW,?_,?_,?_,hbW⟩
  ·rw [hW];exact (Zf _ _ (by simp;omega)).trans ((Zf _ _ (by simp)).trans (Zc _ _ rfl))
  ·rw [hW];exact (Zf _ _ (by simp)).trans (Zc _ _ (by simp))
  ·rw [hW];exact Zc _ _ (by simp)
 have hsz:w.heap.size+2<W.heap.size:=(Array.getElem?_eq_some_iff.1 HW.out.2.2.2.1).1;have HB:=hideIt (Df.cBetween ba ao n ac ps bb bo m bc qs W (hr.nx hbW) hn hn6 (hr2.nx hbW) hm hm6);have HCP:=hideIt (fun u (hu:Below W.heap.size W u)=>Z5 ba ps ao n ac u ((hr.nx hbW).nx hu) hnil hn (by omega));have HN:=hideIt hn;obtain ⟨L,hL⟩:∃ L,Df.diffL ba ps bb qs=L:=⟨_,rfl⟩;unfold Df.GaveB at HB;rw [hL] at HB ⊢;obtain ⟨q,hq⟩:∃ q,L.length=q:=⟨_,rfl⟩;rw [hq] at HB;have HQ:=hideIt hq;have hq56:q≤56:=by rw [←hq,←hL];exact Zdh ba ps bb qs (by omega) (by omega)
 obtain ⟨a0,a1,az⟩:=blk2 HW.out.2.1;obtain ⟨b0,b1,bz⟩:=blk2 HW.out.2.2.1;clear hr hnil hn hr2 hm hW hbW hL hq;go_enter Tryz.func44,Tryz.ntmps44
 go_upto_region 1 with fail
 rw [←HW.out.1];go_wp2_with fail
 refine HB.out.mono ?_;rintro e w1 ⟨vo,vc,rfl,hown,hb1⟩;have HB1:=hideIt (And.intro hown hb1);clear hown hb1 a0 a1 az b0 b1 bz;have hz1:w1.heap[w.heap.size+2]?=some zWay:=(HB1.out.2.block _ hsz).trans HW.out.2.2.2.1;have ha1:w1.heap[w.heap.size]?=some (bTab ba (.slice ao n ac)):=(HB1.out.2.block _ (by omega)).trans HW.out.2.1;cases h0:((q:Int) == 0) with
 | true =>
  have hq0:q=0:=by have:=eq_of_beq h0;omega
  obtain ⟨y0,y1,y2,y3,y4,yz⟩:=blk5y hz1;have HF:Hid (fwdH L ba ps=(0,[])):=by show _=_;unfold fwdH;rw [HQ.out,if_pos hq0]
  have HL0:Hid (L=[]):=List.length_eq_zero_iff.1 (by rw [HQ.out];exact hq0);clear ha1 hz1;go_wp2_with fail
  refine bodyPost_ret (v:=.agg #[.slice none 0 0,.bool false,.bool false,.int .i64 0,.slice none 0 0]) (by simp [results,Tryz.results44,go_sem,y0,y1,y2,y3,y4]) rfl ?_;rw [HF.out,HL0.out];refine ⟨none,0,none,0,rfl,World.ownsRow_nil _ _ _ _,World.ownsRow_nil _ _ _ _,?_⟩;have hg:w.heap.size≤w.heap.size+2:=by omega
  exact (((((Za HW.out.2.2.2.2 HB1.out.2).setCell hg _).setCell hg _).setCell hg _).setCell hg _).setCell hg _
 | false =>
  have hq0:¬q=0:=fun h=>by rw [h] at h0;simp at h0
  have HF:Hid (fwdH L ba ps=(ba,ps)):=by show _=_;unfold fwdH;rw [HQ.out,if_neg hq0]
  have HC1:=hideIt (HCP.out w1 HB1.out.2);obtain ⟨a0,a1,az⟩:=blk2 ha1;have hqi:¬(q:Int)=0:=by omega
  clear ha1;go_wp2_with fail
  refine HC1.out.mono ?_;rintro e w2 ⟨ho,hc,rfl,hown2,hb2⟩;have hz2:w2.heap[w.heap.size+2]?=some zWay:=(hb2.block _ (Array.getElem?_eq_some_iff.1 hz1).1).trans hz1;have K2:Hid (w2.ownsRow W.heap.size 72 3 (.slice vo q vc) q (flatT L)∧w2.ownsRow W.heap.size 70 4 (.slice ho n hc) n (flatP ps)∧Below W.heap.size W w2):=⟨Zk HB1.out.1 hb2,Zi hown2 HB1.out.2.size,Za HB1.out.2 hb2⟩;obtain ⟨y0,y1,y2,y3,y4,yz⟩:=blk5y hz2;clear hown2 hb2 hz1 hz2 a0 a1 az;go_wp2_with fail
  refine bodyPost_ret (v:=.agg #[.slice vo q vc,.bool false,.bool false,.int .i64 ba,.slice ho n hc]) (by simp [results,Tryz.results44,go_sem,y0,y1,y2,y3,y4]) rfl ?_;rw [HF.out];refine ⟨vo,vc,ho,hc,by rw [HQ.out,HN.out],?_,?_,?_⟩
  ·rw [HQ.out];exact Zi (Zdf K2.out.1 hsz _ _ _ _ _) (by omega)
  ·show World.ownsRow _ _ _ _ (.slice ho ps.length hc) ps.length (flatP ps);rw [HN.out];exact Zi (Zdf K2.out.2.1 hsz _ _ _ _ _) (by omega)
  ·have hg:w.heap.size≤w.heap.size+2:=by omega
   exact (((((Za HW.out.2.2.2.2 K2.out.2.2).setCell hg _).setCell hg _).setCell hg _).setCell hg _).setCell hg _
def anyS (L:List Stp):Bool:=!decide (L.length=0)
theorem wBack (gp:Nat) (b:Int) (po:Option Addr) (n1 pc:Nat) (so:Option Addr) (n2 sc:Nat) (wo:Option Addr) (n3 wc:Nat) (op:Int) (yo:Option Addr) (n4 yc:Nat) (bg bk:Bool) (hb:Int) (ho:Option Addr) (n5 hc:Nat) (ba:Int) (ao:Option Addr) (n ac:Nat) (ps:List Pl) (hs:List Pl) (w:World) (hgp:w.heap[gp]?=some (bDesk b po n1 pc so n2 sc wo n3 wc op ⟨.slice yo n4 yc,bg,bk,hb,.slice ho n5 hc⟩)) (hr:RowAt w (.slice ao n ac) n (flatP ps)) (hn:ps.length=n) (hn6:n≤6) (hr2:RowAt w (.slice ho n5 hc) n5 (flatP hs)) (hm:hs.length=n5) (hm6:n5≤6) :
  Calls Tryz.prog 54 #[.pointer (some ⟨gp,5,none⟩),.agg #[.int .i64 ba,.slice ao n ac]] w fun e w'=>WayG (Df.diffL ba ps hb hs) (anyS (Df.diffL ba ps hb hs)) (0,[]) w w' e:=by
 have hgplt:gp<w.heap.size:=(Array.getElem?_eq_some_iff.1 hgp).1;obtain ⟨W,hW⟩:∃ W,W=(w.alloc (bTab ba (.slice ao n ac))).alloc zWay:=⟨_,rfl⟩;have hbW:Below w.heap.size w W:=by rw [hW];exact Za (Zb _ _) (Zb _ _)
 have HW:Hid (W=(w.alloc (bTab ba (.slice ao n ac))).alloc zWay∧W.heap[w.heap.size]?=some (bTab ba (.slice ao n ac))∧W.heap[w.heap.size+1]?=some zWay∧Below w.heap.size w W):=by
  refine ⟨hW,?_,?_,hbW⟩
  ·rw [hW];exact (Zf _ _ (by simp)).trans (Zc _ _ rfl)
  ·rw [hW];exact Zc _ _ (by simp)
 have hsz:w.heap.size+1<W.heap.size:=(Array.getElem?_eq_some_iff.1 HW.out.2.2.1).1;have HB:=hideIt (fun u (hu:Below W.heap.size W u)=>Df.cBetween ba ao n ac ps hb ho n5 hc hs u ((hr.nx hbW).nx hu) hn hn6 ((hr2.nx hbW).nx hu) hm hm6);obtain ⟨L,hL⟩:∃ L,Df.diffL ba ps hb hs=L:=⟨_,rfl⟩;unfold Df.GaveB at HB;rw [hL] at HB ⊢;obtain ⟨q,hq⟩:∃ q,L.length=q:=⟨_,rfl⟩;rw [hq] at HB;have HQ:=hideIt hq;obtain ⟨a0,a1,az⟩:=blk2 HW.out.2.1;obtain ⟨g5,g6,g7,g8,g9,gz⟩:=blkWd ((hbW.block gp hgplt).trans hgp);have hgW:gp<W.heap.size:=Nat.lt_of_lt_of_le hgplt hbW.size;have hw0:w.heap.size<W.heap.size:=by omega
 clear hgp hr hn hr2 hm hW hbW hL hq;go_enter Tryz.func54,Tryz.ntmps54
 go_upto_region 1 with fail
 rw [←HW.out.1];go_cut [5] (fun v wx=>∃ vo vc wy,v=.slice vo q vc∧Hid (wy.ownsRow W.heap.size 72 3 (.slice vo q vc) q (flatT L)∧Below W.heap.size W wy)∧wy=wx)
 case first =>
  go_region_held3 (fun w'=>w'.cell? ⟨w.heap.size,0,none⟩=some (.int .i64 ba)∧w'.cell? ⟨w.heap.size,1,none⟩=some (.slice ao n ac)∧w'.cell? ⟨gp,8,none⟩=some (.int .i64 hb)∧w'.cell? ⟨gp,9,none⟩=some (.slice ho n5 hc)) (go_keep)
   ((go_at_call 75;refine (HB.out _ ((Below.refl _ _).drew)).mono ?_;rintro e w1 ⟨vo,vc,rfl,hown,hb1⟩;have HB1:Hid (w1.ownsRow W.heap.size 72 3 (.slice vo q vc) q (flatT L)∧Below W.heap.size W w1):=⟨hown,Za (Below.refl _ _).drew hb1⟩;have q1:=(HB1.out.2.cell (p:=⟨w.heap.size,0,none⟩) hw0).trans a0;have q2:=(HB1.out.2.cell (p:=⟨w.heap.size,1,none⟩) hw0).trans a1;have q3:=(HB1.out.2.cell (p:=⟨gp,8,none⟩) hgW).trans g8;have q4:=(HB1.out.2.cell (p:=⟨gp,9,none⟩) hgW).trans g9;clear hown hb1))
  all_goals
   go_wp2_with fail
   go_meet
   exact ⟨vo,vc,_,rfl,HB1.out,rfl⟩
 case rest =>
  obtain ⟨vo,vc,wy,rfl,HB1,rfl⟩:=hcut;clear a0 a1 az g5 g6 g7 g8 g9 gz;have hz1:wy.heap[w.heap.size+1]?=some zWay:=(HB1.out.2.block _ hsz).trans HW.out.2.2.1;obtain ⟨y0,y1,y2,y3,y4,yz⟩:=blk5y hz1;clear hz1;cases h0:((q:Int) == 0) with
  | true =>
   have hq0:q=0:=by have:=eq_of_beq h0;omega
   have HL0:Hid (L=[]):=List.length_eq_zero_iff.1 (by rw [HQ.out];exact hq0);go_wp2_with fail
   refine bodyPost_ret (v:=.agg #[.slice none 0 0,.bool false,.bool false,.int .i64 0,.slice none 0 0]) (by simp [results,Tryz.results54,go_sem,y0,y1,y2,y3,y4]) rfl ?_;rw [HL0.out];refine ⟨none,0,none,0,rfl,World.ownsRow_nil _ _ _ _,World.ownsRow_nil _ _ _ _,?_⟩;have hg:w.heap.size≤w.heap.size+1:=by omega
   exact (((((Za HW.out.2.2.2 HB1.out.2).setCell hg _).setCell hg _).setCell hg _).setCell hg _).setCell hg _
  | false =>
   have hq0:¬q=0:=fun h=>by rw [h] at h0;simp at h0
   have hqi:¬(q:Int)=0:=by omega
   have HA:Hid (anyS L=true):=by show _=_;unfold anyS;rw [HQ.out];simp [hq0]
   go_wp2_with fail
   refine bodyPost_ret (v:=.agg #[.slice vo q vc,.bool false,.bool true,.int .i64 0,.slice none 0 0]) (by simp [results,Tryz.results54,go_sem,y0,y1,y2,y3,y4]) rfl ?_;rw [HA.out];refine ⟨vo,vc,none,0,by rw [HQ.out];rfl,?_,World.ownsRow_nil _ _ _ _,?_⟩
   ·rw [HQ.out];exact Zi (Zdf HB1.out.1 hsz _ _ _ _ _) (by omega)
   ·have hg:w.heap.size≤w.heap.size+1:=by omega
    exact (((((Za HW.out.2.2.2 HB1.out.2).setCell hg _).setCell hg _).setCell hg _).setCell hg _).setCell hg _
theorem Zbv {w w':World} {gp:Nat} {S:Sta} {X:Aux} {F:Nat→Prop} {po:Option Addr} {pc:Nat} {so:Option Addr} {sc:Nat} {wo:Option Addr} {wc:Nat} {yo:Option Addr} {yc:Nat} {ho:Option Addr} {hc:Nat} (h:DeskX w gp S X F po pc so sc wo wc yo yc ho hc) (hg:F gp) (hlt:∀ x,F x→x<w.heap.size) (T:List Stp) (bg bk:Bool) (hb:Int) (hs:List Pl) (yo':Option Addr) (yc':Nat) (ho':Option Addr) (hc':Nat)
  (hbox:w'.heap[gp]?=some (bDesk S.bud po S.pools.length pc so S.srv.length sc wo S.wts.length wc X.op ⟨.slice yo' T.length yc',bg,bk,hb,.slice ho' hs.length hc'⟩))
  (hy:Held w' (Nxt F w w') 72 3 (.slice yo' T.length yc') T.length (flatT T)) (hh:Held w' (Nxt F w w') 70 4 (.slice ho' hs.length hc') hs.length (flatP hs))
  (hch:Chg (fun y=>y=gp) w w'):Moved w w' gp {S with plan:=T,begun:=bg,back:=bk} {X with hb:=hb,hps:=hs} F:=by
 have hsz:∀ g,F g→Nxt F w w' g:=fun g hg=>⟨.inl hg,Nat.lt_of_lt_of_le (hlt g hg) hch.size⟩
 have hk:∀ {ty:TypeId} {sz n:Nat} {v:Value} {cs:List Value},Held w F ty sz v n cs→ty≠85→Held w' (Nxt F w w') ty sz v n cs:=by
  intro ty sz n v cs hh h2;refine ⟨Zj hh.own (fun j hj=>hch.block j (hlt j (hh.blk j hj)) ?_),fun g hg=>hsz g (hh.blk g hg)⟩;intro e;exact ZaG hh.own h.box h2 (by rw [←show j=gp from e];exact hj)
 exact ⟨Nxt F w w',⟨⟨po,pc,so,sc,wo,wc,yo',yc',ho',hc',hbox,hk h.p (by decide),hk h.s (by decide),hk h.t (by decide),hy,hh⟩,hsz gp hg,fun x hx=>hx.2⟩,fun y hy=>hy.1,hch.mono (fun y hy=>by rw [show y=gp from hy];exact hg)⟩
theorem Zbx {w w':World} {gp:Nat} {S:Sta} {X:Aux} {F:Nat→Prop} {po:Option Addr} {pc:Nat} {so:Option Addr} {sc:Nat} {wo:Option Addr} {wc:Nat} {yo:Option Addr} {yc:Nat} {ho:Option Addr} {hc:Nat} (h:DeskX w gp S X F po pc so sc wo wc yo yc ho hc) (hlt:∀ x,F x→x<w.heap.size) (hch:Chg (fun y=>y=gp) w w') {ty:TypeId} {sz n:Nat} {v:Value} {cs:List Value} (hh:Held w F ty sz v n cs) (h2:ty≠85):Held w' (Nxt F w w') ty sz v n cs:=by
 refine ⟨Zj hh.own (fun j hj=>hch.block j (hlt j (hh.blk j hj)) ?_),fun g hg=>⟨.inl (hh.blk g hg),Nat.lt_of_lt_of_le (hlt g (hh.blk g hg)) hch.size⟩⟩;intro e;exact ZaG hh.own h.box h2 (by rw [←show j=gp from e];exact hj)
theorem Zb1 {w w1 w':World} {gp:Nat} {F:Nat→Prop} (hlt:gp<w.heap.size) (hch:Chg (fun y=>y=gp) w1 w') {ty:TypeId} {sz n:Nat} {v:Value} {cs:List Value} (hown:w1.ownsRow w.heap.size ty sz v n cs):Held w' (Nxt F w w') ty sz v n cs:=by
 refine ⟨Zi (Zj hown (fun j hj=>hch.block j (hown.lt j hj).2 (fun e=>by have:=(hown.lt j hj).1;have e':j=gp:=e;omega))) (Nat.zero_le _),fun g hg=>⟨.inr (hown.lt g hg).1,Nat.lt_of_lt_of_le (hown.lt g hg).2 hch.size⟩⟩
structure Rsq where
 S:Sta
 nx:Int
 Y:Int×List Pl
 n:Int
 e:Int
 l:Int
def rEnd (S:Sta) (d:Bool):Sta:=if d=true then {S with plan:=S.plan.tail,begun:=false,back:=S.back&&!decide (S.plan.tail.length=0)} else S
def rTurnS (s:Stp) (S:Sta) (nx:Int):Sta×Int:=
 let R:={(if S.begun=true then S else rBegin s.kind s.name s.n S) with begun:=true}
 rServed R.wts.length R nx
def rTurn (S:Sta) (nx:Int) (Y:Int×List Pl):Rsq:=match S.plan with
 | []=>⟨S,nx,Y,0,14,0⟩
 | s :: _ =>
  let T:=rTurnS s S nx
  let q:=rEnd T.1 (cEnded s.kind s.name s.n T.1)
  ⟨q,T.2,Y,q.plan.length,0,0⟩
def rReload (S:Sta) (nx:Int) (Y:Int×List Pl) (a:Ans):Rsq:=
 if ¬S.plan.length=0 then ⟨S,nx,Y,0,16,0⟩
 else if ¬a.err=0 then ⟨S,nx,Y,0,a.err,a.at'⟩
 else ⟨{S with plan:=Df.diffL S.bud S.pools a.tab.1 a.tab.2,begun:=false,back:=false},nx,(S.bud,S.pools),(Df.diffL S.bud S.pools a.tab.1 a.tab.2).length,0,0⟩
def rAbort (S:Sta) (nx:Int) (Y:Int×List Pl):Rsq:=
 if S.plan.length=0 then ⟨S,nx,Y,0,14,0⟩
 else if S.back=true then ⟨S,nx,Y,0,17,0⟩
 else ⟨{S with plan:=Df.diffL S.bud S.pools Y.1 Y.2,begun:=false,back:=anyS (Df.diffL S.bud S.pools Y.1 Y.2)},nx,Y,(Df.diffL S.bud S.pools Y.1 Y.2).length,0,0⟩
end Lw
end Go.Proofs.YtcpikklofilkcaaGreat
