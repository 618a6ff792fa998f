import Derived.Test.YtcpikklofilkcaaGreatNqAk
import Derived.Deep.DeepCutAuto
import Derived.Deep.RegionHeld3
set_option maxRecDepth 100000
set_option maxHeartbeats 16000000
namespace Go.Proofs.YtcpikklofilkcaaGreat
open Go.RowKit
namespace Df
open Co Lw
theorem rWant3 (ba:Int) (ao:Option Addr) (n ac:Nat) (ps:List Pl) (bb:Int) (bo:Option Addr) (m bc:Nat) (qs:List Pl) (w:World) (hr:RowAt w (.slice ao n ac) n (flatP ps)) (hn:ps.length=n) (hn2:n≤6) (hr2:RowAt w (.slice bo m bc) m (flatP qs)) (hm:qs.length=m) (hm2:m≤6) (hpos:∀ p∈qs,0≤p.sz) :
  Calls Tryz.prog 76 #[.agg #[.int .i64 ba,.slice ao n ac],.agg #[.int .i64 bb,.slice bo m bc],.int .i64 3] w fun e w'=>GaveS w w' (kindL 3 ba ps bb qs) e:=by
 obtain ⟨W,hW⟩:∃ W,W=(w.alloc (bTab ba (.slice ao n ac))).alloc (bTab bb (.slice bo m bc)):=⟨_,rfl⟩;have hbW:Below w.heap.size w W:=by rw [hW];exact Za (Zb _ _) (Zb _ _)
 have HW:Hid (W=(w.alloc (bTab ba (.slice ao n ac))).alloc (bTab bb (.slice bo m bc))∧W.heap[w.heap.size]?=some (bTab ba (.slice ao n ac))∧W.heap[w.heap.size+1]?=some (bTab bb (.slice bo m bc))∧w.heap.size+2=W.heap.size∧Below w.heap.size w W):=by
  refine ⟨hW,?_,?_,?_,hbW⟩
  ·rw [hW];exact (Zf _ _ (by simp)).trans (Zc _ _ rfl)
  ·rw [hW];exact Zc _ _ (by simp)
  ·rw [hW];simp
 have HF:=hideIt (fun u (hb:Below W.heap.size W u) name=>rWas ba ao n ac name ps u ((hr.nx hbW).nx hb) hn (by unfold maxLen;omega));have HG:=hideIt (fun u (hb:Below W.heap.size W u) name=>rWas bb bo m bc name qs u ((hr2.nx hbW).nx hb) hm (by unfold maxLen;omega));have HA:Hid (RowAt W (.slice ao n ac) n (flatP ps)∧ps.length=n):=⟨hr.nx hbW,hn⟩;have HR:Hid (RowAt W (.slice bo m bc) m (flatP qs)∧qs.length=m∧∀ p∈qs,0≤p.sz):=⟨hr2.nx hbW,hm,hpos⟩;clear hr hn hr2 hm hpos hW hbW;go_enter Tryz.func76,Tryz.ntmps76
 by_cases hc:bb<ba
 ·have HL:Hid (budL 3 ba bb=[⟨3,⟨#[]⟩,bb⟩]):=by show _=_;rw [budL,if_pos (by simp [leadsB];exact hc)]
  go_wp2_with (at_builtin;refine appendG 72 34 3 32 _ Z7 Tryz.underlying34 rfl (by decide) (by decide) rfl (.tmp 36) (.tmp 41) rfl (w.heap.size+2) _ 0 [] rfl (World.ownsRow_nil _ _ _ _) (some ⟨w.heap.size+1+1,0,none⟩) 1 1 [.int .i64 3,.string ⟨#[]⟩,.int .i64 bb] rfl rfl (ZA _ [.int .i64 3,.string ⟨#[]⟩,.int .i64 bb] _ 1 (by simp)) (by intro u hu;simp at hu;rcases hu with rfl | rfl | rfl <;> rfl) (fun h=>by cases h) (by omega) (by simp;try omega) ?next)
  case next =>
   intro v' U hown6 hb6;obtain ⟨vo,vc,rfl,_⟩:=Zd hown6;rw [←HW.out.1] at hb6;have hBU:Below W.heap.size W U:=(Zb W _).trans (by rw [HW.out.2.2.2.1] at hb6;exact hb6);obtain ⟨j,hj⟩:∃ j,1=j:=⟨_,rfl⟩;have HO:Hid ((budL 3 ba bb).length=j∧U.ownsRow (w.heap.size+2) 72 3 (.slice vo j vc) j (flatT (budL 3 ba bb))):=by
    rw [HL.out,←hj];exact ⟨rfl,hown6⟩
   have HU:Hid (U.heap[w.heap.size]?=some (bTab ba (.slice ao n ac))∧U.heap[w.heap.size+1]?=some (bTab bb (.slice bo m bc))∧w.heap.size+2≤U.heap.size∧Below W.heap.size W U):=by
    have z:=HW.out.2.2.2.1;exact ⟨(hBU.block _ (by omega)).trans HW.out.2.1,(hBU.block _ (by omega)).trans HW.out.2.2.1,by have:=hBU.size;omega,hBU⟩
   clear hown6 hb6 hBU;have HJ:=hideIt hj;clear hj;go_wp2_with fail
   go_loopw [7,11] (fun l i wr=>∃ (k:Nat),k≤m∧i=.int .i64 k∧l=.slice vo j vc∧Hid (Below U.heap.size U wr)) (fun _ i _=>m - (intOf i).toNat)
   case atStart=>exact ⟨0,Nat.zero_le _,rfl,by rw [←HJ.out],Below.refl _ _⟩
   case round =>
     obtain ⟨k,hk,rfl,rfl,HS⟩:=hrel;have hra:wr.heap[w.heap.size]?=some (bTab ba (.slice ao n ac)):=(HS.out.block _ (by have:=HU.out.2.2.1;omega)).trans HU.out.1;have hrb:wr.heap[w.heap.size+1]?=some (bTab bb (.slice bo m bc)):=(HS.out.block _ (by have:=HU.out.2.2.1;omega)).trans HU.out.2.1;have HBU:Hid (Below W.heap.size W wr):=Za HU.out.2.2.2 HS.out;obtain ⟨b0,b1,bz⟩:=blk2 hrb;have hzr:w.heap.size+1<wr.heap.size:=(Array.getElem?_eq_some_iff.1 hrb).1;by_cases hlt:k<m
     ·obtain ⟨⟨x0,x1,x2,x3⟩,hp⟩:∃ p,qs[k]?=some p:=⟨_,List.getElem?_eq_getElem (by rw [HR.out.2.1];exact hlt)⟩;have hx1:0≤x1:=HR.out.2.2 _ (List.mem_of_getElem? hp);obtain ⟨bl,off,hao,hbl,c0,c1,c2,c3⟩:=Zn (HR.out.1.nx HBU.out) hp;subst hao;simp only at c0 c1 c2 c3;have hlti:(k:Int)<(m:Int):=by omega
      obtain ⟨⟨y0,y1,y2,y3⟩,hy⟩:∃ y,inP ps x0=y:=⟨_,rfl⟩;obtain ⟨inb,hin⟩:∃ inb,ps.any (isNameP x0)=inb:=⟨_,rfl⟩;clear hp;obtain ⟨W1,hW1⟩:∃ W1,W1=wr.alloc (bPl ⟨x0,x1,x2,x3⟩):=⟨_,rfl⟩;have H1:Hid (W1=wr.alloc (bPl ⟨x0,x1,x2,x3⟩)∧Below wr.heap.size wr W1∧W1.heap[wr.heap.size]?=some (bPl ⟨x0,x1,x2,x3⟩)):=⟨hW1,by rw [hW1];exact Zb _ _,by rw [hW1];exact Zc _ _ rfl⟩;have HF1:=hideIt (HF.out W1 (Za HBU.out H1.out.2.1) x0);rw [hy,hin] at HF1;have a1:∀ o,(wr.alloc o).heap[w.heap.size]?=some (bTab ba (.slice ao n ac)):=fun o=>(Zf _ _ (by omega)).trans hra
      have a2:=fun o=>(blk2 (a1 o)).1
      have a3:=fun o=>(blk2 (a1 o)).2.1
      clear hW1 hy hin hra hrb a1;go_wp2_with fail
      rw [←H1.out.1];refine HF1.out.mono ?_;rintro e w2 ⟨rfl,hb2⟩;have hz1:wr.heap.size<W1.heap.size:=(Array.getElem?_eq_some_iff.1 H1.out.2.2).1;obtain ⟨d0,d1,d2,d3,dz⟩:=blk4 hb2 hz1 H1.out.2.2;have hz2:wr.heap.size<w2.heap.size:=Nat.lt_of_lt_of_le hz1 hb2.size;have HB2:Hid (Below wr.heap.size wr w2):=Za H1.out.2.1 hb2;have HSW:Hid (Below U.heap.size U w2):=Za HS.out HB2.out;clear hb2 a2 a3 c0 c1 c2 c3 b0 b1 bz;go_wp2_with fail
      go_roundw
      case rel=>exact ⟨k+1,by omega,by go_num,rfl,Za HSW.out (Za (Zb _ _) (Zb _ _))⟩
      case measure=>simp [intOf];omega
     ·clear hra hrb;go_wp2_with fail
      go_ret
      refine ⟨vo,vc,?_,?_,Zv HO.out.2,Za HW.out.2.2.2.2 HBU.out⟩
      ·show Ending.returned _=Ending.returned (.slice vo (budL 3 ba bb).length vc);rw [HO.out.1];rfl
      ·show RowAt wr (.slice vo (budL 3 ba bb).length vc) (budL 3 ba bb).length (flatT (budL 3 ba bb));rw [HO.out.1];exact Zd (Zk HO.out.2 HS.out)
 ·have HL:Hid (budL 3 ba bb=[]):=by show _=_;rw [budL,if_neg (by simp [leadsB];omega)]
  obtain ⟨U,hU⟩:∃ U,W=U:=⟨_,rfl⟩;obtain ⟨vo,hvo⟩:∃ vo:Option Addr,none=vo:=⟨_,rfl⟩;obtain ⟨j,hj⟩:∃ j:Nat,0=j:=⟨_,rfl⟩;obtain ⟨vc,hvc⟩:∃ j:Nat,0=j:=⟨_,rfl⟩;have HO:Hid ((budL 3 ba bb).length=j∧U.ownsRow (w.heap.size+2) 72 3 (.slice vo j vc) j (flatT (budL 3 ba bb))):=by
   rw [HL.out,←hj,←hvo,←hvc];exact ⟨rfl,World.ownsRow_nil _ _ _ _⟩
  have HU:Hid (U.heap[w.heap.size]?=some (bTab ba (.slice ao n ac))∧U.heap[w.heap.size+1]?=some (bTab bb (.slice bo m bc))∧w.heap.size+2≤U.heap.size∧Below W.heap.size W U):=by
   rw [←hU];exact ⟨HW.out.2.1,HW.out.2.2.1,Nat.le_of_eq HW.out.2.2.2.1,Below.refl _ _⟩
  have HUU:=hideIt (And.intro hU (And.intro hvo (And.intro hj hvc)));clear hU hvo hj hvc;go_wp2_with fail
  rw [←HW.out.1,HUU.out.1];go_loopw [7,11] (fun l i wr=>∃ (k:Nat),k≤m∧i=.int .i64 k∧l=.slice vo j vc∧Hid (Below U.heap.size U wr)) (fun _ i _=>m - (intOf i).toNat)
  case atStart=>exact ⟨0,Nat.zero_le _,rfl,by rw [←HUU.out.2.1,←HUU.out.2.2.1,←HUU.out.2.2.2],Below.refl _ _⟩
  case round =>
    obtain ⟨k,hk,rfl,rfl,HS⟩:=hrel;have hra:wr.heap[w.heap.size]?=some (bTab ba (.slice ao n ac)):=(HS.out.block _ (by have:=HU.out.2.2.1;omega)).trans HU.out.1;have hrb:wr.heap[w.heap.size+1]?=some (bTab bb (.slice bo m bc)):=(HS.out.block _ (by have:=HU.out.2.2.1;omega)).trans HU.out.2.1;have HBU:Hid (Below W.heap.size W wr):=Za HU.out.2.2.2 HS.out;obtain ⟨b0,b1,bz⟩:=blk2 hrb;have hzr:w.heap.size+1<wr.heap.size:=(Array.getElem?_eq_some_iff.1 hrb).1;by_cases hlt:k<m
    ·obtain ⟨⟨x0,x1,x2,x3⟩,hp⟩:∃ p,qs[k]?=some p:=⟨_,List.getElem?_eq_getElem (by rw [HR.out.2.1];exact hlt)⟩;have hx1:0≤x1:=HR.out.2.2 _ (List.mem_of_getElem? hp);obtain ⟨bl,off,hao,hbl,c0,c1,c2,c3⟩:=Zn (HR.out.1.nx HBU.out) hp;subst hao;simp only at c0 c1 c2 c3;have hlti:(k:Int)<(m:Int):=by omega
     obtain ⟨⟨y0,y1,y2,y3⟩,hy⟩:∃ y,inP ps x0=y:=⟨_,rfl⟩;obtain ⟨inb,hin⟩:∃ inb,ps.any (isNameP x0)=inb:=⟨_,rfl⟩;clear hp;obtain ⟨W1,hW1⟩:∃ W1,W1=wr.alloc (bPl ⟨x0,x1,x2,x3⟩):=⟨_,rfl⟩;have H1:Hid (W1=wr.alloc (bPl ⟨x0,x1,x2,x3⟩)∧Below wr.heap.size wr W1∧W1.heap[wr.heap.size]?=some (bPl ⟨x0,x1,x2,x3⟩)):=⟨hW1,by rw [hW1];exact Zb _ _,by rw [hW1];exact Zc _ _ rfl⟩;have HF1:=hideIt (HF.out W1 (Za HBU.out H1.out.2.1) x0);rw [hy,hin] at HF1;have a1:∀ o,(wr.alloc o).heap[w.heap.size]?=some (bTab ba (.slice ao n ac)):=fun o=>(Zf _ _ (by omega)).trans hra
     have a2:=fun o=>(blk2 (a1 o)).1
     have a3:=fun o=>(blk2 (a1 o)).2.1
     clear hW1 hy hin hra hrb a1;go_wp2_with fail
     rw [←H1.out.1];refine HF1.out.mono ?_;rintro e w2 ⟨rfl,hb2⟩;have hz1:wr.heap.size<W1.heap.size:=(Array.getElem?_eq_some_iff.1 H1.out.2.2).1;obtain ⟨d0,d1,d2,d3,dz⟩:=blk4 hb2 hz1 H1.out.2.2;have hz2:wr.heap.size<w2.heap.size:=Nat.lt_of_lt_of_le hz1 hb2.size;have HB2:Hid (Below wr.heap.size wr w2):=Za H1.out.2.1 hb2;have HSW:Hid (Below U.heap.size U w2):=Za HS.out HB2.out;clear hb2 a2 a3 c0 c1 c2 c3 b0 b1 bz;go_wp2_with fail
     go_roundw
     case rel=>exact ⟨k+1,by omega,by go_num,rfl,Za HSW.out (Za (Zb _ _) (Zb _ _))⟩
     case measure=>simp [intOf];omega
    ·clear hra hrb;go_wp2_with fail
     go_ret
     refine ⟨vo,vc,?_,?_,Zv HO.out.2,Za HW.out.2.2.2.2 HBU.out⟩
     ·show Ending.returned _=Ending.returned (.slice vo (budL 3 ba bb).length vc);rw [HO.out.1];rfl
     ·show RowAt wr (.slice vo (budL 3 ba bb).length vc) (budL 3 ba bb).length (flatT (budL 3 ba bb));rw [HO.out.1];exact Zd (Zk HO.out.2 HS.out)
theorem rWant7 (ba:Int) (ao:Option Addr) (n ac:Nat) (ps:List Pl) (bb:Int) (bo:Option Addr) (m bc:Nat) (qs:List Pl) (w:World) (hr:RowAt w (.slice ao n ac) n (flatP ps)) (hn:ps.length=n) (hn2:n≤6) (hr2:RowAt w (.slice bo m bc) m (flatP qs)) (hm:qs.length=m) (hm2:m≤6) (hpos:∀ p∈qs,0≤p.sz) :
  Calls Tryz.prog 76 #[.agg #[.int .i64 ba,.slice ao n ac],.agg #[.int .i64 bb,.slice bo m bc],.int .i64 7] w fun e w'=>GaveS w w' (kindL 7 ba ps bb qs) e:=by
 obtain ⟨W,hW⟩:∃ W,W=(w.alloc (bTab ba (.slice ao n ac))).alloc (bTab bb (.slice bo m bc)):=⟨_,rfl⟩;have hbW:Below w.heap.size w W:=by rw [hW];exact Za (Zb _ _) (Zb _ _)
 have HW:Hid (W=(w.alloc (bTab ba (.slice ao n ac))).alloc (bTab bb (.slice bo m bc))∧W.heap[w.heap.size]?=some (bTab ba (.slice ao n ac))∧W.heap[w.heap.size+1]?=some (bTab bb (.slice bo m bc))∧w.heap.size+2=W.heap.size∧Below w.heap.size w W):=by
  refine ⟨hW,?_,?_,?_,hbW⟩
  ·rw [hW];exact (Zf _ _ (by simp)).trans (Zc _ _ rfl)
  ·rw [hW];exact Zc _ _ (by simp)
  ·rw [hW];simp
 have HF:=hideIt (fun u (hb:Below W.heap.size W u) name=>rWas ba ao n ac name ps u ((hr.nx hbW).nx hb) hn (by unfold maxLen;omega));have HG:=hideIt (fun u (hb:Below W.heap.size W u) name=>rWas bb bo m bc name qs u ((hr2.nx hbW).nx hb) hm (by unfold maxLen;omega));have HA:Hid (RowAt W (.slice ao n ac) n (flatP ps)∧ps.length=n):=⟨hr.nx hbW,hn⟩;have HR:Hid (RowAt W (.slice bo m bc) m (flatP qs)∧qs.length=m∧∀ p∈qs,0≤p.sz):=⟨hr2.nx hbW,hm,hpos⟩;clear hr hn hr2 hm hpos hW hbW;go_enter Tryz.func76,Tryz.ntmps76
 by_cases hc:ba<bb
 ·have HL:Hid (budL 7 ba bb=[⟨7,⟨#[]⟩,bb⟩]):=by show _=_;rw [budL,if_pos (by simp [leadsB];exact hc)]
  go_wp2_with (at_builtin;refine appendG 72 34 3 32 _ Z7 Tryz.underlying34 rfl (by decide) (by decide) rfl (.tmp 36) (.tmp 41) rfl (w.heap.size+2) _ 0 [] rfl (World.ownsRow_nil _ _ _ _) (some ⟨w.heap.size+1+1,0,none⟩) 1 1 [.int .i64 7,.string ⟨#[]⟩,.int .i64 bb] rfl rfl (ZA _ [.int .i64 7,.string ⟨#[]⟩,.int .i64 bb] _ 1 (by simp)) (by intro u hu;simp at hu;rcases hu with rfl | rfl | rfl <;> rfl) (fun h=>by cases h) (by omega) (by simp;try omega) ?next)
  case next =>
   intro v' U hown6 hb6;obtain ⟨vo,vc,rfl,_⟩:=Zd hown6;rw [←HW.out.1] at hb6;have hBU:Below W.heap.size W U:=(Zb W _).trans (by rw [HW.out.2.2.2.1] at hb6;exact hb6);obtain ⟨j,hj⟩:∃ j,1=j:=⟨_,rfl⟩;have HO:Hid ((budL 7 ba bb).length=j∧U.ownsRow (w.heap.size+2) 72 3 (.slice vo j vc) j (flatT (budL 7 ba bb))):=by
    rw [HL.out,←hj];exact ⟨rfl,hown6⟩
   have HU:Hid (U.heap[w.heap.size]?=some (bTab ba (.slice ao n ac))∧U.heap[w.heap.size+1]?=some (bTab bb (.slice bo m bc))∧w.heap.size+2≤U.heap.size∧Below W.heap.size W U):=by
    have z:=HW.out.2.2.2.1;exact ⟨(hBU.block _ (by omega)).trans HW.out.2.1,(hBU.block _ (by omega)).trans HW.out.2.2.1,by have:=hBU.size;omega,hBU⟩
   clear hown6 hb6 hBU;have HJ:=hideIt hj;clear hj;go_wp2_with fail
   go_loopw [7,11] (fun l i wr=>∃ (k:Nat),k≤m∧i=.int .i64 k∧l=.slice vo j vc∧Hid (Below U.heap.size U wr)) (fun _ i _=>m - (intOf i).toNat)
   case atStart=>exact ⟨0,Nat.zero_le _,rfl,by rw [←HJ.out],Below.refl _ _⟩
   case round =>
     obtain ⟨k,hk,rfl,rfl,HS⟩:=hrel;have hra:wr.heap[w.heap.size]?=some (bTab ba (.slice ao n ac)):=(HS.out.block _ (by have:=HU.out.2.2.1;omega)).trans HU.out.1;have hrb:wr.heap[w.heap.size+1]?=some (bTab bb (.slice bo m bc)):=(HS.out.block _ (by have:=HU.out.2.2.1;omega)).trans HU.out.2.1;have HBU:Hid (Below W.heap.size W wr):=Za HU.out.2.2.2 HS.out;obtain ⟨b0,b1,bz⟩:=blk2 hrb;have hzr:w.heap.size+1<wr.heap.size:=(Array.getElem?_eq_some_iff.1 hrb).1;by_cases hlt:k<m
     ·obtain ⟨⟨x0,x1,x2,x3⟩,hp⟩:∃ p,qs[k]?=some p:=⟨_,List.getElem?_eq_getElem (by rw [HR.out.2.1];exact hlt)⟩;have hx1:0≤x1:=HR.out.2.2 _ (List.mem_of_getElem? hp);obtain ⟨bl,off,hao,hbl,c0,c1,c2,c3⟩:=Zn (HR.out.1.nx HBU.out) hp;subst hao;simp only at c0 c1 c2 c3;have hlti:(k:Int)<(m:Int):=by omega
      obtain ⟨⟨y0,y1,y2,y3⟩,hy⟩:∃ y,inP ps x0=y:=⟨_,rfl⟩;obtain ⟨inb,hin⟩:∃ inb,ps.any (isNameP x0)=inb:=⟨_,rfl⟩;clear hp;obtain ⟨W1,hW1⟩:∃ W1,W1=wr.alloc (bPl ⟨x0,x1,x2,x3⟩):=⟨_,rfl⟩;have H1:Hid (W1=wr.alloc (bPl ⟨x0,x1,x2,x3⟩)∧Below wr.heap.size wr W1∧W1.heap[wr.heap.size]?=some (bPl ⟨x0,x1,x2,x3⟩)):=⟨hW1,by rw [hW1];exact Zb _ _,by rw [hW1];exact Zc _ _ rfl⟩;have HF1:=hideIt (HF.out W1 (Za HBU.out H1.out.2.1) x0);rw [hy,hin] at HF1;have a1:∀ o,(wr.alloc o).heap[w.heap.size]?=some (bTab ba (.slice ao n ac)):=fun o=>(Zf _ _ (by omega)).trans hra
      have a2:=fun o=>(blk2 (a1 o)).1
      have a3:=fun o=>(blk2 (a1 o)).2.1
      clear hW1 hy hin hra hrb a1;go_wp2_with fail
      rw [←H1.out.1];refine HF1.out.mono ?_;rintro e w2 ⟨rfl,hb2⟩;have hz1:wr.heap.size<W1.heap.size:=(Array.getElem?_eq_some_iff.1 H1.out.2.2).1;obtain ⟨d0,d1,d2,d3,dz⟩:=blk4 hb2 hz1 H1.out.2.2;have hz2:wr.heap.size<w2.heap.size:=Nat.lt_of_lt_of_le hz1 hb2.size;have HB2:Hid (Below wr.heap.size wr w2):=Za H1.out.2.1 hb2;have HSW:Hid (Below U.heap.size U w2):=Za HS.out HB2.out;clear hb2 a2 a3 c0 c1 c2 c3 b0 b1 bz;go_wp2_with fail
      go_roundw
      case rel=>exact ⟨k+1,by omega,by go_num,rfl,Za HSW.out (Za (Zb _ _) (Zb _ _))⟩
      case measure=>simp [intOf];omega
     ·clear hra hrb;go_wp2_with fail
      go_ret
      refine ⟨vo,vc,?_,?_,Zv HO.out.2,Za HW.out.2.2.2.2 HBU.out⟩
      ·show Ending.returned _=Ending.returned (.slice vo (budL 7 ba bb).length vc);rw [HO.out.1];rfl
      ·show RowAt wr (.slice vo (budL 7 ba bb).length vc) (budL 7 ba bb).length (flatT (budL 7 ba bb));rw [HO.out.1];exact Zd (Zk HO.out.2 HS.out)
 ·have HL:Hid (budL 7 ba bb=[]):=by show _=_;rw [budL,if_neg (by simp [leadsB];omega)]
  obtain ⟨U,hU⟩:∃ U,W=U:=⟨_,rfl⟩;obtain ⟨vo,hvo⟩:∃ vo:Option Addr,none=vo:=⟨_,rfl⟩;obtain ⟨j,hj⟩:∃ j:Nat,0=j:=⟨_,rfl⟩;obtain ⟨vc,hvc⟩:∃ j:Nat,0=j:=⟨_,rfl⟩;have HO:Hid ((budL 7 ba bb).length=j∧U.ownsRow (w.heap.size+2) 72 3 (.slice vo j vc) j (flatT (budL 7 ba bb))):=by
   rw [HL.out,←hj,←hvo,←hvc];exact ⟨rfl,World.ownsRow_nil _ _ _ _⟩
  have HU:Hid (U.heap[w.heap.size]?=some (bTab ba (.slice ao n ac))∧U.heap[w.heap.size+1]?=some (bTab bb (.slice bo m bc))∧w.heap.size+2≤U.heap.size∧Below W.heap.size W U):=by
   rw [←hU];exact ⟨HW.out.2.1,HW.out.2.2.1,Nat.le_of_eq HW.out.2.2.2.1,Below.refl _ _⟩
  have HUU:=hideIt (And.intro hU (And.intro hvo (And.intro hj hvc)));clear hU hvo hj hvc;go_wp2_with fail
  rw [←HW.out.1,HUU.out.1];go_loopw [7,11] (fun l i wr=>∃ (k:Nat),k≤m∧i=.int .i64 k∧l=.slice vo j vc∧Hid (Below U.heap.size U wr)) (fun _ i _=>m - (intOf i).toNat)
  case atStart=>exact ⟨0,Nat.zero_le _,rfl,by rw [←HUU.out.2.1,←HUU.out.2.2.1,←HUU.out.2.2.2],Below.refl _ _⟩
  case round =>
    obtain ⟨k,hk,rfl,rfl,HS⟩:=hrel;have hra:wr.heap[w.heap.size]?=some (bTab ba (.slice ao n ac)):=(HS.out.block _ (by have:=HU.out.2.2.1;omega)).trans HU.out.1;have hrb:wr.heap[w.heap.size+1]?=some (bTab bb (.slice bo m bc)):=(HS.out.block _ (by have:=HU.out.2.2.1;omega)).trans HU.out.2.1;have HBU:Hid (Below W.heap.size W wr):=Za HU.out.2.2.2 HS.out;obtain ⟨b0,b1,bz⟩:=blk2 hrb;have hzr:w.heap.size+1<wr.heap.size:=(Array.getElem?_eq_some_iff.1 hrb).1;by_cases hlt:k<m
    ·obtain ⟨⟨x0,x1,x2,x3⟩,hp⟩:∃ p,qs[k]?=some p:=⟨_,List.getElem?_eq_getElem (by rw [HR.out.2.1];exact hlt)⟩;have hx1:0≤x1:=HR.out.2.2 _ (List.mem_of_getElem? hp);obtain ⟨bl,off,hao,hbl,c0,c1,c2,c3⟩:=Zn (HR.out.1.nx HBU.out) hp;subst hao;simp only at c0 c1 c2 c3;have hlti:(k:Int)<(m:Int):=by omega
     obtain ⟨⟨y0,y1,y2,y3⟩,hy⟩:∃ y,inP ps x0=y:=⟨_,rfl⟩;obtain ⟨inb,hin⟩:∃ inb,ps.any (isNameP x0)=inb:=⟨_,rfl⟩;clear hp;obtain ⟨W1,hW1⟩:∃ W1,W1=wr.alloc (bPl ⟨x0,x1,x2,x3⟩):=⟨_,rfl⟩;have H1:Hid (W1=wr.alloc (bPl ⟨x0,x1,x2,x3⟩)∧Below wr.heap.size wr W1∧W1.heap[wr.heap.size]?=some (bPl ⟨x0,x1,x2,x3⟩)):=⟨hW1,by rw [hW1];exact Zb _ _,by rw [hW1];exact Zc _ _ rfl⟩;have HF1:=hideIt (HF.out W1 (Za HBU.out H1.out.2.1) x0);rw [hy,hin] at HF1;have a1:∀ o,(wr.alloc o).heap[w.heap.size]?=some (bTab ba (.slice ao n ac)):=fun o=>(Zf _ _ (by omega)).trans hra
     have a2:=fun o=>(blk2 (a1 o)).1
     have a3:=fun o=>(blk2 (a1 o)).2.1
     clear hW1 hy hin hra hrb a1;go_wp2_with fail
     rw [←H1.out.1];refine HF1.out.mono ?_;rintro e w2 ⟨rfl,hb2⟩;have hz1:wr.heap.size<W1.heap.size:=(Array.getElem?_eq_some_iff.1 H1.out.2.2).1;obtain ⟨d0,d1,d2,d3,dz⟩:=blk4 hb2 hz1 H1.out.2.2;have hz2:wr.heap.size<w2.heap.size:=Nat.lt_of_lt_of_le hz1 hb2.size;have HB2:Hid (Below wr.heap.size wr w2):=Za H1.out.2.1 hb2;have HSW:Hid (Below U.heap.size U w2):=Za HS.out HB2.out;clear hb2 a2 a3 c0 c1 c2 c3 b0 b1 bz;go_wp2_with fail
     go_roundw
     case rel=>exact ⟨k+1,by omega,by go_num,rfl,Za HSW.out (Za (Zb _ _) (Zb _ _))⟩
     case measure=>simp [intOf];omega
    ·clear hra hrb;go_wp2_with fail
     go_ret
     refine ⟨vo,vc,?_,?_,Zv HO.out.2,Za HW.out.2.2.2.2 HBU.out⟩
     ·show Ending.returned _=Ending.returned (.slice vo (budL 7 ba bb).length vc);rw [HO.out.1];rfl
     ·show RowAt wr (.slice vo (budL 7 ba bb).length vc) (budL 7 ba bb).length (flatT (budL 7 ba bb));rw [HO.out.1];exact Zd (Zk HO.out.2 HS.out)
theorem rWant2 (ba:Int) (ao:Option Addr) (n ac:Nat) (ps:List Pl) (bb:Int) (bo:Option Addr) (m bc:Nat) (qs:List Pl) (w:World) (hr:RowAt w (.slice ao n ac) n (flatP ps)) (hn:ps.length=n) (hn2:n≤6) (hr2:RowAt w (.slice bo m bc) m (flatP qs)) (hm:qs.length=m) (hm2:m≤6) (hpos:∀ p∈qs,0≤p.sz) :
  Calls Tryz.prog 76 #[.agg #[.int .i64 ba,.slice ao n ac],.agg #[.int .i64 bb,.slice bo m bc],.int .i64 2] w fun e w'=>GaveS w w' (kindL 2 ba ps bb qs) e:=by
 obtain ⟨W,hW⟩:∃ W,W=(w.alloc (bTab ba (.slice ao n ac))).alloc (bTab bb (.slice bo m bc)):=⟨_,rfl⟩;have hbW:Below w.heap.size w W:=by rw [hW];exact Za (Zb _ _) (Zb _ _)
 have HW:Hid (W=(w.alloc (bTab ba (.slice ao n ac))).alloc (bTab bb (.slice bo m bc))∧W.heap[w.heap.size]?=some (bTab ba (.slice ao n ac))∧W.heap[w.heap.size+1]?=some (bTab bb (.slice bo m bc))∧w.heap.size+2=W.heap.size∧Below w.heap.size w W):=by
  refine ⟨hW,?_,?_,?_,hbW⟩
  ·rw [hW];exact (Zf _ _ (by simp)).trans (Zc _ _ rfl)
  ·rw [hW];exact Zc _ _ (by simp)
  ·rw [hW];simp
 have HF:=hideIt (fun u (hb:Below W.heap.size W u) name=>rWas ba ao n ac name ps u ((hr.nx hbW).nx hb) hn (by unfold maxLen;omega));have HG:=hideIt (fun u (hb:Below W.heap.size W u) name=>rWas bb bo m bc name qs u ((hr2.nx hbW).nx hb) hm (by unfold maxLen;omega));have HA:Hid (RowAt W (.slice ao n ac) n (flatP ps)∧ps.length=n):=⟨hr.nx hbW,hn⟩;have HR:Hid (RowAt W (.slice bo m bc) m (flatP qs)∧qs.length=m∧∀ p∈qs,0≤p.sz):=⟨hr2.nx hbW,hm,hpos⟩;clear hr hn hr2 hm hpos hW hbW;go_enter Tryz.func76,Tryz.ntmps76
 go_wp2_with fail
 rw [←HW.out.1];go_loopw [7,8] (fun l i wr=>∃ (k j:Nat) (vo:Option Addr) (vc:Nat),k≤n∧j≤k∧i=.int .i64 k∧l=.slice vo j vc∧Hid ((missL 2 (ps.take k) qs).length=j∧wr.ownsRow W.heap.size 72 3 (.slice vo j vc) j (flatT (missL 2 (ps.take k) qs))∧Below W.heap.size W wr)) (fun _ i _=>n - (intOf i).toNat)
 case atStart=>exact ⟨0,0,none,0,Nat.zero_le _,Nat.le_refl _,rfl,rfl,rfl,World.ownsRow_nil _ _ _ _,Below.refl _ _⟩
 case round =>
  obtain ⟨k,j,vo,vc,hk,hj,rfl,rfl,HS⟩:=hrel;have hra:wr.heap[w.heap.size]?=some (bTab ba (.slice ao n ac)):=(HS.out.2.2.block _ (by have:=HW.out.2.2.2.1;omega)).trans HW.out.2.1;have hrb:wr.heap[w.heap.size+1]?=some (bTab bb (.slice bo m bc)):=(HS.out.2.2.block _ (by have:=HW.out.2.2.2.1;omega)).trans HW.out.2.2.1;have HBU:Hid (Below W.heap.size W wr):=HS.out.2.2;obtain ⟨b0,b1,bz⟩:=blk2 hrb;obtain ⟨a0,a1,az⟩:=blk2 hra;have hzr:w.heap.size+1<wr.heap.size:=(Array.getElem?_eq_some_iff.1 hrb).1;by_cases hlt:k<n
  ·obtain ⟨⟨x0,x1,x2,x3⟩,hp⟩:∃ p,ps[k]?=some p:=⟨_,List.getElem?_eq_getElem (by rw [HA.out.2];exact hlt)⟩;obtain ⟨bl,off,hao,hbl,c0,c1,c2,c3⟩:=Zn (HA.out.1.nx HBU.out) hp;have HPA:=hideIt (fun (u:World) (hb:Below wr.heap.size wr u)=>Zn ((HA.out.1.nx HBU.out).nx hb) hp);have HAB:=hideIt (And.intro hra hrb);subst hao;simp only at c0 c1 c2 c3;have hlti:(k:Int)<(n:Int):=by omega
   have h0i:(0:Int)≤(k:Int):=by omega
   obtain ⟨⟨y0,y1,y2,y3⟩,hy⟩:∃ y,inP qs x0=y:=⟨_,rfl⟩;obtain ⟨inb,hin⟩:∃ inb,qs.any (isNameP x0)=inb:=⟨_,rfl⟩;have HNX:Hid (missL 2 (ps.take (k+1)) qs=missL 2 (ps.take k) qs++if inb=true then [] else [stepP 2 x0 0]):=by
    obtain ⟨hk',e⟩:=List.getElem?_eq_some_iff.1 hp;show _=_;unfold missL;rw [List.take_succ_eq_append_getElem hk',List.filter_append,List.map_append,e];congr 1;cases hkk:inb <;> simp [hasP,hin,hkk]
   have HG1:=hideIt (fun u (hb:Below wr.heap.size wr u)=>HG.out u (Za HBU.out hb) x0);rw [hy,hin] at HG1;clear hp hy hin hra hrb;have n1:=World.new_ne wr _ a1;have n2:=World.new_ne wr _ b0;have n3:=World.new_ne wr _ b1;have n4:=World.new_ne wr _ c0;go_upto_region 9 with fail
   go_cut [9,10] (fun p9 p10 wx=>p10=.bool inb∧∃ wy,Hid (Below wr.heap.size wr wy)∧wy=wx)
   case first =>
    go_region_held3 (fun w'=>w'.cell? ⟨w.heap.size,1,none⟩=some (.slice (some ⟨bl,off,none⟩) n ac)∧w'.cell? ⟨w.heap.size+1,0,none⟩=some (.int .i64 bb)∧w'.cell? ⟨w.heap.size+1,1,none⟩=some (.slice bo m bc)∧w'.cell? ⟨bl,off+k*4,none⟩=some (.string x0)) (go_keep)
     ((go_at_call 116;refine (HG1.out _ (by first | exact (Below.refl _ _).drew | exact (Below.refl _ _).drew.alloc (Nat.le_refl _) _)).mono ?_;rintro e w2 ⟨rfl,hb2⟩;have HB2:Hid (Below wr.heap.size wr w2):=(by first | exact Za (Below.refl _ _).drew hb2 | exact Za ((Below.refl _ _).drew.alloc (Nat.le_refl _) _) hb2);have q1:=(HB2.out.cell (p:=⟨w.heap.size,1,none⟩) (by show w.heap.size<wr.heap.size;omega)).trans a1;have q2:=(HB2.out.cell (p:=⟨w.heap.size+1,0,none⟩) hzr).trans b0;have q3:=(HB2.out.cell (p:=⟨w.heap.size+1,1,none⟩) hzr).trans b1;have q4:=(HB2.out.cell (p:=⟨bl,off+k*4,none⟩) hbl).trans c0;have r1:=World.new_ne w2 _ q1;have r2:=World.new_ne w2 _ q2;have r3:=World.new_ne w2 _ q3;have r4:=World.new_ne w2 _ q4;first | (obtain ⟨k0,k1,k2,k3,kz⟩:=blk4 (g:=wr.heap.size) hb2 (by simp) (Zc _ _ rfl)) | skip))
    all_goals
     go_wp2_with fail
     go_meet
     first
     | exact ⟨rfl,_,HB2.out.alloc HB2.out.size _,rfl⟩
     | exact ⟨rfl,_,(((HB2.out.setCell (Nat.le_refl _) _).setCell (Nat.le_refl _) _).setCell (Nat.le_refl _) _).setCell (Nat.le_refl _) _,rfl⟩
   case rest =>
    obtain ⟨rfl,wx,HB2,rfl⟩:=hcut;have HSW:Hid (wx.ownsRow W.heap.size 72 3 (.slice vo j vc) j (flatT (missL 2 (ps.take k) qs))∧Below W.heap.size W wx):=⟨Zk HS.out.2.1 HB2.out,Za HS.out.2.2 HB2.out⟩;have q1:=(HB2.out.cell (p:=⟨w.heap.size,1,none⟩) (by show w.heap.size<wr.heap.size;omega)).trans a1;have q4:=(HB2.out.cell (p:=⟨bl,off+k*4,none⟩) hbl).trans c0;clear a0 a1 az b0 b1 bz c0 c1 c2 c3 n1 n2 n3 n4;cases inb with
    | true =>
     have HN:Hid (missL 2 (ps.take (k+1)) qs=missL 2 (ps.take k) qs):=by
      show _=_;rw [HNX.out,if_pos rfl,List.append_nil]
     clear HNX;go_wp2_with fail
     go_roundw
     case rel=>exact ⟨k+1,j,vo,vc,by omega,by omega,by go_num,rfl,by rw [HN.out];exact ⟨HS.out.1,HSW.out⟩⟩
     case measure=>simp [intOf];omega
    | false =>
     have HN:Hid (missL 2 (ps.take (k+1)) qs=missL 2 (ps.take k) qs++[stepP 2 x0 0]):=by
      show _=_;rw [HNX.out,if_neg (by simp)]
     clear HNX;go_wp2_with (at_builtin;refine appendG 72 34 3 32 _ Z7 Tryz.underlying34 rfl (by decide) (by decide) rfl (.tmp 66) (.tmp 75) rfl W.heap.size _ j (flatT (missL 2 (ps.take k) qs)) rfl (HSW.out.1.alloc _) (some ⟨wx.heap.size,0,none⟩) 1 1 [.int .i64 2,.string x0,.int .i64 0] rfl rfl (ZA _ [.int .i64 2,.string x0,.int .i64 0] _ 1 (by simp)) (by intro u hu;simp at hu;rcases hu with rfl | rfl | rfl <;> rfl) (fun h=>by cases h) (by omega) (by have:=HSW.out.2.size;simp;omega) ?next)
     case next =>
      intro v' w6 hown6 hb6;obtain ⟨vo6,vc6,rfl,_⟩:=Zd hown6;have K6:Hid ((missL 2 (ps.take (k+1)) qs).length=j+1∧w6.ownsRow W.heap.size 72 3 (.slice vo6 (j+1) vc6) (j+1) (flatT (missL 2 (ps.take (k+1)) qs))∧Below W.heap.size W w6):=by
       refine ⟨by rw [HN.out];simp [HS.out.1],?_,(HSW.out.2.alloc HSW.out.2.size _).trans hb6⟩;rw [HN.out];unfold flatT;rw [List.flatMap_append];exact hown6
      clear hown6 hb6;go_wp2_with fail
      go_roundw
      case rel=>exact ⟨k+1,j+1,vo6,vc6,by omega,by omega,by go_num,rfl,K6.out⟩
      case measure=>simp [intOf];omega
  ·have HO:Hid ((missL 2 ps qs).length=j∧wr.ownsRow W.heap.size 72 3 (.slice vo j vc) j (flatT (missL 2 ps qs))):=by
    have ht:ps.take k=ps:=List.take_of_length_le (by rw [HA.out.2];omega);have:=HS.out;rw [ht] at this;exact ⟨this.1,this.2.1⟩
   have HU:Hid (wr.heap[w.heap.size]?=some (bTab ba (.slice ao n ac))∧wr.heap[w.heap.size+1]?=some (bTab bb (.slice bo m bc))∧w.heap.size+2≤wr.heap.size∧Below W.heap.size W wr):=⟨hra,hrb,by omega,HBU.out⟩;obtain ⟨U,rfl⟩:∃ U,U=wr:=⟨_,rfl⟩;clear hra hrb HS HBU hk hj;go_wp2_with fail
   clear a0 a1 az b0 b1 bz;go_loopw [7,11] (fun l i wr=>∃ (k:Nat),k≤m∧i=.int .i64 k∧l=.slice vo j vc∧Hid (Below U.heap.size U wr)) (fun _ i _=>m - (intOf i).toNat)
   case atStart=>exact ⟨0,Nat.zero_le _,rfl,rfl,Below.refl _ _⟩
   case round =>
     obtain ⟨k,hk,rfl,rfl,HS⟩:=hrel;have hra:wr.heap[w.heap.size]?=some (bTab ba (.slice ao n ac)):=(HS.out.block _ (by have:=HU.out.2.2.1;omega)).trans HU.out.1;have hrb:wr.heap[w.heap.size+1]?=some (bTab bb (.slice bo m bc)):=(HS.out.block _ (by have:=HU.out.2.2.1;omega)).trans HU.out.2.1;have HBU:Hid (Below W.heap.size W wr):=Za HU.out.2.2.2 HS.out;obtain ⟨b0,b1,bz⟩:=blk2 hrb;have hzr:w.heap.size+1<wr.heap.size:=(Array.getElem?_eq_some_iff.1 hrb).1;by_cases hlt:k<m
     ·obtain ⟨⟨x0,x1,x2,x3⟩,hp⟩:∃ p,qs[k]?=some p:=⟨_,List.getElem?_eq_getElem (by rw [HR.out.2.1];exact hlt)⟩;have hx1:0≤x1:=HR.out.2.2 _ (List.mem_of_getElem? hp);obtain ⟨bl,off,hao,hbl,c0,c1,c2,c3⟩:=Zn (HR.out.1.nx HBU.out) hp;subst hao;simp only at c0 c1 c2 c3;have hlti:(k:Int)<(m:Int):=by omega
      obtain ⟨⟨y0,y1,y2,y3⟩,hy⟩:∃ y,inP ps x0=y:=⟨_,rfl⟩;obtain ⟨inb,hin⟩:∃ inb,ps.any (isNameP x0)=inb:=⟨_,rfl⟩;clear hp;obtain ⟨W1,hW1⟩:∃ W1,W1=wr.alloc (bPl ⟨x0,x1,x2,x3⟩):=⟨_,rfl⟩;have H1:Hid (W1=wr.alloc (bPl ⟨x0,x1,x2,x3⟩)∧Below wr.heap.size wr W1∧W1.heap[wr.heap.size]?=some (bPl ⟨x0,x1,x2,x3⟩)):=⟨hW1,by rw [hW1];exact Zb _ _,by rw [hW1];exact Zc _ _ rfl⟩;have HF1:=hideIt (HF.out W1 (Za HBU.out H1.out.2.1) x0);rw [hy,hin] at HF1;have a1:∀ o,(wr.alloc o).heap[w.heap.size]?=some (bTab ba (.slice ao n ac)):=fun o=>(Zf _ _ (by omega)).trans hra
      have a2:=fun o=>(blk2 (a1 o)).1
      have a3:=fun o=>(blk2 (a1 o)).2.1
      clear hW1 hy hin hra hrb a1;go_wp2_with fail
      rw [←H1.out.1];refine HF1.out.mono ?_;rintro e w2 ⟨rfl,hb2⟩;have hz1:wr.heap.size<W1.heap.size:=(Array.getElem?_eq_some_iff.1 H1.out.2.2).1;obtain ⟨d0,d1,d2,d3,dz⟩:=blk4 hb2 hz1 H1.out.2.2;have hz2:wr.heap.size<w2.heap.size:=Nat.lt_of_lt_of_le hz1 hb2.size;have HB2:Hid (Below wr.heap.size wr w2):=Za H1.out.2.1 hb2;have HSW:Hid (Below U.heap.size U w2):=Za HS.out HB2.out;clear hb2 a2 a3 c0 c1 c2 c3 b0 b1 bz;go_wp2_with fail
      go_roundw
      case rel=>exact ⟨k+1,by omega,by go_num,rfl,Za HSW.out (Za (Zb _ _) (Zb _ _))⟩
      case measure=>simp [intOf];omega
     ·clear hra hrb;go_wp2_with fail
      go_ret
      refine ⟨vo,vc,?_,?_,Zv HO.out.2,Za HW.out.2.2.2.2 HBU.out⟩
      ·show Ending.returned _=Ending.returned (.slice vo (missL 2 ps qs).length vc);rw [HO.out.1];rfl
      ·show RowAt wr (.slice vo (missL 2 ps qs).length vc) (missL 2 ps qs).length (flatT (missL 2 ps qs));rw [HO.out.1];exact Zd (Zk HO.out.2 HS.out)
theorem rWanted (i:Nat) (hi:i<8) (ba:Int) (ao:Option Addr) (n ac:Nat) (ps:List Pl) (bb:Int) (bo:Option Addr) (m bc:Nat) (qs:List Pl) (w:World) (hr:RowAt w (.slice ao n ac) n (flatP ps)) (hn:ps.length=n) (hn2:n≤6) (hr2:RowAt w (.slice bo m bc) m (flatP qs)) (hm:qs.length=m) (hm2:m≤6) (hpos:∀ p∈qs,0≤p.sz) :
  Calls Tryz.prog 76 #[.agg #[.int .i64 ba,.slice ao n ac],.agg #[.int .i64 bb,.slice bo m bc],.int .i64 ((i:Int)+1)] w fun e w'=>GaveS w w' (kindL ((i:Int)+1) ba ps bb qs) e:=by
 obtain rfl | rfl | rfl | rfl | rfl | rfl | rfl | rfl:i=0∨i=1∨i=2∨i=3∨i=4∨i=5∨i=6∨i=7:=by omega
 ·exact rWant1 ba ao n ac ps bb bo m bc qs w hr hn hn2 hr2 hm hm2 hpos
 ·exact rWant2 ba ao n ac ps bb bo m bc qs w hr hn hn2 hr2 hm hm2 hpos
 ·exact rWant3 ba ao n ac ps bb bo m bc qs w hr hn hn2 hr2 hm hm2 hpos
 ·exact rWant4 ba ao n ac ps bb bo m bc qs w hr hn hn2 hr2 hm hm2 hpos
 ·exact rWant5 ba ao n ac ps bb bo m bc qs w hr hn hn2 hr2 hm hm2 hpos
 ·exact rWant6 ba ao n ac ps bb bo m bc qs w hr hn hn2 hr2 hm hm2 hpos
 ·exact rWant7 ba ao n ac ps bb bo m bc qs w hr hn hn2 hr2 hm hm2 hpos
 ·exact rWant8 ba ao n ac ps bb bo m bc qs w hr hn hn2 hr2 hm hm2 hpos
theorem rSteps (ba:Int) (ao:Option Addr) (n ac:Nat) (ps:List Pl) (bb:Int) (bo:Option Addr) (m bc:Nat) (qs:List Pl) (w:World) (hr:RowAt w (.slice ao n ac) n (flatP ps)) (hn:ps.length=n) (hn2:n≤6) (hr2:RowAt w (.slice bo m bc) m (flatP qs)) (hm:qs.length=m) (hm2:m≤6) (hpos:∀ p∈qs,0≤p.sz) :
  Calls Tryz.prog 46 #[.agg #[.int .i64 ba,.slice ao n ac],.agg #[.int .i64 bb,.slice bo m bc]] w fun e w'=>∃ vo vc,e=.returned (.slice vo (diffL ba ps bb qs).length vc)∧w'.ownsRow w.heap.size 72 3 (.slice vo (diffL ba ps bb qs).length vc) (diffL ba ps bb qs).length (flatT (diffL ba ps bb qs))∧Below w.heap.size w w':=by
 obtain ⟨W,hW⟩:∃ W,W=(w.alloc (bTab ba (.slice ao n ac))).alloc (bTab bb (.slice bo m bc)):=⟨_,rfl⟩;have hbW:Below w.heap.size w W:=by rw [hW];exact Za (Zb _ _) (Zb _ _)
 have HW:Hid (W=(w.alloc (bTab ba (.slice ao n ac))).alloc (bTab bb (.slice bo m bc))∧W.heap[w.heap.size]?=some (bTab ba (.slice ao n ac))∧W.heap[w.heap.size+1]?=some (bTab bb (.slice bo m bc))∧w.heap.size+2=W.heap.size∧Below w.heap.size w W):=by
  refine ⟨hW,?_,?_,?_,hbW⟩
  ·rw [hW];exact (Zf _ _ (by simp)).trans (Zc _ _ rfl)
  ·rw [hW];exact Zc _ _ (by simp)
  ·rw [hW];simp
 have HC:=hideIt (fun (i:Nat) (hi:i<8) u (hb:Below W.heap.size W u)=>rWanted i hi ba ao n ac ps bb bo m bc qs u ((hr.nx hbW).nx hb) hn hn2 ((hr2.nx hbW).nx hb) hm hm2 hpos);have HKL:=hideIt (fun k=>ZcH k ba ps bb qs (by rw [hn];exact hn2) (by rw [hm];exact hm2));clear hr hn hr2 hm hpos hW hbW;go_enter Tryz.func46,Tryz.ntmps46
 go_wp2_with fail
 rw [←HW.out.1];go_loopw [5,6] (fun l kd wr=>∃ (i j:Nat) (vo:Option Addr) (vc:Nat),i≤8∧j≤7*i∧kd=.int .i64 ((i:Int)+1)∧l=.slice vo j vc∧Hid ((diffTo i ba ps bb qs).length=j∧wr.ownsRow W.heap.size 72 3 (.slice vo j vc) j (flatT (diffTo i ba ps bb qs))∧Below W.heap.size W wr)) (fun _ kd _=>9 - (intOf kd).toNat)
 case atStart=>exact ⟨0,0,none,0,Nat.zero_le _,Nat.le_refl _,rfl,rfl,rfl,World.ownsRow_nil _ _ _ _,Below.refl _ _⟩
 case round =>
  obtain ⟨i,j,vo,vc,hi,hj,rfl,rfl,HS⟩:=hrel;have hra:wr.heap[w.heap.size]?=some (bTab ba (.slice ao n ac)):=(HS.out.2.2.block _ (by have:=HW.out.2.2.2.1;omega)).trans HW.out.2.1;have hrb:wr.heap[w.heap.size+1]?=some (bTab bb (.slice bo m bc)):=(HS.out.2.2.block _ (by have:=HW.out.2.2.2.1;omega)).trans HW.out.2.2.1;obtain ⟨a0,a1,az⟩:=blk2 hra;obtain ⟨b0,b1,bz⟩:=blk2 hrb;clear hra hrb;by_cases hlt:i<8
  ·have hlti:(i:Int)+1≤8:=by omega
   have HN:=hideIt (ZG i ba ps bb qs);have hkl:=HKL.out ((i:Int)+1);go_wp2_with fail
   refine (HC.out i hlt wr HS.out.2.2).mono ?_;rintro e w3 ⟨so,sc,rfl,hrow,hnil,hb3⟩;obtain ⟨q,hq⟩:∃ q,(kindL ((i:Int)+1) ba ps bb qs).length=q:=⟨_,rfl⟩;rw [hq] at hrow hkl ⊢;have HX:Hid ((kindL ((i:Int)+1) ba ps bb qs).length=q∧RowAt w3 (.slice so q sc) q (flatT (kindL ((i:Int)+1) ba ps bb qs))∧(so=none→sc=0)∧w3.ownsRow W.heap.size 72 3 (.slice vo j vc) j (flatT (diffTo i ba ps bb qs))∧Below W.heap.size W w3):=⟨hq,hrow,hnil,Zk HS.out.2.1 hb3,Za HS.out.2.2 hb3⟩;clear hrow hnil hb3 hq a0 a1 az b0 b1 bz;go_wp2_with (at_builtin;refine appendG 72 34 3 32 _ Z7 Tryz.underlying34 rfl (by decide) (by decide) rfl (.tmp 11) (.tmp 15) rfl W.heap.size _ j (flatT (diffTo i ba ps bb qs)) rfl HX.out.2.2.2.1 so q sc (flatT (kindL ((i:Int)+1) ba ps bb qs)) rfl (by rw [ZeK,HX.out.1]) HX.out.2.1 (ZeL _) HX.out.2.2.1 (by omega) HX.out.2.2.2.2.size ?next)
   case next =>
    intro v' w6 hown6 hb6;obtain ⟨vo6,vc6,rfl,_⟩:=Zd hown6;have K6:Hid ((diffTo (i+1) ba ps bb qs).length=j+q∧w6.ownsRow W.heap.size 72 3 (.slice vo6 (j+q) vc6) (j+q) (flatT (diffTo (i+1) ba ps bb qs))∧Below W.heap.size W w6):=by
     refine ⟨by rw [HN.out,List.length_append,HS.out.1,HX.out.1],?_,HX.out.2.2.2.2.trans hb6⟩;rw [HN.out];unfold flatT;rw [List.flatMap_append];exact hown6
    clear hown6 hb6;go_wp2_with fail
    go_roundw
    case rel=>exact ⟨i+1,j+q,vo6,vc6,by omega,by omega,by go_num,rfl,K6.out⟩
    case measure=>simp [intOf];omega
  ·obtain rfl:i=8:=by omega
   go_wp2_with fail
   go_ret
   refine ⟨vo,vc,?_,?_,Za HW.out.2.2.2.2 HS.out.2.2⟩
   ·show Ending.returned _=Ending.returned (.slice vo (diffTo 8 ba ps bb qs).length vc);rw [HS.out.1];rfl
   ·show wr.ownsRow w.heap.size 72 3 (.slice vo (diffTo 8 ba ps bb qs).length vc) (diffTo 8 ba ps bb qs).length (flatT (diffTo 8 ba ps bb qs));rw [HS.out.1];exact Zi HS.out.2.1 HW.out.2.2.2.2.size
theorem Ze {u v:World} {g:Nat} {o:Obj} (h:u.heap[g]?=some o) (hb:Below u.heap.size u v):v.heap[g]?=some o:=(hb.block g (Array.getElem?_eq_some_iff.1 h).1).trans h
end Df
end Go.Proofs.YtcpikklofilkcaaGreat
