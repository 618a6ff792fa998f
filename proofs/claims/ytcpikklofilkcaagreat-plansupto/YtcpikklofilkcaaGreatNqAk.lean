import Derived.Test.YtcpikklofilkcaaGreatNqAj
set_option maxRecDepth 100000
set_option maxHeartbeats 16000000
namespace Go.Proofs.YtcpikklofilkcaaGreat
open Go.RowKit
namespace Df
open Co Lw
theorem rWant1 (ba:Int) (ao:Option Addr) (n ac:Nat) (ps:List Pl) (bb:Int) (bo:Option Addr) (m bc:Nat) (qs:List Pl) (w:World) (hr:RowAt w (.slice ao n ac) n (flatP ps)) (hn:ps.length=n) (hn2:n≤6) (hr2:RowAt w (.slice bo m bc) m (flatP qs)) (hm:qs.length=m) (hm2:m≤6) (hpos:∀ p∈qs,0≤p.sz) :
  Calls Tryz.prog 76 #[.agg #[.int .i64 ba,.slice ao n ac],.agg #[.int .i64 bb,.slice bo m bc],.int .i64 1] w fun e w'=>GaveS w w' (kindL 1 ba ps bb qs) e:=by
 obtain ⟨W,hW⟩:∃ W,W=(w.alloc (bTab ba (.slice ao n ac))).alloc (bTab bb (.slice bo m bc)):=⟨_,rfl⟩;have hbW:Below w.heap.size w W:=by rw [hW];exact Za (Zb _ _) (Zb _ _)
 have HW:Hid (W=(w.alloc (bTab ba (.slice ao n ac))).alloc (bTab bb (.slice bo m bc))∧W.heap[w.heap.size]?=some (bTab ba (.slice ao n ac))∧W.heap[w.heap.size+1]?=some (bTab bb (.slice bo m bc))∧w.heap.size+2=W.heap.size∧Below w.heap.size w W):=by
  refine ⟨hW,?_,?_,?_,hbW⟩
  ·rw [hW];exact (Zf _ _ (by simp)).trans (Zc _ _ rfl)
  ·rw [hW];exact Zc _ _ (by simp)
  ·rw [hW];simp
 have HF:=hideIt (fun u (hb:Below W.heap.size W u) name=>rWas ba ao n ac name ps u ((hr.nx hbW).nx hb) hn (by unfold maxLen;omega));have HG:=hideIt (fun u (hb:Below W.heap.size W u) name=>rWas bb bo m bc name qs u ((hr2.nx hbW).nx hb) hm (by unfold maxLen;omega));have HA:Hid (RowAt W (.slice ao n ac) n (flatP ps)∧ps.length=n):=⟨hr.nx hbW,hn⟩;have HR:Hid (RowAt W (.slice bo m bc) m (flatP qs)∧qs.length=m∧∀ p∈qs,0≤p.sz):=⟨hr2.nx hbW,hm,hpos⟩;clear hr hn hr2 hm hpos hW hbW;go_enter Tryz.func76,Tryz.ntmps76
 go_wp2_with fail
 rw [←HW.out.1];go_loopw [7,11] (fun l i wr=>∃ (k j:Nat) (vo:Option Addr) (vc:Nat),k≤m∧j≤k∧i=.int .i64 k∧l=.slice vo j vc∧Hid ((chgL 1 ps (qs.take k)).length=j∧wr.ownsRow W.heap.size 72 3 (.slice vo j vc) j (flatT (chgL 1 ps (qs.take k)))∧Below W.heap.size W wr)) (fun _ i _=>m - (intOf i).toNat)
 case atStart=>exact ⟨0,0,none,0,Nat.zero_le _,Nat.le_refl _,rfl,rfl,rfl,World.ownsRow_nil _ _ _ _,Below.refl _ _⟩
 case round =>
  obtain ⟨k,j,vo,vc,hk,hj,rfl,rfl,HS⟩:=hrel;have hra:wr.heap[w.heap.size]?=some (bTab ba (.slice ao n ac)):=(HS.out.2.2.block _ (by have:=HW.out.2.2.2.1;omega)).trans HW.out.2.1;have hrb:wr.heap[w.heap.size+1]?=some (bTab bb (.slice bo m bc)):=(HS.out.2.2.block _ (by have:=HW.out.2.2.2.1;omega)).trans HW.out.2.2.1;have HBU:Hid (Below W.heap.size W wr):=HS.out.2.2;obtain ⟨b0,b1,bz⟩:=blk2 hrb;have hzr:w.heap.size+1<wr.heap.size:=(Array.getElem?_eq_some_iff.1 hrb).1;by_cases hlt:k<m
  ·obtain ⟨⟨x0,x1,x2,x3⟩,hp⟩:∃ p,qs[k]?=some p:=⟨_,List.getElem?_eq_getElem (by rw [HR.out.2.1];exact hlt)⟩;have hx1:0≤x1:=HR.out.2.2 _ (List.mem_of_getElem? hp);obtain ⟨bl,off,hao,hbl,c0,c1,c2,c3⟩:=Zn (HR.out.1.nx HBU.out) hp;subst hao;simp only at c0 c1 c2 c3;have hlti:(k:Int)<(m:Int):=by omega
   obtain ⟨⟨y0,y1,y2,y3⟩,hy⟩:∃ y,inP ps x0=y:=⟨_,rfl⟩;obtain ⟨inb,hin⟩:∃ inb,ps.any (isNameP x0)=inb:=⟨_,rfl⟩;have HIN:Hid (inb=false→y1=0):=by
    intro h;rw [h] at hin;have:ps.find? (isNameP x0)=none:=by
     rw [List.find?_eq_none];exact List.any_eq_false.1 hin
    rw [inP,this] at hy;injection hy with _ h2 _ _
    exact h2.symm
   have HNX:Hid (chgL 1 ps (qs.take (k+1))=chgL 1 ps (qs.take k)++if x1<y1 then [stepP 1 x0 x1] else []):=by
    obtain ⟨hk',e⟩:=List.getElem?_eq_some_iff.1 hp;show _=_;unfold chgL;rw [List.take_succ_eq_append_getElem hk',List.filter_append,List.map_append,e];congr 1;have hc:chgP 1 ps ⟨x0,x1,x2,x3⟩=(decide (x1<y1)):=by
     unfold chgP;rw [hy];simp [leadsB,numP]
    cases hkk:(decide (x1<y1)) with
    | false =>
     rw [if_neg (by simpa using hkk)];simp [hc,hkk]
    | true =>
     rw [if_pos (by simpa using hkk)];simp [hc,hkk,numP]
   clear hp;obtain ⟨W1,hW1⟩:∃ W1,W1=wr.alloc (bPl ⟨x0,x1,x2,x3⟩):=⟨_,rfl⟩;have H1:Hid (W1=wr.alloc (bPl ⟨x0,x1,x2,x3⟩)∧Below wr.heap.size wr W1∧W1.heap[wr.heap.size]?=some (bPl ⟨x0,x1,x2,x3⟩)):=⟨hW1,by rw [hW1];exact Zb _ _,by rw [hW1];exact Zc _ _ rfl⟩;have HF1:=hideIt (HF.out W1 (Za HBU.out H1.out.2.1) x0);rw [hy,hin] at HF1;have a1:∀ o,(wr.alloc o).heap[w.heap.size]?=some (bTab ba (.slice ao n ac)):=fun o=>(Zf _ _ (by omega)).trans hra
   have a2:=fun o=>(blk2 (a1 o)).1
   have a3:=fun o=>(blk2 (a1 o)).2.1
   clear hW1 hy hin hra hrb a1;go_wp2_with fail
   rw [←H1.out.1];refine HF1.out.mono ?_;rintro e w2 ⟨rfl,hb2⟩;have hz1:wr.heap.size<W1.heap.size:=(Array.getElem?_eq_some_iff.1 H1.out.2.2).1;obtain ⟨d0,d1,d2,d3,dz⟩:=blk4 hb2 hz1 H1.out.2.2;have hz2:wr.heap.size<w2.heap.size:=Nat.lt_of_lt_of_le hz1 hb2.size;have HB2:Hid (Below wr.heap.size wr w2):=Za H1.out.2.1 hb2;have HSW:Hid (w2.ownsRow W.heap.size 72 3 (.slice vo j vc) j (flatT (chgL 1 ps (qs.take k)))∧Below W.heap.size W w2):=⟨Zk HS.out.2.1 HB2.out,Za HS.out.2.2 HB2.out⟩;clear hb2 a2 a3 c0 c1 c2 c3 b0 b1 bz;cases inb with
   | false =>
    have hx:¬x1<y1:=by rw [HIN.out rfl];omega
    clear HIN;have HN:Hid (chgL 1 ps (qs.take (k+1))=chgL 1 ps (qs.take k)):=by
     show _=_;rw [HNX.out,if_neg (by exact hx)];simp
    clear HNX;go_wp2_with fail
    go_roundw
    case rel=>exact ⟨k+1,j,vo,vc,by omega,by omega,by go_num,rfl,by rw [HN.out];exact ⟨HS.out.1,(HSW.out.1.alloc _).alloc _,Za HSW.out.2 (Za (Zb _ _) (Zb _ _))⟩⟩
    case measure=>simp [intOf];omega
   | true =>
    clear HIN;by_cases hx:x1<y1
    ·have HN:Hid (chgL 1 ps (qs.take (k+1))=chgL 1 ps (qs.take k)++[stepP 1 x0 x1]):=by
      show _=_;rw [HNX.out,if_pos (by exact hx)]
     clear HNX;have HX:Hid (((w2.alloc (bPl ⟨y0,y1,y2,y3⟩)).alloc (.cells #[.int .i64 1,.string x0,.int .i64 x1] 72)).ownsRow W.heap.size 72 3 (.slice vo j vc) j (flatT (chgL 1 ps (qs.take k)))∧Below W.heap.size W ((w2.alloc (bPl ⟨y0,y1,y2,y3⟩)).alloc (.cells #[.int .i64 1,.string x0,.int .i64 x1] 72))):=⟨(HSW.out.1.alloc _).alloc _,Za HSW.out.2 (Za (Zb _ _) (Zb _ _))⟩;go_wp2_with (at_builtin;refine appendG 72 34 3 32 _ Z7 Tryz.underlying34 rfl (by decide) (by decide) rfl (.tmp 149) (.tmp 151) rfl W.heap.size _ j (flatT (chgL 1 ps (qs.take k))) rfl (HX.out.1.alloc _) (some ⟨w2.heap.size+1+1,0,none⟩) 1 1 [.int .i64 1,.string x0,.int .i64 x1] rfl rfl (ZA _ [.int .i64 1,.string x0,.int .i64 x1] _ 1 (by simp)) (by intro u hu;simp at hu;rcases hu with rfl | rfl | rfl <;> rfl) (fun h=>by cases h) (by omega) (by have:=HX.out.2.size;simp at this ⊢;omega) ?next)
     case next =>
      intro v' w6 hown6 hb6;obtain ⟨vo6,vc6,rfl,_⟩:=Zd hown6;have K6:Hid ((chgL 1 ps (qs.take (k+1))).length=j+1∧w6.ownsRow W.heap.size 72 3 (.slice vo6 (j+1) vc6) (j+1) (flatT (chgL 1 ps (qs.take (k+1))))∧Below W.heap.size W w6):=by
       refine ⟨by rw [HN.out];simp [HS.out.1],?_,(HX.out.2.alloc HX.out.2.size _).trans hb6⟩;rw [HN.out];unfold flatT;rw [List.flatMap_append];exact hown6
      clear hown6 hb6;go_wp2_with fail
      go_roundw
      case rel=>exact ⟨k+1,j+1,vo6,vc6,by omega,by omega,by go_num,rfl,K6.out⟩
      case measure=>simp [intOf];omega
    ·have HN:Hid (chgL 1 ps (qs.take (k+1))=chgL 1 ps (qs.take k)):=by
      show _=_;rw [HNX.out,if_neg (by exact hx)];simp
     clear HNX;go_wp2_with fail
     go_roundw
     case rel=>exact ⟨k+1,j,vo,vc,by omega,by omega,by go_num,rfl,by rw [HN.out];exact ⟨HS.out.1,(HSW.out.1.alloc _).alloc _,Za HSW.out.2 (Za (Zb _ _) (Zb _ _))⟩⟩
     case measure=>simp [intOf];omega
  ·have HE:Hid ((chgL 1 ps qs).length=j∧wr.ownsRow W.heap.size 72 3 (.slice vo j vc) j (flatT (chgL 1 ps qs))∧Below W.heap.size W wr):=by
    have ht:qs.take k=qs:=List.take_of_length_le (by rw [HR.out.2.1];omega);have:=HS.out;rw [ht] at this;exact this
   clear hra hrb;go_wp2_with fail
   go_ret
   refine ⟨vo,vc,?_,?_,Zv HE.out.2.1,Za HW.out.2.2.2.2 HE.out.2.2⟩
   ·show Ending.returned _=Ending.returned (.slice vo (chgL 1 ps qs).length vc);rw [HE.out.1];rfl
   ·show RowAt wr (.slice vo (chgL 1 ps qs).length vc) (chgL 1 ps qs).length (flatT (chgL 1 ps qs));rw [HE.out.1];exact Zd HE.out.2.1
theorem rWant4 (ba:Int) (ao:Option Addr) (n ac:Nat) (ps:List Pl) (bb:Int) (bo:Option Addr) (m bc:Nat) (qs:List Pl) (w:World) (hr:RowAt w (.slice ao n ac) n (flatP ps)) (hn:ps.length=n) (hn2:n≤6) (hr2:RowAt w (.slice bo m bc) m (flatP qs)) (hm:qs.length=m) (hm2:m≤6) (hpos:∀ p∈qs,0≤p.sz) :
  Calls Tryz.prog 76 #[.agg #[.int .i64 ba,.slice ao n ac],.agg #[.int .i64 bb,.slice bo m bc],.int .i64 4] w fun e w'=>GaveS w w' (kindL 4 ba ps bb qs) e:=by
 obtain ⟨W,hW⟩:∃ W,W=(w.alloc (bTab ba (.slice ao n ac))).alloc (bTab bb (.slice bo m bc)):=⟨_,rfl⟩;have hbW:Below w.heap.size w W:=by rw [hW];exact Za (Zb _ _) (Zb _ _)
 have HW:Hid (W=(w.alloc (bTab ba (.slice ao n ac))).alloc (bTab bb (.slice bo m bc))∧W.heap[w.heap.size]?=some (bTab ba (.slice ao n ac))∧W.heap[w.heap.size+1]?=some (bTab bb (.slice bo m bc))∧w.heap.size+2=W.heap.size∧Below w.heap.size w W):=by
  refine ⟨hW,?_,?_,?_,hbW⟩
  ·rw [hW];exact (Zf _ _ (by simp)).trans (Zc _ _ rfl)
  ·rw [hW];exact Zc _ _ (by simp)
  ·rw [hW];simp
 have HF:=hideIt (fun u (hb:Below W.heap.size W u) name=>rWas ba ao n ac name ps u ((hr.nx hbW).nx hb) hn (by unfold maxLen;omega));have HG:=hideIt (fun u (hb:Below W.heap.size W u) name=>rWas bb bo m bc name qs u ((hr2.nx hbW).nx hb) hm (by unfold maxLen;omega));have HA:Hid (RowAt W (.slice ao n ac) n (flatP ps)∧ps.length=n):=⟨hr.nx hbW,hn⟩;have HR:Hid (RowAt W (.slice bo m bc) m (flatP qs)∧qs.length=m∧∀ p∈qs,0≤p.sz):=⟨hr2.nx hbW,hm,hpos⟩;clear hr hn hr2 hm hpos hW hbW;go_enter Tryz.func76,Tryz.ntmps76
 go_wp2_with fail
 rw [←HW.out.1];go_loopw [7,11] (fun l i wr=>∃ (k j:Nat) (vo:Option Addr) (vc:Nat),k≤m∧j≤k∧i=.int .i64 k∧l=.slice vo j vc∧Hid ((missL 4 (qs.take k) ps).length=j∧wr.ownsRow W.heap.size 72 3 (.slice vo j vc) j (flatT (missL 4 (qs.take k) ps))∧Below W.heap.size W wr)) (fun _ i _=>m - (intOf i).toNat)
 case atStart=>exact ⟨0,0,none,0,Nat.zero_le _,Nat.le_refl _,rfl,rfl,rfl,World.ownsRow_nil _ _ _ _,Below.refl _ _⟩
 case round =>
  obtain ⟨k,j,vo,vc,hk,hj,rfl,rfl,HS⟩:=hrel;have hra:wr.heap[w.heap.size]?=some (bTab ba (.slice ao n ac)):=(HS.out.2.2.block _ (by have:=HW.out.2.2.2.1;omega)).trans HW.out.2.1;have hrb:wr.heap[w.heap.size+1]?=some (bTab bb (.slice bo m bc)):=(HS.out.2.2.block _ (by have:=HW.out.2.2.2.1;omega)).trans HW.out.2.2.1;have HBU:Hid (Below W.heap.size W wr):=HS.out.2.2;obtain ⟨b0,b1,bz⟩:=blk2 hrb;have hzr:w.heap.size+1<wr.heap.size:=(Array.getElem?_eq_some_iff.1 hrb).1;by_cases hlt:k<m
  ·obtain ⟨⟨x0,x1,x2,x3⟩,hp⟩:∃ p,qs[k]?=some p:=⟨_,List.getElem?_eq_getElem (by rw [HR.out.2.1];exact hlt)⟩;have hx1:0≤x1:=HR.out.2.2 _ (List.mem_of_getElem? hp);obtain ⟨bl,off,hao,hbl,c0,c1,c2,c3⟩:=Zn (HR.out.1.nx HBU.out) hp;subst hao;simp only at c0 c1 c2 c3;have hlti:(k:Int)<(m:Int):=by omega
   obtain ⟨⟨y0,y1,y2,y3⟩,hy⟩:∃ y,inP ps x0=y:=⟨_,rfl⟩;obtain ⟨inb,hin⟩:∃ inb,ps.any (isNameP x0)=inb:=⟨_,rfl⟩;have HIN:Hid (inb=false→y1=0):=by
    intro h;rw [h] at hin;have:ps.find? (isNameP x0)=none:=by
     rw [List.find?_eq_none];exact List.any_eq_false.1 hin
    rw [inP,this] at hy;injection hy with _ h2 _ _
    exact h2.symm
   have HNX:Hid (missL 4 (qs.take (k+1)) ps=missL 4 (qs.take k) ps++if (!inb)=true then [stepP 4 x0 0] else []):=by
    obtain ⟨hk',e⟩:=List.getElem?_eq_some_iff.1 hp;show _=_;unfold missL;rw [List.take_succ_eq_append_getElem hk',List.filter_append,List.map_append,e];congr 1;cases hkk:inb <;> simp [hasP,hin,hkk]
   clear hp;obtain ⟨W1,hW1⟩:∃ W1,W1=wr.alloc (bPl ⟨x0,x1,x2,x3⟩):=⟨_,rfl⟩;have H1:Hid (W1=wr.alloc (bPl ⟨x0,x1,x2,x3⟩)∧Below wr.heap.size wr W1∧W1.heap[wr.heap.size]?=some (bPl ⟨x0,x1,x2,x3⟩)):=⟨hW1,by rw [hW1];exact Zb _ _,by rw [hW1];exact Zc _ _ rfl⟩;have HF1:=hideIt (HF.out W1 (Za HBU.out H1.out.2.1) x0);rw [hy,hin] at HF1;have a1:∀ o,(wr.alloc o).heap[w.heap.size]?=some (bTab ba (.slice ao n ac)):=fun o=>(Zf _ _ (by omega)).trans hra
   have a2:=fun o=>(blk2 (a1 o)).1
   have a3:=fun o=>(blk2 (a1 o)).2.1
   clear hW1 hy hin hra hrb a1;go_wp2_with fail
   rw [←H1.out.1];refine HF1.out.mono ?_;rintro e w2 ⟨rfl,hb2⟩;have hz1:wr.heap.size<W1.heap.size:=(Array.getElem?_eq_some_iff.1 H1.out.2.2).1;obtain ⟨d0,d1,d2,d3,dz⟩:=blk4 hb2 hz1 H1.out.2.2;have hz2:wr.heap.size<w2.heap.size:=Nat.lt_of_lt_of_le hz1 hb2.size;have HB2:Hid (Below wr.heap.size wr w2):=Za H1.out.2.1 hb2;have HSW:Hid (w2.ownsRow W.heap.size 72 3 (.slice vo j vc) j (flatT (missL 4 (qs.take k) ps))∧Below W.heap.size W w2):=⟨Zk HS.out.2.1 HB2.out,Za HS.out.2.2 HB2.out⟩;clear hb2 a2 a3 c0 c1 c2 c3 b0 b1 bz;cases inb with
   | false =>
    have HN:Hid (missL 4 (qs.take (k+1)) ps=missL 4 (qs.take k) ps++[stepP 4 x0 0]):=by
     show _=_;rw [HNX.out,if_pos (by rfl)]
    clear HNX;have HX:Hid (((w2.alloc (bPl ⟨y0,y1,y2,y3⟩)).alloc (.cells #[.int .i64 4,.string x0,.int .i64 0] 72)).ownsRow W.heap.size 72 3 (.slice vo j vc) j (flatT (missL 4 (qs.take k) ps))∧Below W.heap.size W ((w2.alloc (bPl ⟨y0,y1,y2,y3⟩)).alloc (.cells #[.int .i64 4,.string x0,.int .i64 0] 72))):=⟨(HSW.out.1.alloc _).alloc _,Za HSW.out.2 (Za (Zb _ _) (Zb _ _))⟩;go_wp2_with (at_builtin;refine appendG 72 34 3 32 _ Z7 Tryz.underlying34 rfl (by decide) (by decide) rfl (.tmp 149) (.tmp 151) rfl W.heap.size _ j (flatT (missL 4 (qs.take k) ps)) rfl (HX.out.1.alloc _) (some ⟨w2.heap.size+1+1,0,none⟩) 1 1 [.int .i64 4,.string x0,.int .i64 0] rfl rfl (ZA _ [.int .i64 4,.string x0,.int .i64 0] _ 1 (by simp)) (by intro u hu;simp at hu;rcases hu with rfl | rfl | rfl <;> rfl) (fun h=>by cases h) (by omega) (by have:=HX.out.2.size;simp at this ⊢;omega) ?next)
    case next =>
     intro v' w6 hown6 hb6;obtain ⟨vo6,vc6,rfl,_⟩:=Zd hown6;have K6:Hid ((missL 4 (qs.take (k+1)) ps).length=j+1∧w6.ownsRow W.heap.size 72 3 (.slice vo6 (j+1) vc6) (j+1) (flatT (missL 4 (qs.take (k+1)) ps))∧Below W.heap.size W w6):=by
      refine ⟨by rw [HN.out];simp [HS.out.1],?_,(HX.out.2.alloc HX.out.2.size _).trans hb6⟩;rw [HN.out];unfold flatT;rw [List.flatMap_append];exact hown6
     clear hown6 hb6;go_wp2_with fail
     go_roundw
     case rel=>exact ⟨k+1,j+1,vo6,vc6,by omega,by omega,by go_num,rfl,K6.out⟩
     case measure=>simp [intOf];omega
   | true =>
    have HN:Hid (missL 4 (qs.take (k+1)) ps=missL 4 (qs.take k) ps):=by
     show _=_;rw [HNX.out,if_neg (by simp)];simp
    clear HNX;go_wp2_with fail
    go_roundw
    case rel=>exact ⟨k+1,j,vo,vc,by omega,by omega,by go_num,rfl,by rw [HN.out];exact ⟨HS.out.1,(HSW.out.1.alloc _).alloc _,Za HSW.out.2 (Za (Zb _ _) (Zb _ _))⟩⟩
    case measure=>simp [intOf];omega
  ·have HE:Hid ((missL 4 qs ps).length=j∧wr.ownsRow W.heap.size 72 3 (.slice vo j vc) j (flatT (missL 4 qs ps))∧Below W.heap.size W wr):=by
    have ht:qs.take k=qs:=List.take_of_length_le (by rw [HR.out.2.1];omega);have:=HS.out;rw [ht] at this;exact this
   clear hra hrb;go_wp2_with fail
   go_ret
   refine ⟨vo,vc,?_,?_,Zv HE.out.2.1,Za HW.out.2.2.2.2 HE.out.2.2⟩
   ·show Ending.returned _=Ending.returned (.slice vo (missL 4 qs ps).length vc);rw [HE.out.1];rfl
   ·show RowAt wr (.slice vo (missL 4 qs ps).length vc) (missL 4 qs ps).length (flatT (missL 4 qs ps));rw [HE.out.1];exact Zd HE.out.2.1
theorem rWant5 (ba:Int) (ao:Option Addr) (n ac:Nat) (ps:List Pl) (bb:Int) (bo:Option Addr) (m bc:Nat) (qs:List Pl) (w:World) (hr:RowAt w (.slice ao n ac) n (flatP ps)) (hn:ps.length=n) (hn2:n≤6) (hr2:RowAt w (.slice bo m bc) m (flatP qs)) (hm:qs.length=m) (hm2:m≤6) (hpos:∀ p∈qs,0≤p.sz) :
  Calls Tryz.prog 76 #[.agg #[.int .i64 ba,.slice ao n ac],.agg #[.int .i64 bb,.slice bo m bc],.int .i64 5] w fun e w'=>GaveS w w' (kindL 5 ba ps bb qs) e:=by
 obtain ⟨W,hW⟩:∃ W,W=(w.alloc (bTab ba (.slice ao n ac))).alloc (bTab bb (.slice bo m bc)):=⟨_,rfl⟩;have hbW:Below w.heap.size w W:=by rw [hW];exact Za (Zb _ _) (Zb _ _)
 have HW:Hid (W=(w.alloc (bTab ba (.slice ao n ac))).alloc (bTab bb (.slice bo m bc))∧W.heap[w.heap.size]?=some (bTab ba (.slice ao n ac))∧W.heap[w.heap.size+1]?=some (bTab bb (.slice bo m bc))∧w.heap.size+2=W.heap.size∧Below w.heap.size w W):=by
  refine ⟨hW,?_,?_,?_,hbW⟩
  ·rw [hW];exact (Zf _ _ (by simp)).trans (Zc _ _ rfl)
  ·rw [hW];exact Zc _ _ (by simp)
  ·rw [hW];simp
 have HF:=hideIt (fun u (hb:Below W.heap.size W u) name=>rWas ba ao n ac name ps u ((hr.nx hbW).nx hb) hn (by unfold maxLen;omega));have HG:=hideIt (fun u (hb:Below W.heap.size W u) name=>rWas bb bo m bc name qs u ((hr2.nx hbW).nx hb) hm (by unfold maxLen;omega));have HA:Hid (RowAt W (.slice ao n ac) n (flatP ps)∧ps.length=n):=⟨hr.nx hbW,hn⟩;have HR:Hid (RowAt W (.slice bo m bc) m (flatP qs)∧qs.length=m∧∀ p∈qs,0≤p.sz):=⟨hr2.nx hbW,hm,hpos⟩;clear hr hn hr2 hm hpos hW hbW;go_enter Tryz.func76,Tryz.ntmps76
 go_wp2_with fail
 rw [←HW.out.1];go_loopw [7,11] (fun l i wr=>∃ (k j:Nat) (vo:Option Addr) (vc:Nat),k≤m∧j≤k∧i=.int .i64 k∧l=.slice vo j vc∧Hid ((chgL 5 ps (qs.take k)).length=j∧wr.ownsRow W.heap.size 72 3 (.slice vo j vc) j (flatT (chgL 5 ps (qs.take k)))∧Below W.heap.size W wr)) (fun _ i _=>m - (intOf i).toNat)
 case atStart=>exact ⟨0,0,none,0,Nat.zero_le _,Nat.le_refl _,rfl,rfl,rfl,World.ownsRow_nil _ _ _ _,Below.refl _ _⟩
 case round =>
  obtain ⟨k,j,vo,vc,hk,hj,rfl,rfl,HS⟩:=hrel;have hra:wr.heap[w.heap.size]?=some (bTab ba (.slice ao n ac)):=(HS.out.2.2.block _ (by have:=HW.out.2.2.2.1;omega)).trans HW.out.2.1;have hrb:wr.heap[w.heap.size+1]?=some (bTab bb (.slice bo m bc)):=(HS.out.2.2.block _ (by have:=HW.out.2.2.2.1;omega)).trans HW.out.2.2.1;have HBU:Hid (Below W.heap.size W wr):=HS.out.2.2;obtain ⟨b0,b1,bz⟩:=blk2 hrb;have hzr:w.heap.size+1<wr.heap.size:=(Array.getElem?_eq_some_iff.1 hrb).1;by_cases hlt:k<m
  ·obtain ⟨⟨x0,x1,x2,x3⟩,hp⟩:∃ p,qs[k]?=some p:=⟨_,List.getElem?_eq_getElem (by rw [HR.out.2.1];exact hlt)⟩;have hx1:0≤x1:=HR.out.2.2 _ (List.mem_of_getElem? hp);obtain ⟨bl,off,hao,hbl,c0,c1,c2,c3⟩:=Zn (HR.out.1.nx HBU.out) hp;subst hao;simp only at c0 c1 c2 c3;have hlti:(k:Int)<(m:Int):=by omega
   obtain ⟨⟨y0,y1,y2,y3⟩,hy⟩:∃ y,inP ps x0=y:=⟨_,rfl⟩;obtain ⟨inb,hin⟩:∃ inb,ps.any (isNameP x0)=inb:=⟨_,rfl⟩;have HIN:Hid (inb=false→y1=0):=by
    intro h;rw [h] at hin;have:ps.find? (isNameP x0)=none:=by
     rw [List.find?_eq_none];exact List.any_eq_false.1 hin
    rw [inP,this] at hy;injection hy with _ h2 _ _
    exact h2.symm
   have HNX:Hid (chgL 5 ps (qs.take (k+1))=chgL 5 ps (qs.take k)++if (x3 != y3)=true then [stepP 5 x0 x3] else []):=by
    obtain ⟨hk',e⟩:=List.getElem?_eq_some_iff.1 hp;show _=_;unfold chgL;rw [List.take_succ_eq_append_getElem hk',List.filter_append,List.map_append,e];congr 1;have hc:chgP 5 ps ⟨x0,x1,x2,x3⟩=(x3 != y3):=by
     unfold chgP;rw [hy];by_cases h:x3=y3 <;> simp [leadsB,numP,h]
    cases hkk:(x3 != y3) with
    | false =>
     rw [if_neg (by simp)];simp [hc,hkk]
    | true =>
     rw [if_pos (rfl)];simp [hc,hkk,numP]
   clear hp;obtain ⟨W1,hW1⟩:∃ W1,W1=wr.alloc (bPl ⟨x0,x1,x2,x3⟩):=⟨_,rfl⟩;have H1:Hid (W1=wr.alloc (bPl ⟨x0,x1,x2,x3⟩)∧Below wr.heap.size wr W1∧W1.heap[wr.heap.size]?=some (bPl ⟨x0,x1,x2,x3⟩)):=⟨hW1,by rw [hW1];exact Zb _ _,by rw [hW1];exact Zc _ _ rfl⟩;have HF1:=hideIt (HF.out W1 (Za HBU.out H1.out.2.1) x0);rw [hy,hin] at HF1;have a1:∀ o,(wr.alloc o).heap[w.heap.size]?=some (bTab ba (.slice ao n ac)):=fun o=>(Zf _ _ (by omega)).trans hra
   have a2:=fun o=>(blk2 (a1 o)).1
   have a3:=fun o=>(blk2 (a1 o)).2.1
   clear hW1 hy hin hra hrb a1;go_wp2_with fail
   rw [←H1.out.1];refine HF1.out.mono ?_;rintro e w2 ⟨rfl,hb2⟩;have hz1:wr.heap.size<W1.heap.size:=(Array.getElem?_eq_some_iff.1 H1.out.2.2).1;obtain ⟨d0,d1,d2,d3,dz⟩:=blk4 hb2 hz1 H1.out.2.2;have hz2:wr.heap.size<w2.heap.size:=Nat.lt_of_lt_of_le hz1 hb2.size;have HB2:Hid (Below wr.heap.size wr w2):=Za H1.out.2.1 hb2;have HSW:Hid (w2.ownsRow W.heap.size 72 3 (.slice vo j vc) j (flatT (chgL 5 ps (qs.take k)))∧Below W.heap.size W w2):=⟨Zk HS.out.2.1 HB2.out,Za HS.out.2.2 HB2.out⟩;clear hb2 a2 a3 c0 c1 c2 c3 b0 b1 bz;cases hx:(x3 != y3) with
   | false =>
    have HN:Hid (chgL 5 ps (qs.take (k+1))=chgL 5 ps (qs.take k)):=by
     show _=_;rw [HNX.out,if_neg (by rw [hx];simp)];simp
    clear HNX;go_wp2_with fail
    go_roundw
    case rel=>exact ⟨k+1,j,vo,vc,by omega,by omega,by go_num,rfl,by rw [HN.out];exact ⟨HS.out.1,(HSW.out.1.alloc _).alloc _,Za HSW.out.2 (Za (Zb _ _) (Zb _ _))⟩⟩
    case measure=>simp [intOf];omega
   | true =>
    have HN:Hid (chgL 5 ps (qs.take (k+1))=chgL 5 ps (qs.take k)++[stepP 5 x0 x3]):=by
     show _=_;rw [HNX.out,if_pos (by rw [hx])]
    clear HNX;have HX:Hid (((w2.alloc (bPl ⟨y0,y1,y2,y3⟩)).alloc (.cells #[.int .i64 5,.string x0,.int .i64 x3] 72)).ownsRow W.heap.size 72 3 (.slice vo j vc) j (flatT (chgL 5 ps (qs.take k)))∧Below W.heap.size W ((w2.alloc (bPl ⟨y0,y1,y2,y3⟩)).alloc (.cells #[.int .i64 5,.string x0,.int .i64 x3] 72))):=⟨(HSW.out.1.alloc _).alloc _,Za HSW.out.2 (Za (Zb _ _) (Zb _ _))⟩;go_wp2_with (at_builtin;refine appendG 72 34 3 32 _ Z7 Tryz.underlying34 rfl (by decide) (by decide) rfl (.tmp 149) (.tmp 151) rfl W.heap.size _ j (flatT (chgL 5 ps (qs.take k))) rfl (HX.out.1.alloc _) (some ⟨w2.heap.size+1+1,0,none⟩) 1 1 [.int .i64 5,.string x0,.int .i64 x3] rfl rfl (ZA _ [.int .i64 5,.string x0,.int .i64 x3] _ 1 (by simp)) (by intro u hu;simp at hu;rcases hu with rfl | rfl | rfl <;> rfl) (fun h=>by cases h) (by omega) (by have:=HX.out.2.size;simp at this ⊢;omega) ?next)
    case next =>
     intro v' w6 hown6 hb6;obtain ⟨vo6,vc6,rfl,_⟩:=Zd hown6;have K6:Hid ((chgL 5 ps (qs.take (k+1))).length=j+1∧w6.ownsRow W.heap.size 72 3 (.slice vo6 (j+1) vc6) (j+1) (flatT (chgL 5 ps (qs.take (k+1))))∧Below W.heap.size W w6):=by
      refine ⟨by rw [HN.out];simp [HS.out.1],?_,(HX.out.2.alloc HX.out.2.size _).trans hb6⟩;rw [HN.out];unfold flatT;rw [List.flatMap_append];exact hown6
     clear hown6 hb6;go_wp2_with fail
     go_roundw
     case rel=>exact ⟨k+1,j+1,vo6,vc6,by omega,by omega,by go_num,rfl,K6.out⟩
     case measure=>simp [intOf];omega
  ·have HE:Hid ((chgL 5 ps qs).length=j∧wr.ownsRow W.heap.size 72 3 (.slice vo j vc) j (flatT (chgL 5 ps qs))∧Below W.heap.size W wr):=by
    have ht:qs.take k=qs:=List.take_of_length_le (by rw [HR.out.2.1];omega);have:=HS.out;rw [ht] at this;exact this
   clear hra hrb;go_wp2_with fail
   go_ret
   refine ⟨vo,vc,?_,?_,Zv HE.out.2.1,Za HW.out.2.2.2.2 HE.out.2.2⟩
   ·show Ending.returned _=Ending.returned (.slice vo (chgL 5 ps qs).length vc);rw [HE.out.1];rfl
   ·show RowAt wr (.slice vo (chgL 5 ps qs).length vc) (chgL 5 ps qs).length (flatT (chgL 5 ps qs));rw [HE.out.1];exact Zd HE.out.2.1
theorem rWant6 (ba:Int) (ao:Option Addr) (n ac:Nat) (ps:List Pl) (bb:Int) (bo:Option Addr) (m bc:Nat) (qs:List Pl) (w:World) (hr:RowAt w (.slice ao n ac) n (flatP ps)) (hn:ps.length=n) (hn2:n≤6) (hr2:RowAt w (.slice bo m bc) m (flatP qs)) (hm:qs.length=m) (hm2:m≤6) (hpos:∀ p∈qs,0≤p.sz) :
  Calls Tryz.prog 76 #[.agg #[.int .i64 ba,.slice ao n ac],.agg #[.int .i64 bb,.slice bo m bc],.int .i64 6] w fun e w'=>GaveS w w' (kindL 6 ba ps bb qs) e:=by
 obtain ⟨W,hW⟩:∃ W,W=(w.alloc (bTab ba (.slice ao n ac))).alloc (bTab bb (.slice bo m bc)):=⟨_,rfl⟩;have hbW:Below w.heap.size w W:=by rw [hW];exact Za (Zb _ _) (Zb _ _)
 have HW:Hid (W=(w.alloc (bTab ba (.slice ao n ac))).alloc (bTab bb (.slice bo m bc))∧W.heap[w.heap.size]?=some (bTab ba (.slice ao n ac))∧W.heap[w.heap.size+1]?=some (bTab bb (.slice bo m bc))∧w.heap.size+2=W.heap.size∧Below w.heap.size w W):=by
  refine ⟨hW,?_,?_,?_,hbW⟩
  ·rw [hW];exact (Zf _ _ (by simp)).trans (Zc _ _ rfl)
  ·rw [hW];exact Zc _ _ (by simp)
  ·rw [hW];simp
 have HF:=hideIt (fun u (hb:Below W.heap.size W u) name=>rWas ba ao n ac name ps u ((hr.nx hbW).nx hb) hn (by unfold maxLen;omega));have HG:=hideIt (fun u (hb:Below W.heap.size W u) name=>rWas bb bo m bc name qs u ((hr2.nx hbW).nx hb) hm (by unfold maxLen;omega));have HA:Hid (RowAt W (.slice ao n ac) n (flatP ps)∧ps.length=n):=⟨hr.nx hbW,hn⟩;have HR:Hid (RowAt W (.slice bo m bc) m (flatP qs)∧qs.length=m∧∀ p∈qs,0≤p.sz):=⟨hr2.nx hbW,hm,hpos⟩;clear hr hn hr2 hm hpos hW hbW;go_enter Tryz.func76,Tryz.ntmps76
 go_wp2_with fail
 rw [←HW.out.1];go_loopw [7,11] (fun l i wr=>∃ (k j:Nat) (vo:Option Addr) (vc:Nat),k≤m∧j≤k∧i=.int .i64 k∧l=.slice vo j vc∧Hid ((chgL 6 ps (qs.take k)).length=j∧wr.ownsRow W.heap.size 72 3 (.slice vo j vc) j (flatT (chgL 6 ps (qs.take k)))∧Below W.heap.size W wr)) (fun _ i _=>m - (intOf i).toNat)
 case atStart=>exact ⟨0,0,none,0,Nat.zero_le _,Nat.le_refl _,rfl,rfl,rfl,World.ownsRow_nil _ _ _ _,Below.refl _ _⟩
 case round =>
  obtain ⟨k,j,vo,vc,hk,hj,rfl,rfl,HS⟩:=hrel;have hra:wr.heap[w.heap.size]?=some (bTab ba (.slice ao n ac)):=(HS.out.2.2.block _ (by have:=HW.out.2.2.2.1;omega)).trans HW.out.2.1;have hrb:wr.heap[w.heap.size+1]?=some (bTab bb (.slice bo m bc)):=(HS.out.2.2.block _ (by have:=HW.out.2.2.2.1;omega)).trans HW.out.2.2.1;have HBU:Hid (Below W.heap.size W wr):=HS.out.2.2;obtain ⟨b0,b1,bz⟩:=blk2 hrb;have hzr:w.heap.size+1<wr.heap.size:=(Array.getElem?_eq_some_iff.1 hrb).1;by_cases hlt:k<m
  ·obtain ⟨⟨x0,x1,x2,x3⟩,hp⟩:∃ p,qs[k]?=some p:=⟨_,List.getElem?_eq_getElem (by rw [HR.out.2.1];exact hlt)⟩;have hx1:0≤x1:=HR.out.2.2 _ (List.mem_of_getElem? hp);obtain ⟨bl,off,hao,hbl,c0,c1,c2,c3⟩:=Zn (HR.out.1.nx HBU.out) hp;subst hao;simp only at c0 c1 c2 c3;have hlti:(k:Int)<(m:Int):=by omega
   obtain ⟨⟨y0,y1,y2,y3⟩,hy⟩:∃ y,inP ps x0=y:=⟨_,rfl⟩;obtain ⟨inb,hin⟩:∃ inb,ps.any (isNameP x0)=inb:=⟨_,rfl⟩;have HIN:Hid (inb=false→y1=0):=by
    intro h;rw [h] at hin;have:ps.find? (isNameP x0)=none:=by
     rw [List.find?_eq_none];exact List.any_eq_false.1 hin
    rw [inP,this] at hy;injection hy with _ h2 _ _
    exact h2.symm
   have HNX:Hid (chgL 6 ps (qs.take (k+1))=chgL 6 ps (qs.take k)++if (x2 != y2)=true then [stepP 6 x0 x2] else []):=by
    obtain ⟨hk',e⟩:=List.getElem?_eq_some_iff.1 hp;show _=_;unfold chgL;rw [List.take_succ_eq_append_getElem hk',List.filter_append,List.map_append,e];congr 1;have hc:chgP 6 ps ⟨x0,x1,x2,x3⟩=(x2 != y2):=by
     unfold chgP;rw [hy];by_cases h:x2=y2 <;> simp [leadsB,numP,h]
    cases hkk:(x2 != y2) with
    | false =>
     rw [if_neg (by simp)];simp [hc,hkk]
    | true =>
     rw [if_pos (rfl)];simp [hc,hkk,numP]
   clear hp;obtain ⟨W1,hW1⟩:∃ W1,W1=wr.alloc (bPl ⟨x0,x1,x2,x3⟩):=⟨_,rfl⟩;have H1:Hid (W1=wr.alloc (bPl ⟨x0,x1,x2,x3⟩)∧Below wr.heap.size wr W1∧W1.heap[wr.heap.size]?=some (bPl ⟨x0,x1,x2,x3⟩)):=⟨hW1,by rw [hW1];exact Zb _ _,by rw [hW1];exact Zc _ _ rfl⟩;have HF1:=hideIt (HF.out W1 (Za HBU.out H1.out.2.1) x0);rw [hy,hin] at HF1;have a1:∀ o,(wr.alloc o).heap[w.heap.size]?=some (bTab ba (.slice ao n ac)):=fun o=>(Zf _ _ (by omega)).trans hra
   have a2:=fun o=>(blk2 (a1 o)).1
   have a3:=fun o=>(blk2 (a1 o)).2.1
   clear hW1 hy hin hra hrb a1;go_wp2_with fail
   rw [←H1.out.1];refine HF1.out.mono ?_;rintro e w2 ⟨rfl,hb2⟩;have hz1:wr.heap.size<W1.heap.size:=(Array.getElem?_eq_some_iff.1 H1.out.2.2).1;obtain ⟨d0,d1,d2,d3,dz⟩:=blk4 hb2 hz1 H1.out.2.2;have hz2:wr.heap.size<w2.heap.size:=Nat.lt_of_lt_of_le hz1 hb2.size;have HB2:Hid (Below wr.heap.size wr w2):=Za H1.out.2.1 hb2;have HSW:Hid (w2.ownsRow W.heap.size 72 3 (.slice vo j vc) j (flatT (chgL 6 ps (qs.take k)))∧Below W.heap.size W w2):=⟨Zk HS.out.2.1 HB2.out,Za HS.out.2.2 HB2.out⟩;clear hb2 a2 a3 c0 c1 c2 c3 b0 b1 bz;cases hx:(x2 != y2) with
   | false =>
    have HN:Hid (chgL 6 ps (qs.take (k+1))=chgL 6 ps (qs.take k)):=by
     show _=_;rw [HNX.out,if_neg (by rw [hx];simp)];simp
    clear HNX;go_wp2_with fail
    go_roundw
    case rel=>exact ⟨k+1,j,vo,vc,by omega,by omega,by go_num,rfl,by rw [HN.out];exact ⟨HS.out.1,(HSW.out.1.alloc _).alloc _,Za HSW.out.2 (Za (Zb _ _) (Zb _ _))⟩⟩
    case measure=>simp [intOf];omega
   | true =>
    have HN:Hid (chgL 6 ps (qs.take (k+1))=chgL 6 ps (qs.take k)++[stepP 6 x0 x2]):=by
     show _=_;rw [HNX.out,if_pos (by rw [hx])]
    clear HNX;have HX:Hid (((w2.alloc (bPl ⟨y0,y1,y2,y3⟩)).alloc (.cells #[.int .i64 6,.string x0,.int .i64 x2] 72)).ownsRow W.heap.size 72 3 (.slice vo j vc) j (flatT (chgL 6 ps (qs.take k)))∧Below W.heap.size W ((w2.alloc (bPl ⟨y0,y1,y2,y3⟩)).alloc (.cells #[.int .i64 6,.string x0,.int .i64 x2] 72))):=⟨(HSW.out.1.alloc _).alloc _,Za HSW.out.2 (Za (Zb _ _) (Zb _ _))⟩;go_wp2_with (at_builtin;refine appendG 72 34 3 32 _ Z7 Tryz.underlying34 rfl (by decide) (by decide) rfl (.tmp 149) (.tmp 151) rfl W.heap.size _ j (flatT (chgL 6 ps (qs.take k))) rfl (HX.out.1.alloc _) (some ⟨w2.heap.size+1+1,0,none⟩) 1 1 [.int .i64 6,.string x0,.int .i64 x2] rfl rfl (ZA _ [.int .i64 6,.string x0,.int .i64 x2] _ 1 (by simp)) (by intro u hu;simp at hu;rcases hu with rfl | rfl | rfl <;> rfl) (fun h=>by cases h) (by omega) (by have:=HX.out.2.size;simp at this ⊢;omega) ?next)
    case next =>
     intro v' w6 hown6 hb6;obtain ⟨vo6,vc6,rfl,_⟩:=Zd hown6;have K6:Hid ((chgL 6 ps (qs.take (k+1))).length=j+1∧w6.ownsRow W.heap.size 72 3 (.slice vo6 (j+1) vc6) (j+1) (flatT (chgL 6 ps (qs.take (k+1))))∧Below W.heap.size W w6):=by
      refine ⟨by rw [HN.out];simp [HS.out.1],?_,(HX.out.2.alloc HX.out.2.size _).trans hb6⟩;rw [HN.out];unfold flatT;rw [List.flatMap_append];exact hown6
     clear hown6 hb6;go_wp2_with fail
     go_roundw
     case rel=>exact ⟨k+1,j+1,vo6,vc6,by omega,by omega,by go_num,rfl,K6.out⟩
     case measure=>simp [intOf];omega
  ·have HE:Hid ((chgL 6 ps qs).length=j∧wr.ownsRow W.heap.size 72 3 (.slice vo j vc) j (flatT (chgL 6 ps qs))∧Below W.heap.size W wr):=by
    have ht:qs.take k=qs:=List.take_of_length_le (by rw [HR.out.2.1];omega);have:=HS.out;rw [ht] at this;exact this
   clear hra hrb;go_wp2_with fail
   go_ret
   refine ⟨vo,vc,?_,?_,Zv HE.out.2.1,Za HW.out.2.2.2.2 HE.out.2.2⟩
   ·show Ending.returned _=Ending.returned (.slice vo (chgL 6 ps qs).length vc);rw [HE.out.1];rfl
   ·show RowAt wr (.slice vo (chgL 6 ps qs).length vc) (chgL 6 ps qs).length (flatT (chgL 6 ps qs));rw [HE.out.1];exact Zd HE.out.2.1
theorem rWant8 (ba:Int) (ao:Option Addr) (n ac:Nat) (ps:List Pl) (bb:Int) (bo:Option Addr) (m bc:Nat) (qs:List Pl) (w:World) (hr:RowAt w (.slice ao n ac) n (flatP ps)) (hn:ps.length=n) (hn2:n≤6) (hr2:RowAt w (.slice bo m bc) m (flatP qs)) (hm:qs.length=m) (hm2:m≤6) (hpos:∀ p∈qs,0≤p.sz) :
  Calls Tryz.prog 76 #[.agg #[.int .i64 ba,.slice ao n ac],.agg #[.int .i64 bb,.slice bo m bc],.int .i64 8] w fun e w'=>GaveS w w' (kindL 8 ba ps bb qs) e:=by
 obtain ⟨W,hW⟩:∃ W,W=(w.alloc (bTab ba (.slice ao n ac))).alloc (bTab bb (.slice bo m bc)):=⟨_,rfl⟩;have hbW:Below w.heap.size w W:=by rw [hW];exact Za (Zb _ _) (Zb _ _)
 have HW:Hid (W=(w.alloc (bTab ba (.slice ao n ac))).alloc (bTab bb (.slice bo m bc))∧W.heap[w.heap.size]?=some (bTab ba (.slice ao n ac))∧W.heap[w.heap.size+1]?=some (bTab bb (.slice bo m bc))∧w.heap.size+2=W.heap.size∧Below w.heap.size w W):=by
  refine ⟨hW,?_,?_,?_,hbW⟩
  ·rw [hW];exact (Zf _ _ (by simp)).trans (Zc _ _ rfl)
  ·rw [hW];exact Zc _ _ (by simp)
  ·rw [hW];simp
 have HF:=hideIt (fun u (hb:Below W.heap.size W u) name=>rWas ba ao n ac name ps u ((hr.nx hbW).nx hb) hn (by unfold maxLen;omega));have HG:=hideIt (fun u (hb:Below W.heap.size W u) name=>rWas bb bo m bc name qs u ((hr2.nx hbW).nx hb) hm (by unfold maxLen;omega));have HA:Hid (RowAt W (.slice ao n ac) n (flatP ps)∧ps.length=n):=⟨hr.nx hbW,hn⟩;have HR:Hid (RowAt W (.slice bo m bc) m (flatP qs)∧qs.length=m∧∀ p∈qs,0≤p.sz):=⟨hr2.nx hbW,hm,hpos⟩;clear hr hn hr2 hm hpos hW hbW;go_enter Tryz.func76,Tryz.ntmps76
 go_wp2_with fail
 rw [←HW.out.1];go_loopw [7,11] (fun l i wr=>∃ (k j:Nat) (vo:Option Addr) (vc:Nat),k≤m∧j≤k∧i=.int .i64 k∧l=.slice vo j vc∧Hid ((chgL 8 ps (qs.take k)).length=j∧wr.ownsRow W.heap.size 72 3 (.slice vo j vc) j (flatT (chgL 8 ps (qs.take k)))∧Below W.heap.size W wr)) (fun _ i _=>m - (intOf i).toNat)
 case atStart=>exact ⟨0,0,none,0,Nat.zero_le _,Nat.le_refl _,rfl,rfl,rfl,World.ownsRow_nil _ _ _ _,Below.refl _ _⟩
 case round =>
  obtain ⟨k,j,vo,vc,hk,hj,rfl,rfl,HS⟩:=hrel;have hra:wr.heap[w.heap.size]?=some (bTab ba (.slice ao n ac)):=(HS.out.2.2.block _ (by have:=HW.out.2.2.2.1;omega)).trans HW.out.2.1;have hrb:wr.heap[w.heap.size+1]?=some (bTab bb (.slice bo m bc)):=(HS.out.2.2.block _ (by have:=HW.out.2.2.2.1;omega)).trans HW.out.2.2.1;have HBU:Hid (Below W.heap.size W wr):=HS.out.2.2;obtain ⟨b0,b1,bz⟩:=blk2 hrb;have hzr:w.heap.size+1<wr.heap.size:=(Array.getElem?_eq_some_iff.1 hrb).1;by_cases hlt:k<m
  ·obtain ⟨⟨x0,x1,x2,x3⟩,hp⟩:∃ p,qs[k]?=some p:=⟨_,List.getElem?_eq_getElem (by rw [HR.out.2.1];exact hlt)⟩;have hx1:0≤x1:=HR.out.2.2 _ (List.mem_of_getElem? hp);obtain ⟨bl,off,hao,hbl,c0,c1,c2,c3⟩:=Zn (HR.out.1.nx HBU.out) hp;subst hao;simp only at c0 c1 c2 c3;have hlti:(k:Int)<(m:Int):=by omega
   obtain ⟨⟨y0,y1,y2,y3⟩,hy⟩:∃ y,inP ps x0=y:=⟨_,rfl⟩;obtain ⟨inb,hin⟩:∃ inb,ps.any (isNameP x0)=inb:=⟨_,rfl⟩;have HIN:Hid (inb=false→y1=0):=by
    intro h;rw [h] at hin;have:ps.find? (isNameP x0)=none:=by
     rw [List.find?_eq_none];exact List.any_eq_false.1 hin
    rw [inP,this] at hy;injection hy with _ h2 _ _
    exact h2.symm
   have HNX:Hid (chgL 8 ps (qs.take (k+1))=chgL 8 ps (qs.take k)++if y1<x1 then [stepP 8 x0 x1] else []):=by
    obtain ⟨hk',e⟩:=List.getElem?_eq_some_iff.1 hp;show _=_;unfold chgL;rw [List.take_succ_eq_append_getElem hk',List.filter_append,List.map_append,e];congr 1;have hc:chgP 8 ps ⟨x0,x1,x2,x3⟩=(decide (y1<x1)):=by
     unfold chgP;rw [hy];simp [leadsB,numP]
    cases hkk:(decide (y1<x1)) with
    | false =>
     rw [if_neg (by simpa using hkk)];simp [hc,hkk]
    | true =>
     rw [if_pos (by simpa using hkk)];simp [hc,hkk,numP]
   clear hp;obtain ⟨W1,hW1⟩:∃ W1,W1=wr.alloc (bPl ⟨x0,x1,x2,x3⟩):=⟨_,rfl⟩;have H1:Hid (W1=wr.alloc (bPl ⟨x0,x1,x2,x3⟩)∧Below wr.heap.size wr W1∧W1.heap[wr.heap.size]?=some (bPl ⟨x0,x1,x2,x3⟩)):=⟨hW1,by rw [hW1];exact Zb _ _,by rw [hW1];exact Zc _ _ rfl⟩;have HF1:=hideIt (HF.out W1 (Za HBU.out H1.out.2.1) x0);rw [hy,hin] at HF1;have a1:∀ o,(wr.alloc o).heap[w.heap.size]?=some (bTab ba (.slice ao n ac)):=fun o=>(Zf _ _ (by omega)).trans hra
   have a2:=fun o=>(blk2 (a1 o)).1
   have a3:=fun o=>(blk2 (a1 o)).2.1
   clear hW1 hy hin hra hrb a1;go_wp2_with fail
   rw [←H1.out.1];refine HF1.out.mono ?_;rintro e w2 ⟨rfl,hb2⟩;have hz1:wr.heap.size<W1.heap.size:=(Array.getElem?_eq_some_iff.1 H1.out.2.2).1;obtain ⟨d0,d1,d2,d3,dz⟩:=blk4 hb2 hz1 H1.out.2.2;have hz2:wr.heap.size<w2.heap.size:=Nat.lt_of_lt_of_le hz1 hb2.size;have HB2:Hid (Below wr.heap.size wr w2):=Za H1.out.2.1 hb2;have HSW:Hid (w2.ownsRow W.heap.size 72 3 (.slice vo j vc) j (flatT (chgL 8 ps (qs.take k)))∧Below W.heap.size W w2):=⟨Zk HS.out.2.1 HB2.out,Za HS.out.2.2 HB2.out⟩;clear hb2 a2 a3 c0 c1 c2 c3 b0 b1 bz;by_cases hx:y1<x1
   ·have HN:Hid (chgL 8 ps (qs.take (k+1))=chgL 8 ps (qs.take k)++[stepP 8 x0 x1]):=by
     show _=_;rw [HNX.out,if_pos (by exact hx)]
    clear HNX;have HX:Hid (((w2.alloc (bPl ⟨y0,y1,y2,y3⟩)).alloc (.cells #[.int .i64 8,.string x0,.int .i64 x1] 72)).ownsRow W.heap.size 72 3 (.slice vo j vc) j (flatT (chgL 8 ps (qs.take k)))∧Below W.heap.size W ((w2.alloc (bPl ⟨y0,y1,y2,y3⟩)).alloc (.cells #[.int .i64 8,.string x0,.int .i64 x1] 72))):=⟨(HSW.out.1.alloc _).alloc _,Za HSW.out.2 (Za (Zb _ _) (Zb _ _))⟩;go_wp2_with (at_builtin;refine appendG 72 34 3 32 _ Z7 Tryz.underlying34 rfl (by decide) (by decide) rfl (.tmp 149) (.tmp 151) rfl W.heap.size _ j (flatT (chgL 8 ps (qs.take k))) rfl (HX.out.1.alloc _) (some ⟨w2.heap.size+1+1,0,none⟩) 1 1 [.int .i64 8,.string x0,.int .i64 x1] rfl rfl (ZA _ [.int .i64 8,.string x0,.int .i64 x1] _ 1 (by simp)) (by intro u hu;simp at hu;rcases hu with rfl | rfl | rfl <;> rfl) (fun h=>by cases h) (by omega) (by have:=HX.out.2.size;simp at this ⊢;omega) ?next)
    case next =>
     intro v' w6 hown6 hb6;obtain ⟨vo6,vc6,rfl,_⟩:=Zd hown6;have K6:Hid ((chgL 8 ps (qs.take (k+1))).length=j+1∧w6.ownsRow W.heap.size 72 3 (.slice vo6 (j+1) vc6) (j+1) (flatT (chgL 8 ps (qs.take (k+1))))∧Below W.heap.size W w6):=by
      refine ⟨by rw [HN.out];simp [HS.out.1],?_,(HX.out.2.alloc HX.out.2.size _).trans hb6⟩;rw [HN.out];unfold flatT;rw [List.flatMap_append];exact hown6
     clear hown6 hb6;go_wp2_with fail
     go_roundw
     case rel=>exact ⟨k+1,j+1,vo6,vc6,by omega,by omega,by go_num,rfl,K6.out⟩
     case measure=>simp [intOf];omega
   ·have HN:Hid (chgL 8 ps (qs.take (k+1))=chgL 8 ps (qs.take k)):=by
     show _=_;rw [HNX.out,if_neg (by exact hx)];simp
    clear HNX;go_wp2_with fail
    go_roundw
    case rel=>exact ⟨k+1,j,vo,vc,by omega,by omega,by go_num,rfl,by rw [HN.out];exact ⟨HS.out.1,(HSW.out.1.alloc _).alloc _,Za HSW.out.2 (Za (Zb _ _) (Zb _ _))⟩⟩
    case measure=>simp [intOf];omega
  ·have HE:Hid ((chgL 8 ps qs).length=j∧wr.ownsRow W.heap.size 72 3 (.slice vo j vc) j (flatT (chgL 8 ps qs))∧Below W.heap.size W wr):=by
    have ht:qs.take k=qs:=List.take_of_length_le (by rw [HR.out.2.1];omega);have:=HS.out;rw [ht] at this;exact this
   clear hra hrb;go_wp2_with fail
   go_ret
   refine ⟨vo,vc,?_,?_,Zv HE.out.2.1,Za HW.out.2.2.2.2 HE.out.2.2⟩
   ·show Ending.returned _=Ending.returned (.slice vo (chgL 8 ps qs).length vc);rw [HE.out.1];rfl
   ·show RowAt wr (.slice vo (chgL 8 ps qs).length vc) (chgL 8 ps qs).length (flatT (chgL 8 ps qs));rw [HE.out.1];exact Zd HE.out.2.1
end Df
end Go.Proofs.YtcpikklofilkcaaGreat
