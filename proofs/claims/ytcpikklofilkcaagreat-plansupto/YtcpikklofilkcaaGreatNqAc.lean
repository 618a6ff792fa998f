import Derived.Test.YtcpikklofilkcaaGreatNqAb
set_option maxRecDepth 100000
set_option maxHeartbeats 16000000
namespace Go.Proofs.YtcpikklofilkcaaGreat
open Go.RowKit
namespace Lw
open Co
def takeT (k:Int) (nm:ByteArray) (n:Int) (b:Int) (ps:List Pl):Int×List Pl:=
 if k=3∨k=7 then (n,ps) else if k=2 then (b,ps.filter (othN nm)) else if k=4 then (b,insP ⟨nm,0,0,0⟩ ps) else if k=1∨k=5∨k=6∨k=8 then (b,chgP k nm n ps) else (b,ps)
def TakeG (T:Int×List Pl) (w w':World) (e:Ending):Prop:=
 ∃ vo vc,e=.returned (.agg #[.int .i64 T.1,.slice vo T.2.length vc])∧w'.ownsRow w.heap.size 70 4 (.slice vo T.2.length vc) T.2.length (flatP T.2)∧Below w.heap.size w w'
theorem ZeN (x:Pl) (ps:List Pl):(insP x ps).length=ps.length+1:=ZX x ps
theorem Zfx (k:Int) (nm:ByteArray) (n:Int) (ps:List Pl):(chgP k nm n ps).length≤ps.length+1:=by
 unfold chgP;rw [ZX];have:=List.length_filter_le (othN nm) ps;omega
theorem takeC {k:Int} (hk:k=1∨k=5∨k=6∨k=8) (b:Int) (so:Option Addr) (n2 sc:Nat) (nm:ByteArray) (n:Int) (ps:List Pl) (w:World) (hr:w.ownsRow 0 70 4 (.slice so n2 sc) n2 (flatP ps)) (hn:ps.length=n2) (hq:n2≤1000) :
  Calls Tryz.prog 117 #[.agg #[.int .i64 b,.slice so n2 sc],stA k nm n] w fun e w'=>TakeG (takeT k nm n b ps) w w' e:=by
 obtain ⟨qs,hqs⟩:∃ qs,chgP k nm n ps=qs:=⟨_,rfl⟩;have HT:Hid (takeT k nm n b ps=(b,qs)):=by
  rw [←hqs];show _=_;unfold takeT;rcases hk with rfl | rfl | rfl | rfl <;> simp
 have HQL:Hid (qs.length≤ps.length+1):=by rw [←hqs];exact Zfx k nm n ps
 obtain ⟨W0,hW0⟩:∃ W0,W0=((w.alloc (bTab b (.slice so n2 sc))).alloc (bSt k nm n)).alloc (bTab 0 (.slice none 0 0)):=⟨_,rfl⟩;have hb0:Below w.heap.size w W0:=by rw [hW0];exact Za (Za (Zb _ _) (Zb _ _)) (Zb _ _)
 have K0:Hid (W0=((w.alloc (bTab b (.slice so n2 sc))).alloc (bSt k nm n)).alloc (bTab 0 (.slice none 0 0))∧W0.heap[w.heap.size]?=some (bTab b (.slice so n2 sc))∧W0.heap[w.heap.size+1]?=some (bSt k nm n)∧W0.heap[w.heap.size+2]?=some (bTab 0 (.slice none 0 0))∧Below w.heap.size w W0∧w.heap.size+3=W0.heap.size):=by
  refine ⟨hW0,?_,?_,?_,hb0,by rw [hW0];simp⟩
  ·rw [hW0];exact (Zf _ _ (by simp;omega)).trans ((Zf _ _ (by simp)).trans (Zc _ _ rfl))
  ·rw [hW0];exact (Zf _ _ (by simp)).trans (Zc _ _ (by simp))
  ·rw [hW0];exact Zc _ _ (by simp)
 have HO:=hideIt hr;have HLN:=hideIt hn;have HCL:=hideIt (Zgb hk so n2 sc nm n ps W0 ((Zd hr).nx hb0) hn (by omega));rw [hqs] at HCL;have HK:=hideIt hk;rw [HT.out];clear hr hn hW0 hb0 hk hqs HT;go_enter Tryz.func117,Tryz.ntmps117
 go_upto_region 1 with fail
 rw [←K0.out.1];obtain ⟨a0,a1,az⟩:=blk2 K0.out.2.1;obtain ⟨b0,b1,b2,bz⟩:=blk3d K0.out.2.2.1;obtain h:=HK.out;clear HK;rcases h with rfl | rfl | rfl | rfl
 all_goals
  go_wp2_with fail
  refine HCL.out.mono ?_;rintro e w1 ⟨vo,vc,rfl,ho1,hb1⟩;obtain ⟨m,hm⟩:∃ m,qs.length=m:=⟨_,rfl⟩;rw [hm] at ho1 ⊢;have HM:=hideIt hm;have hml:m≤1001:=by
   rw [←hm];have:=HLN.out;have h2:=HQL.out;omega
  have hz1:w1.heap[w.heap.size]?=some (bTab b (.slice so n2 sc)):=(hb1.block _ (by have:=K0.out.2.2.2.2.2;omega)).trans K0.out.2.1;have hz3:w1.heap[w.heap.size+2]?=some (bTab 0 (.slice none 0 0)):=(hb1.block _ (by have:=K0.out.2.2.2.2.2;omega)).trans K0.out.2.2.2.1;obtain ⟨W3,hW3⟩:∃ W3,W3=w1.setCell ⟨w.heap.size,1,none⟩ (.slice vo m vc):=⟨_,rfl⟩;have K3:Hid (W3=w1.setCell ⟨w.heap.size,1,none⟩ (.slice vo m vc)∧W3.heap[w.heap.size]?=some (bTab b (.slice vo m vc))∧W3.heap[w.heap.size+2]?=some (bTab 0 (.slice none 0 0))∧Below w.heap.size w W3∧w.heap.size+3≤W3.heap.size∧W3.ownsRow W0.heap.size 70 4 (.slice vo m vc) m (flatP qs)):=
   ⟨hW3,by rw [hW3];exact Zg _ _ _ _ _ _ hz1,by rw [hW3];exact (Below.heap_setCell _ _ _ _ (by show w.heap.size+2≠w.heap.size;omega)).trans hz3,by rw [hW3];exact (Za K0.out.2.2.2.2.1 hb1).setCell (Nat.le_refl _) _,by rw [hW3];simp;have:=K0.out.2.2.2.2.2;have:=hb1.size;omega,by rw [hW3];exact ownsRow_setCell_below ho1 (by show w.heap.size<W0.heap.size;have:=K0.out.2.2.2.2.2;omega) _⟩
  have HCP:=hideIt (Z5 b qs vo m vc W3 (Zd K3.out.2.2.2.2.2) (Zv K3.out.2.2.2.2.2) HM.out (by omega));clear a0 a1 az b0 b1 b2 bz ho1 hm;obtain ⟨a0,a1,az⟩:=blk2 hz1;clear hb1 hz1 hz3 hW3;go_upto_region 14 with fail
  rw [←K3.out.1];clear a0 a1 az;obtain ⟨a0,a1,az⟩:=blk2 K3.out.2.1;go_wp2_with fail
  refine HCP.out.mono ?_;rintro e w5 ⟨po,pc,rfl,ho5,hb5⟩;have hz5:w5.heap[w.heap.size+2]?=some (bTab 0 (.slice none 0 0)):=(hb5.block _ (Array.getElem?_eq_some_iff.1 K3.out.2.2.1).1).trans K3.out.2.2.1;obtain ⟨y0,y1,yz⟩:=blk2 hz5;have K5:Hid (w5.ownsRow W3.heap.size 70 4 (.slice po m pc) m (flatP qs)∧Below w.heap.size w w5∧w.heap.size+3≤W3.heap.size):=⟨ho5,Za K3.out.2.2.2.1 hb5,K3.out.2.2.2.2.1⟩;clear ho5 hb5 hz5 a0 a1 az;go_wp2_with fail
  refine bodyPost_ret (v:=.agg #[.int .i64 b,.slice po m pc]) (by simp [results,Tryz.results117,go_sem,y0,y1]) rfl ?_;refine ⟨po,pc,?_,?_,?_⟩
  ·simp only [HM.out]
  ·simp only [HM.out];exact Zi (ownsRow_setCell_below (ownsRow_setCell_below K5.out.1 (by show w.heap.size+2<_;have:=K5.out.2.2;omega) _) (by show w.heap.size+2<_;have:=K5.out.2.2;omega) _) (by have:=K5.out.2.2;omega)
  ·have hg:w.heap.size≤w.heap.size+2:=by omega
   exact (K5.out.2.1.setCell hg _).setCell hg _
theorem take2 (b:Int) (so:Option Addr) (n2 sc:Nat) (nm:ByteArray) (n:Int) (ps:List Pl) (w:World) (hr:w.ownsRow 0 70 4 (.slice so n2 sc) n2 (flatP ps)) (hn:ps.length=n2) (hq:n2≤1000) :
  Calls Tryz.prog 117 #[.agg #[.int .i64 b,.slice so n2 sc],stA 2 nm n] w fun e w'=>TakeG (takeT 2 nm n b ps) w w' e:=by
 have HT:Hid (takeT 2 nm n b ps=(b,(ps.filter (othN nm)))):=by
  show _=_;unfold takeT;simp
 obtain ⟨W0,hW0⟩:∃ W0,W0=((w.alloc (bTab b (.slice so n2 sc))).alloc (bSt 2 nm n)).alloc (bTab 0 (.slice none 0 0)):=⟨_,rfl⟩;have hb0:Below w.heap.size w W0:=by rw [hW0];exact Za (Za (Zb _ _) (Zb _ _)) (Zb _ _)
 have K0:Hid (W0=((w.alloc (bTab b (.slice so n2 sc))).alloc (bSt 2 nm n)).alloc (bTab 0 (.slice none 0 0))∧W0.heap[w.heap.size]?=some (bTab b (.slice so n2 sc))∧W0.heap[w.heap.size+1]?=some (bSt 2 nm n)∧W0.heap[w.heap.size+2]?=some (bTab 0 (.slice none 0 0))∧Below w.heap.size w W0∧w.heap.size+3=W0.heap.size):=by
  refine ⟨hW0,?_,?_,?_,hb0,by rw [hW0];simp⟩
  ·rw [hW0];exact (Zf _ _ (by simp;omega)).trans ((Zf _ _ (by simp)).trans (Zc _ _ rfl))
  ·rw [hW0];exact (Zf _ _ (by simp)).trans (Zc _ _ (by simp))
  ·rw [hW0];exact Zc _ _ (by simp)
 have HO:=hideIt hr;have HLN:=hideIt hn;have HCL:=hideIt (cWithout so n2 sc nm ps W0 ((Zd hr).nx hb0) hn (by omega));clear hr hn hW0 hb0;go_enter Tryz.func117,Tryz.ntmps117
 go_upto_region 1 with fail
 rw [←K0.out.1];obtain ⟨a0,a1,az⟩:=blk2 K0.out.2.1;obtain ⟨b0,b1,b2,bz⟩:=blk3d K0.out.2.2.1;go_wp2_with fail
 refine HCL.out.mono ?_;rintro e w1 ⟨vo,vc,rfl,ho1,hb1⟩;obtain ⟨m,hm⟩:∃ m,(ps.filter (othN nm)).length=m:=⟨_,rfl⟩;rw [hm] at ho1 ⊢;have HM:=hideIt hm;have hml:m≤1001:=by
  rw [←hm];have:=HLN.out;have h2:=List.length_filter_le (othN nm) ps;omega
 have hz1:w1.heap[w.heap.size]?=some (bTab b (.slice so n2 sc)):=(hb1.block _ (by have:=K0.out.2.2.2.2.2;omega)).trans K0.out.2.1;have hz3:w1.heap[w.heap.size+2]?=some (bTab 0 (.slice none 0 0)):=(hb1.block _ (by have:=K0.out.2.2.2.2.2;omega)).trans K0.out.2.2.2.1;obtain ⟨W3,hW3⟩:∃ W3,W3=w1.setCell ⟨w.heap.size,1,none⟩ (.slice vo m vc):=⟨_,rfl⟩;have K3:Hid (W3=w1.setCell ⟨w.heap.size,1,none⟩ (.slice vo m vc)∧W3.heap[w.heap.size]?=some (bTab b (.slice vo m vc))∧W3.heap[w.heap.size+2]?=some (bTab 0 (.slice none 0 0))∧Below w.heap.size w W3∧w.heap.size+3≤W3.heap.size∧W3.ownsRow W0.heap.size 70 4 (.slice vo m vc) m (flatP (ps.filter (othN nm)))):=
  ⟨hW3,by rw [hW3];exact Zg _ _ _ _ _ _ hz1,by rw [hW3];exact (Below.heap_setCell _ _ _ _ (by show w.heap.size+2≠w.heap.size;omega)).trans hz3,by rw [hW3];exact (Za K0.out.2.2.2.2.1 hb1).setCell (Nat.le_refl _) _,by rw [hW3];simp;have:=K0.out.2.2.2.2.2;have:=hb1.size;omega,by rw [hW3];exact ownsRow_setCell_below ho1 (by show w.heap.size<W0.heap.size;have:=K0.out.2.2.2.2.2;omega) _⟩
 have HCP:=hideIt (Z5 b (ps.filter (othN nm)) vo m vc W3 (Zd K3.out.2.2.2.2.2) (Zv K3.out.2.2.2.2.2) HM.out (by omega));clear a0 a1 az b0 b1 b2 bz ho1 hm;obtain ⟨a0,a1,az⟩:=blk2 hz1;clear hb1 hz1 hz3 hW3;go_upto_region 14 with fail
 rw [←K3.out.1];clear a0 a1 az;obtain ⟨a0,a1,az⟩:=blk2 K3.out.2.1;go_wp2_with fail
 refine HCP.out.mono ?_;rintro e w5 ⟨po,pc,rfl,ho5,hb5⟩;have hz5:w5.heap[w.heap.size+2]?=some (bTab 0 (.slice none 0 0)):=(hb5.block _ (Array.getElem?_eq_some_iff.1 K3.out.2.2.1).1).trans K3.out.2.2.1;obtain ⟨y0,y1,yz⟩:=blk2 hz5;have K5:Hid (w5.ownsRow W3.heap.size 70 4 (.slice po m pc) m (flatP (ps.filter (othN nm)))∧Below w.heap.size w w5∧w.heap.size+3≤W3.heap.size):=⟨ho5,Za K3.out.2.2.2.1 hb5,K3.out.2.2.2.2.1⟩;clear ho5 hb5 hz5 a0 a1 az;go_wp2_with fail
 refine bodyPost_ret (v:=.agg #[.int .i64 b,.slice po m pc]) (by simp [results,Tryz.results117,go_sem,y0,y1]) rfl ?_;rw [HT.out];refine ⟨po,pc,?_,?_,?_⟩
 ·simp only [HM.out]
 ·simp only [HM.out];exact Zi (ownsRow_setCell_below (ownsRow_setCell_below K5.out.1 (by show w.heap.size+2<_;have:=K5.out.2.2;omega) _) (by show w.heap.size+2<_;have:=K5.out.2.2;omega) _) (by have:=K5.out.2.2;omega)
 ·have hg:w.heap.size≤w.heap.size+2:=by omega
  exact (K5.out.2.1.setCell hg _).setCell hg _
theorem take3 (b:Int) (so:Option Addr) (n2 sc:Nat) (nm:ByteArray) (n:Int) (ps:List Pl) (w:World) (hr:w.ownsRow 0 70 4 (.slice so n2 sc) n2 (flatP ps)) (hn:ps.length=n2) (hq:n2≤1000) :
  Calls Tryz.prog 117 #[.agg #[.int .i64 b,.slice so n2 sc],stA 3 nm n] w fun e w'=>TakeG (takeT 3 nm n b ps) w w' e:=by
 have HT:Hid (takeT 3 nm n b ps=(n,ps)):=by
  show _=_;unfold takeT;simp
 obtain ⟨W0,hW0⟩:∃ W0,W0=((w.alloc (bTab b (.slice so n2 sc))).alloc (bSt 3 nm n)).alloc (bTab 0 (.slice none 0 0)):=⟨_,rfl⟩;have hb0:Below w.heap.size w W0:=by rw [hW0];exact Za (Za (Zb _ _) (Zb _ _)) (Zb _ _)
 have K0:Hid (W0=((w.alloc (bTab b (.slice so n2 sc))).alloc (bSt 3 nm n)).alloc (bTab 0 (.slice none 0 0))∧W0.heap[w.heap.size]?=some (bTab b (.slice so n2 sc))∧W0.heap[w.heap.size+1]?=some (bSt 3 nm n)∧W0.heap[w.heap.size+2]?=some (bTab 0 (.slice none 0 0))∧Below w.heap.size w W0∧w.heap.size+3=W0.heap.size):=by
  refine ⟨hW0,?_,?_,?_,hb0,by rw [hW0];simp⟩
  ·rw [hW0];exact (Zf _ _ (by simp;omega)).trans ((Zf _ _ (by simp)).trans (Zc _ _ rfl))
  ·rw [hW0];exact (Zf _ _ (by simp)).trans (Zc _ _ (by simp))
  ·rw [hW0];exact Zc _ _ (by simp)
 have HO:=hideIt hr;have HLN:=hideIt hn;clear hr hn hW0 hb0;go_enter Tryz.func117,Tryz.ntmps117
 go_upto_region 1 with fail
 rw [←K0.out.1];obtain ⟨a0,a1,az⟩:=blk2 K0.out.2.1;obtain ⟨b0,b1,b2,bz⟩:=blk3d K0.out.2.2.1;obtain ⟨W3,hW3⟩:∃ W3,W3=W0.setCell ⟨w.heap.size,0,none⟩ (.int .i64 n):=⟨_,rfl⟩;have K3:Hid (W3=W0.setCell ⟨w.heap.size,0,none⟩ (.int .i64 n)∧W3.heap[w.heap.size]?=some (bTab n (.slice so n2 sc))∧W3.heap[w.heap.size+2]?=some (bTab 0 (.slice none 0 0))∧Below w.heap.size w W3∧w.heap.size+3≤W3.heap.size):=
  ⟨hW3,by rw [hW3];exact Zg _ _ _ _ _ _ K0.out.2.1,by rw [hW3];exact (Below.heap_setCell _ _ _ _ (by show w.heap.size+2≠w.heap.size;omega)).trans K0.out.2.2.2.1,by rw [hW3];exact K0.out.2.2.2.2.1.setCell (Nat.le_refl _) _,by rw [hW3];simp;have:=K0.out.2.2.2.2.2;omega⟩
 have HCP:=hideIt (Z5 n ps so n2 sc W3 ((Zd HO.out).nx K3.out.2.2.2.1) (Zv HO.out) HLN.out (by omega));obtain ⟨m,hm⟩:∃ m,ps.length=m:=⟨_,rfl⟩;have HM:=hideIt hm;have hmn:n2=m:=by rw [←hm,HLN.out]
 subst hmn;clear hW3 hm;go_upto_region 14 with fail
 rw [←K3.out.1];clear a0 a1 az b0 b1 b2 bz;obtain ⟨a0,a1,az⟩:=blk2 K3.out.2.1;go_wp2_with fail
 refine HCP.out.mono ?_;rintro e w5 ⟨po,pc,rfl,ho5,hb5⟩;have hz5:w5.heap[w.heap.size+2]?=some (bTab 0 (.slice none 0 0)):=(hb5.block _ (Array.getElem?_eq_some_iff.1 K3.out.2.2.1).1).trans K3.out.2.2.1;obtain ⟨y0,y1,yz⟩:=blk2 hz5;have K5:Hid (w5.ownsRow W3.heap.size 70 4 (.slice po n2 pc) n2 (flatP ps)∧Below w.heap.size w w5∧w.heap.size+3≤W3.heap.size):=⟨ho5,Za K3.out.2.2.2.1 hb5,K3.out.2.2.2.2⟩;clear ho5 hb5 hz5 a0 a1 az;go_wp2_with fail
 refine bodyPost_ret (v:=.agg #[.int .i64 n,.slice po n2 pc]) (by simp [results,Tryz.results117,go_sem,y0,y1]) rfl ?_;rw [HT.out];refine ⟨po,pc,?_,?_,?_⟩
 ·simp only [HM.out]
 ·simp only [HM.out];exact Zi (ownsRow_setCell_below (ownsRow_setCell_below K5.out.1 (by show w.heap.size+2<_;have:=K5.out.2.2;omega) _) (by show w.heap.size+2<_;have:=K5.out.2.2;omega) _) (by have:=K5.out.2.2;omega)
 ·have hg:w.heap.size≤w.heap.size+2:=by omega
  exact (K5.out.2.1.setCell hg _).setCell hg _
theorem take4 (b:Int) (so:Option Addr) (n2 sc:Nat) (nm:ByteArray) (n:Int) (ps:List Pl) (w:World) (hr:w.ownsRow 0 70 4 (.slice so n2 sc) n2 (flatP ps)) (hn:ps.length=n2) (hq:n2≤1000) :
  Calls Tryz.prog 117 #[.agg #[.int .i64 b,.slice so n2 sc],stA 4 nm n] w fun e w'=>TakeG (takeT 4 nm n b ps) w w' e:=by
 have HT:Hid (takeT 4 nm n b ps=(b,(insP ⟨nm,0,0,0⟩ ps))):=by
  show _=_;unfold takeT;simp
 obtain ⟨W0,hW0⟩:∃ W0,W0=((w.alloc (bTab b (.slice so n2 sc))).alloc (bSt 4 nm n)).alloc (bTab 0 (.slice none 0 0)):=⟨_,rfl⟩;have hb0:Below w.heap.size w W0:=by rw [hW0];exact Za (Za (Zb _ _) (Zb _ _)) (Zb _ _)
 have K0:Hid (W0=((w.alloc (bTab b (.slice so n2 sc))).alloc (bSt 4 nm n)).alloc (bTab 0 (.slice none 0 0))∧W0.heap[w.heap.size]?=some (bTab b (.slice so n2 sc))∧W0.heap[w.heap.size+1]?=some (bSt 4 nm n)∧W0.heap[w.heap.size+2]?=some (bTab 0 (.slice none 0 0))∧Below w.heap.size w W0∧w.heap.size+3=W0.heap.size):=by
  refine ⟨hW0,?_,?_,?_,hb0,by rw [hW0];simp⟩
  ·rw [hW0];exact (Zf _ _ (by simp;omega)).trans ((Zf _ _ (by simp)).trans (Zc _ _ rfl))
  ·rw [hW0];exact (Zf _ _ (by simp)).trans (Zc _ _ (by simp))
  ·rw [hW0];exact Zc _ _ (by simp)
 have HO:=hideIt hr;have HLN:=hideIt hn;have HCL:=hideIt (ZbP ⟨nm,0,0,0⟩ so sc n2 ps W0 ((Zd hr).nx hb0) hn (by omega));clear hr hn hW0 hb0;go_enter Tryz.func117,Tryz.ntmps117
 go_upto_region 1 with fail
 rw [←K0.out.1];obtain ⟨a0,a1,az⟩:=blk2 K0.out.2.1;obtain ⟨b0,b1,b2,bz⟩:=blk3d K0.out.2.2.1;go_wp2_with fail
 refine HCL.out.mono ?_;rintro e w1 ⟨v,rfl,ho1,hb1⟩;obtain ⟨vo,vc,rfl,_⟩:=Zd ho1;obtain ⟨m,hm⟩:∃ m,(insP ⟨nm,0,0,0⟩ ps).length=m:=⟨_,rfl⟩;rw [hm] at ho1 ⊢;have HM:=hideIt hm;have hml:m≤1001:=by
  rw [←hm];have:=HLN.out;rw [ZeN];omega
 have hz1:w1.heap[w.heap.size]?=some (bTab b (.slice so n2 sc)):=(hb1.block _ (by have:=K0.out.2.2.2.2.2;omega)).trans K0.out.2.1;have hz3:w1.heap[w.heap.size+2]?=some (bTab 0 (.slice none 0 0)):=(hb1.block _ (by have:=K0.out.2.2.2.2.2;omega)).trans K0.out.2.2.2.1;obtain ⟨W3,hW3⟩:∃ W3,W3=w1.setCell ⟨w.heap.size,1,none⟩ (.slice vo m vc):=⟨_,rfl⟩;have K3:Hid (W3=w1.setCell ⟨w.heap.size,1,none⟩ (.slice vo m vc)∧W3.heap[w.heap.size]?=some (bTab b (.slice vo m vc))∧W3.heap[w.heap.size+2]?=some (bTab 0 (.slice none 0 0))∧Below w.heap.size w W3∧w.heap.size+3≤W3.heap.size∧W3.ownsRow W0.heap.size 70 4 (.slice vo m vc) m (flatP (insP ⟨nm,0,0,0⟩ ps))):=
  ⟨hW3,by rw [hW3];exact Zg _ _ _ _ _ _ hz1,by rw [hW3];exact (Below.heap_setCell _ _ _ _ (by show w.heap.size+2≠w.heap.size;omega)).trans hz3,by rw [hW3];exact (Za K0.out.2.2.2.2.1 hb1).setCell (Nat.le_refl _) _,by rw [hW3];simp;have:=K0.out.2.2.2.2.2;have:=hb1.size;omega,by rw [hW3];exact ownsRow_setCell_below ho1 (by show w.heap.size<W0.heap.size;have:=K0.out.2.2.2.2.2;omega) _⟩
 have HCP:=hideIt (Z5 b (insP ⟨nm,0,0,0⟩ ps) vo m vc W3 (Zd K3.out.2.2.2.2.2) (Zv K3.out.2.2.2.2.2) HM.out (by omega));clear a0 a1 az b0 b1 b2 bz ho1 hm;obtain ⟨a0,a1,az⟩:=blk2 hz1;clear hb1 hz1 hz3 hW3;go_upto_region 14 with fail
 rw [←K3.out.1];clear a0 a1 az;obtain ⟨a0,a1,az⟩:=blk2 K3.out.2.1;go_wp2_with fail
 refine HCP.out.mono ?_;rintro e w5 ⟨po,pc,rfl,ho5,hb5⟩;have hz5:w5.heap[w.heap.size+2]?=some (bTab 0 (.slice none 0 0)):=(hb5.block _ (Array.getElem?_eq_some_iff.1 K3.out.2.2.1).1).trans K3.out.2.2.1;obtain ⟨y0,y1,yz⟩:=blk2 hz5;have K5:Hid (w5.ownsRow W3.heap.size 70 4 (.slice po m pc) m (flatP (insP ⟨nm,0,0,0⟩ ps))∧Below w.heap.size w w5∧w.heap.size+3≤W3.heap.size):=⟨ho5,Za K3.out.2.2.2.1 hb5,K3.out.2.2.2.2.1⟩;clear ho5 hb5 hz5 a0 a1 az;go_wp2_with fail
 refine bodyPost_ret (v:=.agg #[.int .i64 b,.slice po m pc]) (by simp [results,Tryz.results117,go_sem,y0,y1]) rfl ?_;rw [HT.out];refine ⟨po,pc,?_,?_,?_⟩
 ·simp only [HM.out]
 ·simp only [HM.out];exact Zi (ownsRow_setCell_below (ownsRow_setCell_below K5.out.1 (by show w.heap.size+2<_;have:=K5.out.2.2;omega) _) (by show w.heap.size+2<_;have:=K5.out.2.2;omega) _) (by have:=K5.out.2.2;omega)
 ·have hg:w.heap.size≤w.heap.size+2:=by omega
  exact (K5.out.2.1.setCell hg _).setCell hg _
theorem take7 (b:Int) (so:Option Addr) (n2 sc:Nat) (nm:ByteArray) (n:Int) (ps:List Pl) (w:World) (hr:w.ownsRow 0 70 4 (.slice so n2 sc) n2 (flatP ps)) (hn:ps.length=n2) (hq:n2≤1000) :
  Calls Tryz.prog 117 #[.agg #[.int .i64 b,.slice so n2 sc],stA 7 nm n] w fun e w'=>TakeG (takeT 7 nm n b ps) w w' e:=by
 have HT:Hid (takeT 7 nm n b ps=(n,ps)):=by
  show _=_;unfold takeT;simp
 obtain ⟨W0,hW0⟩:∃ W0,W0=((w.alloc (bTab b (.slice so n2 sc))).alloc (bSt 7 nm n)).alloc (bTab 0 (.slice none 0 0)):=⟨_,rfl⟩;have hb0:Below w.heap.size w W0:=by rw [hW0];exact Za (Za (Zb _ _) (Zb _ _)) (Zb _ _)
 have K0:Hid (W0=((w.alloc (bTab b (.slice so n2 sc))).alloc (bSt 7 nm n)).alloc (bTab 0 (.slice none 0 0))∧W0.heap[w.heap.size]?=some (bTab b (.slice so n2 sc))∧W0.heap[w.heap.size+1]?=some (bSt 7 nm n)∧W0.heap[w.heap.size+2]?=some (bTab 0 (.slice none 0 0))∧Below w.heap.size w W0∧w.heap.size+3=W0.heap.size):=by
  refine ⟨hW0,?_,?_,?_,hb0,by rw [hW0];simp⟩
  ·rw [hW0];exact (Zf _ _ (by simp;omega)).trans ((Zf _ _ (by simp)).trans (Zc _ _ rfl))
  ·rw [hW0];exact (Zf _ _ (by simp)).trans (Zc _ _ (by simp))
  ·rw [hW0];exact Zc _ _ (by simp)
 have HO:=hideIt hr;have HLN:=hideIt hn;clear hr hn hW0 hb0;go_enter Tryz.func117,Tryz.ntmps117
 go_upto_region 1 with fail
 rw [←K0.out.1];obtain ⟨a0,a1,az⟩:=blk2 K0.out.2.1;obtain ⟨b0,b1,b2,bz⟩:=blk3d K0.out.2.2.1;obtain ⟨W3,hW3⟩:∃ W3,W3=W0.setCell ⟨w.heap.size,0,none⟩ (.int .i64 n):=⟨_,rfl⟩;have K3:Hid (W3=W0.setCell ⟨w.heap.size,0,none⟩ (.int .i64 n)∧W3.heap[w.heap.size]?=some (bTab n (.slice so n2 sc))∧W3.heap[w.heap.size+2]?=some (bTab 0 (.slice none 0 0))∧Below w.heap.size w W3∧w.heap.size+3≤W3.heap.size):=
  ⟨hW3,by rw [hW3];exact Zg _ _ _ _ _ _ K0.out.2.1,by rw [hW3];exact (Below.heap_setCell _ _ _ _ (by show w.heap.size+2≠w.heap.size;omega)).trans K0.out.2.2.2.1,by rw [hW3];exact K0.out.2.2.2.2.1.setCell (Nat.le_refl _) _,by rw [hW3];simp;have:=K0.out.2.2.2.2.2;omega⟩
 have HCP:=hideIt (Z5 n ps so n2 sc W3 ((Zd HO.out).nx K3.out.2.2.2.1) (Zv HO.out) HLN.out (by omega));obtain ⟨m,hm⟩:∃ m,ps.length=m:=⟨_,rfl⟩;have HM:=hideIt hm;have hmn:n2=m:=by rw [←hm,HLN.out]
 subst hmn;clear hW3 hm;go_upto_region 14 with fail
 rw [←K3.out.1];clear a0 a1 az b0 b1 b2 bz;obtain ⟨a0,a1,az⟩:=blk2 K3.out.2.1;go_wp2_with fail
 refine HCP.out.mono ?_;rintro e w5 ⟨po,pc,rfl,ho5,hb5⟩;have hz5:w5.heap[w.heap.size+2]?=some (bTab 0 (.slice none 0 0)):=(hb5.block _ (Array.getElem?_eq_some_iff.1 K3.out.2.2.1).1).trans K3.out.2.2.1;obtain ⟨y0,y1,yz⟩:=blk2 hz5;have K5:Hid (w5.ownsRow W3.heap.size 70 4 (.slice po n2 pc) n2 (flatP ps)∧Below w.heap.size w w5∧w.heap.size+3≤W3.heap.size):=⟨ho5,Za K3.out.2.2.2.1 hb5,K3.out.2.2.2.2⟩;clear ho5 hb5 hz5 a0 a1 az;go_wp2_with fail
 refine bodyPost_ret (v:=.agg #[.int .i64 n,.slice po n2 pc]) (by simp [results,Tryz.results117,go_sem,y0,y1]) rfl ?_;rw [HT.out];refine ⟨po,pc,?_,?_,?_⟩
 ·simp only [HM.out]
 ·simp only [HM.out];exact Zi (ownsRow_setCell_below (ownsRow_setCell_below K5.out.1 (by show w.heap.size+2<_;have:=K5.out.2.2;omega) _) (by show w.heap.size+2<_;have:=K5.out.2.2;omega) _) (by have:=K5.out.2.2;omega)
 ·have hg:w.heap.size≤w.heap.size+2:=by omega
  exact (K5.out.2.1.setCell hg _).setCell hg _
theorem Zhv {w w':World} {gp:Nat} {S:Sta} {X:Aux} {F:Nat→Prop} {po:Option Addr} {pc:Nat} {so:Option Addr} {sc:Nat} {wo:Option Addr} {wc:Nat} {yo:Option Addr} {yc:Nat} {ho:Option Addr} {hc B:Nat} (h:DeskX w gp S X F po pc so sc wo wc yo yc ho hc) (hg:F gp) (hlt:∀ x,F x→x<w.heap.size) (b:Int) (ps:List Pl) (po':Option Addr) (pc':Nat)
  (hbox:w'.heap[gp]?=some (bDesk b po' ps.length pc' so S.srv.length sc wo S.wts.length wc X.op ⟨.slice yo S.plan.length yc,S.begun,S.back,X.hb,.slice ho X.hps.length hc⟩))
  (hown:w'.ownsRow B 70 4 (.slice po' ps.length pc') ps.length (flatP ps)) (hblk:∀ g,(Value.slice po' ps.length pc').ownBlock=some g→w.heap.size≤g)
  (hch:Chg (fun y=>y=gp) w w'):Moved w w' gp {S with bud:=b,pools:=ps} X F:=by
 have hsz:∀ g,F g→Nxt F w w' g:=fun g hg=>⟨.inl hg,Nat.lt_of_lt_of_le (hlt g hg) hch.size⟩
 have hk:∀ {ty:TypeId} {sz n:Nat} {v:Value} {cs:List Value},Held w F ty sz v n cs→ty≠85→Held w' (Nxt F w w') ty sz v n cs:=by
  intro ty sz n v cs hh h2;refine ⟨Zj hh.own (fun j hj=>hch.block j (hlt j (hh.blk j hj)) ?_),fun g hg=>hsz g (hh.blk g hg)⟩;intro e;exact ZaG hh.own h.box h2 (by rw [←show j=gp from e];exact hj)
 exact ⟨Nxt F w w',⟨⟨po',pc',so,sc,wo,wc,yo,yc,ho,hc,hbox,⟨Zi hown (Nat.zero_le _),fun g hg=>⟨.inr (hblk g hg),(hown.lt g hg).2⟩⟩,hk h.s (by decide),hk h.t (by decide),hk h.l (by decide),hk h.h (by decide)⟩,hsz gp hg,fun x hx=>hx.2⟩,fun y hy=>hy.1,hch.mono (fun y hy=>by rw [show y=gp from hy];exact hg)⟩
structure Less (S T:Sta):Prop where
 srv:T.srv.Sublist S.srv
 wts:T.wts.Sublist S.wts
 rest:Rest S T
theorem Less.refl (S:Sta):Less S S:=⟨List.Sublist.refl _,List.Sublist.refl _,Rest.refl _⟩
theorem Less.trans {S T U:Sta} (h:Less S T) (k:Less T U):Less S U:=⟨k.srv.trans h.srv,k.wts.trans h.wts,h.rest.trans k.rest⟩
theorem Less.inv {S T:Sta} {op:Int} (h:Less S T) (hi:Inv S op):Inv T op:=⟨hi.ids.sublist h.srv,fun x hx=>hi.low x (h.srv.subset hx),hi.op0,hi.cli.sublist h.wts⟩
theorem Less.ok {S T:Sta} {op:Int} (h:Less S T) (hk:Ok S op):Ok T op:=by
 refine ⟨h.inv hk.inv,?_,by rw [h.rest.1];exact hk.pools⟩;have h1:=hk.pot;have h2:=h.wts.length_le;unfold pot at *;simp only at *;omega
theorem Zb4 (pool:ByteArray):∀ (f:Nat) (S:Sta),Less S (cThinP pool f S)
 | 0,S=>Less.refl _
 | f+1,S=>by
  rw [cThinP];split
  ·exact Less.refl _
  ·exact Less.trans (T:=cShut S _) ⟨List.filter_sublist,List.Sublist.refl _,⟨rfl,rfl,rfl,rfl,rfl⟩⟩ (Zb4 pool f _)
theorem Zdt:∀ (f:Nat) (S:Sta),Less S (cThinA f S)
 | 0,S=>Less.refl _
 | f+1,S=>by
  rw [cThinA];split
  ·exact Less.refl _
  ·exact Less.trans (T:=cShut S _) ⟨List.filter_sublist,List.Sublist.refl _,⟨rfl,rfl,rfl,rfl,rfl⟩⟩ (Zdt f _)
theorem Za1 (pool:ByteArray):∀ (f:Nat) (S:Sta),Less S (cThinL pool f S)
 | 0,S=>Less.refl _
 | f+1,S=>by
  rw [cThinL];exact Less.trans (T:=cQuit S _) ⟨List.Sublist.refl _,List.filter_sublist,⟨rfl,rfl,rfl,rfl,rfl⟩⟩ (Za1 pool f _)
theorem Zhh (S:Sta) (pool:ByteArray) (far:Int):Less S (cShutF S pool far):=⟨List.filter_sublist,List.Sublist.refl _,⟨rfl,rfl,rfl,rfl,rfl⟩⟩
def tabS (S:Sta) (T:Int×List Pl):Sta:={S with bud:=T.1,pools:=T.2}
def cBegin (k:Int) (nm:ByteArray) (n:Int) (S:Sta):Sta:=
 let S1:=tabS S (takeT k nm n S.bud S.pools)
 if k=1 then cThinP nm ((cntG (isPoolV nm) S1.srv:Int) - n).toNat S1
 else if k=2 then cThinP nm ((cntG (isPoolV nm) (cThinL nm ((cntG (isPoolW nm) S1.wts:Int) - 0).toNat S1).srv:Int) - 0).toNat (cThinL nm ((cntG (isPoolW nm) S1.wts:Int) - 0).toNat S1)
 else if k=3 then cThinA ((S1.srv.length:Int) - n).toNat S1
 else if k=5 then cShutF S1 nm n
 else if k=6 then cThinL nm ((cntG (isPoolW nm) S1.wts:Int) - n).toNat S1
 else S1
def okKind (k:Int):Prop:=1≤k∧k≤8
theorem ZiE {k:Int} (hk:okKind k) (b:Int) (so:Option Addr) (n2 sc:Nat) (nm:ByteArray) (n:Int) (ps:List Pl) (w:World) (hr:w.ownsRow 0 70 4 (.slice so n2 sc) n2 (flatP ps)) (hn:ps.length=n2) (hq:n2≤1000) :
  Calls Tryz.prog 117 #[.agg #[.int .i64 b,.slice so n2 sc],stA k nm n] w fun e w'=>TakeG (takeT k nm n b ps) w w' e:=by
 obtain ⟨h1,h8⟩:=hk;rcases (by omega:k=1∨k=2∨k=3∨k=4∨k=5∨k=6∨k=7∨k=8) with rfl | rfl | rfl | rfl | rfl | rfl | rfl | rfl
 ·exact takeC (by simp) b so n2 sc nm n ps w hr hn hq
 ·exact take2 b so n2 sc nm n ps w hr hn hq
 ·exact take3 b so n2 sc nm n ps w hr hn hq
 ·exact take4 b so n2 sc nm n ps w hr hn hq
 ·exact takeC (by simp) b so n2 sc nm n ps w hr hn hq
 ·exact takeC (by simp) b so n2 sc nm n ps w hr hn hq
 ·exact take7 b so n2 sc nm n ps w hr hn hq
 ·exact takeC (by simp) b so n2 sc nm n ps w hr hn hq
theorem Zh1 (gp:Nat) (k:Int) (nm:ByteArray) (n:Int) (S:Sta) (X:Aux) (F:Nat→Prop) (w:World) (hk:okKind k) (h:DeskAt w gp S X F) (hok:Ok S X.op) (hq1:S.pools.length≤1000) (hN:0≤n∧n≤1000000) :
  Calls Tryz.prog 77 #[.pointer (some ⟨gp,0,none⟩),stA k nm n] w fun e w'=>(∃ x,e=.returned x)∧Moved w w' gp (cBegin k nm n S) X F:=by
 obtain ⟨po,pc,so,sc,wo,wc,yo,yc,ho,hc,hx⟩:=h.ex;have hgplt:gp<w.heap.size:=h.lt gp h.gp;have hL:=hok.inv.len;have hP:=hok.pot;have hO:=hok.inv.op0;unfold pot at hP;simp only at hP;have HK:Hid ((∀ x∈S.srv,x.id≠0)∧S.srv.length≤549755813888∧S.wts.length≤549755813888):=⟨hok.inv.nz,by omega,by omega⟩;obtain ⟨W0,hW0⟩:∃ W0,W0=w.alloc (bSt k nm n):=⟨_,rfl⟩;have hbW:Below w.heap.size w W0:=by rw [hW0];exact Zb _ _
 have K0:Hid (W0=w.alloc (bSt k nm n)∧W0.heap[w.heap.size]?=some (bSt k nm n)∧Below w.heap.size w W0∧w.heap.size<W0.heap.size):=⟨hW0,by rw [hW0];exact Zc _ _ rfl,hbW,by rw [hW0];simp⟩;have HD0:Hid (DeskAt W0 gp S X F):=h.keep (G:=fun _=>False) (Chg.of_below hbW) (fun _ _ h=>h);have hx0:DeskX W0 gp S X F po pc so sc wo wc yo yc ho hc:=by
  have hh:∀ g,F g→W0.heap[g]?=w.heap[g]?:=fun g hg=>hbW.block g (h.lt g hg)
  exact ⟨(hh gp h.gp).trans hx.box,hx.p.keep hh (fun _ h=>h),hx.s.keep hh (fun _ h=>h),hx.t.keep hh (fun _ h=>h),hx.l.keep hh (fun _ h=>h),hx.h.keep hh (fun _ h=>h)⟩
 have HX:=hideIt hx0;have hgp0:gp<W0.heap.size:=Nat.lt_of_lt_of_le hgplt hbW.size;have HNF:Hid (¬F w.heap.size∧gp≠w.heap.size):=⟨fun hf=>by have:=h.lt _ hf;omega,by omega⟩;have HTK:Hid (∀ u,Below W0.heap.size W0 u→Calls Tryz.prog 117 #[.agg #[.int .i64 S.bud,.slice po S.pools.length pc],stA k nm n] u fun e w'=>TakeG (takeT k nm n S.bud S.pools) u w' e):=by
  intro u hu;exact ZiE hk S.bud po _ pc nm n S.pools u (Zk HX.out.p.own hu) rfl hq1
 obtain ⟨⟨tb,tp⟩,hT⟩:∃ T,takeT k nm n S.bud S.pools=T:=⟨_,rfl⟩;rw [hT] at HTK;have HT:=hideIt hT;obtain ⟨g0,g1,g2,g3,g4,gz⟩:=blk5d HX.out.box;obtain ⟨b0,b1,b2,bz⟩:=blk3d K0.out.2.1;clear h hx hx0 hok hL hP hO hW0 hbW hT hgplt;go_enter Tryz.func77,Tryz.ntmps77
 go_upto_region 1 with fail
 rw [←K0.out.1];go_cut [10] (fun v wx=>∃ wy,Hid (Moved W0 wy gp (tabS S (tb,tp)) X F∧wy.heap[w.heap.size]?=some (bSt k nm n))∧wy=wx)
 case first =>
  go_region_with (go_at_call 117;refine (HTK.out _ ((Below.refl _ _).drew)).mono ?_;rintro e w2 ⟨vo,vc,rfl,ho2,hb2⟩;have HB2:Hid (Below W0.heap.size W0 w2∧w2.ownsRow W0.heap.size 70 4 (.slice vo tp.length vc) tp.length (flatP tp)):=⟨Za (Below.refl _ _).drew hb2,ho2⟩;obtain ⟨q0,q1,q2,q3,q4,qz⟩:=blk5d ((HB2.out.1.block gp hgp0).trans HX.out.box);clear ho2 hb2)
  all_goals
   go_wp2_with fail
   go_meet
   refine ⟨_,⟨Zhv (B:=W0.heap.size) HX.out HD0.out.gp HD0.out.lt tb tp vo vc ?_ ?_ (fun g hg=>(HB2.out.2.lt g hg).1) ?_,?_⟩,rfl⟩
   ·exact Zg _ _ _ _ _ _ (Zg _ _ _ _ _ _ ((HB2.out.1.block gp hgp0).trans HX.out.box))
   ·exact ownsRow_setCell_below (ownsRow_setCell_below HB2.out.2 hgp0 _) hgp0 _
   ·exact ((Chg.of_below HB2.out.1).trans (Chg.set (F:=fun y=>y=gp) w2 gp 0 _ rfl) (fun y hy=>.inl hy)).trans (Chg.set (F:=fun y=>y=gp) _ gp 1 _ rfl) (fun y hy=>.inl hy)
   ·exact (Below.heap_setCell _ _ _ _ (fun e=>HNF.out.2 e.symm)).trans ((Below.heap_setCell _ _ _ _ (fun e=>HNF.out.2 e.symm)).trans ((HB2.out.1.block _ K0.out.2.2.2).trans K0.out.2.1))
 case rest =>
  obtain ⟨wy,HMY,rfl⟩:=hcut;obtain ⟨F1,hd,hnx⟩:=HMY.out.1.step;clear g0 g1 g2 g3 g4 gz b0 b1 b2 bz;obtain ⟨b0,b1,b2,bz⟩:=blk3d HMY.out.2;obtain ⟨h1,h8⟩:=hk;rcases (by omega:k=1∨k=2∨k=3∨k=4∨k=5∨k=6∨k=7∨k=8) with rfl | rfl | rfl | rfl | rfl | rfl | rfl | rfl
  ·have HNX:=hideIt hnx;have HTP:=hideIt (dThinPool gp nm n (tabS S (tb,tp)) X F1 wy hd HK.out.1 HK.out.2.1 hN);clear hd hnx;go_wp2_with fail
   refine HTP.out.mono ?_;rintro e w3 ⟨⟨x,rfl⟩,hm⟩;have KF:Hid (Moved w w3 gp (cBegin 1 nm n S) X F):=by
    have hE:cBegin 1 nm n S=cThinP nm ((cntG (isPoolV nm) (tabS S (tb,tp)).srv:Int) - n).toNat (tabS S (tb,tp)):=by unfold cBegin;rw [HT.out];rfl
    rw [hE];exact Moved.after K0.out.2.2.1 (HNX.out _ _ _ hm)
   clear hm b0 b1 b2 bz;go_wp2_with fail
   first
   | (refine bodyPost_end (v:=.tuple #[]) (by simp [results,Tryz.results77,go_sem]) rfl ?_;exact ⟨⟨_,rfl⟩,KF.out⟩)
   | (refine bodyPost_ret (v:=.tuple #[]) (by simp [results,Tryz.results77,go_sem]) rfl ?_;exact ⟨⟨_,rfl⟩,KF.out⟩)
  ·have HNX:=hideIt hnx;have HTL:=hideIt (dThinLine gp nm 0 (tabS S (tb,tp)) X F1 wy hd HK.out.2.2 (by omega));clear hd hnx;go_wp2_with fail
   refine HTL.out.mono ?_;rintro e w3 ⟨⟨x,rfl⟩,hm⟩;have hm':=HNX.out _ _ _ hm;have hs3:w3.heap[w.heap.size]?=some (bSt 2 nm n):=by
    obtain ⟨_,_,_,hch⟩:=hm';exact (hch.block _ K0.out.2.2.2 HNF.out.1).trans K0.out.2.1
   obtain ⟨F3,hd3,hnx3⟩:=hm'.step;have HLS:=Za1 nm ((cntG (isPoolW nm) (tabS S (tb,tp)).wts:Int) - 0).toNat (tabS S (tb,tp));have HTP:=hideIt (dThinPool gp nm 0 _ X F3 w3 hd3 (fun x hx=>HK.out.1 x (HLS.srv.subset hx)) (Nat.le_trans HLS.srv.length_le HK.out.2.1) (by omega));have HNX3:=hideIt hnx3;clear hm hm' hd3 hnx3 HLS b0 b1 b2 bz;obtain ⟨b0,b1,b2,bz⟩:=blk3d hs3;clear hs3;go_wp2_with fail
   refine HTP.out.mono ?_;rintro e w4 ⟨⟨x,rfl⟩,hm⟩;have KF:Hid (Moved w w4 gp (cBegin 2 nm n S) X F):=by
    have hE:cBegin 2 nm n S=cThinP nm ((cntG (isPoolV nm) (cThinL nm ((cntG (isPoolW nm) (tabS S (tb,tp)).wts:Int) - 0).toNat (tabS S (tb,tp))).srv:Int) - 0).toNat (cThinL nm ((cntG (isPoolW nm) (tabS S (tb,tp)).wts:Int) - 0).toNat (tabS S (tb,tp))):=by unfold cBegin;rw [HT.out];rfl
    rw [hE];exact Moved.after K0.out.2.2.1 (HNX3.out _ _ _ hm)
   clear hm b0 b1 b2 bz;go_wp2_with fail
   first
   | (refine bodyPost_end (v:=.tuple #[]) (by simp [results,Tryz.results77,go_sem]) rfl ?_;exact ⟨⟨_,rfl⟩,KF.out⟩)
   | (refine bodyPost_ret (v:=.tuple #[]) (by simp [results,Tryz.results77,go_sem]) rfl ?_;exact ⟨⟨_,rfl⟩,KF.out⟩)
  ·have HNX:=hideIt hnx;have HTP:=hideIt (dThinAll gp n (tabS S (tb,tp)) X F1 wy hd HK.out.1 HK.out.2.1 hN);clear hd hnx;go_wp2_with fail
   refine HTP.out.mono ?_;rintro e w3 ⟨⟨x,rfl⟩,hm⟩;have KF:Hid (Moved w w3 gp (cBegin 3 nm n S) X F):=by
    have hE:cBegin 3 nm n S=cThinA (((tabS S (tb,tp)).srv.length:Int) - n).toNat (tabS S (tb,tp)):=by unfold cBegin;rw [HT.out];rfl
    rw [hE];exact Moved.after K0.out.2.2.1 (HNX.out _ _ _ hm)
   clear hm b0 b1 b2 bz;go_wp2_with fail
   first
   | (refine bodyPost_end (v:=.tuple #[]) (by simp [results,Tryz.results77,go_sem]) rfl ?_;exact ⟨⟨_,rfl⟩,KF.out⟩)
   | (refine bodyPost_ret (v:=.tuple #[]) (by simp [results,Tryz.results77,go_sem]) rfl ?_;exact ⟨⟨_,rfl⟩,KF.out⟩)
  ·have HNX:=hideIt hnx;have KF:Hid (Moved w wy gp (cBegin 4 nm n S) X F):=by
    have hE:cBegin 4 nm n S=tabS S (tb,tp):=by unfold cBegin;rw [HT.out];rfl
    rw [hE];exact Moved.after K0.out.2.2.1 HMY.out.1
   clear hd hnx;go_wp2_with fail
   first
   | (refine bodyPost_end (v:=.tuple #[]) (by simp [results,Tryz.results77,go_sem]) rfl ?_;exact ⟨⟨_,rfl⟩,KF.out⟩)
   | (refine bodyPost_ret (v:=.tuple #[]) (by simp [results,Tryz.results77,go_sem]) rfl ?_;exact ⟨⟨_,rfl⟩,KF.out⟩)
  ·have HNX:=hideIt hnx;have HTP:=hideIt (dShutF gp nm n (tabS S (tb,tp)) X F1 wy hd (Nat.le_trans HK.out.2.1 (by omega)));clear hd hnx;go_wp2_with fail
   refine HTP.out.mono ?_;rintro e w3 ⟨⟨x,rfl⟩,hm⟩;have KF:Hid (Moved w w3 gp (cBegin 5 nm n S) X F):=by
    have hE:cBegin 5 nm n S=cShutF (tabS S (tb,tp)) nm n:=by unfold cBegin;rw [HT.out];rfl
    rw [hE];exact Moved.after K0.out.2.2.1 (HNX.out _ _ _ hm)
   clear hm b0 b1 b2 bz;go_wp2_with fail
   first
   | (refine bodyPost_end (v:=.tuple #[]) (by simp [results,Tryz.results77,go_sem]) rfl ?_;exact ⟨⟨_,rfl⟩,KF.out⟩)
   | (refine bodyPost_ret (v:=.tuple #[]) (by simp [results,Tryz.results77,go_sem]) rfl ?_;exact ⟨⟨_,rfl⟩,KF.out⟩)
  ·have HNX:=hideIt hnx;have HTP:=hideIt (dThinLine gp nm n (tabS S (tb,tp)) X F1 wy hd HK.out.2.2 hN);clear hd hnx;go_wp2_with fail
   refine HTP.out.mono ?_;rintro e w3 ⟨⟨x,rfl⟩,hm⟩;have KF:Hid (Moved w w3 gp (cBegin 6 nm n S) X F):=by
    have hE:cBegin 6 nm n S=cThinL nm ((cntG (isPoolW nm) (tabS S (tb,tp)).wts:Int) - n).toNat (tabS S (tb,tp)):=by unfold cBegin;rw [HT.out];rfl
    rw [hE];exact Moved.after K0.out.2.2.1 (HNX.out _ _ _ hm)
   clear hm b0 b1 b2 bz;go_wp2_with fail
   first
   | (refine bodyPost_end (v:=.tuple #[]) (by simp [results,Tryz.results77,go_sem]) rfl ?_;exact ⟨⟨_,rfl⟩,KF.out⟩)
   | (refine bodyPost_ret (v:=.tuple #[]) (by simp [results,Tryz.results77,go_sem]) rfl ?_;exact ⟨⟨_,rfl⟩,KF.out⟩)
  ·have HNX:=hideIt hnx;have KF:Hid (Moved w wy gp (cBegin 7 nm n S) X F):=by
    have hE:cBegin 7 nm n S=tabS S (tb,tp):=by unfold cBegin;rw [HT.out];rfl
    rw [hE];exact Moved.after K0.out.2.2.1 HMY.out.1
   clear hd hnx;go_wp2_with fail
   first
   | (refine bodyPost_end (v:=.tuple #[]) (by simp [results,Tryz.results77,go_sem]) rfl ?_;exact ⟨⟨_,rfl⟩,KF.out⟩)
   | (refine bodyPost_ret (v:=.tuple #[]) (by simp [results,Tryz.results77,go_sem]) rfl ?_;exact ⟨⟨_,rfl⟩,KF.out⟩)
  ·have HNX:=hideIt hnx;have KF:Hid (Moved w wy gp (cBegin 8 nm n S) X F):=by
    have hE:cBegin 8 nm n S=tabS S (tb,tp):=by unfold cBegin;rw [HT.out];rfl
    rw [hE];exact Moved.after K0.out.2.2.1 HMY.out.1
   clear hd hnx;go_wp2_with fail
   first
   | (refine bodyPost_end (v:=.tuple #[]) (by simp [results,Tryz.results77,go_sem]) rfl ?_;exact ⟨⟨_,rfl⟩,KF.out⟩)
   | (refine bodyPost_ret (v:=.tuple #[]) (by simp [results,Tryz.results77,go_sem]) rfl ?_;exact ⟨⟨_,rfl⟩,KF.out⟩)
end Lw
end Go.Proofs.YtcpikklofilkcaaGreat
