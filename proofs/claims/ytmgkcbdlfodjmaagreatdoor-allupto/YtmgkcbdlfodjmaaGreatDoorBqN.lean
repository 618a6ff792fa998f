import Derived.Test.YtmgkcbdlfodjmaaGreatDoorBqM
import Derived.Deep.RegionLaw
import Derived.Deep.AppendLies
set_option maxRecDepth 100000
set_option maxHeartbeats 16000000
namespace Go.Proofs.YtmgkcbdlfodjmaaGreatDoor
open Go.RowKit
namespace Co
def JS (w wr:World) (b:Int) (po:Option Addr) (n pc:Nat) (p:Pl) (v:Value) (q:Nat) (acc:List Pl):Prop:=
 wr.heap[w.heap.size]?=some (Zi b (.slice po n pc))∧wr.heap[w.heap.size+1]?=some (ZF p)∧wr.heap[w.heap.size+2]?=some (Zi 0 (.slice none 0 0))∧wr.heap[w.heap.size+3]?=some (Zi b v) ∧
 wr.ownsRow (w.heap.size+4) 82 4 v q (Ze acc)∧Below w.heap.size w wr∧w.heap.size+4≤wr.heap.size
theorem JS.app {w wr d:World} {b:Int} {J:Option Addr} {n I q:Nat} {p x:Pl} {v A:Value} {m:List Pl} {o:Obj} (h:JS w wr b J n I p v q m)
  (Y:(wr.alloc o).grownBy d v.ownBlock) (R:d.ownsRow (w.heap.size+4) 82 4 A (q+1) (Ze m++[.string x.nm,.int .i64 x.sz,.int .i64 x.wt,.int .i64 x.fr])) :
  d.heap[w.heap.size+3]?=some (Zi b v)∧JS w (d.setCell ⟨w.heap.size+3,1,none⟩ A) b J n I p A (q+1) (m++[x]):=by
 obtain ⟨L,M,N,O,E,hb,U⟩:=h;have X:∀ k,k<w.heap.size+4→d.heap[k]?=wr.heap[k]?:=by
  intro k V;refine (Y.block k (by simp;omega) ?_).trans (Zt _ _ (by omega));intro e;have:=(E.lt k e.symm).1;omega
 have D:d.heap[w.heap.size+3]?=some (Zi b v):=(X _ (by omega)).trans O;refine ⟨D,?_,?_,?_,Zm _ _ _ _ _ _ D,?_,?_,?_⟩
 ·exact (Yf _ _ _ _ (by show w.heap.size≠w.heap.size+3;omega)).trans ((X _ (by omega)).trans L)
 ·exact (Yf _ _ _ _ (by show w.heap.size+1≠w.heap.size+3;omega)).trans ((X _ (by omega)).trans M)
 ·exact (Yf _ _ _ _ (by show w.heap.size+2≠w.heap.size+3;omega)).trans ((X _ (by omega)).trans N)
 ·rw [Zbe];exact Yi R (by show w.heap.size+3<_;omega) _
 ·exact (((hb.alloc (Ym (by omega) U) o)).grown Y (by simp;omega) (fun g Q=>by have:=(E.lt g Q).1;omega)).setCell (by show w.heap.size≤w.heap.size+3;omega) _
 ·have:=Y.size;simp at this ⊢;omega
theorem JS.start (w:World) (b:Int) (h:Option Addr) (n d:Nat) (p:Pl):JS w ((((w.alloc (Zi b (.slice h n d))).alloc (ZF p)).alloc (Zi 0 (.slice none 0 0))).alloc (Zi b (.slice none 0 0))) b h n d p (.slice none 0 0) 0 []:=by
 refine ⟨?_,?_,?_,?_,Yq _ _ _ _,Zb (Zb (Zb (Zc _ _) (Zc _ _)) (Zc _ _)) (Zc _ _),by simp⟩
 ·exact (Zt _ _ (by simp;omega)).trans ((Zt _ _ (by simp;omega)).trans ((Zt _ _ (by simp)).trans (ZC _ _ rfl)))
 ·exact (Zt _ _ (by simp)).trans ((Zt _ _ (by simp)).trans (ZC _ _ (by simp)))
 ·exact (Zt _ _ (by simp)).trans (ZC _ _ (by simp))
 ·exact ZC _ _ (by simp)
theorem JS.drew {w wr:World} {b:Int} {A:Option Addr} {n m q:Nat} {p:Pl} {v:Value} {h:List Pl} (d:JS w wr b A n m p v q h) (k:Nat):JS w (wr.drewN k) b A n m p v q h:=
 ⟨d.1,d.2.1,d.2.2.1,d.2.2.2.1,d.2.2.2.2.1,below_drewN d.2.2.2.2.2.1 k,d.2.2.2.2.2.2⟩
theorem ZsY {w:World} {g:Nat} {p:Pl} (d:w.heap[g]?=some (ZF p)):w.cell? ⟨g,0,none⟩=some (.string p.nm)∧w.cell? ⟨g,1,none⟩=some (.int .i64 p.sz)∧w.cell? ⟨g,2,none⟩=some (.int .i64 p.wt)∧w.cell? ⟨g,3,none⟩=some (.int .i64 p.fr):=by
 refine ⟨?_,?_,?_,?_⟩ <;> simp [World.cell?,d]
abbrev KS (w:World) (v:Value) (bl off k n pc:Nat) (nm':ByteArray) (sz' wt' fr':Int) (w':World):Prop:=
 w'.cell? ⟨w.heap.size+1+1+1,1,none⟩=some v∧w'.frozen? ⟨w.heap.size+1+1+1,1,none⟩=false∧w'.cell? ⟨w.heap.size,1,none⟩=some (.slice (some ⟨bl,off,none⟩) n pc)∧w'.cell? ⟨bl,off+k*4,none⟩=some (.string nm')∧w'.cell? ⟨bl,off+k*4+1,none⟩=some (.int .i64 sz')∧w'.cell? ⟨bl,off+k*4+2,none⟩=some (.int .i64 wt')∧w'.cell? ⟨bl,off+k*4+3,none⟩=some (.int .i64 fr')
abbrev CW (w:World) (bl off k:Nat) (nm':ByteArray) (sz' wt' fr':Int):Prop:=bl<w.heap.size∧w.cell? ⟨bl,off+k*4,none⟩=some (.string nm')∧w.cell? ⟨bl,off+k*4+1,none⟩=some (.int .i64 sz')∧w.cell? ⟨bl,off+k*4+2,none⟩=some (.int .i64 wt')∧w.cell? ⟨bl,off+k*4+3,none⟩=some (.int .i64 fr')
theorem ZfJ {w wd:World} {b:Int} {n A q k d off:Nat} {p:Pl} {v:Value} {M:List Pl} {I:ByteArray} {J L D:Int} (h:JS w wd b (some ⟨d,off,none⟩) n A p v q M)
  (ab:CW w d off k I J L D):∀ w1:World,(∀ k,k<wd.heap.size→some k≠v.ownBlock→w1.heap[k]?=wd.heap[k]?)→KS w v d off k n A I J L D w1:=by
 intro w1 U;obtain ⟨O,V,X,Q,R,hb,aa⟩:=h;have ac:∀ j,j<w.heap.size+4→w1.heap[j]?=wd.heap[j]?:=by
  intro j Y;refine U j (by omega) (fun e=>?_);have:=(R.lt j e.symm).1;omega
 have E:w1.heap[w.heap.size+3]?=some (Zi b v):=(ac _ (by omega)).trans Q;have N:w1.heap[w.heap.size]?=some (Zi b (.slice (some ⟨d,off,none⟩) n A)):=(ac _ (by omega)).trans O;have m:w1.heap[d]?=w.heap[d]?:=(ac _ (by have:=ab.1;omega)).trans (hb.block _ ab.1);refine ⟨(Zw E).2.1,(Zw E).2.2 1,(Zw N).2.1,?_,?_,?_,?_⟩
 ·exact (Yn m).trans ab.2.1
 ·exact (Yn m).trans ab.2.2.1
 ·exact (Yn m).trans ab.2.2.2.1
 ·exact (Yn m).trans ab.2.2.2.2
theorem ZiR (b:Int) (p:Pl) (be:Option Addr) (Q n:Nat) (ps:List Pl) (w:World) (cf:RowAt w (.slice be n Q) n (Ze ps)) (ce:ps.length=n) (ct:n≤1001) :
  Calls Tryz.prog 67 #[.agg #[.int .i64 b,.slice be n Q],plA p] w fun e w'=>∃ I vc,e=.returned (.agg #[.int .i64 b,.slice I (ZH p ps).length vc])∧w'.ownsRow w.heap.size 82 4 (.slice I (ZH p ps).length vc) (ZH p ps).length (Ze (ZH p ps))∧Below w.heap.size w w':=by
 obtain ⟨bo,a7,a9,bc,bd⟩:=info_parts ZhP;have ci:=Za (JS.start w b be n Q p);obtain ⟨nm,sz,wt,fr⟩:=p;have HR:Hid (RowAt w (.slice be n Q) n (Ze ps)∧ps.length=n):=⟨cf,ce⟩;obtain ⟨R,hR⟩:∃ R,ZH ⟨nm,sz,wt,fr⟩ ps=R:=⟨_,rfl⟩;rw [hR];have ch:=Za hR;clear cf ce hR;go_enter Tryz.func67,Tryz.ntmps67
 go_wp2_with fail
 go_loopw [6,7] (fun bv i wr=>∃ (k d:Nat) (m:List Pl) (aq:Bool) (I:Option Addr) (vc:Nat),k≤n∧i=.int .i64 k∧bv=.bool aq∧d≤k+1 ∧
   Hid (R=m++(if aq=true then ps.drop k else ZH ⟨nm,sz,wt,fr⟩ (ps.drop k))∧m.length=d∧(aq=false→d=k)) ∧
   Hid (JS w wr b be n Q ⟨nm,sz,wt,fr⟩ (.slice I d vc) d m)) (fun _ i _=>n - (intOf i).toNat)
 case atStart=>exact ⟨0,0,[],false,none,0,Ye _,rfl,rfl,by omega,⟨by rw [←ch.out];simp,rfl,fun _=>rfl⟩,ci.out⟩
 case round =>
  obtain ⟨k,d,m,aq,I,vc,cr,rfl,rfl,cu,O,N⟩:=hrel;obtain ⟨av,aw,am⟩:=Zw N.out.1;obtain ⟨ah,ai,aj,ak⟩:=ZsY N.out.2.1;obtain ⟨bh,bi,bj⟩:=Zw N.out.2.2.1;obtain ⟨af,ag,ar⟩:=Zw N.out.2.2.2.1;simp only at ah ai aj ak;by_cases cl:k<n
  ·obtain ⟨⟨cy,A,D,q⟩,b0⟩:∃ d,ps[k]?=some d:=⟨_,Yb (by rw [HR.out.2];exact cl)⟩;obtain ⟨E,off,cj,ab,c0,bw,bx,bz⟩:=ZJ HR.out.1 b0;have a0:=N.out.2.2.2.2.2.1;have bu:wr.cell? ⟨E,off+k*4,none⟩=some (.string cy):=(a0.cell (p:=⟨E,off+k*4,none⟩) ab).trans c0;have c1:wr.cell? ⟨E,off+k*4+1,none⟩=some (.int .i64 A):=(a0.cell (p:=⟨E,off+k*4+1,none⟩) ab).trans bw;have c2:wr.cell? ⟨E,off+k*4+2,none⟩=some (.int .i64 D):=(a0.cell (p:=⟨E,off+k*4+2,none⟩) ab).trans bx;have c3:wr.cell? ⟨E,off+k*4+3,none⟩=some (.int .i64 q):=(a0.cell (p:=⟨E,off+k*4+3,none⟩) ab).trans bz;have bt:Hid (E<w.heap.size∧w.cell? ⟨E,off+k*4,none⟩=some (.string cy)∧w.cell? ⟨E,off+k*4+1,none⟩=some (.int .i64 A)∧w.cell? ⟨E,off+k*4+2,none⟩=some (.int .i64 D)∧w.cell? ⟨E,off+k*4+3,none⟩=some (.int .i64 q)):=⟨ab,c0,bw,bx,bz⟩;clear c0 bw bx bz a0;have HD:Hid (ps.drop k=⟨cy,A,D,q⟩ :: ps.drop (k+1)):=Zas b0;have cs:(k:Int)<(n:Int):=by omega
   have cq:(0:Int)≤(k:Int):=by omega
   subst cj;clear b0;cases aq
   ·have cv:d≤k:=Nat.le_of_eq (O.out.2.2 rfl);have cw:k≤d:=Nat.le_of_eq (O.out.2.2 rfl).symm;cases ap:lt nm cy
    ·have ck:Op.bytesLess nm.toList cy.toList=false:=ap;have J:Hid (R=(m++[Pl.mk cy A D q])++(if false=true then ps.drop (k+1) else ZH (Pl.mk nm sz wt fr) (ps.drop (k+1)))):=by
      show _=_;rw [O.out.1];simp only [Bool.false_eq_true,if_false];rw [HD.out,Zns ap];simp
     clear ap;go_upto_region 6 with fail
     go_quiet (fail)
     go_upto_region 9 with fail
     obtain ⟨wd,X⟩:∃ wd,wr.drewN nq=wd:=⟨_,rfl⟩;have L:Hid (JS w wd b (some ⟨E,off,none⟩) n Q ⟨nm,sz,wt,fr⟩ (.slice I d vc) d m):=by rw [←X];exact N.out.drew nq
     rw [X];clear av aw am ah ai aj ak bh bi bj af ag ar bu c1 c2 c3 X ab;have cz:Hid (∀ w1:World,(∀ k,k<wd.heap.size→some k≠(Value.slice I (d) vc).ownBlock→w1.heap[k]?=wd.heap[k]?)→KS w (.slice I (d) vc) E off k n Q cy A D q w1):=ZfJ L.out bt.out;obtain ⟨bk,bl,s2,s3,bm,s5,s6⟩:=cz.out wd (fun _ _ _=>rfl);have ad:=L.out.2.2.2.2.1;have cc:=L.out.2.2.2.2.2.2;have sA:∀ o,(wd.alloc o).cell? ⟨w.heap.size+1+1+1,1,none⟩=some (.slice I (d) vc):=fun o=>(cz.out (wd.alloc o) (fun j V _=>Zt _ _ V)).1
     go_region_law
      ((refine step_append_lies _ (by rfl) (.tmp 38) (.tmp 44) 37 (by rfl) (w.heap.size+4) 82 bo _ 4 40 Tryz.underlying37 a7 a9 bc bd (by rfl) (by decide) _ (d) (Ze (m)) (by rfl) (ad.alloc _) ⟨wd.heap.size,0,none⟩ 1 1 [.string cy,.int .i64 A,.int .i64 D,.int .i64 q] (by rfl) (by rfl) (Zar _ [.string cy,.int .i64 A,.int .i64 D,.int .i64 q] _) (by intro u M;simp at M;rcases M with rfl | rfl | rfl | rfl <;> rfl) (by omega) (by unfold maxLen;omega) (by omega) (by simp;omega) (wd.heap.size+1) (by simp) ?_;intro ay ax bq ac U az cd;obtain ⟨bf,bg,_⟩:=cz.out bq (fun j V a8=>(U.block j (by simp;omega) a8).trans (Zt _ _ V))))
     all_goals
      have au:=Za (JS.app (x:=Pl.mk cy A D q) (L.out.drew 1) U ac).2;clear ac U az bf bg bk bl s2 s3 bm s5 s6 sA ad;go_wp2_with fail
      go_roundw
      case rel=>exact ⟨k+1,(d)+1,(m)++[Pl.mk cy A D q],false,some ⟨ay,0,none⟩,ax,by omega,by go_num,rfl,by omega,⟨J.out,by simp [O.out.2.1],fun _=>by omega⟩,au.out⟩
      case measure=>simp [intOf];omega
    ·have ck:Op.bytesLess nm.toList cy.toList=true:=ap;have J:Hid (R=((m++[Pl.mk nm sz wt fr])++[Pl.mk cy A D q])++(if true=true then ps.drop (k+1) else ZH (Pl.mk nm sz wt fr) (ps.drop (k+1)))):=by
      show _=_;rw [O.out.1];simp only [Bool.false_eq_true,if_false];rw [HD.out,ZlM ap];simp
     clear ap;go_upto_region 6 with fail
     go_quiet (fail)
     obtain ⟨br,b6⟩:∃ br,wr.drewN nq=br:=⟨_,rfl⟩;have al:Hid (JS w br b (some ⟨E,off,none⟩) n Q ⟨nm,sz,wt,fr⟩ (.slice I d vc) d m):=by rw [←b6];exact N.out.drew nq
     rw [b6];clear av aw am ah ai aj ak bh bi bj af ag ar bu c1 c2 c3 b6 ab;obtain ⟨av,aw,am⟩:=Zw al.out.1;obtain ⟨ah,ai,aj,ak⟩:=ZsY al.out.2.1;obtain ⟨af,ag,ar⟩:=Zw (show br.heap[w.heap.size+1+1+1]?=_ from al.out.2.2.2.1);simp only at ah ai aj ak;go_wp2_with (at_builtin;refine wpList_append_own _ rfl (.tmp 32) (.tmp 34) 37 rfl (w.heap.size+4) 82 bo _ 4 40 Tryz.underlying37 a7 a9 bc bd rfl (by decide) _ d (Ze m) rfl (al.out.2.2.2.2.1.alloc _) ⟨br.heap.size,0,none⟩ 1 1 [.string nm,.int .i64 sz,.int .i64 wt,.int .i64 fr] rfl rfl (Zar _ [.string nm,.int .i64 sz,.int .i64 wt,.int .i64 fr] _) (by intro u M;simp at M;rcases M with rfl | rfl | rfl | rfl <;> rfl) (by unfold maxLen;omega) (by omega) (by have:=al.out.2.2.2.2.2.2;simp;omega) ?next)
     case next =>
      intro co bp ae a6 _;obtain ⟨aa,Y,b1,_⟩:=Zf ae;subst b1;obtain ⟨a1,ao⟩:=JS.app (x:=Pl.mk nm sz wt fr) al.out a6 ae;obtain ⟨b9,ca,cb⟩:=Zw (show bp.heap[w.heap.size+1+1+1]?=_ from a1);have cg:=Za ao;clear ae a6 a1 ao av aw am ah ai aj ak af ag ar;go_upto_region 9 with fail
      obtain ⟨wd,X⟩:∃ wd,bp.setCell ⟨w.heap.size+1+1+1,1,none⟩ (.slice aa (d+1) Y)=wd:=⟨_,rfl⟩;have L:Hid (JS w wd b (some ⟨E,off,none⟩) n Q ⟨nm,sz,wt,fr⟩ (.slice aa (d+1) Y) (d+1) (m++[Pl.mk nm sz wt fr])):=by rw [←X];exact cg.out
      rw [X];clear b9 ca cb X;have cz:Hid (∀ w1:World,(∀ k,k<wd.heap.size→some k≠(Value.slice aa (d+1) Y).ownBlock→w1.heap[k]?=wd.heap[k]?)→KS w (.slice aa (d+1) Y) E off k n Q cy A D q w1):=ZfJ L.out bt.out;obtain ⟨bk,bl,s2,s3,bm,s5,s6⟩:=cz.out wd (fun _ _ _=>rfl);have ad:=L.out.2.2.2.2.1;have cc:=L.out.2.2.2.2.2.2;have sA:∀ o,(wd.alloc o).cell? ⟨w.heap.size+1+1+1,1,none⟩=some (.slice aa (d+1) Y):=fun o=>(cz.out (wd.alloc o) (fun j V _=>Zt _ _ V)).1
      go_region_law
       ((refine step_append_lies _ (by rfl) (.tmp 38) (.tmp 44) 37 (by rfl) (w.heap.size+4) 82 bo _ 4 40 Tryz.underlying37 a7 a9 bc bd (by rfl) (by decide) _ (d+1) (Ze (m++[Pl.mk nm sz wt fr])) (by rfl) (ad.alloc _) ⟨wd.heap.size,0,none⟩ 1 1 [.string cy,.int .i64 A,.int .i64 D,.int .i64 q] (by rfl) (by rfl) (Zar _ [.string cy,.int .i64 A,.int .i64 D,.int .i64 q] _) (by intro u M;simp at M;rcases M with rfl | rfl | rfl | rfl <;> rfl) (by omega) (by unfold maxLen;omega) (by omega) (by simp;omega) (wd.heap.size+1) (by simp) ?_;intro ay ax bq ac U az cd;obtain ⟨bf,bg,_⟩:=cz.out bq (fun j V a8=>(U.block j (by simp;omega) a8).trans (Zt _ _ V))))
      all_goals
       have au:=Za (JS.app (x:=Pl.mk cy A D q) (L.out.drew 1) U ac).2;clear ac U az bf bg bk bl s2 s3 bm s5 s6 sA ad;go_wp2_with fail
       go_roundw
       case rel=>exact ⟨k+1,(d+1)+1,(m++[Pl.mk nm sz wt fr])++[Pl.mk cy A D q],true,some ⟨ay,0,none⟩,ax,by omega,by go_num,rfl,by omega,⟨J.out,by simp [O.out.2.1],fun h=>by cases h⟩,au.out⟩
       case measure=>simp [intOf];omega
   ·have J:Hid (R=(m++[Pl.mk cy A D q])++(if true=true then ps.drop (k+1) else ZH (Pl.mk nm sz wt fr) (ps.drop (k+1)))):=by
     show _=_;rw [O.out.1,if_pos rfl,if_pos rfl,HD.out];simp
    go_upto_region 6 with fail
    go_quiet (fail)
    go_upto_region 9 with fail
    obtain ⟨wd,X⟩:∃ wd,wr.drewN nq=wd:=⟨_,rfl⟩;have L:Hid (JS w wd b (some ⟨E,off,none⟩) n Q ⟨nm,sz,wt,fr⟩ (.slice I d vc) d m):=by rw [←X];exact N.out.drew nq
    rw [X];clear av aw am ah ai aj ak bh bi bj af ag ar bu c1 c2 c3 X ab;have cz:Hid (∀ w1:World,(∀ k,k<wd.heap.size→some k≠(Value.slice I (d) vc).ownBlock→w1.heap[k]?=wd.heap[k]?)→KS w (.slice I (d) vc) E off k n Q cy A D q w1):=ZfJ L.out bt.out;obtain ⟨bk,bl,s2,s3,bm,s5,s6⟩:=cz.out wd (fun _ _ _=>rfl);have ad:=L.out.2.2.2.2.1;have cc:=L.out.2.2.2.2.2.2;have sA:∀ o,(wd.alloc o).cell? ⟨w.heap.size+1+1+1,1,none⟩=some (.slice I (d) vc):=fun o=>(cz.out (wd.alloc o) (fun j V _=>Zt _ _ V)).1
    go_region_law
     ((refine step_append_lies _ (by rfl) (.tmp 38) (.tmp 44) 37 (by rfl) (w.heap.size+4) 82 bo _ 4 40 Tryz.underlying37 a7 a9 bc bd (by rfl) (by decide) _ (d) (Ze (m)) (by rfl) (ad.alloc _) ⟨wd.heap.size,0,none⟩ 1 1 [.string cy,.int .i64 A,.int .i64 D,.int .i64 q] (by rfl) (by rfl) (Zar _ [.string cy,.int .i64 A,.int .i64 D,.int .i64 q] _) (by intro u M;simp at M;rcases M with rfl | rfl | rfl | rfl <;> rfl) (by omega) (by unfold maxLen;omega) (by omega) (by simp;omega) (wd.heap.size+1) (by simp) ?_;intro ay ax bq ac U az cd;obtain ⟨bf,bg,_⟩:=cz.out bq (fun j V a8=>(U.block j (by simp;omega) a8).trans (Zt _ _ V))))
    all_goals
     have au:=Za (JS.app (x:=Pl.mk cy A D q) (L.out.drew 1) U ac).2;clear ac U az bf bg bk bl s2 s3 bm s5 s6 sA ad;go_wp2_with fail
     go_roundw
     case rel=>exact ⟨k+1,(d)+1,(m)++[Pl.mk cy A D q],true,some ⟨ay,0,none⟩,ax,by omega,by go_num,rfl,by omega,⟨J.out,by simp [O.out.2.1],fun h=>by cases h⟩,au.out⟩
     case measure=>simp [intOf];omega
  ·have bs:ps.drop k=[]:=List.drop_of_length_le (by rw [HR.out.2];omega);cases aq
   ·have J:Hid (R=m++[Pl.mk nm sz wt fr]∧(m++[Pl.mk nm sz wt fr]).length=d+1):=⟨by rw [O.out.1,bs];rfl,by simp [O.out.2.1]⟩;have cm:wr.cell? ⟨w.heap.size+1+1+1,1,none⟩=some (.slice I d vc):=ag;clear bs am bh bi bj af ar;go_wp2_with (at_builtin;refine wpList_append_own _ rfl (.tmp 50) (.tmp 52) 37 rfl (w.heap.size+4) 82 bo _ 4 40 Tryz.underlying37 a7 a9 bc bd rfl (by decide) _ d (Ze m) rfl (N.out.2.2.2.2.1.alloc _) ⟨wr.heap.size,0,none⟩ 1 1 [.string nm,.int .i64 sz,.int .i64 wt,.int .i64 fr] rfl rfl (Zar _ [.string nm,.int .i64 sz,.int .i64 wt,.int .i64 fr] _) (by intro u M;simp at M;rcases M with rfl | rfl | rfl | rfl <;> rfl) (by unfold maxLen;omega) (by omega) (by have:=N.out.2.2.2.2.2.2;simp;omega) ?next)
    case next =>
     intro co bp ae a6 _;obtain ⟨aa,Y,b1,_⟩:=Zf ae;subst b1;obtain ⟨a1,ao⟩:=JS.app (x:=Pl.mk nm sz wt fr) N.out a6 ae;obtain ⟨b9,ca,cb⟩:=Zw (show bp.heap[w.heap.size+1+1+1]?=_ from a1);have HF:=Za ao;obtain ⟨b7,b8,cp⟩:=Zw (show (bp.setCell ⟨w.heap.size+1+1+1,1,none⟩ (.slice aa (d+1) Y)).heap[w.heap.size+1+1]?=_ from ao.2.2.1);clear ae a6 a1 ao;go_wp2_with fail
     refine bodyPost_ret (v:=.agg #[.int .i64 b,.slice aa (d+1) Y]) (by simp [results,Tryz.results67,go_sem,b7,b8]) rfl ⟨aa,Y,?_,?_,?_⟩
     ·rw [J.out.1,J.out.2]
     ·rw [J.out.1,J.out.2];exact Zr (Yi (Yi HF.out.2.2.2.2.1 (by show w.heap.size+2<_;omega) _) (by show w.heap.size+2<_;omega) _) (by omega)
     ·exact (HF.out.2.2.2.2.2.1.setCell (by show w.heap.size≤w.heap.size+2;omega) _).setCell (by show w.heap.size≤w.heap.size+2;omega) _
   ·have J:Hid (R=m∧m.length=d):=⟨by rw [O.out.1,bs];simp,O.out.2.1⟩;have HF:=N;have b7:wr.cell? ⟨w.heap.size+1+1,0,none⟩=some (.int .i64 0):=bh;have b8:wr.cell? ⟨w.heap.size+1+1,1,none⟩=some (.slice none 0 0):=bi;have cp:∀ a,wr.frozen? ⟨w.heap.size+1+1,a,none⟩=false:=bj;have cx:wr.cell? ⟨w.heap.size+1+1+1,0,none⟩=some (.int .i64 b):=af;have cm:wr.cell? ⟨w.heap.size+1+1+1,1,none⟩=some (.slice I d vc):=ag;clear bs;go_wp2_with fail
    refine bodyPost_ret (v:=.agg #[.int .i64 b,.slice I (d) vc]) (by simp [results,Tryz.results67,go_sem,b7,b8]) rfl ⟨I,vc,?_,?_,?_⟩
    ·rw [J.out.1,J.out.2]
    ·rw [J.out.1,J.out.2];exact Zr (Yi (Yi HF.out.2.2.2.2.1 (by show w.heap.size+2<_;omega) _) (by show w.heap.size+2<_;omega) _) (by omega)
    ·exact (HF.out.2.2.2.2.2.1.setCell (by show w.heap.size≤w.heap.size+2;omega) _).setCell (by show w.heap.size≤w.heap.size+2;omega) _
theorem ZrI (m:Nat) (q:Option Addr) (A h:Nat) (d:List RL) (w:World) (E:RLinesAt w (.slice q h A) d) (I:d.length=h) (J:h≤1001) (D:m<h) (hb:Zcd (Zy d)) (L:∀ l∈Zy d,l.sets.length≤1001) :
  Calls Tryz.prog 66 #[.slice q h A,.int .i64 (m:Int),.int .i64 0] w fun e M=>e=.returned (.int .i64 (vI (Zy d) 0 (m :: chI (Zy d) h m)))∧Below w.heap.size w M:=ZgO m 0 q A h d w E I J D hb L
theorem Zrt (m:Nat) (q:Option Addr) (A h:Nat) (d:List RL) (w:World) (E:RLinesAt w (.slice q h A) d) (I:d.length=h) (J:h≤1001) (D:m<h) (hb:Zcd (Zy d)) (L:∀ l∈Zy d,l.sets.length≤1001) :
  Calls Tryz.prog 66 #[.slice q h A,.int .i64 (m:Int),.int .i64 1] w fun e M=>e=.returned (.int .i64 (vI (Zy d) 1 (m :: chI (Zy d) h m)))∧Below w.heap.size w M:=ZgO m 1 q A h d w E I J D hb L
theorem ZrX (m:Nat) (q:Option Addr) (A h:Nat) (d:List RL) (w:World) (E:RLinesAt w (.slice q h A) d) (I:d.length=h) (J:h≤1001) (D:m<h) (hb:Zcd (Zy d)) (L:∀ l∈Zy d,l.sets.length≤1001) :
  Calls Tryz.prog 66 #[.slice q h A,.int .i64 (m:Int),.int .i64 2] w fun e M=>e=.returned (.int .i64 (vI (Zy d) 2 (m :: chI (Zy d) h m)))∧Below w.heap.size w M:=ZgO m 2 q A h d w E I J D hb L
theorem Zqf {d:List Ln} (h:(Zcf d).1=0):Zcd d:=by
 unfold Zcf at h;cases m:noC d d with
 | some k=>rw [m] at h;simp at h
 | none=>exact ZhI d d m
def CS (w:World) (g:Nat) (wr:World) (b:Int) (v:Value) (q:Nat) (ps:List Pl):Prop:=
 wr.heap[w.heap.size]?=some (Zi 0 (.slice none 0 0))∧wr.heap[g]?=some (Zi b v)∧wr.ownsRow (g+1) 82 4 v q (Ze ps)∧Below w.heap.size w wr∧w.heap.size<g∧g<wr.heap.size
theorem CS.nx {w:World} {g:Nat} {wr m:World} {b:Int} {v:Value} {h:Nat} {ps:List Pl} (d:CS w g wr b v h ps) (hb:Below wr.heap.size wr m):CS w g m b v h ps:=
 ⟨(hb.block _ (by have:=d.2.2.2.2;omega)).trans d.1,(hb.block _ d.2.2.2.2.2).trans d.2.1,Zx d.2.2.1 hb,Zb d.2.2.2.1 hb,d.2.2.2.2.1,Yl d.2.2.2.2.2 hb.size⟩
theorem CS.put {w:World} {g:Nat} {wr:World} {b:Int} {v h:Value} {q I B:Nat} {ps m:List Pl} (d:CS w g wr b v q ps) (E:wr.ownsRow B 82 4 h I (Ze m)) (D:g+1≤B) :
  CS w g ((wr.setCell ⟨g,0,none⟩ (.int .i64 b)).setCell ⟨g,1,none⟩ h) b h I m:=by
 have A:=Zm _ g 0 (.int .i64 b) _ _ d.2.1;have e2:=Zm _ g 1 h _ _ A;refine ⟨?_,e2,?_,?_,d.2.2.2.2.1,by simpa using d.2.2.2.2.2⟩
 ·exact (Yf _ _ _ _ (by show w.heap.size≠g;have:=d.2.2.2.2.1;omega)).trans ((Yf _ _ _ _ (by show w.heap.size≠g;have:=d.2.2.2.2.1;omega)).trans d.1)
 ·exact Yi (Yi (Zr E D) (by show g<_;omega) _) (by show g<_;omega) _
 ·exact (d.2.2.2.1.setCell (by show w.heap.size≤g;have:=d.2.2.2.2.1;omega) _).setCell (by show w.heap.size≤g;have:=d.2.2.2.2.1;omega) _
theorem ZdV (s:ByteArray) (w:World) (c0:s.size≤maxLen) :
  Calls Tryz.prog 24 #[.string s] w fun e w'=>ZnR (Z7 s) w w' e:=by
 unfold maxLen at c0;by_cases cc:1000<s.size
 ·have m:Hid (Z7 s=⟨(0,[]),1,0⟩):=by show _=_;rw [Z7,if_pos cc]
  have cy:(1000:Int)<(s.size:Int):=by omega
  go_enter Tryz.func24,Tryz.ntmps24
  go_wp2_with fail
  refine bodyPost_ret (v:=.tuple #[.agg #[.int .i64 0,.slice none 0 0],.int .i64 1,.int .i64 0]) (by simp [results,Tryz.results24,go_sem]) rfl ?_;exact Zd5 rfl (by rw [m.out]) (by rw [m.out];rfl) (by rw [m.out];rfl) (Zc _ _)
 ·have bw:s.size≤1000:=by omega
  have cy:¬(1000:Int)<(s.size:Int):=by omega
  have bz:Hid ((w.alloc (Zi 0 (.slice none 0 0))).heap[w.heap.size]?=some (Zi 0 (.slice none 0 0))):=ZC _ _ rfl;have co:=Za (Zqi s (w.alloc (Zi 0 (.slice none 0 0))) bw);have cp:=Za (Zlu s bw);have bh:=Za (Zrq s bw);clear cc;go_enter Tryz.func24,Tryz.ntmps24
  go_wp2_with fail
  refine co.out.mono ?_;rintro e w1 (⟨az,rfl,Q⟩ | ⟨D,ao,ad,bx,am,ap,d9,rfl,a0,Q⟩)
  ·obtain ⟨L,E⟩:∃ L,(rd s).err=L:=⟨_,rfl⟩;obtain ⟨aa,bu⟩:∃ aa,(rd s).at'=aa:=⟨_,rfl⟩;rw [E] at az;rw [E,bu];have m:Hid (Z7 s=⟨(0,[]),L,aa⟩):=by show _=_;rw [bh.out (fun h=>absurd (E▸h) az),E,bu,if_pos az]
   have I:w1.heap[w.heap.size]?=some (Zi 0 (.slice none 0 0)):=(Q.block _ (by simp)).trans bz.out;obtain ⟨ai,aj,ck⟩:=Zw I;have cw:((L:Int) != 0)=true:=by rw [bne_iff_ne];omega
   have HB:Hid (Below w.heap.size w w1):=Zb (Zc _ _) Q;clear Q E bu az I;go_wp2_with fail
   refine bodyPost_ret (v:=.tuple #[.agg #[.int .i64 0,.slice none 0 0],.int .i64 L,.int .i64 aa]) (by simp [results,Tryz.results24,go_sem,ai,aj]) rfl ?_;exact Zd5 rfl (by rw [m.out]) (by rw [m.out]) (by rw [m.out]) ((HB.out.setCell (Yd _) _).setCell (Yd _) _)
  ·obtain ⟨n,d8⟩:∃ n,D.length=n:=⟨_,rfl⟩;obtain ⟨d,hL⟩:∃ d,Zy D=d:=⟨_,rfl⟩;have b9:d.length=n:=by rw [←hL,Zby,d8]
   have bk:Hid (∀ l∈Zy D,l.sets.length≤1001):=by rw [←am];exact cp.out
   have b1:Hid (Z7 s=if (Zcf d).1≠0 then ⟨(0,[]),(Zcf d).1,(Zcf d).2⟩ else ⟨((bud0 d:Int),ZbR d 0 d []),0,0⟩):=by
    show _=_;rw [bh.out (fun _=>by rw [am,Zby];exact d9),if_neg (by simp [bx]),am,hL]
   have bs:=Zpx s bx;rw [am,hL] at bs;rw [d8] at a0 ap ⊢;have d7:Hid (RLinesAt w1 (.slice ao n ad) D∧D.length=n∧Zy D=d∧d.length=n∧Inv d):=⟨a0,d8,hL,b9,bs⟩;have I:w1.heap[w.heap.size]?=some (Zi 0 (.slice none 0 0)):=(Q.block _ (by simp)).trans bz.out;have cd:w.heap.size<w1.heap.size:=Zda Q;have HB:Hid (Below w.heap.size w w1∧w1.heap[w.heap.size]?=some (Zi 0 (.slice none 0 0))):=⟨Zb (Zc _ _) Q,I⟩;have bi:=Za (Zpo ao ad n D w1 a0 d8 ap);rw [hL] at bi;have cz:0<n:=by omega
   clear a0 d8 am bx Q I bh hL b9 bs d9;go_wp2_with fail
   refine bi.out.mono ?_;rintro e d6 ⟨rfl,Y⟩;obtain ⟨⟨L,aa⟩,af⟩:∃ ce,Zcf d=ce:=⟨_,rfl⟩;rw [af];simp only;have I:d6.heap[w.heap.size]?=some (Zi 0 (.slice none 0 0)):=(Y.block _ cd).trans HB.out.2;by_cases E:L=0
   ·have m:Hid (Z7 s=⟨((bud0 d:Int),ZbR d 0 d []),0,0⟩∧Zcd d):=⟨by rw [b1.out,af,if_neg (by simp [E])],Zqf (by rw [af];exact E)⟩;have V:Hid (Below w.heap.size w d6∧w.heap.size<d6.heap.size∧d6.heap[w.heap.size]?=some (Zi 0 (.slice none 0 0))∧RLinesAt d6 (.slice ao n ad) D):=⟨Zb HB.out.1 Y,Yl cd Y.size,I,d7.out.1.nx Y⟩;obtain ⟨⟨l,du,d0⟩,R⟩:∃ p,D[0]?=some p:=⟨_,Yb (by rw [d7.out.2.1];exact cz)⟩;obtain ⟨ac,off,ds,dq,O,vc,cu,dd,_,_,_,bv,au,c1,c2,c3,c4,c5⟩:=V.out.2.2.2.at R;have J:d[0]?=some l:=by rw [←d7.out.2.2.1];exact Zci R
    obtain ⟨x,a8⟩:∃ x,l.sets=[(3,x)]:=by
     rcases (d7.out.2.2.2.2.1 l (Yo J)).1 with ⟨_,_,_,x,h⟩ | ⟨h,_⟩
     ·exact ⟨x,h⟩
     ·have:=(d7.out.2.2.2.2.2.2 0 l J).1 rfl;omega
    have cb:bud0 d=x:=by
     match d,J with
     | l' :: r,J=>simp at J;subst J;simp [bud0,a8]
    rw [cb] at m;have ag:l.sets.length=1:=by rw [a8];rfl
    have ci:Zds l=[x]:=by rw [Zds,a8];rfl
    rw [ag,ci] at bv;rw [ag] at c4;obtain ⟨db,dx,c6,de,b8⟩:=ZcE bv (show [x][0]?=some x from rfl);simp only [Nat.zero_mul,Nat.add_zero] at c4 b8;have dj:(0:Int)<(n:Int):=by omega
    obtain ⟨ah,av⟩:∃ ah,ah=d6.alloc (Zi (x:Int) (.slice none 0 0)):=⟨_,rfl⟩;have b0:Hid (ah=d6.alloc (Zi (x:Int) (.slice none 0 0))∧Below d6.heap.size d6 ah):=⟨av,by rw [av];exact Zc _ _⟩;have b6:Hid (CS w d6.heap.size ah (x:Int) (.slice none 0 0) 0 []):=by
     rw [av];exact ⟨(Zt _ _ V.out.2.1).trans I,ZC _ _ rfl,Yq _ _ _ _,Zb V.out.1 (Zc _ _),V.out.2.1,by simp⟩
    subst cu c6 E;clear af I Y R J a8 cb ag ci bv au c1 c2 c3 c5 av bi;go_wp2_with fail
    rw [←b0.out.1];obtain ⟨g,br⟩:∃ g,d6.heap.size=g:=⟨_,rfl⟩;rw [br] at b6 ⊢;have HG:=Za br;clear br c4 b8;go_loopw [9] (fun i wr=>∃ (k q:Nat) (ps:List Pl) (O:Option Addr) (vc:Nat),k≤n∧i=.int .i64 k∧q≤k∧Hid (ZbR d 0 d []=ZbR d k (d.drop k) ps∧ps.length=q)∧Hid (CS w g wr (x:Int) (.slice O q vc) q ps∧Below d6.heap.size d6 wr)) (fun i _=>n - (intOf i).toNat)
    case atStart=>exact ⟨0,0,[],none,0,Ye _,rfl,Yd _,⟨rfl,rfl⟩,b6.out,b0.out.2⟩
    case round =>
     obtain ⟨k,q,ps,O,vc,dh,rfl,dk,X,M⟩:=hrel;by_cases a6:k<n
     ·obtain ⟨⟨A,dv,d1⟩,R⟩:∃ p,D[k]?=some p:=⟨_,Yb (by rw [d7.out.2.1];exact a6)⟩;have a1:=V.out.2.2.2.nx M.out.2;obtain ⟨cq,c7,dt,dr,dz,dy,bp,cv,_,_,_,_,au,c1,c2,c3,c4,c5⟩:=a1.at R;obtain ⟨rfl,rfl⟩:ac=cq∧off=c7:=by simpa using bp
      have J:d[k]?=some A:=by rw [←d7.out.2.2.1];exact Zci R
      have HD:Hid (d.drop k=A :: d.drop (k+1)):=Zas J;have di:(k:Int)<(n:Int):=by omega
      have ak:((kwK A.kind).toList == [112,111,111,108])=decide (A.kind=3):=by
       have:=ZlC A.kind 3;rw [Ziw 3] at this;exact this
      obtain ⟨a9,bt⟩:∃ a9,kwK A.kind=a9:=⟨_,rfl⟩;rw [bt] at au ak;by_cases ae:A.kind=3
      ·have cx:(a9.toList == [112,111,111,108])=true:=by rw [ak];simp [ae]
       have N:Hid (ZbR d 0 d []=ZbR d (k+1) (d.drop (k+1)) (ZH (plR d k A) ps)):=by
        show _=_;rw [X.out.1,HD.out,ZbR,if_pos ae]
       have bl:=Za (fun w0 al=>ZrI k (some ⟨ac,off,none⟩) ad n D w0 al d7.out.2.1 ap a6 (by rw [d7.out.2.2.1];exact m.out.2) bk.out);have bm:=Za (fun w0 al=>Zrt k (some ⟨ac,off,none⟩) ad n D w0 al d7.out.2.1 ap a6 (by rw [d7.out.2.2.1];exact m.out.2) bk.out);have bo:=Za (fun w0 al=>ZrX k (some ⟨ac,off,none⟩) ad n D w0 al d7.out.2.1 ap a6 (by rw [d7.out.2.2.1];exact m.out.2) bk.out);have ar:Hid (plR d k A=⟨A.name,vI d 0 (k :: chI d n k),vI d 1 (k :: chI d n k),vI d 2 (k :: chI d n k)⟩):=by
        show _=_;rw [plR,d7.out.2.2.2.1]
       rw [d7.out.2.2.1] at bl bm bo;obtain ⟨bc,cg⟩:∃ v,vI d 0 (k :: chI d n k)=v:=⟨_,rfl⟩;obtain ⟨bd,ag⟩:∃ v,vI d 1 (k :: chI d n k)=v:=⟨_,rfl⟩;obtain ⟨be,ch⟩:∃ v,vI d 2 (k :: chI d n k)=v:=⟨_,rfl⟩;rw [cg] at bl ar;rw [ag] at bm ar;rw [ch] at bo ar;rw [ar.out] at N;have bj:=Za a1;clear a1 R J bp cg ag ch ae ak bt c2 c3 c4 c5;go_wp2_with fail
       refine (bl.out wr bj.out).mono ?_;rintro e c8 ⟨rfl,aw⟩;go_wp2_with fail
       refine (bm.out c8 (bj.out.nx aw)).mono ?_;rintro e c9 ⟨rfl,bq⟩;go_wp2_with fail
       refine (bo.out c9 ((bj.out.nx aw).nx bq)).mono ?_;rintro e aq ⟨rfl,ca⟩;have ax:=Zb (Zb aw bq) ca;have dc:aq.cell? ⟨ac,off+k*6+1,none⟩=some (.string A.name):=(ax.cell (p:=⟨ac,off+k*6+1,none⟩) cv).trans c1;have ab:Hid (CS w g aq.drew (x:Int) (.slice O q vc) q ps∧Below d6.heap.size d6 aq.drew):=⟨(M.out.1.nx ax).nx ((Yh _ _).drew),Zb M.out.2 (Zb ax (Yh _ _).drew)⟩;obtain ⟨cr,cs,ct⟩:=Zw (show aq.heap[g]?=some (Zi (x:Int) (.slice O q vc)) from ab.out.1.2.1);have b7:=Za (ZiR (x:Int) ⟨A.name,bc,bd,be⟩ O vc q ps aq.drew (Zf ab.out.1.2.2.1) X.out.2 (by omega));obtain ⟨U,a7⟩:∃ U,(ZH (Pl.mk A.name bc bd be) ps).length=U:=⟨_,rfl⟩;have dl:U≤q+1:=by rw [←a7,Zch,X.out.2];omega
       rw [a7] at b7;have cm:=Za a7;clear aw bq ca ax au c1 a7;go_wp2_with fail
       go_region_with (go_at_call 67;refine b7.out.mono ?_;rintro e cj ⟨bg,bf,rfl,cf,ay⟩;obtain ⟨dm,dp,dw⟩:=Zw (ab.out.1.nx ay).2.1)
       all_goals
        have cl:Hid (CS w g ((cj.setCell ⟨g,0,none⟩ (.int .i64 (x:Int))).setCell ⟨g,1,none⟩ (.slice bg U bf)) (x:Int) (.slice bg U bf) U (ZH (Pl.mk A.name bc bd be) ps)∧Below d6.heap.size d6 ((cj.setCell ⟨g,0,none⟩ (.int .i64 (x:Int))).setCell ⟨g,1,none⟩ (.slice bg U bf))):=
         ⟨(ab.out.1.nx ay).put cf ab.out.1.2.2.2.2.2,((Zb ab.out.2 ay).setCell (by show d6.heap.size≤g;rw [HG.out];omega) _).setCell (by show d6.heap.size≤g;rw [HG.out];omega) _⟩
        clear cf ay;go_wp2_with fail
        go_roundw
        case rel =>
         repeat apply Exists.intro
         exact ⟨⟨k+1,U,ZH (Pl.mk A.name bc bd be) ps,bg,bf,by omega,by go_num,by omega,⟨N.out,cm.out⟩,cl.out⟩,rfl⟩
        case measure=>simp [intOf];omega
      ·have cx:(a9.toList == [112,111,111,108])=false:=by rw [ak];simp [ae]
       have N:Hid (ZbR d 0 d []=ZbR d (k+1) (d.drop (k+1)) ps):=by
        show _=_;rw [X.out.1,HD.out,ZbR,if_neg ae]
       clear a1 R J bp ae ak bt c1 c2 c3 c4 c5;go_wp2_with fail
       go_roundw
       case rel=>exact ⟨k+1,q,ps,O,vc,by omega,by go_num,by omega,⟨N.out,X.out.2⟩,M.out⟩
       case measure=>simp [intOf];omega
     ·have N:Hid (ZbR d 0 d []=ps∧ps.length=q):=⟨by rw [X.out.1,List.drop_of_length_le (by rw [d7.out.2.2.2.1];omega)];rfl,X.out.2⟩;obtain ⟨ai,aj,ck⟩:=Zw M.out.1.1;obtain ⟨cr,cs,ct⟩:=Zw M.out.1.2.1;have df:=M.out.1.2.2.2.2.1;go_wp2_with fail
      refine bodyPost_ret (v:=.tuple #[.agg #[.int .i64 (x:Int),.slice O q vc],.int .i64 0,.int .i64 0]) (by simp [results,Tryz.results24,go_sem,ai,aj]) rfl ⟨O,vc,?_,?_,?_⟩
      ·rw [m.out.1,N.out.1];simp only;rw [N.out.2];rfl
      ·rw [m.out.1,N.out.1];simp only;rw [N.out.2];exact Zr (Yi (Yi M.out.1.2.2.1 (by show w.heap.size<_;omega) _) (by show w.heap.size<_;omega) _) (by omega)
      ·exact (M.out.1.2.2.2.1.setCell (Yd _) _).setCell (Yd _) _
   ·have m:Hid (Z7 s=⟨(0,[]),L,aa⟩):=by show _=_;rw [b1.out,af,if_pos E]
    obtain ⟨ai,aj,ck⟩:=Zw I;have cw:((L:Int) != 0)=true:=by rw [bne_iff_ne];omega
    have V:Hid (Below w.heap.size w d6):=Zb HB.out.1 Y;clear af E I Y;go_wp2_with fail
    refine bodyPost_ret (v:=.tuple #[.agg #[.int .i64 0,.slice none 0 0],.int .i64 L,.int .i64 aa]) (by simp [results,Tryz.results24,go_sem,ai,aj]) rfl ?_;exact Zd5 rfl (by rw [m.out]) (by rw [m.out]) (by rw [m.out]) ((V.out.setCell (Yd _) _).setCell (Yd _) _)
theorem Zhg (b:Int) (d h:Option Addr) (n c1 c2:Nat) (ps:List Pl) (w:World) (E:RowAt w (.slice d n c1) n (Ze ps)) (I:RowAt w (.slice h n c2) n (Ze ps)) (D:ps.length=n) (aa:n≤maxLen) :
  Calls Tryz.prog 34 #[.agg #[.int .i64 b,.slice d n c1],.agg #[.int .i64 b,.slice h n c2]] w fun e w'=>e=.returned (.bool true)∧Below w.heap.size w w':=by
 unfold maxLen at aa;have L:Hid (ps.length=n):=D;clear D;have A:Hid (RowAt ((w.alloc (Zi b (.slice d n c1))).alloc (Zi b (.slice h n c2))) (.slice d n c1) n (Ze ps)∧RowAt ((w.alloc (Zi b (.slice d n c1))).alloc (Zi b (.slice h n c2))) (.slice h n c2) n (Ze ps)):=
  ⟨(E.nx (Zc _ _)).nx (Zc _ _),(I.nx (Zc _ _)).nx (Zc _ _)⟩
 clear E I;go_enter Tryz.func34,Tryz.ntmps34
 go_wp2_with fail
 go_loopw [5] (fun i wr=>∃ (k:Nat),k≤n∧i=.int .i64 k ∧
   Below ((w.alloc (Zi b (.slice d n c1))).alloc (Zi b (.slice h n c2))).heap.size ((w.alloc (Zi b (.slice d n c1))).alloc (Zi b (.slice h n c2))) wr) (fun i _=>n - (intOf i).toNat)
 case atStart=>exact ⟨0,Ye _,rfl,Yh _ _⟩
 case round =>
  obtain ⟨k,ag,rfl,m⟩:=hrel;have ae:wr.cell? ⟨w.heap.size,1,none⟩=some (.slice d n c1):=by
   refine (m.cell (p:=⟨w.heap.size,1,none⟩) (by simp;omega)).trans ?_;simp
  have af:wr.cell? ⟨w.heap.size+1,1,none⟩=some (.slice h n c2):=by
   refine (m.cell (p:=⟨w.heap.size+1,1,none⟩) (by simp)).trans ?_;simp
  have J:Hid (Below w.heap.size w wr):=Zb (Zb (Zc _ _) (Zc _ _)) m;by_cases ab:k<n
  ·obtain ⟨⟨nm,sz,wt,fr⟩,q⟩:∃ p,ps[k]?=some p:=⟨_,Yb (by rw [L.out];exact ab)⟩;obtain ⟨ac,off,U,X,M,N,O,c3⟩:=ZJ (A.out.1.nx m) q;obtain ⟨ad,ai,V,Y,Q,R,d2,d3⟩:=ZJ (A.out.2.nx m) q;subst U V;clear q X Y;simp only at M N O c3 Q R d2 d3;have ah:(k:Int)<(n:Int):=by omega
   go_wp2_with fail
   go_quiet (fail)
   go_wp2_with fail
   go_roundw
   case rel=>exact ⟨k+1,by omega,by go_num,below_drewN m _⟩
   case measure=>simp [intOf];omega
  ·go_wp2_with fail
   go_ret
   exact ⟨rfl,J.out⟩
theorem ZsQ {w:World} {B:Nat} {e:TypeId} {size:Nat} {v:Value} {n:Nat} {q:List Value} (d:w.ownsRow B e size v n q):n≤maxLen:=by
 rcases d.2 with ⟨_,rfl⟩ | ⟨g,A,D,_,_,_,m,h,_⟩
 ·exact Ye _
 ·exact Ym m h
theorem ZlW (s:ByteArray) (w:World) (ac:s.size≤maxLen) :
  Calls Tryz.prog 22 #[.string s] w fun e w'=>∃ h vc,e=.returned (.tuple #[.agg #[.int .i64 (Z7 s).tab.1,.slice h (Z7 s).tab.2.length vc],.bool true])∧w'.ownsRow w.heap.size 82 4 (.slice h (Z7 s).tab.2.length vc) (Z7 s).tab.2.length (Ze (Z7 s).tab.2)∧Below w.heap.size w w':=by
 have HC:=Za (ZlL s (w.alloc (Zi 0 (.slice none 0 0))) ac);have ae:=Za (fun w0=>ZdV s w0 ac);have aj:Hid ((w.alloc (Zi 0 (.slice none 0 0))).heap[w.heap.size]?=some (Zi 0 (.slice none 0 0))):=ZC _ _ rfl;obtain ⟨⟨⟨b,ps⟩,av,az⟩,af⟩:∃ a,Z7 s=a:=⟨_,rfl⟩;rw [af] at HC ae ⊢;simp only;obtain ⟨d,E⟩:∃ d,ps.length=d:=⟨_,rfl⟩;rw [E];have HM:=Za E;clear af;unfold maxLen at ac;go_enter Tryz.func22,Tryz.ntmps22
 go_wp2_with fail
 refine HC.out.mono ?_;rintro e w1 ⟨h,vc,rfl,X,U⟩;simp only at X ⊢;rw [E] at X ⊢;obtain ⟨A,N⟩:∃ A,A=w1.alloc (Zi b (.slice h d vc)):=⟨_,rfl⟩;have J:Hid (A=w1.alloc (Zi b (.slice h d vc))∧Below w1.heap.size w1 A∧A.heap[w1.heap.size]?=some (Zi b (.slice h d vc))∧w1.heap.size<A.heap.size):=⟨N,by rw [N];exact Zc _ _,by rw [N];exact ZC _ _ rfl,by rw [N];simp⟩;have L:Hid (w1.ownsRow (w.heap.size+1) 82 4 (.slice h d vc) d (Ze ps)∧Below w.heap.size w w1∧w1.heap[w.heap.size]?=some (Zi 0 (.slice none 0 0))∧w.heap.size<w1.heap.size):=⟨by simpa using X,Zb (Zc _ _) U,(U.block _ (by simp)).trans aj.out,Zda U⟩;clear X U N;go_wp2_with fail
 rw [←J.out.1];refine (ae.out A).mono ?_;rintro e q ⟨aa,Y,rfl,I,D⟩;simp only at I ⊢;rw [E] at I ⊢;obtain ⟨g,V⟩:∃ g,w1.heap.size=g:=⟨_,rfl⟩;have m:Hid (q.ownsRow A.heap.size 82 4 (.slice aa d Y) d (Ze ps)∧Below w.heap.size w q∧q.heap[w.heap.size]?=some (Zi 0 (.slice none 0 0))∧q.heap[g]?=some (Zi b (.slice h d vc))∧q.ownsRow (w.heap.size+1) 82 4 (.slice h d vc) d (Ze ps)∧w.heap.size<g∧g<q.heap.size):=by
  have R:=J.out;rw [V] at R;have ah:=L.out.2.2.2;rw [V] at ah;refine ⟨I,Zb (Zb L.out.2.1 J.out.2.1) D,?_,(D.block _ R.2.2.2).trans R.2.2.1,Zx (Zx L.out.1 J.out.2.1) D,ah,Yl R.2.2.2 D.size⟩;exact (D.block _ (by omega)).trans ((J.out.2.1.block _ L.out.2.2.2).trans L.out.2.2.1)
 rw [V];obtain ⟨al,am,ao⟩:=Zw m.out.2.2.2.1;obtain ⟨M,ab⟩:∃ M,M=q.alloc (Zi b (.slice aa d Y)):=⟨_,rfl⟩;have Q:Hid (M=q.alloc (Zi b (.slice aa d Y))∧Below q.heap.size q M):=⟨ab,by rw [ab];exact Zc _ _⟩;have ap:=fun o=>(Zw (w:=q.alloc o) ((Zt _ _ m.out.2.2.2.2.2.2).trans m.out.2.2.2.1)).1
 have aq:=fun o=>(Zw (w:=q.alloc o) ((Zt _ _ m.out.2.2.2.2.2.2).trans m.out.2.2.2.1)).2.1
 have ak:=Za (Zhg b h aa d vc Y ps M ((Zf m.out.2.2.2.2.1).nx Q.out.2) ((Zf I).nx Q.out.2) E (ZsQ I));clear I D ab E V;go_wp2_with fail
 rw [←Q.out.1];refine ak.out.mono ?_;rintro e ai ⟨rfl,ag⟩;have O:=Zb Q.out.2 ag;have ad:Hid (ai.ownsRow (w.heap.size+1) 82 4 (.slice h d vc) d (Ze ps)∧Below w.heap.size w ai):=⟨Zx m.out.2.2.2.2.1 O,Zb m.out.2.1 O⟩;obtain ⟨aw,ax,ay⟩:=Zw ((O.block _ m.out.2.2.2.2.2.2).trans m.out.2.2.2.1);obtain ⟨ar,au,a0⟩:=Zw ((O.block _ (by have:=m.out.2.2.2.2.2;omega)).trans m.out.2.2.1);clear ag O al am ao ap aq;go_wp2_with fail
 refine bodyPost_ret (v:=.tuple #[.agg #[.int .i64 b,.slice h d vc],.bool true]) (by simp [results,Tryz.results22,go_sem,ar,au]) rfl ⟨h,vc,rfl,?_,?_⟩
 ·exact Zr (Yi (Yi ad.out.1 (by show w.heap.size<_;omega) _) (by show w.heap.size<_;omega) _) (by omega)
 ·exact (ad.out.2.setCell (Yd _) _).setCell (Yd _) _
end Co
end Go.Proofs.YtmgkcbdlfodjmaaGreatDoor
