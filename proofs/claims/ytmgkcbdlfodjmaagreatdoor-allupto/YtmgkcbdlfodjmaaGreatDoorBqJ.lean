import Derived.Test.YtmgkcbdlfodjmaaGreatDoorBqI
import Derived.Laws.IdiomStrings
import Derived.Test.YtmgkcbdlfodjmaaGreatDoorPrShelf
import Derived.Lib.AppendIntMem
import Derived.Lib.SmallJoins
set_option maxRecDepth 100000
set_option maxHeartbeats 16000000
namespace Go.Proofs.YtmgkcbdlfodjmaaGreatDoor
open Go.RowKit
namespace Df
open Co Lw
def vc (p:Pr.Pl):Pl:=⟨p.nm,p.sz,p.wt,p.fr⟩
theorem ZmV (W:World) (h:Nat):∀ (off:Nat) (ps:List Pr.Pl),(∀ (i:Nat) (p:Pr.Pl),ps[i]?=some p→W.cell? ⟨h,off+i*4,none⟩=some (.string p.nm)∧W.cell? ⟨h,off+i*4+1,none⟩=some (.int .i64 p.sz)∧W.cell? ⟨h,off+i*4+2,none⟩=some (.int .i64 p.wt)∧W.cell? ⟨h,off+i*4+3,none⟩=some (.int .i64 p.fr)) →
  ∀ (j:Nat) (x:Value),(Ze (ps.map vc))[j]?=some x→W.cell? ⟨h,off+j,none⟩=some x
 | off,[],_,j,x,d=>by simp [Ze] at d
 | off,q :: r,D,j,x,d=>by
  have m:=D 0 q rfl;match j,d with
  | 0,d=>simp only [List.map_cons,Ze,List.getElem?_cons_zero,Option.some.injEq] at d;subst d;simpa [vc] using m.1
  | 1,d=>simp only [List.map_cons,Ze,List.getElem?_cons_succ,List.getElem?_cons_zero,Option.some.injEq] at d;subst d;simpa [vc] using m.2.1
  | 2,d=>simp only [List.map_cons,Ze,List.getElem?_cons_succ,List.getElem?_cons_zero,Option.some.injEq] at d;subst d;simpa [vc] using m.2.2.1
  | 3,d=>simp only [List.map_cons,Ze,List.getElem?_cons_succ,List.getElem?_cons_zero,Option.some.injEq] at d;subst d;simpa [vc] using m.2.2.2
  | j+4,d =>
   simp only [List.map_cons,Ze,List.getElem?_cons_succ] at d;have ih:=ZmV W h (off+4) r (fun i p A=>by
    have:=D (i+1) p (by simpa using A);have e:off+(i+1)*4=off+4+i*4:=by omega
    rw [e] at this;exact this) j x d
   rw [show off+(j+4)=off+4+j by omega];exact ih
theorem ZiO {w:World} {m:Option Addr} {n c:Nat} {ps:List Pr.Pl} (h:Pr.Pools w m ps) (D:n≤c):RowAt w (.slice m n c) n (Ze (ps.map vc)):=by
 refine ⟨m,c,rfl,D,?_⟩;rcases h with rfl | ⟨b,off,q,A,d⟩
 ·exact .inl rfl
 ·exact .inr ⟨b,off,q,A,ZmV w b off ps (fun i p E=>⟨(d i p E).1,(d i p E).2.1,(d i p E).2.2.1,(d i p E).2.2.2.1⟩)⟩
theorem ZeB {w:World} {h:Option Addr} {ps qs:List Pr.Pl} (d:Pr.Pools w h (ps++qs)):Pr.Pools w h ps:=by
 rcases d with d | ⟨q,off,A,D,E⟩
 ·exact .inl (List.append_eq_nil_iff.1 d).1
 ·exact .inr ⟨q,off,A,D,fun i p m=>E i p (by rw [List.getElem?_append_left (Yc.1 m).1];exact m)⟩
theorem Zf2:∀ (l:ByteArray) (ps:List Pr.Pl),Pr.chk l ps=true→∀ p∈ps,Pr.plOk p=true
 | _,[],_,p,d=>by simp at d
 | l,m :: r,h,p,d=>by
  simp [Pr.chk] at h;rcases List.mem_cons.1 d with rfl | d
  ·exact h.1.1
  ·exact Zf2 _ r h.2 p d
theorem ZdI {b:Int} {ps:List Pr.Pl} (d:Pr.tabOk b ps=true):ps.length≤6:=by
 simp [Pr.tabOk] at d;exact d.1.2
theorem ZrU {b:Int} {ps:List Pr.Pl} (d:Pr.tabOk b ps=true):∀ p∈ps.map vc,0≤p.sz:=by
 simp [Pr.tabOk] at d;intro p m;obtain ⟨q,A,rfl⟩:=List.mem_map.1 m;have h:=Zf2 _ _ d.2 q A;simp [Pr.plOk] at h;exact (Pr.Zlb h.1.1.2).1
theorem ZnK (ba:Int) (L:Option Addr) (n J:Nat) (ps:List Pr.Pl) (bb:Int) (I:Option Addr) (cq E:Nat) (qs:List Pr.Pl) (w:World) (hps:Pr.Pools w L ps) (bo:ps.length=n) (bk:n*40≤140737488351232) (bi:n≤J) (bq:Pr.Pools w I qs) (bl:qs.length=cq) (bm:cq*40≤140737488351232) (bj:cq≤E) :
  Calls Tryz.prog 25 #[.agg #[.int .i64 ba,.slice L n J],.agg #[.int .i64 bb,.slice I cq E]] w fun e w'=>∃ (A:List Stp) (O:Option Addr) (c:Nat),e=.returned (.tuple #[.slice O A.length c,.bool true])∧w'.ownsRow w.heap.size 84 3 (.slice O A.length c) A.length (Zo A)∧Below w.heap.size w w':=by
 obtain ⟨W,hW⟩:∃ W,W=(w.alloc (Zi ba (.slice L n J))).alloc (Zi bb (.slice I cq E)):=⟨_,rfl⟩;have bh:Below w.heap.size w W:=by rw [hW];exact Zb (Zc _ _) (Zc _ _)
 have U:Hid (W=(w.alloc (Zi ba (.slice L n J))).alloc (Zi bb (.slice I cq E))∧W.heap[w.heap.size]?=some (Zi ba (.slice L n J))∧W.heap[w.heap.size+1]?=some (Zi bb (.slice I cq E))∧Below w.heap.size w W):=by
  refine ⟨hW,?_,?_,bh⟩
  ·rw [hW];exact (Zn _ _ (by simp)).trans (Zd _ _ rfl)
  ·rw [hW];exact Zd _ _ (by simp)
 have d:Hid (Pr.Pools w L ps∧Pr.Pools w I qs∧ps.length=n∧qs.length=cq∧n≤J∧cq≤E∧n*40≤140737488351232∧cq*40≤140737488351232∧n≤maxLen∧cq≤maxLen):=⟨hps,bq,bo,bl,bi,bj,bk,bm,by unfold maxLen;omega,by unfold maxLen;omega⟩;clear hps bq bo bl bi bj hW bh bk bm;go_enter Tryz.func25,Tryz.ntmps25
 go_wp2_with fail
 rw [←U.out.1];refine (Pr.Zgo ba L J n ps W (d.out.1.nx U.out.2.2.2) d.out.2.2.1 d.out.2.2.2.2.2.2.1).mono ?_;rintro e w1 ⟨N,rfl,br,aj⟩;obtain ⟨M,ah⟩:∃ M,M=w1.alloc (Zi ba (.slice (some ⟨N,0,none⟩) n (n+2))):=⟨_,rfl⟩;have bg:Below W.heap.size W M:=by rw [ah];exact Zb aj (Zc _ _)
 have Q:Hid (M=w1.alloc (Zi ba (.slice (some ⟨N,0,none⟩) n (n+2)))∧Below W.heap.size W M∧Pr.Pools M (some ⟨N,0,none⟩) (ps++[Pr.fgn,Pr.fgn])∧M.heap[w1.heap.size]?=some (Zi ba (.slice (some ⟨N,0,none⟩) n (n+2)))):=by
  refine ⟨ah,bg,?_,?_⟩
  ·rw [ah];exact br.nx (Zc _ _)
  ·rw [ah];exact Zd _ _ rfl
 obtain ⟨b7,b8,cb⟩:=Zw (Zk U.out.2.2.1 aj);have b9:∀ o,(w1.alloc o).cell? ⟨w.heap.size+1,0,none⟩=some (.int .i64 bb):=fun o=>(Zw (Zk (Zk U.out.2.2.1 aj) (Zc _ o))).1
 have ca:∀ o,(w1.alloc o).cell? ⟨w.heap.size+1,1,none⟩=some (.slice I cq E):=fun o=>(Zw (Zk (Zk U.out.2.2.1 aj) (Zc _ o))).2.1
 clear br aj ah bg;go_wp2_with fail
 rw [←Q.out.1];refine (Pr.Zgo bb I E cq qs M (d.out.2.1.nx (Zb U.out.2.2.2 Q.out.2.1)) d.out.2.2.2.1 d.out.2.2.2.2.2.2.2.1).mono ?_;rintro e ak ⟨aa,rfl,bs,am⟩;obtain ⟨m,ai⟩:∃ m,m=ak.alloc (Zi bb (.slice (some ⟨aa,0,none⟩) cq (cq+2))):=⟨_,rfl⟩;have ac:Below M.heap.size M m:=by rw [ai];exact Zb am (Zc _ _)
 have q:Hid (m=ak.alloc (Zi bb (.slice (some ⟨aa,0,none⟩) cq (cq+2)))∧Below w.heap.size w m∧Pr.Pools m (some ⟨N,0,none⟩) (ps++[Pr.fgn,Pr.fgn])∧Pr.Pools m (some ⟨aa,0,none⟩) (qs++[Pr.fgn,Pr.fgn])∧m.heap[w.heap.size]?=some (Zi ba (.slice L n J))∧m.heap[w.heap.size+1]?=some (Zi bb (.slice I cq E))∧m.heap[w1.heap.size]?=some (Zi ba (.slice (some ⟨N,0,none⟩) n (n+2)))∧m.heap[ak.heap.size]?=some (Zi bb (.slice (some ⟨aa,0,none⟩) cq (cq+2)))):=by
  refine ⟨ai,Zb U.out.2.2.2 (Zb Q.out.2.1 ac),Q.out.2.2.1.nx ac,?_,Zk U.out.2.1 (Zb Q.out.2.1 ac),Zk U.out.2.2.1 (Zb Q.out.2.1 ac),Zk Q.out.2.2.2 ac,?_⟩
  ·rw [ai];exact bs.nx (Zc _ _)
  ·rw [ai];exact Zd _ _ rfl
 have cc:∀ o,(ak.alloc o).cell? ⟨w1.heap.size,0,none⟩=some (.int .i64 ba):=fun o=>(Zw (Zk (Zk Q.out.2.2.2 am) (Zc _ o))).1
 have cd:∀ o,(ak.alloc o).cell? ⟨w1.heap.size,1,none⟩=some (.slice (some ⟨N,0,none⟩) n (n+2)):=fun o=>(Zw (Zk (Zk Q.out.2.2.2 am) (Zc _ o))).2.1
 clear bs am ai ac b7 b8 cb b9 ca;have HD:=Za (Ztq (Pr.tabOk ba ps) (Pr.tabOk bb qs) ba (some ⟨N,0,none⟩) n (n+2) (ps.map vc) bb (some ⟨aa,0,none⟩) cq (cq+2) (qs.map vc) m (ZiO (ZeB q.out.2.2.1) (by omega)) (by rw [List.length_map];exact d.out.2.2.1) (fun h=>by rw [←d.out.2.2.1];exact ZdI h) (ZiO (ZeB q.out.2.2.2.1) (by omega)) (by rw [List.length_map];exact d.out.2.2.2.1) (fun h=>by rw [←d.out.2.2.2.1];exact ZdI h)
  (fun u ab=>by have:=Pr.ZfL ba (some ⟨N,0,none⟩) (n+2) ps u ((ZeB q.out.2.2.1).nx ab) (by rw [d.out.2.2.1];exact d.out.2.2.2.2.2.2.2.2.1);rw [d.out.2.2.1] at this;exact this)
  (fun u ab=>by have:=Pr.ZfL bb (some ⟨aa,0,none⟩) (cq+2) qs u ((ZeB q.out.2.2.2.1).nx ab) (by rw [d.out.2.2.2.1];exact d.out.2.2.2.2.2.2.2.2.2);rw [d.out.2.2.2.1] at this;exact this))
 go_wp2_with fail
 rw [←q.out.1];refine HD.out.mono ?_;rintro e a8 ⟨O,c1,rfl,aq,V⟩;have HR:=Za (ZtP (Pr.tabOk ba ps) (Pr.tabOk bb qs) ba L n J (ps.map vc) bb I cq E (qs.map vc) a8 (ZiO (d.out.1.nx (Zb q.out.2.1 V)) d.out.2.2.2.2.1) (by rw [List.length_map];exact d.out.2.2.1) (fun h=>by rw [←d.out.2.2.1];exact ZdI h) (ZiO (d.out.2.1.nx (Zb q.out.2.1 V)) d.out.2.2.2.2.2.1) (by rw [List.length_map];exact d.out.2.2.2.1) (fun h=>by rw [←d.out.2.2.2.1];exact ZdI h) ZrU
  (fun u ab=>by have:=Pr.ZgP ba L J ps u (d.out.1.nx (Zb q.out.2.1 (Zb V ab))) (by rw [d.out.2.2.1];exact d.out.2.2.2.2.2.2.2.2.1);rw [d.out.2.2.1] at this;exact this)
  (fun u ab=>by have:=Pr.ZgP bb I E qs u (d.out.2.1.nx (Zb q.out.2.1 (Zb V ab))) (by rw [d.out.2.2.2.1];exact d.out.2.2.2.2.2.2.2.2.2);rw [d.out.2.2.2.1] at this;exact this))
 obtain ⟨A,hL⟩:∃ A,Ziu (Pr.tabOk ba ps&&Pr.tabOk bb qs) ba (ps.map vc) bb (qs.map vc)=A:=⟨_,rfl⟩;obtain ⟨bf,a6⟩:∃ bf,Zqo (Pr.tabOk ba ps&&Pr.tabOk bb qs)=bf:=⟨_,rfl⟩;unfold Zfp at HR;rw [hL,a6] at HR;rw [hL] at aq;rw [hL,a6];have b6:A.length≤100:=by
  rw [←hL];unfold Ziu;split
  ·rename_i h
   rw [Bool.and_eq_true] at h;have b0:=ZdI h.1;have b1:=ZdI h.2;have X:=fun k=>Zfm k ba (ps.map vc) bb (qs.map vc) (by rw [List.length_map];exact b0) (by rw [List.length_map];exact b1)
   have bu:(diffTo 0 ba (ps.map vc) bb (qs.map vc)).length=0:=rfl;have bv:=Zae 0 ba (ps.map vc) bb (qs.map vc);have e2:=Zae 1 ba (ps.map vc) bb (qs.map vc);have e3:=Zae 2 ba (ps.map vc) bb (qs.map vc);have e4:=Zae 3 ba (ps.map vc) bb (qs.map vc);have e5:=Zae 4 ba (ps.map vc) bb (qs.map vc);have bw:=Zae 5 ba (ps.map vc) bb (qs.map vc);have bx:=Zae 6 ba (ps.map vc) bb (qs.map vc);have bz:=Zae 7 ba (ps.map vc) bb (qs.map vc);unfold diffL;rw [bz,List.length_append,bx,List.length_append,bw,List.length_append,e5,List.length_append,e4,List.length_append,e3,List.length_append,e2,List.length_append,bv,List.length_append,bu];have ch:=X (((0:Nat):Int)+1);have ci:=X (((1:Nat):Int)+1);have cj:=X (((2:Nat):Int)+1);have ck:=X (((3:Nat):Int)+1);have cl:=X (((4:Nat):Int)+1);have cm:=X (((5:Nat):Int)+1);have co:=X (((6:Nat):Int)+1);have cp:=X (((7:Nat):Int)+1);omega
  ·exact Ye _
 obtain ⟨D,a7⟩:∃ D,A.length=D:=⟨_,rfl⟩;rw [a7] at HR aq b6 ⊢;have ad:Hid (a8.ownsRow m.heap.size 84 3 (.slice O D c1) D (Zo A)∧Below m.heap.size m a8∧A.length=D):=⟨aq,V,a7⟩;obtain ⟨ax,ay,az⟩:=Zw (Zk q.out.2.2.2.2.1 V);obtain ⟨ae,af,ag⟩:=Zw (Zk q.out.2.2.2.2.2.1 V);clear aq V hL a6 a7 cc cd HD;go_wp2_with fail
 refine HR.out.mono ?_;rintro e au ⟨ar,c2,rfl,bp,a0⟩;have R:Hid (RowAt au (.slice ar D c2) D (Zo A)∧Below m.heap.size m au∧au.ownsRow m.heap.size 84 3 (.slice O D c1) D (Zo A)):=⟨Zf bp,Zb ad.out.2.1 a0,Zx ad.out.1 a0⟩;clear bp a0 ax ay az ae af ag HR;obtain ⟨ax,ay,az⟩:=Zw (Zk q.out.2.2.2.2.1 R.out.2.1);obtain ⟨ae,af,ag⟩:=Zw (Zk q.out.2.2.2.2.2.1 R.out.2.1);obtain ⟨ce,cf,cg⟩:=Zw (Zk q.out.2.2.2.2.2.2.1 R.out.2.1);obtain ⟨a9,bc,bd⟩:=Zw (Zk q.out.2.2.2.2.2.2.2 R.out.2.1);have K1:=Za (Pr.Zgd ba N L J n ps au (d.out.1.nx (Zb q.out.2.1 R.out.2.1)) (q.out.2.2.1.nx R.out.2.1) d.out.2.2.1 d.out.2.2.2.2.2.2.1);go_wp2_with fail
 refine K1.out.mono ?_;rintro e av ⟨rfl,ao⟩;have Y:Hid (Below m.heap.size m av∧RowAt av (.slice ar D c2) D (Zo A)∧av.ownsRow m.heap.size 84 3 (.slice O D c1) D (Zo A)):=⟨Zb R.out.2.1 ao,R.out.1.nx ao,Zx R.out.2.2 ao⟩;clear ao ax ay az ae af ag ce cf cg a9 bc bd K1;obtain ⟨ae,af,ag⟩:=Zw (Zk q.out.2.2.2.2.2.1 Y.out.1);obtain ⟨a9,bc,bd⟩:=Zw (Zk q.out.2.2.2.2.2.2.2 Y.out.1);have K2:=Za (Pr.Zgd bb aa I E cq qs av (d.out.2.1.nx (Zb q.out.2.1 Y.out.1)) (q.out.2.2.2.1.nx Y.out.1) d.out.2.2.2.1 d.out.2.2.2.2.2.2.2.1);go_wp2_with fail
 refine K2.out.mono ?_;rintro e aw ⟨rfl,ap⟩;have al:Hid (Below m.heap.size m aw∧RowAt aw (.slice ar D c2) D (Zo A)∧aw.ownsRow m.heap.size 84 3 (.slice O D c1) D (Zo A)):=⟨Zb Y.out.1 ap,Y.out.2.1.nx ap,Zx Y.out.2.2 ap⟩;clear ap ae af ag a9 bc bd K2;have K3:=Za (Zq4 O ar D c1 c2 A aw (Zf al.out.2.2) al.out.2.1 ad.out.2.2 (by unfold maxLen;omega));go_wp2_with fail
 refine K3.out.mono ?_;rintro e bt ⟨rfl,a1⟩;have be:Hid (bt.ownsRow w.heap.size 84 3 (.slice O D c1) D (Zo A)∧Below w.heap.size w bt):=⟨Zr (Zx al.out.2.2 a1) q.out.2.1.size,Zb q.out.2.1 (Zb al.out.1 a1)⟩;clear a1 K3;go_wp2_with fail
 go_ret2
 exact ⟨A,O,c1,by rw [ad.out.2.2];rfl,by rw [ad.out.2.2];exact be.out.1,be.out.2⟩
end Df
namespace Pr
def dg (n:Int):ByteArray:=⟨#[UInt8.ofNat (48+n % 10).toNat]⟩
def ZcX:Nat→Int→ByteArray
 | 0,n=>dg n
 | f+1,n=>if n<10 then dg n else ZcX f (n / 10)++dg n
theorem Zi5 (n:Int) (u:World):(convert 196 9 (.slice (some ⟨u.heap.size,0,none⟩) 1 1)).run Tryz.prog (u.alloc (.cells #[.int .u8 (48+n % 10)] 5))=.ok (.string (dg n)) (u.alloc (.cells #[.int .u8 (48+n % 10)] 5)):=by
 have h:=run_convert_bytes_back (P:=Tryz.prog) (u.alloc (.cells #[.int .u8 (48+n % 10)] 5)) 196 9 5 ⟨u.heap.size,0,none⟩ 1 [UInt8.ofNat (48+n % 10).toNat] Tryz.underlying196 Tryz.underlying5 Tryz.underlying9 (by
  intro j d;have:j=0:=by simp at d;exact d
  subst this;have e:(UInt8.ofNat (48+n % 10).toNat).toNat=(48+n % 10).toNat:=by
   rw [UInt8.toNat_ofNat'];omega
  simp [Addr.add,e];omega)
 exact h
theorem Zj8 {a b:ByteArray} (d:a=b):Ending.returned (.string a)=.returned (.string b):=by rw [d]
theorem ZhU (n:Int):(dg n).size=1:=rfl
theorem Zcv:∀ (f:Nat) (n:Int),(ZcX f n).size≤f+1
 | 0,n=>by simp [ZcX,ZhU]
 | f+1,n=>by
  unfold ZcX;split
  ·simp [ZhU]
  ·have:=Zcv f (n / 10);rw [ByteArray.size_append,ZhU];omega
theorem ZhC (f:Nat):∀ (n:Int) (w:World),0≤n→n<10 ^ (f+1)→f≤3 →
  Calls Tryz.prog 102 #[.int .i64 n] w fun e I=>e=.returned (.string (ZcX f n))∧Below w.heap.size w I:=by
 induction f with
 | zero =>
  intro n w q d _;have J:n<10:=by simpa using d
  clear d;have E:=Zi5 n;go_enter Tryz.func102,Tryz.ntmps102
  go_wp2_with fail
  go_ret
  exact ⟨rfl,Zc _ _⟩
 | succ f ih =>
  intro n w q d M;have m:=show Hid _ from ih
  clear ih;have E:=Zi5 n;have O:n≤99999:=by
   have:(10:Int) ^ (f+1+1)≤10 ^ (3+1):=by
    exact_mod_cast Nat.pow_le_pow_right (by decide) (by omega:f+1+1≤3+1)
   omega
  have h:Hid (n<10 ^ (f+1+1)):=d;clear d;by_cases A:n<10
  ·go_enter Tryz.func102,Tryz.ntmps102
   go_wp2_with fail
   go_ret
   exact ⟨Zj8 (by simp [ZcX,A]),Zc _ _⟩
  ·have N:=Zcv f (n / 10);have L:=ZhU n;go_enter Tryz.func102,Tryz.ntmps102
   go_wp2_with fail
   refine (m.out (n / 10) _ ?_ ?_ (by omega)).mono ?_
   ·omega
   ·have:=h.out;rw [Int.pow_succ] at this;omega
   rintro e w1 ⟨rfl,D⟩;go_wp2_with fail
   go_ret
   exact ⟨Zj8 (by rw [ZcX,if_neg (by omega)]),Zb (Zc _ _) D⟩
theorem ZfQ {a b:ByteArray} (d:a.data.toList=b.data.toList):a=b:=Go.WideShapes.bytes_inj d
theorem da (a b:ByteArray):(a++b).data.toList=a.data.toList++b.data.toList:=Go.Joins.data_append a b
theorem ZmT:∀ (f u:Nat),u<10 ^ (f+1)→(⟨(Lib.decDigits u).toArray⟩:ByteArray)=ZcX f u
 | 0,u,h=>by
  have d:u<10:=by simpa using h
  rw [Lib.decDigits,dif_pos d];unfold ZcX dg;have e:(48+(u:Int) % 10).toNat=48+u:=by omega
  rw [e]
 | f+1,u,h=>by
  by_cases d:u<10
  ·rw [Lib.decDigits,dif_pos d];have m:(u:Int)<10:=by omega
   rw [ZcX,if_pos m];unfold dg;have e:(48+(u:Int) % 10).toNat=48+u:=by omega
   rw [e]
  ·have m:¬(u:Int)<10:=by omega
   rw [Lib.decDigits,dif_neg d,ZcX,if_neg m];have ih:=ZmT f (u / 10) (by rw [Nat.pow_succ] at h;omega);have q:((u:Int) / 10)=((u / 10:Nat):Int):=by omega
   rw [q,←ih];apply ZfQ;rw [da];unfold dg;have e:(48+(u:Int) % 10).toNat=48+u % 10:=by omega
   rw [e]
def Tab (w:World):Prop:=Lib.TabIs Tryz.prog w "internal/strconv.uint64pow10" .u64 Lib.pow10Tab
theorem Tab.nx {w d:World} (h:Tab w) (hb:Below w.heap.size w d):Tab d:=Lib.tabBelow_of_tabIs h d hb
theorem Zsc (w:World) (k:Nat) (d:Array Obj):Below w.heap.size w (Sort.grow (w.drewN k) d):=by
 refine ⟨rfl,rfl,rfl,?_,fun j h=>?_⟩
 ·show w.heap.size≤(w.heap++d).size;simp
 ·show (w.heap++d)[j]?=w.heap[j]?;rw [Array.getElem?_append_left h]
theorem ZqL (n:Int) (q:0≤n) (A:n<1000) (w:World) (h:Tab w) :
  Calls Tryz.prog 171 #[.int .i64 n] w fun e d=>e=.returned (.string (ZcX 2 n))∧Below w.heap.size w d:=by
 refine (Tryz.strconv_Itoa n (by omega) (by omega) w h).mono ?_;rintro e d ⟨rfl,k,m,rfl⟩;refine ⟨Zj8 ?_,Zsc w k m⟩;have e:Lib.itoa n=Lib.decDigits n.toNat:=by unfold Lib.itoa;rw [if_neg (by omega)]
 rw [e,ZmT 2 n.toNat (by omega)];congr 1;omega
abbrev sBl:ByteArray:=⟨#[32]⟩
abbrev sNl:ByteArray:=⟨#[10]⟩
abbrev sPool:ByteArray:=⟨#[112,111,111,108,32]⟩
def ZdM (word:ByteArray) (n:Int):ByteArray:=word++sBl++ZcX 2 n
theorem ZbV (d:ByteArray) (n:Int):(ZdM d n).size≤d.size+4:=by
 have:=Zcv 2 n;unfold ZdM;rw [ByteArray.size_append,ByteArray.size_append];have e:sBl.size=1:=rfl;omega
theorem Zfi (d:ByteArray) (n:Int) (J:d.size≤100) (A:0≤n) (D:n<1000) (w:World) (h:Tab w) :
  Calls Tryz.prog 145 #[.string d,.int .i64 n] w fun e m=>e=.returned (.string (ZdM d n))∧Below w.heap.size w m:=by
 have q:Hid (Tab w):=h;clear h;have I:=Zcv 2 n;have E:sBl.size=1:=rfl;go_enter Tryz.func145,Tryz.ntmps145
 go_wp2_with fail
 refine (ZqL n A D _ q.out).mono ?_;rintro e m ⟨rfl,hb⟩;go_wp2_with fail
 go_ret
 exact ⟨rfl,hb⟩
def ZeK (p:Pl):ByteArray:=sPool++p.nm++(sBl++ZdM sSize p.sz)++(sBl++ZdM sWait p.wt)++(sBl++ZdM sFar p.fr)++sNl
theorem Zi3 (p:Pl) (h:p.nm.size≤8):(ZeK p).size≤100:=by
 have m:=ZbV sSize p.sz;have q:=ZbV sWait p.wt;have A:=ZbV sFar p.fr;have d:sSize.size=4:=rfl;have e2:sWait.size=4:=rfl;have e3:sFar.size=3:=rfl;have e4:sBl.size=1:=rfl;have e5:sNl.size=1:=rfl;have D:sPool.size=5:=rfl;unfold ZeK;simp only [ByteArray.size_append];omega
theorem Zl9 (nm:ByteArray) (sz wt fr:Int) (ai:nm.size≤8) (U:0≤sz) (V:sz<1000) (X:0≤wt) (Y:wt<1000) (aa:0≤fr) (c1:fr<1000) (w:World) (J:Tab w) :
  Calls Tryz.prog 146 #[.agg #[.string nm,.int .i64 sz,.int .i64 wt,.int .i64 fr]] w fun e w'=>e=.returned (.string (ZeK ⟨nm,sz,wt,fr⟩))∧Below w.heap.size w w':=by
 obtain ⟨d,m⟩:∃ d,d=w.alloc (.cells #[.string nm,.int .i64 sz,.int .i64 wt,.int .i64 fr] 82):=⟨_,rfl⟩;have hb:Below w.heap.size w d:=by rw [m];exact Zc _ _
 have L:w.heap.size<d.heap.size:=by rw [m];simp
 have M:d.cell? ⟨w.heap.size,2,none⟩=some (.int .i64 wt):=by rw [m];simp
 have N:d.cell? ⟨w.heap.size,3,none⟩=some (.int .i64 fr):=by rw [m];simp
 have D:Hid (Tab d):=J.nx hb;have h:Hid (Below w.heap.size w d∧w.heap.size<d.heap.size∧d.cell? ⟨w.heap.size,2,none⟩=some (.int .i64 wt)∧d.cell? ⟨w.heap.size,3,none⟩=some (.int .i64 fr)):=⟨hb,L,M,N⟩;have R:Hid (d=w.alloc (.cells #[.string nm,.int .i64 sz,.int .i64 wt,.int .i64 fr] 82)):=m;clear J hb L M N m;have af:=ZbV sSize sz;have ag:=ZbV sWait wt;have ah:=ZbV sFar fr;have ad:sSize.size=4:=rfl;have e2:sWait.size=4:=rfl;have e3:sFar.size=3:=rfl;have e4:sBl.size=1:=rfl;have e5:sNl.size=1:=rfl;have ae:sPool.size=5:=rfl;go_enter Tryz.func146,Tryz.ntmps146
 go_wp2_with fail
 rw [←R.out];refine (Zfi sSize sz (by omega) U V _ D.out).mono ?_;rintro e w1 ⟨rfl,q⟩;have ac:w1.cell? ⟨w.heap.size,2,none⟩=some (.int .i64 wt):=(q.cell (p:=⟨w.heap.size,2,none⟩) h.out.2.1).trans h.out.2.2.1;have O:w1.cell? ⟨w.heap.size,3,none⟩=some (.int .i64 fr):=(q.cell (p:=⟨w.heap.size,3,none⟩) h.out.2.1).trans h.out.2.2.2;have A:Hid (Below d.heap.size d w1):=q;clear q;go_wp2_with fail
 refine (Zfi sWait wt (by omega) X Y _ (D.out.nx A.out)).mono ?_;rintro e Q ⟨rfl,E⟩;have s3:Q.cell? ⟨w.heap.size,3,none⟩=some (.int .i64 fr):=(E.cell (p:=⟨w.heap.size,3,none⟩) (Yl h.out.2.1 A.out.size)).trans O;have I:Hid (Below d.heap.size d Q):=Zb A.out E;clear E ac O;go_wp2_with fail
 refine (Zfi sFar fr (by omega) aa c1 _ (D.out.nx I.out)).mono ?_;rintro e aj ⟨rfl,ab⟩;go_wp2_with fail
 go_ret
 exact ⟨rfl,Zb h.out.1 (Zb I.out ab)⟩
def Zj0 (b:Int):ByteArray:=ZdM sBudget b++sNl
def Zua (acc:ByteArray) (p:Pl):ByteArray:=acc++ZeK p
def Zed (b:Int) (ps:List Pl) (k:Nat):ByteArray:=(ps.take k).foldl Zua (Zj0 b)
theorem Zkm (b:Int):(Zj0 b).size≤20:=by
 have h:=ZbV sBudget b;have d:sBudget.size=6:=rfl;have e5:sNl.size=1:=rfl;unfold Zj0;rw [ByteArray.size_append];omega
theorem ZiA (b:Int) (ps:List Pl) (k:Nat) (p:Pl) (d:ps[k]?=some p):Zed b ps (k+1)=Zed b ps k++ZeK p:=by
 unfold Zed;obtain ⟨h,rfl⟩:=Yc.1 d;rw [Yk h,List.foldl_append];rfl
theorem Zf2:∀ (l:ByteArray) (ps:List Pl),chk l ps=true→∀ (k:Nat) (p:Pl),ps[k]?=some p→plOk p=true
 | _,[],_,k,p,d=>by simp at d
 | l,m :: r,h,0,p,d=>by
  simp at d;subst d;simp [chk] at h;exact h.1.1
 | l,m :: r,h,k+1,p,d=>by
  simp [chk] at h;exact Zf2 m.nm r h.2 k p (by simpa using d)
theorem Zmf {nm:ByteArray} {sz wt fr:Int} (d:plOk ⟨nm,sz,wt,fr⟩=true):nm.size≤8∧(0≤sz∧sz<1000)∧(0≤wt∧wt<1000)∧(0≤fr∧fr<1000):=by
 simp [plOk,ZW,inB] at d;omega
def prT (b:Int) (ps:List Pl):ByteArray:=if tabOk b ps=true then Zed b ps ps.length else ⟨#[]⟩
def prE (b:Int) (ps:List Pl):Int:=if tabOk b ps=true then 0 else 9
theorem Zjr {a b:ByteArray} {x y:Int} (d:a=b) (h:x=y):Ending.returned (.tuple #[.string a,.int .i64 x])=.returned (.tuple #[.string b,.int .i64 y]):=by rw [d,h]
theorem ZnO (b:Int) (d:Option Addr) (c n:Nat) (ps:List Pl) (w:World) (hps:Pools w d ps) (I:ps.length=n) (ac:n≤maxLen) (ae:Tab w) :
  Calls Tryz.prog 100 #[.agg #[.int .i64 b,.slice d n c]] w fun e w'=>e=.returned (.tuple #[.string (prT b ps),.int .i64 (prE b ps)])∧Below w.heap.size w w':=by
 have O:=ZfL b d c ps (w.alloc (Zi b d n c)) (hps.nx (Zc _ _)) (by rw [I];exact ac);rw [I] at O;have V:=Za O;clear O;have N:Hid (ps.length=n):=I;have HP:Hid (Pools (w.alloc (Zi b d n c)) d ps):=hps.nx (Zc _ _);have U:Hid (Tab (w.alloc (Zi b d n c))):=ae.nx (Zc _ _);clear I hps ae;unfold maxLen at ac;cases m:tabOk b ps
 ·go_enter Tryz.func100,Tryz.ntmps100
  go_wp2_with fail
  refine V.out.mono ?_;rintro e w1 ⟨rfl,h⟩;rw [m];go_wp2_with fail
  go_ret2
  exact ⟨Zjr (by simp [prT,m]) (by simp [prE,m]),Zb (Zc _ _) h⟩
 have ad:=m;simp [tabOk] at ad;obtain ⟨⟨aa,X⟩,ab⟩:=ad;have a0:n≤6:=by rw [←N.out];exact X
 obtain ⟨a6,a7⟩:=Zlb aa;have HC:Hid (chk ⟨#[]⟩ ps=true):=ab;clear X ab aa;have ap:=Zkm b;have az:=ZbV sBudget b;have ay:sBudget.size=6:=rfl;have e5:sNl.size=1:=rfl;go_enter Tryz.func100,Tryz.ntmps100
 go_wp2_with fail
 refine V.out.mono ?_;rintro e w1 ⟨rfl,h⟩;rw [m];have av:w1.cell? ⟨w.heap.size,0,none⟩=some (.int .i64 b):=(h.cell (p:=⟨w.heap.size,0,none⟩) (by simp)).trans (by simp);have af:w1.cell? ⟨w.heap.size,1,none⟩=some (.slice d n c):=(h.cell (p:=⟨w.heap.size,1,none⟩) (by simp)).trans (by simp);have L:Hid (Below (w.alloc (Zi b d n c)).heap.size (w.alloc (Zi b d n c)) w1):=h;have Q:w.heap.size<w1.heap.size:=Zda h;clear h;go_wp2_with fail
 refine (Zfi sBudget b (by omega) (by omega) (by omega) _ (U.out.nx L.out)).mono ?_;rintro e A ⟨rfl,E⟩;have aw:A.cell? ⟨w.heap.size,1,none⟩=some (.slice d n c):=(E.cell (p:=⟨w.heap.size,1,none⟩) Q).trans af;have M:Hid (Below (w.alloc (Zi b d n c)).heap.size (w.alloc (Zi b d n c)) A):=Zb L.out E;have au:w.heap.size<A.heap.size:=Yl Q E.size;clear E av af L Q;go_wp2_with fail
 go_loopw [4,5] (fun s i wr=>∃ (k:Nat) (D:ByteArray),k≤n∧i=.int .i64 k∧s=.string D∧Hid (D=Zed b ps k)∧D.size≤20+100*k∧Below A.heap.size A wr) (fun _ i _=>n - (intOf i).toNat)
 case atStart=>exact ⟨0,_,Ye _,rfl,rfl,rfl,by have:=ap;simpa [Zj0] using this,Yh _ _⟩
 case round =>
  obtain ⟨k,D,bc,rfl,rfl,R,a1,q⟩:=hrel;have a9:wr.cell? ⟨w.heap.size,1,none⟩=some (.slice d n c):=(q.cell (p:=⟨w.heap.size,1,none⟩) au).trans aw;have HB:Hid (Below w.heap.size w wr):=Zb (Zc _ _) (Zb M.out q);by_cases aq:k<n
  ·obtain ⟨⟨nm,sz,wt,fr⟩,J⟩:∃ p,ps[k]?=some p:=⟨_,Yb (by rw [N.out];exact aq)⟩;obtain ⟨ax,off,rfl,a8,ak,c1,c2,c3,ar⟩:=(HP.out.nx (Zb M.out q)).at J;obtain ⟨Y,⟨ag,ah⟩,⟨ai,aj⟩,⟨al,am⟩⟩:=Zmf (Zf2 _ _ HC.out _ _ J);have HS:Hid (Zed b ps (k+1)=Zed b ps k++ZeK ⟨nm,sz,wt,fr⟩):=ZiA b ps k _ J;have bd:=Zi3 ⟨nm,sz,wt,fr⟩ Y;clear J ar;simp only at ak c1 c2 c3;go_wp2_with fail
   refine (Zl9 nm sz wt fr Y ag ah ai aj al am _ (U.out.nx (Zb M.out q))).mono ?_;rintro e be ⟨rfl,ao⟩;go_wp2_with fail
   go_roundw
   case rel=>exact ⟨k+1,_,by omega,by go_num,rfl,(by show _=_;rw [HS.out,←R.out]),(by rw [ByteArray.size_append];omega),Zb q ao⟩
   case measure=>simp [intOf];omega
  ·obtain rfl:k=n:=by omega
   go_wp2_with fail
   go_ret2
   exact ⟨Zjr (by rw [prT,if_pos m,N.out];exact R.out) (by simp [prE,m]),HB.out⟩
theorem ZnF (b:Int) (d:Option Addr) (c n:Nat) (ps:List Pl) (w:World) (hps:Pools w d ps) (h:ps.length=n) (A:n≤maxLen) (m:Tab w) :
  Calls Tryz.prog 61 #[.agg #[.int .i64 b,.slice d n c]] w fun e D=>e=.returned (.tuple #[.string (prT b ps),.int .i64 (prE b ps)])∧Below w.heap.size w D:=by
 have H:=Za (ZnO b d c n ps (w.alloc (Zi b d n c)) (hps.nx (Zc _ _)) h A (m.nx (Zc _ _)));clear hps h m;go_enter Tryz.func61,Tryz.ntmps61
 go_wp2_with fail
 refine H.out.mono ?_;rintro e w1 ⟨rfl,q⟩;go_wp2_with fail
 go_ret2
 exact ⟨rfl,Zb (Zc _ _) q⟩
abbrev rBud:ByteArray:=⟨#[98,117,100,103,101,116,32]⟩
abbrev rSize:ByteArray:=⟨#[32,115,105,122,101,32]⟩
abbrev rWait:ByteArray:=⟨#[32,119,97,105,116,32]⟩
abbrev rFar:ByteArray:=⟨#[32,102,97,114,32]⟩
theorem Zni (b:Int):rBud++ZcX 2 b++sNl=Zj0 b:=by
 apply ZfQ;simp [Zj0,ZdM]
theorem ZpX (d nm:ByteArray) (sz wt fr:Int) :
  d++sPool++nm++rSize++ZcX 2 sz++rWait++ZcX 2 wt++rFar++ZcX 2 fr++sNl=d++ZeK ⟨nm,sz,wt,fr⟩:=by
 apply ZfQ;simp [ZeK,ZdM]
theorem Zob (b:Int) (d:Option Addr) (c n:Nat) (ps:List Pl) (w:World) (hps:Pools w d ps) (Q:ps.length=n) (ao:n≤maxLen) :
  Calls Tryz.prog 62 #[.agg #[.int .i64 b,.slice d n c]] w fun e w'=>e=.returned (.tuple #[.string (prT b ps),.int .i64 (prE b ps)])∧Below w.heap.size w w':=by
 have X:=ZgP b d c ps (w.alloc (Zi b d n c)) (hps.nx (Zc _ _)) (by rw [Q];exact ao);rw [Q] at X;have ag:=Za X;clear X;have V:Hid (ps.length=n):=Q;have HP:Hid (Pools (w.alloc (Zi b d n c)) d ps):=hps.nx (Zc _ _);clear Q hps;unfold maxLen at ao;cases D:tabOk b ps
 ·go_enter Tryz.func62,Tryz.ntmps62
  go_wp2_with fail
  refine ag.out.mono ?_;rintro e w1 ⟨rfl,A⟩;rw [D];go_wp2_with fail
  go_ret2
  exact ⟨Zjr (by simp [prT,D]) (by simp [prE,D]),Zb (Zc _ _) A⟩
 have ap:=D;simp [tabOk] at ap;obtain ⟨⟨al,ak⟩,am⟩:=ap;have bm:n≤6:=by rw [←V.out];exact ak
 obtain ⟨bp,bq⟩:=Zlb al;have HC:Hid (chk ⟨#[]⟩ ps=true):=am;clear ak am al;have a8:=Zkm b;have bt:=Zcv 2 b;have bk:rBud.size=7:=rfl;have e2:rSize.size=6:=rfl;have e3:rWait.size=6:=rfl;have e4:rFar.size=5:=rfl;have e5:sNl.size=1:=rfl;have bl:sPool.size=5:=rfl;go_enter Tryz.func62,Tryz.ntmps62
 go_wp2_with fail
 refine ag.out.mono ?_;rintro e w1 ⟨rfl,A⟩;rw [D];have bf:w1.cell? ⟨w.heap.size,0,none⟩=some (.int .i64 b):=(A.cell (p:=⟨w.heap.size,0,none⟩) (by simp)).trans (by simp);have aw:w1.cell? ⟨w.heap.size,1,none⟩=some (.slice d n c):=(A.cell (p:=⟨w.heap.size,1,none⟩) (by simp)).trans (by simp);have ae:Hid (Below (w.alloc (Zi b d n c)).heap.size (w.alloc (Zi b d n c)) w1):=A;have aa:w.heap.size<w1.heap.size:=Zda A;clear A;go_wp2_with fail
 refine (ZhC 2 b _ (by omega) (by omega) (by omega)).mono ?_;rintro e E ⟨rfl,M⟩;have bg:E.cell? ⟨w.heap.size,1,none⟩=some (.slice d n c):=(M.cell (p:=⟨w.heap.size,1,none⟩) aa).trans aw;have af:Hid (Below (w.alloc (Zi b d n c)).heap.size (w.alloc (Zi b d n c)) E):=Zb ae.out M;have bc:w.heap.size<E.heap.size:=Yl aa M.size;clear M bf aw ae aa;go_wp2_with fail
 go_loopw [5,6] (fun s i wr=>∃ (k:Nat) (I:ByteArray),k≤n∧i=.int .i64 k∧s=.string I∧Hid (I=Zed b ps k)∧I.size≤20+100*k∧Below E.heap.size E wr) (fun _ i _=>n - (intOf i).toNat)
 case atStart=>exact ⟨0,_,Ye _,rfl,rfl,Zni b,(by rw [Zni];exact a8),Yh _ _⟩
 case round =>
  obtain ⟨k,I,bu,rfl,rfl,HA,bo,O⟩:=hrel;have bs:wr.cell? ⟨w.heap.size,1,none⟩=some (.slice d n c):=(O.cell (p:=⟨w.heap.size,1,none⟩) bc).trans bg;have HB:Hid (Below w.heap.size w wr):=Zb (Zc _ _) (Zb af.out O);by_cases a9:k<n
  ·obtain ⟨⟨nm,sz,wt,fr⟩,R⟩:∃ p,ps[k]?=some p:=⟨_,Yb (by rw [V.out];exact a9)⟩;obtain ⟨bi,off,rfl,br,b6,c1,c2,c3,bw⟩:=(HP.out.nx (Zb af.out O)).at R;obtain ⟨a7,⟨az,a1⟩,⟨a0,bh⟩,⟨a6,bj⟩⟩:=Zmf (Zf2 _ _ HC.out _ _ R);have HS:Hid (Zed b ps (k+1)=Zed b ps k++ZeK ⟨nm,sz,wt,fr⟩):=ZiA b ps k _ R;have bv:=Zi3 ⟨nm,sz,wt,fr⟩ a7;have bz:=Zcv 2 sz;have b0:=Zcv 2 wt;have b1:=Zcv 2 fr;have HL:=Za (ZpX I nm sz wt fr);clear R;simp only at b6 c1 c2 c3;obtain ⟨h,q⟩:∃ h,h=wr.alloc (.cells #[.string nm,.int .i64 sz,.int .i64 wt,.int .i64 fr] 82):=⟨_,rfl⟩;have ah:h.cell? ⟨wr.heap.size,0,none⟩=some (.string nm):=by rw [q];simp
   have ai:h.cell? ⟨wr.heap.size,2,none⟩=some (.int .i64 wt):=by rw [q];simp
   have aj:h.cell? ⟨wr.heap.size,3,none⟩=some (.int .i64 fr):=by rw [q];simp
   have m:Hid (h=wr.alloc (.cells #[.string nm,.int .i64 sz,.int .i64 wt,.int .i64 fr] 82)∧wr.heap.size<h.heap.size∧Below wr.heap.size wr h):=⟨q,by rw [q];simp,by rw [q];exact Zc _ _⟩;clear q;go_wp2_with fail
   rw [←m.out.1];refine (ZhC 2 sz _ az (by omega) (by omega)).mono ?_;rintro e L ⟨rfl,J⟩;have ar:L.cell? ⟨wr.heap.size,0,none⟩=some (.string nm):=(J.cell (p:=⟨wr.heap.size,0,none⟩) m.out.2.1).trans ah;have bd:L.cell? ⟨wr.heap.size,2,none⟩=some (.int .i64 wt):=(J.cell (p:=⟨wr.heap.size,2,none⟩) m.out.2.1).trans ai;have au:L.cell? ⟨wr.heap.size,3,none⟩=some (.int .i64 fr):=(J.cell (p:=⟨wr.heap.size,3,none⟩) m.out.2.1).trans aj;have ac:Hid (Below h.heap.size h L):=J;clear J ah ai aj;go_wp2_with fail
   refine (ZhC 2 wt _ a0 (by omega) (by omega)).mono ?_;rintro e U ⟨rfl,N⟩;have ab:wr.heap.size<L.heap.size:=Yl m.out.2.1 ac.out.size;have av:U.cell? ⟨wr.heap.size,0,none⟩=some (.string nm):=(N.cell (p:=⟨wr.heap.size,0,none⟩) ab).trans ar;have be:U.cell? ⟨wr.heap.size,3,none⟩=some (.int .i64 fr):=(N.cell (p:=⟨wr.heap.size,3,none⟩) ab).trans au;have ad:Hid (Below h.heap.size h U):=Zb ac.out N;clear N ar bd au ab;go_wp2_with fail
   refine (ZhC 2 fr _ a6 (by omega) (by omega)).mono ?_;rintro e ax ⟨rfl,Y⟩;have aq:wr.heap.size<U.heap.size:=Yl m.out.2.1 ad.out.size;have bx:ax.cell? ⟨wr.heap.size,0,none⟩=some (.string nm):=(Y.cell (p:=⟨wr.heap.size,0,none⟩) aq).trans av;have ay:Hid (Below E.heap.size E ax):=Zb (Zb O m.out.2.2) (Zb ad.out Y);clear Y av be aq;go_wp2_with fail
   go_roundw
   case rel=>exact ⟨k+1,_,by omega,by go_num,rfl,(by show _=_;rw [HL.out,HS.out,←HA.out]),(by rw [HL.out,ByteArray.size_append];omega),ay.out⟩
   case measure=>simp [intOf];omega
  ·obtain rfl:k=n:=by omega
   go_wp2_with fail
   go_ret2
   exact ⟨Zjr (by rw [prT,if_pos D,V.out];exact HA.out) (by simp [prE,D]),HB.out⟩
theorem Pools.left {w:World} {d:Option Addr} {ps qs:List Pl} (I:Pools w d (ps++qs)):Pools w d ps:=by
 rcases I with h | ⟨q,off,A,D,E⟩
 ·simp at h;exact .inl h.1
 ·exact .inr ⟨q,off,A,D,fun i p m=>E i p (by rw [List.getElem?_append_left (Yc.1 m).1];exact m)⟩
theorem Zmx (b:Int) (m:Option Addr) (c n:Nat) (ps:List Pl) (w:World) (hps:Pools w m ps) (ab:ps.length=n) (aa:n*40≤140737488351232) (ad:Tab w) :
  Calls Tryz.prog 23 #[.agg #[.int .i64 b,.slice m n c]] w fun e w'=>∃ s,e=.returned (.tuple #[.string s,.bool true])∧Below w.heap.size w w':=by
 have N:Hid (ps.length=n):=ab;have Y:Hid (n≤maxLen):=by show _≤_;unfold maxLen;omega
 have Q:Hid (Pools w m ps):=hps;have HT:Hid (Tab w):=ad;clear ab hps ad;go_enter Tryz.func23,Tryz.ntmps23
 go_wp2_with fail
 refine (Zgo b m c n ps _ (Q.out.nx (Zc _ _)) N.out aa).mono ?_;rintro e d ⟨g,rfl,ac,J⟩;have ag:d.cell? ⟨w.heap.size,0,none⟩=some (.int .i64 b):=(J.cell (p:=⟨w.heap.size,0,none⟩) (by simp)).trans (by simp);have ah:d.cell? ⟨w.heap.size,1,none⟩=some (.slice m n c):=(J.cell (p:=⟨w.heap.size,1,none⟩) (by simp)).trans (by simp);have R:w.heap.size<d.heap.size:=Zda J;have X:Hid (Below w.heap.size w d∧Pools d (some ⟨g,0,none⟩) (ps++[fgn,fgn])):=⟨Zb (Zc _ _) J,ac⟩;clear J ac;obtain ⟨h,A⟩:∃ h,h=d.alloc (Zi b (some ⟨g,0,none⟩) n (n+2)):=⟨_,rfl⟩;have ai:h.cell? ⟨w.heap.size,0,none⟩=some (.int .i64 b):=by rw [A];exact ((Zc _ _).cell (p:=⟨w.heap.size,0,none⟩) R).trans ag
 have aj:h.cell? ⟨w.heap.size,1,none⟩=some (.slice m n c):=by rw [A];exact ((Zc _ _).cell (p:=⟨w.heap.size,1,none⟩) R).trans ah
 have ak:h.cell? ⟨d.heap.size,0,none⟩=some (.int .i64 b):=by rw [A];simp
 have al:h.cell? ⟨d.heap.size,1,none⟩=some (.slice (some ⟨g,0,none⟩) n (n+2)):=by rw [A];simp
 have q:Hid (h=d.alloc (Zi b (some ⟨g,0,none⟩) n (n+2))∧Below w.heap.size w h∧Pools h (some ⟨g,0,none⟩) (ps++[fgn,fgn])∧d.heap.size<h.heap.size):=
  ⟨A,(by rw [A];exact Zb X.out.1 (Zc _ _)),(by rw [A];exact X.out.2.nx (Zc _ _)),(by rw [A];simp)⟩
 clear A ag ah;have U:w.heap.size<h.heap.size:=Nat.lt_trans R q.out.2.2.2;have V:d.heap.size<h.heap.size:=q.out.2.2.2;go_wp2_with fail
 rw [←q.out.1];refine (ZnF b (some ⟨g,0,none⟩) (n+2) n ps _ q.out.2.2.1.left N.out Y.out (HT.out.nx q.out.2.1)).mono ?_;rintro e D ⟨rfl,E⟩;have am:D.cell? ⟨w.heap.size,0,none⟩=some (.int .i64 b):=(E.cell (p:=⟨w.heap.size,0,none⟩) U).trans ai;have ao:D.cell? ⟨w.heap.size,1,none⟩=some (.slice m n c):=(E.cell (p:=⟨w.heap.size,1,none⟩) U).trans aj;have ap:D.cell? ⟨d.heap.size,0,none⟩=some (.int .i64 b):=(E.cell (p:=⟨d.heap.size,0,none⟩) V).trans ak;have aq:D.cell? ⟨d.heap.size,1,none⟩=some (.slice (some ⟨g,0,none⟩) n (n+2)):=(E.cell (p:=⟨d.heap.size,1,none⟩) V).trans al;have M:Hid (Below h.heap.size h D):=E;clear E ai aj ak al;go_wp2_with fail
 refine (Zob b m c n ps _ (Q.out.nx (Zb q.out.2.1 M.out)) N.out Y.out).mono ?_;rintro e L ⟨rfl,I⟩;have ae:w.heap.size<D.heap.size:=Yl U M.out.size;have af:d.heap.size<D.heap.size:=Yl V M.out.size;have av:L.cell? ⟨w.heap.size,0,none⟩=some (.int .i64 b):=(I.cell (p:=⟨w.heap.size,0,none⟩) ae).trans am;have aw:L.cell? ⟨w.heap.size,1,none⟩=some (.slice m n c):=(I.cell (p:=⟨w.heap.size,1,none⟩) ae).trans ao;have ax:L.cell? ⟨d.heap.size,0,none⟩=some (.int .i64 b):=(I.cell (p:=⟨d.heap.size,0,none⟩) af).trans ap;have ay:L.cell? ⟨d.heap.size,1,none⟩=some (.slice (some ⟨g,0,none⟩) n (n+2)):=(I.cell (p:=⟨d.heap.size,1,none⟩) af).trans aq;have O:Hid (Below h.heap.size h L):=Zb M.out I;clear I am ao ap aq;go_wp2_with fail
 refine (Zgd b g m c n ps _ (Q.out.nx (Zb q.out.2.1 O.out)) (q.out.2.2.1.nx O.out) N.out aa).mono ?_;rintro e au ⟨rfl,ar⟩;go_wp2_with fail
 go_ret2
 exact ⟨_,rfl,Zb (Zb q.out.2.1 O.out) ar⟩
end Pr
namespace Co
def chC (ls:List Ln):Nat→ByteArray→List Ln
 | 0,_=>[]
 | f+1,nm=>match Zbj ls 2 nm with
  | none=>[]
  | some p=>p :: chC ls f p.frm
theorem Zif (d:List (Ln×Value)):∀ (f:Nat) (nm:ByteArray),chC (ZaZ d) f nm=ZaZ (chn d f nm)
 | 0,_=>rfl
 | f+1,nm=>by
  rw [chC,chn,ZeF];cases ZaP d 2 nm with
  | none=>rfl
  | some p=>simp only [Option.map_some];rw [Zif d f];rfl
def Zd3 (all:List Ln) (most:Nat):List Ln→Nat
 | []=>0
 | p :: r=>if most<(chC all 7 p.frm).length then p.place else Zd3 all most r
theorem Zix (d:List (Ln×Value)) (h:Nat):∀ m:List (Ln×Value),Zd3 (ZaZ d) h (ZaZ m)=ZbS d h m
 | []=>rfl
 | p :: r=>by
  have ih:=Zix d h r;simp only [ZaZ,List.map_cons,Zd3,ZbS] at ih ⊢;rw [ih];have e:=Zif d 7 p.1.frm;simp only [ZaZ] at e;rw [e,List.length_map]
def baC (ls:List Ln) (frm:ByteArray):Bool:=frm.toList.isEmpty||(Zbj ls 2 frm).isSome
theorem Zrf (h:List (Ln×Value)) (d:ByteArray):baC (ZaZ h) d=Zd8 h d:=by
 unfold baC Zd8;rw [ZeF,Option.isSome_map]
def noC (all:List Ln):List Ln→Option Nat
 | []=>none
 | p :: r=>if baC all p.frm=true then noC all r else some p.place
theorem Znj (d:List (Ln×Value)):∀ h:List (Ln×Value),noC (ZaZ d) (ZaZ h)=Zcq d h
 | []=>rfl
 | p :: r=>by
  have ih:=Znj d r;have e:=Zrf d p.1.frm;simp only [ZaZ,List.map_cons,noC,Zcq] at ih e ⊢;rw [ih,e]
def chE (ls:List Ln):Nat×Nat:=
 match noC ls ls with
 | some k=>(6,k)
 | none=>if 0<Zd3 ls 6 ls then (7,Zd3 ls 6 ls) else if 0<Zd3 ls 3 ls then (8,Zd3 ls 3 ls) else (0,0)
theorem Zqt (d:List (Ln×Value)):chE (ZaZ d)=ZbO d:=by
 unfold chE ZbO;rw [Znj,Zix,Zix];cases Zcq d d <;> rfl
def ZgY (key:Nat) (other:Int):List Ln→Int
 | []=>other
 | p :: r=>match ZaA p.sets key with | some n=>n | none=>ZgY key other r
theorem ZlA (key:Nat) (d:Int):∀ h:List (Ln×Value),ZgY key d (ZaZ h)=chv key d h
 | []=>rfl
 | p :: r=>by
  have ih:=ZlA key d r;simp only [ZaZ,List.map_cons,ZgY,chv] at ih ⊢;rw [ih];cases ZaA p.1.sets key <;> rfl
def Zfa (key:Nat) (other:Int) (ss:List (Nat×Nat)) (ch:List Ln):Int:=match ZaA ss key with | some n=>n | none=>ZgY key other ch
theorem Zgs (key:Nat) (h:Int) (ss:List (Nat×Nat)) (d:List (Ln×Value)):Zfa key h ss (ZaZ d)=Zbu key h ss d:=by
 unfold Zfa Zbu;rw [ZlA];cases ZaA ss key <;> rfl
def plC (ls:List Ln) (l:Ln):Pl:=
 ⟨l.name,Zfa 0 1 l.sets (chC ls 7 l.frm),Zfa 1 0 l.sets (chC ls 7 l.frm),Zfa 2 0 l.sets (chC ls 7 l.frm)⟩
theorem Zr1 (d:List (Ln×Value)) (l:Ln):plC (ZaZ d) l=ZfB d l:=by
 unfold plC ZfB;rw [Zif,Zgs,Zgs,Zgs]
def stC (all:List Ln) (st:Int×List Pl) (l:Ln):Int×List Pl:=
 if l.kind=1 then (Zfa 3 0 l.sets [],st.2) else if l.kind=3 then (st.1,ZH (plC all l) st.2) else st
def ZfM (all:List Ln):Int×List Pl:=all.foldl (stC all) (0,[])
theorem ZqA (d:List (Ln×Value)):ZfM (ZaZ d)=Zb3 d d.length:=by
 unfold ZfM Zb3 ZaZ;rw [List.take_length,List.foldl_map];congr 1;funext st p
 unfold stC ZeM;have e:=Zr1 d p.1;have e2:=Zgs 3 0 p.1.sets [];simp only [ZaZ,List.map_nil] at e e2;rw [e,e2]
structure Ans where
 tab:Int×List Pl
 err:Nat
 at':Nat
def Z7 (s:ByteArray):Ans:=
 if 1000<s.size then ⟨(0,[]),1,0⟩
 else if (rd s).err≠0 then ⟨(0,[]),(rd s).err,(rd s).at'⟩
 else if (chE (rd s).lines).1≠0 then ⟨(0,[]),(chE (rd s).lines).1,(chE (rd s).lines).2⟩
 else ⟨ZfM (rd s).lines,0,0⟩
theorem Zpv (p:ByteArray) (d:p.size≤1000):(Zav p).length≤1001:=Ym (Zio p) (by omega)
theorem Zg2:∀ (ps:List ByteArray) (i:Nat) (m:List Ln),(∀ p∈ps,p.size≤1000)→(∀ l∈m,l.sets.length≤1001)→∀ l∈(rdC i m ps).lines,l.sets.length≤1001
 | [],i,m,_,q,l,d=>by
  rw [rdC] at d;split at d
  ·simp at d
  ·exact q l d
 | p :: r,i,m,D,q,l,d=>by
  rw [rdC] at d;have E:∀ L∈r,L.size≤1000:=fun L A=>D L (List.mem_cons_of_mem _ A)
  split at d
  ·exact Zg2 r _ _ E q l d
  ·split at d
   ·simp at d
   ·rename_i J I
    split at d
    ·refine Zg2 r _ _ E ?_ l d;intro L A;rcases List.mem_append.1 A with h | h
     ·exact q L h
     ·simp at h;subst h;exact Ym (ZfE I).2.2 (Zpv p (D p List.mem_cons_self))
    ·simp at d
theorem Zlu (s:ByteArray) (h:s.size≤1000):∀ l∈(rd s).lines,l.sets.length≤1001:=
 Zg2 _ _ _ (fun p d=>Ym (ZdQ s 10 p d) h) (by simp)
def ZnR (a:Ans) (w w':World) (e:Ending):Prop:=
 ∃ vo vc,e=.returned (.tuple #[.agg #[.int .i64 a.tab.1,.slice vo a.tab.2.length vc],.int .i64 a.err,.int .i64 a.at'])∧w'.ownsRow w.heap.size 82 4 (.slice vo a.tab.2.length vc) a.tab.2.length (Ze a.tab.2)∧Below w.heap.size w w'
theorem Zd5 {w h:World} {e:Ending} {a:Ans} {x y:Int} (m:e=.returned (.tuple #[.agg #[.int .i64 0,.slice none 0 0],.int .i64 x,.int .i64 y])) (d:a.tab=(0,[])) (q:x=a.err) (A:y=a.at') (hb:Below w.heap.size w h):ZnR a w h e:=by
 refine ⟨none,0,?_,?_,hb⟩
 ·rw [m,d,q,A];rfl
 ·rw [d];exact Yq _ _ _ _
theorem ZfH (s:ByteArray) (w:World) (a8:s.size≤maxLen) :
  Calls Tryz.prog 28 #[.string s] w fun e w'=>ZnR (Z7 s) w w' e:=by
 unfold maxLen at a8;by_cases ae:1000<s.size
 ·have d:Hid (Z7 s=⟨(0,[]),1,0⟩):=by show _=_;rw [Z7,if_pos ae]
  have a6:(1000:Int)<(s.size:Int):=by omega
  go_enter Tryz.func28,Tryz.ntmps28
  go_wp2_with fail
  refine bodyPost_ret (v:=.tuple #[.agg #[.int .i64 0,.slice none 0 0],.int .i64 1,.int .i64 0]) (by simp [results,Tryz.results28,go_sem]) rfl ?_;exact Zd5 rfl (by rw [d.out]) (by rw [d.out];rfl) (by rw [d.out];rfl) (Zc _ _)
 ·have ap:s.size≤1000:=by omega
  have a6:¬(1000:Int)<(s.size:Int):=by omega
  have al:Hid ((w.alloc (Zi 0 (.slice none 0 0))).heap[w.heap.size]?=some (Zi 0 (.slice none 0 0))):=ZC _ _ rfl;have aw:=Za (Zk3 s (w.alloc (Zi 0 (.slice none 0 0))) ap);have ay:=Za (Zlu s ap);have Y:Hid (Z7 s=if (rd s).err≠0 then ⟨(0,[]),(rd s).err,(rd s).at'⟩ else if (chE (rd s).lines).1≠0 then ⟨(0,[]),(chE (rd s).lines).1,(chE (rd s).lines).2⟩ else ⟨ZfM (rd s).lines,0,0⟩):=by
   show _=_;rw [Z7,if_neg ae]
  clear ae;go_enter Tryz.func28,Tryz.ntmps28
  go_wp2_with fail
  refine aw.out.mono ?_;rintro e w1 (⟨ad,rfl,E⟩ | ⟨bd,aa,ab,ar,af,ah,bc,rfl,X,E⟩)
  ·obtain ⟨q,A⟩:∃ q,(rd s).err=q:=⟨_,rfl⟩;obtain ⟨J,ai⟩:∃ J,(rd s).at'=J:=⟨_,rfl⟩;rw [A] at ad;rw [A,ai];have d:Hid (Z7 s=⟨(0,[]),q,J⟩):=by show _=_;rw [Y.out,A,ai,if_pos ad]
   have h:w1.heap[w.heap.size]?=some (Zi 0 (.slice none 0 0)):=(E.block _ (by simp)).trans al.out;obtain ⟨N,O,au⟩:=Zw h;have a1:((q:Int) != 0)=true:=by rw [bne_iff_ne];omega
   have M:Hid (Below w.heap.size w w1):=Zb (Zc _ _) E;clear E A ai ad h;go_wp2_with fail
   refine bodyPost_ret (v:=.tuple #[.agg #[.int .i64 0,.slice none 0 0],.int .i64 q,.int .i64 J]) (by simp [results,Tryz.results28,go_sem,N,O]) rfl ?_;exact Zd5 rfl (by rw [d.out]) (by rw [d.out]) (by rw [d.out]) ((M.out.setCell (Yd _) _).setCell (Yd _) _)
  ·obtain ⟨n,R⟩:∃ n,bd.length=n:=⟨_,rfl⟩;have ax:Hid (∀ p∈bd,p.1.sets.length≤1001):=by
    intro p a7;exact ay.out p.1 (by rw [af];exact List.mem_map_of_mem a7)
   have am:Hid (Z7 s=if (ZbO bd).1≠0 then ⟨(0,[]),(ZbO bd).1,(ZbO bd).2⟩ else ⟨Zb3 bd n,0,0⟩):=by
    show _=_;rw [Y.out,if_neg (by simp [ar]),af,Zqt,ZqA,R]
   rw [R] at X ah ⊢;have HL:Hid (LinesAt w1 (.slice aa n ab) bd∧bd.length=n):=⟨X,R⟩;have h:w1.heap[w.heap.size]?=some (Zi 0 (.slice none 0 0)):=(E.block _ (by simp)).trans al.out;have ao:w.heap.size<w1.heap.size:=Zda E;have M:Hid (Below w.heap.size w w1∧w1.heap[w.heap.size]?=some (Zi 0 (.slice none 0 0))):=⟨Zb (Zc _ _) E,h⟩;have av:=Za (ZjH aa ab n bd w1 X R ah);clear X R af ar E h Y;go_wp2_with fail
   refine av.out.mono ?_;rintro e L ⟨rfl,I⟩;obtain ⟨⟨q,J⟩,Q⟩:∃ a0,ZbO bd=a0:=⟨_,rfl⟩;rw [Q];simp only;have h:L.heap[w.heap.size]?=some (Zi 0 (.slice none 0 0)):=(I.block _ ao).trans M.out.2;by_cases A:q=0
   ·have d:Hid (Z7 s=⟨Zb3 bd n,0,0⟩):=by show _=_;rw [am.out,Q,if_neg (by simp [A])]
    have az:=Za (Zmu aa ab n bd L (HL.out.1.nx I) HL.out.2 ah ax.out);have D:Hid (Below w.heap.size w L∧w.heap.size<L.heap.size∧L.heap[w.heap.size]?=some (Zi 0 (.slice none 0 0))):=⟨Zb M.out.1 I,Yl ao I.size,h⟩;subst A;clear Q h I;go_wp2_with fail
    refine az.out.mono ?_;rintro e ak ⟨aj,vc,rfl,U,ac⟩;have h:ak.heap[w.heap.size]?=some (Zi 0 (.slice none 0 0)):=(ac.block _ D.out.2.1).trans D.out.2.2;obtain ⟨N,O,au⟩:=Zw h;obtain ⟨⟨b,ps⟩,aq⟩:∃ a9,Zb3 bd n=a9:=⟨_,rfl⟩;rw [aq] at d U ⊢;simp only at U ⊢;obtain ⟨m,ag⟩:∃ m,ps.length=m:=⟨_,rfl⟩;rw [ag] at U ⊢;have V:Hid (ak.ownsRow L.heap.size 82 4 (.slice aj m vc) m (Ze ps)∧Below w.heap.size w ak∧ps.length=m):=⟨U,Zb D.out.1 ac,ag⟩;clear U ac aq ag h;go_wp2_with fail
    refine bodyPost_ret (v:=.tuple #[.agg #[.int .i64 b,.slice aj m vc],.int .i64 0,.int .i64 0]) (by simp [results,Tryz.results28,go_sem,N,O]) rfl ⟨aj,vc,?_,?_,?_⟩
    ·rw [d.out];simp only;rw [V.out.2.2];rfl
    ·rw [d.out];simp only;rw [V.out.2.2];exact Zr (Yi (Yi V.out.1 (by show w.heap.size<_;exact D.out.2.1) _) (by show w.heap.size<_;exact D.out.2.1) _) (Nat.le_of_lt D.out.2.1)
    ·exact (V.out.2.1.setCell (Yd _) _).setCell (Yd _) _
   ·have d:Hid (Z7 s=⟨(0,[]),q,J⟩):=by show _=_;rw [am.out,Q,if_pos A]
    obtain ⟨N,O,au⟩:=Zw h;have a1:((q:Int) != 0)=true:=by rw [bne_iff_ne];omega
    have D:Hid (Below w.heap.size w L):=Zb M.out.1 I;clear Q A h I;go_wp2_with fail
    refine bodyPost_ret (v:=.tuple #[.agg #[.int .i64 0,.slice none 0 0],.int .i64 q,.int .i64 J]) (by simp [results,Tryz.results28,go_sem,N,O]) rfl ?_;exact Zd5 rfl (by rw [d.out]) (by rw [d.out]) (by rw [d.out]) ((D.out.setCell (Yd _) _).setCell (Yd _) _)
theorem ZlL (s:ByteArray) (w:World) (L:s.size≤maxLen) :
  Calls Tryz.prog 59 #[.string s] w fun e V=>ZnR (Z7 s) w V e:=by
 have N:=Za (ZfH s (w.alloc (Zi 0 (.slice none 0 0))) L);have M:Hid ((w.alloc (Zi 0 (.slice none 0 0))).heap[w.heap.size]?=some (Zi 0 (.slice none 0 0))):=ZC _ _ rfl;unfold maxLen at L;go_enter Tryz.func59,Tryz.ntmps59
 go_wp2_with fail
 refine N.out.mono ?_;rintro e w1 ⟨E,vc,rfl,h,A⟩;obtain ⟨⟨⟨b,ps⟩,R,U⟩,q⟩:∃ a,Z7 s=a:=⟨_,rfl⟩;rw [q] at h ⊢;simp only at h ⊢;obtain ⟨d,D⟩:∃ d,ps.length=d:=⟨_,rfl⟩;rw [D] at h ⊢;have J:w1.heap[w.heap.size]?=some (Zi 0 (.slice none 0 0)):=(A.block _ (by simp)).trans M.out;obtain ⟨O,Q,X⟩:=Zw J;have m:Hid (w1.ownsRow (w.heap.size+1) 82 4 (.slice E d vc) d (Ze ps)∧Below w.heap.size w w1∧ps.length=d):=⟨by simpa using h,Zb (Zc _ _) A,D⟩;have I:=Za q;clear h A D J q;go_wp2_with fail
 refine bodyPost_ret (v:=.tuple #[.agg #[.int .i64 b,.slice E d vc],.int .i64 R,.int .i64 U]) (by simp [results,Tryz.results59,go_sem,O,Q]) rfl ⟨E,vc,?_,?_,?_⟩
 ·rw [I.out];simp only;rw [m.out.2.2]
 ·rw [I.out];simp only;rw [m.out.2.2];exact Zr (Yi (Yi m.out.1 (by show w.heap.size<_;omega) _) (by show w.heap.size<_;omega) _) (by omega)
 ·exact (m.out.2.1.setCell (Yd _) _).setCell (Yd _) _
end Co
end Go.Proofs.YtmgkcbdlfodjmaaGreatDoor
