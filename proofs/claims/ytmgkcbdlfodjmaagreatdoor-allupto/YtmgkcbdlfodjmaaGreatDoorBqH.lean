import Derived.Test.YtmgkcbdlfodjmaaGreatDoorBqG
import Derived.Deep.RegionHeld3
set_option maxRecDepth 100000
set_option maxHeartbeats 16000000
namespace Go.Proofs.YtmgkcbdlfodjmaaGreatDoor
open Go.RowKit
namespace Df
open Co Lw
def wnC (kd:Int) (ps:List Pl) (p:Pl):Bool:=if kd=4 then !Ziv ps p else Zbr kd ps p
def wnN (kd:Int) (p:Pl):Int:=if kd=4 then 0 else numP kd p
def wnL (kd:Int) (ps qs:List Pl):List Stp:=(qs.filter (wnC kd ps)).map (fun p=>ZaG kd p.nm (wnN kd p))
theorem Zsq {kd:Int} (d:kd=1∨kd=4∨kd=5∨kd=6∨kd=8) (ba:Int) (ps:List Pl) (bb:Int) (qs:List Pl):Zbh kd ba ps bb qs=wnL kd ps qs:=by
 rcases d with rfl | rfl | rfl | rfl | rfl <;> rfl
theorem ZsA {kd:Int} {ps qs:List Pl} {k:Nat} {p:Pl} (m:qs[k]?=some p):wnL kd ps (qs.take (k+1))=wnL kd ps (qs.take k)++if wnC kd ps p=true then [ZaG kd p.nm (wnN kd p)] else []:=by
 obtain ⟨h,e⟩:=Yc.1 m;unfold wnL;rw [Yk h,Yr,List.map_append,e];congr 1;cases d:wnC kd ps p <;> simp [d]
theorem Zh9 (kd:Int) (ah:kd=1∨kd=4∨kd=5∨kd=6∨kd=8) (ba:Int) (R:Option Addr) (n Q:Nat) (ps:List Pl) (bb:Int) (aa:Option Addr) (b8 Y:Nat) (qs:List Pl) (w:World) (a7:RowAt w (.slice R n Q) n (Ze ps)) (a1:ps.length=n) (b0:n≤6) (a8:RowAt w (.slice aa b8 Y) b8 (Ze qs)) (a0:qs.length=b8) (bz:b8≤6) (a6:∀ p∈qs,0≤p.sz) :
  Calls Tryz.prog 87 #[.agg #[.int .i64 ba,.slice R n Q],.agg #[.int .i64 bb,.slice aa b8 Y],.int .i64 kd] w fun e w'=>GaveS w w' (Zbh kd ba ps bb qs) e:=by
 rw [Zsq ah];obtain ⟨W,I⟩:=Zf6 ba R n Q bb aa b8 Y w;have aq:=I.out.2.2.2.2;have HF:=Za (fun u (hb:Below W.heap.size W u) bq=>Zdm ba R n Q bq ps u ((a7.nx aq).nx hb) a1 (by unfold maxLen;omega));have HR:Hid (RowAt W (.slice aa b8 Y) b8 (Ze qs)∧qs.length=b8∧∀ p∈qs,0≤p.sz):=⟨a8.nx aq,a0,a6⟩;obtain ⟨bm,bo,bp⟩:(kd == 2)=false∧(kd == 3)=false∧(kd == 7)=false:=by rcases ah with rfl | rfl | rfl | rfl | rfl <;> decide
 have HK:=Za ah;clear ah a7 a1 a8 a0 a6 aq;go_enter Tryz.func87,Tryz.ntmps87
 go_wp2_with fail
 rw [←I.out.1];go_loopw [7,11] (fun l i wr=>∃ (k j:Nat) (N:Option Addr) (vc:Nat),k≤b8∧j≤k∧i=.int .i64 k∧l=.slice N j vc∧Hid ((wnL kd ps (qs.take k)).length=j∧wr.ownsRow W.heap.size 84 3 (.slice N j vc) j (Zo (wnL kd ps (qs.take k)))∧Below W.heap.size W wr)) (fun _ i _=>b8 - (intOf i).toNat)
 case atStart=>exact ⟨0,0,none,0,Ye _,Yd _,rfl,rfl,rfl,Yq _ _ _ _,Yh _ _⟩
 case round =>
  obtain ⟨k,j,N,vc,bw,bv,rfl,rfl,A⟩:=hrel;have ar:wr.heap[w.heap.size]?=some (Zi ba (.slice R n Q)):=(A.out.2.2.block _ (by have:=I.out.2.2.2.1;omega)).trans I.out.2.1;have aj:wr.heap[w.heap.size+1]?=some (Zi bb (.slice aa b8 Y)):=(A.out.2.2.block _ (by have:=I.out.2.2.2.1;omega)).trans I.out.2.2.1;have aw:Hid (Below W.heap.size W wr):=A.out.2.2;obtain ⟨bf,bg,bh⟩:=Zw aj;have b7:w.heap.size+1<wr.heap.size:=(Ya.1 aj).1;by_cases bk:k<b8
  ·obtain ⟨⟨m,q,D,E⟩,ai⟩:∃ p,qs[k]?=some p:=⟨_,Yb (by rw [HR.out.2.1];exact bk)⟩;have b1:0≤q:=HR.out.2.2 _ (Yo ai);obtain ⟨bl,off,bi,bu,ay,c1,c2,c3⟩:=ZJ (HR.out.1.nx aw.out) ai;subst bi;simp only at ay c1 c2 c3;have bx:(k:Int)<(b8:Int):=by omega
   obtain ⟨⟨bd,al,am,ao⟩,L⟩:∃ y,inP ps m=y:=⟨_,rfl⟩;obtain ⟨M,ag⟩:∃ M,ps.any (Zl m)=M:=⟨_,rfl⟩;obtain ⟨v,au⟩:∃ v,wnN kd ⟨m,q,D,E⟩=v:=⟨_,rfl⟩;obtain ⟨c,d⟩:∃ c,wnC kd ps ⟨m,q,D,E⟩=c:=⟨_,rfl⟩;have V:=Za (ZsA (kd:=kd) (ps:=ps) ai);rw [d,au] at V;have HD:Hid ((kd=1∧(M&&decide (q<al))=c∧v=q)∨(kd=4∧(!M)=c∧v=0)∨(kd=5∧(E != ao)=c∧v=E)∨(kd=6∧(D != am)=c∧v=D)∨(kd=8∧decide (al<q)=c∧v=q)):=by
    have bj:=Zqe L ag;subst au d;show _∨_;rcases HK.out with rfl | rfl | rfl | rfl | rfl
    ·refine .inl ⟨rfl,?_,rfl⟩;simp [wnC,Zbr,L,ZV,numP];cases M
     ·simp [bj rfl];omega
     ·simp
    ·exact .inr (.inl ⟨rfl,by simp [wnC,Ziv,ag],rfl⟩)
    ·exact .inr (.inr (.inl ⟨rfl,by by_cases h:E=ao <;> simp [wnC,Zbr,L,ZV,numP,h],rfl⟩))
    ·exact .inr (.inr (.inr (.inl ⟨rfl,by by_cases h:D=am <;> simp [wnC,Zbr,L,ZV,numP,h],rfl⟩)))
    ·exact .inr (.inr (.inr (.inr ⟨rfl,by simp [wnC,Zbr,L,ZV,numP],rfl⟩)))
   clear ai au d;obtain ⟨J,ae⟩:∃ J,J=wr.alloc (ZF ⟨m,q,D,E⟩):=⟨_,rfl⟩;have U:Hid (J=wr.alloc (ZF ⟨m,q,D,E⟩)∧Below wr.heap.size wr J∧J.heap[wr.heap.size]?=some (ZF ⟨m,q,D,E⟩)):=⟨ae,by rw [ae];exact Zc _ _,by rw [ae];exact Zd _ _ rfl⟩;have ax:=Za (HF.out J (Zb aw.out U.out.2.1) m);rw [L,ag] at ax;have ap:∀ o,(wr.alloc o).heap[w.heap.size]?=some (Zi ba (.slice R n Q)):=fun o=>(Zn _ _ (by omega)).trans ar
   have a2:=fun o=>(Zw (ap o)).1
   have a3:=fun o=>(Zw (ap o)).2.1
   clear ae L ag ar aj ap bm bo bp;go_wp2_with fail
   rw [←U.out.1];refine ax.out.mono ?_;rintro e O ⟨rfl,af⟩;have bc:wr.heap.size<J.heap.size:=(Ya.1 U.out.2.2).1;obtain ⟨br,bs,d2,d3,bt⟩:=ZbK af bc U.out.2.2;have b6:wr.heap.size<O.heap.size:=Yl bc af.size;have av:Hid (Below wr.heap.size wr O):=Zb U.out.2.1 af;have X:Hid (O.ownsRow W.heap.size 84 3 (.slice N j vc) j (Zo (wnL kd ps (qs.take k)))∧Below W.heap.size W O):=⟨Zx A.out.2.1 av.out,Zb A.out.2.2 av.out⟩;clear af a2 a3 ay c1 c2 c3 bf bg bh;cases c with
   | false =>
    have HN:Hid (wnL kd ps (qs.take (k+1))=wnL kd ps (qs.take k)):=V.out.trans (by simp);clear V;rcases HD.out with ⟨rfl,d,rfl⟩ | ⟨rfl,d,rfl⟩ | ⟨rfl,d,rfl⟩ | ⟨rfl,d,rfl⟩ | ⟨rfl,d,rfl⟩ <;> clear HD HK <;> cases M <;> try (cases d;done)
    all_goals
     try simp only [Bool.true_and,decide_eq_false_iff_not] at d
     go_wp2_with fail
     go_roundw
     case rel=>exact ⟨k+1,j,N,vc,by omega,by omega,by go_num,rfl,by rw [HN.out];exact ⟨A.out.1,(X.out.1.alloc _).alloc _,Zb X.out.2 (Zb (Zc _ _) (Zc _ _))⟩⟩
     case measure=>simp [intOf];omega
   | true =>
    have HN:Hid (wnL kd ps (qs.take (k+1))=wnL kd ps (qs.take k)++[ZaG kd m v]):=V.out.trans (by simp);clear V;have HX:Hid (((O.alloc (ZF ⟨bd,al,am,ao⟩)).alloc (.cells #[.int .i64 kd,.string m,.int .i64 v] 84)).ownsRow W.heap.size 84 3 (.slice N j vc) j (Zo (wnL kd ps (qs.take k)))∧Below W.heap.size W ((O.alloc (ZF ⟨bd,al,am,ao⟩)).alloc (.cells #[.int .i64 kd,.string m,.int .i64 v] 84))):=⟨(X.out.1.alloc _).alloc _,Zb X.out.2 (Zb (Zc _ _) (Zc _ _))⟩;have be:=Za (fun (u:World) t (g:Nat) (h:g=u.heap.size)=>ZaM u [.int .i64 kd,.string m,.int .i64 v] t 1 h);have HL:Hid (∀ (ak:World) (ad:Option Addr) (ac:Nat),ak.ownsRow W.heap.size 84 3 (.slice ad (j+1) ac) (j+1) (Zo (wnL kd ps (qs.take k))++[.int .i64 kd,.string m,.int .i64 v])→(wnL kd ps (qs.take (k+1))).length=j+1∧ak.ownsRow W.heap.size 84 3 (.slice ad (j+1) ac) (j+1) (Zo (wnL kd ps (qs.take (k+1))))):=by
     intro ak ad ac ab;rw [HN.out];refine ⟨by simp [A.out.1],?_⟩;unfold Zo;rw [List.flatMap_append];exact ab
    clear HN X;rcases HD.out with ⟨rfl,d,rfl⟩ | ⟨rfl,d,rfl⟩ | ⟨rfl,d,rfl⟩ | ⟨rfl,d,rfl⟩ | ⟨rfl,d,rfl⟩ <;> clear HD HK <;> cases M <;> try (cases d;done)
    all_goals
     try simp only [Bool.true_and,decide_eq_true_eq] at d
     go_wp2_with (at_builtin;refine ZaN 84 42 3 32 _ ZcJ Tryz.underlying42 rfl (by decide) (by decide) rfl (.tmp 149) (.tmp 151) rfl W.heap.size _ j _ rfl (HX.out.1.alloc _) (some ⟨O.heap.size+1+1,0,none⟩) 1 1 _ (by rfl) (by rfl) (be.out _ _ _ (by simp)) (by intro u a9;simp at a9;rcases a9 with rfl | rfl | rfl <;> rfl) (fun h=>by cases h) (by omega) (by have:=HX.out.2.size;simp at this ⊢;omega) ?next)
     case next =>
      intro v' ak ab az;obtain ⟨ad,ac,rfl,_⟩:=Zf ab;have K6:=Za (And.intro (HL.out _ _ _ ab) ((HX.out.2.alloc HX.out.2.size _).trans az));clear ab az;go_wp2_with fail
      go_roundw
      case rel=>exact ⟨k+1,j+1,ad,ac,by omega,by omega,by go_num,rfl,K6.out.1.1,K6.out.1.2,K6.out.2⟩
      case measure=>simp [intOf];omega
  ·have HE:Hid ((wnL kd ps qs).length=j∧wr.ownsRow W.heap.size 84 3 (.slice N j vc) j (Zo (wnL kd ps qs))∧Below W.heap.size W wr):=by
    have b9:qs.take k=qs:=Yj (by rw [HR.out.2.1];omega);have:=A.out;rw [b9] at this;exact this
   clear ar aj;go_wp2_with fail
   go_ret
   exact Ze0 I.out.2.2.2.2 HE.out
theorem Zsi (kd:Int) (ap:kd=3∨kd=7) (ba:Int) (J:Option Addr) (n I:Nat) (ps:List Pl) (bb:Int) (R:Option Addr) (d Q:Nat) (qs:List Pl) (w:World) (av:RowAt w (.slice J n I) n (Ze ps)) (ar:ps.length=n) (br:n≤6) (aw:RowAt w (.slice R d Q) d (Ze qs)) (aq:qs.length=d) (bq:d≤6) :
  Calls Tryz.prog 87 #[.agg #[.int .i64 ba,.slice J n I],.agg #[.int .i64 bb,.slice R d Q],.int .i64 kd] w fun e w'=>GaveS w w' (Zbh kd ba ps bb qs) e:=by
 obtain ⟨q,hL⟩:∃ q,Zbh kd ba ps bb qs=q:=⟨_,rfl⟩;rw [hL];have HB:(ZV kd ba bb=true∧[⟨kd,⟨#[]⟩,bb⟩]=q)∨(ZV kd ba bb=false∧[]=q):=by
  rw [←hL];rcases ap with rfl | rfl <;> simp [Zbh,budL]
 obtain ⟨W,m⟩:=Zf6 ba J n I bb R d Q w;have ad:=m.out.2.2.2.2;have HF:=Za (fun u (hb:Below W.heap.size W u) bh=>Zdm ba J n I bh ps u ((av.nx ad).nx hb) ar (by unfold maxLen;omega));have HR:Hid (RowAt W (.slice R d Q) d (Ze qs)∧qs.length=d):=⟨aw.nx ad,aq⟩;have a6:=Za (fun (u:World) t (g:Nat) (h:g=u.heap.size)=>ZaM u [.int .i64 kd,.string ⟨#[]⟩,.int .i64 bb] t 1 h);clear av ar aw aq ad hL;rcases HB with ⟨bg,ae⟩ | ⟨be,ae⟩ <;> have U:=Za ae <;> clear ae <;> rcases ap with rfl | rfl
 all_goals
  go_enter Tryz.func87,Tryz.ntmps87
  first
  | (simp [ZV] at be;obtain ⟨bz,hU⟩:∃ bz,W=bz:=⟨_,rfl⟩;obtain ⟨L,ah⟩:∃ L:Option Addr,none=L:=⟨_,rfl⟩;obtain ⟨j,D⟩:∃ j:Nat,0=j:=⟨_,rfl⟩;obtain ⟨vc,ag⟩:∃ j:Nat,0=j:=⟨_,rfl⟩;have HO:Hid (q.length=j∧bz.ownsRow W.heap.size 84 3 (.slice L j vc) j (Zo q)):=(by rw [←U.out,←D,←ah,←ag];exact ⟨rfl,Yq _ _ _ _⟩);have HU:Hid (Below W.heap.size W bz):=(by rw [←hU];exact Yh _ _);have E:=Za (And.intro hU (And.intro ah (And.intro D ag)));clear hU ah D ag U;(go_wp2_with fail);rw [←m.out.1,E.out.1])
  | (simp [ZV] at bg;(go_wp2_with (at_builtin;refine ZaN 84 42 3 32 _ ZcJ Tryz.underlying42 rfl (by decide) (by decide) rfl (.tmp 36) (.tmp 41) rfl (w.heap.size+2) _ 0 [] rfl (Yq _ _ _ _) (some ⟨w.heap.size+1+1,0,none⟩) 1 1 _ (by rfl) (by rfl) (a6.out _ _ _ (by simp)) (by intro u ax;simp at ax;rcases ax with rfl | rfl | rfl <;> rfl) (fun h=>by cases h) (by omega) (by simp;try omega) ?_));intro v' bz aa Y;obtain ⟨L,vc,rfl,_⟩:=Zf aa;rw [←m.out.1] at Y;rw [m.out.2.2.2.1] at Y aa;have HU:=Za ((Zc W _).trans Y);obtain ⟨j,D⟩:∃ j,1=j:=⟨_,rfl⟩;have HO:Hid (q.length=j∧bz.ownsRow W.heap.size 84 3 (.slice L j vc) j (Zo q)):=(by rw [←U.out,←D];exact ⟨rfl,aa⟩);clear aa Y U;have E:=Za D;clear D;go_wp2_with fail)
  go_loopw [7,11] (fun l i wr=>∃ (k:Nat),k≤d∧i=.int .i64 k∧l=.slice L j vc∧Hid (Below bz.heap.size bz wr)) (fun _ i _=>d - (intOf i).toNat)
  case atStart=>exact ⟨0,Ye _,rfl,by first | rw [←E.out] | rw [←E.out.2.1,←E.out.2.2.1,←E.out.2.2.2],Yh _ _⟩
  case round =>
   obtain ⟨k,bo,rfl,rfl,HS⟩:=hrel;have O:Hid (Below W.heap.size W wr):=Zb HU.out HS.out;have af:wr.heap[w.heap.size]?=some (Zi ba (.slice J n I)):=(O.out.block _ (by have:=m.out.2.2.2.1;omega)).trans m.out.2.1;have ab:wr.heap[w.heap.size+1]?=some (Zi bb (.slice R d Q)):=(O.out.block _ (by have:=m.out.2.2.2.1;omega)).trans m.out.2.2.1;obtain ⟨a8,a9,bc⟩:=Zw ab;have bt:w.heap.size+1<wr.heap.size:=(Ya.1 ab).1;by_cases bf:k<d
   ·obtain ⟨⟨M,ai,aj,ak⟩,au⟩:∃ p,qs[k]?=some p:=⟨_,Yb (by rw [HR.out.2];exact bf)⟩;obtain ⟨bi,off,bd,bm,am,c1,c2,c3⟩:=ZJ (HR.out.1.nx O.out) au;subst bd;simp only at am c1 c2 c3;have bp:(k:Int)<(d:Int):=by omega
    obtain ⟨⟨bu,bv,bw,bx⟩,ay⟩:∃ y,inP ps M=y:=⟨_,rfl⟩;obtain ⟨a0,ao⟩:∃ a0,ps.any (Zl M)=a0:=⟨_,rfl⟩;clear au;obtain ⟨A,V⟩:∃ A,A=wr.alloc (ZF ⟨M,ai,aj,ak⟩):=⟨_,rfl⟩;have N:Hid (A=wr.alloc (ZF ⟨M,ai,aj,ak⟩)∧Below wr.heap.size wr A∧A.heap[wr.heap.size]?=some (ZF ⟨M,ai,aj,ak⟩)):=⟨V,by rw [V];exact Zc _ _,by rw [V];exact Zd _ _ rfl⟩;have al:=Za (HF.out A (Zb O.out N.out.2.1) M);rw [ay,ao] at al;have ac:∀ o,(wr.alloc o).heap[w.heap.size]?=some (Zi ba (.slice J n I)):=fun o=>(Zn _ _ (by omega)).trans af
    have a2:=fun o=>(Zw (ac o)).1
    have a3:=fun o=>(Zw (ac o)).2.1
    clear V ay ao af ab ac;go_wp2_with fail
    rw [←N.out.1];refine al.out.mono ?_;rintro e a1 ⟨rfl,X⟩;have az:wr.heap.size<A.heap.size:=(Ya.1 N.out.2.2).1;obtain ⟨bj,bk,d2,d3,bl⟩:=ZbK X az N.out.2.2;have bs:wr.heap.size<a1.heap.size:=Yl az X.size;have a7:Hid (Below bz.heap.size bz a1):=Zb HS.out (Zb N.out.2.1 X);clear X a2 a3 am c1 c2 c3 a8 a9 bc;go_wp2_with fail
    go_roundw
    case rel=>exact ⟨k+1,by omega,by go_num,rfl,Zb a7.out (Zb (Zc _ _) (Zc _ _))⟩
    case measure=>simp [intOf];omega
   ·clear af ab;go_wp2_with fail
    go_ret
    exact Ze0 m.out.2.2.2.2 ⟨HO.out.1,Zx HO.out.2 HS.out,O.out⟩
theorem ZsH (ba:Int) (L:Option Addr) (n D:Nat) (ps:List Pl) (bb:Int) (N:Option Addr) (d M:Nat) (qs:List Pl) (w:World) (ay:RowAt w (.slice L n D) n (Ze ps)) (aw:ps.length=n) (ce:n≤6) (cu:RowAt w (.slice N d M) d (Ze qs)) (av:qs.length=d) (cd:d≤6) (bc:∀ p∈qs,0≤p.sz) :
  Calls Tryz.prog 87 #[.agg #[.int .i64 ba,.slice L n D],.agg #[.int .i64 bb,.slice N d M],.int .i64 2] w fun e w'=>GaveS w w' (Zbh 2 ba ps bb qs) e:=by
 obtain ⟨W,HW⟩:=Zf6 ba L n D bb N d M w;have ag:=HW.out.2.2.2.2;have HF:=Za (fun u (hb:Below W.heap.size W u) a1=>Zdm ba L n D a1 ps u ((ay.nx ag).nx hb) aw (by unfold maxLen;omega));have HG:=Za (fun u (hb:Below W.heap.size W u) a1=>Zdm bb N d M a1 qs u ((cu.nx ag).nx hb) av (by unfold maxLen;omega));have HA:Hid (RowAt W (.slice L n D) n (Ze ps)∧ps.length=n):=⟨ay.nx ag,aw⟩;have HR:Hid (RowAt W (.slice N d M) d (Ze qs)∧qs.length=d∧∀ p∈qs,0≤p.sz):=⟨cu.nx ag,av,bc⟩;clear ay aw cu av bc ag;go_enter Tryz.func87,Tryz.ntmps87
 go_wp2_with fail
 rw [←HW.out.1];go_loopw [7,8] (fun l i wr=>∃ (k j:Nat) (E:Option Addr) (vc:Nat),k≤n∧j≤k∧i=.int .i64 k∧l=.slice E j vc∧Hid ((missL 2 (ps.take k) qs).length=j∧wr.ownsRow W.heap.size 84 3 (.slice E j vc) j (Zo (missL 2 (ps.take k) qs))∧Below W.heap.size W wr)) (fun _ i _=>n - (intOf i).toNat)
 case atStart=>exact ⟨0,0,none,0,Ye _,Yd _,rfl,rfl,rfl,Yq _ _ _ _,Yh _ _⟩
 case round =>
  obtain ⟨k,j,E,vc,a9,bl,rfl,rfl,cs⟩:=hrel;have O:wr.heap[w.heap.size]?=some (Zi ba (.slice L n D)):=(cs.out.2.2.block _ (by have:=HW.out.2.2.2.1;omega)).trans HW.out.2.1;have A:wr.heap[w.heap.size+1]?=some (Zi bb (.slice N d M)):=(cs.out.2.2.block _ (by have:=HW.out.2.2.2.1;omega)).trans HW.out.2.2.1;have I:Hid (Below W.heap.size W wr):=cs.out.2.2;obtain ⟨ab,ac,al⟩:=Zw A;obtain ⟨a0,J,az⟩:=Zw O;have cv:w.heap.size+1<wr.heap.size:=(Ya.1 A).1;by_cases au:k<n
  ·obtain ⟨⟨m,aj,ao,ap⟩,X⟩:∃ p,ps[k]?=some p:=⟨_,Yb (by rw [HA.out.2];exact au)⟩;obtain ⟨af,off,aq,ar,ct,c1,c2,c3⟩:=ZJ (HA.out.1.nx I.out) X;have b8:=Za (fun (u:World) (hb:Below wr.heap.size wr u)=>ZJ ((HA.out.1.nx I.out).nx hb) X);have b7:=Za (And.intro O A);subst aq;simp only at ct c1 c2 c3;have bp:(k:Int)<(n:Int):=by omega
   have cc:(0:Int)≤(k:Int):=by omega
   obtain ⟨⟨bz,b0,b1,b6⟩,ah⟩:∃ y,inP qs m=y:=⟨_,rfl⟩;obtain ⟨Q,ad⟩:∃ Q,qs.any (Zl m)=Q:=⟨_,rfl⟩;have ak:Hid (missL 2 (ps.take (k+1)) qs=missL 2 (ps.take k) qs++if Q=true then [] else [ZaG 2 m 0]):=by
    obtain ⟨bm,e⟩:=Yc.1 X;show _=_;unfold missL;rw [Yk bm,Yr,List.map_append,e];congr 1;cases bo:Q <;> simp [Ziv,ad,bo]
   have a7:=Za (fun u (hb:Below wr.heap.size wr u)=>HG.out u (Zb I.out hb) m);rw [ah,ad] at a7;clear X ah ad O A;have br:=Yg wr _ J;have bs:=Yg wr _ ab;have bt:=Yg wr _ ac;have bu:=Yg wr _ ct;go_upto_region 9 with fail
   go_cut [9,10] (fun cm bv ai=>bv=.bool Q∧∃ bk,Hid (Below wr.heap.size wr bk)∧bk=ai)
   case first =>
    go_region_held3 (fun w'=>w'.cell? ⟨w.heap.size,1,none⟩=some (.slice (some ⟨af,off,none⟩) n D)∧w'.cell? ⟨w.heap.size+1,0,none⟩=some (.int .i64 bb)∧w'.cell? ⟨w.heap.size+1,1,none⟩=some (.slice N d M)∧w'.cell? ⟨af,off+k*4,none⟩=some (.string m)) (go_keep)
     ((go_at_call 132;refine (a7.out _ (by first | exact (Yh _ _).drew | exact (Yh _ _).drew.alloc (Yd _) _)).mono ?_;rintro e R ⟨rfl,V⟩;have q:Hid (Below wr.heap.size wr R):=(by first | exact Zb (Yh _ _).drew V | exact Zb ((Yh _ _).drew.alloc (Yd _) _) V);have bf:=(q.out.cell (p:=⟨w.heap.size,1,none⟩) (by show w.heap.size<wr.heap.size;omega)).trans J;have bw:=(q.out.cell (p:=⟨w.heap.size+1,0,none⟩) cv).trans ab;have bx:=(q.out.cell (p:=⟨w.heap.size+1,1,none⟩) cv).trans ac;have bg:=(q.out.cell (p:=⟨af,off+k*4,none⟩) ar).trans ct;have co:=Yg R _ bf;have cp:=Yg R _ bw;have cq:=Yg R _ bx;have cr:=Yg R _ bg;first | (obtain ⟨ch,ci,cj,ck,cl⟩:=ZbK (g:=wr.heap.size) V (by simp) (Zd _ _ rfl)) | skip))
    all_goals
     go_wp2_with fail
     go_meet
     first
     | exact ⟨rfl,_,q.out.alloc q.out.size _,rfl⟩
     | exact ⟨rfl,_,(((q.out.setCell (Yd _) _).setCell (Yd _) _).setCell (Yd _) _).setCell (Yd _) _,rfl⟩
   case rest =>
    obtain ⟨rfl,ai,q,rfl⟩:=hcut;have Y:Hid (ai.ownsRow W.heap.size 84 3 (.slice E j vc) j (Zo (missL 2 (ps.take k) qs))∧Below W.heap.size W ai):=⟨Zx cs.out.2.1 q.out,Zb cs.out.2.2 q.out⟩;have bf:=(q.out.cell (p:=⟨w.heap.size,1,none⟩) (by show w.heap.size<wr.heap.size;omega)).trans J;have bg:=(q.out.cell (p:=⟨af,off+k*4,none⟩) ar).trans ct;clear a0 J az ab ac al ct c1 c2 c3 br bs bt bu;cases Q with
    | true =>
     have HN:Hid (missL 2 (ps.take (k+1)) qs=missL 2 (ps.take k) qs):=by
      show _=_;rw [ak.out,if_pos rfl,List.append_nil]
     clear ak;go_wp2_with fail
     go_roundw
     case rel=>exact ⟨k+1,j,E,vc,by omega,by omega,by go_num,rfl,by rw [HN.out];exact ⟨cs.out.1,Y.out⟩⟩
     case measure=>simp [intOf];omega
    | false =>
     have HN:Hid (missL 2 (ps.take (k+1)) qs=missL 2 (ps.take k) qs++[ZaG 2 m 0]):=by
      show _=_;rw [ak.out,if_neg (by simp)]
     clear ak;go_wp2_with (at_builtin;refine ZaN 84 42 3 32 _ ZcJ Tryz.underlying42 rfl (by decide) (by decide) rfl (.tmp 66) (.tmp 75) rfl W.heap.size _ j (Zo (missL 2 (ps.take k) qs)) rfl (Y.out.1.alloc _) (some ⟨ai.heap.size,0,none⟩) 1 1 [.int .i64 2,.string m,.int .i64 0] rfl rfl (ZaM _ [.int .i64 2,.string m,.int .i64 0] _ 1 (by simp)) (by intro u bd;simp at bd;rcases bd with rfl | rfl | rfl <;> rfl) (fun h=>by cases h) (by omega) (by have:=Y.out.2.size;simp;omega) ?next)
     case next =>
      intro v' bj ax a8;obtain ⟨bi,bh,rfl,_⟩:=Zf ax;have K6:Hid ((missL 2 (ps.take (k+1)) qs).length=j+1∧bj.ownsRow W.heap.size 84 3 (.slice bi (j+1) bh) (j+1) (Zo (missL 2 (ps.take (k+1)) qs))∧Below W.heap.size W bj):=by
       refine ⟨by rw [HN.out];simp [cs.out.1],?_,(Y.out.2.alloc Y.out.2.size _).trans a8⟩;rw [HN.out];unfold Zo;rw [List.flatMap_append];exact ax
      clear ax a8;go_wp2_with fail
      go_roundw
      case rel=>exact ⟨k+1,j+1,bi,bh,by omega,by omega,by go_num,rfl,K6.out⟩
      case measure=>simp [intOf];omega
  ·have HO:Hid ((missL 2 ps qs).length=j∧wr.ownsRow W.heap.size 84 3 (.slice E j vc) j (Zo (missL 2 ps qs))):=by
    have bq:ps.take k=ps:=Yj (by rw [HA.out.2];omega);have:=cs.out;rw [bq] at this;exact ⟨this.1,this.2.1⟩
   have HU:Hid (wr.heap[w.heap.size]?=some (Zi ba (.slice L n D))∧wr.heap[w.heap.size+1]?=some (Zi bb (.slice N d M))∧w.heap.size+2≤wr.heap.size∧Below W.heap.size W wr):=⟨O,A,by omega,I.out⟩;obtain ⟨U,rfl⟩:∃ U,U=wr:=⟨_,rfl⟩;clear O A cs I a9 bl;go_wp2_with fail
   clear a0 J az ab ac al;go_loopw [7,11] (fun l i wr=>∃ (k:Nat),k≤d∧i=.int .i64 k∧l=.slice E j vc∧Hid (Below U.heap.size U wr)) (fun _ i _=>d - (intOf i).toNat)
   case atStart=>exact ⟨0,Ye _,rfl,rfl,Yh _ _⟩
   case round =>
     obtain ⟨k,a9,rfl,rfl,cs⟩:=hrel;have O:wr.heap[w.heap.size]?=some (Zi ba (.slice L n D)):=(cs.out.block _ (by have:=HU.out.2.2.1;omega)).trans HU.out.1;have A:wr.heap[w.heap.size+1]?=some (Zi bb (.slice N d M)):=(cs.out.block _ (by have:=HU.out.2.2.1;omega)).trans HU.out.2.1;have I:Hid (Below W.heap.size W wr):=Zb HU.out.2.2.2 cs.out;obtain ⟨ab,ac,al⟩:=Zw A;have cv:w.heap.size+1<wr.heap.size:=(Ya.1 A).1;by_cases au:k<d
     ·obtain ⟨⟨m,aj,ao,ap⟩,X⟩:∃ p,qs[k]?=some p:=⟨_,Yb (by rw [HR.out.2.1];exact au)⟩;have cf:0≤aj:=HR.out.2.2 _ (Yo X);obtain ⟨af,off,aq,ar,ct,c1,c2,c3⟩:=ZJ (HR.out.1.nx I.out) X;subst aq;simp only at ct c1 c2 c3;have bp:(k:Int)<(d:Int):=by omega
      obtain ⟨⟨bz,b0,b1,b6⟩,ah⟩:∃ y,inP ps m=y:=⟨_,rfl⟩;obtain ⟨Q,ad⟩:∃ Q,ps.any (Zl m)=Q:=⟨_,rfl⟩;clear X;obtain ⟨aa,am⟩:∃ aa,aa=wr.alloc (ZF ⟨m,aj,ao,ap⟩):=⟨_,rfl⟩;have ae:Hid (aa=wr.alloc (ZF ⟨m,aj,ao,ap⟩)∧Below wr.heap.size wr aa∧aa.heap[wr.heap.size]?=some (ZF ⟨m,aj,ao,ap⟩)):=⟨am,by rw [am];exact Zc _ _,by rw [am];exact Zd _ _ rfl⟩;have a6:=Za (HF.out aa (Zb I.out ae.out.2.1) m);rw [ah,ad] at a6;have J:∀ o,(wr.alloc o).heap[w.heap.size]?=some (Zi ba (.slice L n D)):=fun o=>(Zn _ _ (by omega)).trans O
      have a2:=fun o=>(Zw (J o)).1
      have a3:=fun o=>(Zw (J o)).2.1
      clear am ah ad O A J;go_wp2_with fail
      rw [←ae.out.1];refine a6.out.mono ?_;rintro e R ⟨rfl,V⟩;have be:wr.heap.size<aa.heap.size:=(Ya.1 ae.out.2.2).1;obtain ⟨b9,ca,d2,d3,cb⟩:=ZbK V be ae.out.2.2;have cg:wr.heap.size<R.heap.size:=Yl be V.size;have q:Hid (Below wr.heap.size wr R):=Zb ae.out.2.1 V;have Y:Hid (Below U.heap.size U R):=Zb cs.out q.out;clear V a2 a3 ct c1 c2 c3 ab ac al;go_wp2_with fail
      go_roundw
      case rel=>exact ⟨k+1,by omega,by go_num,rfl,Zb Y.out (Zb (Zc _ _) (Zc _ _))⟩
      case measure=>simp [intOf];omega
     ·clear O A;go_wp2_with fail
      go_ret
      refine ⟨E,vc,?_,?_,ZaO HO.out.2,Zb HW.out.2.2.2.2 I.out⟩
      ·show Ending.returned _=Ending.returned (.slice E (missL 2 ps qs).length vc);rw [HO.out.1];rfl
      ·show RowAt wr (.slice E (missL 2 ps qs).length vc) (missL 2 ps qs).length (Zo (missL 2 ps qs));rw [HO.out.1];exact Zf (Zx HO.out.2 cs.out)
theorem ZrS (i:Nat) (Q:i<8) (ba:Int) (m:Option Addr) (n h:Nat) (ps:List Pl) (bb:Int) (A:Option Addr) (d q:Nat) (qs:List Pl) (w:World) (L:RowAt w (.slice m n h) n (Ze ps)) (I:ps.length=n) (J:n≤6) (M:RowAt w (.slice A d q) d (Ze qs)) (D:qs.length=d) (E:d≤6) (N:∀ p∈qs,0≤p.sz) :
  Calls Tryz.prog 87 #[.agg #[.int .i64 ba,.slice m n h],.agg #[.int .i64 bb,.slice A d q],.int .i64 ((i:Int)+1)] w fun e O=>GaveS w O (Zbh ((i:Int)+1) ba ps bb qs) e:=by
 obtain rfl | rfl | rfl | rfl | rfl | rfl | rfl | rfl:i=0∨i=1∨i=2∨i=3∨i=4∨i=5∨i=6∨i=7:=by omega
 ·exact Zh9 _ (by decide) ba m n h ps bb A d q qs w L I J M D E N
 ·exact ZsH ba m n h ps bb A d q qs w L I J M D E N
 ·exact Zsi _ (by decide) ba m n h ps bb A d q qs w L I J M D E
 ·exact Zh9 _ (by decide) ba m n h ps bb A d q qs w L I J M D E N
 ·exact Zh9 _ (by decide) ba m n h ps bb A d q qs w L I J M D E N
 ·exact Zh9 _ (by decide) ba m n h ps bb A d q qs w L I J M D E N
 ·exact Zsi _ (by decide) ba m n h ps bb A d q qs w L I J M D E
 ·exact Zh9 _ (by decide) ba m n h ps bb A d q qs w L I J M D E N
theorem rSteps (ba:Int) (E:Option Addr) (n D:Nat) (ps:List Pl) (bb:Int) (J:Option Addr) (m I:Nat) (qs:List Pl) (w:World) (af:RowAt w (.slice E n D) n (Ze ps)) (O:ps.length=n) (ac:n≤6) (ag:RowAt w (.slice J m I) m (Ze qs)) (N:qs.length=m) (ab:m≤6) (ae:∀ p∈qs,0≤p.sz) :
  Calls Tryz.prog 50 #[.agg #[.int .i64 ba,.slice E n D],.agg #[.int .i64 bb,.slice J m I]] w fun e w'=>∃ a0 vc,e=.returned (.slice a0 (diffL ba ps bb qs).length vc)∧w'.ownsRow w.heap.size 84 3 (.slice a0 (diffL ba ps bb qs).length vc) (diffL ba ps bb qs).length (Zo (diffL ba ps bb qs))∧Below w.heap.size w w':=by
 obtain ⟨W,q⟩:=Zf6 ba E n D bb J m I w;have M:=q.out.2.2.2.2;have HC:=Za (fun (i:Nat) (aa:i<8) u (hb:Below W.heap.size W u)=>ZrS i aa ba E n D ps bb J m I qs u ((af.nx M).nx hb) O ac ((ag.nx M).nx hb) N ab ae);have am:=Za (fun k=>Zfm k ba ps bb qs (by rw [O];exact ac) (by rw [N];exact ab));clear af O ag N ae M;go_enter Tryz.func50,Tryz.ntmps50
 go_wp2_with fail
 rw [←q.out.1];go_loopw [5,6] (fun l kd wr=>∃ (i j:Nat) (a0:Option Addr) (vc:Nat),i≤8∧j≤7*i∧kd=.int .i64 ((i:Int)+1)∧l=.slice a0 j vc∧Hid ((diffTo i ba ps bb qs).length=j∧wr.ownsRow W.heap.size 84 3 (.slice a0 j vc) j (Zo (diffTo i ba ps bb qs))∧Below W.heap.size W wr)) (fun _ kd _=>9 - (intOf kd).toNat)
 case atStart=>exact ⟨0,0,none,0,Ye _,Yd _,rfl,rfl,rfl,Yq _ _ _ _,Yh _ _⟩
 case round =>
  obtain ⟨i,j,a0,vc,aa,ay,rfl,rfl,d⟩:=hrel;have ah:wr.heap[w.heap.size]?=some (Zi ba (.slice E n D)):=(d.out.2.2.block _ (by have:=q.out.2.2.2.1;omega)).trans q.out.2.1;have ai:wr.heap[w.heap.size+1]?=some (Zi bb (.slice J m I)):=(d.out.2.2.block _ (by have:=q.out.2.2.2.1;omega)).trans q.out.2.2.1;obtain ⟨ao,ap,aq⟩:=Zw ah;obtain ⟨ar,au,av⟩:=Zw ai;clear ah ai;by_cases ax:i<8
  ·have az:(i:Int)+1≤8:=by omega
   have X:=Za (Zae i ba ps bb qs);have aw:=am.out ((i:Int)+1);go_wp2_with fail
   refine (HC.out i ax wr d.out.2.2).mono ?_;rintro e V ⟨so,sc,rfl,U,ad,L⟩;obtain ⟨h,R⟩:∃ h,(Zbh ((i:Int)+1) ba ps bb qs).length=h:=⟨_,rfl⟩;rw [R] at U aw ⊢;have A:Hid ((Zbh ((i:Int)+1) ba ps bb qs).length=h∧RowAt V (.slice so h sc) h (Zo (Zbh ((i:Int)+1) ba ps bb qs))∧(so=none→sc=0)∧V.ownsRow W.heap.size 84 3 (.slice a0 j vc) j (Zo (diffTo i ba ps bb qs))∧Below W.heap.size W V):=⟨R,U,ad,Zx d.out.2.1 L,Zb d.out.2.2 L⟩;clear U ad L R ao ap aq ar au av;go_wp2_with (at_builtin;refine ZaN 84 42 3 32 _ ZcJ Tryz.underlying42 rfl (by decide) (by decide) rfl (.tmp 11) (.tmp 15) rfl W.heap.size _ j (Zo (diffTo i ba ps bb qs)) rfl A.out.2.2.2.1 so h sc (Zo (Zbh ((i:Int)+1) ba ps bb qs)) rfl (by rw [ZkD,A.out.1]) A.out.2.1 (Zkz _) A.out.2.2.1 (by omega) A.out.2.2.2.2.size ?next)
   case next =>
    intro v' al Q Y;obtain ⟨ak,aj,rfl,_⟩:=Zf Q;have K6:Hid ((diffTo (i+1) ba ps bb qs).length=j+h∧al.ownsRow W.heap.size 84 3 (.slice ak (j+h) aj) (j+h) (Zo (diffTo (i+1) ba ps bb qs))∧Below W.heap.size W al):=by
     refine ⟨by rw [X.out,List.length_append,d.out.1,A.out.1],?_,A.out.2.2.2.2.trans Y⟩;rw [X.out];unfold Zo;rw [List.flatMap_append];exact Q
    clear Q Y;go_wp2_with fail
    go_roundw
    case rel=>exact ⟨i+1,j+h,ak,aj,by omega,by omega,by go_num,rfl,K6.out⟩
    case measure=>simp [intOf];omega
  ·obtain rfl:i=8:=by omega
   go_wp2_with fail
   go_ret
   refine ⟨a0,vc,?_,?_,Zb q.out.2.2.2.2 d.out.2.2⟩
   ·show Ending.returned _=Ending.returned (.slice a0 (diffTo 8 ba ps bb qs).length vc);rw [d.out.1];rfl
   ·show wr.ownsRow w.heap.size 84 3 (.slice a0 (diffTo 8 ba ps bb qs).length vc) (diffTo 8 ba ps bb qs).length (Zo (diffTo 8 ba ps bb qs));rw [d.out.1];exact Zr d.out.2.1 q.out.2.2.2.2.size
theorem Zk {u v:World} {g:Nat} {o:Obj} (d:u.heap[g]?=some o) (hb:Below u.heap.size u v):v.heap[g]?=some o:=(hb.block g (Ya.1 d).1).trans d
theorem ZtP (L I:Bool) (ba:Int) (m:Option Addr) (n h:Nat) (ps:List Pl) (bb:Int) (A:Option Addr) (d q:Nat) (qs:List Pl) (w:World) (aq:RowAt w (.slice m n h) n (Ze ps)) (al:ps.length=n) (am:L=true→n≤6) (ar:RowAt w (.slice A d q) d (Ze qs)) (aj:qs.length=d) (ak:I=true→d≤6) (ap:I=true→∀ p∈qs,0≤p.sz)
  (hA:∀ u,Below w.heap.size w u→Calls Tryz.prog 101 #[.agg #[.int .i64 ba,.slice m n h]] u fun e D=>e=.returned (.bool L)∧Below u.heap.size u D)
  (hB:∀ u,Below w.heap.size w u→Calls Tryz.prog 101 #[.agg #[.int .i64 bb,.slice A d q]] u fun e D=>e=.returned (.bool I)∧Below u.heap.size u D) :
  Calls Tryz.prog 69 #[.agg #[.int .i64 ba,.slice m n h],.agg #[.int .i64 bb,.slice A d q]] w fun e D=>Zfp w D (L&&I) ba ps bb qs e:=by
 obtain ⟨W,O⟩:∃ W,W=(w.alloc (Zi ba (.slice m n h))).alloc (Zi bb (.slice A d q)):=⟨_,rfl⟩;have V:Below w.heap.size w W:=by rw [O];exact Zb (Zc _ _) (Zc _ _)
 have N:Hid (W=(w.alloc (Zi ba (.slice m n h))).alloc (Zi bb (.slice A d q))∧W.heap[w.heap.size]?=some (Zi ba (.slice m n h))∧W.heap[w.heap.size+1]?=some (Zi bb (.slice A d q))∧Below w.heap.size w W):=by
  refine ⟨O,?_,?_,V⟩
  ·rw [O];exact (Zn _ _ (by simp)).trans (Zd _ _ rfl)
  ·rw [O];exact Zd _ _ (by simp)
 have HA:=Za (hA W V);have HB:=Za hB;have Y:Hid (L=true→I=true→∀ u,Below w.heap.size w u→Calls Tryz.prog 50 #[.agg #[.int .i64 ba,.slice m n h],.agg #[.int .i64 bb,.slice A d q]] u fun e D=>∃ M vc,e=.returned (.slice M (diffL ba ps bb qs).length vc)∧D.ownsRow u.heap.size 84 3 (.slice M (diffL ba ps bb qs).length vc) (diffL ba ps bb qs).length (Zo (diffL ba ps bb qs))∧Below u.heap.size u D):=
  fun av ah u hb=>rSteps ba m n h ps bb A d q qs u (aq.nx hb) al (am av) (ar.nx hb) aj (ak ah) (ap ah)
 clear aq al ar aj hA hB am ak V ap;go_enter Tryz.func69,Tryz.ntmps69
 go_wp2_with fail
 rw [←N.out.1];refine HA.out.mono ?_;rintro e w1 ⟨rfl,Q⟩;have X:=Za (Zb N.out.2.2.2 Q);have R:=Zk N.out.2.1 Q;have U:=Zk N.out.2.2.1 Q;obtain ⟨ab,ac,ad⟩:=Zw R;obtain ⟨ae,af,ag⟩:=Zw U;have aa:=Za (And.intro R U);clear R U Q;go_wp2_with fail
 refine (HB.out w1 X.out).mono ?_;rintro e aw ⟨rfl,E⟩;have J:=Za (Zb X.out E);clear ab ac ad ae af ag;cases L with
 | false =>
  clear E;go_wp2_with fail
  go_ret2
  exact ZhY ba ps bb qs J.out
 | true =>
  cases I with
  | false =>
   clear E;go_wp2_with fail
   go_ret2
   exact ZhY ba ps bb qs J.out
  | true =>
   obtain ⟨ab,ac,ad⟩:=Zw (Zk aa.out.1 E);obtain ⟨ae,af,ag⟩:=Zw (Zk aa.out.2 E);have au:=Za (Y.out rfl rfl aw J.out);clear E Y;go_wp2_with fail
   refine au.out.mono ?_;rintro e ax ⟨M,vc,rfl,ao,ai⟩;have HG:Hid (Zfp w ax (true&&true) ba ps bb qs (.returned (.tuple #[.slice M (diffL ba ps bb qs).length vc,.int .i64 0]))):=⟨M,vc,rfl,Zr ao J.out.size,Zb J.out ai⟩;clear ao ai;go_wp2_with fail
   go_ret2
   exact HG.out
end Df
namespace Lw
open Co
theorem Za1 {w:World} {g:Nat} {h:Array Value} {t:TypeId} {sz:Nat} {m:List Value} {d j:Nat} (q:w.heap[g]?=some (.cells h t (0,0))) (D:ZbB sz m h d) (A:j<d) (i:Nat) (v:Value) (E:m[i]?=some v):w.cell? ⟨g,j*sz+i,none⟩=some v:=by
 have:=D j A i v E;simp [World.cell?,q,this]
theorem Zhw (go:Nat) (F:Nat→Prop) (L J M:Nat) (w:World) (h:OwnAt w go F L J J M) (ay:L≤1099511627776∧J≤1099511627776∧M≤1099511627776) :
  Calls Tryz.prog 9 #[.pointer (some ⟨go,0,none⟩)] w fun e w'=>e=.returned (.bool true)∧w'=w:=by
 obtain ⟨a9,bc,bd⟩:=ay;obtain ⟨be,bf,bg,bh,aj,⟨af,ac,_,aq⟩,⟨ah,ad,_,s3⟩,⟨U,w1,_,au⟩,⟨ag,ae,_,ar⟩⟩:=h.ex;obtain ⟨a6,bl,rfl,_⟩:=Zf ac;obtain ⟨so,sc,rfl,_⟩:=Zf ad;obtain ⟨wo,wc,rfl,_⟩:=Zf w1;obtain ⟨a8,a7,rfl,_⟩:=Zf ae;have HP:Hid (RowAt w (.slice a6 L bl) L af∧af.length=L∧∀ (i:Nat) (x:Value),af[i]?=some x→FullG 82 4 (mP ((i+1:Nat):Int)) w x∧∀ g,x.ownBlock=some g→F g):=⟨Zf ac,by simpa using ac.1,aq⟩;have HV:Hid (RowAt w (.slice so J sc) J ah∧ah.length=J∧∀ (i:Nat) (x:Value),ah[i]?=some x→FullG 86 4 (mV ((i+1:Nat):Int)) w x∧∀ g,x.ownBlock=some g→F g):=⟨Zf ad,by simpa using ad.1,s3⟩;have Q:Hid (RowAt w (.slice wo J wc) J U∧U.length=J∧∀ (i:Nat) (x:Value),U[i]?=some x→FullG 88 2 (mW ((i+1:Nat):Int)) w x∧∀ g,x.ownBlock=some g→F g):=⟨Zf w1,by simpa using w1.1,au⟩;have HT:Hid (RowAt w (.slice a8 M a7) M ag∧ag.length=M∧∀ (i:Nat) (x:Value),ag[i]?=some x→FullG 84 3 (mT ((i+1:Nat):Int)) w x∧∀ g,x.ownBlock=some g→F g):=⟨Zf ae,by simpa using ae.1,ar⟩;obtain ⟨a0,a1,a2,a3,az⟩:=Zbk aj;clear h aj ac aq ad s3 w1 au ae ar;go_enter Tryz.func9,Tryz.ntmps9
 go_wp2_with fail
 go_loop [3] (fun i=>∃ k:Nat,k≤L∧i=.int .i64 k) (fun i=>L - (intOf i).toNat)
 case atStart=>exact ⟨0,Ye _,rfl⟩
 case round =>
  obtain ⟨k,am,rfl⟩:=hrel;by_cases O:k<L
  ·obtain ⟨x,N⟩:∃ x,af[k]?=some x:=⟨_,Yb (by rw [HP.out.2.1];exact O)⟩;obtain ⟨ai,off,rfl,ak,al⟩:=HP.out.1.at N;have ao:(k:Int)<(L:Int):=by omega
   rcases (HP.out.2.2 k x N).1 with q | ⟨g,bi,A,q,D,E,I⟩
   ·subst q;go_wp2_with fail
    go_loop [4] (fun i=>i=.int .i64 0) (fun _=>0)
    case atStart=>rfl
    case round =>
     subst hrel;go_wp2_with fail
     go_round
     case rel=>exact ⟨k+1,by omega,by go_num⟩
     case measure=>simp [intOf];omega
   ·subst q;have V:bi≤9223372036854775807:=D;have d:Hid (w.heap[g]?=some (.cells A _ (0,0))∧ZbB 4 _ A bi):=⟨E,I⟩;clear E I D;go_wp2_with fail
    go_loop [4] (fun i=>∃ j:Nat,j≤bi∧i=.int .i64 j) (fun i=>bi - (intOf i).toNat)
    case atStart=>exact ⟨0,Ye _,rfl⟩
    case round =>
     obtain ⟨j,X,rfl⟩:=hrel;by_cases m:j<bi
     ·have Y:(j:Int)<(bi:Int):=by omega
      have aa:w.cell? ⟨g,j*4,none⟩=some (.string ⟨#[]⟩):=Za1 d.out.1 d.out.2 m 0 _ rfl;have ab:w.cell? ⟨g,j*4+1,none⟩=some (.int .i64 0):=Za1 d.out.1 d.out.2 m 1 _ rfl;have ap:w.cell? ⟨g,j*4+2,none⟩=some (.int .i64 0):=Za1 d.out.1 d.out.2 m 2 _ rfl;have bj:w.cell? ⟨g,j*4+3,none⟩=some (.int .i64 ((k+1:Nat):Int)):=Za1 d.out.1 d.out.2 m 3 _ rfl;go_wp2_with fail
      go_round
      case rel=>exact ⟨j+1,by omega,by go_num⟩
      case measure=>simp [intOf];omega
     ·
      go_wp2_with fail
      go_round
      case rel=>exact ⟨k+1,by omega,by go_num⟩
      case measure=>simp [intOf];omega
  ·
   go_wp2_with fail
   go_loop [5] (fun i=>∃ k:Nat,k≤M∧i=.int .i64 k) (fun i=>M - (intOf i).toNat)
   case atStart=>exact ⟨0,Ye _,rfl⟩
   case round =>
    obtain ⟨k,am,rfl⟩:=hrel;by_cases O:k<M
    ·obtain ⟨x,N⟩:∃ x,ag[k]?=some x:=⟨_,Yb (by rw [HT.out.2.1];exact O)⟩;obtain ⟨ai,off,rfl,ak,al⟩:=HT.out.1.at N;have ao:(k:Int)<(M:Int):=by omega
     rcases (HT.out.2.2 k x N).1 with q | ⟨g,bi,A,q,D,E,I⟩
     ·subst q;go_wp2_with fail
      go_loop [6] (fun i=>i=.int .i64 0) (fun _=>0)
      case atStart=>rfl
      case round =>
       subst hrel;go_wp2_with fail
       go_round
       case rel=>exact ⟨k+1,by omega,by go_num⟩
       case measure=>simp [intOf];omega
     ·subst q;have V:bi≤9223372036854775807:=D;have d:Hid (w.heap[g]?=some (.cells A _ (0,0))∧ZbB 3 _ A bi):=⟨E,I⟩;clear E I D;go_wp2_with fail
      go_loop [6] (fun i=>∃ j:Nat,j≤bi∧i=.int .i64 j) (fun i=>bi - (intOf i).toNat)
      case atStart=>exact ⟨0,Ye _,rfl⟩
      case round =>
       obtain ⟨j,X,rfl⟩:=hrel;by_cases m:j<bi
       ·have Y:(j:Int)<(bi:Int):=by omega
        have aa:w.cell? ⟨g,j*3,none⟩=some (.int .i64 0):=Za1 d.out.1 d.out.2 m 0 _ rfl;have ab:w.cell? ⟨g,j*3+1,none⟩=some (.string ⟨#[]⟩):=Za1 d.out.1 d.out.2 m 1 _ rfl;have ap:w.cell? ⟨g,j*3+2,none⟩=some (.int .i64 ((k+1:Nat):Int)):=Za1 d.out.1 d.out.2 m 2 _ rfl;go_wp2_with fail
        go_round
        case rel=>exact ⟨j+1,by omega,by go_num⟩
        case measure=>simp [intOf];omega
       ·
        go_wp2_with fail
        go_round
        case rel=>exact ⟨k+1,by omega,by go_num⟩
        case measure=>simp [intOf];omega
    ·
     go_wp2_with fail
     go_loop [7] (fun i=>∃ k:Nat,k≤J∧i=.int .i64 k) (fun i=>J - (intOf i).toNat)
     case atStart=>exact ⟨0,Ye _,rfl⟩
     case round =>
      obtain ⟨k,am,rfl⟩:=hrel;by_cases O:k<J
      ·obtain ⟨x,N⟩:∃ x,ah[k]?=some x:=⟨_,Yb (by rw [HV.out.2.1];exact O)⟩;obtain ⟨ai,off,rfl,ak,al⟩:=HV.out.1.at N;have ao:(k:Int)<(J:Int):=by omega
       rcases (HV.out.2.2 k x N).1 with q | ⟨g,bi,A,q,D,E,I⟩
       ·subst q;go_wp2_with fail
        go_loop [8] (fun i=>i=.int .i64 0) (fun _=>0)
        case atStart=>rfl
        case round =>
         subst hrel;obtain ⟨y,R⟩:∃ y,U[k]?=some y:=⟨_,Yb (by rw [Q.out.2.1];exact O)⟩;obtain ⟨av,bk,rfl,aw,ax⟩:=Q.out.1.at R;rcases (Q.out.2.2 k y R).1 with q | ⟨g,bi,A,q,D,E,I⟩
         ·subst q;go_wp2_with fail
          go_loop [9] (fun i=>i=.int .i64 0) (fun _=>0)
          case atStart=>rfl
          case round =>
           subst hrel;go_wp2_with fail
           go_round
           case rel=>exact ⟨k+1,by omega,by go_num⟩
           case measure=>simp [intOf];omega
         ·subst q;have V:bi≤9223372036854775807:=D;have d:Hid (w.heap[g]?=some (.cells A _ (0,0))∧ZbB 2 _ A bi):=⟨E,I⟩;clear E I D;go_wp2_with fail
          go_loop [9] (fun i=>∃ j:Nat,j≤bi∧i=.int .i64 j) (fun i=>bi - (intOf i).toNat)
          case atStart=>exact ⟨0,Ye _,rfl⟩
          case round =>
           obtain ⟨j,X,rfl⟩:=hrel;by_cases m:j<bi
           ·have Y:(j:Int)<(bi:Int):=by omega
            have aa:w.cell? ⟨g,j*2,none⟩=some (.int .i64 ((k+1:Nat):Int)):=Za1 d.out.1 d.out.2 m 0 _ rfl;have ab:w.cell? ⟨g,j*2+1,none⟩=some (.string ⟨#[]⟩):=Za1 d.out.1 d.out.2 m 1 _ rfl;go_wp2_with fail
            go_round
            case rel=>exact ⟨j+1,by omega,by go_num⟩
            case measure=>simp [intOf];omega
           ·
            go_wp2_with fail
            go_round
            case rel=>exact ⟨k+1,by omega,by go_num⟩
            case measure=>simp [intOf];omega
       ·subst q;have V:bi≤9223372036854775807:=D;have d:Hid (w.heap[g]?=some (.cells A _ (0,0))∧ZbB 4 _ A bi):=⟨E,I⟩;clear E I D;go_wp2_with fail
        go_loop [8] (fun i=>∃ j:Nat,j≤bi∧i=.int .i64 j) (fun i=>bi - (intOf i).toNat)
        case atStart=>exact ⟨0,Ye _,rfl⟩
        case round =>
         obtain ⟨j,X,rfl⟩:=hrel;by_cases m:j<bi
         ·have Y:(j:Int)<(bi:Int):=by omega
          have aa:w.cell? ⟨g,j*4,none⟩=some (.int .i64 0):=Za1 d.out.1 d.out.2 m 0 _ rfl;have ab:w.cell? ⟨g,j*4+1,none⟩=some (.string ⟨#[]⟩):=Za1 d.out.1 d.out.2 m 1 _ rfl;have ap:w.cell? ⟨g,j*4+2,none⟩=some (.int .i64 ((k+1:Nat):Int)):=Za1 d.out.1 d.out.2 m 2 _ rfl;have bj:w.cell? ⟨g,j*4+3,none⟩=some (.int .i64 0):=Za1 d.out.1 d.out.2 m 3 _ rfl;go_wp2_with fail
          go_round
          case rel=>exact ⟨j+1,by omega,by go_num⟩
          case measure=>simp [intOf];omega
         ·
          obtain ⟨y,R⟩:∃ y,U[k]?=some y:=⟨_,Yb (by rw [Q.out.2.1];exact O)⟩;obtain ⟨av,bk,rfl,aw,ax⟩:=Q.out.1.at R;rcases (Q.out.2.2 k y R).1 with q | ⟨g,bi,A,q,D,E,I⟩
          ·subst q;go_wp2_with fail
           go_loop [9] (fun i=>i=.int .i64 0) (fun _=>0)
           case atStart=>rfl
           case round =>
            subst hrel;go_wp2_with fail
            go_round
            case rel=>exact ⟨k+1,by omega,by go_num⟩
            case measure=>simp [intOf];omega
          ·subst q;have V:bi≤9223372036854775807:=D;have d:Hid (w.heap[g]?=some (.cells A _ (0,0))∧ZbB 2 _ A bi):=⟨E,I⟩;clear E I D;go_wp2_with fail
           go_loop [9] (fun i=>∃ j:Nat,j≤bi∧i=.int .i64 j) (fun i=>bi - (intOf i).toNat)
           case atStart=>exact ⟨0,Ye _,rfl⟩
           case round =>
            obtain ⟨j,X,rfl⟩:=hrel;by_cases m:j<bi
            ·have Y:(j:Int)<(bi:Int):=by omega
             have aa:w.cell? ⟨g,j*2,none⟩=some (.int .i64 ((k+1:Nat):Int)):=Za1 d.out.1 d.out.2 m 0 _ rfl;have ab:w.cell? ⟨g,j*2+1,none⟩=some (.string ⟨#[]⟩):=Za1 d.out.1 d.out.2 m 1 _ rfl;go_wp2_with fail
             go_round
             case rel=>exact ⟨j+1,by omega,by go_num⟩
             case measure=>simp [intOf];omega
            ·
             go_wp2_with fail
             go_round
             case rel=>exact ⟨k+1,by omega,by go_num⟩
             case measure=>simp [intOf];omega
      ·
       go_wp2_with fail
       go_ret
       exact ⟨rfl,rfl⟩
end Lw
namespace Pr
theorem Zu {a b:Bool} (d:a=b):Ending.returned (.bool a)=.returned (.bool b):=by rw [d]
def Zb2 (l:List UInt8):Bool:=l.all fun c=>97≤c&&c≤122
def ZW (s:ByteArray):Bool:=decide (1≤s.size)&&decide (s.size≤8)&&Zb2 s.data.toList
theorem Zca (s:ByteArray) (k:Nat) (d:k<s.size):s.data.toList.take (k+1)=s.data.toList.take k++[s[k]]:=by
 rw [Yk (by simpa using d)];rfl
theorem ZgA (s:ByteArray) (k:Nat) (d:¬k<s.size):s.data.toList.take k=s.data.toList:=by
 refine Yj ?_;have e:s.data.toList.length=s.size:=by rw [Array.length_toList];rfl
 omega
theorem Zej (s:ByteArray) (k:Nat) (d:k<s.size) (h:Zb2 (s.data.toList.take k)=true) (m:(97:Int)≤(s[k].toNat:Int)) (q:(s[k].toNat:Int)≤122) :
  Zb2 (s.data.toList.take (k+1))=true:=by
 rw [Zca s k d];unfold Zb2 at *;rw [List.all_append,h];simp [UInt8.le_iff_toNat_le];omega
theorem Zcz (s:ByteArray) (k:Nat) (d:k<s.size) (hb:(s[k].toNat:Int)<97∨122<(s[k].toNat:Int)):ZW s=false:=by
 have h:s[k]∈s.data.toList:=by
  rw [←List.take_append_drop (k+1) s.data.toList,Zca s k d];simp
 unfold ZW;have:Zb2 s.data.toList=false:=by
  unfold Zb2;rw [List.all_eq_false];refine ⟨s[k],h,?_⟩;simp [UInt8.le_iff_toNat_le];omega
 rw [this];simp
theorem ZfW (s:ByteArray) (k:Nat) (h:¬k<s.size) (d:Zb2 (s.data.toList.take k)=true):ZW s=(decide (1≤s.size)&&decide (s.size≤8)):=by
 rw [ZgA s k h] at d;simp [ZW,d]
theorem ZbW (s:ByteArray) (w:World) (I:s.size≤maxLen) :
  Calls Tryz.prog 147 #[.string s] w fun e J=>e=.returned (.bool (ZW s))∧J=w:=by
 unfold maxLen at I;go_enter Tryz.func147,Tryz.ntmps147
 go_wp2
 go_loop [3] (fun i=>∃ k:Nat,k≤s.size∧i=.int .i64 k∧Zb2 (s.data.toList.take k)=true) (fun i=>s.size - (intOf i).toNat)
 case atStart=>exact ⟨0,Ye _,rfl,rfl⟩
 case round =>
  obtain ⟨k,M,rfl,q⟩:=hrel;have h:Hid (Zb2 (s.data.toList.take k)=true):=q;clear q;by_cases d:k<s.size
  ·by_cases D:(97:Int)≤(s[k].toNat:Int)
   ·by_cases E:(s[k].toNat:Int)≤122
    ·go_wp2
     go_round
     case rel=>exact ⟨k+1,by omega,by go_num,Zej s k d h.out D E⟩
     case measure=>simp [intOf];omega
    ·go_wp2
     go_ret
     exact ⟨Zu (Zcz s k d (by omega)).symm,rfl⟩
   ·go_wp2
    go_ret
    exact ⟨Zu (Zcz s k d (by omega)).symm,rfl⟩
  ·have A:=ZfW s k d h.out;have m:Hid (ZW s=(decide (1≤s.size)&&decide (s.size≤8))):=A;clear A;by_cases L:0<s.size
   ·go_wp2
    go_ret
    exact ⟨Zu (by rw [m.out,Bool.eq_iff_iff];simp;omega),rfl⟩
   ·go_wp2
    go_ret
    exact ⟨Zu (by rw [m.out,Bool.eq_iff_iff];simp;omega),rfl⟩
theorem Za6 (s:ByteArray) (w:World) (I:s.size≤maxLen) :
  Calls Tryz.prog 185 #[.string s] w fun e J=>e=.returned (.bool (ZW s))∧J=w:=by
 unfold maxLen at I;by_cases L:s.size<1
 ·go_enter Tryz.func185,Tryz.ntmps185
  go_wp2
  go_ret
  exact ⟨Zu (by simp [ZW];omega),rfl⟩
 by_cases hb:8<s.size
 ·go_enter Tryz.func185,Tryz.ntmps185
  go_wp2
  go_ret
  exact ⟨Zu (by simp [ZW];omega),rfl⟩
 have M:decide ((8:Int)<(s.size:Int))=false:=by simp;omega
 have N:decide ((s.size:Int)<1)=false:=by simp;omega
 go_enter Tryz.func185,Tryz.ntmps185
 go_wp2
 go_loop [3] (fun i=>∃ k:Nat,k≤s.size∧i=.int .i64 k∧Zb2 (s.data.toList.take k)=true) (fun i=>s.size - (intOf i).toNat)
 case atStart=>exact ⟨0,Ye _,rfl,rfl⟩
 case round =>
  obtain ⟨k,O,rfl,m⟩:=hrel;have h:Hid (Zb2 (s.data.toList.take k)=true):=m;clear m;by_cases d:k<s.size
  ·by_cases D:(97:Int)≤(s[k].toNat:Int)
   ·by_cases E:(s[k].toNat:Int)≤122
    ·go_wp2
     go_round
     case rel=>exact ⟨k+1,by omega,by go_num,Zej s k d h.out D E⟩
     case measure=>simp [intOf];omega
    ·go_wp2
     go_ret
     exact ⟨Zu (Zcz s k d (by omega)).symm,rfl⟩
   ·go_wp2
    go_ret
    exact ⟨Zu (Zcz s k d (by omega)).symm,rfl⟩
  ·have q:=ZfW s k d h.out;have A:Hid (ZW s=(decide (1≤s.size)&&decide (s.size≤8))):=q;clear q;go_wp2
   go_ret
   exact ⟨Zu (by rw [A.out,Bool.eq_iff_iff];simp;omega),rfl⟩
def inB (lo hi n:Int):Bool:=decide (lo≤n)&&decide (n≤hi)
theorem Zlb {m d n:Int} (h:inB m d n=true):m≤n∧n≤d:=by simpa [inB] using h
theorem Zc6 {d h n:Int} (m:n<d):inB d h n=false:=by simp [inB];omega
theorem ZN (n d h:Int) (w:World) :
  Calls Tryz.prog 75 #[.int .i64 n,.int .i64 d,.int .i64 h] w fun e q=>e=.returned (.bool (inB d h n))∧q=w:=by
 by_cases m:d≤n
 ·go_enter Tryz.func75,Tryz.ntmps75
  go_wp2
  go_ret
  exact ⟨Zu (by simp [inB,m]),rfl⟩
 ·go_enter Tryz.func75,Tryz.ntmps75
  go_wp2
  go_ret
  exact ⟨Zu (Zc6 (by omega)).symm,rfl⟩
abbrev sBudget:ByteArray:=⟨#[98,117,100,103,101,116]⟩
abbrev sSize:ByteArray:=⟨#[115,105,122,101]⟩
abbrev sWait:ByteArray:=⟨#[119,97,105,116]⟩
abbrev sFar:ByteArray:=⟨#[102,97,114]⟩
theorem Zdp (n:Int) (w:World) :
  Calls Tryz.prog 169 #[.string sBudget,.int .i64 n] w fun e h=>e=.returned (.bool (inB 1 99 n))∧h=w:=by
 by_cases d:1≤n
 ·go_enter Tryz.func169,Tryz.ntmps169
  go_wp2
  go_ret
  exact ⟨Zu (by simp [inB,d]),rfl⟩
 ·go_enter Tryz.func169,Tryz.ntmps169
  go_wp2
  go_ret
  exact ⟨Zu (Zc6 (by omega)).symm,rfl⟩
theorem Zen (n:Int) (w:World) :
  Calls Tryz.prog 169 #[.string sSize,.int .i64 n] w fun e h=>e=.returned (.bool (inB 0 20 n))∧h=w:=by
 by_cases d:0≤n
 ·go_enter Tryz.func169,Tryz.ntmps169
  go_wp2
  go_ret
  exact ⟨Zu (by simp [inB,d]),rfl⟩
 ·go_enter Tryz.func169,Tryz.ntmps169
  go_wp2
  go_ret
  exact ⟨Zu (Zc6 (by omega)).symm,rfl⟩
theorem Zfn (n:Int) (w:World) :
  Calls Tryz.prog 169 #[.string sWait,.int .i64 n] w fun e h=>e=.returned (.bool (inB 0 20 n))∧h=w:=by
 by_cases d:0≤n
 ·go_enter Tryz.func169,Tryz.ntmps169
  go_wp2
  go_ret
  exact ⟨Zu (by simp [inB,d]),rfl⟩
 ·go_enter Tryz.func169,Tryz.ntmps169
  go_wp2
  go_ret
  exact ⟨Zu (Zc6 (by omega)).symm,rfl⟩
theorem Zip (n:Int) (w:World) :
  Calls Tryz.prog 169 #[.string sFar,.int .i64 n] w fun e h=>e=.returned (.bool (inB 0 999 n))∧h=w:=by
 by_cases d:0≤n
 ·go_enter Tryz.func169,Tryz.ntmps169
  go_wp2
  go_ret
  exact ⟨Zu (by simp [inB,d]),rfl⟩
 ·go_enter Tryz.func169,Tryz.ntmps169
  go_wp2
  go_ret
  exact ⟨Zu (Zc6 (by omega)).symm,rfl⟩
end Pr
end Go.Proofs.YtmgkcbdlfodjmaaGreatDoor
