import Derived.Test.YtmgkcbdlfodjmaaGreatDoorBqF
import Derived.Deep.DeepCutAuto
set_option maxRecDepth 100000
set_option maxHeartbeats 16000000
namespace Go.Proofs.YtmgkcbdlfodjmaaGreatDoor
open Go.RowKit
namespace Df
open Co Lw
theorem Zp0 (kd:Int) (ad:Option Addr) (n ac:Nat) (ps:List Pl) (ag:Option Addr) (d ae:Nat) (qs:List Pl) (w:World) (az:RowAt w (.slice ad n ac) n (Ze ps)) (ay:ps.length=n) (bk:n≤maxLen) (a0:RowAt w (.slice ag d ae) d (Ze qs)) (ax:qs.length=d) (bz:d≤1099511627776) :
  Calls Tryz.prog 160 #[.int .i64 kd,.slice ad n ac,.slice ag d ae] w fun e w'=>∃ b8 vc,e=.returned (.slice b8 (chgL kd ps qs).length vc)∧w'.ownsRow w.heap.size 84 3 (.slice b8 (chgL kd ps qs).length vc) (chgL kd ps qs).length (Zo (chgL kd ps qs))∧Below w.heap.size w w':=by
 have HR:Hid (RowAt w (.slice ag d ae) d (Ze qs)∧qs.length=d):=⟨a0,ax⟩;have HH:=Za (fun u (hb:Below w.heap.size w u) bm=>cPoolIn ad n ac bm ps u (az.nx hb) ay bk);clear az ay a0 ax;go_enter Tryz.func160,Tryz.ntmps160
 go_wp2_with fail
 go_loopw [7,8,9,10,11] (fun l i b7 b1 b6 wr=>∃ (k j:Nat) (b8:Option Addr) (vc:Nat),k≤d∧j≤k∧i=.int .i64 k∧l=.slice b8 j vc∧Hid ((chgL kd ps (qs.take k)).length=j∧wr.ownsRow w.heap.size 84 3 (.slice b8 j vc) j (Zo (chgL kd ps (qs.take k)))∧Below w.heap.size w wr)) (fun _ i _ _ _ _=>d - (intOf i).toNat)
 case atStart=>exact ⟨0,0,some ⟨w.heap.size,0,none⟩,0,Ye _,Yd _,rfl,rfl,by simp [chgL],Zc9 w _ 3 _ rfl _ (Yd _),Zc _ _⟩
 case round =>
  obtain ⟨k,j,b8,vc,bw,bv,rfl,rfl,q⟩:=hrel;by_cases bj:k<d
  ·obtain ⟨⟨m,J,L,M⟩,al⟩:∃ p,qs[k]?=some p:=⟨_,Yb (by rw [HR.out.2];exact bj)⟩;have b9:=Za (fun (u:World) (hb:Below wr.heap.size wr u)=>ZJ ((HR.out.1.nx q.out.2.2).nx hb) al);obtain ⟨aq,off,bg,bu,be,c1,c2,c3⟩:=b9.out wr (Yh _ _);subst bg;simp only at be c1 c2 c3;have bx:(k:Int)<(d:Int):=by omega
   obtain ⟨⟨U,V,X,Y⟩,am⟩:∃ y,inP ps m=y:=⟨_,rfl⟩;have ab:Hid (chgL kd ps (qs.take (k+1))=chgL kd ps (qs.take k)++if ZV kd (numP kd ⟨U,V,X,Y⟩) (numP kd ⟨m,J,L,M⟩)=true then [ZaG kd m (numP kd ⟨m,J,L,M⟩)] else []):=by
    obtain ⟨bh,e⟩:=Yc.1 al;show _=_;unfold chgL;rw [Yk bh,Yr,List.map_append,e];congr 1;cases bi:ZV kd (numP kd ⟨U,V,X,Y⟩) (numP kd ⟨m,J,L,M⟩) <;> simp [Zbr,am,bi]
   clear al;go_wp2_with fail
   refine (HH.out _ q.out.2.2 _).mono ?_;rintro e w1 ⟨rfl,ar⟩;rw [am];obtain ⟨R,ai⟩:∃ R,numP kd ⟨U,V,X,Y⟩=R:=⟨_,rfl⟩;obtain ⟨A,aj⟩:∃ A,numP kd ⟨m,J,L,M⟩=A:=⟨_,rfl⟩;rw [ai,aj] at ab;have bc:=Za ai;have bd:=Za aj;have a9:=Za ar;clear am ai aj ar;go_wp2_with fail
   refine (Zs6 kd U V X Y _).mono ?_;rintro e bo ⟨rfl,au⟩;rw [bc.out];have ap:=Za (Zb a9.out (Zb (Zc _ _) au));obtain ⟨af,ao,E,ah,bp,bq,d2,d3⟩:=b9.out bo ap.out;obtain ⟨rfl,rfl⟩:aq=af∧off=ao:=by simpa using E
   clear au E ah;go_wp2_with fail
   refine (Zs6 kd m J L M _).mono ?_;rintro e I ⟨rfl,av⟩;rw [bd.out];have aa:=Za (Zb ap.out av);obtain ⟨af,ao,E,ah,br,bs,f2,bt⟩:=b9.out I aa.out;obtain ⟨rfl,rfl⟩:aq=af∧off=ao:=by simpa using E
   clear av E ah;go_wp2_with fail
   refine (ZlU kd R A _).mono ?_;rintro e b0 ⟨rfl,bf⟩;obtain rfl:=bf.symm;have D:Hid (I.ownsRow w.heap.size 84 3 (.slice b8 j vc) j (Zo (chgL kd ps (qs.take k)))∧Below w.heap.size w I):=⟨Zx q.out.2.1 aa.out,Zb q.out.2.2 aa.out⟩;cases Q:ZV kd R A with
   | false =>
    have O:Hid (chgL kd ps (qs.take (k+1))=chgL kd ps (qs.take k)):=by
     show _=_;rw [ab.out,Q];simp
    clear Q;go_wp2_with fail
    go_roundw
    case rel=>exact ⟨k+1,j,b8,vc,by omega,by omega,by go_num,rfl,by rw [O.out];exact ⟨q.out.1,D.out⟩⟩
    case measure=>simp [intOf];omega
   | true =>
    have O:Hid (chgL kd ps (qs.take (k+1))=chgL kd ps (qs.take k)++[ZaG kd m A]):=by
     show _=_;rw [ab.out,Q];simp
    clear Q;go_wp2_with (at_builtin;refine ZaN 84 42 3 32 _ ZcJ Tryz.underlying42 rfl (by decide) (by decide) rfl (.tmp 39) (.tmp 48) rfl w.heap.size _ j (Zo (chgL kd ps (qs.take k))) rfl (D.out.1.alloc _) (some ⟨I.heap.size,0,none⟩) 1 1 [.int .i64 kd,.string m,.int .i64 A] rfl rfl (ZaM I [.int .i64 kd,.string m,.int .i64 A] _ 1 rfl) (by intro u a1;simp at a1;rcases a1 with rfl | rfl | rfl <;> rfl) (fun h=>by cases h) (by omega) (by simp;have:=D.out.2.size;omega) ?next)
    case next =>
     intro v' a8 ak aw;obtain ⟨a7,a6,rfl,_⟩:=Zf ak;have K6:Hid ((chgL kd ps (qs.take (k+1))).length=j+1∧a8.ownsRow w.heap.size 84 3 (.slice a7 (j+1) a6) (j+1) (Zo (chgL kd ps (qs.take (k+1))))∧Below w.heap.size w a8):=by
      refine ⟨by rw [O.out];simp [q.out.1],?_,(D.out.2.alloc D.out.2.size _).trans aw⟩;rw [O.out];unfold Zo;rw [List.flatMap_append];exact ak
     clear ak aw;go_wp2_with fail
     go_roundw
     case rel=>exact ⟨k+1,j+1,a7,a6,by omega,by omega,by go_num,rfl,K6.out⟩
     case measure=>simp [intOf];omega
  ·have N:Hid ((chgL kd ps qs).length=j∧wr.ownsRow w.heap.size 84 3 (.slice b8 j vc) j (Zo (chgL kd ps qs))∧Below w.heap.size w wr):=by
    have bl:qs.take k=qs:=Yj (by rw [HR.out.2];omega);have:=q.out;rw [bl] at this;exact this
   go_wp2_with fail
   go_ret
   exact ⟨b8,vc,by rw [N.out.1];rfl,by rw [N.out.1];exact N.out.2.1,N.out.2.2⟩
def GaveS (w w':World) (l:List Stp) (e:Ending):Prop:=∃ vo vc,e=.returned (.slice vo l.length vc)∧RowAt w' (.slice vo l.length vc) l.length (Zo l)∧(vo=none→vc=0)∧Below w.heap.size w w'
theorem GaveS.of_own {w D:World} {l:List Stp} {e:Ending} {B:Nat} (h:∃ d vc,e=.returned (.slice d l.length vc)∧D.ownsRow B 84 3 (.slice d l.length vc) l.length (Zo l)∧Below w.heap.size w D):GaveS w D l e:=by
 obtain ⟨d,vc,q,m,A⟩:=h;exact ⟨d,vc,q,Zf m,ZaO m,A⟩
theorem ZqR (kd ba:Int) (D:Option Addr) (n A:Nat) (ps:List Pl) (bb:Int) (I:Option Addr) (m E:Nat) (qs:List Pl) (w:World) (Y:RowAt w (.slice D n A) n (Ze ps)) (X:ps.length=n) (ac:n≤1099511627776) (aa:RowAt w (.slice I m E) m (Ze qs)) (U:qs.length=m) (ab:m≤1099511627776) :
  Calls Tryz.prog 131 #[.int .i64 kd,.agg #[.int .i64 ba,.slice D n A],.agg #[.int .i64 bb,.slice I m E]] w fun e w'=>GaveS w w' (Zbh kd ba ps bb qs) e:=by
 obtain ⟨W,hW⟩:∃ W,W=(w.alloc (Zi ba (.slice D n A))).alloc (Zi bb (.slice I m E)):=⟨_,rfl⟩;have q:Below w.heap.size w W:=by rw [hW];exact Zb (Zc _ _) (Zc _ _)
 have V:∀ x:Nat,x≤1099511627776→x≤maxLen:=fun x aj=>by unfold maxLen;omega
 have af:=Za (fun k=>Zlm k D n A ps I m E qs W (Y.nx q) X ac (aa.nx q) U (V _ ab));have ag:=Za (fun k=>Zlm k I m E qs D n A ps W (aa.nx q) U ab (Y.nx q) X (V _ ac));have HC:=Za (fun k=>Zp0 k D n A ps I m E qs W (Y.nx q) X (V _ ac) (aa.nx q) U ab);have ae:=Za q;have O:=Za hW;have ad:∀ (l:List Stp) (e:Ending) (w':World),GaveS W w' l e→GaveS w w' l e:=fun _ _ _ ⟨N,vc,ah,J,L,M⟩=>⟨N,vc,ah,J,L,Zb ae.out M⟩
 have Q:=Za ad;clear Y X aa U hW q V ad;by_cases J:kd=2
 ·subst J;go_enter Tryz.func131,Tryz.ntmps131
  go_wp2_with fail
  rw [←O.out];refine (af.out 2).mono ?_;rintro e w1 d;have h:=Za (Q.out _ _ _ (GaveS.of_own d));obtain ⟨N,vc,rfl,_⟩:=d;go_wp2_with fail
  go_ret
  exact h.out
 by_cases M:kd=4
 ·subst M;go_enter Tryz.func131,Tryz.ntmps131
  go_wp2_with fail
  rw [←O.out];refine (ag.out 4).mono ?_;rintro e w1 d;have h:=Za (Q.out _ _ _ (GaveS.of_own d));obtain ⟨N,vc,rfl,_⟩:=d;go_wp2_with fail
  go_ret
  exact h.out
 by_cases L:kd=3
 ·subst L;go_enter Tryz.func131,Tryz.ntmps131
  go_wp2_with fail
  rw [←O.out];refine (ZmN 3 ba bb W).mono ?_;rintro e w1 d;have h:=Za (Q.out (budL 3 ba bb) _ _ d);obtain ⟨N,vc,rfl,_⟩:=d;go_wp2_with fail
  go_ret
  exact h.out
 by_cases R:kd=7
 ·subst R;go_enter Tryz.func131,Tryz.ntmps131
  go_wp2_with fail
  rw [←O.out];refine (ZmN 7 ba bb W).mono ?_;rintro e w1 d;have h:=Za (Q.out (budL 7 ba bb) _ _ d);obtain ⟨N,vc,rfl,_⟩:=d;go_wp2_with fail
  go_ret
  exact h.out
 have b2:(kd == 2)=false:=by simp [J]
 have b4:(kd == 4)=false:=by simp [M]
 have b3:(kd == 3)=false:=by simp [L]
 have ai:(kd == 7)=false:=by simp [R]
 have HK:Hid (Zbh kd ba ps bb qs=chgL kd ps qs):=by show _=_;simp [Zbh,J,M,L,R]
 clear J M L R;go_enter Tryz.func131,Tryz.ntmps131
 go_wp2_with fail
 rw [←O.out];refine (HC.out kd).mono ?_;rintro e w1 d;have h:=Za (Q.out _ _ _ (GaveS.of_own d));obtain ⟨N,vc,rfl,_⟩:=d;go_wp2_with fail
 go_ret
 rw [HK.out];exact h.out
theorem Zfm (k ba:Int) (ps:List Pl) (bb:Int) (qs:List Pl) (d:ps.length≤6) (h:qs.length≤6):(Zbh k ba ps bb qs).length≤7:=by
 unfold Zbh;split
 ·unfold missL;rw [List.length_map];exact Ym (Yp _ _) (by omega)
 ·split
  ·unfold missL;rw [List.length_map];exact Ym (Yp _ _) (by omega)
  ·split
   ·unfold budL;split <;> simp
   ·unfold chgL;rw [List.length_map];exact Ym (Yp _ _) (by omega)
theorem Zae (i:Nat) (ba:Int) (ps:List Pl) (bb:Int) (qs:List Pl):diffTo (i+1) ba ps bb qs=diffTo i ba ps bb qs++Zbh ((i:Int)+1) ba ps bb qs:=by
 unfold diffTo;rw [List.range_succ,List.flatMap_append];simp
def Ziu (ok:Bool) (ba:Int) (ps:List Pl) (bb:Int) (qs:List Pl):List Stp:=if ok=true then diffL ba ps bb qs else []
def Zqo (ok:Bool):Int:=if ok=true then 0 else 9
def Zfp (w w':World) (ok:Bool) (ba:Int) (ps:List Pl) (bb:Int) (qs:List Pl) (e:Ending):Prop:=
 ∃ vo vc,e=.returned (.tuple #[.slice vo (Ziu ok ba ps bb qs).length vc,.int .i64 (Zqo ok)])∧w'.ownsRow w.heap.size 84 3 (.slice vo (Ziu ok ba ps bb qs).length vc) (Ziu ok ba ps bb qs).length (Zo (Ziu ok ba ps bb qs))∧Below w.heap.size w w'
theorem ZhY {w d:World} (ba:Int) (ps:List Pl) (bb:Int) (qs:List Pl) (hb:Below w.heap.size w d):Zfp w d false ba ps bb qs (.returned (.tuple #[.slice none 0 0,.int .i64 9])):=
 ⟨none,0,rfl,⟨rfl,.inl ⟨rfl,rfl⟩⟩,hb⟩
def GaveB (w w':World) (ba:Int) (ps:List Pl) (bb:Int) (qs:List Pl) (e:Ending):Prop:=
 ∃ vo vc,e=.returned (.slice vo (diffL ba ps bb qs).length vc)∧w'.ownsRow w.heap.size 84 3 (.slice vo (diffL ba ps bb qs).length vc) (diffL ba ps bb qs).length (Zo (diffL ba ps bb qs))∧Below w.heap.size w w'
theorem cBetween (ba:Int) (E:Option Addr) (n D:Nat) (ps:List Pl) (bb:Int) (J:Option Addr) (h I:Nat) (qs:List Pl) (w:World) (ag:RowAt w (.slice E n D) n (Ze ps)) (ae:ps.length=n) (ay:n≤6) (ah:RowAt w (.slice J h I) h (Ze qs)) (ad:qs.length=h) (ax:h≤6) :
  Calls Tryz.prog 86 #[.agg #[.int .i64 ba,.slice E n D],.agg #[.int .i64 bb,.slice J h I]] w fun e w'=>GaveB w w' ba ps bb qs e:=by
 obtain ⟨d,N⟩:∃ W,W=(w.alloc (Zi ba (.slice E n D))).alloc (Zi bb (.slice J h I)):=⟨_,rfl⟩;have ac:Below w.heap.size w d:=by rw [N];exact Zb (Zc _ _) (Zc _ _)
 have O:Hid (d.heap[w.heap.size]?=some (Zi ba (.slice E n D))∧d.heap[w.heap.size+1]?=some (Zi bb (.slice J h I))∧w.heap.size+2≤d.heap.size):=by
  refine ⟨?_,?_,?_⟩
  ·rw [N];exact (Zn _ _ (by simp)).trans (Zd _ _ rfl)
  ·rw [N];exact Zd _ _ (by simp)
  ·rw [N];simp
 have HW:=Za N;have Q:=Za ac;have M:Hid (RowAt w (.slice E n D) n (Ze ps)∧ps.length=n∧RowAt w (.slice J h I) h (Ze qs)∧qs.length=h∧True):=⟨ag,ae,ah,ad,trivial⟩;clear ag ae ah ad N ac;go_enter Tryz.func86,Tryz.ntmps86
 go_upto_region 1 with fail
 rw [←HW.out];go_wp2_with fail
 go_loopw [5,6,7] (fun l kd x wr=>∃ (i j:Nat) (L:Option Addr) (vc:Nat),i≤8∧j≤7*i∧kd=.int .i64 ((i:Int)+1)∧l=.slice L j vc∧Hid ((diffTo i ba ps bb qs).length=j∧wr.ownsRow d.heap.size 84 3 (.slice L j vc) j (Zo (diffTo i ba ps bb qs))∧Below d.heap.size d wr)) (fun _ kd _ _=>9 - (intOf kd).toNat)
 case atStart=>exact ⟨0,0,some ⟨d.heap.size,0,none⟩,0,Ye _,Yd _,rfl,rfl,by simp [diffTo],Zc9 d _ 3 _ rfl _ (Yd _),Zc _ _⟩
 case round =>
  obtain ⟨i,j,L,vc,az,a0,rfl,rfl,m⟩:=hrel;have ai:wr.heap[w.heap.size]?=some (Zi ba (.slice E n D)):=(m.out.2.2.block _ (by have:=O.out.2.2;omega)).trans O.out.1;have aj:wr.heap[w.heap.size+1]?=some (Zi bb (.slice J h I)):=(m.out.2.2.block _ (by have:=O.out.2.2;omega)).trans O.out.2.1;obtain ⟨ao,ap,aq⟩:=Zw ai;obtain ⟨ar,au,av⟩:=Zw aj;clear ai aj;by_cases a1:i<8
  ·have a6:(i:Int)+1≤8:=by omega
   have aa:=Za (Zb Q.out m.out.2.2);have HC:=Za (ZqR ((i:Int)+1) ba E n D ps bb J h I qs wr (M.out.1.nx aa.out) M.out.2.1 (by omega) (M.out.2.2.1.nx aa.out) M.out.2.2.2.1 (by omega));have HN:=Za (Zae i ba ps bb qs);have aw:=Zfm ((i:Int)+1) ba ps bb qs (by rw [M.out.2.1];exact ay) (by rw [M.out.2.2.2.1];exact ax);go_wp2_with fail
   refine HC.out.mono ?_;rintro e Y ⟨so,sc,rfl,X,af,R⟩;obtain ⟨q,V⟩:∃ q,(Zbh ((i:Int)+1) ba ps bb qs).length=q:=⟨_,rfl⟩;rw [V] at X aw ⊢;have A:Hid ((Zbh ((i:Int)+1) ba ps bb qs).length=q∧RowAt Y (.slice so q sc) q (Zo (Zbh ((i:Int)+1) ba ps bb qs))∧(so=none→sc=0)∧Y.ownsRow d.heap.size 84 3 (.slice L j vc) j (Zo (diffTo i ba ps bb qs))∧Below d.heap.size d Y):=⟨V,X,af,Zx m.out.2.1 R,Zb m.out.2.2 R⟩;clear X af R V ao ap aq ar au av;go_wp2_with (at_builtin;refine ZaN 84 42 3 32 _ ZcJ Tryz.underlying42 rfl (by decide) (by decide) rfl (.tmp 17) (.tmp 18) rfl d.heap.size _ j (Zo (diffTo i ba ps bb qs)) rfl A.out.2.2.2.1 so q sc (Zo (Zbh ((i:Int)+1) ba ps bb qs)) rfl (by rw [ZkD,A.out.1]) A.out.2.1 (Zkz _) A.out.2.2.1 (by omega) A.out.2.2.2.2.size ?next)
   case next =>
    intro v' am U ab;obtain ⟨al,ak,rfl,_⟩:=Zf U;have K6:Hid ((diffTo (i+1) ba ps bb qs).length=j+q∧am.ownsRow d.heap.size 84 3 (.slice al (j+q) ak) (j+q) (Zo (diffTo (i+1) ba ps bb qs))∧Below d.heap.size d am):=by
     refine ⟨by rw [HN.out,List.length_append,m.out.1,A.out.1],?_,A.out.2.2.2.2.trans ab⟩;rw [HN.out];unfold Zo;rw [List.flatMap_append];exact U
    clear U ab;go_wp2_with fail
    go_roundw
    case rel=>exact ⟨i+1,j+q,al,ak,by omega,by omega,by go_num,rfl,K6.out⟩
    case measure=>simp [intOf];omega
  ·obtain rfl:i=8:=by omega
   go_wp2_with fail
   go_ret
   refine ⟨L,vc,?_,?_,Zb Q.out m.out.2.2⟩
   ·show Ending.returned _=Ending.returned (.slice L (diffTo 8 ba ps bb qs).length vc);rw [m.out.1];rfl
   ·show wr.ownsRow w.heap.size 84 3 (.slice L (diffTo 8 ba ps bb qs).length vc) (diffTo 8 ba ps bb qs).length (Zo (diffTo 8 ba ps bb qs));rw [m.out.1];exact Zr m.out.2.1 Q.out.size
theorem ZtV (N O:Bool) (ba:Int) (m:Option Addr) (n h:Nat) (ps:List Pl) (bb:Int) (A:Option Addr) (d q:Nat) (qs:List Pl) (w:World) (ap:RowAt w (.slice m n h) n (Ze ps)) (al:ps.length=n) (am:N=true→n≤6) (aq:RowAt w (.slice A d q) d (Ze qs)) (aj:qs.length=d) (ak:O=true→d≤6)
  (hA:∀ u,Below w.heap.size w u→Calls Tryz.prog 144 #[.agg #[.int .i64 ba,.slice m n h]] u fun e Q=>e=.returned (.bool N)∧Below u.heap.size u Q)
  (hB:∀ u,Below w.heap.size w u→Calls Tryz.prog 144 #[.agg #[.int .i64 bb,.slice A d q]] u fun e Q=>e=.returned (.bool O)∧Below u.heap.size u Q) :
  Calls Tryz.prog 110 #[.agg #[.int .i64 ba,.slice m n h],.agg #[.int .i64 bb,.slice A d q]] w fun e Q=>Zfp w Q (N&&O) ba ps bb qs e:=by
 obtain ⟨W,I⟩:∃ W,W=(w.alloc (Zi ba (.slice m n h))).alloc (Zi bb (.slice A d q)):=⟨_,rfl⟩;have aa:Below w.heap.size w W:=by rw [I];exact Zb (Zc _ _) (Zc _ _)
 have E:Hid (W=(w.alloc (Zi ba (.slice m n h))).alloc (Zi bb (.slice A d q))∧W.heap[w.heap.size]?=some (Zi ba (.slice m n h))∧W.heap[w.heap.size+1]?=some (Zi bb (.slice A d q))∧w.heap.size+2=W.heap.size∧Below w.heap.size w W):=by
  refine ⟨I,?_,?_,?_,aa⟩
  ·rw [I];exact (Zn _ _ (by simp)).trans (Zd _ _ rfl)
  ·rw [I];exact Zd _ _ (by simp)
  ·rw [I];simp
 have HA:=Za (hA W aa);have HB:=Za hB;have D:Hid (RowAt w (.slice m n h) n (Ze ps)∧ps.length=n∧RowAt w (.slice A d q) d (Ze qs)∧qs.length=d∧(N=true→n≤6)∧(O=true→d≤6)):=⟨ap,al,aq,aj,am,ak⟩;clear ap al aq aj hA hB am ak I aa;go_enter Tryz.func110,Tryz.ntmps110
 go_wp2_with fail
 rw [←E.out.1];refine HA.out.mono ?_;rintro e w1 ⟨rfl,M⟩;have V:=Za (Zb E.out.2.2.2.2 M);cases N with
 | false =>
  clear M;go_wp2_with fail
  go_ret2
  exact ZhY ba ps bb qs V.out
 | true =>
  have X:w1.heap[w.heap.size]?=some (Zi ba (.slice m n h)):=(M.block _ (by have:=E.out.2.2.2.1;omega)).trans E.out.2.1;have Y:w1.heap[w.heap.size+1]?=some (Zi bb (.slice A d q)):=(M.block _ (by have:=E.out.2.2.2.1;omega)).trans E.out.2.2.1;obtain ⟨ac,ad,ae⟩:=Zw X;obtain ⟨af,ag,ah⟩:=Zw Y;have R:=Za (And.intro X Y);clear X Y M;go_wp2_with fail
  refine (HB.out w1 V.out).mono ?_;rintro e U ⟨rfl,J⟩;have L:=Za (Zb V.out J);cases O with
  | false =>
   clear J;go_wp2_with fail
   go_ret2
   exact ZhY ba ps bb qs L.out
  | true =>
   have aw:n≤6:=by simpa using D.out.2.2.2.2.1
   have av:d≤6:=by simpa using D.out.2.2.2.2.2
   have ab:Hid (U.heap[w.heap.size]?=some (Zi ba (.slice m n h))∧U.heap[w.heap.size+1]?=some (Zi bb (.slice A d q))∧w.heap.size+2≤U.heap.size):=by
    have z:=(Ya.1 R.out.2).1;exact ⟨(J.block _ (by omega)).trans R.out.1,(J.block _ z).trans R.out.2,Ym (show w.heap.size+2≤w1.heap.size by omega) J.size⟩
   clear J ac ad ae af ag ah R HA HB;obtain ⟨ac,ad,ae⟩:=Zw ab.out.1;obtain ⟨af,ag,ah⟩:=Zw ab.out.2.1;have au:=Za (cBetween ba m n h ps bb A d q qs U (D.out.1.nx L.out) D.out.2.1 aw (D.out.2.2.1.nx L.out) D.out.2.2.2.1 av);go_wp2_with fail
   refine au.out.mono ?_;rintro e ax ⟨ar,vc,rfl,ao,ai⟩;have HG:Hid (Zfp w ax (true&&true) ba ps bb qs (.returned (.tuple #[.slice ar (diffL ba ps bb qs).length vc,.int .i64 0]))):=⟨ar,vc,rfl,Zr ao L.out.size,Zb L.out ai⟩;clear ao ai;go_wp2_with fail
   go_ret2
   exact HG.out
theorem Ztq (h m:Bool) (ba:Int) (D:Option Addr) (n A:Nat) (ps:List Pl) (bb:Int) (I:Option Addr) (d E:Nat) (qs:List Pl) (w:World) (aa:RowAt w (.slice D n A) n (Ze ps)) (V:ps.length=n) (X:h=true→n≤6) (ab:RowAt w (.slice I d E) d (Ze qs)) (R:qs.length=d) (U:m=true→d≤6)
  (O:∀ u,Below w.heap.size w u→Calls Tryz.prog 144 #[.agg #[.int .i64 ba,.slice D n A]] u fun e J=>e=.returned (.bool h)∧Below u.heap.size u J)
  (Q:∀ u,Below w.heap.size w u→Calls Tryz.prog 144 #[.agg #[.int .i64 bb,.slice I d E]] u fun e J=>e=.returned (.bool m)∧Below u.heap.size u J) :
  Calls Tryz.prog 68 #[.agg #[.int .i64 ba,.slice D n A],.agg #[.int .i64 bb,.slice I d E]] w fun e J=>Zfp w J (h&&m) ba ps bb qs e:=by
 obtain ⟨W,M⟩:∃ W,W=(w.alloc (Zi ba (.slice D n A))).alloc (Zi bb (.slice I d E)):=⟨_,rfl⟩;have q:Below w.heap.size w W:=by rw [M];exact Zb (Zc _ _) (Zc _ _)
 have HC:=Za (ZtV h m ba D n A ps bb I d E qs W (aa.nx q) V X (ab.nx q) R U (fun u N=>O u (Zb q N)) (fun u N=>Q u (Zb q N)));have L:=Za (And.intro M q);clear aa V ab R O Q X U M q;go_enter Tryz.func68,Tryz.ntmps68
 go_wp2_with fail
 rw [←L.out.1];refine HC.out.mono ?_;rintro e w1 ⟨ac,vc,rfl,Y,hb⟩;have HG:Hid (Zfp w w1 (h&&m) ba ps bb qs (.returned (.tuple #[.slice ac (Ziu (h&&m) ba ps bb qs).length vc,.int .i64 (Zqo (h&&m))]))):=⟨ac,vc,rfl,Zr Y L.out.2.size,Zb L.out.2 hb⟩;clear Y hb;go_wp2_with fail
 go_ret2
 exact HG.out
end Df
namespace Lw
open Co
theorem Zms (b:Int) (M:Option Addr) (E N:Nat) (h:Option Addr) (d s2:Nat) (w1:Option Addr) (I R:Nat) (O:Option Addr) (J Q:Nat) (m q:Bool) (nx hb:Int) (A:Option Addr) (L D:Nat) (c:Int) (ss:List Srv) (w:World) (ae:RowAt w (.slice h d s2) d (Zv ss)) (ac:ss.length=d) (ah:d≤maxLen) :
  Calls Tryz.prog 76 #[.agg #[.int .i64 b,.slice M E N,.slice h d s2,.slice w1 I R,.slice O J Q,.bool m,.bool q,.int .i64 nx,.int .i64 hb,.slice A L D],.int .i64 c] w fun e w'=>e=.returned (.int .i64 (Zay (ss.findIdx? (Zp c))))∧Below w.heap.size w w':=by
 unfold maxLen at ah;have V:Hid (RowAt (w.alloc (.cells #[.int .i64 b,.slice M E N,.slice h d s2,.slice w1 I R,.slice O J Q,.bool m,.bool q,.int .i64 nx,.int .i64 hb,.slice A L D] 46)) (.slice h d s2) d (Zv ss)∧ss.length=d∧(w.alloc (.cells #[.int .i64 b,.slice M E N,.slice h d s2,.slice w1 I R,.slice O J Q,.bool m,.bool q,.int .i64 nx,.int .i64 hb,.slice A L D] 46)).heap[w.heap.size]?=some (.cells #[.int .i64 b,.slice M E N,.slice h d s2,.slice w1 I R,.slice O J Q,.bool m,.bool q,.int .i64 nx,.int .i64 hb,.slice A L D] 46)):=⟨ae.nx (Zc _ _),ac,Zd _ _ rfl⟩;clear ae ac;go_enter Tryz.func76,Tryz.ntmps76
 go_wp2_with fail
 go_loopw [5] (fun i wr=>∃ k:Nat,k≤d∧i=.int .i64 k∧Hid (∀ y∈ss.take k,(Zp c) y=false)∧Below (w.alloc (.cells #[.int .i64 b,.slice M E N,.slice h d s2,.slice w1 I R,.slice O J Q,.bool m,.bool q,.int .i64 nx,.int .i64 hb,.slice A L D] 46)).heap.size (w.alloc (.cells #[.int .i64 b,.slice M E N,.slice h d s2,.slice w1 I R,.slice O J Q,.bool m,.bool q,.int .i64 nx,.int .i64 hb,.slice A L D] 46)) wr) (fun i _=>d - (intOf i).toNat)
 case atStart=>exact ⟨0,Ye _,rfl,by intro y aa;simp at aa,Yh _ _⟩
 case round =>
  obtain ⟨k,am,rfl,HT,X⟩:=hrel;have Y:wr.heap[w.heap.size]?=some (.cells #[.int .i64 b,.slice M E N,.slice h d s2,.slice w1 I R,.slice O J Q,.bool m,.bool q,.int .i64 nx,.int .i64 hb,.slice A L D] 46):=(X.block _ (by simp)).trans V.out.2.2;have HB:Hid (Below w.heap.size w wr):=Zb (Zc _ _) X;have al:wr.cell? ⟨w.heap.size,2,none⟩=some (.slice h d s2):=by simp [World.cell?,Y]
  by_cases ai:k<d
  ·obtain ⟨⟨ap,aq,ar,ab⟩,U⟩:∃ p,ss[k]?=some p:=⟨_,Yb (by rw [V.out.2.1];exact ai)⟩;obtain ⟨aj,off,ag,ak,af,c1,c2,c3⟩:=ZbA (V.out.1.nx X) U;subst ag;simp only at af c1 c2 c3;have ao:(k:Int)<(d:Int):=by omega
   cases ad:(ab == c) with
   | true =>
    have HH:Hid (ss.findIdx? (Zp c)=some k):=Zdv HT.out U (by show (ab == c)=true;exact ad);clear U Y;go_wp2_with fail
    go_ret
    exact ⟨by rw [HH.out];rfl,HB.out⟩
   | false =>
    have HN:Hid (∀ y∈ss.take (k+1),(Zp c) y=false):=Zbo HT.out U (by show (ab == c)=false;exact ad);clear U Y;go_wp2_with fail
    go_roundw
    case rel=>exact ⟨k+1,by omega,by go_num,HN.out,X⟩
    case measure=>simp [intOf];omega
  ·have HM:Hid (ss.findIdx? (Zp c)=none):=ZcY (fun y aa=>HT.out y (by rw [Yj (by rw [V.out.2.1];omega)];exact aa));clear Y;go_wp2_with fail
   go_ret
   exact ⟨by rw [HM.out];rfl,HB.out⟩
theorem ZoL (b:Int) (N:Option Addr) (I O:Nat) (Q:Option Addr) (J s2:Nat) (w1:Option Addr) (d h:Nat) (R:Option Addr) (L U:Nat) (q A:Bool) (nx hb:Int) (D:Option Addr) (M E:Nat) (c:Int) (m:List Wtr) (w:World) (af:RowAt w (.slice w1 d h) d (ZE m)) (ad:m.length=d) (ai:d≤maxLen) :
  Calls Tryz.prog 77 #[.agg #[.int .i64 b,.slice N I O,.slice Q J s2,.slice w1 d h,.slice R L U,.bool q,.bool A,.int .i64 nx,.int .i64 hb,.slice D M E],.int .i64 c] w fun e w'=>e=.returned (.int .i64 (Zay (m.findIdx? (Z3 c))))∧Below w.heap.size w w':=by
 unfold maxLen at ai;have X:Hid (RowAt (w.alloc (.cells #[.int .i64 b,.slice N I O,.slice Q J s2,.slice w1 d h,.slice R L U,.bool q,.bool A,.int .i64 nx,.int .i64 hb,.slice D M E] 46)) (.slice w1 d h) d (ZE m)∧m.length=d∧(w.alloc (.cells #[.int .i64 b,.slice N I O,.slice Q J s2,.slice w1 d h,.slice R L U,.bool q,.bool A,.int .i64 nx,.int .i64 hb,.slice D M E] 46)).heap[w.heap.size]?=some (.cells #[.int .i64 b,.slice N I O,.slice Q J s2,.slice w1 d h,.slice R L U,.bool q,.bool A,.int .i64 nx,.int .i64 hb,.slice D M E] 46)):=⟨af.nx (Zc _ _),ad,Zd _ _ rfl⟩;clear af ad;go_enter Tryz.func77,Tryz.ntmps77
 go_wp2_with fail
 go_loopw [5] (fun i wr=>∃ k:Nat,k≤d∧i=.int .i64 k∧Hid (∀ y∈m.take k,(Z3 c) y=false)∧Below (w.alloc (.cells #[.int .i64 b,.slice N I O,.slice Q J s2,.slice w1 d h,.slice R L U,.bool q,.bool A,.int .i64 nx,.int .i64 hb,.slice D M E] 46)).heap.size (w.alloc (.cells #[.int .i64 b,.slice N I O,.slice Q J s2,.slice w1 d h,.slice R L U,.bool q,.bool A,.int .i64 nx,.int .i64 hb,.slice D M E] 46)) wr) (fun i _=>d - (intOf i).toNat)
 case atStart=>exact ⟨0,Ye _,rfl,by intro y ab;simp at ab,Yh _ _⟩
 case round =>
  obtain ⟨k,ao,rfl,HT,Y⟩:=hrel;have aa:wr.heap[w.heap.size]?=some (.cells #[.int .i64 b,.slice N I O,.slice Q J s2,.slice w1 d h,.slice R L U,.bool q,.bool A,.int .i64 nx,.int .i64 hb,.slice D M E] 46):=(Y.block _ (by simp)).trans X.out.2.2;have HB:Hid (Below w.heap.size w wr):=Zb (Zc _ _) Y;have am:wr.cell? ⟨w.heap.size,3,none⟩=some (.slice w1 d h):=by simp [World.cell?,aa]
  by_cases aj:k<d
  ·obtain ⟨⟨ac,aq⟩,V⟩:∃ p,m[k]?=some p:=⟨_,Yb (by rw [X.out.2.1];exact aj)⟩;obtain ⟨ak,off,ah,al,ag,c1⟩:=Zdd (X.out.1.nx Y) V;subst ah;simp only at ag c1;have ap:(k:Int)<(d:Int):=by omega
   cases ae:(ac == c) with
   | true =>
    have HH:Hid (m.findIdx? (Z3 c)=some k):=Zdv HT.out V (by show (ac == c)=true;exact ae);clear V aa;go_wp2_with fail
    go_ret
    exact ⟨by rw [HH.out];rfl,HB.out⟩
   | false =>
    have HN:Hid (∀ y∈m.take (k+1),(Z3 c) y=false):=Zbo HT.out V (by show (ac == c)=false;exact ae);clear V aa;go_wp2_with fail
    go_roundw
    case rel=>exact ⟨k+1,by omega,by go_num,HN.out,Y⟩
    case measure=>simp [intOf];omega
  ·have HM:Hid (m.findIdx? (Z3 c)=none):=ZcY (fun y ab=>HT.out y (by rw [Yj (by rw [X.out.2.1];omega)];exact ab));clear aa;go_wp2_with fail
   go_ret
   exact ⟨by rw [HM.out];rfl,HB.out⟩
theorem rAt (b:Int) (h:Option Addr) (d m:Nat) (q:ByteArray) (ps:List Pl) (w:World) (R:RowAt w (.slice h d m) d (Ze ps)) (O:ps.length=d) (ab:d≤maxLen) :
  Calls Tryz.prog 78 #[.agg #[.int .i64 b,.slice h d m],.string q] w fun e w'=>e=.returned (.int .i64 (Zay (ps.findIdx? (Zl q))))∧Below w.heap.size w w':=by
 unfold maxLen at ab;have D:Hid (RowAt (w.alloc (Zi b (.slice h d m))) (.slice h d m) d (Ze ps)∧ps.length=d∧(w.alloc (Zi b (.slice h d m))).heap[w.heap.size]?=some (Zi b (.slice h d m))):=⟨R.nx (Zc _ _),O,Zd _ _ rfl⟩;clear R O;go_enter Tryz.func78,Tryz.ntmps78
 go_wp2_with fail
 go_loopw [5] (fun i wr=>∃ k:Nat,k≤d∧i=.int .i64 k∧Hid (∀ y∈ps.take k,(Zl q) y=false)∧Below (w.alloc (Zi b (.slice h d m))).heap.size (w.alloc (Zi b (.slice h d m))) wr) (fun i _=>d - (intOf i).toNat)
 case atStart=>exact ⟨0,Ye _,rfl,by intro y L;simp at L,Yh _ _⟩
 case round =>
  obtain ⟨k,ag,rfl,J,E⟩:=hrel;have I:wr.heap[w.heap.size]?=some (Zi b (.slice h d m)):=(E.block _ (by simp)).trans D.out.2.2;have N:Hid (Below w.heap.size w wr):=Zb (Zc _ _) E;have af:wr.cell? ⟨w.heap.size,1,none⟩=some (.slice h d m):=by simp [World.cell?,I]
  by_cases ac:k<d
  ·obtain ⟨⟨M,ai,aj,ak⟩,A⟩:∃ p,ps[k]?=some p:=⟨_,Yb (by rw [D.out.2.1];exact ac)⟩;obtain ⟨ad,off,aa,ae,Y,c1,c2,c3⟩:=ZJ (D.out.1.nx E) A;subst aa;simp only at Y c1 c2 c3;have ah:(k:Int)<(d:Int):=by omega
   cases Q:(M.toList == q.toList) with
   | true =>
    have U:Hid (ps.findIdx? (Zl q)=some k):=Zdv J.out A (by show (M.toList == q.toList)=true;exact Q);clear A I;go_wp2_with fail
    go_ret
    exact ⟨by rw [U.out];rfl,N.out⟩
   | false =>
    have X:Hid (∀ y∈ps.take (k+1),(Zl q) y=false):=Zbo J.out A (by show (M.toList == q.toList)=false;exact Q);clear A I;go_wp2_with fail
    go_roundw
    case rel=>exact ⟨k+1,by omega,by go_num,X.out,E⟩
    case measure=>simp [intOf];omega
  ·have V:Hid (ps.findIdx? (Zl q)=none):=ZcY (fun y L=>J.out y (by rw [Yj (by rw [D.out.2.1];omega)];exact L));clear I;go_wp2_with fail
   go_ret
   exact ⟨by rw [V.out];rfl,N.out⟩
theorem Zjm (b:Int) (N:Option Addr) (I O:Nat) (ay:Option Addr) (d s2:Nat) (w1:Option Addr) (J U:Nat) (Q:Option Addr) (L R:Nat) (az A:Bool) (nx hb:Int) (D:Option Addr) (M E:Nat) (ax:ByteArray) (ss:List Srv) (w:World) (af:RowAt w (.slice ay d s2) d (Zv ss)) (ad:ss.length=d) (ai:d≤maxLen) :
  Calls Tryz.prog 97 #[.agg #[.int .i64 b,.slice N I O,.slice ay d s2,.slice w1 J U,.slice Q L R,.bool az,.bool A,.int .i64 nx,.int .i64 hb,.slice D M E],.string ax] w fun e w'=>e=.returned (.int .i64 (Zs (Zj ax) ss:Int))∧Below w.heap.size w w':=by
 unfold maxLen at ai;have Y:Hid (RowAt (w.alloc (.cells #[.int .i64 b,.slice N I O,.slice ay d s2,.slice w1 J U,.slice Q L R,.bool az,.bool A,.int .i64 nx,.int .i64 hb,.slice D M E] 46)) (.slice ay d s2) d (Zv ss)∧ss.length=d∧(w.alloc (.cells #[.int .i64 b,.slice N I O,.slice ay d s2,.slice w1 J U,.slice Q L R,.bool az,.bool A,.int .i64 nx,.int .i64 hb,.slice D M E] 46)).heap[w.heap.size]?=some (.cells #[.int .i64 b,.slice N I O,.slice ay d s2,.slice w1 J U,.slice Q L R,.bool az,.bool A,.int .i64 nx,.int .i64 hb,.slice D M E] 46)):=⟨af.nx (Zc _ _),ad,Zd _ _ rfl⟩;clear af ad;go_enter Tryz.func97,Tryz.ntmps97
 go_wp2_with fail
 go_loopw [5,6] (fun q i wr=>∃ k m:Nat,k≤d∧m≤k∧i=.int .i64 k∧q=.int .i64 m∧Hid (Zs (Zj ax) (ss.take k)=m)∧Below (w.alloc (.cells #[.int .i64 b,.slice N I O,.slice ay d s2,.slice w1 J U,.slice Q L R,.bool az,.bool A,.int .i64 nx,.int .i64 hb,.slice D M E] 46)).heap.size (w.alloc (.cells #[.int .i64 b,.slice N I O,.slice ay d s2,.slice w1 J U,.slice Q L R,.bool az,.bool A,.int .i64 nx,.int .i64 hb,.slice D M E] 46)) wr) (fun _ i _=>d - (intOf i).toNat)
 case atStart=>exact ⟨0,0,Ye _,Yd _,rfl,rfl,by show Zs _ _=0;simp [Zs],Yh _ _⟩
 case round =>
  obtain ⟨k,m,au,aw,rfl,rfl,HT,V⟩:=hrel;have aa:wr.heap[w.heap.size]?=some (.cells #[.int .i64 b,.slice N I O,.slice ay d s2,.slice w1 J U,.slice Q L R,.bool az,.bool A,.int .i64 nx,.int .i64 hb,.slice D M E] 46):=(V.block _ (by simp)).trans Y.out.2.2;have HB:Hid (Below w.heap.size w wr):=Zb (Zc _ _) V;have ar:wr.cell? ⟨w.heap.size,2,none⟩=some (.slice ay d s2):=by simp [World.cell?,aa]
  by_cases aj:k<d
  ·obtain ⟨⟨al,ac,am,ao⟩,ab⟩:∃ p,ss[k]?=some p:=⟨_,Yb (by rw [Y.out.2.1];exact aj)⟩;obtain ⟨ap,off,ah,aq,ag,c1,c2,c3⟩:=ZbA (Y.out.1.nx V) ab;subst ah;simp only at ag c1 c2 c3;have av:(k:Int)<(d:Int):=by omega
   have X:=Zg7 (p:=Zj ax) ab;rw [HT.out] at X;cases ae:(ac.toList == ax.toList) with
   | true =>
    have HN:Hid (Zs (Zj ax) (ss.take (k+1))=m+1):=by
     have ak:(Zj ax) ⟨al,ac,am,ao⟩=true:=ae;show _=_;rw [X,if_pos ak]
    clear ab aa X;go_wp2_with fail
    go_roundw
    case rel=>exact ⟨k+1,m+1,by omega,by omega,by go_num,by go_num,HN.out,V⟩
    case measure=>simp [intOf];omega
   | false =>
    have HN:Hid (Zs (Zj ax) (ss.take (k+1))=m):=by
     show _=_;rw [X,if_neg (fun h=>by rw [show (Zj ax) _=(ac.toList == ax.toList) from rfl,ae] at h;simp at h)];rfl
    clear ab aa X;go_wp2_with fail
    go_roundw
    case rel=>exact ⟨k+1,m,by omega,by omega,by go_num,rfl,HN.out,V⟩
    case measure=>simp [intOf];omega
  ·have HM:Hid (Zs (Zj ax) ss=m):=by
    show _=_;rw [←HT.out,Yj (by rw [Y.out.2.1];omega)]
   clear aa;go_wp2_with fail
   go_ret
   exact ⟨by rw [HM.out];rfl,HB.out⟩
theorem Zmg (b:Int) (O:Option Addr) (J Q:Nat) (R:Option Addr) (L s2:Nat) (w1:Option Addr) (d aw:Nat) (U:Option Addr) (M V:Nat) (A D:Bool) (nx hb:Int) (E:Option Addr) (N I:Nat) (av:ByteArray) (ax:List Wtr) (w:World) (af:RowAt w (.slice w1 d aw) d (ZE ax)) (ad:ax.length=d) (ai:d≤maxLen) :
  Calls Tryz.prog 79 #[.agg #[.int .i64 b,.slice O J Q,.slice R L s2,.slice w1 d aw,.slice U M V,.bool A,.bool D,.int .i64 nx,.int .i64 hb,.slice E N I],.string av] w fun e w'=>e=.returned (.int .i64 (Zs (Zq av) ax:Int))∧Below w.heap.size w w':=by
 unfold maxLen at ai;have HR:Hid (RowAt (w.alloc (.cells #[.int .i64 b,.slice O J Q,.slice R L s2,.slice w1 d aw,.slice U M V,.bool A,.bool D,.int .i64 nx,.int .i64 hb,.slice E N I] 46)) (.slice w1 d aw) d (ZE ax)∧ax.length=d∧(w.alloc (.cells #[.int .i64 b,.slice O J Q,.slice R L s2,.slice w1 d aw,.slice U M V,.bool A,.bool D,.int .i64 nx,.int .i64 hb,.slice E N I] 46)).heap[w.heap.size]?=some (.cells #[.int .i64 b,.slice O J Q,.slice R L s2,.slice w1 d aw,.slice U M V,.bool A,.bool D,.int .i64 nx,.int .i64 hb,.slice E N I] 46)):=⟨af.nx (Zc _ _),ad,Zd _ _ rfl⟩;clear af ad;go_enter Tryz.func79,Tryz.ntmps79
 go_wp2_with fail
 go_loopw [5,6] (fun q i wr=>∃ k m:Nat,k≤d∧m≤k∧i=.int .i64 k∧q=.int .i64 m∧Hid (Zs (Zq av) (ax.take k)=m)∧Below (w.alloc (.cells #[.int .i64 b,.slice O J Q,.slice R L s2,.slice w1 d aw,.slice U M V,.bool A,.bool D,.int .i64 nx,.int .i64 hb,.slice E N I] 46)).heap.size (w.alloc (.cells #[.int .i64 b,.slice O J Q,.slice R L s2,.slice w1 d aw,.slice U M V,.bool A,.bool D,.int .i64 nx,.int .i64 hb,.slice E N I] 46)) wr) (fun _ i _=>d - (intOf i).toNat)
 case atStart=>exact ⟨0,0,Ye _,Yd _,rfl,rfl,by show Zs _ _=0;simp [Zs],Yh _ _⟩
 case round =>
  obtain ⟨k,m,aq,au,rfl,rfl,HT,X⟩:=hrel;have aa:wr.heap[w.heap.size]?=some (.cells #[.int .i64 b,.slice O J Q,.slice R L s2,.slice w1 d aw,.slice U M V,.bool A,.bool D,.int .i64 nx,.int .i64 hb,.slice E N I] 46):=(X.block _ (by simp)).trans HR.out.2.2;have HB:Hid (Below w.heap.size w wr):=Zb (Zc _ _) X;have ap:wr.cell? ⟨w.heap.size,3,none⟩=some (.slice w1 d aw):=by simp [World.cell?,aa]
  by_cases aj:k<d
  ·obtain ⟨⟨al,ac⟩,ab⟩:∃ p,ax[k]?=some p:=⟨_,Yb (by rw [HR.out.2.1];exact aj)⟩;obtain ⟨am,off,ah,ao,ag,c1⟩:=Zdd (HR.out.1.nx X) ab;subst ah;simp only at ag c1;have ar:(k:Int)<(d:Int):=by omega
   have Y:=Zg7 (p:=Zq av) ab;rw [HT.out] at Y;cases ae:(ac.toList == av.toList) with
   | true =>
    have HN:Hid (Zs (Zq av) (ax.take (k+1))=m+1):=by
     have ak:(Zq av) ⟨al,ac⟩=true:=ae;show _=_;rw [Y,if_pos ak]
    clear ab aa Y;go_wp2_with fail
    go_roundw
    case rel=>exact ⟨k+1,m+1,by omega,by omega,by go_num,by go_num,HN.out,X⟩
    case measure=>simp [intOf];omega
   | false =>
    have HN:Hid (Zs (Zq av) (ax.take (k+1))=m):=by
     show _=_;rw [Y,if_neg (fun h=>by rw [show (Zq av) _=(ac.toList == av.toList) from rfl,ae] at h;simp at h)];rfl
    clear ab aa Y;go_wp2_with fail
    go_roundw
    case rel=>exact ⟨k+1,m,by omega,by omega,by go_num,rfl,HN.out,X⟩
    case measure=>simp [intOf];omega
  ·have HM:Hid (Zs (Zq av) ax=m):=by
    show _=_;rw [←HT.out,Yj (by rw [HR.out.2.1];omega)]
   clear aa;go_wp2_with fail
   go_ret
   exact ⟨by rw [HM.out];rfl,HB.out⟩
theorem ZtN (b:Int) (Q:Option Addr) (L R:Nat) (m:Option Addr) (d s2:Nat) (w1:Option Addr) (M X:Nat) (U:Option Addr) (N V:Nat) (D E:Bool) (nx hb:Int) (I:Option Addr) (O J:Nat) (q:ByteArray) (h:Bool) (ss:List Srv) (w:World) (ak:RowAt w (.slice m d s2) d (Zv ss)) (aj:ss.length=d) (aq:d≤maxLen) :
  Calls Tryz.prog 142 #[.agg #[.int .i64 b,.slice Q L R,.slice m d s2,.slice w1 M X,.slice U N V,.bool D,.bool E,.int .i64 nx,.int .i64 hb,.slice I O J],.string q,.bool h] w fun e w'=>e=.returned (.int .i64 (Zay (ss.findIdx? (ZU q h))))∧Below w.heap.size w w':=by
 unfold maxLen at aq;have HR:Hid (RowAt (w.alloc (.cells #[.int .i64 b,.slice Q L R,.slice m d s2,.slice w1 M X,.slice U N V,.bool D,.bool E,.int .i64 nx,.int .i64 hb,.slice I O J] 46)) (.slice m d s2) d (Zv ss)∧ss.length=d∧(w.alloc (.cells #[.int .i64 b,.slice Q L R,.slice m d s2,.slice w1 M X,.slice U N V,.bool D,.bool E,.int .i64 nx,.int .i64 hb,.slice I O J] 46)).heap[w.heap.size]?=some (.cells #[.int .i64 b,.slice Q L R,.slice m d s2,.slice w1 M X,.slice U N V,.bool D,.bool E,.int .i64 nx,.int .i64 hb,.slice I O J] 46)):=⟨ak.nx (Zc _ _),aj,Zd _ _ rfl⟩;clear ak aj;go_enter Tryz.func142,Tryz.ntmps142
 go_wp2_with fail
 go_loopw [7] (fun i wr=>∃ k:Nat,k≤d∧i=.int .i64 k∧Hid (∀ y∈ss.take k,(ZU q h) y=false)∧Below (w.alloc (.cells #[.int .i64 b,.slice Q L R,.slice m d s2,.slice w1 M X,.slice U N V,.bool D,.bool E,.int .i64 nx,.int .i64 hb,.slice I O J] 46)).heap.size (w.alloc (.cells #[.int .i64 b,.slice Q L R,.slice m d s2,.slice w1 M X,.slice U N V,.bool D,.bool E,.int .i64 nx,.int .i64 hb,.slice I O J] 46)) wr) (fun i _=>d - (intOf i).toNat)
 case atStart=>exact ⟨0,Ye _,rfl,by intro y ae;simp at ae,Yh _ _⟩
 case round =>
  obtain ⟨k,az,rfl,HT,Y⟩:=hrel;have ab:wr.heap[w.heap.size]?=some (.cells #[.int .i64 b,.slice Q L R,.slice m d s2,.slice w1 M X,.slice U N V,.bool D,.bool E,.int .i64 nx,.int .i64 hb,.slice I O J] 46):=(Y.block _ (by simp)).trans HR.out.2.2;have HB:Hid (Below w.heap.size w wr):=Zb (Zc _ _) Y;have ay:wr.cell? ⟨w.heap.size,2,none⟩=some (.slice m d s2):=by simp [World.cell?,ab]
  by_cases ar:k<d
  ·obtain ⟨⟨al,ac,am,af⟩,aa⟩:∃ p,ss[k]?=some p:=⟨_,Yb (by rw [HR.out.2.1];exact ar)⟩;obtain ⟨aw,off,ap,ax,ao,c1,c2,c3⟩:=ZbA (HR.out.1.nx Y) aa;subst ap;simp only at ao c1 c2 c3;have a0:(k:Int)<(d:Int):=by omega
   have ad:=Y.alloc Y.size (.cells #[.int .i64 al,.string ac,.int .i64 am,.int .i64 af] 86);have ag:=Za (Zb (Zc _ _) ad);cases A:ZU q h ⟨al,ac,am,af⟩ with
   | true =>
    have HH:Hid (ss.findIdx? (ZU q h)=some k):=Zdv HT.out aa A;simp only [ZU,Bool.and_eq_true,Bool.or_eq_true] at A;obtain ⟨a1,au⟩:=A;clear aa ab;cases h with
    | true =>
     go_wp2_with fail
     go_ret
     exact ⟨by rw [HH.out];rfl,ag.out⟩
    | false =>
     have av:(ac.toList == q.toList)=true:=by simpa using au
     go_wp2_with fail
     go_ret
     exact ⟨by rw [HH.out];rfl,ag.out⟩
   | false =>
    have HN:Hid (∀ y∈ss.take (k+1),(ZU q h) y=false):=Zbo HT.out aa A;clear aa ab;cases ah:(af == 0) with
    | false =>
     clear A;go_wp2_with fail
     go_roundw
     case rel=>exact ⟨k+1,by omega,by go_num,HN.out,ad⟩
     case measure=>simp [intOf];omega
    | true =>
     have ai:h=false:=by cases h <;> simp [ZU,ah] at A ⊢
     have av:(ac.toList == q.toList)=false:=by simpa [ZU,ah,ai] using A
     subst ai;clear A;go_wp2_with fail
     go_roundw
     case rel=>exact ⟨k+1,by omega,by go_num,HN.out,ad⟩
     case measure=>simp [intOf];omega
  ·have HM:Hid (ss.findIdx? (ZU q h)=none):=ZcY (fun y ae=>HT.out y (by rw [Yj (by rw [HR.out.2.1];omega)];exact ae));clear ab;go_wp2_with fail
   go_ret
   exact ⟨by rw [HM.out];rfl,HB.out⟩
end Lw
namespace Df
open Co Lw
theorem Zo8 {α:Type} {p:α→Bool} {l:List α} {i:Nat} (h:l.findIdx? p=some i):∃ x,l[i]?=some x∧l.find? p=some x∧l.any p=true:=by
 rw [List.findIdx?_eq_some_iff_getElem] at h;obtain ⟨d,m,q⟩:=h;refine ⟨l[i],Yb d,ZeS (k:=i) ?_ (Yb d) m,Zpd (Yb d) m⟩;intro y A;obtain ⟨j,D,rfl⟩:=List.mem_take_iff_getElem.1 A;have:=q j (by omega);simpa using this
theorem Zks {α:Type} {p:α→Bool} {l:List α} (d:l.findIdx? p=none):l.find? p=none∧l.any p=false:=by
 rw [List.findIdx?_eq_none_iff] at d;exact ⟨ZfN d,ZoW d⟩
theorem Zdm (b:Int) (q:Option Addr) (n m:Nat) (d:ByteArray) (ps:List Pl) (w:World) (R:RowAt w (.slice q n m) n (Ze ps)) (Q:ps.length=n) (ac:n≤maxLen) :
  Calls Tryz.prog 132 #[.agg #[.int .i64 b,.slice q n m],.string d] w fun e w'=>e=.returned (.tuple #[plA (inP ps d),.bool (ps.any (Zl d))])∧Below w.heap.size w w':=by
 obtain ⟨W,J⟩:∃ W,W=(w.alloc (Zi b (.slice q n m))).alloc (ZF zPl):=⟨_,rfl⟩;have O:Below w.heap.size w W:=by rw [J];exact Zb (Zc _ _) (Zc _ _)
 have I:=Za (rAt b q n m d ps W (R.nx O) Q ac);have h:Hid (W=(w.alloc (Zi b (.slice q n m))).alloc (ZF zPl)∧W.heap[w.heap.size]?=some (Zi b (.slice q n m))∧W.heap[w.heap.size+1]?=some (ZF zPl)∧w.heap.size+2=W.heap.size∧Below w.heap.size w W):=by
  refine ⟨J,?_,?_,?_,O⟩
  ·rw [J];exact (Zn _ _ (by simp)).trans (Zd _ _ rfl)
  ·rw [J];exact Zd _ _ (by simp)
  ·rw [J];simp
 have X:Hid (RowAt w (.slice q n m) n (Ze ps)∧ps.length=n):=⟨R,Q⟩;unfold maxLen at ac;clear R Q J O;cases D:ps.findIdx? (Zl d) with
 | none =>
  have L:Hid (inP ps d=⟨d,0,0,0⟩∧ps.any (Zl d)=false):=⟨by rw [inP,(Zks D).1],(Zks D).2⟩;rw [D] at I;clear D;go_enter Tryz.func132,Tryz.ntmps132
  go_wp2_with fail
  rw [←h.out.1];refine I.out.mono ?_;rintro e w1 ⟨rfl,A⟩;have E:w1.heap[w.heap.size+1]?=some (ZF zPl):=(A.block _ (by have:=h.out.2.2.2.1;omega)).trans h.out.2.2.1;have M:=Za (Zb h.out.2.2.2.2 A);have V:w.heap.size+1<w1.heap.size:=(Ya.1 E).1;obtain ⟨N,c1,c2,c3,ah⟩:=ZbK (Yh w1.heap.size w1) V E;clear A I E;unfold Zay;go_wp2_with fail
  refine bodyPost_ret (v:=.tuple #[plA ⟨d,0,0,0⟩,.bool false]) (by simp [results,Tryz.results132,go_sem,N,c1,c2,c3]) rfl ⟨by rw [L.out.1,L.out.2],?_⟩;exact (((M.out.setCell (by show w.heap.size≤w.heap.size+1;omega) _).setCell (by show w.heap.size≤w.heap.size+1;omega) _).setCell (by show w.heap.size≤w.heap.size+1;omega) _).setCell (by show w.heap.size≤w.heap.size+1;omega) _
 | some i =>
  obtain ⟨⟨ad,ae,af,ag⟩,U,ab,aa⟩:=Zo8 D;have au:i<n:=by rw [←X.out.2];exact (Yc.1 U).1
  have av:(i:Int)<(n:Int):=by omega
  have L:Hid (inP ps d=⟨ad,ae,af,ag⟩∧ps.any (Zl d)=true):=⟨by rw [inP,ab],aa⟩;rw [D] at I;clear D ab aa;go_enter Tryz.func132,Tryz.ntmps132
  go_wp2_with fail
  rw [←h.out.1];refine I.out.mono ?_;rintro e w1 ⟨rfl,A⟩;have Y:w1.heap[w.heap.size]?=some (Zi b (.slice q n m)):=(A.block _ (by have:=h.out.2.2.2.1;omega)).trans h.out.2.1;have E:w1.heap[w.heap.size+1]?=some (ZF zPl):=(A.block _ (by have:=h.out.2.2.2.1;omega)).trans h.out.2.2.1;have M:=Za (Zb h.out.2.2.2.2 A);have V:w.heap.size+1<w1.heap.size:=(Ya.1 E).1;obtain ⟨N,c1,c2,c3,ah⟩:=ZbK (Yh w1.heap.size w1) V E;obtain ⟨al,am,ao⟩:=Zw Y;obtain ⟨ap,off,ak,ar,ai,aj,d2,d3⟩:=ZJ (X.out.1.nx M.out) U;subst ak;simp only at ai aj d2 d3;clear A I E Y U;have aq:¬(i:Int)<0:=by omega
  unfold Zay;go_wp2_with fail
  refine bodyPost_ret (v:=.tuple #[plA ⟨ad,ae,af,ag⟩,.bool true]) (by simp [results,Tryz.results132,go_sem,N,c1,c2,c3]) rfl ⟨by rw [L.out.1,L.out.2],?_⟩;exact (((M.out.setCell (by show w.heap.size≤w.heap.size+1;omega) _).setCell (by show w.heap.size≤w.heap.size+1;omega) _).setCell (by show w.heap.size≤w.heap.size+1;omega) _).setCell (by show w.heap.size≤w.heap.size+1;omega) _
theorem Zf6 (ba:Int) (h:Option Addr) (n d:Nat) (bb:Int) (q:Option Addr) (m A:Nat) (w:World):∃ W:World,Hid (W=(w.alloc (Zi ba (.slice h n d))).alloc (Zi bb (.slice q m A))∧W.heap[w.heap.size]?=some (Zi ba (.slice h n d))∧W.heap[w.heap.size+1]?=some (Zi bb (.slice q m A))∧w.heap.size+2=W.heap.size∧Below w.heap.size w W):=by
 refine ⟨_,rfl,?_,?_,?_,Zb (Zc _ _) (Zc _ _)⟩
 ·exact (Zn _ _ (by simp)).trans (Zd _ _ rfl)
 ·exact Zd _ _ (by simp)
 ·simp
theorem Ze0 {w W wr:World} {d:List Stp} {j:Nat} {D:Option Addr} {vc:Nat} (A:Below w.heap.size w W) (h:d.length=j∧wr.ownsRow W.heap.size 84 3 (.slice D j vc) j (Zo d)∧Below W.heap.size W wr):GaveS w wr d (.returned (.slice D j vc)):=by
 obtain ⟨rfl,m,q⟩:=h;exact ⟨D,vc,rfl,Zf m,ZaO m,Zb A q⟩
theorem Zqe {ps:List Pl} {d E:ByteArray} {A I J:Int} {q:Bool} (m:inP ps d=⟨E,A,I,J⟩) (L:ps.any (Zl d)=q) (h:q=false):A=0:=by
 rw [h] at L;have:ps.find? (Zl d)=none:=by
  rw [List.find?_eq_none];exact List.any_eq_false.1 L
 rw [inP,this] at m;injection m with _ D _ _
 exact D.symm
end Df
end Go.Proofs.YtmgkcbdlfodjmaaGreatDoor
