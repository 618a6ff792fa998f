import Derived.Test.YtmgkcbdlfodjmaaGreatDoorBqAi
import Derived.Test.YtmgkcbdlfodjmaaGreatDoorRows
import Derived.Test.YtmgkcbdlfodjmaaGreatDoorCards
import Derived.Test.YtmgkcbdlfodjmaaGreatDoorTie
import Derived.ProofKit
import Derived.OpenShut
import Derived.Deep.Slices
import Derived.Deep.DeepHandedRow
import Derived.Lib.LaidTab
import Derived.SizedLaws
import Derived.JoinedCond
set_option maxRecDepth 100000
set_option maxHeartbeats 16000000
namespace Go.Proofs.YtmgkcbdlfodjmaaGreatDoor
open Go.RowKit
namespace Lw
open Co
theorem ZmK {S:Zh} {h:ZB} {A:Int×List Pl} {k:Nat} (d:PlI S h A) (m:Lw.pot (S,h.op)≤k) (O:k≤1073741824):RefOk S h.op A∧Zjy S∧Zlz S:=by
 have q:=d.good.fine.inv;obtain ⟨g,D⟩:=d.pln;have E:=q.len;have I:=q.op0;have J:=D.tab.len;have L:=d.plan;have M:=m;have N:=d.y;unfold Lw.pot at m;simp only at m;refine ⟨⟨⟨q,by omega,by omega⟩,by omega,by omega,by omega,by omega⟩,⟨?_,?_,?_,?_⟩,⟨?_,?_,?_,?_⟩⟩ <;> (try unfold maxLen) <;> omega
theorem ZsD {nm:ByteArray} (d:ZW nm=true):nm.size≤maxLen:=by
 simp [ZW] at d;unfold maxLen;omega
theorem Znn {b:Int} {ps:List Pl} (d:Okt b ps):ps.length≤1000∧∀ p∈ps,p.nm.size≤maxLen:=⟨Ym d.len (by omega),fun p h=>ZsD (d.ok p h).nm⟩
theorem ZhF {S:Zh} {d:ZB} {q:Int×List Pl} (h:PlI S d q):S.pools.length≤1000∧∀ p∈S.pools,p.nm.size≤maxLen:=by
 obtain ⟨g,m⟩:=h.pln;exact Znn m.tab
theorem Zro (s:ByteArray) (d:(Z7 s).err≠0):(Z7 s).tab=(0,[]):=by
 unfold Z7 at d ⊢;by_cases h:1000<s.size
 ·rw [if_pos h]
 ·rw [if_neg h] at d ⊢;by_cases m:(rd s).err≠0
  ·rw [if_pos m]
  ·rw [if_neg m] at d ⊢;by_cases q:(chE (rd s).lines).1≠0
   ·rw [if_pos q]
   ·rw [if_neg q] at d;exact absurd rfl d
theorem ZhL (s:ByteArray):(Z7 s).tab.2.length≤1000∧∀ p∈(Z7 s).tab.2,p.nm.size≤maxLen:=by
 by_cases d:(Z7 s).err=0
 ·exact Znn (ZeQ s d)
 ·rw [Zro s d];exact ⟨Ye _,fun p h=>by simp at h⟩
theorem Alls.more {B:Nat} {w:World} {m:Nat} {q:Value} {h:List Two} {F:Nat→Prop} {A D E k:Nat} (d:Alls B w m q h F A D E k):Alls B w m q h F A D E (k+1):=
 ⟨d.own,d.run,d.pli,fun p I=>by have:=d.pot p I;omega,d.apart,d.base,d.f,d.row,d.lf⟩
theorem Alls.none {w:World} {D:Nat} (h:w.heap[D]?=some (bOw (.slice none 0 0) (.slice none 0 0) (.slice none 0 0) (.slice none 0 0))) {B:Nat} (m:B≤D):Alls B w D (.slice none 0 0) [] (fun y=>y=D) 0 0 0 0:=
 ⟨ZrW h,fun p d=>by simp at d,fun p d=>by simp at d,fun p d=>by simp at d,fun i j p q d=>by simp at d,fun p d=>by simp at d,fun y A=>by rw [A];exact m,Yq _ _ _ _,fun g E=>by simp [Value.ownBlock] at E⟩
theorem Zr0 (c:Int) (d:Nat) (w:World) (J:0<d) (L:d≤4611686018427387904) (E:-9223372036854775808≤c) (I:c≤9223372036854775807) :
  Calls Tryz.prog 5 #[.int .i64 c,.int .i64 d] w fun e A=>∃ j:Nat,j<d∧e=.returned (.int .i64 (j:Int))∧A=w:=by
 have q:((d:Nat):Int)≠0:=by omega
 go_enter Tryz.func5,Tryz.ntmps5
 by_cases D:c<0
 ·have hd:0≤-(c+1):=by omega
  have e:-((c+1).tmod (d:Int))=((((-(c+1)) % (d:Int)).toNat:Nat):Int):=by
   rw [Int.toNat_of_nonneg (Int.emod_nonneg _ q),←Int.tmod_eq_emod_of_nonneg hd,Int.neg_tmod]
  have m:((-(c+1)) % (d:Int)).toNat<d:=by
   have:=Int.emod_lt_of_pos (-(c+1)) (b:=(d:Int)) (by omega);omega
  have h:=Za e;clear e hd;go_wp2_with fail
  go_ret
  exact ⟨_,m,by rw [h.out];rfl,rfl⟩
 ·have e:c % (d:Int)=(((c % (d:Int)).toNat:Nat):Int):=(Int.toNat_of_nonneg (Int.emod_nonneg _ q)).symm;have m:(c % (d:Int)).toNat<d:=by
   have:=Int.emod_lt_of_pos c (b:=(d:Int)) (by omega);omega
  have h:=Za e;clear e;go_wp2_with fail
  go_ret
  exact ⟨_,m,by rw [←h.out];rfl,rfl⟩
theorem Zrh:(Tryz.prog.info? 33).map (fun i=>(i.zero,i.size,i.bytes))=some (some (.pointer none),1,8):=by kernel_rfl
theorem ZrV (bc:List Opr) (ao:Option Addr) (n ac:Nat) (w:World) (dl:RowAt w (.slice ao n ac) n (ZhN bc)) (dc:bc.length=n) (dq:∀ x∈bc,x.s.size≤maxLen∧-9223372036854775808≤x.b∧x.b≤9223372036854775807) (e1:n≤1073741823) (dr:Pr.Tab w) :
  Calls Tryz.prog 3 #[.slice ao n ac] w fun e w'=>e=.returned (.bool true)∧Below w.heap.size w w':=by
 obtain ⟨W,hW⟩:∃ W,W=w.alloc (bOw (.slice none 0 0) (.slice none 0 0) (.slice none 0 0) (.slice none 0 0)):=⟨_,rfl⟩;have cy:Below w.heap.size w W:=by rw [hW];exact Zc _ _
 obtain ⟨d,b8⟩:∃ d,w.heap.size=d:=⟨_,rfl⟩;have HI:Hid (Alls d W d (.slice none 0 0) [] (fun y=>y=d) 0 0 0 0∧Below d w W):=⟨Alls.none (by rw [hW,←b8];exact Zd _ _ rfl) (Yd _),by rw [←b8];exact cy⟩;have KW:Hid (W=w.alloc (bOw (.slice none 0 0) (.slice none 0 0) (.slice none 0 0) (.slice none 0 0))):=hW;have bv:=Za b8;have HR:Hid (RowAt w (.slice ao n ac) n (ZhN bc)∧bc.length=n):=⟨dl,dc⟩;have dx:=Za dq;have HT:=Za dr;clear dl dc dq dr hW cy b8;go_enter Tryz.func3,Tryz.ntmps3
 go_upto_region 3 with fail
 rw [←KW.out,bv.out];go_wp2_with fail
 go_loopw [3,5,6,7,8,9,10,11,12] (fun l i a1 a2 a3 a4 a5 a6 a7 wr=>∃ (k:Nat),k≤n∧i=.int .i64 k∧∃ (ad:Option Addr) (e7 J:Nat),l=.slice ad e7 J∧Hid (∃ e9 F m q e8,Alls d wr d (.slice ad e7 J) e9 F m q e8 (k)∧(e9.length=e7∧e7≤k)∧(m≤3*(k)∧q≤3*(k)∧e8≤3*(k))∧Below d w wr)) (fun _ i _ _ _ _ _ _ _ _=>n - (intOf i).toNat)
 case atStart=>exact ⟨0,Ye _,rfl,none,0,0,rfl,[],_,0,0,0,HI.out.1,⟨rfl,Yd _⟩,⟨Yd _,Yd _,Yd _⟩,HI.out.2⟩
 case round =>
  obtain ⟨k,e0,rfl,ad,e7,J,rfl,HS⟩:=hrel;obtain ⟨e9,F,m,q,e8,av,⟨fb,cj⟩,fd,al⟩:=HS.out;by_cases ci:k<n
  ·have c9:(k:Int)<(n:Int):=by omega
   obtain ⟨⟨kd,A,B,t⟩,I⟩:∃ p,bc[k]?=some p:=⟨_,Yb (by rw [HR.out.2];exact ci)⟩;have c0:Below w.heap.size w wr:=by rw [bv.out];exact al
   obtain ⟨bl,off,dz,ce,cs,c1,c2,c3⟩:=ZtG (HR.out.1.nx c0) I;obtain ⟨cl,cu,cv⟩:=dx.out _ (Yo I);subst dz;simp only at cs c1 c2 c3 cl cu cv;have hB:d≤wr.heap.size:=Nat.le_of_lt (av.own.lt _ av.own.go);obtain ⟨Q,bk⟩:∃ Q,Q=wr.alloc (bOp kd A B t):=⟨_,rfl⟩;have b1:Below wr.heap.size wr Q:=by rw [bk];exact Zc _ _
   have M:Hid (Alls d Q d (.slice ad e7 J) e9 F m q e8 k):=av.below b1 hB;obtain ⟨V,b7⟩:∃ V,wr.heap.size=V:=⟨_,rfl⟩;have L:Hid (Q=wr.alloc (bOp kd A B t)∧Q.heap[V]?=some (bOp kd A B t)∧V<Q.heap.size∧Below d w Q∧d≤Q.heap.size):=⟨bk,by rw [bk,←b7];exact Zd _ _ rfl,by rw [bk,←b7];simp,al.trans (b1.mono hB),Ym hB b1.size⟩;have HZ:Hid ((∀ y,F y→y<V)∧∀ p∈e9,∀ y,Zd0 p y→y<V):=by rw [←b7];exact ⟨av.own.lt,fun p I y bt=>ZeU (av.run p I) bt⟩
   have ea:e7≤1073741823:=by omega
   have ak:=Za (And.intro fb cj);have bg:=Za fd;have bx:=Za cl;have cr:Hid (∀ v,Below d w v→Pr.Tab v):=fun v ed=>HT.out.nx (by rw [bv.out];exact ed)
   clear I al c0 av bk b1 hB fb cj fd cl;go_upto_region 7 with fail
   rw [←L.out.1];clear cs c1 c2 c3 ce b7;obtain ⟨aq,ar,b2,b3⟩:=Zbq L.out.2.1;by_cases a9:(kd == 9)=true∨(((e7:Nat):Int) == 0)=true
   ·have d1:(kd == 9)=true∨((kd == 9)=false∧(((e7:Nat):Int) == 0)=true):=by
     cases b0:(kd == 9) with
     | true=>exact .inl rfl
     | false =>
      rw [b0] at a9;exact .inr ⟨rfl,a9.resolve_left (by simp)⟩
    clear a9;rcases d1 with b0 | ⟨b0,dt⟩
    all_goals
     have ca:=Za (ZoF t Q bx.out);have dw:=Za (fun h=>ZeQ t h);go_wp2_with fail
     refine ca.out.mono ?_;rintro e fe ⟨ct,rfl,cg,ax,⟨b6,b,e6,nx,I⟩ | ⟨b6,dy,du,ek,vc,nx,I,hd,hF,de,dh,dd,eb⟩⟩
     ·obtain ⟨em,eo,ep,er,es,et,eu,ev⟩:=ZhW I;have HN:Hid (∃ e9 F m q e8,Alls d fe d (.slice ad e7 J) e9 F m q e8 (k+1)∧(e9.length=e7∧e7≤k+1)∧(m≤3*(k+1)∧q≤3*(k+1)∧e8≤3*(k+1))∧Below d w fe):=by
       have R:=ak.out;have ag:=bg.out;exact ⟨e9,F,m,q,e8,(M.out.below ax L.out.2.2.2.2).more,⟨R.1,by omega⟩,by omega,L.out.2.2.2.1.trans (ax.mono L.out.2.2.2.2)⟩
      clear I ax b6 ca aq ar b2 b3 cg;go_wp2_with fail
      go_roundw
      case rel=>exact ⟨k+1,by omega,by go_num,ad,e7,J,rfl,HN.out⟩
      case measure=>simp [intOf];omega
     ·subst eb;obtain ⟨em,eo,ep,er,es,et,eu,ev⟩:=ZhW I;obtain ⟨dp,db⟩:=Zop M.out.own ax cg I hd hF de dh dd;obtain ⟨dj,dk⟩:=Zoh (dw.out b6);have bw:=Za (And.intro dp (And.intro db (And.intro dj dk)));have dv:=Za ax;have dm:fe.ownsRow d 33 1 (.slice ad e7 J) e7 (e9.map ZdP):=by
       have:=(M.out.below ax L.out.2.2.2.2).row;rw [ak.out.1] at this;exact this
      have ey:d≤fe.heap.size:=Ym L.out.2.2.2.2 ax.size;obtain ⟨ej,d6,eg,eh,ei⟩:=info_parts Zrh;clear I hd hF de dh dd b6 dp db dj dk ca ax aq ar b2 b3 cg;go_wp2_with (at_builtin;refine wpList_append_own_at _ rfl (.tmp 48) (.tmp 50) 23 rfl d 33 ej _ 1 8 Tryz.underlying23 d6 eg eh ei rfl (by decide) _ _ _ rfl (dm.alloc _) ⟨fe.heap.size,0,none⟩ 1 1 [.pointer (some ⟨ct,0,none⟩)] rfl rfl (cell_one_new _ _ _) (by intro u ds;simp at ds;subst ds;rfl) (by unfold maxLen;omega) (by omega) (by simp;omega) ?next)
      case next =>
       intro v' aj ck c7 _ cx;obtain ⟨co,cm,ee,_⟩:=Zf ck;subst ee;have HN:Hid (∃ e9 F m q e8,Alls d aj d (.slice co (e7+1) cm) e9 F m q e8 (k+1)∧(e9.length=e7+1∧e7+1≤k+1)∧(m≤3*(k+1)∧q≤3*(k+1)∧e8≤3*(k+1))∧Below d w aj):=by
        have R:=ak.out;have ag:=bg.out;have d0:Chg (fun y=>(Value.slice ad e7 J).ownBlock=some y) fe aj:=(Chg.of_below (Zc _ _)).trans (Chg.grown c7 (fun y bt=>bt)) (fun y bt=>.inl bt);obtain ⟨au,bz⟩:=M.out.add (p:=Zmr (Z7 t) ct dy du ek vc) (lv':=.slice co (e7+1) cm) L.out.2.2.2.2 dv.out bw.out.1 bw.out.2.1 bw.out.2.2.1 (by have:=bw.out.2.2.2;show Lw.pot (Zc2 (Z7 t),0)≤_;omega) d0 (by rw [R.1];exact ck) (fun g cf=>by
         rcases cx with h | h
         ·exact .inl (by rw [←h];exact cf)
         ·rw [h] at cf;simp at cf;exact .inr (by omega))
        exact ⟨_,F,m,q,e8,au.more,⟨by rw [List.length_append,R.1];rfl,by omega⟩,by omega,L.out.2.2.2.1.trans bz⟩
       clear ck c7 cx dm;go_wp2_with fail
       go_roundw
       case rel=>exact ⟨k+1,by omega,by go_num,co,e7+1,cm,rfl,HN.out⟩
       case measure=>simp [intOf];omega
   ·have b0:(kd == 9)=false:=Bool.eq_false_iff.2 (fun h=>a9 (.inl h));have dt:(((e7:Nat):Int) == 0)=false:=Bool.eq_false_iff.2 (fun h=>a9 (.inr h));clear a9;have d8:0<e7:=by
     rw [beq_eq_false_iff_ne] at dt;omega
    have cq:=Za (Zr0 B e7 Q d8 (by omega) cu cv);go_wp2_with fail
    refine cq.out.mono ?_;rintro e fe ⟨j,c8,rfl,ef⟩;obtain rfl:=ef.symm;have ez:(j:Int)<(e7:Int):=by omega
    obtain ⟨p,I⟩:∃ p,e9[j]?=some p:=⟨_,Yb (by rw [ak.out.1];exact c8)⟩;have ah:=Yo I;have bq:RowAt Q (.slice ad e7 J) e7 (e9.map ZdP):=by have:=Zf M.out.row;rw [ak.out.1] at this;exact this
    obtain ⟨bh,bu,ch,cz,a8⟩:=bq.at (show (e9.map ZdP)[j]?=some (ZdP p) by rw [List.getElem?_map,I];rfl);subst ch;unfold ZdP at a8;obtain ⟨b9,br,bm⟩:=ZmK (M.out.pli p ah) (M.out.pot p ah) (by have:=ak.out.2;omega);have ec:=bg.out;have bf:=Za (Zjd p.gx p.gp d p.S p.X p.Fp F p.u m q e8 Q (M.out.run p ah).seen br bm (by omega));have cc:=Za (Zqx p.gx p.gp d p.S p.X p.Y p.Fp (Zld F (.slice (some ⟨bh,bu,none⟩) e7 J) e9 j) p.u p.ho p.hc m q e8 Q kd A B t (M.out.at I) (M.out.pli p ah) b9 bx.out);have HP:=Za (And.intro I ah);clear I ah bq b9 br bm cq ec;cases ew:(kd == 8) with
    | true =>
     go_wp2_with fail
     refine bf.out.mono ?_;rintro e N ⟨rfl,ae,ai,aw,am⟩;have HV:Hid (∃ af E ae aa ab fa,Alls d N d (.slice (some ⟨bh,bu,none⟩) e7 J) af ae aa ab fa (k+1)∧af.length=e7∧af[j]?=some E∧E.gx=p.gx∧(aa≤3*k+2∧ab≤3*k+2∧fa≤3*k+2)∧N.heap[V]?=some (bOp kd A B t)∧Below d w N):=by
      obtain ⟨R,ag⟩:=M.out.looked am ai aw L.out.2.2.2.2;have au:=bg.out;exact ⟨e9,p,ae,m+2,q+2,e8+2,R.more,ak.out.1,HP.out.1,rfl,by omega,(am.block V L.out.2.2.1 (fun a0=>by have:=HZ.out.1 V a0;omega)).trans L.out.2.1,L.out.2.2.2.1.trans ag⟩
     clear ai aw am aq ar b2 b3 a8 cz bf cc;obtain ⟨af,E,ae,aa,ab,fa,O,bp,bo,bs,ay,ai,az⟩:=HV.out;have ap:=Yo bo;have bi:d≤N.heap.size:=Nat.le_of_lt (O.own.lt _ O.own.go);have d9:=ak.out.2;have be:=Za (ZkQ E.gx E.gp d E.S E.X E.Y E.Fp ae E.u E.ho E.hc aa ab fa N kd A B t (O.run E ap) (by omega) (by omega) bx.out (cr.out N az) (ZhF (O.pli E ap)).1 (ZhF (O.pli E ap)).2 (ZhL t).1 (ZhL t).2);rw [bs] at be;have U:=Za (And.intro O (And.intro bp (And.intro ay (And.intro az bi))));obtain ⟨aq,ar,b2,b3⟩:=Zbq ai;clear O bp bo bs ay ai az ap bi HV;go_wp2_with fail
     refine be.out.mono ?_;rintro e aj ⟨rfl,bd,fc,bj,ff⟩;have HN:Hid (∃ e9 F m q e8,Alls d aj d (.slice (some ⟨bh,bu,none⟩) e7 J) e9 F m q e8 (k+1)∧(e9.length=e7∧e7≤k+1)∧(m≤3*(k+1)∧q≤3*(k+1)∧e8≤3*(k+1))∧Below d w aj):=by
      obtain ⟨R,ag⟩:=U.out.1.looked ff fc bj U.out.2.2.2.2;have au:=U.out.2.2.1;exact ⟨af,bd,aa+1,ab,fa+1,R,⟨U.out.2.1,by omega⟩,by omega,U.out.2.2.2.1.trans ag⟩
     have cb:=Za (Zhw d bd (aa+1) ab (fa+1) aj fc (by have au:=U.out.2.2.1;omega));clear fc bj ff aq ar b2 b3;go_wp2_with fail
     refine cb.out.mono ?_;rintro e el ⟨rfl,cd⟩;obtain rfl:=cd.symm;go_wp2_with fail
     go_roundw
     case rel=>exact ⟨k+1,by omega,by go_num,_,e7,J,rfl,HN.out⟩
     case measure=>simp [intOf];omega
    | false =>
     go_wp2_with fail
     refine cc.out.mono ?_;rintro e N ⟨rfl,D,X',Z,cp,u',df,c6,ay,aw,am,cw,di⟩;have HV:Hid (∃ af E ae aa ab fa,Alls d N d (.slice (some ⟨bh,bu,none⟩) e7 J) af ae aa ab fa (k+1)∧af.length=e7∧af[j]?=some E∧E.gx=p.gx∧(aa≤3*k+2∧ab≤3*k+2∧fa≤3*k+2)∧N.heap[V]?=some (bOp kd A B t)∧Below d w N):=by
      obtain ⟨R,ag⟩:=M.out.played (p':=⟨p.gx,p.gp,D,X',Z,cp,u',df,c6⟩) HP.out.1 rfl ay aw am cw di L.out.2.2.2.2;have au:=bg.out;have d7:=(Yc.1 HP.out.1).1;exact ⟨_,⟨p.gx,p.gp,D,X',Z,cp,u',df,c6⟩,F,m,q,e8,R,by rw [List.length_set];exact ak.out.1,List.getElem?_set_self d7,rfl,by omega,(am.block V L.out.2.2.1 (fun a0=>by
       have bz:=HZ.out.2 p HP.out.2;rcases a0 with a0 | a0
       ·have:=bz V (.inl a0);omega
       ·have:=bz V (.inr (.inl a0));omega)).trans L.out.2.1,L.out.2.2.2.1.trans ag⟩
     clear ay aw am cw di aq ar b2 b3 a8 cz bf cc;obtain ⟨af,E,ae,aa,ab,fa,O,bp,bo,bs,ay,ai,az⟩:=HV.out;have ap:=Yo bo;have bi:d≤N.heap.size:=Nat.le_of_lt (O.own.lt _ O.own.go);have d9:=ak.out.2;have be:=Za (ZkQ E.gx E.gp d E.S E.X E.Y E.Fp ae E.u E.ho E.hc aa ab fa N kd A B t (O.run E ap) (by omega) (by omega) bx.out (cr.out N az) (ZhF (O.pli E ap)).1 (ZhF (O.pli E ap)).2 (ZhL t).1 (ZhL t).2);rw [bs] at be;have U:=Za (And.intro O (And.intro bp (And.intro ay (And.intro az bi))));obtain ⟨aq,ar,b2,b3⟩:=Zbq ai;clear O bp bo bs ay ai az ap bi HV;go_wp2_with fail
     refine be.out.mono ?_;rintro e aj ⟨rfl,bd,fc,bj,ff⟩;have HN:Hid (∃ e9 F m q e8,Alls d aj d (.slice (some ⟨bh,bu,none⟩) e7 J) e9 F m q e8 (k+1)∧(e9.length=e7∧e7≤k+1)∧(m≤3*(k+1)∧q≤3*(k+1)∧e8≤3*(k+1))∧Below d w aj):=by
      obtain ⟨R,ag⟩:=U.out.1.looked ff fc bj U.out.2.2.2.2;have au:=U.out.2.2.1;exact ⟨af,bd,aa+1,ab,fa+1,R,⟨U.out.2.1,by omega⟩,by omega,U.out.2.2.2.1.trans ag⟩
     have cb:=Za (Zhw d bd (aa+1) ab (fa+1) aj fc (by have au:=U.out.2.2.1;omega));clear fc bj ff aq ar b2 b3;go_wp2_with fail
     refine cb.out.mono ?_;rintro e el ⟨rfl,cd⟩;obtain rfl:=cd.symm;go_wp2_with fail
     go_roundw
     case rel=>exact ⟨k+1,by omega,by go_num,_,e7,J,rfl,HN.out⟩
     case measure=>simp [intOf];omega
  ·obtain rfl:k=n:=by omega
   have HE:Hid (Alls d wr d (.slice ad e7 J) e9 F m q e8 k∧e9.length=e7∧(m≤3*k+2*0∧q≤3*k+2*0∧e8≤3*k+2*0)∧Below d w wr):=⟨av,fb,by omega,al⟩;have ea:e7≤1073741823:=by omega
   clear av fb cj fd al;go_wp2_with fail
   go_loopw [13,14] (fun i c wr=>∃ (j:Nat),j≤e7∧i=.int .i64 j∧Hid (∃ F m q e8,Alls d wr d (.slice ad e7 J) e9 F m q e8 k∧e9.length=e7∧(m≤3*k+2*j∧q≤3*k+2*j∧e8≤3*k+2*j)∧Below d w wr)) (fun i _ _=>e7 - (intOf i).toNat)
   case atStart=>exact ⟨0,Ye _,rfl,F,m,q,e8,HE.out⟩
   case round =>
    obtain ⟨j,c8,rfl,HS⟩:=hrel;obtain ⟨F,m,q,e8,hA,fb,fd,al⟩:=HS.out;by_cases ci:j<e7
    ·have c9:(j:Int)<(e7:Int):=by omega
     obtain ⟨p,I⟩:∃ p,e9[j]?=some p:=⟨_,Yb (by rw [fb];exact ci)⟩;have ah:=Yo I;have bq:RowAt wr (.slice ad e7 J) e7 (e9.map ZdP):=by have:=Zf hA.row;rw [fb] at this;exact this
     obtain ⟨bl,off,ch,ce,a8⟩:=bq.at (show (e9.map ZdP)[j]?=some (ZdP p) by rw [List.getElem?_map,I];rfl);subst ch;unfold ZdP at a8;obtain ⟨b9,br,bm⟩:=ZmK (hA.pli p ah) (hA.pot p ah) (by omega);have bf:=Za (Zjd p.gx p.gp d p.S p.X p.Fp F p.u m q e8 wr (hA.run p ah).seen br bm (by omega));have M:=Za hA;have HB:=Za al;have HQ:=Za (And.intro fb fd);clear I ah bq hA al b9 br bm fb fd;go_wp2_with fail
     refine bf.out.mono ?_;rintro e N ⟨rfl,ae,ai,aw,am⟩;have HN:Hid (∃ F m q e8,Alls d N d (.slice (some ⟨bl,off,none⟩) e7 J) e9 F m q e8 k∧e9.length=e7∧(m≤3*k+2*(j+1)∧q≤3*k+2*(j+1)∧e8≤3*k+2*(j+1))∧Below d w N):=by
      obtain ⟨R,ag⟩:=M.out.looked am ai aw (Nat.le_of_lt (M.out.own.lt _ M.out.own.go));have au:=HQ.out.2;exact ⟨ae,m+2,q+2,e8+2,R,HQ.out.1,by omega,HB.out.trans ag⟩
     clear ai aw am a8 ce;go_wp2_with fail
     go_roundw
     case rel=>exact ⟨j+1,by omega,by go_num,HN.out⟩
     case measure=>simp [intOf];omega
    ·have HB:=Za al;have c9:¬(j:Int)<(e7:Int):=by omega
     clear hA al fb fd;go_wp2_with fail
     go_ret
     exact ⟨rfl,by rw [bv.out];exact HB.out⟩
end Lw
namespace Lw
open Go.ChangeShapes Go.WideShapes Go.ChangeAt Go.RowKit Go.ChangeMaps
open Co
theorem Zt9:ownKnob Tryz.prog.godebug=none:=by kernel_rfl
theorem ZpK:laidOutB Tryz.prog=true:=by kernel_rfl
theorem Znu:Tryz.prog.cellsOf 32=4:=by kernel_rfl
theorem ZgR:Tryz.prog.cellsOf 3=1:=by kernel_rfl
theorem Zom:Tryz.prog.cellsOf 9=1:=by kernel_rfl
theorem Zo0 {n:Int} (d:(Lit.int .i64 n).wf=true):-9223372036854775808≤n∧n≤9223372036854775807:=by
 simp only [Lit.wf,Bool.and_eq_true,decide_eq_true_eq] at d;have h:IntKind.min .i64=-9223372036854775808:=by decide
 have e2:IntKind.max .i64=9223372036854775807:=by decide
 rw [h,e2] at d;exact d
section
variable {H:Type} {enc:TypeId×Value→H} {W:World}
theorem Zq7 {α:Type} (l:List α) (h:l.length=4):∃ a b c d,l=[a,b,c,d]:=by
 match l,h with
 | [a,b,c,d],_=>exact ⟨a,b,c,d,rfl⟩
theorem Zrv {n:Nat} {m:List Value} {y:DataW H×List MemPlace} (h:DataW.trod enc Tryz.prog W 0 (fun _=>true) true n 32 m=some y) :
  ∃ x:Opr,m=[.int .i64 x.k,.int .i64 x.a,.int .i64 x.b,.string x.s]∧x.s.size≤maxLen∧-9223372036854775808≤x.b∧x.b≤9223372036854775807:=by
 obtain ⟨X,Y,_,_,D,O,d⟩:=DataW.trod_struct Tryz.underlying32 h;rw [Znu] at D;obtain ⟨E,c1,c2,c3,rfl⟩:=Zq7 m D;obtain ⟨Q,R,U,V,rfl⟩:=Zq7 X O;have I:DataW.trod enc Tryz.prog W 0 (fun _=>true) true Y 3 [E]=some Q:=by
  have:=d 0 _ rfl;simpa [ZgR] using this
 have J:DataW.trod enc Tryz.prog W 0 (fun _=>true) true Y 3 [c1]=some R:=by
  have:=d 1 _ rfl;simpa [ZgR] using this
 have f2:DataW.trod enc Tryz.prog W 0 (fun _=>true) true Y 3 [c2]=some U:=by
  have:=d 2 _ rfl;simpa [ZgR] using this
 have L:DataW.trod enc Tryz.prog W 0 (fun _=>true) true Y 9 [c3]=some V:=by
  have:=d 3 _ rfl;simpa [Zom] using this
 obtain ⟨a,A,_,_⟩:=DataW.trod_int Tryz.underlying3 I;obtain ⟨b,e2,_,_⟩:=DataW.trod_int Tryz.underlying3 J;obtain ⟨c,e3,_,M⟩:=DataW.trod_int Tryz.underlying3 f2;obtain ⟨s,q,_,N⟩:=DataW.trod_string Tryz.underlying9 L;simp only [List.cons.injEq,and_true] at q A e2 e3;subst q A e2 e3;exact ⟨⟨a,b,c,s⟩,rfl,N,Zo0 M⟩
theorem ZmC {ae:Nat} {v:Value} {d:DataW H} {p:List MemPlace} (am:Value.okWide Tryz.prog W .any ae 22 v) (h:DataW.Trod enc Tryz.prog W 0 (fun _=>true) true 22 v d p) :
  ∃ (ax:Option Addr) (n c:Nat) (N:List Opr),v=.slice ax n c∧RowAt W (.slice ax n c) n (ZhN N)∧N.length=n∧(n=0∨∃ e ao,d=.slice e ao∧e.length=n)∧∀ x∈N,x.s.size≤maxLen∧-9223372036854775808≤x.b∧x.b≤9223372036854775807:=by
 obtain ⟨ax,n,c,rfl⟩:=okWide_slice Tryz.underlying22 am;obtain ⟨ar,ay⟩:=h;rcases Deep.open_slice Tryz.underlying22 ay with ⟨q,_⟩ | ⟨a,len,O,M,k,D,Pm,q,_,aj,av,Y,aw,X⟩
 ·have A:Value.slice ax n c=.slice none 0 0:=by simpa [Value.cells] using q
  obtain ⟨rfl,rfl,rfl⟩:ax=none∧n=0∧c=0:=by simpa using A
  exact ⟨none,0,0,[],rfl,Zdb _ _ _,rfl,.inl rfl,fun x aw=>by simp at aw⟩
 ·have A:Value.slice ax n c=.slice (some a) len O:=by simpa [Value.cells] using q
  obtain ⟨rfl,rfl,rfl⟩:ax=some a∧n=len∧c=O:=by simpa using A
  simp only [if_true] at Y;subst Y;rw [Znu] at X;have ah:∀ i,i<n→∃ x:Opr,W.cell? (a.add (i*4))=some (.int .i64 x.k)∧W.cell? ((a.add (i*4)).add 1)=some (.int .i64 x.a)∧W.cell? ((a.add (i*4)).add 2)=some (.int .i64 x.b)∧W.cell? ((a.add (i*4)).add 3)=some (.string x.s)∧x.s.size≤maxLen∧-9223372036854775808≤x.b∧x.b≤9223372036854775807:=by
   intro i E;obtain ⟨aq,q,A⟩:=X i (by omega);obtain ⟨x,rfl,al⟩:=Zrv A;obtain ⟨_,_,J⟩:=World.cells?_some q;have Q:=J 0 (by omega);have R:=J 1 (by omega);have U:=J 2 (by omega);have V:=J 3 (by omega);simp only [List.getElem?_cons_zero,List.getElem?_cons_succ] at Q R U V;refine ⟨x,?_,R,U,V,al⟩;simpa [Addr.add] using Q
  have:Inhabited Opr:=⟨⟨0,0,0,⟨#[]⟩⟩⟩;obtain ⟨f,ay⟩:=Deep.choose_lt ah;refine ⟨some a,n,M,(List.range n).map f,rfl,?_,by simp,.inr ⟨(List.range n).map D,(List.range (M - n)).map fun j=>D (n+j),?_,by simp⟩,fun x aw=>?_⟩
  ·refine ⟨some a,M,rfl,aj,?_⟩;by_cases ag:n=0
   ·subst ag;exact .inl (by simp [ZhN])
   ·obtain ⟨af,off,ap⟩:=a;have I:=(ay 0 (by omega)).1;have ak:ap=none:=by simpa [Addr.add] using World.cell?_spot I
    subst ak;refine .inr ⟨af,off,rfl,?_,fun j x aw=>?_⟩
    ·have hb:=block_lt_of_cell I;simpa [Addr.add] using hb
    ·have au:j<n*4:=by
      have:=(Yc.1 aw).1;rw [ZhN,Zhf fOp 4 (fun _=>rfl)] at this;simpa using this
     have E:j / 4<n:=by omega
     have aa:=Zla fOp 4 (fun _=>rfl) ((List.range n).map f) (j / 4) (f (j / 4)) (by rw [List.getElem?_map,List.getElem?_range E];rfl) (j % 4) (by omega);have ai:j / 4*4+j % 4=j:=by omega
     rw [ai] at aa;have L:(fOp (f (j / 4)))[j % 4]?=some x:=aa.symm.trans aw;obtain ⟨I,ab,ac,ad,_⟩:=ay (j / 4) E;simp only [add_plain] at I ab ac ad;have m:j % 4=0∨j % 4=1∨j % 4=2∨j % 4=3:=by omega
     rcases m with m | m | m | m <;> rw [m] at L <;> simp [fOp] at L <;> subst L
     ·have:off+j=off+j / 4*4:=by omega
      rw [this];exact I
     ·have:off+j=off+j / 4*4+1:=by omega
      rw [this];exact ab
     ·have:off+j=off+j / 4*4+2:=by omega
      rw [this];exact ac
     ·have:off+j=off+j / 4*4+3:=by omega
      rw [this];exact ad
  ·have:=congrArg Prod.fst aw;exact this
  ·obtain ⟨i,E,rfl⟩:=List.mem_map.1 aw;exact (ay i (List.mem_range.1 E)).2.2.2.2
theorem Zp2 (l:List (DataW H)):l.length≤Rows.uptoBulkAll l:=by
 induction l with
 | nil=>simp [Rows.uptoBulkAll]
 | cons x r ih =>
  have:1≤Rows.uptoBulk x:=by
   cases x with
   | lit l=>cases l <;> simp [Rows.uptoBulk]
   | nil=>simp [Rows.uptoBulk]
   | ptr d=>simp [Rows.uptoBulk]
   | slice D A=>simp [Rows.uptoBulk]
   | agg q=>simp [Rows.uptoBulk]
   | iface t d=>simp [Rows.uptoBulk]
   | map m=>simp [Rows.uptoBulk]
   | held h=>simp [Rows.uptoBulk]
  simp only [Rows.uptoBulkAll,List.length_cons];omega
end
theorem gTab:Tryz.prog.globalNamed "internal/strconv.uint64pow10" = some 0:=by kernel_rfl
theorem gTabType:(Tryz.prog.globals[0]?).map (·.type)=some 236:=by kernel_rfl
theorem Zp5:Tryz.prog.cellsOf 236=20:=by kernel_rfl
theorem Zqj:Tryz.prog.cellsOf 230=1:=by kernel_rfl
theorem ZqT:(Rows.laid_internal_strconv_uint64pow10:DataW Unit)=Lib.tabData .u64 Lib.pow10Tab:=by kernel_rfl
theorem ZqC {W:World} (h:laidMetH Tryz.prog Rows.allUptoRow.laid W):Pr.Tab W:=by
 have h':laidMet Tryz.prog [("math/bits.deBruijn32tab",Rows.laid_math_bits_deBruijn32tab),("math/bits.deBruijn64tab",Rows.laid_math_bits_deBruijn64tab),("internal/strconv.uint64pow10",Rows.laid_internal_strconv_uint64pow10)] W:=h;obtain ⟨ps,⟨_,_,_,_,_,_,_,_,_,_,⟨_,_,_,_,_,_,_,_,_,_,⟨g,t,cs,fuel,p,q,hg,ht,hvar,hd,_,_⟩,_⟩,_⟩,_⟩:=h';obtain rfl:=Option.some.inj (gTab.symm.trans hg);obtain rfl:=Option.some.inj (gTabType.symm.trans ht);rw [ZqT] at hd;unfold Pr.Tab Lib.TabIs;rw [hvar,←Lib.cells_of_tab Tryz.underlying236 Tryz.underlying230 Zqj Zp5 hd]
theorem ZlB (H:Type) (enc:TypeId×Value→H) (W:World) (base:Nat) (args:Array Value) (d au:List (DataW H)) (U:List MemPlace)
  (N:∀ (j:Nat) t v,Tryz.f3.params[j]?=some t→args[j]?=some v→Value.okWide Tryz.prog W .any base t v)
  (I:DataW.Whole enc Tryz.prog Tryz.f3.params.toList Rows.allSpec.vars false W args.toList d au U) (M:Rows.uptoSmall H (d++au)=true) (X:laidMetH Tryz.prog Rows.allUptoRow.laid W) :
  Calls Tryz.prog 3 args W fun e m=>∃ v,e=.returned v∧Rows.allSpec.post enc Tryz.prog Tryz.f3 false true false false W args v m:=by
 have ar:=I;obtain ⟨p,q,E,Y,rfl,ak,am⟩:=I;have D:DataW.TrodAll enc Tryz.prog W 0 (fun _=>true) true Tryz.f3.params.toList args.toList d p:=E;rw [Tryz.params3] at D N;obtain ⟨Q,aq,V,ai,O,ao,aj,rfl,rfl,A,ah⟩:=trodAll_cons D;obtain ⟨rfl,rfl,rfl⟩:=trodAll_nil ah;obtain rfl:args=#[Q]:=by cases args;simp_all
 obtain ⟨rfl,rfl⟩:=trodVars_none Y;have ac:=N 0 22 Q rfl rfl;obtain ⟨R,n,c,ag,rfl,ad,ab,hd,ae⟩:=ZmC ac A;clear E;simp only [List.append_nil] at ar M;have J:Rows.uptoBulkAll [V]≤1048576:=of_decide_eq_true M;have al:n≤1048576:=by
  rcases hd with h | ⟨e,ap,hd,L⟩
  ·omega
  ·rw [hd] at J;simp only [Rows.uptoBulkAll,Rows.uptoBulk] at J;have:=Zp2 e;omega
 have aa:∀ x∈O,x.block<W.heap.size:=fun x af=>ar.lt x (by simp [af])
 refine (ZrV ag R n c W ad ab ae (by omega) (ZqC X)).mono fun e m ⟨L,hb⟩=>?_
 subst L;refine ⟨_,rfl,_,_,_,[],O++[],[],ar,?_,?_,rfl,hb.frame _,fun h=>by cases h⟩
 ·exact trodAll_cons_mk (shut_bool Tryz.underlying4 _) trodAll_mk0
 ·exact trodAll_cons_mk (Below.trod ZpK (by kernel_rfl) (of_decide_eq_true (by kernel_rfl)) A hb aa) trodAll_mk0
def put (cs:Array Value):Obj→Obj
 | .cells _ t frozen=>.cells cs t frozen
 | o=>o
theorem wit (d:Os) {H:Type} (enc:TypeId×Value→H):∃ w0:World,w0.os=d ∧
  (w0.forCall (fun _ _=>0) ⟨#[],#[.slice none 0 0],[]⟩).variablesB Tryz.checked.prog=true ∧
  ((w0.forCall (fun _ _=>0) ⟨#[],#[.slice none 0 0],[]⟩).heap.toList.drop Tryz.checked.prog.globals.size).take ((begin Tryz.checked.prog (fun _ _=>0) default).world.heap.size - Tryz.checked.prog.globals.size) =
   (begin Tryz.checked.prog (fun _ _=>0) default).world.heap.toList.drop Tryz.checked.prog.globals.size ∧
  Input.okWideB Tryz.checked.prog (w0.forCall (fun _ _=>0) ⟨#[],#[.slice none 0 0],[]⟩) 3 ⟨#[],#[.slice none 0 0],[]⟩=true ∧
  laidMet Tryz.prog Rows.allUptoRow.laid (w0.forCall (fun _ _=>0) ⟨#[],#[.slice none 0 0],[]⟩).memory ∧
  ∃ h,DataW.whole enc Tryz.prog (w0.forCall (fun _ _=>0) ⟨#[],#[.slice none 0 0],[]⟩).memory Tryz.f3.params.toList Rows.allSpec.vars false #[Value.slice none 0 0].toList 8=some ([.nil],[],h):=
 ⟨{World.holding Tryz.prog d ⟨#[],#[],[]⟩ with heap:=(((World.holding Tryz.prog d ⟨#[],#[],[]⟩).heap.modify 0 (put ((List.range 20).map fun i=>Value.int .u64 ((10 ^ i:Nat):Int)).toArray)).modify 1 (put ([0,1,28,2,29,14,24,3,30,22,20,15,25,17,4,8,31,27,13,23,21,19,16,7,26,12,18,6,11,5,10,9].map (Value.int .u8)).toArray)).modify 2 (put ([0,1,56,2,57,49,28,3,61,58,42,50,38,29,17,4,62,47,59,36,45,43,51,22,53,39,33,30,24,18,12,5,63,55,48,27,60,41,37,16,46,35,44,21,52,32,23,11,54,26,40,15,34,20,31,10,25,14,19,9,13,8,7,6].map (Value.int .u8)).toArray)},
  rfl,by kernel_rfl,by kernel_rfl,by kernel_rfl,laidMet_of_run' 8 (by kernel_rfl) (by kernel_rfl),[],by kernel_rfl⟩
theorem Zs4 (d:Os) (U:d.Started) (H:Type) (enc:TypeId×Value→H) (F:Stop.Interp) :
  ReturnsInHanded {} Tryz.checked d 3 .any ((Rows.OpenSpec.upto Rows.allSpec).preRow enc Tryz.prog Tryz.f3 Rows.allUptoRow.domain false Rows.allUptoRow.laid) (((Rows.OpenSpec.upto Rows.allSpec).at F).post enc Tryz.prog Tryz.f3 false true false false):=by
 obtain ⟨w0,M,N,O,Q,R,V,L⟩:=wit d enc;refine returnsInHanded_of_row (C:=Tryz.checked) (s:=Rows.OpenSpec.upto Rows.allSpec) Zt9 U (by kernel_rfl) Tryz.func3
  (witness_row_at (enc:=enc) (C:=Tryz.checked) false w0 #[.slice none 0 0] M N O Q
   (OpenSpec.preRow_of_cond 8 L (by kernel_rfl) (fun k I=>by cases I;kernel_rfl) (by kernel_rfl) R)) ?_
 intro W base args m q h J D _ E _ A _ _;exact ZlB H enc W base args m q h J D (E _ rfl) A
theorem said:Rows.AllUptoSaid:=
 OpenClaim.holds_of_cond 3 Tryz.f3 rfl rfl rfl rfl rfl rfl rfl ⟨rfl,rfl,rfl,rfl,rfl⟩ rfl rfl rfl rfl rfl (by kernel_rfl) Tryz.func3 (by kernel_rfl)
  (of_decide_eq_true (by kernel_rfl)) (by unfold Func.isWrapper;first | (rw [if_pos (by decide +kernel)];kernel_rfl) | (rw [if_neg (by decide +kernel)];exact ⟨rfl,rfl⟩))
  (fun d h H enc _ F=>by rw [OpenClaim.pre_eq_preRow];exact Zs4 d h H enc F)
theorem plain (f:FuncId) (fn:Func) (hf:Tryz.pinned.checked.prog.funcNamed "pooler/poolerlaw.All" = some f) (hfn:Tryz.pinned.checked.prog.funcs[f]?=some fn) :
  false=Tryz.pinned.checked.prog.looks []∧∀ (j:Nat) t,fn.params[j]?=some t→Tryz.pinned.checked.prog.wantsStandIn t=false:=by
 obtain rfl:f=3:=Option.some.inj ((show Tryz.prog.funcNamed "pooler/poolerlaw.All" = some 3 by kernel_rfl).symm.trans hf) |>.symm;obtain rfl:fn=Tryz.f3:=(Option.some.inj (Tryz.func3.symm.trans hfn)).symm;refine ⟨by kernel_rfl,fun j t ht=>?_⟩;rw [Tryz.params3] at ht;obtain rfl:t=22:=by simpa using Array.mem_of_getElem? ht
 exact (show Tryz.prog.wantsStandIn 22=false by kernel_rfl)
end Lw
theorem all_upto_card:Rows.AllUptoCardSaid:=
 Claim7.holds_tied_plain_at .later [] _ _ _ _ Lw.said (fun _ d=>by cases d) (by kernel_rfl) (fun _ d=>by cases d) allUpto_row_tie rfl ⟨rfl,rfl⟩ (by kernel_rfl) rfl Lw.plain (by kernel_rfl)
#print axioms all_upto_card
end Go.Proofs.YtmgkcbdlfodjmaaGreatDoor
