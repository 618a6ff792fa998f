import Derived.Test.YtmgkcbdlfodjmaaGreatDoorBqQ
import Derived.Laws.OwnMore
import Derived.Lib.OwnKind
set_option maxRecDepth 100000
set_option maxHeartbeats 16000000
namespace Go.Proofs.YtmgkcbdlfodjmaaGreatDoor
open Go.RowKit
namespace Lw
open Co
def Zc4 (id c:Int) (x:Srv):Srv:=if x.id=id then {x with client:=c} else x
def Zcr (id c:Int) (ss:List Srv) (k:Nat):List Srv:=(ss.take k).map (Zc4 id c)++ss.drop k
theorem Zkp:∀ (l:List Srv) (i:Nat) (x:Srv) (c:Int),l[i]?=some x→(Zv l).set (i*4+3) (.int .i64 c)=Zv (l.set i {x with client:=c})
 | [],i,x,c,d=>by simp at d
 | y :: l,0,x,c,d=>by
  obtain rfl:y=x:=by simpa using d
  rfl
 | y :: l,i+1,x,c,d=>by
  have ih:=Zkp l i x c (by simpa using d);have e:(i+1)*4+3=(i*4+3)+1+1+1+1:=by omega
  rw [e];show fSv y++(Zv l).set (i*4+3) (.int .i64 c)=fSv y++Zv (l.set i {x with client:=c});rw [ih]
theorem Zpm {ss:List Srv} {k:Nat} {x:Srv} (d c:Int) (h:ss[k]?=some x):(Zcr d c ss k)[k]?=some x∧Zcr d c ss (k+1)=(Zcr d c ss k).set k (Zc4 d c x):=by
 obtain ⟨q,e⟩:=Yc.1 h;have m:((ss.take k).map (Zc4 d c)).length=k:=by simp;omega
 have hd:ss.drop k=x :: ss.drop (k+1):=by rw [List.drop_eq_getElem_cons q,e]
 unfold Zcr;constructor
 ·rw [List.getElem?_append_right (by omega),m,hd];simp
 ·rw [List.set_append_right _ _ (by omega),m,hd,Yk q,e];simp
theorem Zok (B A:Nat) (b:Int) (N:Option Addr) (J M:Nat) (so:Option Addr) (d sc:Nat) (wo:Option Addr) (L wc:Nat) (op:Int) (q:WyV) (be c:Int) (ss:List Srv) (w:World) (ad:w.heap[A]?=some (ZG b N J M so d sc wo L wc op q)) (ah:w.ownsRow B 86 4 (.slice so d sc) d (Zv ss)) (af:ss.length=d) (bc:d≤1099511627776) :
  Calls Tryz.prog 126 #[.pointer (some ⟨A,0,none⟩),.int .i64 be,.int .i64 c] w fun e Y=>(∃ x,e=.returned x)∧Y.heap[A]?=some (ZG b N J M so d sc wo L wc op q)∧Y.ownsRow B 86 4 (.slice so d sc) d (Zv (ss.map (Zc4 be c)))∧Chg (fun y=>(Value.slice so d sc).ownBlock=some y) w Y:=by
 have E:Hid (w.ownsRow B 86 4 (.slice so d sc) d (Zv ss)∧ss.length=d∧w.heap[A]?=some (ZG b N J M so d sc wo L wc op q)):=⟨ah,af,ad⟩;clear ah af ad;go_enter Tryz.func126,Tryz.ntmps126
 go_wp2_with fail
 go_loopw [6] (fun i wr=>∃ (k:Nat),k≤d∧i=.int .i64 k∧Hid (wr.heap[A]?=some (ZG b N J M so d sc wo L wc op q)∧wr.ownsRow B 86 4 (.slice so d sc) d (Zv (Zcr be c ss k))∧Chg (fun y=>(Value.slice so d sc).ownBlock=some y) w wr)) (fun i _=>d - (intOf i).toNat)
 case atStart=>exact ⟨0,Ye _,rfl,E.out.2.2,by simpa [Zcr] using E.out.1,Chg.refl _ _⟩
 case round =>
  obtain ⟨k,a8,rfl,m⟩:=hrel;have hd:=m.out.1;obtain ⟨ax,ay,az,a0,a1,a6⟩:=ZS hd;by_cases ao:k<d
  ·obtain ⟨⟨bf,aa,ab,ac⟩,ag⟩:∃ p,ss[k]?=some p:=⟨_,Yb (by rw [E.out.2.1];exact ao)⟩;have R:=Zpm be c ag;obtain ⟨I,off,ak,a7,ai,c1,c2,c3⟩:=ZbA (Zf m.out.2.1) R.1;subst ak;have X:Hid (off=0∧A≠I):=by
    refine ⟨?_,?_⟩
    ·rcases m.out.2.1.2 with ⟨Q,_⟩ | ⟨g',ar,av,Q,_⟩
     ·simp at Q
     ·simp at Q;exact Q.1.2
    ·intro e;obtain ⟨au,aw,ae⟩:=Go.Lib.ownsRow_kind m.out.2.1 I rfl;rw [←e,m.out.1] at ae;simp [ZG] at ae
   have bd:∀ a,wr.frozen? ⟨I,a,none⟩=false:=by
    have h:=m.out.2.1;rw [X.out.1] at h;exact fun a=>h.frozenAt a
   simp only at ai c1 c2 c3;have a9:(k:Int)<(d:Int):=by omega
   have O:Hid ((Zcr be c ss k)[k]?=some ⟨bf,aa,ab,ac⟩∧Zcr be c ss (k+1)=(Zcr be c ss k).set k (Zc4 be c ⟨bf,aa,ab,ac⟩)):=R;clear ag hd R;by_cases D:bf=be
   ·have al:(bf == be)=true:=by rw [beq_iff_eq];exact D
    have U:Hid (bf=be):=D;clear D;go_wp2_with fail
    go_roundw
    case rel =>
     refine ⟨k+1,by omega,by go_num,?_,?_,?_⟩
     ·exact (Yf _ _ _ _ X.out.2).trans m.out.1
     ·have h:=m.out.2.1;have e:=X.out.1;subst e;rw [O.out.2,Zc4,if_pos U.out,←Zkp _ _ _ _ O.out.1];have:=(h.stored (k*4+3) (.int .i64 c)).1;simpa using this
     ·exact m.out.2.2.trans (Chg.set (F:=fun y=>y=I) wr I _ _ rfl) (fun y aq=>.inl (by rw [aq];rfl))
    case measure=>simp [intOf];omega
   ·have al:(bf == be)=false:=by rw [beq_eq_false_iff_ne];exact D
    have U:Hid (¬bf=be):=D;clear D;go_wp2_with fail
    go_roundw
    case rel =>
     refine ⟨k+1,by omega,by go_num,m.out.1,?_,m.out.2.2⟩;rw [O.out.2,Zc4,if_neg U.out];have:(Zcr be c ss k).set k ⟨bf,aa,ab,ac⟩=Zcr be c ss k:=by
      obtain ⟨am,e⟩:=Yc.1 O.out.1;rw [←e];exact List.set_getElem_self am
     rw [this];exact m.out.2.1
    case measure=>simp [intOf];omega
  ·have HE:Zcr be c ss k=ss.map (Zc4 be c):=by
    have ap:ss.take k=ss:=Yj (by rw [E.out.2.1];omega);have aj:ss.drop k=[]:=List.drop_eq_nil_of_le (by rw [E.out.2.1];omega);unfold Zcr;rw [ap,aj,List.append_nil]
   have V:Hid (wr.heap[A]?=some (ZG b N J M so d sc wo L wc op q)∧wr.ownsRow B 86 4 (.slice so d sc) d (Zv (ss.map (Zc4 be c)))∧Chg (fun y=>(Value.slice so d sc).ownBlock=some y) w wr):=by
    rw [←HE];exact m.out
   clear hd HE;go_wp2_with fail
   refine bodyPost_end (v:=.tuple #[]) (by simp [results,Tryz.results126,go_sem]) rfl ?_;exact ⟨⟨_,rfl⟩,V.out.1,V.out.2.1,V.out.2.2⟩
theorem ZrM {w:World} {L:Array Oper} {rest:List Oper} {o:Oper} {a:Act} {J:Exit→Act→World→Prop} (m E:TypeId) (sz A:Nat) (z:Value) (aa:(Tryz.prog.info? m).map (fun i=>(i.zero,i.size,i.bytes))=some (some z,sz,A)) (ak:Tryz.prog.underlying E=some (.slice m)) (aq:z.cells.size=sz) (aj:0<sz) (V:A≤64)
  (X:o.guard=none) (s x:Operand) (ae:o.op=.call {callee:=.builtin .append,args:=#[s,x],argTypes:=#[E,E]}) (base:Nat)
  (v:Value) (n:Nat) (I:List Value) (ai:a.eval s=v) (ag:w.ownsRow base m sz v n I)
  (b off:Nat) (d c:Nat) (av:List Value) (al:a.eval x=.slice (some ⟨b,off,none⟩) d c) (ad:av.length=d*sz) (ah:RowAt w (.slice (some ⟨b,off,none⟩) d c) d av) (af:∀ u∈av,u.oneCell'=true) (ac:0<d)
  (Q:n+d≤1099511627776) (U:base≤w.heap.size)
  (h:∀ g D q,q.ownsRow base m sz (.slice (some ⟨g,0,none⟩) (n+d) D) (n+d) (I++av)→w.grownBy q v.ownBlock→(v.ownBlock=some g∨g=w.heap.size)→wpList Tryz.prog L J rest (a.put o.dst (.slice (some ⟨g,0,none⟩) (n+d) D)) q):wpList Tryz.prog L J (o :: rest) a w:=by
 obtain ⟨ar,Y,am,ao,ap⟩:=info_parts aa;refine wpList_plain X fun _ R=>wp_append_lies w s x E ae base m ar z sz A ak Y am ao ap aq aj v n I ai ag ⟨b,off,none⟩ d c av al ad ?_ af ac (by unfold maxLen;omega) ?_ U _ rfl fun g D q M N O _=>R _ _ (h g D q M N O)
 ·intro j u ab;obtain ⟨b',au,e,_,g⟩:=ah.at ab;simp only [Option.some.injEq,Addr.mk.injEq,and_true] at e;obtain ⟨rfl,rfl⟩:=e;rw [show (⟨b,off,none⟩:Addr).add j=⟨b,off+j,none⟩ by unfold Addr.add;split <;> simp_all];exact g
 ·have:(n+d)*A≤1099511627776*64:=Nat.mul_le_mul Q V;omega
theorem Chg.grown {F:Nat→Prop} {w m:World} {h:Option Nat} (d:w.grownBy m h) (hF:∀ y,h=some y→F y):Chg F w m:=
 ⟨d.os,d.tape,d.output,d.size,fun y A q=>d.block y A (fun e=>q (hF y e.symm))⟩
theorem Zpc (B ax:Nat) (b:Int) (L:Option Addr) (E J:Nat) (so:Option Addr) (I sc:Nat) (wo:Option Addr) (d wc:Nat) (op:Int) (q:WyV) (c:Int) (p:ByteArray) (ay:List Wtr) (w:World) (D:w.heap[ax]?=some (ZG b L E J so I sc wo d wc op q)) (ab:w.ownsRow B 88 2 (.slice wo d wc) d (ZE ay)) (hB:B≤w.heap.size) (ao:d+1≤1099511627776) :
  Calls Tryz.prog 122 #[.pointer (some ⟨ax,0,none⟩),.int .i64 c,.string p] w fun e U=>(∃ x,e=.returned x)∧∃ g vc,U.heap[ax]?=some (ZG b L E J so I sc (some ⟨g,0,none⟩) (d+1) vc op q)∧U.ownsRow B 88 2 (.slice (some ⟨g,0,none⟩) (d+1) vc) (d+1) (ZE (ay++[⟨c,p⟩]))∧Chg (fun y=>y=ax∨(Value.slice wo d wc).ownBlock=some y) w U∧((Value.slice wo d wc).ownBlock=some g∨w.heap.size≤g):=by
 have aj:ax<w.heap.size:=(Ya.1 D).1;obtain ⟨ad,ae,af,ag,ah,ai⟩:=ZS D;have A:Hid (w.ownsRow B 88 2 (.slice wo d wc) d (ZE ay)∧w.heap[ax]?=some (ZG b L E J so I sc wo d wc op q)):=⟨ab,D⟩;clear ab D;go_enter Tryz.func122,Tryz.ntmps122
 go_wp2_with (at_builtin;refine ZrM 88 41 2 24 _ Zmo Tryz.underlying41 rfl (by decide) (by decide) rfl (.tmp 10) (.tmp 14) rfl B _ d (ZE ay) rfl (A.out.1.alloc _) w.heap.size 0 1 1 [.int .i64 c,.string p] rfl rfl (ZaM w [.int .i64 c,.string p] _ 1 rfl) (by intro u ac;simp at ac;rcases ac with rfl | rfl <;> rfl) (by decide) (by omega) (by simp;omega) ?next)
 case next =>
  intro g V M aa Q R;have O:Hid (ax≠g∧M.heap[ax]?=some (ZG b L E J so I sc wo d wc op q)):=by
   have Y:∀ y,(Value.slice wo d wc).ownBlock=some y→ax≠y:=by
    intro y m e;obtain ⟨al,am,X⟩:=Go.Lib.ownsRow_kind A.out.1 y m;rw [←e,A.out.2] at X;simp [ZG] at X
   refine ⟨?_,?_⟩
   ·rcases R with h | h
    ·exact Y g h
    ·(first | omega | (simp [World.alloc] at h;omega))
   ·refine (Q.block ax (by simp;omega) (fun e=>Y ax e.symm rfl)).trans ?_;exact ((Zc w _).block ax aj).trans A.out.2
  obtain ⟨ap,aq,ar,au,av,aw⟩:=ZS O.out.2;have N:Hid (M.ownsRow B 88 2 (.slice (some ⟨g,0,none⟩) (d+1) V) (d+1) (ZE (ay++[⟨c,p⟩]))∧Chg (fun y=>(Value.slice wo d wc).ownBlock=some y) w M∧((Value.slice wo d wc).ownBlock=some g∨w.heap.size≤g)):=by
   refine ⟨?_,?_,?_⟩
   ·unfold ZE;rw [List.flatMap_append];exact aa
   ·exact (Chg.of_below (Zc w _)).trans (Chg.grown (F:=fun y=>(Value.slice wo d wc).ownBlock=some y) Q (fun y m=>m)) (fun y m=>.inl m)
   ·rcases R with h | h
    ·exact .inl h
    ·exact .inr (by first | omega | (simp [World.alloc] at h;omega))
  clear aa Q R ad ae af ag ah ai;go_wp2_with fail
  refine bodyPost_end (v:=.tuple #[]) (by simp [results,Tryz.results122,go_sem]) rfl ?_;refine ⟨⟨_,rfl⟩,g,V,?_,?_,?_,N.out.2.2⟩
  ·exact Zm _ _ _ _ _ _ O.out.2
  ·exact Zz N.out.1 (fun j ak=>Yf _ _ _ _ (by show j≠ax;intro e;exact O.out.1 (by have:g=j:=(by simpa [Value.ownBlock] using ak);omega)))
  ·exact (N.out.2.1.mono (fun y m=>.inr m)).trans (Chg.set (F:=fun y=>y=ax) M ax 3 _ rfl) (fun y m=>.inl (.inl m))
theorem Zsv {g n c j d:Nat} (m:(Value.slice (some ⟨g,0,none⟩) n c).ownBlock=some j) (h:d≠g):j≠d:=by
 have e:g=j:=by simpa [Value.ownBlock] using m
 omega
theorem ZaE {w:World} {g:Nat} {d c1 c2 c3:Value} {t:TypeId} (h:w.heap[g]?=some (.cells #[d,c1,c2,c3] t (0,0))) :
  w.cell? ⟨g,0,none⟩=some d∧w.cell? ⟨g,1,none⟩=some c1∧w.cell? ⟨g,2,none⟩=some c2∧w.cell? ⟨g,3,none⟩=some c3∧∀ a,w.frozen? ⟨g,a,none⟩=false:=by
 refine ⟨?_,?_,?_,?_,fun a=>?_⟩ <;> simp [World.cell?,World.frozen?,h]
theorem ZoE (B d:Nat) (b:Int) (L:Option Addr) (E J:Nat) (so:Option Addr) (bt sc:Nat) (wo:Option Addr) (I wc:Nat) (op:Int) (q:WyV) (nm:ByteArray) (aa s2 s3:Int) (c:Int) (ss:List Srv) (w:World) (V:w.heap[d]?=some (ZG b L E J so bt sc wo I wc op q)) (aj:w.ownsRow B 86 4 (.slice so bt sc) bt (Zv ss)) (hB:B≤w.heap.size) (bs:bt+1≤1099511627776) (br:0≤op∧op<9223372036854775807) :
  Calls Tryz.prog 184 #[.pointer (some ⟨d,0,none⟩),.agg #[.string nm,.int .i64 aa,.int .i64 s2,.int .i64 s3],.int .i64 c] w fun e w'=>(∃ x,e=.returned x)∧∃ g vc,w'.heap[d]?=some (ZG b L E J (some ⟨g,0,none⟩) (bt+1) vc wo I wc (op+1) q)∧w'.ownsRow B 86 4 (.slice (some ⟨g,0,none⟩) (bt+1) vc) (bt+1) (Zv (ss++[⟨op+1,nm,s3,c⟩]))∧Chg (fun y=>y=d∨(Value.slice so bt sc).ownBlock=some y) w w'∧((Value.slice so bt sc).ownBlock=some g∨w.heap.size≤g):=by
 have a0:d<w.heap.size:=(Ya.1 V).1;have bq:¬d=w.heap.size:=by omega
 have hA:∀ o,(w.alloc o).heap[d]?=some (ZG b L E J so bt sc wo I wc op q):=fun o=>((Zc w o).block d a0).trans V
 have a3:∀ o,(w.alloc o).cell? ⟨d,4,none⟩=some (.int .i64 op):=fun o=>(ZS (hA o)).2.2.2.2.1
 have aq:∀ o,(w.alloc o).frozen? ⟨d,4,none⟩=false:=fun o=>(ZS (hA o)).2.2.2.2.2 4
 go_enter Tryz.func184,Tryz.ntmps184
 go_upto_region 2 with fail
 have HW:Hid (∀ m,m=((w.setCell ⟨d,4,none⟩ (.int .i64 (op+1))).alloc (Obj.cells #[.string nm,.int .i64 aa,.int .i64 s2,.int .i64 s3] 82))→m.heap.size=w.heap.size+1∧m.heap[d]?=some (ZG b L E J so bt sc wo I wc (op+1) q)∧m.heap[w.heap.size]?=some (Obj.cells #[.string nm,.int .i64 aa,.int .i64 s2,.int .i64 s3] 82)∧m.ownsRow B 86 4 (.slice so bt sc) bt (Zv ss)∧Chg (fun y=>y=d) w m):=by
  rintro m rfl;have a6:∀ y,(Value.slice so bt sc).ownBlock=some y→y≠d:=by
   intro y bu e;obtain ⟨av,ax,X⟩:=Go.Lib.ownsRow_kind aj y bu;rw [e,V] at X;simp [ZG] at X
  refine ⟨by simp,?_,?_,?_,?_⟩
  ·exact ((Zc _ _).block d (by simp;omega)).trans (Zm _ _ _ _ _ _ V)
  ·exact Zd _ _ (by simp)
  ·exact (Zz aj (fun j ah=>Yf _ _ _ _ (a6 j ah))).alloc _
  ·exact (Chg.set (F:=fun y=>y=d) w d 4 _ rfl).trans (Chg.of_below (F:=fun y=>y=d) (Zc _ _)) (fun y bu=>.inl bu)
 generalize hW:World.alloc (w.setCell ⟨d,4,none⟩ (.int .i64 (op+1))) _=m;have ac:=Za (HW.out m hW.symm);clear HW hW hA a3 aq aj V;obtain ⟨Y,U,R,ai,ae⟩:=ac.out;have dA:∀ o,(m.alloc o).cell? ⟨d,4,none⟩=some (.int .i64 (op+1)):=fun o=>(ZS (((Zc m o).block d (by omega)).trans U)).2.2.2.2.1
 have bA:∀ o,(m.alloc o).heap[w.heap.size]?=some (Obj.cells #[.string nm,.int .i64 aa,.int .i64 s2,.int .i64 s3] 82):=fun o=>((Zc m o).block w.heap.size (by omega)).trans R
 have ar:=(ZaE R).1;have b3:=(ZaE R).2.2.2.1;have au:=fun o=>(ZaE (bA o)).1
 have c3:=fun o=>(ZaE (bA o)).2.2.2.1
 have aw:=(ZS U).2.2.2.2.1;clear Y U R ai ae bA;go_region
 have HV:Hid (∀ A,A=(m.alloc (Obj.cells #[.int .i64 (op+1),.string nm,.int .i64 s3,.int .i64 c] 86)).drew→A.heap.size=m.heap.size+1∧A.heap[d]?=some (ZG b L E J so bt sc wo I wc (op+1) q)∧A.heap[m.heap.size]?=some (Obj.cells #[.int .i64 (op+1),.string nm,.int .i64 s3,.int .i64 c] 86)∧A.ownsRow B 86 4 (.slice so bt sc) bt (Zv ss)∧Chg (fun y=>y=d) w A):=by
  rintro A rfl;obtain ⟨Y,U,R,ai,ae⟩:=ac.out;have Q:Chg (fun y=>y=d) w (m.alloc (Obj.cells #[.int .i64 (op+1),.string nm,.int .i64 s3,.int .i64 c] 86)):=ae.trans (Chg.of_below (F:=fun y=>y=d) (Zc _ _)) (fun y bu=>.inl bu);refine ⟨by show (m.alloc _).heap.size=_;simp,?_,?_,(ai.alloc _).drew,⟨Q.os,Q.tape,Q.output,Q.size,Q.block⟩⟩
  ·exact ((Zc m _).block d (by omega)).trans U
  ·exact Zd m _ rfl
 generalize hV:World.drew (m.alloc _)=A;have M:=Za (HV.out A hV.symm);clear HV hV dA ar b3 au c3 aw;obtain ⟨a8,af,am,a7,az⟩:=M.out;have Y:=ac.out.1;obtain ⟨bl,bm,e2,e3,e4⟩:=ZaE am;have f2:=(ZS af).2.2.1;have fA:∀ o,(A.alloc o).cell? ⟨d,2,none⟩=some (.slice so bt sc):=fun o=>(ZS (((Zc A o).block d (by omega)).trans af)).2.2.1
 have HK:Hid (∀ y,(Value.slice so bt sc).ownBlock=some y→d≠y):=by
  intro y bu e;obtain ⟨av,ax,X⟩:=Go.Lib.ownsRow_kind M.out.2.2.2.1 y bu;rw [←e,M.out.2.1] at X;simp [ZG] at X
 have bo:w.heap.size+2≤A.heap.size:=by omega
 clear af am az Y a8;obtain ⟨bk,a1,a9,bc,bd⟩:=info_parts Zg9;go_upto_region 3 with fail
 go_region_law
  ((refine step_append_lies _ (by rfl) (.tmp 28) (.tmp 30) 40 (by rfl) B 86 bk _ 4 40 Tryz.underlying40 a1 a9 bc bd (by rfl) (by decide) _ bt (Zv ss) (by rfl) (a7.alloc _) ⟨A.heap.size,0,none⟩ 1 1 [.int .i64 (op+1),.string nm,.int .i64 s3,.int .i64 c] (by rfl) (by rfl) (Zar _ [.int .i64 (op+1),.string nm,.int .i64 s3,.int .i64 c] _) (by intro u ap;simp at ap;rcases ap with rfl | rfl | rfl | rfl <;> rfl) (by omega) (by unfold maxLen;omega) (by omega) (by simp;omega) (A.heap.size+1) (by simp) ?_;intro D al ab ao ag ad bp;have ak:=(ag.block d (by simp;omega) (fun e=>HK.out d e.symm rfl)).trans (((Zc A _).block d (by omega)).trans M.out.2.1);obtain ⟨be,bf,bg,bh,bi,bj⟩:=ZS ak))
 all_goals
  have N:Hid (ab.ownsRow B 86 4 (.slice (some ⟨D,0,none⟩) (bt+1) al) (bt+1) (Zv (ss++[⟨op+1,nm,s3,c⟩]))∧Chg (fun y=>y=d∨(Value.slice so bt sc).ownBlock=some y) w ab∧((Value.slice so bt sc).ownBlock=some D∨w.heap.size≤D)∧d≠D∧ab.heap[d]?=some (ZG b L E J so bt sc wo I wc (op+1) q)):=by
   refine ⟨?_,?_,?_,?_,ak⟩
   ·unfold Zv;rw [List.flatMap_append];exact ao
   ·have ay:=M.out.2.2.2.2.trans (Chg.of_below (F:=fun y=>y=d) (Zc A (Obj.cells #[.int .i64 (op+1),.string nm,.int .i64 s3,.int .i64 c] 86))) (fun y bu=>.inl bu);have O:=Chg.grown (F:=fun y=>(Value.slice so bt sc).ownBlock=some y) ag (fun y bu=>bu);exact (ay.mono (fun y bu=>.inl bu)).trans (G:=fun y=>(Value.slice so bt sc).ownBlock=some y) ⟨O.os,O.tape,O.output,O.size,O.block⟩ (fun y bu=>.inl (.inr bu))
   ·rcases ad with h | h
    ·exact .inl h
    ·exact .inr (by omega)
   ·rcases ad with h | h
    ·exact HK.out D h
    ·omega
  clear ao ag ad be bf bg bh bi bj ak;refine bodyPost_end (v:=.tuple #[]) (by simp [results,Tryz.results184,go_sem]) rfl ?_;refine ⟨⟨_,rfl⟩,D,al,?_,?_,?_,N.out.2.2.1⟩
  ·exact Zm _ _ _ _ _ _ N.out.2.2.2.2
  ·exact Zz N.out.1 (fun j ah=>Yf _ _ _ _ (by show j≠d;exact Zsv ah N.out.2.2.2.1))
  ·exact N.out.2.1.trans (Chg.set (F:=fun y=>y=d) ab d 2 _ rfl) (fun y bu=>.inl (.inl bu))
theorem ZhH:∀ (l:List Srv) (k:Nat) (c:Int) (y:Srv),y∈l.modify k (fun x=>{x with client:=c})→∃ x∈l,y.id=x.id∧(y=x∨y.client=c)
 | [],k,c,y,d=>by simp at d
 | x :: r,0,c,y,d=>by
  simp only [List.modify_zero_cons,List.mem_cons] at d;rcases d with rfl | d
  ·exact ⟨x,List.mem_cons_self,rfl,.inr rfl⟩
  ·exact ⟨y,List.mem_cons_of_mem _ d,rfl,.inl rfl⟩
 | x :: r,k+1,c,y,d=>by
  simp only [List.modify_succ_cons,List.mem_cons] at d;rcases d with rfl | d
  ·exact ⟨y,List.mem_cons_self,rfl,.inl rfl⟩
  ·obtain ⟨z,q,h,m⟩:=ZhH r k c y d;exact ⟨z,List.mem_cons_of_mem _ q,h,m⟩
theorem Zj3:∀ (l:List Srv) (k:Nat) (c:Int),l.Pairwise (fun a b=>a.id<b.id)→(l.modify k (fun x=>{x with client:=c})).Pairwise (fun a b=>a.id<b.id)
 | [],k,c,d=>by simp
 | x :: r,0,c,d=>by
  obtain ⟨h,m⟩:=List.pairwise_cons.1 d;simp only [List.modify_zero_cons];exact List.pairwise_cons.2 ⟨h,m⟩
 | x :: r,k+1,c,d=>by
  obtain ⟨h,m⟩:=List.pairwise_cons.1 d;simp only [List.modify_succ_cons];refine List.pairwise_cons.2 ⟨fun y q=>?_,Zj3 r k c m⟩;obtain ⟨z,A,e,_⟩:=ZhH r k c y q;rw [e];exact h z A
theorem Zmc:∀ (l:List Srv) (k:Nat) (c:Int) (s:Srv),l[k]?=some s→∀ x∈l,x≠s→x∈l.modify k (fun x=>{x with client:=c})
 | [],k,c,s,h,_,_,_=>by simp at h
 | y :: r,0,c,s,h,x,d,m=>by
  simp at h;subst h;simp only [List.modify_zero_cons];rcases List.mem_cons.1 d with rfl | d
  ·exact absurd rfl m
  ·exact List.mem_cons_of_mem _ d
 | y :: r,k+1,c,s,h,x,d,m=>by
  simp only [List.modify_succ_cons];rcases List.mem_cons.1 d with rfl | d
  ·exact List.mem_cons_self
  ·exact List.mem_cons_of_mem _ (Zmc r k c s (by simpa using h) x d m)
theorem ZpH:∀ (l:List Srv) (k:Nat) (c:Int) (s:Srv),l[k]?=some s→{s with client:=c}∈l.modify k (fun x=>{x with client:=c})
 | [],k,c,s,d=>by simp at d
 | y :: r,0,c,s,d=>by simp at d;subst d;simp
 | y :: r,k+1,c,s,d=>by
  simp only [List.modify_succ_cons];exact List.mem_cons_of_mem _ (ZpH r k c s (by simpa using d))
theorem ZnC {α:Type} (l:List α) (k:Nat) (s:α) (h:l[k]?=some s):∀ x∈l,x≠s→x∈l.eraseIdx k:=by
 intro x q m;rw [List.mem_eraseIdx_iff_getElem?];obtain ⟨j,d⟩:=List.getElem?_of_mem q;refine ⟨j,fun e=>?_,d⟩;subst e;rw [h] at d;exact m (Option.some.inj d).symm
structure Zt8 (S S':Zh) (op nx:Int) (i:Nat) (c:Wtr):Prop where
 inv:Inv S' (nx - 1)
 wts:S'.wts=S.wts.eraseIdx i
 pools:S'.pools=S.pools
 bud:S'.bud=S.bud
 rest:S'.plan=S.plan∧S'.begun=S.begun∧S'.back=S.back
 keep:∀ x∈S.srv,x.client≠0→x∈S'.srv
 got:∃ x∈S'.srv,x.client=c.client
 up:op+1≤nx∧nx≤op+2
 len:(S'.srv.length:Int)≤max (S.srv.length:Int) S.bud
theorem ZfC {S S':Zh} {op nx:Int} (h:Inv S op) {i:Nat} {c:Wtr} (d:Z9 S (op+1) i c=some (S',nx)):Zt8 S S' op nx i c:=by
 have L:(S.wts.eraseIdx i).Pairwise (fun a b=>a.client≠b.client):=h.cli.sublist (List.eraseIdx_sublist _ _);unfold Z9 at d;split at d
 ·simp at d
 ·rename_i x Y
  split at d
  ·rename_i k M
   simp only [Option.some.injEq,Prod.mk.injEq] at d;obtain ⟨rfl,rfl⟩:=d;obtain ⟨s,E,N⟩:=(ZaU _ S.srv).1 k M;have D:=List.find?_some N;simp only [ZU,Bool.and_eq_true,beq_iff_eq] at D;refine ⟨⟨Zj3 _ _ _ h.ids,fun y m=>?_,by have:=h.op0;omega,L⟩,rfl,rfl,rfl,⟨rfl,rfl,rfl⟩,fun y m J=>?_,⟨_,ZpH _ _ _ _ E,rfl⟩,by omega,?_⟩
   ·obtain ⟨z,U,e,_⟩:=ZhH _ _ _ _ m;rw [e];have:=h.low z U;omega
   ·exact Zmc _ _ _ _ E y m (fun e=>J (by rw [e];exact D.1))
   ·show ((S.srv.modify k _).length:Int)≤_;rw [List.length_modify];omega
  ·split at d
   ·simp at d
   ·rename_i X
    split at d
    ·simp at d
    ·rename_i A
     simp only [Option.some.injEq,Prod.mk.injEq] at d;obtain ⟨rfl,rfl⟩:=d;have V:(S.srv.length:Int)<S.bud:=by
      unfold Zde at A;split at A
      ·assumption
      ·split at A <;> simp at A
     refine ⟨⟨?_,fun y m=>?_,by have:=h.op0;omega,L⟩,rfl,rfl,rfl,⟨rfl,rfl,rfl⟩,fun y m _=>?_,⟨⟨op+1,x.nm,x.fr,c.client⟩,?_,rfl⟩,by omega,?_⟩
     ·show (S.srv++[_]).Pairwise _;rw [List.pairwise_append];refine ⟨h.ids,by simp,fun a I b hb=>?_⟩;simp at hb;subst hb;have:=h.low a I;show a.id<op+1;omega
     ·have q:y∈S.srv++[⟨op+1,x.nm,x.fr,c.client⟩]:=m;rcases List.mem_append.1 q with q | q
      ·have:=h.low y q;omega
      ·simp at q;subst q;have:=h.op0;show 1≤op+1∧op+1≤_;omega
     ·show y∈S.srv++[_];exact List.mem_append_left _ m
     ·show _∈S.srv++[_];simp
     ·show ((S.srv++[_]).length:Int)≤_;simp;omega
    ·rename_i k A
     simp only [Option.some.injEq,Prod.mk.injEq] at d;obtain ⟨rfl,rfl⟩:=d;have M:¬(S.srv.length:Int)<S.bud∧S.srv.findIdx? (ZU ⟨#[]⟩ true)=some k:=by
      unfold Zde at A;split at A
      ·simp at A
      ·rename_i hb
       refine ⟨hb,?_⟩;split at A
       ·simp at A
       ·rename_i j Q
        simp at A;rw [Q,A]
     obtain ⟨s,E,N⟩:=(ZaU _ S.srv).1 k M.2;have D:=List.find?_some N;simp only [ZU,Bool.and_eq_true,beq_iff_eq] at D;have O:∀ y∈S.srv.eraseIdx k,y∈S.srv:=fun y m=>(List.eraseIdx_sublist _ _).subset m
     refine ⟨⟨?_,fun y m=>?_,by have:=h.op0;omega,L⟩,rfl,rfl,rfl,⟨rfl,rfl,rfl⟩,fun y m J=>?_,⟨⟨op+1,x.nm,x.fr,c.client⟩,?_,rfl⟩,by omega,?_⟩
     ·show (S.srv.eraseIdx k++[_]).Pairwise _;rw [List.pairwise_append];refine ⟨h.ids.sublist (List.eraseIdx_sublist _ _),by simp,fun a I b hb=>?_⟩;simp at hb;subst hb;have:=h.low a (O a I);show a.id<op+1;omega
     ·have q:y∈S.srv.eraseIdx k++[⟨op+1,x.nm,x.fr,c.client⟩]:=m;rcases List.mem_append.1 q with q | q
      ·have:=h.low y (O y q);omega
      ·simp at q;subst q;have:=h.op0;show 1≤op+1∧op+1≤_;omega
     ·show y∈S.srv.eraseIdx k++[_];exact List.mem_append_left _ (ZnC _ _ _ E y m (fun e=>J (by rw [e];exact D.1)))
     ·show _∈S.srv.eraseIdx k++[_];simp
     ·show ((S.srv.eraseIdx k++[_]).length:Int)≤_;have R:k<S.srv.length:=(Yc.1 E).1;rw [List.length_append,List.length_eraseIdx_of_lt R];simp;omega
theorem Zfc {S:Zh} {op:Int} (h:Inv S op):∀ (l:List Wtr) (i:Nat),S.wts.drop i=l→(Zax S op l).map (fun y=>(y.1,y.2+1))=ZaK S (op+1) i l
 | [],i,_=>rfl
 | c :: r,i,d=>by
  have q:S.wts[i]?=some c:=by
   rw [←List.head?_drop,d];rfl
  have A:S.wts.drop (i+1)=r:=by
   rw [←List.tail_drop,d];rfl
  have m:=ZoH h q;rw [Zax,ZaK,←m];cases ZaT S op c with
  | none=>simp only [Option.map_none];exact Zfc h r (i+1) A
  | some y=>rfl
theorem ZdO {S S':Zh} {op nx:Int}:∀ (l:List Wtr) (i:Nat),S.wts.drop i=l→ZaK S (op+1) i l=some (S',nx)→∃ j c,S.wts[j]?=some c∧i≤j∧Z9 S (op+1) j c=some (S',nx)
 | [],i,_,d=>by simp [ZaK] at d
 | c :: r,i,hd,d=>by
  have D:S.wts[i]?=some c:=by
   rw [←List.head?_drop,hd];rfl
  have E:S.wts.drop (i+1)=r:=by
   rw [←List.tail_drop,hd];rfl
  rw [ZaK] at d;cases h:Z9 S (op+1) i c with
  | none =>
   rw [h] at d;obtain ⟨j,m,q,I,A⟩:=ZdO r (i+1) E d;exact ⟨j,m,q,by omega,A⟩
  | some y =>
   rw [h] at d;simp at d;exact ⟨i,c,D,Yd _,by rw [h,d]⟩
theorem ZcC:∀ (f:Nat) (S:Zh) (op:Int),Inv S op→((ZD f S op).1,(ZD f S op).2+1)=ZI f S (op+1)∧Inv (ZD f S op).1 (ZD f S op).2
 | 0,S,op,d=>⟨rfl,d⟩
 | f+1,S,op,d=>by
  have h:=Zfc d S.wts 0 (by simp);rw [ZD,ZI,←h];cases q:Zax S op S.wts with
  | none=>exact ⟨rfl,d⟩
  | some y =>
   rw [q] at h;obtain ⟨j,c,E,_,A⟩:=ZdO (S:=S) (S':=y.1) (op:=op) (nx:=y.2+1) S.wts 0 (by simp) (by rw [←h];rfl);have D:=ZfC d A;have m:Inv y.1 y.2:=by have:=D.inv;rwa [show y.2+1 - 1=y.2 by omega] at this
   simp only [Option.map_some];exact ZcC f y.1 y.2 m
def ZaW (S:Zh) (op:Int):Prop:=ZaK S (op+1) 0 S.wts=none
theorem Zc3:∀ (f:Nat) (S:Zh) (op:Int),Inv S op→S.wts.length≤f→ZaW (ZD f S op).1 (ZD f S op).2
 | 0,S,op,I,h=>by
  have:S.wts=[]:=List.length_eq_zero_iff.1 (by omega);show ZaK S (op+1) 0 S.wts=none;rw [this];rfl
 | f+1,S,op,I,h=>by
  have d:=Zfc I S.wts 0 (by simp);rw [ZD];cases m:Zax S op S.wts with
  | none =>
   rw [m] at d;exact d.symm
  | some y =>
   rw [m] at d;obtain ⟨j,c,D,_,E⟩:=ZdO (S:=S) (S':=y.1) (op:=op) (nx:=y.2+1) S.wts 0 (by simp) (by rw [←d];rfl);have q:=ZfC I E;have A:Inv y.1 y.2:=by have:=q.inv;rwa [show y.2+1 - 1=y.2 by omega] at this
   refine Zc3 f y.1 y.2 A ?_;rw [q.wts,List.length_eraseIdx_of_lt (Yc.1 D).1];omega
structure Zt1 (S S':Zh):Prop where
 pools:S'.pools=S.pools
 bud:S'.bud=S.bud
 rest:S'.plan=S.plan∧S'.begun=S.begun∧S'.back=S.back
 keep:∀ x∈S.srv,x.client≠0→x∈S'.srv
 sub:S'.wts.Sublist S.wts
 len:(S'.srv.length:Int)≤max (S.srv.length:Int) S.bud
theorem Zi2:∀ (f:Nat) (S:Zh) (op:Int),Inv S op→Zt1 S (ZD f S op).1
 | 0,S,op,_=>⟨rfl,rfl,⟨rfl,rfl,rfl⟩,fun _ h _=>h,List.Sublist.refl _,by show (S.srv.length:Int)≤_;omega⟩
 | f+1,S,op,m=>by
  have q:=Zfc m S.wts 0 (by simp);rw [ZD];cases I:Zax S op S.wts with
  | none=>exact ⟨rfl,rfl,⟨rfl,rfl,rfl⟩,fun _ h _=>h,List.Sublist.refl _,by show (S.srv.length:Int)≤_;omega⟩
  | some y =>
   rw [I] at q;obtain ⟨j,c,N,_,J⟩:=ZdO (S:=S) (S':=y.1) (op:=op) (nx:=y.2+1) S.wts 0 (by simp) (by rw [←q];rfl);have d:=ZfC m J;have E:Inv y.1 y.2:=by have:=d.inv;rwa [show y.2+1 - 1=y.2 by omega] at this
   have ih:=Zi2 f y.1 y.2 E;refine ⟨ih.pools.trans d.pools,ih.bud.trans d.bud,⟨ih.rest.1.trans d.rest.1,ih.rest.2.1.trans d.rest.2.1,ih.rest.2.2.trans d.rest.2.2⟩,fun x L A=>ih.keep x (d.keep x L A) A,ih.sub.trans (by rw [d.wts];exact List.eraseIdx_sublist _ _),?_⟩;have D:=ih.len;have M:=d.len;rw [d.bud] at D;show ((ZD f y.1 y.2).1.srv.length:Int)≤_;omega
theorem Zid {S:Zh} {nx:Int} {c:Wtr} {i j:Nat} {l:List Wtr}:(Z9 S nx i c).isSome=(Z9 {S with wts:=l} nx j c).isSome:=by
 unfold Z9 Zde;simp only;cases S.pools.find? (Zl c.pool) with
 | none=>rfl
 | some x =>
  simp only;cases S.srv.findIdx? (ZU c.pool false) with
  | some k=>rfl
  | none =>
   simp only;split
   ·rfl
   ·split <;> rfl
theorem Zex {S:Zh} {nx:Int}:∀ (l:List Wtr) (i:Nat),ZaK S nx i l=none↔∀ c∈l,(Z9 S nx 0 c).isSome=false
 | [],i=>by simp [ZaK]
 | c :: r,i=>by
  have h:(Z9 S nx i c).isSome=(Z9 S nx 0 c).isSome:=Zid (l:=S.wts);rw [ZaK];cases m:Z9 S nx i c with
  | none =>
   rw [m] at h;simp only;rw [Zex r (i+1)];constructor
   ·intro q d hd;rcases List.mem_cons.1 hd with rfl | hd
    ·rw [←h];rfl
    ·exact q d hd
   ·intro q d hd;exact q d (List.mem_cons_of_mem _ hd)
  | some y =>
   rw [m] at h;simp only [reduceCtorEq,false_iff];intro q;have:=q c List.mem_cons_self;rw [←h] at this;simp at this
theorem Zg4 {S:Zh} {op:Int} (aa:Inv S op) (X:ZaW S op) {c:Wtr} (V:∀ x∈S.wts,x.client≠c.client) (O:c.client≠0) :
  Inv {S with wts:=S.wts++[c]} op ∧
  ((ZD (S.wts++[c]).length {S with wts:=S.wts++[c]} op=({S with wts:=S.wts++[c]},op))∨∃ x∈(ZD (S.wts++[c]).length {S with wts:=S.wts++[c]} op).1.srv,x.client=c.client):=by
 have m:Inv {S with wts:=S.wts++[c]} op:=⟨aa.ids,aa.low,aa.op0,by
  rw [List.pairwise_append];refine ⟨aa.cli,by simp,fun a M b hb=>?_⟩;simp at hb;subst hb;exact V a M⟩
 refine ⟨m,?_⟩;have R:(S.wts++[c]).length=S.wts.length+1:=by simp
 rw [R,ZD];have A:=Zfc m (S.wts++[c]) 0 (by simp);cases N:Zax {S with wts:=S.wts++[c]} op (S.wts++[c]) with
 | none=>left;rfl
 | some y =>
  right;rw [N] at A;obtain ⟨j,d,Q,_,D⟩:=ZdO (S:={S with wts:=S.wts++[c]}) (S':=y.1) (op:=op) (nx:=y.2+1) (S.wts++[c]) 0 (by simp) (by rw [←A];rfl);have E:=ZfC m D;have L:Inv y.1 y.2:=by have:=E.inv;rwa [show y.2+1 - 1=y.2 by omega] at this
  have hd:d=c:=by
   have U:d∈S.wts++[c]:=Yo Q;rcases List.mem_append.1 U with h | h
   ·have J:=(Zex S.wts 0).1 X d h;have q:(Z9 S (op+1) 0 d).isSome=(Z9 {S with wts:=S.wts++[c]} (op+1) j d).isSome:=Zid;rw [J,D] at q;simp at q
   ·simpa using h
  subst hd;obtain ⟨x,Y,I⟩:=E.got;exact ⟨x,(Zi2 _ _ _ L).keep x Y (by rw [I];exact O),I⟩
structure Res where
 S:Zh
 op:Int
 id:Int
 err:Nat
def Zbi (c:Int):Bool:=decide (1≤c)&&decide (c≤99)
def Zad (S:Zh) (c:Int) (nm:ByteArray):Zh:={S with wts:=S.wts++[(⟨c,nm⟩:Wtr)]}
def ZL (S:Zh) (op:Int) (c:Int) (nm:ByteArray):Zh×Int:=ZD (S.wts.length+1) (Zad S c nm) op
def ZdU (S:Zh) (nx:Int) (c:Int) (nm:ByteArray):Zh×Int:=ZI (S.wts.length+1) (Zad S c nm) nx
def ZaD (S:Zh) (op:Int) (c:Int) (name:ByteArray):Res:=
 if Zbi c=false then ⟨S,op,0,10⟩
 else if ((S.srv.find? (Zp c)).isSome||(S.wts.find? (Z3 c)).isSome)=true then ⟨S,op,0,11⟩
 else match S.pools.find? (Zl name) with
  | none=>⟨S,op,0,12⟩
  | some x=>match (ZL S op c x.nm).1.srv.find? (Zp c) with
   | some s=>⟨(ZL S op c x.nm).1,(ZL S op c x.nm).2,s.id,0⟩
   | none=>if x.wt<(Zs (Zq x.nm) (ZL S op c x.nm).1.wts:Int) then ⟨ZO (ZL S op c x.nm).1 c,(ZL S op c x.nm).2,0,13⟩
    else ⟨(ZL S op c x.nm).1,(ZL S op c x.nm).2,0,0⟩
def Zce (S:Zh) (nx:Int) (c:Int) (name:ByteArray):Res:=
 if Zbi c=false then ⟨S,nx,0,10⟩
 else if ((S.srv.find? (Zp c)).isSome||(S.wts.find? (Z3 c)).isSome)=true then ⟨S,nx,0,11⟩
 else match S.pools.find? (Zl name) with
  | none=>⟨S,nx,0,12⟩
  | some x=>match (ZdU S nx c name).1.srv.find? (Zp c) with
   | some s=>⟨(ZdU S nx c name).1,(ZdU S nx c name).2,s.id,0⟩
   | none=>if x.wt<(Zs (Zq name) (ZdU S nx c name).1.wts:Int) then ⟨S,nx,0,13⟩
    else ⟨(ZdU S nx c name).1,(ZdU S nx c name).2,0,0⟩
def ZnQ (a b:Res):Prop:=a.S=b.S∧a.op+1=b.op∧a.id=b.id∧a.err=b.err
theorem Zc0 {α:Type} {p:α→Bool} {l:List α} (d:(l.find? p).isSome=false):∀ x∈l,p x=false:=by
 intro x m;cases h:p x with
 | false=>rfl
 | true =>
  have:(l.find? p).isSome=true:=List.find?_isSome.2 ⟨x,m,h⟩;rw [d] at this;simp at this
theorem ZoD {S:Zh} {op:Int} (q:Inv S op) (A:ZaW S op) (c:Int) (d:ByteArray) :
  ZnQ (ZaD S op c d) (Zce S (op+1) c d)∧Inv (ZaD S op c d).S (ZaD S op c d).op∧ZaW (ZaD S op c d).S (ZaD S op c d).op:=by
 unfold ZaD Zce;by_cases af:Zbi c=false
 ·rw [if_pos af,if_pos af];exact ⟨⟨rfl,rfl,rfl,rfl⟩,q,A⟩
 ·rw [if_neg af,if_neg af];by_cases m:((S.srv.find? (Zp c)).isSome||(S.wts.find? (Z3 c)).isSome)=true
  ·rw [if_pos m,if_pos m];exact ⟨⟨rfl,rfl,rfl,rfl⟩,q,A⟩
  ·rw [if_neg m,if_neg m];cases Y:S.pools.find? (Zl d) with
   | none=>exact ⟨⟨rfl,rfl,rfl,rfl⟩,q,A⟩
   | some x =>
    have ad:=Zfl Y;simp only;rw [ad];have Q:c≠0:=by
     intro e;rw [e] at af;exact af (by decide)
    have ac:(S.wts.find? (Z3 c)).isSome=false:=by
     cases L:(S.wts.find? (Z3 c)).isSome with
     | false=>rfl
     | true=>rw [L] at m;simp at m
    have M:∀ y∈S.wts,y.client≠c:=by
     intro y D e;have:=Zc0 ac y D;simp [Z3,e] at this
    have R:=(Zg4 (c:=(⟨c,d⟩:Wtr)) q A M Q).2;have J:Inv (Zad S c d) op:=(Zg4 (c:=(⟨c,d⟩:Wtr)) q A M Q).1;have aa:(S.wts++[(⟨c,d⟩:Wtr)]).length=S.wts.length+1:=by simp
    rw [aa] at R;have N:ZL S op c d=(Zad S c d,op)∨∃ x∈(ZL S op c d).1.srv,x.client=c:=R;have X:((ZL S op c d).1,(ZL S op c d).2+1)=ZdU S (op+1) c d:=(ZcC (S.wts.length+1) (Zad S c d) op J).1;have E:Inv (ZL S op c d).1 (ZL S op c d).2:=(ZcC (S.wts.length+1) (Zad S c d) op J).2;have I:ZaW (ZL S op c d).1 (ZL S op c d).2:=Zc3 (S.wts.length+1) (Zad S c d) op J (by simp [Zad]);rw [←X];obtain ⟨⟨T,t⟩,U⟩:∃ y,ZL S op c d=y:=⟨_,rfl⟩;rw [U] at N E I ⊢;simp only at N E I ⊢;cases L:T.srv.find? (Zp c) with
    | some s=>exact ⟨⟨rfl,rfl,rfl,rfl⟩,E,I⟩
    | none =>
     simp only;have ab:∀ y∈T.srv,Zp c y=false:=Zc0 (by rw [L];rfl);have V:Zad S c d=T∧op=t:=by
      rcases N with h | ⟨y,D,ae⟩
      ·simp only [Prod.mk.injEq] at h;exact ⟨h.1.symm,h.2.symm⟩
      ·have:=ab y D;simp [Zp,ae] at this
     obtain ⟨rfl,rfl⟩:=V;split
     ·have O:ZO (Zad S c d) c=S:=by
       unfold ZO Zad;simp only;have:(S.wts++[(⟨c,d⟩:Wtr)]).filter (fun x=>!decide (x.client=c))=S.wts:=by
        rw [Yr,List.filter_eq_self.2 (fun y D=>by simp [M y D])];simp
       rw [this]
      refine ⟨⟨O,rfl,rfl,rfl⟩,?_,?_⟩
      ·show Inv (ZO _ c) op;rw [O];exact q
      ·show ZaW (ZO _ c) op;rw [O];exact A
     ·exact ⟨⟨rfl,rfl,rfl,rfl⟩,E,I⟩
def ZaI (S:Zh) (op:Int) (c:Int):Res:=if Zbi c=false then ⟨S,op,0,10⟩ else if (S.wts.find? (Z3 c)).isSome=false then ⟨S,op,0,14⟩ else ⟨ZO S c,op,0,0⟩
def Zcb (S:Zh) (nx:Int) (c:Int):Res:=if Zbi c=false then ⟨S,nx,0,10⟩ else match S.wts.findIdx? (Z3 c) with | none=>⟨S,nx,0,14⟩ | some i=>⟨Zbp S i,nx,0,0⟩
theorem Zoj {S:Zh} {op:Int} {l:List Wtr} (q:ZaW S op) (h:∀ x∈l,x∈S.wts):ZaW {S with wts:=l} op:=by
 unfold ZaW at *;rw [Zex] at q ⊢;intro d hd;have m:(Z9 S (op+1) 0 d).isSome=(Z9 {S with wts:=l} (op+1) 0 d).isSome:=Zid;rw [←m];exact q d (h d hd)
theorem Zmn {S:Zh} {op:Int} (d:Inv S op) (q:ZaW S op) (c:Int) :
  ZnQ (ZaI S op c) (Zcb S (op+1) c)∧Inv (ZaI S op c).S (ZaI S op c).op∧ZaW (ZaI S op c).S (ZaI S op c).op:=by
 unfold ZaI Zcb;by_cases h:Zbi c=false
 ·rw [if_pos h,if_pos h];exact ⟨⟨rfl,rfl,rfl,rfl⟩,d,q⟩
 ·rw [if_neg h,if_neg h];obtain ⟨E,f2⟩:=ZaU (Z3 c) S.wts;cases A:S.wts.findIdx? (Z3 c) with
  | none=>rw [f2 A];exact ⟨⟨rfl,rfl,rfl,rfl⟩,d,q⟩
  | some i =>
   obtain ⟨s,J,D⟩:=E i A;rw [D];simp only [Option.isSome_some,Bool.true_eq_false,if_false];have I:s.client=c:=by have:=List.find?_some D;simpa [Z3] using this
   have m:ZO S c=Zbp S i:=by
    unfold ZO Zbp;rw [←I,ZcB S.wts d.cli i s J]
   refine ⟨⟨m,rfl,rfl,rfl⟩,?_,?_⟩
   ·show Inv (ZO S c) op;rw [m];exact ⟨d.ids,d.low,d.op0,d.cli.sublist (List.eraseIdx_sublist _ _)⟩
   ·show ZaW (ZO S c) op;rw [m];exact Zoj q (fun x L=>(List.eraseIdx_sublist _ _).subset L)
def Zau (S:Zh) (op:Int) (id:Int):Res:=if (S.srv.find? (fun x=>x.id == id)).isSome=false then ⟨S,op,0,15⟩ else ⟨(ZD S.wts.length (ZR S id) op).1,(ZD S.wts.length (ZR S id) op).2,0,0⟩
def Zct (S:Zh) (nx:Int) (id:Int):Res:=match S.srv.findIdx? (fun x=>x.id == id) with | none=>⟨S,nx,0,15⟩ | some i=>⟨(ZI S.wts.length (Zaa S i) nx).1,(ZI S.wts.length (Zaa S i) nx).2,0,0⟩
theorem ZeI {S:Zh} {op:Int} (d:Inv S op) (i:Nat):Inv (Zaa S i) op:=
 ⟨d.ids.sublist (List.eraseIdx_sublist _ _),fun x h=>d.low x ((List.eraseIdx_sublist _ _).subset h),d.op0,d.cli⟩
theorem Zml {S:Zh} {op:Int} (h:Inv S op) (N:ZaW S op) (d:Int) :
  ZnQ (Zau S op d) (Zct S (op+1) d)∧Inv (Zau S op d).S (Zau S op d).op∧ZaW (Zau S op d).S (Zau S op d).op:=by
 unfold Zau Zct;obtain ⟨D,f2⟩:=ZaU (fun x:Srv=>x.id == d) S.srv;cases q:S.srv.findIdx? (fun x=>x.id == d) with
 | none=>rw [f2 q];exact ⟨⟨rfl,rfl,rfl,rfl⟩,h,N⟩
 | some i =>
  obtain ⟨s,M,A⟩:=D i q;rw [A];simp only [Option.isSome_some,Bool.true_eq_false,if_false];have I:s.id=d:=by have:=List.find?_some A;simpa using this
  have L:ZR S d=Zaa S i:=by
   unfold ZR Zaa;rw [←I,Zdg S.srv h.ids i s M]
  rw [L];have m:=ZeI h i;obtain ⟨J,E⟩:=ZcC S.wts.length (Zaa S i) op m;rw [←J];exact ⟨⟨rfl,rfl,rfl,rfl⟩,E,Zc3 S.wts.length (Zaa S i) op m (Yd _)⟩
def ZaY (S:Zh) (s:Srv):Bool:=
 match S.pools.find? (Zl s.pool) with
 | none=>true
 | some x=>!decide (s.far=x.fr)||decide (x.sz<(Zs (Zj s.pool) S.srv:Int))||decide (S.bud<(S.srv.length:Int))
def ZaH (S:Zh) (op:Int) (c:Int):Res:=
 if Zbi c=false then ⟨S,op,0,10⟩
 else match S.srv.find? (Zp c) with
  | none=>⟨S,op,0,14⟩
  | some s=>let T:=if ZaY (ZT S s.id 0) s=true then ZR (ZT S s.id 0) s.id else ZT S s.id 0
   ⟨(ZD S.wts.length T op).1,(ZD S.wts.length T op).2,0,0⟩
def Zcp (S:Zh) (nx:Int) (c:Int):Res:=
 if Zbi c=false then ⟨S,nx,0,10⟩
 else match S.srv.findIdx? (Zp c) with
  | none=>⟨S,nx,0,14⟩
  | some i=>match S.srv[i]? with
   | none=>⟨S,nx,0,14⟩
   | some s=>let T:=if ZaY (ZbU S i 0) s=true then Zaa (ZbU S i 0) i else ZbU S i 0
    ⟨(ZI S.wts.length T nx).1,(ZI S.wts.length T nx).2,0,0⟩
theorem ZjI:∀ (l:List Srv) (k:Nat) (c:Int) (s:Srv),l[k]?=some s→(l.modify k (fun x=>{x with client:=c}))[k]?=some {s with client:=c}
 | [],k,c,s,d=>by simp at d
 | y :: r,0,c,s,d=>by simp at d;subst d;simp
 | y :: r,k+1,c,s,d=>by
  simp only [List.modify_succ_cons,List.getElem?_cons_succ];exact ZjI r k c s (by simpa using d)
theorem ZrC {S:Zh} {op:Int} (d:Inv S op) (k:Nat) (c:Int):Inv (ZbU S k c) op:=
 ⟨Zj3 _ _ _ d.ids,fun x h=>by
  obtain ⟨z,m,e,_⟩:=ZhH _ _ _ _ h;rw [e];exact d.low z m,d.op0,d.cli⟩
theorem Zm2 {S:Zh} {op:Int} (h:Inv S op) (E:ZaW S op) (c:Int) :
  ZnQ (ZaH S op c) (Zcp S (op+1) c)∧Inv (ZaH S op c).S (ZaH S op c).op∧ZaW (ZaH S op c).S (ZaH S op c).op:=by
 unfold ZaH Zcp;by_cases d:Zbi c=false
 ·rw [if_pos d,if_pos d];exact ⟨⟨rfl,rfl,rfl,rfl⟩,h,E⟩
 ·rw [if_neg d,if_neg d];obtain ⟨J,f2⟩:=ZaU (Zp c) S.srv;cases D:S.srv.findIdx? (Zp c) with
  | none=>rw [f2 D];exact ⟨⟨rfl,rfl,rfl,rfl⟩,h,E⟩
  | some i =>
   obtain ⟨s,A,R⟩:=J i D;rw [R];simp only;rw [A];simp only;have Q:ZT S s.id 0=ZbU S i 0:=by
    unfold ZT ZbU;rw [Zgb S.srv h.ids i s 0 A]
   have m:=ZrC h i 0;have U:ZR (ZbU S i 0) s.id=Zaa (ZbU S i 0) i:=by
    unfold ZR Zaa;have O:=ZjI S.srv i 0 s A;exact congrArg (fun l=>({ZbU S i 0 with srv:=l}:Zh)) (Zdg (ZbU S i 0).srv m.ids i {s with client:=0} O)
   rw [Q,U];have q:Inv (if ZaY (ZbU S i 0) s=true then Zaa (ZbU S i 0) i else ZbU S i 0) op:=by
    split
    ·exact ZeI m i
    ·exact m
   have I:(if ZaY (ZbU S i 0) s=true then Zaa (ZbU S i 0) i else ZbU S i 0).wts=S.wts:=by
    split <;> rfl
   obtain ⟨T,M⟩:∃ T,(if ZaY (ZbU S i 0) s=true then Zaa (ZbU S i 0) i else ZbU S i 0)=T:=⟨_,rfl⟩;rw [M] at q I ⊢;obtain ⟨N,L⟩:=ZcC S.wts.length T op q;rw [←N];exact ⟨⟨rfl,rfl,rfl,rfl⟩,L,Zc3 S.wts.length T op q (by rw [I];exact Yd _)⟩
end Lw
end Go.Proofs.YtmgkcbdlfodjmaaGreatDoor
