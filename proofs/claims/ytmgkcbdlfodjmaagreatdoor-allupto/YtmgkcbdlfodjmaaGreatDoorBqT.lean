import Derived.Test.YtmgkcbdlfodjmaaGreatDoorBqS
set_option maxRecDepth 100000
set_option maxHeartbeats 16000000
namespace Go.Proofs.YtmgkcbdlfodjmaaGreatDoor
open Go.RowKit
namespace Lw
open Co
theorem ZmM:∀ (l:List Srv) (d op:Int),l.Pairwise (fun a b=>a.id<b.id)→(∀ x∈l,d<x.id∧x.id≤op)→d≤op→(l.length:Int)≤op - d
 | [],d,op,_,_,h=>by simp;omega
 | y :: r,d,op,q,hb,_=>by
  have D:=List.pairwise_cons.1 q;have A:=hb y (by simp);have:=ZmM r y.id op D.2 (fun x m=>⟨D.1 x m,(hb x (by simp [m])).2⟩) (by omega);simp;omega
theorem Inv.len {S:Zh} {op:Int} (d:Inv S op):(S.srv.length:Int)≤op:=by
 have:=ZmM S.srv 0 op d.ids (fun x h=>by have:=d.low x h;omega) d.op0;omega
theorem Inv.nz {S:Zh} {op:Int} (d:Inv S op):∀ x∈S.srv,x.id≠0:=fun x h=>by have:=d.low x h;omega
def pot (y:Zh×Int):Int:=y.2+y.1.wts.length
theorem Zkk {α:Type} {p:α→Bool}:∀ {l:List α} {x:α},x∈l→p x=false→(l.filter p).length+1≤l.length
 | y :: r,x,d,h=>by
  rcases List.mem_cons.1 d with e | d
  ·rw [←e,List.filter_cons,if_neg (by rw [h];simp)];have:=Yp p r;simp;omega
  ·have:=Zkk d h;rw [List.filter_cons];split
   ·simp;omega
   ·simp;omega
theorem Zme {S:Zh} {op:Int} {c:Wtr} {y:Zh×Int} (d:ZaT S op c=some y):y.1.wts=S.wts∧y.2≤op+1∧op≤y.2∧y.1.pools=S.pools∧y.1.bud=S.bud∧y.1.plan=S.plan∧y.1.begun=S.begun∧y.1.back=S.back:=by
 rw [ZmJ] at d;split at d
 ·simp at d
 ·split at d
  ·simp at d;subst d;refine ⟨rfl,?_,?_,rfl,rfl,rfl,rfl,rfl⟩ <;> simp only <;> omega
  ·split at d
   ·simp at d
   ·cases h:ZbQ S with
    | none=>rw [h] at d;simp at d
    | some T =>
     rw [h] at d;simp at d;subst d;have m:T.wts=S.wts∧T.pools=S.pools∧T.bud=S.bud∧T.plan=S.plan∧T.begun=S.begun∧T.back=S.back:=by
      unfold ZbQ at h;split at h
      ·simp at h;rw [←h];exact ⟨rfl,rfl,rfl,rfl,rfl,rfl⟩
      ·split at h
       ·simp at h
       ·split at h
        ·simp at h
        ·simp at h;rw [←h];exact ⟨rfl,rfl,rfl,rfl,rfl,rfl⟩
     refine ⟨m.1,?_,?_,m.2.1,m.2.2.1,m.2.2.2.1,m.2.2.2.2.1,m.2.2.2.2.2⟩ <;> simp only <;> omega
def Rest (S T:Zh):Prop:=T.pools=S.pools∧T.bud=S.bud∧T.plan=S.plan∧T.begun=S.begun∧T.back=S.back
theorem Rest.refl (S:Zh):Rest S S:=⟨rfl,rfl,rfl,rfl,rfl⟩
theorem Rest.trans {S T h:Zh} (d:Rest S T) (k:Rest T h):Rest S h:=⟨k.1.trans d.1,k.2.1.trans d.2.1,k.2.2.1.trans d.2.2.1,k.2.2.2.1.trans d.2.2.2.1,k.2.2.2.2.trans d.2.2.2.2⟩
theorem Zhj {S:Zh} {op:Int}:∀ {l:List Wtr} {y:Zh×Int},(∀ x∈l,x∈S.wts)→Zax S op l=some y→pot y≤pot (S,op)∧op≤y.2∧Rest S y.1
 | [],y,_,d=>by simp [Zax] at d
 | c :: r,y,m,d=>by
  rw [Zax] at d;cases h:ZaT S op c with
  | none=>rw [h] at d;exact Zhj (fun x M=>m x (by simp [M])) d
  | some z =>
   rw [h] at d;simp at d;subst d;obtain ⟨q,N,A,D,E,I,J,L⟩:=Zme h;refine ⟨?_,A,D,E,I,J,L⟩;have:=Zkk (p:=fun x:Wtr=>!decide (x.client=c.client)) (m c (by simp)) (by simp);unfold pot ZO;simp only [q];omega
theorem Zc1:∀ (f:Nat) (S:Zh) (op:Int),pot (ZD f S op)≤pot (S,op)∧op≤(ZD f S op).2∧Rest S (ZD f S op).1
 | 0,S,op=>by rw [ZD];exact ⟨Int.le_refl _,Int.le_refl _,Rest.refl _⟩
 | f+1,S,op=>by
  rw [ZD];cases h:Zax S op S.wts with
  | none=>exact ⟨Int.le_refl _,Int.le_refl _,Rest.refl _⟩
  | some y =>
   have d:=Zhj (fun _ m=>m) h;have q:=Zc1 f y.1 y.2;exact ⟨Int.le_trans q.1 d.1,Int.le_trans d.2.1 q.2.1,d.2.2.trans q.2.2⟩
theorem Zoy {S:Zh} {op:Int} (m:Inv S op) {y:Zh×Int} (h:Zax S op S.wts=some y):Inv y.1 y.2:=by
 have d:=(ZcC 1 S op m).2;rw [ZD,h] at d;exact d
theorem ZiN {S:Zh} {op:Int}:∀ {l:List Wtr} {k:Nat} {c:Wtr},(∀ y∈l.take k,ZaT S op y=none)→l[k]?=some c→Zax S op l=match ZaT S op c with | some y=>some (ZO y.1 c.client,y.2) | none=>Zax S op (l.drop (k+1))
 | [],k,c,_,d=>by simp at d
 | x :: r,0,c,_,d=>by
  simp at d;subst d;rw [Zax];rfl
 | x :: r,k+1,c,h,d=>by
  rw [Zax,h x (by simp)];exact ZiN (fun y m=>h y (by simp [m])) (by simpa using d)
theorem Zlw {S:Zh} {op:Int}:∀ {l:List Wtr},(∀ y∈l,ZaT S op y=none)→Zax S op l=none
 | [],_=>rfl
 | x :: r,d=>by
  rw [Zax,d x (by simp)];exact Zlw (fun y h=>d y (by simp [h]))
structure Ok (S:Zh) (op:Int):Prop where
 inv:Inv S op
 pot:pot (S,op)≤549755813888
 pools:S.pools.length≤1099511627776
theorem Zss (A:Nat) (S:Zh) (d:ZB) (F:Nat→Prop) (w:World) (h:DeskAt w A S d F) (L:Ok S d.op) :
  Calls Tryz.prog 138 #[.pointer (some ⟨A,0,none⟩)] w fun e w'=>Zq1 (Zax S d.op S.wts) w w' A S d F e:=by
 have hL:=L.inv.len;have X:=L.pot;have hO:=L.inv.op0;unfold pot at X;simp only at X;obtain ⟨N,ad⟩:∃ n,S.wts.length=n:=⟨_,rfl⟩;rw [ad] at X;have Q:=Za ad;have O:Hid (S.srv.length+1≤1099511627776∧S.pools.length≤1099511627776∧(0≤d.op∧d.op<9223372036854775807)∧Inv S d.op):=⟨by omega,L.pools,⟨hO,by omega⟩,L.inv⟩;have bd:N≤1099511627776:=by omega
 have HH:=Za h;clear h L hL X hO ad;go_enter Tryz.func138,Tryz.ntmps138
 go_wp2_with fail
 go_loopw [3,4] (fun i bk wr=>∃ (k:Nat),k≤N∧i=.int .i64 k∧Hid (Moved w wr A S d F∧∀ y∈S.wts.take k,ZaT S d.op y=none)) (fun i _ _=>N - (intOf i).toNat)
 case atStart=>exact ⟨0,Ye _,rfl,Moved.refl HH.out,by intro y m;simp at m⟩
 case round =>
  obtain ⟨k,bh,rfl,M⟩:=hrel;obtain ⟨ag,hd,ao⟩:=M.out.1.step;have HD:=Za hd;have ah:=Za ao;obtain ⟨bm,bl,so,sc,wo,wc,bq,bp,bj,bg,af⟩:=hd.ex;have HX:=Za af;have ac:=af.box;rw [Q.out] at ac;obtain ⟨aw,ax,ay,az,a0,a1⟩:=ZS ac;clear hd ao af ac;by_cases a9:k<N
  ·have bi:(k:Int)<(N:Int):=by omega
   obtain ⟨⟨q,E⟩,ae⟩:∃ p,S.wts[k]?=some p:=⟨_,Yb (by rw [Q.out];exact a9)⟩;have aq:=Zf HX.out.t.own;obtain ⟨be,off,a6,bf,ai,c1⟩:=Zdd aq ae;subst a6;simp only at ai c1;have HP:Hid (S.wts[k]?=some ⟨q,E⟩):=ae;obtain ⟨D,Y⟩:∃ D,D=wr.alloc (bWt q E):=⟨_,rfl⟩;have ab:Below wr.heap.size wr D:=by rw [Y];exact Zc _ _
   have J:Hid (D=wr.alloc (bWt q E)∧D.heap[wr.heap.size]?=some (bWt q E)∧Below wr.heap.size wr D):=⟨Y,by rw [Y];exact Zd _ _ rfl,ab⟩;have HG:=Za (ZtJ A q E S d ag D (HD.out.keep (G:=fun _=>False) (Chg.of_below ab) (fun _ _ h=>h)) O.out.2.2.2.nz O.out.1 O.out.2.1 O.out.2.2.1);have au:Hid (¬ag wr.heap.size):=fun a7=>by have:=HD.out.lt _ a7;omega
   clear ae aq Y ab;go_upto_region 5 with fail
   rw [←J.out.1];clear aw ax ay az a0 a1 ai c1;obtain ⟨R,U,V⟩:=Zw J.out.2.1;go_wp2_with fail
   refine HG.out.mono ?_;rintro e aa ⟨rfl,br⟩;cases I:ZaT S d.op ⟨q,E⟩ with
   | none =>
    rw [I] at br;have KM:Hid (Moved w aa A S d F∧∀ y∈S.wts.take (k+1),ZaT S d.op y=none):=by
     refine ⟨ah.out _ _ _ (Moved.after J.out.2.2 br),?_⟩;intro y m;obtain ⟨a8,e⟩:=Yc.1 HP.out;rw [Yk a8,e] at m;rcases List.mem_append.1 m with m | m
     ·exact M.out.2 y m
     ·rw [List.mem_singleton.1 m];exact I
    simp only [Option.isSome_none];clear br I R U V;go_wp2_with fail
    go_roundw
    case rel=>exact ⟨k+1,by omega,by go_num,KM.out⟩
    case measure=>simp [intOf];omega
   | some y =>
    obtain ⟨T,t⟩:=y;rw [I] at br;simp only [Option.getD_some] at br;have HR:Hid (Zax S d.op S.wts=some (ZO T q,t)):=by
     show _=_;rw [ZiN M.out.2 HP.out,I]
    have aj:T.wts.length≤1099511627776:=by rw [(Zme I).1,Q.out];exact bd
    have bc:=br;obtain ⟨_,_,_,al⟩:=bc;have ak:aa.heap[wr.heap.size]?=some (bWt q E):=(al.block _ (Ya.1 J.out.2.1).1 au.out).trans J.out.2.1;have KM:Hid (Moved w aa A T {d with op:=t} F):=ah.out _ _ _ (Moved.after J.out.2.2 br);clear R U V;obtain ⟨R,U,V⟩:=Zw ak;obtain ⟨ar,am,ap⟩:=KM.out.step;have HQ:=Za (Zk9 A q T {d with op:=t} ar aa am aj);have av:=Za ap;simp only [Option.isSome_some];clear br I aj al ak am ap;go_wp2_with fail
    refine HQ.out.mono ?_;rintro e bo ⟨⟨x,rfl⟩,br⟩;have KF:=Za (av.out _ _ _ br);clear br R U V;go_wp2_with fail
    go_ret
    rw [HR.out];exact ⟨rfl,KF.out⟩
  ·have HR:Hid (Zax S d.op S.wts=none):=Zlw (fun y m=>M.out.2 y (by rw [Yj (by rw [Q.out];omega)];exact m));go_wp2_with fail
   go_ret
   rw [HR.out];exact ⟨rfl,M.out.1⟩
theorem Ok.first {S:Zh} {op:Int} (d:Ok S op) {y:Zh×Int} (h:Zax S op S.wts=some y):Ok y.1 y.2:=by
 have m:=Zhj (fun _ q=>q) h;exact ⟨Zoy d.inv h,Int.le_trans m.1 d.pot,by rw [m.2.2.1];exact d.pools⟩
theorem Zhe (A:Nat) (S:Zh) (d:ZB) (F:Nat→Prop) (w:World) (h:DeskAt w A S d F) (L:Ok S d.op) :
  Calls Tryz.prog 89 #[.pointer (some ⟨A,0,none⟩)] w fun e w'=>(∃ x,e=.returned x)∧Moved w w' A (ZD S.wts.length S d.op).1 {d with op:=(ZD S.wts.length S d.op).2} F:=by
 obtain ⟨ao,am,so,sc,wo,wc,aq,ap,aj,ag,U⟩:=h.ex;have hL:=L.inv.op0;have J:=L.pot;unfold pot at J;simp only at J;obtain ⟨m,Q⟩:∃ n,S.wts.length=n:=⟨_,rfl⟩;have N:=U.box;rw [Q] at N J ⊢;have ak:m≤1099511627776:=by omega
 obtain ⟨aa,ab,ac,ad,ae,af⟩:=ZS N;have HH:=Za h;have HO:=Za L;clear h U N L hL J Q;go_enter Tryz.func89,Tryz.ntmps89
 go_wp2_with fail
 clear aa ab ac ad ae af;go_loopw [2] (fun i wr=>∃ (r:Nat) (T:Zh) (t:Int),r≤m∧i=.int .i64 r∧Hid (Moved w wr A T {d with op:=t} F∧Ok T t∧ZD r T t=ZD m S d.op)) (fun i _=>(intOf i).toNat)
 case atStart=>exact ⟨m,S,d.op,Yd _,rfl,Moved.refl HH.out,HO.out,rfl⟩
 case round =>
  obtain ⟨r,T,t,al,rfl,D⟩:=hrel;by_cases ah:0<r
  ·have ai:(0:Int)<(r:Int):=by omega
   obtain ⟨X,hd,R⟩:=D.out.1.step;have Y:=Za (Zss A T {d with op:=t} X wr hd D.out.2.1);have O:=Za R;clear hd R;go_wp2_with fail
   refine Y.out.mono ?_;rintro e V ⟨rfl,ar⟩;obtain ⟨M,rfl⟩:∃ M,r=M+1:=⟨r - 1,by omega⟩;have q:=D.out.2.2;rw [ZD] at q;simp only at ar ⊢;cases I:Zax T t T.wts with
   | none =>
    rw [I] at ar q;simp only [Option.getD_none] at ar;have E:Hid (Moved w V A (ZD m S d.op).1 {d with op:=(ZD m S d.op).2} F):=by
     rw [←q];exact O.out _ _ _ ar
    simp only [Option.isSome_none];clear ar I q;go_wp2_with fail
    refine bodyPost_ret (v:=.tuple #[]) (by simp [results,Tryz.results89,go_sem]) rfl ?_;exact ⟨⟨_,rfl⟩,E.out⟩
   | some y =>
    rw [I] at ar q;simp only [Option.getD_some] at ar q;have E:Hid (Moved w V A y.1 {d with op:=y.2} F∧Ok y.1 y.2∧ZD M y.1 y.2=ZD m S d.op):=⟨O.out _ _ _ ar,D.out.2.1.first I,q⟩;simp only [Option.isSome_some];clear ar I q;go_wp2_with fail
    go_roundw
    case rel=>exact ⟨M,y.1,y.2,by omega,by go_num,E.out⟩
    case measure=>simp [intOf]
  ·obtain rfl:r=0:=by omega
   have E:Hid (Moved w wr A (ZD m S d.op).1 {d with op:=(ZD m S d.op).2} F):=by
    have:=D.out.2.2;rw [ZD] at this;rw [←this];exact D.out.1
   go_wp2_with fail
   refine bodyPost_end (v:=.tuple #[]) (by simp [results,Tryz.results89,go_sem]) rfl ?_;exact ⟨⟨_,rfl⟩,E.out⟩
theorem Zt2 {l:List Wtr} {c:Int} (d:(l.find? (Z3 c)).isSome=false):∀ y∈l,y.client≠c:=by
 intro y h e;have:=Zc0 d y h;simp [Z3,e] at this
theorem Inv.join {S:Zh} {op:Int} (d:Inv S op) {c:Int} {nm:ByteArray} (m:∀ y∈S.wts,y.client≠c):Inv (Zad S c nm) op:=by
 refine ⟨d.ids,d.low,d.op0,?_⟩;show (S.wts++[(⟨c,nm⟩:Wtr)]).Pairwise _;rw [List.pairwise_append];refine ⟨d.cli,by simp,fun a h b hb=>?_⟩;rw [List.mem_singleton.1 hb];exact m a h
theorem Zh2 {S:Zh} {op:Int} (d:Inv S op) (p:Srv→Bool):Inv {S with srv:=S.srv.filter p} op:=⟨d.ids.sublist List.filter_sublist,fun x h=>d.low x (List.mem_filter.1 h).1,d.op0,d.cli⟩
theorem ZqF {S:Zh} {op:Int} (d:Inv S op) (m c:Int):Inv (ZT S m c) op:=by
 have h:∀ x:Srv,(if x.id=m then {x with client:=c} else x).id=x.id:=fun x=>by split <;> rfl
 refine ⟨?_,?_,d.op0,d.cli⟩
 ·show (S.srv.map _).Pairwise _;rw [List.pairwise_map];exact d.ids.imp (fun {a b} q=>by rw [h,h];exact q)
 ·intro x A;obtain ⟨y,D,rfl⟩:=List.mem_map.1 A;rw [h];exact d.low y D
theorem Ok.serve {S:Zh} {op:Int} (d:Ok S op) (f:Nat):Ok (ZD f S op).1 (ZD f S op).2:=by
 have h:=Zc1 f S op;exact ⟨(ZcC f S op d.inv).2,Int.le_trans h.1 d.pot,by rw [h.2.2.1];exact d.pools⟩
def Zsx (r:Res) (w w':World) (gp:Nat) (X:ZB) (F:Nat→Prop) (e:Ending):Prop:=
 e=.returned (.tuple #[.int .i64 r.id,.int .i64 (r.err:Int)])∧Moved w w' gp r.S {X with op:=r.op} F
def ZhK (r:Res) (w w':World) (gp:Nat) (X:ZB) (F:Nat→Prop) (e:Ending):Prop:=
 e=.returned (.int .i64 (r.err:Int))∧Moved w w' gp r.S {X with op:=r.op} F
theorem ZsC (m:Nat) (c:Int) (S:Zh) (d:ZB) (F:Nat→Prop) (w:World) (h:DeskAt w m S d F) (I:Ok S d.op) :
  Calls Tryz.prog 83 #[.pointer (some ⟨m,0,none⟩),.int .i64 c] w fun e w'=>ZhK (ZaI S d.op c) w w' m d F e:=by
 obtain ⟨ak,aj,so,sc,wo,wc,ao,am,ai,ah,L⟩:=h.ex;have hL:=I.inv.op0;have E:=I.pot;unfold pot at E;simp only at E;have ae:S.wts.length≤1099511627776:=by omega
 obtain ⟨X,Y,aa,ab,ac,ad⟩:=ZS L.box;have N:=Za (Zha c w);have O:=Za (ZoZ wo _ wc c S.wts w (Zf L.t.own) rfl (by unfold maxLen;omega));have U:=Za (Zk9 m c S d F w h ae);have M:=Za h;clear h L I hL E;obtain ⟨af,q⟩:∃ b,Zbi c=b:=⟨_,rfl⟩;have A:=Za q;unfold Zbi at q;rw [q] at N;obtain ⟨ag,J⟩:∃ b,(S.wts.find? (Z3 c)).isSome=b:=⟨_,rfl⟩;have Q:=Za J;rw [J] at O;clear q J;go_enter Tryz.func83,Tryz.ntmps83
 go_wp2_with fail
 refine N.out.mono ?_;rintro e w1 ⟨rfl,D⟩;obtain rfl:=D.symm;cases af with
 | false =>
  have ap:Hid (ZaI S d.op c=⟨S,d.op,0,10⟩):=by
   show _=_;unfold ZaI;rw [if_pos A.out]
  go_wp2_with fail
  go_ret
  rw [ap.out];exact ⟨rfl,Moved.refl M.out⟩
 | true =>
  go_wp2_with fail
  refine O.out.mono ?_;rintro e w1 ⟨rfl,D⟩;obtain rfl:=D.symm;cases ag with
  | false =>
   have ap:Hid (ZaI S d.op c=⟨S,d.op,0,14⟩):=by
    show _=_;unfold ZaI;rw [if_neg (by rw [A.out];simp),if_pos Q.out]
   go_wp2_with fail
   go_ret
   rw [ap.out];exact ⟨rfl,Moved.refl M.out⟩
  | true =>
   have ap:Hid (ZaI S d.op c=⟨ZO S c,d.op,0,0⟩):=by
    show _=_;unfold ZaI;rw [if_neg (by rw [A.out];simp),if_neg (by rw [Q.out];simp)]
   go_wp2_with fail
   refine U.out.mono ?_;rintro e al ⟨⟨x,rfl⟩,R⟩;have V:=Za R;clear R X Y aa ab ac ad;go_wp2_with fail
   go_ret
   rw [ap.out];exact ⟨rfl,V.out⟩
theorem Ztm (q:Nat) (au:Int) (S:Zh) (d:ZB) (F:Nat→Prop) (w:World) (h:DeskAt w q S d F) (m:Ok S d.op) :
  Calls Tryz.prog 85 #[.pointer (some ⟨q,0,none⟩),.int .i64 au] w fun e w'=>ZhK (Zau S d.op au) w w' q d F e:=by
 obtain ⟨ao,am,so,sc,wo,wc,ar,aq,al,ak,J⟩:=h.ex;have hL:=m.inv.op0;have E:=m.pot;have ah:=m.inv.len;unfold pot at E;simp only at E;have ai:S.srv.length≤1099511627776:=by omega
 obtain ⟨aa,ab,ac,ad,ae,af⟩:=ZS J.box;have L:=Za (Zpj so _ sc au S.srv w (Zf J.s.own) rfl (by unfold maxLen;omega));have X:=Za (Zi7 q au S d F w h ai);have R:=Za h;have V:Hid (Ok (ZR S au) d.op):=⟨Zh2 m.inv _,m.pot,m.pools⟩;clear h J m hL E ah;obtain ⟨O,I⟩:∃ b,(S.srv.find? (ZjY au)).isSome=b:=⟨_,rfl⟩;have M:Hid ((S.srv.find? (fun x=>x.id == au)).isSome=O):=I;rw [I] at L;clear I;go_enter Tryz.func85,Tryz.ntmps85
 go_wp2_with fail
 refine L.out.mono ?_;rintro e w1 ⟨rfl,ag⟩;obtain rfl:=ag.symm;cases O with
 | false =>
  have D:Hid (Zau S d.op au=⟨S,d.op,0,15⟩):=by
   show _=_;unfold Zau;rw [if_pos M.out]
  go_wp2_with fail
  go_ret
  rw [D.out];exact ⟨rfl,Moved.refl R.out⟩
 | true =>
  have D:Hid (Zau S d.op au=⟨(ZD S.wts.length (ZR S au) d.op).1,(ZD S.wts.length (ZR S au) d.op).2,0,0⟩):=by
   show _=_;unfold Zau;rw [if_neg (by rw [M.out];simp)]
  go_wp2_with fail
  refine X.out.mono ?_;rintro e aj ⟨⟨x,rfl⟩,A⟩;obtain ⟨Q,hd,N⟩:=A.step;have Y:=Za (Zhe q (ZR S au) d Q aj hd V.out);have U:=Za N;clear A hd N aa ab ac ad ae af;go_wp2_with fail
  refine Y.out.mono ?_;rintro e ap ⟨⟨x,rfl⟩,A⟩;have KF:=Za (U.out _ _ _ A);clear A;go_wp2_with fail
  go_ret
  rw [D.out];exact ⟨rfl,KF.out⟩
theorem ZtD (m:Nat) (c:Int) (S:Zh) (ca:ZB) (F:Nat→Prop) (w:World) (h:DeskAt w m S ca F) (O:Ok S ca.op) :
  Calls Tryz.prog 80 #[.pointer (some ⟨m,0,none⟩),.int .i64 c] w fun e w'=>ZhK (ZaH S ca.op c) w w' m ca F e:=by
 obtain ⟨b7,b6,so,sc,wo,wc,b9,b8,b1,bz,az⟩:=h.ex;have hL:=O.inv.op0;have hP:=O.pot;have bu:=O.inv.len;unfold pot at hP;simp only at hP;have be:S.srv.length≤1099511627776:=by omega
 have b0:m<w.heap.size:=h.lt m h.gp;obtain ⟨bm,bo,bp,bq,br,bs⟩:=ZS az.box;have a6:=Za (Zha c w);have HB:=Za (ZhV so _ sc c S.srv w (Zf az.s.own) rfl (by unfold maxLen;omega));have HZ:=Za (ZeY (p:=Zp c) O.inv.nz);have HH:=Za h;have af:=Za O;obtain ⟨⟨d,q,A,D⟩,a0⟩:∃ x,orS (S.srv.find? (Zp c))=x:=⟨_,rfl⟩;rw [a0] at HB HZ;simp only at HZ;have bl:=Za a0;clear h az O hL hP bu a0;obtain ⟨bv,al⟩:∃ b,Zbi c=b:=⟨_,rfl⟩;have ap:=Za al;unfold Zbi at al;rw [al] at a6;clear al;go_enter Tryz.func80,Tryz.ntmps80
 go_wp2_with fail
 refine a6.out.mono ?_;rintro e w1 ⟨rfl,bt⟩;obtain rfl:=bt.symm;cases bv with
 | false =>
  have HR:Hid (ZaH S ca.op c=⟨S,ca.op,0,10⟩):=by
   show _=_;unfold ZaH;rw [if_pos ap.out]
  go_wp2_with fail
  go_ret
  rw [HR.out];exact ⟨rfl,Moved.refl HH.out⟩
 | true =>
  go_wp2_with fail
  refine HB.out.mono ?_;rintro e w1 ⟨rfl,au⟩;obtain ⟨E,ai⟩:∃ E,E=w1.alloc (bSv d q A D):=⟨_,rfl⟩;have av:Below w.heap.size w E:=by rw [ai];exact Zb au (Zc _ _)
  have I:Hid (E=w1.alloc (bSv d q A D)∧E.heap[w1.heap.size]?=some (bSv d q A D)∧Below w.heap.size w E∧¬F w1.heap.size):=⟨ai,by rw [ai];exact Zd _ _ rfl,av,fun N=>by have:=HH.out.lt _ N;have:=au.size;omega⟩;have bi:Hid (DeskAt E m S ca F):=HH.out.keep (G:=fun _=>False) (Chg.of_below av) (fun _ _ h=>h);clear au ai av bm bo bp bq br bs HB;go_upto_region 4 with fail
  rw [←I.out.1];obtain ⟨Q,R,U,V,X⟩:=ZaE I.out.2.1;cases bh:(d == 0) with
  | true =>
   have HR:Hid (ZaH S ca.op c=⟨S,ca.op,0,14⟩):=by
    show _=_;unfold ZaH;rw [if_neg (by rw [ap.out];simp)];cases N:S.srv.find? (Zp c) with
    | none=>rfl
    | some s=>have:=HZ.out;rw [bh,N] at this;simp at this
   go_wp2_with fail
   go_ret
   rw [HR.out];exact ⟨rfl,(Moved.refl HH.out).below I.out.2.2.1⟩
  | false =>
   have bj:Hid (S.srv.find? (Zp c)=some ⟨d,q,A,D⟩):=by
    show _=_;cases N:S.srv.find? (Zp c) with
    | none=>have:=HZ.out;rw [bh,N] at this;simp at this
    | some s=>have:=bl.out;rw [N] at this;exact congrArg some this
   have a1:=Za (Zq3 m d 0 S ca F E bi.out be);go_wp2_with fail
   refine a1.out.mono ?_;rintro e M ⟨⟨x,rfl⟩,ay⟩;have ak:=ay;obtain ⟨_,_,_,ak⟩:=ak;have bf:M.heap[w1.heap.size]?=some (bSv d q A D):=(ak.block _ (Ya.1 I.out.2.1).1 I.out.2.2.2).trans I.out.2.1;obtain ⟨Y,aw,bd⟩:=ay.step;have ag:Hid (Ok (ZT S d 0) ca.op):=⟨ZqF af.out.inv _ _,af.out.pot,af.out.pools⟩;have ax:(ZT S d 0).srv.length≤1099511627776:=by
    show (S.srv.map _).length≤_;rw [List.length_map];exact be
   have a7:=Za (ZqI m d q A D (ZT S d 0) ca Y M aw ax af.out.pools);have L:Hid (DeskAt M m (ZT S d 0) ca Y∧(∀ J a8 a9,Moved M J m a8 a9 Y→Moved E J m a8 a9 F)∧M.heap[w1.heap.size]?=some (bSv d q A D)∧(ZT S d 0).srv.length≤1099511627776):=⟨aw,bd,bf,ax⟩;clear ay ak bf aw bd ax Q R U V X a1;obtain ⟨Q,R,U,V,X⟩:=ZaE L.out.2.2.1;go_wp2_with fail
   refine a7.out.mono ?_;rintro e J ⟨rfl,aj⟩;have ae:Hid (ZaH S ca.op c=⟨(ZD S.wts.length (if ZaY (ZT S d 0) ⟨d,q,A,D⟩=true then ZR (ZT S d 0) d else ZT S d 0) ca.op).1,(ZD S.wts.length (if ZaY (ZT S d 0) ⟨d,q,A,D⟩=true then ZR (ZT S d 0) d else ZT S d 0) ca.op).2,0,0⟩):=by
    show _=_;unfold ZaH;rw [if_neg (by rw [ap.out];simp),bj.out]
   have bg:J.heap[w1.heap.size]?=some (bSv d q A D):=(aj.block _ (Ya.1 L.out.2.2.1).1).trans L.out.2.2.1;have ah:Hid (DeskAt J m (ZT S d 0) ca Y∧Below M.heap.size M J):=⟨L.out.1.keep (G:=fun _=>False) (Chg.of_below aj) (fun _ _ h=>h),aj⟩;clear Q R U V X aj;obtain ⟨Q,R,U,V,X⟩:=ZaE bg;clear bg a7;cases am:ZaY (ZT S d 0) ⟨d,q,A,D⟩ with
   | true =>
    rw [am,if_pos rfl] at ae;have bk:=Za (Zi7 m d (ZT S d 0) ca Y J ah.out.1 L.out.2.2.2);clear am;go_wp2_with fail
    refine bk.out.mono ?_;rintro e bw ⟨⟨x,rfl⟩,bc⟩;have ac:=L.out.2.1 _ _ _ (Moved.after ah.out.2 bc);obtain ⟨ao,aa,ad⟩:=ac.step;have ar:=Za (Zhe m (ZR (ZT S d 0) d) ca ao bw aa ⟨Zh2 ag.out.inv _,ag.out.pot,ag.out.pools⟩);have aq:=Za ad;clear bc ac aa ad Q R U V X;go_wp2_with fail
    refine ar.out.mono ?_;rintro e bx ⟨⟨x,rfl⟩,ab⟩;have KF:=Za (Moved.after I.out.2.2.1 (aq.out _ _ _ ab));clear ab;go_wp2_with fail
    go_ret
    rw [ae.out];exact ⟨rfl,KF.out⟩
   | false =>
    rw [am,if_neg (by simp)] at ae;have ac:=L.out.2.1 _ _ _ (Moved.after ah.out.2 (Moved.refl ah.out.1));obtain ⟨ao,aa,ad⟩:=ac.step;have ar:=Za (Zhe m (ZT S d 0) ca ao J aa ag.out);have aq:=Za ad;clear ac aa ad am;go_wp2_with fail
    refine ar.out.mono ?_;rintro e bx ⟨⟨x,rfl⟩,ab⟩;have KF:=Za (Moved.after I.out.2.2.1 (aq.out _ _ _ ab));clear ab Q R U V X;go_wp2_with fail
    go_ret
    rw [ae.out];exact ⟨rfl,KF.out⟩
theorem Zt5 (eb:Nat) (c:Int) (m:ByteArray) (S:Zh) (d:ZB) (F:Nat→Prop) (w:World) (h:DeskAt w eb S d F) (ai:Ok S d.op) (aw:pot (S,d.op)+1≤549755813888) :
  Calls Tryz.prog 74 #[.pointer (some ⟨eb,0,none⟩),.int .i64 c,.string m] w fun e w'=>Zsx (ZaD S d.op c m) w w' eb d F e:=by
 have hL:=ai.inv.op0;have c0:=ai.inv.len;have cv:=Za aw;unfold pot at aw;simp only at aw;have c8:S.srv.length≤1099511627776:=by omega
 have c9:S.wts.length+1≤1099511627776:=by omega
 have dv:eb<w.heap.size:=h.lt eb h.gp;have bw:=Za (Zha c w);have bv:=Za (Ztr eb c S d F w h ai.inv.nz c8 (by omega));have HH:=Za h;have a9:=Za ai;clear h ai hL c0 aw;obtain ⟨dc,au⟩:∃ b,Zbi c=b:=⟨_,rfl⟩;have am:=Za au;unfold Zbi at au;rw [au] at bw;obtain ⟨bb,bh⟩:∃ b,((S.srv.find? (Zp c)).isSome||(S.wts.find? (Z3 c)).isSome)=b:=⟨_,rfl⟩;have ak:=Za bh;rw [bh] at bv;clear au bh;go_enter Tryz.func74,Tryz.ntmps74
 go_wp2_with fail
 refine bw.out.mono ?_;rintro e w1 ⟨rfl,be⟩;obtain rfl:=be.symm;cases dc with
 | false =>
  have D:Hid (ZaD S d.op c m=⟨S,d.op,0,10⟩):=by
   show _=_;unfold ZaD;rw [if_pos am.out]
  go_wp2_with fail
  go_ret2
  rw [D.out];exact ⟨rfl,Moved.refl HH.out⟩
 | true =>
  go_wp2_with fail
  refine bv.out.mono ?_;rintro e w1 ⟨rfl,b9⟩;have a6:=Za b9;clear b9;cases bb with
  | true =>
   have D:Hid (ZaD S d.op c m=⟨S,d.op,0,11⟩):=by
    show _=_;unfold ZaD;rw [if_neg (by rw [am.out];simp),if_pos ak.out]
   go_wp2_with fail
   go_ret2
   rw [D.out];exact ⟨rfl,(Moved.refl HH.out).below a6.out⟩
  | false =>
   have a8:Hid (DeskAt w1 eb S d F):=HH.out.keep (G:=fun _=>False) (Chg.of_below a6.out) (fun _ _ h=>h);obtain ⟨de,dd,so,sc,wo,wc,d8,d6,dw,dt,ax⟩:=a8.out.ex;obtain ⟨aa,ab,ac,ad,ae,af⟩:=ZS ax.box;have al:=Za (Zjp de _ dd m S.pools w1 (Zf ax.p.own) rfl (by have:=a9.out.pools;unfold maxLen;omega));have HX:=Za ax;rw [Zit] at al;obtain ⟨⟨⟨ea,R,L,Q⟩,cl⟩,bk⟩:∃ y:Pl×Bool,((S.pools.find? (Zl m)).getD zPl,(S.pools.find? (Zl m)).isSome)=y:=⟨_,rfl⟩;have V:Hid ((S.pools.find? (Zl m)).getD zPl=⟨ea,R,L,Q⟩∧(S.pools.find? (Zl m)).isSome=cl):=⟨congrArg Prod.fst bk,congrArg Prod.snd bk⟩;rw [V.out.1,V.out.2] at al;clear ax bk;go_wp2_with fail
   refine al.out.mono ?_;rintro e O ⟨rfl,bg⟩;obtain ⟨E,ap⟩:∃ E,E=O.alloc (ZF ⟨ea,R,L,Q⟩):=⟨_,rfl⟩;have J:Below w1.heap.size w1 E:=by rw [ap];exact Zb bg (Zc _ _)
   have Y:Hid (E=O.alloc (ZF ⟨ea,R,L,Q⟩)∧E.heap[O.heap.size]?=some (ZF ⟨ea,R,L,Q⟩)∧Below w1.heap.size w1 E∧¬F O.heap.size):=⟨ap,by rw [ap];exact Zd _ _ rfl,J,fun I=>by have:=a8.out.lt _ I;have:=bg.size;omega⟩;have KB:Hid (Below w.heap.size w E):=Zb a6.out J;have cr:Hid (DeskAt E eb S d F):=a8.out.keep (G:=fun _=>False) (Chg.of_below J) (fun _ _ h=>h);clear bg ap J aa ab ac ad ae af al;go_upto_region 6 with fail
   rw [←Y.out.1];obtain ⟨bo,bp,bq,br,bs⟩:=ZaE Y.out.2.1;cases cl with
   | false =>
    have D:Hid (ZaD S d.op c m=⟨S,d.op,0,12⟩):=by
     show _=_;unfold ZaD;rw [if_neg (by rw [am.out];simp),if_neg (by rw [ak.out];simp)];cases I:S.pools.find? (Zl m) with
     | none=>rfl
     | some y=>have:=V.out.2;rw [I] at this;simp at this
    go_wp2_with fail
    go_ret2
    rw [D.out];exact ⟨rfl,(Moved.refl HH.out).below KB.out⟩
   | true =>
    have cw:Hid (S.pools.find? (Zl m)=some ⟨ea,R,L,Q⟩):=by
     show _=_;cases I:S.pools.find? (Zl m) with
     | none=>have:=V.out.2;rw [I] at this;simp at this
     | some y=>have:=V.out.1;rw [I] at this;rw [←this];rfl
    have U:Hid (ZaD S d.op c m=match (ZL S d.op c ea).1.srv.find? (Zp c) with
      | some s=>⟨(ZL S d.op c ea).1,(ZL S d.op c ea).2,s.id,0⟩
      | none=>if L<(Zs (Zq ea) (ZL S d.op c ea).1.wts:Int) then ⟨ZO (ZL S d.op c ea).1 c,(ZL S d.op c ea).2,0,13⟩
       else ⟨(ZL S d.op c ea).1,(ZL S d.op c ea).2,0,0⟩):=by
     show _=_;unfold ZaD;rw [if_neg (by rw [am.out];simp),if_neg (by rw [ak.out];simp),cw.out];rfl
    have ct:Hid (∀ y∈S.wts,y.client≠c):=Zt2 (by
     have:=ak.out;cases c7:(S.wts.find? (Z3 c)).isSome with
     | false=>rfl
     | true=>rw [c7] at this;simp at this)
    have bz:Hid (Ok (Zad S c ea) d.op):=by
     refine ⟨a9.out.inv.join ct.out,?_,a9.out.pools⟩;have:=cv.out;unfold pot Zad at *;simp at this ⊢;omega
    have HJ:=Za (Ztp eb c ea S d F E cr.out c9);go_wp2_with fail
    refine HJ.out.mono ?_;rintro e di ⟨⟨x,rfl⟩,cg⟩;obtain ⟨cp,cc,ch⟩:=cg.step;have aj:=Zhe eb (Zad S c ea) d cp di cc bz.out;have cf:(Zad S c ea).wts.length=S.wts.length+1:=by simp [Zad]
    rw [cf] at aj;have av:=bz.out.serve (S.wts.length+1);obtain ⟨⟨T,t⟩,hT⟩:∃ y,ZL S d.op c ea=y:=⟨_,rfl⟩;have b8:ZD (S.wts.length+1) (Zad S c ea) d.op=(T,t):=hT;rw [b8] at aj av;rw [hT] at U;simp only at aj av U;have b1:=Za aj;have bx:=Za ch;have X:=Za av;clear cg cc ch aj av hT b8 cf bo bp bq br bs HJ;go_wp2_with fail
    refine b1.out.mono ?_;rintro e M ⟨⟨x,rfl⟩,ah⟩;have KM:Hid (Moved E M eb T {d with op:=t} F):=bx.out _ _ _ ah;obtain ⟨dq,ar,cz,bi⟩:=KM.out;have dr:T.srv.length≤549755813888:=by have be:=X.out.inv.len;have ag:=X.out.pot;unfold pot at ag;simp at ag;omega
    have ds:T.wts.length≤549755813888:=by have be:=X.out.inv.op0;have ag:=X.out.pot;unfold pot at ag;simp at ag;omega
    have b0:Hid (M.heap[O.heap.size]?=some (ZF ⟨ea,R,L,Q⟩)∧O.heap.size<M.heap.size):=by
     have z:=(Ya.1 Y.out.2.1).1;exact ⟨(bi.block _ z Y.out.2.2.2).trans Y.out.2.1,Yl z bi.size⟩
    have c6:eb<M.heap.size:=ar.lt eb ar.gp;obtain ⟨d0,dz,dh,df,co,cm,d9,d7,dx,du,ay⟩:=ar.ex;obtain ⟨aa,ab,ac,ad,ae,af⟩:=ZS ay.box;have a7:=Za (ZhV dh _ df c T.srv M (Zf ay.s.own) rfl (by unfold maxLen;omega));have HZ:=Za (ZeY (p:=Zp c) X.out.inv.nz);obtain ⟨⟨N,az,a0,a1⟩,bm⟩:∃ x,orS (T.srv.find? (Zp c))=x:=⟨_,rfl⟩;rw [bm] at a7 HZ;simp only at HZ;have cy:=Za bm;have b7:=Za ay;clear ah ar cz bi ay bm b1 bx;go_wp2_with fail
    refine a7.out.mono ?_;rintro e bt ⟨rfl,ca⟩;obtain ⟨A,aq⟩:∃ A,A=bt.alloc (bSv N az a0 a1):=⟨_,rfl⟩;have J:Below M.heap.size M A:=by rw [aq];exact Zb ca (Zc _ _)
    have KV:Hid (A=bt.alloc (bSv N az a0 a1)∧A.heap[bt.heap.size]?=some (bSv N az a0 a1)∧Below M.heap.size M A):=⟨aq,by rw [aq];exact Zd _ _ rfl,J⟩;have bc:Hid (Moved E A eb T {d with op:=t} F):=KM.out.below J;have cd:=b7.out.nx c6 J;have cj:A.heap[O.heap.size]?=some (ZF ⟨ea,R,L,Q⟩):=(J.block _ b0.out.2).trans b0.out.1;clear ca aq J aa ab ac ad ae af a7;go_upto_region 11 with fail
    rw [←KV.out.1];obtain ⟨dj,dk,dl,dm,dp⟩:=ZaE KV.out.2.1;obtain ⟨aa,ab,ac,ad,ae,af⟩:=ZS cd;obtain ⟨bo,bp,bq,br,bs⟩:=ZaE cj;clear cd cj;cases ck:(N != 0) with
    | true =>
     have D:Hid (ZaD S d.op c m=⟨T,t,N,0⟩):=by
      show _=_;have bd:(N == 0)=false:=by simpa [bne] using ck
      rw [U.out];cases I:T.srv.find? (Zp c) with
      | none=>have:=HZ.out;rw [bd,I] at this;simp at this
      | some s =>
       have:=cy.out;rw [I] at this;simp only;rw [show s.id=N by rw [show s=⟨N,az,a0,a1⟩ from this]]
     go_wp2_with fail
     go_ret2
     rw [D.out];exact ⟨rfl,Moved.after KB.out bc.out⟩
    | false =>
     have cs:Hid (T.srv.find? (Zp c)=none):=by
      show _=_;have bd:(N == 0)=true:=by simpa [bne] using ck
      cases I:T.srv.find? (Zp c) with
      | none=>rfl
      | some s=>have:=HZ.out;rw [bd,I] at this;simp at this
     obtain ⟨q,bl⟩:∃ q,Zs (Zq ea) T.wts=q:=⟨_,rfl⟩;have HQ:Hid (Zs (Zq ea) T.wts=q):=bl;have dy:q≤549755813888:=by
      rw [←bl];have:Zs (Zq ea) T.wts≤T.wts.length:=Yp _ _;omega
     have b6:Hid (∀ u,Below A.heap.size A u→Calls Tryz.prog 124 #[.slice co T.wts.length cm,.string ea] u fun e w'=>e=.returned (.int .i64 (q:Int))∧w'=u):=by
      intro u db;have:=Zh4 co T.wts.length cm ea T.wts u (((Zf b7.out.t.own).nx KV.out.2.2).nx db) rfl (by unfold maxLen;omega);rw [HQ.out] at this;exact this
     have bu:Hid (ZaD S d.op c m=if L<(q:Int) then ⟨ZO T c,t,0,13⟩ else ⟨T,t,0,0⟩):=by
      show _=_;rw [U.out,cs.out];simp only;rw [HQ.out]
     clear bl U;go_upto_region 13 with fail
     cases bj:decide (L<(q:Int)) with
     | true =>
      have D:Hid (ZaD S d.op c m=⟨ZO T c,t,0,13⟩):=by
       show _=_;rw [bu.out,if_pos (of_decide_eq_true bj)]
      go_quiet ((go_at_call 124;exact Calls.quiet_of_same (b6.out _ (below_drewN (Yh _ _) _))))
      obtain ⟨ao,bf⟩:∃ ao,A.drewN nq=ao:=⟨_,rfl⟩;have cb:Below A.heap.size A ao:=by rw [←bf];exact below_drewN (Yh _ _) _
      rw [bf];obtain ⟨cq,ce,ci⟩:=(bc.out.below cb).step;have cx:=Za (Zk9 eb c T {d with op:=t} cq ao ce (by omega));have cu:=Za ci;clear bf cb ce ci bj aa ab ac ad ae af bo bp bq br bs dj dk dl dm dp;go_wp2_with fail
      refine cx.out.mono ?_;rintro e d1 ⟨⟨x,rfl⟩,ah⟩;have KF:=Za (Moved.after KB.out (cu.out _ _ _ ah));clear ah;go_wp2_with fail
      go_ret2
      rw [D.out];exact ⟨rfl,KF.out⟩
     | false =>
      have D:Hid (ZaD S d.op c m=⟨T,t,0,0⟩):=by
       show _=_;rw [bu.out,if_neg (of_decide_eq_false bj)]
      go_quiet ((go_at_call 124;exact Calls.quiet_of_same (b6.out _ (below_drewN (Yh _ _) _))))
      go_wp2_with fail
      go_ret2
      rw [D.out];exact ⟨rfl,Moved.after KB.out (bc.out.below (below_drewN (Yh _ _) _))⟩
theorem Zt4 (L:Nat) (c:Int) (m:ByteArray) (S:Zh) (d:ZB) (F:Nat→Prop) (w:World) (h:DeskAt w L S d F) (A:Ok S d.op) (D:pot (S,d.op)+1≤549755813888) :
  Calls Tryz.prog 38 #[.pointer (some ⟨L,0,none⟩),.int .i64 c,.string m] w fun e J=>Zsx (ZaD S d.op c m) w J L d F e:=by
 have E:=Za (Zt5 L c m S d F w h A D);clear h A D;go_enter Tryz.func38,Tryz.ntmps38
 go_wp2_with fail
 refine E.out.mono ?_;rintro e w1 ⟨rfl,q⟩;have I:=Za q;clear q;go_wp2_with fail
 go_ret2
 exact ⟨rfl,I.out⟩
theorem ZtR (I:Nat) (c:Int) (S:Zh) (d:ZB) (F:Nat→Prop) (w:World) (h:DeskAt w I S d F) (q:Ok S d.op) :
  Calls Tryz.prog 40 #[.pointer (some ⟨I,0,none⟩),.int .i64 c] w fun e E=>ZhK (ZaH S d.op c) w E I d F e:=by
 have A:=Za (ZtD I c S d F w h q);clear h q;go_enter Tryz.func40,Tryz.ntmps40
 go_wp2_with fail
 refine A.out.mono ?_;rintro e w1 ⟨rfl,m⟩;have D:=Za m;clear m;go_wp2_with fail
 go_ret
 exact ⟨rfl,D.out⟩
theorem Zsj (I:Nat) (c:Int) (S:Zh) (d:ZB) (F:Nat→Prop) (w:World) (h:DeskAt w I S d F) (q:Ok S d.op) :
  Calls Tryz.prog 42 #[.pointer (some ⟨I,0,none⟩),.int .i64 c] w fun e E=>ZhK (ZaI S d.op c) w E I d F e:=by
 have A:=Za (ZsC I c S d F w h q);clear h q;go_enter Tryz.func42,Tryz.ntmps42
 go_wp2_with fail
 refine A.out.mono ?_;rintro e w1 ⟨rfl,m⟩;have D:=Za m;clear m;go_wp2_with fail
 go_ret
 exact ⟨rfl,D.out⟩
theorem Zsm (J:Nat) (m:Int) (S:Zh) (d:ZB) (F:Nat→Prop) (w:World) (h:DeskAt w J S d F) (A:Ok S d.op) :
  Calls Tryz.prog 44 #[.pointer (some ⟨J,0,none⟩),.int .i64 m] w fun e I=>ZhK (Zau S d.op m) w I J d F e:=by
 have D:=Za (Ztm J m S d F w h A);clear h A;go_enter Tryz.func44,Tryz.ntmps44
 go_wp2_with fail
 refine D.out.mono ?_;rintro e w1 ⟨rfl,q⟩;have E:=Za q;clear q;go_wp2_with fail
 go_ret
 exact ⟨rfl,E.out⟩
structure TS (w:World) (b:Int) (sv:Value) (v:Value) (q:Nat) (acc:List Pl) (wr:World):Prop where
 h0:wr.heap[w.heap.size]?=some (Zi b sv)
 h1:wr.heap[w.heap.size+1]?=some (Zi 0 (.slice none 0 0))
 h2:wr.heap[w.heap.size+2]?=some (Zi b v)
 own:wr.ownsRow (w.heap.size+3) 82 4 v q (Ze acc)
 bel:Below w.heap.size w wr
 sz:w.heap.size+3≤wr.heap.size
theorem TS.drew {w:World} {b:Int} {q v:Value} {m:Nat} {h:List Pl} {wr:World} (d:TS w b q v m h wr):TS w b q v m h wr.drew:=⟨d.h0,d.h1,d.h2,d.own,d.bel.drew,d.sz⟩
theorem TS.app {w wr h:World} {b:Int} {E v D:Value} {q:Nat} {m:List Pl} {x:Pl} {o:Obj} (d:TS w b E v q m wr)
  (O:(wr.alloc o).grownBy h v.ownBlock) (L:h.ownsRow (w.heap.size+3) 82 4 D (q+1) (Ze m++[.string x.nm,.int .i64 x.sz,.int .i64 x.wt,.int .i64 x.fr])) :
  TS w b E D (q+1) (m++[x]) (h.setCell ⟨w.heap.size+2,1,none⟩ D):=by
 have N:=d.sz;have A:∀ k,k<w.heap.size+3→h.heap[k]?=wr.heap[k]?:=by
  intro k M;refine (O.block k (by simp;omega) ?_).trans (Zt _ _ (by omega));intro e;have:=(d.own.lt k e.symm).1;omega
 have I:h.heap[w.heap.size+2]?=some (Zi b v):=(A _ (by omega)).trans d.h2;refine ⟨?_,?_,Zm _ _ _ _ _ _ I,?_,?_,?_⟩
 ·exact (Yf _ _ _ _ (by show w.heap.size≠w.heap.size+2;omega)).trans ((A _ (by omega)).trans d.h0)
 ·exact (Yf _ _ _ _ (by show w.heap.size+1≠w.heap.size+2;omega)).trans ((A _ (by omega)).trans d.h1)
 ·refine Yi (by rw [Zbe];exact L) (by show w.heap.size+2<_;omega) _
 ·refine Below.setCell ?_ (by show w.heap.size≤w.heap.size+2;omega) _;exact (d.bel.alloc d.bel.size _).grown O (by simp;omega) (fun g J=>by have:=(d.own.lt g J).1;omega)
 ·have:=O.size;simp at this ⊢;omega
theorem TS.cells {w wd:World} {b:Int} {n D q k d off:Nat} {v:Value} {I:List Pl} {x:Pl} (h:TS w b (.slice (some ⟨d,off,none⟩) n D) v q I wd) (L:d<w.heap.size)
  (Q:w.cell? ⟨d,off+k*4,none⟩=some (.string x.nm)∧w.cell? ⟨d,off+k*4+1,none⟩=some (.int .i64 x.sz)∧w.cell? ⟨d,off+k*4+2,none⟩=some (.int .i64 x.wt)∧w.cell? ⟨d,off+k*4+3,none⟩=some (.int .i64 x.fr)) :
  ∀ w1:World,(∀ k,k<wd.heap.size→some k≠v.ownBlock→w1.heap[k]?=wd.heap[k]?) →
   w1.cell? ⟨w.heap.size+2,1,none⟩=some v∧w1.frozen? ⟨w.heap.size+2,1,none⟩=false∧w1.cell? ⟨w.heap.size,1,none⟩=some (.slice (some ⟨d,off,none⟩) n D) ∧
   w1.cell? ⟨d,off+k*4,none⟩=some (.string x.nm)∧w1.cell? ⟨d,off+k*4+1,none⟩=some (.int .i64 x.sz)∧w1.cell? ⟨d,off+k*4+2,none⟩=some (.int .i64 x.wt)∧w1.cell? ⟨d,off+k*4+3,none⟩=some (.int .i64 x.fr):=by
 intro w1 M;have O:=h.sz;have A:∀ j,j<w.heap.size+3→w1.heap[j]?=wd.heap[j]?:=by
  intro j N;refine M j (by omega) (fun e=>?_);have:=(h.own.lt j e.symm).1;omega
 have E:w1.heap[w.heap.size+2]?=some (Zi b v):=(A _ (by omega)).trans h.h2;have J:w1.heap[w.heap.size]?=some (Zi b (.slice (some ⟨d,off,none⟩) n D)):=(A _ (by omega)).trans h.h0;have m:w1.heap[d]?=w.heap[d]?:=(A _ (by omega)).trans (h.bel.block _ L);exact ⟨(Zw E).2.1,(Zw E).2.2 1,(Zw J).2.1,(Yn m).trans Q.1,(Yn m).trans Q.2.1,(Yn m).trans Q.2.2.1,(Yn m).trans Q.2.2.2⟩
theorem Zgg (b:Int) (ps:List Pl) (I:Option Addr) (n vc:Nat) (w:World) (ab:RowAt w (.slice I n vc) n (Ze ps)) (X:ps.length=n) (bg:n≤1099511627776) :
  Calls Tryz.prog 51 #[.agg #[.int .i64 b,.slice I n vc]] w fun e w'=>∃ m h,e=.returned (.agg #[.int .i64 b,.slice m n h])∧w'.ownsRow w.heap.size 82 4 (.slice m n h) n (Ze ps)∧Below w.heap.size w w':=by
 obtain ⟨ay,aj,ao,ap,aq⟩:=info_parts ZhP;have L:Hid (RowAt w (.slice I n vc) n (Ze ps)∧ps.length=n):=⟨ab,X⟩;clear ab X;go_enter Tryz.func51,Tryz.ntmps51
 go_wp2_with fail
 go_loopw [4] (fun i wr=>∃ (k:Nat) (m:Option Addr) (h:Nat),k≤n∧i=.int .i64 k∧Hid (TS w b (.slice I n vc) (.slice m k h) k (ps.take k) wr)) (fun i _=>n - (intOf i).toNat)
 case atStart =>
  refine ⟨0,none,0,Ye _,rfl,?_,?_,?_,Yq _ _ _ _,Zb (Zb (Zc _ _) (Zc _ _)) (Zc _ _),by simp⟩
  ·exact (Zn _ _ (by simp;omega)).trans ((Zn _ _ (by simp)).trans (Zd _ _ rfl))
  ·exact (Zn _ _ (by simp)).trans (Zd _ _ (by simp))
  ·exact Zd _ _ (by simp)
 case round =>
  obtain ⟨k,m,h,bd,rfl,d⟩:=hrel;have bh:w.heap.size+3≤wr.heap.size:=d.out.sz;by_cases al:k<n
  ·obtain ⟨x,O⟩:∃ x,ps[k]?=some x:=⟨_,Yb (by rw [L.out.2];exact al)⟩;obtain ⟨a6,off,rfl,ai,U,V,d2,d3⟩:=ZJ L.out.1 O;have HX:Hid (ps.take (k+1)=ps.take k++[x]):=by
    obtain ⟨ak,e⟩:=Yc.1 O;show _=_;rw [Yk ak,e]
   obtain ⟨D,E,J,A⟩:=x;have q:=Za (d.out.cells (x:=⟨D,E,J,A⟩) ai ⟨U,V,d2,d3⟩);simp only at q;clear U V d2 d3 O;have bf:(k:Int)<(n:Int):=by omega
   have bc:(0:Int)≤(k:Int):=by omega
   obtain ⟨av,aw,s2,s3,ax,s5,s6⟩:=q.out wr (fun _ _ _=>rfl);have aa:=d.out.own;have sA:∀ o,(wr.alloc o).cell? ⟨w.heap.size+2,1,none⟩=some (.slice m k h):=fun o=>(q.out (wr.alloc o) (fun j N _=>Zt _ _ N)).1
   go_upto_region 5 with fail
   go_region_law
    ((refine step_append_lies _ (by rfl) (.tmp 16) (.tmp 22) 37 (by rfl) (w.heap.size+3) 82 ay _ 4 40 Tryz.underlying37 aj ao ap aq (by rfl) (by decide) _ k (Ze (ps.take k)) (by rfl) (aa.alloc _) ⟨wr.heap.size,0,none⟩ 1 1 [.string D,.int .i64 E,.int .i64 J,.int .i64 A] (by rfl) (by rfl) (Zar _ [.string D,.int .i64 E,.int .i64 J,.int .i64 A] _) (by intro u ac;simp at ac;rcases ac with rfl | rfl | rfl | rfl <;> rfl) (by omega) (by unfold maxLen;omega) (by omega) (by simp;omega) (wr.heap.size+1) (by simp) ?_;intro ag af bi Y M ah be;obtain ⟨ar,au,_⟩:=q.out bi (fun j N am=>(M.block j (by simp;omega) am).trans (Zt _ _ N))))
   all_goals
    have Q:=Za (TS.app (x:=Pl.mk D E J A) d.out.drew M Y);rw [←HX.out] at Q;clear Y M ah ar au av aw s2 s3 ax s5 s6 sA aa;go_wp2_with fail
    go_roundw
    case rel=>exact ⟨k+1,some ⟨ag,0,none⟩,af,by omega,by go_num,Q.out⟩
    case measure=>simp [intOf];omega
  ·obtain rfl:k=n:=by omega
   obtain ⟨a0,a1,az⟩:=Zw d.out.h0;obtain ⟨ad,ae,a7⟩:=Zw d.out.h1;obtain ⟨a8,c1,a9⟩:=Zw d.out.h2;have R:Hid (wr.ownsRow (w.heap.size+3) 82 4 (.slice m k h) k (Ze ps)∧Below w.heap.size w wr):=by
    refine ⟨?_,d.out.bel⟩;have:=d.out.own
    rwa [Yj (by rw [L.out.2];exact Yd _)] at this
   go_wp2_with fail
   refine bodyPost_ret (v:=.agg #[.int .i64 b,.slice m k h]) (by simp [results,Tryz.results51,go_sem,ad,ae]) rfl ⟨m,h,rfl,?_,?_⟩
   ·exact Zr (Yi (Yi R.out.1 (by show w.heap.size+1<_;omega) _) (by show w.heap.size+1<_;omega) _) (by omega)
   ·exact (R.out.2.setCell (by show w.heap.size≤w.heap.size+1;omega) _).setCell (by show w.heap.size≤w.heap.size+1;omega) _
abbrev bWd (c0 c1 c2 c3 c4 c5 c6 c7 c8 c9:Value):Obj:=.cells #[c0,c1,c2,c3,c4,c5,c6,c7,c8,c9] 46
abbrev zW:Obj:=bWd (.int .i64 0) (.slice none 0 0) (.slice none 0 0) (.slice none 0 0) (.slice none 0 0) (.bool false) (.bool false) (.int .i64 0) (.int .i64 0) (.slice none 0 0)
theorem Zg {w:World} {g:Nat} {d c1 c2 c3 c4 c5 D m q A:Value} {t:TypeId} (h:w.heap[g]?=some (.cells #[d,c1,c2,c3,c4,c5,D,m,q,A] t (0,0))) :
  w.cell? ⟨g,0,none⟩=some d∧w.cell? ⟨g,1,none⟩=some c1∧w.cell? ⟨g,2,none⟩=some c2∧w.cell? ⟨g,3,none⟩=some c3∧w.cell? ⟨g,4,none⟩=some c4∧w.cell? ⟨g,5,none⟩=some c5∧w.cell? ⟨g,6,none⟩=some D∧w.cell? ⟨g,7,none⟩=some m∧w.cell? ⟨g,8,none⟩=some q∧w.cell? ⟨g,9,none⟩=some A∧∀ a,w.frozen? ⟨g,a,none⟩=false:=by
 refine ⟨?_,?_,?_,?_,?_,?_,?_,?_,?_,?_,fun a=>?_⟩ <;> simp [World.cell?,World.frozen?,h]
theorem Zk {u v:World} {g:Nat} {o:Obj} (d:u.heap[g]?=some o) (hb:Below u.heap.size u v):v.heap[g]?=some o:=(hb.block g (Ya.1 d).1).trans d
theorem Znb {F:Nat→Prop} {u v:World} {g:Nat} {o:Obj} (d:u.heap[g]?=some o) (h:Chg F u v) (hF:¬F g):v.heap[g]?=some o:=(h.block g (Ya.1 d).1 hF).trans d
theorem Zd6 {u wr d:World} {h:Nat} {o:Obj} {v:Value} {e:TypeId} {sz n:Nat} {D:List Value} (m:Chg (fun y=>y=h) u wr) (A:wr.ownsRow u.heap.size e sz v n D) (q:(wr.alloc o).grownBy d v.ownBlock) :
  ∀ b,b<u.heap.size→d.heap[b]?=wr.heap[b]?:=by
 intro b hb;have:=m.size;refine (q.block b (by simp;omega) ?_).trans (Zt _ _ (by omega));intro e;have:=(A.lt b e.symm).1;omega
theorem ZeN {u wr D:World} {d j:Nat} {o:Obj} {v m:Value} {e:TypeId} {sz n:Nat} {M:List Value} (h:Chg (fun y=>y=d) u wr) (J:wr.ownsRow u.heap.size e sz v n M) (A:(wr.alloc o).grownBy D v.ownBlock) :
  Chg (fun y=>y=d) u (D.setCell ⟨d,j,none⟩ m):=by
 have I:=Zd6 h J A;have L:=A.size;have N:=h.size;have q:Below 0 wr D:=((Yh 0 wr).alloc (Ye _) o).grown A (Ye _) (fun _ _=>Ye _);refine ⟨?_,?_,?_,?_,fun b hb E=>?_⟩
 ·exact ((q.setCell (Ye (⟨d,j,none⟩:Addr).block) m).os).trans h.os
 ·exact ((q.setCell (Ye (⟨d,j,none⟩:Addr).block) m).tape).trans h.tape
 ·exact ((q.setCell (Ye (⟨d,j,none⟩:Addr).block) m).output).trans h.output
 ·simp at L ⊢;omega
 ·exact (Yf _ _ _ _ E).trans ((I b hb).trans (h.block b hb E))
end Lw
end Go.Proofs.YtmgkcbdlfodjmaaGreatDoor
