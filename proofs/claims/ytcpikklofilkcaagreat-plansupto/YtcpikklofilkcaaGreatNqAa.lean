import Derived.Test.YtcpikklofilkcaaGreatNqV
import Derived.Test.YtcpikklofilkcaaGreatNqZ
set_option maxRecDepth 100000
set_option maxHeartbeats 16000000
namespace Go.Proofs.YtcpikklofilkcaaGreat
open Go.RowKit
namespace Lw
open Co
def lastP {α:Type} (p:α→Bool) (l:List α):Option α:=(l.filter p).getLast?
theorem ZbN {α:Type} {p:α→Bool} {l:List α} {k:Nat} {x:α} (hx:l[k]?=some x):lastP p (l.take (k+1))=if p x=true then some x else lastP p (l.take k):=by
 obtain ⟨hk,e⟩:=List.getElem?_eq_some_iff.1 hx;unfold lastP;rw [List.take_succ_eq_append_getElem hk,List.filter_append,e];cases hp:p x <;> simp [hp]
abbrev zWtr:Wtr:=⟨0,⟨#[]⟩⟩
def orW (o:Option Wtr):Wtr:=match o with | some s=>s | none=>zWtr
abbrev bSx (x:Srv):Obj:=bSv x.id x.pool x.far x.client
abbrev bWx (x:Wtr):Obj:=bWt x.client x.pool
theorem cLastIdle (ao:Option Addr) (n ac:Nat) (ss:List Srv) (w:World) (hr:RowAt w (.slice ao n ac) n (flatV ss)) (hn:ss.length=n) (hlen:n≤maxLen) :
  Calls Tryz.prog 146 #[.slice ao n ac] w fun e w'=>e=.returned (svA (orS (lastP (isCliV 0) ss)))∧Below w.heap.size w w':=by
 unfold maxLen at hlen;have hb0:Below w.heap.size w ((w.alloc (bSx zSrv)).alloc (bSx zSrv)):=Za (Zb _ _) (Zb _ _);have HR:Hid (RowAt w (.slice ao n ac) n (flatV ss)∧ss.length=n):=⟨hr,hn⟩;have HZ:Hid (Below w.heap.size w ((w.alloc (bSx zSrv)).alloc (bSx zSrv))∧((w.alloc (bSx zSrv)).alloc (bSx zSrv)).heap[w.heap.size]?=some (bSx zSrv)∧((w.alloc (bSx zSrv)).alloc (bSx zSrv)).heap[w.heap.size+1]?=some (bSx zSrv)):=⟨hb0,(Zf _ _ (by simp)).trans (Zc _ _ rfl),Zc _ _ (by simp)⟩;clear hr hn hb0;go_enter Tryz.func146,Tryz.ntmps146
 go_wp2_with fail
 go_loopw [4] (fun i wr=>∃ k:Nat,k≤n∧i=.int .i64 k∧Hid (wr.heap[w.heap.size+1]?=some (bSx (orS (lastP (isCliV 0) (ss.take k))))∧wr.heap[w.heap.size]?=some (bSx zSrv)∧Below w.heap.size w wr)) (fun i _=>n - (intOf i).toNat)
 case atStart=>exact ⟨0,Nat.zero_le _,rfl,HZ.out.2.2,HZ.out.2.1,HZ.out.1⟩
 case round =>
  obtain ⟨k,hk,rfl,HT⟩:=hrel;obtain ⟨b0,b1,b2,b3,bz⟩:=blk4d HT.out.1;obtain ⟨y0,y1,y2,y3,yz⟩:=blk4d HT.out.2.1;by_cases hlt:k<n
  ·obtain ⟨⟨x0,x1,x2,x3⟩,hp⟩:∃ p,ss[k]?=some p:=⟨_,List.getElem?_eq_getElem (by rw [HR.out.2];exact hlt)⟩;obtain ⟨bl,off,hao,hbl,c0,c1,c2,c3⟩:=ZN (HR.out.1.nx HT.out.2.2) hp;subst hao;simp only at c0 c1 c2 c3;have hlti:(k:Int)<(n:Int):=by omega
   have hnx:=ZbN (p:=isCliV 0) hp;cases hq:(x3 == 0) with
   | true =>
    have HN:Hid (orS (lastP (isCliV 0) (ss.take (k+1)))=⟨x0,x1,x2,x3⟩):=by
     have hq':(isCliV 0) ⟨x0,x1,x2,x3⟩=true:=hq;show _=_;rw [hnx,if_pos hq'];rfl
    clear hp hnx;go_wp2_with fail
    go_roundw
    case rel =>
     refine ⟨k+1,by omega,by go_num,?_,?_,?_⟩
     ·rw [HN.out];exact Zg _ _ _ _ _ _ (Zg _ _ _ _ _ _ (Zg _ _ _ _ _ _ (Zg _ _ _ _ _ _ HT.out.1)))
     ·have hne:w.heap.size≠w.heap.size+1:=by omega
      exact (Below.heap_setCell _ _ _ _ hne).trans ((Below.heap_setCell _ _ _ _ hne).trans ((Below.heap_setCell _ _ _ _ hne).trans ((Below.heap_setCell _ _ _ _ hne).trans HT.out.2.1)))
     ·have hg:w.heap.size≤w.heap.size+1:=by omega
      exact (((HT.out.2.2.setCell hg _).setCell hg _).setCell hg _).setCell hg _
    case measure=>simp [intOf];omega
   | false =>
    have HN:Hid (lastP (isCliV 0) (ss.take (k+1))=lastP (isCliV 0) (ss.take k)):=by
     have hq':¬(isCliV 0) ⟨x0,x1,x2,x3⟩=true:=fun h=>by rw [show (isCliV 0) ⟨x0,x1,x2,x3⟩=(x3 == 0) from rfl,hq] at h;simp at h
     show _=_;rw [hnx,if_neg hq']
    clear hp hnx;go_wp2_with fail
    go_roundw
    case rel=>exact ⟨k+1,by omega,by go_num,by rw [HN.out];exact HT.out⟩
    case measure=>simp [intOf];omega
  ·have ht:ss.take k=ss:=List.take_of_length_le (by rw [HR.out.2];omega);rw [ht] at b0 b1 b2 b3;obtain ⟨⟨x0,x1,x2,x3⟩,hx⟩:∃ x,orS (lastP (isCliV 0) ss)=x:=⟨_,rfl⟩;rw [hx] at b0 b1 b2 b3;have HX:=hideIt hx;clear ht hx;go_wp2_with fail
   refine bodyPost_ret (v:=svA ⟨x0,x1,x2,x3⟩) (by simp [results,Tryz.results146,go_sem,y0,y1,y2,y3]) rfl ⟨by rw [HX.out],?_⟩;have hg:w.heap.size≤w.heap.size:=Nat.le_refl _;exact (((HT.out.2.2.setCell hg _).setCell hg _).setCell hg _).setCell hg _
theorem cLastIdleOf (so:Option Addr) (n2 sc:Nat) (pool:ByteArray) (ss:List Srv) (w:World) (hr:RowAt w (.slice so n2 sc) n2 (flatV ss)) (hn:ss.length=n2) (hq:n2≤1099511627776) :
  Calls Tryz.prog 144 #[.slice so n2 sc,.string pool] w fun e w'=>e=.returned (svA (orS (lastP (fun s=>isPoolV pool s&&isCliV 0 s) ss)))∧Below w.heap.size w w':=by
 have HC:=hideIt (cServersOf so n2 sc pool ss (w.alloc (bSx zSrv)) (hr.nx (Zb _ _)) hn hq);have hle:(ss.filter (isPoolV pool)).length≤n2:=by rw [←hn];exact List.length_filter_le _ _
 clear hr hn;go_enter Tryz.func144,Tryz.ntmps144
 go_wp2_with fail
 refine HC.out.mono ?_;rintro e w1 ⟨vo,vc,rfl,ho,hb⟩;have HI:=hideIt (cLastIdle vo (ss.filter (isPoolV pool)).length vc (ss.filter (isPoolV pool)) w1 (Zd ho) rfl (by unfold maxLen;omega));have K:Hid (w1.heap[w.heap.size]?=some (bSx zSrv)∧Below w.heap.size w w1∧w.heap.size<w1.heap.size):=⟨(hb.block _ (by simp)).trans (Zc _ _ rfl),Za (Zb _ _) hb,Nat.lt_of_lt_of_le (by simp) hb.size⟩;clear ho hb HC;go_wp2_with fail
 refine HI.out.mono ?_;rintro e w2 ⟨rfl,hb⟩;obtain ⟨⟨x0,x1,x2,x3⟩,hx⟩:∃ x,orS (lastP (isCliV 0) (ss.filter (isPoolV pool)))=x:=⟨_,rfl⟩;rw [hx];have HX:Hid (orS (lastP (fun s=>isPoolV pool s&&isCliV 0 s) ss)=⟨x0,x1,x2,x3⟩):=by
  show _=_;rw [←hx];unfold lastP;rw [List.filter_filter];refine congrArg (fun l=>orS (List.getLast? l)) (List.filter_congr fun s _=>?_);exact Bool.and_comm _ _
 obtain ⟨y0,y1,y2,y3,yz⟩:=blk4 hb (g:=w.heap.size) K.out.2.2 K.out.1;have KB:Hid (Below w.heap.size w w2):=Za K.out.2.1 hb;clear hb hx HI;go_wp2_with fail
 refine bodyPost_ret (v:=svA ⟨x0,x1,x2,x3⟩) (by simp [results,Tryz.results144,go_sem,y0,y1,y2,y3]) rfl ⟨by rw [HX.out],?_⟩;have hg:w.heap.size≤w.heap.size:=Nat.le_refl _;exact (((KB.out.setCell hg _).setCell hg _).setCell hg _).setCell hg _
theorem cLastWaiterFor (ao:Option Addr) (n ac:Nat) (pool:ByteArray) (ws:List Wtr) (w:World) (hr:RowAt w (.slice ao n ac) n (flatW ws)) (hn:ws.length=n) (hlen:n≤maxLen) :
  Calls Tryz.prog 145 #[.slice ao n ac,.string pool] w fun e w'=>e=.returned (.agg #[.int .i64 (orW (lastP (isPoolW pool) ws)).client,.string (orW (lastP (isPoolW pool) ws)).pool])∧Below w.heap.size w w':=by
 unfold maxLen at hlen;have hb0:Below w.heap.size w ((w.alloc (bWx zWtr)).alloc (bWx zWtr)):=Za (Zb _ _) (Zb _ _);have HR:Hid (RowAt w (.slice ao n ac) n (flatW ws)∧ws.length=n):=⟨hr,hn⟩;have HZ:Hid (Below w.heap.size w ((w.alloc (bWx zWtr)).alloc (bWx zWtr))∧((w.alloc (bWx zWtr)).alloc (bWx zWtr)).heap[w.heap.size]?=some (bWx zWtr)∧((w.alloc (bWx zWtr)).alloc (bWx zWtr)).heap[w.heap.size+1]?=some (bWx zWtr)):=⟨hb0,(Zf _ _ (by simp)).trans (Zc _ _ rfl),Zc _ _ (by simp)⟩;clear hr hn hb0;go_enter Tryz.func145,Tryz.ntmps145
 go_wp2_with fail
 go_loopw [6] (fun i wr=>∃ k:Nat,k≤n∧i=.int .i64 k∧Hid (wr.heap[w.heap.size+1]?=some (bWx (orW (lastP (isPoolW pool) (ws.take k))))∧wr.heap[w.heap.size]?=some (bWx zWtr)∧Below w.heap.size w wr)) (fun i _=>n - (intOf i).toNat)
 case atStart=>exact ⟨0,Nat.zero_le _,rfl,HZ.out.2.2,HZ.out.2.1,HZ.out.1⟩
 case round =>
  obtain ⟨k,hk,rfl,HT⟩:=hrel;obtain ⟨b0,b1,bz⟩:=blk2 HT.out.1;obtain ⟨y0,y1,yz⟩:=blk2 HT.out.2.1;by_cases hlt:k<n
  ·obtain ⟨⟨x0,x1⟩,hp⟩:∃ p,ws[k]?=some p:=⟨_,List.getElem?_eq_getElem (by rw [HR.out.2];exact hlt)⟩;obtain ⟨bl,off,hao,hbl,c0,c1⟩:=Zaj (HR.out.1.nx HT.out.2.2) hp;subst hao;simp only at c0 c1;have hlti:(k:Int)<(n:Int):=by omega
   have hnx:=ZbN (p:=isPoolW pool) hp;cases hq:(x1.toList == pool.toList) with
   | true =>
    have HN:Hid (orW (lastP (isPoolW pool) (ws.take (k+1)))=⟨x0,x1⟩):=by
     have hq':(isPoolW pool) ⟨x0,x1⟩=true:=hq;show _=_;rw [hnx,if_pos hq'];rfl
    clear hp hnx;go_wp2_with fail
    go_roundw
    case rel =>
     refine ⟨k+1,by omega,by go_num,?_,?_,?_⟩
     ·rw [HN.out];exact Zg _ _ _ _ _ _ (Zg _ _ _ _ _ _ HT.out.1)
     ·have hne:w.heap.size≠w.heap.size+1:=by omega
      exact (Below.heap_setCell _ _ _ _ hne).trans ((Below.heap_setCell _ _ _ _ hne).trans HT.out.2.1)
     ·have hg:w.heap.size≤w.heap.size+1:=by omega
      exact (HT.out.2.2.setCell hg _).setCell hg _
    case measure=>simp [intOf];omega
   | false =>
    have HN:Hid (lastP (isPoolW pool) (ws.take (k+1))=lastP (isPoolW pool) (ws.take k)):=by
     have hq':¬(isPoolW pool) ⟨x0,x1⟩=true:=fun h=>by rw [show (isPoolW pool) ⟨x0,x1⟩=(x1.toList == pool.toList) from rfl,hq] at h;simp at h
     show _=_;rw [hnx,if_neg hq']
    clear hp hnx;go_wp2_with fail
    go_roundw
    case rel=>exact ⟨k+1,by omega,by go_num,by rw [HN.out];exact HT.out⟩
    case measure=>simp [intOf];omega
  ·have ht:ws.take k=ws:=List.take_of_length_le (by rw [HR.out.2];omega);rw [ht] at b0 b1;obtain ⟨⟨x0,x1⟩,hx⟩:∃ x,orW (lastP (isPoolW pool) ws)=x:=⟨_,rfl⟩;rw [hx] at b0 b1;have HX:=hideIt hx;clear ht hx;go_wp2_with fail
   refine bodyPost_ret (v:=.agg #[.int .i64 x0,.string x1]) (by simp [results,Tryz.results145,go_sem,y0,y1]) rfl ⟨by rw [HX.out],?_⟩;have hg:w.heap.size≤w.heap.size:=Nat.le_refl _;exact (HT.out.2.2.setCell hg _).setCell hg _
def othF (pool:ByteArray) (far:Int) (x:Srv):Bool:=isPoolV pool x&&!(x.far == far)
theorem cHasOther (x0:Int) (x1:ByteArray) (x2 x3:Int) (pool:ByteArray) (far:Int) (w:World) :
  Calls Tryz.prog 147 #[.agg #[.int .i64 x0,.string x1,.int .i64 x2,.int .i64 x3],.string pool,.int .i64 far] w fun e w'=>e=.returned (.bool (othF pool far ⟨x0,x1,x2,x3⟩))∧Below w.heap.size w w':=by
 cases hq:(x1.toList == pool.toList) with
 | true =>
  have HE:Hid (othF pool far ⟨x0,x1,x2,x3⟩=(x2 != far)):=by
   show _=_;unfold othF isPoolV;simp only [hq,Bool.true_and];rfl
  go_enter Tryz.func147,Tryz.ntmps147
  go_wp2_with fail
  go_ret
  exact ⟨by rw [HE.out];rfl,Zb _ _⟩
 | false =>
  have HE:Hid (othF pool far ⟨x0,x1,x2,x3⟩=false):=by
   show _=_;unfold othF isPoolV;simp only [hq,Bool.false_and]
  go_enter Tryz.func147,Tryz.ntmps147
  go_wp2_with fail
  go_ret
  exact ⟨by rw [HE.out];rfl,Zb _ _⟩
theorem cAnyOther (ao:Option Addr) (n ac:Nat) (pool:ByteArray) (far:Int) (ss:List Srv) (w:World) (hr:RowAt w (.slice ao n ac) n (flatV ss)) (hn:ss.length=n) (hlen:n≤maxLen) :
  Calls Tryz.prog 124 #[.slice ao n ac,.string pool,.int .i64 far] w fun e w'=>e=.returned (.bool (ss.any (othF pool far)))∧Below w.heap.size w w':=by
 unfold maxLen at hlen;have HR:Hid (RowAt w (.slice ao n ac) n (flatV ss)∧ss.length=n):=⟨hr,hn⟩;clear hr hn;go_enter Tryz.func124,Tryz.ntmps124
 go_wp2_with fail
 go_loopw [7] (fun i wr=>∃ k:Nat,k≤n∧i=.int .i64 k∧Hid ((∀ y∈ss.take k,othF pool far y=false)∧Below w.heap.size w wr)) (fun i _=>n - (intOf i).toNat)
 case atStart=>exact ⟨0,Nat.zero_le _,rfl,by intro y hy;simp at hy,Below.refl _ _⟩
 case round =>
  obtain ⟨k,hk,rfl,HT⟩:=hrel;by_cases hlt:k<n
  ·obtain ⟨⟨x0,x1,x2,x3⟩,hp⟩:∃ p,ss[k]?=some p:=⟨_,List.getElem?_eq_getElem (by rw [HR.out.2];exact hlt)⟩;obtain ⟨bl,off,hao,hbl,c0,c1,c2,c3⟩:=ZN (HR.out.1.nx HT.out.2) hp;subst hao;simp only at c0 c1 c2 c3;have hlti:(k:Int)<(n:Int):=by omega
   have HP:=hideIt hp;clear hp;go_wp2_with fail
   refine (cHasOther x0 x1 x2 x3 pool far wr).mono ?_;rintro e w2 ⟨rfl,hb2⟩;have HB2:=hideIt (Za HT.out.2 hb2);clear hb2 c0 c1 c2 c3;cases ho:othF pool far ⟨x0,x1,x2,x3⟩ with
   | true =>
    have HH:Hid (ss.any (othF pool far)=true):=List.any_eq_true.2 ⟨_,List.mem_of_getElem? HP.out,ho⟩;clear ho;go_wp2_with fail
    go_ret
    exact ⟨by rw [HH.out];rfl,HB2.out⟩
   | false =>
    have HN:Hid (∀ y∈ss.take (k+1),othF pool far y=false):=ZK HT.out.1 HP.out ho;clear ho;go_wp2_with fail
    go_roundw
    case rel=>exact ⟨k+1,by omega,by go_num,HN.out,HB2.out⟩
    case measure=>simp [intOf];omega
  ·have HM:Hid (ss.any (othF pool far)=false):=by
    show _=_;rw [List.any_eq_false];intro y hy;rw [HT.out.1 y (by rw [List.take_of_length_le (by rw [HR.out.2];omega)];exact hy)];simp
   go_wp2_with fail
   go_ret
   exact ⟨by rw [HM.out];rfl,HT.out.2⟩
def lastI {α:Type} (p:α→Bool) (l:List α):Option Nat:=match l.reverse.findIdx? p with
 | none=>none
 | some j=>some (l.length - 1 - j)
theorem ZbS {α:Type} {p:α→Bool} {l:List α} {k:Nat} {x:α} (hx:l[k]?=some x):lastI p (l.take (k+1))=if p x=true then some k else lastI p (l.take k):=by
 obtain ⟨hk,e⟩:=List.getElem?_eq_some_iff.1 hx;have hl:(l.take k).length=k:=by rw [List.length_take];omega
 unfold lastI;rw [List.take_succ_eq_append_getElem hk,e,List.reverse_append,List.reverse_singleton,List.singleton_append,List.findIdx?_cons];cases hp:p x with
 | true=>simp only [if_true,List.length_append,hl,List.length_singleton];congr 1
 | false =>
  simp only [Bool.false_eq_true,if_false,List.length_append,hl,List.length_singleton];cases (l.take k).reverse.findIdx? p with
  | none=>rfl
  | some j=>simp only [Option.map_some];congr 1;omega
theorem ZfS {α:Type} {p:α→Bool} {l:List α} {k:Nat} (h:lastI p l=some k):k<l.length:=by
 unfold lastI at h;split at h
 ·simp at h
 ·rename_i j hj
  simp only [Option.some.injEq] at h;have:=(List.findIdx?_eq_some_iff_getElem.1 hj).1;simp at this;omega
theorem ZdO {α:Type} (p:α→Bool) (l:List α):∀ n,n≤l.length→(∀ k,lastI p (l.take n)=some k→∃ s,l[k]?=some s∧lastP p (l.take n)=some s)∧(lastI p (l.take n)=none→lastP p (l.take n)=none):=by
 intro n;induction n with
 | zero=>intro _;simp [lastI,lastP]
 | succ n ih =>
  intro hn;obtain ⟨i1,i2⟩:=ih (by omega);have hx:l[n]?=some (l[n]'(by omega)):=List.getElem?_eq_getElem (by omega);rw [ZbS hx,ZbN hx];by_cases hp:p (l[n]'(by omega))=true
  ·rw [if_pos hp,if_pos hp];exact ⟨fun k hk=>⟨_,by simp at hk;subst hk;exact hx,rfl⟩,fun h=>by simp at h⟩
  ·rw [if_neg hp,if_neg hp];exact ⟨i1,i2⟩
theorem ZbX {α:Type} {p:α→Bool} {l:List α} {k:Nat} (h:lastI p l=some k):∃ s,l[k]?=some s∧lastP p l=some s:=by
 have:=(ZdO p l l.length (Nat.le_refl _)).1;rw [List.take_of_length_le (Nat.le_refl _)] at this;exact this k h
theorem Za0 {α:Type} {p:α→Bool} {l:List α} (h:lastI p l=none):lastP p l=none:=by
 have:=(ZdO p l l.length (Nat.le_refl _)).2;rw [List.take_of_length_le (Nat.le_refl _)] at this;exact this h
def keepF (pool:ByteArray) (far:Int) (x:Srv):Bool:=(x.client != 0)||!othF pool far x
def cShutF (S:Sta) (pool:ByteArray) (far:Int):Sta:={S with srv:=S.srv.filter (keepF pool far)}
theorem dShutF (gp:Nat) (pool:ByteArray) (far:Int) (S:Sta) (X:Aux) (F:Nat→Prop) (w:World) (h:DeskAt w gp S X F) (hq0:S.srv.length≤1099511627776) :
  Calls Tryz.prog 121 #[.pointer (some ⟨gp,0,none⟩),.string pool,.int .i64 far] w fun e w'=>(∃ x,e=.returned x)∧Moved w w' gp (cShutF S pool far) X F:=by
 obtain ⟨po,pc,so,sc,wo,wc,yo,yc,ho,hc,hx⟩:=h.ex;have hgplt:gp<w.heap.size:=h.lt gp h.gp;obtain ⟨n2,hn2⟩:∃ n,S.srv.length=n:=⟨_,rfl⟩;have HN:=hideIt hn2;rw [hn2] at hq0;have HX:=hideIt hx;have HH:=hideIt h;have HRW:Hid (RowAt w (.slice so n2 sc) n2 (flatV S.srv)):=by have:=Zd hx.s.own;rw [hn2] at this;exact this
 clear h hx hn2;go_enter Tryz.func121,Tryz.ntmps121
 go_wp2_with fail
 go_loopw [6,7,8] (fun l i p8 wr=>∃ (k m:Nat) (vo:Option Addr) (vc:Nat),k≤n2∧m≤k∧i=.int .i64 k∧l=.slice vo m vc∧Hid (((S.srv.take k).filter (keepF pool far)).length=m∧wr.ownsRow w.heap.size 74 4 (.slice vo m vc) m (flatV ((S.srv.take k).filter (keepF pool far)))∧Below w.heap.size w wr)) (fun _ i _ _=>n2 - (intOf i).toNat)
 case atStart=>exact ⟨0,0,some ⟨w.heap.size,0,none⟩,0,Nat.zero_le _,Nat.le_refl _,rfl,rfl,by simp,made0 w _ 4 _ rfl _ (Nat.le_refl _),Zb _ _⟩
 case round =>
  obtain ⟨k,m,vo,vc,hk,hm,rfl,rfl,HS⟩:=hrel;have hd:=HX.out.nx hgplt HS.out.2.2;rw [HN.out] at hd;obtain ⟨g0,g1,g2,g3,g4,gz⟩:=blk5d hd;by_cases hlt:k<n2
  ·obtain ⟨⟨x0,x1,x2,x3⟩,hp⟩:∃ p,S.srv[k]?=some p:=⟨_,List.getElem?_eq_getElem (by rw [HN.out];exact hlt)⟩;obtain ⟨bl,off,hao,hbl,c0,c1,c2,c3⟩:=ZN (HRW.out.nx HS.out.2.2) hp;subst hao;simp only at c0 c1 c2 c3;have hlti:(k:Int)<(n2:Int):=by omega
   have HNX:Hid ((S.srv.take (k+1)).filter (keepF pool far)=(S.srv.take k).filter (keepF pool far)++if keepF pool far ⟨x0,x1,x2,x3⟩=true then [(⟨x0,x1,x2,x3⟩:Srv)] else []):=by
    obtain ⟨hk',e⟩:=List.getElem?_eq_some_iff.1 hp;show _=_;rw [List.take_succ_eq_append_getElem hk',List.filter_append,e];congr 1;cases hkk:keepF pool far ⟨x0,x1,x2,x3⟩ <;> simp [hkk]
   obtain ⟨W1,hW1⟩:∃ W1,W1=wr.alloc (bSv x0 x1 x2 x3):=⟨_,rfl⟩;have hbW:Below wr.heap.size wr W1:=by rw [hW1];exact Zb _ _
   have KW:Hid (W1=wr.alloc (bSv x0 x1 x2 x3)∧W1.heap[wr.heap.size]?=some (bSv x0 x1 x2 x3)∧Below wr.heap.size wr W1):=⟨hW1,by rw [hW1];exact Zc _ _ rfl,hbW⟩;clear hp hd hW1 hbW;go_upto_region 5 with fail
   rw [←KW.out.1];clear g0 g1 g2 g3 g4 gz c0 c1 c2 c3;obtain ⟨b0,b1,b2,b3,bz⟩:=blk4d KW.out.2.1;go_cut [35] (fun v wx=>v=.bool (keepF pool far ⟨x0,x1,x2,x3⟩)∧∃ wy,Hid (Below W1.heap.size W1 wy)∧wy=wx)
   case first =>
    cases hz:(x3 != 0) with
    | true =>
     have HK:Hid (keepF pool far ⟨x0,x1,x2,x3⟩=true):=by
      show _=_;unfold keepF;simp only [hz,Bool.true_or]
     go_wp2_with fail
     go_meet
     exact ⟨by rw [HK.out],_,Below.refl _ _,rfl⟩
    | false =>
     have HK:Hid (keepF pool far ⟨x0,x1,x2,x3⟩=!othF pool far ⟨x0,x1,x2,x3⟩):=by
      show _=_;unfold keepF;simp only [hz,Bool.false_or]
     go_wp2_with fail
     refine (cHasOther x0 x1 x2 x3 pool far W1).mono ?_;rintro e w2 ⟨rfl,hb2⟩;have HB2:=hideIt hb2;clear hb2;go_wp2_with fail
     go_meet
     exact ⟨by rw [HK.out],_,HB2.out,rfl⟩
   case rest =>
    obtain ⟨rfl,wy,HB2,rfl⟩:=hcut;have HBY:Hid (Below w.heap.size w wy):=Za (Za HS.out.2.2 KW.out.2.2) HB2.out;have hby:wy.heap[wr.heap.size]?=some (bSv x0 x1 x2 x3):=(HB2.out.block _ (Array.getElem?_eq_some_iff.1 KW.out.2.1).1).trans KW.out.2.1;have HOY:=hideIt (Zk (Zk HS.out.2.1 KW.out.2.2) HB2.out);clear b0 b1 b2 b3 bz;obtain ⟨b0,b1,b2,b3,bz⟩:=blk4d hby;clear hby;cases hkk:keepF pool far ⟨x0,x1,x2,x3⟩ with
    | false =>
     have HNN:Hid ((S.srv.take (k+1)).filter (keepF pool far)=(S.srv.take k).filter (keepF pool far)):=by
      show _=_;rw [HNX.out,if_neg (by rw [hkk];simp),List.append_nil]
     clear hkk;go_wp2_with fail
     go_roundw
     case rel=>exact ⟨k+1,m,vo,vc,by omega,by omega,by go_num,rfl,by rw [HNN.out];exact ⟨HS.out.1,HOY.out,HBY.out⟩⟩
     case measure=>simp [intOf];omega
    | true =>
     have HNN:Hid ((S.srv.take (k+1)).filter (keepF pool far)=(S.srv.take k).filter (keepF pool far)++[⟨x0,x1,x2,x3⟩]):=by
      show _=_;rw [HNX.out,if_pos hkk]
     clear hkk;go_wp2_with (at_builtin;refine appendG 74 32 4 40 _ Zce Tryz.underlying32 rfl (by decide) (by decide) rfl (.tmp 36) (.tmp 38) rfl w.heap.size _ m (flatV ((S.srv.take k).filter (keepF pool far))) rfl (HOY.out.alloc _) (some ⟨wy.heap.size,0,none⟩) 1 1 [.int .i64 x0,.string x1,.int .i64 x2,.int .i64 x3] rfl rfl (ZA wy [.int .i64 x0,.string x1,.int .i64 x2,.int .i64 x3] _ 1 rfl) (by intro u hu;simp at hu;rcases hu with rfl | rfl | rfl | rfl <;> rfl) (fun h=>by cases h) (by omega) (by simp;have:=HBY.out.size;omega) ?next)
     case next =>
      intro v' w6 hown6 hb6;obtain ⟨vo6,vc6,rfl,_⟩:=Zd hown6;have K6:Hid (((S.srv.take (k+1)).filter (keepF pool far)).length=m+1∧w6.ownsRow w.heap.size 74 4 (.slice vo6 (m+1) vc6) (m+1) (flatV ((S.srv.take (k+1)).filter (keepF pool far)))∧Below w.heap.size w w6):=by
       refine ⟨by rw [HNN.out];simp [HS.out.1],?_,(HBY.out.alloc HBY.out.size _).trans hb6⟩;rw [HNN.out];unfold flatV;rw [List.flatMap_append];exact hown6
      clear hown6 hb6 b0 b1 b2 b3 bz;go_wp2_with fail
      go_roundw
      case rel=>exact ⟨k+1,m+1,vo6,vc6,by omega,by omega,by go_num,rfl,K6.out⟩
      case measure=>simp [intOf];omega
  ·have HE:Hid ((S.srv.filter (keepF pool far)).length=m∧wr.ownsRow w.heap.size 74 4 (.slice vo m vc) m (flatV (S.srv.filter (keepF pool far)))∧Below w.heap.size w wr):=by
    have ht:S.srv.take k=S.srv:=List.take_of_length_le (by rw [HN.out];omega);have:=HS.out;rw [ht] at this;exact this
   clear hd;go_wp2_with fail
   refine bodyPost_end (v:=.tuple #[]) (by simp [results,Tryz.results121,go_sem]) rfl ?_;have hbx:=HX.out.nx hgplt HE.out.2.2;refine ⟨⟨_,rfl⟩,Zbs (B:=w.heap.size) HX.out HH.out.gp HH.out.lt (S.srv.filter (keepF pool far)) vo vc X.op ?_ ?_ (fun g hg=>.inr ?_) ?_⟩
   ·rw [HE.out.1];exact Zg _ _ _ _ _ _ hbx
   ·rw [HE.out.1];exact Zj HE.out.2.1 (fun j hj=>Below.heap_setCell _ _ _ _ (by show j≠gp;have:=(HE.out.2.1.lt j hj).1;omega))
   ·rw [HE.out.1] at hg;exact (HE.out.2.1.lt g hg).1
   ·exact (Chg.of_below HE.out.2.2).trans (Chg.set (F:=fun y=>y=gp∨(Value.slice so S.srv.length sc).ownBlock=some y) wr gp 2 _ (.inl rfl)) (fun y hy=>.inl hy)
def othN (name:ByteArray) (x:Pl):Bool:=!(x.nm.toList == name.toList)
theorem cWithout (so:Option Addr) (n2 sc:Nat) (name:ByteArray) (ps:List Pl) (w:World) (hr:RowAt w (.slice so n2 sc) n2 (flatP ps)) (hn:ps.length=n2) (hq:n2≤1099511627776) :
  Calls Tryz.prog 142 #[.slice so n2 sc,.string name] w fun e w'=>∃ vo vc,e=.returned (.slice vo (ps.filter (othN name)).length vc)∧w'.ownsRow w.heap.size 70 4 (.slice vo (ps.filter (othN name)).length vc) (ps.filter (othN name)).length (flatP (ps.filter (othN name)))∧Below w.heap.size w w':=by
 have HR:Hid (RowAt w (.slice so n2 sc) n2 (flatP ps)∧ps.length=n2):=⟨hr,hn⟩;clear hr hn;go_enter Tryz.func142,Tryz.ntmps142
 go_wp2_with fail
 go_loopw [5,6] (fun l i wr=>∃ (k m:Nat) (vo:Option Addr) (vc:Nat),k≤n2∧m≤k∧i=.int .i64 k∧l=.slice vo m vc∧Hid (((ps.take k).filter (othN name)).length=m∧wr.ownsRow w.heap.size 70 4 (.slice vo m vc) m (flatP ((ps.take k).filter (othN name)))∧Below w.heap.size w wr)) (fun _ i _=>n2 - (intOf i).toNat)
 case atStart=>exact ⟨0,0,some ⟨w.heap.size,0,none⟩,0,Nat.zero_le _,Nat.le_refl _,rfl,rfl,by simp,made0 w _ 4 _ rfl _ (Nat.le_refl _),Zb _ _⟩
 case round =>
  obtain ⟨k,m,vo,vc,hk,hm,rfl,rfl,HS⟩:=hrel;by_cases hlt:k<n2
  ·obtain ⟨⟨x0,x1,x2,x3⟩,hp⟩:∃ p,ps[k]?=some p:=⟨_,List.getElem?_eq_getElem (by rw [HR.out.2];exact hlt)⟩;obtain ⟨bl,off,hao,hbl,c0,c1,c2,c3⟩:=Zn (HR.out.1.nx HS.out.2.2) hp;subst hao;simp only at c0 c1 c2 c3;have hlti:(k:Int)<(n2:Int):=by omega
   have HNX:Hid ((ps.take (k+1)).filter (othN name)=(ps.take k).filter (othN name)++if (othN name) ⟨x0,x1,x2,x3⟩=true then [(⟨x0,x1,x2,x3⟩:Pl)] else []):=by
    obtain ⟨hk',e⟩:=List.getElem?_eq_some_iff.1 hp;show _=_;rw [List.take_succ_eq_append_getElem hk',List.filter_append,e];congr 1;cases hkk:(othN name) ⟨x0,x1,x2,x3⟩ <;> simp [hkk]
   clear hp;cases hcb:(x0.toList == name.toList) with
   | true =>
    have HN:Hid ((ps.take (k+1)).filter (othN name)=(ps.take k).filter (othN name)):=by
     show _=_;have hq':¬(othN name) ⟨x0,x1,x2,x3⟩=true:=fun h=>by rw [show (othN name) ⟨x0,x1,x2,x3⟩=!(x0.toList == name.toList) from rfl,hcb] at h;simp at h
     rw [HNX.out,if_neg hq'];simp
    go_wp2_with fail
    go_roundw
    case rel=>exact ⟨k+1,m,vo,vc,by omega,by omega,by go_num,rfl,by rw [HN.out];exact HS.out⟩
    case measure=>simp [intOf];omega
   | false =>
    have HN:Hid ((ps.take (k+1)).filter (othN name)=(ps.take k).filter (othN name)++[⟨x0,x1,x2,x3⟩]):=by
     show _=_;have hq':(othN name) ⟨x0,x1,x2,x3⟩=true:=by show (!(x0.toList == name.toList))=true;rw [hcb];rfl
     rw [HNX.out,if_pos hq']
    go_wp2_with (at_builtin;refine appendG 70 29 4 40 _ Zhz Tryz.underlying29 rfl (by decide) (by decide) rfl (.tmp 21) (.tmp 26) rfl w.heap.size _ m (flatP ((ps.take k).filter (othN name))) rfl (HS.out.2.1.alloc _) (some ⟨wr.heap.size,0,none⟩) 1 1 [.string x0,.int .i64 x1,.int .i64 x2,.int .i64 x3] rfl rfl (ZA wr [.string x0,.int .i64 x1,.int .i64 x2,.int .i64 x3] _ 1 rfl) (by intro u hu;simp at hu;rcases hu with rfl | rfl | rfl | rfl <;> rfl) (fun h=>by cases h) (by omega) (by simp;have:=HS.out.2.2.size;omega) ?next)
    case next =>
     intro v' w6 hown6 hb6;obtain ⟨vo6,vc6,rfl,_⟩:=Zd hown6;have K6:Hid (((ps.take (k+1)).filter (othN name)).length=m+1∧w6.ownsRow w.heap.size 70 4 (.slice vo6 (m+1) vc6) (m+1) (flatP ((ps.take (k+1)).filter (othN name)))∧Below w.heap.size w w6):=by
      refine ⟨by rw [HN.out];simp [HS.out.1],?_,(HS.out.2.2.alloc HS.out.2.2.size _).trans hb6⟩;rw [HN.out];rw [ZI];exact hown6
     clear hown6 hb6;go_wp2_with fail
     go_roundw
     case rel=>exact ⟨k+1,m+1,vo6,vc6,by omega,by omega,by go_num,rfl,K6.out⟩
     case measure=>simp [intOf];omega
  ·have HE:Hid ((ps.filter (othN name)).length=m∧wr.ownsRow w.heap.size 70 4 (.slice vo m vc) m (flatP (ps.filter (othN name)))∧Below w.heap.size w wr):=by
    have ht:ps.take k=ps:=List.take_of_length_le (by rw [HR.out.2];omega);have:=HS.out;rw [ht] at this;exact this
   go_wp2_with fail
   go_ret
   refine ⟨vo,vc,?_,?_,HE.out.2.2⟩
   ·rw [HE.out.1];rfl
   ·rw [HE.out.1];exact HE.out.2.1
def cThinP (pool:ByteArray):Nat→Sta→Sta
 | 0,S=>S
 | f+1,S=>match lastP (fun s=>isPoolV pool s&&isCliV 0 s) S.srv with | none=>S | some s=>cThinP pool f (cShut S s.id)
theorem dThinPool (gp:Nat) (pool:ByteArray) (N:Int) (S:Sta) (X:Aux) (F:Nat→Prop) (w:World) (h:DeskAt w gp S X F) (hid:∀ x∈S.srv,x.id≠0) (hq0:S.srv.length≤549755813888) (hN:0≤N∧N≤1000000) :
  Calls Tryz.prog 118 #[.pointer (some ⟨gp,0,none⟩),.string pool,.int .i64 N] w fun e w'=>(∃ x,e=.returned x)∧Moved w w' gp (cThinP pool ((cntG (isPoolV pool) S.srv:Int) - N).toNat S) X F:=by
 obtain ⟨po,pc,so,sc,wo,wc,yo,yc,ho,hc,hx⟩:=h.ex;obtain ⟨g0,g1,g2,g3,g4,gz⟩:=blk5d hx.box;have HH:=hideIt h;have HID:=hideIt hid;have HCN:=hideIt (cCountOf so _ sc pool S.srv w (Zd hx.s.own) rfl (by omega));obtain ⟨q,hqe⟩:∃ q:Nat,cntG (isPoolV pool) S.srv=q:=⟨_,rfl⟩;have hql:q≤549755813888:=by
  rw [←hqe];exact Nat.le_trans (List.length_filter_le _ _) hq0
 have HQ:Hid (cntG (isPoolV pool) S.srv=q∧S.srv.length≤549755813888):=⟨hqe,hq0⟩;rw [hqe] at HCN ⊢;obtain ⟨V,hV⟩:∃ V:Int,(q:Int) - N=V:=⟨_,rfl⟩;have hVb:-1000000≤V∧V≤549755813888:=by omega
 have HV:=hideIt hV;clear h hx hid hqe hq0;go_enter Tryz.func118,Tryz.ntmps118
 go_wp2_with fail
 refine HCN.out.mono ?_;rintro e w1 ⟨rfl,hb1⟩;have HB1:=hideIt hb1;clear hb1;go_wp2_with fail
 clear g0 g1 g2 g3 g4 gz;go_loopw [6,7] (fun i p7 wr=>∃ (v:Int) (T:Sta),v≤549755813888∧-1000000≤v∧i=.int .i64 v∧Hid (Moved w wr gp T X F∧(∀ x∈T.srv,x.id≠0)∧T.srv.length≤549755813888∧cThinP pool v.toNat T=cThinP pool V.toNat S)) (fun i _ _=>(intOf i).toNat)
 case atStart=>exact ⟨V,S,hVb.2,hVb.1,by rw [←HV.out],(Moved.refl HH.out).below HB1.out,HID.out,HQ.out.2,rfl⟩
 case round =>
  obtain ⟨v,T,hv,hv2,rfl,HS⟩:=hrel;by_cases hlt:0<v
  ·obtain ⟨F1,hd,hnx⟩:=HS.out.1.step;obtain ⟨po',pc',so',sc',wo',wc',yo',yc',ho',hc',hx⟩:=hd.ex;obtain ⟨g0,g1,g2,g3,g4,gz⟩:=blk5d hx.box;have HLI:=hideIt (cLastIdleOf so' _ sc' pool T.srv wr (Zd hx.s.own) rfl (by have:=HS.out.2.2.1;omega));have HZ:Hid (((orS (lastP (fun s=>isPoolV pool s&&isCliV 0 s) T.srv)).id == 0)=(lastP (fun s=>isPoolV pool s&&isCliV 0 s) T.srv).isNone):=by
    show _=_;cases hl:lastP (fun s=>isPoolV pool s&&isCliV 0 s) T.srv with
    | none=>rfl
    | some s =>
     have:s∈T.srv:=(List.mem_filter.1 (List.mem_of_getLast? hl)).1;have:=HS.out.2.1 s this;simpa [orS] using this
   obtain ⟨⟨x0,x1,x2,x3⟩,hx0⟩:∃ x,orS (lastP (fun s=>isPoolV pool s&&isCliV 0 s) T.srv)=x:=⟨_,rfl⟩;rw [hx0] at HLI HZ;simp only at HZ;have HX0:=hideIt hx0;have HD:=hideIt hd;have HNX:=hideIt hnx;clear hd hnx hx hx0;go_wp2_with fail
   refine HLI.out.mono ?_;rintro e w2 ⟨rfl,hb2⟩;obtain ⟨W2,hW2⟩:∃ W2,W2=w2.alloc (bSv x0 x1 x2 x3):=⟨_,rfl⟩;have hbW:Below wr.heap.size wr W2:=by rw [hW2];exact Za hb2 (Zb _ _)
   have KW:Hid (W2=w2.alloc (bSv x0 x1 x2 x3)∧W2.heap[w2.heap.size]?=some (bSv x0 x1 x2 x3)∧Below wr.heap.size wr W2):=⟨hW2,by rw [hW2];exact Zc _ _ rfl,hbW⟩;have HD2:Hid (DeskAt W2 gp T X F1):=HD.out.keep (G:=fun _=>False) (Chg.of_below hbW) (fun _ _ h=>h);clear hb2 hW2 hbW g0 g1 g2 g3 g4 gz;go_upto_region 4 with fail
   rw [←KW.out.1];obtain ⟨b0,b1,b2,b3,bz⟩:=blk4d KW.out.2.1;have HE:Hid (∃ r:Nat,v.toNat=r+1∧(v - 1).toNat=r):=⟨v.toNat - 1,by omega,by omega⟩;cases hz:(x0 == 0) with
   | true =>
    have KF:Hid (Moved w W2 gp (cThinP pool V.toNat S) X F):=by
     have hl:lastP (fun s=>isPoolV pool s&&isCliV 0 s) T.srv=none:=by
      cases hl:lastP (fun s=>isPoolV pool s&&isCliV 0 s) T.srv with
      | none=>rfl
      | some s=>have:=HZ.out;rw [hz,hl] at this;simp at this
     obtain ⟨r,hr,_⟩:=HE.out;have:=HS.out.2.2.2;rw [hr,cThinP,hl] at this;rw [←this];exact HS.out.1.below KW.out.2.2
    go_wp2_with fail
    refine bodyPost_ret (v:=.tuple #[]) (by simp [results,Tryz.results118,go_sem]) rfl ?_;exact ⟨⟨_,rfl⟩,by first | exact KF.out | (rw [HV.out];exact KF.out)⟩
   | false =>
    have HSH:=hideIt (dShut gp x0 T X F1 W2 HD2.out (by have:=HS.out.2.2.1;omega));have HT2:Hid ((∀ x∈(cShut T x0).srv,x.id≠0)∧(cShut T x0).srv.length≤549755813888∧cThinP pool (v - 1).toNat (cShut T x0)=cThinP pool V.toNat S):=by
     refine ⟨fun x hx=>HS.out.2.1 x (List.mem_filter.1 hx).1,Nat.le_trans (List.length_filter_le _ _) HS.out.2.2.1,?_⟩;obtain ⟨r,hr,hr2⟩:=HE.out;have:=HS.out.2.2.2;rw [hr,cThinP] at this;rw [hr2,←this];cases hl:lastP (fun s=>isPoolV pool s&&isCliV 0 s) T.srv with
     | none=>have:=HZ.out;rw [hz,hl] at this;simp at this
     | some s =>
      have h2:=HX0.out;rw [hl] at h2;simp only;rw [show s.id=x0 by rw [show s=⟨x0,x1,x2,x3⟩ from h2]]
    go_wp2_with fail
    refine HSH.out.mono ?_;rintro e w3 ⟨⟨x,rfl⟩,hm⟩;have KF:=hideIt (HNX.out _ _ _ (Moved.after KW.out.2.2 hm));clear hm b0 b1 b2 b3 bz;go_wp2_with fail
    go_roundw
    case rel=>exact ⟨v - 1,cShut T x0,by omega,by omega,by go_num,KF.out,HT2.out⟩
    case measure=>simp [intOf];omega
  ·have KF:Hid (Moved w wr gp (cThinP pool V.toNat S) X F):=by
    have:=HS.out.2.2.2;rw [show v.toNat=0 by omega,cThinP] at this;rw [←this];exact HS.out.1
   go_wp2_with fail
   refine bodyPost_end (v:=.tuple #[]) (by simp [results,Tryz.results118,go_sem]) rfl ?_;exact ⟨⟨_,rfl⟩,by first | exact KF.out | (rw [HV.out];exact KF.out)⟩
def cThinA:Nat→Sta→Sta
 | 0,S=>S
 | f+1,S=>match lastP (isCliV 0) S.srv with | none=>S | some s=>cThinA f (cShut S s.id)
theorem dThinAll (gp:Nat) (N:Int) (S:Sta) (X:Aux) (F:Nat→Prop) (w:World) (h:DeskAt w gp S X F) (hid:∀ x∈S.srv,x.id≠0) (hq0:S.srv.length≤549755813888) (hN:0≤N∧N≤1000000) :
  Calls Tryz.prog 120 #[.pointer (some ⟨gp,0,none⟩),.int .i64 N] w fun e w'=>(∃ x,e=.returned x)∧Moved w w' gp (cThinA ((S.srv.length:Int) - N).toNat S) X F:=by
 obtain ⟨po,pc,so,sc,wo,wc,yo,yc,ho,hc,hx⟩:=h.ex;obtain ⟨g0,g1,g2,g3,g4,gz⟩:=blk5d hx.box;have HH:=hideIt h;have HID:=hideIt hid;obtain ⟨q,hqe⟩:∃ q:Nat,S.srv.length=q:=⟨_,rfl⟩;have hql:q≤549755813888:=by
  rw [←hqe];exact hq0
 have HQ:Hid (S.srv.length=q∧S.srv.length≤549755813888):=⟨hqe,hq0⟩;rw [hqe] at g2 ⊢;obtain ⟨V,hV⟩:∃ V:Int,(q:Int) - N=V:=⟨_,rfl⟩;have hVb:-1000000≤V∧V≤549755813888:=by omega
 have HV:=hideIt hV;clear h hx hid hqe hq0;go_enter Tryz.func120,Tryz.ntmps120
 go_wp2_with fail
 clear g0 g1 g2 g3 g4 gz;go_loopw [4,5] (fun i p7 wr=>∃ (v:Int) (T:Sta),v≤549755813888∧-1000000≤v∧i=.int .i64 v∧Hid (Moved w wr gp T X F∧(∀ x∈T.srv,x.id≠0)∧T.srv.length≤549755813888∧cThinA v.toNat T=cThinA V.toNat S)) (fun i _ _=>(intOf i).toNat)
 case atStart=>exact ⟨V,S,hVb.2,hVb.1,by rw [←HV.out],Moved.refl HH.out,HID.out,HQ.out.2,rfl⟩
 case round =>
  obtain ⟨v,T,hv,hv2,rfl,HS⟩:=hrel;by_cases hlt:0<v
  ·obtain ⟨F1,hd,hnx⟩:=HS.out.1.step;obtain ⟨po',pc',so',sc',wo',wc',yo',yc',ho',hc',hx⟩:=hd.ex;obtain ⟨g0,g1,g2,g3,g4,gz⟩:=blk5d hx.box;have HLI:=hideIt (cLastIdle so' _ sc' T.srv wr (Zd hx.s.own) rfl (by have:=HS.out.2.2.1;unfold maxLen;omega));have HZ:Hid (((orS (lastP (isCliV 0) T.srv)).id == 0)=(lastP (isCliV 0) T.srv).isNone):=by
    show _=_;cases hl:lastP (isCliV 0) T.srv with
    | none=>rfl
    | some s =>
     have:s∈T.srv:=(List.mem_filter.1 (List.mem_of_getLast? hl)).1;have:=HS.out.2.1 s this;simpa [orS] using this
   obtain ⟨⟨x0,x1,x2,x3⟩,hx0⟩:∃ x,orS (lastP (isCliV 0) T.srv)=x:=⟨_,rfl⟩;rw [hx0] at HLI HZ;simp only at HZ;have HX0:=hideIt hx0;have HD:=hideIt hd;have HNX:=hideIt hnx;clear hd hnx hx hx0;go_wp2_with fail
   refine HLI.out.mono ?_;rintro e w2 ⟨rfl,hb2⟩;obtain ⟨W2,hW2⟩:∃ W2,W2=w2.alloc (bSv x0 x1 x2 x3):=⟨_,rfl⟩;have hbW:Below wr.heap.size wr W2:=by rw [hW2];exact Za hb2 (Zb _ _)
   have KW:Hid (W2=w2.alloc (bSv x0 x1 x2 x3)∧W2.heap[w2.heap.size]?=some (bSv x0 x1 x2 x3)∧Below wr.heap.size wr W2):=⟨hW2,by rw [hW2];exact Zc _ _ rfl,hbW⟩;have HD2:Hid (DeskAt W2 gp T X F1):=HD.out.keep (G:=fun _=>False) (Chg.of_below hbW) (fun _ _ h=>h);clear hb2 hW2 hbW g0 g1 g2 g3 g4 gz;go_upto_region 4 with fail
   rw [←KW.out.1];obtain ⟨b0,b1,b2,b3,bz⟩:=blk4d KW.out.2.1;have HE:Hid (∃ r:Nat,v.toNat=r+1∧(v - 1).toNat=r):=⟨v.toNat - 1,by omega,by omega⟩;cases hz:(x0 == 0) with
   | true =>
    have KF:Hid (Moved w W2 gp (cThinA V.toNat S) X F):=by
     have hl:lastP (isCliV 0) T.srv=none:=by
      cases hl:lastP (isCliV 0) T.srv with
      | none=>rfl
      | some s=>have:=HZ.out;rw [hz,hl] at this;simp at this
     obtain ⟨r,hr,_⟩:=HE.out;have:=HS.out.2.2.2;rw [hr,cThinA,hl] at this;rw [←this];exact HS.out.1.below KW.out.2.2
    go_wp2_with fail
    refine bodyPost_ret (v:=.tuple #[]) (by simp [results,Tryz.results120,go_sem]) rfl ?_;exact ⟨⟨_,rfl⟩,by first | exact KF.out | (rw [HV.out];exact KF.out)⟩
   | false =>
    have HSH:=hideIt (dShut gp x0 T X F1 W2 HD2.out (by have:=HS.out.2.2.1;omega));have HT2:Hid ((∀ x∈(cShut T x0).srv,x.id≠0)∧(cShut T x0).srv.length≤549755813888∧cThinA (v - 1).toNat (cShut T x0)=cThinA V.toNat S):=by
     refine ⟨fun x hx=>HS.out.2.1 x (List.mem_filter.1 hx).1,Nat.le_trans (List.length_filter_le _ _) HS.out.2.2.1,?_⟩;obtain ⟨r,hr,hr2⟩:=HE.out;have:=HS.out.2.2.2;rw [hr,cThinA] at this;rw [hr2,←this];cases hl:lastP (isCliV 0) T.srv with
     | none=>have:=HZ.out;rw [hz,hl] at this;simp at this
     | some s =>
      have h2:=HX0.out;rw [hl] at h2;simp only;rw [show s.id=x0 by rw [show s=⟨x0,x1,x2,x3⟩ from h2]]
    go_wp2_with fail
    refine HSH.out.mono ?_;rintro e w3 ⟨⟨x,rfl⟩,hm⟩;have KF:=hideIt (HNX.out _ _ _ (Moved.after KW.out.2.2 hm));clear hm b0 b1 b2 b3 bz;go_wp2_with fail
    go_roundw
    case rel=>exact ⟨v - 1,cShut T x0,by omega,by omega,by go_num,KF.out,HT2.out⟩
    case measure=>simp [intOf];omega
  ·have KF:Hid (Moved w wr gp (cThinA V.toNat S) X F):=by
    have:=HS.out.2.2.2;rw [show v.toNat=0 by omega,cThinA] at this;rw [←this];exact HS.out.1
   go_wp2_with fail
   refine bodyPost_end (v:=.tuple #[]) (by simp [results,Tryz.results120,go_sem]) rfl ?_;exact ⟨⟨_,rfl⟩,by first | exact KF.out | (rw [HV.out];exact KF.out)⟩
end Lw
end Go.Proofs.YtcpikklofilkcaaGreat
