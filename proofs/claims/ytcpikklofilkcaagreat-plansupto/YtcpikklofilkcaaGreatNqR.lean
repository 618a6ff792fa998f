import Derived.Test.YtcpikklofilkcaaGreatNqQ
import Derived.Test.YtcpikklofilkcaaGreatNqI
import Derived.Laws.OwnMore
import Derived.Lib.OwnKind
import Derived.Deep.AppendLies
set_option maxRecDepth 100000
set_option maxHeartbeats 16000000
namespace Go.Proofs.YtcpikklofilkcaaGreat
open Go.RowKit
namespace Lw
open Co
theorem Za5 {α:Type} {p:α→Bool} {l:List α} {k:Nat} {x:α} (hn:∀ y∈l.take k,p y=false) (hx:l[k]?=some x) (hp:p x=true):l.find? p=some x:=by
 obtain ⟨x',h1,h2⟩:=(ZB p l).1 k (Zaq hn hx hp);rw [hx] at h1;rw [h2,Option.some.inj h1]
theorem ZbI {α:Type} {p:α→Bool} {l:List α} (hn:∀ y∈l,p y=false):l.find? p=none:=(ZB p l).2 (Zad hn)
abbrev svA (x:Srv):Value:=.agg #[.int .i64 x.id,.string x.pool,.int .i64 x.far,.int .i64 x.client]
abbrev zSrv:Srv:=⟨0,⟨#[]⟩,0,0⟩
def orS (o:Option Srv):Srv:=match o with | some s=>s | none=>zSrv
def isId (id:Int) (x:Srv):Bool:=x.id == id
theorem cWaits (ao:Option Addr) (n ac:Nat) (c:Int) (ws:List Wtr) (w:World) (hr:RowAt w (.slice ao n ac) n (flatW ws)) (hn:ws.length=n) (hlen:n≤maxLen) :
  Calls Tryz.prog 113 #[.slice ao n ac,.int .i64 c] w fun e w'=>e=.returned (.bool (ws.find? (isCliW c)).isSome)∧w'=w:=by
 unfold maxLen at hlen;have HR:Hid (RowAt w (.slice ao n ac) n (flatW ws)∧ws.length=n):=⟨hr,hn⟩;clear hr hn;go_enter Tryz.func113,Tryz.ntmps113
 go_wp2_with fail
 go_loop [5] (fun i=>∃ k:Nat,k≤n∧i=.int .i64 k∧Hid (∀ y∈ws.take k,(isCliW c) y=false)) (fun i=>n - (intOf i).toNat)
 case atStart=>exact ⟨0,Nat.zero_le _,rfl,by intro y hy;simp at hy⟩
 case round =>
  obtain ⟨k,hk,rfl,HT⟩:=hrel;by_cases hlt:k<n
  ·have HRW:=HR.out.1;obtain ⟨⟨x0,x1⟩,hp⟩:∃ p,ws[k]?=some p:=⟨_,List.getElem?_eq_getElem (by rw [HR.out.2];exact hlt)⟩;obtain ⟨bl,off,hao,hbl,c0,c1⟩:=Zaj HRW hp;subst hao;simp only at c0 c1;have hlti:(k:Int)<(n:Int):=by omega
   clear HRW;cases hq:(x0 == c) with
   | true =>
    have HH:Hid ((ws.find? (isCliW c)).isSome=true):=List.find?_isSome.2 ⟨_,List.mem_of_getElem? hp,hq⟩;clear hp;go_wp2_with fail
    go_ret
    exact ⟨by rw [HH.out];rfl,rfl⟩
   | false =>
    have HN:Hid (∀ y∈ws.take (k+1),(isCliW c) y=false):=ZK HT.out hp (by show (x0 == c)=false;exact hq);clear hp;go_wp2_with fail
    go_round
    case rel=>exact ⟨k+1,by omega,by go_num,HN.out⟩
    case measure=>simp [intOf];omega
  ·have HM:Hid ((ws.find? (isCliW c)).isSome=false):=by
    show _=_;rw [List.find?_eq_none.2 (fun y hy=>by rw [HT.out y (by rw [List.take_of_length_le (by rw [HR.out.2];omega)];exact hy)];simp)];rfl
   go_wp2_with fail
   go_ret
   exact ⟨by rw [HM.out];rfl,rfl⟩
theorem cIsServer (ao:Option Addr) (n ac:Nat) (c:Int) (ss:List Srv) (w:World) (hr:RowAt w (.slice ao n ac) n (flatV ss)) (hn:ss.length=n) (hlen:n≤maxLen) :
  Calls Tryz.prog 114 #[.slice ao n ac,.int .i64 c] w fun e w'=>e=.returned (.bool (ss.find? (isId c)).isSome)∧w'=w:=by
 unfold maxLen at hlen;have HR:Hid (RowAt w (.slice ao n ac) n (flatV ss)∧ss.length=n):=⟨hr,hn⟩;clear hr hn;go_enter Tryz.func114,Tryz.ntmps114
 go_wp2_with fail
 go_loop [5] (fun i=>∃ k:Nat,k≤n∧i=.int .i64 k∧Hid (∀ y∈ss.take k,(isId c) y=false)) (fun i=>n - (intOf i).toNat)
 case atStart=>exact ⟨0,Nat.zero_le _,rfl,by intro y hy;simp at hy⟩
 case round =>
  obtain ⟨k,hk,rfl,HT⟩:=hrel;by_cases hlt:k<n
  ·have HRW:=HR.out.1;obtain ⟨⟨x0,x1,x2,x3⟩,hp⟩:∃ p,ss[k]?=some p:=⟨_,List.getElem?_eq_getElem (by rw [HR.out.2];exact hlt)⟩;obtain ⟨bl,off,hao,hbl,c0,c1,c2,c3⟩:=ZN HRW hp;subst hao;simp only at c0 c1 c2 c3;have hlti:(k:Int)<(n:Int):=by omega
   clear HRW;cases hq:(x0 == c) with
   | true =>
    have HH:Hid ((ss.find? (isId c)).isSome=true):=List.find?_isSome.2 ⟨_,List.mem_of_getElem? hp,hq⟩;clear hp;go_wp2_with fail
    go_ret
    exact ⟨by rw [HH.out];rfl,rfl⟩
   | false =>
    have HN:Hid (∀ y∈ss.take (k+1),(isId c) y=false):=ZK HT.out hp (by show (x0 == c)=false;exact hq);clear hp;go_wp2_with fail
    go_round
    case rel=>exact ⟨k+1,by omega,by go_num,HN.out⟩
    case measure=>simp [intOf];omega
  ·have HM:Hid ((ss.find? (isId c)).isSome=false):=by
    show _=_;rw [List.find?_eq_none.2 (fun y hy=>by rw [HT.out y (by rw [List.take_of_length_le (by rw [HR.out.2];omega)];exact hy)];simp)];rfl
   go_wp2_with fail
   go_ret
   exact ⟨by rw [HM.out];rfl,rfl⟩
theorem cWaitersFor (ao:Option Addr) (n ac:Nat) (pool:ByteArray) (ws:List Wtr) (w:World) (hr:RowAt w (.slice ao n ac) n (flatW ws)) (hn:ws.length=n) (hlen:n≤maxLen) :
  Calls Tryz.prog 108 #[.slice ao n ac,.string pool] w fun e w'=>e=.returned (.int .i64 (cntG (isPoolW pool) ws:Int))∧w'=w:=by
 unfold maxLen at hlen;have HR:Hid (RowAt w (.slice ao n ac) n (flatW ws)∧ws.length=n):=⟨hr,hn⟩;clear hr hn;go_enter Tryz.func108,Tryz.ntmps108
 go_wp2_with fail
 go_loop [5,6] (fun q i=>∃ k m:Nat,k≤n∧m≤k∧i=.int .i64 k∧q=.int .i64 m∧Hid (cntG (isPoolW pool) (ws.take k)=m)) (fun _ i=>n - (intOf i).toNat)
 case atStart=>exact ⟨0,0,Nat.zero_le _,Nat.le_refl _,rfl,rfl,by show cntG _ _=0;simp [cntG]⟩
 case round =>
  obtain ⟨k,m,hk,hm,rfl,rfl,HT⟩:=hrel;by_cases hlt:k<n
  ·have HRW:=HR.out.1;obtain ⟨⟨x0,x1⟩,hp⟩:∃ p,ws[k]?=some p:=⟨_,List.getElem?_eq_getElem (by rw [HR.out.2];exact hlt)⟩;obtain ⟨bl,off,hao,hbl,c0,c1⟩:=Zaj HRW hp;subst hao;simp only at c0 c1;have hlti:(k:Int)<(n:Int):=by omega
   clear HRW;have hnx:=Zch (p:=isPoolW pool) hp;rw [HT.out] at hnx;cases hq:(x1.toList == pool.toList) with
   | true =>
    have HN:Hid (cntG (isPoolW pool) (ws.take (k+1))=m+1):=by
     have hq':(isPoolW pool) ⟨x0,x1⟩=true:=hq;show _=_;rw [hnx,if_pos hq']
    clear hp hnx;go_wp2_with fail
    go_round
    case rel=>exact ⟨k+1,m+1,by omega,by omega,by go_num,by go_num,HN.out⟩
    case measure=>simp [intOf];omega
   | false =>
    have HN:Hid (cntG (isPoolW pool) (ws.take (k+1))=m):=by
     have hq':¬(isPoolW pool) ⟨x0,x1⟩=true:=fun h=>by rw [show (isPoolW pool) ⟨x0,x1⟩=(x1.toList == pool.toList) from rfl,hq] at h;simp at h
     show _=_;rw [hnx,if_neg hq'];rfl
    clear hp hnx;go_wp2_with fail
    go_round
    case rel=>exact ⟨k+1,m,by omega,by omega,by go_num,rfl,HN.out⟩
    case measure=>simp [intOf];omega
  ·have HM:Hid (cntG (isPoolW pool) ws=m):=by
    show _=_;rw [←HT.out,List.take_of_length_le (by rw [HR.out.2];omega)]
   go_wp2_with fail
   go_ret
   exact ⟨by rw [HM.out];rfl,rfl⟩
theorem cHeldBy (ao:Option Addr) (n ac:Nat) (c:Int) (ss:List Srv) (w:World) (hr:RowAt w (.slice ao n ac) n (flatV ss)) (hn:ss.length=n) (hlen:n≤maxLen) :
  Calls Tryz.prog 107 #[.slice ao n ac,.int .i64 c] w fun e w'=>e=.returned (svA (orS (ss.find? (isCliV c))))∧Below w.heap.size w w':=by
 unfold maxLen at hlen;have HR:Hid (RowAt (w.alloc (.cells #[.int .i64 0,.string ⟨#[]⟩,.int .i64 0,.int .i64 0] 74)) (.slice ao n ac) n (flatV ss)∧ss.length=n):=⟨hr.nx (Zb _ _),hn⟩;clear hr hn;go_enter Tryz.func107,Tryz.ntmps107
 go_wp2_with fail
 go_loop [5] (fun i=>∃ k:Nat,k≤n∧i=.int .i64 k∧Hid (∀ y∈ss.take k,(isCliV c) y=false)) (fun i=>n - (intOf i).toNat)
 case atStart=>exact ⟨0,Nat.zero_le _,rfl,by intro y hy;simp at hy⟩
 case round =>
  obtain ⟨k,hk,rfl,HT⟩:=hrel;by_cases hlt:k<n
  ·have HRW:=HR.out.1;obtain ⟨⟨x0,x1,x2,x3⟩,hp⟩:∃ p,ss[k]?=some p:=⟨_,List.getElem?_eq_getElem (by rw [HR.out.2];exact hlt)⟩;obtain ⟨bl,off,hao,hbl,c0,c1,c2,c3⟩:=ZN HRW hp;subst hao;simp only at c0 c1 c2 c3;have hlti:(k:Int)<(n:Int):=by omega
   clear HRW;cases hq:(x3 == c) with
   | true =>
    have HH:Hid (ss.find? (isCliV c)=some ⟨x0,x1,x2,x3⟩):=Za5 HT.out hp hq;clear hp;go_wp2_with fail
    refine bodyPost_ret (v:=svA ⟨x0,x1,x2,x3⟩) (by simp [results,Tryz.results107,go_sem]) rfl ⟨by rw [HH.out];rfl,?_⟩;exact Zb _ _
   | false =>
    have HN:Hid (∀ y∈ss.take (k+1),(isCliV c) y=false):=ZK HT.out hp (by show (x3 == c)=false;exact hq);clear hp;go_wp2_with fail
    go_round
    case rel=>exact ⟨k+1,by omega,by go_num,HN.out⟩
    case measure=>simp [intOf];omega
  ·have HM:Hid (ss.find? (isCliV c)=none):=ZbI (fun y hy=>HT.out y (by rw [List.take_of_length_le (by rw [HR.out.2];omega)];exact hy));go_wp2_with fail
   refine bodyPost_ret (v:=svA zSrv) (by simp [results,Tryz.results107,go_sem]) rfl ⟨by rw [HM.out];rfl,?_⟩;exact Zb _ _
theorem cFirstIdle (ao:Option Addr) (n ac:Nat) (ss:List Srv) (w:World) (hr:RowAt w (.slice ao n ac) n (flatV ss)) (hn:ss.length=n) (hlen:n≤maxLen) :
  Calls Tryz.prog 167 #[.slice ao n ac] w fun e w'=>e=.returned (svA (orS (ss.find? (isCliV 0))))∧Below w.heap.size w w':=by
 have HH:=hideIt (cHeldBy ao n ac 0 ss (w.alloc (.cells #[.int .i64 0,.string ⟨#[]⟩,.int .i64 0,.int .i64 0] 74)) (hr.nx (Zb _ _)) hn hlen);clear hr hn;go_enter Tryz.func167,Tryz.ntmps167
 go_wp2_with fail
 refine HH.out.mono ?_;rintro e w1 ⟨rfl,hb⟩;obtain ⟨⟨x0,x1,x2,x3⟩,hx⟩:∃ x,orS (ss.find? (isCliV 0))=x:=⟨_,rfl⟩;rw [hx];have HX:=hideIt hx;obtain ⟨y0,y1,y2,y3,yz⟩:=blk4 hb (g:=w.heap.size) (by simp) (Zc _ _ rfl);have KB:Hid (Below w.heap.size w w1):=Za (Zb _ _) hb;clear hb hx HH;go_wp2_with fail
 refine bodyPost_ret (v:=svA ⟨x0,x1,x2,x3⟩) (by simp [results,Tryz.results167,go_sem,y0,y1,y2,y3]) rfl ⟨by rw [HX.out],?_⟩;have hg:w.heap.size≤w.heap.size:=Nat.le_refl _;exact (((KB.out.setCell hg _).setCell hg _).setCell hg _).setCell hg _
abbrev zPl:Pl:=⟨⟨#[]⟩,0,0,0⟩
def findV (o:Option Pl):Value:=match o with | some p=>.tuple #[plA p,.bool true] | none=>.tuple #[plA zPl,.bool false]
theorem cFind (ao:Option Addr) (n ac:Nat) (name:ByteArray) (ps:List Pl) (w:World) (hr:RowAt w (.slice ao n ac) n (flatP ps)) (hn:ps.length=n) (hlen:n≤maxLen) :
  Calls Tryz.prog 105 #[.slice ao n ac,.string name] w fun e w'=>e=.returned (findV (ps.find? (isNameP name)))∧Below w.heap.size w w':=by
 unfold maxLen at hlen;have HR:Hid (RowAt (w.alloc (bPl zPl)) (.slice ao n ac) n (flatP ps)∧ps.length=n):=⟨hr.nx (Zb _ _),hn⟩;clear hr hn;go_enter Tryz.func105,Tryz.ntmps105
 go_wp2_with fail
 go_loop [6] (fun i=>∃ k:Nat,k≤n∧i=.int .i64 k∧Hid (∀ y∈ps.take k,(isNameP name) y=false)) (fun i=>n - (intOf i).toNat)
 case atStart=>exact ⟨0,Nat.zero_le _,rfl,by intro y hy;simp at hy⟩
 case round =>
  obtain ⟨k,hk,rfl,HT⟩:=hrel;by_cases hlt:k<n
  ·have HRW:=HR.out.1;obtain ⟨⟨x0,x1,x2,x3⟩,hp⟩:∃ p,ps[k]?=some p:=⟨_,List.getElem?_eq_getElem (by rw [HR.out.2];exact hlt)⟩;obtain ⟨bl,off,hao,hbl,c0,c1,c2,c3⟩:=Zn HRW hp;subst hao;simp only at c0 c1 c2 c3;have hlti:(k:Int)<(n:Int):=by omega
   clear HRW;cases hq:(x0.toList == name.toList) with
   | true =>
    have HH:Hid (ps.find? (isNameP name)=some ⟨x0,x1,x2,x3⟩):=Za5 HT.out hp hq;clear hp;go_wp2_with fail
    refine bodyPost_ret (v:=.tuple #[plA ⟨x0,x1,x2,x3⟩,.bool true]) (by simp [results,Tryz.results105,go_sem]) rfl ⟨by rw [HH.out];rfl,?_⟩;exact Zb _ _
   | false =>
    have HN:Hid (∀ y∈ps.take (k+1),(isNameP name) y=false):=ZK HT.out hp (by show (x0.toList == name.toList)=false;exact hq);clear hp;go_wp2_with fail
    go_round
    case rel=>exact ⟨k+1,by omega,by go_num,HN.out⟩
    case measure=>simp [intOf];omega
  ·have HM:Hid (ps.find? (isNameP name)=none):=ZbI (fun y hy=>HT.out y (by rw [List.take_of_length_le (by rw [HR.out.2];omega)];exact hy));go_wp2_with fail
   refine bodyPost_ret (v:=.tuple #[plA zPl,.bool false]) (by simp [results,Tryz.results105,go_sem]) rfl ⟨by rw [HM.out];rfl,?_⟩;exact Zb _ _
theorem cIsClient (c:Int) (w:World):Calls Tryz.prog 103 #[.int .i64 c] w fun e w'=>e=.returned (.bool (decide (1≤c)&&decide (c≤99)))∧w'=w:=by
 by_cases h1:1≤c
 ·by_cases h2:c≤99
  ·go_enter Tryz.func103,Tryz.ntmps103
   go_wp2_with fail
   go_ret
   exact ⟨by simp [h1,h2],rfl⟩
  ·go_enter Tryz.func103,Tryz.ntmps103
   go_wp2_with fail
   go_ret
   exact ⟨by simp [h2],rfl⟩
 ·go_enter Tryz.func103,Tryz.ntmps103
  go_wp2_with fail
  go_ret
  exact ⟨by simp;omega,rfl⟩
def keepId (id:Int) (x:Srv):Bool:=!decide (x.id=id)
def keepC (c:Int) (x:Wtr):Bool:=!decide (x.client=c)
theorem ZhW (gp:Nat) (b:Int) (po:Option Addr) (n1 pc:Nat) (so:Option Addr) (n2 sc:Nat) (wo:Option Addr) (n3 wc:Nat) (op:Int) (q:WyV) (id:Int) (ss:List Srv) (w:World) (hgp:w.heap[gp]?=some (bDesk b po n1 pc so n2 sc wo n3 wc op q)) (hr:RowAt w (.slice so n2 sc) n2 (flatV ss)) (hn:ss.length=n2) (hq:n2≤1099511627776) :
  Calls Tryz.prog 112 #[.pointer (some ⟨gp,0,none⟩),.int .i64 id] w fun e w'=>(∃ x,e=.returned x)∧∃ vo vc,w'.heap[gp]?=some (bDesk b po n1 pc vo (ss.filter (keepId id)).length vc wo n3 wc op q)∧w'.ownsRow w.heap.size 74 4 (.slice vo (ss.filter (keepId id)).length vc) (ss.filter (keepId id)).length (flatV (ss.filter (keepId id)))∧Chg (fun y=>y=gp) w w':=by
 have hgplt:gp<w.heap.size:=(Array.getElem?_eq_some_iff.1 hgp).1;have HR:Hid (RowAt w (.slice so n2 sc) n2 (flatV ss)∧ss.length=n2∧w.heap[gp]?=some (bDesk b po n1 pc so n2 sc wo n3 wc op q)):=⟨hr,hn,hgp⟩;clear hr hn hgp;go_enter Tryz.func112,Tryz.ntmps112
 go_wp2_with fail
 go_loopw [4,5] (fun l i wr=>∃ (k m:Nat) (vo:Option Addr) (vc:Nat),k≤n2∧m≤k∧i=.int .i64 k∧l=.slice vo m vc∧Hid (((ss.take k).filter (keepId id)).length=m∧wr.ownsRow w.heap.size 74 4 (.slice vo m vc) m (flatV ((ss.take k).filter (keepId id)))∧Below w.heap.size w wr)) (fun _ i _=>n2 - (intOf i).toNat)
 case atStart=>exact ⟨0,0,some ⟨w.heap.size,0,none⟩,0,Nat.zero_le _,Nat.le_refl _,rfl,rfl,by simp,made0 w _ 4 _ rfl _ (Nat.le_refl _),Zb _ _⟩
 case round =>
  obtain ⟨k,m,vo,vc,hk,hm,rfl,rfl,HS⟩:=hrel;have hd:wr.heap[gp]?=some (bDesk b po n1 pc so n2 sc wo n3 wc op q):=(HS.out.2.2.block gp hgplt).trans HR.out.2.2;obtain ⟨g0,g1,g2,g3,g4,gz⟩:=blk5d hd;by_cases hlt:k<n2
  ·obtain ⟨⟨x0,x1,x2,x3⟩,hp⟩:∃ p,ss[k]?=some p:=⟨_,List.getElem?_eq_getElem (by rw [HR.out.2.1];exact hlt)⟩;obtain ⟨bl,off,hao,hbl,c0,c1,c2,c3⟩:=ZN (HR.out.1.nx HS.out.2.2) hp;subst hao;simp only at c0 c1 c2 c3;have hlti:(k:Int)<(n2:Int):=by omega
   have HNX:Hid ((ss.take (k+1)).filter (keepId id)=(ss.take k).filter (keepId id)++if (keepId id) ⟨x0,x1,x2,x3⟩=true then [(⟨x0,x1,x2,x3⟩:Srv)] else []):=by
    obtain ⟨hk',e⟩:=List.getElem?_eq_some_iff.1 hp;show _=_;rw [List.take_succ_eq_append_getElem hk',List.filter_append,e];congr 1;cases hkk:(keepId id) ⟨x0,x1,x2,x3⟩ <;> simp [hkk]
   clear hp hd;by_cases hc:x0=id
   ·have hcb:(x0 == id)=true:=by rw [beq_iff_eq];exact hc
    have HN:Hid ((ss.take (k+1)).filter (keepId id)=(ss.take k).filter (keepId id)):=by
     show _=_;rw [HNX.out,if_neg (by simp [keepId,hc])];simp
    clear hc;go_wp2_with fail
    go_roundw
    case rel=>exact ⟨k+1,m,vo,vc,by omega,by omega,by go_num,rfl,by rw [HN.out];exact HS.out⟩
    case measure=>simp [intOf];omega
   ·have hcb:(x0 == id)=false:=by rw [beq_eq_false_iff_ne];exact hc
    have HN:Hid ((ss.take (k+1)).filter (keepId id)=(ss.take k).filter (keepId id)++[⟨x0,x1,x2,x3⟩]):=by
     show _=_;rw [HNX.out,if_pos (by simp [keepId,hc])]
    clear hc;go_wp2_with (at_builtin;refine appendG 74 32 4 40 _ Zce Tryz.underlying32 rfl (by decide) (by decide) rfl (.tmp 26) (.tmp 34) rfl w.heap.size _ m (flatV ((ss.take k).filter (keepId id))) rfl (HS.out.2.1.alloc _) (some ⟨wr.heap.size,0,none⟩) 1 1 [.int .i64 x0,.string x1,.int .i64 x2,.int .i64 x3] rfl rfl (ZA wr [.int .i64 x0,.string x1,.int .i64 x2,.int .i64 x3] _ 1 rfl) (by intro u hu;simp at hu;rcases hu with rfl | rfl | rfl | rfl <;> rfl) (fun h=>by cases h) (by omega) (by simp;have:=HS.out.2.2.size;omega) ?next)
    case next =>
     intro v' w6 hown6 hb6;obtain ⟨vo6,vc6,rfl,_⟩:=Zd hown6;have K6:Hid (((ss.take (k+1)).filter (keepId id)).length=m+1∧w6.ownsRow w.heap.size 74 4 (.slice vo6 (m+1) vc6) (m+1) (flatV ((ss.take (k+1)).filter (keepId id)))∧Below w.heap.size w w6):=by
      refine ⟨by rw [HN.out];simp [HS.out.1],?_,(HS.out.2.2.alloc HS.out.2.2.size _).trans hb6⟩;rw [HN.out];unfold flatV;rw [List.flatMap_append];exact hown6
     clear hown6 hb6 g0 g1 g2 g3 g4 gz;go_wp2_with fail
     go_roundw
     case rel=>exact ⟨k+1,m+1,vo6,vc6,by omega,by omega,by go_num,rfl,K6.out⟩
     case measure=>simp [intOf];omega
  ·have HE:Hid ((ss.filter (keepId id)).length=m∧wr.ownsRow w.heap.size 74 4 (.slice vo m vc) m (flatV (ss.filter (keepId id)))∧Below w.heap.size w wr∧wr.heap[gp]?=some (bDesk b po n1 pc so n2 sc wo n3 wc op q)):=by
    have ht:ss.take k=ss:=List.take_of_length_le (by rw [HR.out.2.1];omega);have:=HS.out;rw [ht] at this;exact ⟨this.1,this.2.1,this.2.2,hd⟩
   clear hd;go_wp2_with fail
   refine bodyPost_end (v:=.tuple #[]) (by simp [results,Tryz.results112,go_sem]) rfl ?_;refine ⟨⟨_,rfl⟩,vo,vc,?_,?_,?_⟩
   ·rw [HE.out.1];exact Zg _ _ _ _ _ _ HE.out.2.2.2
   ·rw [HE.out.1];exact Zj HE.out.2.1 (fun j hj=>Below.heap_setCell _ _ _ _ (by show j≠gp;have:=(HE.out.2.1.lt j hj).1;omega))
   ·exact (Chg.of_below HE.out.2.2.1).trans (Chg.set (F:=fun y=>y=gp) wr gp 2 _ rfl) (fun y hy=>.inl hy)
theorem ZhN (gp:Nat) (b:Int) (po:Option Addr) (n1 pc:Nat) (so:Option Addr) (n2 sc:Nat) (wo:Option Addr) (n3 wc:Nat) (op:Int) (q:WyV) (c:Int) (ws:List Wtr) (w:World) (hgp:w.heap[gp]?=some (bDesk b po n1 pc so n2 sc wo n3 wc op q)) (hr:RowAt w (.slice wo n3 wc) n3 (flatW ws)) (hn:ws.length=n3) (hq:n3≤1099511627776) :
  Calls Tryz.prog 109 #[.pointer (some ⟨gp,0,none⟩),.int .i64 c] w fun e w'=>(∃ x,e=.returned x)∧∃ vo vc,w'.heap[gp]?=some (bDesk b po n1 pc so n2 sc vo (ws.filter (keepC c)).length vc op q)∧w'.ownsRow w.heap.size 76 2 (.slice vo (ws.filter (keepC c)).length vc) (ws.filter (keepC c)).length (flatW (ws.filter (keepC c)))∧Chg (fun y=>y=gp) w w':=by
 have hgplt:gp<w.heap.size:=(Array.getElem?_eq_some_iff.1 hgp).1;have HR:Hid (RowAt w (.slice wo n3 wc) n3 (flatW ws)∧ws.length=n3∧w.heap[gp]?=some (bDesk b po n1 pc so n2 sc wo n3 wc op q)):=⟨hr,hn,hgp⟩;clear hr hn hgp;go_enter Tryz.func109,Tryz.ntmps109
 go_wp2_with fail
 go_loopw [4,5] (fun l i wr=>∃ (k m:Nat) (vo:Option Addr) (vc:Nat),k≤n3∧m≤k∧i=.int .i64 k∧l=.slice vo m vc∧Hid (((ws.take k).filter (keepC c)).length=m∧wr.ownsRow w.heap.size 76 2 (.slice vo m vc) m (flatW ((ws.take k).filter (keepC c)))∧Below w.heap.size w wr)) (fun _ i _=>n3 - (intOf i).toNat)
 case atStart=>exact ⟨0,0,some ⟨w.heap.size,0,none⟩,0,Nat.zero_le _,Nat.le_refl _,rfl,rfl,by simp,made0 w _ 2 _ rfl _ (Nat.le_refl _),Zb _ _⟩
 case round =>
  obtain ⟨k,m,vo,vc,hk,hm,rfl,rfl,HS⟩:=hrel;have hd:wr.heap[gp]?=some (bDesk b po n1 pc so n2 sc wo n3 wc op q):=(HS.out.2.2.block gp hgplt).trans HR.out.2.2;obtain ⟨g0,g1,g2,g3,g4,gz⟩:=blk5d hd;by_cases hlt:k<n3
  ·obtain ⟨⟨x0,x1⟩,hp⟩:∃ p,ws[k]?=some p:=⟨_,List.getElem?_eq_getElem (by rw [HR.out.2.1];exact hlt)⟩;obtain ⟨bl,off,hao,hbl,c0,c1⟩:=Zaj (HR.out.1.nx HS.out.2.2) hp;subst hao;simp only at c0 c1;have hlti:(k:Int)<(n3:Int):=by omega
   have HNX:Hid ((ws.take (k+1)).filter (keepC c)=(ws.take k).filter (keepC c)++if (keepC c) ⟨x0,x1⟩=true then [(⟨x0,x1⟩:Wtr)] else []):=by
    obtain ⟨hk',e⟩:=List.getElem?_eq_some_iff.1 hp;show _=_;rw [List.take_succ_eq_append_getElem hk',List.filter_append,e];congr 1;cases hkk:(keepC c) ⟨x0,x1⟩ <;> simp [hkk]
   clear hp hd;by_cases hc:x0=c
   ·have hcb:(x0 == c)=true:=by rw [beq_iff_eq];exact hc
    have HN:Hid ((ws.take (k+1)).filter (keepC c)=(ws.take k).filter (keepC c)):=by
     show _=_;rw [HNX.out,if_neg (by simp [keepC,hc])];simp
    clear hc;go_wp2_with fail
    go_roundw
    case rel=>exact ⟨k+1,m,vo,vc,by omega,by omega,by go_num,rfl,by rw [HN.out];exact HS.out⟩
    case measure=>simp [intOf];omega
   ·have hcb:(x0 == c)=false:=by rw [beq_eq_false_iff_ne];exact hc
    have HN:Hid ((ws.take (k+1)).filter (keepC c)=(ws.take k).filter (keepC c)++[⟨x0,x1⟩]):=by
     show _=_;rw [HNX.out,if_pos (by simp [keepC,hc])]
    clear hc;go_wp2_with (at_builtin;refine appendG 76 33 2 24 _ ZfY Tryz.underlying33 rfl (by decide) (by decide) rfl (.tmp 26) (.tmp 34) rfl w.heap.size _ m (flatW ((ws.take k).filter (keepC c))) rfl (HS.out.2.1.alloc _) (some ⟨wr.heap.size,0,none⟩) 1 1 [.int .i64 x0,.string x1] rfl rfl (ZA wr [.int .i64 x0,.string x1] _ 1 rfl) (by intro u hu;simp at hu;rcases hu with rfl | rfl <;> rfl) (fun h=>by cases h) (by omega) (by simp;have:=HS.out.2.2.size;omega) ?next)
    case next =>
     intro v' w6 hown6 hb6;obtain ⟨vo6,vc6,rfl,_⟩:=Zd hown6;have K6:Hid (((ws.take (k+1)).filter (keepC c)).length=m+1∧w6.ownsRow w.heap.size 76 2 (.slice vo6 (m+1) vc6) (m+1) (flatW ((ws.take (k+1)).filter (keepC c)))∧Below w.heap.size w w6):=by
      refine ⟨by rw [HN.out];simp [HS.out.1],?_,(HS.out.2.2.alloc HS.out.2.2.size _).trans hb6⟩;rw [HN.out];unfold flatW;rw [List.flatMap_append];exact hown6
     clear hown6 hb6 g0 g1 g2 g3 g4 gz;go_wp2_with fail
     go_roundw
     case rel=>exact ⟨k+1,m+1,vo6,vc6,by omega,by omega,by go_num,rfl,K6.out⟩
     case measure=>simp [intOf];omega
  ·have HE:Hid ((ws.filter (keepC c)).length=m∧wr.ownsRow w.heap.size 76 2 (.slice vo m vc) m (flatW (ws.filter (keepC c)))∧Below w.heap.size w wr∧wr.heap[gp]?=some (bDesk b po n1 pc so n2 sc wo n3 wc op q)):=by
    have ht:ws.take k=ws:=List.take_of_length_le (by rw [HR.out.2.1];omega);have:=HS.out;rw [ht] at this;exact ⟨this.1,this.2.1,this.2.2,hd⟩
   clear hd;go_wp2_with fail
   refine bodyPost_end (v:=.tuple #[]) (by simp [results,Tryz.results109,go_sem]) rfl ?_;refine ⟨⟨_,rfl⟩,vo,vc,?_,?_,?_⟩
   ·rw [HE.out.1];exact Zg _ _ _ _ _ _ HE.out.2.2.2
   ·rw [HE.out.1];exact Zj HE.out.2.1 (fun j hj=>Below.heap_setCell _ _ _ _ (by show j≠gp;have:=(HE.out.2.1.lt j hj).1;omega))
   ·exact (Chg.of_below HE.out.2.2.1).trans (Chg.set (F:=fun y=>y=gp) wr gp 3 _ rfl) (fun y hy=>.inl hy)
theorem cServersOf (so:Option Addr) (n2 sc:Nat) (pool:ByteArray) (ss:List Srv) (w:World) (hr:RowAt w (.slice so n2 sc) n2 (flatV ss)) (hn:ss.length=n2) (hq:n2≤1099511627776) :
  Calls Tryz.prog 149 #[.slice so n2 sc,.string pool] w fun e w'=>∃ vo vc,e=.returned (.slice vo (ss.filter (isPoolV pool)).length vc)∧w'.ownsRow w.heap.size 74 4 (.slice vo (ss.filter (isPoolV pool)).length vc) (ss.filter (isPoolV pool)).length (flatV (ss.filter (isPoolV pool)))∧Below w.heap.size w w':=by
 have HR:Hid (RowAt w (.slice so n2 sc) n2 (flatV ss)∧ss.length=n2):=⟨hr,hn⟩;clear hr hn;go_enter Tryz.func149,Tryz.ntmps149
 go_wp2_with fail
 go_loopw [5,6] (fun l i wr=>∃ (k m:Nat) (vo:Option Addr) (vc:Nat),k≤n2∧m≤k∧i=.int .i64 k∧l=.slice vo m vc∧Hid (((ss.take k).filter (isPoolV pool)).length=m∧wr.ownsRow w.heap.size 74 4 (.slice vo m vc) m (flatV ((ss.take k).filter (isPoolV pool)))∧Below w.heap.size w wr)) (fun _ i _=>n2 - (intOf i).toNat)
 case atStart=>exact ⟨0,0,some ⟨w.heap.size,0,none⟩,0,Nat.zero_le _,Nat.le_refl _,rfl,rfl,by simp,made0 w _ 4 _ rfl _ (Nat.le_refl _),Zb _ _⟩
 case round =>
  obtain ⟨k,m,vo,vc,hk,hm,rfl,rfl,HS⟩:=hrel;by_cases hlt:k<n2
  ·obtain ⟨⟨x0,x1,x2,x3⟩,hp⟩:∃ p,ss[k]?=some p:=⟨_,List.getElem?_eq_getElem (by rw [HR.out.2];exact hlt)⟩;obtain ⟨bl,off,hao,hbl,c0,c1,c2,c3⟩:=ZN (HR.out.1.nx HS.out.2.2) hp;subst hao;simp only at c0 c1 c2 c3;have hlti:(k:Int)<(n2:Int):=by omega
   have HNX:Hid ((ss.take (k+1)).filter (isPoolV pool)=(ss.take k).filter (isPoolV pool)++if (isPoolV pool) ⟨x0,x1,x2,x3⟩=true then [(⟨x0,x1,x2,x3⟩:Srv)] else []):=by
    obtain ⟨hk',e⟩:=List.getElem?_eq_some_iff.1 hp;show _=_;rw [List.take_succ_eq_append_getElem hk',List.filter_append,e];congr 1;cases hkk:(isPoolV pool) ⟨x0,x1,x2,x3⟩ <;> simp [hkk]
   clear hp;cases hcb:(x1.toList == pool.toList) with
   | false =>
    have HN:Hid ((ss.take (k+1)).filter (isPoolV pool)=(ss.take k).filter (isPoolV pool)):=by
     show _=_;have hq':¬(isPoolV pool) ⟨x0,x1,x2,x3⟩=true:=fun h=>by rw [show (isPoolV pool) ⟨x0,x1,x2,x3⟩=(x1.toList == pool.toList) from rfl,hcb] at h;simp at h
     rw [HNX.out,if_neg hq'];simp
    go_wp2_with fail
    go_roundw
    case rel=>exact ⟨k+1,m,vo,vc,by omega,by omega,by go_num,rfl,by rw [HN.out];exact HS.out⟩
    case measure=>simp [intOf];omega
   | true =>
    have HN:Hid ((ss.take (k+1)).filter (isPoolV pool)=(ss.take k).filter (isPoolV pool)++[⟨x0,x1,x2,x3⟩]):=by
     show _=_;have hq':(isPoolV pool) ⟨x0,x1,x2,x3⟩=true:=hcb;rw [HNX.out,if_pos hq']
    go_wp2_with (at_builtin;refine appendG 74 32 4 40 _ Zce Tryz.underlying32 rfl (by decide) (by decide) rfl (.tmp 21) (.tmp 26) rfl w.heap.size _ m (flatV ((ss.take k).filter (isPoolV pool))) rfl (HS.out.2.1.alloc _) (some ⟨wr.heap.size,0,none⟩) 1 1 [.int .i64 x0,.string x1,.int .i64 x2,.int .i64 x3] rfl rfl (ZA wr [.int .i64 x0,.string x1,.int .i64 x2,.int .i64 x3] _ 1 rfl) (by intro u hu;simp at hu;rcases hu with rfl | rfl | rfl | rfl <;> rfl) (fun h=>by cases h) (by omega) (by simp;have:=HS.out.2.2.size;omega) ?next)
    case next =>
     intro v' w6 hown6 hb6;obtain ⟨vo6,vc6,rfl,_⟩:=Zd hown6;have K6:Hid (((ss.take (k+1)).filter (isPoolV pool)).length=m+1∧w6.ownsRow w.heap.size 74 4 (.slice vo6 (m+1) vc6) (m+1) (flatV ((ss.take (k+1)).filter (isPoolV pool)))∧Below w.heap.size w w6):=by
      refine ⟨by rw [HN.out];simp [HS.out.1],?_,(HS.out.2.2.alloc HS.out.2.2.size _).trans hb6⟩;rw [HN.out];unfold flatV;rw [List.flatMap_append];exact hown6
     clear hown6 hb6;go_wp2_with fail
     go_roundw
     case rel=>exact ⟨k+1,m+1,vo6,vc6,by omega,by omega,by go_num,rfl,K6.out⟩
     case measure=>simp [intOf];omega
  ·have HE:Hid ((ss.filter (isPoolV pool)).length=m∧wr.ownsRow w.heap.size 74 4 (.slice vo m vc) m (flatV (ss.filter (isPoolV pool)))∧Below w.heap.size w wr):=by
    have ht:ss.take k=ss:=List.take_of_length_le (by rw [HR.out.2];omega);have:=HS.out;rw [ht] at this;exact this
   go_wp2_with fail
   go_ret
   refine ⟨vo,vc,?_,?_,HE.out.2.2⟩
   ·rw [HE.out.1];rfl
   ·rw [HE.out.1];exact HE.out.2.1
theorem cCountOf (so:Option Addr) (n2 sc:Nat) (pool:ByteArray) (ss:List Srv) (w:World) (hr:RowAt w (.slice so n2 sc) n2 (flatV ss)) (hn:ss.length=n2) (hq:n2≤1099511627776) :
  Calls Tryz.prog 123 #[.slice so n2 sc,.string pool] w fun e w'=>e=.returned (.int .i64 (cntG (isPoolV pool) ss:Int))∧Below w.heap.size w w':=by
 have HC:=hideIt (cServersOf so n2 sc pool ss w hr hn hq);have hle:(ss.filter (isPoolV pool)).length≤n2:=by rw [←hn];exact List.length_filter_le _ _
 clear hr hn;go_enter Tryz.func123,Tryz.ntmps123
 go_wp2_with fail
 refine HC.out.mono ?_;rintro e w1 ⟨vo,vc,rfl,ho,hb⟩;have K:=hideIt hb;clear ho hb HC;go_wp2_with fail
 go_ret
 exact ⟨rfl,K.out⟩
theorem cFirstIdleOf (so:Option Addr) (n2 sc:Nat) (pool:ByteArray) (ss:List Srv) (w:World) (hr:RowAt w (.slice so n2 sc) n2 (flatV ss)) (hn:ss.length=n2) (hq:n2≤1099511627776) :
  Calls Tryz.prog 160 #[.slice so n2 sc,.string pool] w fun e w'=>e=.returned (svA (orS (ss.find? (fun s=>isPoolV pool s&&isCliV 0 s))))∧Below w.heap.size w w':=by
 have HC:=hideIt (cServersOf so n2 sc pool ss (w.alloc (.cells #[.int .i64 0,.string ⟨#[]⟩,.int .i64 0,.int .i64 0] 74)) (hr.nx (Zb _ _)) hn hq);have hle:(ss.filter (isPoolV pool)).length≤n2:=by rw [←hn];exact List.length_filter_le _ _
 clear hr hn;go_enter Tryz.func160,Tryz.ntmps160
 go_wp2_with fail
 refine HC.out.mono ?_;rintro e w1 ⟨vo,vc,rfl,ho,hb⟩;have HI:=hideIt (cFirstIdle vo (ss.filter (isPoolV pool)).length vc (ss.filter (isPoolV pool)) w1 (Zd ho) rfl (by unfold maxLen;omega));have K:Hid (w1.heap[w.heap.size]?=some (.cells #[.int .i64 0,.string ⟨#[]⟩,.int .i64 0,.int .i64 0] 74)∧Below w.heap.size w w1∧w.heap.size<w1.heap.size):=⟨(hb.block _ (by simp)).trans (Zc _ _ rfl),Za (Zb _ _) hb,Nat.lt_of_lt_of_le (by simp) hb.size⟩;clear ho hb HC;go_wp2_with fail
 refine HI.out.mono ?_;rintro e w2 ⟨rfl,hb⟩;obtain ⟨⟨x0,x1,x2,x3⟩,hx⟩:∃ x,orS ((ss.filter (isPoolV pool)).find? (isCliV 0))=x:=⟨_,rfl⟩;rw [hx];have HX:Hid (orS (ss.find? (fun s=>isPoolV pool s&&isCliV 0 s))=⟨x0,x1,x2,x3⟩):=by
  show _=_;rw [←hx,List.find?_filter];refine congrArg (fun p=>orS (List.find? p ss)) (funext fun s=>?_);cases isPoolV pool s <;> cases isCliV 0 s <;> rfl
 obtain ⟨y0,y1,y2,y3,yz⟩:=blk4 hb (g:=w.heap.size) K.out.2.2 K.out.1;have KB:Hid (Below w.heap.size w w2):=Za K.out.2.1 hb;clear hb hx HI;go_wp2_with fail
 refine bodyPost_ret (v:=svA ⟨x0,x1,x2,x3⟩) (by simp [results,Tryz.results160,go_sem,y0,y1,y2,y3]) rfl ⟨by rw [HX.out],?_⟩;have hg:w.heap.size≤w.heap.size:=Nat.le_refl _;exact (((KB.out.setCell hg _).setCell hg _).setCell hg _).setCell hg _
def handed (id c:Int) (x:Srv):Srv:=if x.id=id then {x with client:=c} else x
def handTo (id c:Int) (ss:List Srv) (k:Nat):List Srv:=(ss.take k).map (handed id c)++ss.drop k
theorem Ze6:∀ (l:List Srv) (i:Nat) (x:Srv) (c:Int),l[i]?=some x→(flatV l).set (i*4+3) (.int .i64 c)=flatV (l.set i {x with client:=c})
 | [],i,x,c,h=>by simp at h
 | y :: l,0,x,c,h=>by
  obtain rfl:y=x:=by simpa using h
  rfl
 | y :: l,i+1,x,c,h=>by
  have ih:=Ze6 l i x c (by simpa using h);have e:(i+1)*4+3=(i*4+3)+1+1+1+1:=by omega
  rw [e];show fSv y++(flatV l).set (i*4+3) (.int .i64 c)=fSv y++flatV (l.set i {x with client:=c});rw [ih]
theorem Zho {ss:List Srv} {k:Nat} {x:Srv} (id c:Int) (h:ss[k]?=some x):(handTo id c ss k)[k]?=some x∧handTo id c ss (k+1)=(handTo id c ss k).set k (handed id c x):=by
 obtain ⟨hk,e⟩:=List.getElem?_eq_some_iff.1 h;have hl:((ss.take k).map (handed id c)).length=k:=by simp;omega
 have hd:ss.drop k=x :: ss.drop (k+1):=by rw [List.drop_eq_getElem_cons hk,e]
 unfold handTo;constructor
 ·rw [List.getElem?_append_right (by omega),hl,hd];simp
 ·rw [List.set_append_right _ _ (by omega),hl,hd,List.take_succ_eq_append_getElem hk,e];simp
theorem Ziu (B gp:Nat) (b:Int) (po:Option Addr) (n1 pc:Nat) (so:Option Addr) (n2 sc:Nat) (wo:Option Addr) (n3 wc:Nat) (op:Int) (q:WyV) (id c:Int) (ss:List Srv) (w:World) (hgp:w.heap[gp]?=some (bDesk b po n1 pc so n2 sc wo n3 wc op q)) (hr:w.ownsRow B 74 4 (.slice so n2 sc) n2 (flatV ss)) (hn:ss.length=n2) (hq:n2≤1099511627776) :
  Calls Tryz.prog 110 #[.pointer (some ⟨gp,0,none⟩),.int .i64 id,.int .i64 c] w fun e w'=>(∃ x,e=.returned x)∧w'.heap[gp]?=some (bDesk b po n1 pc so n2 sc wo n3 wc op q)∧w'.ownsRow B 74 4 (.slice so n2 sc) n2 (flatV (ss.map (handed id c)))∧Chg (fun y=>(Value.slice so n2 sc).ownBlock=some y) w w':=by
 have HR:Hid (w.ownsRow B 74 4 (.slice so n2 sc) n2 (flatV ss)∧ss.length=n2∧w.heap[gp]?=some (bDesk b po n1 pc so n2 sc wo n3 wc op q)):=⟨hr,hn,hgp⟩;clear hr hn hgp;go_enter Tryz.func110,Tryz.ntmps110
 go_wp2_with fail
 go_loopw [6] (fun i wr=>∃ (k:Nat),k≤n2∧i=.int .i64 k∧Hid (wr.heap[gp]?=some (bDesk b po n1 pc so n2 sc wo n3 wc op q)∧wr.ownsRow B 74 4 (.slice so n2 sc) n2 (flatV (handTo id c ss k))∧Chg (fun y=>(Value.slice so n2 sc).ownBlock=some y) w wr)) (fun i _=>n2 - (intOf i).toNat)
 case atStart=>exact ⟨0,Nat.zero_le _,rfl,HR.out.2.2,by simpa [handTo] using HR.out.1,Chg.refl _ _⟩
 case round =>
  obtain ⟨k,hk,rfl,HS⟩:=hrel;have hd:=HS.out.1;obtain ⟨g0,g1,g2,g3,g4,gz⟩:=blk5d hd;by_cases hlt:k<n2
  ·obtain ⟨⟨x0,x1,x2,x3⟩,hp⟩:∃ p,ss[k]?=some p:=⟨_,List.getElem?_eq_getElem (by rw [HR.out.2.1];exact hlt)⟩;have HA:=Zho id c hp;obtain ⟨bl,off,hao,hbl,c0,c1,c2,c3⟩:=ZN (Zd HS.out.2.1) HA.1;subst hao;have HO:Hid (off=0∧gp≠bl):=by
    refine ⟨?_,?_⟩
    ·rcases HS.out.2.1.2 with ⟨h',_⟩ | ⟨g',cap',cur,h',_⟩
     ·simp at h'
     ·simp at h';exact h'.1.2
    ·intro e;obtain ⟨cc,fz,hh⟩:=Go.Lib.ownsRow_kind HS.out.2.1 bl rfl;rw [←e,HS.out.1] at hh;simp [bDesk] at hh
   have hz:∀ a,wr.frozen? ⟨bl,a,none⟩=false:=by
    have h:=HS.out.2.1;rw [HO.out.1] at h;exact fun a=>h.frozenAt a
   simp only at c0 c1 c2 c3;have hlti:(k:Int)<(n2:Int):=by omega
   have HB:Hid ((handTo id c ss k)[k]?=some ⟨x0,x1,x2,x3⟩∧handTo id c ss (k+1)=(handTo id c ss k).set k (handed id c ⟨x0,x1,x2,x3⟩)):=HA;clear hp hd HA;by_cases hc:x0=id
   ·have hcb:(x0 == id)=true:=by rw [beq_iff_eq];exact hc
    have HC:Hid (x0=id):=hc;clear hc;go_wp2_with fail
    go_roundw
    case rel =>
     refine ⟨k+1,by omega,by go_num,?_,?_,?_⟩
     ·exact (Below.heap_setCell _ _ _ _ HO.out.2).trans HS.out.1
     ·have h:=HS.out.2.1;have e:=HO.out.1;subst e;rw [HB.out.2,handed,if_pos HC.out,←Ze6 _ _ _ _ HB.out.1];have:=(h.stored (k*4+3) (.int .i64 c)).1;simpa using this
     ·exact HS.out.2.2.trans (Chg.set (F:=fun y=>y=bl) wr bl _ _ rfl) (fun y hy=>.inl (by rw [hy];rfl))
    case measure=>simp [intOf];omega
   ·have hcb:(x0 == id)=false:=by rw [beq_eq_false_iff_ne];exact hc
    have HC:Hid (¬x0=id):=hc;clear hc;go_wp2_with fail
    go_roundw
    case rel =>
     refine ⟨k+1,by omega,by go_num,HS.out.1,?_,HS.out.2.2⟩;rw [HB.out.2,handed,if_neg HC.out];have:(handTo id c ss k).set k ⟨x0,x1,x2,x3⟩=handTo id c ss k:=by
      obtain ⟨hk',e⟩:=List.getElem?_eq_some_iff.1 HB.out.1;rw [←e];exact List.set_getElem_self hk'
     rw [this];exact HS.out.2.1
    case measure=>simp [intOf];omega
  ·have HE:handTo id c ss k=ss.map (handed id c):=by
    have ht:ss.take k=ss:=List.take_of_length_le (by rw [HR.out.2.1];omega);have h2:ss.drop k=[]:=List.drop_eq_nil_of_le (by rw [HR.out.2.1];omega);unfold handTo;rw [ht,h2,List.append_nil]
   have HF:Hid (wr.heap[gp]?=some (bDesk b po n1 pc so n2 sc wo n3 wc op q)∧wr.ownsRow B 74 4 (.slice so n2 sc) n2 (flatV (ss.map (handed id c)))∧Chg (fun y=>(Value.slice so n2 sc).ownBlock=some y) w wr):=by
    rw [←HE];exact HS.out
   clear hd HE;go_wp2_with fail
   refine bodyPost_end (v:=.tuple #[]) (by simp [results,Tryz.results110,go_sem]) rfl ?_;exact ⟨⟨_,rfl⟩,HF.out.1,HF.out.2.1,HF.out.2.2⟩
end Lw
end Go.Proofs.YtcpikklofilkcaaGreat
