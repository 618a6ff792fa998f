import Derived.Test.YtcpikklofilkcaaGreatNqQ
import Derived.Deep.RegionLaw
import Derived.Deep.AppendLies
import Derived.Deep.DeepCutAuto
import Derived.Deep.RegionHeld3
import Derived.Lib.OwnKind
import Derived.Test.YtcpikklofilkcaaGreatNqG
set_option maxRecDepth 100000
set_option maxHeartbeats 16000000
namespace Go.Proofs.YtcpikklofilkcaaGreat
open Go.RowKit
namespace Lw
open Co
theorem rHolds (b:Int) (p1:Option Addr) (n1 p2:Nat) (s1:Option Addr) (n2 s2:Nat) (w1:Option Addr) (n3 w2:Nat) (t1:Option Addr) (n4 t2:Nat) (bg bk:Bool) (nx hb:Int) (h1:Option Addr) (n5 h2:Nat) (c:Int) (ss:List Srv) (w:World) (hr:RowAt w (.slice s1 n2 s2) n2 (flatV ss)) (hn:ss.length=n2) (hlen:n2≤maxLen) :
  Calls Tryz.prog 65 #[.agg #[.int .i64 b,.slice p1 n1 p2,.slice s1 n2 s2,.slice w1 n3 w2,.slice t1 n4 t2,.bool bg,.bool bk,.int .i64 nx,.int .i64 hb,.slice h1 n5 h2],.int .i64 c] w fun e w'=>e=.returned (.int .i64 (optI (ss.findIdx? (isCliV c))))∧Below w.heap.size w w':=by
 unfold maxLen at hlen;have HR:Hid (RowAt (w.alloc (.cells #[.int .i64 b,.slice p1 n1 p2,.slice s1 n2 s2,.slice w1 n3 w2,.slice t1 n4 t2,.bool bg,.bool bk,.int .i64 nx,.int .i64 hb,.slice h1 n5 h2] 38)) (.slice s1 n2 s2) n2 (flatV ss)∧ss.length=n2∧(w.alloc (.cells #[.int .i64 b,.slice p1 n1 p2,.slice s1 n2 s2,.slice w1 n3 w2,.slice t1 n4 t2,.bool bg,.bool bk,.int .i64 nx,.int .i64 hb,.slice h1 n5 h2] 38)).heap[w.heap.size]?=some (.cells #[.int .i64 b,.slice p1 n1 p2,.slice s1 n2 s2,.slice w1 n3 w2,.slice t1 n4 t2,.bool bg,.bool bk,.int .i64 nx,.int .i64 hb,.slice h1 n5 h2] 38)):=⟨hr.nx (Zb _ _),hn,Zc _ _ rfl⟩;clear hr hn;go_enter Tryz.func65,Tryz.ntmps65
 go_wp2_with fail
 go_loopw [5] (fun i wr=>∃ k:Nat,k≤n2∧i=.int .i64 k∧Hid (∀ y∈ss.take k,(isCliV c) y=false)∧Below (w.alloc (.cells #[.int .i64 b,.slice p1 n1 p2,.slice s1 n2 s2,.slice w1 n3 w2,.slice t1 n4 t2,.bool bg,.bool bk,.int .i64 nx,.int .i64 hb,.slice h1 n5 h2] 38)).heap.size (w.alloc (.cells #[.int .i64 b,.slice p1 n1 p2,.slice s1 n2 s2,.slice w1 n3 w2,.slice t1 n4 t2,.bool bg,.bool bk,.int .i64 nx,.int .i64 hb,.slice h1 n5 h2] 38)) wr) (fun i _=>n2 - (intOf i).toNat)
 case atStart=>exact ⟨0,Nat.zero_le _,rfl,by intro y hy;simp at hy,Below.refl _ _⟩
 case round =>
  obtain ⟨k,hk,rfl,HT,hbel⟩:=hrel;have hbx:wr.heap[w.heap.size]?=some (.cells #[.int .i64 b,.slice p1 n1 p2,.slice s1 n2 s2,.slice w1 n3 w2,.slice t1 n4 t2,.bool bg,.bool bk,.int .i64 nx,.int .i64 hb,.slice h1 n5 h2] 38):=(hbel.block _ (by simp)).trans HR.out.2.2;have HB:Hid (Below w.heap.size w wr):=Za (Zb _ _) hbel;have hcell:wr.cell? ⟨w.heap.size,2,none⟩=some (.slice s1 n2 s2):=by simp [World.cell?,hbx]
  by_cases hlt:k<n2
  ·obtain ⟨⟨x0,x1,x2,x3⟩,hp⟩:∃ p,ss[k]?=some p:=⟨_,List.getElem?_eq_getElem (by rw [HR.out.2.1];exact hlt)⟩;obtain ⟨bl,off,hao,hbl,c0,c1,c2,c3⟩:=ZN (HR.out.1.nx hbel) hp;subst hao;simp only at c0 c1 c2 c3;have hlti:(k:Int)<(n2:Int):=by omega
   cases hq:(x3 == c) with
   | true =>
    have HH:Hid (ss.findIdx? (isCliV c)=some k):=Zaq HT.out hp (by show (x3 == c)=true;exact hq);clear hp hbx;go_wp2_with fail
    go_ret
    exact ⟨by rw [HH.out];rfl,HB.out⟩
   | false =>
    have HN:Hid (∀ y∈ss.take (k+1),(isCliV c) y=false):=ZK HT.out hp (by show (x3 == c)=false;exact hq);clear hp hbx;go_wp2_with fail
    go_roundw
    case rel=>exact ⟨k+1,by omega,by go_num,HN.out,hbel⟩
    case measure=>simp [intOf];omega
  ·have HM:Hid (ss.findIdx? (isCliV c)=none):=Zad (fun y hy=>HT.out y (by rw [List.take_of_length_le (by rw [HR.out.2.1];omega)];exact hy));clear hbx;go_wp2_with fail
   go_ret
   exact ⟨by rw [HM.out];rfl,HB.out⟩
theorem rWaits (b:Int) (p1:Option Addr) (n1 p2:Nat) (s1:Option Addr) (n2 s2:Nat) (w1:Option Addr) (n3 w2:Nat) (t1:Option Addr) (n4 t2:Nat) (bg bk:Bool) (nx hb:Int) (h1:Option Addr) (n5 h2:Nat) (c:Int) (ws:List Wtr) (w:World) (hr:RowAt w (.slice w1 n3 w2) n3 (flatW ws)) (hn:ws.length=n3) (hlen:n3≤maxLen) :
  Calls Tryz.prog 66 #[.agg #[.int .i64 b,.slice p1 n1 p2,.slice s1 n2 s2,.slice w1 n3 w2,.slice t1 n4 t2,.bool bg,.bool bk,.int .i64 nx,.int .i64 hb,.slice h1 n5 h2],.int .i64 c] w fun e w'=>e=.returned (.int .i64 (optI (ws.findIdx? (isCliW c))))∧Below w.heap.size w w':=by
 unfold maxLen at hlen;have HR:Hid (RowAt (w.alloc (.cells #[.int .i64 b,.slice p1 n1 p2,.slice s1 n2 s2,.slice w1 n3 w2,.slice t1 n4 t2,.bool bg,.bool bk,.int .i64 nx,.int .i64 hb,.slice h1 n5 h2] 38)) (.slice w1 n3 w2) n3 (flatW ws)∧ws.length=n3∧(w.alloc (.cells #[.int .i64 b,.slice p1 n1 p2,.slice s1 n2 s2,.slice w1 n3 w2,.slice t1 n4 t2,.bool bg,.bool bk,.int .i64 nx,.int .i64 hb,.slice h1 n5 h2] 38)).heap[w.heap.size]?=some (.cells #[.int .i64 b,.slice p1 n1 p2,.slice s1 n2 s2,.slice w1 n3 w2,.slice t1 n4 t2,.bool bg,.bool bk,.int .i64 nx,.int .i64 hb,.slice h1 n5 h2] 38)):=⟨hr.nx (Zb _ _),hn,Zc _ _ rfl⟩;clear hr hn;go_enter Tryz.func66,Tryz.ntmps66
 go_wp2_with fail
 go_loopw [5] (fun i wr=>∃ k:Nat,k≤n3∧i=.int .i64 k∧Hid (∀ y∈ws.take k,(isCliW c) y=false)∧Below (w.alloc (.cells #[.int .i64 b,.slice p1 n1 p2,.slice s1 n2 s2,.slice w1 n3 w2,.slice t1 n4 t2,.bool bg,.bool bk,.int .i64 nx,.int .i64 hb,.slice h1 n5 h2] 38)).heap.size (w.alloc (.cells #[.int .i64 b,.slice p1 n1 p2,.slice s1 n2 s2,.slice w1 n3 w2,.slice t1 n4 t2,.bool bg,.bool bk,.int .i64 nx,.int .i64 hb,.slice h1 n5 h2] 38)) wr) (fun i _=>n3 - (intOf i).toNat)
 case atStart=>exact ⟨0,Nat.zero_le _,rfl,by intro y hy;simp at hy,Below.refl _ _⟩
 case round =>
  obtain ⟨k,hk,rfl,HT,hbel⟩:=hrel;have hbx:wr.heap[w.heap.size]?=some (.cells #[.int .i64 b,.slice p1 n1 p2,.slice s1 n2 s2,.slice w1 n3 w2,.slice t1 n4 t2,.bool bg,.bool bk,.int .i64 nx,.int .i64 hb,.slice h1 n5 h2] 38):=(hbel.block _ (by simp)).trans HR.out.2.2;have HB:Hid (Below w.heap.size w wr):=Za (Zb _ _) hbel;have hcell:wr.cell? ⟨w.heap.size,3,none⟩=some (.slice w1 n3 w2):=by simp [World.cell?,hbx]
  by_cases hlt:k<n3
  ·obtain ⟨⟨x0,x1⟩,hp⟩:∃ p,ws[k]?=some p:=⟨_,List.getElem?_eq_getElem (by rw [HR.out.2.1];exact hlt)⟩;obtain ⟨bl,off,hao,hbl,c0,c1⟩:=Zaj (HR.out.1.nx hbel) hp;subst hao;simp only at c0 c1;have hlti:(k:Int)<(n3:Int):=by omega
   cases hq:(x0 == c) with
   | true =>
    have HH:Hid (ws.findIdx? (isCliW c)=some k):=Zaq HT.out hp (by show (x0 == c)=true;exact hq);clear hp hbx;go_wp2_with fail
    go_ret
    exact ⟨by rw [HH.out];rfl,HB.out⟩
   | false =>
    have HN:Hid (∀ y∈ws.take (k+1),(isCliW c) y=false):=ZK HT.out hp (by show (x0 == c)=false;exact hq);clear hp hbx;go_wp2_with fail
    go_roundw
    case rel=>exact ⟨k+1,by omega,by go_num,HN.out,hbel⟩
    case measure=>simp [intOf];omega
  ·have HM:Hid (ws.findIdx? (isCliW c)=none):=Zad (fun y hy=>HT.out y (by rw [List.take_of_length_le (by rw [HR.out.2.1];omega)];exact hy));clear hbx;go_wp2_with fail
   go_ret
   exact ⟨by rw [HM.out];rfl,HB.out⟩
theorem rAt (b:Int) (p1:Option Addr) (n1 p2:Nat) (name:ByteArray) (ps:List Pl) (w:World) (hr:RowAt w (.slice p1 n1 p2) n1 (flatP ps)) (hn:ps.length=n1) (hlen:n1≤maxLen) :
  Calls Tryz.prog 67 #[.agg #[.int .i64 b,.slice p1 n1 p2],.string name] w fun e w'=>e=.returned (.int .i64 (optI (ps.findIdx? (isNameP name))))∧Below w.heap.size w w':=by
 unfold maxLen at hlen;have HR:Hid (RowAt (w.alloc (bTab b (.slice p1 n1 p2))) (.slice p1 n1 p2) n1 (flatP ps)∧ps.length=n1∧(w.alloc (bTab b (.slice p1 n1 p2))).heap[w.heap.size]?=some (bTab b (.slice p1 n1 p2))):=⟨hr.nx (Zb _ _),hn,Zc _ _ rfl⟩;clear hr hn;go_enter Tryz.func67,Tryz.ntmps67
 go_wp2_with fail
 go_loopw [5] (fun i wr=>∃ k:Nat,k≤n1∧i=.int .i64 k∧Hid (∀ y∈ps.take k,(isNameP name) y=false)∧Below (w.alloc (bTab b (.slice p1 n1 p2))).heap.size (w.alloc (bTab b (.slice p1 n1 p2))) wr) (fun i _=>n1 - (intOf i).toNat)
 case atStart=>exact ⟨0,Nat.zero_le _,rfl,by intro y hy;simp at hy,Below.refl _ _⟩
 case round =>
  obtain ⟨k,hk,rfl,HT,hbel⟩:=hrel;have hbx:wr.heap[w.heap.size]?=some (bTab b (.slice p1 n1 p2)):=(hbel.block _ (by simp)).trans HR.out.2.2;have HB:Hid (Below w.heap.size w wr):=Za (Zb _ _) hbel;have hcell:wr.cell? ⟨w.heap.size,1,none⟩=some (.slice p1 n1 p2):=by simp [World.cell?,hbx]
  by_cases hlt:k<n1
  ·obtain ⟨⟨x0,x1,x2,x3⟩,hp⟩:∃ p,ps[k]?=some p:=⟨_,List.getElem?_eq_getElem (by rw [HR.out.2.1];exact hlt)⟩;obtain ⟨bl,off,hao,hbl,c0,c1,c2,c3⟩:=Zn (HR.out.1.nx hbel) hp;subst hao;simp only at c0 c1 c2 c3;have hlti:(k:Int)<(n1:Int):=by omega
   cases hq:(x0.toList == name.toList) with
   | true =>
    have HH:Hid (ps.findIdx? (isNameP name)=some k):=Zaq HT.out hp (by show (x0.toList == name.toList)=true;exact hq);clear hp hbx;go_wp2_with fail
    go_ret
    exact ⟨by rw [HH.out];rfl,HB.out⟩
   | false =>
    have HN:Hid (∀ y∈ps.take (k+1),(isNameP name) y=false):=ZK HT.out hp (by show (x0.toList == name.toList)=false;exact hq);clear hp hbx;go_wp2_with fail
    go_roundw
    case rel=>exact ⟨k+1,by omega,by go_num,HN.out,hbel⟩
    case measure=>simp [intOf];omega
  ·have HM:Hid (ps.findIdx? (isNameP name)=none):=Zad (fun y hy=>HT.out y (by rw [List.take_of_length_le (by rw [HR.out.2.1];omega)];exact hy));clear hbx;go_wp2_with fail
   go_ret
   exact ⟨by rw [HM.out];rfl,HB.out⟩
theorem rCount (b:Int) (p1:Option Addr) (n1 p2:Nat) (s1:Option Addr) (n2 s2:Nat) (w1:Option Addr) (n3 w2:Nat) (t1:Option Addr) (n4 t2:Nat) (bg bk:Bool) (nx hb:Int) (h1:Option Addr) (n5 h2:Nat) (pool:ByteArray) (ss:List Srv) (w:World) (hr:RowAt w (.slice s1 n2 s2) n2 (flatV ss)) (hn:ss.length=n2) (hlen:n2≤maxLen) :
  Calls Tryz.prog 86 #[.agg #[.int .i64 b,.slice p1 n1 p2,.slice s1 n2 s2,.slice w1 n3 w2,.slice t1 n4 t2,.bool bg,.bool bk,.int .i64 nx,.int .i64 hb,.slice h1 n5 h2],.string pool] w fun e w'=>e=.returned (.int .i64 (cntG (isPoolV pool) ss:Int))∧Below w.heap.size w w':=by
 unfold maxLen at hlen;have HR:Hid (RowAt (w.alloc (.cells #[.int .i64 b,.slice p1 n1 p2,.slice s1 n2 s2,.slice w1 n3 w2,.slice t1 n4 t2,.bool bg,.bool bk,.int .i64 nx,.int .i64 hb,.slice h1 n5 h2] 38)) (.slice s1 n2 s2) n2 (flatV ss)∧ss.length=n2∧(w.alloc (.cells #[.int .i64 b,.slice p1 n1 p2,.slice s1 n2 s2,.slice w1 n3 w2,.slice t1 n4 t2,.bool bg,.bool bk,.int .i64 nx,.int .i64 hb,.slice h1 n5 h2] 38)).heap[w.heap.size]?=some (.cells #[.int .i64 b,.slice p1 n1 p2,.slice s1 n2 s2,.slice w1 n3 w2,.slice t1 n4 t2,.bool bg,.bool bk,.int .i64 nx,.int .i64 hb,.slice h1 n5 h2] 38)):=⟨hr.nx (Zb _ _),hn,Zc _ _ rfl⟩;clear hr hn;go_enter Tryz.func86,Tryz.ntmps86
 go_wp2_with fail
 go_loopw [5,6] (fun q i wr=>∃ k m:Nat,k≤n2∧m≤k∧i=.int .i64 k∧q=.int .i64 m∧Hid (cntG (isPoolV pool) (ss.take k)=m)∧Below (w.alloc (.cells #[.int .i64 b,.slice p1 n1 p2,.slice s1 n2 s2,.slice w1 n3 w2,.slice t1 n4 t2,.bool bg,.bool bk,.int .i64 nx,.int .i64 hb,.slice h1 n5 h2] 38)).heap.size (w.alloc (.cells #[.int .i64 b,.slice p1 n1 p2,.slice s1 n2 s2,.slice w1 n3 w2,.slice t1 n4 t2,.bool bg,.bool bk,.int .i64 nx,.int .i64 hb,.slice h1 n5 h2] 38)) wr) (fun _ i _=>n2 - (intOf i).toNat)
 case atStart=>exact ⟨0,0,Nat.zero_le _,Nat.le_refl _,rfl,rfl,by show cntG _ _=0;simp [cntG],Below.refl _ _⟩
 case round =>
  obtain ⟨k,m,hk,hm,rfl,rfl,HT,hbel⟩:=hrel;have hbx:wr.heap[w.heap.size]?=some (.cells #[.int .i64 b,.slice p1 n1 p2,.slice s1 n2 s2,.slice w1 n3 w2,.slice t1 n4 t2,.bool bg,.bool bk,.int .i64 nx,.int .i64 hb,.slice h1 n5 h2] 38):=(hbel.block _ (by simp)).trans HR.out.2.2;have HB:Hid (Below w.heap.size w wr):=Za (Zb _ _) hbel;have hcell:wr.cell? ⟨w.heap.size,2,none⟩=some (.slice s1 n2 s2):=by simp [World.cell?,hbx]
  by_cases hlt:k<n2
  ·obtain ⟨⟨x0,x1,x2,x3⟩,hp⟩:∃ p,ss[k]?=some p:=⟨_,List.getElem?_eq_getElem (by rw [HR.out.2.1];exact hlt)⟩;obtain ⟨bl,off,hao,hbl,c0,c1,c2,c3⟩:=ZN (HR.out.1.nx hbel) hp;subst hao;simp only at c0 c1 c2 c3;have hlti:(k:Int)<(n2:Int):=by omega
   have hnx:=Zch (p:=isPoolV pool) hp;rw [HT.out] at hnx;cases hq:(x1.toList == pool.toList) with
   | true =>
    have HN:Hid (cntG (isPoolV pool) (ss.take (k+1))=m+1):=by
     have hq':(isPoolV pool) ⟨x0,x1,x2,x3⟩=true:=hq;show _=_;rw [hnx,if_pos hq']
    clear hp hbx hnx;go_wp2_with fail
    go_roundw
    case rel=>exact ⟨k+1,m+1,by omega,by omega,by go_num,by go_num,HN.out,hbel⟩
    case measure=>simp [intOf];omega
   | false =>
    have HN:Hid (cntG (isPoolV pool) (ss.take (k+1))=m):=by
     show _=_;rw [hnx,if_neg (fun h=>by rw [show (isPoolV pool) _=(x1.toList == pool.toList) from rfl,hq] at h;simp at h)];rfl
    clear hp hbx hnx;go_wp2_with fail
    go_roundw
    case rel=>exact ⟨k+1,m,by omega,by omega,by go_num,rfl,HN.out,hbel⟩
    case measure=>simp [intOf];omega
  ·have HM:Hid (cntG (isPoolV pool) ss=m):=by
    show _=_;rw [←HT.out,List.take_of_length_le (by rw [HR.out.2.1];omega)]
   clear hbx;go_wp2_with fail
   go_ret
   exact ⟨by rw [HM.out];rfl,HB.out⟩
theorem rWaiting (b:Int) (p1:Option Addr) (n1 p2:Nat) (s1:Option Addr) (n2 s2:Nat) (w1:Option Addr) (n3 w2:Nat) (t1:Option Addr) (n4 t2:Nat) (bg bk:Bool) (nx hb:Int) (h1:Option Addr) (n5 h2:Nat) (pool:ByteArray) (ws:List Wtr) (w:World) (hr:RowAt w (.slice w1 n3 w2) n3 (flatW ws)) (hn:ws.length=n3) (hlen:n3≤maxLen) :
  Calls Tryz.prog 68 #[.agg #[.int .i64 b,.slice p1 n1 p2,.slice s1 n2 s2,.slice w1 n3 w2,.slice t1 n4 t2,.bool bg,.bool bk,.int .i64 nx,.int .i64 hb,.slice h1 n5 h2],.string pool] w fun e w'=>e=.returned (.int .i64 (cntG (isPoolW pool) ws:Int))∧Below w.heap.size w w':=by
 unfold maxLen at hlen;have HR:Hid (RowAt (w.alloc (.cells #[.int .i64 b,.slice p1 n1 p2,.slice s1 n2 s2,.slice w1 n3 w2,.slice t1 n4 t2,.bool bg,.bool bk,.int .i64 nx,.int .i64 hb,.slice h1 n5 h2] 38)) (.slice w1 n3 w2) n3 (flatW ws)∧ws.length=n3∧(w.alloc (.cells #[.int .i64 b,.slice p1 n1 p2,.slice s1 n2 s2,.slice w1 n3 w2,.slice t1 n4 t2,.bool bg,.bool bk,.int .i64 nx,.int .i64 hb,.slice h1 n5 h2] 38)).heap[w.heap.size]?=some (.cells #[.int .i64 b,.slice p1 n1 p2,.slice s1 n2 s2,.slice w1 n3 w2,.slice t1 n4 t2,.bool bg,.bool bk,.int .i64 nx,.int .i64 hb,.slice h1 n5 h2] 38)):=⟨hr.nx (Zb _ _),hn,Zc _ _ rfl⟩;clear hr hn;go_enter Tryz.func68,Tryz.ntmps68
 go_wp2_with fail
 go_loopw [5,6] (fun q i wr=>∃ k m:Nat,k≤n3∧m≤k∧i=.int .i64 k∧q=.int .i64 m∧Hid (cntG (isPoolW pool) (ws.take k)=m)∧Below (w.alloc (.cells #[.int .i64 b,.slice p1 n1 p2,.slice s1 n2 s2,.slice w1 n3 w2,.slice t1 n4 t2,.bool bg,.bool bk,.int .i64 nx,.int .i64 hb,.slice h1 n5 h2] 38)).heap.size (w.alloc (.cells #[.int .i64 b,.slice p1 n1 p2,.slice s1 n2 s2,.slice w1 n3 w2,.slice t1 n4 t2,.bool bg,.bool bk,.int .i64 nx,.int .i64 hb,.slice h1 n5 h2] 38)) wr) (fun _ i _=>n3 - (intOf i).toNat)
 case atStart=>exact ⟨0,0,Nat.zero_le _,Nat.le_refl _,rfl,rfl,by show cntG _ _=0;simp [cntG],Below.refl _ _⟩
 case round =>
  obtain ⟨k,m,hk,hm,rfl,rfl,HT,hbel⟩:=hrel;have hbx:wr.heap[w.heap.size]?=some (.cells #[.int .i64 b,.slice p1 n1 p2,.slice s1 n2 s2,.slice w1 n3 w2,.slice t1 n4 t2,.bool bg,.bool bk,.int .i64 nx,.int .i64 hb,.slice h1 n5 h2] 38):=(hbel.block _ (by simp)).trans HR.out.2.2;have HB:Hid (Below w.heap.size w wr):=Za (Zb _ _) hbel;have hcell:wr.cell? ⟨w.heap.size,3,none⟩=some (.slice w1 n3 w2):=by simp [World.cell?,hbx]
  by_cases hlt:k<n3
  ·obtain ⟨⟨x0,x1⟩,hp⟩:∃ p,ws[k]?=some p:=⟨_,List.getElem?_eq_getElem (by rw [HR.out.2.1];exact hlt)⟩;obtain ⟨bl,off,hao,hbl,c0,c1⟩:=Zaj (HR.out.1.nx hbel) hp;subst hao;simp only at c0 c1;have hlti:(k:Int)<(n3:Int):=by omega
   have hnx:=Zch (p:=isPoolW pool) hp;rw [HT.out] at hnx;cases hq:(x1.toList == pool.toList) with
   | true =>
    have HN:Hid (cntG (isPoolW pool) (ws.take (k+1))=m+1):=by
     have hq':(isPoolW pool) ⟨x0,x1⟩=true:=hq;show _=_;rw [hnx,if_pos hq']
    clear hp hbx hnx;go_wp2_with fail
    go_roundw
    case rel=>exact ⟨k+1,m+1,by omega,by omega,by go_num,by go_num,HN.out,hbel⟩
    case measure=>simp [intOf];omega
   | false =>
    have HN:Hid (cntG (isPoolW pool) (ws.take (k+1))=m):=by
     show _=_;rw [hnx,if_neg (fun h=>by rw [show (isPoolW pool) _=(x1.toList == pool.toList) from rfl,hq] at h;simp at h)];rfl
    clear hp hbx hnx;go_wp2_with fail
    go_roundw
    case rel=>exact ⟨k+1,m,by omega,by omega,by go_num,rfl,HN.out,hbel⟩
    case measure=>simp [intOf];omega
  ·have HM:Hid (cntG (isPoolW pool) ws=m):=by
    show _=_;rw [←HT.out,List.take_of_length_le (by rw [HR.out.2.1];omega)]
   clear hbx;go_wp2_with fail
   go_ret
   exact ⟨by rw [HM.out];rfl,HB.out⟩
theorem rIdle (b:Int) (p1:Option Addr) (n1 p2:Nat) (s1:Option Addr) (n2 s2:Nat) (w1:Option Addr) (n3 w2:Nat) (t1:Option Addr) (n4 t2:Nat) (bg bk:Bool) (nx hb:Int) (h1:Option Addr) (n5 h2:Nat) (pool:ByteArray) (all:Bool) (ss:List Srv) (w:World) (hr:RowAt w (.slice s1 n2 s2) n2 (flatV ss)) (hn:ss.length=n2) (hlen:n2≤maxLen) :
  Calls Tryz.prog 126 #[.agg #[.int .i64 b,.slice p1 n1 p2,.slice s1 n2 s2,.slice w1 n3 w2,.slice t1 n4 t2,.bool bg,.bool bk,.int .i64 nx,.int .i64 hb,.slice h1 n5 h2],.string pool,.bool all] w fun e w'=>e=.returned (.int .i64 (optI (ss.findIdx? (isIdle pool all))))∧Below w.heap.size w w':=by
 unfold maxLen at hlen;have HR:Hid (RowAt (w.alloc (.cells #[.int .i64 b,.slice p1 n1 p2,.slice s1 n2 s2,.slice w1 n3 w2,.slice t1 n4 t2,.bool bg,.bool bk,.int .i64 nx,.int .i64 hb,.slice h1 n5 h2] 38)) (.slice s1 n2 s2) n2 (flatV ss)∧ss.length=n2∧(w.alloc (.cells #[.int .i64 b,.slice p1 n1 p2,.slice s1 n2 s2,.slice w1 n3 w2,.slice t1 n4 t2,.bool bg,.bool bk,.int .i64 nx,.int .i64 hb,.slice h1 n5 h2] 38)).heap[w.heap.size]?=some (.cells #[.int .i64 b,.slice p1 n1 p2,.slice s1 n2 s2,.slice w1 n3 w2,.slice t1 n4 t2,.bool bg,.bool bk,.int .i64 nx,.int .i64 hb,.slice h1 n5 h2] 38)):=⟨hr.nx (Zb _ _),hn,Zc _ _ rfl⟩;clear hr hn;go_enter Tryz.func126,Tryz.ntmps126
 go_wp2_with fail
 go_loopw [7] (fun i wr=>∃ k:Nat,k≤n2∧i=.int .i64 k∧Hid (∀ y∈ss.take k,(isIdle pool all) y=false)∧Below (w.alloc (.cells #[.int .i64 b,.slice p1 n1 p2,.slice s1 n2 s2,.slice w1 n3 w2,.slice t1 n4 t2,.bool bg,.bool bk,.int .i64 nx,.int .i64 hb,.slice h1 n5 h2] 38)).heap.size (w.alloc (.cells #[.int .i64 b,.slice p1 n1 p2,.slice s1 n2 s2,.slice w1 n3 w2,.slice t1 n4 t2,.bool bg,.bool bk,.int .i64 nx,.int .i64 hb,.slice h1 n5 h2] 38)) wr) (fun i _=>n2 - (intOf i).toNat)
 case atStart=>exact ⟨0,Nat.zero_le _,rfl,by intro y hy;simp at hy,Below.refl _ _⟩
 case round =>
  obtain ⟨k,hk,rfl,HT,hbel⟩:=hrel;have hbx:wr.heap[w.heap.size]?=some (.cells #[.int .i64 b,.slice p1 n1 p2,.slice s1 n2 s2,.slice w1 n3 w2,.slice t1 n4 t2,.bool bg,.bool bk,.int .i64 nx,.int .i64 hb,.slice h1 n5 h2] 38):=(hbel.block _ (by simp)).trans HR.out.2.2;have HB:Hid (Below w.heap.size w wr):=Za (Zb _ _) hbel;have hcell:wr.cell? ⟨w.heap.size,2,none⟩=some (.slice s1 n2 s2):=by simp [World.cell?,hbx]
  by_cases hlt:k<n2
  ·obtain ⟨⟨x0,x1,x2,x3⟩,hp⟩:∃ p,ss[k]?=some p:=⟨_,List.getElem?_eq_getElem (by rw [HR.out.2.1];exact hlt)⟩;obtain ⟨bl,off,hao,hbl,c0,c1,c2,c3⟩:=ZN (HR.out.1.nx hbel) hp;subst hao;simp only at c0 c1 c2 c3;have hlti:(k:Int)<(n2:Int):=by omega
   have hbA:=hbel.alloc hbel.size (.cells #[.int .i64 x0,.string x1,.int .i64 x2,.int .i64 x3] 74);have HBA:=hideIt (Za (Zb _ _) hbA);cases hq:isIdle pool all ⟨x0,x1,x2,x3⟩ with
   | true =>
    have HH:Hid (ss.findIdx? (isIdle pool all)=some k):=Zaq HT.out hp hq;simp only [isIdle,Bool.and_eq_true,Bool.or_eq_true] at hq;obtain ⟨hq1,hq2⟩:=hq;clear hp hbx;cases all with
    | true =>
     go_wp2_with fail
     go_ret
     exact ⟨by rw [HH.out];rfl,HBA.out⟩
    | false =>
     have hq3:(x1.toList == pool.toList)=true:=by simpa using hq2
     go_wp2_with fail
     go_ret
     exact ⟨by rw [HH.out];rfl,HBA.out⟩
   | false =>
    have HN:Hid (∀ y∈ss.take (k+1),(isIdle pool all) y=false):=ZK HT.out hp hq;clear hp hbx;cases h3:(x3 == 0) with
    | false =>
     clear hq;go_wp2_with fail
     go_roundw
     case rel=>exact ⟨k+1,by omega,by go_num,HN.out,hbA⟩
     case measure=>simp [intOf];omega
    | true =>
     have hall:all=false:=by cases all <;> simp [isIdle,h3] at hq ⊢
     have hq3:(x1.toList == pool.toList)=false:=by simpa [isIdle,h3,hall] using hq
     subst hall;clear hq;go_wp2_with fail
     go_roundw
     case rel=>exact ⟨k+1,by omega,by go_num,HN.out,hbA⟩
     case measure=>simp [intOf];omega
  ·have HM:Hid (ss.findIdx? (isIdle pool all)=none):=Zad (fun y hy=>HT.out y (by rw [List.take_of_length_le (by rw [HR.out.2.1];omega)];exact hy));clear hbx;go_wp2_with fail
   go_ret
   exact ⟨by rw [HM.out];rfl,HB.out⟩
structure TS (w:World) (b:Int) (sv:Value) (v:Value) (q:Nat) (acc:List Pl) (wr:World):Prop where
 h0:wr.heap[w.heap.size]?=some (bTab b sv)
 h1:wr.heap[w.heap.size+1]?=some (bTab 0 (.slice none 0 0))
 h2:wr.heap[w.heap.size+2]?=some (bTab b v)
 own:wr.ownsRow (w.heap.size+3) 70 4 v q (flatP acc)
 bel:Below w.heap.size w wr
 sz:w.heap.size+3≤wr.heap.size
theorem TS.drew {w:World} {b:Int} {sv v:Value} {q:Nat} {acc:List Pl} {wr:World} (h:TS w b sv v q acc wr):TS w b sv v q acc wr.drew:=⟨h.h0,h.h1,h.h2,h.own,h.bel.drew,h.sz⟩
theorem TS.app {w wr w6:World} {b:Int} {sv v v':Value} {q:Nat} {acc:List Pl} {x:Pl} {o:Obj} (h:TS w b sv v q acc wr)
  (hg:(wr.alloc o).grownBy w6 v.ownBlock) (hown:w6.ownsRow (w.heap.size+3) 70 4 v' (q+1) (flatP acc++[.string x.nm,.int .i64 x.sz,.int .i64 x.wt,.int .i64 x.fr])) :
  TS w b sv v' (q+1) (acc++[x]) (w6.setCell ⟨w.heap.size+2,1,none⟩ v'):=by
 have hz:=h.sz;have hlow:∀ k,k<w.heap.size+3→w6.heap[k]?=wr.heap[k]?:=by
  intro k hk';refine (hg.block k (by simp;omega) ?_).trans (Zh _ _ (by omega));intro e;have:=(h.own.lt k e.symm).1;omega
 have g2:w6.heap[w.heap.size+2]?=some (bTab b v):=(hlow _ (by omega)).trans h.h2;refine ⟨?_,?_,Zg _ _ _ _ _ _ g2,?_,?_,?_⟩
 ·exact (Below.heap_setCell _ _ _ _ (by show w.heap.size≠w.heap.size+2;omega)).trans ((hlow _ (by omega)).trans h.h0)
 ·exact (Below.heap_setCell _ _ _ _ (by show w.heap.size+1≠w.heap.size+2;omega)).trans ((hlow _ (by omega)).trans h.h1)
 ·refine ownsRow_setCell_below (by rw [ZI];exact hown) (by show w.heap.size+2<_;omega) _
 ·refine Below.setCell ?_ (by show w.heap.size≤w.heap.size+2;omega) _;exact (h.bel.alloc h.bel.size _).grown hg (by simp;omega) (fun g hg'=>by have:=(h.own.lt g hg').1;omega)
 ·have:=hg.size;simp at this ⊢;omega
theorem TS.cells {w wd:World} {b:Int} {n pc q k bl off:Nat} {v:Value} {acc:List Pl} {x:Pl} (h:TS w b (.slice (some ⟨bl,off,none⟩) n pc) v q acc wd) (hbl:bl<w.heap.size)
  (hc:w.cell? ⟨bl,off+k*4,none⟩=some (.string x.nm)∧w.cell? ⟨bl,off+k*4+1,none⟩=some (.int .i64 x.sz)∧w.cell? ⟨bl,off+k*4+2,none⟩=some (.int .i64 x.wt)∧w.cell? ⟨bl,off+k*4+3,none⟩=some (.int .i64 x.fr)) :
  ∀ w1:World,(∀ k,k<wd.heap.size→some k≠v.ownBlock→w1.heap[k]?=wd.heap[k]?) →
   w1.cell? ⟨w.heap.size+2,1,none⟩=some v∧w1.frozen? ⟨w.heap.size+2,1,none⟩=false∧w1.cell? ⟨w.heap.size,1,none⟩=some (.slice (some ⟨bl,off,none⟩) n pc) ∧
   w1.cell? ⟨bl,off+k*4,none⟩=some (.string x.nm)∧w1.cell? ⟨bl,off+k*4+1,none⟩=some (.int .i64 x.sz)∧w1.cell? ⟨bl,off+k*4+2,none⟩=some (.int .i64 x.wt)∧w1.cell? ⟨bl,off+k*4+3,none⟩=some (.int .i64 x.fr):=by
 intro w1 hw;have hz:=h.sz;have hlow:∀ j,j<w.heap.size+3→w1.heap[j]?=wd.heap[j]?:=by
  intro j hj;refine hw j (by omega) (fun e=>?_);have:=(h.own.lt j e.symm).1;omega
 have g2:w1.heap[w.heap.size+2]?=some (bTab b v):=(hlow _ (by omega)).trans h.h2;have g0:w1.heap[w.heap.size]?=some (bTab b (.slice (some ⟨bl,off,none⟩) n pc)):=(hlow _ (by omega)).trans h.h0;have gb:w1.heap[bl]?=w.heap[bl]?:=(hlow _ (by omega)).trans (h.bel.block _ hbl);exact ⟨(blk2 g2).2.1,(blk2 g2).2.2 1,(blk2 g0).2.1,(World.cell?_of_block gb).trans hc.1,(World.cell?_of_block gb).trans hc.2.1,(World.cell?_of_block gb).trans hc.2.2.1,(World.cell?_of_block gb).trans hc.2.2.2⟩
theorem ZbR (b:Int) (ps:List Pl) (vo:Option Addr) (n vc:Nat) (w:World) (hr:RowAt w (.slice vo n vc) n (flatP ps)) (hn:ps.length=n) (hq:n≤1099511627776) :
  Calls Tryz.prog 47 #[.agg #[.int .i64 b,.slice vo n vc]] w fun e w'=>∃ po pc,e=.returned (.agg #[.int .i64 b,.slice po n pc])∧w'.ownsRow w.heap.size 70 4 (.slice po n pc) n (flatP ps)∧Below w.heap.size w w':=by
 obtain ⟨t0,hi,hz0,hz1,hz2⟩:=info_parts ZcK;have HR:Hid (RowAt w (.slice vo n vc) n (flatP ps)∧ps.length=n):=⟨hr,hn⟩;clear hr hn;go_enter Tryz.func47,Tryz.ntmps47
 go_wp2_with fail
 go_loopw [4] (fun i wr=>∃ (k:Nat) (po:Option Addr) (pc:Nat),k≤n∧i=.int .i64 k∧Hid (TS w b (.slice vo n vc) (.slice po k pc) k (ps.take k) wr)) (fun i _=>n - (intOf i).toNat)
 case atStart =>
  refine ⟨0,none,0,Nat.zero_le _,rfl,?_,?_,?_,World.ownsRow_nil _ _ _ _,Za (Za (Zb _ _) (Zb _ _)) (Zb _ _),by simp⟩
  ·exact (Zf _ _ (by simp;omega)).trans ((Zf _ _ (by simp)).trans (Zc _ _ rfl))
  ·exact (Zf _ _ (by simp)).trans (Zc _ _ (by simp))
  ·exact Zc _ _ (by simp)
 case round =>
  obtain ⟨k,po,pc,hk,rfl,HS⟩:=hrel;have hsz:w.heap.size+3≤wr.heap.size:=HS.out.sz;by_cases hlt:k<n
  ·obtain ⟨x,hx⟩:∃ x,ps[k]?=some x:=⟨_,List.getElem?_eq_getElem (by rw [HR.out.2];exact hlt)⟩;obtain ⟨bl,off,rfl,hbl,d0,d1,d2,d3⟩:=Zn HR.out.1 hx;have HX:Hid (ps.take (k+1)=ps.take k++[x]):=by
    obtain ⟨hk',e⟩:=List.getElem?_eq_some_iff.1 hx;show _=_;rw [List.take_succ_eq_append_getElem hk',e]
   obtain ⟨nm',sz',wt',fr'⟩:=x;have HK:=hideIt (HS.out.cells (x:=⟨nm',sz',wt',fr'⟩) hbl ⟨d0,d1,d2,d3⟩);simp only at HK;clear d0 d1 d2 d3 hx;have hlti:(k:Int)<(n:Int):=by omega
   have h0i:(0:Int)≤(k:Int):=by omega
   obtain ⟨s0,s1,s2,s3,s4,s5,s6⟩:=HK.out wr (fun _ _ _=>rfl);have hownd:=HS.out.own;have sA:∀ o,(wr.alloc o).cell? ⟨w.heap.size+2,1,none⟩=some (.slice po k pc):=fun o=>(HK.out (wr.alloc o) (fun j hj _=>Zh _ _ hj)).1
   go_upto_region 5 with fail
   go_region_law
    ((refine step_append_lies _ (by rfl) (.tmp 16) (.tmp 22) 29 (by rfl) (w.heap.size+3) 70 t0 _ 4 40 Tryz.underlying29 hi hz0 hz1 hz2 (by rfl) (by decide) _ k (flatP (ps.take k)) (by rfl) (hownd.alloc _) ⟨wr.heap.size,0,none⟩ 1 1 [.string nm',.int .i64 sz',.int .i64 wt',.int .i64 fr'] (by rfl) (by rfl) (Zw _ [.string nm',.int .i64 sz',.int .i64 wt',.int .i64 fr'] _) (by intro u hu;simp at hu;rcases hu with rfl | rfl | rfl | rfl <;> rfl) (by omega) (by unfold maxLen;omega) (by omega) (by simp;omega) (wr.heap.size+1) (by simp) ?_;intro g6 cap6 w6 hown6 hgrow6 hat6 hlt6;obtain ⟨q0,q1,_⟩:=HK.out w6 (fun j hj hne=>(hgrow6.block j (by simp;omega) hne).trans (Zh _ _ hj))))
   all_goals
    have HJ6:=hideIt (TS.app (x:=Pl.mk nm' sz' wt' fr') HS.out.drew hgrow6 hown6);rw [←HX.out] at HJ6;clear hown6 hgrow6 hat6 q0 q1 s0 s1 s2 s3 s4 s5 s6 sA hownd;go_wp2_with fail
    go_roundw
    case rel=>exact ⟨k+1,some ⟨g6,0,none⟩,cap6,by omega,by go_num,HJ6.out⟩
    case measure=>simp [intOf];omega
  ·obtain rfl:k=n:=by omega
   obtain ⟨a0,a1,az⟩:=blk2 HS.out.h0;obtain ⟨b0,b1,bz⟩:=blk2 HS.out.h1;obtain ⟨c0,c1,cz⟩:=blk2 HS.out.h2;have HO:Hid (wr.ownsRow (w.heap.size+3) 70 4 (.slice po k pc) k (flatP ps)∧Below w.heap.size w wr):=by
    refine ⟨?_,HS.out.bel⟩;have:=HS.out.own
    rwa [List.take_of_length_le (by rw [HR.out.2];exact Nat.le_refl _)] at this
   go_wp2_with fail
   refine bodyPost_ret (v:=.agg #[.int .i64 b,.slice po k pc]) (by simp [results,Tryz.results47,go_sem,b0,b1]) rfl ⟨po,pc,rfl,?_,?_⟩
   ·exact Zi (ownsRow_setCell_below (ownsRow_setCell_below HO.out.1 (by show w.heap.size+1<_;omega) _) (by show w.heap.size+1<_;omega) _) (by omega)
   ·exact (HO.out.2.setCell (by show w.heap.size≤w.heap.size+1;omega) _).setCell (by show w.heap.size≤w.heap.size+1;omega) _
abbrev bWd (c0 c1 c2 c3 c4 c5 c6 c7 c8 c9:Value):Obj:=.cells #[c0,c1,c2,c3,c4,c5,c6,c7,c8,c9] 38
abbrev zW:Obj:=bWd (.int .i64 0) (.slice none 0 0) (.slice none 0 0) (.slice none 0 0) (.slice none 0 0) (.bool false) (.bool false) (.int .i64 0) (.int .i64 0) (.slice none 0 0)
theorem blk10 {w:World} {g:Nat} {c0 c1 c2 c3 c4 c5 c6 c7 c8 c9:Value} {t:TypeId} (h:w.heap[g]?=some (.cells #[c0,c1,c2,c3,c4,c5,c6,c7,c8,c9] t (0,0))) :
  w.cell? ⟨g,0,none⟩=some c0∧w.cell? ⟨g,1,none⟩=some c1∧w.cell? ⟨g,2,none⟩=some c2∧w.cell? ⟨g,3,none⟩=some c3∧w.cell? ⟨g,4,none⟩=some c4∧w.cell? ⟨g,5,none⟩=some c5∧w.cell? ⟨g,6,none⟩=some c6∧w.cell? ⟨g,7,none⟩=some c7∧w.cell? ⟨g,8,none⟩=some c8∧w.cell? ⟨g,9,none⟩=some c9∧∀ a,w.frozen? ⟨g,a,none⟩=false:=by
 refine ⟨?_,?_,?_,?_,?_,?_,?_,?_,?_,?_,fun a=>?_⟩ <;> simp [World.cell?,World.frozen?,h]
theorem Ze {u v:World} {g:Nat} {o:Obj} (h:u.heap[g]?=some o) (hb:Below u.heap.size u v):v.heap[g]?=some o:=(hb.block g (Array.getElem?_eq_some_iff.1 h).1).trans h
theorem ZgQ {F:Nat→Prop} {u v:World} {g:Nat} {o:Obj} (h:u.heap[g]?=some o) (hc:Chg F u v) (hF:¬F g):v.heap[g]?=some o:=(hc.block g (Array.getElem?_eq_some_iff.1 h).1 hF).trans h
theorem ZaF {u wr w6:World} {g3:Nat} {o:Obj} {v:Value} {e:TypeId} {sz n:Nat} {xs:List Value} (hc:Chg (fun y=>y=g3) u wr) (hown:wr.ownsRow u.heap.size e sz v n xs) (hg:(wr.alloc o).grownBy w6 v.ownBlock) :
  ∀ b,b<u.heap.size→w6.heap[b]?=wr.heap[b]?:=by
 intro b hb;have:=hc.size;refine (hg.block b (by simp;omega) ?_).trans (Zh _ _ (by omega));intro e;have:=(hown.lt b e.symm).1;omega
theorem Za6 {u wr w6:World} {g3 j:Nat} {o:Obj} {v v':Value} {e:TypeId} {sz n:Nat} {xs:List Value} (hc:Chg (fun y=>y=g3) u wr) (hown:wr.ownsRow u.heap.size e sz v n xs) (hg:(wr.alloc o).grownBy w6 v.ownBlock) :
  Chg (fun y=>y=g3) u (w6.setCell ⟨g3,j,none⟩ v'):=by
 have hl:=ZaF hc hown hg;have hz:=hg.size;have hs:=hc.size;have hB:Below 0 wr w6:=((Below.refl 0 wr).alloc (Nat.zero_le _) o).grown hg (Nat.zero_le _) (fun _ _=>Nat.zero_le _);refine ⟨?_,?_,?_,?_,fun b hb hne=>?_⟩
 ·exact ((hB.setCell (Nat.zero_le (⟨g3,j,none⟩:Addr).block) v').os).trans hc.os
 ·exact ((hB.setCell (Nat.zero_le (⟨g3,j,none⟩:Addr).block) v').tape).trans hc.tape
 ·exact ((hB.setCell (Nat.zero_le (⟨g3,j,none⟩:Addr).block) v').output).trans hc.output
 ·simp at hz ⊢;omega
 ·exact (Below.heap_setCell _ _ _ _ hne).trans ((hl b hb).trans (hc.block b hb hne))
abbrev st10 (w:World) (g:Nat) (v0 v1 v2 v3 v4 v5 v6 v7 v8 v9:Value):World:=((((((((((w.setCell ⟨g,0,none⟩ v0).setCell ⟨g,1,none⟩ v1).setCell ⟨g,2,none⟩ v2).setCell ⟨g,3,none⟩ v3).setCell ⟨g,4,none⟩ v4).setCell ⟨g,5,none⟩ v5).setCell ⟨g,6,none⟩ v6).setCell ⟨g,7,none⟩ v7).setCell ⟨g,8,none⟩ v8).setCell ⟨g,9,none⟩ v9)
theorem Za4 {w:World} {g:Nat} {c0 c1 c2 c3 c4 c5 c6 c7 c8 c9:Value} {t:TypeId} (h:w.heap[g]?=some (.cells #[c0,c1,c2,c3,c4,c5,c6,c7,c8,c9] t (0,0))) (v:Value):(w.setCell ⟨g,0,none⟩ v).heap[g]?=some (.cells #[v,c1,c2,c3,c4,c5,c6,c7,c8,c9] t (0,0)):=Zg _ _ _ _ _ _ h
theorem ZcN {w:World} {g:Nat} {c0 c1 c2 c3 c4 c5 c6 c7 c8 c9:Value} {t:TypeId} (h:w.heap[g]?=some (.cells #[c0,c1,c2,c3,c4,c5,c6,c7,c8,c9] t (0,0))) (v:Value):(w.setCell ⟨g,1,none⟩ v).heap[g]?=some (.cells #[c0,v,c2,c3,c4,c5,c6,c7,c8,c9] t (0,0)):=Zg _ _ _ _ _ _ h
theorem ZcT {w:World} {g:Nat} {c0 c1 c2 c3 c4 c5 c6 c7 c8 c9:Value} {t:TypeId} (h:w.heap[g]?=some (.cells #[c0,c1,c2,c3,c4,c5,c6,c7,c8,c9] t (0,0))) (v:Value):(w.setCell ⟨g,2,none⟩ v).heap[g]?=some (.cells #[c0,c1,v,c3,c4,c5,c6,c7,c8,c9] t (0,0)):=Zg _ _ _ _ _ _ h
theorem ZcO {w:World} {g:Nat} {c0 c1 c2 c3 c4 c5 c6 c7 c8 c9:Value} {t:TypeId} (h:w.heap[g]?=some (.cells #[c0,c1,c2,c3,c4,c5,c6,c7,c8,c9] t (0,0))) (v:Value):(w.setCell ⟨g,3,none⟩ v).heap[g]?=some (.cells #[c0,c1,c2,v,c4,c5,c6,c7,c8,c9] t (0,0)):=Zg _ _ _ _ _ _ h
theorem ZbE {w:World} {g:Nat} {c0 c1 c2 c3 c4 c5 c6 c7 c8 c9:Value} {t:TypeId} (h:w.heap[g]?=some (.cells #[c0,c1,c2,c3,c4,c5,c6,c7,c8,c9] t (0,0))) (v:Value):(w.setCell ⟨g,4,none⟩ v).heap[g]?=some (.cells #[c0,c1,c2,c3,v,c5,c6,c7,c8,c9] t (0,0)):=Zg _ _ _ _ _ _ h
theorem Za7 {w:World} {g:Nat} {c0 c1 c2 c3 c4 c5 c6 c7 c8 c9:Value} {t:TypeId} (h:w.heap[g]?=some (.cells #[c0,c1,c2,c3,c4,c5,c6,c7,c8,c9] t (0,0))) (v:Value):(w.setCell ⟨g,5,none⟩ v).heap[g]?=some (.cells #[c0,c1,c2,c3,c4,v,c6,c7,c8,c9] t (0,0)):=Zg _ _ _ _ _ _ h
theorem ZbF {w:World} {g:Nat} {c0 c1 c2 c3 c4 c5 c6 c7 c8 c9:Value} {t:TypeId} (h:w.heap[g]?=some (.cells #[c0,c1,c2,c3,c4,c5,c6,c7,c8,c9] t (0,0))) (v:Value):(w.setCell ⟨g,6,none⟩ v).heap[g]?=some (.cells #[c0,c1,c2,c3,c4,c5,v,c7,c8,c9] t (0,0)):=Zg _ _ _ _ _ _ h
theorem Zgl {w:World} {g:Nat} {c0 c1 c2 c3 c4 c5 c6 c7 c8 c9:Value} {t:TypeId} (h:w.heap[g]?=some (.cells #[c0,c1,c2,c3,c4,c5,c6,c7,c8,c9] t (0,0))) (v:Value):(w.setCell ⟨g,7,none⟩ v).heap[g]?=some (.cells #[c0,c1,c2,c3,c4,c5,c6,v,c8,c9] t (0,0)):=Zg _ _ _ _ _ _ h
theorem Zgw {w:World} {g:Nat} {c0 c1 c2 c3 c4 c5 c6 c7 c8 c9:Value} {t:TypeId} (h:w.heap[g]?=some (.cells #[c0,c1,c2,c3,c4,c5,c6,c7,c8,c9] t (0,0))) (v:Value):(w.setCell ⟨g,8,none⟩ v).heap[g]?=some (.cells #[c0,c1,c2,c3,c4,c5,c6,c7,v,c9] t (0,0)):=Zg _ _ _ _ _ _ h
theorem Zgi {w:World} {g:Nat} {c0 c1 c2 c3 c4 c5 c6 c7 c8 c9:Value} {t:TypeId} (h:w.heap[g]?=some (.cells #[c0,c1,c2,c3,c4,c5,c6,c7,c8,c9] t (0,0))) (v:Value):(w.setCell ⟨g,9,none⟩ v).heap[g]?=some (.cells #[c0,c1,c2,c3,c4,c5,c6,c7,c8,v] t (0,0)):=Zg _ _ _ _ _ _ h
theorem Zag {w:World} {g:Nat} {c0 c1 c2 c3 c4 c5 c6 c7 c8 c9:Value} {t:TypeId} (h:w.heap[g]?=some (.cells #[c0,c1,c2,c3,c4,c5,c6,c7,c8,c9] t (0,0))) (v0 v1 v2 v3 v4 v5 v6 v7 v8 v9:Value):(st10 w g v0 v1 v2 v3 v4 v5 v6 v7 v8 v9).heap[g]?=some (.cells #[v0,v1,v2,v3,v4,v5,v6,v7,v8,v9] t (0,0)):=
 Zgi (Zgw (Zgl (ZbF (Za7 (ZbE (ZcO (ZcT (ZcN (Za4 h v0) v1) v2) v3) v4) v5) v6) v7) v8) v9
theorem Zjr (w:World) (g:Nat) (v0 v1 v2 v3 v4 v5 v6 v7 v8 v9:Value) {b:Nat} (hb:b≠g):(st10 w g v0 v1 v2 v3 v4 v5 v6 v7 v8 v9).heap[b]?=w.heap[b]?:=by
 unfold st10;simp only [Below.heap_setCell _ (⟨g,_,none⟩:Addr) _ b hb]
theorem Zas {B:Nat} {a w:World} (h:Below B a w) {g:Nat} (hg:B≤g) (v0 v1 v2 v3 v4 v5 v6 v7 v8 v9:Value):Below B a (st10 w g v0 v1 v2 v3 v4 v5 v6 v7 v8 v9):=by
 exact (((((((((h.setCell hg _).setCell hg _).setCell hg _).setCell hg _).setCell hg _).setCell hg _).setCell hg _).setCell hg _).setCell hg _).setCell hg _
theorem Zs {u:World} {B:Nat} {e:TypeId} {sz n g:Nat} {v:Value} {xs:List Value} {cs:Array Value} {t:TypeId} (h:u.ownsRow B e sz v n xs) (hg:u.heap[g]?=some (.cells cs t (0,0))) (ht:e≠t):v.ownBlock≠some g:=by
 intro hv;obtain ⟨cc,fz,hh⟩:=Go.Lib.ownsRow_kind h g hv;rw [hg] at hh;simp at hh;exact ht hh.2.1.symm
theorem ZR {u:World} {B:Nat} {e:TypeId} {sz n g:Nat} {v:Value} {xs:List Value} (h:u.ownsRow B e sz v n xs) (hne:v.ownBlock≠some g) (v0 v1 v2 v3 v4 v5 v6 v7 v8 v9:Value):(st10 u g v0 v1 v2 v3 v4 v5 v6 v7 v8 v9).ownsRow B e sz v n xs:=
 Zj h (fun j hj=>Zjr u g v0 v1 v2 v3 v4 v5 v6 v7 v8 v9 (fun e=>hne (by rw [←e];exact hj)))
theorem ZF {u v:World} {B:Nat} {e:TypeId} {sz n g:Nat} {x:Value} {xs:List Value} (h:u.ownsRow B e sz x n xs) (hc:Chg (fun y=>y=g) u v) (hne:x.ownBlock≠some g):v.ownsRow B e sz x n xs:=
 Zj h (fun j hj=>hc.block j (h.lt j hj).2 (fun e=>hne (by rw [←e];exact hj)))
theorem Zr {u:World} {B:Nat} {e:TypeId} {sz n g a:Nat} {x y:Value} {xs:List Value} (h:u.ownsRow B e sz x n xs) (hne:x.ownBlock≠some g):(u.setCell ⟨g,a,none⟩ y).ownsRow B e sz x n xs:=
 Zj h (fun j hj=>Below.heap_setCell _ _ _ _ (fun e=>hne (by rw [←show j=g from e];exact hj)))
theorem ZfX:(Tryz.prog.info? 74).map (fun i=>(i.zero,i.size,i.bytes))=some (some (.agg #[.int .i64 0,.string ⟨#[]⟩,.int .i64 0,.int .i64 0]),4,40):=by kernel_rfl
theorem ZfE:(Tryz.prog.info? 76).map (fun i=>(i.zero,i.size,i.bytes))=some (some (.agg #[.int .i64 0,.string ⟨#[]⟩]),2,24):=by kernel_rfl
theorem ZkE:(Tryz.prog.info? 72).map (fun i=>(i.zero,i.size,i.bytes))=some (some (.agg #[.int .i64 0,.string ⟨#[]⟩,.int .i64 0]),3,32):=by kernel_rfl
theorem Chg.drew {F:Nat→Prop} {u v:World} (h:Chg F u v):Chg F u v.drew:=⟨h.os,h.tape,h.output,h.size,h.block⟩
theorem rk {U wr w1:World} {g3:Nat} {e:TypeId} {sz n:Nat} {v:Value} {xs:List Value} (hc:Chg (fun y=>y=g3) U wr) (hown:wr.ownsRow U.heap.size e sz v n xs) (hw:∀ b,b<wr.heap.size→some b≠v.ownBlock→w1.heap[b]?=wr.heap[b]?):∀ b,b<U.heap.size→w1.heap[b]?=wr.heap[b]?:=by
 intro b hb;refine hw b (Nat.lt_of_lt_of_le hb hc.size) (fun e=>?_);have:=(hown.lt b e.symm).1;omega
structure CP (w:World) (src:Obj) (g3:Nat) (d:Obj) (u:World):Prop where
 h0:u.heap[w.heap.size]?=some src
 h1:u.heap[w.heap.size+1]?=some zW
 h2:u.heap[g3]?=some d
 bel:Below w.heap.size w u
 lo:w.heap.size+2≤g3
theorem CP.chg {w:World} {src:Obj} {g3:Nat} {d d':Obj} {u v:World} (h:CP w src g3 d u) (hc:Chg (fun y=>y=g3) u v) (h2:v.heap[g3]?=some d'):CP w src g3 d' v:=by
 have hl:=h.lo;refine ⟨ZgQ h.h0 hc (by omega),ZgQ h.h1 hc (by omega),h2,?_,hl⟩;exact h.bel.trans (hc.below h.bel.size (fun x hx=>by omega))
end Lw
end Go.Proofs.YtcpikklofilkcaaGreat
