import Derived.Test.YtcpikklofilkcaaGreatNqH
import Derived.Test.YtcpikklofilkcaaGreatNqO
import Derived.Test.YtcpikklofilkcaaGreatNqP
import Derived.Deep.RegionWith
import Derived.Deep.DeepCutAuto
import Derived.Test.YtcpikklofilkcaaGreatNqG
set_option maxRecDepth 100000
set_option maxHeartbeats 16000000
namespace Go.Proofs.YtcpikklofilkcaaGreat
open Go.RowKit
namespace Lw
open Co
theorem ZC {w:World} {g:Nat} {cur:Array Value} {t:TypeId} {sz:Nat} {m:List Value} {cap j:Nat} (hg:w.heap[g]?=some (.cells cur t (0,0))) (hm:MarkG sz m cur cap) (hj:j<cap) (i:Nat) (v:Value) (hv:m[i]?=some v):w.cell? ⟨g,j*sz+i,none⟩=some v:=by
 have:=hm j hj i v hv;simp [World.cell?,hg,this]
theorem Zbo (go:Nat) (F:Nat→Prop) (q1 q2 q4:Nat) (w:World) (h:OwnAt w go F q1 q2 q2 q4) (hq:q1≤1099511627776∧q2≤1099511627776∧q4≤1099511627776) :
  Calls Tryz.prog 8 #[.pointer (some ⟨go,0,none⟩)] w fun e w'=>e=.returned (.bool true)∧w'=w:=by
 obtain ⟨hq1,hq2,hq4⟩:=hq;obtain ⟨v1,v2,v3,v4,h0,⟨vsP,p1,_,p3⟩,⟨vsV,s1,_,s3⟩,⟨vsW,w1,_,w3⟩,⟨vsT,t1,_,t3⟩⟩:=h.ex;obtain ⟨po,pc,rfl,_⟩:=Zd p1;obtain ⟨so,sc,rfl,_⟩:=Zd s1;obtain ⟨wo,wc,rfl,_⟩:=Zd w1;obtain ⟨tqo,tc,rfl,_⟩:=Zd t1;have HP:Hid (RowAt w (.slice po q1 pc) q1 vsP∧vsP.length=q1∧∀ (i:Nat) (x:Value),vsP[i]?=some x→FullG 70 4 (mP ((i+1:Nat):Int)) w x∧∀ g,x.ownBlock=some g→F g):=⟨Zd p1,by simpa using p1.1,p3⟩;have HV:Hid (RowAt w (.slice so q2 sc) q2 vsV∧vsV.length=q2∧∀ (i:Nat) (x:Value),vsV[i]?=some x→FullG 74 4 (mV ((i+1:Nat):Int)) w x∧∀ g,x.ownBlock=some g→F g):=⟨Zd s1,by simpa using s1.1,s3⟩;have HW:Hid (RowAt w (.slice wo q2 wc) q2 vsW∧vsW.length=q2∧∀ (i:Nat) (x:Value),vsW[i]?=some x→FullG 76 2 (mW ((i+1:Nat):Int)) w x∧∀ g,x.ownBlock=some g→F g):=⟨Zd w1,by simpa using w1.1,w3⟩;have HT:Hid (RowAt w (.slice tqo q4 tc) q4 vsT∧vsT.length=q4∧∀ (i:Nat) (x:Value),vsT[i]?=some x→FullG 72 3 (mT ((i+1:Nat):Int)) w x∧∀ g,x.ownBlock=some g→F g):=⟨Zd t1,by simpa using t1.1,t3⟩;obtain ⟨a0,a1,a2,a3,az⟩:=blkOw h0;clear h h0 p1 p3 s1 s3 w1 w3 t1 t3;go_enter Tryz.func8,Tryz.ntmps8
 go_wp2_with fail
 go_loop [3] (fun i=>∃ k:Nat,k≤q1∧i=.int .i64 k) (fun i=>q1 - (intOf i).toNat)
 case atStart=>exact ⟨0,Nat.zero_le _,rfl⟩
 case round =>
  obtain ⟨k,hk,rfl⟩:=hrel;by_cases hlt:k<q1
  ·obtain ⟨x,hx⟩:∃ x,vsP[k]?=some x:=⟨_,List.getElem?_eq_getElem (by rw [HP.out.2.1];exact hlt)⟩;obtain ⟨bl,off,rfl,hbl,hcx⟩:=HP.out.1.at hx;have hlti:(k:Int)<(q1:Int):=by omega
   rcases (HP.out.2.2 k x hx).1 with hxe | ⟨g,cap,cur,hxe,hcap,hg,hm⟩
   ·subst hxe;go_wp2_with fail
    go_loop [4] (fun i=>i=.int .i64 0) (fun _=>0)
    case atStart=>rfl
    case round =>
     subst hrel;go_wp2_with fail
     go_round
     case rel=>exact ⟨k+1,by omega,by go_num⟩
     case measure=>simp [intOf];omega
   ·subst hxe;have hcap':cap≤9223372036854775807:=hcap;have HGM:Hid (w.heap[g]?=some (.cells cur _ (0,0))∧MarkG 4 _ cur cap):=⟨hg,hm⟩;clear hg hm hcap;go_wp2_with fail
    go_loop [4] (fun i=>∃ j:Nat,j≤cap∧i=.int .i64 j) (fun i=>cap - (intOf i).toNat)
    case atStart=>exact ⟨0,Nat.zero_le _,rfl⟩
    case round =>
     obtain ⟨j,hjc,rfl⟩:=hrel;by_cases hj:j<cap
     ·have hji:(j:Int)<(cap:Int):=by omega
      have m0:w.cell? ⟨g,j*4,none⟩=some (.string ⟨#[]⟩):=ZC HGM.out.1 HGM.out.2 hj 0 _ rfl;have m1:w.cell? ⟨g,j*4+1,none⟩=some (.int .i64 0):=ZC HGM.out.1 HGM.out.2 hj 1 _ rfl;have m2:w.cell? ⟨g,j*4+2,none⟩=some (.int .i64 0):=ZC HGM.out.1 HGM.out.2 hj 2 _ rfl;have m3:w.cell? ⟨g,j*4+3,none⟩=some (.int .i64 ((k+1:Nat):Int)):=ZC HGM.out.1 HGM.out.2 hj 3 _ rfl;go_wp2_with fail
      go_round
      case rel=>exact ⟨j+1,by omega,by go_num⟩
      case measure=>simp [intOf];omega
     ·
      go_wp2_with fail
      go_round
      case rel=>exact ⟨k+1,by omega,by go_num⟩
      case measure=>simp [intOf];omega
  ·
   go_wp2_with fail
   go_loop [5] (fun i=>∃ k:Nat,k≤q4∧i=.int .i64 k) (fun i=>q4 - (intOf i).toNat)
   case atStart=>exact ⟨0,Nat.zero_le _,rfl⟩
   case round =>
    obtain ⟨k,hk,rfl⟩:=hrel;by_cases hlt:k<q4
    ·obtain ⟨x,hx⟩:∃ x,vsT[k]?=some x:=⟨_,List.getElem?_eq_getElem (by rw [HT.out.2.1];exact hlt)⟩;obtain ⟨bl,off,rfl,hbl,hcx⟩:=HT.out.1.at hx;have hlti:(k:Int)<(q4:Int):=by omega
     rcases (HT.out.2.2 k x hx).1 with hxe | ⟨g,cap,cur,hxe,hcap,hg,hm⟩
     ·subst hxe;go_wp2_with fail
      go_loop [6] (fun i=>i=.int .i64 0) (fun _=>0)
      case atStart=>rfl
      case round =>
       subst hrel;go_wp2_with fail
       go_round
       case rel=>exact ⟨k+1,by omega,by go_num⟩
       case measure=>simp [intOf];omega
     ·subst hxe;have hcap':cap≤9223372036854775807:=hcap;have HGM:Hid (w.heap[g]?=some (.cells cur _ (0,0))∧MarkG 3 _ cur cap):=⟨hg,hm⟩;clear hg hm hcap;go_wp2_with fail
      go_loop [6] (fun i=>∃ j:Nat,j≤cap∧i=.int .i64 j) (fun i=>cap - (intOf i).toNat)
      case atStart=>exact ⟨0,Nat.zero_le _,rfl⟩
      case round =>
       obtain ⟨j,hjc,rfl⟩:=hrel;by_cases hj:j<cap
       ·have hji:(j:Int)<(cap:Int):=by omega
        have m0:w.cell? ⟨g,j*3,none⟩=some (.int .i64 0):=ZC HGM.out.1 HGM.out.2 hj 0 _ rfl;have m1:w.cell? ⟨g,j*3+1,none⟩=some (.string ⟨#[]⟩):=ZC HGM.out.1 HGM.out.2 hj 1 _ rfl;have m2:w.cell? ⟨g,j*3+2,none⟩=some (.int .i64 ((k+1:Nat):Int)):=ZC HGM.out.1 HGM.out.2 hj 2 _ rfl;go_wp2_with fail
        go_round
        case rel=>exact ⟨j+1,by omega,by go_num⟩
        case measure=>simp [intOf];omega
       ·
        go_wp2_with fail
        go_round
        case rel=>exact ⟨k+1,by omega,by go_num⟩
        case measure=>simp [intOf];omega
    ·
     go_wp2_with fail
     go_loop [7] (fun i=>∃ k:Nat,k≤q2∧i=.int .i64 k) (fun i=>q2 - (intOf i).toNat)
     case atStart=>exact ⟨0,Nat.zero_le _,rfl⟩
     case round =>
      obtain ⟨k,hk,rfl⟩:=hrel;by_cases hlt:k<q2
      ·obtain ⟨x,hx⟩:∃ x,vsV[k]?=some x:=⟨_,List.getElem?_eq_getElem (by rw [HV.out.2.1];exact hlt)⟩;obtain ⟨bl,off,rfl,hbl,hcx⟩:=HV.out.1.at hx;have hlti:(k:Int)<(q2:Int):=by omega
       rcases (HV.out.2.2 k x hx).1 with hxe | ⟨g,cap,cur,hxe,hcap,hg,hm⟩
       ·subst hxe;go_wp2_with fail
        go_loop [8] (fun i=>i=.int .i64 0) (fun _=>0)
        case atStart=>rfl
        case round =>
         subst hrel;obtain ⟨y,hy⟩:∃ y,vsW[k]?=some y:=⟨_,List.getElem?_eq_getElem (by rw [HW.out.2.1];exact hlt)⟩;obtain ⟨bl',off',rfl,hbl',hcy⟩:=HW.out.1.at hy;rcases (HW.out.2.2 k y hy).1 with hxe | ⟨g,cap,cur,hxe,hcap,hg,hm⟩
         ·subst hxe;go_wp2_with fail
          go_loop [9] (fun i=>i=.int .i64 0) (fun _=>0)
          case atStart=>rfl
          case round =>
           subst hrel;go_wp2_with fail
           go_round
           case rel=>exact ⟨k+1,by omega,by go_num⟩
           case measure=>simp [intOf];omega
         ·subst hxe;have hcap':cap≤9223372036854775807:=hcap;have HGM:Hid (w.heap[g]?=some (.cells cur _ (0,0))∧MarkG 2 _ cur cap):=⟨hg,hm⟩;clear hg hm hcap;go_wp2_with fail
          go_loop [9] (fun i=>∃ j:Nat,j≤cap∧i=.int .i64 j) (fun i=>cap - (intOf i).toNat)
          case atStart=>exact ⟨0,Nat.zero_le _,rfl⟩
          case round =>
           obtain ⟨j,hjc,rfl⟩:=hrel;by_cases hj:j<cap
           ·have hji:(j:Int)<(cap:Int):=by omega
            have m0:w.cell? ⟨g,j*2,none⟩=some (.int .i64 ((k+1:Nat):Int)):=ZC HGM.out.1 HGM.out.2 hj 0 _ rfl;have m1:w.cell? ⟨g,j*2+1,none⟩=some (.string ⟨#[]⟩):=ZC HGM.out.1 HGM.out.2 hj 1 _ rfl;go_wp2_with fail
            go_round
            case rel=>exact ⟨j+1,by omega,by go_num⟩
            case measure=>simp [intOf];omega
           ·
            go_wp2_with fail
            go_round
            case rel=>exact ⟨k+1,by omega,by go_num⟩
            case measure=>simp [intOf];omega
       ·subst hxe;have hcap':cap≤9223372036854775807:=hcap;have HGM:Hid (w.heap[g]?=some (.cells cur _ (0,0))∧MarkG 4 _ cur cap):=⟨hg,hm⟩;clear hg hm hcap;go_wp2_with fail
        go_loop [8] (fun i=>∃ j:Nat,j≤cap∧i=.int .i64 j) (fun i=>cap - (intOf i).toNat)
        case atStart=>exact ⟨0,Nat.zero_le _,rfl⟩
        case round =>
         obtain ⟨j,hjc,rfl⟩:=hrel;by_cases hj:j<cap
         ·have hji:(j:Int)<(cap:Int):=by omega
          have m0:w.cell? ⟨g,j*4,none⟩=some (.int .i64 0):=ZC HGM.out.1 HGM.out.2 hj 0 _ rfl;have m1:w.cell? ⟨g,j*4+1,none⟩=some (.string ⟨#[]⟩):=ZC HGM.out.1 HGM.out.2 hj 1 _ rfl;have m2:w.cell? ⟨g,j*4+2,none⟩=some (.int .i64 ((k+1:Nat):Int)):=ZC HGM.out.1 HGM.out.2 hj 2 _ rfl;have m3:w.cell? ⟨g,j*4+3,none⟩=some (.int .i64 0):=ZC HGM.out.1 HGM.out.2 hj 3 _ rfl;go_wp2_with fail
          go_round
          case rel=>exact ⟨j+1,by omega,by go_num⟩
          case measure=>simp [intOf];omega
         ·
          obtain ⟨y,hy⟩:∃ y,vsW[k]?=some y:=⟨_,List.getElem?_eq_getElem (by rw [HW.out.2.1];exact hlt)⟩;obtain ⟨bl',off',rfl,hbl',hcy⟩:=HW.out.1.at hy;rcases (HW.out.2.2 k y hy).1 with hxe | ⟨g,cap,cur,hxe,hcap,hg,hm⟩
          ·subst hxe;go_wp2_with fail
           go_loop [9] (fun i=>i=.int .i64 0) (fun _=>0)
           case atStart=>rfl
           case round =>
            subst hrel;go_wp2_with fail
            go_round
            case rel=>exact ⟨k+1,by omega,by go_num⟩
            case measure=>simp [intOf];omega
          ·subst hxe;have hcap':cap≤9223372036854775807:=hcap;have HGM:Hid (w.heap[g]?=some (.cells cur _ (0,0))∧MarkG 2 _ cur cap):=⟨hg,hm⟩;clear hg hm hcap;go_wp2_with fail
           go_loop [9] (fun i=>∃ j:Nat,j≤cap∧i=.int .i64 j) (fun i=>cap - (intOf i).toNat)
           case atStart=>exact ⟨0,Nat.zero_le _,rfl⟩
           case round =>
            obtain ⟨j,hjc,rfl⟩:=hrel;by_cases hj:j<cap
            ·have hji:(j:Int)<(cap:Int):=by omega
             have m0:w.cell? ⟨g,j*2,none⟩=some (.int .i64 ((k+1:Nat):Int)):=ZC HGM.out.1 HGM.out.2 hj 0 _ rfl;have m1:w.cell? ⟨g,j*2+1,none⟩=some (.string ⟨#[]⟩):=ZC HGM.out.1 HGM.out.2 hj 1 _ rfl;go_wp2_with fail
             go_round
             case rel=>exact ⟨j+1,by omega,by go_num⟩
             case measure=>simp [intOf];omega
            ·
             go_wp2_with fail
             go_round
             case rel=>exact ⟨k+1,by omega,by go_num⟩
             case measure=>simp [intOf];omega
      ·
       go_wp2_with fail
       go_ret
       exact ⟨rfl,rfl⟩
theorem blk11 {w:World} {g:Nat} {c0 c1 c2 c3 c4 c5 c6 c7 c8 c9 c10:Value} {t:TypeId} (h:w.heap[g]?=some (.cells #[c0,c1,c2,c3,c4,c5,c6,c7,c8,c9,c10] t (0,0))) :
  w.cell? ⟨g,0,none⟩=some c0∧w.cell? ⟨g,1,none⟩=some c1∧w.cell? ⟨g,2,none⟩=some c2∧w.cell? ⟨g,3,none⟩=some c3∧w.cell? ⟨g,4,none⟩=some c4∧w.cell? ⟨g,5,none⟩=some c5∧w.cell? ⟨g,6,none⟩=some c6∧w.cell? ⟨g,7,none⟩=some c7:=by
 refine ⟨?_,?_,?_,?_,?_,?_,?_,?_⟩ <;> simp [World.cell?,h]
theorem Zba {w w':World} {v:Value} {n:Nat} {cs:List Value} (h:RowAt w v n cs) (hs:w.heap.size≤w'.heap.size) (hh:∀ g,v.ownBlock=some g→w'.heap[g]?=w.heap[g]?):RowAt w' v n cs:=by
 obtain ⟨ao,cap,rfl,hc,h⟩:=h;refine ⟨ao,cap,rfl,hc,?_⟩;rcases h with h | ⟨b,off,rfl,h2,h3⟩
 ·exact .inl h
 ·refine .inr ⟨b,off,rfl,Nat.lt_of_lt_of_le h2 hs,fun j x hx=>?_⟩;rw [World.cell?_of_block (hh b rfl)];exact h3 j x hx
def Blk (S:Sta) (v:Stv) (g:Nat):Prop:=(Value.slice v.po S.pools.length v.pc).ownBlock=some g∨(Value.slice v.so S.srv.length v.sc).ownBlock=some g∨(Value.slice v.wo S.wts.length v.wc).ownBlock=some g∨(Value.slice v.tqo S.plan.length v.tc).ownBlock=some g
theorem StaAt.keep {w w':World} {S:Sta} {v:Stv} {G:Nat→Prop} (h:StaAt w S v) (hc:Chg G w w') (hlt:∀ g,Blk S v g→g<w.heap.size) (hd:∀ g,Blk S v g→¬G g):StaAt w' S v:=by
 have hh:∀ g,Blk S v g→w'.heap[g]?=w.heap[g]?:=fun g hg=>hc.block g (hlt g hg) (hd g hg)
 exact ⟨Zba h.p hc.size (fun g hg=>hh g (.inl hg)),Zba h.s hc.size (fun g hg=>hh g (.inr (.inl hg))),Zba h.t hc.size (fun g hg=>hh g (.inr (.inr (.inl hg)))),Zba h.l hc.size (fun g hg=>hh g (.inr (.inr (.inr hg))))⟩
theorem NewSta.at {w w':World} {S:Sta} {v:Stv} (h:NewSta w w' S v):StaAt w' S v:=⟨Zd h.p,Zd h.s,Zd h.t,Zd h.l⟩
theorem NewSta.blk {w w':World} {S:Sta} {v:Stv} (h:NewSta w w' S v):∀ g,Blk S v g→w.heap.size≤g∧g<w'.heap.size:=by
 rintro g (hg | hg | hg | hg)
 ·exact h.p.lt g hg
 ·exact h.s.lt g hg
 ·exact h.t.lt g hg
 ·exact h.l.lt g hg
theorem NewSta.nx {w w' w2:World} {S:Sta} {v:Stv} (h:NewSta w w' S v) (hb:Below w'.heap.size w' w2):NewSta w w2 S v:=⟨Zk h.p hb,Zk h.s hb,Zk h.t hb,Zk h.l hb⟩
structure Seen (w:World) (gx gp go:Nat) (S:Sta) (op:Aux) (Fp F:Nat→Prop) (u:Stv) (q1 q2 q4:Nat):Prop where
 pr:∃ nx hb hv,w.heap[gx]?=some (bPair (.pointer (some ⟨gp,0,none⟩)) S.bud (.slice u.po S.pools.length u.pc) (.slice u.so S.srv.length u.sc) (.slice u.wo S.wts.length u.wc) (.slice u.tqo S.plan.length u.tc) S.begun S.back nx hb hv)
 desk:DeskAt w gp S op Fp
 ref:StaAt w S u
 rlt:∀ g,Blk S u g→g<w.heap.size
 own:OwnAt w go F q1 q2 q2 q4
 dx:¬F gx
 dp:∀ y,Fp y→¬F y
 dr:∀ g,Blk S u g→¬F g
theorem Seen.next {w w':World} {gx gp go:Nat} {S:Sta} {op:Aux} {Fp F F':Nat→Prop} {u:Stv} {q1 q2 q4 r1 r2 r4:Nat} (h:Seen w gx gp go S op Fp F u q1 q2 q4) (hc:Chg F w w') (ho:OwnAt w' go F' r1 r2 r2 r4) (hF:∀ y,F' y→F y∨w.heap.size≤y):Seen w' gx gp go S op Fp F' u r1 r2 r4:=by
 obtain ⟨nx,hb,hv,hp⟩:=h.pr;have hxlt:gx<w.heap.size:=(Array.getElem?_eq_some_iff.1 hp).1;refine ⟨⟨nx,hb,hv,(hc.block gx hxlt h.dx).trans hp⟩,h.desk.keep hc h.dp,h.ref.keep hc h.rlt h.dr,fun g hg=>Nat.lt_of_lt_of_le (h.rlt g hg) hc.size,ho,fun hh=>?_,fun y hy hh=>?_,fun g hg hh=>?_⟩
 ·rcases hF gx hh with hh | hh
  ·exact h.dx hh
  ·omega
 ·rcases hF y hh with hh | hh
  ·exact h.dp y hy hh
  ·have:=h.desk.lt y hy;omega
 ·rcases hF g hh with hh | hh
  ·exact h.dr g hg hh
  ·have:=h.rlt g hg;omega
theorem ZdY {w w2:World} {go:Nat} {S:Sta} {F:Nat→Prop} {v:Stv} {q1 q2 q4:Nat} (ho:OwnAt w go F q1 q2 q2 q4) (hb:Below w.heap.size w w2) (hq:q1≤1099511627776∧q2≤1099511627776∧q4≤1099511627776) (hn:NewSta w w2 S v) :
  Calls Tryz.prog 13 #[.pointer (some ⟨go,0,none⟩),staA S v] w2 fun e w'=>(∃ x,e=.returned x)∧∃ F',OwnAt w' go F' (q1+1) (q2+1) (q2+1) (q4+1)∧(∀ y,F' y→F y∨w.heap.size≤y)∧Chg F w w':=by
 have hd:∀ g,Blk S v g→¬F g:=fun g hg h=>by
  have:=ho.lt g h;have h2:=(hn.blk g hg).1;omega
 have ho2:OwnAt w2 go F q1 q2 q2 q4:=ho.keep (G:=fun _=>False) (Chg.of_below hb) (fun _ _ h=>h);refine (Zhe go F q1 q2 q2 q4 S.bud v.po _ v.pc v.so _ v.sc v.wo _ v.wc v.tqo _ v.tc S.begun S.back _ _ _ _ w2 ho2 ⟨hq.1,hq.2.1,hq.2.1,hq.2.2⟩ ⟨Zi hn.p (Nat.zero_le _),fun g hg=>hd g (.inl hg)⟩ ⟨Zi hn.s (Nat.zero_le _),fun g hg=>hd g (.inr (.inl hg))⟩ ⟨Zi hn.t (Nat.zero_le _),fun g hg=>hd g (.inr (.inr (.inl hg)))⟩ ⟨Zi hn.l (Nat.zero_le _),fun g hg=>hd g (.inr (.inr (.inr hg)))⟩).mono ?_;rintro e w' ⟨hx,F',h1,h2,h3⟩;refine ⟨hx,F',h1,fun y hy=>?_,(Chg.of_below hb).trans h3 (fun y hy=>?_)⟩
 ·rcases h2 y hy with h | h | h | h | h | h
  ·exact .inl h
  ·exact .inr (hn.blk y (.inl h)).1
  ·exact .inr (hn.blk y (.inr (.inl h))).1
  ·exact .inr (hn.blk y (.inr (.inr (.inl h)))).1
  ·exact .inr (hn.blk y (.inr (.inr (.inr h)))).1
  ·exact .inr (Nat.le_trans hb.size h)
 ·rcases hy with h | h | h | h | h
  ·exact .inl h
  ·exact .inr (hn.blk y (.inl h)).1
  ·exact .inr (hn.blk y (.inr (.inl h))).1
  ·exact .inr (hn.blk y (.inr (.inr (.inl h)))).1
  ·exact .inr (hn.blk y (.inr (.inr (.inr h)))).1
theorem Zf8 (gx gp go:Nat) (bud:Int) (ps:List Pl) (ss:List Srv) (ws:List Wtr) (ts:List Stp) (bg bk:Bool) (op:Aux) (Fp F:Nat→Prop) (m1:Option Addr) (m2:Nat) (m3:Option Addr) (m4:Nat) (m5:Option Addr) (m6:Nat) (m7:Option Addr) (m8:Nat) (q1 q2 q4:Nat) (w:World)
  (h:Seen w gx gp go ⟨bud,ps,ss,ws,ts,bg,bk⟩ op Fp F ⟨m1,m2,m3,m4,m5,m6,m7,m8⟩ q1 q2 q4) (hs:Small ⟨bud,ps,ss,ws,ts,bg,bk⟩) (hf:Fits ⟨bud,ps,ss,ws,ts,bg,bk⟩) (hq:q1≤1099511627770∧q2≤1099511627770∧q4≤1099511627770) :
  Calls Tryz.prog 6 #[.pointer (some ⟨gx,0,none⟩),.pointer (some ⟨go,0,none⟩)] w fun e w'=>e=.returned (.bool true)∧∃ F',OwnAt w' go F' (q1+2) (q2+2) (q2+2) (q4+2)∧(∀ y,F' y→F y∨w.heap.size≤y)∧Chg F w w':=by
 have HSN:=hideIt h;have HSM:=hideIt hs;have HF:=hideIt hf;obtain ⟨hq1,hq2,hq4⟩:=hq;obtain ⟨nx,hb,hv,hp⟩:=h.pr;have hxlt:gx<w.heap.size:=(Array.getElem?_eq_some_iff.1 hp).1;simp only at hp;obtain ⟨x0,x1,x2,x3,x4,x5,x6,x7⟩:=blk11 hp;have HP:=hideIt hp;have HSH:=hideIt (ZfH gp ⟨bud,ps,ss,ws,ts,bg,bk⟩ op Fp w h.desk hf);clear h hs hf hp;go_enter Tryz.func6,Tryz.ntmps6
 go_wp2_with fail
 refine HSH.out.mono ?_;rintro e w1 ⟨⟨v1,v2,v3,v4,v5,v6,v7,v8⟩,rfl,hn1,hb1⟩;simp only;have K1:Hid (NewSta w w1 ⟨bud,ps,ss,ws,ts,bg,bk⟩ ⟨v1,v2,v3,v4,v5,v6,v7,v8⟩∧Below w.heap.size w w1):=⟨hn1,hb1⟩;obtain ⟨W1,hW1⟩:∃ W1,W1=w1.alloc (.cells #[.int .i64 bud,.slice v1 ps.length v2,.slice v3 ss.length v4,.slice v5 ws.length v6,.slice v7 ts.length v8,.bool bg,.bool bk] 36):=⟨_,rfl⟩;have hbW:Below w1.heap.size w1 W1:=by rw [hW1];exact Zb _ _
 have hz1:W1.heap[w1.heap.size]?=some (.cells #[.int .i64 bud,.slice v1 ps.length v2,.slice v3 ss.length v4,.slice v5 ws.length v6,.slice v7 ts.length v8,.bool bg,.bool bk] 36):=by rw [hW1];exact Zc _ _ rfl
 have hx1:W1.heap[gx]?=some (bPair (.pointer (some ⟨gp,0,none⟩)) bud (.slice m1 ps.length m2) (.slice m3 ss.length m4) (.slice m5 ws.length m6) (.slice m7 ts.length m8) bg bk nx hb hv):=((Za hb1 hbW).block gx hxlt).trans HP.out;have KW:Hid (W1=w1.alloc (.cells #[.int .i64 bud,.slice v1 ps.length v2,.slice v3 ss.length v4,.slice v5 ws.length v6,.slice v7 ts.length v8,.bool bg,.bool bk] 36)∧Below w.heap.size w W1∧W1.heap[w1.heap.size]?=some (.cells #[.int .i64 bud,.slice v1 ps.length v2,.slice v3 ss.length v4,.slice v5 ws.length v6,.slice v7 ts.length v8,.bool bg,.bool bk] 36)∧W1.heap[gx]?=some (bPair (.pointer (some ⟨gp,0,none⟩)) bud (.slice m1 ps.length m2) (.slice m3 ss.length m4) (.slice m5 ws.length m6) (.slice m7 ts.length m8) bg bk nx hb hv)∧NewSta w W1 ⟨bud,ps,ss,ws,ts,bg,bk⟩ ⟨v1,v2,v3,v4,v5,v6,v7,v8⟩∧w1.heap.size<W1.heap.size):=⟨hW1,Za hb1 hbW,hz1,hx1,hn1.nx hbW,by rw [hW1];simp⟩;have HSS:=hideIt (ZbD ⟨bud,ps,ss,ws,ts,bg,bk⟩ ⟨v1,v2,v3,v4,v5,v6,v7,v8⟩ ⟨m1,m2,m3,m4,m5,m6,m7,m8⟩ W1.drew ((KW.out.2.2.2.2.1.at).nx ((Below.refl _ W1).drew)) ((HSN.out.ref.nx KW.out.2.1).nx ((Below.refl _ W1).drew)) HSM.out);simp only [staA] at HSS;clear hn1 hb1 hbW hW1 HSH x0 x1 x2 x3 x4 x5 x6 x7;go_upto_region 2 with fail
 rw [←KW.out.1];obtain ⟨x0,x1,x2,x3,x4,x5,x6,x7⟩:=blk11 hx1;obtain ⟨y0,y1,y2,y3,y4,y5,y6,yz⟩:=blk7d hz1;clear hx1 hz1;go_cut [6] (fun v wx=>v=.bool true∧Hid (Below W1.heap.size W1 wx))
 case first =>
  go_region_with (go_at_call 12;refine HSS.out.mono ?_;rintro e w9 ⟨rfl,hb9⟩)
  all_goals
   have K9:Hid (Below W1.heap.size W1 w9):=Za ((Below.refl _ W1).drew) hb9;clear hb9;go_wp2_with fail
   go_meet
   exact ⟨rfl,K9.out⟩
 case rest =>
  obtain ⟨rfl,KC⟩:=hcut;have KD:Hid (Below w.heap.size w wc∧NewSta w wc ⟨bud,ps,ss,ws,ts,bg,bk⟩ ⟨v1,v2,v3,v4,v5,v6,v7,v8⟩∧wc.heap[w1.heap.size]?=some (.cells #[.int .i64 bud,.slice v1 ps.length v2,.slice v3 ss.length v4,.slice v5 ws.length v6,.slice v7 ts.length v8,.bool bg,.bool bk] 36)):=
   ⟨Za KW.out.2.1 KC.out,KW.out.2.2.2.2.1.nx KC.out,(KC.out.block _ KW.out.2.2.2.2.2).trans KW.out.2.2.1⟩
  have HT:=hideIt (ZdY HSN.out.own KD.out.1 ⟨by omega,by omega,by omega⟩ KD.out.2.1);simp only [staA] at HT;clear x0 x1 x2 x3 x4 x5 x6 x7 y0 y1 y2 y3 y4 y5 y6 yz HSS;obtain ⟨y0,y1,y2,y3,y4,y5,y6,yz⟩:=blk7d KD.out.2.2;go_wp2_with fail
  refine HT.out.mono ?_;rintro e w3 ⟨⟨x,rfl⟩,F3,ho3,hF3,hc3⟩;have HS3:=hideIt (HSN.out.next hc3 ho3 hF3);have KF3:Hid ((∀ y,F3 y→F y∨w.heap.size≤y)∧Chg F w w3):=⟨hF3,hc3⟩;obtain ⟨nx3,hb3,hv3,hp3⟩:=HS3.out.pr;have hxlt3:gx<w3.heap.size:=(Array.getElem?_eq_some_iff.1 hp3).1;simp only at hp3;obtain ⟨x0,x1,x2,x3,x4,x5,x6,x7⟩:=blk11 hp3;have HP3:=hideIt hp3;have HSH:=hideIt (ZfH gp ⟨bud,ps,ss,ws,ts,bg,bk⟩ op Fp w3 HS3.out.desk HF.out);clear ho3 hF3 hc3 hp3 HT y0 y1 y2 y3 y4 y5 y6 yz KC KD KW K1;go_wp2_with fail
  refine HSH.out.mono ?_;rintro e w4 ⟨⟨v1',v2',v3',v4',v5',v6',v7',v8'⟩,rfl,hn4,hb4⟩;simp only;obtain ⟨W4,hW4⟩:∃ W4,W4=w4.alloc (.cells #[.int .i64 bud,.slice v1' ps.length v2',.slice v3' ss.length v4',.slice v5' ws.length v6',.slice v7' ts.length v8',.bool bg,.bool bk] 36):=⟨_,rfl⟩;have hbW:Below w4.heap.size w4 W4:=by rw [hW4];exact Zb _ _
  have hz4:W4.heap[w4.heap.size]?=some (.cells #[.int .i64 bud,.slice v1' ps.length v2',.slice v3' ss.length v4',.slice v5' ws.length v6',.slice v7' ts.length v8',.bool bg,.bool bk] 36):=by rw [hW4];exact Zc _ _ rfl
  have hx4:W4.heap[gx]?=some (bPair (.pointer (some ⟨gp,0,none⟩)) bud (.slice m1 ps.length m2) (.slice m3 ss.length m4) (.slice m5 ws.length m6) (.slice m7 ts.length m8) bg bk nx3 hb3 hv3):=((Za hb4 hbW).block gx hxlt3).trans HP3.out;have KW:Hid (W4=w4.alloc (.cells #[.int .i64 bud,.slice v1' ps.length v2',.slice v3' ss.length v4',.slice v5' ws.length v6',.slice v7' ts.length v8',.bool bg,.bool bk] 36)∧Below w3.heap.size w3 W4∧W4.heap[w4.heap.size]?=some (.cells #[.int .i64 bud,.slice v1' ps.length v2',.slice v3' ss.length v4',.slice v5' ws.length v6',.slice v7' ts.length v8',.bool bg,.bool bk] 36)∧W4.heap[gx]?=some (bPair (.pointer (some ⟨gp,0,none⟩)) bud (.slice m1 ps.length m2) (.slice m3 ss.length m4) (.slice m5 ws.length m6) (.slice m7 ts.length m8) bg bk nx3 hb3 hv3)∧NewSta w3 W4 ⟨bud,ps,ss,ws,ts,bg,bk⟩ ⟨v1',v2',v3',v4',v5',v6',v7',v8'⟩∧w4.heap.size<W4.heap.size):=⟨hW4,Za hb4 hbW,hz4,hx4,hn4.nx hbW,by rw [hW4];simp⟩;have HSS:=hideIt (ZbD ⟨bud,ps,ss,ws,ts,bg,bk⟩ ⟨v1',v2',v3',v4',v5',v6',v7',v8'⟩ ⟨m1,m2,m3,m4,m5,m6,m7,m8⟩ W4.drew ((KW.out.2.2.2.2.1.at).nx ((Below.refl _ W4).drew)) ((HS3.out.ref.nx KW.out.2.1).nx ((Below.refl _ W4).drew)) HSM.out);simp only [staA] at HSS;clear hn4 hb4 hbW hW4 HSH x0 x1 x2 x3 x4 x5 x6 x7;go_upto_region 7 with fail
  rw [←KW.out.1];obtain ⟨x0,x1,x2,x3,x4,x5,x6,x7⟩:=blk11 hx4;obtain ⟨y0,y1,y2,y3,y4,y5,y6,yz⟩:=blk7d hz4;clear hx4 hz4;go_cut [8] (fun v wx=>v=.bool true∧Hid (Below W4.heap.size W4 wx))
  case first =>
   go_region_with (go_at_call 12;refine HSS.out.mono ?_;rintro e w9 ⟨rfl,hb9⟩)
   all_goals
    have K9:Hid (Below W4.heap.size W4 w9):=Za ((Below.refl _ W4).drew) hb9;clear hb9;go_wp2_with fail
    go_meet
    exact ⟨rfl,K9.out⟩
  case rest =>
   obtain ⟨rfl,KC⟩:=hcut;rename_i wd
   have KD:Hid (Below w3.heap.size w3 wc∧NewSta w3 wc ⟨bud,ps,ss,ws,ts,bg,bk⟩ ⟨v1',v2',v3',v4',v5',v6',v7',v8'⟩∧wc.heap[w4.heap.size]?=some (.cells #[.int .i64 bud,.slice v1' ps.length v2',.slice v3' ss.length v4',.slice v5' ws.length v6',.slice v7' ts.length v8',.bool bg,.bool bk] 36)):=
    ⟨Za KW.out.2.1 KC.out,KW.out.2.2.2.2.1.nx KC.out,(KC.out.block _ KW.out.2.2.2.2.2).trans KW.out.2.2.1⟩
   have HT:=hideIt (ZdY HS3.out.own KD.out.1 ⟨by omega,by omega,by omega⟩ KD.out.2.1);simp only [staA] at HT;clear x0 x1 x2 x3 x4 x5 x6 x7 y0 y1 y2 y3 y4 y5 y6 yz HSS;obtain ⟨y0,y1,y2,y3,y4,y5,y6,yz⟩:=blk7d KD.out.2.2;go_wp2_with fail
   refine HT.out.mono ?_;rintro e w5 ⟨⟨x,rfl⟩,F5,ho5,hF5,hc5⟩;have HK:=hideIt (Zbo go F5 (q1+1+1) (q2+1+1) (q4+1+1) w5 ho5 ⟨by omega,by omega,by omega⟩);have KE:Hid (OwnAt w5 go F5 (q1+2) (q2+2) (q2+2) (q4+2)∧(∀ y,F5 y→F y∨w.heap.size≤y)∧Chg F w w5):=by
    refine ⟨ho5,fun y hy=>?_,KF3.out.2.trans hc5 (fun y hy=>KF3.out.1 y hy)⟩;rcases hF5 y hy with hy | hy
    ·exact KF3.out.1 y hy
    ·exact .inr (Nat.le_trans KF3.out.2.size hy)
   clear ho5 hF5 hc5 HT y0 y1 y2 y3 y4 y5 y6 yz KC KD KW;go_wp2_with fail
   refine HK.out.mono ?_;rintro e w6 ⟨rfl,rfl⟩;go_wp2_with fail
   go_ret
   exact ⟨rfl,F5,KE.out.1,KE.out.2.1,KE.out.2.2⟩
theorem Zhd (gx gp go:Nat) (S:Sta) (op:Aux) (Fp F:Nat→Prop) (u:Stv) (q1 q2 q4:Nat) (w:World) (h:Seen w gx gp go S op Fp F u q1 q2 q4) (hs:Small S) (hf:Fits S) (hq:q1≤1099511627770∧q2≤1099511627770∧q4≤1099511627770) :
  Calls Tryz.prog 6 #[.pointer (some ⟨gx,0,none⟩),.pointer (some ⟨go,0,none⟩)] w fun e w'=>e=.returned (.bool true)∧∃ F',OwnAt w' go F' (q1+2) (q2+2) (q2+2) (q4+2)∧(∀ y,F' y→F y∨w.heap.size≤y)∧Chg F w w':=
 Zf8 gx gp go S.bud S.pools S.srv S.wts S.plan S.begun S.back op Fp F u.po u.pc u.so u.sc u.wo u.wc u.tqo u.tc q1 q2 q4 w h hs hf hq
def optI:Option Nat→Int
 | none=>-1
 | some i=>(i:Int)
theorem Zaq {α:Type} {p:α→Bool} {l:List α} {k:Nat} {x:α} (hn:∀ y∈l.take k,p y=false) (hx:l[k]?=some x) (hp:p x=true):l.findIdx? p=some k:=by
 obtain ⟨hk,e⟩:=List.getElem?_eq_some_iff.1 hx;rw [List.findIdx?_eq_some_iff_getElem];refine ⟨hk,by rw [e];exact hp,fun j hj=>?_⟩;have:l[j]'(by omega)∈l.take k:=by
  rw [List.mem_take_iff_getElem];exact ⟨j,by omega,rfl⟩
 rw [hn _ this];simp
theorem Zad {α:Type} {p:α→Bool} {l:List α} (hn:∀ y∈l,p y=false):l.findIdx? p=none:=by
 rw [List.findIdx?_eq_none_iff];exact hn
theorem ZK {α:Type} {p:α→Bool} {l:List α} {k:Nat} {x:α} (hn:∀ y∈l.take k,p y=false) (hx:l[k]?=some x) (hp:p x=false):∀ y∈l.take (k+1),p y=false:=by
 obtain ⟨hk,e⟩:=List.getElem?_eq_some_iff.1 hx;intro y hy;rw [List.take_succ_eq_append_getElem hk,e] at hy;rcases List.mem_append.1 hy with h | h
 ·exact hn y h
 ·simp at h;subst h;exact hp
def cntG {α:Type} (p:α→Bool) (l:List α):Nat:=(l.filter p).length
theorem Zch {α:Type} {p:α→Bool} {l:List α} {k:Nat} {x:α} (hx:l[k]?=some x):cntG p (l.take (k+1))=cntG p (l.take k)+if p x=true then 1 else 0:=by
 obtain ⟨hk,e⟩:=List.getElem?_eq_some_iff.1 hx;unfold cntG;rw [List.take_succ_eq_append_getElem hk,List.filter_append,e,List.length_append];cases hp:p x <;> simp [hp]
def isPoolV (pool:ByteArray) (x:Srv):Bool:=x.pool.toList == pool.toList
def isPoolW (pool:ByteArray) (x:Wtr):Bool:=x.pool.toList == pool.toList
def isNameP (name:ByteArray) (x:Pl):Bool:=x.nm.toList == name.toList
def isCliV (c:Int) (x:Srv):Bool:=x.client == c
def isCliW (c:Int) (x:Wtr):Bool:=x.client == c
def isIdle (pool:ByteArray) (all:Bool) (x:Srv):Bool:=(x.client == 0)&&(all||x.pool.toList == pool.toList)
def rLeft (S:Sta) (i:Nat):Sta:={S with wts:=S.wts.eraseIdx i}
def rClosed (S:Sta) (i:Nat):Sta:={S with srv:=S.srv.eraseIdx i}
def rOpened (S:Sta) (nx:Int) (x:Pl) (client:Int):Sta:={S with srv:=S.srv++[⟨nx,x.nm,x.fr,client⟩]}
def rSet (S:Sta) (k:Nat) (c:Int):Sta:={S with srv:=S.srv.modify k (fun x=>{x with client:=c})}
def rRoom (S:Sta):Option (Option Nat):=if (S.srv.length:Int)<S.bud then some none else match S.srv.findIdx? (isIdle ⟨#[]⟩ true) with | none=>none | some k=>some (some k)
def rLent (S:Sta) (nx:Int) (i:Nat) (c:Wtr):Option (Sta×Int):=
 match S.pools.find? (isNameP c.pool) with
 | none=>none
 | some x=>match S.srv.findIdx? (isIdle c.pool false) with
  | some k=>some (rSet (rLeft S i) k c.client,nx)
  | none=>if x.sz≤(cntG (isPoolV c.pool) S.srv:Int)∨S.bud<(S.srv.length:Int) then none
   else match rRoom S with
    | none=>none
    | some none=>some (rOpened (rLeft S i) nx x c.client,nx+1)
    | some (some k)=>some (rOpened (rClosed (rLeft S i) k) nx x c.client,nx+1)
def rFirst (S:Sta) (nx:Int):Nat→List Wtr→Option (Sta×Int)
 | _,[]=>none
 | i,c :: r=>match rLent S nx i c with | some y=>some y | none=>rFirst S nx (i+1) r
def rServed:Nat→Sta→Int→Sta×Int
 | 0,S,nx=>(S,nx)
 | f+1,S,nx=>match rFirst S nx 0 S.wts with | none=>(S,nx) | some y=>rServed f y.1 y.2
def cHand (S:Sta) (id c:Int):Sta:={S with srv:=S.srv.map fun x=>if x.id=id then {x with client:=c} else x}
def cShut (S:Sta) (id:Int):Sta:={S with srv:=S.srv.filter fun x=>!decide (x.id=id)}
def cQuit (S:Sta) (c:Int):Sta:={S with wts:=S.wts.filter fun x=>!decide (x.client=c)}
def cOpen (S:Sta) (op:Int) (x:Pl) (c:Int):Sta:={S with srv:=S.srv++[⟨op+1,x.nm,x.fr,c⟩]}
def cGive (S:Sta) (op:Int) (c:Wtr):Option (Sta×Int):=
 match S.pools.find? (isNameP c.pool) with
 | none=>none
 | some x=>match S.srv.find? (fun s=>isPoolV x.nm s&&isCliV 0 s) with
  | some s=>some (cHand S s.id c.client,op)
  | none=>if x.sz≤(cntG (isPoolV x.nm) S.srv:Int) then none
   else if (S.srv.length:Int)<S.bud then some (cOpen S op x c.client,op+1)
   else match S.srv.find? (isCliV 0) with
    | none=>none
    | some s=>if S.bud<(S.srv.length:Int) then none else some (cOpen (cShut S s.id) op x c.client,op+1)
def cFirst (S:Sta) (op:Int):List Wtr→Option (Sta×Int)
 | []=>none
 | c :: r=>match cGive S op c with | some y=>some (cQuit y.1 c.client,y.2) | none=>cFirst S op r
def cServe:Nat→Sta→Int→Sta×Int
 | 0,S,op=>(S,op)
 | f+1,S,op=>match cFirst S op S.wts with | none=>(S,op) | some y=>cServe f y.1 y.2
structure Inv (S:Sta) (op:Int):Prop where
 ids:S.srv.Pairwise (fun a b=>a.id<b.id)
 low:∀ x∈S.srv,1≤x.id∧x.id≤op
 op0:0≤op
 cli:S.wts.Pairwise (fun a b=>a.client≠b.client)
theorem Zgx {a b:ByteArray} (h:a.toList=b.toList):a=b:=by
 rw [ByteArray.toList_eq,ByteArray.toList_eq] at h;cases a;cases b;simp at h;rw [h]
theorem Zbu {S:Sta} {n:ByteArray} {x:Pl} (h:S.pools.find? (isNameP n)=some x):x.nm=n:=by
 have:=List.find?_some h;simp only [isNameP,beq_iff_eq] at this;exact Zgx this
theorem ZB {α:Type} (p:α→Bool):∀ l:List α,(∀ k,l.findIdx? p=some k→∃ x,l[k]?=some x∧l.find? p=some x)∧(l.findIdx? p=none→l.find? p=none)
 | []=>by simp
 | y :: r=>by
  obtain ⟨h1,h2⟩:=ZB p r;cases hp:p y with
  | true =>
   refine ⟨fun k hk=>?_,fun h=>?_⟩
   ·simp [List.findIdx?_cons,hp] at hk;subst hk;exact ⟨y,rfl,by simp [hp]⟩
   ·simp [List.findIdx?_cons,hp] at h
  | false =>
   refine ⟨fun k hk=>?_,fun h=>?_⟩
   ·simp only [List.findIdx?_cons,hp] at hk;cases hr:r.findIdx? p with
    | none=>rw [hr] at hk;simp at hk
    | some j =>
     rw [hr] at hk;simp at hk;subst hk;obtain ⟨x,hx,hx2⟩:=h1 j hr;exact ⟨x,by simpa using hx,by simp [hp,hx2]⟩
   ·simp only [List.findIdx?_cons,hp] at h;have:r.findIdx? p=none:=by
     cases hr:r.findIdx? p with
     | none=>rfl
     | some j=>rw [hr] at h;simp at h
    simp [hp,h2 this]
theorem Zb7:∀ (l:List Srv),l.Pairwise (fun a b=>a.id<b.id)→∀ (k:Nat) (s:Srv) (c:Int),l[k]?=some s→(l.map fun x=>if x.id=s.id then {x with client:=c} else x)=l.modify k (fun x=>{x with client:=c})
 | [],_,k,s,c,h=>by simp at h
 | y :: r,hp,0,s,c,h=>by
  simp at h;subst h;have h1:=(List.pairwise_cons.1 hp).1;simp only [List.map_cons,if_true,List.modify_zero_cons];congr 1;refine (List.map_congr_left (fun x hx=>?_)).trans (List.map_id _);rw [if_neg (by have:=h1 x hx;omega)];rfl
 | y :: r,hp,k+1,s,c,h=>by
  have h1:=(List.pairwise_cons.1 hp).1;have hs:s∈r:=List.mem_of_getElem? (by simpa using h);have ih:=Zb7 r (List.pairwise_cons.1 hp).2 k s c (by simpa using h);simp only [List.map_cons,List.modify_succ_cons];rw [ih,if_neg (by have:=h1 s hs;omega)]
theorem Zal:∀ (l:List Srv),l.Pairwise (fun a b=>a.id<b.id)→∀ (k:Nat) (s:Srv),l[k]?=some s→(l.filter fun x=>!decide (x.id=s.id))=l.eraseIdx k
 | [],_,k,s,h=>by simp at h
 | y :: r,hp,0,s,h=>by
  simp at h;subst h;have h1:=(List.pairwise_cons.1 hp).1;simp only [List.filter_cons,decide_true,Bool.not_true,Bool.false_eq_true,if_false,List.eraseIdx_zero,List.tail_cons];refine List.filter_eq_self.2 (fun x hx=>?_);have:=h1 x hx;simp;omega
 | y :: r,hp,k+1,s,h=>by
  have h1:=(List.pairwise_cons.1 hp).1;have hs:s∈r:=List.mem_of_getElem? (by simpa using h);have ih:=Zal r (List.pairwise_cons.1 hp).2 k s (by simpa using h);have:=h1 s hs;rw [List.filter_cons,if_pos (by simp;omega),ih];rfl
theorem Z3:∀ (l:List Wtr),l.Pairwise (fun a b=>a.client≠b.client)→∀ (k:Nat) (s:Wtr),l[k]?=some s→(l.filter fun x=>!decide (x.client=s.client))=l.eraseIdx k
 | [],_,k,s,h=>by simp at h
 | y :: r,hp,0,s,h=>by
  simp at h;subst h;have h1:=(List.pairwise_cons.1 hp).1;simp only [List.filter_cons,decide_true,Bool.not_true,Bool.false_eq_true,if_false,List.eraseIdx_zero,List.tail_cons];refine List.filter_eq_self.2 (fun x hx=>?_);have:=h1 x hx;simp;omega
 | y :: r,hp,k+1,s,h=>by
  have h1:=(List.pairwise_cons.1 hp).1;have hs:s∈r:=List.mem_of_getElem? (by simpa using h);have ih:=Z3 r (List.pairwise_cons.1 hp).2 k s (by simpa using h);have:=h1 s hs;rw [List.filter_cons,if_pos (by simp;omega),ih];rfl
theorem Zhn {S:Sta} {op:Int} (hI:Inv S op) {i:Nat} {c:Wtr} (hi:S.wts[i]?=some c) :
  (cGive S op c).map (fun y=>(cQuit y.1 c.client,y.2+1))=rLent S (op+1) i c:=by
 have hq:∀ T:Sta,T.wts=S.wts→cQuit T c.client=rLeft T i:=by
  intro T hT;unfold cQuit rLeft;rw [hT,Z3 S.wts hI.cli i c hi]
 unfold cGive rLent;cases hf:S.pools.find? (isNameP c.pool) with
 | none=>rfl
 | some x =>
  have hx:=Zbu hf;have hp:(fun s=>isPoolV x.nm s&&isCliV 0 s)=isIdle c.pool false:=by
   funext s
   simp only [isPoolV,isCliV,isIdle,hx,Bool.false_or];exact Bool.and_comm _ _
  have hp2:isCliV 0=isIdle ⟨#[]⟩ true:=by
   funext s
   simp [isCliV,isIdle]
  simp only;rw [hp,hp2,hx];obtain ⟨f1,f2⟩:=ZB (isIdle c.pool false) S.srv;cases hk:S.srv.findIdx? (isIdle c.pool false) with
  | some k =>
   obtain ⟨s,hs,hs2⟩:=f1 k hk;rw [hs2];simp only [Option.map_some];congr 2;unfold cQuit cHand rSet rLeft;rw [Z3 S.wts hI.cli i c hi,Zb7 S.srv hI.ids k s c.client hs]
  | none =>
   rw [f2 hk];simp only;by_cases hz:x.sz≤(cntG (isPoolV c.pool) S.srv:Int)
   ·rw [if_pos hz,if_pos (.inl hz)];rfl
   ·rw [if_neg hz];by_cases hb:(S.srv.length:Int)<S.bud
    ·rw [if_pos hb,if_neg (by omega)];unfold rRoom;rw [if_pos hb];simp only [Option.map_some];congr 2;unfold cQuit cOpen rOpened rLeft;rw [Z3 S.wts hI.cli i c hi]
    ·rw [if_neg hb];obtain ⟨g1,g2⟩:=ZB (isIdle ⟨#[]⟩ true) S.srv;cases hj:S.srv.findIdx? (isIdle ⟨#[]⟩ true) with
     | none =>
      rw [g2 hj];simp only [Option.map_none];split
      ·rfl
      ·unfold rRoom;rw [if_neg hb,hj]
     | some j =>
      obtain ⟨s,hs,hs2⟩:=g1 j hj;rw [hs2];simp only;by_cases hbb:S.bud<(S.srv.length:Int)
      ·rw [if_pos hbb,if_pos (.inr hbb)];rfl
      ·rw [if_neg hbb,if_neg (by omega)];unfold rRoom;rw [if_neg hb,hj];simp only [Option.map_some];congr 2;unfold cQuit cOpen cShut rOpened rClosed rLeft;rw [Z3 S.wts hI.cli i c hi,Zal S.srv hI.ids j s hs]
end Lw
end Go.Proofs.YtcpikklofilkcaaGreat
