import Derived.Test.YtcpikklofilkcaaGreatNqS
import Derived.Deep.RegionHeld3
import Derived.Deep.DeepCutAuto
import Derived.BigQuiet
set_option maxRecDepth 100000
set_option maxHeartbeats 16000000
namespace Go.Proofs.YtcpikklofilkcaaGreat
open Go.RowKit
namespace Lw
open Co
theorem ZdX {u:World} {B B':Nat} {e e':TypeId} {sz sz' n n' g:Nat} {v v':Value} {xs xs':List Value} (h:u.ownsRow B e sz v n xs) (h':u.ownsRow B' e' sz' v' n' xs') (ht:e≠e') (hv:v.ownBlock=some g):v'.ownBlock≠some g:=by
 intro hv';obtain ⟨cc,fz,hh⟩:=Go.Lib.ownsRow_kind h g hv;obtain ⟨cc',fz',hh'⟩:=Go.Lib.ownsRow_kind h' g hv';rw [hh] at hh';simp at hh';exact ht hh'.2.1
theorem ZaG {u:World} {B:Nat} {e:TypeId} {sz n g:Nat} {v:Value} {xs:List Value} {cs:Array Value} {t:TypeId} (h:u.ownsRow B e sz v n xs) (hg:u.heap[g]?=some (.cells cs t (0,0))) (ht:e≠t):v.ownBlock≠some g:=by
 intro hv;obtain ⟨cc,fz,hh⟩:=Go.Lib.ownsRow_kind h g hv;rw [hg] at hh;simp at hh;exact ht hh.2.1.symm
def Nxt (F:Nat→Prop) (w w':World) (y:Nat):Prop:=(F y∨w.heap.size≤y)∧y<w'.heap.size
def Moved (w w':World) (gp:Nat) (S:Sta) (X:Aux) (F:Nat→Prop):Prop:=∃ F',DeskAt w' gp S X F'∧(∀ y,F' y→F y∨w.heap.size≤y)∧Chg F w w'
theorem Moved.refl {w:World} {gp:Nat} {S:Sta} {X:Aux} {F:Nat→Prop} (h:DeskAt w gp S X F):Moved w w gp S X F:=⟨F,h,fun _ hy=>.inl hy,Chg.refl _ _⟩
theorem Moved.trans {w w1 w2:World} {gp:Nat} {S1 S2:Sta} {X1 X2:Aux} {F:Nat→Prop} (h1:Moved w w1 gp S1 X1 F) (h2:∀ F1,DeskAt w1 gp S1 X1 F1→Moved w1 w2 gp S2 X2 F1):Moved w w2 gp S2 X2 F:=by
 obtain ⟨F1,hd,hF,hc⟩:=h1;obtain ⟨F2,hd2,hF2,hc2⟩:=h2 F1 hd;refine ⟨F2,hd2,fun y hy=>?_,hc.trans hc2 hF⟩;rcases hF2 y hy with h | h
 ·exact hF y h
 ·exact .inr (Nat.le_trans hc.size h)
theorem Moved.below {w w1 w2:World} {gp:Nat} {S:Sta} {X:Aux} {F:Nat→Prop} (h:Moved w w1 gp S X F) (hb:Below w1.heap.size w1 w2):Moved w w2 gp S X F:=
 h.trans (fun F1 hd=>⟨F1,hd.keep (G:=fun _=>False) (Chg.of_below hb) (fun _ _ h=>h),fun _ hy=>.inl hy,Chg.of_below hb⟩)
theorem Moved.desk {w w1:World} {gp:Nat} {S:Sta} {X:Aux} {F:Nat→Prop} (h:Moved w w1 gp S X F):∃ F1,DeskAt w1 gp S X F1:=let ⟨F1,hd,_⟩:=h;⟨F1,hd⟩
theorem Moved.step {w w1:World} {gp:Nat} {S:Sta} {X:Aux} {F:Nat→Prop} (h:Moved w w1 gp S X F):∃ F1,DeskAt w1 gp S X F1∧∀ w2 S2 X2,Moved w1 w2 gp S2 X2 F1→Moved w w2 gp S2 X2 F:=by
 obtain ⟨F1,hd,hF,hc⟩:=h;refine ⟨F1,hd,fun w2 S2 X2 h2=>?_⟩;obtain ⟨F2,hd2,hF2,hc2⟩:=h2;refine ⟨F2,hd2,fun y hy=>?_,hc.trans hc2 hF⟩;rcases hF2 y hy with h | h
 ·exact hF y h
 ·exact .inr (Nat.le_trans hc.size h)
theorem Moved.after {w w1 w2:World} {gp:Nat} {S:Sta} {X:Aux} {F:Nat→Prop} (hb:Below w.heap.size w w1) (h:Moved w1 w2 gp S X F):Moved w w2 gp S X F:=by
 obtain ⟨F1,hd,hF,hc⟩:=h;refine ⟨F1,hd,fun y hy=>?_,(Chg.of_below hb).trans hc (fun x hx=>.inl hx)⟩;rcases hF y hy with h | h
 ·exact .inl h
 ·exact .inr (Nat.le_trans hb.size h)
theorem Zbs {w w':World} {gp:Nat} {S:Sta} {X:Aux} {F:Nat→Prop} {po:Option Addr} {pc:Nat} {so:Option Addr} {sc:Nat} {wo:Option Addr} {wc:Nat} {yo:Option Addr} {yc:Nat} {ho:Option Addr} {hc B:Nat} (h:DeskX w gp S X F po pc so sc wo wc yo yc ho hc) (hg:F gp) (hlt:∀ x,F x→x<w.heap.size) (ss:List Srv) (so':Option Addr) (sc':Nat) (op:Int)
  (hbox:w'.heap[gp]?=some (bDesk S.bud po S.pools.length pc so' ss.length sc' wo S.wts.length wc op ⟨.slice yo S.plan.length yc,S.begun,S.back,X.hb,.slice ho X.hps.length hc⟩))
  (hown:w'.ownsRow B 74 4 (.slice so' ss.length sc') ss.length (flatV ss)) (hblk:∀ g,(Value.slice so' ss.length sc').ownBlock=some g→(Value.slice so S.srv.length sc).ownBlock=some g∨w.heap.size≤g)
  (hch:Chg (fun y=>y=gp∨(Value.slice so S.srv.length sc).ownBlock=some y) w w'):Moved w w' gp {S with srv:=ss} {X with op:=op} F:=by
 have hsz:∀ g,F g→Nxt F w w' g:=fun g hg=>⟨.inl hg,Nat.lt_of_lt_of_le (hlt g hg) hch.size⟩
 have hk:∀ {ty:TypeId} {sz n:Nat} {v:Value} {cs:List Value},Held w F ty sz v n cs→ty≠74→ty≠85→Held w' (Nxt F w w') ty sz v n cs:=by
  intro ty sz n v cs hh h1 h2;refine ⟨Zj hh.own (fun j hj=>hch.block j (hlt j (hh.blk j hj)) ?_),fun g hg=>hsz g (hh.blk g hg)⟩;rintro (e | e)
  ·exact ZaG hh.own h.box h2 (by rw [←e];exact hj)
  ·exact ZdX hh.own h.s.own h1 hj e
 refine ⟨Nxt F w w',⟨⟨po,pc,so',sc',wo,wc,yo,yc,ho,hc,hbox,hk h.p (by decide) (by decide),⟨Zi hown (Nat.zero_le _),fun g hg=>⟨?_,(hown.lt g hg).2⟩⟩,hk h.t (by decide) (by decide),hk h.l (by decide) (by decide),hk h.h (by decide) (by decide)⟩,hsz gp hg,fun x hx=>hx.2⟩,fun y hy=>hy.1,hch.mono ?_⟩
 ·rcases hblk g hg with e | e
  ·exact .inl (h.s.blk g e)
  ·exact .inr e
 ·rintro y (rfl | e)
  ·exact hg
  ·exact h.s.blk y e
theorem Zez {w w':World} {gp:Nat} {S:Sta} {X:Aux} {F:Nat→Prop} {po:Option Addr} {pc:Nat} {so:Option Addr} {sc:Nat} {wo:Option Addr} {wc:Nat} {yo:Option Addr} {yc:Nat} {ho:Option Addr} {hc B:Nat} (h:DeskX w gp S X F po pc so sc wo wc yo yc ho hc) (hg:F gp) (hlt:∀ x,F x→x<w.heap.size) (ws:List Wtr) (wo':Option Addr) (wc':Nat)
  (hbox:w'.heap[gp]?=some (bDesk S.bud po S.pools.length pc so S.srv.length sc wo' ws.length wc' X.op ⟨.slice yo S.plan.length yc,S.begun,S.back,X.hb,.slice ho X.hps.length hc⟩))
  (hown:w'.ownsRow B 76 2 (.slice wo' ws.length wc') ws.length (flatW ws)) (hblk:∀ g,(Value.slice wo' ws.length wc').ownBlock=some g→(Value.slice wo S.wts.length wc).ownBlock=some g∨w.heap.size≤g)
  (hch:Chg (fun y=>y=gp∨(Value.slice wo S.wts.length wc).ownBlock=some y) w w'):Moved w w' gp {S with wts:=ws} X F:=by
 have hsz:∀ g,F g→Nxt F w w' g:=fun g hg=>⟨.inl hg,Nat.lt_of_lt_of_le (hlt g hg) hch.size⟩
 have hk:∀ {ty:TypeId} {sz n:Nat} {v:Value} {cs:List Value},Held w F ty sz v n cs→ty≠76→ty≠85→Held w' (Nxt F w w') ty sz v n cs:=by
  intro ty sz n v cs hh h1 h2;refine ⟨Zj hh.own (fun j hj=>hch.block j (hlt j (hh.blk j hj)) ?_),fun g hg=>hsz g (hh.blk g hg)⟩;rintro (e | e)
  ·exact ZaG hh.own h.box h2 (by rw [←e];exact hj)
  ·exact ZdX hh.own h.t.own h1 hj e
 refine ⟨Nxt F w w',⟨⟨po,pc,so,sc,wo',wc',yo,yc,ho,hc,hbox,hk h.p (by decide) (by decide),hk h.s (by decide) (by decide),⟨Zi hown (Nat.zero_le _),fun g hg=>⟨?_,(hown.lt g hg).2⟩⟩,hk h.l (by decide) (by decide),hk h.h (by decide) (by decide)⟩,hsz gp hg,fun x hx=>hx.2⟩,fun y hy=>hy.1,hch.mono ?_⟩
 ·rcases hblk g hg with e | e
  ·exact .inl (h.t.blk g e)
  ·exact .inr e
 ·rintro y (rfl | e)
  ·exact hg
  ·exact h.t.blk y e
theorem dShut (gp:Nat) (id:Int) (S:Sta) (X:Aux) (F:Nat→Prop) (w:World) (h:DeskAt w gp S X F) (hq:S.srv.length≤1099511627776) :
  Calls Tryz.prog 112 #[.pointer (some ⟨gp,0,none⟩),.int .i64 id] w fun e w'=>(∃ x,e=.returned x)∧Moved w w' gp (cShut S id) X F:=by
 obtain ⟨po,pc,so,sc,wo,wc,yo,yc,ho,hc,hx⟩:=h.ex;refine (ZhW gp S.bud po _ pc so _ sc wo _ wc X.op _ id S.srv w hx.box (Zd hx.s.own) rfl hq).mono ?_;rintro e w' ⟨he,vo,vc,k1,k2,k3⟩;exact ⟨he,Zbs hx h.gp h.lt (S.srv.filter (keepId id)) vo vc X.op k1 k2 (fun g hg=>.inr (k2.lt g hg).1) (k3.mono (fun y hy=>.inl hy))⟩
theorem dQuit (gp:Nat) (c:Int) (S:Sta) (X:Aux) (F:Nat→Prop) (w:World) (h:DeskAt w gp S X F) (hq:S.wts.length≤1099511627776) :
  Calls Tryz.prog 109 #[.pointer (some ⟨gp,0,none⟩),.int .i64 c] w fun e w'=>(∃ x,e=.returned x)∧Moved w w' gp (cQuit S c) X F:=by
 obtain ⟨po,pc,so,sc,wo,wc,yo,yc,ho,hc,hx⟩:=h.ex;refine (ZhN gp S.bud po _ pc so _ sc wo _ wc X.op _ c S.wts w hx.box (Zd hx.t.own) rfl hq).mono ?_;rintro e w' ⟨he,vo,vc,k1,k2,k3⟩;exact ⟨he,Zez hx h.gp h.lt (S.wts.filter (keepC c)) vo vc k1 k2 (fun g hg=>.inr (k2.lt g hg).1) (k3.mono (fun y hy=>.inl hy))⟩
theorem dHand (gp:Nat) (id c:Int) (S:Sta) (X:Aux) (F:Nat→Prop) (w:World) (h:DeskAt w gp S X F) (hq:S.srv.length≤1099511627776) :
  Calls Tryz.prog 110 #[.pointer (some ⟨gp,0,none⟩),.int .i64 id,.int .i64 c] w fun e w'=>(∃ x,e=.returned x)∧Moved w w' gp (cHand S id c) X F:=by
 obtain ⟨po,pc,so,sc,wo,wc,yo,yc,ho,hc,hx⟩:=h.ex;refine (Ziu 0 gp S.bud po _ pc so _ sc wo _ wc X.op _ id c S.srv w hx.box hx.s.own rfl hq).mono ?_;rintro e w' ⟨he,k1,k2,k3⟩;have hl:(S.srv.map (handed id c)).length=S.srv.length:=List.length_map _;have:=Zbs (B:=0) hx h.gp h.lt (S.srv.map (handed id c)) so sc X.op (by rw [hl];exact k1) (by rw [hl];exact k2) (fun g hg=>.inl (by rw [hl] at hg;exact hg)) (k3.mono (fun y hy=>.inr hy));exact ⟨he,this⟩
theorem dJoin (gp:Nat) (c:Int) (nm:ByteArray) (S:Sta) (X:Aux) (F:Nat→Prop) (w:World) (h:DeskAt w gp S X F) (hq:S.wts.length+1≤1099511627776) :
  Calls Tryz.prog 106 #[.pointer (some ⟨gp,0,none⟩),.int .i64 c,.string nm] w fun e w'=>(∃ x,e=.returned x)∧Moved w w' gp (joined S c nm) X F:=by
 obtain ⟨po,pc,so,sc,wo,wc,yo,yc,ho,hc,hx⟩:=h.ex;refine (Zhm 0 gp S.bud po _ pc so _ sc wo _ wc X.op _ c nm S.wts w hx.box hx.t.own (Nat.zero_le _) hq).mono ?_;rintro e w' ⟨he,g,vc,k1,k2,k3,k4⟩;have hl:(S.wts++[(⟨c,nm⟩:Wtr)]).length=S.wts.length+1:=by simp
 have:=Zez (B:=0) hx h.gp h.lt (S.wts++[⟨c,nm⟩]) (some ⟨g,0,none⟩) vc (by rw [hl];exact k1) (by rw [hl];exact k2) (fun y hy=>by
  have e:g=y:=by simpa [Value.ownBlock] using hy
  rw [←e];exact k4) k3
 exact ⟨he,this⟩
theorem dOpen (gp:Nat) (x:Pl) (c:Int) (S:Sta) (X:Aux) (F:Nat→Prop) (w:World) (h:DeskAt w gp S X F) (hq:S.srv.length+1≤1099511627776) (ho:0≤X.op∧X.op<9223372036854775807) :
  Calls Tryz.prog 162 #[.pointer (some ⟨gp,0,none⟩),plA x,.int .i64 c] w fun e w'=>(∃ x,e=.returned x)∧Moved w w' gp (cOpen S X.op x c) {X with op:=X.op+1} F:=by
 obtain ⟨po,pc,so,sc,wo,wc,yo,yc,ho',hc,hx⟩:=h.ex;refine (Zhl 0 gp S.bud po _ pc so _ sc wo _ wc X.op _ x.nm x.sz x.wt x.fr c S.srv w hx.box hx.s.own (Nat.zero_le _) hq ho).mono ?_;rintro e w' ⟨he,g,vc,k1,k2,k3,k4⟩;have hl:(S.srv++[(⟨X.op+1,x.nm,x.fr,c⟩:Srv)]).length=S.srv.length+1:=by simp
 have:=Zbs (B:=0) hx h.gp h.lt (S.srv++[⟨X.op+1,x.nm,x.fr,c⟩]) (some ⟨g,0,none⟩) vc (X.op+1) (by rw [hl];exact k1) (by rw [hl];exact k2) (fun y hy=>by
  have e:g=y:=by simpa [Value.ownBlock] using hy
  rw [←e];exact k4) k3
 exact ⟨he,this⟩
theorem Zbc {l:List Srv} {p:Srv→Bool} (hid:∀ x∈l,x.id≠0):((orS (l.find? p)).id == 0)=(l.find? p).isNone:=by
 cases h:l.find? p with
 | none=>rfl
 | some s =>
  have:=hid s (List.mem_of_find?_eq_some h);simpa [orS] using this
theorem DeskX.nx {w w':World} {gp:Nat} {S:Sta} {X:Aux} {F:Nat→Prop} {po:Option Addr} {pc:Nat} {so:Option Addr} {sc:Nat} {wo:Option Addr} {wc:Nat} {yo:Option Addr} {yc:Nat} {ho:Option Addr} {hc:Nat} (h:DeskX w gp S X F po pc so sc wo wc yo yc ho hc) (hl:gp<w.heap.size) (hb:Below w.heap.size w w'):w'.heap[gp]?=some (bDesk S.bud po S.pools.length pc so S.srv.length sc wo S.wts.length wc X.op ⟨.slice yo S.plan.length yc,S.begun,S.back,X.hb,.slice ho X.hps.length hc⟩):=
 (hb.block gp hl).trans h.box
def cRoom (S:Sta):Option Sta:=if (S.srv.length:Int)<S.bud then some S else match S.srv.find? (isCliV 0) with | none=>none | some s=>if S.bud<(S.srv.length:Int) then none else some (cShut S s.id)
theorem dRoom (gp:Nat) (S:Sta) (X:Aux) (F:Nat→Prop) (w:World) (h:DeskAt w gp S X F) (hid:∀ x∈S.srv,x.id≠0) (hq:S.srv.length≤1099511627776) :
  Calls Tryz.prog 161 #[.pointer (some ⟨gp,0,none⟩)] w fun e w'=>e=.returned (.bool (cRoom S).isSome)∧Moved w w' gp ((cRoom S).getD S) X F:=by
 obtain ⟨po,pc,so,sc,wo,wc,yo,yc,ho,hc,hx⟩:=h.ex;have hgplt:gp<w.heap.size:=h.lt gp h.gp;obtain ⟨g0,g1,g2,g3,g4,gz⟩:=blk5d hx.box;have HH:=hideIt h;have HX:=hideIt hx;obtain ⟨n,hn⟩:∃ n,S.srv.length=n:=⟨_,rfl⟩;obtain ⟨bud,hbud⟩:∃ b,S.bud=b:=⟨_,rfl⟩;rw [hn] at g2 hq;rw [hbud] at g0;have HN:=hideIt (And.intro hn hbud);have HID:=hideIt hid;clear h hx hn hbud hid;by_cases hlt:(n:Int)<bud
 ·have HR:Hid (cRoom S=some S):=by
   show _=_;unfold cRoom;rw [if_pos (by rw [HN.out.1,HN.out.2];exact hlt)]
  go_enter Tryz.func161,Tryz.ntmps161
  go_upto_region 1 with fail
  go_quiet (fail)
  go_wp2_with fail
  go_ret
  refine ⟨by rw [HR.out];rfl,?_⟩;rw [HR.out];exact (Moved.refl HH.out).below (below_drewN (Below.refl _ _) _)
 ·go_enter Tryz.func161,Tryz.ntmps161
  go_upto_region 1 with fail
  go_quiet (fail)
  obtain ⟨wd,hwd⟩:∃ wd,w.drewN nq=wd:=⟨_,rfl⟩;have hbd:Below w.heap.size w wd:=by rw [←hwd];exact below_drewN (Below.refl _ _) _
  rw [hwd];have HBD:=hideIt hbd;have hd1:=HX.out.nx hgplt hbd;rw [HN.out.1,HN.out.2] at hd1;have HI:=hideIt (cFirstIdle so n sc S.srv wd (by have:=Zd HX.out.s.own;rw [HN.out.1] at this;exact this.nx hbd) HN.out.1 (by unfold maxLen;omega));clear g0 g1 g2 g3 g4 gz hwd hbd;obtain ⟨g0,g1,g2,g3,g4,gz⟩:=blk5d hd1;clear hd1;go_wp2_with fail
  refine HI.out.mono ?_;rintro e w1 ⟨rfl,hb1⟩;have HZ:=hideIt (Zbc (p:=isCliV 0) HID.out);obtain ⟨⟨x0,x1,x2,x3⟩,hx0⟩:∃ x,orS (S.srv.find? (isCliV 0))=x:=⟨_,rfl⟩;rw [hx0] at HZ ⊢;simp only at HZ;have HX0:=hideIt hx0;obtain ⟨W1,hW1⟩:∃ W1,W1=w1.alloc (.cells #[.int .i64 x0,.string x1,.int .i64 x2,.int .i64 x3] 74):=⟨_,rfl⟩;have hbW:Below w.heap.size w W1:=by rw [hW1];exact Za (Za HBD.out hb1) (Zb _ _)
  have KW:Hid (W1=w1.alloc (.cells #[.int .i64 x0,.string x1,.int .i64 x2,.int .i64 x3] 74)∧W1.heap[w1.heap.size]?=some (.cells #[.int .i64 x0,.string x1,.int .i64 x2,.int .i64 x3] 74)∧Below w.heap.size w W1):=⟨hW1,by rw [hW1];exact Zc _ _ rfl,hbW⟩;have hd1:=HX.out.nx hgplt hbW;rw [HN.out.1,HN.out.2] at hd1;clear hx0 hb1 hW1 hbW HI g0 g1 g2 g3 g4 gz;go_upto_region 4 with fail
  rw [←KW.out.1];obtain ⟨g0,g1,g2,g3,g4,gz⟩:=blk5d hd1;obtain ⟨y0,y1,y2,y3,yz⟩:=blk4d KW.out.2.1;clear hd1;cases hdg:decide (bud<(n:Int)) with
  | true =>
   have HR:Hid (cRoom S=none):=by
    show _=_;have hb:bud<(n:Int):=of_decide_eq_true hdg;unfold cRoom;rw [if_neg (by rw [HN.out.1,HN.out.2];omega)];cases S.srv.find? (isCliV 0) with
    | none=>rfl
    | some s=>simp only;rw [if_pos (by rw [HN.out.1,HN.out.2];exact hb)]
   go_quiet (fail)
   go_wp2_with fail
   go_ret
   refine ⟨by rw [HR.out];rfl,?_⟩;rw [HR.out];exact (Moved.refl HH.out).below (below_drewN KW.out.2.2 _)
  | false =>
   cases hz:(x0 == 0) with
   | true =>
    have HR:Hid (cRoom S=none):=by
     show _=_;unfold cRoom;rw [if_neg (by rw [HN.out.1,HN.out.2];omega)];cases hf:S.srv.find? (isCliV 0) with
     | none=>rfl
     | some s=>have:=HZ.out;rw [hz,hf] at this;simp at this
    go_quiet (fail)
    go_wp2_with fail
    go_ret
    refine ⟨by rw [HR.out];rfl,?_⟩;rw [HR.out];exact (Moved.refl HH.out).below (below_drewN KW.out.2.2 _)
   | false =>
    have HR:Hid (cRoom S=some (cShut S x0)):=by
     show _=_;have hb:¬bud<(n:Int):=of_decide_eq_false hdg;unfold cRoom;rw [if_neg (by rw [HN.out.1,HN.out.2];omega)];cases hf:S.srv.find? (isCliV 0) with
     | none=>have:=HZ.out;rw [hz,hf] at this;simp at this
     | some s =>
      have:=HX0.out;rw [hf] at this;simp only;rw [if_neg (by rw [HN.out.1,HN.out.2];exact hb),show s.id=x0 by rw [show s=⟨x0,x1,x2,x3⟩ from this]]
    go_quiet (fail)
    obtain ⟨W2,hW2⟩:∃ W2,W1.drewN nq=W2:=⟨_,rfl⟩;have hb2:Below W1.heap.size W1 W2:=by rw [←hW2];exact below_drewN (Below.refl _ _) _
    rw [hW2];have KM:Hid (Moved w W2 gp S X F):=((Moved.refl HH.out).below KW.out.2.2).below hb2;have HY:Hid (W2.heap[w1.heap.size]?=some (.cells #[.int .i64 x0,.string x1,.int .i64 x2,.int .i64 x3] 74)):=(hb2.block _ (Array.getElem?_eq_some_iff.1 KW.out.2.1).1).trans KW.out.2.1;clear hW2 hb2 g0 g1 g2 g3 g4 gz y0 y1 y2 y3 yz;obtain ⟨y0,y1,y2,y3,yz⟩:=blk4d HY.out;obtain ⟨F1,hd,hnx⟩:=KM.out.step;have HS:=hideIt (dShut gp x0 S X F1 W2 hd (by rw [HN.out.1];exact hq));have KM2:=hideIt (hnx:∀ w2 S2 X2,Moved W2 w2 gp S2 X2 F1→Moved w w2 gp S2 X2 F);clear hd hnx;go_wp2_with fail
    refine HS.out.mono ?_;rintro e w3 ⟨⟨x,rfl⟩,hm⟩;have KF:=hideIt (KM2.out w3 _ _ hm);clear hm;go_wp2_with fail
    go_ret
    refine ⟨by rw [HR.out];rfl,?_⟩;rw [HR.out];exact KF.out
theorem dBusy (gp:Nat) (c:Int) (S:Sta) (X:Aux) (F:Nat→Prop) (w:World) (h:DeskAt w gp S X F) (hid:∀ x∈S.srv,x.id≠0) (hq:S.srv.length≤1099511627776) (hq2:S.wts.length≤1099511627776) :
  Calls Tryz.prog 104 #[.pointer (some ⟨gp,0,none⟩),.int .i64 c] w fun e w'=>e=.returned (.bool ((S.srv.find? (isCliV c)).isSome||(S.wts.find? (isCliW c)).isSome))∧Below w.heap.size w w':=by
 obtain ⟨po,pc,so,sc,wo,wc,yo,yc,ho,hc,hx⟩:=h.ex;have hgplt:gp<w.heap.size:=h.lt gp h.gp;obtain ⟨g0,g1,g2,g3,g4,gz⟩:=blk5d hx.box;have HX:=hideIt hx;have HI:=hideIt (cHeldBy so _ sc c S.srv w (Zd hx.s.own) rfl (by unfold maxLen;omega));have HZ:=hideIt (Zbc (p:=isCliV c) hid);obtain ⟨⟨x0,x1,x2,x3⟩,hx0⟩:∃ x,orS (S.srv.find? (isCliV c))=x:=⟨_,rfl⟩;rw [hx0] at HI HZ;simp only at HZ;clear h hx hid hx0;go_enter Tryz.func104,Tryz.ntmps104
 go_wp2_with fail
 refine HI.out.mono ?_;rintro e w1 ⟨rfl,hb1⟩;obtain ⟨W1,hW1⟩:∃ W1,W1=w1.alloc (.cells #[.int .i64 x0,.string x1,.int .i64 x2,.int .i64 x3] 74):=⟨_,rfl⟩;have hbW:Below w.heap.size w W1:=by rw [hW1];exact Za hb1 (Zb _ _)
 have KW:Hid (W1=w1.alloc (.cells #[.int .i64 x0,.string x1,.int .i64 x2,.int .i64 x3] 74)∧W1.heap[w1.heap.size]?=some (.cells #[.int .i64 x0,.string x1,.int .i64 x2,.int .i64 x3] 74)∧Below w.heap.size w W1):=⟨hW1,by rw [hW1];exact Zc _ _ rfl,hbW⟩;have HWS:=hideIt (cWaits wo _ wc c S.wts W1 ((Zd HX.out.t.own).nx hbW) rfl (by unfold maxLen;omega));have hd1:=HX.out.nx hgplt hbW;clear hb1 hW1 hbW HI g0 g1 g2 g3 g4 gz;go_upto_region 2 with fail
 rw [←KW.out.1];obtain ⟨g0,g1,g2,g3,g4,gz⟩:=blk5d hd1;obtain ⟨y0,y1,y2,y3,yz⟩:=blk4d KW.out.2.1;clear hd1;cases hz:(x0 != 0) with
 | true =>
  have HR:Hid ((S.srv.find? (isCliV c)).isSome=true):=by
   show _=_;have h0:(x0 == 0)=false:=by simpa [bne] using hz
   have:=HZ.out;rw [h0] at this;cases hf:S.srv.find? (isCliV c) with
   | none=>rw [hf] at this;simp at this
   | some s=>rfl
  go_wp2_with fail
  go_ret
  exact ⟨by rw [HR.out];rfl,KW.out.2.2⟩
 | false =>
  have HR:Hid ((S.srv.find? (isCliV c)).isSome=false):=by
   show _=_;have h0:(x0 == 0)=true:=by simpa [bne] using hz
   have:=HZ.out;rw [h0] at this;cases hf:S.srv.find? (isCliV c) with
   | none=>rfl
   | some s=>rw [hf] at this;simp at this
  go_wp2_with fail
  refine HWS.out.mono ?_;rintro e w2 ⟨rfl,h2⟩;obtain rfl:=h2.symm;go_wp2_with fail
  go_ret
  exact ⟨by rw [HR.out];simp,KW.out.2.2⟩
structure Fnd (W:World) (x:Pl) (g:Nat) (wz:World):Prop where
 new:W.heap.size≤g
 box:wz.heap[g]?=some (bPl x)
 bel:Below W.heap.size W wz
theorem ZjB {W w9:World} {x:Pl} (h:Below W.heap.size W w9):Fnd W x w9.heap.size (w9.alloc (bPl x)):=⟨h.size,Zc _ _ rfl,h.alloc h.size _⟩
theorem ZjA {W w9:World} {x z:Pl} (h:Below W.heap.size W w9) (hz:w9.heap[W.heap.size]?=some (bPl z)):Fnd W x W.heap.size ((((w9.setCell ⟨W.heap.size,0,none⟩ (.string x.nm)).setCell ⟨W.heap.size,1,none⟩ (.int .i64 x.sz)).setCell ⟨W.heap.size,2,none⟩ (.int .i64 x.wt)).setCell ⟨W.heap.size,3,none⟩ (.int .i64 x.fr)):=
 ⟨Nat.le_refl _,Zg _ _ _ _ _ _ (Zg _ _ _ _ _ _ (Zg _ _ _ _ _ _ (Zg _ _ _ _ _ _ hz))),(((h.setCell (Nat.le_refl _) _).setCell (Nat.le_refl _) _).setCell (Nat.le_refl _) _).setCell (Nat.le_refl _) _⟩
theorem Zda (o:Option Pl):findV o=.tuple #[plA (o.getD zPl),.bool o.isSome]:=by cases o <;> rfl
abbrev bSv (i:Int) (p:ByteArray) (f c:Int):Obj:=.cells #[.int .i64 i,.string p,.int .i64 f,.int .i64 c] 74
abbrev bWt (c:Int) (p:ByteArray):Obj:=.cells #[.int .i64 c,.string p] 76
theorem dSurplus (gp:Nat) (i0:Int) (pn:ByteArray) (f0 cl:Int) (S:Sta) (X:Aux) (F:Nat→Prop) (w:World) (h:DeskAt w gp S X F) (hq:S.srv.length≤1099511627776) (hq1:S.pools.length≤1099511627776) :
  Calls Tryz.prog 111 #[.pointer (some ⟨gp,0,none⟩),.agg #[.int .i64 i0,.string pn,.int .i64 f0,.int .i64 cl]] w fun e w'=>e=.returned (.bool (isSur S ⟨i0,pn,f0,cl⟩))∧Below w.heap.size w w':=by
 obtain ⟨po,pc,so,sc,wo,wc,yo,yc,ho,hc,hx⟩:=h.ex;have hgplt:gp<w.heap.size:=h.lt gp h.gp;obtain ⟨n1,hn1⟩:∃ n,S.pools.length=n:=⟨_,rfl⟩;obtain ⟨n,hn⟩:∃ n,S.srv.length=n:=⟨_,rfl⟩;obtain ⟨bud,hbud⟩:∃ b,S.bud=b:=⟨_,rfl⟩;rw [hn1] at hq1;rw [hn] at hq;have HN:Hid (S.pools.length=n1∧S.srv.length=n∧S.bud=bud):=⟨hn1,hn,hbud⟩;have HX:=hideIt hx;have HH:=hideIt h;obtain ⟨W0,hW0⟩:∃ W0,W0=w.alloc (bSv i0 pn f0 cl):=⟨_,rfl⟩;have hbW:Below w.heap.size w W0:=by rw [hW0];exact Zb _ _
 have K0:Hid (W0=w.alloc (bSv i0 pn f0 cl)∧W0.heap[w.heap.size]?=some (bSv i0 pn f0 cl)∧Below w.heap.size w W0∧w.heap.size<W0.heap.size):=⟨hW0,by rw [hW0];exact Zc _ _ rfl,hbW,by rw [hW0];simp⟩;have hgp0:gp<W0.heap.size:=Nat.lt_of_lt_of_le hgplt hbW.size;have hw0:w.heap.size<W0.heap.size:=K0.out.2.2.2;have hd0:=HX.out.nx hgplt hbW;rw [HN.out.1,HN.out.2.1,HN.out.2.2] at hd0;obtain ⟨⟨⟨xn,xs,xw,xf⟩,okb⟩,hfe⟩:∃ y:Pl×Bool,((S.pools.find? (isNameP pn)).getD zPl,(S.pools.find? (isNameP pn)).isSome)=y:=⟨_,rfl⟩;have HFE:Hid ((S.pools.find? (isNameP pn)).getD zPl=⟨xn,xs,xw,xf⟩∧(S.pools.find? (isNameP pn)).isSome=okb):=⟨congrArg Prod.fst hfe,congrArg Prod.snd hfe⟩;have HF:Hid (∀ u,Below W0.heap.size W0 u→Calls Tryz.prog 105 #[.slice po n1 pc,.string pn] u fun e w'=>e=.returned (.tuple #[.agg #[.string xn,.int .i64 xs,.int .i64 xw,.int .i64 xf],.bool okb])∧Below u.heap.size u w'):=by
  intro u hu;have hr:=Zd HX.out.p.own;rw [HN.out.1] at hr;refine (cFind po n1 pc pn S.pools u ((hr.nx hbW).nx hu) HN.out.1 (by unfold maxLen;omega)).mono ?_;rintro e w' ⟨rfl,hb⟩;refine ⟨?_,hb⟩;rw [Zda,HFE.out.1,HFE.out.2]
 have HM:Hid (∀ u,Below w.heap.size w u→u.heap[gp]?=some (bDesk bud po n1 pc so n sc wo S.wts.length wc X.op ⟨.slice yo S.plan.length yc,S.begun,S.back,X.hb,.slice ho X.hps.length hc⟩)):=by
  intro u hu;have:=HX.out.nx hgplt hu;rw [HN.out.1,HN.out.2.1,HN.out.2.2] at this;exact this
 have HC:Hid (∀ u nm',Below w.heap.size w u→Calls Tryz.prog 123 #[.slice so n sc,.string nm'] u fun e w'=>e=.returned (.int .i64 (cntG (isPoolV nm') S.srv:Int))∧Below u.heap.size u w'):=by
  intro u nm' hu;have hr:=Zd HX.out.s.own;rw [HN.out.2.1] at hr;exact cCountOf so n sc nm' S.srv u (hr.nx hu) HN.out.2.1 (by omega)
 have HSR:Hid (isSur S ⟨i0,pn,f0,cl⟩=(!okb||(!decide (f0=xf)||decide (xs<(cntG (isPoolV pn) S.srv:Int))||decide (bud<(n:Int))))):=by
  show _=_;unfold isSur;simp only;rw [←HFE.out.2,HN.out.2.1,HN.out.2.2];cases hf:S.pools.find? (isNameP pn) with
  | none=>rfl
  | some y =>
   have:y=⟨xn,xs,xw,xf⟩:=by have:=HFE.out.1;rw [hf] at this;exact this
   rw [this];simp
 obtain ⟨g0,g1,g2,g3,g4,gz⟩:=blk5d hd0;obtain ⟨b0,b1,b2,b3,bz⟩:=blk4d K0.out.2.1;have n1':=World.new_ne W0 _ g1;have n2':=World.new_ne W0 _ b1;clear h hx hn1 hn hbud hW0 hbW hd0 hfe;go_enter Tryz.func111,Tryz.ntmps111
 go_upto_region 1 with fail
 rw [←K0.out.1];go_cut [5,6] (fun p ok wx=>ok=.bool okb∧∃ (g:Nat) (wz:World),p=.pointer (some ⟨g,0,none⟩)∧Hid (Fnd W0 ⟨xn,xs,xw,xf⟩ g wz)∧wz=wx)
 case first =>
  go_region_held3 (fun w'=>w'.cell? ⟨gp,1,none⟩=some (.slice po n1 pc)∧w'.cell? ⟨w.heap.size,1,none⟩=some (.string pn)) (go_keep)
   ((go_at_call 105;refine (HF.out _ (by first | exact (Below.refl _ _).drew | exact (Below.refl _ _).drew.alloc (Nat.le_refl _) _)).mono ?_;rintro e w2 ⟨rfl,hb2⟩;have HB2:Hid (Below W0.heap.size W0 w2):=(by first | exact Za (Below.refl _ _).drew hb2 | exact Za ((Below.refl _ _).drew.alloc (Nat.le_refl _) _) hb2);have q1:=(HB2.out.cell (p:=⟨gp,1,none⟩) hgp0).trans g1;have q2:=(HB2.out.cell (p:=⟨w.heap.size,1,none⟩) hw0).trans b1;have r1:=World.new_ne w2 _ q1;have r2:=World.new_ne w2 _ q2;first | (have HBX:Hid (w2.heap[W0.heap.size]?=some (bPl zPl)):=(hb2.block W0.heap.size (by simp)).trans (Zc W0.drew (bPl zPl) rfl);obtain ⟨k0,k1,k2,k3,kz⟩:=blk4d HBX.out) | skip;clear hb2))
  all_goals
   go_wp2_with fail
   go_meet
   first
   | exact ⟨rfl,_,_,rfl,ZjB HB2.out,rfl⟩
   | exact ⟨rfl,_,_,rfl,ZjA HB2.out HBX.out,rfl⟩
 case rest =>
  obtain ⟨rfl,g,wz,rfl,HFN,rfl⟩:=hcut;have HBZ:Hid (Below w.heap.size w wz):=Za K0.out.2.2.1 HFN.out.bel;have hsb:wz.heap[w.heap.size]?=some (bSv i0 pn f0 cl):=(HFN.out.bel.block _ hw0).trans K0.out.2.1;have hdz:=HM.out wz HBZ.out;clear g0 g1 g2 g3 g4 gz b0 b1 b2 b3 bz n1' n2';obtain ⟨g0,g1,g2,g3,g4,gz⟩:=blk5d hdz;obtain ⟨b0,b1,b2,b3,bz⟩:=blk4d hsb;obtain ⟨p0,p1,p2,p3,pz⟩:=blk4d HFN.out.box;have HSB:=hideIt hsb;clear hdz hsb;cases okb with
  | false =>
   go_wp2_with fail
   go_ret
   exact ⟨by rw [HSR.out];rfl,HBZ.out⟩
  | true =>
   cases hfr:(f0 != xf) with
   | true =>
    have HE:Hid (decide (f0=xf)=false):=by
     show _=_;simpa using hfr
    go_wp2_with fail
    go_ret
    exact ⟨by rw [HSR.out,HE.out];rfl,HBZ.out⟩
   | false =>
    have HE:Hid (decide (f0=xf)=true):=by
     show _=_;simpa using hfr
    have n1':=World.new_ne wz _ g2;go_upto_region 4 with fail
    obtain ⟨q,hqq⟩:∃ q,cntG (isPoolV pn) S.srv=q:=⟨_,rfl⟩;have HQ:Hid (cntG (isPoolV pn) S.srv=q∧q≤n):=⟨hqq,by rw [←hqq,←HN.out.2.1];exact List.length_filter_le _ _⟩;have hqn:q≤n:=HQ.out.2;clear hqq;go_cut [36] (fun v wx=>v=.bool (decide (xs<(q:Int)))∧∃ wy,Hid (Below wz.heap.size wz wy)∧wy=wx)
    case first =>
     go_region_held3 (fun w'=>w'.cell? ⟨gp,2,none⟩=some (.slice so n sc)∧w'.cell? ⟨w.heap.size,1,none⟩=some (.string pn)∧w'.cell? ⟨g,1,none⟩=some (.int .i64 xs)) (go_keep)
      ((go_at_call 123;refine (HC.out _ pn (Za HBZ.out ((Below.refl _ _).drew))).mono ?_;rintro e w5 ⟨rfl,hb5⟩;rw [HQ.out.1];have HB5:Hid (Below wz.heap.size wz w5):=Za (Below.refl _ _).drew hb5;have q1:=(HB5.out.cell (p:=⟨gp,2,none⟩) (Nat.lt_of_lt_of_le hgplt HBZ.out.size)).trans g2;have q2:=(HB5.out.cell (p:=⟨w.heap.size,1,none⟩) (Array.getElem?_eq_some_iff.1 HSB.out).1).trans b1;have q3:=(HB5.out.cell (p:=⟨g,1,none⟩) (Array.getElem?_eq_some_iff.1 HFN.out.box).1).trans p1;clear hb5))
     all_goals
      go_wp2_with fail
      go_meet
      exact ⟨rfl,_,HB5.out,rfl⟩
    case rest =>
     obtain ⟨rfl,wy,HB5,rfl⟩:=hcut;have hbY:=Za HBZ.out HB5.out;have HBY:=hideIt hbY;have hdy:=HM.out wy hbY;clear g0 g1 g2 g3 g4 gz b0 b1 b2 b3 bz p0 p1 p2 p3 pz n1' hbY;obtain ⟨g0,g1,g2,g3,g4,gz⟩:=blk5d hdy;clear hdy;cases hcn:decide (xs<(q:Int)) with
     | true =>
      go_wp2_with fail
      go_ret
      exact ⟨by rw [HSR.out,HE.out,HQ.out.1,hcn];rfl,HBY.out⟩
     | false =>
      go_upto_region 6 with fail
      go_quiet (fail)
      go_wp2_with fail
      go_ret
      refine ⟨?_,below_drewN HBY.out _⟩;rw [HSR.out,HE.out,HQ.out.1,hcn];simp
end Lw
end Go.Proofs.YtcpikklofilkcaaGreat
