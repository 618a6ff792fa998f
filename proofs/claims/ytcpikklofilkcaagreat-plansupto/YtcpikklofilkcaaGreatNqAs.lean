import Derived.Test.YtcpikklofilkcaaGreatNqX
set_option maxRecDepth 100000
set_option maxHeartbeats 16000000
namespace Go.Proofs.YtcpikklofilkcaaGreat
open Go.RowKit
namespace Lw
open Co
structure Run (w:World) (gx gp go:Nat) (D:Sta) (X:Aux) (S:Sta) (nx:Int) (Y:Int×List Pl) (Fp F:Nat→Prop) (u:Stv) (ho:Option Addr) (hc:Nat) (q1 q2 q4:Nat):Prop where
 pr:w.heap[gx]?=some (bPair (.pointer (some ⟨gp,0,none⟩)) S.bud (.slice u.po S.pools.length u.pc) (.slice u.so S.srv.length u.sc) (.slice u.wo S.wts.length u.wc) (.slice u.tqo S.plan.length u.tc) S.begun S.back nx Y.1 (.slice ho Y.2.length hc))
 desk:DeskAt w gp D X Fp
 ref:WdAt w S u Y ho hc
 own:OwnAt w go F q1 q2 q2 q4
 dx:¬F gx
 dxp:¬Fp gx
 dp:∀ y,Fp y→¬F y
 dr:∀ g,Blkh S u Y ho hc g→¬F g
 drp:∀ g,Blkh S u Y ho hc g→¬Fp g
 drx:∀ g,Blkh S u Y ho hc g→g≠gx
theorem Run.lt {w:World} {gx gp go:Nat} {D:Sta} {X:Aux} {S:Sta} {nx:Int} {Y:Int×List Pl} {Fp F:Nat→Prop} {u:Stv} {ho:Option Addr} {hc q1 q2 q4:Nat} (h:Run w gx gp go D X S nx Y Fp F u ho hc q1 q2 q4):gx<w.heap.size:=(Array.getElem?_eq_some_iff.1 h.pr).1
theorem Run.below {w w':World} {gx gp go:Nat} {D:Sta} {X:Aux} {S:Sta} {nx:Int} {Y:Int×List Pl} {Fp F:Nat→Prop} {u:Stv} {ho:Option Addr} {hc q1 q2 q4:Nat} (h:Run w gx gp go D X S nx Y Fp F u ho hc q1 q2 q4) (hb:Below w.heap.size w w'):Run w' gx gp go D X S nx Y Fp F u ho hc q1 q2 q4:=
 ⟨(hb.block gx h.lt).trans h.pr,h.desk.keep (G:=fun _=>False) (Chg.of_below hb) (fun _ _ h=>h),h.ref.nx hb,h.own.keep (G:=fun _=>False) (Chg.of_below hb) (fun _ _ h=>h),h.dx,h.dxp,h.dp,h.dr,h.drp,h.drx⟩
theorem Run.moved {w w':World} {gx gp go:Nat} {D:Sta} {X:Aux} {S:Sta} {nx:Int} {Y:Int×List Pl} {Fp F:Nat→Prop} {u:Stv} {ho:Option Addr} {hc q1 q2 q4:Nat} (h:Run w gx gp go D X S nx Y Fp F u ho hc q1 q2 q4) {D':Sta} {X':Aux} (hm:Moved w w' gp D' X' Fp) :
  ∃ Fp',Run w' gx gp go D' X' S nx Y Fp' F u ho hc q1 q2 q4∧∀ y,Fp' y→Fp y∨w.heap.size≤y:=by
 obtain ⟨Fp',hd,hF,hch⟩:=hm;refine ⟨Fp',⟨(hch.block gx h.lt h.dxp).trans h.pr,hd,h.ref.keep hch h.drp,h.own.keep hch (fun x hx hp=>h.dp x hp hx),h.dx,fun hx=>?_,fun y hy hf=>?_,h.dr,fun g hg hp=>?_,h.drx⟩,hF⟩
 ·rcases hF gx hx with hx | hx
  ·exact h.dxp hx
  ·have:=h.lt;omega
 ·rcases hF y hy with hx | hx
  ·exact h.dp y hx hf
  ·have:=h.own.lt y hf;omega
 ·rcases hF g hp with hx | hx
  ·exact h.drp g hg hx
  ·have:=h.ref.lt g hg;omega
theorem Run.seen {w:World} {gx gp go:Nat} {X:Aux} {S:Sta} {nx:Int} {Y:Int×List Pl} {Fp F:Nat→Prop} {u:Stv} {ho:Option Addr} {hc q1 q2 q4:Nat} (h:Run w gx gp go S X S nx Y Fp F u ho hc q1 q2 q4):Seen w gx gp go S X Fp F u q1 q2 q4:=
 ⟨⟨nx,Y.1,_,h.pr⟩,h.desk,h.ref.sta,fun g hg=>h.ref.lt g (.inl hg),h.own,h.dx,h.dp,fun g hg=>h.dr g (.inl hg)⟩
theorem Run.looked {w w':World} {gx gp go:Nat} {D:Sta} {X:Aux} {S:Sta} {nx:Int} {Y:Int×List Pl} {Fp F F':Nat→Prop} {u:Stv} {ho:Option Addr} {hc q1 q2 q4 r1 r2 r4:Nat} (h:Run w gx gp go D X S nx Y Fp F u ho hc q1 q2 q4) (hch:Chg F w w') (ho':OwnAt w' go F' r1 r2 r2 r4) (hF:∀ y,F' y→F y∨w.heap.size≤y):Run w' gx gp go D X S nx Y Fp F' u ho hc r1 r2 r4:=by
 refine ⟨(hch.block gx h.lt h.dx).trans h.pr,h.desk.keep hch h.dp,h.ref.keep hch h.dr,ho',fun hx=>?_,h.dxp,fun y hy hf=>?_,fun g hg hf=>?_,h.drp,h.drx⟩
 ·rcases hF gx hx with hx | hx
  ·exact h.dx hx
  ·have:=h.lt;omega
 ·rcases hF y hf with hx | hx
  ·exact h.dp y hy hx
  ·have:=h.desk.lt y hy;omega
 ·rcases hF g hf with hx | hx
  ·exact h.dr g hg hx
  ·have:=h.ref.lt g hg;omega
abbrev stw (w:World) (g:Nat) (v0 v1 v2 v3 v4 v5 v6 v7 v8 v9:Value):World:=((((((((((w.setCell ⟨g,1,none⟩ v0).setCell ⟨g,2,none⟩ v1).setCell ⟨g,3,none⟩ v2).setCell ⟨g,4,none⟩ v3).setCell ⟨g,5,none⟩ v4).setCell ⟨g,6,none⟩ v5).setCell ⟨g,7,none⟩ v6).setCell ⟨g,8,none⟩ v7).setCell ⟨g,9,none⟩ v8).setCell ⟨g,10,none⟩ v9)
theorem Zaw (w:World) (g:Nat) (v0 v1 v2 v3 v4 v5 v6 v7 v8 v9:Value):Chg (fun y=>y=g) w (stw w g v0 v1 v2 v3 v4 v5 v6 v7 v8 v9):=by
 have hs:∀ (u:World) (a:Nat) (v:Value),Chg (fun y=>y=g) u (u.setCell ⟨g,a,none⟩ v):=fun u a v=>Chg.set (F:=fun y=>y=g) u g a v rfl
 have ht:∀ {a b c:World},Chg (fun y=>y=g) a b→Chg (fun y=>y=g) b c→Chg (fun y=>y=g) a c:=fun h k=>h.trans k (fun _ hx=>.inl hx)
 exact ht (ht (ht (ht (ht (ht (ht (ht (ht (hs _ _ _) (hs _ _ _)) (hs _ _ _)) (hs _ _ _)) (hs _ _ _)) (hs _ _ _)) (hs _ _ _)) (hs _ _ _)) (hs _ _ _)) (hs _ _ _)
theorem Zj2 {w:World} {g:Nat} {c0 c1 c2 c3 c4 c5 c6 c7 c8 c9 c10:Value} {t:TypeId} (h:w.heap[g]?=some (.cells #[c0,c1,c2,c3,c4,c5,c6,c7,c8,c9,c10] t (0,0))) (v:Value):(w.setCell ⟨g,1,none⟩ v).heap[g]?=some (.cells #[c0,v,c2,c3,c4,c5,c6,c7,c8,c9,c10] t (0,0)):=Zg _ _ _ _ _ _ h
theorem ZjZ {w:World} {g:Nat} {c0 c1 c2 c3 c4 c5 c6 c7 c8 c9 c10:Value} {t:TypeId} (h:w.heap[g]?=some (.cells #[c0,c1,c2,c3,c4,c5,c6,c7,c8,c9,c10] t (0,0))) (v:Value):(w.setCell ⟨g,2,none⟩ v).heap[g]?=some (.cells #[c0,c1,v,c3,c4,c5,c6,c7,c8,c9,c10] t (0,0)):=Zg _ _ _ _ _ _ h
theorem Zkb {w:World} {g:Nat} {c0 c1 c2 c3 c4 c5 c6 c7 c8 c9 c10:Value} {t:TypeId} (h:w.heap[g]?=some (.cells #[c0,c1,c2,c3,c4,c5,c6,c7,c8,c9,c10] t (0,0))) (v:Value):(w.setCell ⟨g,3,none⟩ v).heap[g]?=some (.cells #[c0,c1,c2,v,c4,c5,c6,c7,c8,c9,c10] t (0,0)):=Zg _ _ _ _ _ _ h
theorem ZjL {w:World} {g:Nat} {c0 c1 c2 c3 c4 c5 c6 c7 c8 c9 c10:Value} {t:TypeId} (h:w.heap[g]?=some (.cells #[c0,c1,c2,c3,c4,c5,c6,c7,c8,c9,c10] t (0,0))) (v:Value):(w.setCell ⟨g,4,none⟩ v).heap[g]?=some (.cells #[c0,c1,c2,c3,v,c5,c6,c7,c8,c9,c10] t (0,0)):=Zg _ _ _ _ _ _ h
theorem ZjW {w:World} {g:Nat} {c0 c1 c2 c3 c4 c5 c6 c7 c8 c9 c10:Value} {t:TypeId} (h:w.heap[g]?=some (.cells #[c0,c1,c2,c3,c4,c5,c6,c7,c8,c9,c10] t (0,0))) (v:Value):(w.setCell ⟨g,5,none⟩ v).heap[g]?=some (.cells #[c0,c1,c2,c3,c4,v,c6,c7,c8,c9,c10] t (0,0)):=Zg _ _ _ _ _ _ h
theorem Zkl {w:World} {g:Nat} {c0 c1 c2 c3 c4 c5 c6 c7 c8 c9 c10:Value} {t:TypeId} (h:w.heap[g]?=some (.cells #[c0,c1,c2,c3,c4,c5,c6,c7,c8,c9,c10] t (0,0))) (v:Value):(w.setCell ⟨g,6,none⟩ v).heap[g]?=some (.cells #[c0,c1,c2,c3,c4,c5,v,c7,c8,c9,c10] t (0,0)):=Zg _ _ _ _ _ _ h
theorem ZjT {w:World} {g:Nat} {c0 c1 c2 c3 c4 c5 c6 c7 c8 c9 c10:Value} {t:TypeId} (h:w.heap[g]?=some (.cells #[c0,c1,c2,c3,c4,c5,c6,c7,c8,c9,c10] t (0,0))) (v:Value):(w.setCell ⟨g,7,none⟩ v).heap[g]?=some (.cells #[c0,c1,c2,c3,c4,c5,c6,v,c8,c9,c10] t (0,0)):=Zg _ _ _ _ _ _ h
theorem ZjY {w:World} {g:Nat} {c0 c1 c2 c3 c4 c5 c6 c7 c8 c9 c10:Value} {t:TypeId} (h:w.heap[g]?=some (.cells #[c0,c1,c2,c3,c4,c5,c6,c7,c8,c9,c10] t (0,0))) (v:Value):(w.setCell ⟨g,8,none⟩ v).heap[g]?=some (.cells #[c0,c1,c2,c3,c4,c5,c6,c7,v,c9,c10] t (0,0)):=Zg _ _ _ _ _ _ h
theorem ZjV {w:World} {g:Nat} {c0 c1 c2 c3 c4 c5 c6 c7 c8 c9 c10:Value} {t:TypeId} (h:w.heap[g]?=some (.cells #[c0,c1,c2,c3,c4,c5,c6,c7,c8,c9,c10] t (0,0))) (v:Value):(w.setCell ⟨g,9,none⟩ v).heap[g]?=some (.cells #[c0,c1,c2,c3,c4,c5,c6,c7,c8,v,c10] t (0,0)):=Zg _ _ _ _ _ _ h
theorem ZiW {w:World} {g:Nat} {c0 c1 c2 c3 c4 c5 c6 c7 c8 c9 c10:Value} {t:TypeId} (h:w.heap[g]?=some (.cells #[c0,c1,c2,c3,c4,c5,c6,c7,c8,c9,c10] t (0,0))) (v:Value):(w.setCell ⟨g,10,none⟩ v).heap[g]?=some (.cells #[c0,c1,c2,c3,c4,c5,c6,c7,c8,c9,v] t (0,0)):=Zg _ _ _ _ _ _ h
theorem Zi1 {w:World} {g:Nat} {p c0 c1 c2 c3 c4 c5 c6 c7 c8 c9:Value} {t:TypeId} (h:w.heap[g]?=some (.cells #[p,c0,c1,c2,c3,c4,c5,c6,c7,c8,c9] t (0,0))) (v0 v1 v2 v3 v4 v5 v6 v7 v8 v9:Value):(stw w g v0 v1 v2 v3 v4 v5 v6 v7 v8 v9).heap[g]?=some (.cells #[p,v0,v1,v2,v3,v4,v5,v6,v7,v8,v9] t (0,0)):=
 ZiW (ZjV (ZjY (ZjT (Zkl (ZjW (ZjL (Zkb (ZjZ (Zj2 h v0) v1) v2) v3) v4) v5) v6) v7) v8) v9
theorem Run.taken {w w2:World} {gx gp go:Nat} {D:Sta} {X:Aux} {S:Sta} {nx:Int} {Y:Int×List Pl} {Fp F:Nat→Prop} {u:Stv} {ho:Option Addr} {hc q1 q2 q4:Nat} (h:Run w gx gp go D X S nx Y Fp F u ho hc q1 q2 q4) {T:Sta} {v:Stv} {Z:Int×List Pl} {ho':Option Addr} {hc':Nat} (hg:RefG w w2 S u Y ho hc T v Z ho' hc') {w3:World} (hb:Below w2.heap.size w2 w3) (nx':Int) :
  Run (stw w3 gx (.int .i64 T.bud) (.slice v.po T.pools.length v.pc) (.slice v.so T.srv.length v.sc) (.slice v.wo T.wts.length v.wc) (.slice v.tqo T.plan.length v.tc) (.bool T.begun) (.bool T.back) (.int .i64 nx') (.int .i64 Z.1) (.slice ho' Z.2.length hc')) gx gp go D X T nx' Z Fp F v ho' hc' q1 q2 q4:=by
 have h3:=h.below (Za hg.bel hb);have hch:=Zaw w3 gx (.int .i64 T.bud) (.slice v.po T.pools.length v.pc) (.slice v.so T.srv.length v.sc) (.slice v.wo T.wts.length v.wc) (.slice v.tqo T.plan.length v.tc) (.bool T.begun) (.bool T.back) (.int .i64 nx') (.int .i64 Z.1) (.slice ho' Z.2.length hc');have hx:∀ g,Blkh T v Z ho' hc' g→g≠gx:=fun g hgb e=>by
  rcases hg.blk g hgb with h1 | h1
  ·exact h.drx g h1 e
  ·have:=h.lt;omega
 refine ⟨Zi1 h3.pr _ _ _ _ _ _ _ _ _ _,h3.desk.keep hch (fun x hp e=>h.dxp (by rw [←show x=gx from e];exact hp)),(hg.at'.nx hb).keep hch hx,h3.own.keep hch (fun x hp e=>h.dx (by rw [←show x=gx from e];exact hp)),h.dx,h.dxp,h.dp,fun g hgb hf=>?_,fun g hgb hf=>?_,hx⟩
 ·rcases hg.blk g hgb with h1 | h1
  ·exact h.dr g h1 hf
  ·have:=h.own.lt g hf;omega
 ·rcases hg.blk g hgb with h1 | h1
  ·exact h.drp g h1 hf
  ·have:=h.desk.lt g hf;omega
end Lw
end Go.Proofs.YtcpikklofilkcaaGreat
