import Derived.Test.YtohbonfngeblkaaGreatMnP
import Derived.Maps.AppendAt
import Derived.Deep.RegionWith
import Derived.Deep.RegionLaw
import Derived.Test.YtohbonfngeblkaaGreatMnI
import Derived.Deep.RegionHeld3
import Derived.Deep.DeepCutAuto
import Derived.BigQuiet
namespace Go.Proofs.YtohbonfngeblkaaGreat
open Go.RowKit
namespace Lw
open Co
theorem own_ne {g n c j gp : Nat} (hj : (Value.slice (some ⟨g, 0, none⟩) n c).ownBlock = some j) (h : gp ≠ g) : j ≠ gp := by
  have e : g = j := by simpa [Value.ownBlock] using hj
  omega
theorem blk4d {w : World} {g : Nat} {c0 c1 c2 c3 : Value} {t : TypeId} (h : w.heap[g]? = some (.cells #[c0, c1, c2, c3] t (0, 0))) :
    w.cell? ⟨g, 0, none⟩ = some c0 ∧ w.cell? ⟨g, 1, none⟩ = some c1 ∧ w.cell? ⟨g, 2, none⟩ = some c2 ∧ w.cell? ⟨g, 3, none⟩ = some c3 ∧ ∀ a, w.frozen? ⟨g, a, none⟩ = false := by
  refine ⟨?_, ?_, ?_, ?_, fun a => ?_⟩ <;> simp [World.cell?, World.frozen?, h]
set_option maxRecDepth 20000 in
set_option maxHeartbeats 2000000 in
theorem open_flat (B gp : Nat) (b : Int) (po : Option Addr) (n1 pc : Nat) (so : Option Addr) (n2 sc : Nat) (wo : Option Addr) (n3 wc : Nat) (op : Int) (q : WyV) (nm : ByteArray) (s1 s2 s3 : Int) (c : Int) (ss : List Srv) (w : World) (hgp : w.heap[gp]? = some (bDesk b po n1 pc so n2 sc wo n3 wc op q)) (hr : w.ownsRow B 55 4 (.slice so n2 sc) n2 (flatV ss)) (hB : B ≤ w.heap.size) (hq : n2 + 1 ≤ 1099511627776) (ho : 0 ≤ op ∧ op < 9223372036854775807) :
    Calls Tryz.prog 127 #[.pointer (some ⟨gp, 0, none⟩), .agg #[.string nm, .int .i64 s1, .int .i64 s2, .int .i64 s3], .int .i64 c] w fun e w' => (∃ x, e = .returned x) ∧ ∃ g vc, w'.heap[gp]? = some (bDesk b po n1 pc (some ⟨g, 0, none⟩) (n2 + 1) vc wo n3 wc (op + 1) q) ∧ w'.ownsRow B 55 4 (.slice (some ⟨g, 0, none⟩) (n2 + 1) vc) (n2 + 1) (flatV (ss ++ [⟨op + 1, nm, s3, c⟩])) ∧ Chg (fun y => y = gp ∨ (Value.slice so n2 sc).ownBlock = some y) w w' ∧ ((Value.slice so n2 sc).ownBlock = some g ∨ w.heap.size ≤ g) := by
  have hgplt : gp < w.heap.size := (Array.getElem?_eq_some_iff.1 hgp).1
  have hne : ¬ gp = w.heap.size := by omega
  have hA : ∀ o, (w.alloc o).heap[gp]? = some (bDesk b po n1 pc so n2 sc wo n3 wc op q) := fun o => ((nx_alloc w o).block gp hgplt).trans hgp
  have a3 : ∀ o, (w.alloc o).cell? ⟨gp, 4, none⟩ = some (.int .i64 op) := fun o => (blk5d (hA o)).2.2.2.2.1
  have az : ∀ o, (w.alloc o).frozen? ⟨gp, 4, none⟩ = false := fun o => (blk5d (hA o)).2.2.2.2.2 4
  go_enter Tryz.func127, Tryz.ntmps127
  go_upto_region 2 with fail
  have HW : Hid (∀ W0, W0 = ((w.setCell ⟨gp, 4, none⟩ (.int .i64 (op + 1))).alloc (Obj.cells #[.string nm, .int .i64 s1, .int .i64 s2, .int .i64 s3] 75)) → W0.heap.size = w.heap.size + 1 ∧ W0.heap[gp]? = some (bDesk b po n1 pc so n2 sc wo n3 wc (op + 1) q) ∧ W0.heap[w.heap.size]? = some (Obj.cells #[.string nm, .int .i64 s1, .int .i64 s2, .int .i64 s3] 75) ∧ W0.ownsRow B 55 4 (.slice so n2 sc) n2 (flatV ss) ∧ Chg (fun y => y = gp) w W0) := by
    rintro W0 rfl
    have hk : ∀ y, (Value.slice so n2 sc).ownBlock = some y → y ≠ gp := by
      intro y hy e
      obtain ⟨cc, fz, hh⟩ := Go.Lib.ownsRow_kind hr y hy
      rw [e, hgp] at hh
      simp [bDesk] at hh
    refine ⟨by simp, ?_, ?_, ?_, ?_⟩
    · exact ((nx_alloc _ _).block gp (by simp; omega)).trans (set_heap _ _ _ _ _ _ hgp)
    · exact heap_alloc_at _ _ (by simp)
    · exact (ownG_heap hr (fun j hj => Below.heap_setCell _ _ _ _ (hk j hj))).alloc _
    · exact (Chg.set (F := fun y => y = gp) w gp 4 _ rfl).trans (Chg.of_below (F := fun y => y = gp) (nx_alloc _ _)) (fun y hy => .inl hy)
  generalize hW : World.alloc (w.setCell ⟨gp, 4, none⟩ (.int .i64 (op + 1))) _ = W0
  have H0 := hideIt (HW.out W0 hW.symm)
  clear HW hW hA a3 az hr hgp
  obtain ⟨hs0, hd0, hb0, ho0, hc0⟩ := H0.out
  have dA : ∀ o, (W0.alloc o).cell? ⟨gp, 4, none⟩ = some (.int .i64 (op + 1)) := fun o => (blk5d (((nx_alloc W0 o).block gp (by omega)).trans hd0)).2.2.2.2.1
  have bA : ∀ o, (W0.alloc o).heap[w.heap.size]? = some (Obj.cells #[.string nm, .int .i64 s1, .int .i64 s2, .int .i64 s3] 75) := fun o => ((nx_alloc W0 o).block w.heap.size (by omega)).trans hb0
  have b0 := (blk4d hb0).1
  have b3 := (blk4d hb0).2.2.2.1
  have c0 := fun o => (blk4d (bA o)).1
  have c3 := fun o => (blk4d (bA o)).2.2.2.1
  have d0 := (blk5d hd0).2.2.2.2.1
  clear hs0 hd0 hb0 ho0 hc0 bA
  go_region
  have HV : Hid (∀ W1, W1 = (W0.alloc (Obj.cells #[.int .i64 (op + 1), .string nm, .int .i64 s3, .int .i64 c] 55)).drew → W1.heap.size = W0.heap.size + 1 ∧ W1.heap[gp]? = some (bDesk b po n1 pc so n2 sc wo n3 wc (op + 1) q) ∧ W1.heap[W0.heap.size]? = some (Obj.cells #[.int .i64 (op + 1), .string nm, .int .i64 s3, .int .i64 c] 55) ∧ W1.ownsRow B 55 4 (.slice so n2 sc) n2 (flatV ss) ∧ Chg (fun y => y = gp) w W1) := by
    rintro W1 rfl
    obtain ⟨hs0, hd0, hb0, ho0, hc0⟩ := H0.out
    have hX : Chg (fun y => y = gp) w (W0.alloc (Obj.cells #[.int .i64 (op + 1), .string nm, .int .i64 s3, .int .i64 c] 55)) := hc0.trans (Chg.of_below (F := fun y => y = gp) (nx_alloc _ _)) (fun y hy => .inl hy)
    refine ⟨by show (W0.alloc _).heap.size = _; simp, ?_, ?_, (ho0.alloc _).drew, ⟨hX.os, hX.tape, hX.output, hX.size, hX.block⟩⟩
    · exact ((nx_alloc W0 _).block gp (by omega)).trans hd0
    · exact heap_alloc_at W0 _ rfl
  generalize hV : World.drew (W0.alloc _) = W1
  have H1 := hideIt (HV.out W1 hV.symm)
  clear HV hV dA b0 b3 c0 c3 d0
  obtain ⟨hs1, hd1, hb1, ho1, hc1⟩ := H1.out
  have hs0 := H0.out.1
  obtain ⟨e0, e1, e2, e3, e4⟩ := blk4d hb1
  have f2 := (blk5d hd1).2.2.1
  have fA : ∀ o, (W1.alloc o).cell? ⟨gp, 2, none⟩ = some (.slice so n2 sc) := fun o => (blk5d (((nx_alloc W1 o).block gp (by omega)).trans hd1)).2.2.1
  have HK : Hid (∀ y, (Value.slice so n2 sc).ownBlock = some y → gp ≠ y) := by
    intro y hy e
    obtain ⟨cc, fz, hh⟩ := Go.Lib.ownsRow_kind H1.out.2.2.2.1 y hy
    rw [← e, H1.out.2.1] at hh
    simp [bDesk] at hh
  have hle : w.heap.size + 2 ≤ W1.heap.size := by omega
  clear hd1 hb1 hc1 hs0 hs1
  obtain ⟨t0, hi, hz0, hz1, hz2⟩ := info_parts info_V
  go_upto_region 3 with fail
  go_region_law
    ((refine step_append_lies _ (by rfl) (.tmp 28) (.tmp 30) 29 (by rfl) B 55 t0 _ 4 40 Tryz.underlying29 hi hz0 hz1 hz2 (by rfl) (by decide) _ n2 (flatV ss) (by rfl) (ho1.alloc _) ⟨W1.heap.size, 0, none⟩ 1 1 [.int .i64 (op + 1), .string nm, .int .i64 s3, .int .i64 c] (by rfl) (by rfl) (cells_new _ [.int .i64 (op + 1), .string nm, .int .i64 s3, .int .i64 c] _) (by intro u hu; simp at hu; rcases hu with rfl | rfl | rfl | rfl <;> rfl) (by omega) (by unfold maxLen; omega) (by omega) (by simp; omega) (W1.heap.size + 1) (by simp) ?_; intro g6 cap6 w6 hown6 hgrow6 hat6 hlt6; have q6 := (hgrow6.block gp (by simp; omega) (fun e => HK.out gp e.symm rfl)).trans (((nx_alloc W1 _).block gp (by omega)).trans H1.out.2.1); obtain ⟨q0, q1, q2, q3, q4, qz⟩ := blk5d q6))
  all_goals
    have HX : Hid (w6.ownsRow B 55 4 (.slice (some ⟨g6, 0, none⟩) (n2 + 1) cap6) (n2 + 1) (flatV (ss ++ [⟨op + 1, nm, s3, c⟩])) ∧ Chg (fun y => y = gp ∨ (Value.slice so n2 sc).ownBlock = some y) w w6 ∧ ((Value.slice so n2 sc).ownBlock = some g6 ∨ w.heap.size ≤ g6) ∧ gp ≠ g6 ∧ w6.heap[gp]? = some (bDesk b po n1 pc so n2 sc wo n3 wc (op + 1) q)) := by
      refine ⟨?_, ?_, ?_, ?_, q6⟩
      · unfold flatV
        rw [List.flatMap_append]
        exact hown6
      · have h1 := H1.out.2.2.2.2.trans (Chg.of_below (F := fun y => y = gp) (nx_alloc W1 (Obj.cells #[.int .i64 (op + 1), .string nm, .int .i64 s3, .int .i64 c] 55))) (fun y hy => .inl hy)
        have h2 := Chg.grown (F := fun y => (Value.slice so n2 sc).ownBlock = some y) hgrow6 (fun y hy => hy)
        exact (h1.mono (fun y hy => .inl hy)).trans (G := fun y => (Value.slice so n2 sc).ownBlock = some y) ⟨h2.os, h2.tape, h2.output, h2.size, h2.block⟩ (fun y hy => .inl (.inr hy))
      · rcases hat6 with h | h
        · exact .inl h
        · exact .inr (by omega)
      · rcases hat6 with h | h
        · exact HK.out g6 h
        · omega
    clear hown6 hgrow6 hat6 q0 q1 q2 q3 q4 qz q6
    refine bodyPost_end (v := .tuple #[]) (by simp [results, Tryz.results127, go_sem]) rfl ?_
    refine ⟨⟨_, rfl⟩, g6, cap6, ?_, ?_, ?_, HX.out.2.2.1⟩
    · exact set_heap _ _ _ _ _ _ HX.out.2.2.2.2
    · exact ownG_heap HX.out.1 (fun j hj => Below.heap_setCell _ _ _ _ (by show j ≠ gp; exact own_ne hj HX.out.2.2.2.1))
    · exact HX.out.2.1.trans (Chg.set (F := fun y => y = gp) w6 gp 2 _ rfl) (fun y hy => .inl (.inl hy))
end Lw
end Go.Proofs.YtohbonfngeblkaaGreat
namespace Go.Proofs.YtohbonfngeblkaaGreat
open Go.RowKit
namespace Lw
open Co
theorem own_apartD {u : World} {B B' : Nat} {e e' : TypeId} {sz sz' n n' g : Nat} {v v' : Value} {xs xs' : List Value} (h : u.ownsRow B e sz v n xs) (h' : u.ownsRow B' e' sz' v' n' xs') (ht : e ≠ e') (hv : v.ownBlock = some g) : v'.ownBlock ≠ some g := by
  intro hv'
  obtain ⟨cc, fz, hh⟩ := Go.Lib.ownsRow_kind h g hv
  obtain ⟨cc', fz', hh'⟩ := Go.Lib.ownsRow_kind h' g hv'
  rw [hh] at hh'
  simp at hh'
  exact ht hh'.2.1
theorem own_boxD {u : World} {B : Nat} {e : TypeId} {sz n g : Nat} {v : Value} {xs : List Value} {cs : Array Value} {t : TypeId} (h : u.ownsRow B e sz v n xs) (hg : u.heap[g]? = some (.cells cs t (0, 0))) (ht : e ≠ t) : v.ownBlock ≠ some g := by
  intro hv
  obtain ⟨cc, fz, hh⟩ := Go.Lib.ownsRow_kind h g hv
  rw [hg] at hh
  simp at hh
  exact ht hh.2.1.symm
def Nxt (F : Nat → Prop) (w w' : World) (y : Nat) : Prop := (F y ∨ w.heap.size ≤ y) ∧ y < w'.heap.size
def Moved (w w' : World) (gp : Nat) (S : Sta) (X : Aux) (F : Nat → Prop) : Prop := ∃ F', DeskAt w' gp S X F' ∧ (∀ y, F' y → F y ∨ w.heap.size ≤ y) ∧ Chg F w w'
theorem Moved.refl {w : World} {gp : Nat} {S : Sta} {X : Aux} {F : Nat → Prop} (h : DeskAt w gp S X F) : Moved w w gp S X F := ⟨F, h, fun _ hy => .inl hy, Chg.refl _ _⟩
theorem Moved.trans {w w1 w2 : World} {gp : Nat} {S1 S2 : Sta} {X1 X2 : Aux} {F : Nat → Prop} (h1 : Moved w w1 gp S1 X1 F) (h2 : ∀ F1, DeskAt w1 gp S1 X1 F1 → Moved w1 w2 gp S2 X2 F1) : Moved w w2 gp S2 X2 F := by
  obtain ⟨F1, hd, hF, hc⟩ := h1
  obtain ⟨F2, hd2, hF2, hc2⟩ := h2 F1 hd
  refine ⟨F2, hd2, fun y hy => ?_, hc.trans hc2 hF⟩
  rcases hF2 y hy with h | h
  · exact hF y h
  · exact .inr (Nat.le_trans hc.size h)
theorem Moved.below {w w1 w2 : World} {gp : Nat} {S : Sta} {X : Aux} {F : Nat → Prop} (h : Moved w w1 gp S X F) (hb : Below w1.heap.size w1 w2) : Moved w w2 gp S X F :=
  h.trans (fun F1 hd => ⟨F1, hd.keep (G := fun _ => False) (Chg.of_below hb) (fun _ _ h => h), fun _ hy => .inl hy, Chg.of_below hb⟩)
theorem Moved.desk {w w1 : World} {gp : Nat} {S : Sta} {X : Aux} {F : Nat → Prop} (h : Moved w w1 gp S X F) : ∃ F1, DeskAt w1 gp S X F1 := let ⟨F1, hd, _⟩ := h; ⟨F1, hd⟩
theorem Moved.step {w w1 : World} {gp : Nat} {S : Sta} {X : Aux} {F : Nat → Prop} (h : Moved w w1 gp S X F) : ∃ F1, DeskAt w1 gp S X F1 ∧ ∀ w2 S2 X2, Moved w1 w2 gp S2 X2 F1 → Moved w w2 gp S2 X2 F := by
  obtain ⟨F1, hd, hF, hc⟩ := h
  refine ⟨F1, hd, fun w2 S2 X2 h2 => ?_⟩
  obtain ⟨F2, hd2, hF2, hc2⟩ := h2
  refine ⟨F2, hd2, fun y hy => ?_, hc.trans hc2 hF⟩
  rcases hF2 y hy with h | h
  · exact hF y h
  · exact .inr (Nat.le_trans hc.size h)
theorem Moved.after {w w1 w2 : World} {gp : Nat} {S : Sta} {X : Aux} {F : Nat → Prop} (hb : Below w.heap.size w w1) (h : Moved w1 w2 gp S X F) : Moved w w2 gp S X F := by
  obtain ⟨F1, hd, hF, hc⟩ := h
  refine ⟨F1, hd, fun y hy => ?_, (Chg.of_below hb).trans hc (fun x hx => .inl hx)⟩
  rcases hF y hy with h | h
  · exact .inl h
  · exact .inr (Nat.le_trans hb.size h)
theorem moved_srv {w w' : World} {gp : Nat} {S : Sta} {X : Aux} {F : Nat → Prop} {po : Option Addr} {pc : Nat} {so : Option Addr} {sc : Nat} {wo : Option Addr} {wc : Nat} {yo : Option Addr} {yc : Nat} {ho : Option Addr} {hc B : Nat} (h : DeskX w gp S X F po pc so sc wo wc yo yc ho hc) (hg : F gp) (hlt : ∀ x, F x → x < w.heap.size) (ss : List Srv) (so' : Option Addr) (sc' : Nat) (op : Int)
    (hbox : w'.heap[gp]? = some (bDesk S.bud po S.pools.length pc so' ss.length sc' wo S.wts.length wc op ⟨.slice yo S.plan.length yc, S.begun, S.back, X.hb, .slice ho X.hps.length hc⟩))
    (hown : w'.ownsRow B 55 4 (.slice so' ss.length sc') ss.length (flatV ss)) (hblk : ∀ g, (Value.slice so' ss.length sc').ownBlock = some g → (Value.slice so S.srv.length sc).ownBlock = some g ∨ w.heap.size ≤ g)
    (hch : Chg (fun y => y = gp ∨ (Value.slice so S.srv.length sc).ownBlock = some y) w w') : Moved w w' gp { S with srv := ss } { X with op := op } F := by
  have hsz : ∀ g, F g → Nxt F w w' g := fun g hg => ⟨.inl hg, Nat.lt_of_lt_of_le (hlt g hg) hch.size⟩
  have hk : ∀ {ty : TypeId} {sz n : Nat} {v : Value} {cs : List Value}, Held w F ty sz v n cs → ty ≠ 55 → ty ≠ 82 → Held w' (Nxt F w w') ty sz v n cs := by
    intro ty sz n v cs hh h1 h2
    refine ⟨ownG_heap hh.own (fun j hj => hch.block j (hlt j (hh.blk j hj)) ?_), fun g hg => hsz g (hh.blk g hg)⟩
    rintro (e | e)
    · exact own_boxD hh.own h.box h2 (by rw [← e]; exact hj)
    · exact own_apartD hh.own h.s.own h1 hj e
  refine ⟨Nxt F w w', ⟨⟨po, pc, so', sc', wo, wc, yo, yc, ho, hc, hbox, hk h.p (by decide) (by decide), ⟨own_mono hown (Nat.zero_le _), fun g hg => ⟨?_, (hown.lt g hg).2⟩⟩, hk h.t (by decide) (by decide), hk h.l (by decide) (by decide), hk h.h (by decide) (by decide)⟩, hsz gp hg, fun x hx => hx.2⟩, fun y hy => hy.1, hch.mono ?_⟩
  · rcases hblk g hg with e | e
    · exact .inl (h.s.blk g e)
    · exact .inr e
  · rintro y (rfl | e)
    · exact hg
    · exact h.s.blk y e
theorem moved_wts {w w' : World} {gp : Nat} {S : Sta} {X : Aux} {F : Nat → Prop} {po : Option Addr} {pc : Nat} {so : Option Addr} {sc : Nat} {wo : Option Addr} {wc : Nat} {yo : Option Addr} {yc : Nat} {ho : Option Addr} {hc B : Nat} (h : DeskX w gp S X F po pc so sc wo wc yo yc ho hc) (hg : F gp) (hlt : ∀ x, F x → x < w.heap.size) (ws : List Wtr) (wo' : Option Addr) (wc' : Nat)
    (hbox : w'.heap[gp]? = some (bDesk S.bud po S.pools.length pc so S.srv.length sc wo' ws.length wc' X.op ⟨.slice yo S.plan.length yc, S.begun, S.back, X.hb, .slice ho X.hps.length hc⟩))
    (hown : w'.ownsRow B 61 2 (.slice wo' ws.length wc') ws.length (flatW ws)) (hblk : ∀ g, (Value.slice wo' ws.length wc').ownBlock = some g → (Value.slice wo S.wts.length wc).ownBlock = some g ∨ w.heap.size ≤ g)
    (hch : Chg (fun y => y = gp ∨ (Value.slice wo S.wts.length wc).ownBlock = some y) w w') : Moved w w' gp { S with wts := ws } X F := by
  have hsz : ∀ g, F g → Nxt F w w' g := fun g hg => ⟨.inl hg, Nat.lt_of_lt_of_le (hlt g hg) hch.size⟩
  have hk : ∀ {ty : TypeId} {sz n : Nat} {v : Value} {cs : List Value}, Held w F ty sz v n cs → ty ≠ 61 → ty ≠ 82 → Held w' (Nxt F w w') ty sz v n cs := by
    intro ty sz n v cs hh h1 h2
    refine ⟨ownG_heap hh.own (fun j hj => hch.block j (hlt j (hh.blk j hj)) ?_), fun g hg => hsz g (hh.blk g hg)⟩
    rintro (e | e)
    · exact own_boxD hh.own h.box h2 (by rw [← e]; exact hj)
    · exact own_apartD hh.own h.t.own h1 hj e
  refine ⟨Nxt F w w', ⟨⟨po, pc, so, sc, wo', wc', yo, yc, ho, hc, hbox, hk h.p (by decide) (by decide), hk h.s (by decide) (by decide), ⟨own_mono hown (Nat.zero_le _), fun g hg => ⟨?_, (hown.lt g hg).2⟩⟩, hk h.l (by decide) (by decide), hk h.h (by decide) (by decide)⟩, hsz gp hg, fun x hx => hx.2⟩, fun y hy => hy.1, hch.mono ?_⟩
  · rcases hblk g hg with e | e
    · exact .inl (h.t.blk g e)
    · exact .inr e
  · rintro y (rfl | e)
    · exact hg
    · exact h.t.blk y e
theorem dShut (gp : Nat) (id : Int) (S : Sta) (X : Aux) (F : Nat → Prop) (w : World) (h : DeskAt w gp S X F) (hq : S.srv.length ≤ 1099511627776) :
    Calls Tryz.prog 69 #[.pointer (some ⟨gp, 0, none⟩), .int .i64 id] w fun e w' => (∃ x, e = .returned x) ∧ Moved w w' gp (cShut S id) X F := by
  obtain ⟨po, pc, so, sc, wo, wc, yo, yc, ho, hc, hx⟩ := h.ex
  refine (shut_flat gp S.bud po _ pc so _ sc wo _ wc X.op _ id S.srv w hx.box (own_row hx.s.own) rfl hq).mono ?_
  rintro e w' ⟨he, vo, vc, k1, k2, k3⟩
  exact ⟨he, moved_srv hx h.gp h.lt (S.srv.filter (keepId id)) vo vc X.op k1 k2 (fun g hg => .inr (k2.lt g hg).1) (k3.mono (fun y hy => .inl hy))⟩
theorem dQuit (gp : Nat) (c : Int) (S : Sta) (X : Aux) (F : Nat → Prop) (w : World) (h : DeskAt w gp S X F) (hq : S.wts.length ≤ 1099511627776) :
    Calls Tryz.prog 82 #[.pointer (some ⟨gp, 0, none⟩), .int .i64 c] w fun e w' => (∃ x, e = .returned x) ∧ Moved w w' gp (cQuit S c) X F := by
  obtain ⟨po, pc, so, sc, wo, wc, yo, yc, ho, hc, hx⟩ := h.ex
  refine (quit_flat gp S.bud po _ pc so _ sc wo _ wc X.op _ c S.wts w hx.box (own_row hx.t.own) rfl hq).mono ?_
  rintro e w' ⟨he, vo, vc, k1, k2, k3⟩
  exact ⟨he, moved_wts hx h.gp h.lt (S.wts.filter (keepC c)) vo vc k1 k2 (fun g hg => .inr (k2.lt g hg).1) (k3.mono (fun y hy => .inl hy))⟩
theorem dHand (gp : Nat) (id c : Int) (S : Sta) (X : Aux) (F : Nat → Prop) (w : World) (h : DeskAt w gp S X F) (hq : S.srv.length ≤ 1099511627776) :
    Calls Tryz.prog 83 #[.pointer (some ⟨gp, 0, none⟩), .int .i64 id, .int .i64 c] w fun e w' => (∃ x, e = .returned x) ∧ Moved w w' gp (cHand S id c) X F := by
  obtain ⟨po, pc, so, sc, wo, wc, yo, yc, ho, hc, hx⟩ := h.ex
  refine (hand_flat 0 gp S.bud po _ pc so _ sc wo _ wc X.op _ id c S.srv w hx.box hx.s.own rfl hq).mono ?_
  rintro e w' ⟨he, k1, k2, k3⟩
  have hl : (S.srv.map (handed id c)).length = S.srv.length := List.length_map _
  have := moved_srv (B := 0) hx h.gp h.lt (S.srv.map (handed id c)) so sc X.op (by rw [hl]; exact k1) (by rw [hl]; exact k2) (fun g hg => .inl (by rw [hl] at hg; exact hg)) (k3.mono (fun y hy => .inr hy))
  exact ⟨he, this⟩
theorem dJoin (gp : Nat) (c : Int) (nm : ByteArray) (S : Sta) (X : Aux) (F : Nat → Prop) (w : World) (h : DeskAt w gp S X F) (hq : S.wts.length + 1 ≤ 1099511627776) :
    Calls Tryz.prog 79 #[.pointer (some ⟨gp, 0, none⟩), .int .i64 c, .string nm] w fun e w' => (∃ x, e = .returned x) ∧ Moved w w' gp (joined S c nm) X F := by
  obtain ⟨po, pc, so, sc, wo, wc, yo, yc, ho, hc, hx⟩ := h.ex
  refine (join_flat 0 gp S.bud po _ pc so _ sc wo _ wc X.op _ c nm S.wts w hx.box hx.t.own (Nat.zero_le _) hq).mono ?_
  rintro e w' ⟨he, g, vc, k1, k2, k3, k4⟩
  have hl : (S.wts ++ [(⟨c, nm⟩ : Wtr)]).length = S.wts.length + 1 := by simp
  have := moved_wts (B := 0) hx h.gp h.lt (S.wts ++ [⟨c, nm⟩]) (some ⟨g, 0, none⟩) vc (by rw [hl]; exact k1) (by rw [hl]; exact k2) (fun y hy => by
    have e : g = y := by simpa [Value.ownBlock] using hy
    rw [← e]; exact k4) k3
  exact ⟨he, this⟩
theorem dOpen (gp : Nat) (x : Pl) (c : Int) (S : Sta) (X : Aux) (F : Nat → Prop) (w : World) (h : DeskAt w gp S X F) (hq : S.srv.length + 1 ≤ 1099511627776) (ho : 0 ≤ X.op ∧ X.op < 9223372036854775807) :
    Calls Tryz.prog 127 #[.pointer (some ⟨gp, 0, none⟩), plA x, .int .i64 c] w fun e w' => (∃ x, e = .returned x) ∧ Moved w w' gp (cOpen S X.op x c) { X with op := X.op + 1 } F := by
  obtain ⟨po, pc, so, sc, wo, wc, yo, yc, ho', hc, hx⟩ := h.ex
  refine (open_flat 0 gp S.bud po _ pc so _ sc wo _ wc X.op _ x.nm x.sz x.wt x.fr c S.srv w hx.box hx.s.own (Nat.zero_le _) hq ho).mono ?_
  rintro e w' ⟨he, g, vc, k1, k2, k3, k4⟩
  have hl : (S.srv ++ [(⟨X.op + 1, x.nm, x.fr, c⟩ : Srv)]).length = S.srv.length + 1 := by simp
  have := moved_srv (B := 0) hx h.gp h.lt (S.srv ++ [⟨X.op + 1, x.nm, x.fr, c⟩]) (some ⟨g, 0, none⟩) vc (X.op + 1) (by rw [hl]; exact k1) (by rw [hl]; exact k2) (fun y hy => by
    have e : g = y := by simpa [Value.ownBlock] using hy
    rw [← e]; exact k4) k3
  exact ⟨he, this⟩
end Lw
end Go.Proofs.YtohbonfngeblkaaGreat
namespace Go.Proofs.YtohbonfngeblkaaGreat
open Go.RowKit
namespace Lw
open Co
theorem orS_zero {l : List Srv} {p : Srv → Bool} (hid : ∀ x ∈ l, x.id ≠ 0) : ((orS (l.find? p)).id == 0) = (l.find? p).isNone := by
  cases h : l.find? p with
  | none => rfl
  | some s =>
    have := hid s (List.mem_of_find?_eq_some h)
    simpa [orS] using this
theorem orS_get {l : List Srv} {p : Srv → Bool} {s : Srv} (h : l.find? p = some s) : orS (l.find? p) = s := by rw [h]; rfl
theorem DeskX.nx {w w' : World} {gp : Nat} {S : Sta} {X : Aux} {F : Nat → Prop} {po : Option Addr} {pc : Nat} {so : Option Addr} {sc : Nat} {wo : Option Addr} {wc : Nat} {yo : Option Addr} {yc : Nat} {ho : Option Addr} {hc : Nat} (h : DeskX w gp S X F po pc so sc wo wc yo yc ho hc) (hl : gp < w.heap.size) (hb : Below w.heap.size w w') : w'.heap[gp]? = some (bDesk S.bud po S.pools.length pc so S.srv.length sc wo S.wts.length wc X.op ⟨.slice yo S.plan.length yc, S.begun, S.back, X.hb, .slice ho X.hps.length hc⟩) :=
  (hb.block gp hl).trans h.box
def cRoom (S : Sta) : Option Sta := if (S.srv.length : Int) < S.bud then some S else match S.srv.find? (isCliV 0) with | none => none | some s => if S.bud < (S.srv.length : Int) then none else some (cShut S s.id)
set_option maxRecDepth 20000 in
set_option maxHeartbeats 2000000 in
theorem dRoom (gp : Nat) (S : Sta) (X : Aux) (F : Nat → Prop) (w : World) (h : DeskAt w gp S X F) (hid : ∀ x ∈ S.srv, x.id ≠ 0) (hq : S.srv.length ≤ 1099511627776) :
    Calls Tryz.prog 126 #[.pointer (some ⟨gp, 0, none⟩)] w fun e w' => e = .returned (.bool (cRoom S).isSome) ∧ Moved w w' gp ((cRoom S).getD S) X F := by
  obtain ⟨po, pc, so, sc, wo, wc, yo, yc, ho, hc, hx⟩ := h.ex
  have hgplt : gp < w.heap.size := h.lt gp h.gp
  obtain ⟨g0, g1, g2, g3, g4, gz⟩ := blk5d hx.box
  have HH := hideIt h
  have HX := hideIt hx
  obtain ⟨n, hn⟩ : ∃ n, S.srv.length = n := ⟨_, rfl⟩
  obtain ⟨bud, hbud⟩ : ∃ b, S.bud = b := ⟨_, rfl⟩
  rw [hn] at g2 hq
  rw [hbud] at g0
  have HN := hideIt (And.intro hn hbud)
  have HID := hideIt hid
  clear h hx hn hbud hid
  by_cases hlt : (n : Int) < bud
  · have HR : Hid (cRoom S = some S) := by
      show _ = _
      unfold cRoom
      rw [if_pos (by rw [HN.out.1, HN.out.2]; exact hlt)]
    go_enter Tryz.func126, Tryz.ntmps126
    go_upto_region 1 with fail
    go_quiet (fail)
    go_wp2_with fail
    go_ret
    refine ⟨by rw [HR.out]; rfl, ?_⟩
    rw [HR.out]
    exact (Moved.refl HH.out).below (below_drewN (Below.refl _ _) _)
  · go_enter Tryz.func126, Tryz.ntmps126
    go_upto_region 1 with fail
    go_quiet (fail)
    obtain ⟨wd, hwd⟩ : ∃ wd, w.drewN nq = wd := ⟨_, rfl⟩
    have hbd : Below w.heap.size w wd := by rw [← hwd]; exact below_drewN (Below.refl _ _) _
    rw [hwd]
    have HBD := hideIt hbd
    have hd1 := HX.out.nx hgplt hbd
    rw [HN.out.1, HN.out.2] at hd1
    have HI := hideIt (cFirstIdle so n sc S.srv wd (by have := own_row HX.out.s.own; rw [HN.out.1] at this; exact this.nx hbd) HN.out.1 (by unfold maxLen; omega))
    clear g0 g1 g2 g3 g4 gz hwd hbd
    obtain ⟨g0, g1, g2, g3, g4, gz⟩ := blk5d hd1
    clear hd1
    go_wp2_with fail
    refine HI.out.mono ?_
    rintro e w1 ⟨rfl, hb1⟩
    have HZ := hideIt (orS_zero (p := isCliV 0) HID.out)
    obtain ⟨⟨x0, x1, x2, x3⟩, hx0⟩ : ∃ x, orS (S.srv.find? (isCliV 0)) = x := ⟨_, rfl⟩
    rw [hx0] at HZ ⊢
    simp only at HZ
    have HX0 := hideIt hx0
    obtain ⟨W1, hW1⟩ : ∃ W1, W1 = w1.alloc (.cells #[.int .i64 x0, .string x1, .int .i64 x2, .int .i64 x3] 55) := ⟨_, rfl⟩
    have hbW : Below w.heap.size w W1 := by rw [hW1]; exact nx_trans (nx_trans HBD.out hb1) (nx_alloc _ _)
    have KW : Hid (W1 = w1.alloc (.cells #[.int .i64 x0, .string x1, .int .i64 x2, .int .i64 x3] 55) ∧ W1.heap[w1.heap.size]? = some (.cells #[.int .i64 x0, .string x1, .int .i64 x2, .int .i64 x3] 55) ∧ Below w.heap.size w W1) := ⟨hW1, by rw [hW1]; exact heap_alloc_at _ _ rfl, hbW⟩
    have hd1 := HX.out.nx hgplt hbW
    rw [HN.out.1, HN.out.2] at hd1
    clear hx0 hb1 hW1 hbW HI g0 g1 g2 g3 g4 gz
    go_upto_region 4 with fail
    rw [← KW.out.1]
    obtain ⟨g0, g1, g2, g3, g4, gz⟩ := blk5d hd1
    obtain ⟨y0, y1, y2, y3, yz⟩ := blk4d KW.out.2.1
    clear hd1
    cases hdg : decide (bud < (n : Int)) with
    | true =>
      have HR : Hid (cRoom S = none) := by
        show _ = _
        have hb : bud < (n : Int) := of_decide_eq_true hdg
        unfold cRoom
        rw [if_neg (by rw [HN.out.1, HN.out.2]; omega)]
        cases S.srv.find? (isCliV 0) with
        | none => rfl
        | some s => simp only; rw [if_pos (by rw [HN.out.1, HN.out.2]; exact hb)]
      go_quiet (fail)
      go_wp2_with fail
      go_ret
      refine ⟨by rw [HR.out]; rfl, ?_⟩
      rw [HR.out]
      exact (Moved.refl HH.out).below (below_drewN KW.out.2.2 _)
    | false =>
      cases hz : (x0 == 0) with
      | true =>
        have HR : Hid (cRoom S = none) := by
          show _ = _
          unfold cRoom
          rw [if_neg (by rw [HN.out.1, HN.out.2]; omega)]
          cases hf : S.srv.find? (isCliV 0) with
          | none => rfl
          | some s => have := HZ.out; rw [hz, hf] at this; simp at this
        go_quiet (fail)
        go_wp2_with fail
        go_ret
        refine ⟨by rw [HR.out]; rfl, ?_⟩
        rw [HR.out]
        exact (Moved.refl HH.out).below (below_drewN KW.out.2.2 _)
      | false =>
        have HR : Hid (cRoom S = some (cShut S x0)) := by
          show _ = _
          have hb : ¬ bud < (n : Int) := of_decide_eq_false hdg
          unfold cRoom
          rw [if_neg (by rw [HN.out.1, HN.out.2]; omega)]
          cases hf : S.srv.find? (isCliV 0) with
          | none => have := HZ.out; rw [hz, hf] at this; simp at this
          | some s =>
            have := HX0.out
            rw [hf] at this
            simp only
            rw [if_neg (by rw [HN.out.1, HN.out.2]; exact hb), show s.id = x0 by rw [show s = ⟨x0, x1, x2, x3⟩ from this]]
        go_quiet (fail)
        obtain ⟨W2, hW2⟩ : ∃ W2, W1.drewN nq = W2 := ⟨_, rfl⟩
        have hb2 : Below W1.heap.size W1 W2 := by rw [← hW2]; exact below_drewN (Below.refl _ _) _
        rw [hW2]
        have KM : Hid (Moved w W2 gp S X F) := ((Moved.refl HH.out).below KW.out.2.2).below hb2
        have HY : Hid (W2.heap[w1.heap.size]? = some (.cells #[.int .i64 x0, .string x1, .int .i64 x2, .int .i64 x3] 55)) := (hb2.block _ (Array.getElem?_eq_some_iff.1 KW.out.2.1).1).trans KW.out.2.1
        clear hW2 hb2 g0 g1 g2 g3 g4 gz y0 y1 y2 y3 yz
        obtain ⟨y0, y1, y2, y3, yz⟩ := blk4d HY.out
        obtain ⟨F1, hd, hnx⟩ := KM.out.step
        have HS := hideIt (dShut gp x0 S X F1 W2 hd (by rw [HN.out.1]; exact hq))
        have KM2 := hideIt (hnx : ∀ w2 S2 X2, Moved W2 w2 gp S2 X2 F1 → Moved w w2 gp S2 X2 F)
        clear hd hnx
        go_wp2_with fail
        refine HS.out.mono ?_
        rintro e w3 ⟨⟨x, rfl⟩, hm⟩
        have KF := hideIt (KM2.out w3 _ _ hm)
        clear hm
        go_wp2_with fail
        go_ret
        refine ⟨by rw [HR.out]; rfl, ?_⟩
        rw [HR.out]
        exact KF.out
set_option maxRecDepth 20000 in
set_option maxHeartbeats 2000000 in
theorem dBusy (gp : Nat) (c : Int) (S : Sta) (X : Aux) (F : Nat → Prop) (w : World) (h : DeskAt w gp S X F) (hid : ∀ x ∈ S.srv, x.id ≠ 0) (hq : S.srv.length ≤ 1099511627776) (hq2 : S.wts.length ≤ 1099511627776) :
    Calls Tryz.prog 77 #[.pointer (some ⟨gp, 0, none⟩), .int .i64 c] w fun e w' => e = .returned (.bool ((S.srv.find? (isCliV c)).isSome || (S.wts.find? (isCliW c)).isSome)) ∧ Below w.heap.size w w' := by
  obtain ⟨po, pc, so, sc, wo, wc, yo, yc, ho, hc, hx⟩ := h.ex
  have hgplt : gp < w.heap.size := h.lt gp h.gp
  obtain ⟨g0, g1, g2, g3, g4, gz⟩ := blk5d hx.box
  have HX := hideIt hx
  have HI := hideIt (cHeldBy so _ sc c S.srv w (own_row hx.s.own) rfl (by unfold maxLen; omega))
  have HZ := hideIt (orS_zero (p := isCliV c) hid)
  obtain ⟨⟨x0, x1, x2, x3⟩, hx0⟩ : ∃ x, orS (S.srv.find? (isCliV c)) = x := ⟨_, rfl⟩
  rw [hx0] at HI HZ
  simp only at HZ
  clear h hx hid hx0
  go_enter Tryz.func77, Tryz.ntmps77
  go_wp2_with fail
  refine HI.out.mono ?_
  rintro e w1 ⟨rfl, hb1⟩
  obtain ⟨W1, hW1⟩ : ∃ W1, W1 = w1.alloc (.cells #[.int .i64 x0, .string x1, .int .i64 x2, .int .i64 x3] 55) := ⟨_, rfl⟩
  have hbW : Below w.heap.size w W1 := by rw [hW1]; exact nx_trans hb1 (nx_alloc _ _)
  have KW : Hid (W1 = w1.alloc (.cells #[.int .i64 x0, .string x1, .int .i64 x2, .int .i64 x3] 55) ∧ W1.heap[w1.heap.size]? = some (.cells #[.int .i64 x0, .string x1, .int .i64 x2, .int .i64 x3] 55) ∧ Below w.heap.size w W1) := ⟨hW1, by rw [hW1]; exact heap_alloc_at _ _ rfl, hbW⟩
  have HWS := hideIt (cWaits wo _ wc c S.wts W1 ((own_row HX.out.t.own).nx hbW) rfl (by unfold maxLen; omega))
  have hd1 := HX.out.nx hgplt hbW
  clear hb1 hW1 hbW HI g0 g1 g2 g3 g4 gz
  go_upto_region 2 with fail
  rw [← KW.out.1]
  obtain ⟨g0, g1, g2, g3, g4, gz⟩ := blk5d hd1
  obtain ⟨y0, y1, y2, y3, yz⟩ := blk4d KW.out.2.1
  clear hd1
  cases hz : (x0 != 0) with
  | true =>
    have HR : Hid ((S.srv.find? (isCliV c)).isSome = true) := by
      show _ = _
      have h0 : (x0 == 0) = false := by simpa [bne] using hz
      have := HZ.out
      rw [h0] at this
      cases hf : S.srv.find? (isCliV c) with
      | none => rw [hf] at this; simp at this
      | some s => rfl
    go_wp2_with fail
    go_ret
    exact ⟨by rw [HR.out]; rfl, KW.out.2.2⟩
  | false =>
    have HR : Hid ((S.srv.find? (isCliV c)).isSome = false) := by
      show _ = _
      have h0 : (x0 == 0) = true := by simpa [bne] using hz
      have := HZ.out
      rw [h0] at this
      cases hf : S.srv.find? (isCliV c) with
      | none => rfl
      | some s => rw [hf] at this; simp at this
    go_wp2_with fail
    refine HWS.out.mono ?_
    rintro e w2 ⟨rfl, h2⟩
    obtain rfl := h2.symm
    go_wp2_with fail
    go_ret
    exact ⟨by rw [HR.out]; simp, KW.out.2.2⟩
structure Fnd (W : World) (x : Pl) (g : Nat) (wz : World) : Prop where
  new : W.heap.size ≤ g
  box : wz.heap[g]? = some (bPl x)
  bel : Below W.heap.size W wz
theorem fnd_a {W w9 : World} {x : Pl} (h : Below W.heap.size W w9) : Fnd W x w9.heap.size (w9.alloc (bPl x)) := ⟨h.size, heap_alloc_at _ _ rfl, h.alloc h.size _⟩
theorem fnd_b {W w9 : World} {x z : Pl} (h : Below W.heap.size W w9) (hz : w9.heap[W.heap.size]? = some (bPl z)) : Fnd W x W.heap.size ((((w9.setCell ⟨W.heap.size, 0, none⟩ (.string x.nm)).setCell ⟨W.heap.size, 1, none⟩ (.int .i64 x.sz)).setCell ⟨W.heap.size, 2, none⟩ (.int .i64 x.wt)).setCell ⟨W.heap.size, 3, none⟩ (.int .i64 x.fr)) :=
  ⟨Nat.le_refl _, set_heap _ _ _ _ _ _ (set_heap _ _ _ _ _ _ (set_heap _ _ _ _ _ _ (set_heap _ _ _ _ _ _ hz))), (((h.setCell (Nat.le_refl _) _).setCell (Nat.le_refl _) _).setCell (Nat.le_refl _) _).setCell (Nat.le_refl _) _⟩
end Lw
end Go.Proofs.YtohbonfngeblkaaGreat
