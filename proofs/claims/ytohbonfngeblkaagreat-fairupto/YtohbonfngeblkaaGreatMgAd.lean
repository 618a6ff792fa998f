import Derived.Test.YtohbonfngeblkaaGreatMgAc
import Derived.Test.YtohbonfngeblkaaGreatMgP
namespace Go.Proofs.YtohbonfngeblkaaGreat
open Go.RowKit
namespace Lw
open Co
theorem own_apartD {u : World} {B B' : Nat} {e e' : TypeId} {sz sz' n n' g : Nat} {v v' : Value} {xs xs' : List Value} (h : u.ownsRow B e sz v n xs) (h' : u.ownsRow B' e' sz' v' n' xs') (ht : e ≠ e') (hv : v.ownBlock = some g) : v'.ownBlock ≠ some g := by
  intro hv'
  obtain ⟨cc, fz, hh⟩ := Go.Lib.ownsRow_kind h g hv
  obtain ⟨cc', fz', hh'⟩ := Go.Lib.ownsRow_kind h' g hv'
  rw [hh] at hh'
  simp at hh'
  exact ht hh'.2.1
theorem own_boxD {u : World} {B : Nat} {e : TypeId} {sz n g : Nat} {v : Value} {xs : List Value} {cs : Array Value} {t : TypeId} (h : u.ownsRow B e sz v n xs) (hg : u.heap[g]? = some (.cells cs t (0, 0))) (ht : e ≠ t) : v.ownBlock ≠ some g := by
  intro hv
  obtain ⟨cc, fz, hh⟩ := Go.Lib.ownsRow_kind h g hv
  rw [hg] at hh
  simp at hh
  exact ht hh.2.1.symm
def Nxt (F : Nat → Prop) (w w' : World) (y : Nat) : Prop := (F y ∨ w.heap.size ≤ y) ∧ y < w'.heap.size
def Moved (w w' : World) (gp : Nat) (S : Sta) (X : Aux) (F : Nat → Prop) : Prop := ∃ F', DeskAt w' gp S X F' ∧ (∀ y, F' y → F y ∨ w.heap.size ≤ y) ∧ Chg F w w'
theorem Moved.refl {w : World} {gp : Nat} {S : Sta} {X : Aux} {F : Nat → Prop} (h : DeskAt w gp S X F) : Moved w w gp S X F := ⟨F, h, fun _ hy => .inl hy, Chg.refl _ _⟩
theorem Moved.trans {w w1 w2 : World} {gp : Nat} {S1 S2 : Sta} {X1 X2 : Aux} {F : Nat → Prop} (h1 : Moved w w1 gp S1 X1 F) (h2 : ∀ F1, DeskAt w1 gp S1 X1 F1 → Moved w1 w2 gp S2 X2 F1) : Moved w w2 gp S2 X2 F := by
  obtain ⟨F1, hd, hF, hc⟩ := h1
  obtain ⟨F2, hd2, hF2, hc2⟩ := h2 F1 hd
  refine ⟨F2, hd2, fun y hy => ?_, hc.trans hc2 hF⟩
  rcases hF2 y hy with h | h
  · exact hF y h
  · exact .inr (Nat.le_trans hc.size h)
theorem Moved.below {w w1 w2 : World} {gp : Nat} {S : Sta} {X : Aux} {F : Nat → Prop} (h : Moved w w1 gp S X F) (hb : Below w1.heap.size w1 w2) : Moved w w2 gp S X F :=
  h.trans (fun F1 hd => ⟨F1, hd.keep (G := fun _ => False) (Chg.of_below hb) (fun _ _ h => h), fun _ hy => .inl hy, Chg.of_below hb⟩)
theorem Moved.desk {w w1 : World} {gp : Nat} {S : Sta} {X : Aux} {F : Nat → Prop} (h : Moved w w1 gp S X F) : ∃ F1, DeskAt w1 gp S X F1 := let ⟨F1, hd, _⟩ := h; ⟨F1, hd⟩
theorem Moved.step {w w1 : World} {gp : Nat} {S : Sta} {X : Aux} {F : Nat → Prop} (h : Moved w w1 gp S X F) : ∃ F1, DeskAt w1 gp S X F1 ∧ ∀ w2 S2 X2, Moved w1 w2 gp S2 X2 F1 → Moved w w2 gp S2 X2 F := by
  obtain ⟨F1, hd, hF, hc⟩ := h
  refine ⟨F1, hd, fun w2 S2 X2 h2 => ?_⟩
  obtain ⟨F2, hd2, hF2, hc2⟩ := h2
  refine ⟨F2, hd2, fun y hy => ?_, hc.trans hc2 hF⟩
  rcases hF2 y hy with h | h
  · exact hF y h
  · exact .inr (Nat.le_trans hc.size h)
theorem Moved.after {w w1 w2 : World} {gp : Nat} {S : Sta} {X : Aux} {F : Nat → Prop} (hb : Below w.heap.size w w1) (h : Moved w1 w2 gp S X F) : Moved w w2 gp S X F := by
  obtain ⟨F1, hd, hF, hc⟩ := h
  refine ⟨F1, hd, fun y hy => ?_, (Chg.of_below hb).trans hc (fun x hx => .inl hx)⟩
  rcases hF y hy with h | h
  · exact .inl h
  · exact .inr (Nat.le_trans hb.size h)
theorem moved_srv {w w' : World} {gp : Nat} {S : Sta} {X : Aux} {F : Nat → Prop} {po : Option Addr} {pc : Nat} {so : Option Addr} {sc : Nat} {wo : Option Addr} {wc : Nat} {yo : Option Addr} {yc : Nat} {ho : Option Addr} {hc B : Nat} (h : DeskX w gp S X F po pc so sc wo wc yo yc ho hc) (hg : F gp) (hlt : ∀ x, F x → x < w.heap.size) (ss : List Srv) (so' : Option Addr) (sc' : Nat) (op : Int)
    (hbox : w'.heap[gp]? = some (bDesk S.bud po S.pools.length pc so' ss.length sc' wo S.wts.length wc op ⟨.slice yo S.plan.length yc, S.begun, S.back, X.hb, .slice ho X.hps.length hc⟩))
    (hown : w'.ownsRow B 55 4 (.slice so' ss.length sc') ss.length (flatV ss)) (hblk : ∀ g, (Value.slice so' ss.length sc').ownBlock = some g → (Value.slice so S.srv.length sc).ownBlock = some g ∨ w.heap.size ≤ g)
    (hch : Chg (fun y => y = gp ∨ (Value.slice so S.srv.length sc).ownBlock = some y) w w') : Moved w w' gp { S with srv := ss } { X with op := op } F := by
  have hsz : ∀ g, F g → Nxt F w w' g := fun g hg => ⟨.inl hg, Nat.lt_of_lt_of_le (hlt g hg) hch.size⟩
  have hk : ∀ {ty : TypeId} {sz n : Nat} {v : Value} {cs : List Value}, Held w F ty sz v n cs → ty ≠ 55 → ty ≠ 82 → Held w' (Nxt F w w') ty sz v n cs := by
    intro ty sz n v cs hh h1 h2
    refine ⟨ownG_heap hh.own (fun j hj => hch.block j (hlt j (hh.blk j hj)) ?_), fun g hg => hsz g (hh.blk g hg)⟩
    rintro (e | e)
    · exact own_boxD hh.own h.box h2 (by rw [← e]; exact hj)
    · exact own_apartD hh.own h.s.own h1 hj e
  refine ⟨Nxt F w w', ⟨⟨po, pc, so', sc', wo, wc, yo, yc, ho, hc, hbox, hk h.p (by decide) (by decide), ⟨own_mono hown (Nat.zero_le _), fun g hg => ⟨?_, (hown.lt g hg).2⟩⟩, hk h.t (by decide) (by decide), hk h.l (by decide) (by decide), hk h.h (by decide) (by decide)⟩, hsz gp hg, fun x hx => hx.2⟩, fun y hy => hy.1, hch.mono ?_⟩
  · rcases hblk g hg with e | e
    · exact .inl (h.s.blk g e)
    · exact .inr e
  · rintro y (rfl | e)
    · exact hg
    · exact h.s.blk y e
theorem moved_wts {w w' : World} {gp : Nat} {S : Sta} {X : Aux} {F : Nat → Prop} {po : Option Addr} {pc : Nat} {so : Option Addr} {sc : Nat} {wo : Option Addr} {wc : Nat} {yo : Option Addr} {yc : Nat} {ho : Option Addr} {hc B : Nat} (h : DeskX w gp S X F po pc so sc wo wc yo yc ho hc) (hg : F gp) (hlt : ∀ x, F x → x < w.heap.size) (ws : List Wtr) (wo' : Option Addr) (wc' : Nat)
    (hbox : w'.heap[gp]? = some (bDesk S.bud po S.pools.length pc so S.srv.length sc wo' ws.length wc' X.op ⟨.slice yo S.plan.length yc, S.begun, S.back, X.hb, .slice ho X.hps.length hc⟩))
    (hown : w'.ownsRow B 61 2 (.slice wo' ws.length wc') ws.length (flatW ws)) (hblk : ∀ g, (Value.slice wo' ws.length wc').ownBlock = some g → (Value.slice wo S.wts.length wc).ownBlock = some g ∨ w.heap.size ≤ g)
    (hch : Chg (fun y => y = gp ∨ (Value.slice wo S.wts.length wc).ownBlock = some y) w w') : Moved w w' gp { S with wts := ws } X F := by
  have hsz : ∀ g, F g → Nxt F w w' g := fun g hg => ⟨.inl hg, Nat.lt_of_lt_of_le (hlt g hg) hch.size⟩
  have hk : ∀ {ty : TypeId} {sz n : Nat} {v : Value} {cs : List Value}, Held w F ty sz v n cs → ty ≠ 61 → ty ≠ 82 → Held w' (Nxt F w w') ty sz v n cs := by
    intro ty sz n v cs hh h1 h2
    refine ⟨ownG_heap hh.own (fun j hj => hch.block j (hlt j (hh.blk j hj)) ?_), fun g hg => hsz g (hh.blk g hg)⟩
    rintro (e | e)
    · exact own_boxD hh.own h.box h2 (by rw [← e]; exact hj)
    · exact own_apartD hh.own h.t.own h1 hj e
  refine ⟨Nxt F w w', ⟨⟨po, pc, so, sc, wo', wc', yo, yc, ho, hc, hbox, hk h.p (by decide) (by decide), hk h.s (by decide) (by decide), ⟨own_mono hown (Nat.zero_le _), fun g hg => ⟨?_, (hown.lt g hg).2⟩⟩, hk h.l (by decide) (by decide), hk h.h (by decide) (by decide)⟩, hsz gp hg, fun x hx => hx.2⟩, fun y hy => hy.1, hch.mono ?_⟩
  · rcases hblk g hg with e | e
    · exact .inl (h.t.blk g e)
    · exact .inr e
  · rintro y (rfl | e)
    · exact hg
    · exact h.t.blk y e
theorem dShut (gp : Nat) (id : Int) (S : Sta) (X : Aux) (F : Nat → Prop) (w : World) (h : DeskAt w gp S X F) (hq : S.srv.length ≤ 1099511627776) :
    Calls Tryz.prog 69 #[.pointer (some ⟨gp, 0, none⟩), .int .i64 id] w fun e w' => (∃ x, e = .returned x) ∧ Moved w w' gp (cShut S id) X F := by
  obtain ⟨po, pc, so, sc, wo, wc, yo, yc, ho, hc, hx⟩ := h.ex
  refine (shut_flat gp S.bud po _ pc so _ sc wo _ wc X.op _ id S.srv w hx.box (own_row hx.s.own) rfl hq).mono ?_
  rintro e w' ⟨he, vo, vc, k1, k2, k3⟩
  exact ⟨he, moved_srv hx h.gp h.lt (S.srv.filter (keepId id)) vo vc X.op k1 k2 (fun g hg => .inr (k2.lt g hg).1) (k3.mono (fun y hy => .inl hy))⟩
theorem dQuit (gp : Nat) (c : Int) (S : Sta) (X : Aux) (F : Nat → Prop) (w : World) (h : DeskAt w gp S X F) (hq : S.wts.length ≤ 1099511627776) :
    Calls Tryz.prog 82 #[.pointer (some ⟨gp, 0, none⟩), .int .i64 c] w fun e w' => (∃ x, e = .returned x) ∧ Moved w w' gp (cQuit S c) X F := by
  obtain ⟨po, pc, so, sc, wo, wc, yo, yc, ho, hc, hx⟩ := h.ex
  refine (quit_flat gp S.bud po _ pc so _ sc wo _ wc X.op _ c S.wts w hx.box (own_row hx.t.own) rfl hq).mono ?_
  rintro e w' ⟨he, vo, vc, k1, k2, k3⟩
  exact ⟨he, moved_wts hx h.gp h.lt (S.wts.filter (keepC c)) vo vc k1 k2 (fun g hg => .inr (k2.lt g hg).1) (k3.mono (fun y hy => .inl hy))⟩
theorem dHand (gp : Nat) (id c : Int) (S : Sta) (X : Aux) (F : Nat → Prop) (w : World) (h : DeskAt w gp S X F) (hq : S.srv.length ≤ 1099511627776) :
    Calls Tryz.prog 83 #[.pointer (some ⟨gp, 0, none⟩), .int .i64 id, .int .i64 c] w fun e w' => (∃ x, e = .returned x) ∧ Moved w w' gp (cHand S id c) X F := by
  obtain ⟨po, pc, so, sc, wo, wc, yo, yc, ho, hc, hx⟩ := h.ex
  refine (hand_flat 0 gp S.bud po _ pc so _ sc wo _ wc X.op _ id c S.srv w hx.box hx.s.own rfl hq).mono ?_
  rintro e w' ⟨he, k1, k2, k3⟩
  have hl : (S.srv.map (handed id c)).length = S.srv.length := List.length_map _
  have := moved_srv (B := 0) hx h.gp h.lt (S.srv.map (handed id c)) so sc X.op (by rw [hl]; exact k1) (by rw [hl]; exact k2) (fun g hg => .inl (by rw [hl] at hg; exact hg)) (k3.mono (fun y hy => .inr hy))
  exact ⟨he, this⟩
theorem dJoin (gp : Nat) (c : Int) (nm : ByteArray) (S : Sta) (X : Aux) (F : Nat → Prop) (w : World) (h : DeskAt w gp S X F) (hq : S.wts.length + 1 ≤ 1099511627776) :
    Calls Tryz.prog 79 #[.pointer (some ⟨gp, 0, none⟩), .int .i64 c, .string nm] w fun e w' => (∃ x, e = .returned x) ∧ Moved w w' gp (joined S c nm) X F := by
  obtain ⟨po, pc, so, sc, wo, wc, yo, yc, ho, hc, hx⟩ := h.ex
  refine (join_flat 0 gp S.bud po _ pc so _ sc wo _ wc X.op _ c nm S.wts w hx.box hx.t.own (Nat.zero_le _) hq).mono ?_
  rintro e w' ⟨he, g, vc, k1, k2, k3, k4⟩
  have hl : (S.wts ++ [(⟨c, nm⟩ : Wtr)]).length = S.wts.length + 1 := by simp
  have := moved_wts (B := 0) hx h.gp h.lt (S.wts ++ [⟨c, nm⟩]) (some ⟨g, 0, none⟩) vc (by rw [hl]; exact k1) (by rw [hl]; exact k2) (fun y hy => by
    have e : g = y := by simpa [Value.ownBlock] using hy
    rw [← e]; exact k4) k3
  exact ⟨he, this⟩
theorem dOpen (gp : Nat) (x : Pl) (c : Int) (S : Sta) (X : Aux) (F : Nat → Prop) (w : World) (h : DeskAt w gp S X F) (hq : S.srv.length + 1 ≤ 1099511627776) (ho : 0 ≤ X.op ∧ X.op < 9223372036854775807) :
    Calls Tryz.prog 127 #[.pointer (some ⟨gp, 0, none⟩), plA x, .int .i64 c] w fun e w' => (∃ x, e = .returned x) ∧ Moved w w' gp (cOpen S X.op x c) { X with op := X.op + 1 } F := by
  obtain ⟨po, pc, so, sc, wo, wc, yo, yc, ho', hc, hx⟩ := h.ex
  refine (open_flat 0 gp S.bud po _ pc so _ sc wo _ wc X.op _ x.nm x.sz x.wt x.fr c S.srv w hx.box hx.s.own (Nat.zero_le _) hq ho).mono ?_
  rintro e w' ⟨he, g, vc, k1, k2, k3, k4⟩
  have hl : (S.srv ++ [(⟨X.op + 1, x.nm, x.fr, c⟩ : Srv)]).length = S.srv.length + 1 := by simp
  have := moved_srv (B := 0) hx h.gp h.lt (S.srv ++ [⟨X.op + 1, x.nm, x.fr, c⟩]) (some ⟨g, 0, none⟩) vc (X.op + 1) (by rw [hl]; exact k1) (by rw [hl]; exact k2) (fun y hy => by
    have e : g = y := by simpa [Value.ownBlock] using hy
    rw [← e]; exact k4) k3
  exact ⟨he, this⟩
end Lw
end Go.Proofs.YtohbonfngeblkaaGreat
