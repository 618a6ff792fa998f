import Derived.Test.YtohbonfngeblkaaGreatMnAr
import Derived.Test.YtohbonfngeblkaaGreatProg
import Derived.WalkKit
import Derived.WalkSpells
import Derived.WalkLawsBesides
import Derived.BigQuiet
import Derived.Deep.QuietTactic
namespace Go.Proofs.YtohbonfngeblkaaGreat
open Go.RowKit
namespace Lw
open Co
structure OnI (w0 w : World) (gg gp : Nat) (S0 : Sta) (X0 : Aux) (F0 : Nat → Prop) (S : Sta) (X : Aux) (Fp : Nat → Prop) (A B : Int × List Pl) (ao : Option Addr) (ac : Nat) (bo : Option Addr) (bc : Nat) (k : Nat) : Prop where
  game : GameAt w gg gp S X Fp A B ao ac bo bc
  run : Run1 S X
  pot : pot (S, X.op) ≤ pot (S0, X0.op) + k
  fp : ∀ y, Fp y → F0 y ∨ w0.heap.size ≤ y
  chg : Chg F0 w0 w
theorem OnI.start {w : World} {gg gp : Nat} {S : Sta} {X : Aux} {Fp : Nat → Prop} {A B : Int × List Pl} {ao : Option Addr} {ac : Nat} {bo : Option Addr} {bc : Nat} (h : GameAt w gg gp S X Fp A B ao ac bo bc) (hr : Run1 S X) : OnI w w gg gp S X Fp S X Fp A B ao ac bo bc 0 := ⟨h, hr, by omega, fun _ hy => .inl hy, Chg.refl _ _⟩
theorem OnI.moved {w0 w w' : World} {gg gp : Nat} {S0 : Sta} {X0 : Aux} {F0 : Nat → Prop} {S : Sta} {X : Aux} {Fp : Nat → Prop} {A B : Int × List Pl} {ao : Option Addr} {ac : Nat} {bo : Option Addr} {bc : Nat} {k : Nat} (h : OnI w0 w gg gp S0 X0 F0 S X Fp A B ao ac bo bc k) {S' : Sta} {X' : Aux} (hm : Moved w w' gp S' X' Fp) (hr : Run1 S' X') (hp : Lw.pot (S', X'.op) ≤ Lw.pot (S, X.op) + 1) : ∃ Fp', OnI w0 w' gg gp S0 X0 F0 S' X' Fp' A B ao ac bo bc (k + 1) := by
  obtain ⟨Fp', g1, g2, g3⟩ := h.game.moved hm
  refine ⟨Fp', g1, hr, by have := h.pot; omega, fun y hy => ?_, h.chg.trans g3 (fun x hx => h.fp x hx)⟩
  rcases g2 y hy with h1 | h1
  · exact h.fp y h1
  · exact .inr (Nat.le_trans h.chg.size h1)
theorem OnI.below {w0 w w' : World} {gg gp : Nat} {S0 : Sta} {X0 : Aux} {F0 : Nat → Prop} {S : Sta} {X : Aux} {Fp : Nat → Prop} {A B : Int × List Pl} {ao : Option Addr} {ac : Nat} {bo : Option Addr} {bc : Nat} {k : Nat} (h : OnI w0 w gg gp S0 X0 F0 S X Fp A B ao ac bo bc k) (hb : Below w.heap.size w w') : OnI w0 w' gg gp S0 X0 F0 S X Fp A B ao ac bo bc k :=
  ⟨h.game.below hb, h.run, h.pot, h.fp, h.chg.trans (Chg.of_below (F := fun _ => False) hb) (fun _ hx => hx.elim)⟩
theorem run_lease {S T : Sta} {X : Aux} {o : Int} (h : Run1 S X) (hg : Good T o) (hr : Rest S T) : Run1 T { X with op := o } := by
  obtain ⟨g, hg'⟩ := h.pln
  exact ⟨hg, ⟨g, pln_rest hg' hr ⟨rfl, rfl⟩⟩, h.hps, by rw [hr.2.2.1]; exact h.plan⟩
theorem ok_run {S : Sta} {X : Aux} (h : Run1 S X) (hp : Lw.pot (S, X.op) ≤ 549755813888) : Ok S X.op := by
  obtain ⟨g, hg⟩ := h.pln
  exact ⟨h.good.fine.inv, hp, by have := hg.tab.len; omega⟩
theorem fits_calm {S : Sta} {X : Aux} (h : Run1 S X) (hp : Lw.pot (S, X.op) ≤ 549755813888) : Fits S := by
  obtain ⟨g, hg⟩ := h.pln
  have h6 := hg.tab.len
  have h5 := h.plan
  have h1 := h.good.fine.inv.len
  have h2 := h.good.fine.inv.op0
  unfold Lw.pot at hp
  simp only at hp
  exact ⟨by omega, by omega, by omega, by omega⟩
def CalmG (gg gp : Nat) (S : Sta) (X : Aux) (Fp : Nat → Prop) (A B : Int × List Pl) (ao : Option Addr) (ac : Nat) (bo : Option Addr) (bc : Nat) (w w' : World) (e : Ending) : Prop :=
  e = .returned (.bool true) ∧ ∃ S' X' Fp', OnI w w' gg gp S X Fp S' X' Fp' A B ao ac bo bc 200 ∧ Calm S' ∧ Rest S S' ∧ X'.hb = X.hb ∧ X'.hps = X.hps
set_option maxRecDepth 20000 in
set_option maxHeartbeats 8000000 in
theorem gCalm (gg gp : Nat) (S : Sta) (X : Aux) (Fp : Nat → Prop) (A B : Int × List Pl) (ao : Option Addr) (ac : Nat) (bo : Option Addr) (bc : Nat) (w : World) (h : GameAt w gg gp S X Fp A B ao ac bo bc) (hr : Run1 S X) (hp : pot (S, X.op) + 300 ≤ 549755813888) :
    Calls Tryz.prog 46 #[.pointer (some ⟨gg, 0, none⟩)] w fun e w' => CalmG gg gp S X Fp A B ao ac bo bc w w' e := by
  have HI : Hid (OnI w w gg gp S X Fp S X Fp A B ao ac bo bc 0) := OnI.start h hr
  have HWC : Hid (∀ y ∈ S.wts, ((1 : Nat) : Int) ≤ y.client) := fun y hy => (hr.good.fine.wc y hy).1
  clear h hr
  go_enter Tryz.func46, Tryz.ntmps46
  go_wp2_with fail
  go_loopw [3] (fun i wr => ∃ c : Nat, 1 ≤ c ∧ c ≤ 100 ∧ i = .int .i64 c ∧ Hid (∃ S' X' Fp', OnI w wr gg gp S X Fp S' X' Fp' A B ao ac bo bc c ∧ Rest S S' ∧ X'.hb = X.hb ∧ X'.hps = X.hps ∧ ∀ y ∈ S'.wts, (c : Int) ≤ y.client)) (fun i _ => 100 - (intOf i).toNat)
  case atStart =>
    have hi := HI.out
    exact ⟨1, Nat.le_refl _, by omega, rfl, S, X, Fp, ⟨hi.game, hi.run, by omega, hi.fp, hi.chg⟩, Rest.refl _, rfl, rfl, HWC.out⟩
  case round =>
    obtain ⟨c, hc1, hc2, rfl, HH⟩ := hrel
    obtain ⟨S', X', Fp', hon, hrest, hhb, hhp, hlow⟩ := HH.out
    have HON := hideIt hon
    have HRS : Hid (Rest S S' ∧ X'.hb = X.hb ∧ X'.hps = X.hps ∧ ∀ y ∈ S'.wts, (c : Int) ≤ y.client) := ⟨hrest, hhb, hhp, hlow⟩
    obtain ⟨x0, x1, x2, x3, x4⟩ := gblk5 hon.game.box
    by_cases hlt : c ≤ 99
    · have hci : (c : Int) ≤ 99 := by omega
      have HLV := hideIt (pLeave gp (c : Int) S' X' Fp' wr hon.game.desk (ok_run hon.run (by have := hon.pot; omega)))
      clear hon hrest hhb hhp hlow
      go_wp2_with fail
      refine HLV.out.mono ?_
      rintro e w1 ⟨rfl, hm⟩
      have hpo := leave_pot S' X'.op (c : Int)
      have hgd := (good_leave HON.out.run.good (c : Int)).1
      obtain ⟨Fp2, hon2⟩ := HON.out.moved hm (run_lease HON.out.run hgd hpo.2) hpo.1
      have HN : Hid (∃ S' X' Fp', OnI w w1 gg gp S X Fp S' X' Fp' A B ao ac bo bc (c + 1) ∧ Rest S S' ∧ X'.hb = X.hb ∧ X'.hps = X.hps ∧ ∀ y ∈ S'.wts, ((c + 1 : Nat) : Int) ≤ y.client) :=
        ⟨_, _, Fp2, hon2, HRS.out.1.trans hpo.2, HRS.out.2.1, HRS.out.2.2.1, fun y hy => by have := leave_low ⟨by omega, hci⟩ HRS.out.2.2.2 y hy; omega⟩
      clear hm hpo hgd hon2 x0 x1 x2 x3 x4
      go_wp2_with fail
      go_roundw
      case rel => exact ⟨c + 1, by omega, by omega, by go_num, HN.out⟩
      case measure => simp [intOf]; omega
    · have hci : ¬ (c : Int) ≤ 99 := by omega
      have hc100 : c = 100 := by omega
      have HW0 : Hid (S'.wts = []) := by
        show _ = _
        cases hw : S'.wts with
        | nil => rfl
        | cons y r =>
          have h1 := hlow y (by rw [hw]; simp)
          have h2 := (hon.run.good.fine.wc y (by rw [hw]; simp)).2
          omega
      have HS0 : Hid (∀ x ∈ S'.srv, x.client = 0 ∨ ((1 : Nat) : Int) ≤ x.client) := fun x hx => by have := (hon.run.good.fine.sc x hx).1; omega
      clear hon hrest hhb hhp hlow x0 x1 x2 x3 x4
      have HC100 := hideIt hc100
      clear hc100
      go_wp2_with fail
      go_loopw [4] (fun i wr => ∃ d : Nat, 1 ≤ d ∧ d ≤ 100 ∧ i = .int .i64 d ∧ Hid (∃ S' X' Fp', OnI w wr gg gp S X Fp S' X' Fp' A B ao ac bo bc (100 + d) ∧ Rest S S' ∧ X'.hb = X.hb ∧ X'.hps = X.hps ∧ S'.wts = [] ∧ ∀ x ∈ S'.srv, x.client = 0 ∨ (d : Int) ≤ x.client)) (fun i _ => 100 - (intOf i).toNat)
      case atStart =>
        have hi := HON.out
        refine ⟨1, Nat.le_refl _, by omega, rfl, S', X', Fp', ⟨hi.game, hi.run, by have := hi.pot; have := HC100.out; omega, hi.fp, hi.chg⟩, HRS.out.1, HRS.out.2.1, HRS.out.2.2.1, HW0.out, HS0.out⟩
      case round =>
        clear HON HRS HW0 HS0 HC100 hci hlt hc1 hc2 HH S' X' Fp'
        obtain ⟨d, hd1, hd2, rfl, HH⟩ := hrel
        obtain ⟨S', X', Fp', hon, hrest, hhb, hhp, hw0, hlow⟩ := HH.out
        have HON := hideIt hon
        have HRS : Hid (Rest S S' ∧ X'.hb = X.hb ∧ X'.hps = X.hps ∧ S'.wts = [] ∧ ∀ x ∈ S'.srv, x.client = 0 ∨ (d : Int) ≤ x.client) := ⟨hrest, hhb, hhp, hw0, hlow⟩
        obtain ⟨x0, x1, x2, x3, x4⟩ := gblk5 hon.game.box
        by_cases hlt : d ≤ 99
        · have hci : (d : Int) ≤ 99 := by omega
          have HLV := hideIt (pDone gp (d : Int) S' X' Fp' wr hon.game.desk (ok_run hon.run (by have := hon.pot; omega)))
          clear hon hrest hhb hhp hw0 hlow
          go_wp2_with fail
          refine HLV.out.mono ?_
          rintro e w1 ⟨rfl, hm⟩
          have hpo := done_pot S' X'.op (d : Int)
          have hgd := (good_done HON.out.run.good (d : Int) 0 0).1
          obtain ⟨Fp2, hon2⟩ := HON.out.moved hm (run_lease HON.out.run hgd hpo.2) hpo.1
          have hdl := done_low HON.out.run.good (c := (d : Int)) ⟨by omega, hci⟩ HRS.out.2.2.2.1 HRS.out.2.2.2.2
          have HN : Hid (∃ S' X' Fp', OnI w w1 gg gp S X Fp S' X' Fp' A B ao ac bo bc (100 + (d + 1)) ∧ Rest S S' ∧ X'.hb = X.hb ∧ X'.hps = X.hps ∧ S'.wts = [] ∧ ∀ x ∈ S'.srv, x.client = 0 ∨ ((d + 1 : Nat) : Int) ≤ x.client) :=
            ⟨_, _, Fp2, hon2, HRS.out.1.trans hpo.2, HRS.out.2.1, HRS.out.2.2.1, hdl.1, fun x hx => by have := hdl.2 x hx; omega⟩
          clear hm hpo hgd hon2 hdl x0 x1 x2 x3 x4
          go_wp2_with fail
          go_roundw
          case rel => exact ⟨d + 1, by omega, by omega, by go_num, HN.out⟩
          case measure => simp [intOf]; omega
        · have hci : ¬ (d : Int) ≤ 99 := by omega
          have HCA : Hid (Calm S') := ⟨hw0, fun x hx => by have h1 := hlow x hx; have h2 := (hon.run.good.fine.sc x hx).2; omega⟩
          have HF : Hid (∀ wz, Below wr.heap.size wr wz → CalmG gg gp S X Fp A B ao ac bo bc w wz (.returned (.bool true))) := fun wz hz => by
            have hi := HON.out.below hz
            exact ⟨rfl, S', X', Fp', ⟨hi.game, hi.run, by have := hi.pot; omega, hi.fp, hi.chg⟩, HCA.out, HRS.out.1, HRS.out.2.1, HRS.out.2.2.1⟩
          have HSH := hideIt (show_any gp S' X' Fp' wr hon.game.desk (fits_calm hon.run (by have := hon.pot; omega)))
          have hl := hon.run.good.fine.inv.len
          have hl2 := hon.run.good.fine.inv.op0
          have hpt := hon.pot
          have hsl : S'.srv.length ≤ 1099511627776 := by unfold Lw.pot at hpt hp; simp only at hpt hp; omega
          clear hon hrest hhb hhp hw0 hlow hl hl2 hpt
          go_wp2_with fail
          refine HSH.out.mono ?_
          rintro e w2 ⟨v, rfl, hnew, hb2⟩
          obtain ⟨po, pc, so, sc, wo, wc, qo, tc⟩ := v
          obtain ⟨V, hV⟩ : ∃ V, V = w2.alloc (bSta S' ⟨po, pc, so, sc, wo, wc, qo, tc⟩) := ⟨_, rfl⟩
          obtain ⟨n2, hn2⟩ : ∃ n2, S'.srv.length = n2 := ⟨_, rfl⟩
          obtain ⟨n3, hn3⟩ : ∃ n3, S'.wts.length = n3 := ⟨_, rfl⟩
          have hn30 : n3 = 0 := by rw [← hn3, HCA.out.1]; rfl
          subst hn30
          have KV : Hid (V = w2.alloc (.cells #[.int .i64 S'.bud, .slice po S'.pools.length pc, .slice so n2 sc, .slice wo 0 wc, .slice qo S'.plan.length tc, .bool S'.begun, .bool S'.back] 33) ∧ V.heap[w2.heap.size]? = some (.cells #[.int .i64 S'.bud, .slice po S'.pools.length pc, .slice so n2 sc, .slice wo 0 wc, .slice qo S'.plan.length tc, .bool S'.begun, .bool S'.back] 33) ∧ Below wr.heap.size wr V ∧ RowAt V (.slice so n2 sc) n2 (flatV S'.srv) ∧ S'.srv.length = n2) := by
            have e1 : bSta S' ⟨po, pc, so, sc, wo, wc, qo, tc⟩ = .cells #[.int .i64 S'.bud, .slice po S'.pools.length pc, .slice so n2 sc, .slice wo 0 wc, .slice qo S'.plan.length tc, .bool S'.begun, .bool S'.back] 33 := by
              simp only [bSta, hn2, hn3]
            rw [e1] at hV
            refine ⟨hV, by rw [hV]; exact heap_alloc_at _ _ rfl, by rw [hV]; exact nx_trans hb2 (nx_alloc _ _), ?_, hn2⟩
            have h1 := (own_row hnew.s).nx (nx_alloc w2 (.cells #[.int .i64 S'.bud, .slice po S'.pools.length pc, .slice so n2 sc, .slice wo 0 wc, .slice qo S'.plan.length tc, .bool S'.begun, .bool S'.back] 33))
            rw [← hV, hn2] at h1
            exact h1
          rw [hn2] at hsl
          have hag : staA S' ⟨po, pc, so, sc, wo, wc, qo, tc⟩ = .agg #[.int .i64 S'.bud, .slice po S'.pools.length pc, .slice so n2 sc, .slice wo 0 wc, .slice qo S'.plan.length tc, .bool S'.begun, .bool S'.back] := by rw [← hn2, ← hn3]
          rw [hag]
          clear hag
          clear hnew hb2 hV hn2 hn3 x0 x1 x2 x3 x4
          obtain ⟨a0, a1, a2, a3, a4, a5, a6⟩ := gblk7 KV.out.2.1
          go_upto_region 10 with fail
          rw [← KV.out.1]
          go_wp2_with fail
          go_loop [6] (fun i => ∃ k : Nat, k ≤ n2 ∧ i = .int .i64 k) (fun i => n2 - (intOf i).toNat)
          case atStart => exact ⟨0, Nat.zero_le _, rfl⟩
          case round =>
            obtain ⟨k, hk, rfl⟩ := hrel
            by_cases hkt : k < n2
            · obtain ⟨⟨s0, s1, s2, s3⟩, hps⟩ : ∃ p, S'.srv[k]? = some p := ⟨_, List.getElem?_eq_getElem (by rw [KV.out.2.2.2.2]; exact hkt)⟩
              obtain ⟨bl, off, hao, hbl, c0, c1, c2, c3⟩ := sv_at KV.out.2.2.2.1 hps
              subst hao
              simp only at c0 c1 c2 c3
              have h0 := HCA.out.2 _ (List.mem_of_getElem? hps)
              simp only at h0
              subst h0
              have hki : (k : Int) < (n2 : Int) := by omega
              clear hps
              go_wp2_with fail
              go_round
              case rel => exact ⟨k + 1, by omega, by go_num⟩
              case measure => simp [intOf]; omega
            · have hki : ¬ (k : Int) < (n2 : Int) := by omega
              go_wp2_with fail
              go_ret
              exact HF.out V KV.out.2.2.1
def ThruG (g : Int × List Pl) (gg gp : Nat) (S : Sta) (X : Aux) (Fp : Nat → Prop) (A B : Int × List Pl) (ao : Option Addr) (ac : Nat) (bo : Option Addr) (bc : Nat) (w w' : World) (e : Ending) : Prop :=
  e = .returned (.bool true) ∧ ∃ S' X' Fp', OnI w w' gg gp S X Fp S' X' Fp' A B ao ac bo bc 200 ∧ Calm S' ∧ Pln S' X' g ∧ S'.plan = []
theorem run_turn {S : Sta} {X : Aux} (h : Run1 S X) : Run1 (cTurn S X).S (cTurn S X).X :=
  (step_run (A := (1, [])) (B := (1, [])) (kd := 5) (a := 0) (p := 0) ⟨by simp, by simp, by simp, by simp, List.Pairwise.nil⟩ ⟨by simp, by simp, by simp, by simp, List.Pairwise.nil⟩ h (.inr (.inr (.inr (.inr (.inl ⟨rfl, rfl, rfl, rfl, rfl⟩)))))).1
set_option maxRecDepth 20000 in
set_option maxHeartbeats 8000000 in
theorem gThrough (gg gp : Nat) (S : Sta) (X : Aux) (Fp : Nat → Prop) (A B : Int × List Pl) (ao : Option Addr) (ac : Nat) (bo : Option Addr) (bc : Nat) (w : World) (g : Int × List Pl) (h : GameAt w gg gp S X Fp A B ao ac bo bc) (hr : Run1 S X) (hc : Calm S) (hpl : Pln S X g) (hp : pot (S, X.op) + 300 ≤ 549755813888) :
    Calls Tryz.prog 47 #[.pointer (some ⟨gg, 0, none⟩)] w fun e w' => ThruG g gg gp S X Fp A B ao ac bo bc w w' e := by
  have HI : Hid (OnI w w gg gp S X Fp S X Fp A B ao ac bo bc 0 ∧ Calm S ∧ Pln S X g) := ⟨OnI.start h hr, hc, hpl⟩
  have HSH := hideIt (show_any gp S X Fp w h.desk (fits_calm hr (by omega)))
  obtain ⟨x0, x1, x2, x3, x4⟩ := gblk5 h.box
  have hp56 := hr.plan
  obtain ⟨n, hn⟩ : ∃ n, S.plan.length = n := ⟨_, rfl⟩
  rw [hn] at hp56
  have HN := hideIt hn
  clear h hr hc hpl
  go_enter Tryz.func47, Tryz.ntmps47
  go_wp2_with fail
  refine HSH.out.mono ?_
  rintro e w2 ⟨v, rfl, hnew, hb2⟩
  obtain ⟨V, hV⟩ : ∃ V, V = w2.alloc (bSta S v) := ⟨_, rfl⟩
  have KV : Hid (V = w2.alloc (.cells #[.int .i64 S.bud, .slice v.po S.pools.length v.pc, .slice v.so S.srv.length v.sc, .slice v.wo S.wts.length v.wc, .slice v.to n v.tc, .bool S.begun, .bool S.back] 33) ∧ V.heap[w2.heap.size]? = some (.cells #[.int .i64 S.bud, .slice v.po S.pools.length v.pc, .slice v.so S.srv.length v.sc, .slice v.wo S.wts.length v.wc, .slice v.to n v.tc, .bool S.begun, .bool S.back] 33) ∧ Below w.heap.size w V) := by
    have e1 : bSta S v = .cells #[.int .i64 S.bud, .slice v.po S.pools.length v.pc, .slice v.so S.srv.length v.sc, .slice v.wo S.wts.length v.wc, .slice v.to n v.tc, .bool S.begun, .bool S.back] 33 := by simp only [bSta, hn]
    rw [e1] at hV
    exact ⟨hV, by rw [hV]; exact heap_alloc_at _ _ rfl, by rw [hV]; exact nx_trans hb2 (nx_alloc _ _)⟩
  have hag : staA S v = .agg #[.int .i64 S.bud, .slice v.po S.pools.length v.pc, .slice v.so S.srv.length v.sc, .slice v.wo S.wts.length v.wc, .slice v.to n v.tc, .bool S.begun, .bool S.back] := by rw [← hn]
  rw [hag]
  clear hag
  clear hnew hb2 hV x0 x1 x2 x3 x4
  obtain ⟨a0, a1, a2, a3, a4, a5, a6⟩ := gblk7 KV.out.2.1
  clear hn
  go_upto_region 2 with fail
  rw [← KV.out.1]
  go_wp2_with fail
  clear a0 a1 a2 a3 a4 a5 a6
  go_loopw [4] (fun i wr => ∃ m : Nat, m ≤ n ∧ i = .int .i64 m ∧ Hid (∃ S' X' Fp', OnI w wr gg gp S X Fp S' X' Fp' A B ao ac bo bc (n - m) ∧ Calm S' ∧ Pln S' X' g ∧ S'.plan.length = m)) (fun i _ => (intOf i).toNat)
  case atStart =>
    have hi := HI.out.1.below KV.out.2.2
    exact ⟨n, Nat.le_refl _, rfl, S, X, Fp, by rw [Nat.sub_self]; exact hi, HI.out.2.1, HI.out.2.2, HN.out⟩
  case round =>
    obtain ⟨m, hm, rfl, HH⟩ := hrel
    obtain ⟨S', X', Fp', hon, hcal, hpln, hlen⟩ := HH.out
    have HON : Hid (OnI w wr gg gp S X Fp S' X' Fp' A B ao ac bo bc (n - m) ∧ Calm S' ∧ Pln S' X' g ∧ S'.plan.length = m) := ⟨hon, hcal, hpln, hlen⟩
    obtain ⟨x0, x1, x2, x3, x4⟩ := gblk5 hon.game.box
    have HTU := hideIt (pTurn gp S' X' Fp' wr hon.game.desk (ok_run hon.run (by have := hon.pot; omega)) (by have := hpln.tab.len; omega) (by have := hon.run.plan; omega) (fun s hs => okN_ok (hpln.ok s hs)))
    have HTA := hideIt (turn_all hon.run.good hpln)
    have HRT := hideIt (run_turn hon.run)
    by_cases hm0 : m = 0
    · subst hm0
      have hpe : S'.plan = [] := List.length_eq_zero_iff.1 hlen
      have e : cTurn S' X' = ⟨S', X', 0, 14, 0⟩ := by unfold cTurn; rw [hpe]
      rw [e] at HTU
      simp only at HTU
      have HPE := hideIt hpe
      clear hon hcal hpln hlen hpe e
      go_wp2_with fail
      refine HTU.out.mono ?_
      rintro e w3 ⟨rfl, hm3⟩
      obtain ⟨Fp2, hon2⟩ := HON.out.1.moved hm3 HON.out.1.run (by omega)
      have HF : Hid (ThruG g gg gp S X Fp A B ao ac bo bc w w3 (.returned (.bool true))) := ⟨rfl, S', X', Fp2, ⟨hon2.game, hon2.run, by have := hon2.pot; omega, hon2.fp, hon2.chg⟩, HON.out.2.1, HON.out.2.2.1, HPE.out⟩
      clear hm3 hon2 x0 x1 x2 x3 x4
      go_wp2_with fail
      go_ret
      exact HF.out
    · obtain ⟨q, hq⟩ : ∃ q, m = q + 1 := ⟨m - 1, by omega⟩
      have hpc : ∃ s r, S'.plan = s :: r := by
        cases hpe : S'.plan with
        | nil => rw [hpe] at hlen; simp at hlen; omega
        | cons s r => exact ⟨s, r, rfl⟩
      obtain ⟨s, r, hpe⟩ := hpc
      have hrl : r.length = q := by rw [hpe] at hlen; simp at hlen; omega
      obtain ⟨t1, t2, t3, t4⟩ := turn_calm hon.run.good hpln hcal hpe
      rw [hrl] at t1
      obtain ⟨⟨D, Y, nn, er, ln⟩, hT⟩ : ∃ T, cTurn S' X' = T := ⟨_, rfl⟩
      rw [hT] at HTU HTA HRT t1 t2 t3 t4
      simp only at HTU t1 t2 t3 t4
      subst t1 t2
      have HD : Hid (D.plan.length = q ∧ Calm D) := ⟨by rw [t3]; exact hrl, t4⟩
      have hmi : (m : Int) > 0 := by omega
      have hmn : 0 < m := by omega
      have hmw : IntKind.i64.wrap ((m : Int) - 1) = (q : Int) := by rw [IntWalk.i64_in _ (by omega)]; omega
      have HQ := hideIt hq
      clear hon hcal hpln hlen hpe hT t3 t4 hrl hq
      go_wp2_with fail
      refine HTU.out.mono ?_
      rintro e w3 ⟨rfl, hm3⟩
      obtain ⟨Fp2, hon2⟩ := HON.out.1.moved hm3 HRT.out (by have := HTA.out.2.2.2; omega)
      have HNX : Hid (∃ S' X' Fp', OnI w w3 gg gp S X Fp S' X' Fp' A B ao ac bo bc (n - q) ∧ Calm S' ∧ Pln S' X' g ∧ S'.plan.length = q) := by
        refine ⟨D, Y, Fp2, ?_, HD.out.2, HTA.out.2.1, HD.out.1⟩
        have e : n - q = n - m + 1 := by have := HQ.out; omega
        rw [e]; exact hon2
      have hqm : q < m := by have := HQ.out; omega
      clear hm3 hon2 x0 x1 x2 x3 x4
      go_wp2_with fail
      go_roundw
      case rel => exact ⟨q, by omega, by first | rfl | go_num, HNX.out⟩
      case measure => simp [intOf]; omega
end Lw
end Go.Proofs.YtohbonfngeblkaaGreat
namespace Go.Proofs.YtohbonfngeblkaaGreat
open Go.RowKit
namespace Lw
open Co
theorem step_rest {A B : Int × List Pl} {kd a p : Int} {S : Sta} {X : Aux} {S' : Sta} {X' : Aux} {n er : Int} (hk : kd ≤ 4) (hs : StepR A B kd a p S X S' X' n er) : Rest S S' ∧ X'.hb = X.hb ∧ X'.hps = X.hps := by
  rcases hs with ⟨_, rfl, rfl, _⟩ | ⟨_, rfl, rfl, _⟩ | ⟨_, rfl, rfl, _⟩ | ⟨_, rfl, rfl, _⟩ | ⟨h, _⟩ | ⟨h, _⟩ | ⟨h, _⟩ | ⟨_, rfl, rfl, _⟩
  · exact ⟨(ask_pot S X.op a (gNm A.2 B.2 p)).2, rfl, rfl⟩
  · exact ⟨(done_pot S X.op a).2, rfl, rfl⟩
  · exact ⟨(leave_pot S X.op a).2, rfl, rfl⟩
  · exact ⟨(crash_pot S X.op a).2, rfl, rfl⟩
  · omega
  · omega
  · omega
  · exact ⟨Rest.refl _, rfl, rfl⟩
def Home (A : Int × List Pl) (S : Sta) (X : Aux) : Prop := S.plan ≠ [] → S.back = false → (X.hb, X.hps) = A
theorem home_rest {A : Int × List Pl} {S S' : Sta} {X X' : Aux} (h : Home A S X) (hr : Rest S S') (hx : X'.hb = X.hb ∧ X'.hps = X.hps) : Home A S' X' := by
  unfold Home at h ⊢
  rw [hr.2.2.1, hr.2.2.2.2, hx.1, hx.2]
  exact h
theorem home_turn {A : Int × List Pl} {S : Sta} {X : Aux} {g : Int × List Pl} (hg : Good S X.op) (hp : Pln S X g) (h : Home A S X) : Home A (cTurn S X).S (cTurn S X).X := by
  cases hpl : S.plan with
  | nil =>
    have e : cTurn S X = ⟨S, X, 0, 14, 0⟩ := by unfold cTurn; rw [hpl]
    rw [e]; exact h
  | cons s r =>
    obtain ⟨R, t, hb, hsv, _⟩ := turn_mid hg hp hpl
    obtain ⟨⟨T, o⟩, hT⟩ : ∃ q, cTurnS s.kind s.name s.n S.begun S X.op = q := ⟨_, rfl⟩
    rw [hT] at hsv
    simp only at hsv
    have e : cTurn S X = ⟨(cTurned T { X with op := o } (cEnded s.kind s.name s.n T)).1, (cTurned T { X with op := o } (cEnded s.kind s.name s.n T)).2, (cTurned T { X with op := o } (cEnded s.kind s.name s.n T)).1.plan.length, 0, 0⟩ := by
      unfold cTurn
      rw [hpl]
      simp only
      rw [hT]
    rw [e]
    simp only
    have hbk : T.back = S.back := by rw [hsv.rest.2.2.2.2, hb.tab.2.2.2.2]
    have hm : S.back = false → (X.hb, X.hps) = A := fun k => h (by rw [hpl]; simp) k
    unfold Home
    cases hd : cEnded s.kind s.name s.n T with
    | true =>
      by_cases hr : T.plan.tail.length = 0
      · rw [turned_yes hr]
        intro hne
        exact absurd (List.length_eq_zero_iff.1 hr) hne
      · rw [turned_on hr]
        intro _ k
        exact hm (hbk.symm.trans k)
    | false =>
      have e2 : cTurned T { X with op := o } false = ({ T with begun := true }, { X with op := o }) := by unfold cTurned; rw [if_neg (by simp)]
      rw [e2]
      intro _ k
      exact hm (hbk.symm.trans k)
theorem step_goal {A B T : Int × List Pl} {kd a p : Int} {S : Sta} {X : Aux} {S' : Sta} {X' : Aux} {n er : Int} (hg : Good S X.op) (hp : Pln S X T) (h : Home A S X) (hk : kd ≠ 6) (hs : StepR A B kd a p S X S' X' n er) : (kd = 7 ∧ er = 0 → Pln S' X' A ∧ Home A S' X') ∧ (¬ (kd = 7 ∧ er = 0) → Pln S' X' T ∧ Home A S' X') := by
  by_cases h4 : kd ≤ 4
  · obtain ⟨h1, h2⟩ := step_rest h4 hs
    exact ⟨fun h => by omega, fun _ => ⟨pln_rest hp h1 h2, home_rest h h1 h2⟩⟩
  · rcases hs with ⟨h1, _⟩ | ⟨h1, _⟩ | ⟨h1, _⟩ | ⟨h1, _⟩ | ⟨h1, rfl, rfl, _, _⟩ | ⟨h1, _⟩ | ⟨h1, rfl, rfl, _, rfl⟩ | ⟨h1, rfl, rfl, _, _⟩
    · omega
    · omega
    · omega
    · omega
    · exact ⟨fun h => by omega, fun _ => ⟨(turn_all hg hp).2.1, home_turn hg hp h⟩⟩
    · omega
    · obtain ⟨_, ⟨g', k1, k2, k3⟩, _⟩ := abort_all hg hp
      constructor
      · rintro ⟨_, he⟩
        obtain ⟨e1, e2, e3⟩ := k2 he
        rw [h e2 e3] at e1
        subst e1
        refine ⟨k1, fun hne hbk => ?_⟩
        exfalso
        unfold cAbort at hne hbk
        rw [if_neg (fun k => e2 (List.length_eq_zero_iff.1 k)), if_neg (by rw [e3]; simp)] at hne hbk
        simp only at hne hbk
        cases hd : Df.diffL S.bud S.pools X.hb X.hps with
        | nil => exact hne hd
        | cons x r => rw [hd] at hbk; simp [anyS] at hbk
      · intro hn
        have he : (cAbort S X).e ≠ 0 := fun e => hn ⟨h1, e⟩
        obtain ⟨e1, e2, e3⟩ := k3 he
        rw [e2, e3]
        exact ⟨hp, h⟩
    · exact ⟨fun h => by omega, fun _ => ⟨hp, h⟩⟩
theorem reload_home {A B : Int × List Pl} {S : Sta} {X : Aux} (hp : Pln S X A) (hpe : S.plan = []) : Home A (cReload S X ⟨B, 0, 0⟩).S (cReload S X ⟨B, 0, 0⟩).X := by
  have e := (hp.none hpe).2.2
  unfold cReload
  rw [if_neg (by rw [hpe]; simp), if_neg (by simp)]
  intro hne _
  simp only at hne ⊢
  have : fwdH (Df.diffL S.bud S.pools B.1 B.2) S.bud S.pools = (S.bud, S.pools) := by
    unfold fwdH
    rw [if_neg (fun e => hne (List.length_eq_zero_iff.1 e))]
  rw [this, e]
theorem reload_ans {A B : Int × List Pl} {S : Sta} {X : Aux} (hp : Pln S X A) (hpe : S.plan = []) : (cReload S X ⟨B, 0, 0⟩).n = ((Df.diffL A.1 A.2 B.1 B.2).length : Int) ∧ (cReload S X ⟨B, 0, 0⟩).e = 0 ∧ (cReload S X ⟨B, 0, 0⟩).l = 0 := by
  have e := (hp.none hpe).2.2
  unfold cReload
  rw [if_neg (by rw [hpe]; simp), if_neg (by simp)]
  rw [e]
  exact ⟨rfl, rfl, rfl⟩
end Lw
end Go.Proofs.YtohbonfngeblkaaGreat
namespace Go.Proofs.YtohbonfngeblkaaGreat
open Go.RowKit
namespace Pr
theorem ret_bool {a b : Bool} (h : a = b) : Ending.returned (.bool a) = .returned (.bool b) := by rw [h]
def lets (l : List UInt8) : Bool := l.all fun c => 97 ≤ c && c ≤ 122
def isNm (s : ByteArray) : Bool := decide (1 ≤ s.size) && decide (s.size ≤ 8) && lets s.data.toList
theorem take_snoc (s : ByteArray) (k : Nat) (h : k < s.size) : s.data.toList.take (k + 1) = s.data.toList.take k ++ [s[k]] := by
  rw [List.take_succ_eq_append_getElem (by simpa using h)]; rfl
theorem take_all (s : ByteArray) (k : Nat) (h : ¬ k < s.size) : s.data.toList.take k = s.data.toList := by
  refine List.take_of_length_le ?_
  have e : s.data.toList.length = s.size := by rw [Array.length_toList]; rfl
  omega
theorem lets_snoc (s : ByteArray) (k : Nat) (h : k < s.size) (hl : lets (s.data.toList.take k) = true) (h1 : (97 : Int) ≤ (s[k].toNat : Int)) (h2 : (s[k].toNat : Int) ≤ 122) :
    lets (s.data.toList.take (k + 1)) = true := by
  rw [take_snoc s k h]
  unfold lets at *
  rw [List.all_append, hl]
  simp [UInt8.le_iff_toNat_le]
  omega
theorem lets_bad (s : ByteArray) (k : Nat) (h : k < s.size) (hb : (s[k].toNat : Int) < 97 ∨ 122 < (s[k].toNat : Int)) : isNm s = false := by
  have hm : s[k] ∈ s.data.toList := by
    rw [← List.take_append_drop (k + 1) s.data.toList, take_snoc s k h]; simp
  unfold isNm
  have : lets s.data.toList = false := by
    unfold lets
    rw [List.all_eq_false]
    refine ⟨s[k], hm, ?_⟩
    simp [UInt8.le_iff_toNat_le]
    omega
  rw [this]; simp
theorem isNm_of (s : ByteArray) (k : Nat) (hk : ¬ k < s.size) (hl : lets (s.data.toList.take k) = true) : isNm s = (decide (1 ≤ s.size) && decide (s.size ≤ 8)) := by
  rw [take_all s k hk] at hl
  simp [isNm, hl]
set_option maxHeartbeats 400000 in
theorem isName_any (s : ByteArray) (w : World) (hs : s.size ≤ maxLen) :
    Calls Tryz.prog 117 #[.string s] w fun e w' => e = .returned (.bool (isNm s)) ∧ w' = w := by
  unfold maxLen at hs
  by_cases ha : s.size < 1
  · go_enter Tryz.func117, Tryz.ntmps117
    go_wp2
    go_ret
    exact ⟨ret_bool (by simp [isNm]; omega), rfl⟩
  by_cases hb : 8 < s.size
  · go_enter Tryz.func117, Tryz.ntmps117
    go_wp2
    go_ret
    exact ⟨ret_bool (by simp [isNm]; omega), rfl⟩
  have hb1 : decide ((8 : Int) < (s.size : Int)) = false := by simp; omega
  have hb2 : decide ((s.size : Int) < 1) = false := by simp; omega
  go_enter Tryz.func117, Tryz.ntmps117
  go_wp2
  go_loop [3] (fun i => ∃ k : Nat, k ≤ s.size ∧ i = .int .i64 k ∧ lets (s.data.toList.take k) = true) (fun i => s.size - (intOf i).toNat)
  case atStart => exact ⟨0, Nat.zero_le _, rfl, rfl⟩
  case round =>
    obtain ⟨k, hk, rfl, hl⟩ := hrel
    have HL : Hid (lets (s.data.toList.take k) = true) := hl
    clear hl
    by_cases hlt : k < s.size
    · by_cases h1 : (97 : Int) ≤ (s[k].toNat : Int)
      · by_cases h2 : (s[k].toNat : Int) ≤ 122
        · go_wp2
          go_round
          case rel => exact ⟨k + 1, by omega, by go_num, lets_snoc s k hlt HL.out h1 h2⟩
          case measure => simp [intOf]; omega
        · go_wp2
          go_ret
          exact ⟨ret_bool (lets_bad s k hlt (by omega)).symm, rfl⟩
      · go_wp2
        go_ret
        exact ⟨ret_bool (lets_bad s k hlt (by omega)).symm, rfl⟩
    · have hn := isNm_of s k hlt HL.out
      have HN : Hid (isNm s = (decide (1 ≤ s.size) && decide (s.size ≤ 8))) := hn
      clear hn
      go_wp2
      go_ret
      exact ⟨ret_bool (by rw [HN.out, Bool.eq_iff_iff]; simp; omega), rfl⟩
def inB (lo hi n : Int) : Bool := decide (lo ≤ n) && decide (n ≤ hi)
theorem inB_t {lo hi n : Int} (h : inB lo hi n = true) : lo ≤ n ∧ n ≤ hi := by simpa [inB] using h
theorem inB_mk {lo hi n : Int} (h1 : lo ≤ n) (h2 : n ≤ hi) : inB lo hi n = true := by simp [inB]; omega
theorem inB_lo {lo hi n : Int} (h1 : n < lo) : inB lo hi n = false := by simp [inB]; omega
theorem inB_hi {lo hi n : Int} (h1 : hi < n) : inB lo hi n = false := by simp [inB]; omega
abbrev sBudget : ByteArray := ⟨#[98, 117, 100, 103, 101, 116]⟩
abbrev sSize : ByteArray := ⟨#[115, 105, 122, 101]⟩
abbrev sWait : ByteArray := ⟨#[119, 97, 105, 116]⟩
abbrev sFar : ByteArray := ⟨#[102, 97, 114]⟩
set_option maxHeartbeats 400000 in
theorem fits_budget (n : Int) (w : World) :
    Calls Tryz.prog 99 #[.string sBudget, .int .i64 n] w fun e w' => e = .returned (.bool (inB 1 99 n)) ∧ w' = w := by
  by_cases h1 : 1 ≤ n
  · go_enter Tryz.func99, Tryz.ntmps99
    go_wp2
    go_ret
    exact ⟨ret_bool (by simp [inB, h1]), rfl⟩
  · go_enter Tryz.func99, Tryz.ntmps99
    go_wp2
    go_ret
    exact ⟨ret_bool (inB_lo (by omega)).symm, rfl⟩
set_option maxHeartbeats 400000 in
theorem fits_size (n : Int) (w : World) :
    Calls Tryz.prog 99 #[.string sSize, .int .i64 n] w fun e w' => e = .returned (.bool (inB 0 20 n)) ∧ w' = w := by
  by_cases h1 : 0 ≤ n
  · go_enter Tryz.func99, Tryz.ntmps99
    go_wp2
    go_ret
    exact ⟨ret_bool (by simp [inB, h1]), rfl⟩
  · go_enter Tryz.func99, Tryz.ntmps99
    go_wp2
    go_ret
    exact ⟨ret_bool (inB_lo (by omega)).symm, rfl⟩
set_option maxHeartbeats 400000 in
theorem fits_wait (n : Int) (w : World) :
    Calls Tryz.prog 99 #[.string sWait, .int .i64 n] w fun e w' => e = .returned (.bool (inB 0 20 n)) ∧ w' = w := by
  by_cases h1 : 0 ≤ n
  · go_enter Tryz.func99, Tryz.ntmps99
    go_wp2
    go_ret
    exact ⟨ret_bool (by simp [inB, h1]), rfl⟩
  · go_enter Tryz.func99, Tryz.ntmps99
    go_wp2
    go_ret
    exact ⟨ret_bool (inB_lo (by omega)).symm, rfl⟩
set_option maxHeartbeats 400000 in
theorem fits_far (n : Int) (w : World) :
    Calls Tryz.prog 99 #[.string sFar, .int .i64 n] w fun e w' => e = .returned (.bool (inB 0 999 n)) ∧ w' = w := by
  by_cases h1 : 0 ≤ n
  · go_enter Tryz.func99, Tryz.ntmps99
    go_wp2
    go_ret
    exact ⟨ret_bool (by simp [inB, h1]), rfl⟩
  · go_enter Tryz.func99, Tryz.ntmps99
    go_wp2
    go_ret
    exact ⟨ret_bool (inB_lo (by omega)).symm, rfl⟩
end Pr
end Go.Proofs.YtohbonfngeblkaaGreat
