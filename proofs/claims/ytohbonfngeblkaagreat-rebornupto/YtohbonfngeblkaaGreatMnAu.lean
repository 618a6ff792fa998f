import Derived.Test.YtohbonfngeblkaaGreatMnAs
import Derived.Test.YtohbonfngeblkaaGreatMnAt
import Derived.Deep.RegionHeld3
namespace Go.Proofs.YtohbonfngeblkaaGreat
open Go.RowKit
namespace Lw
open Co
structure ArrI (W w : World) (gg gp : Nat) (S : Sta) (X : Aux) (Fp : Nat → Prop) (A B : Int × List Pl) (ao : Option Addr) (ac : Nat) (bo : Option Addr) (bc : Nat) (k : Nat) : Prop where
  game : GameAt w gg gp S X Fp A B ao ac bo bc
  run : Run1 S X
  pot : pot (S, X.op) ≤ 2 + k
  fp : ∀ y, Fp y → W.heap.size ≤ y
  bel : Below W.heap.size W w
theorem ArrI.chg {W w w1 : World} {gg gp : Nat} {S : Sta} {X : Aux} {Fp : Nat → Prop} {A B : Int × List Pl} {ao : Option Addr} {ac : Nat} {bo : Option Addr} {bc : Nat} {k : Nat} (h : ArrI W w gg gp S X Fp A B ao ac bo bc k) {S' : Sta} {X' : Aux} {Fp' : Nat → Prop} {k' : Nat} (hg : GameAt w1 gg gp S' X' Fp' A B ao ac bo bc) (hF : ∀ y, Fp' y → Fp y ∨ w.heap.size ≤ y) (hch : Chg Fp w w1) (hr : Run1 S' X') (hp : Lw.pot (S', X'.op) ≤ 2 + k') : ArrI W w1 gg gp S' X' Fp' A B ao ac bo bc k' :=
  ⟨hg, hr, hp, fun y hy => by
    rcases hF y hy with h1 | h1
    · exact h.fp y h1
    · exact Nat.le_trans h.bel.size h1, h.bel.trans (hch.below h.bel.size h.fp)⟩
theorem ArrI.below {W w w1 : World} {gg gp : Nat} {S : Sta} {X : Aux} {Fp : Nat → Prop} {A B : Int × List Pl} {ao : Option Addr} {ac : Nat} {bo : Option Addr} {bc : Nat} {k : Nat} (h : ArrI W w gg gp S X Fp A B ao ac bo bc k) (hb : Below w.heap.size w w1) : ArrI W w1 gg gp S X Fp A B ao ac bo bc k := ⟨h.game.below hb, h.run, h.pot, h.fp, nx_trans h.bel hb⟩
theorem fits_way {S : Sta} {X : Aux} {k : Nat} (h : Run1 S X) (hp : Lw.pot (S, X.op) ≤ 2 + k) (hk : k ≤ 1073741824) : Fits S ∧ Lw.pot (S, X.op) + 1 ≤ 549755813888 ∧ S.srv.length ≤ 1099511627776 ∧ S.wts.length ≤ 1099511627776 := by
  obtain ⟨g, hg⟩ := h.pln
  have h6 := hg.tab.len
  have h5 := h.plan
  exact fits_of h.good hp hk (by omega) (by omega)
structure Kst (w : World) (g : Nat) (T : Int × List Pl) (vt : Option Addr) (tc : Nat) (gg : Nat) (Fp : Nat → Prop) (A B : Int × List Pl) (ao : Option Addr) (ac : Nat) (bo : Option Addr) (bc : Nat) : Prop where
  box : w.heap[g]? = some (bTab T.1 (.slice vt T.2.length tc))
  no : ¬ Fp g
  ne : gg ≠ g
  na : ∀ x, (Value.slice ao A.2.length ac).ownBlock = some x → x ≠ g
  nb : ∀ x, (Value.slice bo B.2.length bc).ownBlock = some x → x ≠ g
theorem Kst.lt {w : World} {g : Nat} {T : Int × List Pl} {vt : Option Addr} {tc : Nat} {gg : Nat} {Fp : Nat → Prop} {A B : Int × List Pl} {ao : Option Addr} {ac : Nat} {bo : Option Addr} {bc : Nat} (h : Kst w g T vt tc gg Fp A B ao ac bo bc) : g < w.heap.size := (Array.getElem?_eq_some_iff.1 h.box).1
theorem Kst.chg {w w' : World} {g : Nat} {T : Int × List Pl} {vt : Option Addr} {tc : Nat} {gg : Nat} {Fp Fp' G : Nat → Prop} {A B : Int × List Pl} {ao : Option Addr} {ac : Nat} {bo : Option Addr} {bc : Nat} (h : Kst w g T vt tc gg Fp A B ao ac bo bc) (hch : Chg G w w') (hG : ¬ G g) (hF : ∀ y, Fp' y → Fp y ∨ w.heap.size ≤ y) : Kst w' g T vt tc gg Fp' A B ao ac bo bc :=
  ⟨(hch.block g h.lt hG).trans h.box, fun hf => by
    rcases hF g hf with h1 | h1
    · exact h.no h1
    · have := h.lt; omega, h.ne, h.na, h.nb⟩
theorem Kst.below {w w' : World} {g : Nat} {T : Int × List Pl} {vt : Option Addr} {tc : Nat} {gg : Nat} {Fp : Nat → Prop} {A B : Int × List Pl} {ao : Option Addr} {ac : Nat} {bo : Option Addr} {bc : Nat} (h : Kst w g T vt tc gg Fp A B ao ac bo bc) (hb : Below w.heap.size w w') : Kst w' g T vt tc gg Fp A B ao ac bo bc :=
  h.chg (G := fun _ => False) (Chg.of_below hb) (fun h => h) (fun _ hy => .inl hy)
theorem Kst.new {w : World} {gg gp : Nat} {S : Sta} {X : Aux} {Fp : Nat → Prop} {A B : Int × List Pl} {ao : Option Addr} {ac : Nat} {bo : Option Addr} {bc : Nat} (h : GameAt w gg gp S X Fp A B ao ac bo bc) (T : Int × List Pl) (vt : Option Addr) (tc : Nat) : Kst (w.alloc (bTab T.1 (.slice vt T.2.length tc))) w.heap.size T vt tc gg Fp A B ao ac bo bc :=
  ⟨heap_alloc_at _ _ rfl, fun hf => by have := h.desk.lt _ hf; omega, by have := h.lt; omega, fun x hx => by have := (h.la x hx).1; omega, fun x hx => by have := (h.lb x hx).1; omega⟩
abbrev st2 (w : World) (g : Nat) (b : Int) (v : Value) : World := (w.setCell ⟨g, 0, none⟩ (.int .i64 b)).setCell ⟨g, 1, none⟩ v
theorem st2_chg (w : World) (g : Nat) (b : Int) (v : Value) : Chg (fun y => y = g) w (st2 w g b v) :=
  (Chg.set (F := fun y => y = g) w g 0 _ rfl).trans (Chg.set (F := fun y => y = g) _ g 1 _ rfl) (fun _ hx => .inl hx)
theorem Kst.store {w : World} {g : Nat} {T : Int × List Pl} {vt : Option Addr} {tc : Nat} {gg : Nat} {Fp : Nat → Prop} {A B : Int × List Pl} {ao : Option Addr} {ac : Nat} {bo : Option Addr} {bc : Nat} (h : Kst w g T vt tc gg Fp A B ao ac bo bc) (U : Int × List Pl) (uo : Option Addr) (uc : Nat) : Kst (st2 w g U.1 (.slice uo U.2.length uc)) g U uo uc gg Fp A B ao ac bo bc :=
  ⟨set_heap _ _ _ _ _ _ (set_heap _ _ _ _ _ _ h.box), h.no, h.ne, h.na, h.nb⟩
theorem ArrI.store {W w : World} {gg gp : Nat} {S : Sta} {X : Aux} {Fp : Nat → Prop} {A B : Int × List Pl} {ao : Option Addr} {ac : Nat} {bo : Option Addr} {bc : Nat} {k : Nat} (h : ArrI W w gg gp S X Fp A B ao ac bo bc k) {g : Nat} {T : Int × List Pl} {vt : Option Addr} {tc : Nat} (hk : Kst w g T vt tc gg Fp A B ao ac bo bc) (hg : W.heap.size ≤ g) (b : Int) (v : Value) : ArrI W (st2 w g b v) gg gp S X Fp A B ao ac bo bc k :=
  ⟨h.game.store (st2_chg w g b v) hk.ne hk.no hk.na hk.nb, h.run, h.pot, h.fp, h.bel.trans ((st2_chg w g b v).below h.bel.size (fun y hy => by rw [show y = g from hy]; exact hg))⟩
def Goal (T : Int × List Pl) (vt : Option Addr) (tc : Nat) (A B : Int × List Pl) (ao : Option Addr) (ac : Nat) (bo : Option Addr) (bc : Nat) : Prop := (T = A ∧ vt = ao ∧ tc = ac) ∨ (T = B ∧ vt = bo ∧ tc = bc)
structure WayI (W w : World) (gg gp : Nat) (S : Sta) (X : Aux) (Fp : Nat → Prop) (A B : Int × List Pl) (ao : Option Addr) (ac : Nat) (bo : Option Addr) (bc : Nat) (gr gz : Nat) (T : Int × List Pl) (vt : Option Addr) (tc : Nat) (k : Nat) : Prop where
  arr : ArrI W w gg gp S X Fp A B ao ac bo bc k
  res : Kst w gr (0, []) none 0 gg Fp A B ao ac bo bc
  aim : Kst w gz T vt tc gg Fp A B ao ac bo bc
  pln : Pln S X T
  home : Home A S X
  goal : Goal T vt tc A B ao ac bo bc
def ArrG (W : World) (gg gp : Nat) (A B : Int × List Pl) (ao : Option Addr) (ac : Nat) (bo : Option Addr) (bc : Nat) (k : Nat) (w' : World) (e : Ending) : Prop :=
  ∃ T vt tc S X Fp, e = .returned (.tuple #[.agg #[.int .i64 T.1, .slice vt T.2.length tc], .bool true]) ∧ Goal T vt tc A B ao ac bo bc ∧ ArrI W w' gg gp S X Fp A B ao ac bo bc k ∧ Calm S ∧ Pln S X T ∧ S.plan = []
set_option maxRecDepth 20000 in
set_option maxHeartbeats 8000000 in
theorem gArrived (gg gp : Nat) (S : Sta) (X : Aux) (Fp : Nat → Prop) (A B : Int × List Pl) (ao : Option Addr) (ac : Nat) (bo : Option Addr) (bc : Nat) (W w : World) (os : List Opk) (co : Option Addr) (n cc : Nat) (ot : List Opk) (eo : Option Addr) (m ec : Nat)
    (hA : Okt A.1 A.2) (hB : Okt B.1 B.2) (h : ArrI W w gg gp S X Fp A B ao ac bo bc 0) (hpl : Pln S X A) (hpe : S.plan = [])
    (hr : RowAt W (.slice co n cc) n (flatK os)) (hn : os.length = n) (hI : ∀ x ∈ os, I64 x.b) (hr2 : RowAt W (.slice eo m ec) m (flatK ot)) (hn2 : ot.length = m) (hI2 : ∀ x ∈ ot, I64 x.b) (hq : n ≤ 268435456) (hq2 : m ≤ 268435456) :
    Calls Tryz.prog 17 #[.pointer (some ⟨gg, 0, none⟩), .slice co n cc, .slice eo m ec] w fun e w' => ArrG W gg gp A B ao ac bo bc (n + m + 410) w' e := by
  obtain ⟨A1, A2⟩ := A
  obtain ⟨B1, B2⟩ := B
  simp only at hA hB
  obtain ⟨na, hna⟩ : ∃ na, A2.length = na := ⟨_, rfl⟩
  obtain ⟨nb, hnb⟩ : ∃ nb, B2.length = nb := ⟨_, rfl⟩
  obtain ⟨W0, hW0⟩ : ∃ W0, W0 = w.alloc (bTab 0 (.slice none 0 0)) := ⟨_, rfl⟩
  obtain ⟨gr, hgr⟩ : ∃ gr, w.heap.size = gr := ⟨_, rfl⟩
  have hbW : Below w.heap.size w W0 := by rw [hW0]; exact nx_alloc _ _
  have K0 : Hid (W0 = w.alloc (bTab 0 (.slice none 0 0)) ∧ W0.heap[gr]? = some (bTab 0 (.slice none 0 0)) ∧ Below w.heap.size w W0 ∧ w.heap.size = gr ∧ W.heap.size ≤ gr) := ⟨hW0, by rw [hW0]; exact heap_alloc_at _ _ hgr.symm, hbW, hgr, by have := h.bel.size; omega⟩
  have HI : Hid (ArrI W W0 gg gp S X Fp (A1, A2) (B1, B2) ao ac bo bc 0 ∧ Kst W0 gr (0, []) none 0 gg Fp (A1, A2) (B1, B2) ao ac bo bc ∧ Pln S X (A1, A2) ∧ S.plan = []) := ⟨h.below hbW, by rw [hW0, ← hgr]; exact Kst.new h.game (0, []) none 0, hpl, hpe⟩
  have HR : Hid (RowAt W (.slice co n cc) n (flatK os) ∧ os.length = n ∧ ∀ x ∈ os, I64 x.b) := ⟨hr, hn, hI⟩
  have HR2 : Hid (RowAt W (.slice eo m ec) m (flatK ot) ∧ ot.length = m ∧ ∀ x ∈ ot, I64 x.b) := ⟨hr2, hn2, hI2⟩
  have HK : Hid (Okt A1 A2 ∧ Okt B1 B2 ∧ A2.length = na ∧ B2.length = nb) := ⟨hA, hB, hna, hnb⟩
  clear hr hn hI hr2 hn2 hI2 h hpl hpe hA hB hbW hW0 hgr hna hnb
  go_enter Tryz.func17, Tryz.ntmps17
  go_upto_region 1 with fail
  rw [← K0.out.1, K0.out.2.2.2.1]
  go_wp2_with fail
  go_loopw [8] (fun i wr => ∃ k : Nat, k ≤ n ∧ i = .int .i64 k ∧ Hid (∃ S X Fp, ArrI W wr gg gp S X Fp (A1, A2) (B1, B2) ao ac bo bc k ∧ Kst wr gr (0, []) none 0 gg Fp (A1, A2) (B1, B2) ao ac bo bc ∧ Pln S X (A1, A2) ∧ S.plan = [])) (fun i _ => n - (intOf i).toNat)
  case atStart => exact ⟨0, Nat.zero_le _, rfl, S, X, Fp, HI.out⟩
  case round =>
    clear HI
    obtain ⟨k, hk, rfl, HH⟩ := hrel
    clear S X Fp
    obtain ⟨S, X, Fp, hfi⟩ := HH.out
    have HF := hideIt hfi
    clear hfi
    by_cases hlt : k < n
    · obtain ⟨⟨kd, a, p⟩, hp⟩ : ∃ p, os[k]? = some p := ⟨_, List.getElem?_eq_getElem (by rw [HR.out.2.1]; exact hlt)⟩
      obtain ⟨bl, off, hao, hbl, c0, c1, c2⟩ := opk_at (HR.out.1.nx HF.out.1.bel) hp
      subst hao
      simp only at c0 c1 c2
      have hlti : (k : Int) < (n : Int) := by omega
      have HP : Hid (os[k]? = some ⟨kd, a, p⟩ ∧ I64 p) := ⟨hp, HR.out.2.2 _ (List.mem_of_getElem? hp)⟩
      by_cases h4 : kd ≤ 4
      · have hfit := fits_way HF.out.1.run HF.out.1.pot (by omega)
        have HPL := hideIt (gplayA gg gp S X Fp (A1, A2) (B1, B2) ao ac bo bc wr kd a p (A1, A2) HF.out.1.game HF.out.1.run.good HF.out.2.2.1 (by have := HF.out.1.run.plan; omega) hfit.2.1 HK.out.1 HK.out.2.1 HF.out.1.run.hps HP.out.2)
        clear hp hfit
        go_wp2_with fail
        refine HPL.out.mono ?_
        rintro e w1 ⟨S', X', nn, er, ⟨rfl, Fp', hg1, hF1, hch1⟩, hstep⟩
        obtain ⟨hrun', hpot, _⟩ := step_run HK.out.1 HK.out.2.1 HF.out.1.run hstep
        obtain ⟨hrs, hx⟩ := step_rest h4 hstep
        have HN : Hid (∃ S X Fp, ArrI W w1 gg gp S X Fp (A1, A2) (B1, B2) ao ac bo bc (k + 1) ∧ Kst w1 gr (0, []) none 0 gg Fp (A1, A2) (B1, B2) ao ac bo bc ∧ Pln S X (A1, A2) ∧ S.plan = []) :=
          ⟨S', X', Fp', HF.out.1.chg hg1 hF1 hch1 hrun' (by have := HF.out.1.pot; omega), HF.out.2.1.chg hch1 HF.out.2.1.no hF1, pln_rest HF.out.2.2.1 hrs hx, by rw [hrs.2.2.1]; exact HF.out.2.2.2⟩
        clear hg1 hF1 hch1 hstep hrun' hpot hrs hx c0 c1 c2
        go_wp2_with fail
        go_roundw
        case rel => exact ⟨k + 1, by omega, by go_num, HN.out⟩
        case measure => simp [intOf]; omega
      · have HN : Hid (∃ S X Fp, ArrI W wr gg gp S X Fp (A1, A2) (B1, B2) ao ac bo bc (k + 1) ∧ Kst wr gr (0, []) none 0 gg Fp (A1, A2) (B1, B2) ao ac bo bc ∧ Pln S X (A1, A2) ∧ S.plan = []) :=
          ⟨S, X, Fp, ⟨HF.out.1.game, HF.out.1.run, by have := HF.out.1.pot; omega, HF.out.1.fp, HF.out.1.bel⟩, HF.out.2⟩
        clear hp
        go_wp2_with fail
        go_roundw
        case rel => exact ⟨k + 1, by omega, by go_num, HN.out⟩
        case measure => simp [intOf]; omega
    · have hlti : ¬ (k : Int) < (n : Int) := by omega
      have hkn : k = n := by omega
      obtain ⟨L, hL⟩ : ∃ L, L = Df.diffL A1 A2 B1 B2 := ⟨_, rfl⟩
      obtain ⟨ln, hln⟩ : ∃ ln, L.length = ln := ⟨_, rfl⟩
      have hg := HF.out.1.game
      have HD : Hid (∀ u, Below wr.heap.size wr u → Calls Tryz.prog 27 #[.agg #[.int .i64 A1, .slice ao na ac], .agg #[.int .i64 B1, .slice bo nb bc]] u fun e w' => ∃ vo vc, e = .returned (.tuple #[.slice vo ln vc, .int .i64 0]) ∧ Below u.heap.size u w') := by
        intro u hu
        have ra := hg.a.nx hu
        have rb := hg.b.nx hu
        have l1 := HK.out.2.2.1
        have l2 := HK.out.2.2.2
        simp only [l1, l2] at ra rb
        refine (Df.pDiff true true A1 ao na ac A2 B1 bo nb bc B2 u ra l1 (fun _ => by rw [← l1]; exact HK.out.1.len) rb l2 (fun _ => by rw [← l2]; exact HK.out.2.1.len) (fun v hv => Df.isTab HK.out.1 (ra.nx hv) l1) (fun v hv => Df.isTab HK.out.2.1 (rb.nx hv) l2)).mono ?_
        rintro e w' ⟨vo, vc, rfl, _, hb⟩
        have e1 : Df.gotL (true && true) A1 A2 B1 B2 = L := hL.symm
        rw [e1, hln]
        exact ⟨vo, vc, rfl, hb⟩
      have HTX : Hid (∀ u, Below wr.heap.size wr u → Calls Tryz.prog 22 #[.agg #[.int .i64 B1, .slice bo nb bc], .int .i64 0] u fun e w' => (∃ s, (ans s = ⟨(B1, B2), 0, 0⟩ ∧ s.size ≤ 1000) ∧ e = .returned (.string s)) ∧ Below u.heap.size u w') := by
        intro u hu
        have rb := hg.b.nx hu
        have l2 := HK.out.2.2.2
        simp only [l2] at rb
        refine (text_any B1 B2 bo bc _ 0 u rb l2 HK.out.2.1 (by constructor <;> omega)).mono ?_
        rintro e w' ⟨⟨s, hs, rfl⟩, hb⟩
        exact ⟨⟨s, ans_text (stOf 0) (lastN B2) HK.out.2.1 (fun h => last_mem h) s hs, rfl⟩, hb⟩
      have HRL : Hid (∀ u s, Below wr.heap.size wr u → (ans s = ⟨(B1, B2), 0, 0⟩ ∧ s.size ≤ 1000) → Calls Tryz.prog 24 #[.pointer (some ⟨gp, 0, none⟩), .string s] u fun e w' => e = .returned (.tuple #[.int .i64 (ln : Int), .int .i64 0, .int .i64 0]) ∧ Moved u w' gp (cReload S X ⟨(B1, B2), 0, 0⟩).S (cReload S X ⟨(B1, B2), 0, 0⟩).X Fp) := by
        intro u s hu hs
        have hpn := HF.out.2.2.1
        have := pReload gp s S X Fp u (hg.below hu).desk (by unfold maxLen; omega) hpn.tab.len (by rw [HF.out.2.2.2]; simp) (fun _ => by rw [hs.1]; exact HK.out.2.1.len)
        rw [hs.1] at this
        obtain ⟨e1, e2, e3⟩ := reload_ans (B := (B1, B2)) hpn HF.out.2.2.2
        simp only at e1
        rw [e1, e2, e3, ← hL, hln] at this
        exact this
      obtain ⟨D, hD⟩ : ∃ D, (cReload S X ⟨(B1, B2), 0, 0⟩).S = D := ⟨_, rfl⟩
      obtain ⟨Y, hY⟩ : ∃ Y, (cReload S X ⟨(B1, B2), 0, 0⟩).X = Y := ⟨_, rfl⟩
      have HRD : Hid (Run1 D Y ∧ Lw.pot (D, Y.op) ≤ Lw.pot (S, X.op) + 1 ∧ Pln D Y (B1, B2) ∧ Home (A1, A2) D Y) := by
        have hst : StepR (A1, A2) (B1, B2) 6 1 0 S X D Y (cReload S X ⟨(B1, B2), 0, 0⟩).n (cReload S X ⟨(B1, B2), 0, 0⟩).e := .inr (.inr (.inr (.inr (.inr (.inl ⟨rfl, (B1, B2), .inr rfl, hD.symm, hY.symm, rfl, rfl⟩)))))
        obtain ⟨h1, h2, _⟩ := step_run HK.out.1 HK.out.2.1 HF.out.1.run hst
        obtain ⟨_, ⟨g', k1, k2, _⟩, _⟩ := reload_all HF.out.1.run.good HF.out.2.2.1 (a := ⟨(B1, B2), 0, 0⟩) (fun _ => HK.out.2.1)
        have k3 := k2 (reload_ans (B := (B1, B2)) HF.out.2.2.1 HF.out.2.2.2).2.1
        have k4 := reload_home (B := (B1, B2)) HF.out.2.2.1 HF.out.2.2.2
        rw [hD, hY] at k1 k4
        rw [k3] at k1
        exact ⟨h1, h2, k1, k4⟩
      rw [hD, hY] at HRL
      have HKN : Hid (k = n ∧ ln ≤ 56) := ⟨hkn, by
        have h5 := HRD.out.1.plan
        rw [← hD] at h5
        unfold cReload at h5
        rw [if_neg (by rw [HF.out.2.2.2]; simp), if_neg (by simp)] at h5
        have e := (HF.out.2.2.1.none HF.out.2.2.2).2.2
        simp only at h5
        rw [← hln, hL]
        rw [show A1 = S.bud from congrArg Prod.fst e, show A2 = S.pools from congrArg Prod.snd e]
        exact h5⟩
      have hl56 := HKN.out.2
      have hbx := hg.box
      have l1 := HK.out.2.2.1
      have l2 := HK.out.2.2.2
      simp only [l1, l2] at hbx
      have HBX := hideIt hbx
      have hgl : gg < wr.heap.size := hg.lt
      obtain ⟨x0, x1, x2, x3, x4⟩ := gblk5 hbx
      clear hg hD hY hL hln hkn l1 l2 hbx
      go_upto_region 6 with fail
      go_cut [9, 10] (fun v1 v2 wx => ∃ vo vc, v1 = .slice vo ln vc ∧ v2 = .int .i64 0 ∧ ∃ wy, Hid (Below wr.heap.size wr wy) ∧ wy = wx)
      case first =>
        go_region_held3 (fun w' => w'.cell? ⟨gg, 1, none⟩ = some (.int .i64 A1) ∧ w'.cell? ⟨gg, 2, none⟩ = some (.slice ao na ac) ∧ w'.cell? ⟨gg, 3, none⟩ = some (.int .i64 B1) ∧ w'.cell? ⟨gg, 4, none⟩ = some (.slice bo nb bc)) (go_keep)
          ((go_at_call 27; refine (HD.out _ ((Below.refl _ _).drew)).mono ?_; rintro e w2 ⟨vo, vc, rfl, hb2⟩; have HB2 : Hid (Below wr.heap.size wr w2) := nx_trans (Below.refl _ _).drew hb2; have q1 := (HB2.out.cell (p := ⟨gg, 1, none⟩) hgl).trans x1; have q2 := (HB2.out.cell (p := ⟨gg, 2, none⟩) hgl).trans x2; have q3 := (HB2.out.cell (p := ⟨gg, 3, none⟩) hgl).trans x3; have q4 := (HB2.out.cell (p := ⟨gg, 4, none⟩) hgl).trans x4; clear hb2))
        all_goals
          go_wp2_with fail
          go_meet
          exact ⟨vo, vc, rfl, rfl, _, HB2.out, rfl⟩
      case rest =>
        obtain ⟨vo, vc, rfl, rfl, wy, HBY, rfl⟩ := hcut
        clear x0 x1 x2 x3 x4
        have hgy : gg < wy.heap.size := Nat.lt_of_lt_of_le hgl HBY.out.size
        have HNF : Hid (¬ Fp gg) := HF.out.1.game.dg
        have hby : wy.heap[gg]? = some (bGame gp A1 (.slice ao na ac) B1 (.slice bo nb bc)) := gblk HBX.out HBY.out
        obtain ⟨x0, x1, x2, x3, x4⟩ := gblk5 hby
        clear hby x1 x2
        go_upto_region 7 with fail
        go_cut [11, 12, 13] (fun v1 v2 v3 wx => v1 = .int .i64 (ln : Int) ∧ v2 = .int .i64 0 ∧ v3 = .int .i64 0 ∧ ∃ wz, Hid (Moved wy wz gp D Y Fp) ∧ wz = wx)
        case first =>
          go_region_held3 (fun w' => w'.cell? ⟨gg, 0, none⟩ = some (.pointer (some ⟨gp, 0, none⟩)) ∧ w'.cell? ⟨gg, 3, none⟩ = some (.int .i64 B1) ∧ w'.cell? ⟨gg, 4, none⟩ = some (.slice bo nb bc)) (go_keep)
            (first
            | (go_at_call 22; refine (HTX.out _ (HBY.out.drew)).mono ?_; rintro e w2 ⟨⟨s, hs, rfl⟩, hb2⟩; have HB2 : Hid (Below wy.heap.size wy w2) := nx_trans (Below.refl _ _).drew hb2; have HSS := hideIt hs; have q1 := (HB2.out.cell (p := ⟨gg, 0, none⟩) hgy).trans x0; have q2 := (HB2.out.cell (p := ⟨gg, 3, none⟩) hgy).trans x3; have q3 := (HB2.out.cell (p := ⟨gg, 4, none⟩) hgy).trans x4; clear hb2 hs)
            | (go_at_call 24; refine (HRL.out _ _ (nx_trans HBY.out HB2.out) HSS.out).mono ?_; rintro e w3 ⟨rfl, hm3⟩; have HM3 : Hid (Moved wy w3 gp D Y Fp) := Moved.after HB2.out hm3; have HX2 : Hid (w3.heap[gg]? = wy.heap[gg]?) := gmoved_block HM3.out hgy HNF.out; have r1 := (World.cell?_of_block (a := ⟨gg, 0, none⟩) HX2.out).trans x0; have r2 := (World.cell?_of_block (a := ⟨gg, 3, none⟩) HX2.out).trans x3; have r3 := (World.cell?_of_block (a := ⟨gg, 4, none⟩) HX2.out).trans x4; clear hm3))
          all_goals
            go_wp2_with fail
            go_meet
            exact ⟨rfl, rfl, rfl, _, HM3.out, rfl⟩
        case rest =>
          obtain ⟨rfl, rfl, rfl, wz, HMV, rfl⟩ := hcut
          clear x0 x3 x4
          obtain ⟨Fp1, hg1, hF1, hch1⟩ := (HF.out.1.below HBY.out).game.moved HMV.out
          have hX : wz.heap[gg]? = some (bGame gp A1 (.slice ao na ac) B1 (.slice bo nb bc)) := by
            have := hg1.box
            simp only [HK.out.2.2.1, HK.out.2.2.2] at this
            exact this
          obtain ⟨V, hV⟩ : ∃ V, V = wz.alloc (bTab B1 (.slice bo nb bc)) := ⟨_, rfl⟩
          obtain ⟨gz, hgz⟩ : ∃ gz, wz.heap.size = gz := ⟨_, rfl⟩
          have KV : Hid (V = wz.alloc (bTab B1 (.slice bo nb bc)) ∧ wz.heap.size = gz ∧ W.heap.size ≤ gz ∧ gr ≠ gz) := by
            have h1 := HF.out.1.bel.size
            have h2 := HBY.out.size
            have h3 := hch1.size
            have h4 := HF.out.2.1.lt
            exact ⟨hV, hgz, by omega, by omega⟩
          have HI : Hid (∃ S X Fp T vt tc, WayI W V gg gp S X Fp (A1, A2) (B1, B2) ao ac bo bc gr gz T vt tc (n + 1 + 0)) := by
            have h0 := HF.out.1.below HBY.out
            have a1 := h0.chg hg1 hF1 hch1 HRD.out.1 (k' := n + 1) (by have h1 := HRD.out.2.1; have h2 := HF.out.1.pot; have h3 := HKN.out.1; omega)
            have r1 := (HF.out.2.1.below HBY.out).chg hch1 (HF.out.2.1.below HBY.out).no hF1
            have k1 := Kst.new hg1 (B1, B2) bo bc
            have hbV : Below wz.heap.size wz V := by rw [hV]; exact nx_alloc _ _
            have e : V = wz.alloc (bTab (B1, B2).1 (.slice bo (B1, B2).2.length bc)) := by rw [hV]; simp only [HK.out.2.2.2]
            rw [← e, hgz] at k1
            exact ⟨D, Y, Fp1, (B1, B2), bo, bc, a1.below hbV, r1.below hbV, k1, HRD.out.2.2.1, HRD.out.2.2.2, .inr ⟨rfl, rfl, rfl⟩⟩
          obtain ⟨x0, x1, x2, x3, x4⟩ := gblk5 hX
          clear hg1 hF1 hch1 hX hV hgz
          go_upto_region 11 with fail
          rw [← KV.out.1, KV.out.2.1]
          clear x0 x1 x2 x3 x4
          go_wp2_with fail
          clear HD HTX HRL HRD HKN HBX HNF HMV HBY hgy hgl hlt hlti HF HH S X Fp D Y L
          go_loopw [12, 15] (fun e i wr => ∃ (er : Int) (k : Nat), e = .int .i64 er ∧ k ≤ m ∧ i = .int .i64 k ∧ Hid (∃ S X Fp T vt tc, WayI W wr gg gp S X Fp (A1, A2) (B1, B2) ao ac bo bc gr gz T vt tc (n + 1 + k))) (fun e i _ => m - (intOf i).toNat)
          case atStart => exact ⟨0, 0, rfl, Nat.zero_le _, rfl, HI.out⟩
          case round =>
            clear HI
            obtain ⟨er0, k, rfl, hk, rfl, HH⟩ := hrel
            obtain ⟨S, X, Fp, T, vt, tc, hfi⟩ := HH.out
            have HF := hideIt hfi
            clear hfi
            by_cases hlt : k < m
            · obtain ⟨⟨kd, a, p⟩, hp⟩ : ∃ p, ot[k]? = some p := ⟨_, List.getElem?_eq_getElem (by rw [HR2.out.2.1]; exact hlt)⟩
              obtain ⟨bl, off, hao, hbl, c0, c1, c2⟩ := opk_at (HR2.out.1.nx HF.out.arr.bel) hp
              subst hao
              simp only at c0 c1 c2
              have hlti : (k : Int) < (m : Int) := by omega
              have HP : Hid (ot[k]? = some ⟨kd, a, p⟩ ∧ I64 p) := ⟨hp, HR2.out.2.2 _ (List.mem_of_getElem? hp)⟩
              by_cases h6 : kd = 6
              · have HN : Hid (∃ S X Fp T vt tc, WayI W wr gg gp S X Fp (A1, A2) (B1, B2) ao ac bo bc gr gz T vt tc (n + 1 + (k + 1))) :=
                  ⟨S, X, Fp, T, vt, tc, ⟨HF.out.arr.game, HF.out.arr.run, by have := HF.out.arr.pot; omega, HF.out.arr.fp, HF.out.arr.bel⟩, HF.out.res, HF.out.aim, HF.out.pln, HF.out.home, HF.out.goal⟩
                subst h6
                clear hp
                go_wp2_with fail
                go_roundw
                case rel => exact ⟨er0, k + 1, rfl, by omega, by go_num, HN.out⟩
                case measure => simp [intOf]; omega
              · have hfit := fits_way HF.out.arr.run HF.out.arr.pot (by omega)
                have HPL := hideIt (gplayA gg gp S X Fp (A1, A2) (B1, B2) ao ac bo bc wr kd a p T HF.out.arr.game HF.out.arr.run.good HF.out.pln (by have := HF.out.arr.run.plan; omega) hfit.2.1 HK.out.1 HK.out.2.1 HF.out.arr.run.hps HP.out.2)
                clear hp hfit
                go_wp2_with fail
                refine HPL.out.mono ?_
                rintro e w1 ⟨S', X', nn, er, ⟨rfl, Fp', hg1, hF1, hch1⟩, hstep⟩
                obtain ⟨hrun', hpot, _⟩ := step_run HK.out.1 HK.out.2.1 HF.out.arr.run hstep
                have hgo := step_goal HF.out.arr.run.good HF.out.pln HF.out.home h6 hstep
                have h1 := HF.out.arr.chg hg1 hF1 hch1 hrun' (k' := n + 1 + (k + 1)) (by have := HF.out.arr.pot; omega)
                have h2 := HF.out.res.chg hch1 HF.out.res.no hF1
                have h3 := HF.out.aim.chg hch1 HF.out.aim.no hF1
                obtain ⟨bl', off', hao', hbl', d0, d1, d2⟩ := opk_at (HR2.out.1.nx h1.bel) HP.out.1
                obtain ⟨rfl, rfl⟩ : bl = bl' ∧ off = off' := by simpa using hao'
                simp only at d0 d1 d2
                have HB1 : Hid (w1.heap[gg]? = some (bGame gp A1 (.slice ao na ac) B1 (.slice bo nb bc))) := by
                  have := hg1.box
                  simp only [HK.out.2.2.1, HK.out.2.2.2] at this
                  exact this
                have HA := hideIt h3
                by_cases h7 : kd = 7 ∧ er = 0
                · obtain ⟨rfl, rfl⟩ := h7
                  have HN : Hid (∃ S X Fp T vt tc, WayI W (st2 w1 gz A1 (.slice ao na ac)) gg gp S X Fp (A1, A2) (B1, B2) ao ac bo bc gr gz T vt tc (n + 1 + (k + 1))) := by
                    have e := HK.out.2.2.1
                    have k1 := h3.store (A1, A2) ao ac
                    simp only [e] at k1
                    exact ⟨S', X', Fp', (A1, A2), ao, ac, h1.store h3 KV.out.2.2.1 _ _, h2.chg (st2_chg _ _ _ _) (fun x => KV.out.2.2.2 x) (fun _ hy => .inl hy), by rw [← e]; exact h3.store (A1, A2) ao ac, (hgo.1 ⟨rfl, rfl⟩).1, (hgo.1 ⟨rfl, rfl⟩).2, .inl ⟨rfl, rfl, rfl⟩⟩
                  obtain ⟨x0, x1, x2, x3, x4⟩ := gblk5 HB1.out
                  obtain ⟨z0, z1, zz⟩ := blk2 HA.out.box
                  clear hg1 hF1 hch1 hstep hrun' hpot c0 c1 c2 hao' hbl' h1 h2 h3 hgo x0 x3 x4
                  go_wp2_with fail
                  go_roundw
                  case rel => exact ⟨0, k + 1, rfl, by omega, by go_num, HN.out⟩
                  case measure => simp [intOf]; omega
                · have HN : Hid (∃ S X Fp T vt tc, WayI W w1 gg gp S X Fp (A1, A2) (B1, B2) ao ac bo bc gr gz T vt tc (n + 1 + (k + 1))) :=
                    ⟨S', X', Fp', T, vt, tc, h1, h2, h3, (hgo.2 h7).1, (hgo.2 h7).2, HF.out.goal⟩
                  clear hg1 hF1 hch1 hstep hrun' hpot c0 c1 c2 hao' hbl' h1 h2 h3 hgo
                  by_cases h77 : kd = 7
                  · subst h77
                    have her : ¬ er = 0 := fun e => h7 ⟨rfl, e⟩
                    clear h7
                    go_wp2_with fail
                    go_roundw
                    case rel => exact ⟨er, k + 1, rfl, by omega, by go_num, HN.out⟩
                    case measure => simp [intOf]; omega
                  · clear h7
                    go_wp2_with fail
                    go_roundw
                    case rel => exact ⟨er, k + 1, rfl, by omega, by go_num, HN.out⟩
                    case measure => simp [intOf]; omega
            · have hlti : ¬ (k : Int) < (m : Int) := by omega
              have HCA := hideIt (gCalm gg gp S X Fp (A1, A2) (B1, B2) ao ac bo bc wr HF.out.arr.game HF.out.arr.run (by have := HF.out.arr.pot; omega))
              go_wp2_with fail
              refine HCA.out.mono ?_
              rintro e w1 ⟨rfl, S1, X1, Fp1, hon, hcalm, hrs, hx1, hx2⟩
              have HTH := hideIt (gThrough gg gp S1 X1 Fp1 (A1, A2) (B1, B2) ao ac bo bc w1 T hon.game hon.run hcalm (pln_rest HF.out.pln hrs ⟨hx1, hx2⟩) (by have h1 := hon.pot; have h2 := HF.out.arr.pot; omega))
              have HON := hideIt hon
              clear hon hcalm hrs hx1 hx2 HCA
              go_wp2_with fail
              refine HTH.out.mono ?_
              rintro e w2 ⟨rfl, S2, X2, Fp2, hon2, hcalm2, hpln2, hpe2⟩
              have hw1 : Kst w1 gr (0, []) none 0 gg Fp1 (A1, A2) (B1, B2) ao ac bo bc ∧ Kst w1 gz T vt tc gg Fp1 (A1, A2) (B1, B2) ao ac bo bc ∧ ArrI W w1 gg gp S1 X1 Fp1 (A1, A2) (B1, B2) ao ac bo bc (n + m + 205) :=
                ⟨HF.out.res.chg HON.out.chg HF.out.res.no HON.out.fp, HF.out.aim.chg HON.out.chg HF.out.aim.no HON.out.fp, HF.out.arr.chg HON.out.game HON.out.fp HON.out.chg HON.out.run (by have h1 := HON.out.pot; have h2 := HF.out.arr.pot; omega)⟩
              have hw2 : Kst w2 gr (0, []) none 0 gg Fp2 (A1, A2) (B1, B2) ao ac bo bc ∧ Kst w2 gz T vt tc gg Fp2 (A1, A2) (B1, B2) ao ac bo bc ∧ ArrI W w2 gg gp S2 X2 Fp2 (A1, A2) (B1, B2) ao ac bo bc (n + m + 410) :=
                ⟨hw1.1.chg hon2.chg hw1.1.no hon2.fp, hw1.2.1.chg hon2.chg hw1.2.1.no hon2.fp, hw1.2.2.chg hon2.game hon2.fp hon2.chg hon2.run (by have h1 := hon2.pot; have h2 := HON.out.pot; have h3 := HF.out.arr.pot; omega)⟩
              obtain ⟨T1, T2⟩ := T
              obtain ⟨nt, hnt⟩ : ∃ nt, T2.length = nt := ⟨_, rfl⟩
              have HFI : Hid (ArrG W gg gp (A1, A2) (B1, B2) ao ac bo bc (n + m + 410) (st2 w2 gr T1 (.slice vt nt tc)) (.returned (.tuple #[.agg #[.int .i64 T1, .slice vt nt tc], .bool true]))) := by
                refine ⟨(T1, T2), vt, tc, S2, X2, Fp2, by rw [hnt], HF.out.goal, hw2.2.2.store hw2.1 K0.out.2.2.2.2 _ _, hcalm2, hpln2, hpe2⟩
              obtain ⟨z0, z1⟩ := gblk2 hw2.2.1.box
              simp only [hnt] at z0 z1
              obtain ⟨y0, y1, yz⟩ := blk2 hw2.1.box
              simp only [List.length_nil] at y1
              have hne := KV.out.2.2.2
              clear hon2 hcalm2 hpln2 hpe2 hw1 hw2 hnt
              go_wp2_with fail
              exact bodyPost_ret (v := .tuple #[.agg #[.int .i64 T1, .slice vt nt tc], .bool true]) (by simp [results, Tryz.results17, go_sem, y0, y1]) rfl HFI.out
end Lw
end Go.Proofs.YtohbonfngeblkaaGreat
