
import Derived.Test.YtfdnfopnhhfmkaaDoorPrB
namespace Go.Proofs.YtfdnfopnhhfmkaaDoor
open Go.RowKit
namespace Pr

set_option maxHeartbeats 2000000 in
theorem sound_any (b : Int) (ao : Option Addr) (c : Nat) (ps : List Pl) (w : World) (hps : Pools w ao ps) (hlen : ps.length ≤ maxLen) :
    Calls Tryd.prog 11 #[.agg #[.int .i64 b, .slice ao ps.length c]] w fun e w' => e = .returned (.bool (tabOk b ps)) ∧ Below w.heap.size w w' := by
  unfold maxLen at hlen
  cases hb : inB 1 99 b
  · go_enter Tryd.func11, Tryd.ntmps11
    go_wp2_with fail
    refine (between_any _ _ _ _).mono ?_; rintro e w' ⟨rfl, rfl⟩
    rw [hb]
    go_wp2_with fail
    go_ret
    exact ⟨ret_bool (by simp [tabOk, hb]), nx_alloc _ _⟩
  obtain ⟨n, hn⟩ : ∃ n, ps.length = n := ⟨_, rfl⟩
  rw [hn] at hlen ⊢
  by_cases h6 : 6 < n
  · go_enter Tryd.func11, Tryd.ntmps11
    go_wp2_with fail
    refine (between_any _ _ _ _).mono ?_; rintro e w' ⟨rfl, rfl⟩
    rw [hb]
    go_wp2_with fail
    go_ret
    exact ⟨ret_bool (by simp [tabOk, hb]; omega), nx_alloc _ _⟩
  have h6b : decide ((6 : Int) < (n : Int)) = false := by simp; omega
  have HN : Hid (ps.length = n) := hn
  clear hn
  have HP : Hid (Pools (w.alloc (.cells #[.int .i64 b, .slice ao n c] 24)) ao ps) := hps.nx (nx_alloc _ _)
  clear hps
  go_enter Tryd.func11, Tryd.ntmps11
  go_wp2_with fail
  refine (between_any _ _ _ _).mono ?_; rintro e w' ⟨rfl, rfl⟩
  rw [hb]
  go_wp2_with fail
  go_loopw [4] (fun i wr => ∃ (k : Nat) (l0 : ByteArray), k ≤ n ∧ i = .int .i64 k ∧ Hid (k = 0 ∧ l0 = ⟨#[]⟩ ∨ 0 < k ∧ ∃ q, ps[k - 1]? = some q ∧ l0 = q.nm) ∧ Hid (chk l0 (ps.drop k) = chk ⟨#[]⟩ ps) ∧
      Below (w.alloc (.cells #[.int .i64 b, .slice ao n c] 24)).heap.size (w.alloc (.cells #[.int .i64 b, .slice ao n c] 24)) wr) (fun i _ => n - (intOf i).toNat)
  case atStart => exact ⟨0, ⟨#[]⟩, Nat.zero_le _, rfl, .inl ⟨rfl, rfl⟩, rfl, Below.refl _ _⟩
  case round =>
    obtain ⟨k, l0, hk, rfl, HL, HC, hbel⟩ := hrel
    have hcell : wr.cell? ⟨w.heap.size, 1, none⟩ = some (.slice ao n c) := by
      refine (hbel.cell (p := ⟨w.heap.size, 1, none⟩) (by simp)).trans ?_
      simp
    have HB : Hid (Below w.heap.size w wr) := nx_trans (nx_alloc _ _) hbel
    by_cases hlt : k < n
    · obtain ⟨⟨nm, sz, wt, fr⟩, hp⟩ : ∃ p, ps[k]? = some p := ⟨_, List.getElem?_eq_getElem (by rw [HN.out]; exact hlt)⟩
      obtain ⟨bl, off, rfl, hbl, c0, c1, c2, c3, hs⟩ := (HP.out.nx hbel).at hp
      have hd : Hid (ps.drop k = ⟨nm, sz, wt, fr⟩ :: ps.drop (k + 1)) := drop_at hp
      have HPk : Hid (ps[k]? = some ⟨nm, sz, wt, fr⟩) := hp
      clear hp
      simp only at c0 c1 c2 c3 hs
      have hcellA : ∀ o, (wr.alloc o).cell? ⟨w.heap.size, 1, none⟩ = some (.slice (some ⟨bl, off, none⟩) n c) := fun o => ((nx_alloc wr o).cell (p := ⟨w.heap.size, 1, none⟩) (sz_lt hbel)).trans hcell
      have hwl := sz_lt hbel
      cases h1 : isNm nm
      · go_wp2_with fail
        refine (named_any _ _ hs).mono ?_; rintro e w' ⟨rfl, rfl⟩
        rw [h1]
        go_wp2_with fail
        refine (between_any _ _ _ _).mono ?_; rintro e w' ⟨rfl, rfl⟩
        go_wp2_with fail
        refine (between_any _ _ _ _).mono ?_; rintro e w' ⟨rfl, rfl⟩
        go_wp2_with fail
        refine (between_any _ _ _ _).mono ?_; rintro e w' ⟨rfl, rfl⟩
        go_wp2_with fail
        go_quiet (fail)
        go_wp2_with fail
        go_ret
        exact ⟨ret_bool (by simp [tabOk, hb]; intro _; rw [← HC.out, hd.out]; simp [chk, plOk, h1]), nx_trans HB.out (below_drewN (nx_alloc _ _) _)⟩
      cases h2 : inB 0 20 sz
      · go_wp2_with fail
        refine (named_any _ _ hs).mono ?_; rintro e w' ⟨rfl, rfl⟩
        rw [h1]
        go_wp2_with fail
        refine (between_any _ _ _ _).mono ?_; rintro e w' ⟨rfl, rfl⟩
        rw [h2]
        go_wp2_with fail
        refine (between_any _ _ _ _).mono ?_; rintro e w' ⟨rfl, rfl⟩
        go_wp2_with fail
        refine (between_any _ _ _ _).mono ?_; rintro e w' ⟨rfl, rfl⟩
        go_wp2_with fail
        go_quiet (fail)
        go_wp2_with fail
        go_ret
        exact ⟨ret_bool (by simp [tabOk, hb]; intro _; rw [← HC.out, hd.out]; simp [chk, plOk, h2]), nx_trans HB.out (below_drewN (nx_alloc _ _) _)⟩
      cases h3 : inB 0 20 wt
      · go_wp2_with fail
        refine (named_any _ _ hs).mono ?_; rintro e w' ⟨rfl, rfl⟩
        rw [h1]
        go_wp2_with fail
        refine (between_any _ _ _ _).mono ?_; rintro e w' ⟨rfl, rfl⟩
        rw [h2]
        go_wp2_with fail
        refine (between_any _ _ _ _).mono ?_; rintro e w' ⟨rfl, rfl⟩
        rw [h3]
        go_wp2_with fail
        refine (between_any _ _ _ _).mono ?_; rintro e w' ⟨rfl, rfl⟩
        go_wp2_with fail
        go_quiet (fail)
        go_wp2_with fail
        go_ret
        exact ⟨ret_bool (by simp [tabOk, hb]; intro _; rw [← HC.out, hd.out]; simp [chk, plOk, h3]), nx_trans HB.out (below_drewN (nx_alloc _ _) _)⟩
      cases h4 : inB 0 999 fr
      · go_wp2_with fail
        refine (named_any _ _ hs).mono ?_; rintro e w' ⟨rfl, rfl⟩
        rw [h1]
        go_wp2_with fail
        refine (between_any _ _ _ _).mono ?_; rintro e w' ⟨rfl, rfl⟩
        rw [h2]
        go_wp2_with fail
        refine (between_any _ _ _ _).mono ?_; rintro e w' ⟨rfl, rfl⟩
        rw [h3]
        go_wp2_with fail
        refine (between_any _ _ _ _).mono ?_; rintro e w' ⟨rfl, rfl⟩
        rw [h4]
        go_wp2_with fail
        go_quiet (fail)
        go_wp2_with fail
        go_ret
        exact ⟨ret_bool (by simp [tabOk, hb]; intro _; rw [← HC.out, hd.out]; simp [chk, plOk, h4]), nx_trans HB.out (below_drewN (nx_alloc _ _) _)⟩
      rcases HL.out with ⟨hk0, hl0⟩ | ⟨hk1, q, hq, hlq⟩
      · subst hl0
        have hkb : decide ((0 : Int) < (k : Int)) = false := by simp; omega
        have hkb2 : decide (0 < k) = false := by simp; omega
        have HK0 : Hid (k = 0) := hk0
        clear hk0
        have hl1 := lt_empty nm h1
        have HL1 : Hid (lt ⟨#[]⟩ nm = true) := hl1
        clear hl1
        go_wp2_with fail
        refine (named_any _ _ hs).mono ?_; rintro e w' ⟨rfl, rfl⟩
        rw [h1]
        go_wp2_with fail
        refine (between_any _ _ _ _).mono ?_; rintro e w' ⟨rfl, rfl⟩
        rw [h2]
        go_wp2_with fail
        refine (between_any _ _ _ _).mono ?_; rintro e w' ⟨rfl, rfl⟩
        rw [h3]
        go_wp2_with fail
        refine (between_any _ _ _ _).mono ?_; rintro e w' ⟨rfl, rfl⟩
        rw [h4]
        go_wp2_with fail
        go_quiet (fail)
        go_wp2_with fail
        go_roundw
        case rel => exact ⟨k + 1, nm, by omega, by go_num, .inr ⟨Nat.succ_pos _, _, HPk.out, rfl⟩, by
          show chk nm (ps.drop (k + 1)) = _
          rw [← HC.out, hd.out]; simp [chk, plOk, h1, h2, h3, h4, HL1.out], nx_trans hbel (below_drewN (nx_alloc _ _) _)⟩
        case measure => simp [intOf]; omega
      have hcP : ∀ o, (wr.alloc o).cell? ⟨bl, off + (k - 1) * 4, none⟩ = some (.string l0) := by
        intro o
        obtain ⟨bl', off', e1, _, e0, _⟩ := (HP.out.nx hbel).at hq
        obtain ⟨rfl, rfl⟩ : bl = bl' ∧ off = off' := by simpa using e1
        rw [hlq]
        exact ((nx_alloc wr o).cell (p := ⟨bl, off + (k - 1) * 4, none⟩) hbl).trans e0
      clear hq hlq
      have hkb : decide ((0 : Int) < (k : Int)) = true := by simp; omega
      have hki : (0 : Int) ≤ (k : Int) - 1 := by omega
      have hkj : (k : Int) - 1 < (n : Int) := by omega
      cases hlt2 : lt l0 nm
      · have hge : Op.bytesLess l0.toList nm.toList = false := hlt2
        go_wp2_with fail
        refine (named_any _ _ hs).mono ?_; rintro e w' ⟨rfl, rfl⟩
        rw [h1]
        go_wp2_with fail
        refine (between_any _ _ _ _).mono ?_; rintro e w' ⟨rfl, rfl⟩
        rw [h2]
        go_wp2_with fail
        refine (between_any _ _ _ _).mono ?_; rintro e w' ⟨rfl, rfl⟩
        rw [h3]
        go_wp2_with fail
        refine (between_any _ _ _ _).mono ?_; rintro e w' ⟨rfl, rfl⟩
        rw [h4]
        go_wp2_with fail
        go_quiet (fail)
        go_wp2_with fail
        go_ret
        exact ⟨ret_bool (by simp [tabOk, hb]; intro _; rw [← HC.out, hd.out]; simp [chk, hlt2]), nx_trans HB.out (below_drewN (nx_alloc _ _) _)⟩
      · have hge : Op.bytesLess l0.toList nm.toList = true := hlt2
        go_wp2_with fail
        refine (named_any _ _ hs).mono ?_; rintro e w' ⟨rfl, rfl⟩
        rw [h1]
        go_wp2_with fail
        refine (between_any _ _ _ _).mono ?_; rintro e w' ⟨rfl, rfl⟩
        rw [h2]
        go_wp2_with fail
        refine (between_any _ _ _ _).mono ?_; rintro e w' ⟨rfl, rfl⟩
        rw [h3]
        go_wp2_with fail
        refine (between_any _ _ _ _).mono ?_; rintro e w' ⟨rfl, rfl⟩
        rw [h4]
        go_wp2_with fail
        go_quiet (fail)
        go_wp2_with fail
        go_roundw
        case rel => exact ⟨k + 1, nm, by omega, by go_num, .inr ⟨Nat.succ_pos _, _, HPk.out, rfl⟩, by
          show chk nm (ps.drop (k + 1)) = _
          rw [← HC.out, hd.out]; simp [chk, plOk, h1, h2, h3, h4, hlt2], nx_trans hbel (below_drewN (nx_alloc _ _) _)⟩
        case measure => simp [intOf]; omega
    · go_wp2_with fail
      go_ret
      exact ⟨ret_bool (by
        have h0 : ps.drop k = [] := List.drop_of_length_le (by rw [HN.out]; omega)
        have := HC.out; rw [h0] at this
        simp [tabOk, hb, ← this, chk, HN.out]; omega), HB.out⟩
end Pr
end Go.Proofs.YtfdnfopnhhfmkaaDoor
