import Derived.Test.YtmmmjpkhnbfnbaaGreatMgK
namespace Go.Proofs.YtmmmjpkhnbfnbaaGreat
open Go.RowKit
namespace Lw
open Co

theorem mark_cell {w : World} {g : Nat} {cur : Array Value} {t : TypeId} {sz : Nat} {m : List Value} {cap j : Nat} (hg : w.heap[g]? = some (.cells cur t (0, 0))) (hm : MarkG sz m cur cap) (hj : j < cap) (i : Nat) (v : Value) (hv : m[i]? = some v) : w.cell? ⟨g, j * sz + i, none⟩ = some v := by
  have := hm j hj i v hv
  simp [World.cell?, hg, this]
set_option maxRecDepth 20000 in
set_option maxHeartbeats 8000000 in
theorem okept_own (go : Nat) (F : Nat → Prop) (q1 q2 q4 : Nat) (w : World) (h : OwnAt w go F q1 q2 q2 q4) (hq : q1 ≤ 1099511627776 ∧ q2 ≤ 1099511627776 ∧ q4 ≤ 1099511627776) :
    Calls Tryz.prog 8 #[.pointer (some ⟨go, 0, none⟩)] w fun e w' => e = .returned (.bool true) ∧ w' = w := by
  obtain ⟨hq1, hq2, hq4⟩ := hq
  obtain ⟨v1, v2, v3, v4, h0, ⟨vsP, p1, _, p3⟩, ⟨vsV, s1, _, s3⟩, ⟨vsW, w1, _, w3⟩, ⟨vsT, t1, _, t3⟩⟩ := h.ex
  obtain ⟨po, pc, rfl, _⟩ := own_row p1
  obtain ⟨so, sc, rfl, _⟩ := own_row s1
  obtain ⟨wo, wc, rfl, _⟩ := own_row w1
  obtain ⟨to, tc, rfl, _⟩ := own_row t1
  have HP : Hid (RowAt w (.slice po q1 pc) q1 vsP ∧ vsP.length = q1 ∧ ∀ (i : Nat) (x : Value), vsP[i]? = some x → FullG 70 4 (mP ((i + 1 : Nat) : Int)) w x ∧ ∀ g, x.ownBlock = some g → F g) := ⟨own_row p1, by simpa using p1.1, p3⟩
  have HV : Hid (RowAt w (.slice so q2 sc) q2 vsV ∧ vsV.length = q2 ∧ ∀ (i : Nat) (x : Value), vsV[i]? = some x → FullG 74 4 (mV ((i + 1 : Nat) : Int)) w x ∧ ∀ g, x.ownBlock = some g → F g) := ⟨own_row s1, by simpa using s1.1, s3⟩
  have HW : Hid (RowAt w (.slice wo q2 wc) q2 vsW ∧ vsW.length = q2 ∧ ∀ (i : Nat) (x : Value), vsW[i]? = some x → FullG 76 2 (mW ((i + 1 : Nat) : Int)) w x ∧ ∀ g, x.ownBlock = some g → F g) := ⟨own_row w1, by simpa using w1.1, w3⟩
  have HT : Hid (RowAt w (.slice to q4 tc) q4 vsT ∧ vsT.length = q4 ∧ ∀ (i : Nat) (x : Value), vsT[i]? = some x → FullG 72 3 (mT ((i + 1 : Nat) : Int)) w x ∧ ∀ g, x.ownBlock = some g → F g) := ⟨own_row t1, by simpa using t1.1, t3⟩
  obtain ⟨a0, a1, a2, a3, az⟩ := blkOw h0
  clear h h0 p1 p3 s1 s3 w1 w3 t1 t3
  go_enter Tryz.func8, Tryz.ntmps8
  go_wp2_with fail
  go_loop [3] (fun i => ∃ k : Nat, k ≤ q1 ∧ i = .int .i64 k) (fun i => q1 - (intOf i).toNat)
  case atStart => exact ⟨0, Nat.zero_le _, rfl⟩
  case round =>
    obtain ⟨k, hk, rfl⟩ := hrel
    by_cases hlt : k < q1
    · obtain ⟨x, hx⟩ : ∃ x, vsP[k]? = some x := ⟨_, List.getElem?_eq_getElem (by rw [HP.out.2.1]; exact hlt)⟩
      obtain ⟨bl, off, rfl, hbl, hcx⟩ := HP.out.1.at hx
      have hlti : (k : Int) < (q1 : Int) := by omega
      rcases (HP.out.2.2 k x hx).1 with hxe | ⟨g, cap, cur, hxe, hcap, hg, hm⟩
      · subst hxe
        go_wp2_with fail
        go_loop [4] (fun i => i = .int .i64 0) (fun _ => 0)
        case atStart => rfl
        case round =>
          subst hrel
          go_wp2_with fail
          go_round
          case rel => exact ⟨k + 1, by omega, by go_num⟩
          case measure => simp [intOf]; omega
      · subst hxe
        have hcap' : cap ≤ 9223372036854775807 := hcap
        have HGM : Hid (w.heap[g]? = some (.cells cur _ (0, 0)) ∧ MarkG 4 _ cur cap) := ⟨hg, hm⟩
        clear hg hm hcap
        go_wp2_with fail
        go_loop [4] (fun i => ∃ j : Nat, j ≤ cap ∧ i = .int .i64 j) (fun i => cap - (intOf i).toNat)
        case atStart => exact ⟨0, Nat.zero_le _, rfl⟩
        case round =>
          obtain ⟨j, hjc, rfl⟩ := hrel
          by_cases hj : j < cap
          · have hji : (j : Int) < (cap : Int) := by omega
            have m0 : w.cell? ⟨g, j * 4, none⟩ = some (.string ⟨#[]⟩) := mark_cell HGM.out.1 HGM.out.2 hj 0 _ rfl
            have m1 : w.cell? ⟨g, j * 4 + 1, none⟩ = some (.int .i64 0) := mark_cell HGM.out.1 HGM.out.2 hj 1 _ rfl
            have m2 : w.cell? ⟨g, j * 4 + 2, none⟩ = some (.int .i64 0) := mark_cell HGM.out.1 HGM.out.2 hj 2 _ rfl
            have m3 : w.cell? ⟨g, j * 4 + 3, none⟩ = some (.int .i64 ((k + 1 : Nat) : Int)) := mark_cell HGM.out.1 HGM.out.2 hj 3 _ rfl
            go_wp2_with fail
            go_round
            case rel => exact ⟨j + 1, by omega, by go_num⟩
            case measure => simp [intOf]; omega
          ·
            go_wp2_with fail
            go_round
            case rel => exact ⟨k + 1, by omega, by go_num⟩
            case measure => simp [intOf]; omega
    ·
      go_wp2_with fail
      go_loop [5] (fun i => ∃ k : Nat, k ≤ q4 ∧ i = .int .i64 k) (fun i => q4 - (intOf i).toNat)
      case atStart => exact ⟨0, Nat.zero_le _, rfl⟩
      case round =>
        obtain ⟨k, hk, rfl⟩ := hrel
        by_cases hlt : k < q4
        · obtain ⟨x, hx⟩ : ∃ x, vsT[k]? = some x := ⟨_, List.getElem?_eq_getElem (by rw [HT.out.2.1]; exact hlt)⟩
          obtain ⟨bl, off, rfl, hbl, hcx⟩ := HT.out.1.at hx
          have hlti : (k : Int) < (q4 : Int) := by omega
          rcases (HT.out.2.2 k x hx).1 with hxe | ⟨g, cap, cur, hxe, hcap, hg, hm⟩
          · subst hxe
            go_wp2_with fail
            go_loop [6] (fun i => i = .int .i64 0) (fun _ => 0)
            case atStart => rfl
            case round =>
              subst hrel
              go_wp2_with fail
              go_round
              case rel => exact ⟨k + 1, by omega, by go_num⟩
              case measure => simp [intOf]; omega
          · subst hxe
            have hcap' : cap ≤ 9223372036854775807 := hcap
            have HGM : Hid (w.heap[g]? = some (.cells cur _ (0, 0)) ∧ MarkG 3 _ cur cap) := ⟨hg, hm⟩
            clear hg hm hcap
            go_wp2_with fail
            go_loop [6] (fun i => ∃ j : Nat, j ≤ cap ∧ i = .int .i64 j) (fun i => cap - (intOf i).toNat)
            case atStart => exact ⟨0, Nat.zero_le _, rfl⟩
            case round =>
              obtain ⟨j, hjc, rfl⟩ := hrel
              by_cases hj : j < cap
              · have hji : (j : Int) < (cap : Int) := by omega
                have m0 : w.cell? ⟨g, j * 3, none⟩ = some (.int .i64 0) := mark_cell HGM.out.1 HGM.out.2 hj 0 _ rfl
                have m1 : w.cell? ⟨g, j * 3 + 1, none⟩ = some (.string ⟨#[]⟩) := mark_cell HGM.out.1 HGM.out.2 hj 1 _ rfl
                have m2 : w.cell? ⟨g, j * 3 + 2, none⟩ = some (.int .i64 ((k + 1 : Nat) : Int)) := mark_cell HGM.out.1 HGM.out.2 hj 2 _ rfl
                go_wp2_with fail
                go_round
                case rel => exact ⟨j + 1, by omega, by go_num⟩
                case measure => simp [intOf]; omega
              ·
                go_wp2_with fail
                go_round
                case rel => exact ⟨k + 1, by omega, by go_num⟩
                case measure => simp [intOf]; omega
        ·
          go_wp2_with fail
          go_loop [7] (fun i => ∃ k : Nat, k ≤ q2 ∧ i = .int .i64 k) (fun i => q2 - (intOf i).toNat)
          case atStart => exact ⟨0, Nat.zero_le _, rfl⟩
          case round =>
            obtain ⟨k, hk, rfl⟩ := hrel
            by_cases hlt : k < q2
            · obtain ⟨x, hx⟩ : ∃ x, vsV[k]? = some x := ⟨_, List.getElem?_eq_getElem (by rw [HV.out.2.1]; exact hlt)⟩
              obtain ⟨bl, off, rfl, hbl, hcx⟩ := HV.out.1.at hx
              have hlti : (k : Int) < (q2 : Int) := by omega
              rcases (HV.out.2.2 k x hx).1 with hxe | ⟨g, cap, cur, hxe, hcap, hg, hm⟩
              · subst hxe
                go_wp2_with fail
                go_loop [8] (fun i => i = .int .i64 0) (fun _ => 0)
                case atStart => rfl
                case round =>
                  subst hrel
                  obtain ⟨y, hy⟩ : ∃ y, vsW[k]? = some y := ⟨_, List.getElem?_eq_getElem (by rw [HW.out.2.1]; exact hlt)⟩
                  obtain ⟨bl', off', rfl, hbl', hcy⟩ := HW.out.1.at hy
                  rcases (HW.out.2.2 k y hy).1 with hxe | ⟨g, cap, cur, hxe, hcap, hg, hm⟩
                  · subst hxe
                    go_wp2_with fail
                    go_loop [9] (fun i => i = .int .i64 0) (fun _ => 0)
                    case atStart => rfl
                    case round =>
                      subst hrel
                      go_wp2_with fail
                      go_round
                      case rel => exact ⟨k + 1, by omega, by go_num⟩
                      case measure => simp [intOf]; omega
                  · subst hxe
                    have hcap' : cap ≤ 9223372036854775807 := hcap
                    have HGM : Hid (w.heap[g]? = some (.cells cur _ (0, 0)) ∧ MarkG 2 _ cur cap) := ⟨hg, hm⟩
                    clear hg hm hcap
                    go_wp2_with fail
                    go_loop [9] (fun i => ∃ j : Nat, j ≤ cap ∧ i = .int .i64 j) (fun i => cap - (intOf i).toNat)
                    case atStart => exact ⟨0, Nat.zero_le _, rfl⟩
                    case round =>
                      obtain ⟨j, hjc, rfl⟩ := hrel
                      by_cases hj : j < cap
                      · have hji : (j : Int) < (cap : Int) := by omega
                        have m0 : w.cell? ⟨g, j * 2, none⟩ = some (.int .i64 ((k + 1 : Nat) : Int)) := mark_cell HGM.out.1 HGM.out.2 hj 0 _ rfl
                        have m1 : w.cell? ⟨g, j * 2 + 1, none⟩ = some (.string ⟨#[]⟩) := mark_cell HGM.out.1 HGM.out.2 hj 1 _ rfl
                        go_wp2_with fail
                        go_round
                        case rel => exact ⟨j + 1, by omega, by go_num⟩
                        case measure => simp [intOf]; omega
                      ·
                        go_wp2_with fail
                        go_round
                        case rel => exact ⟨k + 1, by omega, by go_num⟩
                        case measure => simp [intOf]; omega
              · subst hxe
                have hcap' : cap ≤ 9223372036854775807 := hcap
                have HGM : Hid (w.heap[g]? = some (.cells cur _ (0, 0)) ∧ MarkG 4 _ cur cap) := ⟨hg, hm⟩
                clear hg hm hcap
                go_wp2_with fail
                go_loop [8] (fun i => ∃ j : Nat, j ≤ cap ∧ i = .int .i64 j) (fun i => cap - (intOf i).toNat)
                case atStart => exact ⟨0, Nat.zero_le _, rfl⟩
                case round =>
                  obtain ⟨j, hjc, rfl⟩ := hrel
                  by_cases hj : j < cap
                  · have hji : (j : Int) < (cap : Int) := by omega
                    have m0 : w.cell? ⟨g, j * 4, none⟩ = some (.int .i64 0) := mark_cell HGM.out.1 HGM.out.2 hj 0 _ rfl
                    have m1 : w.cell? ⟨g, j * 4 + 1, none⟩ = some (.string ⟨#[]⟩) := mark_cell HGM.out.1 HGM.out.2 hj 1 _ rfl
                    have m2 : w.cell? ⟨g, j * 4 + 2, none⟩ = some (.int .i64 ((k + 1 : Nat) : Int)) := mark_cell HGM.out.1 HGM.out.2 hj 2 _ rfl
                    have m3 : w.cell? ⟨g, j * 4 + 3, none⟩ = some (.int .i64 0) := mark_cell HGM.out.1 HGM.out.2 hj 3 _ rfl
                    go_wp2_with fail
                    go_round
                    case rel => exact ⟨j + 1, by omega, by go_num⟩
                    case measure => simp [intOf]; omega
                  ·
                    obtain ⟨y, hy⟩ : ∃ y, vsW[k]? = some y := ⟨_, List.getElem?_eq_getElem (by rw [HW.out.2.1]; exact hlt)⟩
                    obtain ⟨bl', off', rfl, hbl', hcy⟩ := HW.out.1.at hy
                    rcases (HW.out.2.2 k y hy).1 with hxe | ⟨g, cap, cur, hxe, hcap, hg, hm⟩
                    · subst hxe
                      go_wp2_with fail
                      go_loop [9] (fun i => i = .int .i64 0) (fun _ => 0)
                      case atStart => rfl
                      case round =>
                        subst hrel
                        go_wp2_with fail
                        go_round
                        case rel => exact ⟨k + 1, by omega, by go_num⟩
                        case measure => simp [intOf]; omega
                    · subst hxe
                      have hcap' : cap ≤ 9223372036854775807 := hcap
                      have HGM : Hid (w.heap[g]? = some (.cells cur _ (0, 0)) ∧ MarkG 2 _ cur cap) := ⟨hg, hm⟩
                      clear hg hm hcap
                      go_wp2_with fail
                      go_loop [9] (fun i => ∃ j : Nat, j ≤ cap ∧ i = .int .i64 j) (fun i => cap - (intOf i).toNat)
                      case atStart => exact ⟨0, Nat.zero_le _, rfl⟩
                      case round =>
                        obtain ⟨j, hjc, rfl⟩ := hrel
                        by_cases hj : j < cap
                        · have hji : (j : Int) < (cap : Int) := by omega
                          have m0 : w.cell? ⟨g, j * 2, none⟩ = some (.int .i64 ((k + 1 : Nat) : Int)) := mark_cell HGM.out.1 HGM.out.2 hj 0 _ rfl
                          have m1 : w.cell? ⟨g, j * 2 + 1, none⟩ = some (.string ⟨#[]⟩) := mark_cell HGM.out.1 HGM.out.2 hj 1 _ rfl
                          go_wp2_with fail
                          go_round
                          case rel => exact ⟨j + 1, by omega, by go_num⟩
                          case measure => simp [intOf]; omega
                        ·
                          go_wp2_with fail
                          go_round
                          case rel => exact ⟨k + 1, by omega, by go_num⟩
                          case measure => simp [intOf]; omega
            ·
              go_wp2_with fail
              go_ret
              exact ⟨rfl, rfl⟩
end Lw
end Go.Proofs.YtmmmjpkhnbfnbaaGreat
