
import Derived.Test.YtbdekfghddekkaaCpI
namespace Go.Proofs.Ytbdekfghddekkaa
open Go.RowKit
namespace Co

set_option maxRecDepth 20000 in
set_option maxHeartbeats 4000000 in
theorem kept_any (go : Nat) (po : Option Addr) (pc q : Nat) (vs : List Value) (w : World) (hgo : w.heap[go]? = some (bOwn (.slice po q pc))) (hr : RowAt w (.slice po q pc) q vs) (hn : vs.length = q) (hq : q ≤ 5) (hf : ∀ (i : Nat) (v : Value), vs[i]? = some v → Full w v ((i + 1 : Nat) : Int)) (hcl : ∀ v ∈ vs, ∀ a n c, v = .slice a n c → n ≤ maxLen) :
    Calls Try.prog 6 #[.pointer (some ⟨go, 0, none⟩)] w fun e w' => e = .returned (.bool true) ∧ w' = w := by
  obtain ⟨a0, a1, a2, a3, az⟩ := blk4o hgo
  have HH : Hid (RowAt w (.slice po q pc) q vs ∧ vs.length = q ∧ (∀ (i : Nat) (v : Value), vs[i]? = some v → Full w v ((i + 1 : Nat) : Int)) ∧ ∀ v ∈ vs, ∀ a n c, v = .slice a n c → n ≤ maxLen) := ⟨hr, hn, hf, hcl⟩
  clear hgo hr hn hf hcl
  go_enter Try.func6, Try.ntmps6
  go_wp2_with fail
  go_loop [3, 4] (fun i x => ∃ (k : Nat), k ≤ q ∧ i = .int .i64 k) (fun i _ => q - (intOf i).toNat)
  case atStart => exact ⟨0, Nat.zero_le _, rfl⟩
  case round =>
    obtain ⟨k, hk, rfl⟩ := hrel
    by_cases hlt : k < q
    · obtain ⟨v, hv⟩ : ∃ v, vs[k]? = some v := ⟨_, List.getElem?_eq_getElem (by rw [HH.out.2.1]; exact hlt)⟩
      obtain ⟨bl, off, hpo, hbl, hc⟩ := HH.out.1.at hv
      have hlti : (k : Int) < (q : Int) := by omega
      have hfull := HH.out.2.2.1 k v hv
      have hcv := HH.out.2.2.2 v (List.mem_of_getElem? hv)
      subst hpo
      clear hv
      rcases hfull with rfl | ⟨g, cap, cur, rfl, hg, hm⟩
      · go_wp2_with fail
        go_loop [4] (fun x => x = .int .i64 0) (fun _ => 0)
        case atStart => rfl
        case round =>
          obtain rfl := hrel
          go_wp2_with fail
          go_round
          case rel => exact ⟨k + 1, by omega, by go_num⟩
          case measure => simp [intOf]; omega
      · have hcap := hcv _ _ _ rfl
        unfold maxLen at hcap
        have HM : Hid (w.heap[g]? = some (.cells cur 42 (0, 0)) ∧ Marked cur cap ((k + 1 : Nat) : Int)) := ⟨hg, hm⟩
        clear hg hm hcv
        go_wp2_with fail
        go_loop [4] (fun x => ∃ (j : Nat), j ≤ cap ∧ x = .int .i64 j) (fun x => cap - (intOf x).toNat)
        case atStart => exact ⟨0, Nat.zero_le _, rfl⟩
        case round =>
          obtain ⟨j, hj, rfl⟩ := hrel
          by_cases hjl : j < cap
          · obtain ⟨m0, m1, m2, m3⟩ := HM.out.2 j hjl
            have d0 : w.cell? ⟨g, j * 4, none⟩ = some (.string ⟨#[]⟩) := by simp [World.cell?, HM.out.1, m0]
            have d1 : w.cell? ⟨g, j * 4 + 1, none⟩ = some (.int .i64 0) := by simp [World.cell?, HM.out.1, m1]
            have d2 : w.cell? ⟨g, j * 4 + 2, none⟩ = some (.int .i64 0) := by simp [World.cell?, HM.out.1, m2]
            have d3 : w.cell? ⟨g, j * 4 + 3, none⟩ = some (.int .i64 ((k : Int) + 1)) := by
              have e : ((k + 1 : Nat) : Int) = (k : Int) + 1 := by omega
              rw [← e]
              simp [World.cell?, HM.out.1, m3]
            have hjli : (j : Int) < (cap : Int) := by omega
            clear m0 m1 m2 m3
            go_wp2_with fail
            go_round
            case rel => exact ⟨j + 1, by omega, by go_num⟩
            case measure => simp [intOf]; omega
          · go_wp2_with fail
            go_round
            case rel => exact ⟨k + 1, by omega, by go_num⟩
            case measure => simp [intOf]; omega
    · go_wp2_with fail
      go_loop [5, 6] (fun x _ => x = .int .i64 0) (fun _ _ => 0)
      case atStart => rfl
      case round =>
        obtain rfl := hrel
        go_wp2_with fail
        go_loop [7, 8, 9] (fun x _ _ => x = .int .i64 0) (fun _ _ _ => 0)
        case atStart => rfl
        case round =>
          obtain rfl := hrel
          go_wp2_with fail
          go_ret
          exact ⟨rfl, rfl⟩
end Co
end Go.Proofs.Ytbdekfghddekkaa
