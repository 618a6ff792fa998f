
import Derived.Test.YtlndoeoniicijaaCpB
namespace Go.Proofs.Ytlndoeoniicijaa
open Go.RowKit
namespace Co

def lonI (L : List Ln) (f most : Nat) : Nat → List Ln → Option Nat
  | _, [] => none
  | k, l :: r => if most < (chI L f k).length then some l.place else lonI L f most (k + 1) r
def chER (L : List Ln) : Nat × Nat :=
  match noC L L with
  | some k => (6, k)
  | none => match lonI L (L.length + 1) L.length 0 L with
    | some k => (7, k)
    | none => match lonI L L.length 3 0 L with
      | some k => (8, k)
      | none => (0, 0)

set_option maxRecDepth 20000 in
set_option maxHeartbeats 4000000 in
theorem bases_any (ao : Option Addr) (cap n : Nat) (ls : List RL) (w : World) (hl : RLinesAt w (.slice ao n cap) ls) (hn : ls.length = n) (hn1 : n ≤ 1001) :
    Calls Try.prog 30 #[.slice ao n cap] w fun e w' => e = .returned (.tuple #[.int .i64 (chER (bareR ls)).1, .int .i64 (chER (bareR ls)).2]) ∧ Below w.heap.size w w' := by
  obtain ⟨L, hL⟩ : ∃ L, bareR ls = L := ⟨_, rfl⟩
  have HL : Hid (RLinesAt w (.slice ao n cap) ls ∧ ls.length = n ∧ bareR ls = L ∧ L.length = n) := ⟨hl, hn, hL, by rw [← hL, bareR_len, hn]⟩
  rw [hL]
  clear hl hn hL
  go_enter Try.func30, Try.ntmps30
  go_wp2_with fail
  go_loop [4] (fun i => ∃ (k : Nat), k ≤ n ∧ i = .int .i64 k ∧ Hid (noC L (L.drop k) = noC L L)) (fun i => n - (intOf i).toNat)
  case atStart => exact ⟨0, Nat.zero_le _, rfl, rfl⟩
  case round =>
    obtain ⟨k, hk, rfl, HS⟩ := hrel
    by_cases hlt : k < n
    · obtain ⟨⟨l, kv, vv⟩, hp⟩ : ∃ p, ls[k]? = some p := ⟨_, List.getElem?_eq_getElem (by rw [HL.out.2.1]; exact hlt)⟩
      obtain ⟨bl, off, ko, kc, vo, vc, hao, hbl, _, _, _, _, c0, c1, c2, c3, c4, c5⟩ := HL.out.1.at hp
      have hpl := bareR_at hp
      rw [HL.out.2.2.1] at hpl
      have HD : Hid (L.drop k = l :: L.drop (k + 1)) := drop_at hpl
      have hlti : (k : Int) < (n : Int) := by omega
      have HFD := hideIt (rfind_2 l.frm ao cap n ls w HL.out.1 HL.out.2.1 hn1)
      rw [HL.out.2.2.1] at HFD
      subst hao
      clear hp hpl c0 c1 c3 c4
      cases hfe : l.frm.toList.isEmpty
      · rcases idxN_at L 2 l.frm 0 with ⟨ha, hx⟩ | ⟨j, l', ha, hj, hx⟩
        · have HX : Hid (chER L = (6, l.place)) := by
            have e : noC L L = some l.place := by rw [← HS.out, HD.out, noC, baC, hfe, ha]; rfl
            show _ = _
            rw [chER, e]
          rw [hx] at HFD
          clear ha hx
          go_wp2_with fail
          refine HFD.out.mono ?_; rintro e w2 ⟨rfl, hw⟩
          rw [hw]
          clear hw
          go_wp2_with fail
          go_quiet (fail)
          go_wp2_with fail
          go_ret2
          exact ⟨ret_ii (by rw [HX.out]; rfl) (by rw [HX.out]), below_drewN (Below.refl _ _) _⟩
        · have HX : Hid (noC L (L.drop (k + 1)) = noC L L) := by
            show _ = _
            rw [← HS.out, HD.out, noC, baC, hfe, ha]; rfl
          rw [hx] at HFD
          obtain ⟨jj, hjj⟩ : ∃ jj, 0 + j = jj := ⟨_, rfl⟩
          rw [hjj] at HFD
          have hjn : ¬ (jj : Int) < 0 := by omega
          clear ha hx hj hjj
          go_wp2_with fail
          refine HFD.out.mono ?_; rintro e w2 ⟨rfl, hw⟩
          rw [hw]
          clear hw
          go_wp2_with fail
          go_round
          case rel => exact ⟨k + 1, by omega, by go_num, HX.out⟩
          case measure => simp [intOf]; omega
      · have HX : Hid (noC L (L.drop (k + 1)) = noC L L) := by
          show _ = _
          rw [← HS.out, HD.out, noC, baC, hfe]; rfl
        go_wp2_with fail
        go_round
        case rel => exact ⟨k + 1, by omega, by go_num, HX.out⟩
        case measure => simp [intOf]; omega
    · have HN : Hid (noC L L = none ∧ AllB L) := by
        have e : noC L L = none := by rw [← HS.out, List.drop_of_length_le (by rw [HL.out.2.2.2]; omega)]; rfl
        exact ⟨e, noC_all L L e⟩
      have HE : Hid (chER L = match lonI L (n + 1) n 0 L with
          | some k => (7, k)
          | none => match lonI L n 3 0 L with
            | some k => (8, k)
            | none => (0, 0)) := by
        show _ = _
        rw [chER, HN.out.1, HL.out.2.2.2]
      clear HS
      go_wp2_with fail
      go_loopw [6] (fun i wr => ∃ (k : Nat), k ≤ n ∧ i = .int .i64 k ∧ Hid (lonI L (n + 1) n k (L.drop k) = lonI L (n + 1) n 0 L) ∧ Below w.heap.size w wr) (fun i _ => n - (intOf i).toNat)
      case atStart => exact ⟨0, Nat.zero_le _, rfl, rfl, Below.refl _ _⟩
      case round =>
        obtain ⟨k, hk, rfl, HS, hbel⟩ := hrel
        by_cases hlt : k < n
        · obtain ⟨⟨l, kv, vv⟩, hp⟩ : ∃ p, ls[k]? = some p := ⟨_, List.getElem?_eq_getElem (by rw [HL.out.2.1]; exact hlt)⟩
          obtain ⟨bl, off, ko, kc, vo, vc, hao, hbl, _, _, _, _, c0, c1, c2, c3, c4, c5⟩ := (HL.out.1.nx hbel).at hp
          have hpl := bareR_at hp
          rw [HL.out.2.2.1] at hpl
          have HD : Hid (L.drop k = l :: L.drop (k + 1)) := drop_at hpl
          have hlti : (k : Int) < (n : Int) := by omega
          have HCH := hideIt (chain_any k (n + 1) ao cap n ls wr (HL.out.1.nx hbel) HL.out.2.1 hn1 hlt (by omega) (by rw [HL.out.2.2.1]; exact HN.out.2))
          rw [HL.out.2.2.1] at HCH
          have hci : ((n + 1 : Nat) : Int) = (n : Int) + 1 := by omega
          rw [hci] at HCH
          obtain ⟨q, hq⟩ : ∃ q, (chI L (n + 1) k).length = q := ⟨_, rfl⟩
          have hql : q ≤ n + 1 := by rw [← hq]; exact chI_len _ _ _
          rw [hq] at HCH
          have HQ := hideIt hq
          subst hao
          clear hp hpl c0 c1 c2 c3 c4 hci hq
          go_wp2_with fail
          refine HCH.out.mono ?_
          rintro e w2 ⟨co, cc, rfl, _, hb2⟩
          have d5 : w2.cell? ⟨bl, off + k * 6 + 5, none⟩ = some (.int .i64 (l.place : Int)) := (hb2.cell (p := ⟨bl, off + k * 6 + 5, none⟩) hbl).trans c5
          have HB : Hid (Below w.heap.size w w2) := nx_trans hbel hb2
          by_cases hmq : n < q
          · have HX : Hid (chER L = (7, l.place)) := by
              have e : lonI L (n + 1) n 0 L = some l.place := by rw [← HS.out, HD.out, lonI, HQ.out, if_pos hmq]
              show _ = _
              rw [HE.out, e]
            clear hb2 hbel c5
            go_wp2_with fail
            go_quiet (fail)
            go_wp2_with fail
            go_ret2
            exact ⟨ret_ii (by rw [HX.out]; rfl) (by rw [HX.out]), below_drewN HB.out _⟩
          · have HX : Hid (lonI L (n + 1) n (k + 1) (L.drop (k + 1)) = lonI L (n + 1) n 0 L) := by
              show _ = _
              rw [← HS.out, HD.out, lonI, HQ.out, if_neg hmq]
            have hmqi : ¬ (n : Int) < (q : Int) := by omega
            clear hb2 hbel c5
            go_wp2_with fail
            go_roundw
            case rel => exact ⟨k + 1, by omega, by go_num, HX.out, HB.out⟩
            case measure => simp [intOf]; omega
        · have HE2 : Hid (chER L = match lonI L n 3 0 L with
              | some k => (8, k)
              | none => (0, 0)) := by
            have e : lonI L (n + 1) n 0 L = none := by rw [← HS.out, List.drop_of_length_le (by rw [HL.out.2.2.2]; omega)]; rfl
            show _ = _
            rw [HE.out, e]
          have HB0 := hideIt hbel
          clear HS hbel HE
          go_wp2_with fail
          go_loopw [8] (fun i wr => ∃ (k : Nat), k ≤ n ∧ i = .int .i64 k ∧ Hid (lonI L n 3 k (L.drop k) = lonI L n 3 0 L) ∧ Below w.heap.size w wr) (fun i _ => n - (intOf i).toNat)
          case atStart => exact ⟨0, Nat.zero_le _, rfl, rfl, HB0.out⟩
          case round =>
            obtain ⟨k, hk, rfl, HS, hbel⟩ := hrel
            by_cases hlt : k < n
            · obtain ⟨⟨l, kv, vv⟩, hp⟩ : ∃ p, ls[k]? = some p := ⟨_, List.getElem?_eq_getElem (by rw [HL.out.2.1]; exact hlt)⟩
              obtain ⟨bl, off, ko, kc, vo, vc, hao, hbl, _, _, _, _, c0, c1, c2, c3, c4, c5⟩ := (HL.out.1.nx hbel).at hp
              have hpl := bareR_at hp
              rw [HL.out.2.2.1] at hpl
              have HD : Hid (L.drop k = l :: L.drop (k + 1)) := drop_at hpl
              have hlti : (k : Int) < (n : Int) := by omega
              have HCH := hideIt (chain_any k n ao cap n ls wr (HL.out.1.nx hbel) HL.out.2.1 hn1 hlt (by omega) (by rw [HL.out.2.2.1]; exact HN.out.2))
              rw [HL.out.2.2.1] at HCH
              obtain ⟨q, hq⟩ : ∃ q, (chI L n k).length = q := ⟨_, rfl⟩
              have hql : q ≤ n := by rw [← hq]; exact chI_len _ _ _
              rw [hq] at HCH
              have HQ := hideIt hq
              subst hao
              clear hp hpl c0 c1 c2 c3 c4 hq
              go_wp2_with fail
              refine HCH.out.mono ?_
              rintro e w2 ⟨co, cc, rfl, _, hb2⟩
              have d5 : w2.cell? ⟨bl, off + k * 6 + 5, none⟩ = some (.int .i64 (l.place : Int)) := (hb2.cell (p := ⟨bl, off + k * 6 + 5, none⟩) hbl).trans c5
              have HB : Hid (Below w.heap.size w w2) := nx_trans hbel hb2
              by_cases hmq : 3 < q
              · have HX : Hid (chER L = (8, l.place)) := by
                  have e : lonI L n 3 0 L = some l.place := by rw [← HS.out, HD.out, lonI, HQ.out, if_pos hmq]
                  show _ = _
                  rw [HE2.out, e]
                have hmqi : (3 : Int) < (q : Int) := by omega
                clear hb2 hbel c5
                go_wp2_with fail
                go_quiet (fail)
                go_wp2_with fail
                go_ret2
                exact ⟨ret_ii (by rw [HX.out]; rfl) (by rw [HX.out]), below_drewN HB.out _⟩
              · have HX : Hid (lonI L n 3 (k + 1) (L.drop (k + 1)) = lonI L n 3 0 L) := by
                  show _ = _
                  rw [← HS.out, HD.out, lonI, HQ.out, if_neg hmq]
                have hmqi : ¬ (3 : Int) < (q : Int) := by omega
                clear hb2 hbel c5
                go_wp2_with fail
                go_roundw
                case rel => exact ⟨k + 1, by omega, by go_num, HX.out, HB.out⟩
                case measure => simp [intOf]; omega
            · have HX : Hid (chER L = (0, 0)) := by
                have e : lonI L n 3 0 L = none := by rw [← HS.out, List.drop_of_length_le (by rw [HL.out.2.2.2]; omega)]; rfl
                show _ = _
                rw [HE2.out, e]
              have HB := hideIt hbel
              clear hbel
              go_wp2_with fail
              go_ret2
              exact ⟨ret_ii (by rw [HX.out]; rfl) (by rw [HX.out]; rfl), HB.out⟩
end Co
end Go.Proofs.Ytlndoeoniicijaa
