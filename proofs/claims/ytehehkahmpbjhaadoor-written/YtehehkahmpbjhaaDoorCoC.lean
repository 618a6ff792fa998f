
import Derived.Test.YtehehkahmpbjhaaDoorCoB
namespace Go.Proofs.YtehehkahmpbjhaaDoor
open Go.RowKit
namespace Co

theorem split_nl (s : ByteArray) (w : World) (hs : s.size ≤ 1000) :
    Calls Tryd.prog 26 #[.string s, .int .u8 10] w fun e w' => ∃ ao cap, e = .returned (.slice ao (pieces s 10).length cap) ∧ RowAt w' (.slice ao (pieces s 10).length cap) (pieces s 10).length (strs (pieces s 10)) ∧ Below w.heap.size w w' :=
  (show Calls Tryd.prog 26 #[.string s, .int .u8 10] w _ from split_any s 10 w hs).mono (by
    rintro e w' ⟨v, rfl, h, hb⟩
    have hr := own_row h
    obtain ⟨ao, cap, rfl, h1⟩ := own_row h
    exact ⟨ao, cap, rfl, hr, hb⟩)
theorem split_bl (s : ByteArray) (w : World) (hs : s.size ≤ 1000) :
    Calls Tryd.prog 26 #[.string s, .int .u8 32] w fun e w' => ∃ ao cap, e = .returned (.slice ao (pieces s 32).length cap) ∧ RowAt w' (.slice ao (pieces s 32).length cap) (pieces s 32).length (strs (pieces s 32)) ∧ Below w.heap.size w w' :=
  (show Calls Tryd.prog 26 #[.string s, .int .u8 32] w _ from split_any s 32 w hs).mono (by
    rintro e w' ⟨v, rfl, h, hb⟩
    have hr := own_row h
    obtain ⟨ao, cap, rfl, h1⟩ := own_row h
    exact ⟨ao, cap, rfl, hr, hb⟩)
theorem ret_slc {a : Option Addr} {n m c : Nat} (h : n = m) : Ending.returned (.slice a n c) = .returned (.slice a m c) := by rw [h]
def notE (p : ByteArray) : Bool := !p.toList.isEmpty
def flds (s : ByteArray) : List ByteArray := (pieces s 32).filter notE
theorem flds_len (s : ByteArray) : (flds s).length ≤ s.size + 1 := Nat.le_trans (List.length_filter_le _ _) (pieces_len s 32)
theorem flds_small (s : ByteArray) : ∀ p ∈ flds s, p.size ≤ s.size := fun p h => pieces_small s 32 p (List.mem_filter.1 h).1
theorem filt_yes (l : List ByteArray) (k : Nat) (p : ByteArray) (h : l[k]? = some p) (hp : p.toList.isEmpty = false) : (l.take (k + 1)).filter notE = (l.take k).filter notE ++ [p] := by
  obtain ⟨hk, rfl⟩ := List.getElem?_eq_some_iff.1 h
  rw [List.take_succ_eq_append_getElem hk, List.filter_append]
  simp [notE, hp]
theorem filt_no (l : List ByteArray) (k : Nat) (p : ByteArray) (h : l[k]? = some p) (hp : p.toList.isEmpty = true) : (l.take (k + 1)).filter notE = (l.take k).filter notE := by
  obtain ⟨hk, rfl⟩ := List.getElem?_eq_some_iff.1 h
  rw [List.take_succ_eq_append_getElem hk, List.filter_append]
  simp [notE, hp]
theorem RowAt.at {w : World} {ao : Option Addr} {n m cap : Nat} {cs : List Value} (h : RowAt w (.slice ao n cap) m cs) {j : Nat} {x : Value} (hx : cs[j]? = some x) :
    ∃ b off, ao = some ⟨b, off, none⟩ ∧ b < w.heap.size ∧ w.cell? ⟨b, off + j, none⟩ = some x := by
  obtain ⟨ao', cap', e, _, h⟩ := h
  simp only [Value.slice.injEq] at e
  obtain ⟨rfl, _, _⟩ := e
  rcases h with h | ⟨b, off, h1, h2, h3⟩
  · subst h; simp at hx
  · exact ⟨b, off, h1, h2, h3 j x hx⟩
set_option maxHeartbeats 1000000 in
theorem fieldsOf_any (s : ByteArray) (w : World) (hs : s.size ≤ 1000) :
    Calls Tryd.prog 27 #[.string s] w fun e w' => ∃ ao cap, e = .returned (.slice ao (flds s).length cap) ∧ RowAt w' (.slice ao (flds s).length cap) (flds s).length (strs (flds s)) ∧ Below w.heap.size w w' := by
  obtain ⟨i0, hi, hz0, hz1, hz2⟩ := info_parts info_str
  go_enter Tryd.func27, Tryd.ntmps27
  go_wp2_with fail
  refine (split_bl s _ hs).mono ?_; rintro e w1 ⟨pa, pc, rfl, hp, hb1⟩
  have hlen := pieces_len s 32
  obtain ⟨ps, hps⟩ : ∃ ps, pieces s 32 = ps := ⟨_, rfl⟩
  rw [hps] at hp hlen ⊢
  obtain ⟨n, hn⟩ : ∃ n, ps.length = n := ⟨_, rfl⟩
  rw [hn] at hp hlen ⊢
  have HP : Hid (RowAt w1 (.slice pa n pc) n (strs ps) ∧ ps.length = n ∧ pieces s 32 = ps) := ⟨hp, hn, hps⟩
  have HB1 : Hid (Below w.heap.size w w1) := hb1
  have hz1' : w.heap.size ≤ w1.heap.size := hb1.size
  clear hp hn hps hb1
  go_wp2_with fail
  go_loopw [4, 5] (fun v i wr => ∃ (k m : Nat) (acc : List ByteArray), k ≤ n ∧ i = .int .i64 k ∧ m ≤ k ∧ Hid ((ps.take k).filter notE = acc ∧ acc.length = m) ∧ wr.ownsRow w1.heap.size 9 1 v m (strs acc) ∧ Below w1.heap.size w1 wr) (fun _ i _ => n - (intOf i).toNat)
  case atStart => exact ⟨0, 0, [], Nat.zero_le _, rfl, Nat.le_refl _, ⟨rfl, rfl⟩, World.ownsRow_made w1 #[] 0 (Nat.le_refl _) (Nat.zero_le _) rfl, nx_alloc _ _⟩
  case round =>
    obtain ⟨k, m, acc, hk, rfl, hm, HS, hown, hbel⟩ := hrel
    have hBw : w1.heap.size ≤ wr.heap.size := hbel.size
    by_cases hlt : k < n
    · obtain ⟨p, hpk⟩ : ∃ p, ps[k]? = some p := ⟨_, List.getElem?_eq_getElem (by rw [HP.out.2.1]; exact hlt)⟩
      obtain ⟨bl, off, rfl, hbl, hc⟩ := (HP.out.1.nx hbel).at (strs_at hpk)
      have HK : Hid (ps[k]? = some p) := hpk
      clear hpk
      cases he : p.toList.isEmpty
      · go_wp2_with (at_builtin; refine wpList_append_own _ rfl (.tmp 20) (.tmp 25) 41 rfl w1.heap.size 9 i0 (.string ⟨#[]⟩) 1 16 Tryd.underlying41 hi hz0 hz1 hz2 rfl (by decide) _ _ _ rfl (hown.alloc _) ⟨wr.heap.size, 0, none⟩ 1 1 [.string p] rfl rfl (cell_one_new _ _ _) ?c2 ?c3 ?c4 ?c5 ?next)
        case c2 => intro u hu; simp at hu; subst hu; rfl
        case c3 => unfold maxLen; omega
        case c4 => omega
        case c5 => simp; omega
        case next =>
          intro v' w2 hown' hgrow _
          have R : w2.ownsRow w1.heap.size 9 1 v' (m + 1) (strs (acc ++ [p])) ∧ Below w1.heap.size w1 w2 := by
            refine ⟨by simpa [strs] using hown', (hbel.alloc hBw _).grown hgrow (by simp; omega) (fun g hg => (hown.lt g hg).1)⟩
          clear hown' hgrow hown hbel
          go_wp2_with fail
          go_roundw
          case rel => exact ⟨k + 1, m + 1, acc ++ [p], by omega, by go_num, by omega, ⟨(by rw [filt_yes ps k p HK.out he, HS.out.1]), by simp [HS.out.2]⟩, R.1, R.2⟩
          case measure => simp [intOf]; omega
      · go_wp2_with fail
        go_roundw
        case rel => exact ⟨k + 1, m, acc, by omega, by go_num, by omega, ⟨(by rw [filt_no ps k p HK.out he, HS.out.1]), HS.out.2⟩, hown, hbel⟩
        case measure => simp [intOf]; omega
    · have HF : Hid (flds s = acc ∧ (flds s).length = m) := by
        have e : flds s = acc := by rw [flds, HP.out.2.2, ← HS.out.1, List.take_of_length_le (by rw [HP.out.2.1]; omega)]
        exact ⟨e, by rw [e]; exact HS.out.2⟩
      have hr := own_row hown
      obtain ⟨ao, cap, rfl, _⟩ := own_row hown
      have HR : Hid (RowAt wr (.slice ao m cap) m (strs acc) ∧ Below w.heap.size w wr) := ⟨hr, nx_trans HB1.out hbel⟩
      clear hr hown hbel
      go_wp2_with fail
      go_ret
      exact ⟨ao, cap, ret_slc HF.out.2.symm, (by rw [HF.out.2, HF.out.1]; exact HR.out.1), HR.out.2⟩
end Co
end Go.Proofs.YtehehkahmpbjhaaDoor
