
import Derived.Test.YtlndoeoniicijaaCoZ
namespace Go.Proofs.Ytlndoeoniicijaa
open Go.RowKit
namespace Co

theorem idxN_at : ∀ (L : List Ln) (kind : Nat) (name : ByteArray) (k : Nat), (findC L kind name = none ∧ idxN L kind name k = -1) ∨ (∃ j l, findC L kind name = some l ∧ L[j]? = some l ∧ idxN L kind name k = ((k + j : Nat) : Int))
  | [], kind, name, k => .inl ⟨rfl, rfl⟩
  | l :: r, kind, name, k => by
    unfold findC
    rw [idxN, List.find?_cons]
    by_cases h : hitC kind name l = true
    · have h' : ((l.kind == kind) && (l.name.toList == name.toList)) = true := h
      rw [if_pos h, h']
      exact .inr ⟨0, l, rfl, rfl, rfl⟩
    · have h1 : hitC kind name l = false := by simpa using h
      have h' : ((l.kind == kind) && (l.name.toList == name.toList)) = false := h1
      rw [if_neg h, h']
      rcases idxN_at r kind name (k + 1) with ⟨a, b⟩ | ⟨j, l', a, b, c⟩
      · exact .inl ⟨a, b⟩
      · exact .inr ⟨j + 1, l', a, by simpa using b, by rw [c]; congr 1; omega⟩
/-- a chain by its lines' indices -/
def chI (L : List Ln) : Nat → Nat → List Nat
  | 0, _ => []
  | f + 1, i => match L[i]? with
    | none => []
    | some l => if l.frm.toList.isEmpty = true then [] else (idxN L 2 l.frm 0).toNat :: chI L f (idxN L 2 l.frm 0).toNat
def AllB (L : List Ln) : Prop := ∀ l ∈ L, baC L l.frm = true
theorem noC_all (all : List Ln) : ∀ L : List Ln, noC all L = none → ∀ l ∈ L, baC all l.frm = true
  | [], _, l, h => by simp at h
  | p :: r, hn, l, h => by
    rw [noC] at hn
    split at hn
    · rename_i hb
      rcases List.mem_cons.1 h with h | h
      · subst h; exact hb
      · exact noC_all all r hn l h
    · cases hn
theorem next_at {L : List Ln} (hb : AllB L) {i : Nat} {l : Ln} (hl : L[i]? = some l) (he : l.frm.toList.isEmpty = false) : ∃ (j : Nat) (l' : Ln), findC L 2 l.frm = some l' ∧ L[j]? = some l' ∧ idxN L 2 l.frm 0 = (j : Int) ∧ j < L.length := by
  have h := hb l (List.mem_of_getElem? hl)
  rw [baC, he, Bool.false_or] at h
  rcases idxN_at L 2 l.frm 0 with ⟨a, _⟩ | ⟨j, l', a, b, c⟩
  · rw [a] at h; cases h
  · exact ⟨j, l', a, b, by rw [c]; congr 1; omega, (List.getElem?_eq_some_iff.1 b).1⟩
theorem chI_stop {L : List Ln} {f i : Nat} {l : Ln} (hl : L[i]? = some l) (he : l.frm.toList.isEmpty = true) : chI L f i = [] := by
  cases f with
  | zero => rfl
  | succ f => rw [chI, hl]; simp only; rw [if_pos he]
theorem chI_go {L : List Ln} {f i j : Nat} {l : Ln} (hl : L[i]? = some l) (he : l.frm.toList.isEmpty = false) (hj : idxN L 2 l.frm 0 = (j : Int)) : chI L (f + 1) i = j :: chI L f j := by
  rw [chI, hl]
  simp only
  rw [if_neg (by simp [he]), hj]
  rfl
theorem chI_lt {L : List Ln} (hb : AllB L) : ∀ (f i : Nat), ∀ j ∈ chI L f i, j < L.length
  | 0, _, j, h => by simp [chI] at h
  | f + 1, i, j, h => by
    cases hl : L[i]? with
    | none => rw [chI, hl] at h; simp at h
    | some l =>
      cases he : l.frm.toList.isEmpty
      · obtain ⟨j', l', _, hj', hx, hlt⟩ := next_at hb hl he
        rw [chI_go hl he hx] at h
        rcases List.mem_cons.1 h with h | h
        · omega
        · exact chI_lt hb f j' j h
      · rw [chI_stop hl he] at h; simp at h
theorem chI_len (L : List Ln) : ∀ (f i : Nat), (chI L f i).length ≤ f
  | 0, _ => by simp [chI]
  | f + 1, i => by
    rw [chI]
    split
    · simp
    · split
      · simp
      · have := chI_len L f (idxN L 2 (by assumption : Ln).frm 0).toNat
        simp; omega
theorem ints_append (a b : List Nat) : ints (a ++ b) = ints a ++ ints b := by simp [ints]
theorem ints_len (a : List Nat) : (ints a).length = a.length := by simp [ints]

set_option maxRecDepth 20000 in
set_option maxHeartbeats 4000000 in
theorem chain_any (i0 nn : Nat) (ao : Option Addr) (cap m : Nat) (ls : List RL) (w : World) (hl : RLinesAt w (.slice ao m cap) ls) (hm : ls.length = m) (hm1 : m ≤ 1001) (hi0 : i0 < m) (hnn : nn ≤ 1002) (hb : AllB (bareR ls)) :
    Calls Try.prog 46 #[.slice ao m cap, .int .i64 (i0 : Int), .int .i64 (nn : Int)] w fun e w' => ∃ co cc, e = .returned (.slice co (chI (bareR ls) nn i0).length cc) ∧ w'.ownsRow w.heap.size 3 1 (.slice co (chI (bareR ls) nn i0).length cc) (chI (bareR ls) nn i0).length (ints (chI (bareR ls) nn i0)) ∧ Below w.heap.size w w' := by
  obtain ⟨t0, hi, hz0, hz1, hz2⟩ := info_parts info_int
  have HL : Hid (RLinesAt w (.slice ao m cap) ls ∧ ls.length = m ∧ AllB (bareR ls)) := ⟨hl, hm, hb⟩
  obtain ⟨R, hR⟩ : ∃ R, chI (bareR ls) nn i0 = R := ⟨_, rfl⟩
  rw [hR]
  have HR := hideIt hR
  clear hl hm hb hR
  go_enter Try.func46, Try.ntmps46
  go_wp2_with fail
  go_loopw [1, 7] (fun iv v wr => ∃ (i q : Nat) (js : List Nat) (vo : Option Addr) (vc : Nat), iv = .int .i64 i ∧ v = .slice vo q vc ∧ i < m ∧ q ≤ nn ∧ Hid (R = js ++ chI (bareR ls) (nn - q) i ∧ js.length = q) ∧ wr.ownsRow w.heap.size 3 1 (.slice vo q vc) q (ints js) ∧ Below w.heap.size w wr) (fun _ v _ => nn - lenOf v)
  case atStart => exact ⟨i0, 0, [], none, 0, rfl, rfl, hi0, Nat.zero_le _, ⟨by rw [← HR.out]; rfl, rfl⟩, World.ownsRow_nil _ _ _ _, Below.refl _ _⟩
  case round =>
    obtain ⟨i, q, js, vo, vc, rfl, rfl, him, hq, HS, hown, hbel⟩ := hrel
    by_cases hlt : q < nn
    · obtain ⟨⟨l, kv, vv⟩, hp⟩ : ∃ p, ls[i]? = some p := ⟨_, List.getElem?_eq_getElem (by rw [HL.out.2.1]; exact him)⟩
      obtain ⟨bl, off, ko, kc, vo', vc', hao, hbl, _, _, _, _, c0, c1, c2, c3, c4, c5⟩ := (HL.out.1.nx hbel).at hp
      have hpl := bareR_at hp
      have hlti : (q : Int) < (nn : Int) := by omega
      have himi : (i : Int) < (m : Int) := by omega
      subst hao
      cases hfe : l.frm.toList.isEmpty
      · obtain ⟨j, l', hj1, hj2, hj3, hj4⟩ := next_at HL.out.2.2 hpl hfe
        have hjm : j < m := by rw [bareR_len, HL.out.2.1] at hj4; exact hj4
        have HX : Hid (R = (js ++ [j]) ++ chI (bareR ls) (nn - (q + 1)) j) := by
          show _ = _
          obtain ⟨f, hf⟩ : ∃ f, nn - q = f + 1 := ⟨nn - q - 1, by omega⟩
          have hf2 : nn - (q + 1) = f := by omega
          rw [HS.out.1, hf, chI_go hpl hfe hj3, hf2, List.append_assoc]; rfl
        have HFD := hideIt (rfind_2 l.frm (some ⟨bl, off, none⟩) cap m ls wr (HL.out.1.nx hbel) HL.out.2.1 hm1)
        rw [hj3] at HFD
        have hB : w.heap.size ≤ wr.heap.size := hbel.size
        clear hp hpl hj1 hj2 hj3 hj4
        go_wp2_with fail
        refine HFD.out.mono ?_; rintro e w2 ⟨rfl, hw⟩
        rw [hw]
        clear hw
        go_wp2_with (at_builtin; refine wpList_append_own _ rfl (.tmp 27) (.tmp 29) 91 rfl w.heap.size 3 t0 _ 1 8 Try.underlying91 hi hz0 hz1 hz2 rfl (by decide) _ _ _ rfl (hown.alloc _) ⟨wr.heap.size, 0, none⟩ 1 1 [.int .i64 (j : Int)] rfl rfl (cells_new_at wr [.int .i64 (j : Int)] 3 rfl) (by intro u hu; simp at hu; subst hu; rfl) (by unfold maxLen; omega) (by omega) (by simp; omega) ?next)
        case next =>
          intro v' w6 hown' hgrow _
          obtain ⟨vo6, vc6, hv6, _⟩ := own_row hown'
          subst hv6
          have RR : w6.ownsRow w.heap.size 3 1 (.slice vo6 (q + 1) vc6) (q + 1) (ints (js ++ [j])) ∧ Below w.heap.size w w6 :=
            ⟨by rw [ints_append]; exact hown', (hbel.alloc hB _).grown hgrow (by simp; omega) (fun g hg => (hown.lt g hg).1)⟩
          clear hown' hgrow hown hbel
          go_wp2_with fail
          go_roundw
          case rel => exact ⟨j, q + 1, js ++ [j], vo6, vc6, rfl, rfl, hjm, by omega, ⟨HX.out, by simp [HS.out.2]⟩, RR.1, RR.2⟩
          case measure => simp [lenOf]; omega
      · have HX : Hid (R = js) := by show _ = _; rw [HS.out.1, chI_stop hpl hfe]; simp
        clear hp hpl
        go_wp2_with fail
        go_ret
        exact ⟨vo, vc, ret_slc (by rw [HX.out, HS.out.2]), by rw [HX.out, HS.out.2]; exact hown, hbel⟩
    · have HX : Hid (R = js) := by
        show _ = _
        have : nn - q = 0 := by omega
        rw [HS.out.1, this]; simp [chI]
      have hlti : ¬ (q : Int) < (nn : Int) := by omega
      go_wp2_with fail
      go_ret
      exact ⟨vo, vc, ret_slc (by rw [HX.out, HS.out.2]), by rw [HX.out, HS.out.2]; exact hown, hbel⟩
end Co
end Go.Proofs.Ytlndoeoniicijaa
