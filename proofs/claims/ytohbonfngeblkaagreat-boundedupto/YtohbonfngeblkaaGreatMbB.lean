import Derived.Test.YtohbonfngeblkaaGreatMbA
import Derived.Deep.RegionWith
namespace Go.Proofs.YtohbonfngeblkaaGreat
open Go.RowKit
namespace Co
theorem cells_new (w : World) (cs : List Value) (t : TypeId) : ∀ (j : Nat) (u : Value), cs[j]? = some u → (w.alloc (.cells cs.toArray t)).cell? ((⟨w.heap.size, 0, none⟩ : Addr).add j) = some u := by
  intro j u hj
  have e : (⟨w.heap.size, 0, none⟩ : Addr).add j = ⟨w.heap.size, j, none⟩ := by unfold Addr.add; split <;> simp_all
  rw [e, World.cell?_alloc_new]
  simpa using hj
def Fr (B : Nat) (w : World) (so : Option Addr) : Prop := ∀ b off, so = some ⟨b, off, none⟩ → B ≤ b ∧ ∃ cur, w.heap[b]? = some (.cells cur 173 (0, 0))
theorem own_fr {w : World} {B : Nat} {size : Nat} {so : Option Addr} {m sc n : Nat} {xs : List Value} (h : w.ownsRow B 173 size (.slice so m sc) n xs) : Fr B w so := by
  intro b off e
  subst e
  rcases h.2 with ⟨h', _⟩ | ⟨g', cap', cur, h', hb, hg, _⟩
  · simp at h'
  · simp only [Value.slice.injEq, Option.some.injEq, Addr.mk.injEq] at h'
    obtain ⟨⟨rfl, _⟩, _⟩ := h'
    exact ⟨hb, cur, hg⟩
theorem Fr.mono {B B' : Nat} {w : World} {so : Option Addr} (h : Fr B w so) (hB : B' ≤ B) : Fr B' w so := fun b o e => ⟨Nat.le_trans hB (h b o e).1, (h b o e).2⟩
theorem Fr.nx {B : Nat} {w w' : World} {so : Option Addr} (h : Fr B w so) (hb : Below w.heap.size w w') : Fr B w' so := by
  intro b o e
  obtain ⟨h1, cur, h2⟩ := h b o e
  exact ⟨h1, cur, (hb.block b (Array.getElem?_eq_some_iff.1 h2).1).trans h2⟩
theorem Fr.set {B : Nat} {w : World} {so : Option Addr} (h : Fr B w so) {g : Nat} (hg : g < B) (a : Nat) (x : Value) : Fr B (w.setCell ⟨g, a, none⟩ x) so := by
  intro b o e
  obtain ⟨h1, cur, h2⟩ := h b o e
  exact ⟨h1, cur, (Below.heap_setCell w ⟨g, a, none⟩ x b (by show b ≠ g; omega)).trans h2⟩
theorem Fr.drew {B : Nat} {w : World} {so : Option Addr} (h : Fr B w so) : Fr B w.drew so := h
theorem set_blk (w : World) (g b a c : Nat) (v : Value) (h : g ≠ b) : (w.setCell ⟨g, a, none⟩ v).cell? ⟨b, c, none⟩ = w.cell? ⟨b, c, none⟩ :=
  World.cell?_setCell_other _ _ _ _ (by intro e; injection e with e1 e2 e3; exact h e1)
theorem RowAt.set {w : World} {so : Option Addr} {m sc n : Nat} {cs : List Value} (h : RowAt w (.slice so m sc) n cs) {g : Nat} (hg : ∀ b off, so = some ⟨b, off, none⟩ → g ≠ b) (a : Nat) (x : Value) : RowAt (w.setCell ⟨g, a, none⟩ x) (.slice so m sc) n cs := by
  obtain ⟨ao, cap, e, hc, h⟩ := h
  refine ⟨ao, cap, e, hc, ?_⟩
  rcases h with h | ⟨b, off, h1, h2, h3⟩
  · exact .inl h
  · refine .inr ⟨b, off, h1, by simpa using h2, fun j y hy => ?_⟩
    simp only [Value.slice.injEq] at e
    rw [set_blk _ _ _ _ _ _ (hg b off (e.1.trans h1))]; exact h3 j y hy
theorem RowAt.drew {w : World} {v : Value} {n : Nat} {cs : List Value} (h : RowAt w v n cs) : RowAt w.drew v n cs := h
theorem row_drop {w : World} {bl off n cap : Nat} {fs : List ByteArray} (k : Nat) (h : RowAt w (.slice (some ⟨bl, off, none⟩) n cap) n (strs fs)) (hl : fs.length = n) (hk : k ≤ n) :
    RowAt w (.slice (if cap = k then some ⟨bl, off, none⟩ else some ⟨bl, off + k, none⟩) (n - k) (cap - k)) (n - k) (strs (fs.drop k)) := by
  obtain ⟨ao, cap', e, hc, h⟩ := h
  simp only [Value.slice.injEq] at e
  obtain ⟨rfl, _, rfl⟩ := e
  by_cases hck : cap = k
  · rw [if_pos hck]
    have : fs.drop k = [] := List.drop_of_length_le (by omega)
    rw [this]
    exact ⟨_, _, rfl, by omega, .inl rfl⟩
  · rw [if_neg hck]
    refine ⟨_, _, rfl, by omega, ?_⟩
    rcases h with h | ⟨b, o, h1, h2, h3⟩
    · have : fs = [] := by simpa [strs] using h
      subst this
      exact .inl (by simp [strs])
    · simp only [Option.some.injEq, Addr.mk.injEq, and_true] at h1
      obtain ⟨rfl, rfl⟩ := h1
      refine .inr ⟨bl, off + k, rfl, h2, fun j x hx => ?_⟩
      have := h3 (k + j) x (by simpa [strs] using hx)
      rw [Nat.add_assoc]; exact this
theorem row_len {w : World} {so : Option Addr} {m sc n : Nat} {cs : List Value} (h : RowAt w (.slice so m sc) n cs) : n ≤ sc := by
  obtain ⟨_, _, e, hc, _⟩ := h
  simp only [Value.slice.injEq] at e
  omega
structure Ln where
  kind : Nat
  name : ByteArray
  frm : ByteArray
  sets : List (Nat × Nat)
  place : Nat
def wordB (k : Nat) : ByteArray := ⟨(kwL k).toArray⟩
theorem keyF_word {s : ByteArray} {k : Nat} (h : keyF s = some k) : s = wordB k ∧ k ≤ 2 := by
  have hx : ∀ l : List UInt8, (s.toList == l) = true → s = ⟨l.toArray⟩ := by
    intro l hl
    apply ba_ext
    rw [← ByteArray.toList_eq]
    simpa using hl
  unfold keyF at h
  split at h
  · rename_i h0; cases h; exact ⟨hx _ h0, by omega⟩
  · split at h
    · rename_i h0; cases h; exact ⟨hx _ h0, by omega⟩
    · split at h
      · rename_i h0; cases h; exact ⟨hx _ h0, by omega⟩
      · cases h
def flatS : List (Nat × Nat) → List Value
  | [] => []
  | p :: r => .string (wordB p.1) :: .int .i64 (p.2 : Int) :: flatS r
theorem flatS_append : ∀ a b : List (Nat × Nat), flatS (a ++ b) = flatS a ++ flatS b
  | [], b => rfl
  | p :: a, b => by simp [flatS, flatS_append a b]
theorem flatS_len : ∀ a : List (Nat × Nat), (flatS a).length = a.length * 2
  | [] => rfl
  | p :: a => by simp [flatS, flatS_len a]; omega
def setsF : List ByteArray → Option (List (Nat × Nat))
  | [] => some []
  | [_] => none
  | k :: n :: r => match keyF k, numF n, setsF r with
    | some a, some b, some l => some ((a, b) :: l)
    | _, _, _ => none
theorem setsF_odd : ∀ (l : List ByteArray), l.length % 2 = 1 → setsF l = none
  | [], h => by simp at h
  | [_], _ => rfl
  | k :: n :: r, h => by
    have := setsF_odd r (by simp at h; omega)
    rw [setsF, this]
    cases keyF k <;> cases numF n <;> rfl
theorem setsF_len : ∀ (l : List ByteArray) (ss : List (Nat × Nat)), setsF l = some ss → ss.length * 2 = l.length
  | [], ss, h => by cases h; rfl
  | [_], ss, h => by cases h
  | k :: n :: r, ss, h => by
    rw [setsF] at h
    split at h
    · rename_i a b l h1 h2 h3
      cases h
      have := setsF_len r l h3
      simp; omega
    · cases h
theorem setsF_go {k n : ByteArray} {r : List ByteArray} {a b : Nat} (h1 : keyF k = some a) (h2 : numF n = some b) : setsF (k :: n :: r) = (setsF r).map ((a, b) :: ·) := by
  rw [setsF, h1, h2]
  cases setsF r <;> rfl
theorem setsF_nk {k n : ByteArray} {r : List ByteArray} (h1 : keyF k = none) : setsF (k :: n :: r) = none := by
  rw [setsF, h1]
theorem setsF_nn {k n : ByteArray} {r : List ByteArray} (h1 : numF n = none) : setsF (k :: n :: r) = none := by
  rw [setsF, h1]
  cases keyF k <;> rfl
theorem ret_sb {a : Option Addr} {n m c : Nat} {b : Bool} (h : n = m) : Ending.returned (.tuple #[.slice a n c, .bool b]) = .returned (.tuple #[.slice a m c, .bool b]) := by rw [h]
theorem info_set : (Tryz.prog.info? 173).map (fun i => (i.zero, i.size, i.bytes)) = some (some (.agg #[.string ⟨#[]⟩, .int .i64 0]), 2, 24) := by kernel_rfl
set_option maxRecDepth 20000 in
set_option maxHeartbeats 1000000 in
theorem parseSettings_any (ao : Option Addr) (cap n : Nat) (fs : List ByteArray) (w : World) (hr : RowAt w (.slice ao n cap) n (strs fs)) (hn : fs.length = n) (hn1 : n ≤ 1001) (hsm : ∀ p ∈ fs, p.size ≤ 1000) :
    Calls Tryz.prog 139 #[.slice ao n cap] w fun e w' =>
      (setsF fs = none ∧ e = .returned (.tuple #[.slice none 0 0, .bool false]) ∧ Below w.heap.size w w') ∨
      (∃ ss so sc, setsF fs = some ss ∧ e = .returned (.tuple #[.slice so ss.length sc, .bool true]) ∧ RowAt w' (.slice so ss.length sc) ss.length (flatS ss) ∧ Fr w.heap.size w' so ∧ Below w.heap.size w w') := by
  obtain ⟨t0, hi, hz0, hz1, hz2⟩ := info_parts info_set
  have HR : Hid (RowAt w (.slice ao n cap) n (strs fs) ∧ fs.length = n ∧ ∀ p ∈ fs, p.size ≤ 1000) := ⟨hr, hn, hsm⟩
  clear hr hn hsm
  by_cases hodd : n % 2 = 1
  · have hob : ((n : Int) % 2 != 0) = true := by rw [bne_iff_ne]; omega
    have HO : Hid (setsF fs = none) := setsF_odd fs (by rw [HR.out.2.1]; exact hodd)
    go_enter Tryz.func139, Tryz.ntmps139
    go_wp2_with fail
    go_ret2
    exact .inl ⟨HO.out, rfl, Below.refl _ _⟩
  have hob : ((n : Int) % 2 != 0) = false := by
    have : (n : Int) % 2 = 0 := by omega
    rw [this]; rfl
  have HOD : Hid (n % 2 = 0) := by show _ = _; omega
  clear hodd
  go_enter Tryz.func139, Tryz.ntmps139
  go_wp2_with fail
  clear hob
  generalize hr10 : ((n : Int) % 2) = r10
  clear hr10
  go_loopw [4, 5] (fun v i wr => ∃ (i0 m : Nat) (acc : List (Nat × Nat)), i0 ≤ n ∧ i = .int .i64 i0 ∧ m ≤ i0 ∧ Hid (i0 % 2 = 0) ∧ Hid (setsF fs = (setsF (fs.drop i0)).map (acc ++ ·) ∧ acc.length = m) ∧ wr.ownsRow w.heap.size 173 2 v m (flatS acc) ∧ Below w.heap.size w wr) (fun _ i _ => n - (intOf i).toNat)
  case atStart => exact ⟨0, 0, [], Nat.zero_le _, rfl, Nat.le_refl _, rfl, ⟨by simp, rfl⟩, World.ownsRow_made w #[] 0 (Nat.le_refl _) (Nat.zero_le _) rfl, nx_alloc _ _⟩
  case round =>
    obtain ⟨i0, m, acc, hk, rfl, hm, HEV, HS, hown, hbel⟩ := hrel
    have hBw : w.heap.size ≤ wr.heap.size := hbel.size
    by_cases hlt : i0 + 1 < n
    · obtain ⟨p, hp⟩ : ∃ p, fs[i0]? = some p := ⟨_, List.getElem?_eq_getElem (by rw [HR.out.2.1]; omega)⟩
      obtain ⟨q, hq⟩ : ∃ q, fs[i0 + 1]? = some q := ⟨_, List.getElem?_eq_getElem (by rw [HR.out.2.1]; omega)⟩
      obtain ⟨bl, off, rfl, hbl, hc⟩ := (HR.out.1.nx hbel).at (strs_at hp)
      obtain ⟨bl', off', e1, _, hc'⟩ := (HR.out.1.nx hbel).at (strs_at hq)
      obtain ⟨rfl, rfl⟩ : bl = bl' ∧ off = off' := by simpa using e1
      clear e1
      have HD : Hid (fs.drop i0 = p :: q :: fs.drop (i0 + 2)) := by
        show _ = _
        rw [drop_at hp, drop_at hq]
      have hqs : q.size ≤ 1000 := HR.out.2.2 q (List.mem_of_getElem? hq)
      clear hp hq
      cases hnq : numF q with
      | none =>
        have HN : Hid (setsF fs = none) := by show _ = _; rw [HS.out.1, HD.out, setsF_nn hnq]; rfl
        have hb0 : numB q = false := by simp [numB, hnq]
        clear hnq
        go_wp2_with fail
        refine (parseNumber_any q _ hqs).mono ?_; rintro e w' ⟨rfl, rfl⟩
        rw [hb0]
        go_wp2_with fail
        go_ret2
        exact .inl ⟨HN.out, rfl, hbel⟩
      | some b =>
        have hb0 : numB q = true := by simp [numB, hnq]
        have hb1 : numN q = (b : Int) := by simp [numN, hnq]
        cases hkp : keyF p with
        | none =>
          have HN : Hid (setsF fs = none) := by show _ = _; rw [HS.out.1, HD.out, setsF_nk hkp]; rfl
          have hb2 : keyB p = false := by simp [keyB, hkp]
          clear hnq hkp
          go_wp2_with fail
          refine (parseNumber_any q _ hqs).mono ?_; rintro e w' ⟨rfl, rfl⟩
          rw [hb0, hb1]
          go_wp2_with fail
          refine (isKey_any p _).mono ?_; rintro e w' ⟨rfl, rfl⟩
          rw [hb2]
          go_wp2_with fail
          go_ret2
          exact .inl ⟨HN.out, rfl, hbel⟩
        | some a =>
          have HN : Hid (setsF fs = (setsF (fs.drop (i0 + 2))).map ((acc ++ [(a, b)]) ++ ·)) := by
            show _ = _
            rw [HS.out.1, HD.out, setsF_go hkp hnq]
            cases setsF (fs.drop (i0 + 2)) <;> simp
          have hb2 : keyB p = true := by simp [keyB, hkp]
          obtain ⟨rfl, _⟩ := keyF_word hkp
          clear hnq hkp
          go_wp2_with fail
          refine (parseNumber_any q _ hqs).mono ?_; rintro e w' ⟨rfl, rfl⟩
          rw [hb0, hb1]
          go_wp2_with fail
          refine (isKey_any (wordB a) _).mono ?_; rintro e w' ⟨rfl, rfl⟩
          rw [hb2]
          go_wp2_with (at_builtin; refine wpList_append_own _ rfl (.tmp 39) (.tmp 46) 134 rfl w.heap.size 173 t0 _ 2 24 Tryz.underlying134 hi hz0 hz1 hz2 rfl (by decide) _ _ _ rfl (hown.alloc _) ⟨w'.heap.size, 0, none⟩ 1 1 [.string (wordB a), .int .i64 (b : Int)] rfl rfl (cells_new _ [.string (wordB a), .int .i64 (b : Int)] _) ?c2 ?c3 ?c4 ?c5 ?next)
          case c2 => intro u hu; simp at hu; rcases hu with rfl | rfl <;> rfl
          case c3 => unfold maxLen; omega
          case c4 => omega
          case c5 => simp; omega
          case next =>
            intro v' w2 hown' hgrow _
            have R : w2.ownsRow w.heap.size 173 2 v' (m + 1) (flatS (acc ++ [(a, b)])) ∧ Below w.heap.size w w2 := by
              refine ⟨by rw [flatS_append]; exact hown', (hbel.alloc hBw _).grown hgrow (by simp; omega) (fun g hg => (hown.lt g hg).1)⟩
            clear hown' hgrow hown hbel
            go_wp2_with fail
            go_roundw
            case rel => exact ⟨i0 + 2, m + 1, acc ++ [(a, b)], by omega, by go_num, by omega, (by show _ = _; have := HEV.out; omega), ⟨HN.out, by simp [HS.out.2]⟩, R.1, R.2⟩
            case measure => simp [intOf]; omega
    · have HF : Hid (setsF fs = some acc ∧ acc.length = m) := by
        have e : fs.drop i0 = [] := List.drop_of_length_le (by rw [HR.out.2.1]; have h1 := HEV.out; have h2 := HOD.out; omega)
        refine ⟨?_, HS.out.2⟩
        rw [HS.out.1, e]; simp [setsF]
      have hr := own_row hown
      obtain ⟨so, sc, rfl, _⟩ := own_row hown
      have hfr := own_fr hown
      have HX : Hid (RowAt wr (.slice so m sc) m (flatS acc) ∧ Below w.heap.size w wr ∧ Fr w.heap.size wr so) := ⟨hr, hbel, hfr⟩
      clear hr hown hbel hfr
      go_wp2_with fail
      go_ret2
      refine .inr ⟨acc, so, sc, HF.out.1, ?_, ?_, HX.out.2.2, HX.out.2.1⟩
      · exact ret_sb HF.out.2.symm
      · rw [HF.out.2]; exact HX.out.1
end Co
end Go.Proofs.YtohbonfngeblkaaGreat
