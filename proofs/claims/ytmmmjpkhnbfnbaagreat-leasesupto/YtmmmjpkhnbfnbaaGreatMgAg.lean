import Derived.Test.YtmmmjpkhnbfnbaaGreatMgAf
namespace Go.Proofs.YtmmmjpkhnbfnbaaGreat
open Go.RowKit
namespace Co

/-- lines that have one of the forms -/
def OkL (l : Ln) : Prop :=
  (l.kind = 1 ∧ l.name = ⟨#[]⟩ ∧ l.frm = ⟨#[]⟩ ∧ ∃ n, l.sets = [(3, n)]) ∨ ((l.kind = 2 ∨ l.kind = 3) ∧ isNm l.name = true ∧ ∀ p ∈ l.sets, p.1 ≤ 2)
theorem wordB_inj {a b : Nat} (ha : a ≤ 2) (hb : b ≤ 2) : (wordB a).toList = (wordB b).toList ↔ a = b := by
  have e : ∀ k, (wordB k).toList = kwL k := fun k => by rw [ByteArray.toList_eq]; rfl
  rw [e, e]
  refine ⟨fun h => ?_, fun h => by rw [h]⟩
  match a, b, ha, hb with
  | 0, 0, _, _ => rfl
  | 0, 1, _, _ => simp [kwL] at h
  | 0, 2, _, _ => simp [kwL] at h
  | 1, 0, _, _ => simp [kwL] at h
  | 1, 1, _, _ => rfl
  | 1, 2, _, _ => simp [kwL] at h
  | 2, 0, _, _ => simp [kwL] at h
  | 2, 1, _, _ => simp [kwL] at h
  | 2, 2, _, _ => rfl
theorem allM_fit : ∀ (ss : List (Nat × Nat)), (∀ p ∈ ss, p.1 ≤ 2) → allM ss = allFit ss
  | [], _ => rfl
  | (a, b) :: r, h => by
    have ih := allM_fit r (fun p hp => h p (List.mem_cons_of_mem _ hp))
    have ha : a ≤ 2 := h (a, b) List.mem_cons_self
    rw [allM_cons, allFit_cons, ih]
    congr 1
    match a, ha with
    | 0, _ => simp [mostN, fitsK, inB]; omega
    | 1, _ => simp [mostN, fitsK, inB]; omega
    | 2, _ => simp [mostN, fitsK, inB]; omega
theorem twK_twc (ss : List (Nat × Nat)) (h : ∀ p ∈ ss, p.1 ≤ 2) : twK (ss.map (·.1)) = twc ss := by
  unfold twK twc
  congr 1
  rw [decide_eq_decide, List.pairwise_map]
  constructor
  · intro hp
    refine List.Pairwise.imp_of_mem ?_ hp
    intro a b ha hb hab hw
    exact hab ((wordB_inj (h a ha) (h b hb)).1 hw).symm
  · intro hp
    refine List.Pairwise.imp_of_mem ?_ hp
    intro a b ha hb hab hw
    exact hab ((wordB_inj (h a ha) (h b hb)).2 hw.symm)
theorem idx_find : ∀ (ls : List Ln) (kind : Nat) (name : ByteArray) (k : Nat), (findC ls kind name).isSome = decide (0 ≤ idxN ls kind name k)
  | [], kind, name, k => by simp [findC, idxN]
  | l :: r, kind, name, k => by
    have ih := idx_find r kind name (k + 1)
    unfold findC at ih ⊢
    rw [idxN, List.find?_cons]
    by_cases h : hitC kind name l = true
    · rw [if_pos h]
      have h' : ((l.kind == kind) && (l.name.toList == name.toList)) = true := h
      rw [h']; simp
    · have h1 : hitC kind name l = false := by simpa using h
      rw [if_neg h]
      have h' : ((l.kind == kind) && (l.name.toList == name.toList)) = false := h1
      rw [h']; exact ih
theorem blk6 {W w3 : World} {B : Nat} (hb : Below B W w3) {g : Nat} (hg : g < B) {c0 c1 c2 c3 c4 c5 : Value} {t : TypeId} (h : W.heap[g]? = some (.cells #[c0, c1, c2, c3, c4, c5] t (0, 0))) :
    w3.cell? ⟨g, 0, none⟩ = some c0 ∧ w3.cell? ⟨g, 1, none⟩ = some c1 ∧ w3.cell? ⟨g, 2, none⟩ = some c2 ∧ w3.cell? ⟨g, 3, none⟩ = some c3 ∧ w3.cell? ⟨g, 4, none⟩ = some c4 ∧ w3.cell? ⟨g, 5, none⟩ = some c5 ∧ ∀ a, w3.frozen? ⟨g, a, none⟩ = false := by
  have h' : w3.heap[g]? = some (.cells #[c0, c1, c2, c3, c4, c5] t (0, 0)) := (hb.block g hg).trans h
  refine ⟨?_, ?_, ?_, ?_, ?_, ?_, fun a => ?_⟩ <;> simp [World.cell?, World.frozen?, h']

set_option maxRecDepth 20000 in
set_option maxHeartbeats 1000000 in
theorem wrong_no (wd nm fr : ByteArray) (ko : Option Addr) (nk kc : Nat) (vo : Option Addr) (nv vc : Nat) (pl : Int) (ao : Option Addr) (n cap : Nat) (w : World) :
    Calls Tryz.prog 99 #[.slice ao n cap, rlA wd nm fr ko nk kc vo nv vc pl, .bool false] w fun e w' => e = .returned (.int .i64 2) ∧ Below w.heap.size w w' := by
  go_enter Tryz.func99, Tryz.ntmps99
  go_wp2_with fail
  go_ret
  exact ⟨rfl, nx_alloc _ _⟩

theorem alike_1 (ao : Option Addr) (cap n : Nat) (ls : List RL) (w : World) (hl : RLinesAt w (.slice ao n cap) ls) (hn : ls.length = n) (hn1 : n ≤ 1001) :
    Calls Tryz.prog 137 #[.slice ao n cap, .string sBudget] w fun e w' => e = .returned (.int .i64 (cntC (bareR ls) 1)) ∧ w' = w := alike_any 1 ao cap n ls w hl hn hn1
theorem rfind_1 (name : ByteArray) (ao : Option Addr) (cap n : Nat) (ls : List RL) (w : World) (hl : RLinesAt w (.slice ao n cap) ls) (hn : ls.length = n) (hn1 : n ≤ 1001) :
    Calls Tryz.prog 100 #[.slice ao n cap, .string sBudget, .string name] w fun e w' => e = .returned (.int .i64 (idxN (bareR ls) 1 name 0)) ∧ w' = w := rfind_any 1 name ao cap n ls w hl hn hn1
theorem rfind_2 (name : ByteArray) (ao : Option Addr) (cap n : Nat) (ls : List RL) (w : World) (hl : RLinesAt w (.slice ao n cap) ls) (hn : ls.length = n) (hn1 : n ≤ 1001) :
    Calls Tryz.prog 100 #[.slice ao n cap, .string ⟨#[98, 97, 115, 101]⟩, .string name] w fun e w' => e = .returned (.int .i64 (idxN (bareR ls) 2 name 0)) ∧ w' = w := rfind_any 2 name ao cap n ls w hl hn hn1

set_option maxRecDepth 20000 in
set_option maxHeartbeats 2000000 in
theorem wrong_bud (x : Nat) (name fr : ByteArray) (ko : Option Addr) (kc : Nat) (vo : Option Addr) (vc : Nat) (pl : Int) (place : Nat) (ao : Option Addr) (cap n : Nat) (ls : List RL) (w : World) (hl : RLinesAt w (.slice ao n cap) ls) (hn : ls.length = n) (hn1 : n ≤ 1001)
    (hr : RowAt w (.slice vo 1 vc) 1 (ints [x])) :
    Calls Tryz.prog 99 #[.slice ao n cap, rlA sBudget name fr ko 0 kc vo 1 vc pl, .bool true] w fun e w' => e = .returned (.int .i64 (faultC (bareR ls) ⟨1, name, fr, [(3, x)], place⟩)) ∧ Below w.heap.size w w' := by
  obtain ⟨W1, hW1⟩ : ∃ W1, W1 = w.alloc (bRL sBudget name fr ko 0 kc vo 1 vc pl) := ⟨_, rfl⟩
  have hb1 : Below w.heap.size w W1 := by rw [hW1]; exact nx_alloc _ _
  have HW : Hid (W1 = w.alloc (bRL sBudget name fr ko 0 kc vo 1 vc pl) ∧ Below w.heap.size w W1 ∧ W1.heap.size = w.heap.size + 1 ∧ W1.heap[w.heap.size]? = some (bRL sBudget name fr ko 0 kc vo 1 vc pl)) := by
    refine ⟨hW1, hb1, by rw [hW1]; simp, by rw [hW1]; exact heap_alloc_at' _ _ rfl⟩
  have HL : Hid (RLinesAt W1 (.slice ao n cap) ls ∧ ls.length = n) := ⟨hl.nx hb1, hn⟩
  have HR : Hid (RowAt W1 (.slice vo 1 vc) 1 (ints [x])) := hr.nx hb1
  by_cases h0 : n = 0
  · have HLS : Hid (ls = []) := List.eq_nil_of_length_eq_zero (by omega)
    have HRG := hideIt (ranged_b name fr ko 0 kc vo vc pl x W1 HR.out)
    subst h0
    clear hl hn hr hW1 hb1
    cases hf : inB 1 99 x
    · have HX : Hid (faultC (bareR ls) ⟨1, name, fr, [(3, x)], place⟩ = 3) := by
        show _ = _
        rw [HLS.out]
        simp [faultC, allFit, fitsK, hf]
      go_enter Tryz.func99, Tryz.ntmps99
      go_wp2_with fail
      rw [← HW.out.1]
      refine HRG.out.mono ?_
      rintro e w2 ⟨rfl, hb2⟩
      rw [hf]
      have HB : Hid (Below w.heap.size w w2) := nx_trans HW.out.2.1 hb2
      clear hb2
      go_wp2_with fail
      go_ret
      exact ⟨ret_i (by rw [HX.out]; rfl), HB.out⟩
    · have HX : Hid (faultC (bareR ls) ⟨1, name, fr, [(3, x)], place⟩ = 0) := by
        show _ = _
        rw [HLS.out]
        simp [faultC, allFit, fitsK, hf, manyC, twc, findC]
      go_enter Tryz.func99, Tryz.ntmps99
      go_wp2_with fail
      rw [← HW.out.1]
      refine HRG.out.mono ?_
      rintro e w2 ⟨rfl, hb2⟩
      rw [hf]
      have HB : Hid (Below w.heap.size w w2 ∧ Below W1.heap.size W1 w2) := ⟨nx_trans HW.out.2.1 hb2, hb2⟩
      obtain ⟨e0, e1, e2, e3, e4, e5, ez⟩ := blk6 hb2 (by rw [HW.out.2.2.1]; omega) HW.out.2.2.2
      clear hb2
      go_wp2_with fail
      refine (alike_1 ao cap 0 ls w2 (HL.out.1.nx HB.out.2) HL.out.2 (by omega)).mono ?_
      rintro e w3 ⟨rfl, rfl⟩
      obtain ⟨c, hc⟩ : ∃ c : Int, ((cntC (bareR ls) 1 : Nat) : Int) = c := ⟨_, rfl⟩
      rw [hc]
      clear hc
      go_wp2_with fail
      refine (twice_any sBudget name fr ko 0 kc vo 1 vc pl [] w3 ⟨_, _, rfl, Nat.zero_le _, .inl rfl⟩ rfl (by omega)).mono ?_
      rintro e w4 ⟨rfl, hb4⟩
      have hbb := nx_trans HB.out.2 hb4
      have HB4 : Hid (Below w.heap.size w w4) := nx_trans HB.out.1 hb4
      obtain ⟨e0, e1, e2, e3, e4, e5, ez⟩ := blk6 hbb (by rw [HW.out.2.2.1]; omega) HW.out.2.2.2
      have HL4 : Hid (RLinesAt w4 (.slice ao 0 cap) ls) := HL.out.1.nx hbb
      clear hb4 hbb
      go_wp2_with fail
      refine (rfind_1 name ao cap 0 ls w4 HL4.out HL.out.2 (by omega)).mono ?_
      rintro e w5 ⟨rfl, rfl⟩
      obtain ⟨c, hc⟩ : ∃ c : Int, idxN (bareR ls) 1 name 0 = c := ⟨_, rfl⟩
      rw [hc]
      clear hc
      go_wp2_with fail
      go_ret
      exact ⟨ret_i (by rw [HX.out]; rfl), HB4.out⟩
  · have HX : Hid (faultC (bareR ls) ⟨1, name, fr, [(3, x)], place⟩ = 2) := by
      show _ = _
      simp only [faultC, bareR_len]
      rw [hn]
      simp [h0]
    have hz : ((n : Int) == 0) = false := by simp; omega
    have h0' : ¬ (n : Int) = 0 := by omega
    clear h0 hl hn hr hW1 hb1
    go_enter Tryz.func99, Tryz.ntmps99
    go_wp2_with fail
    go_ret
    exact ⟨ret_i (by rw [HX.out]; rfl), nx_alloc _ _⟩

set_option maxRecDepth 20000 in
set_option maxHeartbeats 4000000 in
theorem wrong_2 (l : Ln) (hkd : l.kind = 2) (hkeys : ∀ p ∈ l.sets, p.1 ≤ 2) (m : Nat) (hm : l.sets.length = m) (hm1 : m ≤ 1001) (ko : Option Addr) (kc : Nat) (vo : Option Addr) (vc : Nat) (pl : Int) (ao : Option Addr) (cap n : Nat) (ls : List RL) (w : World) (hl : RLinesAt w (.slice ao n cap) ls) (hn : ls.length = n) (hn1 : n ≤ 1001)
    (hr : RowAt w (.slice ko m kc) m (ints (l.sets.map (·.1)))) (hr2 : RowAt w (.slice vo m vc) m (ints (l.sets.map (·.2)))) :
    Calls Tryz.prog 99 #[.slice ao n cap, rlA ⟨#[98, 97, 115, 101]⟩ l.name l.frm ko m kc vo m vc pl, .bool true] w fun e w' => e = .returned (.int .i64 (faultC (bareR ls) l)) ∧ Below w.heap.size w w' := by
  obtain ⟨kind, name, frm, ss, place⟩ := l
  simp only at hkd hkeys hm hr hr2 ⊢
  subst hkd
  obtain ⟨W1, hW1⟩ : ∃ W1, W1 = w.alloc (bRL ⟨#[98, 97, 115, 101]⟩ name frm ko m kc vo m vc pl) := ⟨_, rfl⟩
  have hb1 : Below w.heap.size w W1 := by rw [hW1]; exact nx_alloc _ _
  have HW : Hid (W1 = w.alloc (bRL ⟨#[98, 97, 115, 101]⟩ name frm ko m kc vo m vc pl) ∧ Below w.heap.size w W1 ∧ W1.heap.size = w.heap.size + 1 ∧ W1.heap[w.heap.size]? = some (bRL ⟨#[98, 97, 115, 101]⟩ name frm ko m kc vo m vc pl)) := by
    refine ⟨hW1, hb1, by rw [hW1]; simp, by rw [hW1]; exact heap_alloc_at' _ _ rfl⟩
  have HL : Hid (RLinesAt W1 (.slice ao n cap) ls ∧ ls.length = n) := ⟨hl.nx hb1, hn⟩
  have HR : Hid (RowAt W1 (.slice ko m kc) m (ints (ss.map (·.1))) ∧ RowAt W1 (.slice vo m vc) m (ints (ss.map (·.2)))) := ⟨hr.nx hb1, hr2.nx hb1⟩
  have HRG := hideIt (ranged_n ⟨#[98, 97, 115, 101]⟩ name frm ko m kc vo vc pl ss W1 (by rw [ByteArray.toList_mk]; rfl) HR.out.1 HR.out.2 hm hm1)
  rw [allM_fit ss hkeys] at HRG
  have HTW := hideIt (fun w0 h => twice_any ⟨#[98, 97, 115, 101]⟩ name frm ko m kc vo m vc pl (ss.map (·.1)) w0 h (by simp [hm]) hm1)
  rw [twK_twc ss hkeys] at HTW
  by_cases h0 : n = 0
  · have HX : Hid (faultC (bareR ls) ⟨2, name, frm, ss, place⟩ = 2) := by
      show _ = _
      simp only [faultC, bareR_len]
      rw [hn]
      simp [h0]
    subst h0
    clear hl hn hr hr2 hW1 hb1 hkeys hm
    go_enter Tryz.func99, Tryz.ntmps99
    go_wp2_with fail
    go_ret
    exact ⟨ret_i (by rw [HX.out]; rfl), nx_alloc _ _⟩
  · have HF0 : Hid (faultC (bareR ls) ⟨2, name, frm, ss, place⟩ = if allFit ss = false then 3 else if 6 ≤ cntC (bareR ls) 2 then 4 else if twc ss = true then 5 else if 0 ≤ idxN (bareR ls) 2 name 0 then 5 else 0) := by
      show _ = _
      simp only [faultC, bareR_len, manyC]
      rw [hn, idx_find _ _ _ 0]
      simp [h0]
    have hz : ((n : Int) == 0) = false := by simp; omega
    have h0' : ¬ (n : Int) = 0 := by omega
    clear hl hn hr hr2 hW1 hb1 hkeys hm h0
    cases hf : allFit ss
    · have HX : Hid (faultC (bareR ls) ⟨2, name, frm, ss, place⟩ = 3) := by show _ = _; rw [HF0.out, if_pos hf]
      go_enter Tryz.func99, Tryz.ntmps99
      go_wp2_with fail
      rw [← HW.out.1]
      refine HRG.out.mono ?_
      rintro e w2 ⟨rfl, hb2⟩
      rw [hf]
      have HB : Hid (Below w.heap.size w w2) := nx_trans HW.out.2.1 hb2
      clear hb2
      go_wp2_with fail
      go_ret
      exact ⟨ret_i (by rw [HX.out]; rfl), HB.out⟩
    · go_enter Tryz.func99, Tryz.ntmps99
      go_wp2_with fail
      rw [← HW.out.1]
      refine HRG.out.mono ?_
      rintro e w2 ⟨rfl, hb2⟩
      rw [hf]
      have HB : Hid (Below w.heap.size w w2 ∧ Below W1.heap.size W1 w2) := ⟨nx_trans HW.out.2.1 hb2, hb2⟩
      obtain ⟨e0, e1, e2, e3, e4, e5, ez⟩ := blk6 hb2 (by rw [HW.out.2.2.1]; omega) HW.out.2.2.2
      clear hb2
      go_wp2_with fail
      refine (alike_any 2 ao cap n ls w2 (HL.out.1.nx HB.out.2) HL.out.2 (by omega)).mono ?_
      rintro e w3 ⟨rfl, rfl⟩
      obtain ⟨c, hc⟩ : ∃ c, cntC (bareR ls) 2 = c := ⟨_, rfl⟩
      rw [hc]
      by_cases hc6 : 6 ≤ c
      · have HX : Hid (faultC (bareR ls) ⟨2, name, frm, ss, place⟩ = 4) := by show _ = _; rw [HF0.out, if_neg (by simp [hf]), hc, if_pos hc6]
        clear hc hf
        go_wp2_with fail
        go_ret
        exact ⟨ret_i (by rw [HX.out]; rfl), HB.out.1⟩
      · have HF1 : Hid (faultC (bareR ls) ⟨2, name, frm, ss, place⟩ = if twc ss = true then 5 else if 0 ≤ idxN (bareR ls) 2 name 0 then 5 else 0) := by show _ = _; rw [HF0.out, if_neg (by simp [hf]), hc, if_neg hc6]
        have hc6' : ¬ (6 : Int) ≤ (c : Int) := by omega
        have HT3 := hideIt (HTW.out w3 (HR.out.1.nx HB.out.2))
        clear hc hf HF0 hc6
        go_wp2_with fail
        refine HT3.out.mono ?_
        rintro e w4 ⟨rfl, hb4⟩
        have hbb := nx_trans HB.out.2 hb4
        have HB4 : Hid (Below w.heap.size w w4) := nx_trans HB.out.1 hb4
        obtain ⟨e0, e1, e2, e3, e4, e5, ez⟩ := blk6 hbb (by rw [HW.out.2.2.1]; omega) HW.out.2.2.2
        have HL4 : Hid (RLinesAt w4 (.slice ao n cap) ls) := HL.out.1.nx hbb
        clear hb4 hbb
        obtain ⟨ix, hix⟩ : ∃ ix, idxN (bareR ls) 2 name 0 = ix := ⟨_, rfl⟩
        cases htw : twc ss
        · go_wp2_with fail
          refine (rfind_any 2 name ao cap n ls w4 HL4.out HL.out.2 (by omega)).mono ?_
          rintro e w5 ⟨rfl, rfl⟩
          rw [hix]
          by_cases hp : 0 ≤ ix
          · have HX : Hid (faultC (bareR ls) ⟨2, name, frm, ss, place⟩ = 5) := by show _ = _; rw [HF1.out, if_neg (by simp [htw]), hix, if_pos hp]
            clear hix htw
            go_wp2_with fail
            go_ret
            exact ⟨ret_i (by rw [HX.out]; rfl), HB4.out⟩
          · have HX : Hid (faultC (bareR ls) ⟨2, name, frm, ss, place⟩ = 0) := by show _ = _; rw [HF1.out, if_neg (by simp [htw]), hix, if_neg hp]
            clear hix htw
            go_wp2_with fail
            go_ret
            exact ⟨ret_i (by rw [HX.out]; rfl), HB4.out⟩
        · have HX : Hid (faultC (bareR ls) ⟨2, name, frm, ss, place⟩ = 5) := by show _ = _; rw [HF1.out, if_pos htw]
          go_wp2_with fail
          refine (rfind_any 2 name ao cap n ls w4 HL4.out HL.out.2 (by omega)).mono ?_
          rintro e w5 ⟨rfl, rfl⟩
          rw [hix]
          clear hix htw
          go_wp2_with fail
          go_ret
          exact ⟨ret_i (by rw [HX.out]; rfl), HB4.out⟩

set_option maxRecDepth 20000 in
set_option maxHeartbeats 4000000 in
theorem wrong_3 (l : Ln) (hkd : l.kind = 3) (hkeys : ∀ p ∈ l.sets, p.1 ≤ 2) (m : Nat) (hm : l.sets.length = m) (hm1 : m ≤ 1001) (ko : Option Addr) (kc : Nat) (vo : Option Addr) (vc : Nat) (pl : Int) (ao : Option Addr) (cap n : Nat) (ls : List RL) (w : World) (hl : RLinesAt w (.slice ao n cap) ls) (hn : ls.length = n) (hn1 : n ≤ 1001)
    (hr : RowAt w (.slice ko m kc) m (ints (l.sets.map (·.1)))) (hr2 : RowAt w (.slice vo m vc) m (ints (l.sets.map (·.2)))) :
    Calls Tryz.prog 99 #[.slice ao n cap, rlA ⟨#[112, 111, 111, 108]⟩ l.name l.frm ko m kc vo m vc pl, .bool true] w fun e w' => e = .returned (.int .i64 (faultC (bareR ls) l)) ∧ Below w.heap.size w w' := by
  obtain ⟨kind, name, frm, ss, place⟩ := l
  simp only at hkd hkeys hm hr hr2 ⊢
  subst hkd
  obtain ⟨W1, hW1⟩ : ∃ W1, W1 = w.alloc (bRL ⟨#[112, 111, 111, 108]⟩ name frm ko m kc vo m vc pl) := ⟨_, rfl⟩
  have hb1 : Below w.heap.size w W1 := by rw [hW1]; exact nx_alloc _ _
  have HW : Hid (W1 = w.alloc (bRL ⟨#[112, 111, 111, 108]⟩ name frm ko m kc vo m vc pl) ∧ Below w.heap.size w W1 ∧ W1.heap.size = w.heap.size + 1 ∧ W1.heap[w.heap.size]? = some (bRL ⟨#[112, 111, 111, 108]⟩ name frm ko m kc vo m vc pl)) := by
    refine ⟨hW1, hb1, by rw [hW1]; simp, by rw [hW1]; exact heap_alloc_at' _ _ rfl⟩
  have HL : Hid (RLinesAt W1 (.slice ao n cap) ls ∧ ls.length = n) := ⟨hl.nx hb1, hn⟩
  have HR : Hid (RowAt W1 (.slice ko m kc) m (ints (ss.map (·.1))) ∧ RowAt W1 (.slice vo m vc) m (ints (ss.map (·.2)))) := ⟨hr.nx hb1, hr2.nx hb1⟩
  have HRG := hideIt (ranged_n ⟨#[112, 111, 111, 108]⟩ name frm ko m kc vo vc pl ss W1 (by rw [ByteArray.toList_mk]; rfl) HR.out.1 HR.out.2 hm hm1)
  rw [allM_fit ss hkeys] at HRG
  have HTW := hideIt (fun w0 h => twice_any ⟨#[112, 111, 111, 108]⟩ name frm ko m kc vo m vc pl (ss.map (·.1)) w0 h (by simp [hm]) hm1)
  rw [twK_twc ss hkeys] at HTW
  by_cases h0 : n = 0
  · have HX : Hid (faultC (bareR ls) ⟨3, name, frm, ss, place⟩ = 2) := by
      show _ = _
      simp only [faultC, bareR_len]
      rw [hn]
      simp [h0]
    subst h0
    clear hl hn hr hr2 hW1 hb1 hkeys hm
    go_enter Tryz.func99, Tryz.ntmps99
    go_wp2_with fail
    go_ret
    exact ⟨ret_i (by rw [HX.out]; rfl), nx_alloc _ _⟩
  · have HF0 : Hid (faultC (bareR ls) ⟨3, name, frm, ss, place⟩ = if allFit ss = false then 3 else if 6 ≤ cntC (bareR ls) 3 then 4 else if twc ss = true then 5 else if 0 ≤ idxN (bareR ls) 3 name 0 then 5 else 0) := by
      show _ = _
      simp only [faultC, bareR_len, manyC]
      rw [hn, idx_find _ _ _ 0]
      simp [h0]
    have hz : ((n : Int) == 0) = false := by simp; omega
    have h0' : ¬ (n : Int) = 0 := by omega
    clear hl hn hr hr2 hW1 hb1 hkeys hm h0
    cases hf : allFit ss
    · have HX : Hid (faultC (bareR ls) ⟨3, name, frm, ss, place⟩ = 3) := by show _ = _; rw [HF0.out, if_pos hf]
      go_enter Tryz.func99, Tryz.ntmps99
      go_wp2_with fail
      rw [← HW.out.1]
      refine HRG.out.mono ?_
      rintro e w2 ⟨rfl, hb2⟩
      rw [hf]
      have HB : Hid (Below w.heap.size w w2) := nx_trans HW.out.2.1 hb2
      clear hb2
      go_wp2_with fail
      go_ret
      exact ⟨ret_i (by rw [HX.out]; rfl), HB.out⟩
    · go_enter Tryz.func99, Tryz.ntmps99
      go_wp2_with fail
      rw [← HW.out.1]
      refine HRG.out.mono ?_
      rintro e w2 ⟨rfl, hb2⟩
      rw [hf]
      have HB : Hid (Below w.heap.size w w2 ∧ Below W1.heap.size W1 w2) := ⟨nx_trans HW.out.2.1 hb2, hb2⟩
      obtain ⟨e0, e1, e2, e3, e4, e5, ez⟩ := blk6 hb2 (by rw [HW.out.2.2.1]; omega) HW.out.2.2.2
      clear hb2
      go_wp2_with fail
      refine (alike_any 3 ao cap n ls w2 (HL.out.1.nx HB.out.2) HL.out.2 (by omega)).mono ?_
      rintro e w3 ⟨rfl, rfl⟩
      obtain ⟨c, hc⟩ : ∃ c, cntC (bareR ls) 3 = c := ⟨_, rfl⟩
      rw [hc]
      by_cases hc6 : 6 ≤ c
      · have HX : Hid (faultC (bareR ls) ⟨3, name, frm, ss, place⟩ = 4) := by show _ = _; rw [HF0.out, if_neg (by simp [hf]), hc, if_pos hc6]
        clear hc hf
        go_wp2_with fail
        go_ret
        exact ⟨ret_i (by rw [HX.out]; rfl), HB.out.1⟩
      · have HF1 : Hid (faultC (bareR ls) ⟨3, name, frm, ss, place⟩ = if twc ss = true then 5 else if 0 ≤ idxN (bareR ls) 3 name 0 then 5 else 0) := by show _ = _; rw [HF0.out, if_neg (by simp [hf]), hc, if_neg hc6]
        have hc6' : ¬ (6 : Int) ≤ (c : Int) := by omega
        have HT3 := hideIt (HTW.out w3 (HR.out.1.nx HB.out.2))
        clear hc hf HF0 hc6
        go_wp2_with fail
        refine HT3.out.mono ?_
        rintro e w4 ⟨rfl, hb4⟩
        have hbb := nx_trans HB.out.2 hb4
        have HB4 : Hid (Below w.heap.size w w4) := nx_trans HB.out.1 hb4
        obtain ⟨e0, e1, e2, e3, e4, e5, ez⟩ := blk6 hbb (by rw [HW.out.2.2.1]; omega) HW.out.2.2.2
        have HL4 : Hid (RLinesAt w4 (.slice ao n cap) ls) := HL.out.1.nx hbb
        clear hb4 hbb
        obtain ⟨ix, hix⟩ : ∃ ix, idxN (bareR ls) 3 name 0 = ix := ⟨_, rfl⟩
        cases htw : twc ss
        · go_wp2_with fail
          refine (rfind_any 3 name ao cap n ls w4 HL4.out HL.out.2 (by omega)).mono ?_
          rintro e w5 ⟨rfl, rfl⟩
          rw [hix]
          by_cases hp : 0 ≤ ix
          · have HX : Hid (faultC (bareR ls) ⟨3, name, frm, ss, place⟩ = 5) := by show _ = _; rw [HF1.out, if_neg (by simp [htw]), hix, if_pos hp]
            clear hix htw
            go_wp2_with fail
            go_ret
            exact ⟨ret_i (by rw [HX.out]; rfl), HB4.out⟩
          · have HX : Hid (faultC (bareR ls) ⟨3, name, frm, ss, place⟩ = 0) := by show _ = _; rw [HF1.out, if_neg (by simp [htw]), hix, if_neg hp]
            clear hix htw
            go_wp2_with fail
            go_ret
            exact ⟨ret_i (by rw [HX.out]; rfl), HB4.out⟩
        · have HX : Hid (faultC (bareR ls) ⟨3, name, frm, ss, place⟩ = 5) := by show _ = _; rw [HF1.out, if_pos htw]
          go_wp2_with fail
          refine (rfind_any 3 name ao cap n ls w4 HL4.out HL.out.2 (by omega)).mono ?_
          rintro e w5 ⟨rfl, rfl⟩
          rw [hix]
          clear hix htw
          go_wp2_with fail
          go_ret
          exact ⟨ret_i (by rw [HX.out]; rfl), HB4.out⟩
end Co
end Go.Proofs.YtmmmjpkhnbfnbaaGreat
