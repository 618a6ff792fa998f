
import Derived.Test.YtbdekfghddekkaaCpJ
namespace Go.Proofs.Ytbdekfghddekkaa
open Go.RowKit
namespace Co

theorem table_any (go B C : Nat) (b : Int) (po : Option Addr) (pc q : Nat) (vs : List Value) (vo : Option Addr) (n vc : Nat) (xs : List Value) (w : World) (hgo : w.heap[go]? = some (bOwn (.slice po q pc))) (hpv : w.ownsRow B 29 1 (.slice po q pc) q vs) (hq : q ≤ 5) (hB : B ≤ w.heap.size) (hgoB : go < B) (ht : w.ownsRow C 42 4 (.slice vo n vc) n xs) :
    Calls Try.prog 5 #[.pointer (some ⟨go, 0, none⟩), .agg #[.int .i64 b, .slice vo n vc]] w fun e w' => (∃ x, e = .returned x) ∧ ∃ po' pc' l, w'.heap[go]? = some (bOwn (.slice po' (q + 1) pc')) ∧ w'.ownsRow B 29 1 (.slice po' (q + 1) pc') (q + 1) (vs ++ [l]) ∧ Full w' l (q + 1 : Nat) ∧ (∀ a n c, l = .slice a n c → n ≤ maxLen) ∧ w.heap.size ≤ w'.heap.size ∧ (∀ k, k < w.heap.size → k ≠ go → k < C → (Value.slice po q pc).ownBlock ≠ some k → w'.heap[k]? = w.heap[k]?) ∧ SameO w w' := by
  rcases ht.2 with ⟨hv, _⟩ | ⟨g, cap, cur, hv, hCg, hg, hnc, hm, hs, _⟩
  · rw [hv]
    refine (table_nil go B b po pc q vs w hgo hpv hq hB hgoB).mono ?_
    rintro e w' ⟨hx, po', pc', h1, h2, h3, h4, h5⟩
    exact ⟨hx, po', pc', .slice none 0 0, h1, h2, .inl rfl, fun a n c e => by simp only [Value.slice.injEq] at e; rw [← e.2.1]; exact Nat.zero_le _, h3, fun k k1 k2 _ k4 => h4 k k1 k2 k4, h5⟩
  · rw [hv]
    refine (table_some go g B b po pc q vs n cap cur w hgo hpv hq hB hgoB hg hs hm hnc).mono ?_
    rintro e w' ⟨hx, po', pc', h1, h2, h3, h4, h5, h6⟩
    exact ⟨hx, po', pc', .slice (some ⟨g, 0, none⟩) cap cap, h1, h2, h3, fun a n c e => by simp only [Value.slice.injEq] at e; rw [← e.2.1]; exact hm, h4, fun k k1 k2 k3 k4 => h5 k k1 k2 (by omega) k4, h6⟩
theorem full_keep {w w' : World} {v : Value} {far : Int} (h : Full w v far) (hh : ∀ (k : Nat) (cur : Array Value), w.heap[k]? = some (Obj.cells cur 42 (0, 0)) → w'.heap[k]? = w.heap[k]?) : Full w' v far := by
  rcases h with h | ⟨g, cap, cur, h1, h2, h3⟩
  · exact .inl h
  · exact .inr ⟨g, cap, cur, h1, (hh g cur h2).trans h2, h3⟩

set_option maxRecDepth 20000 in
set_option maxHeartbeats 4000000 in
theorem compiles_any (s : ByteArray) (w : World) (hs : s.size ≤ maxLen) :
    Calls Try.prog 3 #[.string s] w fun e w' => e = .returned (.bool true) ∧ Below w.heap.size w w' := by
  have HCA := hideIt (fun w0 => compiled_any s w0 hs)
  obtain ⟨⟨⟨b, ps⟩, er, pl⟩, ha⟩ : ∃ a, ans s = a := ⟨_, rfl⟩
  rw [ha] at HCA
  obtain ⟨m, hm⟩ : ∃ m, ps.length = m := ⟨_, rfl⟩
  have HM := hideIt hm
  clear ha
  obtain ⟨W1, hW1⟩ : ∃ W1, W1 = w.alloc (bOwn (.slice none 0 0)) := ⟨_, rfl⟩
  have H1 : Hid (W1 = w.alloc (bOwn (.slice none 0 0)) ∧ Below w.heap.size w W1 ∧ W1.heap[w.heap.size]? = some (bOwn (.slice none 0 0)) ∧ W1.heap.size = w.heap.size + 1) := ⟨hW1, by rw [hW1]; exact nx_alloc _ _, by rw [hW1]; exact heap_alloc_at' _ _ rfl, by rw [hW1]; simp⟩
  clear hW1
  unfold maxLen at hs
  go_enter Try.func3, Try.ntmps3
  go_wp2_with fail
  rw [← H1.out.1]
  refine (HCA.out W1).mono ?_
  rintro e w2 ⟨vo, vc, rfl, hown2, hb2⟩
  simp only at hown2 ⊢
  rw [hm] at hown2 ⊢
  obtain ⟨W3, hW3⟩ : ∃ W3, W3 = w2.alloc (bTab b (.slice vo m vc)) := ⟨_, rfl⟩
  have hb3 : Below w2.heap.size w2 W3 := by rw [hW3]; exact nx_alloc _ _
  have hgo3 : W3.heap[w.heap.size]? = some (bOwn (.slice none 0 0)) := ((nx_trans hb2 hb3).block _ (by rw [H1.out.2.2.2]; omega)).trans H1.out.2.2.1
  have hB3 : w.heap.size + 1 ≤ W3.heap.size := by have := (nx_trans hb2 hb3).size; rw [H1.out.2.2.2] at this; exact this
  have ht3 : W3.ownsRow (w.heap.size + 1) 42 4 (.slice vo m vc) m (flatP ps) := by have := own_below hown2 hb3; rw [H1.out.2.2.2] at this; exact this
  have HT1 := hideIt (table_any w.heap.size (w.heap.size + 1) (w.heap.size + 1) b none 0 0 [] vo m vc (flatP ps) W3 hgo3 (World.ownsRow_nil _ _ _ _) (by omega) hB3 (by omega) ht3)
  have H3 : Hid (W3 = w2.alloc (bTab b (.slice vo m vc)) ∧ Below w.heap.size w W3) := ⟨hW3, nx_trans H1.out.2.1 (nx_trans hb2 hb3)⟩
  clear hown2 hb2 hb3 hgo3 ht3 hW3
  go_wp2_with fail
  rw [← H3.out.1]
  refine HT1.out.mono ?_
  rintro e w4 ⟨⟨x, rfl⟩, po4, pc4, l1, hgo4, hpv4, hf4, hcl4, hz4, hfr4, hso4⟩
  have HB4 : Hid (Below w.heap.size w w4) := ⟨hso4.1.trans H3.out.2.os, hso4.2.1.trans H3.out.2.tape, hso4.2.2.trans H3.out.2.output, Nat.le_trans H3.out.2.size hz4, fun k hk => (hfr4 k (by omega) (by omega) (by omega) (by simp [Value.ownBlock])).trans (H3.out.2.block k hk)⟩
  have H4 : Hid (w4.heap[w.heap.size]? = some (bOwn (.slice po4 1 pc4)) ∧ w4.ownsRow (w.heap.size + 1) 29 1 (.slice po4 1 pc4) 1 [l1] ∧ Full w4 l1 1 ∧ (∀ a n c, l1 = .slice a n c → n ≤ maxLen) ∧ w.heap.size + 1 ≤ w4.heap.size) := ⟨hgo4, hpv4, hf4, hcl4, Nat.le_trans hB3 hz4⟩
  clear hgo4 hpv4 hf4 hcl4 hz4 hfr4 hso4 hB3
  go_wp2_with fail
  refine (HCA.out w4).mono ?_
  rintro e w5 ⟨vo5, vc5, rfl, hown5, hb5⟩
  simp only at hown5 ⊢
  rw [hm] at hown5 ⊢
  obtain ⟨W6, hW6⟩ : ∃ W6, W6 = w5.alloc (bTab b (.slice vo5 m vc5)) := ⟨_, rfl⟩
  have hb6 : Below w5.heap.size w5 W6 := by rw [hW6]; exact nx_alloc _ _
  have hb46 := nx_trans hb5 hb6
  have hgo6 : W6.heap[w.heap.size]? = some (bOwn (.slice po4 1 pc4)) := (hb46.block _ (by have := H4.out.2.2.2.2; omega)).trans H4.out.1
  have HT2 := hideIt (table_any w.heap.size (w.heap.size + 1) w4.heap.size b po4 pc4 1 [l1] vo5 m vc5 (flatP ps) W6 hgo6 (own_below H4.out.2.1 hb46) (by omega) (Nat.le_trans H4.out.2.2.2.2 hb46.size) (by omega) (own_below hown5 hb6))
  have H6 : Hid (W6 = w5.alloc (bTab b (.slice vo5 m vc5)) ∧ Below w.heap.size w W6 ∧ Below w4.heap.size w4 W6) := ⟨hW6, nx_trans HB4.out hb46, hb46⟩
  clear hown5 hb5 hb6 hb46 hgo6 hW6 hm
  go_wp2_with fail
  rw [← H6.out.1]
  refine HT2.out.mono ?_
  rintro e w7 ⟨⟨x7, rfl⟩, po7, pc7, l2, hgo7, hpv7, hf7, hcl7, hz7, hfr7, hso7⟩
  have hfr7' : ∀ k, k < w4.heap.size → k ≠ w.heap.size → (Value.slice po4 1 pc4).ownBlock ≠ some k → w7.heap[k]? = w4.heap[k]? := fun k h1 h2 h3 => (hfr7 k (Nat.lt_of_lt_of_le h1 H6.out.2.2.size) h2 h1 h3).trans (H6.out.2.2.block k h1)
  have hb7 : Below w.heap.size w w7 := ⟨hso7.1.trans H6.out.2.1.os, hso7.2.1.trans H6.out.2.1.tape, hso7.2.2.trans H6.out.2.1.output, Nat.le_trans H6.out.2.1.size hz7, fun k hk => (hfr7' k (by have := H4.out.2.2.2.2; omega) (by omega) (fun e => by have := (H4.out.2.1.lt k e).1; omega)).trans (HB4.out.block k hk)⟩
  have hf1 : Full w7 l1 1 := full_keep H4.out.2.2.1 (fun k cur hk => hfr7' k (Array.getElem?_eq_some_iff.1 hk).1 (fun e => by rw [e, H4.out.1] at hk; simp at hk) (fun e => by
    obtain ⟨cur', h'⟩ := own_typed H4.out.2.1 k e
    rw [hk] at h'
    simp at h'))
  have HK := hideIt (kept_any w.heap.size po7 pc7 2 [l1, l2] w7 hgo7 (own_row hpv7) rfl (by omega) (by
    intro i v hv
    match i, hv with
    | 0, hv => simp at hv; subst hv; exact hf1
    | 1, hv => simp at hv; subst hv; exact hf7
    | i + 2, hv => simp at hv) (by
    intro v hv
    simp at hv
    rcases hv with rfl | rfl
    · exact H4.out.2.2.2.1
    · exact hcl7))
  have HB7 := hideIt hb7
  clear hgo7 hpv7 hf7 hcl7 hz7 hfr7 hso7 hfr7' hb7 hf1
  go_wp2_with fail
  refine HK.out.mono ?_
  rintro e w8 ⟨rfl, hw⟩
  rw [hw]
  clear hw
  go_wp2_with fail
  go_ret
  exact ⟨rfl, HB7.out⟩
end Co
end Go.Proofs.Ytbdekfghddekkaa
