import Derived.Test.YtohbonfngeblkaaGreatMrAn
import Derived.Test.YtohbonfngeblkaaGreatMrAw
import Derived.BigQuiet
namespace Go.Proofs.YtohbonfngeblkaaGreat
open Go.RowKit
namespace Lw
open Co
structure LnOk (l : Ln) : Prop where
  fit : allFit l.sets = true
  kind : (l.kind = 1 ∧ ∃ n, l.sets = [(3, n)]) ∨ ((l.kind = 2 ∨ l.kind = 3) ∧ isNm l.name = true)
structure LsOk (ls : List Ln) : Prop where
  ok : ∀ l ∈ ls, LnOk l
  hd : ∀ l r, ls = l :: r → l.kind = 1
  cnt : cntC ls 3 ≤ 6
  dis : ls.Pairwise (fun a b => a.kind = 3 → b.kind = 3 → a.name ≠ b.name)
  one : ∀ l r, ls = l :: r → ∀ x ∈ r, x.kind ≠ 1
theorem named_ok {k : Nat} {fs : List ByteArray} {l : Ln} (h : namedF k fs = some l) : l.kind = k ∧ isNm l.name = true := by
  unfold namedF at h
  cases fs with
  | nil => simp at h
  | cons nm r =>
    simp only at h
    by_cases hn : isNm nm = true
    · rw [if_pos hn] at h
      cases r with
      | nil => simp only [Option.some.injEq] at h; subst h; exact ⟨rfl, hn⟩
      | cons fw r2 =>
        simp only at h
        split at h
        · cases r2 with
          | nil => simp at h
          | cons b r3 =>
            simp only at h
            split at h
            · cases hs : setsF r3 with
              | none => rw [hs] at h; simp at h
              | some ss => rw [hs] at h; simp only [Option.map_some, Option.some.injEq] at h; subst h; exact ⟨rfl, hn⟩
            · simp at h
        · cases hs : setsF (fw :: r2) with
          | none => rw [hs] at h; simp at h
          | some ss => rw [hs] at h; simp only [Option.map_some, Option.some.injEq] at h; subst h; exact ⟨rfl, hn⟩
    · rw [if_neg hn] at h; simp at h
theorem parse_ok {fs : List ByteArray} {l : Ln} (h : parseF fs = some l) : (l.kind = 1 ∧ ∃ n, l.sets = [(3, n)]) ∨ ((l.kind = 2 ∨ l.kind = 3) ∧ isNm l.name = true) := by
  unfold parseF at h
  cases fs with
  | nil => simp at h
  | cons f0 r =>
    simp only at h
    split at h
    · left
      unfold budF at h
      split at h
      · rename_i a
        cases hn : numF a with
        | none => rw [hn] at h; simp at h
        | some n => rw [hn] at h; simp only [Option.map_some, Option.some.injEq] at h; subst h; exact ⟨rfl, n, rfl⟩
      · simp at h
    · split at h
      · obtain ⟨h1, h2⟩ := named_ok h; exact .inr ⟨.inl h1, h2⟩
      · split at h
        · obtain ⟨h1, h2⟩ := named_ok h; exact .inr ⟨.inr h1, h2⟩
        · simp at h
theorem ls_step {acc : List Ln} {l : Ln} (h : LsOk acc) (hk : (l.kind = 1 ∧ ∃ n, l.sets = [(3, n)]) ∨ ((l.kind = 2 ∨ l.kind = 3) ∧ isNm l.name = true)) (hf : faultC acc l = 0) (p : Nat) : LsOk (acc ++ [{ l with place := p }]) := by
  unfold faultC at hf
  by_cases f1 : (decide (acc.length = 0) != decide (l.kind = 1)) = true
  · rw [if_pos f1] at hf; simp at hf
  · rw [if_neg f1] at hf
    by_cases f2 : allFit l.sets = false
    · rw [if_pos f2] at hf; simp at hf
    · rw [if_neg f2] at hf
      by_cases f3 : manyC acc l.kind = true
      · rw [if_pos f3] at hf; simp at hf
      · rw [if_neg f3] at hf
        by_cases f4 : twc l.sets = true
        · rw [if_pos f4] at hf; simp at hf
        · rw [if_neg f4] at hf
          by_cases f5 : (findC acc l.kind l.name).isSome = true
          · rw [if_pos f5] at hf; simp at hf
          · have e1 : acc.length = 0 ↔ l.kind = 1 := by
              have : decide (acc.length = 0) = decide (l.kind = 1) := by simpa using f1
              exact ⟨fun h => by rw [decide_eq_true h] at this; exact of_decide_eq_true this.symm, fun h => by rw [decide_eq_true h] at this; exact of_decide_eq_true this⟩
            have hfd : findC acc l.kind l.name = none := by
              cases hc : findC acc l.kind l.name with
              | none => rfl
              | some x => rw [hc] at f5; simp at f5
            refine ⟨fun x hx => ?_, fun x r hx => ?_, ?_, ?_, fun x r hx y hy => ?_⟩
            · rcases List.mem_append.1 hx with hx | hx
              · exact h.ok x hx
              · rw [List.mem_singleton] at hx
                subst hx
                exact ⟨by simpa using f2, hk⟩
            · cases acc with
              | nil =>
                obtain ⟨rfl, _⟩ := List.cons.inj hx
                exact e1.1 rfl
              | cons a q =>
                obtain ⟨rfl, _⟩ := List.cons.inj hx
                exact h.hd a q rfl
            · unfold cntC
              rw [List.filter_append, List.length_append]
              have hc := h.cnt
              unfold cntC at hc
              by_cases h3 : l.kind = 3
              · have hm : ¬ 6 ≤ cntC acc 3 := by
                  intro h6
                  apply f3
                  unfold manyC
                  rw [h3, if_pos (.inr rfl)]
                  exact decide_eq_true h6
                unfold cntC at hm
                have : (List.filter (fun x : Ln => x.kind == 3) [{ l with place := p }]).length ≤ 1 := List.length_filter_le _ _
                omega
              · have : (List.filter (fun x : Ln => x.kind == 3) [{ l with place := p }]).length = 0 := by
                  simp [h3]
                omega
            · refine List.pairwise_append.2 ⟨h.dis, List.pairwise_singleton _ _, fun a ha b hb ka kb e => ?_⟩
              rw [List.mem_singleton] at hb
              subst hb
              have := List.find?_eq_none.1 hfd a ha
              apply this
              have kb' : l.kind = 3 := kb
              have e' : a.name = l.name := e
              rw [ka, kb', e']
              simp
            · cases acc with
              | nil =>
                obtain ⟨rfl, rfl⟩ := List.cons.inj hx
                simp at hy
              | cons a q =>
                obtain ⟨rfl, rfl⟩ := List.cons.inj hx
                rcases List.mem_append.1 hy with hy | hy
                · exact h.one a q rfl y hy
                · rw [List.mem_singleton] at hy
                  subst hy
                  intro e
                  have := e1.2 e
                  simp at this
theorem rdC_ok : ∀ (ps : List ByteArray) (i : Nat) (acc : List Ln), LsOk acc → (rdC i acc ps).err = 0 → LsOk (rdC i acc ps).lines ∧ (rdC i acc ps).lines ≠ []
  | [], i, acc, h, he => by
    rw [rdC] at he ⊢
    by_cases h0 : acc.length = 0
    · rw [if_pos h0] at he; simp at he
    · rw [if_neg h0] at he ⊢
      exact ⟨h, fun e => h0 (by simp only at e; rw [e]; rfl)⟩
  | p :: r, i, acc, h, he => by
    by_cases h0 : (flds p).length = 0
    · rw [rdC_skip h0] at he ⊢
      exact rdC_ok r _ _ h he
    · rw [rdC, if_neg h0] at he ⊢
      cases hp : parseF (flds p) with
      | none => rw [hp] at he; simp at he
      | some l =>
        rw [hp] at he
        simp only at he ⊢
        by_cases hf : faultC acc l = 0
        · rw [if_pos hf] at he ⊢
          exact rdC_ok r _ _ (ls_step h (parse_ok hp) hf _) he
        · rw [if_neg hf] at he
          exact absurd he hf
theorem fits_val {ss : List (Nat × Nat)} (h : allFit ss = true) {k n : Nat} (hv : valL ss k = some n) : ∃ p ∈ ss, (wordB p.1).toList = (wordB k).toList ∧ p.2 = n ∧ fitsK p.1 p.2 = true := by
  unfold valL at hv
  cases hf : ss.find? (fun p => (wordB p.1).toList == (wordB k).toList) with
  | none => rw [hf] at hv; simp at hv
  | some p =>
    rw [hf] at hv
    have hm := List.mem_of_find?_eq_some hf
    have hw := List.find?_some hf
    refine ⟨p, hm, eq_of_beq hw, Option.some.inj hv, ?_⟩
    unfold allFit at h
    exact List.all_eq_true.1 h p hm
theorem fitsK_in {k : Nat} {n : Int} (h : fitsK k n = true) : (k = 0 → 0 ≤ n ∧ n ≤ 20) ∧ (k = 1 → 0 ≤ n ∧ n ≤ 20) ∧ (k = 2 → 0 ≤ n ∧ n ≤ 999) ∧ (3 ≤ k → 1 ≤ n ∧ n ≤ 99) := by
  match k with
  | 0 => simp [fitsK, inB] at h ⊢; omega
  | 1 => simp [fitsK, inB] at h ⊢; omega
  | 2 => simp [fitsK, inB] at h ⊢; omega
  | k + 3 => simp [fitsK, inB] at h ⊢; omega
theorem word_eq {a k : Nat} (h : (wordB a).toList = (wordB k).toList) (hk : k ≤ 2) : a = k := by
  have tl : ∀ x : Nat, (wordB x).toList = kwL x := fun x => by rw [ByteArray.toList_eq]; rfl
  rw [tl, tl] at h
  match k, hk with
  | 0, _ => match a with
    | 0 => rfl
    | 1 => exact absurd h (by decide)
    | 2 => exact absurd h (by decide)
    | a + 3 => exact absurd h (show ¬ kwL 3 = kwL 0 by decide)
  | 1, _ => match a with
    | 0 => exact absurd h (by decide)
    | 1 => rfl
    | 2 => exact absurd h (by decide)
    | a + 3 => exact absurd h (show ¬ kwL 3 = kwL 1 by decide)
  | 2, _ => match a with
    | 0 => exact absurd h (by decide)
    | 1 => exact absurd h (by decide)
    | 2 => rfl
    | a + 3 => exact absurd h (show ¬ kwL 3 = kwL 2 by decide)
def InK (k : Nat) (n : Int) : Prop := (k = 2 → 0 ≤ n ∧ n ≤ 999) ∧ (k < 2 → 0 ≤ n ∧ n ≤ 20)
theorem val_in {ss : List (Nat × Nat)} (h : allFit ss = true) {k n : Nat} (hk : k ≤ 2) (hv : valL ss k = some n) : InK k n := by
  obtain ⟨p, _, h2, h3, h4⟩ := fits_val h hv
  have e := word_eq h2 hk
  obtain ⟨a, b⟩ := p
  simp only at e h3 h4
  subst e h3
  have := fitsK_in h4
  exact ⟨fun e => this.2.2.1 e, fun e => by
    rcases Nat.lt_or_ge a 1 with h1 | h1
    · exact this.1 (by omega)
    · exact this.2.1 (by omega)⟩
theorem chv_in {k : Nat} {o : Int} (hk : k ≤ 2) (ho : InK k o) : ∀ ls : List Ln, (∀ l ∈ ls, LnOk l) → InK k (chvC k o ls)
  | [], _ => ho
  | p :: r, h => by
    unfold chvC
    cases hv : valL p.sets k with
    | none => exact chv_in hk ho r (fun l hl => h l (by simp [hl]))
    | some n => exact val_in (h p (by simp)).fit hk hv
theorem chC_mem (all : List Ln) : ∀ (f : Nat) (nm : ByteArray), ∀ l ∈ chC all f nm, l ∈ all
  | 0, _, l, hl => by simp [chC] at hl
  | f + 1, nm, l, hl => by
    rw [chC] at hl
    cases hf : findC all 2 nm with
    | none => rw [hf] at hl; simp at hl
    | some p =>
      rw [hf] at hl
      rcases List.mem_cons.1 hl with rfl | hl
      · exact List.mem_of_find?_eq_some hf
      · exact chC_mem all f _ l hl
theorem valC_in {k : Nat} {o : Int} (hk : k ≤ 2) (ho : InK k o) {ss : List (Nat × Nat)} (h : allFit ss = true) {ls : List Ln} (hl : ∀ l ∈ ls, LnOk l) : InK k (valC k o ss ls) := by
  unfold valC
  cases hv : valL ss k with
  | none => exact chv_in hk ho ls hl
  | some n => exact val_in h hk hv
theorem pl_ok {all : List Ln} (ha : ∀ l ∈ all, LnOk l) {l : Ln} (hl : LnOk l) (h3 : l.kind = 3) : Okp (plC all l) := by
  have hc : ∀ x ∈ chC all 7 l.frm, LnOk x := fun x hx => ha x (chC_mem _ _ _ x hx)
  have v0 := valC_in (k := 0) (o := 1) (by omega) ⟨by omega, by omega⟩ hl.fit hc
  have v1 := valC_in (k := 1) (o := 0) (by omega) ⟨by omega, by omega⟩ hl.fit hc
  have v2 := valC_in (k := 2) (o := 0) (by omega) ⟨by omega, by omega⟩ hl.fit hc
  have hn : isNm l.name = true := by
    rcases hl.kind with ⟨h, _⟩ | ⟨_, h⟩
    · omega
    · exact h
  exact ⟨hn, (v0.2 (by omega)).1, (v0.2 (by omega)).2, (v1.2 (by omega)).1, (v1.2 (by omega)).2, (v2.1 rfl).1, (v2.1 rfl).2⟩
structure TabI (pre : List Ln) (st : Int × List Pl) : Prop where
  bud : pre ≠ [] → 1 ≤ st.1 ∧ st.1 ≤ 99
  len : st.2.length = cntC pre 3
  ok : ∀ p ∈ st.2, Okp p ∧ ∃ l ∈ pre, l.kind = 3 ∧ p.nm = l.name
  up : Df.Up st.2
theorem cnt_add (pre : List Ln) (l : Ln) : cntC (pre ++ [l]) 3 = cntC pre 3 + if l.kind = 3 then 1 else 0 := by
  unfold cntC
  rw [List.filter_append, List.length_append]
  congr 1
  by_cases h : l.kind = 3
  · simp [h]
  · simp [h]
theorem fold_ok (all : List Ln) (ha : ∀ l ∈ all, LnOk l) : ∀ (r pre : List Ln) (st : Int × List Pl), TabI pre st → LsOk (pre ++ r) → TabI (pre ++ r) (r.foldl (stC all) st)
  | [], pre, st, h, _ => by rw [List.append_nil]; exact h
  | l :: r, pre, st, h, hl => by
    have e : pre ++ l :: r = (pre ++ [l]) ++ r := by simp
    rw [e] at hl ⊢
    rw [List.foldl_cons]
    refine fold_ok all ha r (pre ++ [l]) _ ?_ hl
    have hlo : LnOk l := hl.ok l (by simp)
    unfold stC
    by_cases h1 : l.kind = 1
    · rw [if_pos h1]
      refine ⟨fun _ => ?_, ?_, fun p hp => ?_, h.up⟩
      · rcases hlo.kind with ⟨_, n, hs⟩ | ⟨h2, _⟩
        · have hf := hlo.fit
          rw [hs] at hf ⊢
          have hv : valL [(3, n)] 3 = some n := by simp [valL]
          unfold valC
          rw [hv]
          have hk : fitsK 3 (n : Int) = true := by simpa [allFit] using hf
          exact (fitsK_in hk).2.2.2 (by omega)
        · omega
      · rw [cnt_add, if_neg (by omega)]; exact h.len
      · obtain ⟨k1, x, k2, k3⟩ := h.ok p hp
        exact ⟨k1, x, by simp [k2], k3⟩
    · rw [if_neg h1]
      have hpre : pre ≠ [] := by
        intro e0
        subst e0
        have := hl.hd l r (by simp)
        exact h1 this
      by_cases h3 : l.kind = 3
      · rw [if_pos h3]
        refine ⟨fun _ => h.bud hpre, ?_, fun p hp => ?_, ?_⟩
        · show (insP _ _).length = _
          rw [insP_len, cnt_add, if_pos h3, h.len]
        · rcases (insP_mem _ _ _).1 hp with rfl | hp
          · exact ⟨pl_ok ha hlo h3, l, by simp, h3, rfl⟩
          · obtain ⟨k1, x, k2, k3⟩ := h.ok p hp
            exact ⟨k1, x, by simp [k2], k3⟩
        · refine Df.up_ins _ h.up ?_
          unfold Df.lk
          refine List.find?_eq_none.2 (fun p hp hn => ?_)
          obtain ⟨_, x, k2, k3, k4⟩ := h.ok p hp
          have e1 : p.nm = l.name := Df.isN_eq.1 hn
          have hd := hl.dis
          rw [List.append_assoc] at hd
          exact (List.pairwise_append.1 hd).2.2 x k2 l (by simp) k3 h3 (k4.symm.trans e1)
      · rw [if_neg h3]
        refine ⟨fun _ => h.bud hpre, ?_, fun p hp => ?_, h.up⟩
        · rw [cnt_add, if_neg h3]; exact h.len
        · obtain ⟨k1, x, k2, k3⟩ := h.ok p hp
          exact ⟨k1, x, by simp [k2], k3⟩
theorem ans_okt (s : ByteArray) (h : (ans s).err = 0) : Okt (ans s).tab.1 (ans s).tab.2 := by
  unfold ans at h ⊢
  by_cases h1 : 1000 < s.size
  · rw [if_pos h1] at h; simp at h
  · rw [if_neg h1] at h ⊢
    by_cases h2 : (rd s).err ≠ 0
    · rw [if_pos h2] at h; exact absurd h h2
    · rw [if_neg h2] at h ⊢
      by_cases h3 : (chE (rd s).lines).1 ≠ 0
      · rw [if_pos h3] at h; exact absurd h h3
      · rw [if_neg h3]
        have he : (rdC 0 [] (pieces s 10)).err = 0 := by simpa [rd] using h2
        obtain ⟨k1, k2⟩ := rdC_ok (pieces s 10) 0 [] ⟨by simp, by simp, by simp [cntC], List.Pairwise.nil, by simp⟩ he
        have k := fold_ok (rd s).lines k1.ok (rd s).lines [] (0, []) ⟨fun h => absurd rfl h, by simp [cntC], by simp, List.Pairwise.nil⟩ k1
        simp only [List.nil_append] at k
        show Okt (tabC (rd s).lines).1 (tabC (rd s).lines).2
        exact ⟨(k.bud k2).1, (k.bud k2).2, by have h1 := k.len; have h2 := k1.cnt; exact Nat.le_trans (Nat.le_of_eq h1) h2, fun p hp => (k.ok p hp).1, k.up⟩
end Lw
end Go.Proofs.YtohbonfngeblkaaGreat
namespace Go.Proofs.YtohbonfngeblkaaGreat
open Go.RowKit
namespace Lw
open Co
set_option maxRecDepth 20000 in
set_option maxHeartbeats 8000000 in
theorem gUnlike (b : Int) (ps : List Pl) (ss : List Srv) (ws : List Wtr) (ts : List Stp) (bg bk : Bool) (n1 n2 n3 n4 : Nat) (po : Option Addr) (pc : Nat) (so : Option Addr) (sc : Nat) (wo : Option Addr) (wc : Nat) (qo : Option Addr) (tc : Nat) (po' : Option Addr) (pc' : Nat) (so' : Option Addr) (sc' : Nat) (wo' : Option Addr) (wc' : Nat) (qo' : Option Addr) (tc' : Nat) (w : World)
    (hn : ps.length = n1 ∧ ss.length = n2 ∧ ws.length = n3 ∧ ts.length = n4) (hl : n1 ≤ maxLen ∧ n2 ≤ 1099511627776 ∧ n3 ≤ 1099511627776 ∧ n4 ≤ 1099511627776)
    (h1 : RowAt w (.slice po n1 pc) n1 (flatP ps) ∧ RowAt w (.slice so n2 sc) n2 (flatV ss) ∧ RowAt w (.slice wo n3 wc) n3 (flatW ws) ∧ RowAt w (.slice qo n4 tc) n4 (flatT ts))
    (h2 : RowAt w (.slice po' n1 pc') n1 (flatP ps) ∧ RowAt w (.slice so' n2 sc') n2 (flatV ss) ∧ RowAt w (.slice wo' n3 wc') n3 (flatW ws) ∧ RowAt w (.slice qo' n4 tc') n4 (flatT ts)) :
    Calls Tryz.prog 26 #[.agg #[.int .i64 b, .slice po n1 pc, .slice so n2 sc, .slice wo n3 wc, .slice qo n4 tc, .bool bg, .bool bk], .agg #[.int .i64 b, .slice po' n1 pc', .slice so' n2 sc', .slice wo' n3 wc', .slice qo' n4 tc', .bool bg, .bool bk]] w fun e w' => e = .returned (.bool false) ∧ Below w.heap.size w w' := by
  have HN := hideIt hn
  obtain ⟨W, hW⟩ : ∃ W, W = (w.alloc (.cells #[.int .i64 b, .slice po n1 pc, .slice so n2 sc, .slice wo n3 wc, .slice qo n4 tc, .bool bg, .bool bk] 33)).alloc (.cells #[.int .i64 b, .slice po' n1 pc', .slice so' n2 sc', .slice wo' n3 wc', .slice qo' n4 tc', .bool bg, .bool bk] 33) := ⟨_, rfl⟩
  have hB0 : Below w.heap.size w W := by rw [hW]; exact nx_trans (nx_alloc _ _) (nx_alloc _ _)
  have HG : Hid (W.heap[w.heap.size]? = some (.cells #[.int .i64 b, .slice po n1 pc, .slice so n2 sc, .slice wo n3 wc, .slice qo n4 tc, .bool bg, .bool bk] 33) ∧ W.heap[w.heap.size + 1]? = some (.cells #[.int .i64 b, .slice po' n1 pc', .slice so' n2 sc', .slice wo' n3 wc', .slice qo' n4 tc', .bool bg, .bool bk] 33) ∧ Below w.heap.size w W) := by
    refine ⟨?_, ?_, hB0⟩
    · rw [hW]; exact (heap_alloc_lt _ _ (by simp)).trans (heap_alloc_at _ _ rfl)
    · rw [hW]; exact heap_alloc_at _ _ (by simp)
  have H1 : Hid (RowAt W (.slice po n1 pc) n1 (flatP ps) ∧ RowAt W (.slice so n2 sc) n2 (flatV ss) ∧ RowAt W (.slice wo n3 wc) n3 (flatW ws) ∧ RowAt W (.slice qo n4 tc) n4 (flatT ts)) := ⟨h1.1.nx hB0, h1.2.1.nx hB0, h1.2.2.1.nx hB0, h1.2.2.2.nx hB0⟩
  have H2 : Hid (RowAt W (.slice po' n1 pc') n1 (flatP ps) ∧ RowAt W (.slice so' n2 sc') n2 (flatV ss) ∧ RowAt W (.slice wo' n3 wc') n3 (flatW ws) ∧ RowAt W (.slice qo' n4 tc') n4 (flatT ts)) := ⟨h2.1.nx hB0, h2.2.1.nx hB0, h2.2.2.1.nx hB0, h2.2.2.2.nx hB0⟩
  have HC := hideIt (ksame_true b po po' n1 pc pc' ps W H1.out.1 H2.out.1 hn.1 hl.1)
  have HW := hideIt hW
  obtain ⟨_, hl2, hl3, hl4⟩ := hl
  clear h1 h2 hn hB0 hW
  go_enter Tryz.func26, Tryz.ntmps26
  go_upto_region 1 with fail
  rw [← HW.out]
  obtain ⟨a0, a1, a2, a3, a4, a5, a6⟩ := gblk7 HG.out.1
  obtain ⟨b0, b1, b2, b3, b4, b5, b6⟩ := gblk7 HG.out.2.1
  go_wp2_with fail
  refine HC.out.mono ?_
  rintro e w1 ⟨rfl, hb1⟩
  have HB : Hid (Below W.heap.size W w1) := hb1
  clear a0 a1 a2 a3 a4 a5 a6 b0 b1 b2 b3 b4 b5 b6 hb1
  obtain ⟨a0, a1, a2, a3, a4, a5, a6⟩ := gblk7 (gblk HG.out.1 HB.out)
  obtain ⟨b0, b1, b2, b3, b4, b5, b6⟩ := gblk7 (gblk HG.out.2.1 HB.out)
  go_wp2_with fail
  clear a0 a1 a2 a3 a4 a5 a6 b0 b1 b2 b3 b4 b5 b6
  go_loopw [6] (fun i wr => ∃ k : Nat, k ≤ n2 ∧ i = .int .i64 k ∧ Hid (Below W.heap.size W wr)) (fun i _ => n2 - (intOf i).toNat)
  case atStart => exact ⟨0, Nat.zero_le _, rfl, HB.out⟩
  case round =>
    clear HB
    obtain ⟨k, hk, rfl, HB⟩ := hrel
    obtain ⟨a0, a1, a2, a3, a4, a5, a6⟩ := gblk7 (gblk HG.out.1 HB.out)
    obtain ⟨b0, b1, b2, b3, b4, b5, b6⟩ := gblk7 (gblk HG.out.2.1 HB.out)
    by_cases hlt : k < n2
    · obtain ⟨⟨x0, x1, x2, x3⟩, hp⟩ : ∃ p, ss[k]? = some p := ⟨_, List.getElem?_eq_getElem (by rw [HN.out.2.1]; exact hlt)⟩
      obtain ⟨bl, off, hao, hbl, c0, c1, c2, c3⟩ := sv_at (H1.out.2.1.nx HB.out) hp
      obtain ⟨bl', off', hao', hbl', d0, d1, d2, d3⟩ := sv_at (H2.out.2.1.nx HB.out) hp
      subst hao hao'
      clear hp hbl hbl'
      simp only at c0 c1 c2 c3 d0 d1 d2 d3
      have hlti : (k : Int) < (n2 : Int) := by omega
      go_wp2_with fail
      go_quiet (fail)
      clear a0 a1 a2 a3 a4 a5 a6 b0 b1 b2 b3 b4 b5 b6 c0 c1 c2 c3 d0 d1 d2 d3
      go_wp2_with fail
      go_roundw
      case rel => exact ⟨k + 1, by omega, by go_num, below_drewN HB.out _⟩
      case measure => simp [intOf]; omega
    · have hlti : ¬ (k : Int) < (n2 : Int) := by omega
      clear hk hlt
      go_wp2_with fail
      clear a0 a1 a2 a3 a4 a5 a6 b0 b1 b2 b3 b4 b5 b6 hlti
      go_loopw [7] (fun i wr => ∃ k : Nat, k ≤ n3 ∧ i = .int .i64 k ∧ Hid (Below W.heap.size W wr)) (fun i _ => n3 - (intOf i).toNat)
      case atStart => exact ⟨0, Nat.zero_le _, rfl, HB.out⟩
      case round =>
        clear HB
        obtain ⟨k, hk, rfl, HB⟩ := hrel
        obtain ⟨a0, a1, a2, a3, a4, a5, a6⟩ := gblk7 (gblk HG.out.1 HB.out)
        obtain ⟨b0, b1, b2, b3, b4, b5, b6⟩ := gblk7 (gblk HG.out.2.1 HB.out)
        by_cases hlt : k < n3
        · obtain ⟨⟨x0, x1⟩, hp⟩ : ∃ p, ws[k]? = some p := ⟨_, List.getElem?_eq_getElem (by rw [HN.out.2.2.1]; exact hlt)⟩
          obtain ⟨bl, off, hao, hbl, c0, c1⟩ := wt_at (H1.out.2.2.1.nx HB.out) hp
          obtain ⟨bl', off', hao', hbl', d0, d1⟩ := wt_at (H2.out.2.2.1.nx HB.out) hp
          subst hao hao'
          clear hp hbl hbl'
          simp only at c0 c1 d0 d1
          have hlti : (k : Int) < (n3 : Int) := by omega
          go_wp2_with fail
          go_quiet (fail)
          clear a0 a1 a2 a3 a4 a5 a6 b0 b1 b2 b3 b4 b5 b6 c0 c1 d0 d1
          go_wp2_with fail
          go_roundw
          case rel => exact ⟨k + 1, by omega, by go_num, below_drewN HB.out _⟩
          case measure => simp [intOf]; omega
        · have hlti : ¬ (k : Int) < (n3 : Int) := by omega
          clear hk hlt
          go_wp2_with fail
          clear a0 a1 a2 a3 a4 a5 a6 b0 b1 b2 b3 b4 b5 b6 hlti
          go_loopw [8] (fun i wr => ∃ k : Nat, k ≤ n4 ∧ i = .int .i64 k ∧ Hid (Below W.heap.size W wr)) (fun i _ => n4 - (intOf i).toNat)
          case atStart => exact ⟨0, Nat.zero_le _, rfl, HB.out⟩
          case round =>
            clear HB
            obtain ⟨k, hk, rfl, HB⟩ := hrel
            obtain ⟨a0, a1, a2, a3, a4, a5, a6⟩ := gblk7 (gblk HG.out.1 HB.out)
            obtain ⟨b0, b1, b2, b3, b4, b5, b6⟩ := gblk7 (gblk HG.out.2.1 HB.out)
            by_cases hlt : k < n4
            · obtain ⟨⟨x0, x1, x2⟩, hp⟩ : ∃ p, ts[k]? = some p := ⟨_, List.getElem?_eq_getElem (by rw [HN.out.2.2.2]; exact hlt)⟩
              obtain ⟨bl, off, hao, hbl, c0, c1, c2⟩ := st_at (H1.out.2.2.2.nx HB.out) hp
              obtain ⟨bl', off', hao', hbl', d0, d1, d2⟩ := st_at (H2.out.2.2.2.nx HB.out) hp
              subst hao hao'
              clear hp hbl hbl'
              simp only at c0 c1 c2 d0 d1 d2
              have hlti : (k : Int) < (n4 : Int) := by omega
              go_wp2_with fail
              go_quiet (fail)
              clear a0 a1 a2 a3 a4 a5 a6 b0 b1 b2 b3 b4 b5 b6 c0 c1 c2 d0 d1 d2
              go_wp2_with fail
              go_roundw
              case rel => exact ⟨k + 1, by omega, by go_num, below_drewN HB.out _⟩
              case measure => simp [intOf]; omega
            · have hlti : ¬ (k : Int) < (n4 : Int) := by omega
              clear hk hlt
              go_wp2_with fail
              go_ret
              exact ⟨rfl, nx_trans HG.out.2.2 HB.out⟩
end Lw
end Go.Proofs.YtohbonfngeblkaaGreat
