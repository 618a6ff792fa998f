import Derived.Test.YtohbonfngeblkaaGreatMnI
namespace Go.Proofs.YtohbonfngeblkaaGreat
open Go.RowKit
namespace Lw
open Co
structure Fine (S : Sta) (op : Int) : Prop where
  inv : Inv S op
  wc : ∀ y ∈ S.wts, 1 ≤ y.client ∧ y.client ≤ 99
  sc : ∀ x ∈ S.srv, 0 ≤ x.client ∧ x.client ≤ 99
  one : S.srv.Pairwise (fun a b => a.client = b.client → a.client = 0)
  sep : ∀ x ∈ S.srv, ∀ y ∈ S.wts, x.client ≠ y.client
  sur : ∀ x ∈ S.srv, x.client = 0 → isSur S x = false
theorem sur_no {S : Sta} {s : Srv} : isSur S s = false ↔ ∃ x, S.pools.find? (isNameP s.pool) = some x ∧ s.far = x.fr ∧ (cntG (isPoolV s.pool) S.srv : Int) ≤ x.sz ∧ (S.srv.length : Int) ≤ S.bud := by
  unfold isSur
  cases h : S.pools.find? (isNameP s.pool) with
  | none => simp
  | some x => simp [Int.not_lt, and_assoc]
theorem cnt_map {p : Srv → Bool} {f : Srv → Srv} (hf : ∀ x, p (f x) = p x) (l : List Srv) : cntG p (l.map f) = cntG p l := by
  unfold cntG
  rw [List.filter_map, List.length_map]
  congr 2
  funext x
  exact hf x
theorem cnt_sub {α : Type} {p : α → Bool} {l m : List α} (h : l.Sublist m) : cntG p l ≤ cntG p m := (h.filter p).length_le
theorem sur_less {S T : Sta} {s : Srv} (hp : T.pools = S.pools) (hb : T.bud = S.bud) (hc : cntG (isPoolV s.pool) T.srv ≤ cntG (isPoolV s.pool) S.srv) (hl : T.srv.length ≤ S.srv.length) (h : isSur S s = false) : isSur T s = false := by
  obtain ⟨x, h1, h2, h3, h4⟩ := sur_no.1 h
  exact sur_no.2 ⟨x, by rw [hp]; exact h1, h2, by omega, by rw [hb]; omega⟩
theorem isPool_of {p q : ByteArray} {x : Srv} (h : x.pool = q) : isPoolV p x = (q.toList == p.toList) := by unfold isPoolV; rw [h]
theorem bool_ne {b : Bool} (h : ¬ b = true) : b = false := by cases b <;> simp_all
structure Gvn (S T : Sta) (op op' : Int) (c : Wtr) : Prop where
  fine : Fine (cQuit T c.client) op'
  has : ∃ x ∈ T.srv, x.client = c.client
  keep : ∀ x ∈ S.srv, x.client ≠ 0 → x ∈ T.srv
  new : ∀ x ∈ T.srv, x.client ≠ 0 → x ∈ S.srv ∨ x.client = c.client
  rest : T.pools = S.pools ∧ T.bud = S.bud ∧ T.plan = S.plan ∧ T.begun = S.begun ∧ T.back = S.back
  wts : T.wts = S.wts
  op : op ≤ op' ∧ op' ≤ op + 1
  far : ∀ x ∈ T.srv, (∃ z ∈ S.srv, x.id = z.id ∧ x.pool = z.pool ∧ x.far = z.far) ∨ ∃ p, S.pools.find? (isNameP c.pool) = some p ∧ x.pool = p.nm ∧ x.far = p.fr
  cnt : ∀ nm, cntG (isPoolV nm) T.srv ≤ cntG (isPoolV nm) S.srv ∨ ∃ p, S.pools.find? (isNameP nm) = some p ∧ (cntG (isPoolV nm) T.srv : Int) ≤ p.sz
  len : T.srv.length ≤ S.srv.length ∨ (T.srv.length : Int) ≤ S.bud
theorem find_same {ps : List Pl} {n m : ByteArray} (h : n.toList = m.toList) : ps.find? (isNameP n) = ps.find? (isNameP m) := by
  have : isNameP n = isNameP m := by funext x; unfold isNameP; rw [h]
  rw [this]
theorem cnt_same {l : List Srv} {n m : ByteArray} (h : n.toList = m.toList) : cntG (isPoolV n) l = cntG (isPoolV m) l := by
  have : isPoolV n = isPoolV m := by funext x; unfold isPoolV; rw [h]
  rw [this]
theorem find_none' {α : Type} {p : α → Bool} {l : List α} (h : l.find? p = none) : ∀ x ∈ l, p x = false := by
  intro x hx
  have := List.find?_eq_none.1 h x hx
  exact bool_ne this
theorem opened_fine {S : Sta} {op : Int} (hF : Fine S op) {c : Wtr} (hc : c ∈ S.wts) {x : Pl} (hx : S.pools.find? (isNameP c.pool) = some x) (hi : ∀ s ∈ S.srv, (isPoolV x.nm s && isCliV 0 s) = false) {ss : List Srv} (hss : ss.Sublist S.srv) (hl : (ss.length : Int) + 1 ≤ S.bud)
    (hk : ∀ x ∈ S.srv, x.client ≠ 0 → x ∈ ss) (hz : (cntG (isPoolV x.nm) ss : Int) < x.sz) : Gvn S { S with srv := ss ++ [⟨op + 1, x.nm, x.fr, c.client⟩] } op (op + 1) c := by
  have hcc := hF.wc c hc
  have hnm := find_name hx
  have hcnt : ∀ s ∈ S.srv, s.client = 0 → cntG (isPoolV s.pool) (ss ++ [(⟨op + 1, x.nm, x.fr, c.client⟩ : Srv)]) ≤ cntG (isPoolV s.pool) S.srv := by
    intro s hs h0
    have h1 := hi s hs
    have h2 : isCliV 0 s = true := by unfold isCliV; simp [h0]
    rw [h2, Bool.and_true] at h1
    have h3 : isPoolV s.pool ⟨op + 1, x.nm, x.fr, c.client⟩ = false := by
      unfold isPoolV at h1 ⊢
      simp only at h1 ⊢
      exact bool_ne (fun h => by have := eq_of_beq h; rw [this] at h1; simp at h1)
    unfold cntG
    rw [List.filter_append, List.length_append]
    simp only [List.filter_cons, h3, Bool.false_eq_true, if_false, List.filter_nil, List.length_nil, Nat.add_zero]
    exact (hss.filter _).length_le
  refine ⟨⟨⟨?_, ?_, by have := hF.inv.op0; omega, hF.inv.cli.sublist List.filter_sublist⟩, ?_, ?_, ?_, ?_, ?_⟩, ⟨_, List.mem_append_right _ (List.mem_singleton.2 rfl), rfl⟩, fun y hy h0 => List.mem_append_left _ (hk y hy h0), ?_, ⟨rfl, rfl, rfl, rfl, rfl⟩, rfl, by omega, ?_, ?_, ?_⟩
  · show (ss ++ [_]).Pairwise _
    rw [List.pairwise_append]
    refine ⟨hF.inv.ids.sublist hss, by simp, fun a ha b hb => ?_⟩
    simp only [List.mem_singleton] at hb
    subst hb
    have := hF.inv.low a (hss.subset ha)
    show a.id < op + 1
    omega
  · intro y hy
    rcases List.mem_append.1 hy with hy | hy
    · have := hF.inv.low y (hss.subset hy); omega
    · simp only [List.mem_singleton] at hy; subst hy
      have := hF.inv.op0
      show 1 ≤ op + 1 ∧ op + 1 ≤ op + 1
      omega
  · exact fun y hy => hF.wc y (List.mem_filter.1 hy).1
  · intro y hy
    rcases List.mem_append.1 hy with hy | hy
    · exact hF.sc y (hss.subset hy)
    · simp only [List.mem_singleton] at hy; subst hy
      show 0 ≤ c.client ∧ c.client ≤ 99
      omega
  · show (ss ++ [_]).Pairwise _
    rw [List.pairwise_append]
    refine ⟨hF.one.sublist hss, by simp, fun a ha b hb h => ?_⟩
    simp only [List.mem_singleton] at hb
    subst hb
    exact absurd h (hF.sep a (hss.subset ha) c hc)
  · intro y hy z hz
    obtain ⟨hz1, hz2⟩ := List.mem_filter.1 hz
    rcases List.mem_append.1 hy with hy | hy
    · exact hF.sep y (hss.subset hy) z hz1
    · simp only [List.mem_singleton] at hy; subst hy
      intro h
      simp only [Bool.not_eq_true', decide_eq_false_iff_not] at hz2
      exact hz2 h.symm
  · intro y hy h0
    rcases List.mem_append.1 hy with hy | hy
    · obtain ⟨p, h1, h2, h3, h4⟩ := sur_no.1 (hF.sur y (hss.subset hy) h0)
      refine sur_no.2 ⟨p, h1, h2, ?_, ?_⟩
      · have := hcnt y (hss.subset hy) h0
        show ((cntG (isPoolV y.pool) (ss ++ [_]) : Nat) : Int) ≤ _
        omega
      · show (((ss ++ [_]).length : Nat) : Int) ≤ S.bud
        rw [List.length_append]
        simp only [List.length_singleton]
        omega
    · simp only [List.mem_singleton] at hy; subst hy
      have : c.client = 0 := h0
      omega
  · intro y hy _
    rcases List.mem_append.1 hy with hy | hy
    · exact .inl (hss.subset hy)
    · simp only [List.mem_singleton] at hy; subst hy; exact .inr rfl
  · intro y hy
    rcases List.mem_append.1 hy with hy | hy
    · exact .inl ⟨y, hss.subset hy, rfl, rfl, rfl⟩
    · simp only [List.mem_singleton] at hy; subst hy; exact .inr ⟨x, hx, rfl, rfl⟩
  · intro nm
    by_cases hn : x.nm.toList = nm.toList
    · right
      refine ⟨x, by rw [← find_same (show c.pool.toList = nm.toList by rw [← hnm]; exact hn)]; exact hx, ?_⟩
      show ((cntG (isPoolV nm) (ss ++ [_]) : Nat) : Int) ≤ _
      rw [cnt_same hn.symm]
      have h3 : cntG (isPoolV x.nm) (ss ++ [(⟨op + 1, x.nm, x.fr, c.client⟩ : Srv)]) ≤ cntG (isPoolV x.nm) ss + 1 := by
        unfold cntG
        rw [List.filter_append, List.length_append]
        have := List.length_filter_le (isPoolV x.nm) [(⟨op + 1, x.nm, x.fr, c.client⟩ : Srv)]
        simp only [List.length_singleton] at this
        omega
      omega
    · left
      show cntG (isPoolV nm) (ss ++ [_]) ≤ _
      unfold cntG
      rw [List.filter_append, List.length_append]
      have h3 : isPoolV nm ⟨op + 1, x.nm, x.fr, c.client⟩ = false := bool_ne (fun h => hn (eq_of_beq h))
      simp only [List.filter_cons, h3, Bool.false_eq_true, if_false, List.filter_nil, List.length_nil, Nat.add_zero]
      exact (hss.filter _).length_le
  · right
    show (((ss ++ [_]).length : Nat) : Int) ≤ S.bud
    rw [List.length_append]
    simp only [List.length_singleton]
    omega
theorem give_fine {S : Sta} {op : Int} (hF : Fine S op) {c : Wtr} (hc : c ∈ S.wts) {y : Sta × Int} (h : cGive S op c = some y) : Gvn S y.1 op y.2 c := by
  have hcc := hF.wc c hc
  unfold cGive at h
  cases hx : S.pools.find? (isNameP c.pool) with
  | none => rw [hx] at h; simp at h
  | some x =>
    rw [hx] at h
    simp only at h
    cases hs : S.srv.find? (fun s => isPoolV x.nm s && isCliV 0 s) with
    | some s =>
      rw [hs] at h
      simp only [Option.some.injEq] at h
      subst h
      have hsm := List.mem_of_find?_eq_some hs
      have hsp := List.find?_some hs
      simp only [Bool.and_eq_true] at hsp
      have hs0 : s.client = 0 := by have := hsp.2; unfold isCliV at this; exact eq_of_beq this
      have hfp : ∀ (p : ByteArray) (z : Srv), isPoolV p (if z.id = s.id then { z with client := c.client } else z) = isPoolV p z := by
        intro p z; split <;> rfl
      have hids : ∀ z ∈ S.srv, z.id = s.id → z = s := fun z hz e => by
        have hp := hF.inv.ids
        obtain ⟨i, hi, rfl⟩ := List.getElem_of_mem hz
        obtain ⟨j, hj, rfl⟩ := List.getElem_of_mem hsm
        rw [List.pairwise_iff_getElem] at hp
        rcases Nat.lt_trichotomy i j with h | h | h
        · have := hp i j hi hj h; omega
        · subst h; rfl
        · have := hp j i hj hi h; omega
      have hcl : ∀ a : Srv, (if a.id = s.id then { a with client := c.client } else a).client = if a.id = s.id then c.client else a.client := fun a => by split <;> rfl
      refine ⟨⟨⟨?_, ?_, hF.inv.op0, hF.inv.cli.sublist List.filter_sublist⟩, ?_, ?_, ?_, ?_, ?_⟩, ?_, ?_, ?_, ⟨rfl, rfl, rfl, rfl, rfl⟩, rfl, by simp only; omega, ?_, ?_, ?_⟩
      · show (S.srv.map _).Pairwise _
        rw [List.pairwise_map]
        refine hF.inv.ids.imp (fun {a b} hab => ?_)
        have e1 : ∀ a : Srv, (if a.id = s.id then { a with client := c.client } else a).id = a.id := fun a => by split <;> rfl
        rw [e1, e1]; exact hab
      · intro z hz
        obtain ⟨a, ha, rfl⟩ := List.mem_map.1 hz
        have e1 : (if a.id = s.id then { a with client := c.client } else a).id = a.id := by split <;> rfl
        rw [e1]; exact hF.inv.low a ha
      · exact fun z hz => hF.wc z (List.mem_filter.1 hz).1
      · intro z hz
        obtain ⟨a, ha, rfl⟩ := List.mem_map.1 hz
        rw [hcl]
        have := hF.sc a ha
        split <;> omega
      · show (S.srv.map _).Pairwise _
        rw [List.pairwise_map]
        refine (List.pairwise_iff_forall_sublist.2 (fun {a b} hab => ?_))
        have ha : a ∈ S.srv := hab.subset (by simp)
        have hb : b ∈ S.srv := hab.subset (by simp)
        have h1 : a.client = b.client → a.client = 0 := List.pairwise_iff_forall_sublist.1 hF.one hab
        have h2 : a.id < b.id := List.pairwise_iff_forall_sublist.1 hF.inv.ids hab
        rw [hcl, hcl]
        intro h
        by_cases e1 : a.id = s.id
        · have e2 : ¬ b.id = s.id := by omega
          rw [if_pos e1, if_neg e2] at h
          exact absurd h.symm (hF.sep b hb c hc)
        · rw [if_neg e1] at h ⊢
          by_cases e2 : b.id = s.id
          · rw [if_pos e2] at h
            exact absurd h (hF.sep a ha c hc)
          · rw [if_neg e2] at h
            exact h1 h
      · intro z hz v hv
        obtain ⟨hv1, hv2⟩ := List.mem_filter.1 hv
        simp only [Bool.not_eq_true', decide_eq_false_iff_not] at hv2
        obtain ⟨a, ha, rfl⟩ := List.mem_map.1 hz
        rw [hcl]
        split
        · exact fun h => hv2 h.symm
        · exact hF.sep a ha v hv1
      · intro z hz h0
        obtain ⟨a, ha, rfl⟩ := List.mem_map.1 hz
        rw [hcl] at h0
        have hne : ¬ a.id = s.id := fun e => by rw [if_pos e] at h0; omega
        rw [if_neg hne] at h0 ⊢
        refine sur_less (S := S) rfl rfl ?_ ?_ (hF.sur a ha h0)
        · exact Nat.le_of_eq (cnt_map (hfp _) _)
        · exact Nat.le_of_eq (by show (S.srv.map _).length = _; rw [List.length_map])
      · exact ⟨_, List.mem_map.2 ⟨s, hsm, rfl⟩, by rw [hcl, if_pos rfl]⟩
      · intro z hz h0
        refine List.mem_map.2 ⟨z, hz, if_neg (fun e => h0 ?_)⟩
        rw [hids z hz e]; exact hs0
      · intro z hz h0
        obtain ⟨a, ha, rfl⟩ := List.mem_map.1 hz
        by_cases e : a.id = s.id
        · right; rw [hcl, if_pos e]
        · left; rw [if_neg e]; exact ha
      · intro z hz
        obtain ⟨a, ha, rfl⟩ := List.mem_map.1 hz
        exact .inl ⟨a, ha, by split <;> rfl, by split <;> rfl, by split <;> rfl⟩
      · exact fun nm => .inl (Nat.le_of_eq (cnt_map (hfp _) _))
      · exact .inl (Nat.le_of_eq (by show (S.srv.map _).length = _; rw [List.length_map]))
    | none =>
      rw [hs] at h
      simp only at h
      by_cases hz : x.sz ≤ (cntG (isPoolV x.nm) S.srv : Int)
      · rw [if_pos hz] at h; simp at h
      · rw [if_neg hz] at h
        by_cases hb : (S.srv.length : Int) < S.bud
        · rw [if_pos hb] at h
          simp only [Option.some.injEq] at h
          subst h
          exact opened_fine hF hc hx (find_none' hs) (List.Sublist.refl _) (by omega) (fun _ h _ => h) (by omega)
        · rw [if_neg hb] at h
          cases hs2 : S.srv.find? (isCliV 0) with
          | none => rw [hs2] at h; simp at h
          | some s =>
            rw [hs2] at h
            simp only at h
            by_cases hbb : S.bud < (S.srv.length : Int)
            · rw [if_pos hbb] at h; simp at h
            · rw [if_neg hbb] at h
              simp only [Option.some.injEq] at h
              subst h
              have hsm := List.mem_of_find?_eq_some hs2
              have hs0 : s.client = 0 := by have := List.find?_some hs2; unfold isCliV at this; exact eq_of_beq this
              have hids : ∀ z ∈ S.srv, z.id = s.id → z = s := fun z hz e => by
                have hp := hF.inv.ids
                obtain ⟨i, hi, rfl⟩ := List.getElem_of_mem hz
                obtain ⟨j, hj, rfl⟩ := List.getElem_of_mem hsm
                rw [List.pairwise_iff_getElem] at hp
                rcases Nat.lt_trichotomy i j with h | h | h
                · have := hp i j hi hj h; omega
                · subst h; rfl
                · have := hp j i hj hi h; omega
              have hlt : (S.srv.filter fun x => !decide (x.id = s.id)).length < S.srv.length := by
                rw [List.length_filter_lt_length_iff_exists]
                exact ⟨s, hsm, by simp⟩
              refine opened_fine hF hc hx (find_none' hs) (ss := S.srv.filter fun x => !decide (x.id = s.id)) List.filter_sublist (by omega) (fun z hz h0 => List.mem_filter.2 ⟨hz, ?_⟩) ?_
              · simp only [Bool.not_eq_true', decide_eq_false_iff_not]
                exact fun e => h0 (by rw [hids z hz e]; exact hs0)
              · have := cnt_sub (p := isPoolV x.nm) (List.filter_sublist (p := fun x : Srv => !decide (x.id = s.id)) (l := S.srv))
                omega
theorem give_pool {S : Sta} {op : Int} {c d : Wtr} (h : c.pool = d.pool) : (cGive S op c).isSome = (cGive S op d).isSome := by
  unfold cGive
  rw [h]
  cases S.pools.find? (isNameP d.pool) with
  | none => rfl
  | some x =>
    simp only
    cases S.srv.find? (fun s => isPoolV x.nm s && isCliV 0 s) with
    | some s => rfl
    | none =>
      simp only
      split
      · rfl
      · split
        · rfl
        · cases S.srv.find? (isCliV 0) with
          | none => rfl
          | some s => simp only; split <;> rfl
theorem first_split {S : Sta} {op : Int} : ∀ {l : List Wtr} {y : Sta × Int}, cFirst S op l = some y → ∃ l1 c l2 z, l = l1 ++ c :: l2 ∧ (∀ d ∈ l1, cGive S op d = none) ∧ cGive S op c = some z ∧ y = (cQuit z.1 c.client, z.2)
  | [], y, h => by simp [cFirst] at h
  | c :: r, y, h => by
    rw [cFirst] at h
    cases hc : cGive S op c with
    | some z =>
      rw [hc] at h
      simp only [Option.some.injEq] at h
      exact ⟨[], c, r, z, rfl, by simp, hc, h.symm⟩
    | none =>
      rw [hc] at h
      obtain ⟨l1, d, l2, z, e, h1, h2, h3⟩ := first_split (l := r) h
      refine ⟨c :: l1, d, l2, z, by rw [e]; rfl, fun v hv => ?_, h2, h3⟩
      rcases List.mem_cons.1 hv with rfl | hv
      · exact hc
      · exact h1 v hv
theorem split_one {α : Type} : ∀ {l1 m1 l2 m2 : List α} {c : α}, l1 ++ c :: l2 = m1 ++ c :: m2 → c ∉ l1 → c ∉ m1 → l1 = m1
  | [], [], _, _, _, _, _, _ => rfl
  | [], y :: r, l2, m2, c, h, _, hm => by
    simp only [List.nil_append, List.cons_append, List.cons.injEq] at h
    exact absurd (by rw [h.1]; exact List.mem_cons_self) hm
  | x :: l, [], l2, m2, c, h, hl, _ => by
    simp only [List.nil_append, List.cons_append, List.cons.injEq] at h
    exact absurd (by rw [← h.1]; exact List.mem_cons_self) hl
  | x :: l, y :: r, l2, m2, c, h, hl, hm => by
    simp only [List.cons_append, List.cons.injEq] at h
    rw [h.1, split_one h.2 (fun hh => hl (List.mem_cons_of_mem _ hh)) (fun hh => hm (List.mem_cons_of_mem _ hh))]
structure Srvd (S T : Sta) (op op' : Int) : Prop where
  fine : Fine T op'
  keep : ∀ x ∈ S.srv, x.client ≠ 0 → x ∈ T.srv
  new : ∀ x ∈ T.srv, x.client ≠ 0 → x ∈ S.srv ∨ ∃ y ∈ S.wts, y.client = x.client
  sub : T.wts.Sublist S.wts
  gone : ∀ l1 w l2, S.wts = l1 ++ w :: l2 → w ∉ T.wts → (∃ x ∈ T.srv, x.client = w.client) ∧ ∀ v ∈ l1, v.pool = w.pool → v ∉ T.wts
  rest : T.pools = S.pools ∧ T.bud = S.bud ∧ T.plan = S.plan ∧ T.begun = S.begun ∧ T.back = S.back
  far : ∀ x ∈ T.srv, (∃ z ∈ S.srv, x.id = z.id ∧ x.pool = z.pool ∧ x.far = z.far) ∨ ∃ p ∈ S.pools, x.pool = p.nm ∧ x.far = p.fr
  cnt : ∀ nm, cntG (isPoolV nm) T.srv ≤ cntG (isPoolV nm) S.srv ∨ ∃ p, S.pools.find? (isNameP nm) = some p ∧ (cntG (isPoolV nm) T.srv : Int) ≤ p.sz
  len : T.srv.length ≤ S.srv.length ∨ (T.srv.length : Int) ≤ S.bud
theorem Srvd.refl {S : Sta} {op : Int} (h : Fine S op) : Srvd S S op op :=
  ⟨h, fun _ hx _ => hx, fun _ hx _ => .inl hx, List.Sublist.refl _, fun l1 w l2 e hn => absurd (by rw [e]; simp) hn, ⟨rfl, rfl, rfl, rfl, rfl⟩, fun x hx => .inl ⟨x, hx, rfl, rfl, rfl⟩, fun _ => .inl (Nat.le_refl _), .inl (Nat.le_refl _)⟩
theorem cli_same {l : List Wtr} (h : l.Pairwise (fun a b => a.client ≠ b.client)) {a b : Wtr} (ha : a ∈ l) (hb : b ∈ l) (e : a.client = b.client) : a = b := by
  obtain ⟨i, hi, rfl⟩ := List.getElem_of_mem ha
  obtain ⟨j, hj, rfl⟩ := List.getElem_of_mem hb
  rw [List.pairwise_iff_getElem] at h
  rcases Nat.lt_trichotomy i j with hij | hij | hij
  · exact absurd e (h i j hi hj hij)
  · subst hij; rfl
  · exact absurd e.symm (h j i hj hi hij)
theorem serve_fine : ∀ (f : Nat) (S : Sta) (op : Int), Fine S op → Srvd S (cServe f S op).1 op (cServe f S op).2
  | 0, S, op, h => Srvd.refl h
  | f + 1, S, op, hF => by
    rw [cServe]
    cases hc : cFirst S op S.wts with
    | none => exact Srvd.refl hF
    | some y =>
      obtain ⟨l1, c, l2, z, hl, hno, hg, rfl⟩ := first_split hc
      simp only
      have hcm : c ∈ S.wts := by rw [hl]; simp
      have G := give_fine hF hcm hg
      have hw : (cQuit z.1 c.client).wts = S.wts.filter (fun x => !decide (x.client = c.client)) := by show z.1.wts.filter _ = _; rw [G.wts]
      have ih := serve_fine f (cQuit z.1 c.client) z.2 G.fine
      have hT : ∀ v ∈ (cServe f (cQuit z.1 c.client) z.2).1.wts, v.client ≠ c.client := fun v hv => by
        have := ih.sub.subset hv
        rw [hw] at this
        have := (List.mem_filter.1 this).2
        simpa using this
      refine ⟨ih.fine, fun x hx h0 => ih.keep x (G.keep x hx h0) h0, fun x hx h0 => ?_, ih.sub.trans (by rw [hw]; exact List.filter_sublist), fun m1 w m2 e hn => ?_, ⟨ih.rest.1.trans G.rest.1, ih.rest.2.1.trans G.rest.2.1, ih.rest.2.2.1.trans G.rest.2.2.1, ih.rest.2.2.2.1.trans G.rest.2.2.2.1, ih.rest.2.2.2.2.trans G.rest.2.2.2.2⟩, fun x hx => ?_, fun nm => ?_, ?_⟩
      · rcases ih.new x hx h0 with h | ⟨y, hy, e⟩
        · rcases G.new x h h0 with h | h
          · exact .inl h
          · exact .inr ⟨c, hcm, h.symm⟩
        · rw [hw] at hy
          exact .inr ⟨y, (List.mem_filter.1 hy).1, e⟩
      · by_cases hwc : w.client = c.client
        · have hwe : w = c := cli_same hF.inv.cli (by rw [e]; simp) hcm hwc
          subst hwe
          obtain ⟨x, hx, hx2⟩ := G.has
          have hnd : ∀ {a1 a2 : List Wtr}, S.wts = a1 ++ w :: a2 → w ∉ a1 := fun {a1 a2} ha hm => by
            have hp := hF.inv.cli
            rw [ha, List.pairwise_append] at hp
            exact hp.2.2 w hm w List.mem_cons_self rfl
          have hm : m1 = l1 := split_one (e.symm.trans hl) (hnd e) (hnd hl)
          refine ⟨⟨x, ih.keep x hx (by have := hF.wc w hcm; omega), hx2⟩, fun v hv hp => ?_⟩
          rw [hm] at hv
          have h1 := give_pool (S := S) (op := op) hp
          rw [hno v hv, hg] at h1
          simp at h1
        · have hsplit : (cQuit z.1 c.client).wts = m1.filter (fun x => !decide (x.client = c.client)) ++ w :: m2.filter (fun x => !decide (x.client = c.client)) := by
            rw [hw, e, List.filter_append, List.filter_cons, if_pos (by simpa using hwc)]
          obtain ⟨h1, h2⟩ := ih.gone _ w _ hsplit hn
          refine ⟨h1, fun v hv hp hvT => ?_⟩
          exact h2 v (List.mem_filter.2 ⟨hv, by simpa using hT v hvT⟩) hp hvT
      · rcases ih.far x hx with ⟨a, ha, e1, e2, e3⟩ | ⟨p, hp, h⟩
        · rcases G.far a ha with ⟨b, hb, f1, f2, f3⟩ | ⟨p, hp, h1, h2⟩
          · exact .inl ⟨b, hb, e1.trans f1, e2.trans f2, e3.trans f3⟩
          · exact .inr ⟨p, List.mem_of_find?_eq_some hp, e2.trans h1, e3.trans h2⟩
        · exact .inr ⟨p, by rw [← G.rest.1]; exact hp, h⟩
      · rcases ih.cnt nm with h | ⟨p, hp, h⟩
        · rcases G.cnt nm with h' | ⟨p, hp, h'⟩
          · exact .inl (Nat.le_trans h h')
          · exact .inr ⟨p, hp, by have : cntG (isPoolV nm) (cQuit z.1 c.client).srv = cntG (isPoolV nm) z.1.srv := rfl
                                  omega⟩
        · exact .inr ⟨p, by rw [← G.rest.1]; exact hp, h⟩
      · have hb : (cQuit z.1 c.client).bud = S.bud := G.rest.2.1
        have hl2 : (cQuit z.1 c.client).srv.length = z.1.srv.length := rfl
        rcases ih.len with h | h
        · rcases G.len with h' | h'
          · exact .inl (by omega)
          · exact .inr (by omega)
        · exact .inr (by omega)
end Lw
end Go.Proofs.YtohbonfngeblkaaGreat
