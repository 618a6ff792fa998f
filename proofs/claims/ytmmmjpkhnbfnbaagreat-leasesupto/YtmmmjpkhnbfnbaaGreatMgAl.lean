import Derived.Test.YtmmmjpkhnbfnbaaGreatMgAk
namespace Go.Proofs.YtmmmjpkhnbfnbaaGreat
open Go.RowKit
namespace Co

/-- chains that end, and such as do not -/
theorem chC_none {L : List Ln} {f : Nat} {nm : ByteArray} (h : findC L 2 nm = none) : chC L f nm = [] := by
  cases f with
  | zero => rfl
  | succ f => rw [chC, h]
theorem chC_some {L : List Ln} {f : Nat} {nm : ByteArray} {p : Ln} (h : findC L 2 nm = some p) : chC L (f + 1) nm = p :: chC L f p.frm := by rw [chC, h]
theorem chC_take (L : List Ln) : ∀ (f f2 : Nat) (nm : ByteArray), f ≤ f2 → chC L f nm = (chC L f2 nm).take f
  | 0, f2, nm, _ => by simp [chC]
  | f + 1, 0, nm, h => by omega
  | f + 1, f2 + 1, nm, h => by
    cases hf : findC L 2 nm with
    | none => rw [chC_none hf, chC_none hf]; rfl
    | some p => rw [chC_some hf, chC_some hf, chC_take L f f2 p.frm (by omega)]; rfl
theorem chC_len (L : List Ln) (f : Nat) (nm : ByteArray) : (chC L f nm).length ≤ f := by
  rw [chC_take L f f nm (Nat.le_refl _)]; simp; omega
theorem chC_mono (L : List Ln) {f f2 : Nat} (nm : ByteArray) (h : f ≤ f2) : (chC L f nm).length ≤ (chC L f2 nm).length := by
  rw [chC_take L f f2 nm h]; simp; omega
theorem chC_stable (L : List Ln) : ∀ (f f2 : Nat) (nm : ByteArray), (chC L f nm).length < f → f ≤ f2 → chC L f2 nm = chC L f nm
  | 0, f2, nm, h, _ => by omega
  | f + 1, 0, nm, _, h => by omega
  | f + 1, f2 + 1, nm, h, h2 => by
    cases hf : findC L 2 nm with
    | none => rw [chC_none hf, chC_none hf]
    | some p =>
      rw [chC_some hf] at h ⊢
      rw [chC_some hf, chC_stable L f f2 p.frm (by simpa using h) (by omega)]
theorem chC_mem (L : List Ln) : ∀ (f : Nat) (nm : ByteArray), ∀ p ∈ chC L f nm, p ∈ L.filter (fun l => l.kind == 2)
  | 0, _, p, h => by simp [chC] at h
  | f + 1, nm, p, h => by
    cases hf : findC L 2 nm with
    | none => rw [chC_none hf] at h; simp at h
    | some q =>
      rw [chC_some hf] at h
      rcases List.mem_cons.1 h with h | h
      · subst h
        have h1 := List.mem_of_find?_eq_some hf
        have h2 := List.find?_some hf
        simp only [Bool.and_eq_true] at h2
        exact List.mem_filter.2 ⟨h1, h2.1⟩
      · exact chC_mem L f q.frm p h
theorem chC_falls (L : List Ln) (N : Nat) : ∀ (f : Nat) (nm : ByteArray), f ≤ N → (chC L f nm).length < f →
    (chC L f nm).Pairwise (fun a b => (chC L N b.frm).length < (chC L N a.frm).length) ∧ ∀ x ∈ chC L f nm, (chC L N x.frm).length < (chC L f nm).length
  | 0, nm, _, h => by omega
  | f + 1, nm, hN, h => by
    cases hf : findC L 2 nm with
    | none => rw [chC_none hf]; simp
    | some p =>
      rw [chC_some hf] at h ⊢
      have hl : (chC L f p.frm).length < f := by simpa using h
      obtain ⟨i1, i2⟩ := chC_falls L N f p.frm (by omega) hl
      have e : chC L N p.frm = chC L f p.frm := chC_stable L f N p.frm hl (by omega)
      refine ⟨List.pairwise_cons.2 ⟨fun x hx => by rw [e]; exact i2 x hx, i1⟩, fun x hx => ?_⟩
      rcases List.mem_cons.1 hx with h | h
      · rw [h, e]; simp
      · have := i2 x h
        simp; omega
theorem nodup_le {α : Type} : ∀ (l B : List α), l.Pairwise (fun a b => a ≠ b) → (∀ x ∈ l, x ∈ B) → l.length ≤ B.length := by
  classical
  intro l
  induction l with
  | nil => intro B _ _; simp
  | cons a r ih =>
    intro B hp hs
    obtain ⟨h1, h2⟩ := List.pairwise_cons.1 hp
    have ha : a ∈ B := hs a List.mem_cons_self
    have := ih (B.erase a) h2 (fun x hx => (List.mem_erase_of_ne (fun e => h1 x hx e.symm)).2 (hs x (List.mem_cons_of_mem _ hx)))
    rw [List.length_erase_of_mem ha] at this
    have hpos : 0 < B.length := List.length_pos_of_mem ha
    simp; omega
theorem chC_ends (L : List Ln) (f : Nat) (nm : ByteArray) (h : (chC L f nm).length < f) : (chC L f nm).length ≤ cntC L 2 := by
  refine nodup_le _ (L.filter fun l => l.kind == 2) ?_ (chC_mem L f nm)
  refine (chC_falls L f f nm (Nat.le_refl _) h).1.imp ?_
  intro a b hab e
  rw [e] at hab
  omega
theorem cnt_le (L : List Ln) : cntC L 2 ≤ L.length := List.length_filter_le _ _
theorem endless_iff (L : List Ln) (h6 : cntC L 2 ≤ 6) (nm : ByteArray) : 6 < (chC L 7 nm).length ↔ L.length < (chC L (L.length + 1) nm).length := by
  have hc := cnt_le L
  constructor
  · intro h
    by_cases hx : (chC L (L.length + 1) nm).length < L.length + 1
    · have h1 := chC_ends L _ nm hx
      have h2 : chC L (max 7 (L.length + 1)) nm = chC L (L.length + 1) nm := chC_stable L _ _ nm hx (by omega)
      have h3 := chC_mono L (f := 7) (f2 := max 7 (L.length + 1)) nm (by omega)
      rw [h2] at h3
      omega
    · omega
  · intro h
    by_cases hx : (chC L 7 nm).length < 7
    · have h1 := chC_ends L _ nm hx
      have h2 : chC L (max 7 (L.length + 1)) nm = chC L 7 nm := chC_stable L _ _ nm hx (by omega)
      have h3 := chC_mono L (f := L.length + 1) (f2 := max 7 (L.length + 1)) nm (by omega)
      rw [h2] at h3
      omega
    · omega
theorem ended_eq (L : List Ln) (nm : ByteArray) (h : ¬ 6 < (chC L 7 nm).length) : chC L L.length nm = chC L 7 nm := by
  have hc := cnt_le L
  have h1 := chC_ends L 7 nm (by omega)
  by_cases hn : 7 ≤ L.length
  · exact chC_stable L _ _ nm (by omega) hn
  · rw [chC_take L L.length 7 nm (by omega)]
    exact List.take_of_length_le (by omega)

/-- by lines and by indices -/
def NmB (L : List Ln) : Prop := ∀ l ∈ L, l.kind = 2 → isNm l.name = true
theorem find_empty {L : List Ln} (hn : NmB L) {nm : ByteArray} (he : nm.toList.isEmpty = true) : findC L 2 nm = none := by
  unfold findC
  rw [List.find?_eq_none]
  intro l hl hc
  simp only [Bool.and_eq_true, beq_iff_eq] at hc
  have h1 := hn l hl hc.1
  have h2 := lt_empty l.name h1
  have e : l.name.toList = [] := by
    rw [hc.2]
    simpa using he
  unfold lt at h2
  rw [e] at h2
  have e0 : (ByteArray.mk #[]).toList = [] := ByteArray.toList_mk []
  rw [e0] at h2
  simp [Op.bytesLess] at h2
theorem chI_map {L : List Ln} (hb : AllB L) (hn : NmB L) : ∀ (f k : Nat) (l : Ln), L[k]? = some l → (chI L f k).map (fun j => L[j]?) = (chC L f l.frm).map some
  | 0, _, _, _ => by simp [chI, chC]
  | f + 1, k, l, hl => by
    cases he : l.frm.toList.isEmpty
    · obtain ⟨j, l', h1, h2, h3, _⟩ := next_at hb hl he
      rw [chI_go hl he h3, chC_some h1, List.map_cons, List.map_cons, h2, chI_map hb hn f j l' h2]
    · rw [chI_stop hl he, chC_none (find_empty hn he)]; rfl
theorem chI_length {L : List Ln} (hb : AllB L) (hn : NmB L) {f k : Nat} {l : Ln} (hl : L[k]? = some l) : (chI L f k).length = (chC L f l.frm).length := by
  have := congrArg List.length (chI_map hb hn f k l hl)
  simpa using this

theorem lon_loop {L : List Ln} (hb : AllB L) (hn : NmB L) (h6 : cntC L 2 ≤ 6) (hp : ∀ l ∈ L, 0 < l.place) : ∀ (R : List Ln) (k : Nat), L.drop k = R →
    (∀ p, lonI L (L.length + 1) L.length k R = some p → lonC L 6 R = p ∧ 0 < p) ∧ (lonI L (L.length + 1) L.length k R = none → lonC L 6 R = 0 ∧ ∀ l ∈ R, ¬ 6 < (chC L 7 l.frm).length)
  | [], k, _ => ⟨by simp [lonI], fun _ => ⟨rfl, by simp⟩⟩
  | l :: r, k, hd => by
    have hk : L[k]? = some l := by
      have := congrArg (fun x => x[0]?) hd
      simpa using this
    have hr : L.drop (k + 1) = r := by
      have := drop_at hk
      rw [hd] at this
      simpa using this.symm
    obtain ⟨i1, i2⟩ := lon_loop hb hn h6 hp r (k + 1) hr
    rw [lonI, lonC, chI_length hb hn hk]
    have hiff := endless_iff L h6 l.frm
    by_cases hx : 6 < (chC L 7 l.frm).length
    · rw [if_pos (hiff.1 hx), if_pos hx]
      refine ⟨fun p h => ?_, fun h => by cases h⟩
      cases h
      exact ⟨rfl, hp l (List.mem_of_getElem? hk)⟩
    · rw [if_neg (fun h => hx (hiff.2 h)), if_neg hx]
      refine ⟨i1, fun h => ⟨(i2 h).1, fun x hxm => ?_⟩⟩
      rcases List.mem_cons.1 hxm with e | e
      · rw [e]; exact hx
      · exact (i2 h).2 x e
theorem lon_deep {L : List Ln} (hb : AllB L) (hn : NmB L) (hp : ∀ l ∈ L, 0 < l.place) (hend : ∀ l ∈ L, ¬ 6 < (chC L 7 l.frm).length) : ∀ (R : List Ln) (k : Nat), L.drop k = R →
    (∀ p, lonI L L.length 3 k R = some p → lonC L 3 R = p ∧ 0 < p) ∧ (lonI L L.length 3 k R = none → lonC L 3 R = 0)
  | [], k, _ => ⟨by simp [lonI], fun _ => rfl⟩
  | l :: r, k, hd => by
    have hk : L[k]? = some l := by
      have := congrArg (fun x => x[0]?) hd
      simpa using this
    have hr : L.drop (k + 1) = r := by
      have := drop_at hk
      rw [hd] at this
      simpa using this.symm
    obtain ⟨i1, i2⟩ := lon_deep hb hn hp hend r (k + 1) hr
    rw [lonI, lonC, chI_length hb hn hk, ended_eq L l.frm (hend l (List.mem_of_getElem? hk))]
    by_cases hx : 3 < (chC L 7 l.frm).length
    · rw [if_pos hx, if_pos hx]
      refine ⟨fun p h => ?_, fun h => by cases h⟩
      cases h
      exact ⟨rfl, hp l (List.mem_of_getElem? hk)⟩
    · rw [if_neg hx, if_neg hx]
      exact ⟨i1, i2⟩
theorem chE_eq {L : List Ln} (hn : NmB L) (h6 : cntC L 2 ≤ 6) (hp : ∀ l ∈ L, 0 < l.place) : chER L = chE L ∧ ((chE L).1 = 0 → AllB L ∧ ∀ l ∈ L, ¬ 6 < (chC L 7 l.frm).length) := by
  unfold chER chE
  cases hno : noC L L with
  | some k => exact ⟨rfl, fun h => by simp at h⟩
  | none =>
    have hb : AllB L := noC_all L L hno
    obtain ⟨a1, a2⟩ := lon_loop hb hn h6 hp L 0 rfl
    simp only
    cases hl : lonI L (L.length + 1) L.length 0 L with
    | some p =>
      obtain ⟨e, hpos⟩ := a1 p hl
      simp only
      rw [e, if_pos hpos]
      exact ⟨rfl, fun h => by simp at h⟩
    | none =>
      obtain ⟨e, hend⟩ := a2 hl
      obtain ⟨b1, b2⟩ := lon_deep hb hn hp hend L 0 rfl
      simp only
      rw [e, if_neg (by omega)]
      cases hd : lonI L L.length 3 0 L with
      | some p =>
        obtain ⟨e3, hpos⟩ := b1 p hd
        simp only
        rw [e3, if_pos hpos]
        exact ⟨rfl, fun h => by simp at h⟩
      | none =>
        simp only
        rw [b2 hd, if_neg (by omega)]
        exact ⟨rfl, fun _ => ⟨hb, hend⟩⟩
end Co
end Go.Proofs.YtmmmjpkhnbfnbaaGreat
namespace Go.Proofs.YtmmmjpkhnbfnbaaGreat
open Go.RowKit
namespace Co

/-- what holds of the lines that were read -/
def Inv (acc : List Ln) : Prop := (∀ l ∈ acc, OkL l ∧ 0 < l.place) ∧ cntC acc 2 ≤ 6 ∧ ∀ (i : Nat) (l : Ln), acc[i]? = some l → (i = 0 ↔ l.kind = 1)
theorem cntC_append (a b : List Ln) (k : Nat) : cntC (a ++ b) k = cntC a k + cntC b k := by simp [cntC]
theorem fault0 {acc : List Ln} {l : Ln} (h : faultC acc l = 0) : (acc.length = 0 ↔ l.kind = 1) ∧ (l.kind = 2 → cntC acc 2 < 6) := by
  unfold faultC at h
  split at h
  · cases h
  · rename_i h1
    split at h
    · cases h
    · split at h
      · cases h
      · rename_i h3
        refine ⟨?_, fun hk => ?_⟩
        · simp only [bne_iff_ne, ne_eq, Decidable.not_not, decide_eq_decide] at h1
          exact h1
        · unfold manyC at h3
          rw [if_pos (.inl hk), hk] at h3
          simp at h3
          omega
theorem Inv.snoc {acc : List Ln} {l : Ln} (h : Inv acc) (hok : OkL l) (hf : faultC acc l = 0) (p : Nat) : Inv (acc ++ [{ l with place := p + 1 }]) := by
  obtain ⟨f1, f2⟩ := fault0 hf
  refine ⟨fun x hx => ?_, ?_, fun i x hx => ?_⟩
  · rcases List.mem_append.1 hx with h1 | h1
    · exact h.1 x h1
    · simp at h1
      subst h1
      exact ⟨hok, by simp⟩
  · rw [cntC_append]
    by_cases hk : l.kind = 2
    · have := f2 hk
      have e : cntC [{ l with place := p + 1 }] 2 ≤ 1 := List.length_filter_le _ _
      omega
    · have e : cntC [{ l with place := p + 1 }] 2 = 0 := by simp [cntC, hk]
      have := h.2.1
      omega
  · by_cases hi : i < acc.length
    · rw [List.getElem?_append_left hi] at hx
      exact h.2.2 i x hx
    · rw [List.getElem?_append_right (by omega)] at hx
      have h0 : i - acc.length = 0 := by
        have := (List.getElem?_eq_some_iff.1 hx).1
        simp at this
        omega
      rw [h0] at hx
      simp at hx
      subst hx
      simp only
      rw [← f1]
      omega
theorem rdC_inv : ∀ (ps : List ByteArray) (i : Nat) (acc : List Ln), Inv acc → (rdC i acc ps).err = 0 → Inv (rdC i acc ps).lines
  | [], i, acc, h, he => by
    rw [rdC] at he ⊢
    split
    · rename_i h0; rw [if_pos h0] at he; cases he
    · exact h
  | p :: r, i, acc, h, he => by
    rw [rdC] at he ⊢
    split
    · rename_i h0; rw [if_pos h0] at he; exact rdC_inv r _ _ h he
    · rename_i h0
      rw [if_neg h0] at he
      cases hp : parseF (flds p) with
      | none => rw [hp] at he; cases he
      | some l =>
        rw [hp] at he
        simp only at he ⊢
        by_cases hf : faultC acc l = 0
        · rw [if_pos hf] at he ⊢
          exact rdC_inv r _ _ (h.snoc (parseF_ok hp) hf i) he
        · rw [if_neg hf] at he
          exact absurd he hf
theorem rd_inv (s : ByteArray) (h : (rd s).err = 0) : Inv (rd s).lines := rdC_inv _ _ _ ⟨by simp, by simp [cntC], by simp⟩ h
theorem Inv.nmB {L : List Ln} (h : Inv L) : NmB L := by
  intro l hl hk
  rcases (h.1 l hl).1 with ⟨h1, _⟩ | ⟨_, h2, _⟩
  · omega
  · exact h2

/-- values by indices are values by lines -/
theorem fK_valL : ∀ (ss : List (Nat × Nat)) (key : Nat), (∀ p ∈ ss, p.1 ≤ 2) → key ≤ 2 → fK ss key = valL ss key
  | [], _, _, _ => rfl
  | (a, b) :: r, key, h, hk => by
    have ih := fK_valL r key (fun p hp => h p (List.mem_cons_of_mem _ hp)) hk
    have ha : a ≤ 2 := h (a, b) List.mem_cons_self
    unfold fK valL at ih ⊢
    rw [List.find?_cons, List.find?_cons]
    by_cases he : a = key
    · subst he; simp
    · have h1 : (a == key) = false := by simpa using he
      have h2 : ((wordB a).toList == (wordB key).toList) = false := by
        rw [beq_eq_false_iff_ne]
        intro e
        exact he ((wordB_inj ha hk).1 e)
      simp only [h1, h2]
      exact ih
theorem fK_pairs {l : Ln} (hok : OkL l) (hk : l.kind ≠ 1) {key : Nat} (hkey : key ≤ 2) : fK (pairsOf l) key = valL l.sets key := by
  rcases hok with ⟨h, _⟩ | ⟨_, _, h⟩
  · exact absurd h hk
  · rw [pairsOf, if_neg hk]; exact fK_valL _ _ h hkey
theorem vI_map {L : List Ln} {key : Nat} (hkey : key ≤ 2) : ∀ (js : List Nat) (R : List Ln), js.map (fun j => L[j]?) = R.map some → (∀ l ∈ R, OkL l ∧ l.kind ≠ 1) → vI L key js = chvC key (plainN key) R
  | [], [], _, _ => rfl
  | [], l :: r, h, _ => by simp at h
  | j :: js, [], h, _ => by simp at h
  | j :: js, l :: r, h, hr => by
    simp only [List.map_cons, List.cons.injEq] at h
    have ih := vI_map hkey js r h.2 (fun x hx => hr x (List.mem_cons_of_mem _ hx))
    obtain ⟨hok, hk⟩ := hr l List.mem_cons_self
    rw [vI, chvC, h.1, ih]
    simp only [Option.bind_some]
    rw [fK_pairs hok hk hkey]
    cases valL l.sets key <;> rfl
theorem value_eq {L : List Ln} (hi : Inv L) (hb : AllB L) (hend : ∀ l ∈ L, ¬ 6 < (chC L 7 l.frm).length) {k : Nat} {l : Ln} (hk : L[k]? = some l) (h3 : l.kind = 3) {key : Nat} (hkey : key ≤ 2) :
    vI L key (k :: chI L L.length k) = valC key (plainN key) l.sets (chC L 7 l.frm) := by
  have hm := List.mem_of_getElem? hk
  rw [vI_map hkey (k :: chI L L.length k) (l :: chC L 7 l.frm)]
  · rfl
  · rw [List.map_cons, List.map_cons, hk, chI_map hb hi.nmB L.length k l hk, ended_eq L l.frm (hend l hm)]
  · intro x hx
    rcases List.mem_cons.1 hx with h | h
    · subst h; exact ⟨(hi.1 x hm).1, by omega⟩
    · have h1 := List.mem_filter.1 (chC_mem L 7 l.frm x h)
      have h2 : x.kind = 2 := by simpa using h1.2
      exact ⟨(hi.1 x h1.1).1, by omega⟩

/-- the reference's table -/
def plR (L : List Ln) (k : Nat) (l : Ln) : Pl :=
  ⟨l.name, vI L 0 (k :: chI L L.length k), vI L 1 (k :: chI L L.length k), vI L 2 (k :: chI L L.length k)⟩
def foldR (L : List Ln) : Nat → List Ln → List Pl → List Pl
  | _, [], ps => ps
  | k, l :: r, ps => foldR L (k + 1) r (if l.kind = 3 then insP (plR L k l) ps else ps)
theorem plR_eq {L : List Ln} (hi : Inv L) (hb : AllB L) (hend : ∀ l ∈ L, ¬ 6 < (chC L 7 l.frm).length) {k : Nat} {l : Ln} (hk : L[k]? = some l) (h3 : l.kind = 3) : plR L k l = plC L l := by
  unfold plR plC
  rw [value_eq hi hb hend hk h3 (by omega), value_eq hi hb hend hk h3 (by omega), value_eq hi hb hend hk h3 (by omega)]
  rfl
theorem fold_eq {L : List Ln} (hi : Inv L) (hb : AllB L) (hend : ∀ l ∈ L, ¬ 6 < (chC L 7 l.frm).length) : ∀ (R : List Ln) (k : Nat) (b : Int) (ps : List Pl), L.drop (k + 1) = R → R.foldl (stC L) (b, ps) = (b, foldR L (k + 1) R ps)
  | [], k, b, ps, _ => rfl
  | l :: r, k, b, ps, hd => by
    have hk : L[k + 1]? = some l := by
      have := congrArg (fun x => x[0]?) hd
      simpa using this
    have hr : L.drop (k + 1 + 1) = r := by
      have := drop_at hk
      rw [hd] at this
      simpa using this.symm
    have h1 : ¬ l.kind = 1 := by
      intro e
      have := (hi.2.2 (k + 1) l hk).2 e
      omega
    rw [List.foldl_cons, foldR, stC, if_neg h1]
    by_cases h3 : l.kind = 3
    · rw [if_pos h3, if_pos h3, plR_eq hi hb hend hk h3]
      exact fold_eq hi hb hend r (k + 1) b _ hr
    · rw [if_neg h3, if_neg h3]
      exact fold_eq hi hb hend r (k + 1) b ps hr
/-- the first line's first number -/
def bud0 (L : List Ln) : Nat := match L with | l :: _ => (match l.sets with | p :: _ => p.2 | [] => 0) | [] => 0
theorem tab_eq {L : List Ln} (hi : Inv L) (hb : AllB L) (hend : ∀ l ∈ L, ¬ 6 < (chC L 7 l.frm).length) (h0 : 0 < L.length) : tabC L = ((bud0 L : Int), foldR L 0 L []) := by
  obtain ⟨l, r, hl⟩ : ∃ l r, L = l :: r := by
    match L, h0 with
    | l :: r, _ => exact ⟨l, r, rfl⟩
  have hk : L[0]? = some l := by rw [hl]; rfl
  have h1 : l.kind = 1 := (hi.2.2 0 l hk).1 rfl
  have hr : L.drop (0 + 1) = r := by rw [hl]; rfl
  obtain ⟨n, hs⟩ : ∃ n, l.sets = [(3, n)] := by
    rcases (hi.1 l (List.mem_of_getElem? hk)).1 with ⟨_, _, _, n, h⟩ | ⟨h, _⟩
    · exact ⟨n, h⟩
    · omega
  have e1 : tabC L = r.foldl (stC L) (stC L (0, []) l) := by
    unfold tabC
    conv => lhs; arg 3; rw [hl]
    rfl
  have e2 : foldR L 0 L [] = foldR L 1 r [] := by
    conv => lhs; arg 3; rw [hl]
    rw [foldR, if_neg (by omega)]
  have e3 : bud0 L = n := by rw [hl, bud0, hs]
  have e4 : stC L (0, []) l = ((n : Int), []) := by
    have hv : valL [(3, n)] 3 = some n := by
      unfold valL
      rw [List.find?_cons]
      simp
    rw [stC, if_pos h1, hs, valC, hv]
  rw [e1, e2, e3, e4]
  exact fold_eq hi hb hend r 0 n [] hr

/-- what the reference's Compile answers is what the code's answers -/
theorem ans_ref (s : ByteArray) (hs : s.size ≤ 1000) (h0 : (rd s).err = 0 → 0 < (rd s).lines.length) :
    ans s = if (rd s).err ≠ 0 then ⟨(0, []), (rd s).err, (rd s).at'⟩ else if (chER (rd s).lines).1 ≠ 0 then ⟨(0, []), (chER (rd s).lines).1, (chER (rd s).lines).2⟩ else ⟨((bud0 (rd s).lines : Int), foldR (rd s).lines 0 (rd s).lines []), 0, 0⟩ := by
  rw [ans, if_neg (by omega)]
  by_cases he : (rd s).err ≠ 0
  · rw [if_pos he, if_pos he]
  · rw [if_neg he, if_neg he]
    have he0 : (rd s).err = 0 := by omega
    have hi := rd_inv s he0
    obtain ⟨e, hx⟩ := chE_eq hi.nmB hi.2.1 (fun l hl => (hi.1 l hl).2)
    rw [e]
    by_cases hc : (chE (rd s).lines).1 ≠ 0
    · rw [if_pos hc, if_pos hc]
    · rw [if_neg hc, if_neg hc]
      obtain ⟨hb, hend⟩ := hx (by omega)
      rw [tab_eq hi hb hend (h0 he0)]
end Co
end Go.Proofs.YtmmmjpkhnbfnbaaGreat
