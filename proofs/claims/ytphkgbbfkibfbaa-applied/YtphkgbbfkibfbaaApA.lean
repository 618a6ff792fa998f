
import Derived.Test.YtphkgbbfkibfbaaMpD
import Derived.Test.YtphkgbbfkibfbaaStB
import Derived.Test.YtphkgbbfkibfbaaStC
import Derived.Test.YtphkgbbfkibfbaaStD
import Derived.Test.YtphkgbbfkibfbaaStE
import Derived.Test.YtphkgbbfkibfbaaPrB
namespace Go.Proofs.Ytphkgbbfkibfbaa
open Go.RowKit
namespace Df
open Co Lw

/-- the same pool, as Prints' texts have it -/
def cv (p : Pl) : Pr.Pl := ⟨p.nm, p.sz, p.wt, p.fr⟩
theorem cv_ok {p : Pl} (h : Okp p) : Pr.plOk (cv p) = true := by
  have hn : Pr.isNm p.nm = true := h.nm
  have h1 := h.s0
  have h2 := h.s1
  have h3 := h.w0
  have h4 := h.w1
  have h5 := h.f0
  have h6 := h.f1
  show (Pr.isNm p.nm && Pr.inB 0 20 p.sz && Pr.inB 0 20 p.wt && Pr.inB 0 999 p.fr) = true
  rw [hn, Pr.inB_mk h1 h2, Pr.inB_mk h3 h4, Pr.inB_mk h5 h6]
  rfl
theorem cv_chk : ∀ (ps : List Pl) (l : ByteArray), (∀ p ∈ ps, Okp p) → (∀ p ∈ ps, lt l p.nm = true) → ps.Pairwise (fun a b => lt a.nm b.nm = true) → Pr.chk l (ps.map cv) = true
  | [], _, _, _, _ => rfl
  | p :: r, l, h, hl, hp => by
    have h1 := cv_ok (h p List.mem_cons_self)
    have h2 : Pr.lt l (cv p).nm = true := hl p List.mem_cons_self
    have h3 := cv_chk r p.nm (fun x hx => h x (List.mem_cons_of_mem _ hx)) (List.pairwise_cons.1 hp).1 (List.pairwise_cons.1 hp).2
    simp only [List.map_cons, Pr.chk, h1, h2, Bool.true_and]
    exact h3
theorem cv_tab {b : Int} {ps : List Pl} (h : Okt b ps) : Pr.tabOk b (ps.map cv) = true := by
  have h1 := cv_chk ps ⟨#[]⟩ h.ok (fun p hp => lt_empty _ (h.ok p hp).nm) h.up
  have h2 := h.b0
  have h3 := h.b1
  have h4 := h.len
  simp [Pr.tabOk, Pr.inB, h1]
  omega
theorem pools_of {w : World} {ao : Option Addr} {n c : Nat} {ps : List Pl} (h : RowAt w (.slice ao n c) n (flatP ps)) (hok : ∀ p ∈ ps, Okp p) : Pr.Pools w ao (ps.map cv) := by
  cases ps with
  | nil => exact .inl rfl
  | cons q r =>
    obtain ⟨b, off, rfl, hb, _⟩ := pool_at h (k := 0) (p := q) rfl
    refine .inr ⟨b, off, rfl, hb, fun i p hp => ?_⟩
    rw [List.getElem?_map] at hp
    obtain ⟨x, hx, rfl⟩ := Option.map_eq_some_iff.1 hp
    obtain ⟨b', off', e, _, g0, g1, g2, g3⟩ := pool_at h hx
    obtain ⟨rfl, rfl⟩ : b = b' ∧ off = off' := by simpa using e
    have := nm_sz (hok x (List.mem_of_getElem? hx)).nm
    exact ⟨g0, g1, g2, g3, by unfold maxLen; show x.nm.size ≤ _; omega⟩
theorem isTab {b : Int} {ao : Option Addr} {n c : Nat} {ps : List Pl} {w : World} (h : Okt b ps) (hr : RowAt w (.slice ao n c) n (flatP ps)) (hn : ps.length = n) :
    Calls Try.prog 13 #[.agg #[.int .i64 b, .slice ao n c]] w fun e w' => e = .returned (.bool true) ∧ Below w.heap.size w w' := by
  have hl := h.len
  have := Pr.isTable_any b ao c (ps.map cv) w (pools_of hr h.ok) (by rw [List.length_map]; unfold maxLen; omega)
  rw [cv_tab h, List.length_map, hn] at this
  exact this
theorem lk_idx {ts : List Pl} {nm : ByteArray} {p : Pl} (h : lk ts nm = some p) : ∃ k, ts.findIdx? (isNameP nm) = some k ∧ ts[k]? = some p := by
  cases hk : ts.findIdx? (isNameP nm) with
  | none =>
    rw [List.findIdx?_eq_none_iff] at hk
    have h' : ts.find? (isNameP nm) = some p := h
    rw [find_no hk] at h'
    simp at h'
  | some k =>
    refine ⟨k, rfl, ?_⟩
    rw [List.findIdx?_eq_some_iff_getElem] at hk
    obtain ⟨hi, hp, hj⟩ := hk
    have h' : ts.find? (isNameP nm) = some p := h
    rw [find_at (k := k) (x := ts[k]) (fun y hy => by
      obtain ⟨j, hj', rfl⟩ := List.mem_take_iff_getElem.1 hy
      have := hj j (by omega)
      simpa using this) (List.getElem?_eq_getElem hi) hp] at h'
    rw [List.getElem?_eq_getElem hi, h']
theorem no_idx {ts : List Pl} {nm : ByteArray} (h : lk ts nm = none) : ts.findIdx? (isNameP nm) = none := by
  rw [List.findIdx?_eq_none_iff]
  intro x hx
  exact isN_ne (lk_none.1 h x hx)
/-- step, where the step may stand there -/
theorem kStep (t : Int × List Pl) (s : Stp) (ao : Option Addr) (n ac : Nat) (w : World) (hr : RowAt w (.slice ao n ac) n (flatP t.2)) (hn : t.2.length = n) (hnil : ao = none → ac = 0) (hu : Up t.2) (hl : t.2.length ≤ 6) (hg : goodS t s) :
    Calls Try.prog 6 #[.agg #[.int .i64 t.1, .slice ao n ac], sA s.kind s.name s.n] w fun e w' => GaveT w w' (stepT t s).1 (stepT t s).2 e := by
  obtain ⟨b, ts⟩ := t
  obtain ⟨kd, nm, N⟩ := s
  simp only at hr hn hu hl
  have hn2 : n ≤ 6 := by omega
  rcases hg with ⟨h1, h2, h3⟩ | ⟨h1, h2, h3⟩ | ⟨h1, h2, h3, h4, h5, h6⟩ | ⟨h1, h2, p, h3⟩ | ⟨p, h3, h4⟩
  · simp only at h1 h2 h3
    subst h1 h2
    exact kStep3 b ao n ac ts N w hr hn hn2 hnil h3
  · simp only at h1 h2 h3
    subst h1 h2
    exact kStep7 b ao n ac ts N w hr hn hn2 hnil h3
  · simp only at h1 h2 h3 h4 h5 h6
    subst h1 h2
    have := kStep4 b ao n ac ts nm w hr hn hn2 hnil (no_idx h3) h5 h6 h4
    rw [ins_add hu] at this
    exact this
  · simp only at h1 h2 h3
    subst h1 h2
    obtain ⟨k, hk, hx⟩ := lk_idx h3
    have := kStep2 b ao n ac ts nm w hr hn hn2 hnil k p hk hx
    rw [erase_drop nm hu hx (lk_nm h3)] at this
    exact this
  · obtain ⟨k, hk, hx⟩ := lk_idx h3
    have hpn := lk_nm h3
    simp only at hk hpn h4
    rcases h4 with ⟨rfl, h⟩ | ⟨rfl, h⟩ | ⟨rfl, h⟩ | ⟨rfl, h⟩
    · have := kStep1 b ao n ac ts nm N w hr hn hn2 hnil k p hk hx h
      rw [set_upd nm (fun p => ⟨p.nm, N, p.wt, p.fr⟩) hu hx hpn] at this
      exact this
    · have := kStep5 b ao n ac ts nm N w hr hn hn2 hnil k p hk hx h
      rw [set_upd nm (fun p => ⟨p.nm, p.sz, p.wt, N⟩) hu hx hpn] at this
      exact this
    · have := kStep6 b ao n ac ts nm N w hr hn hn2 hnil k p hk hx h
      rw [set_upd nm (fun p => ⟨p.nm, p.sz, N, p.fr⟩) hu hx hpn] at this
      exact this
    · have := kStep8 b ao n ac ts nm N w hr hn hn2 hnil k p hk hx h
      rw [set_upd nm (fun p => ⟨p.nm, N, p.wt, p.fr⟩) hu hx hpn] at this
      exact this
end Df
end Go.Proofs.Ytphkgbbfkibfbaa
