
import Derived.Test.YtehehkahmpbjhaaDoorPrI
import Derived.Test.YtehehkahmpbjhaaDoorKpD
namespace Go.Proofs.YtehehkahmpbjhaaDoor
open Go.RowKit
namespace Co

/-- the same pool, as Prints' texts have it -/
def cv (p : Pl) : Pr.Pl := ⟨p.nm, p.sz, p.wt, p.fr⟩
/-- the plain style -/
def st0 : Sty := ⟨false, false, false, false, false, false, false, false, false, false⟩
theorem st_zero : stOf 0 = st0 := by
  have h : bt 0 = false := by decide
  have e : ∀ k : Int, (0 : Int) / k = 0 := Int.zero_ediv
  simp only [stOf, e, h, st0]
theorem cv_ok {p : Pl} (h : Okp p) : Pr.plOk (cv p) = true := by
  have hn : Pr.isNm p.nm = true := h.nm
  have h1 := h.s0
  have h2 := h.s1
  have h3 := h.w0
  have h4 := h.w1
  have h5 := h.f0
  have h6 := h.f1
  show (Pr.isNm p.nm && Pr.inB 0 20 p.sz && Pr.inB 0 20 p.wt && Pr.inB 0 999 p.fr) = true
  rw [hn, Pr.inB_mk h1 h2, Pr.inB_mk h3 h4, Pr.inB_mk h5 h6]
  rfl
theorem cv_chk : ∀ (ps : List Pl) (l : ByteArray), (∀ p ∈ ps, Okp p) → (∀ p ∈ ps, lt l p.nm = true) → ps.Pairwise (fun a b => lt a.nm b.nm = true) → Pr.chk l (ps.map cv) = true
  | [], _, _, _, _ => rfl
  | p :: r, l, h, hl, hp => by
    have h1 := cv_ok (h p List.mem_cons_self)
    have h2 : Pr.lt l (cv p).nm = true := hl p List.mem_cons_self
    have h3 := cv_chk r p.nm (fun x hx => h x (List.mem_cons_of_mem _ hx)) (List.pairwise_cons.1 hp).1 (List.pairwise_cons.1 hp).2
    simp only [List.map_cons, Pr.chk, h1, h2, Bool.true_and]
    exact h3
theorem cv_tab {b : Int} {ps : List Pl} (h : Okt b ps) : Pr.tabOk b (ps.map cv) = true := by
  have h1 := cv_chk ps ⟨#[]⟩ h.ok (fun p hp => lt_empty _ (h.ok p hp).nm) h.up
  have h2 := h.b0
  have h3 := h.b1
  have h4 := h.len
  simp [Pr.tabOk, Pr.inB, h1]
  omega
theorem dgP (n : Int) (h0 : 0 ≤ n) : tl (Pr.dg n) = [UInt8.ofNat (48 + n.toNat % 10)] := by
  have : (48 + n % 10).toNat = 48 + n.toNat % 10 := by omega
  simp [Pr.dg, this]
theorem decP {n : Int} (h0 : 0 ≤ n) (h1 : n ≤ 999) : tl (Pr.decS 2 n) = dgW false n.toNat := by
  have e : dgW false n.toNat = dg n.toNat := rfl
  rw [e]
  have k0 : ∀ m : Int, 0 ≤ m → m < 10 → tl (Pr.dg m) = dg m.toNat := by
    intro m a0 a1
    rw [dgP m a0, dg_small (by omega), Nat.mod_eq_of_lt (by omega)]
  have k1 : ∀ m : Int, 0 ≤ m → ¬ m < 10 → dg m.toNat = dg (m / 10).toNat ++ tl (Pr.dg m) := by
    intro m a0 a1
    rw [dg_big (by omega), dgP m a0]
    congr 2
    omega
  unfold Pr.decS
  by_cases h10 : n < 10
  · rw [if_pos h10]; exact k0 n h0 h10
  · rw [if_neg h10, tl_add, k1 n h0 h10]
    congr 1
    unfold Pr.decS
    by_cases h100 : n / 10 < 10
    · rw [if_pos h100]; exact k0 _ (by omega) h100
    · rw [if_neg h100, tl_add, k1 _ (by omega) h100]
      congr 1
      unfold Pr.decS
      exact k0 _ (by omega) (by omega)
theorem entP (word : ByteArray) {n : Int} (h0 : 0 ≤ n) (h1 : n ≤ 999) : tl (Pr.entryS word n) = tl word ++ 32 :: fltD st0 n := by
  rw [Pr.entryS, tl_add, tl_add, decP h0 h1, List.append_assoc]
  rfl
theorem budP {b : Int} (h0 : 1 ≤ b) (h1 : b ≤ 99) : tl (Pr.budS b) = lineL st0 (fsBud st0 b) := by
  rw [Pr.budS, tl_add, entP _ (by omega) (by omega)]
  simp [lineL, bodyL, padL, joinF, joinL, sepL, endL, moreL, fsBud, st0]
  rfl
theorem linP (last : ByteArray) {p : Pl} (h : Okp p) : tl (Pr.lineP (cv p)) = grpL st0 last p := by
  have h1 := h.s0
  have h2 := h.s1
  have h3 := h.w0
  have h4 := h.w1
  have h5 := h.f0
  have h6 := h.f1
  simp only [Pr.lineP, cv, tl_add, entP _ h1 (show p.sz ≤ 999 by omega), entP _ h3 (show p.wt ≤ 999 by omega), entP _ h5 h6]
  simp [grpL, grp, lineL, bodyL, padL, joinF, joinL, sepL, endL, moreL, fsPool, st0]
  rfl
theorem foldP (last : ByteArray) : ∀ (ps : List Pl) (acc : ByteArray), (∀ p ∈ ps, Okp p) → tl ((ps.map cv).foldl Pr.addP acc) = tl acc ++ ps.flatMap (grpL st0 last)
  | [], acc, _ => by simp
  | p :: r, acc, h => by
    rw [List.map_cons, List.foldl_cons, foldP last r _ (fun x hx => h x (List.mem_cons_of_mem _ hx)), Pr.addP, tl_add, linP last (h p List.mem_cons_self), List.flatMap_cons, List.append_assoc]
/-- what Print prints is the plain style -/
theorem print_plain {b : Int} {ps : List Pl} (h : Okt b ps) (last : ByteArray) : tl (Pr.prT b (ps.map cv)) = textL st0 last b (ordP st0 ps) := by
  rw [Pr.prT, if_pos (cv_tab h), textL_eq, Pr.txtTo, List.take_of_length_le (by simp), foldP last ps _ h.ok, budP h.b0 h.b1]
  rfl
theorem print_ok {b : Int} {ps : List Pl} (h : Okt b ps) : Pr.prE b (ps.map cv) = 0 := by
  rw [Pr.prE, if_pos (cv_tab h)]
theorem pools_of {w : World} {ao : Option Addr} {n c : Nat} {ps : List Pl} (h : RowAt w (.slice ao n c) n (flatP ps)) (hok : ∀ p ∈ ps, Okp p) : Pr.Pools w ao (ps.map cv) := by
  cases ps with
  | nil => exact .inl rfl
  | cons q r =>
    obtain ⟨b, off, rfl, hb, _⟩ := pool_at h (k := 0) (p := q) rfl
    refine .inr ⟨b, off, rfl, hb, fun i p hp => ?_⟩
    rw [List.getElem?_map] at hp
    obtain ⟨x, hx, rfl⟩ := Option.map_eq_some_iff.1 hp
    obtain ⟨b', off', e, _, g0, g1, g2, g3⟩ := pool_at h hx
    obtain ⟨rfl, rfl⟩ : b = b' ∧ off = off' := by simpa using e
    have := nm_len (hok x (List.mem_of_getElem? hx)).nm
    exact ⟨g0, g1, g2, g3, by unfold maxLen; show x.nm.size ≤ _; omega⟩
end Co
end Go.Proofs.YtehehkahmpbjhaaDoor
