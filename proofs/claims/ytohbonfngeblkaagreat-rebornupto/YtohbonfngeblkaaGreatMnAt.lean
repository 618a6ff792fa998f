import Derived.Test.YtohbonfngeblkaaGreatMnAs
import Derived.Test.YtohbonfngeblkaaGreatMnAk
namespace Go.Proofs.YtohbonfngeblkaaGreat
open Go.RowKit
namespace Pr
theorem nx_trans {a b c : World} (h : Below a.heap.size a b) (k : Below b.heap.size b c) : Below a.heap.size a c := h.trans (k.mono h.size)
theorem nx_alloc (w : World) (o : Obj) : Below w.heap.size w (w.alloc o) := (Below.refl _ _).alloc (Nat.le_refl _) o
theorem sz_lt {w wr : World} {o : Obj} (h : Below (w.alloc o).heap.size (w.alloc o) wr) : w.heap.size < wr.heap.size := by
  have := h.size
  rw [World.size_alloc] at this
  omega
theorem less_total : ∀ (x y : List UInt8), (Op.bytesLess y x || y == x) = !(Op.bytesLess x y)
  | [], [] => by simp [Op.bytesLess]
  | [], b :: y => by simp [Op.bytesLess]
  | a :: x, [] => by simp [Op.bytesLess]
  | a :: x, b :: y => by
    have ih := less_total x y
    simp only [Op.bytesLess]
    by_cases h1 : a < b
    · have h2 : ¬ b < a := by simp [UInt8.lt_iff_toNat_lt] at *; omega
      have h3 : ¬ b = a := by intro h; subst h; simp at h1
      simp [h1, h2, h3]
    · by_cases h2 : b < a
      · have h3 : ¬ a = b := by intro h; subst h; simp at h2
        simp [h1, h2, h3]
      · have h3 : a = b := by
          rw [← UInt8.toNat_inj]; simp [UInt8.lt_iff_toNat_lt] at *; omega
        subst h3
        simpa [h1] using ih
def lt (a b : ByteArray) : Bool := Op.bytesLess a.toList b.toList
theorem leq_lt (a b : ByteArray) : (Op.bytesLess a.toList b.toList || a.toList == b.toList) = !(lt b a) := less_total _ _
theorem lt_empty (s : ByteArray) (h : isNm s = true) : lt ⟨#[]⟩ s = true := by
  simp [isNm] at h
  unfold lt
  rw [ByteArray.toList_eq s]
  have e : s.data.toList.length = s.size := by rw [Array.length_toList]; rfl
  have e0 : (ByteArray.mk #[]).toList = [] := ByteArray.toList_mk []
  rw [e0]
  cases hl : s.data.toList with
  | nil => rw [hl] at e; simp at e; omega
  | cons a r => rfl
structure Pl where
  nm : ByteArray
  sz : Int
  wt : Int
  fr : Int
def plOk (p : Pl) : Bool := isNm p.nm && inB 0 20 p.sz && inB 0 20 p.wt && inB 0 999 p.fr
def chk (l : ByteArray) : List Pl → Bool
  | [] => true
  | p :: r => plOk p && lt l p.nm && chk p.nm r
def tabOk (b : Int) (ps : List Pl) : Bool := inB 1 99 b && decide (ps.length ≤ 6) && chk ⟨#[]⟩ ps
def Pools (w : World) (ao : Option Addr) (ps : List Pl) : Prop :=
  ps = [] ∨ ∃ b off, ao = some ⟨b, off, none⟩ ∧ b < w.heap.size ∧ ∀ i p, ps[i]? = some p →
    w.cell? ⟨b, off + i * 4, none⟩ = some (.string p.nm) ∧ w.cell? ⟨b, off + i * 4 + 1, none⟩ = some (.int .i64 p.sz) ∧
    w.cell? ⟨b, off + i * 4 + 2, none⟩ = some (.int .i64 p.wt) ∧ w.cell? ⟨b, off + i * 4 + 3, none⟩ = some (.int .i64 p.fr) ∧ p.nm.size ≤ maxLen
theorem Pools.nx {w w' : World} {ao : Option Addr} {ps : List Pl} (h : Pools w ao ps) (hb : Below w.heap.size w w') : Pools w' ao ps := by
  rcases h with h | ⟨b, off, h1, h2, h3⟩
  · exact .inl h
  · refine .inr ⟨b, off, h1, Nat.lt_of_lt_of_le h2 hb.size, fun i p hp => ?_⟩
    have := h3 i p hp
    simp only [hb.cell (p := ⟨b, _, none⟩) h2]
    exact this
theorem Pools.at {w : World} {ao : Option Addr} {ps : List Pl} (h : Pools w ao ps) {k : Nat} {p : Pl} (hp : ps[k]? = some p) :
    ∃ b off, ao = some ⟨b, off, none⟩ ∧ b < w.heap.size ∧
    w.cell? ⟨b, off + k * 4, none⟩ = some (.string p.nm) ∧ w.cell? ⟨b, off + k * 4 + 1, none⟩ = some (.int .i64 p.sz) ∧
    w.cell? ⟨b, off + k * 4 + 2, none⟩ = some (.int .i64 p.wt) ∧ w.cell? ⟨b, off + k * 4 + 3, none⟩ = some (.int .i64 p.fr) ∧ p.nm.size ≤ maxLen := by
  rcases h with h | ⟨b, off, h1, h2, h3⟩
  · subst h; simp at hp
  · exact ⟨b, off, h1, h2, h3 k p hp⟩
theorem drop_at {α : Type} {l : List α} {k : Nat} {p : α} (h : l[k]? = some p) : l.drop k = p :: l.drop (k + 1) := by
  obtain ⟨hk, rfl⟩ := List.getElem?_eq_some_iff.1 h
  exact List.drop_eq_getElem_cons hk
set_option maxHeartbeats 400000 in
theorem isPool_any (nm : ByteArray) (sz wt fr : Int) (w : World) (hs : nm.size ≤ maxLen) :
    Calls Tryz.prog 100 #[.agg #[.string nm, .int .i64 sz, .int .i64 wt, .int .i64 fr]] w fun e w' => e = .returned (.bool (plOk ⟨nm, sz, wt, fr⟩)) ∧ Below w.heap.size w w' := by
  cases h1 : isNm nm
  · go_enter Tryz.func100, Tryz.ntmps100
    go_wp2_with fail
    refine (isName_any _ _ hs).mono ?_; rintro e w' ⟨rfl, rfl⟩
    go_wp2_with fail
    go_ret
    exact ⟨ret_bool (by simp [plOk, h1]), nx_alloc _ _⟩
  cases h2 : inB 0 20 sz
  · go_enter Tryz.func100, Tryz.ntmps100
    go_wp2_with fail
    refine (isName_any _ _ hs).mono ?_; rintro e w' ⟨rfl, rfl⟩
    go_wp2_with fail
    refine (fits_size _ _).mono ?_; rintro e w' ⟨rfl, rfl⟩
    go_wp2_with fail
    go_ret
    exact ⟨ret_bool (by simp [plOk, h1, h2]), nx_alloc _ _⟩
  cases h3 : inB 0 20 wt
  · go_enter Tryz.func100, Tryz.ntmps100
    go_wp2_with fail
    refine (isName_any _ _ hs).mono ?_; rintro e w' ⟨rfl, rfl⟩
    go_wp2_with fail
    refine (fits_size _ _).mono ?_; rintro e w' ⟨rfl, rfl⟩
    go_wp2_with fail
    refine (fits_wait _ _).mono ?_; rintro e w' ⟨rfl, rfl⟩
    go_wp2_with fail
    go_ret
    exact ⟨ret_bool (by simp [plOk, h1, h2, h3]), nx_alloc _ _⟩
  go_enter Tryz.func100, Tryz.ntmps100
  go_wp2_with fail
  refine (isName_any _ _ hs).mono ?_; rintro e w' ⟨rfl, rfl⟩
  go_wp2_with fail
  refine (fits_size _ _).mono ?_; rintro e w' ⟨rfl, rfl⟩
  go_wp2_with fail
  refine (fits_wait _ _).mono ?_; rintro e w' ⟨rfl, rfl⟩
  go_wp2_with fail
  refine (fits_far _ _).mono ?_; rintro e w' ⟨rfl, rfl⟩
  go_wp2_with fail
  go_ret
  exact ⟨ret_bool (by simp [plOk, h1, h2, h3]), nx_alloc _ _⟩
set_option maxHeartbeats 1000000 in
theorem isTable_any (b : Int) (ao : Option Addr) (c : Nat) (ps : List Pl) (w : World) (hps : Pools w ao ps) (hlen : ps.length ≤ maxLen) :
    Calls Tryz.prog 75 #[.agg #[.int .i64 b, .slice ao ps.length c]] w fun e w' => e = .returned (.bool (tabOk b ps)) ∧ Below w.heap.size w w' := by
  unfold maxLen at hlen
  cases hb : inB 1 99 b
  · go_enter Tryz.func75, Tryz.ntmps75
    go_wp2_with fail
    refine (fits_budget _ _).mono ?_; rintro e w' ⟨rfl, rfl⟩
    go_wp2_with fail
    go_ret
    exact ⟨ret_bool (by simp [tabOk, hb]), nx_alloc _ _⟩
  obtain ⟨n, hn⟩ : ∃ n, ps.length = n := ⟨_, rfl⟩
  rw [hn] at hlen ⊢
  by_cases h6 : 6 < n
  · go_enter Tryz.func75, Tryz.ntmps75
    go_wp2_with fail
    refine (fits_budget _ _).mono ?_; rintro e w' ⟨rfl, rfl⟩
    go_wp2_with fail
    go_ret
    exact ⟨ret_bool (by simp [tabOk, hb]; omega), nx_alloc _ _⟩
  have h6b : decide ((6 : Int) < (n : Int)) = false := by simp; omega
  have HN : Hid (ps.length = n) := hn
  clear hn
  have HP : Hid (Pools (w.alloc (.cells #[.int .i64 b, .slice ao n c] 24)) ao ps) := hps.nx (nx_alloc _ _)
  clear hps
  go_enter Tryz.func75, Tryz.ntmps75
  go_wp2_with fail
  refine (fits_budget _ _).mono ?_; rintro e w' ⟨rfl, rfl⟩
  go_wp2_with fail
  go_loopw [3, 4] (fun l i wr => ∃ (k : Nat) (l0 : ByteArray), k ≤ n ∧ i = .int .i64 k ∧ l = .string l0 ∧ Hid (chk l0 (ps.drop k) = chk ⟨#[]⟩ ps) ∧
      Below (w.alloc (.cells #[.int .i64 b, .slice ao n c] 24)).heap.size (w.alloc (.cells #[.int .i64 b, .slice ao n c] 24)) wr) (fun _ i _ => n - (intOf i).toNat)
  case atStart => exact ⟨0, _, Nat.zero_le _, rfl, rfl, rfl, Below.refl _ _⟩
  case round =>
    obtain ⟨k, l0, hk, rfl, rfl, HC, hbel⟩ := hrel
    have hcell : wr.cell? ⟨w.heap.size, 1, none⟩ = some (.slice ao n c) := by
      refine (hbel.cell (p := ⟨w.heap.size, 1, none⟩) (by simp)).trans ?_
      simp
    have hbw : Below w.heap.size w wr := nx_trans (nx_alloc _ _) hbel
    have HB : Hid (Below w.heap.size w wr) := hbw
    clear hbw
    by_cases hlt : k < n
    · obtain ⟨⟨nm, sz, wt, fr⟩, hp⟩ : ∃ p, ps[k]? = some p := ⟨_, List.getElem?_eq_getElem (by rw [HN.out]; exact hlt)⟩
      obtain ⟨bl, off, rfl, hbl, c0, c1, c2, c3, hs⟩ := (HP.out.nx hbel).at hp
      have hd : Hid (ps.drop k = ⟨nm, sz, wt, fr⟩ :: ps.drop (k + 1)) := drop_at hp
      clear hp
      simp only at c0 c1 c2 c3 hs
      cases hok : plOk ⟨nm, sz, wt, fr⟩
      · go_wp2_with fail
        refine (isPool_any _ _ _ _ _ hs).mono ?_; rintro e w1 ⟨rfl, hb1⟩
        rw [hok]
        go_wp2_with fail
        go_ret
        exact ⟨ret_bool (by simp [tabOk, hb]; intro _; rw [← HC.out, hd.out]; simp [chk, hok]), nx_trans HB.out hb1⟩
      · cases hlt2 : lt l0 nm
        · go_wp2_with fail
          refine (isPool_any _ _ _ _ _ hs).mono ?_; rintro e w1 ⟨rfl, hb1⟩
          rw [hok]
          have d0 : w1.cell? ⟨bl, off + k * 4, none⟩ = some (.string nm) := (hb1.cell (p := ⟨bl, off + k * 4, none⟩) hbl).trans c0
          have d1 : w1.cell? ⟨w.heap.size, 1, none⟩ = some (.slice (some ⟨bl, off, none⟩) n c) := (hb1.cell (p := ⟨w.heap.size, 1, none⟩) (sz_lt hbel)).trans hcell
          clear c0 c1 c2 c3 hcell
          have hle : (Op.bytesLess nm.toList l0.toList || nm.toList == l0.toList) = true := by rw [leq_lt, hlt2]; rfl
          go_wp2_with fail
          go_ret
          exact ⟨ret_bool (by simp [tabOk, hb]; intro _; rw [← HC.out, hd.out]; simp [chk, hlt2]), nx_trans HB.out hb1⟩
        · go_wp2_with fail
          refine (isPool_any _ _ _ _ _ hs).mono ?_; rintro e w1 ⟨rfl, hb1⟩
          rw [hok]
          have d0 : w1.cell? ⟨bl, off + k * 4, none⟩ = some (.string nm) := (hb1.cell (p := ⟨bl, off + k * 4, none⟩) hbl).trans c0
          have d1 : w1.cell? ⟨w.heap.size, 1, none⟩ = some (.slice (some ⟨bl, off, none⟩) n c) := (hb1.cell (p := ⟨w.heap.size, 1, none⟩) (sz_lt hbel)).trans hcell
          clear c0 c1 c2 c3 hcell
          have hle : (Op.bytesLess nm.toList l0.toList || nm.toList == l0.toList) = false := by rw [leq_lt, hlt2]; rfl
          go_wp2_with fail
          go_roundw
          case rel => exact ⟨k + 1, nm, by omega, by go_num, rfl, by
            show chk nm (ps.drop (k + 1)) = _
            rw [← HC.out, hd.out]; simp [chk, hok, hlt2], nx_trans hbel hb1⟩
          case measure => simp [intOf]; omega
    · go_wp2_with fail
      go_ret
      exact ⟨ret_bool (by
        have h0 : ps.drop k = [] := List.drop_of_length_le (by rw [HN.out]; omega)
        have := HC.out; rw [h0] at this
        simp [tabOk, hb, ← this, chk, HN.out]; omega), HB.out⟩
end Pr
end Go.Proofs.YtohbonfngeblkaaGreat
namespace Go.Proofs.YtohbonfngeblkaaGreat
open Go.RowKit
namespace Df
open Co Lw
def cv (p : Pl) : Pr.Pl := ⟨p.nm, p.sz, p.wt, p.fr⟩
theorem cv_ok {p : Pl} (h : Okp p) : Pr.plOk (cv p) = true := by
  have hn : Pr.isNm p.nm = true := h.nm
  have h1 := h.s0
  have h2 := h.s1
  have h3 := h.w0
  have h4 := h.w1
  have h5 := h.f0
  have h6 := h.f1
  show (Pr.isNm p.nm && Pr.inB 0 20 p.sz && Pr.inB 0 20 p.wt && Pr.inB 0 999 p.fr) = true
  rw [hn, Pr.inB_mk h1 h2, Pr.inB_mk h3 h4, Pr.inB_mk h5 h6]
  rfl
theorem cv_chk : ∀ (ps : List Pl) (l : ByteArray), (∀ p ∈ ps, Okp p) → (∀ p ∈ ps, lt l p.nm = true) → ps.Pairwise (fun a b => lt a.nm b.nm = true) → Pr.chk l (ps.map cv) = true
  | [], _, _, _, _ => rfl
  | p :: r, l, h, hl, hp => by
    have h1 := cv_ok (h p List.mem_cons_self)
    have h2 : Pr.lt l (cv p).nm = true := hl p List.mem_cons_self
    have h3 := cv_chk r p.nm (fun x hx => h x (List.mem_cons_of_mem _ hx)) (List.pairwise_cons.1 hp).1 (List.pairwise_cons.1 hp).2
    simp only [List.map_cons, Pr.chk, h1, h2, Bool.true_and]
    exact h3
theorem cv_tab {b : Int} {ps : List Pl} (h : Okt b ps) : Pr.tabOk b (ps.map cv) = true := by
  have h1 := cv_chk ps ⟨#[]⟩ h.ok (fun p hp => lt_empty _ (h.ok p hp).nm) h.up
  have h2 := h.b0
  have h3 := h.b1
  have h4 := h.len
  simp [Pr.tabOk, Pr.inB, h1]
  omega
theorem pools_of {w : World} {ao : Option Addr} {n c : Nat} {ps : List Pl} (h : RowAt w (.slice ao n c) n (flatP ps)) (hok : ∀ p ∈ ps, Okp p) : Pr.Pools w ao (ps.map cv) := by
  cases ps with
  | nil => exact .inl rfl
  | cons q r =>
    obtain ⟨b, off, rfl, hb, _⟩ := pool_at h (k := 0) (p := q) rfl
    refine .inr ⟨b, off, rfl, hb, fun i p hp => ?_⟩
    rw [List.getElem?_map] at hp
    obtain ⟨x, hx, rfl⟩ := Option.map_eq_some_iff.1 hp
    obtain ⟨b', off', e, _, g0, g1, g2, g3⟩ := pool_at h hx
    obtain ⟨rfl, rfl⟩ : b = b' ∧ off = off' := by simpa using e
    have := nm_sz (hok x (List.mem_of_getElem? hx)).nm
    exact ⟨g0, g1, g2, g3, by unfold maxLen; show x.nm.size ≤ _; omega⟩
theorem isTab {b : Int} {ao : Option Addr} {n c : Nat} {ps : List Pl} {w : World} (h : Okt b ps) (hr : RowAt w (.slice ao n c) n (flatP ps)) (hn : ps.length = n) :
    Calls Tryz.prog 75 #[.agg #[.int .i64 b, .slice ao n c]] w fun e w' => e = .returned (.bool true) ∧ Below w.heap.size w w' := by
  have hl := h.len
  have := Pr.isTable_any b ao c (ps.map cv) w (pools_of hr h.ok) (by rw [List.length_map]; unfold maxLen; omega)
  rw [cv_tab h, List.length_map, hn] at this
  exact this
end Df
end Go.Proofs.YtohbonfngeblkaaGreat
