import Derived.Test.YtohbonfngeblkaaGreatMnH
import Derived.Test.YtohbonfngeblkaaGreatMnN
import Derived.Deep.RegionWith
namespace Go.Proofs.YtohbonfngeblkaaGreat
open Go.RowKit
namespace Df
open Co Lw
theorem find_at {α : Type} {p : α → Bool} : ∀ {l : List α} {k : Nat} {x : α}, (∀ y ∈ l.take k, p y = false) → l[k]? = some x → p x = true → l.find? p = some x
  | [], k, x, _, hx, _ => by simp at hx
  | y :: r, 0, x, _, hx, hp => by
    simp at hx; subst hx
    exact List.find?_cons_of_pos hp
  | y :: r, k + 1, x, hn, hx, hp => by
    have h0 : p y = false := hn y (by simp)
    rw [List.find?_cons_of_neg (by rw [h0]; simp)]
    exact find_at (k := k) (fun z hz => hn z (by simp [hz])) (by simpa using hx) hp
theorem find_no {α : Type} {p : α → Bool} {l : List α} (hn : ∀ y ∈ l, p y = false) : l.find? p = none := by
  rw [List.find?_eq_none]
  intro x hx; rw [hn x hx]; simp
theorem any_at {α : Type} {p : α → Bool} {l : List α} {k : Nat} {x : α} (hx : l[k]? = some x) (hp : p x = true) : l.any p = true := List.any_eq_true.2 ⟨x, List.mem_of_getElem? hx, hp⟩
theorem any_no {α : Type} {p : α → Bool} {l : List α} (hn : ∀ y ∈ l, p y = false) : l.any p = false := by
  rw [List.any_eq_false]
  intro x hx; rw [hn x hx]; simp
def leadsB (k f t : Int) : Bool := if k = 1 ∨ k = 3 then decide (t < f) else if k = 7 ∨ k = 8 then decide (f < t) else !decide (t = f)
def numP (k : Int) (p : Pl) : Int := if k = 5 then p.fr else if k = 6 then p.wt else p.sz
def inP (ps : List Pl) (nm : ByteArray) : Pl := match ps.find? (isNameP nm) with
  | some p => p
  | none => ⟨nm, 0, 0, 0⟩
def hasP (ps : List Pl) (p : Pl) : Bool := ps.any (isNameP p.nm)
def stepP (k : Int) (nm : ByteArray) (n : Int) : Stp := ⟨k, nm, n⟩
def missL (k : Int) (ps qs : List Pl) : List Stp := (ps.filter (fun p => !hasP qs p)).map (fun p => stepP k p.nm 0)
def budL (k f t : Int) : List Stp := if leadsB k f t = true then [⟨k, ⟨#[]⟩, t⟩] else []
def chgP (k : Int) (ps : List Pl) (p : Pl) : Bool := leadsB k (numP k (inP ps p.nm)) (numP k p)
def chgL (k : Int) (ps bs : List Pl) : List Stp := (bs.filter (chgP k ps)).map (fun p => stepP k p.nm (numP k p))
def kindL (k : Int) (ba : Int) (ps : List Pl) (bb : Int) (bs : List Pl) : List Stp :=
  if k = 2 then missL k ps bs else if k = 4 then missL k bs ps else if k = 3 ∨ k = 7 then budL k ba bb else chgL k ps bs
def diffTo (n : Nat) (ba : Int) (ps : List Pl) (bb : Int) (bs : List Pl) : List Stp := (List.range n).flatMap (fun (i : Nat) => kindL ((i : Int) + 1) ba ps bb bs)
def diffL (ba : Int) (ps : List Pl) (bb : Int) (bs : List Pl) : List Stp := diffTo 8 ba ps bb bs
theorem cLeads (k f t : Int) (w : World) : Calls Tryz.prog 134 #[.int .i64 k, .int .i64 f, .int .i64 t] w fun e w' => e = .returned (.bool (leadsB k f t)) ∧ w' = w := by
  by_cases h1 : k = 1
  · subst h1
    go_enter Tryz.func134, Tryz.ntmps134
    go_wp2_with fail
    go_ret
    exact ⟨by simp [leadsB], rfl⟩
  · by_cases h3 : k = 3
    · subst h3
      go_enter Tryz.func134, Tryz.ntmps134
      go_wp2_with fail
      go_ret
      exact ⟨by simp [leadsB], rfl⟩
    · by_cases h7 : k = 7
      · subst h7
        go_enter Tryz.func134, Tryz.ntmps134
        go_wp2_with fail
        go_ret
        exact ⟨by simp [leadsB], rfl⟩
      · by_cases h8 : k = 8
        · subst h8
          go_enter Tryz.func134, Tryz.ntmps134
          go_wp2_with fail
          go_ret
          exact ⟨by simp [leadsB], rfl⟩
        · have b1 : (k == 1) = false := by simp [h1]
          have b3 : (k == 3) = false := by simp [h3]
          have b7 : (k == 7) = false := by simp [h7]
          have b8 : (k == 8) = false := by simp [h8]
          have HE : Hid (leadsB k f t = !decide (t = f)) := by show _ = _; simp [leadsB, h1, h3, h7, h8]
          clear h1 h3 h7 h8
          go_enter Tryz.func134, Tryz.ntmps134
          go_wp2_with fail
          go_ret
          exact ⟨ret_bool (by rw [HE.out]; first | rfl | simp), rfl⟩
theorem cNum (k : Int) (nm : ByteArray) (sz wt fr : Int) (w : World) : Calls Tryz.prog 136 #[.int .i64 k, .agg #[.string nm, .int .i64 sz, .int .i64 wt, .int .i64 fr]] w fun e w' => e = .returned (.int .i64 (numP k ⟨nm, sz, wt, fr⟩)) ∧ Below w.heap.size w w' := by
  by_cases h5 : k = 5
  · subst h5
    go_enter Tryz.func136, Tryz.ntmps136
    go_wp2_with fail
    go_ret
    exact ⟨by simp [numP], nx_alloc _ _⟩
  · by_cases h6 : k = 6
    · subst h6
      go_enter Tryz.func136, Tryz.ntmps136
      go_wp2_with fail
      go_ret
      exact ⟨by simp [numP], nx_alloc _ _⟩
    · have b5 : (k == 5) = false := by simp [h5]
      have b6 : (k == 6) = false := by simp [h6]
      have HE : Hid (numP k ⟨nm, sz, wt, fr⟩ = sz) := by show _ = _; simp [numP, h5, h6]
      clear h5 h6
      go_enter Tryz.func136, Tryz.ntmps136
      go_wp2_with fail
      go_ret
      exact ⟨ret_i HE.out.symm, nx_alloc _ _⟩
abbrev zPl : Pl := ⟨⟨#[]⟩, 0, 0, 0⟩
def findV (o : Option Pl) : Value := match o with | some p => .tuple #[plA p, .bool true] | none => .tuple #[plA zPl, .bool false]
set_option maxRecDepth 20000 in
set_option maxHeartbeats 1000000 in
theorem cFind (ao : Option Addr) (n ac : Nat) (name : ByteArray) (ps : List Pl) (w : World) (hr : RowAt w (.slice ao n ac) n (flatP ps)) (hn : ps.length = n) (hlen : n ≤ maxLen) :
    Calls Tryz.prog 78 #[.slice ao n ac, .string name] w fun e w' => e = .returned (findV (ps.find? (isNameP name))) ∧ Below w.heap.size w w' := by
  unfold maxLen at hlen
  have HR : Hid (RowAt (w.alloc (bPl zPl)) (.slice ao n ac) n (flatP ps) ∧ ps.length = n) := ⟨hr.nx (nx_alloc _ _), hn⟩
  clear hr hn
  go_enter Tryz.func78, Tryz.ntmps78
  go_wp2_with fail
  go_loop [6] (fun i => ∃ k : Nat, k ≤ n ∧ i = .int .i64 k ∧ Hid (∀ y ∈ ps.take k, (isNameP name) y = false)) (fun i => n - (intOf i).toNat)
  case atStart => exact ⟨0, Nat.zero_le _, rfl, by intro y hy; simp at hy⟩
  case round =>
    obtain ⟨k, hk, rfl, HT⟩ := hrel
    by_cases hlt : k < n
    · have HRW := HR.out.1
      obtain ⟨⟨x0, x1, x2, x3⟩, hp⟩ : ∃ p, ps[k]? = some p := ⟨_, List.getElem?_eq_getElem (by rw [HR.out.2]; exact hlt)⟩
      obtain ⟨bl, off, hao, hbl, c0, c1, c2, c3⟩ := pool_at HRW hp
      subst hao
      simp only at c0 c1 c2 c3
      have hlti : (k : Int) < (n : Int) := by omega
      clear HRW
      cases hq : (x0.toList == name.toList) with
      | true =>
        have HH : Hid (ps.find? (isNameP name) = some ⟨x0, x1, x2, x3⟩) := find_at HT.out hp hq
        clear hp
        go_wp2_with fail
        refine bodyPost_ret (v := .tuple #[plA ⟨x0, x1, x2, x3⟩, .bool true]) (by simp [results, Tryz.results78, go_sem]) rfl ⟨by rw [HH.out]; rfl, ?_⟩
        exact nx_alloc _ _
      | false =>
        have HN : Hid (∀ y ∈ ps.take (k + 1), (isNameP name) y = false) := take_next HT.out hp (by show (x0.toList == name.toList) = false; exact hq)
        clear hp
        go_wp2_with fail
        go_round
        case rel => exact ⟨k + 1, by omega, by go_num, HN.out⟩
        case measure => simp [intOf]; omega
    · have HM : Hid (ps.find? (isNameP name) = none) := find_no (fun y hy => HT.out y (by rw [List.take_of_length_le (by rw [HR.out.2]; omega)]; exact hy))
      go_wp2_with fail
      refine bodyPost_ret (v := .tuple #[plA zPl, .bool false]) (by simp [results, Tryz.results78, go_sem]) rfl ⟨by rw [HM.out]; rfl, ?_⟩
      exact nx_alloc _ _
set_option maxRecDepth 20000 in
set_option maxHeartbeats 1000000 in
theorem cHas (ao : Option Addr) (n ac : Nat) (name : ByteArray) (ps : List Pl) (w : World) (hr : RowAt w (.slice ao n ac) n (flatP ps)) (hn : ps.length = n) (hlen : n ≤ maxLen) :
    Calls Tryz.prog 133 #[.slice ao n ac, .string name] w fun e w' => e = .returned (.bool (ps.any (isNameP name))) ∧ w' = w := by
  unfold maxLen at hlen
  have HR : Hid (RowAt w (.slice ao n ac) n (flatP ps) ∧ ps.length = n) := ⟨hr, hn⟩
  clear hr hn
  go_enter Tryz.func133, Tryz.ntmps133
  go_wp2_with fail
  go_loop [5] (fun i => ∃ k : Nat, k ≤ n ∧ i = .int .i64 k ∧ Hid (∀ y ∈ ps.take k, (isNameP name) y = false)) (fun i => n - (intOf i).toNat)
  case atStart => exact ⟨0, Nat.zero_le _, rfl, by intro y hy; simp at hy⟩
  case round =>
    obtain ⟨k, hk, rfl, HT⟩ := hrel
    by_cases hlt : k < n
    · have HRW := HR.out.1
      obtain ⟨⟨x0, x1, x2, x3⟩, hp⟩ : ∃ p, ps[k]? = some p := ⟨_, List.getElem?_eq_getElem (by rw [HR.out.2]; exact hlt)⟩
      obtain ⟨bl, off, hao, hbl, c0, c1, c2, c3⟩ := pool_at HRW hp
      subst hao
      simp only at c0 c1 c2 c3
      have hlti : (k : Int) < (n : Int) := by omega
      clear HRW
      cases hq : (x0.toList == name.toList) with
      | true =>
        have HH : Hid (ps.any (isNameP name) = true) := any_at hp hq
        clear hp
        go_wp2_with fail
        go_ret
        exact ⟨by rw [HH.out]; rfl, rfl⟩
      | false =>
        have HN : Hid (∀ y ∈ ps.take (k + 1), (isNameP name) y = false) := take_next HT.out hp (by show (x0.toList == name.toList) = false; exact hq)
        clear hp
        go_wp2_with fail
        go_round
        case rel => exact ⟨k + 1, by omega, by go_num, HN.out⟩
        case measure => simp [intOf]; omega
    · have HM : Hid (ps.any (isNameP name) = false) := any_no (fun y hy => HT.out y (by rw [List.take_of_length_le (by rw [HR.out.2]; omega)]; exact hy))
      go_wp2_with fail
      go_ret
      exact ⟨by rw [HM.out]; rfl, rfl⟩
end Df
end Go.Proofs.YtohbonfngeblkaaGreat
namespace Go.Proofs.YtohbonfngeblkaaGreat
open Go.RowKit
namespace Df
open Co Lw
theorem made0 (w : World) (ty : TypeId) (sz : Nat) (g : Nat) (hg : g = w.heap.size) (B : Nat) (hB : B ≤ w.heap.size) : (w.alloc (.cells #[] ty)).ownsRow B ty sz (.slice (some ⟨g, 0, none⟩) 0 0) 0 [] := by
  subst hg
  exact World.ownsRow_made (base := B) (e := ty) (size := sz) w #[] 0 hB (Nat.zero_le _) (by simp)
theorem info_S : (Tryz.prog.info? 71).map (fun i => (i.zero, i.size, i.bytes)) = some (some (.agg #[.int .i64 0, .string ⟨#[]⟩, .int .i64 0]), 3, 32) := by kernel_rfl
theorem flatT_len (l : List Stp) : (flatT l).length = l.length * 3 := fm_len fSt 3 (fun _ => rfl) l
theorem flatT_one (l : List Stp) : ∀ u ∈ flatT l, u.oneCell' = true := fm_one fSt (fun x u hu => by simp [fSt] at hu; rcases hu with rfl | rfl | rfl <;> rfl) l
theorem last4 {w1 : World} {g : Nat} {t : TypeId} {c0 c1 c2 c3 : Value} (hh : w1.heap[g]? = some (.cells #[c0, c1, c2, c3] t (0, 0))) (v0 v1 v2 v3 : Value) (o : Obj) :
    ((((((w1.setCell ⟨g, 0, none⟩ v0).setCell ⟨g, 1, none⟩ v1).setCell ⟨g, 2, none⟩ v2).setCell ⟨g, 3, none⟩ v3)).alloc o).heap[g]? = some (.cells #[v0, v1, v2, v3] t (0, 0)) := by
  have h4 := set_heap _ g 3 v3 _ _ (set_heap _ g 2 v2 _ _ (set_heap _ g 1 v1 _ _ (set_heap _ g 0 v0 _ _ hh)))
  refine (heap_alloc_lt _ _ (Array.getElem?_eq_some_iff.1 h4).1).trans ?_
  rw [h4]
  rfl
set_option maxRecDepth 20000 in
set_option maxHeartbeats 1000000 in
theorem cPoolIn (ao : Option Addr) (n ac : Nat) (name : ByteArray) (ps : List Pl) (w : World) (hr : RowAt w (.slice ao n ac) n (flatP ps)) (hn : ps.length = n) (hlen : n ≤ maxLen) :
    Calls Tryz.prog 135 #[.slice ao n ac, .string name] w fun e w' => e = .returned (plA (inP ps name)) ∧ Below w.heap.size w w' := by
  have HF := hideIt (fun u (hb : Below w.heap.size w u) => cFind ao n ac name ps u (hr.nx hb) hn hlen)
  have HB0 := hideIt (nx_alloc w (bPl zPl))
  clear hr hn
  cases hf : ps.find? (isNameP name) with
  | none =>
    have HI : Hid (inP ps name = ⟨name, 0, 0, 0⟩) := by show _ = _; rw [inP, hf]
    rw [hf] at HF
    clear hf
    go_enter Tryz.func135, Tryz.ntmps135
    go_wp2_with fail
    refine (HF.out _ HB0.out).mono ?_; rintro e w1 ⟨rfl, hb1⟩
    have hh : w1.heap[w.heap.size]? = some (bPl zPl) := (hb1.block _ (by simp)).trans (heap_alloc_at _ _ rfl)
    have HB1 := hideIt (nx_trans HB0.out hb1)
    have hz1 : w.heap.size < w1.heap.size := (Array.getElem?_eq_some_iff.1 hh).1
    obtain ⟨c0, c1, c2, c3, cz⟩ := blk4 (Below.refl w1.heap.size w1) hz1 hh
    have HL := hideIt (last4 hh (.string name) (.int .i64 0) (.int .i64 0) (.int .i64 0) (bPl zPl))
    clear hb1 HF HB0 hh
    unfold findV
    go_wp2_with fail
    obtain ⟨FW, hFW⟩ : ∃ FW, ((((((w1.setCell ⟨w.heap.size, 0, none⟩ (.string name)).setCell ⟨w.heap.size, 1, none⟩ (.int .i64 0)).setCell ⟨w.heap.size, 2, none⟩ (.int .i64 0)).setCell ⟨w.heap.size, 3, none⟩ (.int .i64 0))).alloc (bPl zPl)) = FW := ⟨_, rfl⟩
    have hBF : Below w.heap.size w FW := by
      rw [← hFW]
      exact ((((HB1.out.setCell (Nat.le_refl _) _).setCell (Nat.le_refl _) _).setCell (Nat.le_refl _) _).setCell (Nat.le_refl _) _).alloc (by simp; omega) _
    rw [hFW] at HL ⊢
    obtain ⟨f0, f1, f2, f3, fz⟩ := blk4 (Below.refl FW.heap.size FW) (Array.getElem?_eq_some_iff.1 HL.out).1 HL.out
    clear hFW c0 c1 c2 c3 cz
    refine bodyPost_ret (v := plA ⟨name, 0, 0, 0⟩) (by simp [results, Tryz.results135, go_sem, f0, f1, f2, f3]) rfl ⟨by rw [HI.out], hBF⟩
  | some p =>
    obtain ⟨x0, x1, x2, x3⟩ := p
    have HI : Hid (inP ps name = ⟨x0, x1, x2, x3⟩) := by show _ = _; rw [inP, hf]
    rw [hf] at HF
    clear hf
    go_enter Tryz.func135, Tryz.ntmps135
    go_wp2_with fail
    refine (HF.out _ HB0.out).mono ?_; rintro e w1 ⟨rfl, hb1⟩
    have hh : w1.heap[w.heap.size]? = some (bPl zPl) := (hb1.block _ (by simp)).trans (heap_alloc_at _ _ rfl)
    have HB1 := hideIt (nx_trans HB0.out hb1)
    have hz1 : w.heap.size < w1.heap.size := (Array.getElem?_eq_some_iff.1 hh).1
    obtain ⟨c0, c1, c2, c3, cz⟩ := blk4 (Below.refl w1.heap.size w1) hz1 hh
    have HL := hideIt (last4 hh (.string x0) (.int .i64 x1) (.int .i64 x2) (.int .i64 x3) (bPl ⟨x0, x1, x2, x3⟩))
    clear hb1 HF HB0 hh
    unfold findV
    go_wp2_with fail
    obtain ⟨FW, hFW⟩ : ∃ FW, ((((((w1.setCell ⟨w.heap.size, 0, none⟩ (.string x0)).setCell ⟨w.heap.size, 1, none⟩ (.int .i64 x1)).setCell ⟨w.heap.size, 2, none⟩ (.int .i64 x2)).setCell ⟨w.heap.size, 3, none⟩ (.int .i64 x3))).alloc (bPl ⟨x0, x1, x2, x3⟩)) = FW := ⟨_, rfl⟩
    have hBF : Below w.heap.size w FW := by
      rw [← hFW]
      exact ((((HB1.out.setCell (Nat.le_refl _) _).setCell (Nat.le_refl _) _).setCell (Nat.le_refl _) _).setCell (Nat.le_refl _) _).alloc (by simp; omega) _
    rw [hFW] at HL ⊢
    obtain ⟨f0, f1, f2, f3, fz⟩ := blk4 (Below.refl FW.heap.size FW) (Array.getElem?_eq_some_iff.1 HL.out).1 HL.out
    clear hFW c0 c1 c2 c3 cz
    refine bodyPost_ret (v := plA ⟨x0, x1, x2, x3⟩) (by simp [results, Tryz.results135, go_sem, f0, f1, f2, f3]) rfl ⟨by rw [HI.out], hBF⟩
set_option maxRecDepth 20000 in
set_option maxHeartbeats 1000000 in
theorem cBudget (k f t : Int) (w : World) : Calls Tryz.prog 115 #[.int .i64 k, .int .i64 f, .int .i64 t] w fun e w' => ∃ ao c, e = .returned (.slice ao (budL k f t).length c) ∧ RowAt w' (.slice ao (budL k f t).length c) (budL k f t).length (flatT (budL k f t)) ∧ (ao = none → c = 0) ∧ Below w.heap.size w w' := by
  cases hl : leadsB k f t with
  | false =>
    have HB : Hid (budL k f t = []) := by show _ = _; rw [budL, hl]; rfl
    go_enter Tryz.func115, Tryz.ntmps115
    go_wp2_with fail
    refine (cLeads _ _ _ _).mono ?_; rintro e w1 ⟨rfl, h1⟩; obtain rfl := h1.symm
    rw [hl]
    go_wp2_with fail
    go_ret
    exact ⟨none, 0, by rw [HB.out]; rfl, by rw [HB.out]; exact row_nil _ _ _, fun _ => rfl, Below.refl _ _⟩
  | true =>
    have HB : Hid (budL k f t = [⟨k, ⟨#[]⟩, t⟩]) := by show _ = _; rw [budL, hl]; rfl
    go_enter Tryz.func115, Tryz.ntmps115
    go_wp2_with fail
    refine (cLeads _ _ _ _).mono ?_; rintro e w1 ⟨rfl, h1⟩; obtain rfl := h1.symm
    rw [hl]
    go_wp2_with fail
    go_ret
    exact ⟨some ⟨w.heap.size, 0, none⟩, 1, by rw [HB.out]; rfl, by rw [HB.out]; exact row_new w [.int .i64 k, .string ⟨#[]⟩, .int .i64 t] _ 1 rfl, (fun h => by cases h), nx_alloc _ _⟩
set_option maxRecDepth 20000 in
set_option maxHeartbeats 2000000 in
theorem cMissing (kd : Int) (ao : Option Addr) (n ac : Nat) (ps : List Pl) (bo : Option Addr) (m bc : Nat) (qs : List Pl) (w : World) (hr : RowAt w (.slice ao n ac) n (flatP ps)) (hn : ps.length = n) (hq : n ≤ 1099511627776) (hr2 : RowAt w (.slice bo m bc) m (flatP qs)) (hm : qs.length = m) (hm2 : m ≤ maxLen) :
    Calls Tryz.prog 114 #[.int .i64 kd, .slice ao n ac, .slice bo m bc] w fun e w' => ∃ vo vc, e = .returned (.slice vo (missL kd ps qs).length vc) ∧ w'.ownsRow w.heap.size 71 3 (.slice vo (missL kd ps qs).length vc) (missL kd ps qs).length (flatT (missL kd ps qs)) ∧ Below w.heap.size w w' := by
  have HR : Hid (RowAt w (.slice ao n ac) n (flatP ps) ∧ ps.length = n) := ⟨hr, hn⟩
  have HH := hideIt (fun u (hb : Below w.heap.size w u) name => cHas bo m bc name qs u (hr2.nx hb) hm hm2)
  clear hr hn hr2 hm
  go_enter Tryz.func114, Tryz.ntmps114
  go_wp2_with fail
  go_loopw [7, 8, 9] (fun l i nm wr => ∃ (k j : Nat) (vo : Option Addr) (vc : Nat), k ≤ n ∧ j ≤ k ∧ i = .int .i64 k ∧ l = .slice vo j vc ∧ Hid ((missL kd (ps.take k) qs).length = j ∧ wr.ownsRow w.heap.size 71 3 (.slice vo j vc) j (flatT (missL kd (ps.take k) qs)) ∧ Below w.heap.size w wr)) (fun _ i _ _ => n - (intOf i).toNat)
  case atStart => exact ⟨0, 0, some ⟨w.heap.size, 0, none⟩, 0, Nat.zero_le _, Nat.le_refl _, rfl, rfl, by simp [missL], made0 w _ 3 _ rfl _ (Nat.le_refl _), nx_alloc _ _⟩
  case round =>
    obtain ⟨k, j, vo, vc, hk, hj, rfl, rfl, HS⟩ := hrel
    by_cases hlt : k < n
    · obtain ⟨⟨x0, x1, x2, x3⟩, hp⟩ : ∃ p, ps[k]? = some p := ⟨_, List.getElem?_eq_getElem (by rw [HR.out.2]; exact hlt)⟩
      obtain ⟨bl, off, hao, hbl, c0, c1, c2, c3⟩ := pool_at (HR.out.1.nx HS.out.2.2) hp
      subst hao
      simp only at c0 c1 c2 c3
      have hlti : (k : Int) < (n : Int) := by omega
      have HNX : Hid (missL kd (ps.take (k + 1)) qs = missL kd (ps.take k) qs ++ if qs.any (isNameP x0) = true then [] else [stepP kd x0 0]) := by
        obtain ⟨hk', e⟩ := List.getElem?_eq_some_iff.1 hp
        show _ = _
        unfold missL
        rw [List.take_succ_eq_append_getElem hk', List.filter_append, List.map_append, e]
        congr 1
        cases hkk : qs.any (isNameP x0) <;> simp [hasP, hkk]
      clear hp
      go_wp2_with fail
      refine (HH.out _ HS.out.2.2 _).mono ?_; rintro e w1 ⟨rfl, h1⟩; obtain rfl := h1.symm
      cases hx : qs.any (isNameP x0) with
      | true =>
        have HN : Hid (missL kd (ps.take (k + 1)) qs = missL kd (ps.take k) qs) := by
          show _ = _
          rw [HNX.out, hx]; simp
        clear hx
        go_wp2_with fail
        go_roundw
        case rel => exact ⟨k + 1, j, vo, vc, by omega, by omega, by go_num, rfl, by rw [HN.out]; exact HS.out⟩
        case measure => simp [intOf]; omega
      | false =>
        have HN : Hid (missL kd (ps.take (k + 1)) qs = missL kd (ps.take k) qs ++ [stepP kd x0 0]) := by
          show _ = _
          rw [HNX.out, hx]; simp
        clear hx
        go_wp2_with (at_builtin; refine appendG 71 31 3 32 _ info_S Tryz.underlying31 rfl (by decide) (by decide) rfl (.tmp 26) (.tmp 30) rfl w.heap.size _ j (flatT (missL kd (ps.take k) qs)) rfl (HS.out.2.1.alloc _) (some ⟨wr.heap.size, 0, none⟩) 1 1 [.int .i64 kd, .string x0, .int .i64 0] rfl rfl (row_new wr [.int .i64 kd, .string x0, .int .i64 0] _ 1 rfl) (by intro u hu; simp at hu; rcases hu with rfl | rfl | rfl <;> rfl) (fun h => by cases h) (by omega) (by simp; have := HS.out.2.2.size; omega) ?next)
        case next =>
          intro v' w6 hown6 hb6
          obtain ⟨vo6, vc6, rfl, _⟩ := own_row hown6
          have K6 : Hid ((missL kd (ps.take (k + 1)) qs).length = j + 1 ∧ w6.ownsRow w.heap.size 71 3 (.slice vo6 (j + 1) vc6) (j + 1) (flatT (missL kd (ps.take (k + 1)) qs)) ∧ Below w.heap.size w w6) := by
            refine ⟨by rw [HN.out]; simp [HS.out.1], ?_, (HS.out.2.2.alloc HS.out.2.2.size _).trans hb6⟩
            rw [HN.out]
            unfold flatT
            rw [List.flatMap_append]
            exact hown6
          clear hown6 hb6
          go_wp2_with fail
          go_roundw
          case rel => exact ⟨k + 1, j + 1, vo6, vc6, by omega, by omega, by go_num, rfl, K6.out⟩
          case measure => simp [intOf]; omega
    · have HE : Hid ((missL kd ps qs).length = j ∧ wr.ownsRow w.heap.size 71 3 (.slice vo j vc) j (flatT (missL kd ps qs)) ∧ Below w.heap.size w wr) := by
        have ht : ps.take k = ps := List.take_of_length_le (by rw [HR.out.2]; omega)
        have := HS.out
        rw [ht] at this
        exact this
      go_wp2_with fail
      go_ret
      exact ⟨vo, vc, by rw [HE.out.1]; rfl, by rw [HE.out.1]; exact HE.out.2.1, HE.out.2.2⟩
end Df
end Go.Proofs.YtohbonfngeblkaaGreat
