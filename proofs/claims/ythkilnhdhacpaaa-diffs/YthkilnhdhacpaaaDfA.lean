
import Derived.Test.YthkilnhdhacpaaaRfA
import Derived.Test.YthkilnhdhacpaaaCdA
namespace Go.Proofs.Ythkilnhdhacpaaa
open Go.RowKit
namespace Df
open Co Lw

theorem find_at {α : Type} {p : α → Bool} : ∀ {l : List α} {k : Nat} {x : α}, (∀ y ∈ l.take k, p y = false) → l[k]? = some x → p x = true → l.find? p = some x
  | [], k, x, _, hx, _ => by simp at hx
  | y :: r, 0, x, _, hx, hp => by
    simp at hx; subst hx
    exact List.find?_cons_of_pos hp
  | y :: r, k + 1, x, hn, hx, hp => by
    have h0 : p y = false := hn y (by simp)
    rw [List.find?_cons_of_neg (by rw [h0]; simp)]
    exact find_at (k := k) (fun z hz => hn z (by simp [hz])) (by simpa using hx) hp
theorem find_no {α : Type} {p : α → Bool} {l : List α} (hn : ∀ y ∈ l, p y = false) : l.find? p = none := by
  rw [List.find?_eq_none]
  intro x hx; rw [hn x hx]; simp
theorem any_at {α : Type} {p : α → Bool} {l : List α} {k : Nat} {x : α} (hx : l[k]? = some x) (hp : p x = true) : l.any p = true := List.any_eq_true.2 ⟨x, List.mem_of_getElem? hx, hp⟩
theorem any_no {α : Type} {p : α → Bool} {l : List α} (hn : ∀ y ∈ l, p y = false) : l.any p = false := by
  rw [List.any_eq_false]
  intro x hx; rw [hn x hx]; simp

/-- the plain functions of the code -/
def leadsB (k f t : Int) : Bool := if k = 1 ∨ k = 3 then decide (t < f) else if k = 7 ∨ k = 8 then decide (f < t) else !decide (t = f)
def numP (k : Int) (p : Pl) : Int := if k = 5 then p.fr else if k = 6 then p.wt else p.sz
def inP (ps : List Pl) (nm : ByteArray) : Pl := match ps.find? (isNameP nm) with
  | some p => p
  | none => ⟨nm, 0, 0, 0⟩
def hasP (ps : List Pl) (p : Pl) : Bool := ps.any (isNameP p.nm)
def stepP (k : Int) (nm : ByteArray) (n : Int) : Stp := ⟨k, nm, n⟩
def missL (k : Int) (ps qs : List Pl) : List Stp := (ps.filter (fun p => !hasP qs p)).map (fun p => stepP k p.nm 0)
def budL (k f t : Int) : List Stp := if leadsB k f t = true then [⟨k, ⟨#[]⟩, t⟩] else []
def chgP (k : Int) (ps : List Pl) (p : Pl) : Bool := leadsB k (numP k (inP ps p.nm)) (numP k p)
def chgL (k : Int) (ps bs : List Pl) : List Stp := (bs.filter (chgP k ps)).map (fun p => stepP k p.nm (numP k p))
def kindL (k : Int) (ba : Int) (ps : List Pl) (bb : Int) (bs : List Pl) : List Stp :=
  if k = 2 then missL k ps bs else if k = 4 then missL k bs ps else if k = 3 ∨ k = 7 then budL k ba bb else chgL k ps bs
def diffTo (n : Nat) (ba : Int) (ps : List Pl) (bb : Int) (bs : List Pl) : List Stp := (List.range n).flatMap (fun (i : Nat) => kindL ((i : Int) + 1) ba ps bb bs)
def diffL (ba : Int) (ps : List Pl) (bb : Int) (bs : List Pl) : List Stp := diffTo 8 ba ps bb bs

theorem cLeads (k f t : Int) (w : World) : Calls Try.prog 32 #[.int .i64 k, .int .i64 f, .int .i64 t] w fun e w' => e = .returned (.bool (leadsB k f t)) ∧ w' = w := by
  by_cases h1 : k = 1
  · subst h1
    go_enter Try.func32, Try.ntmps32
    go_wp2_with fail
    go_ret
    exact ⟨by simp [leadsB], rfl⟩
  · by_cases h3 : k = 3
    · subst h3
      go_enter Try.func32, Try.ntmps32
      go_wp2_with fail
      go_ret
      exact ⟨by simp [leadsB], rfl⟩
    · by_cases h7 : k = 7
      · subst h7
        go_enter Try.func32, Try.ntmps32
        go_wp2_with fail
        go_ret
        exact ⟨by simp [leadsB], rfl⟩
      · by_cases h8 : k = 8
        · subst h8
          go_enter Try.func32, Try.ntmps32
          go_wp2_with fail
          go_ret
          exact ⟨by simp [leadsB], rfl⟩
        · have b1 : (k == 1) = false := by simp [h1]
          have b3 : (k == 3) = false := by simp [h3]
          have b7 : (k == 7) = false := by simp [h7]
          have b8 : (k == 8) = false := by simp [h8]
          have HE : Hid (leadsB k f t = !decide (t = f)) := by show _ = _; simp [leadsB, h1, h3, h7, h8]
          clear h1 h3 h7 h8
          go_enter Try.func32, Try.ntmps32
          go_wp2_with fail
          go_ret
          exact ⟨ret_bool (by rw [HE.out]; first | rfl | simp), rfl⟩

theorem cNum (k : Int) (nm : ByteArray) (sz wt fr : Int) (w : World) : Calls Try.prog 34 #[.int .i64 k, .agg #[.string nm, .int .i64 sz, .int .i64 wt, .int .i64 fr]] w fun e w' => e = .returned (.int .i64 (numP k ⟨nm, sz, wt, fr⟩)) ∧ Below w.heap.size w w' := by
  by_cases h5 : k = 5
  · subst h5
    go_enter Try.func34, Try.ntmps34
    go_wp2_with fail
    go_ret
    exact ⟨by simp [numP], nx_alloc _ _⟩
  · by_cases h6 : k = 6
    · subst h6
      go_enter Try.func34, Try.ntmps34
      go_wp2_with fail
      go_ret
      exact ⟨by simp [numP], nx_alloc _ _⟩
    · have b5 : (k == 5) = false := by simp [h5]
      have b6 : (k == 6) = false := by simp [h6]
      have HE : Hid (numP k ⟨nm, sz, wt, fr⟩ = sz) := by show _ = _; simp [numP, h5, h6]
      clear h5 h6
      go_enter Try.func34, Try.ntmps34
      go_wp2_with fail
      go_ret
      exact ⟨ret_i HE.out.symm, nx_alloc _ _⟩

abbrev zPl : Pl := ⟨⟨#[]⟩, 0, 0, 0⟩
def findV (o : Option Pl) : Value := match o with | some p => .tuple #[plA p, .bool true] | none => .tuple #[plA zPl, .bool false]
set_option maxRecDepth 20000 in
set_option maxHeartbeats 1000000 in
theorem cFind (ao : Option Addr) (n ac : Nat) (name : ByteArray) (ps : List Pl) (w : World) (hr : RowAt w (.slice ao n ac) n (flatP ps)) (hn : ps.length = n) (hlen : n ≤ maxLen) :
    Calls Try.prog 35 #[.slice ao n ac, .string name] w fun e w' => e = .returned (findV (ps.find? (isNameP name))) ∧ Below w.heap.size w w' := by
  unfold maxLen at hlen
  have HR : Hid (RowAt (w.alloc (bPl zPl)) (.slice ao n ac) n (flatP ps) ∧ ps.length = n) := ⟨hr.nx (nx_alloc _ _), hn⟩
  clear hr hn
  go_enter Try.func35, Try.ntmps35
  go_wp2_with fail
  go_loop [6] (fun i => ∃ k : Nat, k ≤ n ∧ i = .int .i64 k ∧ Hid (∀ y ∈ ps.take k, (isNameP name) y = false)) (fun i => n - (intOf i).toNat)
  case atStart => exact ⟨0, Nat.zero_le _, rfl, by intro y hy; simp at hy⟩
  case round =>
    obtain ⟨k, hk, rfl, HT⟩ := hrel
    by_cases hlt : k < n
    · have HRW := HR.out.1
      obtain ⟨⟨x0, x1, x2, x3⟩, hp⟩ : ∃ p, ps[k]? = some p := ⟨_, List.getElem?_eq_getElem (by rw [HR.out.2]; exact hlt)⟩
      obtain ⟨bl, off, hao, hbl, c0, c1, c2, c3⟩ := pool_at HRW hp
      subst hao
      simp only at c0 c1 c2 c3
      have hlti : (k : Int) < (n : Int) := by omega
      clear HRW
      cases hq : (x0.toList == name.toList) with
      | true =>
        have HH : Hid (ps.find? (isNameP name) = some ⟨x0, x1, x2, x3⟩) := find_at HT.out hp hq
        clear hp
        go_wp2_with fail
        refine bodyPost_ret (v := .tuple #[plA ⟨x0, x1, x2, x3⟩, .bool true]) (by simp [results, Try.results35, go_sem]) rfl ⟨by rw [HH.out]; rfl, ?_⟩
        exact nx_alloc _ _
      | false =>
        have HN : Hid (∀ y ∈ ps.take (k + 1), (isNameP name) y = false) := take_next HT.out hp (by show (x0.toList == name.toList) = false; exact hq)
        clear hp
        go_wp2_with fail
        go_round
        case rel => exact ⟨k + 1, by omega, by go_num, HN.out⟩
        case measure => simp [intOf]; omega
    · have HM : Hid (ps.find? (isNameP name) = none) := find_no (fun y hy => HT.out y (by rw [List.take_of_length_le (by rw [HR.out.2]; omega)]; exact hy))
      go_wp2_with fail
      refine bodyPost_ret (v := .tuple #[plA zPl, .bool false]) (by simp [results, Try.results35, go_sem]) rfl ⟨by rw [HM.out]; rfl, ?_⟩
      exact nx_alloc _ _

set_option maxRecDepth 20000 in
set_option maxHeartbeats 1000000 in
theorem cHas (ao : Option Addr) (n ac : Nat) (name : ByteArray) (ps : List Pl) (w : World) (hr : RowAt w (.slice ao n ac) n (flatP ps)) (hn : ps.length = n) (hlen : n ≤ maxLen) :
    Calls Try.prog 31 #[.slice ao n ac, .string name] w fun e w' => e = .returned (.bool (ps.any (isNameP name))) ∧ w' = w := by
  unfold maxLen at hlen
  have HR : Hid (RowAt w (.slice ao n ac) n (flatP ps) ∧ ps.length = n) := ⟨hr, hn⟩
  clear hr hn
  go_enter Try.func31, Try.ntmps31
  go_wp2_with fail
  go_loop [5] (fun i => ∃ k : Nat, k ≤ n ∧ i = .int .i64 k ∧ Hid (∀ y ∈ ps.take k, (isNameP name) y = false)) (fun i => n - (intOf i).toNat)
  case atStart => exact ⟨0, Nat.zero_le _, rfl, by intro y hy; simp at hy⟩
  case round =>
    obtain ⟨k, hk, rfl, HT⟩ := hrel
    by_cases hlt : k < n
    · have HRW := HR.out.1
      obtain ⟨⟨x0, x1, x2, x3⟩, hp⟩ : ∃ p, ps[k]? = some p := ⟨_, List.getElem?_eq_getElem (by rw [HR.out.2]; exact hlt)⟩
      obtain ⟨bl, off, hao, hbl, c0, c1, c2, c3⟩ := pool_at HRW hp
      subst hao
      simp only at c0 c1 c2 c3
      have hlti : (k : Int) < (n : Int) := by omega
      clear HRW
      cases hq : (x0.toList == name.toList) with
      | true =>
        have HH : Hid (ps.any (isNameP name) = true) := any_at hp hq
        clear hp
        go_wp2_with fail
        go_ret
        exact ⟨by rw [HH.out]; rfl, rfl⟩
      | false =>
        have HN : Hid (∀ y ∈ ps.take (k + 1), (isNameP name) y = false) := take_next HT.out hp (by show (x0.toList == name.toList) = false; exact hq)
        clear hp
        go_wp2_with fail
        go_round
        case rel => exact ⟨k + 1, by omega, by go_num, HN.out⟩
        case measure => simp [intOf]; omega
    · have HM : Hid (ps.any (isNameP name) = false) := any_no (fun y hy => HT.out y (by rw [List.take_of_length_le (by rw [HR.out.2]; omega)]; exact hy))
      go_wp2_with fail
      go_ret
      exact ⟨by rw [HM.out]; rfl, rfl⟩
end Df
end Go.Proofs.Ythkilnhdhacpaaa
