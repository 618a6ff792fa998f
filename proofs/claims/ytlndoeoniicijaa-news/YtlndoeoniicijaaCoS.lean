
import Derived.Test.YtlndoeoniicijaaCoR
import Derived.Maps.AppendAt
namespace Go.Proofs.Ytlndoeoniicijaa
open Go.RowKit
namespace Co

/-- the words of the kinds -/
def kwW (k : Nat) : List UInt8 := match k with
  | 1 => [98, 117, 100, 103, 101, 116] | 2 => [98, 97, 115, 101] | 3 => [112, 111, 111, 108] | k => List.replicate (k + 10) 0
def kwK (k : Nat) : ByteArray := ⟨(kwW k).toArray⟩
theorem kwK_list (a : Nat) : (kwK a).toList = kwW a := by
  rw [ByteArray.toList_eq]; rfl
theorem kwW_other (a : Nat) (h1 : a ≠ 1) (h2 : a ≠ 2) (h3 : a ≠ 3) : kwW a = List.replicate (a + 10) 0 := by
  unfold kwW; split <;> simp_all
theorem kwW_len (a : Nat) : (kwW a).length = (if a = 1 then 6 else if a = 2 ∨ a = 3 then 4 else a + 10) := by
  by_cases a1 : a = 1
  · subst a1; rfl
  · by_cases a2 : a = 2
    · subst a2; rfl
    · by_cases a3 : a = 3
      · subst a3; rfl
      · rw [kwW_other _ a1 a2 a3, if_neg a1, if_neg (by omega)]; simp
theorem kwW_inj (a b : Nat) (h : kwW a = kwW b) : a = b := by
  have hl := congrArg List.length h
  rw [kwW_len, kwW_len] at hl
  by_cases h23 : a = 2 ∧ b = 3
  · obtain ⟨rfl, rfl⟩ := h23; simp [kwW] at h
  by_cases h32 : a = 3 ∧ b = 2
  · obtain ⟨rfl, rfl⟩ := h32; simp [kwW] at h
  split at hl <;> split at hl <;> (try split at hl) <;> (try split at hl) <;> omega
theorem kwK_eq (a b : Nat) : ((kwK a).toList == (kwK b).toList) = decide (a = b) := by
  rw [kwK_list, kwK_list, Bool.eq_iff_iff]
  simp only [beq_iff_eq, decide_eq_true_iff]
  exact ⟨kwW_inj a b, fun h => by rw [h]⟩

/-- the reference's lines: each with the values of its two lists -/
abbrev RL := Ln × Value × Value
def ints (xs : List Nat) : List Value := xs.map fun (n : Nat) => Value.int .i64 (n : Int)
theorem ints_at {xs : List Nat} {k n : Nat} (h : xs[k]? = some n) : (ints xs)[k]? = some (.int .i64 (n : Int)) := by simp [ints, h]
def keysOf (l : Ln) : List Nat := if l.kind = 1 then [] else l.sets.map (·.1)
def valsOf (l : Ln) : List Nat := l.sets.map (·.2)
def flatR : List RL → List Value
  | [] => []
  | p :: r => .string (kwK p.1.kind) :: .string p.1.name :: .string p.1.frm :: p.2.1 :: p.2.2 :: .int .i64 (p.1.place : Int) :: flatR r
theorem flatR_append : ∀ a b : List RL, flatR (a ++ b) = flatR a ++ flatR b
  | [], b => rfl
  | p :: a, b => by simp [flatR, flatR_append a b]
theorem flatR_at : ∀ (ls : List RL) (i : Nat) (l : Ln) (kv vv : Value), ls[i]? = some (l, kv, vv) → (flatR ls)[i * 6]? = some (.string (kwK l.kind)) ∧ (flatR ls)[i * 6 + 1]? = some (.string l.name) ∧ (flatR ls)[i * 6 + 2]? = some (.string l.frm) ∧ (flatR ls)[i * 6 + 3]? = some kv ∧ (flatR ls)[i * 6 + 4]? = some vv ∧ (flatR ls)[i * 6 + 5]? = some (.int .i64 (l.place : Int))
  | [], i, l, kv, vv, h => by simp at h
  | q :: r, 0, l, kv, vv, h => by simp at h; subst h; simp [flatR]
  | q :: r, i + 1, l, kv, vv, h => by
    have ih := flatR_at r i l kv vv (by simpa using h)
    have e0 : (i + 1) * 6 = i * 6 + 6 := by omega
    rw [e0]
    simp only [flatR]
    exact ih
def Lists (w : World) (p : RL) : Prop := RowAt w p.2.1 (keysOf p.1).length (ints (keysOf p.1)) ∧ RowAt w p.2.2 p.1.sets.length (ints (valsOf p.1))
theorem Lists.nx {w w' : World} {p : RL} (h : Lists w p) (hb : Below w.heap.size w w') : Lists w' p := ⟨h.1.nx hb, h.2.nx hb⟩
def RLinesAt (w : World) (v : Value) (ls : List RL) : Prop := RowAt w v ls.length (flatR ls) ∧ ∀ p ∈ ls, Lists w p
theorem RLinesAt.nx {w w' : World} {v : Value} {ls : List RL} (h : RLinesAt w v ls) (hb : Below w.heap.size w w') : RLinesAt w' v ls := ⟨h.1.nx hb, fun p hp => (h.2 p hp).nx hb⟩
theorem row_at6 {w : World} {b off n cap : Nat} {m : Nat} {cs : List Value} (h : RowAt w (.slice (some ⟨b, off, none⟩) n cap) m cs) : ∀ (j : Nat) (x : Value), cs[j]? = some x → w.cell? ⟨b, off + j, none⟩ = some x := by
  intro j x hx
  obtain ⟨b', off', e, _, g⟩ := h.at hx
  simp only [Option.some.injEq, Addr.mk.injEq, and_true] at e
  obtain ⟨rfl, rfl⟩ := e
  exact g
theorem RLinesAt.at {w : World} {ao : Option Addr} {n cap : Nat} {ls : List RL} (h : RLinesAt w (.slice ao n cap) ls) {k : Nat} {l : Ln} {kv vv : Value} (hk : ls[k]? = some (l, kv, vv)) :
    ∃ b off ko kc vo vc, ao = some ⟨b, off, none⟩ ∧ b < w.heap.size ∧ kv = .slice ko (keysOf l).length kc ∧ vv = .slice vo l.sets.length vc ∧ RowAt w (.slice ko (keysOf l).length kc) (keysOf l).length (ints (keysOf l)) ∧ RowAt w (.slice vo l.sets.length vc) l.sets.length (ints (valsOf l)) ∧
      w.cell? ⟨b, off + k * 6, none⟩ = some (.string (kwK l.kind)) ∧ w.cell? ⟨b, off + k * 6 + 1, none⟩ = some (.string l.name) ∧ w.cell? ⟨b, off + k * 6 + 2, none⟩ = some (.string l.frm) ∧
      w.cell? ⟨b, off + k * 6 + 3, none⟩ = some (.slice ko (keysOf l).length kc) ∧ w.cell? ⟨b, off + k * 6 + 4, none⟩ = some (.slice vo l.sets.length vc) ∧ w.cell? ⟨b, off + k * 6 + 5, none⟩ = some (.int .i64 (l.place : Int)) := by
  obtain ⟨f0, f1, f2, f3, f4, f5⟩ := flatR_at ls k l kv vv hk
  obtain ⟨b, off, rfl, hb, g0⟩ := h.1.at f0
  have hin := row_at6 h.1
  obtain ⟨hk1, hv1⟩ := h.2 _ (List.mem_of_getElem? hk)
  simp only at hk1 hv1
  obtain ⟨ko, kc, rfl, hkk⟩ := hk1
  obtain ⟨vo, vc, rfl, hvv⟩ := hv1
  have ha : ∀ j, off + k * 6 + j = off + (k * 6 + j) := fun j => by omega
  refine ⟨b, off, ko, kc, vo, vc, rfl, hb, rfl, rfl, ⟨_, _, rfl, hkk⟩, ⟨_, _, rfl, hvv⟩, g0, ?_, ?_, ?_, ?_, ?_⟩
  · rw [ha]; exact hin _ _ f1
  · rw [ha]; exact hin _ _ f2
  · rw [ha]; exact hin _ _ f3
  · rw [ha]; exact hin _ _ f4
  · rw [ha]; exact hin _ _ f5
theorem ints_row {w : World} {so : Option Addr} {n sc m : Nat} {xs : List Nat} (h : RowAt w (.slice so n sc) m (ints xs)) {k a : Nat} (hk : xs[k]? = some a) :
    ∃ b off, so = some ⟨b, off, none⟩ ∧ b < w.heap.size ∧ w.cell? ⟨b, off + k, none⟩ = some (.int .i64 (a : Int)) := h.at (ints_at hk)
abbrev bareR (ls : List RL) : List Ln := ls.map (·.1)
theorem bareR_at {ls : List RL} {k : Nat} {p : RL} (h : ls[k]? = some p) : (bareR ls)[k]? = some p.1 := by simp [bareR, h]
theorem bareR_len (ls : List RL) : (bareR ls).length = ls.length := by simp [bareR]

abbrev rlA (wd nm fr : ByteArray) (ko : Option Addr) (nk kc : Nat) (vo : Option Addr) (nv vc : Nat) (pl : Int) : Value := .agg #[.string wd, .string nm, .string fr, .slice ko nk kc, .slice vo nv vc, .int .i64 pl]
abbrev bRL (wd nm fr : ByteArray) (ko : Option Addr) (nk kc : Nat) (vo : Option Addr) (nv vc : Nat) (pl : Int) : Obj := .cells #[.string wd, .string nm, .string fr, .slice ko nk kc, .slice vo nv vc, .int .i64 pl] 93

def mostN (k : Nat) : Nat := match k with | 0 => 20 | 1 => 20 | _ => 999
theorem most_any (k : Nat) (w : World) : Calls Try.prog 64 #[.int .i64 (k : Int)] w fun e w' => e = .returned (.int .i64 (mostN k)) ∧ w' = w := by
  match k with
  | 0 => go_enter Try.func64, Try.ntmps64; go_wp2; go_ret; exact ⟨rfl, rfl⟩
  | 1 => go_enter Try.func64, Try.ntmps64; go_wp2; go_ret; exact ⟨rfl, rfl⟩
  | k + 2 =>
    have h0 : (((k + 2 : Nat) : Int) == 0) = false := by simp; omega
    have h1 : (((k + 2 : Nat) : Int) == 1) = false := by simp; omega
    obtain ⟨q, hq⟩ : ∃ q : Int, ((k + 2 : Nat) : Int) = q := ⟨_, rfl⟩
    rw [hq] at h0 h1 ⊢
    clear hq
    go_enter Try.func64, Try.ntmps64; go_wp2; go_ret; exact ⟨rfl, rfl⟩
def plainN (k : Nat) : Int := if k = 0 then 1 else 0
theorem plain_any (k : Nat) (w : World) : Calls Try.prog 47 #[.int .i64 (k : Int)] w fun e w' => e = .returned (.int .i64 (plainN k)) ∧ w' = w := by
  match k with
  | 0 => go_enter Try.func47, Try.ntmps47; go_wp2; go_ret; exact ⟨rfl, rfl⟩
  | k + 1 =>
    have h0 : (((k + 1 : Nat) : Int) == 0) = false := by simp; omega
    obtain ⟨q, hq⟩ : ∃ q : Int, ((k + 1 : Nat) : Int) = q := ⟨_, rfl⟩
    rw [hq] at h0 ⊢
    clear hq
    go_enter Try.func47, Try.ntmps47; go_wp2; go_ret; exact ⟨rfl, rfl⟩

theorem cntC_snoc (ls : List Ln) (kind k : Nat) (l : Ln) (h : ls[k]? = some l) : cntC (ls.take (k + 1)) kind = cntC (ls.take k) kind + (if l.kind = kind then 1 else 0) := by
  obtain ⟨hk, e⟩ := List.getElem?_eq_some_iff.1 h
  unfold cntC
  rw [List.take_succ_eq_append_getElem hk, List.filter_append, e, List.length_append]
  by_cases hh : l.kind = kind <;> simp [hh]

set_option maxRecDepth 20000 in
set_option maxHeartbeats 1000000 in
theorem alike_any (kind : Nat) (ao : Option Addr) (cap n : Nat) (ls : List RL) (w : World) (hl : RLinesAt w (.slice ao n cap) ls) (hn : ls.length = n) (hn1 : n ≤ 1001) :
    Calls Try.prog 57 #[.slice ao n cap, .string (kwK kind)] w fun e w' => e = .returned (.int .i64 (cntC (bareR ls) kind)) ∧ w' = w := by
  have HN : Hid (ls.length = n) := hn
  have HL : Hid (RLinesAt w (.slice ao n cap) ls) := hl
  have HE := hideIt kwK_eq
  obtain ⟨kw, hkw⟩ : ∃ kw, kwK kind = kw := ⟨_, rfl⟩
  rw [hkw]
  have HKW := hideIt hkw
  clear hl hn hkw
  go_enter Try.func57, Try.ntmps57
  go_wp2_with fail
  go_loop [5, 6] (fun c i => ∃ (k q : Nat), k ≤ n ∧ i = .int .i64 k ∧ c = .int .i64 q ∧ q ≤ k ∧ Hid (cntC ((bareR ls).take k) kind = q)) (fun _ i => n - (intOf i).toNat)
  case atStart => exact ⟨0, 0, Nat.zero_le _, rfl, rfl, Nat.le_refl _, rfl⟩
  case round =>
    obtain ⟨k, q, hk, rfl, rfl, hq, HS⟩ := hrel
    by_cases hlt : k < n
    · obtain ⟨⟨l, kv, vv⟩, hp⟩ : ∃ p, ls[k]? = some p := ⟨_, List.getElem?_eq_getElem (by rw [HN.out]; exact hlt)⟩
      obtain ⟨bl, off, ko, kc, vo, vc, rfl, hbl, _, _, _, _, c0, c1, c2, c3, c4, c5⟩ := HL.out.at hp
      have HC := hideIt (cntC_snoc (bareR ls) kind k l (bareR_at hp))
      have hlti : (k : Int) < (n : Int) := by omega
      have hkb : ((kwK l.kind).toList == kw.toList) = decide (l.kind = kind) := by rw [← HKW.out]; exact HE.out _ _
      obtain ⟨lw, hlw⟩ : ∃ lw, kwK l.kind = lw := ⟨_, rfl⟩
      rw [hlw] at c0 hkb
      clear hp c1 c2 c3 c4 c5 hlw
      by_cases hkk : l.kind = kind
      · have hkb2 : (lw.toList == kw.toList) = true := by rw [hkb]; simp [hkk]
        have HK : Hid (l.kind = kind) := hkk
        clear hkk hkb
        go_wp2_with fail
        go_round
        case rel => exact ⟨k + 1, q + 1, by omega, by go_num, by go_num, by omega, (by show _ = _; rw [HC.out, HS.out, if_pos HK.out])⟩
        case measure => simp [intOf]; omega
      · have hkb2 : (lw.toList == kw.toList) = false := by rw [hkb]; simp [hkk]
        have HK : Hid (¬ l.kind = kind) := hkk
        clear hkk hkb
        go_wp2_with fail
        go_round
        case rel => exact ⟨k + 1, q, by omega, by go_num, rfl, by omega, (by show _ = _; rw [HC.out, HS.out, if_neg HK.out]; rfl)⟩
        case measure => simp [intOf]; omega
    · have HQ : Hid (cntC (bareR ls) kind = q) := by
        have h := HS.out
        rw [List.take_of_length_le (by rw [bareR_len, HN.out]; omega)] at h
        exact h
      go_wp2_with fail
      go_ret
      exact ⟨ret_i (by rw [HQ.out]), rfl⟩

/-- the place of the first line of a kind and a name -/
def hitC (kind : Nat) (name : ByteArray) (l : Ln) : Bool := (l.kind == kind) && (l.name.toList == name.toList)
def idxN : List Ln → Nat → ByteArray → Nat → Int
  | [], _, _, _ => -1
  | l :: r, kind, name, k => if hitC kind name l = true then (k : Int) else idxN r kind name (k + 1)
set_option maxRecDepth 20000 in
set_option maxHeartbeats 1000000 in
theorem rfind_any (kind : Nat) (name : ByteArray) (ao : Option Addr) (cap n : Nat) (ls : List RL) (w : World) (hl : RLinesAt w (.slice ao n cap) ls) (hn : ls.length = n) (hn1 : n ≤ 1001) :
    Calls Try.prog 45 #[.slice ao n cap, .string (kwK kind), .string name] w fun e w' => e = .returned (.int .i64 (idxN (bareR ls) kind name 0)) ∧ w' = w := by
  have HN : Hid (ls.length = n) := hn
  have HL : Hid (RLinesAt w (.slice ao n cap) ls) := hl
  have HE := hideIt kwK_eq
  obtain ⟨kw, hkw⟩ : ∃ kw, kwK kind = kw := ⟨_, rfl⟩
  rw [hkw]
  have HKW := hideIt hkw
  clear hl hn hkw
  go_enter Try.func45, Try.ntmps45
  go_wp2_with fail
  go_loop [7] (fun i => ∃ (k : Nat), k ≤ n ∧ i = .int .i64 k ∧ Hid (idxN ((bareR ls).drop k) kind name k = idxN (bareR ls) kind name 0)) (fun i => n - (intOf i).toNat)
  case atStart => exact ⟨0, Nat.zero_le _, rfl, rfl⟩
  case round =>
    obtain ⟨k, hk, rfl, HS⟩ := hrel
    by_cases hlt : k < n
    · obtain ⟨⟨l, kv, vv⟩, hp⟩ : ∃ p, ls[k]? = some p := ⟨_, List.getElem?_eq_getElem (by rw [HN.out]; exact hlt)⟩
      obtain ⟨bl, off, ko, kc, vo, vc, rfl, hbl, _, _, _, _, c0, c1, c2, c3, c4, c5⟩ := HL.out.at hp
      have HD : Hid ((bareR ls).drop k = l :: (bareR ls).drop (k + 1)) := drop_at (bareR_at hp)
      have hlti : (k : Int) < (n : Int) := by omega
      have hkb : ((kwK l.kind).toList == kw.toList) = decide (l.kind = kind) := by rw [← HKW.out]; exact HE.out _ _
      obtain ⟨lw, hlw⟩ : ∃ lw, kwK l.kind = lw := ⟨_, rfl⟩
      rw [hlw] at c0 hkb
      clear hp c2 c3 c4 c5 hlw
      by_cases hkk : l.kind = kind
      · have hkb2 : (lw.toList == kw.toList) = true := by rw [hkb]; simp [hkk]
        have HK : Hid (l.kind = kind) := hkk
        clear hkk hkb
        cases hnb : l.name.toList == name.toList
        · have HX : Hid (idxN ((bareR ls).drop (k + 1)) kind name (k + 1) = idxN (bareR ls) kind name 0) := by
            show _ = _; rw [← HS.out, HD.out, idxN, if_neg (by simp [hitC, hnb])]
          go_wp2_with fail
          go_round
          case rel => exact ⟨k + 1, by omega, by go_num, HX.out⟩
          case measure => simp [intOf]; omega
        · have HX : Hid ((k : Int) = idxN (bareR ls) kind name 0) := by
            show _ = _; rw [← HS.out, HD.out, idxN, if_pos (by simp [hitC, hnb, HK.out])]
          go_wp2_with fail
          go_ret
          exact ⟨ret_i HX.out, rfl⟩
      · have hkb2 : (lw.toList == kw.toList) = false := by rw [hkb]; simp [hkk]
        have HX : Hid (idxN ((bareR ls).drop (k + 1)) kind name (k + 1) = idxN (bareR ls) kind name 0) := by
          show _ = _; rw [← HS.out, HD.out, idxN, if_neg (by simp [hitC, hkk])]
        clear hkk hkb
        go_wp2_with fail
        go_round
        case rel => exact ⟨k + 1, by omega, by go_num, HX.out⟩
        case measure => simp [intOf]; omega
    · go_wp2_with fail
      go_ret
      exact ⟨ret_i (by rw [← HS.out, List.drop_of_length_le (by rw [bareR_len, HN.out]; omega)]; rfl), rfl⟩
end Co
end Go.Proofs.Ytlndoeoniicijaa
