import Derived.Test.YtmmmjpkhnbfnbaaGreatMgAe
import Derived.Maps.AppendAt
namespace Go.Proofs.YtmmmjpkhnbfnbaaGreat
open Go.RowKit
namespace Co

/-- the words of the kinds -/
def kwW (k : Nat) : List UInt8 := match k with
  | 1 => [98, 117, 100, 103, 101, 116] | 2 => [98, 97, 115, 101] | 3 => [112, 111, 111, 108] | k => List.replicate (k + 10) 0
def kwK (k : Nat) : ByteArray := ⟨(kwW k).toArray⟩
theorem kwK_list (a : Nat) : (kwK a).toList = kwW a := by
  rw [ByteArray.toList_eq]; rfl
theorem kwW_other (a : Nat) (h1 : a ≠ 1) (h2 : a ≠ 2) (h3 : a ≠ 3) : kwW a = List.replicate (a + 10) 0 := by
  unfold kwW; split <;> simp_all
theorem kwW_len (a : Nat) : (kwW a).length = (if a = 1 then 6 else if a = 2 ∨ a = 3 then 4 else a + 10) := by
  by_cases a1 : a = 1
  · subst a1; rfl
  · by_cases a2 : a = 2
    · subst a2; rfl
    · by_cases a3 : a = 3
      · subst a3; rfl
      · rw [kwW_other _ a1 a2 a3, if_neg a1, if_neg (by omega)]; simp
theorem kwW_inj (a b : Nat) (h : kwW a = kwW b) : a = b := by
  have hl := congrArg List.length h
  rw [kwW_len, kwW_len] at hl
  by_cases h23 : a = 2 ∧ b = 3
  · obtain ⟨rfl, rfl⟩ := h23; simp [kwW] at h
  by_cases h32 : a = 3 ∧ b = 2
  · obtain ⟨rfl, rfl⟩ := h32; simp [kwW] at h
  split at hl <;> split at hl <;> (try split at hl) <;> (try split at hl) <;> omega
theorem kwK_eq (a b : Nat) : ((kwK a).toList == (kwK b).toList) = decide (a = b) := by
  rw [kwK_list, kwK_list, Bool.eq_iff_iff]
  simp only [beq_iff_eq, decide_eq_true_iff]
  exact ⟨kwW_inj a b, fun h => by rw [h]⟩

/-- the reference's lines: each with the values of its two lists -/
abbrev RL := Ln × Value × Value
def ints (xs : List Nat) : List Value := xs.map fun (n : Nat) => Value.int .i64 (n : Int)
theorem ints_at {xs : List Nat} {k n : Nat} (h : xs[k]? = some n) : (ints xs)[k]? = some (.int .i64 (n : Int)) := by simp [ints, h]
def keysOf (l : Ln) : List Nat := if l.kind = 1 then [] else l.sets.map (·.1)
def valsOf (l : Ln) : List Nat := l.sets.map (·.2)
def flatR : List RL → List Value
  | [] => []
  | p :: r => .string (kwK p.1.kind) :: .string p.1.name :: .string p.1.frm :: p.2.1 :: p.2.2 :: .int .i64 (p.1.place : Int) :: flatR r
theorem flatR_append : ∀ a b : List RL, flatR (a ++ b) = flatR a ++ flatR b
  | [], b => rfl
  | p :: a, b => by simp [flatR, flatR_append a b]
theorem flatR_at : ∀ (ls : List RL) (i : Nat) (l : Ln) (kv vv : Value), ls[i]? = some (l, kv, vv) → (flatR ls)[i * 6]? = some (.string (kwK l.kind)) ∧ (flatR ls)[i * 6 + 1]? = some (.string l.name) ∧ (flatR ls)[i * 6 + 2]? = some (.string l.frm) ∧ (flatR ls)[i * 6 + 3]? = some kv ∧ (flatR ls)[i * 6 + 4]? = some vv ∧ (flatR ls)[i * 6 + 5]? = some (.int .i64 (l.place : Int))
  | [], i, l, kv, vv, h => by simp at h
  | q :: r, 0, l, kv, vv, h => by simp at h; subst h; simp [flatR]
  | q :: r, i + 1, l, kv, vv, h => by
    have ih := flatR_at r i l kv vv (by simpa using h)
    have e0 : (i + 1) * 6 = i * 6 + 6 := by omega
    rw [e0]
    simp only [flatR]
    exact ih
def Lists (w : World) (p : RL) : Prop := RowAt w p.2.1 (keysOf p.1).length (ints (keysOf p.1)) ∧ RowAt w p.2.2 p.1.sets.length (ints (valsOf p.1))
theorem Lists.nx {w w' : World} {p : RL} (h : Lists w p) (hb : Below w.heap.size w w') : Lists w' p := ⟨h.1.nx hb, h.2.nx hb⟩
def RLinesAt (w : World) (v : Value) (ls : List RL) : Prop := RowAt w v ls.length (flatR ls) ∧ ∀ p ∈ ls, Lists w p
theorem RLinesAt.nx {w w' : World} {v : Value} {ls : List RL} (h : RLinesAt w v ls) (hb : Below w.heap.size w w') : RLinesAt w' v ls := ⟨h.1.nx hb, fun p hp => (h.2 p hp).nx hb⟩
theorem row_at6 {w : World} {b off n cap : Nat} {m : Nat} {cs : List Value} (h : RowAt w (.slice (some ⟨b, off, none⟩) n cap) m cs) : ∀ (j : Nat) (x : Value), cs[j]? = some x → w.cell? ⟨b, off + j, none⟩ = some x := by
  intro j x hx
  obtain ⟨b', off', e, _, g⟩ := h.at hx
  simp only [Option.some.injEq, Addr.mk.injEq, and_true] at e
  obtain ⟨rfl, rfl⟩ := e
  exact g
theorem RLinesAt.at {w : World} {ao : Option Addr} {n cap : Nat} {ls : List RL} (h : RLinesAt w (.slice ao n cap) ls) {k : Nat} {l : Ln} {kv vv : Value} (hk : ls[k]? = some (l, kv, vv)) :
    ∃ b off ko kc vo vc, ao = some ⟨b, off, none⟩ ∧ b < w.heap.size ∧ kv = .slice ko (keysOf l).length kc ∧ vv = .slice vo l.sets.length vc ∧ RowAt w (.slice ko (keysOf l).length kc) (keysOf l).length (ints (keysOf l)) ∧ RowAt w (.slice vo l.sets.length vc) l.sets.length (ints (valsOf l)) ∧
      w.cell? ⟨b, off + k * 6, none⟩ = some (.string (kwK l.kind)) ∧ w.cell? ⟨b, off + k * 6 + 1, none⟩ = some (.string l.name) ∧ w.cell? ⟨b, off + k * 6 + 2, none⟩ = some (.string l.frm) ∧
      w.cell? ⟨b, off + k * 6 + 3, none⟩ = some (.slice ko (keysOf l).length kc) ∧ w.cell? ⟨b, off + k * 6 + 4, none⟩ = some (.slice vo l.sets.length vc) ∧ w.cell? ⟨b, off + k * 6 + 5, none⟩ = some (.int .i64 (l.place : Int)) := by
  obtain ⟨f0, f1, f2, f3, f4, f5⟩ := flatR_at ls k l kv vv hk
  obtain ⟨b, off, rfl, hb, g0⟩ := h.1.at f0
  have hin := row_at6 h.1
  obtain ⟨hk1, hv1⟩ := h.2 _ (List.mem_of_getElem? hk)
  simp only at hk1 hv1
  obtain ⟨ko, kc, rfl, hkk⟩ := hk1
  obtain ⟨vo, vc, rfl, hvv⟩ := hv1
  have ha : ∀ j, off + k * 6 + j = off + (k * 6 + j) := fun j => by omega
  refine ⟨b, off, ko, kc, vo, vc, rfl, hb, rfl, rfl, ⟨_, _, rfl, hkk⟩, ⟨_, _, rfl, hvv⟩, g0, ?_, ?_, ?_, ?_, ?_⟩
  · rw [ha]; exact hin _ _ f1
  · rw [ha]; exact hin _ _ f2
  · rw [ha]; exact hin _ _ f3
  · rw [ha]; exact hin _ _ f4
  · rw [ha]; exact hin _ _ f5
theorem ints_row {w : World} {so : Option Addr} {n sc m : Nat} {xs : List Nat} (h : RowAt w (.slice so n sc) m (ints xs)) {k a : Nat} (hk : xs[k]? = some a) :
    ∃ b off, so = some ⟨b, off, none⟩ ∧ b < w.heap.size ∧ w.cell? ⟨b, off + k, none⟩ = some (.int .i64 (a : Int)) := h.at (ints_at hk)
abbrev bareR (ls : List RL) : List Ln := ls.map (·.1)
theorem bareR_at {ls : List RL} {k : Nat} {p : RL} (h : ls[k]? = some p) : (bareR ls)[k]? = some p.1 := by simp [bareR, h]
theorem bareR_len (ls : List RL) : (bareR ls).length = ls.length := by simp [bareR]

abbrev rlA (wd nm fr : ByteArray) (ko : Option Addr) (nk kc : Nat) (vo : Option Addr) (nv vc : Nat) (pl : Int) : Value := .agg #[.string wd, .string nm, .string fr, .slice ko nk kc, .slice vo nv vc, .int .i64 pl]
abbrev bRL (wd nm fr : ByteArray) (ko : Option Addr) (nk kc : Nat) (vo : Option Addr) (nv vc : Nat) (pl : Int) : Obj := .cells #[.string wd, .string nm, .string fr, .slice ko nk kc, .slice vo nv vc, .int .i64 pl] 122

def mostN (k : Nat) : Nat := match k with | 0 => 20 | 1 => 20 | _ => 999
theorem most_any (k : Nat) (w : World) : Calls Tryz.prog 155 #[.int .i64 (k : Int)] w fun e w' => e = .returned (.int .i64 (mostN k)) ∧ w' = w := by
  match k with
  | 0 => go_enter Tryz.func155, Tryz.ntmps155; go_wp2; go_ret; exact ⟨rfl, rfl⟩
  | 1 => go_enter Tryz.func155, Tryz.ntmps155; go_wp2; go_ret; exact ⟨rfl, rfl⟩
  | k + 2 =>
    have h0 : (((k + 2 : Nat) : Int) == 0) = false := by simp; omega
    have h1 : (((k + 2 : Nat) : Int) == 1) = false := by simp; omega
    obtain ⟨q, hq⟩ : ∃ q : Int, ((k + 2 : Nat) : Int) = q := ⟨_, rfl⟩
    rw [hq] at h0 h1 ⊢
    clear hq
    go_enter Tryz.func155, Tryz.ntmps155; go_wp2; go_ret; exact ⟨rfl, rfl⟩
def plainN (k : Nat) : Int := if k = 0 then 1 else 0
theorem plain_any (k : Nat) (w : World) : Calls Tryz.prog 102 #[.int .i64 (k : Int)] w fun e w' => e = .returned (.int .i64 (plainN k)) ∧ w' = w := by
  match k with
  | 0 => go_enter Tryz.func102, Tryz.ntmps102; go_wp2; go_ret; exact ⟨rfl, rfl⟩
  | k + 1 =>
    have h0 : (((k + 1 : Nat) : Int) == 0) = false := by simp; omega
    obtain ⟨q, hq⟩ : ∃ q : Int, ((k + 1 : Nat) : Int) = q := ⟨_, rfl⟩
    rw [hq] at h0 ⊢
    clear hq
    go_enter Tryz.func102, Tryz.ntmps102; go_wp2; go_ret; exact ⟨rfl, rfl⟩

theorem cntC_snoc (ls : List Ln) (kind k : Nat) (l : Ln) (h : ls[k]? = some l) : cntC (ls.take (k + 1)) kind = cntC (ls.take k) kind + (if l.kind = kind then 1 else 0) := by
  obtain ⟨hk, e⟩ := List.getElem?_eq_some_iff.1 h
  unfold cntC
  rw [List.take_succ_eq_append_getElem hk, List.filter_append, e, List.length_append]
  by_cases hh : l.kind = kind <;> simp [hh]

set_option maxRecDepth 20000 in
set_option maxHeartbeats 1000000 in
theorem alike_any (kind : Nat) (ao : Option Addr) (cap n : Nat) (ls : List RL) (w : World) (hl : RLinesAt w (.slice ao n cap) ls) (hn : ls.length = n) (hn1 : n ≤ 1001) :
    Calls Tryz.prog 137 #[.slice ao n cap, .string (kwK kind)] w fun e w' => e = .returned (.int .i64 (cntC (bareR ls) kind)) ∧ w' = w := by
  have HN : Hid (ls.length = n) := hn
  have HL : Hid (RLinesAt w (.slice ao n cap) ls) := hl
  have HE := hideIt kwK_eq
  obtain ⟨kw, hkw⟩ : ∃ kw, kwK kind = kw := ⟨_, rfl⟩
  rw [hkw]
  have HKW := hideIt hkw
  clear hl hn hkw
  go_enter Tryz.func137, Tryz.ntmps137
  go_wp2_with fail
  go_loop [5, 6] (fun c i => ∃ (k q : Nat), k ≤ n ∧ i = .int .i64 k ∧ c = .int .i64 q ∧ q ≤ k ∧ Hid (cntC ((bareR ls).take k) kind = q)) (fun _ i => n - (intOf i).toNat)
  case atStart => exact ⟨0, 0, Nat.zero_le _, rfl, rfl, Nat.le_refl _, rfl⟩
  case round =>
    obtain ⟨k, q, hk, rfl, rfl, hq, HS⟩ := hrel
    by_cases hlt : k < n
    · obtain ⟨⟨l, kv, vv⟩, hp⟩ : ∃ p, ls[k]? = some p := ⟨_, List.getElem?_eq_getElem (by rw [HN.out]; exact hlt)⟩
      obtain ⟨bl, off, ko, kc, vo, vc, rfl, hbl, _, _, _, _, c0, c1, c2, c3, c4, c5⟩ := HL.out.at hp
      have HC := hideIt (cntC_snoc (bareR ls) kind k l (bareR_at hp))
      have hlti : (k : Int) < (n : Int) := by omega
      have hkb : ((kwK l.kind).toList == kw.toList) = decide (l.kind = kind) := by rw [← HKW.out]; exact HE.out _ _
      obtain ⟨lw, hlw⟩ : ∃ lw, kwK l.kind = lw := ⟨_, rfl⟩
      rw [hlw] at c0 hkb
      clear hp c1 c2 c3 c4 c5 hlw
      by_cases hkk : l.kind = kind
      · have hkb2 : (lw.toList == kw.toList) = true := by rw [hkb]; simp [hkk]
        have HK : Hid (l.kind = kind) := hkk
        clear hkk hkb
        go_wp2_with fail
        go_round
        case rel => exact ⟨k + 1, q + 1, by omega, by go_num, by go_num, by omega, (by show _ = _; rw [HC.out, HS.out, if_pos HK.out])⟩
        case measure => simp [intOf]; omega
      · have hkb2 : (lw.toList == kw.toList) = false := by rw [hkb]; simp [hkk]
        have HK : Hid (¬ l.kind = kind) := hkk
        clear hkk hkb
        go_wp2_with fail
        go_round
        case rel => exact ⟨k + 1, q, by omega, by go_num, rfl, by omega, (by show _ = _; rw [HC.out, HS.out, if_neg HK.out]; rfl)⟩
        case measure => simp [intOf]; omega
    · have HQ : Hid (cntC (bareR ls) kind = q) := by
        have h := HS.out
        rw [List.take_of_length_le (by rw [bareR_len, HN.out]; omega)] at h
        exact h
      go_wp2_with fail
      go_ret
      exact ⟨ret_i (by rw [HQ.out]), rfl⟩

/-- the place of the first line of a kind and a name -/
def hitC (kind : Nat) (name : ByteArray) (l : Ln) : Bool := (l.kind == kind) && (l.name.toList == name.toList)
def idxN : List Ln → Nat → ByteArray → Nat → Int
  | [], _, _, _ => -1
  | l :: r, kind, name, k => if hitC kind name l = true then (k : Int) else idxN r kind name (k + 1)
set_option maxRecDepth 20000 in
set_option maxHeartbeats 1000000 in
theorem rfind_any (kind : Nat) (name : ByteArray) (ao : Option Addr) (cap n : Nat) (ls : List RL) (w : World) (hl : RLinesAt w (.slice ao n cap) ls) (hn : ls.length = n) (hn1 : n ≤ 1001) :
    Calls Tryz.prog 100 #[.slice ao n cap, .string (kwK kind), .string name] w fun e w' => e = .returned (.int .i64 (idxN (bareR ls) kind name 0)) ∧ w' = w := by
  have HN : Hid (ls.length = n) := hn
  have HL : Hid (RLinesAt w (.slice ao n cap) ls) := hl
  have HE := hideIt kwK_eq
  obtain ⟨kw, hkw⟩ : ∃ kw, kwK kind = kw := ⟨_, rfl⟩
  rw [hkw]
  have HKW := hideIt hkw
  clear hl hn hkw
  go_enter Tryz.func100, Tryz.ntmps100
  go_wp2_with fail
  go_loop [7] (fun i => ∃ (k : Nat), k ≤ n ∧ i = .int .i64 k ∧ Hid (idxN ((bareR ls).drop k) kind name k = idxN (bareR ls) kind name 0)) (fun i => n - (intOf i).toNat)
  case atStart => exact ⟨0, Nat.zero_le _, rfl, rfl⟩
  case round =>
    obtain ⟨k, hk, rfl, HS⟩ := hrel
    by_cases hlt : k < n
    · obtain ⟨⟨l, kv, vv⟩, hp⟩ : ∃ p, ls[k]? = some p := ⟨_, List.getElem?_eq_getElem (by rw [HN.out]; exact hlt)⟩
      obtain ⟨bl, off, ko, kc, vo, vc, rfl, hbl, _, _, _, _, c0, c1, c2, c3, c4, c5⟩ := HL.out.at hp
      have HD : Hid ((bareR ls).drop k = l :: (bareR ls).drop (k + 1)) := drop_at (bareR_at hp)
      have hlti : (k : Int) < (n : Int) := by omega
      have hkb : ((kwK l.kind).toList == kw.toList) = decide (l.kind = kind) := by rw [← HKW.out]; exact HE.out _ _
      obtain ⟨lw, hlw⟩ : ∃ lw, kwK l.kind = lw := ⟨_, rfl⟩
      rw [hlw] at c0 hkb
      clear hp c2 c3 c4 c5 hlw
      by_cases hkk : l.kind = kind
      · have hkb2 : (lw.toList == kw.toList) = true := by rw [hkb]; simp [hkk]
        have HK : Hid (l.kind = kind) := hkk
        clear hkk hkb
        cases hnb : l.name.toList == name.toList
        · have HX : Hid (idxN ((bareR ls).drop (k + 1)) kind name (k + 1) = idxN (bareR ls) kind name 0) := by
            show _ = _; rw [← HS.out, HD.out, idxN, if_neg (by simp [hitC, hnb])]
          go_wp2_with fail
          go_round
          case rel => exact ⟨k + 1, by omega, by go_num, HX.out⟩
          case measure => simp [intOf]; omega
        · have HX : Hid ((k : Int) = idxN (bareR ls) kind name 0) := by
            show _ = _; rw [← HS.out, HD.out, idxN, if_pos (by simp [hitC, hnb, HK.out])]
          go_wp2_with fail
          go_ret
          exact ⟨ret_i HX.out, rfl⟩
      · have hkb2 : (lw.toList == kw.toList) = false := by rw [hkb]; simp [hkk]
        have HX : Hid (idxN ((bareR ls).drop (k + 1)) kind name (k + 1) = idxN (bareR ls) kind name 0) := by
          show _ = _; rw [← HS.out, HD.out, idxN, if_neg (by simp [hitC, hkk])]
        clear hkk hkb
        go_wp2_with fail
        go_round
        case rel => exact ⟨k + 1, by omega, by go_num, HX.out⟩
        case measure => simp [intOf]; omega
    · go_wp2_with fail
      go_ret
      exact ⟨ret_i (by rw [← HS.out, List.drop_of_length_le (by rw [bareR_len, HN.out]; omega)]; rfl), rfl⟩
end Co
end Go.Proofs.YtmmmjpkhnbfnbaaGreat
namespace Go.Proofs.YtmmmjpkhnbfnbaaGreat
open Go.RowKit
namespace Co

def onceK (ks : List Nat) : Prop := ks.Pairwise fun a b => ¬ b = a
def twK (ks : List Nat) : Bool := !decide (ks.Pairwise fun a b => ¬ b = a)
theorem onceK_take {ks : List Nat} {k a : Nat} (h : ks[k]? = some a) (h1 : onceK (ks.take k)) (h2 : ∀ j q, j < k → ks[j]? = some q → ¬ a = q) : onceK (ks.take (k + 1)) := by
  obtain ⟨hk, e⟩ := List.getElem?_eq_some_iff.1 h
  unfold onceK at *
  rw [List.take_succ_eq_append_getElem hk, List.pairwise_append]
  refine ⟨h1, by simp, ?_⟩
  intro x hx y hy
  simp at hy
  subst hy
  obtain ⟨j, hj⟩ := List.getElem?_of_mem hx
  rw [List.getElem?_take] at hj
  split at hj
  · rw [e]; exact h2 j x (by assumption) hj
  · cases hj
theorem twK_bad {ks : List Nat} {j k a b : Nat} (hjk : j < k) (hq : ks[j]? = some a) (hp : ks[k]? = some b) (he : b = a) : twK ks = true := by
  unfold twK
  simp only [Bool.not_eq_true', decide_eq_false_iff_not]
  intro h
  obtain ⟨h1, e1⟩ := List.getElem?_eq_some_iff.1 hq
  obtain ⟨h2, e2⟩ := List.getElem?_eq_some_iff.1 hp
  have := List.pairwise_iff_getElem.1 h j k h1 h2 hjk
  rw [e1, e2] at this
  exact this he
theorem twK_good {ks : List Nat} (h : onceK ks) : twK ks = false := by
  unfold twK
  simp only [Bool.not_eq_false', decide_eq_true_iff]
  exact h

theorem int_eq (a b : Nat) : ((a : Int) == (b : Int)) = decide (a = b) := by rw [Bool.eq_iff_iff]; simp; omega

set_option maxRecDepth 20000 in
set_option maxHeartbeats 2000000 in
theorem twice_any (wd nm fr : ByteArray) (ko : Option Addr) (n kc : Nat) (vo : Option Addr) (nv vc : Nat) (pl : Int) (ks : List Nat) (w : World) (hr : RowAt w (.slice ko n kc) n (ints ks)) (hn : ks.length = n) (hn1 : n ≤ 1001) :
    Calls Tryz.prog 138 #[rlA wd nm fr ko n kc vo nv vc pl] w fun e w' => e = .returned (.bool (twK ks)) ∧ Below w.heap.size w w' := by
  have HN : Hid (ks.length = n) := hn
  have HR : Hid (RowAt (w.alloc (bRL wd nm fr ko n kc vo nv vc pl)) (.slice ko n kc) n (ints ks)) := hr.nx (nx_alloc _ _)
  clear hr hn
  go_enter Tryz.func138, Tryz.ntmps138
  go_wp2_with fail
  go_loopw [3] (fun i wr => ∃ (k : Nat), k ≤ n ∧ i = .int .i64 k ∧ Hid (onceK (ks.take k)) ∧ Below (w.alloc (bRL wd nm fr ko n kc vo nv vc pl)).heap.size (w.alloc (bRL wd nm fr ko n kc vo nv vc pl)) wr) (fun i _ => n - (intOf i).toNat)
  case atStart => exact ⟨0, Nat.zero_le _, rfl, List.Pairwise.nil, Below.refl _ _⟩
  case round =>
    obtain ⟨k, hk, rfl, HS, hbel⟩ := hrel
    have hcell : wr.cell? ⟨w.heap.size, 3, none⟩ = some (.slice ko n kc) := (hbel.cell (p := ⟨w.heap.size, 3, none⟩) (by simp)).trans (by simp)
    by_cases hlt : k < n
    · obtain ⟨a, hp⟩ : ∃ p, ks[k]? = some p := ⟨_, List.getElem?_eq_getElem (by rw [HN.out]; exact hlt)⟩
      have HPk : Hid (ks[k]? = some a) := hp
      have HBL := hideIt hbel
      clear hp
      go_wp2_with fail
      go_loopw [4] (fun i wq => ∃ (j : Nat), j ≤ k ∧ i = .int .i64 j ∧ Hid (∀ j' q, j' < j → ks[j']? = some q → ¬ a = q) ∧ Below (w.alloc (bRL wd nm fr ko n kc vo nv vc pl)).heap.size (w.alloc (bRL wd nm fr ko n kc vo nv vc pl)) wq) (fun i _ => k - (intOf i).toNat)
      case atStart => exact ⟨0, Nat.zero_le _, rfl, (fun j' q h => by omega), HBL.out⟩
      case round =>
        obtain ⟨j, hj, rfl, HJ, hbel2⟩ := hrel
        have hcell2 : wr.cell? ⟨w.heap.size, 3, none⟩ = some (.slice ko n kc) := (hbel2.cell (p := ⟨w.heap.size, 3, none⟩) (by simp)).trans (by simp)
        have HB : Hid (Below w.heap.size w wr) := nx_trans (nx_alloc _ _) hbel2
        by_cases hjk : j < k
        · obtain ⟨b, hq⟩ : ∃ p, ks[j]? = some p := ⟨_, List.getElem?_eq_getElem (by rw [HN.out]; omega)⟩
          obtain ⟨bl, off, hso, hbl, c0⟩ := ints_row (HR.out.nx hbel2) HPk.out
          obtain ⟨bl', off', e1, _, d0⟩ := ints_row (HR.out.nx hbel2) hq
          rw [hso] at e1
          obtain ⟨rfl, rfl⟩ : bl = bl' ∧ off = off' := by simpa using e1
          rw [hso] at hcell2
          have HQ : Hid (ks[j]? = some b) := hq
          have HSO := hideIt hso
          have hi1 : (k : Int) < (n : Int) := by omega
          have hi2 : (j : Int) < (n : Int) := by omega
          clear hq e1 hso hcell
          by_cases hw : a = b
          · have hwb : ((a : Int) == (b : Int)) = true := by simp [hw]
            have HT : Hid (twK ks = true) := twK_bad hjk HQ.out HPk.out hw
            clear hw
            go_wp2_with fail
            go_quiet (fail)
            go_wp2_with fail
            go_ret
            exact ⟨ret_bool HT.out.symm, below_drewN HB.out _⟩
          · have hwb : ((a : Int) == (b : Int)) = false := by simp; omega
            have HT : Hid (¬ a = b) := hw
            clear hw
            go_wp2_with fail
            go_quiet (fail)
            go_wp2_with fail
            go_roundw
            case rel => exact ⟨j + 1, by omega, by go_num, (fun j' q h h2 => by
              by_cases hjj : j' < j
              · exact HJ.out j' q hjj h2
              · obtain rfl : j' = j := by omega
                rw [HQ.out] at h2
                cases h2
                exact HT.out), below_drewN hbel2 _⟩
            case measure => simp [intOf]; omega
        · obtain rfl : j = k := by omega
          clear hcell
          go_wp2_with fail
          go_roundw
          case rel => exact ⟨j + 1, by omega, by go_num, onceK_take HPk.out HS.out HJ.out, hbel2⟩
          case measure => simp [intOf]; omega
    · go_wp2_with fail
      go_ret
      exact ⟨ret_bool (by rw [twK_good]; rw [← List.take_of_length_le (l := ks) (i := k) (by rw [HN.out]; omega)]; exact HS.out), nx_trans (nx_alloc _ _) hbel⟩

def allM (ss : List (Nat × Nat)) : Bool := ss.all fun p => decide (p.2 ≤ mostN p.1)
theorem allM_cons (a b : Nat) (r : List (Nat × Nat)) : allM ((a, b) :: r) = (decide (b ≤ mostN a) && allM r) := by simp [allM]

set_option maxRecDepth 20000 in
set_option maxHeartbeats 1000000 in
theorem ranged_n (wd nm fr : ByteArray) (ko : Option Addr) (n kc : Nat) (vo : Option Addr) (vc : Nat) (pl : Int) (ss : List (Nat × Nat)) (w : World) (hb : (wd.toList == [98, 117, 100, 103, 101, 116]) = false)
    (hr : RowAt w (.slice ko n kc) n (ints (ss.map (·.1)))) (hr2 : RowAt w (.slice vo n vc) n (ints (ss.map (·.2)))) (hn : ss.length = n) (hn1 : n ≤ 1001) :
    Calls Tryz.prog 136 #[rlA wd nm fr ko n kc vo n vc pl] w fun e w' => e = .returned (.bool (allM ss)) ∧ Below w.heap.size w w' := by
  have HN : Hid (ss.length = n) := hn
  have HR : Hid (RowAt (w.alloc (bRL wd nm fr ko n kc vo n vc pl)) (.slice ko n kc) n (ints (ss.map (·.1))) ∧ RowAt (w.alloc (bRL wd nm fr ko n kc vo n vc pl)) (.slice vo n vc) n (ints (ss.map (·.2)))) := ⟨hr.nx (nx_alloc _ _), hr2.nx (nx_alloc _ _)⟩
  clear hr hr2 hn
  go_enter Tryz.func136, Tryz.ntmps136
  go_wp2_with fail
  go_loopw [3] (fun i wr => ∃ (k : Nat), k ≤ n ∧ i = .int .i64 k ∧ Hid (allM (ss.drop k) = allM ss) ∧ Below (w.alloc (bRL wd nm fr ko n kc vo n vc pl)).heap.size (w.alloc (bRL wd nm fr ko n kc vo n vc pl)) wr) (fun i _ => n - (intOf i).toNat)
  case atStart => exact ⟨0, Nat.zero_le _, rfl, rfl, Below.refl _ _⟩
  case round =>
    obtain ⟨k, hk, rfl, HS, hbel⟩ := hrel
    have hc3 : wr.cell? ⟨w.heap.size, 3, none⟩ = some (.slice ko n kc) := (hbel.cell (p := ⟨w.heap.size, 3, none⟩) (by simp)).trans (by simp)
    have hc4 : wr.cell? ⟨w.heap.size, 4, none⟩ = some (.slice vo n vc) := (hbel.cell (p := ⟨w.heap.size, 4, none⟩) (by simp)).trans (by simp)
    have HB : Hid (Below w.heap.size w wr) := nx_trans (nx_alloc _ _) hbel
    by_cases hlt : k < n
    · obtain ⟨⟨a, b⟩, hp⟩ : ∃ p, ss[k]? = some p := ⟨_, List.getElem?_eq_getElem (by rw [HN.out]; exact hlt)⟩
      obtain ⟨bl, off, rfl, hbl, c0⟩ := ints_row (HR.out.1.nx hbel) (show (ss.map (·.1))[k]? = some a by simp [hp])
      obtain ⟨bl2, off2, rfl, hbl2, d0⟩ := ints_row (HR.out.2.nx hbel) (show (ss.map (·.2))[k]? = some b by simp [hp])
      have HD : Hid (ss.drop k = (a, b) :: ss.drop (k + 1)) := drop_at hp
      have hlti : (k : Int) < (n : Int) := by omega
      clear hp
      by_cases hf : b ≤ mostN a
      · have HF := hideIt hf
        obtain ⟨q, hq⟩ : ∃ q, mostN a = q := ⟨_, rfl⟩
        have HM := hideIt (most_any a)
        rw [hq] at hf HM
        have hfi : ¬ (q : Int) < (b : Int) := by omega
        clear hq hf
        go_wp2_with fail
        go_quiet ((go_at_call 155; exact Calls.quiet_of_same (HM.out _)))
        go_wp2_with fail
        go_roundw
        case rel => exact ⟨k + 1, by omega, by go_num, (by show _ = _; rw [← HS.out, HD.out, allM_cons, decide_eq_true HF.out]; simp), below_drewN hbel _⟩
        case measure => simp [intOf]; omega
      · have HF := hideIt hf
        obtain ⟨q, hq⟩ : ∃ q, mostN a = q := ⟨_, rfl⟩
        have HM := hideIt (most_any a)
        rw [hq] at hf HM
        have hfi : (q : Int) < (b : Int) := by omega
        clear hq hf
        go_wp2_with fail
        go_quiet ((go_at_call 155; exact Calls.quiet_of_same (HM.out _)))
        go_wp2_with fail
        go_ret
        exact ⟨ret_bool (by rw [← HS.out, HD.out, allM_cons, decide_eq_false HF.out]; rfl), below_drewN HB.out _⟩
    · go_wp2_with fail
      go_ret
      exact ⟨ret_bool (by rw [← HS.out, List.drop_of_length_le (by rw [HN.out]; omega)]; rfl), HB.out⟩

set_option maxRecDepth 20000 in
set_option maxHeartbeats 1000000 in
theorem ranged_b (nm fr : ByteArray) (ko : Option Addr) (nk kc : Nat) (vo : Option Addr) (vc : Nat) (pl : Int) (x : Nat) (w : World) (hr : RowAt w (.slice vo 1 vc) 1 (ints [x])) :
    Calls Tryz.prog 136 #[rlA sBudget nm fr ko nk kc vo 1 vc pl] w fun e w' => e = .returned (.bool (inB 1 99 x)) ∧ Below w.heap.size w w' := by
  obtain ⟨bl, off, rfl, hbl, c0⟩ := ints_row (hr.nx (nx_alloc w (bRL sBudget nm fr ko nk kc vo 1 vc pl))) (show [x][0]? = some x from rfl)
  simp only [Nat.add_zero] at c0
  clear hr
  by_cases h1 : (1 : Int) ≤ (x : Int)
  · go_enter Tryz.func136, Tryz.ntmps136
    go_wp2_with fail
    go_ret
    exact ⟨ret_bool (by simp only [inB, decide_eq_true h1, Bool.true_and]), nx_alloc _ _⟩
  · go_enter Tryz.func136, Tryz.ntmps136
    go_wp2_with fail
    go_ret
    exact ⟨ret_bool (inB_lo (by omega)).symm, nx_alloc _ _⟩
end Co
end Go.Proofs.YtmmmjpkhnbfnbaaGreat
