
import Derived.Test.YtehehkahmpbjhaaDoorCoG
namespace Go.Proofs.YtehehkahmpbjhaaDoor
open Go.RowKit
namespace Co

abbrev bZero' : Obj := .cells #[.int .i64 0, .int .i64 0, .string ⟨#[]⟩, .string ⟨#[]⟩, .slice none 0 0] 60
def isL (kind : Nat) (name : ByteArray) (p : Ln × Value) : Bool := (p.1.kind == kind) && (p.1.name.toList == name.toList)
def findL (ls : List (Ln × Value)) (kind : Nat) (name : ByteArray) : Option (Ln × Value) := ls.find? (isL kind name)
theorem findL_hit {ls : List (Ln × Value)} {kind : Nat} {name : ByteArray} {k : Nat} {p : Ln × Value} (hd : ls.drop k = p :: ls.drop (k + 1)) (hs : findL (ls.drop k) kind name = findL ls kind name) (h : isL kind name p = true) : findL ls kind name = some p := by
  rw [← hs, hd, findL, List.find?_cons, h]
theorem findL_miss {ls : List (Ln × Value)} {kind : Nat} {name : ByteArray} {k : Nat} {p : Ln × Value} (hd : ls.drop k = p :: ls.drop (k + 1)) (hs : findL (ls.drop k) kind name = findL ls kind name) (h : isL kind name p = false) : findL (ls.drop (k + 1)) kind name = findL ls kind name := by
  rw [← hs, hd, findL, findL, List.find?_cons, h]
theorem findL_mem {ls : List (Ln × Value)} {kind : Nat} {name : ByteArray} {p : Ln × Value} (h : findL ls kind name = some p) : p ∈ ls := List.mem_of_find?_eq_some h

/-- what find answers -/
def Found (o : Option (Ln × Value)) (w w' : World) (e : Ending) : Prop :=
  (o = none ∧ e = .returned (lnA' 0 0 ⟨#[]⟩ ⟨#[]⟩ none 0 0) ∧ Below w.heap.size w w') ∨
  (∃ l so sc, o = some (l, .slice so l.sets.length sc) ∧ e = .returned (lnA' l.place l.kind l.name l.frm so l.sets.length sc) ∧ Below w.heap.size w w')

set_option maxHeartbeats 1000000 in
theorem find_any (kind : Nat) (name : ByteArray) (ao : Option Addr) (cap n : Nat) (ls : List (Ln × Value)) (w : World) (hl : LinesAt w (.slice ao n cap) ls) (hn : ls.length = n) (hn1 : n ≤ 1001) :
    Calls Tryd.prog 38 #[.slice ao n cap, .int .i64 (kind : Int), .string name] w fun e w' => Found (findL ls kind name) w w' e := by
  have HN : Hid (ls.length = n) := hn
  have HL : Hid (LinesAt (w.alloc bZero') (.slice ao n cap) ls) := hl.nx (nx_alloc _ _)
  clear hl hn
  go_enter Tryd.func38, Tryd.ntmps38
  go_wp2_with fail
  go_loop [7] (fun i => ∃ (k : Nat), k ≤ n ∧ i = .int .i64 k ∧ Hid (findL (ls.drop k) kind name = findL ls kind name)) (fun i => n - (intOf i).toNat)
  case atStart => exact ⟨0, Nat.zero_le _, rfl, rfl⟩
  case round =>
    obtain ⟨k, hk, rfl, HS⟩ := hrel
    by_cases hlt : k < n
    · obtain ⟨⟨l, sv⟩, hp⟩ : ∃ p, ls[k]? = some p := ⟨_, List.getElem?_eq_getElem (by rw [HN.out]; exact hlt)⟩
      obtain ⟨bl, off, so, sc, rfl, hbl, hsv, _, c0, c1, c2, c3, c4⟩ := HL.out.at hp
      subst hsv
      have HD : Hid (ls.drop k = (l, .slice so l.sets.length sc) :: ls.drop (k + 1)) := drop_at hp
      have hlti : (k : Int) < (n : Int) := by omega
      clear hp
      by_cases hkk : l.kind = kind
      · have hkb : ((l.kind : Int) == (kind : Int)) = true := by simp [hkk]
        have HK : Hid (l.kind = kind) := hkk
        clear hkk
        cases hnb : l.name.toList == name.toList
        · go_wp2_with fail
          go_round
          case rel => exact ⟨k + 1, by omega, by go_num, findL_miss HD.out HS.out (by simp [isL, hnb])⟩
          case measure => simp [intOf]; omega
        · have HF : Hid (findL ls kind name = some (l, .slice so l.sets.length sc)) := findL_hit HD.out HS.out (by simp [isL, hnb, HK.out])
          go_wp2_with fail
          refine bodyPost_ret (v := lnA' l.place l.kind l.name l.frm so l.sets.length sc) (by simp [results, Tryd.results38, go_sem]) rfl (.inr ⟨l, so, sc, HF.out, rfl, ?_⟩)
          exact nx_alloc _ _
      · have hkb : ((l.kind : Int) == (kind : Int)) = false := by simp; omega
        have HK : Hid (¬ l.kind = kind) := hkk
        clear hkk
        go_wp2_with fail
        go_round
        case rel => exact ⟨k + 1, by omega, by go_num, findL_miss HD.out HS.out (by simp [isL, HK.out])⟩
        case measure => simp [intOf]; omega
    · have HF : Hid (findL ls kind name = none) := by
        show _ = _
        rw [← HS.out, List.drop_of_length_le (by rw [HN.out]; omega)]; rfl
      go_wp2_with fail
      exact bodyPost_ret (v := lnA' 0 0 ⟨#[]⟩ ⟨#[]⟩ none 0 0) (by simp [results, Tryd.results38, go_sem]) rfl (.inl ⟨HF.out, rfl, nx_alloc _ _⟩)

theorem find_base (name : ByteArray) (ao : Option Addr) (cap n : Nat) (ls : List (Ln × Value)) (w : World) (hl : LinesAt w (.slice ao n cap) ls) (hn : ls.length = n) (hn1 : n ≤ 1001) :
    Calls Tryd.prog 38 #[.slice ao n cap, .int .i64 2, .string name] w fun e w' => Found (findL ls 2 name) w w' e := find_any 2 name ao cap n ls w hl hn hn1

/-- the number that stands with a key in a line -/
def valL (ss : List (Nat × Nat)) (k : Nat) : Option Nat := (ss.find? fun p => (wordB p.1).toList == (wordB k).toList).map (·.2)
def valN (ss : List (Nat × Nat)) (k : Nat) : Int := match valL ss k with | some n => n | none => 0
theorem valL_hit {ss : List (Nat × Nat)} {key k a b : Nat} (hd : ss.drop k = (a, b) :: ss.drop (k + 1)) (hs : valL (ss.drop k) key = valL ss key) (h : ((wordB a).toList == (wordB key).toList) = true) : valL ss key = some b := by
  rw [← hs, hd, valL, List.find?_cons]; simp [h]
theorem valL_miss {ss : List (Nat × Nat)} {key k a b : Nat} (hd : ss.drop k = (a, b) :: ss.drop (k + 1)) (hs : valL (ss.drop k) key = valL ss key) (h : ((wordB a).toList == (wordB key).toList) = false) : valL (ss.drop (k + 1)) key = valL ss key := by
  rw [← hs, hd, valL, valL, List.find?_cons]; simp [h]

set_option maxHeartbeats 1000000 in
theorem numberOf_any (key : Nat) (x0 x1 : Int) (s2 s3 : ByteArray) (so : Option Addr) (sc n : Nat) (ss : List (Nat × Nat)) (w : World) (hr : RowAt w (.slice so n sc) n (flatS ss)) (hn : ss.length = n) (hn1 : n ≤ 1001) :
    Calls Tryd.prog 40 #[lnA' x0 x1 s2 s3 so n sc, .string (wordB key)] w fun e w' => e = .returned (.tuple #[.int .i64 (valN ss key), .bool (valL ss key).isSome]) ∧ Below w.heap.size w w' := by
  have HN : Hid (ss.length = n) := hn
  have HR : Hid (RowAt (w.alloc (bLn x0 x1 s2 s3 so n sc)) (.slice so n sc) n (flatS ss)) := hr.nx (nx_alloc _ _)
  clear hr hn
  go_enter Tryd.func40, Tryd.ntmps40
  go_wp2_with fail
  go_loop [6] (fun i => ∃ (k : Nat), k ≤ n ∧ i = .int .i64 k ∧ Hid (valL (ss.drop k) key = valL ss key)) (fun i => n - (intOf i).toNat)
  case atStart => exact ⟨0, Nat.zero_le _, rfl, rfl⟩
  case round =>
    obtain ⟨k, hk, rfl, HS⟩ := hrel
    by_cases hlt : k < n
    · obtain ⟨⟨a, b⟩, hp⟩ : ∃ p, ss[k]? = some p := ⟨_, List.getElem?_eq_getElem (by rw [HN.out]; exact hlt)⟩
      obtain ⟨bl, off, rfl, hbl, c0, c1⟩ := sets_at HR.out hp
      have HD : Hid (ss.drop k = (a, b) :: ss.drop (k + 1)) := drop_at hp
      have hlti : (k : Int) < (n : Int) := by omega
      clear hp
      cases hw : (wordB a).toList == (wordB key).toList
      · go_wp2_with fail
        go_round
        case rel => exact ⟨k + 1, by omega, by go_num, valL_miss HD.out HS.out hw⟩
        case measure => simp [intOf]; omega
      · have HV : Hid (valL ss key = some b) := valL_hit HD.out HS.out hw
        go_wp2_with fail
        go_ret2
        exact ⟨ret_ib (by simp [valN, HV.out]) (by simp [HV.out]), nx_alloc _ _⟩
    · have HV : Hid (valL ss key = none) := by
        show _ = _
        rw [← HS.out, List.drop_of_length_le (by rw [HN.out]; omega)]; rfl
      go_wp2_with fail
      go_ret2
      exact ⟨ret_ib (by simp [valN, HV.out]) (by simp [HV.out]), nx_alloc _ _⟩
end Co
end Go.Proofs.YtehehkahmpbjhaaDoor
