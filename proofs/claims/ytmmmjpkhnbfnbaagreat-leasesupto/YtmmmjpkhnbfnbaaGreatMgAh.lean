import Derived.Test.YtmmmjpkhnbfnbaaGreatMgAg
import Derived.Deep.DeepCutAuto
namespace Go.Proofs.YtmmmjpkhnbfnbaaGreat
open Go.RowKit
namespace Co

/-- fields by twos -/
def prs : List ByteArray → List (ByteArray × ByteArray)
  | a :: b :: r => (a, b) :: prs r
  | _ => []
theorem prs_len : ∀ l : List ByteArray, (prs l).length = l.length / 2
  | [] => rfl
  | [_] => by simp [prs]
  | a :: b :: r => by simp [prs, prs_len r]; omega
theorem prs_at : ∀ (l : List ByteArray) (k : Nat) (a b : ByteArray), (prs l)[k]? = some (a, b) → l[2 * k]? = some a ∧ l[2 * k + 1]? = some b
  | [], k, a, b, h => by simp [prs] at h
  | [_], k, a, b, h => by simp [prs] at h
  | x :: y :: r, 0, a, b, h => by simp [prs] at h; simp [h]
  | x :: y :: r, k + 1, a, b, h => by
    have ih := prs_at r k a b (by simpa [prs] using h)
    have e : 2 * (k + 1) = 2 * k + 2 := by omega
    rw [e]
    simpa using ih
def goodP (p : ByteArray × ByteArray) : Bool := decide (0 ≤ keyR p.1) && decide (0 ≤ numR p.2)
def kvP (p : ByteArray × ByteArray) : Nat × Nat := ((keyR p.1).toNat, (numR p.2).toNat)
theorem setsF_prs : ∀ l : List ByteArray, l.length % 2 = 0 → setsF l = if (prs l).all goodP = true then some ((prs l).map kvP) else none
  | [], _ => rfl
  | [_], h => by simp at h
  | a :: b :: r, h => by
    have ih := setsF_prs r (by simp at h; omega)
    have hk0 : keyF a = none → keyR a = -1 := fun h => by rw [keyR, h]
    have hn0 : numF b = none → numR b = -1 := fun h => by rw [numR, h]
    simp only [prs, List.all_cons, List.map_cons, goodP, kvP]
    cases hka : keyF a with
    | none => rw [setsF_nk hka, hk0 hka]; simp
    | some x =>
      cases hnb : numF b with
      | none => rw [setsF_nn hnb, hn0 hnb]; simp
      | some y =>
        have hk1 : keyR a = (x : Int) := by rw [keyR, hka]
        have hn1 : numR b = (y : Int) := by rw [numR, hnb]
        rw [setsF_go hka hnb, ih, hk1, hn1]
        have e1 : decide ((0 : Int) ≤ (x : Int)) = true := by simp
        have e2 : decide ((0 : Int) ≤ (y : Int)) = true := by simp
        rw [e1, e2]
        simp only [Bool.true_and, Int.toNat_natCast]
        have hfun : (prs r).all (fun p => decide (0 ≤ keyR p.1) && decide (0 ≤ numR p.2)) = (prs r).all goodP := rfl
        by_cases hh : (prs r).all goodP = true
        · rw [if_pos hh, if_pos hh]; rfl
        · rw [if_neg hh, if_neg hh]; rfl
def intsI (xs : List Int) : List Value := xs.map fun n => Value.int .i64 n
theorem intsI_snoc (xs : List Int) (x : Int) : intsI (xs ++ [x]) = intsI xs ++ [.int .i64 x] := by simp [intsI]
def keyP (l : List (ByteArray × ByteArray)) : List Int := l.map fun p => keyR p.1
def numP (l : List (ByteArray × ByteArray)) : List Int := l.map fun p => numR p.2
theorem keyP_ints : ∀ l : List (ByteArray × ByteArray), l.all goodP = true → intsI (keyP l) = ints ((l.map kvP).map (·.1)) ∧ intsI (numP l) = ints ((l.map kvP).map (·.2))
  | [], _ => ⟨rfl, rfl⟩
  | p :: r, h => by
    simp only [List.all_cons, Bool.and_eq_true] at h
    obtain ⟨h1, h2⟩ := h
    obtain ⟨i1, i2⟩ := keyP_ints r h2
    simp only [goodP, Bool.and_eq_true, decide_eq_true_iff] at h1
    simp only [intsI, ints, keyP, numP, List.map_cons, List.map_map] at i1 i2 ⊢
    refine ⟨?_, ?_⟩
    · rw [i1]; simp only [kvP]; rw [Int.toNat_of_nonneg h1.1]
    · rw [i2]; simp only [kvP]; rw [Int.toNat_of_nonneg h1.2]
theorem take_snocP {l : List (ByteArray × ByteArray)} {k : Nat} {p : ByteArray × ByteArray} (h : l[k]? = some p) : l.take (k + 1) = l.take k ++ [p] := by
  obtain ⟨hk, rfl⟩ := List.getElem?_eq_some_iff.1 h
  rw [List.take_succ_eq_append_getElem hk]

theorem info_int : (Tryz.prog.info? 3).map (fun i => (i.zero, i.size, i.bytes)) = some (some (.int .i64 0), 1, 8) := by kernel_rfl
/-- a list of numbers in memory of its own -/
def FrI (w : World) (so : Option Addr) : Prop := ∀ b off, so = some ⟨b, off, none⟩ → ∃ cur, w.heap[b]? = some (.cells cur 3 (0, 0))
theorem own_frI {w : World} {B : Nat} {size : Nat} {so : Option Addr} {m sc n : Nat} {xs : List Value} (h : w.ownsRow B 3 size (.slice so m sc) n xs) : FrI w so := by
  intro b off e
  subst e
  rcases h.2 with ⟨h', _⟩ | ⟨g', cap', cur, h', hb, hg, _⟩
  · simp at h'
  · simp only [Value.slice.injEq, Option.some.injEq, Addr.mk.injEq] at h'
    obtain ⟨⟨rfl, _⟩, _⟩ := h'
    exact ⟨cur, hg⟩
theorem FrI.nx {w w' : World} {so : Option Addr} (h : FrI w so) (hb : Below w.heap.size w w') : FrI w' so := by
  intro b o e
  obtain ⟨cur, h2⟩ := h b o e
  exact ⟨cur, (hb.block b (Array.getElem?_eq_some_iff.1 h2).1).trans h2⟩

abbrev bV6 (wd nm fr : ByteArray) (kv vv : Value) (pl : Int) : Obj := .cells #[.string wd, .string nm, .string fr, kv, vv, .int .i64 pl] 122
/-- formed's memory in its loop: the result's block, the line's block, its two lists -/
def St (w wr : World) (wd nm fr : ByteArray) (pl : Int) (kv : Value) (qk : Nat) (ks : List Int) (vv : Value) (qv : Nat) (vs : List Int) : Prop :=
  wr.heap[w.heap.size]? = some (bV6 ⟨#[]⟩ ⟨#[]⟩ ⟨#[]⟩ (.slice none 0 0) (.slice none 0 0) 0) ∧ wr.heap[w.heap.size + 1]? = some (bV6 wd nm fr kv vv pl) ∧
  wr.ownsRow (w.heap.size + 2) 3 1 kv qk (intsI ks) ∧ wr.ownsRow (w.heap.size + 2) 3 1 vv qv (intsI vs) ∧ (∀ g, kv.ownBlock = some g → vv.ownBlock ≠ some g) ∧ Below w.heap.size w wr ∧ w.heap.size + 2 ≤ wr.heap.size
theorem St.cells {w wr : World} {wd nm fr : ByteArray} {pl : Int} {kv vv : Value} {qk qv : Nat} {ks vs : List Int} (h : St w wr wd nm fr pl kv qk ks vv qv vs) :
    wr.cell? ⟨w.heap.size + 1, 0, none⟩ = some (.string wd) ∧ wr.cell? ⟨w.heap.size + 1, 1, none⟩ = some (.string nm) ∧ wr.cell? ⟨w.heap.size + 1, 2, none⟩ = some (.string fr) ∧ wr.cell? ⟨w.heap.size + 1, 3, none⟩ = some kv ∧ wr.cell? ⟨w.heap.size + 1, 4, none⟩ = some vv ∧ wr.cell? ⟨w.heap.size + 1, 5, none⟩ = some (.int .i64 pl) ∧ ∀ a, wr.frozen? ⟨w.heap.size + 1, a, none⟩ = false :=
  blk6 (Below.refl wr.heap.size wr) (Array.getElem?_eq_some_iff.1 h.2.1).1 h.2.1
theorem St.cells0 {w wr : World} {wd nm fr : ByteArray} {pl : Int} {kv vv : Value} {qk qv : Nat} {ks vs : List Int} (h : St w wr wd nm fr pl kv qk ks vv qv vs) :
    wr.cell? ⟨w.heap.size, 0, none⟩ = some (.string ⟨#[]⟩) ∧ wr.cell? ⟨w.heap.size, 1, none⟩ = some (.string ⟨#[]⟩) ∧ wr.cell? ⟨w.heap.size, 2, none⟩ = some (.string ⟨#[]⟩) ∧ wr.cell? ⟨w.heap.size, 3, none⟩ = some (.slice none 0 0) ∧ wr.cell? ⟨w.heap.size, 4, none⟩ = some (.slice none 0 0) ∧ wr.cell? ⟨w.heap.size, 5, none⟩ = some (.int .i64 0) ∧ ∀ a, wr.frozen? ⟨w.heap.size, a, none⟩ = false :=
  blk6 (Below.refl wr.heap.size wr) (Array.getElem?_eq_some_iff.1 h.1).1 h.1
theorem St.start (w : World) (wd nm fr : ByteArray) (pl : Int) : St w ((w.alloc (bV6 ⟨#[]⟩ ⟨#[]⟩ ⟨#[]⟩ (.slice none 0 0) (.slice none 0 0) 0)).alloc (bV6 wd nm fr (.slice none 0 0) (.slice none 0 0) pl)) wd nm fr pl (.slice none 0 0) 0 [] (.slice none 0 0) 0 [] :=
  ⟨(heap_alloc_lt' _ _ (by simp)).trans (heap_alloc_at' _ _ rfl), heap_alloc_at' _ _ (by simp), World.ownsRow_nil _ _ _ _, World.ownsRow_nil _ _ _ _, by simp [Value.ownBlock], nx_trans (nx_alloc _ _) (nx_alloc _ _), by simp⟩
theorem St.key {w wr w6 : World} {wd nm fr : ByteArray} {pl : Int} {kv vv kv' : Value} {qk qv : Nat} {ks vs : List Int} {o : Obj} {x : Int} (h : St w wr wd nm fr pl kv qk ks vv qv vs)
    (hg : (wr.alloc o).grownBy w6 kv.ownBlock) (hown : w6.ownsRow (w.heap.size + 2) 3 1 kv' (qk + 1) (intsI ks ++ [.int .i64 x])) (hat : kv'.ownBlock = kv.ownBlock ∨ kv'.ownBlock = some (wr.alloc o).heap.size) :
    w6.heap[w.heap.size + 1]? = some (bV6 wd nm fr kv vv pl) ∧ St w (w6.setCell ⟨w.heap.size + 1, 3, none⟩ kv') wd nm fr pl kv' (qk + 1) (ks ++ [x]) vv qv vs := by
  obtain ⟨h0, h1, hk, hv, hd, hb, hz⟩ := h
  have hlow : ∀ k, k < w.heap.size + 2 → w6.heap[k]? = wr.heap[k]? := by
    intro k hk'
    refine (hg.block k (by simp; omega) ?_).trans (heap_alloc_lt' _ _ (by omega))
    intro e
    have := (hk.lt k e.symm).1
    omega
  have g1 : w6.heap[w.heap.size + 1]? = some (bV6 wd nm fr kv vv pl) := (hlow _ (by omega)).trans h1
  have hv6 : w6.ownsRow (w.heap.size + 2) 3 1 vv qv (intsI vs) := by
    refine (hv.alloc o).kept hg ?_
    cases hvb : vv.ownBlock with
    | none => exact .inl rfl
    | some g => exact .inr (fun e => hd g e.symm hvb)
  refine ⟨g1, (Below.heap_setCell _ _ _ _ (by show w.heap.size ≠ w.heap.size + 1; omega)).trans ((hlow _ (by omega)).trans h0), set_heap _ _ _ _ _ _ g1, ?_, ownsRow_setCell_below hv6 (by show w.heap.size + 1 < _; omega) _, ?_, ?_, ?_⟩
  · rw [intsI_snoc]; exact ownsRow_setCell_below hown (by show w.heap.size + 1 < _; omega) _
  · intro g hgk hgv
    rcases hat with e | e
    · exact hd g (e ▸ hgk) hgv
    · rw [e] at hgk
      have := (hv.lt g hgv).2
      simp at hgk
      omega
  · exact (((hb.alloc (Nat.le_trans (by omega) hz) o)).grown hg (by simp; omega) (fun g hgg => by have := (hk.lt g hgg).1; omega)).setCell (by show w.heap.size ≤ w.heap.size + 1; omega) _
  · have := hg.size
    simp at this ⊢
    omega
theorem St.val {w wr w6 : World} {wd nm fr : ByteArray} {pl : Int} {kv vv vv' : Value} {qk qv : Nat} {ks vs : List Int} {o : Obj} {x : Int} (h : St w wr wd nm fr pl kv qk ks vv qv vs)
    (hg : (wr.alloc o).grownBy w6 vv.ownBlock) (hown : w6.ownsRow (w.heap.size + 2) 3 1 vv' (qv + 1) (intsI vs ++ [.int .i64 x])) (hat : vv'.ownBlock = vv.ownBlock ∨ vv'.ownBlock = some (wr.alloc o).heap.size) :
    w6.heap[w.heap.size + 1]? = some (bV6 wd nm fr kv vv pl) ∧ St w (w6.setCell ⟨w.heap.size + 1, 4, none⟩ vv') wd nm fr pl kv qk ks vv' (qv + 1) (vs ++ [x]) := by
  obtain ⟨h0, h1, hk, hv, hd, hb, hz⟩ := h
  have hlow : ∀ k, k < w.heap.size + 2 → w6.heap[k]? = wr.heap[k]? := by
    intro k hk'
    refine (hg.block k (by simp; omega) ?_).trans (heap_alloc_lt' _ _ (by omega))
    intro e
    have := (hv.lt k e.symm).1
    omega
  have g1 : w6.heap[w.heap.size + 1]? = some (bV6 wd nm fr kv vv pl) := (hlow _ (by omega)).trans h1
  have hk6 : w6.ownsRow (w.heap.size + 2) 3 1 kv qk (intsI ks) := by
    refine (hk.alloc o).kept hg ?_
    cases hvb : kv.ownBlock with
    | none => exact .inl rfl
    | some g => exact .inr (fun e => hd g hvb e.symm)
  refine ⟨g1, (Below.heap_setCell _ _ _ _ (by show w.heap.size ≠ w.heap.size + 1; omega)).trans ((hlow _ (by omega)).trans h0), set_heap _ _ _ _ _ _ g1, ownsRow_setCell_below hk6 (by show w.heap.size + 1 < _; omega) _, ?_, ?_, ?_, ?_⟩
  · rw [intsI_snoc]; exact ownsRow_setCell_below hown (by show w.heap.size + 1 < _; omega) _
  · intro g hgk hgv
    rcases hat with e | e
    · exact hd g hgk (e ▸ hgv)
    · rw [e] at hgv
      have := (hk.lt g hgk).2
      simp at hgv
      omega
  · exact (((hb.alloc (Nat.le_trans (by omega) hz) o)).grown hg (by simp; omega) (fun g hgg => by have := (hv.lt g hgg).1; omega)).setCell (by show w.heap.size ≤ w.heap.size + 1; omega) _
  · have := hg.size
    simp at this ⊢
    omega
end Co
end Go.Proofs.YtmmmjpkhnbfnbaaGreat
namespace Go.Proofs.YtmmmjpkhnbfnbaaGreat
open Go.RowKit
namespace Co

/-- what formed answers -/
def RMade (o : Option Ln) (pl : Int) (w w' : World) (e : Ending) : Prop :=
  (o = none ∧ ∃ wd nm fr ko nk kc vo nv vc p, e = .returned (.tuple #[rlA wd nm fr ko nk kc vo nv vc p, .bool false]) ∧ Below w.heap.size w w') ∨
  (∃ l ko kc vo vc, o = some l ∧ e = .returned (.tuple #[rlA (kwK l.kind) l.name l.frm ko (keysOf l).length kc vo l.sets.length vc pl, .bool true]) ∧ RowAt w' (.slice ko (keysOf l).length kc) (keysOf l).length (ints (keysOf l)) ∧ RowAt w' (.slice vo l.sets.length vc) l.sets.length (ints (valsOf l)) ∧ FrI w' ko ∧ FrI w' vo ∧ Below w.heap.size w w')
abbrev bZ6 : Obj := .cells #[.string ⟨#[]⟩, .string ⟨#[]⟩, .string ⟨#[]⟩, .slice none 0 0, .slice none 0 0, .int .i64 0] 122

set_option maxRecDepth 20000 in
set_option maxHeartbeats 4000000 in
theorem formed_bud (r : List ByteArray) (pl : Int) (ao : Option Addr) (cap n : Nat) (w : World) (hr : RowAt w (.slice ao n cap) n (strs (sBudget :: r))) (hn : (sBudget :: r).length = n) (hn1 : n ≤ 1001) (hsm : ∀ p ∈ r, p.size ≤ 1000) :
    Calls Tryz.prog 98 #[.slice ao n cap, .int .i64 pl] w fun e w' => RMade (budF r) pl w w' e := by
  obtain ⟨bl, off, rfl, hbl, hc⟩ := hr.at (j := 0) (x := .string sBudget) rfl
  rw [Nat.add_zero] at hc
  have hpos : (0 : Int) < (n : Int) := by simp at hn; omega
  have hca : ∀ o, (w.alloc o).cell? ⟨bl, off, none⟩ = some (.string sBudget) := fun o => ((nx_alloc w o).cell (p := ⟨bl, off, none⟩) hbl).trans hc
  by_cases h2 : n = 2
  · obtain ⟨a, rfl⟩ : ∃ a, r = [a] := by
      match r, hn with
      | [], h => simp at h; omega
      | [a], _ => exact ⟨a, rfl⟩
      | a :: b :: c, h => simp at h; omega
    obtain ⟨bl', off', e1, _, hc1⟩ := hr.at (j := 1) (x := .string a) rfl
    obtain ⟨rfl, rfl⟩ : bl = bl' ∧ off = off' := by simpa using e1
    have hcb : ∀ o1 o2, ((w.alloc o1).alloc o2).cell? ⟨bl, off + 1, none⟩ = some (.string a) := fun o1 o2 => ((nx_trans (nx_alloc w o1) (nx_alloc _ o2)).cell (p := ⟨bl, off + 1, none⟩) hbl).trans hc1
    have HNU := hideIt (fun w0 => number_any a w0 (hsm a (by simp)))
    have HB : Hid (budF [a] = (numF a).map (fun n => ⟨1, ⟨#[]⟩, ⟨#[]⟩, [(3, n)], 0⟩)) := rfl
    have HR0 := hideIt (fun (h : numF a = none) => (show numR a = -1 by rw [numR, h]))
    have HR1 := hideIt (fun x (h : numF a = some x) => (show numR a = (x : Int) by rw [numR, h]))
    subst h2
    clear hr hsm hn hc hc1 e1
    cases hnf : numF a with
    | none =>
      have HX : Hid (budF [a] = none) := by show _ = _; rw [HB.out, hnf]; rfl
      have HN := hideIt (HR0.out hnf)
      clear hnf
      go_enter Tryz.func98, Tryz.ntmps98
      go_wp2_with fail
      refine (HNU.out _).mono ?_; rintro e w2 ⟨rfl, hw⟩
      rw [hw, HN.out]
      clear hw
      go_wp2_with fail
      refine bodyPost_ret (v := .tuple #[rlA sBudget ⟨#[]⟩ ⟨#[]⟩ none 0 0 (some ⟨w.heap.size + 2, 0, none⟩) 1 1 pl, .bool false]) (by simp [results, Tryz.results98, go_sem]) rfl (.inl ⟨HX.out, _, _, _, _, _, _, _, _, _, _, rfl, ?_⟩)
      exact nx_trans (nx_trans (nx_alloc _ _) (nx_alloc _ _)) (nx_alloc _ _)
    | some x =>
      have HX : Hid (budF [a] = some ⟨1, ⟨#[]⟩, ⟨#[]⟩, [(3, x)], 0⟩) := by show _ = _; rw [HB.out, hnf]; rfl
      have HN := hideIt (HR1.out x hnf)
      clear hnf
      go_enter Tryz.func98, Tryz.ntmps98
      go_wp2_with fail
      refine (HNU.out _).mono ?_; rintro e w2 ⟨rfl, hw⟩
      rw [hw, HN.out]
      clear hw
      go_wp2_with fail
      refine bodyPost_ret (v := .tuple #[rlA sBudget ⟨#[]⟩ ⟨#[]⟩ none 0 0 (some ⟨w.heap.size + 2, 0, none⟩) 1 1 pl, .bool true]) (by simp [results, Tryz.results98, go_sem]) rfl (.inr ⟨_, _, _, _, _, HX.out, rfl, ?_, ?_, ?_, ?_, ?_⟩)
      · exact row_nil _ _ _
      · exact row_new _ [.int .i64 (x : Int)] _ 1 (by simp)
      · intro b o e; cases e
      · intro b o e
        simp only [Option.some.injEq, Addr.mk.injEq] at e
        obtain ⟨rfl, _⟩ := e
        exact ⟨_, heap_alloc_at' _ _ (by simp)⟩
      · exact nx_trans (nx_trans (nx_alloc _ _) (nx_alloc _ _)) (nx_alloc _ _)
  · have h2b : ((n : Int) != 2) = true := by rw [bne_iff_ne]; omega
    have HX : Hid (budF r = none) := by
      show _ = _
      match r, hn with
      | [], _ => rfl
      | [a], h => simp at h; omega
      | a :: b :: c, _ => rfl
    clear hr hsm hn hc h2
    go_enter Tryz.func98, Tryz.ntmps98
    go_wp2_with fail
    refine bodyPost_ret (v := .tuple #[rlA sBudget ⟨#[]⟩ ⟨#[]⟩ none 0 0 none 0 0 pl, .bool false]) (by simp [results, Tryz.results98, go_sem]) rfl (.inl ⟨HX.out, _, _, _, _, _, _, _, _, _, _, rfl, ?_⟩)
    exact nx_trans (nx_alloc _ _) (nx_alloc _ _)

set_option maxRecDepth 20000 in
set_option maxHeartbeats 4000000 in
theorem formed_bad (wd : ByteArray) (r : List ByteArray) (pl : Int) (ao : Option Addr) (cap n : Nat) (w : World) (hr : RowAt w (.slice ao n cap) n (strs (wd :: r))) (hn : (wd :: r).length = n) (hn1 : n ≤ 1001)
    (hB : (wd.toList == [98, 117, 100, 103, 101, 116]) = false) (hbad : ((wd.toList == [98, 97, 115, 101]) = false ∧ (wd.toList == [112, 111, 111, 108]) = false) ∨ n < 2) (o : Option Ln) (ho : o = none) :
    Calls Tryz.prog 98 #[.slice ao n cap, .int .i64 pl] w fun e w' => RMade o pl w w' e := by
  have HX := hideIt ho
  obtain ⟨bl, off, rfl, hbl, hc⟩ := hr.at (j := 0) (x := .string wd) rfl
  rw [Nat.add_zero] at hc
  have hpos : (0 : Int) < (n : Int) := by simp at hn; omega
  have hca : ∀ o, (w.alloc o).cell? ⟨bl, off, none⟩ = some (.string wd) := fun o => ((nx_alloc w o).cell (p := ⟨bl, off, none⟩) hbl).trans hc
  clear hr hn hc ho
  rcases hbad with ⟨hA, hP⟩ | hlt
  · go_enter Tryz.func98, Tryz.ntmps98
    go_wp2_with fail
    refine bodyPost_ret (v := .tuple #[rlA wd ⟨#[]⟩ ⟨#[]⟩ none 0 0 none 0 0 pl, .bool false]) (by simp [results, Tryz.results98, go_sem]) rfl (.inl ⟨HX.out, _, _, _, _, _, _, _, _, _, _, rfl, ?_⟩)
    exact nx_trans (nx_alloc _ _) (nx_alloc _ _)
  · have hlti : (n : Int) < 2 := by omega
    cases hA : wd.toList == [98, 97, 115, 101] <;> cases hP : wd.toList == [112, 111, 111, 108]
    all_goals
      go_enter Tryz.func98, Tryz.ntmps98
      go_wp2_with fail
      refine bodyPost_ret (v := .tuple #[rlA wd ⟨#[]⟩ ⟨#[]⟩ none 0 0 none 0 0 pl, .bool false]) (by simp [results, Tryz.results98, go_sem]) rfl (.inl ⟨HX.out, _, _, _, _, _, _, _, _, _, _, rfl, ?_⟩)
      exact nx_trans (nx_alloc _ _) (nx_alloc _ _)
end Co
end Go.Proofs.YtmmmjpkhnbfnbaaGreat
