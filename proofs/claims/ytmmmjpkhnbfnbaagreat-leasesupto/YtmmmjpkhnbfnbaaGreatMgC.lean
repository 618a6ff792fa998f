import Derived.Test.YtmmmjpkhnbfnbaaGreatMgB
namespace Go.Proofs.YtmmmjpkhnbfnbaaGreat
open Go.RowKit
namespace Co

def namedF (kind : Nat) : List ByteArray → Option Ln
  | [] => none
  | nm :: r => if isNm nm = true then
      (match r with
       | [] => some ⟨kind, nm, ⟨#[]⟩, [], 0⟩
       | fw :: r2 => if (fw.toList == [102, 114, 111, 109]) = true then
           (match r2 with
            | [] => none
            | b :: r3 => if isNm b = true then (setsF r3).map (fun ss => ⟨kind, nm, b, ss, 0⟩) else none)
          else (setsF (fw :: r2)).map (fun ss => ⟨kind, nm, ⟨#[]⟩, ss, 0⟩))
    else none
def budF : List ByteArray → Option Ln
  | [a] => (numF a).map (fun n => ⟨1, ⟨#[]⟩, ⟨#[]⟩, [(3, n)], 0⟩)
  | _ => none
def parseF : List ByteArray → Option Ln
  | [] => none
  | f0 :: rest => if (f0.toList == [98, 117, 100, 103, 101, 116]) = true then budF rest
      else if (f0.toList == [98, 97, 115, 101]) = true then namedF 2 rest
      else if (f0.toList == [112, 111, 111, 108]) = true then namedF 3 rest else none

theorem row_new (w : World) (cs : List Value) (t : TypeId) (n : Nat) {g : Nat} (hg : g = w.heap.size) : RowAt (w.alloc (.cells cs.toArray t)) (.slice (some ⟨g, 0, none⟩) n n) n cs := by
  subst hg
  refine ⟨_, _, rfl, Nat.le_refl _, .inr ⟨_, _, rfl, by simp, fun j x hx => ?_⟩⟩
  rw [Nat.zero_add, World.cell?_alloc_new]
  simpa using hx
theorem heap_alloc_at (w : World) (o : Obj) {k : Nat} (hk : k = w.heap.size) : (w.alloc o).heap[k]? = some o := by
  subst hk
  show (w.heap.push o)[w.heap.size]? = some o
  simp
theorem heap_alloc_lt (w : World) (o : Obj) {k : Nat} (hk : k < w.heap.size) : (w.alloc o).heap[k]? = w.heap[k]? := Below.heap_alloc w o k hk
/-- a line's value -/
abbrev lnA (x0 x1 : Int) (s2 s3 : ByteArray) (a4 : Option Addr) (n4 c4 : Nat) : Value := .agg #[.int .i64 x0, .int .i64 x1, .string s2, .string s3, .slice a4 n4 c4]
/-- what a call that makes a line answers -/
def Made (o : Option Ln) (w w' : World) (e : Ending) : Prop :=
  (o = none ∧ ∃ x0 x1 s2 s3 a4 n4 c4, e = .returned (.tuple #[lnA x0 x1 s2 s3 a4 n4 c4, .bool false]) ∧ Below w.heap.size w w') ∨
  (∃ l so sc, o = some l ∧ e = .returned (.tuple #[lnA 0 l.kind l.name l.frm so l.sets.length sc, .bool true]) ∧ RowAt w' (.slice so l.sets.length sc) l.sets.length (flatS l.sets) ∧ Fr w.heap.size w' so ∧ Below w.heap.size w w')
abbrev bZero : Obj := .cells #[.int .i64 0, .int .i64 0, .string ⟨#[]⟩, .string ⟨#[]⟩, .slice none 0 0] 147

set_option maxRecDepth 20000 in
set_option maxHeartbeats 1000000 in
theorem parseBudget_any (ao : Option Addr) (cap n : Nat) (fs : List ByteArray) (w : World) (hr : RowAt w (.slice ao n cap) n (strs fs)) (hn : fs.length = n) (hn1 : n ≤ 1001) (hsm : ∀ p ∈ fs, p.size ≤ 1000) :
    Calls Tryz.prog 150 #[.slice ao n cap] w fun e w' => Made (budF fs) w w' e := by
  by_cases h1 : n = 1
  · subst h1
    obtain ⟨a, rfl⟩ : ∃ a, fs = [a] := by
      match fs, hn with
      | [a], _ => exact ⟨a, rfl⟩
    have hab : a.size ≤ 1000 := hsm a (by simp)
    obtain ⟨bl, off, rfl, hbl, hc⟩ := hr.at (j := 0) (x := .string a) rfl
    rw [Nat.add_zero] at hc
    clear hr hsm hn1 hn
    have hca : ∀ o, (w.alloc o).cell? ⟨bl, off, none⟩ = some (.string a) := fun o => ((nx_alloc w o).cell (p := ⟨bl, off, none⟩) hbl).trans hc
    cases hnu : numF a with
    | none =>
      have HN : Hid (budF [a] = none) := by show _ = _; simp [budF, hnu]
      have hb0 : numB a = false := by simp [numB, hnu]
      have hb1 : numN a = 0 := by simp [numN, hnu]
      clear hnu
      go_enter Tryz.func150, Tryz.ntmps150
      go_wp2_with fail
      refine (parseNumber_any a _ hab).mono ?_; rintro e w' ⟨rfl, rfl⟩
      rw [hb0, hb1]
      go_wp2_with fail
      refine bodyPost_ret (v := .tuple #[lnA 0 1 ⟨#[]⟩ ⟨#[]⟩ (some ⟨w.heap.size + 1 + 1, 0, none⟩) 1 1, .bool false]) (by simp [results, Tryz.results150, go_sem]) rfl (.inl ⟨HN.out, _, _, _, _, _, _, _, rfl, ?_⟩)
      exact nx_trans (nx_trans (nx_alloc _ _) (nx_alloc _ _)) (nx_alloc _ _)
    | some b =>
      have HN : Hid (budF [a] = some ⟨1, ⟨#[]⟩, ⟨#[]⟩, [(3, b)], 0⟩) := by show _ = _; simp [budF, hnu]
      have hb0 : numB a = true := by simp [numB, hnu]
      have hb1 : numN a = (b : Int) := by simp [numN, hnu]
      clear hnu
      go_enter Tryz.func150, Tryz.ntmps150
      go_wp2_with fail
      refine (parseNumber_any a _ hab).mono ?_; rintro e w' ⟨rfl, rfl⟩
      rw [hb0, hb1]
      go_wp2_with fail
      refine bodyPost_ret (v := .tuple #[lnA 0 1 ⟨#[]⟩ ⟨#[]⟩ (some ⟨w.heap.size + 1 + 1, 0, none⟩) 1 1, .bool true]) (by simp [results, Tryz.results150, go_sem]) rfl (.inr ⟨_, _, _, HN.out, rfl, ?_, ?_, ?_⟩)
      · exact row_new _ (flatS [(3, b)]) 201 1 (by simp)
      · intro b' off' e
        injection e with e
        injection e with e1 _ _
        subst e1
        exact ⟨by omega, _, heap_alloc_at _ _ (by simp)⟩
      · exact nx_trans (nx_trans (nx_alloc _ _) (nx_alloc _ _)) (nx_alloc _ _)
  · have hnb : ((n : Int) != 1) = true := by rw [bne_iff_ne]; omega
    have HN : Hid (budF fs = none) := by
      show _ = _
      match fs, hn with
      | [], _ => rfl
      | [a], hn => simp at hn; omega
      | a :: b :: r, _ => rfl
    clear hr hsm
    go_enter Tryz.func150, Tryz.ntmps150
    go_wp2_with fail
    refine bodyPost_ret (v := .tuple #[lnA 0 0 ⟨#[]⟩ ⟨#[]⟩ none 0 0, .bool false]) (by simp [results, Tryz.results150, go_sem]) rfl (.inl ⟨HN.out, _, _, _, _, _, _, _, rfl, nx_alloc _ _⟩)

theorem namedF_bad {kind : Nat} {nm : ByteArray} {r : List ByteArray} (h : isNm nm = false) : namedF kind (nm :: r) = none := by simp [namedF, h]
theorem namedF_one {kind : Nat} {nm : ByteArray} (h : isNm nm = true) : namedF kind [nm] = some ⟨kind, nm, ⟨#[]⟩, [], 0⟩ := by simp [namedF, h]
theorem namedF_plain {kind : Nat} {nm fw : ByteArray} {r : List ByteArray} (h : isNm nm = true) (hf : (fw.toList == [102, 114, 111, 109]) = false) : namedF kind (nm :: fw :: r) = (setsF (fw :: r)).map (fun ss => ⟨kind, nm, ⟨#[]⟩, ss, 0⟩) := by
  simp [namedF, h, hf]
theorem namedF_f0 {kind : Nat} {nm fw : ByteArray} (h : isNm nm = true) (hf : (fw.toList == [102, 114, 111, 109]) = true) : namedF kind [nm, fw] = none := by
  simp [namedF, h, hf]
theorem namedF_f1 {kind : Nat} {nm fw b : ByteArray} {r : List ByteArray} (h : isNm nm = true) (hf : (fw.toList == [102, 114, 111, 109]) = true) (hb : isNm b = false) : namedF kind (nm :: fw :: b :: r) = none := by
  simp [namedF, h, hf, hb]
theorem namedF_f2 {kind : Nat} {nm fw b : ByteArray} {r : List ByteArray} (h : isNm nm = true) (hf : (fw.toList == [102, 114, 111, 109]) = true) (hb : isNm b = true) : namedF kind (nm :: fw :: b :: r) = (setsF r).map (fun ss => ⟨kind, nm, b, ss, 0⟩) := by
  simp [namedF, h, hf, hb]

/-- the two blocks of a call that makes a line, behind a call -/
theorem blk_cells {W w3 : World} (hb : Below W.heap.size W w3) {g : Nat} (hg : g < W.heap.size) {c0 c1 c2 c3 c4 : Value} (h : W.heap[g]? = some (.cells #[c0, c1, c2, c3, c4] 147 (0, 0))) :
    w3.cell? ⟨g, 0, none⟩ = some c0 ∧ w3.cell? ⟨g, 1, none⟩ = some c1 ∧ w3.cell? ⟨g, 2, none⟩ = some c2 ∧ w3.cell? ⟨g, 3, none⟩ = some c3 ∧ w3.cell? ⟨g, 4, none⟩ = some c4 ∧ ∀ a, w3.frozen? ⟨g, a, none⟩ = false := by
  have h' : w3.heap[g]? = some (.cells #[c0, c1, c2, c3, c4] 147 (0, 0)) := (hb.block g hg).trans h
  refine ⟨?_, ?_, ?_, ?_, ?_, fun a => ?_⟩ <;> simp [World.cell?, World.frozen?, h']

set_option maxRecDepth 20000 in
set_option maxHeartbeats 4000000 in
theorem parseNamed_any (kind : Nat) (ao : Option Addr) (cap n : Nat) (fs : List ByteArray) (w : World) (hr : RowAt w (.slice ao n cap) n (strs fs)) (hn : fs.length = n) (hn1 : n ≤ 1001) (hsm : ∀ p ∈ fs, p.size ≤ 1000) :
    Calls Tryz.prog 151 #[.int .i64 (kind : Int), .slice ao n cap] w fun e w' => Made (namedF kind fs) w w' e := by
  by_cases h0 : n = 0
  · subst h0
    obtain rfl : fs = [] := List.eq_nil_of_length_eq_zero hn
    have HN : Hid (namedF kind [] = none) := rfl
    clear hr hsm hn
    go_enter Tryz.func151, Tryz.ntmps151
    go_wp2_with fail
    exact bodyPost_ret (v := .tuple #[lnA 0 0 ⟨#[]⟩ ⟨#[]⟩ none 0 0, .bool false]) (by simp [results, Tryz.results151, go_sem]) rfl (.inl ⟨HN.out, _, _, _, _, _, _, _, rfl, nx_alloc _ _⟩)
  obtain ⟨nm, r, rfl⟩ : ∃ nm r, fs = nm :: r := by
    match fs, hn with
    | [], hn => simp at hn; omega
    | nm :: r, _ => exact ⟨nm, r, rfl⟩
  have h0b : ((n : Int) == 0) = false := by simp; omega
  have hnmb : nm.size ≤ maxLen := by have := hsm nm (by simp); unfold maxLen; omega
  obtain ⟨bl, off, rfl, hbl, hc⟩ := hr.at (j := 0) (x := .string nm) rfl
  rw [Nat.add_zero] at hc
  have hcap := row_len hr
  have hpos : (0 : Int) < (n : Int) := by omega
  have hca : ∀ o, (w.alloc o).cell? ⟨bl, off, none⟩ = some (.string nm) := fun o => ((nx_alloc w o).cell (p := ⟨bl, off, none⟩) hbl).trans hc
  cases hnm : isNm nm
  · have HN := hideIt (namedF_bad (kind := kind) (r := r) hnm)
    clear hr hsm hn
    go_enter Tryz.func151, Tryz.ntmps151
    go_wp2_with fail
    refine (isName_any nm _ hnmb).mono ?_; rintro e w' ⟨rfl, rfl⟩
    rw [hnm]
    go_wp2_with fail
    exact bodyPost_ret (v := .tuple #[lnA 0 0 ⟨#[]⟩ ⟨#[]⟩ none 0 0, .bool false]) (by simp [results, Tryz.results151, go_sem]) rfl (.inl ⟨HN.out, _, _, _, _, _, _, _, rfl, nx_alloc _ _⟩)
  obtain ⟨A, hA⟩ : ∃ A, (if cap = 1 then some (⟨bl, off, none⟩ : Addr) else some ⟨bl, off + 1, none⟩) = A := ⟨_, rfl⟩
  have hrow1 : RowAt w (.slice A (n - 1) (cap - 1)) (n - 1) (strs r) := by
    have := row_drop 1 hr hn (by omega)
    rw [hA] at this; exact this
  have hr1 : r.length = n - 1 := by simp at hn; omega
  by_cases hn2 : n = 1
  · subst hn2
    obtain rfl : r = [] := List.eq_nil_of_length_eq_zero hr1
    obtain ⟨W2, hW2⟩ : ∃ W2, W2 = (w.alloc bZero).alloc (.cells #[.int .i64 0, .int .i64 (kind : Int), .string nm, .string ⟨#[]⟩, .slice none 0 0] 147) := ⟨_, rfl⟩
    have hb2 : Below w.heap.size w W2 := by rw [hW2]; exact nx_trans (nx_alloc _ _) (nx_alloc _ _)
    have HP := hideIt (parseSettings_any A (cap - 1) 0 [] W2 (hrow1.nx hb2) rfl (by omega) (by simp))
    have HZ : Hid (W2.heap[w.heap.size]? = some bZero ∧ W2.heap[w.heap.size + 1]? = some (.cells #[.int .i64 0, .int .i64 (kind : Int), .string nm, .string ⟨#[]⟩, .slice none 0 0] 147 (0, 0)) ∧ W2.heap.size = w.heap.size + 2) := by
      rw [hW2]
      refine ⟨(heap_alloc_lt _ _ (by simp)).trans (heap_alloc_at _ _ rfl), heap_alloc_at _ _ (by simp), by simp⟩
    have H2 : Hid (W2 = (w.alloc bZero).alloc (.cells #[.int .i64 0, .int .i64 (kind : Int), .string nm, .string ⟨#[]⟩, .slice none 0 0] 147) ∧ Below w.heap.size w W2) := ⟨hW2, hb2⟩
    have HNN : Hid (namedF kind [nm] = (setsF []).map (fun ss => ⟨kind, nm, ⟨#[]⟩, ss, 0⟩)) := (by show _ = _; rw [namedF_one hnm]; rfl)
    clear hr hsm hn hrow1 hr1 hb2 hW2
    go_enter Tryz.func151, Tryz.ntmps151
    go_wp2_with fail
    refine (isName_any nm _ hnmb).mono ?_; rintro e w' ⟨rfl, rfl⟩
    rw [hnm]
    go_wp2_with fail
    rw [← H2.out.1]
    refine HP.out.mono ?_
    rintro e w3 (⟨hno, rfl, hb3⟩ | ⟨ss, so, sc, hso, rfl, hrow, hfr, hb3⟩)
    · obtain ⟨c0, c1, c2, c3, c4, z0⟩ := blk_cells hb3 (by rw [HZ.out.2.2]; omega) HZ.out.1
      obtain ⟨d0, d1, d2, d3, d4, z1⟩ := blk_cells hb3 (by rw [HZ.out.2.2]; omega) HZ.out.2.1
      have HF : Hid (namedF kind [nm] = none ∧ Below w.heap.size w w3) := ⟨by rw [HNN.out, hno]; rfl, nx_trans H2.out.2 hb3⟩
      clear hno hb3
      go_wp2_with fail
      refine bodyPost_ret (v := .tuple #[lnA 0 (kind : Int) nm ⟨#[]⟩ none 0 0, .bool false]) (by simp [results, Tryz.results151, go_sem, c0, c1, c2, c3, c4]) rfl (.inl ⟨HF.out.1, _, _, _, _, _, _, _, rfl, ?_⟩)
      exact (((((HF.out.2.setCell (Nat.le_succ _) _).setCell (Nat.le_refl _) _).setCell (Nat.le_refl _) _).setCell (Nat.le_refl _) _).setCell (Nat.le_refl _) _).setCell (Nat.le_refl _) _
    · obtain ⟨c0, c1, c2, c3, c4, z0⟩ := blk_cells hb3 (by rw [HZ.out.2.2]; omega) HZ.out.1
      obtain ⟨d0, d1, d2, d3, d4, z1⟩ := blk_cells hb3 (by rw [HZ.out.2.2]; omega) HZ.out.2.1
      have HF : Hid (namedF kind [nm] = some ⟨kind, nm, ⟨#[]⟩, ss, 0⟩ ∧ Below w.heap.size w w3 ∧ RowAt w3 (.slice so ss.length sc) ss.length (flatS ss) ∧ Fr (w.heap.size + 2) w3 so) :=
        ⟨by rw [HNN.out, hso]; rfl, nx_trans H2.out.2 hb3, hrow, by rw [← HZ.out.2.2]; exact hfr⟩
      clear hso hb3 hrow hfr
      go_wp2_with fail
      refine bodyPost_ret (v := .tuple #[lnA 0 (kind : Int) nm ⟨#[]⟩ so ss.length sc, .bool true]) (by simp [results, Tryz.results151, go_sem, c0, c1, c2, c3, c4]) rfl (.inr ⟨_, _, _, HF.out.1, rfl, ?_, ?_, ?_⟩)
      · have hne0 : ∀ b off, so = some ⟨b, off, none⟩ → w.heap.size ≠ b := fun b o e => by have := (HF.out.2.2.2 b o e).1; omega
        have hne1 : ∀ b off, so = some ⟨b, off, none⟩ → w.heap.size + 1 ≠ b := fun b o e => by have := (HF.out.2.2.2 b o e).1; omega
        exact (((((HF.out.2.2.1.set hne1 _ _).set hne0 _ _).set hne0 _ _).set hne0 _ _).set hne0 _ _).set hne0 _ _
      · exact ((((((HF.out.2.2.2.set (by omega) _ _).set (by omega) _ _).set (by omega) _ _).set (by omega) _ _).set (by omega) _ _).set (by omega) _ _).mono (by omega)
      · exact (((((HF.out.2.1.setCell (Nat.le_succ _) _).setCell (Nat.le_refl _) _).setCell (Nat.le_refl _) _).setCell (Nat.le_refl _) _).setCell (Nat.le_refl _) _).setCell (Nat.le_refl _) _
  obtain ⟨fw, r2, rfl⟩ : ∃ fw r2, r = fw :: r2 := by
    match r, hr1 with
    | [], hr1 => simp at hr1; omega
    | fw :: r2, _ => exact ⟨fw, r2, rfl⟩
  obtain ⟨bl1, off1, hA1, hbl1, hc1⟩ := hrow1.at (j := 0) (x := .string fw) rfl
  rw [Nat.add_zero] at hc1
  subst hA1
  have hpos1 : (0 : Int) < (n : Int) - 1 := by omega
  have hpos2 : 0 < n - 1 := by omega
  have hcb : ∀ o1 o2, ((w.alloc o1).alloc o2).cell? ⟨bl1, off1, none⟩ = some (.string fw) := fun o1 o2 => ((nx_trans (nx_alloc w o1) (nx_alloc _ o2)).cell (p := ⟨bl1, off1, none⟩) hbl1).trans hc1
  cases hfw : fw.toList == [102, 114, 111, 109]
  · obtain ⟨W2, hW2⟩ : ∃ W2, W2 = (w.alloc bZero).alloc (.cells #[.int .i64 0, .int .i64 (kind : Int), .string nm, .string ⟨#[]⟩, .slice none 0 0] 147) := ⟨_, rfl⟩
    have hb2 : Below w.heap.size w W2 := by rw [hW2]; exact nx_trans (nx_alloc _ _) (nx_alloc _ _)
    have HP := hideIt (parseSettings_any (some ⟨bl1, off1, none⟩) (cap - 1) (n - 1) (fw :: r2) W2 (hrow1.nx hb2) hr1 (by omega) (fun p hp => hsm p (List.mem_cons_of_mem _ hp)))
    have HZ : Hid (W2.heap[w.heap.size]? = some bZero ∧ W2.heap[w.heap.size + 1]? = some (.cells #[.int .i64 0, .int .i64 (kind : Int), .string nm, .string ⟨#[]⟩, .slice none 0 0] 147 (0, 0)) ∧ W2.heap.size = w.heap.size + 2) := by
      rw [hW2]
      refine ⟨(heap_alloc_lt _ _ (by simp)).trans (heap_alloc_at _ _ rfl), heap_alloc_at _ _ (by simp), by simp⟩
    have H2 : Hid (W2 = (w.alloc bZero).alloc (.cells #[.int .i64 0, .int .i64 (kind : Int), .string nm, .string ⟨#[]⟩, .slice none 0 0] 147) ∧ Below w.heap.size w W2) := ⟨hW2, hb2⟩
    have HNN : Hid (namedF kind (nm :: fw :: r2) = (setsF (fw :: r2)).map (fun ss => ⟨kind, nm, ⟨#[]⟩, ss, 0⟩)) := namedF_plain hnm hfw
    clear hr hsm hn hrow1 hr1 hc1 hb2 hW2
    go_enter Tryz.func151, Tryz.ntmps151
    go_wp2_with fail
    refine (isName_any nm _ hnmb).mono ?_; rintro e w' ⟨rfl, rfl⟩
    rw [hnm]
    go_wp2_with fail
    rw [← H2.out.1]
    refine HP.out.mono ?_
    rintro e w3 (⟨hno, rfl, hb3⟩ | ⟨ss, so, sc, hso, rfl, hrow, hfr, hb3⟩)
    · obtain ⟨c0, c1, c2, c3, c4, z0⟩ := blk_cells hb3 (by rw [HZ.out.2.2]; omega) HZ.out.1
      obtain ⟨d0, d1, d2, d3, d4, z1⟩ := blk_cells hb3 (by rw [HZ.out.2.2]; omega) HZ.out.2.1
      have HF : Hid (namedF kind (nm :: fw :: r2) = none ∧ Below w.heap.size w w3) := ⟨by rw [HNN.out, hno]; rfl, nx_trans H2.out.2 hb3⟩
      clear hno hb3
      go_wp2_with fail
      refine bodyPost_ret (v := .tuple #[lnA 0 (kind : Int) nm ⟨#[]⟩ none 0 0, .bool false]) (by simp [results, Tryz.results151, go_sem, c0, c1, c2, c3, c4]) rfl (.inl ⟨HF.out.1, _, _, _, _, _, _, _, rfl, ?_⟩)
      exact (((((HF.out.2.setCell (Nat.le_succ _) _).setCell (Nat.le_refl _) _).setCell (Nat.le_refl _) _).setCell (Nat.le_refl _) _).setCell (Nat.le_refl _) _).setCell (Nat.le_refl _) _
    · obtain ⟨c0, c1, c2, c3, c4, z0⟩ := blk_cells hb3 (by rw [HZ.out.2.2]; omega) HZ.out.1
      obtain ⟨d0, d1, d2, d3, d4, z1⟩ := blk_cells hb3 (by rw [HZ.out.2.2]; omega) HZ.out.2.1
      have HF : Hid (namedF kind (nm :: fw :: r2) = some ⟨kind, nm, ⟨#[]⟩, ss, 0⟩ ∧ Below w.heap.size w w3 ∧ RowAt w3 (.slice so ss.length sc) ss.length (flatS ss) ∧ Fr (w.heap.size + 2) w3 so) :=
        ⟨by rw [HNN.out, hso]; rfl, nx_trans H2.out.2 hb3, hrow, by rw [← HZ.out.2.2]; exact hfr⟩
      clear hso hb3 hrow hfr
      go_wp2_with fail
      refine bodyPost_ret (v := .tuple #[lnA 0 (kind : Int) nm ⟨#[]⟩ so ss.length sc, .bool true]) (by simp [results, Tryz.results151, go_sem, c0, c1, c2, c3, c4]) rfl (.inr ⟨_, _, _, HF.out.1, rfl, ?_, ?_, ?_⟩)
      · have hne0 : ∀ b off, so = some ⟨b, off, none⟩ → w.heap.size ≠ b := fun b o e => by have := (HF.out.2.2.2 b o e).1; omega
        have hne1 : ∀ b off, so = some ⟨b, off, none⟩ → w.heap.size + 1 ≠ b := fun b o e => by have := (HF.out.2.2.2 b o e).1; omega
        exact (((((HF.out.2.2.1.set hne1 _ _).set hne0 _ _).set hne0 _ _).set hne0 _ _).set hne0 _ _).set hne0 _ _
      · exact ((((((HF.out.2.2.2.set (by omega) _ _).set (by omega) _ _).set (by omega) _ _).set (by omega) _ _).set (by omega) _ _).set (by omega) _ _).mono (by omega)
      · exact (((((HF.out.2.1.setCell (Nat.le_succ _) _).setCell (Nat.le_refl _) _).setCell (Nat.le_refl _) _).setCell (Nat.le_refl _) _).setCell (Nat.le_refl _) _).setCell (Nat.le_refl _) _
  obtain ⟨c1', hc1'⟩ : ∃ c1', cap - 1 = c1' := ⟨_, rfl⟩
  obtain ⟨n1', hn1'⟩ : ∃ n1', n - 1 = n1' := ⟨_, rfl⟩
  rw [hc1', hn1'] at hrow1
  rw [hn1'] at hr1 hpos2
  obtain ⟨A2, hA2⟩ : ∃ A2, (if c1' = 2 then some (⟨bl1, off1, none⟩ : Addr) else some ⟨bl1, off1 + 2, none⟩) = A2 := ⟨_, rfl⟩
  by_cases hn3 : n = 2
  · obtain rfl : r2 = [] := by
      match r2, hr1 with
      | [], _ => rfl
      | a :: b, h => simp at h; omega
    have hlt2 : (n : Int) - 1 < 2 := by omega
    have hlt3 : n1' < 2 := by omega
    have HN3 : Hid (n = 2) := hn3
    clear hn3
    have HN := hideIt (namedF_f0 (kind := kind) hnm hfw)
    clear hr hsm hn hrow1 hr1 hc1
    go_enter Tryz.func151, Tryz.ntmps151
    go_wp2_with fail
    refine (isName_any nm _ hnmb).mono ?_; rintro e w' ⟨rfl, rfl⟩
    rw [hnm]
    go_wp2_with fail
    exact bodyPost_ret (v := .tuple #[lnA 0 0 ⟨#[]⟩ ⟨#[]⟩ none 0 0, .bool false]) (by simp [results, Tryz.results151, go_sem]) rfl (.inl ⟨HN.out, _, _, _, _, _, _, _, rfl, nx_trans (nx_alloc _ _) (nx_alloc _ _)⟩)
  obtain ⟨b, r3, rfl⟩ : ∃ b r3, r2 = b :: r3 := by
    match r2, hr1 with
    | [], hr1 => simp at hr1; omega
    | b :: r3, _ => exact ⟨b, r3, rfl⟩
  have hbb : b.size ≤ maxLen := by have := hsm b (by simp); unfold maxLen; omega
  obtain ⟨bl', off', e1, _, hc2⟩ := hrow1.at (j := 1) (x := .string b) rfl
  obtain ⟨rfl, rfl⟩ : bl1 = bl' ∧ off1 = off' := by simpa using e1
  have hpos3 : (1 : Int) < (n : Int) - 1 := by omega
  have hpos4 : 1 < n1' := by omega
  have hpos5 : (2 : Int) ≤ (n1' : Int) := by omega
  have hcap2 : n1' ≤ c1' := row_len hrow1
  have hcc : ∀ o1 o2, ((w.alloc o1).alloc o2).cell? ⟨bl1, off1 + 1, none⟩ = some (.string b) := fun o1 o2 => ((nx_trans (nx_alloc w o1) (nx_alloc _ o2)).cell (p := ⟨bl1, off1 + 1, none⟩) hbl1).trans hc2
  have hrow3 : RowAt w (.slice A2 (n1' - 2) (c1' - 2)) (n1' - 2) (strs r3) := by
    have := row_drop 2 hrow1 hr1 (by omega)
    rw [hA2] at this; exact this
  have hr3 : r3.length = n1' - 2 := by simp at hr1; omega
  clear e1
  cases hbn : isNm b
  · have HN := hideIt (namedF_f1 (kind := kind) (r := r3) hnm hfw hbn)
    clear hr hsm hn hrow1 hr1 hc1 hc2 hrow3 hr3
    go_enter Tryz.func151, Tryz.ntmps151
    go_wp2_with fail
    refine (isName_any nm _ hnmb).mono ?_; rintro e w' ⟨rfl, rfl⟩
    rw [hnm]
    go_wp2_with fail
    refine (isName_any b _ hbb).mono ?_; rintro e w' ⟨rfl, rfl⟩
    rw [hbn]
    go_wp2_with fail
    exact bodyPost_ret (v := .tuple #[lnA 0 0 ⟨#[]⟩ ⟨#[]⟩ none 0 0, .bool false]) (by simp [results, Tryz.results151, go_sem]) rfl (.inl ⟨HN.out, _, _, _, _, _, _, _, rfl, nx_trans (nx_alloc _ _) (nx_alloc _ _)⟩)
  obtain ⟨W2, hW2⟩ : ∃ W2, W2 = (w.alloc bZero).alloc (.cells #[.int .i64 0, .int .i64 (kind : Int), .string nm, .string b, .slice none 0 0] 147) := ⟨_, rfl⟩
  have hb2 : Below w.heap.size w W2 := by rw [hW2]; exact nx_trans (nx_alloc _ _) (nx_alloc _ _)
  have HP := hideIt (parseSettings_any A2 (c1' - 2) (n1' - 2) r3 W2 (hrow3.nx hb2) hr3 (by omega) (fun p hp => hsm p (by simp [hp])))
  have HZ : Hid (W2.heap[w.heap.size]? = some bZero ∧ W2.heap[w.heap.size + 1]? = some (.cells #[.int .i64 0, .int .i64 (kind : Int), .string nm, .string b, .slice none 0 0] 147 (0, 0)) ∧ W2.heap.size = w.heap.size + 2) := by
    rw [hW2]
    refine ⟨(heap_alloc_lt _ _ (by simp)).trans (heap_alloc_at _ _ rfl), heap_alloc_at _ _ (by simp), by simp⟩
  have H2 : Hid (W2 = (w.alloc bZero).alloc (.cells #[.int .i64 0, .int .i64 (kind : Int), .string nm, .string b, .slice none 0 0] 147) ∧ Below w.heap.size w W2) := ⟨hW2, hb2⟩
  have HNN : Hid (namedF kind (nm :: fw :: b :: r3) = (setsF r3).map (fun ss => ⟨kind, nm, b, ss, 0⟩)) := namedF_f2 hnm hfw hbn
  clear hr hsm hn hrow1 hr1 hc1 hc2 hrow3 hr3 hb2 hW2
  go_enter Tryz.func151, Tryz.ntmps151
  go_wp2_with fail
  refine (isName_any nm _ hnmb).mono ?_; rintro e w' ⟨rfl, rfl⟩
  rw [hnm]
  go_wp2_with fail
  refine (isName_any b _ hbb).mono ?_; rintro e w' ⟨rfl, rfl⟩
  rw [hbn]
  go_wp2_with fail
  rw [← H2.out.1]
  refine HP.out.mono ?_
  rintro e w3 (⟨hno, rfl, hb3⟩ | ⟨ss, so, sc, hso, rfl, hrow, hfr, hb3⟩)
  · obtain ⟨c0, c1, c2, c3, c4, z0⟩ := blk_cells hb3 (by rw [HZ.out.2.2]; omega) HZ.out.1
    obtain ⟨d0, d1, d2, d3, d4, z1⟩ := blk_cells hb3 (by rw [HZ.out.2.2]; omega) HZ.out.2.1
    have HF : Hid (namedF kind (nm :: fw :: b :: r3) = none ∧ Below w.heap.size w w3) := ⟨by rw [HNN.out, hno]; rfl, nx_trans H2.out.2 hb3⟩
    clear hno hb3
    go_wp2_with fail
    refine bodyPost_ret (v := .tuple #[lnA 0 (kind : Int) nm b none 0 0, .bool false]) (by simp [results, Tryz.results151, go_sem, c0, c1, c2, c3, c4]) rfl (.inl ⟨HF.out.1, _, _, _, _, _, _, _, rfl, ?_⟩)
    exact (((((HF.out.2.setCell (Nat.le_succ _) _).setCell (Nat.le_refl _) _).setCell (Nat.le_refl _) _).setCell (Nat.le_refl _) _).setCell (Nat.le_refl _) _).setCell (Nat.le_refl _) _
  · obtain ⟨c0, c1, c2, c3, c4, z0⟩ := blk_cells hb3 (by rw [HZ.out.2.2]; omega) HZ.out.1
    obtain ⟨d0, d1, d2, d3, d4, z1⟩ := blk_cells hb3 (by rw [HZ.out.2.2]; omega) HZ.out.2.1
    have HF : Hid (namedF kind (nm :: fw :: b :: r3) = some ⟨kind, nm, b, ss, 0⟩ ∧ Below w.heap.size w w3 ∧ RowAt w3 (.slice so ss.length sc) ss.length (flatS ss) ∧ Fr (w.heap.size + 2) w3 so) :=
      ⟨by rw [HNN.out, hso]; rfl, nx_trans H2.out.2 hb3, hrow, by rw [← HZ.out.2.2]; exact hfr⟩
    clear hso hb3 hrow hfr
    go_wp2_with fail
    refine bodyPost_ret (v := .tuple #[lnA 0 (kind : Int) nm b so ss.length sc, .bool true]) (by simp [results, Tryz.results151, go_sem, c0, c1, c2, c3, c4]) rfl (.inr ⟨_, _, _, HF.out.1, rfl, ?_, ?_, ?_⟩)
    · have hne0 : ∀ b off, so = some ⟨b, off, none⟩ → w.heap.size ≠ b := fun b o e => by have := (HF.out.2.2.2 b o e).1; omega
      have hne1 : ∀ b off, so = some ⟨b, off, none⟩ → w.heap.size + 1 ≠ b := fun b o e => by have := (HF.out.2.2.2 b o e).1; omega
      exact (((((HF.out.2.2.1.set hne1 _ _).set hne0 _ _).set hne0 _ _).set hne0 _ _).set hne0 _ _).set hne0 _ _
    · exact ((((((HF.out.2.2.2.set (by omega) _ _).set (by omega) _ _).set (by omega) _ _).set (by omega) _ _).set (by omega) _ _).set (by omega) _ _).mono (by omega)
    · exact (((((HF.out.2.1.setCell (Nat.le_succ _) _).setCell (Nat.le_refl _) _).setCell (Nat.le_refl _) _).setCell (Nat.le_refl _) _).setCell (Nat.le_refl _) _).setCell (Nat.le_refl _) _
end Co
end Go.Proofs.YtmmmjpkhnbfnbaaGreat
namespace Go.Proofs.YtmmmjpkhnbfnbaaGreat
open Go.RowKit
namespace Co

abbrev lnA' (x0 x1 : Int) (s2 s3 : ByteArray) (a4 : Option Addr) (n4 c4 : Nat) : Value := .agg #[.int .i64 x0, .int .i64 x1, .string s2, .string s3, .slice a4 n4 c4]
/-- the cells of lines: each with its list's value -/
def flatL : List (Ln × Value) → List Value
  | [] => []
  | p :: r => .int .i64 (p.1.place : Int) :: .int .i64 (p.1.kind : Int) :: .string p.1.name :: .string p.1.frm :: p.2 :: flatL r
theorem flatL_append : ∀ a b : List (Ln × Value), flatL (a ++ b) = flatL a ++ flatL b
  | [], b => rfl
  | p :: a, b => by simp [flatL, flatL_append a b]
theorem flatL_at : ∀ (ls : List (Ln × Value)) (i : Nat) (l : Ln) (sv : Value), ls[i]? = some (l, sv) → (flatL ls)[i * 5]? = some (.int .i64 (l.place : Int)) ∧ (flatL ls)[i * 5 + 1]? = some (.int .i64 (l.kind : Int)) ∧ (flatL ls)[i * 5 + 2]? = some (.string l.name) ∧ (flatL ls)[i * 5 + 3]? = some (.string l.frm) ∧ (flatL ls)[i * 5 + 4]? = some sv
  | [], i, l, sv, h => by simp at h
  | q :: r, 0, l, sv, h => by simp at h; subst h; simp [flatL]
  | q :: r, i + 1, l, sv, h => by
    have ih := flatL_at r i l sv (by simpa using h)
    have e0 : (i + 1) * 5 = i * 5 + 5 := by omega
    rw [e0]
    simp only [flatL]
    exact ih
theorem flatS_at : ∀ (ss : List (Nat × Nat)) (i : Nat) (a b : Nat), ss[i]? = some (a, b) → (flatS ss)[i * 2]? = some (.string (wordB a)) ∧ (flatS ss)[i * 2 + 1]? = some (.int .i64 (b : Int))
  | [], i, a, b, h => by simp at h
  | q :: r, 0, a, b, h => by simp at h; subst h; simp [flatS]
  | q :: r, i + 1, a, b, h => by
    have ih := flatS_at r i a b (by simpa using h)
    have e0 : (i + 1) * 2 = i * 2 + 2 := by omega
    rw [e0]
    simp only [flatS]
    exact ih
def LinesAt (w : World) (v : Value) (ls : List (Ln × Value)) : Prop := RowAt w v ls.length (flatL ls) ∧ ∀ p ∈ ls, RowAt w p.2 p.1.sets.length (flatS p.1.sets)
theorem LinesAt.nx {w w' : World} {v : Value} {ls : List (Ln × Value)} (h : LinesAt w v ls) (hb : Below w.heap.size w w') : LinesAt w' v ls := ⟨h.1.nx hb, fun p hp => (h.2 p hp).nx hb⟩
theorem LinesAt.at {w : World} {ao : Option Addr} {n cap : Nat} {ls : List (Ln × Value)} (h : LinesAt w (.slice ao n cap) ls) {k : Nat} {l : Ln} {sv : Value} (hk : ls[k]? = some (l, sv)) :
    ∃ b off so sc, ao = some ⟨b, off, none⟩ ∧ b < w.heap.size ∧ sv = .slice so l.sets.length sc ∧ RowAt w (.slice so l.sets.length sc) l.sets.length (flatS l.sets) ∧
      w.cell? ⟨b, off + k * 5, none⟩ = some (.int .i64 (l.place : Int)) ∧ w.cell? ⟨b, off + k * 5 + 1, none⟩ = some (.int .i64 (l.kind : Int)) ∧ w.cell? ⟨b, off + k * 5 + 2, none⟩ = some (.string l.name) ∧
      w.cell? ⟨b, off + k * 5 + 3, none⟩ = some (.string l.frm) ∧ w.cell? ⟨b, off + k * 5 + 4, none⟩ = some (.slice so l.sets.length sc) := by
  obtain ⟨f0, f1, f2, f3, f4⟩ := flatL_at ls k l sv hk
  obtain ⟨b, off, rfl, hb, g0⟩ := h.1.at f0
  have hin : ∀ j x, (flatL ls)[k * 5 + j]? = some x → w.cell? ⟨b, off + k * 5 + j, none⟩ = some x := by
    intro j x hx
    obtain ⟨b', off', e, _, g⟩ := h.1.at hx
    obtain ⟨rfl, rfl⟩ : b = b' ∧ off = off' := by simpa using e
    rw [Nat.add_assoc]; exact g
  have hs := h.2 (l, sv) (List.mem_of_getElem? hk)
  obtain ⟨so, sc, e, hcap, hrest⟩ := hs
  simp only at e
  refine ⟨b, off, so, sc, rfl, hb, e, ⟨so, sc, rfl, hcap, hrest⟩, g0, hin 1 _ f1, hin 2 _ f2, hin 3 _ f3, ?_⟩
  rw [← e]; exact hin 4 _ f4
theorem sets_at {w : World} {so : Option Addr} {n sc : Nat} {ss : List (Nat × Nat)} (h : RowAt w (.slice so n sc) n (flatS ss)) {k a b : Nat} (hk : ss[k]? = some (a, b)) :
    ∃ bl off, so = some ⟨bl, off, none⟩ ∧ bl < w.heap.size ∧ w.cell? ⟨bl, off + k * 2, none⟩ = some (.string (wordB a)) ∧ w.cell? ⟨bl, off + k * 2 + 1, none⟩ = some (.int .i64 (b : Int)) := by
  obtain ⟨f0, f1⟩ := flatS_at ss k a b hk
  obtain ⟨bl, off, rfl, hb, g0⟩ := h.at f0
  obtain ⟨b', off', e, _, g⟩ := h.at f1
  obtain ⟨rfl, rfl⟩ : bl = b' ∧ off = off' := by simpa using e
  exact ⟨bl, off, rfl, hb, g0, by rw [Nat.add_assoc]; exact g⟩

/-- may the number stand with the key? -/
def fitsK (k : Nat) (n : Int) : Bool := match k with | 0 => inB 0 20 n | 1 => inB 0 20 n | 2 => inB 0 999 n | _ => inB 1 99 n
theorem fits_any (k : Nat) (n : Int) (w : World) :
    Calls Tryz.prog 166 #[.string (wordB k), .int .i64 n] w fun e w' => e = .returned (.bool (fitsK k n)) ∧ w' = w := by
  match k with
  | 0 => exact fits_size n w
  | 1 => exact fits_wait n w
  | 2 => exact fits_far n w
  | k + 3 => exact fits_budget n w

abbrev bLn (x0 x1 : Int) (s2 s3 : ByteArray) (a4 : Option Addr) (n4 c4 : Nat) : Obj := .cells #[.int .i64 x0, .int .i64 x1, .string s2, .string s3, .slice a4 n4 c4] 147

def allFit (ss : List (Nat × Nat)) : Bool := ss.all fun p => fitsK p.1 p.2
theorem allFit_cons (a b : Nat) (r : List (Nat × Nat)) : allFit ((a, b) :: r) = (fitsK a b && allFit r) := by simp [allFit]

set_option maxHeartbeats 1000000 in
theorem numbersFit_any (x0 x1 : Int) (s2 s3 : ByteArray) (so : Option Addr) (sc n : Nat) (ss : List (Nat × Nat)) (w : World) (hr : RowAt w (.slice so n sc) n (flatS ss)) (hn : ss.length = n) (hn1 : n ≤ 1001) :
    Calls Tryz.prog 152 #[lnA' x0 x1 s2 s3 so n sc] w fun e w' => e = .returned (.bool (allFit ss)) ∧ Below w.heap.size w w' := by
  have HN : Hid (ss.length = n) := hn
  have HR : Hid (RowAt (w.alloc (bLn x0 x1 s2 s3 so n sc)) (.slice so n sc) n (flatS ss)) := hr.nx (nx_alloc _ _)
  clear hr hn
  go_enter Tryz.func152, Tryz.ntmps152
  go_wp2_with fail
  go_loopw [3] (fun i wr => ∃ (k : Nat), k ≤ n ∧ i = .int .i64 k ∧ Hid (allFit (ss.drop k) = allFit ss) ∧ Below (w.alloc (bLn x0 x1 s2 s3 so n sc)).heap.size (w.alloc (bLn x0 x1 s2 s3 so n sc)) wr) (fun i _ => n - (intOf i).toNat)
  case atStart => exact ⟨0, Nat.zero_le _, rfl, rfl, Below.refl _ _⟩
  case round =>
    obtain ⟨k, hk, rfl, HS, hbel⟩ := hrel
    have hcell : wr.cell? ⟨w.heap.size, 4, none⟩ = some (.slice so n sc) := (hbel.cell (p := ⟨w.heap.size, 4, none⟩) (by simp)).trans (by simp)
    have HB : Hid (Below w.heap.size w wr) := nx_trans (nx_alloc _ _) hbel
    by_cases hlt : k < n
    · obtain ⟨⟨a, b⟩, hp⟩ : ∃ p, ss[k]? = some p := ⟨_, List.getElem?_eq_getElem (by rw [HN.out]; exact hlt)⟩
      obtain ⟨bl, off, rfl, hbl, c0, c1⟩ := sets_at (HR.out.nx hbel) hp
      have HD : Hid (ss.drop k = (a, b) :: ss.drop (k + 1)) := drop_at hp
      have hlti : (k : Int) < (n : Int) := by omega
      clear hp
      cases hf : fitsK a b
      · go_wp2_with fail
        go_quiet ((go_at_call 166; exact Calls.quiet_of_same (fits_any _ _ _)))
        rw [hf]
        go_wp2_with fail
        go_ret
        exact ⟨ret_bool (by rw [← HS.out, HD.out, allFit_cons, hf]; rfl), below_drewN HB.out _⟩
      · go_wp2_with fail
        go_quiet ((go_at_call 166; exact Calls.quiet_of_same (fits_any _ _ _)))
        rw [hf]
        go_wp2_with fail
        go_roundw
        case rel => exact ⟨k + 1, by omega, by go_num, (by show _ = _; rw [← HS.out, HD.out, allFit_cons, hf]; simp), below_drewN hbel _⟩
        case measure => simp [intOf]; omega
    · go_wp2_with fail
      go_ret
      exact ⟨ret_bool (by rw [← HS.out, List.drop_of_length_le (by rw [HN.out]; omega)]; rfl), HB.out⟩

/-- how many lines have this kind -/
def cnt (ls : List (Ln × Value)) (kind : Nat) : Nat := (ls.filter fun p => p.1.kind == kind).length
theorem cnt_snoc (ls : List (Ln × Value)) (kind k : Nat) (l : Ln) (sv : Value) (h : ls[k]? = some (l, sv)) : cnt (ls.take (k + 1)) kind = cnt (ls.take k) kind + (if l.kind = kind then 1 else 0) := by
  obtain ⟨hk, e⟩ := List.getElem?_eq_some_iff.1 h
  unfold cnt
  rw [List.take_succ_eq_append_getElem hk, List.filter_append, e, List.length_append]
  by_cases hh : l.kind = kind <;> simp [hh]
def many (ls : List (Ln × Value)) (kind : Nat) : Bool := if kind = 2 ∨ kind = 3 then decide (6 ≤ cnt ls kind) else false

set_option maxHeartbeats 1000000 in
theorem tooMany_any (x0 : Int) (kind : Nat) (s2 s3 : ByteArray) (so : Option Addr) (sc m : Nat) (ao : Option Addr) (cap n : Nat) (ls : List (Ln × Value)) (w : World) (hl : LinesAt w (.slice ao n cap) ls) (hn : ls.length = n) (hn1 : n ≤ 1001) (hkind : kind ≤ 3) :
    Calls Tryz.prog 153 #[lnA' x0 (kind : Int) s2 s3 so m sc, .slice ao n cap] w fun e w' => e = .returned (.bool (many ls kind)) ∧ Below w.heap.size w w' := by
  have HN : Hid (ls.length = n) := hn
  have HL : Hid (LinesAt (w.alloc (bLn x0 kind s2 s3 so m sc)) (.slice ao n cap) ls) := hl.nx (nx_alloc _ _)
  clear hl hn
  go_enter Tryz.func153, Tryz.ntmps153
  go_wp2_with fail
  go_loopw [5, 6] (fun c i wr => ∃ (k q : Nat), k ≤ n ∧ i = .int .i64 k ∧ c = .int .i64 q ∧ q ≤ k ∧ Hid (cnt (ls.take k) kind = q) ∧ Below (w.alloc (bLn x0 kind s2 s3 so m sc)).heap.size (w.alloc (bLn x0 kind s2 s3 so m sc)) wr) (fun _ i _ => n - (intOf i).toNat)
  case atStart => exact ⟨0, 0, Nat.zero_le _, rfl, rfl, Nat.le_refl _, rfl, Below.refl _ _⟩
  case round =>
    obtain ⟨k, q, hk, rfl, rfl, hq, HS, hbel⟩ := hrel
    have hcell : wr.cell? ⟨w.heap.size, 1, none⟩ = some (.int .i64 (kind : Int)) := (hbel.cell (p := ⟨w.heap.size, 1, none⟩) (by simp)).trans (by simp)
    have HB : Hid (Below w.heap.size w wr) := nx_trans (nx_alloc _ _) hbel
    by_cases hlt : k < n
    · obtain ⟨⟨l, sv⟩, hp⟩ : ∃ p, ls[k]? = some p := ⟨_, List.getElem?_eq_getElem (by rw [HN.out]; exact hlt)⟩
      obtain ⟨bl, off, so', sc', rfl, hbl, _, _, c0, c1, c2, c3, c4⟩ := (HL.out.nx hbel).at hp
      have HC := hideIt (cnt_snoc ls kind k l sv hp)
      have hlti : (k : Int) < (n : Int) := by omega
      clear hp c0 c2 c3 c4
      by_cases hkk : l.kind = kind
      · have hkb : ((l.kind : Int) == (kind : Int)) = true := by simp [hkk]
        have HK : Hid (l.kind = kind) := hkk
        clear hkk
        go_wp2_with fail
        go_quiet (fail)
        go_wp2_with fail
        go_roundw
        case rel => exact ⟨k + 1, q + 1, by omega, by go_num, by go_num, by omega, (by show _ = _; rw [HC.out, HS.out, if_pos HK.out]), below_drewN hbel _⟩
        case measure => simp [intOf]; omega
      · have hkb : ((l.kind : Int) == (kind : Int)) = false := by simp; omega
        have HK : Hid (¬ l.kind = kind) := hkk
        clear hkk
        go_wp2_with fail
        go_quiet (fail)
        go_wp2_with fail
        go_roundw
        case rel => exact ⟨k + 1, q, by omega, by go_num, rfl, by omega, (by show _ = _; rw [HC.out, HS.out, if_neg HK.out]; rfl), below_drewN hbel _⟩
        case measure => simp [intOf]; omega
    · have HQ : Hid (cnt ls kind = q) := by
        have h := HS.out
        rw [List.take_of_length_le (by rw [HN.out]; omega)] at h
        exact h
      by_cases h2 : kind = 2
      · subst h2
        go_wp2_with fail
        go_ret
        exact ⟨ret_bool (by rw [many, if_pos (.inl rfl), HQ.out, Bool.eq_iff_iff, decide_eq_true_iff, decide_eq_true_iff]; omega), HB.out⟩
      · have h2b : ((kind : Int) == 2) = false := by simp; omega
        by_cases h3 : kind = 3
        · subst h3
          go_wp2_with fail
          go_ret
          exact ⟨ret_bool (by rw [many, if_pos (.inr rfl), HQ.out, Bool.eq_iff_iff, decide_eq_true_iff, decide_eq_true_iff]; omega), HB.out⟩
        · have h3b : ((kind : Int) == 3) = false := by simp; omega
          have H23 : Hid (¬ (kind = 2 ∨ kind = 3)) := by intro h; omega
          clear h2 h3
          go_wp2_with fail
          go_ret
          exact ⟨ret_bool (by rw [many, if_neg H23.out]), HB.out⟩

/-- no key twice -/
def once (ss : List (Nat × Nat)) : Prop := ss.Pairwise fun a b => ¬ (wordB a.1).toList = (wordB b.1).toList
def twc (ss : List (Nat × Nat)) : Bool := !decide (ss.Pairwise fun a b => ¬ (wordB a.1).toList = (wordB b.1).toList)
theorem once_take {ss : List (Nat × Nat)} {k : Nat} {p : Nat × Nat} (h : ss[k]? = some p) (h1 : once (ss.take k)) (h2 : ∀ j q, j < k → ss[j]? = some q → ¬ (wordB q.1).toList = (wordB p.1).toList) : once (ss.take (k + 1)) := by
  obtain ⟨hk, e⟩ := List.getElem?_eq_some_iff.1 h
  unfold once at *
  rw [List.take_succ_eq_append_getElem hk, List.pairwise_append]
  refine ⟨h1, by simp, fun a ha b hb => ?_⟩
  simp at hb
  subst hb
  obtain ⟨j, hj⟩ := List.getElem?_of_mem ha
  have hjl : j < k := by
    have := (List.getElem?_eq_some_iff.1 hj).1
    simp at this; omega
  rw [List.getElem?_take, if_pos hjl] at hj
  rw [e]
  exact h2 j a hjl hj
theorem twc_bad {ss : List (Nat × Nat)} {j k : Nat} {q p : Nat × Nat} (hjk : j < k) (hq : ss[j]? = some q) (hp : ss[k]? = some p) (he : (wordB q.1).toList = (wordB p.1).toList) : twc ss = true := by
  unfold twc
  have : ¬ ss.Pairwise fun a b => ¬ (wordB a.1).toList = (wordB b.1).toList := by
    intro h
    obtain ⟨h1, rfl⟩ := List.getElem?_eq_some_iff.1 hq
    obtain ⟨h2, rfl⟩ := List.getElem?_eq_some_iff.1 hp
    exact List.pairwise_iff_getElem.1 h j k h1 h2 hjk he
  simp [this]
theorem twc_good {ss : List (Nat × Nat)} (h : once ss) : twc ss = false := by
  unfold twc; unfold once at h; simp [h]

set_option maxHeartbeats 2000000 in
theorem keyTwice_any (x0 x1 : Int) (s2 s3 : ByteArray) (so : Option Addr) (sc n : Nat) (ss : List (Nat × Nat)) (w : World) (hr : RowAt w (.slice so n sc) n (flatS ss)) (hn : ss.length = n) (hn1 : n ≤ 1001) :
    Calls Tryz.prog 154 #[lnA' x0 x1 s2 s3 so n sc] w fun e w' => e = .returned (.bool (twc ss)) ∧ Below w.heap.size w w' := by
  have HN : Hid (ss.length = n) := hn
  have HR : Hid (RowAt (w.alloc (bLn x0 x1 s2 s3 so n sc)) (.slice so n sc) n (flatS ss)) := hr.nx (nx_alloc _ _)
  clear hr hn
  go_enter Tryz.func154, Tryz.ntmps154
  go_wp2_with fail
  go_loopw [3] (fun i wr => ∃ (k : Nat), k ≤ n ∧ i = .int .i64 k ∧ Hid (once (ss.take k)) ∧ Below (w.alloc (bLn x0 x1 s2 s3 so n sc)).heap.size (w.alloc (bLn x0 x1 s2 s3 so n sc)) wr) (fun i _ => n - (intOf i).toNat)
  case atStart => exact ⟨0, Nat.zero_le _, rfl, List.Pairwise.nil, Below.refl _ _⟩
  case round =>
    obtain ⟨k, hk, rfl, HS, hbel⟩ := hrel
    have hcell : wr.cell? ⟨w.heap.size, 4, none⟩ = some (.slice so n sc) := (hbel.cell (p := ⟨w.heap.size, 4, none⟩) (by simp)).trans (by simp)
    by_cases hlt : k < n
    · obtain ⟨⟨a, b⟩, hp⟩ : ∃ p, ss[k]? = some p := ⟨_, List.getElem?_eq_getElem (by rw [HN.out]; exact hlt)⟩
      have HPk : Hid (ss[k]? = some (a, b)) := hp
      have HBL := hideIt hbel
      clear hp
      go_wp2_with fail
      go_loopw [4] (fun i wq => ∃ (j : Nat), j ≤ k ∧ i = .int .i64 j ∧ Hid (∀ j' q, j' < j → ss[j']? = some q → ¬ (wordB q.1).toList = (wordB a).toList) ∧ Below (w.alloc (bLn x0 x1 s2 s3 so n sc)).heap.size (w.alloc (bLn x0 x1 s2 s3 so n sc)) wq) (fun i _ => k - (intOf i).toNat)
      case atStart => exact ⟨0, Nat.zero_le _, rfl, (fun j' q h => by omega), HBL.out⟩
      case round =>
        obtain ⟨j, hj, rfl, HJ, hbel2⟩ := hrel
        have hcell2 : wr.cell? ⟨w.heap.size, 4, none⟩ = some (.slice so n sc) := (hbel2.cell (p := ⟨w.heap.size, 4, none⟩) (by simp)).trans (by simp)
        have HB : Hid (Below w.heap.size w wr) := nx_trans (nx_alloc _ _) hbel2
        by_cases hjk : j < k
        · obtain ⟨⟨a', b'⟩, hq⟩ : ∃ p, ss[j]? = some p := ⟨_, List.getElem?_eq_getElem (by rw [HN.out]; omega)⟩
          obtain ⟨bl, off, hso, hbl, c0, c1⟩ := sets_at (HR.out.nx hbel2) HPk.out
          obtain ⟨bl', off', e1, _, d0, d1⟩ := sets_at (HR.out.nx hbel2) hq
          rw [hso] at e1
          obtain ⟨rfl, rfl⟩ : bl = bl' ∧ off = off' := by simpa using e1
          rw [hso] at hcell2
          have HQ : Hid (ss[j]? = some (a', b')) := hq
          have HSO := hideIt hso
          have hi1 : (k : Int) < (n : Int) := by omega
          have hi2 : (j : Int) < (n : Int) := by omega
          clear hq e1 c1 d1 hso hcell
          by_cases hw : (wordB a').toList = (wordB a).toList
          · have hwb : ((wordB a').toList == (wordB a).toList) = true := by simp [hw]
            have HT : Hid (twc ss = true) := twc_bad hjk HQ.out HPk.out hw
            clear hw
            go_wp2_with fail
            go_quiet (fail)
            go_wp2_with fail
            go_ret
            exact ⟨ret_bool HT.out.symm, below_drewN HB.out _⟩
          · have hwb : ((wordB a').toList == (wordB a).toList) = false := by simp [hw]
            have HT : Hid (¬ (wordB a').toList = (wordB a).toList) := hw
            clear hw
            go_wp2_with fail
            go_quiet (fail)
            go_wp2_with fail
            go_roundw
            case rel => exact ⟨j + 1, by omega, by go_num, (fun j' q h h2 => by
              by_cases hjj : j' < j
              · exact HJ.out j' q hjj h2
              · obtain rfl : j' = j := by omega
                rw [HQ.out] at h2
                cases h2
                exact HT.out), below_drewN hbel2 _⟩
            case measure => simp [intOf]; omega
        · obtain rfl : j = k := by omega
          clear hcell
          go_wp2_with fail
          go_roundw
          case rel => exact ⟨j + 1, by omega, by go_num, once_take HPk.out HS.out HJ.out, hbel2⟩
          case measure => simp [intOf]; omega
    · go_wp2_with fail
      go_ret
      exact ⟨ret_bool (by rw [twc_good]; rw [← List.take_of_length_le (l := ss) (i := k) (by rw [HN.out]; omega)]; exact HS.out), nx_trans (nx_alloc _ _) hbel⟩
end Co
end Go.Proofs.YtmmmjpkhnbfnbaaGreat
