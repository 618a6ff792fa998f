import Derived.Test.YtohbonfngeblkaaGreatMnB
namespace Go.Proofs.YtohbonfngeblkaaGreat
open Go.RowKit
namespace Co
def namedF (kind : Nat) : List ByteArray → Option Ln
  | [] => none
  | nm :: r => if isNm nm = true then
      (match r with
       | [] => some ⟨kind, nm, ⟨#[]⟩, [], 0⟩
       | fw :: r2 => if (fw.toList == [102, 114, 111, 109]) = true then
           (match r2 with
            | [] => none
            | b :: r3 => if isNm b = true then (setsF r3).map (fun ss => ⟨kind, nm, b, ss, 0⟩) else none)
          else (setsF (fw :: r2)).map (fun ss => ⟨kind, nm, ⟨#[]⟩, ss, 0⟩))
    else none
def budF : List ByteArray → Option Ln
  | [a] => (numF a).map (fun n => ⟨1, ⟨#[]⟩, ⟨#[]⟩, [(3, n)], 0⟩)
  | _ => none
def parseF : List ByteArray → Option Ln
  | [] => none
  | f0 :: rest => if (f0.toList == [98, 117, 100, 103, 101, 116]) = true then budF rest
      else if (f0.toList == [98, 97, 115, 101]) = true then namedF 2 rest
      else if (f0.toList == [112, 111, 111, 108]) = true then namedF 3 rest else none
theorem row_new (w : World) (cs : List Value) (t : TypeId) (n : Nat) {g : Nat} (hg : g = w.heap.size) : RowAt (w.alloc (.cells cs.toArray t)) (.slice (some ⟨g, 0, none⟩) n n) n cs := by
  subst hg
  refine ⟨_, _, rfl, Nat.le_refl _, .inr ⟨_, _, rfl, by simp, fun j x hx => ?_⟩⟩
  rw [Nat.zero_add, World.cell?_alloc_new]
  simpa using hx
theorem heap_alloc_at (w : World) (o : Obj) {k : Nat} (hk : k = w.heap.size) : (w.alloc o).heap[k]? = some o := by
  subst hk
  show (w.heap.push o)[w.heap.size]? = some o
  simp
theorem heap_alloc_lt (w : World) (o : Obj) {k : Nat} (hk : k < w.heap.size) : (w.alloc o).heap[k]? = w.heap[k]? := Below.heap_alloc w o k hk
abbrev lnA (x0 x1 : Int) (s2 s3 : ByteArray) (a4 : Option Addr) (n4 c4 : Nat) : Value := .agg #[.int .i64 x0, .int .i64 x1, .string s2, .string s3, .slice a4 n4 c4]
def Made (o : Option Ln) (w w' : World) (e : Ending) : Prop :=
  (o = none ∧ ∃ x0 x1 s2 s3 a4 n4 c4, e = .returned (.tuple #[lnA x0 x1 s2 s3 a4 n4 c4, .bool false]) ∧ Below w.heap.size w w') ∨
  (∃ l so sc, o = some l ∧ e = .returned (.tuple #[lnA 0 l.kind l.name l.frm so l.sets.length sc, .bool true]) ∧ RowAt w' (.slice so l.sets.length sc) l.sets.length (flatS l.sets) ∧ Fr w.heap.size w' so ∧ Below w.heap.size w w')
abbrev bZero : Obj := .cells #[.int .i64 0, .int .i64 0, .string ⟨#[]⟩, .string ⟨#[]⟩, .slice none 0 0] 136
set_option maxRecDepth 20000 in
set_option maxHeartbeats 1000000 in
theorem parseBudget_any (ao : Option Addr) (cap n : Nat) (fs : List ByteArray) (w : World) (hr : RowAt w (.slice ao n cap) n (strs fs)) (hn : fs.length = n) (hn1 : n ≤ 1001) (hsm : ∀ p ∈ fs, p.size ≤ 1000) :
    Calls Tryz.prog 128 #[.slice ao n cap] w fun e w' => Made (budF fs) w w' e := by
  by_cases h1 : n = 1
  · subst h1
    obtain ⟨a, rfl⟩ : ∃ a, fs = [a] := by
      match fs, hn with
      | [a], _ => exact ⟨a, rfl⟩
    have hab : a.size ≤ 1000 := hsm a (by simp)
    obtain ⟨bl, off, rfl, hbl, hc⟩ := hr.at (j := 0) (x := .string a) rfl
    rw [Nat.add_zero] at hc
    clear hr hsm hn1 hn
    have hca : ∀ o, (w.alloc o).cell? ⟨bl, off, none⟩ = some (.string a) := fun o => ((nx_alloc w o).cell (p := ⟨bl, off, none⟩) hbl).trans hc
    cases hnu : numF a with
    | none =>
      have HN : Hid (budF [a] = none) := by show _ = _; simp [budF, hnu]
      have hb0 : numB a = false := by simp [numB, hnu]
      have hb1 : numN a = 0 := by simp [numN, hnu]
      clear hnu
      go_enter Tryz.func128, Tryz.ntmps128
      go_wp2_with fail
      refine (parseNumber_any a _ hab).mono ?_; rintro e w' ⟨rfl, rfl⟩
      rw [hb0, hb1]
      go_wp2_with fail
      refine bodyPost_ret (v := .tuple #[lnA 0 1 ⟨#[]⟩ ⟨#[]⟩ (some ⟨w.heap.size + 1 + 1, 0, none⟩) 1 1, .bool false]) (by simp [results, Tryz.results128, go_sem]) rfl (.inl ⟨HN.out, _, _, _, _, _, _, _, rfl, ?_⟩)
      exact nx_trans (nx_trans (nx_alloc _ _) (nx_alloc _ _)) (nx_alloc _ _)
    | some b =>
      have HN : Hid (budF [a] = some ⟨1, ⟨#[]⟩, ⟨#[]⟩, [(3, b)], 0⟩) := by show _ = _; simp [budF, hnu]
      have hb0 : numB a = true := by simp [numB, hnu]
      have hb1 : numN a = (b : Int) := by simp [numN, hnu]
      clear hnu
      go_enter Tryz.func128, Tryz.ntmps128
      go_wp2_with fail
      refine (parseNumber_any a _ hab).mono ?_; rintro e w' ⟨rfl, rfl⟩
      rw [hb0, hb1]
      go_wp2_with fail
      refine bodyPost_ret (v := .tuple #[lnA 0 1 ⟨#[]⟩ ⟨#[]⟩ (some ⟨w.heap.size + 1 + 1, 0, none⟩) 1 1, .bool true]) (by simp [results, Tryz.results128, go_sem]) rfl (.inr ⟨_, _, _, HN.out, rfl, ?_, ?_, ?_⟩)
      · exact row_new _ (flatS [(3, b)]) 173 1 (by simp)
      · intro b' off' e
        injection e with e
        injection e with e1 _ _
        subst e1
        exact ⟨by omega, _, heap_alloc_at _ _ (by simp)⟩
      · exact nx_trans (nx_trans (nx_alloc _ _) (nx_alloc _ _)) (nx_alloc _ _)
  · have hnb : ((n : Int) != 1) = true := by rw [bne_iff_ne]; omega
    have HN : Hid (budF fs = none) := by
      show _ = _
      match fs, hn with
      | [], _ => rfl
      | [a], hn => simp at hn; omega
      | a :: b :: r, _ => rfl
    clear hr hsm
    go_enter Tryz.func128, Tryz.ntmps128
    go_wp2_with fail
    refine bodyPost_ret (v := .tuple #[lnA 0 0 ⟨#[]⟩ ⟨#[]⟩ none 0 0, .bool false]) (by simp [results, Tryz.results128, go_sem]) rfl (.inl ⟨HN.out, _, _, _, _, _, _, _, rfl, nx_alloc _ _⟩)
theorem namedF_bad {kind : Nat} {nm : ByteArray} {r : List ByteArray} (h : isNm nm = false) : namedF kind (nm :: r) = none := by simp [namedF, h]
theorem namedF_one {kind : Nat} {nm : ByteArray} (h : isNm nm = true) : namedF kind [nm] = some ⟨kind, nm, ⟨#[]⟩, [], 0⟩ := by simp [namedF, h]
theorem namedF_plain {kind : Nat} {nm fw : ByteArray} {r : List ByteArray} (h : isNm nm = true) (hf : (fw.toList == [102, 114, 111, 109]) = false) : namedF kind (nm :: fw :: r) = (setsF (fw :: r)).map (fun ss => ⟨kind, nm, ⟨#[]⟩, ss, 0⟩) := by
  simp [namedF, h, hf]
theorem namedF_f0 {kind : Nat} {nm fw : ByteArray} (h : isNm nm = true) (hf : (fw.toList == [102, 114, 111, 109]) = true) : namedF kind [nm, fw] = none := by
  simp [namedF, h, hf]
theorem namedF_f1 {kind : Nat} {nm fw b : ByteArray} {r : List ByteArray} (h : isNm nm = true) (hf : (fw.toList == [102, 114, 111, 109]) = true) (hb : isNm b = false) : namedF kind (nm :: fw :: b :: r) = none := by
  simp [namedF, h, hf, hb]
theorem namedF_f2 {kind : Nat} {nm fw b : ByteArray} {r : List ByteArray} (h : isNm nm = true) (hf : (fw.toList == [102, 114, 111, 109]) = true) (hb : isNm b = true) : namedF kind (nm :: fw :: b :: r) = (setsF r).map (fun ss => ⟨kind, nm, b, ss, 0⟩) := by
  simp [namedF, h, hf, hb]
theorem blk_cells {W w3 : World} (hb : Below W.heap.size W w3) {g : Nat} (hg : g < W.heap.size) {c0 c1 c2 c3 c4 : Value} (h : W.heap[g]? = some (.cells #[c0, c1, c2, c3, c4] 136 (0, 0))) :
    w3.cell? ⟨g, 0, none⟩ = some c0 ∧ w3.cell? ⟨g, 1, none⟩ = some c1 ∧ w3.cell? ⟨g, 2, none⟩ = some c2 ∧ w3.cell? ⟨g, 3, none⟩ = some c3 ∧ w3.cell? ⟨g, 4, none⟩ = some c4 ∧ ∀ a, w3.frozen? ⟨g, a, none⟩ = false := by
  have h' : w3.heap[g]? = some (.cells #[c0, c1, c2, c3, c4] 136 (0, 0)) := (hb.block g hg).trans h
  refine ⟨?_, ?_, ?_, ?_, ?_, fun a => ?_⟩ <;> simp [World.cell?, World.frozen?, h']
set_option maxRecDepth 20000 in
set_option maxHeartbeats 4000000 in
theorem parseNamed_any (kind : Nat) (ao : Option Addr) (cap n : Nat) (fs : List ByteArray) (w : World) (hr : RowAt w (.slice ao n cap) n (strs fs)) (hn : fs.length = n) (hn1 : n ≤ 1001) (hsm : ∀ p ∈ fs, p.size ≤ 1000) :
    Calls Tryz.prog 129 #[.int .i64 (kind : Int), .slice ao n cap] w fun e w' => Made (namedF kind fs) w w' e := by
  by_cases h0 : n = 0
  · subst h0
    obtain rfl : fs = [] := List.eq_nil_of_length_eq_zero hn
    have HN : Hid (namedF kind [] = none) := rfl
    clear hr hsm hn
    go_enter Tryz.func129, Tryz.ntmps129
    go_wp2_with fail
    exact bodyPost_ret (v := .tuple #[lnA 0 0 ⟨#[]⟩ ⟨#[]⟩ none 0 0, .bool false]) (by simp [results, Tryz.results129, go_sem]) rfl (.inl ⟨HN.out, _, _, _, _, _, _, _, rfl, nx_alloc _ _⟩)
  obtain ⟨nm, r, rfl⟩ : ∃ nm r, fs = nm :: r := by
    match fs, hn with
    | [], hn => simp at hn; omega
    | nm :: r, _ => exact ⟨nm, r, rfl⟩
  have h0b : ((n : Int) == 0) = false := by simp; omega
  have hnmb : nm.size ≤ maxLen := by have := hsm nm (by simp); unfold maxLen; omega
  obtain ⟨bl, off, rfl, hbl, hc⟩ := hr.at (j := 0) (x := .string nm) rfl
  rw [Nat.add_zero] at hc
  have hcap := row_len hr
  have hpos : (0 : Int) < (n : Int) := by omega
  have hca : ∀ o, (w.alloc o).cell? ⟨bl, off, none⟩ = some (.string nm) := fun o => ((nx_alloc w o).cell (p := ⟨bl, off, none⟩) hbl).trans hc
  cases hnm : isNm nm
  · have HN := hideIt (namedF_bad (kind := kind) (r := r) hnm)
    clear hr hsm hn
    go_enter Tryz.func129, Tryz.ntmps129
    go_wp2_with fail
    refine (isName_any nm _ hnmb).mono ?_; rintro e w' ⟨rfl, rfl⟩
    rw [hnm]
    go_wp2_with fail
    exact bodyPost_ret (v := .tuple #[lnA 0 0 ⟨#[]⟩ ⟨#[]⟩ none 0 0, .bool false]) (by simp [results, Tryz.results129, go_sem]) rfl (.inl ⟨HN.out, _, _, _, _, _, _, _, rfl, nx_alloc _ _⟩)
  obtain ⟨A, hA⟩ : ∃ A, (if cap = 1 then some (⟨bl, off, none⟩ : Addr) else some ⟨bl, off + 1, none⟩) = A := ⟨_, rfl⟩
  have hrow1 : RowAt w (.slice A (n - 1) (cap - 1)) (n - 1) (strs r) := by
    have := row_drop 1 hr hn (by omega)
    rw [hA] at this; exact this
  have hr1 : r.length = n - 1 := by simp at hn; omega
  by_cases hn2 : n = 1
  · subst hn2
    obtain rfl : r = [] := List.eq_nil_of_length_eq_zero hr1
    obtain ⟨W2, hW2⟩ : ∃ W2, W2 = (w.alloc bZero).alloc (.cells #[.int .i64 0, .int .i64 (kind : Int), .string nm, .string ⟨#[]⟩, .slice none 0 0] 136) := ⟨_, rfl⟩
    have hb2 : Below w.heap.size w W2 := by rw [hW2]; exact nx_trans (nx_alloc _ _) (nx_alloc _ _)
    have HP := hideIt (parseSettings_any A (cap - 1) 0 [] W2 (hrow1.nx hb2) rfl (by omega) (by simp))
    have HZ : Hid (W2.heap[w.heap.size]? = some bZero ∧ W2.heap[w.heap.size + 1]? = some (.cells #[.int .i64 0, .int .i64 (kind : Int), .string nm, .string ⟨#[]⟩, .slice none 0 0] 136 (0, 0)) ∧ W2.heap.size = w.heap.size + 2) := by
      rw [hW2]
      refine ⟨(heap_alloc_lt _ _ (by simp)).trans (heap_alloc_at _ _ rfl), heap_alloc_at _ _ (by simp), by simp⟩
    have H2 : Hid (W2 = (w.alloc bZero).alloc (.cells #[.int .i64 0, .int .i64 (kind : Int), .string nm, .string ⟨#[]⟩, .slice none 0 0] 136) ∧ Below w.heap.size w W2) := ⟨hW2, hb2⟩
    have HNN : Hid (namedF kind [nm] = (setsF []).map (fun ss => ⟨kind, nm, ⟨#[]⟩, ss, 0⟩)) := (by show _ = _; rw [namedF_one hnm]; rfl)
    clear hr hsm hn hrow1 hr1 hb2 hW2
    go_enter Tryz.func129, Tryz.ntmps129
    go_wp2_with fail
    refine (isName_any nm _ hnmb).mono ?_; rintro e w' ⟨rfl, rfl⟩
    rw [hnm]
    go_wp2_with fail
    rw [← H2.out.1]
    refine HP.out.mono ?_
    rintro e w3 (⟨hno, rfl, hb3⟩ | ⟨ss, so, sc, hso, rfl, hrow, hfr, hb3⟩)
    · obtain ⟨c0, c1, c2, c3, c4, z0⟩ := blk_cells hb3 (by rw [HZ.out.2.2]; omega) HZ.out.1
      obtain ⟨d0, d1, d2, d3, d4, z1⟩ := blk_cells hb3 (by rw [HZ.out.2.2]; omega) HZ.out.2.1
      have HF : Hid (namedF kind [nm] = none ∧ Below w.heap.size w w3) := ⟨by rw [HNN.out, hno]; rfl, nx_trans H2.out.2 hb3⟩
      clear hno hb3
      go_wp2_with fail
      refine bodyPost_ret (v := .tuple #[lnA 0 (kind : Int) nm ⟨#[]⟩ none 0 0, .bool false]) (by simp [results, Tryz.results129, go_sem, c0, c1, c2, c3, c4]) rfl (.inl ⟨HF.out.1, _, _, _, _, _, _, _, rfl, ?_⟩)
      exact (((((HF.out.2.setCell (Nat.le_succ _) _).setCell (Nat.le_refl _) _).setCell (Nat.le_refl _) _).setCell (Nat.le_refl _) _).setCell (Nat.le_refl _) _).setCell (Nat.le_refl _) _
    · obtain ⟨c0, c1, c2, c3, c4, z0⟩ := blk_cells hb3 (by rw [HZ.out.2.2]; omega) HZ.out.1
      obtain ⟨d0, d1, d2, d3, d4, z1⟩ := blk_cells hb3 (by rw [HZ.out.2.2]; omega) HZ.out.2.1
      have HF : Hid (namedF kind [nm] = some ⟨kind, nm, ⟨#[]⟩, ss, 0⟩ ∧ Below w.heap.size w w3 ∧ RowAt w3 (.slice so ss.length sc) ss.length (flatS ss) ∧ Fr (w.heap.size + 2) w3 so) :=
        ⟨by rw [HNN.out, hso]; rfl, nx_trans H2.out.2 hb3, hrow, by rw [← HZ.out.2.2]; exact hfr⟩
      clear hso hb3 hrow hfr
      go_wp2_with fail
      refine bodyPost_ret (v := .tuple #[lnA 0 (kind : Int) nm ⟨#[]⟩ so ss.length sc, .bool true]) (by simp [results, Tryz.results129, go_sem, c0, c1, c2, c3, c4]) rfl (.inr ⟨_, _, _, HF.out.1, rfl, ?_, ?_, ?_⟩)
      · have hne0 : ∀ b off, so = some ⟨b, off, none⟩ → w.heap.size ≠ b := fun b o e => by have := (HF.out.2.2.2 b o e).1; omega
        have hne1 : ∀ b off, so = some ⟨b, off, none⟩ → w.heap.size + 1 ≠ b := fun b o e => by have := (HF.out.2.2.2 b o e).1; omega
        exact (((((HF.out.2.2.1.set hne1 _ _).set hne0 _ _).set hne0 _ _).set hne0 _ _).set hne0 _ _).set hne0 _ _
      · exact ((((((HF.out.2.2.2.set (by omega) _ _).set (by omega) _ _).set (by omega) _ _).set (by omega) _ _).set (by omega) _ _).set (by omega) _ _).mono (by omega)
      · exact (((((HF.out.2.1.setCell (Nat.le_succ _) _).setCell (Nat.le_refl _) _).setCell (Nat.le_refl _) _).setCell (Nat.le_refl _) _).setCell (Nat.le_refl _) _).setCell (Nat.le_refl _) _
  obtain ⟨fw, r2, rfl⟩ : ∃ fw r2, r = fw :: r2 := by
    match r, hr1 with
    | [], hr1 => simp at hr1; omega
    | fw :: r2, _ => exact ⟨fw, r2, rfl⟩
  obtain ⟨bl1, off1, hA1, hbl1, hc1⟩ := hrow1.at (j := 0) (x := .string fw) rfl
  rw [Nat.add_zero] at hc1
  subst hA1
  have hpos1 : (0 : Int) < (n : Int) - 1 := by omega
  have hpos2 : 0 < n - 1 := by omega
  have hcb : ∀ o1 o2, ((w.alloc o1).alloc o2).cell? ⟨bl1, off1, none⟩ = some (.string fw) := fun o1 o2 => ((nx_trans (nx_alloc w o1) (nx_alloc _ o2)).cell (p := ⟨bl1, off1, none⟩) hbl1).trans hc1
  cases hfw : fw.toList == [102, 114, 111, 109]
  · obtain ⟨W2, hW2⟩ : ∃ W2, W2 = (w.alloc bZero).alloc (.cells #[.int .i64 0, .int .i64 (kind : Int), .string nm, .string ⟨#[]⟩, .slice none 0 0] 136) := ⟨_, rfl⟩
    have hb2 : Below w.heap.size w W2 := by rw [hW2]; exact nx_trans (nx_alloc _ _) (nx_alloc _ _)
    have HP := hideIt (parseSettings_any (some ⟨bl1, off1, none⟩) (cap - 1) (n - 1) (fw :: r2) W2 (hrow1.nx hb2) hr1 (by omega) (fun p hp => hsm p (List.mem_cons_of_mem _ hp)))
    have HZ : Hid (W2.heap[w.heap.size]? = some bZero ∧ W2.heap[w.heap.size + 1]? = some (.cells #[.int .i64 0, .int .i64 (kind : Int), .string nm, .string ⟨#[]⟩, .slice none 0 0] 136 (0, 0)) ∧ W2.heap.size = w.heap.size + 2) := by
      rw [hW2]
      refine ⟨(heap_alloc_lt _ _ (by simp)).trans (heap_alloc_at _ _ rfl), heap_alloc_at _ _ (by simp), by simp⟩
    have H2 : Hid (W2 = (w.alloc bZero).alloc (.cells #[.int .i64 0, .int .i64 (kind : Int), .string nm, .string ⟨#[]⟩, .slice none 0 0] 136) ∧ Below w.heap.size w W2) := ⟨hW2, hb2⟩
    have HNN : Hid (namedF kind (nm :: fw :: r2) = (setsF (fw :: r2)).map (fun ss => ⟨kind, nm, ⟨#[]⟩, ss, 0⟩)) := namedF_plain hnm hfw
    clear hr hsm hn hrow1 hr1 hc1 hb2 hW2
    go_enter Tryz.func129, Tryz.ntmps129
    go_wp2_with fail
    refine (isName_any nm _ hnmb).mono ?_; rintro e w' ⟨rfl, rfl⟩
    rw [hnm]
    go_wp2_with fail
    rw [← H2.out.1]
    refine HP.out.mono ?_
    rintro e w3 (⟨hno, rfl, hb3⟩ | ⟨ss, so, sc, hso, rfl, hrow, hfr, hb3⟩)
    · obtain ⟨c0, c1, c2, c3, c4, z0⟩ := blk_cells hb3 (by rw [HZ.out.2.2]; omega) HZ.out.1
      obtain ⟨d0, d1, d2, d3, d4, z1⟩ := blk_cells hb3 (by rw [HZ.out.2.2]; omega) HZ.out.2.1
      have HF : Hid (namedF kind (nm :: fw :: r2) = none ∧ Below w.heap.size w w3) := ⟨by rw [HNN.out, hno]; rfl, nx_trans H2.out.2 hb3⟩
      clear hno hb3
      go_wp2_with fail
      refine bodyPost_ret (v := .tuple #[lnA 0 (kind : Int) nm ⟨#[]⟩ none 0 0, .bool false]) (by simp [results, Tryz.results129, go_sem, c0, c1, c2, c3, c4]) rfl (.inl ⟨HF.out.1, _, _, _, _, _, _, _, rfl, ?_⟩)
      exact (((((HF.out.2.setCell (Nat.le_succ _) _).setCell (Nat.le_refl _) _).setCell (Nat.le_refl _) _).setCell (Nat.le_refl _) _).setCell (Nat.le_refl _) _).setCell (Nat.le_refl _) _
    · obtain ⟨c0, c1, c2, c3, c4, z0⟩ := blk_cells hb3 (by rw [HZ.out.2.2]; omega) HZ.out.1
      obtain ⟨d0, d1, d2, d3, d4, z1⟩ := blk_cells hb3 (by rw [HZ.out.2.2]; omega) HZ.out.2.1
      have HF : Hid (namedF kind (nm :: fw :: r2) = some ⟨kind, nm, ⟨#[]⟩, ss, 0⟩ ∧ Below w.heap.size w w3 ∧ RowAt w3 (.slice so ss.length sc) ss.length (flatS ss) ∧ Fr (w.heap.size + 2) w3 so) :=
        ⟨by rw [HNN.out, hso]; rfl, nx_trans H2.out.2 hb3, hrow, by rw [← HZ.out.2.2]; exact hfr⟩
      clear hso hb3 hrow hfr
      go_wp2_with fail
      refine bodyPost_ret (v := .tuple #[lnA 0 (kind : Int) nm ⟨#[]⟩ so ss.length sc, .bool true]) (by simp [results, Tryz.results129, go_sem, c0, c1, c2, c3, c4]) rfl (.inr ⟨_, _, _, HF.out.1, rfl, ?_, ?_, ?_⟩)
      · have hne0 : ∀ b off, so = some ⟨b, off, none⟩ → w.heap.size ≠ b := fun b o e => by have := (HF.out.2.2.2 b o e).1; omega
        have hne1 : ∀ b off, so = some ⟨b, off, none⟩ → w.heap.size + 1 ≠ b := fun b o e => by have := (HF.out.2.2.2 b o e).1; omega
        exact (((((HF.out.2.2.1.set hne1 _ _).set hne0 _ _).set hne0 _ _).set hne0 _ _).set hne0 _ _).set hne0 _ _
      · exact ((((((HF.out.2.2.2.set (by omega) _ _).set (by omega) _ _).set (by omega) _ _).set (by omega) _ _).set (by omega) _ _).set (by omega) _ _).mono (by omega)
      · exact (((((HF.out.2.1.setCell (Nat.le_succ _) _).setCell (Nat.le_refl _) _).setCell (Nat.le_refl _) _).setCell (Nat.le_refl _) _).setCell (Nat.le_refl _) _).setCell (Nat.le_refl _) _
  obtain ⟨c1', hc1'⟩ : ∃ c1', cap - 1 = c1' := ⟨_, rfl⟩
  obtain ⟨n1', hn1'⟩ : ∃ n1', n - 1 = n1' := ⟨_, rfl⟩
  rw [hc1', hn1'] at hrow1
  rw [hn1'] at hr1 hpos2
  obtain ⟨A2, hA2⟩ : ∃ A2, (if c1' = 2 then some (⟨bl1, off1, none⟩ : Addr) else some ⟨bl1, off1 + 2, none⟩) = A2 := ⟨_, rfl⟩
  by_cases hn3 : n = 2
  · obtain rfl : r2 = [] := by
      match r2, hr1 with
      | [], _ => rfl
      | a :: b, h => simp at h; omega
    have hlt2 : (n : Int) - 1 < 2 := by omega
    have hlt3 : n1' < 2 := by omega
    have HN3 : Hid (n = 2) := hn3
    clear hn3
    have HN := hideIt (namedF_f0 (kind := kind) hnm hfw)
    clear hr hsm hn hrow1 hr1 hc1
    go_enter Tryz.func129, Tryz.ntmps129
    go_wp2_with fail
    refine (isName_any nm _ hnmb).mono ?_; rintro e w' ⟨rfl, rfl⟩
    rw [hnm]
    go_wp2_with fail
    exact bodyPost_ret (v := .tuple #[lnA 0 0 ⟨#[]⟩ ⟨#[]⟩ none 0 0, .bool false]) (by simp [results, Tryz.results129, go_sem]) rfl (.inl ⟨HN.out, _, _, _, _, _, _, _, rfl, nx_trans (nx_alloc _ _) (nx_alloc _ _)⟩)
  obtain ⟨b, r3, rfl⟩ : ∃ b r3, r2 = b :: r3 := by
    match r2, hr1 with
    | [], hr1 => simp at hr1; omega
    | b :: r3, _ => exact ⟨b, r3, rfl⟩
  have hbb : b.size ≤ maxLen := by have := hsm b (by simp); unfold maxLen; omega
  obtain ⟨bl', off', e1, _, hc2⟩ := hrow1.at (j := 1) (x := .string b) rfl
  obtain ⟨rfl, rfl⟩ : bl1 = bl' ∧ off1 = off' := by simpa using e1
  have hpos3 : (1 : Int) < (n : Int) - 1 := by omega
  have hpos4 : 1 < n1' := by omega
  have hpos5 : (2 : Int) ≤ (n1' : Int) := by omega
  have hcap2 : n1' ≤ c1' := row_len hrow1
  have hcc : ∀ o1 o2, ((w.alloc o1).alloc o2).cell? ⟨bl1, off1 + 1, none⟩ = some (.string b) := fun o1 o2 => ((nx_trans (nx_alloc w o1) (nx_alloc _ o2)).cell (p := ⟨bl1, off1 + 1, none⟩) hbl1).trans hc2
  have hrow3 : RowAt w (.slice A2 (n1' - 2) (c1' - 2)) (n1' - 2) (strs r3) := by
    have := row_drop 2 hrow1 hr1 (by omega)
    rw [hA2] at this; exact this
  have hr3 : r3.length = n1' - 2 := by simp at hr1; omega
  clear e1
  cases hbn : isNm b
  · have HN := hideIt (namedF_f1 (kind := kind) (r := r3) hnm hfw hbn)
    clear hr hsm hn hrow1 hr1 hc1 hc2 hrow3 hr3
    go_enter Tryz.func129, Tryz.ntmps129
    go_wp2_with fail
    refine (isName_any nm _ hnmb).mono ?_; rintro e w' ⟨rfl, rfl⟩
    rw [hnm]
    go_wp2_with fail
    refine (isName_any b _ hbb).mono ?_; rintro e w' ⟨rfl, rfl⟩
    rw [hbn]
    go_wp2_with fail
    exact bodyPost_ret (v := .tuple #[lnA 0 0 ⟨#[]⟩ ⟨#[]⟩ none 0 0, .bool false]) (by simp [results, Tryz.results129, go_sem]) rfl (.inl ⟨HN.out, _, _, _, _, _, _, _, rfl, nx_trans (nx_alloc _ _) (nx_alloc _ _)⟩)
  obtain ⟨W2, hW2⟩ : ∃ W2, W2 = (w.alloc bZero).alloc (.cells #[.int .i64 0, .int .i64 (kind : Int), .string nm, .string b, .slice none 0 0] 136) := ⟨_, rfl⟩
  have hb2 : Below w.heap.size w W2 := by rw [hW2]; exact nx_trans (nx_alloc _ _) (nx_alloc _ _)
  have HP := hideIt (parseSettings_any A2 (c1' - 2) (n1' - 2) r3 W2 (hrow3.nx hb2) hr3 (by omega) (fun p hp => hsm p (by simp [hp])))
  have HZ : Hid (W2.heap[w.heap.size]? = some bZero ∧ W2.heap[w.heap.size + 1]? = some (.cells #[.int .i64 0, .int .i64 (kind : Int), .string nm, .string b, .slice none 0 0] 136 (0, 0)) ∧ W2.heap.size = w.heap.size + 2) := by
    rw [hW2]
    refine ⟨(heap_alloc_lt _ _ (by simp)).trans (heap_alloc_at _ _ rfl), heap_alloc_at _ _ (by simp), by simp⟩
  have H2 : Hid (W2 = (w.alloc bZero).alloc (.cells #[.int .i64 0, .int .i64 (kind : Int), .string nm, .string b, .slice none 0 0] 136) ∧ Below w.heap.size w W2) := ⟨hW2, hb2⟩
  have HNN : Hid (namedF kind (nm :: fw :: b :: r3) = (setsF r3).map (fun ss => ⟨kind, nm, b, ss, 0⟩)) := namedF_f2 hnm hfw hbn
  clear hr hsm hn hrow1 hr1 hc1 hc2 hrow3 hr3 hb2 hW2
  go_enter Tryz.func129, Tryz.ntmps129
  go_wp2_with fail
  refine (isName_any nm _ hnmb).mono ?_; rintro e w' ⟨rfl, rfl⟩
  rw [hnm]
  go_wp2_with fail
  refine (isName_any b _ hbb).mono ?_; rintro e w' ⟨rfl, rfl⟩
  rw [hbn]
  go_wp2_with fail
  rw [← H2.out.1]
  refine HP.out.mono ?_
  rintro e w3 (⟨hno, rfl, hb3⟩ | ⟨ss, so, sc, hso, rfl, hrow, hfr, hb3⟩)
  · obtain ⟨c0, c1, c2, c3, c4, z0⟩ := blk_cells hb3 (by rw [HZ.out.2.2]; omega) HZ.out.1
    obtain ⟨d0, d1, d2, d3, d4, z1⟩ := blk_cells hb3 (by rw [HZ.out.2.2]; omega) HZ.out.2.1
    have HF : Hid (namedF kind (nm :: fw :: b :: r3) = none ∧ Below w.heap.size w w3) := ⟨by rw [HNN.out, hno]; rfl, nx_trans H2.out.2 hb3⟩
    clear hno hb3
    go_wp2_with fail
    refine bodyPost_ret (v := .tuple #[lnA 0 (kind : Int) nm b none 0 0, .bool false]) (by simp [results, Tryz.results129, go_sem, c0, c1, c2, c3, c4]) rfl (.inl ⟨HF.out.1, _, _, _, _, _, _, _, rfl, ?_⟩)
    exact (((((HF.out.2.setCell (Nat.le_succ _) _).setCell (Nat.le_refl _) _).setCell (Nat.le_refl _) _).setCell (Nat.le_refl _) _).setCell (Nat.le_refl _) _).setCell (Nat.le_refl _) _
  · obtain ⟨c0, c1, c2, c3, c4, z0⟩ := blk_cells hb3 (by rw [HZ.out.2.2]; omega) HZ.out.1
    obtain ⟨d0, d1, d2, d3, d4, z1⟩ := blk_cells hb3 (by rw [HZ.out.2.2]; omega) HZ.out.2.1
    have HF : Hid (namedF kind (nm :: fw :: b :: r3) = some ⟨kind, nm, b, ss, 0⟩ ∧ Below w.heap.size w w3 ∧ RowAt w3 (.slice so ss.length sc) ss.length (flatS ss) ∧ Fr (w.heap.size + 2) w3 so) :=
      ⟨by rw [HNN.out, hso]; rfl, nx_trans H2.out.2 hb3, hrow, by rw [← HZ.out.2.2]; exact hfr⟩
    clear hso hb3 hrow hfr
    go_wp2_with fail
    refine bodyPost_ret (v := .tuple #[lnA 0 (kind : Int) nm b so ss.length sc, .bool true]) (by simp [results, Tryz.results129, go_sem, c0, c1, c2, c3, c4]) rfl (.inr ⟨_, _, _, HF.out.1, rfl, ?_, ?_, ?_⟩)
    · have hne0 : ∀ b off, so = some ⟨b, off, none⟩ → w.heap.size ≠ b := fun b o e => by have := (HF.out.2.2.2 b o e).1; omega
      have hne1 : ∀ b off, so = some ⟨b, off, none⟩ → w.heap.size + 1 ≠ b := fun b o e => by have := (HF.out.2.2.2 b o e).1; omega
      exact (((((HF.out.2.2.1.set hne1 _ _).set hne0 _ _).set hne0 _ _).set hne0 _ _).set hne0 _ _).set hne0 _ _
    · exact ((((((HF.out.2.2.2.set (by omega) _ _).set (by omega) _ _).set (by omega) _ _).set (by omega) _ _).set (by omega) _ _).set (by omega) _ _).mono (by omega)
    · exact (((((HF.out.2.1.setCell (Nat.le_succ _) _).setCell (Nat.le_refl _) _).setCell (Nat.le_refl _) _).setCell (Nat.le_refl _) _).setCell (Nat.le_refl _) _).setCell (Nat.le_refl _) _
end Co
end Go.Proofs.YtohbonfngeblkaaGreat
