import Derived.Test.YtohbonfngeblkaaGreatMnF
import Derived.Test.YtohbonfngeblkaaGreatMnC
namespace Go.Proofs.YtohbonfngeblkaaGreat
open Go.RowKit
namespace Co
theorem parseF_kind {fs : List ByteArray} {l : Ln} (h : parseF fs = some l) : 1 ≤ l.kind ∧ l.kind ≤ 3 ∧ l.sets.length ≤ fs.length := by
  have hnamed : ∀ (kind : Nat) (r : List ByteArray) (l : Ln), namedF kind r = some l → l.kind = kind ∧ l.sets.length ≤ r.length := by
    intro kind r l h
    match r, h with
    | [], h => simp [namedF] at h
    | nm :: r, h =>
      rw [namedF.eq_def] at h
      simp only at h
      split at h
      · split at h
        · cases h; exact ⟨rfl, by simp⟩
        · split at h
          · split at h
            · cases h
            · split at h
              · rename_i r3 _
                cases hs : setsF r3 with
                | none => rw [hs] at h; cases h
                | some ss =>
                  rw [hs] at h
                  cases h
                  have := setsF_len _ _ hs
                  refine ⟨rfl, ?_⟩
                  simp; omega
              · cases h
          · rename_i fw r2 _
            cases hs : setsF (fw :: r2) with
            | none => rw [hs] at h; cases h
            | some ss =>
              rw [hs] at h
              cases h
              have := setsF_len _ _ hs
              refine ⟨rfl, ?_⟩
              simp at this ⊢; omega
      · cases h
  match fs, h with
  | [], h => simp [parseF] at h
  | f0 :: rest, h =>
    rw [parseF] at h
    split at h
    · match rest, h with
      | [], h => simp [budF] at h
      | [a], h =>
        simp only [budF] at h
        cases hs : numF a with
        | none => rw [hs] at h; cases h
        | some b => rw [hs] at h; cases h; simp
      | a :: b :: r, h => simp [budF] at h
    · split at h
      · obtain ⟨h1, h2⟩ := hnamed 2 rest l h
        simp; omega
      · split at h
        · obtain ⟨h1, h2⟩ := hnamed 3 rest l h
          simp; omega
        · cases h
theorem st5_below {B : Nat} {w0 w : World} {g : Nat} (h : Below B w0 w) (hg : B ≤ g) (v0 v1 v2 v3 v4 : Value) : Below B w0 (((((w.setCell ⟨g, 0, none⟩ v0).setCell ⟨g, 1, none⟩ v1).setCell ⟨g, 2, none⟩ v2).setCell ⟨g, 3, none⟩ v3).setCell ⟨g, 4, none⟩ v4) :=
  ((((h.setCell hg _).setCell hg _).setCell hg _).setCell hg _).setCell hg _
theorem st5_fr {w : World} {so : Option Addr} {g : Nat} (h : Fr (g + 1) w so) (v0 v1 v2 v3 v4 : Value) : Fr g (((((w.setCell ⟨g, 0, none⟩ v0).setCell ⟨g, 1, none⟩ v1).setCell ⟨g, 2, none⟩ v2).setCell ⟨g, 3, none⟩ v3).setCell ⟨g, 4, none⟩ v4) so :=
  (((((h.set (Nat.lt_succ_self _) _ _).set (Nat.lt_succ_self _) _ _).set (Nat.lt_succ_self _) _ _).set (Nat.lt_succ_self _) _ _).set (Nat.lt_succ_self _) _ _).mono (Nat.le_succ _)
theorem st5_row {w : World} {so : Option Addr} {m sc n : Nat} {cs : List Value} {g : Nat} (h : RowAt w (.slice so m sc) n cs) (hg : ∀ b off, so = some ⟨b, off, none⟩ → g ≠ b) (v0 v1 v2 v3 v4 : Value) : RowAt (((((w.setCell ⟨g, 0, none⟩ v0).setCell ⟨g, 1, none⟩ v1).setCell ⟨g, 2, none⟩ v2).setCell ⟨g, 3, none⟩ v3).setCell ⟨g, 4, none⟩ v4) (.slice so m sc) n cs :=
  ((((h.set hg _ _).set hg _ _).set hg _ _).set hg _ _).set hg _ _
set_option maxRecDepth 20000 in
set_option maxHeartbeats 2000000 in
theorem parse_any (ao : Option Addr) (cap n : Nat) (fs : List ByteArray) (w : World) (hr : RowAt w (.slice ao n cap) n (strs fs)) (hn : fs.length = n) (hn1 : n ≤ 1001) (hn0 : 0 < n) (hsm : ∀ p ∈ fs, p.size ≤ 1000) :
    Calls Tryz.prog 109 #[.slice ao n cap] w fun e w' => Made (parseF fs) w w' e := by
  obtain ⟨f0, r, rfl⟩ : ∃ f0 r, fs = f0 :: r := by
    match fs, hn with
    | [], hn => simp at hn; omega
    | f0 :: r, _ => exact ⟨f0, r, rfl⟩
  obtain ⟨bl, off, rfl, hbl, hc⟩ := hr.at (j := 0) (x := .string f0) rfl
  rw [Nat.add_zero] at hc
  have hcap := row_len hr
  have h0b : ((n : Int) == 0) = false := by simp; omega
  have hpos : (0 : Int) < (n : Int) := by omega
  have hpos1 : (1 : Int) ≤ (n : Int) := by omega
  have hca : ∀ o, (w.alloc o).cell? ⟨bl, off, none⟩ = some (.string f0) := fun o => ((nx_alloc w o).cell (p := ⟨bl, off, none⟩) hbl).trans hc
  obtain ⟨A, hA⟩ : ∃ A, (if cap = 1 then some (⟨bl, off, none⟩ : Addr) else some ⟨bl, off + 1, none⟩) = A := ⟨_, rfl⟩
  have hrow1 : RowAt (w.alloc bZero) (.slice A (n - 1) (cap - 1)) (n - 1) (strs r) := by
    have := row_drop 1 hr hn (by omega)
    rw [hA] at this; exact this.nx (nx_alloc _ _)
  have hr1 : r.length = n - 1 := by simp at hn; omega
  have hsm1 : ∀ p ∈ r, p.size ≤ 1000 := fun p hp => hsm p (List.mem_cons_of_mem _ hp)
  have HBud := hideIt (parseBudget_any A (cap - 1) (n - 1) r (w.alloc bZero) hrow1 hr1 (by omega) hsm1)
  have HNam := hideIt (fun kind => parseNamed_any kind A (cap - 1) (n - 1) r (w.alloc bZero) hrow1 hr1 (by omega) hsm1)
  have HZ : Hid ((w.alloc bZero).heap[w.heap.size]? = some bZero) := heap_alloc_at _ _ rfl
  clear hr hn hrow1 hr1 hsm hsm1
  have fin : ∀ (o : Option Ln) (e : Ending) (w1 : World), Made o (w.alloc bZero) w1 e → ∃ x0 x1 s2 s3 a4 n4 c4 ok, e = .returned (.tuple #[lnA x0 x1 s2 s3 a4 n4 c4, .bool ok]) ∧ Below (w.alloc bZero).heap.size (w.alloc bZero) w1 ∧
      ∀ w', w' = (((((w1.setCell ⟨w.heap.size, 0, none⟩ (.int .i64 x0)).setCell ⟨w.heap.size, 1, none⟩ (.int .i64 x1)).setCell ⟨w.heap.size, 2, none⟩ (.string s2)).setCell ⟨w.heap.size, 3, none⟩ (.string s3)).setCell ⟨w.heap.size, 4, none⟩ (.slice a4 n4 c4)) → Made o w w' e := by
    intro o e w1 h
    rcases h with ⟨h1, x0, x1, s2, s3, a4, n4, c4, rfl, hb⟩ | ⟨l, so, sc, h1, rfl, hrow, hfr, hb⟩
    · exact ⟨x0, x1, s2, s3, a4, n4, c4, false, rfl, hb, fun w' hw => .inl ⟨h1, x0, x1, s2, s3, a4, n4, c4, rfl, by rw [hw]; exact st5_below (nx_trans (nx_alloc _ _) hb) (Nat.le_refl _) _ _ _ _ _⟩⟩
    · have hne : ∀ b off, so = some ⟨b, off, none⟩ → w.heap.size ≠ b := fun b o e => by have := (hfr b o e).1; rw [World.size_alloc] at this; omega
      exact ⟨_, _, _, _, _, _, _, true, rfl, hb, fun w' hw => .inr ⟨l, so, sc, h1, rfl, by rw [hw]; exact st5_row hrow hne _ _ _ _ _, by rw [hw]; exact st5_fr (hfr.mono (by rw [World.size_alloc]; exact Nat.le_refl _)) _ _ _ _ _, by rw [hw]; exact st5_below (nx_trans (nx_alloc _ _) hb) (Nat.le_refl _) _ _ _ _ _⟩⟩
  have HFin := hideIt fin
  clear fin
  cases hb : f0.toList == [98, 117, 100, 103, 101, 116]
  · cases hb2 : f0.toList == [98, 97, 115, 101]
    · cases hb3 : f0.toList == [112, 111, 111, 108]
      · have HP : Hid (parseF (f0 :: r) = none) := by show _ = _; simp [parseF, hb, hb2, hb3]
        go_enter Tryz.func109, Tryz.ntmps109
        go_wp2_with fail
        exact bodyPost_ret (v := .tuple #[lnA 0 0 ⟨#[]⟩ ⟨#[]⟩ none 0 0, .bool false]) (by simp [results, Tryz.results109, go_sem]) rfl (.inl ⟨HP.out, _, _, _, _, _, _, _, rfl, nx_alloc _ _⟩)
      · have HP : Hid (parseF (f0 :: r) = namedF 3 r) := by show _ = _; simp [parseF, hb, hb2, hb3]
        go_enter Tryz.func109, Tryz.ntmps109
        go_wp2_with fail
        refine (HNam.out 3).mono ?_
        intro e w1 hmade
        obtain ⟨x0, x1, s2, s3, a4, n4, c4, ok, rfl, hb1, hfin⟩ := HFin.out _ _ _ hmade
        obtain ⟨c0, c1, c2, c3, c4', z0⟩ := blk_cells hb1 (by simp) HZ.out
        have HF := hideIt hfin
        clear hmade hfin hb1
        go_wp2_with fail
        refine bodyPost_ret (v := .tuple #[lnA x0 x1 s2 s3 a4 n4 c4, .bool ok]) (by simp [results, Tryz.results109, go_sem, c0, c1, c2, c3, c4']) rfl ?_
        rw [HP.out]
        exact HF.out _ rfl
    · have HP : Hid (parseF (f0 :: r) = namedF 2 r) := by show _ = _; simp [parseF, hb, hb2]
      go_enter Tryz.func109, Tryz.ntmps109
      go_wp2_with fail
      refine (HNam.out 2).mono ?_
      intro e w1 hmade
      obtain ⟨x0, x1, s2, s3, a4, n4, c4, ok, rfl, hb1, hfin⟩ := HFin.out _ _ _ hmade
      obtain ⟨c0, c1, c2, c3, c4', z0⟩ := blk_cells hb1 (by simp) HZ.out
      have HF := hideIt hfin
      clear hmade hfin hb1
      go_wp2_with fail
      refine bodyPost_ret (v := .tuple #[lnA x0 x1 s2 s3 a4 n4 c4, .bool ok]) (by simp [results, Tryz.results109, go_sem, c0, c1, c2, c3, c4']) rfl ?_
      rw [HP.out]
      exact HF.out _ rfl
  · have HP : Hid (parseF (f0 :: r) = budF r) := by show _ = _; simp [parseF, hb]
    go_enter Tryz.func109, Tryz.ntmps109
    go_wp2_with fail
    refine HBud.out.mono ?_
    intro e w1 hmade
    obtain ⟨x0, x1, s2, s3, a4, n4, c4, ok, rfl, hb1, hfin⟩ := HFin.out _ _ _ hmade
    obtain ⟨c0, c1, c2, c3, c4', z0⟩ := blk_cells hb1 (by simp) HZ.out
    have HF := hideIt hfin
    clear hmade hfin hb1
    go_wp2_with fail
    refine bodyPost_ret (v := .tuple #[lnA x0 x1 s2 s3 a4 n4 c4, .bool ok]) (by simp [results, Tryz.results109, go_sem, c0, c1, c2, c3, c4']) rfl ?_
    rw [HP.out]
    exact HF.out _ rfl
def readN (ls : List (Ln × Value)) (fs : List ByteArray) : Nat := match parseF fs with | none => 2 | some l => faultN ls l
def Read (ls : List (Ln × Value)) (fs : List ByteArray) (w w' : World) (e : Ending) : Prop :=
  (readN ls fs ≠ 0 ∧ ∃ x0 x1 s2 s3 a4 n4 c4, e = .returned (.tuple #[lnA x0 x1 s2 s3 a4 n4 c4, .int .i64 (readN ls fs)]) ∧ Below w.heap.size w w') ∨
  (∃ l so sc, readN ls fs = 0 ∧ parseF fs = some l ∧ e = .returned (.tuple #[lnA 0 l.kind l.name l.frm so l.sets.length sc, .int .i64 0]) ∧ RowAt w' (.slice so l.sets.length sc) l.sets.length (flatS l.sets) ∧ Fr w.heap.size w' so ∧ Below w.heap.size w w')
set_option maxRecDepth 20000 in
set_option maxHeartbeats 2000000 in
theorem readLine_any (fo : Option Addr) (fc fn : Nat) (fs : List ByteArray) (ao : Option Addr) (cap n : Nat) (ls : List (Ln × Value)) (w : World) (hf : RowAt w (.slice fo fn fc) fn (strs fs)) (hfn : fs.length = fn) (hfn1 : fn ≤ 1001) (hfn0 : 0 < fn) (hsm : ∀ p ∈ fs, p.size ≤ 1000)
    (hl : LinesAt w (.slice ao n cap) ls) (hn : ls.length = n) (hn1 : n ≤ 1001) :
    Calls Tryz.prog 92 #[.slice fo fn fc, .slice ao n cap] w fun e w' => Read ls fs w w' e := by
  have HP := hideIt (parse_any fo fc fn fs (w.alloc bZero) (hf.nx (nx_alloc _ _)) hfn hfn1 hfn0 hsm)
  have HL : Hid (LinesAt (w.alloc bZero) (.slice ao n cap) ls ∧ ls.length = n ∧ fs.length = fn) := ⟨hl.nx (nx_alloc _ _), hn, hfn⟩
  have HZ : Hid ((w.alloc bZero).heap[w.heap.size]? = some bZero) := heap_alloc_at _ _ rfl
  clear hf hfn hsm hl hn
  go_enter Tryz.func92, Tryz.ntmps92
  go_wp2_with fail
  refine HP.out.mono ?_
  rintro e w1 (⟨h1, x0, x1, s2, s3, a4, n4, c4, rfl, hb1⟩ | ⟨l, so, sc, h1, rfl, hrow, hfr, hb1⟩)
  · have kk := fun o => blk_cells (nx_trans hb1 (nx_alloc w1 o)) (by simp) HZ.out
    have c0 := fun o => (kk o).1
    have c1 := fun o => (kk o).2.1
    have c2 := fun o => (kk o).2.2.1
    have c3 := fun o => (kk o).2.2.2.1
    have c4' := fun o => (kk o).2.2.2.2.1
    have z0 := fun o => (kk o).2.2.2.2.2
    have HX : Hid (readN ls fs = 2 ∧ Below w.heap.size w w1) := ⟨by rw [readN, h1], nx_trans (nx_alloc _ _) hb1⟩
    clear h1 hb1 kk
    go_wp2_with fail
    refine bodyPost_ret (v := .tuple #[lnA 0 0 ⟨#[]⟩ ⟨#[]⟩ none 0 0, .int .i64 2]) (by simp [results, Tryz.results92, go_sem, c0, c1, c2, c3, c4']) rfl (.inl ⟨by rw [HX.out.1]; decide, _, _, _, _, _, _, _, by rw [HX.out.1]; rfl, ?_⟩)
    exact st5_below (nx_trans HX.out.2 (nx_alloc _ _)) (Nat.le_refl _) _ _ _ _ _
  · obtain ⟨hkk1, hkk3, hsl⟩ := parseF_kind h1
    have HR0 : Hid (readN ls fs = faultN ls l ∧ parseF fs = some l) := ⟨by rw [readN, h1], h1⟩
    obtain ⟨kind, name, frm, ss, pl⟩ := l
    simp only at hrow hfr hkk1 hkk3 hsl ⊢
    have hss : ss.length ≤ 1001 := by rw [HL.out.2.2] at hsl; omega
    have HFA := hideIt (faultOf_any ⟨kind, name, frm, ss, pl⟩ 0 so sc ao cap n ls ((w1.alloc (bLn 0 kind name frm so ss.length sc)).drew) ((HL.out.1.nx hb1).nx (nx_alloc _ _).drew) HL.out.2.1 hn1 (hrow.nx (nx_alloc _ _).drew) hss hkk1 hkk3)
    simp only at HFA
    obtain ⟨m, hm⟩ : ∃ m, ss.length = m := ⟨_, rfl⟩
    rw [hm] at hrow hss HFA ⊢
    have HM := hideIt hm
    have HX : Hid (Below w.heap.size w w1 ∧ RowAt w1 (.slice so m sc) m (flatS ss) ∧ Fr (w.heap.size + 1) w1 so ∧ w.heap.size < w1.heap.size ∧ w1.heap[w.heap.size]? = some bZero) :=
      ⟨nx_trans (nx_alloc _ _) hb1, hrow, hfr.mono (by rw [World.size_alloc]; exact Nat.le_refl _), sz_lt hb1, (hb1.block _ (by simp)).trans HZ.out⟩
    have HQ : Hid (((w1.alloc (bLn 0 kind name frm so m sc)).drew).heap[w.heap.size]? = some bZero ∧ ((w1.alloc (bLn 0 kind name frm so m sc)).drew).heap[w1.heap.size]? = some (bLn 0 kind name frm so m sc) ∧ w.heap.size < ((w1.alloc (bLn 0 kind name frm so m sc)).drew).heap.size ∧ w1.heap.size < ((w1.alloc (bLn 0 kind name frm so m sc)).drew).heap.size) := by
      refine ⟨(heap_alloc_lt _ _ HX.out.2.2.2.1).trans HX.out.2.2.2.2, heap_alloc_at _ _ rfl, ?_, ?_⟩
      · show _ < (w1.alloc _).heap.size
        rw [World.size_alloc]; have := HX.out.2.2.2.1; omega
      · show _ < (w1.alloc _).heap.size
        rw [World.size_alloc]; omega
    clear h1 hrow hfr hb1 hsl hm
    go_wp2_with fail
    go_region_with (go_at_call 110; refine HFA.out.mono ?_; rintro e w3 ⟨rfl, hb3⟩; obtain ⟨c0, c1, c2, c3, c4', z0⟩ := blk_cells hb3 HQ.out.2.2.1 HQ.out.1; obtain ⟨d0, d1, d2, d3, d4, z1⟩ := blk_cells hb3 HQ.out.2.2.2 HQ.out.2.1; have HB3 := hideIt hb3; clear hb3)
    all_goals go_wp2_with fail
    all_goals
      refine bodyPost_ret (v := .tuple #[lnA 0 kind name frm so m sc, .int .i64 (faultN ls ⟨kind, name, frm, ss, pl⟩)]) (by simp [results, Tryz.results92, go_sem, c0, c1, c2, c3, c4']) rfl ?_
      have hbw : Below w.heap.size w w3 := nx_trans (nx_trans HX.out.1 (nx_alloc _ _).drew) HB3.out
      by_cases hz : faultN ls ⟨kind, name, frm, ss, pl⟩ = 0
      · refine .inr ⟨⟨kind, name, frm, ss, pl⟩, so, sc, by rw [HR0.out.1]; exact hz, HR0.out.2, by rw [hz, ← HM.out]; rfl, ?_, st5_fr ((HX.out.2.2.1.nx (nx_alloc _ _).drew).nx HB3.out) _ _ _ _ _, ?_⟩
        · have hne : ∀ b off, so = some ⟨b, off, none⟩ → w.heap.size ≠ b := fun b o e => by have := (HX.out.2.2.1 b o e).1; omega
          have hr3 : RowAt w3 (.slice so m sc) m (flatS ss) := (HX.out.2.1.nx (nx_alloc _ _).drew).nx HB3.out
          simp only
          rw [HM.out]
          exact st5_row hr3 hne _ _ _ _ _
        · exact st5_below hbw (Nat.le_refl _) _ _ _ _ _
      · refine .inl ⟨by rw [HR0.out.1]; exact hz, _, _, _, _, _, _, _, by rw [HR0.out.1], ?_⟩
        exact st5_below hbw (Nat.le_refl _) _ _ _ _ _
end Co
end Go.Proofs.YtohbonfngeblkaaGreat
namespace Go.Proofs.YtohbonfngeblkaaGreat
open Go.RowKit
namespace Co
def findC (ls : List Ln) (kind : Nat) (name : ByteArray) : Option Ln := ls.find? fun l => (l.kind == kind) && (l.name.toList == name.toList)
def cntC (ls : List Ln) (kind : Nat) : Nat := (ls.filter fun l => l.kind == kind).length
def manyC (ls : List Ln) (kind : Nat) : Bool := if kind = 2 ∨ kind = 3 then decide (6 ≤ cntC ls kind) else false
def faultC (ls : List Ln) (l : Ln) : Nat :=
  if decide (ls.length = 0) != decide (l.kind = 1) then 2
  else if allFit l.sets = false then 3
  else if manyC ls l.kind = true then 4
  else if twc l.sets = true then 5
  else if (findC ls l.kind l.name).isSome = true then 5 else 0
abbrev bare (ls : List (Ln × Value)) : List Ln := ls.map (·.1)
theorem findL_bare : ∀ (ls : List (Ln × Value)) (kind : Nat) (name : ByteArray), findC (bare ls) kind name = (findL ls kind name).map (·.1)
  | [], _, _ => rfl
  | p :: r, kind, name => by
    have ih := findL_bare r kind name
    simp only [findC, findL, bare, List.map_cons, List.find?_cons] at ih ⊢
    by_cases h : isL kind name p = true
    · have h' : ((p.1.kind == kind) && (p.1.name.toList == name.toList)) = true := h
      rw [h, h']; rfl
    · have h1 : isL kind name p = false := by simpa using h
      have h' : ((p.1.kind == kind) && (p.1.name.toList == name.toList)) = false := h1
      rw [h1, h']; exact ih
theorem cnt_bare (ls : List (Ln × Value)) (kind : Nat) : cntC (bare ls) kind = cnt ls kind := by
  unfold cntC cnt bare
  rw [List.filter_map, List.length_map]
  rfl
theorem fault_bare (ls : List (Ln × Value)) (l : Ln) : faultC (bare ls) l = faultN ls l := by
  unfold faultC faultN manyC many
  rw [findL_bare, cnt_bare]
  simp only [bare, List.length_map, Option.isSome_map]
structure Rd where
  lines : List Ln
  err : Nat
  at' : Nat
def rdC : Nat → List Ln → List ByteArray → Rd
  | i, acc, [] => if acc.length = 0 then ⟨[], 2, i⟩ else ⟨acc, 0, 0⟩
  | i, acc, p :: r =>
    if (flds p).length = 0 then rdC (i + 1) acc r
    else match parseF (flds p) with
      | none => ⟨[], 2, i + 1⟩
      | some l => if faultC acc l = 0 then rdC (i + 1) (acc ++ [{ l with place := i + 1 }]) r else ⟨[], faultC acc l, i + 1⟩
def rd (s : ByteArray) : Rd := rdC 0 [] (pieces s 10)
theorem rdC_skip {i : Nat} {acc : List Ln} {p : ByteArray} {r : List ByteArray} (h : (flds p).length = 0) : rdC i acc (p :: r) = rdC (i + 1) acc r := by rw [rdC, if_pos h]
theorem rdC_bad {i : Nat} {acc : List (Ln × Value)} {p : ByteArray} {r : List ByteArray} (h : ¬ (flds p).length = 0) (hb : readN acc (flds p) ≠ 0) : rdC i (bare acc) (p :: r) = ⟨[], readN acc (flds p), i + 1⟩ := by
  rw [rdC, if_neg h]
  unfold readN at hb ⊢
  cases hp : parseF (flds p) with
  | none => rfl
  | some l =>
    rw [hp] at hb
    simp only at hb ⊢
    rw [fault_bare, if_neg hb]
theorem rdC_good {i : Nat} {acc : List (Ln × Value)} {p : ByteArray} {r : List ByteArray} {l : Ln} (h : ¬ (flds p).length = 0) (hl : parseF (flds p) = some l) (hb : readN acc (flds p) = 0) : rdC i (bare acc) (p :: r) = rdC (i + 1) (bare acc ++ [{ l with place := i + 1 }]) r := by
  rw [rdC, if_neg h, hl]
  unfold readN at hb
  rw [hl] at hb
  simp only at hb ⊢
  rw [fault_bare, if_pos hb]
def Sv (w : World) (p : Ln × Value) : Prop := RowAt w p.2 p.1.sets.length (flatS p.1.sets) ∧ ∀ so n sc, p.2 = .slice so n sc → Fr 0 w so
theorem Sv.nx {w w' : World} {p : Ln × Value} (h : Sv w p) (hb : Below w.heap.size w w') : Sv w' p := ⟨h.1.nx hb, fun so n sc e => (h.2 so n sc e).nx hb⟩
theorem row_grown {w w' : World} {v : Value} {n : Nat} {cs : List Value} {row : Option Nat} (h : RowAt w v n cs) (hg : w.grownBy w' row) (hne : ∀ so m sc b off, v = .slice so m sc → so = some ⟨b, off, none⟩ → row ≠ some b) : RowAt w' v n cs := by
  obtain ⟨ao, cap, e, hc, h⟩ := h
  refine ⟨ao, cap, e, hc, ?_⟩
  rcases h with h | ⟨b, off, h1, h2, h3⟩
  · exact .inl h
  · refine .inr ⟨b, off, h1, Nat.lt_of_lt_of_le h2 hg.size, fun j x hx => ?_⟩
    exact hg.cell (h3 j x hx) (fun e' => hne ao n cap b off e h1 e'.symm)
theorem Sv.grown {w w' : World} {p : Ln × Value} {row : Option Nat} (h : Sv w p) (hg : w.grownBy w' row) (hrow : ∀ g, row = some g → ∃ cur, w.heap[g]? = some (.cells cur 136 (0, 0))) : Sv w' p := by
  have key : ∀ so m sc b off, p.2 = .slice so m sc → so = some ⟨b, off, none⟩ → row ≠ some b := by
    intro so m sc b off e1 e2 e3
    obtain ⟨_, cur, h2⟩ := h.2 so m sc e1 b off e2
    obtain ⟨cur', h3⟩ := hrow b e3
    rw [h2] at h3
    simp at h3
  refine ⟨row_grown h.1 hg key, fun so n sc e b off e2 => ?_⟩
  obtain ⟨h1, cur, h2⟩ := h.2 so n sc e b off e2
  exact ⟨h1, cur, (hg.block b (Array.getElem?_eq_some_iff.1 h2).1 (fun e' => key so n sc b off e e2 e'.symm)).trans h2⟩
theorem own_typed {w : World} {B size : Nat} {e : TypeId} {v : Value} {n : Nat} {xs : List Value} (h : w.ownsRow B e size v n xs) : ∀ g, v.ownBlock = some g → ∃ cur, w.heap[g]? = some (.cells cur e (0, 0)) := by
  intro g hg
  rcases h.2 with ⟨rfl, _⟩ | ⟨g', cap', cur, rfl, hb, hh, _⟩
  · simp [Value.ownBlock] at hg
  · simp [Value.ownBlock] at hg
    subst hg
    exact ⟨cur, hh⟩
def ReadAll (s : ByteArray) (w w' : World) (e : Ending) : Prop :=
  ((rd s).err ≠ 0 ∧ e = .returned (.tuple #[.slice none 0 0, .int .i64 (rd s).err, .int .i64 (rd s).at']) ∧ Below w.heap.size w w') ∨
  (∃ ls ao cap, (rd s).err = 0 ∧ (rd s).lines = bare ls ∧ ls.length ≤ 1001 ∧ 0 < ls.length ∧ e = .returned (.tuple #[.slice ao ls.length cap, .int .i64 0, .int .i64 0]) ∧ LinesAt w' (.slice ao ls.length cap) ls ∧ Below w.heap.size w w')
theorem ret_sii {a b : Option Addr} {n m c d : Nat} {x y z t : Int} (h : x = y) (h2 : z = t) (h3 : Value.slice a n c = .slice b m d) : Ending.returned (.tuple #[.slice a n c, .int .i64 x, .int .i64 z]) = .returned (.tuple #[.slice b m d, .int .i64 y, .int .i64 t]) := by rw [h, h2, h3]
set_option maxRecDepth 20000 in
set_option maxHeartbeats 4000000 in
theorem readLines_any (s : ByteArray) (w : World) (hs : s.size ≤ 1000) :
    Calls Tryz.prog 71 #[.string s] w fun e w' => ReadAll s w w' e := by
  obtain ⟨t0, hi, hz0, hz1, hz2⟩ := info_parts info_line
  go_enter Tryz.func71, Tryz.ntmps71
  go_wp2_with fail
  refine (split_nl s _ hs).mono ?_; rintro e w1 ⟨pa, pc, rfl, hp, hb1⟩
  have hlen := pieces_len s 10
  have hsmall := pieces_small s 10
  obtain ⟨ps, hps⟩ : ∃ ps, pieces s 10 = ps := ⟨_, rfl⟩
  rw [hps] at hp hlen hsmall ⊢
  obtain ⟨n, hn⟩ : ∃ n, ps.length = n := ⟨_, rfl⟩
  rw [hn] at hp hlen ⊢
  have HP : Hid (RowAt w1 (.slice pa n pc) n (strs ps) ∧ ps.length = n ∧ pieces s 10 = ps ∧ ∀ p ∈ ps, p.size ≤ s.size) := ⟨hp, hn, hps, hsmall⟩
  have HB1 : Hid (Below w.heap.size w w1) := hb1
  clear hp hn hps hb1 hsmall
  go_wp2_with fail
  go_loopw [6, 7] (fun v i wr => ∃ (k m : Nat) (acc : List (Ln × Value)), k ≤ n ∧ i = .int .i64 k ∧ m ≤ k ∧ Hid (rd s = rdC k (bare acc) (ps.drop k) ∧ acc.length = m ∧ ∀ p ∈ acc, Sv wr p) ∧ wr.ownsRow w1.heap.size 136 5 v m (flatL acc) ∧ Below w1.heap.size w1 wr) (fun _ i _ => n - (intOf i).toNat)
  case atStart => exact ⟨0, 0, [], Nat.zero_le _, rfl, Nat.le_refl _, ⟨by rw [rd, HP.out.2.2.1]; rfl, rfl, by simp⟩, World.ownsRow_made w1 #[] 0 (Nat.le_refl _) (Nat.zero_le _) rfl, nx_alloc _ _⟩
  case round =>
    obtain ⟨k, m, acc, hk, rfl, hm, HS, hown, hbel⟩ := hrel
    obtain ⟨vo, vc, hv, _⟩ := own_row hown
    subst hv
    by_cases hlt : k < n
    · obtain ⟨p, hpk⟩ : ∃ p, ps[k]? = some p := ⟨_, List.getElem?_eq_getElem (by rw [HP.out.2.1]; exact hlt)⟩
      obtain ⟨bl, off, hpa, hbl, hc⟩ := (HP.out.1.nx hbel).at (strs_at hpk)
      subst hpa
      have hps2 : p.size ≤ 1000 := Nat.le_trans (HP.out.2.2.2 p (List.mem_of_getElem? hpk)) hs
      have HD : Hid (ps.drop k = p :: ps.drop (k + 1)) := drop_at hpk
      have hlti : (k : Int) < (n : Int) := by omega
      clear hpk
      go_wp2_with fail
      refine (fieldsOf_any p _ hps2).mono ?_; rintro e w2 ⟨fo, fc, rfl, hf, hb2⟩
      have hfl := flds_len p
      have hfs := flds_small p
      obtain ⟨fs, hfe⟩ : ∃ fs, flds p = fs := ⟨_, rfl⟩
      rw [hfe] at hf hfl hfs ⊢
      obtain ⟨fn, hfn⟩ : ∃ fn, fs.length = fn := ⟨_, rfl⟩
      rw [hfn] at hf hfl ⊢
      have hown2 := own_below hown hb2
      have hbel2 := nx_trans hbel hb2
      have HF : Hid (RowAt w2 (.slice fo fn fc) fn (strs fs) ∧ fs.length = fn ∧ flds p = fs ∧ ∀ q ∈ fs, q.size ≤ p.size) := ⟨hf, hfn, hfe, hfs⟩
      have HSv : Hid (∀ p ∈ acc, Sv w2 p) := fun q hq => (HS.out.2.2 q hq).nx hb2
      clear hf hfn hfe hfs hown hbel hb2
      by_cases hf0 : fn = 0
      · have HF0 : Hid (fn = 0) := hf0
        have hf0b : ¬ (0 : Int) < (fn : Int) := by omega
        have hf0c : ¬ 0 < fn := by omega
        clear hf0
        go_wp2_with fail
        go_roundw
        case rel => exact ⟨k + 1, m, acc, by omega, by go_num, by omega, ⟨by rw [HS.out.1, HD.out, rdC_skip (by rw [HF.out.2.2.1, HF.out.2.1]; exact HF0.out)], HS.out.2.1, HSv.out⟩, hown2, hbel2⟩
        case measure => simp [intOf]; omega
      · have hf0b : (0 : Int) < (fn : Int) := by omega
        have HF0 : Hid (¬ (flds p).length = 0) := by show ¬ _; rw [HF.out.2.2.1, HF.out.2.1]; exact hf0
        have HRL := hideIt (readLine_any fo fc fn fs vo vc m acc w2 HF.out.1 HF.out.2.1 (by omega) (by omega) (fun q hq => Nat.le_trans (HF.out.2.2.2 q hq) hps2) (by
          have h := own_row hown2
          refine ⟨by rw [HS.out.2.1]; exact h, fun q hq => (HSv.out q hq).1⟩) HS.out.2.1 (by omega))
        go_wp2_with fail
        refine HRL.out.mono ?_
        rintro e w3 (⟨hbad, x0, x1, s2, s3, a4, n4, c4, rfl, hb3⟩ | ⟨l, so, sc, hz, hpl, rfl, hrow, hfr, hb3⟩)
        · obtain ⟨er, her⟩ : ∃ er, readN acc fs = er := ⟨_, rfl⟩
          rw [her] at hbad ⊢
          have HX : Hid ((rd s).err = er ∧ (rd s).at' = k + 1 ∧ Below w.heap.size w w3) := by
            have e : rd s = ⟨[], er, k + 1⟩ := by
              rw [HS.out.1, HD.out, rdC_bad HF0.out (by rw [HF.out.2.2.1, her]; exact hbad), HF.out.2.2.1, her]
            refine ⟨by rw [e], by rw [e], nx_trans HB1.out (nx_trans hbel2 hb3)⟩
          have herb : ((er : Int) != 0) = true := by rw [bne_iff_ne]; omega
          have HBD := hideIt hbad
          clear hown2 hbel2 hb3 her hbad
          go_wp2_with fail
          go_ret3
          refine .inl ⟨by rw [HX.out.1]; exact HBD.out, ?_, nx_trans HX.out.2.2 (nx_alloc _ _)⟩
          exact ret_sii (by rw [HX.out.1]) (by rw [HX.out.2.1]; omega) rfl
        · obtain ⟨m5, hm5⟩ : ∃ m5, l.sets.length = m5 := ⟨_, rfl⟩
          rw [hm5] at hrow ⊢
          have hown3 := own_below hown2 hb3
          have hbel3 := nx_trans hbel2 hb3
          have hB3 : w1.heap.size ≤ w3.heap.size := hbel3.size
          have HX : Hid (rd s = rdC (k + 1) (bare (acc ++ [({ l with place := k + 1 }, .slice so m5 sc)])) (ps.drop (k + 1)) ∧ l.sets.length = m5) := by
            refine ⟨?_, hm5⟩
            rw [HS.out.1, HD.out, rdC_good HF0.out (by rw [HF.out.2.2.1]; exact hpl) (by rw [HF.out.2.2.1]; exact hz)]
            simp [bare]
          have HV : Hid ((∀ p ∈ acc, Sv w3 p) ∧ Sv w3 ({ l with place := k + 1 }, .slice so m5 sc)) := by
            refine ⟨fun q hq => (HSv.out q hq).nx hb3, ?_, ?_⟩
            · show RowAt w3 (.slice so m5 sc) l.sets.length (flatS l.sets)
              rw [hm5]; exact hrow
            · intro so' n' sc' e
              simp only [Value.slice.injEq] at e
              obtain ⟨rfl, _, _⟩ := e
              exact hfr.mono (Nat.zero_le _)
          clear hown2 hbel2 hb3 hz hpl hrow hfr hm5 HSv
          go_wp2_with (at_builtin; refine wpList_append_own _ rfl (.tmp 42) (.tmp 44) 111 rfl w1.heap.size 136 t0 _ 5 72 Tryz.underlying111 hi hz0 hz1 hz2 rfl (by decide) _ _ _ rfl ((hown3.alloc _).alloc _) ⟨w3.heap.size + 1, 0, none⟩ 1 1 [.int .i64 ((k : Int) + 1), .int .i64 (l.kind : Int), .string l.name, .string l.frm, .slice so m5 sc] rfl rfl ?c1 ?c2 ?c3 ?c4 ?c5 ?next)
          case c1 => exact cells_new_at (w3.alloc _) [.int .i64 ((k : Int) + 1), .int .i64 (l.kind : Int), .string l.name, .string l.frm, .slice so m5 sc] _ (by simp)
          case c2 => intro u hu; simp at hu; rcases hu with rfl | rfl | rfl | rfl | rfl <;> rfl
          case c3 => unfold maxLen; omega
          case c4 => omega
          case c5 => simp; omega
          case next =>
            intro v' w6 hown' hgrow _
            have R : w6.ownsRow w1.heap.size 136 5 v' (m + 1) (flatL (acc ++ [({ l with place := k + 1 }, .slice so m5 sc)])) ∧ Below w1.heap.size w1 w6 ∧ ∀ p ∈ acc ++ [({ l with place := k + 1 }, .slice so m5 sc)], Sv w6 p := by
              refine ⟨by rw [flatL_append]; exact hown', ((hbel3.alloc hB3 _).alloc (by simp; omega) _).grown hgrow (by simp; omega) (fun g hg => (hown3.lt g hg).1), ?_⟩
              intro q hq
              have hq3 : Sv w3 q := by
                rcases List.mem_append.1 hq with h | h
                · exact HV.out.1 q h
                · simp at h; subst h; exact HV.out.2
              exact ((hq3.nx (nx_alloc _ _)).nx (nx_alloc _ _)).grown hgrow (own_typed ((hown3.alloc _).alloc _))
            clear hown' hgrow hown3 hbel3
            go_wp2_with fail
            go_roundw
            case rel => exact ⟨k + 1, m + 1, acc ++ [({ l with place := k + 1 }, .slice so m5 sc)], by omega, by go_num, by omega, ⟨HX.out.1, by simp [HS.out.2.1], R.2.2⟩, R.1, R.2.1⟩
            case measure => simp [intOf]; omega
    · have e0 : ps.drop k = [] := List.drop_of_length_le (by rw [HP.out.2.1]; omega)
      obtain rfl : k = n := by omega
      have hrr : rd s = rdC k (bare acc) [] := by rw [HS.out.1, e0]
      rw [rdC] at hrr
      by_cases hm0 : m = 0
      · have HX : Hid (rd s = ⟨[], 2, k⟩ ∧ Below w.heap.size w wr) := ⟨by rw [hrr, if_pos (by simp [bare, HS.out.2.1, hm0])], nx_trans HB1.out hbel⟩
        subst hm0
        clear hrr e0 hown hbel
        go_wp2_with fail
        go_ret3
        exact .inl ⟨by rw [HX.out.1]; exact (by decide : (2 : Nat) ≠ 0), ret_sii (by rw [HX.out.1]; rfl) (by rw [HX.out.1]) rfl, HX.out.2⟩
      · have HX : Hid (rd s = ⟨bare acc, 0, 0⟩ ∧ Below w.heap.size w wr ∧ LinesAt wr (.slice vo m vc) acc ∧ acc.length = m) :=
          ⟨by rw [hrr, if_neg (by simp [bare, HS.out.2.1, hm0])], nx_trans HB1.out hbel, ⟨by rw [HS.out.2.1]; exact own_row hown, fun q hq => (HS.out.2.2 q hq).1⟩, HS.out.2.1⟩
        have hm0b : ((m : Int) == 0) = false := by simp; omega
        clear hrr e0 hown hbel
        go_wp2_with fail
        go_ret3
        refine .inr ⟨acc, vo, vc, by rw [HX.out.1], by rw [HX.out.1], by rw [HX.out.2.2.2]; omega, by rw [HX.out.2.2.2]; omega, ret_sii rfl rfl (by rw [HX.out.2.2.2]), ?_, HX.out.2.1⟩
        rw [HX.out.2.2.2]; exact HX.out.2.2.1
end Co
end Go.Proofs.YtohbonfngeblkaaGreat
