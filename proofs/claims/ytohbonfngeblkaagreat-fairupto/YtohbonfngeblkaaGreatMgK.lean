import Derived.Test.YtohbonfngeblkaaGreatMgJ
import Derived.Test.YtohbonfngeblkaaGreatMgF
namespace Go.Proofs.YtohbonfngeblkaaGreat
open Go.RowKit
namespace Co
theorem parseF_kind {fs : List ByteArray} {l : Ln} (h : parseF fs = some l) : 1 ≤ l.kind ∧ l.kind ≤ 3 ∧ l.sets.length ≤ fs.length := by
  have hnamed : ∀ (kind : Nat) (r : List ByteArray) (l : Ln), namedF kind r = some l → l.kind = kind ∧ l.sets.length ≤ r.length := by
    intro kind r l h
    match r, h with
    | [], h => simp [namedF] at h
    | nm :: r, h =>
      rw [namedF.eq_def] at h
      simp only at h
      split at h
      · split at h
        · cases h; exact ⟨rfl, by simp⟩
        · split at h
          · split at h
            · cases h
            · split at h
              · rename_i r3 _
                cases hs : setsF r3 with
                | none => rw [hs] at h; cases h
                | some ss =>
                  rw [hs] at h
                  cases h
                  have := setsF_len _ _ hs
                  refine ⟨rfl, ?_⟩
                  simp; omega
              · cases h
          · rename_i fw r2 _
            cases hs : setsF (fw :: r2) with
            | none => rw [hs] at h; cases h
            | some ss =>
              rw [hs] at h
              cases h
              have := setsF_len _ _ hs
              refine ⟨rfl, ?_⟩
              simp at this ⊢; omega
      · cases h
  match fs, h with
  | [], h => simp [parseF] at h
  | f0 :: rest, h =>
    rw [parseF] at h
    split at h
    · match rest, h with
      | [], h => simp [budF] at h
      | [a], h =>
        simp only [budF] at h
        cases hs : numF a with
        | none => rw [hs] at h; cases h
        | some b => rw [hs] at h; cases h; simp
      | a :: b :: r, h => simp [budF] at h
    · split at h
      · obtain ⟨h1, h2⟩ := hnamed 2 rest l h
        simp; omega
      · split at h
        · obtain ⟨h1, h2⟩ := hnamed 3 rest l h
          simp; omega
        · cases h
theorem st5_below {B : Nat} {w0 w : World} {g : Nat} (h : Below B w0 w) (hg : B ≤ g) (v0 v1 v2 v3 v4 : Value) : Below B w0 (((((w.setCell ⟨g, 0, none⟩ v0).setCell ⟨g, 1, none⟩ v1).setCell ⟨g, 2, none⟩ v2).setCell ⟨g, 3, none⟩ v3).setCell ⟨g, 4, none⟩ v4) :=
  ((((h.setCell hg _).setCell hg _).setCell hg _).setCell hg _).setCell hg _
theorem st5_fr {w : World} {so : Option Addr} {g : Nat} (h : Fr (g + 1) w so) (v0 v1 v2 v3 v4 : Value) : Fr g (((((w.setCell ⟨g, 0, none⟩ v0).setCell ⟨g, 1, none⟩ v1).setCell ⟨g, 2, none⟩ v2).setCell ⟨g, 3, none⟩ v3).setCell ⟨g, 4, none⟩ v4) so :=
  (((((h.set (Nat.lt_succ_self _) _ _).set (Nat.lt_succ_self _) _ _).set (Nat.lt_succ_self _) _ _).set (Nat.lt_succ_self _) _ _).set (Nat.lt_succ_self _) _ _).mono (Nat.le_succ _)
theorem st5_row {w : World} {so : Option Addr} {m sc n : Nat} {cs : List Value} {g : Nat} (h : RowAt w (.slice so m sc) n cs) (hg : ∀ b off, so = some ⟨b, off, none⟩ → g ≠ b) (v0 v1 v2 v3 v4 : Value) : RowAt (((((w.setCell ⟨g, 0, none⟩ v0).setCell ⟨g, 1, none⟩ v1).setCell ⟨g, 2, none⟩ v2).setCell ⟨g, 3, none⟩ v3).setCell ⟨g, 4, none⟩ v4) (.slice so m sc) n cs :=
  ((((h.set hg _ _).set hg _ _).set hg _ _).set hg _ _).set hg _ _
set_option maxRecDepth 20000 in
set_option maxHeartbeats 2000000 in
theorem parse_any (ao : Option Addr) (cap n : Nat) (fs : List ByteArray) (w : World) (hr : RowAt w (.slice ao n cap) n (strs fs)) (hn : fs.length = n) (hn1 : n ≤ 1001) (hn0 : 0 < n) (hsm : ∀ p ∈ fs, p.size ≤ 1000) :
    Calls Tryz.prog 109 #[.slice ao n cap] w fun e w' => Made (parseF fs) w w' e := by
  obtain ⟨f0, r, rfl⟩ : ∃ f0 r, fs = f0 :: r := by
    match fs, hn with
    | [], hn => simp at hn; omega
    | f0 :: r, _ => exact ⟨f0, r, rfl⟩
  obtain ⟨bl, off, rfl, hbl, hc⟩ := hr.at (j := 0) (x := .string f0) rfl
  rw [Nat.add_zero] at hc
  have hcap := row_len hr
  have h0b : ((n : Int) == 0) = false := by simp; omega
  have hpos : (0 : Int) < (n : Int) := by omega
  have hpos1 : (1 : Int) ≤ (n : Int) := by omega
  have hca : ∀ o, (w.alloc o).cell? ⟨bl, off, none⟩ = some (.string f0) := fun o => ((nx_alloc w o).cell (p := ⟨bl, off, none⟩) hbl).trans hc
  obtain ⟨A, hA⟩ : ∃ A, (if cap = 1 then some (⟨bl, off, none⟩ : Addr) else some ⟨bl, off + 1, none⟩) = A := ⟨_, rfl⟩
  have hrow1 : RowAt (w.alloc bZero) (.slice A (n - 1) (cap - 1)) (n - 1) (strs r) := by
    have := row_drop 1 hr hn (by omega)
    rw [hA] at this; exact this.nx (nx_alloc _ _)
  have hr1 : r.length = n - 1 := by simp at hn; omega
  have hsm1 : ∀ p ∈ r, p.size ≤ 1000 := fun p hp => hsm p (List.mem_cons_of_mem _ hp)
  have HBud := hideIt (parseBudget_any A (cap - 1) (n - 1) r (w.alloc bZero) hrow1 hr1 (by omega) hsm1)
  have HNam := hideIt (fun kind => parseNamed_any kind A (cap - 1) (n - 1) r (w.alloc bZero) hrow1 hr1 (by omega) hsm1)
  have HZ : Hid ((w.alloc bZero).heap[w.heap.size]? = some bZero) := heap_alloc_at _ _ rfl
  clear hr hn hrow1 hr1 hsm hsm1
  have fin : ∀ (o : Option Ln) (e : Ending) (w1 : World), Made o (w.alloc bZero) w1 e → ∃ x0 x1 s2 s3 a4 n4 c4 ok, e = .returned (.tuple #[lnA x0 x1 s2 s3 a4 n4 c4, .bool ok]) ∧ Below (w.alloc bZero).heap.size (w.alloc bZero) w1 ∧
      ∀ w', w' = (((((w1.setCell ⟨w.heap.size, 0, none⟩ (.int .i64 x0)).setCell ⟨w.heap.size, 1, none⟩ (.int .i64 x1)).setCell ⟨w.heap.size, 2, none⟩ (.string s2)).setCell ⟨w.heap.size, 3, none⟩ (.string s3)).setCell ⟨w.heap.size, 4, none⟩ (.slice a4 n4 c4)) → Made o w w' e := by
    intro o e w1 h
    rcases h with ⟨h1, x0, x1, s2, s3, a4, n4, c4, rfl, hb⟩ | ⟨l, so, sc, h1, rfl, hrow, hfr, hb⟩
    · exact ⟨x0, x1, s2, s3, a4, n4, c4, false, rfl, hb, fun w' hw => .inl ⟨h1, x0, x1, s2, s3, a4, n4, c4, rfl, by rw [hw]; exact st5_below (nx_trans (nx_alloc _ _) hb) (Nat.le_refl _) _ _ _ _ _⟩⟩
    · have hne : ∀ b off, so = some ⟨b, off, none⟩ → w.heap.size ≠ b := fun b o e => by have := (hfr b o e).1; rw [World.size_alloc] at this; omega
      exact ⟨_, _, _, _, _, _, _, true, rfl, hb, fun w' hw => .inr ⟨l, so, sc, h1, rfl, by rw [hw]; exact st5_row hrow hne _ _ _ _ _, by rw [hw]; exact st5_fr (hfr.mono (by rw [World.size_alloc]; exact Nat.le_refl _)) _ _ _ _ _, by rw [hw]; exact st5_below (nx_trans (nx_alloc _ _) hb) (Nat.le_refl _) _ _ _ _ _⟩⟩
  have HFin := hideIt fin
  clear fin
  cases hb : f0.toList == [98, 117, 100, 103, 101, 116]
  · cases hb2 : f0.toList == [98, 97, 115, 101]
    · cases hb3 : f0.toList == [112, 111, 111, 108]
      · have HP : Hid (parseF (f0 :: r) = none) := by show _ = _; simp [parseF, hb, hb2, hb3]
        go_enter Tryz.func109, Tryz.ntmps109
        go_wp2_with fail
        exact bodyPost_ret (v := .tuple #[lnA 0 0 ⟨#[]⟩ ⟨#[]⟩ none 0 0, .bool false]) (by simp [results, Tryz.results109, go_sem]) rfl (.inl ⟨HP.out, _, _, _, _, _, _, _, rfl, nx_alloc _ _⟩)
      · have HP : Hid (parseF (f0 :: r) = namedF 3 r) := by show _ = _; simp [parseF, hb, hb2, hb3]
        go_enter Tryz.func109, Tryz.ntmps109
        go_wp2_with fail
        refine (HNam.out 3).mono ?_
        intro e w1 hmade
        obtain ⟨x0, x1, s2, s3, a4, n4, c4, ok, rfl, hb1, hfin⟩ := HFin.out _ _ _ hmade
        obtain ⟨c0, c1, c2, c3, c4', z0⟩ := blk_cells hb1 (by simp) HZ.out
        have HF := hideIt hfin
        clear hmade hfin hb1
        go_wp2_with fail
        refine bodyPost_ret (v := .tuple #[lnA x0 x1 s2 s3 a4 n4 c4, .bool ok]) (by simp [results, Tryz.results109, go_sem, c0, c1, c2, c3, c4']) rfl ?_
        rw [HP.out]
        exact HF.out _ rfl
    · have HP : Hid (parseF (f0 :: r) = namedF 2 r) := by show _ = _; simp [parseF, hb, hb2]
      go_enter Tryz.func109, Tryz.ntmps109
      go_wp2_with fail
      refine (HNam.out 2).mono ?_
      intro e w1 hmade
      obtain ⟨x0, x1, s2, s3, a4, n4, c4, ok, rfl, hb1, hfin⟩ := HFin.out _ _ _ hmade
      obtain ⟨c0, c1, c2, c3, c4', z0⟩ := blk_cells hb1 (by simp) HZ.out
      have HF := hideIt hfin
      clear hmade hfin hb1
      go_wp2_with fail
      refine bodyPost_ret (v := .tuple #[lnA x0 x1 s2 s3 a4 n4 c4, .bool ok]) (by simp [results, Tryz.results109, go_sem, c0, c1, c2, c3, c4']) rfl ?_
      rw [HP.out]
      exact HF.out _ rfl
  · have HP : Hid (parseF (f0 :: r) = budF r) := by show _ = _; simp [parseF, hb]
    go_enter Tryz.func109, Tryz.ntmps109
    go_wp2_with fail
    refine HBud.out.mono ?_
    intro e w1 hmade
    obtain ⟨x0, x1, s2, s3, a4, n4, c4, ok, rfl, hb1, hfin⟩ := HFin.out _ _ _ hmade
    obtain ⟨c0, c1, c2, c3, c4', z0⟩ := blk_cells hb1 (by simp) HZ.out
    have HF := hideIt hfin
    clear hmade hfin hb1
    go_wp2_with fail
    refine bodyPost_ret (v := .tuple #[lnA x0 x1 s2 s3 a4 n4 c4, .bool ok]) (by simp [results, Tryz.results109, go_sem, c0, c1, c2, c3, c4']) rfl ?_
    rw [HP.out]
    exact HF.out _ rfl
def readN (ls : List (Ln × Value)) (fs : List ByteArray) : Nat := match parseF fs with | none => 2 | some l => faultN ls l
def Read (ls : List (Ln × Value)) (fs : List ByteArray) (w w' : World) (e : Ending) : Prop :=
  (readN ls fs ≠ 0 ∧ ∃ x0 x1 s2 s3 a4 n4 c4, e = .returned (.tuple #[lnA x0 x1 s2 s3 a4 n4 c4, .int .i64 (readN ls fs)]) ∧ Below w.heap.size w w') ∨
  (∃ l so sc, readN ls fs = 0 ∧ parseF fs = some l ∧ e = .returned (.tuple #[lnA 0 l.kind l.name l.frm so l.sets.length sc, .int .i64 0]) ∧ RowAt w' (.slice so l.sets.length sc) l.sets.length (flatS l.sets) ∧ Fr w.heap.size w' so ∧ Below w.heap.size w w')
set_option maxRecDepth 20000 in
set_option maxHeartbeats 2000000 in
theorem readLine_any (fo : Option Addr) (fc fn : Nat) (fs : List ByteArray) (ao : Option Addr) (cap n : Nat) (ls : List (Ln × Value)) (w : World) (hf : RowAt w (.slice fo fn fc) fn (strs fs)) (hfn : fs.length = fn) (hfn1 : fn ≤ 1001) (hfn0 : 0 < fn) (hsm : ∀ p ∈ fs, p.size ≤ 1000)
    (hl : LinesAt w (.slice ao n cap) ls) (hn : ls.length = n) (hn1 : n ≤ 1001) :
    Calls Tryz.prog 92 #[.slice fo fn fc, .slice ao n cap] w fun e w' => Read ls fs w w' e := by
  have HP := hideIt (parse_any fo fc fn fs (w.alloc bZero) (hf.nx (nx_alloc _ _)) hfn hfn1 hfn0 hsm)
  have HL : Hid (LinesAt (w.alloc bZero) (.slice ao n cap) ls ∧ ls.length = n ∧ fs.length = fn) := ⟨hl.nx (nx_alloc _ _), hn, hfn⟩
  have HZ : Hid ((w.alloc bZero).heap[w.heap.size]? = some bZero) := heap_alloc_at _ _ rfl
  clear hf hfn hsm hl hn
  go_enter Tryz.func92, Tryz.ntmps92
  go_wp2_with fail
  refine HP.out.mono ?_
  rintro e w1 (⟨h1, x0, x1, s2, s3, a4, n4, c4, rfl, hb1⟩ | ⟨l, so, sc, h1, rfl, hrow, hfr, hb1⟩)
  · have kk := fun o => blk_cells (nx_trans hb1 (nx_alloc w1 o)) (by simp) HZ.out
    have c0 := fun o => (kk o).1
    have c1 := fun o => (kk o).2.1
    have c2 := fun o => (kk o).2.2.1
    have c3 := fun o => (kk o).2.2.2.1
    have c4' := fun o => (kk o).2.2.2.2.1
    have z0 := fun o => (kk o).2.2.2.2.2
    have HX : Hid (readN ls fs = 2 ∧ Below w.heap.size w w1) := ⟨by rw [readN, h1], nx_trans (nx_alloc _ _) hb1⟩
    clear h1 hb1 kk
    go_wp2_with fail
    refine bodyPost_ret (v := .tuple #[lnA 0 0 ⟨#[]⟩ ⟨#[]⟩ none 0 0, .int .i64 2]) (by simp [results, Tryz.results92, go_sem, c0, c1, c2, c3, c4']) rfl (.inl ⟨by rw [HX.out.1]; decide, _, _, _, _, _, _, _, by rw [HX.out.1]; rfl, ?_⟩)
    exact st5_below (nx_trans HX.out.2 (nx_alloc _ _)) (Nat.le_refl _) _ _ _ _ _
  · obtain ⟨hkk1, hkk3, hsl⟩ := parseF_kind h1
    have HR0 : Hid (readN ls fs = faultN ls l ∧ parseF fs = some l) := ⟨by rw [readN, h1], h1⟩
    obtain ⟨kind, name, frm, ss, pl⟩ := l
    simp only at hrow hfr hkk1 hkk3 hsl ⊢
    have hss : ss.length ≤ 1001 := by rw [HL.out.2.2] at hsl; omega
    have HFA := hideIt (faultOf_any ⟨kind, name, frm, ss, pl⟩ 0 so sc ao cap n ls ((w1.alloc (bLn 0 kind name frm so ss.length sc)).drew) ((HL.out.1.nx hb1).nx (nx_alloc _ _).drew) HL.out.2.1 hn1 (hrow.nx (nx_alloc _ _).drew) hss hkk1 hkk3)
    simp only at HFA
    obtain ⟨m, hm⟩ : ∃ m, ss.length = m := ⟨_, rfl⟩
    rw [hm] at hrow hss HFA ⊢
    have HM := hideIt hm
    have HX : Hid (Below w.heap.size w w1 ∧ RowAt w1 (.slice so m sc) m (flatS ss) ∧ Fr (w.heap.size + 1) w1 so ∧ w.heap.size < w1.heap.size ∧ w1.heap[w.heap.size]? = some bZero) :=
      ⟨nx_trans (nx_alloc _ _) hb1, hrow, hfr.mono (by rw [World.size_alloc]; exact Nat.le_refl _), sz_lt hb1, (hb1.block _ (by simp)).trans HZ.out⟩
    have HQ : Hid (((w1.alloc (bLn 0 kind name frm so m sc)).drew).heap[w.heap.size]? = some bZero ∧ ((w1.alloc (bLn 0 kind name frm so m sc)).drew).heap[w1.heap.size]? = some (bLn 0 kind name frm so m sc) ∧ w.heap.size < ((w1.alloc (bLn 0 kind name frm so m sc)).drew).heap.size ∧ w1.heap.size < ((w1.alloc (bLn 0 kind name frm so m sc)).drew).heap.size) := by
      refine ⟨(heap_alloc_lt _ _ HX.out.2.2.2.1).trans HX.out.2.2.2.2, heap_alloc_at _ _ rfl, ?_, ?_⟩
      · show _ < (w1.alloc _).heap.size
        rw [World.size_alloc]; have := HX.out.2.2.2.1; omega
      · show _ < (w1.alloc _).heap.size
        rw [World.size_alloc]; omega
    clear h1 hrow hfr hb1 hsl hm
    go_wp2_with fail
    go_region_with (go_at_call 110; refine HFA.out.mono ?_; rintro e w3 ⟨rfl, hb3⟩; obtain ⟨c0, c1, c2, c3, c4', z0⟩ := blk_cells hb3 HQ.out.2.2.1 HQ.out.1; obtain ⟨d0, d1, d2, d3, d4, z1⟩ := blk_cells hb3 HQ.out.2.2.2 HQ.out.2.1; have HB3 := hideIt hb3; clear hb3)
    all_goals go_wp2_with fail
    all_goals
      refine bodyPost_ret (v := .tuple #[lnA 0 kind name frm so m sc, .int .i64 (faultN ls ⟨kind, name, frm, ss, pl⟩)]) (by simp [results, Tryz.results92, go_sem, c0, c1, c2, c3, c4']) rfl ?_
      have hbw : Below w.heap.size w w3 := nx_trans (nx_trans HX.out.1 (nx_alloc _ _).drew) HB3.out
      by_cases hz : faultN ls ⟨kind, name, frm, ss, pl⟩ = 0
      · refine .inr ⟨⟨kind, name, frm, ss, pl⟩, so, sc, by rw [HR0.out.1]; exact hz, HR0.out.2, by rw [hz, ← HM.out]; rfl, ?_, st5_fr ((HX.out.2.2.1.nx (nx_alloc _ _).drew).nx HB3.out) _ _ _ _ _, ?_⟩
        · have hne : ∀ b off, so = some ⟨b, off, none⟩ → w.heap.size ≠ b := fun b o e => by have := (HX.out.2.2.1 b o e).1; omega
          have hr3 : RowAt w3 (.slice so m sc) m (flatS ss) := (HX.out.2.1.nx (nx_alloc _ _).drew).nx HB3.out
          simp only
          rw [HM.out]
          exact st5_row hr3 hne _ _ _ _ _
        · exact st5_below hbw (Nat.le_refl _) _ _ _ _ _
      · refine .inl ⟨by rw [HR0.out.1]; exact hz, _, _, _, _, _, _, _, by rw [HR0.out.1], ?_⟩
        exact st5_below hbw (Nat.le_refl _) _ _ _ _ _
end Co
end Go.Proofs.YtohbonfngeblkaaGreat
