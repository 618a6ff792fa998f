import Derived.Test.YtohbonfngeblkaaGreatMnE
import Derived.Test.YtohbonfngeblkaaGreatMnG
namespace Go.Proofs.YtohbonfngeblkaaGreat
open Go.RowKit
namespace Co
def tabStep (all : List (Ln × Value)) (st : Int × List Pl) (p : Ln × Value) : Int × List Pl :=
  if p.1.kind = 1 then (valOf 3 0 p.1.sets [], st.2) else if p.1.kind = 3 then (st.1, insP (poolC all p.1) st.2) else st
def tabTo (all : List (Ln × Value)) (k : Nat) : Int × List Pl := (all.take k).foldl (tabStep all) (0, [])
theorem tabTo_succ (all : List (Ln × Value)) (k : Nat) (p : Ln × Value) (h : all[k]? = some p) : tabTo all (k + 1) = tabStep all (tabTo all k) p := by
  unfold tabTo
  obtain ⟨hk, rfl⟩ := List.getElem?_eq_some_iff.1 h
  rw [List.take_succ_eq_append_getElem hk, List.foldl_append]
  rfl
abbrev bTab (b : Int) (v : Value) : Obj := .cells #[.int .i64 b, v] 24
theorem blk2 {w : World} {g : Nat} {c0 c1 : Value} {t : TypeId} (h : w.heap[g]? = some (.cells #[c0, c1] t (0, 0))) :
    w.cell? ⟨g, 0, none⟩ = some c0 ∧ w.cell? ⟨g, 1, none⟩ = some c1 ∧ ∀ a, w.frozen? ⟨g, a, none⟩ = false := by
  refine ⟨?_, ?_, fun a => ?_⟩ <;> simp [World.cell?, World.frozen?, h]
set_option maxRecDepth 20000 in
set_option maxHeartbeats 4000000 in
theorem tableOf_any (ao : Option Addr) (cap n : Nat) (ls : List (Ln × Value)) (w : World) (hl : LinesAt w (.slice ao n cap) ls) (hn : ls.length = n) (hn1 : n ≤ 1001) (hsl : ∀ p ∈ ls, p.1.sets.length ≤ 1001) :
    Calls Tryz.prog 73 #[.slice ao n cap] w fun e w' => ∃ vo vc, e = .returned (.agg #[.int .i64 (tabTo ls n).1, .slice vo (tabTo ls n).2.length vc]) ∧ w'.ownsRow w.heap.size 75 4 (.slice vo (tabTo ls n).2.length vc) (tabTo ls n).2.length (flatP (tabTo ls n).2) ∧ Below w.heap.size w w' := by
  have HL : Hid (LinesAt w (.slice ao n cap) ls ∧ ls.length = n ∧ ∀ p ∈ ls, p.1.sets.length ≤ 1001) := ⟨hl, hn, hsl⟩
  clear hl hn hsl
  have HST : Hid (((w.alloc (bTab 0 (.slice none 0 0))).alloc (bTab 0 (.slice none 0 0))).heap[w.heap.size]? = some (bTab 0 (.slice none 0 0)) ∧ ((w.alloc (bTab 0 (.slice none 0 0))).alloc (bTab 0 (.slice none 0 0))).heap[w.heap.size + 1]? = some (bTab 0 (.slice none 0 0))) :=
    ⟨(heap_alloc_lt' _ _ (by simp)).trans (heap_alloc_at' _ _ rfl), heap_alloc_at' _ _ (by simp)⟩
  go_enter Tryz.func73, Tryz.ntmps73
  go_wp2_with fail
  go_loopw [4] (fun i wr => ∃ (k m : Nat) (b : Int) (ps : List Pl) (vo : Option Addr) (vc : Nat), k ≤ n ∧ i = .int .i64 k ∧ m ≤ k ∧ Hid (tabTo ls k = (b, ps) ∧ ps.length = m) ∧ Hid (wr.heap[w.heap.size]? = some (bTab 0 (.slice none 0 0)) ∧ wr.heap[w.heap.size + 1]? = some (bTab b (.slice vo m vc))) ∧
      wr.ownsRow (w.heap.size + 2) 75 4 (.slice vo m vc) m (flatP ps) ∧ Below w.heap.size w wr ∧ w.heap.size + 2 ≤ wr.heap.size) (fun i _ => n - (intOf i).toNat)
  case atStart => exact ⟨0, 0, 0, [], none, 0, Nat.zero_le _, rfl, Nat.le_refl _, ⟨rfl, rfl⟩, HST.out, World.ownsRow_nil _ _ _ _, nx_trans (nx_alloc _ _) (nx_alloc _ _), by simp⟩
  case round =>
    obtain ⟨k, m, b, ps, vo, vc, hk, rfl, hm, HS, HH, hown, hbel, hz⟩ := hrel
    by_cases hlt : k < n
    · obtain ⟨⟨l, sv⟩, hp⟩ : ∃ p, ls[k]? = some p := ⟨_, List.getElem?_eq_getElem (by rw [HL.out.2.1]; exact hlt)⟩
      obtain ⟨bl, off, so, sc, hao, hbl, hsv, hrow, c0, c1, c2, c3, c4⟩ := (HL.out.1.nx hbel).at hp
      have hsl1 : l.sets.length ≤ 1001 := HL.out.2.2 _ (List.mem_of_getElem? hp)
      have HT := hideIt (tabTo_succ ls k (l, sv) hp)
      have hlti : (k : Int) < (n : Int) := by omega
      clear hp hsv
      by_cases hk1 : l.kind = 1
      · have HX : Hid (tabTo ls (k + 1) = (valOf 3 0 l.sets [], ps)) := by
          show _ = _
          rw [HT.out, HS.out.1, tabStep, if_pos hk1]
        have hkb : ((l.kind : Int) == 1) = true := by rw [int_eq1]; simp [hk1]
        have HV := hideIt (valueOf_3 l.place l.kind l.name l.frm so sc l.sets.length l.sets wr hrow rfl hsl1)
        obtain ⟨v3, hv3⟩ : ∃ v3, valOf 3 0 l.sets [] = v3 := ⟨_, rfl⟩
        rw [hv3] at HX HV
        subst hao
        clear hk1 HT hrow hv3
        go_wp2_with fail
        refine HV.out.mono ?_
        rintro e w2 ⟨rfl, hb2⟩
        have hh0 : w2.heap[w.heap.size]? = some (bTab 0 (.slice none 0 0)) := (hb2.block _ (by omega)).trans HH.out.1
        have hh1 : w2.heap[w.heap.size + 1]? = some (bTab b (.slice vo m vc)) := (hb2.block _ (by omega)).trans HH.out.2
        obtain ⟨e0, e1, ze⟩ := blk2 hh1
        have hz2 : w.heap.size + 2 ≤ w2.heap.size := Nat.le_trans hz hb2.size
        have R : Hid ((w2.setCell ⟨w.heap.size + 1, 0, none⟩ (.int .i64 v3)).ownsRow (w.heap.size + 2) 75 4 (.slice vo m vc) m (flatP ps) ∧ Below w.heap.size w (w2.setCell ⟨w.heap.size + 1, 0, none⟩ (.int .i64 v3)) ∧
            (w2.setCell ⟨w.heap.size + 1, 0, none⟩ (.int .i64 v3)).heap[w.heap.size]? = some (bTab 0 (.slice none 0 0)) ∧ (w2.setCell ⟨w.heap.size + 1, 0, none⟩ (.int .i64 v3)).heap[w.heap.size + 1]? = some (bTab v3 (.slice vo m vc))) :=
          ⟨ownsRow_setCell_below (own_below hown hb2) (by show w.heap.size + 1 < _; omega) _, (nx_trans hbel hb2).setCell (Nat.le_succ _) _, (Below.heap_setCell _ _ _ _ (by show w.heap.size ≠ w.heap.size + 1; omega)).trans hh0, set_heap _ _ _ _ _ _ hh1⟩
        clear hb2 hh0 hh1 hown hbel c0 c1 c2 c3 c4 hz
        go_wp2_with fail
        go_roundw
        case rel => exact ⟨k + 1, m, v3, ps, vo, vc, by omega, by go_num, by omega, ⟨HX.out, HS.out.2⟩, ⟨R.out.2.2.1, R.out.2.2.2⟩, R.out.1, R.out.2.1, by simpa using hz2⟩
        case measure => simp [intOf]; omega
      · have hkb : ((l.kind : Int) == 1) = false := by rw [int_eq1]; simp [hk1]
        by_cases hk3 : l.kind = 3
        · have HX : Hid (tabTo ls (k + 1) = (b, insP (poolC ls l) ps)) := by
            show _ = _
            rw [HT.out, HS.out.1, tabStep, if_neg hk1, if_pos hk3]
          have hkb3 : ((l.kind : Int) == 3) = true := by rw [hk3]; rfl
          have HPO := hideIt (poolOf_any l l.place l.kind so sc l.sets.length ao cap n ls wr (HL.out.1.nx hbel) HL.out.2.1 hn1 hrow rfl hsl1 HL.out.2.2)
          obtain ⟨pc, hpc⟩ : ∃ pc, poolC ls l = pc := ⟨_, rfl⟩
          rw [hpc] at HX HPO
          subst hao
          clear hk1 hk3 HT hrow hpc
          go_wp2_with fail
          refine HPO.out.mono ?_
          rintro e w2 ⟨rfl, hb2⟩
          have hh0 : w2.heap[w.heap.size]? = some (bTab 0 (.slice none 0 0)) := (hb2.block _ (by omega)).trans HH.out.1
          have hh1 : w2.heap[w.heap.size + 1]? = some (bTab b (.slice vo m vc)) := (hb2.block _ (by omega)).trans HH.out.2
          have hz2 : w.heap.size + 2 ≤ w2.heap.size := Nat.le_trans hz hb2.size
          obtain ⟨nm, sz, wt, fr⟩ := pc
          obtain ⟨W3, hW3⟩ : ∃ W3, W3 = w2.alloc (bPl ⟨nm, sz, wt, fr⟩) := ⟨_, rfl⟩
          have hb3 : Below w2.heap.size w2 W3 := by rw [hW3]; exact nx_alloc _ _
          have hown3 := own_below (own_below hown hb2) hb3
          have HI := hideIt (insert_any ⟨nm, sz, wt, fr⟩ vo vc m ps W3 (own_row hown3) HS.out.2 (by omega))
          have k0 := fun o => (blk2 (w := w2.alloc o) ((heap_alloc_lt' _ _ (show w.heap.size + 1 < w2.heap.size by omega)).trans hh1)).1
          have k1 := fun o => (blk2 (w := w2.alloc o) ((heap_alloc_lt' _ _ (show w.heap.size + 1 < w2.heap.size by omega)).trans hh1)).2.1
          have H3 : Hid (W3 = w2.alloc (bPl ⟨nm, sz, wt, fr⟩) ∧ Below w.heap.size w W3 ∧ W3.heap[w.heap.size]? = some (bTab 0 (.slice none 0 0)) ∧ W3.heap[w.heap.size + 1]? = some (bTab b (.slice vo m vc)) ∧ w.heap.size + 2 ≤ W3.heap.size) :=
            ⟨hW3, nx_trans (nx_trans hbel hb2) hb3, (hb3.block _ (by omega)).trans hh0, (hb3.block _ (by omega)).trans hh1, Nat.le_trans hz2 hb3.size⟩
          clear hb2 hb3 hh0 hh1 hown hown3 hbel hW3 c0 c1 c2 c3 c4 hz
          go_wp2_with fail
          rw [← H3.out.1]
          refine HI.out.mono ?_
          rintro e w4 ⟨v4, rfl, hown4, hb4⟩
          obtain ⟨vo4, vc4, hv4, _⟩ := own_row hown4
          subst hv4
          obtain ⟨m4, hm4⟩ : ∃ m4, (insP ⟨nm, sz, wt, fr⟩ ps).length = m4 := ⟨_, rfl⟩
          rw [hm4] at hown4 ⊢
          have HM41 : Hid (m4 = m + 1) := hideIt (by rw [← hm4, insP_len, HS.out.2])
          have hh1 : w4.heap[w.heap.size + 1]? = some (bTab b (.slice vo m vc)) := (hb4.block _ (by have := H3.out.2.2.2.2; omega)).trans H3.out.2.2.2.1
          have hh0 : w4.heap[w.heap.size]? = some (bTab 0 (.slice none 0 0)) := (hb4.block _ (by have := H3.out.2.2.2.2; omega)).trans H3.out.2.2.1
          obtain ⟨e0, e1, ze⟩ := blk2 hh1
          have R : Hid ((w4.setCell ⟨w.heap.size + 1, 1, none⟩ (.slice vo4 m4 vc4)).ownsRow (w.heap.size + 2) 75 4 (.slice vo4 m4 vc4) m4 (flatP (insP ⟨nm, sz, wt, fr⟩ ps)) ∧ Below w.heap.size w (w4.setCell ⟨w.heap.size + 1, 1, none⟩ (.slice vo4 m4 vc4)) ∧
              (w4.setCell ⟨w.heap.size + 1, 1, none⟩ (.slice vo4 m4 vc4)).heap[w.heap.size]? = some (bTab 0 (.slice none 0 0)) ∧ (w4.setCell ⟨w.heap.size + 1, 1, none⟩ (.slice vo4 m4 vc4)).heap[w.heap.size + 1]? = some (bTab b (.slice vo4 m4 vc4)) ∧ w.heap.size + 2 ≤ w4.heap.size ∧ (insP ⟨nm, sz, wt, fr⟩ ps).length = m4) :=
            ⟨ownsRow_setCell_below (own_mono hown4 H3.out.2.2.2.2) (by show w.heap.size + 1 < _; omega) _, (nx_trans H3.out.2.1 hb4).setCell (Nat.le_succ _) _, (Below.heap_setCell _ _ _ _ (by show w.heap.size ≠ w.heap.size + 1; omega)).trans hh0, set_heap _ _ _ _ _ _ hh1, Nat.le_trans H3.out.2.2.2.2 hb4.size, hm4⟩
          clear hb4 hh0 hh1 hown4 hm4 k0 k1
          go_wp2_with fail
          go_roundw
          case rel => exact ⟨k + 1, m4, b, insP ⟨nm, sz, wt, fr⟩ ps, vo4, vc4, by omega, by go_num, by have := HM41.out; omega, ⟨HX.out, R.out.2.2.2.2.2⟩, ⟨R.out.2.2.1, R.out.2.2.2.1⟩, R.out.1, R.out.2.1, by simpa using R.out.2.2.2.2.1⟩
          case measure => simp [intOf]; omega
        · have hkb3 : ((l.kind : Int) == 3) = false := by simp; omega
          have HX : Hid (tabTo ls (k + 1) = (b, ps)) := by
            show _ = _
            rw [HT.out, HS.out.1, tabStep, if_neg hk1, if_neg hk3]
          subst hao
          clear hk1 hk3 HT hrow
          go_wp2_with fail
          go_roundw
          case rel => exact ⟨k + 1, m, b, ps, vo, vc, by omega, by go_num, by omega, ⟨HX.out, HS.out.2⟩, HH.out, hown, hbel, hz⟩
          case measure => simp [intOf]; omega
    · obtain rfl : k = n := by omega
      obtain ⟨r0, r1, zr⟩ := blk2 HH.out.1
      obtain ⟨e0, e1, ze⟩ := blk2 HH.out.2
      have HX : Hid (tabTo ls k = (b, ps) ∧ ps.length = m ∧ wr.ownsRow w.heap.size 75 4 (.slice vo m vc) m (flatP ps) ∧ wr.ownsRow (w.heap.size + 2) 75 4 (.slice vo m vc) m (flatP ps) ∧ Below w.heap.size w wr) := ⟨HS.out.1, HS.out.2, own_mono hown (by omega), hown, hbel⟩
      clear hown hbel
      go_wp2_with fail
      refine bodyPost_ret (v := .agg #[.int .i64 b, .slice vo m vc]) (by simp [results, Tryz.results73, go_sem, r0, r1]) rfl ⟨vo, vc, ?_, ?_, ?_⟩
      · rw [HX.out.1]; simp only; rw [HX.out.2.1]
      · rw [HX.out.1]; simp only; rw [HX.out.2.1]
        exact own_mono (ownsRow_setCell_below (ownsRow_setCell_below HX.out.2.2.2.1 (by show w.heap.size < _; omega) _) (by show w.heap.size < _; omega) _) (by omega)
      · exact (HX.out.2.2.2.2.setCell (Nat.le_refl _) _).setCell (Nat.le_refl _) _
end Co
end Go.Proofs.YtohbonfngeblkaaGreat
namespace Go.Proofs.YtohbonfngeblkaaGreat
open Go.RowKit
namespace Lw
open Co
structure Srv where
  id : Int
  pool : ByteArray
  far : Int
  client : Int
structure Wtr where
  client : Int
  pool : ByteArray
structure Stp where
  kind : Int
  name : ByteArray
  n : Int
def fSv (x : Srv) : List Value := [.int .i64 x.id, .string x.pool, .int .i64 x.far, .int .i64 x.client]
def fWt (x : Wtr) : List Value := [.int .i64 x.client, .string x.pool]
def fSt (x : Stp) : List Value := [.int .i64 x.kind, .string x.name, .int .i64 x.n]
def flatV (l : List Srv) : List Value := l.flatMap fSv
def flatW (l : List Wtr) : List Value := l.flatMap fWt
def flatT (l : List Stp) : List Value := l.flatMap fSt
theorem fm_at {α : Type} (f : α → List Value) (k : Nat) (hf : ∀ x, (f x).length = k) : ∀ (l : List α) (i : Nat) (x : α), l[i]? = some x → ∀ j, j < k → (l.flatMap f)[i * k + j]? = (f x)[j]?
  | [], i, x, h, _, _ => by simp at h
  | y :: r, 0, x, h, j, hj => by
    simp at h; subst h
    rw [List.flatMap_cons, Nat.zero_mul, Nat.zero_add, List.getElem?_append_left (by rw [hf]; exact hj)]
  | y :: r, i + 1, x, h, j, hj => by
    have ih := fm_at f k hf r i x (by simpa using h) j hj
    rw [List.flatMap_cons, List.getElem?_append_right (by rw [hf, Nat.succ_mul]; omega), hf, ← ih]
    congr 1
    rw [Nat.succ_mul]; omega
theorem fm_len {α : Type} (f : α → List Value) (k : Nat) (hf : ∀ x, (f x).length = k) (l : List α) : (l.flatMap f).length = l.length * k := by
  induction l with
  | nil => simp
  | cons x r ih => rw [List.flatMap_cons, List.length_append, ih, hf, List.length_cons, Nat.succ_mul]; omega
theorem fm_one {α : Type} (f : α → List Value) (hf : ∀ x, ∀ u ∈ f x, u.oneCell' = true) (l : List α) : ∀ u ∈ l.flatMap f, u.oneCell' = true := by
  intro u hu
  obtain ⟨x, _, hx⟩ := List.mem_flatMap.1 hu
  exact hf x u hx
theorem row_get {α : Type} {f : α → List Value} {k : Nat} (hf : ∀ x, (f x).length = k) {w : World} {ao : Option Addr} {n m cap : Nat} {l : List α} (h : RowAt w (.slice ao n cap) m (l.flatMap f)) {i : Nat} {x : α} (hi : l[i]? = some x) (hk : 0 < k) :
    ∃ b off, ao = some ⟨b, off, none⟩ ∧ b < w.heap.size ∧ ∀ j v, (f x)[j]? = some v → w.cell? ⟨b, off + (i * k + j), none⟩ = some v := by
  have h0 : (l.flatMap f)[i * k + 0]? = some ((f x)[0]'(by rw [hf]; exact hk)) := by
    rw [fm_at f k hf l i x hi 0 hk, List.getElem?_eq_getElem]
  obtain ⟨b, off, e, hb, _⟩ := h.at h0
  refine ⟨b, off, e, hb, fun j v hj => ?_⟩
  have hjk : j < k := by rw [← hf x]; exact (List.getElem?_eq_some_iff.1 hj).1
  obtain ⟨b', off', e', _, g⟩ := h.at ((fm_at f k hf l i x hi j hjk).trans hj)
  rw [e] at e'
  obtain ⟨rfl, rfl⟩ : b = b' ∧ off = off' := by simpa using e'
  exact g
theorem sv_at {w : World} {ao : Option Addr} {n m cap : Nat} {l : List Srv} (h : RowAt w (.slice ao n cap) m (flatV l)) {i : Nat} {x : Srv} (hi : l[i]? = some x) :
    ∃ b off, ao = some ⟨b, off, none⟩ ∧ b < w.heap.size ∧ w.cell? ⟨b, off + i * 4, none⟩ = some (.int .i64 x.id) ∧ w.cell? ⟨b, off + i * 4 + 1, none⟩ = some (.string x.pool) ∧ w.cell? ⟨b, off + i * 4 + 2, none⟩ = some (.int .i64 x.far) ∧ w.cell? ⟨b, off + i * 4 + 3, none⟩ = some (.int .i64 x.client) := by
  obtain ⟨b, off, e, hb, g⟩ := row_get (f := fSv) (k := 4) (fun _ => rfl) h hi (by omega)
  exact ⟨b, off, e, hb, g 0 _ rfl, g 1 _ rfl, g 2 _ rfl, g 3 _ rfl⟩
theorem wt_at {w : World} {ao : Option Addr} {n m cap : Nat} {l : List Wtr} (h : RowAt w (.slice ao n cap) m (flatW l)) {i : Nat} {x : Wtr} (hi : l[i]? = some x) :
    ∃ b off, ao = some ⟨b, off, none⟩ ∧ b < w.heap.size ∧ w.cell? ⟨b, off + i * 2, none⟩ = some (.int .i64 x.client) ∧ w.cell? ⟨b, off + i * 2 + 1, none⟩ = some (.string x.pool) := by
  obtain ⟨b, off, e, hb, g⟩ := row_get (f := fWt) (k := 2) (fun _ => rfl) h hi (by omega)
  exact ⟨b, off, e, hb, g 0 _ rfl, g 1 _ rfl⟩
theorem st_at {w : World} {ao : Option Addr} {n m cap : Nat} {l : List Stp} (h : RowAt w (.slice ao n cap) m (flatT l)) {i : Nat} {x : Stp} (hi : l[i]? = some x) :
    ∃ b off, ao = some ⟨b, off, none⟩ ∧ b < w.heap.size ∧ w.cell? ⟨b, off + i * 3, none⟩ = some (.int .i64 x.kind) ∧ w.cell? ⟨b, off + i * 3 + 1, none⟩ = some (.string x.name) ∧ w.cell? ⟨b, off + i * 3 + 2, none⟩ = some (.int .i64 x.n) := by
  obtain ⟨b, off, e, hb, g⟩ := row_get (f := fSt) (k := 3) (fun _ => rfl) h hi (by omega)
  exact ⟨b, off, e, hb, g 0 _ rfl, g 1 _ rfl, g 2 _ rfl⟩
structure Chg (F : Nat → Prop) (w w' : World) : Prop where
  os : w'.os = w.os
  tape : w'.tape = w.tape
  output : w'.output = w.output
  size : w.heap.size ≤ w'.heap.size
  block : ∀ b, b < w.heap.size → ¬ F b → w'.heap[b]? = w.heap[b]?
theorem Chg.of_below {w w' : World} {F : Nat → Prop} (h : Below w.heap.size w w') : Chg F w w' := ⟨h.os, h.tape, h.output, h.size, fun b hb _ => h.block b hb⟩
theorem Chg.refl (F : Nat → Prop) (w : World) : Chg F w w := ⟨rfl, rfl, rfl, Nat.le_refl _, fun _ _ _ => rfl⟩
theorem Chg.trans {F G : Nat → Prop} {a b c : World} (h : Chg F a b) (k : Chg G b c) (hG : ∀ x, G x → F x ∨ a.heap.size ≤ x) : Chg F a c :=
  ⟨k.os.trans h.os, k.tape.trans h.tape, k.output.trans h.output, Nat.le_trans h.size k.size, fun x hx hF => (k.block x (Nat.lt_of_lt_of_le hx h.size) (fun hg => (hG x hg).elim hF (fun h1 => by omega))).trans (h.block x hx hF)⟩
theorem Chg.mono {F G : Nat → Prop} {a b : World} (h : Chg F a b) (hF : ∀ x, F x → G x) : Chg G a b := ⟨h.os, h.tape, h.output, h.size, fun x hx hg => h.block x hx (fun hf => hg (hF x hf))⟩
theorem Chg.below {F : Nat → Prop} {a b : World} (h : Chg F a b) {B : Nat} (hB : B ≤ a.heap.size) (hF : ∀ x, F x → B ≤ x) : Below B a b :=
  ⟨h.os, h.tape, h.output, h.size, fun x hx => h.block x (Nat.lt_of_lt_of_le hx hB) (fun hf => by have := hF x hf; omega)⟩
theorem Chg.set {F : Nat → Prop} (w : World) (g a : Nat) (v : Value) (hF : F g) : Chg F w (w.setCell ⟨g, a, none⟩ v) := by
  have h := (Below.refl 0 w).setCell (Nat.zero_le (⟨g, a, none⟩ : Addr).block) v
  refine ⟨h.os, h.tape, h.output, h.size, fun b hb hb2 => ?_⟩
  exact Below.heap_setCell _ _ _ _ (fun e => hb2 (by rw [show b = g from e]; exact hF))
end Lw
end Go.Proofs.YtohbonfngeblkaaGreat
namespace Go.Proofs.YtohbonfngeblkaaGreat
open Go.RowKit
namespace Lw
open Co
structure Sta where
  bud : Int
  pools : List Pl
  srv : List Srv
  wts : List Wtr
  plan : List Stp
  begun : Bool
  back : Bool
structure Stv where
  po : Option Addr
  pc : Nat
  so : Option Addr
  sc : Nat
  wo : Option Addr
  wc : Nat
  to : Option Addr
  tc : Nat
abbrev staA (S : Sta) (v : Stv) : Value := .agg #[.int .i64 S.bud, .slice v.po S.pools.length v.pc, .slice v.so S.srv.length v.sc, .slice v.wo S.wts.length v.wc, .slice v.to S.plan.length v.tc, .bool S.begun, .bool S.back]
abbrev bSta (S : Sta) (v : Stv) : Obj := .cells #[.int .i64 S.bud, .slice v.po S.pools.length v.pc, .slice v.so S.srv.length v.sc, .slice v.wo S.wts.length v.wc, .slice v.to S.plan.length v.tc, .bool S.begun, .bool S.back] 33
structure StaAt (w : World) (S : Sta) (v : Stv) : Prop where
  p : RowAt w (.slice v.po S.pools.length v.pc) S.pools.length (flatP S.pools)
  s : RowAt w (.slice v.so S.srv.length v.sc) S.srv.length (flatV S.srv)
  t : RowAt w (.slice v.wo S.wts.length v.wc) S.wts.length (flatW S.wts)
  l : RowAt w (.slice v.to S.plan.length v.tc) S.plan.length (flatT S.plan)
theorem StaAt.nx {w w' : World} {S : Sta} {v : Stv} (h : StaAt w S v) (hb : Below w.heap.size w w') : StaAt w' S v := ⟨h.p.nx hb, h.s.nx hb, h.t.nx hb, h.l.nx hb⟩
structure Small (S : Sta) : Prop where
  p : S.pools.length ≤ maxLen
  s : S.srv.length ≤ maxLen
  t : S.wts.length ≤ maxLen
  l : S.plan.length ≤ maxLen
theorem blk7 {W w3 : World} {B : Nat} (hb : Below B W w3) {g : Nat} (hg : g < B) {c0 c1 c2 c3 c4 c5 c6 : Value} {t : TypeId} (h : W.heap[g]? = some (.cells #[c0, c1, c2, c3, c4, c5, c6] t (0, 0))) :
    w3.cell? ⟨g, 0, none⟩ = some c0 ∧ w3.cell? ⟨g, 1, none⟩ = some c1 ∧ w3.cell? ⟨g, 2, none⟩ = some c2 ∧ w3.cell? ⟨g, 3, none⟩ = some c3 ∧ w3.cell? ⟨g, 4, none⟩ = some c4 ∧ w3.cell? ⟨g, 5, none⟩ = some c5 ∧ w3.cell? ⟨g, 6, none⟩ = some c6 := by
  have h' : w3.heap[g]? = some (.cells #[c0, c1, c2, c3, c4, c5, c6] t (0, 0)) := (hb.block g hg).trans h
  refine ⟨?_, ?_, ?_, ?_, ?_, ?_, ?_⟩ <;> simp [World.cell?, h']
end Lw
end Go.Proofs.YtohbonfngeblkaaGreat
namespace Go.Proofs.YtohbonfngeblkaaGreat
open Go.RowKit
namespace Lw
open Co
end Lw
end Go.Proofs.YtohbonfngeblkaaGreat
namespace Go.Proofs.YtohbonfngeblkaaGreat
open Go.RowKit
namespace Lw
open Co
def optI : Option Nat → Int
  | none => -1
  | some i => (i : Int)
theorem find_hit {α : Type} {p : α → Bool} {l : List α} {k : Nat} {x : α} (hn : ∀ y ∈ l.take k, p y = false) (hx : l[k]? = some x) (hp : p x = true) : l.findIdx? p = some k := by
  obtain ⟨hk, e⟩ := List.getElem?_eq_some_iff.1 hx
  rw [List.findIdx?_eq_some_iff_getElem]
  refine ⟨hk, by rw [e]; exact hp, fun j hj => ?_⟩
  have : l[j]'(by omega) ∈ l.take k := by
    rw [List.mem_take_iff_getElem]
    exact ⟨j, by omega, rfl⟩
  rw [hn _ this]
  simp
theorem find_miss {α : Type} {p : α → Bool} {l : List α} (hn : ∀ y ∈ l, p y = false) : l.findIdx? p = none := by
  rw [List.findIdx?_eq_none_iff]
  exact hn
theorem take_next {α : Type} {p : α → Bool} {l : List α} {k : Nat} {x : α} (hn : ∀ y ∈ l.take k, p y = false) (hx : l[k]? = some x) (hp : p x = false) : ∀ y ∈ l.take (k + 1), p y = false := by
  obtain ⟨hk, e⟩ := List.getElem?_eq_some_iff.1 hx
  intro y hy
  rw [List.take_succ_eq_append_getElem hk, e] at hy
  rcases List.mem_append.1 hy with h | h
  · exact hn y h
  · simp at h; subst h; exact hp
def cntG {α : Type} (p : α → Bool) (l : List α) : Nat := (l.filter p).length
theorem cntG_next {α : Type} {p : α → Bool} {l : List α} {k : Nat} {x : α} (hx : l[k]? = some x) : cntG p (l.take (k + 1)) = cntG p (l.take k) + if p x = true then 1 else 0 := by
  obtain ⟨hk, e⟩ := List.getElem?_eq_some_iff.1 hx
  unfold cntG
  rw [List.take_succ_eq_append_getElem hk, List.filter_append, e, List.length_append]
  cases hp : p x <;> simp [hp]
def isPoolV (pool : ByteArray) (x : Srv) : Bool := x.pool.toList == pool.toList
def isPoolW (pool : ByteArray) (x : Wtr) : Bool := x.pool.toList == pool.toList
def isNameP (name : ByteArray) (x : Pl) : Bool := x.nm.toList == name.toList
def isCliV (c : Int) (x : Srv) : Bool := x.client == c
def isCliW (c : Int) (x : Wtr) : Bool := x.client == c
def isIdle (pool : ByteArray) (all : Bool) (x : Srv) : Bool := (x.client == 0) && (all || x.pool.toList == pool.toList)
structure Hom where
  bud : Int
  len : Nat
  ho : Option Addr
  hc : Nat
abbrev wA (S : Sta) (v : Stv) (nx : Int) (h : Hom) : Value := .agg #[.int .i64 S.bud, .slice v.po S.pools.length v.pc, .slice v.so S.srv.length v.sc, .slice v.wo S.wts.length v.wc, .slice v.to S.plan.length v.tc, .bool S.begun, .bool S.back, .int .i64 nx, .int .i64 h.bud, .slice h.ho h.len h.hc]
end Lw
end Go.Proofs.YtohbonfngeblkaaGreat
namespace Go.Proofs.YtohbonfngeblkaaGreat
open Go.RowKit
namespace Lw
open Co
def rLeft (S : Sta) (i : Nat) : Sta := { S with wts := S.wts.eraseIdx i }
def rClosed (S : Sta) (i : Nat) : Sta := { S with srv := S.srv.eraseIdx i }
def rOpened (S : Sta) (nx : Int) (x : Pl) (client : Int) : Sta := { S with srv := S.srv ++ [⟨nx, x.nm, x.fr, client⟩] }
def rSet (S : Sta) (k : Nat) (c : Int) : Sta := { S with srv := S.srv.modify k (fun x => { x with client := c }) }
def rRoom (S : Sta) : Option (Option Nat) := if (S.srv.length : Int) < S.bud then some none else match S.srv.findIdx? (isIdle ⟨#[]⟩ true) with | none => none | some k => some (some k)
def rLent (S : Sta) (nx : Int) (i : Nat) (c : Wtr) : Option (Sta × Int) :=
  match S.pools.find? (isNameP c.pool) with
  | none => none
  | some x => match S.srv.findIdx? (isIdle c.pool false) with
    | some k => some (rSet (rLeft S i) k c.client, nx)
    | none => if x.sz ≤ (cntG (isPoolV c.pool) S.srv : Int) ∨ S.bud < (S.srv.length : Int) then none
      else match rRoom S with
        | none => none
        | some none => some (rOpened (rLeft S i) nx x c.client, nx + 1)
        | some (some k) => some (rOpened (rClosed (rLeft S i) k) nx x c.client, nx + 1)
def rFirst (S : Sta) (nx : Int) : Nat → List Wtr → Option (Sta × Int)
  | _, [] => none
  | i, c :: r => match rLent S nx i c with | some y => some y | none => rFirst S nx (i + 1) r
def rServed : Nat → Sta → Int → Sta × Int
  | 0, S, nx => (S, nx)
  | f + 1, S, nx => match rFirst S nx 0 S.wts with | none => (S, nx) | some y => rServed f y.1 y.2
def cHand (S : Sta) (id c : Int) : Sta := { S with srv := S.srv.map fun x => if x.id = id then { x with client := c } else x }
def cShut (S : Sta) (id : Int) : Sta := { S with srv := S.srv.filter fun x => !decide (x.id = id) }
def cQuit (S : Sta) (c : Int) : Sta := { S with wts := S.wts.filter fun x => !decide (x.client = c) }
def cOpen (S : Sta) (op : Int) (x : Pl) (c : Int) : Sta := { S with srv := S.srv ++ [⟨op + 1, x.nm, x.fr, c⟩] }
def cGive (S : Sta) (op : Int) (c : Wtr) : Option (Sta × Int) :=
  match S.pools.find? (isNameP c.pool) with
  | none => none
  | some x => match S.srv.find? (fun s => isPoolV x.nm s && isCliV 0 s) with
    | some s => some (cHand S s.id c.client, op)
    | none => if x.sz ≤ (cntG (isPoolV x.nm) S.srv : Int) then none
      else if (S.srv.length : Int) < S.bud then some (cOpen S op x c.client, op + 1)
      else match S.srv.find? (isCliV 0) with
        | none => none
        | some s => if S.bud < (S.srv.length : Int) then none else some (cOpen (cShut S s.id) op x c.client, op + 1)
def cFirst (S : Sta) (op : Int) : List Wtr → Option (Sta × Int)
  | [] => none
  | c :: r => match cGive S op c with | some y => some (cQuit y.1 c.client, y.2) | none => cFirst S op r
def cServe : Nat → Sta → Int → Sta × Int
  | 0, S, op => (S, op)
  | f + 1, S, op => match cFirst S op S.wts with | none => (S, op) | some y => cServe f y.1 y.2
structure Inv (S : Sta) (op : Int) : Prop where
  ids : S.srv.Pairwise (fun a b => a.id < b.id)
  low : ∀ x ∈ S.srv, 1 ≤ x.id ∧ x.id ≤ op
  op0 : 0 ≤ op
  cli : S.wts.Pairwise (fun a b => a.client ≠ b.client)
theorem ba_ext' {a b : ByteArray} (h : a.toList = b.toList) : a = b := by
  rw [ByteArray.toList_eq, ByteArray.toList_eq] at h
  cases a; cases b
  simp at h
  rw [h]
theorem find_name {S : Sta} {n : ByteArray} {x : Pl} (h : S.pools.find? (isNameP n) = some x) : x.nm = n := by
  have := List.find?_some h
  simp only [isNameP, beq_iff_eq] at this
  exact ba_ext' this
theorem find_idx {α : Type} (p : α → Bool) : ∀ l : List α, (∀ k, l.findIdx? p = some k → ∃ x, l[k]? = some x ∧ l.find? p = some x) ∧ (l.findIdx? p = none → l.find? p = none)
  | [] => by simp
  | y :: r => by
    obtain ⟨h1, h2⟩ := find_idx p r
    cases hp : p y with
    | true =>
      refine ⟨fun k hk => ?_, fun h => ?_⟩
      · simp [List.findIdx?_cons, hp] at hk
        subst hk
        exact ⟨y, rfl, by simp [hp]⟩
      · simp [List.findIdx?_cons, hp] at h
    | false =>
      refine ⟨fun k hk => ?_, fun h => ?_⟩
      · simp only [List.findIdx?_cons, hp] at hk
        cases hr : r.findIdx? p with
        | none => rw [hr] at hk; simp at hk
        | some j =>
          rw [hr] at hk
          simp at hk
          subst hk
          obtain ⟨x, hx, hx2⟩ := h1 j hr
          exact ⟨x, by simpa using hx, by simp [hp, hx2]⟩
      · simp only [List.findIdx?_cons, hp] at h
        have : r.findIdx? p = none := by
          cases hr : r.findIdx? p with
          | none => rfl
          | some j => rw [hr] at h; simp at h
        simp [hp, h2 this]
theorem hand_place : ∀ (l : List Srv), l.Pairwise (fun a b => a.id < b.id) → ∀ (k : Nat) (s : Srv) (c : Int), l[k]? = some s → (l.map fun x => if x.id = s.id then { x with client := c } else x) = l.modify k (fun x => { x with client := c })
  | [], _, k, s, c, h => by simp at h
  | y :: r, hp, 0, s, c, h => by
    simp at h; subst h
    have h1 := (List.pairwise_cons.1 hp).1
    simp only [List.map_cons, if_true, List.modify_zero_cons]
    congr 1
    refine (List.map_congr_left (fun x hx => ?_)).trans (List.map_id _)
    rw [if_neg (by have := h1 x hx; omega)]
    rfl
  | y :: r, hp, k + 1, s, c, h => by
    have h1 := (List.pairwise_cons.1 hp).1
    have hs : s ∈ r := List.mem_of_getElem? (by simpa using h)
    have ih := hand_place r (List.pairwise_cons.1 hp).2 k s c (by simpa using h)
    simp only [List.map_cons, List.modify_succ_cons]
    rw [ih, if_neg (by have := h1 s hs; omega)]
theorem shut_place : ∀ (l : List Srv), l.Pairwise (fun a b => a.id < b.id) → ∀ (k : Nat) (s : Srv), l[k]? = some s → (l.filter fun x => !decide (x.id = s.id)) = l.eraseIdx k
  | [], _, k, s, h => by simp at h
  | y :: r, hp, 0, s, h => by
    simp at h; subst h
    have h1 := (List.pairwise_cons.1 hp).1
    simp only [List.filter_cons, decide_true, Bool.not_true, Bool.false_eq_true, if_false, List.eraseIdx_zero, List.tail_cons]
    refine List.filter_eq_self.2 (fun x hx => ?_)
    have := h1 x hx
    simp; omega
  | y :: r, hp, k + 1, s, h => by
    have h1 := (List.pairwise_cons.1 hp).1
    have hs : s ∈ r := List.mem_of_getElem? (by simpa using h)
    have ih := shut_place r (List.pairwise_cons.1 hp).2 k s (by simpa using h)
    have := h1 s hs
    rw [List.filter_cons, if_pos (by simp; omega), ih]
    rfl
theorem quit_place : ∀ (l : List Wtr), l.Pairwise (fun a b => a.client ≠ b.client) → ∀ (k : Nat) (s : Wtr), l[k]? = some s → (l.filter fun x => !decide (x.client = s.client)) = l.eraseIdx k
  | [], _, k, s, h => by simp at h
  | y :: r, hp, 0, s, h => by
    simp at h; subst h
    have h1 := (List.pairwise_cons.1 hp).1
    simp only [List.filter_cons, decide_true, Bool.not_true, Bool.false_eq_true, if_false, List.eraseIdx_zero, List.tail_cons]
    refine List.filter_eq_self.2 (fun x hx => ?_)
    have := h1 x hx
    simp; omega
  | y :: r, hp, k + 1, s, h => by
    have h1 := (List.pairwise_cons.1 hp).1
    have hs : s ∈ r := List.mem_of_getElem? (by simpa using h)
    have ih := quit_place r (List.pairwise_cons.1 hp).2 k s (by simpa using h)
    have := h1 s hs
    rw [List.filter_cons, if_pos (by simp; omega), ih]
    rfl
theorem give_lent {S : Sta} {op : Int} (hI : Inv S op) {i : Nat} {c : Wtr} (hi : S.wts[i]? = some c) :
    (cGive S op c).map (fun y => (cQuit y.1 c.client, y.2 + 1)) = rLent S (op + 1) i c := by
  have hq : ∀ T : Sta, T.wts = S.wts → cQuit T c.client = rLeft T i := by
    intro T hT
    unfold cQuit rLeft
    rw [hT, quit_place S.wts hI.cli i c hi]
  unfold cGive rLent
  cases hf : S.pools.find? (isNameP c.pool) with
  | none => rfl
  | some x =>
    have hx := find_name hf
    have hp : (fun s => isPoolV x.nm s && isCliV 0 s) = isIdle c.pool false := by
      funext s
      simp only [isPoolV, isCliV, isIdle, hx, Bool.false_or]
      exact Bool.and_comm _ _
    have hp2 : isCliV 0 = isIdle ⟨#[]⟩ true := by
      funext s
      simp [isCliV, isIdle]
    simp only
    rw [hp, hp2, hx]
    obtain ⟨f1, f2⟩ := find_idx (isIdle c.pool false) S.srv
    cases hk : S.srv.findIdx? (isIdle c.pool false) with
    | some k =>
      obtain ⟨s, hs, hs2⟩ := f1 k hk
      rw [hs2]
      simp only [Option.map_some]
      congr 2
      unfold cQuit cHand rSet rLeft
      rw [quit_place S.wts hI.cli i c hi, hand_place S.srv hI.ids k s c.client hs]
    | none =>
      rw [f2 hk]
      simp only
      by_cases hz : x.sz ≤ (cntG (isPoolV c.pool) S.srv : Int)
      · rw [if_pos hz, if_pos (.inl hz)]; rfl
      · rw [if_neg hz]
        by_cases hb : (S.srv.length : Int) < S.bud
        · rw [if_pos hb, if_neg (by omega)]
          unfold rRoom
          rw [if_pos hb]
          simp only [Option.map_some]
          congr 2
          unfold cQuit cOpen rOpened rLeft
          rw [quit_place S.wts hI.cli i c hi]
        · rw [if_neg hb]
          obtain ⟨g1, g2⟩ := find_idx (isIdle ⟨#[]⟩ true) S.srv
          cases hj : S.srv.findIdx? (isIdle ⟨#[]⟩ true) with
          | none =>
            rw [g2 hj]
            simp only [Option.map_none]
            split
            · rfl
            · unfold rRoom; rw [if_neg hb, hj]
          | some j =>
            obtain ⟨s, hs, hs2⟩ := g1 j hj
            rw [hs2]
            simp only
            by_cases hbb : S.bud < (S.srv.length : Int)
            · rw [if_pos hbb, if_pos (.inr hbb)]; rfl
            · rw [if_neg hbb, if_neg (by omega)]
              unfold rRoom
              rw [if_neg hb, hj]
              simp only [Option.map_some]
              congr 2
              unfold cQuit cOpen cShut rOpened rClosed rLeft
              rw [quit_place S.wts hI.cli i c hi, shut_place S.srv hI.ids j s hs]
end Lw
end Go.Proofs.YtohbonfngeblkaaGreat
