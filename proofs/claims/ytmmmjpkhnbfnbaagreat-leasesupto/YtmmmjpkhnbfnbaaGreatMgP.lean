import Derived.Test.YtmmmjpkhnbfnbaaGreatMgO
import Derived.Laws.OwnMore
import Derived.Lib.OwnKind
import Derived.Deep.AppendLies
import Derived.Maps.AppendAt
import Derived.Deep.RegionWith
import Derived.Deep.RegionLaw
namespace Go.Proofs.YtmmmjpkhnbfnbaaGreat
open Go.RowKit
namespace Lw
open Co

/-- the server with this Id, handed to a client -/
def handed (id c : Int) (x : Srv) : Srv := if x.id = id then { x with client := c } else x
def handTo (id c : Int) (ss : List Srv) (k : Nat) : List Srv := (ss.take k).map (handed id c) ++ ss.drop k

theorem flatV_set : ∀ (l : List Srv) (i : Nat) (x : Srv) (c : Int), l[i]? = some x → (flatV l).set (i * 4 + 3) (.int .i64 c) = flatV (l.set i { x with client := c })
  | [], i, x, c, h => by simp at h
  | y :: l, 0, x, c, h => by
    obtain rfl : y = x := by simpa using h
    rfl
  | y :: l, i + 1, x, c, h => by
    have ih := flatV_set l i x c (by simpa using h)
    have e : (i + 1) * 4 + 3 = (i * 4 + 3) + 1 + 1 + 1 + 1 := by omega
    rw [e]
    show fSv y ++ (flatV l).set (i * 4 + 3) (.int .i64 c) = fSv y ++ flatV (l.set i { x with client := c })
    rw [ih]

theorem handTo_at {ss : List Srv} {k : Nat} {x : Srv} (id c : Int) (h : ss[k]? = some x) : (handTo id c ss k)[k]? = some x ∧ handTo id c ss (k + 1) = (handTo id c ss k).set k (handed id c x) := by
  obtain ⟨hk, e⟩ := List.getElem?_eq_some_iff.1 h
  have hl : ((ss.take k).map (handed id c)).length = k := by simp; omega
  have hd : ss.drop k = x :: ss.drop (k + 1) := by rw [List.drop_eq_getElem_cons hk, e]
  unfold handTo
  constructor
  · rw [List.getElem?_append_right (by omega), hl, hd]; simp
  · rw [List.set_append_right _ _ (by omega), hl, hd, List.take_succ_eq_append_getElem hk, e]
    simp

theorem handTo_len (id c : Int) (ss : List Srv) (k : Nat) : (handTo id c ss k).length = ss.length := by
  simp [handTo]; omega

set_option maxRecDepth 20000 in
set_option maxHeartbeats 2000000 in
theorem hand_flat (B gp : Nat) (b : Int) (po : Option Addr) (n1 pc : Nat) (so : Option Addr) (n2 sc : Nat) (wo : Option Addr) (n3 wc : Nat) (op : Int) (q : WyV) (id c : Int) (ss : List Srv) (w : World) (hgp : w.heap[gp]? = some (bDesk b po n1 pc so n2 sc wo n3 wc op q)) (hr : w.ownsRow B 74 4 (.slice so n2 sc) n2 (flatV ss)) (hn : ss.length = n2) (hq : n2 ≤ 1099511627776) :
    Calls Tryz.prog 110 #[.pointer (some ⟨gp, 0, none⟩), .int .i64 id, .int .i64 c] w fun e w' => (∃ x, e = .returned x) ∧ w'.heap[gp]? = some (bDesk b po n1 pc so n2 sc wo n3 wc op q) ∧ w'.ownsRow B 74 4 (.slice so n2 sc) n2 (flatV (ss.map (handed id c))) ∧ Chg (fun y => (Value.slice so n2 sc).ownBlock = some y) w w' := by
  have HR : Hid (w.ownsRow B 74 4 (.slice so n2 sc) n2 (flatV ss) ∧ ss.length = n2 ∧ w.heap[gp]? = some (bDesk b po n1 pc so n2 sc wo n3 wc op q)) := ⟨hr, hn, hgp⟩
  clear hr hn hgp
  go_enter Tryz.func110, Tryz.ntmps110
  go_wp2_with fail
  go_loopw [6] (fun i wr => ∃ (k : Nat), k ≤ n2 ∧ i = .int .i64 k ∧ Hid (wr.heap[gp]? = some (bDesk b po n1 pc so n2 sc wo n3 wc op q) ∧ wr.ownsRow B 74 4 (.slice so n2 sc) n2 (flatV (handTo id c ss k)) ∧ Chg (fun y => (Value.slice so n2 sc).ownBlock = some y) w wr)) (fun i _ => n2 - (intOf i).toNat)
  case atStart => exact ⟨0, Nat.zero_le _, rfl, HR.out.2.2, by simpa [handTo] using HR.out.1, Chg.refl _ _⟩
  case round =>
    obtain ⟨k, hk, rfl, HS⟩ := hrel
    have hd := HS.out.1
    obtain ⟨g0, g1, g2, g3, g4, gz⟩ := blk5d hd
    by_cases hlt : k < n2
    · obtain ⟨⟨x0, x1, x2, x3⟩, hp⟩ : ∃ p, ss[k]? = some p := ⟨_, List.getElem?_eq_getElem (by rw [HR.out.2.1]; exact hlt)⟩
      have HA := handTo_at id c hp
      obtain ⟨bl, off, hao, hbl, c0, c1, c2, c3⟩ := sv_at (own_row HS.out.2.1) HA.1
      subst hao
      have HO : Hid (off = 0 ∧ gp ≠ bl) := by
        refine ⟨?_, ?_⟩
        · rcases HS.out.2.1.2 with ⟨h', _⟩ | ⟨g', cap', cur, h', _⟩
          · simp at h'
          · simp at h'; exact h'.1.2
        · intro e
          obtain ⟨cc, fz, hh⟩ := Go.Lib.ownsRow_kind HS.out.2.1 bl rfl
          rw [← e, HS.out.1] at hh
          simp [bDesk] at hh
      have hz : ∀ a, wr.frozen? ⟨bl, a, none⟩ = false := by
        have h := HS.out.2.1
        rw [HO.out.1] at h
        exact fun a => h.frozenAt a
      simp only at c0 c1 c2 c3
      have hlti : (k : Int) < (n2 : Int) := by omega
      have HB : Hid ((handTo id c ss k)[k]? = some ⟨x0, x1, x2, x3⟩ ∧ handTo id c ss (k + 1) = (handTo id c ss k).set k (handed id c ⟨x0, x1, x2, x3⟩)) := HA
      clear hp hd HA
      by_cases hc : x0 = id
      · have hcb : (x0 == id) = true := by rw [beq_iff_eq]; exact hc
        have HC : Hid (x0 = id) := hc
        clear hc
        go_wp2_with fail
        go_roundw
        case rel =>
          refine ⟨k + 1, by omega, by go_num, ?_, ?_, ?_⟩
          · exact (Below.heap_setCell _ _ _ _ HO.out.2).trans HS.out.1
          · have h := HS.out.2.1
            have e := HO.out.1
            subst e
            rw [HB.out.2, handed, if_pos HC.out, ← flatV_set _ _ _ _ HB.out.1]
            have := (h.stored (k * 4 + 3) (.int .i64 c)).1
            simpa using this
          · exact HS.out.2.2.trans (Chg.set (F := fun y => y = bl) wr bl _ _ rfl) (fun y hy => .inl (by rw [hy]; rfl))
        case measure => simp [intOf]; omega
      · have hcb : (x0 == id) = false := by rw [beq_eq_false_iff_ne]; exact hc
        have HC : Hid (¬ x0 = id) := hc
        clear hc
        go_wp2_with fail
        go_roundw
        case rel =>
          refine ⟨k + 1, by omega, by go_num, HS.out.1, ?_, HS.out.2.2⟩
          rw [HB.out.2, handed, if_neg HC.out]
          have : (handTo id c ss k).set k ⟨x0, x1, x2, x3⟩ = handTo id c ss k := by
            obtain ⟨hk', e⟩ := List.getElem?_eq_some_iff.1 HB.out.1
            rw [← e]; exact List.set_getElem_self hk'
          rw [this]
          exact HS.out.2.1
        case measure => simp [intOf]; omega
    · have HE : handTo id c ss k = ss.map (handed id c) := by
        have ht : ss.take k = ss := List.take_of_length_le (by rw [HR.out.2.1]; omega)
        have h2 : ss.drop k = [] := List.drop_eq_nil_of_le (by rw [HR.out.2.1]; omega)
        unfold handTo
        rw [ht, h2, List.append_nil]
      have HF : Hid (wr.heap[gp]? = some (bDesk b po n1 pc so n2 sc wo n3 wc op q) ∧ wr.ownsRow B 74 4 (.slice so n2 sc) n2 (flatV (ss.map (handed id c))) ∧ Chg (fun y => (Value.slice so n2 sc).ownBlock = some y) w wr) := by
        rw [← HE]; exact HS.out
      clear hd HE
      go_wp2_with fail
      refine bodyPost_end (v := .tuple #[]) (by simp [results, Tryz.results110, go_sem]) rfl ?_
      exact ⟨⟨_, rfl⟩, HF.out.1, HF.out.2.1, HF.out.2.2⟩

end Lw
end Go.Proofs.YtmmmjpkhnbfnbaaGreat
namespace Go.Proofs.YtmmmjpkhnbfnbaaGreat
open Go.RowKit
namespace Lw
open Co

/-- an append of one row or more onto a list of one's own: only its block has changed, and the list lies there or in a new block -/
theorem appendH {w : World} {ops : Array Oper} {rest : List Oper} {o : Oper} {a : Act} {Q : Exit → Act → World → Prop} (ty tyl : TypeId) (sz bytes : Nat) (z : Value) (hinfo : (Tryz.prog.info? ty).map (fun i => (i.zero, i.size, i.bytes)) = some (some z, sz, bytes)) (hund : Tryz.prog.underlying tyl = some (.slice ty)) (hzs : z.cells.size = sz) (hsz : 0 < sz) (hby : bytes ≤ 64)
    (hgd : o.guard = none) (s x : Operand) (ho : o.op = .call { callee := .builtin .append, args := #[s, x], argTypes := #[tyl, tyl] }) (base : Nat)
    (v : Value) (n : Nat) (xs : List Value) (hs : a.eval s = v) (hown : w.ownsRow base ty sz v n xs)
    (b off : Nat) (m c : Nat) (news : List Value) (hx : a.eval x = .slice (some ⟨b, off, none⟩) m c) (hnl : news.length = m * sz) (hrow : RowAt w (.slice (some ⟨b, off, none⟩) m c) m news) (hone : ∀ u ∈ news, u.oneCell' = true) (hm : 0 < m)
    (h6 : n + m ≤ 1099511627776) (hbase : base ≤ w.heap.size)
    (h : ∀ g cap w', w'.ownsRow base ty sz (.slice (some ⟨g, 0, none⟩) (n + m) cap) (n + m) (xs ++ news) → w.grownBy w' v.ownBlock → (v.ownBlock = some g ∨ g = w.heap.size) → wpList Tryz.prog ops Q rest (a.put o.dst (.slice (some ⟨g, 0, none⟩) (n + m) cap)) w') : wpList Tryz.prog ops Q (o :: rest) a w := by
  obtain ⟨t0, hi, hz0, hz1, hz2⟩ := info_parts hinfo
  refine wpList_plain hgd fun _ hK => wp_append_lies w s x tyl ho base ty t0 z sz bytes hund hi hz0 hz1 hz2 hzs hsz v n xs hs hown ⟨b, off, none⟩ m c news hx hnl ?_ hone hm (by unfold maxLen; omega) ?_ hbase _ rfl fun g cap w' h2 h3 h4 _ => hK _ _ (h g cap w' h2 h3 h4)
  · intro j u hj
    obtain ⟨b', off', e, _, g⟩ := hrow.at hj
    simp only [Option.some.injEq, Addr.mk.injEq, and_true] at e
    obtain ⟨rfl, rfl⟩ := e
    rw [show (⟨b, off, none⟩ : Addr).add j = ⟨b, off + j, none⟩ by unfold Addr.add; split <;> simp_all]
    exact g
  · have : (n + m) * bytes ≤ 1099511627776 * 64 := Nat.mul_le_mul h6 hby
    omega

theorem Chg.grown {F : Nat → Prop} {w w' : World} {row : Option Nat} (h : w.grownBy w' row) (hF : ∀ y, row = some y → F y) : Chg F w w' :=
  ⟨h.os, h.tape, h.output, h.size, fun y hy hf => h.block y hy (fun e => hf (hF y e.symm))⟩

set_option maxRecDepth 20000 in
set_option maxHeartbeats 2000000 in
theorem join_flat (B gp : Nat) (b : Int) (po : Option Addr) (n1 pc : Nat) (so : Option Addr) (n2 sc : Nat) (wo : Option Addr) (n3 wc : Nat) (op : Int) (q : WyV) (c : Int) (p : ByteArray) (ws : List Wtr) (w : World) (hgp : w.heap[gp]? = some (bDesk b po n1 pc so n2 sc wo n3 wc op q)) (hr : w.ownsRow B 76 2 (.slice wo n3 wc) n3 (flatW ws)) (hB : B ≤ w.heap.size) (hq : n3 + 1 ≤ 1099511627776) :
    Calls Tryz.prog 106 #[.pointer (some ⟨gp, 0, none⟩), .int .i64 c, .string p] w fun e w' => (∃ x, e = .returned x) ∧ ∃ g vc, w'.heap[gp]? = some (bDesk b po n1 pc so n2 sc (some ⟨g, 0, none⟩) (n3 + 1) vc op q) ∧ w'.ownsRow B 76 2 (.slice (some ⟨g, 0, none⟩) (n3 + 1) vc) (n3 + 1) (flatW (ws ++ [⟨c, p⟩])) ∧ Chg (fun y => y = gp ∨ (Value.slice wo n3 wc).ownBlock = some y) w w' ∧ ((Value.slice wo n3 wc).ownBlock = some g ∨ w.heap.size ≤ g) := by
  have hgplt : gp < w.heap.size := (Array.getElem?_eq_some_iff.1 hgp).1
  obtain ⟨g0, g1, g2, g3, g4, gz⟩ := blk5d hgp
  have HR : Hid (w.ownsRow B 76 2 (.slice wo n3 wc) n3 (flatW ws) ∧ w.heap[gp]? = some (bDesk b po n1 pc so n2 sc wo n3 wc op q)) := ⟨hr, hgp⟩
  clear hr hgp
  go_enter Tryz.func106, Tryz.ntmps106
  go_wp2_with (at_builtin; refine appendH 76 33 2 24 _ info_W Tryz.underlying33 rfl (by decide) (by decide) rfl (.tmp 10) (.tmp 14) rfl B _ n3 (flatW ws) rfl (HR.out.1.alloc _) w.heap.size 0 1 1 [.int .i64 c, .string p] rfl rfl (row_new w [.int .i64 c, .string p] _ 1 rfl) (by intro u hu; simp at hu; rcases hu with rfl | rfl <;> rfl) (by decide) (by omega) (by simp; omega) ?next)
  case next =>
    intro g cap w6 hown6 hg6 hor
    have HN : Hid (gp ≠ g ∧ w6.heap[gp]? = some (bDesk b po n1 pc so n2 sc wo n3 wc op q)) := by
      have hk : ∀ y, (Value.slice wo n3 wc).ownBlock = some y → gp ≠ y := by
        intro y hy e
        obtain ⟨cc, fz, hh⟩ := Go.Lib.ownsRow_kind HR.out.1 y hy
        rw [← e, HR.out.2] at hh
        simp [bDesk] at hh
      refine ⟨?_, ?_⟩
      · rcases hor with h | h
        · exact hk g h
        · (first | omega | (simp [World.alloc] at h; omega))
      · refine (hg6.block gp (by simp; omega) (fun e => hk gp e.symm rfl)).trans ?_
        exact ((nx_alloc w _).block gp hgplt).trans HR.out.2
    obtain ⟨k0, k1, k2, k3, k4, kz⟩ := blk5d HN.out.2
    have HK : Hid (w6.ownsRow B 76 2 (.slice (some ⟨g, 0, none⟩) (n3 + 1) cap) (n3 + 1) (flatW (ws ++ [⟨c, p⟩])) ∧ Chg (fun y => (Value.slice wo n3 wc).ownBlock = some y) w w6 ∧ ((Value.slice wo n3 wc).ownBlock = some g ∨ w.heap.size ≤ g)) := by
      refine ⟨?_, ?_, ?_⟩
      · unfold flatW
        rw [List.flatMap_append]
        exact hown6
      · exact (Chg.of_below (nx_alloc w _)).trans (Chg.grown (F := fun y => (Value.slice wo n3 wc).ownBlock = some y) hg6 (fun y hy => hy)) (fun y hy => .inl hy)
      · rcases hor with h | h
        · exact .inl h
        · exact .inr (by first | omega | (simp [World.alloc] at h; omega))
    clear hown6 hg6 hor g0 g1 g2 g3 g4 gz
    go_wp2_with fail
    refine bodyPost_end (v := .tuple #[]) (by simp [results, Tryz.results106, go_sem]) rfl ?_
    refine ⟨⟨_, rfl⟩, g, cap, ?_, ?_, ?_, HK.out.2.2⟩
    · exact set_heap _ _ _ _ _ _ HN.out.2
    · exact ownG_heap HK.out.1 (fun j hj => Below.heap_setCell _ _ _ _ (by show j ≠ gp; intro e; exact HN.out.1 (by have : g = j := by simpa [Value.ownBlock] using hj
                                                                                                                    omega)))
    · exact (HK.out.2.1.mono (fun y hy => .inr hy)).trans (Chg.set (F := fun y => y = gp) w6 gp 3 _ rfl) (fun y hy => .inl (.inl hy))

end Lw
end Go.Proofs.YtmmmjpkhnbfnbaaGreat
namespace Go.Proofs.YtmmmjpkhnbfnbaaGreat
open Go.RowKit
namespace Lw
open Co

theorem own_ne {g n c j gp : Nat} (hj : (Value.slice (some ⟨g, 0, none⟩) n c).ownBlock = some j) (h : gp ≠ g) : j ≠ gp := by
  have e : g = j := by simpa [Value.ownBlock] using hj
  omega

theorem blk4d {w : World} {g : Nat} {c0 c1 c2 c3 : Value} {t : TypeId} (h : w.heap[g]? = some (.cells #[c0, c1, c2, c3] t (0, 0))) :
    w.cell? ⟨g, 0, none⟩ = some c0 ∧ w.cell? ⟨g, 1, none⟩ = some c1 ∧ w.cell? ⟨g, 2, none⟩ = some c2 ∧ w.cell? ⟨g, 3, none⟩ = some c3 ∧ ∀ a, w.frozen? ⟨g, a, none⟩ = false := by
  refine ⟨?_, ?_, ?_, ?_, fun a => ?_⟩ <;> simp [World.cell?, World.frozen?, h]

set_option maxRecDepth 20000 in
set_option maxHeartbeats 2000000 in
theorem open_flat (B gp : Nat) (b : Int) (po : Option Addr) (n1 pc : Nat) (so : Option Addr) (n2 sc : Nat) (wo : Option Addr) (n3 wc : Nat) (op : Int) (q : WyV) (nm : ByteArray) (s1 s2 s3 : Int) (c : Int) (ss : List Srv) (w : World) (hgp : w.heap[gp]? = some (bDesk b po n1 pc so n2 sc wo n3 wc op q)) (hr : w.ownsRow B 74 4 (.slice so n2 sc) n2 (flatV ss)) (hB : B ≤ w.heap.size) (hq : n2 + 1 ≤ 1099511627776) (ho : 0 ≤ op ∧ op < 9223372036854775807) :
    Calls Tryz.prog 162 #[.pointer (some ⟨gp, 0, none⟩), .agg #[.string nm, .int .i64 s1, .int .i64 s2, .int .i64 s3], .int .i64 c] w fun e w' => (∃ x, e = .returned x) ∧ ∃ g vc, w'.heap[gp]? = some (bDesk b po n1 pc (some ⟨g, 0, none⟩) (n2 + 1) vc wo n3 wc (op + 1) q) ∧ w'.ownsRow B 74 4 (.slice (some ⟨g, 0, none⟩) (n2 + 1) vc) (n2 + 1) (flatV (ss ++ [⟨op + 1, nm, s3, c⟩])) ∧ Chg (fun y => y = gp ∨ (Value.slice so n2 sc).ownBlock = some y) w w' ∧ ((Value.slice so n2 sc).ownBlock = some g ∨ w.heap.size ≤ g) := by
  have hgplt : gp < w.heap.size := (Array.getElem?_eq_some_iff.1 hgp).1
  have hne : ¬ gp = w.heap.size := by omega
  have hA : ∀ o, (w.alloc o).heap[gp]? = some (bDesk b po n1 pc so n2 sc wo n3 wc op q) := fun o => ((nx_alloc w o).block gp hgplt).trans hgp
  have a3 : ∀ o, (w.alloc o).cell? ⟨gp, 4, none⟩ = some (.int .i64 op) := fun o => (blk5d (hA o)).2.2.2.2.1
  have az : ∀ o, (w.alloc o).frozen? ⟨gp, 4, none⟩ = false := fun o => (blk5d (hA o)).2.2.2.2.2 4
  go_enter Tryz.func162, Tryz.ntmps162
  go_upto_region 2 with fail
  have HW : Hid (∀ W0, W0 = ((w.setCell ⟨gp, 4, none⟩ (.int .i64 (op + 1))).alloc (Obj.cells #[.string nm, .int .i64 s1, .int .i64 s2, .int .i64 s3] 70)) → W0.heap.size = w.heap.size + 1 ∧ W0.heap[gp]? = some (bDesk b po n1 pc so n2 sc wo n3 wc (op + 1) q) ∧ W0.heap[w.heap.size]? = some (Obj.cells #[.string nm, .int .i64 s1, .int .i64 s2, .int .i64 s3] 70) ∧ W0.ownsRow B 74 4 (.slice so n2 sc) n2 (flatV ss) ∧ Chg (fun y => y = gp) w W0) := by
    rintro W0 rfl
    have hk : ∀ y, (Value.slice so n2 sc).ownBlock = some y → y ≠ gp := by
      intro y hy e
      obtain ⟨cc, fz, hh⟩ := Go.Lib.ownsRow_kind hr y hy
      rw [e, hgp] at hh
      simp [bDesk] at hh
    refine ⟨by simp, ?_, ?_, ?_, ?_⟩
    · exact ((nx_alloc _ _).block gp (by simp; omega)).trans (set_heap _ _ _ _ _ _ hgp)
    · exact heap_alloc_at _ _ (by simp)
    · exact (ownG_heap hr (fun j hj => Below.heap_setCell _ _ _ _ (hk j hj))).alloc _
    · exact (Chg.set (F := fun y => y = gp) w gp 4 _ rfl).trans (Chg.of_below (F := fun y => y = gp) (nx_alloc _ _)) (fun y hy => .inl hy)
  generalize hW : World.alloc (w.setCell ⟨gp, 4, none⟩ (.int .i64 (op + 1))) _ = W0
  have H0 := hideIt (HW.out W0 hW.symm)
  clear HW hW hA a3 az hr hgp
  obtain ⟨hs0, hd0, hb0, ho0, hc0⟩ := H0.out
  have dA : ∀ o, (W0.alloc o).cell? ⟨gp, 4, none⟩ = some (.int .i64 (op + 1)) := fun o => (blk5d (((nx_alloc W0 o).block gp (by omega)).trans hd0)).2.2.2.2.1
  have bA : ∀ o, (W0.alloc o).heap[w.heap.size]? = some (Obj.cells #[.string nm, .int .i64 s1, .int .i64 s2, .int .i64 s3] 70) := fun o => ((nx_alloc W0 o).block w.heap.size (by omega)).trans hb0
  have b0 := (blk4d hb0).1
  have b3 := (blk4d hb0).2.2.2.1
  have c0 := fun o => (blk4d (bA o)).1
  have c3 := fun o => (blk4d (bA o)).2.2.2.1
  have d0 := (blk5d hd0).2.2.2.2.1
  clear hs0 hd0 hb0 ho0 hc0 bA
  go_region
  have HV : Hid (∀ W1, W1 = (W0.alloc (Obj.cells #[.int .i64 (op + 1), .string nm, .int .i64 s3, .int .i64 c] 74)).drew → W1.heap.size = W0.heap.size + 1 ∧ W1.heap[gp]? = some (bDesk b po n1 pc so n2 sc wo n3 wc (op + 1) q) ∧ W1.heap[W0.heap.size]? = some (Obj.cells #[.int .i64 (op + 1), .string nm, .int .i64 s3, .int .i64 c] 74) ∧ W1.ownsRow B 74 4 (.slice so n2 sc) n2 (flatV ss) ∧ Chg (fun y => y = gp) w W1) := by
    rintro W1 rfl
    obtain ⟨hs0, hd0, hb0, ho0, hc0⟩ := H0.out
    have hX : Chg (fun y => y = gp) w (W0.alloc (Obj.cells #[.int .i64 (op + 1), .string nm, .int .i64 s3, .int .i64 c] 74)) := hc0.trans (Chg.of_below (F := fun y => y = gp) (nx_alloc _ _)) (fun y hy => .inl hy)
    refine ⟨by show (W0.alloc _).heap.size = _; simp, ?_, ?_, (ho0.alloc _).drew, ⟨hX.os, hX.tape, hX.output, hX.size, hX.block⟩⟩
    · exact ((nx_alloc W0 _).block gp (by omega)).trans hd0
    · exact heap_alloc_at W0 _ rfl
  generalize hV : World.drew (W0.alloc _) = W1
  have H1 := hideIt (HV.out W1 hV.symm)
  clear HV hV dA b0 b3 c0 c3 d0
  obtain ⟨hs1, hd1, hb1, ho1, hc1⟩ := H1.out
  have hs0 := H0.out.1
  obtain ⟨e0, e1, e2, e3, e4⟩ := blk4d hb1
  have f2 := (blk5d hd1).2.2.1
  have fA : ∀ o, (W1.alloc o).cell? ⟨gp, 2, none⟩ = some (.slice so n2 sc) := fun o => (blk5d (((nx_alloc W1 o).block gp (by omega)).trans hd1)).2.2.1
  have HK : Hid (∀ y, (Value.slice so n2 sc).ownBlock = some y → gp ≠ y) := by
    intro y hy e
    obtain ⟨cc, fz, hh⟩ := Go.Lib.ownsRow_kind H1.out.2.2.2.1 y hy
    rw [← e, H1.out.2.1] at hh
    simp [bDesk] at hh
  have hle : w.heap.size + 2 ≤ W1.heap.size := by omega
  clear hd1 hb1 hc1 hs0 hs1
  obtain ⟨t0, hi, hz0, hz1, hz2⟩ := info_parts info_V
  go_upto_region 3 with fail
  go_region_law
    ((refine step_append_lies _ (by rfl) (.tmp 28) (.tmp 30) 32 (by rfl) B 74 t0 _ 4 40 Tryz.underlying32 hi hz0 hz1 hz2 (by rfl) (by decide) _ n2 (flatV ss) (by rfl) (ho1.alloc _) ⟨W1.heap.size, 0, none⟩ 1 1 [.int .i64 (op + 1), .string nm, .int .i64 s3, .int .i64 c] (by rfl) (by rfl) (cells_new _ [.int .i64 (op + 1), .string nm, .int .i64 s3, .int .i64 c] _) (by intro u hu; simp at hu; rcases hu with rfl | rfl | rfl | rfl <;> rfl) (by omega) (by unfold maxLen; omega) (by omega) (by simp; omega) (W1.heap.size + 1) (by simp) ?_; intro g6 cap6 w6 hown6 hgrow6 hat6 hlt6; have q6 := (hgrow6.block gp (by simp; omega) (fun e => HK.out gp e.symm rfl)).trans (((nx_alloc W1 _).block gp (by omega)).trans H1.out.2.1); obtain ⟨q0, q1, q2, q3, q4, qz⟩ := blk5d q6))
  all_goals
    have HX : Hid (w6.ownsRow B 74 4 (.slice (some ⟨g6, 0, none⟩) (n2 + 1) cap6) (n2 + 1) (flatV (ss ++ [⟨op + 1, nm, s3, c⟩])) ∧ Chg (fun y => y = gp ∨ (Value.slice so n2 sc).ownBlock = some y) w w6 ∧ ((Value.slice so n2 sc).ownBlock = some g6 ∨ w.heap.size ≤ g6) ∧ gp ≠ g6 ∧ w6.heap[gp]? = some (bDesk b po n1 pc so n2 sc wo n3 wc (op + 1) q)) := by
      refine ⟨?_, ?_, ?_, ?_, q6⟩
      · unfold flatV
        rw [List.flatMap_append]
        exact hown6
      · have h1 := H1.out.2.2.2.2.trans (Chg.of_below (F := fun y => y = gp) (nx_alloc W1 (Obj.cells #[.int .i64 (op + 1), .string nm, .int .i64 s3, .int .i64 c] 74))) (fun y hy => .inl hy)
        have h2 := Chg.grown (F := fun y => (Value.slice so n2 sc).ownBlock = some y) hgrow6 (fun y hy => hy)
        exact (h1.mono (fun y hy => .inl hy)).trans (G := fun y => (Value.slice so n2 sc).ownBlock = some y) ⟨h2.os, h2.tape, h2.output, h2.size, h2.block⟩ (fun y hy => .inl (.inr hy))
      · rcases hat6 with h | h
        · exact .inl h
        · exact .inr (by omega)
      · rcases hat6 with h | h
        · exact HK.out g6 h
        · omega
    clear hown6 hgrow6 hat6 q0 q1 q2 q3 q4 qz q6
    refine bodyPost_end (v := .tuple #[]) (by simp [results, Tryz.results162, go_sem]) rfl ?_
    refine ⟨⟨_, rfl⟩, g6, cap6, ?_, ?_, ?_, HX.out.2.2.1⟩
    · exact set_heap _ _ _ _ _ _ HX.out.2.2.2.2
    · exact ownG_heap HX.out.1 (fun j hj => Below.heap_setCell _ _ _ _ (by show j ≠ gp; exact own_ne hj HX.out.2.2.2.1))
    · exact HX.out.2.1.trans (Chg.set (F := fun y => y = gp) w6 gp 2 _ rfl) (fun y hy => .inl (.inl hy))
end Lw
end Go.Proofs.YtmmmjpkhnbfnbaaGreat
