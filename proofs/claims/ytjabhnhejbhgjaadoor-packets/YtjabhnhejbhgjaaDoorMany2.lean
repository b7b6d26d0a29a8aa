import Derived.Test.YtjabhnhejbhgjaaDoorRefParse
import Derived.Test.YtjabhnhejbhgjaaDoorToldWalk
import Derived.Test.YtjabhnhejbhgjaaDoorSameWalk
import Derived.Test.YtjabhnhejbhgjaaDoorKeepWalk
import Derived.Test.YtjabhnhejbhgjaaDoorMany1
import Derived.Deep.CutRange
/- told of a *api.Bad; murmurref.Parse where there is no configuration. -/
namespace Go.Proofs.YtjabhnhejbhgjaaDoor
open Go.RowKit

set_option maxRecDepth 100000 in
set_option maxHeartbeats 1000000 in
theorem told_bad (A : Nat → Addr) (B : Nat) (i : Nat) (hi : i < 8) (pb : Nat) (z : Int) (w : World) (hE : Errs A B w) (hblk : w.heap[pb]? = some (.cells #[.int .i64 z, E A (i + 1)] 28 (0, 0))) :
    Calls Tryd.prog 30 #[.iface 26 (.pointer (some ⟨pb, 0, none⟩))] w fun e w' => e = .returned (.agg #[.int .i64 ((i : Int) + 1), .int .i64 z]) ∧ Below w.heap.size w w' := by
  have hN := fun w1 h1 => number_any A B i hi w1 h1
  have hT := Tryd.assertBad
  have hpl := lt_of_block hblk
  rw [E_succ] at hN hblk
  have hb0 : Below w.heap.size w (w.alloc (.cells #[.int .i64 0, .int .i64 0] 74)) := (Below.refl _ _).alloc (Nat.le_refl _) _
  have hnew := heap_alloc_new w (.cells #[.int .i64 0, .int .i64 0] 74)
  go_enter Tryd.func30, Tryd.ntmps30
  go_upto_region 1 with fail
  generalize w.alloc (.cells #[.int .i64 0, .int .i64 0] 74) = W at *
  have hE1 : Errs A B W := hE.below (hb0.mono hE.size)
  have hblk1 : W.heap[pb]? = some (.cells #[.int .i64 z, .iface 164 (.pointer (some (A i)))] 28 (0, 0)) := by rw [hb0.block _ hpl]; exact hblk
  have d0 : W.cell? ⟨pb, 0, none⟩ = some (.int .i64 z) := cell_of_row W _ 0 _ _ _ hblk1
  have d1 : W.cell? ⟨pb, 1, none⟩ = some (.iface 164 (.pointer (some (A i)))) := cell_of_row W _ 1 _ _ _ hblk1
  have hpn : pb ≠ w.heap.size := by omega
  have hsW := hb0.size
  have hlW := lt_of_block hnew
  have hpW : pb < W.heap.size := by omega
  have hEd : Errs A B W.drew := hE1.shrink W.drew ⟨rfl, rfl, rfl, Nat.le_refl _, fun _ _ => rfl⟩
  go_upto_region 9 with fail
  go_region_with (go_at_call 7; refine (hN W.drew hEd).mono ?_; rintro e W1 ⟨rfl, hb1⟩; have hW1 := Below.undrew hb1; have hn1 : W1.heap[w.heap.size]? = some (.cells #[.int .i64 0, .int .i64 0] 74 (0, 0)) := (hW1.block _ hlW).trans hnew; have p0 : W1.cell? ⟨pb, 0, none⟩ = some (.int .i64 z) := cell_of_row W1 _ 0 _ _ _ ((hW1.block _ hpW).trans hblk1); have q0 : W1.cell? ⟨w.heap.size, 0, none⟩ = some (.int .i64 0) := cell_of_row W1 _ 0 _ _ _ hn1; have q1 : W1.cell? ⟨w.heap.size, 1, none⟩ = some (.int .i64 0) := cell_of_row W1 _ 1 _ _ _ hn1; have f0 := frozen_of_row W1 _ 0 _ _ hn1; have f1 := frozen_of_row W1 _ 1 _ _ hn1)
  all_goals
    have hp := put2 W1 w.heap.size _ (.int .i64 0) (.int .i64 0) (.int .i64 ((i : Int) + 1)) (.int .i64 z) hn1
    go_wp2_with fail
    generalize (W1.setCell ⟨w.heap.size, 0, none⟩ (.int .i64 ((i : Int) + 1))).setCell ⟨w.heap.size, 1, none⟩ (.int .i64 z) = W9 at hp ⊢
    obtain ⟨hp1, hp2⟩ := hp
    have r0 : W9.cell? ⟨w.heap.size, 0, none⟩ = some (.int .i64 ((i : Int) + 1)) := cell_of_row W9 _ 0 _ _ _ hp1
    have r1 : W9.cell? ⟨w.heap.size, 1, none⟩ = some (.int .i64 z) := cell_of_row W9 _ 1 _ _ _ hp1
    have hlow9 : Below w.heap.size w W9 := (hb0.trans (hW1.mono hsW)).trans (hp2.toBelow (by have := hW1.size; omega) (fun k hk q => by omega))
    exact bodyPost_ret (v := .agg #[.int .i64 ((i : Int) + 1), .int .i64 z]) (by simp [results, Tryd.results30, go_sem, r0, r1]) rfl ⟨rfl, hlow9⟩

set_option maxRecDepth 100000 in
set_option maxHeartbeats 1000000 in
theorem rparse_no (v : Value) (K N S : Int) (w : World) (hcb : cfgB K N S = false) :
    Calls Tryd.prog 43 #[.agg #[.int .i64 K, .int .i64 N, .int .i64 S], v] w fun e w' => e = .returned (.tuple #[.agg #[.int .i64 0, .int .i64 0, .int .i64 0, .int .i64 0, .int .i64 0, .slice none 0 0, .slice none 0 0], .agg #[.int .i64 1, .int .i64 (-1)]]) ∧ Below w.heap.size w w' := by
  have hst := PRSt.start w K N S
  go_enter Tryd.func43, Tryd.ntmps43
  go_upto_region 1 with fail
  generalize (((w.alloc (.cells #[.int .i64 K, .int .i64 N, .int .i64 S] 54)).alloc (.cells #[.int .i64 0, .int .i64 0, .int .i64 0, .int .i64 0, .int .i64 0, .slice none 0 0, .slice none 0 0] 57)).alloc (.cells #[.int .i64 0, .int .i64 0] 74)) = W at *
  rw [show w.heap.size + 1 + 1 = w.heap.size + 2 from rfl]
  obtain ⟨k0, k1, k2⟩ := hst.cfgs
  have hlt := hst.lt
  go_wp2_with fail
  refine (right_any K N S W).mono ?_
  rw [hcb]
  rintro e W1 ⟨rfl, hb1⟩
  have hst1 := hst.above (hb1.mono hlt)
  have hlt1 := hst1.lt
  clear k0 k1 k2 hst hb1
  go_wp2_with fail
  refine (plain_err 1 W1).mono ?_
  rintro e W2 ⟨rfl, hb2⟩
  have hst2 := hst1.above (hb2.mono hlt1)
  clear hst1 hb2
  obtain ⟨c0, c1, c2, c3, c4, c5, c6⟩ := row7 hst2.res
  have e0 : W2.cell? ⟨w.heap.size + 2, 0, none⟩ = some (.int .i64 0) := cell_of_row W2 _ 0 _ _ _ hst2.err
  have e1 : W2.cell? ⟨w.heap.size + 2, 1, none⟩ = some (.int .i64 0) := cell_of_row W2 _ 1 _ _ _ hst2.err
  have f0 := frozen_of_row W2 _ 0 _ _ hst2.res
  have f1 := frozen_of_row W2 _ 1 _ _ hst2.res
  have f2 := frozen_of_row W2 _ 2 _ _ hst2.res
  have f3 := frozen_of_row W2 _ 3 _ _ hst2.res
  have f4 := frozen_of_row W2 _ 4 _ _ hst2.res
  have f5 := frozen_of_row W2 _ 5 _ _ hst2.res
  have f6 := frozen_of_row W2 _ 6 _ _ hst2.res
  have g0 := frozen_of_row W2 _ 0 _ _ hst2.err
  have g1 := frozen_of_row W2 _ 1 _ _ hst2.err
  have hne9 : ¬ w.heap.size + 1 = w.heap.size + 2 := by omega
  have hp := put9 W2 (w.heap.size + 1) (w.heap.size + 2) (.int .i64 0) (.int .i64 0) (.int .i64 0) (.int .i64 0) (.int .i64 0) (.slice none 0 0) (.slice none 0 0) (.int .i64 0) (.int .i64 0) (.int .i64 0) (.int .i64 0) (.int .i64 0) (.int .i64 0) (.int .i64 0) (.slice none 0 0) (.slice none 0 0) (.int .i64 1) (.int .i64 (-1)) hst2.res hst2.err (by omega)
  go_wp2_with fail
  generalize (((((((((W2.setCell ⟨w.heap.size + 1, 0, none⟩ (.int .i64 0)).setCell ⟨w.heap.size + 1, 1, none⟩ (.int .i64 0)).setCell ⟨w.heap.size + 1, 2, none⟩ (.int .i64 0)).setCell ⟨w.heap.size + 1, 3, none⟩ (.int .i64 0)).setCell ⟨w.heap.size + 1, 4, none⟩ (.int .i64 0)).setCell ⟨w.heap.size + 1, 5, none⟩ (.slice none 0 0)).setCell ⟨w.heap.size + 1, 6, none⟩ (.slice none 0 0)).setCell ⟨w.heap.size + 2, 0, none⟩ (.int .i64 1)).setCell ⟨w.heap.size + 2, 1, none⟩ (.int .i64 (-1))) = W9 at hp ⊢
  obtain ⟨hp1, hp2, hp3⟩ := hp
  obtain ⟨d0, d1, d2, d3, d4, d5, d6⟩ := row7 (show W9.heap[w.heap.size + 1]? = _ from hp1)
  have d7 : W9.cell? ⟨w.heap.size + 2, 0, none⟩ = some (.int .i64 1) := cell_of_row _ _ 0 _ _ _ (show W9.heap[w.heap.size + 2]? = _ from hp2)
  have d8 : W9.cell? ⟨w.heap.size + 2, 1, none⟩ = some (.int .i64 (-1)) := cell_of_row _ _ 1 _ _ _ (show W9.heap[w.heap.size + 2]? = _ from hp2)
  clear c0 c1 c2 c3 c4 c5 c6 f0 f1 f2 f3 f4 f5 f6 g0 g1 e0 e1
  exact bodyPost_ret (v := .tuple #[.agg #[.int .i64 0, .int .i64 0, .int .i64 0, .int .i64 0, .int .i64 0, .slice none 0 0, .slice none 0 0], .agg #[.int .i64 1, .int .i64 (-1)]]) (by simp [results, Tryd.results43, go_sem, d0, d1, d2, d3, d4, d5, d6, d7, d8]) rfl (⟨rfl, hst2.low.trans (hp3.toBelow (by have := hst2.low.size; omega) (fun k hk q => by omega))⟩)

end Go.Proofs.YtjabhnhejbhgjaaDoor

/- samePacket, where the packets are the same. -/
namespace Go.Proofs.YtjabhnhejbhgjaaDoor
open Go.RowKit

/-- Lacks in memory: a slice of n, or none. -/
structure LacksIn (w : World) (a : Option Addr) (n : Nat) (f : Nat → Nat × Nat) : Prop where
  at_ : 0 < n → ∃ g, a = some ⟨g, 0, none⟩ ∧ ∀ i, i < n → w.cell? ⟨g, i * 2, none⟩ = some (.int .i64 ((f i).1 : Int)) ∧ w.cell? ⟨g, i * 2 + 1, none⟩ = some (.int .i64 ((f i).2 : Int))

set_option maxRecDepth 100000 in
set_option maxHeartbeats 2000000 in
theorem samePacket_any (x0 x1 x2 x3 x4 : Int) (a5 b5 a6 b6 : Option Addr) (n5 m5 c5 d5 n6 c6 d6 : Nat) (L5 : List Gf.F) (f : Nat → Nat × Nat) (w : World)
    (h5 : ∀ W, Below w.heap.size w W → (convert 33 9 (.slice a5 n5 c5)).run Tryd.prog W = .ok (.string (str L5)) W) (h5' : ∀ W, Below w.heap.size w W → (convert 33 9 (.slice b5 m5 d5)).run Tryd.prog W = .ok (.string (str L5)) W)
    (h6 : LacksIn w a6 n6 f) (h6' : LacksIn w b6 n6 f) (hl6 : ∀ g, a6 = some ⟨g, 0, none⟩ → 0 < n6 → g < w.heap.size) (hl6' : ∀ g, b6 = some ⟨g, 0, none⟩ → 0 < n6 → g < w.heap.size) (hn6 : n6 ≤ 1000) :
    Calls Tryd.prog 44 #[.agg #[.int .i64 x0, .int .i64 x1, .int .i64 x2, .int .i64 x3, .int .i64 x4, .slice a5 n5 c5, .slice a6 n6 c6], .agg #[.int .i64 x0, .int .i64 x1, .int .i64 x2, .int .i64 x3, .int .i64 x4, .slice b5 m5 d5, .slice b6 n6 d6]] w fun e w' => e = .returned (.bool true) ∧ Below w.heap.size w w' := by
  have e0 : ∀ z : Int, (z != z) = false := fun z => by simp
  have hx0 := e0 x0
  have hx1 := e0 x1
  have hx2 := e0 x2
  have hx3 := e0 x3
  have hx4 := e0 x4
  have hnn := e0 (n6 : Int)
  have hss : ((str L5).toList == (str L5).toList) = true := by rw [beq_iff_eq]
  have hp1 := heap_alloc_new w (.cells #[.int .i64 x0, .int .i64 x1, .int .i64 x2, .int .i64 x3, .int .i64 x4, .slice a5 n5 c5, .slice a6 n6 c6] 57)
  have hp2 := heap_alloc_new (w.alloc (.cells #[.int .i64 x0, .int .i64 x1, .int .i64 x2, .int .i64 x3, .int .i64 x4, .slice a5 n5 c5, .slice a6 n6 c6] 57)) (.cells #[.int .i64 x0, .int .i64 x1, .int .i64 x2, .int .i64 x3, .int .i64 x4, .slice b5 m5 d5, .slice b6 n6 d6] 57)
  rw [World.size_alloc] at hp2
  have hb0 : Below w.heap.size w ((w.alloc (.cells #[.int .i64 x0, .int .i64 x1, .int .i64 x2, .int .i64 x3, .int .i64 x4, .slice a5 n5 c5, .slice a6 n6 c6] 57)).alloc (.cells #[.int .i64 x0, .int .i64 x1, .int .i64 x2, .int .i64 x3, .int .i64 x4, .slice b5 m5 d5, .slice b6 n6 d6] 57)) := ((Below.refl _ _).alloc (Nat.le_refl _) _).alloc (by simp) _
  have hp1' : ((w.alloc (.cells #[.int .i64 x0, .int .i64 x1, .int .i64 x2, .int .i64 x3, .int .i64 x4, .slice a5 n5 c5, .slice a6 n6 c6] 57)).alloc (.cells #[.int .i64 x0, .int .i64 x1, .int .i64 x2, .int .i64 x3, .int .i64 x4, .slice b5 m5 d5, .slice b6 n6 d6] 57)).heap[w.heap.size]? = _ := (Below.heap_alloc _ _ _ (by simp)).trans hp1
  go_enter Tryd.func44, Tryd.ntmps44
  go_upto_region 1 with fail
  generalize ((w.alloc (.cells #[.int .i64 x0, .int .i64 x1, .int .i64 x2, .int .i64 x3, .int .i64 x4, .slice a5 n5 c5, .slice a6 n6 c6] 57)).alloc (.cells #[.int .i64 x0, .int .i64 x1, .int .i64 x2, .int .i64 x3, .int .i64 x4, .slice b5 m5 d5, .slice b6 n6 d6] 57)) = W at *
  obtain ⟨c0, c1, c2, c3, c4, c5', c6'⟩ := row7 hp1'
  obtain ⟨d0, d1, d2, d3, d4, d5', d6'⟩ := row7 hp2
  have q5 := h5 W hb0
  have q5' := h5' W hb0
  have HLK : Hid (∀ i, i < n6 → ∃ g g', a6 = some ⟨g, 0, none⟩ ∧ b6 = some ⟨g', 0, none⟩ ∧ W.cell? ⟨g, i * 2, none⟩ = some (.int .i64 ((f i).1 : Int)) ∧ W.cell? ⟨g, i * 2 + 1, none⟩ = some (.int .i64 ((f i).2 : Int)) ∧ W.cell? ⟨g', i * 2, none⟩ = some (.int .i64 ((f i).1 : Int)) ∧ W.cell? ⟨g', i * 2 + 1, none⟩ = some (.int .i64 ((f i).2 : Int))) := fun i hi => by
    obtain ⟨g, hg, hc⟩ := h6.at_ (by omega)
    obtain ⟨g', hg', hc'⟩ := h6'.at_ (by omega)
    have hl := hl6 g hg (by omega)
    have hl' := hl6' g' hg' (by omega)
    exact ⟨g, g', hg, hg', by rw [hb0.cell (p := ⟨g, i * 2, none⟩) hl]; exact (hc i hi).1, by rw [hb0.cell (p := ⟨g, i * 2 + 1, none⟩) hl]; exact (hc i hi).2, by rw [hb0.cell (p := ⟨g', i * 2, none⟩) hl']; exact (hc' i hi).1, by rw [hb0.cell (p := ⟨g', i * 2 + 1, none⟩) hl']; exact (hc' i hi).2⟩
  have HB0 : Hid (Below w.heap.size w W) := hb0
  clear h5 h5' h6 h6' hl6 hl6' hp1 hp2 hp1' hb0
  go_wp2_with fail
  go_loopw [5] (fun t wr => ∃ (k nq : Nat), k ≤ n6 ∧ t = .int .i64 (k : Int) ∧ wr = W.drewN nq) (fun t _ => n6 - (intOf t).toNat)
  case atStart => exact ⟨0, 0, by omega, rfl, rfl⟩
  case round =>
    obtain ⟨k, nq, hk, rfl, rfl⟩ := hrel
    by_cases hlt : k < n6
    · obtain ⟨g, g', rfl, rfl, l0, l1, l2, l3⟩ := HLK.out k hlt
      have hkn : (k : Int) < (n6 : Int) := by omega
      go_wp2_with fail
      go_quiet (fail)
      go_wp2_with fail
      exact ⟨⟨k + 1, _, by omega, by go_num, rfl⟩, by simp [intOf]; omega⟩
    · obtain rfl : k = n6 := by omega
      go_wp2_with fail
      go_ret
      exact ⟨rfl, HB0.out.trans ⟨rfl, rfl, rfl, Nat.le_refl _, fun _ _ => rfl⟩⟩

end Go.Proofs.YtjabhnhejbhgjaaDoor

/- Lacks that came out and were kept. (Written by gen_lkmem.py, after KeepMem.) -/
namespace Go.Proofs.YtjabhnhejbhgjaaDoor
open Go.RowKit

def lkRow (m : Nat) : Nat → List Value
  | 0 => []
  | k + 1 => lkRow m k ++ [.int .i64 (-(m : Int)), .int .i64 0]
theorem lkRow_length (m : Nat) : ∀ k, (lkRow m k).length = k * 2
  | 0 => rfl
  | k + 1 => by simp [lkRow, lkRow_length m k]; omega
theorem lkRow_at (m : Nat) : ∀ k j, j < k → (lkRow m k)[j * 2]? = some (.int .i64 (-(m : Int))) ∧ (lkRow m k)[j * 2 + 1]? = some (.int .i64 0)
  | 0, j, h => by omega
  | k + 1, j, h => by
    have hl := lkRow_length m k
    by_cases e : j < k
    · obtain ⟨h1, h2⟩ := lkRow_at m k j e
      exact ⟨by rw [lkRow, List.getElem?_append_left (by omega)]; exact h1, by rw [lkRow, List.getElem?_append_left (by omega)]; exact h2⟩
    · obtain rfl : j = k := by omega
      exact ⟨by rw [lkRow, List.getElem?_append_right (by omega), hl, Nat.sub_self]; rfl, by rw [lkRow, List.getElem?_append_right (by omega), hl, show j * 2 + 1 - j * 2 = 1 by omega]; rfl⟩

/-- A slice of n lacks, all of them (-m, 0). -/
def LkOk (w : World) (v : Value) (n m : Nat) : Prop :=
  (∃ c, v = .slice none 0 c ∧ n = 0) ∨ (∃ g c cs, v = .slice (some ⟨g, 0, none⟩) n c ∧ w.heap[g]? = some (.cells cs 110 (0, 0)) ∧ ∀ j, j < n → cs[j * 2]? = some (.int .i64 (-(m : Int))) ∧ cs[j * 2 + 1]? = some (.int .i64 0))
theorem LkOk.but {w w' : World} {v : Value} {n m : Nat} {S : Nat → Prop} (h : LkOk w v n m) (hb : But S w w') (hn : ∀ g, v.ownBlock = some g → ¬ S g) : LkOk w' v n m := by
  rcases h with h | ⟨g, c, cs, h1, h2, h3⟩
  · exact .inl h
  · exact .inr ⟨g, c, cs, h1, by rw [hb.block g (Array.getElem?_eq_some_iff.1 h2).1 (hn g (by rw [h1]; rfl))]; exact h2, h3⟩
theorem LkOk.kept {w w' : World} {v : Value} {n m : Nat} (h : LkOk w v n m) (hk : ∀ g, v.ownBlock = some g → w'.heap[g]? = w.heap[g]?) : LkOk w' v n m := by
  rcases h with h | ⟨g, c, cs, h1, h2, h3⟩
  · exact .inl h
  · exact .inr ⟨g, c, cs, h1, by rw [hk g (by rw [h1]; rfl)]; exact h2, h3⟩
theorem LkOk.lt {w : World} {v : Value} {n m g : Nat} (h : LkOk w v n m) (hg : v.ownBlock = some g) : g < w.heap.size ∧ ∃ cs, w.heap[g]? = some (.cells cs 110 (0, 0)) := by
  rcases h with ⟨c, h1, _⟩ | ⟨g', c, cs, h1, h2, h3⟩
  · rw [h1] at hg; simp [Value.ownBlock] at hg
  · rw [h1] at hg
    simp [Value.ownBlock] at hg
    subst hg
    exact ⟨(Array.getElem?_eq_some_iff.1 h2).1, cs, h2⟩
theorem own_lk {w : World} {B n m : Nat} {v : Value} (h : w.ownsRow B 110 2 v n (lkRow m n)) : LkOk w v n m := by
  rcases h.2 with ⟨h1, h2⟩ | ⟨g, cap, cur, h1, _, h2, h3, _, h4, h5⟩
  · exact .inl ⟨0, h1, h2⟩
  · refine .inr ⟨g, cap, cur, h1, h2, fun j hj => ?_⟩
    obtain ⟨q1, q2⟩ := lkRow_at m n j hj
    rw [← h5] at q1 q2
    rw [List.getElem?_take, if_pos (by omega)] at q1 q2
    exact ⟨by simpa using q1, by simpa using q2⟩
theorem own_lk_less {w : World} {B n k m g c : Nat} {v : Value} (h : w.ownsRow B 110 2 v n (lkRow m n)) (hg : v.ownBlock = some g) (hk : k ≤ n) : LkOk w (.slice (some ⟨g, 0, none⟩) k c) k m := by
  rcases own_lk h with ⟨c', h1, _⟩ | ⟨g', c', cs, h1, h2, h3⟩
  · rw [h1] at hg; simp [Value.ownBlock] at hg
  · rw [h1] at hg
    simp [Value.ownBlock] at hg
    subst hg
    exact .inr ⟨g', c, cs, rfl, h2, fun j hj => h3 j (by omega)⟩
theorem HAt.set9 {w : World} {hb : Nat} {s : HS} (h : HAt w hb s) (v : Value) : HAt (w.setCell ⟨hb, 9, none⟩ v) hb { s with lacks := v } := by unfold HAt; rw [heap_setCell_same w hb 9 _ _ _ h]; rfl
theorem HAt.set10 {w : World} {hb : Nat} {s : HS} (h : HAt w hb s) (v : Value) : HAt (w.setCell ⟨hb, 10, none⟩ v) hb { s with lmarks := v } := by unfold HAt; rw [heap_setCell_same w hb 10 _ _ _ h]; rfl

/-- The lists of what was kept, and of its marks. -/
structure Lks (w : World) (B : Nat) (vo vm : Value) (es : List Ent) : Prop where
  own : w.ownsRow B 55 1 vo es.length (es.map (·.v))
  marks : w.ownsRow B 3 1 vm es.length (es.map fun e => .int .i64 (-(e.m : Int)))
  each : ∀ e ∈ es, LkOk w e.v e.n e.m ∧ e.m ≤ 1000000001 ∧ e.n ≤ 140737488355328

theorem Lks.but {w w' : World} {B : Nat} {vo vm : Value} {es : List Ent} {S : Nat → Prop} (h : Lks w B vo vm es) (hb : But S w w') (h1 : ∀ g, vo.ownBlock = some g → ¬ S g) (h2 : ∀ g, vm.ownBlock = some g → ¬ S g) (h3 : ∀ e ∈ es, ∀ g, e.v.ownBlock = some g → ¬ S g) : Lks w' B vo vm es :=
  ⟨hb.own h.own h1, hb.own h.marks h2, fun e he => ⟨(h.each e he).1.but hb (h3 e he), (h.each e he).2⟩⟩

theorem LkOk.ne_own {w : World} {v : Value} {n m : Nat} (h : LkOk w v n m) {B n' sz' : Nat} {e' : TypeId} {v' : Value} {xs' : List Value} (h' : w.ownsRow B e' sz' v' n' xs') (hne : e' ≠ 110) : ∀ g, v.ownBlock = some g → v'.ownBlock ≠ some g := by
  intro g hg hg'
  obtain ⟨_, cs, hc⟩ := h.lt hg
  exact own_ne h' hg' hc hne rfl

theorem LkOk.ne_hands {w : World} {v : Value} {n m hb : Nat} {s : HS} (h : LkOk w v n m) (hH : HAt w hb s) : ∀ g, v.ownBlock = some g → g ≠ hb := by
  intro g hg q
  obtain ⟨_, cs, hc⟩ := h.lt hg
  unfold HAt at hH
  rw [q, hH] at hc
  simp only [Option.some.injEq, Obj.cells.injEq] at hc
  exact absurd hc.2.1 (by decide)

/-- Where keep stands: eo is kept, em has its marks, lv is the row with k marks behind. -/
structure KSL (w wr : World) (hb B Bv N n M : Nat) (s : HS) (es : List Ent) (v lv vo vm : Value) (eo em : List Ent) (k : Nat) : Prop where
  hands : HAt wr hb { s with n := (N : Int) + 1, lacks := vo, lmarks := vm }
  own : wr.ownsRow B 55 1 vo eo.length (eo.map (·.v))
  marks : wr.ownsRow B 3 1 vm em.length (em.map fun e => .int .i64 (-(e.m : Int)))
  each : ∀ e ∈ eo, LkOk wr e.v e.n e.m ∧ e.m ≤ 1000000001 ∧ e.n ≤ 140737488355328
  row : wr.ownsRow Bv 110 2 lv (n + k) (lkRow M (n + k))
  lacksAt : ∀ b, vo.ownBlock = some b → s.lacks.ownBlock = some b ∨ w.heap.size ≤ b
  marksAt : ∀ b, vm.ownBlock = some b → s.lmarks.ownBlock = some b ∨ w.heap.size ≤ b
  lvAt : ∀ b, lv.ownBlock = some b → v.ownBlock = some b ∨ w.heap.size ≤ b
  newAt : ∃ es', eo = es ++ es' ∧ ∀ e ∈ es', ∀ b, e.v.ownBlock = some b → v.ownBlock = some b ∨ w.heap.size ≤ b
  same : ∀ e ∈ eo, ∀ g, e.v.ownBlock = some g → lv.ownBlock = some g → e.m = M ∧ e.n ≤ n + k
  but : But (fun b => b = hb ∨ s.lacks.ownBlock = some b ∨ s.lmarks.ownBlock = some b ∨ v.ownBlock = some b) w wr

theorem KSL.pushOut {w wr w2 : World} {hb B Bv N n M : Nat} {s : HS} {es : List Ent} {v lv vo vm vo' : Value} {eo em : List Ent} {k : Nat} (h : KSL w wr hb B Bv N n M s es v lv vo vm eo em k) (hM : M ≤ 1000000001) (hnk : n + k ≤ 140737488355328)
    (hb2 : But (fun b => vo.ownBlock = some b) wr w2) (ho2 : w2.ownsRow B 55 1 vo' (eo.length + 1) (eo.map (·.v) ++ [lv])) (hat : ∀ b, vo'.ownBlock = some b → vo.ownBlock = some b ∨ wr.heap.size ≤ b) :
    KSL w (w2.setCell ⟨hb, 9, none⟩ vo') hb B Bv N n M s es v lv vo' vm (eo ++ [⟨lv, n + k, M⟩]) em k := by
  have hs := h.but.size
  have hvo : ∀ b, vo.ownBlock = some b → b ≠ hb := fun b hq => own_ne h.own hq h.hands (by decide)
  have hb3 : But (fun b => vo.ownBlock = some b ∨ b = hb) wr (w2.setCell ⟨hb, 9, none⟩ vo') := (hb2.wide (fun _ _ q => .inl q)).setCell (.inl (.inr rfl)) _
  have hH2 : HAt w2 hb { s with n := (N : Int) + 1, lacks := vo, lmarks := vm } := h.hands.kept (hb2.block hb h.hands.lt (fun q => hvo hb q rfl))
  have farK : ∀ u a b, LkOk wr u a b → ∀ g, u.ownBlock = some g → ¬ (vo.ownBlock = some g ∨ g = hb) := fun u a b hu g hg q => by
    rcases q with q | q
    · exact hu.ne_own h.own (by decide) g hg q
    · exact hu.ne_hands h.hands g hg q
  have hrow : (w2.setCell ⟨hb, 9, none⟩ vo').ownsRow Bv 110 2 lv (n + k) (lkRow M (n + k)) := hb3.own h.row (farK _ _ _ (own_lk h.row))
  refine ⟨hH2.set9 _, ?_, hb3.own h.marks (fun g hg q => ?_), fun e he => ?_, hrow, fun b hq => ?_, h.marksAt, h.lvAt, ?_, fun e he => ?_, h.but.then hb3 (fun b hlt q => ?_)⟩
  · have := own_of_block ho2 (fun b hq => Below.heap_setCell w2 ⟨hb, 9, none⟩ vo' b (own_ne ho2 hq hH2 (by decide)))
    simpa using this
  · rcases q with q | q
    · exact own_own_ne h.marks h.own (by decide) g hg q
    · exact own_ne h.marks hg h.hands (by decide) q
  · rcases List.mem_append.1 he with he | he
    · exact ⟨(h.each e he).1.but hb3 (farK _ _ _ (h.each e he).1), (h.each e he).2⟩
    · obtain rfl := List.mem_singleton.1 he
      exact ⟨own_lk hrow, hM, hnk⟩
  · rcases hat b hq with q | q
    · exact h.lacksAt b q
    · right; omega
  · obtain ⟨es', q1, q2⟩ := h.newAt
    refine ⟨es' ++ [⟨lv, n + k, M⟩], by rw [q1, List.append_assoc], fun e he => ?_⟩
    rcases List.mem_append.1 he with he | he
    · exact q2 e he
    · obtain rfl := List.mem_singleton.1 he
      exact h.lvAt
  · rcases List.mem_append.1 he with he | he
    · exact h.same e he
    · obtain rfl := List.mem_singleton.1 he
      exact fun g _ _ => ⟨rfl, Nat.le_refl _⟩
  · rcases q with q | q
    · rcases h.lacksAt b q with q | q
      · exact .inr (.inl q)
      · omega
    · exact .inl q

theorem KSL.pushMark {w wr w2 : World} {hb B Bv N n M : Nat} {s : HS} {es : List Ent} {v lv vo vm vm' : Value} {eo em : List Ent} {k : Nat} (h : KSL w wr hb B Bv N n M s es v lv vo vm eo em k) (e0 : Ent) (he0 : e0.m = M)
    (hb2 : But (fun b => vm.ownBlock = some b) wr w2) (ho2 : w2.ownsRow B 3 1 vm' (em.length + 1) (em.map (fun e => .int .i64 (-(e.m : Int))) ++ [.int .i64 (-(M : Int))])) (hat : ∀ b, vm'.ownBlock = some b → vm.ownBlock = some b ∨ wr.heap.size ≤ b) :
    KSL w (w2.setCell ⟨hb, 10, none⟩ vm') hb B Bv N n M s es v lv vo vm' eo (em ++ [e0]) k := by
  have hs := h.but.size
  have hvm : ∀ b, vm.ownBlock = some b → b ≠ hb := fun b hq => own_ne h.marks hq h.hands (by decide)
  have hb3 : But (fun b => vm.ownBlock = some b ∨ b = hb) wr (w2.setCell ⟨hb, 10, none⟩ vm') := (hb2.wide (fun _ _ q => .inl q)).setCell (.inl (.inr rfl)) _
  have hH2 : HAt w2 hb { s with n := (N : Int) + 1, lacks := vo, lmarks := vm } := h.hands.kept (hb2.block hb h.hands.lt (fun q => hvm hb q rfl))
  have farK : ∀ u a b, LkOk wr u a b → ∀ g, u.ownBlock = some g → ¬ (vm.ownBlock = some g ∨ g = hb) := fun u a b hu g hg q => by
    rcases q with q | q
    · exact hu.ne_own h.marks (by decide) g hg q
    · exact hu.ne_hands h.hands g hg q
  refine ⟨hH2.set10 _, hb3.own h.own (fun g hg q => ?_), ?_, fun e he => ⟨(h.each e he).1.but hb3 (farK _ _ _ (h.each e he).1), (h.each e he).2⟩, hb3.own h.row (farK _ _ _ (own_lk h.row)), h.lacksAt, fun b hq => ?_, h.lvAt, h.newAt, h.same, h.but.then hb3 (fun b hlt q => ?_)⟩
  · rcases q with q | q
    · exact own_own_ne h.own h.marks (by decide) g hg q
    · exact own_ne h.own hg h.hands (by decide) q
  · have := own_of_block ho2 (fun b hq => Below.heap_setCell w2 ⟨hb, 10, none⟩ vm' b (own_ne ho2 hq hH2 (by decide)))
    simpa [he0] using this
  · rcases hat b hq with q | q
    · exact h.marksAt b q
    · right; omega
  · rcases q with q | q
    · rcases h.marksAt b q with q | q
      · exact .inr (.inr (.inl q))
      · omega
    · exact .inl q

theorem KSL.more {w wr w2 : World} {hb B Bv N n M g cap : Nat} {s : HS} {es : List Ent} {v lv vo vm : Value} {eo em : List Ent} {k : Nat} (h : KSL w wr hb B Bv N n M s es v lv vo vm eo em k)
    (hb2 : But (fun b => lv.ownBlock = some b) wr w2) (ho2 : w2.ownsRow Bv 110 2 (.slice (some ⟨g, 0, none⟩) (n + k + 1) cap) (n + k + 1) (lkRow M (n + k) ++ [.int .i64 (-(M : Int)), .int .i64 0]))
    (hat : lv.ownBlock = some g ∨ wr.heap.size ≤ g ∧ ∀ j, j < wr.heap.size → w2.heap[j]? = wr.heap[j]?) :
    KSL w w2 hb B Bv N n M s es v (.slice (some ⟨g, 0, none⟩) (n + k + 1) cap) vo vm eo em (k + 1) := by
  have hs := h.but.size
  have hrep : lkRow M (n + k) ++ [.int .i64 (-(M : Int)), .int .i64 0] = lkRow M (n + (k + 1)) := rfl
  rw [hrep] at ho2
  have hlv := own_lk h.row
  refine ⟨h.hands.kept (hb2.block hb h.hands.lt (fun q => hlv.ne_hands h.hands hb q rfl)), hb2.own h.own (own_own_ne h.own h.row (by decide)), hb2.own h.marks (own_own_ne h.marks h.row (by decide)), fun e he => ?_, ho2, h.lacksAt, h.marksAt, fun b hq => ?_, h.newAt, fun e he g' hg' hl => ?_, h.but.then hb2 (fun b hlt q => ?_)⟩
  · obtain ⟨h1, h2⟩ := h.each e he
    refine ⟨?_, h2⟩
    rcases hat with q | ⟨q, hall⟩
    · by_cases p : e.v.ownBlock = some g
      · obtain ⟨e1, e2⟩ := h.same e he g p q
        rcases h1 with ⟨c, q1, q2⟩ | ⟨g', c, cs, q1, q2, q3⟩
        · rw [q1] at p; simp [Value.ownBlock] at p
        · have e3 : g' = g := by rw [q1] at p; simpa [Value.ownBlock] using p
          subst e3
          rw [q1, e1]
          exact own_lk_less ho2 (by rfl) (by omega)
      · exact h1.but hb2 (fun g' hg' r => p (by rw [hg', ← q, r]))
    · exact h1.kept (fun g' hg' => hall g' (h1.lt hg').1)
  · have e : g = b := by simpa [Value.ownBlock] using hq
    subst e
    rcases hat with q | ⟨q, _⟩
    · exact h.lvAt g q
    · right; omega
  · have e3 : g = g' := by simpa [Value.ownBlock] using hl
    subst e3
    rcases hat with q | ⟨q, _⟩
    · obtain ⟨e1, e2⟩ := h.same e he g hg' q
      exact ⟨e1, by omega⟩
    · have := ((h.each e he).1.lt hg').1; omega
  · rcases h.lvAt b q with q | q
    · exact .inr (.inr (.inr q))
    · omega

end Go.Proofs.YtjabhnhejbhgjaaDoor

/- Hands.keepLacks. (Written by gen_lkwalk.py.) -/
namespace Go.Proofs.YtjabhnhejbhgjaaDoor
open Go.RowKit

/-- What keep leaves. -/
structure KeptLk (w w' : World) (hb B N : Nat) (s : HS) (es es' : List Ent) (v vo vm : Value) : Prop where
  hands : HAt w' hb { s with n := (N : Int) + 1, lacks := vo, lmarks := vm }
  lks : Lks w' B vo vm (es ++ es')
  four : es'.length = 4
  lacksAt : ∀ b, vo.ownBlock = some b → s.lacks.ownBlock = some b ∨ w.heap.size ≤ b
  marksAt : ∀ b, vm.ownBlock = some b → s.lmarks.ownBlock = some b ∨ w.heap.size ≤ b
  newAt : ∀ e ∈ es', ∀ b, e.v.ownBlock = some b → v.ownBlock = some b ∨ w.heap.size ≤ b
  but : But (fun b => b = hb ∨ s.lacks.ownBlock = some b ∨ s.lmarks.ownBlock = some b ∨ v.ownBlock = some b) w w'

theorem KSL.sees {w wr w4 : World} {hb B Bv N n M : Nat} {s : HS} {es : List Ent} {v lv vo vm : Value} {eo em : List Ent} {k : Nat} {o : Obj} (h : KSL w wr hb B Bv N n M s es v lv vo vm eo em k) (hg : (wr.alloc o).drew.grownBy w4 vm.ownBlock) :
    w4.cell? ⟨hb, 10, none⟩ = some vm ∧ w4.cell? ⟨hb, 4, none⟩ = some (.int .i64 ((N : Int) + 1)) ∧ w4.frozen? ⟨hb, 10, none⟩ = false := by
  have hk : w4.heap[hb]? = wr.heap[hb]? := by
    rw [grown_block hg (by have := h.hands.lt; simp; omega) (fun q => own_ne h.marks q h.hands (by decide) rfl)]; exact Below.heap_alloc wr o hb h.hands.lt
  have hH := h.hands.kept hk
  exact ⟨hH.cell 10, hH.cell 4, hH.frozen 10⟩


/-- Two cells of a list that is owned, written. -/
theorem own_set2 {w : World} {B g n c i : Nat} {e : TypeId} {xs : List Value} {u u' : Value} (h : w.ownsRow B e 2 (.slice (some ⟨g, 0, none⟩) n c) n xs) : ((w.setCell ⟨g, i, none⟩ u).setCell ⟨g, i + 1, none⟩ u').ownsRow B e 2 (.slice (some ⟨g, 0, none⟩) n c) n ((xs.set i u).set (i + 1) u') := by
  have hl := h.1
  rcases h.2 with ⟨h1, _⟩ | ⟨g', cap, cur, h1, h2, h3, h4, h5, h6, h7⟩
  · cases h1
  · simp only [Value.slice.injEq, Option.some.injEq, Addr.mk.injEq] at h1
    obtain ⟨⟨rfl, _⟩, _, rfl⟩ := h1
    refine ⟨by simpa using hl, .inr ⟨g, c, (cur.setIfInBounds i u).setIfInBounds (i + 1) u', rfl, h2, heap_setCell_same _ _ _ _ _ _ (heap_setCell_same _ _ _ _ _ _ h3), h4, h5, by simpa using h6, ?_⟩⟩
    rw [← h7, Array.toList_setIfInBounds, Array.toList_setIfInBounds, List.take_set, List.take_set]

theorem lkFill_step (m : Nat) (xs : List Value) (i n : Nat) (hl : xs.length = n * 2) (hi : i < n) : ((lkRow m i ++ xs.drop (i * 2)).set (i * 2) (.int .i64 (-(m : Int)))).set (i * 2 + 1) (.int .i64 0) = lkRow m (i + 1) ++ xs.drop ((i + 1) * 2) := by
  have hr := lkRow_length m i
  obtain ⟨a, b, r, hd⟩ : ∃ a b r, xs.drop (i * 2) = a :: b :: r := by
    have : (xs.drop (i * 2)).length ≥ 2 := by simp; omega
    match hx : xs.drop (i * 2), this with
    | a :: b :: r, _ => exact ⟨a, b, r, rfl⟩
  have hr2 : xs.drop ((i + 1) * 2) = r := by
    rw [show (i + 1) * 2 = i * 2 + 2 by omega, ← List.drop_drop, hd]; rfl
  rw [hd, hr2, List.set_append_right _ _ (by omega), hr, Nat.sub_self, List.set_cons_zero, List.set_append_right _ _ (by omega), hr, show i * 2 + 1 - i * 2 = 1 by omega, lkRow, List.append_assoc]
  rfl
theorem lkFill_at (m : Nat) (xs : List Value) (i n : Nat) (hl : xs.length = n * 2) (hi : i < n) : (∃ x, (lkRow m i ++ xs.drop (i * 2))[i * 2]? = some x) ∧ ∃ x, (lkRow m i ++ xs.drop (i * 2))[i * 2 + 1]? = some x := by
  have hr := lkRow_length m i
  exact ⟨⟨_, List.getElem?_eq_getElem (by simp [hr]; omega)⟩, ⟨_, List.getElem?_eq_getElem (by simp [hr]; omega)⟩⟩

theorem own_cell2 {w : World} {B n sz : Nat} {e : TypeId} {v : Value} {xs : List Value} (h : w.ownsRow B e sz v n xs) {g : Nat} (hg : v.ownBlock = some g) {j : Nat} {x : Value} (hx : xs[j]? = some x) : w.cell? ⟨g, j, none⟩ = some x := own_cell h hg hx

theorem Tryd.info_lacks : (Tryd.prog.info? 55).map (fun i => (i.zero, i.size, i.bytes)) = some (some (.slice none 0 0), 1, 24) := by kernel_rfl
theorem Tryd.lacks_parts : ∃ i, Tryd.prog.info? 55 = some i ∧ i.zero = some (.slice none 0 0) ∧ i.size = 1 ∧ i.bytes = 24 := by
  have h := Tryd.info_lacks
  cases hi : Tryd.prog.info? 55 with
  | none => rw [hi] at h; simp at h
  | some i => rw [hi] at h; simp at h; exact ⟨i, rfl, h.1, h.2.1, h.2.2⟩

set_option maxRecDepth 100000 in
set_option maxHeartbeats 4000000 in
theorem keepLacks_any (hb B Bv N n : Nat) (s : HS) (es : List Ent) (v : Value) (xs : List Value) (w : World) (hN : s.n = (N : Int)) (hN2 : N ≤ 1000000000) (hH : HAt w hb s) (hO : Lks w B s.lacks s.lmarks es) (hes : es.length ≤ 1000000) (hB : B ≤ w.heap.size) (hn : n ≤ 1000000)
    (hv : w.ownsRow Bv 110 2 v n xs) (hBv : Bv ≤ w.heap.size) (hfar : ∀ e ∈ es, ∀ g, v.ownBlock = some g → e.v.ownBlock ≠ some g) :
    Calls Tryd.prog 45 #[.pointer (some ⟨hb, 0, none⟩), v] w fun e w' =>
      e = .returned (.tuple #[]) ∧ ∃ es' vo vm, KeptLk w w' hb B N s es es' v vo vm := by
  have hc4 : w.cell? ⟨hb, 4, none⟩ = some (.int .i64 (N : Int)) := by rw [hH.cell 4, ← hN]; rfl
  have hf := hH.frozen
  have HH : Hid (HAt w hb s) := hH
  have hlt := hH.lt
  obtain ⟨a, c, hva⟩ : ∃ a c, v = .slice a n c := by obtain ⟨a, c, h, _⟩ := own_form2 hv; exact ⟨a, c, h⟩
  obtain ⟨M, hM⟩ : ∃ M : Nat, M = N + 1 := ⟨_, rfl⟩
  have hMi : (N : Int) + 1 = (M : Int) := by omega
  have hM3 : M ≤ 1000000001 := by omega
  have HM : Hid (M = N + 1) := hM
  have HV : Hid (v = .slice a n c) := hva
  clear hM hN hH
  rw [hva]
  clear hva
  go_enter Tryd.func45, Tryd.ntmps45
  go_wp2_with fail
  have hOne : ∀ g, v.ownBlock = some g → g ≠ hb := fun g hg => own_ne hv hg HH.out (by decide)
  have HH1 : Hid (HAt (w.setCell ⟨hb, 4, none⟩ (.int .i64 (M : Int))) hb { s with n := (N : Int) + 1 }) := by rw [hMi]; exact HH.out.set4 _
  have hb1 : But (fun b => b = hb) w (w.setCell ⟨hb, 4, none⟩ (.int .i64 (M : Int))) := (But.refl _ _).setCell (S := fun b => b = hb) (.inl rfl) _
  have hO1 := hO.but hb1 (fun g hg q => own_ne hO.own hg HH.out (by decide) q) (fun g hg q => own_ne hO.marks hg HH.out (by decide) q) (fun e he g hg q => (hO.each e he).1.ne_hands HH.out g hg q)
  have hv1 := hb1.own hv hOne
  have hbS : But (fun b => b = hb ∨ s.lacks.ownBlock = some b ∨ s.lmarks.ownBlock = some b ∨ v.ownBlock = some b) w (w.setCell ⟨hb, 4, none⟩ (.int .i64 (M : Int))) := hb1.wide (fun b _ q => .inl q)
  have HXL : Hid (xs.length = n * 2) := hv.1
  have HFAR : Hid (∀ e ∈ es, ∀ g, v.ownBlock = some g → e.v.ownBlock ≠ some g) := hfar
  have HMI : Hid ((N : Int) + 1 = (M : Int)) := hMi
  clear hO hv hb1 hfar
  go_loopw [4] (fun t wr => ∃ (i : Nat), i ≤ n ∧ t = .int .i64 (i : Int) ∧ Hid (HAt wr hb { s with n := (N : Int) + 1 }) ∧ Lks wr B s.lacks s.lmarks es ∧ wr.ownsRow Bv 110 2 v n (lkRow M i ++ xs.drop (i * 2)) ∧ But (fun b => b = hb ∨ s.lacks.ownBlock = some b ∨ s.lmarks.ownBlock = some b ∨ v.ownBlock = some b) w wr) (fun t _ => n - (intOf t).toNat)
  case atStart => exact ⟨0, by omega, rfl, HH1, hO1, by simpa [lkRow] using hv1, hbS⟩
  case round =>
    clear HH1 hO1 hv1 hbS hc4 hf hMi
    obtain ⟨i, hi, rfl, HHr, hOr, hvr, hbr⟩ := hrel
    have hc4 : wr.cell? ⟨hb, 4, none⟩ = some (.int .i64 (M : Int)) := by rw [HHr.out.cell 4, ← HMI.out]; rfl
    by_cases hlt2 : i < n
    · obtain ⟨g, c', hvg⟩ : ∃ g c', v = .slice (some ⟨g, 0, none⟩) n c' := by
        rcases hvr.2 with ⟨_, h2⟩ | ⟨g, cap, cur, h1, _⟩
        · omega
        · exact ⟨g, cap, h1⟩
      have e1 : (Value.slice a n c) = .slice (some ⟨g, 0, none⟩) n c' := by rw [← HV.out, hvg]
      simp only [Value.slice.injEq] at e1
      obtain ⟨rfl, _, rfl⟩ := e1
      obtain ⟨⟨x, hx⟩, ⟨x', hx'⟩⟩ := lkFill_at M xs i n HXL.out hlt2
      have hcx : wr.cell? ⟨g, i * 2, none⟩ = some x := own_cell2 hvr (by rw [hvg]; rfl) hx
      have hcx' : wr.cell? ⟨g, i * 2 + 1, none⟩ = some x' := own_cell2 hvr (by rw [hvg]; rfl) hx'
      have hfx := own_frozen hvr (g := g) (by rw [hvg]; rfl) (i * 2)
      have hfx' := own_frozen hvr (g := g) (by rw [hvg]; rfl) (i * 2 + 1)
      have hin : (i : Int) < (n : Int) := by omega
      have hgh : g ≠ hb := hOne g (by rw [hvg]; rfl)
      have hbx : But (fun b => v.ownBlock = some b) wr ((wr.setCell ⟨g, i * 2, none⟩ (.int .i64 (-(M : Int)))).setCell ⟨g, i * 2 + 1, none⟩ (.int .i64 0)) := ((But.refl _ _).setCell (S := fun b => v.ownBlock = some b) (.inl (by rw [hvg]; rfl)) _).setCell (S := fun b => v.ownBlock = some b) (p := ⟨g, i * 2 + 1, none⟩) (.inl (by rw [hvg]; rfl)) _
      have HH6 : Hid (HAt ((wr.setCell ⟨g, i * 2, none⟩ (.int .i64 (-(M : Int)))).setCell ⟨g, i * 2 + 1, none⟩ (.int .i64 0)) hb { s with n := (N : Int) + 1 }) := HHr.out.kept (hbx.block hb HHr.out.lt (fun q => by rw [hvg] at q; simp [Value.ownBlock] at q; exact hgh q))
      have hO6 := hOr.but hbx (own_own_ne hOr.own hvr (by decide)) (own_own_ne hOr.marks hvr (by decide)) (fun e he g' hg' q => HFAR.out e he g' q hg')
      have hv6 : ((wr.setCell ⟨g, i * 2, none⟩ (.int .i64 (-(M : Int)))).setCell ⟨g, i * 2 + 1, none⟩ (.int .i64 0)).ownsRow Bv 110 2 v n (lkRow M (i + 1) ++ xs.drop ((i + 1) * 2)) := by
        rw [← lkFill_step M xs i n HXL.out hlt2]
        rw [hvg] at hvr ⊢
        exact own_set2 hvr
      have hb6 := hbr.then hbx (fun b _ q => .inr (.inr (.inr q)))
      clear hvg hbx hvr hOr hbr hx hx'
      go_wp2_with fail
      exact ⟨⟨i + 1, by omega, by go_num, HH6, hO6, hv6, hb6⟩, by simp [intOf]; omega⟩
    · obtain rfl : i = n := by omega
      have hks : KSL w wr hb B Bv N i M s es v v s.lacks s.lmarks es es 0 :=
        ⟨HHr.out, hOr.own, hOr.marks, hOr.each, by
          have := hvr
          rw [List.drop_of_length_le (by rw [HXL.out]; exact Nat.le_refl _), List.append_nil] at this
          exact this, fun b q => .inl q, fun b q => .inl q, fun b q => .inl q, ⟨[], by simp, fun e he => by simp at he⟩, fun e he g h1 h2 => absurd h1 (HFAR.out e he g h2), hbr⟩
      obtain ⟨iB, hiB, hiB0, hiB1, hiB2⟩ := Tryd.lacks_parts
      obtain ⟨iI, hiI, hiI0, hiI1, hiI2⟩ := Tryd.int_parts
      obtain ⟨iU, hiU, hiU0, hiU1, hiU2⟩ := Tryd.lack_parts
      clear HHr hOr hvr hbr hc4
      go_wp2_with fail
      go_loopw [1, 5] (fun t1 t6 wr => ∃ (k : Nat) (eo : List Ent) (vo vm : Value), k ≤ 4 ∧ t6 = .int .i64 (k : Int) ∧ Hid (eo.length = es.length + k) ∧ KSL w wr hb B Bv N i M s es v t1 vo vm eo eo k) (fun _ t _ => 4 - (intOf t).toNat)
      case atStart => exact ⟨0, es, s.lacks, s.lmarks, by omega, rfl, rfl, by rw [← HV.out]; exact hks⟩
      case round =>
        clear hks
        obtain ⟨k, eo, vo, vm, hk, rfl, HEL, hK⟩ := hrel
        by_cases hlt4 : k < 4
        · obtain ⟨wA, rfl⟩ : ∃ x, x = wr := ⟨wr, rfl⟩
          obtain ⟨la, lc, rfl, _⟩ := own_form2 hK.row
          have hk4 : (k : Int) < 4 := by omega
          have hlen : eo.length ≤ 1000010 := by rw [HEL.out]; omega
          have hsz := hK.but.size
          have hc5 : wA.cell? ⟨hb, 9, none⟩ = some vo := hK.hands.cell 9
          go_wp2_with (at_builtin; refine wpList_append_lies _ rfl _ _ _ rfl B 55 iB (.slice none 0 0) 1 24 Tryd.underlying40 hiB hiB0 hiB1 hiB2 rfl (by omega) vo eo.length (eo.map (·.v)) rfl (hK.own.alloc _) ⟨wA.heap.size, 0, none⟩ 1 1 [.slice la (i + k) lc] rfl rfl ?c1 ?c2 (by omega) ?c3 ?c4 ?c5 (wA.heap.size + 1) ?c6 ?_)
          case c1 => exact cell_one_at _ _ _ _ rfl
          case c2 => intro u hu; simp at hu; subst hu; rfl
          case c3 => unfold maxLen; omega
          case c4 => omega
          case c5 => simp; omega
          case c6 => simp
          intro g1 cap1 w2 hown2 hgr2 hlie2 hlt2'
          have hb2 : But (fun b => vo.ownBlock = some b) wA w2 := ((But.refl _ wA).alloc _).grown hgr2 (fun k hk => .inl hk)
          have hK3 := hK.pushOut hM3 (by omega) hb2 hown2 (fun b hq => by
            have e : g1 = b := by simpa [Value.ownBlock] using hq
            subst e
            rcases hlie2 with q | q
            · exact .inl q
            · right; omega)
          have hH2 : HAt w2 hb { s with n := (N : Int) + 1, lacks := vo, lmarks := vm } := hK.hands.kept (hb2.block hb hK.hands.lt (fun q => own_ne hK.own q hK.hands (by decide) rfl))
          have hc52 : w2.cell? ⟨hb, 9, none⟩ = some vo := hH2.cell 9
          have hf52 := hH2.frozen 9
          clear hown2 hgr2 hlie2 hb2 hK hc5
          go_upto_region 9 with fail
          obtain ⟨w3, hw3⟩ : ∃ x, x = w2.setCell ⟨hb, 9, none⟩ (.slice (some ⟨g1, 0, none⟩) (eo.length + 1) cap1) := ⟨_, rfl⟩
          rw [← hw3] at hK3
          rw [← hw3]
          clear hw3 hc52 hf52 hH2
          have hc6 : w3.cell? ⟨hb, 10, none⟩ = some vm := hK3.hands.cell 10
          have hc4 : w3.cell? ⟨hb, 4, none⟩ = some (.int .i64 (M : Int)) := by rw [hK3.hands.cell 4, ← HMI.out]; rfl
          have hf6 := hK3.hands.frozen 10
          have hsz3 := hK3.but.size
          have hmo : ∀ u ∈ [Value.int .i64 (-(M : Int))], u.oneCell' = true := by intro u hu; simp at hu; subst hu; rfl
          have hm1 : eo.length + 1 ≤ maxLen := by unfold maxLen; omega
          have hm2 : (eo.length + 1) * 8 ≤ 140737488355328 := by omega
          have HM3 : Hid (∀ o, B ≤ (w3.alloc o).drew.heap.size) := fun o => by simp; omega
          have HMK : Hid (∀ o, (w3.alloc o).drew.ownsRow B 3 1 vm eo.length (eo.map fun e => .int .i64 (-(e.m : Int)))) := fun o => hK3.marks.alloc o
          have hbl3 : hb < w3.heap.size := hK3.hands.lt
          have hbn3 : hb ≠ w3.heap.size := Nat.ne_of_lt hbl3
          have hneg : IntKind.i64.wrap (-(M : Int)) = -(M : Int) := by rw [IntKind.wrap_i64]; omega
          go_cut [] from 29 to 65 (fun wx => ∃ (vm' : Value) (e : Ent), KSL w wx hb B Bv N i M s es v (.slice la (i + k) lc) (.slice (some ⟨g1, 0, none⟩) (eo.length + 1) cap1) vm' (eo ++ [e]) (eo ++ [e]) k)
          case first =>
            go_region_law ((refine step_append_lies _ (by rfl) _ _ _ (by rfl) B 3 iI (.int .i64 0) 1 8 Tryd.underlying32 hiI hiI0 hiI1 hiI2 rfl Nat.one_pos vm eo.length (eo.map fun e => .int .i64 (-(e.m : Int))) (by rfl) (HMK.out _) ⟨w3.heap.size, 0, none⟩ 1 1 [.int .i64 (-(M : Int))] (by rfl) rfl (cell_one_at w3 _ _ _ rfl) hmo Nat.one_pos hm1 hm2 (HM3.out _) (w3.heap.size + 1) (by simp) ?_; intro g2 cap2 w4 hown4 hgr4 hlie4 hlt4; have hf64 := (hK3.sees hgr4).2.2; have hc64 := (hK3.sees hgr4).1))
            all_goals
              have hb4 : But (fun b => vm.ownBlock = some b) w3 w4 := ((But.refl _ w3).alloc _).drew.grown hgr4 (fun k hk => .inl hk)
              have hK5 := hK3.pushMark ⟨.slice la (i + k) lc, i + k, M⟩ rfl hb4 hown4 (fun b hq => by
                have e : g2 = b := by simpa [Value.ownBlock] using hq
                subst e
                rcases hlie4 with q | q
                · exact .inl q
                · right; omega)
              go_wp2_with fail
              go_meet
              exact ⟨_, _, hK5⟩
          case rest =>
            obtain ⟨vm5, e5, hK5⟩ := hcut
            obtain ⟨w5, rfl⟩ : ∃ x, x = wc := ⟨wc, rfl⟩
            clear hK3 HM3 HMK hc6 hc4 hf6 hmo hm1 hm2 hbl3 hbn3
            have hc45 : w5.cell? ⟨hb, 4, none⟩ = some (.int .i64 (M : Int)) := by rw [hK5.hands.cell 4, ← HMI.out]; rfl
            have hsz5 := hK5.but.size
            obtain ⟨XR, hXR⟩ : ∃ XR, XR = lkRow M (i + k) := ⟨_, rfl⟩
            have hrow5 := hK5.row
            rw [← hXR] at hrow5
            have HXR : Hid (XR = lkRow M (i + k)) := hXR
            clear hXR
            go_wp2_with (at_builtin; refine wpList_append_apart rfl _ _ _ rfl Bv 110 iU (.agg #[.int .i64 0, .int .i64 0]) 2 16 Tryd.underlying55 hiU hiU0 hiU1 hiU2 rfl (by omega) (.slice la (i + k) lc) (i + k) XR rfl (hrow5.alloc _) ⟨w5.heap.size, 0, none⟩ 1 1 [.int .i64 (-(M : Int)), .int .i64 0] rfl rfl ?c1 ?c2 (by omega) ?c3 ?c4 ?c5 ?c6 ?_)
            case c1 => exact cell_two_at _ _ _ _ _ rfl
            case c2 => intro u hu; simp at hu; rcases hu with rfl | rfl <;> rfl
            case c3 => unfold maxLen; omega
            case c4 => omega
            case c5 => omega
            case c6 => simp; omega
            intro g6 cap6 w6 hown6 hgr6 hlie6 hlt6
            have hb6 : But (fun b => (Value.slice la (i + k) lc).ownBlock = some b) w5 w6 := ((But.refl _ w5).alloc _).grown hgr6 (fun k hk => .inl hk)
            have hK7 := hK5.more hb6 (by rw [← HXR.out]; exact hown6) (by
              rcases hlie6 with q | ⟨q, hall⟩
              · exact .inl q
              · have q' : g6 = w5.heap.size + 1 := by simpa using q
                exact .inr ⟨by omega, fun j hj => by rw [hall j (by omega), Below.heap_alloc _ _ _ hj]⟩)
            clear hown6 hgr6 hlie6 hb6 hK5 hrow5
            go_wp2_with fail
            go_roundw
            case rel =>
              have HEL7 : Hid ((eo ++ [e5]).length = es.length + (k + 1)) := by show _ = _; simp [HEL.out]; omega
              exact ⟨k + 1, _, _, _, by omega, by go_num, HEL7, hK7⟩
            case measure => simp [intOf]; omega
        · obtain rfl : k = 4 := by omega
          go_wp2_with fail
          go_end0
          obtain ⟨es', h1, h2⟩ := hK.newAt
          have h3 : es'.length = 4 := by have := HEL.out; rw [h1, List.length_append] at this; omega
          refine ⟨rfl, es', vo, vm, ?_⟩
          rw [← HV.out]
          exact ⟨hK.hands, ⟨by rw [← h1]; exact hK.own, by rw [← h1]; exact hK.marks, by rw [← h1]; exact hK.each⟩, h3, hK.lacksAt, hK.marksAt, h2, hK.but⟩

end Go.Proofs.YtjabhnhejbhgjaaDoor

/- Hands.holds, where bytes and lacks are kept. (Written by gen_hold.py, after HoldWalk.) -/
namespace Go.Proofs.YtjabhnhejbhgjaaDoor
open Go.RowKit

theorem LkOk.form {w : World} {v : Value} {n m : Nat} (h : LkOk w v n m) : ∃ a c, v = .slice a n c ∧ ∀ k, k < n → ∃ g, a = some ⟨g, 0, none⟩ ∧ w.cell? ⟨g, k * 2, none⟩ = some (.int .i64 (-(m : Int))) ∧ w.cell? ⟨g, k * 2 + 1, none⟩ = some (.int .i64 0) := by
  rcases h with ⟨c, h1, h2⟩ | ⟨g, c, cs, h1, h2, h3⟩
  · exact ⟨none, c, by rw [h1, h2], fun k hk => by omega⟩
  · exact ⟨_, c, h1, fun k hk => ⟨g, rfl, by rw [cell_of_row w g _ _ _ _ h2]; exact (h3 k hk).1, by rw [cell_of_row w g _ _ _ _ h2]; exact (h3 k hk).2⟩⟩

set_option maxRecDepth 100000 in
set_option maxHeartbeats 4000000 in
theorem holdsL_any (hb B : Nat) (s : HS) (es ls : List Ent) (w : World) (hH : HAt w hb s) (hO : Outs w B s.out s.marks es) (hL : Lks w B s.lacks s.lmarks ls) (he : es.length ≤ 1000000) (hl : ls.length ≤ 1000000) (h7 : s.outer = .slice none 0 0) (h11 : s.objs = .slice none 0 0) :
    Calls Tryd.prog 32 #[.pointer (some ⟨hb, 0, none⟩)] w fun e w' => e = .returned (.bool true) ∧ ∃ nq, w' = w.drewN nq := by
  have hc5 : w.cell? ⟨hb, 5, none⟩ = some s.out := hH.cell 5
  have hc6 : w.cell? ⟨hb, 6, none⟩ = some s.marks := hH.cell 6
  have hc9 : w.cell? ⟨hb, 9, none⟩ = some s.lacks := hH.cell 9
  have hc10 : w.cell? ⟨hb, 10, none⟩ = some s.lmarks := hH.cell 10
  have hc7 : w.cell? ⟨hb, 7, none⟩ = some (.slice none 0 0) := by rw [hH.cell 7, ← h7]; rfl
  have hc11 : w.cell? ⟨hb, 11, none⟩ = some (.slice none 0 0) := by rw [hH.cell 11, ← h11]; rfl
  obtain ⟨oa, oc, hoa⟩ := own_len hO.own
  obtain ⟨ma, mc, hma⟩ := own_len hO.marks
  obtain ⟨pa, pc, hpa⟩ := own_len hL.own
  obtain ⟨qa, qc, hqa⟩ := own_len hL.marks
  rw [hoa] at hc5
  rw [hma] at hc6
  rw [hpa] at hc9
  rw [hqa] at hc10
  have HO : Hid (∀ i (hi : i < es.length), ∃ go gm, oa = some ⟨go, 0, none⟩ ∧ ma = some ⟨gm, 0, none⟩ ∧ w.cell? ⟨go, i, none⟩ = some es[i].v ∧ w.cell? ⟨gm, i, none⟩ = some (.int .i64 (es[i].m : Int))) := fun i hi => by
    obtain ⟨go, co, h1, _⟩ := hO.own.form (by omega)
    obtain ⟨gm, cm, h2, _⟩ := hO.marks.form (by omega)
    rw [hoa] at h1
    rw [hma] at h2
    simp only [Value.slice.injEq] at h1 h2
    refine ⟨go, gm, h1.1, h2.1, own_cell hO.own (by rw [hoa, h1.1]; rfl) (by simp [hi]), own_cell hO.marks (by rw [hma, h2.1]; rfl) (by simp [hi])⟩
  have HL : Hid (∀ i (hi : i < ls.length), ∃ go gm, pa = some ⟨go, 0, none⟩ ∧ qa = some ⟨gm, 0, none⟩ ∧ w.cell? ⟨go, i, none⟩ = some ls[i].v ∧ w.cell? ⟨gm, i, none⟩ = some (.int .i64 (-(ls[i].m : Int)))) := fun i hi => by
    obtain ⟨go, co, h1, _⟩ := hL.own.form (by omega)
    obtain ⟨gm, cm, h2, _⟩ := hL.marks.form (by omega)
    rw [hpa] at h1
    rw [hqa] at h2
    simp only [Value.slice.injEq] at h1 h2
    refine ⟨go, gm, h1.1, h2.1, own_cell hL.own (by rw [hpa, h1.1]; rfl) (by simp [hi]), own_cell hL.marks (by rw [hqa, h2.1]; rfl) (by simp [hi])⟩
  have HE : Hid (∀ i (hi : i < es.length), KOk w es[i].v es[i].n es[i].m ∧ es[i].m < 250 ∧ es[i].n ≤ 140737488355328) := fun i hi => hO.each _ (List.getElem_mem hi)
  have HF : Hid (∀ i (hi : i < ls.length), LkOk w ls[i].v ls[i].n ls[i].m ∧ ls[i].m ≤ 1000000001 ∧ ls[i].n ≤ 140737488355328) := fun i hi => hL.each _ (List.getElem_mem hi)
  clear hO hL hH h7 h11 hoa hma hpa hqa
  obtain ⟨ne, hne⟩ : ∃ x, x = es.length := ⟨_, rfl⟩
  obtain ⟨nl, hnl⟩ : ∃ x, x = ls.length := ⟨_, rfl⟩
  rw [← hne] at hc5 hc6 he
  rw [← hnl] at hc9 hc10 hl
  have HNE : Hid (ne = es.length) := hne
  have HNL : Hid (nl = ls.length) := hnl
  clear hne hnl
  go_enter Tryd.func32, Tryd.ntmps32
  go_wp2_with fail
  go_loopw [3] (fun t wr => ∃ (i nq : Nat), i ≤ ne ∧ t = .int .i64 (i : Int) ∧ wr = w.drewN nq) (fun t _ => ne - (intOf t).toNat)
  case atStart => exact ⟨0, 0, by omega, rfl, rfl⟩
  case round =>
    obtain ⟨i, nq, hi, rfl, rfl⟩ := hrel
    by_cases hlt : i < ne
    · have hlt' : i < es.length := by rw [← HNE.out]; exact hlt
      obtain ⟨go, gm, rfl, rfl, hgo, hgm⟩ := HO.out i hlt'
      obtain ⟨hK, hm, hnb⟩ := HE.out i hlt'
      obtain ⟨a, c, hv, hcell⟩ := hK.form
      rw [hv] at hgo
      generalize es[i].m = m at hgm hm hcell hK hv
      generalize es[i].n = n at hgo hcell hK hv hnb
      clear hv hK
      have HC : Hid (∀ k, k < n → ∃ g, a = some ⟨g, 0, none⟩ ∧ w.cell? ⟨g, k, none⟩ = some (.int .u8 (m : Int))) := hcell
      clear hcell
      have hin : (i : Int) < (ne : Int) := by omega
      go_wp2_with fail
      go_loopw [4] (fun t wr => ∃ (k nq : Nat), k ≤ n ∧ t = .int .i64 (k : Int) ∧ wr = w.drewN nq) (fun t _ => n - (intOf t).toNat)
      case atStart => exact ⟨0, nq, by omega, rfl, rfl⟩
      case round =>
        obtain ⟨k, nq2, hk, rfl, rfl⟩ := hrel
        by_cases hlt2 : k < n
        · obtain ⟨g, rfl, hg⟩ := HC.out k hlt2
          have hkn : (k : Int) < (n : Int) := by omega
          have hmm : ((m : Int) != (m : Int)) = false := by simp
          go_wp2_with fail
          go_quiet (fail)
          go_wp2_with fail
          refine ⟨?_, by simp [intOf]; omega⟩
          first
            | exact ⟨k + 1, _, by omega, by go_num, rfl⟩
            | ((repeat apply Exists.intro); exact ⟨⟨k + 1, _, by omega, by go_num, rfl⟩, rfl⟩)
        · obtain rfl : k = n := by omega
          go_wp2_with fail
          refine ⟨?_, by simp [intOf]; omega⟩
          first
            | exact ⟨i + 1, _, by omega, by go_num, rfl⟩
            | ((repeat apply Exists.intro); exact ⟨⟨i + 1, _, by omega, by go_num, rfl⟩, rfl⟩)
    · obtain rfl : i = ne := by omega
      go_wp2_with fail
      go_loopw [5] (fun t wr => t = .int .i64 0 ∧ wr = w.drewN nq) (fun _ _ => 0)
      case atStart => exact ⟨rfl, rfl⟩
      case round =>
        obtain ⟨rfl, rfl⟩ := hrel
        go_wp2_with fail
        go_loopw [8] (fun t wr => ∃ (j nq : Nat), j ≤ nl ∧ t = .int .i64 (j : Int) ∧ wr = w.drewN nq) (fun t _ => nl - (intOf t).toNat)
        case atStart => exact ⟨0, nq, by omega, rfl, rfl⟩
        case round =>
          obtain ⟨j, nq4, hj, rfl, rfl⟩ := hrel
          by_cases hlt : j < nl
          · have hlt' : j < ls.length := by rw [← HNL.out]; exact hlt
            obtain ⟨go, gm, rfl, rfl, hgo, hgm⟩ := HL.out j hlt'
            obtain ⟨hK, hm, hnb⟩ := HF.out j hlt'
            obtain ⟨a, c, hv, hcell⟩ := hK.form
            rw [hv] at hgo
            generalize ls[j].m = m at hgm hm hcell hK hv
            generalize ls[j].n = n at hgo hcell hK hv hnb
            clear hv hK
            have HC : Hid (∀ k, k < n → ∃ g, a = some ⟨g, 0, none⟩ ∧ w.cell? ⟨g, k * 2, none⟩ = some (.int .i64 (-(m : Int))) ∧ w.cell? ⟨g, k * 2 + 1, none⟩ = some (.int .i64 0)) := hcell
            clear hcell
            have hin : (j : Int) < (nl : Int) := by omega
            go_wp2_with fail
            go_loopw [9] (fun t wr => ∃ (k nq : Nat), k ≤ n ∧ t = .int .i64 (k : Int) ∧ wr = w.drewN nq) (fun t _ => n - (intOf t).toNat)
            case atStart => exact ⟨0, nq4, by omega, rfl, rfl⟩
            case round =>
              obtain ⟨k, nq2, hk, rfl, rfl⟩ := hrel
              by_cases hlt2 : k < n
              · obtain ⟨g, rfl, hg0, hg1⟩ := HC.out k hlt2
                have hkn : (k : Int) < (n : Int) := by omega
                go_wp2_with fail
                go_quiet (fail)
                go_wp2_with fail
                exact ⟨⟨k + 1, _, by omega, by go_num, rfl⟩, by simp [intOf]; omega⟩
              · obtain rfl : k = n := by omega
                go_wp2_with fail
                refine ⟨?_, by simp [intOf]; omega⟩
                first
                  | exact ⟨j + 1, _, by omega, by go_num, rfl⟩
                  | ((repeat apply Exists.intro); exact ⟨⟨j + 1, _, by omega, by go_num, rfl⟩, rfl⟩)
          · obtain rfl : j = nl := by omega
            go_wp2_with fail
            go_loopw [10] (fun t wr => t = .int .i64 0 ∧ wr = w.drewN nq4) (fun _ _ => 0)
            case atStart => exact ⟨rfl, rfl⟩
            case round =>
              obtain ⟨rfl, rfl⟩ := hrel
              go_wp2_with fail
              go_ret
              exact ⟨rfl, nq4, rfl⟩

end Go.Proofs.YtjabhnhejbhgjaaDoor
