import Derived.Test.YtjabhnhejbhgjaaGreatDoorRefParse
import Derived.Test.YtjabhnhejbhgjaaGreatDoorToldWalk
import Derived.Test.YtjabhnhejbhgjaaGreatDoorWireParse
import Derived.Test.YtjabhnhejbhgjaaGreatDoorMany7
import Derived.Test.YtjabhnhejbhgjaaGreatDoorMany3
/- told of a *api.Bad; murmurref.Parse where there is no configuration. -/
namespace Go.Proofs.YtjabhnhejbhgjaaGreatDoor
open Go.RowKit

set_option maxRecDepth 100000 in
set_option maxHeartbeats 1000000 in
theorem told_bad (A : Nat → Addr) (B : Nat) (i : Nat) (hi : i < 8) (pb : Nat) (z : Int) (w : World) (hE : Errs A B w) (hblk : w.heap[pb]? = some (.cells #[.int .i64 z, E A (i + 1)] 168 (0, 0))) :
    Calls Tryz.prog 56 #[.iface 166 (.pointer (some ⟨pb, 0, none⟩))] w fun e w' => e = .returned (.agg #[.int .i64 ((i : Int) + 1), .int .i64 z]) ∧ Below w.heap.size w w' := by
  have hN := fun w1 h1 => number_any A B i hi w1 h1
  have hT := Tryz.assertBad
  have hpl := lt_of_block hblk
  rw [E_succ] at hN hblk
  have hb0 : Below w.heap.size w (w.alloc (.cells #[.int .i64 0, .int .i64 0] 139)) := (Below.refl _ _).alloc (Nat.le_refl _) _
  have hnew := heap_alloc_new w (.cells #[.int .i64 0, .int .i64 0] 139)
  go_enter Tryz.func56, Tryz.ntmps56
  go_upto_region 1 with fail
  generalize w.alloc (.cells #[.int .i64 0, .int .i64 0] 139) = W at *
  have hE1 : Errs A B W := hE.below (hb0.mono hE.size)
  have hblk1 : W.heap[pb]? = some (.cells #[.int .i64 z, .iface 269 (.pointer (some (A i)))] 168 (0, 0)) := by rw [hb0.block _ hpl]; exact hblk
  have d0 : W.cell? ⟨pb, 0, none⟩ = some (.int .i64 z) := cell_of_row W _ 0 _ _ _ hblk1
  have d1 : W.cell? ⟨pb, 1, none⟩ = some (.iface 269 (.pointer (some (A i)))) := cell_of_row W _ 1 _ _ _ hblk1
  have hpn : pb ≠ w.heap.size := by omega
  have hsW := hb0.size
  have hlW := lt_of_block hnew
  have hpW : pb < W.heap.size := by omega
  have hEd : Errs A B W.drew := hE1.shrink W.drew ⟨rfl, rfl, rfl, Nat.le_refl _, fun _ _ => rfl⟩
  go_upto_region 9 with fail
  go_region_with (go_at_call 97; refine (hN W.drew hEd).mono ?_; rintro e W1 ⟨rfl, hb1⟩; have hW1 := Below.undrew hb1; have hn1 : W1.heap[w.heap.size]? = some (.cells #[.int .i64 0, .int .i64 0] 139 (0, 0)) := (hW1.block _ hlW).trans hnew; have p0 : W1.cell? ⟨pb, 0, none⟩ = some (.int .i64 z) := cell_of_row W1 _ 0 _ _ _ ((hW1.block _ hpW).trans hblk1); have q0 : W1.cell? ⟨w.heap.size, 0, none⟩ = some (.int .i64 0) := cell_of_row W1 _ 0 _ _ _ hn1; have q1 : W1.cell? ⟨w.heap.size, 1, none⟩ = some (.int .i64 0) := cell_of_row W1 _ 1 _ _ _ hn1; have f0 := frozen_of_row W1 _ 0 _ _ hn1; have f1 := frozen_of_row W1 _ 1 _ _ hn1)
  all_goals
    have hp := put2 W1 w.heap.size _ (.int .i64 0) (.int .i64 0) (.int .i64 ((i : Int) + 1)) (.int .i64 z) hn1
    go_wp2_with fail
    generalize (W1.setCell ⟨w.heap.size, 0, none⟩ (.int .i64 ((i : Int) + 1))).setCell ⟨w.heap.size, 1, none⟩ (.int .i64 z) = W9 at hp ⊢
    obtain ⟨hp1, hp2⟩ := hp
    have r0 : W9.cell? ⟨w.heap.size, 0, none⟩ = some (.int .i64 ((i : Int) + 1)) := cell_of_row W9 _ 0 _ _ _ hp1
    have r1 : W9.cell? ⟨w.heap.size, 1, none⟩ = some (.int .i64 z) := cell_of_row W9 _ 1 _ _ _ hp1
    have hlow9 : Below w.heap.size w W9 := (hb0.trans (hW1.mono hsW)).trans (hp2.toBelow (by have := hW1.size; omega) (fun k hk q => by omega))
    exact bodyPost_ret (v := .agg #[.int .i64 ((i : Int) + 1), .int .i64 z]) (by simp [results, Tryz.results56, go_sem, r0, r1]) rfl ⟨rfl, hlow9⟩

set_option maxRecDepth 100000 in
set_option maxHeartbeats 1000000 in
theorem rparse_no (v : Value) (K N S : Int) (w : World) (hcb : cfgB K N S = false) :
    Calls Tryz.prog 135 #[.agg #[.int .i64 K, .int .i64 N, .int .i64 S], v] w fun e w' => e = .returned (.tuple #[.agg #[.int .i64 0, .int .i64 0, .int .i64 0, .int .i64 0, .int .i64 0, .slice none 0 0, .slice none 0 0], .agg #[.int .i64 1, .int .i64 (-1)]]) ∧ Below w.heap.size w w' := by
  have hst := PRSt.start w K N S
  go_enter Tryz.func135, Tryz.ntmps135
  go_upto_region 1 with fail
  generalize (((w.alloc (.cells #[.int .i64 K, .int .i64 N, .int .i64 S] 30)).alloc (.cells #[.int .i64 0, .int .i64 0, .int .i64 0, .int .i64 0, .int .i64 0, .slice none 0 0, .slice none 0 0] 60)).alloc (.cells #[.int .i64 0, .int .i64 0] 139)) = W at *
  rw [show w.heap.size + 1 + 1 = w.heap.size + 2 from rfl]
  obtain ⟨k0, k1, k2⟩ := hst.cfgs
  have hlt := hst.lt
  go_wp2_with fail
  refine (right_any K N S W).mono ?_
  rw [hcb]
  rintro e W1 ⟨rfl, hb1⟩
  have hst1 := hst.above (hb1.mono hlt)
  have hlt1 := hst1.lt
  clear k0 k1 k2 hst hb1
  go_wp2_with fail
  refine (plain_err 1 W1).mono ?_
  rintro e W2 ⟨rfl, hb2⟩
  have hst2 := hst1.above (hb2.mono hlt1)
  clear hst1 hb2
  obtain ⟨c0, c1, c2, c3, c4, c5, c6⟩ := row7 hst2.res
  have e0 : W2.cell? ⟨w.heap.size + 2, 0, none⟩ = some (.int .i64 0) := cell_of_row W2 _ 0 _ _ _ hst2.err
  have e1 : W2.cell? ⟨w.heap.size + 2, 1, none⟩ = some (.int .i64 0) := cell_of_row W2 _ 1 _ _ _ hst2.err
  have f0 := frozen_of_row W2 _ 0 _ _ hst2.res
  have f1 := frozen_of_row W2 _ 1 _ _ hst2.res
  have f2 := frozen_of_row W2 _ 2 _ _ hst2.res
  have f3 := frozen_of_row W2 _ 3 _ _ hst2.res
  have f4 := frozen_of_row W2 _ 4 _ _ hst2.res
  have f5 := frozen_of_row W2 _ 5 _ _ hst2.res
  have f6 := frozen_of_row W2 _ 6 _ _ hst2.res
  have g0 := frozen_of_row W2 _ 0 _ _ hst2.err
  have g1 := frozen_of_row W2 _ 1 _ _ hst2.err
  have hne9 : ¬ w.heap.size + 1 = w.heap.size + 2 := by omega
  have hp := put9 W2 (w.heap.size + 1) (w.heap.size + 2) (.int .i64 0) (.int .i64 0) (.int .i64 0) (.int .i64 0) (.int .i64 0) (.slice none 0 0) (.slice none 0 0) (.int .i64 0) (.int .i64 0) (.int .i64 0) (.int .i64 0) (.int .i64 0) (.int .i64 0) (.int .i64 0) (.slice none 0 0) (.slice none 0 0) (.int .i64 1) (.int .i64 (-1)) hst2.res hst2.err (by omega)
  go_wp2_with fail
  generalize (((((((((W2.setCell ⟨w.heap.size + 1, 0, none⟩ (.int .i64 0)).setCell ⟨w.heap.size + 1, 1, none⟩ (.int .i64 0)).setCell ⟨w.heap.size + 1, 2, none⟩ (.int .i64 0)).setCell ⟨w.heap.size + 1, 3, none⟩ (.int .i64 0)).setCell ⟨w.heap.size + 1, 4, none⟩ (.int .i64 0)).setCell ⟨w.heap.size + 1, 5, none⟩ (.slice none 0 0)).setCell ⟨w.heap.size + 1, 6, none⟩ (.slice none 0 0)).setCell ⟨w.heap.size + 2, 0, none⟩ (.int .i64 1)).setCell ⟨w.heap.size + 2, 1, none⟩ (.int .i64 (-1))) = W9 at hp ⊢
  obtain ⟨hp1, hp2, hp3⟩ := hp
  obtain ⟨d0, d1, d2, d3, d4, d5, d6⟩ := row7 (show W9.heap[w.heap.size + 1]? = _ from hp1)
  have d7 : W9.cell? ⟨w.heap.size + 2, 0, none⟩ = some (.int .i64 1) := cell_of_row _ _ 0 _ _ _ (show W9.heap[w.heap.size + 2]? = _ from hp2)
  have d8 : W9.cell? ⟨w.heap.size + 2, 1, none⟩ = some (.int .i64 (-1)) := cell_of_row _ _ 1 _ _ _ (show W9.heap[w.heap.size + 2]? = _ from hp2)
  clear c0 c1 c2 c3 c4 c5 c6 f0 f1 f2 f3 f4 f5 f6 g0 g1 e0 e1
  exact bodyPost_ret (v := .tuple #[.agg #[.int .i64 0, .int .i64 0, .int .i64 0, .int .i64 0, .int .i64 0, .slice none 0 0, .slice none 0 0], .agg #[.int .i64 1, .int .i64 (-1)]]) (by simp [results, Tryz.results135, go_sem, d0, d1, d2, d3, d4, d5, d6, d7, d8]) rfl (⟨rfl, hst2.low.trans (hp3.toBelow (by have := hst2.low.size; omega) (fun k hk q => by omega))⟩)

end Go.Proofs.YtjabhnhejbhgjaaGreatDoor

/- murmur.Parse. (Written by gen_mparse.py.) -/
namespace Go.Proofs.YtjabhnhejbhgjaaGreatDoor
open Go.RowKit

/-- From the inner call's answer to the outer one's. -/
theorem ParseGives.lift {A : Nat → Addr} {K N S rb : Nat} {l : List Gf.F} {w W W1 W2 : World} {e : Ending} (h : ParseGives A K N S l W e W1) (hb : Below w.heap.size w W) (h2 : But (fun g => g = rb) W1 W2) (hr : rb < W.heap.size) (hr2 : w.heap.size ≤ rb) : ParseGives A K N S l w e W2 := by
  obtain ⟨h1, hb1⟩ := h
  have hs := hb.size
  have hs1 := hb1.size
  refine ⟨?_, (hb.trans (hb1.mono hs)).trans (h2.toBelow (by omega) (fun k hk q => by omega))⟩
  cases hp : parseE K N S l with
  | some ep =>
    obtain ⟨c, k⟩ := ep
    rw [hp] at h1
    obtain ⟨v, he, pb, hv, hpb, hblk⟩ := h1
    exact ⟨v, he, pb, hv, by omega, by rw [h2.block pb (lt_of_block hblk) (by omega)]; exact hblk⟩
  | none =>
    rw [hp] at h1
    by_cases hk : bt l 0 = 1
    · rw [if_pos hk] at h1
      rw [if_pos hk]
      obtain ⟨a, c1, he, ho⟩ := h1
      exact ⟨a, c1, he, own_base2 (h2.own ho (fun g hg q => by have := (ho.lt g hg).1; omega)) hs⟩
    · rw [if_neg hk] at h1
      rw [if_neg hk]
      obtain ⟨a, c1, he, ho⟩ := h1
      exact ⟨a, c1, he, own_base2 (h2.own ho (fun g hg q => by have := (ho.lt g hg).1; omega)) hs⟩

/-- The value of what Parse gives: seven parts and an error. -/
theorem ParseGives.form {A : Nat → Addr} {K N S : Nat} {l : List Gf.F} {W W1 : World} {e : Ending} (h : ParseGives A K N S l W e W1) : ∃ (x0 x1 x2 x3 x4 : Int) (a5 a6 : Option Addr) (n5 c5 n6 c6 : Nat) (v : Value), e = .returned (.tuple #[.agg #[.int .i64 x0, .int .i64 x1, .int .i64 x2, .int .i64 x3, .int .i64 x4, .slice a5 n5 c5, .slice a6 n6 c6], v]) := by
  obtain ⟨h1, _⟩ := h
  cases hp : parseE K N S l with
  | some ep =>
    obtain ⟨c, k⟩ := ep
    rw [hp] at h1
    obtain ⟨v, he, _⟩ := h1
    exact ⟨_, _, _, _, _, _, _, _, _, _, _, _, he⟩
  | none =>
    rw [hp] at h1
    by_cases hk : bt l 0 = 1
    · rw [if_pos hk] at h1
      obtain ⟨a, c1, he, _⟩ := h1
      exact ⟨_, _, _, _, _, _, _, _, _, _, _, _, he⟩
    · rw [if_neg hk] at h1
      obtain ⟨a, c1, he, _⟩ := h1
      exact ⟨_, _, _, _, _, _, _, _, _, _, _, _, he⟩

set_option maxRecDepth 100000 in
set_option maxHeartbeats 2000000 in
theorem mparse_ok (A : Nat → Addr) (B0 : Nat) (a : Option Addr) (b o n c K N S : Nat) (l : List Gf.F) (w : World) (hE : Errs A B0 w) (hET : ErrType w) (hB9 : 8 < w.heap.size) (hcfg : Cfg K N S) (hcb : cfgB (K : Int) (N : Int) (S : Int) = true) (hl : l.length = n) (hn : n ≤ c) (hc : c ≤ 9223372036854775807) (hn2 : n ≤ 140737488355328) (ha : 0 < n → a = some ⟨b, o, none⟩) (hB : Bs w b o l) (hb : 0 < n → b < w.heap.size) :
    Calls Tryz.prog 22 #[.agg #[.int .i64 (K : Int), .int .i64 (N : Int), .int .i64 (S : Int)], .slice a n c] w (ParseGives A K N S l w) := by
  have hst := PSt.start w K N S
  go_enter Tryz.func22, Tryz.ntmps22
  go_upto_region 1 with fail
  generalize ((w.alloc (.cells #[.int .i64 (K : Int), .int .i64 (N : Int), .int .i64 (S : Int)] 30)).alloc (.cells #[.int .i64 0, .int .i64 0, .int .i64 0, .int .i64 0, .int .i64 0, .slice none 0 0, .slice none 0 0] 60)) = W at *
  have hlt0 := hst.lt
  have k0 : W.cell? ⟨w.heap.size, 0, none⟩ = some (.int .i64 (K : Int)) := cell_of_row W _ 0 _ _ _ hst.cfg
  have k1 : W.cell? ⟨w.heap.size, 1, none⟩ = some (.int .i64 (N : Int)) := cell_of_row W _ 1 _ _ _ hst.cfg
  have k2 : W.cell? ⟨w.heap.size, 2, none⟩ = some (.int .i64 (S : Int)) := cell_of_row W _ 2 _ _ _ hst.cfg
  go_wp2_with fail
  refine (isConfig_any (K : Int) (N : Int) (S : Int) W).mono ?_
  rw [hcb]
  rintro e W1 ⟨rfl, hb1⟩
  have hst1 := hst.above (hb1.mono hlt0)
  have hlt1 := hst1.lt
  clear k0 k1 k2 hst
  have k0 : W1.cell? ⟨w.heap.size, 0, none⟩ = some (.int .i64 (K : Int)) := cell_of_row W1 _ 0 _ _ _ hst1.cfg
  have k1 : W1.cell? ⟨w.heap.size, 1, none⟩ = some (.int .i64 (N : Int)) := cell_of_row W1 _ 1 _ _ _ hst1.cfg
  have k2 : W1.cell? ⟨w.heap.size, 2, none⟩ = some (.int .i64 (S : Int)) := cell_of_row W1 _ 2 _ _ _ hst1.cfg
  go_wp2_with fail
  refine (parse_any A B0 a b o n c K N S l W1 (hst1.errs hE) (hET.below hst1.low hB9) (by have := hst1.low.size; omega) hcfg hl hn hc hn2 ha (fun i hi => by rw [hst1.low.cell (p := ⟨b, o + i, none⟩) (hb (by omega))]; exact hB i hi) (fun h => by have := hb h; omega)).mono ?_
  intro e W2 hG
  have hlow2 := hG.2
  obtain ⟨x0, x1, x2, x3, x4, a5, a6, n5, z5, n6, z6, v, rfl⟩ := hG.form
  have hres2 : W2.heap[w.heap.size + 1]? = _ := (hlow2.block _ (by omega)).trans hst1.res
  clear k0 k1 k2
  obtain ⟨c0, c1, c2, c3, c4, c5, c6⟩ := row7 hres2
  have f0 := frozen_of_row W2 _ 0 _ _ hres2
  have f1 := frozen_of_row W2 _ 1 _ _ hres2
  have f2 := frozen_of_row W2 _ 2 _ _ hres2
  have f3 := frozen_of_row W2 _ 3 _ _ hres2
  have f4 := frozen_of_row W2 _ 4 _ _ hres2
  have f5 := frozen_of_row W2 _ 5 _ _ hres2
  have f6 := frozen_of_row W2 _ 6 _ _ hres2
  have hp := put7 W2 (w.heap.size + 1) (.int .i64 0) (.int .i64 0) (.int .i64 0) (.int .i64 0) (.int .i64 0) (.slice none 0 0) (.slice none 0 0) (.int .i64 x0) (.int .i64 x1) (.int .i64 x2) (.int .i64 x3) (.int .i64 x4) (.slice a5 n5 z5) (.slice a6 n6 z6) hres2
  go_wp2_with fail
  generalize (((((((W2.setCell ⟨w.heap.size + 1, 0, none⟩ (.int .i64 x0)).setCell ⟨w.heap.size + 1, 1, none⟩ (.int .i64 x1)).setCell ⟨w.heap.size + 1, 2, none⟩ (.int .i64 x2)).setCell ⟨w.heap.size + 1, 3, none⟩ (.int .i64 x3)).setCell ⟨w.heap.size + 1, 4, none⟩ (.int .i64 x4)).setCell ⟨w.heap.size + 1, 5, none⟩ (.slice a5 n5 z5)).setCell ⟨w.heap.size + 1, 6, none⟩ (.slice a6 n6 z6)) = W9 at hp ⊢
  obtain ⟨hp1, hp2⟩ := hp
  obtain ⟨d0, d1, d2, d3, d4, d5, d6⟩ := row7 hp1
  clear c0 c1 c2 c3 c4 c5 c6 f0 f1 f2 f3 f4 f5 f6
  exact bodyPost_ret (v := .tuple #[.agg #[.int .i64 x0, .int .i64 x1, .int .i64 x2, .int .i64 x3, .int .i64 x4, .slice a5 n5 z5, .slice a6 n6 z6], v]) (by simp [results, Tryz.results22, go_sem, d0, d1, d2, d3, d4, d5, d6]) rfl (hG.lift hst1.low hp2 (by omega) (by omega))

set_option maxRecDepth 100000 in
set_option maxHeartbeats 2000000 in
theorem mparse_no (A : Nat → Addr) (B0 : Nat) (v : Value) (K N S : Int) (w : World) (hE : Errs A B0 w) (hcb : cfgB K N S = false) :
    Calls Tryz.prog 22 #[.agg #[.int .i64 K, .int .i64 N, .int .i64 S], v] w fun e w' => e = .returned (.tuple #[.agg #[.int .i64 0, .int .i64 0, .int .i64 0, .int .i64 0, .int .i64 0, .slice none 0 0, .slice none 0 0], E A 1]) ∧ Below w.heap.size w w' := by
  have hb0 : Below w.heap.size w ((w.alloc (.cells #[.int .i64 K, .int .i64 N, .int .i64 S] 30)).alloc (.cells #[.int .i64 0, .int .i64 0, .int .i64 0, .int .i64 0, .int .i64 0, .slice none 0 0, .slice none 0 0] 60)) := ((Below.refl _ _).alloc (Nat.le_refl _) _).alloc (by simp) _
  have hcf := heap_alloc_new w (.cells #[.int .i64 K, .int .i64 N, .int .i64 S] 30)
  have hrs := heap_alloc_new (w.alloc (.cells #[.int .i64 K, .int .i64 N, .int .i64 S] 30)) (.cells #[.int .i64 0, .int .i64 0, .int .i64 0, .int .i64 0, .int .i64 0, .slice none 0 0, .slice none 0 0] 60)
  rw [World.size_alloc] at hrs
  have hcf2 : ((w.alloc (.cells #[.int .i64 K, .int .i64 N, .int .i64 S] 30)).alloc (.cells #[.int .i64 0, .int .i64 0, .int .i64 0, .int .i64 0, .int .i64 0, .slice none 0 0, .slice none 0 0] 60)).heap[w.heap.size]? = _ := (Below.heap_alloc _ _ _ (by simp)).trans hcf
  go_enter Tryz.func22, Tryz.ntmps22
  go_upto_region 1 with fail
  generalize ((w.alloc (.cells #[.int .i64 K, .int .i64 N, .int .i64 S] 30)).alloc (.cells #[.int .i64 0, .int .i64 0, .int .i64 0, .int .i64 0, .int .i64 0, .slice none 0 0, .slice none 0 0] 60)) = W at *
  clear hcf
  have k0 : W.cell? ⟨w.heap.size, 0, none⟩ = some (.int .i64 K) := cell_of_row W _ 0 _ _ _ hcf2
  have k1 : W.cell? ⟨w.heap.size, 1, none⟩ = some (.int .i64 N) := cell_of_row W _ 1 _ _ _ hcf2
  have k2 : W.cell? ⟨w.heap.size, 2, none⟩ = some (.int .i64 S) := cell_of_row W _ 2 _ _ _ hcf2
  go_wp2_with fail
  refine (isConfig_any K N S W).mono ?_
  rw [hcb]
  rintro e W1 ⟨rfl, hb1⟩
  have hlow1 := hb0.trans (hb1.mono hb0.size)
  have hres : W1.heap[w.heap.size + 1]? = _ := (hb1.block _ (lt_of_block hrs)).trans hrs
  have hE1 : Errs A B0 W1 := hE.below (hlow1.mono hE.size)
  have g0 : W1.cell? ⟨4, 0, none⟩ = some (.iface 269 (.pointer (some (A 0)))) := hE1.cell 0 (by omega)
  have hpR : ∀ x : Nat, x = w.heap.size + 1 → x ≠ 4 := fun x hx => by have := hE.size; have := hE.eight; omega
  have hne : w.heap.size + 1 ≠ 4 := hpR _ rfl
  obtain ⟨c0, c1, c2, c3, c4, c5, c6⟩ := row7 hres
  have f0 := frozen_of_row W1 _ 0 _ _ hres
  have f1 := frozen_of_row W1 _ 1 _ _ hres
  have f2 := frozen_of_row W1 _ 2 _ _ hres
  have f3 := frozen_of_row W1 _ 3 _ _ hres
  have f4 := frozen_of_row W1 _ 4 _ _ hres
  have f5 := frozen_of_row W1 _ 5 _ _ hres
  have f6 := frozen_of_row W1 _ 6 _ _ hres
  clear k0 k1 k2 hcf2 hpR
  have hp := put7 W1 (w.heap.size + 1) (.int .i64 0) (.int .i64 0) (.int .i64 0) (.int .i64 0) (.int .i64 0) (.slice none 0 0) (.slice none 0 0) (.int .i64 0) (.int .i64 0) (.int .i64 0) (.int .i64 0) (.int .i64 0) (.slice none 0 0) (.slice none 0 0) hres
  go_wp2_with fail
  go_region
  all_goals
    generalize (((((((W1.setCell ⟨w.heap.size + 1, 0, none⟩ (.int .i64 0)).setCell ⟨w.heap.size + 1, 1, none⟩ (.int .i64 0)).setCell ⟨w.heap.size + 1, 2, none⟩ (.int .i64 0)).setCell ⟨w.heap.size + 1, 3, none⟩ (.int .i64 0)).setCell ⟨w.heap.size + 1, 4, none⟩ (.int .i64 0)).setCell ⟨w.heap.size + 1, 5, none⟩ (.slice none 0 0)).setCell ⟨w.heap.size + 1, 6, none⟩ (.slice none 0 0)) = W9 at hp ⊢
    obtain ⟨hp1, hp2⟩ := hp
    obtain ⟨d0, d1, d2, d3, d4, d5, d6⟩ := row7 (show W9.drew.heap[w.heap.size + 1]? = _ from hp1)
    have hlow9 : Below w.heap.size w W9.drew := (hlow1.trans (hp2.toBelow (by have := hlow1.size; omega) (fun k hk q => by omega))).drew
    clear c0 c1 c2 c3 c4 c5 c6 f0 f1 f2 f3 f4 f5 f6 g0
    generalize W9.drew = W10 at *
    go_wp2_with fail
    exact bodyPost_ret (v := .tuple #[.agg #[.int .i64 0, .int .i64 0, .int .i64 0, .int .i64 0, .int .i64 0, .slice none 0 0, .slice none 0 0], .iface 269 (.pointer (some (A 0)))]) (by simp [results, Tryz.results22, go_sem, d0, d1, d2, d3, d4, d5, d6]) rfl ⟨rfl, hlow9⟩

end Go.Proofs.YtjabhnhejbhgjaaGreatDoor

/- Parse of the program, Parse of the document: one answer. -/
namespace Go.Proofs.YtjabhnhejbhgjaaGreatDoor
open Go.RowKit

/-- An answer of Parse: five numbers, the data, how many lacks and their cells, the error and its place. -/
structure PA where
  x0 : Nat
  x1 : Nat
  x2 : Nat
  x3 : Nat
  x4 : Nat
  d : List Gf.F
  n6 : Nat
  f : List Gf.F
  c : Nat
  z : Int

def PA.bad (c : Nat) (z : Int) : PA := ⟨0, 0, 0, 0, 0, [], 0, [], c, z⟩

/-- The answer, where there is a configuration. -/
def ansOk (K N S : Nat) (l : List Gf.F) : PA :=
  match parseE K N S l with
  | some (c, k) => PA.bad c (k : Int)
  | none => if bt l 0 = 1 then ⟨bt l 0, bt l 1, lenOf l, bt (l.drop 4) 0, bt (l.drop 4) 1, (l.drop 4).drop 2, 0, [], 0, -1⟩ else ⟨bt l 0, bt l 1, lenOf l, 0, 0, [], bt (l.drop 4) 0, l.drop 4, 0, -1⟩
def ansOf (K N S : Int) (l : List Gf.F) : PA := if cfgB K N S = true then ansOk K.toNat N.toNat S.toNat l else PA.bad 1 (-1)

/-- What came back, but for the error. -/
structure PSays (w w' : World) (p : PA) (v : Value) (a5 a6 : Option Addr) (c5 c6 : Nat) : Prop where
  val : v = .agg #[.int .i64 (p.x0 : Int), .int .i64 (p.x1 : Int), .int .i64 (p.x2 : Int), .int .i64 (p.x3 : Int), .int .i64 (p.x4 : Int), .slice a5 p.d.length c5, .slice a6 p.n6 c6]
  data : w'.ownsRow w.heap.size 5 1 (.slice a5 p.d.length c5) p.d.length (encL p.d)
  lacks : w'.ownsRow w.heap.size 122 2 (.slice a6 p.n6 c6) p.n6 (lackCells p.f p.n6)
  low : Below w.heap.size w w'

theorem PSays.none {w w' : World} (c : Nat) (z : Int) (hb : Below w.heap.size w w') : PSays w w' (PA.bad c z) (.agg #[.int .i64 0, .int .i64 0, .int .i64 0, .int .i64 0, .int .i64 0, .slice none 0 0, .slice none 0 0]) none none 0 0 :=
  ⟨rfl, World.ownsRow_nil .., World.ownsRow_nil .., hb⟩

/-- How the error says it. -/
def ESays (A : Nat → Addr) (w w' : World) (v : Value) (p : PA) : Prop := (p.z = -1 ∧ (p.c = 0 ∨ p.c = 1) ∧ v = E A p.c) ∨ (∃ i, i < 8 ∧ p.c = i + 1 ∧ Wr w w' v p.z (E A (i + 1)))

theorem headE_some {l : List Gf.F} {c k : Nat} (h : headE l = some (c, k)) : ∃ i, i < 8 ∧ c = i + 1 := by
  unfold headE at h
  split at h
  · cases h; exact ⟨3, by omega, rfl⟩
  split at h
  · cases h; exact ⟨4, by omega, rfl⟩
  split at h
  · cases h; exact ⟨3, by omega, rfl⟩
  split at h
  · cases h; exact ⟨5, by omega, rfl⟩
  split at h
  · cases h; exact ⟨3, by omega, rfl⟩
  split at h
  · cases h; exact ⟨5, by omega, rfl⟩
  · cases h
theorem dataB_code {K N S T c k : Nat} {m : List Gf.F} (h : dataB K N S T m = some (c, k)) : ∃ i, i < 8 ∧ c = i + 1 := by
  unfold dataB at h
  split at h
  · cases h; exact ⟨3, by omega, rfl⟩
  split at h
  · cases h; exact ⟨5, by omega, rfl⟩
  split at h
  · cases h; exact ⟨3, by omega, rfl⟩
  split at h
  · cases h; exact ⟨5, by omega, rfl⟩
  split at h
  · cases h; exact ⟨3, by omega, rfl⟩
  split at h
  · cases h; exact ⟨6, by omega, rfl⟩
  · cases h
theorem lackB_code {K T c p k least : Nat} {m : List Gf.F} (h : lackB K T m k least = some (c, p)) : ∃ i, i < 8 ∧ c = i + 1 := by
  unfold lackB at h
  split at h
  · cases h; exact ⟨3, by omega, rfl⟩
  split at h
  · cases h; exact ⟨5, by omega, rfl⟩
  split at h
  · cases h; exact ⟨3, by omega, rfl⟩
  split at h
  · cases h; exact ⟨5, by omega, rfl⟩
  · cases h
theorem asksFrom_code {K T c p : Nat} {m : List Gf.F} : ∀ {r i least : Nat}, asksFrom K T m r i least = some (c, p) → ∃ i, i < 8 ∧ c = i + 1
  | 0, i, _, h => by
    unfold asksFrom at h
    split at h
    · cases h; exact ⟨6, by omega, rfl⟩
    · cases h
  | r + 1, i, least, h => by
    unfold asksFrom at h
    cases hl : lackB K T m (1 + 2 * i) least with
    | some e => rw [hl] at h; cases h; exact lackB_code hl
    | none => rw [hl] at h; exact asksFrom_code h
theorem parseE_code {K N S c k : Nat} {l : List Gf.F} (h : parseE K N S l = some (c, k)) : ∃ i, i < 8 ∧ c = i + 1 := by
  unfold parseE at h
  cases hh : headE l with
  | some e => rw [hh] at h; cases h; exact headE_some hh
  | none =>
    rw [hh] at h
    simp only [Option.map_eq_some_iff] at h
    obtain ⟨⟨c', k'⟩, h1, h2⟩ := h
    simp only [Prod.mk.injEq] at h2
    obtain ⟨rfl, _⟩ := h2
    split at h1
    · exact dataB_code h1
    · unfold asksB at h1
      split at h1
      · cases h1; exact ⟨3, by omega, rfl⟩
      split at h1
      · cases h1; exact ⟨5, by omega, rfl⟩
      · exact asksFrom_code h1

/-- How long the data is. -/
theorem parseE_len {K N S : Nat} {l : List Gf.F} (h : parseE K N S l = none) (hk : bt l 0 = 1) : ((l.drop 4).drop 2).length = S := by
  unfold parseE at h
  cases hh : headE l with
  | some e => rw [hh] at h; cases h
  | none =>
    rw [hh] at h
    simp only [if_pos hk, Option.map_eq_none_iff] at h
    unfold dataB at h
    split at h
    · cases h
    split at h
    · cases h
    split at h
    · cases h
    split at h
    · cases h
    split at h
    · cases h
    split at h
    · cases h
    · simp at *; omega

theorem ParseGives.says {A : Nat → Addr} {K N S : Nat} {l : List Gf.F} {w w' : World} {e : Ending} (h : ParseGives A K N S l w e w') : ∃ v u a5 a6 c5 c6, e = .returned (.tuple #[v, u]) ∧ PSays w w' (ansOk K N S l) v a5 a6 c5 c6 ∧ ESays A w w' u (ansOk K N S l) := by
  obtain ⟨h1, hb⟩ := h
  unfold ansOk
  cases hp : parseE K N S l with
  | some ep =>
    obtain ⟨c, k⟩ := ep
    rw [hp] at h1
    obtain ⟨v, he, hw⟩ := h1
    obtain ⟨i, hi, rfl⟩ := parseE_code hp
    exact ⟨_, v, none, none, 0, 0, he, PSays.none _ _ hb, .inr ⟨i, hi, rfl, hw⟩⟩
  | none =>
    rw [hp] at h1
    by_cases hk : bt l 0 = 1
    · rw [if_pos hk] at h1
      obtain ⟨a, c1, he, ho⟩ := h1
      have hlen := parseE_len hp hk
      simp only [if_pos hk]
      refine ⟨_, _, a, none, c1, 0, he, ⟨by rw [← hlen], ?_, World.ownsRow_nil .., hb⟩, .inl ⟨rfl, .inl rfl, rfl⟩⟩
      show w'.ownsRow _ _ 1 (.slice a ((l.drop 4).drop 2).length c1) ((l.drop 4).drop 2).length _
      rw [hlen]; exact ho
    · rw [if_neg hk] at h1
      obtain ⟨a, c1, he, ho⟩ := h1
      simp only [if_neg hk]
      exact ⟨_, _, none, a, 0, c1, he, ⟨rfl, World.ownsRow_nil .., ho, hb⟩, .inl ⟨rfl, .inl rfl, rfl⟩⟩
theorem RPGives.says {K N S : Nat} {l : List Gf.F} {w w' : World} {e : Ending} (h : RPGives K N S l w e w') : ∃ v a5 a6 c5 c6, e = .returned (.tuple #[v, .agg #[.int .i64 ((ansOk K N S l).c : Int), .int .i64 (ansOk K N S l).z]]) ∧ PSays w w' (ansOk K N S l) v a5 a6 c5 c6 := by
  obtain ⟨h1, hb⟩ := h
  unfold ansOk
  cases hp : parseE K N S l with
  | some ep =>
    obtain ⟨c, k⟩ := ep
    rw [hp] at h1
    exact ⟨_, none, none, 0, 0, h1, PSays.none _ _ hb⟩
  | none =>
    rw [hp] at h1
    by_cases hk : bt l 0 = 1
    · rw [if_pos hk] at h1
      obtain ⟨a, c1, he, ho⟩ := h1
      have hlen := parseE_len hp hk
      simp only [if_pos hk]
      refine ⟨_, a, none, c1, 0, he, ⟨by rw [← hlen], ?_, World.ownsRow_nil .., hb⟩⟩
      show w'.ownsRow _ _ 1 (.slice a ((l.drop 4).drop 2).length c1) ((l.drop 4).drop 2).length _
      rw [hlen]; exact ho
    · rw [if_neg hk] at h1
      obtain ⟨a, c1, he, ho⟩ := h1
      simp only [if_neg hk]
      exact ⟨_, none, a, 0, c1, he, ⟨rfl, World.ownsRow_nil .., ho, hb⟩⟩

theorem progParse (A : Nat → Addr) (B0 : Nat) (a : Option Addr) (b o n c : Nat) (K N S : Int) (l : List Gf.F) (w : World) (hE : Errs A B0 w) (hET : ErrType w) (hB9 : 8 < w.heap.size) (hl : l.length = n) (hn : n ≤ c) (hc : c ≤ 9223372036854775807) (hn2 : n ≤ 140737488355328) (ha : 0 < n → a = some ⟨b, o, none⟩) (hB : Bs w b o l) (hb : 0 < n → b < w.heap.size) :
    Calls Tryz.prog 22 #[.agg #[.int .i64 K, .int .i64 N, .int .i64 S], .slice a n c] w fun e w' => ∃ v u a5 a6 c5 c6, e = .returned (.tuple #[v, u]) ∧ PSays w w' (ansOf K N S l) v a5 a6 c5 c6 ∧ ESays A w w' u (ansOf K N S l) := by
  unfold ansOf
  cases hcb : cfgB K N S
  · rw [if_neg (by decide)]
    refine (mparse_no A B0 _ K N S w hE hcb).mono ?_
    rintro e w' ⟨rfl, hb⟩
    exact ⟨_, _, none, none, 0, 0, rfl, PSays.none _ _ hb, .inl ⟨rfl, .inr rfl, rfl⟩⟩
  · rw [if_pos rfl]
    obtain ⟨k, n', s, rfl, rfl, rfl, hcf⟩ := cfgB_cfg hcb
    refine (mparse_ok A B0 a b o n c k n' s l w hE hET hB9 hcf hcb hl hn hc hn2 ha hB hb).mono ?_
    intro e w' hG
    exact hG.says
theorem refParse (a : Option Addr) (b o n c : Nat) (K N S : Int) (l : List Gf.F) (w : World) (hl : l.length = n) (hn : n ≤ c) (hn2 : n ≤ 140737488355328) (ha : 0 < n → a = some ⟨b, o, none⟩) (hB : Bs w b o l) (hb : 0 < n → b < w.heap.size) :
    Calls Tryz.prog 135 #[.agg #[.int .i64 K, .int .i64 N, .int .i64 S], .slice a n c] w fun e w' => ∃ v a5 a6 c5 c6, e = .returned (.tuple #[v, .agg #[.int .i64 ((ansOf K N S l).c : Int), .int .i64 (ansOf K N S l).z]]) ∧ PSays w w' (ansOf K N S l) v a5 a6 c5 c6 := by
  unfold ansOf
  cases hcb : cfgB K N S
  · rw [if_neg (by decide)]
    refine (rparse_no _ K N S w hcb).mono ?_
    rintro e w' ⟨rfl, hb⟩
    exact ⟨_, none, none, 0, 0, rfl, PSays.none _ _ hb⟩
  · rw [if_pos rfl]
    obtain ⟨k, n', s, rfl, rfl, rfl, hcf⟩ := cfgB_cfg hcb
    refine (rparse_ok a b o n c k n' s l w hcf hcb hl hn hn2 ha hB hb).mono ?_
    intro e w' hG
    exact hG.says

end Go.Proofs.YtjabhnhejbhgjaaGreatDoor

/- The document's sender: Hear. -/
namespace Go.Proofs.YtjabhnhejbhgjaaGreatDoor
open Go.RowKit

theorem Cfg.b {K N S : Nat} (h : Cfg K N S) : cfgB (K : Int) (N : Int) (S : Int) = true := by
  obtain ⟨k1, k8, kn, n16, s1, s8⟩ := h
  simp only [cfgB, Bool.and_eq_true, winB_iff]
  omega

theorem set_getD {α : Type} (l : List α) (i : Nat) (d : α) : l.set i (l.getD i d) = l := by
  refine List.ext_getElem? (fun j => ?_)
  rw [List.getElem?_set]
  split
  · rename_i e; subst e
    split
    · rename_i h; simp [List.getD, h]
    · rename_i h; rw [List.getElem?_eq_none (by omega)]
  · rfl
theorem Snd.setD_self (s : Snd) (i q : Nat) : s.setD i q (dat (oat s.os i).ds q) = s := by
  have h : (oat s.os i).setD q (dat (oat s.os i).ds q) = oat s.os i := by
    unfold Ob.setD dat
    rw [set_getD]
  unfold Snd.setD
  rw [h]
  unfold oat
  rw [set_getD]

/-- A packet that is one. -/
theorem RPGives.packet {K N S : Nat} {l : List Gf.F} {w w' : World} {e : Ending} (h : RPGives K N S l w e w') (hp : parseE K N S l = none) :
    ∃ (x3 x4 M c6 n5 c5 : Nat) (a5 a6 : Option Addr), e = .returned (.tuple #[.agg #[.int .i64 (bt l 0 : Int), .int .i64 (bt l 1 : Int), .int .i64 (lenOf l : Int), .int .i64 (x3 : Int), .int .i64 (x4 : Int), .slice a5 n5 c5, .slice a6 M c6], .agg #[.int .i64 0, .int .i64 (-1)]]) ∧
      (¬ bt l 0 = 1 → M = bt (l.drop 4) 0 ∧ w'.ownsRow w.heap.size 122 2 (.slice a6 M c6) M (lackCells (l.drop 4) M)) ∧ Below w.heap.size w w' := by
  obtain ⟨h1, hb⟩ := h
  rw [hp] at h1
  by_cases hk : bt l 0 = 1
  · simp only [if_pos hk] at h1
    obtain ⟨a, c1, he, _⟩ := h1
    exact ⟨_, _, 0, 0, _, _, a, none, he, fun h => absurd hk h, hb⟩
  · simp only [if_neg hk] at h1
    obtain ⟨a, c1, he, ho⟩ := h1
    exact ⟨0, 0, _, c1, 0, 0, none, a, he, fun _ => ⟨rfl, ho⟩, hb⟩

/-- What the document's Hear gives. -/
def RHearGives (s : Snd) (r : Rsn) (l : List Gf.F) (c B rb : Nat) (w : World) (e : Ending) (w' : World) : Prop :=
  match parseE s.K s.N s.S l with
  | some (ec, k) => e = .returned (.agg #[.int .i64 (ec : Int), .int .i64 (k : Int)]) ∧ Below w.heap.size w w'
  | none =>
    if s.os.length ≤ bt l 1 then e = .returned (.agg #[.int .i64 6, .int .i64 1]) ∧ Below w.heap.size w w'
    else if lenOf l ≠ (oat s.os (bt l 1)).l.length then e = .returned (.agg #[.int .i64 6, .int .i64 2]) ∧ Below w.heap.size w w'
    else if bt l 0 = 1 then e = .returned (.agg #[.int .i64 5, .int .i64 0]) ∧ Below w.heap.size w w'
    else e = .returned (.agg #[.int .i64 0, .int .i64 (-1)]) ∧ ∃ r', RAt w' B rb r' ∧ Sim (s.askN (bt l 1) (l.drop 4) (bt (l.drop 4) 0)) r' c ∧ But (r.foot rb) w w' ∧ ∀ b, r'.foot rb b ↔ r.foot rb b

theorem Snd.asksQ {s : Snd} (ok : s.Ok) {l : List Gf.F} (hp : parseE s.K s.N s.S l = none) (h2 : lenOf l = (oat s.os (bt l 1)).l.length) (h3 : ¬ bt l 0 = 1) : ∀ k, k < bt (l.drop 4) 0 → bt (l.drop 4) (1 + 2 * k) < s.Q (bt l 1) ∧ bt (l.drop 4) (1 + 2 * k + 1) ≤ 8 := by
  intro k hk
  obtain ⟨_, _, _, h9⟩ := parse_asks hp h3
  have h9 := h9 k hk
  have hT9 : symN s.S (lenOf l) = s.T (bt l 1) := by unfold Snd.T; rw [h2]
  rw [hT9] at h9
  obtain ⟨k1, k8, kn, n16, s1, s8⟩ := ok.cfg
  have : srcN s.K (s.T (bt l 1)) (bt (l.drop 4) (1 + 2 * k)) ≤ 8 := by unfold srcN; omega
  exact ⟨h9.1, by omega⟩

/-- One ask more. -/
theorem Sim.ask {s : Snd} {r : Rsn} {c i M : Nat} {m : List Gf.F} (ok : s.Ok) (hi : i < s.os.length) (hv : ∀ k, k < M → bt m (1 + 2 * k) < s.Q i ∧ bt m (1 + 2 * k + 1) ≤ 8) {k : Nat} (hk : k < M) (h : Sim (s.askN i m k) r c) :
    (dat (oat r.os i).ds (bt m (1 + 2 * k))).1 ≤ 8 ∧ bt m (1 + 2 * k) < (oat r.os i).ds.length ∧ i < r.os.length ∧ (bt m (1 + 2 * k + 1) ≤ (dat (oat r.os i).ds (bt m (1 + 2 * k))).1 → Sim (s.askN i m (k + 1)) r c) ∧
      ((dat (oat r.os i).ds (bt m (1 + 2 * k))).1 < bt m (1 + 2 * k + 1) → Sim (s.askN i m (k + 1)) (r.setD i (bt m (1 + 2 * k)) (bt m (1 + 2 * k + 1), (dat (oat r.os i).ds (bt m (1 + 2 * k))).2)) c) := by
  obtain ⟨hok, hQ⟩ := Snd.askN_ok ok hi hv k (by omega)
  have hi' : i < (s.askN i m k).os.length := by rw [askN_len]; exact hi
  have hq : bt m (1 + 2 * k) < (s.askN i m k).Q i := by rw [hQ]; exact (hv k hk).1
  obtain ⟨h1, h2, h3⟩ := h.d i _ hi' hq
  have h8 := (hok.debt i _ hi' hq).1
  refine ⟨by omega, by rw [h.dl i hi']; exact hq, by rw [h.len]; exact hi', fun hle => ?_, fun hlt => ?_⟩
  · have e : s.askN i m (k + 1) = s.askN i m k := by
      have h5 : max (dat (oat (s.askN i m k).os i).ds (bt m (1 + 2 * k))).1 (bt m (1 + 2 * k + 1)) = (dat (oat (s.askN i m k).os i).ds (bt m (1 + 2 * k))).1 := by omega
      show (s.askN i m k).setD i _ (max _ _, _) = _
      rw [h5]
      exact Snd.setD_self _ _ _
    rw [e]; exact h
  · have h5 : max (dat (oat (s.askN i m k).os i).ds (bt m (1 + 2 * k))).1 (bt m (1 + 2 * k + 1)) = bt m (1 + 2 * k + 1) := by omega
    show Sim ((s.askN i m k).setD i _ (max _ _, _)) _ c
    rw [h5]
    exact h.setD hok hi' hq rfl h2 h3 (Nat.le_refl _)

theorem retE {W : World} {E : Nat} {z0 z1 : Int} (h : W.heap[E]? = some (.cells #[.int .i64 z0, .int .i64 z1] 139 (0, 0))) : W.cell? ⟨E, 0, none⟩ = some (.int .i64 z0) ∧ W.cell? ⟨E, 1, none⟩ = some (.int .i64 z1) := ⟨(twoE h).1, (twoE h).2.1⟩

set_option maxRecDepth 100000 in
set_option maxHeartbeats 2000000 in
theorem rhear_any {B rb b o n c cc : Nat} {a : Option Addr} {l : List Gf.F} {s : Snd} {r : Rsn} {w : World} (h : RAt w B rb r) (ok : s.Ok) (sim : Sim s r cc) (hl : l.length = n) (hn : n ≤ c) (hn2 : n ≤ 140737488355328) (ha : 0 < n → a = some ⟨b, o, none⟩) (hB : Bs w b o l) (hb : 0 < n → b < w.heap.size) :
    Calls Tryz.prog 120 #[.pointer (some ⟨rb, 0, none⟩), .slice a n c] w (RHearGives s r l cc B rb w) := by
  have hE0 := heap_alloc_new w (.cells #[.int .i64 0, .int .i64 0] 139)
  have hb0 : Below w.heap.size w (w.alloc (.cells #[.int .i64 0, .int .i64 0] 139)) := (Below.refl _ _).alloc (Nat.le_refl _) _
  have hr0 := h.above hb0
  obtain ⟨c0, c1, c2, _, _, _⟩ := hr0.cells
  rw [sim.K] at c0
  rw [sim.N] at c1
  rw [sim.S] at c2
  have hP := rparse_ok a b o n c s.K s.N s.S l (w.alloc (.cells #[.int .i64 0, .int .i64 0] 139)) ok.cfg ok.cfg.b hl hn hn2 ha (fun i hi => by rw [hb0.cell (lt_of_cell (hB i hi))]; exact hB i hi) (fun h0 => by have := hb h0; simp; omega)
  obtain ⟨E, hEe⟩ : ∃ x, x = w.heap.size := ⟨_, rfl⟩
  rw [← hEe] at hE0
  go_enter Tryz.func120, Tryz.ntmps120
  go_upto_region 1 with fail
  generalize w.alloc (.cells #[.int .i64 0, .int .i64 0] 139) = W0 at *
  rw [← hEe]
  have HEE : Hid (E = w.heap.size) := hEe
  clear hEe
  go_wp2_with fail
  refine hP.mono ?_
  intro e w1 hG
  cases hpe : parseE s.K s.N s.S l with
  | some ep =>
    obtain ⟨ec, ek⟩ := ep
    obtain ⟨h1, hb1⟩ := hG
    rw [hpe] at h1
    obtain rfl := h1
    obtain ⟨ei, _, hec⟩ := parseE_code hpe
    have he0 : ¬ (ec : Int) = 0 := by omega
    clear hec
    clear hP c0 c1 c2
    go_upto_region 2 with fail
    have hb2 : Below w1.heap.size w1 ((w1.alloc (.cells #[.int .i64 0, .int .i64 0, .int .i64 0, .int .i64 0, .int .i64 0, .slice none 0 0, .slice none 0 0] 60)).alloc (.cells #[.int .i64 (ec : Int), .int .i64 (ek : Int)] 139)) := ((Below.refl _ _).alloc (Nat.le_refl _) _).alloc (by simp) _
    have hX2 := heap_alloc_new (w1.alloc (.cells #[.int .i64 0, .int .i64 0, .int .i64 0, .int .i64 0, .int .i64 0, .slice none 0 0, .slice none 0 0] 60)) (.cells #[.int .i64 (ec : Int), .int .i64 (ek : Int)] 139)
    have esz : (w1.alloc (.cells #[.int .i64 0, .int .i64 0, .int .i64 0, .int .i64 0, .int .i64 0, .slice none 0 0, .slice none 0 0] 60)).heap.size = w1.heap.size + 1 := by simp
    rw [esz] at hX2
    generalize (w1.alloc (.cells #[.int .i64 0, .int .i64 0, .int .i64 0, .int .i64 0, .int .i64 0, .slice none 0 0, .slice none 0 0] 60)).alloc (.cells #[.int .i64 (ec : Int), .int .i64 (ek : Int)] 139) = W2 at *
    clear esz
    have hE2 := (hb2.block E (Nat.lt_of_lt_of_le (lt_of_block hE0) hb1.size)).trans ((hb1.block E (lt_of_block hE0)).trans hE0)
    have hbw2 : Below w.heap.size w W2 := (hb0.trans (hb1.mono hb0.size)).trans (hb2.mono (Nat.le_trans hb0.size hb1.size))
    obtain ⟨v0, v1, _, _⟩ := twoE hX2
    obtain ⟨y0, y1, f0, f1⟩ := twoE hE2
    obtain ⟨p1, p2⟩ := putE W2 E _ _ (.int .i64 (ec : Int)) (.int .i64 (ek : Int)) _ hE2
    obtain ⟨q0, q1, _, _⟩ := twoE p1
    have hfin : Below w.heap.size w _ := hbw2.trans (p2.toBelow hbw2.size (fun k hk q => by have := HEE.out; omega))
    clear hX2 hE2
    go_wp2_with fail
    refine bodyPost_ret (v := .agg #[.int .i64 (ec : Int), .int .i64 (ek : Int)]) (by simp [results, Tryz.results120, go_sem, q0, q1]) rfl ?_
    unfold RHearGives
    rw [hpe]
    exact ⟨rfl, hfin⟩
  | none =>
    obtain ⟨hkd, hle, hob⟩ := parse_head hpe
    obtain ⟨x3, x4, M, c6, n5, c5, a5, a6, rfl, hask, hb1⟩ := hG.packet hpe
    clear hP c0 c1 c2 hG
    go_upto_region 2 with fail
    have hb2 : Below w1.heap.size w1 ((w1.alloc (.cells #[.int .i64 (bt l 0 : Int), .int .i64 (bt l 1 : Int), .int .i64 (lenOf l : Int), .int .i64 (x3 : Int), .int .i64 (x4 : Int), .slice a5 n5 c5, .slice a6 M c6] 60)).alloc (.cells #[.int .i64 0, .int .i64 (-1)] 139)) := ((Below.refl _ _).alloc (Nat.le_refl _) _).alloc (by simp) _
    have hP2 : ((w1.alloc (.cells #[.int .i64 (bt l 0 : Int), .int .i64 (bt l 1 : Int), .int .i64 (lenOf l : Int), .int .i64 (x3 : Int), .int .i64 (x4 : Int), .slice a5 n5 c5, .slice a6 M c6] 60)).alloc (.cells #[.int .i64 0, .int .i64 (-1)] 139)).heap[w1.heap.size]? = some (.cells #[.int .i64 (bt l 0 : Int), .int .i64 (bt l 1 : Int), .int .i64 (lenOf l : Int), .int .i64 (x3 : Int), .int .i64 (x4 : Int), .slice a5 n5 c5, .slice a6 M c6] 60 (0, 0)) := (Below.heap_alloc _ _ _ (by simp)).trans (heap_alloc_new w1 _)
    have hX2 := heap_alloc_new (w1.alloc (.cells #[.int .i64 (bt l 0 : Int), .int .i64 (bt l 1 : Int), .int .i64 (lenOf l : Int), .int .i64 (x3 : Int), .int .i64 (x4 : Int), .slice a5 n5 c5, .slice a6 M c6] 60)) (.cells #[.int .i64 0, .int .i64 (-1)] 139)
    have esz : (w1.alloc (.cells #[.int .i64 (bt l 0 : Int), .int .i64 (bt l 1 : Int), .int .i64 (lenOf l : Int), .int .i64 (x3 : Int), .int .i64 (x4 : Int), .slice a5 n5 c5, .slice a6 M c6] 60)).heap.size = w1.heap.size + 1 := by simp
    rw [esz] at hX2
    generalize (w1.alloc (.cells #[.int .i64 (bt l 0 : Int), .int .i64 (bt l 1 : Int), .int .i64 (lenOf l : Int), .int .i64 (x3 : Int), .int .i64 (x4 : Int), .slice a5 n5 c5, .slice a6 M c6] 60)).alloc (.cells #[.int .i64 0, .int .i64 (-1)] 139) = W2 at *
    clear esz
    have hE2 := (hb2.block E (Nat.lt_of_lt_of_le (lt_of_block hE0) hb1.size)).trans ((hb1.block E (lt_of_block hE0)).trans hE0)
    have hbw1 : Below w.heap.size w w1 := hb0.trans (hb1.mono hb0.size)
    have hbw2 : Below w.heap.size w W2 := hbw1.trans (hb2.mono hbw1.size)
    have hask2 : Hid (¬ bt l 0 = 1 → M = bt (l.drop 4) 0 ∧ W2.ownsRow w.heap.size 122 2 (.slice a6 M c6) M (lackCells (l.drop 4) M)) := fun hk => ⟨(hask hk).1, own_base2 (own_of_block (hask hk).2 (fun x hx => hb2.block _ ((hask hk).2.lt x hx).2)) hb0.size⟩
    have hpbn : w.heap.size ≤ w1.heap.size := hbw1.size
    have h2 := h.above hbw2
    obtain ⟨v0, v1, _, _⟩ := twoE hX2
    clear hask hX2
    obtain ⟨eb, heb⟩ : ∃ x, x = w1.heap.size + 1 := ⟨_, rfl⟩
    rw [← heb] at v0 v1 ⊢
    obtain ⟨pb, hpb⟩ : ∃ x, x = w1.heap.size := ⟨_, rfl⟩
    rw [← hpb] at hP2 hpbn ⊢
    clear heb hpb hb2 hb1 hb0 hbw1 hr0 hE0
    have HG : Hid (∀ (e : Ending) (w' : World), RHearGives s r l cc B rb w e w' = (if s.os.length ≤ bt l 1 then e = .returned (.agg #[.int .i64 6, .int .i64 1]) ∧ Below w.heap.size w w'
      else if lenOf l ≠ (oat s.os (bt l 1)).l.length then e = .returned (.agg #[.int .i64 6, .int .i64 2]) ∧ Below w.heap.size w w'
      else if bt l 0 = 1 then e = .returned (.agg #[.int .i64 5, .int .i64 0]) ∧ Below w.heap.size w w'
      else e = .returned (.agg #[.int .i64 0, .int .i64 (-1)]) ∧ ∃ r', RAt w' B rb r' ∧ Sim (s.askN (bt l 1) (l.drop 4) (bt (l.drop 4) 0)) r' cc ∧ But (r.foot rb) w w' ∧ ∀ b, r'.foot rb b ↔ r.foot rb b)) := fun e w' => by
      unfold RHearGives; rw [hpe]
    have HASK : Hid (¬ bt l 0 = 1 → lenOf l = (oat s.os (bt l 1)).l.length → ∀ k, k < bt (l.drop 4) 0 → bt (l.drop 4) (1 + 2 * k) < s.Q (bt l 1) ∧ bt (l.drop 4) (1 + 2 * k + 1) ≤ 8) := fun h3 h4 => Snd.asksQ ok hpe h4 h3
    have HPUT : Hid (∀ (W3 : World) (z0 z1 : Int), Below W2.heap.size W2 W3 → (W3.cell? ⟨E, 0, none⟩ = some (.int .i64 0) ∧ W3.cell? ⟨E, 1, none⟩ = some (.int .i64 0) ∧ W3.frozen? ⟨E, 0, none⟩ = false ∧ W3.frozen? ⟨E, 1, none⟩ = false) ∧ ((W3.setCell ⟨E, 0, none⟩ (.int .i64 z0)).setCell ⟨E, 1, none⟩ (.int .i64 z1)).cell? ⟨E, 0, none⟩ = some (.int .i64 z0) ∧ ((W3.setCell ⟨E, 0, none⟩ (.int .i64 z0)).setCell ⟨E, 1, none⟩ (.int .i64 z1)).cell? ⟨E, 1, none⟩ = some (.int .i64 z1) ∧ Below w.heap.size w ((W3.setCell ⟨E, 0, none⟩ (.int .i64 z0)).setCell ⟨E, 1, none⟩ (.int .i64 z1))) := fun W3 z0 z1 hb3 => by
      have hE3 := (hb3.block E (lt_of_block hE2)).trans hE2
      obtain ⟨p1, p2⟩ := putE W3 E _ _ (.int .i64 z0) (.int .i64 z1) _ hE3
      have hbw3 : Below w.heap.size w W3 := hbw2.trans (hb3.mono hbw2.size)
      exact ⟨twoE hE3, (twoE p1).1, (twoE p1).2.1, hbw3.trans (p2.toBelow hbw3.size (fun k hk q => by have := HEE.out; omega))⟩
    obtain ⟨va, vc, hvo, _⟩ := own_form2 h2.own
    have hlenE := sim.len
    obtain ⟨_, _, _, c3, _, _⟩ := h2.cells
    rw [hvo, hlenE] at c3
    have hfew := ok.few
    obtain ⟨kd, hkde⟩ : ∃ x, x = bt l 0 := ⟨_, rfl⟩
    obtain ⟨ob, hobe⟩ : ∃ x, x = bt l 1 := ⟨_, rfl⟩
    obtain ⟨ln, hlne⟩ : ∃ x, x = lenOf l := ⟨_, rfl⟩
    rw [← hkde, ← hobe, ← hlne] at hP2
    rw [← hkde] at hkd hask2 HG HASK ⊢
    rw [← hobe] at hob HG HASK ⊢
    rw [← hlne] at hle HG HASK ⊢
    obtain ⟨y0, y1, y2, _, _, _, y6⟩ := pk7 hP2
    clear hkde hobe hlne hpe
    by_cases hA : s.os.length ≤ ob
    · have hA1 : (s.os.length : Int) ≤ (ob : Int) := by omega
      go_upto_region 4 with fail
      go_quiet (fail)
      obtain ⟨W3, hW3⟩ : ∃ x, x = W2.drewN nq := ⟨_, rfl⟩
      rw [← hW3]
      have hb23 : Below W2.heap.size W2 W3 := below_drew hW3
      obtain ⟨⟨e0, e1, f0, f1⟩, q0, q1, hfin⟩ := HPUT.out W3 6 1 hb23
      clear hW3
      go_wp2_with fail
      refine bodyPost_ret (v := .agg #[.int .i64 6, .int .i64 1]) (by simp [results, Tryz.results120, go_sem, q0, q1]) rfl ?_
      rw [HG.out, if_pos hA]
      exact ⟨rfl, hfin⟩
    · have hA1 : ¬ (s.os.length : Int) ≤ (ob : Int) := by omega
      have hobl : ob < s.os.length := by omega
      have hobr : ob < r.os.length := by omega
      go_upto_region 4 with fail
      go_quiet (fail)
      go_upto_region 6 with fail
      obtain ⟨W3, hW3⟩ : ∃ x, x = W2.drewN nq := ⟨_, rfl⟩
      rw [← hW3]
      have hb23 : Below W2.heap.size W2 W3 := below_drew hW3
      clear hW3 y0 y1 y2 y6 c3
      have h3 := h2.above hb23
      have hP3 := (hb23.block _ (lt_of_block hP2)).trans hP2
      obtain ⟨y0, y1, y2, _, _, _, y6⟩ := pk7 hP3
      obtain ⟨g, cp, hv, hcp, hl2⟩ := h3.list (by omega)
      have t0 := hl2 ob hobr
      unfold Ob.bv at t0
      rw [sim.l ob hobl] at t0
      obtain ⟨_, _, _, c3, _, _⟩ := h3.cells
      rw [hv, hlenE] at c3
      have hol2 := ok.len ob hobl
      obtain ⟨ol, hol⟩ : ∃ x, x = (oat s.os ob).l.length := ⟨_, rfl⟩
      rw [← hol] at t0 hol2
      have HOL : Hid (ol = (oat s.os ob).l.length) := hol
      generalize (oat r.os ob).a = oa at t0
      generalize (oat r.os ob).c = oc at t0
      clear hol hl2 hv
      have hlt1 : (0 : Int) ≤ (ob : Int) := by omega
      have hlt2 : (ob : Int) < (s.os.length : Int) := by omega
      by_cases hL : ln = ol
      · have hL1 : (ln : Int) = (ol : Int) := by omega
        go_quiet (fail)
        go_upto_region 8 with fail
        obtain ⟨W4, hW4⟩ : ∃ x, x = W3.drewN nq := ⟨_, rfl⟩
        rw [← hW4]
        have hb34 : Below W3.heap.size W3 W4 := below_drew hW4
        have hb24 : Below W2.heap.size W2 W4 := hb23.trans (hb34.mono hb23.size)
        clear hW4 y0 y1 y2 y6 c3 t0
        have hP4 := (hb24.block _ (lt_of_block hP2)).trans hP2
        obtain ⟨y0, y1, y2, _, _, _, y6⟩ := pk7 hP4
        rcases hkd with hkd | hkd
        · have hk2 : ¬ (kd : Int) = 2 := by omega
          obtain ⟨⟨e0, e1, f0, f1⟩, q0, q1, hfin⟩ := HPUT.out W4 5 0 hb24
          go_wp2_with fail
          refine bodyPost_ret (v := .agg #[.int .i64 5, .int .i64 0]) (by simp [results, Tryz.results120, go_sem, q0, q1]) rfl ?_
          rw [HG.out, if_neg (by omega), if_neg (by rw [← HOL.out]; omega), if_pos hkd]
          exact ⟨rfl, hfin⟩
        · have hk2 : (kd : Int) = 2 := by omega
          obtain ⟨hM, hrow⟩ := hask2.out (by omega)
          have hrow4 : W4.ownsRow w.heap.size 122 2 (.slice a6 M c6) M (lackCells (l.drop 4) M) := own_of_block hrow (fun x hx => hb24.block _ (hrow.lt x hx).2)
          have hM2 : M < 256 := by rw [hM]; exact bt_lt _ _
          have HVA : Hid (∀ k, k < M → bt (l.drop 4) (1 + 2 * k) < s.Q ob ∧ bt (l.drop 4) (1 + 2 * k + 1) ≤ 8) := fun k hk => HASK.out (by omega) (by rw [hL]; exact HOL.out) k (by rw [← hM]; exact hk)
          have HM : Hid (M = bt (l.drop 4) 0) := hM
          have HOK : Hid s.Ok := ok
          have h4 := h2.above hb24
          have hE4 := (hb24.block _ (lt_of_block hE2)).trans hE2
          have hbw4 : Below w.heap.size w W4 := hbw2.trans (hb24.mono hbw2.size)
          have HPN : Hid (w.heap.size ≤ pb ∧ E = w.heap.size) := ⟨hpbn, HEE.out⟩
          generalize l.drop 4 = m at *
          have HR0 : Hid (RAt w B rb r) := h
          clear hM hask2 hrow HASK h3 hP3 hb34 hb23 h2 hvo
          go_upto_region 11 with fail
          go_loopw [7, 8] (fun t _ wr => ∃ k : Nat, k ≤ M ∧ t = .int .i64 (k : Int) ∧ ∃ r', RAt wr B rb r' ∧ Sim (s.askN ob m k) r' cc ∧ But (r.foot rb) w wr ∧ Hid (∀ b, r'.foot rb b ↔ r.foot rb b) ∧ Hid (wr.heap[pb]? = some (.cells #[.int .i64 (kd : Int), .int .i64 (ob : Int), .int .i64 (ln : Int), .int .i64 (x3 : Int), .int .i64 (x4 : Int), .slice a5 n5 c5, .slice a6 M c6] 60 (0, 0))) ∧ Hid (wr.ownsRow w.heap.size 122 2 (.slice a6 M c6) M (lackCells m M)) ∧ Hid (wr.heap[E]? = some (.cells #[.int .i64 0, .int .i64 0] 139 (0, 0)))) (fun t _ _ => M - (intOf t).toNat)
          case atStart => exact ⟨0, by omega, rfl, r, h4, sim, Below.but hbw4 (r.foot rb) (fun k hk q => absurd hk q), fun b => Iff.rfl, hP4, hrow4, hE4⟩
          case round =>
            obtain ⟨k, hkM, rfl, r', hRA, hSi, hBu, hft, hPr, hRr, hEr⟩ := hrel
            clear y0 y1 y2 y6
            by_cases hlt : k < M
            · have hlt1 : (k : Int) < (M : Int) := by omega
              have hlt0 : (0 : Int) ≤ (k : Int) := by omega
              obtain ⟨ho8, hqd, hir, hSle, hSlt⟩ := Sim.ask HOK.out hobl HVA.out hlt hSi
              have hrl : r'.os.length = s.os.length := by rw [hSi.len, askN_len]
              obtain ⟨gb, cb, hvb, _, hlb⟩ := hRA.listB (by omega)
              have t1 := hlb ob hir
              unfold Ob.dv at t1
              obtain ⟨_, _, _, _, c4, _⟩ := hRA.cells
              rw [hvb, hrl] at c4
              obtain ⟨e0, _⟩ := hRA.debt hir hqd
              have fz := hRA.frozenD hir (bt m (1 + 2 * k) * 2)
              obtain ⟨ga, ca, hv6, _, _⟩ := hRr.out.form (by omega)
              simp only [Value.slice.injEq] at hv6
              obtain ⟨rfl, -, -⟩ := hv6
              have eadd : ∀ j, (⟨ga, 0, none⟩ : Addr).add j = ⟨ga, j, none⟩ := fun j => by unfold Addr.add; split <;> simp_all
              have x0 := hRr.out.cells (g := ga) rfl (k * 2) _ (lackCells_get m M k hlt).1
              have x1 := hRr.out.cells (g := ga) rfl (k * 2 + 1) _ (lackCells_get m M k hlt).2
              rw [eadd] at x0 x1
              have hq256 := bt_lt m (1 + 2 * k)
              have hy256 := bt_lt m (1 + 2 * k + 1)
              have hdgw : (oat r'.os ob).dg < w.heap.size := (HR0.out.foot_lt ((hft.out _).1 (.inr (.inr (.inr ⟨ob, hir, .inl rfl⟩))))).2
              have hdgf : r.foot rb (oat r'.os ob).dg := (hft.out _).1 (.inr (.inr (.inr ⟨ob, hir, .inl rfl⟩)))
              have HSO : Hid (∀ W, RAt W B rb r' → RAt (W.setCell ⟨(oat r'.os ob).dg, bt m (1 + 2 * k) * 2, none⟩ (.int .i64 ((bt m (1 + 2 * k + 1) : Nat) : Int))) B rb (r'.setD ob (bt m (1 + 2 * k)) (bt m (1 + 2 * k + 1), (dat (oat r'.os ob).ds (bt m (1 + 2 * k))).2)) ∧ But (fun b => b = (oat r'.os ob).dg) W (W.setCell ⟨(oat r'.os ob).dg, bt m (1 + 2 * k) * 2, none⟩ (.int .i64 ((bt m (1 + 2 * k + 1) : Nat) : Int)))) := fun W hW => hW.owed hir hqd _
              have HFT : Hid (∀ d b, (r'.setD ob (bt m (1 + 2 * k)) d).foot rb b ↔ r.foot rb b) := fun d b => (Rsn.foot_setD hir _ d rb b).trans (hft.out b)
              obtain ⟨r2, hr2⟩ : ∃ x, x = r'.setD ob (bt m (1 + 2 * k)) (bt m (1 + 2 * k + 1), (dat (oat r'.os ob).ds (bt m (1 + 2 * k))).2) := ⟨_, rfl⟩
              have HFT2 : Hid (∀ b, r2.foot rb b ↔ r.foot rb b) := by rw [hr2]; exact HFT.out _
              rw [← hr2] at HSO hSlt
              clear hr2 HFT
              have HSle : Hid _ := hSle
              have HSlt : Hid _ := hSlt
              clear hSle hSlt
              have hdn : bt m (1 + 2 * k) < (oat r'.os ob).ds.length := hqd
              have hdl : (oat r'.os ob).ds.length ≤ 100000 := by
                obtain ⟨hok2, hQ2⟩ := Snd.askN_ok HOK.out hobl HVA.out k (by omega)
                have h7 := hSi.dl ob (by rw [askN_len]; exact hobl)
                rw [hQ2] at h7
                obtain ⟨k1, k8, kn, n16, s1, s8⟩ := HOK.out.cfg
                have h71 := partsN_le (a := s.T ob) k1
                have h81 := symN_range (S := s.S) (len := (oat s.os ob).l.length) s1
                have h91 := HOK.out.len ob hobl
                have h92 : s.T ob = symN s.S (oat s.os ob).l.length := rfl
                have h93 : s.Q ob = partsN (s.T ob) s.K := rfl
                omega
              obtain ⟨dg, hdg⟩ : ∃ x, x = (oat r'.os ob).dg := ⟨_, rfl⟩
              rw [← hdg] at t1 e0 fz HSO hdgw hdgf
              obtain ⟨dn, hdne⟩ : ∃ x, x = (oat r'.os ob).ds.length := ⟨_, rfl⟩
              rw [← hdne] at t1 hdn hdl
              obtain ⟨od, hod⟩ : ∃ x, x = (dat (oat r'.os ob).ds (bt m (1 + 2 * k))).1 := ⟨_, rfl⟩
              rw [← hod] at e0 ho8 HSle HSlt
              obtain ⟨qb, hqb⟩ : ∃ x, x = bt m (1 + 2 * k) := ⟨_, rfl⟩
              obtain ⟨yb, hyb⟩ : ∃ x, x = bt m (1 + 2 * k + 1) := ⟨_, rfl⟩
              rw [← hqb] at e0 x0 fz hdn HSO hq256
              rw [← hyb] at x1 hy256 HSO HSle HSlt
              clear hdg hdne hod hqb hyb hqd eadd hlb hvb
              have hlt3 : (0 : Int) ≤ (qb : Int) := by omega
              have hlt4 : (qb : Int) < (dn : Int) := by omega
              have FIN : Hid (∀ (W6 W7 : World) (r9 : Rsn), Below wr.heap.size wr W6 → But (fun b => b = dg) W6 W7 → RAt W7 B rb r9 → Sim (s.askN ob m (k + 1)) r9 cc → (∀ b, r9.foot rb b ↔ r.foot rb b) → ∃ r', RAt W7 B rb r' ∧ Sim (s.askN ob m (k + 1)) r' cc ∧ But (r.foot rb) w W7 ∧ Hid (∀ b, r'.foot rb b ↔ r.foot rb b) ∧ Hid (W7.heap[pb]? = some (.cells #[.int .i64 (kd : Int), .int .i64 (ob : Int), .int .i64 (ln : Int), .int .i64 (x3 : Int), .int .i64 (x4 : Int), .slice a5 n5 c5, .slice (some ⟨ga, 0, none⟩) M c6] 60 (0, 0))) ∧ Hid (W7.ownsRow w.heap.size 122 2 (.slice (some ⟨ga, 0, none⟩) M c6) M (lackCells m M)) ∧ Hid (W7.heap[E]? = some (.cells #[.int .i64 0, .int .i64 0] 139 (0, 0)))) := fun W6 W7 r9 hb6 hB7 hR9 hS9 hf9 => by
                have hP6 := (hb6.block pb (lt_of_block hPr.out)).trans hPr.out
                have hE6 := (hb6.block E (lt_of_block hEr.out)).trans hEr.out
                have hR6 : W6.ownsRow w.heap.size 122 2 (.slice (some ⟨ga, 0, none⟩) M c6) M (lackCells m M) := own_of_block hRr.out (fun x hx => hb6.block _ (hRr.out.lt x hx).2)
                have hBu6 := hBu.below hb6 (fun _ hi q => absurd (Nat.lt_of_lt_of_le hi hBu.size) q)
                obtain ⟨n1, n2⟩ := HPN.out
                exact ⟨r9, hR9, hS9, hBu6.trans (hB7.wide (fun x _ q => by rw [q]; exact hdgf)), hf9, (hB7.block pb (lt_of_block hP6) (by omega)).trans hP6, hB7.own hR6 (fun x hx q => by have := (hR6.lt x hx).1; omega), (hB7.block E (lt_of_block hE6) (by omega)).trans hE6⟩
              obtain ⟨y0, y1, y2, _, _, _, y6⟩ := pk7 hPr.out
              go_upto_region 13 with fail
              go_quiet (fail)
              go_upto_region 14 with fail
              obtain ⟨W5, hW5⟩ : ∃ x, x = wr.drewN nq := ⟨_, rfl⟩
              rw [← hW5]
              have hb5 : Below wr.heap.size wr W5 := below_drew hW5
              have y6' := y6
              have x1' := x1
              have e0' := e0
              rw [← hb5.cell (lt_of_cell y6)] at y6'
              rw [← hb5.cell (lt_of_cell x1)] at x1'
              rw [← hb5.cell (lt_of_cell e0)] at e0'
              clear hW5 y0 y1 y2 y6 x0 x1 e0 t1 c4
              by_cases hmx : yb ≤ od
              · have hm2 : ¬ (od : Int) < (yb : Int) := by omega
                go_quiet (fail)
                obtain ⟨W6, hW6⟩ : ∃ x, x = W5.drewN nq := ⟨_, rfl⟩
                rw [← hW6]
                have hb56 : Below W5.heap.size W5 W6 := below_drew hW6
                have hb6 : Below wr.heap.size wr W6 := hb5.trans (hb56.mono hb5.size)
                clear hW6
                go_wp2_with fail
                go_roundw
                case rel => exact ⟨k + 1, by omega, by go_num, FIN.out W6 W6 r' hb6 (But.refl _ _) (hRA.above hb6) (HSle.out hmx) hft.out⟩
                case measure => simp [intOf]; omega
              · have hm2 : (od : Int) < (yb : Int) := by omega
                go_quiet (fail)
                obtain ⟨W6, hW6⟩ : ∃ x, x = W5.drewN nq := ⟨_, rfl⟩
                rw [← hW6]
                have hb56 : Below W5.heap.size W5 W6 := below_drew hW6
                have hb6 : Below wr.heap.size wr W6 := hb5.trans (hb56.mono hb5.size)
                have y6 := y6'
                have x1 := x1'
                have e0 := e0'
                rw [← hb56.cell (lt_of_cell y6')] at y6
                rw [← hb56.cell (lt_of_cell x1')] at x1
                rw [← hb56.cell (lt_of_cell e0')] at e0
                have fz6 : W6.frozen? ⟨dg, qb * 2, none⟩ = false := by rw [hb6.frozen (p := ⟨dg, qb * 2, none⟩) (Nat.lt_of_lt_of_le hdgw hBu.size)]; exact fz
                obtain ⟨hS7, hB7⟩ := HSO.out W6 (hRA.above hb6)
                clear hW6 y6' x1' e0' fz
                go_wp2_with fail
                go_roundw
                case rel => exact ⟨k + 1, by omega, by go_num, FIN.out W6 _ r2 hb6 hB7 hS7 (HSlt.out (by omega)) HFT2.out⟩
                case measure => simp [intOf]; omega
            · obtain rfl : k = M := by omega
              have hlt1 : ¬ (k : Int) < (k : Int) := by omega
              obtain ⟨y0, y1, y2, _, _, _, y6⟩ := pk7 hPr.out
              go_wp2_with fail
              refine (none_err _).mono ?_
              rintro e w9 ⟨rfl, hb9⟩
              have hE9 := (hb9.block E (lt_of_block hEr.out)).trans hEr.out
              obtain ⟨e0, e1, f0, f1⟩ := twoE hE9
              obtain ⟨p1, p2⟩ := putE w9 E _ _ (.int .i64 0) (.int .i64 (-1)) _ hE9
              obtain ⟨q0, q1, _, _⟩ := twoE p1
              have hR9 := hRA.above hb9
              have hBu9 := hBu.below hb9 (fun _ hi q => absurd (Nat.lt_of_lt_of_le hi hBu.size) q)
              clear y0 y1 y2 y6
              go_wp2_with fail
              refine bodyPost_ret (v := .agg #[.int .i64 0, .int .i64 (-1)]) (by simp [results, Tryz.results120, go_sem, q0, q1]) rfl ?_
              rw [HG.out, if_neg (by omega), if_neg (by rw [← HOL.out]; omega), if_neg (by omega)]
              refine ⟨rfl, r', hR9.kept (fun b hb' => p2.block b (hR9.foot_lt hb').2 (hR9.ne hE9 b hb')), ?_, hBu9.then p2 (fun i hi q => by have := HPN.out.2; omega), hft.out⟩
              rw [← HM.out]
              exact hSi
      · have hL1 : ¬ (ln : Int) = (ol : Int) := by omega
        go_quiet (fail)
        obtain ⟨W4, hW4⟩ : ∃ x, x = W3.drewN nq := ⟨_, rfl⟩
        rw [← hW4]
        have hb34 : Below W3.heap.size W3 W4 := below_drew hW4
        have hb24 : Below W2.heap.size W2 W4 := hb23.trans (hb34.mono hb23.size)
        clear hW4 y0 y1 y2 y6 c3 t0
        obtain ⟨⟨e0, e1, f0, f1⟩, q0, q1, hfin⟩ := HPUT.out W4 6 2 hb24
        go_wp2_with fail
        refine bodyPost_ret (v := .agg #[.int .i64 6, .int .i64 2]) (by simp [results, Tryz.results120, go_sem, q0, q1]) rfl ?_
        rw [HG.out, if_neg (by omega), if_pos (by rw [← HOL.out]; exact hL)]
        exact ⟨rfl, hfin⟩

end Go.Proofs.YtjabhnhejbhgjaaGreatDoor

/- Hear of the program, Hear of the document: one answer. -/
namespace Go.Proofs.YtjabhnhejbhgjaaGreatDoor
open Go.RowKit

/-- What Hear tells: an error's number and place. -/
def hearZ (s : Snd) (l : List Gf.F) : Int × Int :=
  match parseE s.K s.N s.S l with
  | some (c, k) => ((c : Int), (k : Int))
  | none => if s.os.length ≤ bt l 1 then (6, 1) else if lenOf l ≠ (oat s.os (bt l 1)).l.length then (6, 2) else if bt l 0 = 1 then (5, 0) else (0, -1)
/-- What becomes of the sender. -/
def hearS (s : Snd) (l : List Gf.F) : Snd :=
  match parseE s.K s.N s.S l with
  | some _ => s
  | none => if s.os.length ≤ bt l 1 then s else if lenOf l ≠ (oat s.os (bt l 1)).l.length then s else if bt l 0 = 1 then s else s.askN (bt l 1) (l.drop 4) (bt (l.drop 4) 0)

/-- An error that says so. -/
def VSays (A : Nat → Addr) (w' : World) (v : Value) (z : Int × Int) : Prop :=
  (z = (0, -1) ∧ v = .nilIface) ∨ (∃ i : Nat, i < 8 ∧ z = ((i : Int) + 1, -1) ∧ v = E A (i + 1)) ∨ ∃ (i pb : Nat), i < 8 ∧ z.1 = (i : Int) + 1 ∧ v = .iface 166 (.pointer (some ⟨pb, 0, none⟩)) ∧ w'.heap[pb]? = some (.cells #[.int .i64 z.2, E A (i + 1)] 168 (0, 0))

theorem told_says {A : Nat → Addr} {B : Nat} {w : World} {v : Value} {z : Int × Int} (hE : Errs A B w) (h : VSays A w v z) :
    Calls Tryz.prog 56 #[v] w fun e w' => e = .returned (.agg #[.int .i64 z.1, .int .i64 z.2]) ∧ Below w.heap.size w w' := by
  rcases h with ⟨rfl, rfl⟩ | ⟨i, hi, rfl, rfl⟩ | ⟨i, pb, hi, h1, rfl, h2⟩
  · exact told_nil w
  · exact told_err A B i hi w hE
  · rw [h1]
    exact told_bad A B i hi pb z.2 w hE h2
theorem VSays.kept {A : Nat → Addr} {w w' : World} {v : Value} {z : Int × Int} (h : VSays A w v z) (hk : ∀ (pb : Nat) (cs : Array Value), w.heap[pb]? = some (Obj.cells cs 168 (0, 0)) → w'.heap[pb]? = w.heap[pb]?) : VSays A w' v z := by
  rcases h with h | h | ⟨i, pb, hi, h1, h3, h2⟩
  · exact .inl h
  · exact .inr (.inl h)
  · exact .inr (.inr ⟨i, pb, hi, h1, h3, (hk pb _ h2).trans h2⟩)
theorem VSays.below {A : Nat → Addr} {w w' : World} {v : Value} {z : Int × Int} (h : VSays A w v z) (hb : Below w.heap.size w w') : VSays A w' v z := h.kept (fun pb _ hp => hb.block pb (lt_of_block hp))
theorem Wr.says {A : Nat → Addr} {w w' : World} {v : Value} {z : Int} {i : Nat} (hi : i < 8) (h : Wr w w' v z (E A (i + 1))) : VSays A w' v ((i : Int) + 1, z) := by
  obtain ⟨pb, rfl, _, hblk⟩ := h
  exact .inr (.inr ⟨i, pb, hi, rfl, rfl, hblk⟩)

theorem HearGives.one {A : Nat → Addr} {s : Snd} {l : List Gf.F} {B sb : Nat} {w w' : World} {e : Ending} (h : HearGives A s l B sb w e w') (hS : SAt w B sb s) (ok : s.Ok) :
    ∃ v, e = .returned v ∧ VSays A w' v (hearZ s l) ∧ SAt w' B sb (hearS s l) ∧ (hearS s l).Ok ∧ But (s.foot sb) w w' ∧ ∀ b, (hearS s l).foot sb b ↔ s.foot sb b := by
  unfold HearGives at h
  unfold hearZ hearS
  have hbb : ∀ {w' : World}, Below w.heap.size w w' → But (s.foot sb) w w' := fun hb => Below.but hb _ (fun i hi q => absurd hi q)
  cases hp : parseE s.K s.N s.S l with
  | some ep =>
    obtain ⟨c, k⟩ := ep
    rw [hp] at h
    obtain ⟨v, rfl, hw, hb⟩ := h
    obtain ⟨i, hi, rfl⟩ := parseE_code hp
    refine ⟨v, rfl, ?_, hS.above hb, ok, hbb hb, fun b => Iff.rfl⟩
    have := Wr.says (i := i) hi hw
    simpa using this
  | none =>
    rw [hp] at h
    simp only at h ⊢
    by_cases h1 : s.os.length ≤ bt l 1
    · rw [if_pos h1] at h ⊢
      rw [if_pos h1]
      obtain ⟨v, rfl, hw, hb⟩ := h
      exact ⟨v, rfl, Wr.says (i := 5) (by omega) hw, hS.above hb, ok, hbb hb, fun b => Iff.rfl⟩
    · rw [if_neg h1] at h ⊢
      rw [if_neg h1]
      by_cases h2 : lenOf l ≠ (oat s.os (bt l 1)).l.length
      · rw [if_pos h2] at h ⊢
        rw [if_pos h2]
        obtain ⟨v, rfl, hw, hb⟩ := h
        exact ⟨v, rfl, Wr.says (i := 5) (by omega) hw, hS.above hb, ok, hbb hb, fun b => Iff.rfl⟩
      · rw [if_neg h2] at h ⊢
        rw [if_neg h2]
        by_cases h3 : bt l 0 = 1
        · rw [if_pos h3] at h ⊢
          rw [if_pos h3]
          obtain ⟨v, rfl, hw, hb⟩ := h
          exact ⟨v, rfl, Wr.says (i := 4) (by omega) hw, hS.above hb, ok, hbb hb, fun b => Iff.rfl⟩
        · rw [if_neg h3] at h ⊢
          rw [if_neg h3]
          obtain ⟨rfl, hA, hbu⟩ := h
          have hi : bt l 1 < s.os.length := by omega
          refine ⟨_, rfl, .inl ⟨rfl, rfl⟩, hA, ?_, hbu, fun b => Snd.foot_askN hi _ sb b _⟩
          exact (Snd.askN_ok ok hi (Snd.asksQ ok hp (by simpa using h2) h3) _ (Nat.le_refl _)).1

theorem RHearGives.one {s : Snd} {r : Rsn} {l : List Gf.F} {c B rb : Nat} {w w' : World} {e : Ending} (h : RHearGives s r l c B rb w e w') (hR : RAt w B rb r) (sim : Sim s r c) :
    e = .returned (.agg #[.int .i64 (hearZ s l).1, .int .i64 (hearZ s l).2]) ∧ ∃ r', RAt w' B rb r' ∧ Sim (hearS s l) r' c ∧ But (r.foot rb) w w' ∧ ∀ b, r'.foot rb b ↔ r.foot rb b := by
  unfold RHearGives at h
  unfold hearZ hearS
  have hbb : ∀ {w' : World}, Below w.heap.size w w' → But (r.foot rb) w w' := fun hb => Below.but hb _ (fun i hi q => absurd hi q)
  cases hp : parseE s.K s.N s.S l with
  | some ep =>
    obtain ⟨c', k⟩ := ep
    rw [hp] at h
    obtain ⟨rfl, hb⟩ := h
    exact ⟨rfl, r, hR.above hb, sim, hbb hb, fun b => Iff.rfl⟩
  | none =>
    rw [hp] at h
    simp only at h ⊢
    by_cases h1 : s.os.length ≤ bt l 1
    · rw [if_pos h1] at h ⊢
      rw [if_pos h1]
      obtain ⟨rfl, hb⟩ := h
      exact ⟨rfl, r, hR.above hb, sim, hbb hb, fun b => Iff.rfl⟩
    · rw [if_neg h1] at h ⊢
      rw [if_neg h1]
      by_cases h2 : lenOf l ≠ (oat s.os (bt l 1)).l.length
      · rw [if_pos h2] at h ⊢
        rw [if_pos h2]
        obtain ⟨rfl, hb⟩ := h
        exact ⟨rfl, r, hR.above hb, sim, hbb hb, fun b => Iff.rfl⟩
      · rw [if_neg h2] at h ⊢
        rw [if_neg h2]
        by_cases h3 : bt l 0 = 1
        · rw [if_pos h3] at h ⊢
          rw [if_pos h3]
          obtain ⟨rfl, hb⟩ := h
          exact ⟨rfl, r, hR.above hb, sim, hbb hb, fun b => Iff.rfl⟩
        · rw [if_neg h3] at h ⊢
          rw [if_neg h3]
          obtain ⟨rfl, r', h4, h5, h6, h7⟩ := h
          exact ⟨rfl, r', h4, h5, h6, h7⟩

end Go.Proofs.YtjabhnhejbhgjaaGreatDoor

/- The law's World: bytes lent, and given back. -/
namespace Go.Proofs.YtjabhnhejbhgjaaGreatDoor
open Go.RowKit

/-- A phase: the World stands so, and what is no one's has stayed. -/
def PhB (A : Nat → Addr) (B0 : Nat) (own0 : Nat → Nat) (W0 : World) (hb : Nat) (hs : HS) (es : List Ent) (ps : List Pr) (W : World) : Prop := ∃ own, WJ A B0 own W hb hs es ps ∧ Fr own0 W0 own W

/-- .. and block G, which is lent, and the list of what is lent, are Hands'. -/
def PhG (A : Nat → Addr) (B0 : Nat) (own0 : Nat → Nat) (W0 : World) (hb : Nat) (hs : HS) (es : List Ent) (ps : List Pr) (G : Nat) (v1 : Value) (W : World) : Prop := ∃ own, WJ A B0 own W hb { hs with in_ := v1 } es ps ∧ Fr own0 W0 own W ∧ ∀ b, (b = G ∨ v1.ownBlock = some b) → own b = 0 ∧ b < W.heap.size

section
variable {A : Nat → Addr} {B0 : Nat} {own0 : Nat → Nat} {W0 W W' : World} {hb : Nat} {hs : HS} {es : List Ent} {ps : List Pr}

theorem PhB.above (h : PhB A B0 own0 W0 hb hs es ps W) (hbe : Below W.heap.size W W') : PhB A B0 own0 W0 hb hs es ps W' := by
  obtain ⟨own, hJ, hF⟩ := h
  exact ⟨_, hJ.above 0 hbe, hF.trans (Fr.above 0 hbe)⟩
theorem PhB.size (h : PhB A B0 own0 W0 hb hs es ps W) : W0.heap.size ≤ W.heap.size := by
  obtain ⟨own, _, hF⟩ := h
  exact hF.size
theorem PhB.opb (h : PhB A B0 own0 W0 hb hs es ps W) {a : Option Addr} {b o n c : Nat} {l : List Gf.F} (hO : OpB own0 W0 a b o n c l) : Bs W b o l ∧ (0 < n → b < W.heap.size) := by
  obtain ⟨own, _, hF⟩ := h
  exact ⟨(hO.fr hF).bs, fun h0 => ((hO.fr hF).free h0).1⟩
theorem PhB.block (h : PhB A B0 own0 W0 hb hs es ps W) {g : Nat} (hg : g < W0.heap.size) (h1 : own0 g = 1) : W.heap[g]? = W0.heap[g]? := by
  obtain ⟨own, _, hF⟩ := h
  exact (hF.keep g hg h1).2

theorem PhG.above {G : Nat} {v1 : Value} (h : PhG A B0 own0 W0 hb hs es ps G v1 W) (hbe : Below W.heap.size W W') : PhG A B0 own0 W0 hb hs es ps G v1 W' := by
  obtain ⟨own, hJ, hF, h1⟩ := h
  exact ⟨_, hJ.above 0 hbe, hF.trans (Fr.above 0 hbe), fun b q => ⟨by rw [ownN_old (h1 b q).2]; exact (h1 b q).1, Nat.lt_of_lt_of_le (h1 b q).2 hbe.size⟩⟩
theorem PhG.b {G : Nat} {v1 : Value} (h : PhG A B0 own0 W0 hb hs es ps G v1 W) : PhB A B0 own0 W0 hb { hs with in_ := v1 } es ps W := by
  obtain ⟨own, hJ, hF, _⟩ := h
  exact ⟨own, hJ, hF⟩

/-- What Hands holds lies below G. -/
structure LowH (hs : HS) (es : List Ent) (G : Nat) : Prop where
  sv : ∀ b, hs.sv.ownBlock = some b → b < G
  out : ∀ b, hs.out.ownBlock = some b → b < G
  marks : ∀ b, hs.marks.ownBlock = some b → b < G
  each : ∀ e ∈ es, ∀ b, e.v.ownBlock = some b → b < G
theorem WJ.lowH {own : Nat → Nat} (h : WJ A B0 own W hb hs es ps) : LowH hs es W.heap.size :=
  ⟨fun b hg => (h.sown.lt b hg).2, fun b hg => (h.outs.own.lt b hg).2, fun b hg => (h.outs.marks.lt b hg).2, fun _ he _ hg => h.ltE he hg⟩

/-- Hands writes into its own block, and from G on. -/
theorem WJ.stepB {own : Nat → Nat} {hs' : HS} {S : Nat → Prop} {G : Nat} (h : WJ A B0 own W hb hs es ps) (hbu : But S W W') (hS : ∀ b, b < W.heap.size → S b → own b = 0) (hH : HAt W' hb hs') (hv : hs'.sv = hs.sv) (ho : hs'.out = hs.out) (hm : hs'.marks = hs.marks) (hn : ∀ b, S b → b = hb ∨ G ≤ b) (hl : LowH hs es G) :
    WJ A B0 (ownN own W.heap.size 0) W' hb hs' es ps := by
  have hne : ∀ {B n sz : Nat} {e : TypeId} {v : Value} {xs : List Value}, W.ownsRow B e sz v n xs → e ≠ 81 → (∀ b, v.ownBlock = some b → b < G) → ∀ g, v.ownBlock = some g → ¬ S g := fun hown e1 hlt g hg q => by
    rcases hn g q with q | q
    · exact own_ne hown hg h.hands e1 q
    · have := hlt g hg; omega
  refine h.stepH hbu hS hH ?_ hv (hne h.sown (by decide) hl.sv) (fun b hg => ?_) (fun b hg => ?_) (fun e he b hg => ?_)
  · rw [ho, hm]
    exact h.outs.but hbu (hne h.outs.own (by decide) hl.out) (hne h.outs.marks (by decide) hl.marks) (fun e he g hg q => by
      rcases hn g q with q | q
      · exact (h.outs.each e he).1.ne_hands h.hands g hg q
      · have := hl.each e he g hg; omega)
  · rw [ho] at hg
    rw [ownN_old (h.outs.own.lt b hg).2]; exact h.oO b hg
  · rw [hm] at hg
    rw [ownN_old (h.outs.marks.lt b hg).2]; exact h.oM b hg
  · rw [ownN_old (h.ltE he hg)]; exact h.oE e he b hg

theorem OpB.raw {a : Option Addr} {b o n c : Nat} {l : List Gf.F} {own : Nat → Nat} {w : World} (h : OpB own w a b o n c l) : RawIn w ⟨.slice a n c, l⟩ := by
  refine ⟨a, c, by show Value.slice a n c = .slice a l.length c; rw [h.len], fun h0 => ⟨b, o, h.adr (by have := h.len; have : 0 < l.length := h0; omega), h.bs⟩⟩

theorem wbytes {a : Option Addr} {b o n c : Nat} {l : List Gf.F} (h0 : PhB A B0 own0 W0 hb hs es ps W) (hin : hs.in_ = .slice none 0 0) (hO : OpB own0 W0 a b o n c l) :
    Calls Tryz.prog 81 #[.pointer (some ⟨hb, 2, none⟩), .slice a n c] W fun e W' =>
      ∃ G v1, e = .returned (.slice (some ⟨G, 0, none⟩) n (n + 2)) ∧ PhG A B0 own0 W0 hb hs es ps G v1 W' ∧ Lent W' G v1 [⟨.slice a n c, l⟩] [G] 1 ∧ W0.heap.size ≤ G ∧ LowH hs es G := by
  obtain ⟨own, hJ, hF⟩ := h0
  have hOW := hO.fr hF
  refine (bytes_any hb W.heap.size n 0 hs ⟨.slice a n c, l⟩ [] W hO.len (by have := hO.few; omega) (by omega) hJ.hands (by rw [hin]; exact World.ownsRow_nil ..) (Nat.le_refl _) hOW.raw).mono ?_
  rintro e w1 ⟨v1, rfl, hG1, hH1, hO1, hv1, hb1⟩
  have hbut : But (fun b => b = hb) W w1 := hb1.wide (fun k _ q => by
    rw [hin] at q
    rcases q with q | q
    · exact q
    · simp [Value.ownBlock] at q)
  have hJ1 := hJ.stepB (hs' := { hs with in_ := v1 }) (G := W.heap.size) hbut (fun b _ q => by rw [q]; exact hJ.oH) hH1 rfl rfl rfl (fun b q => .inl q) hJ.lowH
  refine ⟨W.heap.size, v1, rfl, ⟨_, hJ1, hF.trans (Fr.but hbut (fun b _ q => by rw [q, hJ.oH]; omega)), ?_⟩, ⟨rfl, ?_, ?_, ?_, ?_⟩, hF.size, hJ.lowH⟩
  · intro b q
    rcases q with rfl | q
    · exact ⟨ownN_new (Nat.le_refl _), hG1.lt⟩
    · exact ⟨ownN_new (hO1.lt b q).1, (hO1.lt b q).2⟩
  · have e : lentCells [⟨.slice a n c, l⟩] [W.heap.size] 1 = [.slice (some ⟨W.heap.size, 0, none⟩) (n + 2) (n + 2), .slice a n c] := by
      simp [lentCells, gat, wat, hO.len]
    rw [e]
    exact hO1
  · intro i hi
    obtain rfl : i = 0 := by omega
    exact Nat.le_refl _
  · intro i hi
    obtain rfl : i = 0 := by omega
    exact hG1
  · intro i j hi hj _
    omega

theorem HS.nilIn (hs : HS) (v1 : Value) (h : hs.Nil) : ({ ({ hs with in_ := v1 } : HS) with in_ := .slice none 0 0, rows := .slice none 0 0, ints := .slice none 0 0, iwant := .slice none 0 0 } : HS) = hs := by
  have h1 := h.in0
  have h2 := h.rows0
  have h3 := h.ints0
  have h4 := h.want0
  cases hs
  simp_all

theorem wback {a : Option Addr} {b o n c G : Nat} {l : List Gf.F} {v1 : Value} (lv : Value) (h0 : PhG A B0 own0 W0 hb hs es ps G v1 W) (hnil : hs.Nil) (hO : OpB own0 W0 a b o n c l) (hL : Lent W G v1 [⟨.slice a n c, l⟩] [G] 1) (hG : W0.heap.size ≤ G) (hlow : LowH hs es G) (hbl : hb < W0.heap.size) :
    Calls Tryz.prog 82 #[.pointer (some ⟨hb, 2, none⟩), lv] W fun e W' => e = .returned (.bool true) ∧ PhB A B0 own0 W0 hb hs es ps W' ∧ But (fun b => b = hb ∨ b = G) W W' := by
  obtain ⟨own, hJ, hF, hX⟩ := h0
  have hOW := hO.fr hF
  refine (back0_any lv hb G (G + 1) 1 0 0 0 0 0 0 0 0 0 0 rfl none none { hs with in_ := v1 } [⟨.slice a n c, l⟩] [G] [] W (by omega) (by omega) hJ.hands hL ?_ ?_ ?_ ?_).mono ?_
  · intro i hi
    obtain rfl : i = 0 := by omega
    exact Nat.lt_succ_self _
  · intro i hi
    obtain rfl : i = 0 := by omega
    refine ⟨hOW.raw, ?_, ?_⟩
    · show l.length ≤ _
      have := hO.few
      have := hO.len
      omega
    · intro h0 g hg
      have h0' : 0 < n := by have := hO.len; have : 0 < l.length := h0; omega
      have h1 := hO.adr h0'
      have h2 := (hO.free h0').1
      have hg' : (Value.slice a n c).ownBlock = some g := hg
      rw [h1] at hg'
      have hq : b = g := by simpa [Value.ownBlock] using hg'
      omega
  · exact ⟨by omega, by show World.ownsRow _ _ _ _ hs.rows _ _; rw [hnil.rows0]; exact World.ownsRow_nil .., fun h => absurd h (by omega)⟩
  · exact ⟨by omega, by show World.ownsRow _ _ _ _ hs.ints _ _; rw [hnil.ints0]; exact World.ownsRow_nil .., by show World.ownsRow _ _ _ _ hs.iwant _ _; rw [hnil.want0]; exact World.ownsRow_nil .., fun h => absurd h (by omega)⟩
  · rintro e w3 ⟨rfl, hH3, hb3⟩
    have hH3' : HAt w3 hb hs := by rw [← hs.nilIn v1 hnil]; exact hH3
    have hb3' : But (fun b => b = hb ∨ b = G) W w3 := hb3.wide (fun k _ q => by
      rcases q with q | q
      · exact .inl q
      · exact .inr (by omega))
    have h00 : ∀ b, b < W.heap.size → (b = hb ∨ b = G) → own b = 0 := fun b _ q => by
      rcases q with q | q
      · rw [q]; exact hJ.oH
      · rw [q]; exact (hX G (.inl rfl)).1
    have hJ3 := hJ.stepB (hs' := hs) (G := G) hb3' h00 hH3' rfl rfl rfl (fun b q => by
      rcases q with q | q
      · exact .inl q
      · exact .inr (by omega)) ⟨hlow.sv, hlow.out, hlow.marks, hlow.each⟩
    exact ⟨rfl, ⟨_, hJ3, hF.trans (Fr.but hb3' (fun b hb' q => by rw [h00 b hb' q]; omega))⟩, hb3'⟩

/-- A step of the program's i-th sender, while bytes are lent. -/
theorem PhG.stepS {G i : Nat} {v1 : Value} {rs : List Raw} {s' : Snd} (h : PhG A B0 own0 W0 hb hs es ps G v1 W) (hL : Lent W G v1 rs [G] 1) (hi : i < ps.length) (hbu : But ((pat ps i).s.foot (pat ps i).sb) W W') (hS : SAt W' (hb + 1) (pat ps i).sb s') (ok : s'.Ok) (hf : ∀ b, s'.foot (pat ps i).sb b → (pat ps i).s.foot (pat ps i).sb b ∨ W.heap.size ≤ b) :
    PhG A B0 own0 W0 hb hs es (ps.set i { pat ps i with s := s' }) G v1 W' ∧ Lent W' G v1 rs [G] 1 := by
  obtain ⟨own, hJ, hF, hX⟩ := h
  have hX2 : ∀ b, (b = G ∨ v1.ownBlock = some b) → ¬ (pat ps i).s.foot (pat ps i).sb b := fun b q p => by
    have h1 := (hX b q).1
    have h2 := hJ.oS i b hi p
    omega
  refine ⟨⟨_, hJ.stepS (k := 2 * i + 2) hi hbu hS ok (fun b q => ?_), hF.trans (Fr.but hbu (fun b _ q => by rw [hJ.oS i b hi q]; omega)), fun b q => ⟨by rw [ownN_old (hX b q).2]; exact (hX b q).1, Nat.lt_of_lt_of_le (hX b q).2 hbu.size⟩⟩, hL.kept hbu (fun g hg => hX2 g (.inr hg)) (fun j hj => ?_)⟩
  · rcases hf b q with q | q
    · rw [ownN_old (hJ.ltS hi q)]; exact hJ.oS i b hi q
    · exact ownN_new q
  · obtain rfl : j = 0 := by omega
    exact hX2 G (.inl rfl)

/-- A step of the document's. -/
theorem PhB.stepR {i : Nat} {r' : Rsn} (h : PhB A B0 own0 W0 hb hs es ps W) (hi : i < ps.length) (hbu : But ((pat ps i).r.foot (pat ps i).rb) W W') (hS : RAt W' (hb + 1) (pat ps i).rb r') (hf : ∀ b, r'.foot (pat ps i).rb b → (pat ps i).r.foot (pat ps i).rb b ∨ W.heap.size ≤ b) :
    PhB A B0 own0 W0 hb hs es (ps.set i { pat ps i with r := r' }) W' := by
  obtain ⟨own, hJ, hF⟩ := h
  refine ⟨_, hJ.stepR (k := 2 * i + 3) hi hbu hS (fun b q => ?_), hF.trans (Fr.but hbu (fun b _ q => by rw [hJ.oR i b hi q]; omega))⟩
  rcases hf b q with q | q
  · rw [ownN_old (hJ.ltR hi q)]; exact hJ.oR i b hi q
  · exact ownN_new q
end

end Go.Proofs.YtjabhnhejbhgjaaGreatDoor
