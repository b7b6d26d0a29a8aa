/- murmur.Parse. (Written by gen_mparse.py.) -/
import Derived.Test.YtjabhnhejbhgjaaGreatDoorMany6
namespace Go.Proofs.YtjabhnhejbhgjaaGreatDoor
open Go.RowKit

/-- From the inner call's answer to the outer one's. -/
theorem ParseGives.lift {A : Nat → Addr} {K N S rb : Nat} {l : List Gf.F} {w W W1 W2 : World} {e : Ending} (h : ParseGives A K N S l W e W1) (hb : Below w.heap.size w W) (h2 : But (fun g => g = rb) W1 W2) (hr : rb < W.heap.size) (hr2 : w.heap.size ≤ rb) : ParseGives A K N S l w e W2 := by
  obtain ⟨h1, hb1⟩ := h
  have hs := hb.size
  have hs1 := hb1.size
  refine ⟨?_, (hb.trans (hb1.mono hs)).trans (h2.toBelow (by omega) (fun k hk q => by omega))⟩
  cases hp : parseE K N S l with
  | some ep =>
    obtain ⟨c, k⟩ := ep
    rw [hp] at h1
    obtain ⟨v, he, pb, hv, hpb, hblk⟩ := h1
    exact ⟨v, he, pb, hv, by omega, by rw [h2.block pb (lt_of_block hblk) (by omega)]; exact hblk⟩
  | none =>
    rw [hp] at h1
    by_cases hk : bt l 0 = 1
    · rw [if_pos hk] at h1
      rw [if_pos hk]
      obtain ⟨a, c1, he, ho⟩ := h1
      exact ⟨a, c1, he, own_base2 (h2.own ho (fun g hg q => by have := (ho.lt g hg).1; omega)) hs⟩
    · rw [if_neg hk] at h1
      rw [if_neg hk]
      obtain ⟨a, c1, he, ho⟩ := h1
      exact ⟨a, c1, he, own_base2 (h2.own ho (fun g hg q => by have := (ho.lt g hg).1; omega)) hs⟩

/-- The value of what Parse gives: seven parts and an error. -/
theorem ParseGives.form {A : Nat → Addr} {K N S : Nat} {l : List Gf.F} {W W1 : World} {e : Ending} (h : ParseGives A K N S l W e W1) : ∃ (x0 x1 x2 x3 x4 : Int) (a5 a6 : Option Addr) (n5 c5 n6 c6 : Nat) (v : Value), e = .returned (.tuple #[.agg #[.int .i64 x0, .int .i64 x1, .int .i64 x2, .int .i64 x3, .int .i64 x4, .slice a5 n5 c5, .slice a6 n6 c6], v]) := by
  obtain ⟨h1, _⟩ := h
  cases hp : parseE K N S l with
  | some ep =>
    obtain ⟨c, k⟩ := ep
    rw [hp] at h1
    obtain ⟨v, he, _⟩ := h1
    exact ⟨_, _, _, _, _, _, _, _, _, _, _, _, he⟩
  | none =>
    rw [hp] at h1
    by_cases hk : bt l 0 = 1
    · rw [if_pos hk] at h1
      obtain ⟨a, c1, he, _⟩ := h1
      exact ⟨_, _, _, _, _, _, _, _, _, _, _, _, he⟩
    · rw [if_neg hk] at h1
      obtain ⟨a, c1, he, _⟩ := h1
      exact ⟨_, _, _, _, _, _, _, _, _, _, _, _, he⟩

set_option maxRecDepth 100000 in
set_option maxHeartbeats 2000000 in
theorem mparse_ok (A : Nat → Addr) (B0 : Nat) (a : Option Addr) (b o n c K N S : Nat) (l : List Gf.F) (w : World) (hE : Errs A B0 w) (hET : ErrType w) (hB9 : 8 < w.heap.size) (hcfg : Cfg K N S) (hcb : cfgB (K : Int) (N : Int) (S : Int) = true) (hl : l.length = n) (hn : n ≤ c) (hc : c ≤ 9223372036854775807) (hn2 : n ≤ 140737488355328) (ha : 0 < n → a = some ⟨b, o, none⟩) (hB : Bs w b o l) (hb : 0 < n → b < w.heap.size) :
    Calls Tryz.prog 22 #[.agg #[.int .i64 (K : Int), .int .i64 (N : Int), .int .i64 (S : Int)], .slice a n c] w (ParseGives A K N S l w) := by
  have hst := PSt.start w K N S
  go_enter Tryz.func22, Tryz.ntmps22
  go_upto_region 1 with fail
  generalize ((w.alloc (.cells #[.int .i64 (K : Int), .int .i64 (N : Int), .int .i64 (S : Int)] 30)).alloc (.cells #[.int .i64 0, .int .i64 0, .int .i64 0, .int .i64 0, .int .i64 0, .slice none 0 0, .slice none 0 0] 60)) = W at *
  have hlt0 := hst.lt
  have k0 : W.cell? ⟨w.heap.size, 0, none⟩ = some (.int .i64 (K : Int)) := cell_of_row W _ 0 _ _ _ hst.cfg
  have k1 : W.cell? ⟨w.heap.size, 1, none⟩ = some (.int .i64 (N : Int)) := cell_of_row W _ 1 _ _ _ hst.cfg
  have k2 : W.cell? ⟨w.heap.size, 2, none⟩ = some (.int .i64 (S : Int)) := cell_of_row W _ 2 _ _ _ hst.cfg
  go_wp2_with fail
  refine (isConfig_any (K : Int) (N : Int) (S : Int) W).mono ?_
  rw [hcb]
  rintro e W1 ⟨rfl, hb1⟩
  have hst1 := hst.above (hb1.mono hlt0)
  have hlt1 := hst1.lt
  clear k0 k1 k2 hst
  have k0 : W1.cell? ⟨w.heap.size, 0, none⟩ = some (.int .i64 (K : Int)) := cell_of_row W1 _ 0 _ _ _ hst1.cfg
  have k1 : W1.cell? ⟨w.heap.size, 1, none⟩ = some (.int .i64 (N : Int)) := cell_of_row W1 _ 1 _ _ _ hst1.cfg
  have k2 : W1.cell? ⟨w.heap.size, 2, none⟩ = some (.int .i64 (S : Int)) := cell_of_row W1 _ 2 _ _ _ hst1.cfg
  go_wp2_with fail
  refine (parse_any A B0 a b o n c K N S l W1 (hst1.errs hE) (hET.below hst1.low hB9) (by have := hst1.low.size; omega) hcfg hl hn hc hn2 ha (fun i hi => by rw [hst1.low.cell (p := ⟨b, o + i, none⟩) (hb (by omega))]; exact hB i hi) (fun h => by have := hb h; omega)).mono ?_
  intro e W2 hG
  have hlow2 := hG.2
  obtain ⟨x0, x1, x2, x3, x4, a5, a6, n5, z5, n6, z6, v, rfl⟩ := hG.form
  have hres2 : W2.heap[w.heap.size + 1]? = _ := (hlow2.block _ (by omega)).trans hst1.res
  clear k0 k1 k2
  obtain ⟨c0, c1, c2, c3, c4, c5, c6⟩ := row7 hres2
  have f0 := frozen_of_row W2 _ 0 _ _ hres2
  have f1 := frozen_of_row W2 _ 1 _ _ hres2
  have f2 := frozen_of_row W2 _ 2 _ _ hres2
  have f3 := frozen_of_row W2 _ 3 _ _ hres2
  have f4 := frozen_of_row W2 _ 4 _ _ hres2
  have f5 := frozen_of_row W2 _ 5 _ _ hres2
  have f6 := frozen_of_row W2 _ 6 _ _ hres2
  have hp := put7 W2 (w.heap.size + 1) (.int .i64 0) (.int .i64 0) (.int .i64 0) (.int .i64 0) (.int .i64 0) (.slice none 0 0) (.slice none 0 0) (.int .i64 x0) (.int .i64 x1) (.int .i64 x2) (.int .i64 x3) (.int .i64 x4) (.slice a5 n5 z5) (.slice a6 n6 z6) hres2
  go_wp2_with fail
  generalize (((((((W2.setCell ⟨w.heap.size + 1, 0, none⟩ (.int .i64 x0)).setCell ⟨w.heap.size + 1, 1, none⟩ (.int .i64 x1)).setCell ⟨w.heap.size + 1, 2, none⟩ (.int .i64 x2)).setCell ⟨w.heap.size + 1, 3, none⟩ (.int .i64 x3)).setCell ⟨w.heap.size + 1, 4, none⟩ (.int .i64 x4)).setCell ⟨w.heap.size + 1, 5, none⟩ (.slice a5 n5 z5)).setCell ⟨w.heap.size + 1, 6, none⟩ (.slice a6 n6 z6)) = W9 at hp ⊢
  obtain ⟨hp1, hp2⟩ := hp
  obtain ⟨d0, d1, d2, d3, d4, d5, d6⟩ := row7 hp1
  clear c0 c1 c2 c3 c4 c5 c6 f0 f1 f2 f3 f4 f5 f6
  exact bodyPost_ret (v := .tuple #[.agg #[.int .i64 x0, .int .i64 x1, .int .i64 x2, .int .i64 x3, .int .i64 x4, .slice a5 n5 z5, .slice a6 n6 z6], v]) (by simp [results, Tryz.results22, go_sem, d0, d1, d2, d3, d4, d5, d6]) rfl (hG.lift hst1.low hp2 (by omega) (by omega))

set_option maxRecDepth 100000 in
set_option maxHeartbeats 2000000 in
theorem mparse_no (A : Nat → Addr) (B0 : Nat) (v : Value) (K N S : Int) (w : World) (hE : Errs A B0 w) (hcb : cfgB K N S = false) :
    Calls Tryz.prog 22 #[.agg #[.int .i64 K, .int .i64 N, .int .i64 S], v] w fun e w' => e = .returned (.tuple #[.agg #[.int .i64 0, .int .i64 0, .int .i64 0, .int .i64 0, .int .i64 0, .slice none 0 0, .slice none 0 0], E A 1]) ∧ Below w.heap.size w w' := by
  have hb0 : Below w.heap.size w ((w.alloc (.cells #[.int .i64 K, .int .i64 N, .int .i64 S] 30)).alloc (.cells #[.int .i64 0, .int .i64 0, .int .i64 0, .int .i64 0, .int .i64 0, .slice none 0 0, .slice none 0 0] 60)) := ((Below.refl _ _).alloc (Nat.le_refl _) _).alloc (by simp) _
  have hcf := heap_alloc_new w (.cells #[.int .i64 K, .int .i64 N, .int .i64 S] 30)
  have hrs := heap_alloc_new (w.alloc (.cells #[.int .i64 K, .int .i64 N, .int .i64 S] 30)) (.cells #[.int .i64 0, .int .i64 0, .int .i64 0, .int .i64 0, .int .i64 0, .slice none 0 0, .slice none 0 0] 60)
  rw [World.size_alloc] at hrs
  have hcf2 : ((w.alloc (.cells #[.int .i64 K, .int .i64 N, .int .i64 S] 30)).alloc (.cells #[.int .i64 0, .int .i64 0, .int .i64 0, .int .i64 0, .int .i64 0, .slice none 0 0, .slice none 0 0] 60)).heap[w.heap.size]? = _ := (Below.heap_alloc _ _ _ (by simp)).trans hcf
  go_enter Tryz.func22, Tryz.ntmps22
  go_upto_region 1 with fail
  generalize ((w.alloc (.cells #[.int .i64 K, .int .i64 N, .int .i64 S] 30)).alloc (.cells #[.int .i64 0, .int .i64 0, .int .i64 0, .int .i64 0, .int .i64 0, .slice none 0 0, .slice none 0 0] 60)) = W at *
  clear hcf
  have k0 : W.cell? ⟨w.heap.size, 0, none⟩ = some (.int .i64 K) := cell_of_row W _ 0 _ _ _ hcf2
  have k1 : W.cell? ⟨w.heap.size, 1, none⟩ = some (.int .i64 N) := cell_of_row W _ 1 _ _ _ hcf2
  have k2 : W.cell? ⟨w.heap.size, 2, none⟩ = some (.int .i64 S) := cell_of_row W _ 2 _ _ _ hcf2
  go_wp2_with fail
  refine (isConfig_any K N S W).mono ?_
  rw [hcb]
  rintro e W1 ⟨rfl, hb1⟩
  have hlow1 := hb0.trans (hb1.mono hb0.size)
  have hres : W1.heap[w.heap.size + 1]? = _ := (hb1.block _ (lt_of_block hrs)).trans hrs
  have hE1 : Errs A B0 W1 := hE.below (hlow1.mono hE.size)
  have g0 : W1.cell? ⟨4, 0, none⟩ = some (.iface 269 (.pointer (some (A 0)))) := hE1.cell 0 (by omega)
  have hpR : ∀ x : Nat, x = w.heap.size + 1 → x ≠ 4 := fun x hx => by have := hE.size; have := hE.eight; omega
  have hne : w.heap.size + 1 ≠ 4 := hpR _ rfl
  obtain ⟨c0, c1, c2, c3, c4, c5, c6⟩ := row7 hres
  have f0 := frozen_of_row W1 _ 0 _ _ hres
  have f1 := frozen_of_row W1 _ 1 _ _ hres
  have f2 := frozen_of_row W1 _ 2 _ _ hres
  have f3 := frozen_of_row W1 _ 3 _ _ hres
  have f4 := frozen_of_row W1 _ 4 _ _ hres
  have f5 := frozen_of_row W1 _ 5 _ _ hres
  have f6 := frozen_of_row W1 _ 6 _ _ hres
  clear k0 k1 k2 hcf2 hpR
  have hp := put7 W1 (w.heap.size + 1) (.int .i64 0) (.int .i64 0) (.int .i64 0) (.int .i64 0) (.int .i64 0) (.slice none 0 0) (.slice none 0 0) (.int .i64 0) (.int .i64 0) (.int .i64 0) (.int .i64 0) (.int .i64 0) (.slice none 0 0) (.slice none 0 0) hres
  go_wp2_with fail
  go_region
  all_goals
    generalize (((((((W1.setCell ⟨w.heap.size + 1, 0, none⟩ (.int .i64 0)).setCell ⟨w.heap.size + 1, 1, none⟩ (.int .i64 0)).setCell ⟨w.heap.size + 1, 2, none⟩ (.int .i64 0)).setCell ⟨w.heap.size + 1, 3, none⟩ (.int .i64 0)).setCell ⟨w.heap.size + 1, 4, none⟩ (.int .i64 0)).setCell ⟨w.heap.size + 1, 5, none⟩ (.slice none 0 0)).setCell ⟨w.heap.size + 1, 6, none⟩ (.slice none 0 0)) = W9 at hp ⊢
    obtain ⟨hp1, hp2⟩ := hp
    obtain ⟨d0, d1, d2, d3, d4, d5, d6⟩ := row7 (show W9.drew.heap[w.heap.size + 1]? = _ from hp1)
    have hlow9 : Below w.heap.size w W9.drew := (hlow1.trans (hp2.toBelow (by have := hlow1.size; omega) (fun k hk q => by omega))).drew
    clear c0 c1 c2 c3 c4 c5 c6 f0 f1 f2 f3 f4 f5 f6 g0
    generalize W9.drew = W10 at *
    go_wp2_with fail
    exact bodyPost_ret (v := .tuple #[.agg #[.int .i64 0, .int .i64 0, .int .i64 0, .int .i64 0, .int .i64 0, .slice none 0 0, .slice none 0 0], .iface 269 (.pointer (some (A 0)))]) (by simp [results, Tryz.results22, go_sem, d0, d1, d2, d3, d4, d5, d6]) rfl ⟨rfl, hlow9⟩

end Go.Proofs.YtjabhnhejbhgjaaGreatDoor
