import Derived.Test.YtjabhnhejbhgjaaDoorWireParse
import Derived.Test.YtjabhnhejbhgjaaDoorBackWalk
import Derived.Test.YtjabhnhejbhgjaaDoorMany2
import Derived.Test.YtjabhnhejbhgjaaDoorMany1
/- murmur.Parse. (Written by gen_mparse.py.) -/
namespace Go.Proofs.YtjabhnhejbhgjaaDoor
open Go.RowKit

/-- From the inner call's answer to the outer one's. -/
theorem ParseGives.lift {A : Nat → Addr} {K N S rb : Nat} {l : List Gf.F} {w W W1 W2 : World} {e : Ending} (h : ParseGives A K N S l W e W1) (hb : Below w.heap.size w W) (h2 : But (fun g => g = rb) W1 W2) (hr : rb < W.heap.size) (hr2 : w.heap.size ≤ rb) : ParseGives A K N S l w e W2 := by
  obtain ⟨h1, hb1⟩ := h
  have hs := hb.size
  have hs1 := hb1.size
  refine ⟨?_, (hb.trans (hb1.mono hs)).trans (h2.toBelow (by omega) (fun k hk q => by omega))⟩
  cases hp : parseE K N S l with
  | some ep =>
    obtain ⟨c, k⟩ := ep
    rw [hp] at h1
    obtain ⟨v, he, pb, hv, hpb, hblk⟩ := h1
    exact ⟨v, he, pb, hv, by omega, by rw [h2.block pb (lt_of_block hblk) (by omega)]; exact hblk⟩
  | none =>
    rw [hp] at h1
    by_cases hk : bt l 0 = 1
    · rw [if_pos hk] at h1
      rw [if_pos hk]
      obtain ⟨a, c1, he, ho⟩ := h1
      exact ⟨a, c1, he, own_base2 (h2.own ho (fun g hg q => by have := (ho.lt g hg).1; omega)) hs⟩
    · rw [if_neg hk] at h1
      rw [if_neg hk]
      obtain ⟨a, c1, he, ho⟩ := h1
      exact ⟨a, c1, he, own_base2 (h2.own ho (fun g hg q => by have := (ho.lt g hg).1; omega)) hs⟩

/-- The value of what Parse gives: seven parts and an error. -/
theorem ParseGives.form {A : Nat → Addr} {K N S : Nat} {l : List Gf.F} {W W1 : World} {e : Ending} (h : ParseGives A K N S l W e W1) : ∃ (x0 x1 x2 x3 x4 : Int) (a5 a6 : Option Addr) (n5 c5 n6 c6 : Nat) (v : Value), e = .returned (.tuple #[.agg #[.int .i64 x0, .int .i64 x1, .int .i64 x2, .int .i64 x3, .int .i64 x4, .slice a5 n5 c5, .slice a6 n6 c6], v]) := by
  obtain ⟨h1, _⟩ := h
  cases hp : parseE K N S l with
  | some ep =>
    obtain ⟨c, k⟩ := ep
    rw [hp] at h1
    obtain ⟨v, he, _⟩ := h1
    exact ⟨_, _, _, _, _, _, _, _, _, _, _, _, he⟩
  | none =>
    rw [hp] at h1
    by_cases hk : bt l 0 = 1
    · rw [if_pos hk] at h1
      obtain ⟨a, c1, he, _⟩ := h1
      exact ⟨_, _, _, _, _, _, _, _, _, _, _, _, he⟩
    · rw [if_neg hk] at h1
      obtain ⟨a, c1, he, _⟩ := h1
      exact ⟨_, _, _, _, _, _, _, _, _, _, _, _, he⟩

set_option maxRecDepth 100000 in
set_option maxHeartbeats 2000000 in
theorem mparse_ok (A : Nat → Addr) (B0 : Nat) (a : Option Addr) (b o n c K N S : Nat) (l : List Gf.F) (w : World) (hE : Errs A B0 w) (hET : ErrType w) (hB9 : 8 < w.heap.size) (hcfg : Cfg K N S) (hcb : cfgB (K : Int) (N : Int) (S : Int) = true) (hl : l.length = n) (hn : n ≤ c) (hc : c ≤ 9223372036854775807) (hn2 : n ≤ 140737488355328) (ha : 0 < n → a = some ⟨b, o, none⟩) (hB : Bs w b o l) (hb : 0 < n → b < w.heap.size) :
    Calls Tryd.prog 17 #[.agg #[.int .i64 (K : Int), .int .i64 (N : Int), .int .i64 (S : Int)], .slice a n c] w (ParseGives A K N S l w) := by
  have hst := PSt.start w K N S
  go_enter Tryd.func17, Tryd.ntmps17
  go_upto_region 1 with fail
  generalize ((w.alloc (.cells #[.int .i64 (K : Int), .int .i64 (N : Int), .int .i64 (S : Int)] 54)).alloc (.cells #[.int .i64 0, .int .i64 0, .int .i64 0, .int .i64 0, .int .i64 0, .slice none 0 0, .slice none 0 0] 57)) = W at *
  have hlt0 := hst.lt
  have k0 : W.cell? ⟨w.heap.size, 0, none⟩ = some (.int .i64 (K : Int)) := cell_of_row W _ 0 _ _ _ hst.cfg
  have k1 : W.cell? ⟨w.heap.size, 1, none⟩ = some (.int .i64 (N : Int)) := cell_of_row W _ 1 _ _ _ hst.cfg
  have k2 : W.cell? ⟨w.heap.size, 2, none⟩ = some (.int .i64 (S : Int)) := cell_of_row W _ 2 _ _ _ hst.cfg
  go_wp2_with fail
  refine (isConfig_any (K : Int) (N : Int) (S : Int) W).mono ?_
  rw [hcb]
  rintro e W1 ⟨rfl, hb1⟩
  have hst1 := hst.above (hb1.mono hlt0)
  have hlt1 := hst1.lt
  clear k0 k1 k2 hst
  have k0 : W1.cell? ⟨w.heap.size, 0, none⟩ = some (.int .i64 (K : Int)) := cell_of_row W1 _ 0 _ _ _ hst1.cfg
  have k1 : W1.cell? ⟨w.heap.size, 1, none⟩ = some (.int .i64 (N : Int)) := cell_of_row W1 _ 1 _ _ _ hst1.cfg
  have k2 : W1.cell? ⟨w.heap.size, 2, none⟩ = some (.int .i64 (S : Int)) := cell_of_row W1 _ 2 _ _ _ hst1.cfg
  go_wp2_with fail
  refine (parse_any A B0 a b o n c K N S l W1 (hst1.errs hE) (hET.below hst1.low hB9) (by have := hst1.low.size; omega) hcfg hl hn hc hn2 ha (fun i hi => by rw [hst1.low.cell (p := ⟨b, o + i, none⟩) (hb (by omega))]; exact hB i hi) (fun h => by have := hb h; omega)).mono ?_
  intro e W2 hG
  have hlow2 := hG.2
  obtain ⟨x0, x1, x2, x3, x4, a5, a6, n5, z5, n6, z6, v, rfl⟩ := hG.form
  have hres2 : W2.heap[w.heap.size + 1]? = _ := (hlow2.block _ (by omega)).trans hst1.res
  clear k0 k1 k2
  obtain ⟨c0, c1, c2, c3, c4, c5, c6⟩ := row7 hres2
  have f0 := frozen_of_row W2 _ 0 _ _ hres2
  have f1 := frozen_of_row W2 _ 1 _ _ hres2
  have f2 := frozen_of_row W2 _ 2 _ _ hres2
  have f3 := frozen_of_row W2 _ 3 _ _ hres2
  have f4 := frozen_of_row W2 _ 4 _ _ hres2
  have f5 := frozen_of_row W2 _ 5 _ _ hres2
  have f6 := frozen_of_row W2 _ 6 _ _ hres2
  have hp := put7 W2 (w.heap.size + 1) (.int .i64 0) (.int .i64 0) (.int .i64 0) (.int .i64 0) (.int .i64 0) (.slice none 0 0) (.slice none 0 0) (.int .i64 x0) (.int .i64 x1) (.int .i64 x2) (.int .i64 x3) (.int .i64 x4) (.slice a5 n5 z5) (.slice a6 n6 z6) hres2
  go_wp2_with fail
  generalize (((((((W2.setCell ⟨w.heap.size + 1, 0, none⟩ (.int .i64 x0)).setCell ⟨w.heap.size + 1, 1, none⟩ (.int .i64 x1)).setCell ⟨w.heap.size + 1, 2, none⟩ (.int .i64 x2)).setCell ⟨w.heap.size + 1, 3, none⟩ (.int .i64 x3)).setCell ⟨w.heap.size + 1, 4, none⟩ (.int .i64 x4)).setCell ⟨w.heap.size + 1, 5, none⟩ (.slice a5 n5 z5)).setCell ⟨w.heap.size + 1, 6, none⟩ (.slice a6 n6 z6)) = W9 at hp ⊢
  obtain ⟨hp1, hp2⟩ := hp
  obtain ⟨d0, d1, d2, d3, d4, d5, d6⟩ := row7 hp1
  clear c0 c1 c2 c3 c4 c5 c6 f0 f1 f2 f3 f4 f5 f6
  exact bodyPost_ret (v := .tuple #[.agg #[.int .i64 x0, .int .i64 x1, .int .i64 x2, .int .i64 x3, .int .i64 x4, .slice a5 n5 z5, .slice a6 n6 z6], v]) (by simp [results, Tryd.results17, go_sem, d0, d1, d2, d3, d4, d5, d6]) rfl (hG.lift hst1.low hp2 (by omega) (by omega))

set_option maxRecDepth 100000 in
set_option maxHeartbeats 2000000 in
theorem mparse_no (A : Nat → Addr) (B0 : Nat) (v : Value) (K N S : Int) (w : World) (hE : Errs A B0 w) (hcb : cfgB K N S = false) :
    Calls Tryd.prog 17 #[.agg #[.int .i64 K, .int .i64 N, .int .i64 S], v] w fun e w' => e = .returned (.tuple #[.agg #[.int .i64 0, .int .i64 0, .int .i64 0, .int .i64 0, .int .i64 0, .slice none 0 0, .slice none 0 0], E A 1]) ∧ Below w.heap.size w w' := by
  have hb0 : Below w.heap.size w ((w.alloc (.cells #[.int .i64 K, .int .i64 N, .int .i64 S] 54)).alloc (.cells #[.int .i64 0, .int .i64 0, .int .i64 0, .int .i64 0, .int .i64 0, .slice none 0 0, .slice none 0 0] 57)) := ((Below.refl _ _).alloc (Nat.le_refl _) _).alloc (by simp) _
  have hcf := heap_alloc_new w (.cells #[.int .i64 K, .int .i64 N, .int .i64 S] 54)
  have hrs := heap_alloc_new (w.alloc (.cells #[.int .i64 K, .int .i64 N, .int .i64 S] 54)) (.cells #[.int .i64 0, .int .i64 0, .int .i64 0, .int .i64 0, .int .i64 0, .slice none 0 0, .slice none 0 0] 57)
  rw [World.size_alloc] at hrs
  have hcf2 : ((w.alloc (.cells #[.int .i64 K, .int .i64 N, .int .i64 S] 54)).alloc (.cells #[.int .i64 0, .int .i64 0, .int .i64 0, .int .i64 0, .int .i64 0, .slice none 0 0, .slice none 0 0] 57)).heap[w.heap.size]? = _ := (Below.heap_alloc _ _ _ (by simp)).trans hcf
  go_enter Tryd.func17, Tryd.ntmps17
  go_upto_region 1 with fail
  generalize ((w.alloc (.cells #[.int .i64 K, .int .i64 N, .int .i64 S] 54)).alloc (.cells #[.int .i64 0, .int .i64 0, .int .i64 0, .int .i64 0, .int .i64 0, .slice none 0 0, .slice none 0 0] 57)) = W at *
  clear hcf
  have k0 : W.cell? ⟨w.heap.size, 0, none⟩ = some (.int .i64 K) := cell_of_row W _ 0 _ _ _ hcf2
  have k1 : W.cell? ⟨w.heap.size, 1, none⟩ = some (.int .i64 N) := cell_of_row W _ 1 _ _ _ hcf2
  have k2 : W.cell? ⟨w.heap.size, 2, none⟩ = some (.int .i64 S) := cell_of_row W _ 2 _ _ _ hcf2
  go_wp2_with fail
  refine (isConfig_any K N S W).mono ?_
  rw [hcb]
  rintro e W1 ⟨rfl, hb1⟩
  have hlow1 := hb0.trans (hb1.mono hb0.size)
  have hres : W1.heap[w.heap.size + 1]? = _ := (hb1.block _ (lt_of_block hrs)).trans hrs
  have hE1 : Errs A B0 W1 := hE.below (hlow1.mono hE.size)
  have g0 : W1.cell? ⟨0, 0, none⟩ = some (.iface 164 (.pointer (some (A 0)))) := hE1.cell 0 (by omega)
  have hpR : ∀ x : Nat, x = w.heap.size + 1 → x ≠ 0 := fun x hx => by have := hE.size; have := hE.eight; omega
  have hne : w.heap.size + 1 ≠ 0 := hpR _ rfl
  obtain ⟨c0, c1, c2, c3, c4, c5, c6⟩ := row7 hres
  have f0 := frozen_of_row W1 _ 0 _ _ hres
  have f1 := frozen_of_row W1 _ 1 _ _ hres
  have f2 := frozen_of_row W1 _ 2 _ _ hres
  have f3 := frozen_of_row W1 _ 3 _ _ hres
  have f4 := frozen_of_row W1 _ 4 _ _ hres
  have f5 := frozen_of_row W1 _ 5 _ _ hres
  have f6 := frozen_of_row W1 _ 6 _ _ hres
  clear k0 k1 k2 hcf2 hpR
  have hp := put7 W1 (w.heap.size + 1) (.int .i64 0) (.int .i64 0) (.int .i64 0) (.int .i64 0) (.int .i64 0) (.slice none 0 0) (.slice none 0 0) (.int .i64 0) (.int .i64 0) (.int .i64 0) (.int .i64 0) (.int .i64 0) (.slice none 0 0) (.slice none 0 0) hres
  go_wp2_with fail
  go_region
  all_goals
    generalize (((((((W1.setCell ⟨w.heap.size + 1, 0, none⟩ (.int .i64 0)).setCell ⟨w.heap.size + 1, 1, none⟩ (.int .i64 0)).setCell ⟨w.heap.size + 1, 2, none⟩ (.int .i64 0)).setCell ⟨w.heap.size + 1, 3, none⟩ (.int .i64 0)).setCell ⟨w.heap.size + 1, 4, none⟩ (.int .i64 0)).setCell ⟨w.heap.size + 1, 5, none⟩ (.slice none 0 0)).setCell ⟨w.heap.size + 1, 6, none⟩ (.slice none 0 0)) = W9 at hp ⊢
    obtain ⟨hp1, hp2⟩ := hp
    obtain ⟨d0, d1, d2, d3, d4, d5, d6⟩ := row7 (show W9.drew.heap[w.heap.size + 1]? = _ from hp1)
    have hlow9 : Below w.heap.size w W9.drew := (hlow1.trans (hp2.toBelow (by have := hlow1.size; omega) (fun k hk q => by omega))).drew
    clear c0 c1 c2 c3 c4 c5 c6 f0 f1 f2 f3 f4 f5 f6 g0
    generalize W9.drew = W10 at *
    go_wp2_with fail
    exact bodyPost_ret (v := .tuple #[.agg #[.int .i64 0, .int .i64 0, .int .i64 0, .int .i64 0, .int .i64 0, .slice none 0 0, .slice none 0 0], .iface 164 (.pointer (some (A 0)))]) (by simp [results, Tryd.results17, go_sem, d0, d1, d2, d3, d4, d5, d6]) rfl ⟨rfl, hlow9⟩

end Go.Proofs.YtjabhnhejbhgjaaDoor

/- Hands.back, where no list of lists was lent. (Written by gen_back0.py.) -/
namespace Go.Proofs.YtjabhnhejbhgjaaDoor
open Go.RowKit

set_option maxRecDepth 100000 in
set_option maxHeartbeats 4000000 in
theorem back0_any (lv : Value) (hb B B2 k kr ki X Z n lb lo zb zo zc : Nat) (hkr0 : Hid (kr = 0)) (al az : Option Addr) (s : HS) (rs : List Raw) (gs : List Nat) (l : List Int) (w : World) (hk : k ≤ 1048576) (hbB : hb < B) (hH : HAt w hb s)
    (hL : Lent w B s.in_ rs gs k) (hg2 : ∀ i, i < k → gat gs i < B2) (hO : Owned w B rs k) (hR : RowsIn w B B2 s.rows rs gs k X lb lo al kr) (hI : IntsIn w B B2 s.ints s.iwant l n Z zb zo zc az ki) :
    Calls Tryd.prog 28 #[.pointer (some ⟨hb, 0, none⟩), lv] w fun e w' =>
      e = .returned (.bool true) ∧ HAt w' hb { s with in_ := .slice none 0 0, rows := .slice none 0 0, ints := .slice none 0 0, iwant := .slice none 0 0 } ∧ But (fun b => b = hb ∨ (B ≤ b ∧ b < B2)) w w' := by
  go_enter Tryd.func28, Tryd.ntmps28
  go_wp2_with fail
  go_loopw [5, 6] (fun t5 t6 wr => ∃ i : Nat, i ≤ kr ∧ t5 = .bool true ∧ t6 = .int .i64 (i : Int) ∧ (i = 0 → wr = w) ∧ But (fun b => b = X ∧ 0 < i) w wr) (fun _ t _ => kr - (intOf t).toNat)
  case atStart => exact ⟨0, by omega, rfl, rfl, fun _ => rfl, But.refl _ _⟩
  case round =>
    obtain ⟨i, hi, rfl, rfl, hw0, hbut⟩ := hrel
    by_cases hlt : i < kr
    · exact absurd hlt (by have := hkr0.out; omega)
    · obtain rfl : i = kr := by omega
      have hXt : 0 < i → w.heap[X]? = some (.cells (lendCells rs gs k k) 33 (0, 0)) ∧ B ≤ X ∧ X < B2 := fun q => ⟨(hR.list q).1, (hR.list q).2.1, (hR.list q).2.2.1⟩
      have HA : Hid (HAt wr hb s) := hH.kept (hbut.block hb hH.lt (fun q => by have := (hXt q.2).2.1; omega))
      have hLA : Lent wr B s.in_ rs gs k := hL.kept hbut (fun g hg q => own_ne hL.own hg (hXt q.2).1 (by decide) q.1) (fun j hj q => by
        have h1 := hL.blk j hj
        unfold Blk at h1
        rw [q.1, (hXt q.2).1] at h1
        simp only [Option.some.injEq, Obj.cells.injEq] at h1
        exact absurd h1.2.1 (by decide))
      have hOA : Owned wr B rs k := hO.but hbut (fun b q => by rw [q.1]; exact (hXt q.2).2.1)
      have hIA : IntsIn wr B B2 s.ints s.iwant l n Z zb zo zc az ki := hI.but hbut (fun g hg q => own_ne hI.ints hg (hXt q.2).1 (by decide) q.1) (fun g hg q => own_ne hI.want hg (hXt q.2).1 (by decide) q.1) (fun hk q => by
        have h1 := (hI.blk hk).1
        unfold ZBlk at h1
        rw [q.1, (hXt q.2).1] at h1
        simp only [Option.some.injEq, Obj.cells.injEq] at h1
        exact absurd h1.2.1 (by decide)) (fun b q => by rw [q.1]; exact (hXt q.2).2.1)
      have hbA : But (fun b => B ≤ b ∧ b < B2) w wr := hbut.wide (fun b _ q => by rw [q.1]; exact (hXt q.2).2)
      have hcr : wr.cell? ⟨hb, 1, none⟩ = some s.rows := HA.out.cell 1
      have hlenR : ∃ a c, s.rows = .slice a i c := by
        rcases hR.own.2 with ⟨h1, h2⟩ | ⟨g, cap, cur, h1, _⟩
        · exact ⟨_, _, by rw [h1, h2]⟩
        · exact ⟨_, _, h1⟩
      obtain ⟨ra, rc, hra⟩ := hlenR
      rw [hra] at hcr
      have HRA : Hid (s.rows = .slice ra i rc) := hra
      clear hra hbut hXt hw0 hlt
      generalize hWA : wr = wA at *
      clear hWA
      have hlow := hLA.low
      have HAP : Hid (∀ i j, i < k → j < k → gat gs i = gat gs j → i = j) := hLA.apart
      have hownA := hLA.own
      have HBA : Hid (∀ j, 0 ≤ j → j < k → Blk wA (gat gs j) (marked (wat rs j).l)) := fun j _ hj => hLA.blk j hj
      clear hLA hH hL hO hR hI
      go_wp2_with fail
      go_loopw [5, 11] (fun t5 t11 wr => ∃ (i : Nat), i ≤ k ∧ t5 = .bool true ∧ t11 = .int .i64 (i : Int) ∧ Hid (HAt wr hb s) ∧ wr.ownsRow B 106 2 s.in_ k (lentCells rs gs k) ∧ Hid (∀ j, i ≤ j → j < k → Blk wr (gat gs j) (marked (wat rs j).l)) ∧ Owned wr B rs k ∧ IntsIn wr B B2 s.ints s.iwant l n Z zb zo zc az ki ∧ But (fun b => B ≤ b ∧ b < B2) w wr) (fun _ t _ => k - (intOf t).toNat)
      case atStart => exact ⟨0, by omega, rfl, rfl, HA, hownA, HBA, hOA, hIA, hbA⟩
      case round =>
        clear HA hownA HBA hOA hIA hbA hcr
        obtain ⟨i4, hi4, rfl, rfl, HA, hownA, HBA, hOA, hIA, hbA⟩ := hrel
        have hci : wr.cell? ⟨hb, 0, none⟩ = some s.in_ := HA.out.cell 0
        by_cases hlt : i4 < k
        · obtain ⟨wB, rfl⟩ : ∃ x, x = wr := ⟨wr, rfl⟩
          obtain ⟨gi, ci, hvi, _, _⟩ := hownA.form (by omega)
          have hall : wB.cell? ⟨gi, i4 * 2, none⟩ = some (.slice (some ⟨gat gs i4, 0, none⟩) ((wat rs i4).l.length + 2) ((wat rs i4).l.length + 2)) := by
            exact own_cell hownA (by rw [hvi]; rfl) (lentCells_all rs gs k i4 hlt)
          have hwant : wB.cell? ⟨gi, i4 * 2 + 1, none⟩ = some (wat rs i4).v := by
            exact own_cell hownA (by rw [hvi]; rfl) (lentCells_want rs gs k i4 hlt)
          rw [hvi] at hci
          have HVI : Hid (s.in_ = .slice (some ⟨gi, 0, none⟩) k ci) := hvi
          clear hvi
          have hik : (i4 : Int) < (k : Int) := by omega
          obtain ⟨hraw, hml, _⟩ := hOA i4 hlt
          obtain ⟨m, hm⟩ : ∃ m, m = (wat rs i4).l.length := ⟨_, rfl⟩
          have hG := HBA.out i4 (Nat.le_refl _) hlt
          have hG2 := hG.bsN m
          rw [hm, marked_take] at hG2
          have hv1 := fun nq => hG2.convN m (m + 2) hm.symm nq
          have hv2 := fun nq => hraw.conv nq
          have hx0 : wB.cell? ⟨gat gs i4, m, none⟩ = some (.int .u8 165) := by
            have := hG.bs m (by simp [marked, hm])
            rw [Nat.zero_add] at this
            rw [this, hm]; simp [marked, at_, List.getD]
          have hx1 : wB.cell? ⟨gat gs i4, m + 1, none⟩ = some (.int .u8 165) := by
            have := hG.bs (m + 1) (by simp [marked, hm])
            rw [Nat.zero_add] at this
            rw [this, hm]; simp [marked, at_, List.getD]
          have hss : ((str (wat rs i4).l).toList == (str (wat rs i4).l).toList) = true := by rw [beq_iff_eq]
          rw [← hm] at hall hml
          have HML : Hid (m = (wat rs i4).l.length) := hm
          have HG : Hid (Blk wB (gat gs i4) (marked (wat rs i4).l)) := hG
          clear hm hG hG2 hraw
          go_wp2_with fail
          go_quiet (fail)
          go_wp2_with fail
          have hGs : Hid (∃ cs : Array Value, cs.size = m + 2 ∧ (wB.drewN nq).heap[gat gs i4]? = some (.cells cs 5 (0, 0))) := ⟨_, by simp [enc, marked, HML.out], HG.out⟩
          clear hv1 hv2 hx0 hx1 hall hwant hci hss
          go_loopw [14] (fun t14 wq => ∃ (q : Nat), q ≤ m + 2 ∧ t14 = .int .i64 (q : Int) ∧ Hid (∃ cs : Array Value, cs.size = m + 2 ∧ wq.heap[gat gs i4]? = some (.cells cs 5 (0, 0))) ∧ But (fun b => b = gat gs i4) wB wq) (fun t _ => m + 2 - (intOf t).toNat)
          case atStart => exact ⟨0, by omega, rfl, hGs, ⟨rfl, rfl, rfl, Nat.le_refl _, fun _ _ _ => rfl⟩⟩
          case round =>
            clear hGs
            obtain ⟨q, hq, rfl, HXq, hbq⟩ := hrel
            by_cases hlt3 : q < m + 2
            · obtain ⟨cs, hcs, hXq⟩ := HXq.out
              have hcq : wr.cell? ⟨gat gs i4, q, none⟩ = some cs[q] := by rw [cell_of_row wr _ q _ _ _ hXq]; simp [hcs, hlt3]
              have hfq := frozen_of_row wr _ q _ _ hXq
              have hq2 : (q : Int) < (m : Int) + 2 := by omega
              have HX6 : Hid (∃ cs : Array Value, cs.size = m + 2 ∧ (wr.setCell ⟨gat gs i4, q, none⟩ (.int .u8 90)).heap[gat gs i4]? = some (.cells cs 5 (0, 0))) := ⟨_, by simpa using hcs, heap_setCell_same _ _ _ _ _ _ hXq⟩
              have hb6 := hbq.setCell (p := ⟨gat gs i4, q, none⟩) (.inl rfl) (.int .u8 90)
              clear hXq
              go_wp2_with fail
              exact ⟨⟨q + 1, by omega, by go_num, HX6, hb6⟩, by simp [intOf]; omega⟩
            · obtain rfl : q = m + 2 := by omega
              have hlo := hlow i4 hlt
              have hh2 := hg2 i4 hlt
              have HA5 : Hid (HAt wr hb s) := HA.out.kept (hbq.block hb HA.out.lt (fun q => by omega))
              have hown5 := hbq.own hownA (fun g hg q => own_ne hownA hg HG.out (by decide) q)
              have HB5 : Hid (∀ j, i4 + 1 ≤ j → j < k → Blk wr (gat gs j) (marked (wat rs j).l)) := fun j h1 h2 => (HBA.out j (by omega) h2).kept (hbq.block _ (HBA.out j (by omega) h2).lt (fun q => by have := HAP.out j i4 h2 hlt q; omega))
              have hO5 := hOA.but hbq (fun b q => by rw [q]; exact hlo)
              have hI5 := hIA.but hbq (fun g hg q => own_ne hIA.ints hg HG.out (by decide) q) (fun g hg q => own_ne hIA.want hg HG.out (by decide) q) (fun hk q => by
                have h1 := (hIA.blk hk).1
                have h2 := HG.out
                unfold ZBlk at h1
                unfold Blk at h2
                rw [q, h2] at h1
                simp only [Option.some.injEq, Obj.cells.injEq] at h1
                exact absurd h1.2.1 (by decide)) (fun b q => by rw [q]; exact hlo)
              have hb5 := hbA.then hbq (fun b _ q => by rw [q]; exact ⟨hlo, hh2⟩)
              clear HA hownA HBA hOA hIA hbA hbq HXq
              go_wp2_with fail
              refine ⟨?_, by simp [intOf]; omega⟩
              first
                | exact ⟨i4 + 1, by omega, rfl, by go_num, HA5, hown5, HB5, hO5, hI5, hb5⟩
                | ((repeat apply Exists.intro); exact ⟨⟨i4 + 1, by omega, rfl, by go_num, HA5, hown5, HB5, hO5, hI5, hb5⟩, rfl⟩)
        · obtain rfl : i4 = k := by omega
          obtain ⟨wC, rfl⟩ : ∃ x, x = wr := ⟨wr, rfl⟩
          obtain ⟨ia, ic, hia⟩ := own_len hownA
          rw [hia] at hci
          have HIA : Hid (s.in_ = .slice ia i4 ic) := hia
          clear hia
          go_wp2_with fail
          go_loopw [5, 15] (fun t5 t15 wr => ∃ i : Nat, i ≤ ki ∧ t5 = .bool true ∧ t15 = .int .i64 (i : Int) ∧ (i = 0 → wr = wC) ∧ But (fun b => b = Z ∧ 0 < i) wC wr) (fun _ t _ => ki - (intOf t).toNat)
          case atStart => exact ⟨0, by omega, rfl, rfl, fun _ => rfl, But.refl _ _⟩
          case round =>
            obtain ⟨i6, hi6, rfl, rfl, hw0, hbut⟩ := hrel
            by_cases hlt6 : i6 < ki
            · have hki : ki = 1 := by have := hIA.one; omega
              have hi0 : i6 = 0 := by omega
              subst hi0
              obtain rfl := (hw0 rfl).symm
              clear hw0
              obtain ⟨hZb, hBZ, hZ2, hzl, hnn, hzb, haz, hZs⟩ := hIA.blk hlt6
              have hints := hIA.ints
              have hwants := hIA.want
              rw [hki] at hints hwants
              obtain ⟨gi, ci, hvi, _, _⟩ := hints.form (by omega)
              obtain ⟨gw, cw, hvw, _, _⟩ := hwants.form (by omega)
              have hc2 : wC.cell? ⟨hb, 2, none⟩ = some (.slice (some ⟨gi, 0, none⟩) 1 ci) := by rw [HA.out.cell 2, ← hvi]; rfl
              have hc3 : wC.cell? ⟨hb, 3, none⟩ = some (.slice (some ⟨gw, 0, none⟩) 1 cw) := by rw [HA.out.cell 3, ← hvw]; rfl
              have hcg : wC.cell? ⟨gi, 0, none⟩ = some (.slice (some ⟨Z, 0, none⟩) (n + 2) (n + 2)) := own_cell hints (by rw [hvi]; rfl) rfl
              have hcw : wC.cell? ⟨gw, 0, none⟩ = some (.slice az n zc) := own_cell hwants (by rw [hvw]; rfl) rfl
              have hn0 : wC.cell? ⟨Z, n, none⟩ = some (.int .i64 (-7)) := by
                have := hZb.zs n (by simp [markedZ, hzl])
                rw [Nat.zero_add] at this
                rw [this]; simp [markedZ, zat, List.getD, ← hzl]
              have hn1 : wC.cell? ⟨Z, n + 1, none⟩ = some (.int .i64 (-7)) := by
                have := hZb.zs (n + 1) (by simp [markedZ, hzl])
                rw [Nat.zero_add] at this
                rw [this]; simp [markedZ, zat, List.getD, ← hzl]
              have HKI : Hid (ki = 1) := hki
              have HVI : Hid (s.ints = .slice (some ⟨gi, 0, none⟩) 1 ci) := hvi
              have HZL : Hid (l.length = n) := hzl
              have HZB : Hid (ZBlk wC Z (markedZ l)) := hZb
              clear hki hvi hvw hzl hZb hints hwants hci
              go_wp2_with fail
              go_loopw [5, 18] (fun t5 t18 wr => ∃ (j nq : Nat), j ≤ n ∧ t5 = .bool true ∧ t18 = .int .i64 (j : Int) ∧ wr = wC.drewN nq) (fun _ t _ => n - (intOf t).toNat)
              case atStart => exact ⟨0, 0, by omega, rfl, rfl, rfl⟩
              case round =>
                obtain ⟨j, nq, hj, rfl, rfl, rfl⟩ := hrel
                by_cases hlt7 : j < n
                · obtain rfl := haz (by omega)
                  have hx1 : wC.cell? ⟨Z, j, none⟩ = some (.int .i64 (zat l j)) := by
                    have := HZB.out.zs j (by simp [markedZ, HZL.out]; omega)
                    rw [Nat.zero_add] at this
                    have hjl : j < l.length := by rw [HZL.out]; exact hlt7
                    rw [this]; simp [markedZ, zat, List.getD, List.getElem?_append_left hjl]
                  have hx2 := hZs j (by rw [HZL.out]; exact hlt7)
                  have hj1 : (j : Int) < (n : Int) := by omega
                  have hj2 : (j : Int) < (n : Int) + 2 := by omega
                  have hss : (zat l j == zat l j) = true := by rw [beq_iff_eq]
                  go_wp2_with fail
                  go_quiet (fail)
                  go_wp2_with fail
                  refine ⟨?_, by simp [intOf]; omega⟩
                  first
                    | exact ⟨j + 1, _, by omega, rfl, by go_num, rfl⟩
                    | ((repeat apply Exists.intro); exact ⟨⟨j + 1, _, by omega, rfl, by go_num, rfl⟩, rfl⟩)
                · obtain rfl : j = n := by omega
                  go_wp2_with fail
                  have hXs : Hid (∃ cs : Array Value, cs.size = j + 2 ∧ (wC.drewN nq).heap[Z]? = some (.cells cs 3 (0, 0))) := ⟨_, by simp [encZ, markedZ, HZL.out], HZB.out⟩
                  go_loopw [19] (fun t19 wr => ∃ (q : Nat), q ≤ j + 2 ∧ t19 = .int .i64 (q : Int) ∧ Hid (∃ cs : Array Value, cs.size = j + 2 ∧ wr.heap[Z]? = some (.cells cs 3 (0, 0))) ∧ But (fun b => b = Z) wC wr) (fun t _ => j + 2 - (intOf t).toNat)
                  case atStart => exact ⟨0, by omega, rfl, hXs, ⟨rfl, rfl, rfl, Nat.le_refl _, fun _ _ _ => rfl⟩⟩
                  case round =>
                    obtain ⟨q, hq, rfl, HXq, hbq⟩ := hrel
                    by_cases hlt8 : q < j + 2
                    · obtain ⟨cs, hcs, hXq⟩ := HXq.out
                      have hcq : wr.cell? ⟨Z, q, none⟩ = some cs[q] := by rw [cell_of_row wr Z q _ _ _ hXq]; simp [hcs, hlt8]
                      have hfq := frozen_of_row wr Z q _ _ hXq
                      have hq2 : (q : Int) < (j : Int) + 2 := by omega
                      have HX6 : Hid (∃ cs : Array Value, cs.size = j + 2 ∧ (wr.setCell ⟨Z, q, none⟩ (.int .i64 3)).heap[Z]? = some (.cells cs 3 (0, 0))) := ⟨_, by simpa using hcs, heap_setCell_same _ _ _ _ _ _ hXq⟩
                      have hb6 := hbq.setCell (p := ⟨Z, q, none⟩) (.inl rfl) (.int .i64 3)
                      clear hXq
                      go_wp2_with fail
                      exact ⟨⟨q + 1, by omega, by go_num, HX6, hb6⟩, by simp [intOf]; omega⟩
                    · obtain rfl : q = j + 2 := by omega
                      have hb7 : But (fun b => b = Z ∧ 0 < 0 + 1) wC wr := hbq.wide (fun b _ e => ⟨e, by omega⟩)
                      go_wp2_with fail
                      refine ⟨?_, by rw [HKI.out]; simp [intOf]⟩
                      exact ⟨0 + 1, by rw [HKI.out]; exact Nat.le_refl _, rfl, by go_num, fun q => by omega, hb7⟩
            · obtain rfl : i6 = ki := by omega
              have hZt : 0 < i6 → B ≤ Z ∧ Z < B2 := fun q => ⟨(hIA.blk q).2.1, (hIA.blk q).2.2.1⟩
              have HAE : Hid (HAt wr hb s) := HA.out.kept (hbut.block hb HA.out.lt (fun q => by have := (hZt q.2).1; omega))
              have hbE : But (fun b => b = hb ∨ (B ≤ b ∧ b < B2)) w wr := (hbA.wide (fun b _ q => .inr q)).then hbut (fun b _ q => .inr (by rw [q.1]; exact hZt q.2))
              obtain ⟨za, zc2, hza⟩ := own_len hIA.ints
              have hcz : wr.cell? ⟨hb, 2, none⟩ = some (.slice za i6 zc2) := by rw [HAE.out.cell 2, ← hza]; rfl
              have hq0 : wr.cell? ⟨hb, 0, none⟩ = some s.in_ := HAE.out.cell 0
              have hq1 : wr.cell? ⟨hb, 1, none⟩ = some s.rows := HAE.out.cell 1
              have hq3 : wr.cell? ⟨hb, 3, none⟩ = some s.iwant := HAE.out.cell 3
              have hfz := HAE.out.frozen
              clear hza hbut hZt hw0 hbA
              go_wp2_with fail
              go_ret
              exact ⟨rfl, (((HAE.out.set0 _).set1 _).set2 _).set3 _, (((hbE.setCell (.inl (.inl rfl)) _).setCell (.inl (.inl rfl)) _).setCell (.inl (.inl rfl)) _).setCell (.inl (.inl rfl)) _⟩

end Go.Proofs.YtjabhnhejbhgjaaDoor

/- Parse of the program, Parse of the document: one answer. -/
namespace Go.Proofs.YtjabhnhejbhgjaaDoor
open Go.RowKit

/-- An answer of Parse: five numbers, the data, how many lacks and their cells, the error and its place. -/
structure PA where
  x0 : Nat
  x1 : Nat
  x2 : Nat
  x3 : Nat
  x4 : Nat
  d : List Gf.F
  n6 : Nat
  f : List Gf.F
  c : Nat
  z : Int

def PA.bad (c : Nat) (z : Int) : PA := ⟨0, 0, 0, 0, 0, [], 0, [], c, z⟩

/-- The answer, where there is a configuration. -/
def ansOk (K N S : Nat) (l : List Gf.F) : PA :=
  match parseE K N S l with
  | some (c, k) => PA.bad c (k : Int)
  | none => if bt l 0 = 1 then ⟨bt l 0, bt l 1, lenOf l, bt (l.drop 4) 0, bt (l.drop 4) 1, (l.drop 4).drop 2, 0, [], 0, -1⟩ else ⟨bt l 0, bt l 1, lenOf l, 0, 0, [], bt (l.drop 4) 0, l.drop 4, 0, -1⟩
def ansOf (K N S : Int) (l : List Gf.F) : PA := if cfgB K N S = true then ansOk K.toNat N.toNat S.toNat l else PA.bad 1 (-1)

/-- What came back, but for the error. -/
structure PSays (w w' : World) (p : PA) (v : Value) (a5 a6 : Option Addr) (c5 c6 : Nat) : Prop where
  val : v = .agg #[.int .i64 (p.x0 : Int), .int .i64 (p.x1 : Int), .int .i64 (p.x2 : Int), .int .i64 (p.x3 : Int), .int .i64 (p.x4 : Int), .slice a5 p.d.length c5, .slice a6 p.n6 c6]
  data : w'.ownsRow w.heap.size 5 1 (.slice a5 p.d.length c5) p.d.length (encL p.d)
  lacks : w'.ownsRow w.heap.size 110 2 (.slice a6 p.n6 c6) p.n6 (lackCells p.f p.n6)
  low : Below w.heap.size w w'

theorem PSays.none {w w' : World} (c : Nat) (z : Int) (hb : Below w.heap.size w w') : PSays w w' (PA.bad c z) (.agg #[.int .i64 0, .int .i64 0, .int .i64 0, .int .i64 0, .int .i64 0, .slice none 0 0, .slice none 0 0]) none none 0 0 :=
  ⟨rfl, World.ownsRow_nil .., World.ownsRow_nil .., hb⟩

/-- How the error says it. -/
def ESays (A : Nat → Addr) (w w' : World) (v : Value) (p : PA) : Prop := (p.z = -1 ∧ (p.c = 0 ∨ p.c = 1) ∧ v = E A p.c) ∨ (∃ i, i < 8 ∧ p.c = i + 1 ∧ Wr w w' v p.z (E A (i + 1)))

theorem headE_some {l : List Gf.F} {c k : Nat} (h : headE l = some (c, k)) : ∃ i, i < 8 ∧ c = i + 1 := by
  unfold headE at h
  split at h
  · cases h; exact ⟨3, by omega, rfl⟩
  split at h
  · cases h; exact ⟨4, by omega, rfl⟩
  split at h
  · cases h; exact ⟨3, by omega, rfl⟩
  split at h
  · cases h; exact ⟨5, by omega, rfl⟩
  split at h
  · cases h; exact ⟨3, by omega, rfl⟩
  split at h
  · cases h; exact ⟨5, by omega, rfl⟩
  · cases h
theorem dataB_code {K N S T c k : Nat} {m : List Gf.F} (h : dataB K N S T m = some (c, k)) : ∃ i, i < 8 ∧ c = i + 1 := by
  unfold dataB at h
  split at h
  · cases h; exact ⟨3, by omega, rfl⟩
  split at h
  · cases h; exact ⟨5, by omega, rfl⟩
  split at h
  · cases h; exact ⟨3, by omega, rfl⟩
  split at h
  · cases h; exact ⟨5, by omega, rfl⟩
  split at h
  · cases h; exact ⟨3, by omega, rfl⟩
  split at h
  · cases h; exact ⟨6, by omega, rfl⟩
  · cases h
theorem lackB_code {K T c p k least : Nat} {m : List Gf.F} (h : lackB K T m k least = some (c, p)) : ∃ i, i < 8 ∧ c = i + 1 := by
  unfold lackB at h
  split at h
  · cases h; exact ⟨3, by omega, rfl⟩
  split at h
  · cases h; exact ⟨5, by omega, rfl⟩
  split at h
  · cases h; exact ⟨3, by omega, rfl⟩
  split at h
  · cases h; exact ⟨5, by omega, rfl⟩
  · cases h
theorem asksFrom_code {K T c p : Nat} {m : List Gf.F} : ∀ {r i least : Nat}, asksFrom K T m r i least = some (c, p) → ∃ i, i < 8 ∧ c = i + 1
  | 0, i, _, h => by
    unfold asksFrom at h
    split at h
    · cases h; exact ⟨6, by omega, rfl⟩
    · cases h
  | r + 1, i, least, h => by
    unfold asksFrom at h
    cases hl : lackB K T m (1 + 2 * i) least with
    | some e => rw [hl] at h; cases h; exact lackB_code hl
    | none => rw [hl] at h; exact asksFrom_code h
theorem parseE_code {K N S c k : Nat} {l : List Gf.F} (h : parseE K N S l = some (c, k)) : ∃ i, i < 8 ∧ c = i + 1 := by
  unfold parseE at h
  cases hh : headE l with
  | some e => rw [hh] at h; cases h; exact headE_some hh
  | none =>
    rw [hh] at h
    simp only [Option.map_eq_some_iff] at h
    obtain ⟨⟨c', k'⟩, h1, h2⟩ := h
    simp only [Prod.mk.injEq] at h2
    obtain ⟨rfl, _⟩ := h2
    split at h1
    · exact dataB_code h1
    · unfold asksB at h1
      split at h1
      · cases h1; exact ⟨3, by omega, rfl⟩
      split at h1
      · cases h1; exact ⟨5, by omega, rfl⟩
      · exact asksFrom_code h1

/-- How long the data is. -/
theorem parseE_len {K N S : Nat} {l : List Gf.F} (h : parseE K N S l = none) (hk : bt l 0 = 1) : ((l.drop 4).drop 2).length = S := by
  unfold parseE at h
  cases hh : headE l with
  | some e => rw [hh] at h; cases h
  | none =>
    rw [hh] at h
    simp only [if_pos hk, Option.map_eq_none_iff] at h
    unfold dataB at h
    split at h
    · cases h
    split at h
    · cases h
    split at h
    · cases h
    split at h
    · cases h
    split at h
    · cases h
    split at h
    · cases h
    · simp at *; omega

theorem ParseGives.says {A : Nat → Addr} {K N S : Nat} {l : List Gf.F} {w w' : World} {e : Ending} (h : ParseGives A K N S l w e w') : ∃ v u a5 a6 c5 c6, e = .returned (.tuple #[v, u]) ∧ PSays w w' (ansOk K N S l) v a5 a6 c5 c6 ∧ ESays A w w' u (ansOk K N S l) := by
  obtain ⟨h1, hb⟩ := h
  unfold ansOk
  cases hp : parseE K N S l with
  | some ep =>
    obtain ⟨c, k⟩ := ep
    rw [hp] at h1
    obtain ⟨v, he, hw⟩ := h1
    obtain ⟨i, hi, rfl⟩ := parseE_code hp
    exact ⟨_, v, none, none, 0, 0, he, PSays.none _ _ hb, .inr ⟨i, hi, rfl, hw⟩⟩
  | none =>
    rw [hp] at h1
    by_cases hk : bt l 0 = 1
    · rw [if_pos hk] at h1
      obtain ⟨a, c1, he, ho⟩ := h1
      have hlen := parseE_len hp hk
      simp only [if_pos hk]
      refine ⟨_, _, a, none, c1, 0, he, ⟨by rw [← hlen], ?_, World.ownsRow_nil .., hb⟩, .inl ⟨rfl, .inl rfl, rfl⟩⟩
      show w'.ownsRow _ _ 1 (.slice a ((l.drop 4).drop 2).length c1) ((l.drop 4).drop 2).length _
      rw [hlen]; exact ho
    · rw [if_neg hk] at h1
      obtain ⟨a, c1, he, ho⟩ := h1
      simp only [if_neg hk]
      exact ⟨_, _, none, a, 0, c1, he, ⟨rfl, World.ownsRow_nil .., ho, hb⟩, .inl ⟨rfl, .inl rfl, rfl⟩⟩
theorem RPGives.says {K N S : Nat} {l : List Gf.F} {w w' : World} {e : Ending} (h : RPGives K N S l w e w') : ∃ v a5 a6 c5 c6, e = .returned (.tuple #[v, .agg #[.int .i64 ((ansOk K N S l).c : Int), .int .i64 (ansOk K N S l).z]]) ∧ PSays w w' (ansOk K N S l) v a5 a6 c5 c6 := by
  obtain ⟨h1, hb⟩ := h
  unfold ansOk
  cases hp : parseE K N S l with
  | some ep =>
    obtain ⟨c, k⟩ := ep
    rw [hp] at h1
    exact ⟨_, none, none, 0, 0, h1, PSays.none _ _ hb⟩
  | none =>
    rw [hp] at h1
    by_cases hk : bt l 0 = 1
    · rw [if_pos hk] at h1
      obtain ⟨a, c1, he, ho⟩ := h1
      have hlen := parseE_len hp hk
      simp only [if_pos hk]
      refine ⟨_, a, none, c1, 0, he, ⟨by rw [← hlen], ?_, World.ownsRow_nil .., hb⟩⟩
      show w'.ownsRow _ _ 1 (.slice a ((l.drop 4).drop 2).length c1) ((l.drop 4).drop 2).length _
      rw [hlen]; exact ho
    · rw [if_neg hk] at h1
      obtain ⟨a, c1, he, ho⟩ := h1
      simp only [if_neg hk]
      exact ⟨_, none, a, 0, c1, he, ⟨rfl, World.ownsRow_nil .., ho, hb⟩⟩

theorem progParse (A : Nat → Addr) (B0 : Nat) (a : Option Addr) (b o n c : Nat) (K N S : Int) (l : List Gf.F) (w : World) (hE : Errs A B0 w) (hET : ErrType w) (hB9 : 8 < w.heap.size) (hl : l.length = n) (hn : n ≤ c) (hc : c ≤ 9223372036854775807) (hn2 : n ≤ 140737488355328) (ha : 0 < n → a = some ⟨b, o, none⟩) (hB : Bs w b o l) (hb : 0 < n → b < w.heap.size) :
    Calls Tryd.prog 17 #[.agg #[.int .i64 K, .int .i64 N, .int .i64 S], .slice a n c] w fun e w' => ∃ v u a5 a6 c5 c6, e = .returned (.tuple #[v, u]) ∧ PSays w w' (ansOf K N S l) v a5 a6 c5 c6 ∧ ESays A w w' u (ansOf K N S l) := by
  unfold ansOf
  cases hcb : cfgB K N S
  · rw [if_neg (by decide)]
    refine (mparse_no A B0 _ K N S w hE hcb).mono ?_
    rintro e w' ⟨rfl, hb⟩
    exact ⟨_, _, none, none, 0, 0, rfl, PSays.none _ _ hb, .inl ⟨rfl, .inr rfl, rfl⟩⟩
  · rw [if_pos rfl]
    obtain ⟨k, n', s, rfl, rfl, rfl, hcf⟩ := cfgB_cfg hcb
    refine (mparse_ok A B0 a b o n c k n' s l w hE hET hB9 hcf hcb hl hn hc hn2 ha hB hb).mono ?_
    intro e w' hG
    exact hG.says
theorem refParse (a : Option Addr) (b o n c : Nat) (K N S : Int) (l : List Gf.F) (w : World) (hl : l.length = n) (hn : n ≤ c) (hn2 : n ≤ 140737488355328) (ha : 0 < n → a = some ⟨b, o, none⟩) (hB : Bs w b o l) (hb : 0 < n → b < w.heap.size) :
    Calls Tryd.prog 43 #[.agg #[.int .i64 K, .int .i64 N, .int .i64 S], .slice a n c] w fun e w' => ∃ v a5 a6 c5 c6, e = .returned (.tuple #[v, .agg #[.int .i64 ((ansOf K N S l).c : Int), .int .i64 (ansOf K N S l).z]]) ∧ PSays w w' (ansOf K N S l) v a5 a6 c5 c6 := by
  unfold ansOf
  cases hcb : cfgB K N S
  · rw [if_neg (by decide)]
    refine (rparse_no _ K N S w hcb).mono ?_
    rintro e w' ⟨rfl, hb⟩
    exact ⟨_, none, none, 0, 0, rfl, PSays.none _ _ hb⟩
  · rw [if_pos rfl]
    obtain ⟨k, n', s, rfl, rfl, rfl, hcf⟩ := cfgB_cfg hcb
    refine (rparse_ok a b o n c k n' s l w hcf hcb hl hn hn2 ha hB hb).mono ?_
    intro e w' hG
    exact hG.says

end Go.Proofs.YtjabhnhejbhgjaaDoor

/- Hands between two Parses. -/
namespace Go.Proofs.YtjabhnhejbhgjaaDoor
open Go.RowKit

theorem lackCells_at (m : List Gf.F) : ∀ k j, j < k → (lackCells m k)[j * 2]? = some (.int .i64 (bt m (1 + 2 * j) : Int)) ∧ (lackCells m k)[j * 2 + 1]? = some (.int .i64 (bt m (1 + 2 * j + 1) : Int))
  | 0, j, h => by omega
  | k + 1, j, h => by
    have hl := lackCells_length m k
    by_cases e : j < k
    · obtain ⟨h1, h2⟩ := lackCells_at m k j e
      exact ⟨by rw [lackCells, List.getElem?_append_left (by omega)]; exact h1, by rw [lackCells, List.getElem?_append_left (by omega)]; exact h2⟩
    · obtain rfl : j = k := by omega
      exact ⟨by rw [lackCells, List.getElem?_append_right (by omega), hl, Nat.sub_self]; rfl, by rw [lackCells, List.getElem?_append_right (by omega), hl, show j * 2 + 1 - j * 2 = 1 by omega]; rfl⟩

/-- Lacks that are owned are lacks in memory. -/
theorem own_lacksIn {w : World} {B n c : Nat} {a : Option Addr} {m : List Gf.F} (h : w.ownsRow B 110 2 (.slice a n c) n (lackCells m n)) : LacksIn w a n (fun i => (bt m (1 + 2 * i), bt m (1 + 2 * i + 1))) := by
  refine ⟨fun h0 => ?_⟩
  rcases h.2 with ⟨_, h2⟩ | ⟨g, cap, cur, h1, _, h2, h3, _, h4, h5⟩
  · omega
  · simp only [Value.slice.injEq] at h1
    refine ⟨g, h1.1, fun j hj => ?_⟩
    obtain ⟨q1, q2⟩ := lackCells_at m n j hj
    rw [← h5] at q1 q2
    rw [List.getElem?_take, if_pos (by omega)] at q1 q2
    exact ⟨by rw [cell_of_row w g _ _ _ _ h2]; simpa using q1, by rw [cell_of_row w g _ _ _ _ h2]; simpa using q2⟩

theorem own_lacks_lt {w : World} {B n c : Nat} {a : Option Addr} {xs : List Value} (h : w.ownsRow B 110 2 (.slice a n c) n xs) : ∀ g, a = some ⟨g, 0, none⟩ → 0 < n → g < w.heap.size := by
  intro g hg _
  subst hg
  exact (h.lt g rfl).2

theorem bt_small (l : List Gf.F) (i : Nat) : bt l i < 256 := by
  unfold bt; omega

theorem ansOf_small (K N S : Int) (l : List Gf.F) : (ansOf K N S l).n6 ≤ 255 ∧ (ansOf K N S l).d.length ≤ l.length := by
  unfold ansOf
  split
  · unfold ansOk
    split
    · simp [PA.bad]
    · split
      · simp
      · have := bt_small (l.drop 4) 0
        exact ⟨by show bt _ _ ≤ 255; omega, by simp⟩
  · simp [PA.bad]

theorem ansOf_data (K N S : Int) (l : List Gf.F) : (ansOf K N S l).d.length ≤ 8 := by
  unfold ansOf
  split
  · rename_i hc
    obtain ⟨k, n', s, rfl, rfl, rfl, hcf⟩ := cfgB_cfg hc
    have hs8 := hcf.s8
    unfold ansOk
    cases hp : parseE (k : Int).toNat (n' : Int).toNat (s : Int).toNat l with
    | some e => simp [PA.bad]
    | none =>
      by_cases hk : bt l 0 = 1
      · have hlen := parseE_len hp hk
        simp only [if_pos hk]
        simp only [Int.toNat_natCast] at hlen
        omega
      · simp only [if_neg hk]; simp
  · simp [PA.bad]

/-- Hands between two Parses. -/
structure InvP (A : Nat → Addr) (B0 : Nat) (w : World) (hb N : Nat) (s : HS) (es ls : List Ent) : Prop where
  errs : Errs A B0 w
  typ : ErrType w
  typLow : 8 < hb
  low : B0 ≤ hb
  hands : HAt w hb s
  num : s.n = (N : Int)
  in0 : s.in_ = .slice none 0 0
  rows0 : s.rows = .slice none 0 0
  ints0 : s.ints = .slice none 0 0
  want0 : s.iwant = .slice none 0 0
  outs : Outs w hb s.out s.marks es
  lks : Lks w hb s.lacks s.lmarks ls
  outer0 : s.outer = .slice none 0 0
  objs0 : s.objs = .slice none 0 0
  apart : ∀ g, s.marks.ownBlock = some g → s.lmarks.ownBlock ≠ some g

theorem InvP.drewN {A : Nat → Addr} {B0 : Nat} {w : World} {hb N : Nat} {s : HS} {es ls : List Ent} (h : InvP A B0 w hb N s es ls) (nq : Nat) : InvP A B0 (w.drewN nq) hb N s es ls :=
  ⟨h.errs.below ⟨rfl, rfl, rfl, Nat.le_refl _, fun _ _ => rfl⟩, h.typ, h.typLow, h.low, h.hands, h.num, h.in0, h.rows0, h.ints0, h.want0, ⟨h.outs.own, h.outs.marks, h.outs.each⟩, ⟨h.lks.own, h.lks.marks, h.lks.each⟩, h.outer0, h.objs0, h.apart⟩

/-- What was kept before stays, where only Hands and its lists of bytes turn. -/
theorem InvP.lksKept {A : Nat → Addr} {B0 : Nat} {w w' : World} {hb N : Nat} {s : HS} {es ls : List Ent} (h : InvP A B0 w hb N s es ls) (hb' : But (fun b => b = hb ∨ s.out.ownBlock = some b ∨ s.marks.ownBlock = some b) w w') : Lks w' hb s.lacks s.lmarks ls := by
  refine h.lks.but hb' (fun g hg q => ?_) (fun g hg q => ?_) (fun e he g hg q => ?_)
  · rcases q with q | q | q
    · exact own_ne h.lks.own hg h.hands (by decide) q
    · exact own_own_ne h.lks.own h.outs.own (by decide) g hg q
    · exact own_own_ne h.lks.own h.outs.marks (by decide) g hg q
  · rcases q with q | q | q
    · exact own_ne h.lks.marks hg h.hands (by decide) q
    · exact own_own_ne h.lks.marks h.outs.own (by decide) g hg q
    · exact h.apart g q hg
  · rcases q with q | q | q
    · exact (h.lks.each e he).1.ne_hands h.hands g hg q
    · exact (h.lks.each e he).1.ne_own h.outs.own (by decide) g hg q
    · exact (h.lks.each e he).1.ne_own h.outs.marks (by decide) g hg q

theorem InvP.above {A : Nat → Addr} {B0 : Nat} {w w' : World} {hb N : Nat} {s : HS} {es ls : List Ent} (h : InvP A B0 w hb N s es ls) (hb' : Below w.heap.size w w') : InvP A B0 w' hb N s es ls :=
  have hn : But (fun _ => False) w w' := Below.but hb' _ (fun i hi h => absurd hi h)
  have hl := h.hands.lt
  ⟨h.errs.shrink w' hb', h.typ.below hb' (by have := h.typLow; omega), h.typLow, h.low, h.hands.kept (hb'.block hb hl), h.num, h.in0, h.rows0, h.ints0, h.want0, h.outs.but hn (fun _ _ q => q) (fun _ _ q => q) (fun _ _ _ _ q => q), h.lks.but hn (fun _ _ q => q) (fun _ _ q => q) (fun _ _ _ _ q => q), h.outer0, h.objs0, h.apart⟩

/-- Behind bytes: what else there was stands. -/
theorem InvP.lent {A : Nat → Addr} {B0 : Nat} {w w' : World} {hb N : Nat} {s : HS} {es ls : List Ent} (h : InvP A B0 w hb N s es ls) (hb' : But (fun b => b = hb ∨ s.in_.ownBlock = some b) w w') : But (fun b => b = hb) w w' ∧ Errs A B0 w' ∧ ErrType w' := by
  have h1 : But (fun b => b = hb) w w' := hb'.wide (fun k _ q => by
    rw [h.in0] at q
    rcases q with q | q
    · exact q
    · simp [Value.ownBlock] at q)
  have hl := h.hands.lt
  have h2 : Below hb w w' := h1.toBelow (by omega) (fun k hk q => by omega)
  exact ⟨h1, h.errs.below (h2.mono h.low), h.typ.below h2 h.typLow⟩

theorem marked_bs {w : World} {g : Nat} {l : List Gf.F} (h : Blk w g (marked l)) : Bs w g 0 l := by
  have := h.bsN l.length
  rwa [marked_take] at this

/-- The bytes of the caller, made ahead of Hands. -/
structure CameB (w : World) (hb : Nat) (a : Option Addr) (b o n c : Nat) (l : List Gf.F) : Prop where
  len : l.length = n
  cap : n ≤ c
  cap2 : c ≤ 9223372036854775807
  few : n ≤ 140737488351232
  adr : 0 < n → a = some ⟨b, o, none⟩
  bs : Bs w b o l
  low : 0 < n → b < hb

theorem CameB.below {w w' : World} {hb b o n c : Nat} {a : Option Addr} {l : List Gf.F} (h : CameB w hb a b o n c l) (hb' : Below hb w w') : CameB w' hb a b o n c l :=
  ⟨h.len, h.cap, h.cap2, h.few, h.adr, fun i hi => by rw [hb'.cell (p := ⟨b, o + i, none⟩) (h.low (by have := h.len; omega))]; exact h.bs i hi, h.low⟩

theorem CameB.raw {w : World} {hb b o n c : Nat} {a : Option Addr} {l : List Gf.F} (h : CameB w hb a b o n c l) : RawIn w ⟨.slice a n c, l⟩ :=
  ⟨a, c, by show _ = Value.slice a l.length c; rw [h.len], fun h0 => ⟨b, o, h.adr (by have := h.len; show 0 < n; rw [← this]; exact h0), h.bs⟩⟩

end Go.Proofs.YtjabhnhejbhgjaaDoor

/- Hands.parse: bytes, Parse, back, as they stand in it. -/
namespace Go.Proofs.YtjabhnhejbhgjaaDoor
open Go.RowKit

/-- Of w nothing has turned but Hands, and Hands holds s. -/
structure Q0 (w : World) (hb : Nat) (s : HS) (W : World) : Prop where
  but : But (fun b => b = hb) w W
  hands : HAt W hb s

theorem Q0.above {w W W' : World} {hb : Nat} {s : HS} (h : Q0 w hb s W) (hb' : Below W.heap.size W W') : Q0 w hb s W' :=
  ⟨h.but.below hb' (fun _ hi q => absurd (Nat.lt_of_lt_of_le hi h.but.size) q), h.hands.kept (hb'.block hb h.hands.lt)⟩
theorem Q0.alloc {w W : World} {hb : Nat} {s : HS} (h : Q0 w hb s W) (o : Obj) : Q0 w hb s (W.alloc o) := h.above ((Below.refl _ _).alloc (Nat.le_refl _) _)
theorem Q0.drew {w W : World} {hb : Nat} {s : HS} (h : Q0 w hb s W) : Q0 w hb s W.drew := ⟨h.but.drew, h.hands⟩

theorem CameB.but {w w' : World} {hb b o n c : Nat} {a : Option Addr} {l : List Gf.F} (h : CameB w hb a b o n c l) (hbl : hb < w.heap.size) (hb' : But (fun k => k = hb) w w') : CameB w' hb a b o n c l :=
  h.below (hb'.toBelow (by omega) (fun k hk q => by omega))

theorem InvP.errsBut {A : Nat → Addr} {B0 : Nat} {w W : World} {hb N : Nat} {s : HS} {es ls : List Ent} (h : InvP A B0 w hb N s es ls) (hb' : But (fun b => b = hb) w W) : Errs A B0 W ∧ ErrType W := by
  have hl := h.hands.lt
  have h2 : Below hb w W := hb'.toBelow (by omega) (fun k hk q => by omega)
  exact ⟨h.errs.below (h2.mono h.low), h.typ.below h2 h.typLow⟩

/-- Behind bytes: one list is lent, in block G. -/
structure Q1 (w : World) (hb : Nat) (s : HS) (r : Raw) (G : Nat) (v1 : Value) (W : World) : Prop where
  at_ : Q0 w hb { s with in_ := v1 } W
  lent : Lent W G v1 [r] [G] 1
  new : w.heap.size ≤ G

theorem Q1.above {w W W' : World} {hb G : Nat} {s : HS} {r : Raw} {v1 : Value} (h : Q1 w hb s r G v1 W) (hb' : Below W.heap.size W W') : Q1 w hb s r G v1 W' :=
  ⟨h.at_.above hb', h.lent.kept (S := fun _ => False) (Below.but hb' _ (fun _ hi q => absurd hi q)) (fun _ _ q => q) (fun _ _ q => q), h.new⟩
theorem Q1.alloc {w W : World} {hb G : Nat} {s : HS} {r : Raw} {v1 : Value} (h : Q1 w hb s r G v1 W) (o : Obj) : Q1 w hb s r G v1 (W.alloc o) := h.above ((Below.refl _ _).alloc (Nat.le_refl _) _)

theorem Q1.blk {w W : World} {hb G : Nat} {s : HS} {r : Raw} {v1 : Value} (h : Q1 w hb s r G v1 W) : Blk W G (marked r.l) := h.lent.blk 0 (by omega)

theorem bytes_ph {A : Nat → Addr} {B0 hb N b o n c : Nat} {a : Option Addr} {l : List Gf.F} {s : HS} {es ls : List Ent} {w : World} (hI : InvP A B0 w hb N s es ls) (hC : CameB w hb a b o n c l) (W : World) (hQ : Q0 w hb s W) :
    Calls Tryd.prog 42 #[.pointer (some ⟨hb, 0, none⟩), .slice a n c] W fun e W' =>
      ∃ G v1, e = .returned (.slice (some ⟨G, 0, none⟩) n (n + 2)) ∧ Q1 w hb s ⟨.slice a n c, l⟩ G v1 W' ∧ But (fun b => b = hb) W W' ∧ W.heap.size ≤ G := by
  have hbl := hI.hands.lt
  have hCW := hC.but hbl hQ.but
  have hsz := hQ.but.size
  refine (bytes_any hb W.heap.size n 0 s ⟨.slice a n c, l⟩ [] W hC.len (by have := hC.few; omega) (by omega) hQ.hands (by rw [hI.in0]; exact World.ownsRow_nil ..) (Nat.le_refl _) hCW.raw).mono ?_
  rintro e w1 ⟨v1, rfl, hG1, hH1, hO1, hv1, hb1⟩
  have hbut : But (fun b => b = hb) W w1 := hb1.wide (fun k _ q => by
    rw [hI.in0] at q
    rcases q with q | q
    · exact q
    · simp [Value.ownBlock] at q)
  refine ⟨W.heap.size, v1, rfl, ⟨⟨hQ.but.trans hbut, hH1⟩, ⟨rfl, ?_, ?_, ?_, ?_⟩, hsz⟩, hbut, Nat.le_refl _⟩
  · have e : lentCells [⟨.slice a n c, l⟩] [W.heap.size] 1 = [.slice (some ⟨W.heap.size, 0, none⟩) (n + 2) (n + 2), .slice a n c] := by
      simp [lentCells, gat, wat, hC.len]
    rw [e]
    exact hO1
  · intro i hi
    obtain rfl : i = 0 := by omega
    exact Nat.le_refl _
  · intro i hi
    obtain rfl : i = 0 := by omega
    exact hG1
  · intro i j hi hj _
    omega

theorem back_ph {A : Nat → Addr} {B0 hb N b o n c G : Nat} {a : Option Addr} {l : List Gf.F} {s : HS} {es ls : List Ent} {w : World} {v1 : Value} (hI : InvP A B0 w hb N s es ls) (hC : CameB w hb a b o n c l) (lv : Value) (W : World) (hQ : Q1 w hb s ⟨.slice a n c, l⟩ G v1 W) :
    Calls Tryd.prog 28 #[.pointer (some ⟨hb, 0, none⟩), lv] W fun e W' =>
      e = .returned (.bool true) ∧ Q0 w hb s W' ∧ But (fun b => b = hb ∨ b = G) W W' := by
  have hbl := hI.hands.lt
  have hCW := hC.but hbl hQ.at_.but
  have hnew := hQ.new
  refine (back0_any lv hb G (G + 1) 1 0 0 0 0 0 0 0 0 0 0 rfl none none { s with in_ := v1 } [⟨.slice a n c, l⟩] [G] [] W (by omega) (by omega) hQ.at_.hands hQ.lent ?_ ?_ ?_ ?_).mono ?_
  · intro i hi
    obtain rfl : i = 0 := by omega
    exact Nat.lt_succ_self _
  · intro i hi
    obtain rfl : i = 0 := by omega
    refine ⟨hCW.raw, ?_, ?_⟩
    · show l.length ≤ _
      have := hC.few
      have := hC.len
      omega
    · intro h0 g hg
      have h1 := hC.adr (by have := hC.len; have : 0 < l.length := h0; omega)
      have h2 := hC.low (by have := hC.len; have : 0 < l.length := h0; omega)
      have hg' : (Value.slice a n c).ownBlock = some g := hg
      rw [h1] at hg'
      have hq : b = g := by simpa [Value.ownBlock] using hg'
      omega
  · exact ⟨by omega, by show World.ownsRow _ _ _ _ s.rows _ _; rw [hI.rows0]; exact World.ownsRow_nil .., fun h => absurd h (by omega)⟩
  · exact ⟨by omega, by show World.ownsRow _ _ _ _ s.ints _ _; rw [hI.ints0]; exact World.ownsRow_nil .., by show World.ownsRow _ _ _ _ s.iwant _ _; rw [hI.want0]; exact World.ownsRow_nil .., fun h => absurd h (by omega)⟩
  · rintro e w3 ⟨rfl, hH3, hb3⟩
    have e4 := HS.nil4 s hI.in0 hI.rows0 hI.ints0 hI.want0
    have hH3' : HAt w3 hb s := by rw [← e4]; exact hH3
    refine ⟨rfl, ⟨hQ.at_.but.then hb3 (fun b hlt q => ?_), hH3'⟩, hb3.wide (fun k _ q => ?_)⟩
    · rcases q with q | q
      · exact q
      · omega
    · rcases q with q | q
      · exact .inl q
      · exact .inr (by omega)

theorem parse_ph {A : Nat → Addr} {B0 hb N b o n c G : Nat} {a : Option Addr} {l : List Gf.F} {s : HS} {es ls : List Ent} {w : World} {v1 : Value} (cK cN cS : Int) (hI : InvP A B0 w hb N s es ls) (hC : CameB w hb a b o n c l) (W : World) (hQ : Q1 w hb s ⟨.slice a n c, l⟩ G v1 W) :
    Calls Tryd.prog 17 #[.agg #[.int .i64 cK, .int .i64 cN, .int .i64 cS], .slice (some ⟨G, 0, none⟩) n (n + 2)] W fun e W' =>
      ∃ u a5 a6 c5 c6, e = .returned (.tuple #[.agg #[.int .i64 ((ansOf cK cN cS l).x0 : Int), .int .i64 ((ansOf cK cN cS l).x1 : Int), .int .i64 ((ansOf cK cN cS l).x2 : Int), .int .i64 ((ansOf cK cN cS l).x3 : Int), .int .i64 ((ansOf cK cN cS l).x4 : Int), .slice a5 (ansOf cK cN cS l).d.length c5, .slice a6 (ansOf cK cN cS l).n6 c6], u]) ∧
        Q1 w hb s ⟨.slice a n c, l⟩ G v1 W' ∧ W'.ownsRow (G + 1) 5 1 (.slice a5 (ansOf cK cN cS l).d.length c5) (ansOf cK cN cS l).d.length (encL (ansOf cK cN cS l).d) ∧ W'.ownsRow (G + 1) 110 2 (.slice a6 (ansOf cK cN cS l).n6 c6) (ansOf cK cN cS l).n6 (lackCells (ansOf cK cN cS l).f (ansOf cK cN cS l).n6) ∧ ESays A w W' u (ansOf cK cN cS l) ∧ Below W.heap.size W W' := by
  have hbl := hI.hands.lt
  obtain ⟨hE, hT⟩ := hI.errsBut hQ.at_.but
  have hsz := hQ.at_.but.size
  have htl := hI.typLow
  have hG := hQ.blk
  refine (progParse A B0 _ G 0 n (n + 2) cK cN cS l W hE hT (by omega) hC.len (by omega) (by have := hC.few; omega) (by have := hC.few; omega) (fun _ => rfl) (marked_bs hG) (fun _ => hG.lt)).mono ?_
  rintro e w2 ⟨v, u, a5, a6, c5, c6, rfl, hp, hu⟩
  obtain rfl := hp.val
  have hGl := hG.lt
  refine ⟨u, a5, a6, c5, c6, rfl, hQ.above hp.low, own_base2 hp.data hGl, own_base2 hp.lacks hGl, ?_, hp.low⟩
  rcases hu with h | ⟨i, hi, hci, qb, h1, h2, h3⟩
  · exact .inl h
  · exact .inr ⟨i, hi, hci, qb, h1, by omega, h3⟩

/-- Behind the first statement of Hands.parse. -/
structure HPSt (A : Nat → Addr) (w : World) (hb : Nat) (s : HS) (r : Raw) (cK cN cS : Int) (p : PA) (t8 : Value) (wx : World) (pb G : Nat) (v1 : Value) (a5 a6 : Option Addr) (c5 c6 : Nat) : Prop where
  q1 : Q1 w hb s r G v1 wx
  cfg : wx.heap[w.heap.size]? = some (.cells #[.int .i64 cK, .int .i64 cN, .int .i64 cS] 54 (0, 0))
  pk : wx.heap[pb]? = some (.cells #[.int .i64 (p.x0 : Int), .int .i64 (p.x1 : Int), .int .i64 (p.x2 : Int), .int .i64 (p.x3 : Int), .int .i64 (p.x4 : Int), .slice a5 p.d.length c5, .slice a6 p.n6 c6] 57 (0, 0))
  pbn : w.heap.size ≤ pb
  data : wx.ownsRow (G + 1) 5 1 (.slice a5 p.d.length c5) p.d.length (encL p.d)
  lacks : wx.ownsRow (G + 1) 110 2 (.slice a6 p.n6 c6) p.n6 (lackCells p.f p.n6)
  err : ESays A w wx t8 p

theorem ne_of_typ {W : World} {pb : Nat} (hpb : ∀ g cs t, W.heap[g]? = some (.cells cs t (0, 0)) → g = pb → t = 57) {B n sz : Nat} {e : TypeId} {v : Value} {xs : List Value} (h : W.ownsRow B e sz v n xs) (hne : e ≠ 57) : ∀ g, v.ownBlock = some g → ¬ g = pb := by
  intro g hg q
  obtain ⟨cur, hc⟩ := own_block h hg
  exact hne (hpb g cur e hc q)

theorem HPSt.of {A : Nat → Addr} {w W2 wx : World} {hb pb G : Nat} {s : HS} {r : Raw} {cK cN cS : Int} {p : PA} {u v1 : Value} {a5 a6 : Option Addr} {c5 c6 : Nat} (hQ2 : Q1 w hb s r G v1 W2)
    (hd : W2.ownsRow (G + 1) 5 1 (.slice a5 p.d.length c5) p.d.length (encL p.d)) (hk : W2.ownsRow (G + 1) 110 2 (.slice a6 p.n6 c6) p.n6 (lackCells p.f p.n6)) (hu : ESays A w W2 u p)
    (hcf : W2.heap[w.heap.size]? = some (.cells #[.int .i64 cK, .int .i64 cN, .int .i64 cS] 54 (0, 0)))
    (hpb : ∀ g cs t, W2.heap[g]? = some (.cells cs t (0, 0)) → g = pb → t = 57) (hb' : But (fun g => g = pb) W2 wx) (hpn : w.heap.size ≤ pb)
    (hpk : wx.heap[pb]? = some (.cells #[.int .i64 (p.x0 : Int), .int .i64 (p.x1 : Int), .int .i64 (p.x2 : Int), .int .i64 (p.x3 : Int), .int .i64 (p.x4 : Int), .slice a5 p.d.length c5, .slice a6 p.n6 c6] 57 (0, 0))) :
    HPSt A w hb s r cK cN cS p u wx pb G v1 a5 a6 c5 c6 := by
  have hh : hb ≠ pb := fun q => absurd (hpb hb _ _ hQ2.at_.hands q) (by decide)
  have hG : G ≠ pb := fun q => absurd (hpb G _ _ hQ2.blk q) (by decide)
  have hc : w.heap.size ≠ pb := fun q => absurd (hpb _ _ _ hcf q) (by decide)
  refine ⟨⟨⟨hQ2.at_.but.then hb' (fun k hk q => by omega), hQ2.at_.hands.kept (hb'.block hb hQ2.at_.hands.lt hh)⟩, hQ2.lent.kept hb' (ne_of_typ hpb hQ2.lent.own (by decide)) (fun i hi q => ?_), hQ2.new⟩, ?_, hpk, hpn, ?_, ?_, ?_⟩
  · obtain rfl : i = 0 := by omega
    exact hG q
  · rw [hb'.block _ (lt_of_block hcf) hc]; exact hcf
  · exact hb'.own hd (ne_of_typ hpb hd (by decide))
  · exact hb'.own hk (ne_of_typ hpb hk (by decide))
  · rcases hu with h | ⟨i, hi, hci, qb, h1, h2, h3⟩
    · exact .inl h
    · refine .inr ⟨i, hi, hci, qb, h1, h2, ?_⟩
      rw [hb'.block qb (lt_of_block h3) (fun q => absurd (hpb _ _ _ h3 q) (by decide))]
      exact h3

end Go.Proofs.YtjabhnhejbhgjaaDoor

/- Hands.parse: what it keeps, and what is told of an error. -/
namespace Go.Proofs.YtjabhnhejbhgjaaDoor
open Go.RowKit

theorem told_says {A : Nat → Addr} {B0 : Nat} {w W : World} {u : Value} {p : PA} (hE : Errs A B0 W) (h : ESays A w W u p) :
    Calls Tryd.prog 30 #[u] W fun e w' => e = .returned (.agg #[.int .i64 (p.c : Int), .int .i64 p.z]) ∧ Below W.heap.size W w' := by
  rcases h with ⟨hz, hc, rfl⟩ | ⟨i, hi, hc, qb, rfl, _, hblk⟩
  · rw [hz]
    rcases hc with hc | hc
    · rw [hc]; exact told_nil W
    · rw [hc]; exact told_err A B0 0 (by omega) W hE
  · rw [hc]; exact told_bad A B0 i hi qb p.z W hE hblk

theorem InvP.at {A : Nat → Addr} {B0 : Nat} {w W : World} {hb N : Nat} {s : HS} {es ls : List Ent} (h : InvP A B0 w hb N s es ls) (hq : Q0 w hb s W) : InvP A B0 W hb N s es ls := by
  obtain ⟨hE, hT⟩ := h.errsBut hq.but
  exact ⟨hE, hT, h.typLow, h.low, hq.hands, h.num, h.in0, h.rows0, h.ints0, h.want0, h.outs.but hq.but (fun g hg q => own_ne h.outs.own hg h.hands (by decide) q) (fun g hg q => own_ne h.outs.marks hg h.hands (by decide) q) (fun e he g hg q => (h.outs.each e he).1.ne_hands h.hands g hg q),
    h.lks.but hq.but (fun g hg q => own_ne h.lks.own hg h.hands (by decide) q) (fun g hg q => own_ne h.lks.marks hg h.hands (by decide) q) (fun e he g hg q => (h.lks.each e he).1.ne_hands h.hands g hg q), h.outer0, h.objs0, h.apart⟩

/-- Blocks of these types stand. -/
def Stand (W W' : World) : Prop := ∀ (g : Nat) cs t, W.heap[g]? = some (Obj.cells cs t (0, 0)) → (t = 57 ∨ t = 110 ∨ t = 28 ∨ t = 74) → W'.heap[g]? = W.heap[g]?

theorem ne_hands {W : World} {hb g : Nat} {s : HS} {cs : Array Value} {t : TypeId} (h : HAt W hb s) (hg : W.heap[g]? = some (.cells cs t (0, 0))) (hne : t ≠ 43) : ¬ g = hb := by
  intro q
  unfold HAt at h
  rw [q, h] at hg
  simp only [Option.some.injEq, Obj.cells.injEq] at hg
  exact hne hg.2.1.symm

theorem keepP_any {A : Nat → Addr} {B0 hb N n Bv : Nat} {s : HS} {es ls : List Ent} {W : World} (hI : InvP A B0 W hb N s es ls) (hN : N ≤ 1000000000) (hes : es.length ≤ 1000000) (v : Value) (xs : List Value) (hv : W.ownsRow Bv 5 1 v n xs) (hn : n ≤ 14073748835500) (hBv : Bv ≤ W.heap.size) (hlo : hb ≤ Bv) (hfar : ∀ e ∈ es, ∀ g, v.ownBlock = some g → e.v.ownBlock ≠ some g) :
    Calls Tryd.prog 31 #[.pointer (some ⟨hb, 0, none⟩), v] W fun e W' =>
      e = .returned (.tuple #[]) ∧ ∃ s' es', InvP A B0 W' hb (N + 1) s' (es ++ es') ls ∧ es'.length = 4 ∧ s'.lacks = s.lacks ∧ Below hb W W' ∧ Stand W W' ∧ W.heap.size ≤ W'.heap.size := by
  have hbl := hI.hands.lt
  refine (keep_any hb hb Bv N n s es v xs W hI.num hN hI.hands hI.outs hes (by omega) hn hv hBv hfar).mono ?_
  rintro e w6 ⟨rfl, es', vo, vm, hK⟩
  have hlow : Below hb W w6 := hK.but.toBelow (by omega) (fun k hk q => by
    rcases q with q | q | q | q
    · omega
    · have := (hI.outs.own.lt k q).1; omega
    · have := (hI.outs.marks.lt k q).1; omega
    · have := (hv.lt k q).1; omega)
  refine ⟨rfl, _, es', ⟨hI.errs.below (hlow.mono hI.low), hI.typ.below hlow hI.typLow, hI.typLow, hI.low, hK.hands, by show (N : Int) + 1 = _; push_cast; rfl, hI.in0, hI.rows0, hI.ints0, hI.want0, hK.outs, ?_, hI.outer0, hI.objs0, ?_⟩, hK.four, rfl, hlow, ?_, hK.but.size⟩
  · refine hI.lks.but hK.but (fun g hg q => ?_) (fun g hg q => ?_) (fun e he g hg q => ?_)
    · rcases q with q | q | q | q
      · exact own_ne hI.lks.own hg hI.hands (by decide) q
      · exact own_own_ne hI.lks.own hI.outs.own (by decide) g hg q
      · exact own_own_ne hI.lks.own hI.outs.marks (by decide) g hg q
      · exact own_own_ne hI.lks.own hv (by decide) g hg q
    · rcases q with q | q | q | q
      · exact own_ne hI.lks.marks hg hI.hands (by decide) q
      · exact own_own_ne hI.lks.marks hI.outs.own (by decide) g hg q
      · exact hI.apart g q hg
      · exact own_own_ne hI.lks.marks hv (by decide) g hg q
    · rcases q with q | q | q | q
      · exact (hI.lks.each e he).1.ne_hands hI.hands g hg q
      · exact (hI.lks.each e he).1.ne_own hI.outs.own (by decide) g hg q
      · exact (hI.lks.each e he).1.ne_own hI.outs.marks (by decide) g hg q
      · exact (hI.lks.each e he).1.ne_own hv (by decide) g hg q
  · intro g hg q
    rcases hK.marksAt g hg with h | h
    · exact hI.apart g h q
    · have := (hI.lks.marks.lt g q).2; omega
  · intro g cs t hg ht
    have hne : ∀ {B n' sz : Nat} {e : TypeId} {v' : Value} {xs' : List Value}, W.ownsRow B e sz v' n' xs' → e ≠ t → v'.ownBlock ≠ some g := fun h' hne q => own_ne h' q hg hne rfl
    refine hK.but.block g (lt_of_block hg) (fun q => ?_)
    rcases q with q | q | q | q
    · exact ne_hands hI.hands hg (by rcases ht with rfl | rfl | rfl | rfl <;> decide) q
    · exact hne hI.outs.own (by rcases ht with rfl | rfl | rfl | rfl <;> decide) q
    · exact hne hI.outs.marks (by rcases ht with rfl | rfl | rfl | rfl <;> decide) q
    · exact hne hv (by rcases ht with rfl | rfl | rfl | rfl <;> decide) q

theorem keepLacksP_any {A : Nat → Addr} {B0 hb N n Bv : Nat} {s : HS} {es ls : List Ent} {W : World} (hI : InvP A B0 W hb N s es ls) (hN : N ≤ 1000000000) (hls : ls.length ≤ 1000000) (v : Value) (xs : List Value) (hv : W.ownsRow Bv 110 2 v n xs) (hn : n ≤ 1000000) (hBv : Bv ≤ W.heap.size) (hlo : hb ≤ Bv) (hfar : ∀ e ∈ ls, ∀ g, v.ownBlock = some g → e.v.ownBlock ≠ some g) :
    Calls Tryd.prog 45 #[.pointer (some ⟨hb, 0, none⟩), v] W fun e W' =>
      e = .returned (.tuple #[]) ∧ ∃ s' ls', InvP A B0 W' hb (N + 1) s' es (ls ++ ls') ∧ ls'.length = 4 ∧ Below hb W W' ∧ (∀ (g : Nat) cs t, W.heap[g]? = some (Obj.cells cs t (0, 0)) → (t = 28 ∨ t = 74) → W'.heap[g]? = W.heap[g]?) := by
  have hbl := hI.hands.lt
  refine (keepLacks_any hb hb Bv N n s ls v xs W hI.num hN hI.hands hI.lks hls (by omega) hn hv hBv hfar).mono ?_
  rintro e w6 ⟨rfl, ls', vo, vm, hK⟩
  have hlow : Below hb W w6 := hK.but.toBelow (by omega) (fun k hk q => by
    rcases q with q | q | q | q
    · omega
    · have := (hI.lks.own.lt k q).1; omega
    · have := (hI.lks.marks.lt k q).1; omega
    · have := (hv.lt k q).1; omega)
  refine ⟨rfl, _, ls', ⟨hI.errs.below (hlow.mono hI.low), hI.typ.below hlow hI.typLow, hI.typLow, hI.low, hK.hands, by show (N : Int) + 1 = _; push_cast; rfl, hI.in0, hI.rows0, hI.ints0, hI.want0, ?_, hK.lks, hI.outer0, hI.objs0, ?_⟩, hK.four, hlow, ?_⟩
  · refine hI.outs.but hK.but (fun g hg q => ?_) (fun g hg q => ?_) (fun e he g hg q => ?_)
    · rcases q with q | q | q | q
      · exact own_ne hI.outs.own hg hI.hands (by decide) q
      · exact own_own_ne hI.outs.own hI.lks.own (by decide) g hg q
      · exact own_own_ne hI.outs.own hI.lks.marks (by decide) g hg q
      · exact own_own_ne hI.outs.own hv (by decide) g hg q
    · rcases q with q | q | q | q
      · exact own_ne hI.outs.marks hg hI.hands (by decide) q
      · exact own_own_ne hI.outs.marks hI.lks.own (by decide) g hg q
      · exact hI.apart g hg q
      · exact own_own_ne hI.outs.marks hv (by decide) g hg q
    · rcases q with q | q | q | q
      · exact (hI.outs.each e he).1.ne_hands hI.hands g hg q
      · exact (hI.outs.each e he).1.ne_own hI.lks.own (by decide) g hg q
      · exact (hI.outs.each e he).1.ne_own hI.lks.marks (by decide) g hg q
      · exact (hI.outs.each e he).1.ne_own hv (by decide) g hg q
  · intro g hg q
    rcases hK.marksAt g q with h | h
    · exact hI.apart g hg h
    · have := (hI.outs.marks.lt g hg).2; omega
  · intro g cs t hg ht
    have hne : ∀ {B n' sz : Nat} {e : TypeId} {v' : Value} {xs' : List Value}, W.ownsRow B e sz v' n' xs' → e ≠ t → v'.ownBlock ≠ some g := fun h' hne q => own_ne h' q hg hne rfl
    refine hK.but.block g (lt_of_block hg) (fun q => ?_)
    rcases q with q | q | q | q
    · exact ne_hands hI.hands hg (by rcases ht with rfl | rfl <;> decide) q
    · exact hne hI.lks.own (by rcases ht with rfl | rfl <;> decide) q
    · exact hne hI.lks.marks (by rcases ht with rfl | rfl <;> decide) q
    · exact hne hv (by rcases ht with rfl | rfl <;> decide) q

/-- Behind back. -/
structure HPK (A : Nat → Addr) (w : World) (hb : Nat) (s : HS) (cK cN cS : Int) (p : PA) (t8 : Value) (wx : World) (pb : Nat) (a5 a6 : Option Addr) (c5 c6 : Nat) : Prop where
  q0 : Q0 w hb s wx
  cfg : wx.heap[w.heap.size]? = some (.cells #[.int .i64 cK, .int .i64 cN, .int .i64 cS] 54 (0, 0))
  pk : wx.heap[pb]? = some (.cells #[.int .i64 (p.x0 : Int), .int .i64 (p.x1 : Int), .int .i64 (p.x2 : Int), .int .i64 (p.x3 : Int), .int .i64 (p.x4 : Int), .slice a5 p.d.length c5, .slice a6 p.n6 c6] 57 (0, 0))
  data : wx.ownsRow w.heap.size 5 1 (.slice a5 p.d.length c5) p.d.length (encL p.d)
  lacks : wx.ownsRow w.heap.size 110 2 (.slice a6 p.n6 c6) p.n6 (lackCells p.f p.n6)
  err : ESays A w wx t8 p

theorem HPSt.back {A : Nat → Addr} {w wx w3 : World} {hb pb G : Nat} {s : HS} {r : Raw} {cK cN cS : Int} {p : PA} {t8 v1 : Value} {a5 a6 : Option Addr} {c5 c6 : Nat} (h : HPSt A w hb s r cK cN cS p t8 wx pb G v1 a5 a6 c5 c6) (hbl : hb < w.heap.size) (hq : Q0 w hb s w3) (hb' : But (fun b => b = hb ∨ b = G) wx w3) :
    HPK A w hb s cK cN cS p t8 w3 pb a5 a6 c5 c6 := by
  have hG := h.q1.blk
  have hnew := h.q1.new
  have hH := h.q1.at_.hands
  have key : ∀ {g : Nat} {cs : Array Value} {t : TypeId}, wx.heap[g]? = some (.cells cs t (0, 0)) → t ≠ 43 → t ≠ 5 → w3.heap[g]? = some (.cells cs t (0, 0)) := fun {g cs t} hg h1 h2 => by
    rw [hb'.block g (lt_of_block hg) (fun q => ?_)]
    · exact hg
    · rcases q with q | q
      · exact ne_hands hH hg h1 q
      · unfold Blk at hG
        rw [q, hG] at hg
        simp only [Option.some.injEq, Obj.cells.injEq] at hg
        exact h2 hg.2.1.symm
  refine ⟨hq, key h.cfg (by decide) (by decide), key h.pk (by decide) (by decide), own_base2 (hb'.own h.data (fun g hg q => ?_)) (by omega), own_base2 (hb'.own h.lacks (fun g hg q => ?_)) (by omega), ?_⟩
  · have := (h.data.lt g hg).1
    rcases q with q | q <;> omega
  · have := (h.lacks.lt g hg).1
    rcases q with q | q <;> omega
  · rcases h.err with e | ⟨i, hi, hci, qb, h1, h2, h3⟩
    · exact .inl e
    · exact .inr ⟨i, hi, hci, qb, h1, h2, key h3 (by decide) (by decide)⟩

theorem ESays.kept {A : Nat → Addr} {w W W' : World} {u : Value} {p : PA} (h : ESays A w W u p) (hk : ∀ (g : Nat) cs, W.heap[g]? = some (Obj.cells cs 28 (0, 0)) → W'.heap[g]? = W.heap[g]?) : ESays A w W' u p := by
  rcases h with e | ⟨i, hi, hci, qb, h1, h2, h3⟩
  · exact .inl e
  · exact .inr ⟨i, hi, hci, qb, h1, h2, (hk qb _ h3).trans h3⟩

theorem HPK.above {A : Nat → Addr} {w wx w3 : World} {hb pb : Nat} {s : HS} {cK cN cS : Int} {p : PA} {t8 : Value} {a5 a6 : Option Addr} {c5 c6 : Nat} (h : HPK A w hb s cK cN cS p t8 wx pb a5 a6 c5 c6) (hb' : Below wx.heap.size wx w3) : HPK A w hb s cK cN cS p t8 w3 pb a5 a6 c5 c6 :=
  ⟨h.q0.above hb', (hb'.block _ (lt_of_block h.cfg)).trans h.cfg, (hb'.block _ (lt_of_block h.pk)).trans h.pk, own_of_block h.data (fun g hg => hb'.block g (h.data.lt g hg).2), own_of_block h.lacks (fun g hg => hb'.block g (h.lacks.lt g hg).2), ESays.kept h.err (fun g _ hg => hb'.block g (lt_of_block hg))⟩

end Go.Proofs.YtjabhnhejbhgjaaDoor
