/- Package wire: the walk of parseLack. (Written by gen_lack.py.) -/
import Derived.Test.YtjabhnhejbhgjaaDoorParseData
namespace Go.Proofs.YtjabhnhejbhgjaaDoor
open Go.RowKit

def blkB (K T least x : Nat) : Bool := decide (least ≤ x) && winB (x : Int) 0 ((partsN T K : Int) - 1)
def manyB (q x : Nat) : Bool := decide (1 ≤ x ∧ x ≤ q)
theorem manyB_yes {q x : Nat} (h : 1 ≤ x ∧ x ≤ q) : manyB q x = true := decide_eq_true h
theorem manyB_no {q x : Nat} (h : ¬ (1 ≤ x ∧ x ≤ q)) : manyB q x = false := decide_eq_false h

/-- What is wrong with the lack at place k of a body. -/
def lackB (K T : Nat) (m : List Gf.F) (k least : Nat) : Option (Nat × Nat) :=
  if m.length < k + 1 then some (4, m.length) else if blkB K T least (bt m k) = false then some (6, k) else if m.length < k + 2 then some (4, m.length) else if manyB (srcN K T (bt m k)) (bt m (k + 1)) = false then some (6, k + 1) else none

def LackGives (A : Nat → Addr) (K T rb : Nat) (u : Value) (m : List Gf.F) (k least : Nat) (w : World) (e : Ending) (w' : World) : Prop :=
  (match lackB K T m k least with
  | some (c, p) => ∃ v, e = .returned (.tuple #[.agg #[.int .i64 0, .int .i64 0], v]) ∧ Wr w w' v (p : Int) (E A c)
  | none => e = .returned (.tuple #[.agg #[.int .i64 (bt m k : Int), .int .i64 (bt m (k + 1) : Int)], .nilIface]) ∧ Rdr w' rb u (k + 2)) ∧ But (fun g => g = rb) w w'
theorem LackGives.bad {A : Nat → Addr} {K T rb c p k least : Nat} {u : Value} {m : List Gf.F} {w w' : World} {v : Value} (h : lackB K T m k least = some (c, p)) (hw : Wr w w' v (p : Int) (E A c)) (hb : But (fun g => g = rb) w w') :
    LackGives A K T rb u m k least w (.returned (.tuple #[.agg #[.int .i64 0, .int .i64 0], v])) w' := by
  unfold LackGives
  rw [h]
  exact ⟨⟨v, rfl, hw⟩, hb⟩

structure LackSt (w W : World) (K N S T rb : Nat) (v : Value) (k least : Nat) (x y : Int) : Prop where
  but : But (fun g => g = rb) w W
  plan : W.heap[w.heap.size]? = some (.cells #[.int .i64 (K : Int), .int .i64 (N : Int), .int .i64 (S : Int), .int .i64 (T : Int)] 121 (0, 0))
  lst : W.heap[w.heap.size + 1]? = some (.cells #[.int .i64 (least : Int)] 3 (0, 0))
  res : W.heap[w.heap.size + 2]? = some (.cells #[.int .i64 x, .int .i64 y] 110 (0, 0))
  rdr : Rdr W rb v k
  low : rb < w.heap.size

theorem LackSt.start {w : World} {K N S T rb k least : Nat} {v : Value} (h : Rdr w rb v k) : LackSt w (((w.alloc (.cells #[.int .i64 (K : Int), .int .i64 (N : Int), .int .i64 (S : Int), .int .i64 (T : Int)] 121)).alloc (.cells #[.int .i64 (least : Int)] 3)).alloc (.cells #[.int .i64 0, .int .i64 0] 110)) K N S T rb v k least 0 0 := by
  have hl := h.lt
  have e1 := heap_alloc_new (w.alloc (.cells #[.int .i64 (K : Int), .int .i64 (N : Int), .int .i64 (S : Int), .int .i64 (T : Int)] 121)) (.cells #[.int .i64 (least : Int)] 3)
  have e2 := heap_alloc_new ((w.alloc (.cells #[.int .i64 (K : Int), .int .i64 (N : Int), .int .i64 (S : Int), .int .i64 (T : Int)] 121)).alloc (.cells #[.int .i64 (least : Int)] 3)) (.cells #[.int .i64 0, .int .i64 0] 110)
  rw [World.size_alloc] at e1
  rw [World.size_alloc, World.size_alloc] at e2
  refine ⟨(((But.refl _ w).alloc _).alloc _).alloc _, ?_, ?_, e2, h.kept ?_, hl⟩
  · rw [Below.heap_alloc _ _ _ (by simp; omega), Below.heap_alloc _ _ _ (by simp)]; exact heap_alloc_new w _
  · rw [Below.heap_alloc _ _ _ (by simp)]; exact e1
  · rw [Below.heap_alloc _ _ _ (by simp; omega), Below.heap_alloc _ _ _ (by simp; omega), Below.heap_alloc _ _ _ hl]
theorem LackSt.next {w W W' : World} {K N S T rb k k' least : Nat} {v : Value} {x y : Int} (h : LackSt w W K N S T rb v k least x y) (hb : But (fun g => g = rb) W W') (hr : Rdr W' rb v k') : LackSt w W' K N S T rb v k' least x y :=
  ⟨h.but.trans hb, by rw [hb.block _ (lt_of_block h.plan) (by have := h.low; omega)]; exact h.plan, by rw [hb.block _ (lt_of_block h.lst) (by have := h.low; omega)]; exact h.lst, by rw [hb.block _ (lt_of_block h.res) (by have := h.low; omega)]; exact h.res, hr, h.low⟩
theorem LackSt.grow {w W W' : World} {K N S T rb k least : Nat} {v : Value} {x y : Int} (h : LackSt w W K N S T rb v k least x y) (hb : Below W.heap.size W W') : LackSt w W' K N S T rb v k least x y :=
  h.next (Below.but hb _ (fun _ hi h => absurd hi h)) (h.rdr.kept (hb.block _ h.rdr.lt))
theorem LackSt.set {w W : World} {K N S T rb k least : Nat} {v : Value} {x y : Int} (h : LackSt w W K N S T rb v k least x y) (x' y' : Int) : LackSt w ((W.setCell ⟨w.heap.size + 2, 0, none⟩ (.int .i64 x')).setCell ⟨w.heap.size + 2, 1, none⟩ (.int .i64 y')) K N S T rb v k least x' y' := by
  have hl := h.low
  have hk : ∀ g, g ≠ w.heap.size + 2 → ((W.setCell ⟨w.heap.size + 2, 0, none⟩ (.int .i64 x')).setCell ⟨w.heap.size + 2, 1, none⟩ (.int .i64 y')).heap[g]? = W.heap[g]? := fun g hg => (Below.heap_setCell _ ⟨w.heap.size + 2, 1, none⟩ _ g hg).trans (Below.heap_setCell W ⟨w.heap.size + 2, 0, none⟩ _ g hg)
  have r1 : (W.setCell ⟨w.heap.size + 2, 0, none⟩ (.int .i64 x')).heap[w.heap.size + 2]? = some (.cells #[.int .i64 x', .int .i64 y] 110 (0, 0)) := heap_setCell_same _ _ 0 _ _ _ h.res
  exact ⟨(h.but.setCell (.inr (by show w.heap.size ≤ w.heap.size + 2; omega)) _).setCell (.inr (by show w.heap.size ≤ w.heap.size + 2; omega)) _, by rw [hk _ (by omega)]; exact h.plan, by rw [hk _ (by omega)]; exact h.lst, heap_setCell_same _ _ 1 _ _ _ r1, h.rdr.kept (hk _ (by omega)), hl⟩
theorem LackSt.errs {A : Nat → Addr} {B0 : Nat} {w W : World} {K N S T rb k least : Nat} {v : Value} {x y : Int} (h : LackSt w W K N S T rb v k least x y) (hE : Errs A B0 w) (hB : B0 ≤ rb) : Errs A B0 W := hE.below (h.but.toBelow hE.size (fun k hk q => by omega))

set_option maxRecDepth 100000 in
set_option maxHeartbeats 1000000 in
theorem lblock_any (pb bb K N S T least x : Nat) (hk : 1 ≤ K) (hk8 : K ≤ 8) (hT : T ≤ 70000) (w : World) (hp : w.heap[pb]? = some (.cells #[.int .i64 (K : Int), .int .i64 (N : Int), .int .i64 (S : Int), .int .i64 (T : Int)] 121 (0, 0))) (hv : w.cell? ⟨bb, 0, none⟩ = some (.int .i64 (least : Int))) :
    Calls Tryd.prog 91 #[.int .i64 (x : Int), .pointer (some ⟨bb, 0, none⟩), .pointer (some ⟨pb, 0, none⟩)] w fun e w' => e = .returned (.bool (blkB K T least x)) ∧ Below w.heap.size w w' := by
  have c0 : w.cell? ⟨pb, 0, none⟩ = some (.int .i64 (K : Int)) := cell_of_row w _ 0 _ _ _ hp
  have c1 : w.cell? ⟨pb, 1, none⟩ = some (.int .i64 (N : Int)) := cell_of_row w _ 1 _ _ _ hp
  have c2 : w.cell? ⟨pb, 2, none⟩ = some (.int .i64 (S : Int)) := cell_of_row w _ 2 _ _ _ hp
  have c3 : w.cell? ⟨pb, 3, none⟩ = some (.int .i64 (T : Int)) := cell_of_row w _ 3 _ _ _ hp
  have hP := fun w => hasBlock_any K N S T (x : Int) hk hk8 hT w
  have HQ : Hid (blkB K T least x = (decide (least ≤ x) && winB (x : Int) 0 ((partsN T K : Int) - 1))) := rfl
  clear hp
  by_cases h1 : least ≤ x
  · have h1' : (least : Int) ≤ (x : Int) := by omega
    go_enter Tryd.func91, Tryd.ntmps91
    go_wp2_with fail
    refine (hP _).mono ?_
    rintro e w1 ⟨rfl, hb1⟩
    go_wp2_with fail
    go_ret
    exact ⟨ret_bool (by rw [HQ.out, decide_eq_true h1]; rfl), hb1⟩
  · have h1' : ¬ (least : Int) ≤ (x : Int) := by omega
    go_enter Tryd.func91, Tryd.ntmps91
    go_wp2_with fail
    go_ret
    exact ⟨ret_bool (by rw [HQ.out, decide_eq_false h1]; rfl), Below.refl _ _⟩

set_option maxRecDepth 100000 in
set_option maxHeartbeats 1000000 in
theorem lmany_any (pb bb K N S T b x : Nat) (hT : T ≤ 70000) (hb : b * K < T) (w : World) (hp : w.heap[pb]? = some (.cells #[.int .i64 (K : Int), .int .i64 (N : Int), .int .i64 (S : Int), .int .i64 (T : Int)] 121 (0, 0))) (hv : w.cell? ⟨bb, 0, none⟩ = some (.int .i64 (b : Int))) :
    Calls Tryd.prog 92 #[.int .i64 (x : Int), .pointer (some ⟨pb, 0, none⟩), .pointer (some ⟨bb, 0, none⟩)] w fun e w' => e = .returned (.bool (manyB (srcN K T b) x)) ∧ Below w.heap.size w w' := by
  have c0 : w.cell? ⟨pb, 0, none⟩ = some (.int .i64 (K : Int)) := cell_of_row w _ 0 _ _ _ hp
  have c1 : w.cell? ⟨pb, 1, none⟩ = some (.int .i64 (N : Int)) := cell_of_row w _ 1 _ _ _ hp
  have c2 : w.cell? ⟨pb, 2, none⟩ = some (.int .i64 (S : Int)) := cell_of_row w _ 2 _ _ _ hp
  have c3 : w.cell? ⟨pb, 3, none⟩ = some (.int .i64 (T : Int)) := cell_of_row w _ 3 _ _ _ hp
  have hP := fun w => sources_any K N S T b hT hb w
  generalize srcN K T b = q at *
  clear hp
  by_cases h1 : 1 ≤ x
  · have h1' : (1 : Int) ≤ (x : Int) := by omega
    by_cases h2 : x ≤ q
    · have h2' : (x : Int) ≤ (q : Int) := by omega
      go_enter Tryd.func92, Tryd.ntmps92
      go_wp2_with fail
      refine (hP _).mono ?_
      rintro e w1 ⟨rfl, hb1⟩
      go_wp2_with fail
      go_ret
      exact ⟨ret_bool (manyB_yes ⟨h1, h2⟩).symm, hb1⟩
    · have h2' : ¬ (x : Int) ≤ (q : Int) := by omega
      go_enter Tryd.func92, Tryd.ntmps92
      go_wp2_with fail
      refine (hP _).mono ?_
      rintro e w1 ⟨rfl, hb1⟩
      go_wp2_with fail
      go_ret
      exact ⟨ret_bool (manyB_no (by omega)).symm, hb1⟩
  · have h1' : ¬ (1 : Int) ≤ (x : Int) := by omega
    go_enter Tryd.func92, Tryd.ntmps92
    go_wp2_with fail
    go_ret
    exact ⟨ret_bool (manyB_no (by omega)).symm, Below.refl _ _⟩

theorem calls_enters_lblock (args : Array Value) (w : World) : (callFunc 91 args).run Tryd.prog w = .ok (.enter 91 args) w := enters_of Tryd.func91 (by kernel_rfl) rfl args w
theorem calls_enters_lmany (args : Array Value) (w : World) : (callFunc 92 args).run Tryd.prog w = .ok (.enter 92 args) w := enters_of Tryd.func92 (by kernel_rfl) rfl args w

set_option maxRecDepth 100000 in
set_option maxHeartbeats 4000000 in
theorem lack_any (A : Nat → Addr) (B0 : Nat) (b o n c rb K N S T k least : Nat) (m : List Gf.F) (w : World) (hE : Errs A B0 w) (hB0 : B0 ≤ rb) (hcfg : Cfg K N S) (hT : T ≤ 70000) (hR : Rdr w rb (.slice (some ⟨b, o, none⟩) n c) k) (hk : k ≤ n) (hm : m.length = n) (hn : n ≤ c) (hc : c ≤ 9223372036854775807) (hn2 : n ≤ 140737488355328) (hB : Bs w b o m) (hbr : b ≠ rb) (hbl : b < w.heap.size) :
    Calls Tryd.prog 80 #[.agg #[.int .i64 (K : Int), .int .i64 (N : Int), .int .i64 (S : Int), .int .i64 (T : Int)], .int .i64 (least : Int), .pointer (some ⟨rb, 0, none⟩)] w (LackGives A K T rb (.slice (some ⟨b, o, none⟩) n c) m k least w) := by
  have hmf : ∀ (fn : Fn) (first cap : Array Value) (w : World), (Instr.makeFunc fn first cap).run Tryd.prog w = .ok (.func fn first cap) w := fun _ _ _ _ => rfl
  have HK1 : Hid (1 ≤ K ∧ K ≤ 8) := ⟨hcfg.k1, hcfg.k8⟩
  clear hcfg
  have hst := LackSt.start (K := K) (N := N) (S := S) (T := T) (least := least) hR
  clear hR
  go_enter Tryd.func80, Tryd.ntmps80
  go_upto_region 1 with fail
  generalize (((w.alloc (.cells #[.int .i64 (K : Int), .int .i64 (N : Int), .int .i64 (S : Int), .int .i64 (T : Int)] 121)).alloc (.cells #[.int .i64 (least : Int)] 3)).alloc (.cells #[.int .i64 0, .int .i64 0] 110)) = W at *
  have hE0 := hst.errs hE hB0
  have s0 : W.cell? ⟨3, 0, none⟩ = some (.iface 164 (.pointer (some (A 3)))) := hE0.cell 3 (by omega)
  have g0 : W.cell? ⟨5, 0, none⟩ = some (.iface 164 (.pointer (some (A 5)))) := hE0.cell 5 (by omega)
  by_cases hq0 : n < k + 1
  · go_wp2_with fail
    refine (number_short (some ⟨b, o, none⟩) rb n c k 1 _ _ _ _ _ W hst.rdr hn2 (by omega) (by omega) (by omega) s0).mono ?_
    rintro e X1 ⟨v, rfl, ⟨pb, rfl, hpb, hblk⟩, hbX⟩
    have hsX := (hst.grow hbX).but.size
    have hlX := lt_of_block (hst.grow hbX).res
    have hstX := (hst.grow hbX).grow ((Below.refl X1.heap.size X1).alloc (Nat.le_refl _) (.cells #[.int .i64 0] 3))
    have hblk2 : (X1.alloc (.cells #[.int .i64 0] 3)).heap[pb]? = _ := (Below.heap_alloc X1 _ pb (lt_of_block hblk)).trans hblk
    go_upto_region 3 with fail
    generalize X1.alloc (.cells #[.int .i64 0] 3) = X2 at hstX hblk2 ⊢
    replace hblk := hblk2
    clear hblk2
    have d0 : X2.cell? ⟨w.heap.size + 2, 0, none⟩ = some (.int .i64 0) := cell_of_row X2 _ 0 _ _ _ hstX.res
    have d1 : X2.cell? ⟨w.heap.size + 2, 1, none⟩ = some (.int .i64 0) := cell_of_row X2 _ 1 _ _ _ hstX.res
    have f0 := frozen_of_row X2 _ 0 _ _ hstX.res
    have f1 := frozen_of_row X2 _ 1 _ _ hstX.res
    have hst9 := hstX.set 0 0
    have hblk9 : ((X2.setCell ⟨w.heap.size + 2, 0, none⟩ (.int .i64 0)).setCell ⟨w.heap.size + 2, 1, none⟩ (.int .i64 0)).heap[pb]? = _ := ((Below.heap_setCell _ ⟨w.heap.size + 2, 1, none⟩ (.int .i64 0) pb (by have := lt_of_block hst.res; show pb ≠ w.heap.size + 2; omega)).trans (Below.heap_setCell X2 ⟨w.heap.size + 2, 0, none⟩ (.int .i64 0) pb (by have := lt_of_block hst.res; show pb ≠ w.heap.size + 2; omega))).trans hblk
    go_wp2_with fail
    generalize (X2.setCell ⟨w.heap.size + 2, 0, none⟩ (.int .i64 0)).setCell ⟨w.heap.size + 2, 1, none⟩ (.int .i64 0) = W9 at hst9 hblk9 ⊢
    have c0 : W9.cell? ⟨w.heap.size + 2, 0, none⟩ = some (.int .i64 0) := cell_of_row W9 _ 0 _ _ _ hst9.res
    have c1 : W9.cell? ⟨w.heap.size + 2, 1, none⟩ = some (.int .i64 0) := cell_of_row W9 _ 1 _ _ _ hst9.res
    exact bodyPost_ret (v := .tuple #[.agg #[.int .i64 0, .int .i64 0], .iface 26 (.pointer (some ⟨pb, 0, none⟩))]) (by simp [results, Tryd.results80, go_sem, c0, c1]) rfl (LackGives.bad (c := 4) (p := n) (by simp [lackB, hm, hq0]) ⟨pb, rfl, by have := hst.but.size; omega, hblk9⟩ hst9.but)
  · have hB1 : Bs W b o m := fun i hi => by rw [World.cell?_of_block (hst.but.block b hbl hbr)]; exact hB i hi
    go_wp2_with fail
    refine (number_all rb b o n c k 1 m _ _ 91 #[] #[.pointer (some ⟨w.heap.size + 1, 0, none⟩), .pointer (some ⟨w.heap.size, 0, none⟩)] (blkB K T least (bt m k)) W calls_enters_lblock hst.rdr hm hn hc (by omega) (by omega) (by omega) hn2 hB1 hbr (fun V hV => by
      rw [numAt_one]
      have hl := hst.low
      exact lblock_any w.heap.size (w.heap.size + 1) K N S T least (bt m k) HK1.out.1 HK1.out.2 hT V (by rw [hV.block _ (lt_of_block hst.plan) (by omega)]; exact hst.plan) (cell_of_row V _ 0 _ _ _ (by rw [hV.block _ (lt_of_block hst.lst) (by omega)]; exact hst.lst)))).mono ?_
    rintro e W1 ⟨he, hr1, hb1⟩
    have hst1 := hst.next hb1 hr1
    clear s0 g0 hB1
    cases hk0 : blkB K T least (bt m k)
    · rw [hk0] at he
      simp only [Bool.false_eq_true, if_false] at he
      obtain ⟨v, rfl, ⟨pb, rfl, hpb, hblk⟩⟩ := he
      have hstX := hst1.grow ((Below.refl W1.heap.size W1).alloc (Nat.le_refl _) (.cells #[.int .i64 0] 3))
      have hblk2 : (W1.alloc (.cells #[.int .i64 0] 3)).heap[pb]? = _ := (Below.heap_alloc W1 _ pb (lt_of_block hblk)).trans hblk
      go_upto_region 3 with fail
      generalize W1.alloc (.cells #[.int .i64 0] 3) = X2 at hstX hblk2 ⊢
      replace hblk := hblk2
      clear hblk2
      have d0 : X2.cell? ⟨w.heap.size + 2, 0, none⟩ = some (.int .i64 0) := cell_of_row X2 _ 0 _ _ _ hstX.res
      have d1 : X2.cell? ⟨w.heap.size + 2, 1, none⟩ = some (.int .i64 0) := cell_of_row X2 _ 1 _ _ _ hstX.res
      have f0 := frozen_of_row X2 _ 0 _ _ hstX.res
      have f1 := frozen_of_row X2 _ 1 _ _ hstX.res
      have hst9 := hstX.set 0 0
      have hblk9 : ((X2.setCell ⟨w.heap.size + 2, 0, none⟩ (.int .i64 0)).setCell ⟨w.heap.size + 2, 1, none⟩ (.int .i64 0)).heap[pb]? = _ := ((Below.heap_setCell _ ⟨w.heap.size + 2, 1, none⟩ (.int .i64 0) pb (by have := lt_of_block hst.res; show pb ≠ w.heap.size + 2; omega)).trans (Below.heap_setCell X2 ⟨w.heap.size + 2, 0, none⟩ (.int .i64 0) pb (by have := lt_of_block hst.res; show pb ≠ w.heap.size + 2; omega))).trans hblk
      go_wp2_with fail
      generalize (X2.setCell ⟨w.heap.size + 2, 0, none⟩ (.int .i64 0)).setCell ⟨w.heap.size + 2, 1, none⟩ (.int .i64 0) = W9 at hst9 hblk9 ⊢
      have c0 : W9.cell? ⟨w.heap.size + 2, 0, none⟩ = some (.int .i64 0) := cell_of_row W9 _ 0 _ _ _ hst9.res
      have c1 : W9.cell? ⟨w.heap.size + 2, 1, none⟩ = some (.int .i64 0) := cell_of_row W9 _ 1 _ _ _ hst9.res
      exact bodyPost_ret (v := .tuple #[.agg #[.int .i64 0, .int .i64 0], .iface 26 (.pointer (some ⟨pb, 0, none⟩))]) (by simp [results, Tryd.results80, go_sem, c0, c1]) rfl (LackGives.bad (c := 6) (p := k) (by simp [lackB, hm, hq0, hk0]) ⟨pb, rfl, by have := hst.but.size; omega, hblk9⟩ hst9.but)
    · rw [hk0] at he
      simp only [if_true, numAt_one] at he
      subst he
      have hbK : bt m k * K < T := partsN_mul HK1.out.1 (by
        unfold blkB at hk0
        simp only [Bool.and_eq_true] at hk0
        have := winB_iff.1 hk0.2; omega)
      have hst2 := hst1.grow ((Below.refl W1.heap.size W1).alloc (Nat.le_refl _) (.cells #[.int .i64 (bt m k : Int)] 3))
      have hbv : (W1.alloc (.cells #[.int .i64 (bt m k : Int)] 3)).heap[W1.heap.size]? = some (.cells #[.int .i64 (bt m k : Int)] 3 (0, 0)) := heap_alloc_new W1 _
      have hW1r : rb < W1.heap.size := hst1.rdr.lt
      have hW1s : w.heap.size + 2 < W1.heap.size := lt_of_block hst1.res
      go_upto_region 4 with fail
      generalize W1.alloc (.cells #[.int .i64 (bt m k : Int)] 3) = W2 at hst2 hbv ⊢
      generalize hbb : W1.heap.size = bb at hbv hW1r hW1s ⊢
      clear hst1 hst hb1 hr1 hbb
      have hE2 := hst2.errs hE hB0
      have s2 : W2.cell? ⟨3, 0, none⟩ = some (.iface 164 (.pointer (some (A 3)))) := hE2.cell 3 (by omega)
      have g2 : W2.cell? ⟨5, 0, none⟩ = some (.iface 164 (.pointer (some (A 5)))) := hE2.cell 5 (by omega)
      by_cases hq1 : n < k + 2
      · go_wp2_with fail
        refine (number_short (some ⟨b, o, none⟩) rb n c (k + 1) 1 _ _ _ _ _ W2 hst2.rdr hn2 (by omega) (by omega) (by omega) s2).mono ?_
        rintro e X1 ⟨v, rfl, ⟨pb, rfl, hpb, hblk⟩, hbX⟩
        have hstX := hst2.grow hbX
        have d0 : X1.cell? ⟨w.heap.size + 2, 0, none⟩ = some (.int .i64 0) := cell_of_row X1 _ 0 _ _ _ hstX.res
        have d1 : X1.cell? ⟨w.heap.size + 2, 1, none⟩ = some (.int .i64 0) := cell_of_row X1 _ 1 _ _ _ hstX.res
        have f0 := frozen_of_row X1 _ 0 _ _ hstX.res
        have f1 := frozen_of_row X1 _ 1 _ _ hstX.res
        have hst9 := hstX.set 0 0
        have hblk9 : ((X1.setCell ⟨w.heap.size + 2, 0, none⟩ (.int .i64 0)).setCell ⟨w.heap.size + 2, 1, none⟩ (.int .i64 0)).heap[pb]? = _ := ((Below.heap_setCell _ ⟨w.heap.size + 2, 1, none⟩ (.int .i64 0) pb (by have := lt_of_block hst2.res; show pb ≠ w.heap.size + 2; omega)).trans (Below.heap_setCell X1 ⟨w.heap.size + 2, 0, none⟩ (.int .i64 0) pb (by have := lt_of_block hst2.res; show pb ≠ w.heap.size + 2; omega))).trans hblk
        go_wp2_with fail
        generalize (X1.setCell ⟨w.heap.size + 2, 0, none⟩ (.int .i64 0)).setCell ⟨w.heap.size + 2, 1, none⟩ (.int .i64 0) = W9 at hst9 hblk9 ⊢
        have c0 : W9.cell? ⟨w.heap.size + 2, 0, none⟩ = some (.int .i64 0) := cell_of_row W9 _ 0 _ _ _ hst9.res
        have c1 : W9.cell? ⟨w.heap.size + 2, 1, none⟩ = some (.int .i64 0) := cell_of_row W9 _ 1 _ _ _ hst9.res
        exact bodyPost_ret (v := .tuple #[.agg #[.int .i64 0, .int .i64 0], .iface 26 (.pointer (some ⟨pb, 0, none⟩))]) (by simp [results, Tryd.results80, go_sem, c0, c1]) rfl (LackGives.bad (c := 4) (p := n) (by simp [lackB, hm, hq0, hk0, hq1]) ⟨pb, rfl, by have := hst2.but.size; omega, hblk9⟩ hst9.but)
      · have hB2 : Bs W2 b o m := fun i hi => by rw [World.cell?_of_block (hst2.but.block b hbl hbr)]; exact hB i hi
        go_wp2_with fail
        refine (number_all rb b o n c (k + 1) 1 m _ _ 92 #[] #[.pointer (some ⟨w.heap.size, 0, none⟩), .pointer (some ⟨bb, 0, none⟩)] (manyB (srcN K T (bt m k)) (bt m (k + 1))) W2 calls_enters_lmany hst2.rdr hm hn hc (by omega) (by omega) (by omega) hn2 hB2 hbr (fun V hV => by
          rw [numAt_one]
          have hl := hst2.low
          exact lmany_any w.heap.size bb K N S T (bt m k) (bt m (k + 1)) hT hbK V (by rw [hV.block _ (lt_of_block hst2.plan) (by omega)]; exact hst2.plan) (cell_of_row V _ 0 _ _ _ (by rw [hV.block _ (lt_of_block hbv) (by omega)]; exact hbv)))).mono ?_
        rintro e W3 ⟨he, hr3, hb3⟩
        have hst3 := hst2.next hb3 hr3
        have hbv3 : W3.heap[bb]? = some (.cells #[.int .i64 (bt m k : Int)] 3 (0, 0)) := by rw [hb3.block _ (lt_of_block hbv) (by omega)]; exact hbv
        clear s2 g2 hB2 hE2
        cases hk1 : manyB (srcN K T (bt m k)) (bt m (k + 1))
        · rw [hk1] at he
          simp only [Bool.false_eq_true, if_false] at he
          obtain ⟨v, rfl, ⟨pb, rfl, hpb, hblk⟩⟩ := he
          have d0 : W3.cell? ⟨w.heap.size + 2, 0, none⟩ = some (.int .i64 0) := cell_of_row W3 _ 0 _ _ _ hst3.res
          have d1 : W3.cell? ⟨w.heap.size + 2, 1, none⟩ = some (.int .i64 0) := cell_of_row W3 _ 1 _ _ _ hst3.res
          have f0 := frozen_of_row W3 _ 0 _ _ hst3.res
          have f1 := frozen_of_row W3 _ 1 _ _ hst3.res
          have hst9 := hst3.set 0 0
          have hblk9 : ((W3.setCell ⟨w.heap.size + 2, 0, none⟩ (.int .i64 0)).setCell ⟨w.heap.size + 2, 1, none⟩ (.int .i64 0)).heap[pb]? = _ := ((Below.heap_setCell _ ⟨w.heap.size + 2, 1, none⟩ (.int .i64 0) pb (by have := lt_of_block hst2.res; show pb ≠ w.heap.size + 2; omega)).trans (Below.heap_setCell W3 ⟨w.heap.size + 2, 0, none⟩ (.int .i64 0) pb (by have := lt_of_block hst2.res; show pb ≠ w.heap.size + 2; omega))).trans hblk
          go_wp2_with fail
          generalize (W3.setCell ⟨w.heap.size + 2, 0, none⟩ (.int .i64 0)).setCell ⟨w.heap.size + 2, 1, none⟩ (.int .i64 0) = W9 at hst9 hblk9 ⊢
          have c0 : W9.cell? ⟨w.heap.size + 2, 0, none⟩ = some (.int .i64 0) := cell_of_row W9 _ 0 _ _ _ hst9.res
          have c1 : W9.cell? ⟨w.heap.size + 2, 1, none⟩ = some (.int .i64 0) := cell_of_row W9 _ 1 _ _ _ hst9.res
          exact bodyPost_ret (v := .tuple #[.agg #[.int .i64 0, .int .i64 0], .iface 26 (.pointer (some ⟨pb, 0, none⟩))]) (by simp [results, Tryd.results80, go_sem, c0, c1]) rfl (LackGives.bad (c := 6) (p := k + 1) (by simp [lackB, hm, hq0, hk0, hq1, hk1]) ⟨pb, rfl, by have := hst2.but.size; omega, hblk9⟩ hst9.but)
        · rw [hk1] at he
          simp only [if_true, numAt_one] at he
          subst he
          clear hst2 hb3 hr3
          have cb : W3.cell? ⟨bb, 0, none⟩ = some (.int .i64 (bt m k : Int)) := cell_of_row W3 _ 0 _ _ _ hbv3
          have d0 : W3.cell? ⟨w.heap.size + 2, 0, none⟩ = some (.int .i64 0) := cell_of_row W3 _ 0 _ _ _ hst3.res
          have d1 : W3.cell? ⟨w.heap.size + 2, 1, none⟩ = some (.int .i64 0) := cell_of_row W3 _ 1 _ _ _ hst3.res
          have f0 := frozen_of_row W3 _ 0 _ _ hst3.res
          have f1 := frozen_of_row W3 _ 1 _ _ hst3.res
          have hst9 := hst3.set (bt m k : Int) (bt m (k + 1) : Int)
          go_wp2_with fail
          generalize (W3.setCell ⟨w.heap.size + 2, 0, none⟩ (.int .i64 (bt m k : Int))).setCell ⟨w.heap.size + 2, 1, none⟩ (.int .i64 (bt m (k + 1) : Int)) = W9 at hst9 ⊢
          have c0 : W9.cell? ⟨w.heap.size + 2, 0, none⟩ = some (.int .i64 (bt m k : Int)) := cell_of_row W9 _ 0 _ _ _ hst9.res
          have c1 : W9.cell? ⟨w.heap.size + 2, 1, none⟩ = some (.int .i64 (bt m (k + 1) : Int)) := cell_of_row W9 _ 1 _ _ _ hst9.res
          exact bodyPost_ret (v := .tuple #[.agg #[.int .i64 (bt m k : Int), .int .i64 (bt m (k + 1) : Int)], .nilIface]) (by simp [results, Tryd.results80, go_sem, c0, c1]) rfl ⟨by
            rw [show lackB K T m k least = none by simp [lackB, hm, hq0, hk0, hq1, hk1]]
            exact ⟨rfl, hst9.rdr⟩, hst9.but⟩

end Go.Proofs.YtjabhnhejbhgjaaDoor
