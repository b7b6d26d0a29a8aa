/- Package wire: parseHead. -/
import Derived.Test.YtjabhnhejbhgjaaGreatDoorReaderWalk
import Derived.Shelf.Abstract
namespace Go.Proofs.YtjabhnhejbhgjaaGreatDoor
open Go.RowKit

def bt (l : List Gf.F) (i : Nat) : Nat := (at_ l i).toNat
theorem bt_lt (l : List Gf.F) (i : Nat) : bt l i < 256 := (at_ l i).isLt
theorem numAt_one (l : List Gf.F) (k : Nat) : numAt l k 1 = bt l k := by simp [numAt, bt]
theorem numAt_two (l : List Gf.F) (k : Nat) : numAt l k 2 = bt l k * 256 + bt l (k + 1) := by simp [numAt, bt]

def kindB (x : Nat) : Bool := decide (x = 1 ∨ x = 2)
def objB (x : Nat) : Bool := decide (x < 16)
def lenB (x : Nat) : Bool := decide (x ≤ 255)

/-- What is wrong with a packet's head: the error's number, and the place. -/
def headE (l : List Gf.F) : Option (Nat × Nat) :=
  if l.length < 1 then some (4, l.length) else if kindB (bt l 0) = false then some (5, 0) else if l.length < 2 then some (4, l.length) else if objB (bt l 1) = false then some (6, 1)
  else if l.length < 4 then some (4, l.length) else if lenB (bt l 2 * 256 + bt l 3) = false then some (6, 2) else none

set_option maxHeartbeats 400000 in
theorem kind_any (x : Nat) (w : World) : Calls Tryz.prog 105 #[.int .i64 (x : Int)] w fun e w' => e = .returned (.bool (kindB x)) ∧ w' = w := by
  by_cases h1 : x = 1
  · subst h1
    go_enter Tryz.func105, Tryz.ntmps105
    go_wp2
    go_ret
    exact ⟨rfl, rfl⟩
  · have h1' : ((x : Int) == 1) = false := by simp; omega
    have HK : Hid (kindB x = decide (x = 2)) := by show _ = _; unfold kindB; congr 1; apply propext; omega
    by_cases h2 : x = 2
    · subst h2
      go_enter Tryz.func105, Tryz.ntmps105
      go_wp2
      go_ret
      exact ⟨rfl, rfl⟩
    · have h2' : ((x : Int) == 2) = false := by simp; omega
      go_enter Tryz.func105, Tryz.ntmps105
      go_wp2
      go_ret
      exact ⟨ret_bool (by rw [HK.out, decide_eq_false h2]), rfl⟩

set_option maxHeartbeats 400000 in
theorem obj_any (x : Nat) (w : World) : Calls Tryz.prog 106 #[.int .i64 (x : Int)] w fun e w' => e = .returned (.bool (objB x)) ∧ w' = w := by
  have HK : Hid (objB x = decide ((x : Int) < 16)) := by show _ = _; unfold objB; congr 1; apply propext; omega
  go_enter Tryz.func106, Tryz.ntmps106
  go_wp2
  go_ret
  exact ⟨ret_bool HK.out.symm, rfl⟩

set_option maxHeartbeats 400000 in
theorem len_any (x : Nat) (w : World) : Calls Tryz.prog 107 #[.int .i64 (x : Int)] w fun e w' => e = .returned (.bool (lenB x)) ∧ w' = w := by
  have HK : Hid (lenB x = decide ((x : Int) ≤ 255)) := by show _ = _; unfold lenB; congr 1; apply propext; omega
  go_enter Tryz.func107, Tryz.ntmps107
  go_wp2
  go_ret
  exact ⟨ret_bool HK.out.symm, rfl⟩

theorem calls_enters_kind (args : Array Value) (w : World) : (callFunc 105 args).run Tryz.prog w = .ok (.enter 105 args) w := enters_of Tryz.func105 (by kernel_rfl) rfl args w
theorem calls_enters_obj (args : Array Value) (w : World) : (callFunc 106 args).run Tryz.prog w = .ok (.enter 106 args) w := enters_of Tryz.func106 (by kernel_rfl) rfl args w
theorem calls_enters_len (args : Array Value) (w : World) : (callFunc 107 args).run Tryz.prog w = .ok (.enter 107 args) w := enters_of Tryz.func107 (by kernel_rfl) rfl args w

/-- A call in the middle of parseHead: the result's block, the reader's. -/
structure HeadSt (w W : World) (v : Value) (k : Nat) : Prop where
  low : Below w.heap.size w W
  res : W.heap[w.heap.size]? = some (.cells #[.int .i64 0, .int .i64 0, .int .i64 0, .int .i64 0, .int .i64 0, .slice none 0 0, .slice none 0 0] 60 (0, 0))
  rdr : Rdr W (w.heap.size + 1) v k

theorem HeadSt.but {w W W' : World} {v : Value} {k k' : Nat} (h : HeadSt w W v k) (hb : But (fun g => g = w.heap.size + 1) W W') (hr : Rdr W' (w.heap.size + 1) v k') : HeadSt w W' v k' :=
  ⟨h.low.trans (hb.toBelow (by have := h.low.size; omega) (fun k hk q => by omega)), by rw [hb.block _ (by have := h.rdr.lt; omega) (by omega)]; exact h.res, hr⟩
theorem HeadSt.start (w : World) (v : Value) : HeadSt w ((w.alloc (.cells #[.int .i64 0, .int .i64 0, .int .i64 0, .int .i64 0, .int .i64 0, .slice none 0 0, .slice none 0 0] 60)).alloc (.cells #[v, .int .i64 0] 160)) v 0 := by
  refine ⟨((Below.refl _ _).alloc (Nat.le_refl _) _).alloc (by simp) _, ?_, ?_⟩
  · rw [Below.heap_alloc _ _ _ (by simp)]; exact heap_alloc_new w _
  · have := heap_alloc_new (w.alloc (.cells #[.int .i64 0, .int .i64 0, .int .i64 0, .int .i64 0, .int .i64 0, .slice none 0 0, .slice none 0 0] 60)) (.cells #[v, .int .i64 0] 160)
    rw [World.size_alloc] at this
    exact this

/-- What parseHead gives. -/
def HeadGives (A : Nat → Addr) (l : List Gf.F) (w : World) (e : Ending) (w' : World) : Prop :=
  match headE l with
  | some (c, k) => ∃ v, e = .returned (.tuple #[.agg #[.int .i64 0, .int .i64 0, .int .i64 0, .int .i64 0, .int .i64 0, .slice none 0 0, .slice none 0 0], v]) ∧ Wr w w' v (k : Int) (E A c) ∧ Below w.heap.size w w'
  | none => e = .returned (.tuple #[.agg #[.int .i64 (bt l 0 : Int), .int .i64 (bt l 1 : Int), .int .i64 ((bt l 2 * 256 + bt l 3 : Nat) : Int), .int .i64 0, .int .i64 0, .slice none 0 0, .slice none 0 0], .nilIface]) ∧ Below w.heap.size w w'

theorem HeadGives.bad {A : Nat → Addr} {l : List Gf.F} {w w' : World} {v : Value} {c k : Nat} (h : headE l = some (c, k)) (hw : Wr w w' v (k : Int) (E A c)) (hb : Below w.heap.size w w') :
    HeadGives A l w (.returned (.tuple #[.agg #[.int .i64 0, .int .i64 0, .int .i64 0, .int .i64 0, .int .i64 0, .slice none 0 0, .slice none 0 0], v])) w' := by
  unfold HeadGives
  rw [h]
  exact ⟨v, rfl, hw, hb⟩

/-- The cells of the result's block. -/
theorem HeadSt.cells {w W : World} {v : Value} {k : Nat} (h : HeadSt w W v k) :
    W.cell? ⟨w.heap.size, 0, none⟩ = some (.int .i64 0) ∧ W.cell? ⟨w.heap.size, 1, none⟩ = some (.int .i64 0) ∧ W.cell? ⟨w.heap.size, 2, none⟩ = some (.int .i64 0) ∧ W.cell? ⟨w.heap.size, 3, none⟩ = some (.int .i64 0) ∧ W.cell? ⟨w.heap.size, 4, none⟩ = some (.int .i64 0) ∧ W.cell? ⟨w.heap.size, 5, none⟩ = some (.slice none 0 0) ∧ W.cell? ⟨w.heap.size, 6, none⟩ = some (.slice none 0 0) :=
  ⟨cell_of_row W _ 0 _ _ _ h.res, cell_of_row W _ 1 _ _ _ h.res, cell_of_row W _ 2 _ _ _ h.res, cell_of_row W _ 3 _ _ _ h.res, cell_of_row W _ 4 _ _ _ h.res, cell_of_row W _ 5 _ _ _ h.res, cell_of_row W _ 6 _ _ _ h.res⟩
theorem HeadSt.frozen {w W : World} {v : Value} {k : Nat} (h : HeadSt w W v k) (i : Nat) : W.frozen? ⟨w.heap.size, i, none⟩ = false := frozen_of_row W _ i _ _ h.res

/-- A packet put into its block. -/
theorem put7 (W : World) (rb : Nat) (x0 x1 x2 x3 x4 x5 x6 v0 v1 v2 v3 v4 v5 v6 : Value) (h : W.heap[rb]? = some (.cells #[x0, x1, x2, x3, x4, x5, x6] 60 (0, 0))) :
    (((((((W.setCell ⟨rb, 0, none⟩ v0).setCell ⟨rb, 1, none⟩ v1).setCell ⟨rb, 2, none⟩ v2).setCell ⟨rb, 3, none⟩ v3).setCell ⟨rb, 4, none⟩ v4).setCell ⟨rb, 5, none⟩ v5).setCell ⟨rb, 6, none⟩ v6).heap[rb]? = some (.cells #[v0, v1, v2, v3, v4, v5, v6] 60 (0, 0)) ∧
    But (fun g => g = rb) W (((((((W.setCell ⟨rb, 0, none⟩ v0).setCell ⟨rb, 1, none⟩ v1).setCell ⟨rb, 2, none⟩ v2).setCell ⟨rb, 3, none⟩ v3).setCell ⟨rb, 4, none⟩ v4).setCell ⟨rb, 5, none⟩ v5).setCell ⟨rb, 6, none⟩ v6) := by
  refine ⟨?_, ?_⟩
  · have h0 : (W.setCell ⟨rb, 0, none⟩ v0).heap[rb]? = some (.cells #[v0, x1, x2, x3, x4, x5, x6] 60 (0, 0)) := heap_setCell_same _ rb 0 _ _ v0 h
    have h1 : ((W.setCell ⟨rb, 0, none⟩ v0).setCell ⟨rb, 1, none⟩ v1).heap[rb]? = some (.cells #[v0, v1, x2, x3, x4, x5, x6] 60 (0, 0)) := heap_setCell_same _ rb 1 _ _ v1 h0
    have h2 : (((W.setCell ⟨rb, 0, none⟩ v0).setCell ⟨rb, 1, none⟩ v1).setCell ⟨rb, 2, none⟩ v2).heap[rb]? = some (.cells #[v0, v1, v2, x3, x4, x5, x6] 60 (0, 0)) := heap_setCell_same _ rb 2 _ _ v2 h1
    have h3 : ((((W.setCell ⟨rb, 0, none⟩ v0).setCell ⟨rb, 1, none⟩ v1).setCell ⟨rb, 2, none⟩ v2).setCell ⟨rb, 3, none⟩ v3).heap[rb]? = some (.cells #[v0, v1, v2, v3, x4, x5, x6] 60 (0, 0)) := heap_setCell_same _ rb 3 _ _ v3 h2
    have h4 : (((((W.setCell ⟨rb, 0, none⟩ v0).setCell ⟨rb, 1, none⟩ v1).setCell ⟨rb, 2, none⟩ v2).setCell ⟨rb, 3, none⟩ v3).setCell ⟨rb, 4, none⟩ v4).heap[rb]? = some (.cells #[v0, v1, v2, v3, v4, x5, x6] 60 (0, 0)) := heap_setCell_same _ rb 4 _ _ v4 h3
    have h5 : ((((((W.setCell ⟨rb, 0, none⟩ v0).setCell ⟨rb, 1, none⟩ v1).setCell ⟨rb, 2, none⟩ v2).setCell ⟨rb, 3, none⟩ v3).setCell ⟨rb, 4, none⟩ v4).setCell ⟨rb, 5, none⟩ v5).heap[rb]? = some (.cells #[v0, v1, v2, v3, v4, v5, x6] 60 (0, 0)) := heap_setCell_same _ rb 5 _ _ v5 h4
    have h6 : (((((((W.setCell ⟨rb, 0, none⟩ v0).setCell ⟨rb, 1, none⟩ v1).setCell ⟨rb, 2, none⟩ v2).setCell ⟨rb, 3, none⟩ v3).setCell ⟨rb, 4, none⟩ v4).setCell ⟨rb, 5, none⟩ v5).setCell ⟨rb, 6, none⟩ v6).heap[rb]? = some (.cells #[v0, v1, v2, v3, v4, v5, v6] 60 (0, 0)) := heap_setCell_same _ rb 6 _ _ v6 h5
    exact h6
  · have b0 := But.setCell (S := fun g => g = rb) (But.refl _ W) (p := ⟨rb, 0, none⟩) (.inl rfl) v0
    have b1 := But.setCell b0 (p := ⟨rb, 1, none⟩) (.inl rfl) v1
    have b2 := But.setCell b1 (p := ⟨rb, 2, none⟩) (.inl rfl) v2
    have b3 := But.setCell b2 (p := ⟨rb, 3, none⟩) (.inl rfl) v3
    have b4 := But.setCell b3 (p := ⟨rb, 4, none⟩) (.inl rfl) v4
    have b5 := But.setCell b4 (p := ⟨rb, 5, none⟩) (.inl rfl) v5
    exact But.setCell b5 (p := ⟨rb, 6, none⟩) (.inl rfl) v6
theorem row7 {W : World} {rb : Nat} {t : TypeId} {v0 v1 v2 v3 v4 v5 v6 : Value} (h : W.heap[rb]? = some (.cells #[v0, v1, v2, v3, v4, v5, v6] t (0, 0))) :
    W.cell? ⟨rb, 0, none⟩ = some v0 ∧ W.cell? ⟨rb, 1, none⟩ = some v1 ∧ W.cell? ⟨rb, 2, none⟩ = some v2 ∧ W.cell? ⟨rb, 3, none⟩ = some v3 ∧ W.cell? ⟨rb, 4, none⟩ = some v4 ∧ W.cell? ⟨rb, 5, none⟩ = some v5 ∧ W.cell? ⟨rb, 6, none⟩ = some v6 :=
  ⟨cell_of_row W _ 0 _ _ _ h, cell_of_row W _ 1 _ _ _ h, cell_of_row W _ 2 _ _ _ h, cell_of_row W _ 3 _ _ _ h, cell_of_row W _ 4 _ _ _ h, cell_of_row W _ 5 _ _ _ h, cell_of_row W _ 6 _ _ _ h⟩
theorem lt_of_block {W : World} {b : Nat} {o : Obj} (h : W.heap[b]? = some o) : b < W.heap.size := (Array.getElem?_eq_some_iff.1 h).1

set_option maxRecDepth 100000 in
set_option maxHeartbeats 4000000 in
theorem head_any (A : Nat → Addr) (B0 : Nat) (a : Option Addr) (b o n c : Nat) (l : List Gf.F) (w : World) (hE : Errs A B0 w) (hl : l.length = n) (hn : n ≤ c) (hc : c ≤ 9223372036854775807) (hn2 : n ≤ 140737488355328) (ha : 0 < n → a = some ⟨b, o, none⟩) (hB : Bs w b o l) (hb : 0 < n → b < w.heap.size) :
    Calls Tryz.prog 65 #[.slice a n c] w (HeadGives A l w) := by
  have hst := HeadSt.start w (.slice a n c)
  go_enter Tryz.func65, Tryz.ntmps65
  go_upto_region 2 with fail
  generalize ((w.alloc (.cells #[.int .i64 0, .int .i64 0, .int .i64 0, .int .i64 0, .int .i64 0, .slice none 0 0, .slice none 0 0] 60)).alloc (.cells #[.slice a n c, .int .i64 0] 160)) = W at *
  have hE0 : Errs A B0 W := hE.below (hst.low.mono hE.size)
  have s0 : W.cell? ⟨6, 0, none⟩ = some (.iface 269 (.pointer (some (A 3)))) := hE0.cell 3 (by omega)
  have g4 : W.cell? ⟨3, 0, none⟩ = some (.iface 269 (.pointer (some (A 4)))) := hE0.cell 4 (by omega)
  by_cases hq0 : n < 1
  · go_wp2_with fail
    refine (number_short a (w.heap.size + 1) n c 0 1 _ _ _ _ _ W hst.rdr hn2 (by omega) (by omega) (by omega) s0).mono ?_
    rintro e X1 ⟨v, rfl, ⟨pb, rfl, hpb, hblk⟩, hbX⟩
    have hstX := hst.but (Below.but hbX _ (fun i hi h => absurd hi h)) (hst.rdr.kept (hbX.block _ hst.rdr.lt))
    obtain ⟨c0, c1, c2, c3, c4, c5, c6⟩ := hstX.cells
    have f0 := hstX.frozen 0
    have f1 := hstX.frozen 1
    have f2 := hstX.frozen 2
    have f3 := hstX.frozen 3
    have f4 := hstX.frozen 4
    have f5 := hstX.frozen 5
    have f6 := hstX.frozen 6
    have hp := put7 X1 w.heap.size (.int .i64 0) (.int .i64 0) (.int .i64 0) (.int .i64 0) (.int .i64 0) (.slice none 0 0) (.slice none 0 0) (.int .i64 0) (.int .i64 0) (.int .i64 0) (.int .i64 0) (.int .i64 0) (.slice none 0 0) (.slice none 0 0) hstX.res
    go_wp2_with fail
    generalize (((((((X1.setCell ⟨w.heap.size, 0, none⟩ (.int .i64 0)).setCell ⟨w.heap.size, 1, none⟩ (.int .i64 0)).setCell ⟨w.heap.size, 2, none⟩ (.int .i64 0)).setCell ⟨w.heap.size, 3, none⟩ (.int .i64 0)).setCell ⟨w.heap.size, 4, none⟩ (.int .i64 0)).setCell ⟨w.heap.size, 5, none⟩ (.slice none 0 0)).setCell ⟨w.heap.size, 6, none⟩ (.slice none 0 0)) = W9 at hp ⊢
    obtain ⟨hp1, hp2⟩ := hp
    obtain ⟨d0, d1, d2, d3, d4, d5, d6⟩ := row7 hp1
    clear c0 c1 c2 c3 c4 c5 c6 f0 f1 f2 f3 f4 f5 f6
    exact bodyPost_ret (v := .tuple #[.agg #[.int .i64 0, .int .i64 0, .int .i64 0, .int .i64 0, .int .i64 0, .slice none 0 0, .slice none 0 0], .iface 166 (.pointer (some ⟨pb, 0, none⟩))]) (by simp [results, Tryz.results65, go_sem, d0, d1, d2, d3, d4, d5, d6]) rfl (HeadGives.bad (c := 4) (k := n) (by simp [headE, hl, hq0]) ⟨pb, rfl, by have := hst.low.size; omega, by rw [hp2.block pb (lt_of_block hblk) (by have := hst.rdr.lt; omega)]; exact hblk⟩ (hstX.low.trans (hp2.toBelow (by have := hstX.low.size; omega) (fun k hk q => by omega))))
  · obtain rfl := ha (by omega)
    have hbl := hb (by omega)
    have hB0 : Bs W b o l := fun i hi => by rw [hst.low.cell (p := ⟨b, o + i, none⟩) hbl]; exact hB i hi
    go_wp2_with fail
    refine (number_all (w.heap.size + 1) b o n c 0 1 l _ _ 105 #[] #[] (kindB (bt l 0)) W calls_enters_kind hst.rdr hl hn hc (by omega) (by omega) (by omega) hn2 hB0 (by omega) (fun V _ => by
      rw [numAt_one]
      refine (kind_any (bt l 0) V).mono ?_
      rintro e V2 ⟨rfl, rfl⟩
      exact ⟨rfl, Below.refl _ _⟩)).mono ?_
    rintro e W1 ⟨he, hr1, hb1⟩
    have hst1 := hst.but hb1 hr1
    have hE1 : Errs A B0 W1 := hE.below (hst1.low.mono hE.size)
    cases hk0 : kindB (bt l 0)
    · rw [hk0] at he
      simp only [Bool.false_eq_true, if_false] at he
      obtain ⟨v, rfl, ⟨pb, rfl, hpb, hblk⟩⟩ := he
      obtain ⟨c0, c1, c2, c3, c4, c5, c6⟩ := hst1.cells
      have f0 := hst1.frozen 0
      have f1 := hst1.frozen 1
      have f2 := hst1.frozen 2
      have f3 := hst1.frozen 3
      have f4 := hst1.frozen 4
      have f5 := hst1.frozen 5
      have f6 := hst1.frozen 6
      have hp := put7 W1 w.heap.size (.int .i64 0) (.int .i64 0) (.int .i64 0) (.int .i64 0) (.int .i64 0) (.slice none 0 0) (.slice none 0 0) (.int .i64 0) (.int .i64 0) (.int .i64 0) (.int .i64 0) (.int .i64 0) (.slice none 0 0) (.slice none 0 0) hst1.res
      go_wp2_with fail
      generalize (((((((W1.setCell ⟨w.heap.size, 0, none⟩ (.int .i64 0)).setCell ⟨w.heap.size, 1, none⟩ (.int .i64 0)).setCell ⟨w.heap.size, 2, none⟩ (.int .i64 0)).setCell ⟨w.heap.size, 3, none⟩ (.int .i64 0)).setCell ⟨w.heap.size, 4, none⟩ (.int .i64 0)).setCell ⟨w.heap.size, 5, none⟩ (.slice none 0 0)).setCell ⟨w.heap.size, 6, none⟩ (.slice none 0 0)) = W9 at hp ⊢
      obtain ⟨hp1, hp2⟩ := hp
      obtain ⟨d0, d1, d2, d3, d4, d5, d6⟩ := row7 hp1
      clear c0 c1 c2 c3 c4 c5 c6 f0 f1 f2 f3 f4 f5 f6
      exact bodyPost_ret (v := .tuple #[.agg #[.int .i64 0, .int .i64 0, .int .i64 0, .int .i64 0, .int .i64 0, .slice none 0 0, .slice none 0 0], .iface 166 (.pointer (some ⟨pb, 0, none⟩))]) (by simp [results, Tryz.results65, go_sem, d0, d1, d2, d3, d4, d5, d6]) rfl (HeadGives.bad (c := 5) (k := 0) (by simp [headE, hl, hq0, hk0]) ⟨pb, rfl, by have := hst.low.size; omega, by rw [hp2.block pb (lt_of_block hblk) (by have := hst.rdr.lt; omega)]; exact hblk⟩ (hst1.low.trans (hp2.toBelow (by have := hst1.low.size; omega) (fun k hk q => by omega))))
    · rw [hk0] at he
      simp only [if_true, numAt_one] at he
      subst he
      by_cases hq1 : n < 2
      · have s1 : W1.cell? ⟨6, 0, none⟩ = some (.iface 269 (.pointer (some (A 3)))) := hE1.cell 3 (by omega)
        have g1w : W1.cell? ⟨2, 0, none⟩ = some (.iface 269 (.pointer (some (A 5)))) := hE1.cell 5 (by omega)
        go_wp2_with fail
        refine (number_short (some ⟨b, o, none⟩) (w.heap.size + 1) n c 1 1 _ _ _ _ _ W1 hst1.rdr hn2 (by omega) (by omega) (by omega) s1).mono ?_
        rintro e X1 ⟨v, rfl, ⟨pb, rfl, hpb, hblk⟩, hbX⟩
        have hstX := hst1.but (Below.but hbX _ (fun i hi h => absurd hi h)) (hst1.rdr.kept (hbX.block _ hst1.rdr.lt))
        obtain ⟨c0, c1, c2, c3, c4, c5, c6⟩ := hstX.cells
        have f0 := hstX.frozen 0
        have f1 := hstX.frozen 1
        have f2 := hstX.frozen 2
        have f3 := hstX.frozen 3
        have f4 := hstX.frozen 4
        have f5 := hstX.frozen 5
        have f6 := hstX.frozen 6
        have hp := put7 X1 w.heap.size (.int .i64 0) (.int .i64 0) (.int .i64 0) (.int .i64 0) (.int .i64 0) (.slice none 0 0) (.slice none 0 0) (.int .i64 0) (.int .i64 0) (.int .i64 0) (.int .i64 0) (.int .i64 0) (.slice none 0 0) (.slice none 0 0) hstX.res
        go_wp2_with fail
        generalize (((((((X1.setCell ⟨w.heap.size, 0, none⟩ (.int .i64 0)).setCell ⟨w.heap.size, 1, none⟩ (.int .i64 0)).setCell ⟨w.heap.size, 2, none⟩ (.int .i64 0)).setCell ⟨w.heap.size, 3, none⟩ (.int .i64 0)).setCell ⟨w.heap.size, 4, none⟩ (.int .i64 0)).setCell ⟨w.heap.size, 5, none⟩ (.slice none 0 0)).setCell ⟨w.heap.size, 6, none⟩ (.slice none 0 0)) = W9 at hp ⊢
        obtain ⟨hp1, hp2⟩ := hp
        obtain ⟨d0, d1, d2, d3, d4, d5, d6⟩ := row7 hp1
        clear c0 c1 c2 c3 c4 c5 c6 f0 f1 f2 f3 f4 f5 f6
        exact bodyPost_ret (v := .tuple #[.agg #[.int .i64 0, .int .i64 0, .int .i64 0, .int .i64 0, .int .i64 0, .slice none 0 0, .slice none 0 0], .iface 166 (.pointer (some ⟨pb, 0, none⟩))]) (by simp [results, Tryz.results65, go_sem, d0, d1, d2, d3, d4, d5, d6]) rfl (HeadGives.bad (c := 4) (k := n) (by simp [headE, hl, hq0, hk0, hq1]) ⟨pb, rfl, by have := hst1.low.size; omega, by rw [hp2.block pb (lt_of_block hblk) (by have := hst1.rdr.lt; omega)]; exact hblk⟩ (hstX.low.trans (hp2.toBelow (by have := hstX.low.size; omega) (fun k hk q => by omega))))
      · have hB1 : Bs W1 b o l := fun i hi => by rw [hst1.low.cell (p := ⟨b, o + i, none⟩) hbl]; exact hB i hi
        have g1w : W1.cell? ⟨2, 0, none⟩ = some (.iface 269 (.pointer (some (A 5)))) := hE1.cell 5 (by omega)
        go_wp2_with fail
        refine (number_all (w.heap.size + 1) b o n c 1 1 l _ _ 106 #[] #[] (objB (bt l 1)) W1 calls_enters_obj hst1.rdr hl hn hc (by omega) (by omega) (by omega) hn2 hB1 (by omega) (fun V _ => by
          rw [numAt_one]
          refine (obj_any (bt l 1) V).mono ?_
          rintro e V2 ⟨rfl, rfl⟩
          exact ⟨rfl, Below.refl _ _⟩)).mono ?_
        rintro e W2 ⟨he, hr2, hb2⟩
        have hst2 := hst1.but hb2 hr2
        have hE2 : Errs A B0 W2 := hE.below (hst2.low.mono hE.size)
        cases hk1 : objB (bt l 1)
        · rw [hk1] at he
          simp only [Bool.false_eq_true, if_false] at he
          obtain ⟨v, rfl, ⟨pb, rfl, hpb, hblk⟩⟩ := he
          obtain ⟨c0, c1, c2, c3, c4, c5, c6⟩ := hst2.cells
          have f0 := hst2.frozen 0
          have f1 := hst2.frozen 1
          have f2 := hst2.frozen 2
          have f3 := hst2.frozen 3
          have f4 := hst2.frozen 4
          have f5 := hst2.frozen 5
          have f6 := hst2.frozen 6
          have hp := put7 W2 w.heap.size (.int .i64 0) (.int .i64 0) (.int .i64 0) (.int .i64 0) (.int .i64 0) (.slice none 0 0) (.slice none 0 0) (.int .i64 0) (.int .i64 0) (.int .i64 0) (.int .i64 0) (.int .i64 0) (.slice none 0 0) (.slice none 0 0) hst2.res
          go_wp2_with fail
          generalize (((((((W2.setCell ⟨w.heap.size, 0, none⟩ (.int .i64 0)).setCell ⟨w.heap.size, 1, none⟩ (.int .i64 0)).setCell ⟨w.heap.size, 2, none⟩ (.int .i64 0)).setCell ⟨w.heap.size, 3, none⟩ (.int .i64 0)).setCell ⟨w.heap.size, 4, none⟩ (.int .i64 0)).setCell ⟨w.heap.size, 5, none⟩ (.slice none 0 0)).setCell ⟨w.heap.size, 6, none⟩ (.slice none 0 0)) = W9 at hp ⊢
          obtain ⟨hp1, hp2⟩ := hp
          obtain ⟨d0, d1, d2, d3, d4, d5, d6⟩ := row7 hp1
          clear c0 c1 c2 c3 c4 c5 c6 f0 f1 f2 f3 f4 f5 f6
          exact bodyPost_ret (v := .tuple #[.agg #[.int .i64 0, .int .i64 0, .int .i64 0, .int .i64 0, .int .i64 0, .slice none 0 0, .slice none 0 0], .iface 166 (.pointer (some ⟨pb, 0, none⟩))]) (by simp [results, Tryz.results65, go_sem, d0, d1, d2, d3, d4, d5, d6]) rfl (HeadGives.bad (c := 6) (k := 1) (by simp [headE, hl, hq0, hk0, hq1, hk1]) ⟨pb, rfl, by have := hst1.low.size; omega, by rw [hp2.block pb (lt_of_block hblk) (by have := hst1.rdr.lt; omega)]; exact hblk⟩ (hst2.low.trans (hp2.toBelow (by have := hst2.low.size; omega) (fun k hk q => by omega))))
        · rw [hk1] at he
          simp only [if_true, numAt_one] at he
          subst he
          by_cases hq2 : n < 4
          · have s2 : W2.cell? ⟨6, 0, none⟩ = some (.iface 269 (.pointer (some (A 3)))) := hE2.cell 3 (by omega)
            have g2w : W2.cell? ⟨2, 0, none⟩ = some (.iface 269 (.pointer (some (A 5)))) := hE2.cell 5 (by omega)
            go_wp2_with fail
            refine (number_short (some ⟨b, o, none⟩) (w.heap.size + 1) n c 2 2 _ _ _ _ _ W2 hst2.rdr hn2 (by omega) (by omega) (by omega) s2).mono ?_
            rintro e X1 ⟨v, rfl, ⟨pb, rfl, hpb, hblk⟩, hbX⟩
            have hstX := hst2.but (Below.but hbX _ (fun i hi h => absurd hi h)) (hst2.rdr.kept (hbX.block _ hst2.rdr.lt))
            obtain ⟨c0, c1, c2, c3, c4, c5, c6⟩ := hstX.cells
            have f0 := hstX.frozen 0
            have f1 := hstX.frozen 1
            have f2 := hstX.frozen 2
            have f3 := hstX.frozen 3
            have f4 := hstX.frozen 4
            have f5 := hstX.frozen 5
            have f6 := hstX.frozen 6
            have hp := put7 X1 w.heap.size (.int .i64 0) (.int .i64 0) (.int .i64 0) (.int .i64 0) (.int .i64 0) (.slice none 0 0) (.slice none 0 0) (.int .i64 0) (.int .i64 0) (.int .i64 0) (.int .i64 0) (.int .i64 0) (.slice none 0 0) (.slice none 0 0) hstX.res
            go_wp2_with fail
            generalize (((((((X1.setCell ⟨w.heap.size, 0, none⟩ (.int .i64 0)).setCell ⟨w.heap.size, 1, none⟩ (.int .i64 0)).setCell ⟨w.heap.size, 2, none⟩ (.int .i64 0)).setCell ⟨w.heap.size, 3, none⟩ (.int .i64 0)).setCell ⟨w.heap.size, 4, none⟩ (.int .i64 0)).setCell ⟨w.heap.size, 5, none⟩ (.slice none 0 0)).setCell ⟨w.heap.size, 6, none⟩ (.slice none 0 0)) = W9 at hp ⊢
            obtain ⟨hp1, hp2⟩ := hp
            obtain ⟨d0, d1, d2, d3, d4, d5, d6⟩ := row7 hp1
            clear c0 c1 c2 c3 c4 c5 c6 f0 f1 f2 f3 f4 f5 f6
            exact bodyPost_ret (v := .tuple #[.agg #[.int .i64 0, .int .i64 0, .int .i64 0, .int .i64 0, .int .i64 0, .slice none 0 0, .slice none 0 0], .iface 166 (.pointer (some ⟨pb, 0, none⟩))]) (by simp [results, Tryz.results65, go_sem, d0, d1, d2, d3, d4, d5, d6]) rfl (HeadGives.bad (c := 4) (k := n) (by simp [headE, hl, hq0, hk0, hq1, hk1, hq2]) ⟨pb, rfl, by have := hst2.low.size; omega, by rw [hp2.block pb (lt_of_block hblk) (by have := hst2.rdr.lt; omega)]; exact hblk⟩ (hstX.low.trans (hp2.toBelow (by have := hstX.low.size; omega) (fun k hk q => by omega))))
          · have hB2 : Bs W2 b o l := fun i hi => by rw [hst2.low.cell (p := ⟨b, o + i, none⟩) hbl]; exact hB i hi
            have g2w : W2.cell? ⟨2, 0, none⟩ = some (.iface 269 (.pointer (some (A 5)))) := hE2.cell 5 (by omega)
            go_wp2_with fail
            refine (number_all (w.heap.size + 1) b o n c 2 2 l _ _ 107 #[] #[] (lenB (bt l 2 * 256 + bt l 3)) W2 calls_enters_len hst2.rdr hl hn hc (by omega) (by omega) (by omega) hn2 hB2 (by omega) (fun V _ => by
              rw [numAt_two]
              refine (len_any (bt l 2 * 256 + bt l 3) V).mono ?_
              rintro e V2 ⟨rfl, rfl⟩
              exact ⟨rfl, Below.refl _ _⟩)).mono ?_
            rintro e W3 ⟨he, hr3, hb3⟩
            have hst3 := hst2.but hb3 hr3
            have hE3 : Errs A B0 W3 := hE.below (hst3.low.mono hE.size)
            cases hk2 : lenB (bt l 2 * 256 + bt l 3)
            · rw [hk2] at he
              simp only [Bool.false_eq_true, if_false] at he
              obtain ⟨v, rfl, ⟨pb, rfl, hpb, hblk⟩⟩ := he
              obtain ⟨c0, c1, c2, c3, c4, c5, c6⟩ := hst3.cells
              have f0 := hst3.frozen 0
              have f1 := hst3.frozen 1
              have f2 := hst3.frozen 2
              have f3 := hst3.frozen 3
              have f4 := hst3.frozen 4
              have f5 := hst3.frozen 5
              have f6 := hst3.frozen 6
              have hp := put7 W3 w.heap.size (.int .i64 0) (.int .i64 0) (.int .i64 0) (.int .i64 0) (.int .i64 0) (.slice none 0 0) (.slice none 0 0) (.int .i64 0) (.int .i64 0) (.int .i64 0) (.int .i64 0) (.int .i64 0) (.slice none 0 0) (.slice none 0 0) hst3.res
              go_wp2_with fail
              generalize (((((((W3.setCell ⟨w.heap.size, 0, none⟩ (.int .i64 0)).setCell ⟨w.heap.size, 1, none⟩ (.int .i64 0)).setCell ⟨w.heap.size, 2, none⟩ (.int .i64 0)).setCell ⟨w.heap.size, 3, none⟩ (.int .i64 0)).setCell ⟨w.heap.size, 4, none⟩ (.int .i64 0)).setCell ⟨w.heap.size, 5, none⟩ (.slice none 0 0)).setCell ⟨w.heap.size, 6, none⟩ (.slice none 0 0)) = W9 at hp ⊢
              obtain ⟨hp1, hp2⟩ := hp
              obtain ⟨d0, d1, d2, d3, d4, d5, d6⟩ := row7 hp1
              clear c0 c1 c2 c3 c4 c5 c6 f0 f1 f2 f3 f4 f5 f6
              exact bodyPost_ret (v := .tuple #[.agg #[.int .i64 0, .int .i64 0, .int .i64 0, .int .i64 0, .int .i64 0, .slice none 0 0, .slice none 0 0], .iface 166 (.pointer (some ⟨pb, 0, none⟩))]) (by simp [results, Tryz.results65, go_sem, d0, d1, d2, d3, d4, d5, d6]) rfl (HeadGives.bad (c := 6) (k := 2) (by simp [headE, hl, hq0, hk0, hq1, hk1, hq2, hk2]) ⟨pb, rfl, by have := hst2.low.size; omega, by rw [hp2.block pb (lt_of_block hblk) (by have := hst2.rdr.lt; omega)]; exact hblk⟩ (hst3.low.trans (hp2.toBelow (by have := hst3.low.size; omega) (fun k hk q => by omega))))
            · rw [hk2] at he
              simp only [if_true, numAt_two] at he
              obtain ⟨L, hL⟩ : ∃ L : Nat, L = bt l 2 * 256 + bt l 3 := ⟨_, rfl⟩
              rw [← hL] at he
              have HL3 : Hid (L = bt l 2 * 256 + bt l 3) := hL
              clear hL
              subst he
              obtain ⟨c0, c1, c2, c3, c4, c5, c6⟩ := hst3.cells
              have f0 := hst3.frozen 0
              have f1 := hst3.frozen 1
              have f2 := hst3.frozen 2
              have f3 := hst3.frozen 3
              have f4 := hst3.frozen 4
              have f5 := hst3.frozen 5
              have f6 := hst3.frozen 6
              have hp := put7 W3 w.heap.size (.int .i64 0) (.int .i64 0) (.int .i64 0) (.int .i64 0) (.int .i64 0) (.slice none 0 0) (.slice none 0 0) (.int .i64 (bt l 0 : Int)) (.int .i64 (bt l 1 : Int)) (.int .i64 (L : Int)) (.int .i64 0) (.int .i64 0) (.slice none 0 0) (.slice none 0 0) hst3.res
              go_wp2_with fail
              generalize (((((((W3.setCell ⟨w.heap.size, 0, none⟩ (.int .i64 (bt l 0 : Int))).setCell ⟨w.heap.size, 1, none⟩ (.int .i64 (bt l 1 : Int))).setCell ⟨w.heap.size, 2, none⟩ (.int .i64 (L : Int))).setCell ⟨w.heap.size, 3, none⟩ (.int .i64 0)).setCell ⟨w.heap.size, 4, none⟩ (.int .i64 0)).setCell ⟨w.heap.size, 5, none⟩ (.slice none 0 0)).setCell ⟨w.heap.size, 6, none⟩ (.slice none 0 0)) = W9 at hp ⊢
              obtain ⟨hp1, hp2⟩ := hp
              obtain ⟨d0, d1, d2, d3, d4, d5, d6⟩ := row7 hp1
              clear c0 c1 c2 c3 c4 c5 c6 f0 f1 f2 f3 f4 f5 f6
              exact bodyPost_ret (v := .tuple #[.agg #[.int .i64 (bt l 0 : Int), .int .i64 (bt l 1 : Int), .int .i64 (L : Int), .int .i64 0, .int .i64 0, .slice none 0 0, .slice none 0 0], .nilIface]) (by simp [results, Tryz.results65, go_sem, d0, d1, d2, d3, d4, d5, d6]) rfl (by unfold HeadGives; rw [show headE l = none by simp [headE, hl, hq0, hk0, hq1, hk1, hq2, hk2], ← HL3.out]; exact ⟨rfl, hst3.low.trans (hp2.toBelow (by have := hst3.low.size; omega) (fun k hk q => by omega))⟩)

end Go.Proofs.YtjabhnhejbhgjaaGreatDoor
