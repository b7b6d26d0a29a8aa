/- Hands.list: lists of bytes, lent. -/
import Derived.Test.YtjabhnhejbhgjaaDoorLendWalk
namespace Go.Proofs.YtjabhnhejbhgjaaDoor
open Go.RowKit

def gat (gs : List Nat) (i : Nat) : Nat := gs.getD i 0

/-- The list that the owner lends, when j rows of it stand. -/
def lendCells (rs : List Raw) (gs : List Nat) (n j : Nat) : Array Value :=
  ((List.range (n + 2)).map fun i => if i < j then Value.slice (some ⟨gat gs i, 0, none⟩) (wat rs i).l.length ((wat rs i).l.length + 2) else Value.slice none 0 0).toArray

theorem lendCells_zero (rs : List Raw) (gs : List Nat) (n : Nat) : madeCells #[.slice none 0 0] (n + 2) = lendCells rs gs n 0 := by
  apply Array.ext'
  rw [toList_madeCells_one]
  simp only [lendCells]
  apply List.ext_getElem
  · simp
  · intro i h1 h2; simp

theorem gat_append {gs : List Nat} {j g i : Nat} (h : gs.length = j) : gat (gs ++ [g]) i = if i < j then gat gs i else if i = j then g else 0 := by
  unfold gat
  simp only [List.getD]
  by_cases h1 : i < j
  · rw [List.getElem?_append_left (by omega), if_pos h1]
  · rw [if_neg h1]
    by_cases h2 : i = j
    · subst h2; simp [h]
    · rw [if_neg h2, List.getElem?_eq_none (by simp; omega)]; rfl

theorem lendCells_succ (rs : List Raw) (gs : List Nat) (n j g : Nat) (h : gs.length = j) :
    (lendCells rs gs n j).setIfInBounds j (.slice (some ⟨g, 0, none⟩) (wat rs j).l.length ((wat rs j).l.length + 2)) = lendCells rs (gs ++ [g]) n (j + 1) := by
  apply Array.ext'
  simp only [lendCells, List.setIfInBounds_toArray]
  apply List.ext_getElem
  · simp
  · intro i h1 h2
    simp only [List.getElem_set, List.getElem_map, List.getElem_range]
    rw [gat_append h]
    by_cases e : j = i
    · subst e; simp
    · rw [if_neg e]
      by_cases q : i < j
      · rw [if_pos q, if_pos (by omega), if_pos q]
      · rw [if_neg q, if_neg (by omega)]

theorem lendCells_at (rs : List Raw) (gs : List Nat) (n j i : Nat) (hi : i < n) (hj : i < j) : (lendCells rs gs n j)[i]? = some (.slice (some ⟨gat gs i, 0, none⟩) (wat rs i).l.length ((wat rs i).l.length + 2)) := by
  simp [lendCells, show i < n + 2 by omega, hj]

theorem lendCells_rest (rs : List Raw) (gs : List Nat) (n j i : Nat) (hi : i < n + 2) (hj : ¬ i < j) : (lendCells rs gs n j)[i]? = some (.slice none 0 0) := by
  simp [lendCells, hi, hj]

/-- What h.in holds of k rows. -/
def lentCells (rs : List Raw) (gs : List Nat) : Nat → List Value
  | 0 => []
  | k + 1 => lentCells rs gs k ++ [Value.slice (some ⟨gat gs k, 0, none⟩) ((wat rs k).l.length + 2) ((wat rs k).l.length + 2), (wat rs k).v]

theorem lentCells_length (rs : List Raw) (gs : List Nat) (k : Nat) : (lentCells rs gs k).length = k * 2 := by
  induction k with
  | zero => rfl
  | succ k ih => simp only [lentCells, List.length_append, ih, List.length_cons, List.length_nil]; omega

theorem lentCells_more (rs : List Raw) (gs : List Nat) (g k : Nat) (h : k ≤ gs.length) : lentCells rs (gs ++ [g]) k = lentCells rs gs k := by
  induction k with
  | zero => rfl
  | succ k ih => simp only [lentCells]; rw [ih (by omega), gat_append rfl, if_pos (by omega)]

theorem lentCells_succ (rs : List Raw) (gs : List Nat) (k g : Nat) (h : gs.length = k) :
    lentCells rs (gs ++ [g]) (k + 1) = lentCells rs gs k ++ [Value.slice (some ⟨g, 0, none⟩) ((wat rs k).l.length + 2) ((wat rs k).l.length + 2), (wat rs k).v] := by
  simp only [lentCells]
  rw [lentCells_more rs gs g k (by omega), gat_append h, if_neg (by omega), if_pos rfl]

theorem lentCells_all (rs : List Raw) (gs : List Nat) (k i : Nat) (hi : i < k) : (lentCells rs gs k)[i * 2]? = some (.slice (some ⟨gat gs i, 0, none⟩) ((wat rs i).l.length + 2) ((wat rs i).l.length + 2)) := by
  induction k with
  | zero => omega
  | succ k ih =>
    have hl := lentCells_length rs gs k
    simp only [lentCells]
    by_cases q : i < k
    · rw [List.getElem?_append_left (by omega)]; exact ih q
    · obtain rfl : i = k := by omega
      rw [List.getElem?_append_right (by omega), hl, Nat.sub_self]; rfl

theorem lentCells_want (rs : List Raw) (gs : List Nat) (k i : Nat) (hi : i < k) : (lentCells rs gs k)[i * 2 + 1]? = some (wat rs i).v := by
  induction k with
  | zero => omega
  | succ k ih =>
    have hl := lentCells_length rs gs k
    simp only [lentCells]
    by_cases q : i < k
    · rw [List.getElem?_append_left (by omega)]; exact ih q
    · obtain rfl : i = k := by omega
      rw [List.getElem?_append_right (by omega), hl, show i * 2 + 1 - i * 2 = 1 by omega]; rfl

structure Lent (w : World) (B : Nat) (v : Value) (rs : List Raw) (gs : List Nat) (k : Nat) : Prop where
  len : gs.length = k
  own : w.ownsRow B 106 2 v k (lentCells rs gs k)
  low : ∀ i, i < k → B ≤ gat gs i
  blk : ∀ i, i < k → Blk w (gat gs i) (marked (wat rs i).l)
  apart : ∀ i j, i < k → j < k → gat gs i = gat gs j → i = j

theorem Lent.nil (w : World) (B : Nat) (rs : List Raw) : Lent w B (.slice none 0 0) rs [] 0 :=
  ⟨rfl, World.ownsRow_nil .., fun i hi => by omega, fun i hi => by omega, fun i j hi => by omega⟩

theorem Lent.kept {w w' : World} {B : Nat} {v : Value} {rs : List Raw} {gs : List Nat} {k : Nat} (h : Lent w B v rs gs k) {S : Nat → Prop} (hb : But S w w') (h1 : ∀ g, v.ownBlock = some g → ¬ S g) (h2 : ∀ i, i < k → ¬ S (gat gs i)) : Lent w' B v rs gs k :=
  ⟨h.len, hb.own h.own h1, h.low, fun i hi => (h.blk i hi).kept (hb.block _ (h.blk i hi).lt (h2 i hi)), h.apart⟩

theorem Lent.step {w w' : World} {B hb : Nat} {v v' : Value} {rs : List Raw} {gs : List Nat} {k : Nat} (h : Lent w B v rs gs k) (hB : B ≤ w.heap.size) (hH : ∃ s, HAt w hb s)
    (hG : Blk w' w.heap.size (marked (wat rs k).l)) (ho : w'.ownsRow B 106 2 v' (k + 1) (lentCells rs gs k ++ [.slice (some ⟨w.heap.size, 0, none⟩) ((wat rs k).l.length + 2) ((wat rs k).l.length + 2), (wat rs k).v]))
    (hbut : But (fun b => b = hb ∨ v.ownBlock = some b) w w') : Lent w' B v' rs (gs ++ [w.heap.size]) (k + 1) := by
  obtain ⟨s, hH⟩ := hH
  have far : ∀ i, i < k → ¬ (gat gs i = hb ∨ v.ownBlock = some (gat gs i)) := by
    intro i hi q
    rcases q with q | q
    · have h1 := h.blk i hi
      unfold Blk at h1
      rw [q, hH] at h1
      simp only [Option.some.injEq, Obj.cells.injEq] at h1
      exact absurd h1.2.1 (by decide)
    · exact own_ne h.own q (h.blk i hi) (by decide) rfl
  have lt := fun i (hi : i < k) => (h.blk i hi).lt
  refine ⟨by simp [h.len], by rw [lentCells_succ rs gs k _ h.len]; exact ho, fun i hi => ?_, fun i hi => ?_, fun i j hi hj e => ?_⟩
  · rw [gat_append h.len]
    by_cases q : i < k
    · rw [if_pos q]; exact h.low i q
    · rw [if_neg q, if_pos (by omega)]; exact hB
  · rw [gat_append h.len]
    by_cases q : i < k
    · rw [if_pos q]; exact (h.blk i q).kept (hbut.block _ (lt i q) (far i q))
    · rw [if_neg q, if_pos (by omega)]
      obtain rfl : i = k := by omega
      exact hG
  · rw [gat_append h.len, gat_append h.len] at e
    by_cases q : i < k
    · rw [if_pos q] at e
      by_cases p : j < k
      · rw [if_pos p] at e; exact h.apart i j q p e
      · rw [if_neg p, if_pos (by omega)] at e
        have := lt i q; omega
    · rw [if_neg q, if_pos (by omega)] at e
      by_cases p : j < k
      · rw [if_pos p] at e; have := lt j p; omega
      · omega

theorem Tryd.info_rows : (Tryd.prog.info? 31).map (fun i => (i.zero, i.size, i.bytes)) = some (some (.slice none 0 0), 1, 24) := by kernel_rfl
theorem Tryd.rows_parts : ∃ i, Tryd.prog.info? 31 = some i ∧ i.zero = some (.slice none 0 0) ∧ i.size = 1 ∧ i.bytes = 24 := by
  obtain ⟨i, hi, h⟩ := Option.map_eq_some_iff.1 Tryd.info_rows
  simp only [Prod.mk.injEq] at h
  exact ⟨i, hi, h.1, h.2.1, h.2.2⟩

theorem RawIn.but {w w' : World} {r : Raw} {S : Nat → Prop} (h : RawIn w r) (hb : But S w w') (hn : 0 < r.l.length → ∀ g, r.v.ownBlock = some g → ¬ S g) : RawIn w' r := by
  obtain ⟨a, c, h1, h2⟩ := h
  refine ⟨a, c, h1, fun hl => ?_⟩
  obtain ⟨b, o, rfl, h4⟩ := h2 hl
  refine ⟨b, o, rfl, fun i hi => ?_⟩
  rw [World.cell?_of_block (hb.block b (h4.lt hl) (hn hl b (by rw [h1]; rfl)))]
  exact h4 i hi

theorem Ws.but {w w' : World} {b o : Nat} {rs : List Raw} {S : Nat → Prop} (h : Ws w b o rs) (hb : But S w w') (hn : ¬ S b) (hr : ∀ i, i < rs.length → 0 < (wat rs i).l.length → ∀ g, (wat rs i).v.ownBlock = some g → ¬ S g) : Ws w' b o rs :=
  fun i hi => ⟨by rw [World.cell?_of_block (hb.block b (lt_of_cell (h i hi).1) hn)]; exact (h i hi).1, (h i hi).2.but hb (hr i hi)⟩

/-- What list leaves: the list at block x, its rows at gs; h.in holds them, h.rows the list. -/
structure Listed (w w' : World) (hb : Nat) (s : HS) (rs : List Raw) (n : Nat) (gs : List Nat) (v vr : Value) : Prop where
  hands : HAt w' hb { s with in_ := v, rows := vr }
  list : w'.heap[w.heap.size]? = some (.cells (lendCells rs gs n n) 33 (0, 0))
  lent : Lent w' w.heap.size v rs gs n
  rows : w'.ownsRow w.heap.size 31 1 vr 1 [.slice (some ⟨w.heap.size, 0, none⟩) (n + 2) (n + 2)]
  off : ∀ i, i < n → gat gs i ≠ w.heap.size
  but : But (fun b => b = hb) w w'

set_option maxRecDepth 100000 in
set_option maxHeartbeats 1000000 in
theorem list_any (al : Option Addr) (hb lb lo lc n : Nat) (s : HS) (rs : List Raw) (w : World) (hr : rs.length = n) (hn : n ≤ 1048576) (hm : ∀ i, i < n → (wat rs i).l.length ≤ 140737488355000) (hal : 0 < n → al = some ⟨lb, lo, none⟩) (hW : Ws w lb lo rs)
    (hlb : lb ≠ hb) (hrb : ∀ i, i < n → 0 < (wat rs i).l.length → (wat rs i).v.ownBlock ≠ some hb) (hH : HAt w hb s) (hi0 : s.in_ = .slice none 0 0) (hr0 : s.rows = .slice none 0 0) :
    Calls Tryd.prog 27 #[.pointer (some ⟨hb, 0, none⟩), .slice al n lc] w fun e w' =>
      ∃ gs v vr, e = .returned (.slice (some ⟨w.heap.size, 0, none⟩) n (n + 2)) ∧ Listed w w' hb s rs n gs v vr := by
  have HH : Hid (HAt w hb s) := hH
  have HI0 : Hid (s.in_ = .slice none 0 0) := hi0
  have HR0 : Hid (s.rows = .slice none 0 0) := hr0
  have HR : Hid (rs.length = n) := hr
  have HM : Hid (∀ i, i < n → (wat rs i).l.length ≤ 140737488355000) := hm
  have hlt := hH.lt
  have hbn : hb ≠ w.heap.size := Nat.ne_of_lt hlt
  obtain ⟨il, hil, hl0, hl1, hl2⟩ := Tryd.rows_parts
  have hmk : ∀ W : World, (Instr.makeSlice 31 (.int .i64 ((n : Int) + 2)) (.int .i64 ((n : Int) + 2))).run Tryd.prog W = .ok (.slice (some ⟨W.heap.size, 0, none⟩) (n + 2) (n + 2)) (W.alloc (.cells (madeCells #[.slice none 0 0] (n + 2)) 33)) := fun W => by
    have := run_make_row' (P := Tryd.prog) 31 33 (.slice none 0 0) 24 Tryd.underlying31 Tryd.info_bytes rfl .i64 .i64 (n + 2) (by omega) (by omega) W
    rw [show (((n + 2 : Nat)) : Int) = (n : Int) + 2 by omega] at this
    exact this
  clear hH hi0 hr0 hr hm
  go_enter Tryd.func27, Tryd.ntmps27
  go_wp2_with fail
  clear hmk
  have hH1 : Hid (HAt (w.alloc (.cells (madeCells #[.slice none 0 0] (n + 2)) 33)) hb s) := HH.out.kept (Below.heap_alloc _ _ _ hlt)
  go_loopw [7] (fun t wr => ∃ (j : Nat) (gs : List Nat) (v : Value), j ≤ n ∧ t = .int .i64 (j : Int) ∧ Hid (wr.heap[w.heap.size]? = some (.cells (lendCells rs gs n j) 33 (0, 0))) ∧ Hid (HAt wr hb { s with in_ := v }) ∧ Lent wr w.heap.size v rs gs j ∧ (∀ i, i < j → gat gs i ≠ w.heap.size) ∧ But (fun b => b = hb) w wr) (fun t _ => n - (intOf t).toNat)
  case atStart =>
    refine ⟨0, [], .slice none 0 0, by omega, rfl, ?_, ?_, Lent.nil .., fun i hi => by omega, (But.refl _ _).alloc _⟩
    · show _ = _
      rw [← lendCells_zero]
      exact heap_alloc_new _ _
    · have := hH1.out
      have e : ({ s with in_ := .slice none 0 0 } : HS) = s := by rw [← HI0.out]
      show HAt _ _ _
      rw [e]; exact this
  case round =>
    obtain ⟨j, gs, v, hj, rfl, HX, HHr, hL, hoff, hbut⟩ := hrel
    clear hH1
    have hsz := hbut.size
    have hxl : w.heap.size < wr.heap.size := (Array.getElem?_eq_some_iff.1 HX.out).1
    by_cases hlt2 : j < n
    · obtain rfl := hal (by omega)
      have hWr : Ws wr lb lo rs := hW.but hbut hlb (fun i hi h0 g hg q => hrb i (by rw [← HR.out]; exact hi) h0 (by rw [hg, q]))
      have hWj := hWr j (by rw [HR.out]; exact hlt2)
      have hcj := hWj.1
      have HWj : Hid (RawIn wr (wat rs j)) := hWj.2
      have hmj := HM.out j hlt2
      have hjn : (j : Int) < (n : Int) := by omega
      clear hWj hWr
      go_wp2_with fail
      refine (bytes_any hb w.heap.size (wat rs j).l.length j { s with in_ := v } (wat rs j) (lentCells rs gs j) _ rfl hmj (by omega) HHr.out hL.own hsz HWj.out).mono ?_
      rintro e w5 ⟨v5, rfl, hG5, hH5, ho5, hpl5, hb5⟩
      have hXn : v.ownBlock ≠ some w.heap.size := fun q => own_ne hL.own q HX.out (by decide) rfl
      have hX5 : w5.heap[w.heap.size]? = some (.cells (lendCells rs gs n j) 33 (0, 0)) := by
        rw [hb5.block _ hxl (fun q => by rcases q with q | q; exact hbn q.symm; exact hXn q)]
        exact HX.out
      have hL5 := hL.step hsz ⟨_, HHr.out⟩ hG5 ho5 hb5
      have hc5 : w5.cell? ⟨w.heap.size, j, none⟩ = some (.slice none 0 0) := by
        rw [cell_of_row w5 _ j _ _ _ hX5]; exact lendCells_rest rs gs n j j (by omega) (by omega)
      have hf5 : w5.frozen? ⟨w.heap.size, j, none⟩ = false := frozen_of_row w5 _ j _ _ hX5
      have hbut5 : But (fun b => b = hb) w w5 := hbut.then hb5 (fun i hi q => by
        rcases q with q | q
        · exact q
        · have := (hL.own.lt i q).1; omega)
      have HX5 : Hid (w5.heap[w.heap.size]? = some (.cells (lendCells rs gs n j) 33 (0, 0))) := hX5
      have HH5 : Hid (HAt w5 hb { s with in_ := v5 }) := hH5
      have HG : Hid (gs.length = j) := hL.len
      have hjn2 : (j : Int) < (n : Int) + 2 := by omega
      have hoff5 : ∀ i, i < j + 1 → gat (gs ++ [wr.heap.size]) i ≠ w.heap.size := fun i hi => by
        rw [gat_append hL.len]
        by_cases q : i < j
        · rw [if_pos q]; exact hoff i q
        · rw [if_neg q, if_pos (by omega)]; omega
      clear hX5 hH5 hG5 ho5 hpl5 hL
      have hXb : But (fun b => b = w.heap.size) w5 (w5.setCell ⟨w.heap.size, j, none⟩ (.slice (some ⟨wr.heap.size, 0, none⟩) (wat rs j).l.length ((wat rs j).l.length + 2))) := But.setCell (S := fun b => b = w.heap.size) (But.refl _ _) (p := ⟨w.heap.size, j, none⟩) (.inl rfl) _
      have hL6 := hL5.kept hXb (fun g hg q => own_ne hL5.own hg HX5.out (by decide) q) (fun i hi q => hoff5 i hi q)
      have HX6 : Hid ((w5.setCell ⟨w.heap.size, j, none⟩ (.slice (some ⟨wr.heap.size, 0, none⟩) (wat rs j).l.length ((wat rs j).l.length + 2))).heap[w.heap.size]? = some (.cells (lendCells rs (gs ++ [wr.heap.size]) n (j + 1)) 33 (0, 0))) := by
        show _ = _
        rw [heap_setCell_same _ _ _ _ _ _ HX5.out, lendCells_succ rs gs n j _ HG.out]
      have HH6 : Hid (HAt (w5.setCell ⟨w.heap.size, j, none⟩ (.slice (some ⟨wr.heap.size, 0, none⟩) (wat rs j).l.length ((wat rs j).l.length + 2))) hb { s with in_ := v5 }) := HH5.out.kept (Below.heap_setCell _ _ _ _ hbn)
      have hbut6 := hbut5.setCell (p := ⟨w.heap.size, j, none⟩) (.inr (Nat.le_refl _)) (.slice (some ⟨wr.heap.size, 0, none⟩) (wat rs j).l.length ((wat rs j).l.length + 2))
      clear hXb hL5 hbut5 hb5
      go_wp2_with fail
      go_roundw
      case rel => exact ⟨j + 1, _, v5, by omega, by go_num, HX6, HH6, hL6, hoff5, hbut6⟩
      case measure => simp [intOf]; omega
    · obtain rfl : j = n := by omega
      have hc1 : wr.cell? ⟨hb, 1, none⟩ = some (.slice none 0 0) := by rw [HHr.out.cell 1, ← HR0.out]; rfl
      have hf1 := HHr.out.frozen
      go_wp2_with (at_builtin; refine wpList_append_apart rfl _ _ _ rfl w.heap.size 31 il (.slice none 0 0) 1 24 Tryd.underlying38 hil hl0 hl1 hl2 rfl (by omega) (.slice none 0 0) 0 [] rfl (World.ownsRow_nil ..) ⟨wr.heap.size, 0, none⟩ 1 1 [.slice (some ⟨w.heap.size, 0, none⟩) (j + 2) (j + 2)] rfl rfl ?c1 ?c2 (by omega) ?c3 ?c4 ?c5 ?c6 ?_)
      case c1 => exact cell_one_new _ _ _
      case c2 => intro u hu; simp at hu; subst hu; rfl
      case c3 => unfold maxLen; omega
      case c4 => omega
      case c5 => omega
      case c6 => simp; omega
      intro g cap w6 hown6 hgr6 hlie6 hlt6
      have hold : ∀ k, k < wr.heap.size → w6.heap[k]? = wr.heap[k]? := fun k hk => by
        rw [grown_block hgr6 (by simp; omega) (by simp [Value.ownBlock]), Below.heap_alloc _ _ _ hk]
      have hg : g ≠ hb := by
        rcases hlie6 with q | ⟨q, _⟩
        · simp [Value.ownBlock] at q
        · have : g = wr.heap.size + 1 := by simpa using q
          omega
      have hH6 : HAt w6 hb { s with in_ := v } := HHr.out.kept (hold hb (by omega))
      have hb6 : But (fun b => b = hb) w w6 := (hbut.alloc _).grown hgr6 (fun k hk => by simp [Value.ownBlock] at hk)
      have hx6 : w6.heap[w.heap.size]? = some (.cells (lendCells rs gs j j) 33 (0, 0)) := by rw [hold _ hxl]; exact HX.out
      have hL6 : Lent w6 w.heap.size v rs gs j := hL.kept (S := fun _ => False) ⟨hgr6.os, hgr6.tape, hgr6.output, by have := hgr6.size; simp at this; omega, fun k hk _ => hold k hk⟩ (fun _ _ q => q) (fun _ _ q => q)
      have HX6 : Hid (w6.heap[w.heap.size]? = some (.cells (lendCells rs gs j j) 33 (0, 0))) := hx6
      have HH6 : Hid (HAt w6 hb { s with in_ := v }) := hH6
      have hc6 : w6.cell? ⟨hb, 1, none⟩ = some (.slice none 0 0) := by rw [HH6.out.cell 1, ← HR0.out]; rfl
      have hf6 := HH6.out.frozen
      clear hx6 hH6 hgr6 hlie6 hold hbut hL
      go_wp2_with fail
      go_ret
      have hfar : ∀ b, b ≠ hb → (w6.setCell ⟨hb, 1, none⟩ (.slice (some ⟨g, 0, none⟩) 1 cap)).heap[b]? = w6.heap[b]? := fun b hb' => Below.heap_setCell _ _ _ _ hb'
      exact ⟨gs, v, _, rfl, HH6.out.set1 _, by rw [hfar _ (fun q => hbn q.symm)]; exact HX6.out, hL6.kept (S := fun b => b = hb) (But.setCell (S := fun b => b = hb) (But.refl _ _) (p := ⟨hb, 1, none⟩) (.inl rfl) _) (fun g' hg' q => own_ne hL6.own hg' HH6.out (by decide) q) (fun i hi q => by
          have h1 := hL6.blk i hi
          unfold Blk at h1
          rw [q, HH6.out] at h1
          simp only [Option.some.injEq, Obj.cells.injEq] at h1
          exact absurd h1.2.1 (by decide)),
        own_of_block hown6 (fun b hb' => hfar b (by
          have e : g = b := by simpa [Value.ownBlock] using hb'
          rw [← e]; exact hg)), hoff, hb6.setCell (.inl rfl) _⟩

end Go.Proofs.YtjabhnhejbhgjaaDoor
