import Derived.Test.YtjabhnhejbhgjaaGreatDoorLendWalk
import Derived.Deep.RegionHeld3
/- Hands.list: lists of bytes, lent. -/
namespace Go.Proofs.YtjabhnhejbhgjaaGreatDoor
open Go.RowKit

def gat (gs : List Nat) (i : Nat) : Nat := gs.getD i 0

/-- The list that the owner lends, when j rows of it stand. -/
def lendCells (rs : List Raw) (gs : List Nat) (n j : Nat) : Array Value :=
  ((List.range (n + 2)).map fun i => if i < j then Value.slice (some ⟨gat gs i, 0, none⟩) (wat rs i).l.length ((wat rs i).l.length + 2) else Value.slice none 0 0).toArray

theorem lendCells_zero (rs : List Raw) (gs : List Nat) (n : Nat) : madeCells #[.slice none 0 0] (n + 2) = lendCells rs gs n 0 := by
  apply Array.ext'
  rw [toList_madeCells_one]
  simp only [lendCells]
  apply List.ext_getElem
  · simp
  · intro i h1 h2; simp

theorem gat_append {gs : List Nat} {j g i : Nat} (h : gs.length = j) : gat (gs ++ [g]) i = if i < j then gat gs i else if i = j then g else 0 := by
  unfold gat
  simp only [List.getD]
  by_cases h1 : i < j
  · rw [List.getElem?_append_left (by omega), if_pos h1]
  · rw [if_neg h1]
    by_cases h2 : i = j
    · subst h2; simp [h]
    · rw [if_neg h2, List.getElem?_eq_none (by simp; omega)]; rfl

theorem lendCells_succ (rs : List Raw) (gs : List Nat) (n j g : Nat) (h : gs.length = j) :
    (lendCells rs gs n j).setIfInBounds j (.slice (some ⟨g, 0, none⟩) (wat rs j).l.length ((wat rs j).l.length + 2)) = lendCells rs (gs ++ [g]) n (j + 1) := by
  apply Array.ext'
  simp only [lendCells, List.setIfInBounds_toArray]
  apply List.ext_getElem
  · simp
  · intro i h1 h2
    simp only [List.getElem_set, List.getElem_map, List.getElem_range]
    rw [gat_append h]
    by_cases e : j = i
    · subst e; simp
    · rw [if_neg e]
      by_cases q : i < j
      · rw [if_pos q, if_pos (by omega), if_pos q]
      · rw [if_neg q, if_neg (by omega)]

theorem lendCells_at (rs : List Raw) (gs : List Nat) (n j i : Nat) (hi : i < n) (hj : i < j) : (lendCells rs gs n j)[i]? = some (.slice (some ⟨gat gs i, 0, none⟩) (wat rs i).l.length ((wat rs i).l.length + 2)) := by
  simp [lendCells, show i < n + 2 by omega, hj]

theorem lendCells_rest (rs : List Raw) (gs : List Nat) (n j i : Nat) (hi : i < n + 2) (hj : ¬ i < j) : (lendCells rs gs n j)[i]? = some (.slice none 0 0) := by
  simp [lendCells, hi, hj]

/-- What h.in holds of k rows. -/
def lentCells (rs : List Raw) (gs : List Nat) : Nat → List Value
  | 0 => []
  | k + 1 => lentCells rs gs k ++ [Value.slice (some ⟨gat gs k, 0, none⟩) ((wat rs k).l.length + 2) ((wat rs k).l.length + 2), (wat rs k).v]

theorem lentCells_length (rs : List Raw) (gs : List Nat) (k : Nat) : (lentCells rs gs k).length = k * 2 := by
  induction k with
  | zero => rfl
  | succ k ih => simp only [lentCells, List.length_append, ih, List.length_cons, List.length_nil]; omega

theorem lentCells_more (rs : List Raw) (gs : List Nat) (g k : Nat) (h : k ≤ gs.length) : lentCells rs (gs ++ [g]) k = lentCells rs gs k := by
  induction k with
  | zero => rfl
  | succ k ih => simp only [lentCells]; rw [ih (by omega), gat_append rfl, if_pos (by omega)]

theorem lentCells_succ (rs : List Raw) (gs : List Nat) (k g : Nat) (h : gs.length = k) :
    lentCells rs (gs ++ [g]) (k + 1) = lentCells rs gs k ++ [Value.slice (some ⟨g, 0, none⟩) ((wat rs k).l.length + 2) ((wat rs k).l.length + 2), (wat rs k).v] := by
  simp only [lentCells]
  rw [lentCells_more rs gs g k (by omega), gat_append h, if_neg (by omega), if_pos rfl]

theorem lentCells_all (rs : List Raw) (gs : List Nat) (k i : Nat) (hi : i < k) : (lentCells rs gs k)[i * 2]? = some (.slice (some ⟨gat gs i, 0, none⟩) ((wat rs i).l.length + 2) ((wat rs i).l.length + 2)) := by
  induction k with
  | zero => omega
  | succ k ih =>
    have hl := lentCells_length rs gs k
    simp only [lentCells]
    by_cases q : i < k
    · rw [List.getElem?_append_left (by omega)]; exact ih q
    · obtain rfl : i = k := by omega
      rw [List.getElem?_append_right (by omega), hl, Nat.sub_self]; rfl

theorem lentCells_want (rs : List Raw) (gs : List Nat) (k i : Nat) (hi : i < k) : (lentCells rs gs k)[i * 2 + 1]? = some (wat rs i).v := by
  induction k with
  | zero => omega
  | succ k ih =>
    have hl := lentCells_length rs gs k
    simp only [lentCells]
    by_cases q : i < k
    · rw [List.getElem?_append_left (by omega)]; exact ih q
    · obtain rfl : i = k := by omega
      rw [List.getElem?_append_right (by omega), hl, show i * 2 + 1 - i * 2 = 1 by omega]; rfl

structure Lent (w : World) (B : Nat) (v : Value) (rs : List Raw) (gs : List Nat) (k : Nat) : Prop where
  len : gs.length = k
  own : w.ownsRow B 221 2 v k (lentCells rs gs k)
  low : ∀ i, i < k → B ≤ gat gs i
  blk : ∀ i, i < k → Blk w (gat gs i) (marked (wat rs i).l)
  apart : ∀ i j, i < k → j < k → gat gs i = gat gs j → i = j

theorem Lent.nil (w : World) (B : Nat) (rs : List Raw) : Lent w B (.slice none 0 0) rs [] 0 :=
  ⟨rfl, World.ownsRow_nil .., fun i hi => by omega, fun i hi => by omega, fun i j hi => by omega⟩

theorem Lent.kept {w w' : World} {B : Nat} {v : Value} {rs : List Raw} {gs : List Nat} {k : Nat} (h : Lent w B v rs gs k) {S : Nat → Prop} (hb : But S w w') (h1 : ∀ g, v.ownBlock = some g → ¬ S g) (h2 : ∀ i, i < k → ¬ S (gat gs i)) : Lent w' B v rs gs k :=
  ⟨h.len, hb.own h.own h1, h.low, fun i hi => (h.blk i hi).kept (hb.block _ (h.blk i hi).lt (h2 i hi)), h.apart⟩

theorem Lent.step {w w' : World} {B hb : Nat} {v v' : Value} {rs : List Raw} {gs : List Nat} {k : Nat} (h : Lent w B v rs gs k) (hB : B ≤ w.heap.size) (hH : ∃ s, HAt w hb s)
    (hG : Blk w' w.heap.size (marked (wat rs k).l)) (ho : w'.ownsRow B 221 2 v' (k + 1) (lentCells rs gs k ++ [.slice (some ⟨w.heap.size, 0, none⟩) ((wat rs k).l.length + 2) ((wat rs k).l.length + 2), (wat rs k).v]))
    (hbut : But (fun b => b = hb ∨ v.ownBlock = some b) w w') : Lent w' B v' rs (gs ++ [w.heap.size]) (k + 1) := by
  obtain ⟨s, hH⟩ := hH
  have far : ∀ i, i < k → ¬ (gat gs i = hb ∨ v.ownBlock = some (gat gs i)) := by
    intro i hi q
    rcases q with q | q
    · have h1 := h.blk i hi
      unfold Blk at h1
      rw [q, hH] at h1
      simp only [Option.some.injEq, Obj.cells.injEq] at h1
      exact absurd h1.2.1 (by decide)
    · exact own_ne h.own q (h.blk i hi) (by decide) rfl
  have lt := fun i (hi : i < k) => (h.blk i hi).lt
  refine ⟨by simp [h.len], by rw [lentCells_succ rs gs k _ h.len]; exact ho, fun i hi => ?_, fun i hi => ?_, fun i j hi hj e => ?_⟩
  · rw [gat_append h.len]
    by_cases q : i < k
    · rw [if_pos q]; exact h.low i q
    · rw [if_neg q, if_pos (by omega)]; exact hB
  · rw [gat_append h.len]
    by_cases q : i < k
    · rw [if_pos q]; exact (h.blk i q).kept (hbut.block _ (lt i q) (far i q))
    · rw [if_neg q, if_pos (by omega)]
      obtain rfl : i = k := by omega
      exact hG
  · rw [gat_append h.len, gat_append h.len] at e
    by_cases q : i < k
    · rw [if_pos q] at e
      by_cases p : j < k
      · rw [if_pos p] at e; exact h.apart i j q p e
      · rw [if_neg p, if_pos (by omega)] at e
        have := lt i q; omega
    · rw [if_neg q, if_pos (by omega)] at e
      by_cases p : j < k
      · rw [if_pos p] at e; have := lt j p; omega
      · omega

theorem Tryz.info_rows : (Tryz.prog.info? 40).map (fun i => (i.zero, i.size, i.bytes)) = some (some (.slice none 0 0), 1, 24) := by kernel_rfl
theorem Tryz.rows_parts : ∃ i, Tryz.prog.info? 40 = some i ∧ i.zero = some (.slice none 0 0) ∧ i.size = 1 ∧ i.bytes = 24 := by
  obtain ⟨i, hi, h⟩ := Option.map_eq_some_iff.1 Tryz.info_rows
  simp only [Prod.mk.injEq] at h
  exact ⟨i, hi, h.1, h.2.1, h.2.2⟩

theorem RawIn.but {w w' : World} {r : Raw} {S : Nat → Prop} (h : RawIn w r) (hb : But S w w') (hn : 0 < r.l.length → ∀ g, r.v.ownBlock = some g → ¬ S g) : RawIn w' r := by
  obtain ⟨a, c, h1, h2⟩ := h
  refine ⟨a, c, h1, fun hl => ?_⟩
  obtain ⟨b, o, rfl, h4⟩ := h2 hl
  refine ⟨b, o, rfl, fun i hi => ?_⟩
  rw [World.cell?_of_block (hb.block b (h4.lt hl) (hn hl b (by rw [h1]; rfl)))]
  exact h4 i hi

theorem Ws.but {w w' : World} {b o : Nat} {rs : List Raw} {S : Nat → Prop} (h : Ws w b o rs) (hb : But S w w') (hn : ¬ S b) (hr : ∀ i, i < rs.length → 0 < (wat rs i).l.length → ∀ g, (wat rs i).v.ownBlock = some g → ¬ S g) : Ws w' b o rs :=
  fun i hi => ⟨by rw [World.cell?_of_block (hb.block b (lt_of_cell (h i hi).1) hn)]; exact (h i hi).1, (h i hi).2.but hb (hr i hi)⟩

/-- What list leaves: the list at block x, its rows at gs; h.in holds them, h.rows the list. -/
structure Listed (w w' : World) (hb : Nat) (s : HS) (rs : List Raw) (n : Nat) (gs : List Nat) (v vr : Value) : Prop where
  hands : HAt w' hb { s with in_ := v, rows := vr }
  list : w'.heap[w.heap.size]? = some (.cells (lendCells rs gs n n) 33 (0, 0))
  lent : Lent w' w.heap.size v rs gs n
  rows : w'.ownsRow w.heap.size 40 1 vr 1 [.slice (some ⟨w.heap.size, 0, none⟩) (n + 2) (n + 2)]
  off : ∀ i, i < n → gat gs i ≠ w.heap.size
  but : But (fun b => b = hb) w w'

end Go.Proofs.YtjabhnhejbhgjaaGreatDoor

/- Hands.numbers: numbers, lent. -/
namespace Go.Proofs.YtjabhnhejbhgjaaGreatDoor
open Go.RowKit

/-- A whole block of numbers. -/
def ZBlk (w : World) (g : Nat) (l : List Int) : Prop := w.heap[g]? = some (.cells (encZ l).toArray 3 (0, 0))

theorem ZBlk.zs {w : World} {g : Nat} {l : List Int} (h : ZBlk w g l) : Zs w g 0 l := by
  intro i hi
  rw [cell_of_row w g (0 + i) _ _ _ h]
  simp [encZ, zat, List.getD, hi]

theorem ZBlk.frozen {w : World} {g : Nat} {l : List Int} (h : ZBlk w g l) (i : Nat) : w.frozen? ⟨g, i, none⟩ = false := frozen_of_row w g i _ _ h
theorem ZBlk.kept {w w' : World} {g : Nat} {l : List Int} (h : ZBlk w g l) (hk : w'.heap[g]? = w.heap[g]?) : ZBlk w' g l := by unfold ZBlk; rw [hk]; exact h
theorem ZBlk.lt {w : World} {g : Nat} {l : List Int} (h : ZBlk w g l) : g < w.heap.size := (Array.getElem?_eq_some_iff.1 h).1
theorem ZBlk.set {w : World} {g : Nat} {l : List Int} (h : ZBlk w g l) (i : Nat) (x : Int) : ZBlk (w.setCell ⟨g, i, none⟩ (.int .i64 x)) g (l.set i x) := by
  unfold ZBlk
  rw [heap_setCell_same w g i _ _ _ h]
  simp [encZ, List.map_set]

theorem ZBlk.made {w : World} (n : Nat) : ZBlk (w.alloc (.cells (madeCells #[.int .i64 0] n) 3)) w.heap.size (List.replicate n 0) := by
  unfold ZBlk
  rw [heap_alloc_new]
  have : madeCells #[.int .i64 0] n = (encZ (List.replicate n 0)).toArray := by
    apply Array.ext'
    rw [toList_madeCells_one]
    simp [encZ]
  rw [this]

def markedZ (l : List Int) : List Int := l ++ [-7, -7]

theorem markedZ_set (l : List Int) (n : Nat) (h : l.length = n) : ((l ++ [0, 0]).set n (-7)).set (n + 1) (-7) = markedZ l := by
  subst h
  simp [markedZ]

theorem splice_markedZ (l : List Int) (n : Nat) (h : l.length = n) : splice (encZ (List.replicate (n + 2) 0)) 0 (encZ l) = encZ (l ++ [0, 0]) := by
  have e : (encZ l).length = n := by simp [encZ, h]
  have e1 : encZ (List.replicate (n + 2) 0) = List.replicate (n + 2) (Value.int .i64 0) := by simp [encZ]
  unfold splice
  rw [e, e1, List.drop_replicate, List.take_zero, List.nil_append, show n + 2 - (0 + n) = 2 by omega]
  simp [encZ, List.replicate]

theorem Zs.cells {w : World} {b o : Nat} {l : List Int} (h : Zs w b o l) : ∀ j v, (encZ l)[j]? = some v → w.cell? ((⟨b, o, none⟩ : Addr).add j) = some v := by
  intro j v hj
  have hlt : j < l.length := by
    rcases Nat.lt_or_ge j l.length with q | q
    · exact q
    · rw [List.getElem?_eq_none (by simpa [encZ] using q)] at hj; cases hj
  have e : (encZ l)[j]? = some (.int .i64 (zat l j)) := by simp [encZ, zat, List.getD, hlt]
  rw [e] at hj
  have hadd : (⟨b, o, none⟩ : Addr).add j = ⟨b, o + j, none⟩ := by unfold Addr.add; split <;> simp_all
  rw [hadd, h j hlt, hj]

theorem encZ_one (l : List Int) : ∀ u ∈ encZ l, u.oneCell' = true := by
  intro u hu
  obtain ⟨x, _, rfl⟩ := List.mem_map.1 hu
  rfl

theorem Tryz.size_int : (Tryz.prog.info? 3).map (·.size) = some 1 := by kernel_rfl
theorem Tryz.info_ints : (Tryz.prog.info? 75).map (fun i => (i.zero, i.size, i.bytes)) = some (some (.slice none 0 0), 1, 24) := by kernel_rfl
theorem Tryz.ints_parts : ∃ i, Tryz.prog.info? 75 = some i ∧ i.zero = some (.slice none 0 0) ∧ i.size = 1 ∧ i.bytes = 24 := by
  obtain ⟨i, hi, h⟩ := Option.map_eq_some_iff.1 Tryz.info_ints
  simp only [Prod.mk.injEq] at h
  exact ⟨i, hi, h.1, h.2.1, h.2.2⟩

theorem cell_one_at (w : World) (v : Value) (t : TypeId) (H : Nat) (hH : H = w.heap.size) : ∀ j u, [v][j]? = some u → (w.alloc (.cells #[v] t)).cell? ((⟨H, 0, none⟩ : Addr).add j) = some u := by
  subst hH
  exact cell_one_new w v t

/-- What numbers leaves. -/
structure Numbered (w w' : World) (hb : Nat) (s : HS) (l : List Int) (n : Nat) (u : Value) (vi vw : Value) : Prop where
  hands : HAt w' hb { s with ints := vi, iwant := vw }
  blk : ZBlk w' w.heap.size (markedZ l)
  ints : w'.ownsRow w.heap.size 75 1 vi 1 [.slice (some ⟨w.heap.size, 0, none⟩) (n + 2) (n + 2)]
  want : w'.ownsRow w.heap.size 75 1 vw 1 [u]
  but : But (fun b => b = hb) w w'

end Go.Proofs.YtjabhnhejbhgjaaGreatDoor

/- Hands.back: what was lent comes back. -/
namespace Go.Proofs.YtjabhnhejbhgjaaGreatDoor
open Go.RowKit

/-- h.rows: none, or the one list that was lent. -/
structure RowsIn (w : World) (B B2 : Nat) (v : Value) (rs : List Raw) (gs : List Nat) (k X lb lo : Nat) (al : Option Addr) (kr : Nat) : Prop where
  one : kr ≤ 1
  own : w.ownsRow B 40 1 v kr (List.replicate kr (.slice (some ⟨X, 0, none⟩) (k + 2) (k + 2)))
  list : 0 < kr → w.heap[X]? = some (.cells (lendCells rs gs k k) 33 (0, 0)) ∧ B ≤ X ∧ X < B2 ∧ lb < B ∧ (0 < k → al = some ⟨lb, lo, none⟩) ∧ ∀ i, i < k → w.cell? ⟨lb, lo + i, none⟩ = some (wat rs i).v

/-- h.ints, h.iwant: none, or the one list that was lent. -/
structure IntsIn (w : World) (B B2 : Nat) (vi vw : Value) (l : List Int) (n Z zb zo zc : Nat) (az : Option Addr) (ki : Nat) : Prop where
  one : ki ≤ 1
  ints : w.ownsRow B 75 1 vi ki (List.replicate ki (.slice (some ⟨Z, 0, none⟩) (n + 2) (n + 2)))
  want : w.ownsRow B 75 1 vw ki (List.replicate ki (.slice az n zc))
  blk : 0 < ki → ZBlk w Z (markedZ l) ∧ B ≤ Z ∧ Z < B2 ∧ l.length = n ∧ n ≤ 14073748835500 ∧ zb < B ∧ (0 < n → az = some ⟨zb, zo, none⟩) ∧ Zs w zb zo l

/-- The rows as their owner has them. -/
def Owned (w : World) (B : Nat) (rs : List Raw) (k : Nat) : Prop := ∀ i, i < k → RawIn w (wat rs i) ∧ (wat rs i).l.length ≤ 140737488355000 ∧ (0 < (wat rs i).l.length → ∀ g, (wat rs i).v.ownBlock = some g → g < B)

theorem Owned.but {w w' : World} {B : Nat} {rs : List Raw} {k : Nat} {S : Nat → Prop} (h : Owned w B rs k) (hb : But S w w') (hS : ∀ b, S b → B ≤ b) : Owned w' B rs k :=
  fun i hi => ⟨(h i hi).1.but hb (fun h0 g hg q => by have := hS g q; have := (h i hi).2.2 h0 g hg; omega), (h i hi).2⟩

theorem RowsIn.cell {w : World} {B B2 k X lb lo kr : Nat} {v : Value} {rs : List Raw} {gs : List Nat} {al : Option Addr} (h : RowsIn w B B2 v rs gs k X lb lo al kr) (hk : 0 < kr) :
    ∃ g c, v = .slice (some ⟨g, 0, none⟩) 1 c ∧ w.cell? ⟨g, 0, none⟩ = some (.slice (some ⟨X, 0, none⟩) (k + 2) (k + 2)) := by
  obtain rfl : kr = 1 := by have := h.one; omega
  obtain ⟨g, c, hv, _, _⟩ := h.own.form (by omega)
  refine ⟨g, c, hv, ?_⟩
  have := h.own.cells (g := g) (by rw [hv]; rfl) 0 _ rfl
  simpa [Addr.add] using this

theorem IntsIn.but {w w' : World} {B B2 n Z zb zo zc ki : Nat} {vi vw : Value} {l : List Int} {az : Option Addr} {S : Nat → Prop} (h : IntsIn w B B2 vi vw l n Z zb zo zc az ki) (hb : But S w w')
    (h1 : ∀ g, vi.ownBlock = some g → ¬ S g) (h2 : ∀ g, vw.ownBlock = some g → ¬ S g) (h3 : 0 < ki → ¬ S Z) (h4 : ∀ b, S b → B ≤ b) : IntsIn w' B B2 vi vw l n Z zb zo zc az ki :=
  ⟨h.one, hb.own h.ints h1, hb.own h.want h2, fun hk => by
    obtain ⟨q1, q2, q3, q4, q5, q6, q7, q8⟩ := h.blk hk
    exact ⟨q1.kept (hb.block Z q1.lt (h3 hk)), q2, q3, q4, q5, q6, q7, fun i hi => by
      rw [World.cell?_of_block (hb.block zb (q8.lt (by omega)) (fun q => by have := h4 zb q; omega))]
      exact q8 i hi⟩⟩

theorem own_len {w : World} {B n : Nat} {e : TypeId} {sz : Nat} {v : Value} {xs : List Value} (h : w.ownsRow B e sz v n xs) : ∃ a c, v = .slice a n c := by
  rcases h.2 with ⟨h1, h2⟩ | ⟨g, cap, cur, h1, _⟩
  · exact ⟨_, _, by rw [h1, h2]⟩
  · exact ⟨_, _, h1⟩

theorem own_cell {w : World} {B n sz : Nat} {e : TypeId} {v : Value} {xs : List Value} (h : w.ownsRow B e sz v n xs) {g : Nat} (hg : v.ownBlock = some g) {j : Nat} {u : Value} (hj : xs[j]? = some u) : w.cell? ⟨g, j, none⟩ = some u := by
  have h1 := h.cells hg j u hj
  have hadd : (⟨g, 0, none⟩ : Addr).add j = ⟨g, j, none⟩ := by unfold Addr.add; split <;> simp_all
  rw [hadd] at h1
  exact h1

theorem Tryz.nil_same (w : World) : (binOp .eql 33 (.slice none 0 0) (.slice none 0 0)).run Tryz.prog w = .ok (.bool true) w := by kernel_rfl

theorem Blk.bsN {w : World} {g : Nat} {l : List Gf.F} (h : Blk w g l) (n : Nat) : Bs w g 0 (l.take n) := by
  intro i hi
  have hi2 : i < l.length := by have : (l.take n).length ≤ l.length := by simp; omega
                                omega
  rw [h.bs i hi2]
  have : i < n := by simp at hi; omega
  simp [at_, List.getD, this]

theorem marked_take (l : List Gf.F) : (marked l).take l.length = l := by simp [marked]

set_option maxRecDepth 100000 in
set_option maxHeartbeats 4000000 in
theorem back_any (hb B B2 k kr ki X Z n lb lo lc zb zo zc : Nat) (al az : Option Addr) (s : HS) (rs : List Raw) (gs : List Nat) (l : List Int) (w : World) (hk : k ≤ 1048576) (hbB : hb < B) (hH : HAt w hb s)
    (hL : Lent w B s.in_ rs gs k) (hg2 : ∀ i, i < k → gat gs i < B2) (hO : Owned w B rs k) (hR : RowsIn w B B2 s.rows rs gs k X lb lo al kr) (hI : IntsIn w B B2 s.ints s.iwant l n Z zb zo zc az ki) :
    Calls Tryz.prog 82 #[.pointer (some ⟨hb, 2, none⟩), .slice al k lc] w fun e w' =>
      e = .returned (.bool true) ∧ HAt w' hb { s with in_ := .slice none 0 0, rows := .slice none 0 0, ints := .slice none 0 0, iwant := .slice none 0 0 } ∧ But (fun b => b = hb ∨ (B ≤ b ∧ b < B2)) w w' := by
  go_enter Tryz.func82, Tryz.ntmps82
  go_wp2_with fail
  go_loopw [5, 6] (fun t5 t6 wr => ∃ i : Nat, i ≤ kr ∧ t5 = .bool true ∧ t6 = .int .i64 (i : Int) ∧ (i = 0 → wr = w) ∧ But (fun b => b = X ∧ 0 < i) w wr) (fun _ t _ => kr - (intOf t).toNat)
  case atStart => exact ⟨0, by omega, rfl, rfl, fun _ => rfl, But.refl _ _⟩
  case round =>
    obtain ⟨i, hi, rfl, rfl, hw0, hbut⟩ := hrel
    by_cases hlt : i < kr
    · have hkr : kr = 1 := by have := hR.one; omega
      have hi0 : i = 0 := by omega
      subst hi0
      obtain rfl := (hw0 rfl).symm
      clear hw0
      obtain ⟨g, c, hv, hcg⟩ := hR.cell hlt
      obtain ⟨hX, hBX, hX2, hlb, hal, hcl⟩ := hR.list hlt
      have hc1 : w.cell? ⟨hb, 3, none⟩ = some (.slice (some ⟨g, 0, none⟩) 1 c) := by rw [hH.cell 1, ← hv]; rfl
      have hn0 : w.cell? ⟨X, k, none⟩ = some (.slice none 0 0) := by rw [cell_of_row w X k _ _ _ hX]; exact lendCells_rest rs gs k k k (by omega) (by omega)
      have hn1 : w.cell? ⟨X, k + 1, none⟩ = some (.slice none 0 0) := by rw [cell_of_row w X (k + 1) _ _ _ hX]; exact lendCells_rest rs gs k k (k + 1) (by omega) (by omega)
      have HX : Hid (w.heap[X]? = some (.cells (lendCells rs gs k k) 33 (0, 0))) := hX
      have HV : Hid (s.rows = .slice (some ⟨g, 0, none⟩) 1 c) := hv
      have HKR : Hid (kr = 1) := hkr
      clear hX hv hkr
      have hnil := Tryz.nil_same
      go_wp2_with fail
      go_loopw [5, 9] (fun t5 t9 wr => ∃ (j nq : Nat), j ≤ k ∧ t5 = .bool true ∧ t9 = .int .i64 (j : Int) ∧ wr = w.drewN nq) (fun _ t _ => k - (intOf t).toNat)
      case atStart => exact ⟨0, 0, by omega, rfl, rfl, rfl⟩
      case round =>
        obtain ⟨j, nq, hj, rfl, rfl, rfl⟩ := hrel
        by_cases hlt2 : j < k
        · obtain rfl := hal (by omega)
          have hx1 : w.cell? ⟨X, j, none⟩ = some (.slice (some ⟨gat gs j, 0, none⟩) (wat rs j).l.length ((wat rs j).l.length + 2)) := by rw [cell_of_row w X j _ _ _ HX.out]; exact lendCells_at rs gs k k j hlt2 hlt2
          have hx2 := hcl j hlt2
          have hv1 := fun nq => (((hL.blk j hlt2).bsN (wat rs j).l.length).convN (wat rs j).l.length ((wat rs j).l.length + 2) (by rw [marked_take]) nq)
          rw [marked_take] at hv1
          have hv2 := fun nq => (hO j hlt2).1.conv nq
          have hj1 : (j : Int) < (k : Int) := by omega
          have hj2 : (j : Int) < (k : Int) + 2 := by omega
          have hss : ((str (wat rs j).l).toList == (str (wat rs j).l).toList) = true := by rw [beq_iff_eq]
          go_wp2_with fail
          go_quiet (fail)
          go_wp2_with fail
          refine ⟨?_, by simp [intOf]; omega⟩
          (repeat apply Exists.intro)
          exact ⟨⟨j + 1, _, by omega, rfl, by go_num, rfl⟩, rfl⟩
        · obtain rfl : j = k := by omega
          go_wp2_with fail
          have hXs : Hid (∃ cs : Array Value, cs.size = j + 2 ∧ (w.drewN nq).heap[X]? = some (.cells cs 33 (0, 0))) := ⟨_, by simp [lendCells], HX.out⟩
          go_loopw [10] (fun t10 wr => ∃ (q : Nat), q ≤ j + 2 ∧ t10 = .int .i64 (q : Int) ∧ Hid (∃ cs : Array Value, cs.size = j + 2 ∧ wr.heap[X]? = some (.cells cs 33 (0, 0))) ∧ But (fun b => b = X) w wr) (fun t _ => j + 2 - (intOf t).toNat)
          case atStart => exact ⟨0, by omega, rfl, hXs, ⟨rfl, rfl, rfl, Nat.le_refl _, fun _ _ _ => rfl⟩⟩
          case round =>
            obtain ⟨q, hq, rfl, HXq, hbq⟩ := hrel
            by_cases hlt3 : q < j + 2
            · obtain ⟨cs, hcs, hXq⟩ := HXq.out
              have hcq : wr.cell? ⟨X, q, none⟩ = some cs[q] := by rw [cell_of_row wr X q _ _ _ hXq]; simp [hcs, hlt3]
              have hfq := frozen_of_row wr X q _ _ hXq
              have hq2 : (q : Int) < (j : Int) + 2 := by omega
              have HX6 : Hid (∃ cs : Array Value, cs.size = j + 2 ∧ (wr.setCell ⟨X, q, none⟩ (.slice none 0 0)).heap[X]? = some (.cells cs 33 (0, 0))) := ⟨_, by simpa using hcs, heap_setCell_same _ _ _ _ _ _ hXq⟩
              have hb6 := hbq.setCell (p := ⟨X, q, none⟩) (.inl rfl) (.slice none 0 0)
              clear hXq
              go_wp2_with fail
              exact ⟨⟨q + 1, by omega, by go_num, HX6, hb6⟩, by simp [intOf]; omega⟩
            · obtain rfl : q = j + 2 := by omega
              have hb7 : But (fun b => b = X ∧ 0 < 0 + 1) w wr := hbq.wide (fun b _ e => ⟨e, by omega⟩)
              go_wp2_with fail
              refine ⟨?_, by rw [HKR.out]; simp [intOf]⟩
              exact ⟨0 + 1, by rw [HKR.out]; exact Nat.le_refl _, rfl, by go_num, fun q => by omega, hb7⟩
    · obtain rfl : i = kr := by omega
      have hXt : 0 < i → w.heap[X]? = some (.cells (lendCells rs gs k k) 33 (0, 0)) ∧ B ≤ X ∧ X < B2 := fun q => ⟨(hR.list q).1, (hR.list q).2.1, (hR.list q).2.2.1⟩
      have HA : Hid (HAt wr hb s) := hH.kept (hbut.block hb hH.lt (fun q => by have := (hXt q.2).2.1; omega))
      have hLA : Lent wr B s.in_ rs gs k := hL.kept hbut (fun g hg q => own_ne hL.own hg (hXt q.2).1 (by decide) q.1) (fun j hj q => by
        have h1 := hL.blk j hj
        unfold Blk at h1
        rw [q.1, (hXt q.2).1] at h1
        simp only [Option.some.injEq, Obj.cells.injEq] at h1
        exact absurd h1.2.1 (by decide))
      have hOA : Owned wr B rs k := hO.but hbut (fun b q => by rw [q.1]; exact (hXt q.2).2.1)
      have hIA : IntsIn wr B B2 s.ints s.iwant l n Z zb zo zc az ki := hI.but hbut (fun g hg q => own_ne hI.ints hg (hXt q.2).1 (by decide) q.1) (fun g hg q => own_ne hI.want hg (hXt q.2).1 (by decide) q.1) (fun hk q => by
        have h1 := (hI.blk hk).1
        unfold ZBlk at h1
        rw [q.1, (hXt q.2).1] at h1
        simp only [Option.some.injEq, Obj.cells.injEq] at h1
        exact absurd h1.2.1 (by decide)) (fun b q => by rw [q.1]; exact (hXt q.2).2.1)
      have hbA : But (fun b => B ≤ b ∧ b < B2) w wr := hbut.wide (fun b _ q => by rw [q.1]; exact (hXt q.2).2)
      have hcr : wr.cell? ⟨hb, 3, none⟩ = some s.rows := HA.out.cell 1
      have hlenR : ∃ a c, s.rows = .slice a i c := by
        rcases hR.own.2 with ⟨h1, h2⟩ | ⟨g, cap, cur, h1, _⟩
        · exact ⟨_, _, by rw [h1, h2]⟩
        · exact ⟨_, _, h1⟩
      obtain ⟨ra, rc, hra⟩ := hlenR
      rw [hra] at hcr
      have HRA : Hid (s.rows = .slice ra i rc) := hra
      clear hra hbut hXt hw0 hlt
      generalize hWA : wr = wA at *
      clear hWA
      have hlow := hLA.low
      have HAP : Hid (∀ i j, i < k → j < k → gat gs i = gat gs j → i = j) := hLA.apart
      have hownA := hLA.own
      have HBA : Hid (∀ j, 0 ≤ j → j < k → Blk wA (gat gs j) (marked (wat rs j).l)) := fun j _ hj => hLA.blk j hj
      clear hLA hH hL hO hR hI
      go_wp2_with fail
      go_loopw [5, 11] (fun t5 t11 wr => ∃ (i : Nat), i ≤ k ∧ t5 = .bool true ∧ t11 = .int .i64 (i : Int) ∧ Hid (HAt wr hb s) ∧ wr.ownsRow B 221 2 s.in_ k (lentCells rs gs k) ∧ Hid (∀ j, i ≤ j → j < k → Blk wr (gat gs j) (marked (wat rs j).l)) ∧ Owned wr B rs k ∧ IntsIn wr B B2 s.ints s.iwant l n Z zb zo zc az ki ∧ But (fun b => B ≤ b ∧ b < B2) w wr) (fun _ t _ => k - (intOf t).toNat)
      case atStart => exact ⟨0, by omega, rfl, rfl, HA, hownA, HBA, hOA, hIA, hbA⟩
      case round =>
        clear HA hownA HBA hOA hIA hbA hcr
        obtain ⟨i4, hi4, rfl, rfl, HA, hownA, HBA, hOA, hIA, hbA⟩ := hrel
        have hci : wr.cell? ⟨hb, 2, none⟩ = some s.in_ := HA.out.cell 0
        by_cases hlt : i4 < k
        · obtain ⟨wB, rfl⟩ : ∃ x, x = wr := ⟨wr, rfl⟩
          obtain ⟨gi, ci, hvi, _, _⟩ := hownA.form (by omega)
          have hall : wB.cell? ⟨gi, i4 * 2, none⟩ = some (.slice (some ⟨gat gs i4, 0, none⟩) ((wat rs i4).l.length + 2) ((wat rs i4).l.length + 2)) := by
            exact own_cell hownA (by rw [hvi]; rfl) (lentCells_all rs gs k i4 hlt)
          have hwant : wB.cell? ⟨gi, i4 * 2 + 1, none⟩ = some (wat rs i4).v := by
            exact own_cell hownA (by rw [hvi]; rfl) (lentCells_want rs gs k i4 hlt)
          rw [hvi] at hci
          have HVI : Hid (s.in_ = .slice (some ⟨gi, 0, none⟩) k ci) := hvi
          clear hvi
          have hik : (i4 : Int) < (k : Int) := by omega
          obtain ⟨hraw, hml, _⟩ := hOA i4 hlt
          obtain ⟨m, hm⟩ : ∃ m, m = (wat rs i4).l.length := ⟨_, rfl⟩
          have hG := HBA.out i4 (Nat.le_refl _) hlt
          have hG2 := hG.bsN m
          rw [hm, marked_take] at hG2
          have hv1 := fun nq => hG2.convN m (m + 2) hm.symm nq
          have hv2 := fun nq => hraw.conv nq
          have hx0 : wB.cell? ⟨gat gs i4, m, none⟩ = some (.int .u8 165) := by
            have := hG.bs m (by simp [marked, hm])
            rw [Nat.zero_add] at this
            rw [this, hm]; simp [marked, at_, List.getD]
          have hx1 : wB.cell? ⟨gat gs i4, m + 1, none⟩ = some (.int .u8 165) := by
            have := hG.bs (m + 1) (by simp [marked, hm])
            rw [Nat.zero_add] at this
            rw [this, hm]; simp [marked, at_, List.getD]
          have hss : ((str (wat rs i4).l).toList == (str (wat rs i4).l).toList) = true := by rw [beq_iff_eq]
          rw [← hm] at hall hml
          have HML : Hid (m = (wat rs i4).l.length) := hm
          have HG : Hid (Blk wB (gat gs i4) (marked (wat rs i4).l)) := hG
          clear hm hG hG2 hraw
          go_wp2_with fail
          go_quiet (fail)
          go_wp2_with fail
          have hGs : Hid (∃ cs : Array Value, cs.size = m + 2 ∧ (wB.drewN nq).heap[gat gs i4]? = some (.cells cs 5 (0, 0))) := ⟨_, by simp [enc, marked, HML.out], HG.out⟩
          clear hv1 hv2 hx0 hx1 hall hwant hci hss
          go_loopw [14] (fun t14 wq => ∃ (q : Nat), q ≤ m + 2 ∧ t14 = .int .i64 (q : Int) ∧ Hid (∃ cs : Array Value, cs.size = m + 2 ∧ wq.heap[gat gs i4]? = some (.cells cs 5 (0, 0))) ∧ But (fun b => b = gat gs i4) wB wq) (fun t _ => m + 2 - (intOf t).toNat)
          case atStart => exact ⟨0, by omega, rfl, hGs, ⟨rfl, rfl, rfl, Nat.le_refl _, fun _ _ _ => rfl⟩⟩
          case round =>
            clear hGs
            obtain ⟨q, hq, rfl, HXq, hbq⟩ := hrel
            by_cases hlt3 : q < m + 2
            · obtain ⟨cs, hcs, hXq⟩ := HXq.out
              have hcq : wr.cell? ⟨gat gs i4, q, none⟩ = some cs[q] := by rw [cell_of_row wr _ q _ _ _ hXq]; simp [hcs, hlt3]
              have hfq := frozen_of_row wr _ q _ _ hXq
              have hq2 : (q : Int) < (m : Int) + 2 := by omega
              have HX6 : Hid (∃ cs : Array Value, cs.size = m + 2 ∧ (wr.setCell ⟨gat gs i4, q, none⟩ (.int .u8 90)).heap[gat gs i4]? = some (.cells cs 5 (0, 0))) := ⟨_, by simpa using hcs, heap_setCell_same _ _ _ _ _ _ hXq⟩
              have hb6 := hbq.setCell (p := ⟨gat gs i4, q, none⟩) (.inl rfl) (.int .u8 90)
              clear hXq
              go_wp2_with fail
              exact ⟨⟨q + 1, by omega, by go_num, HX6, hb6⟩, by simp [intOf]; omega⟩
            · obtain rfl : q = m + 2 := by omega
              have hlo := hlow i4 hlt
              have hh2 := hg2 i4 hlt
              have HA5 : Hid (HAt wr hb s) := HA.out.kept (hbq.block hb HA.out.lt (fun q => by omega))
              have hown5 := hbq.own hownA (fun g hg q => own_ne hownA hg HG.out (by decide) q)
              have HB5 : Hid (∀ j, i4 + 1 ≤ j → j < k → Blk wr (gat gs j) (marked (wat rs j).l)) := fun j h1 h2 => (HBA.out j (by omega) h2).kept (hbq.block _ (HBA.out j (by omega) h2).lt (fun q => by have := HAP.out j i4 h2 hlt q; omega))
              have hO5 := hOA.but hbq (fun b q => by rw [q]; exact hlo)
              have hI5 := hIA.but hbq (fun g hg q => own_ne hIA.ints hg HG.out (by decide) q) (fun g hg q => own_ne hIA.want hg HG.out (by decide) q) (fun hk q => by
                have h1 := (hIA.blk hk).1
                have h2 := HG.out
                unfold ZBlk at h1
                unfold Blk at h2
                rw [q, h2] at h1
                simp only [Option.some.injEq, Obj.cells.injEq] at h1
                exact absurd h1.2.1 (by decide)) (fun b q => by rw [q]; exact hlo)
              have hb5 := hbA.then hbq (fun b _ q => by rw [q]; exact ⟨hlo, hh2⟩)
              clear HA hownA HBA hOA hIA hbA hbq HXq
              go_wp2_with fail
              refine ⟨?_, by simp [intOf]; omega⟩
              first
                | exact ⟨i4 + 1, by omega, rfl, by go_num, HA5, hown5, HB5, hO5, hI5, hb5⟩
                | ((repeat apply Exists.intro); exact ⟨⟨i4 + 1, by omega, rfl, by go_num, HA5, hown5, HB5, hO5, hI5, hb5⟩, rfl⟩)
        · obtain rfl : i4 = k := by omega
          obtain ⟨wC, rfl⟩ : ∃ x, x = wr := ⟨wr, rfl⟩
          obtain ⟨ia, ic, hia⟩ := own_len hownA
          rw [hia] at hci
          have HIA : Hid (s.in_ = .slice ia i4 ic) := hia
          clear hia
          go_wp2_with fail
          go_loopw [5, 15] (fun t5 t15 wr => ∃ i : Nat, i ≤ ki ∧ t5 = .bool true ∧ t15 = .int .i64 (i : Int) ∧ (i = 0 → wr = wC) ∧ But (fun b => b = Z ∧ 0 < i) wC wr) (fun _ t _ => ki - (intOf t).toNat)
          case atStart => exact ⟨0, by omega, rfl, rfl, fun _ => rfl, But.refl _ _⟩
          case round =>
            obtain ⟨i6, hi6, rfl, rfl, hw0, hbut⟩ := hrel
            by_cases hlt6 : i6 < ki
            · have hki : ki = 1 := by have := hIA.one; omega
              have hi0 : i6 = 0 := by omega
              subst hi0
              obtain rfl := (hw0 rfl).symm
              clear hw0
              obtain ⟨hZb, hBZ, hZ2, hzl, hnn, hzb, haz, hZs⟩ := hIA.blk hlt6
              have hints := hIA.ints
              have hwants := hIA.want
              rw [hki] at hints hwants
              obtain ⟨gi, ci, hvi, _, _⟩ := hints.form (by omega)
              obtain ⟨gw, cw, hvw, _, _⟩ := hwants.form (by omega)
              have hc2 : wC.cell? ⟨hb, 4, none⟩ = some (.slice (some ⟨gi, 0, none⟩) 1 ci) := by rw [HA.out.cell 2, ← hvi]; rfl
              have hc3 : wC.cell? ⟨hb, 5, none⟩ = some (.slice (some ⟨gw, 0, none⟩) 1 cw) := by rw [HA.out.cell 3, ← hvw]; rfl
              have hcg : wC.cell? ⟨gi, 0, none⟩ = some (.slice (some ⟨Z, 0, none⟩) (n + 2) (n + 2)) := own_cell hints (by rw [hvi]; rfl) rfl
              have hcw : wC.cell? ⟨gw, 0, none⟩ = some (.slice az n zc) := own_cell hwants (by rw [hvw]; rfl) rfl
              have hn0 : wC.cell? ⟨Z, n, none⟩ = some (.int .i64 (-7)) := by
                have := hZb.zs n (by simp [markedZ, hzl])
                rw [Nat.zero_add] at this
                rw [this]; simp [markedZ, zat, List.getD, ← hzl]
              have hn1 : wC.cell? ⟨Z, n + 1, none⟩ = some (.int .i64 (-7)) := by
                have := hZb.zs (n + 1) (by simp [markedZ, hzl])
                rw [Nat.zero_add] at this
                rw [this]; simp [markedZ, zat, List.getD, ← hzl]
              have HKI : Hid (ki = 1) := hki
              have HVI : Hid (s.ints = .slice (some ⟨gi, 0, none⟩) 1 ci) := hvi
              have HZL : Hid (l.length = n) := hzl
              have HZB : Hid (ZBlk wC Z (markedZ l)) := hZb
              clear hki hvi hvw hzl hZb hints hwants hci
              go_wp2_with fail
              go_loopw [5, 18] (fun t5 t18 wr => ∃ (j nq : Nat), j ≤ n ∧ t5 = .bool true ∧ t18 = .int .i64 (j : Int) ∧ wr = wC.drewN nq) (fun _ t _ => n - (intOf t).toNat)
              case atStart => exact ⟨0, 0, by omega, rfl, rfl, rfl⟩
              case round =>
                obtain ⟨j, nq, hj, rfl, rfl, rfl⟩ := hrel
                by_cases hlt7 : j < n
                · obtain rfl := haz (by omega)
                  have hx1 : wC.cell? ⟨Z, j, none⟩ = some (.int .i64 (zat l j)) := by
                    have := HZB.out.zs j (by simp [markedZ, HZL.out]; omega)
                    rw [Nat.zero_add] at this
                    have hjl : j < l.length := by rw [HZL.out]; exact hlt7
                    rw [this]; simp [markedZ, zat, List.getD, List.getElem?_append_left hjl]
                  have hx2 := hZs j (by rw [HZL.out]; exact hlt7)
                  have hj1 : (j : Int) < (n : Int) := by omega
                  have hj2 : (j : Int) < (n : Int) + 2 := by omega
                  have hss : (zat l j == zat l j) = true := by rw [beq_iff_eq]
                  go_wp2_with fail
                  go_quiet (fail)
                  go_wp2_with fail
                  refine ⟨?_, by simp [intOf]; omega⟩
                  first
                    | exact ⟨j + 1, _, by omega, rfl, by go_num, rfl⟩
                    | ((repeat apply Exists.intro); exact ⟨⟨j + 1, _, by omega, rfl, by go_num, rfl⟩, rfl⟩)
                · obtain rfl : j = n := by omega
                  go_wp2_with fail
                  have hXs : Hid (∃ cs : Array Value, cs.size = j + 2 ∧ (wC.drewN nq).heap[Z]? = some (.cells cs 3 (0, 0))) := ⟨_, by simp [encZ, markedZ, HZL.out], HZB.out⟩
                  go_loopw [19] (fun t19 wr => ∃ (q : Nat), q ≤ j + 2 ∧ t19 = .int .i64 (q : Int) ∧ Hid (∃ cs : Array Value, cs.size = j + 2 ∧ wr.heap[Z]? = some (.cells cs 3 (0, 0))) ∧ But (fun b => b = Z) wC wr) (fun t _ => j + 2 - (intOf t).toNat)
                  case atStart => exact ⟨0, by omega, rfl, hXs, ⟨rfl, rfl, rfl, Nat.le_refl _, fun _ _ _ => rfl⟩⟩
                  case round =>
                    obtain ⟨q, hq, rfl, HXq, hbq⟩ := hrel
                    by_cases hlt8 : q < j + 2
                    · obtain ⟨cs, hcs, hXq⟩ := HXq.out
                      have hcq : wr.cell? ⟨Z, q, none⟩ = some cs[q] := by rw [cell_of_row wr Z q _ _ _ hXq]; simp [hcs, hlt8]
                      have hfq := frozen_of_row wr Z q _ _ hXq
                      have hq2 : (q : Int) < (j : Int) + 2 := by omega
                      have HX6 : Hid (∃ cs : Array Value, cs.size = j + 2 ∧ (wr.setCell ⟨Z, q, none⟩ (.int .i64 3)).heap[Z]? = some (.cells cs 3 (0, 0))) := ⟨_, by simpa using hcs, heap_setCell_same _ _ _ _ _ _ hXq⟩
                      have hb6 := hbq.setCell (p := ⟨Z, q, none⟩) (.inl rfl) (.int .i64 3)
                      clear hXq
                      go_wp2_with fail
                      exact ⟨⟨q + 1, by omega, by go_num, HX6, hb6⟩, by simp [intOf]; omega⟩
                    · obtain rfl : q = j + 2 := by omega
                      have hb7 : But (fun b => b = Z ∧ 0 < 0 + 1) wC wr := hbq.wide (fun b _ e => ⟨e, by omega⟩)
                      go_wp2_with fail
                      refine ⟨?_, by rw [HKI.out]; simp [intOf]⟩
                      exact ⟨0 + 1, by rw [HKI.out]; exact Nat.le_refl _, rfl, by go_num, fun q => by omega, hb7⟩
            · obtain rfl : i6 = ki := by omega
              have hZt : 0 < i6 → B ≤ Z ∧ Z < B2 := fun q => ⟨(hIA.blk q).2.1, (hIA.blk q).2.2.1⟩
              have HAE : Hid (HAt wr hb s) := HA.out.kept (hbut.block hb HA.out.lt (fun q => by have := (hZt q.2).1; omega))
              have hbE : But (fun b => b = hb ∨ (B ≤ b ∧ b < B2)) w wr := (hbA.wide (fun b _ q => .inr q)).then hbut (fun b _ q => .inr (by rw [q.1]; exact hZt q.2))
              obtain ⟨za, zc2, hza⟩ := own_len hIA.ints
              have hcz : wr.cell? ⟨hb, 4, none⟩ = some (.slice za i6 zc2) := by rw [HAE.out.cell 2, ← hza]; rfl
              have hq0 : wr.cell? ⟨hb, 2, none⟩ = some s.in_ := HAE.out.cell 0
              have hq1 : wr.cell? ⟨hb, 3, none⟩ = some s.rows := HAE.out.cell 1
              have hq3 : wr.cell? ⟨hb, 5, none⟩ = some s.iwant := HAE.out.cell 3
              have hfz := HAE.out.frozen
              clear hza hbut hZt hw0 hbA
              go_wp2_with fail
              go_ret
              exact ⟨rfl, (((HAE.out.set0 _).set1 _).set2 _).set3 _, (((hbE.setCell (.inl (.inl rfl)) _).setCell (.inl (.inl rfl)) _).setCell (.inl (.inl rfl)) _).setCell (.inl (.inl rfl)) _⟩

end Go.Proofs.YtjabhnhejbhgjaaGreatDoor

/- What came out and was kept: bytes, full of their mark. -/
namespace Go.Proofs.YtjabhnhejbhgjaaGreatDoor
open Go.RowKit

/-- A slice of n bytes, all of them m. -/
def KOk (w : World) (v : Value) (n m : Nat) : Prop :=
  (∃ c, v = .slice none 0 c ∧ n = 0) ∨ (∃ g c cs, v = .slice (some ⟨g, 0, none⟩) n c ∧ w.heap[g]? = some (.cells cs 5 (0, 0)) ∧ ∀ j, j < n → cs[j]? = some (.int .u8 (m : Int)))

theorem KOk.but {w w' : World} {v : Value} {n m : Nat} {S : Nat → Prop} (h : KOk w v n m) (hb : But S w w') (hn : ∀ g, v.ownBlock = some g → ¬ S g) : KOk w' v n m := by
  rcases h with h | ⟨g, c, cs, h1, h2, h3⟩
  · exact .inl h
  · exact .inr ⟨g, c, cs, h1, by rw [hb.block g (Array.getElem?_eq_some_iff.1 h2).1 (hn g (by rw [h1]; rfl))]; exact h2, h3⟩

theorem KOk.kept {w w' : World} {v : Value} {n m : Nat} (h : KOk w v n m) (hk : ∀ g, v.ownBlock = some g → w'.heap[g]? = w.heap[g]?) : KOk w' v n m := by
  rcases h with h | ⟨g, c, cs, h1, h2, h3⟩
  · exact .inl h
  · exact .inr ⟨g, c, cs, h1, by rw [hk g (by rw [h1]; rfl)]; exact h2, h3⟩

theorem KOk.lt {w : World} {v : Value} {n m g : Nat} (h : KOk w v n m) (hg : v.ownBlock = some g) : g < w.heap.size ∧ ∃ cs, w.heap[g]? = some (.cells cs 5 (0, 0)) := by
  rcases h with ⟨c, h1, _⟩ | ⟨g', c, cs, h1, h2, h3⟩
  · rw [h1] at hg; simp [Value.ownBlock] at hg
  · rw [h1] at hg
    simp [Value.ownBlock] at hg
    subst hg
    exact ⟨(Array.getElem?_eq_some_iff.1 h2).1, cs, h2⟩

theorem own_kok {w : World} {B n m : Nat} {v : Value} (h : w.ownsRow B 5 1 v n (List.replicate n (.int .u8 (m : Int)))) : KOk w v n m := by
  rcases h.2 with ⟨h1, h2⟩ | ⟨g, cap, cur, h1, _, h2, h3, _, h4, h5⟩
  · exact .inl ⟨0, h1, h2⟩
  · refine .inr ⟨g, cap, cur, h1, h2, fun j hj => ?_⟩
    rw [Nat.mul_one] at h5
    have h6 : (cur.toList.take n)[j]? = some (.int .u8 (m : Int)) := by rw [h5]; simp [hj]
    rw [List.getElem?_take, if_pos hj] at h6
    simpa using h6

/-- A shorter slice of the same block. -/
theorem own_kok_less {w : World} {B n k m g c : Nat} {v : Value} (h : w.ownsRow B 5 1 v n (List.replicate n (.int .u8 (m : Int)))) (hg : v.ownBlock = some g) (hk : k ≤ n) : KOk w (.slice (some ⟨g, 0, none⟩) k c) k m := by
  rcases own_kok h with ⟨c', h1, _⟩ | ⟨g', c', cs, h1, h2, h3⟩
  · rw [h1] at hg; simp [Value.ownBlock] at hg
  · rw [h1] at hg
    simp [Value.ownBlock] at hg
    subst hg
    exact .inr ⟨g', c, cs, rfl, h2, fun j hj => h3 j (by omega)⟩

structure Ent where
  v : Value
  n : Nat
  m : Nat

/-- The lists of what was kept, and of its marks. -/
structure Outs (w : World) (B : Nat) (vo vm : Value) (es : List Ent) : Prop where
  own : w.ownsRow B 33 1 vo es.length (es.map (·.v))
  marks : w.ownsRow B 3 1 vm es.length (es.map fun e => .int .i64 (e.m : Int))
  each : ∀ e ∈ es, KOk w e.v e.n e.m ∧ e.m < 250 ∧ e.n ≤ 140737488355328

theorem Outs.but {w w' : World} {B : Nat} {vo vm : Value} {es : List Ent} {S : Nat → Prop} (h : Outs w B vo vm es) (hb : But S w w') (h1 : ∀ g, vo.ownBlock = some g → ¬ S g) (h2 : ∀ g, vm.ownBlock = some g → ¬ S g) (h3 : ∀ e ∈ es, ∀ g, e.v.ownBlock = some g → ¬ S g) : Outs w' B vo vm es :=
  ⟨hb.own h.own h1, hb.own h.marks h2, fun e he => ⟨(h.each e he).1.but hb (h3 e he), (h.each e he).2⟩⟩

/-- One cell of a list that is owned, written. -/
theorem own_set {w : World} {B g n c i : Nat} {e : TypeId} {xs : List Value} {u : Value} (h : w.ownsRow B e 1 (.slice (some ⟨g, 0, none⟩) n c) n xs) : (w.setCell ⟨g, i, none⟩ u).ownsRow B e 1 (.slice (some ⟨g, 0, none⟩) n c) n (xs.set i u) := by
  have hl := h.1
  rcases h.2 with ⟨h1, _⟩ | ⟨g', cap, cur, h1, h2, h3, h4, h5, h6, h7⟩
  · cases h1
  · simp only [Value.slice.injEq, Option.some.injEq, Addr.mk.injEq] at h1
    obtain ⟨⟨rfl, _⟩, _, rfl⟩ := h1
    refine ⟨by simpa using hl, .inr ⟨g, c, cur.setIfInBounds i u, rfl, h2, heap_setCell_same _ _ _ _ _ _ h3, h4, h5, by simpa using h6, ?_⟩⟩
    rw [← h7, Array.toList_setIfInBounds, List.take_set]

theorem own_frozen {w : World} {B n sz : Nat} {e : TypeId} {v : Value} {xs : List Value} (h : w.ownsRow B e sz v n xs) {g : Nat} (hg : v.ownBlock = some g) (i : Nat) : w.frozen? ⟨g, i, none⟩ = false := by
  obtain ⟨cur, hc⟩ := own_block h hg
  exact frozen_of_row w g i _ _ hc

theorem own_own_ne {w : World} {B B' n n' sz sz' : Nat} {e e' : TypeId} {v v' : Value} {xs xs' : List Value} (h : w.ownsRow B e sz v n xs) (h' : w.ownsRow B' e' sz' v' n' xs') (hne : e ≠ e') : ∀ g, v.ownBlock = some g → v'.ownBlock ≠ some g := by
  intro g hg hg'
  obtain ⟨cur, hc⟩ := own_block h' hg'
  exact own_ne h hg hc hne rfl

theorem KOk.ne_own {w : World} {v : Value} {n m : Nat} (h : KOk w v n m) {B n' sz' : Nat} {e' : TypeId} {v' : Value} {xs' : List Value} (h' : w.ownsRow B e' sz' v' n' xs') (hne : e' ≠ 5) : ∀ g, v.ownBlock = some g → v'.ownBlock ≠ some g := by
  intro g hg hg'
  obtain ⟨_, cs, hc⟩ := h.lt hg
  exact own_ne h' hg' hc hne rfl

theorem KOk.ne_hands {w : World} {v : Value} {n m hb : Nat} {s : HS} (h : KOk w v n m) (hH : HAt w hb s) : ∀ g, v.ownBlock = some g → g ≠ hb := by
  intro g hg q
  obtain ⟨_, cs, hc⟩ := h.lt hg
  unfold HAt at hH
  rw [q, hH] at hc
  simp only [Option.some.injEq, Obj.cells.injEq] at hc
  exact absurd hc.2.1 (by decide)

/-- Where keep stands: eo is kept, em has its marks, lv is the row with k marks behind. -/
structure KS (w wr : World) (hb B Bv N n M : Nat) (s : HS) (es : List Ent) (v lv vo vm : Value) (eo em : List Ent) (k : Nat) : Prop where
  hands : HAt wr hb { s with n := (N : Int) + 1, out := vo, marks := vm }
  own : wr.ownsRow B 33 1 vo eo.length (eo.map (·.v))
  marks : wr.ownsRow B 3 1 vm em.length (em.map fun e => .int .i64 (e.m : Int))
  each : ∀ e ∈ eo, KOk wr e.v e.n e.m ∧ e.m < 250 ∧ e.n ≤ 140737488355328
  row : wr.ownsRow Bv 5 1 lv (n + k) (List.replicate (n + k) (.int .u8 (M : Int)))
  outAt : ∀ b, vo.ownBlock = some b → s.out.ownBlock = some b ∨ w.heap.size ≤ b
  marksAt : ∀ b, vm.ownBlock = some b → s.marks.ownBlock = some b ∨ w.heap.size ≤ b
  lvAt : ∀ b, lv.ownBlock = some b → v.ownBlock = some b ∨ w.heap.size ≤ b
  newAt : ∃ es', eo = es ++ es' ∧ ∀ e ∈ es', ∀ b, e.v.ownBlock = some b → v.ownBlock = some b ∨ w.heap.size ≤ b
  same : ∀ e ∈ eo, ∀ g, e.v.ownBlock = some g → lv.ownBlock = some g → e.m = M ∧ e.n ≤ n + k
  but : But (fun b => b = hb ∨ s.out.ownBlock = some b ∨ s.marks.ownBlock = some b ∨ v.ownBlock = some b) w wr

theorem KS.pushOut {w wr w2 : World} {hb B Bv N n M : Nat} {s : HS} {es : List Ent} {v lv vo vm vo' : Value} {eo em : List Ent} {k : Nat} (h : KS w wr hb B Bv N n M s es v lv vo vm eo em k) (hM : M < 250) (hnk : n + k ≤ 140737488355328)
    (hb2 : But (fun b => vo.ownBlock = some b) wr w2) (ho2 : w2.ownsRow B 33 1 vo' (eo.length + 1) (eo.map (·.v) ++ [lv])) (hat : ∀ b, vo'.ownBlock = some b → vo.ownBlock = some b ∨ wr.heap.size ≤ b) :
    KS w (w2.setCell ⟨hb, 7, none⟩ vo') hb B Bv N n M s es v lv vo' vm (eo ++ [⟨lv, n + k, M⟩]) em k := by
  have hs := h.but.size
  have hvo : ∀ b, vo.ownBlock = some b → b ≠ hb := fun b hq => own_ne h.own hq h.hands (by decide)
  have hb3 : But (fun b => vo.ownBlock = some b ∨ b = hb) wr (w2.setCell ⟨hb, 7, none⟩ vo') := (hb2.wide (fun _ _ q => .inl q)).setCell (.inl (.inr rfl)) _
  have hH2 : HAt w2 hb { s with n := (N : Int) + 1, out := vo, marks := vm } := h.hands.kept (hb2.block hb h.hands.lt (fun q => hvo hb q rfl))
  have farK : ∀ u a b, KOk wr u a b → ∀ g, u.ownBlock = some g → ¬ (vo.ownBlock = some g ∨ g = hb) := fun u a b hu g hg q => by
    rcases q with q | q
    · exact hu.ne_own h.own (by decide) g hg q
    · exact hu.ne_hands h.hands g hg q
  have hrow : (w2.setCell ⟨hb, 7, none⟩ vo').ownsRow Bv 5 1 lv (n + k) (List.replicate (n + k) (.int .u8 (M : Int))) := hb3.own h.row (farK _ _ _ (own_kok h.row))
  refine ⟨hH2.set5 _, ?_, hb3.own h.marks (fun g hg q => ?_), fun e he => ?_, hrow, fun b hq => ?_, h.marksAt, h.lvAt, ?_, fun e he => ?_, h.but.then hb3 (fun b hlt q => ?_)⟩
  · have := own_of_block ho2 (fun b hq => Below.heap_setCell w2 ⟨hb, 7, none⟩ vo' b (own_ne ho2 hq hH2 (by decide)))
    simpa using this
  · rcases q with q | q
    · exact own_own_ne h.marks h.own (by decide) g hg q
    · exact own_ne h.marks hg h.hands (by decide) q
  · rcases List.mem_append.1 he with he | he
    · exact ⟨(h.each e he).1.but hb3 (farK _ _ _ (h.each e he).1), (h.each e he).2⟩
    · obtain rfl := List.mem_singleton.1 he
      exact ⟨own_kok hrow, hM, hnk⟩
  · rcases hat b hq with q | q
    · exact h.outAt b q
    · right; omega
  · obtain ⟨es', q1, q2⟩ := h.newAt
    refine ⟨es' ++ [⟨lv, n + k, M⟩], by rw [q1, List.append_assoc], fun e he => ?_⟩
    rcases List.mem_append.1 he with he | he
    · exact q2 e he
    · obtain rfl := List.mem_singleton.1 he
      exact h.lvAt
  · rcases List.mem_append.1 he with he | he
    · exact h.same e he
    · obtain rfl := List.mem_singleton.1 he
      exact fun g _ _ => ⟨rfl, Nat.le_refl _⟩
  · rcases q with q | q
    · rcases h.outAt b q with q | q
      · exact .inr (.inl q)
      · omega
    · exact .inl q

theorem KS.pushMark {w wr w2 : World} {hb B Bv N n M : Nat} {s : HS} {es : List Ent} {v lv vo vm vm' : Value} {eo em : List Ent} {k : Nat} (h : KS w wr hb B Bv N n M s es v lv vo vm eo em k) (e0 : Ent) (he0 : e0.m = M)
    (hb2 : But (fun b => vm.ownBlock = some b) wr w2) (ho2 : w2.ownsRow B 3 1 vm' (em.length + 1) (em.map (fun e => .int .i64 (e.m : Int)) ++ [.int .i64 (M : Int)])) (hat : ∀ b, vm'.ownBlock = some b → vm.ownBlock = some b ∨ wr.heap.size ≤ b) :
    KS w (w2.setCell ⟨hb, 8, none⟩ vm') hb B Bv N n M s es v lv vo vm' eo (em ++ [e0]) k := by
  have hs := h.but.size
  have hvm : ∀ b, vm.ownBlock = some b → b ≠ hb := fun b hq => own_ne h.marks hq h.hands (by decide)
  have hb3 : But (fun b => vm.ownBlock = some b ∨ b = hb) wr (w2.setCell ⟨hb, 8, none⟩ vm') := (hb2.wide (fun _ _ q => .inl q)).setCell (.inl (.inr rfl)) _
  have hH2 : HAt w2 hb { s with n := (N : Int) + 1, out := vo, marks := vm } := h.hands.kept (hb2.block hb h.hands.lt (fun q => hvm hb q rfl))
  have farK : ∀ u a b, KOk wr u a b → ∀ g, u.ownBlock = some g → ¬ (vm.ownBlock = some g ∨ g = hb) := fun u a b hu g hg q => by
    rcases q with q | q
    · exact hu.ne_own h.marks (by decide) g hg q
    · exact hu.ne_hands h.hands g hg q
  refine ⟨hH2.set6 _, hb3.own h.own (fun g hg q => ?_), ?_, fun e he => ⟨(h.each e he).1.but hb3 (farK _ _ _ (h.each e he).1), (h.each e he).2⟩, hb3.own h.row (farK _ _ _ (own_kok h.row)), h.outAt, fun b hq => ?_, h.lvAt, h.newAt, h.same, h.but.then hb3 (fun b hlt q => ?_)⟩
  · rcases q with q | q
    · exact own_own_ne h.own h.marks (by decide) g hg q
    · exact own_ne h.own hg h.hands (by decide) q
  · have := own_of_block ho2 (fun b hq => Below.heap_setCell w2 ⟨hb, 8, none⟩ vm' b (own_ne ho2 hq hH2 (by decide)))
    simpa [he0] using this
  · rcases hat b hq with q | q
    · exact h.marksAt b q
    · right; omega
  · rcases q with q | q
    · rcases h.marksAt b q with q | q
      · exact .inr (.inr (.inl q))
      · omega
    · exact .inl q

theorem KS.more {w wr w2 : World} {hb B Bv N n M g cap : Nat} {s : HS} {es : List Ent} {v lv vo vm : Value} {eo em : List Ent} {k : Nat} (h : KS w wr hb B Bv N n M s es v lv vo vm eo em k)
    (hb2 : But (fun b => lv.ownBlock = some b) wr w2) (ho2 : w2.ownsRow Bv 5 1 (.slice (some ⟨g, 0, none⟩) (n + k + 1) cap) (n + k + 1) (List.replicate (n + k) (.int .u8 (M : Int)) ++ [.int .u8 (M : Int)]))
    (hat : lv.ownBlock = some g ∨ wr.heap.size ≤ g ∧ ∀ j, j < wr.heap.size → w2.heap[j]? = wr.heap[j]?) :
    KS w w2 hb B Bv N n M s es v (.slice (some ⟨g, 0, none⟩) (n + k + 1) cap) vo vm eo em (k + 1) := by
  have hs := h.but.size
  have hrep : List.replicate (n + k) (Value.int .u8 (M : Int)) ++ [.int .u8 (M : Int)] = List.replicate (n + (k + 1)) (.int .u8 (M : Int)) := by
    rw [← Nat.add_assoc, List.replicate_succ']
  rw [hrep] at ho2
  have hlv := own_kok h.row
  refine ⟨h.hands.kept (hb2.block hb h.hands.lt (fun q => hlv.ne_hands h.hands hb q rfl)), hb2.own h.own (own_own_ne h.own h.row (by decide)), hb2.own h.marks (own_own_ne h.marks h.row (by decide)), fun e he => ?_, ho2, h.outAt, h.marksAt, fun b hq => ?_, h.newAt, fun e he g' hg' hl => ?_, h.but.then hb2 (fun b hlt q => ?_)⟩
  · obtain ⟨h1, h2⟩ := h.each e he
    refine ⟨?_, h2⟩
    rcases hat with q | ⟨q, hall⟩
    · by_cases p : e.v.ownBlock = some g
      · obtain ⟨e1, e2⟩ := h.same e he g p q
        rcases h1 with ⟨c, q1, q2⟩ | ⟨g', c, cs, q1, q2, q3⟩
        · rw [q1] at p; simp [Value.ownBlock] at p
        · have e3 : g' = g := by rw [q1] at p; simpa [Value.ownBlock] using p
          subst e3
          rw [q1, e1]
          exact own_kok_less ho2 (by rfl) (by omega)
      · exact h1.but hb2 (fun g' hg' r => p (by rw [hg', ← q, r]))
    · exact h1.kept (fun g' hg' => hall g' (h1.lt hg').1)
  · have e : g = b := by simpa [Value.ownBlock] using hq
    subst e
    rcases hat with q | ⟨q, _⟩
    · exact h.lvAt g q
    · right; omega
  · have e3 : g = g' := by simpa [Value.ownBlock] using hl
    subst e3
    rcases hat with q | ⟨q, _⟩
    · obtain ⟨e1, e2⟩ := h.same e he g hg' q
      exact ⟨e1, by omega⟩
    · have := ((h.each e he).1.lt hg').1; omega
  · rcases h.lvAt b q with q | q
    · exact .inr (.inr (.inr q))
    · omega

end Go.Proofs.YtjabhnhejbhgjaaGreatDoor

/- Hands.keep: bytes that came out. -/
namespace Go.Proofs.YtjabhnhejbhgjaaGreatDoor
open Go.RowKit

/-- What keep leaves. -/
structure KeptAs (w w' : World) (hb B N : Nat) (s : HS) (es es' : List Ent) (v vo vm : Value) : Prop where
  hands : HAt w' hb { s with n := (N : Int) + 1, out := vo, marks := vm }
  outs : Outs w' B vo vm (es ++ es')
  four : es'.length = 4
  outAt : ∀ b, vo.ownBlock = some b → s.out.ownBlock = some b ∨ w.heap.size ≤ b
  marksAt : ∀ b, vm.ownBlock = some b → s.marks.ownBlock = some b ∨ w.heap.size ≤ b
  newAt : ∀ e ∈ es', ∀ b, e.v.ownBlock = some b → v.ownBlock = some b ∨ w.heap.size ≤ b
  but : But (fun b => b = hb ∨ s.out.ownBlock = some b ∨ s.marks.ownBlock = some b ∨ v.ownBlock = some b) w w'

theorem KS.sees {w wr w4 : World} {hb B Bv N n M : Nat} {s : HS} {es : List Ent} {v lv vo vm : Value} {eo em : List Ent} {k : Nat} {o : Obj} (h : KS w wr hb B Bv N n M s es v lv vo vm eo em k) (hg : (wr.alloc o).drew.grownBy w4 vm.ownBlock) :
    w4.cell? ⟨hb, 8, none⟩ = some vm ∧ w4.cell? ⟨hb, 6, none⟩ = some (.int .i64 ((N : Int) + 1)) ∧ w4.frozen? ⟨hb, 8, none⟩ = false := by
  have hk : w4.heap[hb]? = wr.heap[hb]? := by
    rw [grown_block hg (by have := h.hands.lt; simp; omega) (fun q => own_ne h.marks q h.hands (by decide) rfl)]; exact Below.heap_alloc wr o hb h.hands.lt
  have hH := h.hands.kept hk
  exact ⟨hH.cell 6, hH.cell 4, hH.frozen 8⟩

theorem fill_step (xs : List Value) (u : Value) (i n : Nat) (hl : xs.length = n) (hi : i < n) : (List.replicate i u ++ xs.drop i).set i u = List.replicate (i + 1) u ++ xs.drop (i + 1) := by
  rw [List.set_append_right _ _ (by simp), List.length_replicate, Nat.sub_self, List.drop_eq_getElem_cons (by omega), List.set_cons_zero, List.replicate_succ', List.append_assoc]
  rfl

theorem fill_at (xs : List Value) (u : Value) (i n : Nat) (hl : xs.length = n) (hi : i < n) : ∃ x, (List.replicate i u ++ xs.drop i)[i]? = some x := by
  rw [List.getElem?_append_right (by simp), List.length_replicate, Nat.sub_self, List.getElem?_drop, Nat.add_zero]
  exact ⟨xs[i], List.getElem?_eq_getElem (by omega)⟩

set_option maxRecDepth 100000 in
set_option maxHeartbeats 4000000 in
theorem keep_any (hb B Bv N n : Nat) (s : HS) (es : List Ent) (v : Value) (xs : List Value) (w : World) (hN : s.n = (N : Int)) (hN2 : N ≤ 1000000000) (hH : HAt w hb s) (hO : Outs w B s.out s.marks es) (hes : es.length ≤ 100000000) (hB : B ≤ w.heap.size) (hn : n ≤ 14073748835500)
    (hv : w.ownsRow Bv 5 1 v n xs) (hBv : Bv ≤ w.heap.size) (hfar : ∀ e ∈ es, ∀ g, v.ownBlock = some g → e.v.ownBlock ≠ some g) :
    Calls Tryz.prog 54 #[.pointer (some ⟨hb, 2, none⟩), v] w fun e w' =>
      e = .returned (.tuple #[]) ∧ ∃ es' vo vm, KeptAs w w' hb B N s es es' v vo vm := by
  have hc4 : w.cell? ⟨hb, 6, none⟩ = some (.int .i64 (N : Int)) := by rw [hH.cell 4, ← hN]; rfl
  have hf := hH.frozen
  have HH : Hid (HAt w hb s) := hH
  have hlt := hH.lt
  obtain ⟨a, c, hva⟩ := own_len hv
  obtain ⟨M, hM⟩ : ∃ M : Nat, M = (N + 1) % 250 := ⟨_, rfl⟩
  have hM2 : ((N : Int) + 1) % 250 = (M : Int) := by omega
  have hM3 : M < 250 := by omega
  have HM : Hid (M = (N + 1) % 250) := hM
  have HV : Hid (v = .slice a n c) := hva
  clear hM hN hH
  rw [hva]
  clear hva
  go_enter Tryz.func54, Tryz.ntmps54
  go_wp2_with fail
  have hOne : ∀ g, v.ownBlock = some g → g ≠ hb := fun g hg => own_ne hv hg HH.out (by decide)
  have HH1 : Hid (HAt (w.setCell ⟨hb, 6, none⟩ (.int .i64 ((N : Int) + 1))) hb { s with n := (N : Int) + 1 }) := HH.out.set4 _
  have hb1 : But (fun b => b = hb) w (w.setCell ⟨hb, 6, none⟩ (.int .i64 ((N : Int) + 1))) := (But.refl _ _).setCell (S := fun b => b = hb) (.inl rfl) _
  have hO1 := hO.but hb1 (fun g hg q => own_ne hO.own hg HH.out (by decide) q) (fun g hg q => own_ne hO.marks hg HH.out (by decide) q) (fun e he g hg q => (hO.each e he).1.ne_hands HH.out g hg q)
  have hv1 := hb1.own hv hOne
  have hbS : But (fun b => b = hb ∨ s.out.ownBlock = some b ∨ s.marks.ownBlock = some b ∨ v.ownBlock = some b) w (w.setCell ⟨hb, 6, none⟩ (.int .i64 ((N : Int) + 1))) := hb1.wide (fun b _ q => .inl q)
  have hxl : xs.length = n := by simpa using hv.1
  have HXL : Hid (xs.length = n) := hxl
  have HFAR : Hid (∀ e ∈ es, ∀ g, v.ownBlock = some g → e.v.ownBlock ≠ some g) := hfar
  clear hxl hO hv hb1 hfar
  go_loopw [5] (fun t wr => ∃ (i : Nat), i ≤ n ∧ t = .int .i64 (i : Int) ∧ Hid (HAt wr hb { s with n := (N : Int) + 1 }) ∧ Outs wr B s.out s.marks es ∧ wr.ownsRow Bv 5 1 v n (List.replicate i (.int .u8 (M : Int)) ++ xs.drop i) ∧ But (fun b => b = hb ∨ s.out.ownBlock = some b ∨ s.marks.ownBlock = some b ∨ v.ownBlock = some b) w wr) (fun t _ => n - (intOf t).toNat)
  case atStart => exact ⟨0, by omega, rfl, HH1, hO1, by simpa using hv1, hbS⟩
  case round =>
    clear HH1 hO1 hv1 hbS hc4 hf
    obtain ⟨i, hi, rfl, HHr, hOr, hvr, hbr⟩ := hrel
    by_cases hlt2 : i < n
    · obtain ⟨g, c', hvg, _, _⟩ := hvr.form (by omega)
      have e1 : (Value.slice a n c) = .slice (some ⟨g, 0, none⟩) n c' := by rw [← HV.out, hvg]
      simp only [Value.slice.injEq] at e1
      obtain ⟨rfl, _, rfl⟩ := e1
      obtain ⟨x, hx⟩ := fill_at xs (.int .u8 (M : Int)) i n HXL.out hlt2
      have hcx : wr.cell? ⟨g, i, none⟩ = some x := own_cell hvr (by rw [hvg]; rfl) hx
      have hfx := own_frozen hvr (g := g) (by rw [hvg]; rfl) i
      have hin : (i : Int) < (n : Int) := by omega
      have hbx : But (fun b => v.ownBlock = some b) wr (wr.setCell ⟨g, i, none⟩ (.int .u8 (M : Int))) := (But.refl _ _).setCell (S := fun b => v.ownBlock = some b) (.inl (by rw [hvg]; rfl)) _
      have HH6 : Hid (HAt (wr.setCell ⟨g, i, none⟩ (.int .u8 (M : Int))) hb { s with n := (N : Int) + 1 }) := HHr.out.kept (Below.heap_setCell _ _ _ _ (fun q => hOne g (by rw [hvg]; rfl) q.symm))
      have hO6 := hOr.but hbx (own_own_ne hOr.own hvr (by decide)) (own_own_ne hOr.marks hvr (by decide)) (fun e he g' hg' q => HFAR.out e he g' q hg')
      have hv6 : (wr.setCell ⟨g, i, none⟩ (.int .u8 (M : Int))).ownsRow Bv 5 1 v n (List.replicate (i + 1) (.int .u8 (M : Int)) ++ xs.drop (i + 1)) := by
        rw [← fill_step xs _ i n HXL.out hlt2]
        rw [hvg] at hvr ⊢
        exact own_set hvr
      have hb6 := hbr.then hbx (fun b _ q => .inr (.inr (.inr q)))
      clear hvg hbx hvr hOr hbr hx
      go_wp2_with fail
      go_roundw
      case rel => exact ⟨i + 1, by omega, by go_num, HH6, hO6, hv6, hb6⟩
      case measure => simp [intOf]; omega
    · obtain rfl : i = n := by omega
      have hks : KS w wr hb B Bv N i M s es v v s.out s.marks es es 0 :=
        ⟨HHr.out, hOr.own, hOr.marks, hOr.each, by
          have := hvr
          rw [List.drop_of_length_le (by rw [HXL.out]; exact Nat.le_refl _), List.append_nil] at this
          exact this, fun b q => .inl q, fun b q => .inl q, fun b q => .inl q, ⟨[], by simp, fun e he => by simp at he⟩, fun e he g h1 h2 => absurd h1 (HFAR.out e he g h2), hbr⟩
      obtain ⟨iB, hiB, hiB0, hiB1, hiB2⟩ := Tryz.bytes_parts
      obtain ⟨iI, hiI, hiI0, hiI1, hiI2⟩ := Tryz.int_parts
      obtain ⟨iU, hiU, hiU0, hiU1, hiU2⟩ := Tryz.u8_parts
      clear HHr hOr hvr hbr
      go_wp2_with fail
      go_loopw [1, 6] (fun t1 t6 wr => ∃ (k : Nat) (eo : List Ent) (vo vm : Value), k ≤ 4 ∧ t6 = .int .i64 (k : Int) ∧ Hid (eo.length = es.length + k) ∧ KS w wr hb B Bv N i M s es v t1 vo vm eo eo k) (fun _ t _ => 4 - (intOf t).toNat)
      case atStart => exact ⟨0, es, s.out, s.marks, by omega, rfl, rfl, by rw [← HV.out]; exact hks⟩
      case round =>
        clear hks
        obtain ⟨k, eo, vo, vm, hk, rfl, HEL, hK⟩ := hrel
        by_cases hlt4 : k < 4
        · obtain ⟨wA, rfl⟩ : ∃ x, x = wr := ⟨wr, rfl⟩
          obtain ⟨la, lc, rfl⟩ := own_len hK.row
          have hk4 : (k : Int) < 4 := by omega
          have hlen : eo.length ≤ 100000010 := by rw [HEL.out]; omega
          have hsz := hK.but.size
          have hc5 : wA.cell? ⟨hb, 7, none⟩ = some vo := hK.hands.cell 5
          go_wp2_with (at_builtin; refine wpList_append_lies _ rfl _ _ _ rfl B 33 iB (.slice none 0 0) 1 24 Tryz.underlying40 hiB hiB0 hiB1 hiB2 rfl (by omega) vo eo.length (eo.map (·.v)) rfl (hK.own.alloc _) ⟨wA.heap.size, 0, none⟩ 1 1 [.slice la (i + k) lc] rfl rfl ?c1 ?c2 (by omega) ?c3 ?c4 ?c5 (wA.heap.size + 1) ?c6 ?_)
          case c1 => exact cell_one_at _ _ _ _ rfl
          case c2 => intro u hu; simp at hu; subst hu; rfl
          case c3 => unfold maxLen; omega
          case c4 => omega
          case c5 => simp; omega
          case c6 => simp
          intro g1 cap1 w2 hown2 hgr2 hlie2 hlt2'
          have hb2 : But (fun b => vo.ownBlock = some b) wA w2 := ((But.refl _ wA).alloc _).grown hgr2 (fun k hk => .inl hk)
          have hK3 := hK.pushOut hM3 (by omega) hb2 hown2 (fun b hq => by
            have e : g1 = b := by simpa [Value.ownBlock] using hq
            subst e
            rcases hlie2 with q | q
            · exact .inl q
            · right; omega)
          have hH2 : HAt w2 hb { s with n := (N : Int) + 1, out := vo, marks := vm } := hK.hands.kept (hb2.block hb hK.hands.lt (fun q => own_ne hK.own q hK.hands (by decide) rfl))
          have hc52 : w2.cell? ⟨hb, 7, none⟩ = some vo := hH2.cell 5
          have hf52 := hH2.frozen 7
          clear hown2 hgr2 hlie2 hb2 hK hc5
          go_wp2_with fail
          obtain ⟨w3, hw3⟩ : ∃ x, x = w2.setCell ⟨hb, 7, none⟩ (.slice (some ⟨g1, 0, none⟩) (eo.length + 1) cap1) := ⟨_, rfl⟩
          rw [← hw3] at hK3
          rw [← hw3]
          clear hw3 hc52 hf52 hH2
          have hc6 : w3.cell? ⟨hb, 8, none⟩ = some vm := hK3.hands.cell 6
          have hc4 : w3.cell? ⟨hb, 6, none⟩ = some (.int .i64 ((N : Int) + 1)) := hK3.hands.cell 4
          have hf6 := hK3.hands.frozen 8
          have hsz3 := hK3.but.size
          have hmo : ∀ u ∈ [Value.int .i64 (M : Int)], u.oneCell' = true := by intro u hu; simp at hu; subst hu; rfl
          have hm1 : eo.length + 1 ≤ maxLen := by unfold maxLen; omega
          have hm2 : (eo.length + 1) * 8 ≤ 140737488355328 := by omega
          have HM3 : Hid (∀ o, B ≤ (w3.alloc o).drew.heap.size) := fun o => by simp; omega
          have HMK : Hid (∀ o, (w3.alloc o).drew.ownsRow B 3 1 vm eo.length (eo.map fun e => .int .i64 (e.m : Int))) := fun o => hK3.marks.alloc o
          have hM4 : ((N : Int) + 1).tmod 250 = (M : Int) := by rw [Int.tmod_eq_emod_of_nonneg (by omega)]; exact hM2
          have hbl3 : hb < w3.heap.size := hK3.hands.lt
          have hbn3 : hb ≠ w3.heap.size := Nat.ne_of_lt hbl3
          go_region_law ((refine step_append_lies _ (by rfl) _ _ _ (by rfl) B 3 iI (.int .i64 0) 1 8 Tryz.underlying75 hiI hiI0 hiI1 hiI2 rfl (by omega) vm eo.length (eo.map fun e => .int .i64 (e.m : Int)) (by rfl) (HMK.out _) ⟨w3.heap.size, 0, none⟩ 1 1 [.int .i64 (M : Int)] (by rfl) rfl (cell_one_at w3 _ _ _ rfl) hmo (by omega) hm1 hm2 (HM3.out _) (w3.heap.size + 1) (by simp) ?_; intro g2 cap2 w4 hown4 hgr4 hlie4 hlt4; have hf64 := (hK3.sees hgr4).2.2; have hc64 := (hK3.sees hgr4).1))
          all_goals
            have hb4 : But (fun b => vm.ownBlock = some b) w3 w4 := ((But.refl _ w3).alloc _).drew.grown hgr4 (fun k hk => .inl hk)
            have hK5 := hK3.pushMark ⟨.slice la (i + k) lc, i + k, M⟩ rfl hb4 hown4 (fun b hq => by
              have e : g2 = b := by simpa [Value.ownBlock] using hq
              subst e
              rcases hlie4 with q | q
              · exact .inl q
              · right; omega)
            obtain ⟨w5, hw5⟩ : ∃ x, x = w4.setCell ⟨hb, 8, none⟩ (.slice (some ⟨g2, 0, none⟩) (eo.length + 1) cap2) := ⟨_, rfl⟩
            rw [← hw5] at hK5
            rw [← hw5]
            clear hw5 hf64 hc64 hb4 hown4 hgr4 hlie4
            have hsz5 := hK5.but.size
            obtain ⟨XR, hXR⟩ : ∃ XR, XR = List.replicate (i + k) (Value.int .u8 (M : Int)) := ⟨_, rfl⟩
            have hrow5 := hK5.row
            rw [← hXR] at hrow5
            have HXR : Hid (XR = List.replicate (i + k) (Value.int .u8 (M : Int))) := hXR
            clear hXR
            go_wp2_with (at_builtin; refine wpList_append_apart rfl _ _ _ rfl Bv 5 iU (.int .u8 0) 1 1 Tryz.underlying33 hiU hiU0 hiU1 hiU2 rfl (by omega) (.slice la (i + k) lc) (i + k) XR rfl (hrow5.alloc _) ⟨w5.heap.size, 0, none⟩ 1 1 [.int .u8 (M : Int)] rfl rfl ?c1 ?c2 (by omega) ?c3 ?c4 ?c5 ?c6 ?_)
            case c1 => exact cell_one_at _ _ _ _ rfl
            case c2 => intro u hu; simp at hu; subst hu; rfl
            case c3 => unfold maxLen; omega
            case c4 => omega
            case c5 => omega
            case c6 => simp; omega
            intro g6 cap6 w6 hown6 hgr6 hlie6 hlt6
            have hb6 : But (fun b => (Value.slice la (i + k) lc).ownBlock = some b) w5 w6 := ((But.refl _ w5).alloc _).grown hgr6 (fun k hk => .inl hk)
            have hK7 := hK5.more hb6 (by rw [← HXR.out]; exact hown6) (by
              rcases hlie6 with q | ⟨q, hall⟩
              · exact .inl q
              · have q' : g6 = w5.heap.size + 1 := by simpa using q
                exact .inr ⟨by omega, fun j hj => by rw [hall j (by omega), Below.heap_alloc _ _ _ hj]⟩)
            clear hown6 hgr6 hlie6 hb6 hK5 hrow5
            go_wp2_with fail
            go_roundw
            case rel =>
              have HEL7 : Hid ((eo ++ [(⟨.slice la (i + k) lc, i + k, M⟩ : Ent)]).length = es.length + (k + 1)) := by show _ = _; simp [HEL.out]; omega
              (repeat apply Exists.intro)
              refine ⟨⟨k + 1, _, _, _, ?_, ?_, HEL7, hK7⟩, ?frame⟩
              case frame => rw [hM2]
              · omega
              · go_num
            case measure => simp [intOf]; omega
        · obtain rfl : k = 4 := by omega
          go_wp2_with fail
          go_end0
          obtain ⟨es', h1, h2⟩ := hK.newAt
          have h3 : es'.length = 4 := by have := HEL.out; rw [h1, List.length_append] at this; omega
          refine ⟨rfl, es', vo, vm, ?_⟩
          rw [← HV.out]
          exact ⟨hK.hands, ⟨by rw [← h1]; exact hK.own, by rw [← h1]; exact hK.marks, by rw [← h1]; exact hK.each⟩, h3, hK.outAt, hK.marksAt, h2, hK.but⟩

end Go.Proofs.YtjabhnhejbhgjaaGreatDoor

/- Hands.holds. -/
namespace Go.Proofs.YtjabhnhejbhgjaaGreatDoor
open Go.RowKit

structure EntL where
  v : Value
  n : Nat
  m : Nat

/-- TwoB bytes: m, 0. -/
def TwoB (w : World) (u : Value) (m : Nat) : Prop := ∃ g, u = .slice (some ⟨g, 0, none⟩) 2 2 ∧ w.heap[g]? = some (.cells #[.int .u8 (m : Int), .int .u8 0] 5 (0, 0))

/-- A list of n such. -/
def LOk (w : World) (v : Value) (n m : Nat) : Prop :=
  (∃ c, v = .slice none 0 c ∧ n = 0) ∨ (∃ g c cs, v = .slice (some ⟨g, 0, none⟩) n c ∧ w.heap[g]? = some (.cells cs 33 (0, 0)) ∧ ∀ j, j < n → ∃ u, cs[j]? = some u ∧ TwoB w u m)

structure Outers (w : World) (B : Nat) (vo vm : Value) (ls : List EntL) : Prop where
  own : w.ownsRow B 40 1 vo ls.length (ls.map (·.v))
  marks : w.ownsRow B 3 1 vm ls.length (ls.map fun e => .int .i64 (e.m : Int))
  each : ∀ e ∈ ls, LOk w e.v e.n e.m ∧ e.m < 256 ∧ e.n ≤ 140737488355328

theorem KOk.form {w : World} {v : Value} {n m : Nat} (h : KOk w v n m) : ∃ a c, v = .slice a n c ∧ ∀ k, k < n → ∃ g, a = some ⟨g, 0, none⟩ ∧ w.cell? ⟨g, k, none⟩ = some (.int .u8 (m : Int)) := by
  rcases h with ⟨c, h1, h2⟩ | ⟨g, c, cs, h1, h2, h3⟩
  · exact ⟨none, c, by rw [h1, h2], fun k hk => by omega⟩
  · exact ⟨_, c, h1, fun k hk => ⟨g, rfl, by rw [cell_of_row w g k _ _ _ h2]; exact h3 k hk⟩⟩

theorem LOk.form {w : World} {v : Value} {n m : Nat} (h : LOk w v n m) : ∃ a c, v = .slice a n c ∧ ∀ k, k < n → ∃ g gu, a = some ⟨g, 0, none⟩ ∧ w.cell? ⟨g, k, none⟩ = some (.slice (some ⟨gu, 0, none⟩) 2 2) ∧ w.cell? ⟨gu, 0, none⟩ = some (.int .u8 (m : Int)) ∧ w.cell? ⟨gu, 1, none⟩ = some (.int .u8 0) := by
  rcases h with ⟨c, h1, h2⟩ | ⟨g, c, cs, h1, h2, h3⟩
  · exact ⟨none, c, by rw [h1, h2], fun k hk => by omega⟩
  · refine ⟨_, c, h1, fun k hk => ?_⟩
    obtain ⟨u, q1, gu, q2, q3⟩ := h3 k hk
    exact ⟨g, gu, rfl, by rw [cell_of_row w g k _ _ _ h2, q1, q2], by rw [cell_of_row w gu 0 _ _ _ q3]; rfl, by rw [cell_of_row w gu 1 _ _ _ q3]; rfl⟩

set_option maxRecDepth 100000 in
set_option maxHeartbeats 4000000 in
theorem holds_any (hb B : Nat) (s : HS) (es : List Ent) (ls : List EntL) (w : World) (hH : HAt w hb s) (hO : Outs w B s.out s.marks es) (hL : Outers w B s.outer s.omarks ls) (he : es.length ≤ 100000000) (hl : ls.length ≤ 1000000) (h9 : s.lacks = .slice none 0 0) (h11 : s.objs = .slice none 0 0) :
    Calls Tryz.prog 27 #[.pointer (some ⟨hb, 2, none⟩)] w fun e w' => e = .returned (.bool true) ∧ ∃ nq, w' = w.drewN nq := by
  have hc5 : w.cell? ⟨hb, 7, none⟩ = some s.out := hH.cell 5
  have hc6 : w.cell? ⟨hb, 8, none⟩ = some s.marks := hH.cell 6
  have hc7 : w.cell? ⟨hb, 9, none⟩ = some s.outer := hH.cell 7
  have hc8 : w.cell? ⟨hb, 10, none⟩ = some s.omarks := hH.cell 8
  have hc9 : w.cell? ⟨hb, 11, none⟩ = some (.slice none 0 0) := by rw [hH.cell 9, ← h9]; rfl
  have hc11 : w.cell? ⟨hb, 13, none⟩ = some (.slice none 0 0) := by rw [hH.cell 11, ← h11]; rfl
  obtain ⟨oa, oc, hoa⟩ := own_len hO.own
  obtain ⟨ma, mc, hma⟩ := own_len hO.marks
  obtain ⟨pa, pc, hpa⟩ := own_len hL.own
  obtain ⟨qa, qc, hqa⟩ := own_len hL.marks
  rw [hoa] at hc5
  rw [hma] at hc6
  rw [hpa] at hc7
  rw [hqa] at hc8
  have HO : Hid (∀ i (hi : i < es.length), ∃ go gm, oa = some ⟨go, 0, none⟩ ∧ ma = some ⟨gm, 0, none⟩ ∧ w.cell? ⟨go, i, none⟩ = some es[i].v ∧ w.cell? ⟨gm, i, none⟩ = some (.int .i64 (es[i].m : Int))) := fun i hi => by
    obtain ⟨go, co, h1, _⟩ := hO.own.form (by omega)
    obtain ⟨gm, cm, h2, _⟩ := hO.marks.form (by omega)
    rw [hoa] at h1
    rw [hma] at h2
    simp only [Value.slice.injEq] at h1 h2
    refine ⟨go, gm, h1.1, h2.1, own_cell hO.own (by rw [hoa, h1.1]; rfl) (by simp [hi]), own_cell hO.marks (by rw [hma, h2.1]; rfl) (by simp [hi])⟩
  have HL : Hid (∀ i (hi : i < ls.length), ∃ go gm, pa = some ⟨go, 0, none⟩ ∧ qa = some ⟨gm, 0, none⟩ ∧ w.cell? ⟨go, i, none⟩ = some ls[i].v ∧ w.cell? ⟨gm, i, none⟩ = some (.int .i64 (ls[i].m : Int))) := fun i hi => by
    obtain ⟨go, co, h1, _⟩ := hL.own.form (by omega)
    obtain ⟨gm, cm, h2, _⟩ := hL.marks.form (by omega)
    rw [hpa] at h1
    rw [hqa] at h2
    simp only [Value.slice.injEq] at h1 h2
    refine ⟨go, gm, h1.1, h2.1, own_cell hL.own (by rw [hpa, h1.1]; rfl) (by simp [hi]), own_cell hL.marks (by rw [hqa, h2.1]; rfl) (by simp [hi])⟩
  have HE : Hid (∀ i (hi : i < es.length), KOk w es[i].v es[i].n es[i].m ∧ es[i].m < 250 ∧ es[i].n ≤ 140737488355328) := fun i hi => hO.each _ (List.getElem_mem hi)
  have HF : Hid (∀ i (hi : i < ls.length), LOk w ls[i].v ls[i].n ls[i].m ∧ ls[i].m < 256 ∧ ls[i].n ≤ 140737488355328) := fun i hi => hL.each _ (List.getElem_mem hi)
  clear hO hL hH h9 h11 hoa hma hpa hqa
  obtain ⟨ne, hne⟩ : ∃ x, x = es.length := ⟨_, rfl⟩
  obtain ⟨nl, hnl⟩ : ∃ x, x = ls.length := ⟨_, rfl⟩
  rw [← hne] at hc5 hc6 he
  rw [← hnl] at hc7 hc8 hl
  have HNE : Hid (ne = es.length) := hne
  have HNL : Hid (nl = ls.length) := hnl
  clear hne hnl
  go_enter Tryz.func27, Tryz.ntmps27
  go_wp2_with fail
  go_loopw [3] (fun t wr => ∃ (i nq : Nat), i ≤ ne ∧ t = .int .i64 (i : Int) ∧ wr = w.drewN nq) (fun t _ => ne - (intOf t).toNat)
  case atStart => exact ⟨0, 0, by omega, rfl, rfl⟩
  case round =>
    obtain ⟨i, nq, hi, rfl, rfl⟩ := hrel
    by_cases hlt : i < ne
    · have hlt' : i < es.length := by rw [← HNE.out]; exact hlt
      obtain ⟨go, gm, rfl, rfl, hgo, hgm⟩ := HO.out i hlt'
      obtain ⟨hK, hm, hnb⟩ := HE.out i hlt'
      obtain ⟨a, c, hv, hcell⟩ := hK.form
      rw [hv] at hgo
      generalize es[i].m = m at hgm hm hcell hK hv
      generalize es[i].n = n at hgo hcell hK hv hnb
      clear hv hK
      have HC : Hid (∀ k, k < n → ∃ g, a = some ⟨g, 0, none⟩ ∧ w.cell? ⟨g, k, none⟩ = some (.int .u8 (m : Int))) := hcell
      clear hcell
      have hin : (i : Int) < (ne : Int) := by omega
      go_wp2_with fail
      go_loopw [4] (fun t wr => ∃ (k nq : Nat), k ≤ n ∧ t = .int .i64 (k : Int) ∧ wr = w.drewN nq) (fun t _ => n - (intOf t).toNat)
      case atStart => exact ⟨0, nq, by omega, rfl, rfl⟩
      case round =>
        obtain ⟨k, nq2, hk, rfl, rfl⟩ := hrel
        by_cases hlt2 : k < n
        · obtain ⟨g, rfl, hg⟩ := HC.out k hlt2
          have hkn : (k : Int) < (n : Int) := by omega
          have hmm : ((m : Int) != (m : Int)) = false := by simp
          go_wp2_with fail
          go_quiet (fail)
          go_wp2_with fail
          refine ⟨?_, by simp [intOf]; omega⟩
          first
            | exact ⟨k + 1, _, by omega, by go_num, rfl⟩
            | ((repeat apply Exists.intro); exact ⟨⟨k + 1, _, by omega, by go_num, rfl⟩, rfl⟩)
        · obtain rfl : k = n := by omega
          go_wp2_with fail
          refine ⟨?_, by simp [intOf]; omega⟩
          first
            | exact ⟨i + 1, _, by omega, by go_num, rfl⟩
            | ((repeat apply Exists.intro); exact ⟨⟨i + 1, _, by omega, by go_num, rfl⟩, rfl⟩)
    · obtain rfl : i = ne := by omega
      go_wp2_with fail
      go_loopw [5] (fun t wr => ∃ (i nq : Nat), i ≤ nl ∧ t = .int .i64 (i : Int) ∧ wr = w.drewN nq) (fun t _ => nl - (intOf t).toNat)
      case atStart => exact ⟨0, nq, by omega, rfl, rfl⟩
      case round =>
        obtain ⟨j, nq3, hj, rfl, rfl⟩ := hrel
        by_cases hlt : j < nl
        · have hlt' : j < ls.length := by rw [← HNL.out]; exact hlt
          obtain ⟨go, gm, rfl, rfl, hgo, hgm⟩ := HL.out j hlt'
          obtain ⟨hK, hm, hnb⟩ := HF.out j hlt'
          obtain ⟨a, c, hv, hcell⟩ := hK.form
          rw [hv] at hgo
          generalize ls[j].m = m at hgm hm hcell hK hv
          generalize ls[j].n = n at hgo hcell hK hv hnb
          clear hv hK
          have HC : Hid (∀ k, k < n → ∃ g gu, a = some ⟨g, 0, none⟩ ∧ w.cell? ⟨g, k, none⟩ = some (.slice (some ⟨gu, 0, none⟩) 2 2) ∧ w.cell? ⟨gu, 0, none⟩ = some (.int .u8 (m : Int)) ∧ w.cell? ⟨gu, 1, none⟩ = some (.int .u8 0)) := hcell
          clear hcell
          have hin : (j : Int) < (nl : Int) := by omega
          go_wp2_with fail
          go_loopw [6] (fun t wr => ∃ (k nq : Nat), k ≤ n ∧ t = .int .i64 (k : Int) ∧ wr = w.drewN nq) (fun t _ => n - (intOf t).toNat)
          case atStart => exact ⟨0, nq3, by omega, rfl, rfl⟩
          case round =>
            obtain ⟨k, nq2, hk, rfl, rfl⟩ := hrel
            by_cases hlt2 : k < n
            · obtain ⟨g, gu, rfl, hg, hg0, hg1⟩ := HC.out k hlt2
              have hkn : (k : Int) < (n : Int) := by omega
              have hmm : ((m : Int) != (m : Int)) = false := by simp
              have hm0 : (0 : Int) ≤ (m : Int) := by omega
              have hm1 : (m : Int) < 256 := by omega
              go_wp2_with fail
              go_quiet (fail)
              go_wp2_with fail
              exact ⟨⟨k + 1, _, by omega, by go_num, rfl⟩, by simp [intOf]; omega⟩
            · obtain rfl : k = n := by omega
              go_wp2_with fail
              refine ⟨?_, by simp [intOf]; omega⟩
              first
                | exact ⟨j + 1, _, by omega, by go_num, rfl⟩
                | ((repeat apply Exists.intro); exact ⟨⟨j + 1, _, by omega, by go_num, rfl⟩, rfl⟩)
        · obtain rfl : j = nl := by omega
          go_wp2_with fail
          go_loopw [8] (fun t wr => t = .int .i64 0 ∧ wr = w.drewN nq3) (fun _ _ => 0)
          case atStart => exact ⟨rfl, rfl⟩
          case round =>
            obtain ⟨rfl, rfl⟩ := hrel
            go_wp2_with fail
            go_loopw [10] (fun t wr => t = .int .i64 0 ∧ wr = w.drewN nq3) (fun _ _ => 0)
            case atStart => exact ⟨rfl, rfl⟩
            case round =>
              obtain ⟨rfl, rfl⟩ := hrel
              go_wp2_with fail
              go_ret
              exact ⟨rfl, nq3, rfl⟩

end Go.Proofs.YtjabhnhejbhgjaaGreatDoor
