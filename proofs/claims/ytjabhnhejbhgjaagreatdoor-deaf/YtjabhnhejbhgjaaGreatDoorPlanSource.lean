/- Package cut: symbol, Source: the source symbols of a block of an object. -/
import Derived.Test.YtjabhnhejbhgjaaGreatDoorMany1
import Derived.Test.YtjabhnhejbhgjaaGreatDoorDataWalk
namespace Go.Proofs.YtjabhnhejbhgjaaGreatDoor
open Go.RowKit

/-- Filled up with 0. -/
def padS (S : Nat) (x : List Gf.F) : List Gf.F := x ++ List.replicate (S - x.length) 0
/-- The source symbol with this number of the object. -/
def symAt (S : Nat) (l : List Gf.F) (i : Nat) : List Gf.F := padS S ((l.drop (i * S)).take S)

theorem symAt_length (S : Nat) (l : List Gf.F) (i : Nat) : (symAt S l i).length = S := by
  simp [symAt, padS]; omega

theorem splice_pad (x : List Gf.F) (S : Nat) : splice (enc (List.replicate S 0#8)).toList 0 (encL x) = (enc (padS S x)).toList := by
  have e : (encL x).length = x.length := by simp [encL]
  have e1 : (enc (List.replicate S 0#8)).toList = List.replicate S (Value.int .u8 0) := by simp [enc]
  unfold splice
  rw [e, e1, List.drop_replicate, List.take_zero, List.nil_append, Nat.zero_add]
  simp [encL, enc, padS]

theorem drop_bs {w : World} {b o n S : Nat} {l : List Gf.F} (h : Bs w b o l) : Bs w b (o + n) ((l.drop n).take S) := fun i hi => by
  have hi1 : i < S ∧ n + i < l.length := by simp at hi; omega
  have h1 := h (n + i) hi1.2
  have e : at_ ((l.drop n).take S) i = at_ l (n + i) := by simp [at_, List.getD, hi1.1]
  rw [e, Nat.add_assoc]
  exact h1

set_option maxRecDepth 100000 in
set_option maxHeartbeats 2000000 in
theorem planSym_any (K N S T b o n c i : Nat) (a : Option Addr) (l : List Gf.F) (w : World) (hs1 : 1 ≤ S) (hs8 : S ≤ 8) (hl : l.length = n) (hn : n ≤ 255) (hnc : n ≤ c) (hc : c ≤ 9223372036854775807) (hi : i * S < n ∨ n = 0 ∧ i = 0) (ha : a = some ⟨b, o, none⟩ ∨ a = none ∧ n = 0 ∧ c = 0) (hB : Bs w b o l) :
    Calls Tryz.prog 134 #[.agg #[.int .i64 (K : Int), .int .i64 (N : Int), .int .i64 (S : Int), .int .i64 (T : Int)], .slice a n c, .int .i64 (i : Int)] w fun e w' =>
      e = .returned (.slice (some ⟨w.heap.size + 1, 0, none⟩) S S) ∧ Blk w' (w.heap.size + 1) (symAt S l i) ∧ Below w.heap.size w w' := by
  have hmk := fun W => run_make_row' (P := Tryz.prog) 33 5 (.int .u8 0) 1 Tryz.underlying33 Tryz.info_u8 rfl .i64 .i64 S (by omega) (by omega) W
  obtain ⟨f, hf⟩ : ∃ f : Nat, f = i * S := ⟨_, rfl⟩
  have hfi : (i : Int) * (S : Int) = (f : Int) := by rw [hf]; push_cast; rfl
  have HF : Hid (f = i * S) := hf
  have hi' : f < n ∨ n = 0 ∧ f = 0 := by
    rcases hi with h | ⟨h, rfl⟩
    · exact .inl (by omega)
    · exact .inr ⟨h, by rw [hf]; simp⟩
  have hil : i ≤ 255 := by
    rcases hi with h | ⟨h, rfl⟩
    · have : i * 1 ≤ i * S := Nat.mul_le_mul_left i hs1
      omega
    · omega
  clear hf hi
  obtain ⟨X, hX⟩ : ∃ X, X = encL ((l.drop f).take S) := ⟨_, rfl⟩
  have HX : Hid (X = encL ((l.drop f).take S)) := hX
  have hxl : X.length = min S (n - f) := by rw [hX]; simp [encL]; omega
  have HXL : Hid (X.length = min S (n - f)) := hxl
  have HSY : Hid (splice (enc (List.replicate S 0#8)).toList 0 X = (enc (symAt S l i)).toList) := by
    show _ = _
    rw [hX, splice_pad]
    unfold symAt
    rw [← HF.out]
  clear hX hxl
  have HB : Hid (Bs w b o l) := hB
  have HL : Hid (l.length = n) := hl
  clear hB hl
  go_enter Tryz.func134, Tryz.ntmps134
  go_upto_region 3 with fail
  have hbW : Below w.heap.size w ((w.alloc (.cells #[.int .i64 (K : Int), .int .i64 (N : Int), .int .i64 (S : Int), .int .i64 (T : Int)] 148)).alloc (.cells (madeCells #[.int .u8 0] S) 5)) := ((Below.refl _ _).alloc (Nat.le_refl _) _).alloc (by simp) _
  have hMD : Blk ((w.alloc (.cells #[.int .i64 (K : Int), .int .i64 (N : Int), .int .i64 (S : Int), .int .i64 (T : Int)] 148)).alloc (.cells (madeCells #[.int .u8 0] S) 5)) (w.heap.size + 1) (List.replicate S 0) := by
    have := Blk.made (w := w.alloc (.cells #[.int .i64 (K : Int), .int .i64 (N : Int), .int .i64 (S : Int), .int .i64 (T : Int)] 148)) S
    have e : (w.alloc (.cells #[.int .i64 (K : Int), .int .i64 (N : Int), .int .i64 (S : Int), .int .i64 (T : Int)] 148)).heap.size = w.heap.size + 1 := by simp
    rw [e] at this
    exact this
  have hPL : ((w.alloc (.cells #[.int .i64 (K : Int), .int .i64 (N : Int), .int .i64 (S : Int), .int .i64 (T : Int)] 148)).alloc (.cells (madeCells #[.int .u8 0] S) 5)).heap[w.heap.size]? = some (.cells #[.int .i64 (K : Int), .int .i64 (N : Int), .int .i64 (S : Int), .int .i64 (T : Int)] 148 (0, 0)) := (Below.heap_alloc _ _ _ (by simp)).trans (heap_alloc_new w _)
  generalize (w.alloc (.cells #[.int .i64 (K : Int), .int .i64 (N : Int), .int .i64 (S : Int), .int .i64 (T : Int)] 148)).alloc (.cells (madeCells #[.int .u8 0] S) 5) = W at *
  have hp2 : W.cell? ⟨w.heap.size, 2, none⟩ = some (.int .i64 (S : Int)) := cell_of_row W _ 2 _ _ _ hPL
  have HBW : Hid (Below w.heap.size w W) := hbW
  have HMD : Hid (Blk W (w.heap.size + 1) (List.replicate S 0)) := hMD
  clear hbW hMD hPL hmk
  have key : ∀ w2, Hid (w2.heap[w.heap.size + 1]? = some (Obj.cells (splice (enc (List.replicate S 0#8)).toList 0 X).toArray 5 (0, 0))) → Blk w2 (w.heap.size + 1) (symAt S l i) := fun w2 h => by
    have := h.out
    rw [HSY.out] at this
    exact this
  rcases hi' with hfn | ⟨rfl, rfl⟩
  · obtain rfl : a = some ⟨b, o, none⟩ := by rcases ha with h | ⟨_, h, _⟩; exact h; omega
    clear ha
    have HRD : Hid (∀ j v, X[j]? = some v → W.cell? ⟨b, o + f + j, none⟩ = some v) := fun j v hj => by
      rw [HX.out] at hj
      have := ((drop_bs (n := f) (S := S) HB.out).below HBW.out (lt_of_cell (HB.out 0 (by rw [HL.out]; omega)))).cells j v hj
      have e : (⟨b, o + f, none⟩ : Addr).add j = ⟨b, o + f + j, none⟩ := by unfold Addr.add; split <;> simp_all
      rw [e] at this
      exact this
    by_cases hq : f + S ≤ n
    · have hq1 : (f : Int) + (S : Int) ≤ (n : Int) := by omega
      go_wp2_with (refine wpList_copy_splice rfl _ _ _ _ rfl 5 Tryz.underlying33 Tryz.size_u8 (some ⟨w.heap.size + 1, 0, none⟩) _ S S _ _ rfl rfl (w.heap.size + 1) 0 (enc (List.replicate S 0#8)).toList 5 ?g1 X ?g2 ?g3 ?g4 ?g5 w.heap.size w ?g6 (by omega) ?_)
      case g1 => exact HMD.out
      case g2 => rw [HXL.out]; show min S (n - f) = min (f + S - f) S; omega
      case g3 => intro _; (first | exact ⟨rfl, _, rfl, HRD.out⟩ | exact ⟨_, rfl, HRD.out⟩ | exact HRD.out)
      case g4 => rw [HXL.out]; simp [enc]; omega
      case g5 => rw [HX.out]; exact encL_one _
      case g6 => exact HBW.out
      intro w2 HG2 hB2
      have hG2 := key w2 HG2
      clear HG2
      go_wp2_with fail
      go_ret
      exact ⟨rfl, hG2, hB2⟩
    · have hq1 : ¬ (f : Int) + (S : Int) ≤ (n : Int) := by omega
      go_wp2_with (refine wpList_copy_splice rfl _ _ _ _ rfl 5 Tryz.underlying33 Tryz.size_u8 (some ⟨w.heap.size + 1, 0, none⟩) (some ⟨b, o + f, none⟩) S S (n - f) (c - f) rfl rfl (w.heap.size + 1) 0 (enc (List.replicate S 0#8)).toList 5 ?g1 X ?g2 ?g3 ?g4 ?g5 w.heap.size w ?g6 (by omega) ?_)
      case g1 => exact HMD.out
      case g2 => rw [HXL.out]; exact Nat.min_comm _ _
      case g3 => intro _; (first | exact ⟨rfl, _, rfl, HRD.out⟩ | exact ⟨_, rfl, HRD.out⟩ | exact HRD.out)
      case g4 => rw [HXL.out]; simp [enc]; omega
      case g5 => rw [HX.out]; exact encL_one _
      case g6 => exact HBW.out
      intro w2 HG2 hB2
      have hG2 := key w2 HG2
      clear HG2
      go_wp2_with fail
      go_ret
      exact ⟨rfl, hG2, hB2⟩
  · have hX0 : X.length = 0 := by have := HXL.out; omega
    have hq1 : ¬ (S : Int) ≤ 0 := by omega
    have HX0 : Hid (X = []) := List.length_eq_zero_iff.1 hX0
    clear hX0
    rcases ha with rfl | ⟨rfl, _, rfl⟩
    · rcases Nat.eq_zero_or_pos c with rfl | hcp
      · go_wp2_with (refine wpList_copy_splice rfl _ _ _ _ rfl 5 Tryz.underlying33 Tryz.size_u8 (some ⟨w.heap.size + 1, 0, none⟩) _ S S _ _ rfl rfl (w.heap.size + 1) 0 (enc (List.replicate S 0#8)).toList 5 ?g1 X ?g2 ?g3 ?g4 ?g5 w.heap.size w ?g6 (by omega) ?_)
        case g1 => exact HMD.out
        case g2 => first | exact HX0.out | (rw [HX0.out]; simp)
        case g3 => rw [HX0.out]; simp
        case g4 => rw [HX0.out]; simp
        case g5 => rw [HX0.out]; simp
        case g6 => exact HBW.out
        intro w2 HG2 hB2
        have hG2 := key w2 HG2
        clear HG2
        go_wp2_with fail
        go_ret
        exact ⟨rfl, hG2, hB2⟩
      · have hc0 : ¬ c = 0 := by omega
        go_wp2_with (refine wpList_copy_splice rfl _ _ _ _ rfl 5 Tryz.underlying33 Tryz.size_u8 (some ⟨w.heap.size + 1, 0, none⟩) (some ⟨b, o, none⟩) S S 0 c rfl rfl (w.heap.size + 1) 0 (enc (List.replicate S 0#8)).toList 5 ?g1 X ?g2 ?g3 ?g4 ?g5 w.heap.size w ?g6 (by omega) ?_)
        case g1 => exact HMD.out
        case g2 => first | exact HX0.out | (rw [HX0.out]; simp)
        case g3 => rw [HX0.out]; simp
        case g4 => rw [HX0.out]; simp
        case g5 => rw [HX0.out]; simp
        case g6 => exact HBW.out
        intro w2 HG2 hB2
        have hG2 := key w2 HG2
        clear HG2
        go_wp2_with fail
        go_ret
        exact ⟨rfl, hG2, hB2⟩
    · go_wp2_with (refine wpList_copy_splice rfl _ _ _ _ rfl 5 Tryz.underlying33 Tryz.size_u8 (some ⟨w.heap.size + 1, 0, none⟩) none S S 0 0 rfl rfl (w.heap.size + 1) 0 (enc (List.replicate S 0#8)).toList 5 ?g1 X ?g2 ?g3 ?g4 ?g5 w.heap.size w ?g6 (by omega) ?_)
      case g1 => exact HMD.out
      case g2 => first | exact HX0.out | (rw [HX0.out]; simp)
      case g3 => rw [HX0.out]; try simp
      case g4 => rw [HX0.out]; simp
      case g5 => rw [HX0.out]; simp
      case g6 => exact HBW.out
      intro w2 HG2 hB2
      have hG2 := key w2 HG2
      clear HG2
      go_wp2_with fail
      go_ret
      exact ⟨rfl, hG2, hB2⟩

/-- A list of lists when these stand. -/
def rsCells (rs : List Row) (n : Nat) : Array Value := ((List.range n).map fun i => if i < rs.length then (rat rs i).val else Value.slice none 0 0).toArray

theorem rsCells_zero (n : Nat) : madeCells #[.slice none 0 0] n = rsCells [] n := by
  apply Array.ext'
  rw [toList_madeCells_one]
  simp only [rsCells]
  apply List.ext_getElem
  · simp
  · intro i h1 h2; simp

theorem rat_push (rs : List Row) (r : Row) (i : Nat) (h : i < rs.length) : rat (rs ++ [r]) i = rat rs i := by simp [rat, List.getD, List.getElem?_append_left h]
theorem rat_last (rs : List Row) (r : Row) : rat (rs ++ [r]) rs.length = r := by simp [rat, List.getD]

theorem rsCells_push (rs : List Row) (r : Row) (n : Nat) : (rsCells rs n).setIfInBounds rs.length r.val = rsCells (rs ++ [r]) n := by
  apply Array.ext'
  simp only [rsCells, List.setIfInBounds_toArray]
  apply List.ext_getElem
  · simp
  · intro i h1 h2
    simp only [List.getElem_set, List.getElem_map, List.getElem_range, List.length_append, List.length_singleton]
    by_cases e : rs.length = i
    · subst e
      rw [if_pos rfl, if_pos (by omega), rat_last]
    · rw [if_neg e]
      by_cases h : i < rs.length
      · rw [if_pos h, if_pos (by omega), rat_push _ _ _ h]
      · rw [if_neg h, if_neg (by omega)]

theorem rsCells_at (rs : List Row) (n i : Nat) (hi : i < n) (h : i < rs.length) : (rsCells rs n)[i]? = some (rat rs i).val := by
  simp [rsCells, hi, h]
theorem rsCells_rest (rs : List Row) (n i : Nat) (hi : i < n) (h : ¬ i < rs.length) : (rsCells rs n)[i]? = some (.slice none 0 0) := by
  simp [rsCells, hi, h]

/-- Rows, each in a block of its own, new since B. -/
structure NewRows (w : World) (B : Nat) (rs : List Row) : Prop where
  blk : ∀ i, i < rs.length → Blk w (rat rs i).b (rat rs i).l
  off : ∀ i, i < rs.length → (rat rs i).o = 0
  low : ∀ i, i < rs.length → B ≤ (rat rs i).b

theorem NewRows.below {w w' : World} {B : Nat} {rs : List Row} (h : NewRows w B rs) (hb : Below w.heap.size w w') : NewRows w' B rs :=
  ⟨fun i hi => (h.blk i hi).below hb (h.blk i hi).lt, h.off, h.low⟩
theorem NewRows.onlyAt {w w' : World} {B g : Nat} {rs : List Row} (h : NewRows w B rs) (ho : OnlyAt g w w') (hg : g < B) : NewRows w' B rs :=
  ⟨fun i hi => (h.blk i hi).onlyAt ho (by have := h.low i hi; omega), h.off, h.low⟩
theorem NewRows.push {w : World} {B : Nat} {rs : List Row} {r : Row} (h : NewRows w B rs) (h1 : Blk w r.b r.l) (h2 : r.o = 0) (h3 : B ≤ r.b) : NewRows w B (rs ++ [r]) := by
  have key : ∀ i, i < (rs ++ [r]).length → (i < rs.length ∧ rat (rs ++ [r]) i = rat rs i) ∨ rat (rs ++ [r]) i = r := fun i hi => by
    by_cases e : i < rs.length
    · exact .inl ⟨e, rat_push _ _ _ e⟩
    · have : i = rs.length := by simp at hi; omega
      subst this
      exact .inr (rat_last _ _)
  refine ⟨fun i hi => ?_, fun i hi => ?_, fun i hi => ?_⟩ <;> rcases key i hi with ⟨h4, e⟩ | e <;> rw [e]
  · exact h.blk i h4
  · exact h1
  · exact h.off i h4
  · exact h2
  · exact h.low i h4
  · exact h3

theorem NewRows.rs {w : World} {B S n : Nat} {rs : List Row} (h : NewRows w B rs) (hn : rs.length = n) (hS : w.heap[S]? = some (.cells (rsCells rs n) 33 (0, 0))) : Rs w S 0 rs := fun i hi => by
  refine ⟨?_, ?_⟩
  · rw [Nat.zero_add, cell_of_row _ _ _ _ _ _ hS]; exact rsCells_at rs n i (by omega) hi
  · rw [h.off i hi]; exact (h.blk i hi).bs

set_option maxRecDepth 100000 in
set_option maxHeartbeats 2000000 in
theorem planSource_any (K N S T b o n c q : Nat) (a : Option Addr) (l : List Gf.F) (w : World) (hcf : Cfg K N S) (hT : T = symN S n) (hq : q * K < T) (hl : l.length = n) (hn : n ≤ 255) (hnc : n ≤ c) (hc : c ≤ 9223372036854775807) (ha : a = some ⟨b, o, none⟩ ∨ a = none ∧ n = 0 ∧ c = 0) (hB : Bs w b o l) (hbl : 0 < n → b < w.heap.size) :
    Calls Tryz.prog 116 #[.agg #[.int .i64 (K : Int), .int .i64 (N : Int), .int .i64 (S : Int), .int .i64 (T : Int)], .slice a n c, .int .i64 (q : Int)] w fun e w' =>
      ∃ g rs, e = .returned (.slice (some ⟨g, 0, none⟩) (srcN K T q) (srcN K T q)) ∧ rs.length = srcN K T q ∧ w'.heap[g]? = some (.cells (rsCells rs (srcN K T q)) 33 (0, 0)) ∧ w.heap.size ≤ g ∧ NewRows w' (g + 1) rs ∧ (∀ i, i < rs.length → (rat rs i).l = symAt S l (q * K + i)) ∧ Below w.heap.size w w' := by
  obtain ⟨k1, k8, kn, n16, s1, s8⟩ := hcf
  have hTr := symN_range (S := S) (len := n) s1
  have hsrc := fun W => sources_any K N S T q (by omega) hq W
  have hm8 : srcN K T q ≤ 8 := by unfold srcN; omega
  have hmT : q * K + srcN K T q ≤ T := by unfold srcN; omega
  obtain ⟨qk, hqk⟩ : ∃ x : Nat, x = q * K := ⟨_, rfl⟩
  have hqi : (q : Int) * (K : Int) = (qk : Int) := by rw [hqk]; push_cast; rfl
  rw [← hqk] at hmT hq ⊢
  clear hqk
  generalize srcN K T q = m at *
  have hmk := fun W => run_make_row' (P := Tryz.prog) 40 33 (.slice none 0 0) 24 Tryz.underlying40 Tryz.info_bytes rfl .i64 .i64 m (by omega) (by omega) W
  have HSY : Hid (∀ (i : Nat) W, Below w.heap.size w W → i < m → Calls Tryz.prog 134 #[.agg #[.int .i64 (K : Int), .int .i64 (N : Int), .int .i64 (S : Int), .int .i64 (T : Int)], .slice a n c, .int .i64 ((qk : Int) + (i : Int))] W fun e w' =>
      e = .returned (.slice (some ⟨W.heap.size + 1, 0, none⟩) S S) ∧ Blk w' (W.heap.size + 1) (symAt S l (qk + i)) ∧ Below W.heap.size W w') := fun i W hb hi => by
    have hii : (qk + i) * S < n ∨ n = 0 ∧ qk + i = 0 := by
      have h1 : qk + i < symN S n := by omega
      by_cases h0 : n = 0
      · right
        refine ⟨h0, ?_⟩
        subst h0
        have : symN S 0 = 1 := by unfold symN partsN; rw [Nat.div_eq_of_lt (by omega)]; rfl
        omega
      · left
        have h2 : qk + i < partsN n S := by
          unfold symN at h1
          by_cases h3 : 1 ≤ partsN n S
          · omega
          · have h4 : 1 ≤ partsN n S := by unfold partsN; exact (Nat.one_le_div_iff (by omega)).2 (by omega)
            omega
        exact partsN_mul s1 h2
    have := planSym_any K N S T b o n c (qk + i) a l W s1 s8 hl hn hnc hc hii ha (by
      by_cases h0 : 0 < n
      · exact hB.below hb (hbl h0)
      · intro j hj; omega)
    push_cast at this
    exact this
  have hT2 : T ≤ 256 := by omega
  clear hB hbl ha hl hT hTr
  go_enter Tryz.func116, Tryz.ntmps116
  go_wp2_with fail
  refine (hsrc _).mono ?_
  rintro e w1 ⟨rfl, hb1⟩
  have hP0 := heap_alloc_new w (.cells #[.int .i64 (K : Int), .int .i64 (N : Int), .int .i64 (S : Int), .int .i64 (T : Int)] 148)
  have hP1 := (hb1.block _ (lt_of_block hP0)).trans hP0
  have hbw1 : Below w.heap.size w w1 := ((Below.refl _ w).alloc (Nat.le_refl _) _).trans (hb1.mono (by simp))
  have hl1 := lt_of_block hP1
  clear hP0 hb1 hsrc
  have hmk1 := hmk w1
  go_upto_region 2 with fail
  generalize hW2 : w1.alloc (Obj.cells _ _) = w2
  have hb2 : Below w1.heap.size w1 w2 := by rw [← hW2]; exact (Below.refl _ _).alloc (Nat.le_refl _) _
  have hl2 : Hid (w2.heap[w1.heap.size]? = some (.cells (rsCells [] m) 33 (0, 0))) := by show _ = _; rw [← hW2, ← rsCells_zero]; exact heap_alloc_new _ _
  have hz2 : w1.heap.size < w2.heap.size := by rw [← hW2]; simp
  clear hW2 hmk1 hmk
  have hP2 : Hid (w2.heap[w.heap.size]? = some (.cells #[.int .i64 (K : Int), .int .i64 (N : Int), .int .i64 (S : Int), .int .i64 (T : Int)] 148 (0, 0))) := (hb2.block _ hl1).trans hP1
  have hbw2 : Below w.heap.size w w2 := hbw1.trans (hb2.mono (by omega))
  clear hb2 hP1
  go_wp2_with fail
  go_loopw [15] (fun t wr => ∃ (k : Nat) (rs : List Row), k ≤ m ∧ t = .int .i64 (k : Int) ∧ Hid (rs.length = k) ∧ Hid (wr.heap[w1.heap.size]? = some (.cells (rsCells rs m) 33 (0, 0))) ∧ NewRows wr (w1.heap.size + 1) rs ∧ Hid (∀ i, i < rs.length → (rat rs i).l = symAt S l (qk + i)) ∧
      Hid (wr.heap[w.heap.size]? = some (.cells #[.int .i64 (K : Int), .int .i64 (N : Int), .int .i64 (S : Int), .int .i64 (T : Int)] 148 (0, 0))) ∧ Below w.heap.size w wr ∧ w1.heap.size < wr.heap.size) (fun t _ => m - (intOf t).toNat)
  case atStart => exact ⟨0, [], by omega, rfl, rfl, hl2, ⟨fun i hi => by simp at hi, fun i hi => by simp at hi, fun i hi => by simp at hi⟩, fun i hi => by simp at hi, hP2, hbw2, hz2⟩
  case round =>
    obtain ⟨k, rs, hk, rfl, hrl, hlr, hNR, hsy, hPr, hbr, hzr⟩ := hrel
    clear hl2 hP2 hbw2 hz2
    by_cases hlt : k < m
    · have p0 : wr.cell? ⟨w.heap.size, 0, none⟩ = some (.int .i64 (K : Int)) := cell_of_row wr _ 0 _ _ _ hPr.out
      have p1 : wr.cell? ⟨w.heap.size, 1, none⟩ = some (.int .i64 (N : Int)) := cell_of_row wr _ 1 _ _ _ hPr.out
      have p2 : wr.cell? ⟨w.heap.size, 2, none⟩ = some (.int .i64 (S : Int)) := cell_of_row wr _ 2 _ _ _ hPr.out
      have p3 : wr.cell? ⟨w.heap.size, 3, none⟩ = some (.int .i64 (T : Int)) := cell_of_row wr _ 3 _ _ _ hPr.out
      go_wp2_with fail
      refine (HSY.out k wr hbr hlt).mono ?_
      rintro e w5 ⟨rfl, hG5, hb5⟩
      have hs5 := hb5.size
      have hl5 : w5.heap[w1.heap.size]? = some (.cells (rsCells rs m) 33 (0, 0)) := by rw [hb5.block _ hzr]; exact hlr.out
      have hc5 : w5.cell? ⟨w1.heap.size, k, none⟩ = some (.slice none 0 0) := by rw [cell_of_row _ _ _ _ _ _ hl5]; exact rsCells_rest _ _ _ hlt (by rw [hrl.out]; omega)
      have hf5 := frozen_of_row w5 w1.heap.size k _ _ hl5
      have HL5 : Hid (w5.heap[w1.heap.size]? = some (.cells (rsCells rs m) 33 (0, 0))) := hl5
      clear hl5
      go_wp2_with fail
      have hO : OnlyAt w1.heap.size w5 (w5.setCell ⟨w1.heap.size, k, none⟩ (.slice (some ⟨wr.heap.size + 1, 0, none⟩) S S)) := (OnlyAt.refl _ _).setCell k _
      have hG6 := hG5.onlyAt hO (show wr.heap.size + 1 ≠ w1.heap.size by omega)
      have hrv : (⟨wr.heap.size + 1, 0, S, symAt S l (qk + k)⟩ : Row).val = .slice (some ⟨wr.heap.size + 1, 0, none⟩) S S := by
        show Value.slice _ (symAt S l (qk + k)).length S = _
        rw [symAt_length]
      go_roundw
      case rel =>
        refine ⟨k + 1, rs ++ [⟨wr.heap.size + 1, 0, S, symAt S l (qk + k)⟩], by omega, by go_num, ?_, ?_, ?_, ?_, ?_, ?_, ?_⟩
        · show _ = _
          simp [hrl.out]
        · show _ = _
          rw [heap_setCell_same _ _ _ _ _ _ HL5.out, ← hrv, ← hrl.out, rsCells_push]
        · exact ((hNR.below hb5).onlyAt hO (by omega)).push hG6 rfl (by show _ ≤ wr.heap.size + 1; omega)
        · show ∀ i, _
          intro i hi
          by_cases e : i < rs.length
          · rw [rat_push _ _ _ e]; exact hsy.out i e
          · have e2 : i = rs.length := by simp at hi; omega
            subst e2
            rw [rat_last, hrl.out]
        · show _ = _
          rw [hO.rest _ (by omega), hb5.block _ (lt_of_block hPr.out)]; exact hPr.out
        · exact (hbr.trans (hb5.mono (by omega))).trans (hO.below.mono (by omega))
        · rw [hO.size]; omega
      case measure => simp [intOf]; omega
    · obtain rfl : k = m := by omega
      go_wp2_with fail
      go_ret
      exact ⟨w1.heap.size, rs, rfl, hrl.out, hlr.out, by omega, hNR, hsy.out, hbr⟩

end Go.Proofs.YtjabhnhejbhgjaaGreatDoor
