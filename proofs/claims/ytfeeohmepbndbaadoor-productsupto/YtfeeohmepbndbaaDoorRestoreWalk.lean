/- murmur.Restore. -/
import Derived.Test.YtfeeohmepbndbaaDoorCallWalks
namespace Go.Proofs.YtfeeohmepbndbaaDoor
open Go.RowKit

/-- The list of source symbols when k of them stand: each in a block of its own, from 'base' on. -/
def srcCells (base m n k : Nat) : Array Value := ((List.range n).map fun i => if i < k then Value.slice (some ⟨base + i, 0, none⟩) m m else Value.slice none 0 0).toArray

theorem srcCells_zero (base m n : Nat) : madeCells #[.slice none 0 0] n = srcCells base m n 0 := by
  apply Array.ext'
  rw [toList_madeCells_one]
  simp only [srcCells]
  apply List.ext_getElem
  · simp
  · intro i h1 h2; simp

theorem srcCells_succ (base m n k : Nat) : (srcCells base m n k).setIfInBounds k (.slice (some ⟨base + k, 0, none⟩) m m) = srcCells base m n (k + 1) := by
  apply Array.ext'
  simp only [srcCells, List.setIfInBounds_toArray]
  apply List.ext_getElem
  · simp
  · intro i h1 h2
    simp only [List.getElem_set, List.getElem_map, List.getElem_range]
    by_cases e : k = i
    · subst e; simp
    · rw [if_neg e]
      by_cases h : i < k
      · rw [if_pos h, if_pos (by omega)]
      · rw [if_neg h, if_neg (by omega)]

theorem srcCells_at (base m n k i : Nat) (hi : i < n) (hk : i < k) : (srcCells base m n k)[i]? = some (.slice (some ⟨base + i, 0, none⟩) m m) := by
  simp [srcCells, hi, hk]

theorem srcCells_rest (base m n k i : Nat) (hi : i < n) (hk : ¬ i < k) : (srcCells base m n k)[i]? = some (.slice none 0 0) := by
  simp [srcCells, hi, hk]

theorem Tryd.info_bytes : (Tryd.prog.info? 33).map (fun i => (i.zero, i.size, i.bytes)) = some (some (.slice none 0 0), 1, 24) := by kernel_rfl

/-- What Restore leaves: the list's block S, the symbols' blocks from base on. -/
structure Restored (w w' : World) (S base m n : Nat) (X : List Gf.F) (rs : List Row) : Prop where
  list : w'.heap[S]? = some (.cells (srcCells base m n n) 33 (0, 0))
  syms : ∀ i, i < n → Blk w' (base + i) (symOf X rs (BitVec.ofNat 8 i) m)
  old : w.heap.size ≤ S
  apart : S < base
  size : w'.heap.size = base + n
  below : Below w.heap.size w w'

set_option maxRecDepth 100000 in
set_option maxHeartbeats 2000000 in
theorem restore_ok (zb zo zc sb so sc m n : Nat) (l : List Int) (rs : List Row) (w : World) (hln : l.length = n) (hrn : rs.length = n) (hnz : n ≤ zc) (hc : cntB (n : Int) = true) (hp : placesB l n = true) (he : evenB rs = true) (hm0 : (rat rs 0).l.length = m) (hm : m ≤ 281474976710656)
    (hZ : Zs w zb zo l) (hR : Rs w sb so rs) (hlow : ∀ i, i < rs.length → (rat rs i).b < w.heap.size) :
    Calls Tryd.prog 16 #[.int .i64 (n : Int), .slice (some ⟨zb, zo, none⟩) n zc, .slice (some ⟨sb, so, none⟩) n sc] w fun e w' =>
      ∃ S base, e = .returned (.tuple #[.slice (some ⟨S, 0, none⟩) n n, .nilIface]) ∧ Restored w w' S base m n (bytesOf l) rs := by
  obtain ⟨hn1, hn8⟩ := cntB_range hc
  have hmk := fun W => run_make_row' (P := Tryd.prog) 31 33 (.slice none 0 0) 24 Tryd.underlying31 Tryd.info_bytes rfl .i64 .i64 n (by omega) (by omega) W
  have HMK := fun W => show Hid _ from hmk W
  clear hmk
  have HR : Hid (rs.length = n) := hrn
  have HLN : Hid (l.length = n) := hln
  clear hrn hln
  have HM : Hid (∀ i, i < rs.length → (rat rs i).l.length = m) := fun i hi => (evenB_len he i hi).trans hm0
  clear hm0
  have HLOW : Hid (∀ i, i < rs.length → (rat rs i).b < w.heap.size) := hlow
  clear hlow
  have hsl := hR.lt (by have := HR.out; omega)
  have hzl := hZ.lt (by have := HLN.out; omega)
  have hnn : ((n : Int) != (n : Int)) = false := by simp
  have h19 := ofOneLength_any sb so sc rs w (by have := HR.out; omega) hR
  rw [HR.out] at h19
  have H19 : Hid (Calls Tryd.prog 22 #[.slice (some ⟨sb, so, none⟩) n sc] w fun e w' => e = .returned (.bool (evenB rs)) ∧ w' = w) := h19
  clear h19
  go_enter Tryd.func16, Tryd.ntmps16
  go_wp2_with fail
  refine (isCount_any _ _).mono ?_
  rintro e w1 ⟨rfl, rfl⟩
  go_wp2_with fail
  refine (arePlaces_any zb zo zc n l _ HLN.out.symm (by omega) hnz hZ).mono ?_
  rintro e w1 ⟨rfl, rfl⟩
  go_wp2_with fail
  refine H19.out.mono ?_
  rintro e w1 ⟨rfl, rfl⟩
  go_wp2_with fail
  refine (toBytes_any zb zo zc n l _ HLN.out (by omega) hZ hzl (fun i hi => placesB_range hp i hi)).mono ?_
  rintro e w2 ⟨rfl, hG2, hb2, hz2⟩
  have HZ2 : Hid (w2.heap.size = w1.heap.size + 1) := hz2
  clear hz2
  have hmk2 := (HMK w2).out
  go_wp2_with fail
  clear hmk2 HMK H19
  generalize hW : w2.alloc (Obj.cells _ _) = w3
  have hb3 : Below w2.heap.size w2 w3 := by rw [← hW]; exact (Below.refl _ _).alloc (Nat.le_refl _) _
  have HZ3 : Hid (w3.heap.size = w2.heap.size + 1) := by rw [← hW]; show _ = _; simp
  have hl3 : w3.heap[w2.heap.size]? = some (.cells (madeCells #[.slice none 0 0] n) 33 (0, 0)) := by rw [← hW]; exact heap_alloc_new _ _
  have HL3 : Hid (w3.heap[w2.heap.size]? = some (.cells (madeCells #[.slice none 0 0] n) 33 (0, 0))) := hl3
  clear hW hl3
  refine (sourcePlaces_any n _ (by omega)).mono ?_
  rintro e w4 ⟨rfl, hG4, hb4, hz4⟩
  have HZ4 : Hid (w4.heap.size = w3.heap.size + 1) := hz4
  clear hz4
  go_wp2_with fail
  have s2 := HZ2.out
  have s3 := HZ3.out
  have s4 := HZ4.out
  have S2 : w1.heap.size < w2.heap.size := by omega
  have S3 : w2.heap.size < w3.heap.size := by omega
  have S4 : w3.heap.size < w4.heap.size := by omega
  clear s2 s3 s4
  have hb14 : Below w1.heap.size w1 w4 := (hb2.trans (hb3.mono (by omega))).trans (hb4.mono (by omega))
  have hG24 : Blk w4 w1.heap.size (bytesOf l) := (hG2.below hb3 (by omega)).below hb4 (by omega)
  have hl4 : Hid (w4.heap[w2.heap.size]? = some (.cells (srcCells w4.heap.size m n 0) 33 (0, 0))) := by show _ = _; rw [hb4.block _ S3, HL3.out, srcCells_zero w4.heap.size m n]
  go_loopw [44] (fun t wr => ∃ k : Nat, k ≤ n ∧ t = .int .i64 (k : Int) ∧ Hid (wr.heap[w2.heap.size]? = some (.cells (srcCells w4.heap.size m n k) 33 (0, 0))) ∧ Blk wr w1.heap.size (bytesOf l) ∧ Blk wr w3.heap.size (front n) ∧
      (∀ i, i < k → Blk wr (w4.heap.size + i) (symOf (bytesOf l) rs (BitVec.ofNat 8 i) m)) ∧ Below w1.heap.size w1 wr ∧ Hid (wr.heap.size = w4.heap.size + k)) (fun t _ => n - (intOf t).toNat)
  case atStart => exact ⟨0, by omega, rfl, hl4, hG24, hG4, fun i hi => by omega, hb14, rfl⟩
  case round =>
    obtain ⟨k, hk, rfl, hlr, hGk, hGf, hGs, hbr, hzr⟩ := hrel
    clear hl4 hG24 hG4 hG2 HL3
    by_cases hlt : k < n
    · have hcp : wr.cell? ⟨w3.heap.size, k, none⟩ = some (.int .u8 ((at_ (front n) k).toNat : Int)) := by have := hGf.bs k (by rw [front_length]; exact hlt); simpa using this
      have hRr := hR.below hbr hsl HLOW.out
      have hsz : w4.heap.size ≤ wr.heap.size := by rw [hzr.out]; omega
      go_wp2_with fail
      refine (blockSymbol_z w1.heap.size 0 n sb so sc m n (bytesOf l) rs _ (at_ (front n) k) _ rfl ((bytesOf_length l).trans HLN.out) HR.out (by omega) (by omega) hm hGk.bs hRr HM.out (fun i hi => Nat.lt_of_lt_of_le (HLOW.out i hi) (by omega))).mono ?_
      rintro e w5 ⟨rfl, hG5, hb5, hz5⟩
      have HZ5 : Hid (w5.heap.size = wr.heap.size + 1) := hz5
      clear hz5
      have hl5 : w5.heap[w2.heap.size]? = some (.cells (srcCells w4.heap.size m n k) 33 (0, 0)) := by rw [hb5.block _ (by omega)]; exact hlr.out
      have hc5 : w5.cell? ⟨w2.heap.size, k, none⟩ = some (.slice none 0 0) := by rw [cell_of_row _ _ _ _ _ _ hl5]; exact srcCells_rest _ _ _ _ _ hlt (by omega)
      have hf5 := frozen_of_row w5 w2.heap.size k _ _ hl5
      have HL5 : Hid (w5.heap[w2.heap.size]? = some (.cells (srcCells w4.heap.size m n k) 33 (0, 0))) := hl5
      clear hl5
      go_wp2_with fail
      have hO : OnlyAt w2.heap.size w5 (w5.setCell ⟨w2.heap.size, k, none⟩ (.slice (some ⟨wr.heap.size, 0, none⟩) m m)) := (OnlyAt.refl _ _).setCell k _
      go_roundw
      case rel =>
        refine ⟨k + 1, by omega, by go_num, ?_, ?_, ?_, ?_, ?_, ?_⟩
        · show _ = _
          rw [heap_setCell_same _ _ _ _ _ _ HL5.out, hzr.out, srcCells_succ]
        · exact (hGk.below hb5 (by omega)).onlyAt hO (by omega)
        · exact (hGf.below hb5 (by omega)).onlyAt hO (by omega)
        · intro i hi
          by_cases e : i = k
          · subst e
            have h5 : Blk w5 (w4.heap.size + i) (symOf (bytesOf l) rs (BitVec.ofNat 8 i) m) := by rw [← hzr.out, ← front_at n i hlt]; exact hG5
            exact h5.onlyAt hO (by omega)
          · exact ((hGs i (by omega)).below hb5 (by rw [hzr.out]; omega)).onlyAt hO (by omega)
        · exact (hbr.trans (hb5.mono (by omega))).trans (hO.below.mono (by omega))
        · show _ = _
          rw [hO.size, HZ5.out, hzr.out]; omega
      case measure => simp [intOf]; omega
    · obtain rfl : k = n := by omega
      go_wp2_with fail
      go_ret2
      exact ⟨w2.heap.size, w4.heap.size, rfl, hlr.out, hGs, by omega, by omega, hzr.out, hbr⟩

set_option maxRecDepth 100000 in
set_option maxHeartbeats 1000000 in
/-- Restore, where something may not be. -/
theorem restore_no (zb zo zc sb so sc zn sn : Nat) (k : Int) (l : List Int) (rs : List Row) (u : TypeId) (x : Value) (w : World) (hln : l.length = zn) (hrn : rs.length = sn) (hzn : zn ≤ 140737488355328) (hsn : sn ≤ 140737488355328) (hnz : zn ≤ zc)
    (hZ : Zs w zb zo l) (hR : Rs w sb so rs) (hg : w.cell? ⟨1, 0, none⟩ = some (.iface u x))
    (hbad : cntB k = false ∨ (zn : Int) ≠ k ∨ (sn : Int) ≠ k ∨ placesB l zn = false ∨ evenB rs = false) :
    Calls Tryd.prog 16 #[.int .i64 k, .slice (some ⟨zb, zo, none⟩) zn zc, .slice (some ⟨sb, so, none⟩) sn sc] w fun e w' =>
      e = .returned (.tuple #[.slice none 0 0, .iface u x]) ∧ ∃ nq, w' = w.drewN nq := by
  have h19 := ofOneLength_any sb so sc rs w (by omega) hR
  rw [hrn] at h19
  have H19 : Hid (Calls Tryd.prog 22 #[.slice (some ⟨sb, so, none⟩) sn sc] w fun e w' => e = .returned (.bool (evenB rs)) ∧ w' = w) := h19
  clear h19
  have HLN : Hid (l.length = zn) := hln
  clear hln hrn
  have H34 : Hid (Calls Tryd.prog 37 #[.slice (some ⟨zb, zo, none⟩) zn zc] w fun e w' => e = .returned (.bool (placesB l zn)) ∧ w' = w) := arePlaces_any zb zo zc zn l w HLN.out.symm hzn hnz hZ
  cases hc : cntB k
  · clear hbad
    go_enter Tryd.func16, Tryd.ntmps16
    go_wp2_with (go_at_call 21; refine (isCount_any _ _).mono ?_; rintro e w' ⟨rfl, rfl⟩)
    go_quiet (fail)
    go_wp2
    go_ret2
    exact ⟨rfl, _, rfl⟩
  · cases h1 : ((zn : Int) != k)
    · cases h2 : ((sn : Int) != k)
      · cases h3 : placesB l zn
        · clear hbad
          go_enter Tryd.func16, Tryd.ntmps16
          go_wp2_with (first | (go_at_call 21; refine (isCount_any _ _).mono ?_; rintro e w' ⟨rfl, rfl⟩) | (go_at_call 37; refine H34.out.mono ?_; rintro e w' ⟨rfl, rfl⟩))
          go_quiet (fail)
          go_wp2
          go_ret2
          exact ⟨rfl, _, rfl⟩
        · have h4 : evenB rs = false := by
            rcases hbad with h | h | h | h | h
            · rw [hc] at h; cases h
            · exact absurd (bne_iff_ne.2 h) (by rw [h1]; decide)
            · exact absurd (bne_iff_ne.2 h) (by rw [h2]; decide)
            · rw [h3] at h; cases h
            · exact h
          clear hbad
          go_enter Tryd.func16, Tryd.ntmps16
          go_wp2_with (first | (go_at_call 21; refine (isCount_any _ _).mono ?_; rintro e w' ⟨rfl, rfl⟩) | (go_at_call 37; refine H34.out.mono ?_; rintro e w' ⟨rfl, rfl⟩) | (go_at_call 22; refine H19.out.mono ?_; rintro e w' ⟨rfl, rfl⟩))
          go_quiet (fail)
          go_wp2
          go_ret2
          exact ⟨rfl, _, rfl⟩
      · clear hbad
        go_enter Tryd.func16, Tryd.ntmps16
        go_wp2_with (go_at_call 21; refine (isCount_any _ _).mono ?_; rintro e w' ⟨rfl, rfl⟩)
        go_quiet (fail)
        go_wp2
        go_ret2
        exact ⟨rfl, _, rfl⟩
    · clear hbad
      go_enter Tryd.func16, Tryd.ntmps16
      go_wp2_with (go_at_call 21; refine (isCount_any _ _).mono ?_; rintro e w' ⟨rfl, rfl⟩)
      go_quiet (fail)
      go_wp2
      go_ret2
      exact ⟨rfl, _, rfl⟩

end Go.Proofs.YtfeeohmepbndbaaDoor
