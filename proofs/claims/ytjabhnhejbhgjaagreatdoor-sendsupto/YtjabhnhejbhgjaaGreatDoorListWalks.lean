/- ofOneLength, sourcePlaces, toBytes, Index, Contains, arePlaces. -/
import Derived.Test.YtjabhnhejbhgjaaGreatDoorSymbolWalks
namespace Go.Proofs.YtjabhnhejbhgjaaGreatDoor
open Go.RowKit

/-- Are all rows as long as the first? -/
def evenB (rs : List Row) : Bool := rs.all fun r => r.l.length == (rat rs 0).l.length

theorem evenB_yes {rs : List Row} (h : ∀ i, i < rs.length → (rat rs i).l.length = (rat rs 0).l.length) : evenB rs = true := by
  unfold evenB
  rw [List.all_eq_true]
  intro r hr
  obtain ⟨i, hi, rfl⟩ := List.mem_iff_getElem.1 hr
  have := h i hi
  rw [show rat rs i = rs[i] by simp [rat, List.getD, hi]] at this
  rw [this]; simp

theorem evenB_no {rs : List Row} {i : Nat} (hi : i < rs.length) (h : (rat rs i).l.length ≠ (rat rs 0).l.length) : evenB rs = false := by
  unfold evenB
  rw [List.all_eq_false]
  refine ⟨rs[i], List.getElem_mem hi, ?_⟩
  rw [show rat rs i = rs[i] by simp [rat, List.getD, hi]] at h
  simpa using h

theorem evenB_len {rs : List Row} (h : evenB rs = true) (i : Nat) (hi : i < rs.length) : (rat rs i).l.length = (rat rs 0).l.length := by
  unfold evenB at h
  rw [List.all_eq_true] at h
  have := h rs[i] (List.getElem_mem hi)
  rw [show rat rs i = rs[i] by simp [rat, List.getD, hi]]
  simpa using this

/-- The row's value, field by field: its length behind a letter. -/
theorem Rs.cellAt {w : World} {b o : Nat} {rs : List Row} (h : Rs w b o rs) (i : Nat) (hi : i < rs.length) : w.cell? ⟨b, o + i, none⟩ = some (.slice (some ⟨(rat rs i).b, (rat rs i).o, none⟩) (rat rs i).l.length (rat rs i).c) := (h i hi).1

set_option maxRecDepth 100000 in
set_option maxHeartbeats 1000000 in
theorem ofOneLength_any (b o c : Nat) (rs : List Row) (w : World) (hn : rs.length ≤ 140737488355328) (hR : Rs w b o rs) :
    Calls Tryz.prog 99 #[.slice (some ⟨b, o, none⟩) rs.length c] w fun e w' => e = .returned (.bool (evenB rs)) ∧ w' = w := by
  go_enter Tryz.func99, Tryz.ntmps99
  go_wp2_with fail
  go_loop [7] (fun t => ∃ k : Nat, k ≤ rs.length ∧ t = .int .i64 (k : Int) ∧ ∀ i, i < k → (rat rs i).l.length = (rat rs 0).l.length) (fun t => rs.length - (intOf t).toNat)
  case atStart => exact ⟨0, by omega, rfl, fun i hi => by omega⟩
  case round =>
    obtain ⟨k, hk, rfl, hall⟩ := hrel
    have HA : Hid (∀ i, i < k → (rat rs i).l.length = (rat rs 0).l.length) := hall
    clear hall
    by_cases hlt : k < rs.length
    · have hck := hR.cellAt k hlt
      have hc0 : w.cell? ⟨b, o, none⟩ = some (.slice (some ⟨(rat rs 0).b, (rat rs 0).o, none⟩) (rat rs 0).l.length (rat rs 0).c) := hR.cellAt 0 (by omega)
      by_cases e : (rat rs k).l.length = (rat rs 0).l.length
      · have HE : Hid ((rat rs k).l.length = (rat rs 0).l.length) := e
        have hne : (((rat rs k).l.length : Int) != ((rat rs 0).l.length : Int)) = false := by rw [e]; simp
        clear e
        go_wp2_with fail
        go_round
        case rel => exact ⟨k + 1, by omega, by go_num, fun i hi => by by_cases h : i = k; (rw [h]; exact HE.out); exact HA.out i (by omega)⟩
        case measure => simp [intOf]; omega
      · have HE : Hid ((rat rs k).l.length ≠ (rat rs 0).l.length) := e
        have hne : (((rat rs k).l.length : Int) != ((rat rs 0).l.length : Int)) = true := by rw [bne_iff_ne]; omega
        clear e
        go_wp2_with fail
        go_ret
        exact ⟨ret_bool (evenB_no hlt HE.out).symm, rfl⟩
    · obtain rfl : k = rs.length := by omega
      go_wp2_with fail
      go_ret
      exact ⟨ret_bool (evenB_yes HA.out).symm, rfl⟩

/-- The places 0, 1, .. -/
def frontUp (n : Nat) : Nat → List Gf.F
  | 0 => List.replicate n 0
  | k + 1 => (frontUp n k).set k (BitVec.ofNat 8 k)

theorem frontUp_length (n k : Nat) : (frontUp n k).length = n := by
  induction k with
  | zero => simp [frontUp]
  | succ k ih => simp [frontUp, ih]

theorem frontUp_at (n k i : Nat) (hk : k ≤ n) (hi : i < k) : at_ (frontUp n k) i = BitVec.ofNat 8 i := by
  induction k with
  | zero => omega
  | succ k ih =>
    simp only [frontUp, at_]
    by_cases e : i = k
    · subst e; rw [List.getD_eq_getElem?_getD, List.getElem?_set_self (by rw [frontUp_length]; omega)]; rfl
    · rw [List.getD_eq_getElem?_getD, List.getElem?_set_ne (Ne.symm e), ← List.getD_eq_getElem?_getD]; exact ih (by omega) (by omega)

def front (n : Nat) : List Gf.F := frontUp n n
theorem front_length (n : Nat) : (front n).length = n := frontUp_length n n
theorem front_at (n i : Nat) (hi : i < n) : at_ (front n) i = BitVec.ofNat 8 i := frontUp_at n n i (Nat.le_refl _) hi

set_option maxRecDepth 100000 in
set_option maxHeartbeats 1000000 in
theorem sourcePlaces_any (n : Nat) (w : World) (hn : n ≤ 8) :
    Calls Tryz.prog 102 #[.int .i64 (n : Int)] w fun e w' =>
      e = .returned (.slice (some ⟨w.heap.size, 0, none⟩) n n) ∧ Blk w' w.heap.size (front n) ∧ Below w.heap.size w w' ∧ w'.heap.size = w.heap.size + 1 := by
  have hmk := fun W => run_make_row' (P := Tryz.prog) 33 5 (.int .u8 0) 1 Tryz.underlying33 Tryz.info_u8 rfl .i64 .i64 n (by omega) (by omega) W
  go_enter Tryz.func102, Tryz.ntmps102
  go_wp2_with fail
  generalize hW : w.alloc (Obj.cells _ _) = W
  have hb0 : Below w.heap.size w W := by rw [← hW]; exact (Below.refl _ _).alloc (Nat.le_refl _) _
  have hz0 : Hid (W.heap.size = w.heap.size + 1) := by rw [← hW]; show _ = _; simp
  have hG0 : Blk W w.heap.size (frontUp n 0) := by rw [← hW]; exact Blk.made n
  clear hW hmk
  go_loopw [9] (fun t wr => ∃ k : Nat, k ≤ n ∧ t = .int .i64 (k : Int) ∧ Blk wr w.heap.size (frontUp n k) ∧ Below w.heap.size w wr ∧ Hid (wr.heap.size = w.heap.size + 1)) (fun t _ => n - (intOf t).toNat)
  case atStart => exact ⟨0, by omega, rfl, hG0, hb0, hz0⟩
  case round =>
    obtain ⟨k, hk, rfl, hGr, hbr, hzr⟩ := hrel
    by_cases hlt : k < n
    · have hcg : wr.cell? ⟨w.heap.size, k, none⟩ = some (.int .u8 ((at_ (frontUp n k) k).toNat : Int)) := by have := hGr.bs k (by rw [frontUp_length]; exact hlt); simpa using this
      have hfg := hGr.frozen k
      go_wp2_with fail
      go_roundw
      case rel => exact ⟨k + 1, by omega, by go_num, hGr.setNat k k (by omega), hbr.setCell (p := ⟨w.heap.size, k, none⟩) (Nat.le_refl _) _, by show _ = _; rw [← hzr.out]; simp⟩
      case measure => simp [intOf]; omega
    · obtain rfl : k = n := by omega
      go_wp2_with fail
      go_ret
      exact ⟨rfl, hGr, hbr, hzr.out⟩

/-- Ints as bytes. -/
def byteOf (z : Int) : Gf.F := BitVec.ofNat 8 z.toNat
def bytesUp (l : List Int) : Nat → List Gf.F
  | 0 => List.replicate l.length 0
  | k + 1 => (bytesUp l k).set k (byteOf (zat l k))

theorem bytesUp_length (l : List Int) (k : Nat) : (bytesUp l k).length = l.length := by
  induction k with
  | zero => simp [bytesUp]
  | succ k ih => simp [bytesUp, ih]

theorem bytesUp_at (l : List Int) (k i : Nat) (hk : k ≤ l.length) (hi : i < k) : at_ (bytesUp l k) i = byteOf (zat l i) := by
  induction k with
  | zero => omega
  | succ k ih =>
    simp only [bytesUp, at_]
    by_cases e : i = k
    · subst e; rw [List.getD_eq_getElem?_getD, List.getElem?_set_self (by rw [bytesUp_length]; omega)]; rfl
    · rw [List.getD_eq_getElem?_getD, List.getElem?_set_ne (Ne.symm e), ← List.getD_eq_getElem?_getD]; exact ih (by omega) (by omega)

def bytesOf (l : List Int) : List Gf.F := bytesUp l l.length
theorem bytesOf_length (l : List Int) : (bytesOf l).length = l.length := bytesUp_length ..
theorem bytesOf_at (l : List Int) (i : Nat) (hi : i < l.length) : at_ (bytesOf l) i = byteOf (zat l i) := bytesUp_at l _ i (Nat.le_refl _) hi

theorem Blk.setInt {w : World} {g : Nat} {l : List Gf.F} (h : Blk w g l) (i : Nat) (z : Int) (h0 : 0 ≤ z) (h1 : z ≤ 255) : Blk (w.setCell ⟨g, i, none⟩ (.int .u8 z)) g (l.set i (byteOf z)) := by
  obtain ⟨k, rfl⟩ := Int.eq_ofNat_of_zero_le h0
  exact h.setNat i k (by omega)

/-- Is v among the first n? -/
def hasB (l : List Int) (n : Nat) (v : Int) : Bool := (List.range n).any fun i => zat l i == v

theorem hasB_iff (l : List Int) (n : Nat) (v : Int) : hasB l n v = true ↔ ∃ i, i < n ∧ zat l i = v := by
  simp [hasB, List.any_eq_true]

theorem hasB_of {l : List Int} {n : Nat} {v r : Int} (h : 0 ≤ r ↔ ∃ i, i < n ∧ zat l i = v) : decide (0 ≤ r) = hasB l n v := by
  rw [Bool.eq_iff_iff, hasB_iff, ← h]; simp

end Go.Proofs.YtjabhnhejbhgjaaGreatDoor
