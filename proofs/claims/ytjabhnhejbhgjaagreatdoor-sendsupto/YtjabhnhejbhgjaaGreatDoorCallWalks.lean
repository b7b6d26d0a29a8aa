/- arePlaces; murmur.Symbol, murmur.Restore. -/
import Derived.Test.YtjabhnhejbhgjaaGreatDoorListWalks
import Derived.BigQuiet
import Derived.Deep.QuietTactic
namespace Go.Proofs.YtjabhnhejbhgjaaGreatDoor
open Go.RowKit

/-- Are these places, all of them others? -/
def placesB (l : List Int) (n : Nat) : Bool := (List.range n).all fun i => plcB (zat l i) && !hasB l i (zat l i)

theorem placesB_iff (l : List Int) (n : Nat) : placesB l n = true ↔ ∀ i, i < n → plcB (zat l i) = true ∧ hasB l i (zat l i) = false := by
  simp [placesB, List.all_eq_true]

theorem placesB_no {l : List Int} {n i : Nat} (hi : i < n) (h : plcB (zat l i) = false ∨ hasB l i (zat l i) = true) : placesB l n = false := by
  rw [← Bool.not_eq_true, placesB_iff]
  intro hh
  have := hh i hi
  rcases h with h | h
  · rw [h] at this; exact absurd this.1 (by decide)
  · rw [h] at this; exact absurd this.2 (by decide)

theorem plcB_range {z : Int} (h : plcB z = true) : 0 ≤ z ∧ z ≤ 255 := of_decide_eq_true h
theorem cntB_range {z : Int} (h : cntB z = true) : 1 ≤ z ∧ z ≤ 8 := of_decide_eq_true h

theorem placesB_range {l : List Int} {n : Nat} (h : placesB l n = true) (i : Nat) (hi : i < n) : 0 ≤ zat l i ∧ zat l i ≤ 255 := plcB_range ((placesB_iff l n).1 h i hi).1

theorem placesB_apart {l : List Int} {n : Nat} (h : placesB l n = true) (i j : Nat) (hi : i < n) (hj : j < n) (e : zat l i = zat l j) : i = j := by
  rcases Nat.lt_trichotomy i j with q | q | q
  · have := ((placesB_iff l n).1 h j hj).2
    have h2 : hasB l j (zat l j) = true := (hasB_iff l j _).2 ⟨i, q, e⟩
    rw [h2] at this; exact absurd this (by decide)
  · exact q
  · have := ((placesB_iff l n).1 h i hi).2
    have h2 : hasB l i (zat l i) = true := (hasB_iff l i _).2 ⟨j, q, e.symm⟩
    rw [h2] at this; exact absurd this (by decide)

theorem byteOf_toNat {z : Int} (h : 0 ≤ z ∧ z ≤ 255) : z = ((byteOf z).toNat : Int) := by
  unfold byteOf
  rw [BitVec.toNat_ofNat, Nat.mod_eq_of_lt (by omega)]
  omega

theorem blockSymbol_z (pb po pc sb so sc m n : Nat) (X : List Gf.F) (rs : List Row) (z : Int) (p : Gf.F) (w : World) (hz : z = (p.toNat : Int)) (hXn : X.length = n) (hrn : rs.length = n) (hn : 0 < n) (hn8 : n ≤ 8) (hm : m ≤ 281474976710656)
    (hP : Bs w pb po X) (hR : Rs w sb so rs) (hlen : ∀ i, i < rs.length → (rat rs i).l.length = m) (hlow : ∀ i, i < rs.length → (rat rs i).b < w.heap.size) :
    Calls Tryz.prog 101 #[.slice (some ⟨pb, po, none⟩) n pc, .slice (some ⟨sb, so, none⟩) n sc, .int .u8 z] w fun e w' =>
      e = .returned (.slice (some ⟨w.heap.size, 0, none⟩) m m) ∧ Blk w' w.heap.size (symOf X rs p m) ∧ Below w.heap.size w w' ∧ w'.heap.size = w.heap.size + 1 := by
  subst hz
  have := blockSymbol_any pb po pc sb so sc m X rs p w (by omega) (by omega) (by omega) hm hP hR hlen hlow
  rw [hXn, hrn] at this
  exact this

set_option maxRecDepth 100000 in
set_option maxHeartbeats 1000000 in
/-- Symbol, where all may be. -/
theorem symbol_ok (sb so sc m n : Nat) (rs : List Row) (z : Int) (w : World) (hrn : rs.length = n) (hc : cntB (n : Int) = true) (he : evenB rs = true) (hp : plcB z = true) (hm0 : (rat rs 0).l.length = m) (hm : m ≤ 281474976710656)
    (hR : Rs w sb so rs) (hlow : ∀ i, i < rs.length → (rat rs i).b < w.heap.size) :
    Calls Tryz.prog 59 #[.slice (some ⟨sb, so, none⟩) n sc, .int .i64 z] w fun e w' =>
      e = .returned (.tuple #[.slice (some ⟨w.heap.size + 1, 0, none⟩) m m, .nilIface]) ∧ Blk w' (w.heap.size + 1) (symOf (front n) rs (byteOf z) m) ∧ Below w.heap.size w w' ∧ w'.heap.size = w.heap.size + 2 := by
  have hcr := cntB_range hc
  have hpr := plcB_range hp
  have HR : Hid (rs.length = n) := hrn
  clear hrn
  have HM : Hid (∀ i, i < rs.length → (rat rs i).l.length = m) := fun i hi => (evenB_len he i hi).trans hm0
  clear hm0
  have HLOW : Hid (∀ i, i < rs.length → (rat rs i).b < w.heap.size) := hlow
  clear hlow
  have hsl := hR.lt (by have := HR.out; omega)
  obtain ⟨hz0, hz1⟩ := hpr
  obtain ⟨hn1, hn8⟩ := hcr
  go_enter Tryz.func59, Tryz.ntmps59
  go_wp2_with fail
  refine (isCount_any _ _).mono ?_
  rintro e w' ⟨rfl, rfl⟩
  go_wp2_with fail
  have h19 := ofOneLength_any sb so sc rs w' (by have := HR.out; omega) hR
  rw [HR.out] at h19
  refine h19.mono ?_
  clear h19
  rintro e w' ⟨rfl, rfl⟩
  go_wp2_with fail
  refine (isPlace_any _ _).mono ?_
  rintro e w' ⟨rfl, rfl⟩
  go_wp2_with fail
  refine (sourcePlaces_any n _ (by omega)).mono ?_
  rintro e w2 ⟨rfl, hG2, hb2, hz2⟩
  have HZ2 : Hid (w2.heap.size = w'.heap.size + 1) := hz2
  clear hz2
  have hR2 := hR.below hb2 hsl HLOW.out
  go_wp2_with fail
  refine (blockSymbol_z w'.heap.size 0 n sb so sc m n (front n) rs z (byteOf z) _ (byteOf_toNat ⟨hz0, hz1⟩) (front_length n) HR.out (by omega) (by omega) hm hG2.bs hR2 HM.out (fun i hi => by rw [HZ2.out]; exact Nat.lt_succ_of_lt (HLOW.out i hi))).mono ?_
  rintro e w3 ⟨rfl, hG3, hb3, hz3⟩
  have HZ3 : Hid (w3.heap.size = w2.heap.size + 1) := hz3
  clear hz3
  go_wp2_with fail
  go_ret2
  refine ⟨?_, ?_, ?_, ?_⟩
  · show Ending.returned (.tuple #[.slice (some ⟨w2.heap.size, 0, none⟩) m m, .nilIface]) = _
    rw [HZ2.out]
  · rw [HZ2.out] at hG3; exact hG3
  · exact hb2.trans (hb3.mono (by rw [HZ2.out]; exact Nat.le_succ _))
  · rw [HZ3.out, HZ2.out]

set_option maxRecDepth 100000 in
set_option maxHeartbeats 1000000 in
/-- Symbol, where something may not be. -/
theorem symbol_no (sb so sc n : Nat) (rs : List Row) (z : Int) (u : TypeId) (x : Value) (w : World) (hrn : rs.length = n) (hn : n ≤ 140737488355328) (hR : Rs w sb so rs) (hg : w.cell? ⟨5, 0, none⟩ = some (.iface u x))
    (hbad : cntB (n : Int) = false ∨ evenB rs = false ∨ plcB z = false) :
    Calls Tryz.prog 59 #[.slice (some ⟨sb, so, none⟩) n sc, .int .i64 z] w fun e w' =>
      e = .returned (.tuple #[.slice none 0 0, .iface u x]) ∧ ∃ nq, w' = w.drewN nq := by
  have h19 := ofOneLength_any sb so sc rs w (by omega) hR
  rw [hrn] at h19
  have H19 : Hid (Calls Tryz.prog 99 #[.slice (some ⟨sb, so, none⟩) n sc] w fun e w' => e = .returned (.bool (evenB rs)) ∧ w' = w) := h19
  clear h19
  cases hc : cntB (n : Int)
  · clear hbad
    go_enter Tryz.func59, Tryz.ntmps59
    go_wp2_with (go_at_call 98; refine (isCount_any _ _).mono ?_; rintro e w' ⟨rfl, rfl⟩)
    go_quiet (fail)
    go_wp2
    go_ret2
    exact ⟨rfl, _, rfl⟩
  · cases he : evenB rs
    · clear hbad
      go_enter Tryz.func59, Tryz.ntmps59
      go_wp2_with (first | (go_at_call 98; refine (isCount_any _ _).mono ?_; rintro e w' ⟨rfl, rfl⟩) | (go_at_call 99; refine H19.out.mono ?_; rintro e w' ⟨rfl, rfl⟩))
      go_quiet (fail)
      go_wp2
      go_ret2
      exact ⟨rfl, _, rfl⟩
    · have hp : plcB z = false := by
        rcases hbad with h | h | h
        · rw [hc] at h; cases h
        · rw [he] at h; cases h
        · exact h
      clear hbad
      go_enter Tryz.func59, Tryz.ntmps59
      go_wp2_with (first | (go_at_call 98; refine (isCount_any _ _).mono ?_; rintro e w' ⟨rfl, rfl⟩) | (go_at_call 99; refine H19.out.mono ?_; rintro e w' ⟨rfl, rfl⟩) | (go_at_call 100; refine (isPlace_any _ _).mono ?_; rintro e w' ⟨rfl, rfl⟩))
      go_quiet (fail)
      go_wp2
      go_ret2
      exact ⟨rfl, _, rfl⟩

end Go.Proofs.YtjabhnhejbhgjaaGreatDoor
