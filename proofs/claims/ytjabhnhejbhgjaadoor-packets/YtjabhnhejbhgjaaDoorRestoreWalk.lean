/- murmur.Restore. -/
import Derived.Test.YtjabhnhejbhgjaaDoorSourceWalk
namespace Go.Proofs.YtjabhnhejbhgjaaDoor
open Go.RowKit

/-- What Restore leaves: the list's block S, the symbols' blocks from base on. -/
structure Restored (w w' : World) (S base m n : Nat) (X : List Gf.F) (rs : List Row) : Prop where
  list : w'.heap[S]? = some (.cells (srcCells base m n n) 33 (0, 0))
  syms : ∀ i, i < n → Blk w' (base + i) (symOf X rs (BitVec.ofNat 8 i) m)
  old : w.heap.size ≤ S
  apart : S < base
  size : w'.heap.size = base + n
  below : Below w.heap.size w w'

set_option maxRecDepth 100000 in
set_option maxHeartbeats 2000000 in
theorem restore_ok (zb zo zc sb so sc m n : Nat) (l : List Int) (rs : List Row) (w : World) (hln : l.length = n) (hrn : rs.length = n) (hnz : n ≤ zc) (hc : cntB (n : Int) = true) (hp : placesB l n = true) (he : evenB rs = true) (hm0 : (rat rs 0).l.length = m) (hm : m ≤ 281474976710656)
    (hZ : Zs w zb zo l) (hR : Rs w sb so rs) (hlow : ∀ i, i < rs.length → (rat rs i).b < w.heap.size) :
    Calls Tryd.prog 16 #[.int .i64 (n : Int), .slice (some ⟨zb, zo, none⟩) n zc, .slice (some ⟨sb, so, none⟩) n sc] w fun e w' =>
      ∃ S base, e = .returned (.tuple #[.slice (some ⟨S, 0, none⟩) n n, .nilIface]) ∧ Restored w w' S base m n (bytesOf l) rs := by
  obtain ⟨hn1, hn8⟩ := cntB_range hc
  have HR : Hid (rs.length = n) := hrn
  have HLN : Hid (l.length = n) := hln
  clear hrn hln
  have HM : Hid (∀ i, i < rs.length → (rat rs i).l.length = m) := fun i hi => (evenB_len he i hi).trans hm0
  clear hm0
  have HLOW : Hid (∀ i, i < rs.length → (rat rs i).b < w.heap.size) := hlow
  clear hlow
  have hsl := hR.lt (by have := HR.out; omega)
  have hzl := hZ.lt (by have := HLN.out; omega)
  have hnn : ((n : Int) != (n : Int)) = false := by simp
  have h19 := ofOneLength_any sb so sc rs w (by have := HR.out; omega) hR
  rw [HR.out] at h19
  have H19 : Hid (Calls Tryd.prog 22 #[.slice (some ⟨sb, so, none⟩) n sc] w fun e w' => e = .returned (.bool (evenB rs)) ∧ w' = w) := h19
  clear h19
  go_enter Tryd.func16, Tryd.ntmps16
  go_wp2_with fail
  refine (isCount_any _ _).mono ?_
  rintro e w1 ⟨rfl, rfl⟩
  go_wp2_with fail
  refine (arePlaces_any zb zo zc n l _ HLN.out.symm (by omega) hnz hZ).mono ?_
  rintro e w1 ⟨rfl, rfl⟩
  go_wp2_with fail
  refine H19.out.mono ?_
  rintro e w1 ⟨rfl, rfl⟩
  go_wp2_with fail
  refine (toBytes_any zb zo zc n l _ HLN.out (by omega) hZ hzl (fun i hi => placesB_range hp i hi)).mono ?_
  rintro e w2 ⟨rfl, hG2, hb2, hz2⟩
  have HZ2 : Hid (w2.heap.size = w1.heap.size + 1) := hz2
  clear hz2 H19
  have hR2 := hR.below hb2 hsl HLOW.out
  go_wp2_with fail
  refine (source_any w1.heap.size 0 n sb so sc m n (bytesOf l) rs w2 ((bytesOf_length l).trans HLN.out) HR.out (by omega) (by omega) hm hG2.bs hR2 HM.out (fun i hi => by rw [HZ2.out]; exact Nat.lt_succ_of_lt (HLOW.out i hi))).mono ?_
  rintro e w3 ⟨rfl, hL3, hS3, hz3, hb3⟩
  have HZ3 : Hid (w3.heap.size = w2.heap.size + 1 + n) := hz3
  clear hz3
  go_wp2_with fail
  go_ret2
  have h2 := HZ2.out
  exact ⟨w2.heap.size, w2.heap.size + 1, rfl, hL3, hS3, by omega, by omega, HZ3.out, hb2.trans (hb3.mono (by omega))⟩

set_option maxRecDepth 100000 in
set_option maxHeartbeats 1000000 in
/-- Restore, where something may not be. -/
theorem restore_no (zb zo zc sb so sc zn sn : Nat) (k : Int) (l : List Int) (rs : List Row) (u : TypeId) (x : Value) (w : World) (hln : l.length = zn) (hrn : rs.length = sn) (hzn : zn ≤ 140737488355328) (hsn : sn ≤ 140737488355328) (hnz : zn ≤ zc)
    (hZ : Zs w zb zo l) (hR : Rs w sb so rs) (hg : w.cell? ⟨1, 0, none⟩ = some (.iface u x))
    (hbad : cntB k = false ∨ (zn : Int) ≠ k ∨ (sn : Int) ≠ k ∨ placesB l zn = false ∨ evenB rs = false) :
    Calls Tryd.prog 16 #[.int .i64 k, .slice (some ⟨zb, zo, none⟩) zn zc, .slice (some ⟨sb, so, none⟩) sn sc] w fun e w' =>
      e = .returned (.tuple #[.slice none 0 0, .iface u x]) ∧ ∃ nq, w' = w.drewN nq := by
  have h19 := ofOneLength_any sb so sc rs w (by omega) hR
  rw [hrn] at h19
  have H19 : Hid (Calls Tryd.prog 22 #[.slice (some ⟨sb, so, none⟩) sn sc] w fun e w' => e = .returned (.bool (evenB rs)) ∧ w' = w) := h19
  clear h19
  have HLN : Hid (l.length = zn) := hln
  clear hln hrn
  have H34 : Hid (Calls Tryd.prog 37 #[.slice (some ⟨zb, zo, none⟩) zn zc] w fun e w' => e = .returned (.bool (placesB l zn)) ∧ w' = w) := arePlaces_any zb zo zc zn l w HLN.out.symm hzn hnz hZ
  cases hc : cntB k
  · clear hbad
    go_enter Tryd.func16, Tryd.ntmps16
    go_wp2_with (go_at_call 21; refine (isCount_any _ _).mono ?_; rintro e w' ⟨rfl, rfl⟩)
    go_quiet (fail)
    go_wp2
    go_ret2
    exact ⟨rfl, _, rfl⟩
  · cases h1 : ((zn : Int) != k)
    · cases h2 : ((sn : Int) != k)
      · cases h3 : placesB l zn
        · clear hbad
          go_enter Tryd.func16, Tryd.ntmps16
          go_wp2_with (first | (go_at_call 21; refine (isCount_any _ _).mono ?_; rintro e w' ⟨rfl, rfl⟩) | (go_at_call 37; refine H34.out.mono ?_; rintro e w' ⟨rfl, rfl⟩))
          go_quiet (fail)
          go_wp2
          go_ret2
          exact ⟨rfl, _, rfl⟩
        · have h4 : evenB rs = false := by
            rcases hbad with h | h | h | h | h
            · rw [hc] at h; cases h
            · exact absurd (bne_iff_ne.2 h) (by rw [h1]; decide)
            · exact absurd (bne_iff_ne.2 h) (by rw [h2]; decide)
            · rw [h3] at h; cases h
            · exact h
          clear hbad
          go_enter Tryd.func16, Tryd.ntmps16
          go_wp2_with (first | (go_at_call 21; refine (isCount_any _ _).mono ?_; rintro e w' ⟨rfl, rfl⟩) | (go_at_call 37; refine H34.out.mono ?_; rintro e w' ⟨rfl, rfl⟩) | (go_at_call 22; refine H19.out.mono ?_; rintro e w' ⟨rfl, rfl⟩))
          go_quiet (fail)
          go_wp2
          go_ret2
          exact ⟨rfl, _, rfl⟩
      · clear hbad
        go_enter Tryd.func16, Tryd.ntmps16
        go_wp2_with (go_at_call 21; refine (isCount_any _ _).mono ?_; rintro e w' ⟨rfl, rfl⟩)
        go_quiet (fail)
        go_wp2
        go_ret2
        exact ⟨rfl, _, rfl⟩
    · clear hbad
      go_enter Tryd.func16, Tryd.ntmps16
      go_wp2_with (go_at_call 21; refine (isCount_any _ _).mono ?_; rintro e w' ⟨rfl, rfl⟩)
      go_quiet (fail)
      go_wp2
      go_ret2
      exact ⟨rfl, _, rfl⟩

end Go.Proofs.YtjabhnhejbhgjaaDoor
