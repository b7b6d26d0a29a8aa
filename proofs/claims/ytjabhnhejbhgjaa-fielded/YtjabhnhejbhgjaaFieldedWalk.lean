/- Fielded: the walk. -/
import Derived.Test.YtjabhnhejbhgjaaMulWalks
import Derived.Test.YtjabhnhejbhgjaaGfCount
namespace Go.Proofs.Ytjabhnhejbhgjaa
open Go.RowKit

theorem mul_to (a b m : Gf.F) (h : Gf.mul a b = m) (w : World) :
    Calls Try.prog 4 #[.int .u8 (a.toNat : Int), .int .u8 (b.toNat : Int)] w fun e w' => e = .returned (.int .u8 (m.toNat : Int)) ∧ w' = w := by
  rw [← h]; exact mul_any a b w

theorem mul_to1 (a : Gf.F) (w : World) :
    Calls Try.prog 4 #[.int .u8 (a.toNat : Int), .int .u8 1] w fun e w' => e = .returned (.int .u8 (a.toNat : Int)) ∧ w' = w :=
  mul_to a 1 a (Gf.mul_one a) w

theorem mul_to0 (a : Gf.F) (w : World) :
    Calls Try.prog 4 #[.int .u8 (a.toNat : Int), .int .u8 0] w fun e w' => e = .returned (.int .u8 0) ∧ w' = w :=
  mul_to a 0 0 (Gf.mul_zero a) w

theorem mul_ex (w : World) :
    Calls Try.prog 4 #[.int .u8 2, .int .u8 128] w fun e w' => e = .returned (.int .u8 29) ∧ w' = w :=
  mul_to 2 128 29 (by decide +kernel) w

theorem mul_byte (a : Gf.F) (k : Nat) (hk : k < 256) (w : World) :
    Calls Try.prog 4 #[.int .u8 (a.toNat : Int), .int .u8 (k : Int)] w fun e w' => e = .returned (.int .u8 ((Gf.mul a (BitVec.ofNat 8 k)).toNat : Int)) ∧ w' = w := by
  have h := mul_any a (BitVec.ofNat 8 k) w
  rw [BitVec.toNat_ofNat, Nat.mod_eq_of_lt (by omega)] at h
  exact h

set_option maxRecDepth 100000 in
set_option maxHeartbeats 1000000 in
theorem fielded_any (a b c : Gf.F) (w : World) :
    Calls Try.prog 3 #[.int .u8 (a.toNat : Int), .int .u8 (b.toNat : Int), .int .u8 (c.toNat : Int)] w fun e w' => e = .returned (.bool true) ∧ w' = w := by
  have hx1 := Gf.addF b c
  have hx2 := Gf.addF (Gf.mul a b) (Gf.mul a c)
  go_enter Try.func3, Try.ntmps3
  go_wp2_with fail
  refine (mul_any a b _).mono ?_
  rintro e w' ⟨rfl, rfl⟩
  go_wp2_with fail
  refine (mul_to b a (Gf.mul a b) (Gf.mul_comm b a) _).mono ?_
  rintro e w' ⟨rfl, rfl⟩
  go_wp2_with fail
  refine (mul_to (Gf.mul a b) c (Gf.mul a (Gf.mul b c)) (Gf.mul_assoc a b c) _).mono ?_
  rintro e w' ⟨rfl, rfl⟩
  go_wp2_with fail
  refine (mul_any b c _).mono ?_
  rintro e w' ⟨rfl, rfl⟩
  go_wp2_with fail
  refine (mul_any a (Gf.mul b c) _).mono ?_
  rintro e w' ⟨rfl, rfl⟩
  go_wp2_with fail
  refine (mul_to a (Gf.add b c) (Gf.add (Gf.mul a b) (Gf.mul a c)) (Gf.mul_xor a b c) _).mono ?_
  rintro e w' ⟨rfl, rfl⟩
  go_wp2_with fail
  refine (mul_any a c _).mono ?_
  rintro e w' ⟨rfl, rfl⟩
  go_wp2_with fail
  refine (mul_to1 a _).mono ?_
  rintro e w' ⟨rfl, rfl⟩
  go_wp2_with fail
  refine (mul_to0 a _).mono ?_
  rintro e w' ⟨rfl, rfl⟩
  go_wp2_with fail
  refine (mul_ex _).mono ?_
  rintro e w' ⟨rfl, rfl⟩
  go_wp2_with fail
  go_loop [16, 17] (fun n i => ∃ k : Nat, k ≤ 256 ∧ i = .int .i64 k ∧ n = .int .i64 (Gf.cnt a k)) (fun _ i => 256 - (intOf i).toNat)
  case atStart => exact ⟨0, by omega, rfl, rfl⟩
  case round =>
    obtain ⟨k, hk, rfl, rfl⟩ := hrel
    have hc := Gf.cnt_le a k
    by_cases hlt : k < 256
    · go_wp2_with (go_at_call 4; go_must (refine (mul_byte a k hlt _).mono ?_); rintro e w' ⟨rfl, rfl⟩)
      · have HY := Gf.cnt_yes a k (by assumption)
        exact ⟨⟨k + 1, by omega, by go_num, by rw [HY]⟩, by simp [intOf]; omega⟩
      · have HY := Gf.cnt_no a k (by assumption)
        exact ⟨⟨k + 1, by omega, by go_num, by rw [HY]⟩, by simp [intOf]; omega⟩
    · obtain rfl : k = 256 := by omega
      clear hc
      by_cases ha : a = 0
      · subst ha
        rw [Gf.cnt_zero]
        go_wp2
        go_ret
        exact ⟨rfl, rfl⟩
      · have hb : ((a.toNat : Int) != 0) = true := by rw [Gf.bne0]; simpa using ha
        rw [Gf.cnt_one a ha]
        clear ha
        go_wp2
        go_ret
        exact ⟨rfl, rfl⟩

end Go.Proofs.Ytjabhnhejbhgjaa
