/- How many numbers have the product 1 with a. -/
import Derived.Test.YtjabhnhejbhgjaaGreatDoorGfBytes
namespace Go.Proofs.YtjabhnhejbhgjaaGreatDoor.Gf

/-- The sum, behind a name that no simp set opens. -/
def add (x y : F) : F := x ^^^ y

theorem addF (x y : F) : bits BinOp.xor IntKind.u8 (x.toNat : Int) (y.toNat : Int) = ((add x y).toNat : Int) := xorF x y

def hit (a : F) (j : Nat) : Bool := mul a (BitVec.ofNat 8 j) == 1

def cnt (a : F) : Nat → Nat
  | 0 => 0
  | k + 1 => cnt a k + (if hit a k then 1 else 0)

theorem toNat_one (x : F) : (((x.toNat : Int)) == 1) = (x == 1) := by
  rw [Bool.eq_iff_iff, beq_iff_eq, beq_iff_eq]
  constructor
  · intro h; apply BitVec.eq_of_toNat_eq; exact (by omega : x.toNat = 1)
  · intro h; rw [h]; rfl

theorem cnt_yes (a : F) (k : Nat) (h : (((mul a (BitVec.ofNat 8 k)).toNat : Int) == 1) = true) : ((cnt a k : Nat) : Int) + 1 = (cnt a (k + 1) : Nat) := by
  rw [toNat_one] at h; have e : hit a k = true := h
  simp [cnt, e]

theorem cnt_no (a : F) (k : Nat) (h : (((mul a (BitVec.ofNat 8 k)).toNat : Int) == 1) = false) : ((cnt a k : Nat) : Int) = (cnt a (k + 1) : Nat) := by
  rw [toNat_one] at h; have e : hit a k = false := h
  simp [cnt, e]

theorem cnt_le (a : F) (k : Nat) : cnt a k ≤ k := by
  induction k with
  | zero => exact Nat.le_refl _
  | succ k ih => simp only [cnt]; split <;> omega

def cntAt (c : Nat) : Nat → Nat
  | 0 => 0
  | k + 1 => cntAt c k + (if k = c then 1 else 0)

theorem cntAt_eq (c k : Nat) : cntAt c k = if c < k then 1 else 0 := by
  induction k with
  | zero => rfl
  | succ k ih => simp only [cntAt, ih]; split <;> split <;> (try split) <;> omega

theorem hit_iff (a : F) (ha : a ≠ 0) (j : Nat) (hj : j < 256) : hit a j = true ↔ j = (inv a).toNat := by
  unfold hit
  rw [beq_iff_eq]
  constructor
  · intro h
    have := mul_left_cancel a _ (inv a) ha (by rw [h, mul_inv a ha])
    rw [← this, BitVec.toNat_ofNat, Nat.mod_eq_of_lt (by omega)]
  · intro h
    rw [h, BitVec.ofNat_toNat, BitVec.setWidth_eq, mul_inv a ha]

theorem cnt_ne (a : F) (ha : a ≠ 0) (k : Nat) (hk : k ≤ 256) : cnt a k = cntAt (inv a).toNat k := by
  induction k with
  | zero => rfl
  | succ k ih =>
    simp only [cnt, cntAt]
    rw [ih (by omega)]
    have := hit_iff a ha k (by omega)
    by_cases h : hit a k = true
    · rw [if_pos h, if_pos (this.1 h)]
    · rw [if_neg h, if_neg (fun e => h (this.2 e))]

theorem cnt_one (a : F) (ha : a ≠ 0) : cnt a 256 = 1 := by
  rw [cnt_ne a ha 256 (by omega), cntAt_eq, if_pos (inv a).isLt]

theorem cnt_zero : cnt 0 256 = 0 := by
  have : ∀ k, cnt 0 k = 0 := by
    intro k
    induction k with
    | zero => rfl
    | succ k ih =>
      simp only [cnt]
      rw [ih, if_neg]
      unfold hit
      rw [zero_mul]
      decide
  exact this 256

end Go.Proofs.YtjabhnhejbhgjaaGreatDoor.Gf
