/-
  Plain mathematics: the numbers of a byte as a field: sum is xor, product by shifting. Nothing of the program is imported.
-/
import Derived.WalkKit
namespace Go.Proofs.YtjabhnhejbhgjaaGreatDoor.Gf

abbrev F := BitVec 8

/-- x times a. -/
def xt (a : F) : F := if a.msb then (a <<< 1) ^^^ 29#8 else a <<< 1

/-- The product's loop, n rounds. -/
def mulN : Nat → F → F → F → F
  | 0, _, _, p => p
  | n + 1, a, b, p => mulN n (xt a) (b >>> 1) (if b.getLsbD 0 then p ^^^ a else p)

def mul (a b : F) : F := mulN 8 a b 0

/-- xt, k times. -/
def xtN : Nat → F → F
  | 0, a => a
  | k + 1, a => xt (xtN k a)

def logT : List Nat := [
  0, 0, 1, 25, 2, 50, 26, 198, 3, 223, 51, 238, 27, 104, 199, 75,
  4, 100, 224, 14, 52, 141, 239, 129, 28, 193, 105, 248, 200, 8, 76, 113,
  5, 138, 101, 47, 225, 36, 15, 33, 53, 147, 142, 218, 240, 18, 130, 69,
  29, 181, 194, 125, 106, 39, 249, 185, 201, 154, 9, 120, 77, 228, 114, 166,
  6, 191, 139, 98, 102, 221, 48, 253, 226, 152, 37, 179, 16, 145, 34, 136,
  54, 208, 148, 206, 143, 150, 219, 189, 241, 210, 19, 92, 131, 56, 70, 64,
  30, 66, 182, 163, 195, 72, 126, 110, 107, 58, 40, 84, 250, 133, 186, 61,
  202, 94, 155, 159, 10, 21, 121, 43, 78, 212, 229, 172, 115, 243, 167, 87,
  7, 112, 192, 247, 140, 128, 99, 13, 103, 74, 222, 237, 49, 197, 254, 24,
  227, 165, 153, 119, 38, 184, 180, 124, 17, 68, 146, 217, 35, 32, 137, 46,
  55, 63, 209, 91, 149, 188, 207, 205, 144, 135, 151, 178, 220, 252, 190, 97,
  242, 86, 211, 171, 20, 42, 93, 158, 132, 60, 57, 83, 71, 109, 65, 162,
  31, 45, 67, 216, 183, 123, 164, 118, 196, 23, 73, 236, 127, 12, 111, 246,
  108, 161, 59, 82, 41, 157, 85, 170, 251, 96, 134, 177, 187, 204, 62, 90,
  203, 89, 95, 176, 156, 169, 160, 81, 11, 245, 22, 235, 122, 117, 44, 215,
  79, 174, 213, 233, 230, 231, 173, 232, 116, 214, 244, 234, 168, 80, 88, 175]

theorem xt_zero : xt 0 = 0 := by decide +kernel

theorem xt_xor (x y : F) : xt (x ^^^ y) = xt x ^^^ xt y := by
  unfold xt
  rw [BitVec.msb_xor, BitVec.shiftLeft_xor_distrib]
  cases x.msb <;> cases y.msb <;> simp
  · rw [BitVec.xor_assoc]
  · rw [BitVec.xor_assoc, BitVec.xor_assoc, BitVec.xor_comm (y <<< 1)]
  · rw [BitVec.xor_assoc, BitVec.xor_comm (29#8) (y <<< 1 ^^^ 29#8), BitVec.xor_assoc, BitVec.xor_self, BitVec.xor_zero]

theorem xor_self_zero (x : F) : x ^^^ x = 0 := BitVec.xor_self

theorem mulN_acc (n : Nat) : ∀ a b p : F, mulN n a b p = p ^^^ mulN n a b 0 := by
  induction n with
  | zero => intro a b p; simp [mulN]
  | succ n ih =>
    intro a b p
    simp only [mulN]
    rw [ih _ _ (if b.getLsbD 0 then p ^^^ a else p), ih _ _ (if b.getLsbD 0 then 0 ^^^ a else 0)]
    split
    · rw [BitVec.xor_assoc]; simp
    · simp

theorem mulN_b0 (n : Nat) : ∀ a p : F, mulN n a 0 p = p := by
  induction n with
  | zero => intro a p; rfl
  | succ n ih => intro a p; simp only [mulN]; rw [show (0 : F) >>> 1 = 0 by decide, ih]; simp

theorem mulN_xt (n : Nat) : ∀ a b : F, mulN n (xt a) b 0 = xt (mulN n a b 0) := by
  induction n with
  | zero => intro a b; exact xt_zero.symm
  | succ n ih =>
    intro a b
    simp only [mulN]
    rw [mulN_acc n _ _ (if b.getLsbD 0 then 0 ^^^ xt a else 0), mulN_acc n _ _ (if b.getLsbD 0 then 0 ^^^ a else 0), ih, xt_xor]
    split
    · simp
    · rw [xt_zero]

theorem mul_xt (a b : F) : mul (xt a) b = xt (mul a b) := mulN_xt 8 a b

theorem xtN_xor (k : Nat) (x y : F) : xtN k (x ^^^ y) = xtN k x ^^^ xtN k y := by
  induction k with
  | zero => rfl
  | succ k ih => simp only [xtN]; rw [ih, xt_xor]

theorem xtN_zero (k : Nat) : xtN k 0 = 0 := by
  induction k with
  | zero => rfl
  | succ k ih => simp only [xtN]; rw [ih, xt_zero]

theorem xtN_add (i j : Nat) (a : F) : xtN (i + j) a = xtN i (xtN j a) := by
  induction i with
  | zero => simp [xtN]
  | succ i ih => rw [show i + 1 + j = (i + j) + 1 by omega]; simp only [xtN]; rw [ih]

theorem mul_xtN (k : Nat) (a b : F) : mul (xtN k a) b = xtN k (mul a b) := by
  induction k with
  | zero => rfl
  | succ k ih => simp only [xtN]; rw [mul_xt, ih]

theorem one_mul (b : F) : mul 1 b = b := by revert b; decide +kernel
theorem zero_mul (b : F) : mul 0 b = 0 := by revert b; decide +kernel
theorem mul_zero (a : F) : mul a 0 = 0 := by revert a; decide +kernel

theorem log_all : ∀ a : F, a = 0 ∨ xtN (logT.getD a.toNat 0) 1 = a := by decide +kernel

theorem log_of (a : F) (h : a ≠ 0) : ∃ k, a = xtN k 1 := by
  rcases log_all a with h' | h'
  · exact absurd h' h
  · exact ⟨_, h'.symm⟩

theorem pow_mul (i : Nat) (b : F) : mul (xtN i 1) b = xtN i b := by rw [mul_xtN, one_mul]

theorem mul_comm (a b : F) : mul a b = mul b a := by
  by_cases ha : a = 0
  · rw [ha, zero_mul, mul_zero]
  by_cases hb : b = 0
  · rw [hb, zero_mul, mul_zero]
  obtain ⟨i, rfl⟩ := log_of a ha
  obtain ⟨j, rfl⟩ := log_of b hb
  rw [pow_mul, pow_mul, ← xtN_add, ← xtN_add, Nat.add_comm]

theorem mul_assoc (a b c : F) : mul (mul a b) c = mul a (mul b c) := by
  by_cases ha : a = 0
  · rw [ha, zero_mul, zero_mul, zero_mul]
  by_cases hb : b = 0
  · rw [hb, mul_zero, zero_mul, mul_zero]
  obtain ⟨i, rfl⟩ := log_of a ha
  obtain ⟨j, rfl⟩ := log_of b hb
  rw [pow_mul, ← xtN_add, pow_mul, pow_mul, pow_mul, ← xtN_add]

theorem mul_xor (a b c : F) : mul a (b ^^^ c) = mul a b ^^^ mul a c := by
  by_cases ha : a = 0
  · rw [ha, zero_mul, zero_mul, zero_mul]; rfl
  obtain ⟨i, rfl⟩ := log_of a ha
  rw [pow_mul, pow_mul, pow_mul, xtN_xor]

theorem xor_mul (a b c : F) : mul (a ^^^ b) c = mul a c ^^^ mul b c := by
  rw [mul_comm, mul_xor, mul_comm c a, mul_comm c b]

theorem mul_one (a : F) : mul a 1 = a := by rw [mul_comm, one_mul]

/-- The power 254, as the program makes it: seven squares, multiplied. -/
def invN : Nat → F → F → F
  | 0, i, _ => i
  | n + 1, i, p => invN n (mul i (mul p p)) (mul p p)

def inv (a : F) : F := invN 7 1 a

theorem mul_inv_all : ∀ a : F, a = 0 ∨ mul a (inv a) = 1 := by decide +kernel

theorem mul_inv (a : F) (h : a ≠ 0) : mul a (inv a) = 1 := by
  rcases mul_inv_all a with h' | h'
  · exact absurd h' h
  · exact h'

theorem mul_left_cancel (a b c : F) (h : a ≠ 0) (e : mul a b = mul a c) : b = c := by
  have h1 : mul (inv a) (mul a b) = mul (inv a) (mul a c) := by rw [e]
  rw [← mul_assoc, ← mul_assoc, mul_comm (inv a) a, mul_inv a h, one_mul, one_mul] at h1
  exact h1

theorem mul_eq_zero (a b : F) (h : mul a b = 0) : a = 0 ∨ b = 0 := by
  by_cases ha : a = 0
  · exact Or.inl ha
  · exact Or.inr (mul_left_cancel a b 0 ha (by rw [h, mul_zero]))

theorem one_ne_zero : (1 : F) ≠ 0 := by decide

end Go.Proofs.YtjabhnhejbhgjaaGreatDoor.Gf
