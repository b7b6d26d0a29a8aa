/- What the walk writes of bytes, as numbers of the field. -/
import Derived.Test.YtjabhnhejbhgjaaGreatDoorGf
import Derived.WalkKit
import Derived.Laws.BitsAllLaws
namespace Go.Proofs.YtjabhnhejbhgjaaGreatDoor.Gf

theorem and128 : ∀ x : F, (bits BinOp.and IntKind.u8 (x.toNat : Int) 128 != 0) = x.msb := by decide +kernel
theorem and1 : ∀ x : F, (bits BinOp.and IntKind.u8 (x.toNat : Int) 1 != 0) = x.getLsbD 0 := by decide +kernel
theorem shl1 : ∀ x : F, (x.toNat : Int) * (2 : Int) % (256 : Int) = ((x <<< 1).toNat : Int) := by decide +kernel
theorem shr1 : ∀ x : F, (x.toNat : Int) / (2 : Int) = ((x >>> 1).toNat : Int) := by decide +kernel
theorem xor29 : ∀ x : F, bits BinOp.xor IntKind.u8 ((x.toNat : Int) * 2 % 256) 29 = ((x <<< 1 ^^^ 29#8).toNat : Int) := by decide +kernel

theorem xorF (x y : F) : bits BinOp.xor IntKind.u8 (x.toNat : Int) (y.toNat : Int) = ((x ^^^ y).toNat : Int) := by
  rw [u8_xor_nat _ _ x.isLt y.isLt, BitVec.toNat_xor]

theorem bne0 (x : F) : ((x.toNat : Int) != 0) = (x != 0) := by
  rw [Bool.eq_iff_iff, bne_iff_ne, bne_iff_ne]
  constructor
  · intro h e; apply h; rw [e]; rfl
  · intro h e; apply h; apply BitVec.eq_of_toNat_eq; simpa using e

theorem xt_hi (x : F) (h : (bits BinOp.and IntKind.u8 (x.toNat : Int) 128 != 0) = true) : bits BinOp.xor IntKind.u8 ((x.toNat : Int) * 2 % 256) 29 = ((xt x).toNat : Int) := by
  rw [and128] at h; rw [xor29]; simp [xt, h]

theorem xt_lo (x : F) (h : (bits BinOp.and IntKind.u8 (x.toNat : Int) 128 != 0) = false) : (x.toNat : Int) * 2 % 256 = ((xt x).toNat : Int) := by
  rw [and128] at h; rw [shl1]; simp [xt, h]

theorem mulN_step {k : Nat} {x y p M : F} (h : mulN k x y p = M) (hk : y.toNat < 2 ^ k) (hy : ((y.toNat : Int) != 0) = true) :
    ∃ k', mulN k' (xt x) (y >>> 1) (if y.getLsbD 0 then p ^^^ x else p) = M ∧ (y >>> 1).toNat < 2 ^ k' ∧ (y >>> 1).toNat < y.toNat := by
  rw [bne_iff_ne] at hy
  cases k with
  | zero => simp at hk; omega
  | succ k =>
    refine ⟨k, h, ?_, ?_⟩
    · rw [Nat.pow_succ] at hk; simp [Nat.shiftRight_eq_div_pow]; omega
    · simp [Nat.shiftRight_eq_div_pow]; omega

theorem mulN_set {k : Nat} {x y p M : F} (h : mulN k x y p = M) (hk : y.toNat < 2 ^ k) (hy : ((y.toNat : Int) != 0) = true) (hb : (bits BinOp.and IntKind.u8 (y.toNat : Int) 1 != 0) = true) :
    ∃ k', mulN k' (xt x) (y >>> 1) (p ^^^ x) = M ∧ (y >>> 1).toNat < 2 ^ k' ∧ (y >>> 1).toNat < y.toNat := by
  rw [and1] at hb; have := mulN_step h hk hy; rwa [hb] at this

theorem mulN_clear {k : Nat} {x y p M : F} (h : mulN k x y p = M) (hk : y.toNat < 2 ^ k) (hy : ((y.toNat : Int) != 0) = true) (hb : (bits BinOp.and IntKind.u8 (y.toNat : Int) 1 != 0) = false) :
    ∃ k', mulN k' (xt x) (y >>> 1) p = M ∧ (y >>> 1).toNat < 2 ^ k' ∧ (y >>> 1).toNat < y.toNat := by
  rw [and1] at hb; have := mulN_step h hk hy; rwa [hb] at this

theorem mulN_end {k : Nat} {x y p M : F} (h : mulN k x y p = M) (hy : ((y.toNat : Int) != 0) = false) : p = M := by
  rw [bne0] at hy
  have e : y = 0 := by simpa using hy
  rw [e, mulN_b0] at h
  exact h

theorem bounds_u8x {a : Int} (h : (Lit.int .u8 a).wf = true) : 0 ≤ a ∧ a < 256 := by
  have h1 : IntKind.u8.min = 0 := by decide
  have h2 : IntKind.u8.max = 255 := by decide
  simp [Lit.wf, h1, h2] at h
  omega

theorem ofByte (a : Int) (h : (Lit.int .u8 a).wf = true) : ∃ x : F, a = (x.toNat : Int) := by
  have hb : 0 ≤ a ∧ a < 256 := by
    exact bounds_u8x h
  refine ⟨BitVec.ofNat 8 a.toNat, ?_⟩
  rw [BitVec.toNat_ofNat, Nat.mod_eq_of_lt (by omega)]
  omega

end Go.Proofs.YtjabhnhejbhgjaaGreatDoor.Gf
