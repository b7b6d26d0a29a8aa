import Derived.Test.YtjabhnhejbhgjaaGreatDoorGf
import Derived.Test.YtjabhnhejbhgjaaGreatDoorPoly
import Derived.Test.YtjabhnhejbhgjaaGreatDoorMany2
import Derived.Test.YtjabhnhejbhgjaaGreatDoorMany1
import Derived.Deep.RegionHeld3
import Derived.Deep.DrawnRows
import Derived.Deep.DeepCutAuto
import Derived.StillTailTactics
/- The document's product: multiplied out, then made less. -/
namespace Go.Proofs.YtjabhnhejbhgjaaGreatDoor.Gf

/-- Multiplied out: the first k bits of b. -/
def clUp (a b : Nat) : Nat → Nat
  | 0 => 0
  | k + 1 => if b.testBit k then clUp a b k ^^^ (a <<< k) else clUp a b k

/-- Made less: k steps, from bit 14 down. -/
def redUp (p : Nat) : Nat → Nat
  | 0 => p
  | k + 1 => if (redUp p k).testBit (14 - k) then redUp p k ^^^ (285 <<< (14 - k - 8)) else redUp p k

def refMul (a b : F) : Nat := redUp (clUp a.toNat b.toNat 8) 7

theorem nxor4 (a b c d : Nat) : (a ^^^ b) ^^^ (c ^^^ d) = (a ^^^ c) ^^^ (b ^^^ d) := by
  rw [Nat.xor_assoc, Nat.xor_assoc]; congr 1
  rw [← Nat.xor_assoc, ← Nat.xor_assoc, Nat.xor_comm b c]

theorem clUp_xor (a b c k : Nat) : clUp a (b ^^^ c) k = clUp a b k ^^^ clUp a c k := by
  induction k with
  | zero => simp [clUp]
  | succ k ih =>
    simp only [clUp, Nat.testBit_xor, ih]
    cases b.testBit k <;> cases c.testBit k <;> simp
    · rw [Nat.xor_assoc]
    · rw [Nat.xor_assoc, Nat.xor_assoc, Nat.xor_comm (clUp a c k)]
    · rw [nxor4]; simp

theorem redUp_xor (p q k : Nat) : redUp (p ^^^ q) k = redUp p k ^^^ redUp q k := by
  induction k with
  | zero => rfl
  | succ k ih =>
    simp only [redUp, ih, Nat.testBit_xor]
    cases (redUp p k).testBit (14 - k) <;> cases (redUp q k).testBit (14 - k) <;> simp
    · rw [Nat.xor_assoc]
    · rw [Nat.xor_assoc, Nat.xor_assoc, Nat.xor_comm (redUp q k)]
    · rw [nxor4]; simp

theorem refMul_xor (a b c : F) : refMul a (b ^^^ c) = refMul a b ^^^ refMul a c := by
  unfold refMul; rw [BitVec.toNat_xor, clUp_xor, redUp_xor]

def bitIf (b : F) (k : Nat) : F := if b.getLsbD k then 1#8 <<< k else 0

theorem bits_eq : ∀ b : F, b = bitIf b 0 ^^^ (bitIf b 1 ^^^ (bitIf b 2 ^^^ (bitIf b 3 ^^^ (bitIf b 4 ^^^ (bitIf b 5 ^^^ (bitIf b 6 ^^^ bitIf b 7)))))) := by decide +kernel

theorem span (P : F → Prop) (h0 : P 0) (hx : ∀ x y, P x → P y → P (x ^^^ y)) (hb : ∀ k, k < 8 → P (1#8 <<< k)) (b : F) : P b := by
  have hi : ∀ k, k < 8 → P (bitIf b k) := by
    intro k hk
    unfold bitIf
    split
    · exact hb k hk
    · exact h0
  rw [bits_eq b]
  exact hx _ _ (hi 0 (by omega)) (hx _ _ (hi 1 (by omega)) (hx _ _ (hi 2 (by omega)) (hx _ _ (hi 3 (by omega)) (hx _ _ (hi 4 (by omega)) (hx _ _ (hi 5 (by omega)) (hx _ _ (hi 6 (by omega)) (hi 7 (by omega))))))))

theorem refMul_zero : ∀ a : F, refMul a 0 = (mul a 0).toNat := by decide +kernel
theorem refMul_base : ∀ k : Fin 8, ∀ a : F, refMul a (1#8 <<< k.val) = (mul a (1#8 <<< k.val)).toNat := by decide +kernel

theorem refMul_eq (a b : F) : refMul a b = (mul a b).toNat :=
  span (fun b => ∀ a, refMul a b = (mul a b).toNat) refMul_zero (fun x y hx hy a => by rw [refMul_xor, hx a, hy a, mul_xor, BitVec.toNat_xor]) (fun k hk a => refMul_base ⟨k, hk⟩ a) b a

theorem clUp_lt (a b k : Nat) (ha : a < 256) (hk : k ≤ 8) : clUp a b k < 32768 := by
  induction k with
  | zero => simp [clUp]
  | succ k ih =>
    have ih' := ih (by omega)
    simp only [clUp]
    split
    · refine Nat.xor_lt_two_pow (n := 15) ih' ?_
      rw [Nat.shiftLeft_eq]
      have : 2 ^ k ≤ 2 ^ 7 := Nat.pow_le_pow_right (by omega) (by omega)
      exact Nat.lt_of_le_of_lt (Nat.mul_le_mul (show a ≤ 255 by omega) this) (by decide)
    · exact ih'

theorem redUp_lt (p k : Nat) (hp : p < 32768) (hk : k ≤ 7) : redUp p k < 32768 := by
  induction k with
  | zero => exact hp
  | succ k ih =>
    have ih' := ih (by omega)
    simp only [redUp]
    split
    · refine Nat.xor_lt_two_pow (n := 15) ih' ?_
      rw [Nat.shiftLeft_eq]
      have : 2 ^ (14 - k - 8) ≤ 2 ^ 6 := Nat.pow_le_pow_right (by omega) (by omega)
      exact Nat.lt_of_le_of_lt (Nat.mul_le_mul (Nat.le_refl 285) this) (by decide)
    · exact ih'

/-- The number with which the product with a is 1, by search from k on. -/
def overB (a : F) (k : Nat) : Bool := mul a (BitVec.ofNat 8 k) == 1

theorem over_found (a : F) (k : Nat) (h : overB a k = true) : a ≠ 0 ∧ BitVec.ofNat 8 k = inv a := by
  have h1 : mul a (BitVec.ofNat 8 k) = 1 := by simpa [overB] using h
  have ha : a ≠ 0 := by
    intro e; rw [e, zero_mul] at h1; exact absurd h1 (by decide)
  exact ⟨ha, mul_left_cancel a _ _ ha (by rw [h1, mul_inv a ha])⟩

theorem over_all (a : F) (ha : a ≠ 0) : overB a (inv a).toNat = true := by
  unfold overB; rw [BitVec.ofNat_toNat, BitVec.setWidth_eq, mul_inv a ha]; rfl

theorem inv_pos (a : F) (ha : a ≠ 0) : 0 < (inv a).toNat := by
  rcases Nat.eq_zero_or_pos (inv a).toNat with h | h
  · exfalso
    have : inv a = 0 := BitVec.eq_of_toNat_eq h
    have h1 := mul_inv a ha
    rw [this, mul_zero] at h1
    exact absurd h1 (by decide)
  · exact h

/-- x to the power n. -/
def pow (x : F) : Nat → F
  | 0 => 1
  | n + 1 => mul (pow x n) x

end Go.Proofs.YtjabhnhejbhgjaaGreatDoor.Gf

/- Plain mathematics: equations solved one unknown after the other. -/
namespace Go.Proofs.YtjabhnhejbhgjaaGreatDoor.Gf

/-- A matrix: rows, columns 0 .. n (the last one: the right sides). -/
abbrev Mx := Nat → Nat → F

/-- The left side of a row at c. -/
def dot (r c : Nat → F) (n : Nat) : F := sum (fun j => mul (r j) (c j)) n

theorem sum_xor (g h : Nat → F) : ∀ n, sum (fun j => g j ^^^ h j) n = sum g n ^^^ sum h n := by
  intro n
  induction n with
  | zero => simp only [sum]; decide
  | succ n ih => simp only [sum]; rw [ih, xor4]

theorem sum_smul (a : F) (g : Nat → F) : ∀ n, sum (fun j => mul a (g j)) n = mul a (sum g n) := by
  intro n
  induction n with
  | zero => exact (mul_zero a).symm
  | succ n ih => simp only [sum]; rw [ih, mul_xor]

theorem dot_add (r s c : Nat → F) (n : Nat) : dot (fun j => r j ^^^ s j) c n = dot r c n ^^^ dot s c n := by
  unfold dot
  rw [← sum_xor]
  exact sum_congr n (fun j _ => xor_mul _ _ _)

theorem dot_smul (a : F) (r c : Nat → F) (n : Nat) : dot (fun j => mul a (r j)) c n = mul a (dot r c n) := by
  unfold dot
  rw [← sum_smul]
  exact sum_congr n (fun j _ => mul_assoc _ _ _)

theorem dot_congr {r s c d : Nat → F} {n : Nat} (h : ∀ j, j < n → r j = s j) (h2 : ∀ j, j < n → c j = d j) : dot r c n = dot s d n :=
  sum_congr n (fun j hj => by show mul (r j) (c j) = mul (s j) (d j); rw [h j hj, h2 j hj])

/-- c solves the equations; nothing but 0 solves those with right sides 0. -/
structure Solves (m : Mx) (n : Nat) (c : Nat → F) : Prop where
  sol : ∀ i, i < n → dot (m i) c n = m i n
  only : ∀ v : Nat → F, (∀ i, i < n → dot (m i) v n = 0) → ∀ j, j < n → v j = 0

/-- The first k columns are those of the unit matrix. -/
def Unit (m : Mx) (n k : Nat) : Prop := ∀ j, j < k → ∀ i, i < n → m i j = if i = j then 1 else 0

theorem Solves.swap {m : Mx} {n : Nat} {c : Nat → F} (h : Solves m n c) {p q : Nat} (hp : p < n) (hq : q < n) {m' : Mx}
    (e : ∀ i, i < n → ∀ j, j ≤ n → m' i j = m (if i = p then q else if i = q then p else i) j) : Solves m' n c := by
  have hlt : ∀ i, i < n → (if i = p then q else if i = q then p else i) < n := fun i hi => by split; exact hq; split; exact hp; exact hi
  refine ⟨fun i hi => ?_, fun v hv => ?_⟩
  · rw [dot_congr (s := m (if i = p then q else if i = q then p else i)) (d := c) (fun j hj => e i hi j (by omega)) (fun _ _ => rfl), h.sol _ (hlt i hi), e i hi n (Nat.le_refl _)]
  · refine h.only v (fun i hi => ?_)
    have := hv (if i = p then q else if i = q then p else i) (hlt i hi)
    rw [dot_congr (s := m i) (d := v) (fun j hj => ?_) (fun _ _ => rfl)] at this
    · exact this
    · rw [e _ (hlt i hi) j (by omega)]
      congr 1
      by_cases h1 : i = p
      · by_cases h2 : q = p
        · simp [h1, h2]
        · simp [h1, h2]
      · by_cases h2 : i = q
        · simp [h2]
        · simp [h1, h2]

/-- Each row becomes itself times a, plus b times another row of the elder matrix. -/
theorem Solves.scale {m : Mx} {n : Nat} {c : Nat → F} (h : Solves m n c) {k : Nat} (hk : k < n) {a : F} (ha : a ≠ 0) {m' : Mx}
    (e : ∀ i, i < n → ∀ j, j ≤ n → m' i j = if i = k then mul a (m k j) else m i j) : Solves m' n c := by
  refine ⟨fun i hi => ?_, fun v hv => ?_⟩
  · by_cases q : i = k
    · rw [dot_congr (s := fun j => mul a (m k j)) (d := c) (fun j hj => by rw [e i hi j (by omega), if_pos q]) (fun _ _ => rfl), dot_smul, h.sol k hk, e i hi n (Nat.le_refl _), if_pos q]
    · rw [dot_congr (s := m i) (d := c) (fun j hj => by rw [e i hi j (by omega), if_neg q]) (fun _ _ => rfl), h.sol i hi, e i hi n (Nat.le_refl _), if_neg q]
  · refine h.only v (fun i hi => ?_)
    have := hv i hi
    by_cases q : i = k
    · rw [dot_congr (s := fun j => mul a (m k j)) (d := v) (fun j hj => by rw [e i hi j (by omega), if_pos q]) (fun _ _ => rfl), dot_smul] at this
      rcases mul_eq_zero _ _ this with h1 | h1
      · exact absurd h1 ha
      · rw [q]; exact h1
    · rw [dot_congr (s := m i) (d := v) (fun j hj => by rw [e i hi j (by omega), if_neg q]) (fun _ _ => rfl)] at this
      exact this

theorem Solves.clear {m : Mx} {n : Nat} {c : Nat → F} (h : Solves m n c) {k : Nat} (hk : k < n) {m' : Mx}
    (e : ∀ i, i < n → ∀ j, j ≤ n → m' i j = if i = k then m k j else m i j ^^^ mul (m i k) (m k j)) : Solves m' n c := by
  refine ⟨fun i hi => ?_, fun v hv => ?_⟩
  · by_cases q : i = k
    · rw [dot_congr (s := m k) (d := c) (fun j hj => by rw [e i hi j (by omega), if_pos q]) (fun _ _ => rfl), h.sol k hk, e i hi n (Nat.le_refl _), if_pos q]
    · rw [dot_congr (s := fun j => m i j ^^^ mul (m i k) (m k j)) (d := c) (fun j hj => by rw [e i hi j (by omega), if_neg q]) (fun _ _ => rfl), dot_add, dot_smul, h.sol i hi, h.sol k hk, e i hi n (Nat.le_refl _), if_neg q]
  · have hkv : dot (m k) v n = 0 := by
      have := hv k hk
      rw [dot_congr (s := m k) (d := v) (fun j hj => by rw [e k hk j (by omega), if_pos rfl]) (fun _ _ => rfl)] at this
      exact this
    refine h.only v (fun i hi => ?_)
    by_cases q : i = k
    · rw [q]; exact hkv
    · have := hv i hi
      rw [dot_congr (s := fun j => m i j ^^^ mul (m i k) (m k j)) (d := v) (fun j hj => by rw [e i hi j (by omega), if_neg q]) (fun _ _ => rfl), dot_add, dot_smul, hkv, mul_zero] at this
      exact (BitVec.xor_zero).symm.trans this

/-- There is a row to go on with. -/
theorem Solves.pivot {m : Mx} {n : Nat} {c : Nat → F} (h : Solves m n c) {k : Nat} (hk : k < n) (hU : Unit m n k) : ∃ i, k ≤ i ∧ i < n ∧ m i k ≠ 0 := by
  apply Classical.byContradiction
  intro hno
  have hz : ∀ i, k ≤ i → i < n → m i k = 0 := fun i h1 h2 => Classical.byContradiction (fun h3 => hno ⟨i, h1, h2, h3⟩)
  have hv := h.only (fun j => if j < k then m j k else if j = k then 1 else 0) (fun i hi => ?_) k hk
  · simp at hv
  · have hsum : ∀ t, t ≤ k → sum (fun j => mul (m i j) (if j < k then m j k else if j = k then 1 else 0)) t = if i < t then m i k else 0 := by
      intro t
      induction t with
      | zero => intro _; rfl
      | succ t ih =>
        intro ht
        simp only [sum]
        rw [ih (by omega), if_pos (show t < k by omega), hU t (by omega) i hi]
        by_cases e : i = t
        · subst e; rw [if_pos rfl, if_neg (by omega), if_pos (by omega), one_mul]; exact BitVec.zero_xor
        · rw [if_neg e, zero_mul]
          by_cases e2 : i < t
          · rw [if_pos e2, if_pos (by omega)]; exact BitVec.xor_zero
          · rw [if_neg e2, if_neg (by omega)]; exact BitVec.xor_zero
    have hrest : ∀ t, k < t → sum (fun j => mul (m i j) (if j < k then m j k else if j = k then 1 else 0)) t = 0 := by
      intro t
      induction t with
      | zero => intro h; omega
      | succ t ih =>
        intro ht
        simp only [sum]
        by_cases e : t = k
        · subst e
          rw [hsum t (Nat.le_refl _), if_neg (Nat.lt_irrefl t), if_pos rfl, mul_one]
          by_cases e2 : i < t
          · rw [if_pos e2]; exact BitVec.xor_self
          · rw [if_neg e2, hz i (by omega) hi]; decide
        · rw [ih (by omega), if_neg (by omega), if_neg e, mul_zero]; decide
    exact hrest n hk

/-- At the end the right sides are the solution. -/
theorem Solves.done {m : Mx} {n : Nat} {c : Nat → F} (h : Solves m n c) (hU : Unit m n n) (i : Nat) (hi : i < n) : m i n = c i := by
  rw [← h.sol i hi]
  unfold dot
  rw [sum_one (m := i) n hi]
  · show mul (m i i) (c i) = c i
    rw [hU i hi i hi, if_pos rfl, one_mul]
  · intro j hj hne
    show mul (m i j) (c j) = 0
    rw [hU j hj i hi, if_neg (Ne.symm hne), zero_mul]

/-- The coefficients' sum of powers is the polynomial's value. -/
theorem sum_shift (g : Nat → F) : ∀ n, sum g (n + 1) = g 0 ^^^ sum (fun j => g (j + 1)) n := by
  intro n
  induction n with
  | zero => simp only [sum]; rw [BitVec.xor_comm]
  | succ n ih => rw [show sum g (n + 1 + 1) = sum g (n + 1) ^^^ g (n + 1) from rfl, ih]; simp only [sum]; rw [BitVec.xor_assoc]

theorem ev_sum (x : F) : ∀ c : List F, ev c x = sum (fun i => mul (pow x i) (c.getD i 0)) c.length := by
  intro c
  induction c with
  | nil => rfl
  | cons a c ih =>
    rw [List.length_cons, sum_shift]
    show a ^^^ mul x (ev c x) = _
    rw [ih, ← sum_smul]
    congr 1
    · show a = mul 1 a; rw [one_mul]
    · refine sum_congr _ (fun i _ => ?_)
      show mul x (mul (pow x i) (c.getD i 0)) = mul (mul (pow x i) x) (c.getD i 0)
      rw [← mul_assoc, mul_comm x]

theorem ev_zero_coeff : ∀ (c : List F), c.length ≤ 8 → (∀ p, ev c p = 0) → ∀ i, c.getD i 0 = 0 := by
  intro c
  induction c with
  | nil => intro _ _ i; rfl
  | cons a c ih =>
    intro hl h i
    have ha : a = 0 := by
      have := h 0
      simp only [ev] at this
      rw [zero_mul] at this
      exact (BitVec.xor_zero).symm.trans this
    have hc : ∀ p, p ≠ 0 → ev c p = 0 := by
      intro p hp
      have := h p
      simp only [ev] at this
      rw [ha] at this
      have h2 : mul p (ev c p) = 0 := (BitVec.zero_xor).symm.trans this
      rcases mul_eq_zero _ _ h2 with h3 | h3
      · exact absurd h3 hp
      · exact h3
    have hall : ∀ p, ev c p = 0 := by
      refine roots ((List.range c.length).map fun t => BitVec.ofNat 8 (t + 1)) c (by simp) ?_ ?_
      · rw [List.nodup_iff_pairwise_ne, List.pairwise_map]
        refine List.Pairwise.imp_of_mem ?_ List.nodup_range
        intro x y hx hy hne e
        have h1 := List.mem_range.1 hx
        have h2 := List.mem_range.1 hy
        have h3 := congrArg BitVec.toNat e
        simp only [List.length_cons] at hl
        rw [BitVec.toNat_ofNat, BitVec.toNat_ofNat, Nat.mod_eq_of_lt (by omega), Nat.mod_eq_of_lt (by omega)] at h3
        omega
      · intro x hx
        obtain ⟨t, ht, rfl⟩ := List.mem_map.1 hx
        have h1 := List.mem_range.1 ht
        apply hc
        intro e
        have h3 := congrArg BitVec.toNat e
        simp only [List.length_cons] at hl
        rw [BitVec.toNat_ofNat, Nat.mod_eq_of_lt (by omega)] at h3
        simp at h3
    cases i with
    | zero => exact ha
    | succ i => exact ih (by simp only [List.length_cons] at hl; omega) hall i

/-- The equations of the polynomial through the points. -/
theorem solves_start {X Y : Nat → F} {n : Nat} (hn : n ≤ 8) (hX : Apart X n) {m : Mx} (e : ∀ i, i < n → ∀ j, j ≤ n → m i j = if j < n then pow (X i) j else Y i) :
    ∃ c : List F, c.length = n ∧ (∀ p, ev c p = lag X Y n p) ∧ Solves m n (fun j => c.getD j 0) := by
  obtain ⟨c, hc, ec⟩ := lag_deg X Y n
  refine ⟨c, hc, fun p => (ec p).symm, ?_, ?_⟩
  · intro i hi
    rw [dot_congr (s := fun j => pow (X i) j) (d := fun j => c.getD j 0) (fun j hj => by rw [e i hi j (by omega), if_pos hj]) (fun _ _ => rfl), e i hi n (Nat.le_refl _), if_neg (by omega)]
    unfold dot
    rw [← hc, ← ev_sum, ← ec, lag_at hX (by omega)]
  · intro v hv j hj
    have hlen : ((List.range n).map v).length = n := by simp
    have hget : ∀ t, t < n → ((List.range n).map v).getD t 0 = v t := fun t ht => by simp [List.getD, ht]
    have hz : ∀ p, ev ((List.range n).map v) p = 0 := by
      refine roots ((List.range n).map X) _ (by simp) (nodup_of_apart hX) (fun x hx => ?_)
      obtain ⟨i, hi, rfl⟩ := List.mem_map.1 hx
      have hi' := List.mem_range.1 hi
      rw [ev_sum, hlen]
      have := hv i hi'
      rw [dot_congr (s := fun j => pow (X i) j) (d := v) (fun j hj => by rw [e i hi' j (by omega), if_pos hj]) (fun _ _ => rfl)] at this
      exact (sum_congr n (fun t ht => by rw [hget t ht])).trans this
    rw [← hget j hj]
    exact ev_zero_coeff _ (by rw [hlen]; exact hn) hz j

end Go.Proofs.YtjabhnhejbhgjaaGreatDoor.Gf

/- A matrix in memory: rows of bytes, each in a block of its own. -/
namespace Go.Proofs.YtjabhnhejbhgjaaGreatDoor
open Go.RowKit

def encL (l : List Gf.F) : List Value := l.map fun x => Value.int .u8 (x.toNat : Int)

theorem encL_at {l : List Gf.F} {j : Nat} (hj : j < l.length) : (encL l)[j]? = some (.int .u8 ((at_ l j).toNat : Int)) := by
  simp [encL, at_, List.getD, hj]

/-- k rows of m bytes; v is their list. -/
structure Mat (w : World) (B m : Nat) (v : Value) (k : Nat) (rs : List Row) : Prop where
  len : rs.length = k
  own : w.ownsRow B 33 1 v k (rs.map Row.val)
  each : ∀ i, i < k → w.ownsRow B 5 1 (.slice (some ⟨(rat rs i).b, 0, none⟩) m (rat rs i).c) m (encL (rat rs i).l) ∧ (rat rs i).l.length = m ∧ (rat rs i).o = 0 ∧ v.ownBlock ≠ some (rat rs i).b
  apart : ∀ i j, i < k → j < k → (rat rs i).b = (rat rs j).b → i = j

theorem Mat.nil (w : World) (B m : Nat) : Mat w B m (.slice none 0 0) 0 [] := ⟨rfl, World.ownsRow_nil .., fun i hi => by omega, fun i j hi => by omega⟩

theorem Mat.lt {w : World} {B m k : Nat} {v : Value} {rs : List Row} (h : Mat w B m v k rs) (i : Nat) (hi : i < k) : B ≤ (rat rs i).b ∧ (rat rs i).b < w.heap.size := own_lt (h.each i hi).1 rfl

theorem Mat.kept {w w' : World} {B m k : Nat} {v : Value} {rs : List Row} (h : Mat w B m v k rs) (hk : ∀ j, j < w.heap.size → B ≤ j → (v.ownBlock = some j ∨ ∃ i, i < k ∧ (rat rs i).b = j) → w'.heap[j]? = w.heap[j]?) : Mat w' B m v k rs :=
  ⟨h.len, own_of_block h.own (fun g hg => hk g (own_lt h.own hg).2 (own_lt h.own hg).1 (.inl hg)),
   fun i hi => by
    obtain ⟨h1, h2⟩ := h.each i hi
    refine ⟨own_of_block h1 (fun g hg => ?_), h2⟩
    have e : (rat rs i).b = g := by simpa [Value.ownBlock] using hg
    exact hk g (own_lt h1 hg).2 (own_lt h1 hg).1 (.inr ⟨i, hi, e⟩), h.apart⟩

/-- A row that grows, beside the matrix. -/
structure Gro (w : World) (B m : Nat) (v : Value) (k : Nat) (rs : List Row) (vr : Value) (q : Nat) (ys : List Gf.F) : Prop where
  mat : Mat w B m v k rs
  own : w.ownsRow B 5 1 vr q (encL ys)
  len : ys.length = q
  far : ∀ g, vr.ownBlock = some g → v.ownBlock ≠ some g ∧ ∀ j, j < k → (rat rs j).b ≠ g

theorem Gro.nil {w : World} {B m k : Nat} {v : Value} {rs : List Row} (h : Mat w B m v k rs) : Gro w B m v k rs (.slice none 0 0) 0 [] := ⟨h, World.ownsRow_nil .., rfl, fun g hg => by cases hg⟩

theorem Gro.step {w w' : World} {B m k q g c : Nat} {v vr : Value} {rs : List Row} {ys : List Gf.F} {o : Obj} {x : Gf.F} (h : Gro w B m v k rs vr q ys)
    (hown : w'.ownsRow B 5 1 (.slice (some ⟨g, 0, none⟩) (q + 1) c) (q + 1) (encL ys ++ [.int .u8 (x.toNat : Int)])) (hgr : (w.alloc o).grownBy w' vr.ownBlock) (hg : vr.ownBlock = some g ∨ g = w.heap.size + 1) :
    Gro w' B m v k rs (.slice (some ⟨g, 0, none⟩) (q + 1) c) (q + 1) (ys ++ [x]) := by
  have keep : ∀ j, j < w.heap.size → vr.ownBlock ≠ some j → w'.heap[j]? = w.heap[j]? := fun j hj hne => by
    rw [grown_block hgr (by simp; omega) hne, Below.heap_alloc _ _ _ hj]
  refine ⟨h.mat.kept (fun j hj _ hor => keep j hj (fun e => ?_)), ?_, by simp [h.len], ?_⟩
  · rcases hor with hv | ⟨i, hi, hb⟩
    · exact (h.far j e).1 hv
    · exact (h.far j e).2 i hi hb
  · have e : encL (ys ++ [x]) = encL ys ++ [.int .u8 (x.toNat : Int)] := by simp [encL]
    rw [e]; exact hown
  · intro g' hg'
    have e : g = g' := by simpa [Value.ownBlock] using hg'
    subst e
    rcases hg with e | e
    · exact h.far g e
    · refine ⟨fun q => ?_, fun j hj q => ?_⟩
      · have := (own_lt h.mat.own q).2; omega
      · have := (h.mat.lt j hj).2; omega

/-- The row is whole: it is appended to the matrix. -/
theorem Gro.row {w w' : World} {B m k g c gr cr : Nat} {v : Value} {rs : List Row} {ys : List Gf.F} {o : Obj} (h : Gro w B m v k rs (.slice (some ⟨gr, 0, none⟩) m cr) m ys)
    (hown : w'.ownsRow B 33 1 (.slice (some ⟨g, 0, none⟩) (k + 1) c) (k + 1) (rs.map Row.val ++ [.slice (some ⟨gr, 0, none⟩) m cr])) (hgr : (w.alloc o).grownBy w' v.ownBlock) (hg : v.ownBlock = some g ∨ g = w.heap.size + 1) :
    Mat w' B m (.slice (some ⟨g, 0, none⟩) (k + 1) c) (k + 1) (rs ++ [⟨gr, 0, cr, ys⟩]) := by
  have keep : ∀ j, j < w.heap.size → v.ownBlock ≠ some j → w'.heap[j]? = w.heap[j]? := fun j hj hne => by
    rw [grown_block hgr (by simp; omega) hne, Below.heap_alloc _ _ _ hj]
  have hgrlt : gr < w.heap.size := (own_lt h.own rfl).2
  obtain ⟨hf1, hf2⟩ := h.far gr rfl
  have far : ∀ b, b < w.heap.size → v.ownBlock ≠ some b → (Value.slice (some ⟨g, 0, none⟩) (k + 1) c).ownBlock ≠ some b := by
    intro b hb h1 q
    have e : g = b := by simpa [Value.ownBlock] using q
    subst e
    rcases hg with e | e
    · exact h1 e
    · omega
  have hlast : rat (rs ++ [(⟨gr, 0, cr, ys⟩ : Row)]) k = ⟨gr, 0, cr, ys⟩ := by rw [← h.mat.len]; exact rat_eq
  have hold : ∀ j, j < k → rat (rs ++ [(⟨gr, 0, cr, ys⟩ : Row)]) j = rat rs j := fun j hj => rat_lt (by rw [h.mat.len]; exact hj)
  refine ⟨by simp [h.mat.len], ?_, ?_, ?_⟩
  · rw [List.map_append]
    have e : [(⟨gr, 0, cr, ys⟩ : Row)].map Row.val = [.slice (some ⟨gr, 0, none⟩) m cr] := by simp [Row.val, h.len]
    rw [e]; exact hown
  · intro i hi
    by_cases e : i = k
    · subst e
      rw [hlast]
      exact ⟨own_of_block h.own (fun b hb => by
        have e : gr = b := by simpa [Value.ownBlock] using hb
        subst e; exact keep gr hgrlt hf1), h.len, rfl, far gr hgrlt hf1⟩
    · rw [hold i (by omega)]
      obtain ⟨h1, h2, h3, h4⟩ := h.mat.each i (by omega)
      have hlt := (h.mat.lt i (by omega)).2
      exact ⟨own_of_block h1 (fun b hb => by
        have e : (rat rs i).b = b := by simpa [Value.ownBlock] using hb
        subst e; exact keep _ hlt h4), h2, h3, far _ hlt h4⟩
  · intro i j hi hj e
    by_cases e1 : i = k
    · by_cases e2 : j = k
      · omega
      · rw [e1, hlast, hold j (by omega)] at e
        exact absurd e.symm (hf2 j (by omega))
    · by_cases e2 : j = k
      · rw [e2, hlast, hold i (by omega)] at e
        exact absurd e (hf2 i (by omega))
      · rw [hold i (by omega), hold j (by omega)] at e
        exact h.mat.apart i j (by omega) (by omega) e

/-- A row's bytes put in another's place. -/
def setL (rs : List Row) (k : Nat) (l : List Gf.F) : List Row := rs.set k ⟨(rat rs k).b, 0, (rat rs k).c, l⟩

theorem setL_same {rs : List Row} {k : Nat} {l : List Gf.F} (hk : k < rs.length) : rat (setL rs k l) k = ⟨(rat rs k).b, 0, (rat rs k).c, l⟩ := by
  simp [rat, setL, List.getD, hk]
theorem setL_other {rs : List Row} {k i : Nat} {l : List Gf.F} (h : i ≠ k) : rat (setL rs k l) i = rat rs i := by
  simp [rat, setL, List.getD, List.getElem?_set_ne (Ne.symm h)]
theorem setL_length {rs : List Row} {k : Nat} {l : List Gf.F} : (setL rs k l).length = rs.length := by simp [setL]

theorem setL_val {rs : List Row} {k m : Nat} {l : List Gf.F} (hk : k < rs.length) (ho : (rat rs k).o = 0) (h1 : (rat rs k).l.length = m) (h2 : l.length = m) : (setL rs k l).map Row.val = rs.map Row.val := by
  unfold setL
  rw [List.map_set]
  have e : Row.val ⟨(rat rs k).b, 0, (rat rs k).c, l⟩ = (rs.map Row.val)[k]'(by simpa using hk) := by
    have : rat rs k = rs[k] := by simp [rat, List.getD, hk]
    simp only [List.getElem_map, ← this, Row.val, ho, h1, h2]
  rw [e, List.set_getElem_self]

/-- One byte of one row is stored. -/
theorem Mat.store {w : World} {B m n g c : Nat} {rs : List Row} (h : Mat w B m (.slice (some ⟨g, 0, none⟩) n c) n rs) (i j : Nat) (hi : i < n) (x : Gf.F) :
    Mat (w.setCell ⟨(rat rs i).b, j, none⟩ (.int .u8 (x.toNat : Int))) B m (.slice (some ⟨g, 0, none⟩) n c) n (setL rs i ((rat rs i).l.set j x)) := by
  obtain ⟨h1, h2, h3, h4⟩ := h.each i hi
  have hne : g ≠ (rat rs i).b := fun q => h4 (by simp [Value.ownBlock, q])
  have hil : i < rs.length := by rw [h.len]; exact hi
  refine ⟨by rw [setL_length]; exact h.len, ?_, ?_, ?_⟩
  · rw [setL_val hil h3 h2 (by simp [h2])]
    refine own_of_block h.own (fun b hb => ?_)
    have e : g = b := by simpa [Value.ownBlock] using hb
    subst e
    exact heap_setCell_other _ _ _ _ hne
  · intro t ht
    by_cases e : t = i
    · subst e
      rw [setL_same hil]
      refine ⟨?_, by simp [h2], rfl, h4⟩
      have := (h1.stored j (.int .u8 (x.toNat : Int))).1
      have e2 : (encL (rat rs t).l).set j (.int .u8 (x.toNat : Int)) = encL ((rat rs t).l.set j x) := by simp [encL, List.map_set]
      rw [e2] at this
      exact this
    · rw [setL_other e]
      obtain ⟨k1, k2, k3, k4⟩ := h.each t ht
      refine ⟨own_of_block k1 (fun b hb => ?_), k2, k3, k4⟩
      have e2 : (rat rs t).b = b := by simpa [Value.ownBlock] using hb
      subst e2
      exact heap_setCell_other _ _ _ _ (fun q => e (h.apart t i ht hi q))
  · intro s t hs ht e
    have hb : ∀ u, u < n → (rat (setL rs i ((rat rs i).l.set j x)) u).b = (rat rs u).b := by
      intro u hu
      by_cases q : u = i
      · subst q; rw [setL_same hil]
      · rw [setL_other q]
    rw [hb s hs, hb t ht] at e
    exact h.apart s t hs ht e

theorem Mat.cell {w : World} {B m n g c : Nat} {rs : List Row} (h : Mat w B m (.slice (some ⟨g, 0, none⟩) n c) n rs) (i : Nat) (hi : i < n) : w.cell? ⟨g, i, none⟩ = some (.slice (some ⟨(rat rs i).b, 0, none⟩) m (rat rs i).c) := by
  rw [h.own.cellAt i (by omega)]
  have hil : i < rs.length := by rw [h.len]; exact hi
  obtain ⟨_, h2, h3, _⟩ := h.each i hi
  have : rat rs i = rs[i] := by simp [rat, List.getD, hil]
  rw [List.getElem?_map, List.getElem?_eq_getElem hil, ← this]
  simp [Row.val, h2, h3]

theorem Mat.byte {w : World} {B m n g c : Nat} {rs : List Row} (h : Mat w B m (.slice (some ⟨g, 0, none⟩) n c) n rs) (i j : Nat) (hi : i < n) (hj : j < m) : w.cell? ⟨(rat rs i).b, j, none⟩ = some (.int .u8 ((at_ (rat rs i).l j).toNat : Int)) := by
  obtain ⟨h1, h2, _⟩ := h.each i hi
  rw [h1.cellAt j (by omega), encL_at (by omega)]

theorem Mat.frozen {w : World} {B m n g c : Nat} {rs : List Row} (h : Mat w B m (.slice (some ⟨g, 0, none⟩) n c) n rs) (i j : Nat) (hi : i < n) : w.frozen? ⟨(rat rs i).b, j, none⟩ = false := (h.each i hi).1.frozenAt j
theorem Mat.frozenG {w : World} {B m n g c : Nat} {rs : List Row} (h : Mat w B m (.slice (some ⟨g, 0, none⟩) n c) n rs) (j : Nat) : w.frozen? ⟨g, j, none⟩ = false := h.own.frozenAt j

theorem Mat.drewN {w : World} {B m n : Nat} {v : Value} {rs : List Row} (h : Mat w B m v n rs) (q : Nat) : Mat (w.drewN q) B m v n rs := h.kept (fun _ _ _ _ => rfl)
theorem Mat.drew {w : World} {B m n : Nat} {v : Value} {rs : List Row} (h : Mat w B m v n rs) : Mat w.drew B m v n rs := h.kept (fun _ _ _ _ => rfl)

/-- Two rows change places. -/
def swapL (rs : List Row) (i k : Nat) : List Row := (rs.set i (rat rs k)).set k (rat rs i)

theorem swapL_at {rs : List Row} {i k t : Nat} (hi : i < rs.length) (hk : k < rs.length) (_ht : t < rs.length) : rat (swapL rs i k) t = rat rs (if t = k then i else if t = i then k else t) := by
  unfold swapL
  by_cases e1 : t = k
  · subst e1
    rw [if_pos rfl]
    simp [rat, List.getD, hi, hk]
  · rw [if_neg e1]
    by_cases e2 : t = i
    · subst e2
      rw [if_pos rfl]
      simp only [rat, List.getD_eq_getElem?_getD]
      rw [List.getElem?_set_ne (Ne.symm e1), List.getElem?_set_self hi]
      rfl
    · rw [if_neg e2]
      simp [rat, List.getD, List.getElem?_set_ne (Ne.symm e1), List.getElem?_set_ne (Ne.symm e2)]

theorem Mat.swap {w : World} {B m n g c : Nat} {rs : List Row} (h : Mat w B m (.slice (some ⟨g, 0, none⟩) n c) n rs) (i k : Nat) (hi : i < n) (hk : k < n) :
    Mat ((w.setCell ⟨g, i, none⟩ (.slice (some ⟨(rat rs k).b, 0, none⟩) m (rat rs k).c)).setCell ⟨g, k, none⟩ (.slice (some ⟨(rat rs i).b, 0, none⟩) m (rat rs i).c)) B m (.slice (some ⟨g, 0, none⟩) n c) n (swapL rs i k) := by
  have hil : i < rs.length := by rw [h.len]; exact hi
  have hkl : k < rs.length := by rw [h.len]; exact hk
  have hlt : ∀ t, t < n → (if t = k then i else if t = i then k else t) < n := fun t ht => by split; exact hi; split; exact hk; exact ht
  have hval : ∀ t, t < n → (rat rs t).val = .slice (some ⟨(rat rs t).b, 0, none⟩) m (rat rs t).c := fun t ht => by
    obtain ⟨_, h2, h3, _⟩ := h.each t ht
    simp [Row.val, h2, h3]
  refine ⟨by simp [swapL, h.len], ?_, ?_, ?_⟩
  · have := ((h.own.stored i (.slice (some ⟨(rat rs k).b, 0, none⟩) m (rat rs k).c)).1.stored k (.slice (some ⟨(rat rs i).b, 0, none⟩) m (rat rs i).c)).1
    rw [← hval k hk, ← hval i hi] at this ⊢
    have e : (swapL rs i k).map Row.val = ((rs.map Row.val).set i (rat rs k).val).set k (rat rs i).val := by simp [swapL, List.map_set]
    rw [e]
    exact this
  · intro t ht
    rw [swapL_at hil hkl (by rw [h.len]; exact ht)]
    obtain ⟨h1, h2, h3, h4⟩ := h.each _ (hlt t ht)
    refine ⟨own_of_block h1 (fun b hb => ?_), h2, h3, h4⟩
    have e : (rat rs (if t = k then i else if t = i then k else t)).b = b := by simpa [Value.ownBlock] using hb
    have hne : b ≠ g := fun q => h4 (by rw [e, q]; rfl)
    rw [heap_setCell_other _ _ _ _ hne, heap_setCell_other _ _ _ _ hne]
  · intro s t hs ht e
    rw [swapL_at hil hkl (by rw [h.len]; exact hs), swapL_at hil hkl (by rw [h.len]; exact ht)] at e
    have := h.apart _ _ (hlt s hs) (hlt t ht) e
    split at this <;> split at this <;> (try split at this) <;> (try split at this) <;> omega

/-- The matrix as numbers. -/
def mx (rs : List Row) : Gf.Mx := fun i j => at_ (rat rs i).l j

theorem at_set (l : List Gf.F) (j t : Nat) (x : Gf.F) (hj : j < l.length) : at_ (l.set j x) t = if t = j then x else at_ l t := by
  unfold at_
  rw [List.getD_eq_getElem?_getD, List.getD_eq_getElem?_getD]
  by_cases e : t = j
  · subst e; rw [if_pos rfl, List.getElem?_set_self hj]; rfl
  · rw [if_neg e, List.getElem?_set_ne (Ne.symm e)]

theorem mx_store {rs : List Row} {k j : Nat} {x : Gf.F} (hk : k < rs.length) (hj : j < (rat rs k).l.length) (a b : Nat) :
    mx (setL rs k ((rat rs k).l.set j x)) a b = if a = k ∧ b = j then x else mx rs a b := by
  unfold mx
  by_cases e : a = k
  · subst e
    rw [setL_same hk, at_set _ _ _ _ hj]
    by_cases e2 : b = j
    · rw [if_pos e2, if_pos ⟨rfl, e2⟩]
    · rw [if_neg e2, if_neg (fun h => e2 h.2)]
  · rw [setL_other e, if_neg (fun h => e h.1)]

theorem mx_swap {rs : List Row} {i k : Nat} (hi : i < rs.length) (hk : k < rs.length) (a : Nat) (ha : a < rs.length) (b : Nat) : mx (swapL rs i k) a b = mx rs (if a = k then i else if a = i then k else a) b := by
  unfold mx; rw [swapL_at hi hk ha]

/-- One column more is the unit matrix's. -/
theorem unit_step {m0 m1 m2 m3 : Gf.Mx} {n k q : Nat} (hk : k < n) (hq : q < n) (hkq : k ≤ q) (hU : Gf.Unit m0 n k) (hne : m0 q k ≠ 0)
    (e1 : ∀ i, i < n → ∀ j, j ≤ n → m1 i j = m0 (if i = k then q else if i = q then k else i) j)
    (e2 : ∀ i, i < n → ∀ j, j ≤ n → m2 i j = if i = k then Gf.mul (m1 k j) (Gf.inv (m0 q k)) else m1 i j)
    (e3 : ∀ i, i < n → ∀ j, j ≤ n → m3 i j = if i = k then m2 k j else m2 i j ^^^ Gf.mul (m2 i k) (m2 k j)) : Gf.Unit m3 n (k + 1) := by
  have h1 : ∀ j, j < k → ∀ i, i < n → m1 i j = if i = j then 1 else 0 := by
    intro j hj i hi
    rw [e1 i hi j (by omega)]
    by_cases a : i = k
    · rw [if_pos a, hU j hj q hq, if_neg (by omega), if_neg (by omega)]
    · rw [if_neg a]
      by_cases b : i = q
      · rw [if_pos b, hU j hj k hk, if_neg (by omega), if_neg (by omega)]
      · rw [if_neg b, hU j hj i hi]
  have h2 : ∀ j, j < k → ∀ i, i < n → m2 i j = if i = j then 1 else 0 := by
    intro j hj i hi
    rw [e2 i hi j (by omega)]
    by_cases a : i = k
    · rw [if_pos a, h1 j hj k hk, if_neg (by omega), if_neg (by omega), Gf.zero_mul]
    · rw [if_neg a, h1 j hj i hi]
  have hkk : m2 k k = 1 := by
    rw [e2 k hk k (by omega), if_pos rfl, e1 k hk k (by omega), if_pos rfl, Gf.mul_inv _ hne]
  intro j hj i hi
  rw [e3 i hi j (by omega)]
  by_cases a : i = k
  · rw [if_pos a]
    by_cases b : j = k
    · rw [b, hkk, if_pos a]
    · rw [h2 j (by omega) k hk, a]
  · rw [if_neg a]
    by_cases b : j = k
    · rw [b, hkk, Gf.mul_one, BitVec.xor_self, if_neg a]; rfl
    · rw [h2 j (by omega) i hi, h2 j (by omega) k hk, if_neg (show ¬ k = j by omega), Gf.mul_zero]; exact BitVec.xor_zero

/-- A round of the elimination keeps the solution. -/
theorem solves_step {m0 m1 m2 m3 : Gf.Mx} {n k q : Nat} {c : Nat → Gf.F} {o : Gf.F} (hk : k < n) (hq : q < n) (hS : Gf.Solves m0 n c) (hne : m0 q k ≠ 0) (ho : Gf.inv (m0 q k) = o)
    (e1 : ∀ i, i < n → ∀ j, j ≤ n → m1 i j = m0 (if i = k then q else if i = q then k else i) j)
    (e2 : ∀ i, i < n → ∀ j, j ≤ n → m2 i j = if i = k then Gf.mul (m1 k j) o else m1 i j)
    (e3 : ∀ i, i < n → ∀ j, j ≤ n → m3 i j = if i = k then m2 k j else m2 i j ^^^ Gf.mul (m2 i k) (m2 k j)) : Gf.Solves m3 n c := by
  have ho0 : o ≠ 0 := by
    intro h
    have := Gf.mul_inv _ hne
    rw [ho, h, Gf.mul_zero] at this
    exact absurd this (by decide)
  exact ((hS.swap hk hq e1).scale hk ho0 (fun i hi j hj => by rw [e2 i hi j hj]; split; exact Gf.mul_comm _ _; rfl)).clear hk e3

theorem at_snoc (l : List Gf.F) (x : Gf.F) (j : Nat) : at_ (l ++ [x]) j = if j < l.length then at_ l j else if j = l.length then x else 0 := by
  unfold at_
  rw [List.getD_eq_getElem?_getD, List.getD_eq_getElem?_getD]
  by_cases h : j < l.length
  · rw [if_pos h, List.getElem?_append_left h]
  · rw [if_neg h, List.getElem?_append_right (by omega)]
    by_cases e : j = l.length
    · rw [if_pos e, e]; simp
    · rw [if_neg e, List.getElem?_eq_none (by simp; omega)]; rfl

end Go.Proofs.YtjabhnhejbhgjaaGreatDoor

/- murmurref.Mul, over, power. -/
namespace Go.Proofs.YtjabhnhejbhgjaaGreatDoor
open Go.RowKit

theorem ofInt64 (a : Nat) (ha : a < 32768) : (BitVec.ofInt 64 (a : Int)).toNat = a := by
  rw [BitVec.ofInt_natCast, BitVec.toNat_ofNat]; exact Nat.mod_eq_of_lt (by omega)

theorem i64_xor_nat (a b : Nat) (ha : a < 32768) (hb : b < 32768) : bits .xor .i64 (a : Int) (b : Int) = ((a ^^^ b : Nat) : Int) := by
  have hx : a ^^^ b < 2 ^ 15 := Nat.xor_lt_two_pow (by omega) (by omega)
  show IntKind.i64.wrap ((BitVec.ofInt 64 (a : Int) ^^^ BitVec.ofInt 64 (b : Int)).toNat : Int) = _
  rw [BitVec.toNat_xor, ofInt64 a ha, ofInt64 b hb, IntKind.wrap_i64]
  omega

theorem i64_bit (x n : Nat) (hx : x < 32768) : (bits .and .i64 ((x : Int) / 2 ^ n) 1 == 1) = x.testBit n := by
  have e0 : ((x : Int) / 2 ^ n) = ((x / 2 ^ n : Nat) : Int) := by simp
  have hq : x / 2 ^ n < 32768 := Nat.lt_of_le_of_lt (Nat.div_le_self _ _) hx
  have e1 : bits .and .i64 ((x / 2 ^ n : Nat) : Int) 1 = ((x / 2 ^ n % 2 : Nat) : Int) := by
    show IntKind.i64.wrap ((BitVec.ofInt 64 ((x / 2 ^ n : Nat) : Int) &&& BitVec.ofInt 64 ((1 : Nat) : Int)).toNat : Int) = _
    rw [BitVec.toNat_and, ofInt64 _ hq, ofInt64 1 (by omega), IntKind.wrap_i64, Nat.and_one_is_mod]
    omega
  rw [e0, e1, Nat.testBit_eq_decide_div_mod_eq, Bool.eq_iff_iff, beq_iff_eq, decide_eq_true_iff]
  omega

theorem i64_shl (y k : Nat) (h : y * 2 ^ k < 32768) : wrap64 ((y : Int) * 2 ^ k) = ((y <<< k : Nat) : Int) := by
  have e0 : ((y : Int) * 2 ^ k) = ((y * 2 ^ k : Nat) : Int) := by simp
  rw [e0, Nat.shiftLeft_eq]
  unfold wrap64
  omega

theorem mul_pow_lt {y k c m : Nat} (hy : y ≤ c) (hk : k ≤ m) (h : c * 2 ^ m < 32768) : y * 2 ^ k < 32768 :=
  Nat.lt_of_le_of_lt (Nat.mul_le_mul hy (Nat.pow_le_pow_right (by omega) hk)) h

theorem clUp_yes {a b k : Nat} (ha : a < 256) (hb : b < 256) (hk : k < 8) (h : (bits .and .i64 ((b : Int) / 2 ^ k) 1 == 1) = true) : bits .xor .i64 ((Gf.clUp a b k : Nat) : Int) (wrap64 ((a : Int) * 2 ^ k)) = ((Gf.clUp a b (k + 1) : Nat) : Int) := by
  rw [i64_bit b k (by omega)] at h
  have hl := mul_pow_lt (show a ≤ 255 by omega) (show k ≤ 7 by omega) (by decide)
  rw [i64_shl a k hl, i64_xor_nat _ _ (Gf.clUp_lt a b k ha (by omega)) (by rw [Nat.shiftLeft_eq]; exact hl)]
  simp only [Gf.clUp]; rw [if_pos h]

theorem clUp_no {a b k : Nat} (hb : b < 256) (h : (bits .and .i64 ((b : Int) / 2 ^ k) 1 == 1) = false) : Gf.clUp a b k = Gf.clUp a b (k + 1) := by
  rw [i64_bit b k (by omega)] at h
  simp [Gf.clUp, h]

theorem redUp_yes {p k : Nat} (hp : p < 32768) (hk : k < 7) (h : (bits .and .i64 ((Gf.redUp p k : Nat) / 2 ^ (14 - k) : Int) 1 == 1) = true) : bits .xor .i64 ((Gf.redUp p k : Nat) : Int) (wrap64 (285 * 2 ^ (14 - k - 8))) = ((Gf.redUp p (k + 1) : Nat) : Int) := by
  have hr := Gf.redUp_lt p k hp (by omega)
  rw [i64_bit _ _ hr] at h
  have hl := mul_pow_lt (Nat.le_refl 285) (show 14 - k - 8 ≤ 6 by omega) (by decide)
  have e := i64_shl 285 (14 - k - 8) hl
  rw [show ((285 : Nat) : Int) = 285 from rfl] at e
  rw [e, i64_xor_nat _ _ hr (by rw [Nat.shiftLeft_eq]; exact hl)]
  simp only [Gf.redUp]; rw [if_pos h]

theorem redUp_no {p k : Nat} (hp : p < 32768) (hk : k < 7) (h : (bits .and .i64 ((Gf.redUp p k : Nat) / 2 ^ (14 - k) : Int) 1 == 1) = false) : Gf.redUp p k = Gf.redUp p (k + 1) := by
  have hr := Gf.redUp_lt p k hp (by omega)
  rw [i64_bit _ _ hr] at h
  simp [Gf.redUp, h]

set_option maxRecDepth 100000 in
set_option maxHeartbeats 400000 in
theorem refMul_any (a b : Gf.F) (w : World) :
    Calls Tryz.prog 150 #[.int .u8 (a.toNat : Int), .int .u8 (b.toNat : Int)] w fun e w' => e = .returned (.int .u8 ((Gf.mul a b).toNat : Int)) ∧ w' = w := by
  have hax := a.isLt
  have hbx := b.isLt
  go_enter Tryz.func150, Tryz.ntmps150
  go_wp2_with fail
  go_loop [5, 6] (fun s t => ∃ k : Nat, k ≤ 8 ∧ t = .int .i64 (k : Int) ∧ s = .int .i64 ((Gf.clUp a.toNat b.toNat k : Nat) : Int)) (fun _ t => 8 - (intOf t).toNat)
  case atStart => exact ⟨0, by omega, rfl, rfl⟩
  case round =>
    obtain ⟨k, hk, rfl, rfl⟩ := hrel
    have hcl := Gf.clUp_lt a.toNat b.toNat k hax hk
    by_cases hlt : k < 8
    · go_wp2
      · have HY := clUp_yes hax hbx hlt (by assumption)
        exact ⟨⟨k + 1, by omega, by go_num, by rw [HY]⟩, by simp [intOf]; omega⟩
      · have HY := clUp_no (a := a.toNat) hbx (by assumption)
        exact ⟨⟨k + 1, by omega, by go_num, by rw [HY]⟩, by simp [intOf]; omega⟩
    · obtain rfl : k = 8 := by omega
      go_wp2_with fail
      go_loop [5, 7] (fun s t => ∃ k : Nat, k ≤ 7 ∧ t = .int .i64 (14 - (k : Int)) ∧ s = .int .i64 ((Gf.redUp (Gf.clUp a.toNat b.toNat 8) k : Nat) : Int)) (fun _ t => (intOf t).toNat)
      case atStart => exact ⟨0, by omega, rfl, rfl⟩
      case round =>
        obtain ⟨k, hk, rfl, rfl⟩ := hrel
        have hrd := Gf.redUp_lt (Gf.clUp a.toNat b.toNat 8) k hcl hk
        by_cases hlt2 : k < 7
        · go_wp2
          · have HY := redUp_yes hcl hlt2 (by assumption)
            exact ⟨⟨k + 1, by omega, congrArg (Value.int .i64) (by omega), by rw [HY]⟩, by simp [intOf]; omega⟩
          · have HY := redUp_no hcl hlt2 (by assumption)
            exact ⟨⟨k + 1, by omega, congrArg (Value.int .i64) (by omega), by rw [HY]⟩, by simp [intOf]; omega⟩
        · obtain rfl : k = 7 := by omega
          have HR : Hid (Gf.redUp (Gf.clUp a.toNat b.toNat 8) 7 = (Gf.mul a b).toNat) := Gf.refMul_eq a b
          have hm := (Gf.mul a b).isLt
          go_wp2
          go_ret
          exact ⟨ret_int (by rw [HR.out]; omega), rfl⟩

set_option maxRecDepth 100000 in
set_option maxHeartbeats 400000 in
theorem over_any (a : Gf.F) (ha : a ≠ 0) (w : World) :
    Calls Tryz.prog 149 #[.int .u8 (a.toNat : Int)] w fun e w' => e = .returned (.int .u8 ((Gf.inv a).toNat : Int)) ∧ w' = w := by
  have HA : Hid (a ≠ 0) := ha
  clear ha
  have hil := (Gf.inv a).isLt
  have hip := Gf.inv_pos a HA.out
  go_enter Tryz.func149, Tryz.ntmps149
  go_wp2_with fail
  go_loop [3] (fun t => ∃ k : Nat, 1 ≤ k ∧ k ≤ (Gf.inv a).toNat ∧ t = .int .i64 (k : Int)) (fun t => 256 - (intOf t).toNat)
  case atStart => exact ⟨1, by omega, by omega, rfl⟩
  case round =>
    obtain ⟨k, hk1, hk, rfl⟩ := hrel
    have hk8 : k < 256 := by omega
    have hmb : Calls Tryz.prog 150 #[.int .u8 (a.toNat : Int), .int .u8 (k : Int)] w fun e w' => e = .returned (.int .u8 ((Gf.mul a (BitVec.ofNat 8 k)).toNat : Int)) ∧ w' = w := by
      have h := refMul_any a (BitVec.ofNat 8 k) w
      rw [BitVec.toNat_ofNat, Nat.mod_eq_of_lt (by omega)] at h
      exact h
    have HMB : Hid (Calls Tryz.prog 150 #[.int .u8 (a.toNat : Int), .int .u8 (k : Int)] w fun e w' => e = .returned (.int .u8 ((Gf.mul a (BitVec.ofNat 8 k)).toNat : Int)) ∧ w' = w) := hmb
    clear hmb
    by_cases e : k = (Gf.inv a).toNat
    · have ht : (((Gf.mul a (BitVec.ofNat 8 k)).toNat : Int) == 1) = true := by rw [Gf.toNat_one, e]; exact Gf.over_all a HA.out
      have HE : Hid (k = (Gf.inv a).toNat) := e
      clear e
      go_wp2_with (go_at_call 150; refine HMB.out.mono ?_; rintro e w' ⟨rfl, rfl⟩)
      go_ret
      exact ⟨ret_int (by rw [← HE.out]), rfl⟩
    · have ht : (((Gf.mul a (BitVec.ofNat 8 k)).toNat : Int) == 1) = false := by
        rw [Gf.toNat_one, ← Bool.not_eq_true]
        intro h
        have := (Gf.over_found a k h).2
        apply e
        rw [← this, BitVec.toNat_ofNat, Nat.mod_eq_of_lt (by omega)]
      have hlt : k < (Gf.inv a).toNat := by omega
      clear e
      go_wp2_with (go_at_call 150; refine HMB.out.mono ?_; rintro e w' ⟨rfl, rfl⟩)
      go_round
      case rel => exact ⟨k + 1, by omega, by omega, by go_num⟩
      case measure => simp [intOf]; omega

set_option maxRecDepth 100000 in
set_option maxHeartbeats 400000 in
theorem power_any (x : Gf.F) (n : Nat) (w : World) (hn : n ≤ 1000) :
    Calls Tryz.prog 148 #[.int .u8 (x.toNat : Int), .int .i64 (n : Int)] w fun e w' => e = .returned (.int .u8 ((Gf.pow x n).toNat : Int)) ∧ w' = w := by
  go_enter Tryz.func148, Tryz.ntmps148
  go_wp2_with fail
  go_loop [1, 5] (fun t s => ∃ k : Nat, k ≤ n ∧ t = .int .i64 ((n : Int) - (k : Int)) ∧ s = .int .u8 ((Gf.pow x k).toNat : Int)) (fun t _ => (intOf t).toNat)
  case atStart => exact ⟨0, by omega, congrArg (Value.int .i64) (by omega), rfl⟩
  case round =>
    obtain ⟨k, hk, rfl, rfl⟩ := hrel
    by_cases hlt : k < n
    · go_wp2_with (go_at_call 150; refine (refMul_any _ _ _).mono ?_; rintro e w' ⟨rfl, rfl⟩)
      exact ⟨⟨k + 1, by omega, congrArg (Value.int .i64) (by omega), rfl⟩, by simp [intOf]; omega⟩
    · obtain rfl : k = n := by omega
      go_wp2
      go_ret
      exact ⟨rfl, rfl⟩

end Go.Proofs.YtjabhnhejbhgjaaGreatDoor

/- murmurref.polynomial. -/
namespace Go.Proofs.YtjabhnhejbhgjaaGreatDoor
open Go.RowKit

theorem power_z (x : Gf.F) (z : Int) (n : Nat) (w : World) (hz : z = (x.toNat : Int)) (hn : n ≤ 1000) :
    Calls Tryz.prog 148 #[.int .u8 z, .int .i64 (n : Int)] w fun e w' => e = .returned (.int .u8 ((Gf.pow x n).toNat : Int)) ∧ w' = w := by
  subst hz; exact power_any x n w hn

/-- A region whose last operations are forced, its first ones read: in the world behind the draw. -/
theorem wp_region_tail {P : Program} {id : Nat} {Q : Exit → Act → World → Prop} {a : Act} {w : World} {l : List Oper} (n : Nat) (hm : P.follows .mixedOrders = true) (hB : Region.lexTailB .any l.toArray n = true)
    (h : wpStill P l.toArray w.drew (fun a' => wpList P l.toArray Q (l.drop n) a' w.drew) (l.take n) a) : (Code.region id l.toArray true).wp P Q a w := wp_region_still_tail n hm hB h

def powL (x : Gf.F) (k : Nat) : List Gf.F := (List.range k).map (Gf.pow x)
theorem powL_succ (x : Gf.F) (k : Nat) : powL x (k + 1) = powL x k ++ [Gf.pow x k] := by simp [powL, List.range_succ]
theorem powL_length (x : Gf.F) (k : Nat) : (powL x k).length = k := by simp [powL]

/-- A row of the equations. -/
def eqRow (l : List Int) (ys : List Gf.F) (n t : Nat) : List Gf.F := powL (byteOf (zat l t)) n ++ [at_ ys t]

theorem eqRow_at (l : List Int) (ys : List Gf.F) (n t j : Nat) (hj : j ≤ n) : at_ (eqRow l ys n t) j = if j < n then Gf.pow (byteOf (zat l t)) j else at_ ys t := by
  unfold eqRow
  rw [at_snoc, powL_length]
  by_cases h : j < n
  · rw [if_pos h, if_pos h]; simp [at_, powL, List.getD, h]
  · rw [if_neg h, if_pos (by omega), if_neg h]

theorem Tryz.u8_parts : ∃ i, Tryz.prog.info? 5 = some i ∧ i.zero = some (.int .u8 0) ∧ i.size = 1 ∧ i.bytes = 1 := by
  obtain ⟨i, hi, h⟩ := Option.map_eq_some_iff.1 Tryz.info_u8
  simp only [Prod.mk.injEq] at h
  exact ⟨i, hi, h.1, h.2.1, h.2.2⟩
theorem Tryz.bytes_parts : ∃ i, Tryz.prog.info? 33 = some i ∧ i.zero = some (.slice none 0 0) ∧ i.size = 1 ∧ i.bytes = 24 := by
  obtain ⟨i, hi, h⟩ := Option.map_eq_some_iff.1 Tryz.info_bytes
  simp only [Prod.mk.injEq] at h
  exact ⟨i, hi, h.1, h.2.1, h.2.2⟩

set_option maxRecDepth 100000 in
set_option maxHeartbeats 4000000 in
theorem poly_any (zb zo zc vb vo vc n : Nat) (l : List Int) (ys : List Gf.F) (w : World) (hl : l.length = n) (hy : ys.length = n) (hn : 0 < n) (hn8 : n ≤ 8) (hp : placesB l n = true) (hZ : Zs w zb zo l) (hY : Bs w vb vo ys) :
    Calls Tryz.prog 138 #[.slice (some ⟨zb, zo, none⟩) n zc, .slice (some ⟨vb, vo, none⟩) n vc] w fun e w' =>
      ∃ g c cf, e = .returned (.slice (some ⟨g, 0, none⟩) n c) ∧ w'.ownsRow w.heap.size 5 1 (.slice (some ⟨g, 0, none⟩) n c) n (encL cf) ∧ cf.length = n ∧ (∀ p, Gf.ev cf p = Gf.lag (fun i => byteOf (zat l i)) (at_ ys) n p) ∧ Below w.heap.size w w' := by
  have hzl := hZ.lt (by omega)
  have hvl := hY.lt (by omega)
  have HL : Hid (l.length = n) := hl
  have HY : Hid (ys.length = n) := hy
  have HP : Hid (placesB l n = true) := hp
  clear hl hy hp
  obtain ⟨iu, hiu, hu0, hu1, hu2⟩ := Tryz.u8_parts
  obtain ⟨ib, hib, hb0, hb1, hb2⟩ := Tryz.bytes_parts
  go_enter Tryz.func138, Tryz.ntmps138
  go_wp2_with fail
  go_loopw [6, 7] (fun v t wr => ∃ (i : Nat) (rs : List Row), i ≤ n ∧ t = .int .i64 (i : Int) ∧ Mat wr w.heap.size (n + 1) v i rs ∧ Hid (∀ t, t < i → (rat rs t).l = eqRow l ys n t) ∧ Below w.heap.size w wr) (fun _ t _ => n - (intOf t).toNat)
  case atStart => exact ⟨0, [], by omega, rfl, Mat.nil .., fun t ht => by omega, Below.refl _ _⟩
  case round =>
    obtain ⟨i, rs, hi, rfl, hM, hR, hbr⟩ := hrel
    by_cases hlt : i < n
    · obtain ⟨hz0, hz1⟩ := placesB_range HP.out i hlt
      obtain ⟨wA, rfl⟩ : ∃ x, x = wr := ⟨wr, rfl⟩
      go_wp2_with fail
      go_loopw [8, 9] (fun v t wr => ∃ k : Nat, k ≤ n ∧ t = .int .i64 (k : Int) ∧ Gro wr w.heap.size (n + 1) u6 i rs v k (powL (byteOf (zat l i)) k) ∧ Below w.heap.size w wr) (fun _ t _ => n - (intOf t).toNat)
      case atStart => exact ⟨0, by omega, rfl, Gro.nil hM, hbr⟩
      case round =>
        obtain ⟨k, hk, rfl, hG, hb3⟩ := hrel
        have hs3 := hb3.size
        by_cases hlt2 : k < n
        · have hci : wr.cell? ⟨zb, zo + i, none⟩ = some (.int .i64 (zat l i)) := hZ.below hb3 hzl i (by rw [HL.out]; exact hlt)
          have hil : (i : Int) < (n : Int) := by omega
          go_wp2_with fail
          refine (power_z (byteOf (zat l i)) _ k _ (byteOf_toNat ⟨hz0, hz1⟩) (by omega)).mono ?_
          rintro e w' ⟨rfl, rfl⟩
          go_wp2_with (at_builtin; refine wpList_append_lies _ rfl _ _ _ rfl w.heap.size 5 iu (.int .u8 0) 1 1 Tryz.underlying33 hiu hu0 hu1 hu2 rfl (by omega) u8 k (encL (powL (byteOf (zat l i)) k)) rfl (hG.own.alloc _) ⟨w'.heap.size, 0, none⟩ 1 1 [.int .u8 ((Gf.pow (byteOf (zat l i)) k).toNat : Int)] rfl rfl ?c1 ?c2 (by omega) ?c3 (by omega) ?c4 (w'.heap.size + 1) ?c5 ?_)
          case c1 => exact cell_one_new _ _ _
          case c2 => intro u hu; simp at hu; subst hu; rfl
          case c3 => unfold maxLen; omega
          case c4 => simp; omega
          case c5 => simp
          intro ga ca w6 hown6 hgr6 hlie6 hlt6
          have hG6 := hG.step hown6 hgr6 hlie6
          rw [← powL_succ] at hG6
          have hb6 : Below w.heap.size w w6 := (hb3.alloc hs3 _).grown hgr6 (by simp; omega) (fun t ht => (own_lt hG.own ht).1)
          clear hown6 hgr6 hlie6 hlt6
          go_wp2_with fail
          go_roundw
          case rel => exact ⟨k + 1, by omega, by go_num, hG6, hb6⟩
          case measure => simp [intOf]; omega
        · obtain rfl : k = n := by omega
          obtain ⟨wB, rfl⟩ : ∃ x, x = wr := ⟨wr, rfl⟩
          have hcy : wB.cell? ⟨vb, vo + i, none⟩ = some (.int .u8 ((at_ ys i).toNat : Int)) := hY.below hb3 hvl i (by rw [HY.out]; exact hlt)
          have hik : (i : Int) < (k : Int) := by omega
          have hvw : vb < wB.heap.size := Nat.lt_of_lt_of_le hvl hs3
          go_wp2_with (at_builtin; refine wpList_append_lies _ rfl _ _ _ rfl w.heap.size 5 iu (.int .u8 0) 1 1 Tryz.underlying33 hiu hu0 hu1 hu2 rfl (by omega) u8 k (encL (powL (byteOf (zat l i)) k)) rfl (hG.own.alloc _) ⟨wB.heap.size, 0, none⟩ 1 1 [.int .u8 ((at_ ys i).toNat : Int)] rfl rfl ?c1 ?c2 (by omega) ?c3 (by omega) ?c4 (wB.heap.size + 1) ?c5 ?_)
          case c1 => exact cell_one_new _ _ _
          case c2 => intro u hu; simp at hu; subst hu; rfl
          case c3 => unfold maxLen; omega
          case c4 => simp; omega
          case c5 => simp
          intro ga ca w6 hown6 hgr6 hlie6 hlt6
          have hG6 := hG.step hown6 hgr6 hlie6
          have hb6 : Below w.heap.size w w6 := (hb3.alloc hs3 _).grown hgr6 (by simp; omega) (fun t ht => (own_lt hG.own ht).1)
          have hs6 := hb6.size
          clear hown6 hgr6 hlie6 hlt6
          go_wp2_with (at_builtin; refine wpList_append_lies _ rfl _ _ _ rfl w.heap.size 33 ib (.slice none 0 0) 1 24 Tryz.underlying40 hib hb0 hb1 hb2 rfl (by omega) u6 i (rs.map Row.val) rfl (hG6.mat.own.alloc _) ⟨w6.heap.size, 0, none⟩ 1 1 [.slice (some ⟨ga, 0, none⟩) (k + 1) ca] rfl rfl ?c1 ?c2 (by omega) ?c3 (by omega) ?c4 (w6.heap.size + 1) ?c5 ?_)
          case c1 => exact cell_one_new _ _ _
          case c2 => intro u hu; simp at hu; subst hu; rfl
          case c3 => unfold maxLen; omega
          case c4 => simp; omega
          case c5 => simp
          intro gl cl w7 hown7 hgr7 hlie7 hlt7
          have hM7 := hG6.row hown7 hgr7 hlie7
          have hb7 : Below w.heap.size w w7 := (hb6.alloc hs6 _).grown hgr7 (by simp; omega) (fun t ht => (own_lt hG6.mat.own ht).1)
          have hR7 : Hid (∀ t, t < i + 1 → (rat (rs ++ [⟨ga, 0, ca, powL (byteOf (zat l i)) k ++ [at_ ys i]⟩]) t).l = eqRow l ys k t) := by
            intro t ht
            by_cases e : t = i
            · subst e
              rw [show rat (rs ++ [(⟨ga, 0, ca, powL (byteOf (zat l t)) k ++ [at_ ys t]⟩ : Row)]) t = ⟨ga, 0, ca, powL (byteOf (zat l t)) k ++ [at_ ys t]⟩ by rw [← hM.len]; exact rat_eq]
              rfl
            · rw [rat_lt (by rw [hM.len]; omega)]
              exact hR.out t (by omega)
          clear hown7 hgr7 hlie7 hlt7
          go_wp2_with fail
          go_roundw
          case rel => exact ⟨i + 1, _, by omega, by go_num, hM7, hR7, hb7⟩
          case measure => simp [intOf]; omega
    · obtain rfl : i = n := by omega
      obtain ⟨a6, c6, rfl, hf6⟩ := own_form hM.own
      obtain ⟨g6, rfl, hc6, hB6, hg6, _⟩ := hf6 hn
      obtain ⟨wA, rfl⟩ : ∃ x, x = wr := ⟨wr, rfl⟩
      clear hib hb0 hb1 hb2
      have hXa : Gf.Apart (fun i => byteOf (zat l i)) i := fun a b ha hb e => placesB_apart HP.out a b ha hb (byteOf_inj (placesB_range HP.out a ha) (placesB_range HP.out b hb) e)
      obtain ⟨cf, hcf, hev, hsol⟩ := Gf.solves_start (Y := at_ ys) (m := mx rs) hn8 hXa (fun a ha j hj => by show at_ (rat rs a).l j = _; rw [hR.out a ha, eqRow_at l ys i a j hj])
      obtain ⟨N, rfl⟩ : ∃ x, x = i := ⟨i, rfl⟩
      clear hXa hR hlt
      go_wp2_with fail
      go_loopw [11] (fun t wr => ∃ (k : Nat) (rs : List Row), k ≤ N ∧ t = .int .i64 (k : Int) ∧ Mat wr w.heap.size (N + 1) (.slice (some ⟨g6, 0, none⟩) N c6) N rs ∧ Gf.Solves (mx rs) N (fun j => cf.getD j 0) ∧ Gf.Unit (mx rs) N k ∧ Below w.heap.size w wr) (fun t _ => N - (intOf t).toNat)
      case atStart => exact ⟨0, rs, by omega, rfl, hM, hsol, fun j hj => by omega, hbr⟩
      case round =>
        obtain ⟨k, rs0, hk, rfl, hM0, hS0, hU0, hb8⟩ := hrel
        clear hM hsol
        by_cases hlt : k < N
        · obtain ⟨p0, hp1, hp2, hp3⟩ := hS0.pivot hlt hU0
          have HP3 : Hid (mx rs0 p0 k ≠ 0) := hp3
          clear hp3
          have hkN : (k : Int) < (N : Int) := by omega
          obtain ⟨wB, rfl⟩ : ∃ x, x = wr := ⟨wr, rfl⟩
          go_wp2_with fail
          go_loop [12] (fun t => ∃ q : Nat, k ≤ q ∧ q ≤ p0 ∧ t = .int .i64 (q : Int)) (fun t => N - (intOf t).toNat)
          case atStart => exact ⟨k, by omega, by omega, rfl⟩
          case round =>
            obtain ⟨q, hq1, hq2, rfl⟩ := hrel
            have hqN : (q : Int) < (N : Int) := by omega
            have hc1 := hM0.cell q (by omega)
            have hc2 := hM0.byte q k (by omega) (by omega)
            have hk1 : (k : Int) < ((N + 1 : Nat) : Int) := by omega
            by_cases e : at_ (rat rs0 q).l k = 0
            · have ht : (((at_ (rat rs0 q).l k).toNat : Int) == 0) = true := by rw [e]; rfl
              have hne : q ≠ p0 := fun h => HP3.out (by rw [← h]; exact e)
              clear e
              go_wp2_with fail
              go_round
              case rel => exact ⟨q + 1, by omega, by omega, by go_num⟩
              case measure => simp [intOf]; omega
            · have ht : (((at_ (rat rs0 q).l k).toNat : Int) == 0) = false := by
                rw [← Bool.not_eq_true, beq_iff_eq]
                intro h
                exact e (BitVec.eq_of_toNat_eq (by simpa using h))
              have HE : Hid (at_ (rat rs0 q).l k ≠ 0) := e
              clear e
              have hc3 := hM0.cell k (by omega)
              have hf1 := hM0.frozenG q
              have hf2 := hM0.frozenG k
              obtain ⟨v', hy'⟩ := cell?_setCell_some (w := wB) (p := ⟨g6, q, none⟩) (x := .slice (some ⟨(rat rs0 k).b, 0, none⟩) (N + 1) (rat rs0 k).c) (q := ⟨g6, k, none⟩) hc3
              have hM1 := hM0.swap q k (by omega) (by omega)
              have hr1 : rat (swapL rs0 q k) k = rat rs0 q := by rw [swapL_at (by rw [hM0.len]; omega) (by rw [hM0.len]; omega) (by rw [hM0.len]; omega), if_pos rfl]
              have hc4 := hM1.cell k (by omega)
              have hc5 := hM1.byte k k (by omega) (by omega)
              rw [hr1] at hc4 hc5
              have HM1 : Hid (Mat ((wB.setCell ⟨g6, q, none⟩ (.slice (some ⟨(rat rs0 k).b, 0, none⟩) (N + 1) (rat rs0 k).c)).setCell ⟨g6, k, none⟩ (.slice (some ⟨(rat rs0 q).b, 0, none⟩) (N + 1) (rat rs0 q).c)) w.heap.size (N + 1) (.slice (some ⟨g6, 0, none⟩) N c6) N (swapL rs0 q k)) := hM1
              clear hM1 hr1
              go_wp2_with fail
              clear hc4 hc5 hy' hc1 hc2 hc3 hf1 hf2 ht
              generalize hW : (wB.setCell _ _).setCell _ _ = w2
              have hM2 : Mat w2 w.heap.size (N + 1) (.slice (some ⟨g6, 0, none⟩) N c6) N (swapL rs0 q k) := by rw [← hW]; exact HM1.out
              have hb9 : Below w.heap.size w w2 := by rw [← hW]; exact (hb8.setCell (p := ⟨g6, q, none⟩) hB6 _).setCell (p := ⟨g6, k, none⟩) hB6 _
              clear hW HM1
              refine (over_any _ HE.out _).mono ?_
              rintro e w' ⟨rfl, rfl⟩
              have E1 : Hid (∀ a, a < N → ∀ b, b ≤ N → mx (swapL rs0 q k) a b = mx rs0 (if a = k then q else if a = q then k else a) b) := fun a ha b _ => mx_swap (by rw [hM0.len]; omega) (by rw [hM0.len]; omega) a (by rw [hM0.len]; exact ha) b
              generalize swapL rs0 q k = rs1 at hM2 E1
              generalize ho : Gf.inv (at_ (rat rs0 q).l k) = o
              have HO : Hid (Gf.inv (mx rs0 q k) = o) := ho
              clear ho
              go_wp2_with fail
              go_loopw [15] (fun t wr => ∃ (j : Nat) (rs : List Row), j ≤ N + 1 ∧ t = .int .i64 (j : Int) ∧ Mat wr w.heap.size (N + 1) (.slice (some ⟨g6, 0, none⟩) N c6) N rs ∧ Hid (∀ a, a < N → ∀ b, b ≤ N → mx rs a b = if a = k ∧ b < j then Gf.mul (mx rs1 a b) o else mx rs1 a b) ∧ Below w.heap.size w wr) (fun t _ => N + 1 - (intOf t).toNat)
              case atStart => exact ⟨0, rs1, by omega, rfl, hM2, fun a _ b _ => by rw [if_neg (by omega)], hb9⟩
              case round =>
                obtain ⟨j, rs2, hj, rfl, hM3, E2, hb10⟩ := hrel
                by_cases hjl : j ≤ N
                · have hc1 := hM3.cell k (by omega)
                  have hc2 := hM3.byte k j (by omega) (by omega)
                  have hf1 := hM3.frozen k j (by omega)
                  have hjN : (j : Int) < (N : Int) + 1 := by omega
                  have hM4 := hM3.store k j (by omega) (Gf.mul (at_ (rat rs2 k).l j) o)
                  have E3 : Hid (∀ a, a < N → ∀ b, b ≤ N → mx (setL rs2 k ((rat rs2 k).l.set j (Gf.mul (at_ (rat rs2 k).l j) o))) a b = if a = k ∧ b < j + 1 then Gf.mul (mx rs1 a b) o else mx rs1 a b) := by
                    intro a ha b hb
                    rw [mx_store (by rw [hM3.len]; omega) (by rw [(hM3.each k (by omega)).2.1]; omega)]
                    by_cases e : a = k ∧ b = j
                    · obtain ⟨rfl, rfl⟩ := e
                      rw [if_pos ⟨rfl, rfl⟩, if_pos ⟨rfl, by omega⟩]
                      have := E2.out a ha b hb
                      rw [if_neg (by omega)] at this
                      rw [show at_ (rat rs2 a).l b = mx rs2 a b from rfl, this]
                    · rw [if_neg e, E2.out a ha b hb]
                      by_cases e2 : a = k ∧ b < j
                      · rw [if_pos e2, if_pos ⟨e2.1, by omega⟩]
                      · rw [if_neg e2, if_neg (fun h => e2 ⟨h.1, by have := h.2; rcases Nat.lt_or_ge b j with q | q; exact q; exact absurd ⟨h.1, by omega⟩ e⟩)]
                  go_wp2_with fail
                  have HM4 : Hid (Mat (wr.setCell ⟨(rat rs2 k).b, j, none⟩ (.int .u8 ((Gf.mul (at_ (rat rs2 k).l j) o).toNat : Int))) w.heap.size (N + 1) (.slice (some ⟨g6, 0, none⟩) N c6) N (setL rs2 k ((rat rs2 k).l.set j (Gf.mul (at_ (rat rs2 k).l j) o)))) := hM4
                  have hBk := (hM3.lt k (by omega)).1
                  clear hM3 hM4
                  refine wp_region_tail 15 (by kernel_rfl) (by kernel_rfl) ?_
                  simp only [List.take_succ_cons, List.take_zero, List.drop_succ_cons, List.drop_zero]
                  repeat still_step
                  still_call (refMul_any (at_ (rat rs2 k).l j) o _)
                  repeat still_step
                  refine wpStill_nil ?_
                  go_wp2_with fail
                  go_roundw
                  case rel => exact ⟨j + 1, _, by omega, by go_num, HM4.out.drew, E3, (hb10.setCell (p := ⟨(rat rs2 k).b, j, none⟩) hBk _).drew⟩
                  case measure => simp [intOf]; omega
                · obtain rfl : j = N + 1 := by omega
                  have E4 : Hid (∀ a, a < N → ∀ b, b ≤ N → mx rs2 a b = if a = k then Gf.mul (mx rs1 k b) o else mx rs1 a b) := by
                    intro a ha b hb
                    rw [E2.out a ha b hb]
                    by_cases e : a = k
                    · rw [if_pos ⟨e, by omega⟩, if_pos e, e]
                    · rw [if_neg (fun h => e h.1), if_neg e]
                  obtain ⟨wC, rfl⟩ : ∃ x, x = wr := ⟨wr, rfl⟩
                  clear E2 hM2 hjl
                  go_wp2_with fail
                  go_loopw [12] (fun t wr => ∃ (i : Nat) (rs : List Row), i ≤ N ∧ t = .int .i64 (i : Int) ∧ Mat wr w.heap.size (N + 1) (.slice (some ⟨g6, 0, none⟩) N c6) N rs ∧ Hid (∀ a, a < N → ∀ b, b ≤ N → mx rs a b = if a < i ∧ a ≠ k then mx rs2 a b ^^^ Gf.mul (mx rs2 a k) (mx rs2 k b) else mx rs2 a b) ∧ Below w.heap.size w wr) (fun t _ => N - (intOf t).toNat)
                  case atStart => exact ⟨0, rs2, by omega, rfl, hM3, fun a _ b _ => by rw [if_neg (by omega)], hb10⟩
                  case round =>
                    obtain ⟨i, rs3, hi2, rfl, hM5, E5, hb11⟩ := hrel
                    by_cases hiN : i < N
                    · have hc1 := hM5.cell i (by omega)
                      have hc2 := hM5.byte i k (by omega) (by omega)
                      have hiN2 : (i : Int) < (N : Int) := by omega
                      have hkN1 : (k : Int) < (N : Int) + 1 := by omega
                      have HF : Hid (at_ (rat rs3 i).l k = mx rs2 i k) := by
                        have := E5.out i hiN k (by omega)
                        rw [if_neg (by omega)] at this
                        exact this
                      obtain ⟨wD, rfl⟩ : ∃ x, x = wr := ⟨wr, rfl⟩
                      go_wp2_with fail
                      clear hc1 hc2
                      rw [HF.out]
                      generalize hff : mx rs2 i k = f
                      have HFF : Hid (mx rs2 i k = f) := hff
                      clear hff HF
                      go_loopw [17] (fun t wr => ∃ (j : Nat) (rs : List Row), j ≤ N + 1 ∧ t = .int .i64 (j : Int) ∧ Mat wr w.heap.size (N + 1) (.slice (some ⟨g6, 0, none⟩) N c6) N rs ∧ Hid (∀ a, a < N → ∀ b, b ≤ N → mx rs a b = if (a < i ∨ (a = i ∧ b < j)) ∧ a ≠ k then mx rs2 a b ^^^ Gf.mul (mx rs2 a k) (mx rs2 k b) else mx rs2 a b) ∧ Below w.heap.size w wr) (fun t _ => N + 1 - (intOf t).toNat)
                      case atStart => exact ⟨0, rs3, by omega, rfl, hM5, fun a ha b hb => by rw [E5.out a ha b hb]; congr 1; apply propext; omega, hb11⟩
                      case round =>
                        obtain ⟨j, rs4, hj, rfl, hM6, E6, hb12⟩ := hrel
                        by_cases hik : i = k
                        · have hne : ((i : Int) != (k : Int)) = false := by rw [hik]; simp
                          have E7 : Hid (∀ a, a < N → ∀ b, b ≤ N → mx rs4 a b = if a < i + 1 ∧ a ≠ k then mx rs2 a b ^^^ Gf.mul (mx rs2 a k) (mx rs2 k b) else mx rs2 a b) := by
                            intro a ha b hb
                            rw [E6.out a ha b hb]; congr 1; apply propext; omega
                          clear hik
                          by_cases hjl : j ≤ N
                          all_goals
                            go_wp2_with fail
                            go_roundw
                            case rel => exact ⟨i + 1, rs4, by omega, by go_num, hM6, E7, hb12⟩
                            case measure => simp [intOf]; omega
                        · have hne : ((i : Int) != (k : Int)) = true := by rw [bne_iff_ne]; omega
                          by_cases hjl : j ≤ N
                          · have hc1 := hM6.cell i (by omega)
                            have hc2 := hM6.byte i j (by omega) (by omega)
                            have hc3 := hM6.cell k (by omega)
                            have hc4 := hM6.byte k j (by omega) (by omega)
                            have hf1 := hM6.frozen i j (by omega)
                            have hjN : (j : Int) < (N : Int) + 1 := by omega
                            have hx := Gf.addF (at_ (rat rs4 i).l j) (Gf.mul f (at_ (rat rs4 k).l j))
                            have hM7 := hM6.store i j (by omega) (Gf.add (at_ (rat rs4 i).l j) (Gf.mul f (at_ (rat rs4 k).l j)))
                            have E7 : Hid (∀ a, a < N → ∀ b, b ≤ N → mx (setL rs4 i ((rat rs4 i).l.set j (Gf.add (at_ (rat rs4 i).l j) (Gf.mul f (at_ (rat rs4 k).l j))))) a b = if (a < i ∨ (a = i ∧ b < j + 1)) ∧ a ≠ k then mx rs2 a b ^^^ Gf.mul (mx rs2 a k) (mx rs2 k b) else mx rs2 a b) := by
                              intro a ha b hb
                              rw [mx_store (by rw [hM6.len]; omega) (by rw [(hM6.each i (by omega)).2.1]; omega)]
                              by_cases e : a = i ∧ b = j
                              · obtain ⟨rfl, rfl⟩ := e
                                rw [if_pos ⟨rfl, rfl⟩, if_pos ⟨.inr ⟨rfl, by omega⟩, hik⟩]
                                have h1 := E6.out a ha b hb
                                rw [if_neg (by omega)] at h1
                                have h2 := E6.out k (by omega) b hb
                                rw [if_neg (by omega)] at h2
                                show at_ (rat rs4 a).l b ^^^ Gf.mul f (at_ (rat rs4 k).l b) = _
                                rw [show at_ (rat rs4 a).l b = mx rs4 a b from rfl, h1, show at_ (rat rs4 k).l b = mx rs4 k b from rfl, h2, HFF.out]
                              · rw [if_neg e, E6.out a ha b hb]; congr 1; apply propext; omega
                            have HM7 : Hid (Mat (wr.setCell ⟨(rat rs4 i).b, j, none⟩ (.int .u8 ((Gf.add (at_ (rat rs4 i).l j) (Gf.mul f (at_ (rat rs4 k).l j))).toNat : Int))) w.heap.size (N + 1) (.slice (some ⟨g6, 0, none⟩) N c6) N (setL rs4 i ((rat rs4 i).l.set j (Gf.add (at_ (rat rs4 i).l j) (Gf.mul f (at_ (rat rs4 k).l j)))))) := hM7
                            have hBi := (hM6.lt i (by omega)).1
                            clear hM6 hM7 hik
                            go_wp2_with fail
                            refine wp_region_tail 23 (by kernel_rfl) (by kernel_rfl) ?_
                            simp only [List.take_succ_cons, List.take_zero, List.drop_succ_cons, List.drop_zero]
                            repeat still_step
                            still_call (refMul_any f (at_ (rat rs4 k).l j) _)
                            repeat still_step
                            refine wpStill_nil ?_
                            go_wp2_with fail
                            go_roundw
                            case rel => (repeat apply Exists.intro); exact ⟨⟨j + 1, _, by omega, by go_num, HM7.out.drew, E7, (hb12.setCell (p := ⟨(rat rs4 i).b, j, none⟩) hBi _).drew⟩, rfl⟩
                            case measure => simp [intOf]; omega
                          · have E7 : Hid (∀ a, a < N → ∀ b, b ≤ N → mx rs4 a b = if a < i + 1 ∧ a ≠ k then mx rs2 a b ^^^ Gf.mul (mx rs2 a k) (mx rs2 k b) else mx rs2 a b) := by
                              intro a ha b hb
                              rw [E6.out a ha b hb]; congr 1; apply propext; omega
                            clear hik
                            go_wp2_with fail
                            go_roundw
                            case rel => exact ⟨i + 1, rs4, by omega, by go_num, hM6, E7, hb12⟩
                            case measure => simp [intOf]; omega
                    · have E3 : ∀ a, a < N → ∀ b, b ≤ N → mx rs3 a b = if a = k then mx rs2 k b else mx rs2 a b ^^^ Gf.mul (mx rs2 a k) (mx rs2 k b) := by
                        intro a ha b hb
                        rw [E5.out a ha b hb]
                        by_cases e : a = k
                        · rw [if_neg (by omega), if_pos e, e]
                        · rw [if_pos ⟨by omega, e⟩, if_neg e]
                      have hS9 := solves_step hlt (by omega) hS0 HE.out HO.out E1.out E4.out E3
                      have hU9 := unit_step hlt (by omega) hq1 hU0 HE.out E1.out (by rw [← HO.out] at E4; exact E4.out) E3
                      clear E3
                      go_wp2_with fail
                      go_roundw
                      case rel => exact ⟨k + 1, rs3, by omega, by go_num, hM5, hS9, hU9, hb11⟩
                      case measure => simp [intOf]; omega
        · obtain rfl : k = N := by omega
          have hD : ∀ a, a < k → at_ (rat rs0 a).l k = at_ cf a := fun a ha => hS0.done hU0 a ha
          have HD : Hid (∀ a, a < k → at_ (rat rs0 a).l k = at_ cf a) := hD
          have HC : Hid (cf.length = k) := hcf
          have HEV : Hid (∀ p, Gf.ev cf p = Gf.lag (fun i => byteOf (zat l i)) (at_ ys) k p) := hev
          clear hD hcf hev hlt
          obtain ⟨wB, rfl⟩ : ∃ x, x = wr := ⟨wr, rfl⟩
          go_wp2_with fail
          go_loopw [18, 19] (fun v t wr => ∃ i : Nat, i ≤ k ∧ t = .int .i64 (i : Int) ∧ Gro wr w.heap.size (k + 1) (.slice (some ⟨g6, 0, none⟩) k c6) k rs0 v i (cf.take i) ∧ Below w.heap.size w wr) (fun _ t _ => k - (intOf t).toNat)
          case atStart => exact ⟨0, by omega, rfl, Gro.nil hM0, hb8⟩
          case round =>
            obtain ⟨i, hi3, rfl, hG, hb13⟩ := hrel
            have hs13 := hb13.size
            by_cases hlt : i < k
            · have hc1 := hG.mat.cell i hlt
              have hc2 := hG.mat.byte i k hlt (by omega)
              rw [HD.out i hlt] at hc2
              have hik : (i : Int) < (k : Int) := by omega
              have hkk : (k : Int) < (k : Int) + 1 := by omega
              have hlt2 := (hG.mat.lt i hlt).2
              go_wp2_with (at_builtin; refine wpList_append_lies _ rfl _ _ _ rfl w.heap.size 5 iu (.int .u8 0) 1 1 Tryz.underlying33 hiu hu0 hu1 hu2 rfl (by omega) u18 i (encL (cf.take i)) rfl (hG.own.alloc _) ⟨wr.heap.size, 0, none⟩ 1 1 [.int .u8 ((at_ cf i).toNat : Int)] rfl rfl ?c1 ?c2 (by omega) ?c3 (by omega) ?c4 (wr.heap.size + 1) ?c5 ?_)
              case c1 => exact cell_one_new _ _ _
              case c2 => intro u hu; simp at hu; subst hu; rfl
              case c3 => unfold maxLen; omega
              case c4 => simp; omega
              case c5 => simp
              intro ga ca w6 hown6 hgr6 hlie6 hlt6
              have hG6 := hG.step hown6 hgr6 hlie6
              have e : cf.take i ++ [at_ cf i] = cf.take (i + 1) := by
                have : i < cf.length := by rw [HC.out]; exact hlt
                rw [List.take_succ_eq_append_getElem this]
                simp [at_, List.getD, this]
              rw [e] at hG6
              clear e
              have hb6 : Below w.heap.size w w6 := (hb13.alloc hs13 _).grown hgr6 (by simp; omega) (fun t ht => (own_lt hG.own ht).1)
              clear hown6 hgr6 hlie6 hlt6
              go_wp2_with fail
              go_roundw
              case rel => exact ⟨i + 1, by omega, by go_num, hG6, hb6⟩
              case measure => simp [intOf]; omega
            · obtain rfl : i = k := by omega
              obtain ⟨a18, c18, rfl, hf18⟩ := own_form hG.own
              obtain ⟨g18, rfl, _⟩ := hf18 hn
              have hfin := hG.own
              rw [List.take_of_length_le (by rw [HC.out]; exact Nat.le_refl _)] at hfin
              go_wp2_with fail
              go_ret
              exact ⟨g18, c18, cf, rfl, hfin, HC.out, HEV.out, hb13⟩

end Go.Proofs.YtjabhnhejbhgjaaGreatDoor

/- murmurref.value, even, front, at. Rows may be nil here: they come from the caller. -/
namespace Go.Proofs.YtjabhnhejbhgjaaGreatDoor
open Go.RowKit

/-- A slice of bytes of whatever make: its value, what it holds. -/
structure Raw where
  v : Value
  l : List Gf.F

def raw0 : Raw := ⟨.slice none 0 0, []⟩
def wat (rs : List Raw) (i : Nat) : Raw := rs.getD i raw0

def RawIn (w : World) (r : Raw) : Prop := ∃ a c, r.v = .slice a r.l.length c ∧ (0 < r.l.length → ∃ b o, a = some ⟨b, o, none⟩ ∧ Bs w b o r.l)

/-- Such slices, one behind the other. -/
def Ws (w : World) (b o : Nat) (rs : List Raw) : Prop := ∀ i, i < rs.length → w.cell? ⟨b, o + i, none⟩ = some (wat rs i).v ∧ RawIn w (wat rs i)

theorem RawIn.below {w w' : World} {r : Raw} (h : RawIn w r) (hb : Below w.heap.size w w') : RawIn w' r := by
  obtain ⟨a, c, h1, h2⟩ := h
  refine ⟨a, c, h1, fun hl => ?_⟩
  obtain ⟨b, o, h3, h4⟩ := h2 hl
  exact ⟨b, o, h3, h4.below hb (h4.lt hl)⟩

theorem Ws.below {w w' : World} {b o : Nat} {rs : List Raw} (h : Ws w b o rs) (hb : Below w.heap.size w w') : Ws w' b o rs :=
  fun i hi => ⟨by rw [hb.cell (p := ⟨b, o + i, none⟩) (lt_of_cell (h i hi).1)]; exact (h i hi).1, (h i hi).2.below hb⟩

def evenR (rs : List Raw) : Bool := rs.all fun r => r.l.length == (wat rs 0).l.length

theorem evenR_yes {rs : List Raw} (h : ∀ i, i < rs.length → (wat rs i).l.length = (wat rs 0).l.length) : evenR rs = true := by
  unfold evenR
  rw [List.all_eq_true]
  intro r hr
  obtain ⟨i, hi, rfl⟩ := List.mem_iff_getElem.1 hr
  have := h i hi
  rw [show wat rs i = rs[i] by simp [wat, List.getD, hi]] at this
  rw [this]; simp

theorem evenR_no {rs : List Raw} {i : Nat} (hi : i < rs.length) (h : (wat rs i).l.length ≠ (wat rs 0).l.length) : evenR rs = false := by
  unfold evenR
  rw [List.all_eq_false]
  refine ⟨rs[i], List.getElem_mem hi, ?_⟩
  rw [show wat rs i = rs[i] by simp [wat, List.getD, hi]] at h
  simpa using h

theorem evenR_len {rs : List Raw} (h : evenR rs = true) (i : Nat) (hi : i < rs.length) : (wat rs i).l.length = (wat rs 0).l.length := by
  unfold evenR at h
  rw [List.all_eq_true] at h
  have := h rs[i] (List.getElem_mem hi)
  rw [show wat rs i = rs[i] by simp [wat, List.getD, hi]]
  simpa using this

theorem Ws.cellAt {w : World} {b o : Nat} {rs : List Raw} (h : Ws w b o rs) (i : Nat) (hi : i < rs.length) : ∃ a c, w.cell? ⟨b, o + i, none⟩ = some (.slice a (wat rs i).l.length c) ∧ (0 < (wat rs i).l.length → ∃ b o, a = some ⟨b, o, none⟩ ∧ Bs w b o (wat rs i).l) := by
  obtain ⟨h1, a, c, h2, h3⟩ := h i hi
  exact ⟨a, c, by rw [h1, h2], h3⟩

/-- The first k powers, with their coefficients. -/
def valUp (cf : List Gf.F) (x : Gf.F) : Nat → Gf.F
  | 0 => 0
  | k + 1 => Gf.add (valUp cf x k) (Gf.mul (Gf.pow x k) (at_ cf k))

theorem valUp_ev {cf : List Gf.F} {x : Gf.F} {n : Nat} (h : cf.length = n) : valUp cf x n = Gf.ev cf x := by
  rw [Gf.ev_sum, h]
  have : ∀ k, valUp cf x k = Gf.sum (fun i => Gf.mul (Gf.pow x i) (cf.getD i 0)) k := by
    intro k
    induction k with
    | zero => rfl
    | succ k ih => simp only [valUp, Gf.sum]; rw [ih]; rfl
  exact this n

set_option maxRecDepth 100000 in
set_option maxHeartbeats 1000000 in
theorem value_any (g c n : Nat) (cf : List Gf.F) (z : Int) (w : World) (hz : 0 ≤ z ∧ z ≤ 255) (hn : n ≤ 8) (hc : cf.length = n) (hB : Bs w g 0 cf) :
    Calls Tryz.prog 139 #[.slice (some ⟨g, 0, none⟩) n c, .int .i64 z] w fun e w' => e = .returned (.int .u8 ((Gf.ev cf (byteOf z)).toNat : Int)) ∧ w' = w := by
  obtain ⟨hz0, hz1⟩ := hz
  have HC : Hid (cf.length = n) := hc
  clear hc
  go_enter Tryz.func139, Tryz.ntmps139
  go_wp2_with fail
  go_loop [5, 6] (fun s t => ∃ k : Nat, k ≤ n ∧ t = .int .i64 (k : Int) ∧ s = .int .u8 ((valUp cf (byteOf z) k).toNat : Int)) (fun _ t => n - (intOf t).toNat)
  case atStart => exact ⟨0, by omega, rfl, rfl⟩
  case round =>
    obtain ⟨k, hk, rfl, rfl⟩ := hrel
    by_cases hlt : k < n
    · have hck : w.cell? ⟨g, k, none⟩ = some (.int .u8 ((at_ cf k).toNat : Int)) := by have := hB k (by rw [HC.out]; exact hlt); rw [Nat.zero_add] at this; exact this
      have hx := Gf.addF (valUp cf (byteOf z) k) (Gf.mul (at_ cf k) (Gf.pow (byteOf z) k))
      have HS : Hid (Gf.add (valUp cf (byteOf z) k) (Gf.mul (at_ cf k) (Gf.pow (byteOf z) k)) = valUp cf (byteOf z) (k + 1)) := by
        show _ = _
        simp only [valUp]; rw [Gf.mul_comm (at_ cf k)]
      generalize hsx : valUp cf (byteOf z) k = sx at hx HS ⊢
      clear hsx
      go_wp2_with (first | (go_at_call 148; refine (power_z (byteOf z) _ k _ (byteOf_toNat ⟨hz0, hz1⟩) (by omega)).mono ?_; rintro e w' ⟨rfl, rfl⟩) | (go_at_call 150; refine (refMul_any (at_ cf k) (Gf.pow (byteOf z) k) _).mono ?_; rintro e w' ⟨rfl, rfl⟩))
      go_round
      case rel => exact ⟨k + 1, by omega, by go_num, by rw [HS.out]⟩
      case measure => simp [intOf]; omega
    · obtain rfl : k = n := by omega
      go_wp2_with fail
      go_ret
      exact ⟨ret_int (by rw [valUp_ev HC.out]), rfl⟩

def frontZ (n : Nat) : List Int := (List.range n).map fun (i : Nat) => (i : Int)
theorem frontZ_length (n : Nat) : (frontZ n).length = n := by simp [frontZ]
theorem frontZ_at (n i : Nat) (hi : i < n) : zat (frontZ n) i = (i : Int) := by simp [zat, frontZ, List.getD, hi]
theorem frontZ_succ (n : Nat) : frontZ (n + 1) = frontZ n ++ [(n : Int)] := by simp [frontZ, List.range_succ]

def encZ (l : List Int) : List Value := l.map (Value.int .i64)

theorem Tryz.int_parts : ∃ i, Tryz.prog.info? 3 = some i ∧ i.zero = some (.int .i64 0) ∧ i.size = 1 ∧ i.bytes = 8 := by
  obtain ⟨i, hi, h⟩ := Option.map_eq_some_iff.1 Tryz.info_int
  simp only [Prod.mk.injEq] at h
  exact ⟨i, hi, h.1, h.2.1, h.2.2⟩

theorem own_zs {w : World} {B g c n : Nat} {l : List Int} (h : w.ownsRow B 3 1 (.slice (some ⟨g, 0, none⟩) n c) n (encZ l)) (hl : l.length = n) : Zs w g 0 l := by
  intro i hi
  rw [Nat.zero_add, h.cellAt i (by omega)]
  simp [encZ, zat, List.getD, hi]

theorem own_bs {w : World} {B g c n : Nat} {l : List Gf.F} (h : w.ownsRow B 5 1 (.slice (some ⟨g, 0, none⟩) n c) n (encL l)) (hl : l.length = n) : Bs w g 0 l := by
  intro i hi
  rw [Nat.zero_add, h.cellAt i (by omega), encL_at hi]

set_option maxRecDepth 100000 in
set_option maxHeartbeats 1000000 in
theorem front_any (n : Nat) (w : World) (hn : 0 < n) (hn8 : n ≤ 8) :
    Calls Tryz.prog 124 #[.int .i64 (n : Int)] w fun e w' => ∃ g c, e = .returned (.slice (some ⟨g, 0, none⟩) n c) ∧ w'.ownsRow w.heap.size 3 1 (.slice (some ⟨g, 0, none⟩) n c) n (encZ (frontZ n)) ∧ Below w.heap.size w w' := by
  obtain ⟨iu, hiu, hu0, hu1, hu2⟩ := Tryz.int_parts
  go_enter Tryz.func124, Tryz.ntmps124
  go_wp2_with fail
  go_loopw [3, 4] (fun v t wr => ∃ k : Nat, k ≤ n ∧ t = .int .i64 (k : Int) ∧ wr.ownsRow w.heap.size 3 1 v k (encZ (frontZ k)) ∧ Below w.heap.size w wr) (fun _ t _ => n - (intOf t).toNat)
  case atStart => exact ⟨0, by omega, rfl, World.ownsRow_nil .., Below.refl _ _⟩
  case round =>
    obtain ⟨k, hk, rfl, hO, hb⟩ := hrel
    have hs := hb.size
    by_cases hlt : k < n
    · go_wp2_with (at_builtin; refine wpList_append_lies _ rfl _ _ _ rfl w.heap.size 3 iu (.int .i64 0) 1 8 Tryz.underlying75 hiu hu0 hu1 hu2 rfl (by omega) u3 k (encZ (frontZ k)) rfl (hO.alloc _) ⟨wr.heap.size, 0, none⟩ 1 1 [.int .i64 (k : Int)] rfl rfl ?c1 ?c2 (by omega) ?c3 (by omega) ?c4 (wr.heap.size + 1) ?c5 ?_)
      case c1 => exact cell_one_new _ _ _
      case c2 => intro u hu; simp at hu; subst hu; rfl
      case c3 => unfold maxLen; omega
      case c4 => simp; omega
      case c5 => simp
      intro ga ca w6 hown6 hgr6 hlie6 hlt6
      have hb6 : Below w.heap.size w w6 := (hb.alloc hs _).grown hgr6 (by simp; omega) (fun t ht => (own_lt hO ht).1)
      have e : encZ (frontZ k) ++ [.int .i64 (k : Int)] = encZ (frontZ (k + 1)) := by rw [frontZ_succ]; simp [encZ]
      rw [e] at hown6
      clear e hgr6 hlie6 hlt6
      go_wp2_with fail
      go_roundw
      case rel => exact ⟨k + 1, by omega, by go_num, hown6, hb6⟩
      case measure => simp [intOf]; omega
    · obtain rfl : k = n := by omega
      obtain ⟨a3, c3, rfl, hf3⟩ := own_form hO
      obtain ⟨g3, rfl, _⟩ := hf3 hn
      go_wp2_with fail
      go_ret
      exact ⟨g3, c3, rfl, hO, hb⟩

/-- Two lists that grow beside one another. -/
structure Two (w : World) (B : Nat) (vo : Value) (ko : Nat) (xs : List Gf.F) (vv : Value) (kv : Nat) (ys : List Gf.F) : Prop where
  out : w.ownsRow B 5 1 vo ko (encL xs)
  col : w.ownsRow B 5 1 vv kv (encL ys)
  far : ∀ g, vo.ownBlock = some g → vv.ownBlock ≠ some g

theorem Two.step {w w' : World} {B ko kv g c : Nat} {vo vv : Value} {xs ys : List Gf.F} {o : Obj} {x : Gf.F} (h : Two w B vo ko xs vv kv ys)
    (hown : w'.ownsRow B 5 1 (.slice (some ⟨g, 0, none⟩) (kv + 1) c) (kv + 1) (encL ys ++ [.int .u8 (x.toNat : Int)])) (hgr : (w.alloc o).grownBy w' vv.ownBlock) (hg : vv.ownBlock = some g ∨ g = w.heap.size + 1) :
    Two w' B vo ko xs (.slice (some ⟨g, 0, none⟩) (kv + 1) c) (kv + 1) (ys ++ [x]) := by
  refine ⟨own_of_block h.out (fun b hb => ?_), ?_, fun b hb q => ?_⟩
  · have hlt := (own_lt h.out hb).2
    rw [grown_block hgr (by simp; omega) (h.far b hb), Below.heap_alloc _ _ _ hlt]
  · have e : encL (ys ++ [x]) = encL ys ++ [.int .u8 (x.toNat : Int)] := by simp [encL]
    rw [e]; exact hown
  · have e : g = b := by simpa [Value.ownBlock] using q
    subst e
    rcases hg with e | e
    · exact h.far g hb e
    · have := (own_lt h.out hb).2; omega

/-- The b-th bytes of the first k rows. -/
def colOf (rs : List Raw) (b k : Nat) : List Gf.F := (List.range k).map fun t => at_ (wat rs t).l b
theorem colOf_succ (rs : List Raw) (b k : Nat) : colOf rs b (k + 1) = colOf rs b k ++ [at_ (wat rs k).l b] := by simp [colOf, List.range_succ]
theorem colOf_length (rs : List Raw) (b k : Nat) : (colOf rs b k).length = k := by simp [colOf]
theorem colOf_at (rs : List Raw) (b k i : Nat) (hi : i < k) : at_ (colOf rs b k) i = at_ (wat rs i).l b := by simp [at_, colOf, List.getD, hi]

/-- The symbol, as the document has it. -/
def symR (l : List Int) (rs : List Raw) (n : Nat) (p : Gf.F) (m : Nat) : List Gf.F := (List.range m).map fun b => Gf.lag (fun i => byteOf (zat l i)) (fun i => at_ (wat rs i).l b) n p
theorem symR_succ (l : List Int) (rs : List Raw) (n : Nat) (p : Gf.F) (m : Nat) : symR l rs n p (m + 1) = symR l rs n p m ++ [Gf.lag (fun i => byteOf (zat l i)) (fun i => at_ (wat rs i).l m) n p] := by simp [symR, List.range_succ]
theorem symR_length (l : List Int) (rs : List Raw) (n : Nat) (p : Gf.F) (m : Nat) : (symR l rs n p m).length = m := by simp [symR]
theorem symR_at (l : List Int) (rs : List Raw) (n : Nat) (p : Gf.F) (m b : Nat) (hb : b < m) : at_ (symR l rs n p m) b = Gf.lag (fun i => byteOf (zat l i)) (fun i => at_ (wat rs i).l b) n p := by simp [at_, symR, List.getD, hb]

set_option maxRecDepth 100000 in
set_option maxHeartbeats 2000000 in
theorem at_any (zb zo zc lb lo lc n m : Nat) (l : List Int) (rs : List Raw) (z : Int) (w : World) (hl : l.length = n) (hr : rs.length = n) (hn : 0 < n) (hn8 : n ≤ 8) (hp : placesB l n = true) (hz : 0 ≤ z ∧ z ≤ 255) (hlen : ∀ i, i < n → (wat rs i).l.length = m) (hm : m ≤ 140737488355000) (hZ : Zs w zb zo l) (hW : Ws w lb lo rs) :
    Calls Tryz.prog 123 #[.slice (some ⟨zb, zo, none⟩) n zc, .slice (some ⟨lb, lo, none⟩) n lc, .int .i64 z] w fun e w' =>
      ∃ v, e = .returned v ∧ w'.ownsRow w.heap.size 5 1 v m (encL (symR l rs n (byteOf z) m)) ∧ Below w.heap.size w w' := by
  have hzl := hZ.lt (by omega)
  obtain ⟨iu, hiu, hu0, hu1, hu2⟩ := Tryz.u8_parts
  have HL : Hid (l.length = n) := hl
  have HR : Hid (rs.length = n) := hr
  have HLEN : Hid (∀ i, i < n → (wat rs i).l.length = m) := hlen
  clear hl hr hlen
  go_enter Tryz.func123, Tryz.ntmps123
  go_wp2_with fail
  go_loopw [7, 8] (fun v t wr => ∃ b : Nat, b ≤ m ∧ t = .int .i64 (b : Int) ∧ wr.ownsRow w.heap.size 5 1 v b (encL (symR l rs n (byteOf z) b)) ∧ Below w.heap.size w wr) (fun _ t _ => m - (intOf t).toNat)
  case atStart => exact ⟨0, by omega, rfl, World.ownsRow_nil .., Below.refl _ _⟩
  case round =>
    obtain ⟨b, hb, rfl, hO, hbr⟩ := hrel
    have hWr := hW.below hbr
    obtain ⟨a0, c0, hc0', _⟩ := hWr.cellAt 0 (by rw [HR.out]; exact hn)
    rw [HLEN.out 0 hn] at hc0'
    have hc0 : wr.cell? ⟨lb, lo, none⟩ = some (.slice a0 m c0) := hc0'
    clear hc0'
    have hi0 : (0 : Int) < (n : Int) := by omega
    obtain ⟨wA, rfl⟩ : ∃ x, x = wr := ⟨wr, rfl⟩
    by_cases hlt : b < m
    · go_wp2_with fail
      go_loopw [9, 10] (fun v t wr => ∃ i : Nat, i ≤ n ∧ t = .int .i64 (i : Int) ∧ Two wr w.heap.size u7 b (symR l rs n (byteOf z) b) v i (colOf rs b i) ∧ Below w.heap.size w wr) (fun _ t _ => n - (intOf t).toNat)
      case atStart => exact ⟨0, by omega, rfl, ⟨hO, World.ownsRow_nil .., fun g _ q => by cases q⟩, hbr⟩
      case round =>
        obtain ⟨i, hi, rfl, hT, hb3⟩ := hrel
        have hs3 := hb3.size
        by_cases hlt2 : i < n
        · obtain ⟨a1, c1, hc1, hf1⟩ := (hW.below hb3).cellAt i (by rw [HR.out]; exact hlt2)
          rw [HLEN.out i hlt2] at hc1 hf1
          obtain ⟨b1, o1, rfl, hB1⟩ := hf1 (by omega)
          have hc2 : wr.cell? ⟨b1, o1 + b, none⟩ = some (.int .u8 ((at_ (wat rs i).l b).toNat : Int)) := hB1 b (by rw [HLEN.out i hlt2]; exact hlt)
          have hin : (i : Int) < (n : Int) := by omega
          have hbm : (b : Int) < (m : Int) := by omega
          clear hB1 hf1
          go_wp2_with (at_builtin; refine wpList_append_lies _ rfl _ _ _ rfl w.heap.size 5 iu (.int .u8 0) 1 1 Tryz.underlying33 hiu hu0 hu1 hu2 rfl (by omega) u9 i (encL (colOf rs b i)) rfl (hT.col.alloc _) ⟨wr.heap.size, 0, none⟩ 1 1 [.int .u8 ((at_ (wat rs i).l b).toNat : Int)] rfl rfl ?c1 ?c2 (by omega) ?c3 (by omega) ?c4 (wr.heap.size + 1) ?c5 ?_)
          case c1 => exact cell_one_new _ _ _
          case c2 => intro u hu; simp at hu; subst hu; rfl
          case c3 => unfold maxLen; omega
          case c4 => simp; omega
          case c5 => simp
          intro ga ca w6 hown6 hgr6 hlie6 hlt6
          have hT6 := hT.step hown6 hgr6 hlie6
          rw [← colOf_succ] at hT6
          have hb6 : Below w.heap.size w w6 := (hb3.alloc hs3 _).grown hgr6 (by simp; omega) (fun t ht => (own_lt hT.col ht).1)
          clear hown6 hgr6 hlie6 hlt6
          go_wp2_with fail
          go_roundw
          case rel => exact ⟨i + 1, by omega, by go_num, hT6, hb6⟩
          case measure => simp [intOf]; omega
        · obtain rfl : i = n := by omega
          obtain ⟨a9, c9, rfl, hf9⟩ := own_form hT.col
          obtain ⟨g9, rfl, _⟩ := hf9 hn
          have hcol := own_bs hT.col (colOf_length ..)
          have hout := hT.out
          obtain ⟨wB, rfl⟩ : ∃ x, x = wr := ⟨wr, rfl⟩
          go_wp2_with fail
          refine (poly_any zb zo zc g9 0 c9 i l (colOf rs b i) _ HL.out (colOf_length ..) hn hn8 hp (hZ.below hb3 hzl) hcol).mono ?_
          rintro e w5 ⟨gp, cp, cf, rfl, hop, hcf, hev, hb5⟩
          have hBp := own_bs hop hcf
          have HEV : Hid (Gf.ev cf (byteOf z) = Gf.lag (fun i => byteOf (zat l i)) (fun t => at_ (wat rs t).l b) i (byteOf z)) := (hev _).trans (Gf.lag_congr (fun _ _ => rfl) (fun t ht => colOf_at rs b i t ht) _)
          have hO5 := own_of_block hout (fun g hg => hb5.block g (own_lt hout hg).2)
          have hb15 : Below w.heap.size w w5 := hb3.trans (hb5.mono hs3)
          have hs5 := hb15.size
          have HCF : Hid (cf.length = i) := hcf
          clear hev hcf hop hcol hout hT
          go_wp2_with fail
          refine (value_any gp cp i cf z _ hz hn8 HCF.out hBp).mono ?_
          rintro e w5' ⟨rfl, rfl⟩
          rw [HEV.out]
          generalize hxx : Gf.lag (fun i => byteOf (zat l i)) (fun t => at_ (wat rs t).l b) i (byteOf z) = xx
          have HXX : Hid (Gf.lag (fun i => byteOf (zat l i)) (fun t => at_ (wat rs t).l b) i (byteOf z) = xx) := hxx
          clear hxx HEV
          go_wp2_with (at_builtin; refine wpList_append_lies _ rfl _ _ _ rfl w.heap.size 5 iu (.int .u8 0) 1 1 Tryz.underlying33 hiu hu0 hu1 hu2 rfl (by omega) u7 b (encL (symR l rs i (byteOf z) b)) rfl (hO5.alloc _) ⟨w5'.heap.size, 0, none⟩ 1 1 [.int .u8 (xx.toNat : Int)] rfl rfl ?c1 ?c2 (by omega) ?c3 (by omega) ?c4 (w5'.heap.size + 1) ?c5 ?_)
          case c1 => exact cell_one_new _ _ _
          case c2 => intro u hu; simp at hu; subst hu; rfl
          case c3 => unfold maxLen; omega
          case c4 => simp; omega
          case c5 => simp
          intro ga ca w6 hown6 hgr6 hlie6 hlt6
          have e : encL (symR l rs i (byteOf z) b) ++ [.int .u8 (xx.toNat : Int)] = encL (symR l rs i (byteOf z) (b + 1)) := by rw [symR_succ, HXX.out]; simp [encL]
          rw [e] at hown6
          have hb6 : Below w.heap.size w w6 := (hb15.alloc hs5 _).grown hgr6 (by simp; omega) (fun t ht => (own_lt hO5 ht).1)
          clear e hgr6 hlie6 hlt6
          go_wp2_with fail
          go_roundw
          case rel => exact ⟨b + 1, by omega, by go_num, hown6, hb6⟩
          case measure => simp [intOf]; omega
    · obtain rfl : b = m := by omega
      go_wp2_with fail
      go_ret
      exact ⟨u7, rfl, hO, hbr⟩

theorem Ws.lt {w : World} {b o : Nat} {rs : List Raw} (h : Ws w b o rs) (hl : 0 < rs.length) : b < w.heap.size := lt_of_cell (h 0 hl).1

theorem frontZ_places (n : Nat) (hn : n ≤ 8) : placesB (frontZ n) n = true := by
  rw [placesB_iff]
  intro i hi
  rw [frontZ_at n i hi]
  refine ⟨plcB_yes ⟨by omega, by omega⟩, ?_⟩
  rw [← Bool.not_eq_true, hasB_iff]
  rintro ⟨j, hj, e⟩
  rw [frontZ_at n j (by omega)] at e
  omega

end Go.Proofs.YtjabhnhejbhgjaaGreatDoor

/- murmurref.Restore. -/
namespace Go.Proofs.YtjabhnhejbhgjaaGreatDoor
open Go.RowKit

/-- The symbols that came back, k of them. -/
structure OutR (w : World) (B m : Nat) (l : List Int) (rs : List Raw) (n : Nat) (v : Value) (k : Nat) (vs : List Value) : Prop where
  len : vs.length = k
  own : w.ownsRow B 33 1 v k vs
  each : ∀ t, t < k → ∃ u, vs[t]? = some u ∧ w.ownsRow B 5 1 u m (encL (symR l rs n (BitVec.ofNat 8 t) m)) ∧ ∀ g, u.ownBlock = some g → v.ownBlock ≠ some g

theorem OutR.nil (w : World) (B m : Nat) (l : List Int) (rs : List Raw) (n : Nat) : OutR w B m l rs n (.slice none 0 0) 0 [] := ⟨rfl, World.ownsRow_nil .., fun t ht => by omega⟩

theorem OutR.kept {w w' : World} {B m n k : Nat} {l : List Int} {rs : List Raw} {v : Value} {vs : List Value} (h : OutR w B m l rs n v k vs) (hk : ∀ j, j < w.heap.size → w'.heap[j]? = w.heap[j]?) : OutR w' B m l rs n v k vs :=
  ⟨h.len, own_of_block h.own (fun g hg => hk g (own_lt h.own hg).2), fun t ht => by
    obtain ⟨u, h1, h2, h3⟩ := h.each t ht
    exact ⟨u, h1, own_of_block h2 (fun g hg => hk g (own_lt h2 hg).2), h3⟩⟩

theorem OutR.step {w w' : World} {B m n k g c : Nat} {l : List Int} {rs : List Raw} {v u : Value} {vs : List Value} {o : Obj} (h : OutR w B m l rs n v k vs) (hu : w.ownsRow B 5 1 u m (encL (symR l rs n (BitVec.ofNat 8 k) m))) (hfar : ∀ g, u.ownBlock = some g → v.ownBlock ≠ some g)
    (hown : w'.ownsRow B 33 1 (.slice (some ⟨g, 0, none⟩) (k + 1) c) (k + 1) (vs ++ [u])) (hgr : (w.alloc o).grownBy w' v.ownBlock) (hg : v.ownBlock = some g ∨ g = w.heap.size + 1) :
    OutR w' B m l rs n (.slice (some ⟨g, 0, none⟩) (k + 1) c) (k + 1) (vs ++ [u]) := by
  have keep : ∀ j, j < w.heap.size → v.ownBlock ≠ some j → w'.heap[j]? = w.heap[j]? := fun j hj hne => by
    rw [grown_block hgr (by simp; omega) hne, Below.heap_alloc _ _ _ hj]
  have far : ∀ (x : Value) (xs : List Value), w.ownsRow B 5 1 x m xs → (∀ g, x.ownBlock = some g → v.ownBlock ≠ some g) → w'.ownsRow B 5 1 x m xs ∧ ∀ b, x.ownBlock = some b → (Value.slice (some ⟨g, 0, none⟩) (k + 1) c).ownBlock ≠ some b := by
    intro x xs hx hf
    refine ⟨own_of_block hx (fun b hb => keep b (own_lt hx hb).2 (hf b hb)), fun b hb q => ?_⟩
    have e : g = b := by simpa [Value.ownBlock] using q
    subst e
    rcases hg with e | e
    · exact hf g hb e
    · have := (own_lt hx hb).2; omega
  refine ⟨by simp [h.len], hown, fun t ht => ?_⟩
  by_cases e : t = k
  · subst e
    exact ⟨u, by rw [← h.len]; simp, (far u _ hu hfar).1, (far u _ hu hfar).2⟩
  · obtain ⟨x, h1, h2, h3⟩ := h.each t (by omega)
    exact ⟨x, by rw [List.getElem?_append_left (by rw [h.len]; omega)]; exact h1, (far x _ h2 h3).1, (far x _ h2 h3).2⟩

theorem own_base {w : World} {B B' n : Nat} {e : TypeId} {v : Value} {xs : List Value} (h : w.ownsRow B e 1 v n xs) (hB : B' ≤ B) : w.ownsRow B' e 1 v n xs := by
  obtain ⟨h1, h2⟩ := h
  refine ⟨h1, ?_⟩
  rcases h2 with h2 | ⟨g', cap, cur, h3, h4, h5⟩
  · exact .inl h2
  · exact .inr ⟨g', cap, cur, h3, Nat.le_trans hB h4, h5⟩

end Go.Proofs.YtjabhnhejbhgjaaGreatDoor
