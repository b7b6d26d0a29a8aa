/- Plain mathematics: equations solved one unknown after the other. -/
import Derived.Test.YtjabhnhejbhgjaaGreatDoorPoly
import Derived.Test.YtjabhnhejbhgjaaGreatDoorRefMath
namespace Go.Proofs.YtjabhnhejbhgjaaGreatDoor.Gf

/-- A matrix: rows, columns 0 .. n (the last one: the right sides). -/
abbrev Mx := Nat → Nat → F

/-- The left side of a row at c. -/
def dot (r c : Nat → F) (n : Nat) : F := sum (fun j => mul (r j) (c j)) n

theorem sum_xor (g h : Nat → F) : ∀ n, sum (fun j => g j ^^^ h j) n = sum g n ^^^ sum h n := by
  intro n
  induction n with
  | zero => simp only [sum]; decide
  | succ n ih => simp only [sum]; rw [ih, xor4]

theorem sum_smul (a : F) (g : Nat → F) : ∀ n, sum (fun j => mul a (g j)) n = mul a (sum g n) := by
  intro n
  induction n with
  | zero => exact (mul_zero a).symm
  | succ n ih => simp only [sum]; rw [ih, mul_xor]

theorem dot_add (r s c : Nat → F) (n : Nat) : dot (fun j => r j ^^^ s j) c n = dot r c n ^^^ dot s c n := by
  unfold dot
  rw [← sum_xor]
  exact sum_congr n (fun j _ => xor_mul _ _ _)

theorem dot_smul (a : F) (r c : Nat → F) (n : Nat) : dot (fun j => mul a (r j)) c n = mul a (dot r c n) := by
  unfold dot
  rw [← sum_smul]
  exact sum_congr n (fun j _ => mul_assoc _ _ _)

theorem dot_congr {r s c d : Nat → F} {n : Nat} (h : ∀ j, j < n → r j = s j) (h2 : ∀ j, j < n → c j = d j) : dot r c n = dot s d n :=
  sum_congr n (fun j hj => by show mul (r j) (c j) = mul (s j) (d j); rw [h j hj, h2 j hj])

/-- c solves the equations; nothing but 0 solves those with right sides 0. -/
structure Solves (m : Mx) (n : Nat) (c : Nat → F) : Prop where
  sol : ∀ i, i < n → dot (m i) c n = m i n
  only : ∀ v : Nat → F, (∀ i, i < n → dot (m i) v n = 0) → ∀ j, j < n → v j = 0

/-- The first k columns are those of the unit matrix. -/
def Unit (m : Mx) (n k : Nat) : Prop := ∀ j, j < k → ∀ i, i < n → m i j = if i = j then 1 else 0

theorem Solves.swap {m : Mx} {n : Nat} {c : Nat → F} (h : Solves m n c) {p q : Nat} (hp : p < n) (hq : q < n) {m' : Mx}
    (e : ∀ i, i < n → ∀ j, j ≤ n → m' i j = m (if i = p then q else if i = q then p else i) j) : Solves m' n c := by
  have hlt : ∀ i, i < n → (if i = p then q else if i = q then p else i) < n := fun i hi => by split; exact hq; split; exact hp; exact hi
  refine ⟨fun i hi => ?_, fun v hv => ?_⟩
  · rw [dot_congr (s := m (if i = p then q else if i = q then p else i)) (d := c) (fun j hj => e i hi j (by omega)) (fun _ _ => rfl), h.sol _ (hlt i hi), e i hi n (Nat.le_refl _)]
  · refine h.only v (fun i hi => ?_)
    have := hv (if i = p then q else if i = q then p else i) (hlt i hi)
    rw [dot_congr (s := m i) (d := v) (fun j hj => ?_) (fun _ _ => rfl)] at this
    · exact this
    · rw [e _ (hlt i hi) j (by omega)]
      congr 1
      by_cases h1 : i = p
      · by_cases h2 : q = p
        · simp [h1, h2]
        · simp [h1, h2]
      · by_cases h2 : i = q
        · simp [h2]
        · simp [h1, h2]

/-- Each row becomes itself times a, plus b times another row of the elder matrix. -/
theorem Solves.scale {m : Mx} {n : Nat} {c : Nat → F} (h : Solves m n c) {k : Nat} (hk : k < n) {a : F} (ha : a ≠ 0) {m' : Mx}
    (e : ∀ i, i < n → ∀ j, j ≤ n → m' i j = if i = k then mul a (m k j) else m i j) : Solves m' n c := by
  refine ⟨fun i hi => ?_, fun v hv => ?_⟩
  · by_cases q : i = k
    · rw [dot_congr (s := fun j => mul a (m k j)) (d := c) (fun j hj => by rw [e i hi j (by omega), if_pos q]) (fun _ _ => rfl), dot_smul, h.sol k hk, e i hi n (Nat.le_refl _), if_pos q]
    · rw [dot_congr (s := m i) (d := c) (fun j hj => by rw [e i hi j (by omega), if_neg q]) (fun _ _ => rfl), h.sol i hi, e i hi n (Nat.le_refl _), if_neg q]
  · refine h.only v (fun i hi => ?_)
    have := hv i hi
    by_cases q : i = k
    · rw [dot_congr (s := fun j => mul a (m k j)) (d := v) (fun j hj => by rw [e i hi j (by omega), if_pos q]) (fun _ _ => rfl), dot_smul] at this
      rcases mul_eq_zero _ _ this with h1 | h1
      · exact absurd h1 ha
      · rw [q]; exact h1
    · rw [dot_congr (s := m i) (d := v) (fun j hj => by rw [e i hi j (by omega), if_neg q]) (fun _ _ => rfl)] at this
      exact this

theorem Solves.clear {m : Mx} {n : Nat} {c : Nat → F} (h : Solves m n c) {k : Nat} (hk : k < n) {m' : Mx}
    (e : ∀ i, i < n → ∀ j, j ≤ n → m' i j = if i = k then m k j else m i j ^^^ mul (m i k) (m k j)) : Solves m' n c := by
  refine ⟨fun i hi => ?_, fun v hv => ?_⟩
  · by_cases q : i = k
    · rw [dot_congr (s := m k) (d := c) (fun j hj => by rw [e i hi j (by omega), if_pos q]) (fun _ _ => rfl), h.sol k hk, e i hi n (Nat.le_refl _), if_pos q]
    · rw [dot_congr (s := fun j => m i j ^^^ mul (m i k) (m k j)) (d := c) (fun j hj => by rw [e i hi j (by omega), if_neg q]) (fun _ _ => rfl), dot_add, dot_smul, h.sol i hi, h.sol k hk, e i hi n (Nat.le_refl _), if_neg q]
  · have hkv : dot (m k) v n = 0 := by
      have := hv k hk
      rw [dot_congr (s := m k) (d := v) (fun j hj => by rw [e k hk j (by omega), if_pos rfl]) (fun _ _ => rfl)] at this
      exact this
    refine h.only v (fun i hi => ?_)
    by_cases q : i = k
    · rw [q]; exact hkv
    · have := hv i hi
      rw [dot_congr (s := fun j => m i j ^^^ mul (m i k) (m k j)) (d := v) (fun j hj => by rw [e i hi j (by omega), if_neg q]) (fun _ _ => rfl), dot_add, dot_smul, hkv, mul_zero] at this
      exact (BitVec.xor_zero).symm.trans this

/-- There is a row to go on with. -/
theorem Solves.pivot {m : Mx} {n : Nat} {c : Nat → F} (h : Solves m n c) {k : Nat} (hk : k < n) (hU : Unit m n k) : ∃ i, k ≤ i ∧ i < n ∧ m i k ≠ 0 := by
  apply Classical.byContradiction
  intro hno
  have hz : ∀ i, k ≤ i → i < n → m i k = 0 := fun i h1 h2 => Classical.byContradiction (fun h3 => hno ⟨i, h1, h2, h3⟩)
  have hv := h.only (fun j => if j < k then m j k else if j = k then 1 else 0) (fun i hi => ?_) k hk
  · simp at hv
  · have hsum : ∀ t, t ≤ k → sum (fun j => mul (m i j) (if j < k then m j k else if j = k then 1 else 0)) t = if i < t then m i k else 0 := by
      intro t
      induction t with
      | zero => intro _; rfl
      | succ t ih =>
        intro ht
        simp only [sum]
        rw [ih (by omega), if_pos (show t < k by omega), hU t (by omega) i hi]
        by_cases e : i = t
        · subst e; rw [if_pos rfl, if_neg (by omega), if_pos (by omega), one_mul]; exact BitVec.zero_xor
        · rw [if_neg e, zero_mul]
          by_cases e2 : i < t
          · rw [if_pos e2, if_pos (by omega)]; exact BitVec.xor_zero
          · rw [if_neg e2, if_neg (by omega)]; exact BitVec.xor_zero
    have hrest : ∀ t, k < t → sum (fun j => mul (m i j) (if j < k then m j k else if j = k then 1 else 0)) t = 0 := by
      intro t
      induction t with
      | zero => intro h; omega
      | succ t ih =>
        intro ht
        simp only [sum]
        by_cases e : t = k
        · subst e
          rw [hsum t (Nat.le_refl _), if_neg (Nat.lt_irrefl t), if_pos rfl, mul_one]
          by_cases e2 : i < t
          · rw [if_pos e2]; exact BitVec.xor_self
          · rw [if_neg e2, hz i (by omega) hi]; decide
        · rw [ih (by omega), if_neg (by omega), if_neg e, mul_zero]; decide
    exact hrest n hk

/-- At the end the right sides are the solution. -/
theorem Solves.done {m : Mx} {n : Nat} {c : Nat → F} (h : Solves m n c) (hU : Unit m n n) (i : Nat) (hi : i < n) : m i n = c i := by
  rw [← h.sol i hi]
  unfold dot
  rw [sum_one (m := i) n hi]
  · show mul (m i i) (c i) = c i
    rw [hU i hi i hi, if_pos rfl, one_mul]
  · intro j hj hne
    show mul (m i j) (c j) = 0
    rw [hU j hj i hi, if_neg (Ne.symm hne), zero_mul]

/-- The coefficients' sum of powers is the polynomial's value. -/
theorem sum_shift (g : Nat → F) : ∀ n, sum g (n + 1) = g 0 ^^^ sum (fun j => g (j + 1)) n := by
  intro n
  induction n with
  | zero => simp only [sum]; rw [BitVec.xor_comm]
  | succ n ih => rw [show sum g (n + 1 + 1) = sum g (n + 1) ^^^ g (n + 1) from rfl, ih]; simp only [sum]; rw [BitVec.xor_assoc]

theorem ev_sum (x : F) : ∀ c : List F, ev c x = sum (fun i => mul (pow x i) (c.getD i 0)) c.length := by
  intro c
  induction c with
  | nil => rfl
  | cons a c ih =>
    rw [List.length_cons, sum_shift]
    show a ^^^ mul x (ev c x) = _
    rw [ih, ← sum_smul]
    congr 1
    · show a = mul 1 a; rw [one_mul]
    · refine sum_congr _ (fun i _ => ?_)
      show mul x (mul (pow x i) (c.getD i 0)) = mul (mul (pow x i) x) (c.getD i 0)
      rw [← mul_assoc, mul_comm x]

theorem ev_zero_coeff : ∀ (c : List F), c.length ≤ 8 → (∀ p, ev c p = 0) → ∀ i, c.getD i 0 = 0 := by
  intro c
  induction c with
  | nil => intro _ _ i; rfl
  | cons a c ih =>
    intro hl h i
    have ha : a = 0 := by
      have := h 0
      simp only [ev] at this
      rw [zero_mul] at this
      exact (BitVec.xor_zero).symm.trans this
    have hc : ∀ p, p ≠ 0 → ev c p = 0 := by
      intro p hp
      have := h p
      simp only [ev] at this
      rw [ha] at this
      have h2 : mul p (ev c p) = 0 := (BitVec.zero_xor).symm.trans this
      rcases mul_eq_zero _ _ h2 with h3 | h3
      · exact absurd h3 hp
      · exact h3
    have hall : ∀ p, ev c p = 0 := by
      refine roots ((List.range c.length).map fun t => BitVec.ofNat 8 (t + 1)) c (by simp) ?_ ?_
      · rw [List.nodup_iff_pairwise_ne, List.pairwise_map]
        refine List.Pairwise.imp_of_mem ?_ List.nodup_range
        intro x y hx hy hne e
        have h1 := List.mem_range.1 hx
        have h2 := List.mem_range.1 hy
        have h3 := congrArg BitVec.toNat e
        simp only [List.length_cons] at hl
        rw [BitVec.toNat_ofNat, BitVec.toNat_ofNat, Nat.mod_eq_of_lt (by omega), Nat.mod_eq_of_lt (by omega)] at h3
        omega
      · intro x hx
        obtain ⟨t, ht, rfl⟩ := List.mem_map.1 hx
        have h1 := List.mem_range.1 ht
        apply hc
        intro e
        have h3 := congrArg BitVec.toNat e
        simp only [List.length_cons] at hl
        rw [BitVec.toNat_ofNat, Nat.mod_eq_of_lt (by omega)] at h3
        simp at h3
    cases i with
    | zero => exact ha
    | succ i => exact ih (by simp only [List.length_cons] at hl; omega) hall i

/-- The equations of the polynomial through the points. -/
theorem solves_start {X Y : Nat → F} {n : Nat} (hn : n ≤ 8) (hX : Apart X n) {m : Mx} (e : ∀ i, i < n → ∀ j, j ≤ n → m i j = if j < n then pow (X i) j else Y i) :
    ∃ c : List F, c.length = n ∧ (∀ p, ev c p = lag X Y n p) ∧ Solves m n (fun j => c.getD j 0) := by
  obtain ⟨c, hc, ec⟩ := lag_deg X Y n
  refine ⟨c, hc, fun p => (ec p).symm, ?_, ?_⟩
  · intro i hi
    rw [dot_congr (s := fun j => pow (X i) j) (d := fun j => c.getD j 0) (fun j hj => by rw [e i hi j (by omega), if_pos hj]) (fun _ _ => rfl), e i hi n (Nat.le_refl _), if_neg (by omega)]
    unfold dot
    rw [← hc, ← ev_sum, ← ec, lag_at hX (by omega)]
  · intro v hv j hj
    have hlen : ((List.range n).map v).length = n := by simp
    have hget : ∀ t, t < n → ((List.range n).map v).getD t 0 = v t := fun t ht => by simp [List.getD, ht]
    have hz : ∀ p, ev ((List.range n).map v) p = 0 := by
      refine roots ((List.range n).map X) _ (by simp) (nodup_of_apart hX) (fun x hx => ?_)
      obtain ⟨i, hi, rfl⟩ := List.mem_map.1 hx
      have hi' := List.mem_range.1 hi
      rw [ev_sum, hlen]
      have := hv i hi'
      rw [dot_congr (s := fun j => pow (X i) j) (d := v) (fun j hj => by rw [e i hi' j (by omega), if_pos hj]) (fun _ _ => rfl)] at this
      exact (sum_congr n (fun t ht => by rw [hget t ht])).trans this
    rw [← hget j hj]
    exact ev_zero_coeff _ (by rw [hlen]; exact hn) hz j

end Go.Proofs.YtjabhnhejbhgjaaGreatDoor.Gf
