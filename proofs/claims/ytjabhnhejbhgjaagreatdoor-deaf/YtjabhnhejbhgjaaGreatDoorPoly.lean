/- Plain mathematics: polynomials over the numbers of a byte; the polynomial through given points. -/
import Derived.Test.YtjabhnhejbhgjaaGreatDoorGf
namespace Go.Proofs.YtjabhnhejbhgjaaGreatDoor.Gf

/-- What a polynomial with these coefficients has at p. -/
def ev : List F → F → F
  | [], _ => 0
  | a :: c, p => a ^^^ mul p (ev c p)

/-- f is a polynomial with k coefficients. -/
def Deg (k : Nat) (f : F → F) : Prop := ∃ c : List F, c.length = k ∧ ∀ p, f p = ev c p

theorem xor4 (a b c d : F) : (a ^^^ b) ^^^ (c ^^^ d) = (a ^^^ c) ^^^ (b ^^^ d) := by
  rw [BitVec.xor_assoc, BitVec.xor_assoc]; congr 1
  rw [← BitVec.xor_assoc, ← BitVec.xor_assoc, BitVec.xor_comm b c]

theorem xor_eq_zero {a b : F} (h : a ^^^ b = 0) : a = b := by
  have : (a ^^^ b) ^^^ b = 0 ^^^ b := by rw [h]
  rw [BitVec.xor_assoc, BitVec.xor_self, BitVec.xor_zero] at this; exact this.trans (BitVec.zero_xor)

theorem ev_add (c : List F) : ∀ (d : List F) (p : F), c.length = d.length → ev (List.zipWith (· ^^^ ·) c d) p = ev c p ^^^ ev d p := by
  induction c with
  | nil => intro d p h; cases d with
    | nil => simp only [List.zipWith_nil_left, ev]; decide
    | cons b d => simp at h
  | cons a c ih => intro d p h; cases d with
    | nil => simp at h
    | cons b d =>
      simp only [List.zipWith_cons_cons, ev]
      rw [ih d p (by simpa using h), mul_xor, xor4]

theorem ev_smul (a : F) (c : List F) (p : F) : ev (c.map (mul a)) p = mul a (ev c p) := by
  induction c with
  | nil => exact (mul_zero a).symm
  | cons b c ih => simp only [List.map_cons, ev]; rw [ih, mul_xor, ← mul_assoc, mul_comm p a, mul_assoc]

theorem ev_snoc (c : List F) (p : F) : ev (c ++ [0]) p = ev c p := by
  induction c with
  | nil => simp only [List.nil_append, ev]; rw [mul_zero]; rfl
  | cons b c ih => simp only [List.cons_append, ev]; rw [ih]

theorem Deg.add {k : Nat} {f g : F → F} (hf : Deg k f) (hg : Deg k g) : Deg k (fun p => f p ^^^ g p) := by
  obtain ⟨c, hc, ec⟩ := hf
  obtain ⟨d, hd, ed⟩ := hg
  exact ⟨List.zipWith (· ^^^ ·) c d, by simp [hc, hd], fun p => by show f p ^^^ g p = _; rw [ec, ed, ev_add c d p (hc.trans hd.symm)]⟩

theorem Deg.smul {k : Nat} {f : F → F} (a : F) (hf : Deg k f) : Deg k (fun p => mul a (f p)) := by
  obtain ⟨c, hc, ec⟩ := hf
  exact ⟨c.map (mul a), by simp [hc], fun p => by show mul a (f p) = _; rw [ec, ev_smul]⟩

theorem Deg.up {k : Nat} {f : F → F} (hf : Deg k f) : Deg (k + 1) f := by
  obtain ⟨c, hc, ec⟩ := hf
  exact ⟨c ++ [0], by simp [hc], fun p => by rw [ec, ev_snoc]⟩

theorem Deg.lin {k : Nat} {f : F → F} (a : F) (hf : Deg k f) : Deg (k + 1) (fun p => mul (f p) (p ^^^ a)) := by
  obtain ⟨c, hc, ec⟩ := hf
  have h1 : Deg (k + 1) (fun p => mul p (f p)) := ⟨0 :: c, by simp [hc], fun p => by simp only [ev]; rw [ec]; simp⟩
  have h2 := (Deg.smul a ⟨c, hc, ec⟩).up
  obtain ⟨d, hd, ed⟩ := h1.add h2
  exact ⟨d, hd, fun p => by show mul (f p) (p ^^^ a) = _; rw [← ed]; show _ = mul p (f p) ^^^ mul a (f p); rw [mul_xor, mul_comm (f p) p, mul_comm (f p) a]⟩

theorem Deg.one : Deg 1 (fun _ => 1) := ⟨[1], rfl, fun p => by simp only [ev]; rw [mul_zero]; rfl⟩

theorem Deg.zero (k : Nat) : Deg k (fun _ => 0) := by
  induction k with
  | zero => exact ⟨[], rfl, fun _ => rfl⟩
  | succ k ih => exact ih.up

theorem xor_id (A B C D a : F) : ((C ^^^ D) ^^^ (A ^^^ B)) ^^^ (a ^^^ D) = a ^^^ ((A ^^^ B) ^^^ C) := by
  apply BitVec.eq_of_getLsbD_eq
  intro i _
  simp only [BitVec.getLsbD_xor]
  cases A.getLsbD i <;> cases B.getLsbD i <;> cases C.getLsbD i <;> cases D.getLsbD i <;> cases a.getLsbD i <;> rfl

theorem divide (r : F) : ∀ c : List F, ∀ a : F, ∃ q : List F, q.length = c.length ∧ ∀ p, ev (a :: c) p = mul (p ^^^ r) (ev q p) ^^^ ev (a :: c) r := by
  intro c
  induction c with
  | nil => intro a; exact ⟨[], rfl, fun p => by simp only [ev]; rw [mul_zero, mul_zero, mul_zero]; simp⟩
  | cons b c ih =>
    intro a
    obtain ⟨q, hq, eq⟩ := ih b
    refine ⟨ev (b :: c) r :: q, by simp [hq], fun p => ?_⟩
    have e1 : ev (a :: b :: c) p = a ^^^ mul p (ev (b :: c) p) := rfl
    have e2 : ev (a :: b :: c) r = a ^^^ mul r (ev (b :: c) r) := rfl
    have e3 : ev (ev (b :: c) r :: q) p = ev (b :: c) r ^^^ mul p (ev q p) := rfl
    rw [e1, e2, e3, eq p]
    generalize ev (b :: c) r = s
    generalize ev q p = t
    have e4 : mul p (mul (p ^^^ r) t ^^^ s) = (mul p (mul p t) ^^^ mul p (mul r t)) ^^^ mul p s := by rw [mul_xor, xor_mul, mul_xor]
    have e5 : mul (p ^^^ r) (s ^^^ mul p t) = (mul p s ^^^ mul r s) ^^^ (mul p (mul p t) ^^^ mul p (mul r t)) := by
      rw [mul_xor, xor_mul, xor_mul, ← mul_assoc r p t, mul_comm r p, mul_assoc p r t]
    rw [e4, e5]
    exact (xor_id _ _ _ _ _).symm

/-- A polynomial of k coefficients that is 0 at k places is 0. -/
theorem roots : ∀ (xs : List F) (c : List F), c.length = xs.length → xs.Nodup → (∀ x ∈ xs, ev c x = 0) → ∀ p, ev c p = 0 := by
  intro xs
  induction xs with
  | nil => intro c hc _ _ p; cases c with
    | nil => rfl
    | cons a c => simp at hc
  | cons r xs ih =>
    intro c hc hn hz p
    cases c with
    | nil => simp at hc
    | cons a c =>
      obtain ⟨q, hq, eq⟩ := divide r c a
      have h0 : ev (a :: c) r = 0 := hz r (List.mem_cons_self ..)
      rw [h0] at eq
      have hq0 : ∀ p, ev q p = 0 := by
        refine ih q (by rw [hq]; simpa using hc) (List.nodup_cons.1 hn).2 (fun x hx => ?_)
        have h1 := hz x (List.mem_cons_of_mem _ hx)
        rw [eq x] at h1
        have h2 : mul (x ^^^ r) (ev q x) = 0 := by simpa using h1
        rcases mul_eq_zero _ _ h2 with h3 | h3
        · exact absurd (xor_eq_zero h3 ▸ hx) (List.nodup_cons.1 hn).1
        · exact h3
      rw [eq p, hq0 p, mul_zero]; decide

/-- The numbers X 0 .. X (k - 1) are others each. -/
def Apart (X : Nat → F) (k : Nat) : Prop := ∀ i j, i < k → j < k → X i = X j → i = j

theorem nodup_of_apart {X : Nat → F} {k : Nat} (h : Apart X k) : ((List.range k).map X).Nodup := by
  rw [List.nodup_iff_pairwise_ne, List.pairwise_map]
  refine List.Pairwise.imp_of_mem ?_ List.nodup_range
  intro a b ha hb hne e
  exact hne (h a b (List.mem_range.1 ha) (List.mem_range.1 hb) e)

theorem Deg.unique {k : Nat} {f g : F → F} {X : Nat → F} (hf : Deg k f) (hg : Deg k g) (hX : Apart X k) (h : ∀ i, i < k → f (X i) = g (X i)) (p : F) : f p = g p := by
  obtain ⟨c, hc, ec⟩ := hf.add hg
  refine xor_eq_zero ?_
  have := roots ((List.range k).map X) c (by simp [hc]) (nodup_of_apart hX) (fun x hx => ?_) p
  · rw [← this, ← ec p]
  · obtain ⟨i, hi, rfl⟩ := List.mem_map.1 hx
    rw [← ec]
    show f (X i) ^^^ g (X i) = 0
    rw [h i (List.mem_range.1 hi)]
    exact BitVec.xor_self

/-- The product of the differences to the first n places but the i-th. -/
def prod (X : Nat → F) (i : Nat) (p : F) : Nat → F
  | 0 => 1
  | j + 1 => if j = i then prod X i p j else mul (prod X i p j) (p ^^^ X j)

/-- The weight of the i-th of k places. -/
def wt (X : Nat → F) (k i : Nat) (p : F) : F := mul (prod X i p k) (inv (prod X i (X i) k))

/-- The sum of the first n. -/
def sum (g : Nat → F) : Nat → F
  | 0 => 0
  | n + 1 => sum g n ^^^ g n

/-- What the polynomial through the points has at p. -/
def lag (X Y : Nat → F) (k : Nat) (p : F) : F := sum (fun i => mul (wt X k i p) (Y i)) k

theorem prod_zero {X : Nat → F} {i m : Nat} (hm : m ≠ i) : ∀ n, m < n → prod X i (X m) n = 0 := by
  intro n
  induction n with
  | zero => intro h; omega
  | succ n ih =>
    intro h
    simp only [prod]
    by_cases e : n = i
    · rw [if_pos e]; exact ih (by omega)
    · rw [if_neg e]
      by_cases e2 : m = n
      · rw [e2, BitVec.xor_self]; exact mul_zero _
      · rw [ih (by omega)]; exact zero_mul _

theorem prod_ne {X : Nat → F} {i k : Nat} (hX : Apart X k) (hi : i < k) : ∀ n, n ≤ k → prod X i (X i) n ≠ 0 := by
  intro n
  induction n with
  | zero => intro _; exact one_ne_zero
  | succ n ih =>
    intro h
    simp only [prod]
    by_cases e : n = i
    · rw [if_pos e]; exact ih (by omega)
    · rw [if_neg e]
      intro h0
      rcases mul_eq_zero _ _ h0 with h1 | h1
      · exact ih (by omega) h1
      · exact e (hX i n hi (by omega) (xor_eq_zero h1)).symm

theorem wt_same {X : Nat → F} {k i : Nat} (hX : Apart X k) (hi : i < k) : wt X k i (X i) = 1 := mul_inv _ (prod_ne hX hi k (Nat.le_refl _))

theorem wt_other {X : Nat → F} {k i m : Nat} (hm : m < k) (hne : m ≠ i) : wt X k i (X m) = 0 := by
  unfold wt; rw [prod_zero hne k hm]; exact zero_mul _

theorem sum_zero {g : Nat → F} : ∀ n, (∀ i, i < n → g i = 0) → sum g n = 0 := by
  intro n
  induction n with
  | zero => intro _; rfl
  | succ n ih => intro h; simp only [sum]; rw [ih (fun i hi => h i (by omega)), h n (by omega)]; decide

theorem sum_one {g : Nat → F} {m : Nat} : ∀ n, m < n → (∀ i, i < n → i ≠ m → g i = 0) → sum g n = g m := by
  intro n
  induction n with
  | zero => intro h; omega
  | succ n ih =>
    intro h hz
    simp only [sum]
    by_cases e : m = n
    · rw [sum_zero n (fun i hi => hz i (by omega) (by omega)), e]; exact BitVec.zero_xor
    · rw [ih (by omega) (fun i hi hne => hz i (by omega) hne), hz n (by omega) (by omega)]; exact BitVec.xor_zero

theorem sum_congr {g h : Nat → F} : ∀ n, (∀ i, i < n → g i = h i) → sum g n = sum h n := by
  intro n
  induction n with
  | zero => intro _; rfl
  | succ n ih => intro e; simp only [sum]; rw [ih (fun i hi => e i (by omega)), e n (by omega)]

theorem lag_at {X Y : Nat → F} {k m : Nat} (hX : Apart X k) (hm : m < k) : lag X Y k (X m) = Y m := by
  unfold lag
  rw [sum_one (m := m) k hm]
  · rw [wt_same hX hm, one_mul]
  · intro i _ hne
    show mul (wt X k i (X m)) (Y i) = 0
    rw [wt_other hm (Ne.symm hne), zero_mul]

theorem lag_congr {X X' Y Y' : Nat → F} {k : Nat} (hX : ∀ i, i < k → X i = X' i) (hY : ∀ i, i < k → Y i = Y' i) (p : F) : lag X Y k p = lag X' Y' k p := by
  unfold lag
  refine sum_congr k (fun i hi => ?_)
  have hp : ∀ q n, n ≤ k → prod X i q n = prod X' i q n := by
    intro q n
    induction n with
    | zero => intro _; rfl
    | succ n ih => intro h; simp only [prod]; rw [ih (by omega), hX n (by omega)]
  show mul (wt X k i p) (Y i) = mul (wt X' k i p) (Y' i)
  unfold wt
  rw [hp p k (Nat.le_refl _), hp (X i) k (Nat.le_refl _), hX i hi, hY i hi]

theorem prod_deg (X : Nat → F) (i : Nat) : ∀ n, Deg (if i < n then n else n + 1) (fun p => prod X i p n) := by
  intro n
  induction n with
  | zero => exact Deg.one
  | succ n ih =>
    by_cases e : n = i
    · rw [if_pos (by omega)]
      rw [if_neg (by omega)] at ih
      have : (fun p => prod X i p (n + 1)) = fun p => prod X i p n := by funext p; simp only [prod]; rw [if_pos e]
      rw [this]; exact ih
    · have h2 : (fun p => prod X i p (n + 1)) = fun p => mul (prod X i p n) (p ^^^ X n) := by funext p; simp only [prod]; rw [if_neg e]
      rw [h2]
      by_cases h : i < n
      · rw [if_pos (by omega)]
        rw [if_pos h] at ih
        exact ih.lin (X n)
      · rw [if_neg (by omega)]
        rw [if_neg h] at ih
        exact ih.lin (X n)

theorem wt_deg (X : Nat → F) {k i : Nat} (hi : i < k) : Deg k (wt X k i) := by
  have h := prod_deg X i k
  rw [if_pos hi] at h
  have := h.smul (inv (prod X i (X i) k))
  obtain ⟨c, hc, ec⟩ := this
  exact ⟨c, hc, fun p => by rw [← ec]; show mul _ _ = mul _ _; rw [mul_comm]⟩

theorem sum_deg {k : Nat} {g : Nat → F → F} : ∀ n, (∀ i, i < n → Deg k (g i)) → Deg k (fun p => sum (fun i => g i p) n) := by
  intro n
  induction n with
  | zero => intro _; exact Deg.zero k
  | succ n ih => intro h; exact (ih (fun i hi => h i (by omega))).add (h n (by omega))

theorem lag_deg (X Y : Nat → F) (k : Nat) : Deg k (lag X Y k) := by
  refine sum_deg k (fun i hi => ?_)
  obtain ⟨c, hc, ec⟩ := (wt_deg X hi).smul (Y i)
  exact ⟨c, hc, fun p => by rw [← ec]; show mul _ _ = mul _ _; rw [mul_comm]⟩

/-- The polynomial through k of its own values is itself. -/
theorem lag_lag {X U V : Nat → F} {k : Nat} (hX : Apart X k) (p : F) : lag X (fun j => lag U V k (X j)) k p = lag U V k p :=
  Deg.unique (lag_deg _ _ k) (lag_deg _ _ k) hX (fun _ hi => lag_at hX hi) p

end Go.Proofs.YtjabhnhejbhgjaaGreatDoor.Gf
