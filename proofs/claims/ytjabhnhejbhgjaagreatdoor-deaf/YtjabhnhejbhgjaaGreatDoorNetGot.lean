/- What a receiver comes to know, packet by packet. -/
import Derived.Test.YtjabhnhejbhgjaaGreatDoorMany15
namespace Go.Proofs.YtjabhnhejbhgjaaGreatDoor
open Go.RowKit

theorem addP_at {K T : Nat} {ps : List (List Gf.F)} {q : Nat} {x : Gf.F} (hq : q < ps.length) (j : Nat) : lat (addP K T ps q x) j = if j = q ∧ (lat ps q).length < srcN K T q ∧ ¬ x ∈ lat ps q then lat ps q ++ [x] else lat ps j := by
  unfold addP
  split
  · rename_i h
    rw [lat_set hq]
    by_cases e : q = j
    · subst e
      rw [if_pos rfl, if_pos ⟨rfl, h⟩]
    · rw [if_neg e, if_neg (by intro z; exact e z.1.symm)]
  · rename_i h
    rw [if_neg (fun z => h z.2)]

theorem front_succ (n : Nat) : front (n + 1) = front n ++ [by8 n] := by
  refine list_ext (by simp [front_length]) (fun i hi => ?_)
  rw [front_length] at hi
  rw [front_at _ _ hi, at_cat, front_length]
  split
  · rename_i h
    rw [front_at _ _ h]
  · rename_i h
    obtain rfl : i = n := by omega
    rw [Nat.sub_self]
    rfl
theorem front_not {n : Nat} (hn : n < 256) : ¬ by8 n ∈ front n := by
  intro h
  obtain ⟨i, hi, e⟩ := List.getElem_of_mem h
  rw [front_length] at hi
  have e2 := front_at n i hi
  have e3 : at_ (front n) i = (front n)[i] := by
    have : i < (front n).length := by rw [front_length]; exact hi
    simp [at_, List.getD, this]
  rw [← e3, e2] at e
  have := ofNat_inj (show i < 256 by omega) hn e
  omega
theorem front_zero : front 0 = [] := rfl

/-- Of one object the first j source symbols are known, of no other one anything. -/
structure PlainAt (K T : Nat) (v : Vw) (i j : Nat) : Prop where
  tk : v.tk.getD i false = false
  none_ : ∀ m, m ≠ i → v.see m = none
  zero : j = 0 → v.see i = none
  pos : 0 < j → ∃ ps, v.see i = some ps ∧ ps.length = partsN T K ∧ ∀ q, q < partsN T K → lat ps q = front (min (srcN K T q) (j - q * K))

theorem cnt_none {α : Type} {f : Nat → Option α} : ∀ n, (∀ m, m < n → f m = none) → cntF f n = 0
  | 0, _ => rfl
  | n + 1, h => by rw [cntF, cnt_none n (fun m hm => h m (by omega)), h n (by omega)]; rfl

theorem PlainAt.next {K T : Nat} {v : Vw} {i j : Nat} (hK : 1 ≤ K) (hK8 : K ≤ 8) (h : PlainAt K T v i j) (hj : j < T) :
    (j + 1 < T ∧ PlainAt K T (v.got K T i (j / K) (by8 (j % K))) i (j + 1) ∧ (v.got K T i (j / K) (by8 (j % K))).tk = v.tk) ∨
    (j + 1 = T ∧ (∀ m, (v.got K T i (j / K) (by8 (j % K))).see m = none) ∧ (v.got K T i (j / K) (by8 (j % K))).tk = v.tk.set i true) := by
  obtain ⟨hq0, hp0⟩ := src_block hK hj
  have hdm := Nat.div_add_mod j K
  have hml := Nat.mod_lt j (show 0 < K by omega)
  rw [Nat.mul_comm] at hdm
  obtain ⟨ps, hps, hlen, hat⟩ : ∃ ps, v.got K T i (j / K) (by8 (j % K)) = v.put K T i (addP K T ps (j / K) (by8 (j % K))) ∧ ps.length = partsN T K ∧ ∀ q, q < partsN T K → lat ps q = front (min (srcN K T q) (j - q * K)) := by
    unfold Vw.got
    rw [if_neg (by rw [h.tk]; simp)]
    by_cases e : j = 0
    · rw [h.zero e]
      refine ⟨List.replicate (partsN T K) [], ?_, by simp, fun q hq => ?_⟩
      · show (if _ then _ else _) = _
        rw [if_neg]
        rw [cnt_none 16 (fun m _ => by
          by_cases z : m = i
          · rw [z]; exact h.zero e
          · exact h.none_ m z)]
        omega
      · subst e
        rw [Nat.zero_sub, Nat.min_zero, front_zero]
        simp [lat, List.getD, hq]
    · obtain ⟨ps, h1, h2, h3⟩ := h.pos (by omega)
      rw [h1]
      exact ⟨ps, rfl, h2, h3⟩
  rw [hps]
  generalize hq : j / K = q0 at *
  generalize hp : j % K = p0 at *
  have hl0 : lat ps q0 = front p0 := by
    rw [hat q0 hq0]
    congr 1
    omega
  have hnew : ∀ q, q < partsN T K → lat (addP K T ps q0 (by8 p0)) q = front (min (srcN K T q) (j + 1 - q * K)) := by
    intro q hqQ
    rw [addP_at (by rw [hlen]; exact hq0)]
    by_cases e : q = q0
    · subst e
      rw [if_pos ⟨rfl, by rw [hl0, front_length]; exact hp0, by rw [hl0]; exact front_not (by omega)⟩, hl0, ← front_succ]
      congr 1
      omega
    · rw [if_neg (fun z => e z.1), hat q hqQ]
      congr 1
      unfold srcN
      rcases Nat.lt_or_ge q q0 with z | z
      · have : (q + 1) * K ≤ q0 * K := Nat.mul_le_mul_right _ z
        rw [Nat.succ_mul] at this
        omega
      · have : (q0 + 1) * K ≤ q * K := Nat.mul_le_mul_right _ (by omega)
        rw [Nat.succ_mul] at this
        omega
  have hlen' : (addP K T ps q0 (by8 p0)).length = partsN T K := by rw [addP_len, hlen]
  generalize addP K T ps q0 (by8 p0) = ps' at *
  unfold Vw.put
  by_cases e : j + 1 < T
  · left
    obtain ⟨hq1, hp1⟩ := src_block hK e
    have hdm1 := Nat.div_add_mod (j + 1) K
    rw [Nat.mul_comm] at hdm1
    have hnf : ¬ fullP K T ps' = true := by
      intro z
      have := fullP_iff.1 z ((j + 1) / K) (by rw [hlen']; exact hq1)
      rw [hnew _ hq1, front_length] at this
      omega
    rw [if_neg hnf]
    refine ⟨e, ⟨h.tk, fun m hm => ?_, fun z => by omega, fun _ => ⟨ps', updF_same _ _ _, hlen', hnew⟩⟩, rfl⟩
    show updF v.see i (some ps') m = none
    rw [updF_other _ _ hm]
    exact h.none_ m hm
  · right
    have hf : fullP K T ps' = true := by
      rw [fullP_iff]
      intro q hqQ
      rw [hlen'] at hqQ
      rw [hnew q hqQ, front_length]
      have := partsN_mul hK hqQ
      unfold srcN
      omega
    rw [if_pos hf]
    refine ⟨by omega, fun m => ?_, rfl⟩
    show updF v.see i none m = none
    by_cases z : m = i
    · subst z; exact updF_same _ _ _
    · rw [updF_other _ _ z]; exact h.none_ m z

/-- What was heard stays heard. -/
structure GotIs (K T : Nat) (v : Vw) (i q : Nat) (x : Gf.F) (v' : Vw) : Prop where
  other : ∀ m, m ≠ i → v'.see m = v.see m ∧ v'.tk.getD m false = v.tk.getD m false
  tk : v.tk.getD i false = true → v' = v
  see : v.tk.getD i false = false → (v.see i = none ∧ v' = v) ∨ (v'.see i = none ∧ v'.tk.getD i false = true) ∨
    (v'.tk.getD i false = false ∧ ∃ ps ps', v'.see i = some ps' ∧ (v.see i = some ps ∨ v.see i = none ∧ ps = List.replicate (partsN T K) []) ∧ ps' = addP K T ps q x)
theorem got_is {K T : Nat} {v : Vw} {i q : Nat} {x : Gf.F} (hi : i < v.tk.length) : GotIs K T v i q x (v.got K T i q x) := by
  have hput : ∀ ps, (∀ m, m ≠ i → (v.put K T i ps).see m = v.see m ∧ (v.put K T i ps).tk.getD m false = v.tk.getD m false) ∧ (((v.put K T i ps).see i = none ∧ (v.put K T i ps).tk.getD i false = true) ∨ ((v.put K T i ps).see i = some ps ∧ (v.put K T i ps).tk = v.tk)) := by
    intro ps
    unfold Vw.put
    split
    · refine ⟨fun m hm => ⟨updF_other _ _ hm, ?_⟩, .inl ⟨updF_same _ _ _, ?_⟩⟩
      · show (v.tk.set i true).getD m false = _
        rw [List.getD_eq_getElem?_getD, List.getElem?_set, if_neg (Ne.symm hm), List.getD_eq_getElem?_getD]
      · show (v.tk.set i true).getD i false = true
        rw [List.getD_eq_getElem?_getD, List.getElem?_set, if_pos rfl, if_pos hi]
        rfl
    · exact ⟨fun m hm => ⟨updF_other _ _ hm, rfl⟩, .inr ⟨updF_same _ _ _, rfl⟩⟩
  unfold Vw.got
  by_cases ht : v.tk.getD i false = true
  · rw [if_pos ht]
    exact ⟨fun _ _ => ⟨rfl, rfl⟩, fun _ => rfl, fun z => by rw [ht] at z; cases z⟩
  · rw [if_neg ht]
    cases hs : v.see i with
    | some ps =>
      obtain ⟨h1, h2⟩ := hput (addP K T ps q x)
      refine ⟨h1, fun z => absurd z ht, fun z => .inr ?_⟩
      rcases h2 with h2 | ⟨h2, h3⟩
      · exact .inl h2
      · exact .inr ⟨by show (v.put K T i (addP K T ps q x)).tk.getD i false = false; rw [h3]; exact z, ps, _, h2, .inl hs, rfl⟩
    | none =>
      show GotIs K T v i q x (if _ then _ else _)
      by_cases hc : cntF v.see 16 = 4
      · rw [if_pos hc]
        exact ⟨fun _ _ => ⟨rfl, rfl⟩, fun _ => rfl, fun _ => .inl ⟨hs, rfl⟩⟩
      · rw [if_neg hc]
        obtain ⟨h1, h2⟩ := hput (addP K T (List.replicate (partsN T K) []) q x)
        refine ⟨h1, fun z => absurd z ht, fun z => .inr ?_⟩
        rcases h2 with h2 | ⟨h2, h3⟩
        · exact .inl h2
        · exact .inr ⟨by rw [h3]; exact z, _, _, h2, .inr ⟨hs, rfl⟩, rfl⟩

end Go.Proofs.YtjabhnhejbhgjaaGreatDoor
