/- What Restore gives back; that fresh places come. -/
import Derived.Test.YtjabhnhejbhgjaaGreatDoorCallWalks
namespace Go.Proofs.YtjabhnhejbhgjaaGreatDoor
open Go.RowKit

theorem list_ext {l l' : List Gf.F} (h : l.length = l'.length) (e : ∀ i, i < l.length → at_ l i = at_ l' i) : l = l' := by
  apply List.ext_getElem h
  intro i h1 h2
  have := e i h1
  simpa [at_, List.getD, h1, h2] using this

theorem ofNat_inj {i j : Nat} (hi : i < 256) (hj : j < 256) (h : (BitVec.ofNat 8 i : Gf.F) = BitVec.ofNat 8 j) : i = j := by
  have := congrArg BitVec.toNat h
  rw [BitVec.toNat_ofNat, BitVec.toNat_ofNat, Nat.mod_eq_of_lt (by omega), Nat.mod_eq_of_lt (by omega)] at this
  exact this

theorem front_apart {n : Nat} (hn : n ≤ 256) : Gf.Apart (at_ (front n)) n := by
  intro i j hi hj e
  rw [front_at n i hi, front_at n j hj] at e
  exact ofNat_inj (by omega) (by omega) e

theorem byteOf_inj {a b : Int} (ha : 0 ≤ a ∧ a ≤ 255) (hb : 0 ≤ b ∧ b ≤ 255) (h : byteOf a = byteOf b) : a = b := by
  rw [byteOf_toNat ha, byteOf_toNat hb, h]

theorem bytesOf_apart {l : List Int} {n : Nat} (hl : l.length = n) (hp : placesB l n = true) : Gf.Apart (at_ (bytesOf l)) n := by
  intro i j hi hj e
  rw [bytesOf_at l i (by omega), bytesOf_at l j (by omega)] at e
  exact placesB_apart hp i j hi hj (byteOf_inj (placesB_range hp i hi) (placesB_range hp j hj) e)

/-- A source symbol is the symbol at its own place. -/
theorem symOf_own {n m i : Nat} {src : List Row} (hn : n ≤ 256) (hi : i < n) (hlen : (rat src i).l.length = m) : symOf (front n) src (BitVec.ofNat 8 i) m = (rat src i).l := by
  refine list_ext ((symOf_length ..).trans hlen.symm) (fun b hb => ?_)
  rw [symOf_length] at hb
  rw [symOf_at _ _ _ _ _ hb, front_length, ← front_at n i hi, Gf.lag_at (front_apart hn) hi]

/-- Restore gives the source symbols back. -/
theorem symOf_back {n m i : Nat} {src rows : List Row} {l : List Int} (hn : n ≤ 256) (hi : i < n) (hl : l.length = n) (hp : placesB l n = true) (hlen : (rat src i).l.length = m)
    (hrows : ∀ j, j < n → (rat rows j).l = symOf (front n) src (byteOf (zat l j)) m) : symOf (bytesOf l) rows (BitVec.ofNat 8 i) m = (rat src i).l := by
  refine list_ext ((symOf_length ..).trans hlen.symm) (fun b hb => ?_)
  rw [symOf_length] at hb
  rw [symOf_at _ _ _ _ _ hb, bytesOf_length, hl]
  have e1 : ∀ j, j < n → at_ (rat rows j).l b = Gf.lag (at_ (front n)) (fun t => at_ (rat src t).l b) n (at_ (bytesOf l) j) := by
    intro j hj
    rw [hrows j hj, symOf_at _ _ _ _ _ hb, front_length, bytesOf_at l j (by omega)]
  rw [Gf.lag_congr (X' := at_ (bytesOf l)) (Y' := fun j => Gf.lag (at_ (front n)) (fun t => at_ (rat src t).l b) n (at_ (bytesOf l) j)) (fun _ _ => rfl) e1, Gf.lag_lag (bytesOf_apart hl hp), ← front_at n i hi, Gf.lag_at (front_apart hn) hi]

theorem symOf_congr {X : List Gf.F} {rs rs' : List Row} {p : Gf.F} {m : Nat} (h : ∀ j, j < X.length → (rat rs j).l = (rat rs' j).l) : symOf X rs p m = symOf X rs' p m := by
  refine list_ext (by rw [symOf_length, symOf_length]) (fun b hb => ?_)
  rw [symOf_length] at hb
  rw [symOf_at _ _ _ _ _ hb, symOf_at _ _ _ _ _ hb]
  exact Gf.lag_congr (fun _ _ => rfl) (fun j hj => by rw [h j hj]) p

theorem nodup_le {α : Type} [DecidableEq α] : ∀ (xs ys : List α), xs.Nodup → (∀ x, x ∈ xs → x ∈ ys) → xs.length ≤ ys.length := by
  intro xs
  induction xs with
  | nil => intro ys _ _; simp
  | cons x xs ih =>
    intro ys hn h
    have hx := h x (List.mem_cons_self ..)
    have := ih (ys.erase x) (List.nodup_cons.1 hn).2 (fun y hy => by
      have hne : y ≠ x := fun e => (List.nodup_cons.1 hn).1 (e ▸ hy)
      exact (List.mem_erase_of_ne hne).2 (h y (List.mem_cons_of_mem _ hy)))
    rw [List.length_erase_of_mem hx] at this
    have hpos : 0 < ys.length := List.length_pos_of_mem hx
    simp only [List.length_cons]
    omega

/-- If the last d numbers (round 256) are all among k, then d is at most k. -/
theorem pigeon {l : List Int} {k L i : Nat} (h : ∀ j, L ≤ j → j < i → hasB l k ((j : Int) % 256) = true) (hk : k < 8) : i < L + 8 := by
  rcases Nat.lt_or_ge i (L + 8) with q | q
  · exact q
  · exfalso
    have hnd : ((List.range 8).map fun t => (((L + t : Nat) : Int) % 256)).Nodup := by
      rw [List.nodup_iff_pairwise_ne, List.pairwise_map]
      refine List.Pairwise.imp_of_mem ?_ List.nodup_range
      intro a b ha hb hne e
      have := List.mem_range.1 ha
      have := List.mem_range.1 hb
      omega
    have := nodup_le _ ((List.range k).map fun t => zat l t) hnd (fun x hx => by
      obtain ⟨t, ht, rfl⟩ := List.mem_map.1 hx
      obtain ⟨u, hu, e⟩ := (hasB_iff l k _).1 (h (L + t) (by omega) (by have := List.mem_range.1 ht; omega))
      exact List.mem_map.2 ⟨u, List.mem_range.2 hu, e⟩)
    simp at this
    omega

theorem zat_lt {l : List Int} {z : Int} {j : Nat} (hj : j < l.length) : zat (l ++ [z]) j = zat l j := by
  simp [zat, List.getD, List.getElem?_append_left hj]
theorem zat_eq {l : List Int} {z : Int} : zat (l ++ [z]) l.length = z := by simp [zat, List.getD]

theorem hasB_snoc {l : List Int} {z v : Int} {k : Nat} (hk : k ≤ l.length) : hasB (l ++ [z]) k v = hasB l k v := by
  rw [Bool.eq_iff_iff, hasB_iff, hasB_iff]
  constructor
  · rintro ⟨i, hi, e⟩; exact ⟨i, hi, by rw [← e, zat_lt (by omega)]⟩
  · rintro ⟨i, hi, e⟩; exact ⟨i, hi, by rw [zat_lt (by omega)]; exact e⟩

theorem hasB_mono {l : List Int} {v : Int} {j k : Nat} (hjk : j ≤ k) (h : hasB l j v = true) : hasB l k v = true := by
  rw [hasB_iff] at h ⊢
  obtain ⟨i, hi, e⟩ := h
  exact ⟨i, by omega, e⟩

theorem placesB_snoc {l : List Int} {z : Int} {k : Nat} (hl : l.length = k) (h : placesB l k = true) (hz : plcB z = true) (hno : hasB l k z = false) : placesB (l ++ [z]) (k + 1) = true := by
  rw [placesB_iff]
  intro i hi
  by_cases e : i = k
  · subst e
    rw [show zat (l ++ [z]) i = z by rw [← hl]; exact zat_eq]
    exact ⟨hz, by rw [hasB_snoc (by omega)]; exact hno⟩
  · rw [zat_lt (by omega), hasB_snoc (by omega)]
    exact (placesB_iff l k).1 h i (by omega)

theorem hasB_succ_of {l : List Int} {v : Int} {j : Nat} (h : hasB l j v = false) (hne : zat l j ≠ v) : hasB l (j + 1) v = false := by
  rw [← Bool.not_eq_true, hasB_iff]
  rintro ⟨i, hi, e⟩
  by_cases q : i = j
  · subst q; exact hne e
  · have : hasB l j v = true := (hasB_iff l j v).2 ⟨i, by omega, e⟩
    rw [h] at this; cases this

theorem hasB_succ_eq {l : List Int} {v : Int} {j : Nat} (h : zat l j = v) : hasB l (j + 1) v = true := (hasB_iff l _ v).2 ⟨j, by omega, h⟩

theorem hasB_last {l : List Int} {z : Int} {k : Nat} (hl : l.length = k) : hasB (l ++ [z]) (k + 1) z = true := (hasB_iff _ _ _).2 ⟨k, by omega, by rw [← hl]; exact zat_eq⟩

end Go.Proofs.YtjabhnhejbhgjaaGreatDoor
