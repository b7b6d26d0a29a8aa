/- murmurref.Restore. -/
import Derived.Test.YtjabhnhejbhgjaaGreatDoorRefWalks
namespace Go.Proofs.YtjabhnhejbhgjaaGreatDoor
open Go.RowKit

/-- The symbols that came back, k of them. -/
structure OutR (w : World) (B m : Nat) (l : List Int) (rs : List Raw) (n : Nat) (v : Value) (k : Nat) (vs : List Value) : Prop where
  len : vs.length = k
  own : w.ownsRow B 33 1 v k vs
  each : ∀ t, t < k → ∃ u, vs[t]? = some u ∧ w.ownsRow B 5 1 u m (encL (symR l rs n (BitVec.ofNat 8 t) m)) ∧ ∀ g, u.ownBlock = some g → v.ownBlock ≠ some g

theorem OutR.nil (w : World) (B m : Nat) (l : List Int) (rs : List Raw) (n : Nat) : OutR w B m l rs n (.slice none 0 0) 0 [] := ⟨rfl, World.ownsRow_nil .., fun t ht => by omega⟩

theorem OutR.kept {w w' : World} {B m n k : Nat} {l : List Int} {rs : List Raw} {v : Value} {vs : List Value} (h : OutR w B m l rs n v k vs) (hk : ∀ j, j < w.heap.size → w'.heap[j]? = w.heap[j]?) : OutR w' B m l rs n v k vs :=
  ⟨h.len, own_of_block h.own (fun g hg => hk g (own_lt h.own hg).2), fun t ht => by
    obtain ⟨u, h1, h2, h3⟩ := h.each t ht
    exact ⟨u, h1, own_of_block h2 (fun g hg => hk g (own_lt h2 hg).2), h3⟩⟩

theorem OutR.step {w w' : World} {B m n k g c : Nat} {l : List Int} {rs : List Raw} {v u : Value} {vs : List Value} {o : Obj} (h : OutR w B m l rs n v k vs) (hu : w.ownsRow B 5 1 u m (encL (symR l rs n (BitVec.ofNat 8 k) m))) (hfar : ∀ g, u.ownBlock = some g → v.ownBlock ≠ some g)
    (hown : w'.ownsRow B 33 1 (.slice (some ⟨g, 0, none⟩) (k + 1) c) (k + 1) (vs ++ [u])) (hgr : (w.alloc o).grownBy w' v.ownBlock) (hg : v.ownBlock = some g ∨ g = w.heap.size + 1) :
    OutR w' B m l rs n (.slice (some ⟨g, 0, none⟩) (k + 1) c) (k + 1) (vs ++ [u]) := by
  have keep : ∀ j, j < w.heap.size → v.ownBlock ≠ some j → w'.heap[j]? = w.heap[j]? := fun j hj hne => by
    rw [grown_block hgr (by simp; omega) hne, Below.heap_alloc _ _ _ hj]
  have far : ∀ (x : Value) (xs : List Value), w.ownsRow B 5 1 x m xs → (∀ g, x.ownBlock = some g → v.ownBlock ≠ some g) → w'.ownsRow B 5 1 x m xs ∧ ∀ b, x.ownBlock = some b → (Value.slice (some ⟨g, 0, none⟩) (k + 1) c).ownBlock ≠ some b := by
    intro x xs hx hf
    refine ⟨own_of_block hx (fun b hb => keep b (own_lt hx hb).2 (hf b hb)), fun b hb q => ?_⟩
    have e : g = b := by simpa [Value.ownBlock] using q
    subst e
    rcases hg with e | e
    · exact hf g hb e
    · have := (own_lt hx hb).2; omega
  refine ⟨by simp [h.len], hown, fun t ht => ?_⟩
  by_cases e : t = k
  · subst e
    exact ⟨u, by rw [← h.len]; simp, (far u _ hu hfar).1, (far u _ hu hfar).2⟩
  · obtain ⟨x, h1, h2, h3⟩ := h.each t (by omega)
    exact ⟨x, by rw [List.getElem?_append_left (by rw [h.len]; omega)]; exact h1, (far x _ h2 h3).1, (far x _ h2 h3).2⟩

theorem own_base {w : World} {B B' n : Nat} {e : TypeId} {v : Value} {xs : List Value} (h : w.ownsRow B e 1 v n xs) (hB : B' ≤ B) : w.ownsRow B' e 1 v n xs := by
  obtain ⟨h1, h2⟩ := h
  refine ⟨h1, ?_⟩
  rcases h2 with h2 | ⟨g', cap, cur, h3, h4, h5⟩
  · exact .inl h2
  · exact .inr ⟨g', cap, cur, h3, Nat.le_trans hB h4, h5⟩

end Go.Proofs.YtjabhnhejbhgjaaGreatDoor
