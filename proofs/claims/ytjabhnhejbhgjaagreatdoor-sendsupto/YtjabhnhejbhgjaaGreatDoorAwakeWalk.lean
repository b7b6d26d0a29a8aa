/- awake, pick (of murmurkeep). -/
import Derived.Test.YtjabhnhejbhgjaaGreatDoorRestoreWalk
import Derived.Test.YtjabhnhejbhgjaaGreatDoorConvLaws
namespace Go.Proofs.YtjabhnhejbhgjaaGreatDoor
open Go.RowKit

/-- Which of n things the raw number c speaks of. -/
def pickI (c n : Int) : Int := (if c < 0 then -(c + 1) else c) % n

theorem pickI_range (c n : Int) (hn : 0 < n) : 0 ≤ pickI c n ∧ pickI c n < n := ⟨Int.emod_nonneg _ (by omega), Int.emod_lt_of_pos _ hn⟩

set_option maxHeartbeats 400000 in
theorem keepPick_any (c n : Int) (w : World) (h0 : 0 < n) (hc : -9223372036854775808 ≤ c) (hc' : c ≤ 9223372036854775807) :
    Calls Tryz.prog 33 #[.int .i64 c, .int .i64 n] w fun e w' => e = .returned (.int .i64 (pickI c n)) ∧ w' = w := by
  by_cases h : c < 0
  · have hp : pickI c n = (-(c + 1)) % n := by unfold pickI; rw [if_pos h]
    have HP : Hid (pickI c n = (-(c + 1)) % n) := hp
    clear hp
    have hb : 0 ≤ -(c + 1) := by omega
    go_enter Tryz.func33, Tryz.ntmps33
    go_wp2
    go_ret
    exact ⟨ret_int (by rw [HP.out, ← Int.neg_tmod, Int.tmod_eq_emod_of_nonneg hb]), rfl⟩
  · have hp : pickI c n = c % n := by unfold pickI; rw [if_neg h]
    have HP : Hid (pickI c n = c % n) := hp
    clear hp
    go_enter Tryz.func33, Tryz.ntmps33
    go_wp2
    go_ret
    exact ⟨ret_int HP.out.symm, rfl⟩

/-- The document's example: two symbols of one byte. -/
def exRows (N : Nat) : List Row := [⟨N, 0, 1, [5]⟩, ⟨N + 1, 0, 1, [7]⟩]

theorem exSym (N : Nat) : symOf (front 2) (exRows N) (byteOf 2) 1 = [1] := by kernel_rfl
theorem exStr : str [1] = ⟨#[1]⟩ := by kernel_rfl

theorem exRs (w : World) : Rs (((w.alloc (.cells #[.int .u8 5] 5)).alloc (.cells #[.int .u8 7] 5)).alloc (.cells #[.slice (some ⟨w.heap.size, 0, none⟩) 1 1, .slice (some ⟨w.heap.size + 1, 0, none⟩) 1 1] 33)) (w.heap.size + 2) 0 (exRows w.heap.size) := by
  intro i hi
  have : i = 0 ∨ i = 1 := by simp [exRows] at hi; omega
  rcases this with rfl | rfl
  · refine ⟨?_, ?_⟩
    · rw [World.cell?_alloc_at _ _ _ _ (by simp)]; rfl
    · intro j hj
      have : j = 0 := by simp [exRows, rat] at hj; omega
      subst this
      show World.cell? _ ⟨w.heap.size, 0, none⟩ = _
      rw [World.cell?_alloc_past _ _ _ (by simp; omega), World.cell?_alloc_past _ _ _ (by simp), World.cell?_alloc_at _ _ _ _ rfl]; rfl
  · refine ⟨?_, ?_⟩
    · rw [World.cell?_alloc_at _ _ _ _ (by simp)]; rfl
    · intro j hj
      have : j = 0 := by simp [exRows, rat] at hj; omega
      subst this
      show World.cell? _ ⟨w.heap.size + 1, 0, none⟩ = _
      rw [World.cell?_alloc_past _ _ _ (by simp), World.cell?_alloc_at _ _ _ _ (by simp)]; rfl

set_option maxRecDepth 100000 in
set_option maxHeartbeats 1000000 in
/-- awake is true. -/
theorem awake_any (w : World) :
    Calls Tryz.prog 31 #[] w fun e w' => e = .returned (.bool true) ∧ Below w.heap.size w w' := by
  have hr := exRs w
  go_enter Tryz.func31, Tryz.ntmps31
  go_wp2_with fail
  generalize hW : ((w.alloc _).alloc _).alloc _ = W at hr ⊢
  have hb : Below w.heap.size w W := by rw [← hW]; exact (((Below.refl _ _).alloc (Nat.le_refl _) _).alloc (by simp) _).alloc (by simp; omega) _
  have HZ : Hid (W.heap.size = w.heap.size + 3) := by rw [← hW]; show _ = _; simp
  clear hW
  refine (symbol_ok (w.heap.size + 2) 0 2 1 2 (exRows w.heap.size) 2 _ rfl rfl rfl rfl rfl (by omega) hr (fun i hi => ?_)).mono ?_
  · have : i = 0 ∨ i = 1 := by simp [exRows] at hi; omega
    rw [HZ.out]
    rcases this with rfl | rfl
    · show w.heap.size < _; omega
    · show w.heap.size + 1 < _; omega
  rintro e w2 ⟨rfl, hG, hb2, hz2⟩
  rw [exSym] at hG
  have hcv := hG.bs.conv 1 1 rfl
  rw [exStr] at hcv
  clear hz2
  have HG : Hid (Blk w2 (W.heap.size + 1) [1]) := hG
  clear hG
  go_wp2
  go_ret
  exact ⟨rfl, hb.trans (hb2.mono hb.size)⟩

end Go.Proofs.YtjabhnhejbhgjaaGreatDoor
