/- isCount, isPlace, Inverse, weight. -/
import Derived.Test.YtjabhnhejbhgjaaGreatDoorMulWalks
import Derived.Test.YtjabhnhejbhgjaaGreatDoorMem
namespace Go.Proofs.YtjabhnhejbhgjaaGreatDoor
open Go.RowKit

/-- May there be so many source symbols? May a place be? -/
def cntB (k : Int) : Bool := decide (1 ≤ k ∧ k ≤ 8)
def plcB (k : Int) : Bool := decide (0 ≤ k ∧ k ≤ 255)
theorem cntB_yes {k : Int} (h : 1 ≤ k ∧ k ≤ 8) : cntB k = true := decide_eq_true h
theorem cntB_no {k : Int} (h : ¬ (1 ≤ k ∧ k ≤ 8)) : cntB k = false := decide_eq_false h
theorem plcB_yes {k : Int} (h : 0 ≤ k ∧ k ≤ 255) : plcB k = true := decide_eq_true h
theorem plcB_no {k : Int} (h : ¬ (0 ≤ k ∧ k ≤ 255)) : plcB k = false := decide_eq_false h

theorem ret_bool {a b : Bool} (h : a = b) : Ending.returned (.bool a) = .returned (.bool b) := by rw [h]

set_option maxHeartbeats 400000 in
theorem isCount_any (k : Int) (w : World) :
    Calls Tryz.prog 98 #[.int .i64 k] w fun e w' => e = .returned (.bool (cntB k)) ∧ w' = w := by
  by_cases h1 : 1 ≤ k
  · by_cases h2 : k ≤ 8
    · go_enter Tryz.func98, Tryz.ntmps98
      go_wp2
      go_ret
      exact ⟨ret_bool (cntB_yes (by omega)).symm, rfl⟩
    · go_enter Tryz.func98, Tryz.ntmps98
      go_wp2
      go_ret
      exact ⟨ret_bool (cntB_no (by omega)).symm, rfl⟩
  · go_enter Tryz.func98, Tryz.ntmps98
    go_wp2
    go_ret
    exact ⟨ret_bool (cntB_no (by omega)).symm, rfl⟩

set_option maxHeartbeats 400000 in
theorem isPlace_any (k : Int) (w : World) :
    Calls Tryz.prog 100 #[.int .i64 k] w fun e w' => e = .returned (.bool (plcB k)) ∧ w' = w := by
  by_cases h1 : 0 ≤ k
  · by_cases h2 : k ≤ 255
    · go_enter Tryz.func100, Tryz.ntmps100
      go_wp2
      go_ret
      exact ⟨ret_bool (plcB_yes (by omega)).symm, rfl⟩
    · go_enter Tryz.func100, Tryz.ntmps100
      go_wp2
      go_ret
      exact ⟨ret_bool (plcB_no (by omega)).symm, rfl⟩
  · go_enter Tryz.func100, Tryz.ntmps100
    go_wp2
    go_ret
    exact ⟨ret_bool (plcB_no (by omega)).symm, rfl⟩

set_option maxHeartbeats 400000 in
theorem inverse_any (a : Gf.F) (w : World) :
    Calls Tryz.prog 141 #[.int .u8 (a.toNat : Int)] w fun e w' => e = .returned (.int .u8 ((Gf.inv a).toNat : Int)) ∧ w' = w := by
  go_enter Tryz.func141, Tryz.ntmps141
  go_wp2
  go_loop [3, 4, 6] (fun s t u => ∃ (i p : Gf.F) (k : Nat), k ≤ 7 ∧ s = .int .u8 (i.toNat : Int) ∧ t = .int .u8 (p.toNat : Int) ∧ u = .int .i64 (k : Int) ∧ Gf.invN (7 - k) i p = Gf.inv a) (fun _ _ u => 7 - (intOf u).toNat)
  case atStart => exact ⟨1, a, 0, by omega, rfl, rfl, rfl, rfl⟩
  case round =>
    obtain ⟨i, p, k, hk, rfl, rfl, rfl, hm⟩ := hrel
    have HM : Hid (Gf.invN (7 - k) i p = Gf.inv a) := hm
    clear hm
    by_cases hlt : k < 7
    · go_wp2_with (go_at_call 140; refine (fieldMul_any _ _ _).mono ?_; rintro e w' ⟨rfl, rfl⟩)
      go_round
      case rel => exact ⟨_, _, k + 1, by omega, rfl, rfl, by go_num, by have h := HM.out; rw [show 7 - k = (7 - (k + 1)) + 1 by omega] at h; exact h⟩
      case measure => simp [intOf]; omega
    · obtain rfl : k = 7 := by omega
      go_wp2
      go_ret
      exact ⟨ret_int (by rw [← HM.out]; rfl), rfl⟩

set_option maxRecDepth 100000 in
set_option maxHeartbeats 1000000 in
theorem weight_any (b o c : Nat) (l : List Gf.F) (i : Nat) (p : Gf.F) (w : World) (hl : l.length ≤ 1000) (hi : i < l.length) (hB : Bs w b o l) :
    Calls Tryz.prog 126 #[.slice (some ⟨b, o, none⟩) l.length c, .int .i64 (i : Int), .int .u8 (p.toNat : Int)] w fun e w' => e = .returned (.int .u8 ((Gf.wt (at_ l) l.length i p).toNat : Int)) ∧ w' = w := by
  have hci : w.cell? ⟨b, o + i, none⟩ = some (.int .u8 ((at_ l i).toNat : Int)) := hB i hi
  go_enter Tryz.func126, Tryz.ntmps126
  go_wp2_with fail
  go_loop [7, 8, 13] (fun s t u => ∃ k : Nat, k ≤ l.length ∧ s = .int .u8 ((Gf.prod (at_ l) i p k).toNat : Int) ∧ t = .int .u8 ((Gf.prod (at_ l) i (at_ l i) k).toNat : Int) ∧ u = .int .i64 (k : Int)) (fun _ _ u => l.length - (intOf u).toNat)
  case atStart => exact ⟨0, by omega, rfl, rfl, rfl⟩
  case round =>
    obtain ⟨k, hk, rfl, rfl, rfl⟩ := hrel
    by_cases hlt : k < l.length
    · have hck : w.cell? ⟨b, o + k, none⟩ = some (.int .u8 ((at_ l k).toNat : Int)) := hB k hlt
      by_cases e : k = i
      · have hp : ∀ q, Gf.prod (at_ l) i q (k + 1) = Gf.prod (at_ l) i q k := fun q => by simp only [Gf.prod]; rw [if_pos e]
        have HP : Hid (∀ q, Gf.prod (at_ l) i q (k + 1) = Gf.prod (at_ l) i q k) := hp
        clear hp
        have hne : ((k : Int) != (i : Int)) = false := by rw [e]; simp
        clear e
        go_wp2_with fail
        go_round
        case rel => exact ⟨k + 1, by omega, by rw [HP.out], by rw [HP.out], by go_num⟩
        case measure => simp [intOf]; omega
      · have hp : ∀ q, Gf.prod (at_ l) i q (k + 1) = Gf.mul (Gf.prod (at_ l) i q k) (Gf.add q (at_ l k)) := fun q => by simp only [Gf.prod]; rw [if_neg e]; rfl
        have HP : Hid (∀ q, Gf.prod (at_ l) i q (k + 1) = Gf.mul (Gf.prod (at_ l) i q k) (Gf.add q (at_ l k))) := hp
        clear hp
        have hne : ((k : Int) != (i : Int)) = true := by rw [bne_iff_ne]; omega
        have hx1 := Gf.addF p (at_ l k)
        have hx2 := Gf.addF (at_ l i) (at_ l k)
        clear e
        go_wp2_with (go_at_call 140; refine (fieldMul_any _ _ _).mono ?_; rintro e w' ⟨rfl, rfl⟩)
        go_round
        case rel => exact ⟨k + 1, by omega, by rw [HP.out], by rw [HP.out], by go_num⟩
        case measure => simp [intOf]; omega
    · obtain rfl : k = l.length := by omega
      go_wp2_with (first | (go_at_call 140; refine (fieldMul_any _ _ _).mono ?_; rintro e w' ⟨rfl, rfl⟩) | (go_at_call 141; refine (inverse_any _ _).mono ?_; rintro e w' ⟨rfl, rfl⟩))
      go_ret
      exact ⟨rfl, rfl⟩

end Go.Proofs.YtjabhnhejbhgjaaGreatDoor
