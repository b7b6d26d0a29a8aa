/- sameList. -/
import Derived.Test.YtjabhnhejbhgjaaDoorToldWalk
import Derived.Test.YtjabhnhejbhgjaaDoorConvLaws
import Derived.Deep.QuietTactic
import Derived.BigQuiet
namespace Go.Proofs.YtjabhnhejbhgjaaDoor
open Go.RowKit

theorem RawIn.conv {w : World} {r : Raw} (h : RawIn w r) (nq : Nat) : (convert 33 9 r.v).run Tryd.prog (w.drewN nq) = .ok (.string (str r.l)) (w.drewN nq) := by
  obtain ⟨a, c, h1, h2⟩ := h
  rw [h1]
  by_cases hl : 0 < r.l.length
  · obtain ⟨b, o, rfl, h4⟩ := h2 hl
    exact h4.convN _ c rfl nq
  · have e : r.l = [] := List.length_eq_zero_iff.1 (by omega)
    rw [e]
    show (convert 33 9 (.slice a 0 c)).run Tryd.prog (w.drewN nq) = .ok (.string ByteArray.empty) (w.drewN nq)
    rw [run_convert_bytes_string _ _ _ _ _ _ _ Tryd.underlying33 Tryd.underlying5 Tryd.underlying9]
    cases a with
    | none => rfl
    | some a => simp [Conv.bytesToString, loadCells]; rfl

def sameB (rs us : List Raw) (n : Nat) : Bool := decide (∀ i, i < n → str (wat rs i).l = str (wat us i).l)

set_option maxRecDepth 100000 in
set_option maxHeartbeats 1000000 in
theorem sameList_any (a1 a2 : Option Addr) (b1 o1 c1 b2 o2 c2 n : Nat) (rs us : List Raw) (w : World) (h1 : rs.length = n) (h2 : us.length = n) (hn : n ≤ 140737488355328) (ha1 : 0 < n → a1 = some ⟨b1, o1, none⟩) (ha2 : 0 < n → a2 = some ⟨b2, o2, none⟩) (hW1 : Ws w b1 o1 rs) (hW2 : Ws w b2 o2 us) (hs : ∀ i, i < n → str (wat rs i).l = str (wat us i).l) :
    Calls Tryd.prog 35 #[.slice a1 n c1, .slice a2 n c2] w fun e w' => e = .returned (.bool true) ∧ ∃ nq, w' = w.drewN nq := by
  have hnn : ((n : Int) != (n : Int)) = false := by simp
  have HS : Hid (∀ i, i < n → str (wat rs i).l = str (wat us i).l) := hs
  have HC1 : Hid (∀ i, i < n → RawIn w (wat rs i)) := fun i hi => (hW1 i (by omega)).2
  have HC2 : Hid (∀ i, i < n → RawIn w (wat us i)) := fun i hi => (hW2 i (by omega)).2
  have HD1 : Hid (∀ i, i < n → w.cell? ⟨b1, o1 + i, none⟩ = some (wat rs i).v) := fun i hi => (hW1 i (by omega)).1
  have HD2 : Hid (∀ i, i < n → w.cell? ⟨b2, o2 + i, none⟩ = some (wat us i).v) := fun i hi => (hW2 i (by omega)).1
  clear hs h1 h2 hW1 hW2
  go_enter Tryd.func35, Tryd.ntmps35
  go_wp2_with fail
  go_loopw [5] (fun t wr => ∃ (k nq : Nat), k ≤ n ∧ t = .int .i64 (k : Int) ∧ wr = w.drewN nq) (fun t _ => n - (intOf t).toNat)
  case atStart => exact ⟨0, 0, by omega, rfl, rfl⟩
  case round =>
    obtain ⟨k, nq, hk, rfl, rfl⟩ := hrel
    by_cases hlt : k < n
    · obtain rfl := ha1 (by omega)
      obtain rfl := ha2 (by omega)
      have hd1 := HD1.out k hlt
      have hd2 := HD2.out k hlt
      have hv1 := fun nq => (HC1.out k hlt).conv nq
      have hv2 := fun nq => (HC2.out k hlt).conv nq
      have hss : ((str (wat rs k).l).toList == (str (wat us k).l).toList) = true := by rw [HS.out k hlt, beq_iff_eq]
      have hkn : (k : Int) < (n : Int) := by omega
      go_wp2_with fail
      go_quiet (fail)
      go_wp2_with fail
      exact ⟨⟨k + 1, _, by omega, by go_num, rfl⟩, by simp [intOf]; omega⟩
    · obtain rfl : k = n := by omega
      go_wp2_with fail
      go_ret
      exact ⟨rfl, nq, rfl⟩

end Go.Proofs.YtjabhnhejbhgjaaDoor
