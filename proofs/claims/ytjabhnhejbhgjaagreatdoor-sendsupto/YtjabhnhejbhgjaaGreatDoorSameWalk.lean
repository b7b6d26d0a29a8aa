/- sameList. -/
import Derived.Test.YtjabhnhejbhgjaaGreatDoorToldWalk
import Derived.Test.YtjabhnhejbhgjaaGreatDoorConvLaws
import Derived.Deep.QuietTactic
import Derived.BigQuiet
namespace Go.Proofs.YtjabhnhejbhgjaaGreatDoor
open Go.RowKit

theorem RawIn.conv {w : World} {r : Raw} (h : RawIn w r) (nq : Nat) : (convert 33 9 r.v).run Tryz.prog (w.drewN nq) = .ok (.string (str r.l)) (w.drewN nq) := by
  obtain ⟨a, c, h1, h2⟩ := h
  rw [h1]
  by_cases hl : 0 < r.l.length
  · obtain ⟨b, o, rfl, h4⟩ := h2 hl
    exact h4.convN _ c rfl nq
  · have e : r.l = [] := List.length_eq_zero_iff.1 (by omega)
    rw [e]
    show (convert 33 9 (.slice a 0 c)).run Tryz.prog (w.drewN nq) = .ok (.string ByteArray.empty) (w.drewN nq)
    rw [run_convert_bytes_string _ _ _ _ _ _ _ Tryz.underlying33 Tryz.underlying5 Tryz.underlying9]
    cases a with
    | none => rfl
    | some a => simp [Conv.bytesToString, loadCells]; rfl

def sameB (rs us : List Raw) (n : Nat) : Bool := decide (∀ i, i < n → str (wat rs i).l = str (wat us i).l)

end Go.Proofs.YtjabhnhejbhgjaaGreatDoor
