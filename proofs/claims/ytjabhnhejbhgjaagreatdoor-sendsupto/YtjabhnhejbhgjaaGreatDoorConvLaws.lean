/- Bytes as a string; a string copied into bytes. -/
import Derived.Test.YtjabhnhejbhgjaaGreatDoorRows
import Derived.Test.YtjabhnhejbhgjaaGreatDoorMem
import Derived.Laws.BytesArg
import Derived.Laws.CopyRow
namespace Go.Proofs.YtjabhnhejbhgjaaGreatDoor
open Go.RowKit

def nums (l : List Gf.F) : List Int := l.map fun x => (x.toNat : Int)
/-- The string of bytes. -/
def str (l : List Gf.F) : ByteArray := strOfNums (nums l)

theorem Bs.conv {w : World} {b o : Nat} {l : List Gf.F} (h : Bs w b o l) (n c : Nat) (hn : l.length = n) :
    (convert 33 9 (.slice (some ⟨b, o, none⟩) n c)).run Tryz.prog w = .ok (.string (str l)) w := by
  refine run_convert_bytes_arg (P := Tryz.prog) w 33 5 Tryz.underlying33 Tryz.underlying5 b o n c (nums l) (by simp [nums, hn]) (fun i hi => ?_) 9 Tryz.underlying9
  rw [h i (by omega)]
  have : i < l.length := by omega
  simp [nums, at_, List.getD, this]

theorem Bs.convN {w : World} {b o : Nat} {l : List Gf.F} (h : Bs w b o l) (n c : Nat) (hn : l.length = n) (nq : Nat) :
    (convert 33 9 (.slice (some ⟨b, o, none⟩) n c)).run Tryz.prog (w.drewN nq) = .ok (.string (str l)) (w.drewN nq) :=
  Bs.conv (fun i hi => by rw [World.cell?_drewN]; exact h i hi) n c hn

/-- The bytes of a string, as numbers of the field. -/
def bytesIn (s : ByteArray) : List Gf.F := s.data.toList.map fun x => BitVec.ofNat 8 x.toNat

theorem size_data (s : ByteArray) : s.data.toList.length = s.size := Array.length_toList

/-- A string copied into n bytes. -/
def copied (s : ByteArray) (n : Nat) : List Gf.F := (bytesIn s).take n ++ List.replicate (n - s.size) 0

theorem copied_length (s : ByteArray) (n : Nat) : (copied s n).length = n := by
  have := size_data s
  simp only [copied, bytesIn, List.length_append, List.length_take, List.length_map, List.length_replicate]
  omega

theorem copied_enc (s : ByteArray) (n : Nat) : (List.take (s.size.min n) (List.map (fun b : UInt8 => Value.int .u8 (b.toNat : Int)) s.data.toList) ++ List.drop (s.size.min n) (enc (List.replicate n 0#8)).toList).toArray.toList = (enc (copied s n)).toList := by
  have h2 := size_data s
  have e1 : (enc (List.replicate n 0#8)).toList = List.replicate n (Value.int .u8 0) := by simp [enc]
  have e2 : (enc (copied s n)).toList = List.take n (List.map (fun b : UInt8 => Value.int .u8 (b.toNat : Int)) s.data.toList) ++ List.replicate (n - s.size) (Value.int .u8 0) := by
    simp only [enc, copied, bytesIn, List.map_append, List.map_take, List.map_map, List.map_replicate]
    have e3 : List.map ((fun x : Gf.F => Value.int .u8 (x.toNat : Int)) ∘ fun x : UInt8 => BitVec.ofNat 8 x.toNat) s.data.toList = List.map (fun b : UInt8 => Value.int .u8 (b.toNat : Int)) s.data.toList := by
      apply List.map_congr_left
      intro x _
      have hx : x.toNat < 256 := x.toNat_lt
      simp only [Function.comp_apply, BitVec.toNat_ofNat]
      rw [Nat.mod_eq_of_lt (by omega)]
    rw [e3]; rfl
  rw [e1, e2, List.drop_replicate]
  rcases Nat.le_total n s.size with h | h
  · have q : s.size.min n = n := Nat.min_eq_right h
    rw [q, show n - n = n - s.size by omega]
  · have q : s.size.min n = s.size := Nat.min_eq_left h
    rw [q, List.take_of_length_le (by rw [List.length_map, h2]; exact Nat.le_refl _), List.take_of_length_le (by rw [List.length_map, h2]; exact h)]

theorem run_copy_str (w : World) (g n : Nat) (s : ByteArray) (ty : TypeId) (hG : Blk w g (List.replicate n 0)) :
    ∃ w', (Builtin.copy_ #[33, 9] ty #[.slice (some ⟨g, 0, none⟩) n n, .string s]).run Tryz.prog w = .ok (goInt (Nat.min s.size n)) w' ∧ Blk w' g (copied s n) ∧ OnlyAt g w w' := by
  have hlen : (List.take (s.size.min n) (List.map (fun b => Value.int .u8 b.toNat) s.data.toList)).length = s.size.min n := by
    have h2 := size_data s
    simp only [List.length_take, List.length_map]
    have h3 : s.size.min n ≤ s.size := Nat.min_le_left _ _
    omega
  have hst := run_storeCells_at Tryz.prog g 0 5 (List.take (s.size.min n) (List.map (fun b => Value.int .u8 b.toNat) s.data.toList)) 0 _ w hG (by
      have h1 : (enc (List.replicate n 0)).size = n := by simp [enc]
      have h3 : s.size.min n ≤ n := Nat.min_le_right _ _
      rw [h1, hlen]; omega) (by
      intro v hv
      obtain ⟨x, _, rfl⟩ := List.mem_map.1 (List.mem_of_mem_take hv)
      rfl)
  rw [hlen] at hst
  obtain ⟨i, hi, his⟩ := Option.map_eq_some_iff.1 (show (Tryz.prog.info? 5).map (·.size) = some 1 by kernel_rfl)
  refine ⟨_, by simp only [Builtin.copy_]; simp [run_underlying Tryz.underlying33, Builtin.lenOf, Builtin.firstCells, sizeOf, typeInfo, hi, hst]; rfl, ?_, ?_⟩
  · unfold Blk
    rw [setRow_heap w g _ _ _ _ hG]
    refine congrArg (fun a => some (Obj.cells a 5 (0, 0))) ?_
    apply Array.ext'
    exact copied_enc s n
  · exact ⟨rfl, rfl, rfl, by simp [World.setRow], fun k hk => setRow_other w g k _ hk⟩

end Go.Proofs.YtjabhnhejbhgjaaGreatDoor
