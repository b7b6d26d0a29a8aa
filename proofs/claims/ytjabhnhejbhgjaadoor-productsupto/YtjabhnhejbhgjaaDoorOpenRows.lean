/- Arguments of Products as they came in: rows of bytes, numbers. -/
import Derived.Test.YtjabhnhejbhgjaaDoorBulk
import Derived.Test.YtjabhnhejbhgjaaDoorProductsWalk
import Derived.ProofKit
import Derived.OpenShut
import Derived.Deep.Matrix
namespace Go.Proofs.YtjabhnhejbhgjaaDoor
open Go.ChangeShapes Go.WideShapes Go.ChangeAt Go.RowKit

theorem addr_plain {w : World} {x : Addr} {v : Value} (h : w.cell? (x.add 0) = some v) : x = ⟨x.block, x.off, none⟩ := by
  obtain ⟨b, off, spot⟩ := x
  have hspot : spot = none := by simpa [Addr.add] using World.cell?_spot h
  subst hspot
  rfl
theorem addr_add (b o i : Nat) : (⟨b, o, none⟩ : Addr).add i = ⟨b, o + i, none⟩ := by unfold Addr.add; split <;> simp_all
theorem wf_u8 {z : Int} (h : (Lit.int .u8 z).wf = true) : 0 ≤ z ∧ z ≤ 255 := by
  simp [Lit.wf, IntKind.min, IntKind.max, IntKind.signed, IntKind.bits] at h
  omega
theorem byte_back {z : Int} (h : 0 ≤ z ∧ z ≤ 255) : (((BitVec.ofInt 8 z : Gf.F).toNat : Nat) : Int) = z := by
  rw [BitVec.toNat_ofInt]
  omega

theorem Tryd.cellsRow : Tryd.prog.cellsOf 33 = 1 := by kernel_rfl
theorem Tryd.cellsByte : Tryd.prog.cellsOf 5 = 1 := by kernel_rfl
theorem Tryd.cellsInt : Tryd.prog.cellsOf 3 = 1 := by kernel_rfl

theorem bytes_cut {Z : List Int} {L : Nat} (hL : L ≤ Z.length) : ((Z.take L).map (BitVec.ofInt 8 : Int → Gf.F)).length = L := by simp; omega

theorem bytes_at {Z : List Int} {L j : Nat} (hL : L ≤ Z.length) (hj : j < L) (hw : ∀ n ∈ Z, (Lit.int .u8 n).wf = true) : ((at_ ((Z.take L).map (BitVec.ofInt 8 : Int → Gf.F)) j).toNat : Int) = Z.getD j 0 := by
  have hj' : j < Z.length := by omega
  have e : at_ ((Z.take L).map (BitVec.ofInt 8 : Int → Gf.F)) j = BitVec.ofInt 8 (Z.getD j 0) := by
    simp [at_, List.getD, hj, hj']
  rw [e]
  refine byte_back (wf_u8 (hw _ ?_))
  rw [List.getD_eq_getElem?_getD, List.getElem?_eq_getElem hj']
  exact List.getElem_mem hj'

theorem came_rows {H : Type} {enc : TypeId × Value → H} {W : World} {a0 : Option Addr} {l0 c0 : Nat} {d : DataW H} {ps : List MemPlace} (h0 : 0 < W.heap.size)
    (h : DataW.Trod enc Tryd.prog W 0 (fun _ => true) true 31 (.slice a0 l0 c0) d ps) (hbulk : Rows.uptoBulk d ≤ 1048576) : ∃ lb lo rs, Came W W.heap.size a0 lb lo l0 rs := by
  obtain ⟨fuel, hf⟩ := h
  rcases Deep.open_int_rows Tryd.underlying31 Tryd.underlying33 Tryd.underlying5 Tryd.cellsRow Tryd.cellsByte hf with ⟨hcs, _⟩ | ⟨a, len, cap, A, L, C, Z, hcs, _, hl, hm, hx, hrow⟩
  · simp [Value.cells] at hcs
    obtain ⟨rfl, rfl, rfl⟩ := hcs
    exact ⟨0, 0, [], rfl, by omega, fun i hi => by omega, fun h => by omega, fun i hi => by simp at hi, h0, fun i hi => by omega⟩
  · simp [Value.cells] at hcs
    obtain ⟨rfl, rfl, rfl⟩ := hcs
    simp only [Prod.mk.injEq] at hx
    obtain ⟨rfl, _⟩ := hx
    have hb1 := bulk_slice (H := H) ((List.range l0).map fun r => Deep.intRow .u8 (A r) (L r) (Z r)) ((List.range (c0 - l0)).map fun j => Deep.intRow .u8 (A (l0 + j)) (L (l0 + j)) (Z (l0 + j)))
    have hfew : l0 ≤ 1048576 := by
      have := bulk_count (H := H) ((List.range l0).map fun r => Deep.intRow .u8 (A r) (L r) (Z r))
      simp only [List.length_map, List.length_range] at this
      omega
    have hLen : ∀ r, r < l0 → ((Z r).take (L r) |>.map (BitVec.ofInt 8 : Int → Gf.F)).length = L r := fun r hr => by
      obtain ⟨_, h1, _, h2, _⟩ := hrow r (by omega)
      exact bytes_cut (by omega)
    by_cases hz : l0 = 0
    · subst hz
      exact ⟨0, 0, [], rfl, by omega, fun i hi => by omega, fun h => by omega, fun i hi => by simp at hi, h0, fun i hi => by omega⟩
    have hap : a = ⟨a.block, a.off, none⟩ := addr_plain (hrow 0 (by omega)).1
    let rs : List Raw := (List.range l0).map fun r => ⟨.slice (A r) (L r) (C r), ((Z r).take (L r)).map (BitVec.ofInt 8 : Int → Gf.F)⟩
    have hat : ∀ i, i < l0 → wat rs i = ⟨.slice (A i) (L i) (C i), ((Z i).take (L i)).map (BitVec.ofInt 8 : Int → Gf.F)⟩ := fun i hi => by simp [wat, rs, List.getD, hi]
    have hrl : rs.length = l0 := by simp [rs]
    refine ⟨a.block, a.off, rs, hrl, hfew, fun i hi => ?_, fun _ => by rw [← hap], fun i hi => ?_, ?_, fun i hi h1 g hg => ?_⟩
    · rw [hat i hi]
      show ((Z i).take (L i) |>.map (BitVec.ofInt 8 : Int → Gf.F)).length ≤ _
      rw [hLen i hi]
      have hmem : (Deep.intRow .u8 (A i) (L i) (Z i) : DataW H) ∈ (List.range l0).map fun r => Deep.intRow .u8 (A r) (L r) (Z r) := List.mem_map.2 ⟨i, List.mem_range.2 hi, rfl⟩
      have hb2 : Rows.uptoBulk (Deep.intRow .u8 (A i) (L i) (Z i) : DataW H) ≤ 1048576 := Nat.le_trans (bulk_of_mem hmem) (Nat.le_trans hb1 hbulk)
      obtain ⟨_, q1, _, q2, _, q3, _⟩ := hrow i (by omega)
      cases hA : A i with
      | none => have := q3 hA; omega
      | some a' =>
        rw [hA] at hb2
        unfold Deep.intRow at hb2
        have hb3 := bulk_slice (H := H) (lits .u8 ((Z i).take (L i))) (lits .u8 ((Z i).drop (L i)))
        have hb4 := bulk_count (H := H) (lits .u8 ((Z i).take (L i)))
        simp only [lits, List.length_map, List.length_take] at hb4
        simp only [lits] at hb2 hb3
        omega
    · rw [hrl] at hi
      obtain ⟨q0, q1, _, q2, q4, q3, q5⟩ := hrow i (by omega)
      rw [hat i hi]
      refine ⟨by rw [← addr_add, ← hap]; exact q0, A i, C i, by rw [hLen i hi], fun h1 => ?_⟩
      rw [hLen i hi] at h1
      cases hA : A i with
      | none => have := q3 hA; omega
      | some a' =>
        obtain ⟨_, q6⟩ := q5 a' hA
        have hap' : a' = ⟨a'.block, a'.off, none⟩ := addr_plain (q6 0 (by omega))
        refine ⟨a'.block, a'.off, by rw [← hap'], fun j hj => ?_⟩
        rw [hLen i hi] at hj
        rw [bytes_at (by omega) hj q4, ← addr_add, ← hap']
        exact q6 j (by omega)
    · have q0 := (hrow 0 (by omega)).1
      rw [hap, addr_add] at q0
      exact lt_of_cell (a := ⟨a.block, a.off + 0, none⟩) q0
    · rw [hat i hi] at h1 hg
      rw [hLen i hi] at h1
      obtain ⟨q0, q1, _, q2, q4, q3, q5⟩ := hrow i (by omega)
      cases hA : A i with
      | none => have := q3 hA; omega
      | some a' =>
        obtain ⟨_, q6⟩ := q5 a' hA
        have hap' : a' = ⟨a'.block, a'.off, none⟩ := addr_plain (q6 0 (by omega))
        have q7 := q6 0 (by omega)
        rw [hap', addr_add] at q7
        have q8 := lt_of_cell (a := ⟨a'.block, a'.off + 0, none⟩) q7
        simp only [hA, Value.ownBlock] at hg
        simp at hg
        subst hg
        exact q8

theorem came_ints {H : Type} {enc : TypeId × Value → H} {W : World} {a0 : Option Addr} {l0 c0 : Nat} {d : DataW H} {ps : List MemPlace} (h0 : 0 < W.heap.size)
    (h : DataW.Trod enc Tryd.prog W 0 (fun _ => true) true 32 (.slice a0 l0 c0) d ps) (hbulk : Rows.uptoBulk d ≤ 1048576) : ∃ zb zo l, CameZ W W.heap.size a0 zb zo l0 l := by
  obtain ⟨fuel, hf⟩ := h
  rcases open_ints Tryd.underlying32 Tryd.underlying3 Tryd.cellsInt hf with ⟨hcs, _⟩ | ⟨x, l, c, zs, hcs, _, hl, hm, hz, hx, hcell, hwz⟩
  · simp [Value.cells] at hcs
    obtain ⟨rfl, rfl, rfl⟩ := hcs
    exact ⟨0, 0, [], rfl, by omega, fun h => by omega, fun i hi => by simp at hi, h0⟩
  · simp [Value.cells] at hcs
    obtain ⟨rfl, rfl, rfl⟩ := hcs
    simp only [Prod.mk.injEq] at hx
    obtain ⟨rfl, _⟩ := hx
    simp only [if_true] at hz
    have hb1 := bulk_slice (H := H) (lits .i64 (zs.take l0)) (lits .i64 (zs.drop l0))
    have hb2 := bulk_count (H := H) (lits .i64 (zs.take l0))
    simp only [lits, List.length_map, List.length_take] at hb2
    simp only [lits] at hb1 hbulk
    by_cases hz0 : l0 = 0
    · subst hz0
      exact ⟨0, 0, [], rfl, by omega, fun h => by omega, fun i hi => by simp at hi, h0⟩
    have hxp : x = ⟨x.block, x.off, none⟩ := addr_plain (hcell 0 (by omega))
    refine ⟨x.block, x.off, zs.take l0, by simp; omega, by omega, fun _ => by rw [← hxp], fun i hi => ?_, ?_⟩
    · have hi' : i < l0 := by simp at hi; omega
      have e : zat (zs.take l0) i = zs.getD i 0 := by simp [zat, List.getD, hi']
      rw [e, ← addr_add, ← hxp]
      exact hcell i (by omega)
    · have q := hcell 0 (by omega)
      rw [hxp, addr_add] at q
      exact lt_of_cell (a := ⟨x.block, x.off + 0, none⟩) q

end Go.Proofs.YtjabhnhejbhgjaaDoor
