import Derived.Test.YtjabhnhejbhgjaaGreatDoorRows
import Derived.Test.YtjabhnhejbhgjaaGreatDoorErrs
import Derived.ProofKit
import Derived.LaidMore
import Derived.OpenShut
import Derived.LaidLaws
import Derived.Stop.Joined
import Derived.Test.YtjabhnhejbhgjaaGreatDoorMany11
import Derived.LaidHandle
import Derived.Deep.Slices
import Derived.Test.YtjabhnhejbhgjaaGreatDoorCards
import Derived.Test.YtjabhnhejbhgjaaGreatDoorTie
import Derived.SliceStrings
import Derived.SizedLaws
import Derived.SevenTiedAt
import Derived.Lib.SmallJoins
import Derived.Deep.DeepHandedRow
import Derived.Deep.DeepWitnessRowRef
/- What the bound on bulk gives. -/
namespace Go.Proofs.YtjabhnhejbhgjaaGreatDoor

theorem bulk_pos {H : Type} (d : DataW H) : 0 < Rows.uptoBulk d := by
  cases d
  case lit l => cases l <;> simp [Rows.uptoBulk]
  all_goals simp [Rows.uptoBulk]
theorem bulk_of_mem {H : Type} {d : DataW H} : ∀ {l : List (DataW H)}, d ∈ l → Rows.uptoBulk d ≤ Rows.uptoBulkAll l
  | [], h => by simp at h
  | x :: r, h => by
    rw [Rows.uptoBulkAll]
    rcases List.mem_cons.1 h with rfl | h
    · omega
    · have := bulk_of_mem h; omega
theorem bulk_count {H : Type} : ∀ (l : List (DataW H)), l.length ≤ Rows.uptoBulkAll l
  | [] => by simp
  | x :: r => by
    rw [Rows.uptoBulkAll]
    have := bulk_pos x
    have := bulk_count r
    simp; omega
theorem bulk_slice {H : Type} (elems spare : List (DataW H)) : Rows.uptoBulkAll elems ≤ Rows.uptoBulk (.slice elems spare) := by
  rw [Rows.uptoBulk]; omega

end Go.Proofs.YtjabhnhejbhgjaaGreatDoor

/- What the listed variables give: the eight errors. -/
namespace Go.Proofs.YtjabhnhejbhgjaaGreatDoor
open Go.ChangeShapes Go.WideShapes Go.ChangeAt Go.RowKit

theorem Tryz.cellsErr : Tryz.prog.cellsOf 290 = 1 := by kernel_rfl
theorem Tryz.cellsStr : Tryz.prog.cellsOf 9 = 1 := by kernel_rfl
theorem Tryz.star : "*" ++ "errors.errorString" = "*errors.errorString" := by decide
theorem Tryz.errNamed (u : TypeId) (h : Tryz.prog.typeName? 3 u = some "*errors.errorString") : u = 269 :=
  typeName_ptr_named (nm := "errors.errorString") (by rw [Tryz.star]; kernel_rfl) (by kernel_rfl) (by decide) u (by rw [Tryz.star]; exact h)

set_option maxRecDepth 100000 in
/-- The head of a list of errors: its pointer; the rest. -/
theorem laid_head {W : World} {n : String} {text : List UInt8} {r : List (String × DataW Unit)} {ps : List MemPlace} {g : Nat}
    (h : DataW.LaidVars Tryz.prog W ((n, .iface "*errors.errorString" (.ptr (.agg [.lit (.string text)]))) :: r) ps)
    (hrows : ∀ b off, MemPlace.cell b off ∈ ps → (∃ c t, W.heap[b]? = some (.cells c t (0, 0))) ∧ ∀ u v, W.cell? ⟨b, off, none⟩ = some (.iface u v) → Value.okWide Tryz.prog W .any 0 u v)
    (hg : Tryz.prog.globalNamed n = some g) (ht : (Tryz.prog.globals[g]?).map (·.type) = some 45) :
    ∃ (a : Addr) (q : List MemPlace), W.cell? ⟨g, 0, none⟩ = some (.iface 269 (.pointer (some a))) ∧ (∃ c t, W.heap[a.block]? = some (.cells c t (0, 0))) ∧
      DataW.LaidVars Tryz.prog W r q ∧ ps = .cell g 0 :: .cell a.block a.off :: q := by
  obtain ⟨g0, t0, cs0, f0, p0, q0, hg0, ht0, hv0, hd0, hr, e0⟩ := h
  obtain rfl := Option.some.inj (hg.symm.trans hg0)
  obtain rfl := Option.some.inj (ht.symm.trans ht0)
  subst e0
  obtain ⟨l0⟩ := cs0
  have ok0 : ∀ u v, l0 = [.iface u v] → Value.okWide Tryz.prog W .any 0 u v := fun u v e => by
    subst e
    exact (hrows g 0 (by simp [MemPlace.row])).2 u v (by simpa using World.var?_cell hg0 hv0 0)
  obtain ⟨a0, s0, rfl, hc0, hs0, hz0, rfl⟩ := errorString_of_trod Tryz.underlying45 Tryz.errNamed Tryz.underlying269 Tryz.underlying290 rfl rfl Tryz.underlying9 Tryz.cellsErr Tryz.cellsStr hd0 ok0
  refine ⟨a0, q0, by simpa using World.var?_cell hg0 hv0 0, (hrows a0.block a0.off (by simp [MemPlace.row])).1, hr, by simp [MemPlace.row]⟩

theorem Tryz.gErrConfig : Tryz.prog.globalNamed "murmur/api.ErrConfig" = some 4 := by kernel_rfl
theorem Tryz.tErrConfig : (Tryz.prog.globals[4]?).map (·.type) = some 45 := by kernel_rfl
theorem Tryz.gErrArg : Tryz.prog.globalNamed "murmur/api.ErrArg" = some 5 := by kernel_rfl
theorem Tryz.tErrArg : (Tryz.prog.globals[5]?).map (·.type) = some 45 := by kernel_rfl
theorem Tryz.gErrFull : Tryz.prog.globalNamed "murmur/api.ErrFull" = some 1 := by kernel_rfl
theorem Tryz.tErrFull : (Tryz.prog.globals[1]?).map (·.type) = some 45 := by kernel_rfl
theorem Tryz.gErrShort : Tryz.prog.globalNamed "murmur/api.ErrShort" = some 6 := by kernel_rfl
theorem Tryz.tErrShort : (Tryz.prog.globals[6]?).map (·.type) = some 45 := by kernel_rfl
theorem Tryz.gErrType : Tryz.prog.globalNamed "murmur/api.ErrType" = some 3 := by kernel_rfl
theorem Tryz.tErrType : (Tryz.prog.globals[3]?).map (·.type) = some 45 := by kernel_rfl
theorem Tryz.gErrField : Tryz.prog.globalNamed "murmur/api.ErrField" = some 2 := by kernel_rfl
theorem Tryz.tErrField : (Tryz.prog.globals[2]?).map (·.type) = some 45 := by kernel_rfl
theorem Tryz.gErrLong : Tryz.prog.globalNamed "murmur/api.ErrLong" = some 7 := by kernel_rfl
theorem Tryz.tErrLong : (Tryz.prog.globals[7]?).map (·.type) = some 45 := by kernel_rfl
theorem Tryz.gErrClosed : Tryz.prog.globalNamed "murmur/api.ErrClosed" = some 0 := by kernel_rfl
theorem Tryz.tErrClosed : (Tryz.prog.globals[0]?).map (·.type) = some 45 := by kernel_rfl

def eightLaid : List (String × DataW Unit) := [("murmur/api.ErrConfig", Rows.laid_murmur_api_ErrConfig), ("murmur/api.ErrArg", Rows.laid_murmur_api_ErrArg), ("murmur/api.ErrFull", Rows.laid_murmur_api_ErrFull), ("murmur/api.ErrShort", Rows.laid_murmur_api_ErrShort), ("murmur/api.ErrType", Rows.laid_murmur_api_ErrType), ("murmur/api.ErrField", Rows.laid_murmur_api_ErrField), ("murmur/api.ErrLong", Rows.laid_murmur_api_ErrLong), ("murmur/api.ErrClosed", Rows.laid_murmur_api_ErrClosed)]

def addrOf (l : List Addr) (i : Nat) : Addr := l[i]?.getD default

theorem errs_of_laid {W : World} (h : laidMetH Tryz.prog eightLaid W) : ∃ A, Errs A W.heap.size W := by
  rw [MakeChecks.laidMetH_plain _ _ _ (by kernel_rfl)] at h
  obtain ⟨ps, hl, hnd, hrows⟩ := h
  obtain ⟨a0, q0, c0, b0, l0, e0⟩ := laid_head hl hrows Tryz.gErrConfig Tryz.tErrConfig
  have r0 : ∀ b off, MemPlace.cell b off ∈ q0 → (∃ c t, W.heap[b]? = some (.cells c t (0, 0))) ∧ ∀ u v, W.cell? ⟨b, off, none⟩ = some (.iface u v) → Value.okWide Tryz.prog W .any 0 u v := fun b off hm => hrows b off (by rw [e0]; exact List.mem_cons_of_mem _ (List.mem_cons_of_mem _ hm))
  obtain ⟨a1, q1, c1, b1, l1, e1⟩ := laid_head l0 r0 Tryz.gErrArg Tryz.tErrArg
  have r1 : ∀ b off, MemPlace.cell b off ∈ q1 → (∃ c t, W.heap[b]? = some (.cells c t (0, 0))) ∧ ∀ u v, W.cell? ⟨b, off, none⟩ = some (.iface u v) → Value.okWide Tryz.prog W .any 0 u v := fun b off hm => r0 b off (by rw [e1]; exact List.mem_cons_of_mem _ (List.mem_cons_of_mem _ hm))
  obtain ⟨a2, q2, c2, b2, l2, e2⟩ := laid_head l1 r1 Tryz.gErrFull Tryz.tErrFull
  have r2 : ∀ b off, MemPlace.cell b off ∈ q2 → (∃ c t, W.heap[b]? = some (.cells c t (0, 0))) ∧ ∀ u v, W.cell? ⟨b, off, none⟩ = some (.iface u v) → Value.okWide Tryz.prog W .any 0 u v := fun b off hm => r1 b off (by rw [e2]; exact List.mem_cons_of_mem _ (List.mem_cons_of_mem _ hm))
  obtain ⟨a3, q3, c3, b3, l3, e3⟩ := laid_head l2 r2 Tryz.gErrShort Tryz.tErrShort
  have r3 : ∀ b off, MemPlace.cell b off ∈ q3 → (∃ c t, W.heap[b]? = some (.cells c t (0, 0))) ∧ ∀ u v, W.cell? ⟨b, off, none⟩ = some (.iface u v) → Value.okWide Tryz.prog W .any 0 u v := fun b off hm => r2 b off (by rw [e3]; exact List.mem_cons_of_mem _ (List.mem_cons_of_mem _ hm))
  obtain ⟨a4, q4, c4, b4, l4, e4⟩ := laid_head l3 r3 Tryz.gErrType Tryz.tErrType
  have r4 : ∀ b off, MemPlace.cell b off ∈ q4 → (∃ c t, W.heap[b]? = some (.cells c t (0, 0))) ∧ ∀ u v, W.cell? ⟨b, off, none⟩ = some (.iface u v) → Value.okWide Tryz.prog W .any 0 u v := fun b off hm => r3 b off (by rw [e4]; exact List.mem_cons_of_mem _ (List.mem_cons_of_mem _ hm))
  obtain ⟨a5, q5, c5, b5, l5, e5⟩ := laid_head l4 r4 Tryz.gErrField Tryz.tErrField
  have r5 : ∀ b off, MemPlace.cell b off ∈ q5 → (∃ c t, W.heap[b]? = some (.cells c t (0, 0))) ∧ ∀ u v, W.cell? ⟨b, off, none⟩ = some (.iface u v) → Value.okWide Tryz.prog W .any 0 u v := fun b off hm => r4 b off (by rw [e5]; exact List.mem_cons_of_mem _ (List.mem_cons_of_mem _ hm))
  obtain ⟨a6, q6, c6, b6, l6, e6⟩ := laid_head l5 r5 Tryz.gErrLong Tryz.tErrLong
  have r6 : ∀ b off, MemPlace.cell b off ∈ q6 → (∃ c t, W.heap[b]? = some (.cells c t (0, 0))) ∧ ∀ u v, W.cell? ⟨b, off, none⟩ = some (.iface u v) → Value.okWide Tryz.prog W .any 0 u v := fun b off hm => r5 b off (by rw [e6]; exact List.mem_cons_of_mem _ (List.mem_cons_of_mem _ hm))
  obtain ⟨a7, q7, c7, b7, l7, e7⟩ := laid_head l6 r6 Tryz.gErrClosed Tryz.tErrClosed
  have r7 : ∀ b off, MemPlace.cell b off ∈ q7 → (∃ c t, W.heap[b]? = some (.cells c t (0, 0))) ∧ ∀ u v, W.cell? ⟨b, off, none⟩ = some (.iface u v) → Value.okWide Tryz.prog W .any 0 u v := fun b off hm => r6 b off (by rw [e7]; exact List.mem_cons_of_mem _ (List.mem_cons_of_mem _ hm))
  obtain rfl : q7 = [] := l7
  subst e7 e6 e5 e4 e3 e2 e1 e0
  have hA : ([a0, a1, a2, a3, a4, a5, a6, a7].map fun a => MemPlace.cell a.block a.off).Nodup := by
    refine List.Nodup.sublist ?_ hnd
    simp only [List.map_cons, List.map_nil]
    repeat (first | exact List.Sublist.slnil | (refine List.Sublist.cons _ (List.Sublist.cons_cons _ ?_)))
  have low : ∀ {a : Addr}, (∃ c t, W.heap[a.block]? = some (.cells c t (0, 0))) → a.block < W.heap.size := by
    rintro a ⟨c, t, h⟩
    exact (Array.getElem?_eq_some_iff.1 h).1
  have eight : 7 < W.heap.size := by
    first | exact block_lt_of_cell c7 | exact block_lt_of_cell c6 | exact block_lt_of_cell c5 | exact block_lt_of_cell c4 | exact block_lt_of_cell c3 | exact block_lt_of_cell c2 | exact block_lt_of_cell c1 | exact block_lt_of_cell c0
  refine ⟨addrOf [a0, a1, a2, a3, a4, a5, a6, a7], ?_, ?_, ?_, ?_, eight, Nat.le_refl _⟩
  · intro g hg
    have : g = 0 ∨ g = 1 ∨ g = 2 ∨ g = 3 ∨ g = 4 ∨ g = 5 ∨ g = 6 ∨ g = 7 := by omega
    rcases this with rfl | rfl | rfl | rfl | rfl | rfl | rfl | rfl
    · exact c0
    · exact c1
    · exact c2
    · exact c3
    · exact c4
    · exact c5
    · exact c6
    · exact c7
  · intro i j hi hj e
    have hi' : i < ([a0, a1, a2, a3, a4, a5, a6, a7].map fun a => MemPlace.cell a.block a.off).length := hi
    have hj' : j < ([a0, a1, a2, a3, a4, a5, a6, a7].map fun a => MemPlace.cell a.block a.off).length := hj
    refine (List.getElem_inj (h₀ := hi') (h₁ := hj') hA).1 ?_
    have hi2 : i < [a0, a1, a2, a3, a4, a5, a6, a7].length := hi
    have hj2 : j < [a0, a1, a2, a3, a4, a5, a6, a7].length := hj
    rw [List.getElem_map, List.getElem_map]
    unfold addrOf at e
    rw [List.getElem?_eq_getElem hi2, List.getElem?_eq_getElem hj2] at e
    have e' : [a0, a1, a2, a3, a4, a5, a6, a7][i] = [a0, a1, a2, a3, a4, a5, a6, a7][j] := e
    rw [e']
  · intro i hi
    have : i = 0 ∨ i = 1 ∨ i = 2 ∨ i = 3 ∨ i = 4 ∨ i = 5 ∨ i = 6 ∨ i = 7 := by omega
    rcases this with rfl | rfl | rfl | rfl | rfl | rfl | rfl | rfl
    · exact b0
    · exact b1
    · exact b2
    · exact b3
    · exact b4
    · exact b5
    · exact b6
    · exact b7
  · intro i hi
    have : i = 0 ∨ i = 1 ∨ i = 2 ∨ i = 3 ∨ i = 4 ∨ i = 5 ∨ i = 6 ∨ i = 7 := by omega
    rcases this with rfl | rfl | rfl | rfl | rfl | rfl | rfl | rfl
    · exact low b0
    · exact low b1
    · exact low b2
    · exact low b3
    · exact low b4
    · exact low b5
    · exact low b6
    · exact low b7

end Go.Proofs.YtjabhnhejbhgjaaGreatDoor

/- A script as it came in as an argument; the handle of the type error. -/
namespace Go.Proofs.YtjabhnhejbhgjaaGreatDoor
open Go.ChangeShapes Go.WideShapes Go.ChangeAt Go.RowKit

theorem ob_plain {w : World} {x : Addr} {v : Value} (h : w.cell? (x.add 0) = some v) : x = ⟨x.block, x.off, none⟩ := by
  obtain ⟨b, off, spot⟩ := x
  have hspot : spot = none := by simpa [Addr.add] using World.cell?_spot h
  subst hspot
  rfl
theorem ob_add (b o i : Nat) : (⟨b, o, none⟩ : Addr).add i = ⟨b, o + i, none⟩ := by unfold Addr.add; split <;> simp_all
theorem ob_wf {z : Int} (h : (Lit.int .u8 z).wf = true) : 0 ≤ z ∧ z ≤ 255 := by
  simp [Lit.wf, IntKind.min, IntKind.max, IntKind.signed, IntKind.bits] at h
  omega
theorem ob_back {z : Int} (h : 0 ≤ z ∧ z ≤ 255) : (((BitVec.ofInt 8 z : Gf.F).toNat : Nat) : Int) = z := by
  rw [BitVec.toNat_ofInt]
  omega
theorem Tryz.cellsU8 : Tryz.prog.cellsOf 5 = 1 := by kernel_rfl

theorem ob_at {Z : List Int} {L j : Nat} (hL : L ≤ Z.length) (hj : j < L) (hw : ∀ n ∈ Z, (Lit.int .u8 n).wf = true) : ((at_ ((Z.take L).map (BitVec.ofInt 8 : Int → Gf.F)) j).toNat : Int) = Z.getD j 0 := by
  have hj' : j < Z.length := by omega
  have e : at_ ((Z.take L).map (BitVec.ofInt 8 : Int → Gf.F)) j = BitVec.ofInt 8 (Z.getD j 0) := by
    simp [at_, List.getD, hj, hj']
  rw [e]
  refine ob_back (ob_wf (hw _ ?_))
  rw [List.getD_eq_getElem?_getD, List.getElem?_eq_getElem hj']
  exact List.getElem_mem hj'

theorem Tryz.cellsI : Tryz.prog.cellsOf 3 = 1 := by kernel_rfl
theorem Tryz.cellsSl : Tryz.prog.cellsOf 33 = 1 := by kernel_rfl
theorem Tryz.cellsCf : Tryz.prog.cellsOf 30 = 3 := by kernel_rfl
theorem Tryz.cellsOp : Tryz.prog.cellsOf 83 = 8 := by kernel_rfl

theorem op_wf {z : Int} (h : (Lit.int .i64 z).wf = true) : -9223372036854775808 ≤ z ∧ z ≤ 9223372036854775807 := by
  simp [Lit.wf, IntKind.min, IntKind.max, IntKind.signed, IntKind.bits] at h
  omega

theorem bulk_agg {H : Type} (ds : List (DataW H)) : Rows.uptoBulkAll ds ≤ Rows.uptoBulk (.agg ds) := by
  rw [Rows.uptoBulk]; omega

/-- The bytes of a step. -/
theorem op_bytes {H : Type} {enc : TypeId × Value → H} {W : World} {fuel : Nat} {v : Value} {x : DataW H × List MemPlace} (h : DataW.trod enc Tryz.prog W 0 (fun _ => true) true fuel 33 [v] = some x) (hb : Rows.uptoBulk x.1 ≤ 1048576) :
    ∃ p n c b o l, v = .slice p n c ∧ OpB (fun _ => 1) W p b o n c l := by
  rcases open_ints Tryz.underlying33 Tryz.underlying5 Tryz.cellsU8 h with ⟨hcs, _⟩ | ⟨x', l, c, zs, hcs, _, hl, hm, hz, hx, hcell, hwz⟩
  · simp at hcs
    subst hcs
    exact ⟨none, 0, 0, 0, 0, [], rfl, OpB.nil _ _⟩
  · simp at hcs
    subst hcs
    obtain ⟨d, pl⟩ := x
    simp only [Prod.mk.injEq] at hx
    obtain ⟨rfl, _⟩ := hx
    simp only [if_true] at hz
    have hb1 := bulk_slice (H := H) (lits .u8 (zs.take l)) (lits .u8 (zs.drop l))
    have hb2 := bulk_count (H := H) (lits .u8 (zs.take l))
    simp only [lits, List.length_map, List.length_take] at hb2
    simp only [lits] at hb1 hb
    have hfew : l ≤ 1048576 := by omega
    have hm' : c ≤ 9223372036854775807 := by unfold maxLen at hm; omega
    by_cases hz0 : l = 0
    · subst hz0
      exact ⟨some x', 0, c, 0, 0, [], rfl, rfl, by omega, hm', by omega, fun h => by omega, fun i hi => by simp at hi, fun h => by omega⟩
    have hxp : x' = ⟨x'.block, x'.off, none⟩ := ob_plain (hcell 0 (by omega))
    refine ⟨some x', l, c, x'.block, x'.off, (zs.take l).map (BitVec.ofInt 8 : Int → Gf.F), rfl, by simp; omega, hl, hm', by omega, fun _ => by rw [← hxp], fun i hi => ?_, fun _ => ⟨?_, rfl⟩⟩
    · have hi' : i < l := by simp at hi; omega
      rw [ob_at (by omega) hi' hwz, ← ob_add, ← hxp]
      exact hcell i (by omega)
    · have q := hcell 0 (by omega)
      rw [hxp, ob_add] at q
      exact lt_of_cell (a := ⟨x'.block, x'.off + 0, none⟩) q

set_option maxRecDepth 100000 in
/-- A step. -/
theorem op_step {H : Type} {enc : TypeId × Value → H} {W : World} {fuel : Nat} {cs : List Value} {x : DataW H × List MemPlace} (h : DataW.trod enc Tryz.prog W 0 (fun _ => true) true fuel 83 cs = some x) (hb : Rows.uptoBulk x.1 ≤ 1048576) :
    ∃ q : Opb, cs = q.cells.toList ∧ OpB (fun _ => 1) W q.p q.b q.o q.n q.c q.l ∧ -9223372036854775808 ≤ q.on ∧ q.on ≤ 9223372036854775807 := by
  obtain ⟨xs, k, hk, hxy, hlen, hxl, hf⟩ := DataW.trod_struct Tryz.underlying83 h
  rw [Tryz.cellsOp] at hlen
  match xs, hxl, cs, hlen with
  | [y0, y1, y2, y3, y4, y5], _, [v0, v1, v2, v3, v4, v5, v6, v7], _ =>
    have g0 := hf 0 _ rfl
    have g1 := hf 1 _ rfl
    have g2 := hf 2 _ rfl
    have g3 := hf 3 _ rfl
    have g4 := hf 4 _ rfl
    have g5 := hf 5 _ rfl
    simp [Tryz.cellsI, Tryz.cellsSl, Tryz.cellsCf] at g0 g1 g2 g3 g4 g5
    obtain ⟨z0, e0, _, _⟩ := DataW.trod_int Tryz.underlying3 g0
    obtain ⟨z1, e1, _, w1⟩ := DataW.trod_int Tryz.underlying3 g1
    obtain ⟨z2, e2, _, _⟩ := DataW.trod_int Tryz.underlying3 g2
    obtain ⟨z3, e3, _, _⟩ := DataW.trod_int Tryz.underlying3 g3
    obtain ⟨ys, k4, hk4, hxy4, hlen4, hxl4, hf4⟩ := DataW.trod_struct Tryz.underlying30 g4
    have i0 := hf4 0 _ rfl
    have i1 := hf4 1 _ rfl
    have i2 := hf4 2 _ rfl
    match ys, hxl4 with
    | [u0, u1, u2], _ =>
      simp [Tryz.cellsI] at i0 i1 i2
      obtain ⟨z4, e4, _, _⟩ := DataW.trod_int Tryz.underlying3 i0
      obtain ⟨z5, e5, _, _⟩ := DataW.trod_int Tryz.underlying3 i1
      obtain ⟨z6, e6, _, _⟩ := DataW.trod_int Tryz.underlying3 i2
      obtain ⟨d, pl⟩ := x
      simp only [Prod.mk.injEq] at hxy
      obtain ⟨rfl, _⟩ := hxy
      have hb5 : Rows.uptoBulk y5.1 ≤ 1048576 := Nat.le_trans (bulk_of_mem (by simp)) (Nat.le_trans (bulk_agg _) hb)
      obtain ⟨p, n, c, b, o, l, e7, hO⟩ := op_bytes g5 hb5
      simp at e0 e1 e2 e3 e4 e5 e6
      subst e0 e1 e2 e3 e4 e5 e6 e7
      exact ⟨⟨⟨z0, z1, z2, z3, z4, z5, z6, p, n, c⟩, b, o, l⟩, rfl, hO, op_wf w1⟩

/-- A script. -/
theorem came_ops {H : Type} {enc : TypeId × Value → H} {W : World} {a0 : Option Addr} {l0 c0 : Nat} {d : DataW H} {ps : List MemPlace} (h : DataW.Trod enc Tryz.prog W 0 (fun _ => true) true 22 (.slice a0 l0 c0) d ps) (hbulk : Rows.uptoBulk d ≤ 1048576) :
    ∃ lb lo qs, OpsAt (fun _ => 1) W lb lo qs ∧ qs.length = l0 ∧ l0 ≤ 1048576 ∧ (0 < l0 → a0 = some ⟨lb, lo, none⟩) := by
  obtain ⟨fuel, hf⟩ := h
  rcases Deep.open_slice Tryz.underlying22 hf with ⟨hcs, _⟩ | ⟨a, len, cap, m, n, D, Pl, hcs, _, hl, hm, hmm, hx, hrow⟩
  · simp [Value.cells] at hcs
    obtain ⟨rfl, rfl, rfl⟩ := hcs
    exact ⟨0, 0, [], ⟨fun i hi => by simp at hi, fun i hi => by simp at hi, fun i hi => by simp at hi, fun h => by simp at h⟩, rfl, by omega, fun h => by omega⟩
  · simp [Value.cells] at hcs
    obtain ⟨rfl, rfl, rfl⟩ := hcs
    simp only [Prod.mk.injEq] at hx
    obtain ⟨rfl, _⟩ := hx
    simp only [if_true] at hmm
    have hb1 := bulk_slice (H := H) ((List.range l0).map D) ((List.range (m - l0)).map fun j => D (l0 + j))
    have hfew : l0 ≤ 1048576 := by
      have := bulk_count (H := H) ((List.range l0).map D)
      simp only [List.length_map, List.length_range] at this
      omega
    by_cases hz : l0 = 0
    · subst hz
      exact ⟨0, 0, [], ⟨fun i hi => by simp at hi, fun i hi => by simp at hi, fun i hi => by simp at hi, fun h => by simp at h⟩, rfl, by omega, fun h => by omega⟩
    have each : ∀ i, i < l0 → ∃ q : Opb, (∀ k, k < 8 → W.cell? (a.add (i * 8 + k)) = q.cells[k]?) ∧ OpB (fun _ => 1) W q.p q.b q.o q.n q.c q.l ∧ -9223372036854775808 ≤ q.on ∧ q.on ≤ 9223372036854775807 := fun i hi => by
      obtain ⟨cs', h1, h2⟩ := hrow i (by omega)
      rw [Tryz.cellsOp] at h1
      obtain ⟨_, hlen, hcell⟩ := World.cells?_some h1
      have hmem : D i ∈ (List.range l0).map D := List.mem_map.2 ⟨i, List.mem_range.2 hi, rfl⟩
      obtain ⟨q, rfl, hO, hon⟩ := op_step h2 (Nat.le_trans (bulk_of_mem hmem) (Nat.le_trans hb1 hbulk))
      refine ⟨q, fun k hk => ?_, hO, hon⟩
      have := hcell k hk
      rw [Deep.add_add] at this
      rw [this]
      simp
    haveI : Inhabited Opb := ⟨⟨⟨0, 0, 0, 0, 0, 0, 0, none, 0, 0⟩, 0, 0, []⟩⟩
    obtain ⟨f, hf'⟩ := Deep.choose_lt each
    have hap : a = ⟨a.block, a.off, none⟩ := by
      have := (hf' 0 (by omega)).1 0 (by omega)
      exact ob_plain (v := .int .i64 (f 0).kd) this
    have hat : ∀ i, i < l0 → qat ((List.range l0).map f) i = f i := fun i hi => by simp [qat, List.getD, hi]
    have hrl : ((List.range l0).map f).length = l0 := by simp
    refine ⟨a.block, a.off, (List.range l0).map f, ⟨fun i hi k hk => ?_, fun i hi => ?_, fun i hi => ?_, fun _ => ⟨?_, rfl⟩⟩, hrl, hfew, fun _ => by rw [← hap]⟩
    · rw [hrl] at hi
      rw [hat i hi, ← (hf' i hi).1 k hk, Nat.add_assoc, ← ob_add, ← hap]
    · rw [hrl] at hi
      rw [hat i hi]
      exact (hf' i hi).2.1
    · rw [hrl] at hi
      rw [hat i hi]
      exact (hf' i hi).2.2
    · have q := (hf' 0 (by omega)).1 0 (by omega)
      rw [hap, ob_add] at q
      exact lt_of_cell (a := ⟨a.block, a.off + (0 * 8 + 0), none⟩) (v := .int .i64 (f 0).kd) q

def nineLaid : List (String × DataW Unit) := ("errors.errorType", Rows.laid_errors_errorType) :: eightLaid
theorem Tryz.gErrorType : Tryz.prog.globalNamed "errors.errorType" = some 8 := by kernel_rfl
theorem Tryz.rtypeRow : (Tryz.prog.cutTypes.find? (·.1 == "internal/reflectlite.rtype")).map (·.2) = some 254 := by kernel_rfl
theorem Tryz.oneError : ((List.range 302).filter fun t => Tryz.prog.rowNamed t [101, 114, 114, 111, 114]) = [45] := by kernel_rfl
theorem Tryz.typesSize : Tryz.prog.types.size = 302 := by kernel_rfl

theorem nine_of_laid {W : World} (h : laidMetH Tryz.prog nineLaid W) : (∃ A, Errs A W.heap.size W) ∧ ErrType W ∧ 8 < W.heap.size := by
  have h' : laidMet Tryz.prog eightLaid W ∧ handlesMet Tryz.prog [("errors.errorType", Rows.laid_errors_errorType)] W := h
  have hE := errs_of_laid (W := W) (by rw [MakeChecks.laidMetH_plain _ _ _ (by kernel_rfl)]; exact h'.1)
  obtain ⟨name, u, ty, e1, e2, e3, e4, e5⟩ := h'.2 _ (List.mem_singleton.2 rfl)
  have en : name = [101, 114, 114, 111, 114] := (Option.some.inj e1).symm
  subst en
  obtain rfl := Option.some.inj (Tryz.rtypeRow.symm.trans e2)
  have hm : ty ∈ (List.range 302).filter fun t => Tryz.prog.rowNamed t [101, 114, 114, 111, 114] := List.mem_filter.2 ⟨List.mem_range.2 (by rw [← Tryz.typesSize]; exact e3), e4⟩
  rw [Tryz.oneError] at hm
  obtain rfl := List.mem_singleton.1 hm
  have hh : typeHandle Tryz.prog 45 = .pointer (some ⟨9, 45, none⟩) := by kernel_rfl
  rw [hh] at e5
  have hc : ErrType W := by
    unfold ErrType
    simpa using World.var?_cell Tryz.gErrorType e5 0
  exact ⟨hE, hc, lt_of_cell (a := ⟨8, 0, none⟩) hc⟩

end Go.Proofs.YtjabhnhejbhgjaaGreatDoor

/- The statement on Sends. -/
namespace Go.Proofs.YtjabhnhejbhgjaaGreatDoor
open Go.RowKit

set_option maxRecDepth 100000 in
set_option maxHeartbeats 1000000 in
theorem wSends_any {A : Nat → Addr} {w : World} {a : Option Addr} {L c lb lo : Nat} {qs : List Opb} (hE : Errs A w.heap.size w) (hT : ErrType w) (hTl : 8 < w.heap.size) (hq : OpsAt (fun _ => 1) w lb lo qs) (hL : qs.length = L) (hL2 : L ≤ 2000000) (ha : 0 < L → a = some ⟨lb, lo, none⟩) :
    Calls Tryz.prog 3 #[.slice a L c] w fun e w' => e = .returned (.bool true) ∧ Below w.heap.size w w' := by
  have HR : Hid (Calls Tryz.prog 10 #[.slice a L c, .int .i64 4] w fun e w' => e = .returned (.bool true) ∧ Below w.heap.size w w') := wrun_any hE hT hTl hq hL hL2 ha
  clear hE hT hTl hq hL ha
  go_enter Tryz.func3, Tryz.ntmps3
  go_wp2_with fail
  refine HR.out.mono ?_
  rintro e w' ⟨rfl, hb⟩
  go_wp2_with fail
  go_ret
  exact ⟨rfl, hb⟩

end Go.Proofs.YtjabhnhejbhgjaaGreatDoor
namespace Go.Proofs.YtjabhnhejbhgjaaGreatDoor.sends
open Go.ChangeShapes Go.WideShapes Go.ChangeAt Go.RowKit Go.Joins

theorem own : ownKnob Tryz.prog.godebug = none := by kernel_rfl
theorem laidOut : laidOutB Tryz.prog = true := by kernel_rfl

def args0 : Array Value := #[.slice none 0 0]

theorem door_met (os : Os) : laidMetH Tryz.prog nineLaid ((World.doorLaid Tryz.prog 168 os).forCall (fun _ _ => 0) ⟨#[], args0, []⟩).memory :=
  laidMetH_of_parts3 (fuel := 8) (laidMet_of_run' 8 (by kernel_rfl) (by kernel_rfl)) (by kernel_rfl) (by kernel_rfl)

theorem reads (os : Os) {H : Type} (enc : TypeId × Value → H) : ∃ places, DataW.whole enc Tryz.prog ((World.doorLaid Tryz.prog 168 os).forCall (fun _ _ => 0) ⟨#[], args0, []⟩).memory Tryz.f3.params.toList Rows.sendsSpec.vars false args0.toList 8 = some ([.nil], [], places) :=
  ⟨[], by kernel_rfl⟩

set_option maxRecDepth 100000 in
theorem contract (H : Type) (enc : TypeId × Value → H) (W : World) (base : Nat) (args : Array Value) (ds gs : List (DataW H)) (before : List MemPlace)
    (hval : ∀ (j : Nat) t v, Tryz.f3.params[j]? = some t → args[j]? = some v → Value.okWide Tryz.prog W .any base t v)
    (hW : DataW.Whole enc Tryz.prog Tryz.f3.params.toList Rows.sendsSpec.vars false W args.toList ds gs before) (hL : laidMetH Tryz.prog nineLaid W) (hk : Rows.uptoSmall H (ds ++ gs) = true) :
    Calls Tryz.prog 3 args W fun e W' => ∃ v, e = .returned v ∧ Rows.sendsSpec.post enc Tryz.prog Tryz.f3 false true false false W args v W' := by
  have hW' := hW
  obtain ⟨p, q, hA0, hV, rfl, hfz, hnd⟩ := hW
  have hA : DataW.TrodAll enc Tryz.prog W 0 (fun _ => true) true Tryz.f3.params.toList args.toList ds p := hA0
  rw [Tryz.params3] at hA hval
  obtain ⟨v0, vs0, d0, ds0, p0, q0, hargs, rfl, rfl, h0, r0⟩ := trodAll_cons hA
  obtain ⟨rfl, rfl, rfl⟩ := trodAll_nil r0
  obtain rfl : args = #[v0] := by cases args; simp_all
  obtain ⟨rfl, rfl⟩ := trodVars_none hV
  have hall : Rows.uptoBulkAll [d0] ≤ 1048576 := by
    have := of_decide_eq_true hk
    simpa only [List.append_nil] using this
  have b0 : Rows.uptoBulk d0 ≤ 1048576 := Nat.le_trans (bulk_of_mem (by simp)) hall
  obtain ⟨a0, l0, c0, rfl⟩ := okWide_slice Tryz.underlying22 (hval 0 22 v0 rfl rfl)
  have lt0 : ∀ x ∈ p0, x.block < W.heap.size := by obtain ⟨m, hm⟩ := h0; exact DataW.trod_lt m _ _ _ hm
  obtain ⟨⟨A, hE⟩, hT, hTl⟩ := nine_of_laid hL
  obtain ⟨lb, lo, qs, hq, hl, hl2, ha⟩ := came_ops h0 b0
  clear hA0 hval
  refine (wSends_any hE hT hTl hq hl (by omega) ha).mono fun e W' ⟨he, bel⟩ => ?_
  subst he
  exact ⟨_, rfl, _, _, _, [], _, [], hW', trodAll_mk1 (shut_bool Tryz.underlying4 _), (trodAll_cons_mk (Below.trod laidOut (by kernel_rfl) (of_decide_eq_true (by kernel_rfl)) h0 bel lt0) trodAll_mk0), rfl, bel.frame _, fun h => by cases h⟩

set_option maxRecDepth 100000 in
theorem lifted (os : Os) (started : os.Started) (H : Type) (enc : TypeId × Value → H) (F : Stop.Interp) :
    ReturnsInHanded {} Tryz.checked os 3 .any ((Rows.OpenSpec.upto Rows.sendsSpec).preRow enc Tryz.prog Tryz.f3 Rows.sendsUptoRow.domain false Rows.sendsUptoRow.laid) (((Rows.OpenSpec.upto Rows.sendsSpec).at F).post enc Tryz.prog Tryz.f3 false true false false) := by
  obtain ⟨places, hx⟩ := reads os enc
  refine returnsInHanded_of_row (C := Tryz.checked) (s := Rows.OpenSpec.upto Rows.sendsSpec) own started (by kernel_rfl) Tryz.func3
    (witness_row_atRef (enc := enc) (C := Tryz.checked) false (World.doorLaid Tryz.prog 168 os) args0 rfl (by kernel_rfl) (by kernel_rfl) (by kernel_rfl)
      (OpenSpec.preRow_of_cond 8 hx (by kernel_rfl) (fun k hk => by cases hk; kernel_rfl) (by kernel_rfl) (door_met os))) ?_
  intro W base args ds gs before hval hW _ hcond _ hL _ _
  exact contract H enc W base args ds gs before hval hW hL (hcond _ rfl)

theorem row : Rows.SendsUptoSaid :=
  OpenClaim.holds_of_cond 3 Tryz.f3 rfl rfl rfl rfl rfl rfl rfl ⟨rfl, rfl, rfl, rfl, rfl⟩ rfl rfl rfl rfl rfl (by kernel_rfl) Tryz.func3 (by kernel_rfl)
    (of_decide_eq_true (by kernel_rfl)) (by unfold Func.isWrapper; first | (rw [if_pos (by decide +kernel)]; kernel_rfl) | (rw [if_neg (by decide +kernel)]; exact ⟨rfl, rfl⟩))
    (fun os started H enc _ F => by rw [OpenClaim.pre_eq_preRow]; exact lifted os started H enc F)

end Go.Proofs.YtjabhnhejbhgjaaGreatDoor.sends
namespace Go.Proofs.YtjabhnhejbhgjaaGreatDoor
theorem sends_holds : Rows.SendsUptoCardSaid :=
  Claim7.holds_tied_plain_at .later [] [.handle, .sentinel, .sentinel, .sentinel, .sentinel, .sentinel, .sentinel, .sentinel, .sentinel] true (true, "1cb629169cf2df8672f84b77f200a70005ab4944d348927059f08c86f28e1272") true
    sends.row (fun _ h => by cases h) (by kernel_rfl) (fun _ h => by cases h) sendsUpto_row_tie rfl ⟨rfl, rfl⟩ (by kernel_rfl) rfl
    (fun f fn hf hfn => by
      obtain rfl : f = 3 := Option.some.inj ((show Tryz.prog.funcNamed Rows.sendsUptoRow.func = some 3 by kernel_rfl).symm.trans hf) |>.symm
      obtain rfl : fn = Tryz.f3 := (Option.some.inj (Tryz.func3.symm.trans hfn)).symm
      exact ⟨by kernel_rfl, fun j t ht => by
        rw [Tryz.params3] at ht
        have hm : t ∈ [22] := by simpa using Array.mem_of_getElem? ht
        have hall : ([22].all fun u => !Tryz.prog.wantsStandIn u) = true := by kernel_rfl
        exact (show Tryz.prog.wantsStandIn t = false by simpa using List.all_eq_true.1 hall t hm)⟩)
    (by kernel_rfl)
end Go.Proofs.YtjabhnhejbhgjaaGreatDoor
#print axioms Go.Proofs.YtjabhnhejbhgjaaGreatDoor.sends_holds
