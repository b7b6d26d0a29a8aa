import Derived.Test.YtjabhnhejbhgjaaDoorErrs
import Derived.ProofKit
import Derived.LaidMore
import Derived.OpenShut
import Derived.LaidLaws
import Derived.Stop.Joined
import Derived.Test.YtjabhnhejbhgjaaDoorMany3
import Derived.LaidHandle
import Derived.Test.YtjabhnhejbhgjaaDoorCards
import Derived.Test.YtjabhnhejbhgjaaDoorTie
import Derived.Test.YtjabhnhejbhgjaaDoorMany4
import Derived.SliceStrings
import Derived.SizedLaws
import Derived.SevenTiedAt
import Derived.Lib.SmallJoins
/- What the listed variables give: the eight errors. -/
namespace Go.Proofs.YtjabhnhejbhgjaaDoor
open Go.ChangeShapes Go.WideShapes Go.ChangeAt Go.RowKit

theorem Tryd.cellsErr : Tryd.prog.cellsOf 185 = 1 := by kernel_rfl
theorem Tryd.cellsStr : Tryd.prog.cellsOf 9 = 1 := by kernel_rfl
theorem Tryd.star : "*" ++ "errors.errorString" = "*errors.errorString" := by decide
theorem Tryd.errNamed (u : TypeId) (h : Tryd.prog.typeName? 3 u = some "*errors.errorString") : u = 164 :=
  typeName_ptr_named (nm := "errors.errorString") (by rw [Tryd.star]; kernel_rfl) (by kernel_rfl) (by decide) u (by rw [Tryd.star]; exact h)

set_option maxRecDepth 100000 in
/-- The head of a list of errors: its pointer; the rest. -/
theorem laid_head {W : World} {n : String} {text : List UInt8} {r : List (String × DataW Unit)} {ps : List MemPlace} {g : Nat}
    (h : DataW.LaidVars Tryd.prog W ((n, .iface "*errors.errorString" (.ptr (.agg [.lit (.string text)]))) :: r) ps)
    (hrows : ∀ b off, MemPlace.cell b off ∈ ps → (∃ c t, W.heap[b]? = some (.cells c t (0, 0))) ∧ ∀ u v, W.cell? ⟨b, off, none⟩ = some (.iface u v) → Value.okWide Tryd.prog W .any 0 u v)
    (hg : Tryd.prog.globalNamed n = some g) (ht : (Tryd.prog.globals[g]?).map (·.type) = some 23) :
    ∃ (a : Addr) (q : List MemPlace), W.cell? ⟨g, 0, none⟩ = some (.iface 164 (.pointer (some a))) ∧ (∃ c t, W.heap[a.block]? = some (.cells c t (0, 0))) ∧
      DataW.LaidVars Tryd.prog W r q ∧ ps = .cell g 0 :: .cell a.block a.off :: q := by
  obtain ⟨g0, t0, cs0, f0, p0, q0, hg0, ht0, hv0, hd0, hr, e0⟩ := h
  obtain rfl := Option.some.inj (hg.symm.trans hg0)
  obtain rfl := Option.some.inj (ht.symm.trans ht0)
  subst e0
  obtain ⟨l0⟩ := cs0
  have ok0 : ∀ u v, l0 = [.iface u v] → Value.okWide Tryd.prog W .any 0 u v := fun u v e => by
    subst e
    exact (hrows g 0 (by simp [MemPlace.row])).2 u v (by simpa using World.var?_cell hg0 hv0 0)
  obtain ⟨a0, s0, rfl, hc0, hs0, hz0, rfl⟩ := errorString_of_trod Tryd.underlying23 Tryd.errNamed Tryd.underlying164 Tryd.underlying185 rfl rfl Tryd.underlying9 Tryd.cellsErr Tryd.cellsStr hd0 ok0
  refine ⟨a0, q0, by simpa using World.var?_cell hg0 hv0 0, (hrows a0.block a0.off (by simp [MemPlace.row])).1, hr, by simp [MemPlace.row]⟩

theorem Tryd.gErrConfig : Tryd.prog.globalNamed "murmur/api.ErrConfig" = some 0 := by kernel_rfl
theorem Tryd.tErrConfig : (Tryd.prog.globals[0]?).map (·.type) = some 23 := by kernel_rfl
theorem Tryd.gErrArg : Tryd.prog.globalNamed "murmur/api.ErrArg" = some 1 := by kernel_rfl
theorem Tryd.tErrArg : (Tryd.prog.globals[1]?).map (·.type) = some 23 := by kernel_rfl
theorem Tryd.gErrFull : Tryd.prog.globalNamed "murmur/api.ErrFull" = some 2 := by kernel_rfl
theorem Tryd.tErrFull : (Tryd.prog.globals[2]?).map (·.type) = some 23 := by kernel_rfl
theorem Tryd.gErrShort : Tryd.prog.globalNamed "murmur/api.ErrShort" = some 3 := by kernel_rfl
theorem Tryd.tErrShort : (Tryd.prog.globals[3]?).map (·.type) = some 23 := by kernel_rfl
theorem Tryd.gErrType : Tryd.prog.globalNamed "murmur/api.ErrType" = some 4 := by kernel_rfl
theorem Tryd.tErrType : (Tryd.prog.globals[4]?).map (·.type) = some 23 := by kernel_rfl
theorem Tryd.gErrField : Tryd.prog.globalNamed "murmur/api.ErrField" = some 5 := by kernel_rfl
theorem Tryd.tErrField : (Tryd.prog.globals[5]?).map (·.type) = some 23 := by kernel_rfl
theorem Tryd.gErrLong : Tryd.prog.globalNamed "murmur/api.ErrLong" = some 6 := by kernel_rfl
theorem Tryd.tErrLong : (Tryd.prog.globals[6]?).map (·.type) = some 23 := by kernel_rfl
theorem Tryd.gErrClosed : Tryd.prog.globalNamed "murmur/api.ErrClosed" = some 7 := by kernel_rfl
theorem Tryd.tErrClosed : (Tryd.prog.globals[7]?).map (·.type) = some 23 := by kernel_rfl

def eightLaid : List (String × DataW Unit) := [("murmur/api.ErrConfig", Rows.laid_murmur_api_ErrConfig), ("murmur/api.ErrArg", Rows.laid_murmur_api_ErrArg), ("murmur/api.ErrFull", Rows.laid_murmur_api_ErrFull), ("murmur/api.ErrShort", Rows.laid_murmur_api_ErrShort), ("murmur/api.ErrType", Rows.laid_murmur_api_ErrType), ("murmur/api.ErrField", Rows.laid_murmur_api_ErrField), ("murmur/api.ErrLong", Rows.laid_murmur_api_ErrLong), ("murmur/api.ErrClosed", Rows.laid_murmur_api_ErrClosed)]

def addrOf (l : List Addr) (i : Nat) : Addr := l[i]?.getD default

theorem errs_of_laid {W : World} (h : laidMetH Tryd.prog eightLaid W) : ∃ A, Errs A W.heap.size W := by
  rw [MakeChecks.laidMetH_plain _ _ _ (by kernel_rfl)] at h
  obtain ⟨ps, hl, hnd, hrows⟩ := h
  obtain ⟨a0, q0, c0, b0, l0, e0⟩ := laid_head hl hrows Tryd.gErrConfig Tryd.tErrConfig
  have r0 : ∀ b off, MemPlace.cell b off ∈ q0 → (∃ c t, W.heap[b]? = some (.cells c t (0, 0))) ∧ ∀ u v, W.cell? ⟨b, off, none⟩ = some (.iface u v) → Value.okWide Tryd.prog W .any 0 u v := fun b off hm => hrows b off (by rw [e0]; exact List.mem_cons_of_mem _ (List.mem_cons_of_mem _ hm))
  obtain ⟨a1, q1, c1, b1, l1, e1⟩ := laid_head l0 r0 Tryd.gErrArg Tryd.tErrArg
  have r1 : ∀ b off, MemPlace.cell b off ∈ q1 → (∃ c t, W.heap[b]? = some (.cells c t (0, 0))) ∧ ∀ u v, W.cell? ⟨b, off, none⟩ = some (.iface u v) → Value.okWide Tryd.prog W .any 0 u v := fun b off hm => r0 b off (by rw [e1]; exact List.mem_cons_of_mem _ (List.mem_cons_of_mem _ hm))
  obtain ⟨a2, q2, c2, b2, l2, e2⟩ := laid_head l1 r1 Tryd.gErrFull Tryd.tErrFull
  have r2 : ∀ b off, MemPlace.cell b off ∈ q2 → (∃ c t, W.heap[b]? = some (.cells c t (0, 0))) ∧ ∀ u v, W.cell? ⟨b, off, none⟩ = some (.iface u v) → Value.okWide Tryd.prog W .any 0 u v := fun b off hm => r1 b off (by rw [e2]; exact List.mem_cons_of_mem _ (List.mem_cons_of_mem _ hm))
  obtain ⟨a3, q3, c3, b3, l3, e3⟩ := laid_head l2 r2 Tryd.gErrShort Tryd.tErrShort
  have r3 : ∀ b off, MemPlace.cell b off ∈ q3 → (∃ c t, W.heap[b]? = some (.cells c t (0, 0))) ∧ ∀ u v, W.cell? ⟨b, off, none⟩ = some (.iface u v) → Value.okWide Tryd.prog W .any 0 u v := fun b off hm => r2 b off (by rw [e3]; exact List.mem_cons_of_mem _ (List.mem_cons_of_mem _ hm))
  obtain ⟨a4, q4, c4, b4, l4, e4⟩ := laid_head l3 r3 Tryd.gErrType Tryd.tErrType
  have r4 : ∀ b off, MemPlace.cell b off ∈ q4 → (∃ c t, W.heap[b]? = some (.cells c t (0, 0))) ∧ ∀ u v, W.cell? ⟨b, off, none⟩ = some (.iface u v) → Value.okWide Tryd.prog W .any 0 u v := fun b off hm => r3 b off (by rw [e4]; exact List.mem_cons_of_mem _ (List.mem_cons_of_mem _ hm))
  obtain ⟨a5, q5, c5, b5, l5, e5⟩ := laid_head l4 r4 Tryd.gErrField Tryd.tErrField
  have r5 : ∀ b off, MemPlace.cell b off ∈ q5 → (∃ c t, W.heap[b]? = some (.cells c t (0, 0))) ∧ ∀ u v, W.cell? ⟨b, off, none⟩ = some (.iface u v) → Value.okWide Tryd.prog W .any 0 u v := fun b off hm => r4 b off (by rw [e5]; exact List.mem_cons_of_mem _ (List.mem_cons_of_mem _ hm))
  obtain ⟨a6, q6, c6, b6, l6, e6⟩ := laid_head l5 r5 Tryd.gErrLong Tryd.tErrLong
  have r6 : ∀ b off, MemPlace.cell b off ∈ q6 → (∃ c t, W.heap[b]? = some (.cells c t (0, 0))) ∧ ∀ u v, W.cell? ⟨b, off, none⟩ = some (.iface u v) → Value.okWide Tryd.prog W .any 0 u v := fun b off hm => r5 b off (by rw [e6]; exact List.mem_cons_of_mem _ (List.mem_cons_of_mem _ hm))
  obtain ⟨a7, q7, c7, b7, l7, e7⟩ := laid_head l6 r6 Tryd.gErrClosed Tryd.tErrClosed
  have r7 : ∀ b off, MemPlace.cell b off ∈ q7 → (∃ c t, W.heap[b]? = some (.cells c t (0, 0))) ∧ ∀ u v, W.cell? ⟨b, off, none⟩ = some (.iface u v) → Value.okWide Tryd.prog W .any 0 u v := fun b off hm => r6 b off (by rw [e7]; exact List.mem_cons_of_mem _ (List.mem_cons_of_mem _ hm))
  obtain rfl : q7 = [] := l7
  subst e7 e6 e5 e4 e3 e2 e1 e0
  have hA : ([a0, a1, a2, a3, a4, a5, a6, a7].map fun a => MemPlace.cell a.block a.off).Nodup := by
    refine List.Nodup.sublist ?_ hnd
    simp only [List.map_cons, List.map_nil]
    repeat (first | exact List.Sublist.slnil | (refine List.Sublist.cons _ (List.Sublist.cons_cons _ ?_)))
  have low : ∀ {a : Addr}, (∃ c t, W.heap[a.block]? = some (.cells c t (0, 0))) → a.block < W.heap.size := by
    rintro a ⟨c, t, h⟩
    exact (Array.getElem?_eq_some_iff.1 h).1
  have eight : 7 < W.heap.size := by
    have : W.cell? ⟨7, 0, none⟩ = some (.iface 164 (.pointer (some a7))) := c7
    rcases Nat.lt_or_ge 7 W.heap.size with h | h
    · exact h
    · simp [World.cell?, h] at this
  refine ⟨addrOf [a0, a1, a2, a3, a4, a5, a6, a7], ?_, ?_, ?_, ?_, eight, Nat.le_refl _⟩
  · intro g hg
    have : g = 0 ∨ g = 1 ∨ g = 2 ∨ g = 3 ∨ g = 4 ∨ g = 5 ∨ g = 6 ∨ g = 7 := by omega
    rcases this with rfl | rfl | rfl | rfl | rfl | rfl | rfl | rfl
    · exact c0
    · exact c1
    · exact c2
    · exact c3
    · exact c4
    · exact c5
    · exact c6
    · exact c7
  · intro i j hi hj e
    have hi' : i < ([a0, a1, a2, a3, a4, a5, a6, a7].map fun a => MemPlace.cell a.block a.off).length := hi
    have hj' : j < ([a0, a1, a2, a3, a4, a5, a6, a7].map fun a => MemPlace.cell a.block a.off).length := hj
    refine (List.getElem_inj (h₀ := hi') (h₁ := hj') hA).1 ?_
    have hi2 : i < [a0, a1, a2, a3, a4, a5, a6, a7].length := hi
    have hj2 : j < [a0, a1, a2, a3, a4, a5, a6, a7].length := hj
    rw [List.getElem_map, List.getElem_map]
    unfold addrOf at e
    rw [List.getElem?_eq_getElem hi2, List.getElem?_eq_getElem hj2] at e
    have e' : [a0, a1, a2, a3, a4, a5, a6, a7][i] = [a0, a1, a2, a3, a4, a5, a6, a7][j] := e
    rw [e']
  · intro i hi
    have : i = 0 ∨ i = 1 ∨ i = 2 ∨ i = 3 ∨ i = 4 ∨ i = 5 ∨ i = 6 ∨ i = 7 := by omega
    rcases this with rfl | rfl | rfl | rfl | rfl | rfl | rfl | rfl
    · exact b0
    · exact b1
    · exact b2
    · exact b3
    · exact b4
    · exact b5
    · exact b6
    · exact b7
  · intro i hi
    have : i = 0 ∨ i = 1 ∨ i = 2 ∨ i = 3 ∨ i = 4 ∨ i = 5 ∨ i = 6 ∨ i = 7 := by omega
    rcases this with rfl | rfl | rfl | rfl | rfl | rfl | rfl | rfl
    · exact low b0
    · exact low b1
    · exact low b2
    · exact low b3
    · exact low b4
    · exact low b5
    · exact low b6
    · exact low b7

end Go.Proofs.YtjabhnhejbhgjaaDoor

/- Bytes as they came in as an argument; the handle of the type error. -/
namespace Go.Proofs.YtjabhnhejbhgjaaDoor
open Go.ChangeShapes Go.WideShapes Go.ChangeAt Go.RowKit

theorem ob_plain {w : World} {x : Addr} {v : Value} (h : w.cell? (x.add 0) = some v) : x = ⟨x.block, x.off, none⟩ := by
  obtain ⟨b, off, spot⟩ := x
  have hspot : spot = none := by simpa [Addr.add] using World.cell?_spot h
  subst hspot
  rfl
theorem ob_add (b o i : Nat) : (⟨b, o, none⟩ : Addr).add i = ⟨b, o + i, none⟩ := by unfold Addr.add; split <;> simp_all
theorem ob_wf {z : Int} (h : (Lit.int .u8 z).wf = true) : 0 ≤ z ∧ z ≤ 255 := by
  simp [Lit.wf, IntKind.min, IntKind.max, IntKind.signed, IntKind.bits] at h
  omega
theorem ob_back {z : Int} (h : 0 ≤ z ∧ z ≤ 255) : (((BitVec.ofInt 8 z : Gf.F).toNat : Nat) : Int) = z := by
  rw [BitVec.toNat_ofInt]
  omega
theorem Tryd.cellsU8 : Tryd.prog.cellsOf 5 = 1 := by kernel_rfl

theorem ob_at {Z : List Int} {L j : Nat} (hL : L ≤ Z.length) (hj : j < L) (hw : ∀ n ∈ Z, (Lit.int .u8 n).wf = true) : ((at_ ((Z.take L).map (BitVec.ofInt 8 : Int → Gf.F)) j).toNat : Int) = Z.getD j 0 := by
  have hj' : j < Z.length := by omega
  have e : at_ ((Z.take L).map (BitVec.ofInt 8 : Int → Gf.F)) j = BitVec.ofInt 8 (Z.getD j 0) := by
    simp [at_, List.getD, hj, hj']
  rw [e]
  refine ob_back (ob_wf (hw _ ?_))
  rw [List.getD_eq_getElem?_getD, List.getElem?_eq_getElem hj']
  exact List.getElem_mem hj'

theorem came_bytes {H : Type} {enc : TypeId × Value → H} {W : World} {a0 : Option Addr} {l0 c0 : Nat} {d : DataW H} {ps : List MemPlace}
    (h : DataW.Trod enc Tryd.prog W 0 (fun _ => true) true 33 (.slice a0 l0 c0) d ps) (hs : ∀ elems spare, d = .slice elems spare → (elems.length + spare.length) * 1 ≤ reachBytes) : ∃ b o l, CameB W W.heap.size a0 b o l0 c0 l := by
  obtain ⟨fuel, hf⟩ := h
  rcases open_ints Tryd.underlying33 Tryd.underlying5 Tryd.cellsU8 hf with ⟨hcs, _⟩ | ⟨x, l, c, zs, hcs, _, hl, hm, hz, hx, hcell, hwz⟩
  · simp [Value.cells] at hcs
    obtain ⟨rfl, rfl, rfl⟩ := hcs
    exact ⟨0, 0, [], rfl, by omega, by omega, by omega, fun h => by omega, fun i hi => by simp at hi, fun h => by omega⟩
  · simp [Value.cells] at hcs
    obtain ⟨rfl, rfl, rfl⟩ := hcs
    simp only [Prod.mk.injEq] at hx
    obtain ⟨hd, _⟩ := hx
    simp only [if_true] at hz
    have h4 := hs _ _ hd
    simp only [lits, List.length_map, List.length_take, List.length_drop, reachBytes] at h4
    have hm' : c0 ≤ 9223372036854775807 := by unfold maxLen at hm; omega
    by_cases hz0 : l0 = 0
    · subst hz0
      exact ⟨0, 0, [], rfl, by omega, hm', by omega, fun h => by omega, fun i hi => by simp at hi, fun h => by omega⟩
    have hxp : x = ⟨x.block, x.off, none⟩ := ob_plain (hcell 0 (by omega))
    refine ⟨x.block, x.off, (zs.take l0).map (BitVec.ofInt 8 : Int → Gf.F), by simp; omega, hl, hm', by omega, fun _ => by rw [← hxp], fun i hi => ?_, fun _ => ?_⟩
    · have hi' : i < l0 := by simp at hi; omega
      rw [ob_at (by omega) hi' hwz, ← ob_add, ← hxp]
      exact hcell i (by omega)
    · have q := hcell 0 (by omega)
      rw [hxp, ob_add] at q
      exact lt_of_cell (a := ⟨x.block, x.off + 0, none⟩) q

def nineLaid : List (String × DataW Unit) := ("errors.errorType", Rows.laid_errors_errorType) :: eightLaid
theorem Tryd.gErrorType : Tryd.prog.globalNamed "errors.errorType" = some 8 := by kernel_rfl
theorem Tryd.rtypeRow : (Tryd.prog.cutTypes.find? (·.1 == "internal/reflectlite.rtype")).map (·.2) = some 92 := by kernel_rfl
theorem Tryd.oneError : ((List.range 197).filter fun t => Tryd.prog.rowNamed t [101, 114, 114, 111, 114]) = [23] := by kernel_rfl
theorem Tryd.typesSize : Tryd.prog.types.size = 197 := by kernel_rfl

theorem nine_of_laid {W : World} (h : laidMetH Tryd.prog nineLaid W) : (∃ A, Errs A W.heap.size W) ∧ ErrType W ∧ 8 < W.heap.size := by
  have h' : laidMet Tryd.prog eightLaid W ∧ handlesMet Tryd.prog [("errors.errorType", Rows.laid_errors_errorType)] W := h
  have hE := errs_of_laid (W := W) (by rw [MakeChecks.laidMetH_plain _ _ _ (by kernel_rfl)]; exact h'.1)
  obtain ⟨name, u, ty, e1, e2, e3, e4, e5⟩ := h'.2 _ (List.mem_singleton.2 rfl)
  have en : name = [101, 114, 114, 111, 114] := (Option.some.inj e1).symm
  subst en
  obtain rfl := Option.some.inj (Tryd.rtypeRow.symm.trans e2)
  have hm : ty ∈ (List.range 197).filter fun t => Tryd.prog.rowNamed t [101, 114, 114, 111, 114] := List.mem_filter.2 ⟨List.mem_range.2 (by rw [← Tryd.typesSize]; exact e3), e4⟩
  rw [Tryd.oneError] at hm
  obtain rfl := List.mem_singleton.1 hm
  have hh : typeHandle Tryd.prog 23 = .pointer (some ⟨9, 23, none⟩) := by kernel_rfl
  rw [hh] at e5
  have hc : ErrType W := by
    unfold ErrType
    simpa using World.var?_cell Tryd.gErrorType e5 0
  exact ⟨hE, hc, lt_of_cell (a := ⟨8, 0, none⟩) hc⟩

end Go.Proofs.YtjabhnhejbhgjaaDoor

/- The statement on Packets. -/
namespace Go.Proofs.YtjabhnhejbhgjaaDoor.packets
open Go.ChangeShapes Go.WideShapes Go.ChangeAt Go.RowKit Go.Joins

theorem own : ownKnob Tryd.prog.godebug = none := by kernel_rfl
theorem laidOut : laidOutB Tryd.prog = true := by kernel_rfl
theorem bytesU : Tryd.prog.bytesOf 5 = 1 := by kernel_rfl
theorem cellsC : Tryd.prog.cellsOf 54 = 3 := by kernel_rfl

theorem door_met (os : Os) (args : Array Value) : laidMetH Tryd.prog nineLaid ((World.doorLaid Tryd.prog 168 os).forCall (fun _ _ => 0) ⟨#[], args, []⟩).memory :=
  laidMetH_of_parts3 (fuel := 8) (laidMet_of_run' 8 (by kernel_rfl) (by kernel_rfl)) (by kernel_rfl) (by kernel_rfl)

def args0 : Array Value := #[.agg #[.int .i64 0, .int .i64 0, .int .i64 0], .slice none 0 0, .agg #[.int .i64 0, .int .i64 0, .int .i64 0], .slice none 0 0]

set_option maxRecDepth 100000 in
theorem open_cfg {H : Type} {enc : TypeId × Value → H} {W : World} {base : Nat} {v : Value} {d : DataW H} {ps : List MemPlace} (hv : Value.okWide Tryd.prog W .any base 54 v) (h : DataW.Trod enc Tryd.prog W 0 (fun _ => true) true 54 v d ps) :
    ∃ K N S : Int, v = .agg #[.int .i64 K, .int .i64 N, .int .i64 S] := by
  obtain ⟨c0, c1, c2, y0, y1, y2, m, rfl, _, _, hy0, hy1, hy2⟩ := open_agg3 Tryd.underlying54 (by kernel_rfl) cellsC hv h
  obtain ⟨a, e0, _, _⟩ := DataW.trod_int Tryd.underlying3 hy0
  obtain ⟨b, e1, _, _⟩ := DataW.trod_int Tryd.underlying3 hy1
  obtain ⟨c, e2, _, _⟩ := DataW.trod_int Tryd.underlying3 hy2
  simp at e0 e1 e2
  subst e0 e1 e2
  exact ⟨a, b, c, rfl⟩

set_option maxRecDepth 100000 in
theorem lifted (os : Os) (started : os.Started) (H : Type) (enc : TypeId × Value → H) :
    ReturnsInHanded {} Tryd.checked os 6 .any (fun w args => (Rows.packetsSpec.pre enc Tryd.prog Tryd.f6 [] false w args ∧ laidMetH Tryd.prog nineLaid w) ∧ sizedMet enc Tryd.prog Tryd.f6 (OpenSpec.ofChange Rows.packetsSpec) false w args)
      (Rows.packetsSpec.post enc Tryd.prog Tryd.f6 false true false false) := by
  refine returnsInHanded_of_change_and (C := Tryd.checked) (X := fun w _ => laidMetH Tryd.prog nineLaid w) (fun _ _ _ hh h => h.of_heap hh) own started (by kernel_rfl) Tryd.func6
    (ChangeSpec.witness_shaped (enc := enc) (C := Tryd.checked) (os := os) (X := fun w _ => laidMetH Tryd.prog nineLaid w) false (World.doorLaid Tryd.prog 168 os) args0 8 rfl (World.shaped_of_RefB (by kernel_rfl) (by kernel_rfl)) (by kernel_rfl) (by kernel_rfl) (by kernel_rfl) (door_met os _)) ?_
  intro W base args ds gs before hval0 hW _ hsz0 hL _
  have hval : ∀ (j : Nat) t v, Tryd.f6.params[j]? = some t → args[j]? = some v → Value.okWide Tryd.prog W .any base t v := hval0
  have hsz : (DataW.weightsEach Tryd.prog (Tryd.f6.params.toList ++ Rows.packetsSpec.plain.varTypes Tryd.prog) (ds ++ gs)).all (· ≤ reachBytes) = true := hsz0
  have hW' := hW
  obtain ⟨p, q, hA0, hV, rfl, hfz, hnd⟩ := hW
  have hA : DataW.TrodAll enc Tryd.prog W 0 (fun _ => true) true Tryd.f6.params.toList args.toList ds p := hA0
  rw [Tryd.params6] at hA hval hsz
  obtain ⟨v0, vs0, d0, ds0, p0, q0, hargs, rfl, rfl, h0, r0⟩ := trodAll_cons hA
  obtain ⟨v1, vs1, d1, ds1, p1, q1, rfl, rfl, rfl, h1, r1⟩ := trodAll_cons r0
  obtain ⟨v2, vs2, d2, ds2, p2, q2, rfl, rfl, rfl, h2, r2⟩ := trodAll_cons r1
  obtain ⟨v3, vs3, d3, ds3, p3, q3, rfl, rfl, rfl, h3, r3⟩ := trodAll_cons r2
  obtain ⟨rfl, rfl, rfl⟩ := trodAll_nil r3
  obtain rfl : args = #[v0, v1, v2, v3] := by cases args; simp_all
  obtain ⟨rfl, rfl⟩ := trodVars_none hV
  obtain ⟨a1, l1, c1, rfl⟩ := okWide_slice Tryd.underlying33 (hval 1 33 v1 rfl rfl)
  obtain ⟨a3, l3, c3, rfl⟩ := okWide_slice Tryd.underlying33 (hval 3 33 v3 rfl rfl)
  obtain ⟨K, N, S, rfl⟩ := open_cfg (hval 0 54 v0 rfl rfl) h0
  obtain ⟨K2, N2, S2, rfl⟩ := open_cfg (hval 2 54 v2 rfl rfl) h2
  have lt0 : ∀ x ∈ p0, x.block < W.heap.size := by obtain ⟨m, hm⟩ := h0; exact DataW.trod_lt m _ _ _ hm
  have lt1 : ∀ x ∈ p1, x.block < W.heap.size := by obtain ⟨m, hm⟩ := h1; exact DataW.trod_lt m _ _ _ hm
  have lt2 : ∀ x ∈ p2, x.block < W.heap.size := by obtain ⟨m, hm⟩ := h2; exact DataW.trod_lt m _ _ _ hm
  have lt3 : ∀ x ∈ p3, x.block < W.heap.size := by obtain ⟨m, hm⟩ := h3; exact DataW.trod_lt m _ _ _ hm
  obtain ⟨⟨A, hE⟩, hT, hTl⟩ := nine_of_laid hL
  obtain ⟨b1, o1, z1, hC1⟩ := came_bytes h1 (fun elems spare hd => by
    subst hd
    have h4 := sized_slice hsz (j := 1) (t := 33) (e := 5) rfl rfl Tryd.underlying33
    rwa [bytesU] at h4)
  obtain ⟨b3, o3, z3, hC3⟩ := came_bytes h3 (fun elems spare hd => by
    subst hd
    have h4 := sized_slice hsz (j := 3) (t := 33) (e := 5) rfl rfl Tryd.underlying33
    rwa [bytesU] at h4)
  clear hA0 hval0
  refine (packets_any A b1 o1 l1 c1 b3 o3 l3 c3 a1 a3 z1 z3 K N S K2 N2 S2 W hE hT hTl hC1 hC3).mono fun e W' ⟨he, bel⟩ => ?_
  subst he
  exact ⟨_, rfl, _, _, _, [], _, [], hW', trodAll_mk1 (shut_bool Tryd.underlying4 _), (trodAll_cons_mk (Below.trod laidOut (by kernel_rfl) (of_decide_eq_true (by kernel_rfl)) h0 bel lt0) (trodAll_cons_mk (Below.trod laidOut (by kernel_rfl) (of_decide_eq_true (by kernel_rfl)) h1 bel lt1) (trodAll_cons_mk (Below.trod laidOut (by kernel_rfl) (of_decide_eq_true (by kernel_rfl)) h2 bel lt2) (trodAll_cons_mk (Below.trod laidOut (by kernel_rfl) (of_decide_eq_true (by kernel_rfl)) h3 bel lt3) trodAll_mk0)))), rfl, bel.frame _, fun h => by cases h⟩

theorem row : Rows.PacketsSaid :=
  OpenClaim.holds_of_wide 6 Tryd.f6 rfl rfl rfl rfl rfl rfl rfl ⟨rfl, rfl, rfl, rfl, rfl⟩ rfl rfl rfl rfl rfl (by kernel_rfl) Tryd.func6 (by kernel_rfl)
    (of_decide_eq_true (by kernel_rfl)) (by unfold Func.isWrapper; first | (rw [if_pos (by decide +kernel)]; kernel_rfl) | (rw [if_neg (by decide +kernel)]; exact ⟨rfl, rfl⟩))
    (fun os started H enc _ => lifted os started H enc)

end Go.Proofs.YtjabhnhejbhgjaaDoor.packets
namespace Go.Proofs.YtjabhnhejbhgjaaDoor
theorem packets_holds : Rows.PacketsCardSaid :=
  Claim7.holds_tied_plain_at .later [] [.handle, .sentinel, .sentinel, .sentinel, .sentinel, .sentinel, .sentinel, .sentinel, .sentinel] true (true, "133f07a053b19de4b878b7e1ede030a7319085cf44cd937ead3dd12fea436211") true
    packets.row (fun _ h => by cases h) (by kernel_rfl) (fun _ h => by cases h) packets_row_tie rfl ⟨rfl, rfl⟩ (by kernel_rfl) rfl
    (fun f fn hf hfn => by
      obtain rfl : f = 6 := Option.some.inj ((show Tryd.prog.funcNamed Rows.packetsRow.func = some 6 by kernel_rfl).symm.trans hf) |>.symm
      obtain rfl : fn = Tryd.f6 := (Option.some.inj (Tryd.func6.symm.trans hfn)).symm
      exact ⟨by kernel_rfl, fun j t ht => by
        rw [Tryd.params6] at ht
        have hm : t ∈ [54, 33, 54, 33] := by simpa using Array.mem_of_getElem? ht
        have hall : ([54, 33, 54, 33].all fun u => !Tryd.prog.wantsStandIn u) = true := by kernel_rfl
        exact (show Tryd.prog.wantsStandIn t = false by simpa using List.all_eq_true.1 hall t hm)⟩)
    (by kernel_rfl)
end Go.Proofs.YtjabhnhejbhgjaaDoor
#print axioms Go.Proofs.YtjabhnhejbhgjaaDoor.packets_holds
