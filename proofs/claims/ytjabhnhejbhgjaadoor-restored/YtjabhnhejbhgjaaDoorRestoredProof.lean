/- The statement on Restored. -/
import Derived.Test.YtjabhnhejbhgjaaDoorRows
import Derived.Test.YtjabhnhejbhgjaaDoorCards
import Derived.Test.YtjabhnhejbhgjaaDoorTie
import Derived.Test.YtjabhnhejbhgjaaDoorRestoredWalk
import Derived.ProofKit
import Derived.LaidMore
import Derived.OpenShut
import Derived.SliceStrings
import Derived.SizedLaws
import Derived.Stop.Joined
import Derived.SevenTiedAt
namespace Go.Proofs.YtjabhnhejbhgjaaDoor.restored
open Go.ChangeShapes Go.WideShapes Go.ChangeAt Go.RowKit

theorem own : ownKnob Tryd.prog.godebug = none := by kernel_rfl
theorem laidOut : laidOutB Tryd.prog = true := by kernel_rfl
theorem cellsS : Tryd.prog.cellsOf 9 = 1 := by kernel_rfl
theorem cellsI : Tryd.prog.cellsOf 3 = 1 := by kernel_rfl
theorem bytesS : Tryd.prog.bytesOf 9 = 16 := by kernel_rfl
theorem bytesI : Tryd.prog.bytesOf 3 = 8 := by kernel_rfl

def oneLaid : List (String × DataW Unit) := [("murmur/api.ErrArg", Rows.laid_murmur_api_ErrArg)]

theorem door_met (os : Os) (args : Array Value) : laidMetH Tryd.prog oneLaid ((World.doorLaid Tryd.prog 168 os).forCall (fun _ _ => 0) ⟨#[], args, []⟩).memory :=
  laidMetH_of_parts3 (fuel := 8) (laidMet_of_run' 8 (by kernel_rfl) (by kernel_rfl)) (by kernel_rfl) (by kernel_rfl)

set_option maxRecDepth 100000 in
set_option maxHeartbeats 400000 in
/-- No strings at all. -/
theorem none_any (a : Option Addr) (c : Nat) (v2 : Value) (size other : Int) (w : World) :
    Calls Tryd.prog 5 #[.slice a 0 c, .int .i64 size, v2, .int .i64 other] w fun e w' => e = .returned (.bool true) ∧ Below w.heap.size w w' := by
  go_enter Tryd.func5, Tryd.ntmps5
  go_wp2_with (go_at_call 14; refine (awake_any _).mono ?_; rintro e w1 ⟨rfl, hb1⟩)
  go_ret
  exact ⟨rfl, by assumption⟩

theorem bounds_i64x {a : Int} (h : (Lit.int .i64 a).wf = true) : -9223372036854775808 ≤ a ∧ a ≤ 9223372036854775807 := by
  simp [Lit.wf, IntKind.min, IntKind.max, IntKind.signed, IntKind.bits] at h
  omega

/-- The address of a cell that is there. -/
theorem plain_addr {w : World} {x : Addr} {v : Value} (h : w.cell? (x.add 0) = some v) : x = ⟨x.block, x.off, none⟩ := by
  obtain ⟨b, off, spot⟩ := x
  have hspot : spot = none := by simpa [Addr.add] using World.cell?_spot h
  subst hspot
  rfl

theorem add_plain (b o i : Nat) : (⟨b, o, none⟩ : Addr).add i = ⟨b, o + i, none⟩ := by unfold Addr.add; split <;> simp_all

/-- The walk, at whatever came in. -/
theorem walk (a0 : Option Addr) (l0 c0 : Nat) (ss : List ByteArray) (a2 : Option Addr) (l2 c2 : Nat) (zs : List Int) (size other : Int) (w : World)
    (h0 : a0 = none ∧ l0 = 0 ∨ ∃ x, a0 = some x ∧ l0 ≤ ss.length ∧ ∀ i, i < ss.length → w.cell? (x.add i) = some (.string (ss.getD i ByteArray.empty)))
    (h2 : a2 = none ∧ l2 = 0 ∨ ∃ x, a2 = some x ∧ l2 ≤ zs.length ∧ (∀ i, i < zs.length → w.cell? (x.add i) = some (.int .i64 (zs.getD i 0))) ∧ ∀ n ∈ zs, (Lit.int .i64 n).wf = true)
    (hl0 : l0 ≤ 140737488355328) (hl2 : l2 ≤ 140737488355328) (w1 : (Lit.int .i64 size).wf = true) (w3 : (Lit.int .i64 other).wf = true) :
    Calls Tryd.prog 5 #[.slice a0 l0 c0, .int .i64 size, .slice a2 l2 c2, .int .i64 other] w fun e w' => e = .returned (.bool true) ∧ Below w.heap.size w w' := by
  by_cases hz : l0 = 0
  · subst hz; exact none_any a0 c0 (.slice a2 l2 c2) size other w
  obtain ⟨b1, b2⟩ := bounds_i64x w1
  obtain ⟨b3, b4⟩ := bounds_i64x w3
  rcases h0 with ⟨_, h⟩ | ⟨x, rfl, hx1, hx2⟩
  · exact absurd h hz
  obtain ⟨xb, xo, rfl⟩ : ∃ b o, x = ⟨b, o, none⟩ := ⟨_, _, plain_addr (hx2 0 (by omega))⟩
  obtain ⟨n, hn⟩ : ∃ n, (l0 ≤ 8 ∧ n = l0) ∨ (8 < l0 ∧ n = 8) := by
    rcases Nat.lt_or_ge 8 l0 with h | h
    · exact ⟨8, .inr ⟨h, rfl⟩⟩
    · exact ⟨l0, .inl ⟨h, rfl⟩⟩
  have hcell : ∀ i, i < l0 → w.cell? ⟨xb, xo + i, none⟩ = some (.string (ss.getD i ByteArray.empty)) := fun i hi => by rw [← add_plain]; exact hx2 i (by omega)
  obtain ⟨pb, po, hpl⟩ : ∃ pb po, ∀ i, i < l2 → a2 = some ⟨pb, po, none⟩ ∧ w.cell? ⟨pb, po + i, none⟩ = some (.int .i64 (zs.getD i 0)) ∧ -9223372036854775808 ≤ zs.getD i 0 ∧ zs.getD i 0 ≤ 9223372036854775807 ∧ pb < w.heap.size := by
    rcases h2 with ⟨_, h⟩ | ⟨y, rfl, hy1, hy2, hy3⟩
    · exact ⟨0, 0, fun i hi => by omega⟩
    · refine ⟨y.block, y.off, fun i hi => ?_⟩
      have hyp : y = ⟨y.block, y.off, none⟩ := plain_addr (hy2 0 (by omega))
      have hc : w.cell? ⟨y.block, y.off + i, none⟩ = some (.int .i64 (zs.getD i 0)) := by rw [← add_plain, ← hyp]; exact hy2 i (by omega)
      have hb := bounds_i64x (hy3 (zs.getD i 0) (by
        have hi' : i < zs.length := by omega
        rw [show zs.getD i 0 = zs[i] by simp [List.getD, hi']]
        exact List.getElem_mem hi'))
      exact ⟨by rw [← hyp], hc, hb.1, hb.2, lt_of_cell (a := ⟨y.block, y.off + i, none⟩) hc⟩
  exact restored_some xb xo c0 l0 n l2 c2 pb po a2 (fun i => ss.getD i ByteArray.empty) (fun i => zs.getD i 0) size other w hn (by rcases hn with h | h <;> omega) hcell b1 b2 hl0 (lt_of_cell (hcell 0 (by omega))) hpl hl2 b3 b4

set_option maxRecDepth 100000 in
theorem lifted (os : Os) (started : os.Started) (H : Type) (enc : TypeId × Value → H) :
    ReturnsInHanded {} Tryd.checked os 5 .any (fun w args => (Rows.restoredSpec.pre enc Tryd.prog Tryd.f5 [] false w args ∧ laidMetH Tryd.prog oneLaid w) ∧ sizedMet enc Tryd.prog Tryd.f5 (OpenSpec.ofChange Rows.restoredSpec) false w args)
      (Rows.restoredSpec.post enc Tryd.prog Tryd.f5 false true false false) := by
  refine returnsInHanded_of_change_and (C := Tryd.checked) (X := fun w _ => laidMetH Tryd.prog oneLaid w) (fun _ _ _ hh h => h.of_heap hh) own started (by kernel_rfl) Tryd.func5
    (ChangeSpec.witness_shaped (enc := enc) (C := Tryd.checked) (os := os) (X := fun w _ => laidMetH Tryd.prog oneLaid w) false (World.doorLaid Tryd.prog 168 os) #[.slice none 0 0, .int .i64 0, .slice none 0 0, .int .i64 0] 8 rfl (World.shaped_of_RefB (by kernel_rfl) (by kernel_rfl)) (by kernel_rfl) (by kernel_rfl) (by kernel_rfl) (door_met os _)) ?_
  intro W base args ds gs before hval0 hW _ hsz0 hL _
  have hval : ∀ (j : Nat) t v, Tryd.f5.params[j]? = some t → args[j]? = some v → Value.okWide Tryd.prog W .any base t v := hval0
  have hsz : (DataW.weightsEach Tryd.prog (Tryd.f5.params.toList ++ Rows.restoredSpec.plain.varTypes Tryd.prog) (ds ++ gs)).all (· ≤ reachBytes) = true := hsz0
  have hW' := hW
  obtain ⟨p, q, hA0, hV, rfl, hfz, hnd⟩ := hW
  have hA : DataW.TrodAll enc Tryd.prog W 0 (fun _ => true) true Tryd.f5.params.toList args.toList ds p := hA0
  rw [Tryd.params5] at hA hval hsz
  obtain ⟨v0, vs0, d0, ds0, p0, q0, hargs, rfl, rfl, h0, r0⟩ := trodAll_cons hA
  obtain ⟨v1, vs1, d1, ds1, p1, q1, rfl, rfl, rfl, h1, r1⟩ := trodAll_cons r0
  obtain ⟨v2, vs2, d2, ds2, p2, q2, rfl, rfl, rfl, h2, r2⟩ := trodAll_cons r1
  obtain ⟨v3, vs3, d3, ds3, p3, q3, rfl, rfl, rfl, h3, r3⟩ := trodAll_cons r2
  obtain ⟨rfl, rfl, rfl⟩ := trodAll_nil r3
  obtain rfl : args = #[v0, v1, v2, v3] := by cases args; simp_all
  obtain ⟨rfl, rfl⟩ := trodVars_none hV
  obtain ⟨a0, l0, c0, rfl⟩ := okWide_slice Tryd.underlying48 (hval 0 48 v0 rfl rfl)
  obtain ⟨a2, l2, c2, rfl⟩ := okWide_slice Tryd.underlying32 (hval 2 32 v2 rfl rfl)
  have k0 := h0
  have k2 := h2
  have lt0 : ∀ x ∈ p0, x.block < W.heap.size := by obtain ⟨m, hm⟩ := k0; exact DataW.trod_lt m _ _ _ hm
  have lt2 : ∀ x ∈ p2, x.block < W.heap.size := by obtain ⟨m, hm⟩ := k2; exact DataW.trod_lt m _ _ _ hm
  obtain ⟨ss, w0, s0⟩ : ∃ ss : List ByteArray, (a0 = none ∧ l0 = 0 ∨ ∃ x, a0 = some x ∧ l0 ≤ ss.length ∧ ∀ i, i < ss.length → W.cell? (x.add i) = some (.string (ss.getD i ByteArray.empty))) ∧ l0 ≤ 140737488355328 := by
    obtain ⟨fuel, hf⟩ := h0
    rcases open_strings Tryd.underlying48 Tryd.underlying9 cellsS hf with ⟨hcs, _⟩ | ⟨x, l, c, ss, hcs, _, hl, hm, hz, hx, hcell, _⟩
    · simp [Value.cells] at hcs
      obtain ⟨rfl, rfl, rfl⟩ := hcs
      exact ⟨[], .inl ⟨rfl, rfl⟩, by omega⟩
    · simp [Value.cells] at hcs
      obtain ⟨rfl, rfl, rfl⟩ := hcs
      simp only [Prod.mk.injEq] at hx
      obtain ⟨hd, _⟩ := hx
      subst hd
      have h4 := sized_slice hsz (j := 0) (t := 48) (e := 9) rfl rfl Tryd.underlying48
      rw [bytesS] at h4
      simp only [if_true] at hz
      simp only [strs, List.length_map, List.length_take, List.length_drop, reachBytes] at h4
      exact ⟨ss, .inr ⟨_, rfl, by omega, hcell⟩, by omega⟩
  obtain ⟨zs, w2, s2⟩ : ∃ zs : List Int, (a2 = none ∧ l2 = 0 ∨ ∃ x, a2 = some x ∧ l2 ≤ zs.length ∧ (∀ i, i < zs.length → W.cell? (x.add i) = some (.int .i64 (zs.getD i 0))) ∧ ∀ n ∈ zs, (Lit.int .i64 n).wf = true) ∧ l2 ≤ 140737488355328 := by
    obtain ⟨fuel, hf⟩ := h2
    rcases open_ints Tryd.underlying32 Tryd.underlying3 cellsI hf with ⟨hcs, _⟩ | ⟨x, l, c, zs, hcs, _, hl, hm, hz, hx, hcell, hwz⟩
    · simp [Value.cells] at hcs
      obtain ⟨rfl, rfl, rfl⟩ := hcs
      exact ⟨[], .inl ⟨rfl, rfl⟩, by omega⟩
    · simp [Value.cells] at hcs
      obtain ⟨rfl, rfl, rfl⟩ := hcs
      simp only [Prod.mk.injEq] at hx
      obtain ⟨hd, _⟩ := hx
      subst hd
      have h4 := sized_slice hsz (j := 2) (t := 32) (e := 3) rfl rfl Tryd.underlying32
      rw [bytesI] at h4
      simp only [if_true] at hz
      simp only [lits, List.length_map, List.length_take, List.length_drop, reachBytes] at h4
      exact ⟨zs, .inr ⟨_, rfl, by omega, hcell, hwz⟩, by omega⟩
  obtain ⟨i1, rfl, rfl, rfl, w1⟩ := open_int Tryd.underlying3 (hval 1 3 v1 rfl rfl) h1
  obtain ⟨i3, rfl, rfl, rfl, w3⟩ := open_int Tryd.underlying3 (hval 3 3 v3 rfl rfl) h3
  clear hA0 hval0
  refine (walk a0 l0 c0 ss a2 l2 c2 zs i1 i3 W w0 w2 s0 s2 w1 w3).mono fun e W' ⟨he, bel⟩ => ?_
  subst he
  exact ⟨_, rfl, _, _, _, [], _, [], hW', trodAll_mk1 (shut_bool Tryd.underlying4 _), (trodAll_cons_mk (Below.trod laidOut (by kernel_rfl) (of_decide_eq_true (by kernel_rfl)) k0 bel lt0) (trodAll_cons_mk (shut_int Tryd.underlying3 w1) (trodAll_cons_mk (Below.trod laidOut (by kernel_rfl) (of_decide_eq_true (by kernel_rfl)) k2 bel lt2) (trodAll_cons_mk (shut_int Tryd.underlying3 w3) trodAll_mk0)))), rfl, bel.frame _, fun h => by cases h⟩

theorem row : Rows.RestoredSaid :=
  OpenClaim.holds_of_wide 5 Tryd.f5 rfl rfl rfl rfl rfl rfl rfl ⟨rfl, rfl, rfl, rfl, rfl⟩ rfl rfl rfl rfl rfl (by kernel_rfl) Tryd.func5 (by kernel_rfl)
    (of_decide_eq_true (by kernel_rfl)) (by unfold Func.isWrapper; first | (rw [if_pos (by decide +kernel)]; kernel_rfl) | (rw [if_neg (by decide +kernel)]; exact ⟨rfl, rfl⟩))
    (fun os started H enc _ => lifted os started H enc)

end Go.Proofs.YtjabhnhejbhgjaaDoor.restored
namespace Go.Proofs.YtjabhnhejbhgjaaDoor
theorem restored_holds : Rows.RestoredCardSaid :=
  Claim7.holds_tied_plain_at .later [] [.sentinel] true (true, "133f07a053b19de4b878b7e1ede030a7319085cf44cd937ead3dd12fea436211") true
    restored.row (fun _ h => by cases h) (by kernel_rfl) (fun _ h => by cases h) restored_row_tie rfl ⟨rfl, rfl⟩ (by kernel_rfl) rfl
    (fun f fn hf hfn => by
      obtain rfl : f = 5 := Option.some.inj ((show Tryd.prog.funcNamed Rows.restoredRow.func = some 5 by kernel_rfl).symm.trans hf) |>.symm
      obtain rfl : fn = Tryd.f5 := (Option.some.inj (Tryd.func5.symm.trans hfn)).symm
      exact ⟨by kernel_rfl, fun j t ht => by
        rw [Tryd.params5] at ht
        have hm : t ∈ [48, 3, 32, 3] := by simpa using Array.mem_of_getElem? ht
        have hall : ([48, 3, 32, 3].all fun u => !Tryd.prog.wantsStandIn u) = true := by kernel_rfl
        exact (show Tryd.prog.wantsStandIn t = false by simpa using List.all_eq_true.1 hall t hm)⟩)
    (by kernel_rfl)
end Go.Proofs.YtjabhnhejbhgjaaDoor
#print axioms Go.Proofs.YtjabhnhejbhgjaaDoor.restored_holds
