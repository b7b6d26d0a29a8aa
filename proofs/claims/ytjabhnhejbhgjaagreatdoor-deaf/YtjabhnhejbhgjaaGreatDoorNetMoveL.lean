/- The net: move. (Written by gen_move.py.) -/
import Derived.Test.YtjabhnhejbhgjaaGreatDoorNetMove
import Derived.Deep.RegionHeld3
import Derived.StillTailTactics
namespace Go.Proofs.YtjabhnhejbhgjaaGreatDoor
open Go.RowKit

theorem air_block {w : World} {B n ag ac : Nat} {xs : List Value} (h : w.ownsRow B 33 1 (.slice (some ⟨ag, 0, none⟩) n ac) n xs) : ∃ cur : Array Value, w.heap[ag]? = some (.cells cur 33 (0, 0)) ∧ cur.size = ac ∧ cur.toList.take n = xs ∧ B ≤ ag ∧ n ≤ ac ∧ ac ≤ maxLen := by
  rcases h.2 with ⟨q, _⟩ | ⟨g, cap, cur, h1, h2, h3, h4, h5, h6, h7⟩
  · cases q
  · simp only [Value.slice.injEq, Option.some.injEq, Addr.mk.injEq, and_true, true_and] at h1
    obtain ⟨rfl, rfl⟩ := h1
    rw [Nat.mul_one] at h6 h7
    exact ⟨cur, h3, h6, h7, h2, h4, h5⟩

/-- A packet is lost: the last one takes its place. -/
theorem NI.lose {A : Nat → Addr} {B0 B : Nat} {own : Nat → Nat} {w : World} {nb : Nat} {st : Nt} (h : NI A B0 B own w nb st) {ni L1 ag ac : Nat} (hL : st.air.length = L1 + 1) (hv : st.va = .slice (some ⟨ag, 0, none⟩) st.air.length ac) :
    NI A B0 B (ownN own w.heap.size 5) ((w.setCell ⟨ag, ni, none⟩ (slat st.air L1).val).setCell ⟨nb, 6, none⟩ (.slice (some ⟨ag, 0, none⟩) L1 ac)) nb { st with air := (st.air.set ni (slat st.air L1)).take L1, va := .slice (some ⟨ag, 0, none⟩) L1 ac } ∧
    Fr own w (ownN own w.heap.size 5) ((w.setCell ⟨ag, ni, none⟩ (slat st.air L1).val).setCell ⟨nb, 6, none⟩ (.slice (some ⟨ag, 0, none⟩) L1 ac)) ∧ (∀ x ∈ (st.air.set ni (slat st.air L1)).take L1, x ∈ st.air) ∧ ((st.air.set ni (slat st.air L1)).take L1).length ≤ st.air.length := by
  have hown := h.aown
  rw [hv] at hown
  obtain ⟨cur, hcur, hcs, hct, hB, hle, hmx⟩ := air_block hown
  have hne : ag ≠ nb := own_ne hown rfl h.blk (by decide)
  have hl : ((st.air.set ni (slat st.air L1)).take L1).length = L1 := by simp; omega
  have hmem : ∀ x ∈ (st.air.set ni (slat st.air L1)).take L1, x ∈ st.air := fun x hx => by
    rcases List.mem_or_eq_of_mem_set (List.mem_of_mem_take hx) with q | q
    · exact q
    · rw [q]; exact slat_mem (by omega)
  have h1 := heap_setCell_same w ag ni _ _ (slat st.air L1).val hcur
  have h1n : (w.setCell ⟨ag, ni, none⟩ (slat st.air L1).val).heap[nb]? = w.heap[nb]? := heap_setCell_other w ⟨ag, ni, none⟩ nb _ (Ne.symm hne)
  generalize hw1 : w.setCell ⟨ag, ni, none⟩ (slat st.air L1).val = w1 at *
  have hb1 : But (fun b => b = nb ∨ st.va.ownBlock = some b) w w1 := by
    rw [← hw1]
    exact (But.refl _ w).setCell (p := ⟨ag, ni, none⟩) (.inl (.inr (by rw [hv]; rfl))) _
  have hb2 := hb1.setCell (p := ⟨nb, 6, none⟩) (.inl (.inl rfl)) (.slice (some ⟨ag, 0, none⟩) L1 ac)
  have h3 := heap_setCell_same w1 nb 6 _ _ (.slice (some ⟨ag, 0, none⟩) L1 ac) (h1n.trans h.blk)
  have h4 := (heap_setCell_other w1 ⟨nb, 6, none⟩ ag (.slice (some ⟨ag, 0, none⟩) L1 ac) hne).trans h1
  generalize w1.setCell ⟨nb, 6, none⟩ (.slice (some ⟨ag, 0, none⟩) L1 ac) = w2 at *
  obtain ⟨h5, h6⟩ := h.stepA (air' := (st.air.set ni (slat st.air L1)).take L1) (va' := .slice (some ⟨ag, 0, none⟩) L1 ac) hb2 h3 (by
    rw [hl]
    refine ⟨by simp [slVals]; omega, .inr ⟨ag, ac, _, rfl, hB, h4, by omega, hmx, by simp [hcs], ?_⟩⟩
    have e1 : (cur.setIfInBounds ni (slat st.air L1).val).toList = cur.toList.set ni (slat st.air L1).val := by simp
    rw [Nat.mul_one, e1]
    have e2 : (cur.toList.set ni (slat st.air L1).val).take L1 = ((cur.toList.take st.air.length).set ni (slat st.air L1).val).take L1 := by
      rw [List.take_set, List.take_set, List.take_take, Nat.min_eq_left (by omega)]
    rw [e2, hct]
    unfold slVals
    rw [List.map_take, List.map_set]) (fun x hx => h.airAt x (hmem x hx)) (fun b hg => .inl (by rw [hv]; exact hg))
  exact ⟨h5, h6, hmem, by rw [hl]; omega⟩

set_option maxRecDepth 100000 in
set_option maxHeartbeats 4000000 in
theorem move_lose {A : Nat → Addr} {B0 B nb kk : Nat} {own : Nat → Nat} {w : World} {st : Nt} {kd nn rr : Int} {s : ByteArray} (h : NI A B0 B own w nb st) (g : NG st) (ho : st.Open) (hlen : 0 < st.rs.length) (hk : In64 kd) (hn : In64 nn) (hr : In64 rr) (hkk : pickI kd 10 = (kk : Int)) (hwh : kk = 7) :
    Calls Tryz.prog 14 #[.pointer (some ⟨nb, 0, none⟩), .agg #[.int .i64 kd, .int .i64 nn, .int .i64 rr, .string s]] w fun e w' => e = .returned (.bool true) ∧ NetTo A B0 B own w nb w' (MoveNet st) := by
  obtain ⟨ri, hri, hri2⟩ := pickN (c := rr) (n := (st.rs.length : Int)) (by omega)
  have hrl : ri < st.rs.length := by omega
  have HPK : Hid (∀ W, Calls Tryz.prog 33 #[.int .i64 kd, .int .i64 10] W fun e w' => e = .returned (.int .i64 (kk : Int)) ∧ w' = W) := fun W => by rw [← hkk]; exact keepPick_any kd 10 W (by omega) hk.1 hk.2
  have HPR : Hid (∀ W, Calls Tryz.prog 33 #[.int .i64 rr, .int .i64 (st.rs.length : Int)] W fun e w' => e = .returned (.int .i64 (ri : Int)) ∧ w' = W) := fun W => by rw [← hri]; exact keepPick_any rr _ W (by omega) hr.1 hr.2
  have hM := heap_alloc_new w (.cells #[.int .i64 kd, .int .i64 nn, .int .i64 rr, .string s] 36)
  obtain ⟨h0, hf0⟩ := h.above 1 ((Below.refl w.heap.size w).alloc (Nat.le_refl _) (.cells #[.int .i64 kd, .int .i64 nn, .int .i64 rr, .string s] 36))
  have HN : Hid (In64 nn) := hn
  have HO : Hid st.Open := ho
  have HG : Hid (NG st) := g
  clear h g ho hn hri hk hr hkk
  go_enter Tryz.func14, Tryz.ntmps14
  go_upto_region 1 with fail
  have HF0 : Hid (Fr own w (ownN own w.heap.size 1) (w.alloc (.cells #[.int .i64 kd, .int .i64 nn, .int .i64 rr, .string s] 36))) := hf0
  generalize w.alloc (.cells #[.int .i64 kd, .int .i64 nn, .int .i64 rr, .string s] 36) = W at *
  have HM : Hid (W.heap[w.heap.size]? = some (.cells #[.int .i64 kd, .int .i64 nn, .int .i64 rr, .string s] 36 (0, 0))) := hM
  generalize hmb : w.heap.size = mb at *
  have HOM : Hid (ownN own mb 1 mb = 1) := ownN_new (Nat.le_refl _)
  generalize ownN own mb 1 = own0 at *
  clear hmb
  have m0 : W.cell? ⟨mb, 0, none⟩ = some (.int .i64 kd) := cell_of_row W _ 0 _ _ _ hM
  have m1 : W.cell? ⟨mb, 1, none⟩ = some (.int .i64 nn) := cell_of_row W _ 1 _ _ _ hM
  have m2 : W.cell? ⟨mb, 2, none⟩ = some (.int .i64 rr) := cell_of_row W _ 2 _ _ _ hM
  have m3 : W.cell? ⟨mb, 3, none⟩ = some (.string s) := cell_of_row W _ 3 _ _ _ hM
  obtain ⟨c0, c1, c2, c3, c4, c5, c6, c7⟩ := h0.cells
  obtain ⟨vg, vc, hvr, hvc, hv⟩ := h0.rcPtr hrl
  rw [hvr] at c4
  have HH : Hid (NI A B0 B own0 W nb st) := h0
  clear h0 hf0 hM hvr
  go_quiet (first | (go_at_call 33; refine Calls.quiet_of_same (HPR.out _)))
  obtain ⟨W1, hW1⟩ : ∃ x, x = W.drewN nq := ⟨_, rfl⟩
  rw [← hW1]
  obtain ⟨h1, hf1⟩ := HH.out.above 1 (below_drew hW1)
  have hM1 := ((below_drew hW1).block mb (lt_of_block HM.out)).trans HM.out
  have HF1 : Hid (Fr own w (ownN own0 W.heap.size 1) W1) := HF0.out.trans hf1
  have HOM1 : Hid (ownN own0 W.heap.size 1 mb = 1) := (hf1.keep mb (lt_of_block HM.out) HOM.out).1
  clear m0 m1 m2 m3 c0 c1 c2 c3 c4 c5 c6 c7 hv hf1 HF0 HM HOM hW1 HH
  generalize ownN own0 W.heap.size 1 = own1 at *
  have m0 : W1.cell? ⟨mb, 0, none⟩ = some (.int .i64 kd) := cell_of_row W1 _ 0 _ _ _ hM1
  have m1 : W1.cell? ⟨mb, 1, none⟩ = some (.int .i64 nn) := cell_of_row W1 _ 1 _ _ _ hM1
  have m3 : W1.cell? ⟨mb, 3, none⟩ = some (.string s) := cell_of_row W1 _ 3 _ _ _ hM1
  obtain ⟨_, _, _, c3, c4, _, c6, _⟩ := h1.cells
  obtain ⟨vg, vc, hvr, hvc, hv⟩ := h1.rcPtr hrl
  rw [hvr] at c4
  have HM : Hid _ := hM1
  have HH : Hid (NI A B0 B own1 W1 nb st) := h1
  clear h1 hM1 hvr
  subst hwh
  by_cases hz : st.air.length = 0
  · obtain ⟨aa, ac, hav, _⟩ := own_form2 HH.out.aown
    rw [hav, hz] at c6
    clear hav m1 m3 c3 c4 hv
    go_wp2_with (go_at_call 33; refine (HPK.out _).mono ?_; rintro e w' ⟨rfl, hw⟩; rw [hw]; clear hw)
    go_ret
    exact ⟨rfl, own1, st, HH.out, HG.out, HF1.out, HO.out, rfl⟩
  · obtain ⟨ni, hni, hni2⟩ := pickN (c := nn) (n := (st.air.length : Int)) (by omega)
    have hnl : ni < st.air.length := by omega
    have HPN : Hid (∀ W, Calls Tryz.prog 33 #[.int .i64 nn, .int .i64 (st.air.length : Int)] W fun e w' => e = .returned (.int .i64 (ni : Int)) ∧ w' = W) := fun W => by rw [← hni]; exact keepPick_any nn _ W (by omega) HN.out.1 HN.out.2
    obtain ⟨L1, hL1⟩ : ∃ x, x = st.air.length - 1 := ⟨_, rfl⟩
    have HL1 : Hid (st.air.length = L1 + 1) := by show _ = _; omega
    have hL1l : L1 < st.air.length := by omega
    obtain ⟨ag, ac, hav, hac, ha⟩ := HH.out.arPtr hL1l
    obtain ⟨ag2, ac2, hav2, _, ha2⟩ := HH.out.arPtr hnl
    rw [hav] at hav2
    simp only [Value.slice.injEq, Option.some.injEq, Addr.mk.injEq, and_true, true_and] at hav2
    rw [← hav2.1] at ha2
    clear hav2
    have hown := HH.out.aown
    have hsub : (st.air.length : Int) - 1 = (L1 : Int) := by omega
    have hwr : IntKind.i64.wrap (L1 : Int) = (L1 : Int) := by have := HG.out.airn; rw [IntKind.wrap_i64]; omega
    have hlt1 : (0 : Int) < (st.air.length : Int) := by omega
    have hlt2 : (0 : Int) ≤ (ni : Int) := by omega
    have hlt3 : (ni : Int) < (st.air.length : Int) := by omega
    have hlt4 : (0 : Int) ≤ (L1 : Int) := by omega
    have hlt5 : (L1 : Int) < (st.air.length : Int) := by omega
    have hlt6 : (L1 : Int) ≤ (st.air.length : Int) := by omega
    have hlt7 : (L1 : Int) ≤ (ac : Int) := by omega
    rw [hav] at c6 hown
    obtain ⟨cur, hcur, hcs, hct, _⟩ := air_block hown
    have f1 : W1.frozen? ⟨ag, ni, none⟩ = false := frozen_of_row W1 ag ni _ _ hcur
    have hne : ¬ ag = nb := own_ne hown rfl HH.out.blk (by decide)
    have f2 : W1.frozen? ⟨nb, 6, none⟩ = false := frozen_of_row W1 nb 6 _ _ HH.out.blk
    have hne' : ¬ nb = ag := Ne.symm hne
    have HFIN : Hid (∀ nq, NetTo A B0 B own w nb (((W1.drewN nq).setCell ⟨ag, ni, none⟩ (slat st.air L1).val).setCell ⟨nb, 6, none⟩ (.slice (some ⟨ag, 0, none⟩) L1 ac)).drew (MoveNet st)) := fun nq => by
      obtain ⟨h2, hf2⟩ := HH.out.above 1 (below_drew (w' := W1.drewN nq) rfl)
      obtain ⟨h3, hf3, hl3, hl4⟩ := h2.lose (ni := ni) HL1.out hav
      obtain ⟨h4, hf4⟩ := h3.above 1 ((Below.refl _ _).drew)
      exact ⟨_, _, h4, HG.out.lose hl3 hl4, ((HF1.out.trans hf2).trans hf3).trans hf4, HO.out, rfl⟩
    unfold Sl.val at ha ha2 HFIN
    clear hni hav m3 c3 c4 hv hz hL1 hown hcur hcs hct
    go_upto_region 19 with (go_at_call 33; refine (HPK.out _).mono ?_; rintro e w' ⟨rfl, hw⟩; rw [hw]; clear hw)
    go_quiet (first | (go_at_call 33; refine Calls.quiet_of_same (HPN.out _)))
    go_upto_region 20 with fail
    refine wp_region_tail 18 (by kernel_rfl) (by kernel_rfl) ?_
    simp only [List.take_succ_cons, List.take_zero, List.drop_succ_cons, List.drop_zero]
    repeat still_step
    refine wpStill_nil ?_
    go_upto_region 21 with fail
    refine wp_region_tail 14 (by kernel_rfl) (by kernel_rfl) ?_
    simp only [List.take_succ_cons, List.take_zero, List.drop_succ_cons, List.drop_zero]
    repeat still_step
    refine wpStill_nil ?_
    go_wp2_with fail
    go_ret
    exact ⟨rfl, HFIN.out (nq + 1)⟩

end Go.Proofs.YtjabhnhejbhgjaaGreatDoor
