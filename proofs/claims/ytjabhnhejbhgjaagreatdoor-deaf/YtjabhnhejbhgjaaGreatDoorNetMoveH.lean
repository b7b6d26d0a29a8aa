/- The net: move. (Written by gen_move.py.) -/
import Derived.Test.YtjabhnhejbhgjaaGreatDoorNetMove
import Derived.Deep.RegionHeld3
import Derived.StillTailTactics
namespace Go.Proofs.YtjabhnhejbhgjaaGreatDoor
open Go.RowKit

set_option maxRecDepth 100000 in
set_option maxHeartbeats 4000000 in
theorem move_hear4 {A : Nat → Addr} {B0 B nb kk : Nat} {own : Nat → Nat} {w : World} {st : Nt} {kd nn rr : Int} {s : ByteArray} (h : NI A B0 B own w nb st) (g : NG st) (ho : st.Open) (hlen : 0 < st.rs.length) (hk : In64 kd) (hn : In64 nn) (hr : In64 rr) (hkk : pickI kd 10 = (kk : Int)) (hwh : kk = 4) :
    Calls Tryz.prog 14 #[.pointer (some ⟨nb, 0, none⟩), .agg #[.int .i64 kd, .int .i64 nn, .int .i64 rr, .string s]] w fun e w' => e = .returned (.bool true) ∧ NetTo A B0 B own w nb w' (MoveNet st) := by
  obtain ⟨ri, hri, hri2⟩ := pickN (c := rr) (n := (st.rs.length : Int)) (by omega)
  have hrl : ri < st.rs.length := by omega
  have HPK : Hid (∀ W, Calls Tryz.prog 33 #[.int .i64 kd, .int .i64 10] W fun e w' => e = .returned (.int .i64 (kk : Int)) ∧ w' = W) := fun W => by rw [← hkk]; exact keepPick_any kd 10 W (by omega) hk.1 hk.2
  have HPR : Hid (∀ W, Calls Tryz.prog 33 #[.int .i64 rr, .int .i64 (st.rs.length : Int)] W fun e w' => e = .returned (.int .i64 (ri : Int)) ∧ w' = W) := fun W => by rw [← hri]; exact keepPick_any rr _ W (by omega) hr.1 hr.2
  have hM := heap_alloc_new w (.cells #[.int .i64 kd, .int .i64 nn, .int .i64 rr, .string s] 36)
  obtain ⟨h0, hf0⟩ := h.above 1 ((Below.refl w.heap.size w).alloc (Nat.le_refl _) (.cells #[.int .i64 kd, .int .i64 nn, .int .i64 rr, .string s] 36))
  have HN : Hid (In64 nn) := hn
  have HO : Hid st.Open := ho
  have HG : Hid (NG st) := g
  clear h g ho hn hri hk hr hkk
  go_enter Tryz.func14, Tryz.ntmps14
  go_upto_region 1 with fail
  have HF0 : Hid (Fr own w (ownN own w.heap.size 1) (w.alloc (.cells #[.int .i64 kd, .int .i64 nn, .int .i64 rr, .string s] 36))) := hf0
  generalize w.alloc (.cells #[.int .i64 kd, .int .i64 nn, .int .i64 rr, .string s] 36) = W at *
  have HM : Hid (W.heap[w.heap.size]? = some (.cells #[.int .i64 kd, .int .i64 nn, .int .i64 rr, .string s] 36 (0, 0))) := hM
  generalize hmb : w.heap.size = mb at *
  have HOM : Hid (ownN own mb 1 mb = 1) := ownN_new (Nat.le_refl _)
  generalize ownN own mb 1 = own0 at *
  clear hmb
  have m0 : W.cell? ⟨mb, 0, none⟩ = some (.int .i64 kd) := cell_of_row W _ 0 _ _ _ hM
  have m1 : W.cell? ⟨mb, 1, none⟩ = some (.int .i64 nn) := cell_of_row W _ 1 _ _ _ hM
  have m2 : W.cell? ⟨mb, 2, none⟩ = some (.int .i64 rr) := cell_of_row W _ 2 _ _ _ hM
  have m3 : W.cell? ⟨mb, 3, none⟩ = some (.string s) := cell_of_row W _ 3 _ _ _ hM
  obtain ⟨c0, c1, c2, c3, c4, c5, c6, c7⟩ := h0.cells
  obtain ⟨vg, vc, hvr, hvc, hv⟩ := h0.rcPtr hrl
  rw [hvr] at c4
  have HH : Hid (NI A B0 B own0 W nb st) := h0
  clear h0 hf0 hM hvr
  go_quiet (first | (go_at_call 33; refine Calls.quiet_of_same (HPR.out _)))
  obtain ⟨W1, hW1⟩ : ∃ x, x = W.drewN nq := ⟨_, rfl⟩
  rw [← hW1]
  obtain ⟨h1, hf1⟩ := HH.out.above 1 (below_drew hW1)
  have hM1 := ((below_drew hW1).block mb (lt_of_block HM.out)).trans HM.out
  have HF1 : Hid (Fr own w (ownN own0 W.heap.size 1) W1) := HF0.out.trans hf1
  have HOM1 : Hid (ownN own0 W.heap.size 1 mb = 1) := (hf1.keep mb (lt_of_block HM.out) HOM.out).1
  clear m0 m1 m2 m3 c0 c1 c2 c3 c4 c5 c6 c7 hv hf1 HF0 HM HOM hW1 HH
  generalize ownN own0 W.heap.size 1 = own1 at *
  have m0 : W1.cell? ⟨mb, 0, none⟩ = some (.int .i64 kd) := cell_of_row W1 _ 0 _ _ _ hM1
  have m1 : W1.cell? ⟨mb, 1, none⟩ = some (.int .i64 nn) := cell_of_row W1 _ 1 _ _ _ hM1
  have m3 : W1.cell? ⟨mb, 3, none⟩ = some (.string s) := cell_of_row W1 _ 3 _ _ _ hM1
  obtain ⟨_, _, _, c3, c4, _, c6, _⟩ := h1.cells
  obtain ⟨vg, vc, hvr, hvc, hv⟩ := h1.rcPtr hrl
  rw [hvr] at c4
  have HM : Hid _ := hM1
  have HH : Hid (NI A B0 B own1 W1 nb st) := h1
  clear h1 hM1 hvr
  subst hwh
  by_cases hz : st.air.length = 0
  · obtain ⟨aa, ac, hav, _⟩ := own_form2 HH.out.aown
    rw [hav, hz] at c6
    clear hav m1 m3 c3 c4 hv
    go_wp2_with (go_at_call 33; refine (HPK.out _).mono ?_; rintro e w' ⟨rfl, hw⟩; rw [hw]; clear hw)
    go_ret
    exact ⟨rfl, own1, st, HH.out, HG.out, HF1.out, HO.out, rfl⟩
  · obtain ⟨ni, hni, hni2⟩ := pickN (c := nn) (n := (st.air.length : Int)) (by omega)
    have hnl : ni < st.air.length := by omega
    have HPN : Hid (∀ W, Calls Tryz.prog 33 #[.int .i64 nn, .int .i64 (st.air.length : Int)] W fun e w' => e = .returned (.int .i64 (ni : Int)) ∧ w' = W) := fun W => by rw [← hni]; exact keepPick_any nn _ W (by omega) HN.out.1 HN.out.2
    obtain ⟨ag, ac, hav, hac, ha⟩ := HH.out.arPtr hnl
    obtain ⟨i2, q2, p2, y1, y2, y3, y4⟩ := HG.out.air _ (slat_mem hnl)
    have HXA := HH.out.airAt _ (slat_mem hnl)
    have HOM : Hid (mb < W1.heap.size) := lt_of_block HM.out
    have HHR : Hid (∀ W, Below W1.heap.size W1 W → Calls Tryz.prog 20 #[.pointer (some ⟨nb, 0, none⟩), .int .i64 (ri : Int), (slat st.air ni).val] W fun e w' => e = .returned (.bool true) ∧ Hid (NetTo A B0 B own w nb w' (MoveNet st)) ∧ (w'.cell? ⟨nb, 6, none⟩ = some (.slice (some ⟨ag, 0, none⟩) st.air.length ac) ∧ w'.cell? ⟨mb, 1, none⟩ = some (.int .i64 nn) ∧ w'.cell? ⟨ag, ni, none⟩ = some (slat st.air ni).val)) := fun W hW => by
      obtain ⟨h5, hf5⟩ := HH.out.above 1 hW
      refine (netHear_any h5 HG.out hrl (HO.out ri hrl) (HXA.fr hf5) y1 y2 (by rw [HG.out.cfg.1, HG.out.cfg.2.1]; exact y3) y4).mono ?_
      rintro e w' ⟨rfl, o6, st6, h6, g6, hf6, r6, rfl, _, hs6⟩
      refine ⟨rfl, ⟨o6, _, h6, g6, (HF1.out.trans hf5).trans hf6, open_withR HO.out hrl hs6, withR_len _ _ _⟩, ?_, ?_, ?_⟩
      · have := h6.cells.2.2.2.2.2.2.1
        change w'.cell? ⟨nb, 6, none⟩ = some st.va at this
        rw [this, hav]
      · have hff := hf5.trans hf6
        rw [World.cell?_of_block (w := W1) (a := ⟨mb, 1, none⟩) (hff.keep mb HOM.out HOM1.out).2]
        exact m1
      · obtain ⟨g7, c7, e7, _, k7⟩ := h6.arPtr (r := ni) hnl
        change st.va = .slice (some ⟨g7, 0, none⟩) st.air.length c7 at e7
        rw [hav] at e7
        simp only [Value.slice.injEq, Option.some.injEq, Addr.mk.injEq, and_true, true_and] at e7
        rw [e7.1]
        exact k7
    have hlt1 : (0 : Int) < (st.air.length : Int) := by omega
    have hlt2 : (0 : Int) ≤ (ni : Int) := by omega
    have hlt3 : (ni : Int) < (st.air.length : Int) := by omega
    rw [hav] at c6
    unfold Sl.val at ha HHR
    clear hni HXA hav y1 y2 y3 y4 m3 c3 c4 hv hz
    go_upto_region 16 with (go_at_call 33; refine (HPK.out _).mono ?_; rintro e w' ⟨rfl, hw⟩; rw [hw]; clear hw)
    go_region_held3 (fun w' => w'.cell? ⟨nb, 6, none⟩ = some (.slice (some ⟨ag, 0, none⟩) st.air.length ac) ∧ w'.cell? ⟨mb, 1, none⟩ = some (.int .i64 nn) ∧ w'.cell? ⟨ag, ni, none⟩ = some (.slice (slat st.air ni).a (slat st.air ni).l.length (slat st.air ni).c)) (first | go_keep | exact hkeep) (first
      | (go_at_call 33; refine (HPN.out _).mono ?_; rintro e w' ⟨rfl, hw⟩; rw [hw]; clear hw)
      | (go_at_call 20; refine (HHR.out _ (by first | exact Below.refl _ _ | exact (Below.refl _ _).drew)).mono ?_; rintro e w5 ⟨rfl, HN5, hkeep⟩))
    all_goals go_wp2_with fail
    all_goals go_ret
    all_goals exact ⟨rfl, HN5.out⟩

set_option maxRecDepth 100000 in
set_option maxHeartbeats 4000000 in
theorem move_hear5 {A : Nat → Addr} {B0 B nb kk : Nat} {own : Nat → Nat} {w : World} {st : Nt} {kd nn rr : Int} {s : ByteArray} (h : NI A B0 B own w nb st) (g : NG st) (ho : st.Open) (hlen : 0 < st.rs.length) (hk : In64 kd) (hn : In64 nn) (hr : In64 rr) (hkk : pickI kd 10 = (kk : Int)) (hwh : kk = 5) :
    Calls Tryz.prog 14 #[.pointer (some ⟨nb, 0, none⟩), .agg #[.int .i64 kd, .int .i64 nn, .int .i64 rr, .string s]] w fun e w' => e = .returned (.bool true) ∧ NetTo A B0 B own w nb w' (MoveNet st) := by
  obtain ⟨ri, hri, hri2⟩ := pickN (c := rr) (n := (st.rs.length : Int)) (by omega)
  have hrl : ri < st.rs.length := by omega
  have HPK : Hid (∀ W, Calls Tryz.prog 33 #[.int .i64 kd, .int .i64 10] W fun e w' => e = .returned (.int .i64 (kk : Int)) ∧ w' = W) := fun W => by rw [← hkk]; exact keepPick_any kd 10 W (by omega) hk.1 hk.2
  have HPR : Hid (∀ W, Calls Tryz.prog 33 #[.int .i64 rr, .int .i64 (st.rs.length : Int)] W fun e w' => e = .returned (.int .i64 (ri : Int)) ∧ w' = W) := fun W => by rw [← hri]; exact keepPick_any rr _ W (by omega) hr.1 hr.2
  have hM := heap_alloc_new w (.cells #[.int .i64 kd, .int .i64 nn, .int .i64 rr, .string s] 36)
  obtain ⟨h0, hf0⟩ := h.above 1 ((Below.refl w.heap.size w).alloc (Nat.le_refl _) (.cells #[.int .i64 kd, .int .i64 nn, .int .i64 rr, .string s] 36))
  have HN : Hid (In64 nn) := hn
  have HO : Hid st.Open := ho
  have HG : Hid (NG st) := g
  clear h g ho hn hri hk hr hkk
  go_enter Tryz.func14, Tryz.ntmps14
  go_upto_region 1 with fail
  have HF0 : Hid (Fr own w (ownN own w.heap.size 1) (w.alloc (.cells #[.int .i64 kd, .int .i64 nn, .int .i64 rr, .string s] 36))) := hf0
  generalize w.alloc (.cells #[.int .i64 kd, .int .i64 nn, .int .i64 rr, .string s] 36) = W at *
  have HM : Hid (W.heap[w.heap.size]? = some (.cells #[.int .i64 kd, .int .i64 nn, .int .i64 rr, .string s] 36 (0, 0))) := hM
  generalize hmb : w.heap.size = mb at *
  have HOM : Hid (ownN own mb 1 mb = 1) := ownN_new (Nat.le_refl _)
  generalize ownN own mb 1 = own0 at *
  clear hmb
  have m0 : W.cell? ⟨mb, 0, none⟩ = some (.int .i64 kd) := cell_of_row W _ 0 _ _ _ hM
  have m1 : W.cell? ⟨mb, 1, none⟩ = some (.int .i64 nn) := cell_of_row W _ 1 _ _ _ hM
  have m2 : W.cell? ⟨mb, 2, none⟩ = some (.int .i64 rr) := cell_of_row W _ 2 _ _ _ hM
  have m3 : W.cell? ⟨mb, 3, none⟩ = some (.string s) := cell_of_row W _ 3 _ _ _ hM
  obtain ⟨c0, c1, c2, c3, c4, c5, c6, c7⟩ := h0.cells
  obtain ⟨vg, vc, hvr, hvc, hv⟩ := h0.rcPtr hrl
  rw [hvr] at c4
  have HH : Hid (NI A B0 B own0 W nb st) := h0
  clear h0 hf0 hM hvr
  go_quiet (first | (go_at_call 33; refine Calls.quiet_of_same (HPR.out _)))
  obtain ⟨W1, hW1⟩ : ∃ x, x = W.drewN nq := ⟨_, rfl⟩
  rw [← hW1]
  obtain ⟨h1, hf1⟩ := HH.out.above 1 (below_drew hW1)
  have hM1 := ((below_drew hW1).block mb (lt_of_block HM.out)).trans HM.out
  have HF1 : Hid (Fr own w (ownN own0 W.heap.size 1) W1) := HF0.out.trans hf1
  have HOM1 : Hid (ownN own0 W.heap.size 1 mb = 1) := (hf1.keep mb (lt_of_block HM.out) HOM.out).1
  clear m0 m1 m2 m3 c0 c1 c2 c3 c4 c5 c6 c7 hv hf1 HF0 HM HOM hW1 HH
  generalize ownN own0 W.heap.size 1 = own1 at *
  have m0 : W1.cell? ⟨mb, 0, none⟩ = some (.int .i64 kd) := cell_of_row W1 _ 0 _ _ _ hM1
  have m1 : W1.cell? ⟨mb, 1, none⟩ = some (.int .i64 nn) := cell_of_row W1 _ 1 _ _ _ hM1
  have m3 : W1.cell? ⟨mb, 3, none⟩ = some (.string s) := cell_of_row W1 _ 3 _ _ _ hM1
  obtain ⟨_, _, _, c3, c4, _, c6, _⟩ := h1.cells
  obtain ⟨vg, vc, hvr, hvc, hv⟩ := h1.rcPtr hrl
  rw [hvr] at c4
  have HM : Hid _ := hM1
  have HH : Hid (NI A B0 B own1 W1 nb st) := h1
  clear h1 hM1 hvr
  subst hwh
  by_cases hz : st.air.length = 0
  · obtain ⟨aa, ac, hav, _⟩ := own_form2 HH.out.aown
    rw [hav, hz] at c6
    clear hav m1 m3 c3 c4 hv
    go_wp2_with (go_at_call 33; refine (HPK.out _).mono ?_; rintro e w' ⟨rfl, hw⟩; rw [hw]; clear hw)
    go_ret
    exact ⟨rfl, own1, st, HH.out, HG.out, HF1.out, HO.out, rfl⟩
  · obtain ⟨ni, hni, hni2⟩ := pickN (c := nn) (n := (st.air.length : Int)) (by omega)
    have hnl : ni < st.air.length := by omega
    have HPN : Hid (∀ W, Calls Tryz.prog 33 #[.int .i64 nn, .int .i64 (st.air.length : Int)] W fun e w' => e = .returned (.int .i64 (ni : Int)) ∧ w' = W) := fun W => by rw [← hni]; exact keepPick_any nn _ W (by omega) HN.out.1 HN.out.2
    obtain ⟨ag, ac, hav, hac, ha⟩ := HH.out.arPtr hnl
    obtain ⟨i2, q2, p2, y1, y2, y3, y4⟩ := HG.out.air _ (slat_mem hnl)
    have HXA := HH.out.airAt _ (slat_mem hnl)
    have HOM : Hid (mb < W1.heap.size) := lt_of_block HM.out
    have HHR : Hid (∀ W, Below W1.heap.size W1 W → Calls Tryz.prog 20 #[.pointer (some ⟨nb, 0, none⟩), .int .i64 (ri : Int), (slat st.air ni).val] W fun e w' => e = .returned (.bool true) ∧ Hid (NetTo A B0 B own w nb w' (MoveNet st)) ∧ (w'.cell? ⟨nb, 6, none⟩ = some (.slice (some ⟨ag, 0, none⟩) st.air.length ac) ∧ w'.cell? ⟨mb, 1, none⟩ = some (.int .i64 nn) ∧ w'.cell? ⟨ag, ni, none⟩ = some (slat st.air ni).val)) := fun W hW => by
      obtain ⟨h5, hf5⟩ := HH.out.above 1 hW
      refine (netHear_any h5 HG.out hrl (HO.out ri hrl) (HXA.fr hf5) y1 y2 (by rw [HG.out.cfg.1, HG.out.cfg.2.1]; exact y3) y4).mono ?_
      rintro e w' ⟨rfl, o6, st6, h6, g6, hf6, r6, rfl, _, hs6⟩
      refine ⟨rfl, ⟨o6, _, h6, g6, (HF1.out.trans hf5).trans hf6, open_withR HO.out hrl hs6, withR_len _ _ _⟩, ?_, ?_, ?_⟩
      · have := h6.cells.2.2.2.2.2.2.1
        change w'.cell? ⟨nb, 6, none⟩ = some st.va at this
        rw [this, hav]
      · have hff := hf5.trans hf6
        rw [World.cell?_of_block (w := W1) (a := ⟨mb, 1, none⟩) (hff.keep mb HOM.out HOM1.out).2]
        exact m1
      · obtain ⟨g7, c7, e7, _, k7⟩ := h6.arPtr (r := ni) hnl
        change st.va = .slice (some ⟨g7, 0, none⟩) st.air.length c7 at e7
        rw [hav] at e7
        simp only [Value.slice.injEq, Option.some.injEq, Addr.mk.injEq, and_true, true_and] at e7
        rw [e7.1]
        exact k7
    have hlt1 : (0 : Int) < (st.air.length : Int) := by omega
    have hlt2 : (0 : Int) ≤ (ni : Int) := by omega
    have hlt3 : (ni : Int) < (st.air.length : Int) := by omega
    rw [hav] at c6
    unfold Sl.val at ha HHR
    clear hni HXA hav y1 y2 y3 y4 m3 c3 c4 hv hz
    go_upto_region 16 with (go_at_call 33; refine (HPK.out _).mono ?_; rintro e w' ⟨rfl, hw⟩; rw [hw]; clear hw)
    go_region_held3 (fun w' => w'.cell? ⟨nb, 6, none⟩ = some (.slice (some ⟨ag, 0, none⟩) st.air.length ac) ∧ w'.cell? ⟨mb, 1, none⟩ = some (.int .i64 nn) ∧ w'.cell? ⟨ag, ni, none⟩ = some (.slice (slat st.air ni).a (slat st.air ni).l.length (slat st.air ni).c)) (first | go_keep | exact hkeep) (first
      | (go_at_call 33; refine (HPN.out _).mono ?_; rintro e w' ⟨rfl, hw⟩; rw [hw]; clear hw)
      | (go_at_call 20; refine (HHR.out _ (by first | exact Below.refl _ _ | exact (Below.refl _ _).drew)).mono ?_; rintro e w5 ⟨rfl, HN5, hkeep⟩))
    all_goals go_wp2_with fail
    all_goals go_ret
    all_goals exact ⟨rfl, HN5.out⟩

set_option maxRecDepth 100000 in
set_option maxHeartbeats 4000000 in
theorem move_hear6 {A : Nat → Addr} {B0 B nb kk : Nat} {own : Nat → Nat} {w : World} {st : Nt} {kd nn rr : Int} {s : ByteArray} (h : NI A B0 B own w nb st) (g : NG st) (ho : st.Open) (hlen : 0 < st.rs.length) (hk : In64 kd) (hn : In64 nn) (hr : In64 rr) (hkk : pickI kd 10 = (kk : Int)) (hwh : kk = 6) :
    Calls Tryz.prog 14 #[.pointer (some ⟨nb, 0, none⟩), .agg #[.int .i64 kd, .int .i64 nn, .int .i64 rr, .string s]] w fun e w' => e = .returned (.bool true) ∧ NetTo A B0 B own w nb w' (MoveNet st) := by
  obtain ⟨ri, hri, hri2⟩ := pickN (c := rr) (n := (st.rs.length : Int)) (by omega)
  have hrl : ri < st.rs.length := by omega
  have HPK : Hid (∀ W, Calls Tryz.prog 33 #[.int .i64 kd, .int .i64 10] W fun e w' => e = .returned (.int .i64 (kk : Int)) ∧ w' = W) := fun W => by rw [← hkk]; exact keepPick_any kd 10 W (by omega) hk.1 hk.2
  have HPR : Hid (∀ W, Calls Tryz.prog 33 #[.int .i64 rr, .int .i64 (st.rs.length : Int)] W fun e w' => e = .returned (.int .i64 (ri : Int)) ∧ w' = W) := fun W => by rw [← hri]; exact keepPick_any rr _ W (by omega) hr.1 hr.2
  have hM := heap_alloc_new w (.cells #[.int .i64 kd, .int .i64 nn, .int .i64 rr, .string s] 36)
  obtain ⟨h0, hf0⟩ := h.above 1 ((Below.refl w.heap.size w).alloc (Nat.le_refl _) (.cells #[.int .i64 kd, .int .i64 nn, .int .i64 rr, .string s] 36))
  have HN : Hid (In64 nn) := hn
  have HO : Hid st.Open := ho
  have HG : Hid (NG st) := g
  clear h g ho hn hri hk hr hkk
  go_enter Tryz.func14, Tryz.ntmps14
  go_upto_region 1 with fail
  have HF0 : Hid (Fr own w (ownN own w.heap.size 1) (w.alloc (.cells #[.int .i64 kd, .int .i64 nn, .int .i64 rr, .string s] 36))) := hf0
  generalize w.alloc (.cells #[.int .i64 kd, .int .i64 nn, .int .i64 rr, .string s] 36) = W at *
  have HM : Hid (W.heap[w.heap.size]? = some (.cells #[.int .i64 kd, .int .i64 nn, .int .i64 rr, .string s] 36 (0, 0))) := hM
  generalize hmb : w.heap.size = mb at *
  have HOM : Hid (ownN own mb 1 mb = 1) := ownN_new (Nat.le_refl _)
  generalize ownN own mb 1 = own0 at *
  clear hmb
  have m0 : W.cell? ⟨mb, 0, none⟩ = some (.int .i64 kd) := cell_of_row W _ 0 _ _ _ hM
  have m1 : W.cell? ⟨mb, 1, none⟩ = some (.int .i64 nn) := cell_of_row W _ 1 _ _ _ hM
  have m2 : W.cell? ⟨mb, 2, none⟩ = some (.int .i64 rr) := cell_of_row W _ 2 _ _ _ hM
  have m3 : W.cell? ⟨mb, 3, none⟩ = some (.string s) := cell_of_row W _ 3 _ _ _ hM
  obtain ⟨c0, c1, c2, c3, c4, c5, c6, c7⟩ := h0.cells
  obtain ⟨vg, vc, hvr, hvc, hv⟩ := h0.rcPtr hrl
  rw [hvr] at c4
  have HH : Hid (NI A B0 B own0 W nb st) := h0
  clear h0 hf0 hM hvr
  go_quiet (first | (go_at_call 33; refine Calls.quiet_of_same (HPR.out _)))
  obtain ⟨W1, hW1⟩ : ∃ x, x = W.drewN nq := ⟨_, rfl⟩
  rw [← hW1]
  obtain ⟨h1, hf1⟩ := HH.out.above 1 (below_drew hW1)
  have hM1 := ((below_drew hW1).block mb (lt_of_block HM.out)).trans HM.out
  have HF1 : Hid (Fr own w (ownN own0 W.heap.size 1) W1) := HF0.out.trans hf1
  have HOM1 : Hid (ownN own0 W.heap.size 1 mb = 1) := (hf1.keep mb (lt_of_block HM.out) HOM.out).1
  clear m0 m1 m2 m3 c0 c1 c2 c3 c4 c5 c6 c7 hv hf1 HF0 HM HOM hW1 HH
  generalize ownN own0 W.heap.size 1 = own1 at *
  have m0 : W1.cell? ⟨mb, 0, none⟩ = some (.int .i64 kd) := cell_of_row W1 _ 0 _ _ _ hM1
  have m1 : W1.cell? ⟨mb, 1, none⟩ = some (.int .i64 nn) := cell_of_row W1 _ 1 _ _ _ hM1
  have m3 : W1.cell? ⟨mb, 3, none⟩ = some (.string s) := cell_of_row W1 _ 3 _ _ _ hM1
  obtain ⟨_, _, _, c3, c4, _, c6, _⟩ := h1.cells
  obtain ⟨vg, vc, hvr, hvc, hv⟩ := h1.rcPtr hrl
  rw [hvr] at c4
  have HM : Hid _ := hM1
  have HH : Hid (NI A B0 B own1 W1 nb st) := h1
  clear h1 hM1 hvr
  subst hwh
  by_cases hz : st.air.length = 0
  · obtain ⟨aa, ac, hav, _⟩ := own_form2 HH.out.aown
    rw [hav, hz] at c6
    clear hav m1 m3 c3 c4 hv
    go_wp2_with (go_at_call 33; refine (HPK.out _).mono ?_; rintro e w' ⟨rfl, hw⟩; rw [hw]; clear hw)
    go_ret
    exact ⟨rfl, own1, st, HH.out, HG.out, HF1.out, HO.out, rfl⟩
  · obtain ⟨ni, hni, hni2⟩ := pickN (c := nn) (n := (st.air.length : Int)) (by omega)
    have hnl : ni < st.air.length := by omega
    have HPN : Hid (∀ W, Calls Tryz.prog 33 #[.int .i64 nn, .int .i64 (st.air.length : Int)] W fun e w' => e = .returned (.int .i64 (ni : Int)) ∧ w' = W) := fun W => by rw [← hni]; exact keepPick_any nn _ W (by omega) HN.out.1 HN.out.2
    obtain ⟨ag, ac, hav, hac, ha⟩ := HH.out.arPtr hnl
    obtain ⟨i2, q2, p2, y1, y2, y3, y4⟩ := HG.out.air _ (slat_mem hnl)
    have HXA := HH.out.airAt _ (slat_mem hnl)
    have HOM : Hid (mb < W1.heap.size) := lt_of_block HM.out
    have HHR : Hid (∀ W, Below W1.heap.size W1 W → Calls Tryz.prog 20 #[.pointer (some ⟨nb, 0, none⟩), .int .i64 (ri : Int), (slat st.air ni).val] W fun e w' => e = .returned (.bool true) ∧ Hid (NetTo A B0 B own w nb w' (MoveNet st)) ∧ (w'.cell? ⟨nb, 6, none⟩ = some (.slice (some ⟨ag, 0, none⟩) st.air.length ac) ∧ w'.cell? ⟨mb, 1, none⟩ = some (.int .i64 nn) ∧ w'.cell? ⟨ag, ni, none⟩ = some (slat st.air ni).val)) := fun W hW => by
      obtain ⟨h5, hf5⟩ := HH.out.above 1 hW
      refine (netHear_any h5 HG.out hrl (HO.out ri hrl) (HXA.fr hf5) y1 y2 (by rw [HG.out.cfg.1, HG.out.cfg.2.1]; exact y3) y4).mono ?_
      rintro e w' ⟨rfl, o6, st6, h6, g6, hf6, r6, rfl, _, hs6⟩
      refine ⟨rfl, ⟨o6, _, h6, g6, (HF1.out.trans hf5).trans hf6, open_withR HO.out hrl hs6, withR_len _ _ _⟩, ?_, ?_, ?_⟩
      · have := h6.cells.2.2.2.2.2.2.1
        change w'.cell? ⟨nb, 6, none⟩ = some st.va at this
        rw [this, hav]
      · have hff := hf5.trans hf6
        rw [World.cell?_of_block (w := W1) (a := ⟨mb, 1, none⟩) (hff.keep mb HOM.out HOM1.out).2]
        exact m1
      · obtain ⟨g7, c7, e7, _, k7⟩ := h6.arPtr (r := ni) hnl
        change st.va = .slice (some ⟨g7, 0, none⟩) st.air.length c7 at e7
        rw [hav] at e7
        simp only [Value.slice.injEq, Option.some.injEq, Addr.mk.injEq, and_true, true_and] at e7
        rw [e7.1]
        exact k7
    have hlt1 : (0 : Int) < (st.air.length : Int) := by omega
    have hlt2 : (0 : Int) ≤ (ni : Int) := by omega
    have hlt3 : (ni : Int) < (st.air.length : Int) := by omega
    rw [hav] at c6
    unfold Sl.val at ha HHR
    clear hni HXA hav y1 y2 y3 y4 m3 c3 c4 hv hz
    go_upto_region 16 with (go_at_call 33; refine (HPK.out _).mono ?_; rintro e w' ⟨rfl, hw⟩; rw [hw]; clear hw)
    go_region_held3 (fun w' => w'.cell? ⟨nb, 6, none⟩ = some (.slice (some ⟨ag, 0, none⟩) st.air.length ac) ∧ w'.cell? ⟨mb, 1, none⟩ = some (.int .i64 nn) ∧ w'.cell? ⟨ag, ni, none⟩ = some (.slice (slat st.air ni).a (slat st.air ni).l.length (slat st.air ni).c)) (first | go_keep | exact hkeep) (first
      | (go_at_call 33; refine (HPN.out _).mono ?_; rintro e w' ⟨rfl, hw⟩; rw [hw]; clear hw)
      | (go_at_call 20; refine (HHR.out _ (by first | exact Below.refl _ _ | exact (Below.refl _ _).drew)).mono ?_; rintro e w5 ⟨rfl, HN5, hkeep⟩))
    all_goals go_wp2_with fail
    all_goals go_ret
    all_goals exact ⟨rfl, HN5.out⟩

end Go.Proofs.YtjabhnhejbhgjaaGreatDoor
