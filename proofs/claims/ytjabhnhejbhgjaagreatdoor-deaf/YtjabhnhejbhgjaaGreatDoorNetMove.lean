/- The net: move. (Written by gen_move.py.) -/
import Derived.Test.YtjabhnhejbhgjaaGreatDoorMany16
import Derived.Deep.RegionWith
namespace Go.Proofs.YtjabhnhejbhgjaaGreatDoor
open Go.RowKit

/-- All receivers are open. -/
def Nt.Open (st : Nt) : Prop := ∀ i, i < st.rs.length → (rcat st.rs i).2.shut = false
/-- What a move makes of the net. -/
def MoveNet (st st' : Nt) : Prop := st'.Open ∧ st'.rs.length = st.rs.length

/-- A packet more is on its way. -/
theorem NG.fly {st : Nt} (g : NG st) {x : Sl} {va : Value} {i q p : Nat} (hi : i < st.s.os.length) (hq : q < st.s.Q i) (hp : plcN st.s.K st.s.N (st.s.T i) q p = true) (hx : x.l = st.s.pkt i q p) (h60 : st.air.length < 60) : NG { st with air := st.air ++ [x], va := va } := by
  refine ⟨g.cfg, g.olen, g.objs, g.owe, g.gen, g.un, g.tk, fun y hy => ?_, by show (st.air ++ [x]).length ≤ 60; simp; omega⟩
  rcases List.mem_append.1 hy with z | z
  · exact g.air y z
  · rw [List.mem_singleton.1 z]
    exact ⟨i, q, p, hi, hq, by show plcN st.K st.N (st.s.T i) q p = true; rw [← g.cfg.1, ← g.cfg.2.1]; exact hp, hx⟩
/-- One is lost. -/
theorem NG.lose {st : Nt} (g : NG st) {va : Value} {air' : List Sl} (ha : ∀ x ∈ air', x ∈ st.air) (hl : air'.length ≤ st.air.length) : NG { st with air := air', va := va } :=
  ⟨g.cfg, g.olen, g.objs, g.owe, g.gen, g.un, g.tk, fun y hy => g.air y (ha y hy), Nat.le_trans hl g.airn⟩

theorem pickN {c n : Int} (h : 0 < n) : ∃ k : Nat, pickI c n = (k : Int) ∧ (k : Int) < n := by
  have := pickI_range c n h
  exact ⟨(pickI c n).toNat, by omega, by omega⟩

theorem open_withR {st : Nt} (ho : st.Open) {r : Nat} (hr : r < st.rs.length) {r' : Rcv} (hs : r'.shut = false) : (st.withR r r').Open := by
  intro j hj
  rw [withR_len] at hj
  by_cases e : j = r
  · subst e
    rw [withR_at hr]
    exact hs
  · rw [withR_other hr _ e]
    exact ho j hj

set_option maxRecDepth 100000 in
set_option maxHeartbeats 4000000 in
theorem move_none {A : Nat → Addr} {B0 B nb kk : Nat} {own : Nat → Nat} {w : World} {st : Nt} {kd nn rr : Int} {s : ByteArray} (h : NI A B0 B own w nb st) (g : NG st) (ho : st.Open) (hlen : 0 < st.rs.length) (hk : In64 kd) (hn : In64 nn) (hr : In64 rr) (hkk : pickI kd 10 = (kk : Int)) (hwh : kk = 9) :
    Calls Tryz.prog 14 #[.pointer (some ⟨nb, 0, none⟩), .agg #[.int .i64 kd, .int .i64 nn, .int .i64 rr, .string s]] w fun e w' => e = .returned (.bool true) ∧ NetTo A B0 B own w nb w' (MoveNet st) := by
  obtain ⟨ri, hri, hri2⟩ := pickN (c := rr) (n := (st.rs.length : Int)) (by omega)
  have hrl : ri < st.rs.length := by omega
  have HPK : Hid (∀ W, Calls Tryz.prog 33 #[.int .i64 kd, .int .i64 10] W fun e w' => e = .returned (.int .i64 (kk : Int)) ∧ w' = W) := fun W => by rw [← hkk]; exact keepPick_any kd 10 W (by omega) hk.1 hk.2
  have HPR : Hid (∀ W, Calls Tryz.prog 33 #[.int .i64 rr, .int .i64 (st.rs.length : Int)] W fun e w' => e = .returned (.int .i64 (ri : Int)) ∧ w' = W) := fun W => by rw [← hri]; exact keepPick_any rr _ W (by omega) hr.1 hr.2
  have hM := heap_alloc_new w (.cells #[.int .i64 kd, .int .i64 nn, .int .i64 rr, .string s] 36)
  obtain ⟨h0, hf0⟩ := h.above 1 ((Below.refl w.heap.size w).alloc (Nat.le_refl _) (.cells #[.int .i64 kd, .int .i64 nn, .int .i64 rr, .string s] 36))
  have HN : Hid (In64 nn) := hn
  have HO : Hid st.Open := ho
  have HG : Hid (NG st) := g
  clear h g ho hn hri hk hr hkk
  go_enter Tryz.func14, Tryz.ntmps14
  go_upto_region 1 with fail
  have HF0 : Hid (Fr own w (ownN own w.heap.size 1) (w.alloc (.cells #[.int .i64 kd, .int .i64 nn, .int .i64 rr, .string s] 36))) := hf0
  generalize w.alloc (.cells #[.int .i64 kd, .int .i64 nn, .int .i64 rr, .string s] 36) = W at *
  have HM : Hid (W.heap[w.heap.size]? = some (.cells #[.int .i64 kd, .int .i64 nn, .int .i64 rr, .string s] 36 (0, 0))) := hM
  generalize hmb : w.heap.size = mb at *
  have HOM : Hid (ownN own mb 1 mb = 1) := ownN_new (Nat.le_refl _)
  generalize ownN own mb 1 = own0 at *
  clear hmb
  have m0 : W.cell? ⟨mb, 0, none⟩ = some (.int .i64 kd) := cell_of_row W _ 0 _ _ _ hM
  have m1 : W.cell? ⟨mb, 1, none⟩ = some (.int .i64 nn) := cell_of_row W _ 1 _ _ _ hM
  have m2 : W.cell? ⟨mb, 2, none⟩ = some (.int .i64 rr) := cell_of_row W _ 2 _ _ _ hM
  have m3 : W.cell? ⟨mb, 3, none⟩ = some (.string s) := cell_of_row W _ 3 _ _ _ hM
  obtain ⟨c0, c1, c2, c3, c4, c5, c6, c7⟩ := h0.cells
  obtain ⟨vg, vc, hvr, hvc, hv⟩ := h0.rcPtr hrl
  rw [hvr] at c4
  have HH : Hid (NI A B0 B own0 W nb st) := h0
  clear h0 hf0 hM hvr
  go_quiet (first | (go_at_call 33; refine Calls.quiet_of_same (HPR.out _)))
  obtain ⟨W1, hW1⟩ : ∃ x, x = W.drewN nq := ⟨_, rfl⟩
  rw [← hW1]
  obtain ⟨h1, hf1⟩ := HH.out.above 1 (below_drew hW1)
  have hM1 := ((below_drew hW1).block mb (lt_of_block HM.out)).trans HM.out
  have HF1 : Hid (Fr own w (ownN own0 W.heap.size 1) W1) := HF0.out.trans hf1
  have HOM1 : Hid (ownN own0 W.heap.size 1 mb = 1) := (hf1.keep mb (lt_of_block HM.out) HOM.out).1
  clear m0 m1 m2 m3 c0 c1 c2 c3 c4 c5 c6 c7 hv hf1 HF0 HM HOM hW1 HH
  generalize ownN own0 W.heap.size 1 = own1 at *
  have m0 : W1.cell? ⟨mb, 0, none⟩ = some (.int .i64 kd) := cell_of_row W1 _ 0 _ _ _ hM1
  have m1 : W1.cell? ⟨mb, 1, none⟩ = some (.int .i64 nn) := cell_of_row W1 _ 1 _ _ _ hM1
  have m3 : W1.cell? ⟨mb, 3, none⟩ = some (.string s) := cell_of_row W1 _ 3 _ _ _ hM1
  obtain ⟨_, _, _, c3, c4, _, c6, _⟩ := h1.cells
  obtain ⟨vg, vc, hvr, hvc, hv⟩ := h1.rcPtr hrl
  rw [hvr] at c4
  have HM : Hid _ := hM1
  have HH : Hid (NI A B0 B own1 W1 nb st) := h1
  clear h1 hM1 hvr
  subst hwh
  go_wp2_with (go_at_call 33; refine (HPK.out _).mono ?_; rintro e w' ⟨rfl, hw⟩; rw [hw]; clear hw)
  go_ret
  exact ⟨rfl, own1, st, HH.out, HG.out, HF1.out, HO.out, rfl⟩

set_option maxRecDepth 100000 in
set_option maxHeartbeats 4000000 in
theorem move_enq {A : Nat → Addr} {B0 B nb kk : Nat} {own : Nat → Nat} {w : World} {st : Nt} {kd nn rr : Int} {s : ByteArray} (h : NI A B0 B own w nb st) (g : NG st) (ho : st.Open) (hlen : 0 < st.rs.length) (hk : In64 kd) (hn : In64 nn) (hr : In64 rr) (hkk : pickI kd 10 = (kk : Int)) (hwh : kk = 0) :
    Calls Tryz.prog 14 #[.pointer (some ⟨nb, 0, none⟩), .agg #[.int .i64 kd, .int .i64 nn, .int .i64 rr, .string s]] w fun e w' => e = .returned (.bool true) ∧ NetTo A B0 B own w nb w' (MoveNet st) := by
  obtain ⟨ri, hri, hri2⟩ := pickN (c := rr) (n := (st.rs.length : Int)) (by omega)
  have hrl : ri < st.rs.length := by omega
  have HPK : Hid (∀ W, Calls Tryz.prog 33 #[.int .i64 kd, .int .i64 10] W fun e w' => e = .returned (.int .i64 (kk : Int)) ∧ w' = W) := fun W => by rw [← hkk]; exact keepPick_any kd 10 W (by omega) hk.1 hk.2
  have HPR : Hid (∀ W, Calls Tryz.prog 33 #[.int .i64 rr, .int .i64 (st.rs.length : Int)] W fun e w' => e = .returned (.int .i64 (ri : Int)) ∧ w' = W) := fun W => by rw [← hri]; exact keepPick_any rr _ W (by omega) hr.1 hr.2
  have hM := heap_alloc_new w (.cells #[.int .i64 kd, .int .i64 nn, .int .i64 rr, .string s] 36)
  obtain ⟨h0, hf0⟩ := h.above 1 ((Below.refl w.heap.size w).alloc (Nat.le_refl _) (.cells #[.int .i64 kd, .int .i64 nn, .int .i64 rr, .string s] 36))
  have HN : Hid (In64 nn) := hn
  have HO : Hid st.Open := ho
  have HG : Hid (NG st) := g
  clear h g ho hn hri hk hr hkk
  go_enter Tryz.func14, Tryz.ntmps14
  go_upto_region 1 with fail
  have HF0 : Hid (Fr own w (ownN own w.heap.size 1) (w.alloc (.cells #[.int .i64 kd, .int .i64 nn, .int .i64 rr, .string s] 36))) := hf0
  generalize w.alloc (.cells #[.int .i64 kd, .int .i64 nn, .int .i64 rr, .string s] 36) = W at *
  have HM : Hid (W.heap[w.heap.size]? = some (.cells #[.int .i64 kd, .int .i64 nn, .int .i64 rr, .string s] 36 (0, 0))) := hM
  generalize hmb : w.heap.size = mb at *
  have HOM : Hid (ownN own mb 1 mb = 1) := ownN_new (Nat.le_refl _)
  generalize ownN own mb 1 = own0 at *
  clear hmb
  have m0 : W.cell? ⟨mb, 0, none⟩ = some (.int .i64 kd) := cell_of_row W _ 0 _ _ _ hM
  have m1 : W.cell? ⟨mb, 1, none⟩ = some (.int .i64 nn) := cell_of_row W _ 1 _ _ _ hM
  have m2 : W.cell? ⟨mb, 2, none⟩ = some (.int .i64 rr) := cell_of_row W _ 2 _ _ _ hM
  have m3 : W.cell? ⟨mb, 3, none⟩ = some (.string s) := cell_of_row W _ 3 _ _ _ hM
  obtain ⟨c0, c1, c2, c3, c4, c5, c6, c7⟩ := h0.cells
  obtain ⟨vg, vc, hvr, hvc, hv⟩ := h0.rcPtr hrl
  rw [hvr] at c4
  have HH : Hid (NI A B0 B own0 W nb st) := h0
  clear h0 hf0 hM hvr
  go_quiet (first | (go_at_call 33; refine Calls.quiet_of_same (HPR.out _)))
  obtain ⟨W1, hW1⟩ : ∃ x, x = W.drewN nq := ⟨_, rfl⟩
  rw [← hW1]
  obtain ⟨h1, hf1⟩ := HH.out.above 1 (below_drew hW1)
  have hM1 := ((below_drew hW1).block mb (lt_of_block HM.out)).trans HM.out
  have HF1 : Hid (Fr own w (ownN own0 W.heap.size 1) W1) := HF0.out.trans hf1
  have HOM1 : Hid (ownN own0 W.heap.size 1 mb = 1) := (hf1.keep mb (lt_of_block HM.out) HOM.out).1
  clear m0 m1 m2 m3 c0 c1 c2 c3 c4 c5 c6 c7 hv hf1 HF0 HM HOM hW1 HH
  generalize ownN own0 W.heap.size 1 = own1 at *
  have m0 : W1.cell? ⟨mb, 0, none⟩ = some (.int .i64 kd) := cell_of_row W1 _ 0 _ _ _ hM1
  have m1 : W1.cell? ⟨mb, 1, none⟩ = some (.int .i64 nn) := cell_of_row W1 _ 1 _ _ _ hM1
  have m3 : W1.cell? ⟨mb, 3, none⟩ = some (.string s) := cell_of_row W1 _ 3 _ _ _ hM1
  obtain ⟨_, _, _, c3, c4, _, c6, _⟩ := h1.cells
  obtain ⟨vg, vc, hvr, hvc, hv⟩ := h1.rcPtr hrl
  rw [hvr] at c4
  have HM : Hid _ := hM1
  have HH : Hid (NI A B0 B own1 W1 nb st) := h1
  clear h1 hM1 hvr
  subst hwh
  have HOB := object_any s W1
  go_wp2_with (go_at_call 33; refine (HPK.out _).mono ?_; rintro e w' ⟨rfl, hw⟩; rw [hw]; clear hw)
  refine HOB.mono ?_
  rintro e w2 ⟨x, rfl, hx255, hb2, hxo⟩
  obtain ⟨h2, hf2⟩ := HH.out.above 1 hb2
  have HF2 : Hid _ := hf2
  have HEN := netEnq_any h2 HG.out (hxo _ (fun b hb => ownN_new hb)) hx255
  have HE : Hid (∀ w', NetTo A B0 B (ownN own1 W1.heap.size 1) w2 nb w' (EnqNet st x) → NetTo A B0 B own w nb w' (MoveNet st)) := fun w' ⟨o3, st3, h3, g3, hf3, q1, q2⟩ => by
    refine ⟨o3, st3, h3, g3, (HF1.out.trans HF2.out).trans hf3, ?_⟩
    rcases Nat.lt_or_ge st.s.os.length 16 with q | q
    · obtain ⟨o, vo, vo', _, _, rfl⟩ := q2 q
      exact ⟨HO.out, rfl⟩
    · obtain rfl := q1 (by have := HH.out.sok.few; omega)
      exact ⟨HO.out, rfl⟩
  unfold Sl.val at HEN ⊢
  clear HOB h2 hf2 hb2 hxo hx255 m0 m1 m3 c3 c4 c6 hv
  go_wp2_with fail
  refine HEN.mono ?_
  rintro e w3 ⟨rfl, hN⟩
  have HN3 : Hid _ := HE.out w3 hN
  clear HEN hN HE
  go_wp2_with fail
  go_ret
  exact ⟨rfl, HN3.out⟩

set_option maxRecDepth 100000 in
set_option maxHeartbeats 4000000 in
theorem move_next1 {A : Nat → Addr} {B0 B nb kk : Nat} {own : Nat → Nat} {w : World} {st : Nt} {kd nn rr : Int} {s : ByteArray} (h : NI A B0 B own w nb st) (g : NG st) (ho : st.Open) (hlen : 0 < st.rs.length) (hk : In64 kd) (hn : In64 nn) (hr : In64 rr) (hkk : pickI kd 10 = (kk : Int)) (hwh : kk = 1) :
    Calls Tryz.prog 14 #[.pointer (some ⟨nb, 0, none⟩), .agg #[.int .i64 kd, .int .i64 nn, .int .i64 rr, .string s]] w fun e w' => e = .returned (.bool true) ∧ NetTo A B0 B own w nb w' (MoveNet st) := by
  obtain ⟨ri, hri, hri2⟩ := pickN (c := rr) (n := (st.rs.length : Int)) (by omega)
  have hrl : ri < st.rs.length := by omega
  have HPK : Hid (∀ W, Calls Tryz.prog 33 #[.int .i64 kd, .int .i64 10] W fun e w' => e = .returned (.int .i64 (kk : Int)) ∧ w' = W) := fun W => by rw [← hkk]; exact keepPick_any kd 10 W (by omega) hk.1 hk.2
  have HPR : Hid (∀ W, Calls Tryz.prog 33 #[.int .i64 rr, .int .i64 (st.rs.length : Int)] W fun e w' => e = .returned (.int .i64 (ri : Int)) ∧ w' = W) := fun W => by rw [← hri]; exact keepPick_any rr _ W (by omega) hr.1 hr.2
  have hM := heap_alloc_new w (.cells #[.int .i64 kd, .int .i64 nn, .int .i64 rr, .string s] 36)
  obtain ⟨h0, hf0⟩ := h.above 1 ((Below.refl w.heap.size w).alloc (Nat.le_refl _) (.cells #[.int .i64 kd, .int .i64 nn, .int .i64 rr, .string s] 36))
  have HN : Hid (In64 nn) := hn
  have HO : Hid st.Open := ho
  have HG : Hid (NG st) := g
  clear h g ho hn hri hk hr hkk
  go_enter Tryz.func14, Tryz.ntmps14
  go_upto_region 1 with fail
  have HF0 : Hid (Fr own w (ownN own w.heap.size 1) (w.alloc (.cells #[.int .i64 kd, .int .i64 nn, .int .i64 rr, .string s] 36))) := hf0
  generalize w.alloc (.cells #[.int .i64 kd, .int .i64 nn, .int .i64 rr, .string s] 36) = W at *
  have HM : Hid (W.heap[w.heap.size]? = some (.cells #[.int .i64 kd, .int .i64 nn, .int .i64 rr, .string s] 36 (0, 0))) := hM
  generalize hmb : w.heap.size = mb at *
  have HOM : Hid (ownN own mb 1 mb = 1) := ownN_new (Nat.le_refl _)
  generalize ownN own mb 1 = own0 at *
  clear hmb
  have m0 : W.cell? ⟨mb, 0, none⟩ = some (.int .i64 kd) := cell_of_row W _ 0 _ _ _ hM
  have m1 : W.cell? ⟨mb, 1, none⟩ = some (.int .i64 nn) := cell_of_row W _ 1 _ _ _ hM
  have m2 : W.cell? ⟨mb, 2, none⟩ = some (.int .i64 rr) := cell_of_row W _ 2 _ _ _ hM
  have m3 : W.cell? ⟨mb, 3, none⟩ = some (.string s) := cell_of_row W _ 3 _ _ _ hM
  obtain ⟨c0, c1, c2, c3, c4, c5, c6, c7⟩ := h0.cells
  obtain ⟨vg, vc, hvr, hvc, hv⟩ := h0.rcPtr hrl
  rw [hvr] at c4
  have HH : Hid (NI A B0 B own0 W nb st) := h0
  clear h0 hf0 hM hvr
  go_quiet (first | (go_at_call 33; refine Calls.quiet_of_same (HPR.out _)))
  obtain ⟨W1, hW1⟩ : ∃ x, x = W.drewN nq := ⟨_, rfl⟩
  rw [← hW1]
  obtain ⟨h1, hf1⟩ := HH.out.above 1 (below_drew hW1)
  have hM1 := ((below_drew hW1).block mb (lt_of_block HM.out)).trans HM.out
  have HF1 : Hid (Fr own w (ownN own0 W.heap.size 1) W1) := HF0.out.trans hf1
  have HOM1 : Hid (ownN own0 W.heap.size 1 mb = 1) := (hf1.keep mb (lt_of_block HM.out) HOM.out).1
  clear m0 m1 m2 m3 c0 c1 c2 c3 c4 c5 c6 c7 hv hf1 HF0 HM HOM hW1 HH
  generalize ownN own0 W.heap.size 1 = own1 at *
  have m0 : W1.cell? ⟨mb, 0, none⟩ = some (.int .i64 kd) := cell_of_row W1 _ 0 _ _ _ hM1
  have m1 : W1.cell? ⟨mb, 1, none⟩ = some (.int .i64 nn) := cell_of_row W1 _ 1 _ _ _ hM1
  have m3 : W1.cell? ⟨mb, 3, none⟩ = some (.string s) := cell_of_row W1 _ 3 _ _ _ hM1
  obtain ⟨_, _, _, c3, c4, _, c6, _⟩ := h1.cells
  obtain ⟨vg, vc, hvr, hvc, hv⟩ := h1.rcPtr hrl
  rw [hvr] at c4
  have HM : Hid _ := hM1
  have HH : Hid (NI A B0 B own1 W1 nb st) := h1
  clear h1 hM1 hvr
  subst hwh
  have HNX := netNext_any HH.out HG.out
  obtain ⟨iB, hiB, hiB0, hiB1, hiB2⟩ := Tryz.bytes_parts
  go_wp2_with (go_at_call 33; refine (HPK.out _).mono ?_; rintro e w' ⟨rfl, hw⟩; rw [hw]; clear hw)
  refine HNX.mono ?_
  rintro e w2 (⟨⟨xa, xb, xo, xc, xl⟩, own2, i2, q2, p2, s2, rfl, hna, h2, g2, hf2, hx2, hxl, hx0, hi2, hq2, hp2⟩ | ⟨rfl, hid, own2, h2, hf2⟩)
  · obtain ⟨_, _, _, _, _, _, d6, _⟩ := h2.cells
    obtain ⟨aa, ac, hav, _⟩ := own_form2 h2.aown
    have hown2 := h2.aown
    change w2.cell? ⟨nb, 6, none⟩ = some st.va at d6
    change st.va = .slice aa st.air.length ac at hav
    change w2.ownsRow B 33 1 st.va st.air.length (slVals st.air) at hown2
    rw [hav] at d6 hown2
    have HAV : Hid (st.va = .slice aa st.air.length ac) := hav
    have hx0' : (0 : Int) < (xl.length : Int) := by change 0 < xl.length at hx0; omega
    have HH2 : Hid (NI A B0 B own2 w2 nb (st.withS s2)) := h2
    have HG2 : Hid (NG (st.withS s2)) := g2
    have HF2 : Hid _ := hf2
    have HX2 : Hid ((⟨xa, xb, xo, xc, xl⟩ : Sl).At own2 w2) := hx2
    have HXX : Hid ((⟨xa, xb, xo, xc, xl⟩ : Sl).l = s2.pkt i2 q2 p2 ∧ i2 < s2.os.length ∧ q2 < s2.Q i2 ∧ plcN s2.K s2.N (s2.T i2) q2 p2 = true) := ⟨hxl, hi2, hq2, hp2⟩
    have hBle := h2.leB
    have hlt1 := h2.ltN
    have hlt2 : ¬ nb = w2.heap.size := by omega
    have hblk2 := h2.blk
    have hne2 : ¬ (Value.slice aa st.air.length ac).ownBlock = some nb := fun q => own_ne hown2 q hblk2 (by decide) rfl
    clear HNX h2 g2 hf2 hx2 hxl hi2 hq2 hp2 hx0 hna hav m0 m1 m3 c3 c4 c6 hv
    unfold Sl.val
    simp only
    by_cases h60 : st.air.length < 60
    · have h60' : (st.air.length : Int) < 60 := by omega
      have HMX : Hid (st.air.length + 1 ≤ maxLen) := by show _ ≤ _; unfold maxLen; omega
      have HBK : Hid (w2.heap[nb]? = _) := hblk2
      clear hblk2
      go_wp2_with (at_builtin; refine wpList_append_lies _ rfl _ _ _ rfl B 33 iB (.slice none 0 0) 1 24 Tryz.underlying40 hiB hiB0 hiB1 hiB2 rfl (by omega) (.slice aa st.air.length ac) st.air.length (slVals st.air) rfl (hown2.alloc _) ⟨w2.heap.size, 0, none⟩ 1 1 [.slice xa xl.length xc] rfl rfl (cell_one_at w2 _ _ _ rfl) (fun u hu => by simp at hu; subst hu; rfl) (by omega) HMX.out (by omega) (by simp; omega) (w2.heap.size + 1) (by simp) ?_)
      intro g6 cap6 w6 hown6 hgr6 hlie6 hlt6
      have hnb6 : w6.heap[nb]? = w2.heap[nb]? := (grown_block hgr6 (by simp; omega) hne2).trans (Below.heap_alloc w2 _ nb hlt1)
      have hblk6 := hnb6.trans HBK.out
      have f6 : w6.frozen? ⟨nb, 6, none⟩ = false := frozen_of_row w6 nb 6 _ _ hblk6
      have k6 : w6.cell? ⟨nb, 6, none⟩ = some (.slice aa st.air.length ac) := by rw [cell_of_row _ nb 6 _ _ _ hblk6, ← cell_of_row w2 nb 6 _ _ _ HBK.out]; exact d6
      have h7 := heap_setCell_same w6 nb 6 _ _ (.slice (some ⟨g6, 0, none⟩) (st.air.length + 1) cap6) hblk6
      have HFIN : Hid (NetTo A B0 B own w nb (w6.setCell ⟨nb, 6, none⟩ (.slice (some ⟨g6, 0, none⟩) (st.air.length + 1) cap6)) (MoveNet st)) := by
        have hav := HAV.out
        have hbu6 : But (fun b => b = nb ∨ st.va.ownBlock = some b) w2 w6 := ((But.refl _ w2).alloc _).grown hgr6 (fun k hk => .inl (.inr (by rw [hav]; exact hk)))
        have hbu7 := hbu6.setCell (p := ⟨nb, 6, none⟩) (.inl (.inl rfl)) (.slice (some ⟨g6, 0, none⟩) (st.air.length + 1) cap6)
        have hsl : slVals (st.air ++ [⟨xa, xb, xo, xc, xl⟩]) = slVals st.air ++ [.slice xa xl.length xc] := by simp [slVals, Sl.val]
        have hlen : (st.air ++ [(⟨xa, xb, xo, xc, xl⟩ : Sl)]).length = st.air.length + 1 := by simp
        obtain ⟨h8, hf8⟩ := HH2.out.stepA (air' := st.air ++ [⟨xa, xb, xo, xc, xl⟩]) (va' := .slice (some ⟨g6, 0, none⟩) (st.air.length + 1) cap6) hbu7 h7 (by
          rw [hsl, hlen]
          exact own_of_block hown6 (fun z hz => heap_setCell_other w6 ⟨nb, 6, none⟩ z _ (fun q => own_ne hown6 hz hblk6 (by decide) q))) (fun y hy => by
          rcases List.mem_append.1 hy with q | q
          · exact HH2.out.airAt y q
          · rw [List.mem_singleton.1 q]; exact HX2.out) (fun b hg => by
          simp only [Value.ownBlock, Option.some.injEq] at hg
          subst hg
          rcases hlie6 with q | q
          · exact .inl (by show st.va.ownBlock = _; rw [hav]; exact q)
          · exact .inr (by omega))
        obtain ⟨y1, y2, y3, y4⟩ := HXX.out
        exact ⟨_, _, h8, HG2.out.fly (x := ⟨xa, xb, xo, xc, xl⟩) y2 y3 y4 y1 h60, (HF1.out.trans HF2.out).trans hf8, HO.out, rfl⟩
      clear hown6 hgr6 hlie6 hlt6 hnb6 HH2 hown2 hblk6 hne2
      go_wp2_with fail
      go_ret
      exact ⟨ret_bool (decide_eq_true (by omega)), HFIN.out⟩
    · have h60' : ¬ (st.air.length : Int) < 60 := by omega
      clear hblk2 hne2 hown2
      go_wp2_with fail
      go_ret
      exact ⟨ret_bool (decide_eq_true (by omega)), own2, _, HH2.out, HG2.out, HF1.out.trans HF2.out, HO.out, rfl⟩
  · have HFIN : Hid (NetTo A B0 B own w nb w2 (MoveNet st)) := ⟨own2, st, h2, HG.out, HF1.out.trans hf2, HO.out, rfl⟩
    clear HNX h2 hf2 hid m0 m1 m3 c3 c4 c6 hv
    go_wp2_with fail
    go_ret
    exact ⟨rfl, HFIN.out⟩

set_option maxRecDepth 100000 in
set_option maxHeartbeats 4000000 in
theorem move_next2 {A : Nat → Addr} {B0 B nb kk : Nat} {own : Nat → Nat} {w : World} {st : Nt} {kd nn rr : Int} {s : ByteArray} (h : NI A B0 B own w nb st) (g : NG st) (ho : st.Open) (hlen : 0 < st.rs.length) (hk : In64 kd) (hn : In64 nn) (hr : In64 rr) (hkk : pickI kd 10 = (kk : Int)) (hwh : kk = 2) :
    Calls Tryz.prog 14 #[.pointer (some ⟨nb, 0, none⟩), .agg #[.int .i64 kd, .int .i64 nn, .int .i64 rr, .string s]] w fun e w' => e = .returned (.bool true) ∧ NetTo A B0 B own w nb w' (MoveNet st) := by
  obtain ⟨ri, hri, hri2⟩ := pickN (c := rr) (n := (st.rs.length : Int)) (by omega)
  have hrl : ri < st.rs.length := by omega
  have HPK : Hid (∀ W, Calls Tryz.prog 33 #[.int .i64 kd, .int .i64 10] W fun e w' => e = .returned (.int .i64 (kk : Int)) ∧ w' = W) := fun W => by rw [← hkk]; exact keepPick_any kd 10 W (by omega) hk.1 hk.2
  have HPR : Hid (∀ W, Calls Tryz.prog 33 #[.int .i64 rr, .int .i64 (st.rs.length : Int)] W fun e w' => e = .returned (.int .i64 (ri : Int)) ∧ w' = W) := fun W => by rw [← hri]; exact keepPick_any rr _ W (by omega) hr.1 hr.2
  have hM := heap_alloc_new w (.cells #[.int .i64 kd, .int .i64 nn, .int .i64 rr, .string s] 36)
  obtain ⟨h0, hf0⟩ := h.above 1 ((Below.refl w.heap.size w).alloc (Nat.le_refl _) (.cells #[.int .i64 kd, .int .i64 nn, .int .i64 rr, .string s] 36))
  have HN : Hid (In64 nn) := hn
  have HO : Hid st.Open := ho
  have HG : Hid (NG st) := g
  clear h g ho hn hri hk hr hkk
  go_enter Tryz.func14, Tryz.ntmps14
  go_upto_region 1 with fail
  have HF0 : Hid (Fr own w (ownN own w.heap.size 1) (w.alloc (.cells #[.int .i64 kd, .int .i64 nn, .int .i64 rr, .string s] 36))) := hf0
  generalize w.alloc (.cells #[.int .i64 kd, .int .i64 nn, .int .i64 rr, .string s] 36) = W at *
  have HM : Hid (W.heap[w.heap.size]? = some (.cells #[.int .i64 kd, .int .i64 nn, .int .i64 rr, .string s] 36 (0, 0))) := hM
  generalize hmb : w.heap.size = mb at *
  have HOM : Hid (ownN own mb 1 mb = 1) := ownN_new (Nat.le_refl _)
  generalize ownN own mb 1 = own0 at *
  clear hmb
  have m0 : W.cell? ⟨mb, 0, none⟩ = some (.int .i64 kd) := cell_of_row W _ 0 _ _ _ hM
  have m1 : W.cell? ⟨mb, 1, none⟩ = some (.int .i64 nn) := cell_of_row W _ 1 _ _ _ hM
  have m2 : W.cell? ⟨mb, 2, none⟩ = some (.int .i64 rr) := cell_of_row W _ 2 _ _ _ hM
  have m3 : W.cell? ⟨mb, 3, none⟩ = some (.string s) := cell_of_row W _ 3 _ _ _ hM
  obtain ⟨c0, c1, c2, c3, c4, c5, c6, c7⟩ := h0.cells
  obtain ⟨vg, vc, hvr, hvc, hv⟩ := h0.rcPtr hrl
  rw [hvr] at c4
  have HH : Hid (NI A B0 B own0 W nb st) := h0
  clear h0 hf0 hM hvr
  go_quiet (first | (go_at_call 33; refine Calls.quiet_of_same (HPR.out _)))
  obtain ⟨W1, hW1⟩ : ∃ x, x = W.drewN nq := ⟨_, rfl⟩
  rw [← hW1]
  obtain ⟨h1, hf1⟩ := HH.out.above 1 (below_drew hW1)
  have hM1 := ((below_drew hW1).block mb (lt_of_block HM.out)).trans HM.out
  have HF1 : Hid (Fr own w (ownN own0 W.heap.size 1) W1) := HF0.out.trans hf1
  have HOM1 : Hid (ownN own0 W.heap.size 1 mb = 1) := (hf1.keep mb (lt_of_block HM.out) HOM.out).1
  clear m0 m1 m2 m3 c0 c1 c2 c3 c4 c5 c6 c7 hv hf1 HF0 HM HOM hW1 HH
  generalize ownN own0 W.heap.size 1 = own1 at *
  have m0 : W1.cell? ⟨mb, 0, none⟩ = some (.int .i64 kd) := cell_of_row W1 _ 0 _ _ _ hM1
  have m1 : W1.cell? ⟨mb, 1, none⟩ = some (.int .i64 nn) := cell_of_row W1 _ 1 _ _ _ hM1
  have m3 : W1.cell? ⟨mb, 3, none⟩ = some (.string s) := cell_of_row W1 _ 3 _ _ _ hM1
  obtain ⟨_, _, _, c3, c4, _, c6, _⟩ := h1.cells
  obtain ⟨vg, vc, hvr, hvc, hv⟩ := h1.rcPtr hrl
  rw [hvr] at c4
  have HM : Hid _ := hM1
  have HH : Hid (NI A B0 B own1 W1 nb st) := h1
  clear h1 hM1 hvr
  subst hwh
  have HNX := netNext_any HH.out HG.out
  obtain ⟨iB, hiB, hiB0, hiB1, hiB2⟩ := Tryz.bytes_parts
  go_wp2_with (go_at_call 33; refine (HPK.out _).mono ?_; rintro e w' ⟨rfl, hw⟩; rw [hw]; clear hw)
  refine HNX.mono ?_
  rintro e w2 (⟨⟨xa, xb, xo, xc, xl⟩, own2, i2, q2, p2, s2, rfl, hna, h2, g2, hf2, hx2, hxl, hx0, hi2, hq2, hp2⟩ | ⟨rfl, hid, own2, h2, hf2⟩)
  · obtain ⟨_, _, _, _, _, _, d6, _⟩ := h2.cells
    obtain ⟨aa, ac, hav, _⟩ := own_form2 h2.aown
    have hown2 := h2.aown
    change w2.cell? ⟨nb, 6, none⟩ = some st.va at d6
    change st.va = .slice aa st.air.length ac at hav
    change w2.ownsRow B 33 1 st.va st.air.length (slVals st.air) at hown2
    rw [hav] at d6 hown2
    have HAV : Hid (st.va = .slice aa st.air.length ac) := hav
    have hx0' : (0 : Int) < (xl.length : Int) := by change 0 < xl.length at hx0; omega
    have HH2 : Hid (NI A B0 B own2 w2 nb (st.withS s2)) := h2
    have HG2 : Hid (NG (st.withS s2)) := g2
    have HF2 : Hid _ := hf2
    have HX2 : Hid ((⟨xa, xb, xo, xc, xl⟩ : Sl).At own2 w2) := hx2
    have HXX : Hid ((⟨xa, xb, xo, xc, xl⟩ : Sl).l = s2.pkt i2 q2 p2 ∧ i2 < s2.os.length ∧ q2 < s2.Q i2 ∧ plcN s2.K s2.N (s2.T i2) q2 p2 = true) := ⟨hxl, hi2, hq2, hp2⟩
    have hBle := h2.leB
    have hlt1 := h2.ltN
    have hlt2 : ¬ nb = w2.heap.size := by omega
    have hblk2 := h2.blk
    have hne2 : ¬ (Value.slice aa st.air.length ac).ownBlock = some nb := fun q => own_ne hown2 q hblk2 (by decide) rfl
    clear HNX h2 g2 hf2 hx2 hxl hi2 hq2 hp2 hx0 hna hav m0 m1 m3 c3 c4 c6 hv
    unfold Sl.val
    simp only
    by_cases h60 : st.air.length < 60
    · have h60' : (st.air.length : Int) < 60 := by omega
      have HMX : Hid (st.air.length + 1 ≤ maxLen) := by show _ ≤ _; unfold maxLen; omega
      have HBK : Hid (w2.heap[nb]? = _) := hblk2
      clear hblk2
      go_wp2_with (at_builtin; refine wpList_append_lies _ rfl _ _ _ rfl B 33 iB (.slice none 0 0) 1 24 Tryz.underlying40 hiB hiB0 hiB1 hiB2 rfl (by omega) (.slice aa st.air.length ac) st.air.length (slVals st.air) rfl (hown2.alloc _) ⟨w2.heap.size, 0, none⟩ 1 1 [.slice xa xl.length xc] rfl rfl (cell_one_at w2 _ _ _ rfl) (fun u hu => by simp at hu; subst hu; rfl) (by omega) HMX.out (by omega) (by simp; omega) (w2.heap.size + 1) (by simp) ?_)
      intro g6 cap6 w6 hown6 hgr6 hlie6 hlt6
      have hnb6 : w6.heap[nb]? = w2.heap[nb]? := (grown_block hgr6 (by simp; omega) hne2).trans (Below.heap_alloc w2 _ nb hlt1)
      have hblk6 := hnb6.trans HBK.out
      have f6 : w6.frozen? ⟨nb, 6, none⟩ = false := frozen_of_row w6 nb 6 _ _ hblk6
      have k6 : w6.cell? ⟨nb, 6, none⟩ = some (.slice aa st.air.length ac) := by rw [cell_of_row _ nb 6 _ _ _ hblk6, ← cell_of_row w2 nb 6 _ _ _ HBK.out]; exact d6
      have h7 := heap_setCell_same w6 nb 6 _ _ (.slice (some ⟨g6, 0, none⟩) (st.air.length + 1) cap6) hblk6
      have HFIN : Hid (NetTo A B0 B own w nb (w6.setCell ⟨nb, 6, none⟩ (.slice (some ⟨g6, 0, none⟩) (st.air.length + 1) cap6)) (MoveNet st)) := by
        have hav := HAV.out
        have hbu6 : But (fun b => b = nb ∨ st.va.ownBlock = some b) w2 w6 := ((But.refl _ w2).alloc _).grown hgr6 (fun k hk => .inl (.inr (by rw [hav]; exact hk)))
        have hbu7 := hbu6.setCell (p := ⟨nb, 6, none⟩) (.inl (.inl rfl)) (.slice (some ⟨g6, 0, none⟩) (st.air.length + 1) cap6)
        have hsl : slVals (st.air ++ [⟨xa, xb, xo, xc, xl⟩]) = slVals st.air ++ [.slice xa xl.length xc] := by simp [slVals, Sl.val]
        have hlen : (st.air ++ [(⟨xa, xb, xo, xc, xl⟩ : Sl)]).length = st.air.length + 1 := by simp
        obtain ⟨h8, hf8⟩ := HH2.out.stepA (air' := st.air ++ [⟨xa, xb, xo, xc, xl⟩]) (va' := .slice (some ⟨g6, 0, none⟩) (st.air.length + 1) cap6) hbu7 h7 (by
          rw [hsl, hlen]
          exact own_of_block hown6 (fun z hz => heap_setCell_other w6 ⟨nb, 6, none⟩ z _ (fun q => own_ne hown6 hz hblk6 (by decide) q))) (fun y hy => by
          rcases List.mem_append.1 hy with q | q
          · exact HH2.out.airAt y q
          · rw [List.mem_singleton.1 q]; exact HX2.out) (fun b hg => by
          simp only [Value.ownBlock, Option.some.injEq] at hg
          subst hg
          rcases hlie6 with q | q
          · exact .inl (by show st.va.ownBlock = _; rw [hav]; exact q)
          · exact .inr (by omega))
        obtain ⟨y1, y2, y3, y4⟩ := HXX.out
        exact ⟨_, _, h8, HG2.out.fly (x := ⟨xa, xb, xo, xc, xl⟩) y2 y3 y4 y1 h60, (HF1.out.trans HF2.out).trans hf8, HO.out, rfl⟩
      clear hown6 hgr6 hlie6 hlt6 hnb6 HH2 hown2 hblk6 hne2
      go_wp2_with fail
      go_ret
      exact ⟨ret_bool (decide_eq_true (by omega)), HFIN.out⟩
    · have h60' : ¬ (st.air.length : Int) < 60 := by omega
      clear hblk2 hne2 hown2
      go_wp2_with fail
      go_ret
      exact ⟨ret_bool (decide_eq_true (by omega)), own2, _, HH2.out, HG2.out, HF1.out.trans HF2.out, HO.out, rfl⟩
  · have HFIN : Hid (NetTo A B0 B own w nb w2 (MoveNet st)) := ⟨own2, st, h2, HG.out, HF1.out.trans hf2, HO.out, rfl⟩
    clear HNX h2 hf2 hid m0 m1 m3 c3 c4 c6 hv
    go_wp2_with fail
    go_ret
    exact ⟨rfl, HFIN.out⟩

set_option maxRecDepth 100000 in
set_option maxHeartbeats 4000000 in
theorem move_next3 {A : Nat → Addr} {B0 B nb kk : Nat} {own : Nat → Nat} {w : World} {st : Nt} {kd nn rr : Int} {s : ByteArray} (h : NI A B0 B own w nb st) (g : NG st) (ho : st.Open) (hlen : 0 < st.rs.length) (hk : In64 kd) (hn : In64 nn) (hr : In64 rr) (hkk : pickI kd 10 = (kk : Int)) (hwh : kk = 3) :
    Calls Tryz.prog 14 #[.pointer (some ⟨nb, 0, none⟩), .agg #[.int .i64 kd, .int .i64 nn, .int .i64 rr, .string s]] w fun e w' => e = .returned (.bool true) ∧ NetTo A B0 B own w nb w' (MoveNet st) := by
  obtain ⟨ri, hri, hri2⟩ := pickN (c := rr) (n := (st.rs.length : Int)) (by omega)
  have hrl : ri < st.rs.length := by omega
  have HPK : Hid (∀ W, Calls Tryz.prog 33 #[.int .i64 kd, .int .i64 10] W fun e w' => e = .returned (.int .i64 (kk : Int)) ∧ w' = W) := fun W => by rw [← hkk]; exact keepPick_any kd 10 W (by omega) hk.1 hk.2
  have HPR : Hid (∀ W, Calls Tryz.prog 33 #[.int .i64 rr, .int .i64 (st.rs.length : Int)] W fun e w' => e = .returned (.int .i64 (ri : Int)) ∧ w' = W) := fun W => by rw [← hri]; exact keepPick_any rr _ W (by omega) hr.1 hr.2
  have hM := heap_alloc_new w (.cells #[.int .i64 kd, .int .i64 nn, .int .i64 rr, .string s] 36)
  obtain ⟨h0, hf0⟩ := h.above 1 ((Below.refl w.heap.size w).alloc (Nat.le_refl _) (.cells #[.int .i64 kd, .int .i64 nn, .int .i64 rr, .string s] 36))
  have HN : Hid (In64 nn) := hn
  have HO : Hid st.Open := ho
  have HG : Hid (NG st) := g
  clear h g ho hn hri hk hr hkk
  go_enter Tryz.func14, Tryz.ntmps14
  go_upto_region 1 with fail
  have HF0 : Hid (Fr own w (ownN own w.heap.size 1) (w.alloc (.cells #[.int .i64 kd, .int .i64 nn, .int .i64 rr, .string s] 36))) := hf0
  generalize w.alloc (.cells #[.int .i64 kd, .int .i64 nn, .int .i64 rr, .string s] 36) = W at *
  have HM : Hid (W.heap[w.heap.size]? = some (.cells #[.int .i64 kd, .int .i64 nn, .int .i64 rr, .string s] 36 (0, 0))) := hM
  generalize hmb : w.heap.size = mb at *
  have HOM : Hid (ownN own mb 1 mb = 1) := ownN_new (Nat.le_refl _)
  generalize ownN own mb 1 = own0 at *
  clear hmb
  have m0 : W.cell? ⟨mb, 0, none⟩ = some (.int .i64 kd) := cell_of_row W _ 0 _ _ _ hM
  have m1 : W.cell? ⟨mb, 1, none⟩ = some (.int .i64 nn) := cell_of_row W _ 1 _ _ _ hM
  have m2 : W.cell? ⟨mb, 2, none⟩ = some (.int .i64 rr) := cell_of_row W _ 2 _ _ _ hM
  have m3 : W.cell? ⟨mb, 3, none⟩ = some (.string s) := cell_of_row W _ 3 _ _ _ hM
  obtain ⟨c0, c1, c2, c3, c4, c5, c6, c7⟩ := h0.cells
  obtain ⟨vg, vc, hvr, hvc, hv⟩ := h0.rcPtr hrl
  rw [hvr] at c4
  have HH : Hid (NI A B0 B own0 W nb st) := h0
  clear h0 hf0 hM hvr
  go_quiet (first | (go_at_call 33; refine Calls.quiet_of_same (HPR.out _)))
  obtain ⟨W1, hW1⟩ : ∃ x, x = W.drewN nq := ⟨_, rfl⟩
  rw [← hW1]
  obtain ⟨h1, hf1⟩ := HH.out.above 1 (below_drew hW1)
  have hM1 := ((below_drew hW1).block mb (lt_of_block HM.out)).trans HM.out
  have HF1 : Hid (Fr own w (ownN own0 W.heap.size 1) W1) := HF0.out.trans hf1
  have HOM1 : Hid (ownN own0 W.heap.size 1 mb = 1) := (hf1.keep mb (lt_of_block HM.out) HOM.out).1
  clear m0 m1 m2 m3 c0 c1 c2 c3 c4 c5 c6 c7 hv hf1 HF0 HM HOM hW1 HH
  generalize ownN own0 W.heap.size 1 = own1 at *
  have m0 : W1.cell? ⟨mb, 0, none⟩ = some (.int .i64 kd) := cell_of_row W1 _ 0 _ _ _ hM1
  have m1 : W1.cell? ⟨mb, 1, none⟩ = some (.int .i64 nn) := cell_of_row W1 _ 1 _ _ _ hM1
  have m3 : W1.cell? ⟨mb, 3, none⟩ = some (.string s) := cell_of_row W1 _ 3 _ _ _ hM1
  obtain ⟨_, _, _, c3, c4, _, c6, _⟩ := h1.cells
  obtain ⟨vg, vc, hvr, hvc, hv⟩ := h1.rcPtr hrl
  rw [hvr] at c4
  have HM : Hid _ := hM1
  have HH : Hid (NI A B0 B own1 W1 nb st) := h1
  clear h1 hM1 hvr
  subst hwh
  have HNX := netNext_any HH.out HG.out
  obtain ⟨iB, hiB, hiB0, hiB1, hiB2⟩ := Tryz.bytes_parts
  go_wp2_with (go_at_call 33; refine (HPK.out _).mono ?_; rintro e w' ⟨rfl, hw⟩; rw [hw]; clear hw)
  refine HNX.mono ?_
  rintro e w2 (⟨⟨xa, xb, xo, xc, xl⟩, own2, i2, q2, p2, s2, rfl, hna, h2, g2, hf2, hx2, hxl, hx0, hi2, hq2, hp2⟩ | ⟨rfl, hid, own2, h2, hf2⟩)
  · obtain ⟨_, _, _, _, _, _, d6, _⟩ := h2.cells
    obtain ⟨aa, ac, hav, _⟩ := own_form2 h2.aown
    have hown2 := h2.aown
    change w2.cell? ⟨nb, 6, none⟩ = some st.va at d6
    change st.va = .slice aa st.air.length ac at hav
    change w2.ownsRow B 33 1 st.va st.air.length (slVals st.air) at hown2
    rw [hav] at d6 hown2
    have HAV : Hid (st.va = .slice aa st.air.length ac) := hav
    have hx0' : (0 : Int) < (xl.length : Int) := by change 0 < xl.length at hx0; omega
    have HH2 : Hid (NI A B0 B own2 w2 nb (st.withS s2)) := h2
    have HG2 : Hid (NG (st.withS s2)) := g2
    have HF2 : Hid _ := hf2
    have HX2 : Hid ((⟨xa, xb, xo, xc, xl⟩ : Sl).At own2 w2) := hx2
    have HXX : Hid ((⟨xa, xb, xo, xc, xl⟩ : Sl).l = s2.pkt i2 q2 p2 ∧ i2 < s2.os.length ∧ q2 < s2.Q i2 ∧ plcN s2.K s2.N (s2.T i2) q2 p2 = true) := ⟨hxl, hi2, hq2, hp2⟩
    have hBle := h2.leB
    have hlt1 := h2.ltN
    have hlt2 : ¬ nb = w2.heap.size := by omega
    have hblk2 := h2.blk
    have hne2 : ¬ (Value.slice aa st.air.length ac).ownBlock = some nb := fun q => own_ne hown2 q hblk2 (by decide) rfl
    clear HNX h2 g2 hf2 hx2 hxl hi2 hq2 hp2 hx0 hna hav m0 m1 m3 c3 c4 c6 hv
    unfold Sl.val
    simp only
    by_cases h60 : st.air.length < 60
    · have h60' : (st.air.length : Int) < 60 := by omega
      have HMX : Hid (st.air.length + 1 ≤ maxLen) := by show _ ≤ _; unfold maxLen; omega
      have HBK : Hid (w2.heap[nb]? = _) := hblk2
      clear hblk2
      go_wp2_with (at_builtin; refine wpList_append_lies _ rfl _ _ _ rfl B 33 iB (.slice none 0 0) 1 24 Tryz.underlying40 hiB hiB0 hiB1 hiB2 rfl (by omega) (.slice aa st.air.length ac) st.air.length (slVals st.air) rfl (hown2.alloc _) ⟨w2.heap.size, 0, none⟩ 1 1 [.slice xa xl.length xc] rfl rfl (cell_one_at w2 _ _ _ rfl) (fun u hu => by simp at hu; subst hu; rfl) (by omega) HMX.out (by omega) (by simp; omega) (w2.heap.size + 1) (by simp) ?_)
      intro g6 cap6 w6 hown6 hgr6 hlie6 hlt6
      have hnb6 : w6.heap[nb]? = w2.heap[nb]? := (grown_block hgr6 (by simp; omega) hne2).trans (Below.heap_alloc w2 _ nb hlt1)
      have hblk6 := hnb6.trans HBK.out
      have f6 : w6.frozen? ⟨nb, 6, none⟩ = false := frozen_of_row w6 nb 6 _ _ hblk6
      have k6 : w6.cell? ⟨nb, 6, none⟩ = some (.slice aa st.air.length ac) := by rw [cell_of_row _ nb 6 _ _ _ hblk6, ← cell_of_row w2 nb 6 _ _ _ HBK.out]; exact d6
      have h7 := heap_setCell_same w6 nb 6 _ _ (.slice (some ⟨g6, 0, none⟩) (st.air.length + 1) cap6) hblk6
      have HFIN : Hid (NetTo A B0 B own w nb (w6.setCell ⟨nb, 6, none⟩ (.slice (some ⟨g6, 0, none⟩) (st.air.length + 1) cap6)) (MoveNet st)) := by
        have hav := HAV.out
        have hbu6 : But (fun b => b = nb ∨ st.va.ownBlock = some b) w2 w6 := ((But.refl _ w2).alloc _).grown hgr6 (fun k hk => .inl (.inr (by rw [hav]; exact hk)))
        have hbu7 := hbu6.setCell (p := ⟨nb, 6, none⟩) (.inl (.inl rfl)) (.slice (some ⟨g6, 0, none⟩) (st.air.length + 1) cap6)
        have hsl : slVals (st.air ++ [⟨xa, xb, xo, xc, xl⟩]) = slVals st.air ++ [.slice xa xl.length xc] := by simp [slVals, Sl.val]
        have hlen : (st.air ++ [(⟨xa, xb, xo, xc, xl⟩ : Sl)]).length = st.air.length + 1 := by simp
        obtain ⟨h8, hf8⟩ := HH2.out.stepA (air' := st.air ++ [⟨xa, xb, xo, xc, xl⟩]) (va' := .slice (some ⟨g6, 0, none⟩) (st.air.length + 1) cap6) hbu7 h7 (by
          rw [hsl, hlen]
          exact own_of_block hown6 (fun z hz => heap_setCell_other w6 ⟨nb, 6, none⟩ z _ (fun q => own_ne hown6 hz hblk6 (by decide) q))) (fun y hy => by
          rcases List.mem_append.1 hy with q | q
          · exact HH2.out.airAt y q
          · rw [List.mem_singleton.1 q]; exact HX2.out) (fun b hg => by
          simp only [Value.ownBlock, Option.some.injEq] at hg
          subst hg
          rcases hlie6 with q | q
          · exact .inl (by show st.va.ownBlock = _; rw [hav]; exact q)
          · exact .inr (by omega))
        obtain ⟨y1, y2, y3, y4⟩ := HXX.out
        exact ⟨_, _, h8, HG2.out.fly (x := ⟨xa, xb, xo, xc, xl⟩) y2 y3 y4 y1 h60, (HF1.out.trans HF2.out).trans hf8, HO.out, rfl⟩
      clear hown6 hgr6 hlie6 hlt6 hnb6 HH2 hown2 hblk6 hne2
      go_wp2_with fail
      go_ret
      exact ⟨ret_bool (decide_eq_true (by omega)), HFIN.out⟩
    · have h60' : ¬ (st.air.length : Int) < 60 := by omega
      clear hblk2 hne2 hown2
      go_wp2_with fail
      go_ret
      exact ⟨ret_bool (decide_eq_true (by omega)), own2, _, HH2.out, HG2.out, HF1.out.trans HF2.out, HO.out, rfl⟩
  · have HFIN : Hid (NetTo A B0 B own w nb w2 (MoveNet st)) := ⟨own2, st, h2, HG.out, HF1.out.trans hf2, HO.out, rfl⟩
    clear HNX h2 hf2 hid m0 m1 m3 c3 c4 c6 hv
    go_wp2_with fail
    go_ret
    exact ⟨rfl, HFIN.out⟩

set_option maxRecDepth 100000 in
set_option maxHeartbeats 4000000 in
theorem move_ask {A : Nat → Addr} {B0 B nb kk : Nat} {own : Nat → Nat} {w : World} {st : Nt} {kd nn rr : Int} {s : ByteArray} (h : NI A B0 B own w nb st) (g : NG st) (ho : st.Open) (hlen : 0 < st.rs.length) (hk : In64 kd) (hn : In64 nn) (hr : In64 rr) (hkk : pickI kd 10 = (kk : Int)) (hwh : kk = 8) :
    Calls Tryz.prog 14 #[.pointer (some ⟨nb, 0, none⟩), .agg #[.int .i64 kd, .int .i64 nn, .int .i64 rr, .string s]] w fun e w' => e = .returned (.bool true) ∧ NetTo A B0 B own w nb w' (MoveNet st) := by
  obtain ⟨ri, hri, hri2⟩ := pickN (c := rr) (n := (st.rs.length : Int)) (by omega)
  have hrl : ri < st.rs.length := by omega
  have HPK : Hid (∀ W, Calls Tryz.prog 33 #[.int .i64 kd, .int .i64 10] W fun e w' => e = .returned (.int .i64 (kk : Int)) ∧ w' = W) := fun W => by rw [← hkk]; exact keepPick_any kd 10 W (by omega) hk.1 hk.2
  have HPR : Hid (∀ W, Calls Tryz.prog 33 #[.int .i64 rr, .int .i64 (st.rs.length : Int)] W fun e w' => e = .returned (.int .i64 (ri : Int)) ∧ w' = W) := fun W => by rw [← hri]; exact keepPick_any rr _ W (by omega) hr.1 hr.2
  have hM := heap_alloc_new w (.cells #[.int .i64 kd, .int .i64 nn, .int .i64 rr, .string s] 36)
  obtain ⟨h0, hf0⟩ := h.above 1 ((Below.refl w.heap.size w).alloc (Nat.le_refl _) (.cells #[.int .i64 kd, .int .i64 nn, .int .i64 rr, .string s] 36))
  have HN : Hid (In64 nn) := hn
  have HO : Hid st.Open := ho
  have HG : Hid (NG st) := g
  clear h g ho hn hri hk hr hkk
  go_enter Tryz.func14, Tryz.ntmps14
  go_upto_region 1 with fail
  have HF0 : Hid (Fr own w (ownN own w.heap.size 1) (w.alloc (.cells #[.int .i64 kd, .int .i64 nn, .int .i64 rr, .string s] 36))) := hf0
  generalize w.alloc (.cells #[.int .i64 kd, .int .i64 nn, .int .i64 rr, .string s] 36) = W at *
  have HM : Hid (W.heap[w.heap.size]? = some (.cells #[.int .i64 kd, .int .i64 nn, .int .i64 rr, .string s] 36 (0, 0))) := hM
  generalize hmb : w.heap.size = mb at *
  have HOM : Hid (ownN own mb 1 mb = 1) := ownN_new (Nat.le_refl _)
  generalize ownN own mb 1 = own0 at *
  clear hmb
  have m0 : W.cell? ⟨mb, 0, none⟩ = some (.int .i64 kd) := cell_of_row W _ 0 _ _ _ hM
  have m1 : W.cell? ⟨mb, 1, none⟩ = some (.int .i64 nn) := cell_of_row W _ 1 _ _ _ hM
  have m2 : W.cell? ⟨mb, 2, none⟩ = some (.int .i64 rr) := cell_of_row W _ 2 _ _ _ hM
  have m3 : W.cell? ⟨mb, 3, none⟩ = some (.string s) := cell_of_row W _ 3 _ _ _ hM
  obtain ⟨c0, c1, c2, c3, c4, c5, c6, c7⟩ := h0.cells
  obtain ⟨vg, vc, hvr, hvc, hv⟩ := h0.rcPtr hrl
  rw [hvr] at c4
  have HH : Hid (NI A B0 B own0 W nb st) := h0
  clear h0 hf0 hM hvr
  go_quiet (first | (go_at_call 33; refine Calls.quiet_of_same (HPR.out _)))
  obtain ⟨W1, hW1⟩ : ∃ x, x = W.drewN nq := ⟨_, rfl⟩
  rw [← hW1]
  obtain ⟨h1, hf1⟩ := HH.out.above 1 (below_drew hW1)
  have hM1 := ((below_drew hW1).block mb (lt_of_block HM.out)).trans HM.out
  have HF1 : Hid (Fr own w (ownN own0 W.heap.size 1) W1) := HF0.out.trans hf1
  have HOM1 : Hid (ownN own0 W.heap.size 1 mb = 1) := (hf1.keep mb (lt_of_block HM.out) HOM.out).1
  clear m0 m1 m2 m3 c0 c1 c2 c3 c4 c5 c6 c7 hv hf1 HF0 HM HOM hW1 HH
  generalize ownN own0 W.heap.size 1 = own1 at *
  have m0 : W1.cell? ⟨mb, 0, none⟩ = some (.int .i64 kd) := cell_of_row W1 _ 0 _ _ _ hM1
  have m1 : W1.cell? ⟨mb, 1, none⟩ = some (.int .i64 nn) := cell_of_row W1 _ 1 _ _ _ hM1
  have m3 : W1.cell? ⟨mb, 3, none⟩ = some (.string s) := cell_of_row W1 _ 3 _ _ _ hM1
  obtain ⟨_, _, _, c3, c4, _, c6, _⟩ := h1.cells
  obtain ⟨vg, vc, hvr, hvc, hv⟩ := h1.rcPtr hrl
  rw [hvr] at c4
  have HM : Hid _ := hM1
  have HH : Hid (NI A B0 B own1 W1 nb st) := h1
  clear h1 hM1 hvr
  subst hwh
  have HAS := netAsk_any HH.out hrl (HO.out ri hrl)
  have hlt1 : (0 : Int) ≤ (ri : Int) := by omega
  go_wp2_with (go_at_call 33; refine (HPK.out _).mono ?_; rintro e w' ⟨rfl, hw⟩; rw [hw]; clear hw)
  refine HAS.mono ?_
  rintro e w2 ⟨⟨xa, xb, xo, xc, xl⟩, own2, rfl, h2, hf2, hx2, hq⟩
  have HTE := netTell_any h2 HG.out hx2
  obtain ⟨_, _, _, d3, _, _, _, _⟩ := h2.cells
  have HF2 : Hid _ := hf2
  have HH2 : Hid _ := h2
  have HQ : Hid ((xl = [] ∧ ∀ j, j < 16 → (rcat st.rs ri).2.kf j = none) ∨ (5 ≤ xl.length ∧ askFor (rcat st.rs ri).2 xl)) := hq
  unfold Sl.val at HTE ⊢
  simp only at HTE ⊢
  clear HAS h2 hf2 hx2 hq m0 m1 m3 c3 c4 c6 hv
  by_cases hz : xl.length = 0
  · have hz0 : ¬ (0 : Int) < (xl.length : Int) := by omega
    go_wp2_with fail
    go_ret
    exact ⟨rfl, own2, st, HH2.out, HG.out, HF1.out.trans HF2.out, HO.out, rfl⟩
  · have hz0 : (0 : Int) < (xl.length : Int) := by omega
    have HZ : Hid (hearZ st.s xl = (0, -1)) := by
      rcases HQ.out with ⟨q, _⟩ | ⟨_, q⟩
      · rw [q] at hz; simp at hz
      · refine ask_told (HH2.out.rok ri hrl) ?_ q
        rw [HG.out.cfg.1, HG.out.cfg.2.1, HG.out.cfg.2.2]
        exact HG.out.gen ri hrl
    go_wp2_with fail
    refine HTE.mono ?_
    rintro e w3 ⟨v, own3, rfl, hv3, h3, g3, hf3⟩
    change VSays A w3 v (hearZ st.s xl) at hv3
    rw [HZ.out] at hv3
    obtain rfl := hv3.nil
    have HFIN : Hid (NetTo A B0 B own w nb w3 (MoveNet st)) := ⟨own3, _, h3, g3, (HF1.out.trans HF2.out).trans hf3, HO.out, rfl⟩
    clear HTE h3 g3 hf3 hv3 d3
    go_wp2_with fail
    go_ret
    exact ⟨rfl, HFIN.out⟩

end Go.Proofs.YtjabhnhejbhgjaaGreatDoor
