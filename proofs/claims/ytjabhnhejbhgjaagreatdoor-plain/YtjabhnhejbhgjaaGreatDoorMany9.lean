import Derived.Test.YtjabhnhejbhgjaaGreatDoorMany7
/- Senders of the program: sendOwed. -/
namespace Go.Proofs.YtjabhnhejbhgjaaGreatDoor
open Go.RowKit

/-- A block was sent a symbol that it was owed. -/
def Snd.pay (s : Snd) (i q : Nat) : Snd := s.setD i q ((dat (oat s.os i).ds q).1 - 1, ((dat (oat s.os i).ds q).2 + 1) % s.R i q)
/-- The packet that is sent so. -/
def Snd.owedPkt (s : Snd) (i q : Nat) : List Gf.F := s.pkt i q (plcAt s.K s.N (dat (oat s.os i).ds q).2)

theorem SAt.frozenD {w : World} {B sb i : Nat} {s : Snd} (h : SAt w B sb s) (hi : i < s.os.length) (j : Nat) : w.frozen? ⟨(oat s.os i).dg, j, none⟩ = false := frozen_of_row w _ j _ _ (h.debts i hi).2

set_option maxRecDepth 100000 in
set_option maxHeartbeats 4000000 in
theorem sendOwed_any {B sb i q : Nat} {s : Snd} {w : World} (h : SAt w B sb s) (ok : s.Ok) (hi : i < s.os.length) (hq : q < s.Q i) (ho : 1 ≤ (dat (oat s.os i).ds q).1) :
    Calls Tryz.prog 43 #[.pointer (some ⟨sb, 0, none⟩), .int .i64 (i : Int), .int .i64 (q : Int)] w fun e w' =>
      ∃ g cap, e = .returned (.slice (some ⟨g, 0, none⟩) (6 + s.S) cap) ∧ w'.ownsRow w.heap.size 5 1 (.slice (some ⟨g, 0, none⟩) (6 + s.S) cap) (6 + s.S) (encL (s.owedPkt i q)) ∧ SAt w' B sb (s.pay i q) ∧ But (fun b => b = (oat s.os i).dg) w w' := by
  obtain ⟨k1, k8, kn, n16, s1, s8⟩ := ok.cfg
  have hfew := ok.few
  have hlen := ok.len i hi
  have hTr := symN_range (S := s.S) (len := (oat s.os i).l.length) s1
  have hT2 : s.T i ≤ 256 := by unfold Snd.T; omega
  have hQl := partsN_le (a := s.T i) k1
  have hqK : q * s.K < s.T i := partsN_mul k1 hq
  have hbl := ok.blocks i hi
  have hqd : q < (oat s.os i).ds.length := by rw [hbl]; exact hq
  have hq2 : q < 256 := by unfold Snd.Q at hq; omega
  obtain ⟨hdo, hdt⟩ := ok.debt i q hi hq
  have hm8 : srcN s.K (s.T i) q ≤ 8 := by unfold srcN; omega
  have hm1 : 1 ≤ srcN s.K (s.T i) q := by unfold srcN; omega
  have hRe : s.R i q = (s.N - s.K) + srcN s.K (s.T i) q := rfl
  obtain ⟨o, hoe⟩ : ∃ x, x = (dat (oat s.os i).ds q).1 := ⟨_, rfl⟩
  obtain ⟨t, hte⟩ : ∃ x, x = (dat (oat s.os i).ds q).2 := ⟨_, rfl⟩
  obtain ⟨dg, hdg⟩ : ∃ x, x = (oat s.os i).dg := ⟨_, rfl⟩
  obtain ⟨n, hne⟩ : ∃ x, x = (oat s.os i).ds.length := ⟨_, rfl⟩
  have HPAY : Hid (s.pay i q = s.setD i q (o - 1, (t + 1) % s.R i q)) := by show _ = _; rw [hoe, hte]; rfl
  have HPKT : Hid (s.owedPkt i q = s.pkt i q (plcAt s.K s.N t)) := by show _ = _; rw [hte]; rfl
  have hpl : plcAt s.K s.N t < 256 := by unfold plcAt; split <;> omega
  obtain ⟨_, _, _, c3, _, _⟩ := h.cells
  obtain ⟨g, cp, hv, hcp, hl⟩ := h.list (by omega)
  obtain ⟨_, t1⟩ := hl i hi
  obtain ⟨d0, d1⟩ := h.debt hi hqd
  unfold Ob.dv at t1
  rw [hv] at c3
  rw [← hdg, ← hne] at t1
  rw [← hdg, ← hoe] at d0
  rw [← hdg, ← hte] at d1
  have hplc := placeAt_any t (by omega) h ok.toOk0
  rw [← hoe] at ho hdo
  rw [← hne] at hqd
  rw [← hte] at hdt
  have hlt1 : (0 : Int) ≤ (i : Int) := by omega
  have hlt2 : (i : Int) < (s.os.length : Int) := by omega
  have hlt3 : (0 : Int) ≤ (q : Int) := by omega
  have hlt4 : (q : Int) < (n : Int) := by omega
  have hn2 : n ≤ 256 := by rw [hne, hbl]; unfold Snd.Q; omega
  have HDG : Hid (dg = (oat s.os i).dg) := hdg
  have HNE : Hid (n = (oat s.os i).ds.length) := hne
  have HTE : Hid (t = (dat (oat s.os i).ds q).2) := hte
  have HRE : Hid (s.R i q = (s.N - s.K) + srcN s.K (s.T i) q) := hRe
  clear hl hv hdg hne hoe hte hbl hRe
  go_enter Tryz.func43, Tryz.ntmps43
  go_wp2_with fail
  refine hplc.mono ?_
  rintro e w1 ⟨rfl, hb1⟩
  have h1 := h.above hb1
  have e0 : w1.cell? ⟨dg, q * 2, none⟩ = some (.int .i64 (o : Int)) := by rw [hb1.cell (lt_of_cell d0)]; exact d0
  have fz0 : w1.frozen? ⟨dg, q * 2, none⟩ = false := by rw [HDG.out]; exact h1.frozenD hi _
  obtain ⟨h2, hbu2⟩ := h1.owed hi (by rw [← HNE.out]; exact hqd) (o - 1)
  rw [← HDG.out, ← HTE.out, show ((o - 1 : Nat) : Int) = (o : Int) - 1 by omega] at h2
  rw [← HDG.out, show ((o - 1 : Nat) : Int) = (o : Int) - 1 by omega] at hbu2
  clear c3 t1 d0 d1 hplc
  go_upto_region 4 with fail
  generalize w1.setCell ⟨dg, q * 2, none⟩ (.int .i64 ((o : Int) - 1)) = W2 at *
  have hi2 : i < (s.setD i q (o - 1, t)).os.length := by rw [s.setD_len]; exact hi
  have ok2 : (s.setD i q (o - 1, t)).Ok0 := s.setD_ok0 ok.toOk0 hi q _
  obtain ⟨r, hr⟩ : ∃ x, x = s.N - s.K := ⟨_, rfl⟩
  obtain ⟨m, hm⟩ : ∃ x, x = srcN s.K (s.T i) q := ⟨_, rfl⟩
  have HREP : Hid (∀ W, SAt W B sb (s.setD i q (o - 1, t)) → Calls Tryz.prog 73 #[.pointer (some ⟨sb, 0, none⟩)] W fun e w' => e = .returned (.int .i64 (r : Int)) ∧ Below W.heap.size W w') := fun W hW => by rw [hr]; have := repairs_any hW ok2; exact this
  have HPLN : Hid (∀ W, SAt W B sb (s.setD i q (o - 1, t)) → Calls Tryz.prog 69 #[.pointer (some ⟨sb, 0, none⟩), .int .i64 (i : Int)] W fun e w' => e = .returned (.agg #[.int .i64 (s.K : Int), .int .i64 (s.N : Int), .int .i64 (s.S : Int), .int .i64 (s.T i : Int)]) ∧ Below W.heap.size W w') := fun W hW => by
    have := plan_any hW ok2 hi2
    rw [s.setD_T hi] at this
    exact this
  have HSRC : Hid (∀ W, Calls Tryz.prog 74 #[.agg #[.int .i64 (s.K : Int), .int .i64 (s.N : Int), .int .i64 (s.S : Int), .int .i64 (s.T i : Int)], .int .i64 (q : Int)] W fun e w' => e = .returned (.int .i64 (m : Int)) ∧ Below W.heap.size W w') := fun W => by rw [hm]; exact sources_any s.K s.N s.S (s.T i) q (by omega) hqK W
  have HTC : Hid (∀ W, SAt W B sb (s.setD i q (o - 1, t)) → W.cell? ⟨dg, q * 2 + 1, none⟩ = some (.int .i64 (t : Int)) ∧ W.frozen? ⟨dg, q * 2 + 1, none⟩ = false) := fun W hW => by
    have h5 := (hW.debt hi2 (q := q) (by rw [len_setD hi, ← HNE.out]; exact hqd)).2
    have h6 := hW.frozenD hi2 (q * 2 + 1)
    rw [dg_setD hi, ← HDG.out, dat_setD hi (by rw [← HNE.out]; exact hqd)] at h5
    rw [dg_setD hi, ← HDG.out] at h6
    exact ⟨h5, h6⟩
  obtain ⟨t', ht'⟩ : ∃ x, x = (t + 1) % (r + m) := ⟨_, rfl⟩
  have hrm : ((t : Int) + 1) % ((r : Int) + (m : Int)) = (t' : Int) := by rw [ht']; push_cast; rfl
  have htm : ((t : Int) + 1).tmod ((r : Int) + (m : Int)) = (t' : Int) := by rw [Int.tmod_eq_emod_of_nonneg (by omega)]; exact hrm
  have hRm : s.R i q = r + m := by rw [HRE.out, hr, hm]
  have hr16 : r ≤ 16 := by omega
  rw [← hm] at hm8 hm1
  have ht2 : t' < 1000 := by rw [ht']; exact Nat.lt_of_lt_of_le (Nat.mod_lt _ (by omega)) (by omega)
  have ht3 : t ≤ 1000 := by omega
  have hne0 : ¬ (r : Int) + (m : Int) = 0 := by omega
  have hm0 : ¬ m = 0 := by omega
  have hw1 : IntKind.i64.wrap ((t : Int) + 1) = (t : Int) + 1 := by rw [IntKind.wrap_i64]; omega
  have hw2 : IntKind.i64.wrap ((r : Int) + (m : Int)) = (r : Int) + (m : Int) := by rw [IntKind.wrap_i64]; omega
  have hwt : IntKind.i64.wrap (t' : Int) = (t' : Int) := by rw [IntKind.wrap_i64]; omega
  have HT' : Hid ((t + 1) % s.R i q = t') := by show _ = _; rw [hRm, ht']
  clear hr hm ht' hRm hTr hQl hqK
  have hd : SAt W2.drew B sb (s.setD i q (o - 1, t)) := h2.kept (fun _ _ => rfl)
  have hTd := HTC.out _ h2
  obtain ⟨tW, fW⟩ := hTd
  have FIN : Hid (∀ W, SAt W B sb (s.setD i q (o - 1, t)) → Below W2.heap.size W2 W → SAt (W.setCell ⟨dg, q * 2 + 1, none⟩ (.int .i64 (t' : Int))) B sb (s.setD i q (o - 1, t')) ∧ But (fun b => b = dg) W2 (W.setCell ⟨dg, q * 2 + 1, none⟩ (.int .i64 (t' : Int)))) := fun W hW hb => by
    have h7 := hW.turn hi2 (q := q) (by rw [len_setD hi, ← HNE.out]; exact hqd) t'
    rw [dg_setD hi, ← HDG.out, dat_setD hi (by rw [← HNE.out]; exact hqd), setD_setD hi] at h7
    exact ⟨h7.1, (Below.but hb (fun b => b = dg) (fun k hk hq' => absurd hk hq')).trans h7.2⟩
  go_cut [] (fun wx => SAt wx B sb (s.setD i q (o - 1, t')) ∧ But (fun b => b = dg) W2 wx)
  case first =>
    go_region_with (first
      | (go_at_call 73; refine (HREP.out _ ?hq).mono ?_; (case hq => first | with_reducible exact hd | with_reducible exact hS | with_reducible exact hP); rintro e wR ⟨rfl, hbR⟩; (have hR : SAt wR B sb (s.setD i q (o - 1, t)) := by first | exact hd.above hbR | exact hS.above hbR | exact hP.above hbR); (have hWR : Below W2.heap.size W2 wR := by first | exact Below.undraw hbR | exact hWS.trans (hbR.mono hWS.size) | exact hWP.trans (hbR.mono hWP.size)); obtain ⟨tR, fR⟩ := HTC.out _ hR)
      | (go_at_call 69; refine (HPLN.out _ ?hq).mono ?_; (case hq => first | with_reducible exact hd | with_reducible exact hR); rintro e wP ⟨rfl, hbP⟩; (have hP : SAt wP B sb (s.setD i q (o - 1, t)) := by first | exact hd.above hbP | exact hR.above hbP); (have hWP : Below W2.heap.size W2 wP := by first | exact Below.undraw hbP | exact hWR.trans (hbP.mono hWR.size)); obtain ⟨tP, fP⟩ := HTC.out _ hP)
      | (go_at_call 74; refine (HSRC.out _).mono ?_; rintro e wS ⟨rfl, hbS⟩; (have hS : SAt wS B sb (s.setD i q (o - 1, t)) := by first | exact hP.above hbS | exact hR.above hbS); (have hWS : Below W2.heap.size W2 wS := by first | exact hWP.trans (hbS.mono hWP.size) | exact hWR.trans (hbS.mono hWR.size)); obtain ⟨tS, fS⟩ := HTC.out _ hS))
    all_goals go_wp2_with fail
    all_goals go_meet
    all_goals first | exact FIN.out _ hS hWS | exact FIN.out _ hR hWR
  case rest =>
    obtain ⟨h4, hb4⟩ := hcut
    have ok4 : (s.setD i q (o - 1, t')).Ok0 := s.setD_ok0 ok.toOk0 hi q _
    have hi4 : i < (s.setD i q (o - 1, t')).os.length := by rw [s.setD_len]; exact hi
    have hq4 : q < (s.setD i q (o - 1, t')).Q i := by unfold Snd.Q; rw [s.setD_T hi]; exact hq
    go_wp2_with fail
    refine (data_snd (plcAt s.K s.N t) h4 ok4 hi4 hq4 hpl).mono ?_
    rintro e w5 ⟨g5, cap5, rfl, hown5, hb5⟩
    go_wp2_with fail
    go_ret
    have hbw : But (fun b => b = dg) w wc := ((Below.but hb1 (fun b => b = dg) (fun k hk hq' => absurd hk hq')).trans hbu2).trans hb4
    have hsz := hbw.size
    refine ⟨g5, cap5, rfl, ?_, ?_, ?_⟩
    · rw [HPKT.out, ← s.setD_pkt hi q (o - 1, t')]
      exact own_base2 hown5 hsz
    · rw [HPAY.out, HT'.out]
      exact h4.above hb5
    · rw [← HDG.out]
      exact hbw.below hb5 (fun k hk hq' => absurd (Nat.lt_of_lt_of_le hk hsz) hq')

end Go.Proofs.YtjabhnhejbhgjaaGreatDoor

/- Senders of the program: Next. -/
namespace Go.Proofs.YtjabhnhejbhgjaaGreatDoor
open Go.RowKit

/-- A block is owed a symbol. -/
def Snd.owes (s : Snd) (i q : Nat) : Prop := i < s.os.length ∧ q < s.Q i ∧ 1 ≤ (dat (oat s.os i).ds q).1

/-- What Next sends, and the sender behind it. -/
def NextIs (s : Snd) (l : List Gf.F) (s' : Snd) : Prop :=
  (s.no < s.os.length ∧ l = s.pkt s.no (s.ns / s.K) (s.ns % s.K) ∧ s' = s.step) ∨
  (s.no = s.os.length ∧ ∃ i q, s.owes i q ∧ (∀ j r, (j < i ∨ j = i ∧ r < q) → ¬ s.owes j r) ∧ l = s.owedPkt i q ∧ s' = s.pay i q)
theorem NextIs.source {s : Snd} (h : s.no < s.os.length) : NextIs s (s.pkt s.no (s.ns / s.K) (s.ns % s.K)) s.step := Or.inl ⟨h, rfl, rfl⟩
theorem NextIs.owed {s : Snd} (h : s.no = s.os.length) (i q : Nat) (ho : s.owes i q) (hf : ∀ j r, (j < i ∨ j = i ∧ r < q) → ¬ s.owes j r) : NextIs s (s.owedPkt i q) (s.pay i q) := Or.inr ⟨h, i, q, ho, hf, rfl, rfl⟩

def NextGives (s : Snd) (B sb : Nat) (w : World) (e : Ending) (w' : World) : Prop :=
  (∃ g cap l s', e = .returned (.tuple #[.slice (some ⟨g, 0, none⟩) (6 + s.S) cap, .bool true]) ∧ w'.ownsRow w.heap.size 5 1 (.slice (some ⟨g, 0, none⟩) (6 + s.S) cap) (6 + s.S) (encL l) ∧ NextIs s l s' ∧ SAt w' B sb s' ∧ But (s.foot sb) w w') ∨
  (e = .returned (.tuple #[.slice none 0 0, .bool false]) ∧ s.no = s.os.length ∧ (∀ i q, ¬ s.owes i q) ∧ Below w.heap.size w w')

set_option maxRecDepth 100000 in
set_option maxHeartbeats 2000000 in
theorem next_any {B sb : Nat} {s : Snd} {w : World} (h : SAt w B sb s) (ok : s.Ok) :
    Calls Tryz.prog 19 #[.pointer (some ⟨sb, 0, none⟩)] w (NextGives s B sb w) := by
  obtain ⟨_, _, _, c3, c4, _⟩ := h.cells
  have hfew := ok.few
  have hnx := ok.next
  obtain ⟨va, vc, hvo, _⟩ := own_form2 h.own
  by_cases hq : s.no < s.os.length
  · have hq1 : (s.no : Int) < (s.os.length : Int) := by omega
    rw [hvo] at c3
    have HSS := fun nq => sendSource_any (w := w.drewN nq) (h.kept (fun _ _ => rfl)) ok hq
    have HSS' : Hid (∀ nq, Calls Tryz.prog 42 #[.pointer (some ⟨sb, 0, none⟩)] (w.drewN nq) _) := HSS
    clear HSS
    go_enter Tryz.func19, Tryz.ntmps19
    go_wp2_with fail
    go_quiet (fail)
    go_wp2_with fail
    refine Calls.mono (HSS'.out _) ?_
    rintro e w1 ⟨g, cap, rfl, hown, h1, hb⟩
    go_wp2_with fail
    go_ret2
    have hb2 : But (s.foot sb) w w1 := (show But (s.foot sb) w (w.drewN _) from ⟨rfl, rfl, rfl, Nat.le_refl _, fun _ _ _ => rfl⟩).trans (hb.wide (fun k _ q => .inl q))
    exact .inl ⟨g, cap, _, _, rfl, hown, .source hq, h1, hb2⟩
  · have hq1 : ¬ (s.no : Int) < (s.os.length : Int) := by omega
    have hno : s.no = s.os.length := by omega
    rw [hvo] at c3
    have HC3 : Hid (∀ W, Below w.heap.size w W → W.cell? ⟨sb, 3, none⟩ = some (.slice va s.os.length vc)) := fun W hW => by rw [hW.cell (lt_of_cell c3)]; exact c3
    have c3n := fun nq => HC3.out (w.drewN nq) ⟨rfl, rfl, rfl, Nat.le_refl _, fun _ _ => rfl⟩
    go_enter Tryz.func19, Tryz.ntmps19
    go_wp2_with fail
    go_quiet (fail)
    go_wp2_with fail
    clear c3 c4 c3n
    go_loopw [26] (fun t wr => ∃ a : Nat, a ≤ s.os.length ∧ t = .int .i64 (a : Int) ∧ Below w.heap.size w wr ∧ Hid (∀ j r, j < a → ¬ s.owes j r)) (fun t _ => s.os.length - (intOf t).toNat)
    case atStart => exact ⟨0, by omega, rfl, below_drew rfl, fun j r hj => by omega⟩
    case round =>
      obtain ⟨a, hale, rfl, hbr, hno1⟩ := hrel
      by_cases hlt : a < s.os.length
      · have hr := h.above hbr
        obtain ⟨g, cp, hv, hcp, hl⟩ := hr.list (by omega)
        obtain ⟨t0, t1⟩ := hl a hlt
        have hbl := ok.blocks a hlt
        have hlen := ok.len a hlt
        obtain ⟨k1, k8, kn, n16, s1, s8⟩ := ok.cfg
        have hTr := symN_range (S := s.S) (len := (oat s.os a).l.length) s1
        have hT2 : s.T a ≤ 256 := by unfold Snd.T; omega
        have hQl := partsN_le (a := s.T a) k1
        obtain ⟨n, hn⟩ : ∃ x, x = (oat s.os a).ds.length := ⟨_, rfl⟩
        have hn2 : n ≤ 256 := by rw [hn, hbl]; unfold Snd.Q; omega
        obtain ⟨dg, hdg⟩ : ∃ x, x = (oat s.os a).dg := ⟨_, rfl⟩
        have HQ : Hid (s.Q a = n) := by show _ = _; rw [hn, hbl]
        have hvv : Value.slice va s.os.length vc = .slice (some ⟨g, 0, none⟩) s.os.length cp := hvo.symm.trans hv
        simp only [Value.slice.injEq] at hvv
        obtain ⟨rfl, _, rfl⟩ := hvv
        unfold Ob.bv at t0
        unfold Ob.dv at t1
        rw [← hdg, ← hn] at t1
        have HD : Hid (∀ W r, SAt W B sb s → r < n → W.cell? ⟨dg, r * 2, none⟩ = some (.int .i64 ((dat (oat s.os a).ds r).1 : Int)) ∧ W.cell? ⟨dg, r * 2 + 1, none⟩ = some (.int .i64 ((dat (oat s.os a).ds r).2 : Int))) := fun W r hW hrn => by
          have := hW.debt hlt (q := r) (by rw [← hn]; exact hrn)
          rw [← hdg] at this
          exact this
        have HDE : Hid (∀ r, r < n → (dat (oat s.os a).ds r).1 ≤ 8 ∧ (dat (oat s.os a).ds r).2 ≤ 1000) := fun r hrn => by
          have h9 := ok.debt a r hlt (by rw [HQ.out]; exact hrn)
          have h8 : s.R a r ≤ 24 := by unfold Snd.R srcN; omega
          exact ⟨h9.1, by omega⟩
        clear hl hv hbl hn hdg hTr hQl
        obtain ⟨wB, hwB⟩ : ∃ x, x = wr := ⟨wr, rfl⟩
        subst hwB
        go_wp2_with fail
        have hb5 : Below w.heap.size w (wB.alloc (.cells #[.slice (oat s.os a).a (oat s.os a).l.length (oat s.os a).c, .slice (some ⟨dg, 0, none⟩) n n] 120)) := hbr.alloc hbr.size _
        generalize wB.alloc (.cells #[.slice (oat s.os a).a (oat s.os a).l.length (oat s.os a).c, .slice (some ⟨dg, 0, none⟩) n n] 120) = W5 at *
        clear t0 t1 hr hbr
        go_loopw [34] (fun t wq => ∃ b : Nat, b ≤ n ∧ t = .int .i64 (b : Int) ∧ Below w.heap.size w wq ∧ Hid (∀ r, r < b → ¬ s.owes a r)) (fun t _ => n - (intOf t).toNat)
        case atStart => exact ⟨0, by omega, rfl, hb5, fun r hr => by omega⟩
        case round =>
          obtain ⟨b, hble, rfl, hbq, hno2⟩ := hrel
          by_cases hltb : b < n
          · have hq' := h.above hbq
            obtain ⟨e0, e1⟩ := HD.out wr b hq' hltb
            obtain ⟨hd8, hd9⟩ := HDE.out b hltb
            have hqq : b < s.Q a := by rw [HQ.out]; exact hltb
            by_cases how : 1 ≤ (dat (oat s.os a).ds b).1
            · have how1 : (0 : Int) < ((dat (oat s.os a).ds b).1 : Int) := by omega
              have hb6 : Below wr.heap.size wr (wr.alloc (.cells #[.int .i64 ((dat (oat s.os a).ds b).1 : Int), .int .i64 ((dat (oat s.os a).ds b).2 : Int)] 125)) := (Below.refl _ _).alloc (Nat.le_refl _) _
              have h6 := hq'.above hb6
              go_wp2_with fail
              refine (sendOwed_any h6 ok hlt hqq how).mono ?_
              rintro e w7 ⟨g7, cap7, rfl, hown7, h7, hb7⟩
              have hb8 : Below w.heap.size w (wr.alloc (.cells #[.int .i64 ((dat (oat s.os a).ds b).1 : Int), .int .i64 ((dat (oat s.os a).ds b).2 : Int)] 125)) := hbq.trans (hb6.mono hbq.size)
              have hb9 : But (s.foot sb) w w7 := (Below.but hb8 (s.foot sb) (fun k hk q => absurd hk q)).trans (hb7.wide (fun k _ q => .inr (.inr ⟨a, hlt, .inl q⟩)))
              go_wp2_with fail
              go_ret2
              refine .inl ⟨g7, cap7, _, _, rfl, own_base2 hown7 hb8.size, .owed hno a b ⟨hlt, hqq, how⟩ (fun j r hjr => ?_), h7, hb9⟩
              rcases hjr with hj | ⟨rfl, hr⟩
              · exact hno1.out j r hj
              · exact hno2.out r hr
            · have how1 : ¬ (0 : Int) < ((dat (oat s.os a).ds b).1 : Int) := by omega
              have hb6 : Below w.heap.size w (wr.alloc (.cells #[.int .i64 ((dat (oat s.os a).ds b).1 : Int), .int .i64 ((dat (oat s.os a).ds b).2 : Int)] 125)) := hbq.alloc hbq.size _
              go_wp2_with fail
              go_roundw
              case rel => exact ⟨b + 1, by omega, by go_num, hb6, fun r hr => by
                by_cases e : r = b
                · subst e; exact fun ho => how ho.2.2
                · exact hno2.out r (by omega)⟩
              case measure => simp [intOf]; omega
          · obtain rfl : b = n := by omega
            go_wp2_with fail
            go_roundw
            case rel => exact ⟨a + 1, by omega, by go_num, hbq, fun j r hj => by
              by_cases e : j = a
              · subst e; exact fun ho => hno2.out r (by rw [← HQ.out]; exact ho.2.1) ho
              · exact hno1.out j r (by omega)⟩
            case measure => simp [intOf]; omega
      · obtain rfl : a = s.os.length := by omega
        go_wp2_with fail
        go_ret2
        exact .inr ⟨rfl, hno, fun i q ho => hno1.out i q ho.1 ho, hbr⟩

end Go.Proofs.YtjabhnhejbhgjaaGreatDoor

/- Senders of the program: NewSender, Enqueue. -/
namespace Go.Proofs.YtjabhnhejbhgjaaGreatDoor
open Go.RowKit

theorem Tryz.app0 (g : Nat) (ad : Addr) (c : Nat) (w : World) : (Builtin.append_ #[33, 33] 33 #[.slice (some ⟨g, 0, none⟩) 0 0, .slice (some ad) 0 c]).run Tryz.prog w = .ok (.slice (some ⟨g, 0, none⟩) 0 0) w := by kernel_rfl

theorem Tryz.nilIsNil (w : World) : (binOp BinOp.eql 33 (.slice none 0 0) (.slice none 0 0)).run Tryz.prog w = .ok (.bool true) w := by kernel_rfl

set_option maxRecDepth 100000 in
set_option maxHeartbeats 1000000 in
/-- Clone of bytes that came in, or of none. -/
theorem clone_all (a : Option Addr) (b o n c : Nat) (l : List Gf.F) (w : World) (hl : l.length = n) (hn2 : n ≤ 100000) (ha : a = some ⟨b, o, none⟩ ∨ a = none ∧ n = 0 ∧ c = 0) (hB : Bs w b o l) :
    Calls Tryz.prog 62 #[.slice a n c] w fun e w' => ∃ a' c', e = .returned (.slice a' n c') ∧ w'.ownsRow w.heap.size 5 1 (.slice a' n c') n (encL l) ∧ Below w.heap.size w w' := by
  by_cases h0 : 1 ≤ n
  · obtain rfl : a = some ⟨b, o, none⟩ := by rcases ha with h | ⟨_, h, _⟩; exact h; omega
    exact clone_any b o n c l w hl h0 hn2 hB
  · obtain rfl : n = 0 := by omega
    obtain rfl : l = [] := List.length_eq_zero_iff.1 hl
    rcases ha with rfl | ⟨rfl, _, rfl⟩
    · have happ := Tryz.app0
      have hnil := Tryz.someNotNil
      have hown : (w.alloc (.cells #[] 5)).ownsRow w.heap.size 5 1 (.slice (some ⟨w.heap.size, 0, none⟩) 0 0) 0 [] := ⟨rfl, .inr ⟨w.heap.size, 0, #[], rfl, Nat.le_refl _, heap_alloc_new w _, Nat.le_refl _, by unfold maxLen; omega, rfl, rfl⟩⟩
      go_enter Tryz.func62, Tryz.ntmps62
      go_wp2_with fail
      go_ret
      exact ⟨_, _, rfl, hown, (Below.refl _ _).alloc (Nat.le_refl _) _⟩
    · have hnil := Tryz.nilIsNil
      go_enter Tryz.func62, Tryz.ntmps62
      go_wp2_with fail
      go_ret
      exact ⟨_, _, rfl, World.ownsRow_nil .., Below.refl _ _⟩

/-- A sender without objects. -/
def snd0 (K N S : Nat) : Snd := ⟨K, N, S, [], .slice none 0 0, 0, 0⟩
theorem snd0_ok {K N S : Nat} (hc : Cfg K N S) : (snd0 K N S).Ok :=
  ⟨⟨hc, by simp [snd0], fun i hi => by simp [snd0] at hi⟩, fun i hi => by simp [snd0] at hi, fun i q hi => by simp [snd0] at hi, by simp [snd0], fun h => by simp [snd0] at h, fun _ => rfl⟩

set_option maxRecDepth 100000 in
set_option maxHeartbeats 1000000 in
theorem newSender_ok (K N S : Nat) (hcb : cfgB (K : Int) (N : Int) (S : Int) = true) (w : World) :
    Calls Tryz.prog 32 #[.agg #[.int .i64 (K : Int), .int .i64 (N : Int), .int .i64 (S : Int)]] w fun e w' =>
      ∃ sb, e = .returned (.tuple #[.pointer (some ⟨sb, 0, none⟩), .nilIface]) ∧ SAt w' w.heap.size sb (snd0 K N S) ∧ Below w.heap.size w w' := by
  have hic := fun W => isConfig_any (K : Int) (N : Int) (S : Int) W
  rw [hcb] at hic
  go_enter Tryz.func32, Tryz.ntmps32
  go_wp2_with fail
  refine (hic _).mono ?_
  rintro e w1 ⟨rfl, hb1⟩
  have hX := heap_alloc_new w (.cells #[.int .i64 (K : Int), .int .i64 (N : Int), .int .i64 (S : Int)] 30)
  have hX1 := (hb1.block _ (lt_of_block hX)).trans hX
  have x0 : w1.cell? ⟨w.heap.size, 0, none⟩ = some (.int .i64 (K : Int)) := cell_of_row w1 _ 0 _ _ _ hX1
  have x1 : w1.cell? ⟨w.heap.size, 1, none⟩ = some (.int .i64 (N : Int)) := cell_of_row w1 _ 1 _ _ _ hX1
  have x2 : w1.cell? ⟨w.heap.size, 2, none⟩ = some (.int .i64 (S : Int)) := cell_of_row w1 _ 2 _ _ _ hX1
  have hbw : Below w.heap.size w w1 := ((Below.refl _ w).alloc (Nat.le_refl _) _).trans (hb1.mono (by simp))
  have hsz := hbw.size
  clear hX hX1 hb1 hic
  go_wp2_with fail
  go_ret2
  exact ⟨w1.heap.size, rfl, ⟨hsz, heap_alloc_new w1 _, World.ownsRow_nil .., fun i hi => by simp [snd0] at hi, fun i hi => by simp [snd0] at hi, fun i j hi => by simp [snd0] at hi⟩, hbw.alloc hsz _⟩

set_option maxRecDepth 100000 in
set_option maxHeartbeats 1000000 in
theorem newSender_no (A : Nat → Addr) (B0 : Nat) (K N S : Int) (hcb : cfgB K N S = false) (w : World) (hE : Errs A B0 w) :
    Calls Tryz.prog 32 #[.agg #[.int .i64 K, .int .i64 N, .int .i64 S]] w fun e w' =>
      e = .returned (.tuple #[.pointer none, E A 1]) ∧ Below w.heap.size w w' := by
  have hic := fun W => isConfig_any K N S W
  rw [hcb] at hic
  go_enter Tryz.func32, Tryz.ntmps32
  go_wp2_with fail
  refine (hic _).mono ?_
  rintro e w1 ⟨rfl, hb1⟩
  have hbw : Below w.heap.size w w1 := ((Below.refl _ w).alloc (Nat.le_refl _) _).trans (hb1.mono (by simp))
  have hE1 := hE.shrink _ hbw
  have g0 : w1.cell? ⟨4, 0, none⟩ = some (.iface 269 (.pointer (some (A 0)))) := hE1.cell 0 (by omega)
  clear hb1 hic
  go_wp2_with fail
  go_quiet (fail)
  go_wp2_with fail
  go_ret2
  exact ⟨rfl, hbw.trans ((below_drew rfl).mono hbw.size)⟩

/-- Nothing is owed. -/
def debts0 (n : Nat) : List (Nat × Nat) := List.replicate n (0, 0)
theorem debts0_at (n i : Nat) : dat (debts0 n) i = (0, 0) := by
  unfold dat debts0
  rw [List.getD_eq_getElem?_getD, List.getElem?_replicate]
  split <;> rfl
theorem flat0 : ∀ n, flat2 (debtVals (debts0 n)) = List.replicate (2 * n) (.int .i64 0)
  | 0 => rfl
  | n + 1 => by
    have e : debtVals (debts0 (n + 1)) = (.int .i64 0, .int .i64 0) :: debtVals (debts0 n) := rfl
    rw [e, flat2_cons, flat0 n, show 2 * (n + 1) = 2 * n + 1 + 1 by omega]
    rfl
theorem made2 (n : Nat) : madeCells #[.int .i64 0, .int .i64 0] (n * 2) = (flat2 (debtVals (debts0 n))).toArray := by
  apply Array.ext'
  rw [flat0]
  apply List.ext_getElem
  · simp [madeCells]; omega
  · intro i h1 h2
    have h3 : i % 2 = 0 ∨ i % 2 = 1 := by omega
    simp only [madeCells, Array.toList_map, Array.toList_range, List.getElem_map, List.getElem_range, List.getElem_replicate]
    rcases h3 with h3 | h3
    · show (#[Value.int IntKind.i64 0, Value.int IntKind.i64 0])[i % 2]! = _
      rw [h3]; rfl
    · show (#[Value.int IntKind.i64 0, Value.int IntKind.i64 0])[i % 2]! = _
      rw [h3]; rfl
theorem Tryz.info_debt : (Tryz.prog.info? 125).map (fun i => (i.zero, i.size, i.bytes)) = some (some (.agg #[.int .i64 0, .int .i64 0]), 2, 16) := by kernel_rfl
theorem make_debts (n : Nat) (hn : n ≤ 1000) (W : World) : (Instr.makeSlice 118 (.int .i64 (n : Int)) (.int .i64 (n : Int))).run Tryz.prog W = .ok (.slice (some ⟨W.heap.size, 0, none⟩) n n) (W.alloc (.cells (flat2 (debtVals (debts0 n))).toArray 125)) := by
  have h := Tryz.info_debt
  cases hi : Tryz.prog.info? 125 with
  | none => rw [hi] at h; simp at h
  | some i =>
    rw [hi] at h
    simp at h
    obtain ⟨h1, h2, h3⟩ := h
    have := run_make (P := Tryz.prog) W 118 125 i (.agg #[.int .i64 0, .int .i64 0]) Tryz.underlying118 hi h1 .i64 .i64 (n : Int) (n : Int) (by omega) (by omega) (by rw [h3]; omega) (by omega)
    rw [h2] at this
    simp only [Int.toNat_natCast] at this
    rw [this]
    show Result.ok _ (W.alloc (.cells (madeCells #[.int .i64 0, .int .i64 0] (n * 2)) _)) = _
    rw [made2]

/-- One object more. -/
def Snd.enq (s : Snd) (o : Ob) (vo : Value) : Snd := { s with os := s.os ++ [o], vo := vo }

theorem oat_push (os : List Ob) (o : Ob) (i : Nat) (h : i < os.length) : oat (os ++ [o]) i = oat os i := by simp [oat, List.getD, List.getElem?_append_left h]
theorem oat_last (os : List Ob) (o : Ob) : oat (os ++ [o]) os.length = o := by simp [oat, List.getD]

theorem Snd.enq_ok {s : Snd} (ok : s.Ok) {o : Ob} {vo : Value} (h16 : s.os.length < 16) (hl : o.l.length ≤ 255) (hd : o.ds = debts0 (partsN (symN s.S o.l.length) s.K)) : (s.enq o vo).Ok := by
  obtain ⟨k1, k8, kn, n16, s1, s8⟩ := ok.cfg
  have hlen : (s.enq o vo).os.length = s.os.length + 1 := by simp [Snd.enq]
  have key : ∀ i, i < s.os.length + 1 → (i < s.os.length ∧ oat (s.enq o vo).os i = oat s.os i) ∨ (i = s.os.length ∧ oat (s.enq o vo).os i = o) := fun i hi => by
    by_cases e : i < s.os.length
    · exact .inl ⟨e, oat_push _ _ _ e⟩
    · have : i = s.os.length := by omega
      subst this
      exact .inr ⟨rfl, oat_last _ _⟩
  have kT : ∀ i, i < s.os.length → (s.enq o vo).T i = s.T i := fun i hi => by unfold Snd.T; rw [show oat (s.enq o vo).os i = oat s.os i from oat_push _ _ _ hi]; rfl
  have kTl : (s.enq o vo).T s.os.length = symN s.S o.l.length := by unfold Snd.T; rw [show oat (s.enq o vo).os s.os.length = o from oat_last _ _]; rfl
  have hnx := ok.next
  refine ⟨⟨ok.cfg, by rw [hlen]; omega, fun i hi => ?_⟩, fun i hi => ?_, fun i q hi hq => ?_, by rw [hlen]; show s.no ≤ _; omega, fun _ => ?_, fun h => ?_⟩
  · rw [hlen] at hi
    rcases key i hi with ⟨h1, h2⟩ | ⟨_, h2⟩ <;> rw [h2]
    · exact ok.len i h1
    · exact hl
  · rw [hlen] at hi
    unfold Snd.Q
    rcases key i hi with ⟨h1, h2⟩ | ⟨h1, h2⟩ <;> rw [h2]
    · rw [kT i h1]; exact ok.blocks i h1
    · subst h1; rw [kTl, hd]; simp [debts0]; rfl
  · rw [hlen] at hi
    unfold Snd.Q at hq
    unfold Snd.R
    rcases key i hi with ⟨h1, h2⟩ | ⟨h1, h2⟩ <;> rw [h2]
    · rw [kT i h1] at hq ⊢
      exact ok.debt i q h1 hq
    · subst h1
      rw [kTl] at hq ⊢
      rw [hd, debts0_at]
      have := partsN_mul k1 hq
      refine ⟨by omega, ?_⟩
      show 0 < (s.N - s.K) + srcN s.K _ q
      unfold srcN
      omega
  · show s.ns < (s.enq o vo).T s.no
    by_cases e : s.no < s.os.length
    · rw [kT _ e]; exact ok.sym e
    · have e2 : s.no = s.os.length := by omega
      rw [ok.done e2, e2, kTl]
      have := (symN_range (S := s.S) (len := o.l.length) s1).1
      omega
  · rw [hlen] at h
    have h2 : s.no = s.os.length + 1 := h
    omega

theorem own2_ne {w : World} {B B' n n' sz sz' : Nat} {e e' : TypeId} {v v' : Value} {xs xs' : List Value} (h : w.ownsRow B e sz v n xs) (h' : w.ownsRow B' e' sz' v' n' xs') (hne : e ≠ e') : ∀ g, v.ownBlock = some g → v'.ownBlock ≠ some g := by
  intro g hg hg'
  obtain ⟨cur, hc⟩ := own_block h' hg'
  exact own_ne h hg hc hne rfl
theorem Tryz.info_told : (Tryz.prog.info? 120).map (fun i => (i.zero, i.size, i.bytes)) = some (some (.agg #[.slice none 0 0, .slice none 0 0]), 2, 48) := by kernel_rfl
theorem Tryz.told_parts : ∃ i, Tryz.prog.info? 120 = some i ∧ i.zero = some (.agg #[.slice none 0 0, .slice none 0 0]) ∧ i.size = 2 ∧ i.bytes = 48 := by
  have h := Tryz.info_told
  cases hi : Tryz.prog.info? 120 with
  | none => rw [hi] at h; simp at h
  | some i => rw [hi] at h; simp at h; exact ⟨i, rfl, h.1, h.2.1, h.2.2⟩

theorem SAt.enq {w w' : World} {B sb : Nat} {s : Snd} (h : SAt w B sb s) {o : Ob} {vo : Value} (hb : But (fun b => b = sb ∨ s.vo.ownBlock = some b) w w') (hB : B ≤ w.heap.size)
    (hk : w'.heap[sb]? = some (.cells #[.int .i64 (s.K : Int), .int .i64 (s.N : Int), .int .i64 (s.S : Int), vo, .int .i64 (s.no : Int), .int .i64 (s.ns : Int)] 116 (0, 0)))
    (ho : w'.ownsRow B 120 2 vo (s.os.length + 1) (flat2 (objVals s.os) ++ [o.bv, o.dv]))
    (hy : w'.ownsRow B 5 1 o.bv o.l.length (encL o.l)) (hd : w'.heap[o.dg]? = some (.cells (flat2 (debtVals o.ds)).toArray 125 (0, 0))) (hdg : w.heap.size ≤ o.dg) : SAt w' B sb (s.enq o vo) := by
  have hlen : (s.enq o vo).os.length = s.os.length + 1 := by simp [Snd.enq]
  have key : ∀ i, i < s.os.length + 1 → (i < s.os.length ∧ oat (s.enq o vo).os i = oat s.os i) ∨ (i = s.os.length ∧ oat (s.enq o vo).os i = o) := fun i hi => by
    by_cases e : i < s.os.length
    · exact .inl ⟨e, oat_push _ _ _ e⟩
    · have : i = s.os.length := by omega
      subst this
      exact .inr ⟨rfl, oat_last _ _⟩
  refine ⟨h.low, hk, ?_, fun i hi => ?_, fun i hi => ?_, fun i j hi hj e => ?_⟩
  · rw [hlen]
    have : objVals (s.enq o vo).os = objVals s.os ++ [(o.bv, o.dv)] := by simp [objVals, Snd.enq]
    rw [this, flat2_append]
    exact ho
  · rw [hlen] at hi
    rcases key i hi with ⟨h1, h2⟩ | ⟨_, h2⟩ <;> rw [h2]
    · refine hb.own (h.bytes i h1) (fun g hg q => ?_)
      rcases q with q | q
      · exact own_ne (h.bytes i h1) hg h.blk (by decide) q
      · exact own2_ne (h.bytes i h1) h.own (by decide) g hg q
    · exact hy
  · rw [hlen] at hi
    rcases key i hi with ⟨h1, h2⟩ | ⟨_, h2⟩ <;> rw [h2]
    · refine ⟨(h.debts i h1).1, (hb.block _ (lt_of_block (h.debts i h1).2) (fun q => ?_)).trans (h.debts i h1).2⟩
      rcases q with q | q
      · have hb2 := h.blk
        rw [← q, (h.debts i h1).2] at hb2
        simp only [Option.some.injEq, Obj.cells.injEq] at hb2
        exact absurd hb2.2.1 (by decide)
      · exact own_ne h.own q (h.debts i h1).2 (by decide) rfl
    · exact ⟨by omega, hd⟩
  · rw [hlen] at hi hj
    rcases key i hi with ⟨h1, h2⟩ | ⟨h1, h2⟩ <;> rcases key j hj with ⟨h3, h4⟩ | ⟨h3, h4⟩ <;> rw [h2, h4] at e
    · exact h.apart i j h1 h3 e
    · have := lt_of_block (h.debts i h1).2
      omega
    · have := lt_of_block (h.debts j h3).2
      omega
    · omega

/-- What Enqueue gives. -/
def EnqGives (A : Nat → Addr) (s : Snd) (l : List Gf.F) (B sb : Nat) (w : World) (e : Ending) (w' : World) : Prop :=
  (255 < l.length ∧ e = .returned (.tuple #[.int .i64 0, E A 2]) ∧ Below w.heap.size w w') ∨
  (l.length ≤ 255 ∧ s.os.length = 16 ∧ e = .returned (.tuple #[.int .i64 0, E A 3]) ∧ Below w.heap.size w w') ∨
  (l.length ≤ 255 ∧ s.os.length < 16 ∧ e = .returned (.tuple #[.int .i64 (s.os.length : Int), .nilIface]) ∧ ∃ o vo, o.l = l ∧ o.ds = debts0 (partsN (symN s.S l.length) s.K) ∧ SAt w' B sb (s.enq o vo) ∧ But (s.foot sb) w w' ∧ ∀ b, (s.enq o vo).foot sb b → s.foot sb b ∨ w.heap.size ≤ b)

theorem enq_end {A : Nat → Addr} {B sb vc d Q c4 g6 cap6 : Nat} {va a4 : Option Addr} {l : List Gf.F} {s : Snd} {w W3 w4 w6 : World} {ob : Obj} (h : SAt w B sb s) (hB : B ≤ w.heap.size) (hV : s.vo = .slice va s.os.length vc) (hQ : Q = partsN (symN s.S l.length) s.K) (hll : l.length ≤ 255) (h16 : s.os.length < 16)
    (hb3 : Below w.heap.size w W3) (hD : W3.heap[d]? = some (.cells (flat2 (debtVals (debts0 Q))).toArray 125 (0, 0))) (hd : w.heap.size ≤ d) (hown4 : w4.ownsRow W3.heap.size 5 1 (.slice a4 l.length c4) l.length (encL l)) (hb4 : Below W3.heap.size W3 w4)
    (hown6 : w6.ownsRow B 120 2 (.slice (some ⟨g6, 0, none⟩) (s.os.length + 1) cap6) (s.os.length + 1) (flat2 (objVals s.os) ++ [.slice a4 l.length c4, .slice (some ⟨d, 0, none⟩) Q Q])) (hgr6 : (w4.alloc ob).grownBy w6 (Value.slice va s.os.length vc).ownBlock) (hlie : (Value.slice va s.os.length vc).ownBlock = some g6 ∨ g6 = w4.heap.size + 1) :
    EnqGives A s l B sb w (.returned (.tuple #[.int .i64 (s.os.length : Int), .nilIface])) (w6.setCell ⟨sb, 3, none⟩ (.slice (some ⟨g6, 0, none⟩) (s.os.length + 1) cap6)) := by
  have hs3 := hb3.size
  have hs4 := hb4.size
  have hbl : Below w.heap.size w w4 := hb3.trans (hb4.mono hs3)
  have h4 := h.above hbl
  have hne : ∀ {B' n sz : Nat} {e : TypeId} {v : Value} {xs : List Value}, w6.ownsRow B' e sz v n xs → ∀ {cs : Array Value}, w6.heap[sb]? = some (.cells cs 116 (0, 0)) → e ≠ 116 → ∀ g, v.ownBlock = some g → ¬ g = sb := fun h' _ hc he g hg q => own_ne h' hg hc he q
  have hb6 : But (fun b => b = sb ∨ s.vo.ownBlock = some b) w w6 := (((Below.but hbl (fun b => b = sb ∨ s.vo.ownBlock = some b) (fun i hi q => absurd hi q)).alloc ob).grown hgr6 (fun k hk => .inl (.inr (by rw [hV]; exact hk))))
  have hsb6 : w6.heap[sb]? = w.heap[sb]? := by
    have hk : w6.heap[sb]? = w4.heap[sb]? := (grown_block hgr6 (by have := lt_of_block h4.blk; simp; omega) (fun q => by rw [← hV] at q; exact own_ne h4.own q h4.blk (by decide) rfl)).trans (Below.heap_alloc w4 ob sb (lt_of_block h4.blk))
    exact hk.trans (hbl.block sb (lt_of_block h.blk))
  have hblk6 := hsb6.trans h.blk
  have hb9 := hb6.setCell (p := ⟨sb, 3, none⟩) (.inl (.inl rfl)) (.slice (some ⟨g6, 0, none⟩) (s.os.length + 1) cap6)
  have hO := But.setCell (S := fun b => b = sb) (But.refl _ w6) (p := ⟨sb, 3, none⟩) (.inl rfl) (.slice (some ⟨g6, 0, none⟩) (s.os.length + 1) cap6)
  have hkeep4 : ∀ g cs t, w4.heap[g]? = some (Obj.cells cs t (0, 0)) → t ≠ 120 → w6.heap[g]? = w4.heap[g]? := fun g cs t hg ht => (grown_block hgr6 (by have := lt_of_block hg; simp; omega) (fun q => by rw [← hV] at q; exact own_ne h4.own q hg (fun e => ht e.symm) rfl)).trans (Below.heap_alloc w4 ob g (lt_of_block hg))
  have hD4 := (hb4.block _ (lt_of_block hD)).trans hD
  have hD6 := (hkeep4 _ _ _ hD4 (by decide)).trans hD4
  have hdne : ¬ d = sb := by have := lt_of_block h.blk; omega
  have hown46 : w6.ownsRow W3.heap.size 5 1 (.slice a4 l.length c4) l.length (encL l) := own_of_block hown4 (fun g hg => by
    obtain ⟨cur, hc⟩ := own_block hown4 hg
    exact hkeep4 g cur _ hc (by decide))
  have hlen0 : (debts0 Q).length = Q := by simp [debts0]
  refine .inr (.inr ⟨hll, h16, rfl, ⟨l, debts0 Q, a4, c4, d⟩, .slice (some ⟨g6, 0, none⟩) (s.os.length + 1) cap6, rfl, by show debts0 Q = _; rw [hQ], ?_, ?_, ?_⟩)
  · refine h.enq hb9 hB (heap_setCell_same w6 sb 3 _ _ _ hblk6) (hO.own ?_ (hne hown6 hblk6 (by decide))) (own_base2 (hO.own hown46 (hne hown46 hblk6 (by decide))) (by omega)) ((hO.block d (lt_of_block hD6) hdne).trans hD6) hd
    show w6.ownsRow B _ 2 _ _ (flat2 (objVals s.os) ++ [Value.slice a4 l.length c4, Value.slice (some ⟨d, 0, none⟩) (debts0 Q).length (debts0 Q).length])
    rw [hlen0]
    exact hown6
  · refine hb9.wide (fun k _ q => ?_)
    rcases q with q | q
    · exact .inl q
    · exact .inr (.inl q)
  · intro x hx
    rcases hx with hx | hx | ⟨i, hi, hx⟩
    · exact .inl (.inl hx)
    · have hx' : g6 = x := by simpa [Snd.enq, Value.ownBlock] using hx
      subst hx'
      rcases hlie with q | q
      · exact .inl (.inr (.inl (by rw [hV]; exact q)))
      · exact .inr (by omega)
    · have hi' : i < s.os.length + 1 := by simpa [Snd.enq] using hi
      by_cases e : i < s.os.length
      · rw [show oat (s.enq ⟨l, debts0 Q, a4, c4, d⟩ (.slice (some ⟨g6, 0, none⟩) (s.os.length + 1) cap6)).os i = oat s.os i from oat_push _ _ _ e] at hx
        exact .inl (.inr (.inr ⟨i, e, hx⟩))
      · have e2 : i = s.os.length := by omega
        subst e2
        rw [show oat (s.enq ⟨l, debts0 Q, a4, c4, d⟩ (.slice (some ⟨g6, 0, none⟩) (s.os.length + 1) cap6)).os s.os.length = ⟨l, debts0 Q, a4, c4, d⟩ from oat_last _ _] at hx
        rcases hx with hx | hx
        · have : x = d := hx
          exact .inr (by omega)
        · have := (hown4.lt x hx).1
          exact .inr (by omega)

set_option maxRecDepth 100000 in
set_option maxHeartbeats 2000000 in
theorem enqueue_any {A : Nat → Addr} {B0 B sb b o n c : Nat} {a : Option Addr} {l : List Gf.F} {s : Snd} {w : World} (h : SAt w B sb s) (ok : s.Ok) (hE : Errs A B0 w) (hl : l.length = n) (hn : n ≤ 140737488355328) (ha : a = some ⟨b, o, none⟩ ∨ a = none ∧ n = 0 ∧ c = 0) (hB : Bs w b o l) :
    Calls Tryz.prog 35 #[.pointer (some ⟨sb, 0, none⟩), .slice a n c] w (EnqGives A s l B sb w) := by
  have g1 : w.cell? ⟨5, 0, none⟩ = some (.iface 269 (.pointer (some (A 1)))) := hE.cell 1 (by omega)
  have g2 : w.cell? ⟨1, 0, none⟩ = some (.iface 269 (.pointer (some (A 2)))) := hE.cell 2 (by omega)
  obtain ⟨c0, c1, c2, c3, _, _⟩ := h.cells
  obtain ⟨va, vc, hvo, _⟩ := own_form2 h.own
  rw [hvo] at c3
  have hfew := ok.few
  obtain ⟨k1, k8, kn, n16, s1, s8⟩ := ok.cfg
  by_cases hq : 255 < n
  · have hq1 : (255 : Int) < (n : Int) := by omega
    clear c0 c1 c2 c3 hvo
    go_enter Tryz.func35, Tryz.ntmps35
    go_wp2_with fail
    go_quiet (fail)
    go_wp2_with fail
    go_ret2
    exact .inl ⟨by omega, rfl, below_drew rfl⟩
  · have hq1 : ¬ (255 : Int) < (n : Int) := by omega
    by_cases h16 : s.os.length = 16
    · have h161 : (s.os.length : Int) = 16 := by omega
      go_enter Tryz.func35, Tryz.ntmps35
      go_wp2_with fail
      go_quiet (fail)
      go_wp2_with fail
      go_ret2
      exact .inr (.inl ⟨by omega, h16, rfl, below_drew rfl⟩)
    · have h161 : ¬ (s.os.length : Int) = 16 := by omega
      go_enter Tryz.func35, Tryz.ntmps35
      go_wp2_with fail
      refine (of_any s.K s.N s.S n ok.cfg (by omega) w).mono ?_
      rintro e w1 ⟨rfl, hb1⟩
      have hTr := symN_range (S := s.S) (len := n) s1
      clear c0 c1 c2 c3 g1 g2
      go_wp2_with fail
      refine (blocks_any s.K s.N s.S (symN s.S n) k1 k8 (by omega) w1).mono ?_
      rintro e w2 ⟨rfl, hb2⟩
      have hQl := partsN_le (a := symN s.S n) k1
      obtain ⟨Q, hQ⟩ : ∃ x, x = partsN (symN s.S n) s.K := ⟨_, rfl⟩
      rw [← hQ] at hQl ⊢
      have HQ : Hid (Q = partsN (symN s.S n) s.K) := hQ
      clear hQ
      have hmk := make_debts Q (by omega) w2
      have hbw2 : Below w.heap.size w w2 := hb1.trans (hb2.mono hb1.size)
      go_upto_region 7 with fail
      clear hmk hb1 hb2
      have hb3 : Below w2.heap.size w2 (w2.alloc (.cells (flat2 (debtVals (debts0 Q))).toArray 125)) := (Below.refl _ _).alloc (Nat.le_refl _) _
      have hD3 := heap_alloc_new w2 (.cells (flat2 (debtVals (debts0 Q))).toArray 125)
      generalize w2.alloc (.cells (flat2 (debtVals (debts0 Q))).toArray 125) = W3 at *
      have hbw3 : Below w.heap.size w W3 := hbw2.trans (hb3.mono hbw2.size)
      have h3 := h.above hbw3
      have hsz3 := hbw3.size
      have hsz2 := hbw2.size
      have hD3l := lt_of_block hD3
      have hB3 : Bs W3 b o l := fun i hi => by rw [hbw3.cell (lt_of_cell (hB i hi))]; exact hB i hi
      have hB3d : Bs W3.drew b o l := hB3
      obtain ⟨_, _, _, c3, _, _⟩ := h3.cells
      rw [hvo] at c3
      have hBl := h.foot_lt (b := sb) (.inl rfl)
      obtain ⟨iT, hiT, hiT0, hiT1, hiT2⟩ := Tryz.told_parts
      have HV : Hid (s.vo = .slice va s.os.length vc) := hvo
      have HOW : Hid (∀ w4, Below W3.drew.heap.size W3.drew w4 → ∀ ob : Obj, (w4.alloc ob).ownsRow B 120 2 (.slice va s.os.length vc) s.os.length (flat2 (objVals s.os))) := fun w4 hb4 ob => by
        have := (h3.above (Below.undraw hb4)).own
        rw [HV.out] at this
        exact this.alloc ob
      have HBL : Hid (∀ w4, Below W3.drew.heap.size W3.drew w4 → ∀ ob : Obj, B ≤ (w4.alloc ob).heap.size) := fun w4 hb4 ob => by
        have h1 : W3.heap.size ≤ w4.heap.size := hb4.size
        simp; omega
      have HML : Hid (s.os.length + 1 ≤ maxLen) := by show _ ≤ _; unfold maxLen; omega
      have HMB : Hid ((s.os.length + 1) * 48 ≤ 140737488355328) := by show _ ≤ _; omega
      have HK6 : Hid (∀ w4 ob w6, Below W3.drew.heap.size W3.drew w4 → (w4.alloc ob).grownBy w6 (Value.slice va s.os.length vc).ownBlock → w6.cell? ⟨sb, 3, none⟩ = some (.slice va s.os.length vc) ∧ w6.frozen? ⟨sb, 3, none⟩ = false) := fun w4 ob w6 hb4 hg => by
        have h4 := h3.above (Below.undraw hb4)
        have hs4 := lt_of_block h4.blk
        have hk : w6.heap[sb]? = w4.heap[sb]? := (grown_block hg (by simp; omega) (fun q => by rw [← HV.out] at q; exact own_ne h4.own q h4.blk (by decide) rfl)).trans (Below.heap_alloc w4 ob sb hs4)
        have hblk := hk.trans h4.blk
        exact ⟨by rw [cell_of_row w6 sb 3 _ _ _ hblk]; show some s.vo = _; rw [HV.out], frozen_of_row w6 sb 3 _ _ hblk⟩
      clear hvo
      go_region_law ((first
        | (refine step_append_lies _ (by rfl) _ _ _ (by rfl) B 120 iT (.agg #[.slice none 0 0, .slice none 0 0]) 2 48 Tryz.underlying112 hiT hiT0 hiT1 hiT2 rfl (by omega) (.slice va s.os.length vc) s.os.length (flat2 (objVals s.os)) (by rfl) (HOW.out _ hb4 _) ⟨w4.heap.size, 0, none⟩ 1 1 [.slice a4 n c4, .slice (some ⟨w2.heap.size, 0, none⟩) Q Q] (by rfl) rfl (cell_two_at w4 _ _ _ _ rfl) HNW.out (by omega) HML.out HMB.out (HBL.out _ hb4 _) (w4.heap.size + 1) (by simp) ?_; intro g6 cap6 w6 hown6 hgr6 hlie6 hlt6; obtain ⟨k6, f6⟩ := HK6.out _ _ _ hb4 hgr6)
        | (go_simp; go_at_call 62; refine (clone_all a b o n c l W3.drew hl (by omega) ha hB3d).mono ?_; rintro e w4 ⟨a4, c4, rfl, hown4, hb4⟩; have HNW : Hid (∀ u ∈ [Value.slice a4 n c4, .slice (some ⟨w2.heap.size, 0, none⟩) Q Q], u.oneCell' = true) := (fun u hu => by simp at hu; rcases hu with rfl | rfl <;> rfl); (have k3 : w4.cell? ⟨sb, 3, none⟩ = some (.slice va s.os.length vc) := by rw [hb4.cell (lt_of_cell c3)]; exact c3); have hl4 := lt_of_cell k3; have hn4 : ¬ sb = w4.heap.size := Nat.ne_of_lt hl4)))
      all_goals go_wp2_with fail
      all_goals go_ret2
      all_goals subst hl
      all_goals exact enq_end h (by omega) HV.out HQ.out (by omega) (by omega) hbw3 hD3 hsz2 hown4 (Below.undraw hb4) hown6 hgr6 hlie6

end Go.Proofs.YtjabhnhejbhgjaaGreatDoor
