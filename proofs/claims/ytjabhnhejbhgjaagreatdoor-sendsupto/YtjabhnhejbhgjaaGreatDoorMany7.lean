import Derived.Test.YtjabhnhejbhgjaaGreatDoorMany6
import Derived.Test.YtjabhnhejbhgjaaGreatDoorMany5
/- Hands.back, where no list of lists was lent. (Written by gen_back0.py.) -/
namespace Go.Proofs.YtjabhnhejbhgjaaGreatDoor
open Go.RowKit

set_option maxRecDepth 100000 in
set_option maxHeartbeats 4000000 in
theorem back0_any (lv : Value) (hb B B2 k kr ki X Z n lb lo zb zo zc : Nat) (hkr0 : Hid (kr = 0)) (al az : Option Addr) (s : HS) (rs : List Raw) (gs : List Nat) (l : List Int) (w : World) (hk : k ≤ 1048576) (hbB : hb < B) (hH : HAt w hb s)
    (hL : Lent w B s.in_ rs gs k) (hg2 : ∀ i, i < k → gat gs i < B2) (hO : Owned w B rs k) (hR : RowsIn w B B2 s.rows rs gs k X lb lo al kr) (hI : IntsIn w B B2 s.ints s.iwant l n Z zb zo zc az ki) :
    Calls Tryz.prog 82 #[.pointer (some ⟨hb, 2, none⟩), lv] w fun e w' =>
      e = .returned (.bool true) ∧ HAt w' hb { s with in_ := .slice none 0 0, rows := .slice none 0 0, ints := .slice none 0 0, iwant := .slice none 0 0 } ∧ But (fun b => b = hb ∨ (B ≤ b ∧ b < B2)) w w' := by
  go_enter Tryz.func82, Tryz.ntmps82
  go_wp2_with fail
  go_loopw [5, 6] (fun t5 t6 wr => ∃ i : Nat, i ≤ kr ∧ t5 = .bool true ∧ t6 = .int .i64 (i : Int) ∧ (i = 0 → wr = w) ∧ But (fun b => b = X ∧ 0 < i) w wr) (fun _ t _ => kr - (intOf t).toNat)
  case atStart => exact ⟨0, by omega, rfl, rfl, fun _ => rfl, But.refl _ _⟩
  case round =>
    obtain ⟨i, hi, rfl, rfl, hw0, hbut⟩ := hrel
    by_cases hlt : i < kr
    · exact absurd hlt (by have := hkr0.out; omega)
    · obtain rfl : i = kr := by omega
      have hXt : 0 < i → w.heap[X]? = some (.cells (lendCells rs gs k k) 33 (0, 0)) ∧ B ≤ X ∧ X < B2 := fun q => ⟨(hR.list q).1, (hR.list q).2.1, (hR.list q).2.2.1⟩
      have HA : Hid (HAt wr hb s) := hH.kept (hbut.block hb hH.lt (fun q => by have := (hXt q.2).2.1; omega))
      have hLA : Lent wr B s.in_ rs gs k := hL.kept hbut (fun g hg q => own_ne hL.own hg (hXt q.2).1 (by decide) q.1) (fun j hj q => by
        have h1 := hL.blk j hj
        unfold Blk at h1
        rw [q.1, (hXt q.2).1] at h1
        simp only [Option.some.injEq, Obj.cells.injEq] at h1
        exact absurd h1.2.1 (by decide))
      have hOA : Owned wr B rs k := hO.but hbut (fun b q => by rw [q.1]; exact (hXt q.2).2.1)
      have hIA : IntsIn wr B B2 s.ints s.iwant l n Z zb zo zc az ki := hI.but hbut (fun g hg q => own_ne hI.ints hg (hXt q.2).1 (by decide) q.1) (fun g hg q => own_ne hI.want hg (hXt q.2).1 (by decide) q.1) (fun hk q => by
        have h1 := (hI.blk hk).1
        unfold ZBlk at h1
        rw [q.1, (hXt q.2).1] at h1
        simp only [Option.some.injEq, Obj.cells.injEq] at h1
        exact absurd h1.2.1 (by decide)) (fun b q => by rw [q.1]; exact (hXt q.2).2.1)
      have hbA : But (fun b => B ≤ b ∧ b < B2) w wr := hbut.wide (fun b _ q => by rw [q.1]; exact (hXt q.2).2)
      have hcr : wr.cell? ⟨hb, 3, none⟩ = some s.rows := HA.out.cell 1
      have hlenR : ∃ a c, s.rows = .slice a i c := by
        rcases hR.own.2 with ⟨h1, h2⟩ | ⟨g, cap, cur, h1, _⟩
        · exact ⟨_, _, by rw [h1, h2]⟩
        · exact ⟨_, _, h1⟩
      obtain ⟨ra, rc, hra⟩ := hlenR
      rw [hra] at hcr
      have HRA : Hid (s.rows = .slice ra i rc) := hra
      clear hra hbut hXt hw0 hlt
      generalize hWA : wr = wA at *
      clear hWA
      have hlow := hLA.low
      have HAP : Hid (∀ i j, i < k → j < k → gat gs i = gat gs j → i = j) := hLA.apart
      have hownA := hLA.own
      have HBA : Hid (∀ j, 0 ≤ j → j < k → Blk wA (gat gs j) (marked (wat rs j).l)) := fun j _ hj => hLA.blk j hj
      clear hLA hH hL hO hR hI
      go_wp2_with fail
      go_loopw [5, 11] (fun t5 t11 wr => ∃ (i : Nat), i ≤ k ∧ t5 = .bool true ∧ t11 = .int .i64 (i : Int) ∧ Hid (HAt wr hb s) ∧ wr.ownsRow B 221 2 s.in_ k (lentCells rs gs k) ∧ Hid (∀ j, i ≤ j → j < k → Blk wr (gat gs j) (marked (wat rs j).l)) ∧ Owned wr B rs k ∧ IntsIn wr B B2 s.ints s.iwant l n Z zb zo zc az ki ∧ But (fun b => B ≤ b ∧ b < B2) w wr) (fun _ t _ => k - (intOf t).toNat)
      case atStart => exact ⟨0, by omega, rfl, rfl, HA, hownA, HBA, hOA, hIA, hbA⟩
      case round =>
        clear HA hownA HBA hOA hIA hbA hcr
        obtain ⟨i4, hi4, rfl, rfl, HA, hownA, HBA, hOA, hIA, hbA⟩ := hrel
        have hci : wr.cell? ⟨hb, 2, none⟩ = some s.in_ := HA.out.cell 0
        by_cases hlt : i4 < k
        · obtain ⟨wB, rfl⟩ : ∃ x, x = wr := ⟨wr, rfl⟩
          obtain ⟨gi, ci, hvi, _, _⟩ := hownA.form (by omega)
          have hall : wB.cell? ⟨gi, i4 * 2, none⟩ = some (.slice (some ⟨gat gs i4, 0, none⟩) ((wat rs i4).l.length + 2) ((wat rs i4).l.length + 2)) := by
            exact own_cell hownA (by rw [hvi]; rfl) (lentCells_all rs gs k i4 hlt)
          have hwant : wB.cell? ⟨gi, i4 * 2 + 1, none⟩ = some (wat rs i4).v := by
            exact own_cell hownA (by rw [hvi]; rfl) (lentCells_want rs gs k i4 hlt)
          rw [hvi] at hci
          have HVI : Hid (s.in_ = .slice (some ⟨gi, 0, none⟩) k ci) := hvi
          clear hvi
          have hik : (i4 : Int) < (k : Int) := by omega
          obtain ⟨hraw, hml, _⟩ := hOA i4 hlt
          obtain ⟨m, hm⟩ : ∃ m, m = (wat rs i4).l.length := ⟨_, rfl⟩
          have hG := HBA.out i4 (Nat.le_refl _) hlt
          have hG2 := hG.bsN m
          rw [hm, marked_take] at hG2
          have hv1 := fun nq => hG2.convN m (m + 2) hm.symm nq
          have hv2 := fun nq => hraw.conv nq
          have hx0 : wB.cell? ⟨gat gs i4, m, none⟩ = some (.int .u8 165) := by
            have := hG.bs m (by simp [marked, hm])
            rw [Nat.zero_add] at this
            rw [this, hm]; simp [marked, at_, List.getD]
          have hx1 : wB.cell? ⟨gat gs i4, m + 1, none⟩ = some (.int .u8 165) := by
            have := hG.bs (m + 1) (by simp [marked, hm])
            rw [Nat.zero_add] at this
            rw [this, hm]; simp [marked, at_, List.getD]
          have hss : ((str (wat rs i4).l).toList == (str (wat rs i4).l).toList) = true := by rw [beq_iff_eq]
          rw [← hm] at hall hml
          have HML : Hid (m = (wat rs i4).l.length) := hm
          have HG : Hid (Blk wB (gat gs i4) (marked (wat rs i4).l)) := hG
          clear hm hG hG2 hraw
          go_wp2_with fail
          go_quiet (fail)
          go_wp2_with fail
          have hGs : Hid (∃ cs : Array Value, cs.size = m + 2 ∧ (wB.drewN nq).heap[gat gs i4]? = some (.cells cs 5 (0, 0))) := ⟨_, by simp [enc, marked, HML.out], HG.out⟩
          clear hv1 hv2 hx0 hx1 hall hwant hci hss
          go_loopw [14] (fun t14 wq => ∃ (q : Nat), q ≤ m + 2 ∧ t14 = .int .i64 (q : Int) ∧ Hid (∃ cs : Array Value, cs.size = m + 2 ∧ wq.heap[gat gs i4]? = some (.cells cs 5 (0, 0))) ∧ But (fun b => b = gat gs i4) wB wq) (fun t _ => m + 2 - (intOf t).toNat)
          case atStart => exact ⟨0, by omega, rfl, hGs, ⟨rfl, rfl, rfl, Nat.le_refl _, fun _ _ _ => rfl⟩⟩
          case round =>
            clear hGs
            obtain ⟨q, hq, rfl, HXq, hbq⟩ := hrel
            by_cases hlt3 : q < m + 2
            · obtain ⟨cs, hcs, hXq⟩ := HXq.out
              have hcq : wr.cell? ⟨gat gs i4, q, none⟩ = some cs[q] := by rw [cell_of_row wr _ q _ _ _ hXq]; simp [hcs, hlt3]
              have hfq := frozen_of_row wr _ q _ _ hXq
              have hq2 : (q : Int) < (m : Int) + 2 := by omega
              have HX6 : Hid (∃ cs : Array Value, cs.size = m + 2 ∧ (wr.setCell ⟨gat gs i4, q, none⟩ (.int .u8 90)).heap[gat gs i4]? = some (.cells cs 5 (0, 0))) := ⟨_, by simpa using hcs, heap_setCell_same _ _ _ _ _ _ hXq⟩
              have hb6 := hbq.setCell (p := ⟨gat gs i4, q, none⟩) (.inl rfl) (.int .u8 90)
              clear hXq
              go_wp2_with fail
              exact ⟨⟨q + 1, by omega, by go_num, HX6, hb6⟩, by simp [intOf]; omega⟩
            · obtain rfl : q = m + 2 := by omega
              have hlo := hlow i4 hlt
              have hh2 := hg2 i4 hlt
              have HA5 : Hid (HAt wr hb s) := HA.out.kept (hbq.block hb HA.out.lt (fun q => by omega))
              have hown5 := hbq.own hownA (fun g hg q => own_ne hownA hg HG.out (by decide) q)
              have HB5 : Hid (∀ j, i4 + 1 ≤ j → j < k → Blk wr (gat gs j) (marked (wat rs j).l)) := fun j h1 h2 => (HBA.out j (by omega) h2).kept (hbq.block _ (HBA.out j (by omega) h2).lt (fun q => by have := HAP.out j i4 h2 hlt q; omega))
              have hO5 := hOA.but hbq (fun b q => by rw [q]; exact hlo)
              have hI5 := hIA.but hbq (fun g hg q => own_ne hIA.ints hg HG.out (by decide) q) (fun g hg q => own_ne hIA.want hg HG.out (by decide) q) (fun hk q => by
                have h1 := (hIA.blk hk).1
                have h2 := HG.out
                unfold ZBlk at h1
                unfold Blk at h2
                rw [q, h2] at h1
                simp only [Option.some.injEq, Obj.cells.injEq] at h1
                exact absurd h1.2.1 (by decide)) (fun b q => by rw [q]; exact hlo)
              have hb5 := hbA.then hbq (fun b _ q => by rw [q]; exact ⟨hlo, hh2⟩)
              clear HA hownA HBA hOA hIA hbA hbq HXq
              go_wp2_with fail
              refine ⟨?_, by simp [intOf]; omega⟩
              first
                | exact ⟨i4 + 1, by omega, rfl, by go_num, HA5, hown5, HB5, hO5, hI5, hb5⟩
                | ((repeat apply Exists.intro); exact ⟨⟨i4 + 1, by omega, rfl, by go_num, HA5, hown5, HB5, hO5, hI5, hb5⟩, rfl⟩)
        · obtain rfl : i4 = k := by omega
          obtain ⟨wC, rfl⟩ : ∃ x, x = wr := ⟨wr, rfl⟩
          obtain ⟨ia, ic, hia⟩ := own_len hownA
          rw [hia] at hci
          have HIA : Hid (s.in_ = .slice ia i4 ic) := hia
          clear hia
          go_wp2_with fail
          go_loopw [5, 15] (fun t5 t15 wr => ∃ i : Nat, i ≤ ki ∧ t5 = .bool true ∧ t15 = .int .i64 (i : Int) ∧ (i = 0 → wr = wC) ∧ But (fun b => b = Z ∧ 0 < i) wC wr) (fun _ t _ => ki - (intOf t).toNat)
          case atStart => exact ⟨0, by omega, rfl, rfl, fun _ => rfl, But.refl _ _⟩
          case round =>
            obtain ⟨i6, hi6, rfl, rfl, hw0, hbut⟩ := hrel
            by_cases hlt6 : i6 < ki
            · have hki : ki = 1 := by have := hIA.one; omega
              have hi0 : i6 = 0 := by omega
              subst hi0
              obtain rfl := (hw0 rfl).symm
              clear hw0
              obtain ⟨hZb, hBZ, hZ2, hzl, hnn, hzb, haz, hZs⟩ := hIA.blk hlt6
              have hints := hIA.ints
              have hwants := hIA.want
              rw [hki] at hints hwants
              obtain ⟨gi, ci, hvi, _, _⟩ := hints.form (by omega)
              obtain ⟨gw, cw, hvw, _, _⟩ := hwants.form (by omega)
              have hc2 : wC.cell? ⟨hb, 4, none⟩ = some (.slice (some ⟨gi, 0, none⟩) 1 ci) := by rw [HA.out.cell 2, ← hvi]; rfl
              have hc3 : wC.cell? ⟨hb, 5, none⟩ = some (.slice (some ⟨gw, 0, none⟩) 1 cw) := by rw [HA.out.cell 3, ← hvw]; rfl
              have hcg : wC.cell? ⟨gi, 0, none⟩ = some (.slice (some ⟨Z, 0, none⟩) (n + 2) (n + 2)) := own_cell hints (by rw [hvi]; rfl) rfl
              have hcw : wC.cell? ⟨gw, 0, none⟩ = some (.slice az n zc) := own_cell hwants (by rw [hvw]; rfl) rfl
              have hn0 : wC.cell? ⟨Z, n, none⟩ = some (.int .i64 (-7)) := by
                have := hZb.zs n (by simp [markedZ, hzl])
                rw [Nat.zero_add] at this
                rw [this]; simp [markedZ, zat, List.getD, ← hzl]
              have hn1 : wC.cell? ⟨Z, n + 1, none⟩ = some (.int .i64 (-7)) := by
                have := hZb.zs (n + 1) (by simp [markedZ, hzl])
                rw [Nat.zero_add] at this
                rw [this]; simp [markedZ, zat, List.getD, ← hzl]
              have HKI : Hid (ki = 1) := hki
              have HVI : Hid (s.ints = .slice (some ⟨gi, 0, none⟩) 1 ci) := hvi
              have HZL : Hid (l.length = n) := hzl
              have HZB : Hid (ZBlk wC Z (markedZ l)) := hZb
              clear hki hvi hvw hzl hZb hints hwants hci
              go_wp2_with fail
              go_loopw [5, 18] (fun t5 t18 wr => ∃ (j nq : Nat), j ≤ n ∧ t5 = .bool true ∧ t18 = .int .i64 (j : Int) ∧ wr = wC.drewN nq) (fun _ t _ => n - (intOf t).toNat)
              case atStart => exact ⟨0, 0, by omega, rfl, rfl, rfl⟩
              case round =>
                obtain ⟨j, nq, hj, rfl, rfl, rfl⟩ := hrel
                by_cases hlt7 : j < n
                · obtain rfl := haz (by omega)
                  have hx1 : wC.cell? ⟨Z, j, none⟩ = some (.int .i64 (zat l j)) := by
                    have := HZB.out.zs j (by simp [markedZ, HZL.out]; omega)
                    rw [Nat.zero_add] at this
                    have hjl : j < l.length := by rw [HZL.out]; exact hlt7
                    rw [this]; simp [markedZ, zat, List.getD, List.getElem?_append_left hjl]
                  have hx2 := hZs j (by rw [HZL.out]; exact hlt7)
                  have hj1 : (j : Int) < (n : Int) := by omega
                  have hj2 : (j : Int) < (n : Int) + 2 := by omega
                  have hss : (zat l j == zat l j) = true := by rw [beq_iff_eq]
                  go_wp2_with fail
                  go_quiet (fail)
                  go_wp2_with fail
                  refine ⟨?_, by simp [intOf]; omega⟩
                  first
                    | exact ⟨j + 1, _, by omega, rfl, by go_num, rfl⟩
                    | ((repeat apply Exists.intro); exact ⟨⟨j + 1, _, by omega, rfl, by go_num, rfl⟩, rfl⟩)
                · obtain rfl : j = n := by omega
                  go_wp2_with fail
                  have hXs : Hid (∃ cs : Array Value, cs.size = j + 2 ∧ (wC.drewN nq).heap[Z]? = some (.cells cs 3 (0, 0))) := ⟨_, by simp [encZ, markedZ, HZL.out], HZB.out⟩
                  go_loopw [19] (fun t19 wr => ∃ (q : Nat), q ≤ j + 2 ∧ t19 = .int .i64 (q : Int) ∧ Hid (∃ cs : Array Value, cs.size = j + 2 ∧ wr.heap[Z]? = some (.cells cs 3 (0, 0))) ∧ But (fun b => b = Z) wC wr) (fun t _ => j + 2 - (intOf t).toNat)
                  case atStart => exact ⟨0, by omega, rfl, hXs, ⟨rfl, rfl, rfl, Nat.le_refl _, fun _ _ _ => rfl⟩⟩
                  case round =>
                    obtain ⟨q, hq, rfl, HXq, hbq⟩ := hrel
                    by_cases hlt8 : q < j + 2
                    · obtain ⟨cs, hcs, hXq⟩ := HXq.out
                      have hcq : wr.cell? ⟨Z, q, none⟩ = some cs[q] := by rw [cell_of_row wr Z q _ _ _ hXq]; simp [hcs, hlt8]
                      have hfq := frozen_of_row wr Z q _ _ hXq
                      have hq2 : (q : Int) < (j : Int) + 2 := by omega
                      have HX6 : Hid (∃ cs : Array Value, cs.size = j + 2 ∧ (wr.setCell ⟨Z, q, none⟩ (.int .i64 3)).heap[Z]? = some (.cells cs 3 (0, 0))) := ⟨_, by simpa using hcs, heap_setCell_same _ _ _ _ _ _ hXq⟩
                      have hb6 := hbq.setCell (p := ⟨Z, q, none⟩) (.inl rfl) (.int .i64 3)
                      clear hXq
                      go_wp2_with fail
                      exact ⟨⟨q + 1, by omega, by go_num, HX6, hb6⟩, by simp [intOf]; omega⟩
                    · obtain rfl : q = j + 2 := by omega
                      have hb7 : But (fun b => b = Z ∧ 0 < 0 + 1) wC wr := hbq.wide (fun b _ e => ⟨e, by omega⟩)
                      go_wp2_with fail
                      refine ⟨?_, by rw [HKI.out]; simp [intOf]⟩
                      exact ⟨0 + 1, by rw [HKI.out]; exact Nat.le_refl _, rfl, by go_num, fun q => by omega, hb7⟩
            · obtain rfl : i6 = ki := by omega
              have hZt : 0 < i6 → B ≤ Z ∧ Z < B2 := fun q => ⟨(hIA.blk q).2.1, (hIA.blk q).2.2.1⟩
              have HAE : Hid (HAt wr hb s) := HA.out.kept (hbut.block hb HA.out.lt (fun q => by have := (hZt q.2).1; omega))
              have hbE : But (fun b => b = hb ∨ (B ≤ b ∧ b < B2)) w wr := (hbA.wide (fun b _ q => .inr q)).then hbut (fun b _ q => .inr (by rw [q.1]; exact hZt q.2))
              obtain ⟨za, zc2, hza⟩ := own_len hIA.ints
              have hcz : wr.cell? ⟨hb, 4, none⟩ = some (.slice za i6 zc2) := by rw [HAE.out.cell 2, ← hza]; rfl
              have hq0 : wr.cell? ⟨hb, 2, none⟩ = some s.in_ := HAE.out.cell 0
              have hq1 : wr.cell? ⟨hb, 3, none⟩ = some s.rows := HAE.out.cell 1
              have hq3 : wr.cell? ⟨hb, 5, none⟩ = some s.iwant := HAE.out.cell 3
              have hfz := HAE.out.frozen
              clear hza hbut hZt hw0 hbA
              go_wp2_with fail
              go_ret
              exact ⟨rfl, (((HAE.out.set0 _).set1 _).set2 _).set3 _, (((hbE.setCell (.inl (.inl rfl)) _).setCell (.inl (.inl rfl)) _).setCell (.inl (.inl rfl)) _).setCell (.inl (.inl rfl)) _⟩

end Go.Proofs.YtjabhnhejbhgjaaGreatDoor

/- The law's World: pairs of senders, and Hands, apart from one another. -/
namespace Go.Proofs.YtjabhnhejbhgjaaGreatDoor
open Go.RowKit

theorem SAt.lower {w : World} {B B' sb : Nat} {s : Snd} (h : SAt w B sb s) (hB : B' ≤ B) : SAt w B' sb s :=
  ⟨Nat.le_trans hB h.low, h.blk, own_base2 h.own hB, fun i hi => own_base2 (h.bytes i hi) hB, fun i hi => ⟨Nat.le_trans hB (h.debts i hi).1, (h.debts i hi).2⟩, h.apart⟩
theorem RAt.lower {w : World} {B B' rb : Nat} {r : Rsn} (h : RAt w B rb r) (hB : B' ≤ B) : RAt w B' rb r :=
  ⟨Nat.le_trans hB h.low, h.blk, own_base2 h.own hB, own_base2 h.ownB hB, fun i hi => own_base2 (h.bytes i hi) hB, fun i hi => ⟨Nat.le_trans hB (h.debts i hi).1, (h.debts i hi).2⟩, h.apart⟩

/-- A sender of the program and the document's. -/
structure Pr where
  s : Snd
  sb : Nat
  r : Rsn
  rb : Nat

def prVals (ps : List Pr) : List (Value × Value) := ps.map fun p => (.pointer (some ⟨p.sb, 0, none⟩), .pointer (some ⟨p.rb, 0, none⟩))
def pat (ps : List Pr) (i : Nat) : Pr := ps.getD i ⟨snd0 0 0 0, 0, rsn0 0 0 0, 0⟩
theorem pat_some {ps : List Pr} {i : Nat} (h : i < ps.length) : ps[i]? = some (pat ps i) := by simp [pat, List.getD, h]
theorem pat_set {ps : List Pr} {i : Nat} (hi : i < ps.length) (p : Pr) (j : Nat) : pat (ps.set i p) j = if i = j then p else pat ps j := by
  unfold pat
  rw [List.getD_eq_getElem?_getD, List.getD_eq_getElem?_getD, List.getElem?_set]
  split
  · rename_i e; subst e; simp
  · rfl
theorem pat_push (ps : List Pr) (p : Pr) (i : Nat) (h : i < ps.length) : pat (ps ++ [p]) i = pat ps i := by simp [pat, List.getD, List.getElem?_append_left h]
theorem pat_last (ps : List Pr) (p : Pr) : pat (ps ++ [p]) ps.length = p := by simp [pat, List.getD]
theorem prVals_set {ps : List Pr} {i : Nat} (hi : i < ps.length) {p : Pr} (h1 : p.sb = (pat ps i).sb) (h2 : p.rb = (pat ps i).rb) : prVals (ps.set i p) = prVals ps := by
  unfold prVals
  refine List.ext_getElem? (fun j => ?_)
  rw [List.getElem?_map, List.getElem?_map, List.getElem?_set]
  split
  · rename_i e; subst e
    rw [pat_some hi]
    simp [h1, h2]
  · rfl

/-- Whose the new blocks are. -/
def ownN (own : Nat → Nat) (n k : Nat) (b : Nat) : Nat := if b < n then own b else k
theorem ownN_old {own : Nat → Nat} {n k b : Nat} (h : b < n) : ownN own n k b = own b := if_pos h
theorem ownN_new {own : Nat → Nat} {n k b : Nat} (h : n ≤ b) : ownN own n k b = k := if_neg (by omega)

/-- The World at hb; own says whose a block is: 0 Hands', 1 no one's, 2i+2 the i-th sender's, 2i+3 the document's. -/
structure WJ (A : Nat → Addr) (B0 : Nat) (own : Nat → Nat) (w : World) (hb : Nat) (hs : HS) (es : List Ent) (ps : List Pr) : Prop where
  errs : Errs A B0 w
  typ : ErrType w
  typLow : 8 < hb
  low : B0 ≤ hb
  hands : HAt w hb hs
  outs : Outs w (hb + 1) hs.out hs.marks es
  sown : w.ownsRow (hb + 1) 89 2 hs.sv ps.length (flat2 (prVals ps))
  snd : ∀ i, i < ps.length → SAt w (hb + 1) (pat ps i).sb (pat ps i).s ∧ (pat ps i).s.Ok
  rsn : ∀ i, i < ps.length → RAt w (hb + 1) (pat ps i).rb (pat ps i).r
  oF : ∀ b, b < hb → own b = 1
  oH : own hb = 0
  oV : ∀ b, hs.sv.ownBlock = some b → own b = 0
  oO : ∀ b, hs.out.ownBlock = some b → own b = 0
  oM : ∀ b, hs.marks.ownBlock = some b → own b = 0
  oE : ∀ e ∈ es, ∀ b, e.v.ownBlock = some b → own b = 0
  oS : ∀ i b, i < ps.length → (pat ps i).s.foot (pat ps i).sb b → own b = 2 * i + 2
  oR : ∀ i b, i < ps.length → (pat ps i).r.foot (pat ps i).rb b → own b = 2 * i + 3

/-- What is no one's stays. -/
structure Fr (own : Nat → Nat) (w : World) (own' : Nat → Nat) (w' : World) : Prop where
  os : w'.os = w.os
  tape : w'.tape = w.tape
  output : w'.output = w.output
  size : w.heap.size ≤ w'.heap.size
  keep : ∀ b, b < w.heap.size → own b = 1 → own' b = 1 ∧ w'.heap[b]? = w.heap[b]?
theorem Fr.refl (own : Nat → Nat) (w : World) : Fr own w own w := ⟨rfl, rfl, rfl, Nat.le_refl _, fun _ _ h => ⟨h, rfl⟩⟩
theorem Fr.trans {o1 o2 o3 : Nat → Nat} {w1 w2 w3 : World} (h : Fr o1 w1 o2 w2) (k : Fr o2 w2 o3 w3) : Fr o1 w1 o3 w3 :=
  ⟨k.os.trans h.os, k.tape.trans h.tape, k.output.trans h.output, Nat.le_trans h.size k.size, fun b hb h1 => by
    obtain ⟨q1, q2⟩ := h.keep b hb h1
    obtain ⟨q3, q4⟩ := k.keep b (Nat.lt_of_lt_of_le hb h.size) q1
    exact ⟨q3, q4.trans q2⟩⟩
theorem Fr.but {own : Nat → Nat} {S : Nat → Prop} {w w' : World} {k : Nat} (hb : But S w w') (hS : ∀ b, b < w.heap.size → S b → own b ≠ 1) : Fr own w (ownN own w.heap.size k) w' :=
  ⟨hb.os, hb.tape, hb.output, hb.size, fun b hlt h1 => ⟨by rw [ownN_old hlt]; exact h1, hb.block b hlt (fun q => hS b hlt q h1)⟩⟩

section
variable {A : Nat → Addr} {B0 : Nat} {own : Nat → Nat} {w w' : World} {hb : Nat} {hs hs' : HS} {es es' : List Ent} {ps : List Pr}

theorem WJ.butLow (h : WJ A B0 own w hb hs es ps) {S : Nat → Prop} (hbu : But S w w') (hS : ∀ b, b < w.heap.size → S b → own b ≠ 1) : Below hb w w' :=
  hbu.toBelow (Nat.le_of_lt h.hands.lt) (fun k hk q => hS k (Nat.lt_trans hk h.hands.lt) q (h.oF k hk))

/-- A step that writes into what is k's alone keeps all else. -/
theorem WJ.errs' (h : WJ A B0 own w hb hs es ps) {S : Nat → Prop} (hbu : But S w w') (hS : ∀ b, b < w.heap.size → S b → own b ≠ 1) : Errs A B0 w' ∧ ErrType w' :=
  ⟨h.errs.below ((h.butLow hbu hS).mono h.low), h.typ.below (h.butLow hbu hS) h.typLow⟩

theorem WJ.ltS (h : WJ A B0 own w hb hs es ps) {i b : Nat} (hi : i < ps.length) (hf : (pat ps i).s.foot (pat ps i).sb b) : b < w.heap.size := ((h.snd i hi).1.foot_lt hf).2
theorem WJ.ltR (h : WJ A B0 own w hb hs es ps) {i b : Nat} (hi : i < ps.length) (hf : (pat ps i).r.foot (pat ps i).rb b) : b < w.heap.size := ((h.rsn i hi).foot_lt hf).2
theorem WJ.ltE (h : WJ A B0 own w hb hs es ps) {e : Ent} (he : e ∈ es) {b : Nat} (hg : e.v.ownBlock = some b) : b < w.heap.size := ((h.outs.each e he).1.lt hg).1

/-- A step of the program's i-th sender. -/
theorem WJ.stepS (h : WJ A B0 own w hb hs es ps) {i k : Nat} (hi : i < ps.length) {s' : Snd} (hbu : But ((pat ps i).s.foot (pat ps i).sb) w w') (hS : SAt w' (hb + 1) (pat ps i).sb s') (ok : s'.Ok) (hf : ∀ b, s'.foot (pat ps i).sb b → ownN own w.heap.size k b = 2 * i + 2) :
    WJ A B0 (ownN own w.heap.size k) w' hb hs es (ps.set i { pat ps i with s := s' }) := by
  have hne : ∀ b, b < w.heap.size → (pat ps i).s.foot (pat ps i).sb b → own b = 2 * i + 2 := fun b _ q => h.oS i b hi q
  have hn : ∀ b, own b ≠ 2 * i + 2 → ¬ (pat ps i).s.foot (pat ps i).sb b := fun b hb' q => hb' (h.oS i b hi q)
  obtain ⟨h1, h2⟩ := h.errs' hbu (fun b hb' q => by rw [hne b hb' q]; omega)
  have hl : (ps.set i { pat ps i with s := s' }).length = ps.length := by simp
  have hhl := h.hands.lt
  refine ⟨h1, h2, h.typLow, h.low, h.hands.kept (hbu.block hb hhl (hn hb (by rw [h.oH]; omega))),
    h.outs.but hbu (fun g hg => hn g (by rw [h.oO g hg]; omega)) (fun g hg => hn g (by rw [h.oM g hg]; omega)) (fun e he g hg => hn g (by rw [h.oE e he g hg]; omega)), ?_, fun j hj => ?_, fun j hj => ?_,
    fun b hb' => by rw [ownN_old (by omega)]; exact h.oF b hb', by rw [ownN_old hhl]; exact h.oH, fun b hg => by rw [ownN_old (h.sown.lt b hg).2]; exact h.oV b hg, fun b hg => by rw [ownN_old (h.outs.own.lt b hg).2]; exact h.oO b hg, fun b hg => by rw [ownN_old (h.outs.marks.lt b hg).2]; exact h.oM b hg, fun e he b hg => by rw [ownN_old (h.ltE he hg)]; exact h.oE e he b hg, fun j b hj q => ?_, fun j b hj q => ?_⟩
  · rw [hl, prVals_set (p := { pat ps i with s := s' }) hi rfl rfl]
    exact hbu.own h.sown (fun g hg => hn g (by rw [h.oV g hg]; omega))
  · rw [hl] at hj
    rw [pat_set hi]
    split
    · rename_i e; subst e; exact ⟨hS, ok⟩
    · rename_i e
      exact ⟨(h.snd j hj).1.kept (fun b q => hbu.block b (h.ltS hj q) (hn b (by rw [h.oS j b hj q]; omega))), (h.snd j hj).2⟩
  · rw [hl] at hj
    have hk := (h.rsn j hj).kept (fun b q => hbu.block b (h.ltR hj q) (hn b (by rw [h.oR j b hj q]; omega)))
    rw [pat_set hi]
    split
    · rename_i e; subst e; exact hk
    · exact hk
  · rw [hl] at hj
    rw [pat_set hi] at q
    split at q
    · rename_i e; subst e; exact hf b q
    · rw [ownN_old (h.ltS hj q)]; exact h.oS j b hj q
  · rw [hl] at hj
    have q' : (pat ps j).r.foot (pat ps j).rb b := by
      rw [pat_set hi] at q
      split at q
      · rename_i e; subst e; exact q
      · exact q
    rw [ownN_old (h.ltR hj q')]; exact h.oR j b hj q'

/-- A step of the document's. -/
theorem WJ.stepR (h : WJ A B0 own w hb hs es ps) {i k : Nat} (hi : i < ps.length) {r' : Rsn} (hbu : But ((pat ps i).r.foot (pat ps i).rb) w w') (hS : RAt w' (hb + 1) (pat ps i).rb r') (hf : ∀ b, r'.foot (pat ps i).rb b → ownN own w.heap.size k b = 2 * i + 3) :
    WJ A B0 (ownN own w.heap.size k) w' hb hs es (ps.set i { pat ps i with r := r' }) := by
  have hne : ∀ b, b < w.heap.size → (pat ps i).r.foot (pat ps i).rb b → own b = 2 * i + 3 := fun b _ q => h.oR i b hi q
  have hn : ∀ b, own b ≠ 2 * i + 3 → ¬ (pat ps i).r.foot (pat ps i).rb b := fun b hb' q => hb' (h.oR i b hi q)
  obtain ⟨h1, h2⟩ := h.errs' hbu (fun b hb' q => by rw [hne b hb' q]; omega)
  have hl : (ps.set i { pat ps i with r := r' }).length = ps.length := by simp
  have hhl := h.hands.lt
  refine ⟨h1, h2, h.typLow, h.low, h.hands.kept (hbu.block hb hhl (hn hb (by rw [h.oH]; omega))),
    h.outs.but hbu (fun g hg => hn g (by rw [h.oO g hg]; omega)) (fun g hg => hn g (by rw [h.oM g hg]; omega)) (fun e he g hg => hn g (by rw [h.oE e he g hg]; omega)), ?_, fun j hj => ?_, fun j hj => ?_,
    fun b hb' => by rw [ownN_old (by omega)]; exact h.oF b hb', by rw [ownN_old hhl]; exact h.oH, fun b hg => by rw [ownN_old (h.sown.lt b hg).2]; exact h.oV b hg, fun b hg => by rw [ownN_old (h.outs.own.lt b hg).2]; exact h.oO b hg, fun b hg => by rw [ownN_old (h.outs.marks.lt b hg).2]; exact h.oM b hg, fun e he b hg => by rw [ownN_old (h.ltE he hg)]; exact h.oE e he b hg, fun j b hj q => ?_, fun j b hj q => ?_⟩
  · rw [hl, prVals_set (p := { pat ps i with r := r' }) hi rfl rfl]
    exact hbu.own h.sown (fun g hg => hn g (by rw [h.oV g hg]; omega))
  · rw [hl] at hj
    have hk := (h.snd j hj).1.kept (fun b q => hbu.block b (h.ltS hj q) (hn b (by rw [h.oS j b hj q]; omega)))
    have hk2 := (h.snd j hj).2
    rw [pat_set hi]
    split
    · rename_i e; subst e; exact ⟨hk, hk2⟩
    · exact ⟨hk, hk2⟩
  · rw [hl] at hj
    rw [pat_set hi]
    split
    · rename_i e; subst e; exact hS
    · rename_i e
      exact (h.rsn j hj).kept (fun b q => hbu.block b (h.ltR hj q) (hn b (by rw [h.oR j b hj q]; omega)))
  · rw [hl] at hj
    have q' : (pat ps j).s.foot (pat ps j).sb b := by
      rw [pat_set hi] at q
      split at q
      · rename_i e; subst e; exact q
      · exact q
    rw [ownN_old (h.ltS hj q')]; exact h.oS j b hj q'
  · rw [hl] at hj
    rw [pat_set hi] at q
    split at q
    · rename_i e; subst e; exact hf b q
    · rw [ownN_old (h.ltR hj q)]; exact h.oR j b hj q

/-- A step of Hands. -/
theorem WJ.stepH (h : WJ A B0 own w hb hs es ps) {S : Nat → Prop} {k : Nat} (hbu : But S w w') (hS : ∀ b, b < w.heap.size → S b → own b = 0) (hH : HAt w' hb hs') (hO : Outs w' (hb + 1) hs'.out hs'.marks es') (hV : hs'.sv = hs.sv) (hVn : ∀ b, hs.sv.ownBlock = some b → ¬ S b)
    (hoO : ∀ b, hs'.out.ownBlock = some b → ownN own w.heap.size k b = 0) (hoM : ∀ b, hs'.marks.ownBlock = some b → ownN own w.heap.size k b = 0) (hoE : ∀ e ∈ es', ∀ b, e.v.ownBlock = some b → ownN own w.heap.size k b = 0) :
    WJ A B0 (ownN own w.heap.size k) w' hb hs' es' ps := by
  have hn : ∀ b, b < w.heap.size → own b ≠ 0 → ¬ S b := fun b hb' q p => q (hS b hb' p)
  obtain ⟨h1, h2⟩ := h.errs' hbu (fun b hb' q => by rw [hS b hb' q]; omega)
  have hhl := h.hands.lt
  refine ⟨h1, h2, h.typLow, h.low, hH, hO, ?_, fun j hj => ⟨(h.snd j hj).1.kept (fun b q => hbu.block b (h.ltS hj q) (hn b (h.ltS hj q) (by rw [h.oS j b hj q]; omega))), (h.snd j hj).2⟩,
    fun j hj => (h.rsn j hj).kept (fun b q => hbu.block b (h.ltR hj q) (hn b (h.ltR hj q) (by rw [h.oR j b hj q]; omega))),
    fun b hb' => by rw [ownN_old (by omega)]; exact h.oF b hb', by rw [ownN_old hhl]; exact h.oH, fun b hg => ?_, hoO, hoM, hoE, fun j b hj q => by rw [ownN_old (h.ltS hj q)]; exact h.oS j b hj q, fun j b hj q => by rw [ownN_old (h.ltR hj q)]; exact h.oR j b hj q⟩
  · rw [hV]
    exact hbu.own h.sown hVn
  · rw [hV] at hg
    rw [ownN_old (h.sown.lt b hg).2]; exact h.oV b hg

theorem WJ.above (h : WJ A B0 own w hb hs es ps) (k : Nat) (hbe : Below w.heap.size w w') : WJ A B0 (ownN own w.heap.size k) w' hb hs es ps := by
  have hbu : But (fun _ => False) w w' := Below.but hbe _ (fun i hi q => absurd hi q)
  have hhl := h.hands.lt
  exact h.stepH hbu (fun b _ q => q.elim) (h.hands.kept (hbe.block hb hhl)) (h.outs.but hbu (fun _ _ q => q) (fun _ _ q => q) (fun _ _ _ _ q => q)) rfl (fun _ _ q => q) (fun b hg => by rw [ownN_old (h.outs.own.lt b hg).2]; exact h.oO b hg) (fun b hg => by rw [ownN_old (h.outs.marks.lt b hg).2]; exact h.oM b hg) (fun e he b hg => by rw [ownN_old (h.ltE he hg)]; exact h.oE e he b hg)
theorem Fr.above {own : Nat → Nat} {w w' : World} (k : Nat) (hbe : Below w.heap.size w w') : Fr own w (ownN own w.heap.size k) w' :=
  ⟨hbe.os, hbe.tape, hbe.output, hbe.size, fun b hlt h1 => ⟨by rw [ownN_old hlt]; exact h1, hbe.block b hlt⟩⟩

/-- keep. -/
theorem WJ.stepK (h : WJ A B0 own w hb hs es ps) {N : Nat} {v vo vm : Value} (hK : KeptAs w w' hb (hb + 1) N hs es es' v vo vm) (hv : ∀ b, v.ownBlock = some b → own b = 0) (hvs : ∀ b, v.ownBlock = some b → hs.sv.ownBlock ≠ some b) :
    WJ A B0 (ownN own w.heap.size 0) w' hb { hs with n := (N : Int) + 1, out := vo, marks := vm } (es ++ es') ps := by
  have h0 : ∀ b, own b = 0 ∨ w.heap.size ≤ b → ownN own w.heap.size 0 b = 0 := fun b q => by
    by_cases e : b < w.heap.size
    · rw [ownN_old e]; rcases q with q | q; exact q; omega
    · exact ownN_new (by omega)
  refine h.stepH hK.but (fun b _ q => ?_) hK.hands hK.outs rfl (fun b hg q => ?_) (fun b hg => h0 b ?_) (fun b hg => h0 b ?_) (fun e he b hg => h0 b ?_)
  · rcases q with rfl | q | q | q
    · exact h.oH
    · exact h.oO b q
    · exact h.oM b q
    · exact hv b q
  · rcases q with q | q | q | q
    · exact own_ne h.sown hg h.hands (by decide) q
    · exact own2_ne h.sown h.outs.own (by decide) b hg q
    · exact own2_ne h.sown h.outs.marks (by decide) b hg q
    · exact hvs b q hg
  · rcases hK.outAt b hg with q | q
    · exact .inl (h.oO b q)
    · exact .inr q
  · rcases hK.marksAt b hg with q | q
    · exact .inl (h.oM b q)
    · exact .inr q
  · rcases List.mem_append.1 he with he | he
    · exact .inl (h.oE e he b hg)
    · rcases hK.newAt e he b hg with q | q
      · exact .inl (hv b q)
      · exact .inr q
theorem Fr.stepK (h : WJ A B0 own w hb hs es ps) {N : Nat} {v vo vm : Value} (hK : KeptAs w w' hb (hb + 1) N hs es es' v vo vm) (hv : ∀ b, v.ownBlock = some b → own b = 0) : Fr own w (ownN own w.heap.size 0) w' :=
  Fr.but hK.but (fun b _ q => by
    rcases q with rfl | q | q | q
    · rw [h.oH]; omega
    · rw [h.oO b q]; omega
    · rw [h.oM b q]; omega
    · rw [hv b q]; omega)

/-- One pair more. -/
theorem WJ.push (h : WJ A B0 own w hb hs es ps) {p : Pr} {sv : Value} {S : Nat → Prop} (hbu : But S w w') (hS : ∀ b, b < w.heap.size → S b → b = hb ∨ hs.sv.ownBlock = some b) (hH : HAt w' hb { hs with sv := sv })
    (hV : w'.ownsRow (hb + 1) 89 2 sv (ps.length + 1) (flat2 (prVals ps) ++ [.pointer (some ⟨p.sb, 0, none⟩), .pointer (some ⟨p.rb, 0, none⟩)])) (hVn : ∀ b, sv.ownBlock = some b → hs.sv.ownBlock = some b ∨ w.heap.size ≤ b)
    (hs1 : SAt w (hb + 1) p.sb p.s) (ok : p.s.Ok) (hr1 : RAt w (hb + 1) p.rb p.r) (hos : ∀ b, p.s.foot p.sb b → own b = 2 * ps.length + 2) (hor : ∀ b, p.r.foot p.rb b → own b = 2 * ps.length + 3) :
    WJ A B0 (ownN own w.heap.size 0) w' hb { hs with sv := sv } es (ps ++ [p]) := by
  have h00 : ∀ b, b < w.heap.size → S b → own b = 0 := fun b hb' q => by
    rcases hS b hb' q with rfl | q
    · exact h.oH
    · exact h.oV b q
  have hn : ∀ b, b < w.heap.size → own b ≠ 0 → ¬ S b := fun b hb' q p => q (h00 b hb' p)
  obtain ⟨h1, h2⟩ := h.errs' hbu (fun b hb' q => by rw [h00 b hb' q]; omega)
  have hhl := h.hands.lt
  have hl : (ps ++ [p]).length = ps.length + 1 := by simp
  have hnT : ∀ {B n sz : Nat} {e : TypeId} {v : Value} {xs : List Value}, w.ownsRow B e sz v n xs → e ≠ 81 → e ≠ 89 → ∀ g, v.ownBlock = some g → ¬ S g := fun hown e1 e2 g hg q => by
    rcases hS g (hown.lt g hg).2 q with q | q
    · exact own_ne hown hg h.hands e1 q
    · exact own2_ne hown h.sown e2 g hg q
  have hnE : ∀ e ∈ es, ∀ g, e.v.ownBlock = some g → ¬ S g := fun e he g hg q => by
    rcases hS g (h.ltE he hg) q with q | q
    · exact (h.outs.each e he).1.ne_hands h.hands g hg q
    · exact (h.outs.each e he).1.ne_own h.sown (by decide) g hg q
  refine ⟨h1, h2, h.typLow, h.low, hH, h.outs.but hbu (hnT h.outs.own (by decide) (by decide)) (hnT h.outs.marks (by decide) (by decide)) hnE, ?_, fun j hj => ?_, fun j hj => ?_,
    fun b hb' => by rw [ownN_old (by omega)]; exact h.oF b hb', by rw [ownN_old hhl]; exact h.oH, fun b hg => ?_, fun b hg => by rw [ownN_old (h.outs.own.lt b hg).2]; exact h.oO b hg, fun b hg => by rw [ownN_old (h.outs.marks.lt b hg).2]; exact h.oM b hg, fun e he b hg => by rw [ownN_old (h.ltE he hg)]; exact h.oE e he b hg, fun j b hj q => ?_, fun j b hj q => ?_⟩
  · rw [hl]
    have : prVals (ps ++ [p]) = prVals ps ++ [(.pointer (some ⟨p.sb, 0, none⟩), .pointer (some ⟨p.rb, 0, none⟩))] := by simp [prVals]
    rw [this, flat2_append]
    exact hV
  · by_cases e : j < ps.length
    · rw [pat_push ps p j e]
      exact ⟨(h.snd j e).1.kept (fun b q => hbu.block b (h.ltS e q) (hn b (h.ltS e q) (by rw [h.oS j b e q]; omega))), (h.snd j e).2⟩
    · obtain rfl : j = ps.length := by omega
      rw [pat_last]
      exact ⟨hs1.kept (fun b q => hbu.block b (hs1.foot_lt q).2 (hn b (hs1.foot_lt q).2 (by rw [hos b q]; omega))), ok⟩
  · by_cases e : j < ps.length
    · rw [pat_push ps p j e]
      exact (h.rsn j e).kept (fun b q => hbu.block b (h.ltR e q) (hn b (h.ltR e q) (by rw [h.oR j b e q]; omega)))
    · obtain rfl : j = ps.length := by omega
      rw [pat_last]
      exact hr1.kept (fun b q => hbu.block b (hr1.foot_lt q).2 (hn b (hr1.foot_lt q).2 (by rw [hor b q]; omega)))
  · rcases hVn b hg with q | q
    · rw [ownN_old (h.sown.lt b q).2]; exact h.oV b q
    · exact ownN_new q
  · by_cases e : j < ps.length
    · rw [pat_push ps p j e] at q
      rw [ownN_old (h.ltS e q)]; exact h.oS j b e q
    · obtain rfl : j = ps.length := by omega
      rw [pat_last] at q
      rw [ownN_old (hs1.foot_lt q).2]; exact hos b q
  · by_cases e : j < ps.length
    · rw [pat_push ps p j e] at q
      rw [ownN_old (h.ltR e q)]; exact h.oR j b e q
    · obtain rfl : j = ps.length := by omega
      rw [pat_last] at q
      rw [ownN_old (hr1.foot_lt q).2]; exact hor b q
end

/-- What is nil between two calls. -/
structure HS.Nil (hs : HS) : Prop where
  rv0 : hs.rv = .slice none 0 0
  in0 : hs.in_ = .slice none 0 0
  rows0 : hs.rows = .slice none 0 0
  ints0 : hs.ints = .slice none 0 0
  want0 : hs.iwant = .slice none 0 0
  outer0 : hs.outer = .slice none 0 0
  omarks0 : hs.omarks = .slice none 0 0
  lacks0 : hs.lacks = .slice none 0 0
  objs0 : hs.objs = .slice none 0 0

/-- The World between two calls, behind at most t steps. -/
structure WI (A : Nat → Addr) (B0 : Nat) (own : Nat → Nat) (w : World) (hb t : Nat) (hs : HS) (es : List Ent) (ps : List Pr) : Prop extends WJ A B0 own w hb hs es ps where
  sim : ∀ i, i < ps.length → Sim (pat ps i).s (pat ps i).r t
  n : ∃ N : Nat, hs.n = (N : Int) ∧ N ≤ t
  fewE : es.length ≤ 4 * t
  fewP : ps.length ≤ t
  nil : hs.Nil

theorem WI.more {A : Nat → Addr} {B0 : Nat} {own : Nat → Nat} {w : World} {hb t t' : Nat} {hs : HS} {es : List Ent} {ps : List Pr} (h : WI A B0 own w hb t hs es ps) (ht : t ≤ t') : WI A B0 own w hb t' hs es ps := by
  obtain ⟨N, h1, h2⟩ := h.n
  have := h.fewE
  have := h.fewP
  exact ⟨h.toWJ, fun i hi => (h.sim i hi).more ht, ⟨N, h1, by omega⟩, by omega, by omega, h.nil⟩
theorem WI.above {A : Nat → Addr} {B0 : Nat} {own : Nat → Nat} {w w' : World} {hb t : Nat} {hs : HS} {es : List Ent} {ps : List Pr} (h : WI A B0 own w hb t hs es ps) (k : Nat) (hbe : Below w.heap.size w w') : WI A B0 (ownN own w.heap.size k) w' hb t hs es ps :=
  ⟨h.toWJ.above k hbe, h.sim, h.n, h.fewE, h.fewP, h.nil⟩

theorem pat_set2 {ps : List Pr} {i : Nat} (hi : i < ps.length) (s' : Snd) (r' : Rsn) (j : Nat) :
    pat ((ps.set i { pat ps i with s := s' }).set i { pat (ps.set i { pat ps i with s := s' }) i with r := r' }) j = if i = j then { pat ps i with s := s', r := r' } else pat ps j := by
  rw [pat_set (by simpa using hi), pat_set hi, if_pos rfl]
  split
  · rfl
  · rename_i e; rw [pat_set hi, if_neg e]

/-- A step of the i-th pair is done. -/
theorem WI.pair {A : Nat → Addr} {B0 : Nat} {own own' : Nat → Nat} {w w' : World} {hb t i : Nat} {hs hs' : HS} {es es' : List Ent} {ps : List Pr} (h : WI A B0 own w hb t hs es ps) (hi : i < ps.length) {s' : Snd} {r' : Rsn}
    (hJ : WJ A B0 own' w' hb hs' es' ((ps.set i { pat ps i with s := s' }).set i { pat (ps.set i { pat ps i with s := s' }) i with r := r' })) (hsim : Sim s' r' (t + 1)) (hn : ∃ N : Nat, hs'.n = (N : Int) ∧ N ≤ t + 1) (hes : es'.length ≤ 4 * (t + 1)) (hnil : hs'.Nil) :
    WI A B0 own' w' hb (t + 1) hs' es' ((ps.set i { pat ps i with s := s' }).set i { pat (ps.set i { pat ps i with s := s' }) i with r := r' }) := by
  refine ⟨hJ, fun j hj => ?_, hn, hes, by have := h.fewP; simp; omega, hnil⟩
  rw [pat_set2 hi]
  split
  · exact hsim
  · exact (h.sim j (by simpa using hj)).more (by omega)

/-- The World behind a step. -/
def WStep (A : Nat → Addr) (B0 : Nat) (own : Nat → Nat) (w : World) (hb t n : Nat) (w' : World) : Prop := ∃ own' hs' es' ps', WI A B0 own' w' hb t hs' es' ps' ∧ ps'.length = n ∧ Fr own w own' w'

/-- Bytes of a step: no one's. -/
structure OpB (own : Nat → Nat) (w : World) (a : Option Addr) (b o n c : Nat) (l : List Gf.F) : Prop where
  len : l.length = n
  cap : n ≤ c
  cap2 : c ≤ 9223372036854775807
  few : n ≤ 140737488351232
  adr : 0 < n → a = some ⟨b, o, none⟩
  bs : Bs w b o l
  free : 0 < n → b < w.heap.size ∧ own b = 1

theorem OpB.fr {own own' : Nat → Nat} {w w' : World} {a : Option Addr} {b o n c : Nat} {l : List Gf.F} (h : OpB own w a b o n c l) (hf : Fr own w own' w') : OpB own' w' a b o n c l := by
  refine ⟨h.len, h.cap, h.cap2, h.few, h.adr, fun i hi => ?_, fun h0 => ?_⟩
  · have h0 : 0 < n := by have := h.len; omega
    obtain ⟨h1, h2⟩ := h.free h0
    have hk := (hf.keep b h1 h2).2
    have hc : w'.cell? ⟨b, o + i, none⟩ = w.cell? ⟨b, o + i, none⟩ := World.cell?_of_block (w := w) (a := ⟨b, o + i, none⟩) hk
    rw [hc]
    exact h.bs i hi
  · obtain ⟨h1, h2⟩ := h.free h0
    exact ⟨Nat.lt_of_lt_of_le h1 hf.size, (hf.keep b h1 h2).1⟩

end Go.Proofs.YtjabhnhejbhgjaaGreatDoor

/- The document's sender: Enqueue. -/
namespace Go.Proofs.YtjabhnhejbhgjaaGreatDoor
open Go.RowKit

/-- One object more. -/
def Rsn.enq (r : Rsn) (o : Ob) (va vb : Value) : Rsn := { r with os := r.os ++ [o], va := va, vb := vb }

theorem push_key {os : List Ob} (o : Ob) : ∀ i, i < os.length + 1 → (i < os.length ∧ oat (os ++ [o]) i = oat os i) ∨ (i = os.length ∧ oat (os ++ [o]) i = o) := fun i hi => by
  by_cases e : i < os.length
  · exact .inl ⟨e, oat_push _ _ _ e⟩
  · have : i = os.length := by omega
    subst this
    exact .inr ⟨rfl, oat_last _ _⟩

theorem RAt.enq {w w' : World} {B rb : Nat} {r : Rsn} (h : RAt w B rb r) {o : Ob} {va vb : Value} (hb : But (fun b => b = rb ∨ r.va.ownBlock = some b ∨ r.vb.ownBlock = some b) w w') (hB : B ≤ w.heap.size)
    (hk : w'.heap[rb]? = some (.cells #[.int .i64 (r.K : Int), .int .i64 (r.N : Int), .int .i64 (r.S : Int), va, vb, .int .i64 (r.sent : Int)] 191 (0, 0)))
    (ho : w'.ownsRow B 33 1 va (r.os.length + 1) (r.os.map Ob.bv ++ [o.bv]))
    (hp : w'.ownsRow B 193 1 vb (r.os.length + 1) (r.os.map Ob.dv ++ [o.dv]))
    (hy : w'.ownsRow B 5 1 o.bv o.l.length (encL o.l)) (hd : w'.heap[o.dg]? = some (.cells (flat2 (debtVals o.ds)).toArray 196 (0, 0))) (hdg : w.heap.size ≤ o.dg) : RAt w' B rb (r.enq o va vb) := by
  have hlen : (r.enq o va vb).os.length = r.os.length + 1 := by simp [Rsn.enq]
  have key := push_key (os := r.os) o
  refine ⟨h.low, hk, ?_, ?_, fun i hi => ?_, fun i hi => ?_, fun i j hi hj e => ?_⟩
  · rw [hlen]
    have : (r.enq o va vb).os.map Ob.bv = r.os.map Ob.bv ++ [o.bv] := by simp [Rsn.enq]
    rw [this]
    exact ho
  · rw [hlen]
    have : (r.enq o va vb).os.map Ob.dv = r.os.map Ob.dv ++ [o.dv] := by simp [Rsn.enq]
    rw [this]
    exact hp
  · rw [hlen] at hi
    show w'.ownsRow B _ 1 (oat (r.os ++ [o]) i).bv (oat (r.os ++ [o]) i).l.length (encL (oat (r.os ++ [o]) i).l)
    rcases key i hi with ⟨h1, h2⟩ | ⟨_, h2⟩ <;> rw [h2]
    · refine hb.own (h.bytes i h1) (fun g hg q => ?_)
      rcases q with q | q | q
      · exact own_ne (h.bytes i h1) hg h.blk (by decide) q
      · exact own2_ne (h.bytes i h1) h.own (by decide) g hg q
      · exact own2_ne (h.bytes i h1) h.ownB (by decide) g hg q
    · exact hy
  · rw [hlen] at hi
    show B ≤ (oat (r.os ++ [o]) i).dg ∧ w'.heap[(oat (r.os ++ [o]) i).dg]? = some (.cells (flat2 (debtVals (oat (r.os ++ [o]) i).ds)).toArray _ (0, 0))
    rcases key i hi with ⟨h1, h2⟩ | ⟨_, h2⟩ <;> rw [h2]
    · refine ⟨(h.debts i h1).1, (hb.block _ (lt_of_block (h.debts i h1).2) (fun q => ?_)).trans (h.debts i h1).2⟩
      rcases q with q | q | q
      · have hb2 := h.blk
        rw [← q, (h.debts i h1).2] at hb2
        simp only [Option.some.injEq, Obj.cells.injEq] at hb2
        exact absurd hb2.2.1 (by decide)
      · exact own_ne h.own q (h.debts i h1).2 (by decide) rfl
      · exact own_ne h.ownB q (h.debts i h1).2 (by decide) rfl
    · exact ⟨by omega, hd⟩
  · rw [hlen] at hi hj
    have e' : (oat (r.os ++ [o]) i).dg = (oat (r.os ++ [o]) j).dg := e
    rcases key i hi with ⟨h1, h2⟩ | ⟨h1, h2⟩ <;> rcases key j hj with ⟨h3, h4⟩ | ⟨h3, h4⟩ <;> rw [h2, h4] at e'
    · exact h.apart i j h1 h3 e'
    · have := lt_of_block (h.debts i h1).2
      omega
    · have := lt_of_block (h.debts j h3).2
      omega
    · omega

theorem Sim.enq {s : Snd} {r : Rsn} {c : Nat} (h : Sim s r c) (ok : s.Ok) {o o' : Ob} {vo va vb : Value} (hl : o'.l = o.l) (hd : o'.ds = debts0 (partsN (symN s.S o.l.length) s.K)) (hd2 : o.ds = debts0 (partsN (symN s.S o.l.length) s.K)) : Sim (s.enq o vo) (r.enq o' va vb) c := by
  have hlen : (s.enq o vo).os.length = s.os.length + 1 := by simp [Snd.enq]
  have hlen2 : (r.enq o' va vb).os.length = r.os.length + 1 := by simp [Rsn.enq]
  have kT : ∀ i, i < s.os.length → (s.enq o vo).T i = s.T i := fun i hi => by unfold Snd.T; rw [show oat (s.enq o vo).os i = oat s.os i from oat_push _ _ _ hi]; rfl
  have kTl : (s.enq o vo).T s.os.length = symN s.S o.l.length := by unfold Snd.T; rw [show oat (s.enq o vo).os s.os.length = o from oat_last _ _]; rfl
  have kQ : ∀ i, i < s.os.length → (s.enq o vo).Q i = s.Q i := fun i hi => by unfold Snd.Q; rw [kT i hi]; rfl
  have kR : ∀ i q, i < s.os.length → (s.enq o vo).R i q = s.R i q := fun i q hi => by unfold Snd.R; rw [kT i hi]; rfl
  have kr : ∀ i, i < s.os.length → oat (r.enq o' va vb).os i = oat r.os i := fun i hi => oat_push _ _ _ (by rw [h.len]; exact hi)
  have krl : oat (r.enq o' va vb).os s.os.length = o' := by rw [← h.len]; exact oat_last _ _
  have ks : ∀ i, i < s.os.length → oat (s.enq o vo).os i = oat s.os i := fun i hi => oat_push _ _ _ hi
  have ksl : oat (s.enq o vo).os s.os.length = o := oat_last _ _
  refine ⟨h.K, h.N, h.S, by rw [hlen, hlen2, h.len], fun i hi => ?_, fun i hi => ?_, fun i q hi hq => ?_, ?_⟩
  · rw [hlen] at hi
    by_cases e : i < s.os.length
    · rw [kr i e, ks i e]; exact h.l i e
    · obtain rfl : i = s.os.length := by omega
      rw [krl, ksl, hl]
  · rw [hlen] at hi
    by_cases e : i < s.os.length
    · rw [kr i e, kQ i e]; exact h.dl i e
    · obtain rfl : i = s.os.length := by omega
      rw [krl, hd]
      unfold Snd.Q
      rw [kTl]
      simp [debts0]; rfl
  · rw [hlen] at hi
    by_cases e : i < s.os.length
    · rw [kQ i e] at hq
      rw [kr i e, ks i e, kR i q e]; exact h.d i q e hq
    · obtain rfl : i = s.os.length := by omega
      rw [krl, ksl, hd, hd2, debts0_at]
      exact ⟨rfl, Nat.zero_mod _, Nat.zero_le _⟩
  · show r.sent = (s.enq o vo).sumT s.no + s.ns
    rw [Snd.sumT_congr s.no (fun i hi => kT i (by have := ok.next; omega))]
    exact h.sent

/-- What the document's Enqueue gives. -/
def REnqGives (r : Rsn) (l : List Gf.F) (B rb : Nat) (w : World) (e : Ending) (w' : World) : Prop :=
  (255 < l.length ∧ e = .returned (.tuple #[.int .i64 0, .agg #[.int .i64 2, .int .i64 (-1)]]) ∧ Below w.heap.size w w') ∨
  (l.length ≤ 255 ∧ r.os.length = 16 ∧ e = .returned (.tuple #[.int .i64 0, .agg #[.int .i64 3, .int .i64 (-1)]]) ∧ Below w.heap.size w w') ∨
  (l.length ≤ 255 ∧ r.os.length < 16 ∧ e = .returned (.tuple #[.int .i64 (r.os.length : Int), .agg #[.int .i64 0, .int .i64 (-1)]]) ∧ ∃ o va vb, o.l = l ∧ o.ds = debts0 (partsN (symN r.S l.length) r.K) ∧ RAt w' B rb (r.enq o va vb) ∧ But (r.foot rb) w w' ∧ ∀ b, (r.enq o va vb).foot rb b → r.foot rb b ∨ w.heap.size ≤ b)

theorem Tryz.info_rblock : (Tryz.prog.info? 196).map (fun i => (i.zero, i.size, i.bytes)) = some (some (.agg #[.int .i64 0, .int .i64 0]), 2, 16) := by kernel_rfl
theorem make_rblocks (n : Nat) (hn : n ≤ 1000) (W : World) : (Instr.makeSlice 193 (.int .i64 (n : Int)) (.int .i64 (n : Int))).run Tryz.prog W = .ok (.slice (some ⟨W.heap.size, 0, none⟩) n n) (W.alloc (.cells (flat2 (debtVals (debts0 n))).toArray 196)) := by
  have h := Tryz.info_rblock
  cases hi : Tryz.prog.info? 196 with
  | none => rw [hi] at h; simp at h
  | some i =>
    rw [hi] at h
    simp at h
    obtain ⟨h1, h2, h3⟩ := h
    have := run_make (P := Tryz.prog) W 193 196 i (.agg #[.int .i64 0, .int .i64 0]) Tryz.underlying193 hi h1 .i64 .i64 (n : Int) (n : Int) (by omega) (by omega) (by rw [h3]; omega) (by omega)
    rw [h2] at this
    simp only [Int.toNat_natCast] at this
    rw [this]
    show Result.ok _ (W.alloc (.cells (madeCells #[.int .i64 0, .int .i64 0] (n * 2)) _)) = _
    rw [made2]
theorem Tryz.info_rblocks : (Tryz.prog.info? 193).map (fun i => (i.zero, i.size, i.bytes)) = some (some (.slice none 0 0), 1, 24) := by kernel_rfl
theorem Tryz.rblocks_parts : ∃ i, Tryz.prog.info? 193 = some i ∧ i.zero = some (.slice none 0 0) ∧ i.size = 1 ∧ i.bytes = 24 := by
  obtain ⟨i, hi, h⟩ := Option.map_eq_some_iff.1 Tryz.info_rblocks
  simp only [Prod.mk.injEq] at h
  exact ⟨i, hi, h.1, h.2.1, h.2.2⟩
theorem Tryz.app0nil (a : Option Addr) (c : Nat) (w : World) : (Builtin.append_ #[33, 33] 33 #[.slice none 0 0, .slice a 0 c]).run Tryz.prog w = .ok (.slice none 0 0) w := by
  cases a
  · kernel_rfl
  · kernel_rfl

/-- No block of the sender's is an error's. -/
theorem RAt.ne {w : World} {B rb E : Nat} {r : Rsn} {cs : Array Value} (h : RAt w B rb r) (hE : w.heap[E]? = some (.cells cs 139 (0, 0))) : ∀ b, r.foot rb b → ¬ b = E := by
  intro b hb q
  subst q
  rcases hb with q | q | q | ⟨i, hi, q | q⟩
  · have hk := h.blk
    rw [← q, hE] at hk
    simp only [Option.some.injEq, Obj.cells.injEq] at hk
    exact absurd hk.2.1 (by decide)
  · exact own_ne h.own q hE (by decide) rfl
  · exact own_ne h.ownB q hE (by decide) rfl
  · have hk := (h.debts i hi).2
    rw [← q, hE] at hk
    simp only [Option.some.injEq, Obj.cells.injEq] at hk
    exact absurd hk.2.1 (by decide)
  · exact own_ne (h.bytes i hi) q hE (by decide) rfl

/-- Where Enqueue stands behind its twoE appends. -/
structure REq (r : Rsn) (l : List Gf.F) (B rb E : Nat) (w W : World) (o : Ob) (va vb : Value) : Prop where
  lst : o.l = l
  ds : o.ds = debts0 (partsN (symN r.S l.length) r.K)
  at_ : RAt W B rb (r.enq o va vb)
  but : But (r.foot rb) w W
  foot : ∀ b, (r.enq o va vb).foot rb b → r.foot rb b ∨ w.heap.size ≤ b
  err : W.heap[E]? = some (.cells #[.int .i64 0, .int .i64 0] 139 (0, 0))
  new : w.heap.size ≤ E

/-- Behind the first append. -/
structure REa (r : Rsn) (l : List Gf.F) (B rb E : Nat) (w W : World) (X va : Value) : Prop where
  blk : W.heap[rb]? = some (.cells #[.int .i64 (r.K : Int), .int .i64 (r.N : Int), .int .i64 (r.S : Int), va, r.vb, .int .i64 (r.sent : Int)] 191 (0, 0))
  own : W.ownsRow B 33 1 va (r.os.length + 1) (r.os.map Ob.bv ++ [X])
  ownB : W.ownsRow B 193 1 r.vb r.os.length (r.os.map Ob.dv)
  x : W.ownsRow w.heap.size 5 1 X l.length (encL l)
  but : But (fun b => b = rb ∨ r.va.ownBlock = some b ∨ r.vb.ownBlock = some b) w W
  err : W.heap[E]? = some (.cells #[.int .i64 0, .int .i64 0] 139 (0, 0))
  new : w.heap.size ≤ E
  vaAt : ∀ b, va.ownBlock = some b → r.va.ownBlock = some b ∨ w.heap.size ≤ b

theorem REa.above {r : Rsn} {l : List Gf.F} {B rb E : Nat} {w W W' : World} {X va : Value} (h : REa r l B rb E w W X va) (hb : Below W.heap.size W W') : REa r l B rb E w W' X va :=
  ⟨(hb.block _ (lt_of_block h.blk)).trans h.blk, own_of_block h.own (fun g hg => hb.block g (h.own.lt g hg).2), own_of_block h.ownB (fun g hg => hb.block g (h.ownB.lt g hg).2), own_of_block h.x (fun g hg => hb.block g (h.x.lt g hg).2), h.but.below hb (fun _ hi q => absurd (Nat.lt_of_lt_of_le hi h.but.size) q), (hb.block _ (lt_of_block h.err)).trans h.err, h.new, h.vaAt⟩

theorem REa.of {r : Rsn} {l : List Gf.F} {B rb E g cap : Nat} {w W0 wx w7 : World} {X : Value} {ob : Obj} (h : RAt w B rb r) (hb0 : Below w.heap.size w W0) (hE : W0.heap[E]? = some (.cells #[.int .i64 0, .int .i64 0] 139 (0, 0))) (hEn : w.heap.size ≤ E)
    (hbx : Below W0.heap.size W0 wx) (hX : wx.ownsRow w.heap.size 5 1 X l.length (encL l)) (hg : (wx.alloc ob).grownBy w7 r.va.ownBlock) (hown : w7.ownsRow B 33 1 (.slice (some ⟨g, 0, none⟩) (r.os.length + 1) cap) (r.os.length + 1) (r.os.map Ob.bv ++ [X])) (hlie : r.va.ownBlock = some g ∨ g = wx.heap.size + 1) :
    REa r l B rb E w (w7.setCell ⟨rb, 3, none⟩ (.slice (some ⟨g, 0, none⟩) (r.os.length + 1) cap)) X (.slice (some ⟨g, 0, none⟩) (r.os.length + 1) cap) := by
  have hbw : Below w.heap.size w wx := hb0.trans (hbx.mono hb0.size)
  have hsz := hbw.size
  have h1 := h.above hbw
  have hEx := (hbx.block _ (lt_of_block hE)).trans hE
  have keep : ∀ k cs t, wx.heap[k]? = some (Obj.cells cs t (0, 0)) → t ≠ 33 → w7.heap[k]? = wx.heap[k]? := fun k cs t hk ht => (grown_block hg (by have := lt_of_block hk; simp; omega) (fun q => own_ne h1.own q hk (fun e => ht e.symm) rfl)).trans (Below.heap_alloc wx ob k (lt_of_block hk))
  have hblk := (keep rb _ _ h1.blk (by decide)).trans h1.blk
  have hO := But.setCell (S := fun b => b = rb) (But.refl _ w7) (p := ⟨rb, 3, none⟩) (.inl rfl) (.slice (some ⟨g, 0, none⟩) (r.os.length + 1) cap)
  have hne : ∀ {B' n sz : Nat} {e : TypeId} {v : Value} {xs : List Value}, w7.ownsRow B' e sz v n xs → e ≠ 191 → ∀ g, v.ownBlock = some g → ¬ g = rb := fun h' he g hg q => own_ne h' hg hblk he q
  have hB7 : w7.ownsRow B 193 1 r.vb r.os.length (r.os.map Ob.dv) := own_of_block h1.ownB (fun k hk => by
    obtain ⟨cur, hc⟩ := own_block h1.ownB hk
    exact keep k cur _ hc (by decide))
  have hX7 : w7.ownsRow w.heap.size 5 1 X l.length (encL l) := own_of_block hX (fun k hk => by
    obtain ⟨cur, hc⟩ := own_block hX hk
    exact keep k cur _ hc (by decide))
  have hE7 := (keep E _ _ hEx (by decide)).trans hEx
  have hrb := lt_of_block h.blk
  refine ⟨heap_setCell_same w7 rb 3 _ _ _ hblk, hO.own hown (hne hown (by decide)), hO.own hB7 (hne hB7 (by decide)), hO.own hX7 (hne hX7 (by decide)), ?_, (hO.block E (lt_of_block hE7) (by omega)).trans hE7, hEn, fun b hb => ?_⟩
  · exact (((Below.but hbw (fun b => b = rb ∨ r.va.ownBlock = some b ∨ r.vb.ownBlock = some b) (fun i hi q => absurd hi q)).alloc ob).grown hg (fun k hk => .inl (.inr (.inl hk)))).setCell (p := ⟨rb, 3, none⟩) (.inl (.inl rfl)) _
  · have hb' : g = b := by simpa [Value.ownBlock] using hb
    subst hb'
    rcases hlie with q | q
    · exact .inl q
    · exact .inr (by omega)

theorem REq.of {r : Rsn} {l : List Gf.F} {B rb E d Q g cap n xc : Nat} {w W w9 w11 : World} {xa : Option Addr} {va : Value} {ob : Obj} (h : RAt w B rb r) (hB : B ≤ w.heap.size) (hn : l.length = n) (hA : REa r l B rb E w W (.slice xa n xc) va) (hb9 : Below W.heap.size W w9) (hQ : Q = partsN (symN r.S l.length) r.K) (hd : d = w9.heap.size)
    (hg : ((w9.alloc (.cells (flat2 (debtVals (debts0 Q))).toArray 196)).alloc ob).grownBy w11 r.vb.ownBlock) (hown : w11.ownsRow B 193 1 (.slice (some ⟨g, 0, none⟩) (r.os.length + 1) cap) (r.os.length + 1) (r.os.map Ob.dv ++ [.slice (some ⟨d, 0, none⟩) Q Q])) (hlie : r.vb.ownBlock = some g ∨ g = w9.heap.size + 2) :
    ∃ o vb, REq r l B rb E w (w11.setCell ⟨rb, 4, none⟩ (.slice (some ⟨g, 0, none⟩) (r.os.length + 1) cap)) o va vb := by
  have h9 := hA.above hb9
  have hD := heap_alloc_new w9 (.cells (flat2 (debtVals (debts0 Q))).toArray 196)
  rw [← hd] at hD
  have hsz := h9.but.size
  have keep : ∀ k cs t, w9.heap[k]? = some (Obj.cells cs t (0, 0)) → t ≠ 193 → w11.heap[k]? = w9.heap[k]? := fun k cs t hk ht => (grown_block hg (by have := lt_of_block hk; simp; omega) (fun q => own_ne h9.ownB q hk (fun e => ht e.symm) rfl)).trans ((Below.heap_alloc _ ob k (by have := lt_of_block hk; simp; omega)).trans (Below.heap_alloc w9 _ k (lt_of_block hk)))
  have hblk := (keep rb _ _ h9.blk (by decide)).trans h9.blk
  have hO := But.setCell (S := fun b => b = rb) (But.refl _ w11) (p := ⟨rb, 4, none⟩) (.inl rfl) (.slice (some ⟨g, 0, none⟩) (r.os.length + 1) cap)
  have hne : ∀ {B' n sz : Nat} {e : TypeId} {v : Value} {xs : List Value}, w11.ownsRow B' e sz v n xs → e ≠ 191 → ∀ g, v.ownBlock = some g → ¬ g = rb := fun h' he g hg q => own_ne h' hg hblk he q
  have hA11 : w11.ownsRow B 33 1 va (r.os.length + 1) (r.os.map Ob.bv ++ [.slice xa n xc]) := own_of_block h9.own (fun k hk => by
    obtain ⟨cur, hc⟩ := own_block h9.own hk
    exact keep k cur _ hc (by decide))
  have hX11 : w11.ownsRow w.heap.size 5 1 (.slice xa n xc) l.length (encL l) := own_of_block h9.x (fun k hk => by
    obtain ⟨cur, hc⟩ := own_block h9.x hk
    exact keep k cur _ hc (by decide))
  have hE11 := (keep E _ _ h9.err (by decide)).trans h9.err
  have hrb := lt_of_block h.blk
  have hD11 : w11.heap[d]? = some (.cells (flat2 (debtVals (debts0 Q))).toArray 196 (0, 0)) := by
    refine ((grown_block hg (by simp; omega) (fun q => ?_)).trans (Below.heap_alloc _ ob d (by simp; omega))).trans hD
    have := (h9.ownB.lt d q).2
    omega
  have hlen0 : (debts0 Q).length = Q := by simp [debts0]
  have hbut : But (fun b => b = rb ∨ r.va.ownBlock = some b ∨ r.vb.ownBlock = some b) w (w11.setCell ⟨rb, 4, none⟩ (.slice (some ⟨g, 0, none⟩) (r.os.length + 1) cap)) := (((h9.but.alloc _).alloc ob).grown hg (fun k hk => .inl (.inr (.inr hk)))).setCell (p := ⟨rb, 4, none⟩) (.inl (.inl rfl)) _
  have hdne : ¬ d = rb := by omega
  refine ⟨⟨l, debts0 Q, xa, xc, d⟩, .slice (some ⟨g, 0, none⟩) (r.os.length + 1) cap, rfl, by show debts0 Q = _; rw [hQ], ?_, hbut.wide (fun k _ q => ?_), fun b hb => ?_, (hO.block E (lt_of_block hE11) (by have := h9.new; omega)).trans hE11, h9.new⟩
  · subst hn
    refine h.enq hbut hB (heap_setCell_same w11 rb 4 _ _ _ hblk) (hO.own hA11 (hne hA11 (by decide))) ?_ (own_base2 (hO.own hX11 (hne hX11 (by decide))) hB) ((hO.block d (lt_of_block hD11) hdne).trans hD11) (by show _ ≤ d; omega)
    show World.ownsRow _ B _ 1 _ _ (r.os.map Ob.dv ++ [Value.slice (some ⟨d, 0, none⟩) (debts0 Q).length (debts0 Q).length])
    rw [hlen0]
    exact hO.own hown (hne hown (by decide))
  · rcases q with q | q | q
    · exact .inl q
    · exact .inr (.inl q)
    · exact .inr (.inr (.inl q))
  · rcases hb with q | q | q | ⟨i, hi, q⟩
    · exact .inl (.inl q)
    · rcases h9.vaAt b q with q | q
      · exact .inl (.inr (.inl q))
      · exact .inr q
    · have hb' : g = b := by simpa [Rsn.enq, Value.ownBlock] using q
      subst hb'
      rcases hlie with q | q
      · exact .inl (.inr (.inr (.inl q)))
      · exact .inr (by omega)
    · have hi' : i < r.os.length + 1 := by simpa [Rsn.enq] using hi
      have q' : b = (oat (r.os ++ [⟨l, debts0 Q, xa, xc, d⟩]) i).dg ∨ (oat (r.os ++ [⟨l, debts0 Q, xa, xc, d⟩]) i).bv.ownBlock = some b := q
      rcases push_key (os := r.os) ⟨l, debts0 Q, xa, xc, d⟩ i hi' with ⟨h1, h2⟩ | ⟨_, h2⟩ <;> rw [h2] at q'
      · exact .inl (.inr (.inr (.inr ⟨i, h1, q'⟩)))
      · rcases q' with q' | q'
        · have : b = d := q'
          exact .inr (by omega)
        · have q2 : (Value.slice xa l.length xc).ownBlock = some b := q'
          rw [hn] at q2
          exact .inr (h9.x.lt b q2).1

set_option maxRecDepth 100000 in
set_option maxHeartbeats 2000000 in
theorem renqueue_any {B rb b o n c : Nat} {a : Option Addr} {l : List Gf.F} {r : Rsn} {w : World} (h : RAt w B rb r) (hB0 : B ≤ w.heap.size) (hcf : Cfg r.K r.N r.S) (hfew : r.os.length ≤ 16) (hl : l.length = n) (hn : n ≤ 140737488355328) (ha : 0 < n → a = some ⟨b, o, none⟩) (hB : Bs w b o l) :
    Calls Tryz.prog 83 #[.pointer (some ⟨rb, 0, none⟩), .slice a n c] w (REnqGives r l B rb w) := by
  have HCF : Hid (Cfg r.K r.N r.S) := hcf
  obtain ⟨k1, k8, kn, n16, s1, s8⟩ := hcf
  have hE0 := heap_alloc_new w (.cells #[.int .i64 0, .int .i64 0] 139)
  have hb0 : Below w.heap.size w (w.alloc (.cells #[.int .i64 0, .int .i64 0] 139)) := (Below.refl _ _).alloc (Nat.le_refl _) _
  obtain ⟨va, vc, hva, _⟩ := own_form2 h.own
  obtain ⟨vb, vd, hvb, _⟩ := own_form2 h.ownB
  have hrl := lt_of_block h.blk
  have hrne : ¬ rb = w.heap.size := Nat.ne_of_lt hrl
  by_cases hq : 255 < n
  · have hq1 : (255 : Int) < (n : Int) := by omega
    go_enter Tryz.func83, Tryz.ntmps83
    go_wp2_with fail
    refine (plain_err 2 _).mono ?_
    rintro e w1 ⟨rfl, hb1⟩
    have hE1 := (hb1.block _ (lt_of_block hE0)).trans hE0
    obtain ⟨y0, y1, f0, f1⟩ := twoE hE1
    obtain ⟨p1, p2⟩ := putE w1 w.heap.size _ _ (.int .i64 2) (.int .i64 (-1)) _ hE1
    obtain ⟨q0, q1, _, _⟩ := twoE p1
    have hbw1 : Below w.heap.size w w1 := hb0.trans (hb1.mono hb0.size)
    have hfin : Below w.heap.size w _ := hbw1.trans (p2.toBelow hbw1.size (fun k hk q => by omega))
    go_wp2_with fail
    exact bodyPost_ret (v := .tuple #[.int .i64 0, .agg #[.int .i64 2, .int .i64 (-1)]]) (by simp [results, Tryz.results83, go_sem, q0, q1]) rfl (.inl ⟨by omega, rfl, hfin⟩)
  · have hq1 : ¬ (255 : Int) < (n : Int) := by omega
    have hr0 := h.above hb0
    obtain ⟨_, _, _, c3, _, _⟩ := hr0.cells
    rw [hva] at c3
    by_cases h16 : r.os.length = 16
    · have h161 : (r.os.length : Int) = 16 := by omega
      go_enter Tryz.func83, Tryz.ntmps83
      go_upto_region 1 with fail
      generalize w.alloc (.cells #[.int .i64 0, .int .i64 0] 139) = W0 at *
      go_wp2_with fail
      refine (plain_err 3 _).mono ?_
      rintro e w1 ⟨rfl, hb1⟩
      have hE1 := (hb1.block _ (lt_of_block hE0)).trans hE0
      obtain ⟨y0, y1, f0, f1⟩ := twoE hE1
      obtain ⟨p1, p2⟩ := putE w1 w.heap.size _ _ (.int .i64 3) (.int .i64 (-1)) _ hE1
      obtain ⟨q0, q1, _, _⟩ := twoE p1
      have hbw1 : Below w.heap.size w w1 := hb0.trans (hb1.mono hb0.size)
      have hfin : Below w.heap.size w _ := hbw1.trans (p2.toBelow hbw1.size (fun k hk q => by omega))
      go_wp2_with fail
      exact bodyPost_ret (v := .tuple #[.int .i64 0, .agg #[.int .i64 3, .int .i64 (-1)]]) (by simp [results, Tryz.results83, go_sem, q0, q1]) rfl (.inr (.inl ⟨by omega, h16, rfl, hfin⟩))
    · have h161 : ¬ (r.os.length : Int) = 16 := by omega
      obtain ⟨iU, hiU, hiU0, hiU1, hiU2⟩ := Tryz.u8_parts
      obtain ⟨iB, hiB, hiB0, hiB1, hiB2⟩ := Tryz.bytes_parts
      obtain ⟨iT, hiT, hiT0, hiT1, hiT2⟩ := Tryz.rblocks_parts
      obtain ⟨E, hEe⟩ : ∃ x, x = w.heap.size := ⟨_, rfl⟩
      have hE0' : (w.alloc (.cells #[.int .i64 0, .int .i64 0] 139)).heap[E]? = some (.cells #[.int .i64 0, .int .i64 0] 139 (0, 0)) := by rw [hEe]; exact hE0
      have hBW : Bs (w.alloc (.cells #[.int .i64 0, .int .i64 0] 139)) b o l := fun i hi => by rw [hb0.cell (lt_of_cell (hB i hi))]; exact hB i hi
      have HVA : Hid (r.va = .slice va r.os.length vc) := hva
      have HVB : Hid (r.vb = .slice vb r.os.length vd) := hvb
      go_enter Tryz.func83, Tryz.ntmps83
      go_upto_region 1 with fail
      generalize w.alloc (.cells #[.int .i64 0, .int .i64 0] 139) = W0 at *
      rw [← hEe]
      have HEE : Hid (E = w.heap.size) := hEe
      clear hE0 hEe
      go_upto_region 6 with fail
      have hsz0 := hb0.size
      go_cut [6] (fun x wx => ∃ xa xc, x = .slice xa n xc ∧ wx.ownsRow w.heap.size 5 1 (.slice xa n xc) n (encL l) ∧ Below W0.heap.size W0 wx)
      case first =>
        by_cases h1 : 1 ≤ n
        · obtain rfl := ha h1
          have HC : Hid (∀ j u, (encL l)[j]? = some u → W0.cell? ((⟨b, o, none⟩ : Addr).add j) = some u) := hBW.cells
          have HD1 : Hid ((encL l).length = n * 1) := by show _ = _; simp [encL, hl]
          have HMX : Hid (0 + n ≤ maxLen) := by show _ ≤ _; unfold maxLen; omega
          go_wp2_with (at_builtin; refine wpList_append_lies _ rfl _ _ _ rfl W0.heap.size 5 iU (.int .u8 0) 1 1 Tryz.underlying33 hiU hiU0 hiU1 hiU2 rfl (by omega) (.slice none 0 0) 0 [] rfl (World.ownsRow_nil ..) ⟨b, o, none⟩ n c (encL l) rfl HD1.out HC.out (encL_one l) h1 HMX.out (by omega) (Nat.le_refl _) W0.heap.size rfl ?_)
          intro g6 cap6 w6 hown6 hgr6 hlie6 hlt6
          go_wp2_with fail
          go_meet
          exact ⟨_, cap6, rfl, own_base2 hown6 hsz0, (Below.refl _ _).grown hgr6 (Nat.le_refl _) (fun t ht => by simp [Value.ownBlock] at ht)⟩
        · have h0 : n = 0 := by omega
          subst h0
          obtain rfl : l = [] := List.length_eq_zero_iff.1 hl
          cases a with
          | none =>
            have happ := Tryz.app0nil none c
            go_wp2_with fail
            go_meet
            exact ⟨none, 0, rfl, World.ownsRow_nil .., Below.refl _ _⟩
          | some ad =>
            have happ := Tryz.app0nil (some ad) c
            go_wp2_with fail
            go_meet
            exact ⟨none, 0, rfl, World.ownsRow_nil .., Below.refl _ _⟩
      case rest =>
        obtain ⟨xa, xc, rfl, hX, hbx⟩ := hcut
        have hbw : Below w.heap.size w wc := hb0.trans (hbx.mono hsz0)
        have h1 := h.above hbw
        have hszx := hbw.size
        clear c3
        obtain ⟨_, _, _, c3, _, _⟩ := h1.cells
        rw [HVA.out] at c3
        have hrl1 := lt_of_cell c3
        have hrn1 : ¬ rb = wc.heap.size := Nat.ne_of_lt hrl1
        have HOW : Hid (∀ ob : Obj, (wc.alloc ob).ownsRow B 33 1 (.slice va r.os.length vc) r.os.length (r.os.map Ob.bv)) := fun ob => by
          have := h1.own
          rw [HVA.out] at this
          exact this.alloc ob
        have HMX : Hid (r.os.length + 1 ≤ maxLen) := by show _ ≤ _; unfold maxLen; omega
        have HK7 : Hid (∀ ob w7, (wc.alloc ob).grownBy w7 (Value.slice va r.os.length vc).ownBlock → w7.cell? ⟨rb, 3, none⟩ = some (.slice va r.os.length vc) ∧ w7.frozen? ⟨rb, 3, none⟩ = false) := fun ob w7 hg => by
          have hk : w7.heap[rb]? = wc.heap[rb]? := (grown_block hg (by simp; omega) (fun q => by rw [← HVA.out] at q; exact own_ne h1.own q h1.blk (by decide) rfl)).trans (Below.heap_alloc wc ob rb hrl1)
          have hblk := hk.trans h1.blk
          exact ⟨by rw [cell_of_row w7 rb 3 _ _ _ hblk]; show some r.va = _; rw [HVA.out], frozen_of_row w7 rb 3 _ _ hblk⟩
        go_wp2_with (at_builtin; refine wpList_append_lies _ rfl _ _ _ rfl B 33 iB (.slice none 0 0) 1 24 Tryz.underlying40 hiB hiB0 hiB1 hiB2 rfl (by omega) (.slice va r.os.length vc) r.os.length (r.os.map Ob.bv) rfl (HOW.out _) ⟨wc.heap.size, 0, none⟩ 1 1 [.slice xa n xc] rfl rfl (cell_one_at wc _ _ _ rfl) (fun u hu => by simp at hu; subst hu; rfl) (by omega) HMX.out (by omega) (by simp; omega) (wc.heap.size + 1) (by simp) ?_)
        intro g7 cap7 w7 hown7 hgr7 hlie7 hlt7
        obtain ⟨k7, f7⟩ := HK7.out _ _ hgr7
        go_upto_region 8 with fail
        have hA : REa r l B rb E w (w7.setCell ⟨rb, 3, none⟩ (.slice (some ⟨g7, 0, none⟩) (r.os.length + 1) cap7)) (.slice xa n xc) (.slice (some ⟨g7, 0, none⟩) (r.os.length + 1) cap7) := REa.of (X := .slice xa n xc) h hb0 hE0' (Nat.le_of_eq HEE.out.symm) hbx (by rw [hl]; exact hX) (by rw [HVA.out]; exact hgr7) hown7 (by rw [HVA.out]; exact hlie7)
        generalize w7.setCell ⟨rb, 3, none⟩ (.slice (some ⟨g7, 0, none⟩) (r.os.length + 1) cap7) = W8 at *
        clear k7 f7 hown7 hgr7 hlie7 hlt7 c3 HOW HK7 hX hbx hBW h1 hr0
        have hQl := partsN_le (a := symN r.S n) k1
        have hTr := symN_range (S := r.S) (len := n) s1
        obtain ⟨Q, hQ⟩ : ∃ x, x = partsN (symN r.S n) r.K := ⟨_, rfl⟩
        have hQ9 : Q ≤ 1000 := by rw [hQ]; omega
        have HQ : Hid (Q = partsN (symN r.S n) r.K) := hQ
        have HBK : Hid (∀ W, Calls Tryz.prog 94 #[.agg #[.int .i64 (r.K : Int), .int .i64 (r.N : Int), .int .i64 (r.S : Int)], .int .i64 (n : Int)] W fun e w' => e = .returned (.int .i64 (Q : Int)) ∧ Below W.heap.size W w') := fun W => by
          rw [hQ]
          exact rblocks_any r.K r.N r.S n HCF.out (by omega) W
        clear hQ hQl hTr
        have c0 : W8.cell? ⟨rb, 0, none⟩ = some (.int .i64 (r.K : Int)) := cell_of_row W8 _ 0 _ _ _ hA.blk
        have c1 : W8.cell? ⟨rb, 1, none⟩ = some (.int .i64 (r.N : Int)) := cell_of_row W8 _ 1 _ _ _ hA.blk
        have c2 : W8.cell? ⟨rb, 2, none⟩ = some (.int .i64 (r.S : Int)) := cell_of_row W8 _ 2 _ _ _ hA.blk
        have c4 : W8.cell? ⟨rb, 4, none⟩ = some (.slice vb r.os.length vd) := by rw [cell_of_row W8 _ 4 _ _ _ hA.blk]; show some r.vb = _; rw [HVB.out]
        have hrl8 : rb < W8.heap.size := lt_of_cell c4
        have hrn8 : ¬ rb = W8.heap.size := Nat.ne_of_lt hrl8
        have hBW8 : B ≤ W8.heap.size := Nat.le_trans hB0 hA.but.size
        have HOW : Hid (∀ w9, Below W8.drew.heap.size W8.drew w9 → ∀ ob ob' : Obj, ((w9.alloc ob).alloc ob').ownsRow B 193 1 (.slice vb r.os.length vd) r.os.length (r.os.map Ob.dv)) := fun w9 hb9 ob ob' => by
          have := (hA.above (Below.undraw hb9)).ownB
          rw [HVB.out] at this
          exact (this.alloc ob).alloc ob'
        have HBL : Hid (∀ w9, Below W8.drew.heap.size W8.drew w9 → ∀ ob ob' : Obj, B ≤ ((w9.alloc ob).alloc ob').heap.size) := fun w9 hb9 ob ob' => by
          have h1 : W8.heap.size ≤ w9.heap.size := hb9.size
          simp; omega
        have HMB : Hid ((r.os.length + 1) * 24 ≤ 140737488355328) := by show _ ≤ _; omega
        have HK9 : Hid (∀ w9, Below W8.drew.heap.size W8.drew w9 → w9.cell? ⟨rb, 0, none⟩ = some (.int .i64 (r.K : Int)) ∧ w9.cell? ⟨rb, 1, none⟩ = some (.int .i64 (r.N : Int)) ∧ w9.cell? ⟨rb, 2, none⟩ = some (.int .i64 (r.S : Int)) ∧ w9.cell? ⟨rb, 4, none⟩ = some (.slice vb r.os.length vd) ∧ ¬ rb = w9.heap.size ∧ ¬ rb = w9.heap.size + 1 ∧ (∀ ob : Obj, (w9.alloc ob).cell? ⟨rb, 4, none⟩ = some (.slice vb r.os.length vd)) ∧ ∀ ob ob' : Obj, ((w9.alloc ob).alloc ob').cell? ⟨rb, 4, none⟩ = some (.slice vb r.os.length vd)) := fun w9 hb9 => by
          have hb9' := Below.undraw hb9
          have h1 := hb9'.size
          exact ⟨by rw [hb9'.cell (lt_of_cell c0)]; exact c0, by rw [hb9'.cell (lt_of_cell c1)]; exact c1, by rw [hb9'.cell (lt_of_cell c2)]; exact c2, by rw [hb9'.cell (lt_of_cell c4)]; exact c4, by omega, by omega, fun ob => by rw [((Below.refl w9.heap.size w9).alloc (Nat.le_refl _) ob).cell (p := ⟨rb, 4, none⟩) (by show rb < _; omega), hb9'.cell (lt_of_cell c4)]; exact c4, fun ob ob' => by rw [(((Below.refl w9.heap.size w9).alloc (Nat.le_refl _) ob).alloc (by simp) ob').cell (p := ⟨rb, 4, none⟩) (by show rb < _; omega), hb9'.cell (lt_of_cell c4)]; exact c4⟩
        have HK11 : Hid (∀ w9 ob ob' w11, Below W8.drew.heap.size W8.drew w9 → ((w9.alloc ob).alloc ob').grownBy w11 (Value.slice vb r.os.length vd).ownBlock → w11.cell? ⟨rb, 4, none⟩ = some (.slice vb r.os.length vd) ∧ w11.frozen? ⟨rb, 4, none⟩ = false) := fun w9 ob ob' w11 hb9 hg => by
          have h9 := hA.above (Below.undraw hb9)
          have hs9 := lt_of_block h9.blk
          have hk : w11.heap[rb]? = w9.heap[rb]? := ((grown_block hg (by simp; omega) (fun q => by rw [← HVB.out] at q; exact own_ne h9.ownB q h9.blk (by decide) rfl)).trans (Below.heap_alloc _ ob' rb (by simp; omega))).trans (Below.heap_alloc w9 ob rb hs9)
          have hblk := hk.trans h9.blk
          exact ⟨by rw [cell_of_row w11 rb 4 _ _ _ hblk]; show some r.vb = _; rw [HVB.out], frozen_of_row w11 rb 4 _ _ hblk⟩
        have HNW : Hid (∀ x, ∀ u ∈ [Value.slice (some ⟨x, 0, none⟩) Q Q], u.oneCell' = true) := fun x u hu => by simp at hu; subst hu; rfl
        have HA : Hid (REa r l B rb E w W8 (.slice xa n xc) (.slice (some ⟨g7, 0, none⟩) (r.os.length + 1) cap7)) := hA
        have HB : Hid (RAt w B rb r) := h
        clear hA h
        go_cut [6] (fun _ wx => ∃ o vb', REq r l B rb E w wx o (.slice (some ⟨g7, 0, none⟩) (r.os.length + 1) cap7) vb')
        case first =>
          go_region_law ((first
            | (refine step_append_lies _ (by rfl) _ _ _ (by rfl) B 193 iT (.slice none 0 0) 1 24 Tryz.underlying189 hiT hiT0 hiT1 hiT2 rfl (by omega) (.slice vb r.os.length vd) r.os.length (r.os.map Ob.dv) (by rfl) (HOW.out _ hb9 _ _) ⟨w9.heap.size + 1, 0, none⟩ 1 1 [.slice (some ⟨w9.heap.size, 0, none⟩) Q Q] (by rfl) rfl (cell_one_at _ _ _ _ (by simp)) (HNW.out _) (by omega) HMX.out HMB.out (HBL.out _ hb9 _ _) (w9.heap.size + 2) (by simp) ?_; intro g11 cap11 w11 hown11 hgr11 hlie11 hlt11; obtain ⟨k11, f11⟩ := HK11.out _ _ _ _ hb9 hgr11)
            | (go_simp; go_at_call 94; refine (HBK.out _).mono ?_; rintro e w9 ⟨rfl, hb9⟩; obtain ⟨d0, d1, d2, d4, n9, n9', da, db⟩ := HK9.out w9 hb9; have da' := da (.cells (flat2 (debtVals (debts0 Q))).toArray 196); have db' := db (.cells (flat2 (debtVals (debts0 Q))).toArray 196) (.cells #[.slice (some ⟨w9.heap.size, 0, none⟩) Q Q] 193); have hmk := make_rblocks Q hQ9 w9)))
          all_goals go_wp2_with fail
          all_goals go_meet
          all_goals exact REq.of HB.out hB0 hl HA.out (Below.undraw hb9) (by rw [hl]; exact HQ.out) rfl (by rw [HVB.out]; exact hgr11) hown11 (by rw [HVB.out]; exact hlie11)
        case rest =>
          obtain ⟨o', vb', hq⟩ := hcut
          have k3 : wc.cell? ⟨rb, 3, none⟩ = some (.slice (some ⟨g7, 0, none⟩) (r.os.length + 1) cap7) := hq.at_.cells.2.2.2.1
          obtain ⟨y0, y1, f0, f1⟩ := twoE hq.err
          have HN : Hid (∀ w2, Below wc.heap.size wc w2 → w2.cell? ⟨rb, 3, none⟩ = some (.slice (some ⟨g7, 0, none⟩) (r.os.length + 1) cap7) ∧ w2.heap[E]? = some (.cells #[.int .i64 0, .int .i64 0] 139 (0, 0))) := fun w2 hb2 => ⟨by rw [hb2.cell (lt_of_cell k3)]; exact k3, (hb2.block E (lt_of_block hq.err)).trans hq.err⟩
          have HFIN : Hid (∀ w2, Below wc.heap.size wc w2 → ((w2.setCell ⟨E, 0, none⟩ (.int .i64 0)).setCell ⟨E, 1, none⟩ (.int .i64 (-1))).heap[E]? = some (.cells #[.int .i64 0, .int .i64 (-1)] 139 (0, 0)) ∧ REnqGives r l B rb w (.returned (.tuple #[.int .i64 (r.os.length : Int), .agg #[.int .i64 0, .int .i64 (-1)]])) ((w2.setCell ⟨E, 0, none⟩ (.int .i64 0)).setCell ⟨E, 1, none⟩ (.int .i64 (-1)))) := fun w2 hb2 => by
            have hE2 := (HN.out w2 hb2).2
            obtain ⟨p1, p2⟩ := putE w2 E _ _ (.int .i64 0) (.int .i64 (-1)) _ hE2
            have hR2 := hq.at_.above hb2
            have hbu2 := hq.but.below hb2 (fun _ hi q => absurd (Nat.lt_of_lt_of_le hi hq.but.size) q)
            refine ⟨p1, .inr (.inr ⟨by omega, by omega, rfl, o', _, vb', hq.lst, hq.ds, hR2.kept (fun b hb' => p2.block b (hR2.foot_lt hb').2 (hR2.ne hE2 b hb')), hbu2.then p2 (fun i hi q => ?_), hq.foot⟩)⟩
            have := hq.new
            omega
          have hlen1 : ((r.os.length + 1 : Nat) : Int) - 1 = (r.os.length : Int) := by omega
          have hlen2 : (r.os.length : Int) + 1 - 1 = (r.os.length : Int) := by omega
          have hwr : IntKind.i64.wrap (r.os.length : Int) = (r.os.length : Int) := by rw [IntKind.wrap_i64]; omega
          clear hq
          go_upto_region 9 with fail
          go_region_with (first
            | (go_at_call 93; refine (none_err _).mono ?_; rintro e w2 ⟨rfl, hb2⟩; (have hbX : Below wc.heap.size wc w2 := by first | exact Below.undraw hb2 | exact hb2); obtain ⟨k3', hE2⟩ := HN.out w2 hbX; obtain ⟨y0', y1', f0', f1'⟩ := twoE hE2))
          all_goals go_wp2_with fail
          all_goals (obtain ⟨p1, hG⟩ := HFIN.out w2 hbX; obtain ⟨q0, q1, _, _⟩ := twoE p1; exact bodyPost_ret (v := .tuple #[.int .i64 (r.os.length : Int), .agg #[.int .i64 0, .int .i64 (-1)]]) (by simp [results, Tryz.results83, go_sem, q0, q1]) rfl hG)

end Go.Proofs.YtjabhnhejbhgjaaGreatDoor
