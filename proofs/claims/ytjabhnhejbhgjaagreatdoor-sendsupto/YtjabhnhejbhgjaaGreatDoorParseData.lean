/- Package wire: the walk of parseData. (Written by gen_data.py.) -/
import Derived.Test.YtjabhnhejbhgjaaGreatDoorDataWalk
import Derived.Test.YtjabhnhejbhgjaaGreatDoorRefRestore
namespace Go.Proofs.YtjabhnhejbhgjaaGreatDoor
open Go.RowKit

theorem DataGives.bad {A : Nat → Addr} {K N S T rb c k n1 c1 : Nat} {m : List Gf.F} {w w' : World} {v : Value} {x y : Int} {a : Option Addr} (h : dataB K N S T m = some (c, k)) (hw : Wr w w' v (k : Int) (E A c)) (hb : But (fun g => g = rb) w w') :
    DataGives A K N S T rb m w (.returned (.tuple #[.int .i64 x, .int .i64 y, .slice a n1 c1, v])) w' := by
  unfold DataGives
  rw [h]
  exact ⟨⟨x, y, a, n1, c1, v, rfl, hw⟩, hb⟩

theorem Below.undraw {B : Nat} {w w' : World} (h : Below B w.drew w') : Below B w w' := ⟨h.os, h.tape, h.output, h.size, h.block⟩
theorem below_drew {w w' : World} {nq : Nat} (h : w' = w.drewN nq) : Below w.heap.size w w' := by rw [h]; exact ⟨rfl, rfl, rfl, Nat.le_refl _, fun _ _ => rfl⟩
theorem DataSt.errs {A : Nat → Addr} {B0 : Nat} {w W : World} {K N S T rb k : Nat} {v : Value} {z : Int} (h : DataSt w W K N S T rb v k z) (hE : Errs A B0 w) (hB : B0 ≤ rb) : Errs A B0 W := hE.below (h.but.toBelow hE.size (fun k hk q => by omega))

set_option maxRecDepth 100000 in
set_option maxHeartbeats 4000000 in
theorem data_any (A : Nat → Addr) (B0 : Nat) (a : Option Addr) (b o n c rb K N S T : Nat) (m : List Gf.F) (w : World) (hE : Errs A B0 w) (hB0 : B0 ≤ rb) (hcfg : Cfg K N S) (hT : T ≤ 70000) (hR : Rdr w rb (.slice a n c) 0) (hm : m.length = n) (hn : n ≤ c) (hc : c ≤ 9223372036854775807) (hn2 : n ≤ 140737488355328) (ha : 0 < n → a = some ⟨b, o, none⟩) (hB : Bs w b o m) (hb : 0 < n → b ≠ rb ∧ b < w.heap.size) :
    Calls Tryz.prog 66 #[.agg #[.int .i64 (K : Int), .int .i64 (N : Int), .int .i64 (S : Int), .int .i64 (T : Int)], .int .i64 (S : Int), .pointer (some ⟨rb, 0, none⟩)] w (DataGives A K N S T rb m w) := by
  have hmf : ∀ (fn : Fn) (first cap : Array Value) (w : World), (Instr.makeFunc fn first cap).run Tryz.prog w = .ok (.func fn first cap) w := fun _ _ _ _ => rfl
  have hs1 := hcfg.s1
  have hs8 := hcfg.s8
  have HK1 : Hid (1 ≤ K ∧ K ≤ 8) := ⟨hcfg.k1, hcfg.k8⟩
  have HCF : Hid (Cfg K N S) := hcfg
  clear hcfg
  have hst := DataSt.start (K := K) (N := N) (S := S) (T := T) hR
  clear hR
  go_enter Tryz.func66, Tryz.ntmps66
  go_upto_region 1 with fail
  generalize ((w.alloc (.cells #[.int .i64 (K : Int), .int .i64 (N : Int), .int .i64 (S : Int), .int .i64 (T : Int)] 148)).alloc (.cells #[.int .i64 0] 3)) = W at *
  have hE0 := hst.errs hE hB0
  have s0 : W.cell? ⟨6, 0, none⟩ = some (.iface 269 (.pointer (some (A 3)))) := hE0.cell 3 (by omega)
  have g0 : W.cell? ⟨2, 0, none⟩ = some (.iface 269 (.pointer (some (A 5)))) := hE0.cell 5 (by omega)
  have p0 : W.cell? ⟨w.heap.size, 0, none⟩ = some (.int .i64 (K : Int)) := cell_of_row W _ 0 _ _ _ hst.plan
  have p1 : W.cell? ⟨w.heap.size, 1, none⟩ = some (.int .i64 (N : Int)) := cell_of_row W _ 1 _ _ _ hst.plan
  have p2 : W.cell? ⟨w.heap.size, 2, none⟩ = some (.int .i64 (S : Int)) := cell_of_row W _ 2 _ _ _ hst.plan
  have p3 : W.cell? ⟨w.heap.size, 3, none⟩ = some (.int .i64 (T : Int)) := cell_of_row W _ 3 _ _ _ hst.plan
  have r0 : W.cell? ⟨w.heap.size + 1, 0, none⟩ = some (.int .i64 0) := cell_of_row W _ 0 _ _ _ hst.res
  have rf0 := frozen_of_row W _ 0 _ _ hst.res
  by_cases hq0 : n < 1
  · go_wp2_with fail
    refine (number_short a rb n c 0 1 _ _ _ _ _ W hst.rdr hn2 (by omega) (by omega) (by omega) s0).mono ?_
    rintro e X1 ⟨v, rfl, ⟨pb, rfl, hpb, hblk⟩, hbX⟩
    have hstX := hst.grow hbX
    have dz : X1.cell? ⟨w.heap.size + 1, 0, none⟩ = some (.int .i64 _) := cell_of_row X1 _ 0 _ _ _ hstX.res
    have fz := frozen_of_row X1 _ 0 _ _ hstX.res
    go_wp2_with fail
    have hs8 := hstX.set 0
    have hblk8 : (X1.setCell ⟨w.heap.size + 1, 0, none⟩ (.int .i64 0)).heap[pb]? = _ := (Below.heap_setCell X1 ⟨w.heap.size + 1, 0, none⟩ (.int .i64 0) pb (by have := lt_of_block hst.res; show pb ≠ w.heap.size + 1; omega)).trans hblk
    generalize X1.setCell ⟨w.heap.size + 1, 0, none⟩ (.int .i64 0) = W8 at hs8 hblk8 ⊢
    have hst9 := hs8.set 0
    have hblk9 : (W8.setCell ⟨w.heap.size + 1, 0, none⟩ (.int .i64 0)).heap[pb]? = _ := (Below.heap_setCell W8 ⟨w.heap.size + 1, 0, none⟩ (.int .i64 0) pb (by have := lt_of_block hst.res; show pb ≠ w.heap.size + 1; omega)).trans hblk8
    generalize W8.setCell ⟨w.heap.size + 1, 0, none⟩ (.int .i64 0) = W9 at hst9 hblk9 ⊢
    have d9 : W9.cell? ⟨w.heap.size + 1, 0, none⟩ = some (.int .i64 0) := cell_of_row W9 _ 0 _ _ _ hst9.res
    exact bodyPost_ret (v := .tuple #[.int .i64 0, .int .i64 0, .slice none 0 0, .iface 166 (.pointer (some ⟨pb, 0, none⟩))]) (by simp [results, Tryz.results66, go_sem, d9]) rfl (DataGives.bad (c := 4) (k := n) (by simp [dataB, hm, hq0]) ⟨pb, rfl, by have := hst.but.size; omega, hblk9⟩ hst9.but)
  · obtain rfl := ha (by omega)
    obtain ⟨hbr, hbl⟩ := hb (by omega)
    have hB1 : Bs W b o m := fun i hi => by rw [World.cell?_of_block (hst.but.block b hbl hbr)]; exact hB i hi
    go_wp2_with fail
    refine (number_all rb b o n c 0 1 m _ _ 108 #[.agg #[.int .i64 (K : Int), .int .i64 (N : Int), .int .i64 (S : Int), .int .i64 (T : Int)]] #[] (winB (bt m 0 : Int) 0 ((partsN T K : Int) - 1)) W calls_enters_hasBlock hst.rdr hm hn hc (by omega) (by omega) (by omega) hn2 hB1 hbr (fun V _ => by
      rw [numAt_one]
      exact hasBlock_any K N S T (bt m 0 : Int) HK1.out.1 HK1.out.2 hT V)).mono ?_
    rintro e W1 ⟨he, hr1, hb1⟩
    have hst1 := hst.next hb1 hr1
    clear p0 p1 p2 p3 r0 rf0 s0 g0 hB1
    cases hk0 : winB (bt m 0 : Int) 0 ((partsN T K : Int) - 1)
    · rw [hk0] at he
      simp only [Bool.false_eq_true, if_false] at he
      obtain ⟨v, rfl, ⟨pb, rfl, hpb, hblk⟩⟩ := he
      have dz : W1.cell? ⟨w.heap.size + 1, 0, none⟩ = some (.int .i64 _) := cell_of_row W1 _ 0 _ _ _ hst1.res
      have fz := frozen_of_row W1 _ 0 _ _ hst1.res
      go_wp2_with fail
      have hs8 := hst1.set 0
      have hblk8 : (W1.setCell ⟨w.heap.size + 1, 0, none⟩ (.int .i64 0)).heap[pb]? = _ := (Below.heap_setCell W1 ⟨w.heap.size + 1, 0, none⟩ (.int .i64 0) pb (by have := lt_of_block hst.res; show pb ≠ w.heap.size + 1; omega)).trans hblk
      generalize W1.setCell ⟨w.heap.size + 1, 0, none⟩ (.int .i64 0) = W8 at hs8 hblk8 ⊢
      have hst9 := hs8.set 0
      have hblk9 : (W8.setCell ⟨w.heap.size + 1, 0, none⟩ (.int .i64 0)).heap[pb]? = _ := (Below.heap_setCell W8 ⟨w.heap.size + 1, 0, none⟩ (.int .i64 0) pb (by have := lt_of_block hst.res; show pb ≠ w.heap.size + 1; omega)).trans hblk8
      generalize W8.setCell ⟨w.heap.size + 1, 0, none⟩ (.int .i64 0) = W9 at hst9 hblk9 ⊢
      have d9 : W9.cell? ⟨w.heap.size + 1, 0, none⟩ = some (.int .i64 0) := cell_of_row W9 _ 0 _ _ _ hst9.res
      exact bodyPost_ret (v := .tuple #[.int .i64 0, .int .i64 0, .slice none 0 0, .iface 166 (.pointer (some ⟨pb, 0, none⟩))]) (by simp [results, Tryz.results66, go_sem, d9]) rfl (DataGives.bad (c := 6) (k := 0) (by simp [dataB, hm, hq0, hk0]) ⟨pb, rfl, by have := hst.but.size; omega, hblk9⟩ hst9.but)
    · rw [hk0] at he
      simp only [if_true, numAt_one] at he
      subst he
      have hbK : bt m 0 * K < T := partsN_mul HK1.out.1 (by have := winB_iff.1 hk0; omega)
      have dz : W1.cell? ⟨w.heap.size + 1, 0, none⟩ = some (.int .i64 0) := cell_of_row W1 _ 0 _ _ _ hst1.res
      have fz := frozen_of_row W1 _ 0 _ _ hst1.res
      have hst2 := hst1.set (bt m 0 : Int)
      go_upto_region 4 with fail
      generalize W1.setCell ⟨w.heap.size + 1, 0, none⟩ (.int .i64 (bt m 0 : Int)) = W2 at hst2 ⊢
      clear dz fz hst1 hst hb1 hr1
      have hE2 := hst2.errs hE hB0
      have s2 : W2.cell? ⟨6, 0, none⟩ = some (.iface 269 (.pointer (some (A 3)))) := hE2.cell 3 (by omega)
      have g2 : W2.cell? ⟨2, 0, none⟩ = some (.iface 269 (.pointer (some (A 5)))) := hE2.cell 5 (by omega)
      by_cases hq1 : n < 2
      · go_wp2_with fail
        refine (number_short (some ⟨b, o, none⟩) rb n c 1 1 _ _ _ _ _ W2 hst2.rdr hn2 (by omega) (by omega) (by omega) s2).mono ?_
        rintro e X1 ⟨v, rfl, ⟨pb, rfl, hpb, hblk⟩, hbX⟩
        have hstX := hst2.grow hbX
        have dz : X1.cell? ⟨w.heap.size + 1, 0, none⟩ = some (.int .i64 _) := cell_of_row X1 _ 0 _ _ _ hstX.res
        have fz := frozen_of_row X1 _ 0 _ _ hstX.res
        go_wp2_with fail
        have hst9 := hstX.set 0
        have hblk9 : (X1.setCell ⟨w.heap.size + 1, 0, none⟩ (.int .i64 0)).heap[pb]? = _ := (Below.heap_setCell X1 ⟨w.heap.size + 1, 0, none⟩ (.int .i64 0) pb (by have := lt_of_block hst2.res; show pb ≠ w.heap.size + 1; omega)).trans hblk
        generalize X1.setCell ⟨w.heap.size + 1, 0, none⟩ (.int .i64 0) = W9 at hst9 hblk9 ⊢
        have d9 : W9.cell? ⟨w.heap.size + 1, 0, none⟩ = some (.int .i64 0) := cell_of_row W9 _ 0 _ _ _ hst9.res
        exact bodyPost_ret (v := .tuple #[.int .i64 0, .int .i64 0, .slice none 0 0, .iface 166 (.pointer (some ⟨pb, 0, none⟩))]) (by simp [results, Tryz.results66, go_sem, d9]) rfl (DataGives.bad (c := 4) (k := n) (by simp [dataB, hm, hq0, hk0, hq1]) ⟨pb, rfl, by have := hst2.but.size; omega, hblk9⟩ hst9.but)
      · have hB2 : Bs W2 b o m := fun i hi => by rw [World.cell?_of_block (hst2.but.block b hbl hbr)]; exact hB i hi
        go_wp2_with fail
        refine (number_all rb b o n c 1 1 m _ _ 109 #[] #[.pointer (some ⟨w.heap.size, 0, none⟩), .pointer (some ⟨w.heap.size + 1, 0, none⟩)] (plcN K N T (bt m 0) (bt m 1)) W2 calls_enters_place hst2.rdr hm hn hc (by omega) (by omega) (by omega) hn2 hB2 hbr (fun V hV => by
          rw [numAt_one]
          have hl := hst2.low
          exact place_any w.heap.size (w.heap.size + 1) K N S T (bt m 0) (bt m 1) HCF.out hT hbK V (by rw [hV.block _ (lt_of_block hst2.plan) (by omega)]; exact hst2.plan) (cell_of_row V _ 0 _ _ _ (by rw [hV.block _ (lt_of_block hst2.res) (by omega)]; exact hst2.res)))).mono ?_
        rintro e W3 ⟨he, hr3, hb3⟩
        have hst3 := hst2.next hb3 hr3
        clear s2 g2 hB2 hE2
        cases hk1 : plcN K N T (bt m 0) (bt m 1)
        · rw [hk1] at he
          simp only [Bool.false_eq_true, if_false] at he
          obtain ⟨v, rfl, ⟨pb, rfl, hpb, hblk⟩⟩ := he
          have dz : W3.cell? ⟨w.heap.size + 1, 0, none⟩ = some (.int .i64 _) := cell_of_row W3 _ 0 _ _ _ hst3.res
          have fz := frozen_of_row W3 _ 0 _ _ hst3.res
          go_wp2_with fail
          have hst9 := hst3.set 0
          have hblk9 : (W3.setCell ⟨w.heap.size + 1, 0, none⟩ (.int .i64 0)).heap[pb]? = _ := (Below.heap_setCell W3 ⟨w.heap.size + 1, 0, none⟩ (.int .i64 0) pb (by have := lt_of_block hst2.res; show pb ≠ w.heap.size + 1; omega)).trans hblk
          generalize W3.setCell ⟨w.heap.size + 1, 0, none⟩ (.int .i64 0) = W9 at hst9 hblk9 ⊢
          have d9 : W9.cell? ⟨w.heap.size + 1, 0, none⟩ = some (.int .i64 0) := cell_of_row W9 _ 0 _ _ _ hst9.res
          exact bodyPost_ret (v := .tuple #[.int .i64 0, .int .i64 0, .slice none 0 0, .iface 166 (.pointer (some ⟨pb, 0, none⟩))]) (by simp [results, Tryz.results66, go_sem, d9]) rfl (DataGives.bad (c := 6) (k := 1) (by simp [dataB, hm, hq0, hk0, hq1, hk1]) ⟨pb, rfl, by have := hst2.but.size; omega, hblk9⟩ hst9.but)
        · rw [hk1] at he
          simp only [if_true, numAt_one] at he
          subst he
          clear hst2 hb3 hr3
          have hE3 := hst3.errs hE hB0
          have s3 : W3.cell? ⟨6, 0, none⟩ = some (.iface 269 (.pointer (some (A 3)))) := hE3.cell 3 (by omega)
          by_cases hq2 : n < 2 + S
          · go_wp2_with fail
            refine (next_short (some ⟨b, o, none⟩) rb n c 2 S _ _ W3 hst3.rdr hn2 (by omega) (by omega) (by omega) s3).mono ?_
            rintro e X1 ⟨v, rfl, ⟨pb, rfl, hpb, hblk⟩, hbX⟩
            have hstX := hst3.grow hbX
            have dz : X1.cell? ⟨w.heap.size + 1, 0, none⟩ = some (.int .i64 _) := cell_of_row X1 _ 0 _ _ _ hstX.res
            have fz := frozen_of_row X1 _ 0 _ _ hstX.res
            go_wp2_with fail
            have hst9 := hstX.set 0
            have hblk9 : (X1.setCell ⟨w.heap.size + 1, 0, none⟩ (.int .i64 0)).heap[pb]? = _ := (Below.heap_setCell X1 ⟨w.heap.size + 1, 0, none⟩ (.int .i64 0) pb (by have := lt_of_block hst3.res; show pb ≠ w.heap.size + 1; omega)).trans hblk
            generalize X1.setCell ⟨w.heap.size + 1, 0, none⟩ (.int .i64 0) = W9 at hst9 hblk9 ⊢
            have d9 : W9.cell? ⟨w.heap.size + 1, 0, none⟩ = some (.int .i64 0) := cell_of_row W9 _ 0 _ _ _ hst9.res
            exact bodyPost_ret (v := .tuple #[.int .i64 0, .int .i64 0, .slice none 0 0, .iface 166 (.pointer (some ⟨pb, 0, none⟩))]) (by simp [results, Tryz.results66, go_sem, d9]) rfl (DataGives.bad (c := 4) (k := n) (by simp [dataB, hm, hq0, hk0, hq1, hk1, hq2]) ⟨pb, rfl, by have := hst3.but.size; omega, hblk9⟩ hst9.but)
          · go_wp2_with fail
            refine (next_ok rb b o n c 2 S W3 hst3.rdr hn hc hs1 (by omega) hn2).mono ?_
            rintro e W4 ⟨rfl, hr4, hb4⟩
            have hst4 := hst3.next hb4 hr4
            clear hst3 hb4 hr4 s3 hE3
            have hB4 : Bs W4 b (o + 2) ((m.drop 2).take S) := fun i hi => by
              have hi' : i < S := by simp at hi; omega
              have h1 := hB (2 + i) (by rw [hm]; omega)
              rw [World.cell?_of_block (hst4.but.block b hbl hbr), show o + 2 + i = o + (2 + i) by omega]
              have e : at_ ((m.drop 2).take S) i = at_ m (2 + i) := by simp [at_, List.getD, hi']
              rw [e]; exact h1
            have hlS : ((m.drop 2).take S).length = S := by simp; omega
            have hE4 := hst4.errs hE hB0
            have l4 : W4.cell? ⟨7, 0, none⟩ = some (.iface 269 (.pointer (some (A 6)))) := hE4.cell 6 (by omega)
            have dz : W4.cell? ⟨w.heap.size + 1, 0, none⟩ = some (.int .i64 (bt m 0 : Int)) := cell_of_row W4 _ 0 _ _ _ hst4.res
            have fz := frozen_of_row W4 _ 0 _ _ hst4.res
            have hres4 := hst4.res
            go_upto_region 10 with fail
            by_cases hq3 : 2 + S < n
            · go_region_with (first
                | (go_at_call 62; refine (clone_any b (o + 2) S (c - 2) ((m.drop 2).take S) W4.drew hlS hs1 (by omega) (by exact hB4)).mono ?_; rintro e Y1 ⟨za, zc, rfl, hz1, hy1⟩; have hst5 := hst4.grow (Below.undraw hy1); have l5 : Y1.cell? ⟨7, 0, none⟩ = some (.iface 269 (.pointer (some (A 6)))) := (hst5.errs hE hB0).cell 6 (by omega); have d5 : Y1.cell? ⟨w.heap.size + 1, 0, none⟩ = some (.int .i64 (bt m 0 : Int)) := cell_of_row Y1 _ 0 _ _ _ hst5.res)
                | (go_at_call 112; refine (end_long A B0 rb b o n c (2 + S) _ (hst5.errs hE hB0) hst5.rdr (by omega) hn hc hn2).mono ?_; rintro e Y2 ⟨v, rfl, hw2, hy2⟩; have hst6 := hst5.grow hy2; have d6 : Y2.cell? ⟨w.heap.size + 1, 0, none⟩ = some (.int .i64 (bt m 0 : Int)) := cell_of_row Y2 _ 0 _ _ _ hst6.res; have f6 := frozen_of_row Y2 _ 0 _ _ hst6.res))
              all_goals go_wp2_with fail
              all_goals
                have hst9 := hst6.set (bt m 0 : Int)
                obtain ⟨pb, rfl, hpb, hblk⟩ := hw2
                have hsz := hst4.but.size
                have hsz1 := hy1.size
                have hl5 := lt_of_block hst5.res
                have hblk9 : (Y2.setCell ⟨w.heap.size + 1, 0, none⟩ (.int .i64 (bt m 0 : Int))).heap[pb]? = _ := (Below.heap_setCell Y2 ⟨w.heap.size + 1, 0, none⟩ (.int .i64 (bt m 0 : Int)) pb (by show pb ≠ w.heap.size + 1; omega)).trans hblk
                generalize Y2.setCell ⟨w.heap.size + 1, 0, none⟩ (.int .i64 (bt m 0 : Int)) = W9 at hst9 hblk9 ⊢
                have d9 : W9.cell? ⟨w.heap.size + 1, 0, none⟩ = some (.int .i64 (bt m 0 : Int)) := cell_of_row W9 _ 0 _ _ _ hst9.res
                have hsz5 := hst5.but.size
                exact bodyPost_ret (v := .tuple #[.int .i64 (bt m 0 : Int), .int .i64 (bt m 1 : Int), .slice za S zc, .iface 166 (.pointer (some ⟨pb, 0, none⟩))]) (by simp [results, Tryz.results66, go_sem, d9]) rfl (DataGives.bad (c := 7) (k := 2 + S) (by simp [dataB, hm, hq0, hk0, hq1, hk1, hq2, hq3]) ⟨pb, rfl, by omega, hblk9⟩ hst9.but)
            · obtain rfl : n = 2 + S := by omega
              go_region_with (first
                | (go_at_call 62; refine (clone_any b (o + 2) S (c - 2) ((m.drop 2).take S) W4.drew hlS hs1 (by omega) (by exact hB4)).mono ?_; rintro e Y1 ⟨za, zc, rfl, hz1, hy1⟩; have hst5 := hst4.grow (Below.undraw hy1); have l5 : Y1.cell? ⟨7, 0, none⟩ = some (.iface 269 (.pointer (some (A 6)))) := (hst5.errs hE hB0).cell 6 (by omega); have d5 : Y1.cell? ⟨w.heap.size + 1, 0, none⟩ = some (.int .i64 (bt m 0 : Int)) := cell_of_row Y1 _ 0 _ _ _ hst5.res)
                | (go_at_call 112; refine (end_ok A B0 (some ⟨b, o, none⟩) rb (2 + S) c _ (hst5.errs hE hB0) hst5.rdr hn2).mono ?_; rintro e Y2 ⟨rfl, hy2⟩; have hst6 := hst5.grow hy2; have d6 : Y2.cell? ⟨w.heap.size + 1, 0, none⟩ = some (.int .i64 (bt m 0 : Int)) := cell_of_row Y2 _ 0 _ _ _ hst6.res; have f6 := frozen_of_row Y2 _ 0 _ _ hst6.res))
              all_goals go_wp2_with fail
              all_goals
                have hst9 := hst6.set (bt m 0 : Int)
                have hsz := hst4.but.size
                have hl4 := lt_of_block hst4.res
                have hz2 := own_of_block hz1 (fun g hg => hy2.block g (hz1.lt g hg).2)
                have hz9 : (Y2.setCell ⟨w.heap.size + 1, 0, none⟩ (.int .i64 (bt m 0 : Int))).ownsRow W4.heap.size 5 1 (.slice za S zc) S (encL ((m.drop 2).take S)) := own_of_block hz2 (fun g hg => Below.heap_setCell Y2 ⟨w.heap.size + 1, 0, none⟩ (.int .i64 (bt m 0 : Int)) g (by have h9 : W4.heap.size ≤ g := (hz2.lt g hg).1; show g ≠ w.heap.size + 1; omega))
                generalize Y2.setCell ⟨w.heap.size + 1, 0, none⟩ (.int .i64 (bt m 0 : Int)) = W9 at hst9 hz9 ⊢
                have d9 : W9.cell? ⟨w.heap.size + 1, 0, none⟩ = some (.int .i64 (bt m 0 : Int)) := cell_of_row W9 _ 0 _ _ _ hst9.res
                exact bodyPost_ret (v := .tuple #[.int .i64 (bt m 0 : Int), .int .i64 (bt m 1 : Int), .slice za S zc, .nilIface]) (by simp [results, Tryz.results66, go_sem, d9]) rfl ⟨by
                  rw [show dataB K N S T m = none by simp [dataB, hm, hq0, hk0, hq1, hk1, hq2]]
                  rw [show (m.drop 2).take S = m.drop 2 from List.take_of_length_le (by simp; omega)] at hz9
                  exact ⟨za, zc, rfl, own_base hz9 hsz⟩, hst9.but⟩

end Go.Proofs.YtjabhnhejbhgjaaGreatDoor
