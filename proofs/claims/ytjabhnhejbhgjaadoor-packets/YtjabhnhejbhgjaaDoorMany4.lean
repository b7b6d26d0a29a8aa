import Derived.Test.YtjabhnhejbhgjaaDoorMany3
import Derived.Deep.RegionHeld3
/- Hands.parse. -/
namespace Go.Proofs.YtjabhnhejbhgjaaDoor
open Go.RowKit

theorem below_alloc1 (w : World) (o : Obj) : Below w.heap.size w (w.alloc o) := (Below.refl _ _).alloc (Nat.le_refl _) _
theorem typ_pk {W : World} {pb : Nat} {cs : Array Value} (h : W.heap[pb]? = some (.cells cs 57 (0, 0))) : ∀ g ds t, W.heap[g]? = some (.cells ds t (0, 0)) → g = pb → t = 57 := by
  intro g ds t hg q
  subst q
  rw [h] at hg
  simp only [Option.some.injEq, Obj.cells.injEq] at hg
  exact hg.2.1.symm
theorem typ_new {W : World} : ∀ g ds t, W.heap[g]? = some (Obj.cells ds t (0, 0)) → g = W.heap.size → t = 57 := by
  intro g ds t hg q
  have := lt_of_block hg
  omega

theorem pk_cells {W : World} {pb : Nat} (h : W.heap[pb]? = some (.cells #[.int .i64 0, .int .i64 0, .int .i64 0, .int .i64 0, .int .i64 0, .slice none 0 0, .slice none 0 0] 57 (0, 0))) :
    W.cell? ⟨pb, 0, none⟩ = some (.int .i64 0) ∧ W.cell? ⟨pb, 1, none⟩ = some (.int .i64 0) ∧ W.cell? ⟨pb, 2, none⟩ = some (.int .i64 0) ∧ W.cell? ⟨pb, 3, none⟩ = some (.int .i64 0) ∧ W.cell? ⟨pb, 4, none⟩ = some (.int .i64 0) ∧ W.cell? ⟨pb, 5, none⟩ = some (.slice none 0 0) ∧ W.cell? ⟨pb, 6, none⟩ = some (.slice none 0 0) ∧
    W.frozen? ⟨pb, 0, none⟩ = false ∧ W.frozen? ⟨pb, 1, none⟩ = false ∧ W.frozen? ⟨pb, 2, none⟩ = false ∧ W.frozen? ⟨pb, 3, none⟩ = false ∧ W.frozen? ⟨pb, 4, none⟩ = false ∧ W.frozen? ⟨pb, 5, none⟩ = false ∧ W.frozen? ⟨pb, 6, none⟩ = false :=
  ⟨cell_of_row W _ 0 _ _ _ h, cell_of_row W _ 1 _ _ _ h, cell_of_row W _ 2 _ _ _ h, cell_of_row W _ 3 _ _ _ h, cell_of_row W _ 4 _ _ _ h, cell_of_row W _ 5 _ _ _ h, cell_of_row W _ 6 _ _ _ h,
   frozen_of_row W _ 0 _ _ h, frozen_of_row W _ 1 _ _ h, frozen_of_row W _ 2 _ _ h, frozen_of_row W _ 3 _ _ h, frozen_of_row W _ 4 _ _ h, frozen_of_row W _ 5 _ _ h, frozen_of_row W _ 6 _ _ h⟩

set_option maxRecDepth 100000 in
set_option maxHeartbeats 4000000 in
theorem parseH_any (A : Nat → Addr) (B0 hb N b o n c : Nat) (a : Option Addr) (l : List Gf.F) (cK cN cS : Int) (s : HS) (es ls : List Ent) (w : World) (hI : InvP A B0 w hb N s es ls) (hC : CameB w hb a b o n c l) (hN : N ≤ 1000000) (hes : es.length ≤ 999990) (hls : ls.length ≤ 999990) :
    Calls Tryd.prog 18 #[.pointer (some ⟨hb, 0, none⟩), .agg #[.int .i64 cK, .int .i64 cN, .int .i64 cS], .slice a n c] w fun e w' =>
      e = .returned (.bool true) ∧ ∃ s' es' ls', InvP A B0 w' hb (N + 2) s' (es ++ es') (ls ++ ls') ∧ es'.length = 4 ∧ ls'.length = 4 ∧ Below hb w w' := by
  have hbl := hI.hands.lt
  have hQ0 : Q0 w hb s w := ⟨But.refl _ _, hI.hands⟩
  have hX := heap_alloc_new w (.cells #[.int .i64 cK, .int .i64 cN, .int .i64 cS] 54)
  have hQW := hQ0.alloc (.cells #[.int .i64 cK, .int .i64 cN, .int .i64 cS] 54)
  obtain ⟨p, hpe⟩ : ∃ p, p = ansOf cK cN cS l := ⟨_, rfl⟩
  have HP : Hid (p = ansOf cK cN cS l) := hpe
  clear hpe
  go_enter Tryd.func18, Tryd.ntmps18
  go_upto_region 1 with fail
  generalize w.alloc (.cells #[.int .i64 cK, .int .i64 cN, .int .i64 cS] 54) = W at *
  have hXl := lt_of_block hX
  have k0 : W.cell? ⟨w.heap.size, 0, none⟩ = some (.int .i64 cK) := cell_of_row W _ 0 _ _ _ hX
  have k1 : W.cell? ⟨w.heap.size, 1, none⟩ = some (.int .i64 cN) := cell_of_row W _ 1 _ _ _ hX
  have k2 : W.cell? ⟨w.heap.size, 2, none⟩ = some (.int .i64 cS) := cell_of_row W _ 2 _ _ _ hX
  have hne : w.heap.size ≠ hb := by omega
  go_cut [7, 8] (fun t7 t8 wx => ∃ pb G v1 a5 a6 c5 c6, t7 = .pointer (some ⟨pb, 0, none⟩) ∧ HPSt A w hb s ⟨.slice a n c, l⟩ cK cN cS p t8 wx pb G v1 a5 a6 c5 c6)
  case first =>
    have hQd := hQW.drew
    have hQp := (hQW.alloc (.cells #[.int .i64 0, .int .i64 0, .int .i64 0, .int .i64 0, .int .i64 0, .slice none 0 0, .slice none 0 0] 57)).drew
    have hPn : (W.alloc (.cells #[.int .i64 0, .int .i64 0, .int .i64 0, .int .i64 0, .int .i64 0, .slice none 0 0, .slice none 0 0] 57)).drew.heap[W.heap.size]? = some (.cells #[.int .i64 0, .int .i64 0, .int .i64 0, .int .i64 0, .int .i64 0, .slice none 0 0, .slice none 0 0] 57 (0, 0)) := heap_alloc_new W (.cells #[.int .i64 0, .int .i64 0, .int .i64 0, .int .i64 0, .int .i64 0, .slice none 0 0, .slice none 0 0] 57)
    have hnP : ¬ W.heap.size = hb := by omega
    have hXd : W.drew.heap[w.heap.size]? = some (.cells #[.int .i64 cK, .int .i64 cN, .int .i64 cS] 54 (0, 0)) := hX
    have hXp : (W.alloc (.cells #[.int .i64 0, .int .i64 0, .int .i64 0, .int .i64 0, .int .i64 0, .slice none 0 0, .slice none 0 0] 57)).drew.heap[w.heap.size]? = some (.cells #[.int .i64 cK, .int .i64 cN, .int .i64 cS] 54 (0, 0)) := (Below.heap_alloc W _ _ hXl).trans hX
    go_region_with (first
      | (go_at_call 42; refine (bytes_ph hI hC _ ?hq).mono ?_; (case hq => first | with_reducible exact hQd | with_reducible exact hQp); rintro e w1 ⟨G, v1, rfl, hq1, hbu1, hG1⟩; (have hX1 : w1.heap[w.heap.size]? = some (.cells #[.int .i64 cK, .int .i64 cN, .int .i64 cS] 54 (0, 0)) := by first | exact (hbu1.block _ (lt_of_block hXd) hne).trans hXd | exact (hbu1.block _ (lt_of_block hXp) hne).trans hXp); have j0 : w1.cell? ⟨w.heap.size, 0, none⟩ = some (.int .i64 cK) := cell_of_row w1 _ 0 _ _ _ hX1; have j1 : w1.cell? ⟨w.heap.size, 1, none⟩ = some (.int .i64 cN) := cell_of_row w1 _ 1 _ _ _ hX1; have j2 : w1.cell? ⟨w.heap.size, 2, none⟩ = some (.int .i64 cS) := cell_of_row w1 _ 2 _ _ _ hX1; have hl1 := lt_of_block hX1; have hl2 : ¬ w.heap.size = w1.heap.size := Nat.ne_of_lt hl1; (first | (have hPw : w1.heap[W.heap.size]? = some (.cells #[.int .i64 0, .int .i64 0, .int .i64 0, .int .i64 0, .int .i64 0, .slice none 0 0, .slice none 0 0] 57 (0, 0)) := (hbu1.block W.heap.size (lt_of_block hPn) hnP).trans hPn) | skip))
      | (go_at_call 17; refine (parse_ph (v1 := v1) cK cN cS hI hC _ ?hq).mono ?_; (case hq => first | with_reducible exact hq1 | exact hq1.alloc _); rintro e w2 ⟨u, a5, a6, c5, c6, rfl, hq2, hd2, hk2, hu2, hb2⟩; (have hX2 : w2.heap[w.heap.size]? = some (.cells #[.int .i64 cK, .int .i64 cN, .int .i64 cS] 54 (0, 0)) := by first | exact (hb2.block _ hl1).trans hX1 | exact (hb2.block _ (Nat.lt_of_lt_of_le hl1 (below_alloc1 w1 _).size)).trans ((Below.heap_alloc w1 _ _ hl1).trans hX1)); have hz2 := hb2.size; (first | (have hP2 := (hb2.block _ (lt_of_block hPw)).trans hPw; obtain ⟨i0, i1, i2, i3, i4, i5, i6, f0, f1, f2, f3, f4, f5, f6⟩ := pk_cells hP2) | (have hPn1 := heap_alloc_new w1 (.cells #[.int .i64 0, .int .i64 0, .int .i64 0, .int .i64 0, .int .i64 0, .slice none 0 0, .slice none 0 0] 57); have hP2 := (hb2.block _ (lt_of_block hPn1)).trans hPn1; obtain ⟨i0, i1, i2, i3, i4, i5, i6, f0, f1, f2, f3, f4, f5, f6⟩ := pk_cells hP2) | skip)))
    all_goals go_wp2_with fail
    all_goals go_meet
    all_goals (obtain rfl : p = ansOf cK cN cS l := HP.out)
    all_goals first
      | (obtain ⟨h71, h72⟩ := put7 w2 _ (.int .i64 0) (.int .i64 0) (.int .i64 0) (.int .i64 0) (.int .i64 0) (.slice none 0 0) (.slice none 0 0) (.int .i64 ((ansOf cK cN cS l).x0 : Int)) (.int .i64 ((ansOf cK cN cS l).x1 : Int)) (.int .i64 ((ansOf cK cN cS l).x2 : Int)) (.int .i64 ((ansOf cK cN cS l).x3 : Int)) (.int .i64 ((ansOf cK cN cS l).x4 : Int)) (.slice a5 (ansOf cK cN cS l).d.length c5) (.slice a6 (ansOf cK cN cS l).n6 c6) hP2
         have hpn := typ_pk hP2
         exact ⟨_, G, v1, a5, a6, c5, c6, rfl, HPSt.of hq2 hd2 hk2 hu2 hX2 hpn h72 (by omega) h71⟩)
      | exact ⟨w2.heap.size, G, v1, a5, a6, c5, c6, rfl, HPSt.of hq2 hd2 hk2 hu2 hX2 typ_new ((But.refl _ _).alloc _) (by have := lt_of_block hX2; omega) (heap_alloc_new w2 _)⟩
  case rest =>
    obtain ⟨pb, G, v1, a5, a6, c5, c6, rfl, hst⟩ := hcut
    clear hX hXl k0 k1 k2 hQW hQ0
    go_wp2_with fail
    refine (back_ph hI hC _ _ hst.q1).mono ?_
    rintro e w3 ⟨rfl, hq3, hb3⟩
    have hk3 := hst.back hbl hq3 hb3
    have hC3 := hC.but hbl hq3.but
    have m0 : w3.cell? ⟨w.heap.size, 0, none⟩ = some (.int .i64 cK) := cell_of_row w3 _ 0 _ _ _ hk3.cfg
    have m1 : w3.cell? ⟨w.heap.size, 1, none⟩ = some (.int .i64 cN) := cell_of_row w3 _ 1 _ _ _ hk3.cfg
    have m2 : w3.cell? ⟨w.heap.size, 2, none⟩ = some (.int .i64 cS) := cell_of_row w3 _ 2 _ _ _ hk3.cfg
    clear hst hb3
    go_wp2_with fail
    refine (refParse a b o n c cK cN cS l w3 hC.len hC.cap (by have := hC.few; omega) hC.adr hC3.bs (fun h => by have := hC.low h; have := hq3.hands.lt; omega)).mono ?_
    rintro e w4 ⟨v, b5, b6, d5, d6, rfl, hr4⟩
    obtain rfl := hr4.val
    rw [← HP.out] at hr4 ⊢
    have hk4 := hk3.above hr4.low
    clear m0 m1 m2 hk3 hq3 hC3
    go_upto_region 4 with fail
    have hb5 : Below w4.heap.size w4 ((w4.alloc (.cells #[.int .i64 (p.x0 : Int), .int .i64 (p.x1 : Int), .int .i64 (p.x2 : Int), .int .i64 (p.x3 : Int), .int .i64 (p.x4 : Int), .slice b5 p.d.length d5, .slice b6 p.n6 d6] 57)).alloc (.cells #[.int .i64 (p.c : Int), .int .i64 p.z] 74)) := ((Below.refl _ _).alloc (Nat.le_refl _) _).alloc (by simp) _
    have hP5 : ((w4.alloc (.cells #[.int .i64 (p.x0 : Int), .int .i64 (p.x1 : Int), .int .i64 (p.x2 : Int), .int .i64 (p.x3 : Int), .int .i64 (p.x4 : Int), .slice b5 p.d.length d5, .slice b6 p.n6 d6] 57)).alloc (.cells #[.int .i64 (p.c : Int), .int .i64 p.z] 74)).heap[w4.heap.size]? = some (.cells #[.int .i64 (p.x0 : Int), .int .i64 (p.x1 : Int), .int .i64 (p.x2 : Int), .int .i64 (p.x3 : Int), .int .i64 (p.x4 : Int), .slice b5 p.d.length d5, .slice b6 p.n6 d6] 57 (0, 0)) := (Below.heap_alloc _ _ _ (by simp)).trans (heap_alloc_new w4 _)
    have hR5 : ((w4.alloc (.cells #[.int .i64 (p.x0 : Int), .int .i64 (p.x1 : Int), .int .i64 (p.x2 : Int), .int .i64 (p.x3 : Int), .int .i64 (p.x4 : Int), .slice b5 p.d.length d5, .slice b6 p.n6 d6] 57)).alloc (.cells #[.int .i64 (p.c : Int), .int .i64 p.z] 74)).heap[w4.heap.size + 1]? = some (.cells #[.int .i64 (p.c : Int), .int .i64 p.z] 74 (0, 0)) := by
      have := heap_alloc_new (w4.alloc (.cells #[.int .i64 (p.x0 : Int), .int .i64 (p.x1 : Int), .int .i64 (p.x2 : Int), .int .i64 (p.x3 : Int), .int .i64 (p.x4 : Int), .slice b5 p.d.length d5, .slice b6 p.n6 d6] 57)) (.cells #[.int .i64 (p.c : Int), .int .i64 p.z] 74)
      simpa using this
    have hd4' := hr4.data
    have hl4' := hr4.lacks
    have hs34 := hr4.low.size
    generalize (w4.alloc (.cells #[.int .i64 (p.x0 : Int), .int .i64 (p.x1 : Int), .int .i64 (p.x2 : Int), .int .i64 (p.x3 : Int), .int .i64 (p.x4 : Int), .slice b5 p.d.length d5, .slice b6 p.n6 d6] 57)).alloc (.cells #[.int .i64 (p.c : Int), .int .i64 p.z] 74) = w5 at hb5 hP5 hR5 ⊢
    have hk5 := hk4.above hb5
    have hd5 : w5.ownsRow w3.heap.size 5 1 (.slice b5 p.d.length d5) p.d.length (encL p.d) := own_of_block hd4' (fun g hg => hb5.block g (hd4'.lt g hg).2)
    have hl5 : w5.ownsRow w3.heap.size 110 2 (.slice b6 p.n6 d6) p.n6 (lackCells p.f p.n6) := own_of_block hl4' (fun g hg => hb5.block g (hl4'.lt g hg).2)
    clear hr4 hd4' hl4' hk4 hb5
    have hSP : Calls Tryd.prog 44 #[.agg #[.int .i64 (p.x0 : Int), .int .i64 (p.x1 : Int), .int .i64 (p.x2 : Int), .int .i64 (p.x3 : Int), .int .i64 (p.x4 : Int), .slice a5 p.d.length c5, .slice a6 p.n6 c6], .agg #[.int .i64 (p.x0 : Int), .int .i64 (p.x1 : Int), .int .i64 (p.x2 : Int), .int .i64 (p.x3 : Int), .int .i64 (p.x4 : Int), .slice b5 p.d.length d5, .slice b6 p.n6 d6]] w5 fun e w' => e = .returned (.bool true) ∧ Below w5.heap.size w5 w' :=
      samePacket_any _ _ _ _ _ a5 b5 a6 b6 p.d.length p.d.length c5 d5 p.n6 c6 d6 p.d (fun i => (bt p.f (1 + 2 * i), bt p.f (1 + 2 * i + 1))) w5
        (fun W hW => (own_raw (own_of_block hk5.data (fun g hg => hW.block g (hk5.data.lt g hg).2)) rfl).conv 0) (fun W hW => (own_raw (own_of_block hd5 (fun g hg => hW.block g (hd5.lt g hg).2)) rfl).conv 0)
        (own_lacksIn hk5.lacks) (own_lacksIn hl5) (own_lacks_lt hk5.lacks) (own_lacks_lt hl5) (by have := (ansOf_small cK cN cS l).1; rw [← HP.out] at this; omega)
    have HSP : Hid _ := hSP
    clear hSP hd5 hl5
    have q0 : w5.cell? ⟨pb, 0, none⟩ = some (.int .i64 (p.x0 : Int)) := cell_of_row w5 _ 0 _ _ _ hk5.pk
    have q1 : w5.cell? ⟨pb, 1, none⟩ = some (.int .i64 (p.x1 : Int)) := cell_of_row w5 _ 1 _ _ _ hk5.pk
    have q2 : w5.cell? ⟨pb, 2, none⟩ = some (.int .i64 (p.x2 : Int)) := cell_of_row w5 _ 2 _ _ _ hk5.pk
    have q3 : w5.cell? ⟨pb, 3, none⟩ = some (.int .i64 (p.x3 : Int)) := cell_of_row w5 _ 3 _ _ _ hk5.pk
    have q4 : w5.cell? ⟨pb, 4, none⟩ = some (.int .i64 (p.x4 : Int)) := cell_of_row w5 _ 4 _ _ _ hk5.pk
    have q5 : w5.cell? ⟨pb, 5, none⟩ = some (.slice a5 p.d.length c5) := cell_of_row w5 _ 5 _ _ _ hk5.pk
    have q6 : w5.cell? ⟨pb, 6, none⟩ = some (.slice a6 p.n6 c6) := cell_of_row w5 _ 6 _ _ _ hk5.pk
    have r0 : w5.cell? ⟨w4.heap.size, 0, none⟩ = some (.int .i64 (p.x0 : Int)) := cell_of_row w5 _ 0 _ _ _ hP5
    have r1 : w5.cell? ⟨w4.heap.size, 1, none⟩ = some (.int .i64 (p.x1 : Int)) := cell_of_row w5 _ 1 _ _ _ hP5
    have r2 : w5.cell? ⟨w4.heap.size, 2, none⟩ = some (.int .i64 (p.x2 : Int)) := cell_of_row w5 _ 2 _ _ _ hP5
    have r3 : w5.cell? ⟨w4.heap.size, 3, none⟩ = some (.int .i64 (p.x3 : Int)) := cell_of_row w5 _ 3 _ _ _ hP5
    have r4 : w5.cell? ⟨w4.heap.size, 4, none⟩ = some (.int .i64 (p.x4 : Int)) := cell_of_row w5 _ 4 _ _ _ hP5
    have r5 : w5.cell? ⟨w4.heap.size, 5, none⟩ = some (.slice b5 p.d.length d5) := cell_of_row w5 _ 5 _ _ _ hP5
    have r6 : w5.cell? ⟨w4.heap.size, 6, none⟩ = some (.slice b6 p.n6 d6) := cell_of_row w5 _ 6 _ _ _ hP5
    go_wp2_with fail
    refine Calls.mono HSP.out ?_
    rintro e w6 ⟨rfl, hb6⟩
    clear HSP q0 q1 q2 q3 q4 q5 q6 r0 r1 r2 r3 r4 r5 r6 hP5
    have hk6 := hk5.above hb6
    have hR6 := (hb6.block _ (lt_of_block hR5)).trans hR5
    have q5 : w6.cell? ⟨pb, 5, none⟩ = some (.slice a5 p.d.length c5) := cell_of_row w6 _ 5 _ _ _ hk6.pk
    clear hk5 hR5 hb6
    have hI6 := hI.at hk6.q0
    have hdl : p.d.length ≤ 14073748835500 := by have h1 := ansOf_data cK cN cS l; rw [← HP.out] at h1; omega
    have hnl : p.n6 ≤ 255 := by have h1 := (ansOf_small cK cN cS l).1; rw [← HP.out] at h1; exact h1
    have hsz6 := hk6.q0.but.size
    go_wp2_with fail
    refine (keepP_any hI6 (by omega) (by omega) _ _ hk6.data hdl hsz6 (by omega) (fun e he g hg q => by
      have h1 := ((hI.outs.each e he).1.lt q).1
      have h2 := (hk6.data.lt g hg).1
      omega)).mono ?_
    rintro e w7 ⟨rfl, s7, es', hI7, hes4, hla7, hb7, hS7, hsz7⟩
    have hpk7 := (hS7 _ _ _ hk6.pk (.inl rfl)).trans hk6.pk
    have hR7 := (hS7 _ _ _ hR6 (.inr (.inr (.inr rfl)))).trans hR6
    have hl7 : w7.ownsRow w.heap.size 110 2 (.slice a6 p.n6 c6) p.n6 (lackCells p.f p.n6) := own_of_block hk6.lacks (fun g hg => by
      obtain ⟨cur, hc⟩ := own_block hk6.lacks hg
      exact hS7 _ _ _ hc (.inr (.inl rfl)))
    have he7 : ESays A w w7 _ p := ESays.kept hk6.err (fun g cs hg => hS7 _ _ _ hg (.inr (.inr (.inl rfl))))
    have hbw7 : Below hb w w7 := (hk6.q0.but.toBelow (by omega) (fun k hk q => by omega)).trans hb7
    have q6 : w7.cell? ⟨pb, 6, none⟩ = some (.slice a6 p.n6 c6) := cell_of_row w7 _ 6 _ _ _ hpk7
    clear hpk7 q5 hS7 hR6 hI6
    go_wp2_with fail
    refine (keepLacksP_any hI7 (by omega) (by omega) _ _ hl7 (by omega) (by omega) (by omega) (fun e he g hg q => by
      have h1 := ((hI.lks.each e he).1.lt q).1
      have h2 := (hl7.lt g hg).1
      omega)).mono ?_
    rintro e w8 ⟨rfl, s8, ls', hI8, hls4, hb8, hS8⟩
    have hR8 := (hS8 _ _ _ hR7 (.inr rfl)).trans hR7
    have he8 : ESays A w w8 _ p := ESays.kept he7 (fun g cs hg => hS8 _ _ _ hg (.inl rfl))
    have hbw8 := hbw7.trans hb8
    clear hS8 hR7 he7 hl7 q6 hI7 hk6
    go_wp2_with fail
    refine (holdsL_any hb hb s8 (es ++ es') (ls ++ ls') w8 hI8.hands hI8.outs hI8.lks (by simp; omega) (by simp; omega) hI8.outer0 hI8.objs0).mono ?_
    rintro e w9 ⟨rfl, nq, hw9⟩
    have hI9 : InvP A B0 w9 hb (N + 2) s8 (es ++ es') (ls ++ ls') := by rw [hw9]; exact hI8.drewN nq
    have hR9 : w9.heap[w4.heap.size + 1]? = some (.cells #[.int .i64 (p.c : Int), .int .i64 p.z] 74 (0, 0)) := by rw [hw9]; exact hR8
    have he9 : ESays A w w9 u8 p := by rw [hw9]; exact he8
    have hbw9 : Below hb w w9 := by rw [hw9]; exact hbw8.trans ⟨rfl, rfl, rfl, Nat.le_refl _, fun _ _ => rfl⟩
    clear hw9 hI8 hR8 he8 hbw8
    have e0 : w9.cell? ⟨w4.heap.size + 1, 0, none⟩ = some (.int .i64 (p.c : Int)) := cell_of_row w9 _ 0 _ _ _ hR9
    have e1 : w9.cell? ⟨w4.heap.size + 1, 1, none⟩ = some (.int .i64 p.z) := cell_of_row w9 _ 1 _ _ _ hR9
    go_upto_region 8 with fail
    have hE9 : Errs A B0 w9.drew := hI9.errs.below ⟨rfl, rfl, rfl, Nat.le_refl _, fun _ _ => rfl⟩
    have he9d : ESays A w w9.drew u8 p := he9
    have hR9l := lt_of_block hR9
    go_region_held3 (fun w' => w'.cell? ⟨w4.heap.size + 1, 0, none⟩ = some (.int .i64 (p.c : Int)) ∧ w'.cell? ⟨w4.heap.size + 1, 1, none⟩ = some (.int .i64 p.z)) (go_keep) (first | (go_at_call 30; refine (told_says hE9 he9d).mono ?_; rintro e w10 ⟨rfl, hb10⟩; have hR10 := (hb10.block _ hR9l).trans hR9; have x0 : w10.cell? ⟨w4.heap.size + 1, 0, none⟩ = some (.int .i64 (p.c : Int)) := cell_of_row w10 _ 0 _ _ _ hR10; have x1 : w10.cell? ⟨w4.heap.size + 1, 1, none⟩ = some (.int .i64 p.z) := cell_of_row w10 _ 1 _ _ _ hR10))
    all_goals go_wp2_with fail
    all_goals go_ret
    all_goals exact ⟨rfl, s8, es', ls', hI9.above (Below.undraw hb10), hes4, hls4, hbw9.trans ((Below.undraw hb10).mono (by have := hI9.hands.lt; show hb ≤ w9.heap.size; omega))⟩

end Go.Proofs.YtjabhnhejbhgjaaDoor

/- Packets. -/
namespace Go.Proofs.YtjabhnhejbhgjaaDoor
open Go.RowKit

/-- Hands as it is made. -/
def hp0 : HS := ⟨.slice none 0 0, .slice none 0 0, .slice none 0 0, .slice none 0 0, 0, .slice none 0 0, .slice none 0 0, .slice none 0 0, .slice none 0 0, .slice none 0 0, .slice none 0 0, .slice none 0 0, .slice none 0 0⟩

theorem InvP.start {A : Nat → Addr} {B0 : Nat} {w : World} {hb : Nat} (hE : Errs A B0 w) (hT : ErrType w) (hTl : 8 < hb) (hlow : B0 ≤ hb) (hH : HAt w hb hp0) : InvP A B0 w hb 0 hp0 [] [] :=
  ⟨hE, hT, hTl, hlow, hH, rfl, rfl, rfl, rfl, rfl, ⟨World.ownsRow_nil .., World.ownsRow_nil .., fun e he => by simp at he⟩, ⟨World.ownsRow_nil .., World.ownsRow_nil .., fun e he => by simp at he⟩, rfl, rfl, fun g hg => by simp [hp0, Value.ownBlock] at hg⟩

theorem CameB.at {w w' : World} {H hb b o n c : Nat} {a : Option Addr} {l : List Gf.F} (h : CameB w H a b o n c l) (hb' : Below H w w') (hH : H ≤ hb) : CameB w' hb a b o n c l :=
  have h1 := h.below hb'
  ⟨h1.len, h1.cap, h1.cap2, h1.few, h1.adr, h1.bs, fun h0 => Nat.lt_of_lt_of_le (h1.low h0) hH⟩

def exP : List Gf.F := [2#8, 0#8, 0#8, 4#8, 1#8, 0#8, 1#8]
theorem exAns : ansOf 2 4 3 exP = ⟨2, 0, 4, 0, 0, [], 1, [1#8, 0#8, 1#8], 0, -1⟩ := by kernel_rfl

set_option maxRecDepth 100000 in
set_option maxHeartbeats 2000000 in
theorem packets_any (A : Nat → Addr) (b o n c b2 o2 n2 c2 : Nat) (a a2 : Option Addr) (l l2 : List Gf.F) (K N S K2 N2 S2 : Int) (w : World) (hE : Errs A w.heap.size w) (hT : ErrType w) (hTl : 8 < w.heap.size) (hC : CameB w w.heap.size a b o n c l) (hC2 : CameB w w.heap.size a2 b2 o2 n2 c2 l2) :
    Calls Tryd.prog 6 #[.agg #[.int .i64 K, .int .i64 N, .int .i64 S], .slice a n c, .agg #[.int .i64 K2, .int .i64 N2, .int .i64 S2], .slice a2 n2 c2] w fun e w' => e = .returned (.bool true) ∧ Below w.heap.size w w' := by
  go_enter Tryd.func6, Tryd.ntmps6
  go_wp2_with fail
  generalize hW : ((w.alloc (Obj.cells _ _)).alloc (Obj.cells _ _)).alloc (Obj.cells _ _) = W
  have hb1 : Below w.heap.size w W := by rw [← hW]; exact (((Below.refl _ _).alloc (Nat.le_refl _) _).alloc (by simp) _).alloc (by simp; omega) _
  have hX1 : W.heap[w.heap.size]? = some (.cells #[.int .i64 K, .int .i64 N, .int .i64 S] 54 (0, 0)) := by
    rw [← hW, Below.heap_alloc _ _ _ (by simp; omega), Below.heap_alloc _ _ _ (by simp)]; exact heap_alloc_new w _
  have hX2 : W.heap[w.heap.size + 1]? = some (.cells #[.int .i64 K2, .int .i64 N2, .int .i64 S2] 54 (0, 0)) := by
    rw [← hW, Below.heap_alloc _ _ _ (by simp)]
    have := heap_alloc_new (w.alloc (.cells #[.int .i64 K, .int .i64 N, .int .i64 S] 54)) (.cells #[.int .i64 K2, .int .i64 N2, .int .i64 S2] 54)
    simpa using this
  have hBk : Blk W (w.heap.size + 2) exP := by
    rw [← hW]
    have := heap_alloc_new ((w.alloc (.cells #[.int .i64 K, .int .i64 N, .int .i64 S] 54)).alloc (.cells #[.int .i64 K2, .int .i64 N2, .int .i64 S2] 54)) (.cells (enc exP) 5)
    have e2 : ((w.alloc (.cells #[.int .i64 K, .int .i64 N, .int .i64 S] 54)).alloc (.cells #[.int .i64 K2, .int .i64 N2, .int .i64 S2] 54)).heap.size = w.heap.size + 2 := by simp
    rw [e2] at this
    exact this
  clear hW
  have hl1 := lt_of_block hX1
  have hl2 := lt_of_block hX2
  refine (progParse A w.heap.size _ (w.heap.size + 2) 0 7 7 2 4 3 exP W (hE.below hb1) (hT.below hb1 hTl) (by have := hb1.size; omega) rfl (by omega) (by omega) (by omega) (fun _ => rfl) hBk.bs (fun _ => hBk.lt)).mono ?_
  rintro e W2 ⟨v, u, a5, a6, c5, c6, rfl, hp, hu⟩
  rw [exAns] at hp hu
  obtain rfl := hp.val
  obtain rfl : u = .nilIface := by
    rcases hu with ⟨_, _, h⟩ | ⟨i, _, h, _⟩
    · exact h
    · cases h
  have hb2 : Below w.heap.size w W2 := hb1.trans (hp.low.mono hb1.size)
  have hX1b := (hp.low.block _ hl1).trans hX1
  have hX2b := (hp.low.block _ hl2).trans hX2
  clear hp hu hBk hX1 hX2 hl1 hl2 hb1
  go_upto_region 5 with fail
  have hz2 := hb2.size
  generalize hW3 : (W2.alloc (Obj.cells _ _)).alloc (Obj.cells _ _) = W3
  have hb3 : Below W2.heap.size W2 W3 := by rw [← hW3]; exact ((Below.refl _ _).alloc (Nat.le_refl _) _).alloc (by simp) _
  have hH3 : HAt W3 (W2.heap.size + 1) hp0 := by
    rw [← hW3]
    have := heap_alloc_new (W2.alloc (.cells #[.int .i64 2, .int .i64 0, .int .i64 4, .int .i64 0, .int .i64 0, .slice a5 0 c5, .slice a6 1 c6] 57)) (.cells hp0.cells 43)
    have e2 : (W2.alloc (.cells #[.int .i64 2, .int .i64 0, .int .i64 4, .int .i64 0, .int .i64 0, .slice a5 0 c5, .slice a6 1 c6] 57)).heap.size = W2.heap.size + 1 := by simp
    rw [e2] at this
    exact this
  clear hW3
  have hX13 := (hb3.block _ (lt_of_block hX1b)).trans hX1b
  have hX23 := (hb3.block _ (lt_of_block hX2b)).trans hX2b
  have hbw3 : Below w.heap.size w W3 := hb2.trans (hb3.mono hz2)
  have hhl : w.heap.size + 1 < W2.heap.size + 1 := by have := lt_of_block hX2b; omega
  have hI3 := InvP.start (hb := W2.heap.size + 1) (hE.below hbw3) (hT.below hbw3 hTl) (by omega) (by omega) hH3
  have x0 : W3.cell? ⟨w.heap.size, 0, none⟩ = some (.int .i64 K) := cell_of_row W3 _ 0 _ _ _ hX13
  have x1 : W3.cell? ⟨w.heap.size, 1, none⟩ = some (.int .i64 N) := cell_of_row W3 _ 1 _ _ _ hX13
  have x2 : W3.cell? ⟨w.heap.size, 2, none⟩ = some (.int .i64 S) := cell_of_row W3 _ 2 _ _ _ hX13
  clear hH3 hX1b hX2b hb3
  go_wp2_with fail
  refine (parseH_any A w.heap.size (W2.heap.size + 1) 0 b o n c a l K N S hp0 [] [] W3 hI3 (hC.at hbw3 (by omega)) (by omega) (by simp) (by simp)).mono ?_
  rintro e W4 ⟨rfl, s4, es4, ls4, hI4, he4, hk4, hb4⟩
  have hX14 := (hb4.block _ (by omega)).trans hX13
  have hX24 := (hb4.block _ (by omega)).trans hX23
  have hbw4 : Below w.heap.size w W4 := hbw3.trans (hb4.mono (by omega))
  have y0 : W4.cell? ⟨w.heap.size + 1, 0, none⟩ = some (.int .i64 K2) := cell_of_row W4 _ 0 _ _ _ hX24
  have y1 : W4.cell? ⟨w.heap.size + 1, 1, none⟩ = some (.int .i64 N2) := cell_of_row W4 _ 1 _ _ _ hX24
  have y2 : W4.cell? ⟨w.heap.size + 1, 2, none⟩ = some (.int .i64 S2) := cell_of_row W4 _ 2 _ _ _ hX24
  clear x0 x1 x2 hX13 hX23 hI3 hb4
  go_wp2_with fail
  refine (parseH_any A w.heap.size (W2.heap.size + 1) 2 b2 o2 n2 c2 a2 l2 K2 N2 S2 s4 ([] ++ es4) ([] ++ ls4) W4 hI4 (hC2.at hbw4 (by omega)) (by omega) (by simp; omega) (by simp; omega)).mono ?_
  rintro e W5 ⟨rfl, s5, es5, ls5, hI5, he5, hk5, hb5⟩
  have hX15 := (hb5.block _ (by omega)).trans hX14
  have hbw5 : Below w.heap.size w W5 := hbw4.trans (hb5.mono (by omega))
  have z0 : W5.cell? ⟨w.heap.size, 0, none⟩ = some (.int .i64 K) := cell_of_row W5 _ 0 _ _ _ hX15
  have z1 : W5.cell? ⟨w.heap.size, 1, none⟩ = some (.int .i64 N) := cell_of_row W5 _ 1 _ _ _ hX15
  have z2 : W5.cell? ⟨w.heap.size, 2, none⟩ = some (.int .i64 S) := cell_of_row W5 _ 2 _ _ _ hX15
  clear y0 y1 y2 hX14 hX24 hI4 hb5
  go_wp2_with fail
  refine (parseH_any A w.heap.size (W2.heap.size + 1) 4 b o n c a l K N S s5 ([] ++ es4 ++ es5) ([] ++ ls4 ++ ls5) W5 hI5 (hC.at hbw5 (by omega)) (by omega) (by simp; omega) (by simp; omega)).mono ?_
  rintro e W6 ⟨rfl, s6, es6, ls6, hI6, he6, hk6, hb6⟩
  have hbw6 : Below w.heap.size w W6 := hbw5.trans (hb6.mono (by omega))
  clear hI5 hI6 z0 z1 z2
  go_wp2_with fail
  all_goals go_ret
  all_goals exact ⟨rfl, hbw6⟩

end Go.Proofs.YtjabhnhejbhgjaaDoor
