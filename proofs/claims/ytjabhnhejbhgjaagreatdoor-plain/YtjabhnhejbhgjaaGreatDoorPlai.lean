/- Plain, walked. -/
import Derived.Test.YtjabhnhejbhgjaaGreatDoorNetPlain
namespace Go.Proofs.YtjabhnhejbhgjaaGreatDoor
open Go.RowKit

set_option maxRecDepth 100000 in
set_option maxHeartbeats 4000000 in
theorem plain_any {A : Nat → Addr} {B0 L c lb lo : Nat} {a : Option Addr} {k many size : Int} {ss : List ByteArray} {w : World} (hE : Errs A B0 w) (hT : ErrType w) (hTl : 8 < w.heap.size) (h1 : In64 k) (h2 : In64 many) (h3 : In64 size) (hss : StrsAt (fun _ => 1) w lb lo ss) (hL : ss.length = L) (hL2 : L ≤ 140737488355328) (ha : 0 < L → a = some ⟨lb, lo, none⟩) :
    Calls Tryz.prog 7 #[.int .i64 k, .int .i64 many, .int .i64 size, .slice a L c] w fun e w' => e = .returned (.bool true) ∧ Below w.heap.size w w' := by
  have HCF := config_any h1 h2 h3 w
  have HE : Hid (Errs A B0 w) := hE
  have HT : Hid (ErrType w) := hT
  have HTL : Hid (8 < w.heap.size) := hTl
  have HSS : Hid (StrsAt (fun _ => 1) w lb lo ss) := hss
  have HLE : Hid (ss.length = L) := hL
  have HA : Hid (0 < L → a = some ⟨lb, lo, none⟩) := ha
  clear hE hT hTl h1 h2 h3 hss hL ha
  go_enter Tryz.func7, Tryz.ntmps7
  go_wp2_with fail
  refine HCF.mono ?_
  rintro e w0 ⟨K, N, S, rfl, hc, hb0⟩
  have HC : Hid (Cfg K N S) := hc
  have HB0 : Hid (Below w.heap.size w w0) := hb0
  clear HCF hc hb0
  go_upto_region 2 with fail
  have hX := heap_alloc_new w0 (.cells #[.int .i64 (K : Int), .int .i64 (N : Int), .int .i64 (S : Int)] 30)
  have HB1 : Hid (Below w.heap.size w (w0.alloc (.cells #[.int .i64 (K : Int), .int .i64 (N : Int), .int .i64 (S : Int)] 30))) := HB0.out.alloc HB0.out.size _
  generalize w0.alloc (.cells #[.int .i64 (K : Int), .int .i64 (N : Int), .int .i64 (S : Int)] 30) = w1 at *
  generalize w0.heap.size = cb at *
  have x0 : w1.cell? ⟨cb, 0, none⟩ = some (.int .i64 (K : Int)) := cell_of_row w1 _ 0 _ _ _ hX
  have x1 : w1.cell? ⟨cb, 1, none⟩ = some (.int .i64 (N : Int)) := cell_of_row w1 _ 1 _ _ _ hX
  have x2 : w1.cell? ⟨cb, 2, none⟩ = some (.int .i64 (S : Int)) := cell_of_row w1 _ 2 _ _ _ hX
  have HX : Hid (w1.heap[cb]? = some (.cells #[.int .i64 (K : Int), .int .i64 (N : Int), .int .i64 (S : Int)] 30 (0, 0))) := hX
  have HBG := begin_any (many := 0) HC.out ⟨by omega, by omega⟩ (HE.out.below (HB1.out.mono HE.out.size)) (HT.out.below HB1.out HTL.out) (Nat.lt_of_lt_of_le HTL.out HB1.out.size)
  clear hX
  go_wp2_with fail
  refine HBG.mono ?_
  rintro e w2 ⟨nb, cb2, n, rfl, hn, own2, st2, hI2, hg2, hf2, hbn2, hl2, _, _⟩
  have hn1 : n = 1 := by have e : pickI 0 3 = 0 := by decide
                         omega
  subst hn1
  have HI : Hid (NetIn A B0 w1 nb 1 w2 (fun st => PlS 0 st ∧ st.S = S)) := ⟨own2, st2, hI2, hg2, begun_open hbn2, hl2, hf2, pl_begun hbn2 (by omega), hbn2.cfg.2.2⟩
  have HS1 : Hid (StrsAt (fun _ => 1) w1 lb lo ss) := HSS.out.fr (fr_of_below HB1.out)
  obtain ⟨k1, k8, kn, n16, s1, s8⟩ := HC.out
  clear HBG hI2 hg2 hf2 hbn2 hl2 hn x0 x1 x2
  go_wp2_with fail
  go_loopw [11, 12, 13, 14, 15, 16, 17, 18, 19, 20, 21] (fun ok t _ _ _ _ _ _ _ _ _ wr => ∃ i : Nat, i ≤ 16 ∧ t = .int .i64 (i : Int) ∧ ok = .bool true ∧ Hid (NetIn A B0 w1 nb 1 wr (fun st => PlS i st ∧ st.S = S))) (fun _ t _ _ _ _ _ _ _ _ _ _ => 16 - (intOf t).toNat)
  case atStart => exact ⟨0, by omega, rfl, rfl, HI⟩
  case round =>
    obtain ⟨i, hi, rfl, rfl, HJ⟩ := hrel
    by_cases hlt : i < L ∧ i < 16
    · obtain ⟨hlt1, hlt2⟩ := hlt
      have hl1 : (i : Int) < (L : Int) := by omega
      have hl2 : (i : Int) < 16 := by omega
      have hl0 : (0 : Int) ≤ (i : Int) := by omega
      obtain ⟨own5, st5, hI5, hg5, ho5, hl5, hf5, hP5, hS5⟩ := HJ.out
      have hc5 := (HS1.out.fr hf5).cell i (by rw [HLE.out]; exact hlt1)
      have HOB := object_any (ss.getD i ByteArray.empty) wr
      have ha' := HA.out (by omega)
      subst ha'
      have HI5 : Hid (NI A B0 w1.heap.size own5 wr nb st5) := hI5
      have HG5 : Hid (NG st5) := hg5
      have HO5 : Hid st5.Open := ho5
      have HL5 : Hid (st5.rs.length = 1) := hl5
      have HF5 : Hid (Fr (fun _ => 1) w1 own5 wr) := hf5
      have HP5 : Hid (PlS i st5) := hP5
      have HS5 : Hid (st5.S = S) := hS5
      clear HJ hI5 hg5 ho5 hl5 hf5 hP5 hS5
      go_wp2_with fail
      refine HOB.mono ?_
      rintro e w6 ⟨⟨xa, xb, xo, xc, xl⟩, rfl, hx255, hb6, hxo⟩
      obtain ⟨hI6, hf6⟩ := HI5.out.above 1 hb6
      have HEN := netEnq_any hI6 HG5.out (hxo _ (fun b hb => ownN_new hb)) hx255
      have HF6 : Hid _ := hf6
      have hxl : xl.length ≤ 255 := hx255
      clear HOB hb6 hxo hI6 hf6 hx255 hc5
      unfold Sl.val at HEN ⊢
      simp only at HEN ⊢
      go_wp2_with fail
      refine HEN.mono ?_
      rintro e w7 ⟨rfl, own7, st7, hI7, hg7, hf7, he7⟩
      obtain ⟨hp7, hr7, hK7, hS7⟩ := pl_enq HP5.out hlt2 HI5.out.sok he7
      have hfa : Fr (fun _ => 1) w1 own7 w7 := (HF5.out.trans HF6.out).trans hf7
      have hX7 := (hfa.keep cb (lt_of_block HX.out) rfl).2.trans HX.out
      have y2 : w7.cell? ⟨cb, 2, none⟩ = some (.int .i64 (S : Int)) := cell_of_row w7 _ 2 _ _ _ hX7
      have hsS : st5.s.S = S := HG5.out.cfg.2.2.trans HS5.out
      obtain ⟨T, hTe⟩ : ∃ x, x = symN st5.s.S xl.length := ⟨_, rfl⟩
      have HN7 : Hid (NetIn A B0 w1 nb 1 w7 (fun st => PlI i 0 T st ∧ st.S = S)) := ⟨own7, st7, hI7, hg7, fun j hj => by rw [hr7] at hj ⊢; exact HO5.out j hj, by rw [hr7]; exact HL5.out, hfa, by rw [hTe]; exact hp7, hS7.trans HS5.out⟩
      rw [hsS] at hTe
      obtain ⟨P, hP⟩ : ∃ x, x = partsN xl.length S := ⟨_, rfl⟩
      have hPT : T = max 1 P := by rw [hTe, hP]; rfl
      have hPl : P ≤ 255 := by rw [hP]; have := partsN_le (a := xl.length) s1; omega
      have hq : ((xl.length : Int) + (S : Int) - 1) / (S : Int) = (P : Int) := by
        rw [hP]
        unfold partsN
        rw [Int.natCast_ediv]
        congr 1
        omega
      have hs0 : ¬ ((S : Int) = 0) := by omega
      have hqn : 0 ≤ (xl.length : Int) + (S : Int) - 1 := by omega
      clear HEN hI7 hg7 hf7 he7 hp7 hr7 hK7 hS7 hfa hX7 hsS hTe hP
      by_cases hP0 : P = 0
      · subst hP0
        have hT1 : T = 1 := by omega
        subst hT1
        clear hPT
        have HI7 : Hid (NetIn A B0 w1 nb 1 w7 (fun st => PlI i 0 1 st ∧ st.S = S)) := HN7
        go_wp2_with fail
        rw [hq]
        clear hq hqn
        go_loopw [11, 15, 16, 17] (fun ok t _ _ wr => ∃ j : Nat, j ≤ 1 ∧ t = .int .i64 (j : Int) ∧ ok = .bool true ∧ Hid (NetIn A B0 w1 nb 1 wr (fun st => PlI i j 1 st ∧ st.S = S))) (fun _ t _ _ _ => 1 - (intOf t).toNat)
        case atStart => exact ⟨0, by omega, rfl, rfl, HI7⟩
        case round =>
          obtain ⟨j, hj, rfl, rfl, HJ⟩ := hrel
          obtain ⟨own8, st8, hI8, hg8, ho8, hl8, hf8, hp8, hS8⟩ := HJ.out
          have hr8 : 0 < st8.rs.length := by omega
          have HNX := netNext_any hI8 hg8
          obtain ⟨_, _, _, c3, _, _, _, _⟩ := hI8.cells
          have HI8 : Hid (NI A B0 w1.heap.size own8 wr nb st8) := hI8
          have HG8 : Hid (NG st8) := hg8
          have HO8 : Hid st8.Open := ho8
          have HL8 : Hid (st8.rs.length = 1) := hl8
          have HF8 : Hid (Fr (fun _ => 1) w1 own8 wr) := hf8
          have HP8 : Hid (PlI i j 1 st8) := hp8
          have HS8 : Hid (st8.S = S) := hS8
          clear HJ hI8 hg8 ho8 hl8 hf8 hp8 hS8
          by_cases hjT : j < 1
          · have hjT1 : (j : Int) < 1 := by omega
            go_wp2_with fail
            refine HNX.mono ?_
            rintro e w9 (⟨⟨ya, yb, yo, yc, yl⟩, own9, i9, q9, p9, s9, rfl, hna, hI9, hg9, hf9, hy9, hyl, hy0, hi9, hq9, hp9⟩ | ⟨rfl, hid, _⟩)
            · obtain ⟨tg, tc, tb, d7, htc, d8, d9⟩ := hI9.tkRow (r := 0) (n := 1) hg9 HL8.out (by omega)
              have d10 := d9 i hlt2
              have hti : (rcat st8.rs 0).2.tk.getD i false = false := by
                rcases HP8.out.here with ⟨_, _, _, _, z⟩ | ⟨z, _⟩
                · rw [z i hlt2]; exact decide_eq_false (by omega)
                · omega
              change w9.cell? ⟨tb, i, none⟩ = some (.bool ((rcat st8.rs 0).2.tk.getD i false)) at d10
              rw [hti] at d10
              have HHR := netHear_any (r := 0) hI9 hg9 hr8 (HO8.out 0 hr8) hy9 hi9 hq9 hp9 hyl
              have HPN : Hid (∀ st', HearNet (st8.withS s9) 0 i9 q9 p9 st' → PlI i (j + 1) 1 st' ∧ st'.Open ∧ st'.rs.length = 1 ∧ st'.S = S) := fun st' hh => by
                have h1 := pl_next HP8.out hjT hlt2 HI8.out.sok hr8 (HI8.out.rok 0 hr8).tk hna hh
                obtain ⟨r', rfl, _, hs'⟩ := hh
                exact ⟨h1, open_withR (st := st8.withS s9) HO8.out hr8 hs', by rw [withR_len]; exact HL8.out, HS8.out⟩
              have HF9 : Hid (Fr (fun _ => 1) w1 own9 w9) := HF8.out.trans hf9
              clear HNX hI9 hg9 hf9 hy9 hyl hi9 hq9 hp9 hy0 hna c3 d9 hti
              unfold Sl.val at HHR ⊢
              simp only at HHR ⊢
              go_wp2_with fail
              refine HHR.mono ?_
              rintro e w10 ⟨rfl, own10, st10, hI10, hg10, hf10, hh10⟩
              obtain ⟨z1, z2, z3, z4⟩ := HPN.out st10 hh10
              have HN10 : Hid (NetIn A B0 w1 nb 1 w10 (fun st => PlI i (j + 1) 1 st ∧ st.S = S)) := ⟨own10, st10, hI10, hg10, z2, z3, HF9.out.trans hf10, z1, z4⟩
              clear HHR hI10 hg10 hf10 hh10 z1 z2 z3 z4 d7 d8 d10
              go_wp2_with fail
              go_roundw
              case rel => first | exact ⟨j + 1, by omega, by go_num, rfl, HN10⟩ | ((repeat apply Exists.intro); exact ⟨⟨j + 1, by omega, by go_num, rfl, HN10⟩, rfl⟩)
              case measure => simp [intOf]; omega
            · exfalso
              rcases HP8.out.here with ⟨_, z, _⟩ | ⟨z, _⟩
              · have := hid.1
                have := HP8.out.len
                omega
              · omega
          · obtain rfl : j = 1 := by omega
            have hjT1 : ¬ (1 : Int) < (1 : Int) := by omega
            have HPS : Hid (PlS (i + 1) st8) := by
              rcases HP8.out.here with ⟨z, _⟩ | ⟨_, z⟩
              · omega
              · exact z
            go_wp2_with fail
            refine HNX.mono ?_
            rintro e w9 (⟨x9, own9, i9, q9, p9, s9, rfl, hna, _⟩ | ⟨rfl, _, own9, hI9, hf9⟩)
            · exfalso
              cases hna using NextAt.ways with
              | source z => have := HPS.out.idle.1; omega
              | owed _ _ _ z => exact HPS.out.idle.2 _ _ z
            · have HAS := netAsk_any (r := 0) hI9 hr8 (HO8.out 0 hr8)
              obtain ⟨_, _, _, _, d4, _, _, _⟩ := hI9.cells
              obtain ⟨vg, vc, hvr, hvc, hv⟩ := hI9.rcPtr (r := 0) hr8
              rw [hvr, HL8.out] at d4
              rw [HL8.out] at hvc
              have HF9 : Hid (Fr (fun _ => 1) w1 own9 w9) := HF8.out.trans hf9
              clear HNX hI9 hf9 c3 hvr
              go_wp2_with fail
              refine HAS.mono ?_
              rintro e w10 ⟨⟨ya, yb, yo, yc, yl⟩, own10, rfl, hI10, hf10, hy10, hq10⟩
              have hyl : yl = [] := by
                rcases hq10 with ⟨z, _⟩ | ⟨_, m, kb, k', _, _, z, _⟩
                · exact z
                · have := HPS.out.see m
                  unfold Rcv.vw at this
                  simp [z] at this
              subst hyl
              obtain ⟨tg, tc, tb, d7, htc, d8, d9⟩ := hI10.tkRow (r := 0) (n := 1) HG8.out HL8.out (by omega)
              have d10 := d9 i hlt2
              rw [HPS.out.tk i hlt2, decide_eq_true (by omega)] at d10
              have HN10 : Hid (NetIn A B0 w1 nb 1 w10 (fun st => PlS (i + 1) st ∧ st.S = S)) := ⟨own10, st8, hI10, HG8.out, HO8.out, HL8.out, HF9.out.trans hf10, HPS.out, HS8.out⟩
              clear HAS hI10 hf10 hy10 hq10 d9 d4 hv
              unfold Sl.val
              simp only [List.length_nil]
              go_wp2_with fail
              go_roundw
              case rel => exact ⟨i + 1, by omega, by go_num, rfl, HN10⟩
              case measure => simp [intOf]; omega
      · have hT1 : T = P := by omega
        subst hT1
        have hP1 : ¬ ((T : Int) = 0) := by omega
        clear hPT
        have HI7 : Hid (NetIn A B0 w1 nb 1 w7 (fun st => PlI i 0 T st ∧ st.S = S)) := HN7
        go_wp2_with fail
        rw [hq]
        have hb61 : ((T : Int) == 0) = false := by simpa using hP1
        rw [hb61]
        clear hq hqn hP0 hP1 hb61
        go_loopw [11, 15, 16, 17] (fun ok t _ _ wr => ∃ j : Nat, j ≤ T ∧ t = .int .i64 (j : Int) ∧ ok = .bool true ∧ Hid (NetIn A B0 w1 nb 1 wr (fun st => PlI i j T st ∧ st.S = S))) (fun _ t _ _ _ => T - (intOf t).toNat)
        case atStart => exact ⟨0, by omega, rfl, rfl, HI7⟩
        case round =>
          obtain ⟨j, hj, rfl, rfl, HJ⟩ := hrel
          obtain ⟨own8, st8, hI8, hg8, ho8, hl8, hf8, hp8, hS8⟩ := HJ.out
          have hr8 : 0 < st8.rs.length := by omega
          have HNX := netNext_any hI8 hg8
          obtain ⟨_, _, _, c3, _, _, _, _⟩ := hI8.cells
          have HI8 : Hid (NI A B0 w1.heap.size own8 wr nb st8) := hI8
          have HG8 : Hid (NG st8) := hg8
          have HO8 : Hid st8.Open := ho8
          have HL8 : Hid (st8.rs.length = 1) := hl8
          have HF8 : Hid (Fr (fun _ => 1) w1 own8 wr) := hf8
          have HP8 : Hid (PlI i j T st8) := hp8
          have HS8 : Hid (st8.S = S) := hS8
          clear HJ hI8 hg8 ho8 hl8 hf8 hp8 hS8
          by_cases hjT : j < T
          · have hjT1 : (j : Int) < (T : Int) := by omega
            go_wp2_with fail
            refine HNX.mono ?_
            rintro e w9 (⟨⟨ya, yb, yo, yc, yl⟩, own9, i9, q9, p9, s9, rfl, hna, hI9, hg9, hf9, hy9, hyl, hy0, hi9, hq9, hp9⟩ | ⟨rfl, hid, _⟩)
            · obtain ⟨tg, tc, tb, d7, htc, d8, d9⟩ := hI9.tkRow (r := 0) (n := 1) hg9 HL8.out (by omega)
              have d10 := d9 i hlt2
              have hti : (rcat st8.rs 0).2.tk.getD i false = false := by
                rcases HP8.out.here with ⟨_, _, _, _, z⟩ | ⟨z, _⟩
                · rw [z i hlt2]; exact decide_eq_false (by omega)
                · omega
              change w9.cell? ⟨tb, i, none⟩ = some (.bool ((rcat st8.rs 0).2.tk.getD i false)) at d10
              rw [hti] at d10
              have HHR := netHear_any (r := 0) hI9 hg9 hr8 (HO8.out 0 hr8) hy9 hi9 hq9 hp9 hyl
              have HPN : Hid (∀ st', HearNet (st8.withS s9) 0 i9 q9 p9 st' → PlI i (j + 1) T st' ∧ st'.Open ∧ st'.rs.length = 1 ∧ st'.S = S) := fun st' hh => by
                have h1 := pl_next HP8.out hjT hlt2 HI8.out.sok hr8 (HI8.out.rok 0 hr8).tk hna hh
                obtain ⟨r', rfl, _, hs'⟩ := hh
                exact ⟨h1, open_withR (st := st8.withS s9) HO8.out hr8 hs', by rw [withR_len]; exact HL8.out, HS8.out⟩
              have HF9 : Hid (Fr (fun _ => 1) w1 own9 w9) := HF8.out.trans hf9
              clear HNX hI9 hg9 hf9 hy9 hyl hi9 hq9 hp9 hy0 hna c3 d9 hti
              unfold Sl.val at HHR ⊢
              simp only at HHR ⊢
              go_wp2_with fail
              refine HHR.mono ?_
              rintro e w10 ⟨rfl, own10, st10, hI10, hg10, hf10, hh10⟩
              obtain ⟨z1, z2, z3, z4⟩ := HPN.out st10 hh10
              have HN10 : Hid (NetIn A B0 w1 nb 1 w10 (fun st => PlI i (j + 1) T st ∧ st.S = S)) := ⟨own10, st10, hI10, hg10, z2, z3, HF9.out.trans hf10, z1, z4⟩
              clear HHR hI10 hg10 hf10 hh10 z1 z2 z3 z4 d7 d8 d10
              go_wp2_with fail
              go_roundw
              case rel => first | exact ⟨j + 1, by omega, by go_num, rfl, HN10⟩ | ((repeat apply Exists.intro); exact ⟨⟨j + 1, by omega, by go_num, rfl, HN10⟩, rfl⟩)
              case measure => simp [intOf]; omega
            · exfalso
              rcases HP8.out.here with ⟨_, z, _⟩ | ⟨z, _⟩
              · have := hid.1
                have := HP8.out.len
                omega
              · omega
          · obtain rfl : j = T := by omega
            have hjT1 : ¬ (j : Int) < (j : Int) := by omega
            have HPS : Hid (PlS (i + 1) st8) := by
              rcases HP8.out.here with ⟨z, _⟩ | ⟨_, z⟩
              · omega
              · exact z
            go_wp2_with fail
            refine HNX.mono ?_
            rintro e w9 (⟨x9, own9, i9, q9, p9, s9, rfl, hna, _⟩ | ⟨rfl, _, own9, hI9, hf9⟩)
            · exfalso
              cases hna using NextAt.ways with
              | source z => have := HPS.out.idle.1; omega
              | owed _ _ _ z => exact HPS.out.idle.2 _ _ z
            · have HAS := netAsk_any (r := 0) hI9 hr8 (HO8.out 0 hr8)
              obtain ⟨_, _, _, _, d4, _, _, _⟩ := hI9.cells
              obtain ⟨vg, vc, hvr, hvc, hv⟩ := hI9.rcPtr (r := 0) hr8
              rw [hvr, HL8.out] at d4
              rw [HL8.out] at hvc
              have HF9 : Hid (Fr (fun _ => 1) w1 own9 w9) := HF8.out.trans hf9
              clear HNX hI9 hf9 c3 hvr
              go_wp2_with fail
              refine HAS.mono ?_
              rintro e w10 ⟨⟨ya, yb, yo, yc, yl⟩, own10, rfl, hI10, hf10, hy10, hq10⟩
              have hyl : yl = [] := by
                rcases hq10 with ⟨z, _⟩ | ⟨_, m, kb, k', _, _, z, _⟩
                · exact z
                · have := HPS.out.see m
                  unfold Rcv.vw at this
                  simp [z] at this
              subst hyl
              obtain ⟨tg, tc, tb, d7, htc, d8, d9⟩ := hI10.tkRow (r := 0) (n := 1) HG8.out HL8.out (by omega)
              have d10 := d9 i hlt2
              rw [HPS.out.tk i hlt2, decide_eq_true (by omega)] at d10
              have HN10 : Hid (NetIn A B0 w1 nb 1 w10 (fun st => PlS (i + 1) st ∧ st.S = S)) := ⟨own10, st8, hI10, HG8.out, HO8.out, HL8.out, HF9.out.trans hf10, HPS.out, HS8.out⟩
              clear HAS hI10 hf10 hy10 hq10 d9 d4 hv
              unfold Sl.val
              simp only [List.length_nil]
              go_wp2_with fail
              go_roundw
              case rel => exact ⟨i + 1, by omega, by go_num, rfl, HN10⟩
              case measure => simp [intOf]; omega
    · have hlt' : ¬ ((i : Int) < (L : Int) ∧ (i : Int) < 16) := by omega
      obtain ⟨own5, st5, _, _, _, _, hf5, _⟩ := HJ.out
      have HBE : Hid (Below w.heap.size w wr) := HB1.out.trans ((fr_below hf5).mono HB1.out.size)
      clear HJ hf5
      by_cases hlL : i < L
      · have hl1 : (i : Int) < (L : Int) := by omega
        have hl2 : ¬ (i : Int) < 16 := by omega
        go_wp2_with fail
        go_ret
        exact ⟨rfl, HBE.out⟩
      · have hl1 : ¬ (i : Int) < (L : Int) := by omega
        go_wp2_with fail
        go_ret
        exact ⟨rfl, HBE.out⟩

end Go.Proofs.YtjabhnhejbhgjaaGreatDoor
