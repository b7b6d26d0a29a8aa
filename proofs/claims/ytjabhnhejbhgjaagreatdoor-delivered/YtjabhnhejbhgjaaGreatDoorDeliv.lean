/- Delivered, walked. -/
import Derived.Test.YtjabhnhejbhgjaaGreatDoorMany17
namespace Go.Proofs.YtjabhnhejbhgjaaGreatDoor
open Go.RowKit

set_option maxRecDepth 100000 in
set_option maxHeartbeats 4000000 in
theorem delivered_any {A : Nat → Addr} {B0 L c lb lo : Nat} {a : Option Addr} {k many size rcs : Int} {ms : List Mv} {w : World} (hE : Errs A B0 w) (hT : ErrType w) (hTl : 8 < w.heap.size) (h1 : In64 k) (h2 : In64 many) (h3 : In64 size) (h4 : In64 rcs) (hms : MovesAt (fun _ => 1) w lb lo ms) (hL : ms.length = L) (hL2 : L ≤ 140737488355328) (ha : 0 < L → a = some ⟨lb, lo, none⟩) :
    Calls Tryz.prog 5 #[.int .i64 k, .int .i64 many, .int .i64 size, .int .i64 rcs, .slice a L c] w fun e w' => e = .returned (.bool true) ∧ Below w.heap.size w w' := by
  have HCF := config_any h1 h2 h3 w
  have HE : Hid (Errs A B0 w) := hE
  have HT : Hid (ErrType w) := hT
  have HTL : Hid (8 < w.heap.size) := hTl
  have HR : Hid (In64 rcs) := h4
  have HMS : Hid (MovesAt (fun _ => 1) w lb lo ms) := hms
  have HLE : Hid (ms.length = L) := hL
  have HA : Hid (0 < L → a = some ⟨lb, lo, none⟩) := ha
  clear hE hT hTl h1 h2 h3 h4 hms hL ha
  go_enter Tryz.func5, Tryz.ntmps5
  go_wp2_with fail
  refine HCF.mono ?_
  rintro e w1 ⟨K, N, S, rfl, hc, hb1⟩
  have HBG := begin_any hc HR.out (HE.out.below (hb1.mono HE.out.size)) (HT.out.below hb1 HTL.out) (Nat.lt_of_lt_of_le HTL.out hb1.size)
  have HB1 : Hid _ := hb1
  clear HCF hc hb1
  go_wp2_with fail
  refine HBG.mono ?_
  rintro e w2 ⟨nb, cb, n, rfl, hn, own2, st2, hI2, hg2, hf2, hbn2, hl2, _, _⟩
  have HP : Hid (1 ≤ n) := by show _ ≤ _; have := pickI_range rcs 3 (by omega); omega
  have hcv := murm_conv w2
  obtain ⟨hI3, hf3⟩ := hI2.above 1 ((Below.refl w2.heap.size w2).alloc (Nat.le_refl _) (.cells #[.int .u8 109, .int .u8 117, .int .u8 114, .int .u8 109, .int .u8 117, .int .u8 114] 5 (6, 7)))
  have hx := murm_at w2 (ownN own2 w2.heap.size 1) (ownN_new (Nat.le_refl _))
  have HEN := netEnq_any hI3 hg2 hx (by show 6 ≤ 255; omega)
  have HSF : Hid (st2.s.os.length ≤ 16) := hI2.sok.few
  have HOP : Hid st2.Open := begun_open hbn2
  have HL2 : Hid (st2.rs.length = n) := hl2
  have HF3 : Hid (Fr (fun _ => 1) w1 (ownN own2 w2.heap.size 1) (w2.alloc (.cells #[.int .u8 109, .int .u8 117, .int .u8 114, .int .u8 109, .int .u8 117, .int .u8 114] 5 (6, 7)))) := hf2.trans hf3
  clear HBG hI2 hg2 hf2 hbn2 hl2 hI3 hf3 hx hn
  unfold Sl.val murmSl at HEN
  go_wp2_with fail
  refine HEN.mono ?_
  rintro e w4 ⟨rfl, own4, st4, hI4, hg4, hf4, hq4⟩
  have HI : Hid (NetIn A B0 w1 nb n w4 (fun _ => True)) := by
    refine ⟨own4, st4, hI4, hg4, hq4.open HSF.out HOP.out, by rw [hq4.len HSF.out]; exact HL2.out, HF3.out.trans hf4, trivial⟩
  have HM1 : Hid (MovesAt (fun _ => 1) w1 lb lo ms) := HMS.out.fr (fr_of_below HB1.out)
  clear HEN hI4 hg4 hf4 hq4 hcv
  go_wp2_with fail
  go_loopw [12, 13] (fun ok t wr => ∃ i : Nat, i ≤ L ∧ t = .int .i64 (i : Int) ∧ ok = .bool true ∧ Hid (NetIn A B0 w1 nb n wr (fun _ => True))) (fun _ t _ => L - (intOf t).toNat)
  case atStart => exact ⟨0, by omega, rfl, rfl, HI⟩
  case round =>
    obtain ⟨i, hi, rfl, rfl, HJ⟩ := hrel
    by_cases hlt : i < L
    · have hlt1 : (i : Int) < (L : Int) := by omega
      have hlt0 : (0 : Int) ≤ (i : Int) := by omega
      obtain ⟨own5, st5, hI5, hg5, ho5, hl5, hf5, _⟩ := HJ.out
      have hM5 := HM1.out.fr hf5
      obtain ⟨d0, d1, d2, d3⟩ := hM5.cell i (by rw [HLE.out]; exact hlt)
      obtain ⟨r1, r2, r3⟩ := hM5.range i (by rw [HLE.out]; exact hlt)
      have HMV := move_any (s := (mvat ms i).s) hI5 hg5 ho5 (by have := HP.out; omega) r1 r2 r3
      have HF5 : Hid (Fr (fun _ => 1) w1 own5 wr) := hf5
      have HL5 : Hid (st5.rs.length = n) := hl5
      have ha' := HA.out (by omega)
      subst ha'
      clear HJ hI5 hg5 ho5 hl5 hf5 hM5 r1 r2 r3
      go_wp2_with fail
      refine HMV.mono ?_
      rintro e w6 ⟨rfl, own6, st6, hI6, hg6, hf6, ho6, hl6⟩
      have HN6 : Hid (NetIn A B0 w1 nb n w6 (fun _ => True)) := ⟨own6, st6, hI6, hg6, ho6, hl6.trans HL5.out, HF5.out.trans hf6, trivial⟩
      clear HMV hI6 hg6 hf6 ho6 hl6 d0 d1 d2 d3
      go_wp2_with fail
      go_roundw
      case rel => exact ⟨i + 1, by omega, by go_num, rfl, HN6⟩
      case measure => simp [intOf]; omega
    · obtain rfl : i = L := by omega
      have hlt1 : ¬ (i : Int) < (i : Int) := by omega
      obtain ⟨own5, st5, _, _, _, _, hf5, _⟩ := HJ.out
      have HBE : Hid (Below w.heap.size w wr) := HB1.out.trans ((fr_below hf5).mono HB1.out.size)
      clear HJ hf5
      go_wp2_with fail
      go_ret
      exact ⟨rfl, HBE.out⟩

end Go.Proofs.YtjabhnhejbhgjaaGreatDoor
