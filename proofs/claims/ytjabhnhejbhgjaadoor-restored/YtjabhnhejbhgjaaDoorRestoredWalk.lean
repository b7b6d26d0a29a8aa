/- Restored: the walk. -/
import Derived.Test.YtjabhnhejbhgjaaDoorRestoredA
import Derived.Deep.DeepCutAuto
namespace Go.Proofs.YtjabhnhejbhgjaaDoor
open Go.RowKit

set_option maxRecDepth 100000 in
set_option maxHeartbeats 2000000 in
theorem restored_some (rb ro rc Ln n L pc pb po : Nat) (pa : Option Addr) (S : Nat → ByteArray) (P : Nat → Int) (size other : Int) (w : World) (hn : (Ln ≤ 8 ∧ n = Ln) ∨ (8 < Ln ∧ n = 8)) (hn0 : 0 < n)
    (hraw : ∀ i, i < Ln → w.cell? ⟨rb, ro + i, none⟩ = some (.string (S i))) (hs0 : -9223372036854775808 ≤ size) (hs1 : size ≤ 9223372036854775807) (hLn : Ln ≤ 140737488355328) (hlow : rb < w.heap.size)
    (hpl : ∀ i, i < L → pa = some ⟨pb, po, none⟩ ∧ w.cell? ⟨pb, po + i, none⟩ = some (.int .i64 (P i)) ∧ -9223372036854775808 ≤ P i ∧ P i ≤ 9223372036854775807 ∧ pb < w.heap.size) (hL : L ≤ 140737488355328) (ho0 : -9223372036854775808 ≤ other) (ho1 : other ≤ 9223372036854775807) :
    Calls Tryd.prog 5 #[.slice (some ⟨rb, ro, none⟩) Ln rc, .int .i64 size, .slice pa L pc, .int .i64 other] w fun e w' => e = .returned (.bool true) ∧ Below w.heap.size w w' := by
  have hmr := pickI_range size 9 (by omega)
  obtain ⟨m, hm⟩ := Int.eq_ofNat_of_zero_le hmr.1
  have HM : Hid (pickI size 9 = (m : Int)) := hm
  have hm9 : m < 9 := by omega
  clear hm hmr
  have hmk := fun W => run_make_row' (P := Tryd.prog) 33 5 (.int .u8 0) 1 Tryd.underlying33 Tryd.info_u8 rfl .i64 .i64 m (by omega) (by omega) W
  have HMK := fun W => show Hid _ from hmk W
  clear hmk
  have HRAW : Hid (∀ i, i < Ln → w.cell? ⟨rb, ro + i, none⟩ = some (.string (S i))) := hraw
  clear hraw
  have HPL : Hid (∀ i, i < L → pa = some ⟨pb, po, none⟩ ∧ w.cell? ⟨pb, po + i, none⟩ = some (.int .i64 (P i)) ∧ -9223372036854775808 ≤ P i ∧ P i ≤ 9223372036854775807 ∧ pb < w.heap.size) := hpl
  clear hpl
  have HN : Hid ((Ln ≤ 8 ∧ n = Ln) ∨ (8 < Ln ∧ n = 8)) := hn
  clear hn
  have hn8 : n ≤ 8 := by rcases HN.out with h | h <;> omega
  have hnL : n ≤ Ln := by rcases HN.out with h | h <;> omega
  go_enter Tryd.func5, Tryd.ntmps5
  go_wp2_with fail
  refine (awake_any _).mono ?_
  rintro e w1 ⟨rfl, hb1⟩
  go_upto_if 36 with fail
  go_cut [10] (fun t wc => t = .int .i64 (n : Int) ∧ wc = w1)
  case first =>
    rcases HN.out with ⟨h, rfl⟩ | ⟨h, rfl⟩
    · go_wp2_with fail
      go_meet
      case rel => exact ⟨rfl, rfl⟩
    · go_wp2_with fail
      go_meet
      case rel => exact ⟨rfl, rfl⟩
  case rest =>
    obtain ⟨rfl, rfl⟩ := hcut
    have hne : ((n : Int) == 0) = false := by rw [beq_eq_false_iff_ne]; omega
    go_wp2_with fail
    refine (keepPick_any size 9 _ (by omega) hs0 hs1).mono ?_
    rintro e w2 ⟨rfl, rfl⟩
    rw [HM.out]
    go_wp2_with fail
    have hsize1 : rb < w2.heap.size := Nat.lt_of_lt_of_le hlow hb1.size
    go_loopw [11, 13] (fun v t wr => ∃ k : Nat, k ≤ n ∧ t = .int .i64 (k : Int) ∧ (∃ rows, Src wr w2.heap.size m k S v rows) ∧ Below w2.heap.size w2 wr) (fun _ t _ => n - (intOf t).toNat)
    case atStart => exact ⟨0, by omega, rfl, ⟨[], Src.nil ..⟩, Below.refl _ _⟩
    case round =>
      obtain ⟨k, hk, rfl, ⟨rows, hS⟩, hbr⟩ := hrel
      by_cases hlt : k < n
      · have hck : wr.cell? ⟨rb, ro + k, none⟩ = some (.string (S k)) := by rw [hbr.cell (p := ⟨rb, ro + k, none⟩) hsize1, hb1.cell (p := ⟨rb, ro + k, none⟩) hlow]; exact HRAW.out k (by omega)
        have hkL : (k : Int) < (Ln : Int) := by omega
        have hmk2 := (HMK wr).out
        have hrw : rb < wr.heap.size := Nat.lt_of_lt_of_le hsize1 hbr.size
        obtain ⟨w3, hrun, hG3, hO3⟩ := run_copy_str (wr.alloc (.cells (madeCells #[.int .u8 0] m) 5)) wr.heap.size m (S k) 3 (Blk.made m)
        have hz3 : w3.heap.size = wr.heap.size + 1 := by rw [hO3.size]; simp
        have hb3 : Below wr.heap.size wr w3 := ((Below.refl _ _).alloc (Nat.le_refl _) _).trans hO3.below
        have HZ3 : Hid (w3.heap.size = wr.heap.size + 1) := hz3
        clear hz3
        have hown3 : w3.ownsRow w2.heap.size 33 1 u11 k (rows.map Row.val) := own_of_block hS.own (fun g hg => hb3.block g (own_lt hS.own hg).2)
        obtain ⟨ib, hib, hz0⟩ := Option.map_eq_some_iff.1 Tryd.info_bytes
        simp only [Prod.mk.injEq] at hz0
        obtain ⟨hz0, hz1, hz2⟩ := hz0
        have hsz : w2.heap.size ≤ w3.heap.size := by have := HZ3.out; have := hbr.size; omega
        go_wp2_with (at_builtin; refine wpList_append_lies _ rfl _ _ _ rfl w2.heap.size 33 ib (.slice none 0 0) 1 24 Tryd.underlying31 hib hz0 hz1 hz2 rfl (by omega) u11 k (rows.map Row.val) rfl (hown3.alloc _) ⟨w3.heap.size, 0, none⟩ 1 1 [.slice (some ⟨wr.heap.size, 0, none⟩) m m] rfl rfl ?c1 ?c2 (by omega) ?c3 (by omega) ?c4 (w3.heap.size + 1) ?c5 ?_)
        case c1 => exact cell_one_new _ _ _
        case c2 => intro u hu; simp at hu; subst hu; rfl
        case c3 => unfold maxLen; omega
        case c4 => simp; omega
        case c5 => simp
        intro g cap w4 hown4 hgr4 hlie hlt4
        have hb4 : Below w2.heap.size w2 w4 := by
          have h1 : Below w2.heap.size w2 w3 := hbr.trans (hb3.mono hbr.size)
          exact (h1.alloc hsz _).grown hgr4 (by simp; omega) (fun j hj => (own_lt hS.own hj).1)
        have hS4 := Src.step hS hbr.size hG3 HZ3.out hb3 hown4 hgr4 hlie
        go_wp2_with fail
        go_roundw
        case rel => exact ⟨k + 1, by omega, by go_num, ⟨_, hS4⟩, hb4⟩
        case measure => simp [intOf]; omega
      · obtain rfl : k = n := by omega
        obtain ⟨a11, c11, rfl, hf11⟩ := own_form hS.own
        obtain ⟨g11, rfl, hc11, hB11, hg11, _⟩ := hf11 hn0
        obtain ⟨wA, rfl⟩ : ∃ x, x = wr := ⟨wr, rfl⟩
        have hRs := hS.rs
        have hlowA : ∀ i, i < rows.length → (rat rows i).b < wA.heap.size := fun i hi => (hS.each i (by rw [← hS.len]; exact hi)).1.lt
        have HLOWA : Hid (∀ i, i < rows.length → (rat rows i).b < wA.heap.size) := hlowA
        clear hlowA HMK HRAW
        have hbA : Below w.heap.size w wA := hb1.trans (hbr.mono hb1.size)
        go_wp2_with fail
        go_loopw [15, 16, 17] (fun va vl t wr => ∃ (i q : Nat) (at' : List Int) (rows2 : List Row), t = .int .i64 (i : Int) ∧ q ≤ k ∧ i ≤ L + 8 ∧ Got wr wA.heap.size m k rows q va vl at' rows2 ∧ Hid (∀ j, L ≤ j → j < i → hasB at' q ((j : Int) % 256) = true) ∧ Below wA.heap.size wA wr) (fun _ _ t _ => L + 8 - (intOf t).toNat)
        case atStart => exact ⟨0, 0, [], [], rfl, by omega, by omega, Got.nil .., fun j h1 h2 => by omega, Below.refl _ _⟩
        case round =>
          obtain ⟨i, q, at', rows2, rfl, hq, hi8, hG, HPH, hb2⟩ := hrel
          obtain ⟨a15, c15, rfl, hf15⟩ := own_form hG.aown
          have HF15 : Hid (0 < q → ∃ g, a15 = some ⟨g, 0, none⟩ ∧ q ≤ c15 ∧ wA.heap.size ≤ g ∧ g < wr.heap.size ∧ ∀ j, j < q → wr.cell? ⟨g, j, none⟩ = (at'.map (Value.int .i64))[j]?) := hf15
          clear hf15
          by_cases hlt : q < k
          · have hpi := pigeon HPH.out (by omega)
            go_upto_if 73 with fail
            go_cut [18] (fun t wc => wc = wr ∧ ∃ p : Int, t = .int .i64 p ∧ 0 ≤ p ∧ p ≤ 140737488355500 ∧ (L ≤ i → p = (i : Int)))
            case first =>
              by_cases hiL : i < L
              · obtain ⟨hp1, hp2, hp3, hp4, hp5⟩ := HPL.out i hiL
                subst hp1
                have hcp : wr.cell? ⟨pb, po + i, none⟩ = some (.int .i64 (P i)) := by rw [hb2.cell (p := ⟨pb, po + i, none⟩) (Nat.lt_of_lt_of_le hp5 hbA.size), hbA.cell (p := ⟨pb, po + i, none⟩) hp5]; exact hp2
                go_wp2_with (go_at_call 15; refine (keepPick_any (P i) 256 _ (by omega) hp3 hp4).mono ?_; rintro e w' ⟨rfl, rfl⟩)
                have hr := pickI_range (P i) 256 (by omega)
                go_meet
                case rel => exact ⟨rfl, _, rfl, by omega, by omega, fun h => by omega⟩
              · go_wp2_with fail
                go_meet
                case rel => exact ⟨rfl, _, rfl, by omega, by omega, fun _ => rfl⟩
            case rest =>
              obtain ⟨rfl, p, rfl, hp0, hp1, hp2⟩ := hcut
              have HP2 : Hid (L ≤ i → p = (i : Int)) := hp2
              clear hp2
              have hz0 : 0 ≤ p % 256 := Int.emod_nonneg _ (by omega)
              have hz1 : p % 256 ≤ 255 := by omega
              go_wp2_with fail
              go_loop [19, 20] (fun f t => ∃ j : Nat, j ≤ q ∧ t = .int .i64 (j : Int) ∧ f = .bool (!hasB at' j (p % 256))) (fun _ t => q - (intOf t).toNat)
              case atStart => exact ⟨0, by omega, rfl, rfl⟩
              case round =>
                obtain ⟨j, hj, rfl, rfl⟩ := hrel
                by_cases hjq : j < q
                · obtain ⟨g15, rfl, hgc, hgB, hgl, hgcell⟩ := HF15.out (by omega)
                  have hcj : wc.cell? ⟨g15, j, none⟩ = some (.int .i64 (zat at' j)) := by
                    rw [hgcell j hjq]
                    have : j < at'.length := by rw [hG.alen]; exact hjq
                    simp [zat, List.getD, this]
                  clear hgcell
                  cases hh : hasB at' j (p % 256)
                  · by_cases e : zat at' j = p % 256
                    · have hne : (zat at' j != p % 256) = false := by rw [e]; simp
                      have HN2 := hasB_succ_eq e
                      have HN3 : Hid (hasB at' (j + 1) (p % 256) = true) := HN2
                      clear HN2 e
                      go_wp2_with fail
                      go_round
                      case rel => exact ⟨j + 1, by omega, by go_num, by rw [HN3.out]; rfl⟩
                      case measure => simp [intOf]; omega
                    · have hne : (zat at' j != p % 256) = true := by rw [bne_iff_ne]; exact e
                      have HN2 := hasB_succ_of hh e
                      have HN3 : Hid (hasB at' (j + 1) (p % 256) = false) := HN2
                      clear HN2 e
                      go_wp2_with fail
                      go_round
                      case rel => exact ⟨j + 1, by omega, by go_num, by rw [HN3.out]; rfl⟩
                      case measure => simp [intOf]; omega
                  · have HN3 : Hid (hasB at' (j + 1) (p % 256) = true) := hasB_mono (by omega) hh
                    go_wp2_with fail
                    go_round
                    case rel => exact ⟨j + 1, by omega, by go_num, by rw [HN3.out]; rfl⟩
                    case measure => simp [intOf]; omega
                · obtain rfl : j = q := by omega
                  cases hh : hasB at' j (p % 256)
                  · have hRc := hRs.below hb2 hg11 HLOWA.out
                    have hsA := hb2.size
                    go_wp2_with fail
                    refine (symbol_ok g11 0 c11 m k rows (p % 256) _ hS.len (cntB_yes (by omega)) (hS.even hn0) (plcB_yes ⟨hz0, hz1⟩) (hS.lenAt 0 hn0) (by omega) hRc (fun t ht => Nat.lt_of_lt_of_le (HLOWA.out t ht) hsA)).mono ?_
                    rintro e w5 ⟨rfl, hG5, hb5, hz5⟩
                    have HZ5 : Hid (w5.heap.size = wc.heap.size + 2) := hz5
                    clear hz5
                    have hK5 := hG.kept (fun t ht => hb5.block t ht)
                    obtain ⟨ii, hii, hi0⟩ := Option.map_eq_some_iff.1 Tryd.info_int
                    simp only [Prod.mk.injEq] at hi0
                    obtain ⟨hi0, hi1, hi2⟩ := hi0
                    have hs5 : wA.heap.size ≤ w5.heap.size := Nat.le_trans hsA hb5.size
                    go_wp2_with (at_builtin; refine wpList_append_lies _ rfl _ _ _ rfl wA.heap.size 3 ii (.int .i64 0) 1 8 Tryd.underlying32 hii hi0 hi1 hi2 rfl (by omega) (.slice a15 j c15) j (at'.map (Value.int .i64)) rfl (hK5.aown.alloc _) ⟨w5.heap.size, 0, none⟩ 1 1 [.int .i64 (p % 256)] rfl rfl ?c1 ?c2 (by omega) ?c3 (by omega) ?c4 (w5.heap.size + 1) ?c5 ?_)
                    case c1 => exact cell_one_new _ _ _
                    case c2 => intro u hu; simp at hu; subst hu; rfl
                    case c3 => unfold maxLen; omega
                    case c4 => simp; omega
                    case c5 => simp
                    intro ga ca w6 hown6 hgr6 hlie6 hlt6
                    have hlo6 := hK5.lownAfter hgr6
                    obtain ⟨ib, hib, hy0⟩ := Option.map_eq_some_iff.1 Tryd.info_bytes
                    simp only [Prod.mk.injEq] at hy0
                    obtain ⟨hy0, hy1, hy2⟩ := hy0
                    have hs6 : wA.heap.size ≤ w6.heap.size := by have := hgr6.size; simp at this; omega
                    clear hii hi0 hi1 hi2
                    go_wp2_with (at_builtin; refine wpList_append_lies _ rfl _ _ _ rfl wA.heap.size 33 ib (.slice none 0 0) 1 24 Tryd.underlying31 hib hy0 hy1 hy2 rfl (by omega) u16 j (rows2.map Row.val) rfl (hlo6.alloc _) ⟨w6.heap.size, 0, none⟩ 1 1 [.slice (some ⟨wc.heap.size + 1, 0, none⟩) m m] rfl rfl ?d1 ?d2 (by omega) ?d3 (by omega) ?d4 (w6.heap.size + 1) ?d5 ?_)
                    case d1 => exact cell_one_new _ _ _
                    case d2 => intro u hu; simp at hu; subst hu; rfl
                    case d3 => unfold maxLen; omega
                    case d4 => simp; omega
                    case d5 => simp
                    intro gl cl w7 hown7 hgr7 hlie7 hlt7
                    have hG7 := Got.step hK5 (sb := wc.heap.size + 1) (by omega) (by rw [HZ5.out]; omega) (fun q => by have := (own_lt hG.aown q).2; omega) (fun q => by have := (own_lt hG.lown q).2; omega) hG5 (plcB_yes ⟨hz0, hz1⟩) hh hown6 hgr6 hlie6 hown7 hgr7 hlie7
                    have hb7 : Below wA.heap.size wA w7 := by
                      have h5 : Below wA.heap.size wA w5 := hb2.trans (hb5.mono hsA)
                      have h6 : Below wA.heap.size wA w6 := (h5.alloc hs5 _).grown hgr6 (by simp; omega) (fun t ht => (own_lt hG.aown ht).1)
                      exact (h6.alloc hs6 _).grown hgr7 (by simp; omega) (fun t ht => (own_lt hG.lown ht).1)
                    clear hib hy0 hy1 hy2
                    go_wp2_with fail
                    go_roundw
                    case rel => exact ⟨i + 1, j + 1, _, _, by go_num, by omega, by omega, hG7, seen_more rfl hG.alen HPH.out HP2.out, hb7⟩
                    case measure => simp [intOf]; omega
                  · go_wp2_with fail
                    go_roundw
                    case rel => exact ⟨i + 1, j, at', rows2, by go_num, by omega, by omega, hG, seen_same hh HPH.out HP2.out, hb2⟩
                    case measure => simp [intOf]; omega
          · obtain rfl : q = k := by omega
            obtain ⟨a16, c16, rfl, hf16⟩ := own_form hG.lown
            obtain ⟨g15, rfl, hgc15, hgB15, hgl15, hcell15⟩ := HF15.out hn0
            obtain ⟨g16, rfl, hgc16, hgB16, hgl16, hcell16⟩ := hf16 hn0
            have hZr := hG.zs hcell15
            have hRr := hG.rs hcell16
            obtain ⟨wB, rfl⟩ : ∃ x, x = wr := ⟨wr, rfl⟩
            have hcq := cntB_yes (k := (q : Int)) ⟨by omega, by omega⟩
            have hqq : ((q : Int) != (q : Int)) = false := by simp
            clear hcell15 hcell16 hf16 HPH HPL
            go_wp2_with fail
            refine (restore_ok g15 0 c15 g16 0 c16 m q at' rows2 _ hG.alen hG.rlen hgc15 hcq hG.ok (hG.even hn0) (hG.lenAt 0 hn0) (by omega) hZr hRr (fun t ht => (hG.each t (by rw [← hG.rlen]; exact ht)).1.lt)).mono ?_
            rintro e w8 ⟨Sb, base, rfl, hRes⟩
            have hlenS : ∀ t, t < q → (rat rows t).l.length = m := fun t ht => hS.lenAt t ht
            have hback : ∀ t, t < q → symOf (bytesOf at') rows2 (BitVec.ofNat 8 t) m = (rat rows t).l := fun t ht => symOf_back (by omega) ht hG.alen hG.ok (hlenS t ht) (fun j hj => by rw [(hG.each j hj).2.1])
            have hRback := hRes.rs hlenS hback
            have hRsrc : Rs w8 g11 0 rows := (hRs.below hb2 hg11 HLOWA.out).below hRes.below (Nat.lt_of_lt_of_le hg11 hb2.size) (fun t ht => Nat.lt_of_lt_of_le (HLOWA.out t ht) hb2.size)
            have hs8 : wA.heap.size ≤ w8.heap.size := Nat.le_trans hb2.size hRes.below.size
            have HLEN : Hid (∀ t, t < q → (rat rows t).l.length = m) := hlenS
            clear hlenS hback
            have hSb8 : Sb < w8.heap.size := by have := hRes.size; have := hRes.apart; omega
            have hbl8 : base + q = w8.heap.size := hRes.size.symm
            have HBL8 : Hid (base + q = w8.heap.size) := hbl8
            clear hbl8
            have hbR := hRes.below
            go_wp2_with fail
            go_loopw [25] (fun t wr => ∃ j : Nat, j ≤ q ∧ t = .int .i64 (j : Int) ∧ Below w8.heap.size w8 wr) (fun t _ => q - (intOf t).toNat)
            case atStart => exact ⟨0, by omega, rfl, Below.refl _ _⟩
            case round =>
              obtain ⟨j, hj, rfl, hb9⟩ := hrel
              have hs9 := hb9.size
              have hRsr := hRsrc.below hb9 (Nat.lt_of_lt_of_le hg11 hs8) (fun t ht => Nat.lt_of_lt_of_le (HLOWA.out t ht) hs8)
              have hRbr := hRback.below hb9 hSb8 (fun t ht => by rw [bkRows_length] at ht; rw [bkRows_at _ _ _ _ _ ht]; have := HBL8.out; show base + t < _; omega)
              by_cases hlt2 : j < q
              · go_wp2_with fail
                refine (symbol_ok g11 0 c11 m q rows (j : Int) _ hS.len hcq (hS.even hn0) (plcB_yes ⟨by omega, by omega⟩) (HLEN.out 0 hn0) (by omega) hRsr (fun t ht => Nat.lt_of_lt_of_le (HLOWA.out t ht) (by omega))).mono ?_
                rintro e w9 ⟨rfl, hG9, hb10, hz10⟩
                rw [show byteOf (j : Int) = BitVec.ofNat 8 j from rfl, symOf_own (by omega) hlt2 (HLEN.out j hlt2)] at hG9
                have hRs9 := hRsr.below hb10 (by omega) (fun t ht => Nat.lt_of_lt_of_le (HLOWA.out t ht) (by omega))
                have hRb9 := hRbr.below hb10 (by omega) (fun t ht => by rw [bkRows_length] at ht; rw [bkRows_at _ _ _ _ _ ht]; have := HBL8.out; show base + t < _; omega)
                have hcs : w9.cell? ⟨g11, j, none⟩ = some (.slice (some ⟨(rat rows j).b, (rat rows j).o, none⟩) m (rat rows j).c) := by
                  have := hRs9.cellAt j (by rw [hS.len]; exact hlt2)
                  rw [HLEN.out j hlt2, Nat.zero_add] at this; exact this
                have hcb : w9.cell? ⟨Sb, j, none⟩ = some (.slice (some ⟨base + j, 0, none⟩) m m) := by
                  have := hRb9.cellAt j (by rw [bkRows_length]; exact hlt2)
                  rw [bkRows_at _ _ _ _ _ hlt2, Nat.zero_add] at this
                  rw [this, HLEN.out j hlt2]
                have hcv1 := hG9.bs.convN m m (HLEN.out j hlt2)
                have hcv2 := (hRs9 j (by rw [hS.len]; exact hlt2)).2.convN m (rat rows j).c (HLEN.out j hlt2)
                have hcv3 : ∀ nq, (convert 33 9 (.slice (some ⟨base + j, 0, none⟩) m m)).run Tryd.prog (w9.drewN nq) = .ok (.string (str (rat rows j).l)) (w9.drewN nq) := by
                  have h2 := (hRb9 j (by rw [bkRows_length]; exact hlt2)).2
                  rw [bkRows_at _ _ _ _ _ hlt2] at h2
                  exact h2.convN m m (HLEN.out j hlt2)
                have hjq : (j : Int) < (q : Int) := by omega
                have hb11 : Below w8.heap.size w8 w9 := hb9.trans (hb10.mono hs9)
                clear hRs9 hRb9 hG9 hRsr hRbr hz10
                go_wp2_with fail
                go_quiet (fail)
                go_wp2_with fail
                exact ⟨⟨j + 1, by omega, by go_num, hb11.trans ⟨rfl, rfl, rfl, Nat.le_refl _, fun _ _ => rfl⟩⟩, by simp [intOf]; omega⟩
              · obtain rfl : j = q := by omega
                obtain ⟨wC, rfl⟩ : ∃ x, x = wr := ⟨wr, rfl⟩
                have hpo := pickI_range other 256 (by omega)
                obtain ⟨hpo0, hpo1⟩ := hpo
                go_wp2_with fail
                refine (keepPick_any other 256 _ (by omega) ho0 ho1).mono ?_
                rintro e w9 ⟨rfl, rfl⟩
                go_wp2_with fail
                refine (symbol_ok g11 0 c11 m j rows (pickI other 256) _ hS.len hcq (hS.even hn0) (plcB_yes ⟨by omega, by omega⟩) (HLEN.out 0 hn0) (by omega) hRsr (fun t ht => Nat.lt_of_lt_of_le (HLOWA.out t ht) (by omega))).mono ?_
                rintro e wD ⟨rfl, hGD, hbD, hzD⟩
                have HZD : Hid (wD.heap.size = w9.heap.size + 2) := hzD
                clear hzD
                have hRbD := hRbr.below hbD (by omega) (fun t ht => by rw [bkRows_length] at ht; rw [bkRows_at _ _ _ _ _ ht]; have := HBL8.out; show base + t < _; omega)
                go_wp2_with fail
                refine (keepPick_any other 256 _ (by omega) ho0 ho1).mono ?_
                rintro e wE ⟨rfl, rfl⟩
                go_wp2_with fail
                have hbl : ∀ t, t < (bkRows base m j rows).length → (rat (bkRows base m j rows) t).l.length = m := fun t ht => by rw [bkRows_length] at ht; rw [bkRows_at _ _ _ _ _ ht]; exact HLEN.out t ht
                refine (symbol_ok Sb 0 j m j (bkRows base m j rows) (pickI other 256) _ (bkRows_length ..) hcq (evenB_yes (fun t ht => by rw [hbl t ht, hbl 0 (by rw [bkRows_length]; exact hn0)])) (plcB_yes ⟨by omega, by omega⟩) (hbl 0 (by rw [bkRows_length]; exact hn0)) (by omega) hRbD (fun t ht => by rw [bkRows_length] at ht; rw [bkRows_at _ _ _ _ _ ht]; have := HBL8.out; have := HZD.out; show base + t < _; omega)).mono ?_
                rintro e wF ⟨rfl, hGF, hbF, hzF⟩
                rw [symOf_congr (rs' := rows) (fun t ht => by rw [front_length] at ht; rw [bkRows_at _ _ _ _ _ ht])] at hGF
                have hGD2 := hGD.below hbF (by rw [HZD.out]; omega)
                have hcv1 := hGD2.bs.conv m m (symOf_length ..)
                have hcv2 := hGF.bs.conv m m (symOf_length ..)
                have hfin : Below w.heap.size w wF := by
                  have h1 : Below w.heap.size w wB := hbA.trans (hb2.mono hbA.size)
                  have h2 := h1.trans (hbR.mono h1.size)
                  have h3 := h2.trans (hb9.mono h2.size)
                  have h4 := h3.trans (hbD.mono h3.size)
                  exact h4.trans (hbF.mono h4.size)
                clear hbl hGF hGD hGD2 hRbD hRbr hRsr hzF
                go_wp2
                go_ret
                exact ⟨rfl, hfin⟩

end Go.Proofs.YtjabhnhejbhgjaaDoor
