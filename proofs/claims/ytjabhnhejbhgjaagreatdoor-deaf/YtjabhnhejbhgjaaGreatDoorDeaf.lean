/- Deaf, walked. -/
import Derived.Test.YtjabhnhejbhgjaaGreatDoorNetDeaf
import Derived.Deep.CutRange
namespace Go.Proofs.YtjabhnhejbhgjaaGreatDoor
open Go.RowKit

/-- Two receivers that look alike, and a packet of the sender. -/
def DfP (A : Nat → Addr) (B0 : Nat) (w1 : World) (nb K N S i q p : Nat) (x : Sl) (wc : World) : Prop :=
  ∃ own st, NI A B0 w1.heap.size own wc nb st ∧ NG st ∧ st.Open ∧ st.rs.length = 2 ∧ Fr (fun _ => 1) w1 own wc ∧ (rcat st.rs 0).2.vw = (rcat st.rs 1).2.vw ∧ (st.K = K ∧ st.N = N ∧ st.S = S) ∧ x.At own wc ∧ x.l = st.s.pkt i q p ∧ i < st.s.os.length ∧ q < st.s.Q i ∧ plcN st.s.K st.s.N (st.s.T i) q p = true
/-- Two receivers that look alike. -/
def DfN (A : Nat → Addr) (B0 : Nat) (w1 : World) (nb K N S : Nat) (wc : World) : Prop := NetIn A B0 w1 nb 2 wc (fun st => (rcat st.rs 0).2.vw = (rcat st.rs 1).2.vw ∧ st.K = K ∧ st.N = N ∧ st.S = S)

/-- What two receivers took, where they look alike. -/
theorem NI.tk2 {A : Nat → Addr} {B0 B : Nat} {own : Nat → Nat} {w : World} {nb : Nat} {st : Nt} (h : NI A B0 B own w nb st) (g : NG st) (hl : st.rs.length = 2) (hv : (rcat st.rs 0).2.vw = (rcat st.rs 1).2.vw) : ∃ tg tc tb tb' bv, w.cell? ⟨nb, 7, none⟩ = some (.slice (some ⟨tg, 0, none⟩) 2 tc) ∧ 2 ≤ tc ∧ w.cell? ⟨tg, 0, none⟩ = some (.slice (some ⟨tb, 0, none⟩) 16 16) ∧ w.cell? ⟨tg, 1, none⟩ = some (.slice (some ⟨tb', 0, none⟩) 16 16) ∧ w.cell? ⟨tb, 0, none⟩ = some (.bool bv) ∧ w.cell? ⟨tb', 0, none⟩ = some (.bool bv) := by
  obtain ⟨tg, tc, tb, d7, htc, d8, d9⟩ := h.tkRow (r := 0) (n := 2) g hl (by omega)
  obtain ⟨tg', tc', tb', d7', _, d8', d9'⟩ := h.tkRow (r := 1) (n := 2) g hl (by omega)
  have etk : (rcat st.rs 0).2.tk = (rcat st.rs 1).2.tk := congrArg Vw.tk hv
  have z1 := d9' 0 (by omega)
  rw [← etk] at z1
  rw [d7] at d7'
  simp only [Option.some.injEq, Value.slice.injEq, Addr.mk.injEq, and_true, true_and] at d7'
  rw [← d7'.1] at d8'
  exact ⟨tg, tc, tb, tb', _, d7, htc, d8, d8', d9 0 (by omega), z1⟩

set_option maxRecDepth 100000 in
set_option maxHeartbeats 4000000 in
theorem deaf_any {A : Nat → Addr} {B0 L c lb lo : Nat} {a : Option Addr} {k many size : Int} {t : ByteArray} {ss : List ByteArray} {w : World} (hE : Errs A B0 w) (hT : ErrType w) (hTl : 8 < w.heap.size) (h1 : In64 k) (h2 : In64 many) (h3 : In64 size) (hss : StrsAt (fun _ => 1) w lb lo ss) (hL : ss.length = L) (hL2 : L ≤ 140737488355328) (ha : 0 < L → a = some ⟨lb, lo, none⟩) (hsm : ∀ i, i < ss.length → (ss.getD i ByteArray.empty).size ≤ 140737488355328) :
    Calls Tryz.prog 8 #[.int .i64 k, .int .i64 many, .int .i64 size, .string t, .slice a L c] w fun e w' => e = .returned (.bool true) ∧ Below w.heap.size w w' := by
  have HCF := config_any h1 h2 h3 w
  have HE : Hid (Errs A B0 w) := hE
  have HT : Hid (ErrType w) := hT
  have HTL : Hid (8 < w.heap.size) := hTl
  have HSS : Hid (StrsAt (fun _ => 1) w lb lo ss) := hss
  have HLE : Hid (ss.length = L) := hL
  have HA : Hid (0 < L → a = some ⟨lb, lo, none⟩) := ha
  have HSM : Hid (∀ i, i < ss.length → (ss.getD i ByteArray.empty).size ≤ 140737488355328) := hsm
  clear hE hT hTl h1 h2 h3 hss hL ha hsm
  go_enter Tryz.func8, Tryz.ntmps8
  go_wp2_with fail
  refine HCF.mono ?_
  rintro e w0 ⟨K, N, S, rfl, hc, hb0⟩
  have HC : Hid (Cfg K N S) := hc
  have HB0 : Hid (Below w.heap.size w w0) := hb0
  clear HCF hc hb0
  go_upto_region 2 with fail
  have hX := heap_alloc_new w0 (.cells #[.int .i64 (K : Int), .int .i64 (N : Int), .int .i64 (S : Int)] 30)
  have HB1 : Hid (Below w.heap.size w (w0.alloc (.cells #[.int .i64 (K : Int), .int .i64 (N : Int), .int .i64 (S : Int)] 30))) := HB0.out.alloc HB0.out.size _
  generalize w0.alloc (.cells #[.int .i64 (K : Int), .int .i64 (N : Int), .int .i64 (S : Int)] 30) = w1 at *
  generalize w0.heap.size = cb at *
  have x0 : w1.cell? ⟨cb, 0, none⟩ = some (.int .i64 (K : Int)) := cell_of_row w1 _ 0 _ _ _ hX
  have x1 : w1.cell? ⟨cb, 1, none⟩ = some (.int .i64 (N : Int)) := cell_of_row w1 _ 1 _ _ _ hX
  have x2 : w1.cell? ⟨cb, 2, none⟩ = some (.int .i64 (S : Int)) := cell_of_row w1 _ 2 _ _ _ hX
  have HX : Hid (w1.heap[cb]? = some (.cells #[.int .i64 (K : Int), .int .i64 (N : Int), .int .i64 (S : Int)] 30 (0, 0))) := hX
  have HBG := begin_any (many := 1) HC.out ⟨by omega, by omega⟩ (HE.out.below (HB1.out.mono HE.out.size)) (HT.out.below HB1.out HTL.out) (Nat.lt_of_lt_of_le HTL.out HB1.out.size)
  clear hX
  go_wp2_with fail
  refine HBG.mono ?_
  rintro e w2 ⟨nb, cb2, n, rfl, hn, own2, st2, hI2, hg2, hf2, hbn2, hl2, _, _⟩
  have hn1 : n = 2 := by have e : pickI 1 3 = 1 := by decide
                         omega
  subst hn1
  obtain ⟨vg, vc, c4, hvc, _, _⟩ := hI2.rcs hl2
  have HI2 : Hid (NI A B0 w1.heap.size own2 w2 nb st2) := hI2
  have HG2 : Hid (NG st2) := hg2
  have HF2 : Hid (Fr (fun _ => 1) w1 own2 w2) := hf2
  have HBN : Hid (BegunNet K N S st2) := hbn2
  have HL2 : Hid (st2.rs.length = 2) := hl2
  have HS1 : Hid (StrsAt (fun _ => 1) w1 lb lo ss) := HSS.out.fr (fr_of_below HB1.out)
  have HOB := object_any t w2
  clear HBG hI2 hg2 hf2 hbn2 hl2 hn x0 x1 x2
  go_wp2_with fail
  refine HOB.mono ?_
  rintro e w3 ⟨⟨xa, xb, xo, xc, xl⟩, rfl, hx255, hb3, hxo⟩
  obtain ⟨hI3, hf3⟩ := HI2.out.above 1 hb3
  have HEN := netEnq_any hI3 HG2.out (hxo _ (fun b hb => ownN_new hb)) hx255
  have HF3 : Hid (Fr (fun _ => 1) w1 (ownN own2 w2.heap.size 1) w3) := HF2.out.trans hf3
  clear HOB hb3 hxo hI3 hf3 hx255 c4 hvc
  unfold Sl.val at HEN ⊢
  simp only at HEN ⊢
  go_wp2_with fail
  refine HEN.mono ?_
  rintro e w4 ⟨rfl, own4, st4, hI4, hg4, hf4, he4⟩
  have HI : Hid (DfN A B0 w1 nb K N S w4) := by
    obtain ⟨d0, m0, hr0⟩ := HBN.out.rs 0 (by rw [HL2.out]; omega)
    obtain ⟨d1, m1, hr1⟩ := HBN.out.rs 1 (by rw [HL2.out]; omega)
    have hrs := he4.len HI2.out.sok.few
    have hcf : st4.K = st2.K ∧ st4.N = st2.N ∧ st4.S = st2.S := by
      obtain ⟨o, vo, vo', _, _, rfl⟩ := he4.more (by rw [HBN.out.s]; simp [snd0])
      exact ⟨rfl, rfl, rfl⟩
    refine ⟨own4, st4, hI4, hg4, he4.open HI2.out.sok.few (begun_open HBN.out), by rw [hrs]; exact HL2.out, HF3.out.trans hf4, by rw [hrs, hr0, hr1]; rfl, hcf.1.trans HBN.out.cfg.1, hcf.2.1.trans HBN.out.cfg.2.1, hcf.2.2.trans HBN.out.cfg.2.2⟩
  clear HEN hI4 hg4 hf4 he4
  go_wp2_with fail
  go_loopw [13, 14, 15, 16, 17, 18, 19, 20, 21, 22, 23, 24, 25] (fun ok t _ _ _ _ _ _ _ _ _ _ _ wr => ∃ i : Nat, i ≤ 200 ∧ t = .int .i64 (i : Int) ∧ ok = .bool true ∧ Hid (DfN A B0 w1 nb K N S wr)) (fun _ t _ _ _ _ _ _ _ _ _ _ _ _ => 200 - (intOf t).toNat)
  case atStart => exact ⟨0, by omega, rfl, rfl, HI⟩
  case round =>
    obtain ⟨i, hi, rfl, rfl, HJ⟩ := hrel
    obtain ⟨own5, st5, hI5, hg5, ho5, hl5, hf5, hv5, hk5⟩ := HJ.out
    by_cases hlt : i < 200
    · have hlt1 : (i : Int) < 200 := by omega
      have HNX := netNext_any hI5 hg5
      obtain ⟨_, _, _, c3, _, _, _, _⟩ := hI5.cells
      have HI5 : Hid (NI A B0 w1.heap.size own5 wr nb st5) := hI5
      have HG5 : Hid (NG st5) := hg5
      have HO5 : Hid st5.Open := ho5
      have HL5 : Hid (st5.rs.length = 2) := hl5
      have HF5 : Hid (Fr (fun _ => 1) w1 own5 wr) := hf5
      have HV5 : Hid ((rcat st5.rs 0).2.vw = (rcat st5.rs 1).2.vw ∧ st5.K = K ∧ st5.N = N ∧ st5.S = S) := ⟨hv5, hk5⟩
      clear HJ hI5 hg5 ho5 hl5 hf5 hv5 hk5
      go_wp2_with fail
      refine HNX.mono ?_
      rintro e w6 (⟨⟨ya, yb, yo, yc, yl⟩, own6, i6, q6, p6, s6, rfl, hna, hI6, hg6, hf6, hy6, hyl, hy0, hi6, hq6, hp6⟩ | ⟨rfl, hid, own6, hI6, hf6⟩)
      · have HP6 : Hid (DfP A B0 w1 nb K N S i6 q6 p6 ⟨ya, yb, yo, yc, yl⟩ w6) := ⟨own6, st5.withS s6, hI6, hg6, HO5.out, HL5.out, HF5.out.trans hf6, HV5.out.1, HV5.out.2, hy6, hyl, hi6, hq6, hp6⟩
        clear HNX hI6 hg6 hf6 hy6 hyl hy0 hi6 hq6 hp6 hna c3
        unfold Sl.val
        simp only
        go_upto_if 69 with fail
        go_cut [17, 18, 19, 20, 21] from 49 to 169 (fun _ _ _ _ _ wc => Hid (DfP A B0 w1 nb K N S i6 q6 p6 ⟨ya, yb, yo, yc, yl⟩ wc))
        case first =>
          by_cases hno : i < L
          · have hno1 : (i : Int) < (L : Int) := by omega
            have hlt0 : (0 : Int) ≤ (i : Int) := by omega
            obtain ⟨own7, st7, hI7, hg7, ho7, hl7, hf7, hv7, hk7, hy7, hyl, hi7, hq7, hp7⟩ := HP6.out
            have hc7 := (HS1.out.fr hf7).cell i (by rw [HLE.out]; exact hno)
            have ha' := HA.out (by omega)
            subst ha'
            obtain ⟨sv, hsv⟩ : ∃ x, x = ss.getD i ByteArray.empty := ⟨_, rfl⟩
            rw [← hsv] at hc7
            obtain ⟨⟨za, zb', zo, zc, zl⟩, w7, hcv, hzl, hb7, hza, ⟨cs, fr, hcs, _, hfr⟩, hz7⟩ := conv_new w6 sv (by rw [hsv]; exact HSM.out i (by rw [HLE.out]; exact hno))
            clear hsv
            change za = some ⟨w6.heap.size, 0, none⟩ at hza
            subst hza
            change zl = _ at hzl
            have hzlen : zl.length = sv.size := by rw [hzl]; unfold bytesIn; rw [List.length_map, size_data]
            have hfz : 1 < zl.length → w7.frozen? ⟨w6.heap.size, 1, none⟩ = false := fun q => unfrozen_row hcs (by omega)
            change (convert 9 33 (.string sv)).run Tryz.prog w6 = .ok (.slice (some ⟨w6.heap.size, 0, none⟩) zl.length zc) w7 at hcv
            have HZ7 : Hid ((⟨some ⟨w6.heap.size, 0, none⟩, zb', zo, zc, zl⟩ : Sl).At (ownN own7 w6.heap.size 1) w7) := hz7 _ (fun b hb => ownN_new hb)
            have hzz : zb' = w6.heap.size ∧ zo = 0 := by
              rcases HZ7.out.ptr with q | ⟨q, _⟩
              · simp only [Option.some.injEq, Addr.mk.injEq, and_true] at q
                exact ⟨q.1.symm, q.2.symm⟩
              · cases q
            obtain ⟨rfl, rfl⟩ := hzz
            have HI7 : Hid (NI A B0 w1.heap.size own7 w6 nb st7) := hI7
            have HG7 : Hid (NG st7) := hg7
            have HO7 : Hid st7.Open := ho7
            have HL7 : Hid (st7.rs.length = 2) := hl7
            have HF7 : Hid (Fr (fun _ => 1) w1 own7 w6) := hf7
            have HV7 : Hid ((rcat st7.rs 0).2.vw = (rcat st7.rs 1).2.vw) := hv7
            have HK7 : Hid (st7.K = K ∧ st7.N = N ∧ st7.S = S) := hk7
            have HY7 : Hid ((⟨ya, yb, yo, yc, yl⟩ : Sl).At own7 w6) := hy7
            have HYL : Hid ((⟨ya, yb, yo, yc, yl⟩ : Sl).l = st7.s.pkt i6 q6 p6 ∧ i6 < st7.s.os.length ∧ q6 < st7.s.Q i6 ∧ plcN st7.s.K st7.s.N (st7.s.T i6) q6 p6 = true) := ⟨hyl, hi7, hq7, hp7⟩
            have HB7 : Hid (Below w6.heap.size w6 w7) := hb7
            have hbs := HZ7.out.bs
            have HBT : Hid (bt zl 1 < 256) := bt_lt zl 1
            clear hI7 hg7 ho7 hl7 hf7 hv7 hk7 hy7 hyl hi7 hq7 hp7 hb7 hz7 hzl hzlen hcs hfr HP6
            by_cases hcond : 1 < zl.length ∧ bt zl 0 = 1 ∧ bt zl 1 < 16
            · obtain ⟨g1, g2, g3⟩ := hcond
              have y0 := hbs 0 (by show 0 < zl.length; omega)
              have y1 := hbs 1 (by show 1 < zl.length; omega)
              change w7.cell? ⟨w6.heap.size, 0, none⟩ = some (.int .u8 (bt zl 0 : Int)) at y0
              change w7.cell? ⟨w6.heap.size, 1, none⟩ = some (.int .u8 (bt zl 1 : Int)) at y1
              rw [g2] at y0
              have hfz1 := hfz g1
              have HNDp : Hid (NoData K N S (zl.set 1 (by8 (bt zl 1 + 16)))) := nodata_poke g1 g3
              have HATp : Hid ((⟨some ⟨w6.heap.size, 0, none⟩, w6.heap.size, 0, zc, zl.set 1 (by8 (bt zl 1 + 16))⟩ : Sl).At (ownN own7 w6.heap.size 1) (w7.setCell ⟨w6.heap.size, 1, none⟩ (.int .u8 ((bt zl 1 : Int) + 16)))) := by
                have q := poke_at (v := by8 (bt zl 1 + 16)) HZ7.out g1
                rw [by8_nat (by omega)] at q
                exact q
              have hl1 : (1 : Int) < (zl.length : Int) := by omega
              have hl2 : (bt zl 1 : Int) < 16 := by omega
              have hw : IntKind.u8.wrap ((bt zl 1 : Int) + 16) = (bt zl 1 : Int) + 16 := by unfold IntKind.wrap; simp [IntKind.signed, IntKind.bits]; omega
              obtain ⟨b1, hb1⟩ : ∃ x, x = bt zl 1 := ⟨_, rfl⟩
              rw [← hb1] at y1 hl2 hw HNDp HATp
              have hset : (zl.set 1 (by8 (b1 + 16))).length = zl.length := by simp
              have HSET : Hid ((zl.set 1 (by8 (b1 + 16))).length = zl.length) := hset
              clear hbs hfz hb1 g2 g3 hset
              have HBZ : Hid (Below w6.heap.size w6 (w7.setCell ⟨w6.heap.size, 1, none⟩ (.int .u8 ((b1 : Int) + 16)))) := HB7.out.setCell (p := ⟨w6.heap.size, 1, none⟩) (Nat.le_refl _) _
              have HAT : Hid ((⟨some ⟨w6.heap.size, 0, none⟩, w6.heap.size, 0, zc, zl.set 1 (by8 (b1 + 16))⟩ : Sl).At (ownN own7 w6.heap.size 1) (w7.setCell ⟨w6.heap.size, 1, none⟩ (.int .u8 ((b1 : Int) + 16)))) := HATp.out
              have HND : Hid (NoData K N S (zl.set 1 (by8 (b1 + 16)))) := HNDp.out
              obtain ⟨hI8, hf8⟩ := HI7.out.above 1 HBZ.out
              have h1l : 1 < st7.rs.length := by rw [HL7.out]; omega
              obtain ⟨vg, vc, c4, hvc, _, e1⟩ := hI8.rcs HL7.out
              have HRN := noise_rcv (r := 1) hI8 HG7.out h1l (HO7.out 1 h1l) HAT.out (by rw [HK7.out.1, HK7.out.2.1, HK7.out.2.2]; exact HND.out)
              unfold Sl.val at HRN
              simp only [HSET.out] at HRN
              have HF8 : Hid (Fr own7 w6 (ownN own7 w6.heap.size 1) (w7.setCell ⟨w6.heap.size, 1, none⟩ (.int .u8 ((b1 : Int) + 16)))) := hf8
              clear hI8 hf8
              go_wp2_with fail
              refine HRN.mono ?_
              rintro e w8 ⟨⟨own8, hI8, hf8⟩, he8⟩
              obtain ⟨_, _, _, c3, _, _, _, _⟩ := hI8.cells
              have HTN := noise_snd hI8 HG7.out (HAT.out.fr hf8)
              unfold Sl.val at HTN
              simp only [HSET.out] at HTN
              have HF9 : Hid (Fr own7 w6 own8 w8) := HF8.out.trans hf8
              have HAT8 : Hid ((⟨some ⟨w6.heap.size, 0, none⟩, w6.heap.size, 0, zc, zl.set 1 (by8 (b1 + 16))⟩ : Sl).At own8 w8) := HAT.out.fr hf8
              have HE8 : Hid ((parseE K N S (zl.set 1 (by8 (b1 + 16))) = none ∧ e = .returned .nilIface) ∨ (parseE K N S (zl.set 1 (by8 (b1 + 16))) ≠ none ∧ ∃ pb, e = .returned (.iface 166 (.pointer (some ⟨pb, 0, none⟩))))) := by have q := he8; rw [HK7.out.1, HK7.out.2.1, HK7.out.2.2] at q; exact q
              clear HRN hI8 hf8 he8 c4 e1
              obtain ⟨ev, hev, hev2⟩ : ∃ ev, e = .returned ev ∧ ((parseE K N S (zl.set 1 (by8 (b1 + 16))) = none ∧ ev = .nilIface) ∨ (parseE K N S (zl.set 1 (by8 (b1 + 16))) ≠ none ∧ ∃ pb, ev = .iface 166 (.pointer (some ⟨pb, 0, none⟩)))) := by
                rcases HE8.out with ⟨q1, q2⟩ | ⟨q1, pb, q2⟩
                · exact ⟨_, q2, .inl ⟨q1, rfl⟩⟩
                · exact ⟨_, q2, .inr ⟨q1, pb, rfl⟩⟩
              subst hev
              have HEV : Hid _ := hev2
              clear hev2 HE8
              go_wp2_with fail
              refine HTN.mono ?_
              rintro e w9 ⟨⟨own9, hI9, hg9, hf9⟩, fv, rfl, hfv1, hfv2⟩
              have HPN := noise_parse hI9 HC.out (HAT8.out.fr hf9)
              unfold Sl.val at HPN
              simp only [HSET.out] at HPN
              have hfc : Fr (fun _ => 1) w1 own9 w9 := (HF7.out.trans HF9.out).trans hf9
              have hX9 := (hfc.keep cb (lt_of_block HX.out) rfl).2.trans HX.out
              have x0 : w9.cell? ⟨cb, 0, none⟩ = some (.int .i64 (K : Int)) := cell_of_row w9 _ 0 _ _ _ hX9
              have x1 : w9.cell? ⟨cb, 1, none⟩ = some (.int .i64 (N : Int)) := cell_of_row w9 _ 1 _ _ _ hX9
              have x2 : w9.cell? ⟨cb, 2, none⟩ = some (.int .i64 (S : Int)) := cell_of_row w9 _ 2 _ _ _ hX9
              have HG9 : Hid (NG (st7.withS (hearS st7.s (zl.set 1 (by8 (b1 + 16)))))) := hg9
              have HY9 : Hid ((⟨ya, yb, yo, yc, yl⟩ : Sl).At own9 w9) := (HY7.out.fr HF9.out).fr hf9
              have HFC : Hid (Fr (fun _ => 1) w1 own9 w9) := hfc
              have HFV : Hid ((parseE K N S (zl.set 1 (by8 (b1 + 16))) ≠ none → ∃ pb, fv = .iface 166 (.pointer (some ⟨pb, 0, none⟩))) ∧ (fv = .nilIface ∨ ∃ pb, fv = .iface 166 (.pointer (some ⟨pb, 0, none⟩)))) := ⟨fun z => hfv1 (by rw [HK7.out.1, HK7.out.2.1, HK7.out.2.2]; exact z), hfv2⟩
              clear HTN hI9 hg9 hf9 hfv1 hfv2 hfc hX9 c3
              go_wp2_with fail
              refine HPN.mono ?_
              rintro e w10 ⟨⟨own10, hI10, hf10⟩, a0, a1, a2, a3, a4, o5, o6, n5, c5, n6, c6, v, rfl, hv⟩
              have HFIN : Hid (∀ w', Below w10.heap.size w10 w' → DfP A B0 w1 nb K N S i6 q6 p6 ⟨ya, yb, yo, yc, yl⟩ w') := fun w' hb => by
                obtain ⟨hI11, hf11⟩ := hI10.above 1 hb
                have hsm := SameOs.hearS st7.s (zl.set 1 (by8 (b1 + 16)))
                exact ⟨_, _, hI11, HG9.out, HO7.out, HL7.out, (HFC.out.trans hf10).trans hf11, HV7.out, HK7.out, (HY9.out.fr hf10).fr hf11, by show _ = (hearS st7.s (zl.set 1 (by8 (b1 + 16)))).pkt i6 q6 p6; rw [hsm.pkt]; exact HYL.out.1, by show i6 < (hearS st7.s (zl.set 1 (by8 (b1 + 16)))).os.length; rw [hsm.len]; exact HYL.out.2.1, by show q6 < (hearS st7.s (zl.set 1 (by8 (b1 + 16)))).Q i6; rw [hsm.Q]; exact HYL.out.2.2.1, by show plcN (hearS st7.s (zl.set 1 (by8 (b1 + 16)))).K (hearS st7.s (zl.set 1 (by8 (b1 + 16)))).N ((hearS st7.s (zl.set 1 (by8 (b1 + 16)))).T i6) q6 p6 = true; rw [hsm.K, hsm.N, hsm.T]; exact HYL.out.2.2.2⟩
              have HBA : Hid (∀ o, Below w10.heap.size w10 (w10.alloc o)) := fun o => (Below.refl _ w10).alloc (Nat.le_refl _) o
              clear HPN hI10 hf10 x0 x1 x2
              rcases hv with ⟨hv1, rfl⟩ | ⟨hv1, pb, rfl⟩
              · clear hv1
                go_wp2_with fail
                go_meet
                case rel => exact (HFIN.out _ (HBA.out _) : DfP A B0 w1 nb K N S i6 q6 p6 ⟨ya, yb, yo, yc, yl⟩ _)
              · obtain ⟨pb2, rfl⟩ := HFV.out.1 hv1
                obtain ⟨pb3, rfl⟩ : ∃ pb, ev = .iface 166 (.pointer (some ⟨pb, 0, none⟩)) := by
                  rcases HEV.out with ⟨q, _⟩ | ⟨_, q⟩
                  · exact absurd q hv1
                  · exact q
                have B1 := bad_nil pb
                have B2 := bad_nil pb2
                have B3 := bad_nil pb3
                clear hv1
                go_wp2_with fail
                go_meet
                case rel => exact (HFIN.out _ (HBA.out _) : DfP A B0 w1 nb K N S i6 q6 p6 ⟨ya, yb, yo, yc, yl⟩ _)
            · have HNDk : Hid (NoData K N S zl) := nodata_keep hcond
              by_cases g1 : 1 < zl.length
              · have y0 := hbs 0 (by show 0 < zl.length; omega)
                have y1 := hbs 1 (by show 1 < zl.length; omega)
                change w7.cell? ⟨w6.heap.size, 0, none⟩ = some (.int .u8 (bt zl 0 : Int)) at y0
                change w7.cell? ⟨w6.heap.size, 1, none⟩ = some (.int .u8 (bt zl 1 : Int)) at y1
                have hl1 : (1 : Int) < (zl.length : Int) := by omega
                by_cases g2 : bt zl 0 = 1
                · rw [g2] at y0
                  have hl2 : ¬ (bt zl 1 : Int) < 16 := by
                    intro q
                    exact hcond ⟨g1, g2, by omega⟩
                  clear hcond hbs hfz g2
                  have HBZ : Hid (Below w6.heap.size w6 (w7)) := HB7.out
                  have HAT : Hid ((⟨some ⟨w6.heap.size, 0, none⟩, w6.heap.size, 0, zc, zl⟩ : Sl).At (ownN own7 w6.heap.size 1) (w7)) := HZ7.out
                  have HND : Hid (NoData K N S (zl)) := HNDk.out
                  obtain ⟨hI8, hf8⟩ := HI7.out.above 1 HBZ.out
                  have h1l : 1 < st7.rs.length := by rw [HL7.out]; omega
                  obtain ⟨vg, vc, c4, hvc, _, e1⟩ := hI8.rcs HL7.out
                  have HRN := noise_rcv (r := 1) hI8 HG7.out h1l (HO7.out 1 h1l) HAT.out (by rw [HK7.out.1, HK7.out.2.1, HK7.out.2.2]; exact HND.out)
                  unfold Sl.val at HRN
                  simp only at HRN
                  have HF8 : Hid (Fr own7 w6 (ownN own7 w6.heap.size 1) (w7)) := hf8
                  clear hI8 hf8
                  go_wp2_with fail
                  refine HRN.mono ?_
                  rintro e w8 ⟨⟨own8, hI8, hf8⟩, he8⟩
                  obtain ⟨_, _, _, c3, _, _, _, _⟩ := hI8.cells
                  have HTN := noise_snd hI8 HG7.out (HAT.out.fr hf8)
                  unfold Sl.val at HTN
                  simp only at HTN
                  have HF9 : Hid (Fr own7 w6 own8 w8) := HF8.out.trans hf8
                  have HAT8 : Hid ((⟨some ⟨w6.heap.size, 0, none⟩, w6.heap.size, 0, zc, zl⟩ : Sl).At own8 w8) := HAT.out.fr hf8
                  have HE8 : Hid ((parseE K N S (zl) = none ∧ e = .returned .nilIface) ∨ (parseE K N S (zl) ≠ none ∧ ∃ pb, e = .returned (.iface 166 (.pointer (some ⟨pb, 0, none⟩))))) := by have q := he8; rw [HK7.out.1, HK7.out.2.1, HK7.out.2.2] at q; exact q
                  clear HRN hI8 hf8 he8 c4 e1
                  obtain ⟨ev, hev, hev2⟩ : ∃ ev, e = .returned ev ∧ ((parseE K N S (zl) = none ∧ ev = .nilIface) ∨ (parseE K N S (zl) ≠ none ∧ ∃ pb, ev = .iface 166 (.pointer (some ⟨pb, 0, none⟩)))) := by
                    rcases HE8.out with ⟨q1, q2⟩ | ⟨q1, pb, q2⟩
                    · exact ⟨_, q2, .inl ⟨q1, rfl⟩⟩
                    · exact ⟨_, q2, .inr ⟨q1, pb, rfl⟩⟩
                  subst hev
                  have HEV : Hid _ := hev2
                  clear hev2 HE8
                  go_wp2_with fail
                  refine HTN.mono ?_
                  rintro e w9 ⟨⟨own9, hI9, hg9, hf9⟩, fv, rfl, hfv1, hfv2⟩
                  have HPN := noise_parse hI9 HC.out (HAT8.out.fr hf9)
                  unfold Sl.val at HPN
                  simp only at HPN
                  have hfc : Fr (fun _ => 1) w1 own9 w9 := (HF7.out.trans HF9.out).trans hf9
                  have hX9 := (hfc.keep cb (lt_of_block HX.out) rfl).2.trans HX.out
                  have x0 : w9.cell? ⟨cb, 0, none⟩ = some (.int .i64 (K : Int)) := cell_of_row w9 _ 0 _ _ _ hX9
                  have x1 : w9.cell? ⟨cb, 1, none⟩ = some (.int .i64 (N : Int)) := cell_of_row w9 _ 1 _ _ _ hX9
                  have x2 : w9.cell? ⟨cb, 2, none⟩ = some (.int .i64 (S : Int)) := cell_of_row w9 _ 2 _ _ _ hX9
                  have HG9 : Hid (NG (st7.withS (hearS st7.s (zl)))) := hg9
                  have HY9 : Hid ((⟨ya, yb, yo, yc, yl⟩ : Sl).At own9 w9) := (HY7.out.fr HF9.out).fr hf9
                  have HFC : Hid (Fr (fun _ => 1) w1 own9 w9) := hfc
                  have HFV : Hid ((parseE K N S (zl) ≠ none → ∃ pb, fv = .iface 166 (.pointer (some ⟨pb, 0, none⟩))) ∧ (fv = .nilIface ∨ ∃ pb, fv = .iface 166 (.pointer (some ⟨pb, 0, none⟩)))) := ⟨fun z => hfv1 (by rw [HK7.out.1, HK7.out.2.1, HK7.out.2.2]; exact z), hfv2⟩
                  clear HTN hI9 hg9 hf9 hfv1 hfv2 hfc hX9 c3
                  go_wp2_with fail
                  refine HPN.mono ?_
                  rintro e w10 ⟨⟨own10, hI10, hf10⟩, a0, a1, a2, a3, a4, o5, o6, n5, c5, n6, c6, v, rfl, hv⟩
                  have HFIN : Hid (∀ w', Below w10.heap.size w10 w' → DfP A B0 w1 nb K N S i6 q6 p6 ⟨ya, yb, yo, yc, yl⟩ w') := fun w' hb => by
                    obtain ⟨hI11, hf11⟩ := hI10.above 1 hb
                    have hsm := SameOs.hearS st7.s (zl)
                    exact ⟨_, _, hI11, HG9.out, HO7.out, HL7.out, (HFC.out.trans hf10).trans hf11, HV7.out, HK7.out, (HY9.out.fr hf10).fr hf11, by show _ = (hearS st7.s (zl)).pkt i6 q6 p6; rw [hsm.pkt]; exact HYL.out.1, by show i6 < (hearS st7.s (zl)).os.length; rw [hsm.len]; exact HYL.out.2.1, by show q6 < (hearS st7.s (zl)).Q i6; rw [hsm.Q]; exact HYL.out.2.2.1, by show plcN (hearS st7.s (zl)).K (hearS st7.s (zl)).N ((hearS st7.s (zl)).T i6) q6 p6 = true; rw [hsm.K, hsm.N, hsm.T]; exact HYL.out.2.2.2⟩
                  have HBA : Hid (∀ o, Below w10.heap.size w10 (w10.alloc o)) := fun o => (Below.refl _ w10).alloc (Nat.le_refl _) o
                  clear HPN hI10 hf10 x0 x1 x2
                  rcases hv with ⟨hv1, rfl⟩ | ⟨hv1, pb, rfl⟩
                  · clear hv1
                    go_wp2_with fail
                    go_meet
                    case rel => exact (HFIN.out _ (HBA.out _) : DfP A B0 w1 nb K N S i6 q6 p6 ⟨ya, yb, yo, yc, yl⟩ _)
                  · obtain ⟨pb2, rfl⟩ := HFV.out.1 hv1
                    obtain ⟨pb3, rfl⟩ : ∃ pb, ev = .iface 166 (.pointer (some ⟨pb, 0, none⟩)) := by
                      rcases HEV.out with ⟨q, _⟩ | ⟨_, q⟩
                      · exact absurd q hv1
                      · exact q
                    have B1 := bad_nil pb
                    have B2 := bad_nil pb2
                    have B3 := bad_nil pb3
                    clear hv1
                    go_wp2_with fail
                    go_meet
                    case rel => exact (HFIN.out _ (HBA.out _) : DfP A B0 w1 nb K N S i6 q6 p6 ⟨ya, yb, yo, yc, yl⟩ _)
                · have hl2 : ¬ ((bt zl 0 : Int) = 1) := by omega
                  clear hcond hbs hfz g2
                  have HBZ : Hid (Below w6.heap.size w6 (w7)) := HB7.out
                  have HAT : Hid ((⟨some ⟨w6.heap.size, 0, none⟩, w6.heap.size, 0, zc, zl⟩ : Sl).At (ownN own7 w6.heap.size 1) (w7)) := HZ7.out
                  have HND : Hid (NoData K N S (zl)) := HNDk.out
                  obtain ⟨hI8, hf8⟩ := HI7.out.above 1 HBZ.out
                  have h1l : 1 < st7.rs.length := by rw [HL7.out]; omega
                  obtain ⟨vg, vc, c4, hvc, _, e1⟩ := hI8.rcs HL7.out
                  have HRN := noise_rcv (r := 1) hI8 HG7.out h1l (HO7.out 1 h1l) HAT.out (by rw [HK7.out.1, HK7.out.2.1, HK7.out.2.2]; exact HND.out)
                  unfold Sl.val at HRN
                  simp only at HRN
                  have HF8 : Hid (Fr own7 w6 (ownN own7 w6.heap.size 1) (w7)) := hf8
                  clear hI8 hf8
                  go_wp2_with fail
                  refine HRN.mono ?_
                  rintro e w8 ⟨⟨own8, hI8, hf8⟩, he8⟩
                  obtain ⟨_, _, _, c3, _, _, _, _⟩ := hI8.cells
                  have HTN := noise_snd hI8 HG7.out (HAT.out.fr hf8)
                  unfold Sl.val at HTN
                  simp only at HTN
                  have HF9 : Hid (Fr own7 w6 own8 w8) := HF8.out.trans hf8
                  have HAT8 : Hid ((⟨some ⟨w6.heap.size, 0, none⟩, w6.heap.size, 0, zc, zl⟩ : Sl).At own8 w8) := HAT.out.fr hf8
                  have HE8 : Hid ((parseE K N S (zl) = none ∧ e = .returned .nilIface) ∨ (parseE K N S (zl) ≠ none ∧ ∃ pb, e = .returned (.iface 166 (.pointer (some ⟨pb, 0, none⟩))))) := by have q := he8; rw [HK7.out.1, HK7.out.2.1, HK7.out.2.2] at q; exact q
                  clear HRN hI8 hf8 he8 c4 e1
                  obtain ⟨ev, hev, hev2⟩ : ∃ ev, e = .returned ev ∧ ((parseE K N S (zl) = none ∧ ev = .nilIface) ∨ (parseE K N S (zl) ≠ none ∧ ∃ pb, ev = .iface 166 (.pointer (some ⟨pb, 0, none⟩)))) := by
                    rcases HE8.out with ⟨q1, q2⟩ | ⟨q1, pb, q2⟩
                    · exact ⟨_, q2, .inl ⟨q1, rfl⟩⟩
                    · exact ⟨_, q2, .inr ⟨q1, pb, rfl⟩⟩
                  subst hev
                  have HEV : Hid _ := hev2
                  clear hev2 HE8
                  go_wp2_with fail
                  refine HTN.mono ?_
                  rintro e w9 ⟨⟨own9, hI9, hg9, hf9⟩, fv, rfl, hfv1, hfv2⟩
                  have HPN := noise_parse hI9 HC.out (HAT8.out.fr hf9)
                  unfold Sl.val at HPN
                  simp only at HPN
                  have hfc : Fr (fun _ => 1) w1 own9 w9 := (HF7.out.trans HF9.out).trans hf9
                  have hX9 := (hfc.keep cb (lt_of_block HX.out) rfl).2.trans HX.out
                  have x0 : w9.cell? ⟨cb, 0, none⟩ = some (.int .i64 (K : Int)) := cell_of_row w9 _ 0 _ _ _ hX9
                  have x1 : w9.cell? ⟨cb, 1, none⟩ = some (.int .i64 (N : Int)) := cell_of_row w9 _ 1 _ _ _ hX9
                  have x2 : w9.cell? ⟨cb, 2, none⟩ = some (.int .i64 (S : Int)) := cell_of_row w9 _ 2 _ _ _ hX9
                  have HG9 : Hid (NG (st7.withS (hearS st7.s (zl)))) := hg9
                  have HY9 : Hid ((⟨ya, yb, yo, yc, yl⟩ : Sl).At own9 w9) := (HY7.out.fr HF9.out).fr hf9
                  have HFC : Hid (Fr (fun _ => 1) w1 own9 w9) := hfc
                  have HFV : Hid ((parseE K N S (zl) ≠ none → ∃ pb, fv = .iface 166 (.pointer (some ⟨pb, 0, none⟩))) ∧ (fv = .nilIface ∨ ∃ pb, fv = .iface 166 (.pointer (some ⟨pb, 0, none⟩)))) := ⟨fun z => hfv1 (by rw [HK7.out.1, HK7.out.2.1, HK7.out.2.2]; exact z), hfv2⟩
                  clear HTN hI9 hg9 hf9 hfv1 hfv2 hfc hX9 c3
                  go_wp2_with fail
                  refine HPN.mono ?_
                  rintro e w10 ⟨⟨own10, hI10, hf10⟩, a0, a1, a2, a3, a4, o5, o6, n5, c5, n6, c6, v, rfl, hv⟩
                  have HFIN : Hid (∀ w', Below w10.heap.size w10 w' → DfP A B0 w1 nb K N S i6 q6 p6 ⟨ya, yb, yo, yc, yl⟩ w') := fun w' hb => by
                    obtain ⟨hI11, hf11⟩ := hI10.above 1 hb
                    have hsm := SameOs.hearS st7.s (zl)
                    exact ⟨_, _, hI11, HG9.out, HO7.out, HL7.out, (HFC.out.trans hf10).trans hf11, HV7.out, HK7.out, (HY9.out.fr hf10).fr hf11, by show _ = (hearS st7.s (zl)).pkt i6 q6 p6; rw [hsm.pkt]; exact HYL.out.1, by show i6 < (hearS st7.s (zl)).os.length; rw [hsm.len]; exact HYL.out.2.1, by show q6 < (hearS st7.s (zl)).Q i6; rw [hsm.Q]; exact HYL.out.2.2.1, by show plcN (hearS st7.s (zl)).K (hearS st7.s (zl)).N ((hearS st7.s (zl)).T i6) q6 p6 = true; rw [hsm.K, hsm.N, hsm.T]; exact HYL.out.2.2.2⟩
                  have HBA : Hid (∀ o, Below w10.heap.size w10 (w10.alloc o)) := fun o => (Below.refl _ w10).alloc (Nat.le_refl _) o
                  clear HPN hI10 hf10 x0 x1 x2
                  rcases hv with ⟨hv1, rfl⟩ | ⟨hv1, pb, rfl⟩
                  · clear hv1
                    go_wp2_with fail
                    go_meet
                    case rel => exact (HFIN.out _ (HBA.out _) : DfP A B0 w1 nb K N S i6 q6 p6 ⟨ya, yb, yo, yc, yl⟩ _)
                  · obtain ⟨pb2, rfl⟩ := HFV.out.1 hv1
                    obtain ⟨pb3, rfl⟩ : ∃ pb, ev = .iface 166 (.pointer (some ⟨pb, 0, none⟩)) := by
                      rcases HEV.out with ⟨q, _⟩ | ⟨_, q⟩
                      · exact absurd q hv1
                      · exact q
                    have B1 := bad_nil pb
                    have B2 := bad_nil pb2
                    have B3 := bad_nil pb3
                    clear hv1
                    go_wp2_with fail
                    go_meet
                    case rel => exact (HFIN.out _ (HBA.out _) : DfP A B0 w1 nb K N S i6 q6 p6 ⟨ya, yb, yo, yc, yl⟩ _)
              · have hl1 : ¬ (1 : Int) < (zl.length : Int) := by omega
                clear hcond hbs hfz
                have HBZ : Hid (Below w6.heap.size w6 (w7)) := HB7.out
                have HAT : Hid ((⟨some ⟨w6.heap.size, 0, none⟩, w6.heap.size, 0, zc, zl⟩ : Sl).At (ownN own7 w6.heap.size 1) (w7)) := HZ7.out
                have HND : Hid (NoData K N S (zl)) := HNDk.out
                obtain ⟨hI8, hf8⟩ := HI7.out.above 1 HBZ.out
                have h1l : 1 < st7.rs.length := by rw [HL7.out]; omega
                obtain ⟨vg, vc, c4, hvc, _, e1⟩ := hI8.rcs HL7.out
                have HRN := noise_rcv (r := 1) hI8 HG7.out h1l (HO7.out 1 h1l) HAT.out (by rw [HK7.out.1, HK7.out.2.1, HK7.out.2.2]; exact HND.out)
                unfold Sl.val at HRN
                simp only at HRN
                have HF8 : Hid (Fr own7 w6 (ownN own7 w6.heap.size 1) (w7)) := hf8
                clear hI8 hf8
                go_wp2_with fail
                refine HRN.mono ?_
                rintro e w8 ⟨⟨own8, hI8, hf8⟩, he8⟩
                obtain ⟨_, _, _, c3, _, _, _, _⟩ := hI8.cells
                have HTN := noise_snd hI8 HG7.out (HAT.out.fr hf8)
                unfold Sl.val at HTN
                simp only at HTN
                have HF9 : Hid (Fr own7 w6 own8 w8) := HF8.out.trans hf8
                have HAT8 : Hid ((⟨some ⟨w6.heap.size, 0, none⟩, w6.heap.size, 0, zc, zl⟩ : Sl).At own8 w8) := HAT.out.fr hf8
                have HE8 : Hid ((parseE K N S (zl) = none ∧ e = .returned .nilIface) ∨ (parseE K N S (zl) ≠ none ∧ ∃ pb, e = .returned (.iface 166 (.pointer (some ⟨pb, 0, none⟩))))) := by have q := he8; rw [HK7.out.1, HK7.out.2.1, HK7.out.2.2] at q; exact q
                clear HRN hI8 hf8 he8 c4 e1
                obtain ⟨ev, hev, hev2⟩ : ∃ ev, e = .returned ev ∧ ((parseE K N S (zl) = none ∧ ev = .nilIface) ∨ (parseE K N S (zl) ≠ none ∧ ∃ pb, ev = .iface 166 (.pointer (some ⟨pb, 0, none⟩)))) := by
                  rcases HE8.out with ⟨q1, q2⟩ | ⟨q1, pb, q2⟩
                  · exact ⟨_, q2, .inl ⟨q1, rfl⟩⟩
                  · exact ⟨_, q2, .inr ⟨q1, pb, rfl⟩⟩
                subst hev
                have HEV : Hid _ := hev2
                clear hev2 HE8
                go_wp2_with fail
                refine HTN.mono ?_
                rintro e w9 ⟨⟨own9, hI9, hg9, hf9⟩, fv, rfl, hfv1, hfv2⟩
                have HPN := noise_parse hI9 HC.out (HAT8.out.fr hf9)
                unfold Sl.val at HPN
                simp only at HPN
                have hfc : Fr (fun _ => 1) w1 own9 w9 := (HF7.out.trans HF9.out).trans hf9
                have hX9 := (hfc.keep cb (lt_of_block HX.out) rfl).2.trans HX.out
                have x0 : w9.cell? ⟨cb, 0, none⟩ = some (.int .i64 (K : Int)) := cell_of_row w9 _ 0 _ _ _ hX9
                have x1 : w9.cell? ⟨cb, 1, none⟩ = some (.int .i64 (N : Int)) := cell_of_row w9 _ 1 _ _ _ hX9
                have x2 : w9.cell? ⟨cb, 2, none⟩ = some (.int .i64 (S : Int)) := cell_of_row w9 _ 2 _ _ _ hX9
                have HG9 : Hid (NG (st7.withS (hearS st7.s (zl)))) := hg9
                have HY9 : Hid ((⟨ya, yb, yo, yc, yl⟩ : Sl).At own9 w9) := (HY7.out.fr HF9.out).fr hf9
                have HFC : Hid (Fr (fun _ => 1) w1 own9 w9) := hfc
                have HFV : Hid ((parseE K N S (zl) ≠ none → ∃ pb, fv = .iface 166 (.pointer (some ⟨pb, 0, none⟩))) ∧ (fv = .nilIface ∨ ∃ pb, fv = .iface 166 (.pointer (some ⟨pb, 0, none⟩)))) := ⟨fun z => hfv1 (by rw [HK7.out.1, HK7.out.2.1, HK7.out.2.2]; exact z), hfv2⟩
                clear HTN hI9 hg9 hf9 hfv1 hfv2 hfc hX9 c3
                go_wp2_with fail
                refine HPN.mono ?_
                rintro e w10 ⟨⟨own10, hI10, hf10⟩, a0, a1, a2, a3, a4, o5, o6, n5, c5, n6, c6, v, rfl, hv⟩
                have HFIN : Hid (∀ w', Below w10.heap.size w10 w' → DfP A B0 w1 nb K N S i6 q6 p6 ⟨ya, yb, yo, yc, yl⟩ w') := fun w' hb => by
                  obtain ⟨hI11, hf11⟩ := hI10.above 1 hb
                  have hsm := SameOs.hearS st7.s (zl)
                  exact ⟨_, _, hI11, HG9.out, HO7.out, HL7.out, (HFC.out.trans hf10).trans hf11, HV7.out, HK7.out, (HY9.out.fr hf10).fr hf11, by show _ = (hearS st7.s (zl)).pkt i6 q6 p6; rw [hsm.pkt]; exact HYL.out.1, by show i6 < (hearS st7.s (zl)).os.length; rw [hsm.len]; exact HYL.out.2.1, by show q6 < (hearS st7.s (zl)).Q i6; rw [hsm.Q]; exact HYL.out.2.2.1, by show plcN (hearS st7.s (zl)).K (hearS st7.s (zl)).N ((hearS st7.s (zl)).T i6) q6 p6 = true; rw [hsm.K, hsm.N, hsm.T]; exact HYL.out.2.2.2⟩
                have HBA : Hid (∀ o, Below w10.heap.size w10 (w10.alloc o)) := fun o => (Below.refl _ w10).alloc (Nat.le_refl _) o
                clear HPN hI10 hf10 x0 x1 x2
                rcases hv with ⟨hv1, rfl⟩ | ⟨hv1, pb, rfl⟩
                · clear hv1
                  go_wp2_with fail
                  go_meet
                  case rel => exact (HFIN.out _ (HBA.out _) : DfP A B0 w1 nb K N S i6 q6 p6 ⟨ya, yb, yo, yc, yl⟩ _)
                · obtain ⟨pb2, rfl⟩ := HFV.out.1 hv1
                  obtain ⟨pb3, rfl⟩ : ∃ pb, ev = .iface 166 (.pointer (some ⟨pb, 0, none⟩)) := by
                    rcases HEV.out with ⟨q, _⟩ | ⟨_, q⟩
                    · exact absurd q hv1
                    · exact q
                  have B1 := bad_nil pb
                  have B2 := bad_nil pb2
                  have B3 := bad_nil pb3
                  clear hv1
                  go_wp2_with fail
                  go_meet
                  case rel => exact (HFIN.out _ (HBA.out _) : DfP A B0 w1 nb K N S i6 q6 p6 ⟨ya, yb, yo, yc, yl⟩ _)
          · have hno1 : ¬ (i : Int) < (L : Int) := by omega
            go_wp2_with fail
            go_meet
            case rel => exact HP6
        case rest =>
          obtain ⟨own7, st7, hI7, hg7, ho7, hl7, hf7, hv7, hk7, hy7, hyl, hi7, hq7, hp7⟩ := hcut.out
          obtain ⟨r3, hr3, hr3b⟩ : ∃ r3 : Nat, (i : Int).tmod 3 = (r3 : Int) ∧ r3 < 3 := ⟨i % 3, by rw [Int.tmod_eq_emod_of_nonneg (by omega)]; omega, by omega⟩
          have HI7 : Hid (NI A B0 w1.heap.size own7 wc nb st7) := hI7
          have HG7 : Hid (NG st7) := hg7
          have HO7 : Hid st7.Open := ho7
          have HL7 : Hid (st7.rs.length = 2) := hl7
          have HF7 : Hid (Fr (fun _ => 1) w1 own7 wc) := hf7
          have HV7 : Hid ((rcat st7.rs 0).2.vw = (rcat st7.rs 1).2.vw) := hv7
          have HK7 : Hid (st7.K = K ∧ st7.N = N ∧ st7.S = S) := hk7
          have HY7 : Hid ((⟨ya, yb, yo, yc, yl⟩ : Sl).At own7 wc) := hy7
          have HYL : Hid ((⟨ya, yb, yo, yc, yl⟩ : Sl).l = st7.s.pkt i6 q6 p6 ∧ i6 < st7.s.os.length ∧ q6 < st7.s.Q i6 ∧ plcN st7.s.K st7.s.N (st7.s.T i6) q6 p6 = true) := ⟨hyl, hi7, hq7, hp7⟩
          clear hcut hI7 hg7 ho7 hl7 hf7 hv7 hk7 hy7 hyl hi7 hq7 hp7 HP6
          obtain ⟨wd, hwd⟩ : ∃ x, x = wc := ⟨wc, rfl⟩
          subst hwd
          go_upto_if 128 with fail
          go_cut [13] from 49 to 169 (fun ok wc => ok = .bool true ∧ Hid (DfN A B0 w1 nb K N S wc))
          case first =>
            by_cases h31 : r3 = 1
            · subst h31
              have HN7 : Hid (DfN A B0 w1 nb K N S wd) := ⟨own7, st7, HI7.out, HG7.out, HO7.out, HL7.out, HF7.out, HV7.out, HK7.out⟩
              go_wp2_with fail
              go_meet
              case rel => exact ⟨rfl, HN7⟩
            · have h31' : ¬ ((r3 : Int) = 1) := by omega
              have h0l : 0 < st7.rs.length := by rw [HL7.out]; omega
              have h1l : 1 < st7.rs.length := by rw [HL7.out]; omega
              have HHA := netHear_any (r := 0) HI7.out HG7.out h0l (HO7.out 0 h0l) HY7.out HYL.out.2.1 HYL.out.2.2.1 HYL.out.2.2.2 HYL.out.1
              unfold Sl.val at HHA
              simp only at HHA
              go_wp2_with fail
              refine HHA.mono ?_
              rintro e w8 ⟨rfl, own8, st8, hI8, hg8, hf8, r8, hst8, hv8, hs8⟩
              have hl8 : 1 < st8.rs.length := by rw [hst8, withR_len]; exact h1l
              have hat8 : rcat st8.rs 1 = rcat st7.rs 1 := by rw [hst8, withR_other h0l _ (by omega)]
              have hs8' : st8.s = st7.s := by rw [hst8]; rfl
              have HHB := netHear_any (r := 1) (x := ⟨ya, yb, yo, yc, yl⟩) hI8 hg8 hl8 (by rw [hat8]; exact HO7.out 1 h1l) (HY7.out.fr hf8) (by rw [hs8']; exact HYL.out.2.1) (by rw [hs8']; exact HYL.out.2.2.1) (by rw [hs8']; exact HYL.out.2.2.2) (by rw [hs8']; exact HYL.out.1)
              have HN8 : Hid (∀ w', NetTo A B0 w1.heap.size own8 w8 nb w' (HearNet st8 1 i6 q6 p6) → DfN A B0 w1 nb K N S w') := fun w' ⟨own9, st9, hI9, hg9, hf9, r9, hst9, hv9, hs9⟩ => by
                refine ⟨own9, st9, hI9, hg9, ?_, ?_, (HF7.out.trans hf8).trans hf9, ?_, ?_⟩
                · rw [hst9]
                  refine open_withR ?_ hl8 hs9
                  rw [hst8]
                  exact open_withR HO7.out h0l hs8
                · rw [hst9, withR_len, hst8, withR_len]; exact HL7.out
                · have e0 : (rcat st9.rs 0).2 = r8 := by rw [hst9, withR_other hl8 _ (by omega), hst8, withR_at h0l]
                  have e1 : (rcat st9.rs 1).2 = r9 := by rw [hst9, withR_at hl8]
                  rw [e0, e1, hv8, hv9, hat8, HV7.out, hs8']
                · rw [hst9, hst8]; exact HK7.out
              unfold Sl.val at HHB
              simp only at HHB
              clear HHA hI8 hg8 hf8 hst8 hv8 hs8 hat8 hs8' hl8
              go_wp2_with fail
              refine HHB.mono ?_
              rintro e w9 ⟨rfl, hN9⟩
              have HN9 : Hid _ := HN8.out w9 hN9
              clear HHB hN9 HN8
              go_wp2_with fail
              go_meet
              case rel => exact ⟨rfl, HN9⟩
          case rest =>
            obtain ⟨rfl, HDF⟩ := hcut
            obtain ⟨own8, st8, hI8, hg8, ho8, hl8, hf8, hv8, hk8⟩ := HDF.out
            have h0l : 0 < st8.rs.length := by rw [hl8]; omega
            have h1l : 1 < st8.rs.length := by rw [hl8]; omega
            obtain ⟨vg, vc, c4, hvc, e0, e1⟩ := hI8.rcs hl8
            have HAA := netAsk_any hI8 h0l (ho8 0 h0l)
            have HG8 : Hid (NG st8) := hg8
            have HO8 : Hid st8.Open := ho8
            have HL8 : Hid (st8.rs.length = 2) := hl8
            have HF8 : Hid (Fr (fun _ => 1) w1 own8 wc) := hf8
            have HV8 : Hid ((rcat st8.rs 0).2.vw = (rcat st8.rs 1).2.vw ∧ st8.K = K ∧ st8.N = N ∧ st8.S = S) := ⟨hv8, hk8⟩
            clear HDF hI8 hg8 ho8 hl8 hf8 hv8 hk8
            go_wp2_with fail
            refine HAA.mono ?_
            rintro e w9 ⟨⟨pa, pb, po, pc, pl⟩, own9, rfl, hI9, hf9, hp9, hq9⟩
            have HAB := netAsk_any hI9 h1l (HO8.out 1 h1l)
            obtain ⟨vg9, vc9, c49, hvc9, e09, e19⟩ := hI9.rcs HL8.out
            have HP9 : Hid ((⟨pa, pb, po, pc, pl⟩ : Sl).At own9 w9) := hp9
            have HQ9 : Hid ((pl = [] ∧ ∀ j, j < 16 → (rcat st8.rs 0).2.kf j = none) ∨ (5 ≤ pl.length ∧ askFor (rcat st8.rs 0).2 pl)) := hq9
            have HF9 : Hid (Fr (fun _ => 1) w1 own9 w9) := HF8.out.trans hf9
            clear HAA hI9 hf9 hp9 hq9 c4 e0 e1
            unfold Sl.val
            simp only
            go_wp2_with fail
            refine HAB.mono ?_
            rintro e w10 ⟨⟨ra, rb, ro, rc, rl⟩, own10, rfl, hI10, hf10, hp10, hq10⟩
            have hll : pl = rl := by
              refine ask_same (s := st8.s) (hI10.rok 0 h0l) (hI10.rok 1 h1l) ?_ ?_ HV8.out.1 HQ9.out hq10
              · rw [HG8.out.cfg.1, HG8.out.cfg.2.1, HG8.out.cfg.2.2]; exact HG8.out.gen 0 h0l
              · rw [HG8.out.cfg.1, HG8.out.cfg.2.1, HG8.out.cfg.2.2]; exact HG8.out.gen 1 h1l
            subst hll
            have HC1 := (HP9.out.fr hf10).conv (l := pl) rfl 0
            have HC2 := hp10.conv (l := pl) rfl 0
            change (convert 33 9 (.slice pa pl.length pc)).run Tryz.prog w10 = .ok (.string (str pl)) w10 at HC1
            change (convert 33 9 (.slice ra pl.length rc)).run Tryz.prog w10 = .ok (.string (str pl)) w10 at HC2
            have HN10 : Hid (DfN A B0 w1 nb K N S w10) := ⟨own10, st8, hI10, HG8.out, HO8.out, HL8.out, HF9.out.trans hf10, HV8.out⟩
            clear HAB hI10 hf10 hp10 hq10 c49 e09 e19
            unfold Sl.val
            simp only
            go_wp2_with fail
            go_roundw
            case rel => first | exact ⟨i + 1, by omega, by go_num, rfl, HN10⟩ | ((repeat apply Exists.intro); exact ⟨⟨i + 1, by omega, by go_num, rfl, HN10⟩, rfl⟩)
            case measure => simp [intOf]; omega
      · obtain ⟨tg, tc, tb, tb', bv, d7, htc, d8, d8', z0, z1⟩ := hI6.tk2 HG5.out HL5.out HV5.out.1
        have HBE : Hid (Below w.heap.size w w6) := HB1.out.trans ((fr_below (HF5.out.trans hf6)).mono HB1.out.size)
        clear HNX hI6 hf6 hid c3
        go_upto_region 26 with fail
        go_quiet (fail)
        go_wp2_with fail
        go_ret
        exact ⟨by simp, HBE.out.trans ((below_drew rfl).mono HBE.out.size)⟩
    · have hlt1 : ¬ (i : Int) < 200 := by omega
      obtain ⟨tg, tc, tb, tb', bv, d7, htc, d8, d8', z0, z1⟩ := hI5.tk2 hg5 hl5 hv5
      have HBE : Hid (Below w.heap.size w wr) := HB1.out.trans ((fr_below hf5).mono HB1.out.size)
      clear HJ hI5 hg5 ho5 hl5 hf5 hv5 hk5
      go_upto_region 26 with fail
      go_quiet (fail)
      go_wp2_with fail
      go_ret
      exact ⟨by simp, HBE.out.trans ((below_drew rfl).mono HBE.out.size)⟩

end Go.Proofs.YtjabhnhejbhgjaaGreatDoor
