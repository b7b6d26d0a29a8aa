/- Shut, walked. -/
import Derived.Test.YtjabhnhejbhgjaaGreatDoorNetShut
namespace Go.Proofs.YtjabhnhejbhgjaaGreatDoor
open Go.RowKit

set_option maxRecDepth 100000 in
set_option maxHeartbeats 4000000 in
theorem shut_any {A : Nat → Addr} {B0 : Nat} {k many size : Int} {t u : ByteArray} {w : World} (hE : Errs A B0 w) (hT : ErrType w) (hTl : 8 < w.heap.size) (h1 : In64 k) (h2 : In64 many) (h3 : In64 size) (hu : u.size ≤ 140737488355328) :
    Calls Tryz.prog 9 #[.int .i64 k, .int .i64 many, .int .i64 size, .string t, .string u] w fun e w' => e = .returned (.bool true) ∧ Below w.heap.size w w' := by
  have HCF := config_any h1 h2 h3 w
  have HE : Hid (Errs A B0 w) := hE
  have HT : Hid (ErrType w) := hT
  have HTL : Hid (8 < w.heap.size) := hTl
  have HU : Hid (u.size ≤ 140737488355328) := hu
  clear hE hT hTl h1 h2 h3 hu
  go_enter Tryz.func9, Tryz.ntmps9
  go_wp2_with fail
  refine HCF.mono ?_
  rintro e w1 ⟨K, N, S, rfl, hc, hb1⟩
  have HB1 : Hid (Below w.heap.size w w1) := hb1
  have HBG := begin_any (many := 1) hc ⟨by omega, by omega⟩ (HE.out.below (hb1.mono HE.out.size)) (HT.out.below hb1 HTL.out) (Nat.lt_of_lt_of_le HTL.out hb1.size)
  clear HCF hc hb1
  go_wp2_with fail
  refine HBG.mono ?_
  rintro e w2 ⟨nb, cb2, n, rfl, hn, own2, st2, hI2, hg2, hf2, hbn2, hl2, _, _⟩
  have hn1 : n = 2 := by have e : pickI 1 3 = 1 := by decide
                         omega
  subst hn1
  obtain ⟨vg, vc, c4, hvc, _, _⟩ := hI2.rcs hl2
  have HI2 : Hid (NI A B0 w1.heap.size own2 w2 nb st2) := hI2
  have HG2 : Hid (NG st2) := hg2
  have HF2 : Hid (Fr (fun _ => 1) w1 own2 w2) := hf2
  have HBN : Hid (BegunNet K N S st2) := hbn2
  have HL2 : Hid (st2.rs.length = 2) := hl2
  have HOB := object_any t w2
  clear HBG hI2 hg2 hf2 hbn2 hl2 hn
  go_wp2_with fail
  refine HOB.mono ?_
  rintro e w3 ⟨⟨xa, xb, xo, xc, xl⟩, rfl, hx255, hb3, hxo⟩
  obtain ⟨hI3, hf3⟩ := HI2.out.above 1 hb3
  have HEN := netEnq_any hI3 HG2.out (hxo _ (fun b hb => ownN_new hb)) hx255
  have HF3 : Hid (Fr (fun _ => 1) w1 (ownN own2 w2.heap.size 1) w3) := HF2.out.trans hf3
  clear HOB hb3 hxo hI3 hf3 hx255 c4 hvc
  unfold Sl.val at HEN ⊢
  simp only at HEN ⊢
  go_wp2_with fail
  refine HEN.mono ?_
  rintro e w4 ⟨rfl, own4, st4, hI4, hg4, hf4, he4⟩
  obtain ⟨d0, m0, hr0⟩ := HBN.out.rs 0 (by rw [HL2.out]; omega)
  obtain ⟨d1, m1, hr1⟩ := HBN.out.rs 1 (by rw [HL2.out]; omega)
  obtain ⟨hsh, hrs4, htk4⟩ := sh_begun (d := d1) (mb := m1) HBN.out he4
  have HNX := netNext_any hI4 hg4
  obtain ⟨_, _, _, c3, _, _, _, _⟩ := hI4.cells
  have HI4 : Hid (NI A B0 w1.heap.size own4 w4 nb st4) := hI4
  have HF4 : Hid (Fr (fun _ => 1) w1 own4 w4) := HF3.out.trans hf4
  have HSH : Hid (ShS st4.s (rcv0 K N S d1 m1).vw) := hsh
  have HL4 : Hid (st4.rs.length = 2) := by show _ = _; rw [hrs4]; exact HL2.out
  have HR0 : Hid ((rcat st4.rs 0).2 = rcv0 K N S d0 m0) := by show _ = _; rw [hrs4]; exact hr0
  have HR1 : Hid ((rcat st4.rs 1).2 = rcv0 K N S d1 m1) := by show _ = _; rw [hrs4]; exact hr1
  clear HEN hI4 hg4 hf4 he4 hsh hrs4 htk4 hr0 hr1
  go_wp2_with fail
  refine HNX.mono ?_
  rintro e w5 (⟨⟨ya, yb, yo, yc, yl⟩, own5, i5, q5, p5, s5, rfl, hna, hI5, hg5, hf5, hy5, hyl, hy0, hi5, hq5, hp5⟩ | ⟨rfl, hid, _⟩)
  · have hl5 : (st4.withS s5).rs.length = 2 := HL4.out
    have HCL := netClose_any (r := 0) hI5 hg5 (by rw [hl5]; omega) (by show (rcat st4.rs 0).2.shut = false; rw [HR0.out]; rfl) (by show (rcat st4.rs 0).2.tk = _; rw [HR0.out]; rfl)
    obtain ⟨vg, vc, c4, hvc, e0, _⟩ := hI5.rcs hl5
    have HF5 : Hid (Fr (fun _ => 1) w1 own5 w5) := HF4.out.trans hf5
    have HY5 : Hid ((⟨ya, yb, yo, yc, yl⟩ : Sl).At own5 w5) := hy5
    have HYL : Hid ((⟨ya, yb, yo, yc, yl⟩ : Sl).l = s5.pkt i5 q5 p5 ∧ i5 < s5.os.length ∧ q5 < s5.Q i5 ∧ plcN s5.K s5.N (s5.T i5) q5 p5 = true) := ⟨hyl, hi5, hq5, hp5⟩
    have HNA : Hid (NextAt st4.s i5 q5 p5 s5) := hna
    clear HNX hI5 hg5 hf5 hy5 hyl hy0 hi5 hq5 hp5 hna c3
    unfold Sl.val
    simp only
    go_wp2_with fail
    refine HCL.mono ?_
    rintro e w6 ⟨rfl, own6, hI6, hg6, hf6⟩
    clear HCL c4 hvc e0
    obtain ⟨st6, hst6⟩ : ∃ x, x = (st4.withS s5).withR 0 (rcat (st4.withS s5).rs 0).2.closed := ⟨_, rfl⟩
    rw [← hst6] at hI6 hg6
    have HST6 : Hid (st6 = (st4.withS s5).withR 0 (rcat (st4.withS s5).rs 0).2.closed) := hst6
    have hl6 : st6.rs.length = 2 := by rw [hst6, withR_len]; exact HL4.out
    have hat0 : rcat st6.rs 0 = ((rcat st4.rs 0).1, (rcat st4.rs 0).2.closed) := by rw [hst6, withR_at (st := st4.withS s5) (by show 0 < st4.rs.length; rw [HL4.out]; omega)]; rfl
    have hat1 : rcat st6.rs 1 = rcat st4.rs 1 := by rw [hst6, withR_other (st := st4.withS s5) (by show 0 < st4.rs.length; rw [HL4.out]; omega) _ (by omega)]; rfl
    have hss6 : st6.s = s5 := by rw [hst6]; rfl
    have hsh0 : (rcat st6.rs 0).2.shut = true := by rw [hat0]; rfl
    clear hst6
    have HH1 := rcvHear_shut (n := yl.length) (c := yc) (a := ya) (hI6.rcv 0 (by omega)) hI6.errs hsh0
    obtain ⟨vg, vc, c4, hvc, e0, _⟩ := hI6.rcs hl6
    have HF6 : Hid (Fr (fun _ => 1) w1 own6 w6) := HF5.out.trans hf6
    have HY6 : Hid ((⟨ya, yb, yo, yc, yl⟩ : Sl).At own6 w6) := HY5.out.fr hf6
    have HI6 : Hid (NI A B0 w1.heap.size own6 w6 nb st6) := hI6
    have HG6 : Hid (NG st6) := hg6
    have HL6 : Hid (st6.rs.length = 2) := hl6
    have HSH0 : Hid ((rcat st6.rs 0).2.shut = true) := hsh0
    have HA1 : Hid (rcat st6.rs 1 = rcat st4.rs 1) := hat1
    have HS6 : Hid (st6.s = s5) := hss6
    clear hI6 hg6 hf6 hl6 hat0 hat1 hss6 hsh0
    go_wp2_with fail
    refine HH1.mono ?_
    rintro e w6' ⟨rfl, hw⟩
    rw [hw, E_succ]
    clear hw HH1
    obtain ⟨⟨za, zb, zo, zc, zl⟩, w7, hcv, hzl, hb7, hza, _, hz7⟩ := conv_new w6 u HU.out
    clear hzl
    change za = some ⟨w6.heap.size, 0, none⟩ at hza
    subst hza
    change (convert 9 33 (.string u)).run Tryz.prog w6 = .ok (.slice (some ⟨w6.heap.size, 0, none⟩) zl.length zc) w7 at hcv
    obtain ⟨hI7, hf7⟩ := HI6.out.above 1 hb7
    have HH2 := rcvHear_shut (n := zl.length) (c := zc) (a := some ⟨w6.heap.size, 0, none⟩) (hI7.rcv 0 (by rw [HL6.out]; omega)) hI7.errs HSH0.out
    have HF7 : Hid (Fr own6 w6 (ownN own6 w6.heap.size 1) w7) := hf7
    have HI7 : Hid (NI A B0 w1.heap.size (ownN own6 w6.heap.size 1) w7 nb st6) := hI7
    obtain ⟨vg7, vc7, c47, hvc7, e07, _⟩ := hI7.rcs HL6.out
    have hB6 : Hid (Below w6.heap.size w6 w7) := hb7
    clear hI7 hf7 hb7 hz7
    go_wp2_with fail
    refine HH2.mono ?_
    rintro e w7' ⟨rfl, hw⟩
    rw [hw, E_succ]
    clear hw HH2 c4 e0 hcv
    have HAS := ask_any (HI7.out.rcv 0 (by rw [HL6.out]; omega)) (HI7.out.rok 0 (by rw [HL6.out]; omega)) HI7.out.errs
    go_wp2_with fail
    refine HAS.mono ?_
    rintro e w8 ⟨hb8, hq8⟩
    have he8 : e = .returned (.tuple #[.slice none 0 0, E A 8]) := by
      rcases hq8 with ⟨_, z⟩ | ⟨z, _⟩ | ⟨z, _⟩
      · exact z
      · rw [HSH0.out] at z; cases z
      · rw [HSH0.out] at z; cases z
    subst he8
    obtain ⟨hI8, hf8⟩ := HI7.out.above 1 hb8
    have HTK := taken_any (hI8.rcv 0 (by rw [HL6.out]; omega)) (hI8.rok 0 (by rw [HL6.out]; omega)) hI8.errs
    obtain ⟨vg8, vc8, c48, hvc8, e08, _⟩ := hI8.rcs HL6.out
    have HF8 : Hid (Fr (ownN own6 w6.heap.size 1) w7 (ownN (ownN own6 w6.heap.size 1) w7.heap.size 1) w8) := hf8
    have HI8 : Hid (NI A B0 w1.heap.size (ownN (ownN own6 w6.heap.size 1) w7.heap.size 1) w8 nb st6) := hI8
    clear HAS hq8 hb8 hI8 hf8 c47 e07
    rw [E_succ]
    go_wp2_with fail
    refine HTK.mono ?_
    rintro e w9 (⟨_, rfl, hb9⟩ | ⟨z, _⟩)
    · obtain ⟨hI9, hf9⟩ := HI8.out.above 1 hb9
      have HC2 := close_any (hI9.rcv 0 (by rw [HL6.out]; omega)) (hI9.rok 0 (by rw [HL6.out]; omega)) hI9.errs
      obtain ⟨vg9, vc9, c49, hvc9, e09, _⟩ := hI9.rcs HL6.out
      have HF9 : Hid (Fr (fun _ => 1) w1 _ w9) := ((HF6.out.trans HF7.out).trans HF8.out).trans hf9
      have HY9 : Hid ((⟨ya, yb, yo, yc, yl⟩ : Sl).At _ w9) := ((HY6.out.fr HF7.out).fr HF8.out).fr hf9
      have HI9 : Hid (NI A B0 w1.heap.size _ w9 nb st6) := hI9
      generalize ownN (ownN (ownN own6 w6.heap.size 1) w7.heap.size 1) w8.heap.size 1 = own9 at *
      clear HTK hb9 hI9 hf9 c48 e08
      rw [E_succ]
      go_wp2_with fail
      refine HC2.mono ?_
      rintro e w9' (⟨_, rfl, hw⟩ | ⟨z, _⟩)
      · rw [hw]
        clear hw HC2
        rw [E_succ]
        have HHR := netHear_any (r := 1) HI9.out HG6.out (by rw [HL6.out]; omega) (by rw [HA1.out, HR1.out]; rfl) HY9.out (by rw [HS6.out]; exact HYL.out.2.1) (by rw [HS6.out]; exact HYL.out.2.2.1) (by rw [HS6.out]; exact HYL.out.2.2.2) (by rw [HS6.out]; exact HYL.out.1)
        unfold Sl.val at HHR
        simp only at HHR
        clear c49 e09
        go_wp2_with fail
        refine HHR.mono ?_
        rintro e w10 ⟨rfl, own10, st10, hI10, hg10, hf10, r10, hst10, hv10, hs10⟩
        have hr1l : 1 < st6.rs.length := by rw [HL6.out]; omega
        have hat10 : (rcat st10.rs 1).2 = r10 := by rw [hst10, withR_at hr1l]
        have HDR := drain_any (r := 1) hI10 hg10 (by rw [hst10, withR_len]; exact hr1l) (by rw [hat10]; exact hs10)
        have HS10 : Hid (ShS st10.s (rcat st10.rs 1).2.vw ∧ st10.s.Ok ∧ st10.rs.length = 2) := by
          refine ⟨?_, hI10.sok, by rw [hst10, withR_len]; exact HL6.out⟩
          rw [hat10, hv10, HA1.out, HR1.out]
          have e1 : st10.s = s5 := by rw [hst10]; exact HS6.out
          rw [e1, HS6.out]
          have hsm := HNA.out.same
          rw [hsm.K, hsm.T]
          exact HSH.out.next HI4.out.sok HNA.out
        have HF10 : Hid (Fr (fun _ => 1) w1 own10 w10) := HF9.out.trans hf10
        clear HHR hI10 hg10 hf10 hst10 hv10 hs10 hat10
        go_wp2_with fail
        refine HDR.mono ?_
        rintro e w11 ⟨rfl, own11, st11, hI11, hg11, hf11, ⟨s11, r11, hst11, hd11, _⟩, hid11⟩
        have hr1l' : 1 < st10.rs.length := by rw [HS10.out.2.2]; omega
        have hat11 : (rcat st11.rs 1).2 = r11 := by rw [hst11, withR_at (st := st10.withS s11) hr1l']
        have hs11 : st11.s = s11 := by rw [hst11]; rfl
        obtain ⟨hS11, _⟩ := ShS.drn hd11 HS10.out.1 HS10.out.2.1
        rw [hs11] at hid11
        have htk11 : r11.tk.getD 0 false = true := by
          rcases hS11.here with ⟨z, _⟩ | ⟨_, z⟩
          · have := hid11.1
            have := hS11.len
            omega
          · exact z
        obtain ⟨tg, tc, tb, d7, htc, d8, d9⟩ := hI11.tkRow (r := 1) (n := 2) hg11 (by rw [hst11, withR_len]; exact HS10.out.2.2) (by omega)
        have d10 := d9 0 (by omega)
        rw [hat11, htk11] at d10
        have g7 : w11.cell? ⟨0, 0, none⟩ = some (.iface 269 (.pointer (some (A 7)))) := hI11.errs.cell 7 (by omega)
        have HQ1 : (binOp .eql 45 (.iface 269 (.pointer (some (A 7)))) (.iface 269 (.pointer (some (A 7))))).run Tryz.prog w11 = .ok (.bool true) w11 := hI11.errs.eql 8 8 (by omega) (by omega)
        have HBE : Hid (Below w.heap.size w w11) := HB1.out.trans ((fr_below (HF10.out.trans hf11)).mono HB1.out.size)
        clear HDR hI11 hg11 hf11 hst11 hd11 hid11 hS11 hs11 hat11 htk11 d9
        go_wp2_with fail
        go_ret
        exact ⟨rfl, HBE.out⟩
      · rw [HSH0.out] at z; cases z
    · rw [HSH0.out] at z; cases z
  · exfalso
    have := hid.1
    have h5 := HSH.out.len
    rcases HSH.out.here with ⟨z, _⟩ | ⟨_, z⟩
    · omega
    · have hz : (rcv0 K N S d1 m1).vw.tk.getD 0 false = false := rfl
      rw [hz] at z; cases z

end Go.Proofs.YtjabhnhejbhgjaaGreatDoor
