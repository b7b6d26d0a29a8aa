/- Finished, walked. -/
import Derived.Test.YtjabhnhejbhgjaaGreatDoorMany17
import Derived.Test.YtjabhnhejbhgjaaGreatDoorNetFin
namespace Go.Proofs.YtjabhnhejbhgjaaGreatDoor
open Go.RowKit

theorem NextAt.ok {s s' : Snd} {i q p : Nat} (h : NextAt s i q p s') (ok : s.Ok) : s'.Ok := by
  cases h using NextAt.ways with
  | source h => exact s.step_ok ok h
  | owed _ i q ho _ => exact s.pay_ok ok ho
theorem Drn.di {s s' : Snd} {v v' : Vw} {cnt : Nat → Nat} {m c : Nat} (h : Drn s v s' v') (ok : s.Ok) (hd : DI s v cnt) (hm : m < 16) (h2 : D2 s v m c) : DI s' v' cnt ∧ D2 s' v' m c ∧ s'.Ok := by
  induction h using Drn.ways with
  | refl => exact ⟨hd, h2, ok⟩
  | snoc h hn ih =>
    obtain ⟨i1, i2, i3⟩ := ih
    obtain ⟨j1, j2⟩ := i1.next i3 hn
    exact ⟨j1, j2 m c hm i2, hn.ok i3⟩

/-- In the midst of a receiver's asks. -/
def FinIn (A : Nat → Addr) (B0 : Nat) (w : World) (nb n r rd asks : Nat) (last : Int) (wr : World) : Prop :=
  ∃ cnt : Nat → Nat, sumF cnt 16 = rd ∧ (∀ m, m < 16 → cnt m ≤ 16) ∧ ((last = -1 ∧ asks = 0) ∨ ∃ m : Nat, m < 16 ∧ last = (m : Int) ∧ asks ≤ cnt m) ∧ NetIn A B0 w nb n wr (fun st => DI st.s (rcat st.rs r).2.vw cnt)

theorem FinIn.few {A : Nat → Addr} {B0 nb n r rd asks : Nat} {w wr : World} {last : Int} (h : FinIn A B0 w nb n r rd asks last wr) : rd ≤ 256 ∧ asks ≤ 16 := by
  obtain ⟨cnt, h1, h2, h3, _⟩ := h
  have := sumF_le (f := cnt) 16 h2
  refine ⟨by omega, ?_⟩
  rcases h3 with ⟨_, h4⟩ | ⟨m, hm, _, h4⟩
  · omega
  · have := h2 m hm
    omega

/-- A receiver begins to ask. -/
theorem FinIn.start {A : Nat → Addr} {B0 nb n r : Nat} {w wr : World} (h : NetIn A B0 w nb n wr (fun _ => True)) (hr : r < n) : FinIn A B0 w nb n r 0 0 (-1) wr := by
  obtain ⟨own, st, h1, h2, h3, h4, h5, _⟩ := h
  have hr' : r < st.rs.length := by omega
  refine ⟨fun _ => 0, rfl, fun _ _ => Nat.zero_le _, .inl ⟨rfl, rfl⟩, own, st, h1, h2, h3, h4, h5, di_init h1.sok (h1.rok r hr') ?_⟩
  rw [h2.cfg.1, h2.cfg.2.1, h2.cfg.2.2]
  exact h2.gen r hr'

/-- A round: an ask, and all that is sent then. -/
theorem FinIn.round {A : Nat → Addr} {B0 nb r rd asks m : Nat} {w w' : World} {own' : Nat → Nat} {st st' : Nt} {cnt : Nat → Nat} {last : Int} {l : List Gf.F} (hr : r < st.rs.length) (ho : st.Open) (hf : Fr (fun _ => 1) w own' w') (hN : st.N ≤ 16)
    (hsum : sumF cnt 16 = rd) (hle : ∀ m, m < 16 → cnt m ≤ 16) (hla : (last = -1 ∧ asks = 0) ∨ ∃ m : Nat, m < 16 ∧ last = (m : Int) ∧ asks ≤ cnt m) (hm : m < 16) (hcm : cnt m < st.N) (hDI : DI (hearS st.s l) (rcat st.rs r).2.vw cnt) (hD2 : D2 (hearS st.s l) (rcat st.rs r).2.vw m (cnt m)) (hok : (hearS st.s l).Ok)
    (h2 : NI A B0 w.heap.size own' w' nb st') (g2 : NG st') (hdr : DrnNet (st.withS (hearS st.s l)) r st') (hid : st'.s.idle) :
    FinIn A B0 w nb st.rs.length r (rd + 1) (if last = (m : Int) then asks + 1 else 1) (m : Int) w' := by
  obtain ⟨s', r', hst', hD, hs'⟩ := hdr
  have hat : (rcat st'.rs r).2 = r' := by rw [hst', withR_at (st := (st.withS (hearS st.s l)).withS s') hr]
  have hss : st'.s = s' := by rw [hst']; rfl
  obtain ⟨d1, d2, d3⟩ := hD.di hok hDI hm hD2
  rw [hss] at hid
  refine ⟨fun j => if j = m then cnt m + 1 else cnt j, ?_, fun j hj => ?_, .inr ⟨m, hm, rfl, ?_⟩, own', st', h2, g2, ?_, ?_, hf, ?_⟩
  · have := sumF_one (f := cnt) (g := fun j => if j = m then cnt m + 1 else cnt j) 16 hm (fun i _ hne => if_neg hne)
    simp only [if_pos] at this
    omega
  · show (if j = m then cnt m + 1 else cnt j) ≤ 16
    split
    · omega
    · exact hle j hj
  · show _ ≤ (if m = m then cnt m + 1 else cnt m)
    rw [if_pos rfl]
    rcases hla with ⟨h3, h4⟩ | ⟨m', _, h3, h4⟩
    · split <;> omega
    · split
      · rename_i e
        have : m' = m := by omega
        subst this
        omega
      · omega
  · rw [hst']
    exact open_withR (st := (st.withS (hearS st.s l)).withS s') ho hr hs'
  · rw [hst', withR_len]; rfl
  · show DI st'.s (rcat st'.rs r).2.vw _
    rw [hat, hss]
    exact d1.count d2 hid

/-- What follows an ask. -/
def AskedOf (A : Nat → Addr) (B0 : Nat) (w : World) (nb n r rd asks m : Nat) (last : Int) (st : Nt) (l : List Gf.F) : Prop :=
  asks ≤ 16 ∧ (∀ own' w' st', Fr (fun _ => 1) w own' w' → NI A B0 w.heap.size own' w' nb st' → NG st' → DrnNet (st.withS (hearS st.s l)) r st' → st'.s.idle → FinIn A B0 w nb n r (rd + 1) (if last = (m : Int) then asks + 1 else 1) (m : Int) w') ∧ (if last = (m : Int) then asks + 1 else 1) ≤ st.N

set_option maxRecDepth 100000 in
set_option maxHeartbeats 4000000 in
theorem finished_any {A : Nat → Addr} {B0 L c lb lo : Nat} {a : Option Addr} {k many size rcs : Int} {ms : List Mv} {w : World} (hE : Errs A B0 w) (hT : ErrType w) (hTl : 8 < w.heap.size) (h1 : In64 k) (h2 : In64 many) (h3 : In64 size) (h4 : In64 rcs) (hms : MovesAt (fun _ => 1) w lb lo ms) (hL : ms.length = L) (hL2 : L ≤ 140737488355328) (ha : 0 < L → a = some ⟨lb, lo, none⟩) :
    Calls Tryz.prog 6 #[.int .i64 k, .int .i64 many, .int .i64 size, .int .i64 rcs, .slice a L c] w fun e w' => e = .returned (.bool true) ∧ Below w.heap.size w w' := by
  have HCF := config_any h1 h2 h3 w
  have HE : Hid (Errs A B0 w) := hE
  have HT : Hid (ErrType w) := hT
  have HTL : Hid (8 < w.heap.size) := hTl
  have HR : Hid (In64 rcs) := h4
  have HMS : Hid (MovesAt (fun _ => 1) w lb lo ms) := hms
  have HLE : Hid (ms.length = L) := hL
  have HA : Hid (0 < L → a = some ⟨lb, lo, none⟩) := ha
  clear hE hT hTl h1 h2 h3 h4 hms hL ha
  go_enter Tryz.func6, Tryz.ntmps6
  go_wp2_with fail
  refine HCF.mono ?_
  rintro e w1 ⟨K, N, S, rfl, hc, hb1⟩
  have HBG := begin_any hc HR.out (HE.out.below (hb1.mono HE.out.size)) (HT.out.below hb1 HTL.out) (Nat.lt_of_lt_of_le HTL.out hb1.size)
  have HB1 : Hid _ := hb1
  clear HCF hc hb1
  go_wp2_with fail
  refine HBG.mono ?_
  rintro e w2 ⟨nb, cb, n, rfl, hn, own2, st2, hI2, hg2, hf2, hbn2, hl2, _, _⟩
  have HP : Hid (1 ≤ n) := by show _ ≤ _; have := pickI_range rcs 3 (by omega); omega
  have hn3 : n ≤ 3 := by have := pickI_range rcs 3 (by omega); omega
  have hcv := murm_conv w2
  obtain ⟨hI3, hf3⟩ := hI2.above 1 ((Below.refl w2.heap.size w2).alloc (Nat.le_refl _) (.cells #[.int .u8 109, .int .u8 117, .int .u8 114, .int .u8 109, .int .u8 117, .int .u8 114] 5 (6, 7)))
  have hx := murm_at w2 (ownN own2 w2.heap.size 1) (ownN_new (Nat.le_refl _))
  have HEN := netEnq_any hI3 hg2 hx (by show 6 ≤ 255; omega)
  have HSF : Hid (st2.s.os.length ≤ 16) := hI2.sok.few
  have HOP : Hid st2.Open := begun_open hbn2
  have HL2 : Hid (st2.rs.length = n) := hl2
  have HF3 : Hid (Fr (fun _ => 1) w1 (ownN own2 w2.heap.size 1) (w2.alloc (.cells #[.int .u8 109, .int .u8 117, .int .u8 114, .int .u8 109, .int .u8 117, .int .u8 114] 5 (6, 7)))) := hf2.trans hf3
  clear HBG hI2 hg2 hf2 hbn2 hl2 hI3 hf3 hx hn
  unfold Sl.val murmSl at HEN
  go_wp2_with fail
  refine HEN.mono ?_
  rintro e w4 ⟨rfl, own4, st4, hI4, hg4, hf4, hq4⟩
  have HI : Hid (NetIn A B0 w1 nb n w4 (fun _ => True)) := by
    refine ⟨own4, st4, hI4, hg4, hq4.open HSF.out HOP.out, by rw [hq4.len HSF.out]; exact HL2.out, HF3.out.trans hf4, trivial⟩
  have HM1 : Hid (MovesAt (fun _ => 1) w1 lb lo ms) := HMS.out.fr (fr_of_below HB1.out)
  clear HEN hI4 hg4 hf4 hq4 hcv
  go_wp2_with fail
  go_loopw [12, 13] (fun ok t wr => ∃ i : Nat, i ≤ L ∧ t = .int .i64 (i : Int) ∧ ok = .bool true ∧ Hid (NetIn A B0 w1 nb n wr (fun _ => True))) (fun _ t _ => L - (intOf t).toNat)
  case atStart => exact ⟨0, by omega, rfl, rfl, HI⟩
  case round =>
    obtain ⟨i, hi, rfl, rfl, HJ⟩ := hrel
    by_cases hlt : i < L
    · have hlt1 : (i : Int) < (L : Int) := by omega
      have hlt0 : (0 : Int) ≤ (i : Int) := by omega
      obtain ⟨own5, st5, hI5, hg5, ho5, hl5, hf5, _⟩ := HJ.out
      have hM5 := HM1.out.fr hf5
      obtain ⟨d0, d1, d2, d3⟩ := hM5.cell i (by rw [HLE.out]; exact hlt)
      obtain ⟨r1, r2, r3⟩ := hM5.range i (by rw [HLE.out]; exact hlt)
      have HMV := move_any (s := (mvat ms i).s) hI5 hg5 ho5 (by have := HP.out; omega) r1 r2 r3
      have HF5 : Hid (Fr (fun _ => 1) w1 own5 wr) := hf5
      have HL5 : Hid (st5.rs.length = n) := hl5
      have ha' := HA.out (by omega)
      subst ha'
      clear HJ hI5 hg5 ho5 hl5 hf5 hM5 r1 r2 r3
      go_wp2_with fail
      refine HMV.mono ?_
      rintro e w6 ⟨rfl, own6, st6, hI6, hg6, hf6, ho6, hl6⟩
      have HN6 : Hid (NetIn A B0 w1 nb n w6 (fun _ => True)) := ⟨own6, st6, hI6, hg6, ho6, hl6.trans HL5.out, HF5.out.trans hf6, trivial⟩
      clear HMV hI6 hg6 hf6 ho6 hl6 d0 d1 d2 d3
      go_wp2_with fail
      go_roundw
      case rel => exact ⟨i + 1, by omega, by go_num, rfl, HN6⟩
      case measure => simp [intOf]; omega
    · obtain rfl : i = L := by omega
      have hlt1 : ¬ (i : Int) < (i : Int) := by omega
      obtain ⟨wA, hwA⟩ : ∃ x, x = wr := ⟨wr, rfl⟩
      subst hwA
      go_wp2_with fail
      go_loopw [12, 14, 15, 16, 17, 18, 19, 20] (fun ok t _ _ _ _ _ _ wr => ∃ r : Nat, r ≤ n ∧ t = .int .i64 (r : Int) ∧ ok = .bool true ∧ Hid (NetIn A B0 w1 nb n wr (fun _ => True))) (fun _ t _ _ _ _ _ _ _ => n - (intOf t).toNat)
      case atStart => exact ⟨0, by omega, rfl, rfl, HJ⟩
      case round =>
        obtain ⟨r, hrn, rfl, rfl, HJ⟩ := hrel
        obtain ⟨own5, st5, hI5, hg5, ho5, hl5, hf5, _⟩ := HJ.out
        obtain ⟨_, _, _, _, c4, _, _, _⟩ := hI5.cells
        obtain ⟨va, vc, hva, _⟩ := own_form2 hI5.rown
        rw [hva, hl5] at c4
        by_cases hlt : r < n
        · have hlt2 : (r : Int) < (n : Int) := by omega
          have HST : Hid (FinIn A B0 w1 nb n r 0 0 (-1) wr) := FinIn.start HJ.out hlt
          obtain ⟨wB, hwB⟩ : ∃ x, x = wr := ⟨wr, rfl⟩
          subst hwB
          clear hI5 hg5 ho5 hl5 hf5 hva HJ
          go_wp2_with fail
          clear c4
          go_loopw [12, 15, 16, 17, 18, 19, 20] (fun ok ta tl tr _ _ _ wr => ∃ (rd asks : Nat) (last : Int), ok = .bool true ∧ ta = .int .i64 (asks : Int) ∧ tl = .int .i64 last ∧ tr = .int .i64 (rd : Int) ∧ Hid (FinIn A B0 w1 nb n r rd asks last wr)) (fun _ _ _ tr _ _ _ _ => 300 - (intOf tr).toNat)
          case atStart => exact ⟨0, 0, -1, rfl, rfl, rfl, rfl, HST⟩
          case round =>
            obtain ⟨rd, asks, last, rfl, rfl, rfl, rfl, HK⟩ := hrel
            obtain ⟨hfw1, hfw2⟩ := HK.out.few
            obtain ⟨cnt, hsum, hcle, hla, own6, st6, hI6, hg6, ho6, hl6, hf6, hDI⟩ := HK.out
            have hr6 : r < st6.rs.length := by omega
            obtain ⟨_, _, _, _, c4, _, _, _⟩ := hI6.cells
            obtain ⟨vg, vc, hvr, hvc, hv⟩ := hI6.rcPtr hr6
            rw [hvr] at c4
            have hlt0 : (0 : Int) ≤ (r : Int) := by omega
            have hlt3 : (r : Int) < (st6.rs.length : Int) := by omega
            have hlt4 : ¬ (300 : Int) < (rd : Int) := by omega
            have HAS := netAsk_any hI6 hr6 (ho6 r hr6)
            have HG6 : Hid (NG st6) := hg6
            have HO6 : Hid st6.Open := ho6
            have HL6 : Hid (st6.rs.length = n) := hl6
            have HF6 : Hid (Fr (fun _ => 1) w1 own6 wr) := hf6
            have HRK : Hid ((rcat st6.rs r).2.Ok) := hI6.rok r hr6
            have HGN : Hid (RGen st6.s.os st6.s.K st6.s.N st6.s.S (rcat st6.rs r).2) := by
              show RGen _ _ _ _ _
              rw [hg6.cfg.1, hg6.cfg.2.1, hg6.cfg.2.2]
              exact hg6.gen r hr6
            have HN16 : Hid (st6.N ≤ 16) := by
              show _ ≤ _
              rw [← hg6.cfg.2.1]
              exact hI6.sok.cfg.n16
            have HASK : Hid (∀ l, askFor (rcat st6.rs r).2 l → (hearS st6.s l).Ok → ∃ m, m < 16 ∧ bt l 1 = m ∧ AskedOf A B0 w1 nb n r rd asks m last st6 l) := by
              intro l hask hok
              obtain ⟨m0, kb0, k0, q1, q2, q3, q4⟩ := hask
              obtain ⟨m, hm, hbm, hcm, e1, e2⟩ := DI.ask hI6.sok HRK.out HGN.out hDI ⟨m0, kb0, k0, q1, q3, q4⟩
              rw [hg6.cfg.2.1] at hcm
              refine ⟨m, hm, hbm, hfw2, fun own' w' st' z1 z2 z3 z4 z5 => ?_, ?_⟩
              · rw [← hl6]
                exact FinIn.round hr6 ho6 z1 HN16.out hsum hcle hla hm hcm e1 e2 hok z2 z3 z4 z5
              · rcases hla with ⟨y1, y2⟩ | ⟨m', _, y1, y2⟩
                · split <;> omega
                · split
                  · rename_i e
                    have : m' = m := by omega
                    subst this
                    omega
                  · omega
            clear HK hI6 hg6 ho6 hl6 hf6 hDI hsum hcle hla hvr
            go_wp2_with fail
            refine HAS.mono ?_
            rintro e w7 ⟨⟨xa, xb, xo, xc, xl⟩, own7, rfl, hI7, hf7, hx7, hq7⟩
            unfold Sl.val
            simp only
            rcases hq7 with ⟨hq, hno⟩ | ⟨hq5, hask⟩
            · have hxe : xl = [] := hq
              subst hxe
              have HN7 : Hid (NetIn A B0 w1 nb n w7 (fun _ => True)) := ⟨own7, st6, hI7, HG6.out, HO6.out, HL6.out, HF6.out.trans hf7, trivial⟩
              clear HAS hI7 hf7 hx7 hno c4 hv
              simp only [List.length_nil]
              go_wp2_with fail
              go_roundw
              case rel => exact ⟨r + 1, by omega, by go_num, rfl, HN7⟩
              case measure => simp [intOf]; omega
            · have hq5' : 5 ≤ xl.length := hq5
              have HTE := netTell_any hI7 HG6.out hx7
              have HZ : Hid (hearZ st6.s xl = (0, -1)) := ask_told HRK.out HGN.out hask
              have hxa : xa = some ⟨xb, xo, none⟩ := hx7.at_ (by show 0 < xl.length; omega)
              subst hxa
              have hb1 := hx7.bs 1 (by show 1 < xl.length; omega)
              change w7.cell? ⟨xb, xo + 1, none⟩ = some (.int .u8 (bt xl 1 : Int)) at hb1
              have HASK1 : Hid (askFor (rcat st6.rs r).2 xl) := hask
              obtain ⟨_, c1, _, c3, _, _, _, _⟩ := hI7.cells
              have HI7 : Hid _ := hI7
              have HF7 : Hid (Fr own6 wr own7 w7) := hf7
              have HNB : Hid (bt xl 1 < 256) := bt_lt xl 1
              have hne0 : ¬ ((xl.length : Int) = 0) := by omega
              have hm1 : (1 : Int).tmod (xl.length : Int) = 1 := by rw [Int.tmod_eq_emod_of_nonneg (by omega)]; exact Int.emod_eq_of_lt (by omega) (by omega)
              have hlt5 : (1 : Int) < (xl.length : Int) := by omega
              clear HAS hI7 hf7 hx7 hask c4 hv hq5
              obtain ⟨mm, hmm⟩ : ∃ x, x = bt xl 1 := ⟨_, rfl⟩
              have HBM : Hid (mm = bt xl 1) := hmm
              have hmb : mm < 256 := by rw [hmm]; exact HNB.out
              rw [← hmm] at hb1
              clear hmm
              unfold Sl.val at HTE
              by_cases hl : last = (mm : Int)
              · subst hl
                go_wp2_with fail
                refine HTE.mono ?_
                rintro e w8 ⟨v, own8, rfl, hv8, hI8, hg8, hf8⟩
                change VSays A w8 v (hearZ st6.s xl) at hv8
                rw [HZ.out] at hv8
                obtain rfl := hv8.nil
                obtain ⟨m, hm, hbm, hA1, hA2, hA3⟩ := HASK.out xl HASK1.out hI8.sok
                have hmm : mm = m := by rw [HBM.out, hbm]
                subst hmm
                rw [if_pos rfl] at hA2 hA3
                obtain ⟨_, d1, _, _, _, _, _, _⟩ := hI8.cells
                change w8.cell? ⟨nb, 1, none⟩ = some (.int .i64 (st6.N : Int)) at d1
                have hA3' : ¬ (st6.N : Int) < ((asks + 1 : Nat) : Int) := by omega
                have hA4 : (asks + 1 : Nat) ≤ 17 := by omega
                have HDR := drain_any (r := r) hI8 hg8 (show r < (st6.withS (hearS st6.s xl)).rs.length from hr6) (HO6.out r hr6)
                have HA2 : Hid _ := hA2
                have HF8 : Hid (Fr own7 w7 own8 w8) := hf8
                clear HTE hv8 hI8 hg8 hf8 hA2 hb1 c1 c3
                go_wp2_with fail
                refine HDR.mono ?_
                rintro e w9 ⟨rfl, own9, st9, hI9, hg9, hf9, hdn, hid⟩
                have HF9 : Hid (FinIn A B0 w1 nb n r (rd + 1) (asks + 1) (mm : Int) w9) := HA2.out own9 w9 st9 (((HF6.out.trans HF7.out).trans HF8.out).trans hf9) hI9 hg9 hdn hid
                clear HDR hI9 hg9 hf9 hdn hid HA2 d1
                go_wp2_with fail
                go_roundw
                case rel => exact ⟨rd + 1, asks + 1, (mm : Int), rfl, by go_num, rfl, by go_num, HF9⟩
                case measure => simp [intOf]; omega
              · have HIF : Hid ((if last = (mm : Int) then asks + 1 else 1) = 1) := if_neg hl
                have hl' : ¬ (mm : Int) = last := fun q => hl q.symm
                go_wp2_with fail
                refine HTE.mono ?_
                rintro e w8 ⟨v, own8, rfl, hv8, hI8, hg8, hf8⟩
                change VSays A w8 v (hearZ st6.s xl) at hv8
                rw [HZ.out] at hv8
                obtain rfl := hv8.nil
                obtain ⟨m, hm, hbm, hA1, hA2, hA3⟩ := HASK.out xl HASK1.out hI8.sok
                have hmm : mm = m := by rw [HBM.out, hbm]
                subst hmm
                rw [HIF.out] at hA2 hA3
                obtain ⟨_, d1, _, _, _, _, _, _⟩ := hI8.cells
                change w8.cell? ⟨nb, 1, none⟩ = some (.int .i64 (st6.N : Int)) at d1
                have hA3' : ¬ (st6.N : Int) < ((1 : Nat) : Int) := by omega
                have hA4 : (1 : Nat) ≤ 17 := by omega
                have HDR := drain_any (r := r) hI8 hg8 (show r < (st6.withS (hearS st6.s xl)).rs.length from hr6) (HO6.out r hr6)
                have HA2 : Hid _ := hA2
                have HF8 : Hid (Fr own7 w7 own8 w8) := hf8
                clear HTE hv8 hI8 hg8 hf8 hA2 hb1 c1 c3
                go_wp2_with fail
                refine HDR.mono ?_
                rintro e w9 ⟨rfl, own9, st9, hI9, hg9, hf9, hdn, hid⟩
                have HF9 : Hid (FinIn A B0 w1 nb n r (rd + 1) (1) (mm : Int) w9) := HA2.out own9 w9 st9 (((HF6.out.trans HF7.out).trans HF8.out).trans hf9) hI9 hg9 hdn hid
                clear HDR hI9 hg9 hf9 hdn hid HA2 d1
                go_wp2_with fail
                go_roundw
                case rel => exact ⟨rd + 1, 1, (mm : Int), rfl, by go_num, rfl, by go_num, HF9⟩
                case measure => simp [intOf]; omega
        · obtain rfl : r = n := by omega
          have hlt2 : ¬ (r : Int) < (r : Int) := by omega
          have HBE : Hid (Below w.heap.size w wr) := HB1.out.trans ((fr_below hf5).mono HB1.out.size)
          clear HJ hf5 hI5 hg5 ho5 hl5 hva
          go_wp2_with fail
          go_ret
          exact ⟨rfl, HBE.out⟩

end Go.Proofs.YtjabhnhejbhgjaaGreatDoor
