import Derived.Test.YtjabhnhejbhgjaaGreatDoorMulWalks
import Derived.Test.YtjabhnhejbhgjaaGreatDoorMem
import Derived.Deep.RegionWith
import Derived.Deep.RegionHeld3
import Derived.Deep.DrawnRows
import Derived.Deep.OwnRows
import Derived.BigQuiet
import Derived.Deep.QuietTactic
/- isCount, isPlace, Inverse, weight. -/
namespace Go.Proofs.YtjabhnhejbhgjaaGreatDoor
open Go.RowKit

/-- May there be so many source symbols? May a place be? -/
def cntB (k : Int) : Bool := decide (1 ≤ k ∧ k ≤ 8)
def plcB (k : Int) : Bool := decide (0 ≤ k ∧ k ≤ 255)
theorem cntB_yes {k : Int} (h : 1 ≤ k ∧ k ≤ 8) : cntB k = true := decide_eq_true h
theorem cntB_no {k : Int} (h : ¬ (1 ≤ k ∧ k ≤ 8)) : cntB k = false := decide_eq_false h
theorem plcB_yes {k : Int} (h : 0 ≤ k ∧ k ≤ 255) : plcB k = true := decide_eq_true h
theorem plcB_no {k : Int} (h : ¬ (0 ≤ k ∧ k ≤ 255)) : plcB k = false := decide_eq_false h

theorem ret_bool {a b : Bool} (h : a = b) : Ending.returned (.bool a) = .returned (.bool b) := by rw [h]

set_option maxHeartbeats 400000 in
theorem isCount_any (k : Int) (w : World) :
    Calls Tryz.prog 98 #[.int .i64 k] w fun e w' => e = .returned (.bool (cntB k)) ∧ w' = w := by
  by_cases h1 : 1 ≤ k
  · by_cases h2 : k ≤ 8
    · go_enter Tryz.func98, Tryz.ntmps98
      go_wp2
      go_ret
      exact ⟨ret_bool (cntB_yes (by omega)).symm, rfl⟩
    · go_enter Tryz.func98, Tryz.ntmps98
      go_wp2
      go_ret
      exact ⟨ret_bool (cntB_no (by omega)).symm, rfl⟩
  · go_enter Tryz.func98, Tryz.ntmps98
    go_wp2
    go_ret
    exact ⟨ret_bool (cntB_no (by omega)).symm, rfl⟩

set_option maxHeartbeats 400000 in
theorem isPlace_any (k : Int) (w : World) :
    Calls Tryz.prog 100 #[.int .i64 k] w fun e w' => e = .returned (.bool (plcB k)) ∧ w' = w := by
  by_cases h1 : 0 ≤ k
  · by_cases h2 : k ≤ 255
    · go_enter Tryz.func100, Tryz.ntmps100
      go_wp2
      go_ret
      exact ⟨ret_bool (plcB_yes (by omega)).symm, rfl⟩
    · go_enter Tryz.func100, Tryz.ntmps100
      go_wp2
      go_ret
      exact ⟨ret_bool (plcB_no (by omega)).symm, rfl⟩
  · go_enter Tryz.func100, Tryz.ntmps100
    go_wp2
    go_ret
    exact ⟨ret_bool (plcB_no (by omega)).symm, rfl⟩

set_option maxHeartbeats 400000 in
theorem inverse_any (a : Gf.F) (w : World) :
    Calls Tryz.prog 141 #[.int .u8 (a.toNat : Int)] w fun e w' => e = .returned (.int .u8 ((Gf.inv a).toNat : Int)) ∧ w' = w := by
  go_enter Tryz.func141, Tryz.ntmps141
  go_wp2
  go_loop [3, 4, 6] (fun s t u => ∃ (i p : Gf.F) (k : Nat), k ≤ 7 ∧ s = .int .u8 (i.toNat : Int) ∧ t = .int .u8 (p.toNat : Int) ∧ u = .int .i64 (k : Int) ∧ Gf.invN (7 - k) i p = Gf.inv a) (fun _ _ u => 7 - (intOf u).toNat)
  case atStart => exact ⟨1, a, 0, by omega, rfl, rfl, rfl, rfl⟩
  case round =>
    obtain ⟨i, p, k, hk, rfl, rfl, rfl, hm⟩ := hrel
    have HM : Hid (Gf.invN (7 - k) i p = Gf.inv a) := hm
    clear hm
    by_cases hlt : k < 7
    · go_wp2_with (go_at_call 140; refine (fieldMul_any _ _ _).mono ?_; rintro e w' ⟨rfl, rfl⟩)
      go_round
      case rel => exact ⟨_, _, k + 1, by omega, rfl, rfl, by go_num, by have h := HM.out; rw [show 7 - k = (7 - (k + 1)) + 1 by omega] at h; exact h⟩
      case measure => simp [intOf]; omega
    · obtain rfl : k = 7 := by omega
      go_wp2
      go_ret
      exact ⟨ret_int (by rw [← HM.out]; rfl), rfl⟩

set_option maxRecDepth 100000 in
set_option maxHeartbeats 1000000 in
theorem weight_any (b o c : Nat) (l : List Gf.F) (i : Nat) (p : Gf.F) (w : World) (hl : l.length ≤ 1000) (hi : i < l.length) (hB : Bs w b o l) :
    Calls Tryz.prog 126 #[.slice (some ⟨b, o, none⟩) l.length c, .int .i64 (i : Int), .int .u8 (p.toNat : Int)] w fun e w' => e = .returned (.int .u8 ((Gf.wt (at_ l) l.length i p).toNat : Int)) ∧ w' = w := by
  have hci : w.cell? ⟨b, o + i, none⟩ = some (.int .u8 ((at_ l i).toNat : Int)) := hB i hi
  go_enter Tryz.func126, Tryz.ntmps126
  go_wp2_with fail
  go_loop [7, 8, 13] (fun s t u => ∃ k : Nat, k ≤ l.length ∧ s = .int .u8 ((Gf.prod (at_ l) i p k).toNat : Int) ∧ t = .int .u8 ((Gf.prod (at_ l) i (at_ l i) k).toNat : Int) ∧ u = .int .i64 (k : Int)) (fun _ _ u => l.length - (intOf u).toNat)
  case atStart => exact ⟨0, by omega, rfl, rfl, rfl⟩
  case round =>
    obtain ⟨k, hk, rfl, rfl, rfl⟩ := hrel
    by_cases hlt : k < l.length
    · have hck : w.cell? ⟨b, o + k, none⟩ = some (.int .u8 ((at_ l k).toNat : Int)) := hB k hlt
      by_cases e : k = i
      · have hp : ∀ q, Gf.prod (at_ l) i q (k + 1) = Gf.prod (at_ l) i q k := fun q => by simp only [Gf.prod]; rw [if_pos e]
        have HP : Hid (∀ q, Gf.prod (at_ l) i q (k + 1) = Gf.prod (at_ l) i q k) := hp
        clear hp
        have hne : ((k : Int) != (i : Int)) = false := by rw [e]; simp
        clear e
        go_wp2_with fail
        go_round
        case rel => exact ⟨k + 1, by omega, by rw [HP.out], by rw [HP.out], by go_num⟩
        case measure => simp [intOf]; omega
      · have hp : ∀ q, Gf.prod (at_ l) i q (k + 1) = Gf.mul (Gf.prod (at_ l) i q k) (Gf.add q (at_ l k)) := fun q => by simp only [Gf.prod]; rw [if_neg e]; rfl
        have HP : Hid (∀ q, Gf.prod (at_ l) i q (k + 1) = Gf.mul (Gf.prod (at_ l) i q k) (Gf.add q (at_ l k))) := hp
        clear hp
        have hne : ((k : Int) != (i : Int)) = true := by rw [bne_iff_ne]; omega
        have hx1 := Gf.addF p (at_ l k)
        have hx2 := Gf.addF (at_ l i) (at_ l k)
        clear e
        go_wp2_with (go_at_call 140; refine (fieldMul_any _ _ _).mono ?_; rintro e w' ⟨rfl, rfl⟩)
        go_round
        case rel => exact ⟨k + 1, by omega, by rw [HP.out], by rw [HP.out], by go_num⟩
        case measure => simp [intOf]; omega
    · obtain rfl : k = l.length := by omega
      go_wp2_with (first | (go_at_call 140; refine (fieldMul_any _ _ _).mono ?_; rintro e w' ⟨rfl, rfl⟩) | (go_at_call 141; refine (inverse_any _ _).mono ?_; rintro e w' ⟨rfl, rfl⟩))
      go_ret
      exact ⟨rfl, rfl⟩

end Go.Proofs.YtjabhnhejbhgjaaGreatDoor

/- addTimes, block.Symbol. -/
namespace Go.Proofs.YtjabhnhejbhgjaaGreatDoor
open Go.RowKit

/-- The sum of s and f times l, in the first k places. -/
def addUp (s l : List Gf.F) (f : Gf.F) : Nat → List Gf.F
  | 0 => s
  | k + 1 => (addUp s l f k).set k (Gf.add (at_ (addUp s l f k) k) (Gf.mul f (at_ l k)))

theorem addUp_length (s l : List Gf.F) (f : Gf.F) (k : Nat) : (addUp s l f k).length = s.length := by
  induction k with
  | zero => rfl
  | succ k ih => simp [addUp, ih]

theorem addUp_at (s l : List Gf.F) (f : Gf.F) (k : Nat) (hk : k ≤ s.length) : ∀ i, at_ (addUp s l f k) i = if i < k then Gf.add (at_ s i) (Gf.mul f (at_ l i)) else at_ s i := by
  induction k with
  | zero => intro i; simp [addUp]
  | succ k ih =>
    intro i
    have ih' := ih (by omega)
    simp only [addUp]
    rw [at_]
    by_cases e : i = k
    · subst e
      rw [List.getD_eq_getElem?_getD, List.getElem?_set_self (by rw [addUp_length]; omega), if_pos (by omega)]
      simp only [Option.getD_some]
      rw [ih' i, if_neg (by omega)]
    · rw [List.getD_eq_getElem?_getD, List.getElem?_set_ne (Ne.symm e), ← List.getD_eq_getElem?_getD]
      rw [show (addUp s l f k).getD i 0 = at_ (addUp s l f k) i from rfl, ih' i]
      by_cases h : i < k
      · rw [if_pos h, if_pos (by omega)]
      · rw [if_neg h, if_neg (by omega)]

attribute [local go_sem ↓] Go.wp_at_zero Go.wp_at_succ

set_option maxRecDepth 100000 in
set_option maxHeartbeats 1000000 in
theorem addTimes_any (g b o c cg m : Nat) (s l : List Gf.F) (f : Gf.F) (w : World) (hs : s.length = m) (hll : l.length = m) (hm : m ≤ 281474976710656) (hne : b ≠ g) (hG : Blk w g s) (hB : Bs w b o l) :
    Calls Tryz.prog 125 #[.slice (some ⟨g, 0, none⟩) m cg, .slice (some ⟨b, o, none⟩) m c, .int .u8 (f.toNat : Int)] w fun e w' =>
      e = .returned (.tuple #[]) ∧ Blk w' g (addUp s l f m) ∧ OnlyAt g w w' := by
  have HS : Hid (s.length = m) := hs
  have HL : Hid (l.length = m) := hll
  clear hs hll
  go_enter Tryz.func125, Tryz.ntmps125
  go_wp2_with fail
  go_loopw [10] (fun t wr => ∃ k : Nat, k ≤ m ∧ t = .int .i64 (k : Int) ∧ Blk wr g (addUp s l f k) ∧ OnlyAt g w wr) (fun t _ => m - (intOf t).toNat)
  case atStart => exact ⟨0, by omega, rfl, hG, OnlyAt.refl _ _⟩
  case round =>
    obtain ⟨k, hk, rfl, hGr, hO⟩ := hrel
    by_cases hlt : k < m
    · have hcb : wr.cell? ⟨b, o + k, none⟩ = some (.int .u8 ((at_ l k).toNat : Int)) := by rw [hO.cell (p := ⟨b, o + k, none⟩) hne]; exact hB k (by rw [HL.out]; exact hlt)
      have hcg : wr.cell? ⟨g, k, none⟩ = some (.int .u8 ((at_ (addUp s l f k) k).toNat : Int)) := by have := hGr.bs k (by rw [addUp_length, HS.out]; exact hlt); simpa using this
      have hfg := hGr.frozen k
      have hx := Gf.addF (at_ (addUp s l f k) k) (Gf.mul f (at_ l k))
      have hks : (k : Int) < (m : Int) := by omega
      go_wp2_with fail
      go_region_with (go_at_call 140; refine (fieldMul_any _ _ _).mono ?_; rintro e w' ⟨rfl, rfl⟩)
      all_goals
        go_wp2
        go_roundw
        case rel => exact ⟨k + 1, by omega, by go_num, (hGr.set k _).drew, (hO.setCell k _).drew⟩
        case measure => simp [intOf]; omega
    · obtain rfl : k = m := by omega
      go_wp2
      go_end0
      exact ⟨rfl, hGr, hO⟩

/-- What the first k symbols add up to. -/
def symUp (X : List Gf.F) (rs : List Row) (p : Gf.F) (m : Nat) : Nat → List Gf.F
  | 0 => List.replicate m 0
  | k + 1 => addUp (symUp X rs p m k) (rat rs k).l (Gf.wt (at_ X) X.length k p) m

theorem symUp_length (X : List Gf.F) (rs : List Row) (p : Gf.F) (m k : Nat) : (symUp X rs p m k).length = m := by
  induction k with
  | zero => simp [symUp]
  | succ k ih => simp [symUp, addUp_length, ih]

theorem symUp_at (X : List Gf.F) (rs : List Row) (p : Gf.F) (m i : Nat) (hi : i < m) (k : Nat) : at_ (symUp X rs p m k) i = Gf.sum (fun j => Gf.mul (Gf.wt (at_ X) X.length j p) (at_ (rat rs j).l i)) k := by
  induction k with
  | zero => simp [symUp, at_, Gf.sum, hi]
  | succ k ih =>
    simp only [symUp, Gf.sum]
    rw [addUp_at _ _ _ _ (by rw [symUp_length]; exact Nat.le_refl _), if_pos hi, ih]
    rfl

/-- The symbol at p, byte by byte. -/
def symOf (X : List Gf.F) (rs : List Row) (p : Gf.F) (m : Nat) : List Gf.F := symUp X rs p m X.length

theorem symOf_at (X : List Gf.F) (rs : List Row) (p : Gf.F) (m i : Nat) (hi : i < m) : at_ (symOf X rs p m) i = Gf.lag (at_ X) (fun j => at_ (rat rs j).l i) X.length p := symUp_at X rs p m i hi _

theorem symOf_length (X : List Gf.F) (rs : List Row) (p : Gf.F) (m : Nat) : (symOf X rs p m).length = m := symUp_length ..

theorem Tryz.info_u8 : (Tryz.prog.info? 5).map (fun i => (i.zero, i.size, i.bytes)) = some (some (.int .u8 0), 1, 1) := by kernel_rfl

set_option maxRecDepth 100000 in
set_option maxHeartbeats 1000000 in
theorem blockSymbol_any (pb po pc sb so sc m : Nat) (X : List Gf.F) (rs : List Row) (p : Gf.F) (w : World) (hX : X.length ≤ 1000) (hn : 0 < rs.length) (hXr : X.length = rs.length) (hm : m ≤ 281474976710656)
    (hP : Bs w pb po X) (hR : Rs w sb so rs) (hlen : ∀ i, i < rs.length → (rat rs i).l.length = m) (hlow : ∀ i, i < rs.length → (rat rs i).b < w.heap.size) :
    Calls Tryz.prog 101 #[.slice (some ⟨pb, po, none⟩) X.length pc, .slice (some ⟨sb, so, none⟩) rs.length sc, .int .u8 (p.toNat : Int)] w fun e w' =>
      e = .returned (.slice (some ⟨w.heap.size, 0, none⟩) m m) ∧ Blk w' w.heap.size (symOf X rs p m) ∧ Below w.heap.size w w' ∧ w'.heap.size = w.heap.size + 1 := by
  have hmk := fun W => run_make_row' (P := Tryz.prog) 33 5 (.int .u8 0) 1 Tryz.underlying33 Tryz.info_u8 rfl .i64 .i64 m (by omega) (by omega) W
  have hr0 : w.cell? ⟨sb, so, none⟩ = some (.slice (some ⟨(rat rs 0).b, (rat rs 0).o, none⟩) m (rat rs 0).c) := by have := (hR 0 hn).1; rw [Row.val, hlen 0 hn] at this; exact this
  have HX : Hid (X.length = rs.length) := hXr
  clear hXr
  have hrl : rs.length ≤ 1000 := by have := HX.out; omega
  have hpl := hP.lt (by have := HX.out; omega)
  have hsl := hR.lt hn
  go_enter Tryz.func101, Tryz.ntmps101
  go_wp2_with fail
  generalize hW : w.alloc (Obj.cells _ _) = W
  have hb0 : Below w.heap.size w W := by rw [← hW]; exact (Below.refl _ _).alloc (Nat.le_refl _) _
  have hz0 : W.heap.size = w.heap.size + 1 := by rw [← hW]; simp
  have hG0 : Blk W w.heap.size (symUp X rs p m 0) := by rw [← hW]; exact Blk.made m
  clear hW
  have HZ : Hid (W.heap.size = w.heap.size + 1) := hz0
  clear hz0 hmk
  go_loopw [17] (fun t wr => ∃ k : Nat, k ≤ rs.length ∧ t = .int .i64 (k : Int) ∧ Blk wr w.heap.size (symUp X rs p m k) ∧ Below w.heap.size w wr ∧ Hid (wr.heap.size = w.heap.size + 1)) (fun t _ => rs.length - (intOf t).toNat)
  case atStart => exact ⟨0, by omega, rfl, hG0, hb0, HZ⟩
  case round =>
    obtain ⟨k, hk, rfl, hGr, hbr, hzr⟩ := hrel
    by_cases hlt : k < rs.length
    · have hck : wr.cell? ⟨sb, so + k, none⟩ = some (.slice (some ⟨(rat rs k).b, (rat rs k).o, none⟩) m (rat rs k).c) := by
        rw [hbr.cell (p := ⟨sb, so + k, none⟩) hsl]
        have := (hR k hlt).1; rw [Row.val, hlen k hlt] at this; exact this
      have hPr := hP.below hbr hpl
      have hBr := (hR k hlt).2.below hbr (hlow k hlt)
      have hlk := hlow k hlt
      have hnk : (rat rs k).b ≠ w.heap.size := Nat.ne_of_lt hlk
      have hlenk := hlen k hlt
      have HLK : Hid ((rat rs k).l.length = m) := hlenk
      clear hlenk
      go_wp2_with fail
      refine (weight_any pb po pc X k p _ hX (by rw [HX.out]; exact hlt) hPr).mono ?_
      rintro e w2 ⟨rfl, rfl⟩
      go_wp2_with fail
      refine (addTimes_any w.heap.size (rat rs k).b (rat rs k).o (rat rs k).c m m (symUp X rs p m k) (rat rs k).l (Gf.wt (at_ X) X.length k p) _ (symUp_length ..) HLK.out hm hnk hGr hBr).mono ?_
      rintro e w3 ⟨rfl, hG3, hO3⟩
      go_wp2_with fail
      go_roundw
      case rel => exact ⟨k + 1, by omega, by go_num, hG3, hbr.trans hO3.below, hO3.size.trans hzr.out⟩
      case measure => simp [intOf]; omega
    · obtain rfl : k = rs.length := by omega
      go_wp2_with fail
      go_ret
      exact ⟨rfl, by unfold symOf; rw [HX.out]; exact hGr, hbr, hzr.out⟩

end Go.Proofs.YtjabhnhejbhgjaaGreatDoor

/- ofOneLength, sourcePlaces, toBytes, Index, Contains, arePlaces. -/
namespace Go.Proofs.YtjabhnhejbhgjaaGreatDoor
open Go.RowKit

/-- Are all rows as long as the first? -/
def evenB (rs : List Row) : Bool := rs.all fun r => r.l.length == (rat rs 0).l.length

theorem evenB_yes {rs : List Row} (h : ∀ i, i < rs.length → (rat rs i).l.length = (rat rs 0).l.length) : evenB rs = true := by
  unfold evenB
  rw [List.all_eq_true]
  intro r hr
  obtain ⟨i, hi, rfl⟩ := List.mem_iff_getElem.1 hr
  have := h i hi
  rw [show rat rs i = rs[i] by simp [rat, List.getD, hi]] at this
  rw [this]; simp

theorem evenB_no {rs : List Row} {i : Nat} (hi : i < rs.length) (h : (rat rs i).l.length ≠ (rat rs 0).l.length) : evenB rs = false := by
  unfold evenB
  rw [List.all_eq_false]
  refine ⟨rs[i], List.getElem_mem hi, ?_⟩
  rw [show rat rs i = rs[i] by simp [rat, List.getD, hi]] at h
  simpa using h

theorem evenB_len {rs : List Row} (h : evenB rs = true) (i : Nat) (hi : i < rs.length) : (rat rs i).l.length = (rat rs 0).l.length := by
  unfold evenB at h
  rw [List.all_eq_true] at h
  have := h rs[i] (List.getElem_mem hi)
  rw [show rat rs i = rs[i] by simp [rat, List.getD, hi]]
  simpa using this

/-- The row's value, field by field: its length behind a letter. -/
theorem Rs.cellAt {w : World} {b o : Nat} {rs : List Row} (h : Rs w b o rs) (i : Nat) (hi : i < rs.length) : w.cell? ⟨b, o + i, none⟩ = some (.slice (some ⟨(rat rs i).b, (rat rs i).o, none⟩) (rat rs i).l.length (rat rs i).c) := (h i hi).1

set_option maxRecDepth 100000 in
set_option maxHeartbeats 1000000 in
theorem ofOneLength_any (b o c : Nat) (rs : List Row) (w : World) (hn : rs.length ≤ 140737488355328) (hR : Rs w b o rs) :
    Calls Tryz.prog 99 #[.slice (some ⟨b, o, none⟩) rs.length c] w fun e w' => e = .returned (.bool (evenB rs)) ∧ w' = w := by
  go_enter Tryz.func99, Tryz.ntmps99
  go_wp2_with fail
  go_loop [7] (fun t => ∃ k : Nat, k ≤ rs.length ∧ t = .int .i64 (k : Int) ∧ ∀ i, i < k → (rat rs i).l.length = (rat rs 0).l.length) (fun t => rs.length - (intOf t).toNat)
  case atStart => exact ⟨0, by omega, rfl, fun i hi => by omega⟩
  case round =>
    obtain ⟨k, hk, rfl, hall⟩ := hrel
    have HA : Hid (∀ i, i < k → (rat rs i).l.length = (rat rs 0).l.length) := hall
    clear hall
    by_cases hlt : k < rs.length
    · have hck := hR.cellAt k hlt
      have hc0 : w.cell? ⟨b, o, none⟩ = some (.slice (some ⟨(rat rs 0).b, (rat rs 0).o, none⟩) (rat rs 0).l.length (rat rs 0).c) := hR.cellAt 0 (by omega)
      by_cases e : (rat rs k).l.length = (rat rs 0).l.length
      · have HE : Hid ((rat rs k).l.length = (rat rs 0).l.length) := e
        have hne : (((rat rs k).l.length : Int) != ((rat rs 0).l.length : Int)) = false := by rw [e]; simp
        clear e
        go_wp2_with fail
        go_round
        case rel => exact ⟨k + 1, by omega, by go_num, fun i hi => by by_cases h : i = k; (rw [h]; exact HE.out); exact HA.out i (by omega)⟩
        case measure => simp [intOf]; omega
      · have HE : Hid ((rat rs k).l.length ≠ (rat rs 0).l.length) := e
        have hne : (((rat rs k).l.length : Int) != ((rat rs 0).l.length : Int)) = true := by rw [bne_iff_ne]; omega
        clear e
        go_wp2_with fail
        go_ret
        exact ⟨ret_bool (evenB_no hlt HE.out).symm, rfl⟩
    · obtain rfl : k = rs.length := by omega
      go_wp2_with fail
      go_ret
      exact ⟨ret_bool (evenB_yes HA.out).symm, rfl⟩

/-- The places 0, 1, .. -/
def frontUp (n : Nat) : Nat → List Gf.F
  | 0 => List.replicate n 0
  | k + 1 => (frontUp n k).set k (BitVec.ofNat 8 k)

theorem frontUp_length (n k : Nat) : (frontUp n k).length = n := by
  induction k with
  | zero => simp [frontUp]
  | succ k ih => simp [frontUp, ih]

theorem frontUp_at (n k i : Nat) (hk : k ≤ n) (hi : i < k) : at_ (frontUp n k) i = BitVec.ofNat 8 i := by
  induction k with
  | zero => omega
  | succ k ih =>
    simp only [frontUp, at_]
    by_cases e : i = k
    · subst e; rw [List.getD_eq_getElem?_getD, List.getElem?_set_self (by rw [frontUp_length]; omega)]; rfl
    · rw [List.getD_eq_getElem?_getD, List.getElem?_set_ne (Ne.symm e), ← List.getD_eq_getElem?_getD]; exact ih (by omega) (by omega)

def front (n : Nat) : List Gf.F := frontUp n n
theorem front_length (n : Nat) : (front n).length = n := frontUp_length n n
theorem front_at (n i : Nat) (hi : i < n) : at_ (front n) i = BitVec.ofNat 8 i := frontUp_at n n i (Nat.le_refl _) hi

set_option maxRecDepth 100000 in
set_option maxHeartbeats 1000000 in
theorem sourcePlaces_any (n : Nat) (w : World) (hn : n ≤ 8) :
    Calls Tryz.prog 102 #[.int .i64 (n : Int)] w fun e w' =>
      e = .returned (.slice (some ⟨w.heap.size, 0, none⟩) n n) ∧ Blk w' w.heap.size (front n) ∧ Below w.heap.size w w' ∧ w'.heap.size = w.heap.size + 1 := by
  have hmk := fun W => run_make_row' (P := Tryz.prog) 33 5 (.int .u8 0) 1 Tryz.underlying33 Tryz.info_u8 rfl .i64 .i64 n (by omega) (by omega) W
  go_enter Tryz.func102, Tryz.ntmps102
  go_wp2_with fail
  generalize hW : w.alloc (Obj.cells _ _) = W
  have hb0 : Below w.heap.size w W := by rw [← hW]; exact (Below.refl _ _).alloc (Nat.le_refl _) _
  have hz0 : Hid (W.heap.size = w.heap.size + 1) := by rw [← hW]; show _ = _; simp
  have hG0 : Blk W w.heap.size (frontUp n 0) := by rw [← hW]; exact Blk.made n
  clear hW hmk
  go_loopw [9] (fun t wr => ∃ k : Nat, k ≤ n ∧ t = .int .i64 (k : Int) ∧ Blk wr w.heap.size (frontUp n k) ∧ Below w.heap.size w wr ∧ Hid (wr.heap.size = w.heap.size + 1)) (fun t _ => n - (intOf t).toNat)
  case atStart => exact ⟨0, by omega, rfl, hG0, hb0, hz0⟩
  case round =>
    obtain ⟨k, hk, rfl, hGr, hbr, hzr⟩ := hrel
    by_cases hlt : k < n
    · have hcg : wr.cell? ⟨w.heap.size, k, none⟩ = some (.int .u8 ((at_ (frontUp n k) k).toNat : Int)) := by have := hGr.bs k (by rw [frontUp_length]; exact hlt); simpa using this
      have hfg := hGr.frozen k
      go_wp2_with fail
      go_roundw
      case rel => exact ⟨k + 1, by omega, by go_num, hGr.setNat k k (by omega), hbr.setCell (p := ⟨w.heap.size, k, none⟩) (Nat.le_refl _) _, by show _ = _; rw [← hzr.out]; simp⟩
      case measure => simp [intOf]; omega
    · obtain rfl : k = n := by omega
      go_wp2_with fail
      go_ret
      exact ⟨rfl, hGr, hbr, hzr.out⟩

/-- Ints as bytes. -/
def byteOf (z : Int) : Gf.F := BitVec.ofNat 8 z.toNat
def bytesUp (l : List Int) : Nat → List Gf.F
  | 0 => List.replicate l.length 0
  | k + 1 => (bytesUp l k).set k (byteOf (zat l k))

theorem bytesUp_length (l : List Int) (k : Nat) : (bytesUp l k).length = l.length := by
  induction k with
  | zero => simp [bytesUp]
  | succ k ih => simp [bytesUp, ih]

theorem bytesUp_at (l : List Int) (k i : Nat) (hk : k ≤ l.length) (hi : i < k) : at_ (bytesUp l k) i = byteOf (zat l i) := by
  induction k with
  | zero => omega
  | succ k ih =>
    simp only [bytesUp, at_]
    by_cases e : i = k
    · subst e; rw [List.getD_eq_getElem?_getD, List.getElem?_set_self (by rw [bytesUp_length]; omega)]; rfl
    · rw [List.getD_eq_getElem?_getD, List.getElem?_set_ne (Ne.symm e), ← List.getD_eq_getElem?_getD]; exact ih (by omega) (by omega)

def bytesOf (l : List Int) : List Gf.F := bytesUp l l.length
theorem bytesOf_length (l : List Int) : (bytesOf l).length = l.length := bytesUp_length ..
theorem bytesOf_at (l : List Int) (i : Nat) (hi : i < l.length) : at_ (bytesOf l) i = byteOf (zat l i) := bytesUp_at l _ i (Nat.le_refl _) hi

theorem Blk.setInt {w : World} {g : Nat} {l : List Gf.F} (h : Blk w g l) (i : Nat) (z : Int) (h0 : 0 ≤ z) (h1 : z ≤ 255) : Blk (w.setCell ⟨g, i, none⟩ (.int .u8 z)) g (l.set i (byteOf z)) := by
  obtain ⟨k, rfl⟩ := Int.eq_ofNat_of_zero_le h0
  exact h.setNat i k (by omega)

/-- Is v among the first n? -/
def hasB (l : List Int) (n : Nat) (v : Int) : Bool := (List.range n).any fun i => zat l i == v

theorem hasB_iff (l : List Int) (n : Nat) (v : Int) : hasB l n v = true ↔ ∃ i, i < n ∧ zat l i = v := by
  simp [hasB, List.any_eq_true]

theorem hasB_of {l : List Int} {n : Nat} {v r : Int} (h : 0 ≤ r ↔ ∃ i, i < n ∧ zat l i = v) : decide (0 ≤ r) = hasB l n v := by
  rw [Bool.eq_iff_iff, hasB_iff, ← h]; simp

end Go.Proofs.YtjabhnhejbhgjaaGreatDoor

/- arePlaces; murmur.Symbol, murmur.Restore. -/
namespace Go.Proofs.YtjabhnhejbhgjaaGreatDoor
open Go.RowKit

/-- Are these places, all of them others? -/
def placesB (l : List Int) (n : Nat) : Bool := (List.range n).all fun i => plcB (zat l i) && !hasB l i (zat l i)

theorem placesB_iff (l : List Int) (n : Nat) : placesB l n = true ↔ ∀ i, i < n → plcB (zat l i) = true ∧ hasB l i (zat l i) = false := by
  simp [placesB, List.all_eq_true]

theorem placesB_no {l : List Int} {n i : Nat} (hi : i < n) (h : plcB (zat l i) = false ∨ hasB l i (zat l i) = true) : placesB l n = false := by
  rw [← Bool.not_eq_true, placesB_iff]
  intro hh
  have := hh i hi
  rcases h with h | h
  · rw [h] at this; exact absurd this.1 (by decide)
  · rw [h] at this; exact absurd this.2 (by decide)

theorem plcB_range {z : Int} (h : plcB z = true) : 0 ≤ z ∧ z ≤ 255 := of_decide_eq_true h
theorem cntB_range {z : Int} (h : cntB z = true) : 1 ≤ z ∧ z ≤ 8 := of_decide_eq_true h

theorem placesB_range {l : List Int} {n : Nat} (h : placesB l n = true) (i : Nat) (hi : i < n) : 0 ≤ zat l i ∧ zat l i ≤ 255 := plcB_range ((placesB_iff l n).1 h i hi).1

theorem placesB_apart {l : List Int} {n : Nat} (h : placesB l n = true) (i j : Nat) (hi : i < n) (hj : j < n) (e : zat l i = zat l j) : i = j := by
  rcases Nat.lt_trichotomy i j with q | q | q
  · have := ((placesB_iff l n).1 h j hj).2
    have h2 : hasB l j (zat l j) = true := (hasB_iff l j _).2 ⟨i, q, e⟩
    rw [h2] at this; exact absurd this (by decide)
  · exact q
  · have := ((placesB_iff l n).1 h i hi).2
    have h2 : hasB l i (zat l i) = true := (hasB_iff l i _).2 ⟨j, q, e.symm⟩
    rw [h2] at this; exact absurd this (by decide)

theorem byteOf_toNat {z : Int} (h : 0 ≤ z ∧ z ≤ 255) : z = ((byteOf z).toNat : Int) := by
  unfold byteOf
  rw [BitVec.toNat_ofNat, Nat.mod_eq_of_lt (by omega)]
  omega

theorem blockSymbol_z (pb po pc sb so sc m n : Nat) (X : List Gf.F) (rs : List Row) (z : Int) (p : Gf.F) (w : World) (hz : z = (p.toNat : Int)) (hXn : X.length = n) (hrn : rs.length = n) (hn : 0 < n) (hn8 : n ≤ 8) (hm : m ≤ 281474976710656)
    (hP : Bs w pb po X) (hR : Rs w sb so rs) (hlen : ∀ i, i < rs.length → (rat rs i).l.length = m) (hlow : ∀ i, i < rs.length → (rat rs i).b < w.heap.size) :
    Calls Tryz.prog 101 #[.slice (some ⟨pb, po, none⟩) n pc, .slice (some ⟨sb, so, none⟩) n sc, .int .u8 z] w fun e w' =>
      e = .returned (.slice (some ⟨w.heap.size, 0, none⟩) m m) ∧ Blk w' w.heap.size (symOf X rs p m) ∧ Below w.heap.size w w' ∧ w'.heap.size = w.heap.size + 1 := by
  subst hz
  have := blockSymbol_any pb po pc sb so sc m X rs p w (by omega) (by omega) (by omega) hm hP hR hlen hlow
  rw [hXn, hrn] at this
  exact this

set_option maxRecDepth 100000 in
set_option maxHeartbeats 1000000 in
/-- Symbol, where all may be. -/
theorem symbol_ok (sb so sc m n : Nat) (rs : List Row) (z : Int) (w : World) (hrn : rs.length = n) (hc : cntB (n : Int) = true) (he : evenB rs = true) (hp : plcB z = true) (hm0 : (rat rs 0).l.length = m) (hm : m ≤ 281474976710656)
    (hR : Rs w sb so rs) (hlow : ∀ i, i < rs.length → (rat rs i).b < w.heap.size) :
    Calls Tryz.prog 59 #[.slice (some ⟨sb, so, none⟩) n sc, .int .i64 z] w fun e w' =>
      e = .returned (.tuple #[.slice (some ⟨w.heap.size + 1, 0, none⟩) m m, .nilIface]) ∧ Blk w' (w.heap.size + 1) (symOf (front n) rs (byteOf z) m) ∧ Below w.heap.size w w' ∧ w'.heap.size = w.heap.size + 2 := by
  have hcr := cntB_range hc
  have hpr := plcB_range hp
  have HR : Hid (rs.length = n) := hrn
  clear hrn
  have HM : Hid (∀ i, i < rs.length → (rat rs i).l.length = m) := fun i hi => (evenB_len he i hi).trans hm0
  clear hm0
  have HLOW : Hid (∀ i, i < rs.length → (rat rs i).b < w.heap.size) := hlow
  clear hlow
  have hsl := hR.lt (by have := HR.out; omega)
  obtain ⟨hz0, hz1⟩ := hpr
  obtain ⟨hn1, hn8⟩ := hcr
  go_enter Tryz.func59, Tryz.ntmps59
  go_wp2_with fail
  refine (isCount_any _ _).mono ?_
  rintro e w' ⟨rfl, rfl⟩
  go_wp2_with fail
  have h19 := ofOneLength_any sb so sc rs w' (by have := HR.out; omega) hR
  rw [HR.out] at h19
  refine h19.mono ?_
  clear h19
  rintro e w' ⟨rfl, rfl⟩
  go_wp2_with fail
  refine (isPlace_any _ _).mono ?_
  rintro e w' ⟨rfl, rfl⟩
  go_wp2_with fail
  refine (sourcePlaces_any n _ (by omega)).mono ?_
  rintro e w2 ⟨rfl, hG2, hb2, hz2⟩
  have HZ2 : Hid (w2.heap.size = w'.heap.size + 1) := hz2
  clear hz2
  have hR2 := hR.below hb2 hsl HLOW.out
  go_wp2_with fail
  refine (blockSymbol_z w'.heap.size 0 n sb so sc m n (front n) rs z (byteOf z) _ (byteOf_toNat ⟨hz0, hz1⟩) (front_length n) HR.out (by omega) (by omega) hm hG2.bs hR2 HM.out (fun i hi => by rw [HZ2.out]; exact Nat.lt_succ_of_lt (HLOW.out i hi))).mono ?_
  rintro e w3 ⟨rfl, hG3, hb3, hz3⟩
  have HZ3 : Hid (w3.heap.size = w2.heap.size + 1) := hz3
  clear hz3
  go_wp2_with fail
  go_ret2
  refine ⟨?_, ?_, ?_, ?_⟩
  · show Ending.returned (.tuple #[.slice (some ⟨w2.heap.size, 0, none⟩) m m, .nilIface]) = _
    rw [HZ2.out]
  · rw [HZ2.out] at hG3; exact hG3
  · exact hb2.trans (hb3.mono (by rw [HZ2.out]; exact Nat.le_succ _))
  · rw [HZ3.out, HZ2.out]

set_option maxRecDepth 100000 in
set_option maxHeartbeats 1000000 in
/-- Symbol, where something may not be. -/
theorem symbol_no (sb so sc n : Nat) (rs : List Row) (z : Int) (u : TypeId) (x : Value) (w : World) (hrn : rs.length = n) (hn : n ≤ 140737488355328) (hR : Rs w sb so rs) (hg : w.cell? ⟨5, 0, none⟩ = some (.iface u x))
    (hbad : cntB (n : Int) = false ∨ evenB rs = false ∨ plcB z = false) :
    Calls Tryz.prog 59 #[.slice (some ⟨sb, so, none⟩) n sc, .int .i64 z] w fun e w' =>
      e = .returned (.tuple #[.slice none 0 0, .iface u x]) ∧ ∃ nq, w' = w.drewN nq := by
  have h19 := ofOneLength_any sb so sc rs w (by omega) hR
  rw [hrn] at h19
  have H19 : Hid (Calls Tryz.prog 99 #[.slice (some ⟨sb, so, none⟩) n sc] w fun e w' => e = .returned (.bool (evenB rs)) ∧ w' = w) := h19
  clear h19
  cases hc : cntB (n : Int)
  · clear hbad
    go_enter Tryz.func59, Tryz.ntmps59
    go_wp2_with (go_at_call 98; refine (isCount_any _ _).mono ?_; rintro e w' ⟨rfl, rfl⟩)
    go_quiet (fail)
    go_wp2
    go_ret2
    exact ⟨rfl, _, rfl⟩
  · cases he : evenB rs
    · clear hbad
      go_enter Tryz.func59, Tryz.ntmps59
      go_wp2_with (first | (go_at_call 98; refine (isCount_any _ _).mono ?_; rintro e w' ⟨rfl, rfl⟩) | (go_at_call 99; refine H19.out.mono ?_; rintro e w' ⟨rfl, rfl⟩))
      go_quiet (fail)
      go_wp2
      go_ret2
      exact ⟨rfl, _, rfl⟩
    · have hp : plcB z = false := by
        rcases hbad with h | h | h
        · rw [hc] at h; cases h
        · rw [he] at h; cases h
        · exact h
      clear hbad
      go_enter Tryz.func59, Tryz.ntmps59
      go_wp2_with (first | (go_at_call 98; refine (isCount_any _ _).mono ?_; rintro e w' ⟨rfl, rfl⟩) | (go_at_call 99; refine H19.out.mono ?_; rintro e w' ⟨rfl, rfl⟩) | (go_at_call 100; refine (isPlace_any _ _).mono ?_; rintro e w' ⟨rfl, rfl⟩))
      go_quiet (fail)
      go_wp2
      go_ret2
      exact ⟨rfl, _, rfl⟩

end Go.Proofs.YtjabhnhejbhgjaaGreatDoor

/- block.Source. -/
namespace Go.Proofs.YtjabhnhejbhgjaaGreatDoor
open Go.RowKit

/-- The list of source symbols when k of them stand: each in a block of its own, from 'base' on. -/
def srcCells (base m n k : Nat) : Array Value := ((List.range n).map fun i => if i < k then Value.slice (some ⟨base + i, 0, none⟩) m m else Value.slice none 0 0).toArray

theorem srcCells_zero (base m n : Nat) : madeCells #[.slice none 0 0] n = srcCells base m n 0 := by
  apply Array.ext'
  rw [toList_madeCells_one]
  simp only [srcCells]
  apply List.ext_getElem
  · simp
  · intro i h1 h2; simp

theorem srcCells_succ (base m n k : Nat) : (srcCells base m n k).setIfInBounds k (.slice (some ⟨base + k, 0, none⟩) m m) = srcCells base m n (k + 1) := by
  apply Array.ext'
  simp only [srcCells, List.setIfInBounds_toArray]
  apply List.ext_getElem
  · simp
  · intro i h1 h2
    simp only [List.getElem_set, List.getElem_map, List.getElem_range]
    by_cases e : k = i
    · subst e; simp
    · rw [if_neg e]
      by_cases h : i < k
      · rw [if_pos h, if_pos (by omega)]
      · rw [if_neg h, if_neg (by omega)]

theorem srcCells_at (base m n k i : Nat) (hi : i < n) (hk : i < k) : (srcCells base m n k)[i]? = some (.slice (some ⟨base + i, 0, none⟩) m m) := by
  simp [srcCells, hi, hk]

theorem srcCells_rest (base m n k i : Nat) (hi : i < n) (hk : ¬ i < k) : (srcCells base m n k)[i]? = some (.slice none 0 0) := by
  simp [srcCells, hi, hk]

theorem Tryz.info_bytes : (Tryz.prog.info? 33).map (fun i => (i.zero, i.size, i.bytes)) = some (some (.slice none 0 0), 1, 24) := by kernel_rfl

set_option maxRecDepth 100000 in
set_option maxHeartbeats 2000000 in
theorem source_any (pb po pc sb so sc m n : Nat) (X : List Gf.F) (rs : List Row) (w : World) (hXn : X.length = n) (hrn : rs.length = n) (hn : 0 < n) (hn8 : n ≤ 8) (hm : m ≤ 281474976710656)
    (hP : Bs w pb po X) (hR : Rs w sb so rs) (hlen : ∀ i, i < rs.length → (rat rs i).l.length = m) (hlow : ∀ i, i < rs.length → (rat rs i).b < w.heap.size) :
    Calls Tryz.prog 77 #[.slice (some ⟨pb, po, none⟩) n pc, .slice (some ⟨sb, so, none⟩) n sc] w fun e w' =>
      e = .returned (.slice (some ⟨w.heap.size, 0, none⟩) n n) ∧ w'.heap[w.heap.size]? = some (.cells (srcCells (w.heap.size + 1) m n n) 33 (0, 0)) ∧ (∀ i, i < n → Blk w' (w.heap.size + 1 + i) (symOf X rs (BitVec.ofNat 8 i) m)) ∧
      w'.heap.size = w.heap.size + 1 + n ∧ Below w.heap.size w w' := by
  have hmk := fun W => run_make_row' (P := Tryz.prog) 40 33 (.slice none 0 0) 24 Tryz.underlying40 Tryz.info_bytes rfl .i64 .i64 n (by omega) (by omega) W
  have HR : Hid (rs.length = n) := hrn
  have HX : Hid (X.length = n) := hXn
  have hpl := hP.lt (by omega)
  have hsl := hR.lt (by omega)
  clear hrn hXn
  have HM : Hid (∀ i, i < rs.length → (rat rs i).l.length = m) := hlen
  have HLOW : Hid (∀ i, i < rs.length → (rat rs i).b < w.heap.size) := hlow
  clear hlow hlen
  have hmk2 := hmk w
  go_enter Tryz.func77, Tryz.ntmps77
  go_wp2_with fail
  clear hmk2 hmk
  generalize hW : w.alloc (Obj.cells _ _) = w3
  have hb3 : Below w.heap.size w w3 := by rw [← hW]; exact (Below.refl _ _).alloc (Nat.le_refl _) _
  have HZ3 : Hid (w3.heap.size = w.heap.size + 1) := by rw [← hW]; show _ = _; simp
  have hl3 : w3.heap[w.heap.size]? = some (.cells (srcCells (w.heap.size + 1) m n 0) 33 (0, 0)) := by rw [← hW, ← srcCells_zero]; exact heap_alloc_new _ _
  have HL3 : Hid (w3.heap[w.heap.size]? = some (.cells (srcCells (w.heap.size + 1) m n 0) 33 (0, 0))) := hl3
  clear hW hl3
  go_loopw [12] (fun t wr => ∃ k : Nat, k ≤ n ∧ t = .int .i64 (k : Int) ∧ Hid (wr.heap[w.heap.size]? = some (.cells (srcCells (w.heap.size + 1) m n k) 33 (0, 0))) ∧
      (∀ i, i < k → Blk wr (w.heap.size + 1 + i) (symOf X rs (BitVec.ofNat 8 i) m)) ∧ Below w.heap.size w wr ∧ Hid (wr.heap.size = w.heap.size + 1 + k)) (fun t _ => n - (intOf t).toNat)
  case atStart => exact ⟨0, by omega, rfl, HL3, fun i hi => by omega, hb3, HZ3⟩
  case round =>
    obtain ⟨k, hk, rfl, hlr, hGs, hbr, hzr⟩ := hrel
    clear HL3
    by_cases hlt : k < n
    · have hRr := hR.below hbr hsl HLOW.out
      have hPr := hP.below hbr hpl
      have hsz : w.heap.size + 1 ≤ wr.heap.size := by rw [hzr.out]; omega
      have hk8 : k < 8 := by omega
      go_wp2_with fail
      refine (blockSymbol_z pb po pc sb so sc m n X rs _ (BitVec.ofNat 8 k) _ ?hz HX.out HR.out (by omega) (by omega) hm hPr hRr HM.out (fun i hi => Nat.lt_of_lt_of_le (HLOW.out i hi) (by omega))).mono ?_
      case hz => rw [BitVec.toNat_ofNat]; omega
      rintro e w5 ⟨rfl, hG5, hb5, hz5⟩
      have HZ5 : Hid (w5.heap.size = wr.heap.size + 1) := hz5
      clear hz5
      have hl5 : w5.heap[w.heap.size]? = some (.cells (srcCells (w.heap.size + 1) m n k) 33 (0, 0)) := by rw [hb5.block _ (by omega)]; exact hlr.out
      have hc5 : w5.cell? ⟨w.heap.size, k, none⟩ = some (.slice none 0 0) := by rw [cell_of_row _ _ _ _ _ _ hl5]; exact srcCells_rest _ _ _ _ _ hlt (by omega)
      have hf5 := frozen_of_row w5 w.heap.size k _ _ hl5
      have HL5 : Hid (w5.heap[w.heap.size]? = some (.cells (srcCells (w.heap.size + 1) m n k) 33 (0, 0))) := hl5
      clear hl5
      go_wp2_with fail
      have hO : OnlyAt w.heap.size w5 (w5.setCell ⟨w.heap.size, k, none⟩ (.slice (some ⟨wr.heap.size, 0, none⟩) m m)) := (OnlyAt.refl _ _).setCell k _
      go_roundw
      case rel =>
        refine ⟨k + 1, by omega, by go_num, ?_, ?_, ?_, ?_⟩
        · show _ = _
          rw [heap_setCell_same _ _ _ _ _ _ HL5.out, hzr.out, srcCells_succ]
        · intro i hi
          by_cases e : i = k
          · subst e
            have h5 : Blk w5 (w.heap.size + 1 + i) (symOf X rs (BitVec.ofNat 8 i) m) := by rw [← hzr.out]; exact hG5
            exact h5.onlyAt hO (by omega)
          · exact ((hGs i (by omega)).below hb5 (by rw [hzr.out]; omega)).onlyAt hO (by omega)
        · exact (hbr.trans (hb5.mono (by omega))).trans (hO.below.mono (by omega))
        · show _ = _
          rw [hO.size, HZ5.out, hzr.out]; omega
      case measure => simp [intOf]; omega
    · obtain rfl : k = n := by omega
      go_wp2_with fail
      go_ret
      exact ⟨rfl, hlr.out, hGs, hzr.out, hbr⟩

end Go.Proofs.YtjabhnhejbhgjaaGreatDoor
