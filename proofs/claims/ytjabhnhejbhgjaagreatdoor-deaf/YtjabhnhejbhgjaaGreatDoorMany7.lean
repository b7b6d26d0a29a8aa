import Derived.Test.YtjabhnhejbhgjaaGreatDoorPlanSource
import Derived.Test.YtjabhnhejbhgjaaGreatDoorMany6
import Derived.Deep.RegionHeld3
/- Package wire: headBytes, DataBytes. -/
namespace Go.Proofs.YtjabhnhejbhgjaaGreatDoor
open Go.RowKit

def by8 (x : Nat) : Gf.F := BitVec.ofNat 8 x

set_option maxRecDepth 100000 in
set_option maxHeartbeats 1000000 in
theorem headBytes_any (kd obj len x0 x3 x4 : Nat) (v5 v6 : Value) (w : World) (hk : kd < 256) (ho : obj < 256) (hl : len < 65536) :
    Calls Tryz.prog 63 #[.int .u8 (kd : Int), .agg #[.int .i64 (x0 : Int), .int .i64 (obj : Int), .int .i64 (len : Int), .int .i64 (x3 : Int), .int .i64 (x4 : Int), v5, v6]] w fun e w' =>
      e = .returned (.slice (some ⟨w.heap.size + 1, 0, none⟩) 4 4) ∧ Blk w' (w.heap.size + 1) [by8 kd, by8 obj, by8 (len / 256), by8 len] ∧ Below w.heap.size w w' ∧ w'.heap.size = w.heap.size + 2 := by
  go_enter Tryz.func63, Tryz.ntmps63
  go_wp2
  go_ret
  refine ⟨rfl, ?_, ((Below.refl _ _).alloc (Nat.le_refl _) _).alloc (by simp) _, by simp⟩
  have := heap_alloc_new (w.alloc (.cells #[.int .i64 (x0 : Int), .int .i64 (obj : Int), .int .i64 (len : Int), .int .i64 (x3 : Int), .int .i64 (x4 : Int), v5, v6] 60)) (.cells #[.int .u8 (kd : Int), .int .u8 (obj : Int), .int .u8 ((len : Int) / 256), .int .u8 ((len : Int) % 256)] 5)
  have e2 : (w.alloc (.cells #[.int .i64 (x0 : Int), .int .i64 (obj : Int), .int .i64 (len : Int), .int .i64 (x3 : Int), .int .i64 (x4 : Int), v5, v6] 60)).heap.size = w.heap.size + 1 := by simp
  rw [e2] at this
  unfold Blk
  rw [this]
  have h1 : ((by8 kd).toNat : Int) = (kd : Int) := by unfold by8; rw [BitVec.toNat_ofNat]; omega
  have h2 : ((by8 obj).toNat : Int) = (obj : Int) := by unfold by8; rw [BitVec.toNat_ofNat]; omega
  have h3 : ((by8 (len / 256)).toNat : Int) = (len : Int) / 256 := by unfold by8; rw [BitVec.toNat_ofNat]; omega
  have h4 : ((by8 len).toNat : Int) = (len : Int) % 256 := by unfold by8; rw [BitVec.toNat_ofNat]; omega
  simp [enc, h1, h2, h3, h4]

theorem blk_own {w : World} {g B : Nat} {l : List Gf.F} (h : Blk w g l) (hB : B ≤ g) (hl : l.length ≤ 1000) : w.ownsRow B 5 1 (.slice (some ⟨g, 0, none⟩) l.length l.length) l.length (encL l) :=
  ⟨by simp [encL], .inr ⟨g, l.length, enc l, rfl, hB, h, Nat.le_refl _, by unfold maxLen; omega, by simp [enc], by simp only [enc, encL]; exact List.take_of_length_le (by simp)⟩⟩

theorem headBytes_own (kd obj len x0 x3 x4 : Nat) (v5 v6 : Value) (w : World) (hk : kd < 256) (ho : obj < 256) (hl : len < 65536) :
    Calls Tryz.prog 63 #[.int .u8 (kd : Int), .agg #[.int .i64 (x0 : Int), .int .i64 (obj : Int), .int .i64 (len : Int), .int .i64 (x3 : Int), .int .i64 (x4 : Int), v5, v6]] w fun e w' =>
      ∃ g, e = .returned (.slice (some ⟨g, 0, none⟩) 4 4) ∧ w'.ownsRow w.heap.size 5 1 (.slice (some ⟨g, 0, none⟩) 4 4) 4 (encL [by8 kd, by8 obj, by8 (len / 256), by8 len]) ∧ Below w.heap.size w w' := by
  refine (headBytes_any kd obj len x0 x3 x4 v5 v6 w hk ho hl).mono ?_
  rintro e w' ⟨rfl, hB, hb, _⟩
  exact ⟨w.heap.size + 1, rfl, blk_own (l := [by8 kd, by8 obj, by8 (len / 256), by8 len]) hB (by omega) (by simp), hb⟩

/-- The bytes of a DATA packet. -/
def dataOf (obj len q pl : Nat) (d : List Gf.F) : List Gf.F := [by8 1, by8 obj, by8 (len / 256), by8 len, by8 q, by8 pl] ++ d

theorem by8_int {x : Nat} (h : x < 256) : ((by8 x).toNat : Int) = (x : Int) := by unfold by8; rw [BitVec.toNat_ofNat]; omega

theorem pk7 {W : World} {g : Nat} {v0 v1 v2 v3 v4 v5 v6 : Value} {t : TypeId} (h : W.heap[g]? = some (.cells #[v0, v1, v2, v3, v4, v5, v6] t (0, 0))) : W.cell? ⟨g, 0, none⟩ = some v0 ∧ W.cell? ⟨g, 1, none⟩ = some v1 ∧ W.cell? ⟨g, 2, none⟩ = some v2 ∧ W.cell? ⟨g, 3, none⟩ = some v3 ∧ W.cell? ⟨g, 4, none⟩ = some v4 ∧ W.cell? ⟨g, 5, none⟩ = some v5 ∧ W.cell? ⟨g, 6, none⟩ = some v6 :=
  ⟨cell_of_row W _ 0 _ _ _ h, cell_of_row W _ 1 _ _ _ h, cell_of_row W _ 2 _ _ _ h, cell_of_row W _ 3 _ _ _ h, cell_of_row W _ 4 _ _ _ h, cell_of_row W _ 5 _ _ _ h, cell_of_row W _ 6 _ _ _ h⟩

theorem wrap_by8 (x : Nat) : IntKind.u8.wrap (x : Int) = ((by8 x).toNat : Int) := by
  unfold by8 IntKind.wrap
  rw [BitVec.toNat_ofNat]
  simp [IntKind.signed, IntKind.bits]

theorem two_kept {W w1 : World} {g : Nat} {u v : Value} {t : TypeId} (hb : Below W.heap.size W w1) (h : W.heap[g]? = some (.cells #[u, v] t (0, 0))) : ∀ j x, [u, v][j]? = some x → w1.cell? ((⟨g, 0, none⟩ : Addr).add j) = some x := by
  intro j x hj
  have e : (⟨g, 0, none⟩ : Addr).add j = ⟨g, j, none⟩ := by unfold Addr.add; split <;> simp_all
  have h1 := (hb.block _ (lt_of_block h)).trans h
  rw [e, cell_of_row w1 g j _ _ _ h1]
  match j, hj with
  | 0, h => simpa using h
  | 1, h => simpa using h

set_option maxRecDepth 100000 in
set_option maxHeartbeats 2000000 in
theorem dataBytes_any (obj len q pl db dd nd dc : Nat) (d : List Gf.F) (w : World) (ho : obj < 256) (hl : len < 65536) (hd : d.length = nd) (hd1 : 1 ≤ nd) (hd8 : nd ≤ 1000) (hB : Bs w db dd d) :
    Calls Tryz.prog 117 #[.agg #[.int .i64 0, .int .i64 (obj : Int), .int .i64 (len : Int), .int .i64 (q : Int), .int .i64 (pl : Int), .slice (some ⟨db, dd, none⟩) nd dc, .slice none 0 0]] w fun e w' =>
      ∃ g cap, e = .returned (.slice (some ⟨g, 0, none⟩) (6 + nd) cap) ∧ w'.ownsRow w.heap.size 5 1 (.slice (some ⟨g, 0, none⟩) (6 + nd) cap) (6 + nd) (encL (dataOf obj len q pl d)) ∧ Below w.heap.size w w' := by
  obtain ⟨iU, hiU, hiU0, hiU1, hiU2⟩ := Tryz.u8_parts
  have hX := heap_alloc_new w (.cells #[.int .i64 0, .int .i64 (obj : Int), .int .i64 (len : Int), .int .i64 (q : Int), .int .i64 (pl : Int), .slice (some ⟨db, dd, none⟩) nd dc, .slice none 0 0] 60)
  have hbW := (Below.refl w.heap.size w).alloc (Nat.le_refl _) (.cells #[.int .i64 0, .int .i64 (obj : Int), .int .i64 (len : Int), .int .i64 (q : Int), .int .i64 (pl : Int), .slice (some ⟨db, dd, none⟩) nd dc, .slice none 0 0] 60)
  go_enter Tryz.func117, Tryz.ntmps117
  go_upto_region 1 with fail
  generalize w.alloc (.cells #[.int .i64 0, .int .i64 (obj : Int), .int .i64 (len : Int), .int .i64 (q : Int), .int .i64 (pl : Int), .slice (some ⟨db, dd, none⟩) nd dc, .slice none 0 0] 60) = W at *
  have hXl := lt_of_block hX
  go_cut [3] (fun t wx => ∃ g cap, t = .slice (some ⟨g, 0, none⟩) 6 cap ∧ wx.ownsRow w.heap.size 5 1 (.slice (some ⟨g, 0, none⟩) 6 cap) 6 (encL [by8 1, by8 obj, by8 (len / 256), by8 len, by8 q, by8 pl]) ∧ Below W.heap.size W wx)
  case first =>
    have hS : W.cell? ⟨w.heap.size, 0, none⟩ = some (.int .i64 0) ∧ W.cell? ⟨w.heap.size, 1, none⟩ = some (.int .i64 (obj : Int)) ∧ W.cell? ⟨w.heap.size, 2, none⟩ = some (.int .i64 (len : Int)) ∧ W.cell? ⟨w.heap.size, 3, none⟩ = some (.int .i64 (q : Int)) ∧ W.cell? ⟨w.heap.size, 4, none⟩ = some (.int .i64 (pl : Int)) ∧ W.cell? ⟨w.heap.size, 5, none⟩ = some (.slice (some ⟨db, dd, none⟩) nd dc) ∧ W.cell? ⟨w.heap.size, 6, none⟩ = some (.slice none 0 0) :=
      ⟨cell_of_row W _ 0 _ _ _ hX, cell_of_row W _ 1 _ _ _ hX, cell_of_row W _ 2 _ _ _ hX, cell_of_row W _ 3 _ _ _ hX, cell_of_row W _ 4 _ _ _ hX, cell_of_row W _ 5 _ _ _ hX, cell_of_row W _ 6 _ _ _ hX⟩
    obtain ⟨k0, k1, k2, k3, k4, k5, k6⟩ := hS
    have hXn : ¬ w.heap.size = W.heap.size := Nat.ne_of_lt hXl
    have hX2 : (W.alloc (.cells #[.int .u8 (IntKind.u8.wrap (q : Int)), .int .u8 (IntKind.u8.wrap (pl : Int))] 5)).drew.heap[w.heap.size]? = some (.cells #[.int .i64 0, .int .i64 (obj : Int), .int .i64 (len : Int), .int .i64 (q : Int), .int .i64 (pl : Int), .slice (some ⟨db, dd, none⟩) nd dc, .slice none 0 0] 60 (0, 0)) := (Below.heap_alloc W _ _ hXl).trans hX
    have hXl2 := lt_of_block hX2
    go_region_held3 (fun w' => w'.cell? ⟨w.heap.size, 0, none⟩ = some (.int .i64 0) ∧ w'.cell? ⟨w.heap.size, 1, none⟩ = some (.int .i64 (obj : Int)) ∧ w'.cell? ⟨w.heap.size, 2, none⟩ = some (.int .i64 (len : Int)) ∧ w'.cell? ⟨w.heap.size, 3, none⟩ = some (.int .i64 (q : Int)) ∧ w'.cell? ⟨w.heap.size, 4, none⟩ = some (.int .i64 (pl : Int)) ∧ w'.cell? ⟨w.heap.size, 5, none⟩ = some (.slice (some ⟨db, dd, none⟩) nd dc) ∧ w'.cell? ⟨w.heap.size, 6, none⟩ = some (.slice none 0 0)) (first | go_keep) (first
      | (go_at_call 63; refine (headBytes_own 1 obj len 0 q pl _ _ _ (by omega) ho hl).mono ?_; rintro e w1 ⟨g1, rfl, hown1, hb1⟩; (have hX1 : w1.heap[w.heap.size]? = some (.cells #[.int .i64 0, .int .i64 (obj : Int), .int .i64 (len : Int), .int .i64 (q : Int), .int .i64 (pl : Int), .slice (some ⟨db, dd, none⟩) nd dc, .slice none 0 0] 60 (0, 0)) := by first | exact (hb1.block _ hXl).trans hX | exact (hb1.block _ hXl2).trans hX2); obtain ⟨m0, m1, m2, m3, m4, m5, m6⟩ := pk7 hX1; have hl1 := lt_of_block hX1; have hl2 : ¬ w.heap.size = w1.heap.size := Nat.ne_of_lt hl1; have hgn : ¬ (Value.slice (some ⟨g1, 0, none⟩) 4 4).ownBlock = some w.heap.size := (fun hqq => by have := (hown1.lt _ hqq).1; first | omega | (simp at this; omega)); (first | (have hnews := two_kept hb1 (heap_alloc_new W (.cells #[.int .u8 (IntKind.u8.wrap (q : Int)), .int .u8 (IntKind.u8.wrap (pl : Int))] 5)); have hwA : w.heap.size ≤ (W.alloc (.cells #[.int .u8 (IntKind.u8.wrap (q : Int)), .int .u8 (IntKind.u8.wrap (pl : Int))] 5)).drew.heap.size := Nat.le_of_lt hXl2) | skip))
      | (refine step_append_lies _ (by rfl) _ _ _ (by rfl) w.heap.size 5 iU (.int .u8 0) 1 1 Tryz.underlying33 hiU hiU0 hiU1 hiU2 rfl (by omega) (.slice (some ⟨g1, 0, none⟩) 4 4) 4 (encL [by8 1, by8 obj, by8 (len / 256), by8 len]) (by rfl) ((own_base2 hown1 (Nat.le_of_lt hXl)).alloc _) ⟨w1.heap.size, 0, none⟩ 2 2 [.int .u8 (IntKind.u8.wrap (q : Int)), .int .u8 (IntKind.u8.wrap (pl : Int))] (by rfl) rfl (cell_two_at w1 _ _ _ _ rfl) (by intro u hu; simp at hu; rcases hu with rfl | rfl <;> rfl) (by omega) (by unfold maxLen; omega) (by omega) (by simp; omega) _ rfl ?_; intro g2 cap2 w3 hown3 hgr3 hlie3 hlt3; have hX3 : w3.heap[w.heap.size]? = some (.cells #[.int .i64 0, .int .i64 (obj : Int), .int .i64 (len : Int), .int .i64 (q : Int), .int .i64 (pl : Int), .slice (some ⟨db, dd, none⟩) nd dc, .slice none 0 0] 60 (0, 0)) := (grown_block hgr3 (by simp; omega) hgn).trans ((Below.heap_alloc w1 _ _ hl1).trans hX1); obtain ⟨n0, n1, n2, n3, n4, n5, n6⟩ := pk7 hX3)
      | (refine step_append_lies _ (by rfl) _ _ _ (by rfl) w.heap.size 5 iU (.int .u8 0) 1 1 Tryz.underlying33 hiU hiU0 hiU1 hiU2 rfl (by omega) (.slice (some ⟨g1, 0, none⟩) 4 4) 4 (encL [by8 1, by8 obj, by8 (len / 256), by8 len]) (by rfl) (own_base2 hown1 hwA) ⟨W.heap.size, 0, none⟩ 2 2 [.int .u8 (IntKind.u8.wrap (q : Int)), .int .u8 (IntKind.u8.wrap (pl : Int))] (by rfl) rfl (hnews) (by intro u hu; simp at hu; rcases hu with rfl | rfl <;> rfl) (by omega) (by unfold maxLen; omega) (by omega) (by omega) _ rfl ?_; intro g2 cap2 w3 hown3 hgr3 hlie3 hlt3; have hX3 : w3.heap[w.heap.size]? = some (.cells #[.int .i64 0, .int .i64 (obj : Int), .int .i64 (len : Int), .int .i64 (q : Int), .int .i64 (pl : Int), .slice (some ⟨db, dd, none⟩) nd dc, .slice none 0 0] 60 (0, 0)) := (grown_block hgr3 (hl1) hgn).trans (hX1); obtain ⟨n0, n1, n2, n3, n4, n5, n6⟩ := pk7 hX3))
    all_goals go_wp2_with fail
    all_goals go_meet
    all_goals (have eL : encL [by8 1, by8 obj, by8 (len / 256), by8 len] ++ [Value.int .u8 (IntKind.u8.wrap (q : Int)), Value.int .u8 (IntKind.u8.wrap (pl : Int))] = encL [by8 1, by8 obj, by8 (len / 256), by8 len, by8 q, by8 pl] := by simp [encL, wrap_by8])
    all_goals rw [eL] at hown3
    all_goals first
      | exact ⟨g2, cap2, rfl, hown3, ((Below.undraw hb1).alloc (by have := hb1.size; exact this) _).grown hgr3 (by have := hb1.size; simp; exact Nat.le_succ_of_le this) (fun t ht => (hown1.lt t ht).1)⟩
      | exact ⟨g2, cap2, rfl, hown3, ((((Below.refl _ W).alloc (Nat.le_refl _) _).drew).trans (hb1.mono (by simp))).grown hgr3 (by have := hb1.size; simp at this; omega) (fun t ht => by have := (hown1.lt t ht).1; simp at this; omega)⟩
  case rest =>
    obtain ⟨g, cap, rfl, hown, hbx⟩ := hcut
    have hXc := (hbx.block _ hXl).trans hX
    obtain ⟨k0, k1, k2, k3, k4, k5, k6⟩ := pk7 hXc
    have hBw : Bs wc db dd d := (hB.below hbW (hB.lt (by omega))).below hbx (Nat.lt_of_lt_of_le (hB.lt (by omega)) hbW.size)
    have HC := hBw.cells
    have hsz : w.heap.size ≤ wc.heap.size := Nat.le_trans hbW.size hbx.size
    go_wp2_with (at_builtin; refine wpList_append_lies _ rfl _ _ _ rfl w.heap.size 5 iU (.int .u8 0) 1 1 Tryz.underlying33 hiU hiU0 hiU1 hiU2 rfl (by omega) (.slice (some ⟨g, 0, none⟩) 6 cap) 6 (encL [by8 1, by8 obj, by8 (len / 256), by8 len, by8 q, by8 pl]) rfl hown ⟨db, dd, none⟩ nd dc (encL d) rfl ?c1 ?c2 (encL_one d) (by omega) ?c3 (by omega) hsz wc.heap.size rfl ?_)
    case c1 => simp [encL, hd]
    case c2 => exact HC
    case c3 => unfold maxLen; omega
    intro g6 cap6 w6 hown6 hgr6 hlie6 hlt6
    go_wp2_with fail
    go_ret
    refine ⟨g6, cap6, rfl, ?_, (hbW.trans (hbx.mono hbW.size)).grown hgr6 hsz (fun t ht => (hown.lt t ht).1)⟩
    have e : encL (dataOf obj len q pl d) = encL [by8 1, by8 obj, by8 (len / 256), by8 len, by8 q, by8 pl] ++ encL d := by simp [encL, dataOf]
    rw [e]
    exact hown6

end Go.Proofs.YtjabhnhejbhgjaaGreatDoor

/- A sender of the program in memory. -/
namespace Go.Proofs.YtjabhnhejbhgjaaGreatDoor
open Go.RowKit

/-- Pairs, laid out one behind the other. -/
def flat2 (ps : List (Value × Value)) : List Value := ps.flatMap fun p => [p.1, p.2]

theorem flat2_cons (p : Value × Value) (ps : List (Value × Value)) : flat2 (p :: ps) = p.1 :: p.2 :: flat2 ps := rfl
theorem flat2_append (ps qs : List (Value × Value)) : flat2 (ps ++ qs) = flat2 ps ++ flat2 qs := by simp [flat2]
theorem flat2_length : ∀ ps, (flat2 ps).length = 2 * ps.length
  | [] => rfl
  | p :: ps => by rw [flat2_cons]; simp only [List.length_cons]; rw [flat2_length ps]; omega
theorem flat2_get0 : ∀ (ps : List (Value × Value)) (i : Nat), (flat2 ps)[2 * i]? = (ps[i]?).map (·.1)
  | [], i => by simp [flat2]
  | p :: ps, 0 => by simp [flat2_cons]
  | p :: ps, i + 1 => by rw [flat2_cons, show 2 * (i + 1) = 2 * i + 1 + 1 by omega, List.getElem?_cons_succ, List.getElem?_cons_succ, List.getElem?_cons_succ]; exact flat2_get0 ps i
theorem flat2_get1 : ∀ (ps : List (Value × Value)) (i : Nat), (flat2 ps)[2 * i + 1]? = (ps[i]?).map (·.2)
  | [], i => by simp [flat2]
  | p :: ps, 0 => by simp [flat2_cons]
  | p :: ps, i + 1 => by rw [flat2_cons, show 2 * (i + 1) + 1 = 2 * i + 1 + 1 + 1 by omega, List.getElem?_cons_succ, List.getElem?_cons_succ, List.getElem?_cons_succ]; exact flat2_get1 ps i
theorem flat2_set0 : ∀ (ps : List (Value × Value)) (i : Nat) (v : Value) (p : Value × Value), ps[i]? = some p → (flat2 ps).set (2 * i) v = flat2 (ps.set i (v, p.2))
  | [], i, v, p, h => by simp at h
  | q :: ps, 0, v, p, h => by simp at h; subst h; rfl
  | q :: ps, i + 1, v, p, h => by
    rw [flat2_cons, show 2 * (i + 1) = 2 * i + 1 + 1 by omega, List.set_cons_succ, List.set_cons_succ, List.set_cons_succ, flat2_cons, flat2_set0 ps i v p (by simpa using h)]
theorem flat2_set1 : ∀ (ps : List (Value × Value)) (i : Nat) (v : Value) (p : Value × Value), ps[i]? = some p → (flat2 ps).set (2 * i + 1) v = flat2 (ps.set i (p.1, v))
  | [], i, v, p, h => by simp at h
  | q :: ps, 0, v, p, h => by simp at h; subst h; rfl
  | q :: ps, i + 1, v, p, h => by
    rw [flat2_cons, show 2 * (i + 1) + 1 = 2 * i + 1 + 1 + 1 by omega, List.set_cons_succ, List.set_cons_succ, List.set_cons_succ, flat2_cons, flat2_set1 ps i v p (by simpa using h)]

/-- An object of a sender: its bytes, what its blocks are owed and their turns; where they lie. -/
structure Ob where
  l : List Gf.F
  ds : List (Nat × Nat)
  a : Option Addr
  c : Nat
  dg : Nat

def Ob.bv (o : Ob) : Value := .slice o.a o.l.length o.c
def Ob.dv (o : Ob) : Value := .slice (some ⟨o.dg, 0, none⟩) o.ds.length o.ds.length
def ob0 : Ob := ⟨[], [], none, 0, 0⟩
def oat (os : List Ob) (i : Nat) : Ob := os.getD i ob0
def dat (ds : List (Nat × Nat)) (i : Nat) : Nat × Nat := ds.getD i (0, 0)

def debtVals (ds : List (Nat × Nat)) : List (Value × Value) := ds.map fun d => (.int .i64 (d.1 : Int), .int .i64 (d.2 : Int))
def objVals (os : List Ob) : List (Value × Value) := os.map fun o => (o.bv, o.dv)

/-- A sender: its configuration, its objects, the next source symbol. -/
structure Snd where
  K : Nat
  N : Nat
  S : Nat
  os : List Ob
  vo : Value
  no : Nat
  ns : Nat

/-- How many symbols the i-th object has, how many blocks. -/
def Snd.T (s : Snd) (i : Nat) : Nat := symN s.S (oat s.os i).l.length
def Snd.Q (s : Snd) (i : Nat) : Nat := partsN (s.T i) s.K
/-- How many places of a block go round. -/
def Snd.R (s : Snd) (i q : Nat) : Nat := (s.N - s.K) + srcN s.K (s.T i) q

/-- What may be, but for what is owed and what is next. -/
structure Snd.Ok0 (s : Snd) : Prop where
  cfg : Cfg s.K s.N s.S
  few : s.os.length ≤ 16
  len : ∀ i, i < s.os.length → (oat s.os i).l.length ≤ 255
/-- What may be. -/
structure Snd.Ok (s : Snd) : Prop extends Snd.Ok0 s where
  blocks : ∀ i, i < s.os.length → (oat s.os i).ds.length = s.Q i
  debt : ∀ i q, i < s.os.length → q < s.Q i → (dat (oat s.os i).ds q).1 ≤ 8 ∧ (dat (oat s.os i).ds q).2 < s.R i q
  next : s.no ≤ s.os.length
  sym : s.no < s.os.length → s.ns < s.T s.no
  done : s.no = s.os.length → s.ns = 0

/-- The sender's blocks. -/
def Snd.foot (s : Snd) (sb b : Nat) : Prop := b = sb ∨ s.vo.ownBlock = some b ∨ ∃ i, i < s.os.length ∧ (b = (oat s.os i).dg ∨ (oat s.os i).bv.ownBlock = some b)

structure SAt (w : World) (B sb : Nat) (s : Snd) : Prop where
  low : B ≤ sb
  blk : w.heap[sb]? = some (.cells #[.int .i64 (s.K : Int), .int .i64 (s.N : Int), .int .i64 (s.S : Int), s.vo, .int .i64 (s.no : Int), .int .i64 (s.ns : Int)] 116 (0, 0))
  own : w.ownsRow B 120 2 s.vo s.os.length (flat2 (objVals s.os))
  bytes : ∀ i, i < s.os.length → w.ownsRow B 5 1 (oat s.os i).bv (oat s.os i).l.length (encL (oat s.os i).l)
  debts : ∀ i, i < s.os.length → B ≤ (oat s.os i).dg ∧ w.heap[(oat s.os i).dg]? = some (.cells (flat2 (debtVals (oat s.os i).ds)).toArray 125 (0, 0))
  apart : ∀ i j, i < s.os.length → j < s.os.length → (oat s.os i).dg = (oat s.os j).dg → i = j

theorem SAt.foot_lt {w : World} {B sb : Nat} {s : Snd} (h : SAt w B sb s) {b : Nat} (hb : s.foot sb b) : B ≤ b ∧ b < w.heap.size := by
  rcases hb with rfl | hb | ⟨i, hi, rfl | hb⟩
  · exact ⟨h.low, lt_of_block h.blk⟩
  · exact h.own.lt b hb
  · exact ⟨(h.debts i hi).1, lt_of_block (h.debts i hi).2⟩
  · exact (h.bytes i hi).lt b hb

theorem SAt.kept {w w' : World} {B sb : Nat} {s : Snd} (h : SAt w B sb s) (hk : ∀ b, s.foot sb b → w'.heap[b]? = w.heap[b]?) : SAt w' B sb s :=
  ⟨h.low, (hk sb (.inl rfl)).trans h.blk, own_of_block h.own (fun g hg => hk g (.inr (.inl hg))),
   fun i hi => own_of_block (h.bytes i hi) (fun g hg => hk g (.inr (.inr ⟨i, hi, .inr hg⟩))),
   fun i hi => ⟨(h.debts i hi).1, (hk _ (.inr (.inr ⟨i, hi, .inl rfl⟩))).trans (h.debts i hi).2⟩, h.apart⟩
theorem SAt.above {w w' : World} {B sb : Nat} {s : Snd} (h : SAt w B sb s) (hb : Below w.heap.size w w') : SAt w' B sb s := h.kept (fun b q => hb.block b (h.foot_lt q).2)

theorem oat_some {os : List Ob} {i : Nat} (hi : i < os.length) : os[i]? = some (oat os i) := by simp [oat, List.getD, hi]
theorem dat_some {ds : List (Nat × Nat)} {i : Nat} (hi : i < ds.length) : ds[i]? = some (dat ds i) := by simp [dat, List.getD, hi]

theorem SAt.cells {w : World} {B sb : Nat} {s : Snd} (h : SAt w B sb s) :
    w.cell? ⟨sb, 0, none⟩ = some (.int .i64 (s.K : Int)) ∧ w.cell? ⟨sb, 1, none⟩ = some (.int .i64 (s.N : Int)) ∧ w.cell? ⟨sb, 2, none⟩ = some (.int .i64 (s.S : Int)) ∧ w.cell? ⟨sb, 3, none⟩ = some s.vo ∧ w.cell? ⟨sb, 4, none⟩ = some (.int .i64 (s.no : Int)) ∧ w.cell? ⟨sb, 5, none⟩ = some (.int .i64 (s.ns : Int)) :=
  ⟨cell_of_row w _ 0 _ _ _ h.blk, cell_of_row w _ 1 _ _ _ h.blk, cell_of_row w _ 2 _ _ _ h.blk, cell_of_row w _ 3 _ _ _ h.blk, cell_of_row w _ 4 _ _ _ h.blk, cell_of_row w _ 5 _ _ _ h.blk⟩
theorem SAt.frozen {w : World} {B sb : Nat} {s : Snd} (h : SAt w B sb s) (i : Nat) : w.frozen? ⟨sb, i, none⟩ = false := frozen_of_row w sb i _ _ h.blk

/-- The list of objects, where there are some. -/
theorem SAt.list {w : World} {B sb : Nat} {s : Snd} (h : SAt w B sb s) (h0 : 0 < s.os.length) : ∃ g c, s.vo = .slice (some ⟨g, 0, none⟩) s.os.length c ∧ s.os.length ≤ c ∧
    ∀ i, i < s.os.length → w.cell? ⟨g, i * 2, none⟩ = some (oat s.os i).bv ∧ w.cell? ⟨g, i * 2 + 1, none⟩ = some (oat s.os i).dv := by
  obtain ⟨g, c, hv, hc⟩ : ∃ g c, s.vo = .slice (some ⟨g, 0, none⟩) s.os.length c ∧ s.os.length ≤ c := by
    rcases h.own.2 with ⟨_, h2⟩ | ⟨g, cap, cur, h1, _, _, h4, _⟩
    · omega
    · exact ⟨g, cap, h1, h4⟩
  refine ⟨g, c, hv, hc, fun i hi => ?_⟩
  have e : ∀ j, (⟨g, 0, none⟩ : Addr).add j = ⟨g, j, none⟩ := fun j => by unfold Addr.add; split <;> simp_all
  have h0 := h.own.cells (g := g) (by rw [hv]; rfl) (2 * i) (oat s.os i).bv (by rw [flat2_get0, objVals, List.getElem?_map, oat_some hi]; rfl)
  have h1 := h.own.cells (g := g) (by rw [hv]; rfl) (2 * i + 1) (oat s.os i).dv (by rw [flat2_get1, objVals, List.getElem?_map, oat_some hi]; rfl)
  rw [e] at h0 h1
  rw [Nat.mul_comm i 2]
  exact ⟨h0, h1⟩

theorem SAt.debt {w : World} {B sb : Nat} {s : Snd} (h : SAt w B sb s) {i q : Nat} (hi : i < s.os.length) (hq : q < (oat s.os i).ds.length) :
    w.cell? ⟨(oat s.os i).dg, q * 2, none⟩ = some (.int .i64 ((dat (oat s.os i).ds q).1 : Int)) ∧ w.cell? ⟨(oat s.os i).dg, q * 2 + 1, none⟩ = some (.int .i64 ((dat (oat s.os i).ds q).2 : Int)) := by
  have hd := (h.debts i hi).2
  refine ⟨?_, ?_⟩
  · rw [cell_of_row w _ _ _ _ _ hd, Nat.mul_comm q 2]
    rw [List.getElem?_toArray, flat2_get0, debtVals, List.getElem?_map, dat_some hq]; rfl
  · rw [cell_of_row w _ _ _ _ _ hd, Nat.mul_comm q 2]
    rw [List.getElem?_toArray, flat2_get1, debtVals, List.getElem?_map, dat_some hq]; rfl

end Go.Proofs.YtjabhnhejbhgjaaGreatDoor

/- Senders of the program: plan, repairs, placeAt. -/
namespace Go.Proofs.YtjabhnhejbhgjaaGreatDoor
open Go.RowKit

theorem four {W : World} {g : Nat} {v0 v1 v2 v3 : Value} {t : TypeId} (h : W.heap[g]? = some (.cells #[v0, v1, v2, v3] t (0, 0))) : W.cell? ⟨g, 0, none⟩ = some v0 ∧ W.cell? ⟨g, 1, none⟩ = some v1 ∧ W.cell? ⟨g, 2, none⟩ = some v2 ∧ W.cell? ⟨g, 3, none⟩ = some v3 ∧ W.frozen? ⟨g, 0, none⟩ = false ∧ W.frozen? ⟨g, 1, none⟩ = false ∧ W.frozen? ⟨g, 2, none⟩ = false ∧ W.frozen? ⟨g, 3, none⟩ = false :=
  ⟨cell_of_row W _ 0 _ _ _ h, cell_of_row W _ 1 _ _ _ h, cell_of_row W _ 2 _ _ _ h, cell_of_row W _ 3 _ _ _ h, frozen_of_row W _ 0 _ _ h, frozen_of_row W _ 1 _ _ h, frozen_of_row W _ 2 _ _ h, frozen_of_row W _ 3 _ _ h⟩

theorem put4 (W : World) (g : Nat) (v0 v1 v2 v3 u0 u1 u2 u3 : Value) (t : TypeId) (h : W.heap[g]? = some (.cells #[v0, v1, v2, v3] t (0, 0))) :
    ((((W.setCell ⟨g, 0, none⟩ u0).setCell ⟨g, 1, none⟩ u1).setCell ⟨g, 2, none⟩ u2).setCell ⟨g, 3, none⟩ u3).heap[g]? = some (.cells #[u0, u1, u2, u3] t (0, 0)) ∧
    But (fun b => b = g) W ((((W.setCell ⟨g, 0, none⟩ u0).setCell ⟨g, 1, none⟩ u1).setCell ⟨g, 2, none⟩ u2).setCell ⟨g, 3, none⟩ u3) := by
  have h0 : (W.setCell ⟨g, 0, none⟩ u0).heap[g]? = some (.cells #[u0, v1, v2, v3] t (0, 0)) := heap_setCell_same _ g 0 _ _ u0 h
  have h1 : ((W.setCell ⟨g, 0, none⟩ u0).setCell ⟨g, 1, none⟩ u1).heap[g]? = some (.cells #[u0, u1, v2, v3] t (0, 0)) := heap_setCell_same _ g 1 _ _ u1 h0
  have h2 : (((W.setCell ⟨g, 0, none⟩ u0).setCell ⟨g, 1, none⟩ u1).setCell ⟨g, 2, none⟩ u2).heap[g]? = some (.cells #[u0, u1, u2, v3] t (0, 0)) := heap_setCell_same _ g 2 _ _ u2 h1
  have h3 : ((((W.setCell ⟨g, 0, none⟩ u0).setCell ⟨g, 1, none⟩ u1).setCell ⟨g, 2, none⟩ u2).setCell ⟨g, 3, none⟩ u3).heap[g]? = some (.cells #[u0, u1, u2, u3] t (0, 0)) := heap_setCell_same _ g 3 _ _ u3 h2
  have b0 := But.setCell (S := fun b => b = g) (But.refl _ W) (p := ⟨g, 0, none⟩) (.inl rfl) u0
  have b1 := But.setCell b0 (p := ⟨g, 1, none⟩) (.inl rfl) u1
  have b2 := But.setCell b1 (p := ⟨g, 2, none⟩) (.inl rfl) u2
  exact ⟨h3, But.setCell b2 (p := ⟨g, 3, none⟩) (.inl rfl) u3⟩

set_option maxRecDepth 100000 in
set_option maxHeartbeats 2000000 in
theorem plan_any {B sb i : Nat} {s : Snd} {w : World} (h : SAt w B sb s) (ok : s.Ok0) (hi : i < s.os.length) :
    Calls Tryz.prog 69 #[.pointer (some ⟨sb, 0, none⟩), .int .i64 (i : Int)] w fun e w' =>
      e = .returned (.agg #[.int .i64 (s.K : Int), .int .i64 (s.N : Int), .int .i64 (s.S : Int), .int .i64 (s.T i : Int)]) ∧ Below w.heap.size w w' := by
  have hbW := (Below.refl w.heap.size w).alloc (Nat.le_refl _) (.cells #[.int .i64 0, .int .i64 0, .int .i64 0, .int .i64 0] 148)
  have hX := heap_alloc_new w (.cells #[.int .i64 0, .int .i64 0, .int .i64 0, .int .i64 0] 148)
  have hW := h.above hbW
  have hlen := ok.len i hi
  have hfew := ok.few
  have hof := fun W => of_any s.K s.N s.S (oat s.os i).l.length ok.cfg (by omega) W
  have HT : Hid (s.T i = symN s.S (oat s.os i).l.length) := rfl
  go_enter Tryz.func69, Tryz.ntmps69
  go_upto_region 1 with fail
  generalize w.alloc (.cells #[.int .i64 0, .int .i64 0, .int .i64 0, .int .i64 0] 148) = W at *
  obtain ⟨c0, c1, c2, c3, _, _⟩ := hW.cells
  obtain ⟨g, cp, hv, hcp, hl⟩ := hW.list (by omega)
  obtain ⟨t0, _⟩ := hl i hi
  unfold Ob.bv at t0
  rw [hv] at c3
  have hXl := lt_of_block hX
  have hsl : ¬ sb = w.heap.size := Nat.ne_of_lt (lt_of_block h.blk)
  have hgl : ¬ g = w.heap.size := Nat.ne_of_lt (h.own.lt g (by rw [hv]; rfl)).2
  have hsl2 := Ne.symm hsl
  have hgl2 := Ne.symm hgl
  have hlt1 : (0 : Int) ≤ (i : Int) := by omega
  have hlt2 : (i : Int) < (s.os.length : Int) := by omega
  generalize (oat s.os i).l.length = len at *
  generalize (oat s.os i).a = va at *
  generalize (oat s.os i).c = vc at *
  clear hl hv
  go_region_held3 (fun w' => w'.cell? ⟨sb, 0, none⟩ = some (.int .i64 (s.K : Int)) ∧ w'.cell? ⟨sb, 1, none⟩ = some (.int .i64 (s.N : Int)) ∧ w'.cell? ⟨sb, 2, none⟩ = some (.int .i64 (s.S : Int)) ∧ w'.cell? ⟨sb, 3, none⟩ = some (.slice (some ⟨g, 0, none⟩) s.os.length cp) ∧ w'.cell? ⟨g, i * 2, none⟩ = some (.slice va len vc)) (first | go_keep | exact hkeep) (first
    | (go_at_call 60; refine (hof _).mono ?_; rintro e w1 ⟨rfl, hb1⟩; obtain ⟨hkeep, hX1⟩ := show (w1.cell? ⟨sb, 0, none⟩ = some (.int .i64 (s.K : Int)) ∧ w1.cell? ⟨sb, 1, none⟩ = some (.int .i64 (s.N : Int)) ∧ w1.cell? ⟨sb, 2, none⟩ = some (.int .i64 (s.S : Int)) ∧ w1.cell? ⟨sb, 3, none⟩ = some (.slice (some ⟨g, 0, none⟩) s.os.length cp) ∧ w1.cell? ⟨g, i * 2, none⟩ = some (.slice va len vc)) ∧ w1.heap[w.heap.size]? = some (.cells #[.int .i64 0, .int .i64 0, .int .i64 0, .int .i64 0] 148 (0, 0)) from ⟨⟨by rw [hb1.cell (lt_of_cell c0)]; exact c0, by rw [hb1.cell (lt_of_cell c1)]; exact c1, by rw [hb1.cell (lt_of_cell c2)]; exact c2, by rw [hb1.cell (lt_of_cell c3)]; exact c3, by rw [hb1.cell (lt_of_cell t0)]; exact t0⟩, (hb1.block _ hXl).trans hX⟩; obtain ⟨x0, x1, x2, x3, f0, f1, f2, f3⟩ := four hX1))
  all_goals go_wp2_with fail
  obtain ⟨hp1, hp2⟩ := put4 w1 w.heap.size _ _ _ _ (.int .i64 (s.K : Int)) (.int .i64 (s.N : Int)) (.int .i64 (s.S : Int)) (.int .i64 (symN s.S len : Int)) _ hX1
  have hlow : Below w.heap.size w w1 := hbW.trans ((Below.undraw hb1).mono hbW.size)
  have hsz := hlow.size
  generalize (((w1.setCell ⟨w.heap.size, 0, none⟩ (.int .i64 (s.K : Int))).setCell ⟨w.heap.size, 1, none⟩ (.int .i64 (s.N : Int))).setCell ⟨w.heap.size, 2, none⟩ (.int .i64 (s.S : Int))).setCell ⟨w.heap.size, 3, none⟩ (.int .i64 (symN s.S len : Int)) = W9 at hp1 hp2 ⊢
  obtain ⟨z0, z1, z2, z3, _⟩ := four hp1
  exact bodyPost_ret (v := .agg #[.int .i64 (s.K : Int), .int .i64 (s.N : Int), .int .i64 (s.S : Int), .int .i64 (symN s.S len : Int)]) (by simp [results, Tryz.results69, go_sem, z0, z1, z2, z3]) rfl ⟨by rw [HT.out], hlow.trans (hp2.toBelow hsz (fun k hk q => by omega))⟩

set_option maxRecDepth 100000 in
set_option maxHeartbeats 1000000 in
theorem repairs_any {B sb : Nat} {s : Snd} {w : World} (h : SAt w B sb s) (ok : s.Ok0) :
    Calls Tryz.prog 73 #[.pointer (some ⟨sb, 0, none⟩)] w fun e w' => e = .returned (.int .i64 ((s.N - s.K : Nat) : Int)) ∧ Below w.heap.size w w' := by
  obtain ⟨c0, c1, _, _, _, _⟩ := h.cells
  obtain ⟨k1, k8, kn, n16, s1, s8⟩ := ok.cfg
  have HR : Hid (((s.N - s.K : Nat) : Int) = (s.N : Int) - (s.K : Int)) := by show _ = _; omega
  go_enter Tryz.func73, Tryz.ntmps73
  go_wp2_with fail
  go_quiet (fail)
  go_wp2_with fail
  go_ret
  exact ⟨ret_int HR.out.symm, below_drew rfl⟩

/-- The place at a turn. -/
def plcAt (K N t : Nat) : Nat := if t < N - K then K + t else t - (N - K)

set_option maxRecDepth 100000 in
set_option maxHeartbeats 1000000 in
theorem placeAt_any {B sb : Nat} {s : Snd} {w : World} (t : Nat) (ht : t ≤ 1000) (h : SAt w B sb s) (ok : s.Ok0) :
    Calls Tryz.prog 72 #[.pointer (some ⟨sb, 0, none⟩), .int .i64 (t : Int)] w fun e w' => e = .returned (.int .i64 (plcAt s.K s.N t : Int)) ∧ Below w.heap.size w w' := by
  obtain ⟨k1, k8, kn, n16, s1, s8⟩ := ok.cfg
  have hr0 := repairs_any h ok
  by_cases hq : t < s.N - s.K
  · have hq1 : (t : Int) < ((s.N - s.K : Nat) : Int) := by omega
    have HP : Hid ((plcAt s.K s.N t : Int) = (s.K : Int) + (t : Int)) := by show _ = _; unfold plcAt; rw [if_pos hq]; push_cast; rfl
    go_enter Tryz.func72, Tryz.ntmps72
    go_wp2_with fail
    refine hr0.mono ?_
    rintro e w1 ⟨rfl, hb1⟩
    obtain ⟨c0, _⟩ := (h.above hb1).cells
    go_wp2_with fail
    go_ret
    exact ⟨ret_int HP.out.symm, hb1⟩
  · have hq1 : ¬ (t : Int) < ((s.N - s.K : Nat) : Int) := by omega
    have HP : Hid ((plcAt s.K s.N t : Int) = (t : Int) - ((s.N - s.K : Nat) : Int)) := by show _ = _; unfold plcAt; rw [if_neg hq]; omega
    go_enter Tryz.func72, Tryz.ntmps72
    go_wp2_with fail
    refine hr0.mono ?_
    rintro e w1 ⟨rfl, hb1⟩
    go_wp2_with fail
    refine (repairs_any (h.above hb1) ok).mono ?_
    rintro e w2 ⟨rfl, hb2⟩
    go_wp2_with fail
    go_ret
    exact ⟨ret_int HP.out.symm, hb1.trans (hb2.mono hb1.size)⟩

end Go.Proofs.YtjabhnhejbhgjaaGreatDoor

/- Senders of the program: data: the DATA packet of a symbol. -/
namespace Go.Proofs.YtjabhnhejbhgjaaGreatDoor
open Go.RowKit

/-- Source symbols of a block, as rows. -/
def srcRows (S : Nat) (l : List Gf.F) (o k : Nat) : List Row := (List.range k).map fun j => ⟨0, 0, 0, symAt S l (o + j)⟩
theorem srcRows_at (S : Nat) (l : List Gf.F) (o k j : Nat) (hj : j < k) : (rat (srcRows S l o k) j).l = symAt S l (o + j) := by simp [rat, srcRows, List.getD, hj]

/-- The symbol with a place of a block of an object. -/
def symPl (K S : Nat) (l : List Gf.F) (q pl : Nat) : List Gf.F := symOf (front (srcN K (symN S l.length) q)) (srcRows S l (q * K) (srcN K (symN S l.length) q)) (by8 pl) S
theorem symPl_length (K S : Nat) (l : List Gf.F) (q pl : Nat) : (symPl K S l q pl).length = S := symOf_length ..

/-- The packet. -/
def Snd.pkt (s : Snd) (i q pl : Nat) : List Gf.F := dataOf i (oat s.os i).l.length q pl (symPl s.K s.S (oat s.os i).l q pl)

theorem Ob.form {w : World} {B : Nat} {o : Ob} (h : w.ownsRow B 5 1 o.bv o.l.length (encL o.l)) : ∃ b, (o.a = some ⟨b, 0, none⟩ ∨ o.a = none ∧ o.l.length = 0 ∧ o.c = 0) ∧ o.l.length ≤ o.c ∧ o.c ≤ 9223372036854775807 ∧ Bs w b 0 o.l ∧ (0 < o.l.length → b < w.heap.size) := by
  have h' := h
  rcases h.2 with ⟨h1, h2⟩ | ⟨g, cap, cur, h1, _, h3, h4, h5, _⟩
  · unfold Ob.bv at h1
    simp only [Value.slice.injEq] at h1
    exact ⟨0, .inr ⟨h1.1, h2, h1.2.2⟩, by omega, by omega, fun i hi => by omega, fun h0 => by omega⟩
  · unfold Ob.bv at h1 h'
    simp only [Value.slice.injEq] at h1
    obtain ⟨e1, _, e2⟩ := h1
    rw [e1] at h'
    exact ⟨g, .inl e1, by omega, by unfold maxLen at h5; omega, own_bs h' rfl, fun _ => lt_of_block h3⟩

set_option maxRecDepth 100000 in
set_option maxHeartbeats 2000000 in
theorem data_snd {B sb i q : Nat} {s : Snd} {w : World} (pl : Nat) (h : SAt w B sb s) (ok : s.Ok0) (hi : i < s.os.length) (hq : q < s.Q i) (hpl : pl < 256) :
    Calls Tryz.prog 71 #[.pointer (some ⟨sb, 0, none⟩), .int .i64 (i : Int), .int .i64 (q : Int), .int .i64 (pl : Int)] w fun e w' =>
      ∃ g cap, e = .returned (.slice (some ⟨g, 0, none⟩) (6 + s.S) cap) ∧ w'.ownsRow w.heap.size 5 1 (.slice (some ⟨g, 0, none⟩) (6 + s.S) cap) (6 + s.S) (encL (s.pkt i q pl)) ∧ Below w.heap.size w w' := by
  obtain ⟨k1, k8, kn, n16, s1, s8⟩ := ok.cfg
  have hlen := ok.len i hi
  have hfew := ok.few
  obtain ⟨b, ha, hlc, hcap, hB, hbl⟩ := Ob.form (h.bytes i hi)
  have hTr := symN_range (S := s.S) (len := (oat s.os i).l.length) s1
  have hqK : q * s.K < s.T i := partsN_mul k1 hq
  have hQl := partsN_le (a := s.T i) k1
  have hT2 : s.T i ≤ 256 := by unfold Snd.T; omega
  have hq2 : q < 256 := by unfold Snd.Q at hq; omega
  obtain ⟨c0, c1, c2, c3, _, _⟩ := h.cells
  obtain ⟨g, cp, hv, hcp, hl⟩ := h.list (by omega)
  obtain ⟨t0, _⟩ := hl i hi
  have hplan := plan_any h ok hi
  have hsrc := fun W hb => planSource_any s.K s.N s.S (s.T i) b 0 (oat s.os i).l.length (oat s.os i).c q (oat s.os i).a (oat s.os i).l W ok.cfg rfl hqK rfl hlen hlc hcap ha (show Bs W b 0 (oat s.os i).l from hb) (fun h0 => by
    have := hb 0 h0
    exact lt_of_cell this)
  have hk1 : 1 ≤ srcN s.K (s.T i) q := by unfold srcN; omega
  have hk8 : srcN s.K (s.T i) q ≤ 8 := by unfold srcN; omega
  have HPK : Hid (s.pkt i q pl = dataOf i (oat s.os i).l.length q pl (symOf (front (srcN s.K (s.T i) q)) (srcRows s.S (oat s.os i).l (q * s.K) (srcN s.K (s.T i) q)) (by8 pl) s.S)) := rfl
  have HSA : Hid (∀ j, j < srcN s.K (s.T i) q → (rat (srcRows s.S (oat s.os i).l (q * s.K) (srcN s.K (s.T i) q)) j).l = symAt s.S (oat s.os i).l (q * s.K + j)) := fun j hj => srcRows_at _ _ _ _ _ hj
  have HSL : Hid (∀ j, (symAt s.S (oat s.os i).l j).length = s.S) := fun j => symAt_length _ _ _
  have hiL : i < 256 := by omega
  unfold Ob.bv at t0
  rw [hv] at c3
  have hlt1 : (0 : Int) ≤ (i : Int) := by omega
  have hlt2 : (i : Int) < (s.os.length : Int) := by omega
  have hlen2 : (oat s.os i).l.length < 65536 := by omega
  generalize hLL : (oat s.os i).l = L at *
  generalize (oat s.os i).a = va at *
  generalize (oat s.os i).c = vc at *
  generalize srcRows s.S L (q * s.K) (srcN s.K (s.T i) q) = sr at *
  have HQK : Hid (∀ j, symAt s.S L (q * s.K + j) = symAt s.S L (q * s.K + j)) := fun _ => rfl
  generalize srcN s.K (s.T i) q = k at *
  have HSRC : Hid (∀ (W : World), Bs W b 0 L → Calls Tryz.prog 116 #[.agg #[.int .i64 (s.K : Int), .int .i64 (s.N : Int), .int .i64 (s.S : Int), .int .i64 (s.T i : Int)], .slice va L.length vc, .int .i64 (q : Int)] W fun e w' =>
      ∃ g rs, e = .returned (.slice (some ⟨g, 0, none⟩) k k) ∧ rs.length = k ∧ w'.heap[g]? = some (.cells (rsCells rs k) 33 (0, 0)) ∧ W.heap.size ≤ g ∧ NewRows w' (g + 1) rs ∧ (∀ i, i < rs.length → (rat rs i).l = symAt s.S L (q * s.K + i)) ∧ Below W.heap.size W w') := hsrc
  clear hsrc hl hv ha hTr hqK hQl hlc
  go_enter Tryz.func71, Tryz.ntmps71
  go_wp2_with fail
  refine hplan.mono ?_
  rintro e w1 ⟨rfl, hb1⟩
  have hB1 : Bs w1 b 0 L := by
    by_cases h0 : 0 < L.length
    · exact hB.below hb1 (hbl h0)
    · intro j hj; omega
  clear c0 c1 c2 c3 t0
  go_wp2_with fail
  refine (HSRC.out w1 hB1).mono ?_
  rintro e w2 ⟨g2, rs, rfl, hrl, hg2, hgl2, hNR, hsy, hb2⟩
  have HRL : Hid (rs.length = k) := hrl
  have HG2 : Hid (w2.heap[g2]? = some (.cells (rsCells rs k) 33 (0, 0))) := hg2
  have HSY : Hid (∀ i, i < rs.length → (rat rs i).l = symAt s.S L (q * s.K + i)) := hsy
  clear hg2 hsy hrl hplan
  go_wp2_with fail
  refine (sourcePlaces_any k w2 hk8).mono ?_
  rintro e w3 ⟨rfl, hF3, hb3, -⟩
  have hg3 := (hb3.block _ (lt_of_block HG2.out)).trans HG2.out
  have hR3 := (hNR.below hb3).rs HRL.out hg3
  have hlow3 := fun (j : Nat) (hj : j < rs.length) => ((hNR.below hb3).blk j hj).lt
  have HR3 : Hid (Rs w3 g2 0 rs) := hR3
  have HLOW3 : Hid (∀ j, j < rs.length → (rat rs j).b < w3.heap.size) := hlow3
  have HLEN3 : Hid (∀ j, j < rs.length → (rat rs j).l.length = s.S) := fun j hj => by rw [HSY.out j hj]; exact HSL.out _
  clear hR3 hlow3 hg3
  go_wp2_with fail
  refine (blockSymbol_z w2.heap.size 0 k g2 0 k s.S k (front k) rs _ (by8 pl) w3 ?hz (front_length k) HRL.out (by omega) hk8 (by omega) hF3.bs HR3.out HLEN3.out HLOW3.out).mono ?_
  case hz => exact (by8_int hpl).symm
  rintro e w4 ⟨rfl, hG4, hb4, -⟩
  have hsym : symOf (front k) rs (by8 pl) s.S = symOf (front k) sr (by8 pl) s.S := symOf_congr (fun j hj => by rw [front_length] at hj; rw [HSY.out j (by rw [HRL.out]; exact hj), HSA.out j hj])
  rw [hsym] at hG4
  clear hsym
  have hlow4 : Below w.heap.size w w4 := ((hb1.trans (hb2.mono hb1.size)).trans (hb3.mono (Nat.le_trans hb1.size hb2.size))).trans (hb4.mono (Nat.le_trans (Nat.le_trans hb1.size hb2.size) hb3.size))
  have hz4 := hlow4.size
  generalize hD : symOf (front k) sr (by8 pl) s.S = D at *
  have hDl : D.length = s.S := by rw [← hD]; exact symOf_length ..
  clear hb1 hb2 hb3 hb4 hF3 hNR
  go_wp2_with fail
  refine (dataBytes_any i L.length q pl w3.heap.size 0 s.S s.S D w4 hiL hlen2 hDl s1 (by omega) hG4.bs).mono ?_
  rintro e w5 ⟨g5, cap5, rfl, hown5, hb5⟩
  go_wp2_with fail
  go_ret
  refine ⟨g5, cap5, rfl, ?_, hlow4.trans (hb5.mono hz4)⟩
  rw [HPK.out]
  exact own_base2 hown5 hz4

end Go.Proofs.YtjabhnhejbhgjaaGreatDoor

/- Senders of the program: sendSource. -/
namespace Go.Proofs.YtjabhnhejbhgjaaGreatDoor
open Go.RowKit

set_option maxHeartbeats 400000 in
theorem symbols_any (K N S T : Nat) (w : World) :
    Calls Tryz.prog 70 #[.agg #[.int .i64 (K : Int), .int .i64 (N : Int), .int .i64 (S : Int), .int .i64 (T : Int)]] w fun e w' => e = .returned (.int .i64 (T : Int)) ∧ Below w.heap.size w w' := by
  go_enter Tryz.func70, Tryz.ntmps70
  go_wp2
  go_ret
  exact ⟨rfl, (Below.refl _ _).alloc (Nat.le_refl _) _⟩

/-- The sender with other numbers of what is next. -/
def Snd.at (s : Snd) (no ns : Nat) : Snd := { s with no := no, ns := ns }

theorem SAt.next {w w' : World} {B sb : Nat} {s : Snd} (h : SAt w B sb s) (no ns : Nat) (hb : But (fun b => b = sb) w w')
    (hk : w'.heap[sb]? = some (.cells #[.int .i64 (s.K : Int), .int .i64 (s.N : Int), .int .i64 (s.S : Int), s.vo, .int .i64 (no : Int), .int .i64 (ns : Int)] 116 (0, 0))) : SAt w' B sb (s.at no ns) := by
  have hne : ∀ {B' n sz : Nat} {e : TypeId} {v : Value} {xs : List Value}, w.ownsRow B' e sz v n xs → e ≠ 116 → ∀ g, v.ownBlock = some g → ¬ g = sb := fun h' he g hg q => own_ne h' hg (by rw [← q] at h; exact h.blk) he (by rw [q])
  refine ⟨h.low, hk, hb.own h.own (hne h.own (by decide)), fun i hi => hb.own (h.bytes i hi) (hne (h.bytes i hi) (by decide)), fun i hi => ⟨(h.debts i hi).1, ?_⟩, h.apart⟩
  have hd := (h.debts i hi).2
  refine (hb.block _ (lt_of_block hd) (fun q => ?_)).trans hd
  have hb2 := h.blk
  rw [← q] at hb2
  rw [hd] at hb2
  simp only [Option.some.injEq, Obj.cells.injEq] at hb2
  exact absurd hb2.2.1 (by decide)

theorem SAt.set5 {w : World} {B sb : Nat} {s : Snd} (h : SAt w B sb s) (x : Nat) : SAt (w.setCell ⟨sb, 5, none⟩ (.int .i64 (x : Int))) B sb (s.at s.no x) ∧ But (fun b => b = sb) w (w.setCell ⟨sb, 5, none⟩ (.int .i64 (x : Int))) := by
  have hb := But.setCell (S := fun b => b = sb) (But.refl _ w) (p := ⟨sb, 5, none⟩) (.inl rfl) (.int .i64 (x : Int))
  exact ⟨h.next _ _ hb (heap_setCell_same w sb 5 _ _ _ h.blk), hb⟩
theorem SAt.set45 {w : World} {B sb : Nat} {s : Snd} (h : SAt w B sb s) (x y : Nat) : SAt ((w.setCell ⟨sb, 4, none⟩ (.int .i64 (x : Int))).setCell ⟨sb, 5, none⟩ (.int .i64 (y : Int))) B sb (s.at x y) ∧ But (fun b => b = sb) w ((w.setCell ⟨sb, 4, none⟩ (.int .i64 (x : Int))).setCell ⟨sb, 5, none⟩ (.int .i64 (y : Int))) := by
  have hb := But.setCell (S := fun b => b = sb) (But.refl _ w) (p := ⟨sb, 4, none⟩) (.inl rfl) (.int .i64 (x : Int))
  have hb2 := But.setCell hb (p := ⟨sb, 5, none⟩) (.inl rfl) (.int .i64 (y : Int))
  have h4 : (w.setCell ⟨sb, 4, none⟩ (.int .i64 (x : Int))).heap[sb]? = some (.cells #[.int .i64 (s.K : Int), .int .i64 (s.N : Int), .int .i64 (s.S : Int), s.vo, .int .i64 (x : Int), .int .i64 (s.ns : Int)] 116 (0, 0)) := heap_setCell_same w sb 4 _ _ _ h.blk
  exact ⟨h.next _ _ hb2 (heap_setCell_same _ sb 5 _ _ _ h4), hb2⟩

theorem div_parts {K T x : Nat} (hk : 1 ≤ K) (hx : x < T) : x / K < partsN T K := by
  unfold partsN
  have h1 : T + K - 1 = (T - 1) + K := by omega
  rw [h1, Nat.add_div_right _ (by omega)]
  have h2 : x / K ≤ (T - 1) / K := Nat.div_le_div_right (by omega)
  omega

/-- Behind a source symbol. -/
def Snd.step (s : Snd) : Snd := if s.ns + 1 = s.T s.no then s.at (s.no + 1) 0 else s.at s.no (s.ns + 1)

set_option maxRecDepth 100000 in
set_option maxHeartbeats 1000000 in
theorem sendSource_any {B sb : Nat} {s : Snd} {w : World} (h : SAt w B sb s) (ok : s.Ok) (hn : s.no < s.os.length) :
    Calls Tryz.prog 42 #[.pointer (some ⟨sb, 0, none⟩)] w fun e w' =>
      ∃ g cap, e = .returned (.slice (some ⟨g, 0, none⟩) (6 + s.S) cap) ∧ w'.ownsRow w.heap.size 5 1 (.slice (some ⟨g, 0, none⟩) (6 + s.S) cap) (6 + s.S) (encL (s.pkt s.no (s.ns / s.K) (s.ns % s.K))) ∧ SAt w' B sb s.step ∧ But (fun b => b = sb) w w' := by
  obtain ⟨k1, k8, kn, n16, s1, s8⟩ := ok.cfg
  have hsym := ok.sym hn
  have hfew := ok.few
  have hTr := symN_range (S := s.S) (len := (oat s.os s.no).l.length) s1
  have hlen := ok.len s.no hn
  have hT2 : s.T s.no ≤ 256 := by unfold Snd.T; omega
  obtain ⟨_, _, _, _, c4, c5⟩ := h.cells
  have f5 := h.frozen 5
  obtain ⟨qq, hqq⟩ : ∃ x : Nat, x = s.ns / s.K := ⟨_, rfl⟩
  obtain ⟨rr, hrr⟩ : ∃ x : Nat, x = s.ns % s.K := ⟨_, rfl⟩
  have hdiv : (s.ns : Int) / (s.K : Int) = (qq : Int) := by rw [hqq]; push_cast; rfl
  have hmod : (s.ns : Int) % (s.K : Int) = (rr : Int) := by rw [hrr]; push_cast; rfl
  have hqX0 : qq < partsN (s.T s.no) s.K := by rw [hqq]; exact div_parts k1 hsym
  have hrX0 : rr < 256 := by rw [hrr]; exact Nat.lt_of_lt_of_le (Nat.mod_lt _ (by omega)) (by omega)
  have hK0 : ¬ s.K = 0 := by omega
  have hwq : qq ≤ 256 → IntKind.i64.wrap (qq : Int) = (qq : Int) := fun h => by rw [IntKind.wrap_i64]; omega
  have hqb : qq ≤ 256 := by have := partsN_le (a := s.T s.no) k1; omega
  replace hwq := hwq hqb
  rw [← hqq, ← hrr]
  have htd : (s.ns : Int).tdiv (s.K : Int) = (qq : Int) := by rw [Int.tdiv_eq_ediv_of_nonneg (by omega)]; exact hdiv
  have htm : (s.ns : Int).tmod (s.K : Int) = (rr : Int) := by rw [Int.tmod_eq_emod_of_nonneg (by omega)]; exact hmod
  clear hqq hrr
  have hsbl := lt_of_block h.blk
  obtain ⟨h0, hbu0⟩ := h.set5 (s.ns + 1)
  rw [show ((s.ns + 1 : Nat) : Int) = (s.ns : Int) + 1 by push_cast; rfl] at h0 hbu0
  have hbA := (Below.refl (w.setCell ⟨sb, 5, none⟩ (.int .i64 ((s.ns : Int) + 1))).heap.size _).alloc (Nat.le_refl _) (.cells #[.int .i64 (s.no : Int), .int .i64 (s.ns : Int)] 114)
  have hAn := heap_alloc_new (w.setCell ⟨sb, 5, none⟩ (.int .i64 ((s.ns : Int) + 1))) (.cells #[.int .i64 (s.no : Int), .int .i64 (s.ns : Int)] 114)
  have h1 := h0.above hbA
  have hbu1 := hbu0.alloc (.cells #[.int .i64 (s.no : Int), .int .i64 (s.ns : Int)] 114)
  have esz : (w.setCell ⟨sb, 5, none⟩ (.int .i64 ((s.ns : Int) + 1))).heap.size = w.heap.size := by simp
  rw [esz] at hAn
  go_enter Tryz.func42, Tryz.ntmps42
  go_upto_region 3 with fail
  clear hbA h0 hbu0 esz c4 c5 f5
  generalize (w.setCell ⟨sb, 5, none⟩ (.int .i64 ((s.ns : Int) + 1))).alloc (.cells #[.int .i64 (s.no : Int), .int .i64 (s.ns : Int)] 114) = W at *
  have ok1 : (s.at s.no (s.ns + 1)).Ok0 := ⟨ok.cfg, ok.few, ok.len⟩
  have hAl := lt_of_block hAn
  have x0 : W.cell? ⟨w.heap.size, 0, none⟩ = some (.int .i64 (s.no : Int)) := cell_of_row W _ 0 _ _ _ hAn
  have x1 : W.cell? ⟨w.heap.size, 1, none⟩ = some (.int .i64 (s.ns : Int)) := cell_of_row W _ 1 _ _ _ hAn
  have y5 : W.cell? ⟨sb, 5, none⟩ = some (.int .i64 ((s.ns : Int) + 1)) := by have := h1.cells.2.2.2.2.2; rw [this]; show some (Value.int .i64 ((s.ns + 1 : Nat) : Int)) = _; push_cast; rfl
  go_cut [27] (fun t wx => t = .bool (decide (s.ns + 1 = s.T s.no)) ∧ Below W.heap.size W wx)
  case first =>
    have hd : SAt W.drew B sb (s.at s.no (s.ns + 1)) := h1.kept (fun _ _ => rfl)
    go_region_held3 (fun w' => w'.cell? ⟨sb, 5, none⟩ = some (.int .i64 ((s.ns : Int) + 1)) ∧ w'.cell? ⟨w.heap.size, 0, none⟩ = some (.int .i64 (s.no : Int))) (first | go_keep | exact hk2 | exact hk3) (first
      | (go_at_call 69; refine (plan_any hd ok1 hn).mono ?_; rintro e w1 ⟨rfl, hb1⟩; have hk2 : w1.cell? ⟨sb, 5, none⟩ = some (.int .i64 ((s.ns : Int) + 1)) ∧ w1.cell? ⟨w.heap.size, 0, none⟩ = some (.int .i64 (s.no : Int)) := ⟨by rw [hb1.cell (lt_of_cell y5)]; exact y5, by rw [hb1.cell (lt_of_cell x0)]; exact x0⟩)
      | (go_at_call 70; refine (symbols_any _ _ _ _ _).mono ?_; rintro e w2 ⟨rfl, hb2⟩; have hk3 : w2.cell? ⟨sb, 5, none⟩ = some (.int .i64 ((s.ns : Int) + 1)) ∧ w2.cell? ⟨w.heap.size, 0, none⟩ = some (.int .i64 (s.no : Int)) := ⟨by rw [hb2.cell (lt_of_cell hk2.1)]; exact hk2.1, by rw [hb2.cell (lt_of_cell hk2.2)]; exact hk2.2⟩))
    all_goals go_wp2_with fail
    all_goals go_meet
    all_goals refine ⟨?_, (Below.undraw hb1).trans (hb2.mono hb1.size)⟩
    all_goals exact congrArg Value.bool (by rw [Bool.eq_iff_iff, beq_iff_eq, decide_eq_true_iff]; show ((s.ns : Int) + 1 = ((s.T s.no : Nat) : Int)) ↔ _; omega)
  case rest =>
    obtain ⟨rfl, hbx⟩ := hcut
    have h2 := h1.above hbx
    have hA2 := (hbx.block _ hAl).trans hAn
    have hbu2 : But (fun b => b = sb) w wc := hbu1.below hbx (fun k hk q => absurd (Nat.lt_of_lt_of_le hk hbu1.size) q)
    have hsz2 := hbu2.size
    have z0 : wc.cell? ⟨w.heap.size, 0, none⟩ = some (.int .i64 (s.no : Int)) := cell_of_row wc _ 0 _ _ _ hA2
    have z1 : wc.cell? ⟨w.heap.size, 1, none⟩ = some (.int .i64 (s.ns : Int)) := cell_of_row wc _ 1 _ _ _ hA2
    have hKne : ¬ (s.K : Int) = 0 := by omega
    clear x0 x1 y5
    by_cases hq : s.ns + 1 = s.T s.no
    · rw [decide_eq_true hq]
      have f4 := h2.frozen 4
      have f5 := h2.frozen 5
      obtain ⟨y0, _, _, _, y4, y5⟩ := h2.cells
      obtain ⟨h3, hbu3⟩ := h2.set45 (s.no + 1) 0
      rw [show ((s.no + 1 : Nat) : Int) = (s.no : Int) + 1 by push_cast; rfl, show ((0 : Nat) : Int) = 0 from rfl] at h3 hbu3
      go_upto_region 5 with fail
      clear f4 f5 y0 y4 y5
      generalize (wc.setCell ⟨sb, 4, none⟩ (.int .i64 ((s.no : Int) + 1))).setCell ⟨sb, 5, none⟩ (.int .i64 0) = W3 at *
      have hA3 := (hbu3.block _ (lt_of_block hA2) (by omega)).trans hA2
      have r0 : W3.cell? ⟨w.heap.size, 0, none⟩ = some (.int .i64 (s.no : Int)) := cell_of_row W3 _ 0 _ _ _ hA3
      have r1 : W3.cell? ⟨w.heap.size, 1, none⟩ = some (.int .i64 (s.ns : Int)) := cell_of_row W3 _ 1 _ _ _ hA3
      have okX : ((s.at s.no (s.ns + 1)).at (s.no + 1) 0).Ok0 := ⟨ok.cfg, ok.few, ok.len⟩
      have hqX : qq < ((s.at s.no (s.ns + 1)).at (s.no + 1) 0).Q s.no := hqX0
      have hXd : SAt W3.drew B sb ((s.at s.no (s.ns + 1)).at (s.no + 1) 0) := h3.kept (fun _ _ => rfl)
      have HPK : Hid (((s.at s.no (s.ns + 1)).at (s.no + 1) 0).pkt s.no (qq) (rr) = s.pkt s.no (qq) (rr)) := rfl
      obtain ⟨p0, _⟩ := h3.cells
      have p0' : W3.cell? ⟨sb, 0, none⟩ = some (.int .i64 (s.K : Int)) := p0
      clear p0
      go_region_held3 (fun w' => w'.cell? ⟨w.heap.size, 0, none⟩ = some (.int .i64 (s.no : Int)) ∧ w'.cell? ⟨w.heap.size, 1, none⟩ = some (.int .i64 (s.ns : Int)) ∧ w'.cell? ⟨sb, 0, none⟩ = some (.int .i64 (s.K : Int))) (first | go_keep | exact hk9) (first
        | (go_at_call 71; refine (data_snd rr hXd okX hn hqX hrX0).mono ?_; rintro e w5 ⟨g5, cap5, rfl, hown5, hb5⟩; have hk9 : w5.cell? ⟨w.heap.size, 0, none⟩ = some (.int .i64 (s.no : Int)) ∧ w5.cell? ⟨w.heap.size, 1, none⟩ = some (.int .i64 (s.ns : Int)) ∧ w5.cell? ⟨sb, 0, none⟩ = some (.int .i64 (s.K : Int)) := ⟨by rw [hb5.cell (lt_of_cell r0)]; exact r0, by rw [hb5.cell (lt_of_cell r1)]; exact r1, by rw [hb5.cell (lt_of_cell p0')]; exact p0'⟩))
      all_goals go_wp2_with fail
      all_goals go_ret
      have hbX : But (fun b => b = sb) w W3 := hbu2.trans hbu3
      have hszX := hbX.size
      refine ⟨g5, cap5, rfl, ?_, ?_, hbX.below (Below.undraw hb5) (fun k hk q => absurd (Nat.lt_of_lt_of_le hk hszX) q)⟩
      · rw [← HPK.out]; exact own_base2 hown5 hszX
      · have h6 := h3.above (Below.undraw hb5)
        unfold Snd.step
        rw [if_pos hq]
        exact h6
    · rw [decide_eq_false hq]
      go_upto_region 5 with fail
      have r0 := z0
      have r1 := z1
      have okX : (s.at s.no (s.ns + 1)).Ok0 := ⟨ok.cfg, ok.few, ok.len⟩
      have hqX : qq < (s.at s.no (s.ns + 1)).Q s.no := hqX0
      have hXd : SAt wc.drew B sb (s.at s.no (s.ns + 1)) := h2.kept (fun _ _ => rfl)
      have HPK : Hid ((s.at s.no (s.ns + 1)).pkt s.no (qq) (rr) = s.pkt s.no (qq) (rr)) := rfl
      obtain ⟨p0, _⟩ := h2.cells
      have p0' : wc.cell? ⟨sb, 0, none⟩ = some (.int .i64 (s.K : Int)) := p0
      clear p0
      go_region_held3 (fun w' => w'.cell? ⟨w.heap.size, 0, none⟩ = some (.int .i64 (s.no : Int)) ∧ w'.cell? ⟨w.heap.size, 1, none⟩ = some (.int .i64 (s.ns : Int)) ∧ w'.cell? ⟨sb, 0, none⟩ = some (.int .i64 (s.K : Int))) (first | go_keep | exact hk9) (first
        | (go_at_call 71; refine (data_snd rr hXd okX hn hqX hrX0).mono ?_; rintro e w5 ⟨g5, cap5, rfl, hown5, hb5⟩; have hk9 : w5.cell? ⟨w.heap.size, 0, none⟩ = some (.int .i64 (s.no : Int)) ∧ w5.cell? ⟨w.heap.size, 1, none⟩ = some (.int .i64 (s.ns : Int)) ∧ w5.cell? ⟨sb, 0, none⟩ = some (.int .i64 (s.K : Int)) := ⟨by rw [hb5.cell (lt_of_cell r0)]; exact r0, by rw [hb5.cell (lt_of_cell r1)]; exact r1, by rw [hb5.cell (lt_of_cell p0')]; exact p0'⟩))
      all_goals go_wp2_with fail
      all_goals go_ret
      have hbX : But (fun b => b = sb) w wc := hbu2
      have hszX := hbX.size
      refine ⟨g5, cap5, rfl, ?_, ?_, hbX.below (Below.undraw hb5) (fun k hk q => absurd (Nat.lt_of_lt_of_le hk hszX) q)⟩
      · rw [← HPK.out]; exact own_base2 hown5 hszX
      · have h6 := h2.above (Below.undraw hb5)
        unfold Snd.step
        rw [if_neg hq]
        exact h6

end Go.Proofs.YtjabhnhejbhgjaaGreatDoor

/- Senders of the program: what a block is owed, written. -/
namespace Go.Proofs.YtjabhnhejbhgjaaGreatDoor
open Go.RowKit

def Ob.setD (o : Ob) (q : Nat) (d : Nat × Nat) : Ob := { o with ds := o.ds.set q d }
def Snd.setD (s : Snd) (i q : Nat) (d : Nat × Nat) : Snd := { s with os := s.os.set i ((oat s.os i).setD q d) }

theorem oat_set {os : List Ob} {i j : Nat} {o : Ob} (hi : i < os.length) : oat (os.set i o) j = if i = j then o else oat os j := by
  unfold oat
  rw [List.getD_eq_getElem?_getD, List.getElem?_set]
  by_cases e : i = j
  · subst e
    rw [if_pos rfl, if_pos hi, if_pos rfl]; rfl
  · rw [if_neg e, if_neg e, List.getD_eq_getElem?_getD]
theorem Snd.setD_len (s : Snd) (i q : Nat) (d : Nat × Nat) : (s.setD i q d).os.length = s.os.length := by simp [Snd.setD]
theorem Snd.setD_at {s : Snd} {i : Nat} (hi : i < s.os.length) (q : Nat) (d : Nat × Nat) (j : Nat) : oat (s.setD i q d).os j = if i = j then (oat s.os i).setD q d else oat s.os j := oat_set hi
theorem Ob.setD_dv (o : Ob) (q : Nat) (d : Nat × Nat) : (o.setD q d).dv = o.dv := by simp [Ob.dv, Ob.setD]
theorem Snd.setD_l {s : Snd} {i : Nat} (hi : i < s.os.length) (q : Nat) (d : Nat × Nat) (j : Nat) : (oat (s.setD i q d).os j).l = (oat s.os j).l := by
  rw [s.setD_at hi]
  split
  · rename_i e; subst e; rfl
  · rfl
theorem Snd.setD_T {s : Snd} {i : Nat} (hi : i < s.os.length) (q : Nat) (d : Nat × Nat) (j : Nat) : (s.setD i q d).T j = s.T j := by
  unfold Snd.T; rw [s.setD_l hi]; rfl
theorem Snd.setD_pkt {s : Snd} {i : Nat} (hi : i < s.os.length) (q : Nat) (d : Nat × Nat) (j r pl : Nat) : (s.setD i q d).pkt j r pl = s.pkt j r pl := by
  unfold Snd.pkt; rw [s.setD_l hi]; rfl
theorem Snd.setD_vals {s : Snd} {i : Nat} (hi : i < s.os.length) (q : Nat) (d : Nat × Nat) : objVals (s.setD i q d).os = objVals s.os := by
  unfold objVals Snd.setD
  rw [List.map_set]
  refine List.ext_getElem? (fun j => ?_)
  rw [List.getElem?_set]
  by_cases e : i = j
  · subst e
    rw [if_pos rfl, List.length_map, if_pos hi, List.getElem?_map, oat_some hi]
    show _ = some ((oat s.os i).bv, (oat s.os i).dv)
    rw [Ob.setD_dv]; rfl
  · rw [if_neg e]
theorem Snd.setD_ok0 {s : Snd} (ok : s.Ok0) {i : Nat} (hi : i < s.os.length) (q : Nat) (d : Nat × Nat) : (s.setD i q d).Ok0 :=
  ⟨ok.cfg, by rw [s.setD_len]; exact ok.few, fun j hj => by rw [s.setD_len] at hj; rw [s.setD_l hi]; exact ok.len j hj⟩

/-- One block's debt is written. -/
theorem SAt.debtSet {w w' : World} {B sb i : Nat} {s : Snd} (h : SAt w B sb s) (hi : i < s.os.length) (q : Nat) (d : Nat × Nat) (hb : But (fun b => b = (oat s.os i).dg) w w')
    (hk : w'.heap[(oat s.os i).dg]? = some (.cells (flat2 (debtVals ((oat s.os i).ds.set q d))).toArray 125 (0, 0))) : SAt w' B sb (s.setD i q d) := by
  have hd := (h.debts i hi).2
  have hne : ∀ {B' n sz : Nat} {e : TypeId} {v : Value} {xs : List Value}, w.ownsRow B' e sz v n xs → e ≠ 125 → ∀ g, v.ownBlock = some g → ¬ g = (oat s.os i).dg := fun h' he g hg e => own_ne h' hg (by rw [← e] at hd; exact hd) he rfl
  refine ⟨h.low, ?_, ?_, fun j hj => ?_, fun j hj => ?_, fun j k hj hk' e => ?_⟩
  · refine (hb.block sb (lt_of_block h.blk) (fun e => ?_)).trans h.blk
    have := h.blk
    rw [e, hd] at this
    simp only [Option.some.injEq, Obj.cells.injEq] at this
    exact absurd this.2.1 (by decide)
  · rw [s.setD_len, s.setD_vals hi]
    exact hb.own h.own (hne h.own (by decide))
  · rw [s.setD_len] at hj
    have h1 : (oat (s.setD i q d).os j).bv = (oat s.os j).bv := by
      rw [s.setD_at hi]; split
      · rename_i e; subst e; rfl
      · rfl
    rw [h1, s.setD_l hi]
    exact hb.own (h.bytes j hj) (hne (h.bytes j hj) (by decide))
  · rw [s.setD_len] at hj
    rw [s.setD_at hi]
    split
    · rename_i e; subst e
      exact ⟨(h.debts i hi).1, hk⟩
    · rename_i e
      refine ⟨(h.debts j hj).1, (hb.block _ (lt_of_block (h.debts j hj).2) (fun q' => e (h.apart i j hi hj q'.symm))).trans (h.debts j hj).2⟩
  · rw [s.setD_len] at hj hk'
    have key : ∀ m, (oat (s.setD i q d).os m).dg = (oat s.os m).dg := fun m => by
      rw [s.setD_at hi]; split
      · rename_i e; subst e; rfl
      · rfl
    rw [key, key] at e
    exact h.apart j k hj hk' e

theorem debtVals_set (ds : List (Nat × Nat)) (q : Nat) (d : Nat × Nat) : debtVals (ds.set q d) = (debtVals ds).set q (.int .i64 (d.1 : Int), .int .i64 (d.2 : Int)) := by simp [debtVals, List.map_set]
theorem debtVals_some {ds : List (Nat × Nat)} {q : Nat} (hq : q < ds.length) : (debtVals ds)[q]? = some (.int .i64 ((dat ds q).1 : Int), .int .i64 ((dat ds q).2 : Int)) := by
  rw [debtVals, List.getElem?_map, dat_some hq]; rfl

theorem SAt.owed {w : World} {B sb i q : Nat} {s : Snd} (h : SAt w B sb s) (hi : i < s.os.length) (hq : q < (oat s.os i).ds.length) (x : Nat) :
    SAt (w.setCell ⟨(oat s.os i).dg, q * 2, none⟩ (.int .i64 (x : Int))) B sb (s.setD i q (x, (dat (oat s.os i).ds q).2)) ∧ But (fun b => b = (oat s.os i).dg) w (w.setCell ⟨(oat s.os i).dg, q * 2, none⟩ (.int .i64 (x : Int))) := by
  have hb := But.setCell (S := fun b => b = (oat s.os i).dg) (But.refl _ w) (p := ⟨(oat s.os i).dg, q * 2, none⟩) (.inl rfl) (.int .i64 (x : Int))
  refine ⟨h.debtSet hi q _ hb ?_, hb⟩
  rw [heap_setCell_same w _ (q * 2) _ _ _ (h.debts i hi).2, List.setIfInBounds_toArray, Nat.mul_comm q 2, flat2_set0 _ _ _ _ (debtVals_some hq), debtVals_set]
theorem SAt.turn {w : World} {B sb i q : Nat} {s : Snd} (h : SAt w B sb s) (hi : i < s.os.length) (hq : q < (oat s.os i).ds.length) (x : Nat) :
    SAt (w.setCell ⟨(oat s.os i).dg, q * 2 + 1, none⟩ (.int .i64 (x : Int))) B sb (s.setD i q ((dat (oat s.os i).ds q).1, x)) ∧ But (fun b => b = (oat s.os i).dg) w (w.setCell ⟨(oat s.os i).dg, q * 2 + 1, none⟩ (.int .i64 (x : Int))) := by
  have hb := But.setCell (S := fun b => b = (oat s.os i).dg) (But.refl _ w) (p := ⟨(oat s.os i).dg, q * 2 + 1, none⟩) (.inl rfl) (.int .i64 (x : Int))
  refine ⟨h.debtSet hi q _ hb ?_, hb⟩
  rw [heap_setCell_same w _ (q * 2 + 1) _ _ _ (h.debts i hi).2, List.setIfInBounds_toArray, Nat.mul_comm q 2, flat2_set1 _ _ _ _ (debtVals_some hq), debtVals_set]

theorem setD_setD {s : Snd} {i q : Nat} (hi : i < s.os.length) (d d' : Nat × Nat) : (s.setD i q d).setD i q d' = s.setD i q d' := by
  have h1 : oat (s.setD i q d).os i = (oat s.os i).setD q d := by rw [s.setD_at hi, if_pos rfl]
  show { s.setD i q d with os := (s.setD i q d).os.set i ((oat (s.setD i q d).os i).setD q d') } = _
  rw [h1]
  simp [Snd.setD, Ob.setD]
theorem dat_setD {s : Snd} {i q : Nat} (hi : i < s.os.length) (hq : q < (oat s.os i).ds.length) (d : Nat × Nat) : dat (oat (s.setD i q d).os i).ds q = d := by
  rw [s.setD_at hi, if_pos rfl]
  simp [dat, Ob.setD, List.getD, hq]
theorem len_setD {s : Snd} {i q : Nat} (hi : i < s.os.length) (d : Nat × Nat) : (oat (s.setD i q d).os i).ds.length = (oat s.os i).ds.length := by
  rw [s.setD_at hi, if_pos rfl]
  simp [Ob.setD]
theorem dg_setD {s : Snd} {i q : Nat} (hi : i < s.os.length) (d : Nat × Nat) : (oat (s.setD i q d).os i).dg = (oat s.os i).dg := by
  rw [s.setD_at hi, if_pos rfl]; rfl

end Go.Proofs.YtjabhnhejbhgjaaGreatDoor
