/- Hands.back: what was lent comes back. -/
import Derived.Test.YtjabhnhejbhgjaaDoorLendInts
namespace Go.Proofs.YtjabhnhejbhgjaaDoor
open Go.RowKit

/-- h.rows: none, or the one list that was lent. -/
structure RowsIn (w : World) (B B2 : Nat) (v : Value) (rs : List Raw) (gs : List Nat) (k X lb lo : Nat) (al : Option Addr) (kr : Nat) : Prop where
  one : kr ≤ 1
  own : w.ownsRow B 31 1 v kr (List.replicate kr (.slice (some ⟨X, 0, none⟩) (k + 2) (k + 2)))
  list : 0 < kr → w.heap[X]? = some (.cells (lendCells rs gs k k) 33 (0, 0)) ∧ B ≤ X ∧ X < B2 ∧ lb < B ∧ (0 < k → al = some ⟨lb, lo, none⟩) ∧ ∀ i, i < k → w.cell? ⟨lb, lo + i, none⟩ = some (wat rs i).v

/-- h.ints, h.iwant: none, or the one list that was lent. -/
structure IntsIn (w : World) (B B2 : Nat) (vi vw : Value) (l : List Int) (n Z zb zo zc : Nat) (az : Option Addr) (ki : Nat) : Prop where
  one : ki ≤ 1
  ints : w.ownsRow B 32 1 vi ki (List.replicate ki (.slice (some ⟨Z, 0, none⟩) (n + 2) (n + 2)))
  want : w.ownsRow B 32 1 vw ki (List.replicate ki (.slice az n zc))
  blk : 0 < ki → ZBlk w Z (markedZ l) ∧ B ≤ Z ∧ Z < B2 ∧ l.length = n ∧ n ≤ 14073748835500 ∧ zb < B ∧ (0 < n → az = some ⟨zb, zo, none⟩) ∧ Zs w zb zo l

/-- The rows as their owner has them. -/
def Owned (w : World) (B : Nat) (rs : List Raw) (k : Nat) : Prop := ∀ i, i < k → RawIn w (wat rs i) ∧ (wat rs i).l.length ≤ 140737488355000 ∧ (0 < (wat rs i).l.length → ∀ g, (wat rs i).v.ownBlock = some g → g < B)

theorem Owned.but {w w' : World} {B : Nat} {rs : List Raw} {k : Nat} {S : Nat → Prop} (h : Owned w B rs k) (hb : But S w w') (hS : ∀ b, S b → B ≤ b) : Owned w' B rs k :=
  fun i hi => ⟨(h i hi).1.but hb (fun h0 g hg q => by have := hS g q; have := (h i hi).2.2 h0 g hg; omega), (h i hi).2⟩

theorem RowsIn.cell {w : World} {B B2 k X lb lo kr : Nat} {v : Value} {rs : List Raw} {gs : List Nat} {al : Option Addr} (h : RowsIn w B B2 v rs gs k X lb lo al kr) (hk : 0 < kr) :
    ∃ g c, v = .slice (some ⟨g, 0, none⟩) 1 c ∧ w.cell? ⟨g, 0, none⟩ = some (.slice (some ⟨X, 0, none⟩) (k + 2) (k + 2)) := by
  obtain rfl : kr = 1 := by have := h.one; omega
  obtain ⟨g, c, hv, _, _⟩ := h.own.form (by omega)
  refine ⟨g, c, hv, ?_⟩
  have := h.own.cells (g := g) (by rw [hv]; rfl) 0 _ rfl
  simpa [Addr.add] using this

theorem IntsIn.but {w w' : World} {B B2 n Z zb zo zc ki : Nat} {vi vw : Value} {l : List Int} {az : Option Addr} {S : Nat → Prop} (h : IntsIn w B B2 vi vw l n Z zb zo zc az ki) (hb : But S w w')
    (h1 : ∀ g, vi.ownBlock = some g → ¬ S g) (h2 : ∀ g, vw.ownBlock = some g → ¬ S g) (h3 : 0 < ki → ¬ S Z) (h4 : ∀ b, S b → B ≤ b) : IntsIn w' B B2 vi vw l n Z zb zo zc az ki :=
  ⟨h.one, hb.own h.ints h1, hb.own h.want h2, fun hk => by
    obtain ⟨q1, q2, q3, q4, q5, q6, q7, q8⟩ := h.blk hk
    exact ⟨q1.kept (hb.block Z q1.lt (h3 hk)), q2, q3, q4, q5, q6, q7, fun i hi => by
      rw [World.cell?_of_block (hb.block zb (q8.lt (by omega)) (fun q => by have := h4 zb q; omega))]
      exact q8 i hi⟩⟩

theorem own_len {w : World} {B n : Nat} {e : TypeId} {sz : Nat} {v : Value} {xs : List Value} (h : w.ownsRow B e sz v n xs) : ∃ a c, v = .slice a n c := by
  rcases h.2 with ⟨h1, h2⟩ | ⟨g, cap, cur, h1, _⟩
  · exact ⟨_, _, by rw [h1, h2]⟩
  · exact ⟨_, _, h1⟩

theorem own_cell {w : World} {B n sz : Nat} {e : TypeId} {v : Value} {xs : List Value} (h : w.ownsRow B e sz v n xs) {g : Nat} (hg : v.ownBlock = some g) {j : Nat} {u : Value} (hj : xs[j]? = some u) : w.cell? ⟨g, j, none⟩ = some u := by
  have h1 := h.cells hg j u hj
  have hadd : (⟨g, 0, none⟩ : Addr).add j = ⟨g, j, none⟩ := by unfold Addr.add; split <;> simp_all
  rw [hadd] at h1
  exact h1

theorem Tryd.nil_same (w : World) : (binOp .eql 33 (.slice none 0 0) (.slice none 0 0)).run Tryd.prog w = .ok (.bool true) w := by kernel_rfl

theorem Blk.bsN {w : World} {g : Nat} {l : List Gf.F} (h : Blk w g l) (n : Nat) : Bs w g 0 (l.take n) := by
  intro i hi
  have hi2 : i < l.length := by have : (l.take n).length ≤ l.length := by simp; omega
                                omega
  rw [h.bs i hi2]
  have : i < n := by simp at hi; omega
  simp [at_, List.getD, this]

theorem marked_take (l : List Gf.F) : (marked l).take l.length = l := by simp [marked]

set_option maxRecDepth 100000 in
set_option maxHeartbeats 4000000 in
theorem back_any (hb B B2 k kr ki X Z n lb lo lc zb zo zc : Nat) (al az : Option Addr) (s : HS) (rs : List Raw) (gs : List Nat) (l : List Int) (w : World) (hk : k ≤ 1048576) (hbB : hb < B) (hH : HAt w hb s)
    (hL : Lent w B s.in_ rs gs k) (hg2 : ∀ i, i < k → gat gs i < B2) (hO : Owned w B rs k) (hR : RowsIn w B B2 s.rows rs gs k X lb lo al kr) (hI : IntsIn w B B2 s.ints s.iwant l n Z zb zo zc az ki) :
    Calls Tryd.prog 28 #[.pointer (some ⟨hb, 0, none⟩), .slice al k lc] w fun e w' =>
      e = .returned (.bool true) ∧ HAt w' hb { s with in_ := .slice none 0 0, rows := .slice none 0 0, ints := .slice none 0 0, iwant := .slice none 0 0 } ∧ But (fun b => b = hb ∨ (B ≤ b ∧ b < B2)) w w' := by
  go_enter Tryd.func28, Tryd.ntmps28
  go_wp2_with fail
  go_loopw [5, 6] (fun t5 t6 wr => ∃ i : Nat, i ≤ kr ∧ t5 = .bool true ∧ t6 = .int .i64 (i : Int) ∧ (i = 0 → wr = w) ∧ But (fun b => b = X ∧ 0 < i) w wr) (fun _ t _ => kr - (intOf t).toNat)
  case atStart => exact ⟨0, by omega, rfl, rfl, fun _ => rfl, But.refl _ _⟩
  case round =>
    obtain ⟨i, hi, rfl, rfl, hw0, hbut⟩ := hrel
    by_cases hlt : i < kr
    · have hkr : kr = 1 := by have := hR.one; omega
      have hi0 : i = 0 := by omega
      subst hi0
      obtain rfl := (hw0 rfl).symm
      clear hw0
      obtain ⟨g, c, hv, hcg⟩ := hR.cell hlt
      obtain ⟨hX, hBX, hX2, hlb, hal, hcl⟩ := hR.list hlt
      have hc1 : w.cell? ⟨hb, 1, none⟩ = some (.slice (some ⟨g, 0, none⟩) 1 c) := by rw [hH.cell 1, ← hv]; rfl
      have hn0 : w.cell? ⟨X, k, none⟩ = some (.slice none 0 0) := by rw [cell_of_row w X k _ _ _ hX]; exact lendCells_rest rs gs k k k (by omega) (by omega)
      have hn1 : w.cell? ⟨X, k + 1, none⟩ = some (.slice none 0 0) := by rw [cell_of_row w X (k + 1) _ _ _ hX]; exact lendCells_rest rs gs k k (k + 1) (by omega) (by omega)
      have HX : Hid (w.heap[X]? = some (.cells (lendCells rs gs k k) 33 (0, 0))) := hX
      have HV : Hid (s.rows = .slice (some ⟨g, 0, none⟩) 1 c) := hv
      have HKR : Hid (kr = 1) := hkr
      clear hX hv hkr
      have hnil := Tryd.nil_same
      go_wp2_with fail
      go_loopw [5, 9] (fun t5 t9 wr => ∃ (j nq : Nat), j ≤ k ∧ t5 = .bool true ∧ t9 = .int .i64 (j : Int) ∧ wr = w.drewN nq) (fun _ t _ => k - (intOf t).toNat)
      case atStart => exact ⟨0, 0, by omega, rfl, rfl, rfl⟩
      case round =>
        obtain ⟨j, nq, hj, rfl, rfl, rfl⟩ := hrel
        by_cases hlt2 : j < k
        · obtain rfl := hal (by omega)
          have hx1 : w.cell? ⟨X, j, none⟩ = some (.slice (some ⟨gat gs j, 0, none⟩) (wat rs j).l.length ((wat rs j).l.length + 2)) := by rw [cell_of_row w X j _ _ _ HX.out]; exact lendCells_at rs gs k k j hlt2 hlt2
          have hx2 := hcl j hlt2
          have hv1 := fun nq => (((hL.blk j hlt2).bsN (wat rs j).l.length).convN (wat rs j).l.length ((wat rs j).l.length + 2) (by rw [marked_take]) nq)
          rw [marked_take] at hv1
          have hv2 := fun nq => (hO j hlt2).1.conv nq
          have hj1 : (j : Int) < (k : Int) := by omega
          have hj2 : (j : Int) < (k : Int) + 2 := by omega
          have hss : ((str (wat rs j).l).toList == (str (wat rs j).l).toList) = true := by rw [beq_iff_eq]
          go_wp2_with fail
          go_quiet (fail)
          go_wp2_with fail
          refine ⟨?_, by simp [intOf]; omega⟩
          (repeat apply Exists.intro)
          exact ⟨⟨j + 1, _, by omega, rfl, by go_num, rfl⟩, rfl⟩
        · obtain rfl : j = k := by omega
          go_wp2_with fail
          have hXs : Hid (∃ cs : Array Value, cs.size = j + 2 ∧ (w.drewN nq).heap[X]? = some (.cells cs 33 (0, 0))) := ⟨_, by simp [lendCells], HX.out⟩
          go_loopw [10] (fun t10 wr => ∃ (q : Nat), q ≤ j + 2 ∧ t10 = .int .i64 (q : Int) ∧ Hid (∃ cs : Array Value, cs.size = j + 2 ∧ wr.heap[X]? = some (.cells cs 33 (0, 0))) ∧ But (fun b => b = X) w wr) (fun t _ => j + 2 - (intOf t).toNat)
          case atStart => exact ⟨0, by omega, rfl, hXs, ⟨rfl, rfl, rfl, Nat.le_refl _, fun _ _ _ => rfl⟩⟩
          case round =>
            obtain ⟨q, hq, rfl, HXq, hbq⟩ := hrel
            by_cases hlt3 : q < j + 2
            · obtain ⟨cs, hcs, hXq⟩ := HXq.out
              have hcq : wr.cell? ⟨X, q, none⟩ = some cs[q] := by rw [cell_of_row wr X q _ _ _ hXq]; simp [hcs, hlt3]
              have hfq := frozen_of_row wr X q _ _ hXq
              have hq2 : (q : Int) < (j : Int) + 2 := by omega
              have HX6 : Hid (∃ cs : Array Value, cs.size = j + 2 ∧ (wr.setCell ⟨X, q, none⟩ (.slice none 0 0)).heap[X]? = some (.cells cs 33 (0, 0))) := ⟨_, by simpa using hcs, heap_setCell_same _ _ _ _ _ _ hXq⟩
              have hb6 := hbq.setCell (p := ⟨X, q, none⟩) (.inl rfl) (.slice none 0 0)
              clear hXq
              go_wp2_with fail
              exact ⟨⟨q + 1, by omega, by go_num, HX6, hb6⟩, by simp [intOf]; omega⟩
            · obtain rfl : q = j + 2 := by omega
              have hb7 : But (fun b => b = X ∧ 0 < 0 + 1) w wr := hbq.wide (fun b _ e => ⟨e, by omega⟩)
              go_wp2_with fail
              refine ⟨?_, by rw [HKR.out]; simp [intOf]⟩
              exact ⟨0 + 1, by rw [HKR.out]; exact Nat.le_refl _, rfl, by go_num, fun q => by omega, hb7⟩
    · obtain rfl : i = kr := by omega
      have hXt : 0 < i → w.heap[X]? = some (.cells (lendCells rs gs k k) 33 (0, 0)) ∧ B ≤ X ∧ X < B2 := fun q => ⟨(hR.list q).1, (hR.list q).2.1, (hR.list q).2.2.1⟩
      have HA : Hid (HAt wr hb s) := hH.kept (hbut.block hb hH.lt (fun q => by have := (hXt q.2).2.1; omega))
      have hLA : Lent wr B s.in_ rs gs k := hL.kept hbut (fun g hg q => own_ne hL.own hg (hXt q.2).1 (by decide) q.1) (fun j hj q => by
        have h1 := hL.blk j hj
        unfold Blk at h1
        rw [q.1, (hXt q.2).1] at h1
        simp only [Option.some.injEq, Obj.cells.injEq] at h1
        exact absurd h1.2.1 (by decide))
      have hOA : Owned wr B rs k := hO.but hbut (fun b q => by rw [q.1]; exact (hXt q.2).2.1)
      have hIA : IntsIn wr B B2 s.ints s.iwant l n Z zb zo zc az ki := hI.but hbut (fun g hg q => own_ne hI.ints hg (hXt q.2).1 (by decide) q.1) (fun g hg q => own_ne hI.want hg (hXt q.2).1 (by decide) q.1) (fun hk q => by
        have h1 := (hI.blk hk).1
        unfold ZBlk at h1
        rw [q.1, (hXt q.2).1] at h1
        simp only [Option.some.injEq, Obj.cells.injEq] at h1
        exact absurd h1.2.1 (by decide)) (fun b q => by rw [q.1]; exact (hXt q.2).2.1)
      have hbA : But (fun b => B ≤ b ∧ b < B2) w wr := hbut.wide (fun b _ q => by rw [q.1]; exact (hXt q.2).2)
      have hcr : wr.cell? ⟨hb, 1, none⟩ = some s.rows := HA.out.cell 1
      have hlenR : ∃ a c, s.rows = .slice a i c := by
        rcases hR.own.2 with ⟨h1, h2⟩ | ⟨g, cap, cur, h1, _⟩
        · exact ⟨_, _, by rw [h1, h2]⟩
        · exact ⟨_, _, h1⟩
      obtain ⟨ra, rc, hra⟩ := hlenR
      rw [hra] at hcr
      have HRA : Hid (s.rows = .slice ra i rc) := hra
      clear hra hbut hXt hw0 hlt
      generalize hWA : wr = wA at *
      clear hWA
      have hlow := hLA.low
      have HAP : Hid (∀ i j, i < k → j < k → gat gs i = gat gs j → i = j) := hLA.apart
      have hownA := hLA.own
      have HBA : Hid (∀ j, 0 ≤ j → j < k → Blk wA (gat gs j) (marked (wat rs j).l)) := fun j _ hj => hLA.blk j hj
      clear hLA hH hL hO hR hI
      go_wp2_with fail
      go_loopw [5, 11] (fun t5 t11 wr => ∃ (i : Nat), i ≤ k ∧ t5 = .bool true ∧ t11 = .int .i64 (i : Int) ∧ Hid (HAt wr hb s) ∧ wr.ownsRow B 106 2 s.in_ k (lentCells rs gs k) ∧ Hid (∀ j, i ≤ j → j < k → Blk wr (gat gs j) (marked (wat rs j).l)) ∧ Owned wr B rs k ∧ IntsIn wr B B2 s.ints s.iwant l n Z zb zo zc az ki ∧ But (fun b => B ≤ b ∧ b < B2) w wr) (fun _ t _ => k - (intOf t).toNat)
      case atStart => exact ⟨0, by omega, rfl, rfl, HA, hownA, HBA, hOA, hIA, hbA⟩
      case round =>
        clear HA hownA HBA hOA hIA hbA hcr
        obtain ⟨i4, hi4, rfl, rfl, HA, hownA, HBA, hOA, hIA, hbA⟩ := hrel
        have hci : wr.cell? ⟨hb, 0, none⟩ = some s.in_ := HA.out.cell 0
        by_cases hlt : i4 < k
        · obtain ⟨wB, rfl⟩ : ∃ x, x = wr := ⟨wr, rfl⟩
          obtain ⟨gi, ci, hvi, _, _⟩ := hownA.form (by omega)
          have hall : wB.cell? ⟨gi, i4 * 2, none⟩ = some (.slice (some ⟨gat gs i4, 0, none⟩) ((wat rs i4).l.length + 2) ((wat rs i4).l.length + 2)) := by
            exact own_cell hownA (by rw [hvi]; rfl) (lentCells_all rs gs k i4 hlt)
          have hwant : wB.cell? ⟨gi, i4 * 2 + 1, none⟩ = some (wat rs i4).v := by
            exact own_cell hownA (by rw [hvi]; rfl) (lentCells_want rs gs k i4 hlt)
          rw [hvi] at hci
          have HVI : Hid (s.in_ = .slice (some ⟨gi, 0, none⟩) k ci) := hvi
          clear hvi
          have hik : (i4 : Int) < (k : Int) := by omega
          obtain ⟨hraw, hml, _⟩ := hOA i4 hlt
          obtain ⟨m, hm⟩ : ∃ m, m = (wat rs i4).l.length := ⟨_, rfl⟩
          have hG := HBA.out i4 (Nat.le_refl _) hlt
          have hG2 := hG.bsN m
          rw [hm, marked_take] at hG2
          have hv1 := fun nq => hG2.convN m (m + 2) hm.symm nq
          have hv2 := fun nq => hraw.conv nq
          have hx0 : wB.cell? ⟨gat gs i4, m, none⟩ = some (.int .u8 165) := by
            have := hG.bs m (by simp [marked, hm])
            rw [Nat.zero_add] at this
            rw [this, hm]; simp [marked, at_, List.getD]
          have hx1 : wB.cell? ⟨gat gs i4, m + 1, none⟩ = some (.int .u8 165) := by
            have := hG.bs (m + 1) (by simp [marked, hm])
            rw [Nat.zero_add] at this
            rw [this, hm]; simp [marked, at_, List.getD]
          have hss : ((str (wat rs i4).l).toList == (str (wat rs i4).l).toList) = true := by rw [beq_iff_eq]
          rw [← hm] at hall hml
          have HML : Hid (m = (wat rs i4).l.length) := hm
          have HG : Hid (Blk wB (gat gs i4) (marked (wat rs i4).l)) := hG
          clear hm hG hG2 hraw
          go_wp2_with fail
          go_quiet (fail)
          go_wp2_with fail
          have hGs : Hid (∃ cs : Array Value, cs.size = m + 2 ∧ (wB.drewN nq).heap[gat gs i4]? = some (.cells cs 5 (0, 0))) := ⟨_, by simp [enc, marked, HML.out], HG.out⟩
          clear hv1 hv2 hx0 hx1 hall hwant hci hss
          go_loopw [14] (fun t14 wq => ∃ (q : Nat), q ≤ m + 2 ∧ t14 = .int .i64 (q : Int) ∧ Hid (∃ cs : Array Value, cs.size = m + 2 ∧ wq.heap[gat gs i4]? = some (.cells cs 5 (0, 0))) ∧ But (fun b => b = gat gs i4) wB wq) (fun t _ => m + 2 - (intOf t).toNat)
          case atStart => exact ⟨0, by omega, rfl, hGs, ⟨rfl, rfl, rfl, Nat.le_refl _, fun _ _ _ => rfl⟩⟩
          case round =>
            clear hGs
            obtain ⟨q, hq, rfl, HXq, hbq⟩ := hrel
            by_cases hlt3 : q < m + 2
            · obtain ⟨cs, hcs, hXq⟩ := HXq.out
              have hcq : wr.cell? ⟨gat gs i4, q, none⟩ = some cs[q] := by rw [cell_of_row wr _ q _ _ _ hXq]; simp [hcs, hlt3]
              have hfq := frozen_of_row wr _ q _ _ hXq
              have hq2 : (q : Int) < (m : Int) + 2 := by omega
              have HX6 : Hid (∃ cs : Array Value, cs.size = m + 2 ∧ (wr.setCell ⟨gat gs i4, q, none⟩ (.int .u8 90)).heap[gat gs i4]? = some (.cells cs 5 (0, 0))) := ⟨_, by simpa using hcs, heap_setCell_same _ _ _ _ _ _ hXq⟩
              have hb6 := hbq.setCell (p := ⟨gat gs i4, q, none⟩) (.inl rfl) (.int .u8 90)
              clear hXq
              go_wp2_with fail
              exact ⟨⟨q + 1, by omega, by go_num, HX6, hb6⟩, by simp [intOf]; omega⟩
            · obtain rfl : q = m + 2 := by omega
              have hlo := hlow i4 hlt
              have hh2 := hg2 i4 hlt
              have HA5 : Hid (HAt wr hb s) := HA.out.kept (hbq.block hb HA.out.lt (fun q => by omega))
              have hown5 := hbq.own hownA (fun g hg q => own_ne hownA hg HG.out (by decide) q)
              have HB5 : Hid (∀ j, i4 + 1 ≤ j → j < k → Blk wr (gat gs j) (marked (wat rs j).l)) := fun j h1 h2 => (HBA.out j (by omega) h2).kept (hbq.block _ (HBA.out j (by omega) h2).lt (fun q => by have := HAP.out j i4 h2 hlt q; omega))
              have hO5 := hOA.but hbq (fun b q => by rw [q]; exact hlo)
              have hI5 := hIA.but hbq (fun g hg q => own_ne hIA.ints hg HG.out (by decide) q) (fun g hg q => own_ne hIA.want hg HG.out (by decide) q) (fun hk q => by
                have h1 := (hIA.blk hk).1
                have h2 := HG.out
                unfold ZBlk at h1
                unfold Blk at h2
                rw [q, h2] at h1
                simp only [Option.some.injEq, Obj.cells.injEq] at h1
                exact absurd h1.2.1 (by decide)) (fun b q => by rw [q]; exact hlo)
              have hb5 := hbA.then hbq (fun b _ q => by rw [q]; exact ⟨hlo, hh2⟩)
              clear HA hownA HBA hOA hIA hbA hbq HXq
              go_wp2_with fail
              refine ⟨?_, by simp [intOf]; omega⟩
              first
                | exact ⟨i4 + 1, by omega, rfl, by go_num, HA5, hown5, HB5, hO5, hI5, hb5⟩
                | ((repeat apply Exists.intro); exact ⟨⟨i4 + 1, by omega, rfl, by go_num, HA5, hown5, HB5, hO5, hI5, hb5⟩, rfl⟩)
        · obtain rfl : i4 = k := by omega
          obtain ⟨wC, rfl⟩ : ∃ x, x = wr := ⟨wr, rfl⟩
          obtain ⟨ia, ic, hia⟩ := own_len hownA
          rw [hia] at hci
          have HIA : Hid (s.in_ = .slice ia i4 ic) := hia
          clear hia
          go_wp2_with fail
          go_loopw [5, 15] (fun t5 t15 wr => ∃ i : Nat, i ≤ ki ∧ t5 = .bool true ∧ t15 = .int .i64 (i : Int) ∧ (i = 0 → wr = wC) ∧ But (fun b => b = Z ∧ 0 < i) wC wr) (fun _ t _ => ki - (intOf t).toNat)
          case atStart => exact ⟨0, by omega, rfl, rfl, fun _ => rfl, But.refl _ _⟩
          case round =>
            obtain ⟨i6, hi6, rfl, rfl, hw0, hbut⟩ := hrel
            by_cases hlt6 : i6 < ki
            · have hki : ki = 1 := by have := hIA.one; omega
              have hi0 : i6 = 0 := by omega
              subst hi0
              obtain rfl := (hw0 rfl).symm
              clear hw0
              obtain ⟨hZb, hBZ, hZ2, hzl, hnn, hzb, haz, hZs⟩ := hIA.blk hlt6
              have hints := hIA.ints
              have hwants := hIA.want
              rw [hki] at hints hwants
              obtain ⟨gi, ci, hvi, _, _⟩ := hints.form (by omega)
              obtain ⟨gw, cw, hvw, _, _⟩ := hwants.form (by omega)
              have hc2 : wC.cell? ⟨hb, 2, none⟩ = some (.slice (some ⟨gi, 0, none⟩) 1 ci) := by rw [HA.out.cell 2, ← hvi]; rfl
              have hc3 : wC.cell? ⟨hb, 3, none⟩ = some (.slice (some ⟨gw, 0, none⟩) 1 cw) := by rw [HA.out.cell 3, ← hvw]; rfl
              have hcg : wC.cell? ⟨gi, 0, none⟩ = some (.slice (some ⟨Z, 0, none⟩) (n + 2) (n + 2)) := own_cell hints (by rw [hvi]; rfl) rfl
              have hcw : wC.cell? ⟨gw, 0, none⟩ = some (.slice az n zc) := own_cell hwants (by rw [hvw]; rfl) rfl
              have hn0 : wC.cell? ⟨Z, n, none⟩ = some (.int .i64 (-7)) := by
                have := hZb.zs n (by simp [markedZ, hzl])
                rw [Nat.zero_add] at this
                rw [this]; simp [markedZ, zat, List.getD, ← hzl]
              have hn1 : wC.cell? ⟨Z, n + 1, none⟩ = some (.int .i64 (-7)) := by
                have := hZb.zs (n + 1) (by simp [markedZ, hzl])
                rw [Nat.zero_add] at this
                rw [this]; simp [markedZ, zat, List.getD, ← hzl]
              have HKI : Hid (ki = 1) := hki
              have HVI : Hid (s.ints = .slice (some ⟨gi, 0, none⟩) 1 ci) := hvi
              have HZL : Hid (l.length = n) := hzl
              have HZB : Hid (ZBlk wC Z (markedZ l)) := hZb
              clear hki hvi hvw hzl hZb hints hwants hci
              go_wp2_with fail
              go_loopw [5, 18] (fun t5 t18 wr => ∃ (j nq : Nat), j ≤ n ∧ t5 = .bool true ∧ t18 = .int .i64 (j : Int) ∧ wr = wC.drewN nq) (fun _ t _ => n - (intOf t).toNat)
              case atStart => exact ⟨0, 0, by omega, rfl, rfl, rfl⟩
              case round =>
                obtain ⟨j, nq, hj, rfl, rfl, rfl⟩ := hrel
                by_cases hlt7 : j < n
                · obtain rfl := haz (by omega)
                  have hx1 : wC.cell? ⟨Z, j, none⟩ = some (.int .i64 (zat l j)) := by
                    have := HZB.out.zs j (by simp [markedZ, HZL.out]; omega)
                    rw [Nat.zero_add] at this
                    have hjl : j < l.length := by rw [HZL.out]; exact hlt7
                    rw [this]; simp [markedZ, zat, List.getD, List.getElem?_append_left hjl]
                  have hx2 := hZs j (by rw [HZL.out]; exact hlt7)
                  have hj1 : (j : Int) < (n : Int) := by omega
                  have hj2 : (j : Int) < (n : Int) + 2 := by omega
                  have hss : (zat l j == zat l j) = true := by rw [beq_iff_eq]
                  go_wp2_with fail
                  go_quiet (fail)
                  go_wp2_with fail
                  refine ⟨?_, by simp [intOf]; omega⟩
                  first
                    | exact ⟨j + 1, _, by omega, rfl, by go_num, rfl⟩
                    | ((repeat apply Exists.intro); exact ⟨⟨j + 1, _, by omega, rfl, by go_num, rfl⟩, rfl⟩)
                · obtain rfl : j = n := by omega
                  go_wp2_with fail
                  have hXs : Hid (∃ cs : Array Value, cs.size = j + 2 ∧ (wC.drewN nq).heap[Z]? = some (.cells cs 3 (0, 0))) := ⟨_, by simp [encZ, markedZ, HZL.out], HZB.out⟩
                  go_loopw [19] (fun t19 wr => ∃ (q : Nat), q ≤ j + 2 ∧ t19 = .int .i64 (q : Int) ∧ Hid (∃ cs : Array Value, cs.size = j + 2 ∧ wr.heap[Z]? = some (.cells cs 3 (0, 0))) ∧ But (fun b => b = Z) wC wr) (fun t _ => j + 2 - (intOf t).toNat)
                  case atStart => exact ⟨0, by omega, rfl, hXs, ⟨rfl, rfl, rfl, Nat.le_refl _, fun _ _ _ => rfl⟩⟩
                  case round =>
                    obtain ⟨q, hq, rfl, HXq, hbq⟩ := hrel
                    by_cases hlt8 : q < j + 2
                    · obtain ⟨cs, hcs, hXq⟩ := HXq.out
                      have hcq : wr.cell? ⟨Z, q, none⟩ = some cs[q] := by rw [cell_of_row wr Z q _ _ _ hXq]; simp [hcs, hlt8]
                      have hfq := frozen_of_row wr Z q _ _ hXq
                      have hq2 : (q : Int) < (j : Int) + 2 := by omega
                      have HX6 : Hid (∃ cs : Array Value, cs.size = j + 2 ∧ (wr.setCell ⟨Z, q, none⟩ (.int .i64 3)).heap[Z]? = some (.cells cs 3 (0, 0))) := ⟨_, by simpa using hcs, heap_setCell_same _ _ _ _ _ _ hXq⟩
                      have hb6 := hbq.setCell (p := ⟨Z, q, none⟩) (.inl rfl) (.int .i64 3)
                      clear hXq
                      go_wp2_with fail
                      exact ⟨⟨q + 1, by omega, by go_num, HX6, hb6⟩, by simp [intOf]; omega⟩
                    · obtain rfl : q = j + 2 := by omega
                      have hb7 : But (fun b => b = Z ∧ 0 < 0 + 1) wC wr := hbq.wide (fun b _ e => ⟨e, by omega⟩)
                      go_wp2_with fail
                      refine ⟨?_, by rw [HKI.out]; simp [intOf]⟩
                      exact ⟨0 + 1, by rw [HKI.out]; exact Nat.le_refl _, rfl, by go_num, fun q => by omega, hb7⟩
            · obtain rfl : i6 = ki := by omega
              have hZt : 0 < i6 → B ≤ Z ∧ Z < B2 := fun q => ⟨(hIA.blk q).2.1, (hIA.blk q).2.2.1⟩
              have HAE : Hid (HAt wr hb s) := HA.out.kept (hbut.block hb HA.out.lt (fun q => by have := (hZt q.2).1; omega))
              have hbE : But (fun b => b = hb ∨ (B ≤ b ∧ b < B2)) w wr := (hbA.wide (fun b _ q => .inr q)).then hbut (fun b _ q => .inr (by rw [q.1]; exact hZt q.2))
              obtain ⟨za, zc2, hza⟩ := own_len hIA.ints
              have hcz : wr.cell? ⟨hb, 2, none⟩ = some (.slice za i6 zc2) := by rw [HAE.out.cell 2, ← hza]; rfl
              have hq0 : wr.cell? ⟨hb, 0, none⟩ = some s.in_ := HAE.out.cell 0
              have hq1 : wr.cell? ⟨hb, 1, none⟩ = some s.rows := HAE.out.cell 1
              have hq3 : wr.cell? ⟨hb, 3, none⟩ = some s.iwant := HAE.out.cell 3
              have hfz := HAE.out.frozen
              clear hza hbut hZt hw0 hbA
              go_wp2_with fail
              go_ret
              exact ⟨rfl, (((HAE.out.set0 _).set1 _).set2 _).set3 _, (((hbE.setCell (.inl (.inl rfl)) _).setCell (.inl (.inl rfl)) _).setCell (.inl (.inl rfl)) _).setCell (.inl (.inl rfl)) _⟩

end Go.Proofs.YtjabhnhejbhgjaaDoor
