/- murmurref: data. (Written by gen_rdata.py.) -/
import Derived.Test.YtjabhnhejbhgjaaDoorMany7
import Derived.Test.YtjabhnhejbhgjaaDoorWireParse
import Derived.Test.YtjabhnhejbhgjaaDoorMany1
import Derived.Deep.DeepCutAuto
namespace Go.Proofs.YtjabhnhejbhgjaaDoor
open Go.RowKit

theorem put2 (W : World) (re : Nat) (t : TypeId) (y0 y1 u0 u1 : Value) (h : W.heap[re]? = some (.cells #[y0, y1] t (0, 0))) :
    ((W.setCell ⟨re, 0, none⟩ u0).setCell ⟨re, 1, none⟩ u1).heap[re]? = some (.cells #[u0, u1] t (0, 0)) ∧ But (fun g => g = re) W ((W.setCell ⟨re, 0, none⟩ u0).setCell ⟨re, 1, none⟩ u1) := by
  have h0 : (W.setCell ⟨re, 0, none⟩ u0).heap[re]? = some (.cells #[u0, y1] t (0, 0)) := heap_setCell_same _ re 0 _ _ u0 h
  have h1 : ((W.setCell ⟨re, 0, none⟩ u0).setCell ⟨re, 1, none⟩ u1).heap[re]? = some (.cells #[u0, u1] t (0, 0)) := heap_setCell_same _ re 1 _ _ u1 h0
  have b0 := But.setCell (S := fun g => g = re) (But.refl _ W) (p := ⟨re, 0, none⟩) (.inl rfl) u0
  exact ⟨h1, But.setCell b0 (p := ⟨re, 1, none⟩) (.inl rfl) u1⟩
theorem put9 (W : World) (rp re : Nat) (x0 x1 x2 x3 x4 x5 x6 y0 y1 v0 v1 v2 v3 v4 v5 v6 u0 u1 : Value) (h : W.heap[rp]? = some (.cells #[x0, x1, x2, x3, x4, x5, x6] 57 (0, 0))) (he : W.heap[re]? = some (.cells #[y0, y1] 74 (0, 0))) (hne : rp ≠ re) :
    (((((((((W.setCell ⟨rp, 0, none⟩ v0).setCell ⟨rp, 1, none⟩ v1).setCell ⟨rp, 2, none⟩ v2).setCell ⟨rp, 3, none⟩ v3).setCell ⟨rp, 4, none⟩ v4).setCell ⟨rp, 5, none⟩ v5).setCell ⟨rp, 6, none⟩ v6).setCell ⟨re, 0, none⟩ u0).setCell ⟨re, 1, none⟩ u1).heap[rp]? = some (.cells #[v0, v1, v2, v3, v4, v5, v6] 57 (0, 0)) ∧ (((((((((W.setCell ⟨rp, 0, none⟩ v0).setCell ⟨rp, 1, none⟩ v1).setCell ⟨rp, 2, none⟩ v2).setCell ⟨rp, 3, none⟩ v3).setCell ⟨rp, 4, none⟩ v4).setCell ⟨rp, 5, none⟩ v5).setCell ⟨rp, 6, none⟩ v6).setCell ⟨re, 0, none⟩ u0).setCell ⟨re, 1, none⟩ u1).heap[re]? = some (.cells #[u0, u1] 74 (0, 0)) ∧ But (fun g => g = rp ∨ g = re) W (((((((((W.setCell ⟨rp, 0, none⟩ v0).setCell ⟨rp, 1, none⟩ v1).setCell ⟨rp, 2, none⟩ v2).setCell ⟨rp, 3, none⟩ v3).setCell ⟨rp, 4, none⟩ v4).setCell ⟨rp, 5, none⟩ v5).setCell ⟨rp, 6, none⟩ v6).setCell ⟨re, 0, none⟩ u0).setCell ⟨re, 1, none⟩ u1) := by
  obtain ⟨h7, b7⟩ := put7 W rp x0 x1 x2 x3 x4 x5 x6 v0 v1 v2 v3 v4 v5 v6 h
  generalize (((((((W.setCell ⟨rp, 0, none⟩ v0).setCell ⟨rp, 1, none⟩ v1).setCell ⟨rp, 2, none⟩ v2).setCell ⟨rp, 3, none⟩ v3).setCell ⟨rp, 4, none⟩ v4).setCell ⟨rp, 5, none⟩ v5).setCell ⟨rp, 6, none⟩ v6) = W1 at *
  have he1 : W1.heap[re]? = some (.cells #[y0, y1] 74 (0, 0)) := by rw [b7.block _ (lt_of_block he) (Ne.symm hne)]; exact he
  obtain ⟨h2, b2⟩ := put2 W1 re _ y0 y1 u0 u1 he1
  exact ⟨by rw [b2.block _ (lt_of_block h7) hne]; exact h7, h2, (b7.wide (fun _ _ q => .inl q)).trans (b2.wide (fun _ _ q => .inr q))⟩
theorem put9b (W : World) (rp re : Nat) (x0 x1 x2 x3 x4 x5 x6 y0 y1 v0 v1 v2 v3 v4 v5 v6 u0 u1 : Value) (h : W.heap[rp]? = some (.cells #[x0, x1, x2, x3, x4, x5, x6] 57 (0, 0))) (he : W.heap[re]? = some (.cells #[y0, y1] 74 (0, 0))) (hne : rp ≠ re) :
    (((((((((W.setCell ⟨re, 0, none⟩ u0).setCell ⟨re, 1, none⟩ u1).setCell ⟨rp, 0, none⟩ v0).setCell ⟨rp, 1, none⟩ v1).setCell ⟨rp, 2, none⟩ v2).setCell ⟨rp, 3, none⟩ v3).setCell ⟨rp, 4, none⟩ v4).setCell ⟨rp, 5, none⟩ v5).setCell ⟨rp, 6, none⟩ v6).heap[rp]? = some (.cells #[v0, v1, v2, v3, v4, v5, v6] 57 (0, 0)) ∧ (((((((((W.setCell ⟨re, 0, none⟩ u0).setCell ⟨re, 1, none⟩ u1).setCell ⟨rp, 0, none⟩ v0).setCell ⟨rp, 1, none⟩ v1).setCell ⟨rp, 2, none⟩ v2).setCell ⟨rp, 3, none⟩ v3).setCell ⟨rp, 4, none⟩ v4).setCell ⟨rp, 5, none⟩ v5).setCell ⟨rp, 6, none⟩ v6).heap[re]? = some (.cells #[u0, u1] 74 (0, 0)) ∧ But (fun g => g = rp ∨ g = re) W (((((((((W.setCell ⟨re, 0, none⟩ u0).setCell ⟨re, 1, none⟩ u1).setCell ⟨rp, 0, none⟩ v0).setCell ⟨rp, 1, none⟩ v1).setCell ⟨rp, 2, none⟩ v2).setCell ⟨rp, 3, none⟩ v3).setCell ⟨rp, 4, none⟩ v4).setCell ⟨rp, 5, none⟩ v5).setCell ⟨rp, 6, none⟩ v6) := by
  obtain ⟨h2, b2⟩ := put2 W re _ y0 y1 u0 u1 he
  generalize (W.setCell ⟨re, 0, none⟩ u0).setCell ⟨re, 1, none⟩ u1 = W1 at *
  have h1 : W1.heap[rp]? = some (.cells #[x0, x1, x2, x3, x4, x5, x6] 57 (0, 0)) := by rw [b2.block _ (lt_of_block h) hne]; exact h
  obtain ⟨h7, b7⟩ := put7 W1 rp x0 x1 x2 x3 x4 x5 x6 v0 v1 v2 v3 v4 v5 v6 h1
  exact ⟨h7, by rw [b7.block _ (lt_of_block h2) (Ne.symm hne)]; exact h2, (b2.wide (fun _ _ q => .inr q)).trans (b7.wide (fun _ _ q => .inl q))⟩

/-- In the middle of data, or asks: the configuration's block, the packet's, the results'. -/
structure RSt (w W : World) (K N S : Nat) (y0 y1 y2 y3 y4 y5 y6 : Value) : Prop where
  low : Below w.heap.size w W
  cfg : W.heap[w.heap.size]? = some (.cells #[.int .i64 (K : Int), .int .i64 (N : Int), .int .i64 (S : Int)] 54 (0, 0))
  pk : W.heap[w.heap.size + 1]? = some (.cells #[y0, y1, y2, y3, y4, y5, y6] 57 (0, 0))
  res : W.heap[w.heap.size + 2]? = some (.cells #[.int .i64 0, .int .i64 0, .int .i64 0, .int .i64 0, .int .i64 0, .slice none 0 0, .slice none 0 0] 57 (0, 0))
  err : W.heap[w.heap.size + 3]? = some (.cells #[.int .i64 0, .int .i64 0] 74 (0, 0))
theorem RSt.start (w : World) (K N S : Nat) (y0 y1 y2 y3 y4 y5 y6 : Value) : RSt w ((((w.alloc (.cells #[.int .i64 (K : Int), .int .i64 (N : Int), .int .i64 (S : Int)] 54)).alloc (.cells #[y0, y1, y2, y3, y4, y5, y6] 57)).alloc (.cells #[.int .i64 0, .int .i64 0, .int .i64 0, .int .i64 0, .int .i64 0, .slice none 0 0, .slice none 0 0] 57)).alloc (.cells #[.int .i64 0, .int .i64 0] 74)) K N S y0 y1 y2 y3 y4 y5 y6 := by
  have e1 := heap_alloc_new (w.alloc (.cells #[.int .i64 (K : Int), .int .i64 (N : Int), .int .i64 (S : Int)] 54)) (.cells #[y0, y1, y2, y3, y4, y5, y6] 57)
  have e2 := heap_alloc_new ((w.alloc (.cells #[.int .i64 (K : Int), .int .i64 (N : Int), .int .i64 (S : Int)] 54)).alloc (.cells #[y0, y1, y2, y3, y4, y5, y6] 57)) (.cells #[.int .i64 0, .int .i64 0, .int .i64 0, .int .i64 0, .int .i64 0, .slice none 0 0, .slice none 0 0] 57)
  have e3 := heap_alloc_new (((w.alloc (.cells #[.int .i64 (K : Int), .int .i64 (N : Int), .int .i64 (S : Int)] 54)).alloc (.cells #[y0, y1, y2, y3, y4, y5, y6] 57)).alloc (.cells #[.int .i64 0, .int .i64 0, .int .i64 0, .int .i64 0, .int .i64 0, .slice none 0 0, .slice none 0 0] 57)) (.cells #[.int .i64 0, .int .i64 0] 74)
  rw [World.size_alloc] at e1
  rw [World.size_alloc, World.size_alloc] at e2
  rw [World.size_alloc, World.size_alloc, World.size_alloc] at e3
  refine ⟨((((Below.refl _ _).alloc (Nat.le_refl _) _).alloc (by simp) _).alloc (by simp; omega) _).alloc (by simp; omega) _, ?_, ?_, ?_, e3⟩
  · rw [Below.heap_alloc _ _ _ (by simp <;> omega), Below.heap_alloc _ _ _ (by simp <;> omega), Below.heap_alloc _ _ _ (by simp)]; exact heap_alloc_new w _
  · rw [Below.heap_alloc _ _ _ (by simp <;> omega), Below.heap_alloc _ _ _ (by simp)]; exact e1
  · rw [Below.heap_alloc _ _ _ (by simp)]; exact e2
theorem RSt.above {w W W' : World} {K N S : Nat} {y0 y1 y2 y3 y4 y5 y6 : Value} (h : RSt w W K N S y0 y1 y2 y3 y4 y5 y6) (hb : Below (w.heap.size + 4) W W') : RSt w W' K N S y0 y1 y2 y3 y4 y5 y6 :=
  ⟨h.low.trans (hb.mono (by omega)), by rw [hb.block _ (by omega)]; exact h.cfg, by rw [hb.block _ (by omega)]; exact h.pk, by rw [hb.block _ (by omega)]; exact h.res, by rw [hb.block _ (by omega)]; exact h.err⟩
theorem RSt.lt {w W : World} {K N S : Nat} {y0 y1 y2 y3 y4 y5 y6 : Value} (h : RSt w W K N S y0 y1 y2 y3 y4 y5 y6) : w.heap.size + 4 ≤ W.heap.size := by have := lt_of_block h.err; omega
theorem RSt.turn {w W W' : World} {K N S : Nat} {y0 y1 y2 y3 y4 y5 y6 z0 z1 z2 z3 z4 z5 z6 : Value} (h : RSt w W K N S y0 y1 y2 y3 y4 y5 y6) (hb : But (fun g => g = w.heap.size + 1) W W') (hp : W'.heap[w.heap.size + 1]? = some (.cells #[z0, z1, z2, z3, z4, z5, z6] 57 (0, 0))) : RSt w W' K N S z0 z1 z2 z3 z4 z5 z6 :=
  ⟨h.low.trans (hb.toBelow (by have := h.low.size; omega) (fun k hk q => by omega)), by rw [hb.block _ (lt_of_block h.cfg) (by omega)]; exact h.cfg, hp, by rw [hb.block _ (lt_of_block h.res) (by omega)]; exact h.res, by rw [hb.block _ (lt_of_block h.err) (by omega)]; exact h.err⟩
theorem RSt.cfgs {w W : World} {K N S : Nat} {y0 y1 y2 y3 y4 y5 y6 : Value} (h : RSt w W K N S y0 y1 y2 y3 y4 y5 y6) : W.cell? ⟨w.heap.size, 0, none⟩ = some (.int .i64 (K : Int)) ∧ W.cell? ⟨w.heap.size, 1, none⟩ = some (.int .i64 (N : Int)) ∧ W.cell? ⟨w.heap.size, 2, none⟩ = some (.int .i64 (S : Int)) :=
  ⟨cell_of_row W _ 0 _ _ _ h.cfg, cell_of_row W _ 1 _ _ _ h.cfg, cell_of_row W _ 2 _ _ _ h.cfg⟩

section
variable {K N S T : Nat} {m : List Gf.F}
theorem dataB_0 (h1 : ¬ m.length < 1) (h : winB (bt m 0 : Int) 0 ((partsN T K : Int) - 1) = false) : dataB K N S T m = some (6, 0) := by unfold dataB; rw [if_neg h1, if_pos h]
theorem dataB_1 (h1 : ¬ m.length < 1) (h : winB (bt m 0 : Int) 0 ((partsN T K : Int) - 1) = true) (h2 : m.length < 2) : dataB K N S T m = some (4, m.length) := by unfold dataB; rw [if_neg h1, if_neg (by rw [h]; decide), if_pos h2]
theorem dataB_2 (h1 : ¬ m.length < 1) (h : winB (bt m 0 : Int) 0 ((partsN T K : Int) - 1) = true) (h2 : ¬ m.length < 2) (h3 : plcN K N T (bt m 0) (bt m 1) = false) : dataB K N S T m = some (6, 1) := by unfold dataB; rw [if_neg h1, if_neg (by rw [h]; decide), if_neg h2, if_pos h3]
theorem dataB_3 (h1 : ¬ m.length < 1) (h : winB (bt m 0 : Int) 0 ((partsN T K : Int) - 1) = true) (h2 : ¬ m.length < 2) (h3 : plcN K N T (bt m 0) (bt m 1) = true) (h4 : m.length < 2 + S) : dataB K N S T m = some (4, m.length) := by unfold dataB; rw [if_neg h1, if_neg (by rw [h]; decide), if_neg h2, if_neg (by rw [h3]; decide), if_pos h4]
theorem dataB_4 (h1 : ¬ m.length < 1) (h : winB (bt m 0 : Int) 0 ((partsN T K : Int) - 1) = true) (h2 : ¬ m.length < 2) (h3 : plcN K N T (bt m 0) (bt m 1) = true) (h4 : ¬ m.length < 2 + S) (h5 : 2 + S < m.length) : dataB K N S T m = some (7, 2 + S) := by unfold dataB; rw [if_neg h1, if_neg (by rw [h]; decide), if_neg h2, if_neg (by rw [h3]; decide), if_neg h4, if_pos h5]
theorem dataB_5 (h1 : ¬ m.length < 1) (h : winB (bt m 0 : Int) 0 ((partsN T K : Int) - 1) = true) (h2 : ¬ m.length < 2) (h3 : plcN K N T (bt m 0) (bt m 1) = true) (h4 : ¬ m.length < 2 + S) (h5 : ¬ 2 + S < m.length) : dataB K N S T m = none := by unfold dataB; rw [if_neg h1, if_neg (by rw [h]; decide), if_neg h2, if_neg (by rw [h3]; decide), if_neg h4, if_neg h5]
end

def RDGives (K N S T : Nat) (l : List Gf.F) (x0 x1 L : Nat) (w : World) (e : Ending) (w' : World) : Prop :=
  (match dataB K N S T (l.drop 4) with
  | some (c, k) => e = .returned (.tuple #[.agg #[.int .i64 0, .int .i64 0, .int .i64 0, .int .i64 0, .int .i64 0, .slice none 0 0, .slice none 0 0], .agg #[.int .i64 (c : Int), .int .i64 ((k + 4 : Nat) : Int)]])
  | none => ∃ a c1, e = .returned (.tuple #[.agg #[.int .i64 (x0 : Int), .int .i64 (x1 : Int), .int .i64 (L : Int), .int .i64 (bt (l.drop 4) 0 : Int), .int .i64 (bt (l.drop 4) 1 : Int), .slice a S c1, .slice none 0 0], .agg #[.int .i64 0, .int .i64 (-1)]]) ∧ w'.ownsRow w.heap.size 5 1 (.slice a S c1) S (encL ((l.drop 4).drop 2))) ∧ Below w.heap.size w w'
theorem RDGives.bad {K N S T x0 x1 L c k : Nat} {kk : Int} {l : List Gf.F} {w w' : World} (h : dataB K N S T (l.drop 4) = some (c, k)) (hk : kk = ((k + 4 : Nat) : Int)) (hb : Below w.heap.size w w') :
    RDGives K N S T l x0 x1 L w (.returned (.tuple #[.agg #[.int .i64 0, .int .i64 0, .int .i64 0, .int .i64 0, .int .i64 0, .slice none 0 0, .slice none 0 0], .agg #[.int .i64 (c : Int), .int .i64 kk]])) w' := by
  unfold RDGives
  rw [h, hk]
  exact ⟨rfl, hb⟩

set_option maxRecDepth 100000 in
set_option maxHeartbeats 4000000 in
theorem rdata_any (b o n c K N S L T x0 x1 : Nat) (l : List Gf.F) (w : World) (hcfg : Cfg K N S) (hL : L ≤ 65535) (hTe : T = symN S L) (hl : l.length = n) (hn : n ≤ c) (hn2 : n ≤ 140737488355328) (hn5 : 5 ≤ n) (hB : Bs w b o l) (hbl : b < w.heap.size) :
    Calls Tryd.prog 61 #[.agg #[.int .i64 (K : Int), .int .i64 (N : Int), .int .i64 (S : Int)], .slice (some ⟨b, o, none⟩) n c, .agg #[.int .i64 (x0 : Int), .int .i64 (x1 : Int), .int .i64 (L : Int), .int .i64 0, .int .i64 0, .slice none 0 0, .slice none 0 0]] w (RDGives K N S T l x0 x1 L w) := by
  have HCF : Hid (Cfg K N S) := hcfg
  have hs8 := hcfg.s8
  have hs1 := hcfg.s1
  have HK1 : Hid (1 ≤ K) := hcfg.k1
  have HKN : Hid (K ≤ N) := hcfg.kn
  clear hcfg
  have hm : (l.drop 4).length = n - 4 := by simp [hl]
  have hb40 : bt l 4 = bt (l.drop 4) 0 := by simp [bt, at_, List.getD]
  have hb41 : bt l 5 = bt (l.drop 4) 1 := by simp [bt, at_, List.getD]
  obtain ⟨P4, hP4⟩ : ∃ P4, P4 = bt (l.drop 4) 0 := ⟨_, rfl⟩
  obtain ⟨P5, hP5⟩ : ∃ P5, P5 = bt (l.drop 4) 1 := ⟨_, rfl⟩
  have h256 := bt_lt (l.drop 4) 0
  have h256b := bt_lt (l.drop 4) 1
  rw [← hP4] at h256
  rw [← hP5] at h256b
  have HP4 : Hid (P4 = bt (l.drop 4) 0) := hP4
  have HP5 : Hid (P5 = bt (l.drop 4) 1) := hP5
  have HTE : Hid (T = symN S L) := hTe
  have hTr := symN_range (S := S) (len := L) hs1
  rw [← hTe] at hTr
  have hst := RSt.start w K N S (.int .i64 (x0 : Int)) (.int .i64 (x1 : Int)) (.int .i64 (L : Int)) (.int .i64 0) (.int .i64 0) (.slice none 0 0) (.slice none 0 0)
  have hin : ∀ {W : World}, Below w.heap.size w W → ∀ i, i < n → W.cell? ⟨b, o + i, none⟩ = some (.int .u8 (bt l i : Int)) := fun hb i hi => by rw [hb.cell (p := ⟨b, o + i, none⟩) hbl]; exact hB i (by omega)
  have HIN : Hid (∀ {W : World}, Below w.heap.size w W → ∀ i, i < n → W.cell? ⟨b, o + i, none⟩ = some (.int .u8 (bt l i : Int))) := hin
  have HB40 : Hid (bt l 4 = bt (l.drop 4) 0) := hb40
  have HB41 : Hid (bt l 5 = bt (l.drop 4) 1) := hb41
  clear hin hTe hP4 hP5 hb40 hb41
  go_enter Tryd.func61, Tryd.ntmps61
  go_upto_region 1 with fail
  generalize ((((w.alloc (.cells #[.int .i64 (K : Int), .int .i64 (N : Int), .int .i64 (S : Int)] 54)).alloc (.cells #[.int .i64 (x0 : Int), .int .i64 (x1 : Int), .int .i64 (L : Int), .int .i64 0, .int .i64 0, .slice none 0 0, .slice none 0 0] 57)).alloc (.cells #[.int .i64 0, .int .i64 0, .int .i64 0, .int .i64 0, .int .i64 0, .slice none 0 0, .slice none 0 0] 57)).alloc (.cells #[.int .i64 0, .int .i64 0] 74)) = W at *
  have i4 : W.cell? ⟨b, o + 4, none⟩ = some (.int .u8 (P4 : Int)) := by rw [HP4.out, ← HB40.out]; exact HIN.out hst.low 4 (by omega)
  have q3 : W.cell? ⟨w.heap.size + 1, 3, none⟩ = some (.int .i64 0) := cell_of_row W _ 3 _ _ _ hst.pk
  have qf3 := frozen_of_row W _ 3 _ _ hst.pk
  have hst2 := hst.turn (But.setCell (S := fun g => g = w.heap.size + 1) (But.refl _ W) (p := ⟨w.heap.size + 1, 3, none⟩) (.inl rfl) (.int .i64 (P4 : Int))) (heap_setCell_same _ _ 3 _ _ _ hst.pk)
  go_upto_region 2 with fail
  generalize W.setCell ⟨w.heap.size + 1, 3, none⟩ (.int .i64 (P4 : Int)) = W2 at hst2 ⊢
  rw [show w.heap.size + 1 + 1 + 1 = w.heap.size + 3 from rfl, show w.heap.size + 1 + 1 = w.heap.size + 2 from rfl]
  clear i4 q3 qf3 hst
  have hst2' : RSt w W2 K N S (.int .i64 (x0 : Int)) (.int .i64 (x1 : Int)) (.int .i64 (L : Int)) (.int .i64 (P4 : Int)) (.int .i64 0) (.slice none 0 0) (.slice none 0 0) := hst2
  obtain ⟨k0, k1, k2⟩ := hst2.cfgs
  have q2 : W2.cell? ⟨w.heap.size + 1, 2, none⟩ = some (.int .i64 (L : Int)) := cell_of_row W2 _ 2 _ _ _ hst2.pk
  have q3 : W2.cell? ⟨w.heap.size + 1, 3, none⟩ = some (.int .i64 (P4 : Int)) := cell_of_row W2 _ 3 _ _ _ hst2.pk
  have hlt2 := hst2.lt
  obtain ⟨Bn, hBn⟩ : ∃ Bn, Bn = partsN T K := ⟨_, rfl⟩
  have HBN : Hid (Bn = partsN T K) := hBn
  have hBl : Bn ≤ 70000 := by rw [hBn]; have := partsN_le (a := T) HK1.out; omega
  have hblk : ∀ W, Calls Tryd.prog 83 #[.agg #[.int .i64 (K : Int), .int .i64 (N : Int), .int .i64 (S : Int)], .int .i64 (L : Int)] W fun e w' => e = .returned (.int .i64 (Bn : Int)) ∧ Below W.heap.size W w' := fun W => by rw [hBn, HTE.out]; exact rblocks_any K N S L HCF.out hL W
  clear hBn
  go_cut [21] (fun t wx => t = .bool (decide (Bn ≤ P4)) ∧ RSt w wx K N S (.int .i64 (x0 : Int)) (.int .i64 (x1 : Int)) (.int .i64 (L : Int)) (.int .i64 (P4 : Int)) (.int .i64 0) (.slice none 0 0) (.slice none 0 0))
  case first =>
    go_region_with (go_at_call 83; refine (hblk _).mono ?_; rintro e W3 ⟨rfl, hb3⟩; have hst3 := hst2'.above ((Below.undrew hb3).mono hlt2); have p3 : W3.cell? ⟨w.heap.size + 1, 3, none⟩ = some (.int .i64 (P4 : Int)) := (row7 hst3.pk).2.2.2.1)
    all_goals (go_wp2_with fail; go_meet; exact ⟨rfl, hst3⟩)
  case rest =>
    obtain ⟨rfl, hst3⟩ := hcut
    clear hst2 hst2' k0 k1 k2 q2 q3 hblk
    obtain ⟨W3, rfl⟩ : ∃ x, x = wc := ⟨wc, rfl⟩
    have hlt3 := hst3.lt
    by_cases hq0 : Bn ≤ P4
    · have hq0' : (Bn : Int) ≤ (P4 : Int) := by omega
      obtain ⟨c0, c1, c2, c3, c4, c5, c6⟩ := row7 hst3.res
      have e0 : W3.cell? ⟨w.heap.size + 3, 0, none⟩ = some (.int .i64 0) := cell_of_row W3 _ 0 _ _ _ hst3.err
      have e1 : W3.cell? ⟨w.heap.size + 3, 1, none⟩ = some (.int .i64 0) := cell_of_row W3 _ 1 _ _ _ hst3.err
      have f0 := frozen_of_row W3 _ 0 _ _ hst3.res
      have f1 := frozen_of_row W3 _ 1 _ _ hst3.res
      have f2 := frozen_of_row W3 _ 2 _ _ hst3.res
      have f3 := frozen_of_row W3 _ 3 _ _ hst3.res
      have f4 := frozen_of_row W3 _ 4 _ _ hst3.res
      have f5 := frozen_of_row W3 _ 5 _ _ hst3.res
      have f6 := frozen_of_row W3 _ 6 _ _ hst3.res
      have g0 := frozen_of_row W3 _ 0 _ _ hst3.err
      have g1 := frozen_of_row W3 _ 1 _ _ hst3.err
      have hne9 : ¬ w.heap.size + 2 = w.heap.size + 3 := by omega
      have hp := put9 W3 (w.heap.size + 2) (w.heap.size + 3) (.int .i64 0) (.int .i64 0) (.int .i64 0) (.int .i64 0) (.int .i64 0) (.slice none 0 0) (.slice none 0 0) (.int .i64 0) (.int .i64 0) (.int .i64 0) (.int .i64 0) (.int .i64 0) (.int .i64 0) (.int .i64 0) (.slice none 0 0) (.slice none 0 0) (.int .i64 6) (.int .i64 4) hst3.res hst3.err (by omega)
      go_wp2_with fail
      generalize (((((((((W3.setCell ⟨w.heap.size + 2, 0, none⟩ (.int .i64 0)).setCell ⟨w.heap.size + 2, 1, none⟩ (.int .i64 0)).setCell ⟨w.heap.size + 2, 2, none⟩ (.int .i64 0)).setCell ⟨w.heap.size + 2, 3, none⟩ (.int .i64 0)).setCell ⟨w.heap.size + 2, 4, none⟩ (.int .i64 0)).setCell ⟨w.heap.size + 2, 5, none⟩ (.slice none 0 0)).setCell ⟨w.heap.size + 2, 6, none⟩ (.slice none 0 0)).setCell ⟨w.heap.size + 3, 0, none⟩ (.int .i64 6)).setCell ⟨w.heap.size + 3, 1, none⟩ (.int .i64 4)) = W9 at hp ⊢
      obtain ⟨hp1, hp2, hp3⟩ := hp
      obtain ⟨d0, d1, d2, d3, d4, d5, d6⟩ := row7 (show W9.heap[w.heap.size + 2]? = _ from hp1)
      have d7 : W9.cell? ⟨w.heap.size + 3, 0, none⟩ = some (.int .i64 6) := cell_of_row _ _ 0 _ _ _ (show W9.heap[w.heap.size + 3]? = _ from hp2)
      have d8 : W9.cell? ⟨w.heap.size + 3, 1, none⟩ = some (.int .i64 4) := cell_of_row _ _ 1 _ _ _ (show W9.heap[w.heap.size + 3]? = _ from hp2)
      clear c0 c1 c2 c3 c4 c5 c6 f0 f1 f2 f3 f4 f5 f6 g0 g1 e0 e1
      exact bodyPost_ret (v := .tuple #[.agg #[.int .i64 0, .int .i64 0, .int .i64 0, .int .i64 0, .int .i64 0, .slice none 0 0, .slice none 0 0], .agg #[.int .i64 6, .int .i64 4]]) (by simp [results, Tryd.results61, go_sem, d0, d1, d2, d3, d4, d5, d6, d7, d8]) rfl (RDGives.bad (c := 6) (k := 0) (dataB_0 (by rw [hm]; omega) (winB_no (by rw [← HBN.out, ← HP4.out]; omega))) rfl (hst3.low.trans (hp3.toBelow (by have := hst3.low.size; omega) (fun k hk q => by omega))))
    · have hq0' : ¬ (Bn : Int) ≤ (P4 : Int) := by omega
      have hwin : winB (bt (l.drop 4) 0 : Int) 0 ((partsN T K : Int) - 1) = true := winB_iff.2 ⟨by omega, by rw [← HBN.out, ← HP4.out]; omega⟩
      have HWIN : Hid (winB (bt (l.drop 4) 0 : Int) 0 ((partsN T K : Int) - 1) = true) := hwin
      have hbK : P4 * K < T := by rw [HP4.out]; exact partsN_mul HK1.out (by rw [← HBN.out, ← HP4.out]; omega)
      clear hwin
      by_cases hq1 : n < 6
      · have hq1' : (n : Int) < 6 := by omega
        obtain ⟨c0, c1, c2, c3, c4, c5, c6⟩ := row7 hst3.res
        have e0 : W3.cell? ⟨w.heap.size + 3, 0, none⟩ = some (.int .i64 0) := cell_of_row W3 _ 0 _ _ _ hst3.err
        have e1 : W3.cell? ⟨w.heap.size + 3, 1, none⟩ = some (.int .i64 0) := cell_of_row W3 _ 1 _ _ _ hst3.err
        have f0 := frozen_of_row W3 _ 0 _ _ hst3.res
        have f1 := frozen_of_row W3 _ 1 _ _ hst3.res
        have f2 := frozen_of_row W3 _ 2 _ _ hst3.res
        have f3 := frozen_of_row W3 _ 3 _ _ hst3.res
        have f4 := frozen_of_row W3 _ 4 _ _ hst3.res
        have f5 := frozen_of_row W3 _ 5 _ _ hst3.res
        have f6 := frozen_of_row W3 _ 6 _ _ hst3.res
        have g0 := frozen_of_row W3 _ 0 _ _ hst3.err
        have g1 := frozen_of_row W3 _ 1 _ _ hst3.err
        have hne9 : ¬ w.heap.size + 2 = w.heap.size + 3 := by omega
        have hp := put9 W3 (w.heap.size + 2) (w.heap.size + 3) (.int .i64 0) (.int .i64 0) (.int .i64 0) (.int .i64 0) (.int .i64 0) (.slice none 0 0) (.slice none 0 0) (.int .i64 0) (.int .i64 0) (.int .i64 0) (.int .i64 0) (.int .i64 0) (.int .i64 0) (.int .i64 0) (.slice none 0 0) (.slice none 0 0) (.int .i64 4) (.int .i64 (n : Int)) hst3.res hst3.err (by omega)
        go_wp2_with fail
        generalize (((((((((W3.setCell ⟨w.heap.size + 2, 0, none⟩ (.int .i64 0)).setCell ⟨w.heap.size + 2, 1, none⟩ (.int .i64 0)).setCell ⟨w.heap.size + 2, 2, none⟩ (.int .i64 0)).setCell ⟨w.heap.size + 2, 3, none⟩ (.int .i64 0)).setCell ⟨w.heap.size + 2, 4, none⟩ (.int .i64 0)).setCell ⟨w.heap.size + 2, 5, none⟩ (.slice none 0 0)).setCell ⟨w.heap.size + 2, 6, none⟩ (.slice none 0 0)).setCell ⟨w.heap.size + 3, 0, none⟩ (.int .i64 4)).setCell ⟨w.heap.size + 3, 1, none⟩ (.int .i64 (n : Int))) = W9 at hp ⊢
        obtain ⟨hp1, hp2, hp3⟩ := hp
        obtain ⟨d0, d1, d2, d3, d4, d5, d6⟩ := row7 (show W9.heap[w.heap.size + 2]? = _ from hp1)
        have d7 : W9.cell? ⟨w.heap.size + 3, 0, none⟩ = some (.int .i64 4) := cell_of_row _ _ 0 _ _ _ (show W9.heap[w.heap.size + 3]? = _ from hp2)
        have d8 : W9.cell? ⟨w.heap.size + 3, 1, none⟩ = some (.int .i64 (n : Int)) := cell_of_row _ _ 1 _ _ _ (show W9.heap[w.heap.size + 3]? = _ from hp2)
        clear c0 c1 c2 c3 c4 c5 c6 f0 f1 f2 f3 f4 f5 f6 g0 g1 e0 e1
        exact bodyPost_ret (v := .tuple #[.agg #[.int .i64 0, .int .i64 0, .int .i64 0, .int .i64 0, .int .i64 0, .slice none 0 0, .slice none 0 0], .agg #[.int .i64 4, .int .i64 (n : Int)]]) (by simp [results, Tryd.results61, go_sem, d0, d1, d2, d3, d4, d5, d6, d7, d8]) rfl (RDGives.bad (c := 4) (k := (l.drop 4).length) (dataB_1 (by rw [hm]; omega) HWIN.out (by rw [hm]; omega)) (by rw [hm]; omega) (hst3.low.trans (hp3.toBelow (by have := hst3.low.size; omega) (fun k hk q => by omega))))
      · have hq1' : ¬ (n : Int) < 6 := by omega
        have i5 : W3.cell? ⟨b, o + 5, none⟩ = some (.int .u8 (P5 : Int)) := by rw [HP5.out, ← HB41.out]; exact HIN.out hst3.low 5 (by omega)
        have q4 : W3.cell? ⟨w.heap.size + 1, 4, none⟩ = some (.int .i64 0) := (row7 hst3.pk).2.2.2.2.1
        have qf4 := frozen_of_row W3 _ 4 _ _ hst3.pk
        have hst4 : RSt w (W3.setCell ⟨w.heap.size + 1, 4, none⟩ (.int .i64 (P5 : Int))) K N S (.int .i64 (x0 : Int)) (.int .i64 (x1 : Int)) (.int .i64 (L : Int)) (.int .i64 (P4 : Int)) (.int .i64 (P5 : Int)) (.slice none 0 0) (.slice none 0 0) := hst3.turn (But.setCell (S := fun g => g = w.heap.size + 1) (But.refl _ W3) (p := ⟨w.heap.size + 1, 4, none⟩) (.inl rfl) (.int .i64 (P5 : Int))) (heap_setCell_same _ _ 4 _ _ _ hst3.pk)
        go_upto_region 7 with fail
        generalize W3.setCell ⟨w.heap.size + 1, 4, none⟩ (.int .i64 (P5 : Int)) = W4 at hst4 ⊢
        clear i5 q4 qf4 hst3
        obtain ⟨k0, k1, k2⟩ := hst4.cfgs
        obtain ⟨y0, y1, y2, y3, y4, y5, y6⟩ := row7 hst4.pk
        have hlt4 := hst4.lt
        go_wp2_with fail
        refine (order_any K N S L P4 HCF.out hL (by rw [← HTE.out]; exact hbK) W4).mono ?_
        rintro e W5 ⟨og, oc, rfl, hZ, hb5⟩
        rw [← HTE.out] at hZ ⊢
        have hst5 := hst4.above (hb5.mono hlt4)
        have hhas := has_any og oc (N - K + srcN K T P4) (ordL K N (srcN K T P4)) (P5 : Int) W5 (ordL_length ..) (by have := HCF.out.n16; have : srcN K T P4 ≤ 8 := by { unfold srcN; have := HCF.out.k8; omega }; omega) hZ
        rw [ordL_has K N (srcN K T P4) P5 HKN.out] at hhas
        have HPL : Hid (plcN K N T P4 P5 = decide (P5 < srcN K T P4 ∨ (K ≤ P5 ∧ P5 < N))) := rfl
        rw [← HPL.out] at hhas
        clear k0 k1 k2 y0 y1 y2 y3 y4 y5 y6 hst4 hZ
        have y4 : W5.cell? ⟨w.heap.size + 1, 4, none⟩ = some (.int .i64 (P5 : Int)) := (row7 hst5.pk).2.2.2.2.1
        go_wp2_with fail
        refine hhas.mono ?_
        rintro e W5' ⟨rfl, hW5⟩
        rw [hW5]
        clear hW5 W5'
        have hlt5 := hst5.lt
        clear hhas y4
        cases hk1 : plcN K N T P4 P5
        · skip
          obtain ⟨c0, c1, c2, c3, c4, c5, c6⟩ := row7 hst5.res
          have e0 : W5.cell? ⟨w.heap.size + 3, 0, none⟩ = some (.int .i64 0) := cell_of_row W5 _ 0 _ _ _ hst5.err
          have e1 : W5.cell? ⟨w.heap.size + 3, 1, none⟩ = some (.int .i64 0) := cell_of_row W5 _ 1 _ _ _ hst5.err
          have f0 := frozen_of_row W5 _ 0 _ _ hst5.res
          have f1 := frozen_of_row W5 _ 1 _ _ hst5.res
          have f2 := frozen_of_row W5 _ 2 _ _ hst5.res
          have f3 := frozen_of_row W5 _ 3 _ _ hst5.res
          have f4 := frozen_of_row W5 _ 4 _ _ hst5.res
          have f5 := frozen_of_row W5 _ 5 _ _ hst5.res
          have f6 := frozen_of_row W5 _ 6 _ _ hst5.res
          have g0 := frozen_of_row W5 _ 0 _ _ hst5.err
          have g1 := frozen_of_row W5 _ 1 _ _ hst5.err
          have hne9 : ¬ w.heap.size + 2 = w.heap.size + 3 := by omega
          have hp := put9 W5 (w.heap.size + 2) (w.heap.size + 3) (.int .i64 0) (.int .i64 0) (.int .i64 0) (.int .i64 0) (.int .i64 0) (.slice none 0 0) (.slice none 0 0) (.int .i64 0) (.int .i64 0) (.int .i64 0) (.int .i64 0) (.int .i64 0) (.int .i64 0) (.int .i64 0) (.slice none 0 0) (.slice none 0 0) (.int .i64 6) (.int .i64 5) hst5.res hst5.err (by omega)
          go_wp2_with fail
          generalize (((((((((W5.setCell ⟨w.heap.size + 2, 0, none⟩ (.int .i64 0)).setCell ⟨w.heap.size + 2, 1, none⟩ (.int .i64 0)).setCell ⟨w.heap.size + 2, 2, none⟩ (.int .i64 0)).setCell ⟨w.heap.size + 2, 3, none⟩ (.int .i64 0)).setCell ⟨w.heap.size + 2, 4, none⟩ (.int .i64 0)).setCell ⟨w.heap.size + 2, 5, none⟩ (.slice none 0 0)).setCell ⟨w.heap.size + 2, 6, none⟩ (.slice none 0 0)).setCell ⟨w.heap.size + 3, 0, none⟩ (.int .i64 6)).setCell ⟨w.heap.size + 3, 1, none⟩ (.int .i64 5)) = W9 at hp ⊢
          obtain ⟨hp1, hp2, hp3⟩ := hp
          obtain ⟨d0, d1, d2, d3, d4, d5, d6⟩ := row7 (show W9.heap[w.heap.size + 2]? = _ from hp1)
          have d7 : W9.cell? ⟨w.heap.size + 3, 0, none⟩ = some (.int .i64 6) := cell_of_row _ _ 0 _ _ _ (show W9.heap[w.heap.size + 3]? = _ from hp2)
          have d8 : W9.cell? ⟨w.heap.size + 3, 1, none⟩ = some (.int .i64 5) := cell_of_row _ _ 1 _ _ _ (show W9.heap[w.heap.size + 3]? = _ from hp2)
          clear c0 c1 c2 c3 c4 c5 c6 f0 f1 f2 f3 f4 f5 f6 g0 g1 e0 e1
          exact bodyPost_ret (v := .tuple #[.agg #[.int .i64 0, .int .i64 0, .int .i64 0, .int .i64 0, .int .i64 0, .slice none 0 0, .slice none 0 0], .agg #[.int .i64 6, .int .i64 5]]) (by simp [results, Tryd.results61, go_sem, d0, d1, d2, d3, d4, d5, d6, d7, d8]) rfl (RDGives.bad (c := 6) (k := 1) (dataB_2 (by rw [hm]; omega) HWIN.out (by rw [hm]; omega) (by rw [← HP4.out, ← HP5.out]; exact hk1)) rfl (hst5.low.trans (hp3.toBelow (by have := hst5.low.size; omega) (fun k hk q => by omega))))
        · have HPLC : Hid (plcN K N T (bt (l.drop 4) 0) (bt (l.drop 4) 1) = true) := by show _ = _; rw [← HP4.out, ← HP5.out]; exact hk1
          obtain ⟨k0, k1, k2⟩ := hst5.cfgs
          by_cases hq2 : n < 6 + S
          · have hq2' : (n : Int) < 6 + (S : Int) := by omega
            obtain ⟨c0, c1, c2, c3, c4, c5, c6⟩ := row7 hst5.res
            have e0 : W5.cell? ⟨w.heap.size + 3, 0, none⟩ = some (.int .i64 0) := cell_of_row W5 _ 0 _ _ _ hst5.err
            have e1 : W5.cell? ⟨w.heap.size + 3, 1, none⟩ = some (.int .i64 0) := cell_of_row W5 _ 1 _ _ _ hst5.err
            have f0 := frozen_of_row W5 _ 0 _ _ hst5.res
            have f1 := frozen_of_row W5 _ 1 _ _ hst5.res
            have f2 := frozen_of_row W5 _ 2 _ _ hst5.res
            have f3 := frozen_of_row W5 _ 3 _ _ hst5.res
            have f4 := frozen_of_row W5 _ 4 _ _ hst5.res
            have f5 := frozen_of_row W5 _ 5 _ _ hst5.res
            have f6 := frozen_of_row W5 _ 6 _ _ hst5.res
            have g0 := frozen_of_row W5 _ 0 _ _ hst5.err
            have g1 := frozen_of_row W5 _ 1 _ _ hst5.err
            have hne9 : ¬ w.heap.size + 2 = w.heap.size + 3 := by omega
            have hp := put9 W5 (w.heap.size + 2) (w.heap.size + 3) (.int .i64 0) (.int .i64 0) (.int .i64 0) (.int .i64 0) (.int .i64 0) (.slice none 0 0) (.slice none 0 0) (.int .i64 0) (.int .i64 0) (.int .i64 0) (.int .i64 0) (.int .i64 0) (.int .i64 0) (.int .i64 0) (.slice none 0 0) (.slice none 0 0) (.int .i64 4) (.int .i64 (n : Int)) hst5.res hst5.err (by omega)
            go_wp2_with fail
            generalize (((((((((W5.setCell ⟨w.heap.size + 2, 0, none⟩ (.int .i64 0)).setCell ⟨w.heap.size + 2, 1, none⟩ (.int .i64 0)).setCell ⟨w.heap.size + 2, 2, none⟩ (.int .i64 0)).setCell ⟨w.heap.size + 2, 3, none⟩ (.int .i64 0)).setCell ⟨w.heap.size + 2, 4, none⟩ (.int .i64 0)).setCell ⟨w.heap.size + 2, 5, none⟩ (.slice none 0 0)).setCell ⟨w.heap.size + 2, 6, none⟩ (.slice none 0 0)).setCell ⟨w.heap.size + 3, 0, none⟩ (.int .i64 4)).setCell ⟨w.heap.size + 3, 1, none⟩ (.int .i64 (n : Int))) = W9 at hp ⊢
            obtain ⟨hp1, hp2, hp3⟩ := hp
            obtain ⟨d0, d1, d2, d3, d4, d5, d6⟩ := row7 (show W9.heap[w.heap.size + 2]? = _ from hp1)
            have d7 : W9.cell? ⟨w.heap.size + 3, 0, none⟩ = some (.int .i64 4) := cell_of_row _ _ 0 _ _ _ (show W9.heap[w.heap.size + 3]? = _ from hp2)
            have d8 : W9.cell? ⟨w.heap.size + 3, 1, none⟩ = some (.int .i64 (n : Int)) := cell_of_row _ _ 1 _ _ _ (show W9.heap[w.heap.size + 3]? = _ from hp2)
            clear c0 c1 c2 c3 c4 c5 c6 f0 f1 f2 f3 f4 f5 f6 g0 g1 e0 e1
            exact bodyPost_ret (v := .tuple #[.agg #[.int .i64 0, .int .i64 0, .int .i64 0, .int .i64 0, .int .i64 0, .slice none 0 0, .slice none 0 0], .agg #[.int .i64 4, .int .i64 (n : Int)]]) (by simp [results, Tryd.results61, go_sem, d0, d1, d2, d3, d4, d5, d6, d7, d8]) rfl (RDGives.bad (c := 4) (k := (l.drop 4).length) (dataB_3 (by rw [hm]; omega) HWIN.out (by rw [hm]; omega) HPLC.out (by rw [hm]; omega)) (by rw [hm]; omega) (hst5.low.trans (hp3.toBelow (by have := hst5.low.size; omega) (fun k hk q => by omega))))
          · have hq2' : ¬ (n : Int) < 6 + (S : Int) := by omega
            by_cases hq3 : 6 + S < n
            · have hq3' : (n : Int) > 6 + (S : Int) := by omega
              have hpk : w.heap.size ≠ w.heap.size + 2 := by omega
              have hpk2 : w.heap.size ≠ w.heap.size + 3 := by omega
              obtain ⟨c0, c1, c2, c3, c4, c5, c6⟩ := row7 hst5.res
              have e0 : W5.cell? ⟨w.heap.size + 3, 0, none⟩ = some (.int .i64 0) := cell_of_row W5 _ 0 _ _ _ hst5.err
              have e1 : W5.cell? ⟨w.heap.size + 3, 1, none⟩ = some (.int .i64 0) := cell_of_row W5 _ 1 _ _ _ hst5.err
              have f0 := frozen_of_row W5 _ 0 _ _ hst5.res
              have f1 := frozen_of_row W5 _ 1 _ _ hst5.res
              have f2 := frozen_of_row W5 _ 2 _ _ hst5.res
              have f3 := frozen_of_row W5 _ 3 _ _ hst5.res
              have f4 := frozen_of_row W5 _ 4 _ _ hst5.res
              have f5 := frozen_of_row W5 _ 5 _ _ hst5.res
              have f6 := frozen_of_row W5 _ 6 _ _ hst5.res
              have g0 := frozen_of_row W5 _ 0 _ _ hst5.err
              have g1 := frozen_of_row W5 _ 1 _ _ hst5.err
              have hne9 : ¬ w.heap.size + 2 = w.heap.size + 3 := by omega
              have hp := put9 W5 (w.heap.size + 2) (w.heap.size + 3) (.int .i64 0) (.int .i64 0) (.int .i64 0) (.int .i64 0) (.int .i64 0) (.slice none 0 0) (.slice none 0 0) (.int .i64 0) (.int .i64 0) (.int .i64 0) (.int .i64 0) (.int .i64 0) (.int .i64 0) (.int .i64 0) (.slice none 0 0) (.slice none 0 0) (.int .i64 7) (.int .i64 (6 + (S : Int))) hst5.res hst5.err (by omega)
              have hq := put9b W5 (w.heap.size + 2) (w.heap.size + 3) (.int .i64 0) (.int .i64 0) (.int .i64 0) (.int .i64 0) (.int .i64 0) (.slice none 0 0) (.slice none 0 0) (.int .i64 0) (.int .i64 0) (.int .i64 0) (.int .i64 0) (.int .i64 0) (.int .i64 0) (.int .i64 0) (.slice none 0 0) (.slice none 0 0) (.int .i64 7) (.int .i64 (6 + (S : Int))) hst5.res hst5.err (by omega)
              go_wp2_with fail
              go_region
              all_goals
                first
                  | generalize (((((((((W5.setCell ⟨w.heap.size + 2, 0, none⟩ (.int .i64 0)).setCell ⟨w.heap.size + 2, 1, none⟩ (.int .i64 0)).setCell ⟨w.heap.size + 2, 2, none⟩ (.int .i64 0)).setCell ⟨w.heap.size + 2, 3, none⟩ (.int .i64 0)).setCell ⟨w.heap.size + 2, 4, none⟩ (.int .i64 0)).setCell ⟨w.heap.size + 2, 5, none⟩ (.slice none 0 0)).setCell ⟨w.heap.size + 2, 6, none⟩ (.slice none 0 0)).setCell ⟨w.heap.size + 3, 0, none⟩ (.int .i64 7)).setCell ⟨w.heap.size + 3, 1, none⟩ (.int .i64 (6 + (S : Int)))) = W9 at hp ⊢
                  | (replace hp := hq; generalize (((((((((W5.setCell ⟨w.heap.size + 3, 0, none⟩ (.int .i64 7)).setCell ⟨w.heap.size + 3, 1, none⟩ (.int .i64 (6 + (S : Int)))).setCell ⟨w.heap.size + 2, 0, none⟩ (.int .i64 0)).setCell ⟨w.heap.size + 2, 1, none⟩ (.int .i64 0)).setCell ⟨w.heap.size + 2, 2, none⟩ (.int .i64 0)).setCell ⟨w.heap.size + 2, 3, none⟩ (.int .i64 0)).setCell ⟨w.heap.size + 2, 4, none⟩ (.int .i64 0)).setCell ⟨w.heap.size + 2, 5, none⟩ (.slice none 0 0)).setCell ⟨w.heap.size + 2, 6, none⟩ (.slice none 0 0)) = W9 at hp ⊢)
                clear hq
                obtain ⟨hp1, hp2, hp3⟩ := hp
                obtain ⟨d0, d1, d2, d3, d4, d5, d6⟩ := row7 (show W9.drew.heap[w.heap.size + 2]? = _ from hp1)
                have d7 : W9.drew.cell? ⟨w.heap.size + 3, 0, none⟩ = some (.int .i64 7) := cell_of_row _ _ 0 _ _ _ (show W9.drew.heap[w.heap.size + 3]? = _ from hp2)
                have d8 : W9.drew.cell? ⟨w.heap.size + 3, 1, none⟩ = some (.int .i64 (6 + (S : Int))) := cell_of_row _ _ 1 _ _ _ (show W9.drew.heap[w.heap.size + 3]? = _ from hp2)
                clear c0 c1 c2 c3 c4 c5 c6 f0 f1 f2 f3 f4 f5 f6 g0 g1 e0 e1
                have hp4 : But (fun g => g = w.heap.size + 2 ∨ g = w.heap.size + 3) W5 W9.drew := hp3.drew
                replace hp3 := hp4
                clear hp4 hp1 hp2
                generalize W9.drew = W10 at *
                go_wp2_with fail
                exact bodyPost_ret (v := .tuple #[.agg #[.int .i64 0, .int .i64 0, .int .i64 0, .int .i64 0, .int .i64 0, .slice none 0 0, .slice none 0 0], .agg #[.int .i64 7, .int .i64 (6 + (S : Int))]]) (by simp [results, Tryd.results61, go_sem, d0, d1, d2, d3, d4, d5, d6, d7, d8]) rfl (RDGives.bad (c := 7) (k := 2 + S) (dataB_4 (by rw [hm]; omega) HWIN.out (by rw [hm]; omega) HPLC.out (by rw [hm]; omega) (by rw [hm]; omega)) (by omega) (hst5.low.trans (hp3.toBelow (by have := hst5.low.size; omega) (fun k hk q => by omega))))
            · have hq3' : ¬ (n : Int) > 6 + (S : Int) := by omega
              obtain rfl : n = 6 + S := by omega
              obtain ⟨y0, y1, y2, y3, y4, y5, y6⟩ := row7 hst5.pk
              have qf5 := frozen_of_row W5 _ 5 _ _ hst5.pk
              have hc6 : ¬ c = 6 := by omega
              have hc62 : ¬ c - 6 = 0 := by omega
              obtain ⟨iU, hiU, hiU0, hiU1, hiU2⟩ := Tryd.u8_parts
              have h6 : Bs W5 b (o + 6) (l.drop 6) := fun i hi => by
                have h1 := hB (6 + i) (by rw [hl]; simp [hl] at hi; omega)
                rw [hst5.low.cell (p := ⟨b, o + 6 + i, none⟩) hbl, show o + 6 + i = o + (6 + i) by omega, h1]
                simp [at_, List.getD]
              have HNW : Hid (∀ j v, (encL (l.drop 6))[j]? = some v → W5.drew.cell? ((⟨b, o + 6, none⟩ : Addr).add j) = some v) := fun j v hj => h6.cells_at j v hj
              have HE1 : Hid (∀ u ∈ encL (l.drop 6), u.oneCell' = true) := encL_one _
              have HLE : Hid ((encL (l.drop 6)).length = S * 1) := by show _ = _; simp [encL, hl]
              have HOW : Hid (W5.drew.ownsRow (w.heap.size + 4) 5 1 (.slice none 0 0) 0 []) := World.ownsRow_nil ..
              have HSZ : Hid (w.heap.size + 4 ≤ W5.drew.heap.size) := hlt5
              have HM1 : Hid (0 + S ≤ maxLen) := by unfold maxLen; show _ ≤ _; omega
              have HSEE : Hid (∀ w6, W5.drew.grownBy w6 (Value.slice none 0 0).ownBlock → RSt w w6 K N S (.int .i64 (x0 : Int)) (.int .i64 (x1 : Int)) (.int .i64 (L : Int)) (.int .i64 (P4 : Int)) (.int .i64 (P5 : Int)) (.slice none 0 0) (.slice none 0 0)) := fun w6 hg => hst5.above (Below.undrew ((Below.refl _ W5.drew).grown hg (show w.heap.size + 4 ≤ W5.drew.heap.size from hlt5) (fun k hk => by simp [Value.ownBlock] at hk)))
              have HM2 : Hid (((0 + S) + (0 + S) / 4 + 192) * 1 ≤ 281474976710656) := by show _ ≤ _; omega
              have HM3 : Hid ((0 + S) * 1 ≤ 140737488355328) := by show _ ≤ _; omega
              have h66 : (6 : Int) ≤ 6 + (S : Int) := by omega
              go_upto_region 15 with fail
              go_cut [] (fun wx => ∃ a c1, RSt w wx K N S (.int .i64 (x0 : Int)) (.int .i64 (x1 : Int)) (.int .i64 (L : Int)) (.int .i64 (P4 : Int)) (.int .i64 (P5 : Int)) (.slice a S c1) (.slice none 0 0) ∧ wx.ownsRow (w.heap.size + 4) 5 1 (.slice a S c1) S (encL (l.drop 6)))
              case first =>
                go_region_law ((refine step_append_apart (by rfl) _ _ _ (by rfl) (w.heap.size + 4) 5 iU (.int .u8 0) 1 1 Tryd.underlying33 hiU hiU0 hiU1 hiU2 rfl Nat.one_pos (.slice none 0 0) 0 [] (by rfl) HOW.out ⟨b, o + 6, none⟩ S (c - 6) (encL (l.drop 6)) (by rfl) HLE.out HNW.out HE1.out hs1 HM1.out HM2.out HM3.out HSZ.out ?_; intro g6 cap6 w6 hown6 hgr6 hlie6 hlt6; have hs6 := HSEE.out _ hgr6; have r5 : w6.cell? ⟨w.heap.size + 1, 5, none⟩ = some (.slice none 0 0) := (row7 hs6.pk).2.2.2.2.2.1; have rf5 := frozen_of_row w6 _ 5 _ _ hs6.pk))
                all_goals
                  have hs7 := hs6.turn (But.setCell (S := fun g => g = w.heap.size + 1) (But.refl _ w6) (p := ⟨w.heap.size + 1, 5, none⟩) (.inl rfl) (.slice (some ⟨g6, 0, none⟩) (0 + S) cap6)) (heap_setCell_same _ _ 5 _ _ _ hs6.pk)
                  have hown7 := own_of_block hown6 (fun g hg => Below.heap_setCell w6 ⟨w.heap.size + 1, 5, none⟩ (.slice (some ⟨g6, 0, none⟩) (0 + S) cap6) g (by have := (hown6.lt g hg).1; show g ≠ w.heap.size + 1; omega))
                  go_wp2_with fail
                  go_meet
                  rw [Nat.zero_add] at hs7 hown7
                  exact ⟨_, _, hs7, by simpa using hown7⟩
              case rest =>
                obtain ⟨za, zc, hst6, hown6⟩ := hcut
                obtain ⟨W6, rfl⟩ : ∃ x, x = wc := ⟨wc, rfl⟩
                clear HSEE HSZ HOW HNW h6 hst5 y0 y1 y2 y3 y4 y5 y6 qf5 k0 k1 k2
                obtain ⟨y0, y1, y2, y3, y4, y5, y6⟩ := row7 hst6.pk
                have hlt6 := hst6.lt
                have hn12 : w.heap.size + 1 ≠ w.heap.size + 2 := by omega
                have hn13 : w.heap.size + 1 ≠ w.heap.size + 3 := by omega
                have hno : ∀ X, Calls Tryd.prog 86 #[] X fun e w1 => e = .returned (.agg #[.int .i64 0, .int .i64 (-1)]) ∧ Below X.heap.size X w1 := none_err
                go_upto_region 16 with fail
                go_region_with (go_at_call 86; refine (hno _).mono ?_; rintro e W7 ⟨rfl, hb7⟩; have hst7 := hst6.above ((Below.undrew hb7).mono hlt6); obtain ⟨z0, z1, z2, z3, z4, z5, z6⟩ := row7 hst7.pk; obtain ⟨c0, c1, c2, c3, c4, c5, c6⟩ := row7 hst7.res; have e0 : W7.cell? ⟨w.heap.size + 3, 0, none⟩ = some (.int .i64 0) := cell_of_row W7 _ 0 _ _ _ hst7.err; have e1 : W7.cell? ⟨w.heap.size + 3, 1, none⟩ = some (.int .i64 0) := cell_of_row W7 _ 1 _ _ _ hst7.err; have f0 := frozen_of_row W7 _ 0 _ _ hst7.res; have f1 := frozen_of_row W7 _ 1 _ _ hst7.res; have f2 := frozen_of_row W7 _ 2 _ _ hst7.res; have f3 := frozen_of_row W7 _ 3 _ _ hst7.res; have f4 := frozen_of_row W7 _ 4 _ _ hst7.res; have f5 := frozen_of_row W7 _ 5 _ _ hst7.res; have f6 := frozen_of_row W7 _ 6 _ _ hst7.res; have g0 := frozen_of_row W7 _ 0 _ _ hst7.err; have g1 := frozen_of_row W7 _ 1 _ _ hst7.err)
                all_goals
                  have hp := put9 W7 (w.heap.size + 2) (w.heap.size + 3) (.int .i64 0) (.int .i64 0) (.int .i64 0) (.int .i64 0) (.int .i64 0) (.slice none 0 0) (.slice none 0 0) (.int .i64 0) (.int .i64 0) (.int .i64 (x0 : Int)) (.int .i64 (x1 : Int)) (.int .i64 (L : Int)) (.int .i64 (P4 : Int)) (.int .i64 (P5 : Int)) (.slice za S zc) (.slice none 0 0) (.int .i64 0) (.int .i64 (-1)) hst7.res hst7.err (by omega)
                  generalize (((((((((W7.setCell ⟨w.heap.size + 2, 0, none⟩ (.int .i64 (x0 : Int))).setCell ⟨w.heap.size + 2, 1, none⟩ (.int .i64 (x1 : Int))).setCell ⟨w.heap.size + 2, 2, none⟩ (.int .i64 (L : Int))).setCell ⟨w.heap.size + 2, 3, none⟩ (.int .i64 (P4 : Int))).setCell ⟨w.heap.size + 2, 4, none⟩ (.int .i64 (P5 : Int))).setCell ⟨w.heap.size + 2, 5, none⟩ (.slice za S zc)).setCell ⟨w.heap.size + 2, 6, none⟩ (.slice none 0 0)).setCell ⟨w.heap.size + 3, 0, none⟩ (.int .i64 0)).setCell ⟨w.heap.size + 3, 1, none⟩ (.int .i64 (-1))) = W9 at hp ⊢
                  obtain ⟨hp1, hp2, hp3⟩ := hp
                  obtain ⟨d0, d1, d2, d3, d4, d5, d6⟩ := row7 (show W9.heap[w.heap.size + 2]? = _ from hp1)
                  have d7 : W9.cell? ⟨w.heap.size + 3, 0, none⟩ = some (.int .i64 0) := cell_of_row _ _ 0 _ _ _ (show W9.heap[w.heap.size + 3]? = _ from hp2)
                  have d8 : W9.cell? ⟨w.heap.size + 3, 1, none⟩ = some (.int .i64 (-1)) := cell_of_row _ _ 1 _ _ _ (show W9.heap[w.heap.size + 3]? = _ from hp2)
                  clear c0 c1 c2 c3 c4 c5 c6 f0 f1 f2 f3 f4 f5 f6 g0 g1 e0 e1 z0 z1 z2 z3 z4 z5 z6 y0 y1 y2 y3 y4 y5 y6
                  go_wp2_with fail
                  exact bodyPost_ret (v := .tuple #[.agg #[.int .i64 (x0 : Int), .int .i64 (x1 : Int), .int .i64 (L : Int), .int .i64 (P4 : Int), .int .i64 (P5 : Int), .slice za S zc, .slice none 0 0], .agg #[.int .i64 0, .int .i64 (-1)]]) (by simp [results, Tryd.results61, go_sem, d0, d1, d2, d3, d4, d5, d6, d7, d8]) rfl (by
                    refine ⟨?_, hst7.low.trans (hp3.toBelow (by have := hst7.low.size; omega) (fun k hk q => by omega))⟩
                    rw [dataB_5 (by rw [hm]; omega) HWIN.out (by rw [hm]; omega) HPLC.out (by rw [hm]; omega) (by rw [hm]; omega)]
                    refine ⟨za, zc, by rw [← HP4.out, ← HP5.out], ?_⟩
                    have h1 := own_of_block hown6 (fun g hg => (Below.undrew hb7).block g (hown6.lt g hg).2)
                    have h2 := hp3.own h1 (fun g hg q => by have := (h1.lt g hg).1; omega)
                    rw [List.drop_drop]
                    exact own_base2 h2 (by omega))

end Go.Proofs.YtjabhnhejbhgjaaDoor
