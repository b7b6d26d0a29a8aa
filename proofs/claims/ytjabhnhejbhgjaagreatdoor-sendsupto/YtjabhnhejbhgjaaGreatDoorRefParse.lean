/- murmurref: Parse. (Written by gen_rparse.py.) -/
import Derived.Test.YtjabhnhejbhgjaaGreatDoorMany8
namespace Go.Proofs.YtjabhnhejbhgjaaGreatDoor
open Go.RowKit

structure PRSt (w W : World) (K N S : Int) : Prop where
  low : Below w.heap.size w W
  cfg : W.heap[w.heap.size]? = some (.cells #[.int .i64 K, .int .i64 N, .int .i64 S] 30 (0, 0))
  res : W.heap[w.heap.size + 1]? = some (.cells #[.int .i64 0, .int .i64 0, .int .i64 0, .int .i64 0, .int .i64 0, .slice none 0 0, .slice none 0 0] 60 (0, 0))
  err : W.heap[w.heap.size + 2]? = some (.cells #[.int .i64 0, .int .i64 0] 139 (0, 0))
theorem PRSt.start (w : World) (K N S : Int) : PRSt w (((w.alloc (.cells #[.int .i64 K, .int .i64 N, .int .i64 S] 30)).alloc (.cells #[.int .i64 0, .int .i64 0, .int .i64 0, .int .i64 0, .int .i64 0, .slice none 0 0, .slice none 0 0] 60)).alloc (.cells #[.int .i64 0, .int .i64 0] 139)) K N S := by
  have e1 := heap_alloc_new (w.alloc (.cells #[.int .i64 K, .int .i64 N, .int .i64 S] 30)) (.cells #[.int .i64 0, .int .i64 0, .int .i64 0, .int .i64 0, .int .i64 0, .slice none 0 0, .slice none 0 0] 60)
  have e2 := heap_alloc_new ((w.alloc (.cells #[.int .i64 K, .int .i64 N, .int .i64 S] 30)).alloc (.cells #[.int .i64 0, .int .i64 0, .int .i64 0, .int .i64 0, .int .i64 0, .slice none 0 0, .slice none 0 0] 60)) (.cells #[.int .i64 0, .int .i64 0] 139)
  rw [World.size_alloc] at e1
  rw [World.size_alloc, World.size_alloc] at e2
  refine ⟨(((Below.refl _ _).alloc (Nat.le_refl _) _).alloc (by simp) _).alloc (by simp; omega) _, ?_, ?_, e2⟩
  · rw [Below.heap_alloc _ _ _ (by simp <;> omega), Below.heap_alloc _ _ _ (by simp)]; exact heap_alloc_new w _
  · rw [Below.heap_alloc _ _ _ (by simp)]; exact e1
theorem PRSt.above {w W W' : World} {K N S : Int} (h : PRSt w W K N S) (hb : Below (w.heap.size + 3) W W') : PRSt w W' K N S :=
  ⟨h.low.trans (hb.mono (by omega)), by rw [hb.block _ (by omega)]; exact h.cfg, by rw [hb.block _ (by omega)]; exact h.res, by rw [hb.block _ (by omega)]; exact h.err⟩
theorem PRSt.lt {w W : World} {K N S : Int} (h : PRSt w W K N S) : w.heap.size + 3 ≤ W.heap.size := by have := lt_of_block h.err; omega
theorem PRSt.cfgs {w W : World} {K N S : Int} (h : PRSt w W K N S) : W.cell? ⟨w.heap.size, 0, none⟩ = some (.int .i64 K) ∧ W.cell? ⟨w.heap.size, 1, none⟩ = some (.int .i64 N) ∧ W.cell? ⟨w.heap.size, 2, none⟩ = some (.int .i64 S) :=
  ⟨cell_of_row W _ 0 _ _ _ h.cfg, cell_of_row W _ 1 _ _ _ h.cfg, cell_of_row W _ 2 _ _ _ h.cfg⟩

/-- What murmurref.Parse gives where there is a configuration. -/
def RPGives (K N S : Nat) (l : List Gf.F) (w : World) (e : Ending) (w' : World) : Prop :=
  (match parseE K N S l with
  | some (c, k) => e = .returned (.tuple #[.agg #[.int .i64 0, .int .i64 0, .int .i64 0, .int .i64 0, .int .i64 0, .slice none 0 0, .slice none 0 0], .agg #[.int .i64 (c : Int), .int .i64 (k : Int)]])
  | none => if bt l 0 = 1 then ∃ a c1, e = .returned (.tuple #[.agg #[.int .i64 (bt l 0 : Int), .int .i64 (bt l 1 : Int), .int .i64 (lenOf l : Int), .int .i64 (bt (l.drop 4) 0 : Int), .int .i64 (bt (l.drop 4) 1 : Int), .slice a S c1, .slice none 0 0], .agg #[.int .i64 0, .int .i64 (-1)]]) ∧ w'.ownsRow w.heap.size 5 1 (.slice a S c1) S (encL ((l.drop 4).drop 2))
    else ∃ a c1, e = .returned (.tuple #[.agg #[.int .i64 (bt l 0 : Int), .int .i64 (bt l 1 : Int), .int .i64 (lenOf l : Int), .int .i64 0, .int .i64 0, .slice none 0 0, .slice a (bt (l.drop 4) 0) c1], .agg #[.int .i64 0, .int .i64 (-1)]]) ∧ w'.ownsRow w.heap.size 122 2 (.slice a (bt (l.drop 4) 0) c1) (bt (l.drop 4) 0) (lackCells (l.drop 4) (bt (l.drop 4) 0))) ∧ Below w.heap.size w w'
theorem RPGives.bad {K N S c k : Nat} {kk : Int} {l : List Gf.F} {w w' : World} (h : parseE K N S l = some (c, k)) (hk : kk = (k : Int)) (hb : Below w.heap.size w w') :
    RPGives K N S l w (.returned (.tuple #[.agg #[.int .i64 0, .int .i64 0, .int .i64 0, .int .i64 0, .int .i64 0, .slice none 0 0, .slice none 0 0], .agg #[.int .i64 (c : Int), .int .i64 kk]])) w' := by
  unfold RPGives
  rw [h, hk]
  exact ⟨rfl, hb⟩
theorem parseE_head {K N S : Nat} {l : List Gf.F} {e : Nat × Nat} (h : headE l = some e) : parseE K N S l = some e := by unfold parseE; rw [h]

theorem RDGives.form {K N S T x0 x1 L : Nat} {l : List Gf.F} {W W1 : World} {e : Ending} (h : RDGives K N S T l x0 x1 L W e W1) : ∃ (z0 z1 z2 z3 z4 : Int) (a5 a6 : Option Addr) (n5 c5 n6 c6 : Nat) (u0 u1 : Int), e = .returned (.tuple #[.agg #[.int .i64 z0, .int .i64 z1, .int .i64 z2, .int .i64 z3, .int .i64 z4, .slice a5 n5 c5, .slice a6 n6 c6], .agg #[.int .i64 u0, .int .i64 u1]]) := by
  obtain ⟨h1, _⟩ := h
  cases hp : dataB K N S T (l.drop 4) with
  | some ep => obtain ⟨c, k⟩ := ep; rw [hp] at h1; exact ⟨_, _, _, _, _, _, _, _, _, _, _, _, _, h1⟩
  | none => rw [hp] at h1; obtain ⟨a, c1, he, _⟩ := h1; exact ⟨_, _, _, _, _, _, _, _, _, _, _, _, _, he⟩
theorem RAGives.form {K T x0 x1 L : Nat} {l : List Gf.F} {W W1 : World} {e : Ending} (h : RAGives K T l x0 x1 L W e W1) : ∃ (z0 z1 z2 z3 z4 : Int) (a5 a6 : Option Addr) (n5 c5 n6 c6 : Nat) (u0 u1 : Int), e = .returned (.tuple #[.agg #[.int .i64 z0, .int .i64 z1, .int .i64 z2, .int .i64 z3, .int .i64 z4, .slice a5 n5 c5, .slice a6 n6 c6], .agg #[.int .i64 u0, .int .i64 u1]]) := by
  obtain ⟨h1, _⟩ := h
  cases hp : asksB K T (l.drop 4) with
  | some ep => obtain ⟨c, k⟩ := ep; rw [hp] at h1; exact ⟨_, _, _, _, _, _, _, _, _, _, _, _, _, h1⟩
  | none => rw [hp] at h1; obtain ⟨a, c1, he, _⟩ := h1; exact ⟨_, _, _, _, _, _, _, _, _, _, _, _, _, he⟩
theorem RDGives.lift {K N S x0 x1 L rp re : Nat} {l : List Gf.F} {w W W1 W2 : World} {e : Ending} (h : RDGives K N S (symN S L) l x0 x1 L W e W1) (hb : Below w.heap.size w W) (h2 : But (fun g => g = rp ∨ g = re) W1 W2) (hr : rp < W.heap.size) (hr2 : re < W.heap.size) (hr3 : w.heap.size ≤ rp) (hr4 : w.heap.size ≤ re) (hd : headE l = none) (hk : bt l 0 = 1) (hx0 : x0 = bt l 0) (hx1 : x1 = bt l 1) (hL : L = bt l 2 * 256 + bt l 3) : RPGives K N S l w e W2 := by
  obtain ⟨h1, hb1⟩ := h
  have hs := hb.size
  have hs1 := hb1.size
  have hL' : L = lenOf l := hL
  have hpe : parseE K N S l = (dataB K N S (symN S L) (l.drop 4)).map fun e => (e.1, e.2 + 4) := by
    unfold parseE
    rw [hd]
    show Option.map _ _ = _
    rw [if_pos hk, ← hL']
  refine ⟨?_, (hb.trans (hb1.mono hs)).trans (h2.toBelow (by omega) (fun k hk q => by omega))⟩
  rw [hpe]
  cases hp : dataB K N S (symN S L) (l.drop 4) with
  | some ep => obtain ⟨c, k⟩ := ep; rw [hp] at h1; exact h1
  | none =>
    rw [hp] at h1
    obtain ⟨a, c1, he, ho⟩ := h1
    show ite _ _ _
    rw [if_pos hk]
    exact ⟨a, c1, by rw [he, hx0, hx1, hL'], own_base2 (h2.own ho (fun g hg q => by have := (ho.lt g hg).1; omega)) hs⟩
theorem RAGives.lift {K N S x0 x1 L rp re : Nat} {l : List Gf.F} {w W W1 W2 : World} {e : Ending} (h : RAGives K (symN S L) l x0 x1 L W e W1) (hb : Below w.heap.size w W) (h2 : But (fun g => g = rp ∨ g = re) W1 W2) (hr : rp < W.heap.size) (hr2 : re < W.heap.size) (hr3 : w.heap.size ≤ rp) (hr4 : w.heap.size ≤ re) (hd : headE l = none) (hk : ¬ bt l 0 = 1) (hx0 : x0 = bt l 0) (hx1 : x1 = bt l 1) (hL : L = bt l 2 * 256 + bt l 3) : RPGives K N S l w e W2 := by
  obtain ⟨h1, hb1⟩ := h
  have hs := hb.size
  have hs1 := hb1.size
  have hL' : L = lenOf l := hL
  have hpe : parseE K N S l = (asksB K (symN S L) (l.drop 4)).map fun e => (e.1, e.2 + 4) := by
    unfold parseE
    rw [hd]
    show Option.map _ _ = _
    rw [if_neg hk, ← hL']
  refine ⟨?_, (hb.trans (hb1.mono hs)).trans (h2.toBelow (by omega) (fun k hk q => by omega))⟩
  rw [hpe]
  cases hp : asksB K (symN S L) (l.drop 4) with
  | some ep => obtain ⟨c, k⟩ := ep; rw [hp] at h1; exact h1
  | none =>
    rw [hp] at h1
    obtain ⟨a, c1, he, ho⟩ := h1
    show ite _ _ _
    rw [if_neg hk]
    exact ⟨a, c1, by rw [he, hx0, hx1, hL'], own_base2 (h2.own ho (fun g hg q => by have := (ho.lt g hg).1; omega)) hs⟩

section
variable {l : List Gf.F}
theorem headE_0 (h : l.length < 1) : headE l = some (4, l.length) := by unfold headE; rw [if_pos h]
theorem headE_1 (h : ¬ l.length < 1) (h1 : kindB (bt l 0) = false) : headE l = some (5, 0) := by unfold headE; rw [if_neg h, if_pos h1]
theorem headE_2 (h : ¬ l.length < 1) (h1 : kindB (bt l 0) = true) (h2 : l.length < 2) : headE l = some (4, l.length) := by unfold headE; rw [if_neg h, if_neg (by rw [h1]; decide), if_pos h2]
theorem headE_3 (h : ¬ l.length < 1) (h1 : kindB (bt l 0) = true) (h2 : ¬ l.length < 2) (h3 : objB (bt l 1) = false) : headE l = some (6, 1) := by unfold headE; rw [if_neg h, if_neg (by rw [h1]; decide), if_neg h2, if_pos h3]
theorem headE_4 (h : ¬ l.length < 1) (h1 : kindB (bt l 0) = true) (h2 : ¬ l.length < 2) (h3 : objB (bt l 1) = true) (h4 : l.length < 4) : headE l = some (4, l.length) := by unfold headE; rw [if_neg h, if_neg (by rw [h1]; decide), if_neg h2, if_neg (by rw [h3]; decide), if_pos h4]
theorem headE_5 (h : ¬ l.length < 1) (h1 : kindB (bt l 0) = true) (h2 : ¬ l.length < 2) (h3 : objB (bt l 1) = true) (h4 : ¬ l.length < 4) (h5 : lenB (bt l 2 * 256 + bt l 3) = false) : headE l = some (6, 2) := by unfold headE; rw [if_neg h, if_neg (by rw [h1]; decide), if_neg h2, if_neg (by rw [h3]; decide), if_neg h4, if_pos h5]
theorem headE_6 (h : ¬ l.length < 1) (h1 : kindB (bt l 0) = true) (h2 : ¬ l.length < 2) (h3 : objB (bt l 1) = true) (h4 : ¬ l.length < 4) (h5 : lenB (bt l 2 * 256 + bt l 3) = true) : headE l = none := by unfold headE; rw [if_neg h, if_neg (by rw [h1]; decide), if_neg h2, if_neg (by rw [h3]; decide), if_neg h4, if_neg (by rw [h5]; decide)]
end

set_option maxRecDepth 100000 in
set_option maxHeartbeats 4000000 in
theorem rparse_ok (a : Option Addr) (b o n c K N S : Nat) (l : List Gf.F) (w : World) (hcfg : Cfg K N S) (hcb : cfgB (K : Int) (N : Int) (S : Int) = true) (hl : l.length = n) (hn : n ≤ c) (hn2 : n ≤ 140737488355328) (ha : 0 < n → a = some ⟨b, o, none⟩) (hB : Bs w b o l) (hb : 0 < n → b < w.heap.size) :
    Calls Tryz.prog 135 #[.agg #[.int .i64 (K : Int), .int .i64 (N : Int), .int .i64 (S : Int)], .slice a n c] w (RPGives K N S l w) := by
  have HCF : Hid (Cfg K N S) := hcfg
  clear hcfg
  have hst := PRSt.start w (K : Int) (N : Int) (S : Int)
  go_enter Tryz.func135, Tryz.ntmps135
  go_upto_region 1 with fail
  generalize (((w.alloc (.cells #[.int .i64 (K : Int), .int .i64 (N : Int), .int .i64 (S : Int)] 30)).alloc (.cells #[.int .i64 0, .int .i64 0, .int .i64 0, .int .i64 0, .int .i64 0, .slice none 0 0, .slice none 0 0] 60)).alloc (.cells #[.int .i64 0, .int .i64 0] 139)) = W at *
  rw [show w.heap.size + 1 + 1 = w.heap.size + 2 from rfl]
  obtain ⟨k0, k1, k2⟩ := hst.cfgs
  have hlt := hst.lt
  go_wp2_with fail
  refine (right_any (K : Int) (N : Int) (S : Int) W).mono ?_
  rw [hcb]
  rintro e W1 ⟨rfl, hb1⟩
  have hst1 := hst.above (hb1.mono hlt)
  have hlt1 := hst1.lt
  have hst2 := hst1.above ((Below.refl (w.heap.size + 3) W1).alloc hlt1 (.cells #[.int .i64 4, .int .i64 (n : Int)] 139))
  have hsh : (W1.alloc (.cells #[.int .i64 4, .int .i64 (n : Int)] 139)).heap[W1.heap.size]? = some (.cells #[.int .i64 4, .int .i64 (n : Int)] 139 (0, 0)) := heap_alloc_new W1 _
  go_upto_region 5 with fail
  generalize W1.alloc (.cells #[.int .i64 4, .int .i64 (n : Int)] 139) = W2 at hst2 hsh ⊢
  generalize hsb : W1.heap.size = sb at hsh hlt1 ⊢
  clear hst hst1 k0 k1 k2 hsb hb1 hlt
  have s0 : W2.cell? ⟨sb, 0, none⟩ = some (.int .i64 4) := cell_of_row W2 _ 0 _ _ _ hsh
  have s1 : W2.cell? ⟨sb, 1, none⟩ = some (.int .i64 (n : Int)) := cell_of_row W2 _ 1 _ _ _ hsh
  have hn1 : sb ≠ w.heap.size + 1 := by omega
  have hn3 : sb ≠ w.heap.size + 2 := by omega
  by_cases hq0 : n < 1
  · have hq0' : (n : Int) < 1 := by omega
    obtain ⟨c0, c1, c2, c3, c4, c5, c6⟩ := row7 hst2.res
    have e0 : W2.cell? ⟨w.heap.size + 2, 0, none⟩ = some (.int .i64 0) := cell_of_row W2 _ 0 _ _ _ hst2.err
    have e1 : W2.cell? ⟨w.heap.size + 2, 1, none⟩ = some (.int .i64 0) := cell_of_row W2 _ 1 _ _ _ hst2.err
    have f0 := frozen_of_row W2 _ 0 _ _ hst2.res
    have f1 := frozen_of_row W2 _ 1 _ _ hst2.res
    have f2 := frozen_of_row W2 _ 2 _ _ hst2.res
    have f3 := frozen_of_row W2 _ 3 _ _ hst2.res
    have f4 := frozen_of_row W2 _ 4 _ _ hst2.res
    have f5 := frozen_of_row W2 _ 5 _ _ hst2.res
    have f6 := frozen_of_row W2 _ 6 _ _ hst2.res
    have g0 := frozen_of_row W2 _ 0 _ _ hst2.err
    have g1 := frozen_of_row W2 _ 1 _ _ hst2.err
    have hne9 : ¬ w.heap.size + 1 = w.heap.size + 2 := by omega
    have hp := put9 W2 (w.heap.size + 1) (w.heap.size + 2) (.int .i64 0) (.int .i64 0) (.int .i64 0) (.int .i64 0) (.int .i64 0) (.slice none 0 0) (.slice none 0 0) (.int .i64 0) (.int .i64 0) (.int .i64 0) (.int .i64 0) (.int .i64 0) (.int .i64 0) (.int .i64 0) (.slice none 0 0) (.slice none 0 0) (.int .i64 4) (.int .i64 (n : Int)) hst2.res hst2.err (by omega)
    have hq := put9b W2 (w.heap.size + 1) (w.heap.size + 2) (.int .i64 0) (.int .i64 0) (.int .i64 0) (.int .i64 0) (.int .i64 0) (.slice none 0 0) (.slice none 0 0) (.int .i64 0) (.int .i64 0) (.int .i64 0) (.int .i64 0) (.int .i64 0) (.int .i64 0) (.int .i64 0) (.slice none 0 0) (.slice none 0 0) (.int .i64 4) (.int .i64 (n : Int)) hst2.res hst2.err (by omega)
    go_wp2_with fail
    go_region
    all_goals
      first
        | generalize (((((((((W2.setCell ⟨w.heap.size + 1, 0, none⟩ (.int .i64 0)).setCell ⟨w.heap.size + 1, 1, none⟩ (.int .i64 0)).setCell ⟨w.heap.size + 1, 2, none⟩ (.int .i64 0)).setCell ⟨w.heap.size + 1, 3, none⟩ (.int .i64 0)).setCell ⟨w.heap.size + 1, 4, none⟩ (.int .i64 0)).setCell ⟨w.heap.size + 1, 5, none⟩ (.slice none 0 0)).setCell ⟨w.heap.size + 1, 6, none⟩ (.slice none 0 0)).setCell ⟨w.heap.size + 2, 0, none⟩ (.int .i64 4)).setCell ⟨w.heap.size + 2, 1, none⟩ (.int .i64 (n : Int))) = W9 at hp ⊢
        | (replace hp := hq; generalize (((((((((W2.setCell ⟨w.heap.size + 2, 0, none⟩ (.int .i64 4)).setCell ⟨w.heap.size + 2, 1, none⟩ (.int .i64 (n : Int))).setCell ⟨w.heap.size + 1, 0, none⟩ (.int .i64 0)).setCell ⟨w.heap.size + 1, 1, none⟩ (.int .i64 0)).setCell ⟨w.heap.size + 1, 2, none⟩ (.int .i64 0)).setCell ⟨w.heap.size + 1, 3, none⟩ (.int .i64 0)).setCell ⟨w.heap.size + 1, 4, none⟩ (.int .i64 0)).setCell ⟨w.heap.size + 1, 5, none⟩ (.slice none 0 0)).setCell ⟨w.heap.size + 1, 6, none⟩ (.slice none 0 0)) = W9 at hp ⊢)
      clear hq
      obtain ⟨hp1, hp2, hp3⟩ := hp
      obtain ⟨d0, d1, d2, d3, d4, d5, d6⟩ := row7 (show W9.drew.heap[w.heap.size + 1]? = _ from hp1)
      have d7 : W9.drew.cell? ⟨w.heap.size + 2, 0, none⟩ = some (.int .i64 4) := cell_of_row _ _ 0 _ _ _ (show W9.drew.heap[w.heap.size + 2]? = _ from hp2)
      have d8 : W9.drew.cell? ⟨w.heap.size + 2, 1, none⟩ = some (.int .i64 (n : Int)) := cell_of_row _ _ 1 _ _ _ (show W9.drew.heap[w.heap.size + 2]? = _ from hp2)
      clear c0 c1 c2 c3 c4 c5 c6 f0 f1 f2 f3 f4 f5 f6 g0 g1 e0 e1
      have hp4 : But (fun g => g = w.heap.size + 1 ∨ g = w.heap.size + 2) W2 W9.drew := hp3.drew
      replace hp3 := hp4
      clear hp4 hp1 hp2
      generalize W9.drew = W10 at *
      go_wp2_with fail
      exact bodyPost_ret (v := .tuple #[.agg #[.int .i64 0, .int .i64 0, .int .i64 0, .int .i64 0, .int .i64 0, .slice none 0 0, .slice none 0 0], .agg #[.int .i64 4, .int .i64 (n : Int)]]) (by simp [results, Tryz.results135, go_sem, d0, d1, d2, d3, d4, d5, d6, d7, d8]) rfl (RPGives.bad (c := 4) (k := l.length) (parseE_head (headE_0 (by omega))) (by rw [hl]) (hst2.low.trans (hp3.toBelow (by have := hst2.low.size; omega) (fun k hk q => by omega))))
  · have hq0' : ¬ (n : Int) < 1 := by omega
    obtain rfl := ha (by omega)
    have hbl := hb (by omega)
    have HIN : Hid (∀ {W : World}, Below w.heap.size w W → ∀ i, i < n → W.cell? ⟨b, o + i, none⟩ = some (.int .u8 (bt l i : Int))) := fun hb i hi => by rw [hb.cell (p := ⟨b, o + i, none⟩) hbl]; exact hB i (by omega)
    have i0 : W2.cell? ⟨b, o, none⟩ = some (.int .u8 (bt l 0 : Int)) := HIN.out hst2.low 0 (by omega)
    have h0 := bt_lt l 0
    cases hk0 : kindB (bt l 0)
    · have hd := of_decide_eq_false hk0
      have hd1 : ((bt l 0 : Int) != 1) = true := by simp; omega
      have hd2 : ((bt l 0 : Int) != 2) = true := by simp; omega
      obtain ⟨c0, c1, c2, c3, c4, c5, c6⟩ := row7 hst2.res
      have e0 : W2.cell? ⟨w.heap.size + 2, 0, none⟩ = some (.int .i64 0) := cell_of_row W2 _ 0 _ _ _ hst2.err
      have e1 : W2.cell? ⟨w.heap.size + 2, 1, none⟩ = some (.int .i64 0) := cell_of_row W2 _ 1 _ _ _ hst2.err
      have f0 := frozen_of_row W2 _ 0 _ _ hst2.res
      have f1 := frozen_of_row W2 _ 1 _ _ hst2.res
      have f2 := frozen_of_row W2 _ 2 _ _ hst2.res
      have f3 := frozen_of_row W2 _ 3 _ _ hst2.res
      have f4 := frozen_of_row W2 _ 4 _ _ hst2.res
      have f5 := frozen_of_row W2 _ 5 _ _ hst2.res
      have f6 := frozen_of_row W2 _ 6 _ _ hst2.res
      have g0 := frozen_of_row W2 _ 0 _ _ hst2.err
      have g1 := frozen_of_row W2 _ 1 _ _ hst2.err
      have hne9 : ¬ w.heap.size + 1 = w.heap.size + 2 := by omega
      have hp := put9 W2 (w.heap.size + 1) (w.heap.size + 2) (.int .i64 0) (.int .i64 0) (.int .i64 0) (.int .i64 0) (.int .i64 0) (.slice none 0 0) (.slice none 0 0) (.int .i64 0) (.int .i64 0) (.int .i64 0) (.int .i64 0) (.int .i64 0) (.int .i64 0) (.int .i64 0) (.slice none 0 0) (.slice none 0 0) (.int .i64 5) (.int .i64 0) hst2.res hst2.err (by omega)
      go_wp2_with fail
      generalize (((((((((W2.setCell ⟨w.heap.size + 1, 0, none⟩ (.int .i64 0)).setCell ⟨w.heap.size + 1, 1, none⟩ (.int .i64 0)).setCell ⟨w.heap.size + 1, 2, none⟩ (.int .i64 0)).setCell ⟨w.heap.size + 1, 3, none⟩ (.int .i64 0)).setCell ⟨w.heap.size + 1, 4, none⟩ (.int .i64 0)).setCell ⟨w.heap.size + 1, 5, none⟩ (.slice none 0 0)).setCell ⟨w.heap.size + 1, 6, none⟩ (.slice none 0 0)).setCell ⟨w.heap.size + 2, 0, none⟩ (.int .i64 5)).setCell ⟨w.heap.size + 2, 1, none⟩ (.int .i64 0)) = W9 at hp ⊢
      obtain ⟨hp1, hp2, hp3⟩ := hp
      obtain ⟨d0, d1, d2, d3, d4, d5, d6⟩ := row7 (show W9.heap[w.heap.size + 1]? = _ from hp1)
      have d7 : W9.cell? ⟨w.heap.size + 2, 0, none⟩ = some (.int .i64 5) := cell_of_row _ _ 0 _ _ _ (show W9.heap[w.heap.size + 2]? = _ from hp2)
      have d8 : W9.cell? ⟨w.heap.size + 2, 1, none⟩ = some (.int .i64 0) := cell_of_row _ _ 1 _ _ _ (show W9.heap[w.heap.size + 2]? = _ from hp2)
      clear c0 c1 c2 c3 c4 c5 c6 f0 f1 f2 f3 f4 f5 f6 g0 g1 e0 e1
      exact bodyPost_ret (v := .tuple #[.agg #[.int .i64 0, .int .i64 0, .int .i64 0, .int .i64 0, .int .i64 0, .slice none 0 0, .slice none 0 0], .agg #[.int .i64 5, .int .i64 0]]) (by simp [results, Tryz.results135, go_sem, d0, d1, d2, d3, d4, d5, d6, d7, d8]) rfl (RPGives.bad (c := 5) (k := 0) (parseE_head (headE_1 (by omega) hk0)) (rfl) (hst2.low.trans (hp3.toBelow (by have := hst2.low.size; omega) (fun k hk q => by omega))))
    · have hd : bt l 0 = 1 ∨ bt l 0 = 2 := of_decide_eq_true hk0
      go_upto_region 7 with fail
      go_cut [32] (fun t wx => t = .bool false ∧ wx = W2)
      case first =>
        rcases hd with hd | hd
        · have hd1 : ((bt l 0 : Int) != 1) = false := by simp; omega
          go_wp2_with fail
          go_meet
          exact ⟨rfl, rfl⟩
        · have hd1 : ((bt l 0 : Int) != 1) = true := by simp; omega
          have hd2 : ((bt l 0 : Int) != 2) = false := by simp; omega
          go_wp2_with fail
          go_meet
          exact ⟨rfl, rfl⟩
      case rest =>
        obtain ⟨rfl, rfl⟩ := hcut
        obtain ⟨W2, rfl⟩ : ∃ x, x = wc := ⟨wc, rfl⟩
        by_cases hq1 : n < 2
        · have hq1' : (n : Int) < 2 := by omega
          obtain ⟨c0, c1, c2, c3, c4, c5, c6⟩ := row7 hst2.res
          have e0 : W2.cell? ⟨w.heap.size + 2, 0, none⟩ = some (.int .i64 0) := cell_of_row W2 _ 0 _ _ _ hst2.err
          have e1 : W2.cell? ⟨w.heap.size + 2, 1, none⟩ = some (.int .i64 0) := cell_of_row W2 _ 1 _ _ _ hst2.err
          have f0 := frozen_of_row W2 _ 0 _ _ hst2.res
          have f1 := frozen_of_row W2 _ 1 _ _ hst2.res
          have f2 := frozen_of_row W2 _ 2 _ _ hst2.res
          have f3 := frozen_of_row W2 _ 3 _ _ hst2.res
          have f4 := frozen_of_row W2 _ 4 _ _ hst2.res
          have f5 := frozen_of_row W2 _ 5 _ _ hst2.res
          have f6 := frozen_of_row W2 _ 6 _ _ hst2.res
          have g0 := frozen_of_row W2 _ 0 _ _ hst2.err
          have g1 := frozen_of_row W2 _ 1 _ _ hst2.err
          have hne9 : ¬ w.heap.size + 1 = w.heap.size + 2 := by omega
          have hp := put9 W2 (w.heap.size + 1) (w.heap.size + 2) (.int .i64 0) (.int .i64 0) (.int .i64 0) (.int .i64 0) (.int .i64 0) (.slice none 0 0) (.slice none 0 0) (.int .i64 0) (.int .i64 0) (.int .i64 0) (.int .i64 0) (.int .i64 0) (.int .i64 0) (.int .i64 0) (.slice none 0 0) (.slice none 0 0) (.int .i64 4) (.int .i64 (n : Int)) hst2.res hst2.err (by omega)
          have hq := put9b W2 (w.heap.size + 1) (w.heap.size + 2) (.int .i64 0) (.int .i64 0) (.int .i64 0) (.int .i64 0) (.int .i64 0) (.slice none 0 0) (.slice none 0 0) (.int .i64 0) (.int .i64 0) (.int .i64 0) (.int .i64 0) (.int .i64 0) (.int .i64 0) (.int .i64 0) (.slice none 0 0) (.slice none 0 0) (.int .i64 4) (.int .i64 (n : Int)) hst2.res hst2.err (by omega)
          go_wp2_with fail
          go_region
          all_goals
            first
              | generalize (((((((((W2.setCell ⟨w.heap.size + 1, 0, none⟩ (.int .i64 0)).setCell ⟨w.heap.size + 1, 1, none⟩ (.int .i64 0)).setCell ⟨w.heap.size + 1, 2, none⟩ (.int .i64 0)).setCell ⟨w.heap.size + 1, 3, none⟩ (.int .i64 0)).setCell ⟨w.heap.size + 1, 4, none⟩ (.int .i64 0)).setCell ⟨w.heap.size + 1, 5, none⟩ (.slice none 0 0)).setCell ⟨w.heap.size + 1, 6, none⟩ (.slice none 0 0)).setCell ⟨w.heap.size + 2, 0, none⟩ (.int .i64 4)).setCell ⟨w.heap.size + 2, 1, none⟩ (.int .i64 (n : Int))) = W9 at hp ⊢
              | (replace hp := hq; generalize (((((((((W2.setCell ⟨w.heap.size + 2, 0, none⟩ (.int .i64 4)).setCell ⟨w.heap.size + 2, 1, none⟩ (.int .i64 (n : Int))).setCell ⟨w.heap.size + 1, 0, none⟩ (.int .i64 0)).setCell ⟨w.heap.size + 1, 1, none⟩ (.int .i64 0)).setCell ⟨w.heap.size + 1, 2, none⟩ (.int .i64 0)).setCell ⟨w.heap.size + 1, 3, none⟩ (.int .i64 0)).setCell ⟨w.heap.size + 1, 4, none⟩ (.int .i64 0)).setCell ⟨w.heap.size + 1, 5, none⟩ (.slice none 0 0)).setCell ⟨w.heap.size + 1, 6, none⟩ (.slice none 0 0)) = W9 at hp ⊢)
            clear hq
            obtain ⟨hp1, hp2, hp3⟩ := hp
            obtain ⟨d0, d1, d2, d3, d4, d5, d6⟩ := row7 (show W9.drew.heap[w.heap.size + 1]? = _ from hp1)
            have d7 : W9.drew.cell? ⟨w.heap.size + 2, 0, none⟩ = some (.int .i64 4) := cell_of_row _ _ 0 _ _ _ (show W9.drew.heap[w.heap.size + 2]? = _ from hp2)
            have d8 : W9.drew.cell? ⟨w.heap.size + 2, 1, none⟩ = some (.int .i64 (n : Int)) := cell_of_row _ _ 1 _ _ _ (show W9.drew.heap[w.heap.size + 2]? = _ from hp2)
            clear c0 c1 c2 c3 c4 c5 c6 f0 f1 f2 f3 f4 f5 f6 g0 g1 e0 e1
            have hp4 : But (fun g => g = w.heap.size + 1 ∨ g = w.heap.size + 2) W2 W9.drew := hp3.drew
            replace hp3 := hp4
            clear hp4 hp1 hp2
            generalize W9.drew = W10 at *
            go_wp2_with fail
            exact bodyPost_ret (v := .tuple #[.agg #[.int .i64 0, .int .i64 0, .int .i64 0, .int .i64 0, .int .i64 0, .slice none 0 0, .slice none 0 0], .agg #[.int .i64 4, .int .i64 (n : Int)]]) (by simp [results, Tryz.results135, go_sem, d0, d1, d2, d3, d4, d5, d6, d7, d8]) rfl (RPGives.bad (c := 4) (k := l.length) (parseE_head (headE_2 (by omega) hk0 (by omega))) (by rw [hl]) (hst2.low.trans (hp3.toBelow (by have := hst2.low.size; omega) (fun k hk q => by omega))))
        · have hq1' : ¬ (n : Int) < 2 := by omega
          have i1 : W2.cell? ⟨b, o + 1, none⟩ = some (.int .u8 (bt l 1 : Int)) := HIN.out hst2.low 1 (by omega)
          have h1 := bt_lt l 1
          cases hk1 : objB (bt l 1)
          · have ho : ¬ bt l 1 < 16 := of_decide_eq_false hk1
            have ho' : (bt l 1 : Int) > 15 := by omega
            obtain ⟨c0, c1, c2, c3, c4, c5, c6⟩ := row7 hst2.res
            have e0 : W2.cell? ⟨w.heap.size + 2, 0, none⟩ = some (.int .i64 0) := cell_of_row W2 _ 0 _ _ _ hst2.err
            have e1 : W2.cell? ⟨w.heap.size + 2, 1, none⟩ = some (.int .i64 0) := cell_of_row W2 _ 1 _ _ _ hst2.err
            have f0 := frozen_of_row W2 _ 0 _ _ hst2.res
            have f1 := frozen_of_row W2 _ 1 _ _ hst2.res
            have f2 := frozen_of_row W2 _ 2 _ _ hst2.res
            have f3 := frozen_of_row W2 _ 3 _ _ hst2.res
            have f4 := frozen_of_row W2 _ 4 _ _ hst2.res
            have f5 := frozen_of_row W2 _ 5 _ _ hst2.res
            have f6 := frozen_of_row W2 _ 6 _ _ hst2.res
            have g0 := frozen_of_row W2 _ 0 _ _ hst2.err
            have g1 := frozen_of_row W2 _ 1 _ _ hst2.err
            have hne9 : ¬ w.heap.size + 1 = w.heap.size + 2 := by omega
            have hp := put9 W2 (w.heap.size + 1) (w.heap.size + 2) (.int .i64 0) (.int .i64 0) (.int .i64 0) (.int .i64 0) (.int .i64 0) (.slice none 0 0) (.slice none 0 0) (.int .i64 0) (.int .i64 0) (.int .i64 0) (.int .i64 0) (.int .i64 0) (.int .i64 0) (.int .i64 0) (.slice none 0 0) (.slice none 0 0) (.int .i64 6) (.int .i64 1) hst2.res hst2.err (by omega)
            go_wp2_with fail
            generalize (((((((((W2.setCell ⟨w.heap.size + 1, 0, none⟩ (.int .i64 0)).setCell ⟨w.heap.size + 1, 1, none⟩ (.int .i64 0)).setCell ⟨w.heap.size + 1, 2, none⟩ (.int .i64 0)).setCell ⟨w.heap.size + 1, 3, none⟩ (.int .i64 0)).setCell ⟨w.heap.size + 1, 4, none⟩ (.int .i64 0)).setCell ⟨w.heap.size + 1, 5, none⟩ (.slice none 0 0)).setCell ⟨w.heap.size + 1, 6, none⟩ (.slice none 0 0)).setCell ⟨w.heap.size + 2, 0, none⟩ (.int .i64 6)).setCell ⟨w.heap.size + 2, 1, none⟩ (.int .i64 1)) = W9 at hp ⊢
            obtain ⟨hp1, hp2, hp3⟩ := hp
            obtain ⟨d0, d1, d2, d3, d4, d5, d6⟩ := row7 (show W9.heap[w.heap.size + 1]? = _ from hp1)
            have d7 : W9.cell? ⟨w.heap.size + 2, 0, none⟩ = some (.int .i64 6) := cell_of_row _ _ 0 _ _ _ (show W9.heap[w.heap.size + 2]? = _ from hp2)
            have d8 : W9.cell? ⟨w.heap.size + 2, 1, none⟩ = some (.int .i64 1) := cell_of_row _ _ 1 _ _ _ (show W9.heap[w.heap.size + 2]? = _ from hp2)
            clear c0 c1 c2 c3 c4 c5 c6 f0 f1 f2 f3 f4 f5 f6 g0 g1 e0 e1
            exact bodyPost_ret (v := .tuple #[.agg #[.int .i64 0, .int .i64 0, .int .i64 0, .int .i64 0, .int .i64 0, .slice none 0 0, .slice none 0 0], .agg #[.int .i64 6, .int .i64 1]]) (by simp [results, Tryz.results135, go_sem, d0, d1, d2, d3, d4, d5, d6, d7, d8]) rfl (RPGives.bad (c := 6) (k := 1) (parseE_head (headE_3 (by omega) hk0 (by omega) hk1)) (rfl) (hst2.low.trans (hp3.toBelow (by have := hst2.low.size; omega) (fun k hk q => by omega))))
          · have ho : bt l 1 < 16 := of_decide_eq_true hk1
            have ho' : ¬ (bt l 1 : Int) > 15 := by omega
            by_cases hq2 : n < 4
            · have hq2' : (n : Int) < 4 := by omega
              obtain ⟨c0, c1, c2, c3, c4, c5, c6⟩ := row7 hst2.res
              have e0 : W2.cell? ⟨w.heap.size + 2, 0, none⟩ = some (.int .i64 0) := cell_of_row W2 _ 0 _ _ _ hst2.err
              have e1 : W2.cell? ⟨w.heap.size + 2, 1, none⟩ = some (.int .i64 0) := cell_of_row W2 _ 1 _ _ _ hst2.err
              have f0 := frozen_of_row W2 _ 0 _ _ hst2.res
              have f1 := frozen_of_row W2 _ 1 _ _ hst2.res
              have f2 := frozen_of_row W2 _ 2 _ _ hst2.res
              have f3 := frozen_of_row W2 _ 3 _ _ hst2.res
              have f4 := frozen_of_row W2 _ 4 _ _ hst2.res
              have f5 := frozen_of_row W2 _ 5 _ _ hst2.res
              have f6 := frozen_of_row W2 _ 6 _ _ hst2.res
              have g0 := frozen_of_row W2 _ 0 _ _ hst2.err
              have g1 := frozen_of_row W2 _ 1 _ _ hst2.err
              have hne9 : ¬ w.heap.size + 1 = w.heap.size + 2 := by omega
              have hp := put9 W2 (w.heap.size + 1) (w.heap.size + 2) (.int .i64 0) (.int .i64 0) (.int .i64 0) (.int .i64 0) (.int .i64 0) (.slice none 0 0) (.slice none 0 0) (.int .i64 0) (.int .i64 0) (.int .i64 0) (.int .i64 0) (.int .i64 0) (.int .i64 0) (.int .i64 0) (.slice none 0 0) (.slice none 0 0) (.int .i64 4) (.int .i64 (n : Int)) hst2.res hst2.err (by omega)
              have hq := put9b W2 (w.heap.size + 1) (w.heap.size + 2) (.int .i64 0) (.int .i64 0) (.int .i64 0) (.int .i64 0) (.int .i64 0) (.slice none 0 0) (.slice none 0 0) (.int .i64 0) (.int .i64 0) (.int .i64 0) (.int .i64 0) (.int .i64 0) (.int .i64 0) (.int .i64 0) (.slice none 0 0) (.slice none 0 0) (.int .i64 4) (.int .i64 (n : Int)) hst2.res hst2.err (by omega)
              go_wp2_with fail
              go_region
              all_goals
                first
                  | generalize (((((((((W2.setCell ⟨w.heap.size + 1, 0, none⟩ (.int .i64 0)).setCell ⟨w.heap.size + 1, 1, none⟩ (.int .i64 0)).setCell ⟨w.heap.size + 1, 2, none⟩ (.int .i64 0)).setCell ⟨w.heap.size + 1, 3, none⟩ (.int .i64 0)).setCell ⟨w.heap.size + 1, 4, none⟩ (.int .i64 0)).setCell ⟨w.heap.size + 1, 5, none⟩ (.slice none 0 0)).setCell ⟨w.heap.size + 1, 6, none⟩ (.slice none 0 0)).setCell ⟨w.heap.size + 2, 0, none⟩ (.int .i64 4)).setCell ⟨w.heap.size + 2, 1, none⟩ (.int .i64 (n : Int))) = W9 at hp ⊢
                  | (replace hp := hq; generalize (((((((((W2.setCell ⟨w.heap.size + 2, 0, none⟩ (.int .i64 4)).setCell ⟨w.heap.size + 2, 1, none⟩ (.int .i64 (n : Int))).setCell ⟨w.heap.size + 1, 0, none⟩ (.int .i64 0)).setCell ⟨w.heap.size + 1, 1, none⟩ (.int .i64 0)).setCell ⟨w.heap.size + 1, 2, none⟩ (.int .i64 0)).setCell ⟨w.heap.size + 1, 3, none⟩ (.int .i64 0)).setCell ⟨w.heap.size + 1, 4, none⟩ (.int .i64 0)).setCell ⟨w.heap.size + 1, 5, none⟩ (.slice none 0 0)).setCell ⟨w.heap.size + 1, 6, none⟩ (.slice none 0 0)) = W9 at hp ⊢)
                clear hq
                obtain ⟨hp1, hp2, hp3⟩ := hp
                obtain ⟨d0, d1, d2, d3, d4, d5, d6⟩ := row7 (show W9.drew.heap[w.heap.size + 1]? = _ from hp1)
                have d7 : W9.drew.cell? ⟨w.heap.size + 2, 0, none⟩ = some (.int .i64 4) := cell_of_row _ _ 0 _ _ _ (show W9.drew.heap[w.heap.size + 2]? = _ from hp2)
                have d8 : W9.drew.cell? ⟨w.heap.size + 2, 1, none⟩ = some (.int .i64 (n : Int)) := cell_of_row _ _ 1 _ _ _ (show W9.drew.heap[w.heap.size + 2]? = _ from hp2)
                clear c0 c1 c2 c3 c4 c5 c6 f0 f1 f2 f3 f4 f5 f6 g0 g1 e0 e1
                have hp4 : But (fun g => g = w.heap.size + 1 ∨ g = w.heap.size + 2) W2 W9.drew := hp3.drew
                replace hp3 := hp4
                clear hp4 hp1 hp2
                generalize W9.drew = W10 at *
                go_wp2_with fail
                exact bodyPost_ret (v := .tuple #[.agg #[.int .i64 0, .int .i64 0, .int .i64 0, .int .i64 0, .int .i64 0, .slice none 0 0, .slice none 0 0], .agg #[.int .i64 4, .int .i64 (n : Int)]]) (by simp [results, Tryz.results135, go_sem, d0, d1, d2, d3, d4, d5, d6, d7, d8]) rfl (RPGives.bad (c := 4) (k := l.length) (parseE_head (headE_4 (by omega) hk0 (by omega) hk1 (by omega))) (by rw [hl]) (hst2.low.trans (hp3.toBelow (by have := hst2.low.size; omega) (fun k hk q => by omega))))
            · have hq2' : ¬ (n : Int) < 4 := by omega
              have i2 : W2.cell? ⟨b, o + 2, none⟩ = some (.int .u8 (bt l 2 : Int)) := HIN.out hst2.low 2 (by omega)
              have i3 : W2.cell? ⟨b, o + 3, none⟩ = some (.int .u8 (bt l 3 : Int)) := HIN.out hst2.low 3 (by omega)
              have h2 := bt_lt l 2
              have h3 := bt_lt l 3
              obtain ⟨L, hLe⟩ : ∃ L : Nat, L = bt l 2 * 256 + bt l 3 := ⟨_, rfl⟩
              have HLL : Hid (L = bt l 2 * 256 + bt l 3) := hLe
              have hLi : 256 * (bt l 2 : Int) + (bt l 3 : Int) = (L : Int) := by omega
              have hL6 : L ≤ 65535 := by omega
              clear hLe
              have hbW : b ≠ W2.heap.size := by have := hst2.lt; omega
              have hbW2 : b < W2.heap.size := by have := hst2.lt; omega
              have j0 : ∀ ob, (W2.alloc ob).cell? ⟨b, o, none⟩ = some (.int .u8 (bt l 0 : Int)) := fun ob => by rw [World.cell?_alloc_lt _ _ ⟨b, o, none⟩ hbW2]; exact i0
              have j1 : ∀ ob, (W2.alloc ob).cell? ⟨b, o + 1, none⟩ = some (.int .u8 (bt l 1 : Int)) := fun ob => by rw [World.cell?_alloc_lt _ _ ⟨b, o + 1, none⟩ hbW2]; exact i1
              have j2 : ∀ ob, (W2.alloc ob).cell? ⟨b, o + 2, none⟩ = some (.int .u8 (bt l 2 : Int)) := fun ob => by rw [World.cell?_alloc_lt _ _ ⟨b, o + 2, none⟩ hbW2]; exact i2
              have j3 : ∀ ob, (W2.alloc ob).cell? ⟨b, o + 3, none⟩ = some (.int .u8 (bt l 3 : Int)) := fun ob => by rw [World.cell?_alloc_lt _ _ ⟨b, o + 3, none⟩ hbW2]; exact i3
              go_upto_region 15 with fail
              go_cut [8] (fun t wx => t = .pointer (some ⟨W2.heap.size, 0, none⟩) ∧ wx = (W2.alloc (.cells #[.int .i64 (bt l 0 : Int), .int .i64 (bt l 1 : Int), .int .i64 (L : Int), .int .i64 0, .int .i64 0, .slice none 0 0, .slice none 0 0] 60)).drew)
              case first =>
                go_region
                all_goals go_wp2_with fail
                all_goals go_meet
                all_goals exact ⟨rfl, rfl⟩
              case rest =>
                obtain ⟨rfl, hwc⟩ := hcut
                have hst3 : PRSt w wc (K : Int) (N : Int) (S : Int) := by rw [hwc]; exact hst2.above ((Below.refl (w.heap.size + 3) W2).alloc hst2.lt _).drew
                have hpk : wc.heap[W2.heap.size]? = some (.cells #[.int .i64 (bt l 0 : Int), .int .i64 (bt l 1 : Int), .int .i64 (L : Int), .int .i64 0, .int .i64 0, .slice none 0 0, .slice none 0 0] 60 (0, 0)) := by rw [hwc]; exact heap_alloc_new W2 _
                have hsh3 : wc.heap[sb]? = some (.cells #[.int .i64 4, .int .i64 (n : Int)] 139 (0, 0)) := by rw [hwc]; exact (Below.heap_alloc W2 _ sb (lt_of_block hsh)).trans hsh
                have hlt2 := hst2.lt
                generalize hpp : W2.heap.size = pp at hpk hlt2 hbW ⊢
                obtain ⟨W3, rfl⟩ : ∃ x, x = wc := ⟨wc, rfl⟩
                clear hwc s0 s1 i0 i1 i2 i3 j0 j1 j2 j3 hsh hst2 hpp hbW2
                obtain ⟨y0, y1, y2, y3, y4, y5, y6⟩ := row7 hpk
                have s0 : W3.cell? ⟨sb, 0, none⟩ = some (.int .i64 4) := cell_of_row W3 _ 0 _ _ _ hsh3
                have s1 : W3.cell? ⟨sb, 1, none⟩ = some (.int .i64 (n : Int)) := cell_of_row W3 _ 1 _ _ _ hsh3
                cases hk2 : lenB L
                · have hv : ¬ L ≤ 255 := of_decide_eq_false hk2
                  have hv' : (L : Int) > 255 := by omega
                  obtain ⟨c0, c1, c2, c3, c4, c5, c6⟩ := row7 hst3.res
                  have e0 : W3.cell? ⟨w.heap.size + 2, 0, none⟩ = some (.int .i64 0) := cell_of_row W3 _ 0 _ _ _ hst3.err
                  have e1 : W3.cell? ⟨w.heap.size + 2, 1, none⟩ = some (.int .i64 0) := cell_of_row W3 _ 1 _ _ _ hst3.err
                  have f0 := frozen_of_row W3 _ 0 _ _ hst3.res
                  have f1 := frozen_of_row W3 _ 1 _ _ hst3.res
                  have f2 := frozen_of_row W3 _ 2 _ _ hst3.res
                  have f3 := frozen_of_row W3 _ 3 _ _ hst3.res
                  have f4 := frozen_of_row W3 _ 4 _ _ hst3.res
                  have f5 := frozen_of_row W3 _ 5 _ _ hst3.res
                  have f6 := frozen_of_row W3 _ 6 _ _ hst3.res
                  have g0 := frozen_of_row W3 _ 0 _ _ hst3.err
                  have g1 := frozen_of_row W3 _ 1 _ _ hst3.err
                  have hne9 : ¬ w.heap.size + 1 = w.heap.size + 2 := by omega
                  have hp := put9 W3 (w.heap.size + 1) (w.heap.size + 2) (.int .i64 0) (.int .i64 0) (.int .i64 0) (.int .i64 0) (.int .i64 0) (.slice none 0 0) (.slice none 0 0) (.int .i64 0) (.int .i64 0) (.int .i64 0) (.int .i64 0) (.int .i64 0) (.int .i64 0) (.int .i64 0) (.slice none 0 0) (.slice none 0 0) (.int .i64 6) (.int .i64 2) hst3.res hst3.err (by omega)
                  go_wp2_with fail
                  generalize (((((((((W3.setCell ⟨w.heap.size + 1, 0, none⟩ (.int .i64 0)).setCell ⟨w.heap.size + 1, 1, none⟩ (.int .i64 0)).setCell ⟨w.heap.size + 1, 2, none⟩ (.int .i64 0)).setCell ⟨w.heap.size + 1, 3, none⟩ (.int .i64 0)).setCell ⟨w.heap.size + 1, 4, none⟩ (.int .i64 0)).setCell ⟨w.heap.size + 1, 5, none⟩ (.slice none 0 0)).setCell ⟨w.heap.size + 1, 6, none⟩ (.slice none 0 0)).setCell ⟨w.heap.size + 2, 0, none⟩ (.int .i64 6)).setCell ⟨w.heap.size + 2, 1, none⟩ (.int .i64 2)) = W9 at hp ⊢
                  obtain ⟨hp1, hp2, hp3⟩ := hp
                  obtain ⟨d0, d1, d2, d3, d4, d5, d6⟩ := row7 (show W9.heap[w.heap.size + 1]? = _ from hp1)
                  have d7 : W9.cell? ⟨w.heap.size + 2, 0, none⟩ = some (.int .i64 6) := cell_of_row _ _ 0 _ _ _ (show W9.heap[w.heap.size + 2]? = _ from hp2)
                  have d8 : W9.cell? ⟨w.heap.size + 2, 1, none⟩ = some (.int .i64 2) := cell_of_row _ _ 1 _ _ _ (show W9.heap[w.heap.size + 2]? = _ from hp2)
                  clear c0 c1 c2 c3 c4 c5 c6 f0 f1 f2 f3 f4 f5 f6 g0 g1 e0 e1
                  exact bodyPost_ret (v := .tuple #[.agg #[.int .i64 0, .int .i64 0, .int .i64 0, .int .i64 0, .int .i64 0, .slice none 0 0, .slice none 0 0], .agg #[.int .i64 6, .int .i64 2]]) (by simp [results, Tryz.results135, go_sem, d0, d1, d2, d3, d4, d5, d6, d7, d8]) rfl (RPGives.bad (c := 6) (k := 2) (parseE_head (headE_5 (by omega) hk0 (by omega) hk1 (by omega) (by rw [← HLL.out]; exact hk2))) (rfl) (hst3.low.trans (hp3.toBelow (by have := hst3.low.size; omega) (fun k hk q => by omega))))
                · have hv : L ≤ 255 := of_decide_eq_true hk2
                  have hv' : ¬ (L : Int) > 255 := by omega
                  have HD : Hid (headE l = none) := headE_6 (by omega) hk0 (by omega) hk1 (by omega) (by rw [← HLL.out]; exact hk2)
                  by_cases hq3 : n < 5
                  · have hq3' : (n : Int) < 5 := by omega
                    have hPE : parseE K N S l = some (4, (l.drop 4).length + 4) := by
                      unfold parseE
                      rw [HD.out]
                      show Option.map _ _ = _
                      have hm : (l.drop 4).length < 1 := by simp; omega
                      split
                      · unfold dataB; rw [if_pos hm]; rfl
                      · unfold asksB; rw [if_pos hm]; rfl
                    have hn4 : (l.drop 4).length + 4 = n := by simp; omega
                    obtain ⟨c0, c1, c2, c3, c4, c5, c6⟩ := row7 hst3.res
                    have e0 : W3.cell? ⟨w.heap.size + 2, 0, none⟩ = some (.int .i64 0) := cell_of_row W3 _ 0 _ _ _ hst3.err
                    have e1 : W3.cell? ⟨w.heap.size + 2, 1, none⟩ = some (.int .i64 0) := cell_of_row W3 _ 1 _ _ _ hst3.err
                    have f0 := frozen_of_row W3 _ 0 _ _ hst3.res
                    have f1 := frozen_of_row W3 _ 1 _ _ hst3.res
                    have f2 := frozen_of_row W3 _ 2 _ _ hst3.res
                    have f3 := frozen_of_row W3 _ 3 _ _ hst3.res
                    have f4 := frozen_of_row W3 _ 4 _ _ hst3.res
                    have f5 := frozen_of_row W3 _ 5 _ _ hst3.res
                    have f6 := frozen_of_row W3 _ 6 _ _ hst3.res
                    have g0 := frozen_of_row W3 _ 0 _ _ hst3.err
                    have g1 := frozen_of_row W3 _ 1 _ _ hst3.err
                    have hne9 : ¬ w.heap.size + 1 = w.heap.size + 2 := by omega
                    have hp := put9 W3 (w.heap.size + 1) (w.heap.size + 2) (.int .i64 0) (.int .i64 0) (.int .i64 0) (.int .i64 0) (.int .i64 0) (.slice none 0 0) (.slice none 0 0) (.int .i64 0) (.int .i64 0) (.int .i64 0) (.int .i64 0) (.int .i64 0) (.int .i64 0) (.int .i64 0) (.slice none 0 0) (.slice none 0 0) (.int .i64 4) (.int .i64 (n : Int)) hst3.res hst3.err (by omega)
                    have hq := put9b W3 (w.heap.size + 1) (w.heap.size + 2) (.int .i64 0) (.int .i64 0) (.int .i64 0) (.int .i64 0) (.int .i64 0) (.slice none 0 0) (.slice none 0 0) (.int .i64 0) (.int .i64 0) (.int .i64 0) (.int .i64 0) (.int .i64 0) (.int .i64 0) (.int .i64 0) (.slice none 0 0) (.slice none 0 0) (.int .i64 4) (.int .i64 (n : Int)) hst3.res hst3.err (by omega)
                    go_wp2_with fail
                    go_region
                    all_goals
                      first
                        | generalize (((((((((W3.setCell ⟨w.heap.size + 1, 0, none⟩ (.int .i64 0)).setCell ⟨w.heap.size + 1, 1, none⟩ (.int .i64 0)).setCell ⟨w.heap.size + 1, 2, none⟩ (.int .i64 0)).setCell ⟨w.heap.size + 1, 3, none⟩ (.int .i64 0)).setCell ⟨w.heap.size + 1, 4, none⟩ (.int .i64 0)).setCell ⟨w.heap.size + 1, 5, none⟩ (.slice none 0 0)).setCell ⟨w.heap.size + 1, 6, none⟩ (.slice none 0 0)).setCell ⟨w.heap.size + 2, 0, none⟩ (.int .i64 4)).setCell ⟨w.heap.size + 2, 1, none⟩ (.int .i64 (n : Int))) = W9 at hp ⊢
                        | (replace hp := hq; generalize (((((((((W3.setCell ⟨w.heap.size + 2, 0, none⟩ (.int .i64 4)).setCell ⟨w.heap.size + 2, 1, none⟩ (.int .i64 (n : Int))).setCell ⟨w.heap.size + 1, 0, none⟩ (.int .i64 0)).setCell ⟨w.heap.size + 1, 1, none⟩ (.int .i64 0)).setCell ⟨w.heap.size + 1, 2, none⟩ (.int .i64 0)).setCell ⟨w.heap.size + 1, 3, none⟩ (.int .i64 0)).setCell ⟨w.heap.size + 1, 4, none⟩ (.int .i64 0)).setCell ⟨w.heap.size + 1, 5, none⟩ (.slice none 0 0)).setCell ⟨w.heap.size + 1, 6, none⟩ (.slice none 0 0)) = W9 at hp ⊢)
                      clear hq
                      obtain ⟨hp1, hp2, hp3⟩ := hp
                      obtain ⟨d0, d1, d2, d3, d4, d5, d6⟩ := row7 (show W9.drew.heap[w.heap.size + 1]? = _ from hp1)
                      have d7 : W9.drew.cell? ⟨w.heap.size + 2, 0, none⟩ = some (.int .i64 4) := cell_of_row _ _ 0 _ _ _ (show W9.drew.heap[w.heap.size + 2]? = _ from hp2)
                      have d8 : W9.drew.cell? ⟨w.heap.size + 2, 1, none⟩ = some (.int .i64 (n : Int)) := cell_of_row _ _ 1 _ _ _ (show W9.drew.heap[w.heap.size + 2]? = _ from hp2)
                      clear c0 c1 c2 c3 c4 c5 c6 f0 f1 f2 f3 f4 f5 f6 g0 g1 e0 e1
                      have hp4 : But (fun g => g = w.heap.size + 1 ∨ g = w.heap.size + 2) W3 W9.drew := hp3.drew
                      replace hp3 := hp4
                      clear hp4 hp1 hp2
                      generalize W9.drew = W10 at *
                      go_wp2_with fail
                      exact bodyPost_ret (v := .tuple #[.agg #[.int .i64 0, .int .i64 0, .int .i64 0, .int .i64 0, .int .i64 0, .slice none 0 0, .slice none 0 0], .agg #[.int .i64 4, .int .i64 (n : Int)]]) (by simp [results, Tryz.results135, go_sem, d0, d1, d2, d3, d4, d5, d6, d7, d8]) rfl (RPGives.bad hPE (by omega) (hst3.low.trans (hp3.toBelow (by have := hst3.low.size; omega) (fun k hk q => by omega))))
                  · have hq3' : ¬ (n : Int) < 5 := by omega
                    obtain ⟨k0, k1, k2⟩ := hst3.cfgs
                    have i0 : W3.cell? ⟨b, o, none⟩ = some (.int .u8 (bt l 0 : Int)) := HIN.out hst3.low 0 (by omega)
                    have hBs3 : Bs W3 b o l := fun i hi => by rw [hst3.low.cell (p := ⟨b, o + i, none⟩) hbl]; exact hB i hi
                    have hlt3 := hst3.lt
                    obtain ⟨X0, hX0⟩ : ∃ X0, X0 = bt l 0 := ⟨_, rfl⟩
                    obtain ⟨X1, hX1⟩ : ∃ X1, X1 = bt l 1 := ⟨_, rfl⟩
                    have HX0 : Hid (X0 = bt l 0) := hX0
                    have HX1 : Hid (X1 = bt l 1) := hX1
                    rw [← hX0] at hd y0 i0 h0
                    rw [← hX1] at y1 h1
                    rcases hd with hd | hd
                    · have hde : ((X0 : Int) == 1) = true := by simp; omega
                      have HDD : Hid (X0 = 1) := hd
                      clear hd hX0 hX1 hk0 hk1 hk2 ho ho' hLi
                      go_wp2_with fail
                      refine (rdata_any b o n c K N S L (symN S L) X0 X1 l W3 HCF.out hL6 rfl hl hn hn2 (by omega) hBs3 (by omega)).mono ?_
                      intro e W4 hG
                      obtain ⟨z0, z1, z2, z3, z4, a5, a6, n5, m5, n6, m6, u0, u1, rfl⟩ := hG.form
                      have hst4 := hst3.above (hG.2.mono hlt3)
                      have hlt4 := hst4.lt
                      clear k0 k1 k2 i0 y0 y1 y2 y3 y4 y5 y6 s0 s1
                      obtain ⟨c0, c1, c2, c3, c4, c5, c6⟩ := row7 hst4.res
                      have e0 : W4.cell? ⟨w.heap.size + 2, 0, none⟩ = some (.int .i64 0) := cell_of_row W4 _ 0 _ _ _ hst4.err
                      have e1 : W4.cell? ⟨w.heap.size + 2, 1, none⟩ = some (.int .i64 0) := cell_of_row W4 _ 1 _ _ _ hst4.err
                      have f0 := frozen_of_row W4 _ 0 _ _ hst4.res
                      have f1 := frozen_of_row W4 _ 1 _ _ hst4.res
                      have f2 := frozen_of_row W4 _ 2 _ _ hst4.res
                      have f3 := frozen_of_row W4 _ 3 _ _ hst4.res
                      have f4 := frozen_of_row W4 _ 4 _ _ hst4.res
                      have f5 := frozen_of_row W4 _ 5 _ _ hst4.res
                      have f6 := frozen_of_row W4 _ 6 _ _ hst4.res
                      have g0 := frozen_of_row W4 _ 0 _ _ hst4.err
                      have g1 := frozen_of_row W4 _ 1 _ _ hst4.err
                      have hne9 : ¬ w.heap.size + 1 = w.heap.size + 2 := by omega
                      have hp := put9 W4 (w.heap.size + 1) (w.heap.size + 2) (.int .i64 0) (.int .i64 0) (.int .i64 0) (.int .i64 0) (.int .i64 0) (.slice none 0 0) (.slice none 0 0) (.int .i64 0) (.int .i64 0) (.int .i64 z0) (.int .i64 z1) (.int .i64 z2) (.int .i64 z3) (.int .i64 z4) (.slice a5 n5 m5) (.slice a6 n6 m6) (.int .i64 u0) (.int .i64 u1) hst4.res hst4.err (by omega)
                      go_wp2_with fail
                      generalize (((((((((W4.setCell ⟨w.heap.size + 1, 0, none⟩ (.int .i64 z0)).setCell ⟨w.heap.size + 1, 1, none⟩ (.int .i64 z1)).setCell ⟨w.heap.size + 1, 2, none⟩ (.int .i64 z2)).setCell ⟨w.heap.size + 1, 3, none⟩ (.int .i64 z3)).setCell ⟨w.heap.size + 1, 4, none⟩ (.int .i64 z4)).setCell ⟨w.heap.size + 1, 5, none⟩ (.slice a5 n5 m5)).setCell ⟨w.heap.size + 1, 6, none⟩ (.slice a6 n6 m6)).setCell ⟨w.heap.size + 2, 0, none⟩ (.int .i64 u0)).setCell ⟨w.heap.size + 2, 1, none⟩ (.int .i64 u1)) = W9 at hp ⊢
                      obtain ⟨hp1, hp2, hp3⟩ := hp
                      obtain ⟨d0, d1, d2, d3, d4, d5, d6⟩ := row7 (show W9.heap[w.heap.size + 1]? = _ from hp1)
                      have d7 : W9.cell? ⟨w.heap.size + 2, 0, none⟩ = some (.int .i64 u0) := cell_of_row _ _ 0 _ _ _ (show W9.heap[w.heap.size + 2]? = _ from hp2)
                      have d8 : W9.cell? ⟨w.heap.size + 2, 1, none⟩ = some (.int .i64 u1) := cell_of_row _ _ 1 _ _ _ (show W9.heap[w.heap.size + 2]? = _ from hp2)
                      clear c0 c1 c2 c3 c4 c5 c6 f0 f1 f2 f3 f4 f5 f6 g0 g1 e0 e1
                      exact bodyPost_ret (v := .tuple #[.agg #[.int .i64 z0, .int .i64 z1, .int .i64 z2, .int .i64 z3, .int .i64 z4, .slice a5 n5 m5, .slice a6 n6 m6], .agg #[.int .i64 u0, .int .i64 u1]]) (by simp [results, Tryz.results135, go_sem, d0, d1, d2, d3, d4, d5, d6, d7, d8]) rfl (hG.lift hst3.low hp3 (by omega) (by omega) (by omega) (by omega) HD.out (by rw [← HX0.out]; exact HDD.out) HX0.out HX1.out HLL.out)
                    · have hde : ((X0 : Int) == 1) = false := by simp; omega
                      have HDD : Hid (¬ X0 = 1) := by show ¬ _; omega
                      clear hd hX0 hX1 hk0 hk1 hk2 ho ho' hLi
                      go_wp2_with fail
                      refine (rasks_any b o n c K N S L (symN S L) X0 X1 l W3 HCF.out hL6 rfl hl hn hn2 (by omega) hBs3 (by omega)).mono ?_
                      intro e W4 hG
                      obtain ⟨z0, z1, z2, z3, z4, a5, a6, n5, m5, n6, m6, u0, u1, rfl⟩ := hG.form
                      have hst4 := hst3.above (hG.2.mono hlt3)
                      have hlt4 := hst4.lt
                      clear k0 k1 k2 i0 y0 y1 y2 y3 y4 y5 y6 s0 s1
                      obtain ⟨c0, c1, c2, c3, c4, c5, c6⟩ := row7 hst4.res
                      have e0 : W4.cell? ⟨w.heap.size + 2, 0, none⟩ = some (.int .i64 0) := cell_of_row W4 _ 0 _ _ _ hst4.err
                      have e1 : W4.cell? ⟨w.heap.size + 2, 1, none⟩ = some (.int .i64 0) := cell_of_row W4 _ 1 _ _ _ hst4.err
                      have f0 := frozen_of_row W4 _ 0 _ _ hst4.res
                      have f1 := frozen_of_row W4 _ 1 _ _ hst4.res
                      have f2 := frozen_of_row W4 _ 2 _ _ hst4.res
                      have f3 := frozen_of_row W4 _ 3 _ _ hst4.res
                      have f4 := frozen_of_row W4 _ 4 _ _ hst4.res
                      have f5 := frozen_of_row W4 _ 5 _ _ hst4.res
                      have f6 := frozen_of_row W4 _ 6 _ _ hst4.res
                      have g0 := frozen_of_row W4 _ 0 _ _ hst4.err
                      have g1 := frozen_of_row W4 _ 1 _ _ hst4.err
                      have hne9 : ¬ w.heap.size + 1 = w.heap.size + 2 := by omega
                      have hp := put9 W4 (w.heap.size + 1) (w.heap.size + 2) (.int .i64 0) (.int .i64 0) (.int .i64 0) (.int .i64 0) (.int .i64 0) (.slice none 0 0) (.slice none 0 0) (.int .i64 0) (.int .i64 0) (.int .i64 z0) (.int .i64 z1) (.int .i64 z2) (.int .i64 z3) (.int .i64 z4) (.slice a5 n5 m5) (.slice a6 n6 m6) (.int .i64 u0) (.int .i64 u1) hst4.res hst4.err (by omega)
                      go_wp2_with fail
                      generalize (((((((((W4.setCell ⟨w.heap.size + 1, 0, none⟩ (.int .i64 z0)).setCell ⟨w.heap.size + 1, 1, none⟩ (.int .i64 z1)).setCell ⟨w.heap.size + 1, 2, none⟩ (.int .i64 z2)).setCell ⟨w.heap.size + 1, 3, none⟩ (.int .i64 z3)).setCell ⟨w.heap.size + 1, 4, none⟩ (.int .i64 z4)).setCell ⟨w.heap.size + 1, 5, none⟩ (.slice a5 n5 m5)).setCell ⟨w.heap.size + 1, 6, none⟩ (.slice a6 n6 m6)).setCell ⟨w.heap.size + 2, 0, none⟩ (.int .i64 u0)).setCell ⟨w.heap.size + 2, 1, none⟩ (.int .i64 u1)) = W9 at hp ⊢
                      obtain ⟨hp1, hp2, hp3⟩ := hp
                      obtain ⟨d0, d1, d2, d3, d4, d5, d6⟩ := row7 (show W9.heap[w.heap.size + 1]? = _ from hp1)
                      have d7 : W9.cell? ⟨w.heap.size + 2, 0, none⟩ = some (.int .i64 u0) := cell_of_row _ _ 0 _ _ _ (show W9.heap[w.heap.size + 2]? = _ from hp2)
                      have d8 : W9.cell? ⟨w.heap.size + 2, 1, none⟩ = some (.int .i64 u1) := cell_of_row _ _ 1 _ _ _ (show W9.heap[w.heap.size + 2]? = _ from hp2)
                      clear c0 c1 c2 c3 c4 c5 c6 f0 f1 f2 f3 f4 f5 f6 g0 g1 e0 e1
                      exact bodyPost_ret (v := .tuple #[.agg #[.int .i64 z0, .int .i64 z1, .int .i64 z2, .int .i64 z3, .int .i64 z4, .slice a5 n5 m5, .slice a6 n6 m6], .agg #[.int .i64 u0, .int .i64 u1]]) (by simp [results, Tryz.results135, go_sem, d0, d1, d2, d3, d4, d5, d6, d7, d8]) rfl (hG.lift hst3.low hp3 (by omega) (by omega) (by omega) (by omega) HD.out (by rw [← HX0.out]; exact HDD.out) HX0.out HX1.out HLL.out)

end Go.Proofs.YtjabhnhejbhgjaaGreatDoor
