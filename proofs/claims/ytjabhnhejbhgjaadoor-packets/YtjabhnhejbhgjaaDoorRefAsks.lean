/- murmurref: asks. (Written by gen_rasks.py.) -/
import Derived.Test.YtjabhnhejbhgjaaDoorRefData
namespace Go.Proofs.YtjabhnhejbhgjaaDoor
open Go.RowKit

section
variable {K T k least : Nat} {m : List Gf.F}
theorem lackB_0 (h : m.length < k + 1) : lackB K T m k least = some (4, m.length) := by unfold lackB; rw [if_pos h]
theorem lackB_1 (h : ¬ m.length < k + 1) (h1 : blkB K T least (bt m k) = false) : lackB K T m k least = some (6, k) := by unfold lackB; rw [if_neg h, if_pos h1]
theorem lackB_2 (h : ¬ m.length < k + 1) (h1 : blkB K T least (bt m k) = true) (h2 : m.length < k + 2) : lackB K T m k least = some (4, m.length) := by unfold lackB; rw [if_neg h, if_neg (by rw [h1]; decide), if_pos h2]
theorem lackB_3 (h : ¬ m.length < k + 1) (h1 : blkB K T least (bt m k) = true) (h2 : ¬ m.length < k + 2) (h3 : manyB (srcN K T (bt m k)) (bt m (k + 1)) = false) : lackB K T m k least = some (6, k + 1) := by unfold lackB; rw [if_neg h, if_neg (by rw [h1]; decide), if_neg h2, if_pos h3]
theorem lackB_4 (h : ¬ m.length < k + 1) (h1 : blkB K T least (bt m k) = true) (h2 : ¬ m.length < k + 2) (h3 : manyB (srcN K T (bt m k)) (bt m (k + 1)) = true) : lackB K T m k least = none := by unfold lackB; rw [if_neg h, if_neg (by rw [h1]; decide), if_neg h2, if_neg (by rw [h3]; decide)]
theorem asksFrom_bad {r i : Nat} {e : Nat × Nat} (h : lackB K T m (1 + 2 * i) least = some e) : asksFrom K T m (r + 1) i least = some e := by unfold asksFrom; rw [h]
theorem asksFrom_ok {r i : Nat} (h : lackB K T m (1 + 2 * i) least = none) : asksFrom K T m (r + 1) i least = asksFrom K T m r (i + 1) (bt m (1 + 2 * i) + 1) := by rw [asksFrom]; rw [h]
theorem blkB_yes {x : Nat} (h1 : least ≤ x) (h2 : x < partsN T K) : blkB K T least x = true := by unfold blkB; rw [decide_eq_true h1, winB_yes (by omega) (by omega)]; rfl
theorem blkB_no {x : Nat} (h : x < least ∨ partsN T K ≤ x) : blkB K T least x = false := by
  unfold blkB
  rcases h with h | h
  · rw [decide_eq_false (by omega)]; rfl
  · rw [winB_no (by omega)]; simp
end

def RAGives (K T : Nat) (l : List Gf.F) (x0 x1 L : Nat) (w : World) (e : Ending) (w' : World) : Prop :=
  (match asksB K T (l.drop 4) with
  | some (c, k) => e = .returned (.tuple #[.agg #[.int .i64 0, .int .i64 0, .int .i64 0, .int .i64 0, .int .i64 0, .slice none 0 0, .slice none 0 0], .agg #[.int .i64 (c : Int), .int .i64 ((k + 4 : Nat) : Int)]])
  | none => ∃ a c1, e = .returned (.tuple #[.agg #[.int .i64 (x0 : Int), .int .i64 (x1 : Int), .int .i64 (L : Int), .int .i64 0, .int .i64 0, .slice none 0 0, .slice a (bt (l.drop 4) 0) c1], .agg #[.int .i64 0, .int .i64 (-1)]]) ∧ w'.ownsRow w.heap.size 110 2 (.slice a (bt (l.drop 4) 0) c1) (bt (l.drop 4) 0) (lackCells (l.drop 4) (bt (l.drop 4) 0))) ∧ Below w.heap.size w w'
theorem RAGives.bad {K T x0 x1 L c k : Nat} {kk : Int} {l : List Gf.F} {w w' : World} (h : asksB K T (l.drop 4) = some (c, k)) (hk : kk = ((k + 4 : Nat) : Int)) (hb : Below w.heap.size w w') :
    RAGives K T l x0 x1 L w (.returned (.tuple #[.agg #[.int .i64 0, .int .i64 0, .int .i64 0, .int .i64 0, .int .i64 0, .slice none 0 0, .slice none 0 0], .agg #[.int .i64 (c : Int), .int .i64 kk]])) w' := by
  unfold RAGives
  rw [h, hk]
  exact ⟨rfl, hb⟩

theorem own_lt2 {w : World} {B sz n g : Nat} {e : TypeId} {v : Value} {xs : List Value} (h : w.ownsRow B e sz v n xs) (hg : v.ownBlock = some g) : B ≤ g ∧ g < w.heap.size := h.lt g hg

set_option maxRecDepth 100000 in
set_option maxHeartbeats 4000000 in
theorem rasks_any (b o n c K N S L T x0 x1 : Nat) (l : List Gf.F) (w : World) (hcfg : Cfg K N S) (hL : L ≤ 65535) (hTe : T = symN S L) (hl : l.length = n) (_hn : n ≤ c) (hn2 : n ≤ 140737488355328) (hn5 : 5 ≤ n) (hB : Bs w b o l) (hbl : b < w.heap.size) :
    Calls Tryd.prog 62 #[.agg #[.int .i64 (K : Int), .int .i64 (N : Int), .int .i64 (S : Int)], .slice (some ⟨b, o, none⟩) n c, .agg #[.int .i64 (x0 : Int), .int .i64 (x1 : Int), .int .i64 (L : Int), .int .i64 0, .int .i64 0, .slice none 0 0, .slice none 0 0]] w (RAGives K T l x0 x1 L w) := by
  have HCF : Hid (Cfg K N S) := hcfg
  have hs1 := hcfg.s1
  have HK1 : Hid (1 ≤ K) := hcfg.k1
  clear hcfg
  have HM : Hid ((l.drop 4).length = n - 4) := by show _ = _; simp [hl]
  have HBT : Hid (∀ i, bt l (4 + i) = bt (l.drop 4) i) := fun i => by simp [bt, at_, List.getD]
  have HTE : Hid (T = symN S L) := hTe
  have hTr := symN_range (S := S) (len := L) hs1
  rw [← hTe] at hTr
  obtain ⟨M, hMe⟩ : ∃ M, M = bt (l.drop 4) 0 := ⟨_, rfl⟩
  have hM256 : M < 256 := by rw [hMe]; exact bt_lt _ _
  have HMM : Hid (M = bt (l.drop 4) 0) := hMe
  obtain ⟨Bn, hBn⟩ : ∃ Bn, Bn = partsN T K := ⟨_, rfl⟩
  have HBN : Hid (Bn = partsN T K) := hBn
  have hBl : Bn ≤ 70000 := by rw [hBn]; have := partsN_le (a := T) HK1.out; omega
  have hblk : ∀ W, Calls Tryd.prog 83 #[.agg #[.int .i64 (K : Int), .int .i64 (N : Int), .int .i64 (S : Int)], .int .i64 (L : Int)] W fun e w' => e = .returned (.int .i64 (Bn : Int)) ∧ Below W.heap.size W w' := fun W => by rw [hBn, hTe]; exact rblocks_any K N S L HCF.out hL W
  have hst := RSt.start w K N S (.int .i64 (x0 : Int)) (.int .i64 (x1 : Int)) (.int .i64 (L : Int)) (.int .i64 0) (.int .i64 0) (.slice none 0 0) (.slice none 0 0)
  have HIN : Hid (∀ {W : World}, Below w.heap.size w W → ∀ i, i < n → W.cell? ⟨b, o + i, none⟩ = some (.int .u8 (bt l i : Int))) := fun hb i hi => by rw [hb.cell (p := ⟨b, o + i, none⟩) hbl]; exact hB i (by omega)
  obtain ⟨iL, hiL, hiL0, hiL1, hiL2⟩ := Tryd.lack_parts
  clear hTe hBn hMe hB
  go_enter Tryd.func62, Tryd.ntmps62
  go_upto_region 1 with fail
  generalize ((((w.alloc (.cells #[.int .i64 (K : Int), .int .i64 (N : Int), .int .i64 (S : Int)] 54)).alloc (.cells #[.int .i64 (x0 : Int), .int .i64 (x1 : Int), .int .i64 (L : Int), .int .i64 0, .int .i64 0, .slice none 0 0, .slice none 0 0] 57)).alloc (.cells #[.int .i64 0, .int .i64 0, .int .i64 0, .int .i64 0, .int .i64 0, .slice none 0 0, .slice none 0 0] 57)).alloc (.cells #[.int .i64 0, .int .i64 0] 74)) = W at *
  rw [show w.heap.size + 1 + 1 + 1 = w.heap.size + 3 from rfl, show w.heap.size + 1 + 1 = w.heap.size + 2 from rfl]
  have i4 : W.cell? ⟨b, o + 4, none⟩ = some (.int .u8 (M : Int)) := by rw [HMM.out, ← HBT.out 0]; exact HIN.out hst.low 4 (by omega)
  obtain ⟨k0, k1, k2⟩ := hst.cfgs
  have q2 : W.cell? ⟨w.heap.size + 1, 2, none⟩ = some (.int .i64 (L : Int)) := (row7 hst.pk).2.2.1
  have hlt := hst.lt
  by_cases hM0 : M < 1
  · have hM0' : (M : Int) < 1 := by omega
    obtain ⟨c0, c1, c2, c3, c4, c5, c6⟩ := row7 hst.res
    have e0 : W.cell? ⟨w.heap.size + 3, 0, none⟩ = some (.int .i64 0) := cell_of_row W _ 0 _ _ _ hst.err
    have e1 : W.cell? ⟨w.heap.size + 3, 1, none⟩ = some (.int .i64 0) := cell_of_row W _ 1 _ _ _ hst.err
    have f0 := frozen_of_row W _ 0 _ _ hst.res
    have f1 := frozen_of_row W _ 1 _ _ hst.res
    have f2 := frozen_of_row W _ 2 _ _ hst.res
    have f3 := frozen_of_row W _ 3 _ _ hst.res
    have f4 := frozen_of_row W _ 4 _ _ hst.res
    have f5 := frozen_of_row W _ 5 _ _ hst.res
    have f6 := frozen_of_row W _ 6 _ _ hst.res
    have g0 := frozen_of_row W _ 0 _ _ hst.err
    have g1 := frozen_of_row W _ 1 _ _ hst.err
    have hne9 : ¬ w.heap.size + 2 = w.heap.size + 3 := by omega
    have hp := put9 W (w.heap.size + 2) (w.heap.size + 3) (.int .i64 0) (.int .i64 0) (.int .i64 0) (.int .i64 0) (.int .i64 0) (.slice none 0 0) (.slice none 0 0) (.int .i64 0) (.int .i64 0) (.int .i64 0) (.int .i64 0) (.int .i64 0) (.int .i64 0) (.int .i64 0) (.slice none 0 0) (.slice none 0 0) (.int .i64 6) (.int .i64 4) hst.res hst.err (by omega)
    go_wp2_with fail
    generalize (((((((((W.setCell ⟨w.heap.size + 2, 0, none⟩ (.int .i64 0)).setCell ⟨w.heap.size + 2, 1, none⟩ (.int .i64 0)).setCell ⟨w.heap.size + 2, 2, none⟩ (.int .i64 0)).setCell ⟨w.heap.size + 2, 3, none⟩ (.int .i64 0)).setCell ⟨w.heap.size + 2, 4, none⟩ (.int .i64 0)).setCell ⟨w.heap.size + 2, 5, none⟩ (.slice none 0 0)).setCell ⟨w.heap.size + 2, 6, none⟩ (.slice none 0 0)).setCell ⟨w.heap.size + 3, 0, none⟩ (.int .i64 6)).setCell ⟨w.heap.size + 3, 1, none⟩ (.int .i64 4)) = W9 at hp ⊢
    obtain ⟨hp1, hp2, hp3⟩ := hp
    obtain ⟨d0, d1, d2, d3, d4, d5, d6⟩ := row7 (show W9.heap[w.heap.size + 2]? = _ from hp1)
    have d7 : W9.cell? ⟨w.heap.size + 3, 0, none⟩ = some (.int .i64 6) := cell_of_row _ _ 0 _ _ _ (show W9.heap[w.heap.size + 3]? = _ from hp2)
    have d8 : W9.cell? ⟨w.heap.size + 3, 1, none⟩ = some (.int .i64 4) := cell_of_row _ _ 1 _ _ _ (show W9.heap[w.heap.size + 3]? = _ from hp2)
    clear c0 c1 c2 c3 c4 c5 c6 f0 f1 f2 f3 f4 f5 f6 g0 g1 e0 e1
    exact bodyPost_ret (v := .tuple #[.agg #[.int .i64 0, .int .i64 0, .int .i64 0, .int .i64 0, .int .i64 0, .slice none 0 0, .slice none 0 0], .agg #[.int .i64 6, .int .i64 4]]) (by simp [results, Tryd.results62, go_sem, d0, d1, d2, d3, d4, d5, d6, d7, d8]) rfl (RAGives.bad (c := 6) (k := 0) (by unfold asksB; rw [if_neg (by rw [HM.out]; omega), if_pos (by rw [← HMM.out]; exact manyB_no (by omega))]) (by omega) (hst.low.trans (hp3.toBelow (by have := hst.low.size; omega) (fun k hk q => by omega))))
  · have hM0' : ¬ (M : Int) < 1 := by omega
    go_wp2_with fail
    refine (hblk _).mono ?_
    rintro e W1 ⟨rfl, hb1⟩
    have hst1 := hst.above (hb1.mono hlt)
    clear i4 k0 k1 k2 q2 hst hb1
    by_cases hMB : Bn < M
    · have hMB' : (M : Int) > (Bn : Int) := by omega
      obtain ⟨c0, c1, c2, c3, c4, c5, c6⟩ := row7 hst1.res
      have e0 : W1.cell? ⟨w.heap.size + 3, 0, none⟩ = some (.int .i64 0) := cell_of_row W1 _ 0 _ _ _ hst1.err
      have e1 : W1.cell? ⟨w.heap.size + 3, 1, none⟩ = some (.int .i64 0) := cell_of_row W1 _ 1 _ _ _ hst1.err
      have f0 := frozen_of_row W1 _ 0 _ _ hst1.res
      have f1 := frozen_of_row W1 _ 1 _ _ hst1.res
      have f2 := frozen_of_row W1 _ 2 _ _ hst1.res
      have f3 := frozen_of_row W1 _ 3 _ _ hst1.res
      have f4 := frozen_of_row W1 _ 4 _ _ hst1.res
      have f5 := frozen_of_row W1 _ 5 _ _ hst1.res
      have f6 := frozen_of_row W1 _ 6 _ _ hst1.res
      have g0 := frozen_of_row W1 _ 0 _ _ hst1.err
      have g1 := frozen_of_row W1 _ 1 _ _ hst1.err
      have hne9 : ¬ w.heap.size + 2 = w.heap.size + 3 := by omega
      have hp := put9 W1 (w.heap.size + 2) (w.heap.size + 3) (.int .i64 0) (.int .i64 0) (.int .i64 0) (.int .i64 0) (.int .i64 0) (.slice none 0 0) (.slice none 0 0) (.int .i64 0) (.int .i64 0) (.int .i64 0) (.int .i64 0) (.int .i64 0) (.int .i64 0) (.int .i64 0) (.slice none 0 0) (.slice none 0 0) (.int .i64 6) (.int .i64 4) hst1.res hst1.err (by omega)
      go_wp2_with fail
      generalize (((((((((W1.setCell ⟨w.heap.size + 2, 0, none⟩ (.int .i64 0)).setCell ⟨w.heap.size + 2, 1, none⟩ (.int .i64 0)).setCell ⟨w.heap.size + 2, 2, none⟩ (.int .i64 0)).setCell ⟨w.heap.size + 2, 3, none⟩ (.int .i64 0)).setCell ⟨w.heap.size + 2, 4, none⟩ (.int .i64 0)).setCell ⟨w.heap.size + 2, 5, none⟩ (.slice none 0 0)).setCell ⟨w.heap.size + 2, 6, none⟩ (.slice none 0 0)).setCell ⟨w.heap.size + 3, 0, none⟩ (.int .i64 6)).setCell ⟨w.heap.size + 3, 1, none⟩ (.int .i64 4)) = W9 at hp ⊢
      obtain ⟨hp1, hp2, hp3⟩ := hp
      obtain ⟨d0, d1, d2, d3, d4, d5, d6⟩ := row7 (show W9.heap[w.heap.size + 2]? = _ from hp1)
      have d7 : W9.cell? ⟨w.heap.size + 3, 0, none⟩ = some (.int .i64 6) := cell_of_row _ _ 0 _ _ _ (show W9.heap[w.heap.size + 3]? = _ from hp2)
      have d8 : W9.cell? ⟨w.heap.size + 3, 1, none⟩ = some (.int .i64 4) := cell_of_row _ _ 1 _ _ _ (show W9.heap[w.heap.size + 3]? = _ from hp2)
      clear c0 c1 c2 c3 c4 c5 c6 f0 f1 f2 f3 f4 f5 f6 g0 g1 e0 e1
      exact bodyPost_ret (v := .tuple #[.agg #[.int .i64 0, .int .i64 0, .int .i64 0, .int .i64 0, .int .i64 0, .slice none 0 0, .slice none 0 0], .agg #[.int .i64 6, .int .i64 4]]) (by simp [results, Tryd.results62, go_sem, d0, d1, d2, d3, d4, d5, d6, d7, d8]) rfl (RAGives.bad (c := 6) (k := 0) (by unfold asksB; rw [if_neg (by rw [HM.out]; omega), if_pos (by rw [← HMM.out, ← HBN.out]; exact manyB_no (by omega))]) (by omega) (hst1.low.trans (hp3.toBelow (by have := hst1.low.size; omega) (fun k hk q => by omega))))
    · have hMB' : ¬ (M : Int) > (Bn : Int) := by omega
      have HAB : Hid (asksB K T (l.drop 4) = asksFrom K T (l.drop 4) M 0 0) := by
        show _ = _
        unfold asksB
        rw [if_neg (by rw [HM.out]; omega), if_neg (by rw [← HMM.out, ← HBN.out, manyB_yes ⟨by omega, by omega⟩]; decide), ← HMM.out]
      go_wp2_with fail
      go_loopw [9, 10] (fun t9 t10 wr => ∃ (i least : Nat) (va : Value), i ≤ M ∧ t10 = .int .i64 (i : Int) ∧ t9 = .int .i64 ((least : Int) - 1) ∧ least ≤ 256 ∧ RSt w wr K N S (.int .i64 (x0 : Int)) (.int .i64 (x1 : Int)) (.int .i64 (L : Int)) (.int .i64 0) (.int .i64 0) (.slice none 0 0) va ∧ wr.ownsRow (w.heap.size + 4) 110 2 va i (lackCells (l.drop 4) i) ∧ Hid (asksB K T (l.drop 4) = asksFrom K T (l.drop 4) (M - i) i least)) (fun _ t _ => M - (intOf t).toNat)
      case atStart => exact ⟨0, 0, .slice none 0 0, by omega, rfl, rfl, by omega, hst1, World.ownsRow_nil .., HAB⟩
      case round =>
        clear hst1
        obtain ⟨i, least, va, hi, rfl, rfl, hle, hst, hown, HF⟩ := hrel
        have hltr := hst.lt
        obtain ⟨k0, k1, k2⟩ := hst.cfgs
        obtain ⟨y0, y1, y2, y3, y4, y5, y6⟩ := row7 hst.pk
        by_cases hlt : i < M
        · have hlt' : (i : Int) < (M : Int) := by omega
          have HF1 : Hid (∀ e, lackB K T (l.drop 4) (1 + 2 * i) least = some e → asksB K T (l.drop 4) = some e) := fun e h => by rw [HF.out, show M - i = (M - (i + 1)) + 1 by omega]; exact asksFrom_bad h
          have HF2 : Hid (lackB K T (l.drop 4) (1 + 2 * i) least = none → asksB K T (l.drop 4) = asksFrom K T (l.drop 4) (M - (i + 1)) (i + 1) (bt (l.drop 4) (1 + 2 * i) + 1)) := fun h => by rw [HF.out, show M - i = (M - (i + 1)) + 1 by omega]; exact asksFrom_ok h
          by_cases hq0 : n ≤ 5 + 2 * i
          · have hq0' : (n : Int) ≤ 5 + 2 * (i : Int) := by omega
            obtain ⟨c0, c1, c2, c3, c4, c5, c6⟩ := row7 hst.res
            have e0 : wr.cell? ⟨w.heap.size + 3, 0, none⟩ = some (.int .i64 0) := cell_of_row wr _ 0 _ _ _ hst.err
            have e1 : wr.cell? ⟨w.heap.size + 3, 1, none⟩ = some (.int .i64 0) := cell_of_row wr _ 1 _ _ _ hst.err
            have f0 := frozen_of_row wr _ 0 _ _ hst.res
            have f1 := frozen_of_row wr _ 1 _ _ hst.res
            have f2 := frozen_of_row wr _ 2 _ _ hst.res
            have f3 := frozen_of_row wr _ 3 _ _ hst.res
            have f4 := frozen_of_row wr _ 4 _ _ hst.res
            have f5 := frozen_of_row wr _ 5 _ _ hst.res
            have f6 := frozen_of_row wr _ 6 _ _ hst.res
            have g0 := frozen_of_row wr _ 0 _ _ hst.err
            have g1 := frozen_of_row wr _ 1 _ _ hst.err
            have hne9 : ¬ w.heap.size + 2 = w.heap.size + 3 := by omega
            have hp := put9 wr (w.heap.size + 2) (w.heap.size + 3) (.int .i64 0) (.int .i64 0) (.int .i64 0) (.int .i64 0) (.int .i64 0) (.slice none 0 0) (.slice none 0 0) (.int .i64 0) (.int .i64 0) (.int .i64 0) (.int .i64 0) (.int .i64 0) (.int .i64 0) (.int .i64 0) (.slice none 0 0) (.slice none 0 0) (.int .i64 4) (.int .i64 (n : Int)) hst.res hst.err (by omega)
            go_wp2_with fail
            generalize (((((((((wr.setCell ⟨w.heap.size + 2, 0, none⟩ (.int .i64 0)).setCell ⟨w.heap.size + 2, 1, none⟩ (.int .i64 0)).setCell ⟨w.heap.size + 2, 2, none⟩ (.int .i64 0)).setCell ⟨w.heap.size + 2, 3, none⟩ (.int .i64 0)).setCell ⟨w.heap.size + 2, 4, none⟩ (.int .i64 0)).setCell ⟨w.heap.size + 2, 5, none⟩ (.slice none 0 0)).setCell ⟨w.heap.size + 2, 6, none⟩ (.slice none 0 0)).setCell ⟨w.heap.size + 3, 0, none⟩ (.int .i64 4)).setCell ⟨w.heap.size + 3, 1, none⟩ (.int .i64 (n : Int))) = W9 at hp ⊢
            obtain ⟨hp1, hp2, hp3⟩ := hp
            obtain ⟨d0, d1, d2, d3, d4, d5, d6⟩ := row7 (show W9.heap[w.heap.size + 2]? = _ from hp1)
            have d7 : W9.cell? ⟨w.heap.size + 3, 0, none⟩ = some (.int .i64 4) := cell_of_row _ _ 0 _ _ _ (show W9.heap[w.heap.size + 3]? = _ from hp2)
            have d8 : W9.cell? ⟨w.heap.size + 3, 1, none⟩ = some (.int .i64 (n : Int)) := cell_of_row _ _ 1 _ _ _ (show W9.heap[w.heap.size + 3]? = _ from hp2)
            clear c0 c1 c2 c3 c4 c5 c6 f0 f1 f2 f3 f4 f5 f6 g0 g1 e0 e1
            exact bodyPost_ret (v := .tuple #[.agg #[.int .i64 0, .int .i64 0, .int .i64 0, .int .i64 0, .int .i64 0, .slice none 0 0, .slice none 0 0], .agg #[.int .i64 4, .int .i64 (n : Int)]]) (by simp [results, Tryd.results62, go_sem, d0, d1, d2, d3, d4, d5, d6, d7, d8]) rfl (RAGives.bad (c := 4) (k := (l.drop 4).length) (HF1.out _ (lackB_0 (by rw [HM.out]; omega))) (by rw [HM.out]; omega) (hst.low.trans (hp3.toBelow (by have := hst.low.size; omega) (fun k hk q => by omega))))
          · have hq0' : ¬ (n : Int) ≤ 5 + 2 * (i : Int) := by omega
            obtain ⟨x, hxe⟩ : ∃ x, x = bt (l.drop 4) (1 + 2 * i) := ⟨_, rfl⟩
            have HX : Hid (x = bt (l.drop 4) (1 + 2 * i)) := hxe
            have hx256 : x < 256 := by rw [hxe]; exact bt_lt _ _
            have ix : wr.cell? ⟨b, o + (5 + 2 * i), none⟩ = some (.int .u8 (x : Int)) := by rw [hxe, ← HBT.out, show 4 + (1 + 2 * i) = 5 + 2 * i by omega]; exact HIN.out hst.low _ (by omega)
            have hz1 : (5 + 2 * (i : Int)).toNat = 5 + 2 * i := by omega
            clear hxe
            by_cases hxl : x < least
            · have hxl' : (x : Int) ≤ (least : Int) - 1 := by omega
              obtain ⟨c0, c1, c2, c3, c4, c5, c6⟩ := row7 hst.res
              have e0 : wr.cell? ⟨w.heap.size + 3, 0, none⟩ = some (.int .i64 0) := cell_of_row wr _ 0 _ _ _ hst.err
              have e1 : wr.cell? ⟨w.heap.size + 3, 1, none⟩ = some (.int .i64 0) := cell_of_row wr _ 1 _ _ _ hst.err
              have f0 := frozen_of_row wr _ 0 _ _ hst.res
              have f1 := frozen_of_row wr _ 1 _ _ hst.res
              have f2 := frozen_of_row wr _ 2 _ _ hst.res
              have f3 := frozen_of_row wr _ 3 _ _ hst.res
              have f4 := frozen_of_row wr _ 4 _ _ hst.res
              have f5 := frozen_of_row wr _ 5 _ _ hst.res
              have f6 := frozen_of_row wr _ 6 _ _ hst.res
              have g0 := frozen_of_row wr _ 0 _ _ hst.err
              have g1 := frozen_of_row wr _ 1 _ _ hst.err
              have hne9 : ¬ w.heap.size + 2 = w.heap.size + 3 := by omega
              have hp := put9 wr (w.heap.size + 2) (w.heap.size + 3) (.int .i64 0) (.int .i64 0) (.int .i64 0) (.int .i64 0) (.int .i64 0) (.slice none 0 0) (.slice none 0 0) (.int .i64 0) (.int .i64 0) (.int .i64 0) (.int .i64 0) (.int .i64 0) (.int .i64 0) (.int .i64 0) (.slice none 0 0) (.slice none 0 0) (.int .i64 6) (.int .i64 (5 + 2 * (i : Int))) hst.res hst.err (by omega)
              go_wp2_with fail
              generalize (((((((((wr.setCell ⟨w.heap.size + 2, 0, none⟩ (.int .i64 0)).setCell ⟨w.heap.size + 2, 1, none⟩ (.int .i64 0)).setCell ⟨w.heap.size + 2, 2, none⟩ (.int .i64 0)).setCell ⟨w.heap.size + 2, 3, none⟩ (.int .i64 0)).setCell ⟨w.heap.size + 2, 4, none⟩ (.int .i64 0)).setCell ⟨w.heap.size + 2, 5, none⟩ (.slice none 0 0)).setCell ⟨w.heap.size + 2, 6, none⟩ (.slice none 0 0)).setCell ⟨w.heap.size + 3, 0, none⟩ (.int .i64 6)).setCell ⟨w.heap.size + 3, 1, none⟩ (.int .i64 (5 + 2 * (i : Int)))) = W9 at hp ⊢
              obtain ⟨hp1, hp2, hp3⟩ := hp
              obtain ⟨d0, d1, d2, d3, d4, d5, d6⟩ := row7 (show W9.heap[w.heap.size + 2]? = _ from hp1)
              have d7 : W9.cell? ⟨w.heap.size + 3, 0, none⟩ = some (.int .i64 6) := cell_of_row _ _ 0 _ _ _ (show W9.heap[w.heap.size + 3]? = _ from hp2)
              have d8 : W9.cell? ⟨w.heap.size + 3, 1, none⟩ = some (.int .i64 (5 + 2 * (i : Int))) := cell_of_row _ _ 1 _ _ _ (show W9.heap[w.heap.size + 3]? = _ from hp2)
              clear c0 c1 c2 c3 c4 c5 c6 f0 f1 f2 f3 f4 f5 f6 g0 g1 e0 e1
              exact bodyPost_ret (v := .tuple #[.agg #[.int .i64 0, .int .i64 0, .int .i64 0, .int .i64 0, .int .i64 0, .slice none 0 0, .slice none 0 0], .agg #[.int .i64 6, .int .i64 (5 + 2 * (i : Int))]]) (by simp [results, Tryd.results62, go_sem, d0, d1, d2, d3, d4, d5, d6, d7, d8]) rfl (RAGives.bad (c := 6) (k := 1 + 2 * i) (HF1.out _ (lackB_1 (by rw [HM.out]; omega) (by rw [← HX.out]; exact blkB_no (.inl hxl)))) (by omega) (hst.low.trans (hp3.toBelow (by have := hst.low.size; omega) (fun k hk q => by omega))))
            · have hxl' : ¬ (x : Int) ≤ (least : Int) - 1 := by omega
              go_wp2_with fail
              refine (hblk _).mono ?_
              rintro e W1 ⟨rfl, hb1⟩
              have hst1 := hst.above (hb1.mono hltr)
              have hown1 := own_of_block hown (fun g hg => hb1.block g (hown.lt g hg).2)
              clear ix k0 k1 k2 y0 y1 y2 y3 y4 y5 y6 hb1 hst hown
              by_cases hxB : Bn ≤ x
              · have hxB' : (x : Int) ≥ (Bn : Int) := by omega
                obtain ⟨c0, c1, c2, c3, c4, c5, c6⟩ := row7 hst1.res
                have e0 : W1.cell? ⟨w.heap.size + 3, 0, none⟩ = some (.int .i64 0) := cell_of_row W1 _ 0 _ _ _ hst1.err
                have e1 : W1.cell? ⟨w.heap.size + 3, 1, none⟩ = some (.int .i64 0) := cell_of_row W1 _ 1 _ _ _ hst1.err
                have f0 := frozen_of_row W1 _ 0 _ _ hst1.res
                have f1 := frozen_of_row W1 _ 1 _ _ hst1.res
                have f2 := frozen_of_row W1 _ 2 _ _ hst1.res
                have f3 := frozen_of_row W1 _ 3 _ _ hst1.res
                have f4 := frozen_of_row W1 _ 4 _ _ hst1.res
                have f5 := frozen_of_row W1 _ 5 _ _ hst1.res
                have f6 := frozen_of_row W1 _ 6 _ _ hst1.res
                have g0 := frozen_of_row W1 _ 0 _ _ hst1.err
                have g1 := frozen_of_row W1 _ 1 _ _ hst1.err
                have hne9 : ¬ w.heap.size + 2 = w.heap.size + 3 := by omega
                have hp := put9 W1 (w.heap.size + 2) (w.heap.size + 3) (.int .i64 0) (.int .i64 0) (.int .i64 0) (.int .i64 0) (.int .i64 0) (.slice none 0 0) (.slice none 0 0) (.int .i64 0) (.int .i64 0) (.int .i64 0) (.int .i64 0) (.int .i64 0) (.int .i64 0) (.int .i64 0) (.slice none 0 0) (.slice none 0 0) (.int .i64 6) (.int .i64 (5 + 2 * (i : Int))) hst1.res hst1.err (by omega)
                go_wp2_with fail
                generalize (((((((((W1.setCell ⟨w.heap.size + 2, 0, none⟩ (.int .i64 0)).setCell ⟨w.heap.size + 2, 1, none⟩ (.int .i64 0)).setCell ⟨w.heap.size + 2, 2, none⟩ (.int .i64 0)).setCell ⟨w.heap.size + 2, 3, none⟩ (.int .i64 0)).setCell ⟨w.heap.size + 2, 4, none⟩ (.int .i64 0)).setCell ⟨w.heap.size + 2, 5, none⟩ (.slice none 0 0)).setCell ⟨w.heap.size + 2, 6, none⟩ (.slice none 0 0)).setCell ⟨w.heap.size + 3, 0, none⟩ (.int .i64 6)).setCell ⟨w.heap.size + 3, 1, none⟩ (.int .i64 (5 + 2 * (i : Int)))) = W9 at hp ⊢
                obtain ⟨hp1, hp2, hp3⟩ := hp
                obtain ⟨d0, d1, d2, d3, d4, d5, d6⟩ := row7 (show W9.heap[w.heap.size + 2]? = _ from hp1)
                have d7 : W9.cell? ⟨w.heap.size + 3, 0, none⟩ = some (.int .i64 6) := cell_of_row _ _ 0 _ _ _ (show W9.heap[w.heap.size + 3]? = _ from hp2)
                have d8 : W9.cell? ⟨w.heap.size + 3, 1, none⟩ = some (.int .i64 (5 + 2 * (i : Int))) := cell_of_row _ _ 1 _ _ _ (show W9.heap[w.heap.size + 3]? = _ from hp2)
                clear c0 c1 c2 c3 c4 c5 c6 f0 f1 f2 f3 f4 f5 f6 g0 g1 e0 e1
                exact bodyPost_ret (v := .tuple #[.agg #[.int .i64 0, .int .i64 0, .int .i64 0, .int .i64 0, .int .i64 0, .slice none 0 0, .slice none 0 0], .agg #[.int .i64 6, .int .i64 (5 + 2 * (i : Int))]]) (by simp [results, Tryd.results62, go_sem, d0, d1, d2, d3, d4, d5, d6, d7, d8]) rfl (RAGives.bad (c := 6) (k := 1 + 2 * i) (HF1.out _ (lackB_1 (by rw [HM.out]; omega) (by rw [← HX.out]; exact blkB_no (.inr (by rw [← HBN.out]; exact hxB))))) (by omega) (hst1.low.trans (hp3.toBelow (by have := hst1.low.size; omega) (fun k hk q => by omega))))
              · have hxB' : ¬ (x : Int) ≥ (Bn : Int) := by omega
                have HBLK : Hid (blkB K T least (bt (l.drop 4) (1 + 2 * i)) = true) := by show _ = _; rw [← HX.out]; exact blkB_yes (by omega) (by rw [← HBN.out]; omega)
                by_cases hq1 : n ≤ 6 + 2 * i
                · have hq1' : (n : Int) ≤ 5 + 2 * (i : Int) + 1 := by omega
                  obtain ⟨c0, c1, c2, c3, c4, c5, c6⟩ := row7 hst1.res
                  have e0 : W1.cell? ⟨w.heap.size + 3, 0, none⟩ = some (.int .i64 0) := cell_of_row W1 _ 0 _ _ _ hst1.err
                  have e1 : W1.cell? ⟨w.heap.size + 3, 1, none⟩ = some (.int .i64 0) := cell_of_row W1 _ 1 _ _ _ hst1.err
                  have f0 := frozen_of_row W1 _ 0 _ _ hst1.res
                  have f1 := frozen_of_row W1 _ 1 _ _ hst1.res
                  have f2 := frozen_of_row W1 _ 2 _ _ hst1.res
                  have f3 := frozen_of_row W1 _ 3 _ _ hst1.res
                  have f4 := frozen_of_row W1 _ 4 _ _ hst1.res
                  have f5 := frozen_of_row W1 _ 5 _ _ hst1.res
                  have f6 := frozen_of_row W1 _ 6 _ _ hst1.res
                  have g0 := frozen_of_row W1 _ 0 _ _ hst1.err
                  have g1 := frozen_of_row W1 _ 1 _ _ hst1.err
                  have hne9 : ¬ w.heap.size + 2 = w.heap.size + 3 := by omega
                  have hp := put9 W1 (w.heap.size + 2) (w.heap.size + 3) (.int .i64 0) (.int .i64 0) (.int .i64 0) (.int .i64 0) (.int .i64 0) (.slice none 0 0) (.slice none 0 0) (.int .i64 0) (.int .i64 0) (.int .i64 0) (.int .i64 0) (.int .i64 0) (.int .i64 0) (.int .i64 0) (.slice none 0 0) (.slice none 0 0) (.int .i64 4) (.int .i64 (n : Int)) hst1.res hst1.err (by omega)
                  go_wp2_with fail
                  generalize (((((((((W1.setCell ⟨w.heap.size + 2, 0, none⟩ (.int .i64 0)).setCell ⟨w.heap.size + 2, 1, none⟩ (.int .i64 0)).setCell ⟨w.heap.size + 2, 2, none⟩ (.int .i64 0)).setCell ⟨w.heap.size + 2, 3, none⟩ (.int .i64 0)).setCell ⟨w.heap.size + 2, 4, none⟩ (.int .i64 0)).setCell ⟨w.heap.size + 2, 5, none⟩ (.slice none 0 0)).setCell ⟨w.heap.size + 2, 6, none⟩ (.slice none 0 0)).setCell ⟨w.heap.size + 3, 0, none⟩ (.int .i64 4)).setCell ⟨w.heap.size + 3, 1, none⟩ (.int .i64 (n : Int))) = W9 at hp ⊢
                  obtain ⟨hp1, hp2, hp3⟩ := hp
                  obtain ⟨d0, d1, d2, d3, d4, d5, d6⟩ := row7 (show W9.heap[w.heap.size + 2]? = _ from hp1)
                  have d7 : W9.cell? ⟨w.heap.size + 3, 0, none⟩ = some (.int .i64 4) := cell_of_row _ _ 0 _ _ _ (show W9.heap[w.heap.size + 3]? = _ from hp2)
                  have d8 : W9.cell? ⟨w.heap.size + 3, 1, none⟩ = some (.int .i64 (n : Int)) := cell_of_row _ _ 1 _ _ _ (show W9.heap[w.heap.size + 3]? = _ from hp2)
                  clear c0 c1 c2 c3 c4 c5 c6 f0 f1 f2 f3 f4 f5 f6 g0 g1 e0 e1
                  exact bodyPost_ret (v := .tuple #[.agg #[.int .i64 0, .int .i64 0, .int .i64 0, .int .i64 0, .int .i64 0, .slice none 0 0, .slice none 0 0], .agg #[.int .i64 4, .int .i64 (n : Int)]]) (by simp [results, Tryd.results62, go_sem, d0, d1, d2, d3, d4, d5, d6, d7, d8]) rfl (RAGives.bad (c := 4) (k := (l.drop 4).length) (HF1.out _ (lackB_2 (by rw [HM.out]; omega) HBLK.out (by rw [HM.out]; omega))) (by rw [HM.out]; omega) (hst1.low.trans (hp3.toBelow (by have := hst1.low.size; omega) (fun k hk q => by omega))))
                · have hq1' : ¬ (n : Int) ≤ 5 + 2 * (i : Int) + 1 := by omega
                  obtain ⟨y, hye⟩ : ∃ y, y = bt (l.drop 4) (1 + 2 * i + 1) := ⟨_, rfl⟩
                  have HY : Hid (y = bt (l.drop 4) (1 + 2 * i + 1)) := hye
                  have hy256 : y < 256 := by rw [hye]; exact bt_lt _ _
                  have iy : W1.cell? ⟨b, o + (5 + 2 * i + 1), none⟩ = some (.int .u8 (y : Int)) := by rw [hye, ← HBT.out, show 4 + (1 + 2 * i + 1) = 5 + 2 * i + 1 by omega]; exact HIN.out hst1.low _ (by omega)
                  clear hye
                  obtain ⟨k0, k1, k2⟩ := hst1.cfgs
                  obtain ⟨y0, y1, y2, y3, y4, y5, y6⟩ := row7 hst1.pk
                  have hlt1 := hst1.lt
                  by_cases hy0 : y < 1
                  · have hy0' : (y : Int) < 1 := by omega
                    obtain ⟨c0, c1, c2, c3, c4, c5, c6⟩ := row7 hst1.res
                    have e0 : W1.cell? ⟨w.heap.size + 3, 0, none⟩ = some (.int .i64 0) := cell_of_row W1 _ 0 _ _ _ hst1.err
                    have e1 : W1.cell? ⟨w.heap.size + 3, 1, none⟩ = some (.int .i64 0) := cell_of_row W1 _ 1 _ _ _ hst1.err
                    have f0 := frozen_of_row W1 _ 0 _ _ hst1.res
                    have f1 := frozen_of_row W1 _ 1 _ _ hst1.res
                    have f2 := frozen_of_row W1 _ 2 _ _ hst1.res
                    have f3 := frozen_of_row W1 _ 3 _ _ hst1.res
                    have f4 := frozen_of_row W1 _ 4 _ _ hst1.res
                    have f5 := frozen_of_row W1 _ 5 _ _ hst1.res
                    have f6 := frozen_of_row W1 _ 6 _ _ hst1.res
                    have g0 := frozen_of_row W1 _ 0 _ _ hst1.err
                    have g1 := frozen_of_row W1 _ 1 _ _ hst1.err
                    have hne9 : ¬ w.heap.size + 2 = w.heap.size + 3 := by omega
                    have hp := put9 W1 (w.heap.size + 2) (w.heap.size + 3) (.int .i64 0) (.int .i64 0) (.int .i64 0) (.int .i64 0) (.int .i64 0) (.slice none 0 0) (.slice none 0 0) (.int .i64 0) (.int .i64 0) (.int .i64 0) (.int .i64 0) (.int .i64 0) (.int .i64 0) (.int .i64 0) (.slice none 0 0) (.slice none 0 0) (.int .i64 6) (.int .i64 (5 + 2 * (i : Int) + 1)) hst1.res hst1.err (by omega)
                    go_wp2_with fail
                    generalize (((((((((W1.setCell ⟨w.heap.size + 2, 0, none⟩ (.int .i64 0)).setCell ⟨w.heap.size + 2, 1, none⟩ (.int .i64 0)).setCell ⟨w.heap.size + 2, 2, none⟩ (.int .i64 0)).setCell ⟨w.heap.size + 2, 3, none⟩ (.int .i64 0)).setCell ⟨w.heap.size + 2, 4, none⟩ (.int .i64 0)).setCell ⟨w.heap.size + 2, 5, none⟩ (.slice none 0 0)).setCell ⟨w.heap.size + 2, 6, none⟩ (.slice none 0 0)).setCell ⟨w.heap.size + 3, 0, none⟩ (.int .i64 6)).setCell ⟨w.heap.size + 3, 1, none⟩ (.int .i64 (5 + 2 * (i : Int) + 1))) = W9 at hp ⊢
                    obtain ⟨hp1, hp2, hp3⟩ := hp
                    obtain ⟨d0, d1, d2, d3, d4, d5, d6⟩ := row7 (show W9.heap[w.heap.size + 2]? = _ from hp1)
                    have d7 : W9.cell? ⟨w.heap.size + 3, 0, none⟩ = some (.int .i64 6) := cell_of_row _ _ 0 _ _ _ (show W9.heap[w.heap.size + 3]? = _ from hp2)
                    have d8 : W9.cell? ⟨w.heap.size + 3, 1, none⟩ = some (.int .i64 (5 + 2 * (i : Int) + 1)) := cell_of_row _ _ 1 _ _ _ (show W9.heap[w.heap.size + 3]? = _ from hp2)
                    clear c0 c1 c2 c3 c4 c5 c6 f0 f1 f2 f3 f4 f5 f6 g0 g1 e0 e1
                    exact bodyPost_ret (v := .tuple #[.agg #[.int .i64 0, .int .i64 0, .int .i64 0, .int .i64 0, .int .i64 0, .slice none 0 0, .slice none 0 0], .agg #[.int .i64 6, .int .i64 (5 + 2 * (i : Int) + 1)]]) (by simp [results, Tryd.results62, go_sem, d0, d1, d2, d3, d4, d5, d6, d7, d8]) rfl (RAGives.bad (c := 6) (k := 1 + 2 * i + 1) (HF1.out _ (lackB_3 (by rw [HM.out]; omega) HBLK.out (by rw [HM.out]; omega) (by rw [← HY.out]; exact manyB_no (by omega)))) (by omega) (hst1.low.trans (hp3.toBelow (by have := hst1.low.size; omega) (fun k hk q => by omega))))
                  · have hy0' : ¬ (y : Int) < 1 := by omega
                    have hbK : x * K < symN S L := by rw [← HTE.out]; exact partsN_mul HK1.out (by rw [← HBN.out]; omega)
                    go_wp2_with fail
                    refine (rsources_any K N S L x HCF.out hL hbK W1).mono ?_
                    rw [← HTE.out]
                    rintro e W2 ⟨rfl, hb2⟩
                    have hst2 := hst1.above (hb2.mono hlt1)
                    have hown2 := own_of_block hown1 (fun g hg => hb2.block g (hown1.lt g hg).2)
                    have hq8 : srcN K T x ≤ 8 := by unfold srcN; have := HCF.out.k8; omega
                    obtain ⟨Q, hQe⟩ : ∃ Q, Q = srcN K T x := ⟨_, rfl⟩
                    rw [← hQe] at hq8 ⊢
                    have HQ : Hid (Q = srcN K T x) := hQe
                    clear iy k0 k1 k2 y0 y1 y2 y3 y4 y5 y6 hb2 hst1 hown1 hQe hbK
                    by_cases hyQ : Q < y
                    · have hyQ' : (y : Int) > (Q : Int) := by omega
                      obtain ⟨c0, c1, c2, c3, c4, c5, c6⟩ := row7 hst2.res
                      have e0 : W2.cell? ⟨w.heap.size + 3, 0, none⟩ = some (.int .i64 0) := cell_of_row W2 _ 0 _ _ _ hst2.err
                      have e1 : W2.cell? ⟨w.heap.size + 3, 1, none⟩ = some (.int .i64 0) := cell_of_row W2 _ 1 _ _ _ hst2.err
                      have f0 := frozen_of_row W2 _ 0 _ _ hst2.res
                      have f1 := frozen_of_row W2 _ 1 _ _ hst2.res
                      have f2 := frozen_of_row W2 _ 2 _ _ hst2.res
                      have f3 := frozen_of_row W2 _ 3 _ _ hst2.res
                      have f4 := frozen_of_row W2 _ 4 _ _ hst2.res
                      have f5 := frozen_of_row W2 _ 5 _ _ hst2.res
                      have f6 := frozen_of_row W2 _ 6 _ _ hst2.res
                      have g0 := frozen_of_row W2 _ 0 _ _ hst2.err
                      have g1 := frozen_of_row W2 _ 1 _ _ hst2.err
                      have hne9 : ¬ w.heap.size + 2 = w.heap.size + 3 := by omega
                      have hp := put9 W2 (w.heap.size + 2) (w.heap.size + 3) (.int .i64 0) (.int .i64 0) (.int .i64 0) (.int .i64 0) (.int .i64 0) (.slice none 0 0) (.slice none 0 0) (.int .i64 0) (.int .i64 0) (.int .i64 0) (.int .i64 0) (.int .i64 0) (.int .i64 0) (.int .i64 0) (.slice none 0 0) (.slice none 0 0) (.int .i64 6) (.int .i64 (5 + 2 * (i : Int) + 1)) hst2.res hst2.err (by omega)
                      go_wp2_with fail
                      generalize (((((((((W2.setCell ⟨w.heap.size + 2, 0, none⟩ (.int .i64 0)).setCell ⟨w.heap.size + 2, 1, none⟩ (.int .i64 0)).setCell ⟨w.heap.size + 2, 2, none⟩ (.int .i64 0)).setCell ⟨w.heap.size + 2, 3, none⟩ (.int .i64 0)).setCell ⟨w.heap.size + 2, 4, none⟩ (.int .i64 0)).setCell ⟨w.heap.size + 2, 5, none⟩ (.slice none 0 0)).setCell ⟨w.heap.size + 2, 6, none⟩ (.slice none 0 0)).setCell ⟨w.heap.size + 3, 0, none⟩ (.int .i64 6)).setCell ⟨w.heap.size + 3, 1, none⟩ (.int .i64 (5 + 2 * (i : Int) + 1))) = W9 at hp ⊢
                      obtain ⟨hp1, hp2, hp3⟩ := hp
                      obtain ⟨d0, d1, d2, d3, d4, d5, d6⟩ := row7 (show W9.heap[w.heap.size + 2]? = _ from hp1)
                      have d7 : W9.cell? ⟨w.heap.size + 3, 0, none⟩ = some (.int .i64 6) := cell_of_row _ _ 0 _ _ _ (show W9.heap[w.heap.size + 3]? = _ from hp2)
                      have d8 : W9.cell? ⟨w.heap.size + 3, 1, none⟩ = some (.int .i64 (5 + 2 * (i : Int) + 1)) := cell_of_row _ _ 1 _ _ _ (show W9.heap[w.heap.size + 3]? = _ from hp2)
                      clear c0 c1 c2 c3 c4 c5 c6 f0 f1 f2 f3 f4 f5 f6 g0 g1 e0 e1
                      exact bodyPost_ret (v := .tuple #[.agg #[.int .i64 0, .int .i64 0, .int .i64 0, .int .i64 0, .int .i64 0, .slice none 0 0, .slice none 0 0], .agg #[.int .i64 6, .int .i64 (5 + 2 * (i : Int) + 1)]]) (by simp [results, Tryd.results62, go_sem, d0, d1, d2, d3, d4, d5, d6, d7, d8]) rfl (RAGives.bad (c := 6) (k := 1 + 2 * i + 1) (HF1.out _ (lackB_3 (by rw [HM.out]; omega) HBLK.out (by rw [HM.out]; omega) (by rw [← HX.out, ← HY.out, ← HQ.out]; exact manyB_no (by omega)))) (by omega) (hst2.low.trans (hp3.toBelow (by have := hst2.low.size; omega) (fun k hk q => by omega))))
                    · have hyQ' : ¬ (y : Int) > (Q : Int) := by omega
                      have HMANY : Hid (manyB (srcN K T (bt (l.drop 4) (1 + 2 * i))) (bt (l.drop 4) (1 + 2 * i + 1)) = true) := by show _ = _; rw [← HX.out, ← HY.out, ← HQ.out]; exact manyB_yes ⟨by omega, by omega⟩
                      have HF3 : Hid (asksB K T (l.drop 4) = asksFrom K T (l.drop 4) (M - (i + 1)) (i + 1) (x + 1)) := by show _ = _; rw [HF2.out (lackB_4 (by rw [HM.out]; omega) HBLK.out (by rw [HM.out]; omega) HMANY.out), ← HX.out]
                      have HLC : Hid (lackCells (l.drop 4) (i + 1) = lackCells (l.drop 4) i ++ [.int .i64 (x : Int), .int .i64 (y : Int)]) := by show _ = _; rw [HX.out, HY.out]; rfl
                      have hlt2 := hst2.lt
                      have y6 : W2.cell? ⟨w.heap.size + 1, 6, none⟩ = some va := (row7 hst2.pk).2.2.2.2.2.2
                      obtain ⟨va1, va2, rfl, _⟩ := own_form2 hown2
                      have hi256 : i ≤ 255 := by omega
                      go_wp2_with (at_builtin; refine wpList_append_lies _ rfl _ _ _ rfl (w.heap.size + 4) 110 iL (.agg #[.int .i64 0, .int .i64 0]) 2 16 Tryd.underlying55 hiL hiL0 hiL1 hiL2 rfl (by omega) (.slice va1 i va2) i (lackCells (l.drop 4) i) rfl (hown2.alloc _) ⟨W2.heap.size, 0, none⟩ 1 1 [.int .i64 (x : Int), .int .i64 (y : Int)] rfl rfl ?c1 ?c2 (by omega) ?c3 (by omega) ?c4 (W2.heap.size + 1) ?c5 ?_)
                      case c1 => exact cell_two_at W2 _ _ _ _ rfl
                      case c2 => intro u hu; simp at hu; rcases hu with rfl | rfl <;> rfl
                      case c3 => unfold maxLen; omega
                      case c4 => simp; omega
                      case c5 => simp
                      intro g6 cap6 w6 hown6 hgr6 hlie6 hlt6
                      have hb6 : Below (w.heap.size + 4) W2 w6 := ((Below.refl _ W2).alloc (by omega) _).grown hgr6 (by simp; omega) (fun t ht => (own_lt2 hown2 ht).1)
                      have hst6 := hst2.above hb6
                      rw [← HLC.out] at hown6
                      have r6 : w6.cell? ⟨w.heap.size + 1, 6, none⟩ = some (.slice va1 i va2) := (row7 hst6.pk).2.2.2.2.2.2
                      have rf6 := frozen_of_row w6 _ 6 _ _ hst6.pk
                      have hst7 : RSt w (w6.setCell ⟨w.heap.size + 1, 6, none⟩ (.slice (some ⟨g6, 0, none⟩) (i + 1) cap6)) K N S (.int .i64 (x0 : Int)) (.int .i64 (x1 : Int)) (.int .i64 (L : Int)) (.int .i64 0) (.int .i64 0) (.slice none 0 0) (.slice (some ⟨g6, 0, none⟩) (i + 1) cap6) := hst6.turn (But.setCell (S := fun g => g = w.heap.size + 1) (But.refl _ w6) (p := ⟨w.heap.size + 1, 6, none⟩) (.inl rfl) (.slice (some ⟨g6, 0, none⟩) (i + 1) cap6)) (heap_setCell_same _ _ 6 _ _ _ hst6.pk)
                      have hown7 := own_of_block hown6 (fun g hg => Below.heap_setCell w6 ⟨w.heap.size + 1, 6, none⟩ (.slice (some ⟨g6, 0, none⟩) (i + 1) cap6) g (by have := (hown6.lt g hg).1; show g ≠ w.heap.size + 1; omega))
                      clear hgr6 hlie6 hb6 hst2 hown2 hst6 hown6 y6
                      go_wp2_with fail
                      go_roundw
                      case rel => exact ⟨i + 1, x + 1, _, by omega, by go_num, by simp, by omega, hst7, hown7, HF3⟩
                      case measure => simp [intOf]; omega
        · obtain rfl : i = M := by omega
          have hlt' : ¬ (i : Int) < (i : Int) := by omega
          have HF2 : Hid (asksB K T (l.drop 4) = if 5 + 2 * i < n then some (7, 1 + 2 * i) else none) := by
            show _ = _
            rw [HF.out, Nat.sub_self, asksFrom, HM.out]
            by_cases h : 5 + 2 * i < n
            · rw [if_pos h, if_pos (by omega)]
            · rw [if_neg h, if_neg (by omega)]
          by_cases hq1 : 5 + 2 * i < n
          · have hq1' : (n : Int) > 5 + 2 * (i : Int) := by omega
            obtain ⟨c0, c1, c2, c3, c4, c5, c6⟩ := row7 hst.res
            have e0 : wr.cell? ⟨w.heap.size + 3, 0, none⟩ = some (.int .i64 0) := cell_of_row wr _ 0 _ _ _ hst.err
            have e1 : wr.cell? ⟨w.heap.size + 3, 1, none⟩ = some (.int .i64 0) := cell_of_row wr _ 1 _ _ _ hst.err
            have f0 := frozen_of_row wr _ 0 _ _ hst.res
            have f1 := frozen_of_row wr _ 1 _ _ hst.res
            have f2 := frozen_of_row wr _ 2 _ _ hst.res
            have f3 := frozen_of_row wr _ 3 _ _ hst.res
            have f4 := frozen_of_row wr _ 4 _ _ hst.res
            have f5 := frozen_of_row wr _ 5 _ _ hst.res
            have f6 := frozen_of_row wr _ 6 _ _ hst.res
            have g0 := frozen_of_row wr _ 0 _ _ hst.err
            have g1 := frozen_of_row wr _ 1 _ _ hst.err
            have hne9 : ¬ w.heap.size + 2 = w.heap.size + 3 := by omega
            have hp := put9 wr (w.heap.size + 2) (w.heap.size + 3) (.int .i64 0) (.int .i64 0) (.int .i64 0) (.int .i64 0) (.int .i64 0) (.slice none 0 0) (.slice none 0 0) (.int .i64 0) (.int .i64 0) (.int .i64 0) (.int .i64 0) (.int .i64 0) (.int .i64 0) (.int .i64 0) (.slice none 0 0) (.slice none 0 0) (.int .i64 7) (.int .i64 (5 + 2 * (i : Int))) hst.res hst.err (by omega)
            go_wp2_with fail
            generalize (((((((((wr.setCell ⟨w.heap.size + 2, 0, none⟩ (.int .i64 0)).setCell ⟨w.heap.size + 2, 1, none⟩ (.int .i64 0)).setCell ⟨w.heap.size + 2, 2, none⟩ (.int .i64 0)).setCell ⟨w.heap.size + 2, 3, none⟩ (.int .i64 0)).setCell ⟨w.heap.size + 2, 4, none⟩ (.int .i64 0)).setCell ⟨w.heap.size + 2, 5, none⟩ (.slice none 0 0)).setCell ⟨w.heap.size + 2, 6, none⟩ (.slice none 0 0)).setCell ⟨w.heap.size + 3, 0, none⟩ (.int .i64 7)).setCell ⟨w.heap.size + 3, 1, none⟩ (.int .i64 (5 + 2 * (i : Int)))) = W9 at hp ⊢
            obtain ⟨hp1, hp2, hp3⟩ := hp
            obtain ⟨d0, d1, d2, d3, d4, d5, d6⟩ := row7 (show W9.heap[w.heap.size + 2]? = _ from hp1)
            have d7 : W9.cell? ⟨w.heap.size + 3, 0, none⟩ = some (.int .i64 7) := cell_of_row _ _ 0 _ _ _ (show W9.heap[w.heap.size + 3]? = _ from hp2)
            have d8 : W9.cell? ⟨w.heap.size + 3, 1, none⟩ = some (.int .i64 (5 + 2 * (i : Int))) := cell_of_row _ _ 1 _ _ _ (show W9.heap[w.heap.size + 3]? = _ from hp2)
            clear c0 c1 c2 c3 c4 c5 c6 f0 f1 f2 f3 f4 f5 f6 g0 g1 e0 e1
            exact bodyPost_ret (v := .tuple #[.agg #[.int .i64 0, .int .i64 0, .int .i64 0, .int .i64 0, .int .i64 0, .slice none 0 0, .slice none 0 0], .agg #[.int .i64 7, .int .i64 (5 + 2 * (i : Int))]]) (by simp [results, Tryd.results62, go_sem, d0, d1, d2, d3, d4, d5, d6, d7, d8]) rfl (RAGives.bad (c := 7) (k := 1 + 2 * i) (by rw [HF2.out, if_pos hq1]) (by omega) (hst.low.trans (hp3.toBelow (by have := hst.low.size; omega) (fun k hk q => by omega))))
          · have hq1' : ¬ (n : Int) > 5 + 2 * (i : Int) := by omega
            obtain ⟨va1, va2, rfl, _⟩ := own_form2 hown
            have hn12 : w.heap.size + 1 ≠ w.heap.size + 2 := by omega
            have hn13 : w.heap.size + 1 ≠ w.heap.size + 3 := by omega
            clear k0 k1 k2
            have hno : ∀ X, Calls Tryd.prog 86 #[] X fun e w1 => e = .returned (.agg #[.int .i64 0, .int .i64 (-1)]) ∧ Below X.heap.size X w1 := none_err
            go_upto_region 23 with fail
            go_region_with (go_at_call 86; refine (hno _).mono ?_; rintro e W7 ⟨rfl, hb7⟩; have hst7 := hst.above ((Below.undrew hb7).mono hltr); obtain ⟨z0, z1, z2, z3, z4, z5, z6⟩ := row7 hst7.pk; obtain ⟨c0, c1, c2, c3, c4, c5, c6⟩ := row7 hst7.res; have e0 : W7.cell? ⟨w.heap.size + 3, 0, none⟩ = some (.int .i64 0) := cell_of_row W7 _ 0 _ _ _ hst7.err; have e1 : W7.cell? ⟨w.heap.size + 3, 1, none⟩ = some (.int .i64 0) := cell_of_row W7 _ 1 _ _ _ hst7.err; have f0 := frozen_of_row W7 _ 0 _ _ hst7.res; have f1 := frozen_of_row W7 _ 1 _ _ hst7.res; have f2 := frozen_of_row W7 _ 2 _ _ hst7.res; have f3 := frozen_of_row W7 _ 3 _ _ hst7.res; have f4 := frozen_of_row W7 _ 4 _ _ hst7.res; have f5 := frozen_of_row W7 _ 5 _ _ hst7.res; have f6 := frozen_of_row W7 _ 6 _ _ hst7.res; have g0 := frozen_of_row W7 _ 0 _ _ hst7.err; have g1 := frozen_of_row W7 _ 1 _ _ hst7.err)
            all_goals
              have hp := put9 W7 (w.heap.size + 2) (w.heap.size + 3) (.int .i64 0) (.int .i64 0) (.int .i64 0) (.int .i64 0) (.int .i64 0) (.slice none 0 0) (.slice none 0 0) (.int .i64 0) (.int .i64 0) (.int .i64 (x0 : Int)) (.int .i64 (x1 : Int)) (.int .i64 (L : Int)) (.int .i64 0) (.int .i64 0) (.slice none 0 0) (.slice va1 i va2) (.int .i64 0) (.int .i64 (-1)) hst7.res hst7.err (by omega)
              generalize (((((((((W7.setCell ⟨w.heap.size + 2, 0, none⟩ (.int .i64 (x0 : Int))).setCell ⟨w.heap.size + 2, 1, none⟩ (.int .i64 (x1 : Int))).setCell ⟨w.heap.size + 2, 2, none⟩ (.int .i64 (L : Int))).setCell ⟨w.heap.size + 2, 3, none⟩ (.int .i64 0)).setCell ⟨w.heap.size + 2, 4, none⟩ (.int .i64 0)).setCell ⟨w.heap.size + 2, 5, none⟩ (.slice none 0 0)).setCell ⟨w.heap.size + 2, 6, none⟩ (.slice va1 i va2)).setCell ⟨w.heap.size + 3, 0, none⟩ (.int .i64 0)).setCell ⟨w.heap.size + 3, 1, none⟩ (.int .i64 (-1))) = W9 at hp ⊢
              obtain ⟨hp1, hp2, hp3⟩ := hp
              obtain ⟨d0, d1, d2, d3, d4, d5, d6⟩ := row7 (show W9.heap[w.heap.size + 2]? = _ from hp1)
              have d7 : W9.cell? ⟨w.heap.size + 3, 0, none⟩ = some (.int .i64 0) := cell_of_row _ _ 0 _ _ _ (show W9.heap[w.heap.size + 3]? = _ from hp2)
              have d8 : W9.cell? ⟨w.heap.size + 3, 1, none⟩ = some (.int .i64 (-1)) := cell_of_row _ _ 1 _ _ _ (show W9.heap[w.heap.size + 3]? = _ from hp2)
              clear c0 c1 c2 c3 c4 c5 c6 f0 f1 f2 f3 f4 f5 f6 g0 g1 e0 e1 z0 z1 z2 z3 z4 z5 z6 y0 y1 y2 y3 y4 y5 y6
              go_wp2_with fail
              exact bodyPost_ret (v := .tuple #[.agg #[.int .i64 (x0 : Int), .int .i64 (x1 : Int), .int .i64 (L : Int), .int .i64 0, .int .i64 0, .slice none 0 0, .slice va1 i va2], .agg #[.int .i64 0, .int .i64 (-1)]]) (by simp [results, Tryd.results62, go_sem, d0, d1, d2, d3, d4, d5, d6, d7, d8]) rfl (by
                refine ⟨?_, hst7.low.trans (hp3.toBelow (by have := hst7.low.size; omega) (fun k hk q => by omega))⟩
                rw [HF2.out, if_neg hq1]
                have h1 := own_of_block hown (fun g hg => (Below.undrew hb7).block g (hown.lt g hg).2)
                have h2 := hp3.own h1 (fun g hg q => by have := (h1.lt g hg).1; omega)
                rw [HMM.out] at h2 ⊢
                exact ⟨va1, va2, rfl, own_base2 h2 (by omega)⟩)

end Go.Proofs.YtjabhnhejbhgjaaDoor
