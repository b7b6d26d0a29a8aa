import Derived.Test.YtjabhnhejbhgjaaGreatDoorAsWalk
import Derived.Test.YtjabhnhejbhgjaaGreatDoorMany5
/- Package wire: behind. -/
namespace Go.Proofs.YtjabhnhejbhgjaaGreatDoor
open Go.RowKit

theorem ErrType.below {w w' : World} {B : Nat} (h : ErrType w) (hb : Below B w w') (hB : 8 < B) : ErrType w' := by
  unfold ErrType
  rw [hb.cell (p := ⟨8, 0, none⟩) hB]; exact h

set_option maxRecDepth 100000 in
set_option maxHeartbeats 2000000 in
theorem behind_any (pb z : Nat) (u : TypeId) (x : Value) (w : World) (hz : z ≤ 140737488355328) (hblk : w.heap[pb]? = some (.cells #[.int .i64 (z : Int), .iface u x] 168 (0, 0))) (hET : ErrType w) (hgl : 8 < w.heap.size) :
    Calls Tryz.prog 68 #[.int .i64 4, .iface 166 (.pointer (some ⟨pb, 0, none⟩))] w fun e w' => ∃ v, e = .returned v ∧ Wr w w' v ((z + 4 : Nat) : Int) (.iface u x) ∧ Below w.heap.size w w' := by
  have hpl := lt_of_block hblk
  have hb0 : Below w.heap.size w (w.alloc (.cells #[.pointer none] 166)) := (Below.refl _ _).alloc (Nat.le_refl _) _
  have hET1 : ErrType (w.alloc (.cells #[.pointer none] 166)) := hET.below hb0 hgl
  have ht0 : (w.alloc (.cells #[.pointer none] 166)).cell? ⟨w.heap.size, 0, none⟩ = some (.pointer none) := cell_of_row _ _ 0 _ _ _ (heap_alloc_new w _)
  have hf0 : (w.alloc (.cells #[.pointer none] 166)).frozen? ⟨w.heap.size, 0, none⟩ = false := frozen_of_row _ _ 0 _ _ (heap_alloc_new w _)
  have hsz : (w.alloc (.cells #[.pointer none] 166)).heap.size = w.heap.size + 1 := by simp
  have hnew := heap_alloc_new w (.cells #[.pointer none] 166)
  go_enter Tryz.func68, Tryz.ntmps68
  go_upto_region 2 with fail
  generalize w.alloc (.cells #[.pointer none] 166) = W at *
  go_wp2_with fail
  refine (as_bad ⟨pb, 0, none⟩ ⟨w.heap.size, 0, none⟩ _ W hET1 ht0 hf0 (by show w.heap.size < _; omega) (by omega)).mono ?_
  rintro e W1 ⟨rfl, hW1⟩
  obtain ⟨V, rfl, hV⟩ : ∃ V, W1 = V.setCell ⟨w.heap.size, 0, none⟩ (.pointer (some ⟨pb, 0, none⟩)) ∧ Below W.heap.size W V := ⟨_, hW1, ((((Below.refl _ W).alloc (Nat.le_refl _) _).alloc (by simp) _).alloc (by simp; omega) _).alloc (by simp; omega) _⟩
  have hVn : V.heap[w.heap.size]? = some (.cells #[.pointer none] 166 (0, 0)) := by rw [hV.block _ (by omega)]; exact hnew
  have hl1 : Below w.heap.size w (V.setCell ⟨w.heap.size, 0, none⟩ (.pointer (some ⟨pb, 0, none⟩))) := (hb0.trans (hV.mono (by omega))).setCell (p := ⟨w.heap.size, 0, none⟩) (Nat.le_refl _) _
  have hc1 : (V.setCell ⟨w.heap.size, 0, none⟩ (.pointer (some ⟨pb, 0, none⟩))).cell? ⟨w.heap.size, 0, none⟩ = some (.pointer (some ⟨pb, 0, none⟩)) := cell_of_row _ _ 0 #[.pointer (some ⟨pb, 0, none⟩)] _ _ (heap_setCell_same V w.heap.size 0 _ _ _ hVn)
  generalize V.setCell ⟨w.heap.size, 0, none⟩ (.pointer (some ⟨pb, 0, none⟩)) = W1 at *
  clear hV hVn
  have hblk1 : W1.heap[pb]? = some (.cells #[.int .i64 (z : Int), .iface u x] 168 (0, 0)) := by rw [hl1.block _ hpl]; exact hblk
  have d0 : W1.cell? ⟨pb, 0, none⟩ = some (.int .i64 (z : Int)) := cell_of_row W1 _ 0 _ _ _ hblk1
  have d1 : W1.cell? ⟨pb, 1, none⟩ = some (.iface u x) := cell_of_row W1 _ 1 _ _ _ hblk1
  have HL1 : Hid (Below w.heap.size w W1) := hl1
  clear hW1 hl1 hET1 ht0 hf0 hb0 hET hnew hblk hblk1
  have hwz : IntKind.i64.wrap (4 + (z : Int)) = ((z + 4 : Nat) : Int) := by rw [IntKind.wrap_i64]; omega
  go_upto_region 3 with fail
  go_region_with (go_at_call 41; refine (wrong_any _ _ _ _).mono ?_; rintro e w' ⟨rfl, rfl⟩)
  all_goals go_wp2_with fail
  all_goals go_ret
  all_goals
    have hs1 := HL1.out.size
    exact ⟨_, rfl, ⟨W1.heap.size, rfl, hs1, by rw [show ((z + 4 : Nat) : Int) = (z : Int) + 4 by omega]; exact heap_alloc_new W1 _⟩, (HL1.out.alloc hs1 _).drew⟩

end Go.Proofs.YtjabhnhejbhgjaaGreatDoor

/- Package wire: the walk of Parse. (Written by gen_parse.py.) -/
namespace Go.Proofs.YtjabhnhejbhgjaaGreatDoor
open Go.RowKit

def lenOf (l : List Gf.F) : Nat := bt l 2 * 256 + bt l 3
/-- What is wrong with a packet. -/
def parseE (K N S : Nat) (l : List Gf.F) : Option (Nat × Nat) :=
  match headE l with
  | some e => some e
  | none => (if bt l 0 = 1 then dataB K N S (symN S (lenOf l)) (l.drop 4) else asksB K (symN S (lenOf l)) (l.drop 4)).map fun e => (e.1, e.2 + 4)

def ParseGives (A : Nat → Addr) (K N S : Nat) (l : List Gf.F) (w : World) (e : Ending) (w' : World) : Prop :=
  (match parseE K N S l with
  | some (c, k) => ∃ v, e = .returned (.tuple #[.agg #[.int .i64 0, .int .i64 0, .int .i64 0, .int .i64 0, .int .i64 0, .slice none 0 0, .slice none 0 0], v]) ∧ Wr w w' v (k : Int) (E A c)
  | none => if bt l 0 = 1 then ∃ a c1, e = .returned (.tuple #[.agg #[.int .i64 (bt l 0 : Int), .int .i64 (bt l 1 : Int), .int .i64 (lenOf l : Int), .int .i64 (bt (l.drop 4) 0 : Int), .int .i64 (bt (l.drop 4) 1 : Int), .slice a S c1, .slice none 0 0], .nilIface]) ∧ w'.ownsRow w.heap.size 5 1 (.slice a S c1) S (encL ((l.drop 4).drop 2))
    else ∃ a c1, e = .returned (.tuple #[.agg #[.int .i64 (bt l 0 : Int), .int .i64 (bt l 1 : Int), .int .i64 (lenOf l : Int), .int .i64 0, .int .i64 0, .slice none 0 0, .slice a (bt (l.drop 4) 0) c1], .nilIface]) ∧ w'.ownsRow w.heap.size 122 2 (.slice a (bt (l.drop 4) 0) c1) (bt (l.drop 4) 0) (lackCells (l.drop 4) (bt (l.drop 4) 0))) ∧ Below w.heap.size w w'
theorem ParseGives.bad {A : Nat → Addr} {K N S c k : Nat} {l : List Gf.F} {w w' : World} {v : Value} (h : parseE K N S l = some (c, k)) (hw : Wr w w' v (k : Int) (E A c)) (hb : Below w.heap.size w w') :
    ParseGives A K N S l w (.returned (.tuple #[.agg #[.int .i64 0, .int .i64 0, .int .i64 0, .int .i64 0, .int .i64 0, .slice none 0 0, .slice none 0 0], v])) w' := by
  unfold ParseGives
  rw [h]
  exact ⟨⟨v, rfl, hw⟩, hb⟩

/-- In the middle of Parse: the configuration's block, the result's. -/
structure PSt (w W : World) (K N S : Nat) : Prop where
  low : Below w.heap.size w W
  cfg : W.heap[w.heap.size]? = some (.cells #[.int .i64 (K : Int), .int .i64 (N : Int), .int .i64 (S : Int)] 30 (0, 0))
  res : W.heap[w.heap.size + 1]? = some (.cells #[.int .i64 0, .int .i64 0, .int .i64 0, .int .i64 0, .int .i64 0, .slice none 0 0, .slice none 0 0] 60 (0, 0))
theorem PSt.start (w : World) (K N S : Nat) : PSt w ((w.alloc (.cells #[.int .i64 (K : Int), .int .i64 (N : Int), .int .i64 (S : Int)] 30)).alloc (.cells #[.int .i64 0, .int .i64 0, .int .i64 0, .int .i64 0, .int .i64 0, .slice none 0 0, .slice none 0 0] 60)) K N S := by
  have e1 := heap_alloc_new (w.alloc (.cells #[.int .i64 (K : Int), .int .i64 (N : Int), .int .i64 (S : Int)] 30)) (.cells #[.int .i64 0, .int .i64 0, .int .i64 0, .int .i64 0, .int .i64 0, .slice none 0 0, .slice none 0 0] 60)
  rw [World.size_alloc] at e1
  exact ⟨((Below.refl _ _).alloc (Nat.le_refl _) _).alloc (by simp) _, by rw [Below.heap_alloc _ _ _ (by simp)]; exact heap_alloc_new w _, e1⟩
theorem PSt.above {w W W' : World} {K N S : Nat} (h : PSt w W K N S) (hb : Below (w.heap.size + 2) W W') : PSt w W' K N S :=
  ⟨h.low.trans (hb.mono (by omega)), by rw [hb.block _ (by omega)]; exact h.cfg, by rw [hb.block _ (by omega)]; exact h.res⟩
theorem PSt.lt {w W : World} {K N S : Nat} (h : PSt w W K N S) : w.heap.size + 2 ≤ W.heap.size := by have := lt_of_block h.res; omega
theorem PSt.errs {A : Nat → Addr} {B0 : Nat} {w W : World} {K N S : Nat} (h : PSt w W K N S) (hE : Errs A B0 w) : Errs A B0 W := hE.below (h.low.mono hE.size)

theorem put345 (W : World) (rb : Nat) (x0 x1 x2 x3 x4 x5 x6 v3 v4 v5 : Value) (h : W.heap[rb]? = some (.cells #[x0, x1, x2, x3, x4, x5, x6] 60 (0, 0))) :
    (((W.setCell ⟨rb, 3, none⟩ v3).setCell ⟨rb, 4, none⟩ v4).setCell ⟨rb, 5, none⟩ v5).heap[rb]? = some (.cells #[x0, x1, x2, v3, v4, v5, x6] 60 (0, 0)) ∧ But (fun g => g = rb) W (((W.setCell ⟨rb, 3, none⟩ v3).setCell ⟨rb, 4, none⟩ v4).setCell ⟨rb, 5, none⟩ v5) := by
  have h3 : (W.setCell ⟨rb, 3, none⟩ v3).heap[rb]? = some (.cells #[x0, x1, x2, v3, x4, x5, x6] 60 (0, 0)) := heap_setCell_same _ rb 3 _ _ v3 h
  have h4 : ((W.setCell ⟨rb, 3, none⟩ v3).setCell ⟨rb, 4, none⟩ v4).heap[rb]? = some (.cells #[x0, x1, x2, v3, v4, x5, x6] 60 (0, 0)) := heap_setCell_same _ rb 4 _ _ v4 h3
  have h5 : (((W.setCell ⟨rb, 3, none⟩ v3).setCell ⟨rb, 4, none⟩ v4).setCell ⟨rb, 5, none⟩ v5).heap[rb]? = some (.cells #[x0, x1, x2, v3, v4, v5, x6] 60 (0, 0)) := heap_setCell_same _ rb 5 _ _ v5 h4
  have b3 := But.setCell (S := fun g => g = rb) (But.refl _ W) (p := ⟨rb, 3, none⟩) (.inl rfl) v3
  have b4 := But.setCell b3 (p := ⟨rb, 4, none⟩) (.inl rfl) v4
  exact ⟨h5, But.setCell b4 (p := ⟨rb, 5, none⟩) (.inl rfl) v5⟩
theorem put6 (W : World) (rb : Nat) (x0 x1 x2 x3 x4 x5 x6 v6 : Value) (h : W.heap[rb]? = some (.cells #[x0, x1, x2, x3, x4, x5, x6] 60 (0, 0))) :
    (W.setCell ⟨rb, 6, none⟩ v6).heap[rb]? = some (.cells #[x0, x1, x2, x3, x4, x5, v6] 60 (0, 0)) ∧ But (fun g => g = rb) W (W.setCell ⟨rb, 6, none⟩ v6) :=
  ⟨heap_setCell_same _ rb 6 _ _ v6 h, But.setCell (S := fun g => g = rb) (But.refl _ W) (p := ⟨rb, 6, none⟩) (.inl rfl) v6⟩

theorem dataB_some {K N S T c k : Nat} {m : List Gf.F} (h : dataB K N S T m = some (c, k)) : (∃ d, c = d + 1) ∧ k ≤ m.length := by
  unfold dataB at h
  split at h
  · cases h; exact ⟨⟨3, rfl⟩, Nat.le_refl _⟩
  split at h
  · cases h; exact ⟨⟨5, rfl⟩, by omega⟩
  split at h
  · cases h; exact ⟨⟨3, rfl⟩, Nat.le_refl _⟩
  split at h
  · cases h; exact ⟨⟨5, rfl⟩, by omega⟩
  split at h
  · cases h; exact ⟨⟨3, rfl⟩, Nat.le_refl _⟩
  split at h
  · cases h; exact ⟨⟨6, rfl⟩, by omega⟩
  · cases h
theorem lackB_some {K T c p k least : Nat} {m : List Gf.F} (h : lackB K T m k least = some (c, p)) : (∃ d, c = d + 1) ∧ p ≤ m.length := by
  unfold lackB at h
  split at h
  · cases h; exact ⟨⟨3, rfl⟩, Nat.le_refl _⟩
  split at h
  · cases h; exact ⟨⟨5, rfl⟩, by omega⟩
  split at h
  · cases h; exact ⟨⟨3, rfl⟩, Nat.le_refl _⟩
  split at h
  · cases h; exact ⟨⟨5, rfl⟩, by omega⟩
  · cases h
theorem asksFrom_some {K T c p : Nat} {m : List Gf.F} : ∀ {r i least : Nat}, asksFrom K T m r i least = some (c, p) → (∃ d, c = d + 1) ∧ p ≤ m.length
  | 0, i, _, h => by
    unfold asksFrom at h
    split at h
    · cases h; exact ⟨⟨6, rfl⟩, by omega⟩
    · cases h
  | r + 1, i, least, h => by
    unfold asksFrom at h
    cases hl : lackB K T m (1 + 2 * i) least with
    | some e => rw [hl] at h; cases h; exact lackB_some hl
    | none => rw [hl] at h; exact asksFrom_some h
theorem asksB_some {K T c k : Nat} {m : List Gf.F} (h : asksB K T m = some (c, k)) : (∃ d, c = d + 1) ∧ k ≤ m.length := by
  unfold asksB at h
  split at h
  · cases h; exact ⟨⟨3, rfl⟩, Nat.le_refl _⟩
  split at h
  · cases h; exact ⟨⟨5, rfl⟩, by omega⟩
  · exact asksFrom_some h

theorem head_none {l : List Gf.F} (h : headE l = none) : 4 ≤ l.length ∧ kindB (bt l 0) = true ∧ objB (bt l 1) = true ∧ lenB (bt l 2 * 256 + bt l 3) = true := by
  unfold headE at h
  split at h
  · cases h
  split at h
  · cases h
  rename_i h1
  split at h
  · cases h
  split at h
  · cases h
  rename_i h2
  split at h
  · cases h
  split at h
  · cases h
  rename_i h4 h3
  exact ⟨by omega, by simpa using h1, by simpa using h2, by simpa using h3⟩

set_option maxRecDepth 100000 in
set_option maxHeartbeats 4000000 in
theorem parse_any (A : Nat → Addr) (B0 : Nat) (a : Option Addr) (b o n c K N S : Nat) (l : List Gf.F) (w : World) (hE : Errs A B0 w) (hET : ErrType w) (hB9 : 8 < w.heap.size) (hcfg : Cfg K N S) (hl : l.length = n) (hn : n ≤ c) (hc : c ≤ 9223372036854775807) (hn2 : n ≤ 140737488355328) (ha : 0 < n → a = some ⟨b, o, none⟩) (hB : Bs w b o l) (hb : 0 < n → b < w.heap.size) :
    Calls Tryz.prog 40 #[.agg #[.int .i64 (K : Int), .int .i64 (N : Int), .int .i64 (S : Int)], .slice a n c] w (ParseGives A K N S l w) := by
  have HCF : Hid (Cfg K N S) := hcfg
  have hs8 := hcfg.s8
  have hst := PSt.start w K N S
  clear hcfg
  have hsE := hE.size
  go_enter Tryz.func40, Tryz.ntmps40
  go_upto_region 1 with fail
  generalize ((w.alloc (.cells #[.int .i64 (K : Int), .int .i64 (N : Int), .int .i64 (S : Int)] 30)).alloc (.cells #[.int .i64 0, .int .i64 0, .int .i64 0, .int .i64 0, .int .i64 0, .slice none 0 0, .slice none 0 0] 60)) = W at *
  have hE0 := hst.errs hE
  have hlt0 := hst.lt
  have hB1 : Bs W b o l := fun i hi => by rw [hst.low.cell (p := ⟨b, o + i, none⟩) (hb (by omega))]; exact hB i hi
  go_wp2_with fail
  refine (head_any A B0 a b o n c l W hE0 hl hn hc hn2 ha hB1 (fun h => by have := hb h; omega)).mono ?_
  intro e W1 hH
  cases hhd : headE l with
  | some ep =>
    obtain ⟨ec, ek⟩ := ep
    unfold HeadGives at hH
    rw [hhd] at hH
    obtain ⟨v, rfl, ⟨pb, rfl, hpb, hblk0⟩, hbH⟩ := hH
    have hblk : (W1.alloc (.cells #[.int .i64 0, .int .i64 0, .int .i64 0, .int .i64 0, .int .i64 0, .slice none 0 0, .slice none 0 0] 60)).heap[pb]? = _ := (Below.heap_alloc W1 _ pb (lt_of_block hblk0)).trans hblk0
    have hst1 := hst.above ((hbH.mono hlt0).alloc (by have := hbH.size; omega) (.cells #[.int .i64 0, .int .i64 0, .int .i64 0, .int .i64 0, .int .i64 0, .slice none 0 0, .slice none 0 0] 60))
    go_upto_region 3 with fail
    generalize W1.alloc (.cells #[.int .i64 0, .int .i64 0, .int .i64 0, .int .i64 0, .int .i64 0, .slice none 0 0, .slice none 0 0] 60) = X at hst1 hblk ⊢
    clear hst hE0 hB1 hblk0
    obtain ⟨c0, c1, c2, c3, c4, c5, c6⟩ := row7 hst1.res
    have f0 := frozen_of_row X _ 0 _ _ hst1.res
    have f1 := frozen_of_row X _ 1 _ _ hst1.res
    have f2 := frozen_of_row X _ 2 _ _ hst1.res
    have f3 := frozen_of_row X _ 3 _ _ hst1.res
    have f4 := frozen_of_row X _ 4 _ _ hst1.res
    have f5 := frozen_of_row X _ 5 _ _ hst1.res
    have f6 := frozen_of_row X _ 6 _ _ hst1.res
    have hp := put7 X (w.heap.size + 1) (.int .i64 0) (.int .i64 0) (.int .i64 0) (.int .i64 0) (.int .i64 0) (.slice none 0 0) (.slice none 0 0) (.int .i64 0) (.int .i64 0) (.int .i64 0) (.int .i64 0) (.int .i64 0) (.slice none 0 0) (.slice none 0 0) hst1.res
    go_wp2_with fail
    generalize (((((((X.setCell ⟨w.heap.size + 1, 0, none⟩ (.int .i64 0)).setCell ⟨w.heap.size + 1, 1, none⟩ (.int .i64 0)).setCell ⟨w.heap.size + 1, 2, none⟩ (.int .i64 0)).setCell ⟨w.heap.size + 1, 3, none⟩ (.int .i64 0)).setCell ⟨w.heap.size + 1, 4, none⟩ (.int .i64 0)).setCell ⟨w.heap.size + 1, 5, none⟩ (.slice none 0 0)).setCell ⟨w.heap.size + 1, 6, none⟩ (.slice none 0 0)) = W9 at hp ⊢
    obtain ⟨hp1, hp2⟩ := hp
    obtain ⟨d0, d1, d2, d3, d4, d5, d6⟩ := row7 hp1
    clear c0 c1 c2 c3 c4 c5 c6 f0 f1 f2 f3 f4 f5 f6
    exact bodyPost_ret (v := .tuple #[.agg #[.int .i64 0, .int .i64 0, .int .i64 0, .int .i64 0, .int .i64 0, .slice none 0 0, .slice none 0 0], .iface 166 (.pointer (some ⟨pb, 0, none⟩))]) (by simp [results, Tryz.results40, go_sem, d0, d1, d2, d3, d4, d5, d6]) rfl (ParseGives.bad (by unfold parseE; rw [hhd]) ⟨pb, rfl, by omega, by rw [hp2.block pb (lt_of_block hblk) (by omega)]; exact hblk⟩ (hst1.low.trans (hp2.toBelow (by have := hst1.low.size; omega) (fun k hk q => by omega))))
  | none =>
    unfold HeadGives at hH
    rw [hhd] at hH
    obtain ⟨rfl, hbH⟩ := hH
    obtain ⟨hn4, hkb, _, hlb⟩ := head_none hhd
    rw [hl] at hn4
    have hL255 : bt l 2 * 256 + bt l 3 ≤ 255 := of_decide_eq_true hlb
    have hkind : bt l 0 = 1 ∨ bt l 0 = 2 := of_decide_eq_true hkb
    clear hkb hlb
    obtain rfl := ha (by omega)
    have hbl := hb (by omega)
    obtain ⟨L, hLe⟩ : ∃ L : Nat, L = bt l 2 * 256 + bt l 3 := ⟨_, rfl⟩
    rw [← hLe] at hL255 ⊢
    have HL : Hid (L = lenOf l) := hLe
    have HD : Hid (headE l = none) := hhd
    clear hLe hhd ha hb
    obtain ⟨T, hTe⟩ : ∃ T, T = symN S L := ⟨_, rfl⟩
    have hT : T ≤ 70000 := by have := symN_range (S := S) (len := L) HCF.out.s1; omega
    have HT : Hid (T = symN S L) := hTe
    have hlt1 := hbH.size
    have hst1 := hst.above ((hbH.mono hlt0).alloc (by omega) (.cells #[.int .i64 (bt l 0 : Int), .int .i64 (bt l 1 : Int), .int .i64 (L : Int), .int .i64 0, .int .i64 0, .slice none 0 0, .slice none 0 0] 60))
    have hpk : (W1.alloc (.cells #[.int .i64 (bt l 0 : Int), .int .i64 (bt l 1 : Int), .int .i64 (L : Int), .int .i64 0, .int .i64 0, .slice none 0 0, .slice none 0 0] 60)).heap[W1.heap.size]? = some (.cells #[.int .i64 (bt l 0 : Int), .int .i64 (bt l 1 : Int), .int .i64 (L : Int), .int .i64 0, .int .i64 0, .slice none 0 0, .slice none 0 0] 60 (0, 0)) := heap_alloc_new W1 _
    have hsz1 : W1.heap.size < (W1.alloc (.cells #[.int .i64 (bt l 0 : Int), .int .i64 (bt l 1 : Int), .int .i64 (L : Int), .int .i64 0, .int .i64 0, .slice none 0 0, .slice none 0 0] 60)).heap.size := by simp
    go_upto_region 4 with fail
    generalize W1.alloc (.cells #[.int .i64 (bt l 0 : Int), .int .i64 (bt l 1 : Int), .int .i64 (L : Int), .int .i64 0, .int .i64 0, .slice none 0 0, .slice none 0 0] 60) = X at hst1 hpk hsz1 ⊢
    generalize hpp : W1.heap.size = pp at hpk hsz1 hlt1 ⊢
    clear hst hE0 hB1 hbH hpp hTe
    obtain ⟨a', hae⟩ : ∃ a' : Option Addr, a' = (if c = 4 then some ⟨b, o, none⟩ else some ⟨b, o + 4, none⟩) := ⟨_, rfl⟩
    have ha' : 0 < n - 4 → a' = some ⟨b, o + 4, none⟩ := fun h => by rw [hae, if_neg (by omega)]
    have hst2 := hst1.above ((Below.refl (w.heap.size + 2) X).alloc hst1.lt (.cells #[.slice a' (n - 4) (c - 4), .int .i64 0] 160))
    have hR2 : Rdr (X.alloc (.cells #[.slice a' (n - 4) (c - 4), .int .i64 0] 160)) X.heap.size (.slice a' (n - 4) (c - 4)) 0 := heap_alloc_new X _
    have hpk2 : (X.alloc (.cells #[.slice a' (n - 4) (c - 4), .int .i64 0] 160)).heap[pp]? = _ := (Below.heap_alloc X _ pp hsz1).trans hpk
    go_upto_region 5 with fail
    rw [← hae]
    generalize X.alloc (.cells #[.slice a' (n - 4) (c - 4), .int .i64 0] 160) = Y at hst2 hR2 hpk2 ⊢
    have hrbw := hst1.lt
    generalize hrb : X.heap.size = rb at hR2 hsz1 hrbw ⊢
    clear hrb hst1 hpk hae
    obtain ⟨q0, q1, q2, q3, q4, q5, q6⟩ := row7 hpk2
    have k0 : Y.cell? ⟨w.heap.size, 0, none⟩ = some (.int .i64 (K : Int)) := cell_of_row Y _ 0 _ _ _ hst2.cfg
    have k1 : Y.cell? ⟨w.heap.size, 1, none⟩ = some (.int .i64 (N : Int)) := cell_of_row Y _ 1 _ _ _ hst2.cfg
    have k2 : Y.cell? ⟨w.heap.size, 2, none⟩ = some (.int .i64 (S : Int)) := cell_of_row Y _ 2 _ _ _ hst2.cfg
    go_wp2_with fail
    refine (of_any K N S L HCF.out (by omega) Y).mono ?_
    rintro e Y1 ⟨rfl, hbY⟩
    rw [← HT.out]
    have hszY := hst2.lt
    have hlr := hR2.lt
    have hbY2 : Below Y.heap.size Y (Y1.alloc (.cells #[.int .i64 (K : Int), .int .i64 (N : Int), .int .i64 (S : Int), .int .i64 (T : Int)] 148)) := hbY.alloc hbY.size _
    have hst3 := hst2.above (hbY2.mono hszY)
    have hR3 : Rdr (Y1.alloc (.cells #[.int .i64 (K : Int), .int .i64 (N : Int), .int .i64 (S : Int), .int .i64 (T : Int)] 148)) rb (.slice a' (n - 4) (c - 4)) 0 := hR2.kept (hbY2.block _ hlr)
    have hpk3 : (Y1.alloc (.cells #[.int .i64 (K : Int), .int .i64 (N : Int), .int .i64 (S : Int), .int .i64 (T : Int)] 148)).heap[pp]? = _ := (hbY2.block _ (lt_of_block hpk2)).trans hpk2
    have hpl3 : (Y1.alloc (.cells #[.int .i64 (K : Int), .int .i64 (N : Int), .int .i64 (S : Int), .int .i64 (T : Int)] 148)).heap[Y1.heap.size]? = some (.cells #[.int .i64 (K : Int), .int .i64 (N : Int), .int .i64 (S : Int), .int .i64 (T : Int)] 148 (0, 0)) := heap_alloc_new Y1 _
    go_upto_region 6 with fail
    generalize Y1.alloc (.cells #[.int .i64 (K : Int), .int .i64 (N : Int), .int .i64 (S : Int), .int .i64 (T : Int)] 148) = V at hst3 hR3 hpk3 hpl3 ⊢
    have hplw : w.heap.size + 2 ≤ Y1.heap.size := by have := hbY.size; omega
    generalize hpb0 : Y1.heap.size = pl at hpl3 hplw ⊢
    clear hpb0 hbY hbY2 hst2 hR2 hpk2 q0 q1 q2 q3 q4 q5 q6 k0 k1 k2
    obtain ⟨q0, q1, q2, q3, q4, q5, q6⟩ := row7 hpk3
    have f3 := frozen_of_row V _ 3 _ _ hpk3
    have f4 := frozen_of_row V _ 4 _ _ hpk3
    have f5 := frozen_of_row V _ 5 _ _ hpk3
    have f6 := frozen_of_row V _ 6 _ _ hpk3
    have k2 : V.cell? ⟨w.heap.size, 2, none⟩ = some (.int .i64 (S : Int)) := cell_of_row V _ 2 _ _ _ hst3.cfg
    have t0 : V.cell? ⟨pl, 0, none⟩ = some (.int .i64 (K : Int)) := cell_of_row V _ 0 _ _ _ hpl3
    have t1 : V.cell? ⟨pl, 1, none⟩ = some (.int .i64 (N : Int)) := cell_of_row V _ 1 _ _ _ hpl3
    have t2 : V.cell? ⟨pl, 2, none⟩ = some (.int .i64 (S : Int)) := cell_of_row V _ 2 _ _ _ hpl3
    have t3 : V.cell? ⟨pl, 3, none⟩ = some (.int .i64 (T : Int)) := cell_of_row V _ 3 _ _ _ hpl3
    have hEV := hst3.errs hE
    have hm : (l.drop 4).length = n - 4 := by simp [hl]
    have hBV : Bs V b (o + 4) (l.drop 4) := fun i hi => by
      have h1 := hB (4 + i) (by rw [hl]; rw [hm] at hi; omega)
      rw [hst3.low.cell (p := ⟨b, o + 4 + i, none⟩) hbl, show o + 4 + i = o + (4 + i) by omega, h1]
      simp [at_, List.getD]
    have hbrb : b ≠ rb := by omega
    have hltV := hst3.lt
    rcases hkind with hk1 | hk2
    · rw [hk1] at q0 ⊢
      go_wp2_with fail
      refine (data_any A B0 a' b (o + 4) (n - 4) (c - 4) rb K N S T (l.drop 4) V hEV (by omega) HCF.out hT hR3 hm (by omega) (by omega) (by omega) ha' hBV (fun _ => ⟨hbrb, by omega⟩)).mono ?_
      intro e V1 hG
      obtain ⟨hG1, hG2⟩ := hG
      have hst4 := hst3.above (hG2.toBelow hltV (fun k hk q => by omega))
      have hltV4 := hst4.lt
      have hpk4 : V1.heap[pp]? = some (.cells #[.int .i64 1, .int .i64 (bt l 1 : Int), .int .i64 (L : Int), .int .i64 0, .int .i64 0, .slice none 0 0, .slice none 0 0] 60 (0, 0)) := by rw [hG2.block _ (lt_of_block hpk3) (by omega)]; rw [hk1] at hpk3; exact hpk3
      have hppV := lt_of_block hpk3
      clear q0 q1 q2 q3 q4 q5 q6 f3 f4 f5 f6 k2 t0 t1 t2 t3
      have q3 : V1.cell? ⟨pp, 3, none⟩ = some (.int .i64 0) := cell_of_row V1 _ 3 _ _ _ hpk4
      have q4 : V1.cell? ⟨pp, 4, none⟩ = some (.int .i64 0) := cell_of_row V1 _ 4 _ _ _ hpk4
      have q5 : V1.cell? ⟨pp, 5, none⟩ = some (.slice none 0 0) := cell_of_row V1 _ 5 _ _ _ hpk4
      have f3 := frozen_of_row V1 _ 3 _ _ hpk4
      have f4 := frozen_of_row V1 _ 4 _ _ hpk4
      have f5 := frozen_of_row V1 _ 5 _ _ hpk4
      cases hdb : dataB K N S T (l.drop 4) with
      | some ep =>
        obtain ⟨ec, ek⟩ := ep
        rw [hdb] at hG1
        obtain ⟨x, y, a1, n1, z1, v, rfl, ⟨pb, rfl, hpb, hblk0⟩⟩ := hG1
        obtain ⟨⟨d, rfl⟩, hek⟩ := dataB_some hdb
        rw [E_succ] at hblk0
        have hp2 := put345 V1 pp _ _ _ _ _ _ _ (.int .i64 x) (.int .i64 y) (.slice a1 n1 z1) hpk4
        have hBAD : parseE K N S l = some (d + 1, ek + 4) := by
          unfold parseE
          rw [HD.out]
          show Option.map _ _ = _
          rw [if_pos hk1, ← HL.out, ← HT.out, hdb]
          rfl
        go_upto_region 10 with fail
        generalize ((V1.setCell ⟨pp, 3, none⟩ (.int .i64 x)).setCell ⟨pp, 4, none⟩ (.int .i64 y)).setCell ⟨pp, 5, none⟩ (.slice a1 n1 z1) = V2 at hp2 ⊢
        obtain ⟨hp21, hp22⟩ := hp2
        have hst5 := hst4.above (hp22.toBelow hltV4 (fun k hk q => by omega))
        have hltV5 := hst5.lt
        have hblk1 : V2.heap[pb]? = some (.cells #[.int .i64 (ek : Int), .iface 269 (.pointer (some (A d)))] 168 (0, 0)) := by rw [hp22.block _ (lt_of_block hblk0) (by omega)]; exact hblk0
        have hsz5 := hp22.size
        go_wp2_with fail
        refine (behind_any pb ek _ _ V2 (by rw [hm] at hek; omega) hblk1 (hET.below hst5.low hB9) (by omega)).mono ?_
        rintro e V3 ⟨v, rfl, ⟨pb3, rfl, hpb3, hblk3⟩, hb3⟩
        have hst6 := hst5.above (hb3.mono hltV5)
        clear hst5 hst4 hst3 hblk1 hblk0 hp21 hp22
        obtain ⟨c0, c1, c2, c3, c4, c5, c6⟩ := row7 hst6.res
        have f0 := frozen_of_row V3 _ 0 _ _ hst6.res
        have f1 := frozen_of_row V3 _ 1 _ _ hst6.res
        have f2 := frozen_of_row V3 _ 2 _ _ hst6.res
        have f3 := frozen_of_row V3 _ 3 _ _ hst6.res
        have f4 := frozen_of_row V3 _ 4 _ _ hst6.res
        have f5 := frozen_of_row V3 _ 5 _ _ hst6.res
        have f6 := frozen_of_row V3 _ 6 _ _ hst6.res
        have hp := put7 V3 (w.heap.size + 1) (.int .i64 0) (.int .i64 0) (.int .i64 0) (.int .i64 0) (.int .i64 0) (.slice none 0 0) (.slice none 0 0) (.int .i64 0) (.int .i64 0) (.int .i64 0) (.int .i64 0) (.int .i64 0) (.slice none 0 0) (.slice none 0 0) hst6.res
        go_wp2_with fail
        generalize (((((((V3.setCell ⟨w.heap.size + 1, 0, none⟩ (.int .i64 0)).setCell ⟨w.heap.size + 1, 1, none⟩ (.int .i64 0)).setCell ⟨w.heap.size + 1, 2, none⟩ (.int .i64 0)).setCell ⟨w.heap.size + 1, 3, none⟩ (.int .i64 0)).setCell ⟨w.heap.size + 1, 4, none⟩ (.int .i64 0)).setCell ⟨w.heap.size + 1, 5, none⟩ (.slice none 0 0)).setCell ⟨w.heap.size + 1, 6, none⟩ (.slice none 0 0)) = W9 at hp ⊢
        obtain ⟨hp1, hp2⟩ := hp
        obtain ⟨d0, d1, d2, d3, d4, d5, d6⟩ := row7 hp1
        clear c0 c1 c2 c3 c4 c5 c6 f0 f1 f2 f3 f4 f5 f6
        exact bodyPost_ret (v := .tuple #[.agg #[.int .i64 0, .int .i64 0, .int .i64 0, .int .i64 0, .int .i64 0, .slice none 0 0, .slice none 0 0], .iface 166 (.pointer (some ⟨pb3, 0, none⟩))]) (by simp [results, Tryz.results40, go_sem, d0, d1, d2, d3, d4, d5, d6]) rfl (ParseGives.bad hBAD ⟨pb3, rfl, by omega, by rw [hp2.block pb3 (lt_of_block hblk3) (by omega)]; exact hblk3⟩ (hst6.low.trans (hp2.toBelow (by have := hst6.low.size; omega) (fun k hk q => by omega))))
      | none =>
        rw [hdb] at hG1
        obtain ⟨a1, z1, rfl, hown⟩ := hG1
        have hp2 := put345 V1 pp _ _ _ _ _ _ _ (.int .i64 (bt (l.drop 4) 0 : Int)) (.int .i64 (bt (l.drop 4) 1 : Int)) (.slice a1 S z1) hpk4
        go_upto_region 11 with fail
        generalize ((V1.setCell ⟨pp, 3, none⟩ (.int .i64 (bt (l.drop 4) 0 : Int))).setCell ⟨pp, 4, none⟩ (.int .i64 (bt (l.drop 4) 1 : Int))).setCell ⟨pp, 5, none⟩ (.slice a1 S z1) = V2 at hp2 ⊢
        obtain ⟨hp21, hp22⟩ := hp2
        have hst5 := hst4.above (hp22.toBelow hltV4 (fun k hk q => by omega))
        have hown2 := hp22.own hown (fun g hg q => by have := (hown.lt g hg).1; omega)
        obtain ⟨q0, q1, q2, q3', q4', q5', q6⟩ := row7 hp21
        clear q3 q4 q5 f3 f4 f5 hst4 hst3 hpk4 hp22
        obtain ⟨c0, c1, c2, c3, c4, c5, c6⟩ := row7 hst5.res
        have f0 := frozen_of_row V2 _ 0 _ _ hst5.res
        have f1 := frozen_of_row V2 _ 1 _ _ hst5.res
        have f2 := frozen_of_row V2 _ 2 _ _ hst5.res
        have f3 := frozen_of_row V2 _ 3 _ _ hst5.res
        have f4 := frozen_of_row V2 _ 4 _ _ hst5.res
        have f5 := frozen_of_row V2 _ 5 _ _ hst5.res
        have f6 := frozen_of_row V2 _ 6 _ _ hst5.res
        have hp := put7 V2 (w.heap.size + 1) (.int .i64 0) (.int .i64 0) (.int .i64 0) (.int .i64 0) (.int .i64 0) (.slice none 0 0) (.slice none 0 0) (.int .i64 1) (.int .i64 (bt l 1 : Int)) (.int .i64 (L : Int)) (.int .i64 (bt (l.drop 4) 0 : Int)) (.int .i64 (bt (l.drop 4) 1 : Int)) (.slice a1 S z1) (.slice none 0 0) hst5.res
        have hNONE : parseE K N S l = none := by
          unfold parseE
          rw [HD.out]
          show Option.map _ _ = _
          rw [if_pos hk1, ← HL.out, ← HT.out, hdb]
          rfl
        go_wp2_with fail
        generalize (((((((V2.setCell ⟨w.heap.size + 1, 0, none⟩ (.int .i64 1)).setCell ⟨w.heap.size + 1, 1, none⟩ (.int .i64 (bt l 1 : Int))).setCell ⟨w.heap.size + 1, 2, none⟩ (.int .i64 (L : Int))).setCell ⟨w.heap.size + 1, 3, none⟩ (.int .i64 (bt (l.drop 4) 0 : Int))).setCell ⟨w.heap.size + 1, 4, none⟩ (.int .i64 (bt (l.drop 4) 1 : Int))).setCell ⟨w.heap.size + 1, 5, none⟩ (.slice a1 S z1)).setCell ⟨w.heap.size + 1, 6, none⟩ (.slice none 0 0)) = W9 at hp ⊢
        obtain ⟨hp1, hp2⟩ := hp
        obtain ⟨d0, d1, d2, d3, d4, d5, d6⟩ := row7 hp1
        clear c0 c1 c2 c3 c4 c5 c6 f0 f1 f2 f3 f4 f5 f6
        exact bodyPost_ret (v := .tuple #[.agg #[.int .i64 1, .int .i64 (bt l 1 : Int), .int .i64 (L : Int), .int .i64 (bt (l.drop 4) 0 : Int), .int .i64 (bt (l.drop 4) 1 : Int), .slice a1 S z1, .slice none 0 0], .nilIface]) (by simp [results, Tryz.results40, go_sem, d0, d1, d2, d3, d4, d5, d6]) rfl (by
          refine ⟨?_, hst5.low.trans (hp2.toBelow (by have := hst5.low.size; omega) (fun k hk q => by omega))⟩
          rw [hNONE, if_pos hk1]
          refine ⟨a1, z1, by rw [hk1, ← HL.out]; rfl, own_base2 (hp2.own hown2 (fun g hg q => by have := (hown2.lt g hg).1; omega)) (by omega)⟩)
    · rw [hk2] at q0 ⊢
      go_wp2_with fail
      refine (asks_any A B0 a' b (o + 4) (n - 4) (c - 4) rb K N S T (l.drop 4) V hEV (by omega) HCF.out hT hR3 hm (by omega) (by omega) (by omega) ha' hBV (fun _ => ⟨hbrb, by omega⟩)).mono ?_
      intro e V1 hG
      obtain ⟨hG1, hG2⟩ := hG
      have hst4 := hst3.above (hG2.toBelow hltV (fun k hk q => by omega))
      have hltV4 := hst4.lt
      have hpk4 : V1.heap[pp]? = some (.cells #[.int .i64 2, .int .i64 (bt l 1 : Int), .int .i64 (L : Int), .int .i64 0, .int .i64 0, .slice none 0 0, .slice none 0 0] 60 (0, 0)) := by rw [hG2.block _ (lt_of_block hpk3) (by omega)]; rw [hk2] at hpk3; exact hpk3
      have hppV := lt_of_block hpk3
      clear q0 q1 q2 q3 q4 q5 q6 f3 f4 f5 f6 k2 t0 t1 t2 t3
      have q6 : V1.cell? ⟨pp, 6, none⟩ = some (.slice none 0 0) := cell_of_row V1 _ 6 _ _ _ hpk4
      have f6 := frozen_of_row V1 _ 6 _ _ hpk4
      cases hdb : asksB K T (l.drop 4) with
      | some ep =>
        obtain ⟨ec, ek⟩ := ep
        rw [hdb] at hG1
        obtain ⟨a1, n1, z1, v, rfl, ⟨pb, rfl, hpb, hblk0⟩⟩ := hG1
        obtain ⟨⟨d, rfl⟩, hek⟩ := asksB_some hdb
        rw [E_succ] at hblk0
        have hp2 := put6 V1 pp _ _ _ _ _ _ _ (.slice a1 n1 z1) hpk4
        have hBAD : parseE K N S l = some (d + 1, ek + 4) := by
          unfold parseE
          rw [HD.out]
          show Option.map _ _ = _
          rw [if_neg (by omega : ¬ bt l 0 = 1), ← HL.out, ← HT.out, hdb]
          rfl
        go_upto_region 10 with fail
        generalize V1.setCell ⟨pp, 6, none⟩ (.slice a1 n1 z1) = V2 at hp2 ⊢
        obtain ⟨hp21, hp22⟩ := hp2
        have hst5 := hst4.above (hp22.toBelow hltV4 (fun k hk q => by omega))
        have hltV5 := hst5.lt
        have hblk1 : V2.heap[pb]? = some (.cells #[.int .i64 (ek : Int), .iface 269 (.pointer (some (A d)))] 168 (0, 0)) := by rw [hp22.block _ (lt_of_block hblk0) (by omega)]; exact hblk0
        have hsz5 := hp22.size
        go_wp2_with fail
        refine (behind_any pb ek _ _ V2 (by rw [hm] at hek; omega) hblk1 (hET.below hst5.low hB9) (by omega)).mono ?_
        rintro e V3 ⟨v, rfl, ⟨pb3, rfl, hpb3, hblk3⟩, hb3⟩
        have hst6 := hst5.above (hb3.mono hltV5)
        clear hst5 hst4 hst3 hblk1 hblk0 hp21 hp22
        obtain ⟨c0, c1, c2, c3, c4, c5, c6⟩ := row7 hst6.res
        have f0 := frozen_of_row V3 _ 0 _ _ hst6.res
        have f1 := frozen_of_row V3 _ 1 _ _ hst6.res
        have f2 := frozen_of_row V3 _ 2 _ _ hst6.res
        have f3 := frozen_of_row V3 _ 3 _ _ hst6.res
        have f4 := frozen_of_row V3 _ 4 _ _ hst6.res
        have f5 := frozen_of_row V3 _ 5 _ _ hst6.res
        have f6 := frozen_of_row V3 _ 6 _ _ hst6.res
        have hp := put7 V3 (w.heap.size + 1) (.int .i64 0) (.int .i64 0) (.int .i64 0) (.int .i64 0) (.int .i64 0) (.slice none 0 0) (.slice none 0 0) (.int .i64 0) (.int .i64 0) (.int .i64 0) (.int .i64 0) (.int .i64 0) (.slice none 0 0) (.slice none 0 0) hst6.res
        go_wp2_with fail
        generalize (((((((V3.setCell ⟨w.heap.size + 1, 0, none⟩ (.int .i64 0)).setCell ⟨w.heap.size + 1, 1, none⟩ (.int .i64 0)).setCell ⟨w.heap.size + 1, 2, none⟩ (.int .i64 0)).setCell ⟨w.heap.size + 1, 3, none⟩ (.int .i64 0)).setCell ⟨w.heap.size + 1, 4, none⟩ (.int .i64 0)).setCell ⟨w.heap.size + 1, 5, none⟩ (.slice none 0 0)).setCell ⟨w.heap.size + 1, 6, none⟩ (.slice none 0 0)) = W9 at hp ⊢
        obtain ⟨hp1, hp2⟩ := hp
        obtain ⟨d0, d1, d2, d3, d4, d5, d6⟩ := row7 hp1
        clear c0 c1 c2 c3 c4 c5 c6 f0 f1 f2 f3 f4 f5 f6
        exact bodyPost_ret (v := .tuple #[.agg #[.int .i64 0, .int .i64 0, .int .i64 0, .int .i64 0, .int .i64 0, .slice none 0 0, .slice none 0 0], .iface 166 (.pointer (some ⟨pb3, 0, none⟩))]) (by simp [results, Tryz.results40, go_sem, d0, d1, d2, d3, d4, d5, d6]) rfl (ParseGives.bad hBAD ⟨pb3, rfl, by omega, by rw [hp2.block pb3 (lt_of_block hblk3) (by omega)]; exact hblk3⟩ (hst6.low.trans (hp2.toBelow (by have := hst6.low.size; omega) (fun k hk q => by omega))))
      | none =>
        rw [hdb] at hG1
        obtain ⟨a1, z1, rfl, hown⟩ := hG1
        have hp2 := put6 V1 pp _ _ _ _ _ _ _ (.slice a1 (bt (l.drop 4) 0) z1) hpk4
        go_upto_region 11 with fail
        generalize V1.setCell ⟨pp, 6, none⟩ (.slice a1 (bt (l.drop 4) 0) z1) = V2 at hp2 ⊢
        obtain ⟨hp21, hp22⟩ := hp2
        have hst5 := hst4.above (hp22.toBelow hltV4 (fun k hk q => by omega))
        have hown2 := hp22.own hown (fun g hg q => by have := (hown.lt g hg).1; omega)
        obtain ⟨q0, q1, q2, q3', q4', q5', q6'⟩ := row7 hp21
        clear q6 f6 hst4 hst3 hpk4 hp22
        obtain ⟨c0, c1, c2, c3, c4, c5, c6⟩ := row7 hst5.res
        have f0 := frozen_of_row V2 _ 0 _ _ hst5.res
        have f1 := frozen_of_row V2 _ 1 _ _ hst5.res
        have f2 := frozen_of_row V2 _ 2 _ _ hst5.res
        have f3 := frozen_of_row V2 _ 3 _ _ hst5.res
        have f4 := frozen_of_row V2 _ 4 _ _ hst5.res
        have f5 := frozen_of_row V2 _ 5 _ _ hst5.res
        have f6 := frozen_of_row V2 _ 6 _ _ hst5.res
        have hp := put7 V2 (w.heap.size + 1) (.int .i64 0) (.int .i64 0) (.int .i64 0) (.int .i64 0) (.int .i64 0) (.slice none 0 0) (.slice none 0 0) (.int .i64 2) (.int .i64 (bt l 1 : Int)) (.int .i64 (L : Int)) (.int .i64 0) (.int .i64 0) (.slice none 0 0) (.slice a1 (bt (l.drop 4) 0) z1) hst5.res
        have hNONE : parseE K N S l = none := by
          unfold parseE
          rw [HD.out]
          show Option.map _ _ = _
          rw [if_neg (by omega : ¬ bt l 0 = 1), ← HL.out, ← HT.out, hdb]
          rfl
        go_wp2_with fail
        generalize (((((((V2.setCell ⟨w.heap.size + 1, 0, none⟩ (.int .i64 2)).setCell ⟨w.heap.size + 1, 1, none⟩ (.int .i64 (bt l 1 : Int))).setCell ⟨w.heap.size + 1, 2, none⟩ (.int .i64 (L : Int))).setCell ⟨w.heap.size + 1, 3, none⟩ (.int .i64 0)).setCell ⟨w.heap.size + 1, 4, none⟩ (.int .i64 0)).setCell ⟨w.heap.size + 1, 5, none⟩ (.slice none 0 0)).setCell ⟨w.heap.size + 1, 6, none⟩ (.slice a1 (bt (l.drop 4) 0) z1)) = W9 at hp ⊢
        obtain ⟨hp1, hp2⟩ := hp
        obtain ⟨d0, d1, d2, d3, d4, d5, d6⟩ := row7 hp1
        clear c0 c1 c2 c3 c4 c5 c6 f0 f1 f2 f3 f4 f5 f6
        exact bodyPost_ret (v := .tuple #[.agg #[.int .i64 2, .int .i64 (bt l 1 : Int), .int .i64 (L : Int), .int .i64 0, .int .i64 0, .slice none 0 0, .slice a1 (bt (l.drop 4) 0) z1], .nilIface]) (by simp [results, Tryz.results40, go_sem, d0, d1, d2, d3, d4, d5, d6]) rfl (by
          refine ⟨?_, hst5.low.trans (hp2.toBelow (by have := hst5.low.size; omega) (fun k hk q => by omega))⟩
          rw [hNONE, if_neg (by omega : ¬ bt l 0 = 1)]
          refine ⟨a1, z1, by rw [hk2, ← HL.out]; rfl, own_base2 (hp2.own hown2 (fun g hg q => by have := (hown2.lt g hg).1; omega)) (by omega)⟩)

end Go.Proofs.YtjabhnhejbhgjaaGreatDoor
