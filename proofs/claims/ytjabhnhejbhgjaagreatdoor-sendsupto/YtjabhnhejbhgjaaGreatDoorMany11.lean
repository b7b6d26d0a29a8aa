import Derived.Test.YtjabhnhejbhgjaaGreatDoorSendOld
import Derived.Lib.SlBytesConst
/- The law's World: plays. -/
namespace Go.Proofs.YtjabhnhejbhgjaaGreatDoor
open Go.RowKit

/-- How many senders there are behind a step. -/
def Opv.more (q : Opv) (m : Nat) : Nat := if q.kd = 1 ∧ cfgB q.K q.N q.S = true then m + 1 else m

theorem wsends_any {A : Nat → Addr} {B0 : Nat} {own : Nat → Nat} {w : World} {hb t b o : Nat} {hs : HS} {es : List Ent} {ps : List Pr} {q : Opv} {l : List Gf.F} (hI : WI A B0 own w hb t hs es ps) (ht : t ≤ 20000000) (hon : -9223372036854775808 ≤ q.on ∧ q.on ≤ 9223372036854775807) (hOw : OpB own w q.p b o q.n q.c l) :
    Calls Tryz.prog 51 #[.pointer (some ⟨hb, 0, none⟩), .agg q.cells] w fun e w' => e = .returned (.bool true) ∧ WStep A B0 own w hb (t + 1) (q.more ps.length) w' := by
  unfold Opv.more
  by_cases hk : q.kd = 1
  · refine (wsends_new hI hk ht).mono ?_
    rintro e w' ⟨h1, h2⟩
    refine ⟨h1, ?_⟩
    by_cases hc : cfgB q.K q.N q.S = true
    · rw [if_pos hc] at h2
      rw [if_pos ⟨hk, hc⟩]
      exact h2
    · rw [if_neg hc] at h2
      rw [if_neg (fun h => hc h.2)]
      exact h2
  · refine (wsends_old hI hk ht hon hOw).mono ?_
    rintro e w' ⟨h1, h2⟩
    rw [if_neg (fun h => hk h.1)]
    exact ⟨h1, h2⟩

set_option maxRecDepth 100000 in
set_option maxHeartbeats 2000000 in
theorem wplays_any {A : Nat → Addr} {B0 : Nat} {own : Nat → Nat} {w : World} {hb t b o : Nat} {hs : HS} {es : List Ent} {ps : List Pr} {q : Opv} {l : List Gf.F} (hI : WI A B0 own w hb t hs es ps) (hk : q.kd ≤ 4) (ht : t ≤ 20000000) (hon : -9223372036854775808 ≤ q.on ∧ q.on ≤ 9223372036854775807) (hOw : OpB own w q.p b o q.n q.c l) :
    Calls Tryz.prog 26 #[.pointer (some ⟨hb, 0, none⟩), .agg q.cells] w fun e w' => e = .returned (.bool true) ∧ WStep A B0 own w hb (t + 1) (q.more ps.length) w' := by
  have hbe : Below w.heap.size w (w.alloc (.cells q.cells 83)) := (Below.refl _ _).alloc (Nat.le_refl _) _
  have hI0 := hI.above 1 hbe
  have hF0 : Fr own w (ownN own w.heap.size 1) _ := Fr.above 1 hbe
  have hX0 := heap_alloc_new w (.cells q.cells 83)
  have hOb := hOw.fr hF0
  have HS0 : Hid (Calls Tryz.prog 51 #[.pointer (some ⟨hb, 0, none⟩), .agg q.cells] (w.alloc (.cells q.cells 83)) fun e w' => e = .returned (.bool true) ∧ WStep A B0 own w hb (t + 1) (q.more ps.length) w') := (wsends_any hI0 ht hon hOb).mono (fun e w' ⟨h1, h2⟩ => ⟨h1, h2.from hF0⟩)
  have HN : Hid (¬ q.kd = 1 → WStep A B0 own w hb (t + 1) (q.more ps.length) (w.alloc (.cells q.cells 83))) := fun h => by
    unfold Opv.more
    rw [if_neg (fun h' => h h'.1)]
    exact ⟨_, _, _, _, hI0.more (by omega), rfl, hF0⟩
  have hex : WStep A B0 own w hb (t + 1) = WStep A B0 own w hb (t + 1) := rfl
  generalize hm : q.more ps.length = M at *
  clear hm hI0 hF0 hOb hOw hI hbe hex
  obtain ⟨kd, on, tt, qa, K, N, S, p, n, c⟩ := q
  simp only [Opv.cells] at *
  go_enter Tryz.func26, Tryz.ntmps26
  go_upto_region 1 with fail
  generalize w.alloc (.cells #[.int .i64 kd, .int .i64 on, .int .i64 tt, .int .i64 qa, .int .i64 K, .int .i64 N, .int .i64 S, .slice p n c] 83) = W0 at *
  obtain ⟨bx, hbx⟩ : ∃ x, x = w.heap.size := ⟨_, rfl⟩
  rw [← hbx] at hX0 ⊢
  have x0 : W0.cell? ⟨bx, 0, none⟩ = some (.int .i64 kd) := cell_of_row W0 bx 0 _ _ _ hX0
  have x1 : W0.cell? ⟨bx, 1, none⟩ = some (.int .i64 on) := cell_of_row W0 bx 1 _ _ _ hX0
  have x2 : W0.cell? ⟨bx, 2, none⟩ = some (.int .i64 tt) := cell_of_row W0 bx 2 _ _ _ hX0
  have x3 : W0.cell? ⟨bx, 3, none⟩ = some (.int .i64 qa) := cell_of_row W0 bx 3 _ _ _ hX0
  have x4 : W0.cell? ⟨bx, 4, none⟩ = some (.int .i64 K) := cell_of_row W0 bx 4 _ _ _ hX0
  have x5 : W0.cell? ⟨bx, 5, none⟩ = some (.int .i64 N) := cell_of_row W0 bx 5 _ _ _ hX0
  have x6 : W0.cell? ⟨bx, 6, none⟩ = some (.int .i64 S) := cell_of_row W0 bx 6 _ _ _ hX0
  have x7 : W0.cell? ⟨bx, 7, none⟩ = some (.slice p n c) := cell_of_row W0 bx 7 _ _ _ hX0
  clear hX0 hbx
  by_cases h1 : kd = 1
  · subst h1
    go_wp2_with fail
    refine HS0.out.mono ?_
    rintro e w' ⟨rfl, hW⟩
    go_wp2_with fail
    go_ret
    exact ⟨rfl, hW⟩
  · have hN := HN.out h1
    by_cases h2 : kd = 2
    · subst h2
      go_wp2_with fail
      refine HS0.out.mono ?_
      rintro e w' ⟨rfl, hW⟩
      go_wp2_with fail
      go_ret
      exact ⟨rfl, hW⟩
    · by_cases h3 : kd = 3
      · subst h3
        go_wp2_with fail
        refine HS0.out.mono ?_
        rintro e w' ⟨rfl, hW⟩
        go_wp2_with fail
        go_ret
        exact ⟨rfl, hW⟩
      · by_cases h4 : kd = 4
        · subst h4
          go_wp2_with fail
          refine HS0.out.mono ?_
          rintro e w' ⟨rfl, hW⟩
          go_wp2_with fail
          go_ret
          exact ⟨rfl, hW⟩
        · have h5 : ¬ kd = 5 := by omega
          have h6 : ¬ kd = 6 := by omega
          have h7 : ¬ kd = 7 := by omega
          have h8 : ¬ kd = 8 := by omega
          have h9 : ¬ kd = 9 := by omega
          have h10 : ¬ kd = 10 := by omega
          go_wp2_with fail
          go_ret
          exact ⟨rfl, hN⟩

/-- A step, with its bytes. -/
structure Opb extends Opv where
  b : Nat
  o : Nat
  l : List Gf.F
def qat (qs : List Opb) (i : Nat) : Opb := qs.getD i ⟨⟨0, 0, 0, 0, 0, 0, 0, none, 0, 0⟩, 0, 0, []⟩

/-- Steps in memory: no one's. -/
structure OpsAt (own : Nat → Nat) (w : World) (lb lo : Nat) (qs : List Opb) : Prop where
  cell : ∀ i, i < qs.length → ∀ k, k < 8 → w.cell? ⟨lb, lo + i * 8 + k, none⟩ = (qat qs i).cells[k]?
  bytes : ∀ i, i < qs.length → OpB own w (qat qs i).p (qat qs i).b (qat qs i).o (qat qs i).n (qat qs i).c (qat qs i).l
  on : ∀ i, i < qs.length → -9223372036854775808 ≤ (qat qs i).on ∧ (qat qs i).on ≤ 9223372036854775807
  free : 0 < qs.length → lb < w.heap.size ∧ own lb = 1
theorem OpsAt.fr {own own' : Nat → Nat} {w w' : World} {lb lo : Nat} {qs : List Opb} (h : OpsAt own w lb lo qs) (hf : Fr own w own' w') : OpsAt own' w' lb lo qs := by
  refine ⟨fun i hi k hk => ?_, fun i hi => (h.bytes i hi).fr hf, h.on, fun h0 => ?_⟩
  · obtain ⟨h1, h2⟩ := h.free (by omega)
    have hk' := (hf.keep lb h1 h2).2
    have hc : w'.cell? ⟨lb, lo + i * 8 + k, none⟩ = w.cell? ⟨lb, lo + i * 8 + k, none⟩ := World.cell?_of_block (w := w) (a := ⟨lb, lo + i * 8 + k, none⟩) hk'
    rw [hc]
    exact h.cell i hi k hk
  · obtain ⟨h1, h2⟩ := h.free h0
    exact ⟨Nat.lt_of_lt_of_le h1 hf.size, (hf.keep lb h1 h2).1⟩

end Go.Proofs.YtjabhnhejbhgjaaGreatDoor

/- The law's World: known. -/
namespace Go.Proofs.YtjabhnhejbhgjaaGreatDoor
open Go.RowKit

theorem flat8 : ∀ (qs : List Opb) (i k : Nat), i < qs.length → k < 8 → (qs.flatMap fun q => q.cells.toList)[i * 8 + k]? = (qat qs i).cells[k]?
  | [], i, k, hi, hk => by simp at hi
  | q :: qs, 0, k, hi, hk => by
    have e : (q :: qs).flatMap (fun q => q.cells.toList) = q.cells.toList ++ qs.flatMap fun q => q.cells.toList := rfl
    rw [e, List.getElem?_append_left (by show 0 * 8 + k < 8; omega)]
    show q.cells.toList[0 * 8 + k]? = q.cells[k]?
    rw [Nat.zero_mul, Nat.zero_add]
    simp
  | q :: qs, i + 1, k, hi, hk => by
    have e : (q :: qs).flatMap (fun q => q.cells.toList) = q.cells.toList ++ qs.flatMap fun q => q.cells.toList := rfl
    have e8 : q.cells.toList.length = 8 := rfl
    rw [e, List.getElem?_append_right (by omega), e8, show (i + 1) * 8 + k - 8 = i * 8 + k by omega]
    exact flat8 qs i k (by simpa using hi) hk

def abcdL : List Gf.F := [97#8, 98#8, 99#8, 100#8]
def askL : List Gf.F := [2#8, 0#8, 0#8, 4#8, 1#8, 0#8, 1#8]
/-- The document's example, its lists from block Z on. -/
def knownOps (Z : Nat) : List Opb :=
  [⟨⟨1, 0, 0, 0, 2, 4, 3, none, 0, 0⟩, 0, 0, []⟩, ⟨⟨2, 0, 0, 0, 0, 0, 0, some ⟨Z + 1, 0, none⟩, 4, 4⟩, Z + 1, 0, abcdL⟩, ⟨⟨5, 0, 0, 0, 2, 4, 3, none, 0, 0⟩, 0, 0, []⟩,
   ⟨⟨7, 0, 0, 2, 0, 0, 0, some ⟨Z + 1 + 1, 0, none⟩, 1, 1⟩, Z + 1 + 1, 0, [1#8]⟩, ⟨⟨4, 0, 0, 0, 0, 0, 0, some ⟨Z + 1 + 1 + 1, 0, none⟩, 7, 7⟩, Z + 1 + 1 + 1, 0, askL⟩, ⟨⟨3, 0, 0, 0, 0, 0, 0, none, 0, 0⟩, 0, 0, []⟩,
   ⟨⟨8, 0, 0, 1, 0, 0, 0, none, 0, 0⟩, 0, 0, []⟩, ⟨⟨7, 0, 0, 1, 0, 0, 0, none, 0, 0⟩, 0, 0, []⟩, ⟨⟨9, 0, 0, 0, 0, 0, 0, none, 0, 0⟩, 0, 0, []⟩]

theorem nine_cases {i : Nat} (h : i < 9) : i = 0 ∨ i = 1 ∨ i = 2 ∨ i = 3 ∨ i = 4 ∨ i = 5 ∨ i = 6 ∨ i = 7 ∨ i = 8 := by omega

theorem known_more (Z i : Nat) (h : i < 9) : (qat (knownOps Z) i).more (if i = 0 then 0 else 1) = 1 := by
  rcases nine_cases h with rfl | rfl | rfl | rfl | rfl | rfl | rfl | rfl | rfl <;> rfl
theorem known_skip (Z i : Nat) (h : i < 9) (h4 : ¬ (qat (knownOps Z) i).kd ≤ 4) : ¬ i = 0 := by
  intro e
  subst e
  exact h4 (show (1 : Int) ≤ 4 by decide)
theorem OpB.nil (own : Nat → Nat) (w : World) : OpB own w none 0 0 0 0 [] := ⟨rfl, Nat.le_refl _, by omega, by omega, fun h => by omega, fun i hi => by simp at hi, fun h => by omega⟩

theorem known_ops {own : Nat → Nat} {w : World} {Z : Nat} {f1 f2 f3 f4 : Nat × Nat} (h1 : w.heap[Z + 1]? = some (.cells #[.int .u8 97, .int .u8 98, .int .u8 99, .int .u8 100] 5 f1)) (h2 : w.heap[Z + 1 + 1]? = some (.cells #[.int .u8 1] 5 f2))
    (h3 : w.heap[Z + 1 + 1 + 1]? = some (.cells #[.int .u8 2, .int .u8 0, .int .u8 0, .int .u8 4, .int .u8 1, .int .u8 0, .int .u8 1] 5 f3)) (h4 : w.heap[Z + 1 + 1 + 1 + 1]? = some (.cells ((knownOps Z).flatMap fun q => q.cells.toList).toArray 83 f4))
    (o1 : ∀ b, Z ≤ b → own b = 1) : OpsAt own w (Z + 1 + 1 + 1 + 1) 0 (knownOps Z) := by
  refine ⟨fun i hi k hk => ?_, fun i hi => ?_, fun i hi => ?_, fun _ => ⟨lt_of_block h4, o1 _ (by omega)⟩⟩
  · rw [Nat.zero_add, cell_of_row w _ _ _ _ _ h4, List.getElem?_toArray]
    exact flat8 _ i k hi hk
  · have hb1 : OpB own w (some ⟨Z + 1, 0, none⟩) (Z + 1) 0 4 4 abcdL := ⟨rfl, Nat.le_refl _, by omega, by omega, fun _ => rfl, fun i hi => by
      have hi' : i < 4 := hi
      rw [Nat.zero_add, cell_of_row w _ _ _ _ _ h1]
      rcases (show i = 0 ∨ i = 1 ∨ i = 2 ∨ i = 3 by omega) with rfl | rfl | rfl | rfl <;> rfl, fun _ => ⟨lt_of_block h1, o1 _ (by omega)⟩⟩
    have hb2 : OpB own w (some ⟨Z + 1 + 1, 0, none⟩) (Z + 1 + 1) 0 1 1 [1#8] := ⟨rfl, Nat.le_refl _, by omega, by omega, fun _ => rfl, fun i hi => by
      have hi' : i < 1 := hi
      obtain rfl : i = 0 := by omega
      rw [Nat.zero_add, cell_of_row w _ _ _ _ _ h2]
      rfl, fun _ => ⟨lt_of_block h2, o1 _ (by omega)⟩⟩
    have hb3 : OpB own w (some ⟨Z + 1 + 1 + 1, 0, none⟩) (Z + 1 + 1 + 1) 0 7 7 askL := ⟨rfl, by omega, by omega, by omega, fun _ => rfl, fun i hi => by
      have hi' : i < 7 := hi
      rw [Nat.zero_add, cell_of_row w _ _ _ _ _ h3]
      rcases (show i = 0 ∨ i = 1 ∨ i = 2 ∨ i = 3 ∨ i = 4 ∨ i = 5 ∨ i = 6 by omega) with rfl | rfl | rfl | rfl | rfl | rfl | rfl <;> rfl, fun _ => ⟨lt_of_block h3, o1 _ (by omega)⟩⟩
    have hn := OpB.nil own w
    have hi' : i < 9 := hi
    rcases nine_cases hi' with rfl | rfl | rfl | rfl | rfl | rfl | rfl | rfl | rfl
    · exact hn
    · exact hb1
    · exact hn
    · exact hb2
    · exact hb3
    · exact hn
    · exact hn
    · exact hn
    · exact hn
  · have hi' : i < 9 := hi
    rcases nine_cases hi' with rfl | rfl | rfl | rfl | rfl | rfl | rfl | rfl | rfl <;> exact ⟨(show (-9223372036854775808 : Int) ≤ 0 by decide), (show (0 : Int) ≤ 9223372036854775807 by decide)⟩

theorem known_cells (Z : Nat) : (#[.int .i64 1, .int .i64 0, .int .i64 0, .int .i64 0, .int .i64 2, .int .i64 4, .int .i64 3, .slice none 0 0, .int .i64 2, .int .i64 0, .int .i64 0, .int .i64 0, .int .i64 0, .int .i64 0, .int .i64 0, .slice (some ⟨Z + 1, 0, none⟩) 4 4, .int .i64 5, .int .i64 0, .int .i64 0, .int .i64 0, .int .i64 2, .int .i64 4, .int .i64 3, .slice none 0 0, .int .i64 7, .int .i64 0, .int .i64 0, .int .i64 2, .int .i64 0, .int .i64 0, .int .i64 0, .slice (some ⟨Z + 1 + 1, 0, none⟩) 1 1, .int .i64 4, .int .i64 0, .int .i64 0, .int .i64 0, .int .i64 0, .int .i64 0, .int .i64 0, .slice (some ⟨Z + 1 + 1 + 1, 0, none⟩) 7 7, .int .i64 3, .int .i64 0, .int .i64 0, .int .i64 0, .int .i64 0, .int .i64 0, .int .i64 0, .slice none 0 0, .int .i64 8, .int .i64 0, .int .i64 0, .int .i64 1, .int .i64 0, .int .i64 0, .int .i64 0, .slice none 0 0, .int .i64 7, .int .i64 0, .int .i64 0, .int .i64 1, .int .i64 0, .int .i64 0, .int .i64 0, .slice none 0 0, .int .i64 9, .int .i64 0, .int .i64 0, .int .i64 0, .int .i64 0, .int .i64 0, .int .i64 0, .slice none 0 0] : Array Value) = ((knownOps Z).flatMap fun q => q.cells.toList).toArray := rfl

theorem heap_new (w : World) (o : Obj) : (w.alloc o).heap[w.heap.size]? = some o := by simp [World.alloc, -World.alloc_eq]

theorem five (w : World) (A B C D E : Obj) : Below w.heap.size w (((((w.alloc A).alloc B).alloc C).alloc D).alloc E) ∧ (((((w.alloc A).alloc B).alloc C).alloc D).alloc E).heap[w.heap.size + 1]? = some B ∧ (((((w.alloc A).alloc B).alloc C).alloc D).alloc E).heap[w.heap.size + 1 + 1]? = some C ∧ (((((w.alloc A).alloc B).alloc C).alloc D).alloc E).heap[w.heap.size + 1 + 1 + 1]? = some D ∧ (((((w.alloc A).alloc B).alloc C).alloc D).alloc E).heap[w.heap.size + 1 + 1 + 1 + 1]? = some E := by
  have s1 : (w.alloc A).heap.size = w.heap.size + 1 := by simp
  have s2 : ((w.alloc A).alloc B).heap.size = w.heap.size + 1 + 1 := by simp
  have s3 : (((w.alloc A).alloc B).alloc C).heap.size = w.heap.size + 1 + 1 + 1 := by simp
  have s4 : ((((w.alloc A).alloc B).alloc C).alloc D).heap.size = w.heap.size + 1 + 1 + 1 + 1 := by simp
  have b1 : Below w.heap.size w (w.alloc A) := (Below.refl _ w).alloc (Nat.le_refl _) _
  have b2 := b1.alloc (by rw [s1]; omega) B
  have b3 := b2.alloc (by rw [s2]; omega) C
  have b4 := b3.alloc (by rw [s3]; omega) D
  have b5 := b4.alloc (by rw [s4]; omega) E
  have h1 := heap_new (w.alloc A) B
  have h2 := heap_new ((w.alloc A).alloc B) C
  have h3 := heap_new (((w.alloc A).alloc B).alloc C) D
  have h4 := heap_new ((((w.alloc A).alloc B).alloc C).alloc D) E
  rw [s1] at h1
  rw [s2] at h2
  rw [s3] at h3
  rw [s4] at h4
  refine ⟨b5, ?_, ?_, ?_, h4⟩
  · rw [Below.heap_alloc _ E _ (by rw [s4]; omega), Below.heap_alloc _ D _ (by rw [s3]; omega), Below.heap_alloc _ C _ (by rw [s2]; omega)]
    exact h1
  · rw [Below.heap_alloc _ E _ (by rw [s4]; omega), Below.heap_alloc _ D _ (by rw [s3]; omega)]
    exact h2
  · rw [Below.heap_alloc _ E _ (by rw [s4]; omega)]
    exact h3

end Go.Proofs.YtjabhnhejbhgjaaGreatDoor

/- The law's World: known. -/
namespace Go.Proofs.YtjabhnhejbhgjaaGreatDoor
open Go.RowKit

set_option maxRecDepth 100000 in
set_option maxHeartbeats 1000000 in
theorem wknown_any {A : Nat → Addr} {B0 : Nat} {own : Nat → Nat} {w : World} {hb : Nat} {hs : HS} {es : List Ent} (hI : WI A B0 own w hb 0 hs es []) :
    Calls Tryz.prog 25 #[.pointer (some ⟨hb, 0, none⟩), .int .i64 4] w fun e w' => e = .returned (.bool true) ∧ WStep A B0 own w hb 9 1 w' := by
  have hcv : (convert 33 33 (.slice (some ⟨w.heap.size + 1, 0, none⟩) 4 4)).run Tryz.prog ((w.alloc (.cells #[.int .i64 2, .int .i64 4, .int .i64 3] 30)).alloc (.cells #[.int .u8 97, .int .u8 98, .int .u8 99, .int .u8 100] 5)) = .ok (.slice (some ⟨w.heap.size + 1, 0, none⟩) 4 4) ((w.alloc (.cells #[.int .i64 2, .int .i64 4, .int .i64 3] 30)).alloc (.cells #[.int .u8 97, .int .u8 98, .int .u8 99, .int .u8 100] 5 (4, 5))) := by
    have h := Lib.run_convert_bytes_const (P := Tryz.prog) (w.alloc (.cells #[.int .i64 2, .int .i64 4, .int .i64 3] 30)) 33 5 #[.int .u8 97, .int .u8 98, .int .u8 99, .int .u8 100] 4 4 Tryz.underlying33 Tryz.underlying5
    rw [show (w.alloc (.cells #[.int .i64 2, .int .i64 4, .int .i64 3] 30)).heap.size = w.heap.size + 1 by simp] at h
    exact h
  go_enter Tryz.func25, Tryz.ntmps25
  go_upto_region 3 with fail
  have hcell := known_cells w.heap.size
  rw [hcell]
  obtain ⟨hbe, k1, k2, k3, k4⟩ := five w (.cells #[.int .i64 2, .int .i64 4, .int .i64 3] 30) (.cells #[.int .u8 97, .int .u8 98, .int .u8 99, .int .u8 100] 5 (4, 5)) (.cells #[.int .u8 1] 5) (.cells #[.int .u8 2, .int .u8 0, .int .u8 0, .int .u8 4, .int .u8 1, .int .u8 0, .int .u8 1] 5) (.cells ((knownOps w.heap.size).flatMap fun q => q.cells.toList).toArray 83)
  generalize (((((w.alloc (.cells #[.int .i64 2, .int .i64 4, .int .i64 3] 30)).alloc (.cells #[.int .u8 97, .int .u8 98, .int .u8 99, .int .u8 100] 5 (4, 5))).alloc (.cells #[.int .u8 1] 5)).alloc (.cells #[.int .u8 2, .int .u8 0, .int .u8 0, .int .u8 4, .int .u8 1, .int .u8 0, .int .u8 1] 5)).alloc (.cells ((knownOps w.heap.size).flatMap fun q => q.cells.toList).toArray 83)) = W at *
  clear hcell hcv
  have hI1 := hI.above 1 hbe
  have hF1 : Fr own w (ownN own w.heap.size 1) W := Fr.above 1 hbe
  have hOps : OpsAt (ownN own w.heap.size 1) W (w.heap.size + 1 + 1 + 1 + 1) 0 (knownOps w.heap.size) := known_ops k1 k2 k3 k4 (fun b hb' => ownN_new hb')
  generalize ownN own w.heap.size 1 = own1 at *
  obtain ⟨lb, hlb⟩ : ∃ x, x = w.heap.size + 1 + 1 + 1 + 1 := ⟨_, rfl⟩
  rw [← hlb] at hOps ⊢
  have HLEN : Hid ((knownOps w.heap.size).length = 9) := rfl
  have HMORE : Hid (∀ i, i < 9 → (qat (knownOps w.heap.size) i).more (if i = 0 then 0 else 1) = 1) := fun i hi => known_more _ i hi
  have HSKIP : Hid (∀ i, i < 9 → ¬ (qat (knownOps w.heap.size) i).kd ≤ 4 → ¬ i = 0) := fun i hi h => known_skip _ i hi h
  generalize knownOps w.heap.size = qs at *
  have HF1 : Hid (Fr own w own1 W) := hF1
  have HOP : Hid (OpsAt own1 W lb 0 qs) := hOps
  clear k1 k2 k3 k4 hbe hlb hF1 hOps hI
  go_wp2_with fail
  go_loopw [7, 8] (fun t _ wr => ∃ i : Nat, i ≤ 9 ∧ t = .int .i64 (i : Int) ∧ ∃ own' hs' es' ps', WI A B0 own' wr hb i hs' es' ps' ∧ ps'.length = (if i = 0 then 0 else 1) ∧ Fr own1 W own' wr) (fun t _ _ => 9 - (intOf t).toNat)
  case atStart => exact ⟨0, by omega, rfl, own1, hs, es, [], hI1, rfl, Fr.refl _ _⟩
  case round =>
    obtain ⟨i, hi, rfl, own', hs', es', ps', hIi, hlen, hFi⟩ := hrel
    have HIi : Hid (WI A B0 own' wr hb i hs' es' ps') := hIi
    by_cases hlt : i < 9
    · have hlt1 : (i : Int) < 9 := by omega
      have hlt0 : (0 : Int) ≤ (i : Int) := by omega
      have hOi := HOP.out.fr hFi
      have hiq : i < qs.length := by rw [HLEN.out]; exact hlt
      have hc := hOi.cell i hiq
      have hbytes := hOi.bytes i hiq
      have hon := hOi.on i hiq
      have HM := HMORE.out i hlt
      have HSK := HSKIP.out i hlt
      obtain ⟨⟨⟨kd, on, tt, qa, K, N, S, p, n, c⟩, b, o, l⟩, hq⟩ : ∃ x, x = qat qs i := ⟨_, rfl⟩
      rw [← hq] at hc hbytes hon HM HSK
      have c0 : wr.cell? ⟨lb, i * 8, none⟩ = some (.int .i64 kd) := by have := hc 0 (by omega); rw [Nat.zero_add, Nat.add_zero] at this; exact this
      have c1 : wr.cell? ⟨lb, i * 8 + 1, none⟩ = some (.int .i64 on) := by have := hc 1 (by omega); rw [Nat.zero_add] at this; exact this
      have c2 : wr.cell? ⟨lb, i * 8 + 2, none⟩ = some (.int .i64 tt) := by have := hc 2 (by omega); rw [Nat.zero_add] at this; exact this
      have c3 : wr.cell? ⟨lb, i * 8 + 3, none⟩ = some (.int .i64 qa) := by have := hc 3 (by omega); rw [Nat.zero_add] at this; exact this
      have c4 : wr.cell? ⟨lb, i * 8 + 4, none⟩ = some (.int .i64 K) := by have := hc 4 (by omega); rw [Nat.zero_add] at this; exact this
      have c5 : wr.cell? ⟨lb, i * 8 + 5, none⟩ = some (.int .i64 N) := by have := hc 5 (by omega); rw [Nat.zero_add] at this; exact this
      have c6 : wr.cell? ⟨lb, i * 8 + 6, none⟩ = some (.int .i64 S) := by have := hc 6 (by omega); rw [Nat.zero_add] at this; exact this
      have c7 : wr.cell? ⟨lb, i * 8 + 7, none⟩ = some (.slice p n c) := by have := hc 7 (by omega); rw [Nat.zero_add] at this; exact this
      clear hc hq hOi
      by_cases hk4 : kd ≤ 4
      · have HPL : Hid (Calls Tryz.prog 26 #[.pointer (some ⟨hb, 0, none⟩), .agg #[.int .i64 kd, .int .i64 on, .int .i64 tt, .int .i64 qa, .int .i64 K, .int .i64 N, .int .i64 S, .slice p n c]] wr fun e w' => e = .returned (.bool true) ∧ WStep A B0 own' wr hb (i + 1) 1 w') := by
          have := wplays_any (q := ⟨kd, on, tt, qa, K, N, S, p, n, c⟩) HIi.out hk4 (by omega) hon hbytes
          rw [hlen, HM] at this
          exact this
        clear hIi HM HSK hlen hbytes
        go_wp2_with fail
        refine HPL.out.mono ?_
        rintro e w' ⟨rfl, own2, hs2, es2, ps2, hI2, hl2, hF2⟩
        go_wp2_with fail
        go_roundw
        case rel => exact ⟨i + 1, by omega, by go_num, own2, hs2, es2, ps2, hI2, by rw [hl2, if_neg (by omega)], hFi.trans hF2⟩
        case measure => simp [intOf]; omega
      · have hne := HSK (show (4 : Int) < kd by omega)
        clear hIi HM HSK hbytes
        go_wp2_with fail
        go_roundw
        case rel => exact ⟨i + 1, by omega, by go_num, own', hs', es', ps', HIi.out.more (by omega), by rw [hlen, if_neg hne, if_neg (by omega)], hFi⟩
        case measure => simp [intOf]; omega
    · obtain rfl : i = 9 := by omega
      rw [if_neg (by omega)] at hlen
      obtain ⟨va, vc, hva, _⟩ := own_form2 hIi.sown
      have c0 : wr.cell? ⟨hb, 0, none⟩ = some (.slice va 1 vc) := by rw [cell_of_row wr hb 0 _ _ _ hIi.hands]; show some hs'.sv = _; rw [hva, hlen]
      clear hIi hva
      go_wp2_with fail
      go_ret
      exact ⟨rfl, own', hs', es', ps', HIi.out, hlen, HF1.out.trans hFi⟩

end Go.Proofs.YtjabhnhejbhgjaaGreatDoor

/- The law's World: a script. -/
namespace Go.Proofs.YtjabhnhejbhgjaaGreatDoor
open Go.RowKit

def hs0 : HS := ⟨.slice none 0 0, .slice none 0 0, .slice none 0 0, .slice none 0 0, .slice none 0 0, .slice none 0 0, 0, .slice none 0 0, .slice none 0 0, .slice none 0 0, .slice none 0 0, .slice none 0 0, .slice none 0 0, .slice none 0 0, .slice none 0 0⟩

theorem WI.start {A : Nat → Addr} {w : World} (hE : Errs A w.heap.size w) (hT : ErrType w) (hTl : 8 < w.heap.size) : WI A w.heap.size (ownN (fun _ => 1) w.heap.size 0) (w.alloc (.cells hs0.cells 81)) w.heap.size 0 hs0 [] [] := by
  have hbe : Below w.heap.size w (w.alloc (.cells hs0.cells 81)) := (Below.refl _ _).alloc (Nat.le_refl _) _
  refine ⟨⟨hE.below hbe, hT.below hbe hTl, hTl, Nat.le_refl _, heap_alloc_new w _, ⟨World.ownsRow_nil .., World.ownsRow_nil .., fun e he => by simp at he⟩, World.ownsRow_nil .., fun i hi => by simp at hi, fun i hi => by simp at hi, fun b hb => by rw [ownN_old hb], ownN_new (Nat.le_refl _), fun b hb => by simp [hs0, Value.ownBlock] at hb, fun b hb => by simp [hs0, Value.ownBlock] at hb, fun b hb => by simp [hs0, Value.ownBlock] at hb, fun e he => by simp at he, fun i b hi => by simp at hi, fun i b hi => by simp at hi⟩, fun i hi => by simp at hi, ⟨0, rfl, Nat.le_refl _⟩, by simp, by simp, ⟨rfl, rfl, rfl, rfl, rfl, rfl, rfl, rfl, rfl⟩⟩

theorem Outers.nil0 (w : World) (B : Nat) : Outers w B (.slice none 0 0) (.slice none 0 0) [] := ⟨World.ownsRow_nil .., World.ownsRow_nil .., fun e he => by simp at he⟩

theorem wholds {A : Nat → Addr} {B0 : Nat} {own : Nat → Nat} {w : World} {hb t : Nat} {hs : HS} {es : List Ent} {ps : List Pr} (hI : WI A B0 own w hb t hs es ps) (ht : t ≤ 20000000) :
    Calls Tryz.prog 27 #[.pointer (some ⟨hb, 2, none⟩)] w fun e w' => e = .returned (.bool true) ∧ ∃ own', WI A B0 own' w' hb t hs es ps ∧ Fr own w own' w' := by
  refine (holds_any hb (hb + 1) hs es [] w hI.hands hI.outs (by rw [hI.nil.outer0, hI.nil.omarks0]; exact Outers.nil0 w _) (by have := hI.fewE; omega) (by simp) hI.nil.lacks0 hI.nil.objs0).mono ?_
  rintro e w' ⟨rfl, nq, hw⟩
  have hb' : Below w.heap.size w w' := below_drew hw
  exact ⟨rfl, _, hI.above 0 hb', Fr.above 0 hb'⟩

set_option maxRecDepth 100000 in
set_option maxHeartbeats 2000000 in
theorem wrun_any {A : Nat → Addr} {w : World} {a : Option Addr} {L c lb lo : Nat} {qs : List Opb} (hE : Errs A w.heap.size w) (hT : ErrType w) (hTl : 8 < w.heap.size) (hq : OpsAt (fun _ => 1) w lb lo qs) (hL : qs.length = L) (hL2 : L ≤ 2000000) (ha : 0 < L → a = some ⟨lb, lo, none⟩) :
    Calls Tryz.prog 10 #[.slice a L c, .int .i64 4] w fun e w' => e = .returned (.bool true) ∧ Below w.heap.size w w' := by
  have hI0 := WI.start hE hT hTl
  have hbe : Below w.heap.size w (w.alloc (.cells hs0.cells 81)) := (Below.refl _ _).alloc (Nat.le_refl _) _
  have hF0 : Fr (fun _ => 1) w (ownN (fun _ => 1) w.heap.size 0) (w.alloc (.cells hs0.cells 81)) := Fr.above 0 hbe
  have hq0 := hq.fr hF0
  have HFIN : Hid (∀ own' w', Fr (ownN (fun _ => 1) w.heap.size 0) (w.alloc (.cells hs0.cells 81)) own' w' → Below w.heap.size w w') := fun own' w' hF => by
    have h := hF0.trans hF
    exact ⟨h.os, h.tape, h.output, h.size, fun k hk => (h.keep k hk rfl).2⟩
  have ecells : hs0.cells = #[.slice none 0 0, .slice none 0 0, .slice none 0 0, .slice none 0 0, .slice none 0 0, .slice none 0 0, .int .i64 0, .slice none 0 0, .slice none 0 0, .slice none 0 0, .slice none 0 0, .slice none 0 0, .slice none 0 0, .slice none 0 0, .slice none 0 0] := rfl
  rw [ecells] at hI0 hF0 hq0 HFIN hbe
  go_enter Tryz.func10, Tryz.ntmps10
  go_upto_region 2 with fail
  generalize (w.alloc (.cells #[.slice none 0 0, .slice none 0 0, .slice none 0 0, .slice none 0 0, .slice none 0 0, .slice none 0 0, .int .i64 0, .slice none 0 0, .slice none 0 0, .slice none 0 0, .slice none 0 0, .slice none 0 0, .slice none 0 0, .slice none 0 0, .slice none 0 0] 81)) = W0 at *
  generalize ownN (fun _ => 1) w.heap.size 0 = own0 at *
  obtain ⟨hb, hhb⟩ : ∃ x, x = w.heap.size := ⟨_, rfl⟩
  rw [← hhb] at hI0 ⊢
  have HQ : Hid (OpsAt own0 W0 lb lo qs) := hq0
  clear hE hT hTl hq hF0 hq0 hbe hhb ecells
  have HKN : Hid (Calls Tryz.prog 25 #[.pointer (some ⟨hb, 0, none⟩), .int .i64 4] W0 fun e w' => e = .returned (.bool true) ∧ WStep A hb own0 W0 hb 9 1 w') := wknown_any hI0
  clear hI0
  go_wp2_with fail
  refine HKN.out.mono ?_
  rintro e w1 ⟨rfl, own1, hs1, es1, ps1, hI1, hl1, hF1⟩
  clear HKN
  go_wp2_with fail
  go_loopw [6, 7] (fun okv t wr => okv = .bool true ∧ ∃ i : Nat, i ≤ L ∧ t = .int .i64 (i : Int) ∧ ∃ own' hs' es' ps', WI A hb own' wr hb (9 + i) hs' es' ps' ∧ Fr own0 W0 own' wr) (fun _ t _ => L - (intOf t).toNat)
  case atStart => exact ⟨rfl, 0, by omega, rfl, own1, hs1, es1, ps1, hI1, hF1⟩
  case round =>
    clear hI1 hl1 hF1
    obtain ⟨rfl, i, hi, rfl, own', hs', es', ps', hIi, hFi⟩ := hrel
    have HIi : Hid (WI A hb own' wr hb (9 + i) hs' es' ps') := hIi
    clear hIi
    by_cases hlt : i < L
    · have hlt1 : (i : Int) < (L : Int) := by omega
      have hlt0 : (0 : Int) ≤ (i : Int) := by omega
      obtain rfl := ha (by omega)
      have hOi := HQ.out.fr hFi
      have hiq : i < qs.length := by omega
      have hc := hOi.cell i hiq
      have hbytes := hOi.bytes i hiq
      have hon := hOi.on i hiq
      obtain ⟨⟨⟨kd, on, tt, qa, K, N, S, p, n, cc⟩, b, o, l⟩, hqe⟩ : ∃ x, x = qat qs i := ⟨_, rfl⟩
      rw [← hqe] at hc hbytes hon
      have c0 : wr.cell? ⟨lb, lo + i * 8, none⟩ = some (.int .i64 kd) := hc 0 (by omega)
      have c1 : wr.cell? ⟨lb, lo + i * 8 + 1, none⟩ = some (.int .i64 on) := hc 1 (by omega)
      have c2 : wr.cell? ⟨lb, lo + i * 8 + 2, none⟩ = some (.int .i64 tt) := hc 2 (by omega)
      have c3 : wr.cell? ⟨lb, lo + i * 8 + 3, none⟩ = some (.int .i64 qa) := hc 3 (by omega)
      have c4 : wr.cell? ⟨lb, lo + i * 8 + 4, none⟩ = some (.int .i64 K) := hc 4 (by omega)
      have c5 : wr.cell? ⟨lb, lo + i * 8 + 5, none⟩ = some (.int .i64 N) := hc 5 (by omega)
      have c6 : wr.cell? ⟨lb, lo + i * 8 + 6, none⟩ = some (.int .i64 S) := hc 6 (by omega)
      have c7 : wr.cell? ⟨lb, lo + i * 8 + 7, none⟩ = some (.slice p n cc) := hc 7 (by omega)
      clear hc hqe hOi
      by_cases hk4 : kd ≤ 4
      · have HPL : Hid (Calls Tryz.prog 26 #[.pointer (some ⟨hb, 0, none⟩), .agg #[.int .i64 kd, .int .i64 on, .int .i64 tt, .int .i64 qa, .int .i64 K, .int .i64 N, .int .i64 S, .slice p n cc]] wr fun e w' => e = .returned (.bool true) ∧ ∃ m, WStep A hb own' wr hb (9 + i + 1) m w') := (wplays_any (q := ⟨kd, on, tt, qa, K, N, S, p, n, cc⟩) HIi.out hk4 (by omega) hon hbytes).mono (fun e w' ⟨h1, h2⟩ => ⟨h1, _, h2⟩)
        clear hbytes
        go_wp2_with fail
        refine HPL.out.mono ?_
        rintro e w2 ⟨rfl, m, own2, hs2, es2, ps2, hI2, hl2, hF2⟩
        have HHD : Hid (Calls Tryz.prog 27 #[.pointer (some ⟨hb, 2, none⟩)] w2 fun e w' => e = .returned (.bool true) ∧ ∃ own', WI A hb own' w' hb (9 + i + 1) hs2 es2 ps2 ∧ Fr own2 w2 own' w') := wholds hI2 (by omega)
        clear HPL hI2 hl2 c0 c1 c2 c3 c4 c5 c6 c7
        go_wp2_with fail
        refine HHD.out.mono ?_
        rintro e w3 ⟨rfl, own3, hI3, hF3⟩
        clear HHD
        go_wp2_with fail
        go_roundw
        case rel => exact ⟨rfl, i + 1, by omega, by go_num, own3, hs2, es2, ps2, hI3, (hFi.trans hF2).trans hF3⟩
        case measure => simp [intOf]; omega
      · have HHD : Hid (Calls Tryz.prog 27 #[.pointer (some ⟨hb, 2, none⟩)] wr fun e w' => e = .returned (.bool true) ∧ ∃ own2, WI A hb own2 w' hb (9 + i) hs' es' ps' ∧ Fr own' wr own2 w') := wholds HIi.out (by omega)
        clear hbytes
        go_wp2_with fail
        refine HHD.out.mono ?_
        rintro e w3 ⟨rfl, own3, hI3, hF3⟩
        clear HHD c0 c1 c2 c3 c4 c5 c6 c7
        go_wp2_with fail
        go_roundw
        case rel => exact ⟨rfl, i + 1, by omega, by go_num, own3, hs', es', ps', hI3.more (by omega), hFi.trans hF3⟩
        case measure => simp [intOf]; omega
    · obtain rfl : i = L := by omega
      have hlt1 : ¬ (i : Int) < (i : Int) := by omega
      obtain ⟨m, hm⟩ : ∃ x, x = ps'.length := ⟨_, rfl⟩
      have hm2 : m ≤ 9 + i := by rw [hm]; exact HIi.out.fewP
      go_wp2_with fail
      go_loopw [6, 8, 9] (fun okv t _ wq => okv = .bool true ∧ ∃ j : Nat, j ≤ m ∧ t = .int .i64 (j : Int) ∧ ∃ own2 hs2 es2 ps2, WI A hb own2 wq hb (9 + i + 8 * j) hs2 es2 ps2 ∧ ps2.length = m ∧ Fr own0 W0 own2 wq) (fun _ t _ _ => m - (intOf t).toNat)
      case atStart => exact ⟨rfl, 0, by omega, rfl, own', hs', es', ps', HIi.out, hm.symm, hFi⟩
      case round =>
        clear HIi hFi hm
        obtain ⟨rfl, j, hj, rfl, own2, hs2, es2, ps2, hI2, hl2, hF2⟩ := hrel
        obtain ⟨va, vc, hva, _⟩ := own_form2 hI2.sown
        have c0 : wr.cell? ⟨hb, 0, none⟩ = some (.slice va m vc) := by rw [cell_of_row wr hb 0 _ _ _ hI2.hands]; show some hs2.sv = _; rw [hva, hl2]
        have HI2 : Hid (WI A hb own2 wr hb (9 + i + 8 * j) hs2 es2 ps2) := hI2
        clear hI2 hva
        by_cases hjlt : j < m
        · have hj1 : (j : Int) < (m : Int) := by omega
          have hj0 : (0 : Int) ≤ (j : Int) := by omega
          go_wp2_with fail
          clear c0
          go_loopw [6, 9] (fun okv t wq => okv = .bool true ∧ ∃ k : Nat, k ≤ 8 ∧ t = .int .i64 (k : Int) ∧ ∃ own2 hs2 es2 ps2, WI A hb own2 wq hb (9 + i + 8 * j + k) hs2 es2 ps2 ∧ ps2.length = m ∧ Fr own0 W0 own2 wq) (fun _ t _ => 8 - (intOf t).toNat)
          case atStart => exact ⟨rfl, 0, by omega, rfl, own2, hs2, es2, ps2, HI2.out, hl2, hF2⟩
          case round =>
            clear HI2 hF2 hl2
            obtain ⟨rfl, k, hk, rfl, own3, hs3, es3, ps3, hI3, hl3, hF3⟩ := hrel
            have HI3 : Hid (WI A hb own3 wr hb (9 + i + 8 * j + k) hs3 es3 ps3) := hI3
            by_cases hk8 : k < 8
            · have hk1 : (k : Int) < 8 := by omega
              obtain ⟨g, gc, hsv, hsc⟩ := sender_cells hI3.toWJ (by omega)
              obtain ⟨t0, t1⟩ := hsc j (by omega)
              have c0 : wr.cell? ⟨hb, 0, none⟩ = some (.slice (some ⟨g, 0, none⟩) m gc) := by rw [cell_of_row wr hb 0 _ _ _ hI3.hands]; show some hs3.sv = _; rw [hsv, hl3]
              have HNX : Hid (Calls Tryz.prog 28 #[.pointer (some ⟨hb, 0, none⟩), .agg #[.pointer (some ⟨(pat ps3 j).sb, 0, none⟩), .pointer (some ⟨(pat ps3 j).rb, 0, none⟩)]] wr fun e w' => ∃ v, e = .returned (.tuple #[v, .bool true]) ∧ WStep A hb own3 wr hb (9 + i + 8 * j + k + 1) m w') := by
                have := wnext_any HI3.out (i := j) (by omega) (by omega)
                rw [hl3] at this
                exact this
              clear hI3 hsv hsc
              go_wp2_with fail
              refine HNX.out.mono ?_
              rintro e w5 ⟨v, rfl, own5, hs5, es5, ps5, hI5, hl5, hF5⟩
              clear HNX c0 t0 t1
              go_wp2_with fail
              go_roundw
              case rel => exact ⟨rfl, k + 1, by omega, by go_num, own5, hs5, es5, ps5, hI5, hl5, hF3.trans hF5⟩
              case measure => simp [intOf]; omega
            · obtain rfl : k = 8 := by omega
              clear hI3
              go_wp2_with fail
              go_roundw
              case rel => exact ⟨rfl, j + 1, by omega, by go_num, own3, hs3, es3, ps3, HI3.out.more (by omega), hl3, hF3⟩
              case measure => simp [intOf]; omega
        · obtain rfl : j = m := by omega
          have hj1 : ¬ (j : Int) < (j : Int) := by omega
          have r0 : wr.cell? ⟨hb, 1, none⟩ = some (.slice none 0 0) := by rw [cell_of_row wr hb 1 _ _ _ HI2.out.hands]; show some hs2.rv = _; rw [HI2.out.nil.rv0]
          go_wp2_with fail
          clear c0
          go_loopw [6, 10] (fun okv t wq => okv = .bool true ∧ t = .int .i64 0 ∧ wq = wr) (fun _ _ _ => 0)
          case atStart => exact ⟨rfl, rfl, rfl⟩
          case round =>
            obtain ⟨rfl, rfl, rfl⟩ := hrel
            go_wp2_with fail
            go_ret
            exact ⟨rfl, HFIN.out _ _ hF2⟩

end Go.Proofs.YtjabhnhejbhgjaaGreatDoor
