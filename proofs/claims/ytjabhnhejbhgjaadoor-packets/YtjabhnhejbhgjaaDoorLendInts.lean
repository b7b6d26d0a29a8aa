/- Hands.numbers: numbers, lent. -/
import Derived.Test.YtjabhnhejbhgjaaDoorLendList
namespace Go.Proofs.YtjabhnhejbhgjaaDoor
open Go.RowKit

/-- A whole block of numbers. -/
def ZBlk (w : World) (g : Nat) (l : List Int) : Prop := w.heap[g]? = some (.cells (encZ l).toArray 3 (0, 0))

theorem ZBlk.zs {w : World} {g : Nat} {l : List Int} (h : ZBlk w g l) : Zs w g 0 l := by
  intro i hi
  rw [cell_of_row w g (0 + i) _ _ _ h]
  simp [encZ, zat, List.getD, hi]

theorem ZBlk.frozen {w : World} {g : Nat} {l : List Int} (h : ZBlk w g l) (i : Nat) : w.frozen? ⟨g, i, none⟩ = false := frozen_of_row w g i _ _ h
theorem ZBlk.kept {w w' : World} {g : Nat} {l : List Int} (h : ZBlk w g l) (hk : w'.heap[g]? = w.heap[g]?) : ZBlk w' g l := by unfold ZBlk; rw [hk]; exact h
theorem ZBlk.lt {w : World} {g : Nat} {l : List Int} (h : ZBlk w g l) : g < w.heap.size := (Array.getElem?_eq_some_iff.1 h).1
theorem ZBlk.set {w : World} {g : Nat} {l : List Int} (h : ZBlk w g l) (i : Nat) (x : Int) : ZBlk (w.setCell ⟨g, i, none⟩ (.int .i64 x)) g (l.set i x) := by
  unfold ZBlk
  rw [heap_setCell_same w g i _ _ _ h]
  simp [encZ, List.map_set]

theorem ZBlk.made {w : World} (n : Nat) : ZBlk (w.alloc (.cells (madeCells #[.int .i64 0] n) 3)) w.heap.size (List.replicate n 0) := by
  unfold ZBlk
  rw [heap_alloc_new]
  have : madeCells #[.int .i64 0] n = (encZ (List.replicate n 0)).toArray := by
    apply Array.ext'
    rw [toList_madeCells_one]
    simp [encZ]
  rw [this]

def markedZ (l : List Int) : List Int := l ++ [-7, -7]

theorem markedZ_set (l : List Int) (n : Nat) (h : l.length = n) : ((l ++ [0, 0]).set n (-7)).set (n + 1) (-7) = markedZ l := by
  subst h
  simp [markedZ]

theorem splice_markedZ (l : List Int) (n : Nat) (h : l.length = n) : splice (encZ (List.replicate (n + 2) 0)) 0 (encZ l) = encZ (l ++ [0, 0]) := by
  have e : (encZ l).length = n := by simp [encZ, h]
  have e1 : encZ (List.replicate (n + 2) 0) = List.replicate (n + 2) (Value.int .i64 0) := by simp [encZ]
  unfold splice
  rw [e, e1, List.drop_replicate, List.take_zero, List.nil_append, show n + 2 - (0 + n) = 2 by omega]
  simp [encZ, List.replicate]

theorem Zs.cells {w : World} {b o : Nat} {l : List Int} (h : Zs w b o l) : ∀ j v, (encZ l)[j]? = some v → w.cell? ((⟨b, o, none⟩ : Addr).add j) = some v := by
  intro j v hj
  have hlt : j < l.length := by
    rcases Nat.lt_or_ge j l.length with q | q
    · exact q
    · rw [List.getElem?_eq_none (by simpa [encZ] using q)] at hj; cases hj
  have e : (encZ l)[j]? = some (.int .i64 (zat l j)) := by simp [encZ, zat, List.getD, hlt]
  rw [e] at hj
  have hadd : (⟨b, o, none⟩ : Addr).add j = ⟨b, o + j, none⟩ := by unfold Addr.add; split <;> simp_all
  rw [hadd, h j hlt, hj]

theorem encZ_one (l : List Int) : ∀ u ∈ encZ l, u.oneCell' = true := by
  intro u hu
  obtain ⟨x, _, rfl⟩ := List.mem_map.1 hu
  rfl

theorem Tryd.size_int : (Tryd.prog.info? 3).map (·.size) = some 1 := by kernel_rfl
theorem Tryd.info_ints : (Tryd.prog.info? 32).map (fun i => (i.zero, i.size, i.bytes)) = some (some (.slice none 0 0), 1, 24) := by kernel_rfl
theorem Tryd.ints_parts : ∃ i, Tryd.prog.info? 32 = some i ∧ i.zero = some (.slice none 0 0) ∧ i.size = 1 ∧ i.bytes = 24 := by
  obtain ⟨i, hi, h⟩ := Option.map_eq_some_iff.1 Tryd.info_ints
  simp only [Prod.mk.injEq] at h
  exact ⟨i, hi, h.1, h.2.1, h.2.2⟩

theorem cell_one_at (w : World) (v : Value) (t : TypeId) (H : Nat) (hH : H = w.heap.size) : ∀ j u, [v][j]? = some u → (w.alloc (.cells #[v] t)).cell? ((⟨H, 0, none⟩ : Addr).add j) = some u := by
  subst hH
  exact cell_one_new w v t

/-- What numbers leaves. -/
structure Numbered (w w' : World) (hb : Nat) (s : HS) (l : List Int) (n : Nat) (u : Value) (vi vw : Value) : Prop where
  hands : HAt w' hb { s with ints := vi, iwant := vw }
  blk : ZBlk w' w.heap.size (markedZ l)
  ints : w'.ownsRow w.heap.size 32 1 vi 1 [.slice (some ⟨w.heap.size, 0, none⟩) (n + 2) (n + 2)]
  want : w'.ownsRow w.heap.size 32 1 vw 1 [u]
  but : But (fun b => b = hb) w w'

set_option maxRecDepth 100000 in
set_option maxHeartbeats 1000000 in
theorem numbers_any (a : Option Addr) (hb zb zo c n : Nat) (s : HS) (l : List Int) (w : World) (hlen : l.length = n) (hn : n ≤ 14073748835500) (ha : 0 < n → a = some ⟨zb, zo, none⟩) (hZ : Zs w zb zo l) (hH : HAt w hb s) (hi0 : s.ints = .slice none 0 0) (hw0 : s.iwant = .slice none 0 0) :
    Calls Tryd.prog 33 #[.pointer (some ⟨hb, 0, none⟩), .slice a n c] w fun e w' =>
      ∃ vi vw, e = .returned (.slice (some ⟨w.heap.size, 0, none⟩) n (n + 2)) ∧ Numbered w w' hb s l n (.slice a n c) vi vw := by
  have HLEN : Hid (l.length = n) := hlen
  have HH : Hid (HAt w hb s) := hH
  have HI0 : Hid (s.ints = .slice none 0 0) := hi0
  have HW0 : Hid (s.iwant = .slice none 0 0) := hw0
  have hlt := hH.lt
  have hbn : hb ≠ w.heap.size := Nat.ne_of_lt hlt
  obtain ⟨il, hil, hl0, hl1, hl2⟩ := Tryd.ints_parts
  have hmk : ∀ W : World, (Instr.makeSlice 32 (.int .i64 ((n : Int) + 2)) (.int .i64 ((n : Int) + 2))).run Tryd.prog W = .ok (.slice (some ⟨W.heap.size, 0, none⟩) (n + 2) (n + 2)) (W.alloc (.cells (madeCells #[.int .i64 0] (n + 2)) 3)) := fun W => by
    have := run_make_row' (P := Tryd.prog) 32 3 (.int .i64 0) 8 Tryd.underlying32 Tryd.info_int rfl .i64 .i64 (n + 2) (by omega) (by omega) W
    rw [show (((n + 2 : Nat)) : Int) = (n : Int) + 2 by omega] at this
    exact this
  obtain ⟨X, hX⟩ : ∃ X, X = encZ l := ⟨_, rfl⟩
  have HX : Hid (X = encZ l) := hX
  have hxl : X.length = n := by rw [hX]; simpa [encZ] using HLEN.out
  have HXL : Hid (X.length = n) := hxl
  clear hX hxl hlen hH hi0 hw0
  go_enter Tryd.func33, Tryd.ntmps33
  go_wp2_with (refine wpList_copy_splice rfl _ _ _ _ rfl 3 Tryd.underlying32 Tryd.size_int (some ⟨w.heap.size, 0, none⟩) a (n + 2) (n + 2) n c rfl rfl w.heap.size 0 (encZ (List.replicate (n + 2) 0)) 3 ?g1 X ?g2 ?g3 ?g4 ?g5 w.heap.size w ?g6 (Nat.le_refl _) ?_)
  case g1 => exact ZBlk.made (n + 2)
  case g2 => rw [HXL.out]; exact (Nat.min_eq_left (by omega)).symm
  case g3 =>
    intro h0
    obtain rfl := ha (by rw [← HXL.out]; exact h0)
    (first | refine ⟨rfl, _, rfl, ?_⟩ | refine ⟨_, rfl, ?_⟩)
    rw [HX.out]
    exact (hZ.below ((Below.refl _ _).alloc (Nat.le_refl _) _) (hZ.lt (by rw [HLEN.out, ← HXL.out]; exact h0))).cells
  case g4 => rw [HXL.out]; simp [encZ]
  case g5 => rw [HX.out]; exact encZ_one _
  case g6 => exact (Below.refl _ _).alloc (Nat.le_refl _) _
  intro w2 HG2 hB2
  have hG2 : ZBlk w2 w.heap.size (l ++ [0, 0]) := by
    have := HG2.out
    rw [HX.out, splice_markedZ l n HLEN.out] at this
    exact this
  have hlt2 := hG2.lt
  clear HG2
  have hcn : w2.cell? ⟨w.heap.size, n, none⟩ = some (.int .i64 0) := by
    have := hG2.zs n (by simp [HLEN.out])
    rw [Nat.zero_add] at this
    rw [this]; simp [zat, List.getD, HLEN.out]
  have hcn1 : w2.cell? ⟨w.heap.size, n + 1, none⟩ = some (.int .i64 0) := by
    have := hG2.zs (n + 1) (by simp [HLEN.out])
    rw [Nat.zero_add] at this
    rw [this]; simp [zat, List.getD, HLEN.out]
  have hfn := hG2.frozen
  have hH2 : HAt w2 hb s := HH.out.kept (hB2.block hb hlt)
  have hc0 : w2.cell? ⟨hb, 2, none⟩ = some (.slice none 0 0) := by rw [hH2.cell 2, ← HI0.out]; rfl
  have hf0 := hH2.frozen
  have HH2 : Hid (HAt w2 hb s) := hH2
  have HG2 : Hid (ZBlk w2 w.heap.size (l ++ [0, 0])) := hG2
  clear hH2 hG2
  go_wp2_with (at_builtin; refine wpList_append_apart rfl _ _ _ rfl w.heap.size 32 il (.slice none 0 0) 1 24 Tryd.underlying39 hil hl0 hl1 hl2 rfl (by omega) (.slice none 0 0) 0 [] rfl (World.ownsRow_nil ..) ⟨w2.heap.size, 0, none⟩ 1 1 [.slice (some ⟨w.heap.size, 0, none⟩) (n + 2) (n + 2)] rfl rfl ?c1 ?c2 (by omega) ?c3 ?c4 ?c5 ?c6 ?_)
  case c1 => exact cell_one_at _ _ _ _ (by simp)
  case c2 => intro u hu; simp at hu; subst hu; rfl
  case c3 => unfold maxLen; omega
  case c4 => omega
  case c5 => omega
  case c6 => simp; omega
  intro g cap w3 hown3 hgr3 hlie3 hlt3
  have hold : ∀ j, j < w2.heap.size → w3.heap[j]? = ((w2.setCell ⟨w.heap.size, n, none⟩ (.int .i64 (-7))).setCell ⟨w.heap.size, n + 1, none⟩ (.int .i64 (-7))).heap[j]? := fun j hj => by
    rw [grown_block hgr3 (by simp; omega) (by simp [Value.ownBlock]), Below.heap_alloc _ _ _ (by simpa using hj)]
  have hG3 : ZBlk w3 w.heap.size (markedZ l) := by
    have h1 := (HG2.out.set n (-7)).set (n + 1) (-7)
    rw [markedZ_set l n HLEN.out] at h1
    exact h1.kept (hold _ hlt2)
  have hH3 : HAt w3 hb s := HH2.out.kept (by
    rw [hold hb (by omega), Below.heap_setCell _ _ _ _ hbn, Below.heap_setCell _ _ _ _ hbn])
  have hg : w2.heap.size < g := by
    rcases hlie3 with q | ⟨q, _⟩
    · simp [Value.ownBlock] at q
    · have : g = w2.heap.size + 1 := by simpa using q
      omega
  have hbut : But (fun b => b = hb) w w3 :=
    ((((((But.refl _ w).below hB2 (fun i h1 h2 => absurd h1 h2)).setCell (p := ⟨w.heap.size, n, none⟩) (.inr (Nat.le_refl _)) _).setCell (p := ⟨w.heap.size, n + 1, none⟩) (.inr (Nat.le_refl _)) _).alloc _).grown hgr3 (fun k hk => by simp [Value.ownBlock] at hk))
  have hfr3 := hH3.frozen
  have hc3 : w3.cell? ⟨hb, 2, none⟩ = some (.slice none 0 0) := by rw [hH3.cell 2, ← HI0.out]; rfl
  have hc33 : w3.cell? ⟨hb, 3, none⟩ = some (.slice none 0 0) := by rw [hH3.cell 3, ← HW0.out]; rfl
  have HH3 : Hid (HAt w3 hb s) := hH3
  have HG3 : Hid (ZBlk w3 w.heap.size (markedZ l)) := hG3
  have hsz3 := hbut.size
  have hhb3 : hb < w3.heap.size := by omega
  clear hgr3 hlie3 hold hH3 hG3
  go_wp2_with (at_builtin; refine wpList_append_apart rfl _ _ _ rfl w.heap.size 32 il (.slice none 0 0) 1 24 Tryd.underlying39 hil hl0 hl1 hl2 rfl (by omega) (.slice none 0 0) 0 [] rfl (World.ownsRow_nil ..) ⟨w3.heap.size, 0, none⟩ 1 1 [.slice a n c] rfl rfl ?c1 ?c2 (by omega) ?c3 ?c4 ?c5 ?c6 ?_)
  case c1 => exact cell_one_at _ _ _ _ (by simp)
  case c2 => intro u hu; simp at hu; subst hu; rfl
  case c3 => unfold maxLen; omega
  case c4 => omega
  case c5 => omega
  case c6 => simp; omega
  intro g4 cap4 w4 hown4 hgr4 hlie4 hlt4
  have hold4 : ∀ j, j < w3.heap.size → w4.heap[j]? = (w3.setCell ⟨hb, 2, none⟩ (.slice (some ⟨g, 0, none⟩) 1 cap)).heap[j]? := fun j hj => by
    rw [grown_block hgr4 (by simp; omega) (by simp [Value.ownBlock]), Below.heap_alloc _ _ _ (by simpa using hj)]
  have HH4 : Hid (HAt w4 hb { s with ints := .slice (some ⟨g, 0, none⟩) 1 cap }) := (HH3.out.set2 (.slice (some ⟨g, 0, none⟩) 1 cap)).kept (hold4 hb hhb3)
  have HG4 : Hid (ZBlk w4 w.heap.size (markedZ l)) := HG3.out.kept (by rw [hold4 _ HG3.out.lt, Below.heap_setCell _ _ _ _ (fun q => hbn q.symm)])
  have hg4 : w3.heap.size < g4 := by
    rcases hlie4 with q | ⟨q, _⟩
    · simp [Value.ownBlock] at q
    · have : g4 = w3.heap.size + 1 := by simpa using q
      omega
  have hown34 : w4.ownsRow w.heap.size 32 1 (.slice (some ⟨g, 0, none⟩) 1 cap) 1 [.slice (some ⟨w.heap.size, 0, none⟩) (n + 2) (n + 2)] := own_of_block hown3 (fun b hb' => by
    have e : g = b := by simpa [Value.ownBlock] using hb'
    rw [hold4 b (by omega), Below.heap_setCell _ _ _ _ (by rw [← e]; show g ≠ hb; omega)])
  have hbut4 : But (fun b => b = hb) w w4 := ((hbut.setCell (p := ⟨hb, 2, none⟩) (.inl rfl) (.slice (some ⟨g, 0, none⟩) 1 cap)).alloc _).grown hgr4 (fun k hk => by simp [Value.ownBlock] at hk)
  have hfr4 := HH4.out.frozen
  have hc43 : w4.cell? ⟨hb, 3, none⟩ = some (.slice none 0 0) := by rw [HH4.out.cell 3, ← HW0.out]; rfl
  clear hgr4 hlie4 hold4 hbut hown3
  go_wp2_with fail
  go_ret
  have hfar : ∀ b, b ≠ hb → (w4.setCell ⟨hb, 3, none⟩ (.slice (some ⟨g4, 0, none⟩) 1 cap4)).heap[b]? = w4.heap[b]? := fun b hb' => Below.heap_setCell _ _ _ _ hb'
  exact ⟨_, _, rfl, HH4.out.set3 _, HG4.out.kept (hfar _ (fun q => hbn q.symm)), own_of_block hown34 (fun b hb' => hfar b (by
      have e : g = b := by simpa [Value.ownBlock] using hb'
      omega)), own_of_block hown4 (fun b hb' => hfar b (by
      have e : g4 = b := by simpa [Value.ownBlock] using hb'
      omega)), hbut4.setCell (.inl rfl) _⟩

end Go.Proofs.YtjabhnhejbhgjaaDoor
