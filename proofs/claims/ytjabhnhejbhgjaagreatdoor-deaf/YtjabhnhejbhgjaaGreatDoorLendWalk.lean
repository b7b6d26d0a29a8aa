/- Hands.bytes: lent. -/
import Derived.Test.YtjabhnhejbhgjaaGreatDoorMany4
namespace Go.Proofs.YtjabhnhejbhgjaaGreatDoor
open Go.RowKit

theorem splice_marked (l : List Gf.F) (n : Nat) (h : l.length = n) : splice (enc (List.replicate (n + 2) 0#8)).toList 0 (encL l) = (enc (l ++ [0#8, 0#8])).toList := by
  have e : (encL l).length = n := by simp [encL, h]
  have e1 : (enc (List.replicate (n + 2) 0#8)).toList = List.replicate (n + 2) (Value.int .u8 0) := by simp [enc]
  unfold splice
  rw [e, e1, List.drop_replicate, List.take_zero, List.nil_append, show n + 2 - (0 + n) = 2 by omega]
  simp [encL, enc, List.replicate]

theorem Bs.cells {w : World} {b o : Nat} {l : List Gf.F} (h : Bs w b o l) : ∀ j v, (encL l)[j]? = some v → w.cell? ((⟨b, o, none⟩ : Addr).add j) = some v := by
  intro j v hj
  have hlt : j < l.length := by
    rcases Nat.lt_or_ge j l.length with q | q
    · exact q
    · rw [List.getElem?_eq_none (by simpa [encL] using q)] at hj; cases hj
  rw [encL_at hlt] at hj
  have hadd : (⟨b, o, none⟩ : Addr).add j = ⟨b, o + j, none⟩ := by unfold Addr.add; split <;> simp_all
  rw [hadd, h j hlt, hj]

theorem encL_one (l : List Gf.F) : ∀ u ∈ encL l, u.oneCell' = true := by
  intro u hu
  obtain ⟨x, _, rfl⟩ := List.mem_map.1 hu
  rfl

theorem Tryz.size_u8 : (Tryz.prog.info? 5).map (·.size) = some 1 := by kernel_rfl

/-- What the owner made of bytes: two marks behind. -/
def marked (l : List Gf.F) : List Gf.F := l ++ [0xa5#8, 0xa5#8]

theorem marked_set (l : List Gf.F) (n : Nat) (h : l.length = n) : ((l ++ [0#8, 0#8]).set n (BitVec.ofNat 8 165)).set (n + 1) (BitVec.ofNat 8 165) = marked l := by
  subst h
  simp [marked]

set_option maxRecDepth 100000 in
set_option maxHeartbeats 1000000 in
theorem bytes_any (hb B n k : Nat) (s : HS) (r : Raw) (ins : List Value) (w : World) (hlen : r.l.length = n) (hn : n ≤ 140737488355000) (hk : k ≤ 1048576) (hH : HAt w hb s) (hI : w.ownsRow B 221 2 s.in_ k ins) (hB : B ≤ w.heap.size) (hr : RawIn w r) :
    Calls Tryz.prog 81 #[.pointer (some ⟨hb, 2, none⟩), r.v] w fun e w' =>
      ∃ v', e = .returned (.slice (some ⟨w.heap.size, 0, none⟩) n (n + 2)) ∧ Blk w' w.heap.size (marked r.l) ∧ HAt w' hb { s with in_ := v' } ∧
        w'.ownsRow B 221 2 v' (k + 1) (ins ++ [.slice (some ⟨w.heap.size, 0, none⟩) (n + 2) (n + 2), r.v]) ∧
        (∀ b, v'.ownBlock = some b → s.in_.ownBlock = some b ∨ w.heap.size < b) ∧ But (fun b => b = hb ∨ s.in_.ownBlock = some b) w w' := by
  obtain ⟨a, c, hv, ha⟩ := hr
  rw [hlen] at hv ha
  rw [hv]
  have HLEN : Hid (r.l.length = n) := hlen
  have HH : Hid (HAt w hb s) := hH
  have hlt := hH.lt
  obtain ⟨il, hil, hl0, hl1, hl2⟩ := Tryz.lent_parts
  clear hlen hv hH
  have hmk : ∀ W : World, (Instr.makeSlice 33 (.int .i64 ((n : Int) + 2)) (.int .i64 ((n : Int) + 2))).run Tryz.prog W = .ok (.slice (some ⟨W.heap.size, 0, none⟩) (n + 2) (n + 2)) (W.alloc (.cells (madeCells #[.int .u8 0] (n + 2)) 5)) := fun W => by
    have := run_make_row' (P := Tryz.prog) 33 5 (.int .u8 0) 1 Tryz.underlying33 Tryz.info_u8 rfl .i64 .i64 (n + 2) (by omega) (by omega) W
    rw [show (((n + 2 : Nat)) : Int) = (n : Int) + 2 by omega] at this
    exact this
  go_enter Tryz.func81, Tryz.ntmps81
  obtain ⟨X, hX⟩ : ∃ X, X = encL r.l := ⟨_, rfl⟩
  have HX : Hid (X = encL r.l) := hX
  have hxl : X.length = n := by rw [hX]; simpa [encL] using HLEN.out
  have HXL : Hid (X.length = n) := hxl
  clear hX hxl
  go_wp2_with (refine wpList_copy_splice rfl _ _ _ _ rfl 5 Tryz.underlying33 Tryz.size_u8 (some ⟨w.heap.size, 0, none⟩) a (n + 2) (n + 2) n c rfl rfl w.heap.size 0 (enc (List.replicate (n + 2) 0#8)).toList 5 ?g1 X ?g2 ?g3 ?g4 ?g5 w.heap.size w ?g6 (Nat.le_refl _) ?_)
  case g1 => exact Blk.made (n + 2)
  case g2 => rw [HXL.out]; exact (Nat.min_eq_left (by omega)).symm
  case g3 =>
    intro h0
    obtain ⟨b, o, rfl, hbs⟩ := ha (by rw [← HXL.out]; exact h0)
    (first | refine ⟨rfl, _, rfl, ?_⟩ | refine ⟨_, rfl, ?_⟩)
    rw [HX.out]
    exact (hbs.below ((Below.refl _ _).alloc (Nat.le_refl _) _) (hbs.lt (by rw [HLEN.out, ← HXL.out]; exact h0))).cells
  case g4 => rw [HXL.out]; simp [enc]
  case g5 => rw [HX.out]; exact encL_one _
  case g6 => exact (Below.refl _ _).alloc (Nat.le_refl _) _
  intro w2 HG2 hB2
  have hG2 : Blk w2 w.heap.size (r.l ++ [0#8, 0#8]) := by
    have := HG2.out
    rw [HX.out, splice_marked r.l n HLEN.out] at this
    exact this
  have hlt2 := hG2.lt
  clear HG2
  have hbn : hb ≠ w.heap.size := Nat.ne_of_lt hlt
  have hcn : w2.cell? ⟨w.heap.size, n, none⟩ = some (.int .u8 0) := by
    have := hG2.bs n (by simp [HLEN.out])
    rw [Nat.zero_add] at this
    rw [this]; simp [at_, List.getD, HLEN.out]
  have hcn1 : w2.cell? ⟨w.heap.size, n + 1, none⟩ = some (.int .u8 0) := by
    have := hG2.bs (n + 1) (by simp [HLEN.out])
    rw [Nat.zero_add] at this
    rw [this]; simp [at_, List.getD, HLEN.out]
  have hfn := hG2.frozen
  have hH2 : HAt w2 hb s := HH.out.kept (hB2.block hb hlt)
  have hc0 : w2.cell? ⟨hb, 2, none⟩ = some s.in_ := hH2.cell 0
  have hf0 := hH2.frozen
  have HH2 : Hid (HAt w2 hb s) := hH2
  have HG2 : Hid (Blk w2 w.heap.size (r.l ++ [0#8, 0#8])) := hG2
  clear hH2 hG2
  go_wp2_with (at_builtin; refine wpList_append_apart rfl _ _ _ rfl B 221 il (.agg #[.slice none 0 0, .slice none 0 0]) 2 48 Tryz.underlying72 hil hl0 hl1 hl2 rfl (by omega) s.in_ k ins rfl ?c0 ⟨w2.heap.size, 0, none⟩ 1 1 [.slice (some ⟨w.heap.size, 0, none⟩) (n + 2) (n + 2), .slice a n c] rfl rfl ?c1 ?c2 (by omega) ?c3 ?c4 ?c5 ?c6 ?_)
  case c0 => exact own_of_block hI (fun g hg => by
    have h1 := (hI.lt g hg).2
    rw [Below.heap_alloc _ _ _ (by simp; omega), Below.heap_setCell _ _ _ _ (by simp; omega), Below.heap_setCell _ _ _ _ (by simp; omega)]
    exact hB2.block g h1)
  case c1 =>
    intro j u hj
    have hs0 : ((w2.setCell ⟨w.heap.size, n, none⟩ (.int .u8 165)).setCell ⟨w.heap.size, n + 1, none⟩ (.int .u8 165)).heap.size = w2.heap.size := by simp
    match j, hj with
    | 0, hj =>
      have := World.cell?_alloc_at (w := (w2.setCell ⟨w.heap.size, n, none⟩ (.int .u8 165)).setCell ⟨w.heap.size, n + 1, none⟩ (.int .u8 165)) #[.slice (some ⟨w.heap.size, 0, none⟩) (n + 2) (n + 2), .slice a n c] 221 w2.heap.size 0 hs0.symm
      exact this.trans hj
    | 1, hj =>
      have := World.cell?_alloc_at (w := (w2.setCell ⟨w.heap.size, n, none⟩ (.int .u8 165)).setCell ⟨w.heap.size, n + 1, none⟩ (.int .u8 165)) #[.slice (some ⟨w.heap.size, 0, none⟩) (n + 2) (n + 2), .slice a n c] 221 w2.heap.size 1 hs0.symm
      exact this.trans hj
    | j + 2, hj => simp at hj
  case c2 => intro u hu; simp at hu; rcases hu with rfl | rfl <;> rfl
  case c3 => unfold maxLen; omega
  case c4 => omega
  case c5 => omega
  case c6 => simp; omega
  intro g cap w3 hown3 hgr3 hlie3 hlt3
  have hne3 : ∀ g, s.in_.ownBlock = some g → g ≠ hb := fun g hg => own_ne hI hg HH.out (by decide)
  have hold : ∀ j, j < w2.heap.size → s.in_.ownBlock ≠ some j → w3.heap[j]? = ((w2.setCell ⟨w.heap.size, n, none⟩ (.int .u8 165)).setCell ⟨w.heap.size, n + 1, none⟩ (.int .u8 165)).heap[j]? := fun j hj hne => by
    rw [grown_block hgr3 (by simp; omega) hne, Below.heap_alloc _ _ _ (by simpa using hj)]
  have hG3 : Blk w3 w.heap.size (marked r.l) := by
    have h1 := (HG2.out.setNat n 165 (by omega)).setNat (n + 1) 165 (by omega)
    rw [marked_set r.l n HLEN.out] at h1
    exact h1.kept (hold _ hlt2 (fun q => by have := (hI.lt _ q).2; omega))
  have hH3 : HAt w3 hb s := HH2.out.kept (by
    rw [hold hb (by omega) (fun q => hne3 hb q rfl), Below.heap_setCell _ _ _ _ hbn, Below.heap_setCell _ _ _ _ hbn])
  have hg : g ≠ hb := by
    rcases hlie3 with q | ⟨q, _⟩
    · exact hne3 g q
    · rw [q]; omega
  have hpl : ∀ b, (Value.slice (some ⟨g, 0, none⟩) (k + 1) cap).ownBlock = some b → s.in_.ownBlock = some b ∨ w.heap.size < b := by
    intro b hb'
    have e : g = b := by simpa [Value.ownBlock] using hb'
    subst e
    rcases hlie3 with q | ⟨q, _⟩
    · exact .inl q
    · right; rw [q]; omega
  have hbut : But (fun b => b = hb ∨ s.in_.ownBlock = some b) w w3 :=
    ((((((But.refl _ w).below hB2 (fun i h1 h2 => absurd h1 h2)).setCell (p := ⟨w.heap.size, n, none⟩) (.inr (Nat.le_refl _)) _).setCell (p := ⟨w.heap.size, n + 1, none⟩) (.inr (Nat.le_refl _)) _).alloc _).grown hgr3 (fun k hk => .inl (.inr hk)))
  have hfr3 : w3.frozen? ⟨hb, 2, none⟩ = false := hH3.frozen 2
  have hc3 : w3.cell? ⟨hb, 2, none⟩ = some s.in_ := hH3.cell 0
  clear hgr3 hlie3 hold
  go_wp2_with fail
  go_ret
  exact ⟨_, rfl, hG3.kept (Below.heap_setCell _ _ _ _ (fun q => hbn q.symm)), hH3.set0 _, own_of_block hown3 (fun b hb' => Below.heap_setCell _ _ _ _ (by
    have e : g = b := by simpa [Value.ownBlock] using hb'
    rw [← e]; exact hg)), hpl, hbut.setCell (.inl (.inl rfl)) _⟩

end Go.Proofs.YtjabhnhejbhgjaaGreatDoor
