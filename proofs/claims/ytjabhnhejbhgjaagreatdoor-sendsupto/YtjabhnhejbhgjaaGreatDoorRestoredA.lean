/- Restored: what its loops keep. -/
import Derived.Test.YtjabhnhejbhgjaaGreatDoorAwakeWalk
import Derived.Test.YtjabhnhejbhgjaaGreatDoorRestMath
import Derived.Deep.AppendLies
namespace Go.Proofs.YtjabhnhejbhgjaaGreatDoor
open Go.RowKit

/-- The first k source symbols: v is their list. -/
structure Src (w : World) (B m k : Nat) (S : Nat → ByteArray) (v : Value) (rows : List Row) : Prop where
  len : rows.length = k
  own : w.ownsRow B 33 1 v k (rows.map Row.val)
  each : ∀ j, j < k → Blk w (rat rows j).b (copied (S j) m) ∧ rat rows j = ⟨(rat rows j).b, 0, m, copied (S j) m⟩ ∧ B ≤ (rat rows j).b ∧ v.ownBlock ≠ some (rat rows j).b

theorem own_of_block {w w' : World} {B : Nat} {e : TypeId} {sz n : Nat} {v : Value} {xs : List Value} (h : w.ownsRow B e sz v n xs) (hk : ∀ g, v.ownBlock = some g → w'.heap[g]? = w.heap[g]?) : w'.ownsRow B e sz v n xs := by
  obtain ⟨h1, h2⟩ := h
  refine ⟨h1, ?_⟩
  rcases h2 with h2 | ⟨g, cap, cur, rfl, h3, h4, h5⟩
  · exact .inl h2
  · exact .inr ⟨g, cap, cur, rfl, h3, by rw [hk g rfl]; exact h4, h5⟩

theorem own_lt {w : World} {B : Nat} {e : TypeId} {sz n : Nat} {v : Value} {xs : List Value} (h : w.ownsRow B e sz v n xs) {g : Nat} (hg : v.ownBlock = some g) : B ≤ g ∧ g < w.heap.size := h.lt g hg

theorem rat_lt {rows : List Row} {x : Row} {j : Nat} (hj : j < rows.length) : rat (rows ++ [x]) j = rat rows j := by
  simp [rat, List.getD, List.getElem?_append_left hj]
theorem rat_eq {rows : List Row} {x : Row} : rat (rows ++ [x]) rows.length = x := by simp [rat, List.getD]

theorem grown_block {w w' : World} {row : Option Nat} (h : w.grownBy w' row) {k : Nat} (hk : k < w.heap.size) (hne : row ≠ some k) : w'.heap[k]? = w.heap[k]? := h.block k hk (fun q => hne q.symm)

/-- One more. -/
theorem Src.step {wr w3 w4 : World} {B m k g cap : Nat} {S : Nat → ByteArray} {v : Value} {rows : List Row} {o : Obj} (h : Src wr B m k S v rows) (hB : B ≤ wr.heap.size)
    (hG : Blk w3 wr.heap.size (copied (S k) m)) (hz : w3.heap.size = wr.heap.size + 1) (hb : Below wr.heap.size wr w3)
    (hown : w4.ownsRow B 33 1 (.slice (some ⟨g, 0, none⟩) (k + 1) cap) (k + 1) (rows.map Row.val ++ [.slice (some ⟨wr.heap.size, 0, none⟩) m m]))
    (hgr : (w3.alloc o).grownBy w4 v.ownBlock) (hg : v.ownBlock = some g ∨ g = w3.heap.size + 1) :
    Src w4 B m (k + 1) S (.slice (some ⟨g, 0, none⟩) (k + 1) cap) (rows ++ [⟨wr.heap.size, 0, m, copied (S k) m⟩]) := by
  have hvlt : ∀ j, v.ownBlock = some j → j < wr.heap.size := fun j hj => (own_lt h.own hj).2
  have keep : ∀ j, j < w3.heap.size → v.ownBlock ≠ some j → w4.heap[j]? = w3.heap[j]? := fun j hj hne => by
    rw [grown_block hgr (by simp; omega) hne, Below.heap_alloc _ _ _ hj]
  refine ⟨by simp [h.len], ?_, ?_⟩
  · rw [List.map_append]
    have e : [(⟨wr.heap.size, 0, m, copied (S k) m⟩ : Row)].map Row.val = [.slice (some ⟨wr.heap.size, 0, none⟩) m m] := by simp [Row.val, copied_length]
    rw [e]; exact hown
  · intro j hj
    by_cases e : j = k
    · subst e
      rw [show rat (rows ++ [(⟨wr.heap.size, 0, m, copied (S j) m⟩ : Row)]) j = ⟨wr.heap.size, 0, m, copied (S j) m⟩ by rw [← h.len]; exact rat_eq]
      refine ⟨?_, rfl, hB, ?_⟩
      · show Blk w4 wr.heap.size _
        unfold Blk; rw [keep _ (by omega) (fun q => by have := hvlt _ q; omega)]; exact hG
      · intro q
        have q' : g = wr.heap.size := by simpa [Value.ownBlock] using q
        rcases hg with hg | hg
        · have := hvlt _ hg; omega
        · omega
    · have hjk : j < k := by omega
      rw [rat_lt (by rw [h.len]; exact hjk)]
      obtain ⟨h1, h2, h3, h4⟩ := h.each j hjk
      refine ⟨?_, h2, h3, ?_⟩
      · unfold Blk; rw [keep _ (by have := h1.lt; omega) h4, hb.block _ h1.lt]; exact h1
      · intro q
        have q' : g = (rat rows j).b := by simpa [Value.ownBlock] using q
        rcases hg with hg | hg
        · rw [q'] at hg; exact h4 hg
        · have := h1.lt; omega

theorem Src.nil (w : World) (B m : Nat) (S : Nat → ByteArray) : Src w B m 0 S (.slice none 0 0) [] := ⟨rfl, World.ownsRow_nil .., fun j hj => by omega⟩


/-- A list's slice: its length; where it lies, if there is something in it. -/
theorem own_form {w : World} {B : Nat} {e : TypeId} {n : Nat} {v : Value} {xs : List Value} (h : w.ownsRow B e 1 v n xs) :
    ∃ a c, v = .slice a n c ∧ (0 < n → ∃ g, a = some ⟨g, 0, none⟩ ∧ n ≤ c ∧ B ≤ g ∧ g < w.heap.size ∧ ∀ j, j < n → w.cell? ⟨g, j, none⟩ = xs[j]?) := by
  have hh := h
  obtain ⟨h1, h2⟩ := h
  rcases h2 with ⟨rfl, rfl⟩ | ⟨g, cap, cur, rfl, h3, h4, h5, h6⟩
  · exact ⟨none, 0, rfl, fun h => by omega⟩
  · exact ⟨_, cap, rfl, fun _ => ⟨g, rfl, h5, h3, (own_lt hh rfl).2, fun j hj => hh.cellAt j (by omega)⟩⟩

theorem Src.rs {w : World} {B m k g c : Nat} {S : Nat → ByteArray} {rows : List Row} (h : Src w B m k S (.slice (some ⟨g, 0, none⟩) k c) rows) : Rs w g 0 rows := by
  intro i hi
  rw [h.len] at hi
  refine ⟨?_, ?_⟩
  · rw [Nat.zero_add, h.own.cellAt i (by omega)]
    have : i < rows.length := by rw [h.len]; exact hi
    simp [rat, List.getD, this]
  · obtain ⟨h1, h2, _, _⟩ := h.each i hi
    rw [h2]; exact h1.bs

theorem Src.lenAt {w : World} {B m k : Nat} {v : Value} {S : Nat → ByteArray} {rows : List Row} (h : Src w B m k S v rows) (i : Nat) (hi : i < k) : (rat rows i).l.length = m := by
  obtain ⟨_, h2, _, _⟩ := h.each i hi
  rw [h2]; exact copied_length ..

theorem Src.even {w : World} {B m k : Nat} {v : Value} {S : Nat → ByteArray} {rows : List Row} (h : Src w B m k S v rows) (hk : 0 < k) : evenB rows = true :=
  evenB_yes (fun i hi => by rw [h.lenAt i (by rw [← h.len]; exact hi), h.lenAt 0 hk])

/-- The places and symbols that have been gathered. -/
structure Got (w : World) (B m n : Nat) (src : List Row) (k : Nat) (va vl : Value) (at' : List Int) (rows : List Row) : Prop where
  alen : at'.length = k
  rlen : rows.length = k
  aown : w.ownsRow B 3 1 va k (at'.map (Value.int .i64))
  lown : w.ownsRow B 33 1 vl k (rows.map Row.val)
  ok : placesB at' k = true
  each : ∀ j, j < k → Blk w (rat rows j).b (symOf (front n) src (byteOf (zat at' j)) m) ∧ rat rows j = ⟨(rat rows j).b, 0, m, symOf (front n) src (byteOf (zat at' j)) m⟩ ∧ B ≤ (rat rows j).b ∧ va.ownBlock ≠ some (rat rows j).b ∧ vl.ownBlock ≠ some (rat rows j).b
  apart : ∀ g, va.ownBlock = some g → vl.ownBlock ≠ some g

theorem Got.nil (w : World) (B m n : Nat) (src : List Row) : Got w B m n src 0 (.slice none 0 0) (.slice none 0 0) [] [] :=
  ⟨rfl, rfl, World.ownsRow_nil .., World.ownsRow_nil .., rfl, fun j hj => by omega, fun g h => by cases h⟩

theorem Got.kept {w w' : World} {B m n k : Nat} {src : List Row} {va vl : Value} {at' : List Int} {rows : List Row} (h : Got w B m n src k va vl at' rows) (hk : ∀ j, j < w.heap.size → w'.heap[j]? = w.heap[j]?) : Got w' B m n src k va vl at' rows :=
  ⟨h.alen, h.rlen, own_of_block h.aown (fun g hg => hk g (own_lt h.aown hg).2), own_of_block h.lown (fun g hg => hk g (own_lt h.lown hg).2), h.ok,
   fun j hj => by
    obtain ⟨h1, h2, h3, h4, h5⟩ := h.each j hj
    refine ⟨?_, h2, h3, h4, h5⟩
    unfold Blk; rw [hk _ h1.lt]; exact h1, h.apart⟩

theorem Got.lownAfter {w2 w3 : World} {B m n k : Nat} {src : List Row} {va vl : Value} {at' : List Int} {rows : List Row} {o1 : Obj} (h : Got w2 B m n src k va vl at' rows) (hgr3 : (w2.alloc o1).grownBy w3 va.ownBlock) : w3.ownsRow B 33 1 vl k (rows.map Row.val) := by
  refine own_of_block h.lown (fun g hg => ?_)
  have hlt := (own_lt h.lown hg).2
  rw [grown_block hgr3 (by simp; omega) (fun q => h.apart g q hg), Below.heap_alloc _ _ _ hlt]

/-- One more. -/
theorem Got.step {w2 w3 w4 : World} {B m n k ga ca gl cl sb : Nat} {src : List Row} {va vl : Value} {at' : List Int} {rows : List Row} {o1 o2 : Obj} {z : Int}
    (h : Got w2 B m n src k va vl at' rows) (hB : B ≤ sb) (hsb : sb < w2.heap.size) (hva : va.ownBlock ≠ some sb) (hvl : vl.ownBlock ≠ some sb)
    (hG : Blk w2 sb (symOf (front n) src (byteOf z) m)) (hz : plcB z = true) (hno : hasB at' k z = false)
    (hown3 : w3.ownsRow B 3 1 (.slice (some ⟨ga, 0, none⟩) (k + 1) ca) (k + 1) (at'.map (Value.int .i64) ++ [.int .i64 z]))
    (hgr3 : (w2.alloc o1).grownBy w3 va.ownBlock) (hg3 : va.ownBlock = some ga ∨ ga = w2.heap.size + 1)
    (hown4 : w4.ownsRow B 33 1 (.slice (some ⟨gl, 0, none⟩) (k + 1) cl) (k + 1) (rows.map Row.val ++ [.slice (some ⟨sb, 0, none⟩) m m]))
    (hgr4 : (w3.alloc o2).grownBy w4 vl.ownBlock) (hg4 : vl.ownBlock = some gl ∨ gl = w3.heap.size + 1) :
    Got w4 B m n src (k + 1) (.slice (some ⟨ga, 0, none⟩) (k + 1) ca) (.slice (some ⟨gl, 0, none⟩) (k + 1) cl) (at' ++ [z]) (rows ++ [⟨sb, 0, m, symOf (front n) src (byteOf z) m⟩]) := by
  have hs3 : w2.heap.size + 1 ≤ w3.heap.size := by have := hgr3.size; simp at this; exact this
  have hga : ga < w3.heap.size := (own_lt hown3 rfl).2
  have valt : ∀ j, va.ownBlock = some j → j < w2.heap.size := fun j hj => (own_lt h.aown hj).2
  have vllt : ∀ j, vl.ownBlock = some j → j < w2.heap.size := fun j hj => (own_lt h.lown hj).2
  have keep3 : ∀ j, j < w2.heap.size → va.ownBlock ≠ some j → w3.heap[j]? = w2.heap[j]? := fun j hj hne => by
    rw [grown_block hgr3 (by simp; omega) hne, Below.heap_alloc _ _ _ hj]
  have keep4 : ∀ j, j < w3.heap.size → vl.ownBlock ≠ some j → w4.heap[j]? = w3.heap[j]? := fun j hj hne => by
    rw [grown_block hgr4 (by simp; omega) hne, Below.heap_alloc _ _ _ hj]
  have keep : ∀ j, j < w2.heap.size → va.ownBlock ≠ some j → vl.ownBlock ≠ some j → w4.heap[j]? = w2.heap[j]? := fun j hj h1 h2 => by
    rw [keep4 j (by omega) h2, keep3 j hj h1]
  have hgav : vl.ownBlock ≠ some ga := by
    intro q
    rcases hg3 with e | e
    · exact h.apart ga e q
    · have := vllt _ q; omega
  refine ⟨by simp [h.alen], by simp [h.rlen], ?_, ?_, ?_, ?_, ?_⟩
  · rw [List.map_append]
    refine own_of_block hown3 (fun g hg => ?_)
    have e : g = ga := by simpa [Value.ownBlock] using hg.symm
    subst e
    exact keep4 _ hga hgav
  · rw [List.map_append]
    have e : [(⟨sb, 0, m, symOf (front n) src (byteOf z) m⟩ : Row)].map Row.val = [.slice (some ⟨sb, 0, none⟩) m m] := by simp [Row.val, symOf_length]
    rw [e]; exact hown4
  · exact placesB_snoc h.alen h.ok hz hno
  · have far : ∀ b, b < w2.heap.size → va.ownBlock ≠ some b → vl.ownBlock ≠ some b → (Value.slice (some ⟨ga, 0, none⟩) (k + 1) ca).ownBlock ≠ some b ∧ (Value.slice (some ⟨gl, 0, none⟩) (k + 1) cl).ownBlock ≠ some b := by
      intro b hb h1 h2
      constructor
      · intro q
        have e : ga = b := by simpa [Value.ownBlock] using q
        subst e
        rcases hg3 with e | e
        · exact h1 e
        · omega
      · intro q
        have e : gl = b := by simpa [Value.ownBlock] using q
        subst e
        rcases hg4 with e | e
        · exact h2 e
        · omega
    intro j hj
    by_cases e : j = k
    · subst e
      rw [show rat (rows ++ [(⟨sb, 0, m, symOf (front n) src (byteOf z) m⟩ : Row)]) j = ⟨sb, 0, m, symOf (front n) src (byteOf z) m⟩ by rw [← h.rlen]; exact rat_eq,
        show zat (at' ++ [z]) j = z by rw [← h.alen]; exact zat_eq]
      refine ⟨?_, rfl, hB, (far sb hsb hva hvl).1, (far sb hsb hva hvl).2⟩
      show Blk w4 sb _
      unfold Blk; rw [keep sb hsb hva hvl]; exact hG
    · have hjk : j < k := by omega
      rw [rat_lt (by rw [h.rlen]; exact hjk), zat_lt (by rw [h.alen]; exact hjk)]
      obtain ⟨h1, h2, h3, h4, h5⟩ := h.each j hjk
      refine ⟨?_, h2, h3, (far _ h1.lt h4 h5).1, (far _ h1.lt h4 h5).2⟩
      unfold Blk; rw [keep _ h1.lt h4 h5]; exact h1
  · intro g hg q
    have e1 : ga = g := by simpa [Value.ownBlock] using hg
    have e2 : gl = g := by simpa [Value.ownBlock] using q
    subst e1
    subst e2
    rcases hg4 with e | e
    · exact hgav e
    · omega

theorem seen_more {L i q : Nat} {at' : List Int} {p z : Int} (hz : z = p % 256) (hl : at'.length = q) (h : ∀ j, L ≤ j → j < i → hasB at' q ((j : Int) % 256) = true) (hp : L ≤ i → p = (i : Int)) :
    ∀ j, L ≤ j → j < i + 1 → hasB (at' ++ [z]) (q + 1) ((j : Int) % 256) = true := by
  intro j h1 h2
  by_cases e : j = i
  · subst e
    rw [← hp h1, ← hz]; exact hasB_last hl
  · exact hasB_mono (Nat.le_succ q) (by rw [hasB_snoc (by omega)]; exact h j h1 (by omega))

theorem seen_same {L i q : Nat} {at' : List Int} {p : Int} (hh : hasB at' q (p % 256) = true) (h : ∀ j, L ≤ j → j < i → hasB at' q ((j : Int) % 256) = true) (hp : L ≤ i → p = (i : Int)) :
    ∀ j, L ≤ j → j < i + 1 → hasB at' q ((j : Int) % 256) = true := by
  intro j h1 h2
  by_cases e : j = i
  · subst e
    rw [← hp h1]; exact hh
  · exact h j h1 (by omega)

theorem Got.zs {w : World} {B m n k g : Nat} {src : List Row} {va vl : Value} {at' : List Int} {rows : List Row} (h : Got w B m n src k va vl at' rows) (hc : ∀ j, j < k → w.cell? ⟨g, j, none⟩ = (at'.map (Value.int .i64))[j]?) : Zs w g 0 at' := by
  intro i hi
  rw [h.alen] at hi
  rw [Nat.zero_add, hc i hi]
  have : i < at'.length := by rw [h.alen]; exact hi
  simp [zat, List.getD, this]

theorem Got.rs {w : World} {B m n k g : Nat} {src : List Row} {va vl : Value} {at' : List Int} {rows : List Row} (h : Got w B m n src k va vl at' rows) (hc : ∀ j, j < k → w.cell? ⟨g, j, none⟩ = (rows.map Row.val)[j]?) : Rs w g 0 rows := by
  intro i hi
  rw [h.rlen] at hi
  refine ⟨?_, ?_⟩
  · rw [Nat.zero_add, hc i hi]
    have : i < rows.length := by rw [h.rlen]; exact hi
    simp [rat, List.getD, this]
  · obtain ⟨h1, h2, _⟩ := h.each i hi
    rw [h2]; exact h1.bs

theorem Got.lenAt {w : World} {B m n k : Nat} {src : List Row} {va vl : Value} {at' : List Int} {rows : List Row} (h : Got w B m n src k va vl at' rows) (i : Nat) (hi : i < k) : (rat rows i).l.length = m := by
  obtain ⟨_, h2, _⟩ := h.each i hi
  rw [h2]; exact symOf_length ..

theorem Got.even {w : World} {B m n k : Nat} {src : List Row} {va vl : Value} {at' : List Int} {rows : List Row} (h : Got w B m n src k va vl at' rows) (hk : 0 < k) : evenB rows = true :=
  evenB_yes (fun i hi => by rw [h.lenAt i (by rw [← h.rlen]; exact hi), h.lenAt 0 hk])

/-- What came back, as rows. -/
def bkRows (base m n : Nat) (src : List Row) : List Row := (List.range n).map fun i => ⟨base + i, 0, m, (rat src i).l⟩
theorem bkRows_length (base m n : Nat) (src : List Row) : (bkRows base m n src).length = n := by simp [bkRows]
theorem bkRows_at (base m n : Nat) (src : List Row) (i : Nat) (hi : i < n) : rat (bkRows base m n src) i = ⟨base + i, 0, m, (rat src i).l⟩ := by simp [rat, bkRows, List.getD, hi]

theorem Restored.rs {w w' : World} {Sb base m n : Nat} {X : List Gf.F} {rows src : List Row} (h : Restored w w' Sb base m n X rows) (hsrc : ∀ i, i < n → (rat src i).l.length = m) (he : ∀ i, i < n → symOf X rows (BitVec.ofNat 8 i) m = (rat src i).l) :
    Rs w' Sb 0 (bkRows base m n src) := by
  intro i hi
  rw [bkRows_length] at hi
  rw [bkRows_at _ _ _ _ _ hi]
  refine ⟨?_, ?_⟩
  · rw [cell_of_row _ _ _ _ _ _ h.list, Nat.zero_add, srcCells_at _ _ _ _ _ hi hi]
    simp [Row.val, hsrc i hi]
  · have := h.syms i hi
    rw [he i hi] at this
    exact this.bs

theorem Tryz.info_int : (Tryz.prog.info? 3).map (fun i => (i.zero, i.size, i.bytes)) = some (some (.int .i64 0), 1, 8) := by kernel_rfl

end Go.Proofs.YtjabhnhejbhgjaaGreatDoor
