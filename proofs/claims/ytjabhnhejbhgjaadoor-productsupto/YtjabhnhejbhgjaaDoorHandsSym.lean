/- Symbol of the program over what was lent, Symbol of the document: one answer. -/
import Derived.Test.YtjabhnhejbhgjaaDoorHoldWalk
import Derived.Test.YtjabhnhejbhgjaaDoorRestMath
namespace Go.Proofs.YtjabhnhejbhgjaaDoor
open Go.RowKit

def lentRows (rs : List Raw) (gs : List Nat) (n : Nat) : List Row := (List.range n).map fun i => ⟨gat gs i, 0, (wat rs i).l.length + 2, (wat rs i).l⟩
theorem lentRows_length (rs : List Raw) (gs : List Nat) (n : Nat) : (lentRows rs gs n).length = n := by simp [lentRows]
theorem lentRows_at (rs : List Raw) (gs : List Nat) (n i : Nat) (hi : i < n) : rat (lentRows rs gs n) i = ⟨gat gs i, 0, (wat rs i).l.length + 2, (wat rs i).l⟩ := by simp [rat, lentRows, List.getD, hi]

theorem lentRows_even (rs : List Raw) (gs : List Nat) (n : Nat) (hr : rs.length = n) : evenB (lentRows rs gs n) = evenR rs := by
  cases h : evenR rs
  · cases h2 : evenB (lentRows rs gs n)
    · rfl
    · exfalso
      have : evenR rs = true := evenR_yes (fun i hi => by
        have h0 : 0 < n := by omega
        have := evenB_len h2 i (by rw [lentRows_length]; omega)
        rw [lentRows_at rs gs n i (by omega), lentRows_at rs gs n 0 h0] at this
        exact this)
      rw [h] at this; cases this
  · exact evenB_yes (fun i hi => by
      rw [lentRows_length] at hi
      rw [lentRows_at rs gs n i hi, lentRows_at rs gs n 0 (by omega)]
      exact evenR_len h i (by omega))

theorem Listed.rsIn {w w' : World} {hb : Nat} {s : HS} {rs : List Raw} {n : Nat} {gs : List Nat} {v vr : Value} (h : Listed w w' hb s rs n gs v vr) : Rs w' w.heap.size 0 (lentRows rs gs n) := by
  intro i hi
  rw [lentRows_length] at hi
  rw [lentRows_at rs gs n i hi]
  refine ⟨?_, ?_⟩
  · rw [Nat.zero_add, cell_of_row w' _ i _ _ _ h.list]
    exact lendCells_at rs gs n n i hi hi
  · have := (h.lent.blk i hi).bsN (wat rs i).l.length
    rw [marked_take] at this
    exact this

theorem sym_same (rs : List Raw) (gs : List Nat) (n m : Nat) (p : Gf.F) : symOf (front n) (lentRows rs gs n) p m = symR (frontZ n) rs n p m := by
  apply list_ext
  · rw [symOf_length, symR_length]
  · intro i hi
    rw [symOf_length] at hi
    rw [symOf_at _ _ _ _ _ hi, symR_at _ _ _ _ _ _ hi, front_length]
    exact Gf.lag_congr (fun j hj => by rw [front_at n j hj, frontZ_at n j hj]; rfl) (fun j hj => by rw [lentRows_at rs gs n j hj]) p

def goodS (rs : List Raw) (n : Nat) (z : Int) : Bool := cntB (n : Int) && evenR rs && plcB z
def ansL (rs : List Raw) (n : Nat) (z : Int) : List Gf.F := if goodS rs n z = true then symR (frontZ n) rs n (byteOf z) (wat rs 0).l.length else []
def ansC (rs : List Raw) (n : Nat) (z : Int) : Nat := if goodS rs n z = true then 0 else 2

theorem blk_own {w : World} {B g : Nat} {l : List Gf.F} (h : Blk w g l) (hB : B ≤ g) (hm : l.length ≤ maxLen) : w.ownsRow B 5 1 (.slice (some ⟨g, 0, none⟩) l.length l.length) l.length (encL l) :=
  ⟨by simp [encL], .inr ⟨g, l.length, enc l, rfl, hB, h, Nat.le_refl _, hm, by simp [enc], by rw [Nat.mul_one]; exact List.take_of_length_le (by simp [enc])⟩⟩

theorem progSym (A : Nat → Addr) (B0 sb sc n : Nat) (rs : List Raw) (gs : List Nat) (z : Int) (w : World) (hE : Errs A B0 w) (hr : rs.length = n) (hn : n ≤ 1048576) (hm : ∀ i, i < n → (wat rs i).l.length ≤ 140737488355000) (hR : Rs w sb 0 (lentRows rs gs n)) (hlt : ∀ i, i < n → gat gs i < w.heap.size) :
    Calls Tryd.prog 9 #[.slice (some ⟨sb, 0, none⟩) n sc, .int .i64 z] w fun e w' =>
      ∃ v, e = .returned (.tuple #[v, E A (ansC rs n z)]) ∧ w'.ownsRow w.heap.size 5 1 v (ansL rs n z).length (encL (ansL rs n z)) ∧ Below w.heap.size w w' := by
  cases hg : goodS rs n z
  · have hbad : cntB (n : Int) = false ∨ evenB (lentRows rs gs n) = false ∨ plcB z = false := by
      rw [lentRows_even rs gs n hr]
      unfold goodS at hg
      cases h1 : cntB (n : Int) <;> cases h2 : evenR rs <;> cases h3 : plcB z <;> simp_all
    have hcell : w.cell? ⟨1, 0, none⟩ = some (.iface 164 (.pointer (some (A 1)))) := hE.cell 1 (by omega)
    refine (symbol_no sb 0 sc n (lentRows rs gs n) z _ _ w (lentRows_length ..) (by omega) hR hcell hbad).mono ?_
    rintro e w' ⟨rfl, nq, rfl⟩
    refine ⟨.slice none 0 0, ?_, ?_, ⟨rfl, rfl, rfl, Nat.le_refl _, fun _ _ => rfl⟩⟩
    · simp [ansC, hg, E]
    · simp only [ansL, hg]
      exact World.ownsRow_nil ..
  · have h3 : cntB (n : Int) = true ∧ evenR rs = true ∧ plcB z = true := by
      unfold goodS at hg
      cases h1 : cntB (n : Int) <;> cases h2 : evenR rs <;> cases h3 : plcB z <;> simp_all
    obtain ⟨h1, h2, h3⟩ := h3
    have hc := cntB_range h1
    have hm0 := hm 0 (by omega)
    refine (symbol_ok sb 0 sc (wat rs 0).l.length n (lentRows rs gs n) z w (lentRows_length ..) h1 (by rw [lentRows_even rs gs n hr]; exact h2) h3 (by rw [lentRows_at rs gs n 0 (by omega)]) (by omega) hR (fun i hi => by
      rw [lentRows_length] at hi
      rw [lentRows_at rs gs n i hi]; exact hlt i hi)).mono ?_
    rintro e w' ⟨rfl, hG, hb, _⟩
    rw [sym_same] at hG
    have hL : ansL rs n z = symR (frontZ n) rs n (byteOf z) (wat rs 0).l.length := by simp [ansL, hg]
    refine ⟨.slice (some ⟨w.heap.size + 1, 0, none⟩) (wat rs 0).l.length (wat rs 0).l.length, ?_, ?_, hb⟩
    · simp [ansC, hg, E]
    · rw [hL]
      have := blk_own hG (B := w.heap.size) (by omega) (by rw [symR_length]; unfold maxLen; omega)
      rw [symR_length] at this ⊢
      exact this

theorem refSym (al : Option Addr) (lb lo lc n : Nat) (rs : List Raw) (z : Int) (w : World) (hr : rs.length = n) (hn : n ≤ 1048576) (hm : ∀ i, i < n → (wat rs i).l.length ≤ 140737488355000) (hal : 0 < n → al = some ⟨lb, lo, none⟩) (hW : Ws w lb lo rs) :
    Calls Tryd.prog 29 #[.slice al n lc, .int .i64 z] w fun e w' =>
      ∃ v, e = .returned (.tuple #[v, .int .i64 (ansC rs n z : Int)]) ∧ w'.ownsRow w.heap.size 5 1 v (ansL rs n z).length (encL (ansL rs n z)) ∧ Below w.heap.size w w' := by
  cases hg : goodS rs n z
  · have hbad : ¬ (1 ≤ n ∧ n ≤ 8) ∨ evenR rs = false ∨ ¬ (0 ≤ z ∧ z ≤ 255) := by
      by_cases h1 : 1 ≤ n ∧ n ≤ 8
      · by_cases h3 : 0 ≤ z ∧ z ≤ 255
        · right; left
          have c1 : cntB (n : Int) = true := cntB_yes (by omega)
          have c3 : plcB z = true := plcB_yes h3
          unfold goodS at hg
          rw [c1, c3] at hg
          simpa using hg
        · exact .inr (.inr h3)
      · exact .inl h1
    refine (refSymbol_no al lb lo lc n rs z w hr (by omega) hal hW hbad).mono ?_
    rintro e w' ⟨rfl, hb⟩
    refine ⟨.slice none 0 0, by simp [ansC, hg], ?_, hb⟩
    simp only [ansL, hg]
    exact World.ownsRow_nil ..
  · have h3 : cntB (n : Int) = true ∧ evenR rs = true ∧ plcB z = true := by
      unfold goodS at hg
      cases h1 : cntB (n : Int) <;> cases h2 : evenR rs <;> cases h3 : plcB z <;> simp_all
    obtain ⟨h1, h2, h3⟩ := h3
    have hc := cntB_range h1
    have hp := plcB_range h3
    obtain rfl := hal (by omega)
    refine (refSymbol_ok lb lo lc n (wat rs 0).l.length rs z w hr (by omega) h2 rfl hp (hm 0 (by omega)) hW).mono ?_
    rintro e w' ⟨v, rfl, ho, hb⟩
    have hL : ansL rs n z = symR (frontZ n) rs n (byteOf z) (wat rs 0).l.length := by simp [ansL, hg]
    refine ⟨v, by simp [ansC, hg], ?_, hb⟩
    rw [hL, symR_length]
    exact ho

end Go.Proofs.YtjabhnhejbhgjaaDoor
