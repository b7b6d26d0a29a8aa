import Derived.Test.YtjabhnhejbhgjaaDoorKeepWalk
import Derived.Test.YtjabhnhejbhgjaaDoorRestMath
/- Hands.holds. -/
namespace Go.Proofs.YtjabhnhejbhgjaaDoor
open Go.RowKit

structure EntL where
  v : Value
  n : Nat
  m : Nat

/-- TwoB bytes: m, 0. -/
def TwoB (w : World) (u : Value) (m : Nat) : Prop := ∃ g, u = .slice (some ⟨g, 0, none⟩) 2 2 ∧ w.heap[g]? = some (.cells #[.int .u8 (m : Int), .int .u8 0] 5 (0, 0))

/-- A list of n such. -/
def LOk (w : World) (v : Value) (n m : Nat) : Prop :=
  (∃ c, v = .slice none 0 c ∧ n = 0) ∨ (∃ g c cs, v = .slice (some ⟨g, 0, none⟩) n c ∧ w.heap[g]? = some (.cells cs 33 (0, 0)) ∧ ∀ j, j < n → ∃ u, cs[j]? = some u ∧ TwoB w u m)

structure Outers (w : World) (B : Nat) (vo vm : Value) (ls : List EntL) : Prop where
  own : w.ownsRow B 31 1 vo ls.length (ls.map (·.v))
  marks : w.ownsRow B 3 1 vm ls.length (ls.map fun e => .int .i64 (e.m : Int))
  each : ∀ e ∈ ls, LOk w e.v e.n e.m ∧ e.m < 256 ∧ e.n ≤ 140737488355328

theorem KOk.form {w : World} {v : Value} {n m : Nat} (h : KOk w v n m) : ∃ a c, v = .slice a n c ∧ ∀ k, k < n → ∃ g, a = some ⟨g, 0, none⟩ ∧ w.cell? ⟨g, k, none⟩ = some (.int .u8 (m : Int)) := by
  rcases h with ⟨c, h1, h2⟩ | ⟨g, c, cs, h1, h2, h3⟩
  · exact ⟨none, c, by rw [h1, h2], fun k hk => by omega⟩
  · exact ⟨_, c, h1, fun k hk => ⟨g, rfl, by rw [cell_of_row w g k _ _ _ h2]; exact h3 k hk⟩⟩

theorem LOk.form {w : World} {v : Value} {n m : Nat} (h : LOk w v n m) : ∃ a c, v = .slice a n c ∧ ∀ k, k < n → ∃ g gu, a = some ⟨g, 0, none⟩ ∧ w.cell? ⟨g, k, none⟩ = some (.slice (some ⟨gu, 0, none⟩) 2 2) ∧ w.cell? ⟨gu, 0, none⟩ = some (.int .u8 (m : Int)) ∧ w.cell? ⟨gu, 1, none⟩ = some (.int .u8 0) := by
  rcases h with ⟨c, h1, h2⟩ | ⟨g, c, cs, h1, h2, h3⟩
  · exact ⟨none, c, by rw [h1, h2], fun k hk => by omega⟩
  · refine ⟨_, c, h1, fun k hk => ?_⟩
    obtain ⟨u, q1, gu, q2, q3⟩ := h3 k hk
    exact ⟨g, gu, rfl, by rw [cell_of_row w g k _ _ _ h2, q1, q2], by rw [cell_of_row w gu 0 _ _ _ q3]; rfl, by rw [cell_of_row w gu 1 _ _ _ q3]; rfl⟩

set_option maxRecDepth 100000 in
set_option maxHeartbeats 4000000 in
theorem holds_any (hb B : Nat) (s : HS) (es : List Ent) (ls : List EntL) (w : World) (hH : HAt w hb s) (hO : Outs w B s.out s.marks es) (hL : Outers w B s.outer s.omarks ls) (he : es.length ≤ 1000000) (hl : ls.length ≤ 1000000) (h9 : s.lacks = .slice none 0 0) (h11 : s.objs = .slice none 0 0) :
    Calls Tryd.prog 32 #[.pointer (some ⟨hb, 0, none⟩)] w fun e w' => e = .returned (.bool true) ∧ ∃ nq, w' = w.drewN nq := by
  have hc5 : w.cell? ⟨hb, 5, none⟩ = some s.out := hH.cell 5
  have hc6 : w.cell? ⟨hb, 6, none⟩ = some s.marks := hH.cell 6
  have hc7 : w.cell? ⟨hb, 7, none⟩ = some s.outer := hH.cell 7
  have hc8 : w.cell? ⟨hb, 8, none⟩ = some s.omarks := hH.cell 8
  have hc9 : w.cell? ⟨hb, 9, none⟩ = some (.slice none 0 0) := by rw [hH.cell 9, ← h9]; rfl
  have hc11 : w.cell? ⟨hb, 11, none⟩ = some (.slice none 0 0) := by rw [hH.cell 11, ← h11]; rfl
  obtain ⟨oa, oc, hoa⟩ := own_len hO.own
  obtain ⟨ma, mc, hma⟩ := own_len hO.marks
  obtain ⟨pa, pc, hpa⟩ := own_len hL.own
  obtain ⟨qa, qc, hqa⟩ := own_len hL.marks
  rw [hoa] at hc5
  rw [hma] at hc6
  rw [hpa] at hc7
  rw [hqa] at hc8
  have HO : Hid (∀ i (hi : i < es.length), ∃ go gm, oa = some ⟨go, 0, none⟩ ∧ ma = some ⟨gm, 0, none⟩ ∧ w.cell? ⟨go, i, none⟩ = some es[i].v ∧ w.cell? ⟨gm, i, none⟩ = some (.int .i64 (es[i].m : Int))) := fun i hi => by
    obtain ⟨go, co, h1, _⟩ := hO.own.form (by omega)
    obtain ⟨gm, cm, h2, _⟩ := hO.marks.form (by omega)
    rw [hoa] at h1
    rw [hma] at h2
    simp only [Value.slice.injEq] at h1 h2
    refine ⟨go, gm, h1.1, h2.1, own_cell hO.own (by rw [hoa, h1.1]; rfl) (by simp [hi]), own_cell hO.marks (by rw [hma, h2.1]; rfl) (by simp [hi])⟩
  have HL : Hid (∀ i (hi : i < ls.length), ∃ go gm, pa = some ⟨go, 0, none⟩ ∧ qa = some ⟨gm, 0, none⟩ ∧ w.cell? ⟨go, i, none⟩ = some ls[i].v ∧ w.cell? ⟨gm, i, none⟩ = some (.int .i64 (ls[i].m : Int))) := fun i hi => by
    obtain ⟨go, co, h1, _⟩ := hL.own.form (by omega)
    obtain ⟨gm, cm, h2, _⟩ := hL.marks.form (by omega)
    rw [hpa] at h1
    rw [hqa] at h2
    simp only [Value.slice.injEq] at h1 h2
    refine ⟨go, gm, h1.1, h2.1, own_cell hL.own (by rw [hpa, h1.1]; rfl) (by simp [hi]), own_cell hL.marks (by rw [hqa, h2.1]; rfl) (by simp [hi])⟩
  have HE : Hid (∀ i (hi : i < es.length), KOk w es[i].v es[i].n es[i].m ∧ es[i].m < 250 ∧ es[i].n ≤ 140737488355328) := fun i hi => hO.each _ (List.getElem_mem hi)
  have HF : Hid (∀ i (hi : i < ls.length), LOk w ls[i].v ls[i].n ls[i].m ∧ ls[i].m < 256 ∧ ls[i].n ≤ 140737488355328) := fun i hi => hL.each _ (List.getElem_mem hi)
  clear hO hL hH h9 h11 hoa hma hpa hqa
  obtain ⟨ne, hne⟩ : ∃ x, x = es.length := ⟨_, rfl⟩
  obtain ⟨nl, hnl⟩ : ∃ x, x = ls.length := ⟨_, rfl⟩
  rw [← hne] at hc5 hc6 he
  rw [← hnl] at hc7 hc8 hl
  have HNE : Hid (ne = es.length) := hne
  have HNL : Hid (nl = ls.length) := hnl
  clear hne hnl
  go_enter Tryd.func32, Tryd.ntmps32
  go_wp2_with fail
  go_loopw [3] (fun t wr => ∃ (i nq : Nat), i ≤ ne ∧ t = .int .i64 (i : Int) ∧ wr = w.drewN nq) (fun t _ => ne - (intOf t).toNat)
  case atStart => exact ⟨0, 0, by omega, rfl, rfl⟩
  case round =>
    obtain ⟨i, nq, hi, rfl, rfl⟩ := hrel
    by_cases hlt : i < ne
    · have hlt' : i < es.length := by rw [← HNE.out]; exact hlt
      obtain ⟨go, gm, rfl, rfl, hgo, hgm⟩ := HO.out i hlt'
      obtain ⟨hK, hm, hnb⟩ := HE.out i hlt'
      obtain ⟨a, c, hv, hcell⟩ := hK.form
      rw [hv] at hgo
      generalize es[i].m = m at hgm hm hcell hK hv
      generalize es[i].n = n at hgo hcell hK hv hnb
      clear hv hK
      have HC : Hid (∀ k, k < n → ∃ g, a = some ⟨g, 0, none⟩ ∧ w.cell? ⟨g, k, none⟩ = some (.int .u8 (m : Int))) := hcell
      clear hcell
      have hin : (i : Int) < (ne : Int) := by omega
      go_wp2_with fail
      go_loopw [4] (fun t wr => ∃ (k nq : Nat), k ≤ n ∧ t = .int .i64 (k : Int) ∧ wr = w.drewN nq) (fun t _ => n - (intOf t).toNat)
      case atStart => exact ⟨0, nq, by omega, rfl, rfl⟩
      case round =>
        obtain ⟨k, nq2, hk, rfl, rfl⟩ := hrel
        by_cases hlt2 : k < n
        · obtain ⟨g, rfl, hg⟩ := HC.out k hlt2
          have hkn : (k : Int) < (n : Int) := by omega
          have hmm : ((m : Int) != (m : Int)) = false := by simp
          go_wp2_with fail
          go_quiet (fail)
          go_wp2_with fail
          refine ⟨?_, by simp [intOf]; omega⟩
          first
            | exact ⟨k + 1, _, by omega, by go_num, rfl⟩
            | ((repeat apply Exists.intro); exact ⟨⟨k + 1, _, by omega, by go_num, rfl⟩, rfl⟩)
        · obtain rfl : k = n := by omega
          go_wp2_with fail
          refine ⟨?_, by simp [intOf]; omega⟩
          first
            | exact ⟨i + 1, _, by omega, by go_num, rfl⟩
            | ((repeat apply Exists.intro); exact ⟨⟨i + 1, _, by omega, by go_num, rfl⟩, rfl⟩)
    · obtain rfl : i = ne := by omega
      go_wp2_with fail
      go_loopw [5] (fun t wr => ∃ (i nq : Nat), i ≤ nl ∧ t = .int .i64 (i : Int) ∧ wr = w.drewN nq) (fun t _ => nl - (intOf t).toNat)
      case atStart => exact ⟨0, nq, by omega, rfl, rfl⟩
      case round =>
        obtain ⟨j, nq3, hj, rfl, rfl⟩ := hrel
        by_cases hlt : j < nl
        · have hlt' : j < ls.length := by rw [← HNL.out]; exact hlt
          obtain ⟨go, gm, rfl, rfl, hgo, hgm⟩ := HL.out j hlt'
          obtain ⟨hK, hm, hnb⟩ := HF.out j hlt'
          obtain ⟨a, c, hv, hcell⟩ := hK.form
          rw [hv] at hgo
          generalize ls[j].m = m at hgm hm hcell hK hv
          generalize ls[j].n = n at hgo hcell hK hv hnb
          clear hv hK
          have HC : Hid (∀ k, k < n → ∃ g gu, a = some ⟨g, 0, none⟩ ∧ w.cell? ⟨g, k, none⟩ = some (.slice (some ⟨gu, 0, none⟩) 2 2) ∧ w.cell? ⟨gu, 0, none⟩ = some (.int .u8 (m : Int)) ∧ w.cell? ⟨gu, 1, none⟩ = some (.int .u8 0)) := hcell
          clear hcell
          have hin : (j : Int) < (nl : Int) := by omega
          go_wp2_with fail
          go_loopw [6] (fun t wr => ∃ (k nq : Nat), k ≤ n ∧ t = .int .i64 (k : Int) ∧ wr = w.drewN nq) (fun t _ => n - (intOf t).toNat)
          case atStart => exact ⟨0, nq3, by omega, rfl, rfl⟩
          case round =>
            obtain ⟨k, nq2, hk, rfl, rfl⟩ := hrel
            by_cases hlt2 : k < n
            · obtain ⟨g, gu, rfl, hg, hg0, hg1⟩ := HC.out k hlt2
              have hkn : (k : Int) < (n : Int) := by omega
              have hmm : ((m : Int) != (m : Int)) = false := by simp
              have hm0 : (0 : Int) ≤ (m : Int) := by omega
              have hm1 : (m : Int) < 256 := by omega
              go_wp2_with fail
              go_quiet (fail)
              go_wp2_with fail
              exact ⟨⟨k + 1, _, by omega, by go_num, rfl⟩, by simp [intOf]; omega⟩
            · obtain rfl : k = n := by omega
              go_wp2_with fail
              refine ⟨?_, by simp [intOf]; omega⟩
              first
                | exact ⟨j + 1, _, by omega, by go_num, rfl⟩
                | ((repeat apply Exists.intro); exact ⟨⟨j + 1, _, by omega, by go_num, rfl⟩, rfl⟩)
        · obtain rfl : j = nl := by omega
          go_wp2_with fail
          go_loopw [8] (fun t wr => t = .int .i64 0 ∧ wr = w.drewN nq3) (fun _ _ => 0)
          case atStart => exact ⟨rfl, rfl⟩
          case round =>
            obtain ⟨rfl, rfl⟩ := hrel
            go_wp2_with fail
            go_loopw [10] (fun t wr => t = .int .i64 0 ∧ wr = w.drewN nq3) (fun _ _ => 0)
            case atStart => exact ⟨rfl, rfl⟩
            case round =>
              obtain ⟨rfl, rfl⟩ := hrel
              go_wp2_with fail
              go_ret
              exact ⟨rfl, nq3, rfl⟩

end Go.Proofs.YtjabhnhejbhgjaaDoor

/- Symbol of the program over what was lent, Symbol of the document: one answer. -/
namespace Go.Proofs.YtjabhnhejbhgjaaDoor
open Go.RowKit

def lentRows (rs : List Raw) (gs : List Nat) (n : Nat) : List Row := (List.range n).map fun i => ⟨gat gs i, 0, (wat rs i).l.length + 2, (wat rs i).l⟩
theorem lentRows_length (rs : List Raw) (gs : List Nat) (n : Nat) : (lentRows rs gs n).length = n := by simp [lentRows]
theorem lentRows_at (rs : List Raw) (gs : List Nat) (n i : Nat) (hi : i < n) : rat (lentRows rs gs n) i = ⟨gat gs i, 0, (wat rs i).l.length + 2, (wat rs i).l⟩ := by simp [rat, lentRows, List.getD, hi]

theorem lentRows_even (rs : List Raw) (gs : List Nat) (n : Nat) (hr : rs.length = n) : evenB (lentRows rs gs n) = evenR rs := by
  cases h : evenR rs
  · cases h2 : evenB (lentRows rs gs n)
    · rfl
    · exfalso
      have : evenR rs = true := evenR_yes (fun i hi => by
        have h0 : 0 < n := by omega
        have := evenB_len h2 i (by rw [lentRows_length]; omega)
        rw [lentRows_at rs gs n i (by omega), lentRows_at rs gs n 0 h0] at this
        exact this)
      rw [h] at this; cases this
  · exact evenB_yes (fun i hi => by
      rw [lentRows_length] at hi
      rw [lentRows_at rs gs n i hi, lentRows_at rs gs n 0 (by omega)]
      exact evenR_len h i (by omega))

theorem Listed.rsIn {w w' : World} {hb : Nat} {s : HS} {rs : List Raw} {n : Nat} {gs : List Nat} {v vr : Value} (h : Listed w w' hb s rs n gs v vr) : Rs w' w.heap.size 0 (lentRows rs gs n) := by
  intro i hi
  rw [lentRows_length] at hi
  rw [lentRows_at rs gs n i hi]
  refine ⟨?_, ?_⟩
  · rw [Nat.zero_add, cell_of_row w' _ i _ _ _ h.list]
    exact lendCells_at rs gs n n i hi hi
  · have := (h.lent.blk i hi).bsN (wat rs i).l.length
    rw [marked_take] at this
    exact this

theorem sym_same (rs : List Raw) (gs : List Nat) (n m : Nat) (p : Gf.F) : symOf (front n) (lentRows rs gs n) p m = symR (frontZ n) rs n p m := by
  apply list_ext
  · rw [symOf_length, symR_length]
  · intro i hi
    rw [symOf_length] at hi
    rw [symOf_at _ _ _ _ _ hi, symR_at _ _ _ _ _ _ hi, front_length]
    exact Gf.lag_congr (fun j hj => by rw [front_at n j hj, frontZ_at n j hj]; rfl) (fun j hj => by rw [lentRows_at rs gs n j hj]) p

def goodS (rs : List Raw) (n : Nat) (z : Int) : Bool := cntB (n : Int) && evenR rs && plcB z
def ansL (rs : List Raw) (n : Nat) (z : Int) : List Gf.F := if goodS rs n z = true then symR (frontZ n) rs n (byteOf z) (wat rs 0).l.length else []
def ansC (rs : List Raw) (n : Nat) (z : Int) : Nat := if goodS rs n z = true then 0 else 2

theorem blk_own {w : World} {B g : Nat} {l : List Gf.F} (h : Blk w g l) (hB : B ≤ g) (hm : l.length ≤ maxLen) : w.ownsRow B 5 1 (.slice (some ⟨g, 0, none⟩) l.length l.length) l.length (encL l) :=
  ⟨by simp [encL], .inr ⟨g, l.length, enc l, rfl, hB, h, Nat.le_refl _, hm, by simp [enc], by rw [Nat.mul_one]; exact List.take_of_length_le (by simp [enc])⟩⟩

theorem progSym (A : Nat → Addr) (B0 sb sc n : Nat) (rs : List Raw) (gs : List Nat) (z : Int) (w : World) (hE : Errs A B0 w) (hr : rs.length = n) (hn : n ≤ 1048576) (hm : ∀ i, i < n → (wat rs i).l.length ≤ 140737488355000) (hR : Rs w sb 0 (lentRows rs gs n)) (hlt : ∀ i, i < n → gat gs i < w.heap.size) :
    Calls Tryd.prog 9 #[.slice (some ⟨sb, 0, none⟩) n sc, .int .i64 z] w fun e w' =>
      ∃ v, e = .returned (.tuple #[v, E A (ansC rs n z)]) ∧ w'.ownsRow w.heap.size 5 1 v (ansL rs n z).length (encL (ansL rs n z)) ∧ Below w.heap.size w w' := by
  cases hg : goodS rs n z
  · have hbad : cntB (n : Int) = false ∨ evenB (lentRows rs gs n) = false ∨ plcB z = false := by
      rw [lentRows_even rs gs n hr]
      unfold goodS at hg
      cases h1 : cntB (n : Int) <;> cases h2 : evenR rs <;> cases h3 : plcB z <;> simp_all
    have hcell : w.cell? ⟨1, 0, none⟩ = some (.iface 164 (.pointer (some (A 1)))) := hE.cell 1 (by omega)
    refine (symbol_no sb 0 sc n (lentRows rs gs n) z _ _ w (lentRows_length ..) (by omega) hR hcell hbad).mono ?_
    rintro e w' ⟨rfl, nq, rfl⟩
    refine ⟨.slice none 0 0, ?_, ?_, ⟨rfl, rfl, rfl, Nat.le_refl _, fun _ _ => rfl⟩⟩
    · simp [ansC, hg, E]
    · simp only [ansL, hg]
      exact World.ownsRow_nil ..
  · have h3 : cntB (n : Int) = true ∧ evenR rs = true ∧ plcB z = true := by
      unfold goodS at hg
      cases h1 : cntB (n : Int) <;> cases h2 : evenR rs <;> cases h3 : plcB z <;> simp_all
    obtain ⟨h1, h2, h3⟩ := h3
    have hc := cntB_range h1
    have hm0 := hm 0 (by omega)
    refine (symbol_ok sb 0 sc (wat rs 0).l.length n (lentRows rs gs n) z w (lentRows_length ..) h1 (by rw [lentRows_even rs gs n hr]; exact h2) h3 (by rw [lentRows_at rs gs n 0 (by omega)]) (by omega) hR (fun i hi => by
      rw [lentRows_length] at hi
      rw [lentRows_at rs gs n i hi]; exact hlt i hi)).mono ?_
    rintro e w' ⟨rfl, hG, hb, _⟩
    rw [sym_same] at hG
    have hL : ansL rs n z = symR (frontZ n) rs n (byteOf z) (wat rs 0).l.length := by simp [ansL, hg]
    refine ⟨.slice (some ⟨w.heap.size + 1, 0, none⟩) (wat rs 0).l.length (wat rs 0).l.length, ?_, ?_, hb⟩
    · simp [ansC, hg, E]
    · rw [hL]
      have := blk_own hG (B := w.heap.size) (by omega) (by rw [symR_length]; unfold maxLen; omega)
      rw [symR_length] at this ⊢
      exact this

theorem refSym (al : Option Addr) (lb lo lc n : Nat) (rs : List Raw) (z : Int) (w : World) (hr : rs.length = n) (hn : n ≤ 1048576) (hm : ∀ i, i < n → (wat rs i).l.length ≤ 140737488355000) (hal : 0 < n → al = some ⟨lb, lo, none⟩) (hW : Ws w lb lo rs) :
    Calls Tryd.prog 29 #[.slice al n lc, .int .i64 z] w fun e w' =>
      ∃ v, e = .returned (.tuple #[v, .int .i64 (ansC rs n z : Int)]) ∧ w'.ownsRow w.heap.size 5 1 v (ansL rs n z).length (encL (ansL rs n z)) ∧ Below w.heap.size w w' := by
  cases hg : goodS rs n z
  · have hbad : ¬ (1 ≤ n ∧ n ≤ 8) ∨ evenR rs = false ∨ ¬ (0 ≤ z ∧ z ≤ 255) := by
      by_cases h1 : 1 ≤ n ∧ n ≤ 8
      · by_cases h3 : 0 ≤ z ∧ z ≤ 255
        · right; left
          have c1 : cntB (n : Int) = true := cntB_yes (by omega)
          have c3 : plcB z = true := plcB_yes h3
          unfold goodS at hg
          rw [c1, c3] at hg
          simpa using hg
        · exact .inr (.inr h3)
      · exact .inl h1
    refine (refSymbol_no al lb lo lc n rs z w hr (by omega) hal hW hbad).mono ?_
    rintro e w' ⟨rfl, hb⟩
    refine ⟨.slice none 0 0, by simp [ansC, hg], ?_, hb⟩
    simp only [ansL, hg]
    exact World.ownsRow_nil ..
  · have h3 : cntB (n : Int) = true ∧ evenR rs = true ∧ plcB z = true := by
      unfold goodS at hg
      cases h1 : cntB (n : Int) <;> cases h2 : evenR rs <;> cases h3 : plcB z <;> simp_all
    obtain ⟨h1, h2, h3⟩ := h3
    have hc := cntB_range h1
    have hp := plcB_range h3
    obtain rfl := hal (by omega)
    refine (refSymbol_ok lb lo lc n (wat rs 0).l.length rs z w hr (by omega) h2 rfl hp (hm 0 (by omega)) hW).mono ?_
    rintro e w' ⟨v, rfl, ho, hb⟩
    have hL : ansL rs n z = symR (frontZ n) rs n (byteOf z) (wat rs 0).l.length := by simp [ansL, hg]
    refine ⟨v, by simp [ansC, hg], ?_, hb⟩
    rw [hL, symR_length]
    exact ho

end Go.Proofs.YtjabhnhejbhgjaaDoor

/- Hands.symbol. -/
namespace Go.Proofs.YtjabhnhejbhgjaaDoor
open Go.RowKit

theorem LOk.but {w w' : World} {v : Value} {n m : Nat} {S : Nat → Prop} (h : LOk w v n m) (hb : But S w w') (hn : ∀ g, v.ownBlock = some g → ¬ S g) (h8 : ∀ g cs, w.heap[g]? = some (.cells cs 5 (0, 0)) → ¬ S g) : LOk w' v n m := by
  rcases h with h | ⟨g, c, cs, h1, h2, h3⟩
  · exact .inl h
  · refine .inr ⟨g, c, cs, h1, by rw [hb.block g (Array.getElem?_eq_some_iff.1 h2).1 (hn g (by rw [h1]; rfl))]; exact h2, fun j hj => ?_⟩
    obtain ⟨u, q1, gu, q2, q3⟩ := h3 j hj
    exact ⟨u, q1, gu, q2, by rw [hb.block gu (Array.getElem?_eq_some_iff.1 q3).1 (h8 gu _ q3)]; exact q3⟩

theorem Outers.but {w w' : World} {B : Nat} {vo vm : Value} {ls : List EntL} {S : Nat → Prop} (h : Outers w B vo vm ls) (hb : But S w w') (h1 : ∀ g, vo.ownBlock = some g → ¬ S g) (h2 : ∀ g, vm.ownBlock = some g → ¬ S g) (h3 : ∀ e ∈ ls, ∀ g, e.v.ownBlock = some g → ¬ S g)
    (h8 : ∀ g cs, w.heap[g]? = some (.cells cs 5 (0, 0)) → ¬ S g) : Outers w' B vo vm ls :=
  ⟨hb.own h.own h1, hb.own h.marks h2, fun e he => ⟨(h.each e he).1.but hb (h3 e he) h8, (h.each e he).2⟩⟩

theorem LOk.lt {w : World} {v : Value} {n m g : Nat} (h : LOk w v n m) (hg : v.ownBlock = some g) : g < w.heap.size ∧ ∃ cs, w.heap[g]? = some (.cells cs 33 (0, 0)) := by
  rcases h with ⟨c, h1, _⟩ | ⟨g', c, cs, h1, h2, h3⟩
  · rw [h1] at hg; simp [Value.ownBlock] at hg
  · rw [h1] at hg
    simp [Value.ownBlock] at hg
    subst hg
    exact ⟨(Array.getElem?_eq_some_iff.1 h2).1, cs, h2⟩

/-- Hands between two calls. -/
structure Inv (A : Nat → Addr) (B0 : Nat) (w : World) (hb N : Nat) (s : HS) (es : List Ent) (ls : List EntL) : Prop where
  errs : Errs A B0 w
  low : B0 ≤ hb
  hands : HAt w hb s
  num : s.n = (N : Int)
  in0 : s.in_ = .slice none 0 0
  rows0 : s.rows = .slice none 0 0
  ints0 : s.ints = .slice none 0 0
  want0 : s.iwant = .slice none 0 0
  outs : Outs w hb s.out s.marks es
  outers : Outers w hb s.outer s.omarks ls
  lacks0 : s.lacks = .slice none 0 0
  objs0 : s.objs = .slice none 0 0
  apartM : ∀ g, s.marks.ownBlock = some g → s.omarks.ownBlock ≠ some g
  apartL : ∀ e ∈ ls, ∀ g, e.v.ownBlock = some g → s.out.ownBlock ≠ some g

theorem Inv.drewN {A : Nat → Addr} {B0 : Nat} {w : World} {hb N : Nat} {s : HS} {es : List Ent} {ls : List EntL} (h : Inv A B0 w hb N s es ls) (nq : Nat) : Inv A B0 (w.drewN nq) hb N s es ls :=
  ⟨h.errs.below ⟨rfl, rfl, rfl, Nat.le_refl _, fun _ _ => rfl⟩, h.low, h.hands, h.num, h.in0, h.rows0, h.ints0, h.want0, ⟨h.outs.own, h.outs.marks, h.outs.each⟩, ⟨h.outers.own, h.outers.marks, h.outers.each⟩, h.lacks0, h.objs0, h.apartM, h.apartL⟩

/-- What was kept before stays, where only Hands and its two lists turn. -/
theorem Inv.outersKept {A : Nat → Addr} {B0 : Nat} {w w' : World} {hb N : Nat} {s : HS} {es : List Ent} {ls : List EntL} (h : Inv A B0 w hb N s es ls) (hb' : But (fun b => b = hb ∨ s.out.ownBlock = some b ∨ s.marks.ownBlock = some b) w w') : Outers w' hb s.outer s.omarks ls := by
  refine h.outers.but hb' (fun g hg q => ?_) (fun g hg q => ?_) (fun e he g hg q => ?_) (fun g cs hc q => ?_)
  · rcases q with q | q | q
    · exact own_ne h.outers.own hg h.hands (by decide) q
    · exact own_own_ne h.outers.own h.outs.own (by decide) g hg q
    · exact own_own_ne h.outers.own h.outs.marks (by decide) g hg q
  · rcases q with q | q | q
    · exact own_ne h.outers.marks hg h.hands (by decide) q
    · exact own_own_ne h.outers.marks h.outs.own (by decide) g hg q
    · exact h.apartM g q hg
  · obtain ⟨_, cs, hc⟩ := (h.outers.each e he).1.lt hg
    rcases q with q | q | q
    · have hh := h.hands
      unfold HAt at hh
      rw [q, hh] at hc
      simp only [Option.some.injEq, Obj.cells.injEq] at hc
      exact absurd hc.2.1 (by decide)
    · exact h.apartL e he g hg q
    · exact own_ne h.outs.marks q hc (by decide) rfl
  · rcases q with q | q | q
    · have hh := h.hands
      unfold HAt at hh
      rw [q, hh] at hc
      simp only [Option.some.injEq, Obj.cells.injEq] at hc
      exact absurd hc.2.1 (by decide)
    · exact own_ne h.outs.own q hc (by decide) rfl
    · exact own_ne h.outs.marks q hc (by decide) rfl

/-- A list of rows of the caller, made ahead of Hands. -/
structure Came (w : World) (hb : Nat) (al : Option Addr) (lb lo n : Nat) (rs : List Raw) : Prop where
  len : rs.length = n
  few : n ≤ 1048576
  small : ∀ i, i < n → (wat rs i).l.length ≤ 14073748835000
  adr : 0 < n → al = some ⟨lb, lo, none⟩
  ws : Ws w lb lo rs
  lbLow : lb < hb
  rowLow : ∀ i, i < n → 0 < (wat rs i).l.length → ∀ g, (wat rs i).v.ownBlock = some g → g < hb

theorem Came.but {w w' : World} {hb lb lo n : Nat} {al : Option Addr} {rs : List Raw} {S : Nat → Prop} (h : Came w hb al lb lo n rs) (hb' : But S w w') (hS : ∀ b, S b → hb ≤ b) : Came w' hb al lb lo n rs :=
  ⟨h.len, h.few, h.small, h.adr, h.ws.but hb' (fun q => by have := hS _ q; have := h.lbLow; omega) (fun i hi h0 g hg q => by have := hS _ q; have := h.rowLow i (by rw [← h.len]; exact hi) h0 g hg; omega), h.lbLow, h.rowLow⟩

theorem told_code (A : Nat → Addr) (B0 c : Nat) (hc : c = 0 ∨ c = 2) (w : World) (hE : Errs A B0 w) :
    Calls Tryd.prog 30 #[E A c] w fun e w' => e = .returned (.agg #[.int .i64 (c : Int), .int .i64 (-1)]) ∧ Below w.heap.size w w' := by
  rcases hc with rfl | rfl
  · exact told_nil w
  · exact told_err A B0 1 (by omega) w hE

theorem own_raw {w : World} {B n : Nat} {v : Value} {l : List Gf.F} (h : w.ownsRow B 5 1 v n (encL l)) (hl : l.length = n) : RawIn w ⟨v, l⟩ := by
  obtain ⟨a, c, hv⟩ := own_len h
  refine ⟨a, c, by rw [hl]; exact hv, fun h0 => ?_⟩
  obtain ⟨g, c', hv', _⟩ := h.form (by rw [← hl]; exact h0)
  rw [hv] at hv'
  simp only [Value.slice.injEq] at hv'
  refine ⟨g, 0, hv'.1, ?_⟩
  rw [hv, hv'.1] at h
  exact own_bs h hl

theorem HS.nil4 (s : HS) (h1 : s.in_ = .slice none 0 0) (h2 : s.rows = .slice none 0 0) (h3 : s.ints = .slice none 0 0) (h4 : s.iwant = .slice none 0 0) : ({ s with in_ := .slice none 0 0, rows := .slice none 0 0, ints := .slice none 0 0, iwant := .slice none 0 0 } : HS) = s := by
  cases s; cases h1; cases h2; cases h3; cases h4; rfl

theorem ansC_code (rs : List Raw) (n : Nat) (z : Int) : ansC rs n z = 0 ∨ ansC rs n z = 2 := by
  unfold ansC; split
  · exact .inl rfl
  · exact .inr rfl

theorem ansL_small {rs : List Raw} {n : Nat} {z : Int} (h : ∀ i, i < n → (wat rs i).l.length ≤ 14073748835000) : (ansL rs n z).length ≤ 14073748835000 := by
  unfold ansL
  split
  · rename_i hg
    rw [symR_length]
    refine h 0 ?_
    unfold goodS at hg
    cases h1 : cntB (n : Int)
    · rw [h1] at hg; simp at hg
    · have := cntB_range h1; omega
  · simp

set_option maxRecDepth 100000 in
set_option maxHeartbeats 2000000 in
theorem symbol_any (A : Nat → Addr) (B0 hb N lb lo lc n : Nat) (al : Option Addr) (rs : List Raw) (z : Int) (s : HS) (es : List Ent) (ls : List EntL) (w : World) (hI : Inv A B0 w hb N s es ls) (hC : Came w hb al lb lo n rs) (hN : N ≤ 1000000000) (hes : es.length ≤ 999990) (hls : ls.length ≤ 1000000) :
    Calls Tryd.prog 12 #[.pointer (some ⟨hb, 0, none⟩), .slice al n lc, .int .i64 z] w fun e w' =>
      e = .returned (.bool true) ∧ ∃ s' es', Inv A B0 w' hb (N + 1) s' (es ++ es') ls ∧ es'.length = 4 ∧ Below hb w w' := by
  have hbl := hI.hands.lt
  go_enter Tryd.func12, Tryd.ntmps12
  go_wp2_with fail
  refine (list_any al hb lb lo lc n s rs w hC.len hC.few (fun i hi => by have := hC.small i hi; omega) hC.adr hC.ws (by have := hC.lbLow; omega) (fun i hi h0 q => by have := hC.rowLow i hi h0 hb q; omega) hI.hands hI.in0 hI.rows0).mono ?_
  rintro e w1 ⟨gs, v1, vr1, rfl, hL⟩
  have hE1 : Errs A B0 w1 := hI.errs.below (hL.but.toBelow hI.errs.size (fun k hk q => by have := hI.low; omega))
  have hgl : ∀ i, i < n → gat gs i < w1.heap.size := fun i hi => (hL.lent.blk i hi).lt
  have hs1 := hL.but.size
  go_wp2_with fail
  refine (progSym A B0 w.heap.size (n + 2) n rs gs z w1 hE1 hC.len hC.few (fun i hi => by have := hC.small i hi; omega) hL.rsIn hgl).mono ?_
  rintro e w2 ⟨va, rfl, hva, hb2⟩
  have hs2 := hb2.size
  go_wp2_with fail
  refine (back_any hb w.heap.size w1.heap.size n 1 0 w.heap.size 0 0 lb lo lc 0 0 0 al none { s with in_ := v1, rows := vr1 } rs gs [] w2 hC.few hbl (hL.hands.kept (hb2.block hb (by omega))) ?b1 hgl ?b2 ?b3 ?b4).mono ?_
  case b1 => exact hL.lent.kept (S := fun _ => False) (Below.but hb2 _ (fun i hi h => absurd hi h)) (fun _ _ q => q) (fun _ _ q => q)
  case b2 => exact fun i hi => ⟨(hC.ws i (by rw [hC.len]; exact hi)).2.but (hL.but.below hb2 (fun i hi h => absurd (Nat.lt_of_lt_of_le hi hs1) h)) (fun h0 g hg q => by have := hC.rowLow i hi h0 g hg; omega), by have := hC.small i hi; omega, fun h0 g hg => by have := hC.rowLow i hi h0 g hg; omega⟩
  case b3 =>
    have hX : w2.heap[w.heap.size]? = some (.cells (lendCells rs gs n n) 33 (0, 0)) := by rw [hb2.block _ (Array.getElem?_eq_some_iff.1 hL.list).1]; exact hL.list
    have hC2 := hC.but (hL.but.below hb2 (fun i hi h => absurd (Nat.lt_of_lt_of_le hi hs1) h)) (fun b q => by omega)
    exact ⟨Nat.le_refl _, own_of_block hL.rows (fun g hg => hb2.block g (hL.rows.lt g hg).2), fun _ => ⟨hX, Nat.le_refl _, (Array.getElem?_eq_some_iff.1 hL.list).1, by have := hC.lbLow; omega, hC.adr, fun i hi => (hC2.ws i (by rw [hC.len]; exact hi)).1⟩⟩
  case b4 => exact ⟨by omega, by show World.ownsRow _ _ _ _ s.ints _ _; rw [hI.ints0]; exact World.ownsRow_nil .., by show World.ownsRow _ _ _ _ s.iwant _ _; rw [hI.want0]; exact World.ownsRow_nil .., fun h => absurd h (by omega)⟩
  rintro e w3 ⟨rfl, hH3, hb3⟩
  have e4 := HS.nil4 s hI.in0 hI.rows0 hI.ints0 hI.want0
  have hH3' : HAt w3 hb s := by rw [← e4]; exact hH3
  have hbut2 : But (fun b => b = hb) w w2 := hL.but.below hb2 (fun i hi h => absurd (Nat.lt_of_lt_of_le hi hs1) h)
  have hbut3 : But (fun b => b = hb) w w3 := hbut2.then hb3 (fun b hlt q => by rcases q with q | q; exact q; omega)
  have hs3 := hb3.size
  have hva3 : w3.ownsRow w1.heap.size 5 1 va (ansL rs n z).length (encL (ansL rs n z)) := hb3.own hva (fun g hg q => by have := (hva.lt g hg).1; omega)
  have hC3 := hC.but hbut3 (fun b q => by omega)
  clear hH3 e4
  go_wp2_with fail
  refine (refSym al lb lo lc n rs z w3 hC.len hC.few (fun i hi => by have := hC.small i hi; omega) hC.adr hC3.ws).mono ?_
  rintro e w4 ⟨vw, rfl, hvw, hb4⟩
  have hs4 := hb4.size
  have hbut4 : But (fun b => b = hb) w w4 := hbut3.below hb4 (fun i hi h => absurd (Nat.lt_of_lt_of_le hi hbut3.size) h)
  have hva4 : w4.ownsRow w1.heap.size 5 1 va (ansL rs n z).length (encL (ansL rs n z)) := own_of_block hva3 (fun g hg => hb4.block g (hva3.lt g hg).2)
  have hE4 : Errs A B0 w4 := hI.errs.below (hbut4.toBelow hI.errs.size (fun k hk q => by have := hI.low; omega))
  have hq1 : (convert 33 9 va).run Tryd.prog w4 = .ok (.string (str (ansL rs n z))) w4 := (own_raw hva4 rfl).conv 0
  have hq2 : (convert 33 9 vw).run Tryd.prog w4 = .ok (.string (str (ansL rs n z))) w4 := (own_raw hvw rfl).conv 0
  have hss : ((str (ansL rs n z)).toList == (str (ansL rs n z)).toList) = true := by rw [beq_iff_eq]
  have hcode := ansC_code rs n z
  have hlenL := ansL_small (z := z) hC.small
  generalize hLL : ansL rs n z = L at *
  generalize hcc : ansC rs n z = c at *
  clear hLL hcc
  go_wp2_with fail
  refine (told_code A B0 c hcode _ hE4).mono ?_
  rintro e w5 ⟨rfl, hb5⟩
  have hs5 := hb5.size
  go_wp2_with fail
  have hbut5 : But (fun b => b = hb) w w5 := hbut4.below hb5 (fun i hi h => absurd (Nat.lt_of_lt_of_le hi hbut4.size) h)
  have hsz5 := hbut5.size
  have hH5 : HAt w5 hb s := (hH3'.kept (hb4.block hb hH3'.lt)).kept (hb5.block hb (Nat.lt_of_lt_of_le hH3'.lt hs4))
  have hO5 : Outs w5 hb s.out s.marks es := hI.outs.but hbut5 (fun g hg q => own_ne hI.outs.own hg hI.hands (by decide) q) (fun g hg q => own_ne hI.outs.marks hg hI.hands (by decide) q) (fun e he g hg q => (hI.outs.each e he).1.ne_hands hI.hands g hg q)
  have hva5 : w5.ownsRow w1.heap.size 5 1 va L.length (encL L) := own_of_block hva4 (fun g hg => hb5.block g (hva4.lt g hg).2)
  refine (keep_any hb hb w1.heap.size N L.length s es va (encL L) w5 hI.num hN hH5 hO5 (by omega) (by omega) (by omega) hva5 (by omega) (fun e he g hg q => by
    have h1 := ((hI.outs.each e he).1.lt q).1
    have h2 := (hva5.lt g hg).1
    omega)).mono ?_
  rintro e w6 ⟨rfl, es', vo, vm, hK⟩
  have hbut6 : But (fun b => b = hb ∨ s.out.ownBlock = some b ∨ s.marks.ownBlock = some b) w w6 := (hbut5.wide (fun b _ q => .inl q)).then hK.but (fun b hlt q => by
    rcases q with q | q | q | q
    · exact .inl q
    · exact .inr (.inl q)
    · exact .inr (.inr q)
    · have := (hva5.lt b q).1; omega)
  have hhigh : ∀ k, k < hb → ¬ (k = hb ∨ s.out.ownBlock = some k ∨ s.marks.ownBlock = some k) := fun k hk q => by
    rcases q with q | q | q
    · omega
    · have := (hI.outs.own.lt k q).1; omega
    · have := (hI.outs.marks.lt k q).1; omega
  have hlow : Below hb w w6 := hbut6.toBelow (by omega) hhigh
  have hI6 : Inv A B0 w6 hb (N + 1) { s with n := (N : Int) + 1, out := vo, marks := vm } (es ++ es') ls :=
    ⟨hI.errs.below (hlow.mono hI.low), hI.low, hK.hands, by show (N : Int) + 1 = _; omega, hI.in0, hI.rows0, hI.ints0, hI.want0, hK.outs, hI.outersKept hbut6, hI.lacks0, hI.objs0, fun g hg q => by
      rcases hK.marksAt g hg with p | p
      · exact hI.apartM g p q
      · have := (hI.outers.marks.lt g q).2; omega, fun e he g hg q => by
      rcases hK.outAt g q with p | p
      · exact hI.apartL e he g hg p
      · have := ((hI.outers.each e he).1.lt hg).1; omega⟩
  have hfour := hK.four
  clear hK
  go_wp2_with fail
  refine (holds_any hb hb _ (es ++ es') ls w6 hI6.hands hI6.outs hI6.outers (by rw [List.length_append]; omega) hls hI6.lacks0 hI6.objs0).mono ?_
  rintro e w7 ⟨rfl, nq, rfl⟩
  go_wp2_with fail
  go_ret
  exact ⟨rfl, _, es', hI6.drewN nq, hfour, hlow.trans ⟨rfl, rfl, rfl, Nat.le_refl _, fun _ _ => rfl⟩⟩

end Go.Proofs.YtjabhnhejbhgjaaDoor

/- Lists that came out and were kept. -/
namespace Go.Proofs.YtjabhnhejbhgjaaDoor
open Go.RowKit

theorem TwoB.but {w w' : World} {u : Value} {m : Nat} {S : Nat → Prop} (h : TwoB w u m) (hb : But S w w') (h8 : ∀ g cs, w.heap[g]? = some (.cells cs 5 (0, 0)) → ¬ S g) : TwoB w' u m := by
  obtain ⟨g, h1, h2⟩ := h
  exact ⟨g, h1, by rw [hb.block g (Array.getElem?_eq_some_iff.1 h2).1 (h8 g _ h2)]; exact h2⟩

theorem own_lok {w : World} {B n m : Nat} {v : Value} {us : List Value} (h : w.ownsRow B 33 1 v n us) (hu : ∀ u ∈ us, TwoB w u m) : LOk w v n m := by
  have hl : us.length = n := by simpa using h.1
  rcases h.2 with ⟨h1, h2⟩ | ⟨g, cap, cur, h1, _, h2, h3, _, h4, h5⟩
  · exact .inl ⟨0, h1, h2⟩
  · refine .inr ⟨g, cap, cur, h1, h2, fun j hj => ?_⟩
    rw [Nat.mul_one] at h5
    have h6 : (cur.toList.take n)[j]? = some us[j] := by rw [h5]; simp [hl, hj]
    rw [List.getElem?_take, if_pos hj] at h6
    exact ⟨us[j], by simpa using h6, hu _ (List.getElem_mem _)⟩

theorem own_lok_less {w : World} {B n k m g c : Nat} {v : Value} {us : List Value} (h : w.ownsRow B 33 1 v n us) (hu : ∀ u ∈ us, TwoB w u m) (hg : v.ownBlock = some g) (hk : k ≤ n) : LOk w (.slice (some ⟨g, 0, none⟩) k c) k m := by
  rcases own_lok h hu with ⟨c', h1, _⟩ | ⟨g', c', cs, h1, h2, h3⟩
  · rw [h1] at hg; simp [Value.ownBlock] at hg
  · rw [h1] at hg
    simp [Value.ownBlock] at hg
    subst hg
    exact .inr ⟨g', c, cs, rfl, h2, fun j hj => h3 j (by omega)⟩

theorem LOk.kept {w w' : World} {v : Value} {n m : Nat} (h : LOk w v n m) (hk : ∀ g, g < w.heap.size → w'.heap[g]? = w.heap[g]?) : LOk w' v n m := by
  rcases h with h | ⟨g, c, cs, h1, h2, h3⟩
  · exact .inl h
  · refine .inr ⟨g, c, cs, h1, by rw [hk g (Array.getElem?_eq_some_iff.1 h2).1]; exact h2, fun j hj => ?_⟩
    obtain ⟨u, q1, gu, q2, q3⟩ := h3 j hj
    exact ⟨u, q1, gu, q2, by rw [hk gu (Array.getElem?_eq_some_iff.1 q3).1]; exact q3⟩

theorem HAt.ne_block {w : World} {hb g : Nat} {s : HS} {cs : Array Value} {t : TypeId} {fr : Nat × Nat} (h : HAt w hb s) (hg : w.heap[g]? = some (.cells cs t fr)) (hne : t ≠ 43) : g ≠ hb := by
  intro q
  unfold HAt at h
  rw [q, h] at hg
  simp only [Option.some.injEq, Obj.cells.injEq] at hg
  exact hne hg.2.1.symm

/-- Where keepList's last loop stands. -/
structure KL (w wr : World) (hb Bv n M : Nat) (s : HS) (es : List Ent) (v lv vo vm : Value) (lo lm : List EntL) (k : Nat) : Prop where
  hands : HAt wr hb { s with outer := vo, omarks := vm }
  own : wr.ownsRow hb 31 1 vo lo.length (lo.map (·.v))
  marks : wr.ownsRow hb 3 1 vm lm.length (lm.map fun e => .int .i64 (e.m : Int))
  each : ∀ e ∈ lo, LOk wr e.v e.n e.m ∧ e.m < 256 ∧ e.n ≤ 140737488355328
  row : ∃ us, wr.ownsRow Bv 33 1 lv (n + k) us ∧ ∀ u ∈ us, TwoB wr u M
  outs : Outs wr hb s.out s.marks es
  outAt : ∀ b, vo.ownBlock = some b → s.outer.ownBlock = some b ∨ w.heap.size ≤ b
  marksAt : ∀ b, vm.ownBlock = some b → s.omarks.ownBlock = some b ∨ w.heap.size ≤ b
  lvAt : ∀ b, lv.ownBlock = some b → v.ownBlock = some b ∨ w.heap.size ≤ b
  same : ∀ e ∈ lo, ∀ g, e.v.ownBlock = some g → lv.ownBlock = some g → e.m = M ∧ e.n ≤ n + k
  rowNe : ∀ g, lv.ownBlock = some g → s.out.ownBlock ≠ some g
  apartL : ∀ e ∈ lo, ∀ g, e.v.ownBlock = some g → s.out.ownBlock ≠ some g
  apartM : ∀ g, s.marks.ownBlock = some g → vm.ownBlock ≠ some g
  but : But (fun b => b = hb ∨ s.outer.ownBlock = some b ∨ s.omarks.ownBlock = some b ∨ v.ownBlock = some b) w wr

theorem KL.pushOut {w wr w2 : World} {hb Bv n M : Nat} {s : HS} {es : List Ent} {v lv vo vm vo' : Value} {lo lm : List EntL} {k : Nat} (h : KL w wr hb Bv n M s es v lv vo vm lo lm k) (hM : M < 256) (hnk : n + k ≤ 140737488355328)
    (hb2 : But (fun b => vo.ownBlock = some b) wr w2) (ho2 : w2.ownsRow hb 31 1 vo' (lo.length + 1) (lo.map (·.v) ++ [lv])) (hat : ∀ b, vo'.ownBlock = some b → vo.ownBlock = some b ∨ wr.heap.size ≤ b) :
    KL w (w2.setCell ⟨hb, 7, none⟩ vo') hb Bv n M s es v lv vo' vm (lo ++ [⟨lv, n + k, M⟩]) lm k := by
  have hs := h.but.size
  have hvo : ∀ b, vo.ownBlock = some b → b ≠ hb := fun b hq => own_ne h.own hq h.hands (by decide)
  have hb3 : But (fun b => vo.ownBlock = some b ∨ b = hb) wr (w2.setCell ⟨hb, 7, none⟩ vo') := (hb2.wide (fun _ _ q => .inl q)).setCell (.inl (.inr rfl)) _
  have hH2 : HAt w2 hb { s with outer := vo, omarks := vm } := h.hands.kept (hb2.block hb h.hands.lt (fun q => hvo hb q rfl))
  have far : ∀ t, t ≠ 43 → 31 ≠ t → ∀ g cs, wr.heap[g]? = some (.cells cs t (0, 0)) → ¬ (vo.ownBlock = some g ∨ g = hb) := fun t h1 h2 g cs hc q => by
    rcases q with q | q
    · exact own_ne h.own q hc h2 rfl
    · exact h.hands.ne_block hc h1 q
  have farO : ∀ {B m sz : Nat} {t : TypeId} {u : Value} {xs : List Value}, wr.ownsRow B t sz u m xs → t ≠ 43 → 31 ≠ t → ∀ g, u.ownBlock = some g → ¬ (vo.ownBlock = some g ∨ g = hb) := fun hu h1 h2 g hg => by
    obtain ⟨cur, hc⟩ := own_block hu hg
    exact far _ h1 h2 g cur hc
  obtain ⟨us, hr1, hr2⟩ := h.row
  have hrow1 := hb3.own hr1 (farO hr1 (by decide) (by decide))
  have hrow2 : ∀ u ∈ us, TwoB (w2.setCell ⟨hb, 7, none⟩ vo') u M := fun u hu => (hr2 u hu).but hb3 (far _ (by decide) (by decide))
  refine ⟨hH2.set7 _, ?_, hb3.own h.marks (farO h.marks (by decide) (by decide)), fun e he => ?_, ⟨us, hrow1, hrow2⟩, h.outs.but hb3 (farO h.outs.own (by decide) (by decide)) (farO h.outs.marks (by decide) (by decide)) (fun e he g hg => by
    obtain ⟨_, cs, hc⟩ := (h.outs.each e he).1.lt hg
    exact far _ (by decide) (by decide) g cs hc), fun b hq => ?_, h.marksAt, h.lvAt, fun e he => ?_, h.rowNe, fun e he => ?_, h.apartM, h.but.then hb3 (fun b hlt q => ?_)⟩
  · have := own_of_block ho2 (fun b hq => Below.heap_setCell w2 ⟨hb, 7, none⟩ vo' b (own_ne ho2 hq hH2 (by decide)))
    simpa using this
  · rcases List.mem_append.1 he with he | he
    · refine ⟨(h.each e he).1.but hb3 (fun g hg => ?_) (far _ (by decide) (by decide)), (h.each e he).2⟩
      obtain ⟨_, cs, hc⟩ := (h.each e he).1.lt hg
      exact far _ (by decide) (by decide) g cs hc
    · obtain rfl := List.mem_singleton.1 he
      exact ⟨own_lok hrow1 hrow2, hM, hnk⟩
  · rcases hat b hq with q | q
    · exact h.outAt b q
    · right; omega
  · rcases List.mem_append.1 he with he | he
    · exact h.same e he
    · obtain rfl := List.mem_singleton.1 he
      exact fun g _ _ => ⟨rfl, Nat.le_refl _⟩
  · rcases List.mem_append.1 he with he | he
    · exact h.apartL e he
    · obtain rfl := List.mem_singleton.1 he
      exact h.rowNe
  · rcases q with q | q
    · rcases h.outAt b q with q | q
      · exact .inr (.inl q)
      · omega
    · exact .inl q

theorem KL.pushMark {w wr w2 : World} {hb Bv n M : Nat} {s : HS} {es : List Ent} {v lv vo vm vm' : Value} {lo lm : List EntL} {k : Nat} (h : KL w wr hb Bv n M s es v lv vo vm lo lm k) (e0 : EntL) (he0 : e0.m = M)
    (hb2 : But (fun b => vm.ownBlock = some b) wr w2) (ho2 : w2.ownsRow hb 3 1 vm' (lm.length + 1) (lm.map (fun e => .int .i64 (e.m : Int)) ++ [.int .i64 (M : Int)])) (hat : ∀ b, vm'.ownBlock = some b → vm.ownBlock = some b ∨ wr.heap.size ≤ b) :
    KL w (w2.setCell ⟨hb, 8, none⟩ vm') hb Bv n M s es v lv vo vm' lo (lm ++ [e0]) k := by
  have hs := h.but.size
  have hvm : ∀ b, vm.ownBlock = some b → b ≠ hb := fun b hq => own_ne h.marks hq h.hands (by decide)
  have hb3 : But (fun b => vm.ownBlock = some b ∨ b = hb) wr (w2.setCell ⟨hb, 8, none⟩ vm') := (hb2.wide (fun _ _ q => .inl q)).setCell (.inl (.inr rfl)) _
  have hH2 : HAt w2 hb { s with outer := vo, omarks := vm } := h.hands.kept (hb2.block hb h.hands.lt (fun q => hvm hb q rfl))
  have far : ∀ t, t ≠ 43 → 3 ≠ t → ∀ g cs, wr.heap[g]? = some (.cells cs t (0, 0)) → ¬ (vm.ownBlock = some g ∨ g = hb) := fun t h1 h2 g cs hc q => by
    rcases q with q | q
    · exact own_ne h.marks q hc h2 rfl
    · exact h.hands.ne_block hc h1 q
  have farO : ∀ {B m sz : Nat} {t : TypeId} {u : Value} {xs : List Value}, wr.ownsRow B t sz u m xs → t ≠ 43 → 3 ≠ t → ∀ g, u.ownBlock = some g → ¬ (vm.ownBlock = some g ∨ g = hb) := fun hu h1 h2 g hg => by
    obtain ⟨cur, hc⟩ := own_block hu hg
    exact far _ h1 h2 g cur hc
  obtain ⟨us, hr1, hr2⟩ := h.row
  refine ⟨hH2.set8 _, hb3.own h.own (farO h.own (by decide) (by decide)), ?_, fun e he => ⟨(h.each e he).1.but hb3 (fun g hg => ?_) (far _ (by decide) (by decide)), (h.each e he).2⟩, ⟨us, hb3.own hr1 (farO hr1 (by decide) (by decide)), fun u hu => (hr2 u hu).but hb3 (far _ (by decide) (by decide))⟩, h.outs.but hb3 (farO h.outs.own (by decide) (by decide)) (fun g hg q => ?_) (fun e he g hg => ?_), h.outAt, fun b hq => ?_, h.lvAt, h.same, h.rowNe, h.apartL, fun g hg q => ?_, h.but.then hb3 (fun b hlt q => ?_)⟩
  · have := own_of_block ho2 (fun b hq => Below.heap_setCell w2 ⟨hb, 8, none⟩ vm' b (own_ne ho2 hq hH2 (by decide)))
    simpa [he0] using this
  · obtain ⟨_, cs, hc⟩ := (h.each e he).1.lt hg
    exact far _ (by decide) (by decide) g cs hc
  · rcases q with q | q
    · exact h.apartM g hg q
    · exact own_ne h.outs.marks hg h.hands (by decide) q
  · obtain ⟨_, cs, hc⟩ := (h.outs.each e he).1.lt hg
    exact far _ (by decide) (by decide) g cs hc
  · rcases hat b hq with q | q
    · exact h.marksAt b q
    · right; omega
  · rcases hat g q with p | p
    · exact h.apartM g hg p
    · have := (h.outs.marks.lt g hg).2; omega
  · rcases q with q | q
    · rcases h.marksAt b q with q | q
      · exact .inr (.inr (.inl q))
      · omega
    · exact .inl q

theorem KL.more {w wr w2 : World} {hb Bv n M g cap : Nat} {s : HS} {es : List Ent} {v lv vo vm u : Value} {us : List Value} {lo lm : List EntL} {k : Nat} (h : KL w wr hb Bv n M s es v lv vo vm lo lm k) (hr1 : wr.ownsRow Bv 33 1 lv (n + k) us) (hr2 : ∀ u ∈ us, TwoB wr u M)
    (hb2 : But (fun b => lv.ownBlock = some b) wr w2) (ho2 : w2.ownsRow Bv 33 1 (.slice (some ⟨g, 0, none⟩) (n + k + 1) cap) (n + k + 1) (us ++ [u])) (hu : TwoB w2 u M)
    (hat : lv.ownBlock = some g ∨ wr.heap.size ≤ g ∧ ∀ j, j < wr.heap.size → w2.heap[j]? = wr.heap[j]?) :
    KL w w2 hb Bv n M s es v (.slice (some ⟨g, 0, none⟩) (n + k + 1) cap) vo vm lo lm (k + 1) := by
  have hs := h.but.size
  have far : ∀ t, 33 ≠ t → ∀ g cs, wr.heap[g]? = some (.cells cs t (0, 0)) → ¬ (lv.ownBlock = some g) := fun t h2 g cs hc q => own_ne hr1 q hc h2 rfl
  have farO : ∀ {B m sz : Nat} {t : TypeId} {x : Value} {xs : List Value}, wr.ownsRow B t sz x m xs → 33 ≠ t → ∀ g, x.ownBlock = some g → ¬ (lv.ownBlock = some g) := fun hu h2 g hg => by
    obtain ⟨cur, hc⟩ := own_block hu hg
    exact far _ h2 g cur hc
  have hus : ∀ x ∈ us ++ [u], TwoB w2 x M := fun x hx => by
    rcases List.mem_append.1 hx with hx | hx
    · exact (hr2 x hx).but hb2 (far _ (by decide))
    · obtain rfl := List.mem_singleton.1 hx
      exact hu
  refine ⟨h.hands.kept (hb2.block hb h.hands.lt (fun q => own_ne hr1 q h.hands (by decide) rfl)), hb2.own h.own (farO h.own (by decide)), hb2.own h.marks (farO h.marks (by decide)), fun e he => ?_, ⟨us ++ [u], ho2, hus⟩, h.outs.but hb2 (fun q hq r => h.rowNe q r hq) (farO h.outs.marks (by decide)) (fun e he q hq => ?_), h.outAt, h.marksAt, fun b hq => ?_, fun e he g' hg' hl => ?_, fun q hq r => ?_, h.apartL, h.apartM, h.but.then hb2 (fun b hlt q => ?_)⟩
  · obtain ⟨h1, h2⟩ := h.each e he
    refine ⟨?_, h2⟩
    rcases hat with q | ⟨q, hall⟩
    · by_cases p : e.v.ownBlock = some g
      · obtain ⟨e1, e2⟩ := h.same e he g p q
        rcases h1 with ⟨c, q1, q2⟩ | ⟨g', c, cs, q1, q2, q3⟩
        · rw [q1] at p; simp [Value.ownBlock] at p
        · have e3 : g' = g := by rw [q1] at p; simpa [Value.ownBlock] using p
          subst e3
          rw [q1, e1]
          exact own_lok_less ho2 hus (by rfl) (by omega)
      · exact h1.but hb2 (fun g' hg' r => p (by rw [hg', ← q, r])) (far _ (by decide))
    · exact h1.kept hall
  · obtain ⟨_, cs, hc⟩ := (h.outs.each e he).1.lt hq
    exact far _ (by decide) q cs hc
  · have e : g = b := by simpa [Value.ownBlock] using hq
    subst e
    rcases hat with q | ⟨q, _⟩
    · exact h.lvAt g q
    · right; omega
  · have e3 : g = g' := by simpa [Value.ownBlock] using hl
    subst e3
    rcases hat with q | ⟨q, _⟩
    · obtain ⟨e1, e2⟩ := h.same e he g hg' q
      exact ⟨e1, by omega⟩
    · have := ((h.each e he).1.lt hg').1; omega
  · have e3 : g = q := by simpa [Value.ownBlock] using hq
    subst e3
    rcases hat with p | ⟨p, _⟩
    · exact h.rowNe g p r
    · have := (h.outs.own.lt g r).2; omega
  · rcases h.lvAt b q with q | q
    · exact .inr (.inr (.inr q))
    · omega

/-- Hands between two calls, behind keep; no list has been kept yet. -/
theorem Inv.afterKeep {A : Nat → Addr} {B0 : Nat} {w w' : World} {hb N n Bv : Nat} {s : HS} {es es' : List Ent} {v vo vm : Value} {xs : List Value} (h : Inv A B0 w hb N s es []) (hv : w.ownsRow Bv 5 1 v n xs) (hBv : hb ≤ Bv) (hK : KeptAs w w' hb hb N s es es' v vo vm) :
    Inv A B0 w' hb (N + 1) { s with n := (N : Int) + 1, out := vo, marks := vm } (es ++ es') [] ∧ Below hb w w' := by
  have hhigh : ∀ k, k < hb → ¬ (k = hb ∨ s.out.ownBlock = some k ∨ s.marks.ownBlock = some k ∨ v.ownBlock = some k) := fun k hk q => by
    rcases q with q | q | q | q
    · omega
    · have := (h.outs.own.lt k q).1; omega
    · have := (h.outs.marks.lt k q).1; omega
    · have := (hv.lt k q).1; omega
  have hlow : Below hb w w' := hK.but.toBelow (by have := h.hands.lt; omega) hhigh
  refine ⟨⟨h.errs.below (hlow.mono h.low), h.low, hK.hands, by show (N : Int) + 1 = _; omega, h.in0, h.rows0, h.ints0, h.want0, hK.outs, ?_, h.lacks0, h.objs0, fun g hg q => ?_, fun e he => by simp at he⟩, hlow⟩
  · refine ⟨hK.but.own h.outers.own (fun g hg q => ?_), hK.but.own h.outers.marks (fun g hg q => ?_), fun e he => by simp at he⟩
    · rcases q with q | q | q | q
      · exact own_ne h.outers.own hg h.hands (by decide) q
      · exact own_own_ne h.outers.own h.outs.own (by decide) g hg q
      · exact own_own_ne h.outers.own h.outs.marks (by decide) g hg q
      · exact own_own_ne h.outers.own hv (by decide) g hg q
    · rcases q with q | q | q | q
      · exact own_ne h.outers.marks hg h.hands (by decide) q
      · exact own_own_ne h.outers.marks h.outs.own (by decide) g hg q
      · exact h.apartM g q hg
      · exact own_own_ne h.outers.marks hv (by decide) g hg q
  · rcases hK.marksAt g hg with p | p
    · exact h.apartM g p q
    · have := (h.outers.marks.lt g q).2; omega

theorem Inv.setN {A : Nat → Addr} {B0 : Nat} {w : World} {hb N N' : Nat} {s : HS} {es : List Ent} {ls : List EntL} (h : Inv A B0 w hb N s es ls) (z : Int) (hz : z = (N' : Int)) : Inv A B0 (w.setCell ⟨hb, 4, none⟩ (.int .i64 z)) hb N' { s with n := z } es ls := by
  have hb1 : But (fun b => b = hb) w (w.setCell ⟨hb, 4, none⟩ (.int .i64 z)) := But.setCell (S := fun b => b = hb) (But.refl _ _) (p := ⟨hb, 4, none⟩) (.inl rfl) _
  exact ⟨h.errs.below (hb1.toBelow h.errs.size (fun k hk q => by have := h.low; omega)), h.low, h.hands.set4 z, hz, h.in0, h.rows0, h.ints0, h.want0,
    h.outs.but hb1 (fun g hg q => own_ne h.outs.own hg h.hands (by decide) q) (fun g hg q => own_ne h.outs.marks hg h.hands (by decide) q) (fun e he g hg q => (h.outs.each e he).1.ne_hands h.hands g hg q),
    h.outersKept (hb1.wide (fun _ _ q => .inl q)), h.lacks0, h.objs0, h.apartM, h.apartL⟩

theorem Inv.butAt {A : Nat → Addr} {B0 : Nat} {w w' : World} {hb N : Nat} {s : HS} {es : List Ent} {S : Nat → Prop} (h : Inv A B0 w hb N s es []) (hb' : But S w w') (h1 : ∀ k, k ≤ hb → ¬ S k) (h2 : ∀ g, s.out.ownBlock = some g → ¬ S g) (h3 : ∀ g, s.marks.ownBlock = some g → ¬ S g) (h4 : ∀ g, s.outer.ownBlock = some g → ¬ S g) (h5 : ∀ g, s.omarks.ownBlock = some g → ¬ S g)
    (h6 : ∀ e ∈ es, ∀ g, e.v.ownBlock = some g → ¬ S g) : Inv A B0 w' hb N s es [] :=
  ⟨h.errs.below (hb'.toBelow h.errs.size (fun k hk => h1 k (by have := h.low; omega))), h.low, h.hands.kept (hb'.block hb h.hands.lt (h1 hb (Nat.le_refl _))), h.num, h.in0, h.rows0, h.ints0, h.want0, h.outs.but hb' h2 h3 h6, ⟨hb'.own h.outers.own h4, hb'.own h.outers.marks h5, fun e he => by simp at he⟩, h.lacks0, h.objs0, h.apartM, fun e he => by simp at he⟩

theorem step_append_apart {w : World} {ops : Array Oper} {o : Oper} {a : Act} {K : Act → World → Prop} {Q : Exit → Act → World → Prop} {F : Prop} (hgd : o.guard = none) (s x : Operand) (t : TypeId) (ho : o.op = .call { callee := .builtin .append, args := #[s, x], argTypes := #[t, t] })
    (base : Nat) (e : TypeId) (i : TypeInfo) (z : Value) (size bytes : Nat) (ht : Tryd.prog.underlying t = some (.slice e)) (hi : Tryd.prog.info? e = some i) (hz : i.zero = some z)
    (hsize : i.size = size) (hby : i.bytes = bytes) (hzs : z.cells.size = size) (hsz : 0 < size) (v : Value) (n : Nat) (xs : List Value) (hs : a.eval s = v) (hown : w.ownsRow base e size v n xs)
    (ad : Addr) (m c : Nat) (news : List Value) (hx : a.eval x = .slice (some ad) m c) (hl : news.length = m * size) (hnews : ∀ j u, news[j]? = some u → w.cell? (ad.add j) = some u) (h1 : ∀ u ∈ news, u.oneCell' = true)
    (hm : 0 < m) (h63 : n + m ≤ maxLen) (hbytes : ((n + m) + (n + m) / 4 + 192) * bytes ≤ 281474976710656) (hbytes2 : (n + m) * bytes ≤ 140737488355328) (hbase : base ≤ w.heap.size)
    (h : ∀ g cap w', w'.ownsRow base e size (.slice (some ⟨g, 0, none⟩) (n + m) cap) (n + m) (xs ++ news) → w.grownBy w' v.ownBlock → (v.ownBlock = some g ∨ g = w.heap.size ∧ ∀ k, k < w.heap.size → w'.heap[k]? = w.heap[k]?) → g < w'.heap.size → K (a.put o.dst (.slice (some ⟨g, 0, none⟩) (n + m) cap)) w') :
    if Region.wanted o (yielded ops a.tmps) = true then Oper.wp Tryd.prog o a w K Q else F := by
  have hw : Region.wanted o (yielded ops a.tmps) = true := by simp [Region.wanted, hgd]
  rw [if_pos hw]
  obtain ⟨g, cap, w', hr, h2, h3, h4, h5⟩ := run_append_apart w t o.type base e i z size bytes ht hi hz hsize hby hzs hsz v n xs hown ad m c news hl hnews h1 hm h63 hbytes hbytes2 hbase
  unfold Oper.wp execOp
  simp only [ho, resolve, invoke, builtin, Sem.run_bind, Sem.run_pure, Result.andThen_ok, List.map_toArray, List.map_cons, List.map_nil, hs, hx, hr]
  exact h g cap w' h2 h3 h4 h5

theorem KL.sees {w wr w4 : World} {hb Bv n M : Nat} {s : HS} {es : List Ent} {v lv vo vm : Value} {lo lm : List EntL} {k : Nat} {o : Obj} (h : KL w wr hb Bv n M s es v lv vo vm lo lm k) (hg : (wr.alloc o).drew.grownBy w4 vm.ownBlock) :
    w4.cell? ⟨hb, 8, none⟩ = some vm ∧ w4.frozen? ⟨hb, 8, none⟩ = false := by
  have hk : w4.heap[hb]? = wr.heap[hb]? := by
    rw [grown_block hg (by have := h.hands.lt; simp; omega) (fun q => own_ne h.marks q h.hands (by decide) rfl)]; exact Below.heap_alloc wr o hb h.hands.lt
  have hH := h.hands.kept hk
  exact ⟨hH.cell 8, hH.frozen 8⟩

end Go.Proofs.YtjabhnhejbhgjaaDoor
