/- Hands.holds. -/
import Derived.Test.YtjabhnhejbhgjaaDoorKeepWalk
namespace Go.Proofs.YtjabhnhejbhgjaaDoor
open Go.RowKit

structure EntL where
  v : Value
  n : Nat
  m : Nat

/-- TwoB bytes: m, 0. -/
def TwoB (w : World) (u : Value) (m : Nat) : Prop := ∃ g, u = .slice (some ⟨g, 0, none⟩) 2 2 ∧ w.heap[g]? = some (.cells #[.int .u8 (m : Int), .int .u8 0] 5 (0, 0))

/-- A list of n such. -/
def LOk (w : World) (v : Value) (n m : Nat) : Prop :=
  (∃ c, v = .slice none 0 c ∧ n = 0) ∨ (∃ g c cs, v = .slice (some ⟨g, 0, none⟩) n c ∧ w.heap[g]? = some (.cells cs 33 (0, 0)) ∧ ∀ j, j < n → ∃ u, cs[j]? = some u ∧ TwoB w u m)

structure Outers (w : World) (B : Nat) (vo vm : Value) (ls : List EntL) : Prop where
  own : w.ownsRow B 31 1 vo ls.length (ls.map (·.v))
  marks : w.ownsRow B 3 1 vm ls.length (ls.map fun e => .int .i64 (e.m : Int))
  each : ∀ e ∈ ls, LOk w e.v e.n e.m ∧ e.m < 256 ∧ e.n ≤ 140737488355328

theorem KOk.form {w : World} {v : Value} {n m : Nat} (h : KOk w v n m) : ∃ a c, v = .slice a n c ∧ ∀ k, k < n → ∃ g, a = some ⟨g, 0, none⟩ ∧ w.cell? ⟨g, k, none⟩ = some (.int .u8 (m : Int)) := by
  rcases h with ⟨c, h1, h2⟩ | ⟨g, c, cs, h1, h2, h3⟩
  · exact ⟨none, c, by rw [h1, h2], fun k hk => by omega⟩
  · exact ⟨_, c, h1, fun k hk => ⟨g, rfl, by rw [cell_of_row w g k _ _ _ h2]; exact h3 k hk⟩⟩

theorem LOk.form {w : World} {v : Value} {n m : Nat} (h : LOk w v n m) : ∃ a c, v = .slice a n c ∧ ∀ k, k < n → ∃ g gu, a = some ⟨g, 0, none⟩ ∧ w.cell? ⟨g, k, none⟩ = some (.slice (some ⟨gu, 0, none⟩) 2 2) ∧ w.cell? ⟨gu, 0, none⟩ = some (.int .u8 (m : Int)) ∧ w.cell? ⟨gu, 1, none⟩ = some (.int .u8 0) := by
  rcases h with ⟨c, h1, h2⟩ | ⟨g, c, cs, h1, h2, h3⟩
  · exact ⟨none, c, by rw [h1, h2], fun k hk => by omega⟩
  · refine ⟨_, c, h1, fun k hk => ?_⟩
    obtain ⟨u, q1, gu, q2, q3⟩ := h3 k hk
    exact ⟨g, gu, rfl, by rw [cell_of_row w g k _ _ _ h2, q1, q2], by rw [cell_of_row w gu 0 _ _ _ q3]; rfl, by rw [cell_of_row w gu 1 _ _ _ q3]; rfl⟩

set_option maxRecDepth 100000 in
set_option maxHeartbeats 4000000 in
theorem holds_any (hb B : Nat) (s : HS) (es : List Ent) (ls : List EntL) (w : World) (hH : HAt w hb s) (hO : Outs w B s.out s.marks es) (hL : Outers w B s.outer s.omarks ls) (he : es.length ≤ 1000000) (hl : ls.length ≤ 1000000) (h9 : s.lacks = .slice none 0 0) (h11 : s.objs = .slice none 0 0) :
    Calls Tryd.prog 32 #[.pointer (some ⟨hb, 0, none⟩)] w fun e w' => e = .returned (.bool true) ∧ ∃ nq, w' = w.drewN nq := by
  have hc5 : w.cell? ⟨hb, 5, none⟩ = some s.out := hH.cell 5
  have hc6 : w.cell? ⟨hb, 6, none⟩ = some s.marks := hH.cell 6
  have hc7 : w.cell? ⟨hb, 7, none⟩ = some s.outer := hH.cell 7
  have hc8 : w.cell? ⟨hb, 8, none⟩ = some s.omarks := hH.cell 8
  have hc9 : w.cell? ⟨hb, 9, none⟩ = some (.slice none 0 0) := by rw [hH.cell 9, ← h9]; rfl
  have hc11 : w.cell? ⟨hb, 11, none⟩ = some (.slice none 0 0) := by rw [hH.cell 11, ← h11]; rfl
  obtain ⟨oa, oc, hoa⟩ := own_len hO.own
  obtain ⟨ma, mc, hma⟩ := own_len hO.marks
  obtain ⟨pa, pc, hpa⟩ := own_len hL.own
  obtain ⟨qa, qc, hqa⟩ := own_len hL.marks
  rw [hoa] at hc5
  rw [hma] at hc6
  rw [hpa] at hc7
  rw [hqa] at hc8
  have HO : Hid (∀ i (hi : i < es.length), ∃ go gm, oa = some ⟨go, 0, none⟩ ∧ ma = some ⟨gm, 0, none⟩ ∧ w.cell? ⟨go, i, none⟩ = some es[i].v ∧ w.cell? ⟨gm, i, none⟩ = some (.int .i64 (es[i].m : Int))) := fun i hi => by
    obtain ⟨go, co, h1, _⟩ := hO.own.form (by omega)
    obtain ⟨gm, cm, h2, _⟩ := hO.marks.form (by omega)
    rw [hoa] at h1
    rw [hma] at h2
    simp only [Value.slice.injEq] at h1 h2
    refine ⟨go, gm, h1.1, h2.1, own_cell hO.own (by rw [hoa, h1.1]; rfl) (by simp [hi]), own_cell hO.marks (by rw [hma, h2.1]; rfl) (by simp [hi])⟩
  have HL : Hid (∀ i (hi : i < ls.length), ∃ go gm, pa = some ⟨go, 0, none⟩ ∧ qa = some ⟨gm, 0, none⟩ ∧ w.cell? ⟨go, i, none⟩ = some ls[i].v ∧ w.cell? ⟨gm, i, none⟩ = some (.int .i64 (ls[i].m : Int))) := fun i hi => by
    obtain ⟨go, co, h1, _⟩ := hL.own.form (by omega)
    obtain ⟨gm, cm, h2, _⟩ := hL.marks.form (by omega)
    rw [hpa] at h1
    rw [hqa] at h2
    simp only [Value.slice.injEq] at h1 h2
    refine ⟨go, gm, h1.1, h2.1, own_cell hL.own (by rw [hpa, h1.1]; rfl) (by simp [hi]), own_cell hL.marks (by rw [hqa, h2.1]; rfl) (by simp [hi])⟩
  have HE : Hid (∀ i (hi : i < es.length), KOk w es[i].v es[i].n es[i].m ∧ es[i].m < 250 ∧ es[i].n ≤ 140737488355328) := fun i hi => hO.each _ (List.getElem_mem hi)
  have HF : Hid (∀ i (hi : i < ls.length), LOk w ls[i].v ls[i].n ls[i].m ∧ ls[i].m < 256 ∧ ls[i].n ≤ 140737488355328) := fun i hi => hL.each _ (List.getElem_mem hi)
  clear hO hL hH h9 h11 hoa hma hpa hqa
  obtain ⟨ne, hne⟩ : ∃ x, x = es.length := ⟨_, rfl⟩
  obtain ⟨nl, hnl⟩ : ∃ x, x = ls.length := ⟨_, rfl⟩
  rw [← hne] at hc5 hc6 he
  rw [← hnl] at hc7 hc8 hl
  have HNE : Hid (ne = es.length) := hne
  have HNL : Hid (nl = ls.length) := hnl
  clear hne hnl
  go_enter Tryd.func32, Tryd.ntmps32
  go_wp2_with fail
  go_loopw [3] (fun t wr => ∃ (i nq : Nat), i ≤ ne ∧ t = .int .i64 (i : Int) ∧ wr = w.drewN nq) (fun t _ => ne - (intOf t).toNat)
  case atStart => exact ⟨0, 0, by omega, rfl, rfl⟩
  case round =>
    obtain ⟨i, nq, hi, rfl, rfl⟩ := hrel
    by_cases hlt : i < ne
    · have hlt' : i < es.length := by rw [← HNE.out]; exact hlt
      obtain ⟨go, gm, rfl, rfl, hgo, hgm⟩ := HO.out i hlt'
      obtain ⟨hK, hm, hnb⟩ := HE.out i hlt'
      obtain ⟨a, c, hv, hcell⟩ := hK.form
      rw [hv] at hgo
      generalize es[i].m = m at hgm hm hcell hK hv
      generalize es[i].n = n at hgo hcell hK hv hnb
      clear hv hK
      have HC : Hid (∀ k, k < n → ∃ g, a = some ⟨g, 0, none⟩ ∧ w.cell? ⟨g, k, none⟩ = some (.int .u8 (m : Int))) := hcell
      clear hcell
      have hin : (i : Int) < (ne : Int) := by omega
      go_wp2_with fail
      go_loopw [4] (fun t wr => ∃ (k nq : Nat), k ≤ n ∧ t = .int .i64 (k : Int) ∧ wr = w.drewN nq) (fun t _ => n - (intOf t).toNat)
      case atStart => exact ⟨0, nq, by omega, rfl, rfl⟩
      case round =>
        obtain ⟨k, nq2, hk, rfl, rfl⟩ := hrel
        by_cases hlt2 : k < n
        · obtain ⟨g, rfl, hg⟩ := HC.out k hlt2
          have hkn : (k : Int) < (n : Int) := by omega
          have hmm : ((m : Int) != (m : Int)) = false := by simp
          go_wp2_with fail
          go_quiet (fail)
          go_wp2_with fail
          refine ⟨?_, by simp [intOf]; omega⟩
          first
            | exact ⟨k + 1, _, by omega, by go_num, rfl⟩
            | ((repeat apply Exists.intro); exact ⟨⟨k + 1, _, by omega, by go_num, rfl⟩, rfl⟩)
        · obtain rfl : k = n := by omega
          go_wp2_with fail
          refine ⟨?_, by simp [intOf]; omega⟩
          first
            | exact ⟨i + 1, _, by omega, by go_num, rfl⟩
            | ((repeat apply Exists.intro); exact ⟨⟨i + 1, _, by omega, by go_num, rfl⟩, rfl⟩)
    · obtain rfl : i = ne := by omega
      go_wp2_with fail
      go_loopw [5] (fun t wr => ∃ (i nq : Nat), i ≤ nl ∧ t = .int .i64 (i : Int) ∧ wr = w.drewN nq) (fun t _ => nl - (intOf t).toNat)
      case atStart => exact ⟨0, nq, by omega, rfl, rfl⟩
      case round =>
        obtain ⟨j, nq3, hj, rfl, rfl⟩ := hrel
        by_cases hlt : j < nl
        · have hlt' : j < ls.length := by rw [← HNL.out]; exact hlt
          obtain ⟨go, gm, rfl, rfl, hgo, hgm⟩ := HL.out j hlt'
          obtain ⟨hK, hm, hnb⟩ := HF.out j hlt'
          obtain ⟨a, c, hv, hcell⟩ := hK.form
          rw [hv] at hgo
          generalize ls[j].m = m at hgm hm hcell hK hv
          generalize ls[j].n = n at hgo hcell hK hv hnb
          clear hv hK
          have HC : Hid (∀ k, k < n → ∃ g gu, a = some ⟨g, 0, none⟩ ∧ w.cell? ⟨g, k, none⟩ = some (.slice (some ⟨gu, 0, none⟩) 2 2) ∧ w.cell? ⟨gu, 0, none⟩ = some (.int .u8 (m : Int)) ∧ w.cell? ⟨gu, 1, none⟩ = some (.int .u8 0)) := hcell
          clear hcell
          have hin : (j : Int) < (nl : Int) := by omega
          go_wp2_with fail
          go_loopw [6] (fun t wr => ∃ (k nq : Nat), k ≤ n ∧ t = .int .i64 (k : Int) ∧ wr = w.drewN nq) (fun t _ => n - (intOf t).toNat)
          case atStart => exact ⟨0, nq3, by omega, rfl, rfl⟩
          case round =>
            obtain ⟨k, nq2, hk, rfl, rfl⟩ := hrel
            by_cases hlt2 : k < n
            · obtain ⟨g, gu, rfl, hg, hg0, hg1⟩ := HC.out k hlt2
              have hkn : (k : Int) < (n : Int) := by omega
              have hmm : ((m : Int) != (m : Int)) = false := by simp
              have hm0 : (0 : Int) ≤ (m : Int) := by omega
              have hm1 : (m : Int) < 256 := by omega
              go_wp2_with fail
              go_quiet (fail)
              go_wp2_with fail
              exact ⟨⟨k + 1, _, by omega, by go_num, rfl⟩, by simp [intOf]; omega⟩
            · obtain rfl : k = n := by omega
              go_wp2_with fail
              refine ⟨?_, by simp [intOf]; omega⟩
              first
                | exact ⟨j + 1, _, by omega, by go_num, rfl⟩
                | ((repeat apply Exists.intro); exact ⟨⟨j + 1, _, by omega, by go_num, rfl⟩, rfl⟩)
        · obtain rfl : j = nl := by omega
          go_wp2_with fail
          go_loopw [8] (fun t wr => t = .int .i64 0 ∧ wr = w.drewN nq3) (fun _ _ => 0)
          case atStart => exact ⟨rfl, rfl⟩
          case round =>
            obtain ⟨rfl, rfl⟩ := hrel
            go_wp2_with fail
            go_loopw [10] (fun t wr => t = .int .i64 0 ∧ wr = w.drewN nq3) (fun _ _ => 0)
            case atStart => exact ⟨rfl, rfl⟩
            case round =>
              obtain ⟨rfl, rfl⟩ := hrel
              go_wp2_with fail
              go_ret
              exact ⟨rfl, nq3, rfl⟩

end Go.Proofs.YtjabhnhejbhgjaaDoor
