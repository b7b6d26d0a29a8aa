/- Restore of the program over what was lent, Restore of the document: one answer. -/
import Derived.Test.YtjabhnhejbhgjaaDoorKeepListMem
namespace Go.Proofs.YtjabhnhejbhgjaaDoor
open Go.RowKit

/-- A list of rows that came out: each in a block of its own. -/
structure OutRows (w : World) (Bv : Nat) (v : Value) (n m : Nat) (us : List Value) : Prop where
  own : w.ownsRow Bv 33 1 v n us
  each : ∀ (i : Nat) (u : Value), us[i]? = some u → ∃ xs, w.ownsRow Bv 5 1 u m xs
  apart : ∀ (i j : Nat) (u u' : Value) (g : Nat), us[i]? = some u → us[j]? = some u' → u.ownBlock = some g → u'.ownBlock = some g → i = j

def goodR (l : List Int) (rs : List Raw) (zn sn : Nat) (k : Int) : Bool := cntB k && decide ((zn : Int) = k) && decide ((sn : Int) = k) && placesB l zn && evenR rs
def restN (l : List Int) (rs : List Raw) (zn sn : Nat) (k : Int) : Nat := if goodR l rs zn sn k = true then zn else 0
def restC (l : List Int) (rs : List Raw) (zn sn : Nat) (k : Int) : Nat := if goodR l rs zn sn k = true then 0 else 2

theorem goodR_parts {l : List Int} {rs : List Raw} {zn sn : Nat} {k : Int} (h : goodR l rs zn sn k = true) : cntB k = true ∧ (zn : Int) = k ∧ (sn : Int) = k ∧ placesB l zn = true ∧ evenR rs = true := by
  unfold goodR at h
  simp only [Bool.and_eq_true, decide_eq_true_eq] at h
  exact ⟨h.1.1.1.1, h.1.1.1.2, h.1.1.2, h.1.2, h.2⟩
theorem goodR_not {l : List Int} {rs : List Raw} {zn sn : Nat} {k : Int} (h : goodR l rs zn sn k = false) : cntB k = false ∨ (zn : Int) ≠ k ∨ (sn : Int) ≠ k ∨ placesB l zn = false ∨ evenR rs = false := by
  unfold goodR at h
  by_cases h1 : cntB k = true
  · by_cases h2 : (zn : Int) = k
    · by_cases h3 : (sn : Int) = k
      · by_cases h4 : placesB l zn = true
        · right; right; right; right
          rw [h1, h4] at h
          simpa [h2, h3] using h
        · right; right; right; left; simpa using h4
      · exact .inr (.inr (.inl h3))
    · exact .inr (.inl h2)
  · left; simpa using h1
theorem restN_le {l : List Int} {rs : List Raw} {zn sn : Nat} {k : Int} : restN l rs zn sn k ≤ 8 := by
  unfold restN
  split
  · rename_i h
    have := cntB_range (goodR_parts h).1
    have := (goodR_parts h).2.1
    omega
  · omega
theorem restC_code (l : List Int) (rs : List Raw) (zn sn : Nat) (k : Int) : restC l rs zn sn k = 0 ∨ restC l rs zn sn k = 2 := by
  unfold restC; split
  · exact .inl rfl
  · exact .inr rfl

theorem rest_same (l : List Int) (rs : List Raw) (gs : List Nat) (n m : Nat) (p : Gf.F) (hl : l.length = n) : symOf (bytesOf l) (lentRows rs gs n) p m = symR l rs n p m := by
  apply list_ext
  · rw [symOf_length, symR_length]
  · intro i hi
    rw [symOf_length] at hi
    rw [symOf_at _ _ _ _ _ hi, symR_at _ _ _ _ _ _ hi, bytesOf_length, hl]
    exact Gf.lag_congr (fun j hj => by rw [bytesOf_at l j (by omega)]) (fun j hj => by rw [lentRows_at rs gs n j hj]) p

theorem srcCells_own {w : World} {S base m n B : Nat} (h : w.heap[S]? = some (.cells (srcCells base m n n) 33 (0, 0))) (hB : B ≤ S) (hn : n ≤ 8) : w.ownsRow B 33 1 (.slice (some ⟨S, 0, none⟩) n n) n (srcCells base m n n).toList :=
  ⟨by simp [srcCells], .inr ⟨S, n, srcCells base m n n, rfl, hB, h, Nat.le_refl _, by unfold maxLen; omega, by simp [srcCells], by rw [Nat.mul_one]; exact List.take_of_length_le (by simp [srcCells])⟩⟩

theorem progRest (A : Nat → Addr) (B0 sb zb zn sn : Nat) (k : Int) (l : List Int) (rs : List Raw) (gs : List Nat) (w : World) (hE : Errs A B0 w) (hl : l.length = zn) (hr : rs.length = sn) (hzn : zn ≤ 14073748835500) (hsn : sn ≤ 1048576) (hm : ∀ i, i < sn → (wat rs i).l.length ≤ 14073748835000) (hZ : Zs w zb 0 l) (hR : Rs w sb 0 (lentRows rs gs sn)) (hlt : ∀ i, i < sn → gat gs i < w.heap.size) :
    Calls Tryd.prog 16 #[.int .i64 k, .slice (some ⟨zb, 0, none⟩) zn (zn + 2), .slice (some ⟨sb, 0, none⟩) sn (sn + 2)] w fun e w' =>
      ∃ v us, e = .returned (.tuple #[v, E A (restC l rs zn sn k)]) ∧ OutRows w' w.heap.size v (restN l rs zn sn k) (wat rs 0).l.length us ∧ (∀ (i : Nat) (u : Value), us[i]? = some u → w'.ownsRow w.heap.size 5 1 u (wat rs 0).l.length (encL (symR l rs zn (BitVec.ofNat 8 i) (wat rs 0).l.length))) ∧ Below w.heap.size w w' := by
  cases hg : goodR l rs zn sn k
  · have hbad := goodR_not hg
    have hbad' : cntB k = false ∨ (zn : Int) ≠ k ∨ (sn : Int) ≠ k ∨ placesB l zn = false ∨ evenB (lentRows rs gs sn) = false := by
      rw [lentRows_even rs gs sn hr]; exact hbad
    have hcell : w.cell? ⟨1, 0, none⟩ = some (.iface 164 (.pointer (some (A 1)))) := hE.cell 1 (by omega)
    refine (restore_no zb 0 (zn + 2) sb 0 (sn + 2) zn sn k l (lentRows rs gs sn) _ _ w hl (lentRows_length ..) (by omega) (by omega) (by omega) hZ hR hcell hbad').mono ?_
    rintro e w' ⟨rfl, nq, rfl⟩
    refine ⟨.slice none 0 0, [], ?_, ⟨?_, fun i u h => by simp at h, fun i j u u' g h => by simp at h⟩, fun i u h => by simp at h, ⟨rfl, rfl, rfl, Nat.le_refl _, fun _ _ => rfl⟩⟩
    · simp [restC, hg, E]
    · simp only [restN, hg]
      exact World.ownsRow_nil ..
  · obtain ⟨h1, h2, h3, h4, h5⟩ := goodR_parts hg
    obtain rfl : sn = zn := by omega
    subst h2
    have hc := cntB_range h1
    have hm0 := hm 0 (by omega)
    refine (restore_ok zb 0 (sn + 2) sb 0 (sn + 2) (wat rs 0).l.length sn l (lentRows rs gs sn) w hl (lentRows_length ..) (by omega) h1 h4 (by rw [lentRows_even rs gs sn hr]; exact h5) (by rw [lentRows_at rs gs sn 0 (by omega)]) (by omega) hZ hR (fun i hi => by
      rw [lentRows_length] at hi
      rw [lentRows_at rs gs sn i hi]; exact hlt i hi)).mono ?_
    rintro e w' ⟨S, base, rfl, hG⟩
    have hbase : w.heap.size ≤ base := by have := hG.old; have := hG.apart; omega
    have hN : restN l rs sn sn (sn : Int) = sn := by simp [restN, hg]
    have hat : ∀ (i : Nat) (u : Value), (srcCells base (wat rs 0).l.length sn sn).toList[i]? = some u → i < sn ∧ u = .slice (some ⟨base + i, 0, none⟩) (wat rs 0).l.length (wat rs 0).l.length := fun i u hu => by
      rw [Array.getElem?_toList] at hu
      have hi : i < sn := by
        obtain ⟨q, _⟩ := Array.getElem?_eq_some_iff.1 hu
        simpa [srcCells] using q
      rw [srcCells_at base _ sn sn i hi hi] at hu
      exact ⟨hi, (Option.some.inj hu).symm⟩
    have hrow : ∀ (i : Nat) (u : Value), (srcCells base (wat rs 0).l.length sn sn).toList[i]? = some u → w'.ownsRow w.heap.size 5 1 u (wat rs 0).l.length (encL (symR l rs sn (BitVec.ofNat 8 i) (wat rs 0).l.length)) := fun i u hu => by
      obtain ⟨hi, rfl⟩ := hat i u hu
      have hb := hG.syms i hi
      rw [rest_same l rs gs sn _ _ hl] at hb
      have := blk_own hb (B := w.heap.size) (by omega) (by rw [symR_length]; unfold maxLen; omega)
      rw [symR_length] at this
      exact this
    refine ⟨.slice (some ⟨S, 0, none⟩) sn sn, (srcCells base (wat rs 0).l.length sn sn).toList, ?_, ⟨?_, fun i u hu => ⟨_, hrow i u hu⟩, fun i j u u' g hu hu' hg1 hg2 => ?_⟩, hrow, hG.below⟩
    · simp [restC, hg, E]
    · rw [hN]; exact srcCells_own hG.list hG.old (by omega)
    · obtain ⟨_, rfl⟩ := hat i u hu
      obtain ⟨_, rfl⟩ := hat j u' hu'
      simp [Value.ownBlock] at hg1 hg2
      omega

theorem refRest (az al : Option Addr) (zb zo zc zn lb lo lc sn : Nat) (k : Int) (l : List Int) (rs : List Raw) (w : World) (hl : l.length = zn) (hr : rs.length = sn) (hzn : zn ≤ 14073748835500) (hsn : sn ≤ 1048576) (hm : ∀ i, i < sn → (wat rs i).l.length ≤ 14073748835000) (haz : 0 < zn → az = some ⟨zb, zo, none⟩) (hal : 0 < sn → al = some ⟨lb, lo, none⟩) (hZ : Zs w zb zo l) (hW : Ws w lb lo rs) :
    Calls Tryd.prog 34 #[.int .i64 k, .slice az zn zc, .slice al sn lc] w fun e w' =>
      ∃ v us, e = .returned (.tuple #[v, .int .i64 (restC l rs zn sn k : Int)]) ∧ w'.ownsRow w.heap.size 33 1 v (restN l rs zn sn k) us ∧ (∀ (i : Nat) (u : Value), us[i]? = some u → w'.ownsRow w.heap.size 5 1 u (wat rs 0).l.length (encL (symR l rs zn (BitVec.ofNat 8 i) (wat rs 0).l.length))) ∧ Below w.heap.size w w' := by
  cases hg : goodR l rs zn sn k
  · have hbad := goodR_not hg
    have hbad' : ¬ (1 ≤ k ∧ k ≤ 8) ∨ (zn : Int) ≠ k ∨ (sn : Int) ≠ k ∨ evenR rs = false ∨ placesB l zn = false := by
      rcases hbad with h | h | h | h | h
      · left; intro q; rw [cntB_yes q] at h; cases h
      · exact .inr (.inl h)
      · exact .inr (.inr (.inl h))
      · exact .inr (.inr (.inr (.inr h)))
      · exact .inr (.inr (.inr (.inl h)))
    refine (refRestore_no az al zb zo zc zn lb lo lc sn k l rs w hl hr (by omega) (by omega) haz hal hZ hW hbad').mono ?_
    rintro e w' ⟨rfl, hb⟩
    refine ⟨.slice none 0 0, [], by simp [restC, hg], ?_, fun i u h => by simp at h, hb⟩
    simp only [restN, hg]
    exact World.ownsRow_nil ..
  · obtain ⟨h1, h2, h3, h4, h5⟩ := goodR_parts hg
    obtain rfl : sn = zn := by omega
    subst h2
    have hc := cntB_range h1
    have hm0 := hm 0 (by omega)
    obtain rfl := haz (by omega)
    obtain rfl := hal (by omega)
    refine (refRestore_ok zb zo zc lb lo lc sn (wat rs 0).l.length l rs w hl hr (by omega) (by omega) h4 h5 rfl (by omega) hZ hW).mono ?_
    rintro e w' ⟨v, vs, rfl, hO, hb⟩
    have hN : restN l rs sn sn (sn : Int) = sn := by simp [restN, hg]
    refine ⟨v, vs, by simp [restC, hg], by rw [hN]; exact hO.own, fun i u hu => ?_, hb⟩
    obtain ⟨u', q1, q2, _⟩ := hO.each i (by have := hO.len; have := (List.getElem?_eq_some_iff.1 hu).1; omega)
    rw [hu] at q1
    obtain rfl := Option.some.inj q1
    exact q2

def rawsOf (us : List Value) (L : Nat → List Gf.F) : List Raw := (List.range us.length).map fun i => ⟨us.getD i .nilIface, L i⟩
theorem rawsOf_length (us : List Value) (L : Nat → List Gf.F) : (rawsOf us L).length = us.length := by simp [rawsOf]
theorem rawsOf_at (us : List Value) (L : Nat → List Gf.F) (i : Nat) (hi : i < us.length) : wat (rawsOf us L) i = ⟨us.getD i .nilIface, L i⟩ := by simp [wat, rawsOf, List.getD, hi]

theorem own_ws {w : World} {B B' g c n m : Nat} {us : List Value} {L : Nat → List Gf.F} (h : w.ownsRow B 33 1 (.slice (some ⟨g, 0, none⟩) n c) n us) (he : ∀ (i : Nat) (u : Value), us[i]? = some u → w.ownsRow B' 5 1 u m (encL (L i))) (hL : ∀ i, (L i).length = m) : Ws w g 0 (rawsOf us L) := by
  intro i hi
  rw [rawsOf_length] at hi
  have hu : us[i]? = some (us.getD i .nilIface) := by rw [List.getD_eq_getElem?_getD, List.getElem?_eq_getElem hi]; rfl
  rw [rawsOf_at us L i hi]
  refine ⟨?_, own_raw (he i _ hu) (hL i)⟩
  rw [Nat.zero_add]
  exact own_cell h rfl hu

end Go.Proofs.YtjabhnhejbhgjaaDoor
