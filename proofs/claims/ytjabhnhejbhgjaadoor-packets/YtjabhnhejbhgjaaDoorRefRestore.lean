/- murmurref.Restore. -/
import Derived.Test.YtjabhnhejbhgjaaDoorRefWalks
namespace Go.Proofs.YtjabhnhejbhgjaaDoor
open Go.RowKit

/-- The symbols that came back, k of them. -/
structure OutR (w : World) (B m : Nat) (l : List Int) (rs : List Raw) (n : Nat) (v : Value) (k : Nat) (vs : List Value) : Prop where
  len : vs.length = k
  own : w.ownsRow B 33 1 v k vs
  each : ∀ t, t < k → ∃ u, vs[t]? = some u ∧ w.ownsRow B 5 1 u m (encL (symR l rs n (BitVec.ofNat 8 t) m)) ∧ ∀ g, u.ownBlock = some g → v.ownBlock ≠ some g

theorem OutR.nil (w : World) (B m : Nat) (l : List Int) (rs : List Raw) (n : Nat) : OutR w B m l rs n (.slice none 0 0) 0 [] := ⟨rfl, World.ownsRow_nil .., fun t ht => by omega⟩

theorem OutR.kept {w w' : World} {B m n k : Nat} {l : List Int} {rs : List Raw} {v : Value} {vs : List Value} (h : OutR w B m l rs n v k vs) (hk : ∀ j, j < w.heap.size → w'.heap[j]? = w.heap[j]?) : OutR w' B m l rs n v k vs :=
  ⟨h.len, own_of_block h.own (fun g hg => hk g (own_lt h.own hg).2), fun t ht => by
    obtain ⟨u, h1, h2, h3⟩ := h.each t ht
    exact ⟨u, h1, own_of_block h2 (fun g hg => hk g (own_lt h2 hg).2), h3⟩⟩

theorem OutR.step {w w' : World} {B m n k g c : Nat} {l : List Int} {rs : List Raw} {v u : Value} {vs : List Value} {o : Obj} (h : OutR w B m l rs n v k vs) (hu : w.ownsRow B 5 1 u m (encL (symR l rs n (BitVec.ofNat 8 k) m))) (hfar : ∀ g, u.ownBlock = some g → v.ownBlock ≠ some g)
    (hown : w'.ownsRow B 33 1 (.slice (some ⟨g, 0, none⟩) (k + 1) c) (k + 1) (vs ++ [u])) (hgr : (w.alloc o).grownBy w' v.ownBlock) (hg : v.ownBlock = some g ∨ g = w.heap.size + 1) :
    OutR w' B m l rs n (.slice (some ⟨g, 0, none⟩) (k + 1) c) (k + 1) (vs ++ [u]) := by
  have keep : ∀ j, j < w.heap.size → v.ownBlock ≠ some j → w'.heap[j]? = w.heap[j]? := fun j hj hne => by
    rw [grown_block hgr (by simp; omega) hne, Below.heap_alloc _ _ _ hj]
  have far : ∀ (x : Value) (xs : List Value), w.ownsRow B 5 1 x m xs → (∀ g, x.ownBlock = some g → v.ownBlock ≠ some g) → w'.ownsRow B 5 1 x m xs ∧ ∀ b, x.ownBlock = some b → (Value.slice (some ⟨g, 0, none⟩) (k + 1) c).ownBlock ≠ some b := by
    intro x xs hx hf
    refine ⟨own_of_block hx (fun b hb => keep b (own_lt hx hb).2 (hf b hb)), fun b hb q => ?_⟩
    have e : g = b := by simpa [Value.ownBlock] using q
    subst e
    rcases hg with e | e
    · exact hf g hb e
    · have := (own_lt hx hb).2; omega
  refine ⟨by simp [h.len], hown, fun t ht => ?_⟩
  by_cases e : t = k
  · subst e
    exact ⟨u, by rw [← h.len]; simp, (far u _ hu hfar).1, (far u _ hu hfar).2⟩
  · obtain ⟨x, h1, h2, h3⟩ := h.each t (by omega)
    exact ⟨x, by rw [List.getElem?_append_left (by rw [h.len]; omega)]; exact h1, (far x _ h2 h3).1, (far x _ h2 h3).2⟩

theorem own_base {w : World} {B B' n : Nat} {e : TypeId} {v : Value} {xs : List Value} (h : w.ownsRow B e 1 v n xs) (hB : B' ≤ B) : w.ownsRow B' e 1 v n xs := by
  obtain ⟨h1, h2⟩ := h
  refine ⟨h1, ?_⟩
  rcases h2 with h2 | ⟨g', cap, cur, h3, h4, h5⟩
  · exact .inl h2
  · exact .inr ⟨g', cap, cur, h3, Nat.le_trans hB h4, h5⟩

set_option maxRecDepth 100000 in
set_option maxHeartbeats 2000000 in
theorem refRestore_ok (zb zo zc lb lo lc n m : Nat) (l : List Int) (rs : List Raw) (w : World) (hl : l.length = n) (hr : rs.length = n) (hn1 : 1 ≤ n) (hn8 : n ≤ 8) (hp : placesB l n = true) (he : evenR rs = true) (hm0 : (wat rs 0).l.length = m) (hm : m ≤ 140737488355000) (hZ : Zs w zb zo l) (hW : Ws w lb lo rs) :
    Calls Tryd.prog 34 #[.int .i64 (n : Int), .slice (some ⟨zb, zo, none⟩) n zc, .slice (some ⟨lb, lo, none⟩) n lc] w fun e w' =>
      ∃ v vs, e = .returned (.tuple #[v, .int .i64 0]) ∧ OutR w' w.heap.size m l rs n v n vs ∧ Below w.heap.size w w' := by
  have hzl := hZ.lt (by omega)
  have H40 : Hid (Calls Tryd.prog 49 #[.slice (some ⟨lb, lo, none⟩) n lc] w fun e w' => e = .returned (.bool (evenR rs)) ∧ ∃ nq, w' = w.drewN nq) := evenG_any (some ⟨lb, lo, none⟩) lb lo lc n rs w hr (by omega) (fun _ => rfl) hW
  have HL : Hid (l.length = n) := hl
  have HR : Hid (rs.length = n) := hr
  have HP : Hid (placesB l n = true) := hp
  have HLEN : Hid (∀ i, i < n → (wat rs i).l.length = m) := fun i hi => (evenR_len he i (by rw [hr]; exact hi)).trans hm0
  clear hl hr hp hm0
  have hnn : ((n : Int) != (n : Int)) = false := by simp
  obtain ⟨ib, hib, hb0, hb1, hb2⟩ := Tryd.bytes_parts
  go_enter Tryd.func34, Tryd.ntmps34
  go_wp2_with fail
  refine H40.out.mono ?_
  rintro e w1 ⟨rfl, nq, rfl⟩
  clear H40
  go_wp2_with fail
  go_loopw [9] (fun t wr => ∃ (i nq : Nat), i ≤ n ∧ t = .int .i64 (i : Int) ∧ wr = w.drewN nq) (fun t _ => n - (intOf t).toNat)
  case atStart => exact ⟨0, nq, by omega, rfl, rfl⟩
  case round =>
    obtain ⟨i, nq2, hi, rfl, rfl⟩ := hrel
    by_cases hlt : i < n
    · obtain ⟨hz0, hz1⟩ := placesB_range HP.out i hlt
      have hci : w.cell? ⟨zb, zo + i, none⟩ = some (.int .i64 (zat l i)) := hZ i (by rw [HL.out]; exact hlt)
      have hin : (i : Int) < (n : Int) := by omega
      go_wp2_with fail
      go_loopw [10] (fun t wr => ∃ (j nq : Nat), j ≤ i ∧ t = .int .i64 (j : Int) ∧ wr = w.drewN nq) (fun t _ => i - (intOf t).toNat)
      case atStart => exact ⟨0, nq2, by omega, rfl, rfl⟩
      case round =>
        obtain ⟨j, nq3, hj, rfl, rfl⟩ := hrel
        by_cases hlt2 : j < i
        · have hcj : w.cell? ⟨zb, zo + j, none⟩ = some (.int .i64 (zat l j)) := hZ j (by rw [HL.out]; omega)
          have hjn : (j : Int) < (n : Int) := by omega
          have hne : (zat l j == zat l i) = false := by
            rw [beq_eq_false_iff_ne]
            intro e
            have := placesB_apart HP.out j i (by omega) hlt e
            omega
          go_wp2_with fail
          go_quiet (fail)
          go_wp2_with fail
          go_roundw
          case rel => exact ⟨j + 1, _, by omega, by go_num, rfl⟩
          case measure => simp [intOf]; omega
        · go_wp2_with fail
          go_roundw
          case rel => exact ⟨i + 1, nq3, by omega, by go_num, rfl⟩
          case measure => simp [intOf]; omega
    · obtain rfl : i = n := by omega
      have hb1' : Below w.heap.size w (w.drewN nq2) := ⟨rfl, rfl, rfl, Nat.le_refl _, fun _ _ => rfl⟩
      go_wp2_with fail
      go_loopw [11, 12] (fun v t wr => ∃ (k : Nat) (vs : List Value), k ≤ i ∧ t = .int .i64 (k : Int) ∧ OutR wr w.heap.size m l rs i v k vs ∧ Below w.heap.size w wr) (fun _ t _ => i - (intOf t).toNat)
      case atStart => exact ⟨0, [], by omega, rfl, OutR.nil .., hb1'⟩
      case round =>
        obtain ⟨k, vs, hk, rfl, hO, hb3⟩ := hrel
        have hs3 := hb3.size
        by_cases hlt2 : k < i
        · obtain ⟨wA, rfl⟩ : ∃ x, x = wr := ⟨wr, rfl⟩
          go_wp2_with fail
          refine (at_any zb zo zc lb lo lc i m l rs (k : Int) _ HL.out HR.out (by omega) hn8 HP.out ⟨by omega, by omega⟩ HLEN.out hm (hZ.below hb3 hzl) (hW.below hb3)).mono ?_
          rintro e w5 ⟨u, rfl, hO5, hb5⟩
          rw [show byteOf (k : Int) = BitVec.ofNat 8 k from rfl] at hO5
          have hK5 := hO.kept (fun j hj => hb5.block j hj)
          have hfar : ∀ g, u.ownBlock = some g → u11.ownBlock ≠ some g := fun g hg q => by
            have h1 := (own_lt hO5 hg).1
            have h2 := (own_lt hO.own q).2
            omega
          have hU5 := own_base hO5 hs3
          have hb15 : Below w.heap.size w w5 := hb3.trans (hb5.mono hs3)
          have hs5 := hb15.size
          obtain ⟨au, cu, rfl, _⟩ := own_form hU5
          clear hO5
          go_wp2_with (at_builtin; refine wpList_append_lies _ rfl _ _ _ rfl w.heap.size 33 ib (.slice none 0 0) 1 24 Tryd.underlying31 hib hb0 hb1 hb2 rfl (by omega) u11 k vs rfl (hK5.own.alloc _) ⟨w5.heap.size, 0, none⟩ 1 1 [.slice au m cu] rfl rfl ?c1 ?c2 (by omega) ?c3 (by omega) ?c4 (w5.heap.size + 1) ?c5 ?_)
          case c1 => exact cell_one_new _ _ _
          case c2 => intro u hu; simp at hu; subst hu; rfl
          case c3 => unfold maxLen; omega
          case c4 => simp; omega
          case c5 => simp
          intro ga ca w6 hown6 hgr6 hlie6 hlt6
          have hO6 := hK5.step hU5 hfar hown6 hgr6 hlie6
          have hb6 : Below w.heap.size w w6 := (hb15.alloc hs5 _).grown hgr6 (by simp; omega) (fun t ht => (own_lt hK5.own ht).1)
          clear hown6 hgr6 hlie6 hlt6
          go_wp2_with fail
          go_roundw
          case rel => exact ⟨k + 1, _, by omega, by go_num, hO6, hb6⟩
          case measure => simp [intOf]; omega
        · obtain rfl : k = i := by omega
          go_wp2_with fail
          go_ret2
          exact ⟨u11, vs, rfl, hO, hb3⟩

set_option maxRecDepth 100000 in
set_option maxHeartbeats 2000000 in
/-- murmurref.Restore, where something may not be. -/
theorem refRestore_no (az al : Option Addr) (zb zo zc zn lb lo lc sn : Nat) (k : Int) (l : List Int) (rs : List Raw) (w : World) (hl : l.length = zn) (hr : rs.length = sn) (hzn : zn ≤ 140737488355328) (hsn : sn ≤ 140737488355328) (haz : 0 < zn → az = some ⟨zb, zo, none⟩) (hal : 0 < sn → al = some ⟨lb, lo, none⟩) (hZ : Zs w zb zo l) (hW : Ws w lb lo rs)
    (hbad : ¬ (1 ≤ k ∧ k ≤ 8) ∨ (zn : Int) ≠ k ∨ (sn : Int) ≠ k ∨ evenR rs = false ∨ placesB l zn = false) :
    Calls Tryd.prog 34 #[.int .i64 k, .slice az zn zc, .slice al sn lc] w fun e w' =>
      e = .returned (.tuple #[.slice none 0 0, .int .i64 2]) ∧ Below w.heap.size w w' := by
  have H40 : Hid (Calls Tryd.prog 49 #[.slice al sn lc] w fun e w' => e = .returned (.bool (evenR rs)) ∧ ∃ nq, w' = w.drewN nq) := evenG_any al lb lo lc sn rs w hr hsn hal hW
  have fin : ∀ nq, Below w.heap.size w (w.drewN nq) := fun nq => ⟨rfl, rfl, rfl, Nat.le_refl _, fun _ _ => rfl⟩
  have FIN : Hid (∀ nq, Below w.heap.size w (w.drewN nq)) := fin
  have HL : Hid (l.length = zn) := hl
  clear fin hr hal hl
  by_cases h1 : k < 1
  · clear hbad
    go_enter Tryd.func34, Tryd.ntmps34
    go_wp2_with (go_at_call 49; refine H40.out.mono ?_; rintro e w1 ⟨rfl, nq, rfl⟩)
    go_ret2
    exact ⟨rfl, FIN.out _⟩
  by_cases h2 : 8 < k
  · clear hbad
    go_enter Tryd.func34, Tryd.ntmps34
    go_wp2_with (go_at_call 49; refine H40.out.mono ?_; rintro e w1 ⟨rfl, nq, rfl⟩)
    go_ret2
    exact ⟨rfl, FIN.out _⟩
  by_cases h3' : ((zn : Int) != k) = true
  · clear hbad
    go_enter Tryd.func34, Tryd.ntmps34
    go_wp2_with (go_at_call 49; refine H40.out.mono ?_; rintro e w1 ⟨rfl, nq, rfl⟩)
    go_ret2
    exact ⟨rfl, FIN.out _⟩
  have h3 : ((zn : Int) != k) = false := by simpa using h3'
  clear h3'
  by_cases h4' : ((sn : Int) != k) = true
  · clear hbad
    go_enter Tryd.func34, Tryd.ntmps34
    go_wp2_with (go_at_call 49; refine H40.out.mono ?_; rintro e w1 ⟨rfl, nq, rfl⟩)
    go_ret2
    exact ⟨rfl, FIN.out _⟩
  have h4 : ((sn : Int) != k) = false := by simpa using h4'
  clear h4'
  cases h5 : evenR rs
  · clear hbad
    go_enter Tryd.func34, Tryd.ntmps34
    go_wp2_with (go_at_call 49; refine H40.out.mono ?_; rintro e w1 ⟨rfl, nq, rfl⟩)
    go_ret2
    exact ⟨rfl, FIN.out _⟩
  have hk : (zn : Int) = k := by simpa using h3
  have hp : placesB l zn = false := by
    rcases hbad with h | h | h | h | h
    · omega
    · exact absurd hk h
    · exact absurd (by simpa using h4) h
    · rw [h5] at h; cases h
    · exact h
  subst hk
  have haz' := haz (by omega)
  subst haz'
  have HP : Hid (placesB l zn = false) := hp
  clear hbad hp haz
  go_enter Tryd.func34, Tryd.ntmps34
  go_wp2_with fail
  refine H40.out.mono ?_
  rintro e w1 ⟨rfl, nq, rfl⟩
  clear H40
  go_wp2_with fail
  go_loopw [9] (fun t wr => ∃ (i nq : Nat), i ≤ zn ∧ t = .int .i64 (i : Int) ∧ wr = w.drewN nq ∧ Hid (∀ t, t < i → plcB (zat l t) = true ∧ hasB l t (zat l t) = false)) (fun t _ => zn - (intOf t).toNat)
  case atStart => exact ⟨0, nq, by omega, rfl, rfl, fun t ht => by omega⟩
  case round =>
    obtain ⟨i, nq2, hi, rfl, rfl, HA⟩ := hrel
    by_cases hlt : i < zn
    · have hci : w.cell? ⟨zb, zo + i, none⟩ = some (.int .i64 (zat l i)) := hZ i (by rw [HL.out]; exact hlt)
      have hin : (i : Int) < (zn : Int) := by omega
      by_cases hz0 : zat l i < 0
      · go_wp2_with fail
        go_ret2
        exact ⟨rfl, FIN.out _⟩
      by_cases hz1 : 255 < zat l i
      · go_wp2_with fail
        go_ret2
        exact ⟨rfl, FIN.out _⟩
      have HPL : Hid (plcB (zat l i) = true) := plcB_yes ⟨by omega, by omega⟩
      go_wp2_with fail
      go_loopw [10] (fun t wr => ∃ (j nq : Nat), j ≤ i ∧ t = .int .i64 (j : Int) ∧ wr = w.drewN nq ∧ Hid (hasB l j (zat l i) = false)) (fun t _ => i - (intOf t).toNat)
      case atStart => exact ⟨0, nq2, by omega, rfl, rfl, rfl⟩
      case round =>
        obtain ⟨j, nq3, hj, rfl, rfl, HB⟩ := hrel
        by_cases hlt2 : j < i
        · have hcj : w.cell? ⟨zb, zo + j, none⟩ = some (.int .i64 (zat l j)) := hZ j (by rw [HL.out]; omega)
          have hjn : (j : Int) < (zn : Int) := by omega
          by_cases e : zat l j = zat l i
          · have hne : (zat l j == zat l i) = true := by rw [beq_iff_eq]; exact e
            clear e
            go_wp2_with fail
            go_quiet (fail)
            go_wp2_with fail
            go_ret2
            exact ⟨rfl, by rw [World.drewN_drewN]; exact FIN.out _⟩
          · have hne : (zat l j == zat l i) = false := by rw [beq_eq_false_iff_ne]; exact e
            have HB2 : Hid (hasB l (j + 1) (zat l i) = false) := hasB_succ_of HB.out e
            clear e
            go_wp2_with fail
            go_quiet (fail)
            go_wp2_with fail
            go_roundw
            case rel => exact ⟨j + 1, _, by omega, by go_num, rfl, HB2⟩
            case measure => simp [intOf]; omega
        · obtain rfl : j = i := by omega
          go_wp2_with fail
          go_roundw
          case rel => exact ⟨j + 1, nq3, by omega, by go_num, rfl, fun t ht => by by_cases h : t = j; (rw [h]; exact ⟨HPL.out, HB.out⟩); exact HA.out t (by omega)⟩
          case measure => simp [intOf]; omega
    · obtain rfl : i = zn := by omega
      exfalso
      have := (placesB_iff l i).2 HA.out
      rw [HP.out] at this
      cases this

end Go.Proofs.YtjabhnhejbhgjaaDoor
