/- Hands.keepList: the first list that is kept. -/
import Derived.Test.YtjabhnhejbhgjaaDoorHandsRest
import Derived.Deep.CutRange
namespace Go.Proofs.YtjabhnhejbhgjaaDoor
open Go.RowKit

set_option maxRecDepth 100000 in
set_option maxHeartbeats 4000000 in
theorem keepList_any (A : Nat → Addr) (B0 hb Bv N n m : Nat) (s : HS) (es : List Ent) (v : Value) (us : List Value) (w : World) (hI : Inv A B0 w hb N s es []) (hN : N ≤ 100) (hes : es.length ≤ 1000) (hn8 : n ≤ 8) (hm : m ≤ 14073748835000) (hR : OutRows w Bv v n m us) (hBv : hb ≤ Bv) (hBw : Bv ≤ w.heap.size)
    (hlowE : ∀ e ∈ es, ∀ g, e.v.ownBlock = some g → g < Bv) (hlowO : ∀ g, s.out.ownBlock = some g → g < Bv) :
    Calls Tryd.prog 36 #[.pointer (some ⟨hb, 0, none⟩), v] w fun e w' =>
      e = .returned (.tuple #[]) ∧ ∃ s' eo lo, Inv A B0 w' hb (N + n + 1) s' eo lo ∧ eo.length = es.length + 4 * n ∧ lo.length = 4 ∧ Below hb w w' := by
  obtain ⟨a, c, hva⟩ := own_len hR.own
  have HV : Hid (v = .slice a n c) := hva
  have hul : us.length = n := by simpa using hR.own.1
  have HUL : Hid (us.length = n) := hul
  have HAP : Hid (∀ (i j : Nat) (u u' : Value) (g : Nat), us[i]? = some u → us[j]? = some u' → u.ownBlock = some g → u'.ownBlock = some g → i = j) := hR.apart
  have HVB : Hid (∀ g, v.ownBlock = some g → Bv ≤ g ∧ g < w.heap.size) := fun g hg => hR.own.lt g hg
  have HUB : Hid (∀ (i : Nat) (u : Value) (g : Nat), us[i]? = some u → u.ownBlock = some g → Bv ≤ g ∧ g < w.heap.size) := fun i u g hi hg => by
    obtain ⟨xs, hx⟩ := hR.each i u hi
    exact hx.lt g hg
  have hrows : Hid (∀ (j : Nat) (u : Value), 0 ≤ j → us[j]? = some u → ∃ xs, w.ownsRow Bv 5 1 u m xs) := fun j u _ hj => hR.each j u hj
  have hloc : Hid (∀ e ∈ es, ∀ g, e.v.ownBlock = some g → g < Bv ∨ w.heap.size ≤ g ∨ ∃ (j : Nat) (u : Value), j < 0 ∧ us[j]? = some u ∧ u.ownBlock = some g) := fun e he g hg => .inl (hlowE e he g hg)
  have hout : Hid (∀ g, s.out.ownBlock = some g → g < Bv ∨ w.heap.size ≤ g) := fun g hg => .inl (hlowO g hg)
  have hown := hR.own
  rw [hva]
  clear hva hul hR hlowE hlowO
  go_enter Tryd.func36, Tryd.ntmps36
  go_wp2_with fail
  go_loopw [4] (fun t wr => ∃ (i : Nat) (si : HS) (eo : List Ent), i ≤ n ∧ t = .int .i64 (i : Int) ∧ Inv A B0 wr hb (N + i) si eo [] ∧ Hid (eo.length = es.length + 4 * i) ∧ wr.ownsRow Bv 33 1 v n us ∧ Hid (∀ (j : Nat) (u : Value), i ≤ j → us[j]? = some u → ∃ xs, wr.ownsRow Bv 5 1 u m xs) ∧
      Hid (∀ e ∈ eo, ∀ g, e.v.ownBlock = some g → g < Bv ∨ w.heap.size ≤ g ∨ ∃ (j : Nat) (u : Value), j < i ∧ us[j]? = some u ∧ u.ownBlock = some g) ∧ Hid (∀ g, si.out.ownBlock = some g → g < Bv ∨ w.heap.size ≤ g) ∧ Below hb w wr) (fun t _ => n - (intOf t).toNat)
  case atStart => exact ⟨0, s, es, by omega, rfl, hI, rfl, hown, hrows, hloc, hout, Below.refl _ _⟩
  case round =>
    clear hI hown hrows hloc hout
    obtain ⟨i, si, eo, hi, rfl, hI, HEL, hown, HRW, HLO, HOU, hbl⟩ := hrel
    have hsz := hbl.size
    by_cases hlt : i < n
    · obtain ⟨g, c', hvg, _, _⟩ := hown.form (by omega)
      have e1 : (Value.slice a n c) = .slice (some ⟨g, 0, none⟩) n c' := by rw [← HV.out, hvg]
      simp only [Value.slice.injEq] at e1
      obtain ⟨rfl, _, rfl⟩ := e1
      obtain ⟨u, hui⟩ : ∃ u, us[i]? = some u := ⟨_, List.getElem?_eq_getElem (by rw [HUL.out]; exact hlt)⟩
      obtain ⟨xs, hx⟩ := HRW.out i _ (Nat.le_refl _) hui
      have hcx : wr.cell? ⟨g, i, none⟩ = some u := own_cell hown (by rw [hvg]; rfl) hui
      have hin : (i : Int) < (n : Int) := by omega
      have HUI : Hid (us[i]? = some u) := hui
      clear hui hvg
      go_wp2_with fail
      refine (keep_any hb hb Bv (N + i) m si eo u xs wr hI.num (by omega) hI.hands hI.outs (by rw [HEL.out]; omega) (by omega) (by omega) hx (by omega) (fun e he g' hg' q => by
        obtain ⟨h1, h2⟩ := HUB.out i u g' HUI.out hg'
        rcases HLO.out e he g' q with p | p | ⟨j, u', p1, p2, p3⟩
        · omega
        · omega
        · have := HAP.out i j u u' g' HUI.out p2 hg' p3; omega)).mono ?_
      rintro e w6 ⟨rfl, es', vo, vm, hK⟩
      obtain ⟨hI6, hb6⟩ := hI.afterKeep hx hBv hK
      have hown6 := hK.but.own hown (fun g' hg' q => by
        obtain ⟨h1, h2⟩ := HVB.out g' hg'
        rcases q with q | q | q | q
        · exact own_ne hown hg' hI.hands (by decide) q
        · rcases HOU.out g' q with p | p <;> omega
        · exact own_own_ne hown hI.outs.marks (by decide) g' hg' q
        · exact own_own_ne hown hx (by decide) g' hg' q)
      have HRW6 : Hid (∀ (j : Nat) (u : Value), i + 1 ≤ j → us[j]? = some u → ∃ xs, w6.ownsRow Bv 5 1 u m xs) := fun j u' hj hu' => by
        obtain ⟨xs', hx'⟩ := HRW.out j u' (by omega) hu'
        refine ⟨xs', hK.but.own hx' (fun g' hg' q => ?_)⟩
        rcases q with q | q | q | q
        · exact own_ne hx' hg' hI.hands (by decide) q
        · exact own_own_ne hx' hI.outs.own (by decide) g' hg' q
        · exact own_own_ne hx' hI.outs.marks (by decide) g' hg' q
        · have := HAP.out i j u u' g' HUI.out hu' q hg'; omega
      have HLO6 : Hid (∀ e ∈ eo ++ es', ∀ g, e.v.ownBlock = some g → g < Bv ∨ w.heap.size ≤ g ∨ ∃ (j : Nat) (u : Value), j < i + 1 ∧ us[j]? = some u ∧ u.ownBlock = some g) := fun e he g' hg' => by
        rcases List.mem_append.1 he with he | he
        · rcases HLO.out e he g' hg' with p | p | ⟨j, u', p1, p2, p3⟩
          · exact .inl p
          · exact .inr (.inl p)
          · exact .inr (.inr ⟨j, u', by omega, p2, p3⟩)
        · rcases hK.newAt e he g' hg' with p | p
          · exact .inr (.inr ⟨i, u, by omega, HUI.out, p⟩)
          · exact .inr (.inl (by omega))
      have HOU6 : Hid (∀ g, vo.ownBlock = some g → g < Bv ∨ w.heap.size ≤ g) := fun g' hg' => by
        rcases hK.outAt g' hg' with p | p
        · exact HOU.out g' p
        · right; omega
      have HEL6 : Hid ((eo ++ es').length = es.length + 4 * (i + 1)) := by
        show _ = _
        rw [List.length_append, HEL.out, hK.four]; omega
      clear hK hI hown hx
      go_wp2_with fail
      go_roundw
      case rel => exact ⟨i + 1, _, eo ++ es', by omega, by go_num, hI6, HEL6, hown6, HRW6, HLO6, HOU6, hbl.trans hb6⟩
      case measure => simp [intOf]; omega
    · obtain rfl : i = n := by omega
      have hc4 : wr.cell? ⟨hb, 4, none⟩ = some (.int .i64 ((N : Int) + (i : Int))) := by rw [hI.hands.cell 4, show ((N : Int) + (i : Int)) = si.n by rw [hI.num]; omega]; rfl
      have hf := hI.hands.frozen
      go_wp2_with fail
      have hI2 := hI.setN (N' := N + i + 1) ((N : Int) + (i : Int) + 1) (by omega)
      have hb2 : But (fun b => b = hb) wr (wr.setCell ⟨hb, 4, none⟩ (.int .i64 ((N : Int) + (i : Int) + 1))) := But.setCell (S := fun b => b = hb) (But.refl _ _) (p := ⟨hb, 4, none⟩) (.inl rfl) _
      have hown2 := hb2.own hown (fun g hg q => own_ne hown hg hI.hands (by decide) q)
      have hbl2 : Below hb w (wr.setCell ⟨hb, 4, none⟩ (.int .i64 ((N : Int) + (i : Int) + 1))) := hbl.setCell (p := ⟨hb, 4, none⟩) (Nat.le_refl _) _
      generalize wr.setCell ⟨hb, 4, none⟩ (.int .i64 ((N : Int) + (i : Int) + 1)) = wA at *
      clear hI hown hb2 hbl hc4 hf HRW
      go_loopw [5] (fun t wr => ∃ (k : Nat) (usk : List Value), k ≤ i ∧ t = .int .i64 (k : Int) ∧ Inv A B0 wr hb (N + i + 1) { si with n := (N : Int) + (i : Int) + 1 } eo [] ∧ wr.ownsRow Bv 33 1 v i usk ∧ Hid (∀ (j : Nat) (u : Value), j < k → usk[j]? = some u → TwoB wr u (N + i + 1)) ∧ Below hb w wr) (fun t _ => i - (intOf t).toNat)
      case atStart => exact ⟨0, us, by omega, rfl, hI2, hown2, fun j u hj => by omega, hbl2⟩
      case round =>
        clear hI2 hown2 hbl2
        obtain ⟨k, usk, hk, rfl, hI2, hown2, HTW, hbl2⟩ := hrel
        by_cases hlt2 : k < i
        · obtain ⟨wB, rfl⟩ : ∃ x, x = wr := ⟨wr, rfl⟩
          obtain ⟨g, c', hvg, _, hgl⟩ := hown2.form (by omega)
          have e1 : (Value.slice a i c) = .slice (some ⟨g, 0, none⟩) i c' := by rw [← HV.out, hvg]
          simp only [Value.slice.injEq] at e1
          obtain ⟨rfl, _, rfl⟩ := e1
          have hukl : usk.length = i := by simpa using hown2.1
          obtain ⟨x, hx⟩ : ∃ x, usk[k]? = some x := ⟨_, List.getElem?_eq_getElem (by rw [hukl]; exact hlt2)⟩
          have hcx : wB.cell? ⟨g, k, none⟩ = some x := own_cell hown2 (by rw [hvg]; rfl) hx
          have hfx := own_frozen hown2 (g := g) (by rw [hvg]; rfl) k
          have hc4 : wB.cell? ⟨hb, 4, none⟩ = some (.int .i64 ((N : Int) + (i : Int) + 1)) := hI2.hands.cell 4
          have hgh : g ≠ hb := own_ne hown2 (g := g) (by rw [hvg]; rfl) hI2.hands (by decide)
          have hhl := hI2.hands.lt
          have hbn : hb ≠ wB.heap.size := by omega
          have hgn : g ≠ wB.heap.size := by omega
          have hkn : (k : Int) < (i : Int) := by omega
          have HUK : Hid (usk.length = i) := hukl
          have hq0 : ((N : Int) + (i : Int) + 1) / 256 = 0 := by omega
          have HVG : Hid (v = .slice (some ⟨g, 0, none⟩) i c) := hvg
          clear hvg hx hukl
          go_wp2_with fail
          go_region
          obtain ⟨sl, hsl⟩ : ∃ sl, sl = Value.slice (some ⟨wB.heap.size, 0, none⟩) 2 2 := ⟨_, rfl⟩
          have hgB : Bv ≤ g ∧ g < w.heap.size := HVB.out g (by rw [HVG.out]; rfl)
          obtain ⟨wC, hwC⟩ : ∃ x, x = ((wB.setCell ⟨g, k, none⟩ (.slice (some ⟨wB.heap.size, 0, none⟩) 2 2)).alloc (.cells #[.int .u8 ((N : Int) + (i : Int) + 1), .int .u8 0] 5)).drew := ⟨_, rfl⟩
          have hbC : But (fun b => b = g) wB wC := by
            rw [hwC]
            exact ((But.setCell (S := fun b => b = g) (But.refl _ _) (p := ⟨g, k, none⟩) (.inl rfl) _).alloc _).drew
          have hI3 := hI2.butAt hbC (fun b hb' q => by omega) (fun b hb' q => by rcases HOU.out b hb' with p | p <;> omega) (fun b hb' q => own_own_ne hI2.outs.marks hown2 (by decide) b hb' (by rw [HVG.out, q]; rfl)) (fun b hb' q => own_own_ne hI2.outers.own hown2 (by decide) b hb' (by rw [HVG.out, q]; rfl)) (fun b hb' q => own_own_ne hI2.outers.marks hown2 (by decide) b hb' (by rw [HVG.out, q]; rfl)) (fun e he b hb' q => (hI2.outs.each e he).1.ne_own hown2 (by decide) b hb' (by rw [HVG.out, q]; rfl))
          have hown3 : wC.ownsRow Bv 33 1 v i (usk.set k (.slice (some ⟨wB.heap.size, 0, none⟩) 2 2)) := by
            rw [hwC]
            rw [HVG.out] at hown2 ⊢
            exact (own_set hown2).alloc _
          have hnew : TwoB wC (.slice (some ⟨wB.heap.size, 0, none⟩) 2 2) (N + i + 1) := ⟨wB.heap.size, rfl, by
            rw [hwC]
            have := heap_alloc_new (wB.setCell ⟨g, k, none⟩ (.slice (some ⟨wB.heap.size, 0, none⟩) 2 2)) (.cells #[.int .u8 ((N : Int) + (i : Int) + 1), .int .u8 0] 5)
            simp only [World.size_setCell] at this
            exact this⟩
          have HTW3 : Hid (∀ (j : Nat) (u : Value), j < k + 1 → (usk.set k (.slice (some ⟨wB.heap.size, 0, none⟩) 2 2))[j]? = some u → TwoB wC u (N + i + 1)) := fun j u hj hu => by
            rw [List.getElem?_set] at hu
            by_cases e : k = j
            · subst e
              rw [if_pos rfl, if_pos (by rw [HUK.out]; exact hlt2)] at hu
              obtain rfl := Option.some.inj hu
              exact hnew
            · rw [if_neg e] at hu
              exact (HTW.out j u (by omega) hu).but hbC (fun b cs hc q => own_ne hown2 (g := b) (by rw [HVG.out, q]; rfl) hc (by decide) rfl)
          have hbl3 : Below hb w wC := hbl2.trans (hbC.toBelow (by omega) (fun b hb' q => by omega))
          rw [← hwC]
          clear hwC hI2 hown2 hbl2 hbC
          go_wp2_with fail
          go_roundw
          case rel =>
            first
              | exact ⟨k + 1, _, by omega, by go_num, hI3, hown3, HTW3, hbl3⟩
              | ((repeat apply Exists.intro); exact ⟨⟨k + 1, _, by omega, by go_num, hI3, hown3, HTW3, hbl3⟩, rfl⟩)
          case measure => simp [intOf]; omega
        · obtain rfl : k = i := by omega
          obtain ⟨wD, rfl⟩ : ∃ x, x = wr := ⟨wr, rfl⟩
          have hukl : usk.length = k := by simpa using hown2.1
          obtain ⟨s2, hs2⟩ : ∃ s2 : HS, s2 = { si with n := (N : Int) + (k : Int) + 1 } := ⟨_, rfl⟩
          rw [← hs2] at hI2
          have hn2 : s2.n = (N : Int) + (k : Int) + 1 := by rw [hs2]
          have hou : ∀ g, s2.out.ownBlock = some g → g < Bv ∨ w.heap.size ≤ g := by rw [hs2]; exact HOU.out
          have hks : KL wD wD hb Bv k (N + k + 1) s2 eo v v s2.outer s2.omarks [] [] 0 :=
            ⟨hI2.hands, hI2.outers.own, hI2.outers.marks, fun e he => by simp at he, ⟨usk, hown2, fun u hu => by
              obtain ⟨j, hj, rfl⟩ := List.mem_iff_getElem.1 hu
              exact HTW.out j _ (by omega) (List.getElem?_eq_getElem hj)⟩, hI2.outs, fun b q => .inl q, fun b q => .inl q, fun b q => .inl q, fun e he => by simp at he, fun g hg q => by
              obtain ⟨h1, h2⟩ := HVB.out g hg
              rcases hou g q with p | p <;> omega, fun e he => by simp at he, hI2.apartM, But.refl _ _⟩
          have HN2 : Hid (s2.n = (N : Int) + (k : Int) + 1) := hn2
          have HI2 : Hid (Inv A B0 wD hb (N + k + 1) s2 eo []) := hI2
          have HVL : Hid (∀ g, v.ownBlock = some g → Bv ≤ g) := fun g hg => (HVB.out g hg).1
          obtain ⟨iB, hiB, hiB0, hiB1, hiB2⟩ := Tryd.bytes_parts
          obtain ⟨iI, hiI, hiI0, hiI1, hiI2⟩ := Tryd.int_parts
          obtain ⟨iR, hiR, hiR0, hiR1, hiR2⟩ := Tryd.rows_parts
          have hhD := hI2.hands.lt
          have hBD : Bv ≤ wD.heap.size := by have := hbl2.size; omega
          clear hs2 hn2 hou hI2 hown2 HTW hukl
          go_wp2_with fail
          go_loopw [1, 6] (fun t1 t6 wr => ∃ (q : Nat) (lo : List EntL) (vo vm : Value), q ≤ 4 ∧ t6 = .int .i64 (q : Int) ∧ Hid (lo.length = q) ∧ KL wD wr hb Bv k (N + k + 1) s2 eo v t1 vo vm lo lo q) (fun _ t _ => 4 - (intOf t).toNat)
          case atStart => exact ⟨0, [], s2.outer, s2.omarks, by omega, rfl, rfl, by rw [← HV.out]; exact hks⟩
          case round =>
            clear hks
            obtain ⟨q, lo, vo, vm, hq, rfl, HLL, hK⟩ := hrel
            by_cases hlt4 : q < 4
            · obtain ⟨wA', rfl⟩ : ∃ x, x = wr := ⟨wr, rfl⟩
              obtain ⟨us1, hr1, hr2⟩ := hK.row
              obtain ⟨la, lc, rfl⟩ := own_len hr1
              have hq4 : (q : Int) < 4 := by omega
              have hlen : lo.length ≤ 10 := by rw [HLL.out]; omega
              have hszA := hK.but.size
              have hc7 : wA'.cell? ⟨hb, 7, none⟩ = some vo := hK.hands.cell 7
              clear hr1 hr2
              go_wp2_with (at_builtin; refine wpList_append_lies _ rfl _ _ _ rfl hb 31 iR (.slice none 0 0) 1 24 Tryd.underlying38 hiR hiR0 hiR1 hiR2 rfl (by omega) vo lo.length (lo.map (·.v)) rfl (hK.own.alloc _) ⟨wA'.heap.size, 0, none⟩ 1 1 [.slice la (k + q) lc] rfl rfl ?c1 ?c2 (by omega) ?c3 ?c4 ?c5 (wA'.heap.size + 1) ?c6 ?_)
              case c1 => exact cell_one_at _ _ _ _ rfl
              case c2 => intro u hu; simp at hu; subst hu; rfl
              case c3 => unfold maxLen; omega
              case c4 => omega
              case c5 => simp; omega
              case c6 => simp
              intro g1 cap1 w2 hown2 hgr2 hlie2 hlt2'
              have hb2 : But (fun b => vo.ownBlock = some b) wA' w2 := ((But.refl _ wA').alloc _).grown hgr2 (fun k hk => .inl hk)
              have hK3 := hK.pushOut (by omega) (by omega) hb2 hown2 (fun b hq => by
                have e : g1 = b := by simpa [Value.ownBlock] using hq
                subst e
                rcases hlie2 with p | p
                · exact .inl p
                · right; omega)
              have hH2 : HAt w2 hb { s2 with outer := vo, omarks := vm } := hK.hands.kept (hb2.block hb hK.hands.lt (fun p => own_ne hK.own p hK.hands (by decide) rfl))
              have hc72 : w2.cell? ⟨hb, 7, none⟩ = some vo := hH2.cell 7
              have hf72 := hH2.frozen 7
              clear hown2 hgr2 hlie2 hb2 hK hc7
              go_wp2_with fail
              obtain ⟨w3, hw3⟩ : ∃ x, x = w2.setCell ⟨hb, 7, none⟩ (.slice (some ⟨g1, 0, none⟩) (lo.length + 1) cap1) := ⟨_, rfl⟩
              rw [← hw3] at hK3
              rw [← hw3]
              clear hw3 hc72 hf72 hH2
              have hc8 : w3.cell? ⟨hb, 8, none⟩ = some vm := hK3.hands.cell 8
              have hc4 : w3.cell? ⟨hb, 4, none⟩ = some (.int .i64 ((N : Int) + (k : Int) + 1)) := by rw [hK3.hands.cell 4, ← HN2.out]; rfl
              have hf8 := hK3.hands.frozen 8
              have hsz3 := hK3.but.size
              have hmo : ∀ u ∈ [Value.int .i64 ((N : Int) + (k : Int) + 1)], u.oneCell' = true := by intro u hu; simp at hu; subst hu; rfl
              have hm1 : lo.length + 1 ≤ maxLen := by unfold maxLen; omega
              have hm2 : (lo.length + 1) * 8 ≤ 140737488355328 := by omega
              have HM3 : Hid (∀ o, hb ≤ (w3.alloc o).drew.heap.size) := fun o => by simp; omega
              have HMK : Hid (∀ o, (w3.alloc o).drew.ownsRow hb 3 1 vm lo.length (lo.map fun e => .int .i64 (e.m : Int))) := fun o => hK3.marks.alloc o
              have hbl3 : hb < w3.heap.size := hK3.hands.lt
              have hbn3 : hb ≠ w3.heap.size := Nat.ne_of_lt hbl3
              go_upto_region 13 with fail
              go_cut [] from 48 to 89 (fun wx => ∃ (vm' : Value) (e : EntL), KL wD wx hb Bv k (N + k + 1) s2 eo v (.slice la (k + q) lc) (.slice (some ⟨g1, 0, none⟩) (lo.length + 1) cap1) vm' (lo ++ [e]) (lo ++ [e]) q)
              case first =>
                go_region_law ((refine step_append_lies _ (by rfl) _ _ _ (by rfl) hb 3 iI (.int .i64 0) 1 8 Tryd.underlying32 hiI hiI0 hiI1 hiI2 rfl (by omega) vm lo.length (lo.map fun e => .int .i64 (e.m : Int)) (by rfl) (HMK.out _) ⟨w3.heap.size, 0, none⟩ 1 1 [.int .i64 ((N : Int) + (k : Int) + 1)] (by rfl) rfl (cell_one_at w3 _ _ _ rfl) hmo (by omega) hm1 hm2 (HM3.out _) (w3.heap.size + 1) (by simp) ?_; intro g2 cap2 w4 hown4 hgr4 hlie4 hlt4; have hf84 := (hK3.sees hgr4).2; have hc84 := (hK3.sees hgr4).1))
                all_goals
                  have hb4 : But (fun b => vm.ownBlock = some b) w3 w4 := ((But.refl _ w3).alloc _).drew.grown hgr4 (fun k hk => .inl hk)
                  have hown4' := hown4
                  rw [show ((N : Int) + (k : Int) + 1) = ((N + k + 1 : Nat) : Int) by omega] at hown4'
                  have hK5 := hK3.pushMark ⟨.slice la (k + q) lc, k + q, N + k + 1⟩ rfl hb4 hown4' (fun b hq => by
                    have e : g2 = b := by simpa [Value.ownBlock] using hq
                    subst e
                    rcases hlie4 with p | p
                    · exact .inl p
                    · right; omega)
                  go_wp2_with fail
                  go_meet
                  exact ⟨_, _, hK5⟩
              case rest =>
                obtain ⟨vm5, e5, hK5⟩ := hcut
                clear hK3 HM3 HMK hc8 hc4 hf8 hmo hm1 hm2 hbl3 hbn3
                obtain ⟨w5, rfl⟩ : ∃ x, x = wc := ⟨wc, rfl⟩
                obtain ⟨vo5, hvo5⟩ : ∃ x, x = Value.slice (some ⟨g1, 0, none⟩) (lo.length + 1) cap1 := ⟨_, rfl⟩
                rw [← hvo5] at hK5
                clear hvo5
                have hsz5 := hK5.but.size
                obtain ⟨us5, hr1, hr2⟩ := hK5.row
                have hc45 : w5.cell? ⟨hb, 4, none⟩ = some (.int .i64 ((N : Int) + (k : Int) + 1)) := by rw [hK5.hands.cell 4, ← HN2.out]; rfl
                have hq0 : ((N : Int) + (k : Int) + 1) / 256 = 0 := by omega
                have hbl5 : hb < w5.heap.size := hK5.hands.lt
                have hbn5 : hb ≠ w5.heap.size := Nat.ne_of_lt hbl5
                have hbn6 : hb ≠ w5.heap.size + 1 := by omega
                have hBv5 : Bv ≤ w5.heap.size := by omega
                have HK5 : Hid (KL wD w5 hb Bv k (N + k + 1) s2 eo v (.slice la (k + q) lc) vo5 vm5 (lo ++ [e5]) (lo ++ [e5]) q) := hK5
                have HR1 : Hid (∀ o1 o2, ((w5.alloc o1).alloc o2).drew.ownsRow Bv 33 1 (.slice la (k + q) lc) (k + q) us5) := fun o1 o2 => (hr1.alloc o1).alloc o2
                have HM5 : Hid (∀ o1 o2, Bv ≤ ((w5.alloc o1).alloc o2).drew.heap.size) := fun o1 o2 => by simp; omega
                have HB1 : Hid (w5.ownsRow Bv 33 1 (.slice la (k + q) lc) (k + q) us5) := hr1
                have HB2 : Hid (∀ u ∈ us5, TwoB w5 u (N + k + 1)) := hr2
                have HMO : Hid (∀ u ∈ [Value.slice (some ⟨w5.heap.size, 0, none⟩) 2 2], u.oneCell' = true) := by intro u hu; simp at hu; subst hu; rfl
                have HN1 : Hid (k + q + 1 ≤ maxLen) := by unfold maxLen; show _ ≤ _; omega
                have HNB : Hid (((k + q + 1) + (k + q + 1) / 4 + 192) * 24 ≤ 281474976710656) := by show _ ≤ _; omega
                have HN3 : Hid ((k + q + 1) * 24 ≤ 140737488355328) := by show _ ≤ _; omega
                have HS4 : Hid (∀ o1 o2 w6, ((w5.alloc o1).alloc o2).drew.grownBy w6 (Value.slice la (k + q) lc).ownBlock → w6.cell? ⟨hb, 4, none⟩ = some (.int .i64 ((N : Int) + (k : Int) + 1))) := fun o1 o2 w6 hg => by
                  rw [World.cell?_of_block (w := w5) (a := ⟨hb, 4, none⟩) (by
                    show w6.heap[hb]? = w5.heap[hb]?
                    rw [grown_block hg (by simp; omega) (fun p => own_ne HB1.out p HK5.out.hands (by decide) rfl)]
                    exact (Below.heap_alloc (w5.alloc o1) o2 hb (by simp; omega)).trans (Below.heap_alloc w5 o1 hb hbl5))]
                  exact hc45
                clear hr1 hr2 hK5
                clear HV HUL HAP HVB HUB HEL HLO HOU HI2 HVL HN2
                go_upto_region 14 with fail
                go_region_held3 (fun w' => w'.cell? ⟨hb, 4, none⟩ = some (.int .i64 ((N : Int) + (k : Int) + 1))) (first | go_keep | exact hc46) ((refine step_append_apart (by rfl) _ _ _ (by rfl) Bv 33 iB (.slice none 0 0) 1 24 Tryd.underlying31 hiB hiB0 hiB1 hiB2 rfl (by omega) (.slice la (k + q) lc) (k + q) us5 (by rfl) (HR1.out _ _) ⟨w5.heap.size + 1, 0, none⟩ 1 1 [.slice (some ⟨w5.heap.size, 0, none⟩) 2 2] (by rfl) rfl (cell_one_at (w5.alloc _) _ _ _ (by simp)) HMO.out (by omega) HN1.out HNB.out HN3.out (HM5.out _ _) ?_; intro g6 cap6 w6 hown6 hgr6 hlie6 hlt6; have hc46 := HS4.out _ _ _ hgr6))
                have hwr : IntKind.u8.wrap ((N : Int) + (k : Int) + 1) = (N : Int) + (k : Int) + 1 := by
                  unfold IntKind.wrap
                  simp [IntKind.signed, IntKind.bits]
                  omega
                have hwz : IntKind.u8.wrap 0 = 0 := by decide
                rw [hwr, hwz] at hgr6 hlie6
                have hb6 : But (fun b => (Value.slice la (k + q) lc).ownBlock = some b) w5 w6 := (((But.refl _ w5).alloc _).alloc _).drew.grown hgr6 (fun k hk => .inl hk)
                have hnew : TwoB w6 (.slice (some ⟨w5.heap.size, 0, none⟩) 2 2) (N + k + 1) := ⟨w5.heap.size, rfl, by
                  rw [grown_block hgr6 (by simp; omega) (fun p => by have := (HB1.out.lt _ p).2; omega)]
                  have h1 := Below.heap_alloc (w5.alloc (.cells #[.int .u8 ((N : Int) + (k : Int) + 1), .int .u8 0] 5)) (.cells #[.slice (some ⟨w5.heap.size, 0, none⟩) 2 2] 33) w5.heap.size (by simp)
                  have h2 := heap_alloc_new w5 (.cells #[.int .u8 ((N : Int) + (k : Int) + 1), .int .u8 0] 5)
                  exact h1.trans h2⟩
                have hK7 := HK5.out.more HB1.out HB2.out hb6 hown6 hnew (by
                  rcases hlie6 with p | ⟨p, hall⟩
                  · exact .inl p
                  · simp only [World.size_drew, World.size_alloc] at p hall
                    exact .inr ⟨by omega, fun j hj => by
                      rw [hall j (by omega)]
                      exact (Below.heap_alloc (w5.alloc _) _ j (by simp; omega)).trans (Below.heap_alloc w5 _ j hj)⟩)
                clear hown6 hgr6 hlie6 hb6 hnew HS4 HR1 HM5 HB1 HB2 HMO HN1 HNB HN3 HK5
                go_wp2_with fail
                go_roundw
                case rel =>
                  have HEL7 : Hid ((lo ++ [e5]).length = q + 1) := by show _ = _; simp [HLL.out]
                  exact ⟨q + 1, lo ++ [e5], _, _, by omega, by go_num, HEL7, hK7⟩
                case measure => simp [intOf]; omega
            · obtain rfl : q = 4 := by omega
              go_wp2_with fail
              go_end0
              have hI2 := HI2.out
              have hlow : Below hb wD wr := hK.but.toBelow (by omega) (fun b hb' p => by
                rcases p with p | p | p | p
                · omega
                · have := (hI2.outers.own.lt b p).1; omega
                · have := (hI2.outers.marks.lt b p).1; omega
                · have := HVL.out b p; omega)
              refine ⟨rfl, _, eo, lo, ⟨hI2.errs.below (hlow.mono hI2.low), hI2.low, hK.hands, hI2.num, hI2.in0, hI2.rows0, hI2.ints0, hI2.want0, hK.outs, ⟨hK.own, hK.marks, hK.each⟩, hI2.lacks0, hI2.objs0, hK.apartM, hK.apartL⟩, HEL.out, HLL.out, hbl2.trans hlow⟩

end Go.Proofs.YtjabhnhejbhgjaaDoor
