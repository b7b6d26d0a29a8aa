/- Hands.keep: bytes that came out. -/
import Derived.Test.YtjabhnhejbhgjaaDoorKeepMem
import Derived.Deep.RegionHeld3
namespace Go.Proofs.YtjabhnhejbhgjaaDoor
open Go.RowKit

/-- What keep leaves. -/
structure KeptAs (w w' : World) (hb B N : Nat) (s : HS) (es es' : List Ent) (v vo vm : Value) : Prop where
  hands : HAt w' hb { s with n := (N : Int) + 1, out := vo, marks := vm }
  outs : Outs w' B vo vm (es ++ es')
  four : es'.length = 4
  outAt : ∀ b, vo.ownBlock = some b → s.out.ownBlock = some b ∨ w.heap.size ≤ b
  marksAt : ∀ b, vm.ownBlock = some b → s.marks.ownBlock = some b ∨ w.heap.size ≤ b
  newAt : ∀ e ∈ es', ∀ b, e.v.ownBlock = some b → v.ownBlock = some b ∨ w.heap.size ≤ b
  but : But (fun b => b = hb ∨ s.out.ownBlock = some b ∨ s.marks.ownBlock = some b ∨ v.ownBlock = some b) w w'

theorem KS.sees {w wr w4 : World} {hb B Bv N n M : Nat} {s : HS} {es : List Ent} {v lv vo vm : Value} {eo em : List Ent} {k : Nat} {o : Obj} (h : KS w wr hb B Bv N n M s es v lv vo vm eo em k) (hg : (wr.alloc o).drew.grownBy w4 vm.ownBlock) :
    w4.cell? ⟨hb, 6, none⟩ = some vm ∧ w4.cell? ⟨hb, 4, none⟩ = some (.int .i64 ((N : Int) + 1)) ∧ w4.frozen? ⟨hb, 6, none⟩ = false := by
  have hk : w4.heap[hb]? = wr.heap[hb]? := by
    rw [grown_block hg (by have := h.hands.lt; simp; omega) (fun q => own_ne h.marks q h.hands (by decide) rfl)]; exact Below.heap_alloc wr o hb h.hands.lt
  have hH := h.hands.kept hk
  exact ⟨hH.cell 6, hH.cell 4, hH.frozen 6⟩

theorem fill_step (xs : List Value) (u : Value) (i n : Nat) (hl : xs.length = n) (hi : i < n) : (List.replicate i u ++ xs.drop i).set i u = List.replicate (i + 1) u ++ xs.drop (i + 1) := by
  rw [List.set_append_right _ _ (by simp), List.length_replicate, Nat.sub_self, List.drop_eq_getElem_cons (by omega), List.set_cons_zero, List.replicate_succ', List.append_assoc]
  rfl

theorem fill_at (xs : List Value) (u : Value) (i n : Nat) (hl : xs.length = n) (hi : i < n) : ∃ x, (List.replicate i u ++ xs.drop i)[i]? = some x := by
  rw [List.getElem?_append_right (by simp), List.length_replicate, Nat.sub_self, List.getElem?_drop, Nat.add_zero]
  exact ⟨xs[i], List.getElem?_eq_getElem (by omega)⟩

set_option maxRecDepth 100000 in
set_option maxHeartbeats 4000000 in
theorem keep_any (hb B Bv N n : Nat) (s : HS) (es : List Ent) (v : Value) (xs : List Value) (w : World) (hN : s.n = (N : Int)) (hN2 : N ≤ 1000000000) (hH : HAt w hb s) (hO : Outs w B s.out s.marks es) (hes : es.length ≤ 1000000) (hB : B ≤ w.heap.size) (hn : n ≤ 14073748835500)
    (hv : w.ownsRow Bv 5 1 v n xs) (hBv : Bv ≤ w.heap.size) (hfar : ∀ e ∈ es, ∀ g, v.ownBlock = some g → e.v.ownBlock ≠ some g) :
    Calls Tryd.prog 31 #[.pointer (some ⟨hb, 0, none⟩), v] w fun e w' =>
      e = .returned (.tuple #[]) ∧ ∃ es' vo vm, KeptAs w w' hb B N s es es' v vo vm := by
  have hc4 : w.cell? ⟨hb, 4, none⟩ = some (.int .i64 (N : Int)) := by rw [hH.cell 4, ← hN]; rfl
  have hf := hH.frozen
  have HH : Hid (HAt w hb s) := hH
  have hlt := hH.lt
  obtain ⟨a, c, hva⟩ := own_len hv
  obtain ⟨M, hM⟩ : ∃ M : Nat, M = (N + 1) % 250 := ⟨_, rfl⟩
  have hM2 : ((N : Int) + 1) % 250 = (M : Int) := by omega
  have hM3 : M < 250 := by omega
  have HM : Hid (M = (N + 1) % 250) := hM
  have HV : Hid (v = .slice a n c) := hva
  clear hM hN hH
  rw [hva]
  clear hva
  go_enter Tryd.func31, Tryd.ntmps31
  go_wp2_with fail
  have hOne : ∀ g, v.ownBlock = some g → g ≠ hb := fun g hg => own_ne hv hg HH.out (by decide)
  have HH1 : Hid (HAt (w.setCell ⟨hb, 4, none⟩ (.int .i64 ((N : Int) + 1))) hb { s with n := (N : Int) + 1 }) := HH.out.set4 _
  have hb1 : But (fun b => b = hb) w (w.setCell ⟨hb, 4, none⟩ (.int .i64 ((N : Int) + 1))) := (But.refl _ _).setCell (S := fun b => b = hb) (.inl rfl) _
  have hO1 := hO.but hb1 (fun g hg q => own_ne hO.own hg HH.out (by decide) q) (fun g hg q => own_ne hO.marks hg HH.out (by decide) q) (fun e he g hg q => (hO.each e he).1.ne_hands HH.out g hg q)
  have hv1 := hb1.own hv hOne
  have hbS : But (fun b => b = hb ∨ s.out.ownBlock = some b ∨ s.marks.ownBlock = some b ∨ v.ownBlock = some b) w (w.setCell ⟨hb, 4, none⟩ (.int .i64 ((N : Int) + 1))) := hb1.wide (fun b _ q => .inl q)
  have hxl : xs.length = n := by simpa using hv.1
  have HXL : Hid (xs.length = n) := hxl
  have HFAR : Hid (∀ e ∈ es, ∀ g, v.ownBlock = some g → e.v.ownBlock ≠ some g) := hfar
  clear hxl hO hv hb1 hfar
  go_loopw [5] (fun t wr => ∃ (i : Nat), i ≤ n ∧ t = .int .i64 (i : Int) ∧ Hid (HAt wr hb { s with n := (N : Int) + 1 }) ∧ Outs wr B s.out s.marks es ∧ wr.ownsRow Bv 5 1 v n (List.replicate i (.int .u8 (M : Int)) ++ xs.drop i) ∧ But (fun b => b = hb ∨ s.out.ownBlock = some b ∨ s.marks.ownBlock = some b ∨ v.ownBlock = some b) w wr) (fun t _ => n - (intOf t).toNat)
  case atStart => exact ⟨0, by omega, rfl, HH1, hO1, by simpa using hv1, hbS⟩
  case round =>
    clear HH1 hO1 hv1 hbS hc4 hf
    obtain ⟨i, hi, rfl, HHr, hOr, hvr, hbr⟩ := hrel
    by_cases hlt2 : i < n
    · obtain ⟨g, c', hvg, _, _⟩ := hvr.form (by omega)
      have e1 : (Value.slice a n c) = .slice (some ⟨g, 0, none⟩) n c' := by rw [← HV.out, hvg]
      simp only [Value.slice.injEq] at e1
      obtain ⟨rfl, _, rfl⟩ := e1
      obtain ⟨x, hx⟩ := fill_at xs (.int .u8 (M : Int)) i n HXL.out hlt2
      have hcx : wr.cell? ⟨g, i, none⟩ = some x := own_cell hvr (by rw [hvg]; rfl) hx
      have hfx := own_frozen hvr (g := g) (by rw [hvg]; rfl) i
      have hin : (i : Int) < (n : Int) := by omega
      have hbx : But (fun b => v.ownBlock = some b) wr (wr.setCell ⟨g, i, none⟩ (.int .u8 (M : Int))) := (But.refl _ _).setCell (S := fun b => v.ownBlock = some b) (.inl (by rw [hvg]; rfl)) _
      have HH6 : Hid (HAt (wr.setCell ⟨g, i, none⟩ (.int .u8 (M : Int))) hb { s with n := (N : Int) + 1 }) := HHr.out.kept (Below.heap_setCell _ _ _ _ (fun q => hOne g (by rw [hvg]; rfl) q.symm))
      have hO6 := hOr.but hbx (own_own_ne hOr.own hvr (by decide)) (own_own_ne hOr.marks hvr (by decide)) (fun e he g' hg' q => HFAR.out e he g' q hg')
      have hv6 : (wr.setCell ⟨g, i, none⟩ (.int .u8 (M : Int))).ownsRow Bv 5 1 v n (List.replicate (i + 1) (.int .u8 (M : Int)) ++ xs.drop (i + 1)) := by
        rw [← fill_step xs _ i n HXL.out hlt2]
        rw [hvg] at hvr ⊢
        exact own_set hvr
      have hb6 := hbr.then hbx (fun b _ q => .inr (.inr (.inr q)))
      clear hvg hbx hvr hOr hbr hx
      go_wp2_with fail
      go_roundw
      case rel => exact ⟨i + 1, by omega, by go_num, HH6, hO6, hv6, hb6⟩
      case measure => simp [intOf]; omega
    · obtain rfl : i = n := by omega
      have hks : KS w wr hb B Bv N i M s es v v s.out s.marks es es 0 :=
        ⟨HHr.out, hOr.own, hOr.marks, hOr.each, by
          have := hvr
          rw [List.drop_of_length_le (by rw [HXL.out]; exact Nat.le_refl _), List.append_nil] at this
          exact this, fun b q => .inl q, fun b q => .inl q, fun b q => .inl q, ⟨[], by simp, fun e he => by simp at he⟩, fun e he g h1 h2 => absurd h1 (HFAR.out e he g h2), hbr⟩
      obtain ⟨iB, hiB, hiB0, hiB1, hiB2⟩ := Tryd.bytes_parts
      obtain ⟨iI, hiI, hiI0, hiI1, hiI2⟩ := Tryd.int_parts
      obtain ⟨iU, hiU, hiU0, hiU1, hiU2⟩ := Tryd.u8_parts
      clear HHr hOr hvr hbr
      go_wp2_with fail
      go_loopw [1, 6] (fun t1 t6 wr => ∃ (k : Nat) (eo : List Ent) (vo vm : Value), k ≤ 4 ∧ t6 = .int .i64 (k : Int) ∧ Hid (eo.length = es.length + k) ∧ KS w wr hb B Bv N i M s es v t1 vo vm eo eo k) (fun _ t _ => 4 - (intOf t).toNat)
      case atStart => exact ⟨0, es, s.out, s.marks, by omega, rfl, rfl, by rw [← HV.out]; exact hks⟩
      case round =>
        clear hks
        obtain ⟨k, eo, vo, vm, hk, rfl, HEL, hK⟩ := hrel
        by_cases hlt4 : k < 4
        · obtain ⟨wA, rfl⟩ : ∃ x, x = wr := ⟨wr, rfl⟩
          obtain ⟨la, lc, rfl⟩ := own_len hK.row
          have hk4 : (k : Int) < 4 := by omega
          have hlen : eo.length ≤ 1000010 := by rw [HEL.out]; omega
          have hsz := hK.but.size
          have hc5 : wA.cell? ⟨hb, 5, none⟩ = some vo := hK.hands.cell 5
          go_wp2_with (at_builtin; refine wpList_append_lies _ rfl _ _ _ rfl B 33 iB (.slice none 0 0) 1 24 Tryd.underlying31 hiB hiB0 hiB1 hiB2 rfl (by omega) vo eo.length (eo.map (·.v)) rfl (hK.own.alloc _) ⟨wA.heap.size, 0, none⟩ 1 1 [.slice la (i + k) lc] rfl rfl ?c1 ?c2 (by omega) ?c3 ?c4 ?c5 (wA.heap.size + 1) ?c6 ?_)
          case c1 => exact cell_one_at _ _ _ _ rfl
          case c2 => intro u hu; simp at hu; subst hu; rfl
          case c3 => unfold maxLen; omega
          case c4 => omega
          case c5 => simp; omega
          case c6 => simp
          intro g1 cap1 w2 hown2 hgr2 hlie2 hlt2'
          have hb2 : But (fun b => vo.ownBlock = some b) wA w2 := ((But.refl _ wA).alloc _).grown hgr2 (fun k hk => .inl hk)
          have hK3 := hK.pushOut hM3 (by omega) hb2 hown2 (fun b hq => by
            have e : g1 = b := by simpa [Value.ownBlock] using hq
            subst e
            rcases hlie2 with q | q
            · exact .inl q
            · right; omega)
          have hH2 : HAt w2 hb { s with n := (N : Int) + 1, out := vo, marks := vm } := hK.hands.kept (hb2.block hb hK.hands.lt (fun q => own_ne hK.own q hK.hands (by decide) rfl))
          have hc52 : w2.cell? ⟨hb, 5, none⟩ = some vo := hH2.cell 5
          have hf52 := hH2.frozen 5
          clear hown2 hgr2 hlie2 hb2 hK hc5
          go_wp2_with fail
          obtain ⟨w3, hw3⟩ : ∃ x, x = w2.setCell ⟨hb, 5, none⟩ (.slice (some ⟨g1, 0, none⟩) (eo.length + 1) cap1) := ⟨_, rfl⟩
          rw [← hw3] at hK3
          rw [← hw3]
          clear hw3 hc52 hf52 hH2
          have hc6 : w3.cell? ⟨hb, 6, none⟩ = some vm := hK3.hands.cell 6
          have hc4 : w3.cell? ⟨hb, 4, none⟩ = some (.int .i64 ((N : Int) + 1)) := hK3.hands.cell 4
          have hf6 := hK3.hands.frozen 6
          have hsz3 := hK3.but.size
          have hmo : ∀ u ∈ [Value.int .i64 (M : Int)], u.oneCell' = true := by intro u hu; simp at hu; subst hu; rfl
          have hm1 : eo.length + 1 ≤ maxLen := by unfold maxLen; omega
          have hm2 : (eo.length + 1) * 8 ≤ 140737488355328 := by omega
          have HM3 : Hid (∀ o, B ≤ (w3.alloc o).drew.heap.size) := fun o => by simp; omega
          have HMK : Hid (∀ o, (w3.alloc o).drew.ownsRow B 3 1 vm eo.length (eo.map fun e => .int .i64 (e.m : Int))) := fun o => hK3.marks.alloc o
          have hM4 : ((N : Int) + 1).tmod 250 = (M : Int) := by rw [Int.tmod_eq_emod_of_nonneg (by omega)]; exact hM2
          have hbl3 : hb < w3.heap.size := hK3.hands.lt
          have hbn3 : hb ≠ w3.heap.size := Nat.ne_of_lt hbl3
          go_region_law ((refine step_append_lies _ (by rfl) _ _ _ (by rfl) B 3 iI (.int .i64 0) 1 8 Tryd.underlying32 hiI hiI0 hiI1 hiI2 rfl (by omega) vm eo.length (eo.map fun e => .int .i64 (e.m : Int)) (by rfl) (HMK.out _) ⟨w3.heap.size, 0, none⟩ 1 1 [.int .i64 (M : Int)] (by rfl) rfl (cell_one_at w3 _ _ _ rfl) hmo (by omega) hm1 hm2 (HM3.out _) (w3.heap.size + 1) (by simp) ?_; intro g2 cap2 w4 hown4 hgr4 hlie4 hlt4; have hf64 := (hK3.sees hgr4).2.2; have hc64 := (hK3.sees hgr4).1))
          all_goals
            have hb4 : But (fun b => vm.ownBlock = some b) w3 w4 := ((But.refl _ w3).alloc _).drew.grown hgr4 (fun k hk => .inl hk)
            have hK5 := hK3.pushMark ⟨.slice la (i + k) lc, i + k, M⟩ rfl hb4 hown4 (fun b hq => by
              have e : g2 = b := by simpa [Value.ownBlock] using hq
              subst e
              rcases hlie4 with q | q
              · exact .inl q
              · right; omega)
            obtain ⟨w5, hw5⟩ : ∃ x, x = w4.setCell ⟨hb, 6, none⟩ (.slice (some ⟨g2, 0, none⟩) (eo.length + 1) cap2) := ⟨_, rfl⟩
            rw [← hw5] at hK5
            rw [← hw5]
            clear hw5 hf64 hc64 hb4 hown4 hgr4 hlie4
            have hsz5 := hK5.but.size
            obtain ⟨XR, hXR⟩ : ∃ XR, XR = List.replicate (i + k) (Value.int .u8 (M : Int)) := ⟨_, rfl⟩
            have hrow5 := hK5.row
            rw [← hXR] at hrow5
            have HXR : Hid (XR = List.replicate (i + k) (Value.int .u8 (M : Int))) := hXR
            clear hXR
            go_wp2_with (at_builtin; refine wpList_append_apart rfl _ _ _ rfl Bv 5 iU (.int .u8 0) 1 1 Tryd.underlying33 hiU hiU0 hiU1 hiU2 rfl (by omega) (.slice la (i + k) lc) (i + k) XR rfl (hrow5.alloc _) ⟨w5.heap.size, 0, none⟩ 1 1 [.int .u8 (M : Int)] rfl rfl ?c1 ?c2 (by omega) ?c3 ?c4 ?c5 ?c6 ?_)
            case c1 => exact cell_one_at _ _ _ _ rfl
            case c2 => intro u hu; simp at hu; subst hu; rfl
            case c3 => unfold maxLen; omega
            case c4 => omega
            case c5 => omega
            case c6 => simp; omega
            intro g6 cap6 w6 hown6 hgr6 hlie6 hlt6
            have hb6 : But (fun b => (Value.slice la (i + k) lc).ownBlock = some b) w5 w6 := ((But.refl _ w5).alloc _).grown hgr6 (fun k hk => .inl hk)
            have hK7 := hK5.more hb6 (by rw [← HXR.out]; exact hown6) (by
              rcases hlie6 with q | ⟨q, hall⟩
              · exact .inl q
              · have q' : g6 = w5.heap.size + 1 := by simpa using q
                exact .inr ⟨by omega, fun j hj => by rw [hall j (by omega), Below.heap_alloc _ _ _ hj]⟩)
            clear hown6 hgr6 hlie6 hb6 hK5 hrow5
            go_wp2_with fail
            go_roundw
            case rel =>
              have HEL7 : Hid ((eo ++ [(⟨.slice la (i + k) lc, i + k, M⟩ : Ent)]).length = es.length + (k + 1)) := by show _ = _; simp [HEL.out]; omega
              (repeat apply Exists.intro)
              refine ⟨⟨k + 1, _, _, _, ?_, ?_, HEL7, hK7⟩, ?frame⟩
              case frame => rw [hM2]
              · omega
              · go_num
            case measure => simp [intOf]; omega
        · obtain rfl : k = 4 := by omega
          go_wp2_with fail
          go_end0
          obtain ⟨es', h1, h2⟩ := hK.newAt
          have h3 : es'.length = 4 := by have := HEL.out; rw [h1, List.length_append] at this; omega
          refine ⟨rfl, es', vo, vm, ?_⟩
          rw [← HV.out]
          exact ⟨hK.hands, ⟨by rw [← h1]; exact hK.own, by rw [← h1]; exact hK.marks, by rw [← h1]; exact hK.each⟩, h3, hK.outAt, hK.marksAt, h2, hK.but⟩

end Go.Proofs.YtjabhnhejbhgjaaDoor
