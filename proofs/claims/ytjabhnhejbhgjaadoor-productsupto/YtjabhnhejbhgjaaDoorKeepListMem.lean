/- Lists that came out and were kept. -/
import Derived.Test.YtjabhnhejbhgjaaDoorHandsSymbol
namespace Go.Proofs.YtjabhnhejbhgjaaDoor
open Go.RowKit

theorem TwoB.but {w w' : World} {u : Value} {m : Nat} {S : Nat → Prop} (h : TwoB w u m) (hb : But S w w') (h8 : ∀ g cs, w.heap[g]? = some (.cells cs 5 (0, 0)) → ¬ S g) : TwoB w' u m := by
  obtain ⟨g, h1, h2⟩ := h
  exact ⟨g, h1, by rw [hb.block g (Array.getElem?_eq_some_iff.1 h2).1 (h8 g _ h2)]; exact h2⟩

theorem own_lok {w : World} {B n m : Nat} {v : Value} {us : List Value} (h : w.ownsRow B 33 1 v n us) (hu : ∀ u ∈ us, TwoB w u m) : LOk w v n m := by
  have hl : us.length = n := by simpa using h.1
  rcases h.2 with ⟨h1, h2⟩ | ⟨g, cap, cur, h1, _, h2, h3, _, h4, h5⟩
  · exact .inl ⟨0, h1, h2⟩
  · refine .inr ⟨g, cap, cur, h1, h2, fun j hj => ?_⟩
    rw [Nat.mul_one] at h5
    have h6 : (cur.toList.take n)[j]? = some us[j] := by rw [h5]; simp [hl, hj]
    rw [List.getElem?_take, if_pos hj] at h6
    exact ⟨us[j], by simpa using h6, hu _ (List.getElem_mem _)⟩

theorem own_lok_less {w : World} {B n k m g c : Nat} {v : Value} {us : List Value} (h : w.ownsRow B 33 1 v n us) (hu : ∀ u ∈ us, TwoB w u m) (hg : v.ownBlock = some g) (hk : k ≤ n) : LOk w (.slice (some ⟨g, 0, none⟩) k c) k m := by
  rcases own_lok h hu with ⟨c', h1, _⟩ | ⟨g', c', cs, h1, h2, h3⟩
  · rw [h1] at hg; simp [Value.ownBlock] at hg
  · rw [h1] at hg
    simp [Value.ownBlock] at hg
    subst hg
    exact .inr ⟨g', c, cs, rfl, h2, fun j hj => h3 j (by omega)⟩

theorem LOk.kept {w w' : World} {v : Value} {n m : Nat} (h : LOk w v n m) (hk : ∀ g, g < w.heap.size → w'.heap[g]? = w.heap[g]?) : LOk w' v n m := by
  rcases h with h | ⟨g, c, cs, h1, h2, h3⟩
  · exact .inl h
  · refine .inr ⟨g, c, cs, h1, by rw [hk g (Array.getElem?_eq_some_iff.1 h2).1]; exact h2, fun j hj => ?_⟩
    obtain ⟨u, q1, gu, q2, q3⟩ := h3 j hj
    exact ⟨u, q1, gu, q2, by rw [hk gu (Array.getElem?_eq_some_iff.1 q3).1]; exact q3⟩

theorem HAt.ne_block {w : World} {hb g : Nat} {s : HS} {cs : Array Value} {t : TypeId} {fr : Nat × Nat} (h : HAt w hb s) (hg : w.heap[g]? = some (.cells cs t fr)) (hne : t ≠ 43) : g ≠ hb := by
  intro q
  unfold HAt at h
  rw [q, h] at hg
  simp only [Option.some.injEq, Obj.cells.injEq] at hg
  exact hne hg.2.1.symm

/-- Where keepList's last loop stands. -/
structure KL (w wr : World) (hb Bv n M : Nat) (s : HS) (es : List Ent) (v lv vo vm : Value) (lo lm : List EntL) (k : Nat) : Prop where
  hands : HAt wr hb { s with outer := vo, omarks := vm }
  own : wr.ownsRow hb 31 1 vo lo.length (lo.map (·.v))
  marks : wr.ownsRow hb 3 1 vm lm.length (lm.map fun e => .int .i64 (e.m : Int))
  each : ∀ e ∈ lo, LOk wr e.v e.n e.m ∧ e.m < 256 ∧ e.n ≤ 140737488355328
  row : ∃ us, wr.ownsRow Bv 33 1 lv (n + k) us ∧ ∀ u ∈ us, TwoB wr u M
  outs : Outs wr hb s.out s.marks es
  outAt : ∀ b, vo.ownBlock = some b → s.outer.ownBlock = some b ∨ w.heap.size ≤ b
  marksAt : ∀ b, vm.ownBlock = some b → s.omarks.ownBlock = some b ∨ w.heap.size ≤ b
  lvAt : ∀ b, lv.ownBlock = some b → v.ownBlock = some b ∨ w.heap.size ≤ b
  same : ∀ e ∈ lo, ∀ g, e.v.ownBlock = some g → lv.ownBlock = some g → e.m = M ∧ e.n ≤ n + k
  rowNe : ∀ g, lv.ownBlock = some g → s.out.ownBlock ≠ some g
  apartL : ∀ e ∈ lo, ∀ g, e.v.ownBlock = some g → s.out.ownBlock ≠ some g
  apartM : ∀ g, s.marks.ownBlock = some g → vm.ownBlock ≠ some g
  but : But (fun b => b = hb ∨ s.outer.ownBlock = some b ∨ s.omarks.ownBlock = some b ∨ v.ownBlock = some b) w wr

theorem KL.pushOut {w wr w2 : World} {hb Bv n M : Nat} {s : HS} {es : List Ent} {v lv vo vm vo' : Value} {lo lm : List EntL} {k : Nat} (h : KL w wr hb Bv n M s es v lv vo vm lo lm k) (hM : M < 256) (hnk : n + k ≤ 140737488355328)
    (hb2 : But (fun b => vo.ownBlock = some b) wr w2) (ho2 : w2.ownsRow hb 31 1 vo' (lo.length + 1) (lo.map (·.v) ++ [lv])) (hat : ∀ b, vo'.ownBlock = some b → vo.ownBlock = some b ∨ wr.heap.size ≤ b) :
    KL w (w2.setCell ⟨hb, 7, none⟩ vo') hb Bv n M s es v lv vo' vm (lo ++ [⟨lv, n + k, M⟩]) lm k := by
  have hs := h.but.size
  have hvo : ∀ b, vo.ownBlock = some b → b ≠ hb := fun b hq => own_ne h.own hq h.hands (by decide)
  have hb3 : But (fun b => vo.ownBlock = some b ∨ b = hb) wr (w2.setCell ⟨hb, 7, none⟩ vo') := (hb2.wide (fun _ _ q => .inl q)).setCell (.inl (.inr rfl)) _
  have hH2 : HAt w2 hb { s with outer := vo, omarks := vm } := h.hands.kept (hb2.block hb h.hands.lt (fun q => hvo hb q rfl))
  have far : ∀ t, t ≠ 43 → 31 ≠ t → ∀ g cs, wr.heap[g]? = some (.cells cs t (0, 0)) → ¬ (vo.ownBlock = some g ∨ g = hb) := fun t h1 h2 g cs hc q => by
    rcases q with q | q
    · exact own_ne h.own q hc h2 rfl
    · exact h.hands.ne_block hc h1 q
  have farO : ∀ {B m sz : Nat} {t : TypeId} {u : Value} {xs : List Value}, wr.ownsRow B t sz u m xs → t ≠ 43 → 31 ≠ t → ∀ g, u.ownBlock = some g → ¬ (vo.ownBlock = some g ∨ g = hb) := fun hu h1 h2 g hg => by
    obtain ⟨cur, hc⟩ := own_block hu hg
    exact far _ h1 h2 g cur hc
  obtain ⟨us, hr1, hr2⟩ := h.row
  have hrow1 := hb3.own hr1 (farO hr1 (by decide) (by decide))
  have hrow2 : ∀ u ∈ us, TwoB (w2.setCell ⟨hb, 7, none⟩ vo') u M := fun u hu => (hr2 u hu).but hb3 (far _ (by decide) (by decide))
  refine ⟨hH2.set7 _, ?_, hb3.own h.marks (farO h.marks (by decide) (by decide)), fun e he => ?_, ⟨us, hrow1, hrow2⟩, h.outs.but hb3 (farO h.outs.own (by decide) (by decide)) (farO h.outs.marks (by decide) (by decide)) (fun e he g hg => by
    obtain ⟨_, cs, hc⟩ := (h.outs.each e he).1.lt hg
    exact far _ (by decide) (by decide) g cs hc), fun b hq => ?_, h.marksAt, h.lvAt, fun e he => ?_, h.rowNe, fun e he => ?_, h.apartM, h.but.then hb3 (fun b hlt q => ?_)⟩
  · have := own_of_block ho2 (fun b hq => Below.heap_setCell w2 ⟨hb, 7, none⟩ vo' b (own_ne ho2 hq hH2 (by decide)))
    simpa using this
  · rcases List.mem_append.1 he with he | he
    · refine ⟨(h.each e he).1.but hb3 (fun g hg => ?_) (far _ (by decide) (by decide)), (h.each e he).2⟩
      obtain ⟨_, cs, hc⟩ := (h.each e he).1.lt hg
      exact far _ (by decide) (by decide) g cs hc
    · obtain rfl := List.mem_singleton.1 he
      exact ⟨own_lok hrow1 hrow2, hM, hnk⟩
  · rcases hat b hq with q | q
    · exact h.outAt b q
    · right; omega
  · rcases List.mem_append.1 he with he | he
    · exact h.same e he
    · obtain rfl := List.mem_singleton.1 he
      exact fun g _ _ => ⟨rfl, Nat.le_refl _⟩
  · rcases List.mem_append.1 he with he | he
    · exact h.apartL e he
    · obtain rfl := List.mem_singleton.1 he
      exact h.rowNe
  · rcases q with q | q
    · rcases h.outAt b q with q | q
      · exact .inr (.inl q)
      · omega
    · exact .inl q

theorem KL.pushMark {w wr w2 : World} {hb Bv n M : Nat} {s : HS} {es : List Ent} {v lv vo vm vm' : Value} {lo lm : List EntL} {k : Nat} (h : KL w wr hb Bv n M s es v lv vo vm lo lm k) (e0 : EntL) (he0 : e0.m = M)
    (hb2 : But (fun b => vm.ownBlock = some b) wr w2) (ho2 : w2.ownsRow hb 3 1 vm' (lm.length + 1) (lm.map (fun e => .int .i64 (e.m : Int)) ++ [.int .i64 (M : Int)])) (hat : ∀ b, vm'.ownBlock = some b → vm.ownBlock = some b ∨ wr.heap.size ≤ b) :
    KL w (w2.setCell ⟨hb, 8, none⟩ vm') hb Bv n M s es v lv vo vm' lo (lm ++ [e0]) k := by
  have hs := h.but.size
  have hvm : ∀ b, vm.ownBlock = some b → b ≠ hb := fun b hq => own_ne h.marks hq h.hands (by decide)
  have hb3 : But (fun b => vm.ownBlock = some b ∨ b = hb) wr (w2.setCell ⟨hb, 8, none⟩ vm') := (hb2.wide (fun _ _ q => .inl q)).setCell (.inl (.inr rfl)) _
  have hH2 : HAt w2 hb { s with outer := vo, omarks := vm } := h.hands.kept (hb2.block hb h.hands.lt (fun q => hvm hb q rfl))
  have far : ∀ t, t ≠ 43 → 3 ≠ t → ∀ g cs, wr.heap[g]? = some (.cells cs t (0, 0)) → ¬ (vm.ownBlock = some g ∨ g = hb) := fun t h1 h2 g cs hc q => by
    rcases q with q | q
    · exact own_ne h.marks q hc h2 rfl
    · exact h.hands.ne_block hc h1 q
  have farO : ∀ {B m sz : Nat} {t : TypeId} {u : Value} {xs : List Value}, wr.ownsRow B t sz u m xs → t ≠ 43 → 3 ≠ t → ∀ g, u.ownBlock = some g → ¬ (vm.ownBlock = some g ∨ g = hb) := fun hu h1 h2 g hg => by
    obtain ⟨cur, hc⟩ := own_block hu hg
    exact far _ h1 h2 g cur hc
  obtain ⟨us, hr1, hr2⟩ := h.row
  refine ⟨hH2.set8 _, hb3.own h.own (farO h.own (by decide) (by decide)), ?_, fun e he => ⟨(h.each e he).1.but hb3 (fun g hg => ?_) (far _ (by decide) (by decide)), (h.each e he).2⟩, ⟨us, hb3.own hr1 (farO hr1 (by decide) (by decide)), fun u hu => (hr2 u hu).but hb3 (far _ (by decide) (by decide))⟩, h.outs.but hb3 (farO h.outs.own (by decide) (by decide)) (fun g hg q => ?_) (fun e he g hg => ?_), h.outAt, fun b hq => ?_, h.lvAt, h.same, h.rowNe, h.apartL, fun g hg q => ?_, h.but.then hb3 (fun b hlt q => ?_)⟩
  · have := own_of_block ho2 (fun b hq => Below.heap_setCell w2 ⟨hb, 8, none⟩ vm' b (own_ne ho2 hq hH2 (by decide)))
    simpa [he0] using this
  · obtain ⟨_, cs, hc⟩ := (h.each e he).1.lt hg
    exact far _ (by decide) (by decide) g cs hc
  · rcases q with q | q
    · exact h.apartM g hg q
    · exact own_ne h.outs.marks hg h.hands (by decide) q
  · obtain ⟨_, cs, hc⟩ := (h.outs.each e he).1.lt hg
    exact far _ (by decide) (by decide) g cs hc
  · rcases hat b hq with q | q
    · exact h.marksAt b q
    · right; omega
  · rcases hat g q with p | p
    · exact h.apartM g hg p
    · have := (h.outs.marks.lt g hg).2; omega
  · rcases q with q | q
    · rcases h.marksAt b q with q | q
      · exact .inr (.inr (.inl q))
      · omega
    · exact .inl q

theorem KL.more {w wr w2 : World} {hb Bv n M g cap : Nat} {s : HS} {es : List Ent} {v lv vo vm u : Value} {us : List Value} {lo lm : List EntL} {k : Nat} (h : KL w wr hb Bv n M s es v lv vo vm lo lm k) (hr1 : wr.ownsRow Bv 33 1 lv (n + k) us) (hr2 : ∀ u ∈ us, TwoB wr u M)
    (hb2 : But (fun b => lv.ownBlock = some b) wr w2) (ho2 : w2.ownsRow Bv 33 1 (.slice (some ⟨g, 0, none⟩) (n + k + 1) cap) (n + k + 1) (us ++ [u])) (hu : TwoB w2 u M)
    (hat : lv.ownBlock = some g ∨ wr.heap.size ≤ g ∧ ∀ j, j < wr.heap.size → w2.heap[j]? = wr.heap[j]?) :
    KL w w2 hb Bv n M s es v (.slice (some ⟨g, 0, none⟩) (n + k + 1) cap) vo vm lo lm (k + 1) := by
  have hs := h.but.size
  have far : ∀ t, 33 ≠ t → ∀ g cs, wr.heap[g]? = some (.cells cs t (0, 0)) → ¬ (lv.ownBlock = some g) := fun t h2 g cs hc q => own_ne hr1 q hc h2 rfl
  have farO : ∀ {B m sz : Nat} {t : TypeId} {x : Value} {xs : List Value}, wr.ownsRow B t sz x m xs → 33 ≠ t → ∀ g, x.ownBlock = some g → ¬ (lv.ownBlock = some g) := fun hu h2 g hg => by
    obtain ⟨cur, hc⟩ := own_block hu hg
    exact far _ h2 g cur hc
  have hus : ∀ x ∈ us ++ [u], TwoB w2 x M := fun x hx => by
    rcases List.mem_append.1 hx with hx | hx
    · exact (hr2 x hx).but hb2 (far _ (by decide))
    · obtain rfl := List.mem_singleton.1 hx
      exact hu
  refine ⟨h.hands.kept (hb2.block hb h.hands.lt (fun q => own_ne hr1 q h.hands (by decide) rfl)), hb2.own h.own (farO h.own (by decide)), hb2.own h.marks (farO h.marks (by decide)), fun e he => ?_, ⟨us ++ [u], ho2, hus⟩, h.outs.but hb2 (fun q hq r => h.rowNe q r hq) (farO h.outs.marks (by decide)) (fun e he q hq => ?_), h.outAt, h.marksAt, fun b hq => ?_, fun e he g' hg' hl => ?_, fun q hq r => ?_, h.apartL, h.apartM, h.but.then hb2 (fun b hlt q => ?_)⟩
  · obtain ⟨h1, h2⟩ := h.each e he
    refine ⟨?_, h2⟩
    rcases hat with q | ⟨q, hall⟩
    · by_cases p : e.v.ownBlock = some g
      · obtain ⟨e1, e2⟩ := h.same e he g p q
        rcases h1 with ⟨c, q1, q2⟩ | ⟨g', c, cs, q1, q2, q3⟩
        · rw [q1] at p; simp [Value.ownBlock] at p
        · have e3 : g' = g := by rw [q1] at p; simpa [Value.ownBlock] using p
          subst e3
          rw [q1, e1]
          exact own_lok_less ho2 hus (by rfl) (by omega)
      · exact h1.but hb2 (fun g' hg' r => p (by rw [hg', ← q, r])) (far _ (by decide))
    · exact h1.kept hall
  · obtain ⟨_, cs, hc⟩ := (h.outs.each e he).1.lt hq
    exact far _ (by decide) q cs hc
  · have e : g = b := by simpa [Value.ownBlock] using hq
    subst e
    rcases hat with q | ⟨q, _⟩
    · exact h.lvAt g q
    · right; omega
  · have e3 : g = g' := by simpa [Value.ownBlock] using hl
    subst e3
    rcases hat with q | ⟨q, _⟩
    · obtain ⟨e1, e2⟩ := h.same e he g hg' q
      exact ⟨e1, by omega⟩
    · have := ((h.each e he).1.lt hg').1; omega
  · have e3 : g = q := by simpa [Value.ownBlock] using hq
    subst e3
    rcases hat with p | ⟨p, _⟩
    · exact h.rowNe g p r
    · have := (h.outs.own.lt g r).2; omega
  · rcases h.lvAt b q with q | q
    · exact .inr (.inr (.inr q))
    · omega

/-- Hands between two calls, behind keep; no list has been kept yet. -/
theorem Inv.afterKeep {A : Nat → Addr} {B0 : Nat} {w w' : World} {hb N n Bv : Nat} {s : HS} {es es' : List Ent} {v vo vm : Value} {xs : List Value} (h : Inv A B0 w hb N s es []) (hv : w.ownsRow Bv 5 1 v n xs) (hBv : hb ≤ Bv) (hK : KeptAs w w' hb hb N s es es' v vo vm) :
    Inv A B0 w' hb (N + 1) { s with n := (N : Int) + 1, out := vo, marks := vm } (es ++ es') [] ∧ Below hb w w' := by
  have hhigh : ∀ k, k < hb → ¬ (k = hb ∨ s.out.ownBlock = some k ∨ s.marks.ownBlock = some k ∨ v.ownBlock = some k) := fun k hk q => by
    rcases q with q | q | q | q
    · omega
    · have := (h.outs.own.lt k q).1; omega
    · have := (h.outs.marks.lt k q).1; omega
    · have := (hv.lt k q).1; omega
  have hlow : Below hb w w' := hK.but.toBelow (by have := h.hands.lt; omega) hhigh
  refine ⟨⟨h.errs.below (hlow.mono h.low), h.low, hK.hands, by show (N : Int) + 1 = _; omega, h.in0, h.rows0, h.ints0, h.want0, hK.outs, ?_, h.lacks0, h.objs0, fun g hg q => ?_, fun e he => by simp at he⟩, hlow⟩
  · refine ⟨hK.but.own h.outers.own (fun g hg q => ?_), hK.but.own h.outers.marks (fun g hg q => ?_), fun e he => by simp at he⟩
    · rcases q with q | q | q | q
      · exact own_ne h.outers.own hg h.hands (by decide) q
      · exact own_own_ne h.outers.own h.outs.own (by decide) g hg q
      · exact own_own_ne h.outers.own h.outs.marks (by decide) g hg q
      · exact own_own_ne h.outers.own hv (by decide) g hg q
    · rcases q with q | q | q | q
      · exact own_ne h.outers.marks hg h.hands (by decide) q
      · exact own_own_ne h.outers.marks h.outs.own (by decide) g hg q
      · exact h.apartM g q hg
      · exact own_own_ne h.outers.marks hv (by decide) g hg q
  · rcases hK.marksAt g hg with p | p
    · exact h.apartM g p q
    · have := (h.outers.marks.lt g q).2; omega

theorem Inv.setN {A : Nat → Addr} {B0 : Nat} {w : World} {hb N N' : Nat} {s : HS} {es : List Ent} {ls : List EntL} (h : Inv A B0 w hb N s es ls) (z : Int) (hz : z = (N' : Int)) : Inv A B0 (w.setCell ⟨hb, 4, none⟩ (.int .i64 z)) hb N' { s with n := z } es ls := by
  have hb1 : But (fun b => b = hb) w (w.setCell ⟨hb, 4, none⟩ (.int .i64 z)) := But.setCell (S := fun b => b = hb) (But.refl _ _) (p := ⟨hb, 4, none⟩) (.inl rfl) _
  exact ⟨h.errs.below (hb1.toBelow h.errs.size (fun k hk q => by have := h.low; omega)), h.low, h.hands.set4 z, hz, h.in0, h.rows0, h.ints0, h.want0,
    h.outs.but hb1 (fun g hg q => own_ne h.outs.own hg h.hands (by decide) q) (fun g hg q => own_ne h.outs.marks hg h.hands (by decide) q) (fun e he g hg q => (h.outs.each e he).1.ne_hands h.hands g hg q),
    h.outersKept (hb1.wide (fun _ _ q => .inl q)), h.lacks0, h.objs0, h.apartM, h.apartL⟩

theorem Inv.butAt {A : Nat → Addr} {B0 : Nat} {w w' : World} {hb N : Nat} {s : HS} {es : List Ent} {S : Nat → Prop} (h : Inv A B0 w hb N s es []) (hb' : But S w w') (h1 : ∀ k, k ≤ hb → ¬ S k) (h2 : ∀ g, s.out.ownBlock = some g → ¬ S g) (h3 : ∀ g, s.marks.ownBlock = some g → ¬ S g) (h4 : ∀ g, s.outer.ownBlock = some g → ¬ S g) (h5 : ∀ g, s.omarks.ownBlock = some g → ¬ S g)
    (h6 : ∀ e ∈ es, ∀ g, e.v.ownBlock = some g → ¬ S g) : Inv A B0 w' hb N s es [] :=
  ⟨h.errs.below (hb'.toBelow h.errs.size (fun k hk => h1 k (by have := h.low; omega))), h.low, h.hands.kept (hb'.block hb h.hands.lt (h1 hb (Nat.le_refl _))), h.num, h.in0, h.rows0, h.ints0, h.want0, h.outs.but hb' h2 h3 h6, ⟨hb'.own h.outers.own h4, hb'.own h.outers.marks h5, fun e he => by simp at he⟩, h.lacks0, h.objs0, h.apartM, fun e he => by simp at he⟩

theorem step_append_apart {w : World} {ops : Array Oper} {o : Oper} {a : Act} {K : Act → World → Prop} {Q : Exit → Act → World → Prop} {F : Prop} (hgd : o.guard = none) (s x : Operand) (t : TypeId) (ho : o.op = .call { callee := .builtin .append, args := #[s, x], argTypes := #[t, t] })
    (base : Nat) (e : TypeId) (i : TypeInfo) (z : Value) (size bytes : Nat) (ht : Tryd.prog.underlying t = some (.slice e)) (hi : Tryd.prog.info? e = some i) (hz : i.zero = some z)
    (hsize : i.size = size) (hby : i.bytes = bytes) (hzs : z.cells.size = size) (hsz : 0 < size) (v : Value) (n : Nat) (xs : List Value) (hs : a.eval s = v) (hown : w.ownsRow base e size v n xs)
    (ad : Addr) (m c : Nat) (news : List Value) (hx : a.eval x = .slice (some ad) m c) (hl : news.length = m * size) (hnews : ∀ j u, news[j]? = some u → w.cell? (ad.add j) = some u) (h1 : ∀ u ∈ news, u.oneCell' = true)
    (hm : 0 < m) (h63 : n + m ≤ maxLen) (hbytes : ((n + m) + (n + m) / 4 + 192) * bytes ≤ 281474976710656) (hbytes2 : (n + m) * bytes ≤ 140737488355328) (hbase : base ≤ w.heap.size)
    (h : ∀ g cap w', w'.ownsRow base e size (.slice (some ⟨g, 0, none⟩) (n + m) cap) (n + m) (xs ++ news) → w.grownBy w' v.ownBlock → (v.ownBlock = some g ∨ g = w.heap.size ∧ ∀ k, k < w.heap.size → w'.heap[k]? = w.heap[k]?) → g < w'.heap.size → K (a.put o.dst (.slice (some ⟨g, 0, none⟩) (n + m) cap)) w') :
    if Region.wanted o (yielded ops a.tmps) = true then Oper.wp Tryd.prog o a w K Q else F := by
  have hw : Region.wanted o (yielded ops a.tmps) = true := by simp [Region.wanted, hgd]
  rw [if_pos hw]
  obtain ⟨g, cap, w', hr, h2, h3, h4, h5⟩ := run_append_apart w t o.type base e i z size bytes ht hi hz hsize hby hzs hsz v n xs hown ad m c news hl hnews h1 hm h63 hbytes hbytes2 hbase
  unfold Oper.wp execOp
  simp only [ho, resolve, invoke, builtin, Sem.run_bind, Sem.run_pure, Result.andThen_ok, List.map_toArray, List.map_cons, List.map_nil, hs, hx, hr]
  exact h g cap w' h2 h3 h4 h5

theorem KL.sees {w wr w4 : World} {hb Bv n M : Nat} {s : HS} {es : List Ent} {v lv vo vm : Value} {lo lm : List EntL} {k : Nat} {o : Obj} (h : KL w wr hb Bv n M s es v lv vo vm lo lm k) (hg : (wr.alloc o).drew.grownBy w4 vm.ownBlock) :
    w4.cell? ⟨hb, 8, none⟩ = some vm ∧ w4.frozen? ⟨hb, 8, none⟩ = false := by
  have hk : w4.heap[hb]? = wr.heap[hb]? := by
    rw [grown_block hg (by have := h.hands.lt; simp; omega) (fun q => own_ne h.marks q h.hands (by decide) rfl)]; exact Below.heap_alloc wr o hb h.hands.lt
  have hH := h.hands.kept hk
  exact ⟨hH.cell 8, hH.frozen 8⟩

end Go.Proofs.YtjabhnhejbhgjaaDoor
