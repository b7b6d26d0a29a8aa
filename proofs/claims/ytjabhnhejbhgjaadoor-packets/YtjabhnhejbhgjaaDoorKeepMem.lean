/- What came out and was kept: bytes, full of their mark. -/
import Derived.Test.YtjabhnhejbhgjaaDoorBackWalk
namespace Go.Proofs.YtjabhnhejbhgjaaDoor
open Go.RowKit

/-- A slice of n bytes, all of them m. -/
def KOk (w : World) (v : Value) (n m : Nat) : Prop :=
  (∃ c, v = .slice none 0 c ∧ n = 0) ∨ (∃ g c cs, v = .slice (some ⟨g, 0, none⟩) n c ∧ w.heap[g]? = some (.cells cs 5 (0, 0)) ∧ ∀ j, j < n → cs[j]? = some (.int .u8 (m : Int)))

theorem KOk.but {w w' : World} {v : Value} {n m : Nat} {S : Nat → Prop} (h : KOk w v n m) (hb : But S w w') (hn : ∀ g, v.ownBlock = some g → ¬ S g) : KOk w' v n m := by
  rcases h with h | ⟨g, c, cs, h1, h2, h3⟩
  · exact .inl h
  · exact .inr ⟨g, c, cs, h1, by rw [hb.block g (Array.getElem?_eq_some_iff.1 h2).1 (hn g (by rw [h1]; rfl))]; exact h2, h3⟩

theorem KOk.kept {w w' : World} {v : Value} {n m : Nat} (h : KOk w v n m) (hk : ∀ g, v.ownBlock = some g → w'.heap[g]? = w.heap[g]?) : KOk w' v n m := by
  rcases h with h | ⟨g, c, cs, h1, h2, h3⟩
  · exact .inl h
  · exact .inr ⟨g, c, cs, h1, by rw [hk g (by rw [h1]; rfl)]; exact h2, h3⟩

theorem KOk.lt {w : World} {v : Value} {n m g : Nat} (h : KOk w v n m) (hg : v.ownBlock = some g) : g < w.heap.size ∧ ∃ cs, w.heap[g]? = some (.cells cs 5 (0, 0)) := by
  rcases h with ⟨c, h1, _⟩ | ⟨g', c, cs, h1, h2, h3⟩
  · rw [h1] at hg; simp [Value.ownBlock] at hg
  · rw [h1] at hg
    simp [Value.ownBlock] at hg
    subst hg
    exact ⟨(Array.getElem?_eq_some_iff.1 h2).1, cs, h2⟩

theorem own_kok {w : World} {B n m : Nat} {v : Value} (h : w.ownsRow B 5 1 v n (List.replicate n (.int .u8 (m : Int)))) : KOk w v n m := by
  rcases h.2 with ⟨h1, h2⟩ | ⟨g, cap, cur, h1, _, h2, h3, _, h4, h5⟩
  · exact .inl ⟨0, h1, h2⟩
  · refine .inr ⟨g, cap, cur, h1, h2, fun j hj => ?_⟩
    rw [Nat.mul_one] at h5
    have h6 : (cur.toList.take n)[j]? = some (.int .u8 (m : Int)) := by rw [h5]; simp [hj]
    rw [List.getElem?_take, if_pos hj] at h6
    simpa using h6

/-- A shorter slice of the same block. -/
theorem own_kok_less {w : World} {B n k m g c : Nat} {v : Value} (h : w.ownsRow B 5 1 v n (List.replicate n (.int .u8 (m : Int)))) (hg : v.ownBlock = some g) (hk : k ≤ n) : KOk w (.slice (some ⟨g, 0, none⟩) k c) k m := by
  rcases own_kok h with ⟨c', h1, _⟩ | ⟨g', c', cs, h1, h2, h3⟩
  · rw [h1] at hg; simp [Value.ownBlock] at hg
  · rw [h1] at hg
    simp [Value.ownBlock] at hg
    subst hg
    exact .inr ⟨g', c, cs, rfl, h2, fun j hj => h3 j (by omega)⟩

structure Ent where
  v : Value
  n : Nat
  m : Nat

/-- The lists of what was kept, and of its marks. -/
structure Outs (w : World) (B : Nat) (vo vm : Value) (es : List Ent) : Prop where
  own : w.ownsRow B 33 1 vo es.length (es.map (·.v))
  marks : w.ownsRow B 3 1 vm es.length (es.map fun e => .int .i64 (e.m : Int))
  each : ∀ e ∈ es, KOk w e.v e.n e.m ∧ e.m < 250 ∧ e.n ≤ 140737488355328

theorem Outs.but {w w' : World} {B : Nat} {vo vm : Value} {es : List Ent} {S : Nat → Prop} (h : Outs w B vo vm es) (hb : But S w w') (h1 : ∀ g, vo.ownBlock = some g → ¬ S g) (h2 : ∀ g, vm.ownBlock = some g → ¬ S g) (h3 : ∀ e ∈ es, ∀ g, e.v.ownBlock = some g → ¬ S g) : Outs w' B vo vm es :=
  ⟨hb.own h.own h1, hb.own h.marks h2, fun e he => ⟨(h.each e he).1.but hb (h3 e he), (h.each e he).2⟩⟩

/-- One cell of a list that is owned, written. -/
theorem own_set {w : World} {B g n c i : Nat} {e : TypeId} {xs : List Value} {u : Value} (h : w.ownsRow B e 1 (.slice (some ⟨g, 0, none⟩) n c) n xs) : (w.setCell ⟨g, i, none⟩ u).ownsRow B e 1 (.slice (some ⟨g, 0, none⟩) n c) n (xs.set i u) := by
  have hl := h.1
  rcases h.2 with ⟨h1, _⟩ | ⟨g', cap, cur, h1, h2, h3, h4, h5, h6, h7⟩
  · cases h1
  · simp only [Value.slice.injEq, Option.some.injEq, Addr.mk.injEq] at h1
    obtain ⟨⟨rfl, _⟩, _, rfl⟩ := h1
    refine ⟨by simpa using hl, .inr ⟨g, c, cur.setIfInBounds i u, rfl, h2, heap_setCell_same _ _ _ _ _ _ h3, h4, h5, by simpa using h6, ?_⟩⟩
    rw [← h7, Array.toList_setIfInBounds, List.take_set]

theorem own_frozen {w : World} {B n sz : Nat} {e : TypeId} {v : Value} {xs : List Value} (h : w.ownsRow B e sz v n xs) {g : Nat} (hg : v.ownBlock = some g) (i : Nat) : w.frozen? ⟨g, i, none⟩ = false := by
  obtain ⟨cur, hc⟩ := own_block h hg
  exact frozen_of_row w g i _ _ hc

theorem own_own_ne {w : World} {B B' n n' sz sz' : Nat} {e e' : TypeId} {v v' : Value} {xs xs' : List Value} (h : w.ownsRow B e sz v n xs) (h' : w.ownsRow B' e' sz' v' n' xs') (hne : e ≠ e') : ∀ g, v.ownBlock = some g → v'.ownBlock ≠ some g := by
  intro g hg hg'
  obtain ⟨cur, hc⟩ := own_block h' hg'
  exact own_ne h hg hc hne rfl

theorem KOk.ne_own {w : World} {v : Value} {n m : Nat} (h : KOk w v n m) {B n' sz' : Nat} {e' : TypeId} {v' : Value} {xs' : List Value} (h' : w.ownsRow B e' sz' v' n' xs') (hne : e' ≠ 5) : ∀ g, v.ownBlock = some g → v'.ownBlock ≠ some g := by
  intro g hg hg'
  obtain ⟨_, cs, hc⟩ := h.lt hg
  exact own_ne h' hg' hc hne rfl

theorem KOk.ne_hands {w : World} {v : Value} {n m hb : Nat} {s : HS} (h : KOk w v n m) (hH : HAt w hb s) : ∀ g, v.ownBlock = some g → g ≠ hb := by
  intro g hg q
  obtain ⟨_, cs, hc⟩ := h.lt hg
  unfold HAt at hH
  rw [q, hH] at hc
  simp only [Option.some.injEq, Obj.cells.injEq] at hc
  exact absurd hc.2.1 (by decide)

/-- Where keep stands: eo is kept, em has its marks, lv is the row with k marks behind. -/
structure KS (w wr : World) (hb B Bv N n M : Nat) (s : HS) (es : List Ent) (v lv vo vm : Value) (eo em : List Ent) (k : Nat) : Prop where
  hands : HAt wr hb { s with n := (N : Int) + 1, out := vo, marks := vm }
  own : wr.ownsRow B 33 1 vo eo.length (eo.map (·.v))
  marks : wr.ownsRow B 3 1 vm em.length (em.map fun e => .int .i64 (e.m : Int))
  each : ∀ e ∈ eo, KOk wr e.v e.n e.m ∧ e.m < 250 ∧ e.n ≤ 140737488355328
  row : wr.ownsRow Bv 5 1 lv (n + k) (List.replicate (n + k) (.int .u8 (M : Int)))
  outAt : ∀ b, vo.ownBlock = some b → s.out.ownBlock = some b ∨ w.heap.size ≤ b
  marksAt : ∀ b, vm.ownBlock = some b → s.marks.ownBlock = some b ∨ w.heap.size ≤ b
  lvAt : ∀ b, lv.ownBlock = some b → v.ownBlock = some b ∨ w.heap.size ≤ b
  newAt : ∃ es', eo = es ++ es' ∧ ∀ e ∈ es', ∀ b, e.v.ownBlock = some b → v.ownBlock = some b ∨ w.heap.size ≤ b
  same : ∀ e ∈ eo, ∀ g, e.v.ownBlock = some g → lv.ownBlock = some g → e.m = M ∧ e.n ≤ n + k
  but : But (fun b => b = hb ∨ s.out.ownBlock = some b ∨ s.marks.ownBlock = some b ∨ v.ownBlock = some b) w wr

theorem KS.pushOut {w wr w2 : World} {hb B Bv N n M : Nat} {s : HS} {es : List Ent} {v lv vo vm vo' : Value} {eo em : List Ent} {k : Nat} (h : KS w wr hb B Bv N n M s es v lv vo vm eo em k) (hM : M < 250) (hnk : n + k ≤ 140737488355328)
    (hb2 : But (fun b => vo.ownBlock = some b) wr w2) (ho2 : w2.ownsRow B 33 1 vo' (eo.length + 1) (eo.map (·.v) ++ [lv])) (hat : ∀ b, vo'.ownBlock = some b → vo.ownBlock = some b ∨ wr.heap.size ≤ b) :
    KS w (w2.setCell ⟨hb, 5, none⟩ vo') hb B Bv N n M s es v lv vo' vm (eo ++ [⟨lv, n + k, M⟩]) em k := by
  have hs := h.but.size
  have hvo : ∀ b, vo.ownBlock = some b → b ≠ hb := fun b hq => own_ne h.own hq h.hands (by decide)
  have hb3 : But (fun b => vo.ownBlock = some b ∨ b = hb) wr (w2.setCell ⟨hb, 5, none⟩ vo') := (hb2.wide (fun _ _ q => .inl q)).setCell (.inl (.inr rfl)) _
  have hH2 : HAt w2 hb { s with n := (N : Int) + 1, out := vo, marks := vm } := h.hands.kept (hb2.block hb h.hands.lt (fun q => hvo hb q rfl))
  have farK : ∀ u a b, KOk wr u a b → ∀ g, u.ownBlock = some g → ¬ (vo.ownBlock = some g ∨ g = hb) := fun u a b hu g hg q => by
    rcases q with q | q
    · exact hu.ne_own h.own (by decide) g hg q
    · exact hu.ne_hands h.hands g hg q
  have hrow : (w2.setCell ⟨hb, 5, none⟩ vo').ownsRow Bv 5 1 lv (n + k) (List.replicate (n + k) (.int .u8 (M : Int))) := hb3.own h.row (farK _ _ _ (own_kok h.row))
  refine ⟨hH2.set5 _, ?_, hb3.own h.marks (fun g hg q => ?_), fun e he => ?_, hrow, fun b hq => ?_, h.marksAt, h.lvAt, ?_, fun e he => ?_, h.but.then hb3 (fun b hlt q => ?_)⟩
  · have := own_of_block ho2 (fun b hq => Below.heap_setCell w2 ⟨hb, 5, none⟩ vo' b (own_ne ho2 hq hH2 (by decide)))
    simpa using this
  · rcases q with q | q
    · exact own_own_ne h.marks h.own (by decide) g hg q
    · exact own_ne h.marks hg h.hands (by decide) q
  · rcases List.mem_append.1 he with he | he
    · exact ⟨(h.each e he).1.but hb3 (farK _ _ _ (h.each e he).1), (h.each e he).2⟩
    · obtain rfl := List.mem_singleton.1 he
      exact ⟨own_kok hrow, hM, hnk⟩
  · rcases hat b hq with q | q
    · exact h.outAt b q
    · right; omega
  · obtain ⟨es', q1, q2⟩ := h.newAt
    refine ⟨es' ++ [⟨lv, n + k, M⟩], by rw [q1, List.append_assoc], fun e he => ?_⟩
    rcases List.mem_append.1 he with he | he
    · exact q2 e he
    · obtain rfl := List.mem_singleton.1 he
      exact h.lvAt
  · rcases List.mem_append.1 he with he | he
    · exact h.same e he
    · obtain rfl := List.mem_singleton.1 he
      exact fun g _ _ => ⟨rfl, Nat.le_refl _⟩
  · rcases q with q | q
    · rcases h.outAt b q with q | q
      · exact .inr (.inl q)
      · omega
    · exact .inl q

theorem KS.pushMark {w wr w2 : World} {hb B Bv N n M : Nat} {s : HS} {es : List Ent} {v lv vo vm vm' : Value} {eo em : List Ent} {k : Nat} (h : KS w wr hb B Bv N n M s es v lv vo vm eo em k) (e0 : Ent) (he0 : e0.m = M)
    (hb2 : But (fun b => vm.ownBlock = some b) wr w2) (ho2 : w2.ownsRow B 3 1 vm' (em.length + 1) (em.map (fun e => .int .i64 (e.m : Int)) ++ [.int .i64 (M : Int)])) (hat : ∀ b, vm'.ownBlock = some b → vm.ownBlock = some b ∨ wr.heap.size ≤ b) :
    KS w (w2.setCell ⟨hb, 6, none⟩ vm') hb B Bv N n M s es v lv vo vm' eo (em ++ [e0]) k := by
  have hs := h.but.size
  have hvm : ∀ b, vm.ownBlock = some b → b ≠ hb := fun b hq => own_ne h.marks hq h.hands (by decide)
  have hb3 : But (fun b => vm.ownBlock = some b ∨ b = hb) wr (w2.setCell ⟨hb, 6, none⟩ vm') := (hb2.wide (fun _ _ q => .inl q)).setCell (.inl (.inr rfl)) _
  have hH2 : HAt w2 hb { s with n := (N : Int) + 1, out := vo, marks := vm } := h.hands.kept (hb2.block hb h.hands.lt (fun q => hvm hb q rfl))
  have farK : ∀ u a b, KOk wr u a b → ∀ g, u.ownBlock = some g → ¬ (vm.ownBlock = some g ∨ g = hb) := fun u a b hu g hg q => by
    rcases q with q | q
    · exact hu.ne_own h.marks (by decide) g hg q
    · exact hu.ne_hands h.hands g hg q
  refine ⟨hH2.set6 _, hb3.own h.own (fun g hg q => ?_), ?_, fun e he => ⟨(h.each e he).1.but hb3 (farK _ _ _ (h.each e he).1), (h.each e he).2⟩, hb3.own h.row (farK _ _ _ (own_kok h.row)), h.outAt, fun b hq => ?_, h.lvAt, h.newAt, h.same, h.but.then hb3 (fun b hlt q => ?_)⟩
  · rcases q with q | q
    · exact own_own_ne h.own h.marks (by decide) g hg q
    · exact own_ne h.own hg h.hands (by decide) q
  · have := own_of_block ho2 (fun b hq => Below.heap_setCell w2 ⟨hb, 6, none⟩ vm' b (own_ne ho2 hq hH2 (by decide)))
    simpa [he0] using this
  · rcases hat b hq with q | q
    · exact h.marksAt b q
    · right; omega
  · rcases q with q | q
    · rcases h.marksAt b q with q | q
      · exact .inr (.inr (.inl q))
      · omega
    · exact .inl q

theorem KS.more {w wr w2 : World} {hb B Bv N n M g cap : Nat} {s : HS} {es : List Ent} {v lv vo vm : Value} {eo em : List Ent} {k : Nat} (h : KS w wr hb B Bv N n M s es v lv vo vm eo em k)
    (hb2 : But (fun b => lv.ownBlock = some b) wr w2) (ho2 : w2.ownsRow Bv 5 1 (.slice (some ⟨g, 0, none⟩) (n + k + 1) cap) (n + k + 1) (List.replicate (n + k) (.int .u8 (M : Int)) ++ [.int .u8 (M : Int)]))
    (hat : lv.ownBlock = some g ∨ wr.heap.size ≤ g ∧ ∀ j, j < wr.heap.size → w2.heap[j]? = wr.heap[j]?) :
    KS w w2 hb B Bv N n M s es v (.slice (some ⟨g, 0, none⟩) (n + k + 1) cap) vo vm eo em (k + 1) := by
  have hs := h.but.size
  have hrep : List.replicate (n + k) (Value.int .u8 (M : Int)) ++ [.int .u8 (M : Int)] = List.replicate (n + (k + 1)) (.int .u8 (M : Int)) := by
    rw [← Nat.add_assoc, List.replicate_succ']
  rw [hrep] at ho2
  have hlv := own_kok h.row
  refine ⟨h.hands.kept (hb2.block hb h.hands.lt (fun q => hlv.ne_hands h.hands hb q rfl)), hb2.own h.own (own_own_ne h.own h.row (by decide)), hb2.own h.marks (own_own_ne h.marks h.row (by decide)), fun e he => ?_, ho2, h.outAt, h.marksAt, fun b hq => ?_, h.newAt, fun e he g' hg' hl => ?_, h.but.then hb2 (fun b hlt q => ?_)⟩
  · obtain ⟨h1, h2⟩ := h.each e he
    refine ⟨?_, h2⟩
    rcases hat with q | ⟨q, hall⟩
    · by_cases p : e.v.ownBlock = some g
      · obtain ⟨e1, e2⟩ := h.same e he g p q
        rcases h1 with ⟨c, q1, q2⟩ | ⟨g', c, cs, q1, q2, q3⟩
        · rw [q1] at p; simp [Value.ownBlock] at p
        · have e3 : g' = g := by rw [q1] at p; simpa [Value.ownBlock] using p
          subst e3
          rw [q1, e1]
          exact own_kok_less ho2 (by rfl) (by omega)
      · exact h1.but hb2 (fun g' hg' r => p (by rw [hg', ← q, r]))
    · exact h1.kept (fun g' hg' => hall g' (h1.lt hg').1)
  · have e : g = b := by simpa [Value.ownBlock] using hq
    subst e
    rcases hat with q | ⟨q, _⟩
    · exact h.lvAt g q
    · right; omega
  · have e3 : g = g' := by simpa [Value.ownBlock] using hl
    subst e3
    rcases hat with q | ⟨q, _⟩
    · obtain ⟨e1, e2⟩ := h.same e he g hg' q
      exact ⟨e1, by omega⟩
    · have := ((h.each e he).1.lt hg').1; omega
  · rcases h.lvAt b q with q | q
    · exact .inr (.inr (.inr q))
    · omega

end Go.Proofs.YtjabhnhejbhgjaaDoor
