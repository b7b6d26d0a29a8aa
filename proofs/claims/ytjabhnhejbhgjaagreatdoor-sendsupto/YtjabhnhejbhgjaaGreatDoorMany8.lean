import Derived.Test.YtjabhnhejbhgjaaGreatDoorMany6
import Derived.Test.YtjabhnhejbhgjaaGreatDoorRestMath
import Derived.Test.YtjabhnhejbhgjaaGreatDoorMany4
import Derived.Test.YtjabhnhejbhgjaaGreatDoorWireParse
import Derived.Deep.DeepCutAuto
/- Symbol of the program over what was lent, Symbol of the document: one answer. -/
namespace Go.Proofs.YtjabhnhejbhgjaaGreatDoor
open Go.RowKit

def lentRows (rs : List Raw) (gs : List Nat) (n : Nat) : List Row := (List.range n).map fun i => ⟨gat gs i, 0, (wat rs i).l.length + 2, (wat rs i).l⟩
theorem lentRows_length (rs : List Raw) (gs : List Nat) (n : Nat) : (lentRows rs gs n).length = n := by simp [lentRows]
theorem lentRows_at (rs : List Raw) (gs : List Nat) (n i : Nat) (hi : i < n) : rat (lentRows rs gs n) i = ⟨gat gs i, 0, (wat rs i).l.length + 2, (wat rs i).l⟩ := by simp [rat, lentRows, List.getD, hi]

theorem lentRows_even (rs : List Raw) (gs : List Nat) (n : Nat) (hr : rs.length = n) : evenB (lentRows rs gs n) = evenR rs := by
  cases h : evenR rs
  · cases h2 : evenB (lentRows rs gs n)
    · rfl
    · exfalso
      have : evenR rs = true := evenR_yes (fun i hi => by
        have h0 : 0 < n := by omega
        have := evenB_len h2 i (by rw [lentRows_length]; omega)
        rw [lentRows_at rs gs n i (by omega), lentRows_at rs gs n 0 h0] at this
        exact this)
      rw [h] at this; cases this
  · exact evenB_yes (fun i hi => by
      rw [lentRows_length] at hi
      rw [lentRows_at rs gs n i hi, lentRows_at rs gs n 0 (by omega)]
      exact evenR_len h i (by omega))

theorem Listed.rsIn {w w' : World} {hb : Nat} {s : HS} {rs : List Raw} {n : Nat} {gs : List Nat} {v vr : Value} (h : Listed w w' hb s rs n gs v vr) : Rs w' w.heap.size 0 (lentRows rs gs n) := by
  intro i hi
  rw [lentRows_length] at hi
  rw [lentRows_at rs gs n i hi]
  refine ⟨?_, ?_⟩
  · rw [Nat.zero_add, cell_of_row w' _ i _ _ _ h.list]
    exact lendCells_at rs gs n n i hi hi
  · have := (h.lent.blk i hi).bsN (wat rs i).l.length
    rw [marked_take] at this
    exact this

theorem sym_same (rs : List Raw) (gs : List Nat) (n m : Nat) (p : Gf.F) : symOf (front n) (lentRows rs gs n) p m = symR (frontZ n) rs n p m := by
  apply list_ext
  · rw [symOf_length, symR_length]
  · intro i hi
    rw [symOf_length] at hi
    rw [symOf_at _ _ _ _ _ hi, symR_at _ _ _ _ _ _ hi, front_length]
    exact Gf.lag_congr (fun j hj => by rw [front_at n j hj, frontZ_at n j hj]; rfl) (fun j hj => by rw [lentRows_at rs gs n j hj]) p

def goodS (rs : List Raw) (n : Nat) (z : Int) : Bool := cntB (n : Int) && evenR rs && plcB z
def ansL (rs : List Raw) (n : Nat) (z : Int) : List Gf.F := if goodS rs n z = true then symR (frontZ n) rs n (byteOf z) (wat rs 0).l.length else []
def ansC (rs : List Raw) (n : Nat) (z : Int) : Nat := if goodS rs n z = true then 0 else 2

theorem blk_ownH {w : World} {B g : Nat} {l : List Gf.F} (h : Blk w g l) (hB : B ≤ g) (hm : l.length ≤ maxLen) : w.ownsRow B 5 1 (.slice (some ⟨g, 0, none⟩) l.length l.length) l.length (encL l) :=
  ⟨by simp [encL], .inr ⟨g, l.length, enc l, rfl, hB, h, Nat.le_refl _, hm, by simp [enc], by rw [Nat.mul_one]; exact List.take_of_length_le (by simp [enc])⟩⟩

theorem progSym (A : Nat → Addr) (B0 sb sc n : Nat) (rs : List Raw) (gs : List Nat) (z : Int) (w : World) (hE : Errs A B0 w) (hr : rs.length = n) (hn : n ≤ 1048576) (hm : ∀ i, i < n → (wat rs i).l.length ≤ 140737488355000) (hR : Rs w sb 0 (lentRows rs gs n)) (hlt : ∀ i, i < n → gat gs i < w.heap.size) :
    Calls Tryz.prog 59 #[.slice (some ⟨sb, 0, none⟩) n sc, .int .i64 z] w fun e w' =>
      ∃ v, e = .returned (.tuple #[v, E A (ansC rs n z)]) ∧ w'.ownsRow w.heap.size 5 1 v (ansL rs n z).length (encL (ansL rs n z)) ∧ Below w.heap.size w w' := by
  cases hg : goodS rs n z
  · have hbad : cntB (n : Int) = false ∨ evenB (lentRows rs gs n) = false ∨ plcB z = false := by
      rw [lentRows_even rs gs n hr]
      unfold goodS at hg
      cases h1 : cntB (n : Int) <;> cases h2 : evenR rs <;> cases h3 : plcB z <;> simp_all
    have hcell : w.cell? ⟨5, 0, none⟩ = some (.iface 269 (.pointer (some (A 1)))) := hE.cell 1 (by omega)
    refine (symbol_no sb 0 sc n (lentRows rs gs n) z _ _ w (lentRows_length ..) (by omega) hR hcell hbad).mono ?_
    rintro e w' ⟨rfl, nq, rfl⟩
    refine ⟨.slice none 0 0, ?_, ?_, ⟨rfl, rfl, rfl, Nat.le_refl _, fun _ _ => rfl⟩⟩
    · simp [ansC, hg, E]
    · simp only [ansL, hg]
      exact World.ownsRow_nil ..
  · have h3 : cntB (n : Int) = true ∧ evenR rs = true ∧ plcB z = true := by
      unfold goodS at hg
      cases h1 : cntB (n : Int) <;> cases h2 : evenR rs <;> cases h3 : plcB z <;> simp_all
    obtain ⟨h1, h2, h3⟩ := h3
    have hc := cntB_range h1
    have hm0 := hm 0 (by omega)
    refine (symbol_ok sb 0 sc (wat rs 0).l.length n (lentRows rs gs n) z w (lentRows_length ..) h1 (by rw [lentRows_even rs gs n hr]; exact h2) h3 (by rw [lentRows_at rs gs n 0 (by omega)]) (by omega) hR (fun i hi => by
      rw [lentRows_length] at hi
      rw [lentRows_at rs gs n i hi]; exact hlt i hi)).mono ?_
    rintro e w' ⟨rfl, hG, hb, _⟩
    rw [sym_same] at hG
    have hL : ansL rs n z = symR (frontZ n) rs n (byteOf z) (wat rs 0).l.length := by simp [ansL, hg]
    refine ⟨.slice (some ⟨w.heap.size + 1, 0, none⟩) (wat rs 0).l.length (wat rs 0).l.length, ?_, ?_, hb⟩
    · simp [ansC, hg, E]
    · rw [hL]
      have := blk_ownH hG (B := w.heap.size) (by omega) (by rw [symR_length]; unfold maxLen; omega)
      rw [symR_length] at this ⊢
      exact this

end Go.Proofs.YtjabhnhejbhgjaaGreatDoor

/- Hands.symbol. -/
namespace Go.Proofs.YtjabhnhejbhgjaaGreatDoor
open Go.RowKit

theorem LOk.but {w w' : World} {v : Value} {n m : Nat} {S : Nat → Prop} (h : LOk w v n m) (hb : But S w w') (hn : ∀ g, v.ownBlock = some g → ¬ S g) (h8 : ∀ g cs, w.heap[g]? = some (.cells cs 5 (0, 0)) → ¬ S g) : LOk w' v n m := by
  rcases h with h | ⟨g, c, cs, h1, h2, h3⟩
  · exact .inl h
  · refine .inr ⟨g, c, cs, h1, by rw [hb.block g (Array.getElem?_eq_some_iff.1 h2).1 (hn g (by rw [h1]; rfl))]; exact h2, fun j hj => ?_⟩
    obtain ⟨u, q1, gu, q2, q3⟩ := h3 j hj
    exact ⟨u, q1, gu, q2, by rw [hb.block gu (Array.getElem?_eq_some_iff.1 q3).1 (h8 gu _ q3)]; exact q3⟩

theorem Outers.but {w w' : World} {B : Nat} {vo vm : Value} {ls : List EntL} {S : Nat → Prop} (h : Outers w B vo vm ls) (hb : But S w w') (h1 : ∀ g, vo.ownBlock = some g → ¬ S g) (h2 : ∀ g, vm.ownBlock = some g → ¬ S g) (h3 : ∀ e ∈ ls, ∀ g, e.v.ownBlock = some g → ¬ S g)
    (h8 : ∀ g cs, w.heap[g]? = some (.cells cs 5 (0, 0)) → ¬ S g) : Outers w' B vo vm ls :=
  ⟨hb.own h.own h1, hb.own h.marks h2, fun e he => ⟨(h.each e he).1.but hb (h3 e he) h8, (h.each e he).2⟩⟩

theorem LOk.lt {w : World} {v : Value} {n m g : Nat} (h : LOk w v n m) (hg : v.ownBlock = some g) : g < w.heap.size ∧ ∃ cs, w.heap[g]? = some (.cells cs 33 (0, 0)) := by
  rcases h with ⟨c, h1, _⟩ | ⟨g', c, cs, h1, h2, h3⟩
  · rw [h1] at hg; simp [Value.ownBlock] at hg
  · rw [h1] at hg
    simp [Value.ownBlock] at hg
    subst hg
    exact ⟨(Array.getElem?_eq_some_iff.1 h2).1, cs, h2⟩

/-- Hands between two calls. -/
structure Inv (A : Nat → Addr) (B0 : Nat) (w : World) (hb N : Nat) (s : HS) (es : List Ent) (ls : List EntL) : Prop where
  errs : Errs A B0 w
  low : B0 ≤ hb
  hands : HAt w hb s
  num : s.n = (N : Int)
  in0 : s.in_ = .slice none 0 0
  rows0 : s.rows = .slice none 0 0
  ints0 : s.ints = .slice none 0 0
  want0 : s.iwant = .slice none 0 0
  outs : Outs w hb s.out s.marks es
  outers : Outers w hb s.outer s.omarks ls
  lacks0 : s.lacks = .slice none 0 0
  objs0 : s.objs = .slice none 0 0
  apartM : ∀ g, s.marks.ownBlock = some g → s.omarks.ownBlock ≠ some g
  apartL : ∀ e ∈ ls, ∀ g, e.v.ownBlock = some g → s.out.ownBlock ≠ some g

theorem Inv.drewN {A : Nat → Addr} {B0 : Nat} {w : World} {hb N : Nat} {s : HS} {es : List Ent} {ls : List EntL} (h : Inv A B0 w hb N s es ls) (nq : Nat) : Inv A B0 (w.drewN nq) hb N s es ls :=
  ⟨h.errs.below ⟨rfl, rfl, rfl, Nat.le_refl _, fun _ _ => rfl⟩, h.low, h.hands, h.num, h.in0, h.rows0, h.ints0, h.want0, ⟨h.outs.own, h.outs.marks, h.outs.each⟩, ⟨h.outers.own, h.outers.marks, h.outers.each⟩, h.lacks0, h.objs0, h.apartM, h.apartL⟩

/-- What was kept before stays, where only Hands and its two lists turn. -/
theorem Inv.outersKept {A : Nat → Addr} {B0 : Nat} {w w' : World} {hb N : Nat} {s : HS} {es : List Ent} {ls : List EntL} (h : Inv A B0 w hb N s es ls) (hb' : But (fun b => b = hb ∨ s.out.ownBlock = some b ∨ s.marks.ownBlock = some b) w w') : Outers w' hb s.outer s.omarks ls := by
  refine h.outers.but hb' (fun g hg q => ?_) (fun g hg q => ?_) (fun e he g hg q => ?_) (fun g cs hc q => ?_)
  · rcases q with q | q | q
    · exact own_ne h.outers.own hg h.hands (by decide) q
    · exact own_own_ne h.outers.own h.outs.own (by decide) g hg q
    · exact own_own_ne h.outers.own h.outs.marks (by decide) g hg q
  · rcases q with q | q | q
    · exact own_ne h.outers.marks hg h.hands (by decide) q
    · exact own_own_ne h.outers.marks h.outs.own (by decide) g hg q
    · exact h.apartM g q hg
  · obtain ⟨_, cs, hc⟩ := (h.outers.each e he).1.lt hg
    rcases q with q | q | q
    · have hh := h.hands
      unfold HAt at hh
      rw [q, hh] at hc
      simp only [Option.some.injEq, Obj.cells.injEq] at hc
      exact absurd hc.2.1 (by decide)
    · exact h.apartL e he g hg q
    · exact own_ne h.outs.marks q hc (by decide) rfl
  · rcases q with q | q | q
    · have hh := h.hands
      unfold HAt at hh
      rw [q, hh] at hc
      simp only [Option.some.injEq, Obj.cells.injEq] at hc
      exact absurd hc.2.1 (by decide)
    · exact own_ne h.outs.own q hc (by decide) rfl
    · exact own_ne h.outs.marks q hc (by decide) rfl

/-- A list of rows of the caller, made ahead of Hands. -/
structure Came (w : World) (hb : Nat) (al : Option Addr) (lb lo n : Nat) (rs : List Raw) : Prop where
  len : rs.length = n
  few : n ≤ 1048576
  small : ∀ i, i < n → (wat rs i).l.length ≤ 14073748835000
  adr : 0 < n → al = some ⟨lb, lo, none⟩
  ws : Ws w lb lo rs
  lbLow : lb < hb
  rowLow : ∀ i, i < n → 0 < (wat rs i).l.length → ∀ g, (wat rs i).v.ownBlock = some g → g < hb

theorem Came.but {w w' : World} {hb lb lo n : Nat} {al : Option Addr} {rs : List Raw} {S : Nat → Prop} (h : Came w hb al lb lo n rs) (hb' : But S w w') (hS : ∀ b, S b → hb ≤ b) : Came w' hb al lb lo n rs :=
  ⟨h.len, h.few, h.small, h.adr, h.ws.but hb' (fun q => by have := hS _ q; have := h.lbLow; omega) (fun i hi h0 g hg q => by have := hS _ q; have := h.rowLow i (by rw [← h.len]; exact hi) h0 g hg; omega), h.lbLow, h.rowLow⟩

theorem told_code (A : Nat → Addr) (B0 c : Nat) (hc : c = 0 ∨ c = 2) (w : World) (hE : Errs A B0 w) :
    Calls Tryz.prog 56 #[E A c] w fun e w' => e = .returned (.agg #[.int .i64 (c : Int), .int .i64 (-1)]) ∧ Below w.heap.size w w' := by
  rcases hc with rfl | rfl
  · exact told_nil w
  · exact told_err A B0 1 (by omega) w hE

theorem own_raw {w : World} {B n : Nat} {v : Value} {l : List Gf.F} (h : w.ownsRow B 5 1 v n (encL l)) (hl : l.length = n) : RawIn w ⟨v, l⟩ := by
  obtain ⟨a, c, hv⟩ := own_len h
  refine ⟨a, c, by rw [hl]; exact hv, fun h0 => ?_⟩
  obtain ⟨g, c', hv', _⟩ := h.form (by rw [← hl]; exact h0)
  rw [hv] at hv'
  simp only [Value.slice.injEq] at hv'
  refine ⟨g, 0, hv'.1, ?_⟩
  rw [hv, hv'.1] at h
  exact own_bs h hl

theorem HS.nil4 (s : HS) (h1 : s.in_ = .slice none 0 0) (h2 : s.rows = .slice none 0 0) (h3 : s.ints = .slice none 0 0) (h4 : s.iwant = .slice none 0 0) : ({ s with in_ := .slice none 0 0, rows := .slice none 0 0, ints := .slice none 0 0, iwant := .slice none 0 0 } : HS) = s := by
  cases s; cases h1; cases h2; cases h3; cases h4; rfl

theorem ansC_code (rs : List Raw) (n : Nat) (z : Int) : ansC rs n z = 0 ∨ ansC rs n z = 2 := by
  unfold ansC; split
  · exact .inl rfl
  · exact .inr rfl

theorem ansL_small {rs : List Raw} {n : Nat} {z : Int} (h : ∀ i, i < n → (wat rs i).l.length ≤ 14073748835000) : (ansL rs n z).length ≤ 14073748835000 := by
  unfold ansL
  split
  · rename_i hg
    rw [symR_length]
    refine h 0 ?_
    unfold goodS at hg
    cases h1 : cntB (n : Int)
    · rw [h1] at hg; simp at hg
    · have := cntB_range h1; omega
  · simp

end Go.Proofs.YtjabhnhejbhgjaaGreatDoor

/- Lists that came out and were kept. -/
namespace Go.Proofs.YtjabhnhejbhgjaaGreatDoor
open Go.RowKit

theorem TwoB.but {w w' : World} {u : Value} {m : Nat} {S : Nat → Prop} (h : TwoB w u m) (hb : But S w w') (h8 : ∀ g cs, w.heap[g]? = some (.cells cs 5 (0, 0)) → ¬ S g) : TwoB w' u m := by
  obtain ⟨g, h1, h2⟩ := h
  exact ⟨g, h1, by rw [hb.block g (Array.getElem?_eq_some_iff.1 h2).1 (h8 g _ h2)]; exact h2⟩

theorem own_lok {w : World} {B n m : Nat} {v : Value} {us : List Value} (h : w.ownsRow B 33 1 v n us) (hu : ∀ u ∈ us, TwoB w u m) : LOk w v n m := by
  have hl : us.length = n := by simpa using h.1
  rcases h.2 with ⟨h1, h2⟩ | ⟨g, cap, cur, h1, _, h2, h3, _, h4, h5⟩
  · exact .inl ⟨0, h1, h2⟩
  · refine .inr ⟨g, cap, cur, h1, h2, fun j hj => ?_⟩
    rw [Nat.mul_one] at h5
    have h6 : (cur.toList.take n)[j]? = some us[j] := by rw [h5]; simp [hl, hj]
    rw [List.getElem?_take, if_pos hj] at h6
    exact ⟨us[j], by simpa using h6, hu _ (List.getElem_mem _)⟩

theorem own_lok_less {w : World} {B n k m g c : Nat} {v : Value} {us : List Value} (h : w.ownsRow B 33 1 v n us) (hu : ∀ u ∈ us, TwoB w u m) (hg : v.ownBlock = some g) (hk : k ≤ n) : LOk w (.slice (some ⟨g, 0, none⟩) k c) k m := by
  rcases own_lok h hu with ⟨c', h1, _⟩ | ⟨g', c', cs, h1, h2, h3⟩
  · rw [h1] at hg; simp [Value.ownBlock] at hg
  · rw [h1] at hg
    simp [Value.ownBlock] at hg
    subst hg
    exact .inr ⟨g', c, cs, rfl, h2, fun j hj => h3 j (by omega)⟩

theorem LOk.kept {w w' : World} {v : Value} {n m : Nat} (h : LOk w v n m) (hk : ∀ g, g < w.heap.size → w'.heap[g]? = w.heap[g]?) : LOk w' v n m := by
  rcases h with h | ⟨g, c, cs, h1, h2, h3⟩
  · exact .inl h
  · refine .inr ⟨g, c, cs, h1, by rw [hk g (Array.getElem?_eq_some_iff.1 h2).1]; exact h2, fun j hj => ?_⟩
    obtain ⟨u, q1, gu, q2, q3⟩ := h3 j hj
    exact ⟨u, q1, gu, q2, by rw [hk gu (Array.getElem?_eq_some_iff.1 q3).1]; exact q3⟩

theorem HAt.ne_block {w : World} {hb g : Nat} {s : HS} {cs : Array Value} {t : TypeId} {fr : Nat × Nat} (h : HAt w hb s) (hg : w.heap[g]? = some (.cells cs t fr)) (hne : t ≠ 81) : g ≠ hb := by
  intro q
  unfold HAt at h
  rw [q, h] at hg
  simp only [Option.some.injEq, Obj.cells.injEq] at hg
  exact hne hg.2.1.symm

/-- Where keepList's last loop stands. -/
structure KL (w wr : World) (hb Bv n M : Nat) (s : HS) (es : List Ent) (v lv vo vm : Value) (lo lm : List EntL) (k : Nat) : Prop where
  hands : HAt wr hb { s with outer := vo, omarks := vm }
  own : wr.ownsRow hb 40 1 vo lo.length (lo.map (·.v))
  marks : wr.ownsRow hb 3 1 vm lm.length (lm.map fun e => .int .i64 (e.m : Int))
  each : ∀ e ∈ lo, LOk wr e.v e.n e.m ∧ e.m < 256 ∧ e.n ≤ 140737488355328
  row : ∃ us, wr.ownsRow Bv 33 1 lv (n + k) us ∧ ∀ u ∈ us, TwoB wr u M
  outs : Outs wr hb s.out s.marks es
  outAt : ∀ b, vo.ownBlock = some b → s.outer.ownBlock = some b ∨ w.heap.size ≤ b
  marksAt : ∀ b, vm.ownBlock = some b → s.omarks.ownBlock = some b ∨ w.heap.size ≤ b
  lvAt : ∀ b, lv.ownBlock = some b → v.ownBlock = some b ∨ w.heap.size ≤ b
  same : ∀ e ∈ lo, ∀ g, e.v.ownBlock = some g → lv.ownBlock = some g → e.m = M ∧ e.n ≤ n + k
  rowNe : ∀ g, lv.ownBlock = some g → s.out.ownBlock ≠ some g
  apartL : ∀ e ∈ lo, ∀ g, e.v.ownBlock = some g → s.out.ownBlock ≠ some g
  apartM : ∀ g, s.marks.ownBlock = some g → vm.ownBlock ≠ some g
  but : But (fun b => b = hb ∨ s.outer.ownBlock = some b ∨ s.omarks.ownBlock = some b ∨ v.ownBlock = some b) w wr

theorem KL.pushOut {w wr w2 : World} {hb Bv n M : Nat} {s : HS} {es : List Ent} {v lv vo vm vo' : Value} {lo lm : List EntL} {k : Nat} (h : KL w wr hb Bv n M s es v lv vo vm lo lm k) (hM : M < 256) (hnk : n + k ≤ 140737488355328)
    (hb2 : But (fun b => vo.ownBlock = some b) wr w2) (ho2 : w2.ownsRow hb 40 1 vo' (lo.length + 1) (lo.map (·.v) ++ [lv])) (hat : ∀ b, vo'.ownBlock = some b → vo.ownBlock = some b ∨ wr.heap.size ≤ b) :
    KL w (w2.setCell ⟨hb, 9, none⟩ vo') hb Bv n M s es v lv vo' vm (lo ++ [⟨lv, n + k, M⟩]) lm k := by
  have hs := h.but.size
  have hvo : ∀ b, vo.ownBlock = some b → b ≠ hb := fun b hq => own_ne h.own hq h.hands (by decide)
  have hb3 : But (fun b => vo.ownBlock = some b ∨ b = hb) wr (w2.setCell ⟨hb, 9, none⟩ vo') := (hb2.wide (fun _ _ q => .inl q)).setCell (.inl (.inr rfl)) _
  have hH2 : HAt w2 hb { s with outer := vo, omarks := vm } := h.hands.kept (hb2.block hb h.hands.lt (fun q => hvo hb q rfl))
  have far : ∀ t, t ≠ 81 → 40 ≠ t → ∀ g cs, wr.heap[g]? = some (.cells cs t (0, 0)) → ¬ (vo.ownBlock = some g ∨ g = hb) := fun t h1 h2 g cs hc q => by
    rcases q with q | q
    · exact own_ne h.own q hc h2 rfl
    · exact h.hands.ne_block hc h1 q
  have farO : ∀ {B m sz : Nat} {t : TypeId} {u : Value} {xs : List Value}, wr.ownsRow B t sz u m xs → t ≠ 81 → 40 ≠ t → ∀ g, u.ownBlock = some g → ¬ (vo.ownBlock = some g ∨ g = hb) := fun hu h1 h2 g hg => by
    obtain ⟨cur, hc⟩ := own_block hu hg
    exact far _ h1 h2 g cur hc
  obtain ⟨us, hr1, hr2⟩ := h.row
  have hrow1 := hb3.own hr1 (farO hr1 (by decide) (by decide))
  have hrow2 : ∀ u ∈ us, TwoB (w2.setCell ⟨hb, 9, none⟩ vo') u M := fun u hu => (hr2 u hu).but hb3 (far _ (by decide) (by decide))
  refine ⟨hH2.set7 _, ?_, hb3.own h.marks (farO h.marks (by decide) (by decide)), fun e he => ?_, ⟨us, hrow1, hrow2⟩, h.outs.but hb3 (farO h.outs.own (by decide) (by decide)) (farO h.outs.marks (by decide) (by decide)) (fun e he g hg => by
    obtain ⟨_, cs, hc⟩ := (h.outs.each e he).1.lt hg
    exact far _ (by decide) (by decide) g cs hc), fun b hq => ?_, h.marksAt, h.lvAt, fun e he => ?_, h.rowNe, fun e he => ?_, h.apartM, h.but.then hb3 (fun b hlt q => ?_)⟩
  · have := own_of_block ho2 (fun b hq => Below.heap_setCell w2 ⟨hb, 9, none⟩ vo' b (own_ne ho2 hq hH2 (by decide)))
    simpa using this
  · rcases List.mem_append.1 he with he | he
    · refine ⟨(h.each e he).1.but hb3 (fun g hg => ?_) (far _ (by decide) (by decide)), (h.each e he).2⟩
      obtain ⟨_, cs, hc⟩ := (h.each e he).1.lt hg
      exact far _ (by decide) (by decide) g cs hc
    · obtain rfl := List.mem_singleton.1 he
      exact ⟨own_lok hrow1 hrow2, hM, hnk⟩
  · rcases hat b hq with q | q
    · exact h.outAt b q
    · right; omega
  · rcases List.mem_append.1 he with he | he
    · exact h.same e he
    · obtain rfl := List.mem_singleton.1 he
      exact fun g _ _ => ⟨rfl, Nat.le_refl _⟩
  · rcases List.mem_append.1 he with he | he
    · exact h.apartL e he
    · obtain rfl := List.mem_singleton.1 he
      exact h.rowNe
  · rcases q with q | q
    · rcases h.outAt b q with q | q
      · exact .inr (.inl q)
      · omega
    · exact .inl q

theorem KL.pushMark {w wr w2 : World} {hb Bv n M : Nat} {s : HS} {es : List Ent} {v lv vo vm vm' : Value} {lo lm : List EntL} {k : Nat} (h : KL w wr hb Bv n M s es v lv vo vm lo lm k) (e0 : EntL) (he0 : e0.m = M)
    (hb2 : But (fun b => vm.ownBlock = some b) wr w2) (ho2 : w2.ownsRow hb 3 1 vm' (lm.length + 1) (lm.map (fun e => .int .i64 (e.m : Int)) ++ [.int .i64 (M : Int)])) (hat : ∀ b, vm'.ownBlock = some b → vm.ownBlock = some b ∨ wr.heap.size ≤ b) :
    KL w (w2.setCell ⟨hb, 10, none⟩ vm') hb Bv n M s es v lv vo vm' lo (lm ++ [e0]) k := by
  have hs := h.but.size
  have hvm : ∀ b, vm.ownBlock = some b → b ≠ hb := fun b hq => own_ne h.marks hq h.hands (by decide)
  have hb3 : But (fun b => vm.ownBlock = some b ∨ b = hb) wr (w2.setCell ⟨hb, 10, none⟩ vm') := (hb2.wide (fun _ _ q => .inl q)).setCell (.inl (.inr rfl)) _
  have hH2 : HAt w2 hb { s with outer := vo, omarks := vm } := h.hands.kept (hb2.block hb h.hands.lt (fun q => hvm hb q rfl))
  have far : ∀ t, t ≠ 81 → 3 ≠ t → ∀ g cs, wr.heap[g]? = some (.cells cs t (0, 0)) → ¬ (vm.ownBlock = some g ∨ g = hb) := fun t h1 h2 g cs hc q => by
    rcases q with q | q
    · exact own_ne h.marks q hc h2 rfl
    · exact h.hands.ne_block hc h1 q
  have farO : ∀ {B m sz : Nat} {t : TypeId} {u : Value} {xs : List Value}, wr.ownsRow B t sz u m xs → t ≠ 81 → 3 ≠ t → ∀ g, u.ownBlock = some g → ¬ (vm.ownBlock = some g ∨ g = hb) := fun hu h1 h2 g hg => by
    obtain ⟨cur, hc⟩ := own_block hu hg
    exact far _ h1 h2 g cur hc
  obtain ⟨us, hr1, hr2⟩ := h.row
  refine ⟨hH2.set8 _, hb3.own h.own (farO h.own (by decide) (by decide)), ?_, fun e he => ⟨(h.each e he).1.but hb3 (fun g hg => ?_) (far _ (by decide) (by decide)), (h.each e he).2⟩, ⟨us, hb3.own hr1 (farO hr1 (by decide) (by decide)), fun u hu => (hr2 u hu).but hb3 (far _ (by decide) (by decide))⟩, h.outs.but hb3 (farO h.outs.own (by decide) (by decide)) (fun g hg q => ?_) (fun e he g hg => ?_), h.outAt, fun b hq => ?_, h.lvAt, h.same, h.rowNe, h.apartL, fun g hg q => ?_, h.but.then hb3 (fun b hlt q => ?_)⟩
  · have := own_of_block ho2 (fun b hq => Below.heap_setCell w2 ⟨hb, 10, none⟩ vm' b (own_ne ho2 hq hH2 (by decide)))
    simpa [he0] using this
  · obtain ⟨_, cs, hc⟩ := (h.each e he).1.lt hg
    exact far _ (by decide) (by decide) g cs hc
  · rcases q with q | q
    · exact h.apartM g hg q
    · exact own_ne h.outs.marks hg h.hands (by decide) q
  · obtain ⟨_, cs, hc⟩ := (h.outs.each e he).1.lt hg
    exact far _ (by decide) (by decide) g cs hc
  · rcases hat b hq with q | q
    · exact h.marksAt b q
    · right; omega
  · rcases hat g q with p | p
    · exact h.apartM g hg p
    · have := (h.outs.marks.lt g hg).2; omega
  · rcases q with q | q
    · rcases h.marksAt b q with q | q
      · exact .inr (.inr (.inl q))
      · omega
    · exact .inl q

theorem KL.more {w wr w2 : World} {hb Bv n M g cap : Nat} {s : HS} {es : List Ent} {v lv vo vm u : Value} {us : List Value} {lo lm : List EntL} {k : Nat} (h : KL w wr hb Bv n M s es v lv vo vm lo lm k) (hr1 : wr.ownsRow Bv 33 1 lv (n + k) us) (hr2 : ∀ u ∈ us, TwoB wr u M)
    (hb2 : But (fun b => lv.ownBlock = some b) wr w2) (ho2 : w2.ownsRow Bv 33 1 (.slice (some ⟨g, 0, none⟩) (n + k + 1) cap) (n + k + 1) (us ++ [u])) (hu : TwoB w2 u M)
    (hat : lv.ownBlock = some g ∨ wr.heap.size ≤ g ∧ ∀ j, j < wr.heap.size → w2.heap[j]? = wr.heap[j]?) :
    KL w w2 hb Bv n M s es v (.slice (some ⟨g, 0, none⟩) (n + k + 1) cap) vo vm lo lm (k + 1) := by
  have hs := h.but.size
  have far : ∀ t, 33 ≠ t → ∀ g cs, wr.heap[g]? = some (.cells cs t (0, 0)) → ¬ (lv.ownBlock = some g) := fun t h2 g cs hc q => own_ne hr1 q hc h2 rfl
  have farO : ∀ {B m sz : Nat} {t : TypeId} {x : Value} {xs : List Value}, wr.ownsRow B t sz x m xs → 33 ≠ t → ∀ g, x.ownBlock = some g → ¬ (lv.ownBlock = some g) := fun hu h2 g hg => by
    obtain ⟨cur, hc⟩ := own_block hu hg
    exact far _ h2 g cur hc
  have hus : ∀ x ∈ us ++ [u], TwoB w2 x M := fun x hx => by
    rcases List.mem_append.1 hx with hx | hx
    · exact (hr2 x hx).but hb2 (far _ (by decide))
    · obtain rfl := List.mem_singleton.1 hx
      exact hu
  refine ⟨h.hands.kept (hb2.block hb h.hands.lt (fun q => own_ne hr1 q h.hands (by decide) rfl)), hb2.own h.own (farO h.own (by decide)), hb2.own h.marks (farO h.marks (by decide)), fun e he => ?_, ⟨us ++ [u], ho2, hus⟩, h.outs.but hb2 (fun q hq r => h.rowNe q r hq) (farO h.outs.marks (by decide)) (fun e he q hq => ?_), h.outAt, h.marksAt, fun b hq => ?_, fun e he g' hg' hl => ?_, fun q hq r => ?_, h.apartL, h.apartM, h.but.then hb2 (fun b hlt q => ?_)⟩
  · obtain ⟨h1, h2⟩ := h.each e he
    refine ⟨?_, h2⟩
    rcases hat with q | ⟨q, hall⟩
    · by_cases p : e.v.ownBlock = some g
      · obtain ⟨e1, e2⟩ := h.same e he g p q
        rcases h1 with ⟨c, q1, q2⟩ | ⟨g', c, cs, q1, q2, q3⟩
        · rw [q1] at p; simp [Value.ownBlock] at p
        · have e3 : g' = g := by rw [q1] at p; simpa [Value.ownBlock] using p
          subst e3
          rw [q1, e1]
          exact own_lok_less ho2 hus (by rfl) (by omega)
      · exact h1.but hb2 (fun g' hg' r => p (by rw [hg', ← q, r])) (far _ (by decide))
    · exact h1.kept hall
  · obtain ⟨_, cs, hc⟩ := (h.outs.each e he).1.lt hq
    exact far _ (by decide) q cs hc
  · have e : g = b := by simpa [Value.ownBlock] using hq
    subst e
    rcases hat with q | ⟨q, _⟩
    · exact h.lvAt g q
    · right; omega
  · have e3 : g = g' := by simpa [Value.ownBlock] using hl
    subst e3
    rcases hat with q | ⟨q, _⟩
    · obtain ⟨e1, e2⟩ := h.same e he g hg' q
      exact ⟨e1, by omega⟩
    · have := ((h.each e he).1.lt hg').1; omega
  · have e3 : g = q := by simpa [Value.ownBlock] using hq
    subst e3
    rcases hat with p | ⟨p, _⟩
    · exact h.rowNe g p r
    · have := (h.outs.own.lt g r).2; omega
  · rcases h.lvAt b q with q | q
    · exact .inr (.inr (.inr q))
    · omega

/-- Hands between two calls, behind keep; no list has been kept yet. -/
theorem Inv.afterKeep {A : Nat → Addr} {B0 : Nat} {w w' : World} {hb N n Bv : Nat} {s : HS} {es es' : List Ent} {v vo vm : Value} {xs : List Value} (h : Inv A B0 w hb N s es []) (hv : w.ownsRow Bv 5 1 v n xs) (hBv : hb ≤ Bv) (hK : KeptAs w w' hb hb N s es es' v vo vm) :
    Inv A B0 w' hb (N + 1) { s with n := (N : Int) + 1, out := vo, marks := vm } (es ++ es') [] ∧ Below hb w w' := by
  have hhigh : ∀ k, k < hb → ¬ (k = hb ∨ s.out.ownBlock = some k ∨ s.marks.ownBlock = some k ∨ v.ownBlock = some k) := fun k hk q => by
    rcases q with q | q | q | q
    · omega
    · have := (h.outs.own.lt k q).1; omega
    · have := (h.outs.marks.lt k q).1; omega
    · have := (hv.lt k q).1; omega
  have hlow : Below hb w w' := hK.but.toBelow (by have := h.hands.lt; omega) hhigh
  refine ⟨⟨h.errs.below (hlow.mono h.low), h.low, hK.hands, by show (N : Int) + 1 = _; omega, h.in0, h.rows0, h.ints0, h.want0, hK.outs, ?_, h.lacks0, h.objs0, fun g hg q => ?_, fun e he => by simp at he⟩, hlow⟩
  · refine ⟨hK.but.own h.outers.own (fun g hg q => ?_), hK.but.own h.outers.marks (fun g hg q => ?_), fun e he => by simp at he⟩
    · rcases q with q | q | q | q
      · exact own_ne h.outers.own hg h.hands (by decide) q
      · exact own_own_ne h.outers.own h.outs.own (by decide) g hg q
      · exact own_own_ne h.outers.own h.outs.marks (by decide) g hg q
      · exact own_own_ne h.outers.own hv (by decide) g hg q
    · rcases q with q | q | q | q
      · exact own_ne h.outers.marks hg h.hands (by decide) q
      · exact own_own_ne h.outers.marks h.outs.own (by decide) g hg q
      · exact h.apartM g q hg
      · exact own_own_ne h.outers.marks hv (by decide) g hg q
  · rcases hK.marksAt g hg with p | p
    · exact h.apartM g p q
    · have := (h.outers.marks.lt g q).2; omega

theorem Inv.setN {A : Nat → Addr} {B0 : Nat} {w : World} {hb N N' : Nat} {s : HS} {es : List Ent} {ls : List EntL} (h : Inv A B0 w hb N s es ls) (z : Int) (hz : z = (N' : Int)) : Inv A B0 (w.setCell ⟨hb, 6, none⟩ (.int .i64 z)) hb N' { s with n := z } es ls := by
  have hb1 : But (fun b => b = hb) w (w.setCell ⟨hb, 6, none⟩ (.int .i64 z)) := But.setCell (S := fun b => b = hb) (But.refl _ _) (p := ⟨hb, 6, none⟩) (.inl rfl) _
  exact ⟨h.errs.below (hb1.toBelow h.errs.size (fun k hk q => by have := h.low; omega)), h.low, h.hands.set4 z, hz, h.in0, h.rows0, h.ints0, h.want0,
    h.outs.but hb1 (fun g hg q => own_ne h.outs.own hg h.hands (by decide) q) (fun g hg q => own_ne h.outs.marks hg h.hands (by decide) q) (fun e he g hg q => (h.outs.each e he).1.ne_hands h.hands g hg q),
    h.outersKept (hb1.wide (fun _ _ q => .inl q)), h.lacks0, h.objs0, h.apartM, h.apartL⟩

theorem Inv.butAt {A : Nat → Addr} {B0 : Nat} {w w' : World} {hb N : Nat} {s : HS} {es : List Ent} {S : Nat → Prop} (h : Inv A B0 w hb N s es []) (hb' : But S w w') (h1 : ∀ k, k ≤ hb → ¬ S k) (h2 : ∀ g, s.out.ownBlock = some g → ¬ S g) (h3 : ∀ g, s.marks.ownBlock = some g → ¬ S g) (h4 : ∀ g, s.outer.ownBlock = some g → ¬ S g) (h5 : ∀ g, s.omarks.ownBlock = some g → ¬ S g)
    (h6 : ∀ e ∈ es, ∀ g, e.v.ownBlock = some g → ¬ S g) : Inv A B0 w' hb N s es [] :=
  ⟨h.errs.below (hb'.toBelow h.errs.size (fun k hk => h1 k (by have := h.low; omega))), h.low, h.hands.kept (hb'.block hb h.hands.lt (h1 hb (Nat.le_refl _))), h.num, h.in0, h.rows0, h.ints0, h.want0, h.outs.but hb' h2 h3 h6, ⟨hb'.own h.outers.own h4, hb'.own h.outers.marks h5, fun e he => by simp at he⟩, h.lacks0, h.objs0, h.apartM, fun e he => by simp at he⟩

theorem step_append_apart {w : World} {ops : Array Oper} {o : Oper} {a : Act} {K : Act → World → Prop} {Q : Exit → Act → World → Prop} {F : Prop} (hgd : o.guard = none) (s x : Operand) (t : TypeId) (ho : o.op = .call { callee := .builtin .append, args := #[s, x], argTypes := #[t, t] })
    (base : Nat) (e : TypeId) (i : TypeInfo) (z : Value) (size bytes : Nat) (ht : Tryz.prog.underlying t = some (.slice e)) (hi : Tryz.prog.info? e = some i) (hz : i.zero = some z)
    (hsize : i.size = size) (hby : i.bytes = bytes) (hzs : z.cells.size = size) (hsz : 0 < size) (v : Value) (n : Nat) (xs : List Value) (hs : a.eval s = v) (hown : w.ownsRow base e size v n xs)
    (ad : Addr) (m c : Nat) (news : List Value) (hx : a.eval x = .slice (some ad) m c) (hl : news.length = m * size) (hnews : ∀ j u, news[j]? = some u → w.cell? (ad.add j) = some u) (h1 : ∀ u ∈ news, u.oneCell' = true)
    (hm : 0 < m) (h63 : n + m ≤ maxLen) (hbytes : ((n + m) + (n + m) / 4 + 192) * bytes ≤ 281474976710656) (hbytes2 : (n + m) * bytes ≤ 140737488355328) (hbase : base ≤ w.heap.size)
    (h : ∀ g cap w', w'.ownsRow base e size (.slice (some ⟨g, 0, none⟩) (n + m) cap) (n + m) (xs ++ news) → w.grownBy w' v.ownBlock → (v.ownBlock = some g ∨ g = w.heap.size ∧ ∀ k, k < w.heap.size → w'.heap[k]? = w.heap[k]?) → g < w'.heap.size → K (a.put o.dst (.slice (some ⟨g, 0, none⟩) (n + m) cap)) w') :
    if Region.wanted o (yielded ops a.tmps) = true then Oper.wp Tryz.prog o a w K Q else F := by
  have hw : Region.wanted o (yielded ops a.tmps) = true := by simp [Region.wanted, hgd]
  rw [if_pos hw]
  obtain ⟨g, cap, w', hr, h2, h3, h4, h5⟩ := run_append_apart w t o.type base e i z size bytes ht hi hz hsize hby hzs hsz v n xs hown ad m c news hl hnews h1 hm h63 hbytes hbytes2 hbase
  unfold Oper.wp execOp
  simp only [ho, resolve, invoke, builtin, Sem.run_bind, Sem.run_pure, Result.andThen_ok, List.map_toArray, List.map_cons, List.map_nil, hs, hx, hr]
  exact h g cap w' h2 h3 h4 h5

theorem KL.sees {w wr w4 : World} {hb Bv n M : Nat} {s : HS} {es : List Ent} {v lv vo vm : Value} {lo lm : List EntL} {k : Nat} {o : Obj} (h : KL w wr hb Bv n M s es v lv vo vm lo lm k) (hg : (wr.alloc o).drew.grownBy w4 vm.ownBlock) :
    w4.cell? ⟨hb, 10, none⟩ = some vm ∧ w4.frozen? ⟨hb, 10, none⟩ = false := by
  have hk : w4.heap[hb]? = wr.heap[hb]? := by
    rw [grown_block hg (by have := h.hands.lt; simp; omega) (fun q => own_ne h.marks q h.hands (by decide) rfl)]; exact Below.heap_alloc wr o hb h.hands.lt
  have hH := h.hands.kept hk
  exact ⟨hH.cell 8, hH.frozen 10⟩

end Go.Proofs.YtjabhnhejbhgjaaGreatDoor

/- murmurref: data. (Written by gen_rdata.py.) -/
namespace Go.Proofs.YtjabhnhejbhgjaaGreatDoor
open Go.RowKit

theorem put2 (W : World) (re : Nat) (t : TypeId) (y0 y1 u0 u1 : Value) (h : W.heap[re]? = some (.cells #[y0, y1] t (0, 0))) :
    ((W.setCell ⟨re, 0, none⟩ u0).setCell ⟨re, 1, none⟩ u1).heap[re]? = some (.cells #[u0, u1] t (0, 0)) ∧ But (fun g => g = re) W ((W.setCell ⟨re, 0, none⟩ u0).setCell ⟨re, 1, none⟩ u1) := by
  have h0 : (W.setCell ⟨re, 0, none⟩ u0).heap[re]? = some (.cells #[u0, y1] t (0, 0)) := heap_setCell_same _ re 0 _ _ u0 h
  have h1 : ((W.setCell ⟨re, 0, none⟩ u0).setCell ⟨re, 1, none⟩ u1).heap[re]? = some (.cells #[u0, u1] t (0, 0)) := heap_setCell_same _ re 1 _ _ u1 h0
  have b0 := But.setCell (S := fun g => g = re) (But.refl _ W) (p := ⟨re, 0, none⟩) (.inl rfl) u0
  exact ⟨h1, But.setCell b0 (p := ⟨re, 1, none⟩) (.inl rfl) u1⟩
theorem put9 (W : World) (rp re : Nat) (x0 x1 x2 x3 x4 x5 x6 y0 y1 v0 v1 v2 v3 v4 v5 v6 u0 u1 : Value) (h : W.heap[rp]? = some (.cells #[x0, x1, x2, x3, x4, x5, x6] 60 (0, 0))) (he : W.heap[re]? = some (.cells #[y0, y1] 139 (0, 0))) (hne : rp ≠ re) :
    (((((((((W.setCell ⟨rp, 0, none⟩ v0).setCell ⟨rp, 1, none⟩ v1).setCell ⟨rp, 2, none⟩ v2).setCell ⟨rp, 3, none⟩ v3).setCell ⟨rp, 4, none⟩ v4).setCell ⟨rp, 5, none⟩ v5).setCell ⟨rp, 6, none⟩ v6).setCell ⟨re, 0, none⟩ u0).setCell ⟨re, 1, none⟩ u1).heap[rp]? = some (.cells #[v0, v1, v2, v3, v4, v5, v6] 60 (0, 0)) ∧ (((((((((W.setCell ⟨rp, 0, none⟩ v0).setCell ⟨rp, 1, none⟩ v1).setCell ⟨rp, 2, none⟩ v2).setCell ⟨rp, 3, none⟩ v3).setCell ⟨rp, 4, none⟩ v4).setCell ⟨rp, 5, none⟩ v5).setCell ⟨rp, 6, none⟩ v6).setCell ⟨re, 0, none⟩ u0).setCell ⟨re, 1, none⟩ u1).heap[re]? = some (.cells #[u0, u1] 139 (0, 0)) ∧ But (fun g => g = rp ∨ g = re) W (((((((((W.setCell ⟨rp, 0, none⟩ v0).setCell ⟨rp, 1, none⟩ v1).setCell ⟨rp, 2, none⟩ v2).setCell ⟨rp, 3, none⟩ v3).setCell ⟨rp, 4, none⟩ v4).setCell ⟨rp, 5, none⟩ v5).setCell ⟨rp, 6, none⟩ v6).setCell ⟨re, 0, none⟩ u0).setCell ⟨re, 1, none⟩ u1) := by
  obtain ⟨h7, b7⟩ := put7 W rp x0 x1 x2 x3 x4 x5 x6 v0 v1 v2 v3 v4 v5 v6 h
  generalize (((((((W.setCell ⟨rp, 0, none⟩ v0).setCell ⟨rp, 1, none⟩ v1).setCell ⟨rp, 2, none⟩ v2).setCell ⟨rp, 3, none⟩ v3).setCell ⟨rp, 4, none⟩ v4).setCell ⟨rp, 5, none⟩ v5).setCell ⟨rp, 6, none⟩ v6) = W1 at *
  have he1 : W1.heap[re]? = some (.cells #[y0, y1] 139 (0, 0)) := by rw [b7.block _ (lt_of_block he) (Ne.symm hne)]; exact he
  obtain ⟨h2, b2⟩ := put2 W1 re _ y0 y1 u0 u1 he1
  exact ⟨by rw [b2.block _ (lt_of_block h7) hne]; exact h7, h2, (b7.wide (fun _ _ q => .inl q)).trans (b2.wide (fun _ _ q => .inr q))⟩
theorem put9b (W : World) (rp re : Nat) (x0 x1 x2 x3 x4 x5 x6 y0 y1 v0 v1 v2 v3 v4 v5 v6 u0 u1 : Value) (h : W.heap[rp]? = some (.cells #[x0, x1, x2, x3, x4, x5, x6] 60 (0, 0))) (he : W.heap[re]? = some (.cells #[y0, y1] 139 (0, 0))) (hne : rp ≠ re) :
    (((((((((W.setCell ⟨re, 0, none⟩ u0).setCell ⟨re, 1, none⟩ u1).setCell ⟨rp, 0, none⟩ v0).setCell ⟨rp, 1, none⟩ v1).setCell ⟨rp, 2, none⟩ v2).setCell ⟨rp, 3, none⟩ v3).setCell ⟨rp, 4, none⟩ v4).setCell ⟨rp, 5, none⟩ v5).setCell ⟨rp, 6, none⟩ v6).heap[rp]? = some (.cells #[v0, v1, v2, v3, v4, v5, v6] 60 (0, 0)) ∧ (((((((((W.setCell ⟨re, 0, none⟩ u0).setCell ⟨re, 1, none⟩ u1).setCell ⟨rp, 0, none⟩ v0).setCell ⟨rp, 1, none⟩ v1).setCell ⟨rp, 2, none⟩ v2).setCell ⟨rp, 3, none⟩ v3).setCell ⟨rp, 4, none⟩ v4).setCell ⟨rp, 5, none⟩ v5).setCell ⟨rp, 6, none⟩ v6).heap[re]? = some (.cells #[u0, u1] 139 (0, 0)) ∧ But (fun g => g = rp ∨ g = re) W (((((((((W.setCell ⟨re, 0, none⟩ u0).setCell ⟨re, 1, none⟩ u1).setCell ⟨rp, 0, none⟩ v0).setCell ⟨rp, 1, none⟩ v1).setCell ⟨rp, 2, none⟩ v2).setCell ⟨rp, 3, none⟩ v3).setCell ⟨rp, 4, none⟩ v4).setCell ⟨rp, 5, none⟩ v5).setCell ⟨rp, 6, none⟩ v6) := by
  obtain ⟨h2, b2⟩ := put2 W re _ y0 y1 u0 u1 he
  generalize (W.setCell ⟨re, 0, none⟩ u0).setCell ⟨re, 1, none⟩ u1 = W1 at *
  have h1 : W1.heap[rp]? = some (.cells #[x0, x1, x2, x3, x4, x5, x6] 60 (0, 0)) := by rw [b2.block _ (lt_of_block h) hne]; exact h
  obtain ⟨h7, b7⟩ := put7 W1 rp x0 x1 x2 x3 x4 x5 x6 v0 v1 v2 v3 v4 v5 v6 h1
  exact ⟨h7, by rw [b7.block _ (lt_of_block h2) (Ne.symm hne)]; exact h2, (b2.wide (fun _ _ q => .inr q)).trans (b7.wide (fun _ _ q => .inl q))⟩

/-- In the middle of data, or asks: the configuration's block, the packet's, the results'. -/
structure RSt (w W : World) (K N S : Nat) (y0 y1 y2 y3 y4 y5 y6 : Value) : Prop where
  low : Below w.heap.size w W
  cfg : W.heap[w.heap.size]? = some (.cells #[.int .i64 (K : Int), .int .i64 (N : Int), .int .i64 (S : Int)] 30 (0, 0))
  pk : W.heap[w.heap.size + 1]? = some (.cells #[y0, y1, y2, y3, y4, y5, y6] 60 (0, 0))
  res : W.heap[w.heap.size + 2]? = some (.cells #[.int .i64 0, .int .i64 0, .int .i64 0, .int .i64 0, .int .i64 0, .slice none 0 0, .slice none 0 0] 60 (0, 0))
  err : W.heap[w.heap.size + 3]? = some (.cells #[.int .i64 0, .int .i64 0] 139 (0, 0))
theorem RSt.start (w : World) (K N S : Nat) (y0 y1 y2 y3 y4 y5 y6 : Value) : RSt w ((((w.alloc (.cells #[.int .i64 (K : Int), .int .i64 (N : Int), .int .i64 (S : Int)] 30)).alloc (.cells #[y0, y1, y2, y3, y4, y5, y6] 60)).alloc (.cells #[.int .i64 0, .int .i64 0, .int .i64 0, .int .i64 0, .int .i64 0, .slice none 0 0, .slice none 0 0] 60)).alloc (.cells #[.int .i64 0, .int .i64 0] 139)) K N S y0 y1 y2 y3 y4 y5 y6 := by
  have e1 := heap_alloc_new (w.alloc (.cells #[.int .i64 (K : Int), .int .i64 (N : Int), .int .i64 (S : Int)] 30)) (.cells #[y0, y1, y2, y3, y4, y5, y6] 60)
  have e2 := heap_alloc_new ((w.alloc (.cells #[.int .i64 (K : Int), .int .i64 (N : Int), .int .i64 (S : Int)] 30)).alloc (.cells #[y0, y1, y2, y3, y4, y5, y6] 60)) (.cells #[.int .i64 0, .int .i64 0, .int .i64 0, .int .i64 0, .int .i64 0, .slice none 0 0, .slice none 0 0] 60)
  have e3 := heap_alloc_new (((w.alloc (.cells #[.int .i64 (K : Int), .int .i64 (N : Int), .int .i64 (S : Int)] 30)).alloc (.cells #[y0, y1, y2, y3, y4, y5, y6] 60)).alloc (.cells #[.int .i64 0, .int .i64 0, .int .i64 0, .int .i64 0, .int .i64 0, .slice none 0 0, .slice none 0 0] 60)) (.cells #[.int .i64 0, .int .i64 0] 139)
  rw [World.size_alloc] at e1
  rw [World.size_alloc, World.size_alloc] at e2
  rw [World.size_alloc, World.size_alloc, World.size_alloc] at e3
  refine ⟨((((Below.refl _ _).alloc (Nat.le_refl _) _).alloc (by simp) _).alloc (by simp; omega) _).alloc (by simp; omega) _, ?_, ?_, ?_, e3⟩
  · rw [Below.heap_alloc _ _ _ (by simp <;> omega), Below.heap_alloc _ _ _ (by simp <;> omega), Below.heap_alloc _ _ _ (by simp)]; exact heap_alloc_new w _
  · rw [Below.heap_alloc _ _ _ (by simp <;> omega), Below.heap_alloc _ _ _ (by simp)]; exact e1
  · rw [Below.heap_alloc _ _ _ (by simp)]; exact e2
theorem RSt.above {w W W' : World} {K N S : Nat} {y0 y1 y2 y3 y4 y5 y6 : Value} (h : RSt w W K N S y0 y1 y2 y3 y4 y5 y6) (hb : Below (w.heap.size + 4) W W') : RSt w W' K N S y0 y1 y2 y3 y4 y5 y6 :=
  ⟨h.low.trans (hb.mono (by omega)), by rw [hb.block _ (by omega)]; exact h.cfg, by rw [hb.block _ (by omega)]; exact h.pk, by rw [hb.block _ (by omega)]; exact h.res, by rw [hb.block _ (by omega)]; exact h.err⟩
theorem RSt.lt {w W : World} {K N S : Nat} {y0 y1 y2 y3 y4 y5 y6 : Value} (h : RSt w W K N S y0 y1 y2 y3 y4 y5 y6) : w.heap.size + 4 ≤ W.heap.size := by have := lt_of_block h.err; omega
theorem RSt.turn {w W W' : World} {K N S : Nat} {y0 y1 y2 y3 y4 y5 y6 z0 z1 z2 z3 z4 z5 z6 : Value} (h : RSt w W K N S y0 y1 y2 y3 y4 y5 y6) (hb : But (fun g => g = w.heap.size + 1) W W') (hp : W'.heap[w.heap.size + 1]? = some (.cells #[z0, z1, z2, z3, z4, z5, z6] 60 (0, 0))) : RSt w W' K N S z0 z1 z2 z3 z4 z5 z6 :=
  ⟨h.low.trans (hb.toBelow (by have := h.low.size; omega) (fun k hk q => by omega)), by rw [hb.block _ (lt_of_block h.cfg) (by omega)]; exact h.cfg, hp, by rw [hb.block _ (lt_of_block h.res) (by omega)]; exact h.res, by rw [hb.block _ (lt_of_block h.err) (by omega)]; exact h.err⟩
theorem RSt.cfgs {w W : World} {K N S : Nat} {y0 y1 y2 y3 y4 y5 y6 : Value} (h : RSt w W K N S y0 y1 y2 y3 y4 y5 y6) : W.cell? ⟨w.heap.size, 0, none⟩ = some (.int .i64 (K : Int)) ∧ W.cell? ⟨w.heap.size, 1, none⟩ = some (.int .i64 (N : Int)) ∧ W.cell? ⟨w.heap.size, 2, none⟩ = some (.int .i64 (S : Int)) :=
  ⟨cell_of_row W _ 0 _ _ _ h.cfg, cell_of_row W _ 1 _ _ _ h.cfg, cell_of_row W _ 2 _ _ _ h.cfg⟩

section
variable {K N S T : Nat} {m : List Gf.F}
theorem dataB_0 (h1 : ¬ m.length < 1) (h : winB (bt m 0 : Int) 0 ((partsN T K : Int) - 1) = false) : dataB K N S T m = some (6, 0) := by unfold dataB; rw [if_neg h1, if_pos h]
theorem dataB_1 (h1 : ¬ m.length < 1) (h : winB (bt m 0 : Int) 0 ((partsN T K : Int) - 1) = true) (h2 : m.length < 2) : dataB K N S T m = some (4, m.length) := by unfold dataB; rw [if_neg h1, if_neg (by rw [h]; decide), if_pos h2]
theorem dataB_2 (h1 : ¬ m.length < 1) (h : winB (bt m 0 : Int) 0 ((partsN T K : Int) - 1) = true) (h2 : ¬ m.length < 2) (h3 : plcN K N T (bt m 0) (bt m 1) = false) : dataB K N S T m = some (6, 1) := by unfold dataB; rw [if_neg h1, if_neg (by rw [h]; decide), if_neg h2, if_pos h3]
theorem dataB_3 (h1 : ¬ m.length < 1) (h : winB (bt m 0 : Int) 0 ((partsN T K : Int) - 1) = true) (h2 : ¬ m.length < 2) (h3 : plcN K N T (bt m 0) (bt m 1) = true) (h4 : m.length < 2 + S) : dataB K N S T m = some (4, m.length) := by unfold dataB; rw [if_neg h1, if_neg (by rw [h]; decide), if_neg h2, if_neg (by rw [h3]; decide), if_pos h4]
theorem dataB_4 (h1 : ¬ m.length < 1) (h : winB (bt m 0 : Int) 0 ((partsN T K : Int) - 1) = true) (h2 : ¬ m.length < 2) (h3 : plcN K N T (bt m 0) (bt m 1) = true) (h4 : ¬ m.length < 2 + S) (h5 : 2 + S < m.length) : dataB K N S T m = some (7, 2 + S) := by unfold dataB; rw [if_neg h1, if_neg (by rw [h]; decide), if_neg h2, if_neg (by rw [h3]; decide), if_neg h4, if_pos h5]
theorem dataB_5 (h1 : ¬ m.length < 1) (h : winB (bt m 0 : Int) 0 ((partsN T K : Int) - 1) = true) (h2 : ¬ m.length < 2) (h3 : plcN K N T (bt m 0) (bt m 1) = true) (h4 : ¬ m.length < 2 + S) (h5 : ¬ 2 + S < m.length) : dataB K N S T m = none := by unfold dataB; rw [if_neg h1, if_neg (by rw [h]; decide), if_neg h2, if_neg (by rw [h3]; decide), if_neg h4, if_neg h5]
end

def RDGives (K N S T : Nat) (l : List Gf.F) (x0 x1 L : Nat) (w : World) (e : Ending) (w' : World) : Prop :=
  (match dataB K N S T (l.drop 4) with
  | some (c, k) => e = .returned (.tuple #[.agg #[.int .i64 0, .int .i64 0, .int .i64 0, .int .i64 0, .int .i64 0, .slice none 0 0, .slice none 0 0], .agg #[.int .i64 (c : Int), .int .i64 ((k + 4 : Nat) : Int)]])
  | none => ∃ a c1, e = .returned (.tuple #[.agg #[.int .i64 (x0 : Int), .int .i64 (x1 : Int), .int .i64 (L : Int), .int .i64 (bt (l.drop 4) 0 : Int), .int .i64 (bt (l.drop 4) 1 : Int), .slice a S c1, .slice none 0 0], .agg #[.int .i64 0, .int .i64 (-1)]]) ∧ w'.ownsRow w.heap.size 5 1 (.slice a S c1) S (encL ((l.drop 4).drop 2))) ∧ Below w.heap.size w w'
theorem RDGives.bad {K N S T x0 x1 L c k : Nat} {kk : Int} {l : List Gf.F} {w w' : World} (h : dataB K N S T (l.drop 4) = some (c, k)) (hk : kk = ((k + 4 : Nat) : Int)) (hb : Below w.heap.size w w') :
    RDGives K N S T l x0 x1 L w (.returned (.tuple #[.agg #[.int .i64 0, .int .i64 0, .int .i64 0, .int .i64 0, .int .i64 0, .slice none 0 0, .slice none 0 0], .agg #[.int .i64 (c : Int), .int .i64 kk]])) w' := by
  unfold RDGives
  rw [h, hk]
  exact ⟨rfl, hb⟩

set_option maxRecDepth 100000 in
set_option maxHeartbeats 4000000 in
theorem rdata_any (b o n c K N S L T x0 x1 : Nat) (l : List Gf.F) (w : World) (hcfg : Cfg K N S) (hL : L ≤ 65535) (hTe : T = symN S L) (hl : l.length = n) (hn : n ≤ c) (hn2 : n ≤ 140737488355328) (hn5 : 5 ≤ n) (hB : Bs w b o l) (hbl : b < w.heap.size) :
    Calls Tryz.prog 146 #[.agg #[.int .i64 (K : Int), .int .i64 (N : Int), .int .i64 (S : Int)], .slice (some ⟨b, o, none⟩) n c, .agg #[.int .i64 (x0 : Int), .int .i64 (x1 : Int), .int .i64 (L : Int), .int .i64 0, .int .i64 0, .slice none 0 0, .slice none 0 0]] w (RDGives K N S T l x0 x1 L w) := by
  have HCF : Hid (Cfg K N S) := hcfg
  have hs8 := hcfg.s8
  have hs1 := hcfg.s1
  have HK1 : Hid (1 ≤ K) := hcfg.k1
  have HKN : Hid (K ≤ N) := hcfg.kn
  clear hcfg
  have hm : (l.drop 4).length = n - 4 := by simp [hl]
  have hb40 : bt l 4 = bt (l.drop 4) 0 := by simp [bt, at_, List.getD]
  have hb41 : bt l 5 = bt (l.drop 4) 1 := by simp [bt, at_, List.getD]
  obtain ⟨P4, hP4⟩ : ∃ P4, P4 = bt (l.drop 4) 0 := ⟨_, rfl⟩
  obtain ⟨P5, hP5⟩ : ∃ P5, P5 = bt (l.drop 4) 1 := ⟨_, rfl⟩
  have h256 := bt_lt (l.drop 4) 0
  have h256b := bt_lt (l.drop 4) 1
  rw [← hP4] at h256
  rw [← hP5] at h256b
  have HP4 : Hid (P4 = bt (l.drop 4) 0) := hP4
  have HP5 : Hid (P5 = bt (l.drop 4) 1) := hP5
  have HTE : Hid (T = symN S L) := hTe
  have hTr := symN_range (S := S) (len := L) hs1
  rw [← hTe] at hTr
  have hst := RSt.start w K N S (.int .i64 (x0 : Int)) (.int .i64 (x1 : Int)) (.int .i64 (L : Int)) (.int .i64 0) (.int .i64 0) (.slice none 0 0) (.slice none 0 0)
  have hin : ∀ {W : World}, Below w.heap.size w W → ∀ i, i < n → W.cell? ⟨b, o + i, none⟩ = some (.int .u8 (bt l i : Int)) := fun hb i hi => by rw [hb.cell (p := ⟨b, o + i, none⟩) hbl]; exact hB i (by omega)
  have HIN : Hid (∀ {W : World}, Below w.heap.size w W → ∀ i, i < n → W.cell? ⟨b, o + i, none⟩ = some (.int .u8 (bt l i : Int))) := hin
  have HB40 : Hid (bt l 4 = bt (l.drop 4) 0) := hb40
  have HB41 : Hid (bt l 5 = bt (l.drop 4) 1) := hb41
  clear hin hTe hP4 hP5 hb40 hb41
  go_enter Tryz.func146, Tryz.ntmps146
  go_upto_region 1 with fail
  generalize ((((w.alloc (.cells #[.int .i64 (K : Int), .int .i64 (N : Int), .int .i64 (S : Int)] 30)).alloc (.cells #[.int .i64 (x0 : Int), .int .i64 (x1 : Int), .int .i64 (L : Int), .int .i64 0, .int .i64 0, .slice none 0 0, .slice none 0 0] 60)).alloc (.cells #[.int .i64 0, .int .i64 0, .int .i64 0, .int .i64 0, .int .i64 0, .slice none 0 0, .slice none 0 0] 60)).alloc (.cells #[.int .i64 0, .int .i64 0] 139)) = W at *
  have i4 : W.cell? ⟨b, o + 4, none⟩ = some (.int .u8 (P4 : Int)) := by rw [HP4.out, ← HB40.out]; exact HIN.out hst.low 4 (by omega)
  have q3 : W.cell? ⟨w.heap.size + 1, 3, none⟩ = some (.int .i64 0) := cell_of_row W _ 3 _ _ _ hst.pk
  have qf3 := frozen_of_row W _ 3 _ _ hst.pk
  have hst2 := hst.turn (But.setCell (S := fun g => g = w.heap.size + 1) (But.refl _ W) (p := ⟨w.heap.size + 1, 3, none⟩) (.inl rfl) (.int .i64 (P4 : Int))) (heap_setCell_same _ _ 3 _ _ _ hst.pk)
  go_upto_region 2 with fail
  generalize W.setCell ⟨w.heap.size + 1, 3, none⟩ (.int .i64 (P4 : Int)) = W2 at hst2 ⊢
  rw [show w.heap.size + 1 + 1 + 1 = w.heap.size + 3 from rfl, show w.heap.size + 1 + 1 = w.heap.size + 2 from rfl]
  clear i4 q3 qf3 hst
  have hst2' : RSt w W2 K N S (.int .i64 (x0 : Int)) (.int .i64 (x1 : Int)) (.int .i64 (L : Int)) (.int .i64 (P4 : Int)) (.int .i64 0) (.slice none 0 0) (.slice none 0 0) := hst2
  obtain ⟨k0, k1, k2⟩ := hst2.cfgs
  have q2 : W2.cell? ⟨w.heap.size + 1, 2, none⟩ = some (.int .i64 (L : Int)) := cell_of_row W2 _ 2 _ _ _ hst2.pk
  have q3 : W2.cell? ⟨w.heap.size + 1, 3, none⟩ = some (.int .i64 (P4 : Int)) := cell_of_row W2 _ 3 _ _ _ hst2.pk
  have hlt2 := hst2.lt
  obtain ⟨Bn, hBn⟩ : ∃ Bn, Bn = partsN T K := ⟨_, rfl⟩
  have HBN : Hid (Bn = partsN T K) := hBn
  have hBl : Bn ≤ 70000 := by rw [hBn]; have := partsN_le (a := T) HK1.out; omega
  have hblk : ∀ W, Calls Tryz.prog 94 #[.agg #[.int .i64 (K : Int), .int .i64 (N : Int), .int .i64 (S : Int)], .int .i64 (L : Int)] W fun e w' => e = .returned (.int .i64 (Bn : Int)) ∧ Below W.heap.size W w' := fun W => by rw [hBn, HTE.out]; exact rblocks_any K N S L HCF.out hL W
  clear hBn
  go_cut [21] (fun t wx => t = .bool (decide (Bn ≤ P4)) ∧ RSt w wx K N S (.int .i64 (x0 : Int)) (.int .i64 (x1 : Int)) (.int .i64 (L : Int)) (.int .i64 (P4 : Int)) (.int .i64 0) (.slice none 0 0) (.slice none 0 0))
  case first =>
    go_region_with (go_at_call 94; refine (hblk _).mono ?_; rintro e W3 ⟨rfl, hb3⟩; have hst3 := hst2'.above ((Below.undrew hb3).mono hlt2); have p3 : W3.cell? ⟨w.heap.size + 1, 3, none⟩ = some (.int .i64 (P4 : Int)) := (row7 hst3.pk).2.2.2.1)
    all_goals (go_wp2_with fail; go_meet; exact ⟨rfl, hst3⟩)
  case rest =>
    obtain ⟨rfl, hst3⟩ := hcut
    clear hst2 hst2' k0 k1 k2 q2 q3 hblk
    obtain ⟨W3, rfl⟩ : ∃ x, x = wc := ⟨wc, rfl⟩
    have hlt3 := hst3.lt
    by_cases hq0 : Bn ≤ P4
    · have hq0' : (Bn : Int) ≤ (P4 : Int) := by omega
      obtain ⟨c0, c1, c2, c3, c4, c5, c6⟩ := row7 hst3.res
      have e0 : W3.cell? ⟨w.heap.size + 3, 0, none⟩ = some (.int .i64 0) := cell_of_row W3 _ 0 _ _ _ hst3.err
      have e1 : W3.cell? ⟨w.heap.size + 3, 1, none⟩ = some (.int .i64 0) := cell_of_row W3 _ 1 _ _ _ hst3.err
      have f0 := frozen_of_row W3 _ 0 _ _ hst3.res
      have f1 := frozen_of_row W3 _ 1 _ _ hst3.res
      have f2 := frozen_of_row W3 _ 2 _ _ hst3.res
      have f3 := frozen_of_row W3 _ 3 _ _ hst3.res
      have f4 := frozen_of_row W3 _ 4 _ _ hst3.res
      have f5 := frozen_of_row W3 _ 5 _ _ hst3.res
      have f6 := frozen_of_row W3 _ 6 _ _ hst3.res
      have g0 := frozen_of_row W3 _ 0 _ _ hst3.err
      have g1 := frozen_of_row W3 _ 1 _ _ hst3.err
      have hne9 : ¬ w.heap.size + 2 = w.heap.size + 3 := by omega
      have hp := put9 W3 (w.heap.size + 2) (w.heap.size + 3) (.int .i64 0) (.int .i64 0) (.int .i64 0) (.int .i64 0) (.int .i64 0) (.slice none 0 0) (.slice none 0 0) (.int .i64 0) (.int .i64 0) (.int .i64 0) (.int .i64 0) (.int .i64 0) (.int .i64 0) (.int .i64 0) (.slice none 0 0) (.slice none 0 0) (.int .i64 6) (.int .i64 4) hst3.res hst3.err (by omega)
      go_wp2_with fail
      generalize (((((((((W3.setCell ⟨w.heap.size + 2, 0, none⟩ (.int .i64 0)).setCell ⟨w.heap.size + 2, 1, none⟩ (.int .i64 0)).setCell ⟨w.heap.size + 2, 2, none⟩ (.int .i64 0)).setCell ⟨w.heap.size + 2, 3, none⟩ (.int .i64 0)).setCell ⟨w.heap.size + 2, 4, none⟩ (.int .i64 0)).setCell ⟨w.heap.size + 2, 5, none⟩ (.slice none 0 0)).setCell ⟨w.heap.size + 2, 6, none⟩ (.slice none 0 0)).setCell ⟨w.heap.size + 3, 0, none⟩ (.int .i64 6)).setCell ⟨w.heap.size + 3, 1, none⟩ (.int .i64 4)) = W9 at hp ⊢
      obtain ⟨hp1, hp2, hp3⟩ := hp
      obtain ⟨d0, d1, d2, d3, d4, d5, d6⟩ := row7 (show W9.heap[w.heap.size + 2]? = _ from hp1)
      have d7 : W9.cell? ⟨w.heap.size + 3, 0, none⟩ = some (.int .i64 6) := cell_of_row _ _ 0 _ _ _ (show W9.heap[w.heap.size + 3]? = _ from hp2)
      have d8 : W9.cell? ⟨w.heap.size + 3, 1, none⟩ = some (.int .i64 4) := cell_of_row _ _ 1 _ _ _ (show W9.heap[w.heap.size + 3]? = _ from hp2)
      clear c0 c1 c2 c3 c4 c5 c6 f0 f1 f2 f3 f4 f5 f6 g0 g1 e0 e1
      exact bodyPost_ret (v := .tuple #[.agg #[.int .i64 0, .int .i64 0, .int .i64 0, .int .i64 0, .int .i64 0, .slice none 0 0, .slice none 0 0], .agg #[.int .i64 6, .int .i64 4]]) (by simp [results, Tryz.results146, go_sem, d0, d1, d2, d3, d4, d5, d6, d7, d8]) rfl (RDGives.bad (c := 6) (k := 0) (dataB_0 (by rw [hm]; omega) (winB_no (by rw [← HBN.out, ← HP4.out]; omega))) rfl (hst3.low.trans (hp3.toBelow (by have := hst3.low.size; omega) (fun k hk q => by omega))))
    · have hq0' : ¬ (Bn : Int) ≤ (P4 : Int) := by omega
      have hwin : winB (bt (l.drop 4) 0 : Int) 0 ((partsN T K : Int) - 1) = true := winB_iff.2 ⟨by omega, by rw [← HBN.out, ← HP4.out]; omega⟩
      have HWIN : Hid (winB (bt (l.drop 4) 0 : Int) 0 ((partsN T K : Int) - 1) = true) := hwin
      have hbK : P4 * K < T := by rw [HP4.out]; exact partsN_mul HK1.out (by rw [← HBN.out, ← HP4.out]; omega)
      clear hwin
      by_cases hq1 : n < 6
      · have hq1' : (n : Int) < 6 := by omega
        obtain ⟨c0, c1, c2, c3, c4, c5, c6⟩ := row7 hst3.res
        have e0 : W3.cell? ⟨w.heap.size + 3, 0, none⟩ = some (.int .i64 0) := cell_of_row W3 _ 0 _ _ _ hst3.err
        have e1 : W3.cell? ⟨w.heap.size + 3, 1, none⟩ = some (.int .i64 0) := cell_of_row W3 _ 1 _ _ _ hst3.err
        have f0 := frozen_of_row W3 _ 0 _ _ hst3.res
        have f1 := frozen_of_row W3 _ 1 _ _ hst3.res
        have f2 := frozen_of_row W3 _ 2 _ _ hst3.res
        have f3 := frozen_of_row W3 _ 3 _ _ hst3.res
        have f4 := frozen_of_row W3 _ 4 _ _ hst3.res
        have f5 := frozen_of_row W3 _ 5 _ _ hst3.res
        have f6 := frozen_of_row W3 _ 6 _ _ hst3.res
        have g0 := frozen_of_row W3 _ 0 _ _ hst3.err
        have g1 := frozen_of_row W3 _ 1 _ _ hst3.err
        have hne9 : ¬ w.heap.size + 2 = w.heap.size + 3 := by omega
        have hp := put9 W3 (w.heap.size + 2) (w.heap.size + 3) (.int .i64 0) (.int .i64 0) (.int .i64 0) (.int .i64 0) (.int .i64 0) (.slice none 0 0) (.slice none 0 0) (.int .i64 0) (.int .i64 0) (.int .i64 0) (.int .i64 0) (.int .i64 0) (.int .i64 0) (.int .i64 0) (.slice none 0 0) (.slice none 0 0) (.int .i64 4) (.int .i64 (n : Int)) hst3.res hst3.err (by omega)
        go_wp2_with fail
        generalize (((((((((W3.setCell ⟨w.heap.size + 2, 0, none⟩ (.int .i64 0)).setCell ⟨w.heap.size + 2, 1, none⟩ (.int .i64 0)).setCell ⟨w.heap.size + 2, 2, none⟩ (.int .i64 0)).setCell ⟨w.heap.size + 2, 3, none⟩ (.int .i64 0)).setCell ⟨w.heap.size + 2, 4, none⟩ (.int .i64 0)).setCell ⟨w.heap.size + 2, 5, none⟩ (.slice none 0 0)).setCell ⟨w.heap.size + 2, 6, none⟩ (.slice none 0 0)).setCell ⟨w.heap.size + 3, 0, none⟩ (.int .i64 4)).setCell ⟨w.heap.size + 3, 1, none⟩ (.int .i64 (n : Int))) = W9 at hp ⊢
        obtain ⟨hp1, hp2, hp3⟩ := hp
        obtain ⟨d0, d1, d2, d3, d4, d5, d6⟩ := row7 (show W9.heap[w.heap.size + 2]? = _ from hp1)
        have d7 : W9.cell? ⟨w.heap.size + 3, 0, none⟩ = some (.int .i64 4) := cell_of_row _ _ 0 _ _ _ (show W9.heap[w.heap.size + 3]? = _ from hp2)
        have d8 : W9.cell? ⟨w.heap.size + 3, 1, none⟩ = some (.int .i64 (n : Int)) := cell_of_row _ _ 1 _ _ _ (show W9.heap[w.heap.size + 3]? = _ from hp2)
        clear c0 c1 c2 c3 c4 c5 c6 f0 f1 f2 f3 f4 f5 f6 g0 g1 e0 e1
        exact bodyPost_ret (v := .tuple #[.agg #[.int .i64 0, .int .i64 0, .int .i64 0, .int .i64 0, .int .i64 0, .slice none 0 0, .slice none 0 0], .agg #[.int .i64 4, .int .i64 (n : Int)]]) (by simp [results, Tryz.results146, go_sem, d0, d1, d2, d3, d4, d5, d6, d7, d8]) rfl (RDGives.bad (c := 4) (k := (l.drop 4).length) (dataB_1 (by rw [hm]; omega) HWIN.out (by rw [hm]; omega)) (by rw [hm]; omega) (hst3.low.trans (hp3.toBelow (by have := hst3.low.size; omega) (fun k hk q => by omega))))
      · have hq1' : ¬ (n : Int) < 6 := by omega
        have i5 : W3.cell? ⟨b, o + 5, none⟩ = some (.int .u8 (P5 : Int)) := by rw [HP5.out, ← HB41.out]; exact HIN.out hst3.low 5 (by omega)
        have q4 : W3.cell? ⟨w.heap.size + 1, 4, none⟩ = some (.int .i64 0) := (row7 hst3.pk).2.2.2.2.1
        have qf4 := frozen_of_row W3 _ 4 _ _ hst3.pk
        have hst4 : RSt w (W3.setCell ⟨w.heap.size + 1, 4, none⟩ (.int .i64 (P5 : Int))) K N S (.int .i64 (x0 : Int)) (.int .i64 (x1 : Int)) (.int .i64 (L : Int)) (.int .i64 (P4 : Int)) (.int .i64 (P5 : Int)) (.slice none 0 0) (.slice none 0 0) := hst3.turn (But.setCell (S := fun g => g = w.heap.size + 1) (But.refl _ W3) (p := ⟨w.heap.size + 1, 4, none⟩) (.inl rfl) (.int .i64 (P5 : Int))) (heap_setCell_same _ _ 4 _ _ _ hst3.pk)
        go_upto_region 7 with fail
        generalize W3.setCell ⟨w.heap.size + 1, 4, none⟩ (.int .i64 (P5 : Int)) = W4 at hst4 ⊢
        clear i5 q4 qf4 hst3
        obtain ⟨k0, k1, k2⟩ := hst4.cfgs
        obtain ⟨y0, y1, y2, y3, y4, y5, y6⟩ := row7 hst4.pk
        have hlt4 := hst4.lt
        go_wp2_with fail
        refine (order_any K N S L P4 HCF.out hL (by rw [← HTE.out]; exact hbK) W4).mono ?_
        rintro e W5 ⟨og, oc, rfl, hZ, hb5⟩
        rw [← HTE.out] at hZ ⊢
        have hst5 := hst4.above (hb5.mono hlt4)
        have hhas := has_any og oc (N - K + srcN K T P4) (ordL K N (srcN K T P4)) (P5 : Int) W5 (ordL_length ..) (by have := HCF.out.n16; have : srcN K T P4 ≤ 8 := by { unfold srcN; have := HCF.out.k8; omega }; omega) hZ
        rw [ordL_has K N (srcN K T P4) P5 HKN.out] at hhas
        have HPL : Hid (plcN K N T P4 P5 = decide (P5 < srcN K T P4 ∨ (K ≤ P5 ∧ P5 < N))) := rfl
        rw [← HPL.out] at hhas
        clear k0 k1 k2 y0 y1 y2 y3 y4 y5 y6 hst4 hZ
        have y4 : W5.cell? ⟨w.heap.size + 1, 4, none⟩ = some (.int .i64 (P5 : Int)) := (row7 hst5.pk).2.2.2.2.1
        go_wp2_with fail
        refine hhas.mono ?_
        rintro e W5' ⟨rfl, hW5⟩
        rw [hW5]
        clear hW5 W5'
        have hlt5 := hst5.lt
        clear hhas y4
        cases hk1 : plcN K N T P4 P5
        · skip
          obtain ⟨c0, c1, c2, c3, c4, c5, c6⟩ := row7 hst5.res
          have e0 : W5.cell? ⟨w.heap.size + 3, 0, none⟩ = some (.int .i64 0) := cell_of_row W5 _ 0 _ _ _ hst5.err
          have e1 : W5.cell? ⟨w.heap.size + 3, 1, none⟩ = some (.int .i64 0) := cell_of_row W5 _ 1 _ _ _ hst5.err
          have f0 := frozen_of_row W5 _ 0 _ _ hst5.res
          have f1 := frozen_of_row W5 _ 1 _ _ hst5.res
          have f2 := frozen_of_row W5 _ 2 _ _ hst5.res
          have f3 := frozen_of_row W5 _ 3 _ _ hst5.res
          have f4 := frozen_of_row W5 _ 4 _ _ hst5.res
          have f5 := frozen_of_row W5 _ 5 _ _ hst5.res
          have f6 := frozen_of_row W5 _ 6 _ _ hst5.res
          have g0 := frozen_of_row W5 _ 0 _ _ hst5.err
          have g1 := frozen_of_row W5 _ 1 _ _ hst5.err
          have hne9 : ¬ w.heap.size + 2 = w.heap.size + 3 := by omega
          have hp := put9 W5 (w.heap.size + 2) (w.heap.size + 3) (.int .i64 0) (.int .i64 0) (.int .i64 0) (.int .i64 0) (.int .i64 0) (.slice none 0 0) (.slice none 0 0) (.int .i64 0) (.int .i64 0) (.int .i64 0) (.int .i64 0) (.int .i64 0) (.int .i64 0) (.int .i64 0) (.slice none 0 0) (.slice none 0 0) (.int .i64 6) (.int .i64 5) hst5.res hst5.err (by omega)
          go_wp2_with fail
          generalize (((((((((W5.setCell ⟨w.heap.size + 2, 0, none⟩ (.int .i64 0)).setCell ⟨w.heap.size + 2, 1, none⟩ (.int .i64 0)).setCell ⟨w.heap.size + 2, 2, none⟩ (.int .i64 0)).setCell ⟨w.heap.size + 2, 3, none⟩ (.int .i64 0)).setCell ⟨w.heap.size + 2, 4, none⟩ (.int .i64 0)).setCell ⟨w.heap.size + 2, 5, none⟩ (.slice none 0 0)).setCell ⟨w.heap.size + 2, 6, none⟩ (.slice none 0 0)).setCell ⟨w.heap.size + 3, 0, none⟩ (.int .i64 6)).setCell ⟨w.heap.size + 3, 1, none⟩ (.int .i64 5)) = W9 at hp ⊢
          obtain ⟨hp1, hp2, hp3⟩ := hp
          obtain ⟨d0, d1, d2, d3, d4, d5, d6⟩ := row7 (show W9.heap[w.heap.size + 2]? = _ from hp1)
          have d7 : W9.cell? ⟨w.heap.size + 3, 0, none⟩ = some (.int .i64 6) := cell_of_row _ _ 0 _ _ _ (show W9.heap[w.heap.size + 3]? = _ from hp2)
          have d8 : W9.cell? ⟨w.heap.size + 3, 1, none⟩ = some (.int .i64 5) := cell_of_row _ _ 1 _ _ _ (show W9.heap[w.heap.size + 3]? = _ from hp2)
          clear c0 c1 c2 c3 c4 c5 c6 f0 f1 f2 f3 f4 f5 f6 g0 g1 e0 e1
          exact bodyPost_ret (v := .tuple #[.agg #[.int .i64 0, .int .i64 0, .int .i64 0, .int .i64 0, .int .i64 0, .slice none 0 0, .slice none 0 0], .agg #[.int .i64 6, .int .i64 5]]) (by simp [results, Tryz.results146, go_sem, d0, d1, d2, d3, d4, d5, d6, d7, d8]) rfl (RDGives.bad (c := 6) (k := 1) (dataB_2 (by rw [hm]; omega) HWIN.out (by rw [hm]; omega) (by rw [← HP4.out, ← HP5.out]; exact hk1)) rfl (hst5.low.trans (hp3.toBelow (by have := hst5.low.size; omega) (fun k hk q => by omega))))
        · have HPLC : Hid (plcN K N T (bt (l.drop 4) 0) (bt (l.drop 4) 1) = true) := by show _ = _; rw [← HP4.out, ← HP5.out]; exact hk1
          obtain ⟨k0, k1, k2⟩ := hst5.cfgs
          by_cases hq2 : n < 6 + S
          · have hq2' : (n : Int) < 6 + (S : Int) := by omega
            obtain ⟨c0, c1, c2, c3, c4, c5, c6⟩ := row7 hst5.res
            have e0 : W5.cell? ⟨w.heap.size + 3, 0, none⟩ = some (.int .i64 0) := cell_of_row W5 _ 0 _ _ _ hst5.err
            have e1 : W5.cell? ⟨w.heap.size + 3, 1, none⟩ = some (.int .i64 0) := cell_of_row W5 _ 1 _ _ _ hst5.err
            have f0 := frozen_of_row W5 _ 0 _ _ hst5.res
            have f1 := frozen_of_row W5 _ 1 _ _ hst5.res
            have f2 := frozen_of_row W5 _ 2 _ _ hst5.res
            have f3 := frozen_of_row W5 _ 3 _ _ hst5.res
            have f4 := frozen_of_row W5 _ 4 _ _ hst5.res
            have f5 := frozen_of_row W5 _ 5 _ _ hst5.res
            have f6 := frozen_of_row W5 _ 6 _ _ hst5.res
            have g0 := frozen_of_row W5 _ 0 _ _ hst5.err
            have g1 := frozen_of_row W5 _ 1 _ _ hst5.err
            have hne9 : ¬ w.heap.size + 2 = w.heap.size + 3 := by omega
            have hp := put9 W5 (w.heap.size + 2) (w.heap.size + 3) (.int .i64 0) (.int .i64 0) (.int .i64 0) (.int .i64 0) (.int .i64 0) (.slice none 0 0) (.slice none 0 0) (.int .i64 0) (.int .i64 0) (.int .i64 0) (.int .i64 0) (.int .i64 0) (.int .i64 0) (.int .i64 0) (.slice none 0 0) (.slice none 0 0) (.int .i64 4) (.int .i64 (n : Int)) hst5.res hst5.err (by omega)
            go_wp2_with fail
            generalize (((((((((W5.setCell ⟨w.heap.size + 2, 0, none⟩ (.int .i64 0)).setCell ⟨w.heap.size + 2, 1, none⟩ (.int .i64 0)).setCell ⟨w.heap.size + 2, 2, none⟩ (.int .i64 0)).setCell ⟨w.heap.size + 2, 3, none⟩ (.int .i64 0)).setCell ⟨w.heap.size + 2, 4, none⟩ (.int .i64 0)).setCell ⟨w.heap.size + 2, 5, none⟩ (.slice none 0 0)).setCell ⟨w.heap.size + 2, 6, none⟩ (.slice none 0 0)).setCell ⟨w.heap.size + 3, 0, none⟩ (.int .i64 4)).setCell ⟨w.heap.size + 3, 1, none⟩ (.int .i64 (n : Int))) = W9 at hp ⊢
            obtain ⟨hp1, hp2, hp3⟩ := hp
            obtain ⟨d0, d1, d2, d3, d4, d5, d6⟩ := row7 (show W9.heap[w.heap.size + 2]? = _ from hp1)
            have d7 : W9.cell? ⟨w.heap.size + 3, 0, none⟩ = some (.int .i64 4) := cell_of_row _ _ 0 _ _ _ (show W9.heap[w.heap.size + 3]? = _ from hp2)
            have d8 : W9.cell? ⟨w.heap.size + 3, 1, none⟩ = some (.int .i64 (n : Int)) := cell_of_row _ _ 1 _ _ _ (show W9.heap[w.heap.size + 3]? = _ from hp2)
            clear c0 c1 c2 c3 c4 c5 c6 f0 f1 f2 f3 f4 f5 f6 g0 g1 e0 e1
            exact bodyPost_ret (v := .tuple #[.agg #[.int .i64 0, .int .i64 0, .int .i64 0, .int .i64 0, .int .i64 0, .slice none 0 0, .slice none 0 0], .agg #[.int .i64 4, .int .i64 (n : Int)]]) (by simp [results, Tryz.results146, go_sem, d0, d1, d2, d3, d4, d5, d6, d7, d8]) rfl (RDGives.bad (c := 4) (k := (l.drop 4).length) (dataB_3 (by rw [hm]; omega) HWIN.out (by rw [hm]; omega) HPLC.out (by rw [hm]; omega)) (by rw [hm]; omega) (hst5.low.trans (hp3.toBelow (by have := hst5.low.size; omega) (fun k hk q => by omega))))
          · have hq2' : ¬ (n : Int) < 6 + (S : Int) := by omega
            by_cases hq3 : 6 + S < n
            · have hq3' : (n : Int) > 6 + (S : Int) := by omega
              have hpk : w.heap.size ≠ w.heap.size + 2 := by omega
              have hpk2 : w.heap.size ≠ w.heap.size + 3 := by omega
              obtain ⟨c0, c1, c2, c3, c4, c5, c6⟩ := row7 hst5.res
              have e0 : W5.cell? ⟨w.heap.size + 3, 0, none⟩ = some (.int .i64 0) := cell_of_row W5 _ 0 _ _ _ hst5.err
              have e1 : W5.cell? ⟨w.heap.size + 3, 1, none⟩ = some (.int .i64 0) := cell_of_row W5 _ 1 _ _ _ hst5.err
              have f0 := frozen_of_row W5 _ 0 _ _ hst5.res
              have f1 := frozen_of_row W5 _ 1 _ _ hst5.res
              have f2 := frozen_of_row W5 _ 2 _ _ hst5.res
              have f3 := frozen_of_row W5 _ 3 _ _ hst5.res
              have f4 := frozen_of_row W5 _ 4 _ _ hst5.res
              have f5 := frozen_of_row W5 _ 5 _ _ hst5.res
              have f6 := frozen_of_row W5 _ 6 _ _ hst5.res
              have g0 := frozen_of_row W5 _ 0 _ _ hst5.err
              have g1 := frozen_of_row W5 _ 1 _ _ hst5.err
              have hne9 : ¬ w.heap.size + 2 = w.heap.size + 3 := by omega
              have hp := put9 W5 (w.heap.size + 2) (w.heap.size + 3) (.int .i64 0) (.int .i64 0) (.int .i64 0) (.int .i64 0) (.int .i64 0) (.slice none 0 0) (.slice none 0 0) (.int .i64 0) (.int .i64 0) (.int .i64 0) (.int .i64 0) (.int .i64 0) (.int .i64 0) (.int .i64 0) (.slice none 0 0) (.slice none 0 0) (.int .i64 7) (.int .i64 (6 + (S : Int))) hst5.res hst5.err (by omega)
              have hq := put9b W5 (w.heap.size + 2) (w.heap.size + 3) (.int .i64 0) (.int .i64 0) (.int .i64 0) (.int .i64 0) (.int .i64 0) (.slice none 0 0) (.slice none 0 0) (.int .i64 0) (.int .i64 0) (.int .i64 0) (.int .i64 0) (.int .i64 0) (.int .i64 0) (.int .i64 0) (.slice none 0 0) (.slice none 0 0) (.int .i64 7) (.int .i64 (6 + (S : Int))) hst5.res hst5.err (by omega)
              go_wp2_with fail
              go_region
              all_goals
                first
                  | generalize (((((((((W5.setCell ⟨w.heap.size + 2, 0, none⟩ (.int .i64 0)).setCell ⟨w.heap.size + 2, 1, none⟩ (.int .i64 0)).setCell ⟨w.heap.size + 2, 2, none⟩ (.int .i64 0)).setCell ⟨w.heap.size + 2, 3, none⟩ (.int .i64 0)).setCell ⟨w.heap.size + 2, 4, none⟩ (.int .i64 0)).setCell ⟨w.heap.size + 2, 5, none⟩ (.slice none 0 0)).setCell ⟨w.heap.size + 2, 6, none⟩ (.slice none 0 0)).setCell ⟨w.heap.size + 3, 0, none⟩ (.int .i64 7)).setCell ⟨w.heap.size + 3, 1, none⟩ (.int .i64 (6 + (S : Int)))) = W9 at hp ⊢
                  | (replace hp := hq; generalize (((((((((W5.setCell ⟨w.heap.size + 3, 0, none⟩ (.int .i64 7)).setCell ⟨w.heap.size + 3, 1, none⟩ (.int .i64 (6 + (S : Int)))).setCell ⟨w.heap.size + 2, 0, none⟩ (.int .i64 0)).setCell ⟨w.heap.size + 2, 1, none⟩ (.int .i64 0)).setCell ⟨w.heap.size + 2, 2, none⟩ (.int .i64 0)).setCell ⟨w.heap.size + 2, 3, none⟩ (.int .i64 0)).setCell ⟨w.heap.size + 2, 4, none⟩ (.int .i64 0)).setCell ⟨w.heap.size + 2, 5, none⟩ (.slice none 0 0)).setCell ⟨w.heap.size + 2, 6, none⟩ (.slice none 0 0)) = W9 at hp ⊢)
                clear hq
                obtain ⟨hp1, hp2, hp3⟩ := hp
                obtain ⟨d0, d1, d2, d3, d4, d5, d6⟩ := row7 (show W9.drew.heap[w.heap.size + 2]? = _ from hp1)
                have d7 : W9.drew.cell? ⟨w.heap.size + 3, 0, none⟩ = some (.int .i64 7) := cell_of_row _ _ 0 _ _ _ (show W9.drew.heap[w.heap.size + 3]? = _ from hp2)
                have d8 : W9.drew.cell? ⟨w.heap.size + 3, 1, none⟩ = some (.int .i64 (6 + (S : Int))) := cell_of_row _ _ 1 _ _ _ (show W9.drew.heap[w.heap.size + 3]? = _ from hp2)
                clear c0 c1 c2 c3 c4 c5 c6 f0 f1 f2 f3 f4 f5 f6 g0 g1 e0 e1
                have hp4 : But (fun g => g = w.heap.size + 2 ∨ g = w.heap.size + 3) W5 W9.drew := hp3.drew
                replace hp3 := hp4
                clear hp4 hp1 hp2
                generalize W9.drew = W10 at *
                go_wp2_with fail
                exact bodyPost_ret (v := .tuple #[.agg #[.int .i64 0, .int .i64 0, .int .i64 0, .int .i64 0, .int .i64 0, .slice none 0 0, .slice none 0 0], .agg #[.int .i64 7, .int .i64 (6 + (S : Int))]]) (by simp [results, Tryz.results146, go_sem, d0, d1, d2, d3, d4, d5, d6, d7, d8]) rfl (RDGives.bad (c := 7) (k := 2 + S) (dataB_4 (by rw [hm]; omega) HWIN.out (by rw [hm]; omega) HPLC.out (by rw [hm]; omega) (by rw [hm]; omega)) (by omega) (hst5.low.trans (hp3.toBelow (by have := hst5.low.size; omega) (fun k hk q => by omega))))
            · have hq3' : ¬ (n : Int) > 6 + (S : Int) := by omega
              obtain rfl : n = 6 + S := by omega
              obtain ⟨y0, y1, y2, y3, y4, y5, y6⟩ := row7 hst5.pk
              have qf5 := frozen_of_row W5 _ 5 _ _ hst5.pk
              have hc6 : ¬ c = 6 := by omega
              have hc62 : ¬ c - 6 = 0 := by omega
              obtain ⟨iU, hiU, hiU0, hiU1, hiU2⟩ := Tryz.u8_parts
              have h6 : Bs W5 b (o + 6) (l.drop 6) := fun i hi => by
                have h1 := hB (6 + i) (by rw [hl]; simp [hl] at hi; omega)
                rw [hst5.low.cell (p := ⟨b, o + 6 + i, none⟩) hbl, show o + 6 + i = o + (6 + i) by omega, h1]
                simp [at_, List.getD]
              have HNW : Hid (∀ j v, (encL (l.drop 6))[j]? = some v → W5.drew.cell? ((⟨b, o + 6, none⟩ : Addr).add j) = some v) := fun j v hj => h6.cells_at j v hj
              have HE1 : Hid (∀ u ∈ encL (l.drop 6), u.oneCell' = true) := encL_one _
              have HLE : Hid ((encL (l.drop 6)).length = S * 1) := by show _ = _; simp [encL, hl]
              have HOW : Hid (W5.drew.ownsRow (w.heap.size + 4) 5 1 (.slice none 0 0) 0 []) := World.ownsRow_nil ..
              have HSZ : Hid (w.heap.size + 4 ≤ W5.drew.heap.size) := hlt5
              have HM1 : Hid (0 + S ≤ maxLen) := by unfold maxLen; show _ ≤ _; omega
              have HSEE : Hid (∀ w6, W5.drew.grownBy w6 (Value.slice none 0 0).ownBlock → RSt w w6 K N S (.int .i64 (x0 : Int)) (.int .i64 (x1 : Int)) (.int .i64 (L : Int)) (.int .i64 (P4 : Int)) (.int .i64 (P5 : Int)) (.slice none 0 0) (.slice none 0 0)) := fun w6 hg => hst5.above (Below.undrew ((Below.refl _ W5.drew).grown hg (show w.heap.size + 4 ≤ W5.drew.heap.size from hlt5) (fun k hk => by simp [Value.ownBlock] at hk)))
              have HM2 : Hid (((0 + S) + (0 + S) / 4 + 192) * 1 ≤ 281474976710656) := by show _ ≤ _; omega
              have HM3 : Hid ((0 + S) * 1 ≤ 140737488355328) := by show _ ≤ _; omega
              have h66 : (6 : Int) ≤ 6 + (S : Int) := by omega
              go_upto_region 15 with fail
              go_cut [] (fun wx => ∃ a c1, RSt w wx K N S (.int .i64 (x0 : Int)) (.int .i64 (x1 : Int)) (.int .i64 (L : Int)) (.int .i64 (P4 : Int)) (.int .i64 (P5 : Int)) (.slice a S c1) (.slice none 0 0) ∧ wx.ownsRow (w.heap.size + 4) 5 1 (.slice a S c1) S (encL (l.drop 6)))
              case first =>
                go_region_law ((refine step_append_apart (by rfl) _ _ _ (by rfl) (w.heap.size + 4) 5 iU (.int .u8 0) 1 1 Tryz.underlying33 hiU hiU0 hiU1 hiU2 rfl Nat.one_pos (.slice none 0 0) 0 [] (by rfl) HOW.out ⟨b, o + 6, none⟩ S (c - 6) (encL (l.drop 6)) (by rfl) HLE.out HNW.out HE1.out hs1 HM1.out HM2.out HM3.out HSZ.out ?_; intro g6 cap6 w6 hown6 hgr6 hlie6 hlt6; have hs6 := HSEE.out _ hgr6; have r5 : w6.cell? ⟨w.heap.size + 1, 5, none⟩ = some (.slice none 0 0) := (row7 hs6.pk).2.2.2.2.2.1; have rf5 := frozen_of_row w6 _ 5 _ _ hs6.pk))
                all_goals
                  have hs7 := hs6.turn (But.setCell (S := fun g => g = w.heap.size + 1) (But.refl _ w6) (p := ⟨w.heap.size + 1, 5, none⟩) (.inl rfl) (.slice (some ⟨g6, 0, none⟩) (0 + S) cap6)) (heap_setCell_same _ _ 5 _ _ _ hs6.pk)
                  have hown7 := own_of_block hown6 (fun g hg => Below.heap_setCell w6 ⟨w.heap.size + 1, 5, none⟩ (.slice (some ⟨g6, 0, none⟩) (0 + S) cap6) g (by have := (hown6.lt g hg).1; show g ≠ w.heap.size + 1; omega))
                  go_wp2_with fail
                  go_meet
                  rw [Nat.zero_add] at hs7 hown7
                  exact ⟨_, _, hs7, by simpa using hown7⟩
              case rest =>
                obtain ⟨za, zc, hst6, hown6⟩ := hcut
                obtain ⟨W6, rfl⟩ : ∃ x, x = wc := ⟨wc, rfl⟩
                clear HSEE HSZ HOW HNW h6 hst5 y0 y1 y2 y3 y4 y5 y6 qf5 k0 k1 k2
                obtain ⟨y0, y1, y2, y3, y4, y5, y6⟩ := row7 hst6.pk
                have hlt6 := hst6.lt
                have hn12 : w.heap.size + 1 ≠ w.heap.size + 2 := by omega
                have hn13 : w.heap.size + 1 ≠ w.heap.size + 3 := by omega
                have hno : ∀ X, Calls Tryz.prog 93 #[] X fun e w1 => e = .returned (.agg #[.int .i64 0, .int .i64 (-1)]) ∧ Below X.heap.size X w1 := none_err
                go_upto_region 16 with fail
                go_region_with (go_at_call 93; refine (hno _).mono ?_; rintro e W7 ⟨rfl, hb7⟩; have hst7 := hst6.above ((Below.undrew hb7).mono hlt6); obtain ⟨z0, z1, z2, z3, z4, z5, z6⟩ := row7 hst7.pk; obtain ⟨c0, c1, c2, c3, c4, c5, c6⟩ := row7 hst7.res; have e0 : W7.cell? ⟨w.heap.size + 3, 0, none⟩ = some (.int .i64 0) := cell_of_row W7 _ 0 _ _ _ hst7.err; have e1 : W7.cell? ⟨w.heap.size + 3, 1, none⟩ = some (.int .i64 0) := cell_of_row W7 _ 1 _ _ _ hst7.err; have f0 := frozen_of_row W7 _ 0 _ _ hst7.res; have f1 := frozen_of_row W7 _ 1 _ _ hst7.res; have f2 := frozen_of_row W7 _ 2 _ _ hst7.res; have f3 := frozen_of_row W7 _ 3 _ _ hst7.res; have f4 := frozen_of_row W7 _ 4 _ _ hst7.res; have f5 := frozen_of_row W7 _ 5 _ _ hst7.res; have f6 := frozen_of_row W7 _ 6 _ _ hst7.res; have g0 := frozen_of_row W7 _ 0 _ _ hst7.err; have g1 := frozen_of_row W7 _ 1 _ _ hst7.err)
                all_goals
                  have hp := put9 W7 (w.heap.size + 2) (w.heap.size + 3) (.int .i64 0) (.int .i64 0) (.int .i64 0) (.int .i64 0) (.int .i64 0) (.slice none 0 0) (.slice none 0 0) (.int .i64 0) (.int .i64 0) (.int .i64 (x0 : Int)) (.int .i64 (x1 : Int)) (.int .i64 (L : Int)) (.int .i64 (P4 : Int)) (.int .i64 (P5 : Int)) (.slice za S zc) (.slice none 0 0) (.int .i64 0) (.int .i64 (-1)) hst7.res hst7.err (by omega)
                  generalize (((((((((W7.setCell ⟨w.heap.size + 2, 0, none⟩ (.int .i64 (x0 : Int))).setCell ⟨w.heap.size + 2, 1, none⟩ (.int .i64 (x1 : Int))).setCell ⟨w.heap.size + 2, 2, none⟩ (.int .i64 (L : Int))).setCell ⟨w.heap.size + 2, 3, none⟩ (.int .i64 (P4 : Int))).setCell ⟨w.heap.size + 2, 4, none⟩ (.int .i64 (P5 : Int))).setCell ⟨w.heap.size + 2, 5, none⟩ (.slice za S zc)).setCell ⟨w.heap.size + 2, 6, none⟩ (.slice none 0 0)).setCell ⟨w.heap.size + 3, 0, none⟩ (.int .i64 0)).setCell ⟨w.heap.size + 3, 1, none⟩ (.int .i64 (-1))) = W9 at hp ⊢
                  obtain ⟨hp1, hp2, hp3⟩ := hp
                  obtain ⟨d0, d1, d2, d3, d4, d5, d6⟩ := row7 (show W9.heap[w.heap.size + 2]? = _ from hp1)
                  have d7 : W9.cell? ⟨w.heap.size + 3, 0, none⟩ = some (.int .i64 0) := cell_of_row _ _ 0 _ _ _ (show W9.heap[w.heap.size + 3]? = _ from hp2)
                  have d8 : W9.cell? ⟨w.heap.size + 3, 1, none⟩ = some (.int .i64 (-1)) := cell_of_row _ _ 1 _ _ _ (show W9.heap[w.heap.size + 3]? = _ from hp2)
                  clear c0 c1 c2 c3 c4 c5 c6 f0 f1 f2 f3 f4 f5 f6 g0 g1 e0 e1 z0 z1 z2 z3 z4 z5 z6 y0 y1 y2 y3 y4 y5 y6
                  go_wp2_with fail
                  exact bodyPost_ret (v := .tuple #[.agg #[.int .i64 (x0 : Int), .int .i64 (x1 : Int), .int .i64 (L : Int), .int .i64 (P4 : Int), .int .i64 (P5 : Int), .slice za S zc, .slice none 0 0], .agg #[.int .i64 0, .int .i64 (-1)]]) (by simp [results, Tryz.results146, go_sem, d0, d1, d2, d3, d4, d5, d6, d7, d8]) rfl (by
                    refine ⟨?_, hst7.low.trans (hp3.toBelow (by have := hst7.low.size; omega) (fun k hk q => by omega))⟩
                    rw [dataB_5 (by rw [hm]; omega) HWIN.out (by rw [hm]; omega) HPLC.out (by rw [hm]; omega) (by rw [hm]; omega)]
                    refine ⟨za, zc, by rw [← HP4.out, ← HP5.out], ?_⟩
                    have h1 := own_of_block hown6 (fun g hg => (Below.undrew hb7).block g (hown6.lt g hg).2)
                    have h2 := hp3.own h1 (fun g hg q => by have := (h1.lt g hg).1; omega)
                    rw [List.drop_drop]
                    exact own_base2 h2 (by omega))

end Go.Proofs.YtjabhnhejbhgjaaGreatDoor

/- murmurref: asks. (Written by gen_rasks.py.) -/
namespace Go.Proofs.YtjabhnhejbhgjaaGreatDoor
open Go.RowKit

section
variable {K T k least : Nat} {m : List Gf.F}
theorem lackB_0 (h : m.length < k + 1) : lackB K T m k least = some (4, m.length) := by unfold lackB; rw [if_pos h]
theorem lackB_1 (h : ¬ m.length < k + 1) (h1 : blkB K T least (bt m k) = false) : lackB K T m k least = some (6, k) := by unfold lackB; rw [if_neg h, if_pos h1]
theorem lackB_2 (h : ¬ m.length < k + 1) (h1 : blkB K T least (bt m k) = true) (h2 : m.length < k + 2) : lackB K T m k least = some (4, m.length) := by unfold lackB; rw [if_neg h, if_neg (by rw [h1]; decide), if_pos h2]
theorem lackB_3 (h : ¬ m.length < k + 1) (h1 : blkB K T least (bt m k) = true) (h2 : ¬ m.length < k + 2) (h3 : manyB (srcN K T (bt m k)) (bt m (k + 1)) = false) : lackB K T m k least = some (6, k + 1) := by unfold lackB; rw [if_neg h, if_neg (by rw [h1]; decide), if_neg h2, if_pos h3]
theorem lackB_4 (h : ¬ m.length < k + 1) (h1 : blkB K T least (bt m k) = true) (h2 : ¬ m.length < k + 2) (h3 : manyB (srcN K T (bt m k)) (bt m (k + 1)) = true) : lackB K T m k least = none := by unfold lackB; rw [if_neg h, if_neg (by rw [h1]; decide), if_neg h2, if_neg (by rw [h3]; decide)]
theorem asksFrom_bad {r i : Nat} {e : Nat × Nat} (h : lackB K T m (1 + 2 * i) least = some e) : asksFrom K T m (r + 1) i least = some e := by unfold asksFrom; rw [h]
theorem asksFrom_ok {r i : Nat} (h : lackB K T m (1 + 2 * i) least = none) : asksFrom K T m (r + 1) i least = asksFrom K T m r (i + 1) (bt m (1 + 2 * i) + 1) := by rw [asksFrom]; rw [h]
theorem blkB_yes {x : Nat} (h1 : least ≤ x) (h2 : x < partsN T K) : blkB K T least x = true := by unfold blkB; rw [decide_eq_true h1, winB_yes (by omega) (by omega)]; rfl
theorem blkB_no {x : Nat} (h : x < least ∨ partsN T K ≤ x) : blkB K T least x = false := by
  unfold blkB
  rcases h with h | h
  · rw [decide_eq_false (by omega)]; rfl
  · rw [winB_no (by omega)]; simp
end

def RAGives (K T : Nat) (l : List Gf.F) (x0 x1 L : Nat) (w : World) (e : Ending) (w' : World) : Prop :=
  (match asksB K T (l.drop 4) with
  | some (c, k) => e = .returned (.tuple #[.agg #[.int .i64 0, .int .i64 0, .int .i64 0, .int .i64 0, .int .i64 0, .slice none 0 0, .slice none 0 0], .agg #[.int .i64 (c : Int), .int .i64 ((k + 4 : Nat) : Int)]])
  | none => ∃ a c1, e = .returned (.tuple #[.agg #[.int .i64 (x0 : Int), .int .i64 (x1 : Int), .int .i64 (L : Int), .int .i64 0, .int .i64 0, .slice none 0 0, .slice a (bt (l.drop 4) 0) c1], .agg #[.int .i64 0, .int .i64 (-1)]]) ∧ w'.ownsRow w.heap.size 122 2 (.slice a (bt (l.drop 4) 0) c1) (bt (l.drop 4) 0) (lackCells (l.drop 4) (bt (l.drop 4) 0))) ∧ Below w.heap.size w w'
theorem RAGives.bad {K T x0 x1 L c k : Nat} {kk : Int} {l : List Gf.F} {w w' : World} (h : asksB K T (l.drop 4) = some (c, k)) (hk : kk = ((k + 4 : Nat) : Int)) (hb : Below w.heap.size w w') :
    RAGives K T l x0 x1 L w (.returned (.tuple #[.agg #[.int .i64 0, .int .i64 0, .int .i64 0, .int .i64 0, .int .i64 0, .slice none 0 0, .slice none 0 0], .agg #[.int .i64 (c : Int), .int .i64 kk]])) w' := by
  unfold RAGives
  rw [h, hk]
  exact ⟨rfl, hb⟩

theorem own_lt2 {w : World} {B sz n g : Nat} {e : TypeId} {v : Value} {xs : List Value} (h : w.ownsRow B e sz v n xs) (hg : v.ownBlock = some g) : B ≤ g ∧ g < w.heap.size := h.lt g hg

set_option maxRecDepth 100000 in
set_option maxHeartbeats 4000000 in
theorem rasks_any (b o n c K N S L T x0 x1 : Nat) (l : List Gf.F) (w : World) (hcfg : Cfg K N S) (hL : L ≤ 65535) (hTe : T = symN S L) (hl : l.length = n) (_hn : n ≤ c) (hn2 : n ≤ 140737488355328) (hn5 : 5 ≤ n) (hB : Bs w b o l) (hbl : b < w.heap.size) :
    Calls Tryz.prog 147 #[.agg #[.int .i64 (K : Int), .int .i64 (N : Int), .int .i64 (S : Int)], .slice (some ⟨b, o, none⟩) n c, .agg #[.int .i64 (x0 : Int), .int .i64 (x1 : Int), .int .i64 (L : Int), .int .i64 0, .int .i64 0, .slice none 0 0, .slice none 0 0]] w (RAGives K T l x0 x1 L w) := by
  have HCF : Hid (Cfg K N S) := hcfg
  have hs1 := hcfg.s1
  have HK1 : Hid (1 ≤ K) := hcfg.k1
  clear hcfg
  have HM : Hid ((l.drop 4).length = n - 4) := by show _ = _; simp [hl]
  have HBT : Hid (∀ i, bt l (4 + i) = bt (l.drop 4) i) := fun i => by simp [bt, at_, List.getD]
  have HTE : Hid (T = symN S L) := hTe
  have hTr := symN_range (S := S) (len := L) hs1
  rw [← hTe] at hTr
  obtain ⟨M, hMe⟩ : ∃ M, M = bt (l.drop 4) 0 := ⟨_, rfl⟩
  have hM256 : M < 256 := by rw [hMe]; exact bt_lt _ _
  have HMM : Hid (M = bt (l.drop 4) 0) := hMe
  obtain ⟨Bn, hBn⟩ : ∃ Bn, Bn = partsN T K := ⟨_, rfl⟩
  have HBN : Hid (Bn = partsN T K) := hBn
  have hBl : Bn ≤ 70000 := by rw [hBn]; have := partsN_le (a := T) HK1.out; omega
  have hblk : ∀ W, Calls Tryz.prog 94 #[.agg #[.int .i64 (K : Int), .int .i64 (N : Int), .int .i64 (S : Int)], .int .i64 (L : Int)] W fun e w' => e = .returned (.int .i64 (Bn : Int)) ∧ Below W.heap.size W w' := fun W => by rw [hBn, hTe]; exact rblocks_any K N S L HCF.out hL W
  have hst := RSt.start w K N S (.int .i64 (x0 : Int)) (.int .i64 (x1 : Int)) (.int .i64 (L : Int)) (.int .i64 0) (.int .i64 0) (.slice none 0 0) (.slice none 0 0)
  have HIN : Hid (∀ {W : World}, Below w.heap.size w W → ∀ i, i < n → W.cell? ⟨b, o + i, none⟩ = some (.int .u8 (bt l i : Int))) := fun hb i hi => by rw [hb.cell (p := ⟨b, o + i, none⟩) hbl]; exact hB i (by omega)
  obtain ⟨iL, hiL, hiL0, hiL1, hiL2⟩ := Tryz.lack_parts
  clear hTe hBn hMe hB
  go_enter Tryz.func147, Tryz.ntmps147
  go_upto_region 1 with fail
  generalize ((((w.alloc (.cells #[.int .i64 (K : Int), .int .i64 (N : Int), .int .i64 (S : Int)] 30)).alloc (.cells #[.int .i64 (x0 : Int), .int .i64 (x1 : Int), .int .i64 (L : Int), .int .i64 0, .int .i64 0, .slice none 0 0, .slice none 0 0] 60)).alloc (.cells #[.int .i64 0, .int .i64 0, .int .i64 0, .int .i64 0, .int .i64 0, .slice none 0 0, .slice none 0 0] 60)).alloc (.cells #[.int .i64 0, .int .i64 0] 139)) = W at *
  rw [show w.heap.size + 1 + 1 + 1 = w.heap.size + 3 from rfl, show w.heap.size + 1 + 1 = w.heap.size + 2 from rfl]
  have i4 : W.cell? ⟨b, o + 4, none⟩ = some (.int .u8 (M : Int)) := by rw [HMM.out, ← HBT.out 0]; exact HIN.out hst.low 4 (by omega)
  obtain ⟨k0, k1, k2⟩ := hst.cfgs
  have q2 : W.cell? ⟨w.heap.size + 1, 2, none⟩ = some (.int .i64 (L : Int)) := (row7 hst.pk).2.2.1
  have hlt := hst.lt
  by_cases hM0 : M < 1
  · have hM0' : (M : Int) < 1 := by omega
    obtain ⟨c0, c1, c2, c3, c4, c5, c6⟩ := row7 hst.res
    have e0 : W.cell? ⟨w.heap.size + 3, 0, none⟩ = some (.int .i64 0) := cell_of_row W _ 0 _ _ _ hst.err
    have e1 : W.cell? ⟨w.heap.size + 3, 1, none⟩ = some (.int .i64 0) := cell_of_row W _ 1 _ _ _ hst.err
    have f0 := frozen_of_row W _ 0 _ _ hst.res
    have f1 := frozen_of_row W _ 1 _ _ hst.res
    have f2 := frozen_of_row W _ 2 _ _ hst.res
    have f3 := frozen_of_row W _ 3 _ _ hst.res
    have f4 := frozen_of_row W _ 4 _ _ hst.res
    have f5 := frozen_of_row W _ 5 _ _ hst.res
    have f6 := frozen_of_row W _ 6 _ _ hst.res
    have g0 := frozen_of_row W _ 0 _ _ hst.err
    have g1 := frozen_of_row W _ 1 _ _ hst.err
    have hne9 : ¬ w.heap.size + 2 = w.heap.size + 3 := by omega
    have hp := put9 W (w.heap.size + 2) (w.heap.size + 3) (.int .i64 0) (.int .i64 0) (.int .i64 0) (.int .i64 0) (.int .i64 0) (.slice none 0 0) (.slice none 0 0) (.int .i64 0) (.int .i64 0) (.int .i64 0) (.int .i64 0) (.int .i64 0) (.int .i64 0) (.int .i64 0) (.slice none 0 0) (.slice none 0 0) (.int .i64 6) (.int .i64 4) hst.res hst.err (by omega)
    go_wp2_with fail
    generalize (((((((((W.setCell ⟨w.heap.size + 2, 0, none⟩ (.int .i64 0)).setCell ⟨w.heap.size + 2, 1, none⟩ (.int .i64 0)).setCell ⟨w.heap.size + 2, 2, none⟩ (.int .i64 0)).setCell ⟨w.heap.size + 2, 3, none⟩ (.int .i64 0)).setCell ⟨w.heap.size + 2, 4, none⟩ (.int .i64 0)).setCell ⟨w.heap.size + 2, 5, none⟩ (.slice none 0 0)).setCell ⟨w.heap.size + 2, 6, none⟩ (.slice none 0 0)).setCell ⟨w.heap.size + 3, 0, none⟩ (.int .i64 6)).setCell ⟨w.heap.size + 3, 1, none⟩ (.int .i64 4)) = W9 at hp ⊢
    obtain ⟨hp1, hp2, hp3⟩ := hp
    obtain ⟨d0, d1, d2, d3, d4, d5, d6⟩ := row7 (show W9.heap[w.heap.size + 2]? = _ from hp1)
    have d7 : W9.cell? ⟨w.heap.size + 3, 0, none⟩ = some (.int .i64 6) := cell_of_row _ _ 0 _ _ _ (show W9.heap[w.heap.size + 3]? = _ from hp2)
    have d8 : W9.cell? ⟨w.heap.size + 3, 1, none⟩ = some (.int .i64 4) := cell_of_row _ _ 1 _ _ _ (show W9.heap[w.heap.size + 3]? = _ from hp2)
    clear c0 c1 c2 c3 c4 c5 c6 f0 f1 f2 f3 f4 f5 f6 g0 g1 e0 e1
    exact bodyPost_ret (v := .tuple #[.agg #[.int .i64 0, .int .i64 0, .int .i64 0, .int .i64 0, .int .i64 0, .slice none 0 0, .slice none 0 0], .agg #[.int .i64 6, .int .i64 4]]) (by simp [results, Tryz.results147, go_sem, d0, d1, d2, d3, d4, d5, d6, d7, d8]) rfl (RAGives.bad (c := 6) (k := 0) (by unfold asksB; rw [if_neg (by rw [HM.out]; omega), if_pos (by rw [← HMM.out]; exact manyB_no (by omega))]) (by omega) (hst.low.trans (hp3.toBelow (by have := hst.low.size; omega) (fun k hk q => by omega))))
  · have hM0' : ¬ (M : Int) < 1 := by omega
    go_wp2_with fail
    refine (hblk _).mono ?_
    rintro e W1 ⟨rfl, hb1⟩
    have hst1 := hst.above (hb1.mono hlt)
    clear i4 k0 k1 k2 q2 hst hb1
    by_cases hMB : Bn < M
    · have hMB' : (M : Int) > (Bn : Int) := by omega
      obtain ⟨c0, c1, c2, c3, c4, c5, c6⟩ := row7 hst1.res
      have e0 : W1.cell? ⟨w.heap.size + 3, 0, none⟩ = some (.int .i64 0) := cell_of_row W1 _ 0 _ _ _ hst1.err
      have e1 : W1.cell? ⟨w.heap.size + 3, 1, none⟩ = some (.int .i64 0) := cell_of_row W1 _ 1 _ _ _ hst1.err
      have f0 := frozen_of_row W1 _ 0 _ _ hst1.res
      have f1 := frozen_of_row W1 _ 1 _ _ hst1.res
      have f2 := frozen_of_row W1 _ 2 _ _ hst1.res
      have f3 := frozen_of_row W1 _ 3 _ _ hst1.res
      have f4 := frozen_of_row W1 _ 4 _ _ hst1.res
      have f5 := frozen_of_row W1 _ 5 _ _ hst1.res
      have f6 := frozen_of_row W1 _ 6 _ _ hst1.res
      have g0 := frozen_of_row W1 _ 0 _ _ hst1.err
      have g1 := frozen_of_row W1 _ 1 _ _ hst1.err
      have hne9 : ¬ w.heap.size + 2 = w.heap.size + 3 := by omega
      have hp := put9 W1 (w.heap.size + 2) (w.heap.size + 3) (.int .i64 0) (.int .i64 0) (.int .i64 0) (.int .i64 0) (.int .i64 0) (.slice none 0 0) (.slice none 0 0) (.int .i64 0) (.int .i64 0) (.int .i64 0) (.int .i64 0) (.int .i64 0) (.int .i64 0) (.int .i64 0) (.slice none 0 0) (.slice none 0 0) (.int .i64 6) (.int .i64 4) hst1.res hst1.err (by omega)
      go_wp2_with fail
      generalize (((((((((W1.setCell ⟨w.heap.size + 2, 0, none⟩ (.int .i64 0)).setCell ⟨w.heap.size + 2, 1, none⟩ (.int .i64 0)).setCell ⟨w.heap.size + 2, 2, none⟩ (.int .i64 0)).setCell ⟨w.heap.size + 2, 3, none⟩ (.int .i64 0)).setCell ⟨w.heap.size + 2, 4, none⟩ (.int .i64 0)).setCell ⟨w.heap.size + 2, 5, none⟩ (.slice none 0 0)).setCell ⟨w.heap.size + 2, 6, none⟩ (.slice none 0 0)).setCell ⟨w.heap.size + 3, 0, none⟩ (.int .i64 6)).setCell ⟨w.heap.size + 3, 1, none⟩ (.int .i64 4)) = W9 at hp ⊢
      obtain ⟨hp1, hp2, hp3⟩ := hp
      obtain ⟨d0, d1, d2, d3, d4, d5, d6⟩ := row7 (show W9.heap[w.heap.size + 2]? = _ from hp1)
      have d7 : W9.cell? ⟨w.heap.size + 3, 0, none⟩ = some (.int .i64 6) := cell_of_row _ _ 0 _ _ _ (show W9.heap[w.heap.size + 3]? = _ from hp2)
      have d8 : W9.cell? ⟨w.heap.size + 3, 1, none⟩ = some (.int .i64 4) := cell_of_row _ _ 1 _ _ _ (show W9.heap[w.heap.size + 3]? = _ from hp2)
      clear c0 c1 c2 c3 c4 c5 c6 f0 f1 f2 f3 f4 f5 f6 g0 g1 e0 e1
      exact bodyPost_ret (v := .tuple #[.agg #[.int .i64 0, .int .i64 0, .int .i64 0, .int .i64 0, .int .i64 0, .slice none 0 0, .slice none 0 0], .agg #[.int .i64 6, .int .i64 4]]) (by simp [results, Tryz.results147, go_sem, d0, d1, d2, d3, d4, d5, d6, d7, d8]) rfl (RAGives.bad (c := 6) (k := 0) (by unfold asksB; rw [if_neg (by rw [HM.out]; omega), if_pos (by rw [← HMM.out, ← HBN.out]; exact manyB_no (by omega))]) (by omega) (hst1.low.trans (hp3.toBelow (by have := hst1.low.size; omega) (fun k hk q => by omega))))
    · have hMB' : ¬ (M : Int) > (Bn : Int) := by omega
      have HAB : Hid (asksB K T (l.drop 4) = asksFrom K T (l.drop 4) M 0 0) := by
        show _ = _
        unfold asksB
        rw [if_neg (by rw [HM.out]; omega), if_neg (by rw [← HMM.out, ← HBN.out, manyB_yes ⟨by omega, by omega⟩]; decide), ← HMM.out]
      go_wp2_with fail
      go_loopw [9, 10] (fun t9 t10 wr => ∃ (i least : Nat) (va : Value), i ≤ M ∧ t10 = .int .i64 (i : Int) ∧ t9 = .int .i64 ((least : Int) - 1) ∧ least ≤ 256 ∧ RSt w wr K N S (.int .i64 (x0 : Int)) (.int .i64 (x1 : Int)) (.int .i64 (L : Int)) (.int .i64 0) (.int .i64 0) (.slice none 0 0) va ∧ wr.ownsRow (w.heap.size + 4) 122 2 va i (lackCells (l.drop 4) i) ∧ Hid (asksB K T (l.drop 4) = asksFrom K T (l.drop 4) (M - i) i least)) (fun _ t _ => M - (intOf t).toNat)
      case atStart => exact ⟨0, 0, .slice none 0 0, by omega, rfl, rfl, by omega, hst1, World.ownsRow_nil .., HAB⟩
      case round =>
        clear hst1
        obtain ⟨i, least, va, hi, rfl, rfl, hle, hst, hown, HF⟩ := hrel
        have hltr := hst.lt
        obtain ⟨k0, k1, k2⟩ := hst.cfgs
        obtain ⟨y0, y1, y2, y3, y4, y5, y6⟩ := row7 hst.pk
        by_cases hlt : i < M
        · have hlt' : (i : Int) < (M : Int) := by omega
          have HF1 : Hid (∀ e, lackB K T (l.drop 4) (1 + 2 * i) least = some e → asksB K T (l.drop 4) = some e) := fun e h => by rw [HF.out, show M - i = (M - (i + 1)) + 1 by omega]; exact asksFrom_bad h
          have HF2 : Hid (lackB K T (l.drop 4) (1 + 2 * i) least = none → asksB K T (l.drop 4) = asksFrom K T (l.drop 4) (M - (i + 1)) (i + 1) (bt (l.drop 4) (1 + 2 * i) + 1)) := fun h => by rw [HF.out, show M - i = (M - (i + 1)) + 1 by omega]; exact asksFrom_ok h
          by_cases hq0 : n ≤ 5 + 2 * i
          · have hq0' : (n : Int) ≤ 5 + 2 * (i : Int) := by omega
            obtain ⟨c0, c1, c2, c3, c4, c5, c6⟩ := row7 hst.res
            have e0 : wr.cell? ⟨w.heap.size + 3, 0, none⟩ = some (.int .i64 0) := cell_of_row wr _ 0 _ _ _ hst.err
            have e1 : wr.cell? ⟨w.heap.size + 3, 1, none⟩ = some (.int .i64 0) := cell_of_row wr _ 1 _ _ _ hst.err
            have f0 := frozen_of_row wr _ 0 _ _ hst.res
            have f1 := frozen_of_row wr _ 1 _ _ hst.res
            have f2 := frozen_of_row wr _ 2 _ _ hst.res
            have f3 := frozen_of_row wr _ 3 _ _ hst.res
            have f4 := frozen_of_row wr _ 4 _ _ hst.res
            have f5 := frozen_of_row wr _ 5 _ _ hst.res
            have f6 := frozen_of_row wr _ 6 _ _ hst.res
            have g0 := frozen_of_row wr _ 0 _ _ hst.err
            have g1 := frozen_of_row wr _ 1 _ _ hst.err
            have hne9 : ¬ w.heap.size + 2 = w.heap.size + 3 := by omega
            have hp := put9 wr (w.heap.size + 2) (w.heap.size + 3) (.int .i64 0) (.int .i64 0) (.int .i64 0) (.int .i64 0) (.int .i64 0) (.slice none 0 0) (.slice none 0 0) (.int .i64 0) (.int .i64 0) (.int .i64 0) (.int .i64 0) (.int .i64 0) (.int .i64 0) (.int .i64 0) (.slice none 0 0) (.slice none 0 0) (.int .i64 4) (.int .i64 (n : Int)) hst.res hst.err (by omega)
            go_wp2_with fail
            generalize (((((((((wr.setCell ⟨w.heap.size + 2, 0, none⟩ (.int .i64 0)).setCell ⟨w.heap.size + 2, 1, none⟩ (.int .i64 0)).setCell ⟨w.heap.size + 2, 2, none⟩ (.int .i64 0)).setCell ⟨w.heap.size + 2, 3, none⟩ (.int .i64 0)).setCell ⟨w.heap.size + 2, 4, none⟩ (.int .i64 0)).setCell ⟨w.heap.size + 2, 5, none⟩ (.slice none 0 0)).setCell ⟨w.heap.size + 2, 6, none⟩ (.slice none 0 0)).setCell ⟨w.heap.size + 3, 0, none⟩ (.int .i64 4)).setCell ⟨w.heap.size + 3, 1, none⟩ (.int .i64 (n : Int))) = W9 at hp ⊢
            obtain ⟨hp1, hp2, hp3⟩ := hp
            obtain ⟨d0, d1, d2, d3, d4, d5, d6⟩ := row7 (show W9.heap[w.heap.size + 2]? = _ from hp1)
            have d7 : W9.cell? ⟨w.heap.size + 3, 0, none⟩ = some (.int .i64 4) := cell_of_row _ _ 0 _ _ _ (show W9.heap[w.heap.size + 3]? = _ from hp2)
            have d8 : W9.cell? ⟨w.heap.size + 3, 1, none⟩ = some (.int .i64 (n : Int)) := cell_of_row _ _ 1 _ _ _ (show W9.heap[w.heap.size + 3]? = _ from hp2)
            clear c0 c1 c2 c3 c4 c5 c6 f0 f1 f2 f3 f4 f5 f6 g0 g1 e0 e1
            exact bodyPost_ret (v := .tuple #[.agg #[.int .i64 0, .int .i64 0, .int .i64 0, .int .i64 0, .int .i64 0, .slice none 0 0, .slice none 0 0], .agg #[.int .i64 4, .int .i64 (n : Int)]]) (by simp [results, Tryz.results147, go_sem, d0, d1, d2, d3, d4, d5, d6, d7, d8]) rfl (RAGives.bad (c := 4) (k := (l.drop 4).length) (HF1.out _ (lackB_0 (by rw [HM.out]; omega))) (by rw [HM.out]; omega) (hst.low.trans (hp3.toBelow (by have := hst.low.size; omega) (fun k hk q => by omega))))
          · have hq0' : ¬ (n : Int) ≤ 5 + 2 * (i : Int) := by omega
            obtain ⟨x, hxe⟩ : ∃ x, x = bt (l.drop 4) (1 + 2 * i) := ⟨_, rfl⟩
            have HX : Hid (x = bt (l.drop 4) (1 + 2 * i)) := hxe
            have hx256 : x < 256 := by rw [hxe]; exact bt_lt _ _
            have ix : wr.cell? ⟨b, o + (5 + 2 * i), none⟩ = some (.int .u8 (x : Int)) := by rw [hxe, ← HBT.out, show 4 + (1 + 2 * i) = 5 + 2 * i by omega]; exact HIN.out hst.low _ (by omega)
            have hz1 : (5 + 2 * (i : Int)).toNat = 5 + 2 * i := by omega
            clear hxe
            by_cases hxl : x < least
            · have hxl' : (x : Int) ≤ (least : Int) - 1 := by omega
              obtain ⟨c0, c1, c2, c3, c4, c5, c6⟩ := row7 hst.res
              have e0 : wr.cell? ⟨w.heap.size + 3, 0, none⟩ = some (.int .i64 0) := cell_of_row wr _ 0 _ _ _ hst.err
              have e1 : wr.cell? ⟨w.heap.size + 3, 1, none⟩ = some (.int .i64 0) := cell_of_row wr _ 1 _ _ _ hst.err
              have f0 := frozen_of_row wr _ 0 _ _ hst.res
              have f1 := frozen_of_row wr _ 1 _ _ hst.res
              have f2 := frozen_of_row wr _ 2 _ _ hst.res
              have f3 := frozen_of_row wr _ 3 _ _ hst.res
              have f4 := frozen_of_row wr _ 4 _ _ hst.res
              have f5 := frozen_of_row wr _ 5 _ _ hst.res
              have f6 := frozen_of_row wr _ 6 _ _ hst.res
              have g0 := frozen_of_row wr _ 0 _ _ hst.err
              have g1 := frozen_of_row wr _ 1 _ _ hst.err
              have hne9 : ¬ w.heap.size + 2 = w.heap.size + 3 := by omega
              have hp := put9 wr (w.heap.size + 2) (w.heap.size + 3) (.int .i64 0) (.int .i64 0) (.int .i64 0) (.int .i64 0) (.int .i64 0) (.slice none 0 0) (.slice none 0 0) (.int .i64 0) (.int .i64 0) (.int .i64 0) (.int .i64 0) (.int .i64 0) (.int .i64 0) (.int .i64 0) (.slice none 0 0) (.slice none 0 0) (.int .i64 6) (.int .i64 (5 + 2 * (i : Int))) hst.res hst.err (by omega)
              go_wp2_with fail
              generalize (((((((((wr.setCell ⟨w.heap.size + 2, 0, none⟩ (.int .i64 0)).setCell ⟨w.heap.size + 2, 1, none⟩ (.int .i64 0)).setCell ⟨w.heap.size + 2, 2, none⟩ (.int .i64 0)).setCell ⟨w.heap.size + 2, 3, none⟩ (.int .i64 0)).setCell ⟨w.heap.size + 2, 4, none⟩ (.int .i64 0)).setCell ⟨w.heap.size + 2, 5, none⟩ (.slice none 0 0)).setCell ⟨w.heap.size + 2, 6, none⟩ (.slice none 0 0)).setCell ⟨w.heap.size + 3, 0, none⟩ (.int .i64 6)).setCell ⟨w.heap.size + 3, 1, none⟩ (.int .i64 (5 + 2 * (i : Int)))) = W9 at hp ⊢
              obtain ⟨hp1, hp2, hp3⟩ := hp
              obtain ⟨d0, d1, d2, d3, d4, d5, d6⟩ := row7 (show W9.heap[w.heap.size + 2]? = _ from hp1)
              have d7 : W9.cell? ⟨w.heap.size + 3, 0, none⟩ = some (.int .i64 6) := cell_of_row _ _ 0 _ _ _ (show W9.heap[w.heap.size + 3]? = _ from hp2)
              have d8 : W9.cell? ⟨w.heap.size + 3, 1, none⟩ = some (.int .i64 (5 + 2 * (i : Int))) := cell_of_row _ _ 1 _ _ _ (show W9.heap[w.heap.size + 3]? = _ from hp2)
              clear c0 c1 c2 c3 c4 c5 c6 f0 f1 f2 f3 f4 f5 f6 g0 g1 e0 e1
              exact bodyPost_ret (v := .tuple #[.agg #[.int .i64 0, .int .i64 0, .int .i64 0, .int .i64 0, .int .i64 0, .slice none 0 0, .slice none 0 0], .agg #[.int .i64 6, .int .i64 (5 + 2 * (i : Int))]]) (by simp [results, Tryz.results147, go_sem, d0, d1, d2, d3, d4, d5, d6, d7, d8]) rfl (RAGives.bad (c := 6) (k := 1 + 2 * i) (HF1.out _ (lackB_1 (by rw [HM.out]; omega) (by rw [← HX.out]; exact blkB_no (.inl hxl)))) (by omega) (hst.low.trans (hp3.toBelow (by have := hst.low.size; omega) (fun k hk q => by omega))))
            · have hxl' : ¬ (x : Int) ≤ (least : Int) - 1 := by omega
              go_wp2_with fail
              refine (hblk _).mono ?_
              rintro e W1 ⟨rfl, hb1⟩
              have hst1 := hst.above (hb1.mono hltr)
              have hown1 := own_of_block hown (fun g hg => hb1.block g (hown.lt g hg).2)
              clear ix k0 k1 k2 y0 y1 y2 y3 y4 y5 y6 hb1 hst hown
              by_cases hxB : Bn ≤ x
              · have hxB' : (x : Int) ≥ (Bn : Int) := by omega
                obtain ⟨c0, c1, c2, c3, c4, c5, c6⟩ := row7 hst1.res
                have e0 : W1.cell? ⟨w.heap.size + 3, 0, none⟩ = some (.int .i64 0) := cell_of_row W1 _ 0 _ _ _ hst1.err
                have e1 : W1.cell? ⟨w.heap.size + 3, 1, none⟩ = some (.int .i64 0) := cell_of_row W1 _ 1 _ _ _ hst1.err
                have f0 := frozen_of_row W1 _ 0 _ _ hst1.res
                have f1 := frozen_of_row W1 _ 1 _ _ hst1.res
                have f2 := frozen_of_row W1 _ 2 _ _ hst1.res
                have f3 := frozen_of_row W1 _ 3 _ _ hst1.res
                have f4 := frozen_of_row W1 _ 4 _ _ hst1.res
                have f5 := frozen_of_row W1 _ 5 _ _ hst1.res
                have f6 := frozen_of_row W1 _ 6 _ _ hst1.res
                have g0 := frozen_of_row W1 _ 0 _ _ hst1.err
                have g1 := frozen_of_row W1 _ 1 _ _ hst1.err
                have hne9 : ¬ w.heap.size + 2 = w.heap.size + 3 := by omega
                have hp := put9 W1 (w.heap.size + 2) (w.heap.size + 3) (.int .i64 0) (.int .i64 0) (.int .i64 0) (.int .i64 0) (.int .i64 0) (.slice none 0 0) (.slice none 0 0) (.int .i64 0) (.int .i64 0) (.int .i64 0) (.int .i64 0) (.int .i64 0) (.int .i64 0) (.int .i64 0) (.slice none 0 0) (.slice none 0 0) (.int .i64 6) (.int .i64 (5 + 2 * (i : Int))) hst1.res hst1.err (by omega)
                go_wp2_with fail
                generalize (((((((((W1.setCell ⟨w.heap.size + 2, 0, none⟩ (.int .i64 0)).setCell ⟨w.heap.size + 2, 1, none⟩ (.int .i64 0)).setCell ⟨w.heap.size + 2, 2, none⟩ (.int .i64 0)).setCell ⟨w.heap.size + 2, 3, none⟩ (.int .i64 0)).setCell ⟨w.heap.size + 2, 4, none⟩ (.int .i64 0)).setCell ⟨w.heap.size + 2, 5, none⟩ (.slice none 0 0)).setCell ⟨w.heap.size + 2, 6, none⟩ (.slice none 0 0)).setCell ⟨w.heap.size + 3, 0, none⟩ (.int .i64 6)).setCell ⟨w.heap.size + 3, 1, none⟩ (.int .i64 (5 + 2 * (i : Int)))) = W9 at hp ⊢
                obtain ⟨hp1, hp2, hp3⟩ := hp
                obtain ⟨d0, d1, d2, d3, d4, d5, d6⟩ := row7 (show W9.heap[w.heap.size + 2]? = _ from hp1)
                have d7 : W9.cell? ⟨w.heap.size + 3, 0, none⟩ = some (.int .i64 6) := cell_of_row _ _ 0 _ _ _ (show W9.heap[w.heap.size + 3]? = _ from hp2)
                have d8 : W9.cell? ⟨w.heap.size + 3, 1, none⟩ = some (.int .i64 (5 + 2 * (i : Int))) := cell_of_row _ _ 1 _ _ _ (show W9.heap[w.heap.size + 3]? = _ from hp2)
                clear c0 c1 c2 c3 c4 c5 c6 f0 f1 f2 f3 f4 f5 f6 g0 g1 e0 e1
                exact bodyPost_ret (v := .tuple #[.agg #[.int .i64 0, .int .i64 0, .int .i64 0, .int .i64 0, .int .i64 0, .slice none 0 0, .slice none 0 0], .agg #[.int .i64 6, .int .i64 (5 + 2 * (i : Int))]]) (by simp [results, Tryz.results147, go_sem, d0, d1, d2, d3, d4, d5, d6, d7, d8]) rfl (RAGives.bad (c := 6) (k := 1 + 2 * i) (HF1.out _ (lackB_1 (by rw [HM.out]; omega) (by rw [← HX.out]; exact blkB_no (.inr (by rw [← HBN.out]; exact hxB))))) (by omega) (hst1.low.trans (hp3.toBelow (by have := hst1.low.size; omega) (fun k hk q => by omega))))
              · have hxB' : ¬ (x : Int) ≥ (Bn : Int) := by omega
                have HBLK : Hid (blkB K T least (bt (l.drop 4) (1 + 2 * i)) = true) := by show _ = _; rw [← HX.out]; exact blkB_yes (by omega) (by rw [← HBN.out]; omega)
                by_cases hq1 : n ≤ 6 + 2 * i
                · have hq1' : (n : Int) ≤ 5 + 2 * (i : Int) + 1 := by omega
                  obtain ⟨c0, c1, c2, c3, c4, c5, c6⟩ := row7 hst1.res
                  have e0 : W1.cell? ⟨w.heap.size + 3, 0, none⟩ = some (.int .i64 0) := cell_of_row W1 _ 0 _ _ _ hst1.err
                  have e1 : W1.cell? ⟨w.heap.size + 3, 1, none⟩ = some (.int .i64 0) := cell_of_row W1 _ 1 _ _ _ hst1.err
                  have f0 := frozen_of_row W1 _ 0 _ _ hst1.res
                  have f1 := frozen_of_row W1 _ 1 _ _ hst1.res
                  have f2 := frozen_of_row W1 _ 2 _ _ hst1.res
                  have f3 := frozen_of_row W1 _ 3 _ _ hst1.res
                  have f4 := frozen_of_row W1 _ 4 _ _ hst1.res
                  have f5 := frozen_of_row W1 _ 5 _ _ hst1.res
                  have f6 := frozen_of_row W1 _ 6 _ _ hst1.res
                  have g0 := frozen_of_row W1 _ 0 _ _ hst1.err
                  have g1 := frozen_of_row W1 _ 1 _ _ hst1.err
                  have hne9 : ¬ w.heap.size + 2 = w.heap.size + 3 := by omega
                  have hp := put9 W1 (w.heap.size + 2) (w.heap.size + 3) (.int .i64 0) (.int .i64 0) (.int .i64 0) (.int .i64 0) (.int .i64 0) (.slice none 0 0) (.slice none 0 0) (.int .i64 0) (.int .i64 0) (.int .i64 0) (.int .i64 0) (.int .i64 0) (.int .i64 0) (.int .i64 0) (.slice none 0 0) (.slice none 0 0) (.int .i64 4) (.int .i64 (n : Int)) hst1.res hst1.err (by omega)
                  go_wp2_with fail
                  generalize (((((((((W1.setCell ⟨w.heap.size + 2, 0, none⟩ (.int .i64 0)).setCell ⟨w.heap.size + 2, 1, none⟩ (.int .i64 0)).setCell ⟨w.heap.size + 2, 2, none⟩ (.int .i64 0)).setCell ⟨w.heap.size + 2, 3, none⟩ (.int .i64 0)).setCell ⟨w.heap.size + 2, 4, none⟩ (.int .i64 0)).setCell ⟨w.heap.size + 2, 5, none⟩ (.slice none 0 0)).setCell ⟨w.heap.size + 2, 6, none⟩ (.slice none 0 0)).setCell ⟨w.heap.size + 3, 0, none⟩ (.int .i64 4)).setCell ⟨w.heap.size + 3, 1, none⟩ (.int .i64 (n : Int))) = W9 at hp ⊢
                  obtain ⟨hp1, hp2, hp3⟩ := hp
                  obtain ⟨d0, d1, d2, d3, d4, d5, d6⟩ := row7 (show W9.heap[w.heap.size + 2]? = _ from hp1)
                  have d7 : W9.cell? ⟨w.heap.size + 3, 0, none⟩ = some (.int .i64 4) := cell_of_row _ _ 0 _ _ _ (show W9.heap[w.heap.size + 3]? = _ from hp2)
                  have d8 : W9.cell? ⟨w.heap.size + 3, 1, none⟩ = some (.int .i64 (n : Int)) := cell_of_row _ _ 1 _ _ _ (show W9.heap[w.heap.size + 3]? = _ from hp2)
                  clear c0 c1 c2 c3 c4 c5 c6 f0 f1 f2 f3 f4 f5 f6 g0 g1 e0 e1
                  exact bodyPost_ret (v := .tuple #[.agg #[.int .i64 0, .int .i64 0, .int .i64 0, .int .i64 0, .int .i64 0, .slice none 0 0, .slice none 0 0], .agg #[.int .i64 4, .int .i64 (n : Int)]]) (by simp [results, Tryz.results147, go_sem, d0, d1, d2, d3, d4, d5, d6, d7, d8]) rfl (RAGives.bad (c := 4) (k := (l.drop 4).length) (HF1.out _ (lackB_2 (by rw [HM.out]; omega) HBLK.out (by rw [HM.out]; omega))) (by rw [HM.out]; omega) (hst1.low.trans (hp3.toBelow (by have := hst1.low.size; omega) (fun k hk q => by omega))))
                · have hq1' : ¬ (n : Int) ≤ 5 + 2 * (i : Int) + 1 := by omega
                  obtain ⟨y, hye⟩ : ∃ y, y = bt (l.drop 4) (1 + 2 * i + 1) := ⟨_, rfl⟩
                  have HY : Hid (y = bt (l.drop 4) (1 + 2 * i + 1)) := hye
                  have hy256 : y < 256 := by rw [hye]; exact bt_lt _ _
                  have iy : W1.cell? ⟨b, o + (5 + 2 * i + 1), none⟩ = some (.int .u8 (y : Int)) := by rw [hye, ← HBT.out, show 4 + (1 + 2 * i + 1) = 5 + 2 * i + 1 by omega]; exact HIN.out hst1.low _ (by omega)
                  clear hye
                  obtain ⟨k0, k1, k2⟩ := hst1.cfgs
                  obtain ⟨y0, y1, y2, y3, y4, y5, y6⟩ := row7 hst1.pk
                  have hlt1 := hst1.lt
                  by_cases hy0 : y < 1
                  · have hy0' : (y : Int) < 1 := by omega
                    obtain ⟨c0, c1, c2, c3, c4, c5, c6⟩ := row7 hst1.res
                    have e0 : W1.cell? ⟨w.heap.size + 3, 0, none⟩ = some (.int .i64 0) := cell_of_row W1 _ 0 _ _ _ hst1.err
                    have e1 : W1.cell? ⟨w.heap.size + 3, 1, none⟩ = some (.int .i64 0) := cell_of_row W1 _ 1 _ _ _ hst1.err
                    have f0 := frozen_of_row W1 _ 0 _ _ hst1.res
                    have f1 := frozen_of_row W1 _ 1 _ _ hst1.res
                    have f2 := frozen_of_row W1 _ 2 _ _ hst1.res
                    have f3 := frozen_of_row W1 _ 3 _ _ hst1.res
                    have f4 := frozen_of_row W1 _ 4 _ _ hst1.res
                    have f5 := frozen_of_row W1 _ 5 _ _ hst1.res
                    have f6 := frozen_of_row W1 _ 6 _ _ hst1.res
                    have g0 := frozen_of_row W1 _ 0 _ _ hst1.err
                    have g1 := frozen_of_row W1 _ 1 _ _ hst1.err
                    have hne9 : ¬ w.heap.size + 2 = w.heap.size + 3 := by omega
                    have hp := put9 W1 (w.heap.size + 2) (w.heap.size + 3) (.int .i64 0) (.int .i64 0) (.int .i64 0) (.int .i64 0) (.int .i64 0) (.slice none 0 0) (.slice none 0 0) (.int .i64 0) (.int .i64 0) (.int .i64 0) (.int .i64 0) (.int .i64 0) (.int .i64 0) (.int .i64 0) (.slice none 0 0) (.slice none 0 0) (.int .i64 6) (.int .i64 (5 + 2 * (i : Int) + 1)) hst1.res hst1.err (by omega)
                    go_wp2_with fail
                    generalize (((((((((W1.setCell ⟨w.heap.size + 2, 0, none⟩ (.int .i64 0)).setCell ⟨w.heap.size + 2, 1, none⟩ (.int .i64 0)).setCell ⟨w.heap.size + 2, 2, none⟩ (.int .i64 0)).setCell ⟨w.heap.size + 2, 3, none⟩ (.int .i64 0)).setCell ⟨w.heap.size + 2, 4, none⟩ (.int .i64 0)).setCell ⟨w.heap.size + 2, 5, none⟩ (.slice none 0 0)).setCell ⟨w.heap.size + 2, 6, none⟩ (.slice none 0 0)).setCell ⟨w.heap.size + 3, 0, none⟩ (.int .i64 6)).setCell ⟨w.heap.size + 3, 1, none⟩ (.int .i64 (5 + 2 * (i : Int) + 1))) = W9 at hp ⊢
                    obtain ⟨hp1, hp2, hp3⟩ := hp
                    obtain ⟨d0, d1, d2, d3, d4, d5, d6⟩ := row7 (show W9.heap[w.heap.size + 2]? = _ from hp1)
                    have d7 : W9.cell? ⟨w.heap.size + 3, 0, none⟩ = some (.int .i64 6) := cell_of_row _ _ 0 _ _ _ (show W9.heap[w.heap.size + 3]? = _ from hp2)
                    have d8 : W9.cell? ⟨w.heap.size + 3, 1, none⟩ = some (.int .i64 (5 + 2 * (i : Int) + 1)) := cell_of_row _ _ 1 _ _ _ (show W9.heap[w.heap.size + 3]? = _ from hp2)
                    clear c0 c1 c2 c3 c4 c5 c6 f0 f1 f2 f3 f4 f5 f6 g0 g1 e0 e1
                    exact bodyPost_ret (v := .tuple #[.agg #[.int .i64 0, .int .i64 0, .int .i64 0, .int .i64 0, .int .i64 0, .slice none 0 0, .slice none 0 0], .agg #[.int .i64 6, .int .i64 (5 + 2 * (i : Int) + 1)]]) (by simp [results, Tryz.results147, go_sem, d0, d1, d2, d3, d4, d5, d6, d7, d8]) rfl (RAGives.bad (c := 6) (k := 1 + 2 * i + 1) (HF1.out _ (lackB_3 (by rw [HM.out]; omega) HBLK.out (by rw [HM.out]; omega) (by rw [← HY.out]; exact manyB_no (by omega)))) (by omega) (hst1.low.trans (hp3.toBelow (by have := hst1.low.size; omega) (fun k hk q => by omega))))
                  · have hy0' : ¬ (y : Int) < 1 := by omega
                    have hbK : x * K < symN S L := by rw [← HTE.out]; exact partsN_mul HK1.out (by rw [← HBN.out]; omega)
                    go_wp2_with fail
                    refine (rsources_any K N S L x HCF.out hL hbK W1).mono ?_
                    rw [← HTE.out]
                    rintro e W2 ⟨rfl, hb2⟩
                    have hst2 := hst1.above (hb2.mono hlt1)
                    have hown2 := own_of_block hown1 (fun g hg => hb2.block g (hown1.lt g hg).2)
                    have hq8 : srcN K T x ≤ 8 := by unfold srcN; have := HCF.out.k8; omega
                    obtain ⟨Q, hQe⟩ : ∃ Q, Q = srcN K T x := ⟨_, rfl⟩
                    rw [← hQe] at hq8 ⊢
                    have HQ : Hid (Q = srcN K T x) := hQe
                    clear iy k0 k1 k2 y0 y1 y2 y3 y4 y5 y6 hb2 hst1 hown1 hQe hbK
                    by_cases hyQ : Q < y
                    · have hyQ' : (y : Int) > (Q : Int) := by omega
                      obtain ⟨c0, c1, c2, c3, c4, c5, c6⟩ := row7 hst2.res
                      have e0 : W2.cell? ⟨w.heap.size + 3, 0, none⟩ = some (.int .i64 0) := cell_of_row W2 _ 0 _ _ _ hst2.err
                      have e1 : W2.cell? ⟨w.heap.size + 3, 1, none⟩ = some (.int .i64 0) := cell_of_row W2 _ 1 _ _ _ hst2.err
                      have f0 := frozen_of_row W2 _ 0 _ _ hst2.res
                      have f1 := frozen_of_row W2 _ 1 _ _ hst2.res
                      have f2 := frozen_of_row W2 _ 2 _ _ hst2.res
                      have f3 := frozen_of_row W2 _ 3 _ _ hst2.res
                      have f4 := frozen_of_row W2 _ 4 _ _ hst2.res
                      have f5 := frozen_of_row W2 _ 5 _ _ hst2.res
                      have f6 := frozen_of_row W2 _ 6 _ _ hst2.res
                      have g0 := frozen_of_row W2 _ 0 _ _ hst2.err
                      have g1 := frozen_of_row W2 _ 1 _ _ hst2.err
                      have hne9 : ¬ w.heap.size + 2 = w.heap.size + 3 := by omega
                      have hp := put9 W2 (w.heap.size + 2) (w.heap.size + 3) (.int .i64 0) (.int .i64 0) (.int .i64 0) (.int .i64 0) (.int .i64 0) (.slice none 0 0) (.slice none 0 0) (.int .i64 0) (.int .i64 0) (.int .i64 0) (.int .i64 0) (.int .i64 0) (.int .i64 0) (.int .i64 0) (.slice none 0 0) (.slice none 0 0) (.int .i64 6) (.int .i64 (5 + 2 * (i : Int) + 1)) hst2.res hst2.err (by omega)
                      go_wp2_with fail
                      generalize (((((((((W2.setCell ⟨w.heap.size + 2, 0, none⟩ (.int .i64 0)).setCell ⟨w.heap.size + 2, 1, none⟩ (.int .i64 0)).setCell ⟨w.heap.size + 2, 2, none⟩ (.int .i64 0)).setCell ⟨w.heap.size + 2, 3, none⟩ (.int .i64 0)).setCell ⟨w.heap.size + 2, 4, none⟩ (.int .i64 0)).setCell ⟨w.heap.size + 2, 5, none⟩ (.slice none 0 0)).setCell ⟨w.heap.size + 2, 6, none⟩ (.slice none 0 0)).setCell ⟨w.heap.size + 3, 0, none⟩ (.int .i64 6)).setCell ⟨w.heap.size + 3, 1, none⟩ (.int .i64 (5 + 2 * (i : Int) + 1))) = W9 at hp ⊢
                      obtain ⟨hp1, hp2, hp3⟩ := hp
                      obtain ⟨d0, d1, d2, d3, d4, d5, d6⟩ := row7 (show W9.heap[w.heap.size + 2]? = _ from hp1)
                      have d7 : W9.cell? ⟨w.heap.size + 3, 0, none⟩ = some (.int .i64 6) := cell_of_row _ _ 0 _ _ _ (show W9.heap[w.heap.size + 3]? = _ from hp2)
                      have d8 : W9.cell? ⟨w.heap.size + 3, 1, none⟩ = some (.int .i64 (5 + 2 * (i : Int) + 1)) := cell_of_row _ _ 1 _ _ _ (show W9.heap[w.heap.size + 3]? = _ from hp2)
                      clear c0 c1 c2 c3 c4 c5 c6 f0 f1 f2 f3 f4 f5 f6 g0 g1 e0 e1
                      exact bodyPost_ret (v := .tuple #[.agg #[.int .i64 0, .int .i64 0, .int .i64 0, .int .i64 0, .int .i64 0, .slice none 0 0, .slice none 0 0], .agg #[.int .i64 6, .int .i64 (5 + 2 * (i : Int) + 1)]]) (by simp [results, Tryz.results147, go_sem, d0, d1, d2, d3, d4, d5, d6, d7, d8]) rfl (RAGives.bad (c := 6) (k := 1 + 2 * i + 1) (HF1.out _ (lackB_3 (by rw [HM.out]; omega) HBLK.out (by rw [HM.out]; omega) (by rw [← HX.out, ← HY.out, ← HQ.out]; exact manyB_no (by omega)))) (by omega) (hst2.low.trans (hp3.toBelow (by have := hst2.low.size; omega) (fun k hk q => by omega))))
                    · have hyQ' : ¬ (y : Int) > (Q : Int) := by omega
                      have HMANY : Hid (manyB (srcN K T (bt (l.drop 4) (1 + 2 * i))) (bt (l.drop 4) (1 + 2 * i + 1)) = true) := by show _ = _; rw [← HX.out, ← HY.out, ← HQ.out]; exact manyB_yes ⟨by omega, by omega⟩
                      have HF3 : Hid (asksB K T (l.drop 4) = asksFrom K T (l.drop 4) (M - (i + 1)) (i + 1) (x + 1)) := by show _ = _; rw [HF2.out (lackB_4 (by rw [HM.out]; omega) HBLK.out (by rw [HM.out]; omega) HMANY.out), ← HX.out]
                      have HLC : Hid (lackCells (l.drop 4) (i + 1) = lackCells (l.drop 4) i ++ [.int .i64 (x : Int), .int .i64 (y : Int)]) := by show _ = _; rw [HX.out, HY.out]; rfl
                      have hlt2 := hst2.lt
                      have y6 : W2.cell? ⟨w.heap.size + 1, 6, none⟩ = some va := (row7 hst2.pk).2.2.2.2.2.2
                      obtain ⟨va1, va2, rfl, _⟩ := own_form2 hown2
                      have hi256 : i ≤ 255 := by omega
                      go_wp2_with (at_builtin; refine wpList_append_lies _ rfl _ _ _ rfl (w.heap.size + 4) 122 iL (.agg #[.int .i64 0, .int .i64 0]) 2 16 Tryz.underlying58 hiL hiL0 hiL1 hiL2 rfl (by omega) (.slice va1 i va2) i (lackCells (l.drop 4) i) rfl (hown2.alloc _) ⟨W2.heap.size, 0, none⟩ 1 1 [.int .i64 (x : Int), .int .i64 (y : Int)] rfl rfl ?c1 ?c2 (by omega) ?c3 (by omega) ?c4 (W2.heap.size + 1) ?c5 ?_)
                      case c1 => exact cell_two_at W2 _ _ _ _ rfl
                      case c2 => intro u hu; simp at hu; rcases hu with rfl | rfl <;> rfl
                      case c3 => unfold maxLen; omega
                      case c4 => simp; omega
                      case c5 => simp
                      intro g6 cap6 w6 hown6 hgr6 hlie6 hlt6
                      have hb6 : Below (w.heap.size + 4) W2 w6 := ((Below.refl _ W2).alloc (by omega) _).grown hgr6 (by simp; omega) (fun t ht => (own_lt2 hown2 ht).1)
                      have hst6 := hst2.above hb6
                      rw [← HLC.out] at hown6
                      have r6 : w6.cell? ⟨w.heap.size + 1, 6, none⟩ = some (.slice va1 i va2) := (row7 hst6.pk).2.2.2.2.2.2
                      have rf6 := frozen_of_row w6 _ 6 _ _ hst6.pk
                      have hst7 : RSt w (w6.setCell ⟨w.heap.size + 1, 6, none⟩ (.slice (some ⟨g6, 0, none⟩) (i + 1) cap6)) K N S (.int .i64 (x0 : Int)) (.int .i64 (x1 : Int)) (.int .i64 (L : Int)) (.int .i64 0) (.int .i64 0) (.slice none 0 0) (.slice (some ⟨g6, 0, none⟩) (i + 1) cap6) := hst6.turn (But.setCell (S := fun g => g = w.heap.size + 1) (But.refl _ w6) (p := ⟨w.heap.size + 1, 6, none⟩) (.inl rfl) (.slice (some ⟨g6, 0, none⟩) (i + 1) cap6)) (heap_setCell_same _ _ 6 _ _ _ hst6.pk)
                      have hown7 := own_of_block hown6 (fun g hg => Below.heap_setCell w6 ⟨w.heap.size + 1, 6, none⟩ (.slice (some ⟨g6, 0, none⟩) (i + 1) cap6) g (by have := (hown6.lt g hg).1; show g ≠ w.heap.size + 1; omega))
                      clear hgr6 hlie6 hb6 hst2 hown2 hst6 hown6 y6
                      go_wp2_with fail
                      go_roundw
                      case rel => exact ⟨i + 1, x + 1, _, by omega, by go_num, by simp, by omega, hst7, hown7, HF3⟩
                      case measure => simp [intOf]; omega
        · obtain rfl : i = M := by omega
          have hlt' : ¬ (i : Int) < (i : Int) := by omega
          have HF2 : Hid (asksB K T (l.drop 4) = if 5 + 2 * i < n then some (7, 1 + 2 * i) else none) := by
            show _ = _
            rw [HF.out, Nat.sub_self, asksFrom, HM.out]
            by_cases h : 5 + 2 * i < n
            · rw [if_pos h, if_pos (by omega)]
            · rw [if_neg h, if_neg (by omega)]
          by_cases hq1 : 5 + 2 * i < n
          · have hq1' : (n : Int) > 5 + 2 * (i : Int) := by omega
            obtain ⟨c0, c1, c2, c3, c4, c5, c6⟩ := row7 hst.res
            have e0 : wr.cell? ⟨w.heap.size + 3, 0, none⟩ = some (.int .i64 0) := cell_of_row wr _ 0 _ _ _ hst.err
            have e1 : wr.cell? ⟨w.heap.size + 3, 1, none⟩ = some (.int .i64 0) := cell_of_row wr _ 1 _ _ _ hst.err
            have f0 := frozen_of_row wr _ 0 _ _ hst.res
            have f1 := frozen_of_row wr _ 1 _ _ hst.res
            have f2 := frozen_of_row wr _ 2 _ _ hst.res
            have f3 := frozen_of_row wr _ 3 _ _ hst.res
            have f4 := frozen_of_row wr _ 4 _ _ hst.res
            have f5 := frozen_of_row wr _ 5 _ _ hst.res
            have f6 := frozen_of_row wr _ 6 _ _ hst.res
            have g0 := frozen_of_row wr _ 0 _ _ hst.err
            have g1 := frozen_of_row wr _ 1 _ _ hst.err
            have hne9 : ¬ w.heap.size + 2 = w.heap.size + 3 := by omega
            have hp := put9 wr (w.heap.size + 2) (w.heap.size + 3) (.int .i64 0) (.int .i64 0) (.int .i64 0) (.int .i64 0) (.int .i64 0) (.slice none 0 0) (.slice none 0 0) (.int .i64 0) (.int .i64 0) (.int .i64 0) (.int .i64 0) (.int .i64 0) (.int .i64 0) (.int .i64 0) (.slice none 0 0) (.slice none 0 0) (.int .i64 7) (.int .i64 (5 + 2 * (i : Int))) hst.res hst.err (by omega)
            go_wp2_with fail
            generalize (((((((((wr.setCell ⟨w.heap.size + 2, 0, none⟩ (.int .i64 0)).setCell ⟨w.heap.size + 2, 1, none⟩ (.int .i64 0)).setCell ⟨w.heap.size + 2, 2, none⟩ (.int .i64 0)).setCell ⟨w.heap.size + 2, 3, none⟩ (.int .i64 0)).setCell ⟨w.heap.size + 2, 4, none⟩ (.int .i64 0)).setCell ⟨w.heap.size + 2, 5, none⟩ (.slice none 0 0)).setCell ⟨w.heap.size + 2, 6, none⟩ (.slice none 0 0)).setCell ⟨w.heap.size + 3, 0, none⟩ (.int .i64 7)).setCell ⟨w.heap.size + 3, 1, none⟩ (.int .i64 (5 + 2 * (i : Int)))) = W9 at hp ⊢
            obtain ⟨hp1, hp2, hp3⟩ := hp
            obtain ⟨d0, d1, d2, d3, d4, d5, d6⟩ := row7 (show W9.heap[w.heap.size + 2]? = _ from hp1)
            have d7 : W9.cell? ⟨w.heap.size + 3, 0, none⟩ = some (.int .i64 7) := cell_of_row _ _ 0 _ _ _ (show W9.heap[w.heap.size + 3]? = _ from hp2)
            have d8 : W9.cell? ⟨w.heap.size + 3, 1, none⟩ = some (.int .i64 (5 + 2 * (i : Int))) := cell_of_row _ _ 1 _ _ _ (show W9.heap[w.heap.size + 3]? = _ from hp2)
            clear c0 c1 c2 c3 c4 c5 c6 f0 f1 f2 f3 f4 f5 f6 g0 g1 e0 e1
            exact bodyPost_ret (v := .tuple #[.agg #[.int .i64 0, .int .i64 0, .int .i64 0, .int .i64 0, .int .i64 0, .slice none 0 0, .slice none 0 0], .agg #[.int .i64 7, .int .i64 (5 + 2 * (i : Int))]]) (by simp [results, Tryz.results147, go_sem, d0, d1, d2, d3, d4, d5, d6, d7, d8]) rfl (RAGives.bad (c := 7) (k := 1 + 2 * i) (by rw [HF2.out, if_pos hq1]) (by omega) (hst.low.trans (hp3.toBelow (by have := hst.low.size; omega) (fun k hk q => by omega))))
          · have hq1' : ¬ (n : Int) > 5 + 2 * (i : Int) := by omega
            obtain ⟨va1, va2, rfl, _⟩ := own_form2 hown
            have hn12 : w.heap.size + 1 ≠ w.heap.size + 2 := by omega
            have hn13 : w.heap.size + 1 ≠ w.heap.size + 3 := by omega
            clear k0 k1 k2
            have hno : ∀ X, Calls Tryz.prog 93 #[] X fun e w1 => e = .returned (.agg #[.int .i64 0, .int .i64 (-1)]) ∧ Below X.heap.size X w1 := none_err
            go_upto_region 23 with fail
            go_region_with (go_at_call 93; refine (hno _).mono ?_; rintro e W7 ⟨rfl, hb7⟩; have hst7 := hst.above ((Below.undrew hb7).mono hltr); obtain ⟨z0, z1, z2, z3, z4, z5, z6⟩ := row7 hst7.pk; obtain ⟨c0, c1, c2, c3, c4, c5, c6⟩ := row7 hst7.res; have e0 : W7.cell? ⟨w.heap.size + 3, 0, none⟩ = some (.int .i64 0) := cell_of_row W7 _ 0 _ _ _ hst7.err; have e1 : W7.cell? ⟨w.heap.size + 3, 1, none⟩ = some (.int .i64 0) := cell_of_row W7 _ 1 _ _ _ hst7.err; have f0 := frozen_of_row W7 _ 0 _ _ hst7.res; have f1 := frozen_of_row W7 _ 1 _ _ hst7.res; have f2 := frozen_of_row W7 _ 2 _ _ hst7.res; have f3 := frozen_of_row W7 _ 3 _ _ hst7.res; have f4 := frozen_of_row W7 _ 4 _ _ hst7.res; have f5 := frozen_of_row W7 _ 5 _ _ hst7.res; have f6 := frozen_of_row W7 _ 6 _ _ hst7.res; have g0 := frozen_of_row W7 _ 0 _ _ hst7.err; have g1 := frozen_of_row W7 _ 1 _ _ hst7.err)
            all_goals
              have hp := put9 W7 (w.heap.size + 2) (w.heap.size + 3) (.int .i64 0) (.int .i64 0) (.int .i64 0) (.int .i64 0) (.int .i64 0) (.slice none 0 0) (.slice none 0 0) (.int .i64 0) (.int .i64 0) (.int .i64 (x0 : Int)) (.int .i64 (x1 : Int)) (.int .i64 (L : Int)) (.int .i64 0) (.int .i64 0) (.slice none 0 0) (.slice va1 i va2) (.int .i64 0) (.int .i64 (-1)) hst7.res hst7.err (by omega)
              generalize (((((((((W7.setCell ⟨w.heap.size + 2, 0, none⟩ (.int .i64 (x0 : Int))).setCell ⟨w.heap.size + 2, 1, none⟩ (.int .i64 (x1 : Int))).setCell ⟨w.heap.size + 2, 2, none⟩ (.int .i64 (L : Int))).setCell ⟨w.heap.size + 2, 3, none⟩ (.int .i64 0)).setCell ⟨w.heap.size + 2, 4, none⟩ (.int .i64 0)).setCell ⟨w.heap.size + 2, 5, none⟩ (.slice none 0 0)).setCell ⟨w.heap.size + 2, 6, none⟩ (.slice va1 i va2)).setCell ⟨w.heap.size + 3, 0, none⟩ (.int .i64 0)).setCell ⟨w.heap.size + 3, 1, none⟩ (.int .i64 (-1))) = W9 at hp ⊢
              obtain ⟨hp1, hp2, hp3⟩ := hp
              obtain ⟨d0, d1, d2, d3, d4, d5, d6⟩ := row7 (show W9.heap[w.heap.size + 2]? = _ from hp1)
              have d7 : W9.cell? ⟨w.heap.size + 3, 0, none⟩ = some (.int .i64 0) := cell_of_row _ _ 0 _ _ _ (show W9.heap[w.heap.size + 3]? = _ from hp2)
              have d8 : W9.cell? ⟨w.heap.size + 3, 1, none⟩ = some (.int .i64 (-1)) := cell_of_row _ _ 1 _ _ _ (show W9.heap[w.heap.size + 3]? = _ from hp2)
              clear c0 c1 c2 c3 c4 c5 c6 f0 f1 f2 f3 f4 f5 f6 g0 g1 e0 e1 z0 z1 z2 z3 z4 z5 z6 y0 y1 y2 y3 y4 y5 y6
              go_wp2_with fail
              exact bodyPost_ret (v := .tuple #[.agg #[.int .i64 (x0 : Int), .int .i64 (x1 : Int), .int .i64 (L : Int), .int .i64 0, .int .i64 0, .slice none 0 0, .slice va1 i va2], .agg #[.int .i64 0, .int .i64 (-1)]]) (by simp [results, Tryz.results147, go_sem, d0, d1, d2, d3, d4, d5, d6, d7, d8]) rfl (by
                refine ⟨?_, hst7.low.trans (hp3.toBelow (by have := hst7.low.size; omega) (fun k hk q => by omega))⟩
                rw [HF2.out, if_neg hq1]
                have h1 := own_of_block hown (fun g hg => (Below.undrew hb7).block g (hown.lt g hg).2)
                have h2 := hp3.own h1 (fun g hg q => by have := (h1.lt g hg).1; omega)
                rw [HMM.out] at h2 ⊢
                exact ⟨va1, va2, rfl, own_base2 h2 (by omega)⟩)

end Go.Proofs.YtjabhnhejbhgjaaGreatDoor
