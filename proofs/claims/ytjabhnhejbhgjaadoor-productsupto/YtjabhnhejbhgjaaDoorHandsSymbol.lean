/- Hands.symbol. -/
import Derived.Test.YtjabhnhejbhgjaaDoorHandsSym
namespace Go.Proofs.YtjabhnhejbhgjaaDoor
open Go.RowKit

theorem LOk.but {w w' : World} {v : Value} {n m : Nat} {S : Nat → Prop} (h : LOk w v n m) (hb : But S w w') (hn : ∀ g, v.ownBlock = some g → ¬ S g) (h8 : ∀ g cs, w.heap[g]? = some (.cells cs 5 (0, 0)) → ¬ S g) : LOk w' v n m := by
  rcases h with h | ⟨g, c, cs, h1, h2, h3⟩
  · exact .inl h
  · refine .inr ⟨g, c, cs, h1, by rw [hb.block g (Array.getElem?_eq_some_iff.1 h2).1 (hn g (by rw [h1]; rfl))]; exact h2, fun j hj => ?_⟩
    obtain ⟨u, q1, gu, q2, q3⟩ := h3 j hj
    exact ⟨u, q1, gu, q2, by rw [hb.block gu (Array.getElem?_eq_some_iff.1 q3).1 (h8 gu _ q3)]; exact q3⟩

theorem Outers.but {w w' : World} {B : Nat} {vo vm : Value} {ls : List EntL} {S : Nat → Prop} (h : Outers w B vo vm ls) (hb : But S w w') (h1 : ∀ g, vo.ownBlock = some g → ¬ S g) (h2 : ∀ g, vm.ownBlock = some g → ¬ S g) (h3 : ∀ e ∈ ls, ∀ g, e.v.ownBlock = some g → ¬ S g)
    (h8 : ∀ g cs, w.heap[g]? = some (.cells cs 5 (0, 0)) → ¬ S g) : Outers w' B vo vm ls :=
  ⟨hb.own h.own h1, hb.own h.marks h2, fun e he => ⟨(h.each e he).1.but hb (h3 e he) h8, (h.each e he).2⟩⟩

theorem LOk.lt {w : World} {v : Value} {n m g : Nat} (h : LOk w v n m) (hg : v.ownBlock = some g) : g < w.heap.size ∧ ∃ cs, w.heap[g]? = some (.cells cs 33 (0, 0)) := by
  rcases h with ⟨c, h1, _⟩ | ⟨g', c, cs, h1, h2, h3⟩
  · rw [h1] at hg; simp [Value.ownBlock] at hg
  · rw [h1] at hg
    simp [Value.ownBlock] at hg
    subst hg
    exact ⟨(Array.getElem?_eq_some_iff.1 h2).1, cs, h2⟩

/-- Hands between two calls. -/
structure Inv (A : Nat → Addr) (B0 : Nat) (w : World) (hb N : Nat) (s : HS) (es : List Ent) (ls : List EntL) : Prop where
  errs : Errs A B0 w
  low : B0 ≤ hb
  hands : HAt w hb s
  num : s.n = (N : Int)
  in0 : s.in_ = .slice none 0 0
  rows0 : s.rows = .slice none 0 0
  ints0 : s.ints = .slice none 0 0
  want0 : s.iwant = .slice none 0 0
  outs : Outs w hb s.out s.marks es
  outers : Outers w hb s.outer s.omarks ls
  lacks0 : s.lacks = .slice none 0 0
  objs0 : s.objs = .slice none 0 0
  apartM : ∀ g, s.marks.ownBlock = some g → s.omarks.ownBlock ≠ some g
  apartL : ∀ e ∈ ls, ∀ g, e.v.ownBlock = some g → s.out.ownBlock ≠ some g

theorem Inv.drewN {A : Nat → Addr} {B0 : Nat} {w : World} {hb N : Nat} {s : HS} {es : List Ent} {ls : List EntL} (h : Inv A B0 w hb N s es ls) (nq : Nat) : Inv A B0 (w.drewN nq) hb N s es ls :=
  ⟨h.errs.below ⟨rfl, rfl, rfl, Nat.le_refl _, fun _ _ => rfl⟩, h.low, h.hands, h.num, h.in0, h.rows0, h.ints0, h.want0, ⟨h.outs.own, h.outs.marks, h.outs.each⟩, ⟨h.outers.own, h.outers.marks, h.outers.each⟩, h.lacks0, h.objs0, h.apartM, h.apartL⟩

/-- What was kept before stays, where only Hands and its two lists turn. -/
theorem Inv.outersKept {A : Nat → Addr} {B0 : Nat} {w w' : World} {hb N : Nat} {s : HS} {es : List Ent} {ls : List EntL} (h : Inv A B0 w hb N s es ls) (hb' : But (fun b => b = hb ∨ s.out.ownBlock = some b ∨ s.marks.ownBlock = some b) w w') : Outers w' hb s.outer s.omarks ls := by
  refine h.outers.but hb' (fun g hg q => ?_) (fun g hg q => ?_) (fun e he g hg q => ?_) (fun g cs hc q => ?_)
  · rcases q with q | q | q
    · exact own_ne h.outers.own hg h.hands (by decide) q
    · exact own_own_ne h.outers.own h.outs.own (by decide) g hg q
    · exact own_own_ne h.outers.own h.outs.marks (by decide) g hg q
  · rcases q with q | q | q
    · exact own_ne h.outers.marks hg h.hands (by decide) q
    · exact own_own_ne h.outers.marks h.outs.own (by decide) g hg q
    · exact h.apartM g q hg
  · obtain ⟨_, cs, hc⟩ := (h.outers.each e he).1.lt hg
    rcases q with q | q | q
    · have hh := h.hands
      unfold HAt at hh
      rw [q, hh] at hc
      simp only [Option.some.injEq, Obj.cells.injEq] at hc
      exact absurd hc.2.1 (by decide)
    · exact h.apartL e he g hg q
    · exact own_ne h.outs.marks q hc (by decide) rfl
  · rcases q with q | q | q
    · have hh := h.hands
      unfold HAt at hh
      rw [q, hh] at hc
      simp only [Option.some.injEq, Obj.cells.injEq] at hc
      exact absurd hc.2.1 (by decide)
    · exact own_ne h.outs.own q hc (by decide) rfl
    · exact own_ne h.outs.marks q hc (by decide) rfl

/-- A list of rows of the caller, made ahead of Hands. -/
structure Came (w : World) (hb : Nat) (al : Option Addr) (lb lo n : Nat) (rs : List Raw) : Prop where
  len : rs.length = n
  few : n ≤ 1048576
  small : ∀ i, i < n → (wat rs i).l.length ≤ 14073748835000
  adr : 0 < n → al = some ⟨lb, lo, none⟩
  ws : Ws w lb lo rs
  lbLow : lb < hb
  rowLow : ∀ i, i < n → 0 < (wat rs i).l.length → ∀ g, (wat rs i).v.ownBlock = some g → g < hb

theorem Came.but {w w' : World} {hb lb lo n : Nat} {al : Option Addr} {rs : List Raw} {S : Nat → Prop} (h : Came w hb al lb lo n rs) (hb' : But S w w') (hS : ∀ b, S b → hb ≤ b) : Came w' hb al lb lo n rs :=
  ⟨h.len, h.few, h.small, h.adr, h.ws.but hb' (fun q => by have := hS _ q; have := h.lbLow; omega) (fun i hi h0 g hg q => by have := hS _ q; have := h.rowLow i (by rw [← h.len]; exact hi) h0 g hg; omega), h.lbLow, h.rowLow⟩

theorem told_code (A : Nat → Addr) (B0 c : Nat) (hc : c = 0 ∨ c = 2) (w : World) (hE : Errs A B0 w) :
    Calls Tryd.prog 30 #[E A c] w fun e w' => e = .returned (.agg #[.int .i64 (c : Int), .int .i64 (-1)]) ∧ Below w.heap.size w w' := by
  rcases hc with rfl | rfl
  · exact told_nil w
  · exact told_err A B0 1 (by omega) w hE

theorem own_raw {w : World} {B n : Nat} {v : Value} {l : List Gf.F} (h : w.ownsRow B 5 1 v n (encL l)) (hl : l.length = n) : RawIn w ⟨v, l⟩ := by
  obtain ⟨a, c, hv⟩ := own_len h
  refine ⟨a, c, by rw [hl]; exact hv, fun h0 => ?_⟩
  obtain ⟨g, c', hv', _⟩ := h.form (by rw [← hl]; exact h0)
  rw [hv] at hv'
  simp only [Value.slice.injEq] at hv'
  refine ⟨g, 0, hv'.1, ?_⟩
  rw [hv, hv'.1] at h
  exact own_bs h hl

theorem HS.nil4 (s : HS) (h1 : s.in_ = .slice none 0 0) (h2 : s.rows = .slice none 0 0) (h3 : s.ints = .slice none 0 0) (h4 : s.iwant = .slice none 0 0) : ({ s with in_ := .slice none 0 0, rows := .slice none 0 0, ints := .slice none 0 0, iwant := .slice none 0 0 } : HS) = s := by
  cases s; cases h1; cases h2; cases h3; cases h4; rfl

theorem ansC_code (rs : List Raw) (n : Nat) (z : Int) : ansC rs n z = 0 ∨ ansC rs n z = 2 := by
  unfold ansC; split
  · exact .inl rfl
  · exact .inr rfl

theorem ansL_small {rs : List Raw} {n : Nat} {z : Int} (h : ∀ i, i < n → (wat rs i).l.length ≤ 14073748835000) : (ansL rs n z).length ≤ 14073748835000 := by
  unfold ansL
  split
  · rename_i hg
    rw [symR_length]
    refine h 0 ?_
    unfold goodS at hg
    cases h1 : cntB (n : Int)
    · rw [h1] at hg; simp at hg
    · have := cntB_range h1; omega
  · simp

set_option maxRecDepth 100000 in
set_option maxHeartbeats 2000000 in
theorem symbol_any (A : Nat → Addr) (B0 hb N lb lo lc n : Nat) (al : Option Addr) (rs : List Raw) (z : Int) (s : HS) (es : List Ent) (ls : List EntL) (w : World) (hI : Inv A B0 w hb N s es ls) (hC : Came w hb al lb lo n rs) (hN : N ≤ 1000000000) (hes : es.length ≤ 999990) (hls : ls.length ≤ 1000000) :
    Calls Tryd.prog 12 #[.pointer (some ⟨hb, 0, none⟩), .slice al n lc, .int .i64 z] w fun e w' =>
      e = .returned (.bool true) ∧ ∃ s' es', Inv A B0 w' hb (N + 1) s' (es ++ es') ls ∧ es'.length = 4 ∧ Below hb w w' := by
  have hbl := hI.hands.lt
  go_enter Tryd.func12, Tryd.ntmps12
  go_wp2_with fail
  refine (list_any al hb lb lo lc n s rs w hC.len hC.few (fun i hi => by have := hC.small i hi; omega) hC.adr hC.ws (by have := hC.lbLow; omega) (fun i hi h0 q => by have := hC.rowLow i hi h0 hb q; omega) hI.hands hI.in0 hI.rows0).mono ?_
  rintro e w1 ⟨gs, v1, vr1, rfl, hL⟩
  have hE1 : Errs A B0 w1 := hI.errs.below (hL.but.toBelow hI.errs.size (fun k hk q => by have := hI.low; omega))
  have hgl : ∀ i, i < n → gat gs i < w1.heap.size := fun i hi => (hL.lent.blk i hi).lt
  have hs1 := hL.but.size
  go_wp2_with fail
  refine (progSym A B0 w.heap.size (n + 2) n rs gs z w1 hE1 hC.len hC.few (fun i hi => by have := hC.small i hi; omega) hL.rsIn hgl).mono ?_
  rintro e w2 ⟨va, rfl, hva, hb2⟩
  have hs2 := hb2.size
  go_wp2_with fail
  refine (back_any hb w.heap.size w1.heap.size n 1 0 w.heap.size 0 0 lb lo lc 0 0 0 al none { s with in_ := v1, rows := vr1 } rs gs [] w2 hC.few hbl (hL.hands.kept (hb2.block hb (by omega))) ?b1 hgl ?b2 ?b3 ?b4).mono ?_
  case b1 => exact hL.lent.kept (S := fun _ => False) (Below.but hb2 _ (fun i hi h => absurd hi h)) (fun _ _ q => q) (fun _ _ q => q)
  case b2 => exact fun i hi => ⟨(hC.ws i (by rw [hC.len]; exact hi)).2.but (hL.but.below hb2 (fun i hi h => absurd (Nat.lt_of_lt_of_le hi hs1) h)) (fun h0 g hg q => by have := hC.rowLow i hi h0 g hg; omega), by have := hC.small i hi; omega, fun h0 g hg => by have := hC.rowLow i hi h0 g hg; omega⟩
  case b3 =>
    have hX : w2.heap[w.heap.size]? = some (.cells (lendCells rs gs n n) 33 (0, 0)) := by rw [hb2.block _ (Array.getElem?_eq_some_iff.1 hL.list).1]; exact hL.list
    have hC2 := hC.but (hL.but.below hb2 (fun i hi h => absurd (Nat.lt_of_lt_of_le hi hs1) h)) (fun b q => by omega)
    exact ⟨Nat.le_refl _, own_of_block hL.rows (fun g hg => hb2.block g (hL.rows.lt g hg).2), fun _ => ⟨hX, Nat.le_refl _, (Array.getElem?_eq_some_iff.1 hL.list).1, by have := hC.lbLow; omega, hC.adr, fun i hi => (hC2.ws i (by rw [hC.len]; exact hi)).1⟩⟩
  case b4 => exact ⟨by omega, by show World.ownsRow _ _ _ _ s.ints _ _; rw [hI.ints0]; exact World.ownsRow_nil .., by show World.ownsRow _ _ _ _ s.iwant _ _; rw [hI.want0]; exact World.ownsRow_nil .., fun h => absurd h (by omega)⟩
  rintro e w3 ⟨rfl, hH3, hb3⟩
  have e4 := HS.nil4 s hI.in0 hI.rows0 hI.ints0 hI.want0
  have hH3' : HAt w3 hb s := by rw [← e4]; exact hH3
  have hbut2 : But (fun b => b = hb) w w2 := hL.but.below hb2 (fun i hi h => absurd (Nat.lt_of_lt_of_le hi hs1) h)
  have hbut3 : But (fun b => b = hb) w w3 := hbut2.then hb3 (fun b hlt q => by rcases q with q | q; exact q; omega)
  have hs3 := hb3.size
  have hva3 : w3.ownsRow w1.heap.size 5 1 va (ansL rs n z).length (encL (ansL rs n z)) := hb3.own hva (fun g hg q => by have := (hva.lt g hg).1; omega)
  have hC3 := hC.but hbut3 (fun b q => by omega)
  clear hH3 e4
  go_wp2_with fail
  refine (refSym al lb lo lc n rs z w3 hC.len hC.few (fun i hi => by have := hC.small i hi; omega) hC.adr hC3.ws).mono ?_
  rintro e w4 ⟨vw, rfl, hvw, hb4⟩
  have hs4 := hb4.size
  have hbut4 : But (fun b => b = hb) w w4 := hbut3.below hb4 (fun i hi h => absurd (Nat.lt_of_lt_of_le hi hbut3.size) h)
  have hva4 : w4.ownsRow w1.heap.size 5 1 va (ansL rs n z).length (encL (ansL rs n z)) := own_of_block hva3 (fun g hg => hb4.block g (hva3.lt g hg).2)
  have hE4 : Errs A B0 w4 := hI.errs.below (hbut4.toBelow hI.errs.size (fun k hk q => by have := hI.low; omega))
  have hq1 : (convert 33 9 va).run Tryd.prog w4 = .ok (.string (str (ansL rs n z))) w4 := (own_raw hva4 rfl).conv 0
  have hq2 : (convert 33 9 vw).run Tryd.prog w4 = .ok (.string (str (ansL rs n z))) w4 := (own_raw hvw rfl).conv 0
  have hss : ((str (ansL rs n z)).toList == (str (ansL rs n z)).toList) = true := by rw [beq_iff_eq]
  have hcode := ansC_code rs n z
  have hlenL := ansL_small (z := z) hC.small
  generalize hLL : ansL rs n z = L at *
  generalize hcc : ansC rs n z = c at *
  clear hLL hcc
  go_wp2_with fail
  refine (told_code A B0 c hcode _ hE4).mono ?_
  rintro e w5 ⟨rfl, hb5⟩
  have hs5 := hb5.size
  go_wp2_with fail
  have hbut5 : But (fun b => b = hb) w w5 := hbut4.below hb5 (fun i hi h => absurd (Nat.lt_of_lt_of_le hi hbut4.size) h)
  have hsz5 := hbut5.size
  have hH5 : HAt w5 hb s := (hH3'.kept (hb4.block hb hH3'.lt)).kept (hb5.block hb (Nat.lt_of_lt_of_le hH3'.lt hs4))
  have hO5 : Outs w5 hb s.out s.marks es := hI.outs.but hbut5 (fun g hg q => own_ne hI.outs.own hg hI.hands (by decide) q) (fun g hg q => own_ne hI.outs.marks hg hI.hands (by decide) q) (fun e he g hg q => (hI.outs.each e he).1.ne_hands hI.hands g hg q)
  have hva5 : w5.ownsRow w1.heap.size 5 1 va L.length (encL L) := own_of_block hva4 (fun g hg => hb5.block g (hva4.lt g hg).2)
  refine (keep_any hb hb w1.heap.size N L.length s es va (encL L) w5 hI.num hN hH5 hO5 (by omega) (by omega) (by omega) hva5 (by omega) (fun e he g hg q => by
    have h1 := ((hI.outs.each e he).1.lt q).1
    have h2 := (hva5.lt g hg).1
    omega)).mono ?_
  rintro e w6 ⟨rfl, es', vo, vm, hK⟩
  have hbut6 : But (fun b => b = hb ∨ s.out.ownBlock = some b ∨ s.marks.ownBlock = some b) w w6 := (hbut5.wide (fun b _ q => .inl q)).then hK.but (fun b hlt q => by
    rcases q with q | q | q | q
    · exact .inl q
    · exact .inr (.inl q)
    · exact .inr (.inr q)
    · have := (hva5.lt b q).1; omega)
  have hhigh : ∀ k, k < hb → ¬ (k = hb ∨ s.out.ownBlock = some k ∨ s.marks.ownBlock = some k) := fun k hk q => by
    rcases q with q | q | q
    · omega
    · have := (hI.outs.own.lt k q).1; omega
    · have := (hI.outs.marks.lt k q).1; omega
  have hlow : Below hb w w6 := hbut6.toBelow (by omega) hhigh
  have hI6 : Inv A B0 w6 hb (N + 1) { s with n := (N : Int) + 1, out := vo, marks := vm } (es ++ es') ls :=
    ⟨hI.errs.below (hlow.mono hI.low), hI.low, hK.hands, by show (N : Int) + 1 = _; omega, hI.in0, hI.rows0, hI.ints0, hI.want0, hK.outs, hI.outersKept hbut6, hI.lacks0, hI.objs0, fun g hg q => by
      rcases hK.marksAt g hg with p | p
      · exact hI.apartM g p q
      · have := (hI.outers.marks.lt g q).2; omega, fun e he g hg q => by
      rcases hK.outAt g q with p | p
      · exact hI.apartL e he g hg p
      · have := ((hI.outers.each e he).1.lt hg).1; omega⟩
  have hfour := hK.four
  clear hK
  go_wp2_with fail
  refine (holds_any hb hb _ (es ++ es') ls w6 hI6.hands hI6.outs hI6.outers (by rw [List.length_append]; omega) hls hI6.lacks0 hI6.objs0).mono ?_
  rintro e w7 ⟨rfl, nq, rfl⟩
  go_wp2_with fail
  go_ret
  exact ⟨rfl, _, es', hI6.drewN nq, hfour, hlow.trans ⟨rfl, rfl, rfl, Nat.le_refl _, fun _ _ => rfl⟩⟩

end Go.Proofs.YtjabhnhejbhgjaaDoor
