import Derived.Test.YtjabhnhejbhgjaaGreatDoorMany2
import Derived.Test.YtjabhnhejbhgjaaGreatDoorMany3
import Derived.Deep.QuietTactic
import Derived.BigQuiet
import Derived.Laws.CopyOwn
import Derived.Deep.AppendLies
import Derived.Deep.DeepAppendWide
/- told: an error by number and place. -/
namespace Go.Proofs.YtjabhnhejbhgjaaGreatDoor
open Go.RowKit

theorem bcells {W w1 : World} (hb : Below W.heap.size W w1) : (∀ b o, b < W.heap.size → w1.cell? ⟨b, o, none⟩ = W.cell? ⟨b, o, none⟩) ∧ (∀ b o, b < W.heap.size → w1.frozen? ⟨b, o, none⟩ = W.frozen? ⟨b, o, none⟩) :=
  ⟨fun b o h => hb.cell (p := ⟨b, o, none⟩) h, fun b o h => hb.frozen (p := ⟨b, o, none⟩) h⟩

theorem Tryz.assertBadNot (v : Value) (w : World) : (Instr.typeAssert (.iface 269 v) 45 166 true).run Tryz.prog w = .ok (.tuple #[.pointer none, .bool false]) w := by kernel_rfl
theorem Tryz.assertBad (a : Addr) (w : World) : (Instr.typeAssert (.iface 166 (.pointer (some a))) 45 166 true).run Tryz.prog w = .ok (.tuple #[.pointer (some a), .bool true]) w := by kernel_rfl

set_option maxRecDepth 100000 in
set_option maxHeartbeats 400000 in
theorem told_nil (w : World) :
    Calls Tryz.prog 56 #[.nilIface] w fun e w' => e = .returned (.agg #[.int .i64 0, .int .i64 (-1)]) ∧ Below w.heap.size w w' := by
  go_enter Tryz.func56, Tryz.ntmps56
  go_wp2_with fail
  (try simp only [Exit.inBlock, Exit.then])
  exact bodyPost_ret (v := .agg #[.int .i64 0, .int .i64 (-1)]) (by simp [results, Tryz.results56, go_sem]) rfl ⟨rfl, (Below.refl _ _).alloc (Nat.le_refl _) _⟩

set_option maxRecDepth 100000 in
set_option maxHeartbeats 400000 in
theorem told_err (A : Nat → Addr) (B : Nat) (i : Nat) (hi : i < 8) (w : World) (hE : Errs A B w) :
    Calls Tryz.prog 56 #[E A (i + 1)] w fun e w' => e = .returned (.agg #[.int .i64 ((i : Int) + 1), .int .i64 (-1)]) ∧ Below w.heap.size w w' := by
  have hN := fun w1 h1 => number_any A B i hi w1 h1
  have hT := Tryz.assertBadNot
  rw [E_succ] at hN ⊢
  go_enter Tryz.func56, Tryz.ntmps56
  go_wp2_with fail
  refine (hN _ ?_).mono ?_
  · exact hE.shrink _ ((Below.refl _ _).alloc (Nat.le_refl _) _)
  rintro e w' ⟨rfl, hb⟩
  obtain ⟨hc, hf⟩ := bcells hb
  go_wp2_with fail
  exact bodyPost_ret (v := .agg #[.int .i64 ((i : Int) + 1), .int .i64 (-1)]) (by simp [results, Tryz.results56, go_sem, hc]) rfl ⟨rfl, ((((Below.refl _ _).alloc (Nat.le_refl _) _).trans (hb.mono (by simp))).setCell (by simp) _).setCell (by simp) _⟩

end Go.Proofs.YtjabhnhejbhgjaaGreatDoor

/- sameList. -/
namespace Go.Proofs.YtjabhnhejbhgjaaGreatDoor
open Go.RowKit

theorem RawIn.conv {w : World} {r : Raw} (h : RawIn w r) (nq : Nat) : (convert 33 9 r.v).run Tryz.prog (w.drewN nq) = .ok (.string (str r.l)) (w.drewN nq) := by
  obtain ⟨a, c, h1, h2⟩ := h
  rw [h1]
  by_cases hl : 0 < r.l.length
  · obtain ⟨b, o, rfl, h4⟩ := h2 hl
    exact h4.convN _ c rfl nq
  · have e : r.l = [] := List.length_eq_zero_iff.1 (by omega)
    rw [e]
    show (convert 33 9 (.slice a 0 c)).run Tryz.prog (w.drewN nq) = .ok (.string ByteArray.empty) (w.drewN nq)
    rw [run_convert_bytes_string _ _ _ _ _ _ _ Tryz.underlying33 Tryz.underlying5 Tryz.underlying9]
    cases a with
    | none => rfl
    | some a => simp [Conv.bytesToString, loadCells]; rfl

def sameB (rs us : List Raw) (n : Nat) : Bool := decide (∀ i, i < n → str (wat rs i).l = str (wat us i).l)

end Go.Proofs.YtjabhnhejbhgjaaGreatDoor

/- Hands in memory; append, and what it leaves alone. -/
namespace Go.Proofs.YtjabhnhejbhgjaaGreatDoor
open Go.RowKit

/-- Nothing of w but S has turned. -/
structure But (S : Nat → Prop) (w w' : World) : Prop where
  os : w'.os = w.os
  tape : w'.tape = w.tape
  output : w'.output = w.output
  size : w.heap.size ≤ w'.heap.size
  block : ∀ k, k < w.heap.size → ¬ S k → w'.heap[k]? = w.heap[k]?

theorem But.refl (S : Nat → Prop) (w : World) : But S w w := ⟨rfl, rfl, rfl, Nat.le_refl _, fun _ _ _ => rfl⟩
theorem But.trans {S : Nat → Prop} {a b c : World} (h : But S a b) (k : But S b c) : But S a c :=
  ⟨k.os.trans h.os, k.tape.trans h.tape, k.output.trans h.output, Nat.le_trans h.size k.size, fun i hi hn => (k.block i (Nat.lt_of_lt_of_le hi h.size) hn).trans (h.block i hi hn)⟩
theorem But.wide {S T : Nat → Prop} {a b : World} (h : But S a b) (hT : ∀ k, k < a.heap.size → S k → T k) : But T a b :=
  ⟨h.os, h.tape, h.output, h.size, fun k hk hn => h.block k hk (fun q => hn (hT k hk q))⟩
/-- What comes behind may turn what is new, too. -/
theorem But.then {S T : Nat → Prop} {a b c : World} (h : But S a b) (k : But T b c) (hT : ∀ i, i < a.heap.size → T i → S i) : But S a c :=
  ⟨k.os.trans h.os, k.tape.trans h.tape, k.output.trans h.output, Nat.le_trans h.size k.size, fun i hi hn => (k.block i (Nat.lt_of_lt_of_le hi h.size) (fun q => hn (hT i hi q))).trans (h.block i hi hn)⟩
theorem But.below {S : Nat → Prop} {a b c : World} {B : Nat} (h : But S a b) (k : Below B b c) (hB : ∀ i, i < a.heap.size → ¬ i < B → S i) : But S a c :=
  ⟨k.os.trans h.os, k.tape.trans h.tape, k.output.trans h.output, Nat.le_trans h.size k.size, fun i hi hn => by
    by_cases q : i < B
    · exact (k.block i q).trans (h.block i hi hn)
    · exact absurd (hB i hi q) hn⟩
theorem But.alloc {S : Nat → Prop} {a b : World} (h : But S a b) (o : Obj) : But S a (b.alloc o) :=
  ⟨h.os, h.tape, h.output, by have := h.size; simp; omega, fun k hk hn => by rw [Below.heap_alloc _ _ _ (Nat.lt_of_lt_of_le hk h.size)]; exact h.block k hk hn⟩
theorem But.setCell {S : Nat → Prop} {a b : World} (h : But S a b) {p : Addr} (hp : S p.block ∨ a.heap.size ≤ p.block) (u : Value) : But S a (b.setCell p u) :=
  ⟨h.os, h.tape, h.output, by have := h.size; simp; omega, fun k hk hn => by
    rw [Below.heap_setCell _ _ _ _ (fun q => by subst q; rcases hp with hp | hp; exact hn hp; omega)]; exact h.block k hk hn⟩
theorem But.grown {S : Nat → Prop} {a b c : World} {row : Option Nat} (h : But S a b) (hg : b.grownBy c row) (hr : ∀ k, row = some k → S k ∨ a.heap.size ≤ k) : But S a c :=
  ⟨hg.os.trans h.os, hg.tape.trans h.tape, hg.output.trans h.output, Nat.le_trans h.size hg.size, fun k hk hn => by
    rw [grown_block hg (Nat.lt_of_lt_of_le hk h.size) (fun q => by rcases hr k q with q | q; exact hn q; omega)]; exact h.block k hk hn⟩
theorem But.drew {S : Nat → Prop} {a b : World} (h : But S a b) : But S a b.drew := ⟨h.os, h.tape, h.output, h.size, h.block⟩
theorem Below.but {B : Nat} {a b : World} (h : Below B a b) (S : Nat → Prop) (hB : ∀ i, i < a.heap.size → ¬ i < B → S i) : But S a b := (But.refl S a).below h hB
theorem But.toBelow {S : Nat → Prop} {a b : World} (h : But S a b) {B : Nat} (hB : B ≤ a.heap.size) (hS : ∀ k, k < B → ¬ S k) : Below B a b :=
  ⟨h.os, h.tape, h.output, h.size, fun k hk => h.block k (by omega) (hS k hk)⟩
theorem But.own {S : Nat → Prop} {a b : World} (h : But S a b) {B n sz : Nat} {e : TypeId} {v : Value} {xs : List Value} (ho : a.ownsRow B e sz v n xs) (hn : ∀ g, v.ownBlock = some g → ¬ S g) : b.ownsRow B e sz v n xs :=
  own_of_block ho (fun g hg => h.block g (ho.lt g hg).2 (hn g hg))

/-- The block of a list that is owned, by its elements' make. -/
theorem own_block {w : World} {B n sz : Nat} {e : TypeId} {v : Value} {xs : List Value} (h : w.ownsRow B e sz v n xs) {g : Nat} (hg : v.ownBlock = some g) : ∃ cur, w.heap[g]? = some (.cells cur e (0, 0)) := by
  rcases h.2 with ⟨rfl, _⟩ | ⟨g', cap, cur, rfl, _, hh, _⟩
  · simp [Value.ownBlock] at hg
  · simp [Value.ownBlock] at hg
    subst hg
    exact ⟨cur, hh⟩

theorem own_ne {w : World} {B n sz g k : Nat} {e t : TypeId} {v : Value} {xs : List Value} {cs : Array Value} {fr : Nat × Nat} (h : w.ownsRow B e sz v n xs) (hg : v.ownBlock = some g) (hk : w.heap[k]? = some (.cells cs t fr)) (hne : e ≠ t) : g ≠ k := by
  intro q
  subst q
  obtain ⟨cur, hc⟩ := own_block h hg
  rw [hc] at hk
  simp only [Option.some.injEq, Obj.cells.injEq] at hk
  exact hne hk.2.1

structure HS where
  sv : Value
  rv : Value
  in_ : Value
  rows : Value
  ints : Value
  iwant : Value
  n : Int
  out : Value
  marks : Value
  outer : Value
  omarks : Value
  lacks : Value
  lmarks : Value
  objs : Value
  bmarks : Value

def HS.cells (s : HS) : Array Value := #[s.sv, s.rv, s.in_, s.rows, s.ints, s.iwant, .int .i64 s.n, s.out, s.marks, s.outer, s.omarks, s.lacks, s.lmarks, s.objs, s.bmarks]

/-- Hands, at block hb. -/
def HAt (w : World) (hb : Nat) (s : HS) : Prop := w.heap[hb]? = some (.cells s.cells 81 (0, 0))

theorem HAt.lt {w : World} {hb : Nat} {s : HS} (h : HAt w hb s) : hb < w.heap.size := (Array.getElem?_eq_some_iff.1 h).1
theorem HAt.cell {w : World} {hb : Nat} {s : HS} (h : HAt w hb s) (i : Nat) : w.cell? ⟨hb, i + 2, none⟩ = s.cells[i + 2]? := cell_of_row w hb (i + 2) _ _ _ h
theorem HAt.frozen {w : World} {hb : Nat} {s : HS} (h : HAt w hb s) (i : Nat) : w.frozen? ⟨hb, i, none⟩ = false := frozen_of_row w hb i _ _ h
theorem HAt.kept {w w' : World} {hb : Nat} {s : HS} (h : HAt w hb s) (hk : w'.heap[hb]? = w.heap[hb]?) : HAt w' hb s := by unfold HAt; rw [hk]; exact h
theorem HAt.set0 {w : World} {hb : Nat} {s : HS} (h : HAt w hb s) (v : Value) : HAt (w.setCell ⟨hb, 2, none⟩ v) hb { s with in_ := v } := by unfold HAt; rw [heap_setCell_same w hb 2 _ _ _ h]; rfl
theorem HAt.set1 {w : World} {hb : Nat} {s : HS} (h : HAt w hb s) (v : Value) : HAt (w.setCell ⟨hb, 3, none⟩ v) hb { s with rows := v } := by unfold HAt; rw [heap_setCell_same w hb 3 _ _ _ h]; rfl
theorem HAt.set2 {w : World} {hb : Nat} {s : HS} (h : HAt w hb s) (v : Value) : HAt (w.setCell ⟨hb, 4, none⟩ v) hb { s with ints := v } := by unfold HAt; rw [heap_setCell_same w hb 4 _ _ _ h]; rfl
theorem HAt.set3 {w : World} {hb : Nat} {s : HS} (h : HAt w hb s) (v : Value) : HAt (w.setCell ⟨hb, 5, none⟩ v) hb { s with iwant := v } := by unfold HAt; rw [heap_setCell_same w hb 5 _ _ _ h]; rfl
theorem HAt.set4 {w : World} {hb : Nat} {s : HS} (h : HAt w hb s) (v : Int) : HAt (w.setCell ⟨hb, 6, none⟩ (.int .i64 v)) hb { s with n := v } := by unfold HAt; rw [heap_setCell_same w hb 6 _ _ _ h]; rfl
theorem HAt.set5 {w : World} {hb : Nat} {s : HS} (h : HAt w hb s) (v : Value) : HAt (w.setCell ⟨hb, 7, none⟩ v) hb { s with out := v } := by unfold HAt; rw [heap_setCell_same w hb 7 _ _ _ h]; rfl
theorem HAt.set6 {w : World} {hb : Nat} {s : HS} (h : HAt w hb s) (v : Value) : HAt (w.setCell ⟨hb, 8, none⟩ v) hb { s with marks := v } := by unfold HAt; rw [heap_setCell_same w hb 8 _ _ _ h]; rfl
theorem HAt.set7 {w : World} {hb : Nat} {s : HS} (h : HAt w hb s) (v : Value) : HAt (w.setCell ⟨hb, 9, none⟩ v) hb { s with outer := v } := by unfold HAt; rw [heap_setCell_same w hb 9 _ _ _ h]; rfl
theorem HAt.set8 {w : World} {hb : Nat} {s : HS} (h : HAt w hb s) (v : Value) : HAt (w.setCell ⟨hb, 10, none⟩ v) hb { s with omarks := v } := by unfold HAt; rw [heap_setCell_same w hb 10 _ _ _ h]; rfl

theorem Blk.kept {w w' : World} {g : Nat} {l : List Gf.F} (h : Blk w g l) (hk : w'.heap[g]? = w.heap[g]?) : Blk w' g l := by unfold Blk; rw [hk]; exact h

theorem Tryz.info_lent : (Tryz.prog.info? 221).map (fun i => (i.zero, i.size, i.bytes)) = some (some (.agg #[.slice none 0 0, .slice none 0 0]), 2, 48) := by kernel_rfl
theorem Tryz.lent_parts : ∃ i, Tryz.prog.info? 221 = some i ∧ i.zero = some (.agg #[.slice none 0 0, .slice none 0 0]) ∧ i.size = 2 ∧ i.bytes = 48 := by
  obtain ⟨i, hi, h⟩ := Option.map_eq_some_iff.1 Tryz.info_lent
  simp only [Prod.mk.injEq] at h
  exact ⟨i, hi, h.1, h.2.1, h.2.2⟩

/-- append that lays its list anew leaves the old one alone. -/
theorem run_append_apart (w : World) (t ty : TypeId) (base : Nat) (e : TypeId) (i : TypeInfo) (z : Value) (size bytes : Nat) (ht : Tryz.prog.underlying t = some (.slice e)) (hi : Tryz.prog.info? e = some i) (hz : i.zero = some z)
    (hsize : i.size = size) (hby : i.bytes = bytes) (hzs : z.cells.size = size) (hsz : 0 < size) (v : Value) (n : Nat) (xs : List Value) (hown : w.ownsRow base e size v n xs)
    (ad : Addr) (m c : Nat) (news : List Value) (hl : news.length = m * size) (hnews : ∀ j u, news[j]? = some u → w.cell? (ad.add j) = some u) (h1 : ∀ u ∈ news, u.oneCell' = true)
    (hm : 0 < m) (h63 : n + m ≤ maxLen) (hbytes : ((n + m) + (n + m) / 4 + 192) * bytes ≤ 281474976710656) (hbytes2 : (n + m) * bytes ≤ 140737488355328) (hbase : base ≤ w.heap.size) :
    ∃ g cap w', (Builtin.append_ #[t, t] ty #[v, .slice (some ad) m c]).run Tryz.prog w = .ok (.slice (some ⟨g, 0, none⟩) (n + m) cap) w' ∧
      w'.ownsRow base e size (.slice (some ⟨g, 0, none⟩) (n + m) cap) (n + m) (xs ++ news) ∧ w.grownBy w' v.ownBlock ∧ (v.ownBlock = some g ∨ g = w.heap.size ∧ ∀ k, k < w.heap.size → w'.heap[k]? = w.heap[k]?) ∧ g < w'.heap.size := by
  obtain ⟨g, cap, w', hr, h2, h3, h4, h5⟩ := run_append_lies (P := Tryz.prog) w t ty base e i z size bytes ht hi hz hsize hby hzs hsz v n xs hown ad m c news hl hnews h1 hm h63 hbytes2 hbase w.heap.size rfl
  refine ⟨g, cap, w', hr, h2, h3, ?_, h5⟩
  rcases h4 with h4 | h4
  · exact .inl h4
  · subst hsize
    subst hby
    rcases hown.2 with ⟨rfl, rfl⟩ | ⟨g0, cap0, cur, rfl, hb0, hg0, hnc, hcm, hcs, htake⟩
    · exact .inr ⟨h4, fun k hk => h3.block k hk (by simp [Value.ownBlock])⟩
    · by_cases hroom : n + m ≤ cap0
      · have hfit : n * i.size + news.length ≤ cur.size := by rw [hl, hcs, ← Nat.add_mul]; exact Nat.mul_le_mul_right _ hroom
        have hr2 := run_append_room (P := Tryz.prog) w t ty e i ht hi g0 n cap0 cur hg0 ad m c news hl hnews h1 hroom hfit
        rw [hr2] at hr
        simp only [Result.ok.injEq, Value.slice.injEq, Option.some.injEq, Addr.mk.injEq] at hr
        exact .inl (by rw [← hr.1.1.1]; rfl)
      · have hr2 := run_append_grow (P := Tryz.prog) w t ty e i z ht hi hz ⟨g0, 0, none⟩ n cap0 xs hown.1 (hown.cells (g := g0) rfl) ad m c news hl hnews (by omega) (by simp only [maxLen] at h63; omega) (growslice_fits_wide (by omega) hbytes)
        rw [hr2] at hr
        simp only [Result.ok.injEq] at hr
        exact .inr ⟨h4, fun k hk => by rw [← hr.2]; exact Below.heap_alloc w.drew _ k hk⟩

theorem wpList_append_apart {w : World} {ops : Array Oper} {rest : List Oper} {o : Oper} {a : Act} {Q : Exit → Act → World → Prop} (hgd : o.guard = none) (s x : Operand) (t : TypeId) (ho : o.op = .call { callee := .builtin .append, args := #[s, x], argTypes := #[t, t] })
    (base : Nat) (e : TypeId) (i : TypeInfo) (z : Value) (size bytes : Nat) (ht : Tryz.prog.underlying t = some (.slice e)) (hi : Tryz.prog.info? e = some i) (hz : i.zero = some z)
    (hsize : i.size = size) (hby : i.bytes = bytes) (hzs : z.cells.size = size) (hsz : 0 < size) (v : Value) (n : Nat) (xs : List Value) (hs : a.eval s = v) (hown : w.ownsRow base e size v n xs)
    (ad : Addr) (m c : Nat) (news : List Value) (hx : a.eval x = .slice (some ad) m c) (hl : news.length = m * size) (hnews : ∀ j u, news[j]? = some u → w.cell? (ad.add j) = some u) (h1 : ∀ u ∈ news, u.oneCell' = true)
    (hm : 0 < m) (h63 : n + m ≤ maxLen) (hbytes : ((n + m) + (n + m) / 4 + 192) * bytes ≤ 281474976710656) (hbytes2 : (n + m) * bytes ≤ 140737488355328) (hbase : base ≤ w.heap.size)
    (h : ∀ g cap w', w'.ownsRow base e size (.slice (some ⟨g, 0, none⟩) (n + m) cap) (n + m) (xs ++ news) → w.grownBy w' v.ownBlock → (v.ownBlock = some g ∨ g = w.heap.size ∧ ∀ k, k < w.heap.size → w'.heap[k]? = w.heap[k]?) → g < w'.heap.size → wpList Tryz.prog ops Q rest (a.put o.dst (.slice (some ⟨g, 0, none⟩) (n + m) cap)) w') : wpList Tryz.prog ops Q (o :: rest) a w :=
  wpList_plain hgd fun _ hK => by
    obtain ⟨g, cap, w', hr, h2, h3, h4, h5⟩ := run_append_apart w t o.type base e i z size bytes ht hi hz hsize hby hzs hsz v n xs hown ad m c news hl hnews h1 hm h63 hbytes hbytes2 hbase
    unfold Oper.wp execOp
    simp only [ho, resolve, invoke, builtin, Sem.run_bind, Sem.run_pure, Result.andThen_ok, List.map_toArray, List.map_cons, List.map_nil, hs, hx, hr]
    exact hK _ _ (h g cap w' h2 h3 h4 h5)

end Go.Proofs.YtjabhnhejbhgjaaGreatDoor
