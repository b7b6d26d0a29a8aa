import Derived.Test.YtjabhnhejbhgjaaGreatDoorMany10
import Derived.Conc.LoneCalls
import Derived.Conc.LoneSelect
import Derived.KernelRfl
import Derived.Maps.OwnSet
import Derived.Lib.SliceRun
/- A receiver of the program: is it closed? -/
namespace Go.Proofs.YtjabhnhejbhgjaaGreatDoor
open Go.Conc Go.RowKit

set_option maxRecDepth 100000 in
set_option maxHeartbeats 1000000 in
theorem isClosed_no {rb d cap s r : Nat} {tm : Bool} {w : World} (c3 : w.cell? ⟨rb, 3, none⟩ = some (.chan (some d))) (hd : w.heap[d]? = some (.chan cap #[] false s r tm)) :
    Calls Tryz.prog 36 #[.pointer (some ⟨rb, 0, none⟩)] w fun e w' => e = .returned (.bool false) ∧ w' = w := by
  refine calls_of_loneTo fun cs => ?_
  have e : Frame.enter Tryz.prog 36 #[.pointer (some ⟨rb, 0, none⟩)] .normal = (base 36).at ⟨#[.pointer (some ⟨rb, 0, none⟩), undef, undef, undef, undef, undef, undef, undef, undef, undef], []⟩ [.code (Tryz.f36.body.getD .skip)] := by
    simp [Frame.enter, Frame.at, Tryz.func36, base, Tryz.f36]
  rw [e]
  refine LoneTo.goes (n := 13) ?_
  simp only [Tryz.f36, Option.getD_some]
  s_c stepG_seq
  s_reg
  s_op
  s_c stepG_region_end
  s_c stepG_seq
  s_reg
  s_op
  s_op
  s_op
  s_op
  s_c stepG_region_end
  s_c stepG_seq
  s_reg
  s_stop
  refine LoneTo.step (step_lone_select_default (c := d) (z := .agg #[]) (stepG_comm (cases := #[rcase d (.agg #[])]) (blocking := false) (shape := .select) (w' := w) rfl rfl (by decide) (by simp [go_sem, execOp, rcase, Act.eval])) hd) ?_
  rw [Frame.finish_at]
  walk_nrm
  refine LoneTo.goes (n := 11) ?_
  s_op
  s_op
  s_c stepG_region_end
  s_c stepG_block
  s_cond false
  s_c stepG_seq
  s_reg
  s_op
  s_c stepG_region_end
  s_c stepG_ret'
  s_stop
  exact LoneTo.done ⟨.returned (.bool false), _, rfl, ⟨rfl, rfl⟩, rfl, rfl, rfl, rfl, _, Tryz.func36, by simp [results, Tryz.f36, Frame.at]⟩

set_option maxRecDepth 100000 in
set_option maxHeartbeats 1000000 in
theorem isClosed_yes {rb d cap s r : Nat} {tm : Bool} {w : World} (c3 : w.cell? ⟨rb, 3, none⟩ = some (.chan (some d))) (hd : w.heap[d]? = some (.chan cap #[] true s r tm)) :
    Calls Tryz.prog 36 #[.pointer (some ⟨rb, 0, none⟩)] w fun e w' => e = .returned (.bool true) ∧ w' = w := by
  refine calls_of_loneTo fun cs => ?_
  have e : Frame.enter Tryz.prog 36 #[.pointer (some ⟨rb, 0, none⟩)] .normal = (base 36).at ⟨#[.pointer (some ⟨rb, 0, none⟩), undef, undef, undef, undef, undef, undef, undef, undef, undef], []⟩ [.code (Tryz.f36.body.getD .skip)] := by
    simp [Frame.enter, Frame.at, Tryz.func36, base, Tryz.f36]
  rw [e]
  refine LoneTo.goes (n := 13) ?_
  simp only [Tryz.f36, Option.getD_some]
  s_c stepG_seq
  s_reg
  s_op
  s_c stepG_region_end
  s_c stepG_seq
  s_reg
  s_op
  s_op
  s_op
  s_op
  s_c stepG_region_end
  s_c stepG_seq
  s_reg
  s_stop
  refine LoneTo.step (step_lone_select_recv_shut (c := d) (z := .agg #[]) (stepG_comm (cases := #[rcase d (.agg #[])]) (blocking := false) (shape := .select) (w' := w) rfl rfl (by decide) (by simp [go_sem, execOp, rcase, Act.eval])) hd) ?_
  rw [Frame.finish_at]
  walk_nrm
  refine LoneTo.goes (n := 11) ?_
  s_op
  s_op
  s_c stepG_region_end
  s_c stepG_block
  s_cond true
  s_c stepG_seq
  s_reg
  s_op
  s_c stepG_region_end
  s_c stepG_ret'
  s_stop
  exact LoneTo.done ⟨.returned (.bool true), _, rfl, ⟨rfl, rfl⟩, rfl, rfl, rfl, rfl, _, Tryz.func36, by simp [results, Tryz.f36, Frame.at]⟩

end Go.Proofs.YtjabhnhejbhgjaaGreatDoor

/- A receiver of the program in memory. -/
namespace Go.Proofs.YtjabhnhejbhgjaaGreatDoor
open Go.RowKit Go.Maps

/-- How a pointer to what is known reads in the map. -/
def ptrElem (v : Value) : Option (DataW Unit × List MemPlace) :=
  match v with
  | .pointer none => some (.nil, [])
  | .pointer (some ⟨b, 0, none⟩) => some (.lit (.int .i64 (b : Int)), [])
  | _ => none
theorem ptrElem_some (b : Nat) : ptrElem (.pointer (some ⟨b, 0, none⟩)) = some (.lit (.int .i64 (b : Int)), []) := rfl
theorem ptrElem_nil : ptrElem (.pointer none) = some (.nil, []) := rfl
theorem ptrElem_inv {v : Value} {ps : List MemPlace} : (ptrElem v = some (.nil, ps) → v = .pointer none) ∧ (∀ b : Nat, ptrElem v = some (.lit (.int .i64 (b : Int)), ps) → v = .pointer (some ⟨b, 0, none⟩)) := by
  unfold ptrElem
  refine ⟨fun h => ?_, fun b h => ?_⟩
  · split at h
    · rfl
    · simp at h
    · cases h
  · split at h
    · simp at h
    · simp at h
      obtain ⟨h, _⟩ := h
      have h' := Int.ofNat.inj h
      subst h'
      rfl
    · cases h
theorem Tryz.intKeyed : Keyed Tryz.prog 3 := int_keyed Tryz.underlying3
theorem int_wf {z : Int} (h : -9223372036854775808 ≤ z ∧ z ≤ 9223372036854775807) : (Lit.int .i64 z).wf = true := by
  simp [Lit.wf, IntKind.min, IntKind.max, IntKind.signed, IntKind.bits]
  omega

theorem World.ownsMap.tight {w : World} {b n : Nat} {D : DataW Unit} (h : w.ownsMap Tryz.prog 3 ptrElem b n D) : w.ownsMap Tryz.prog 3 ptrElem b (Maps.size D) D := by
  obtain ⟨es, clock, h1, h2, _, h4⟩ := h
  refine ⟨es, clock, h1, h2, ?_, h4⟩
  rw [h4, size_eq, length_read]
  exact Nat.le_refl _

/-- An object that was taken and is not told yet: its number, where its bytes lie. -/
structure Un where
  n : Nat
  g : Nat
  l : List Gf.F
def unVals (us : List Un) : List (Value × Value) := us.map fun u => (.int .i64 (u.n : Int), .slice (some ⟨u.g, 0, none⟩) u.l.length u.l.length)

/-- How many are there of the first n? -/
def cntF {α : Type} (f : Nat → Option α) : Nat → Nat
  | 0 => 0
  | n + 1 => cntF f n + (if (f n).isSome then 1 else 0)

/-- A receiver. -/
structure Rcv where
  K : Nat
  N : Nat
  S : Nat
  d : Nat
  mb : Nat
  kf : Nat → Option (Nat × Kn)
  tk : List Bool
  un : List Un
  uv : Value
  shut : Bool
def Rcv.cells (r : Rcv) : List Value := [.int .i64 (r.K : Int), .int .i64 (r.N : Int), .int .i64 (r.S : Int), .chan (some r.d), .map (some r.mb)] ++ r.tk.map Value.bool ++ [r.uv]

def Rcv.foot (r : Rcv) (rb b : Nat) : Prop := b = rb ∨ b = r.d ∨ b = r.mb ∨ r.uv.ownBlock = some b ∨ (∃ u ∈ r.un, b = u.g) ∨ ∃ m kb k, m < 16 ∧ r.kf m = some (kb, k) ∧ k.foot kb b

/-- How a number's place in the map reads. -/
def kfData (x : Option (Nat × Kn)) : DataW Unit := match x with
  | some (kb, _) => .lit (.int .i64 (kb : Int))
  | none => .nil

structure MapIs (D : DataW Unit) (kf : Nat → Option (Nat × Kn)) : Prop where
  has : ∀ m : Nat, m < 16 → Maps.has D (.int .i64 (m : Int)) = (kf m).isSome
  at_ : ∀ m : Nat, m < 16 → D.atKey (.int .i64 (m : Int)) .nil = kfData (kf m)
  size : Maps.size D = cntF kf 16

structure RcAt (w : World) (B rb : Nat) (r : Rcv) : Prop where
  low : B ≤ rb ∧ B ≤ r.d ∧ B ≤ r.mb
  blk : w.heap[rb]? = some (.cells r.cells.toArray 108 (0, 0))
  chan : w.heap[r.d]? = some (.chan 0 #[] r.shut 0 0 false)
  map : ∃ n D, w.ownsMap Tryz.prog 3 ptrElem r.mb n D ∧ MapIs D r.kf
  own : w.ownsRow B 136 2 r.uv r.un.length (flat2 (unVals r.un))
  objs : ∀ u ∈ r.un, B ≤ u.g ∧ (∃ cs, w.heap[u.g]? = some (.cells cs 5 (0, 0))) ∧ Bs w u.g 0 u.l
  known : ∀ m kb k, m < 16 → r.kf m = some (kb, k) → KAt w B kb k
  apart : ∀ m m' kb k kb' k', m < 16 → m' < 16 → m ≠ m' → r.kf m = some (kb, k) → r.kf m' = some (kb', k') → ∀ b, k.foot kb b → ¬ k'.foot kb' b
  apartU : ∀ u ∈ r.un, ∀ m kb k, m < 16 → r.kf m = some (kb, k) → ¬ k.foot kb u.g

/-- What may be. -/
structure Rcv.Ok (r : Rcv) : Prop where
  cfg : Cfg r.K r.N r.S
  tk : r.tk.length = 16
  un : r.un.length ≤ 16
  known : ∀ m kb k, m < 16 → r.kf m = some (kb, k) → k.Ok ∧ k.K = r.K ∧ k.N = r.N ∧ k.S = r.S
  few : cntF r.kf 16 ≤ 4

theorem mapLt {w : World} {b n : Nat} {D : DataW Unit} (h : w.ownsMap Tryz.prog 3 ptrElem b n D) : b < w.heap.size := by
  obtain ⟨es, clock, hb, _⟩ := h
  exact (Array.getElem?_eq_some_iff.1 hb).1
theorem RcAt.foot_lt {w : World} {B rb : Nat} {r : Rcv} (h : RcAt w B rb r) {b : Nat} (hb : r.foot rb b) : B ≤ b ∧ b < w.heap.size := by
  rcases hb with rfl | rfl | rfl | hb | ⟨u, hu, rfl⟩ | ⟨m, kb, k, hm, hk, hb⟩
  · exact ⟨h.low.1, lt_of_block h.blk⟩
  · exact ⟨h.low.2.1, (Array.getElem?_eq_some_iff.1 h.chan).1⟩
  · obtain ⟨n, D, hD, _⟩ := h.map
    exact ⟨h.low.2.2, mapLt hD⟩
  · exact h.own.lt b hb
  · obtain ⟨h1, ⟨cs, h2⟩, _⟩ := h.objs u hu
    exact ⟨h1, lt_of_block h2⟩
  · exact (h.known m kb k hm hk).foot_lt hb
theorem RcAt.kept {w w' : World} {B rb : Nat} {r : Rcv} (h : RcAt w B rb r) (hk : ∀ b, r.foot rb b → w'.heap[b]? = w.heap[b]?) : RcAt w' B rb r := by
  refine ⟨h.low, (hk rb (.inl rfl)).trans h.blk, (hk _ (.inr (.inl rfl))).trans h.chan, ?_, own_of_block h.own (fun g hg => hk g (.inr (.inr (.inr (.inl hg))))), fun u hu => ?_, fun m kb k hm he => (h.known m kb k hm he).kept (fun b q => hk b (.inr (.inr (.inr (.inr (.inr ⟨m, kb, k, hm, he, q⟩)))))), h.apart, h.apartU⟩
  · obtain ⟨n, D, ⟨es, clock, hb, hr⟩, hM⟩ := h.map
    exact ⟨n, D, ⟨es, clock, (hk _ (.inr (.inr (.inl rfl)))).trans hb, hr⟩, hM⟩
  · obtain ⟨h1, ⟨cs, h2⟩, h3⟩ := h.objs u hu
    have he := hk u.g (.inr (.inr (.inr (.inr (.inl ⟨u, hu, rfl⟩)))))
    refine ⟨h1, ⟨cs, he.trans h2⟩, fun i hi => ?_⟩
    have hc : w'.cell? ⟨u.g, 0 + i, none⟩ = w.cell? ⟨u.g, 0 + i, none⟩ := World.cell?_of_block (w := w) (a := ⟨u.g, 0 + i, none⟩) he
    rw [hc]
    exact h3 i hi
theorem RcAt.above {w w' : World} {B rb : Nat} {r : Rcv} (h : RcAt w B rb r) (hb : Below w.heap.size w w') : RcAt w' B rb r := h.kept (fun b q => hb.block b (h.foot_lt q).2)

theorem RcAt.cell {w : World} {B rb : Nat} {r : Rcv} (h : RcAt w B rb r) (i : Nat) : w.cell? ⟨rb, i, none⟩ = r.cells[i]? := by
  rw [cell_of_row w _ _ _ _ _ h.blk, List.getElem?_toArray]
theorem RcAt.head {w : World} {B rb : Nat} {r : Rcv} (h : RcAt w B rb r) : w.cell? ⟨rb, 0, none⟩ = some (.int .i64 (r.K : Int)) ∧ w.cell? ⟨rb, 1, none⟩ = some (.int .i64 (r.N : Int)) ∧ w.cell? ⟨rb, 2, none⟩ = some (.int .i64 (r.S : Int)) ∧ w.cell? ⟨rb, 3, none⟩ = some (.chan (some r.d)) ∧ w.cell? ⟨rb, 4, none⟩ = some (.map (some r.mb)) :=
  ⟨h.cell 0, h.cell 1, h.cell 2, h.cell 3, h.cell 4⟩
theorem RcAt.taken {w : World} {B rb m : Nat} {r : Rcv} (h : RcAt w B rb r) (hm : m < r.tk.length) : w.cell? ⟨rb, 5 + m, none⟩ = some (.bool (r.tk.getD m false)) := by
  rw [h.cell]
  unfold Rcv.cells
  rw [List.append_assoc, List.getElem?_append_right (by simp), List.getElem?_append_left (by simp; omega)]
  simp [hm, List.getD]
theorem RcAt.last {w : World} {B rb : Nat} {r : Rcv} (h : RcAt w B rb r) (ht : r.tk.length = 16) : w.cell? ⟨rb, 21, none⟩ = some r.uv := by
  rw [h.cell]
  unfold Rcv.cells
  rw [List.getElem?_append_right (by simp [ht])]
  simp [ht]

/-- isClosed. -/
theorem RcAt.isClosed {w : World} {B rb : Nat} {r : Rcv} (h : RcAt w B rb r) :
    Calls Tryz.prog 36 #[.pointer (some ⟨rb, 0, none⟩)] w fun e w' => e = .returned (.bool r.shut) ∧ w' = w := by
  have hc := h.chan
  obtain ⟨_, _, _, c3, _⟩ := h.head
  cases hs : r.shut with
  | false => rw [hs] at hc; exact isClosed_no c3 hc
  | true => rw [hs] at hc; exact isClosed_yes c3 hc

end Go.Proofs.YtjabhnhejbhgjaaGreatDoor

/- A receiver of the program: NewReceiver, Taken. -/
namespace Go.Proofs.YtjabhnhejbhgjaaGreatDoor
open Go.RowKit Go.Maps

/-- A receiver that knows nothing. -/
def rcv0 (K N S d mb : Nat) : Rcv := ⟨K, N, S, d, mb, fun _ => none, List.replicate 16 false, [], .slice none 0 0, false⟩
theorem cnt0 : ∀ n, cntF (fun _ => (none : Option (Nat × Kn))) n = 0
  | 0 => rfl
  | n + 1 => by rw [cntF, cnt0 n]; rfl
theorem rcv0_ok {K N S d mb : Nat} (hc : Cfg K N S) : (rcv0 K N S d mb).Ok := ⟨hc, rfl, by simp [rcv0], fun m kb k hm h => by simp [rcv0] at h, by show cntF _ 16 ≤ 4; rw [show (rcv0 K N S d mb).kf = fun _ => none from rfl, cnt0]; omega⟩
theorem mapIs0 : MapIs (.map []) (fun _ => none) := ⟨fun m hm => rfl, fun m hm => rfl, by rw [cnt0]; rfl⟩

theorem Tryz.info_unit : (Tryz.prog.info? 151).map (·.bytes) = some 0 := by kernel_rfl
theorem mkChan (w : World) : (Instr.makeChan 104 (.int .i64 0)).run Tryz.prog w = .ok (.chan (some w.heap.size)) (w.alloc (.chan 0 #[] false 0 0 false)) := by
  obtain ⟨i, hi, hb⟩ := Option.map_eq_some_iff.1 Tryz.info_unit
  simpa using Conc.run_makeChan (P := Tryz.prog) (w := w) Tryz.underlying104 hi .i64 0 (by omega) (by rw [hb]; omega)

theorem alloc_newK (w : World) (o : Obj) : (w.alloc o).heap[w.heap.size]? = some o := by simp [World.alloc, -World.alloc_eq]
theorem threeK (w : World) (A B C : Obj) : Below w.heap.size w (((w.alloc A).alloc B).alloc C) ∧ (((w.alloc A).alloc B).alloc C).heap[w.heap.size]? = some A ∧ (((w.alloc A).alloc B).alloc C).heap[w.heap.size + 1]? = some B ∧ (((w.alloc A).alloc B).alloc C).heap[w.heap.size + 1 + 1]? = some C := by
  have s1 : (w.alloc A).heap.size = w.heap.size + 1 := by simp
  have s2 : ((w.alloc A).alloc B).heap.size = w.heap.size + 1 + 1 := by simp
  have b1 : Below w.heap.size w (w.alloc A) := (Below.refl _ w).alloc (Nat.le_refl _) _
  have b2 := b1.alloc (by rw [s1]; omega) B
  have b3 := b2.alloc (by rw [s2]; omega) C
  have h2 := alloc_newK (w.alloc A) B
  have h3 := alloc_newK ((w.alloc A).alloc B) C
  rw [s1] at h2
  rw [s2] at h3
  refine ⟨b3, ?_, ?_, h3⟩
  · rw [Below.heap_alloc _ C _ (by rw [s2]; omega), Below.heap_alloc _ B _ (by rw [s1]; omega)]
    exact alloc_newK w A
  · rw [Below.heap_alloc _ C _ (by rw [s2]; omega)]
    exact h2
theorem rcv0_at {K N S rb d mb B : Nat} {W : World} (h1 : B ≤ rb ∧ B ≤ d ∧ B ≤ mb) (hr : W.heap[rb]? = some (.cells (rcv0 K N S d mb).cells.toArray 108 (0, 0))) (hd : W.heap[d]? = some (.chan 0 #[] false 0 0 false)) (hm : W.heap[mb]? = some (.map #[] 0)) : RcAt W B rb (rcv0 K N S d mb) := by
  refine ⟨h1, hr, hd, ⟨0, .map [], ?_, mapIs0⟩, World.ownsRow_nil .., fun u hu => by simp [rcv0] at hu, fun m kb k hm h => by simp [rcv0] at h, fun m m' kb k kb' k' _ _ _ h => by simp [rcv0] at h, fun u hu => by simp [rcv0] at hu⟩
  exact ⟨#[], 0, hm, ⟨by simp, Go.MapKept.stamped_empty 0, by simp⟩, Nat.le_refl _, rfl⟩

set_option maxRecDepth 100000 in
set_option maxHeartbeats 1000000 in
theorem newReceiver_ok (K N S : Nat) (hcb : cfgB (K : Int) (N : Int) (S : Int) = true) (w : World) :
    Calls Tryz.prog 34 #[.agg #[.int .i64 (K : Int), .int .i64 (N : Int), .int .i64 (S : Int)]] w fun e w' =>
      ∃ rb d mb, e = .returned (.tuple #[.pointer (some ⟨rb, 0, none⟩), .nilIface]) ∧ RcAt w' w.heap.size rb (rcv0 K N S d mb) ∧ Below w.heap.size w w' := by
  have hic := fun W => isConfig_any (K : Int) (N : Int) (S : Int) W
  rw [hcb] at hic
  have hmc := mkChan
  have hmm := @run_makeMap Tryz.prog
  go_enter Tryz.func34, Tryz.ntmps34
  go_wp2_with fail
  refine (hic _).mono ?_
  rintro e w1 ⟨rfl, hb1⟩
  have hX := heap_alloc_new w (.cells #[.int .i64 (K : Int), .int .i64 (N : Int), .int .i64 (S : Int)] 30)
  have hX1 := (hb1.block _ (lt_of_block hX)).trans hX
  have x0 : w1.cell? ⟨w.heap.size, 0, none⟩ = some (.int .i64 (K : Int)) := cell_of_row w1 _ 0 _ _ _ hX1
  have x1 : w1.cell? ⟨w.heap.size, 1, none⟩ = some (.int .i64 (N : Int)) := cell_of_row w1 _ 1 _ _ _ hX1
  have x2 : w1.cell? ⟨w.heap.size, 2, none⟩ = some (.int .i64 (S : Int)) := cell_of_row w1 _ 2 _ _ _ hX1
  have hbw : Below w.heap.size w w1 := ((Below.refl _ w).alloc (Nat.le_refl _) _).trans (hb1.mono (by simp))
  have hn : ¬ w.heap.size = w1.heap.size := Nat.ne_of_lt (lt_of_cell x0)
  have hal : ∀ {W : World} {a : Addr} {v : Value}, W.cell? a = some v → ∀ o : Obj, (W.alloc o).cell? a = some v := fun {W a v} h o => by rw [((Below.refl W.heap.size W).alloc (Nat.le_refl _) o).cell (lt_of_cell h)]; exact h
  have q0 : (w1.alloc (.chan 0 #[] false 0 0 false)).cell? ⟨w.heap.size, 0, none⟩ = some (.int .i64 (K : Int)) := hal x0 _
  have q1 : (w1.alloc (.chan 0 #[] false 0 0 false)).cell? ⟨w.heap.size, 1, none⟩ = some (.int .i64 (N : Int)) := hal x1 _
  have q2 : (w1.alloc (.chan 0 #[] false 0 0 false)).cell? ⟨w.heap.size, 2, none⟩ = some (.int .i64 (S : Int)) := hal x2 _
  have q3 : (w1.alloc (.map #[] 0)).cell? ⟨w.heap.size, 0, none⟩ = some (.int .i64 (K : Int)) := hal x0 _
  have q4 : (w1.alloc (.map #[] 0)).cell? ⟨w.heap.size, 1, none⟩ = some (.int .i64 (N : Int)) := hal x1 _
  have q5 : (w1.alloc (.map #[] 0)).cell? ⟨w.heap.size, 2, none⟩ = some (.int .i64 (S : Int)) := hal x2 _
  have q6 : ((w1.alloc (.chan 0 #[] false 0 0 false)).alloc (.map #[] 0)).cell? ⟨w.heap.size, 0, none⟩ = some (.int .i64 (K : Int)) := (hal (hal x0 _) _)
  have q7 : ((w1.alloc (.chan 0 #[] false 0 0 false)).alloc (.map #[] 0)).cell? ⟨w.heap.size, 1, none⟩ = some (.int .i64 (N : Int)) := (hal (hal x1 _) _)
  have q8 : ((w1.alloc (.chan 0 #[] false 0 0 false)).alloc (.map #[] 0)).cell? ⟨w.heap.size, 2, none⟩ = some (.int .i64 (S : Int)) := (hal (hal x2 _) _)
  have q9 : ((w1.alloc (.map #[] 0)).alloc (.chan 0 #[] false 0 0 false)).cell? ⟨w.heap.size, 0, none⟩ = some (.int .i64 (K : Int)) := (hal (hal x0 _) _)
  have q10 : ((w1.alloc (.map #[] 0)).alloc (.chan 0 #[] false 0 0 false)).cell? ⟨w.heap.size, 1, none⟩ = some (.int .i64 (N : Int)) := (hal (hal x1 _) _)
  have q11 : ((w1.alloc (.map #[] 0)).alloc (.chan 0 #[] false 0 0 false)).cell? ⟨w.heap.size, 2, none⟩ = some (.int .i64 (S : Int)) := (hal (hal x2 _) _)
  clear hX hX1 hb1 hic hal
  go_upto_region 3 with fail
  go_region
  all_goals go_wp2_with fail
  all_goals go_ret2
  all_goals have hbs := hbw.size
  · obtain ⟨b, h1, h2, h3⟩ := threeK w1 (.chan 0 #[] false 0 0 false) (.map #[] 0) (.cells (rcv0 K N S w1.heap.size (w1.heap.size + 1)).cells.toArray 108)
    exact ⟨_, w1.heap.size, w1.heap.size + 1, rfl, rcv0_at ⟨by omega, hbw.size, by omega⟩ h3 h1 h2, (hbw.trans (b.mono hbw.size)).drew⟩
  · obtain ⟨b, h1, h2, h3⟩ := threeK w1 (.map #[] 0) (.chan 0 #[] false 0 0 false) (.cells (rcv0 K N S (w1.heap.size + 1) w1.heap.size).cells.toArray 108)
    exact ⟨_, w1.heap.size + 1, w1.heap.size, rfl, rcv0_at ⟨by omega, by omega, hbw.size⟩ h3 h2 h1, (hbw.trans (b.mono hbw.size)).drew⟩

set_option maxRecDepth 100000 in
set_option maxHeartbeats 1000000 in
theorem newReceiver_no (A : Nat → Addr) (B0 : Nat) (K N S : Int) (hcb : cfgB K N S = false) (w : World) (hE : Errs A B0 w) :
    Calls Tryz.prog 34 #[.agg #[.int .i64 K, .int .i64 N, .int .i64 S]] w fun e w' =>
      e = .returned (.tuple #[.pointer none, E A 1]) ∧ Below w.heap.size w w' := by
  have hic := fun W => isConfig_any K N S W
  rw [hcb] at hic
  go_enter Tryz.func34, Tryz.ntmps34
  go_wp2_with fail
  refine (hic _).mono ?_
  rintro e w1 ⟨rfl, hb1⟩
  have hbw : Below w.heap.size w w1 := ((Below.refl _ w).alloc (Nat.le_refl _) _).trans (hb1.mono (by simp))
  have hE1 := hE.shrink _ hbw
  have g0 : w1.cell? ⟨4, 0, none⟩ = some (.iface 269 (.pointer (some (A 0)))) := hE1.cell 0 (by omega)
  clear hb1 hic
  go_wp2_with fail
  go_quiet (fail)
  go_wp2_with fail
  go_ret2
  exact ⟨rfl, hbw.trans ((below_drew rfl).mono hbw.size)⟩

theorem KAt.notRcv {w : World} {B kb rb : Nat} {k : Kn} {cs : Array Value} (h : KAt w B kb k) (hr : w.heap[rb]? = some (.cells cs 108 (0, 0))) : ¬ k.foot kb rb := by
  intro q
  rcases q with q | q | ⟨i, hi, q | q | ⟨r, hr', q⟩⟩
  · have hk := h.blk
    rw [← q, hr] at hk
    simp only [Option.some.injEq, Obj.cells.injEq] at hk
    exact absurd hk.2.1 (by decide)
  · have hk := h.row
    rw [← q, hr] at hk
    simp only [Option.some.injEq, Obj.cells.injEq] at hk
    exact absurd hk.2.1 (by decide)
  · exact own_ne (h.places i hi) q hr (by decide) rfl
  · exact own_ne (h.syms i hi) q hr (by decide) rfl
  · exact own_ne (h.bytes i hi r hr').2 (g := r.b) (r.own.2 trivial) hr (by decide) q

/-- What is not told yet is told. -/
def Rcv.told (r : Rcv) : Rcv := { r with un := [], uv := .slice none 0 0 }
theorem RcAt.told {w : World} {B rb : Nat} {r : Rcv} (h : RcAt w B rb r) (ht : r.tk.length = 16) : RcAt (w.setCell ⟨rb, 21, none⟩ (.slice none 0 0)) B rb r.told ∧ But (fun b => b = rb) w (w.setCell ⟨rb, 21, none⟩ (.slice none 0 0)) := by
  have hb := But.setCell (S := fun b => b = rb) (But.refl _ w) (p := ⟨rb, 21, none⟩) (.inl rfl) (.slice none 0 0)
  refine ⟨⟨h.low, ?_, ?_, ?_, World.ownsRow_nil .., fun u hu => by simp [Rcv.told] at hu, fun m kb k hm he => ?_, h.apart, fun u hu => by simp [Rcv.told] at hu⟩, hb⟩
  · rw [heap_setCell_same w rb 21 _ _ _ h.blk, List.setIfInBounds_toArray]
    have e : r.cells.set 21 (.slice none 0 0) = r.told.cells := by
      unfold Rcv.cells Rcv.told
      rw [List.set_append_right _ _ (by simp [ht])]
      simp [ht]
    rw [e]
  · refine (hb.block _ (Array.getElem?_eq_some_iff.1 h.chan).1 (fun q => ?_)).trans h.chan
    have := h.chan
    rw [q, h.blk] at this
    cases this
  · obtain ⟨n, D, ⟨es, clock, hm, hr⟩, hM⟩ := h.map
    refine ⟨n, D, ⟨es, clock, (hb.block _ (Array.getElem?_eq_some_iff.1 hm).1 (fun q => ?_)).trans hm, hr⟩, hM⟩
    rw [q, h.blk] at hm
    cases hm
  · exact (h.known m kb k hm he).kept (fun b q => hb.block b ((h.known m kb k hm he).foot_lt q).2 (fun e => (h.known m kb k hm he).notRcv h.blk (by rw [← e]; exact q)))

end Go.Proofs.YtjabhnhejbhgjaaGreatDoor

/- A receiver of the program: Taken. -/
namespace Go.Proofs.YtjabhnhejbhgjaaGreatDoor
open Go.RowKit Go.Maps

set_option maxRecDepth 100000 in
set_option maxHeartbeats 1000000 in
theorem taken_any {A : Nat → Addr} {B0 B rb : Nat} {r : Rcv} {w : World} (h : RcAt w B rb r) (ok : r.Ok) (hE : Errs A B0 w) :
    Calls Tryz.prog 24 #[.pointer (some ⟨rb, 0, none⟩)] w fun e w' =>
      (r.shut = true ∧ e = .returned (.tuple #[.slice none 0 0, E A 8]) ∧ Below w.heap.size w w') ∨ (r.shut = false ∧ e = .returned (.tuple #[r.uv, .nilIface]) ∧ RcAt w' B rb r.told ∧ But (fun b => b = rb) w w') := by
  have HC := h.isClosed
  have c21 := h.last ok.tk
  have f21 : w.frozen? ⟨rb, 21, none⟩ = false := frozen_of_row w rb 21 _ _ h.blk
  have g7 : w.cell? ⟨0, 0, none⟩ = some (.iface 269 (.pointer (some (A 7)))) := hE.cell 7 (by omega)
  have HT : Hid _ := h.told ok.tk
  obtain ⟨ua, uc, huv, _⟩ := own_form2 h.own
  have HU : Hid (r.uv = .slice ua r.un.length uc) := huv
  rw [huv] at c21
  clear h huv
  cases hs : r.shut with
  | true =>
    rw [hs] at HC
    go_enter Tryz.func24, Tryz.ntmps24
    go_wp2_with fail
    refine HC.mono ?_
    rintro e w1 ⟨rfl, rfl⟩
    go_wp2_with fail
    go_quiet (fail)
    go_wp2_with fail
    go_ret2
    exact .inl ⟨by first | trivial | exact hs, rfl, below_drew rfl⟩
  | false =>
    rw [hs] at HC
    go_enter Tryz.func24, Tryz.ntmps24
    go_wp2_with fail
    refine HC.mono ?_
    rintro e w1 ⟨rfl, rfl⟩
    go_wp2_with fail
    go_ret2
    exact .inr ⟨by first | trivial | exact hs, by rw [HU.out]; rfl, HT.out.1, HT.out.2⟩

end Go.Proofs.YtjabhnhejbhgjaaGreatDoor

/- A receiver of the program: Close. -/
namespace Go.Proofs.YtjabhnhejbhgjaaGreatDoor
open Go.RowKit Go.Maps

theorem setCells_mid {g : Nat} {t : TypeId} {Z : List Value} : ∀ (vs A X : List Value) (w : World), X.length = vs.length → w.heap[g]? = some (.cells (A ++ X ++ Z).toArray t (0, 0)) → (w.setCells g A.length vs).heap[g]? = some (.cells (A ++ vs ++ Z).toArray t (0, 0)) ∧ But (fun b => b = g) w (w.setCells g A.length vs)
  | [], A, X, w, hl, h => by
    obtain rfl : X = [] := List.length_eq_zero_iff.1 hl
    exact ⟨h, But.refl _ _⟩
  | v :: vs, A, X, w, hl, h => by
    cases X with
    | nil => simp at hl
    | cons x X =>
      have h1 := heap_setCell_same w g A.length _ _ v h
      rw [List.setIfInBounds_toArray] at h1
      have e : (A ++ x :: X ++ Z).set A.length v = (A ++ [v]) ++ X ++ Z := by
        rw [List.append_assoc, List.set_append_right _ _ (Nat.le_refl _)]
        simp
      rw [e] at h1
      have hb := But.setCell (S := fun b => b = g) (But.refl _ w) (p := ⟨g, A.length, none⟩) (.inl rfl) v
      obtain ⟨h2, h3⟩ := setCells_mid vs (A ++ [v]) X (w.setCell ⟨g, A.length, none⟩ v) (by simpa using hl) h1
      have el : (A ++ [v]).length = A.length + 1 := by simp
      rw [el] at h2 h3
      refine ⟨?_, hb.trans h3⟩
      show ((w.setCell ⟨g, A.length, none⟩ v).setCells g (A.length + 1) vs).heap[g]? = _
      rw [h2]
      simp

/-- One object of the heap is another one. -/
def _root_.Go.World.putObj (w : World) (b : Nat) (o : Obj) : World := { w with heap := w.heap.setIfInBounds b o }
theorem putObj_same {w : World} {b : Nat} (o : Obj) (h : b < w.heap.size) : (w.putObj b o).heap[b]? = some o := by simp [World.putObj, h]
theorem putObj_but (w : World) (b : Nat) (o : Obj) : But (fun x => x = b) w (w.putObj b o) :=
  ⟨rfl, rfl, rfl, by simp [World.putObj], fun k hk hn => by
    have : ¬ b = k := fun e => hn e.symm
    simp [World.putObj, this]⟩

/-- It is closed. -/
def Rcv.closed (r : Rcv) : Rcv := { r with kf := fun _ => none, tk := List.replicate 16 false, un := [], uv := .slice none 0 0, shut := true }
theorem Rcv.closed_ok {r : Rcv} (ok : r.Ok) : r.closed.Ok := ⟨ok.cfg, rfl, by simp [Rcv.closed], fun m kb k hm h => by simp [Rcv.closed] at h, by show cntF _ 16 ≤ 4; rw [show r.closed.kf = fun _ => none from rfl, cnt0]; omega⟩

theorem RcAt.close {w : World} {B rb : Nat} {r : Rcv} (h : RcAt w B rb r) (ht : r.tk.length = 16) (clock : Nat) :
    RcAt ((((w.putObj r.d (.chan 0 #[] true 0 0 false)).putObj r.mb (.map #[] clock)).setCells rb 5 (List.replicate 16 (.bool false))).setCell ⟨rb, 21, none⟩ (.slice none 0 0)) B rb r.closed ∧
    But (fun b => b = rb ∨ b = r.d ∨ b = r.mb) w ((((w.putObj r.d (.chan 0 #[] true 0 0 false)).putObj r.mb (.map #[] clock)).setCells rb 5 (List.replicate 16 (.bool false))).setCell ⟨rb, 21, none⟩ (.slice none 0 0)) := by
  have hdl : r.d < w.heap.size := (Array.getElem?_eq_some_iff.1 h.chan).1
  obtain ⟨n, D, ⟨es, ck, hm, _⟩, _⟩ := h.map
  have hml : r.mb < w.heap.size := (Array.getElem?_eq_some_iff.1 hm).1
  have ndm : ¬ r.d = r.mb := fun q => by rw [← q, h.chan] at hm; cases hm
  have nrd : ¬ rb = r.d := fun q => by have := h.chan; rw [← q, h.blk] at this; cases this
  have nrm : ¬ rb = r.mb := fun q => by rw [← q, h.blk] at hm; cases hm
  have b1 := putObj_but w r.d (.chan 0 #[] true 0 0 false)
  have b2 := putObj_but (w.putObj r.d (.chan 0 #[] true 0 0 false)) r.mb (.map #[] clock)
  have s1 := b1.size
  have s2 := b2.size
  have d1 := putObj_same (.chan 0 #[] true 0 0 false) hdl
  have d2 := (b2.block r.d (by omega) ndm).trans d1
  have m2 := putObj_same (.map #[] clock) (Nat.lt_of_lt_of_le hml s1)
  have r2 := (b2.block rb (by have := lt_of_block h.blk; omega) nrm).trans ((b1.block rb (lt_of_block h.blk) nrd).trans h.blk)
  have r2' : ((w.putObj r.d (.chan 0 #[] true 0 0 false)).putObj r.mb (.map #[] clock)).heap[rb]? = some (.cells (([.int .i64 (r.K : Int), .int .i64 (r.N : Int), .int .i64 (r.S : Int), .chan (some r.d), .map (some r.mb)] : List Value) ++ r.tk.map Value.bool ++ [r.uv]).toArray 108 (0, 0)) := r2
  obtain ⟨r3, b3⟩ := setCells_mid (List.replicate 16 (.bool false)) [.int .i64 (r.K : Int), .int .i64 (r.N : Int), .int .i64 (r.S : Int), .chan (some r.d), .map (some r.mb)] (r.tk.map Value.bool) _ (by simp [ht]) r2'
  simp only [List.length_cons, List.length_nil, Nat.zero_add, Nat.reduceAdd] at r3 b3
  generalize ((w.putObj r.d (.chan 0 #[] true 0 0 false)).putObj r.mb (.map #[] clock)).setCells rb 5 (List.replicate 16 (.bool false)) = W3 at *
  have b4 := But.setCell (S := fun b => b = rb) (But.refl _ W3) (p := ⟨rb, 21, none⟩) (.inl rfl) (.slice none 0 0)
  have r4 := heap_setCell_same W3 rb 21 _ _ (.slice none 0 0) r3
  have s3 := b3.size
  have d4 := (b4.block r.d (by omega) (fun q => nrd q.symm)).trans ((b3.block r.d (by omega) (fun q => nrd q.symm)).trans d2)
  have m4 := (b4.block r.mb (by omega) (fun q => nrm q.symm)).trans ((b3.block r.mb (by omega) (fun q => nrm q.symm)).trans m2)
  refine ⟨⟨h.low, ?_, d4, ⟨0, .map [], ⟨#[], clock, m4, ⟨by simp, MapKept.stamped_empty _, by simp⟩, Nat.le_refl _, rfl⟩, mapIs0⟩, World.ownsRow_nil .., fun u hu => by simp [Rcv.closed] at hu, fun m kb k hm' he => by simp [Rcv.closed] at he, fun m m' kb k kb' k' _ _ _ he => by simp [Rcv.closed] at he, fun u hu => by simp [Rcv.closed] at hu⟩, ?_⟩
  · rw [r4, List.setIfInBounds_toArray]
    rfl
  · exact (((b1.wide (fun b _ q => .inr (.inl q))).trans (b2.wide (fun b _ q => .inr (.inr q)))).trans (b3.wide (fun b _ q => .inl q))).trans (b4.wide (fun b _ q => .inl q))

theorem zeroB (w : World) : (zeroValue 4).run Tryz.prog w = .ok (.bool false) w := by kernel_rfl
theorem clear_map {w : World} {r clock : Nat} {es : Array MapEntry} (hb : w.heap[r]? = some (.map es clock)) (ty : TypeId) : (Builtin.clear_ #[105] ty #[.map (some r)]).run Tryz.prog w = .ok (.tuple #[]) (w.putObj r (.map #[] clock)) := by
  simp [Builtin.clear_, run_underlying Tryz.underlying105, MapKept.run_getObj_map hb, MapKept.run_setObj_map _ hb, Result.andThen, World.putObj]

set_option maxRecDepth 100000 in
set_option maxHeartbeats 2000000 in
theorem close_any {A : Nat → Addr} {B0 B rb : Nat} {r : Rcv} {w : World} (h : RcAt w B rb r) (ok : r.Ok) (hE : Errs A B0 w) :
    Calls Tryz.prog 23 #[.pointer (some ⟨rb, 0, none⟩)] w fun e w' =>
      (r.shut = true ∧ e = .returned (E A 8) ∧ w' = w) ∨ (r.shut = false ∧ e = .returned .nilIface ∧ RcAt w' B rb r.closed ∧ But (fun b => b = rb ∨ b = r.d ∨ b = r.mb) w w') := by
  have HC := h.isClosed
  obtain ⟨_, _, _, c3, c4⟩ := h.head
  have g7 : w.cell? ⟨0, 0, none⟩ = some (.iface 269 (.pointer (some (A 7)))) := hE.cell 7 (by omega)
  cases hs : r.shut with
  | true =>
    rw [hs] at HC
    go_enter Tryz.func23, Tryz.ntmps23
    go_wp2_with fail
    refine HC.mono ?_
    rintro e w1 ⟨rfl, rfl⟩
    go_wp2_with fail
    go_ret
    exact .inl ⟨by first | trivial | exact hs, rfl, rfl⟩
  | false =>
    rw [hs] at HC
    obtain ⟨n, D, ⟨es, clock, hm, _⟩, _⟩ := h.map
    have hch : w.heap[r.d]? = some (.chan 0 #[] false 0 0 false) := by have := h.chan; rw [hs] at this; exact this
    have hcl : ∀ ats ty, (Builtin.close_ ats ty #[.chan (some r.d)]).run Tryz.prog w = .ok (.tuple #[]) (w.putObj r.d (.chan 0 #[] true 0 0 false)) := fun ats ty => run_close_open ats ty hch
    have ndm : ¬ r.mb = r.d := fun q => by rw [q, hch] at hm; cases hm
    have nrd : ¬ rb = r.d := fun q => by rw [← q, h.blk] at hch; cases hch
    have nrm : ¬ rb = r.mb := fun q => by rw [← q, h.blk] at hm; cases hm
    have b1 := putObj_but w r.d (.chan 0 #[] true 0 0 false)
    have hm1 := (b1.block r.mb (Array.getElem?_eq_some_iff.1 hm).1 ndm).trans hm
    have hrb1 := (b1.block rb (lt_of_block h.blk) nrd).trans h.blk
    have hcm := fun ty => clear_map hm1 ty
    have HFIN : Hid _ := h.close ok.tk clock
    have hs1 := b1.size
    have b2 := putObj_but (w.putObj r.d (.chan 0 #[] true 0 0 false)) r.mb (.map #[] clock)
    have hrb2 := (b2.block rb (lt_of_block hrb1) nrm).trans hrb1
    have hlen : r.cells.length = 22 := by simp [Rcv.cells, ok.tk]
    have c4' : (w.putObj r.d (.chan 0 #[] true 0 0 false)).cell? ⟨rb, 4, none⟩ = some (.map (some r.mb)) := by rw [cell_of_row _ rb 4 _ _ _ hrb1]; rfl
    have hcs : ∀ ty, (Builtin.clear_ #[55] ty #[.slice (some ⟨rb, 5, none⟩) 16 16]).run Tryz.prog ((w.putObj r.d (.chan 0 #[] true 0 0 false)).putObj r.mb (.map #[] clock)) = .ok (.tuple #[]) (((w.putObj r.d (.chan 0 #[] true 0 0 false)).putObj r.mb (.map #[] clock)).setCells rb 5 (List.replicate 16 (.bool false))) := fun ty =>
      Lib.run_clear_slice _ 55 4 ty (.bool false) Tryz.underlying55 zeroB rfl rfl rb 5 16 16 (by omega) (fun j hj => by rw [cell_of_row _ rb (5 + j) _ _ _ hrb2, List.getElem?_toArray, List.getElem?_eq_getElem (by omega)]; rfl) (fun j hj => frozen_of_row _ rb (5 + j) _ _ hrb2)
    have c21 : (((w.putObj r.d (.chan 0 #[] true 0 0 false)).putObj r.mb (.map #[] clock)).setCells rb 5 (List.replicate 16 (.bool false))).cell? ⟨rb, 21, none⟩ = some r.uv := by
      rw [World.cell?_setCells_out rb _ _ _ _ (fun _ _ => .inr (by simp)), cell_of_row _ rb 21 _ _ _ hrb2, ← cell_of_row w rb 21 _ _ _ h.blk]
      exact h.last ok.tk
    have f21 : (((w.putObj r.d (.chan 0 #[] true 0 0 false)).putObj r.mb (.map #[] clock)).setCells rb 5 (List.replicate 16 (.bool false))).frozen? ⟨rb, 21, none⟩ = false := by
      rw [World.frozen?_setCells]
      exact frozen_of_row _ rb 21 _ _ hrb2
    clear h hm hch hm1 hrb1 hrb2 b1 b2 hs1
    generalize List.replicate 16 (Value.bool false) = fs at HFIN hcs c21 f21
    go_enter Tryz.func23, Tryz.ntmps23
    go_wp2_with fail
    refine HC.mono ?_
    rintro e w1 ⟨rfl, rfl⟩
    go_upto_region 4 with fail
    generalize w1.putObj r.d (.chan 0 #[] true 0 0 false) = W1 at *
    go_upto_region 5 with fail
    generalize W1.putObj r.mb (.map #[] clock) = W2 at *
    go_upto_region 6 with fail
    generalize W2.setCells rb 5 fs = W3 at *
    go_wp2_with fail
    go_ret
    exact .inr ⟨trivial, rfl, HFIN.out.1, HFIN.out.2⟩

end Go.Proofs.YtjabhnhejbhgjaaGreatDoor

/- A receiver of the program: what is known, by number: looked up, counted, entered, struck. -/
namespace Go.Proofs.YtjabhnhejbhgjaaGreatDoor
open Go.RowKit Go.Maps

/-- What a lookup gives. -/
def ptrVal (x : Option (Nat × Kn)) : Value := match x with
  | some (kb, _) => .pointer (some ⟨kb, 0, none⟩)
  | none => .pointer none
theorem zeroK (w : World) : (zeroValue 102).run Tryz.prog w = .ok (.pointer none) w := by kernel_rfl
theorem key16 {m : Nat} (h : m < 16) : keyOf Tryz.prog 3 (.int .i64 (m : Int)) = some (.int .i64 (m : Int)) := keyOf_int_mk Tryz.underlying3 (int_wf (by omega))

theorem RcAt.look {w : World} {B rb m : Nat} {r : Rcv} (h : RcAt w B rb r) (hm : m < 16) :
    (Instr.lookup 105 (.map (some r.mb)) (.int .i64 (m : Int)) true).run Tryz.prog w = .ok (.tuple #[ptrVal (r.kf m), .bool (r.kf m).isSome]) w := by
  obtain ⟨n, D, hD, hM⟩ := h.map
  obtain ⟨v, ps, hr, hv⟩ := hD.look_ok Tryz.intKeyed Tryz.underlying105 (zeroK w) ptrElem_nil (key16 hm)
  rw [hr, hM.has m hm]
  rw [hM.at_ m hm] at hv
  cases hk : r.kf m with
  | none =>
    rw [hk] at hv
    rw [ptrElem_inv.1 hv]
    rfl
  | some x =>
    obtain ⟨kb, k⟩ := x
    rw [hk] at hv
    rw [ptrElem_inv.2 kb hv]
    rfl
theorem RcAt.len {w : World} {B rb : Nat} {r : Rcv} (h : RcAt w B rb r) (ty : TypeId) :
    (Builtin.len_ #[105] ty #[.map (some r.mb)]).run Tryz.prog w = .ok (.int .i64 (cntF r.kf 16 : Int)) w := by
  obtain ⟨n, D, hD, hM⟩ := h.map
  rw [hD.len Tryz.underlying105 ty, hM.size]

/-- One number's place is another. -/
def updF {α : Type} (f : Nat → Option α) (m : Nat) (x : Option α) : Nat → Option α := fun i => if i = m then x else f i
theorem updF_same {α : Type} (f : Nat → Option α) (m : Nat) (x : Option α) : updF f m x m = x := if_pos rfl
theorem updF_other {α : Type} (f : Nat → Option α) {m i : Nat} (x : Option α) (h : i ≠ m) : updF f m x i = f i := if_neg h
theorem cnt_upd_ge {α : Type} (f : Nat → Option α) (m : Nat) (x : Option α) : ∀ n, n ≤ m → cntF (updF f m x) n = cntF f n
  | 0, _ => rfl
  | n + 1, h => by
    unfold cntF
    rw [cnt_upd_ge f m x n (by omega), updF_other f x (by omega)]
theorem cnt_upd {α : Type} (f : Nat → Option α) (m : Nat) (x : Option α) : ∀ n, m < n → cntF (updF f m x) n + (if (f m).isSome then 1 else 0) = cntF f n + (if x.isSome then 1 else 0)
  | 0, h => by omega
  | n + 1, h => by
    unfold cntF
    by_cases he : n = m
    · subst he
      rw [cnt_upd_ge f n x n (Nat.le_refl _), updF_same]
      omega
    · have := cnt_upd f m x n (by omega)
      rw [updF_other f x he]
      omega

theorem lit_ne {m i : Nat} (h : i ≠ m) : (Lit.int .i64 (i : Int)) ≠ .int .i64 (m : Int) := fun e => by
  simp only [Lit.int.injEq] at e
  omega
theorem key_lit (m : Nat) : WideAt.IsKeyLit (.int .i64 (m : Int)) := by
  simp [WideAt.IsKeyLit]

theorem MapIs.put {D : DataW Unit} {kf : Nat → Option (Nat × Kn)} (h : MapIs D kf) (ht : Tidy D) {m : Nat} (hm : m < 16) (hn : kf m = none) (kb : Nat) (k : Kn) :
    MapIs (D.put (.int .i64 (m : Int)) (.lit (.int .i64 (kb : Int)))) (updF kf m (some (kb, k))) := by
  refine ⟨fun i hi => ?_, fun i hi => ?_, ?_⟩
  · by_cases e : i = m
    · subst e
      rw [has_put_same ht.isMap (key_lit i), updF_same]
      rfl
    · rw [has_put_other (lit_ne e), updF_other _ _ e, h.has i hi]
  · by_cases e : i = m
    · subst e
      rw [atKey_put_same ht.isMap (key_lit i), updF_same]
      rfl
    · rw [atKey_put_other (lit_ne e), updF_other _ _ e, h.at_ i hi]
  · rw [size_put ht, h.has m hm, hn, h.size]
    have := cnt_upd kf m (some (kb, k)) 16 hm
    rw [hn] at this
    simp at this ⊢
    omega
theorem MapIs.del {D : DataW Unit} {kf : Nat → Option (Nat × Kn)} (h : MapIs D kf) (ht : Tidy D) {m : Nat} (hm : m < 16) :
    MapIs (D.del (.int .i64 (m : Int))) (updF kf m none) := by
  refine ⟨fun i hi => ?_, fun i hi => ?_, ?_⟩
  · by_cases e : i = m
    · subst e
      rw [has_del_same, updF_same]
      rfl
    · rw [has_del_other (lit_ne e), updF_other _ _ e, h.has i hi]
  · by_cases e : i = m
    · subst e
      rw [atKey_del_same, updF_same]
      rfl
    · rw [atKey_del_other (lit_ne e), updF_other _ _ e, h.at_ i hi]
  · have h1 := size_del (k := .int .i64 (m : Int)) ht
    rw [h.has m hm, h.size] at h1
    have h2 := cnt_upd kf m none 16 hm
    simp at h2
    omega

def Rcv.put (r : Rcv) (m kb : Nat) (k : Kn) : Rcv := { r with kf := updF r.kf m (some (kb, k)) }
theorem Rcv.put_ok {r : Rcv} (ok : r.Ok) {m kb : Nat} {k : Kn} (hm : m < 16) (hn : r.kf m = none) (hf : cntF r.kf 16 < 4) (hk : k.Ok ∧ k.K = r.K ∧ k.N = r.N ∧ k.S = r.S) : (r.put m kb k).Ok := by
  refine ⟨ok.cfg, ok.tk, ok.un, fun i b q hi e => ?_, ?_⟩
  · unfold Rcv.put at e
    by_cases he : i = m
    · subst he
      simp only [updF_same, Option.some.injEq, Prod.mk.injEq] at e
      obtain ⟨rfl, rfl⟩ := e
      exact hk
    · simp only [updF_other _ _ he] at e
      exact ok.known i b q hi e
  · show cntF (updF r.kf m (some (kb, k))) 16 ≤ 4
    have := cnt_upd r.kf m (some (kb, k)) 16 hm
    rw [hn] at this
    simp at this
    omega

theorem turned_but {w w' : World} {b : Nat} (h : w.mapTurned w' b) : But (fun x => x = b) w w' := by
  obtain ⟨es, clock, es', clock', hb, rfl⟩ := h
  exact putObj_but w b (.map es' clock')

theorem KAt.isCells {w : World} {B kb b : Nat} {k : Kn} (h : KAt w B kb k) (hb : k.foot kb b) : ∃ cs t, w.heap[b]? = some (.cells cs t (0, 0)) := by
  rcases hb with q | q | ⟨i, hi, q | q | ⟨r, hr', q⟩⟩
  · exact ⟨_, _, q ▸ h.blk⟩
  · exact ⟨_, _, q ▸ h.row⟩
  · obtain ⟨c, hc⟩ := own_block (h.places i hi) q
    exact ⟨_, _, hc⟩
  · obtain ⟨c, hc⟩ := own_block (h.syms i hi) q
    exact ⟨_, _, hc⟩
  · obtain ⟨c, hc⟩ := own_block (h.bytes i hi r hr').2 (g := r.b) (r.own.2 trivial)
    exact ⟨_, _, q ▸ hc⟩

/-- The map turns, and nothing else. -/
theorem RcAt.turn {w w' : World} {B rb n : Nat} {r : Rcv} {D : DataW Unit} {kf : Nat → Option (Nat × Kn)} (h : RcAt w B rb r) (hb : But (fun b => b = r.mb) w w') (hD : w'.ownsMap Tryz.prog 3 ptrElem r.mb n D) (hM : MapIs D kf)
    (hk : ∀ m kb k, m < 16 → kf m = some (kb, k) → KAt w B kb k)
    (ha : ∀ m m' kb k kb' k', m < 16 → m' < 16 → m ≠ m' → kf m = some (kb, k) → kf m' = some (kb', k') → ∀ b, k.foot kb b → ¬ k'.foot kb' b)
    (hu : ∀ u ∈ r.un, ∀ m kb k, m < 16 → kf m = some (kb, k) → ¬ k.foot kb u.g) : RcAt w' B rb { r with kf := kf } := by
  obtain ⟨_, _, ⟨es, ck, hmb, _⟩, _⟩ := h.map
  have hq : ∀ b : Nat, (∃ cs t, w.heap[b]? = some (.cells cs t (0, 0))) → w'.heap[b]? = w.heap[b]? := fun b ⟨cs, t, e⟩ => hb.block b (lt_of_block e) (fun q => by rw [q, hmb] at e; cases e)
  refine ⟨h.low, (hq rb ⟨_, _, h.blk⟩).trans h.blk, (hb.block r.d (Array.getElem?_eq_some_iff.1 h.chan).1 (fun q => by have := h.chan; rw [q, hmb] at this; cases this)).trans h.chan, ⟨_, _, hD, hM⟩, own_of_block h.own (fun g hg => hq g ?_), fun u hu => ?_, fun i b q hi e => (hk i b q hi e).kept (fun x hx => hq x ((hk i b q hi e).isCells hx)), ha, hu⟩
  · obtain ⟨c, hc⟩ := own_block h.own hg
    exact ⟨_, _, hc⟩
  · obtain ⟨h1, ⟨cs, h2⟩, h3⟩ := h.objs u hu
    have he := hq u.g ⟨_, _, h2⟩
    refine ⟨h1, ⟨cs, he.trans h2⟩, fun i hi => ?_⟩
    have hc : w'.cell? ⟨u.g, 0 + i, none⟩ = w.cell? ⟨u.g, 0 + i, none⟩ := World.cell?_of_block (w := w) (a := ⟨u.g, 0 + i, none⟩) he
    rw [hc]
    exact h3 i hi

/-- What is known is entered. -/
theorem RcAt.put {w : World} {B rb m kb : Nat} {r : Rcv} {k : Kn} (h : RcAt w B rb r) (hm : m < 16) (hn : r.kf m = none) (hf : cntF r.kf 16 < 4) (hk : KAt w B kb k) (ha : ∀ b, k.foot kb b → ¬ r.foot rb b) :
    ∃ w', (Instr.mapUpdate 105 (.map (some r.mb)) (.int .i64 (m : Int)) (.pointer (some ⟨kb, 0, none⟩))).run Tryz.prog w = .ok () w' ∧ RcAt w' B rb (r.put m kb k) ∧ But (fun b => b = r.mb) w w' := by
  obtain ⟨n, D, hD, hM⟩ := h.map
  have hT := hD.tidy Tryz.intKeyed
  have hD1 := World.ownsMap.tight hD
  obtain ⟨w', hr, hD2, ht⟩ := hD1.store Tryz.intKeyed Tryz.underlying105 (by rw [hM.size]; unfold maxLen; omega) (key16 hm) (ptrElem_some kb)
  have hb := turned_but ht
  refine ⟨w', hr, h.turn hb hD2 (hM.put hT hm hn kb k) (fun i b q hi e => ?_) (fun i i' b q b' q' hi hi' hne e e' => ?_) (fun u hu i b q hi e => ?_), hb⟩
  · by_cases he : i = m
    · subst he
      rw [updF_same] at e
      cases e
      exact hk
    · rw [updF_other _ _ he] at e
      exact h.known i b q hi e
  · by_cases he : i = m
    · subst he
      rw [updF_same] at e
      cases e
      rw [updF_other _ _ (Ne.symm hne)] at e'
      exact fun x hx hx' => ha x hx (.inr (.inr (.inr (.inr (.inr ⟨i', b', q', hi', e', hx'⟩)))))
    · rw [updF_other _ _ he] at e
      by_cases he' : i' = m
      · subst he'
        rw [updF_same] at e'
        cases e'
        exact fun x hx hx' => ha x hx' (.inr (.inr (.inr (.inr (.inr ⟨i, b, q, hi, e, hx⟩)))))
      · rw [updF_other _ _ he'] at e'
        exact h.apart i i' b q b' q' hi hi' hne e e'
  · by_cases he : i = m
    · subst he
      rw [updF_same] at e
      cases e
      exact fun hx => ha _ hx (.inr (.inr (.inr (.inr (.inl ⟨u, hu, rfl⟩)))))
    · rw [updF_other _ _ he] at e
      exact h.apartU u hu i b q hi e

/-- What is known is struck. -/
def Rcv.strike (r : Rcv) (m : Nat) : Rcv := { r with kf := updF r.kf m none }
theorem RcAt.strike {w : World} {B rb m : Nat} {r : Rcv} (h : RcAt w B rb r) (hm : m < 16) :
    ∃ w', (∀ ty, (Builtin.delete_ #[105, 3] ty #[.map (some r.mb), .int .i64 (m : Int)]).run Tryz.prog w = .ok (.tuple #[]) w') ∧ RcAt w' B rb (r.strike m) ∧ But (fun b => b = r.mb) w w' := by
  obtain ⟨n, D, hD, hM⟩ := h.map
  have hT := hD.tidy Tryz.intKeyed
  obtain ⟨w', hr, hD2, ht⟩ := hD.drop Tryz.intKeyed Tryz.underlying105 (key16 hm) 0
  have hb := turned_but ht
  have hs : ∀ {i b q}, updF r.kf m none i = some (b, q) → r.kf i = some (b, q) := fun {i b q} e => by
    by_cases he : i = m
    · subst he
      rw [updF_same] at e
      cases e
    · rwa [updF_other _ _ he] at e
  exact ⟨w', fun _ => hr, h.turn hb hD2 (hM.del hT hm) (fun i b q hi e => h.known i b q hi (hs e)) (fun i i' b q b' q' hi hi' hne e e' => h.apart i i' b q b' q' hi hi' hne (hs e) (hs e')) (fun u hu i b q hi e => h.apartU u hu i b q hi (hs e)), hb⟩

end Go.Proofs.YtjabhnhejbhgjaaGreatDoor

/- A receiver of the program: objectOf. -/
namespace Go.Proofs.YtjabhnhejbhgjaaGreatDoor
open Go.RowKit Go.Maps

theorem KAt.base {w : World} {B B' kb : Nat} {k : Kn} (h : KAt w B kb k) (hB : B' ≤ B) : KAt w B' kb k :=
  ⟨Nat.le_trans hB h.low, h.blk, Nat.le_trans hB h.low2, h.row, fun i hi => own_base2 (h.places i hi) hB, fun i hi => own_base2 (h.syms i hi) hB, fun i hi r hr => ⟨Nat.le_trans hB (h.bytes i hi r hr).1, own_base2 (h.bytes i hi r hr).2 hB⟩, h.apartP, h.apartS, h.apartR⟩

/-- What objectOf gives. -/
def ObjGives (A : Nat → Addr) (r : Rcv) (m len B rb : Nat) (w : World) (e : Ending) (w' : World) : Prop :=
  (∃ kb k, r.kf m = some (kb, k) ∧ k.len = len ∧ e = .returned (.tuple #[.pointer (some ⟨kb, 0, none⟩), .nilIface]) ∧ Below w.heap.size w w') ∨
  (∃ kb k v, r.kf m = some (kb, k) ∧ k.len ≠ len ∧ e = .returned (.tuple #[.pointer none, v]) ∧ Wr w w' v 2 (E A 6) ∧ Below w.heap.size w w') ∨
  (r.kf m = none ∧ cntF r.kf 16 = 4 ∧ e = .returned (.tuple #[.pointer none, E A 3]) ∧ Below w.heap.size w w') ∨
  (r.kf m = none ∧ cntF r.kf 16 < 4 ∧ ∃ kb bg, e = .returned (.tuple #[.pointer (some ⟨kb, 0, none⟩), .nilIface]) ∧ (w.heap.size ≤ kb ∧ w.heap.size ≤ bg) ∧ RcAt w' B rb (r.put m kb (kn0 r.K r.N r.S len bg)) ∧ But (fun b => b = r.mb) w w')

set_option maxRecDepth 100000 in
set_option maxHeartbeats 2000000 in
theorem objectOf_any {A : Nat → Addr} {B0 B rb m len kd x3 x4 : Nat} {v5 v6 : Value} {r : Rcv} {w : World} (h : RcAt w B rb r) (ok : r.Ok) (hE : Errs A B0 w) (hm : m < 16) (hlen : len ≤ 255) :
    Calls Tryz.prog 45 #[.pointer (some ⟨rb, 0, none⟩), .agg #[.int .i64 (kd : Int), .int .i64 (m : Int), .int .i64 (len : Int), .int .i64 (x3 : Int), .int .i64 (x4 : Int), v5, v6]] w (ObjGives A r m len B rb w) := by
  have hX := heap_alloc_new w (.cells #[.int .i64 (kd : Int), .int .i64 (m : Int), .int .i64 (len : Int), .int .i64 (x3 : Int), .int .i64 (x4 : Int), v5, v6] 60)
  have hb1 := (Below.refl w.heap.size w).alloc (Nat.le_refl _) (.cells #[.int .i64 (kd : Int), .int .i64 (m : Int), .int .i64 (len : Int), .int .i64 (x3 : Int), .int .i64 (x4 : Int), v5, v6] 60)
  have hfl : ∀ {b}, r.foot rb b → b < w.heap.size := fun q => (h.foot_lt q).2
  go_enter Tryz.func45, Tryz.ntmps45
  go_upto_region 1 with fail
  generalize w.alloc (.cells #[.int .i64 (kd : Int), .int .i64 (m : Int), .int .i64 (len : Int), .int .i64 (x3 : Int), .int .i64 (x4 : Int), v5, v6] 60) = W at *
  obtain ⟨y0, y1, y2, y3, y4, y5, y6⟩ := pk7 hX
  have h1 := h.above hb1
  obtain ⟨d0, d1, d2, d3, d4⟩ := h1.head
  have HL : ∀ n, (Instr.lookup 105 (.map (some r.mb)) (.int .i64 (m : Int)) true).run Tryz.prog (W.drewN n) = .ok (.tuple #[ptrVal (r.kf m), .bool (r.kf m).isSome]) (W.drewN n) := fun n => (h1.above (below_drew (nq := n) rfl)).look hm
  have hs1 := hb1.size
  have hE1 := hE.shrink W hb1
  have g5 : W.cell? ⟨2, 0, none⟩ = some (.iface 269 (.pointer (some (A 5)))) := hE1.cell 5 (by omega)
  have g2 : W.cell? ⟨1, 0, none⟩ = some (.iface 269 (.pointer (some (A 2)))) := hE1.cell 2 (by omega)
  cases hk : r.kf m with
  | some x =>
    obtain ⟨kb, k⟩ := x
    rw [hk] at HL
    have HL' : ∀ n, (Instr.lookup 105 (.map (some r.mb)) (.int .i64 (m : Int)) true).run Tryz.prog (W.drewN n) = .ok (.tuple #[.pointer (some ⟨kb, 0, none⟩), .bool true]) (W.drewN n) := HL
    clear HL
    have hK := h1.known m kb k hm hk
    have HLEN := glength_any hK
    have HWR : Hid (∀ (X : World) (z : Int) (k : Nat), Below w.heap.size w X → Wr w (X.alloc (.cells #[.int .i64 z, .iface 269 (.pointer (some (A k)))] 168)) (.iface 166 (.pointer (some ⟨X.heap.size, 0, none⟩))) z (E A (k + 1)) ∧ Below w.heap.size w (X.alloc (.cells #[.int .i64 z, .iface 269 (.pointer (some (A k)))] 168))) := fun X z k hW => ⟨⟨X.heap.size, rfl, hW.size, heap_alloc_new X _⟩, hW.alloc hW.size _⟩
    go_quiet (fail)
    go_upto_region 2 with fail
    obtain ⟨W2, hW2⟩ : ∃ x, x = W.drewN nq := ⟨_, rfl⟩
    rw [← hW2]
    have hb2 := hb1.trans ((below_drew hW2).mono hs1)
    have HB2 : Hid (Below w.heap.size w W2) := hb2
    have hX2 := ((below_drew hW2).block w.heap.size (lt_of_block hX)).trans hX
    have hK2 := hK.above (below_drew hW2)
    have hE2 := hE.shrink W2 hb2
    clear y0 y1 y2 y3 y4 y5 y6 d0 d1 d2 d3 d4 HL' HLEN g5 g2 hX hK h1 hE1
    have HLEN : ∀ n, Calls Tryz.prog 38 #[.pointer (some ⟨kb, 0, none⟩)] (W2.drewN n) fun e w' => e = .returned (.int .i64 (k.len : Int)) ∧ ∃ n', w' = W2.drewN n' := fun n => (glength_any (hK2.above (below_drew (nq := n) rfl))).mono (fun e w' ⟨p, q⟩ => ⟨p, n, q⟩)
    obtain ⟨y0, y1, y2, y3, y4, y5, y6⟩ := pk7 hX2
    have g5 : W2.cell? ⟨2, 0, none⟩ = some (.iface 269 (.pointer (some (A 5)))) := hE2.cell 5 (by omega)
    clear hX2 hK2 hE2 hW2 hb2 h hE
    by_cases hq : k.len = len
    · subst hq
      go_quiet (exact HLEN _)
      go_wp2_with fail
      go_ret2
      exact .inl ⟨kb, k, hk, rfl, rfl, HB2.out.trans ((below_drew rfl).mono HB2.out.size)⟩
    · have hq1 : ¬ (k.len : Int) = (len : Int) := by omega
      go_quiet (exact HLEN _)
      go_wp2_with (go_at_call 41; refine (wrong_any _ _ _ _).mono ?_; rintro e w' ⟨rfl, rfl⟩)
      go_ret2
      have hbq := HB2.out.trans ((below_drew (w := W2) (nq := nq) rfl).mono HB2.out.size)
      exact .inr (.inl ⟨kb, k, _, hk, hq, rfl, (HWR.out _ 2 5 hbq).1, (HWR.out _ 2 5 hbq).2⟩)
  | none =>
    rw [hk] at HL
    have HL' : ∀ n, (Instr.lookup 105 (.map (some r.mb)) (.int .i64 (m : Int)) true).run Tryz.prog (W.drewN n) = .ok (.tuple #[.pointer none, .bool false]) (W.drewN n) := HL
    clear HL
    go_quiet (fail)
    go_upto_region 2 with fail
    obtain ⟨W1, hW1⟩ : ∃ x, x = W.drewN nq := ⟨_, rfl⟩
    rw [← hW1]
    have hA := below_drew hW1
    go_quiet (fail)
    go_upto_region 6 with fail
    obtain ⟨W2, hW2⟩ : ∃ x, x = W1.drewN nq := ⟨_, rfl⟩
    rw [← hW2]
    have hb2 := hb1.trans ((hA.trans ((below_drew hW2).mono hA.size)).mono hs1)
    have HB2 : Hid (Below w.heap.size w W2) := hb2
    have hX2 := ((hA.trans ((below_drew hW2).mono hA.size)).block w.heap.size (lt_of_block hX)).trans hX
    have h2 := h.above hb2
    have hE2 := hE.shrink W2 hb2
    clear y0 y1 y2 y3 y4 y5 y6 d0 d1 d2 d3 d4 HL' g5 g2 hX h1 hE1 hW1 hW2 hA hb1 hs1 h hE
    obtain ⟨y0, y1, y2, y3, y4, y5, y6⟩ := pk7 hX2
    obtain ⟨d0, d1, d2, d3, d4⟩ := h2.head
    have HLN := fun ty => h2.len ty
    have hcf := ok.few
    by_cases hc : cntF r.kf 16 = 4
    · have g2 : W2.cell? ⟨1, 0, none⟩ = some (.iface 269 (.pointer (some (A 2)))) := hE2.cell 2 (by omega)
      clear hX2 h2 hE2 hb2
      rw [hc] at HLN
      go_upto_region 7 with fail
      go_quiet (fail)
      go_wp2_with fail
      go_ret2
      exact .inr (.inr (.inl ⟨hk, hc, rfl, HB2.out.trans ((below_drew rfl).mono HB2.out.size)⟩))
    · have hc1 : ¬ (cntF r.kf 16 : Int) = 4 := by omega
      have HC := ok.cfg
      go_upto_region 8 with fail
      go_cut [6] (fun t wx => ∃ kb bg, t = .pointer (some ⟨kb, 0, none⟩) ∧ KAt wx W2.heap.size kb (kn0 r.K r.N r.S len bg) ∧ Below W2.heap.size W2 wx)
      case first =>
        clear hX2 h2 hE2 hb2 y0 y1 y3 y4 y5 y6 d3 d4 HLN
        go_region_with (go_at_call 75; refine (gof_any r.K r.N r.S len HC hlen _).mono ?_; rintro e w1 ⟨kb, bg, rfl, hK1, hb3⟩)
        all_goals go_wp2_with fail
        all_goals go_meet
        all_goals exact ⟨kb, bg, rfl, hK1, Below.undraw hb3⟩
      case rest =>
        obtain ⟨kb, bg, rfl, hK3, hb3⟩ := hcut
        have hs2 := hb2.size
        have h3 := h2.above hb3
        have hX3 := (hb3.block w.heap.size (lt_of_block hX2)).trans hX2
        have hB2 : B ≤ W2.heap.size := Nat.le_trans h2.low.1 (Nat.le_of_lt (lt_of_block h2.blk))
        have hf2 : ∀ {b}, r.foot rb b → b < W2.heap.size := fun q => (h2.foot_lt q).2
        have hcell : Below wc.heap.size wc wc.drew := (Below.refl _ wc).drew
        obtain ⟨W6, HPUT, hR6, hB6⟩ := (h3.above hcell).put hm hk (by omega) ((hK3.above hcell).base hB2) (fun b q q' => by have := ((hK3.foot_lt q)).1; have := hf2 q'; omega)
        have HFIN : Hid _ := And.intro hR6 hB6
        have HB3 : Hid _ := hb3
        have HKB : Hid (W2.heap.size ≤ kb ∧ W2.heap.size ≤ bg) := ⟨hK3.low, hK3.low2⟩
        clear y0 y1 y2 y3 y4 y5 y6 d0 d1 d2 d3 d4 HLN hX2 h2 hE2 hb2
        obtain ⟨y0, y1, y2, y3, y4, y5, y6⟩ := pk7 hX3
        obtain ⟨d0, d1, d2, d3, d4⟩ := h3.head
        clear hK3 hb3 h3 hX3 hR6 hB6
        go_upto_region 9 with fail
        have HBUT : Hid (But (fun b => b = r.mb) w W6) := (Below.but (HB2.out.trans ((HB3.out.trans (hcell.mono HB3.out.size)).mono HB2.out.size)) _ (fun i h1 h2 => absurd h1 h2)).trans HFIN.out.2
        go_region_with fail
        all_goals go_wp2_with fail
        all_goals go_ret2
        all_goals exact .inr (.inr (.inr ⟨hk, by omega, kb, bg, rfl, ⟨Nat.le_trans HB2.out.size HKB.out.1, Nat.le_trans HB2.out.size HKB.out.2⟩, HFIN.out.1, HBUT.out⟩))

end Go.Proofs.YtjabhnhejbhgjaaGreatDoor
