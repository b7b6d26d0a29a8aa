/- bytes.Clone; package wire: parseData. -/
import Derived.Test.YtjabhnhejbhgjaaGreatDoorHeadWalk
import Derived.Test.YtjabhnhejbhgjaaGreatDoorCutWalks
import Derived.Test.YtjabhnhejbhgjaaGreatDoorLendWalk
namespace Go.Proofs.YtjabhnhejbhgjaaGreatDoor
open Go.RowKit

theorem Bs.cells_at {w : World} {b o : Nat} {l : List Gf.F} (h : Bs w b o l) : ∀ j v, (encL l)[j]? = some v → w.cell? ((⟨b, o, none⟩ : Addr).add j) = some v := by
  intro j v hj
  have hl : j < l.length := by have := (List.getElem?_eq_some_iff.1 hj).1; simpa [encL] using this
  have e : (⟨b, o, none⟩ : Addr).add j = ⟨b, o + j, none⟩ := by unfold Addr.add; split <;> simp_all
  rw [e, h j hl]
  simp [encL, at_, List.getD, hl] at hj ⊢
  exact hj
theorem Tryz.someNotNil (b o n c : Nat) (w : World) : (binOp BinOp.eql 33 (.slice (some ⟨b, o, none⟩) n c) (.slice none 0 0)).run Tryz.prog w = .ok (.bool false) w := by kernel_rfl

set_option maxRecDepth 100000 in
set_option maxHeartbeats 1000000 in
theorem clone_any (b o n c : Nat) (l : List Gf.F) (w : World) (hl : l.length = n) (hn : 1 ≤ n) (hn2 : n ≤ 100000) (hB : Bs w b o l) :
    Calls Tryz.prog 62 #[.slice (some ⟨b, o, none⟩) n c] w fun e w' => ∃ a c', e = .returned (.slice a n c') ∧ w'.ownsRow w.heap.size 5 1 (.slice a n c') n (encL l) ∧ Below w.heap.size w w' := by
  obtain ⟨iU, hiU, hiU0, hiU1, hiU2⟩ := Tryz.u8_parts
  have hown : (w.alloc (.cells #[] 5)).ownsRow w.heap.size 5 1 (.slice (some ⟨w.heap.size, 0, none⟩) 0 0) 0 [] := ⟨rfl, .inr ⟨w.heap.size, 0, #[], rfl, Nat.le_refl _, heap_alloc_new w _, Nat.le_refl _, by unfold maxLen; omega, rfl, rfl⟩⟩
  have HB : Hid (∀ j v, (encL l)[j]? = some v → (w.alloc (.cells #[] 5)).cell? ((⟨b, o, none⟩ : Addr).add j) = some v) := fun j v hj => by
    have h1 := hB.cells_at j v hj
    rw [World.cell?_alloc_lt _ _ _ (lt_of_cell h1)]; exact h1
  have HE : Hid (∀ u ∈ encL l, u.oneCell' = true) := encL_one l
  have HLE : Hid ((encL l).length = n * 1) := by show _ = _; simp [encL, hl]
  clear hB
  have hnil := Tryz.someNotNil
  go_enter Tryz.func62, Tryz.ntmps62
  go_wp2_with (at_builtin; refine wpList_append_apart rfl _ _ _ rfl w.heap.size 5 iU (.int .u8 0) 1 1 Tryz.underlying33 hiU hiU0 hiU1 hiU2 rfl (by omega) (.slice (some ⟨w.heap.size, 0, none⟩) 0 0) 0 [] rfl hown ⟨b, o, none⟩ n c (encL l) rfl HLE.out HB.out HE.out (by omega) ?c3 ?c4 ?c5 ?c6 ?_)
  case c3 => unfold maxLen; omega
  case c4 => omega
  case c5 => omega
  case c6 => simp
  intro g6 cap6 w6 hown6 hgr6 hlie6 hlt6
  have hb6 : Below w.heap.size w w6 := ((Below.refl _ w).alloc (Nat.le_refl _) _).grown hgr6 (by simp) (fun t ht => by simp [Value.ownBlock] at ht; omega)
  clear hgr6 hlie6 hlt6
  go_wp2_with fail
  go_ret
  exact ⟨_, _, rfl, by simpa using hown6, hb6⟩

set_option maxRecDepth 100000 in
set_option maxHeartbeats 1000000 in
theorem place_any (pb bb K N S T b p : Nat) (hc : Cfg K N S) (hT : T ≤ 70000) (hb : b * K < T) (w : World) (hp : w.heap[pb]? = some (.cells #[.int .i64 (K : Int), .int .i64 (N : Int), .int .i64 (S : Int), .int .i64 (T : Int)] 148 (0, 0))) (hv : w.cell? ⟨bb, 0, none⟩ = some (.int .i64 (b : Int))) :
    Calls Tryz.prog 109 #[.int .i64 (p : Int), .pointer (some ⟨pb, 0, none⟩), .pointer (some ⟨bb, 0, none⟩)] w fun e w' => e = .returned (.bool (plcN K N T b p)) ∧ Below w.heap.size w w' := by
  have c0 : w.cell? ⟨pb, 0, none⟩ = some (.int .i64 (K : Int)) := cell_of_row w _ 0 _ _ _ hp
  have c1 : w.cell? ⟨pb, 1, none⟩ = some (.int .i64 (N : Int)) := cell_of_row w _ 1 _ _ _ hp
  have c2 : w.cell? ⟨pb, 2, none⟩ = some (.int .i64 (S : Int)) := cell_of_row w _ 2 _ _ _ hp
  have c3 : w.cell? ⟨pb, 3, none⟩ = some (.int .i64 (T : Int)) := cell_of_row w _ 3 _ _ _ hp
  have hP := fun w => hasPlace_any K N S T b p hc hT hb w
  clear hp
  go_enter Tryz.func109, Tryz.ntmps109
  go_wp2_with fail
  refine (hP _).mono ?_
  rintro e w1 ⟨rfl, hb1⟩
  go_wp2_with fail
  go_ret
  exact ⟨rfl, hb1⟩

theorem calls_enters_place (args : Array Value) (w : World) : (callFunc 109 args).run Tryz.prog w = .ok (.enter 109 args) w := enters_of Tryz.func109 (by kernel_rfl) rfl args w
theorem calls_enters_hasBlock (args : Array Value) (w : World) : (callFunc 108 args).run Tryz.prog w = .ok (.enter 108 args) w := enters_of Tryz.func108 (by kernel_rfl) rfl args w

/-- What is wrong with a DATA packet behind its head, counted from there. -/
def dataB (K N S T : Nat) (m : List Gf.F) : Option (Nat × Nat) :=
  if m.length < 1 then some (4, m.length) else if winB (bt m 0 : Int) 0 ((partsN T K : Int) - 1) = false then some (6, 0) else if m.length < 2 then some (4, m.length) else if plcN K N T (bt m 0) (bt m 1) = false then some (6, 1)
  else if m.length < 2 + S then some (4, m.length) else if 2 + S < m.length then some (7, 2 + S) else none

/-- What parseData gives. -/
def DataGives (A : Nat → Addr) (K N S T rb : Nat) (m : List Gf.F) (w : World) (e : Ending) (w' : World) : Prop :=
  (match dataB K N S T m with
  | some (c, k) => ∃ (x y : Int) (a : Option Addr) (n1 c1 : Nat) (v : Value), e = .returned (.tuple #[.int .i64 x, .int .i64 y, .slice a n1 c1, v]) ∧ Wr w w' v (k : Int) (E A c)
  | none => ∃ (a : Option Addr) (c1 : Nat), e = .returned (.tuple #[.int .i64 (bt m 0 : Int), .int .i64 (bt m 1 : Int), .slice a S c1, .nilIface]) ∧ w'.ownsRow w.heap.size 5 1 (.slice a S c1) S (encL (m.drop 2))) ∧ But (fun g => g = rb) w w'

/-- In the middle of parseData. -/
structure DataSt (w W : World) (K N S T rb : Nat) (v : Value) (k : Nat) (z : Int) : Prop where
  but : But (fun g => g = rb) w W
  plan : W.heap[w.heap.size]? = some (.cells #[.int .i64 (K : Int), .int .i64 (N : Int), .int .i64 (S : Int), .int .i64 (T : Int)] 148 (0, 0))
  res : W.heap[w.heap.size + 1]? = some (.cells #[.int .i64 z] 3 (0, 0))
  rdr : Rdr W rb v k
  low : rb < w.heap.size

theorem DataSt.start {w : World} {K N S T rb k : Nat} {v : Value} (h : Rdr w rb v k) : DataSt w ((w.alloc (.cells #[.int .i64 (K : Int), .int .i64 (N : Int), .int .i64 (S : Int), .int .i64 (T : Int)] 148)).alloc (.cells #[.int .i64 0] 3)) K N S T rb v k 0 := by
  have hl := h.lt
  refine ⟨((But.refl _ w).alloc _).alloc _, ?_, ?_, h.kept ?_, hl⟩
  · rw [Below.heap_alloc _ _ _ (by simp)]; exact heap_alloc_new w _
  · have := heap_alloc_new (w.alloc (.cells #[.int .i64 (K : Int), .int .i64 (N : Int), .int .i64 (S : Int), .int .i64 (T : Int)] 148)) (.cells #[.int .i64 0] 3)
    rw [World.size_alloc] at this
    exact this
  · rw [Below.heap_alloc _ _ _ (by simp; omega), Below.heap_alloc _ _ _ hl]
theorem DataSt.next {w W W' : World} {K N S T rb k k' : Nat} {v : Value} {z : Int} (h : DataSt w W K N S T rb v k z) (hb : But (fun g => g = rb) W W') (hr : Rdr W' rb v k') : DataSt w W' K N S T rb v k' z :=
  ⟨h.but.trans hb, by rw [hb.block _ (lt_of_block h.plan) (by have := h.low; omega)]; exact h.plan, by rw [hb.block _ (lt_of_block h.res) (by have := h.low; omega)]; exact h.res, hr, h.low⟩
theorem DataSt.set {w W : World} {K N S T rb k : Nat} {v : Value} {z : Int} (h : DataSt w W K N S T rb v k z) (y : Int) : DataSt w (W.setCell ⟨w.heap.size + 1, 0, none⟩ (.int .i64 y)) K N S T rb v k y :=
  ⟨h.but.setCell (.inr (by show w.heap.size ≤ w.heap.size + 1; omega)) _, by rw [Below.heap_setCell W ⟨w.heap.size + 1, 0, none⟩ _ w.heap.size (by show w.heap.size ≠ w.heap.size + 1; omega)]; exact h.plan, heap_setCell_same _ _ 0 _ _ _ h.res, h.rdr.kept (Below.heap_setCell W ⟨w.heap.size + 1, 0, none⟩ _ rb (by have := h.low; show rb ≠ w.heap.size + 1; omega)), h.low⟩
theorem DataSt.grow {w W W' : World} {K N S T rb k : Nat} {v : Value} {z : Int} (h : DataSt w W K N S T rb v k z) (hb : Below W.heap.size W W') : DataSt w W' K N S T rb v k z :=
  h.next (Below.but hb _ (fun _ hi h => absurd hi h)) (h.rdr.kept (hb.block _ h.rdr.lt))

end Go.Proofs.YtjabhnhejbhgjaaGreatDoor
