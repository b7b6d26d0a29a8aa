/- Package wire: Wrong, and the reader. -/
import Derived.Test.YtjabhnhejbhgjaaGreatDoorMany4
import Derived.Test.YtjabhnhejbhgjaaGreatDoorIsWalk
import Derived.Deep.QuietTactic
import Derived.BigQuiet
import Derived.Deep.RegionWith
namespace Go.Proofs.YtjabhnhejbhgjaaGreatDoor
open Go.RowKit

/-- The reader in block rb: what it reads, and how far it has come. -/
def Rdr (w : World) (rb : Nat) (v : Value) (k : Nat) : Prop := w.heap[rb]? = some (.cells #[v, .int .i64 (k : Int)] 160 (0, 0))
theorem Rdr.lt {w : World} {rb k : Nat} {v : Value} (h : Rdr w rb v k) : rb < w.heap.size := (Array.getElem?_eq_some_iff.1 h).1
theorem Rdr.c0 {w : World} {rb k : Nat} {v : Value} (h : Rdr w rb v k) : w.cell? ⟨rb, 0, none⟩ = some v := cell_of_row w rb 0 _ _ _ h
theorem Rdr.c1 {w : World} {rb k : Nat} {v : Value} (h : Rdr w rb v k) : w.cell? ⟨rb, 1, none⟩ = some (.int .i64 (k : Int)) := cell_of_row w rb 1 _ _ _ h
theorem Rdr.fr {w : World} {rb k : Nat} {v : Value} (h : Rdr w rb v k) (i : Nat) : w.frozen? ⟨rb, i, none⟩ = false := frozen_of_row w rb i _ _ h
theorem Rdr.kept {w w' : World} {rb k : Nat} {v : Value} (h : Rdr w rb v k) (hk : w'.heap[rb]? = w.heap[rb]?) : Rdr w' rb v k := by unfold Rdr; rw [hk]; exact h
theorem Rdr.set {w : World} {rb k j : Nat} {v : Value} (h : Rdr w rb v k) : Rdr (w.setCell ⟨rb, 1, none⟩ (.int .i64 (j : Int))) rb v j := by unfold Rdr; rw [heap_setCell_same w rb 1 _ _ _ h]; rfl

/-- A *api.Bad, new since w, in w'. -/
def Wr (w w' : World) (u : Value) (z : Int) (x : Value) : Prop := ∃ pb, u = .iface 166 (.pointer (some ⟨pb, 0, none⟩)) ∧ w.heap.size ≤ pb ∧ w'.heap[pb]? = some (.cells #[.int .i64 z, x] 168 (0, 0))

set_option maxHeartbeats 400000 in
theorem wrong_any (u : TypeId) (x : Value) (z : Int) (w : World) :
    Calls Tryz.prog 41 #[.iface u x, .int .i64 z] w fun e w' => e = .returned (.iface 166 (.pointer (some ⟨w.heap.size, 0, none⟩))) ∧ w' = w.alloc (.cells #[.int .i64 z, .iface u x] 168) := by
  go_enter Tryz.func41, Tryz.ntmps41
  go_wp2
  go_ret
  exact ⟨rfl, rfl⟩

theorem wr_new (w : World) (u : TypeId) (x : Value) (z : Int) (nq : Nat) : Wr w ((w.drewN nq).alloc (.cells #[.int .i64 z, .iface u x] 168)) (.iface 166 (.pointer (some ⟨w.heap.size, 0, none⟩))) z (.iface u x) ∧ Below w.heap.size w ((w.drewN nq).alloc (.cells #[.int .i64 z, .iface u x] 168)) :=
  ⟨⟨w.heap.size, rfl, Nat.le_refl _, heap_alloc_new (w.drewN nq) _⟩, (show Below w.heap.size w (w.drewN nq) from ⟨rfl, rfl, rfl, Nat.le_refl _, fun _ _ => rfl⟩).alloc (Nat.le_refl _) _⟩

set_option maxRecDepth 100000 in
set_option maxHeartbeats 1000000 in
theorem next_short (a : Option Addr) (rb n c k size : Nat) (u : TypeId) (x : Value) (w : World) (hR : Rdr w rb (.slice a n c) k) (_hn : n ≤ 140737488355328) (hk : k ≤ n) (hs : n - k < size) (_hs2 : size ≤ 100)
    (hg : w.cell? ⟨6, 0, none⟩ = some (.iface u x)) :
    Calls Tryz.prog 111 #[.pointer (some ⟨rb, 0, none⟩), .int .i64 (size : Int)] w fun e w' =>
      ∃ v, e = .returned (.tuple #[.slice none 0 0, v]) ∧ Wr w w' v (n : Int) (.iface u x) ∧ Below w.heap.size w w' := by
  have c0 := hR.c0
  have c1 := hR.c1
  have hlt : (n : Int) - (k : Int) < (size : Int) := by omega
  clear hR
  go_enter Tryz.func111, Tryz.ntmps111
  go_wp2_with fail
  go_quiet (fail)
  go_wp2_with fail
  go_region_with (go_at_call 41; refine (wrong_any _ _ _ _).mono ?_; rintro e w' ⟨rfl, rfl⟩)
  all_goals go_wp2_with fail
  all_goals go_ret2
  all_goals exact ⟨_, rfl, (wr_new w u x (n : Int) _).1, (wr_new w u x (n : Int) _).2⟩

set_option maxRecDepth 100000 in
set_option maxHeartbeats 1000000 in
theorem next_ok (rb b o n c k size : Nat) (w : World) (hR : Rdr w rb (.slice (some ⟨b, o, none⟩) n c) k) (hn : n ≤ c) (_hc : c ≤ 9223372036854775807) (hs : 1 ≤ size) (hk : k + size ≤ n) (hn2 : n ≤ 140737488355328) :
    Calls Tryz.prog 111 #[.pointer (some ⟨rb, 0, none⟩), .int .i64 (size : Int)] w fun e w' =>
      e = .returned (.tuple #[.slice (some ⟨b, o + k, none⟩) size (c - k), .nilIface]) ∧ Rdr w' rb (.slice (some ⟨b, o, none⟩) n c) (k + size) ∧ But (fun g => g = rb) w w' := by
  have c0 := hR.c0
  have c1 := hR.c1
  have f1 := hR.fr 1
  have hlt : ¬ (n : Int) - (k : Int) < (size : Int) := by omega
  have HR : Hid (Rdr w rb (.slice (some ⟨b, o, none⟩) n c) k) := hR
  have hck : ¬ c = k := by omega
  have hck2 : ¬ c - k = 0 := by omega
  clear hR
  go_enter Tryz.func111, Tryz.ntmps111
  go_wp2_with fail
  go_quiet (fail)
  go_wp2_with fail
  go_quiet (fail)
  go_wp2_with fail
  have ek : k + size - k = size := by omega
  rw [ek]
  go_ret2
  refine ⟨rfl, ?_, ?_⟩
  · exact (show Rdr (w.drewN _) rb (.slice (some ⟨b, o, none⟩) n c) k from HR.out).set
  · exact But.setCell (S := fun g => g = rb) (show But (fun g => g = rb) w (w.drewN _) from ⟨rfl, rfl, rfl, Nat.le_refl _, fun _ _ _ => rfl⟩) (p := ⟨rb, 1, none⟩) (.inl rfl) _

set_option maxRecDepth 100000 in
set_option maxHeartbeats 1000000 in
/-- errors.Is at nil. -/
theorem is_nil (A : Nat → Addr) (B : Nat) (j : Nat) (hj : j < 8) (w : World) (hE : Errs A B w) :
    Calls Tryz.prog 127 #[.nilIface, E A (j + 1)] w fun e w' => e = .returned (.bool false) ∧ w' = w := by
  have heq := hE.eql 0 (j + 1) (by omega) (by omega)
  have hdec : decide (0 = j + 1) = false := by simp
  rw [hdec] at heq
  clear hdec
  rw [E_zero, E_succ] at heq
  rw [E_succ]
  go_enter Tryz.func127, Tryz.ntmps127
  go_wp2
  go_ret
  exact ⟨rfl, rfl⟩

set_option maxRecDepth 100000 in
set_option maxHeartbeats 1000000 in
theorem end_ok (A : Nat → Addr) (B0 : Nat) (a : Option Addr) (rb n c : Nat) (w : World) (hE : Errs A B0 w) (hR : Rdr w rb (.slice a n c) n) (hn : n ≤ 140737488355328) :
    Calls Tryz.prog 112 #[.pointer (some ⟨rb, 0, none⟩)] w fun e w' => e = .returned .nilIface ∧ Below w.heap.size w w' := by
  have c0 := hR.c0
  have c1 := hR.c1
  have hb1 : Below w.heap.size w (w.alloc (.cells #[.slice a n c, .int .i64 (n : Int)] 160)) := (Below.refl _ _).alloc (Nat.le_refl _) _
  have hR1 : Rdr (w.alloc (.cells #[.slice a n c, .int .i64 (n : Int)] 160)) w.heap.size (.slice a n c) n := heap_alloc_new w (.cells #[.slice a n c, .int .i64 (n : Int)] 160)
  have hE1 := hE.shrink _ hb1
  have hsz1 : w.heap.size ≤ (w.alloc (.cells #[.slice a n c, .int .i64 (n : Int)] 160)).heap.size := hb1.size
  clear hR
  go_enter Tryz.func112, Tryz.ntmps112
  go_wp2_with fail
  refine (next_short a w.heap.size n c n 1 _ _ _ hR1 hn (Nat.le_refl _) (by omega) (by omega) (hE1.cell 3 (by omega))).mono ?_
  rintro e w1 ⟨v, rfl, ⟨pb, rfl, hpb, hblk⟩, hb2⟩
  have hE2 := hE1.shrink _ hb2
  have hp1 : w1.cell? ⟨pb, 1, none⟩ = some (E A (3 + 1)) := cell_of_row w1 pb 1 _ _ _ hblk
  have hg : w1.cell? ⟨6, 0, none⟩ = some (.iface 269 (.pointer (some (A 3)))) := hE2.cell 3 (by omega)
  have hb3 : Below w.heap.size w w1 := hb1.trans (hb2.mono hsz1)
  clear hb1 hR1 hE1 hb2 c0 c1 hblk hpb hsz1
  go_wp2_with (go_at_call 127; refine (is_bad_same A B0 3 (by omega) pb _ hE2 hp1).mono ?_; rintro e w' ⟨rfl, rfl⟩)
  go_ret
  exact ⟨rfl, hb3⟩

set_option maxRecDepth 100000 in
set_option maxHeartbeats 1000000 in
theorem end_long (A : Nat → Addr) (B0 rb b o n c k : Nat) (w : World) (hE : Errs A B0 w) (hR : Rdr w rb (.slice (some ⟨b, o, none⟩) n c) k) (hk : k < n) (hnc : n ≤ c) (hc : c ≤ 9223372036854775807) (hn : n ≤ 140737488355328) :
    Calls Tryz.prog 112 #[.pointer (some ⟨rb, 0, none⟩)] w fun e w' => ∃ v, e = .returned v ∧ Wr w w' v (k : Int) (E A 7) ∧ Below w.heap.size w w' := by
  have c0 := hR.c0
  have c1 := hR.c1
  have hrl := hR.lt
  have hb1 : Below w.heap.size w (w.alloc (.cells #[.slice (some ⟨b, o, none⟩) n c, .int .i64 (k : Int)] 160)) := (Below.refl _ _).alloc (Nat.le_refl _) _
  have hR1 : Rdr (w.alloc (.cells #[.slice (some ⟨b, o, none⟩) n c, .int .i64 (k : Int)] 160)) w.heap.size (.slice (some ⟨b, o, none⟩) n c) k := heap_alloc_new w (.cells #[.slice (some ⟨b, o, none⟩) n c, .int .i64 (k : Int)] 160)
  have hsz1 : w.heap.size ≤ (w.alloc (.cells #[.slice (some ⟨b, o, none⟩) n c, .int .i64 (k : Int)] 160)).heap.size := hb1.size
  have hR0 := hR
  clear hR
  go_enter Tryz.func112, Tryz.ntmps112
  go_wp2_with fail
  refine (next_ok w.heap.size b o n c k 1 _ hR1 hnc hc (by omega) (by omega) hn).mono ?_
  rintro e w1 ⟨rfl, hR2, hb2⟩
  have hb3 : Below w.heap.size w w1 := hb1.trans (hb2.toBelow hsz1 (fun i hi q => by omega))
  have hE2 := hE.shrink _ hb3
  have hgS : w1.cell? ⟨6, 0, none⟩ = some (.iface 269 (.pointer (some (A 3)))) := hE2.cell 3 (by omega)
  have hgL : w1.cell? ⟨7, 0, none⟩ = some (.iface 269 (.pointer (some (A 6)))) := hE2.cell 6 (by omega)
  have k1 : w1.cell? ⟨rb, 1, none⟩ = some (.int .i64 (k : Int)) := (hR0.kept (hb3.block rb hrl)).c1
  have key : ∀ nq, Wr w ((w1.drewN nq).alloc (.cells #[.int .i64 (k : Int), .iface 269 (.pointer (some (A 6)))] 168)) (.iface 166 (.pointer (some ⟨w1.heap.size, 0, none⟩))) (k : Int) (E A 7) ∧ Below w.heap.size w ((w1.drewN nq).alloc (.cells #[.int .i64 (k : Int), .iface 269 (.pointer (some (A 6)))] 168)) :=
    fun nq => ⟨⟨w1.heap.size, rfl, hb3.size, heap_alloc_new (w1.drewN nq) _⟩, hb3.trans ((wr_new w1 269 (.pointer (some (A 6))) (k : Int) nq).2.mono hb3.size)⟩
  clear hb1 hR1 hb2 c0 c1 hsz1 hR0 hR2
  go_wp2_with (go_at_call 127; refine (is_nil A B0 3 (by omega) _ hE2).mono ?_; rintro e w' ⟨rfl, rfl⟩)
  go_region_with (go_at_call 41; refine (wrong_any _ _ _ _).mono ?_; rintro e w' ⟨rfl, rfl⟩)
  all_goals go_wp2_with fail
  all_goals go_ret
  all_goals exact ⟨_, rfl, (key _).1, (key _).2⟩

/-- The number in size bytes from k on. -/
def numAt (l : List Gf.F) (k : Nat) : Nat → Nat
  | 0 => 0
  | j + 1 => numAt l k j * 256 + (at_ l (k + j)).toNat

theorem numAt_lt (l : List Gf.F) (k : Nat) : ∀ j, numAt l k j < 256 ^ j
  | 0 => by simp [numAt]
  | j + 1 => by
    have h1 := numAt_lt l k j
    have h2 := (at_ l (k + j)).isLt
    have e : numAt l k (j + 1) = numAt l k j * 256 + (at_ l (k + j)).toNat := rfl
    rw [e, Nat.pow_succ]
    omega
theorem ofInt64_more (a : Nat) (ha : a < 1048576) : (BitVec.ofInt 64 (a : Int)).toNat = a := by
  rw [BitVec.ofInt_natCast, BitVec.toNat_ofNat]; exact Nat.mod_eq_of_lt (by omega)
theorem i64_or_nat (a b : Nat) (ha : a < 256) (hb : b < 256) : bits .or .i64 ((a : Int) * 256) (b : Int) = ((a * 256 + b : Nat) : Int) := by
  have e1 : ((a : Int) * 256) = ((a * 256 : Nat) : Int) := by omega
  have e2 : a * 256 ||| b = a * 256 + b := by rw [show a * 256 = a <<< 8 by rw [Nat.shiftLeft_eq], Nat.shiftLeft_add_eq_or_of_lt (by omega : b < 2 ^ 8)]
  rw [e1]
  show IntKind.i64.wrap ((BitVec.ofInt 64 ((a * 256 : Nat) : Int) ||| BitVec.ofInt 64 (b : Int)).toNat : Int) = _
  rw [BitVec.toNat_or, ofInt64_more _ (by omega), ofInt64_more _ (by omega), e2, IntKind.wrap_i64]
  omega

set_option maxRecDepth 100000 in
set_option maxHeartbeats 1000000 in
theorem number_short (a : Option Addr) (rb n c k size : Nat) (u : TypeId) (x : Value) (uw : TypeId) (xw : Value) (may : Value) (w : World) (hR : Rdr w rb (.slice a n c) k) (hn : n ≤ 140737488355328) (hk : k ≤ n) (hs : n - k < size) (hs2 : size ≤ 100)
    (hg : w.cell? ⟨6, 0, none⟩ = some (.iface u x)) :
    Calls Tryz.prog 104 #[.pointer (some ⟨rb, 0, none⟩), .int .i64 (size : Int), .iface uw xw, may] w fun e w' =>
      ∃ v, e = .returned (.tuple #[.int .i64 0, v]) ∧ Wr w w' v (n : Int) (.iface u x) ∧ Below w.heap.size w w' := by
  have c1 := hR.c1
  go_enter Tryz.func104, Tryz.ntmps104
  go_wp2_with fail
  refine (next_short a rb n c k size u x w hR hn hk hs hs2 hg).mono ?_
  rintro e w1 ⟨v, rfl, ⟨pb, rfl, hpb, hblk⟩, hb⟩
  go_wp2_with fail
  go_ret2
  exact ⟨_, rfl, ⟨pb, rfl, hpb, hblk⟩, hb⟩

set_option maxRecDepth 100000 in
set_option maxHeartbeats 1000000 in
/-- number: there is one; what it is told of it. -/
theorem number_all (rb b o n c k size : Nat) (l : List Gf.F) (uw : TypeId) (xw : Value) (kf : FuncId) (first caps : Array Value) (m : Bool) (w : World) (hen : ∀ (args : Array Value) (w : World), (callFunc kf args).run Tryz.prog w = .ok (.enter kf args) w) (hR : Rdr w rb (.slice (some ⟨b, o, none⟩) n c) k) (hl : l.length = n) (hn : n ≤ c) (hc : c ≤ 9223372036854775807) (hs : 1 ≤ size) (hs2 : size ≤ 2) (hk : k + size ≤ n) (hn2 : n ≤ 140737488355328)
    (hB : Bs w b o l) (hbr : b ≠ rb) (hmay : ∀ W, But (fun g => g = rb) w W → Calls Tryz.prog kf (first.push (.int .i64 (numAt l k size : Int)) ++ caps) W fun e W' => e = .returned (.bool m) ∧ Below W.heap.size W W') :
    Calls Tryz.prog 104 #[.pointer (some ⟨rb, 0, none⟩), .int .i64 (size : Int), .iface uw xw, .func (.func kf) first caps] w fun e w' =>
      (if m = true then e = .returned (.tuple #[.int .i64 (numAt l k size : Int), .nilIface]) else ∃ v, e = .returned (.tuple #[.int .i64 0, v]) ∧ Wr w w' v (k : Int) (.iface uw xw)) ∧ Rdr w' rb (.slice (some ⟨b, o, none⟩) n c) (k + size) ∧ But (fun g => g = rb) w w' := by
  have c1 := hR.c1
  have HL : Hid (l.length = n) := hl
  go_enter Tryz.func104, Tryz.ntmps104
  go_wp2_with fail
  refine (next_ok rb b o n c k size w hR hn hc hs hk hn2).mono ?_
  rintro e w1 ⟨rfl, hR1, hb1⟩
  have HB1 : Hid (∀ j, j < size → w1.cell? ⟨b, o + k + j, none⟩ = some (.int .u8 ((at_ l (k + j)).toNat : Int))) := fun j hj => by
    have h1 := hB (k + j) (by rw [hl]; omega)
    rw [show o + k + j = o + (k + j) by omega]
    rw [World.cell?_of_block (hb1.block b (lt_of_cell h1) hbr)]
    exact h1
  clear hR c1 hB hl
  go_wp2_with fail
  go_loopw [13, 31] (fun t13 t31 wr => ∃ j : Nat, j ≤ size ∧ t13 = .int .i64 (numAt l k j : Int) ∧ t31 = .int .i64 (j : Int) ∧ wr = w1) (fun _ t _ => size - (intOf t).toNat)
  case atStart => exact ⟨0, by omega, rfl, rfl, rfl⟩
  case round =>
    obtain ⟨j, hj, rfl, rfl, rfl⟩ := hrel
    by_cases hlt : j < size
    · have hcj := HB1.out j hlt
      have hbd := (at_ l (k + j)).isLt
      have hjs : (j : Int) < (size : Int) := by omega
      have hnj : numAt l k j < 256 := by
        have h1 := numAt_lt l k j
        have : j = 0 ∨ j = 1 := by omega
        rcases this with rfl | rfl
        · simp at h1; omega
        · simpa using h1
      have HO : Hid (bits .or .i64 ((numAt l k j : Int) * 256) ((at_ l (k + j)).toNat : Int) = (numAt l k (j + 1) : Int)) := i64_or_nat _ _ hnj hbd
      go_wp2_with fail
      refine ⟨⟨j + 1, by omega, by rw [HO.out], by go_num, trivial⟩, by simp [intOf]; omega⟩
    · obtain rfl : j = size := by omega
      have HR1 : Hid (Rdr wr rb (.slice (some ⟨b, o, none⟩) n c) (k + j)) := hR1
      have HB : Hid (But (fun g => g = rb) w wr) := hb1
      have HMAY := hmay wr hb1
      clear hmay hR1 hb1
      cases m
      · go_wp2_with fail
        refine HMAY.mono ?_
        rintro e w2 ⟨rfl, hb2⟩
        go_wp2_with (go_at_call 41; refine (wrong_any _ _ _ _).mono ?_; rintro e w' ⟨rfl, rfl⟩)
        go_ret2
        have hs2 := hb2.size
        have hs1 := HB.out.size
        have hrl := HR1.out.lt
        have hbw : But (fun g => g = rb) w w2 := HB.out.below hb2 (fun i hi h => absurd (Nat.lt_of_lt_of_le hi hs1) h)
        refine ⟨⟨_, rfl, w2.heap.size, rfl, by omega, heap_alloc_new w2 _⟩, HR1.out.kept ?_, hbw.alloc _⟩
        rw [Below.heap_alloc w2 _ rb (by omega)]
        exact hb2.block rb hrl
      · go_wp2_with fail
        refine HMAY.mono ?_
        rintro e w2 ⟨rfl, hb2⟩
        go_wp2_with fail
        go_ret2
        exact ⟨rfl, HR1.out.kept (hb2.block rb HR1.out.lt), HB.out.below hb2 (fun i hi h => absurd (Nat.lt_of_lt_of_le hi HB.out.size) h)⟩

end Go.Proofs.YtjabhnhejbhgjaaGreatDoor
