import Derived.Test.YtjabhnhejbhgjaaGreatDoorErrs
import Derived.Test.YtjabhnhejbhgjaaGreatDoorMany1
import Derived.Test.YtjabhnhejbhgjaaGreatDoorRows
import Derived.Test.YtjabhnhejbhgjaaGreatDoorMem
import Derived.Laws.BytesArg
import Derived.Laws.CopyRow
import Derived.Deep.AppendLies
/- number: which of package api's errors it is. -/
namespace Go.Proofs.YtjabhnhejbhgjaaGreatDoor
open Go.RowKit

/-- The list that number makes. -/
def nineCells (A : Nat → Addr) : Array Value := #[.nilIface, E A 1, E A 2, E A 3, E A 4, E A 5, E A 6, E A 7, E A 8]

theorem nineCells_at (A : Nat → Addr) (k : Nat) (hk : k < 9) : (nineCells A)[k]? = some (E A k) := by
  have : k = 0 ∨ k = 1 ∨ k = 2 ∨ k = 3 ∨ k = 4 ∨ k = 5 ∨ k = 6 ∨ k = 7 ∨ k = 8 := by omega
  rcases this with rfl | rfl | rfl | rfl | rfl | rfl | rfl | rfl | rfl <;> rfl

theorem cell_alloc_at (w : World) (cs : Array Value) (t : TypeId) (k : Nat) : (w.alloc (.cells cs t)).cell? ⟨w.heap.size, k, none⟩ = cs[k]? := by
  exact World.cell?_alloc_at cs t _ k rfl

set_option maxRecDepth 100000 in
set_option maxHeartbeats 400000 in
theorem number_any (A : Nat → Addr) (B : Nat) (i : Nat) (hi : i < 8) (w : World) (hE : Errs A B w) :
    Calls Tryz.prog 97 #[E A (i + 1)] w fun e w' => e = .returned (.int .i64 ((i : Int) + 1)) ∧ Below w.heap.size w w' := by
  have c0 : w.cell? ⟨4, 0, none⟩ = some (.iface 269 (.pointer (some (A 0)))) := hE.cell 0 (by omega)
  have c1 : w.cell? ⟨5, 0, none⟩ = some (.iface 269 (.pointer (some (A 1)))) := hE.cell 1 (by omega)
  have c2 : w.cell? ⟨1, 0, none⟩ = some (.iface 269 (.pointer (some (A 2)))) := hE.cell 2 (by omega)
  have c3 : w.cell? ⟨6, 0, none⟩ = some (.iface 269 (.pointer (some (A 3)))) := hE.cell 3 (by omega)
  have c4 : w.cell? ⟨3, 0, none⟩ = some (.iface 269 (.pointer (some (A 4)))) := hE.cell 4 (by omega)
  have c5 : w.cell? ⟨2, 0, none⟩ = some (.iface 269 (.pointer (some (A 5)))) := hE.cell 5 (by omega)
  have c6 : w.cell? ⟨7, 0, none⟩ = some (.iface 269 (.pointer (some (A 6)))) := hE.cell 6 (by omega)
  have c7 : w.cell? ⟨0, 0, none⟩ = some (.iface 269 (.pointer (some (A 7)))) := hE.cell 7 (by omega)
  go_enter Tryz.func97, Tryz.ntmps97
  go_wp2
  generalize hW : w.alloc (Obj.cells _ _) = W
  have hb : Below w.heap.size w W := by rw [← hW]; exact (Below.refl _ _).alloc (Nat.le_refl _) _
  have hc : ∀ k, k < 9 → W.cell? ⟨w.heap.size, k, none⟩ = some (E A k) := by
    intro k hk
    rw [← hW]
    exact (cell_alloc_at _ _ _ _).trans (nineCells_at A k hk)
  have hE1 := hE.shrink W hb
  clear hW c0 c1 c2 c3 c4 c5 c6 c7
  go_loop [4] (fun t => ∃ k : Nat, k ≤ i + 1 ∧ t = .int .i64 k) (fun t => 9 - (intOf t).toNat)
  case atStart => exact ⟨0, by omega, rfl⟩
  case round =>
    obtain ⟨k, hk, rfl⟩ := hrel
    have hck := hc k (by omega)
    have heq := hE1.eql (i + 1) k (by omega) (by omega)
    have hg := fun x y => eqGuard_err A 45 x y i (E A k) W
    by_cases e : i + 1 = k
    · subst e
      have ed : decide (i + 1 = i + 1) = true := by simp
      rw [ed] at heq
      clear ed
      go_wp2
      go_ret
      exact ⟨rfl, hb⟩
    · have ed : decide (i + 1 = k) = false := by simp [e]
      go_wp2
      go_round
      case rel => exact ⟨k + 1, by omega, by go_num⟩
      case measure => simp [intOf]; omega

end Go.Proofs.YtjabhnhejbhgjaaGreatDoor

/- murmur.Restore. -/
namespace Go.Proofs.YtjabhnhejbhgjaaGreatDoor
open Go.RowKit

/-- What Restore leaves: the list's block S, the symbols' blocks from base on. -/
structure Restored (w w' : World) (S base m n : Nat) (X : List Gf.F) (rs : List Row) : Prop where
  list : w'.heap[S]? = some (.cells (srcCells base m n n) 33 (0, 0))
  syms : ∀ i, i < n → Blk w' (base + i) (symOf X rs (BitVec.ofNat 8 i) m)
  old : w.heap.size ≤ S
  apart : S < base
  size : w'.heap.size = base + n
  below : Below w.heap.size w w'

end Go.Proofs.YtjabhnhejbhgjaaGreatDoor

/- Bytes as a string; a string copied into bytes. -/
namespace Go.Proofs.YtjabhnhejbhgjaaGreatDoor
open Go.RowKit

def nums (l : List Gf.F) : List Int := l.map fun x => (x.toNat : Int)
/-- The string of bytes. -/
def str (l : List Gf.F) : ByteArray := strOfNums (nums l)

theorem Bs.conv {w : World} {b o : Nat} {l : List Gf.F} (h : Bs w b o l) (n c : Nat) (hn : l.length = n) :
    (convert 33 9 (.slice (some ⟨b, o, none⟩) n c)).run Tryz.prog w = .ok (.string (str l)) w := by
  refine run_convert_bytes_arg (P := Tryz.prog) w 33 5 Tryz.underlying33 Tryz.underlying5 b o n c (nums l) (by simp [nums, hn]) (fun i hi => ?_) 9 Tryz.underlying9
  rw [h i (by omega)]
  have : i < l.length := by omega
  simp [nums, at_, List.getD, this]

theorem Bs.convN {w : World} {b o : Nat} {l : List Gf.F} (h : Bs w b o l) (n c : Nat) (hn : l.length = n) (nq : Nat) :
    (convert 33 9 (.slice (some ⟨b, o, none⟩) n c)).run Tryz.prog (w.drewN nq) = .ok (.string (str l)) (w.drewN nq) :=
  Bs.conv (fun i hi => by rw [World.cell?_drewN]; exact h i hi) n c hn

/-- The bytes of a string, as numbers of the field. -/
def bytesIn (s : ByteArray) : List Gf.F := s.data.toList.map fun x => BitVec.ofNat 8 x.toNat

theorem size_data (s : ByteArray) : s.data.toList.length = s.size := Array.length_toList

/-- A string copied into n bytes. -/
def copied (s : ByteArray) (n : Nat) : List Gf.F := (bytesIn s).take n ++ List.replicate (n - s.size) 0

theorem copied_length (s : ByteArray) (n : Nat) : (copied s n).length = n := by
  have := size_data s
  simp only [copied, bytesIn, List.length_append, List.length_take, List.length_map, List.length_replicate]
  omega

theorem copied_enc (s : ByteArray) (n : Nat) : (List.take (s.size.min n) (List.map (fun b : UInt8 => Value.int .u8 (b.toNat : Int)) s.data.toList) ++ List.drop (s.size.min n) (enc (List.replicate n 0#8)).toList).toArray.toList = (enc (copied s n)).toList := by
  have h2 := size_data s
  have e1 : (enc (List.replicate n 0#8)).toList = List.replicate n (Value.int .u8 0) := by simp [enc]
  have e2 : (enc (copied s n)).toList = List.take n (List.map (fun b : UInt8 => Value.int .u8 (b.toNat : Int)) s.data.toList) ++ List.replicate (n - s.size) (Value.int .u8 0) := by
    simp only [enc, copied, bytesIn, List.map_append, List.map_take, List.map_map, List.map_replicate]
    have e3 : List.map ((fun x : Gf.F => Value.int .u8 (x.toNat : Int)) ∘ fun x : UInt8 => BitVec.ofNat 8 x.toNat) s.data.toList = List.map (fun b : UInt8 => Value.int .u8 (b.toNat : Int)) s.data.toList := by
      apply List.map_congr_left
      intro x _
      have hx : x.toNat < 256 := x.toNat_lt
      simp only [Function.comp_apply, BitVec.toNat_ofNat]
      rw [Nat.mod_eq_of_lt (by omega)]
    rw [e3]; rfl
  rw [e1, e2, List.drop_replicate]
  rcases Nat.le_total n s.size with h | h
  · have q : s.size.min n = n := Nat.min_eq_right h
    rw [q, show n - n = n - s.size by omega]
  · have q : s.size.min n = s.size := Nat.min_eq_left h
    rw [q, List.take_of_length_le (by rw [List.length_map, h2]; exact Nat.le_refl _), List.take_of_length_le (by rw [List.length_map, h2]; exact h)]

theorem run_copy_str (w : World) (g n : Nat) (s : ByteArray) (ty : TypeId) (hG : Blk w g (List.replicate n 0)) :
    ∃ w', (Builtin.copy_ #[33, 9] ty #[.slice (some ⟨g, 0, none⟩) n n, .string s]).run Tryz.prog w = .ok (goInt (Nat.min s.size n)) w' ∧ Blk w' g (copied s n) ∧ OnlyAt g w w' := by
  have hlen : (List.take (s.size.min n) (List.map (fun b => Value.int .u8 b.toNat) s.data.toList)).length = s.size.min n := by
    have h2 := size_data s
    simp only [List.length_take, List.length_map]
    have h3 : s.size.min n ≤ s.size := Nat.min_le_left _ _
    omega
  have hst := run_storeCells_at Tryz.prog g 0 5 (List.take (s.size.min n) (List.map (fun b => Value.int .u8 b.toNat) s.data.toList)) 0 _ w hG (by
      have h1 : (enc (List.replicate n 0)).size = n := by simp [enc]
      have h3 : s.size.min n ≤ n := Nat.min_le_right _ _
      rw [h1, hlen]; omega) (by
      intro v hv
      obtain ⟨x, _, rfl⟩ := List.mem_map.1 (List.mem_of_mem_take hv)
      rfl)
  rw [hlen] at hst
  obtain ⟨i, hi, his⟩ := Option.map_eq_some_iff.1 (show (Tryz.prog.info? 5).map (·.size) = some 1 by kernel_rfl)
  refine ⟨_, by simp only [Builtin.copy_]; simp [run_underlying Tryz.underlying33, Builtin.lenOf, Builtin.firstCells, sizeOf, typeInfo, hi, hst]; rfl, ?_, ?_⟩
  · unfold Blk
    rw [setRow_heap w g _ _ _ _ hG]
    refine congrArg (fun a => some (Obj.cells a 5 (0, 0))) ?_
    apply Array.ext'
    exact copied_enc s n
  · exact ⟨rfl, rfl, rfl, by simp [World.setRow], fun k hk => setRow_other w g k _ hk⟩

end Go.Proofs.YtjabhnhejbhgjaaGreatDoor

/- awake, pick (of murmurkeep). -/
namespace Go.Proofs.YtjabhnhejbhgjaaGreatDoor
open Go.RowKit

/-- Which of n things the raw number c speaks of. -/
def pickI (c n : Int) : Int := (if c < 0 then -(c + 1) else c) % n

theorem pickI_range (c n : Int) (hn : 0 < n) : 0 ≤ pickI c n ∧ pickI c n < n := ⟨Int.emod_nonneg _ (by omega), Int.emod_lt_of_pos _ hn⟩

set_option maxHeartbeats 400000 in
theorem keepPick_any (c n : Int) (w : World) (h0 : 0 < n) (hc : -9223372036854775808 ≤ c) (hc' : c ≤ 9223372036854775807) :
    Calls Tryz.prog 33 #[.int .i64 c, .int .i64 n] w fun e w' => e = .returned (.int .i64 (pickI c n)) ∧ w' = w := by
  by_cases h : c < 0
  · have hp : pickI c n = (-(c + 1)) % n := by unfold pickI; rw [if_pos h]
    have HP : Hid (pickI c n = (-(c + 1)) % n) := hp
    clear hp
    have hb : 0 ≤ -(c + 1) := by omega
    go_enter Tryz.func33, Tryz.ntmps33
    go_wp2
    go_ret
    exact ⟨ret_int (by rw [HP.out, ← Int.neg_tmod, Int.tmod_eq_emod_of_nonneg hb]), rfl⟩
  · have hp : pickI c n = c % n := by unfold pickI; rw [if_neg h]
    have HP : Hid (pickI c n = c % n) := hp
    clear hp
    go_enter Tryz.func33, Tryz.ntmps33
    go_wp2
    go_ret
    exact ⟨ret_int HP.out.symm, rfl⟩

/-- The document's example: two symbols of one byte. -/
def exRows (N : Nat) : List Row := [⟨N, 0, 1, [5]⟩, ⟨N + 1, 0, 1, [7]⟩]

theorem exSym (N : Nat) : symOf (front 2) (exRows N) (byteOf 2) 1 = [1] := by kernel_rfl
theorem exStr : str [1] = ⟨#[1]⟩ := by kernel_rfl

theorem exRs (w : World) : Rs (((w.alloc (.cells #[.int .u8 5] 5)).alloc (.cells #[.int .u8 7] 5)).alloc (.cells #[.slice (some ⟨w.heap.size, 0, none⟩) 1 1, .slice (some ⟨w.heap.size + 1, 0, none⟩) 1 1] 33)) (w.heap.size + 2) 0 (exRows w.heap.size) := by
  intro i hi
  have : i = 0 ∨ i = 1 := by simp [exRows] at hi; omega
  rcases this with rfl | rfl
  · refine ⟨?_, ?_⟩
    · rw [World.cell?_alloc_at _ _ _ _ (by simp)]; rfl
    · intro j hj
      have : j = 0 := by simp [exRows, rat] at hj; omega
      subst this
      show World.cell? _ ⟨w.heap.size, 0, none⟩ = _
      rw [World.cell?_alloc_past _ _ _ (by simp; omega), World.cell?_alloc_past _ _ _ (by simp), World.cell?_alloc_at _ _ _ _ rfl]; rfl
  · refine ⟨?_, ?_⟩
    · rw [World.cell?_alloc_at _ _ _ _ (by simp)]; rfl
    · intro j hj
      have : j = 0 := by simp [exRows, rat] at hj; omega
      subst this
      show World.cell? _ ⟨w.heap.size + 1, 0, none⟩ = _
      rw [World.cell?_alloc_past _ _ _ (by simp), World.cell?_alloc_at _ _ _ _ (by simp)]; rfl

set_option maxRecDepth 100000 in
set_option maxHeartbeats 1000000 in
/-- awake is true. -/
theorem awake_any (w : World) :
    Calls Tryz.prog 31 #[] w fun e w' => e = .returned (.bool true) ∧ Below w.heap.size w w' := by
  have hr := exRs w
  go_enter Tryz.func31, Tryz.ntmps31
  go_wp2_with fail
  generalize hW : ((w.alloc _).alloc _).alloc _ = W at hr ⊢
  have hb : Below w.heap.size w W := by rw [← hW]; exact (((Below.refl _ _).alloc (Nat.le_refl _) _).alloc (by simp) _).alloc (by simp; omega) _
  have HZ : Hid (W.heap.size = w.heap.size + 3) := by rw [← hW]; show _ = _; simp
  clear hW
  refine (symbol_ok (w.heap.size + 2) 0 2 1 2 (exRows w.heap.size) 2 _ rfl rfl rfl rfl rfl (by omega) hr (fun i hi => ?_)).mono ?_
  · have : i = 0 ∨ i = 1 := by simp [exRows] at hi; omega
    rw [HZ.out]
    rcases this with rfl | rfl
    · show w.heap.size < _; omega
    · show w.heap.size + 1 < _; omega
  rintro e w2 ⟨rfl, hG, hb2, hz2⟩
  rw [exSym] at hG
  have hcv := hG.bs.conv 1 1 rfl
  rw [exStr] at hcv
  clear hz2
  have HG : Hid (Blk w2 (W.heap.size + 1) [1]) := hG
  clear hG
  go_wp2
  go_ret
  exact ⟨rfl, hb.trans (hb2.mono hb.size)⟩

end Go.Proofs.YtjabhnhejbhgjaaGreatDoor

/- What Restore gives back; that fresh places come. -/
namespace Go.Proofs.YtjabhnhejbhgjaaGreatDoor
open Go.RowKit

theorem list_ext {l l' : List Gf.F} (h : l.length = l'.length) (e : ∀ i, i < l.length → at_ l i = at_ l' i) : l = l' := by
  apply List.ext_getElem h
  intro i h1 h2
  have := e i h1
  simpa [at_, List.getD, h1, h2] using this

theorem ofNat_inj {i j : Nat} (hi : i < 256) (hj : j < 256) (h : (BitVec.ofNat 8 i : Gf.F) = BitVec.ofNat 8 j) : i = j := by
  have := congrArg BitVec.toNat h
  rw [BitVec.toNat_ofNat, BitVec.toNat_ofNat, Nat.mod_eq_of_lt (by omega), Nat.mod_eq_of_lt (by omega)] at this
  exact this

theorem front_apart {n : Nat} (hn : n ≤ 256) : Gf.Apart (at_ (front n)) n := by
  intro i j hi hj e
  rw [front_at n i hi, front_at n j hj] at e
  exact ofNat_inj (by omega) (by omega) e

theorem byteOf_inj {a b : Int} (ha : 0 ≤ a ∧ a ≤ 255) (hb : 0 ≤ b ∧ b ≤ 255) (h : byteOf a = byteOf b) : a = b := by
  rw [byteOf_toNat ha, byteOf_toNat hb, h]

theorem bytesOf_apart {l : List Int} {n : Nat} (hl : l.length = n) (hp : placesB l n = true) : Gf.Apart (at_ (bytesOf l)) n := by
  intro i j hi hj e
  rw [bytesOf_at l i (by omega), bytesOf_at l j (by omega)] at e
  exact placesB_apart hp i j hi hj (byteOf_inj (placesB_range hp i hi) (placesB_range hp j hj) e)

/-- A source symbol is the symbol at its own place. -/
theorem symOf_own {n m i : Nat} {src : List Row} (hn : n ≤ 256) (hi : i < n) (hlen : (rat src i).l.length = m) : symOf (front n) src (BitVec.ofNat 8 i) m = (rat src i).l := by
  refine list_ext ((symOf_length ..).trans hlen.symm) (fun b hb => ?_)
  rw [symOf_length] at hb
  rw [symOf_at _ _ _ _ _ hb, front_length, ← front_at n i hi, Gf.lag_at (front_apart hn) hi]

/-- Restore gives the source symbols back. -/
theorem symOf_back {n m i : Nat} {src rows : List Row} {l : List Int} (hn : n ≤ 256) (hi : i < n) (hl : l.length = n) (hp : placesB l n = true) (hlen : (rat src i).l.length = m)
    (hrows : ∀ j, j < n → (rat rows j).l = symOf (front n) src (byteOf (zat l j)) m) : symOf (bytesOf l) rows (BitVec.ofNat 8 i) m = (rat src i).l := by
  refine list_ext ((symOf_length ..).trans hlen.symm) (fun b hb => ?_)
  rw [symOf_length] at hb
  rw [symOf_at _ _ _ _ _ hb, bytesOf_length, hl]
  have e1 : ∀ j, j < n → at_ (rat rows j).l b = Gf.lag (at_ (front n)) (fun t => at_ (rat src t).l b) n (at_ (bytesOf l) j) := by
    intro j hj
    rw [hrows j hj, symOf_at _ _ _ _ _ hb, front_length, bytesOf_at l j (by omega)]
  rw [Gf.lag_congr (X' := at_ (bytesOf l)) (Y' := fun j => Gf.lag (at_ (front n)) (fun t => at_ (rat src t).l b) n (at_ (bytesOf l) j)) (fun _ _ => rfl) e1, Gf.lag_lag (bytesOf_apart hl hp), ← front_at n i hi, Gf.lag_at (front_apart hn) hi]

theorem symOf_congr {X : List Gf.F} {rs rs' : List Row} {p : Gf.F} {m : Nat} (h : ∀ j, j < X.length → (rat rs j).l = (rat rs' j).l) : symOf X rs p m = symOf X rs' p m := by
  refine list_ext (by rw [symOf_length, symOf_length]) (fun b hb => ?_)
  rw [symOf_length] at hb
  rw [symOf_at _ _ _ _ _ hb, symOf_at _ _ _ _ _ hb]
  exact Gf.lag_congr (fun _ _ => rfl) (fun j hj => by rw [h j hj]) p

theorem nodup_le {α : Type} [DecidableEq α] : ∀ (xs ys : List α), xs.Nodup → (∀ x, x ∈ xs → x ∈ ys) → xs.length ≤ ys.length := by
  intro xs
  induction xs with
  | nil => intro ys _ _; simp
  | cons x xs ih =>
    intro ys hn h
    have hx := h x (List.mem_cons_self ..)
    have := ih (ys.erase x) (List.nodup_cons.1 hn).2 (fun y hy => by
      have hne : y ≠ x := fun e => (List.nodup_cons.1 hn).1 (e ▸ hy)
      exact (List.mem_erase_of_ne hne).2 (h y (List.mem_cons_of_mem _ hy)))
    rw [List.length_erase_of_mem hx] at this
    have hpos : 0 < ys.length := List.length_pos_of_mem hx
    simp only [List.length_cons]
    omega

/-- If the last d numbers (round 256) are all among k, then d is at most k. -/
theorem pigeon {l : List Int} {k L i : Nat} (h : ∀ j, L ≤ j → j < i → hasB l k ((j : Int) % 256) = true) (hk : k < 8) : i < L + 8 := by
  rcases Nat.lt_or_ge i (L + 8) with q | q
  · exact q
  · exfalso
    have hnd : ((List.range 8).map fun t => (((L + t : Nat) : Int) % 256)).Nodup := by
      rw [List.nodup_iff_pairwise_ne, List.pairwise_map]
      refine List.Pairwise.imp_of_mem ?_ List.nodup_range
      intro a b ha hb hne e
      have := List.mem_range.1 ha
      have := List.mem_range.1 hb
      omega
    have := nodup_le _ ((List.range k).map fun t => zat l t) hnd (fun x hx => by
      obtain ⟨t, ht, rfl⟩ := List.mem_map.1 hx
      obtain ⟨u, hu, e⟩ := (hasB_iff l k _).1 (h (L + t) (by omega) (by have := List.mem_range.1 ht; omega))
      exact List.mem_map.2 ⟨u, List.mem_range.2 hu, e⟩)
    simp at this
    omega

theorem zat_lt {l : List Int} {z : Int} {j : Nat} (hj : j < l.length) : zat (l ++ [z]) j = zat l j := by
  simp [zat, List.getD, List.getElem?_append_left hj]
theorem zat_eq {l : List Int} {z : Int} : zat (l ++ [z]) l.length = z := by simp [zat, List.getD]

theorem hasB_snoc {l : List Int} {z v : Int} {k : Nat} (hk : k ≤ l.length) : hasB (l ++ [z]) k v = hasB l k v := by
  rw [Bool.eq_iff_iff, hasB_iff, hasB_iff]
  constructor
  · rintro ⟨i, hi, e⟩; exact ⟨i, hi, by rw [← e, zat_lt (by omega)]⟩
  · rintro ⟨i, hi, e⟩; exact ⟨i, hi, by rw [zat_lt (by omega)]; exact e⟩

theorem hasB_mono {l : List Int} {v : Int} {j k : Nat} (hjk : j ≤ k) (h : hasB l j v = true) : hasB l k v = true := by
  rw [hasB_iff] at h ⊢
  obtain ⟨i, hi, e⟩ := h
  exact ⟨i, by omega, e⟩

theorem placesB_snoc {l : List Int} {z : Int} {k : Nat} (hl : l.length = k) (h : placesB l k = true) (hz : plcB z = true) (hno : hasB l k z = false) : placesB (l ++ [z]) (k + 1) = true := by
  rw [placesB_iff]
  intro i hi
  by_cases e : i = k
  · subst e
    rw [show zat (l ++ [z]) i = z by rw [← hl]; exact zat_eq]
    exact ⟨hz, by rw [hasB_snoc (by omega)]; exact hno⟩
  · rw [zat_lt (by omega), hasB_snoc (by omega)]
    exact (placesB_iff l k).1 h i (by omega)

theorem hasB_succ_of {l : List Int} {v : Int} {j : Nat} (h : hasB l j v = false) (hne : zat l j ≠ v) : hasB l (j + 1) v = false := by
  rw [← Bool.not_eq_true, hasB_iff]
  rintro ⟨i, hi, e⟩
  by_cases q : i = j
  · subst q; exact hne e
  · have : hasB l j v = true := (hasB_iff l j v).2 ⟨i, by omega, e⟩
    rw [h] at this; cases this

theorem hasB_succ_eq {l : List Int} {v : Int} {j : Nat} (h : zat l j = v) : hasB l (j + 1) v = true := (hasB_iff l _ v).2 ⟨j, by omega, h⟩

theorem hasB_last {l : List Int} {z : Int} {k : Nat} (hl : l.length = k) : hasB (l ++ [z]) (k + 1) z = true := (hasB_iff _ _ _).2 ⟨k, by omega, by rw [← hl]; exact zat_eq⟩

end Go.Proofs.YtjabhnhejbhgjaaGreatDoor

/- Restored: what its loops keep. -/
namespace Go.Proofs.YtjabhnhejbhgjaaGreatDoor
open Go.RowKit

/-- The first k source symbols: v is their list. -/
structure Src (w : World) (B m k : Nat) (S : Nat → ByteArray) (v : Value) (rows : List Row) : Prop where
  len : rows.length = k
  own : w.ownsRow B 33 1 v k (rows.map Row.val)
  each : ∀ j, j < k → Blk w (rat rows j).b (copied (S j) m) ∧ rat rows j = ⟨(rat rows j).b, 0, m, copied (S j) m⟩ ∧ B ≤ (rat rows j).b ∧ v.ownBlock ≠ some (rat rows j).b

theorem own_of_block {w w' : World} {B : Nat} {e : TypeId} {sz n : Nat} {v : Value} {xs : List Value} (h : w.ownsRow B e sz v n xs) (hk : ∀ g, v.ownBlock = some g → w'.heap[g]? = w.heap[g]?) : w'.ownsRow B e sz v n xs := by
  obtain ⟨h1, h2⟩ := h
  refine ⟨h1, ?_⟩
  rcases h2 with h2 | ⟨g, cap, cur, rfl, h3, h4, h5⟩
  · exact .inl h2
  · exact .inr ⟨g, cap, cur, rfl, h3, by rw [hk g rfl]; exact h4, h5⟩

theorem own_lt {w : World} {B : Nat} {e : TypeId} {sz n : Nat} {v : Value} {xs : List Value} (h : w.ownsRow B e sz v n xs) {g : Nat} (hg : v.ownBlock = some g) : B ≤ g ∧ g < w.heap.size := h.lt g hg

theorem rat_lt {rows : List Row} {x : Row} {j : Nat} (hj : j < rows.length) : rat (rows ++ [x]) j = rat rows j := by
  simp [rat, List.getD, List.getElem?_append_left hj]
theorem rat_eq {rows : List Row} {x : Row} : rat (rows ++ [x]) rows.length = x := by simp [rat, List.getD]

theorem grown_block {w w' : World} {row : Option Nat} (h : w.grownBy w' row) {k : Nat} (hk : k < w.heap.size) (hne : row ≠ some k) : w'.heap[k]? = w.heap[k]? := h.block k hk (fun q => hne q.symm)

/-- One more. -/
theorem Src.step {wr w3 w4 : World} {B m k g cap : Nat} {S : Nat → ByteArray} {v : Value} {rows : List Row} {o : Obj} (h : Src wr B m k S v rows) (hB : B ≤ wr.heap.size)
    (hG : Blk w3 wr.heap.size (copied (S k) m)) (hz : w3.heap.size = wr.heap.size + 1) (hb : Below wr.heap.size wr w3)
    (hown : w4.ownsRow B 33 1 (.slice (some ⟨g, 0, none⟩) (k + 1) cap) (k + 1) (rows.map Row.val ++ [.slice (some ⟨wr.heap.size, 0, none⟩) m m]))
    (hgr : (w3.alloc o).grownBy w4 v.ownBlock) (hg : v.ownBlock = some g ∨ g = w3.heap.size + 1) :
    Src w4 B m (k + 1) S (.slice (some ⟨g, 0, none⟩) (k + 1) cap) (rows ++ [⟨wr.heap.size, 0, m, copied (S k) m⟩]) := by
  have hvlt : ∀ j, v.ownBlock = some j → j < wr.heap.size := fun j hj => (own_lt h.own hj).2
  have keep : ∀ j, j < w3.heap.size → v.ownBlock ≠ some j → w4.heap[j]? = w3.heap[j]? := fun j hj hne => by
    rw [grown_block hgr (by simp; omega) hne, Below.heap_alloc _ _ _ hj]
  refine ⟨by simp [h.len], ?_, ?_⟩
  · rw [List.map_append]
    have e : [(⟨wr.heap.size, 0, m, copied (S k) m⟩ : Row)].map Row.val = [.slice (some ⟨wr.heap.size, 0, none⟩) m m] := by simp [Row.val, copied_length]
    rw [e]; exact hown
  · intro j hj
    by_cases e : j = k
    · subst e
      rw [show rat (rows ++ [(⟨wr.heap.size, 0, m, copied (S j) m⟩ : Row)]) j = ⟨wr.heap.size, 0, m, copied (S j) m⟩ by rw [← h.len]; exact rat_eq]
      refine ⟨?_, rfl, hB, ?_⟩
      · show Blk w4 wr.heap.size _
        unfold Blk; rw [keep _ (by omega) (fun q => by have := hvlt _ q; omega)]; exact hG
      · intro q
        have q' : g = wr.heap.size := by simpa [Value.ownBlock] using q
        rcases hg with hg | hg
        · have := hvlt _ hg; omega
        · omega
    · have hjk : j < k := by omega
      rw [rat_lt (by rw [h.len]; exact hjk)]
      obtain ⟨h1, h2, h3, h4⟩ := h.each j hjk
      refine ⟨?_, h2, h3, ?_⟩
      · unfold Blk; rw [keep _ (by have := h1.lt; omega) h4, hb.block _ h1.lt]; exact h1
      · intro q
        have q' : g = (rat rows j).b := by simpa [Value.ownBlock] using q
        rcases hg with hg | hg
        · rw [q'] at hg; exact h4 hg
        · have := h1.lt; omega

theorem Src.nil (w : World) (B m : Nat) (S : Nat → ByteArray) : Src w B m 0 S (.slice none 0 0) [] := ⟨rfl, World.ownsRow_nil .., fun j hj => by omega⟩


/-- A list's slice: its length; where it lies, if there is something in it. -/
theorem own_form {w : World} {B : Nat} {e : TypeId} {n : Nat} {v : Value} {xs : List Value} (h : w.ownsRow B e 1 v n xs) :
    ∃ a c, v = .slice a n c ∧ (0 < n → ∃ g, a = some ⟨g, 0, none⟩ ∧ n ≤ c ∧ B ≤ g ∧ g < w.heap.size ∧ ∀ j, j < n → w.cell? ⟨g, j, none⟩ = xs[j]?) := by
  have hh := h
  obtain ⟨h1, h2⟩ := h
  rcases h2 with ⟨rfl, rfl⟩ | ⟨g, cap, cur, rfl, h3, h4, h5, h6⟩
  · exact ⟨none, 0, rfl, fun h => by omega⟩
  · exact ⟨_, cap, rfl, fun _ => ⟨g, rfl, h5, h3, (own_lt hh rfl).2, fun j hj => hh.cellAt j (by omega)⟩⟩

theorem Src.rs {w : World} {B m k g c : Nat} {S : Nat → ByteArray} {rows : List Row} (h : Src w B m k S (.slice (some ⟨g, 0, none⟩) k c) rows) : Rs w g 0 rows := by
  intro i hi
  rw [h.len] at hi
  refine ⟨?_, ?_⟩
  · rw [Nat.zero_add, h.own.cellAt i (by omega)]
    have : i < rows.length := by rw [h.len]; exact hi
    simp [rat, List.getD, this]
  · obtain ⟨h1, h2, _, _⟩ := h.each i hi
    rw [h2]; exact h1.bs

theorem Src.lenAt {w : World} {B m k : Nat} {v : Value} {S : Nat → ByteArray} {rows : List Row} (h : Src w B m k S v rows) (i : Nat) (hi : i < k) : (rat rows i).l.length = m := by
  obtain ⟨_, h2, _, _⟩ := h.each i hi
  rw [h2]; exact copied_length ..

theorem Src.even {w : World} {B m k : Nat} {v : Value} {S : Nat → ByteArray} {rows : List Row} (h : Src w B m k S v rows) (hk : 0 < k) : evenB rows = true :=
  evenB_yes (fun i hi => by rw [h.lenAt i (by rw [← h.len]; exact hi), h.lenAt 0 hk])

/-- The places and symbols that have been gathered. -/
structure Got (w : World) (B m n : Nat) (src : List Row) (k : Nat) (va vl : Value) (at' : List Int) (rows : List Row) : Prop where
  alen : at'.length = k
  rlen : rows.length = k
  aown : w.ownsRow B 3 1 va k (at'.map (Value.int .i64))
  lown : w.ownsRow B 33 1 vl k (rows.map Row.val)
  ok : placesB at' k = true
  each : ∀ j, j < k → Blk w (rat rows j).b (symOf (front n) src (byteOf (zat at' j)) m) ∧ rat rows j = ⟨(rat rows j).b, 0, m, symOf (front n) src (byteOf (zat at' j)) m⟩ ∧ B ≤ (rat rows j).b ∧ va.ownBlock ≠ some (rat rows j).b ∧ vl.ownBlock ≠ some (rat rows j).b
  apart : ∀ g, va.ownBlock = some g → vl.ownBlock ≠ some g

theorem Got.nil (w : World) (B m n : Nat) (src : List Row) : Got w B m n src 0 (.slice none 0 0) (.slice none 0 0) [] [] :=
  ⟨rfl, rfl, World.ownsRow_nil .., World.ownsRow_nil .., rfl, fun j hj => by omega, fun g h => by cases h⟩

theorem Got.kept {w w' : World} {B m n k : Nat} {src : List Row} {va vl : Value} {at' : List Int} {rows : List Row} (h : Got w B m n src k va vl at' rows) (hk : ∀ j, j < w.heap.size → w'.heap[j]? = w.heap[j]?) : Got w' B m n src k va vl at' rows :=
  ⟨h.alen, h.rlen, own_of_block h.aown (fun g hg => hk g (own_lt h.aown hg).2), own_of_block h.lown (fun g hg => hk g (own_lt h.lown hg).2), h.ok,
   fun j hj => by
    obtain ⟨h1, h2, h3, h4, h5⟩ := h.each j hj
    refine ⟨?_, h2, h3, h4, h5⟩
    unfold Blk; rw [hk _ h1.lt]; exact h1, h.apart⟩

theorem Got.lownAfter {w2 w3 : World} {B m n k : Nat} {src : List Row} {va vl : Value} {at' : List Int} {rows : List Row} {o1 : Obj} (h : Got w2 B m n src k va vl at' rows) (hgr3 : (w2.alloc o1).grownBy w3 va.ownBlock) : w3.ownsRow B 33 1 vl k (rows.map Row.val) := by
  refine own_of_block h.lown (fun g hg => ?_)
  have hlt := (own_lt h.lown hg).2
  rw [grown_block hgr3 (by simp; omega) (fun q => h.apart g q hg), Below.heap_alloc _ _ _ hlt]

/-- One more. -/
theorem Got.step {w2 w3 w4 : World} {B m n k ga ca gl cl sb : Nat} {src : List Row} {va vl : Value} {at' : List Int} {rows : List Row} {o1 o2 : Obj} {z : Int}
    (h : Got w2 B m n src k va vl at' rows) (hB : B ≤ sb) (hsb : sb < w2.heap.size) (hva : va.ownBlock ≠ some sb) (hvl : vl.ownBlock ≠ some sb)
    (hG : Blk w2 sb (symOf (front n) src (byteOf z) m)) (hz : plcB z = true) (hno : hasB at' k z = false)
    (hown3 : w3.ownsRow B 3 1 (.slice (some ⟨ga, 0, none⟩) (k + 1) ca) (k + 1) (at'.map (Value.int .i64) ++ [.int .i64 z]))
    (hgr3 : (w2.alloc o1).grownBy w3 va.ownBlock) (hg3 : va.ownBlock = some ga ∨ ga = w2.heap.size + 1)
    (hown4 : w4.ownsRow B 33 1 (.slice (some ⟨gl, 0, none⟩) (k + 1) cl) (k + 1) (rows.map Row.val ++ [.slice (some ⟨sb, 0, none⟩) m m]))
    (hgr4 : (w3.alloc o2).grownBy w4 vl.ownBlock) (hg4 : vl.ownBlock = some gl ∨ gl = w3.heap.size + 1) :
    Got w4 B m n src (k + 1) (.slice (some ⟨ga, 0, none⟩) (k + 1) ca) (.slice (some ⟨gl, 0, none⟩) (k + 1) cl) (at' ++ [z]) (rows ++ [⟨sb, 0, m, symOf (front n) src (byteOf z) m⟩]) := by
  have hs3 : w2.heap.size + 1 ≤ w3.heap.size := by have := hgr3.size; simp at this; exact this
  have hga : ga < w3.heap.size := (own_lt hown3 rfl).2
  have valt : ∀ j, va.ownBlock = some j → j < w2.heap.size := fun j hj => (own_lt h.aown hj).2
  have vllt : ∀ j, vl.ownBlock = some j → j < w2.heap.size := fun j hj => (own_lt h.lown hj).2
  have keep3 : ∀ j, j < w2.heap.size → va.ownBlock ≠ some j → w3.heap[j]? = w2.heap[j]? := fun j hj hne => by
    rw [grown_block hgr3 (by simp; omega) hne, Below.heap_alloc _ _ _ hj]
  have keep4 : ∀ j, j < w3.heap.size → vl.ownBlock ≠ some j → w4.heap[j]? = w3.heap[j]? := fun j hj hne => by
    rw [grown_block hgr4 (by simp; omega) hne, Below.heap_alloc _ _ _ hj]
  have keep : ∀ j, j < w2.heap.size → va.ownBlock ≠ some j → vl.ownBlock ≠ some j → w4.heap[j]? = w2.heap[j]? := fun j hj h1 h2 => by
    rw [keep4 j (by omega) h2, keep3 j hj h1]
  have hgav : vl.ownBlock ≠ some ga := by
    intro q
    rcases hg3 with e | e
    · exact h.apart ga e q
    · have := vllt _ q; omega
  refine ⟨by simp [h.alen], by simp [h.rlen], ?_, ?_, ?_, ?_, ?_⟩
  · rw [List.map_append]
    refine own_of_block hown3 (fun g hg => ?_)
    have e : g = ga := by simpa [Value.ownBlock] using hg.symm
    subst e
    exact keep4 _ hga hgav
  · rw [List.map_append]
    have e : [(⟨sb, 0, m, symOf (front n) src (byteOf z) m⟩ : Row)].map Row.val = [.slice (some ⟨sb, 0, none⟩) m m] := by simp [Row.val, symOf_length]
    rw [e]; exact hown4
  · exact placesB_snoc h.alen h.ok hz hno
  · have far : ∀ b, b < w2.heap.size → va.ownBlock ≠ some b → vl.ownBlock ≠ some b → (Value.slice (some ⟨ga, 0, none⟩) (k + 1) ca).ownBlock ≠ some b ∧ (Value.slice (some ⟨gl, 0, none⟩) (k + 1) cl).ownBlock ≠ some b := by
      intro b hb h1 h2
      constructor
      · intro q
        have e : ga = b := by simpa [Value.ownBlock] using q
        subst e
        rcases hg3 with e | e
        · exact h1 e
        · omega
      · intro q
        have e : gl = b := by simpa [Value.ownBlock] using q
        subst e
        rcases hg4 with e | e
        · exact h2 e
        · omega
    intro j hj
    by_cases e : j = k
    · subst e
      rw [show rat (rows ++ [(⟨sb, 0, m, symOf (front n) src (byteOf z) m⟩ : Row)]) j = ⟨sb, 0, m, symOf (front n) src (byteOf z) m⟩ by rw [← h.rlen]; exact rat_eq,
        show zat (at' ++ [z]) j = z by rw [← h.alen]; exact zat_eq]
      refine ⟨?_, rfl, hB, (far sb hsb hva hvl).1, (far sb hsb hva hvl).2⟩
      show Blk w4 sb _
      unfold Blk; rw [keep sb hsb hva hvl]; exact hG
    · have hjk : j < k := by omega
      rw [rat_lt (by rw [h.rlen]; exact hjk), zat_lt (by rw [h.alen]; exact hjk)]
      obtain ⟨h1, h2, h3, h4, h5⟩ := h.each j hjk
      refine ⟨?_, h2, h3, (far _ h1.lt h4 h5).1, (far _ h1.lt h4 h5).2⟩
      unfold Blk; rw [keep _ h1.lt h4 h5]; exact h1
  · intro g hg q
    have e1 : ga = g := by simpa [Value.ownBlock] using hg
    have e2 : gl = g := by simpa [Value.ownBlock] using q
    subst e1
    subst e2
    rcases hg4 with e | e
    · exact hgav e
    · omega

theorem seen_more {L i q : Nat} {at' : List Int} {p z : Int} (hz : z = p % 256) (hl : at'.length = q) (h : ∀ j, L ≤ j → j < i → hasB at' q ((j : Int) % 256) = true) (hp : L ≤ i → p = (i : Int)) :
    ∀ j, L ≤ j → j < i + 1 → hasB (at' ++ [z]) (q + 1) ((j : Int) % 256) = true := by
  intro j h1 h2
  by_cases e : j = i
  · subst e
    rw [← hp h1, ← hz]; exact hasB_last hl
  · exact hasB_mono (Nat.le_succ q) (by rw [hasB_snoc (by omega)]; exact h j h1 (by omega))

theorem seen_same {L i q : Nat} {at' : List Int} {p : Int} (hh : hasB at' q (p % 256) = true) (h : ∀ j, L ≤ j → j < i → hasB at' q ((j : Int) % 256) = true) (hp : L ≤ i → p = (i : Int)) :
    ∀ j, L ≤ j → j < i + 1 → hasB at' q ((j : Int) % 256) = true := by
  intro j h1 h2
  by_cases e : j = i
  · subst e
    rw [← hp h1]; exact hh
  · exact h j h1 (by omega)

theorem Got.zs {w : World} {B m n k g : Nat} {src : List Row} {va vl : Value} {at' : List Int} {rows : List Row} (h : Got w B m n src k va vl at' rows) (hc : ∀ j, j < k → w.cell? ⟨g, j, none⟩ = (at'.map (Value.int .i64))[j]?) : Zs w g 0 at' := by
  intro i hi
  rw [h.alen] at hi
  rw [Nat.zero_add, hc i hi]
  have : i < at'.length := by rw [h.alen]; exact hi
  simp [zat, List.getD, this]

theorem Got.rs {w : World} {B m n k g : Nat} {src : List Row} {va vl : Value} {at' : List Int} {rows : List Row} (h : Got w B m n src k va vl at' rows) (hc : ∀ j, j < k → w.cell? ⟨g, j, none⟩ = (rows.map Row.val)[j]?) : Rs w g 0 rows := by
  intro i hi
  rw [h.rlen] at hi
  refine ⟨?_, ?_⟩
  · rw [Nat.zero_add, hc i hi]
    have : i < rows.length := by rw [h.rlen]; exact hi
    simp [rat, List.getD, this]
  · obtain ⟨h1, h2, _⟩ := h.each i hi
    rw [h2]; exact h1.bs

theorem Got.lenAt {w : World} {B m n k : Nat} {src : List Row} {va vl : Value} {at' : List Int} {rows : List Row} (h : Got w B m n src k va vl at' rows) (i : Nat) (hi : i < k) : (rat rows i).l.length = m := by
  obtain ⟨_, h2, _⟩ := h.each i hi
  rw [h2]; exact symOf_length ..

theorem Got.even {w : World} {B m n k : Nat} {src : List Row} {va vl : Value} {at' : List Int} {rows : List Row} (h : Got w B m n src k va vl at' rows) (hk : 0 < k) : evenB rows = true :=
  evenB_yes (fun i hi => by rw [h.lenAt i (by rw [← h.rlen]; exact hi), h.lenAt 0 hk])

/-- What came back, as rows. -/
def bkRows (base m n : Nat) (src : List Row) : List Row := (List.range n).map fun i => ⟨base + i, 0, m, (rat src i).l⟩
theorem bkRows_length (base m n : Nat) (src : List Row) : (bkRows base m n src).length = n := by simp [bkRows]
theorem bkRows_at (base m n : Nat) (src : List Row) (i : Nat) (hi : i < n) : rat (bkRows base m n src) i = ⟨base + i, 0, m, (rat src i).l⟩ := by simp [rat, bkRows, List.getD, hi]

theorem Restored.rs {w w' : World} {Sb base m n : Nat} {X : List Gf.F} {rows src : List Row} (h : Restored w w' Sb base m n X rows) (hsrc : ∀ i, i < n → (rat src i).l.length = m) (he : ∀ i, i < n → symOf X rows (BitVec.ofNat 8 i) m = (rat src i).l) :
    Rs w' Sb 0 (bkRows base m n src) := by
  intro i hi
  rw [bkRows_length] at hi
  rw [bkRows_at _ _ _ _ _ hi]
  refine ⟨?_, ?_⟩
  · rw [cell_of_row _ _ _ _ _ _ h.list, Nat.zero_add, srcCells_at _ _ _ _ _ hi hi]
    simp [Row.val, hsrc i hi]
  · have := h.syms i hi
    rw [he i hi] at this
    exact this.bs

theorem Tryz.info_int : (Tryz.prog.info? 3).map (fun i => (i.zero, i.size, i.bytes)) = some (some (.int .i64 0), 1, 8) := by kernel_rfl

end Go.Proofs.YtjabhnhejbhgjaaGreatDoor
