/- murmurref.value, even, front, at. Rows may be nil here: they come from the caller. -/
import Derived.Test.YtjabhnhejbhgjaaGreatDoorPolyWalk
import Derived.Test.YtjabhnhejbhgjaaGreatDoorCallWalks
namespace Go.Proofs.YtjabhnhejbhgjaaGreatDoor
open Go.RowKit

/-- A slice of bytes of whatever make: its value, what it holds. -/
structure Raw where
  v : Value
  l : List Gf.F

def raw0 : Raw := ⟨.slice none 0 0, []⟩
def wat (rs : List Raw) (i : Nat) : Raw := rs.getD i raw0

def RawIn (w : World) (r : Raw) : Prop := ∃ a c, r.v = .slice a r.l.length c ∧ (0 < r.l.length → ∃ b o, a = some ⟨b, o, none⟩ ∧ Bs w b o r.l)

/-- Such slices, one behind the other. -/
def Ws (w : World) (b o : Nat) (rs : List Raw) : Prop := ∀ i, i < rs.length → w.cell? ⟨b, o + i, none⟩ = some (wat rs i).v ∧ RawIn w (wat rs i)

theorem RawIn.below {w w' : World} {r : Raw} (h : RawIn w r) (hb : Below w.heap.size w w') : RawIn w' r := by
  obtain ⟨a, c, h1, h2⟩ := h
  refine ⟨a, c, h1, fun hl => ?_⟩
  obtain ⟨b, o, h3, h4⟩ := h2 hl
  exact ⟨b, o, h3, h4.below hb (h4.lt hl)⟩

theorem Ws.below {w w' : World} {b o : Nat} {rs : List Raw} (h : Ws w b o rs) (hb : Below w.heap.size w w') : Ws w' b o rs :=
  fun i hi => ⟨by rw [hb.cell (p := ⟨b, o + i, none⟩) (lt_of_cell (h i hi).1)]; exact (h i hi).1, (h i hi).2.below hb⟩

def evenR (rs : List Raw) : Bool := rs.all fun r => r.l.length == (wat rs 0).l.length

theorem evenR_yes {rs : List Raw} (h : ∀ i, i < rs.length → (wat rs i).l.length = (wat rs 0).l.length) : evenR rs = true := by
  unfold evenR
  rw [List.all_eq_true]
  intro r hr
  obtain ⟨i, hi, rfl⟩ := List.mem_iff_getElem.1 hr
  have := h i hi
  rw [show wat rs i = rs[i] by simp [wat, List.getD, hi]] at this
  rw [this]; simp

theorem evenR_no {rs : List Raw} {i : Nat} (hi : i < rs.length) (h : (wat rs i).l.length ≠ (wat rs 0).l.length) : evenR rs = false := by
  unfold evenR
  rw [List.all_eq_false]
  refine ⟨rs[i], List.getElem_mem hi, ?_⟩
  rw [show wat rs i = rs[i] by simp [wat, List.getD, hi]] at h
  simpa using h

theorem evenR_len {rs : List Raw} (h : evenR rs = true) (i : Nat) (hi : i < rs.length) : (wat rs i).l.length = (wat rs 0).l.length := by
  unfold evenR at h
  rw [List.all_eq_true] at h
  have := h rs[i] (List.getElem_mem hi)
  rw [show wat rs i = rs[i] by simp [wat, List.getD, hi]]
  simpa using this

theorem Ws.cellAt {w : World} {b o : Nat} {rs : List Raw} (h : Ws w b o rs) (i : Nat) (hi : i < rs.length) : ∃ a c, w.cell? ⟨b, o + i, none⟩ = some (.slice a (wat rs i).l.length c) ∧ (0 < (wat rs i).l.length → ∃ b o, a = some ⟨b, o, none⟩ ∧ Bs w b o (wat rs i).l) := by
  obtain ⟨h1, a, c, h2, h3⟩ := h i hi
  exact ⟨a, c, by rw [h1, h2], h3⟩

/-- The first k powers, with their coefficients. -/
def valUp (cf : List Gf.F) (x : Gf.F) : Nat → Gf.F
  | 0 => 0
  | k + 1 => Gf.add (valUp cf x k) (Gf.mul (Gf.pow x k) (at_ cf k))

theorem valUp_ev {cf : List Gf.F} {x : Gf.F} {n : Nat} (h : cf.length = n) : valUp cf x n = Gf.ev cf x := by
  rw [Gf.ev_sum, h]
  have : ∀ k, valUp cf x k = Gf.sum (fun i => Gf.mul (Gf.pow x i) (cf.getD i 0)) k := by
    intro k
    induction k with
    | zero => rfl
    | succ k ih => simp only [valUp, Gf.sum]; rw [ih]; rfl
  exact this n

set_option maxRecDepth 100000 in
set_option maxHeartbeats 1000000 in
theorem value_any (g c n : Nat) (cf : List Gf.F) (z : Int) (w : World) (hz : 0 ≤ z ∧ z ≤ 255) (hn : n ≤ 8) (hc : cf.length = n) (hB : Bs w g 0 cf) :
    Calls Tryz.prog 139 #[.slice (some ⟨g, 0, none⟩) n c, .int .i64 z] w fun e w' => e = .returned (.int .u8 ((Gf.ev cf (byteOf z)).toNat : Int)) ∧ w' = w := by
  obtain ⟨hz0, hz1⟩ := hz
  have HC : Hid (cf.length = n) := hc
  clear hc
  go_enter Tryz.func139, Tryz.ntmps139
  go_wp2_with fail
  go_loop [5, 6] (fun s t => ∃ k : Nat, k ≤ n ∧ t = .int .i64 (k : Int) ∧ s = .int .u8 ((valUp cf (byteOf z) k).toNat : Int)) (fun _ t => n - (intOf t).toNat)
  case atStart => exact ⟨0, by omega, rfl, rfl⟩
  case round =>
    obtain ⟨k, hk, rfl, rfl⟩ := hrel
    by_cases hlt : k < n
    · have hck : w.cell? ⟨g, k, none⟩ = some (.int .u8 ((at_ cf k).toNat : Int)) := by have := hB k (by rw [HC.out]; exact hlt); rw [Nat.zero_add] at this; exact this
      have hx := Gf.addF (valUp cf (byteOf z) k) (Gf.mul (at_ cf k) (Gf.pow (byteOf z) k))
      have HS : Hid (Gf.add (valUp cf (byteOf z) k) (Gf.mul (at_ cf k) (Gf.pow (byteOf z) k)) = valUp cf (byteOf z) (k + 1)) := by
        show _ = _
        simp only [valUp]; rw [Gf.mul_comm (at_ cf k)]
      generalize hsx : valUp cf (byteOf z) k = sx at hx HS ⊢
      clear hsx
      go_wp2_with (first | (go_at_call 148; refine (power_z (byteOf z) _ k _ (byteOf_toNat ⟨hz0, hz1⟩) (by omega)).mono ?_; rintro e w' ⟨rfl, rfl⟩) | (go_at_call 150; refine (refMul_any (at_ cf k) (Gf.pow (byteOf z) k) _).mono ?_; rintro e w' ⟨rfl, rfl⟩))
      go_round
      case rel => exact ⟨k + 1, by omega, by go_num, by rw [HS.out]⟩
      case measure => simp [intOf]; omega
    · obtain rfl : k = n := by omega
      go_wp2_with fail
      go_ret
      exact ⟨ret_int (by rw [valUp_ev HC.out]), rfl⟩

def frontZ (n : Nat) : List Int := (List.range n).map fun (i : Nat) => (i : Int)
theorem frontZ_length (n : Nat) : (frontZ n).length = n := by simp [frontZ]
theorem frontZ_at (n i : Nat) (hi : i < n) : zat (frontZ n) i = (i : Int) := by simp [zat, frontZ, List.getD, hi]
theorem frontZ_succ (n : Nat) : frontZ (n + 1) = frontZ n ++ [(n : Int)] := by simp [frontZ, List.range_succ]

def encZ (l : List Int) : List Value := l.map (Value.int .i64)

theorem Tryz.int_parts : ∃ i, Tryz.prog.info? 3 = some i ∧ i.zero = some (.int .i64 0) ∧ i.size = 1 ∧ i.bytes = 8 := by
  obtain ⟨i, hi, h⟩ := Option.map_eq_some_iff.1 Tryz.info_int
  simp only [Prod.mk.injEq] at h
  exact ⟨i, hi, h.1, h.2.1, h.2.2⟩

theorem own_zs {w : World} {B g c n : Nat} {l : List Int} (h : w.ownsRow B 3 1 (.slice (some ⟨g, 0, none⟩) n c) n (encZ l)) (hl : l.length = n) : Zs w g 0 l := by
  intro i hi
  rw [Nat.zero_add, h.cellAt i (by omega)]
  simp [encZ, zat, List.getD, hi]

theorem own_bs {w : World} {B g c n : Nat} {l : List Gf.F} (h : w.ownsRow B 5 1 (.slice (some ⟨g, 0, none⟩) n c) n (encL l)) (hl : l.length = n) : Bs w g 0 l := by
  intro i hi
  rw [Nat.zero_add, h.cellAt i (by omega), encL_at hi]

set_option maxRecDepth 100000 in
set_option maxHeartbeats 1000000 in
theorem front_any (n : Nat) (w : World) (hn : 0 < n) (hn8 : n ≤ 8) :
    Calls Tryz.prog 124 #[.int .i64 (n : Int)] w fun e w' => ∃ g c, e = .returned (.slice (some ⟨g, 0, none⟩) n c) ∧ w'.ownsRow w.heap.size 3 1 (.slice (some ⟨g, 0, none⟩) n c) n (encZ (frontZ n)) ∧ Below w.heap.size w w' := by
  obtain ⟨iu, hiu, hu0, hu1, hu2⟩ := Tryz.int_parts
  go_enter Tryz.func124, Tryz.ntmps124
  go_wp2_with fail
  go_loopw [3, 4] (fun v t wr => ∃ k : Nat, k ≤ n ∧ t = .int .i64 (k : Int) ∧ wr.ownsRow w.heap.size 3 1 v k (encZ (frontZ k)) ∧ Below w.heap.size w wr) (fun _ t _ => n - (intOf t).toNat)
  case atStart => exact ⟨0, by omega, rfl, World.ownsRow_nil .., Below.refl _ _⟩
  case round =>
    obtain ⟨k, hk, rfl, hO, hb⟩ := hrel
    have hs := hb.size
    by_cases hlt : k < n
    · go_wp2_with (at_builtin; refine wpList_append_lies _ rfl _ _ _ rfl w.heap.size 3 iu (.int .i64 0) 1 8 Tryz.underlying75 hiu hu0 hu1 hu2 rfl (by omega) u3 k (encZ (frontZ k)) rfl (hO.alloc _) ⟨wr.heap.size, 0, none⟩ 1 1 [.int .i64 (k : Int)] rfl rfl ?c1 ?c2 (by omega) ?c3 (by omega) ?c4 (wr.heap.size + 1) ?c5 ?_)
      case c1 => exact cell_one_new _ _ _
      case c2 => intro u hu; simp at hu; subst hu; rfl
      case c3 => unfold maxLen; omega
      case c4 => simp; omega
      case c5 => simp
      intro ga ca w6 hown6 hgr6 hlie6 hlt6
      have hb6 : Below w.heap.size w w6 := (hb.alloc hs _).grown hgr6 (by simp; omega) (fun t ht => (own_lt hO ht).1)
      have e : encZ (frontZ k) ++ [.int .i64 (k : Int)] = encZ (frontZ (k + 1)) := by rw [frontZ_succ]; simp [encZ]
      rw [e] at hown6
      clear e hgr6 hlie6 hlt6
      go_wp2_with fail
      go_roundw
      case rel => exact ⟨k + 1, by omega, by go_num, hown6, hb6⟩
      case measure => simp [intOf]; omega
    · obtain rfl : k = n := by omega
      obtain ⟨a3, c3, rfl, hf3⟩ := own_form hO
      obtain ⟨g3, rfl, _⟩ := hf3 hn
      go_wp2_with fail
      go_ret
      exact ⟨g3, c3, rfl, hO, hb⟩

/-- Two lists that grow beside one another. -/
structure Two (w : World) (B : Nat) (vo : Value) (ko : Nat) (xs : List Gf.F) (vv : Value) (kv : Nat) (ys : List Gf.F) : Prop where
  out : w.ownsRow B 5 1 vo ko (encL xs)
  col : w.ownsRow B 5 1 vv kv (encL ys)
  far : ∀ g, vo.ownBlock = some g → vv.ownBlock ≠ some g

theorem Two.step {w w' : World} {B ko kv g c : Nat} {vo vv : Value} {xs ys : List Gf.F} {o : Obj} {x : Gf.F} (h : Two w B vo ko xs vv kv ys)
    (hown : w'.ownsRow B 5 1 (.slice (some ⟨g, 0, none⟩) (kv + 1) c) (kv + 1) (encL ys ++ [.int .u8 (x.toNat : Int)])) (hgr : (w.alloc o).grownBy w' vv.ownBlock) (hg : vv.ownBlock = some g ∨ g = w.heap.size + 1) :
    Two w' B vo ko xs (.slice (some ⟨g, 0, none⟩) (kv + 1) c) (kv + 1) (ys ++ [x]) := by
  refine ⟨own_of_block h.out (fun b hb => ?_), ?_, fun b hb q => ?_⟩
  · have hlt := (own_lt h.out hb).2
    rw [grown_block hgr (by simp; omega) (h.far b hb), Below.heap_alloc _ _ _ hlt]
  · have e : encL (ys ++ [x]) = encL ys ++ [.int .u8 (x.toNat : Int)] := by simp [encL]
    rw [e]; exact hown
  · have e : g = b := by simpa [Value.ownBlock] using q
    subst e
    rcases hg with e | e
    · exact h.far g hb e
    · have := (own_lt h.out hb).2; omega

/-- The b-th bytes of the first k rows. -/
def colOf (rs : List Raw) (b k : Nat) : List Gf.F := (List.range k).map fun t => at_ (wat rs t).l b
theorem colOf_succ (rs : List Raw) (b k : Nat) : colOf rs b (k + 1) = colOf rs b k ++ [at_ (wat rs k).l b] := by simp [colOf, List.range_succ]
theorem colOf_length (rs : List Raw) (b k : Nat) : (colOf rs b k).length = k := by simp [colOf]
theorem colOf_at (rs : List Raw) (b k i : Nat) (hi : i < k) : at_ (colOf rs b k) i = at_ (wat rs i).l b := by simp [at_, colOf, List.getD, hi]

/-- The symbol, as the document has it. -/
def symR (l : List Int) (rs : List Raw) (n : Nat) (p : Gf.F) (m : Nat) : List Gf.F := (List.range m).map fun b => Gf.lag (fun i => byteOf (zat l i)) (fun i => at_ (wat rs i).l b) n p
theorem symR_succ (l : List Int) (rs : List Raw) (n : Nat) (p : Gf.F) (m : Nat) : symR l rs n p (m + 1) = symR l rs n p m ++ [Gf.lag (fun i => byteOf (zat l i)) (fun i => at_ (wat rs i).l m) n p] := by simp [symR, List.range_succ]
theorem symR_length (l : List Int) (rs : List Raw) (n : Nat) (p : Gf.F) (m : Nat) : (symR l rs n p m).length = m := by simp [symR]
theorem symR_at (l : List Int) (rs : List Raw) (n : Nat) (p : Gf.F) (m b : Nat) (hb : b < m) : at_ (symR l rs n p m) b = Gf.lag (fun i => byteOf (zat l i)) (fun i => at_ (wat rs i).l b) n p := by simp [at_, symR, List.getD, hb]

set_option maxRecDepth 100000 in
set_option maxHeartbeats 2000000 in
theorem at_any (zb zo zc lb lo lc n m : Nat) (l : List Int) (rs : List Raw) (z : Int) (w : World) (hl : l.length = n) (hr : rs.length = n) (hn : 0 < n) (hn8 : n ≤ 8) (hp : placesB l n = true) (hz : 0 ≤ z ∧ z ≤ 255) (hlen : ∀ i, i < n → (wat rs i).l.length = m) (hm : m ≤ 140737488355000) (hZ : Zs w zb zo l) (hW : Ws w lb lo rs) :
    Calls Tryz.prog 123 #[.slice (some ⟨zb, zo, none⟩) n zc, .slice (some ⟨lb, lo, none⟩) n lc, .int .i64 z] w fun e w' =>
      ∃ v, e = .returned v ∧ w'.ownsRow w.heap.size 5 1 v m (encL (symR l rs n (byteOf z) m)) ∧ Below w.heap.size w w' := by
  have hzl := hZ.lt (by omega)
  obtain ⟨iu, hiu, hu0, hu1, hu2⟩ := Tryz.u8_parts
  have HL : Hid (l.length = n) := hl
  have HR : Hid (rs.length = n) := hr
  have HLEN : Hid (∀ i, i < n → (wat rs i).l.length = m) := hlen
  clear hl hr hlen
  go_enter Tryz.func123, Tryz.ntmps123
  go_wp2_with fail
  go_loopw [7, 8] (fun v t wr => ∃ b : Nat, b ≤ m ∧ t = .int .i64 (b : Int) ∧ wr.ownsRow w.heap.size 5 1 v b (encL (symR l rs n (byteOf z) b)) ∧ Below w.heap.size w wr) (fun _ t _ => m - (intOf t).toNat)
  case atStart => exact ⟨0, by omega, rfl, World.ownsRow_nil .., Below.refl _ _⟩
  case round =>
    obtain ⟨b, hb, rfl, hO, hbr⟩ := hrel
    have hWr := hW.below hbr
    obtain ⟨a0, c0, hc0', _⟩ := hWr.cellAt 0 (by rw [HR.out]; exact hn)
    rw [HLEN.out 0 hn] at hc0'
    have hc0 : wr.cell? ⟨lb, lo, none⟩ = some (.slice a0 m c0) := hc0'
    clear hc0'
    have hi0 : (0 : Int) < (n : Int) := by omega
    obtain ⟨wA, rfl⟩ : ∃ x, x = wr := ⟨wr, rfl⟩
    by_cases hlt : b < m
    · go_wp2_with fail
      go_loopw [9, 10] (fun v t wr => ∃ i : Nat, i ≤ n ∧ t = .int .i64 (i : Int) ∧ Two wr w.heap.size u7 b (symR l rs n (byteOf z) b) v i (colOf rs b i) ∧ Below w.heap.size w wr) (fun _ t _ => n - (intOf t).toNat)
      case atStart => exact ⟨0, by omega, rfl, ⟨hO, World.ownsRow_nil .., fun g _ q => by cases q⟩, hbr⟩
      case round =>
        obtain ⟨i, hi, rfl, hT, hb3⟩ := hrel
        have hs3 := hb3.size
        by_cases hlt2 : i < n
        · obtain ⟨a1, c1, hc1, hf1⟩ := (hW.below hb3).cellAt i (by rw [HR.out]; exact hlt2)
          rw [HLEN.out i hlt2] at hc1 hf1
          obtain ⟨b1, o1, rfl, hB1⟩ := hf1 (by omega)
          have hc2 : wr.cell? ⟨b1, o1 + b, none⟩ = some (.int .u8 ((at_ (wat rs i).l b).toNat : Int)) := hB1 b (by rw [HLEN.out i hlt2]; exact hlt)
          have hin : (i : Int) < (n : Int) := by omega
          have hbm : (b : Int) < (m : Int) := by omega
          clear hB1 hf1
          go_wp2_with (at_builtin; refine wpList_append_lies _ rfl _ _ _ rfl w.heap.size 5 iu (.int .u8 0) 1 1 Tryz.underlying33 hiu hu0 hu1 hu2 rfl (by omega) u9 i (encL (colOf rs b i)) rfl (hT.col.alloc _) ⟨wr.heap.size, 0, none⟩ 1 1 [.int .u8 ((at_ (wat rs i).l b).toNat : Int)] rfl rfl ?c1 ?c2 (by omega) ?c3 (by omega) ?c4 (wr.heap.size + 1) ?c5 ?_)
          case c1 => exact cell_one_new _ _ _
          case c2 => intro u hu; simp at hu; subst hu; rfl
          case c3 => unfold maxLen; omega
          case c4 => simp; omega
          case c5 => simp
          intro ga ca w6 hown6 hgr6 hlie6 hlt6
          have hT6 := hT.step hown6 hgr6 hlie6
          rw [← colOf_succ] at hT6
          have hb6 : Below w.heap.size w w6 := (hb3.alloc hs3 _).grown hgr6 (by simp; omega) (fun t ht => (own_lt hT.col ht).1)
          clear hown6 hgr6 hlie6 hlt6
          go_wp2_with fail
          go_roundw
          case rel => exact ⟨i + 1, by omega, by go_num, hT6, hb6⟩
          case measure => simp [intOf]; omega
        · obtain rfl : i = n := by omega
          obtain ⟨a9, c9, rfl, hf9⟩ := own_form hT.col
          obtain ⟨g9, rfl, _⟩ := hf9 hn
          have hcol := own_bs hT.col (colOf_length ..)
          have hout := hT.out
          obtain ⟨wB, rfl⟩ : ∃ x, x = wr := ⟨wr, rfl⟩
          go_wp2_with fail
          refine (poly_any zb zo zc g9 0 c9 i l (colOf rs b i) _ HL.out (colOf_length ..) hn hn8 hp (hZ.below hb3 hzl) hcol).mono ?_
          rintro e w5 ⟨gp, cp, cf, rfl, hop, hcf, hev, hb5⟩
          have hBp := own_bs hop hcf
          have HEV : Hid (Gf.ev cf (byteOf z) = Gf.lag (fun i => byteOf (zat l i)) (fun t => at_ (wat rs t).l b) i (byteOf z)) := (hev _).trans (Gf.lag_congr (fun _ _ => rfl) (fun t ht => colOf_at rs b i t ht) _)
          have hO5 := own_of_block hout (fun g hg => hb5.block g (own_lt hout hg).2)
          have hb15 : Below w.heap.size w w5 := hb3.trans (hb5.mono hs3)
          have hs5 := hb15.size
          have HCF : Hid (cf.length = i) := hcf
          clear hev hcf hop hcol hout hT
          go_wp2_with fail
          refine (value_any gp cp i cf z _ hz hn8 HCF.out hBp).mono ?_
          rintro e w5' ⟨rfl, rfl⟩
          rw [HEV.out]
          generalize hxx : Gf.lag (fun i => byteOf (zat l i)) (fun t => at_ (wat rs t).l b) i (byteOf z) = xx
          have HXX : Hid (Gf.lag (fun i => byteOf (zat l i)) (fun t => at_ (wat rs t).l b) i (byteOf z) = xx) := hxx
          clear hxx HEV
          go_wp2_with (at_builtin; refine wpList_append_lies _ rfl _ _ _ rfl w.heap.size 5 iu (.int .u8 0) 1 1 Tryz.underlying33 hiu hu0 hu1 hu2 rfl (by omega) u7 b (encL (symR l rs i (byteOf z) b)) rfl (hO5.alloc _) ⟨w5'.heap.size, 0, none⟩ 1 1 [.int .u8 (xx.toNat : Int)] rfl rfl ?c1 ?c2 (by omega) ?c3 (by omega) ?c4 (w5'.heap.size + 1) ?c5 ?_)
          case c1 => exact cell_one_new _ _ _
          case c2 => intro u hu; simp at hu; subst hu; rfl
          case c3 => unfold maxLen; omega
          case c4 => simp; omega
          case c5 => simp
          intro ga ca w6 hown6 hgr6 hlie6 hlt6
          have e : encL (symR l rs i (byteOf z) b) ++ [.int .u8 (xx.toNat : Int)] = encL (symR l rs i (byteOf z) (b + 1)) := by rw [symR_succ, HXX.out]; simp [encL]
          rw [e] at hown6
          have hb6 : Below w.heap.size w w6 := (hb15.alloc hs5 _).grown hgr6 (by simp; omega) (fun t ht => (own_lt hO5 ht).1)
          clear e hgr6 hlie6 hlt6
          go_wp2_with fail
          go_roundw
          case rel => exact ⟨b + 1, by omega, by go_num, hown6, hb6⟩
          case measure => simp [intOf]; omega
    · obtain rfl : b = m := by omega
      go_wp2_with fail
      go_ret
      exact ⟨u7, rfl, hO, hbr⟩

theorem Ws.lt {w : World} {b o : Nat} {rs : List Raw} (h : Ws w b o rs) (hl : 0 < rs.length) : b < w.heap.size := lt_of_cell (h 0 hl).1

theorem frontZ_places (n : Nat) (hn : n ≤ 8) : placesB (frontZ n) n = true := by
  rw [placesB_iff]
  intro i hi
  rw [frontZ_at n i hi]
  refine ⟨plcB_yes ⟨by omega, by omega⟩, ?_⟩
  rw [← Bool.not_eq_true, hasB_iff]
  rintro ⟨j, hj, e⟩
  rw [frontZ_at n j (by omega)] at e
  omega

end Go.Proofs.YtjabhnhejbhgjaaGreatDoor
