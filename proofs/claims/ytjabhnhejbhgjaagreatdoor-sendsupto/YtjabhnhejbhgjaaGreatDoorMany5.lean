import Derived.Test.YtjabhnhejbhgjaaGreatDoorMany4
/- The document's sender in memory; packet. -/
namespace Go.Proofs.YtjabhnhejbhgjaaGreatDoor
open Go.RowKit

/-- The document's sender: its configuration, its objects (of a block: owed, sent), the two lists, how many source symbols were sent. -/
structure Rsn where
  K : Nat
  N : Nat
  S : Nat
  os : List Ob
  va : Value
  vb : Value
  sent : Nat

def Rsn.foot (r : Rsn) (rb b : Nat) : Prop := b = rb ∨ r.va.ownBlock = some b ∨ r.vb.ownBlock = some b ∨ ∃ i, i < r.os.length ∧ (b = (oat r.os i).dg ∨ (oat r.os i).bv.ownBlock = some b)

structure RAt (w : World) (B rb : Nat) (r : Rsn) : Prop where
  low : B ≤ rb
  blk : w.heap[rb]? = some (.cells #[.int .i64 (r.K : Int), .int .i64 (r.N : Int), .int .i64 (r.S : Int), r.va, r.vb, .int .i64 (r.sent : Int)] 191 (0, 0))
  own : w.ownsRow B 33 1 r.va r.os.length (r.os.map Ob.bv)
  ownB : w.ownsRow B 193 1 r.vb r.os.length (r.os.map Ob.dv)
  bytes : ∀ i, i < r.os.length → w.ownsRow B 5 1 (oat r.os i).bv (oat r.os i).l.length (encL (oat r.os i).l)
  debts : ∀ i, i < r.os.length → B ≤ (oat r.os i).dg ∧ w.heap[(oat r.os i).dg]? = some (.cells (flat2 (debtVals (oat r.os i).ds)).toArray 196 (0, 0))
  apart : ∀ i j, i < r.os.length → j < r.os.length → (oat r.os i).dg = (oat r.os j).dg → i = j

theorem RAt.foot_lt {w : World} {B rb : Nat} {r : Rsn} (h : RAt w B rb r) {b : Nat} (hb : r.foot rb b) : B ≤ b ∧ b < w.heap.size := by
  rcases hb with rfl | hb | hb | ⟨i, hi, rfl | hb⟩
  · exact ⟨h.low, lt_of_block h.blk⟩
  · exact h.own.lt b hb
  · exact h.ownB.lt b hb
  · exact ⟨(h.debts i hi).1, lt_of_block (h.debts i hi).2⟩
  · exact (h.bytes i hi).lt b hb
theorem RAt.kept {w w' : World} {B rb : Nat} {r : Rsn} (h : RAt w B rb r) (hk : ∀ b, r.foot rb b → w'.heap[b]? = w.heap[b]?) : RAt w' B rb r :=
  ⟨h.low, (hk rb (.inl rfl)).trans h.blk, own_of_block h.own (fun g hg => hk g (.inr (.inl hg))), own_of_block h.ownB (fun g hg => hk g (.inr (.inr (.inl hg)))),
   fun i hi => own_of_block (h.bytes i hi) (fun g hg => hk g (.inr (.inr (.inr ⟨i, hi, .inr hg⟩)))),
   fun i hi => ⟨(h.debts i hi).1, (hk _ (.inr (.inr (.inr ⟨i, hi, .inl rfl⟩)))).trans (h.debts i hi).2⟩, h.apart⟩
theorem RAt.above {w w' : World} {B rb : Nat} {r : Rsn} (h : RAt w B rb r) (hb : Below w.heap.size w w') : RAt w' B rb r := h.kept (fun b q => hb.block b (h.foot_lt q).2)
theorem RAt.cells {w : World} {B rb : Nat} {r : Rsn} (h : RAt w B rb r) :
    w.cell? ⟨rb, 0, none⟩ = some (.int .i64 (r.K : Int)) ∧ w.cell? ⟨rb, 1, none⟩ = some (.int .i64 (r.N : Int)) ∧ w.cell? ⟨rb, 2, none⟩ = some (.int .i64 (r.S : Int)) ∧ w.cell? ⟨rb, 3, none⟩ = some r.va ∧ w.cell? ⟨rb, 4, none⟩ = some r.vb ∧ w.cell? ⟨rb, 5, none⟩ = some (.int .i64 (r.sent : Int)) :=
  ⟨cell_of_row w _ 0 _ _ _ h.blk, cell_of_row w _ 1 _ _ _ h.blk, cell_of_row w _ 2 _ _ _ h.blk, cell_of_row w _ 3 _ _ _ h.blk, cell_of_row w _ 4 _ _ _ h.blk, cell_of_row w _ 5 _ _ _ h.blk⟩
theorem RAt.frozen {w : World} {B rb : Nat} {r : Rsn} (h : RAt w B rb r) (i : Nat) : w.frozen? ⟨rb, i, none⟩ = false := frozen_of_row w rb i _ _ h.blk
theorem RAt.frozenD {w : World} {B rb i : Nat} {r : Rsn} (h : RAt w B rb r) (hi : i < r.os.length) (j : Nat) : w.frozen? ⟨(oat r.os i).dg, j, none⟩ = false := frozen_of_row w _ j _ _ (h.debts i hi).2

theorem list_cells {w : World} {B n : Nat} {e : TypeId} {v : Value} {xs : List Value} (h : w.ownsRow B e 1 v n xs) (h0 : 0 < n) : ∃ g c, v = .slice (some ⟨g, 0, none⟩) n c ∧ n ≤ c ∧ ∀ (i : Nat) u, xs[i]? = some u → w.cell? ⟨g, i, none⟩ = some u := by
  obtain ⟨g, c, hv, hc⟩ : ∃ g c, v = .slice (some ⟨g, 0, none⟩) n c ∧ n ≤ c := by
    rcases h.2 with ⟨_, h2⟩ | ⟨g, cap, cur, h1, _, _, h4, _⟩
    · omega
    · exact ⟨g, cap, h1, h4⟩
  refine ⟨g, c, hv, hc, fun i u hu => ?_⟩
  have e : ∀ j, (⟨g, 0, none⟩ : Addr).add j = ⟨g, j, none⟩ := fun j => by unfold Addr.add; split <;> simp_all
  have h0 := h.cells (g := g) (by rw [hv]; rfl) i u hu
  rwa [e] at h0
theorem RAt.list {w : World} {B rb : Nat} {r : Rsn} (h : RAt w B rb r) (h0 : 0 < r.os.length) : ∃ g c, r.va = .slice (some ⟨g, 0, none⟩) r.os.length c ∧ r.os.length ≤ c ∧ ∀ i, i < r.os.length → w.cell? ⟨g, i, none⟩ = some (oat r.os i).bv := by
  obtain ⟨g, c, h1, h2, h3⟩ := list_cells h.own h0
  exact ⟨g, c, h1, h2, fun i hi => h3 i _ (by rw [List.getElem?_map, oat_some hi]; rfl)⟩
theorem RAt.listB {w : World} {B rb : Nat} {r : Rsn} (h : RAt w B rb r) (h0 : 0 < r.os.length) : ∃ g c, r.vb = .slice (some ⟨g, 0, none⟩) r.os.length c ∧ r.os.length ≤ c ∧ ∀ i, i < r.os.length → w.cell? ⟨g, i, none⟩ = some (oat r.os i).dv := by
  obtain ⟨g, c, h1, h2, h3⟩ := list_cells h.ownB h0
  exact ⟨g, c, h1, h2, fun i hi => h3 i _ (by rw [List.getElem?_map, oat_some hi]; rfl)⟩
theorem RAt.debt {w : World} {B rb : Nat} {r : Rsn} (h : RAt w B rb r) {i q : Nat} (hi : i < r.os.length) (hq : q < (oat r.os i).ds.length) :
    w.cell? ⟨(oat r.os i).dg, q * 2, none⟩ = some (.int .i64 ((dat (oat r.os i).ds q).1 : Int)) ∧ w.cell? ⟨(oat r.os i).dg, q * 2 + 1, none⟩ = some (.int .i64 ((dat (oat r.os i).ds q).2 : Int)) := by
  have hd := (h.debts i hi).2
  refine ⟨?_, ?_⟩
  · rw [cell_of_row w _ _ _ _ _ hd, Nat.mul_comm q 2]
    rw [List.getElem?_toArray, flat2_get0, debtVals, List.getElem?_map, dat_some hq]; rfl
  · rw [cell_of_row w _ _ _ _ _ hd, Nat.mul_comm q 2]
    rw [List.getElem?_toArray, flat2_get1, debtVals, List.getElem?_map, dat_some hq]; rfl

/-- The lists that were built, as raw lists. -/
def rawsOf (vs : List Value) (f : Nat → List Gf.F) : List Raw := (List.range vs.length).map fun t => ⟨vs.getD t (.slice none 0 0), f t⟩
theorem rawsOf_length (vs : List Value) (f : Nat → List Gf.F) : (rawsOf vs f).length = vs.length := by simp [rawsOf]
theorem rawsOf_at (vs : List Value) (f : Nat → List Gf.F) (t : Nat) (ht : t < vs.length) : wat (rawsOf vs f) t = ⟨vs.getD t (.slice none 0 0), f t⟩ := by simp [wat, rawsOf, List.getD, ht]
theorem OutS.ws {w : World} {B S k : Nat} {f : Nat → List Gf.F} {v : Value} {vs : List Value} (h : OutS w B S f v k vs) (hk : 0 < k) (hf : ∀ t, (f t).length = S) : ∃ g c, v = .slice (some ⟨g, 0, none⟩) k c ∧ Ws w g 0 (rawsOf vs f) := by
  obtain ⟨g, c, h1, h2, h3⟩ := list_cells h.own hk
  refine ⟨g, c, h1, fun i hi => ?_⟩
  rw [rawsOf_length, h.len] at hi
  obtain ⟨u, hu, ho⟩ := h.each i hi
  rw [rawsOf_at vs f i (by rw [h.len]; exact hi)]
  have e : vs.getD i (.slice none 0 0) = u := by rw [List.getD_eq_getElem?_getD, hu]; rfl
  rw [e]
  refine ⟨by rw [Nat.zero_add]; exact h3 i u hu, ?_⟩
  obtain ⟨a, c', rfl, hx⟩ := own_form ho
  refine ⟨a, c', by rw [hf], fun h0 => ?_⟩
  obtain ⟨g', rfl, _⟩ := hx (by rw [← hf i]; exact h0)
  exact ⟨g', 0, rfl, own_bs ho (hf i)⟩

theorem symR_symPl (K S : Nat) (l : List Gf.F) (q pl : Nat) (vs : List Value) (hl : vs.length = srcN K (symN S l.length) q) :
    symR (frontZ (srcN K (symN S l.length) q)) (rawsOf vs (fun t => symAt S l (q * K + t))) (srcN K (symN S l.length) q) (byteOf (pl : Int)) S = symPl K S l q pl := by
  unfold symPl
  generalize srcN K (symN S l.length) q = k at *
  refine list_ext (by rw [symOf_length, symR_length]) (fun i hi => ?_)
  rw [symR_length] at hi
  rw [symOf_at _ _ _ _ _ hi, symR_at _ _ _ _ _ _ hi, front_length]
  exact Gf.lag_congr (fun j hj => by rw [front_at k j hj, frontZ_at k j hj]; rfl) (fun j hj => by rw [srcRows_at _ _ _ _ _ hj, rawsOf_at vs _ j (by rw [hl]; exact hj)]) _

def Rsn.pkt (r : Rsn) (i q pl : Nat) : List Gf.F := dataOf i (oat r.os i).l.length q pl (symPl r.K r.S (oat r.os i).l q pl)

set_option maxRecDepth 100000 in
set_option maxHeartbeats 2000000 in
theorem rpacket_any {B rb i q : Nat} {r : Rsn} {w : World} (pl : Nat) (h : RAt w B rb r) (hcf : Cfg r.K r.N r.S) (hi : i < r.os.length) (hi2 : r.os.length ≤ 16) (hlen : (oat r.os i).l.length ≤ 255) (hq : q < partsN (symN r.S (oat r.os i).l.length) r.K) (hpl : pl < 256) :
    Calls Tryz.prog 90 #[.pointer (some ⟨rb, 0, none⟩), .int .i64 (i : Int), .int .i64 (q : Int), .int .i64 (pl : Int)] w fun e w' =>
      ∃ g cap, e = .returned (.slice (some ⟨g, 0, none⟩) (6 + r.S) cap) ∧ w'.ownsRow w.heap.size 5 1 (.slice (some ⟨g, 0, none⟩) (6 + r.S) cap) (6 + r.S) (encL (r.pkt i q pl)) ∧ Below w.heap.size w w' := by
  obtain ⟨k1, k8, kn, n16, s1, s8⟩ := hcf
  obtain ⟨b, ha, hlc, hcap, hB, hbl⟩ := Ob.form (h.bytes i hi)
  have hTr := symN_range (S := r.S) (len := (oat r.os i).l.length) s1
  have hqK : q * r.K < symN r.S (oat r.os i).l.length := partsN_mul k1 hq
  have hQl := partsN_le (a := symN r.S (oat r.os i).l.length) k1
  have hq2 : q < 256 := by omega
  obtain ⟨c0, c1, c2, c3, _, _⟩ := h.cells
  obtain ⟨g, cp, hv, hcp, hl⟩ := h.list (by omega)
  have t0 := hl i hi
  have HPK : Hid (r.pkt i q pl = dataOf i (oat r.os i).l.length q pl (symPl r.K r.S (oat r.os i).l q pl)) := rfl
  have HSR : Hid (∀ vs : List Value, vs.length = srcN r.K (symN r.S (oat r.os i).l.length) q → symR (frontZ (srcN r.K (symN r.S (oat r.os i).l.length) q)) (rawsOf vs (fun t => symAt r.S (oat r.os i).l (q * r.K + t))) (srcN r.K (symN r.S (oat r.os i).l.length) q) (byteOf (pl : Int)) r.S = symPl r.K r.S (oat r.os i).l q pl) := fun vs hvs => symR_symPl _ _ _ _ _ vs hvs
  have HSRC : Hid (∀ W, Below w.heap.size w W → Calls Tryz.prog 122 #[.agg #[.int .i64 (r.K : Int), .int .i64 (r.N : Int), .int .i64 (r.S : Int)], .slice (oat r.os i).a (oat r.os i).l.length (oat r.os i).c, .int .i64 (q : Int)] W fun e w' =>
      ∃ v vs, e = .returned v ∧ OutS w' W.heap.size r.S (fun t => symAt r.S (oat r.os i).l (q * r.K + t)) v (srcN r.K (symN r.S (oat r.os i).l.length) q) vs ∧ Below W.heap.size W w') := fun W hW =>
    rsource_any r.K r.N r.S b 0 (oat r.os i).l.length (oat r.os i).c q (oat r.os i).a (oat r.os i).l W ⟨k1, k8, kn, n16, s1, s8⟩ hqK rfl hlen (fun h0 => by rcases ha with h | ⟨_, h, _⟩; exact h; omega) (fun j hj => by have := hB j hj; rw [hW.cell (lt_of_cell this)]; exact this)
  have HSL : Hid (∀ t, (symAt r.S (oat r.os i).l (q * r.K + t)).length = r.S) := fun t => symAt_length _ _ _
  have hk1 : 1 ≤ srcN r.K (symN r.S (oat r.os i).l.length) q := by unfold srcN; omega
  have hk8 : srcN r.K (symN r.S (oat r.os i).l.length) q ≤ 8 := by unfold srcN; omega
  unfold Ob.bv at t0
  rw [hv] at c3
  have hlt1 : (0 : Int) ≤ (i : Int) := by omega
  have hlt2 : (i : Int) < (r.os.length : Int) := by omega
  obtain ⟨f, hf⟩ : ∃ x, x = (fun t => symAt r.S (oat r.os i).l (q * r.K + t)) := ⟨_, rfl⟩
  rw [← hf] at HSR HSRC
  have HSL' : Hid (∀ t, (f t).length = r.S) := fun t => by rw [hf]; exact HSL.out t
  clear hf HSL
  generalize srcN r.K (symN r.S (oat r.os i).l.length) q = k at *
  generalize hD : symPl r.K r.S (oat r.os i).l q pl = D at *
  have HDL : Hid (D.length = r.S) := by show _ = _; rw [← hD]; exact symPl_length ..
  generalize hL : (oat r.os i).l.length = len at *
  generalize (oat r.os i).a = va at *
  generalize (oat r.os i).c = vc at *
  clear hL hD hl hv ha hTr hqK hQl hlc hB hbl
  obtain ⟨iU, hiU, hiU0, hiU1, hiU2⟩ := Tryz.u8_parts
  go_enter Tryz.func90, Tryz.ntmps90
  go_wp2_with fail
  refine (HSRC.out w (Below.refl _ _)).mono ?_
  rintro e w1 ⟨v, vs, rfl, hO, hb1⟩
  obtain ⟨g1, cp1, rfl, hW1⟩ := hO.ws (by omega) HSL'.out
  have hvl : Hid (vs.length = k) := hO.len
  clear c0 c1 c2 c3 t0
  have e6 : Hid (∀ W : World, (W.alloc (.cells #[.int .u8 1, .int .u8 (i : Int), .int .u8 ((len : Int) / 256), .int .u8 ((len : Int) % 256), .int .u8 (q : Int), .int .u8 (pl : Int)] 5)).ownsRow W.heap.size 5 1 (.slice (some ⟨W.heap.size, 0, none⟩) 6 6) 6 (encL [by8 1, by8 i, by8 (len / 256), by8 len, by8 q, by8 pl])) := fun W => by
    have hX := heap_alloc_new W (.cells #[.int .u8 1, .int .u8 (i : Int), .int .u8 ((len : Int) / 256), .int .u8 ((len : Int) % 256), .int .u8 (q : Int), .int .u8 (pl : Int)] 5)
    have e1 : ((by8 i).toNat : Int) = (i : Int) := by8_int (by omega)
    have e2 : ((by8 (len / 256)).toNat : Int) = (len : Int) / 256 := by unfold by8; rw [BitVec.toNat_ofNat]; omega
    have e3 : ((by8 len).toNat : Int) = (len : Int) % 256 := by unfold by8; rw [BitVec.toNat_ofNat]; omega
    have e4 : ((by8 q).toNat : Int) = (q : Int) := by8_int hq2
    have e5 : ((by8 pl).toNat : Int) = (pl : Int) := by8_int hpl
    have e0 : ((by8 1).toNat : Int) = 1 := rfl
    refine blk_own (l := [by8 1, by8 i, by8 (len / 256), by8 len, by8 q, by8 pl]) ?_ (Nat.le_refl _) (by simp)
    unfold Blk
    rw [hX]
    simp [enc, e0, e1, e2, e3, e4, e5]
  go_wp2_with fail
  have hb2 : Below w1.heap.size w1 (w1.alloc (.cells #[.int .u8 1, .int .u8 (i : Int), .int .u8 ((len : Int) / 256), .int .u8 ((len : Int) % 256), .int .u8 (q : Int), .int .u8 (pl : Int)] 5)) := (Below.refl _ _).alloc (Nat.le_refl _) _
  have hX2 := e6.out w1
  generalize w1.alloc (.cells #[.int .u8 1, .int .u8 (i : Int), .int .u8 ((len : Int) / 256), .int .u8 ((len : Int) % 256), .int .u8 (q : Int), .int .u8 (pl : Int)] 5) = W2 at *
  have hW2 := hW1.below hb2
  refine (front_any k W2 (by omega) hk8).mono ?_
  rintro e w3 ⟨g3, c3, rfl, hF3, hb3⟩
  have hW3 := hW2.below hb3
  have hZ3 : Zs w3 g3 0 (frontZ k) := by
    intro j hj
    rw [frontZ_length] at hj
    have := hF3.cells (g := g3) rfl j _ (by simp [encZ, frontZ, hj]; rfl)
    have e : ∀ j, (⟨g3, 0, none⟩ : Addr).add j = ⟨g3, j, none⟩ := fun j => by unfold Addr.add; split <;> simp_all
    rw [e] at this
    rw [Nat.zero_add, this, frontZ_at k j hj]
  go_wp2_with fail
  refine (at_any g3 0 c3 g1 0 cp1 k r.S (frontZ k) (rawsOf vs f) (pl : Int) w3 (frontZ_length k) (by rw [rawsOf_length]; exact hvl.out) (by omega) hk8 (frontZ_places k hk8) ⟨by omega, by omega⟩ (fun j hj => by rw [rawsOf_at vs f j (by rw [hvl.out]; exact hj)]; exact HSL'.out j) (by omega) hZ3 hW3).mono ?_
  rintro e w4 ⟨v4, rfl, hO4, hb4⟩
  rw [HSR.out vs hvl.out] at hO4
  obtain ⟨a4, c4, rfl, hx4⟩ := own_form hO4
  obtain ⟨g4, rfl, _⟩ := hx4 s1
  have hX4 : w4.ownsRow w.heap.size 5 1 (.slice (some ⟨w1.heap.size, 0, none⟩) 6 6) 6 (encL [by8 1, by8 i, by8 (len / 256), by8 len, by8 q, by8 pl]) := own_base2 (own_of_block hX2 (fun x hx => (hb4.block _ (Nat.lt_of_lt_of_le (hX2.lt x hx).2 hb3.size)).trans (hb3.block _ (hX2.lt x hx).2))) hb1.size
  have hbw4 : Below w.heap.size w w4 := ((hb1.trans (hb2.mono hb1.size)).trans (hb3.mono (Nat.le_trans hb1.size hb2.size))).trans (hb4.mono (Nat.le_trans (Nat.le_trans hb1.size hb2.size) hb3.size))
  have hsz := hbw4.size
  have HC : Hid (∀ j u, (encL D)[j]? = some u → w4.cell? ((⟨g4, 0, none⟩ : Addr).add j) = some u) := fun j u hj => hO4.cells (g := g4) rfl j u hj
  have HMX : Hid (6 + r.S ≤ maxLen) := by show _ ≤ _; unfold maxLen; omega
  have HD1 : Hid ((encL D).length = r.S * 1) := by show _ = _; simp [encL, HDL.out]
  clear hX2 hO hW1 hW2 hW3 hZ3 hF3 hx4
  go_wp2_with (at_builtin; refine wpList_append_lies _ rfl _ _ _ rfl w.heap.size 5 iU (.int .u8 0) 1 1 Tryz.underlying33 hiU hiU0 hiU1 hiU2 rfl (by omega) (.slice (some ⟨w1.heap.size, 0, none⟩) 6 6) 6 (encL [by8 1, by8 i, by8 (len / 256), by8 len, by8 q, by8 pl]) rfl hX4 ⟨g4, 0, none⟩ r.S c4 (encL D) rfl HD1.out HC.out (encL_one D) (by omega) HMX.out (by omega) hsz w4.heap.size rfl ?_)
  intro g6 cap6 w6 hown6 hgr6 hlie6 hlt6
  go_wp2_with fail
  go_ret
  refine ⟨g6, cap6, rfl, ?_, hbw4.grown hgr6 hsz (fun t ht => (hX4.lt t ht).1)⟩
  rw [HPK.out]
  have e : encL (dataOf i len q pl D) = encL [by8 1, by8 i, by8 (len / 256), by8 len, by8 q, by8 pl] ++ encL D := by simp [encL, dataOf]
  rw [e]
  exact hown6

end Go.Proofs.YtjabhnhejbhgjaaGreatDoor

/- The document's sender beside the program's: they stand for the same. -/
namespace Go.Proofs.YtjabhnhejbhgjaaGreatDoor
open Go.RowKit

def Rsn.setD (r : Rsn) (i q : Nat) (d : Nat × Nat) : Rsn := { r with os := r.os.set i ((oat r.os i).setD q d) }
theorem Rsn.setD_len (r : Rsn) (i q : Nat) (d : Nat × Nat) : (r.setD i q d).os.length = r.os.length := by simp [Rsn.setD]
theorem Rsn.setD_at {r : Rsn} {i : Nat} (hi : i < r.os.length) (q : Nat) (d : Nat × Nat) (j : Nat) : oat (r.setD i q d).os j = if i = j then (oat r.os i).setD q d else oat r.os j := oat_set hi
theorem Rsn.setD_keeps {r : Rsn} {i : Nat} (hi : i < r.os.length) (q : Nat) (d : Nat × Nat) (j : Nat) : (oat (r.setD i q d).os j).l = (oat r.os j).l ∧ (oat (r.setD i q d).os j).dg = (oat r.os j).dg ∧ (oat (r.setD i q d).os j).bv = (oat r.os j).bv ∧ (oat (r.setD i q d).os j).dv = (oat r.os j).dv ∧ (oat (r.setD i q d).os j).ds.length = (oat r.os j).ds.length := by
  rw [r.setD_at hi]
  split
  · rename_i e; subst e; exact ⟨rfl, rfl, rfl, Ob.setD_dv .., by simp [Ob.setD]⟩
  · exact ⟨rfl, rfl, rfl, rfl, rfl⟩
theorem map_oat (os : List Ob) (f : Ob → Value) : os.map f = (List.range os.length).map fun j => f (oat os j) := by
  refine List.ext_getElem? (fun j => ?_)
  rw [List.getElem?_map, List.getElem?_map]
  by_cases h : j < os.length
  · rw [oat_some h, List.getElem?_range h]; rfl
  · rw [List.getElem?_eq_none (by omega), List.getElem?_eq_none (by simp; omega)]; rfl
theorem Rsn.setD_bvs {r : Rsn} {i : Nat} (hi : i < r.os.length) (q : Nat) (d : Nat × Nat) : (r.setD i q d).os.map Ob.bv = r.os.map Ob.bv := by
  rw [map_oat, map_oat, r.setD_len]
  exact List.map_congr_left (fun j _ => (r.setD_keeps hi q d j).2.2.1)
theorem Rsn.setD_dvs {r : Rsn} {i : Nat} (hi : i < r.os.length) (q : Nat) (d : Nat × Nat) : (r.setD i q d).os.map Ob.dv = r.os.map Ob.dv := by
  rw [map_oat, map_oat, r.setD_len]
  exact List.map_congr_left (fun j _ => (r.setD_keeps hi q d j).2.2.2.1)

theorem RAt.debtSet {w w' : World} {B rb i : Nat} {r : Rsn} (h : RAt w B rb r) (hi : i < r.os.length) (q : Nat) (d : Nat × Nat) (hb : But (fun b => b = (oat r.os i).dg) w w')
    (hk : w'.heap[(oat r.os i).dg]? = some (.cells (flat2 (debtVals ((oat r.os i).ds.set q d))).toArray 196 (0, 0))) : RAt w' B rb (r.setD i q d) := by
  have hd := (h.debts i hi).2
  have hne : ∀ {B' n sz : Nat} {e : TypeId} {v : Value} {xs : List Value}, w.ownsRow B' e sz v n xs → e ≠ 196 → ∀ g, v.ownBlock = some g → ¬ g = (oat r.os i).dg := fun h' he g hg e => own_ne h' hg (by rw [← e] at hd; exact hd) he rfl
  refine ⟨h.low, ?_, ?_, ?_, fun j hj => ?_, fun j hj => ?_, fun j k hj hk' e => ?_⟩
  · refine (hb.block rb (lt_of_block h.blk) (fun e => ?_)).trans h.blk
    have := h.blk
    rw [e, hd] at this
    simp only [Option.some.injEq, Obj.cells.injEq] at this
    exact absurd this.2.1 (by decide)
  · rw [r.setD_len, r.setD_bvs hi]
    exact hb.own h.own (hne h.own (by decide))
  · rw [r.setD_len, r.setD_dvs hi]
    exact hb.own h.ownB (hne h.ownB (by decide))
  · rw [r.setD_len] at hj
    rw [(r.setD_keeps hi q d j).2.2.1, (r.setD_keeps hi q d j).1]
    exact hb.own (h.bytes j hj) (hne (h.bytes j hj) (by decide))
  · rw [r.setD_len] at hj
    rw [r.setD_at hi]
    split
    · rename_i e; subst e
      exact ⟨(h.debts i hi).1, hk⟩
    · rename_i e
      refine ⟨(h.debts j hj).1, (hb.block _ (lt_of_block (h.debts j hj).2) (fun q' => e (h.apart i j hi hj q'.symm))).trans (h.debts j hj).2⟩
  · rw [r.setD_len] at hj hk'
    rw [(r.setD_keeps hi q d j).2.1, (r.setD_keeps hi q d k).2.1] at e
    exact h.apart j k hj hk' e
theorem RAt.owed {w : World} {B rb i q : Nat} {r : Rsn} (h : RAt w B rb r) (hi : i < r.os.length) (hq : q < (oat r.os i).ds.length) (x : Nat) :
    RAt (w.setCell ⟨(oat r.os i).dg, q * 2, none⟩ (.int .i64 (x : Int))) B rb (r.setD i q (x, (dat (oat r.os i).ds q).2)) ∧ But (fun b => b = (oat r.os i).dg) w (w.setCell ⟨(oat r.os i).dg, q * 2, none⟩ (.int .i64 (x : Int))) := by
  have hb := But.setCell (S := fun b => b = (oat r.os i).dg) (But.refl _ w) (p := ⟨(oat r.os i).dg, q * 2, none⟩) (.inl rfl) (.int .i64 (x : Int))
  refine ⟨h.debtSet hi q _ hb ?_, hb⟩
  rw [heap_setCell_same w _ (q * 2) _ _ _ (h.debts i hi).2, List.setIfInBounds_toArray, Nat.mul_comm q 2, flat2_set0 _ _ _ _ (debtVals_some hq), debtVals_set]
theorem RAt.turn {w : World} {B rb i q : Nat} {r : Rsn} (h : RAt w B rb r) (hi : i < r.os.length) (hq : q < (oat r.os i).ds.length) (x : Nat) :
    RAt (w.setCell ⟨(oat r.os i).dg, q * 2 + 1, none⟩ (.int .i64 (x : Int))) B rb (r.setD i q ((dat (oat r.os i).ds q).1, x)) ∧ But (fun b => b = (oat r.os i).dg) w (w.setCell ⟨(oat r.os i).dg, q * 2 + 1, none⟩ (.int .i64 (x : Int))) := by
  have hb := But.setCell (S := fun b => b = (oat r.os i).dg) (But.refl _ w) (p := ⟨(oat r.os i).dg, q * 2 + 1, none⟩) (.inl rfl) (.int .i64 (x : Int))
  refine ⟨h.debtSet hi q _ hb ?_, hb⟩
  rw [heap_setCell_same w _ (q * 2 + 1) _ _ _ (h.debts i hi).2, List.setIfInBounds_toArray, Nat.mul_comm q 2, flat2_set1 _ _ _ _ (debtVals_some hq), debtVals_set]
theorem Rsn.setD_setD {r : Rsn} {i q : Nat} (hi : i < r.os.length) (d d' : Nat × Nat) : (r.setD i q d).setD i q d' = r.setD i q d' := by
  have h1 : oat (r.setD i q d).os i = (oat r.os i).setD q d := by rw [r.setD_at hi, if_pos rfl]
  show { r.setD i q d with os := (r.setD i q d).os.set i ((oat (r.setD i q d).os i).setD q d') } = _
  rw [h1]
  simp [Rsn.setD, Ob.setD]
theorem Rsn.dat_setD {r : Rsn} {i q : Nat} (hi : i < r.os.length) (hq : q < (oat r.os i).ds.length) (d : Nat × Nat) : dat (oat (r.setD i q d).os i).ds q = d := by
  rw [r.setD_at hi, if_pos rfl]
  simp [dat, Ob.setD, List.getD, hq]
theorem Rsn.foot_setD {r : Rsn} {i : Nat} (hi : i < r.os.length) (q : Nat) (d : Nat × Nat) (rb b : Nat) : (r.setD i q d).foot rb b ↔ r.foot rb b := by
  have key : ∀ j, (oat (r.setD i q d).os j).dg = (oat r.os j).dg ∧ (oat (r.setD i q d).os j).bv = (oat r.os j).bv := fun j => ⟨(r.setD_keeps hi q d j).2.1, (r.setD_keeps hi q d j).2.2.1⟩
  unfold Rsn.foot
  rw [r.setD_len]
  constructor
  · rintro (h | h | h | ⟨j, hj, h⟩)
    · exact .inl h
    · exact .inr (.inl h)
    · exact .inr (.inr (.inl h))
    · exact .inr (.inr (.inr ⟨j, hj, by rw [(key j).1, (key j).2] at h; exact h⟩))
  · rintro (h | h | h | ⟨j, hj, h⟩)
    · exact .inl h
    · exact .inr (.inl h)
    · exact .inr (.inr (.inl h))
    · exact .inr (.inr (.inr ⟨j, hj, by rw [(key j).1, (key j).2]; exact h⟩))

/-- Another number of source symbols that were sent. -/
def Rsn.went (r : Rsn) (n : Nat) : Rsn := { r with sent := n }
theorem RAt.setSent {w : World} {B rb : Nat} {r : Rsn} (h : RAt w B rb r) (x : Nat) : RAt (w.setCell ⟨rb, 5, none⟩ (.int .i64 (x : Int))) B rb (r.went x) ∧ But (fun b => b = rb) w (w.setCell ⟨rb, 5, none⟩ (.int .i64 (x : Int))) := by
  have hb := But.setCell (S := fun b => b = rb) (But.refl _ w) (p := ⟨rb, 5, none⟩) (.inl rfl) (.int .i64 (x : Int))
  have hne : ∀ {B' n sz : Nat} {e : TypeId} {v : Value} {xs : List Value}, w.ownsRow B' e sz v n xs → e ≠ 191 → ∀ g, v.ownBlock = some g → ¬ g = rb := fun h' he g hg q => own_ne h' hg (by rw [← q] at h; exact h.blk) he (by rw [q])
  refine ⟨⟨h.low, heap_setCell_same w rb 5 _ _ _ h.blk, hb.own h.own (hne h.own (by decide)), hb.own h.ownB (hne h.ownB (by decide)), fun i hi => hb.own (h.bytes i hi) (hne (h.bytes i hi) (by decide)), fun i hi => ⟨(h.debts i hi).1, ?_⟩, h.apart⟩, hb⟩
  have hd := (h.debts i hi).2
  refine (hb.block _ (lt_of_block hd) (fun q => ?_)).trans hd
  have hb2 := h.blk
  rw [← q] at hb2
  rw [hd] at hb2
  simp only [Option.some.injEq, Obj.cells.injEq] at hb2
  exact absurd hb2.2.1 (by decide)

/-- How many source symbols the first k objects have. -/
def Snd.sumT (s : Snd) : Nat → Nat
  | 0 => 0
  | k + 1 => s.sumT k + s.T k
theorem Snd.sumT_mono (s : Snd) : ∀ {a b : Nat}, a ≤ b → s.sumT a ≤ s.sumT b
  | a, 0, h => by obtain rfl : a = 0 := by omega
                  exact Nat.le_refl _
  | a, b + 1, h => by
    by_cases e : a = b + 1
    · subst e; exact Nat.le_refl _
    · exact Nat.le_trans (s.sumT_mono (show a ≤ b by omega)) (Nat.le_add_right _ _)
theorem Snd.sumT_congr {s s' : Snd} (k : Nat) (h : ∀ i, i < k → s'.T i = s.T i) : s'.sumT k = s.sumT k := by
  induction k with
  | zero => rfl
  | succ k ih => show s'.sumT k + s'.T k = s.sumT k + s.T k; rw [ih (fun i hi => h i (by omega)), h k (by omega)]

/-- They stand for the same; no block was sent more than c symbols that were owed. -/
structure Sim (s : Snd) (r : Rsn) (c : Nat) : Prop where
  K : r.K = s.K
  N : r.N = s.N
  S : r.S = s.S
  len : r.os.length = s.os.length
  l : ∀ i, i < s.os.length → (oat r.os i).l = (oat s.os i).l
  dl : ∀ i, i < s.os.length → (oat r.os i).ds.length = s.Q i
  d : ∀ i q, i < s.os.length → q < s.Q i → (dat (oat r.os i).ds q).1 = (dat (oat s.os i).ds q).1 ∧ (dat (oat r.os i).ds q).2 % s.R i q = (dat (oat s.os i).ds q).2 ∧ (dat (oat r.os i).ds q).2 ≤ c
  sent : r.sent = s.sumT s.no + s.ns

theorem Sim.more {s : Snd} {r : Rsn} {c c' : Nat} (h : Sim s r c) (hc : c ≤ c') : Sim s r c' := ⟨h.K, h.N, h.S, h.len, h.l, h.dl, fun i q hi hq => ⟨(h.d i q hi hq).1, (h.d i q hi hq).2.1, by have := (h.d i q hi hq).2.2; omega⟩, h.sent⟩
theorem Sim.step {s : Snd} {r : Rsn} {c : Nat} (h : Sim s r c) : Sim s.step (r.went (r.sent + 1)) c := by
  have hs := h.sent
  unfold Snd.step
  split
  · rename_i e
    refine ⟨h.K, h.N, h.S, h.len, h.l, h.dl, h.d, ?_⟩
    have e1 : (s.at (s.no + 1) 0).sumT (s.no + 1) = s.sumT (s.no + 1) := Snd.sumT_congr _ (fun _ _ => rfl)
    show r.sent + 1 = (s.at (s.no + 1) 0).sumT (s.no + 1) + 0
    rw [e1]
    show r.sent + 1 = (s.sumT s.no + s.T s.no) + 0
    omega
  · refine ⟨h.K, h.N, h.S, h.len, h.l, h.dl, h.d, ?_⟩
    have e1 : (s.at s.no (s.ns + 1)).sumT s.no = s.sumT s.no := Snd.sumT_congr _ (fun _ _ => rfl)
    show r.sent + 1 = (s.at s.no (s.ns + 1)).sumT s.no + (s.ns + 1)
    rw [e1]
    omega
theorem Sim.setD {s : Snd} {r : Rsn} {c c' i q : Nat} (h : Sim s r c) (ok : s.Ok) (hi : i < s.os.length) (hq : q < s.Q i) {d d' : Nat × Nat} (h1 : d'.1 = d.1) (h2 : d'.2 % s.R i q = d.2) (h3 : d'.2 ≤ c') (hc : c ≤ c') : Sim (s.setD i q d) (r.setD i q d') c' := by
  have hi' : i < r.os.length := by rw [h.len]; exact hi
  have kT : ∀ j, (s.setD i q d).T j = s.T j := s.setD_T hi q d
  have kQ : ∀ j, (s.setD i q d).Q j = s.Q j := fun j => by unfold Snd.Q; rw [kT]; rfl
  have kR : ∀ j t, (s.setD i q d).R j t = s.R j t := fun j t => by unfold Snd.R; rw [kT]; rfl
  refine ⟨h.K, h.N, h.S, by rw [s.setD_len, r.setD_len]; exact h.len, fun j hj => ?_, fun j hj => ?_, fun j t hj ht => ?_, ?_⟩
  · rw [s.setD_len] at hj
    rw [(r.setD_keeps hi' q d' j).1, s.setD_l hi]; exact h.l j hj
  · rw [s.setD_len] at hj
    rw [(r.setD_keeps hi' q d' j).2.2.2.2, kQ]; exact h.dl j hj
  · rw [s.setD_len] at hj
    rw [kQ] at ht
    rw [kR, s.setD_at hi, r.setD_at hi']
    split
    · rename_i e; subst e
      by_cases e : t = q
      · subst e
        have e1 : dat ((oat s.os i).setD t d).ds t = d := by simp [dat, Ob.setD, List.getD, (ok.blocks i hi).symm ▸ hq]
        have e2 : dat ((oat r.os i).setD t d').ds t = d' := by simp [dat, Ob.setD, List.getD, (h.dl i hi).symm ▸ hq]
        rw [e1, e2]; exact ⟨h1, h2, h3⟩
      · have e1 : dat ((oat s.os i).setD q d).ds t = dat (oat s.os i).ds t := by simp [dat, Ob.setD, List.getD, Ne.symm e]
        have e2 : dat ((oat r.os i).setD q d').ds t = dat (oat r.os i).ds t := by simp [dat, Ob.setD, List.getD, Ne.symm e]
        rw [e1, e2]
        have := h.d i t hi ht
        exact ⟨this.1, this.2.1, by omega⟩
    · have := h.d j t hj ht
      exact ⟨this.1, this.2.1, by omega⟩
  · show r.sent = (s.setD i q d).sumT s.no + s.ns
    rw [Snd.sumT_congr s.no (fun j _ => kT j)]; exact h.sent
theorem Sim.pay {s : Snd} {r : Rsn} {c i q : Nat} (h : Sim s r c) (ok : s.Ok) (ho : s.owes i q) : Sim (s.pay i q) (r.setD i q ((dat (oat r.os i).ds q).1 - 1, (dat (oat r.os i).ds q).2 + 1)) (c + 1) := by
  obtain ⟨h1, h2, h3⟩ := h.d i q ho.1 ho.2.1
  refine h.setD ok ho.1 ho.2.1 (by show _ - 1 = _ - 1; rw [h1]) ?_ (by show _ + 1 ≤ _; omega) (by omega)
  show (_ + 1) % _ = (_ + 1) % _
  rw [← h2, Nat.mod_add_mod]

theorem NextIs.det {s s1 s2 : Snd} {l1 l2 : List Gf.F} (h1 : NextIs s l1 s1) (h2 : NextIs s l2 s2) : l1 = l2 ∧ s1 = s2 := by
  rcases h1 with ⟨h, rfl, rfl⟩ | ⟨e, i, q, ho, hf, rfl, rfl⟩
  · rcases h2 with ⟨_, rfl, rfl⟩ | ⟨e, _⟩
    · exact ⟨rfl, rfl⟩
    · omega
  · rcases h2 with ⟨h, _⟩ | ⟨_, i', q', ho', hf', rfl, rfl⟩
    · omega
    · have e1 : i = i' ∧ q = q' := by
        rcases Nat.lt_trichotomy i i' with h | h | h
        · exact absurd ho (hf' i q (.inl h))
        · refine ⟨h, ?_⟩
          rcases Nat.lt_trichotomy q q' with h5 | h5 | h5
          · exact absurd ho (hf' i q (.inr ⟨h, h5⟩))
          · exact h5
          · exact absurd ho' (hf i' q' (.inr ⟨h.symm, h5⟩))
        · exact absurd ho' (hf i' q' (.inl h))
      obtain ⟨rfl, rfl⟩ := e1
      exact ⟨rfl, rfl⟩

theorem ordL_at (K N q t : Nat) (ht : t < N - K + q) : zat (ordL K N q) t = ((plcAt K N t : Nat) : Int) := by
  unfold plcAt
  by_cases h : t < N - K
  · rw [if_pos h]
    simp [zat, ordL, ordA, List.getD, List.getElem?_append_left, h]
  · rw [if_neg h]
    obtain ⟨u, rfl⟩ : ∃ u, t = N - K + u := ⟨t - (N - K), by omega⟩
    have hu : u < q := by omega
    have e : N - K + u - (N - K) = u := by omega
    rw [e]
    simp [zat, ordL, ordA, frontZ, List.getD, hu]

end Go.Proofs.YtjabhnhejbhgjaaGreatDoor

/- The document's sender: Next. -/
namespace Go.Proofs.YtjabhnhejbhgjaaGreatDoor
open Go.RowKit

def RNextGives (s : Snd) (r : Rsn) (c B rb : Nat) (w : World) (e : Ending) (w' : World) : Prop :=
  (∃ g cap l s' r', e = .returned (.tuple #[.slice (some ⟨g, 0, none⟩) (6 + s.S) cap, .bool true]) ∧ w'.ownsRow w.heap.size 5 1 (.slice (some ⟨g, 0, none⟩) (6 + s.S) cap) (6 + s.S) (encL l) ∧ NextIs s l s' ∧ RAt w' B rb r' ∧ Sim s' r' (c + 1) ∧ But (r.foot rb) w w' ∧ (∀ b, r'.foot rb b ↔ r.foot rb b)) ∨
  (e = .returned (.tuple #[.slice none 0 0, .bool false]) ∧ s.no = s.os.length ∧ (∀ i q, ¬ s.owes i q) ∧ Below w.heap.size w w')

theorem Sim.pkt {s : Snd} {r : Rsn} {c : Nat} (h : Sim s r c) {i : Nat} (hi : i < s.os.length) (q pl : Nat) : r.pkt i q pl = s.pkt i q pl := by
  unfold Rsn.pkt Snd.pkt
  rw [h.l i hi, h.K, h.S]

set_option maxRecDepth 100000 in
set_option maxHeartbeats 4000000 in
theorem rnext_any {B rb c : Nat} {s : Snd} {r : Rsn} {w : World} (h : RAt w B rb r) (ok : s.Ok) (sim : Sim s r c) (hc : c ≤ 1000000000000) :
    Calls Tryz.prog 53 #[.pointer (some ⟨rb, 0, none⟩)] w (RNextGives s r c B rb w) := by
  obtain ⟨k1, k8, kn, n16, s1, s8⟩ := ok.cfg
  have hfew := ok.few
  have hnx := ok.next
  have hlen := sim.len
  have hcf : Cfg r.K r.N r.S := by rw [sim.K, sim.N, sim.S]; exact ok.cfg
  obtain ⟨_, _, _, c3, _, c5⟩ := h.cells
  obtain ⟨va, vc, hva, _⟩ := own_form2 h.own
  obtain ⟨vb, vd, hvb, _⟩ := own_form2 h.ownB
  have hT256 : ∀ i, i < s.os.length → 1 ≤ s.T i ∧ s.T i ≤ 256 := fun i hi => by
    have h1 := symN_range (S := s.S) (len := (oat s.os i).l.length) s1
    have h2 := ok.len i hi
    unfold Snd.T; omega
  have hsum : ∀ k, k ≤ s.os.length → s.sumT k ≤ 256 * k := fun k => by
    induction k with
    | zero => intro _; exact Nat.le_refl _
    | succ k ih => intro hk; have := ih (by omega); have := hT256 k (by omega); show s.sumT k + s.T k ≤ _; omega
  have hsent := sim.sent
  have hsent2 : r.sent ≤ 5000 := by
    have h1 := hsum s.no hnx
    by_cases e : s.no < s.os.length
    · have := hT256 s.no e; have := ok.sym e; omega
    · have := ok.done (by omega); omega
  have HOK : Hid s.Ok := ok
  have HSIM : Hid (Sim s r c) := sim
  have HT : Hid (∀ i, i < s.os.length → 1 ≤ s.T i ∧ s.T i ≤ 256) := hT256
  have HSENT : Hid (r.sent = s.sumT s.no + s.ns) := hsent
  have HCS : Hid (∀ W, RAt W B rb r → W.cell? ⟨rb, 0, none⟩ = some (.int .i64 (s.K : Int)) ∧ W.cell? ⟨rb, 1, none⟩ = some (.int .i64 (s.N : Int)) ∧ W.cell? ⟨rb, 2, none⟩ = some (.int .i64 (s.S : Int)) ∧ W.cell? ⟨rb, 3, none⟩ = some (.slice va s.os.length vc) ∧ W.cell? ⟨rb, 4, none⟩ = some (.slice vb s.os.length vd)) := fun W hW => by
    obtain ⟨q0, q1, q2, q3, q4, _⟩ := hW.cells
    rw [sim.K] at q0; rw [sim.N] at q1; rw [sim.S] at q2
    rw [hva, sim.len] at q3; rw [hvb, sim.len] at q4
    exact ⟨q0, q1, q2, q3, q4⟩
  have HLA : Hid (∀ W, RAt W B rb r → ∀ a, a < s.os.length → ∃ g, va = some ⟨g, 0, none⟩ ∧ W.cell? ⟨g, a, none⟩ = some (.slice (oat r.os a).a (oat s.os a).l.length (oat r.os a).c)) := fun W hW a ha => by
    obtain ⟨g, cp, hv, _, hl⟩ := hW.list (by omega)
    have t0 := hl a (by omega)
    unfold Ob.bv at t0
    rw [sim.l a ha] at t0
    rw [hva] at hv
    simp only [Value.slice.injEq] at hv
    exact ⟨g, hv.1, t0⟩
  have HLB : Hid (∀ W, RAt W B rb r → ∀ a, a < s.os.length → ∃ g, vb = some ⟨g, 0, none⟩ ∧ W.cell? ⟨g, a, none⟩ = some (.slice (some ⟨(oat r.os a).dg, 0, none⟩) (s.Q a) (s.Q a))) := fun W hW a ha => by
    obtain ⟨g, cp, hv, _, hl⟩ := hW.listB (by omega)
    have t0 := hl a (by omega)
    unfold Ob.dv at t0
    rw [sim.dl a ha] at t0
    rw [hvb] at hv
    simp only [Value.slice.injEq] at hv
    exact ⟨g, hv.1, t0⟩
  rw [hva] at c3
  clear hva hvb hT256 hsum hsent sim ok hcf
  go_enter Tryz.func53, Tryz.ntmps53
  go_wp2_with fail
  clear c3 c5
  go_loopw [4, 5] (fun kv t wr => ∃ a k : Nat, a ≤ s.no ∧ a ≤ s.os.length ∧ t = .int .i64 (a : Int) ∧ kv = .int .i64 (k : Int) ∧ s.sumT a + k = r.sent ∧ Below w.heap.size w wr) (fun _ t _ => s.os.length - (intOf t).toNat)
  case atStart => exact ⟨0, r.sent, by omega, by omega, rfl, rfl, by show 0 + _ = _; omega, Below.refl _ _⟩
  case round =>
    obtain ⟨a, k, hano, hale, rfl, rfl, hsum, hbr⟩ := hrel
    have hr := h.above hbr
    obtain ⟨y0, y1, y2, y3, y4⟩ := HCS.out wr hr
    by_cases hlt : a < s.os.length
    · have hlt1 : (a : Int) < (s.os.length : Int) := by omega
      have hlt0 : (0 : Int) ≤ (a : Int) := by omega
      obtain ⟨g, rfl, z0⟩ := HLA.out wr hr a hlt
      have hl255 := HOK.out.len a hlt
      have hTa := HT.out a hlt
      have HSYM : Hid (∀ W, Calls Tryz.prog 89 #[.agg #[.int .i64 (s.K : Int), .int .i64 (s.N : Int), .int .i64 (s.S : Int)], .int .i64 ((oat s.os a).l.length : Int)] W fun e w' => e = .returned (.int .i64 (s.T a : Int)) ∧ Below W.heap.size W w') := fun W => rsymbols_any s.K s.N s.S (oat s.os a).l.length s1 s8 (by omega) W
      have HTS : Hid (s.sumT (a + 1) = s.sumT a + s.T a) := rfl
      have HTK : Hid (k < s.T a ↔ a = s.no) := by
        show _ ↔ _
        constructor
        · intro hk
          by_cases e : a = s.no
          · exact e
          · have h1 := s.sumT_mono (show a + 1 ≤ s.no by omega)
            rw [HTS.out] at h1
            have := HSENT.out
            omega
        · intro e
          have h1 := HOK.out.sym (by omega)
          have := HSENT.out
          subst e
          omega
      generalize hTn : s.T a = T at *
      generalize hLn : (oat s.os a).l.length = len at *
      generalize (oat r.os a).a = oa at *
      generalize (oat r.os a).c = oc at *
      clear hLn
      obtain ⟨wA, hwA⟩ : ∃ x, x = wr := ⟨wr, rfl⟩
      subst hwA
      go_upto_region 5 with fail
      go_region_held3 (fun w' => w'.cell? ⟨rb, 0, none⟩ = some (.int .i64 (s.K : Int)) ∧ w'.cell? ⟨rb, 1, none⟩ = some (.int .i64 (s.N : Int)) ∧ w'.cell? ⟨rb, 2, none⟩ = some (.int .i64 (s.S : Int)) ∧ w'.cell? ⟨rb, 3, none⟩ = some (.slice (some ⟨g, 0, none⟩) s.os.length vc) ∧ w'.cell? ⟨g, a, none⟩ = some (.slice oa len oc)) (first | go_keep | exact hkeep) (first
        | (go_at_call 89; refine (HSYM.out _).mono ?_; rintro e w1 ⟨rfl, hb1⟩; have hkeep : w1.cell? ⟨rb, 0, none⟩ = some (.int .i64 (s.K : Int)) ∧ w1.cell? ⟨rb, 1, none⟩ = some (.int .i64 (s.N : Int)) ∧ w1.cell? ⟨rb, 2, none⟩ = some (.int .i64 (s.S : Int)) ∧ w1.cell? ⟨rb, 3, none⟩ = some (.slice (some ⟨g, 0, none⟩) s.os.length vc) ∧ w1.cell? ⟨g, a, none⟩ = some (.slice oa len oc) := ⟨by rw [hb1.cell (lt_of_cell y0)]; exact y0, by rw [hb1.cell (lt_of_cell y1)]; exact y1, by rw [hb1.cell (lt_of_cell y2)]; exact y2, by rw [hb1.cell (lt_of_cell y3)]; exact y3, by rw [hb1.cell (lt_of_cell z0)]; exact z0⟩))
      have hb1' := Below.undraw hb1
      have hbw1 : Below w.heap.size w w1 := hbr.trans (hb1'.mono hbr.size)
      have h1 := hr.above hb1'
      clear y0 y1 y2 y3 y4 z0 hkeep hb1
      by_cases hk : k < T
      · have hk1 : (k : Int) < (T : Int) := by omega
        have hea : a = s.no := HTK.out.1 hk
        obtain ⟨p0, p1, p2, p3, p4, p5⟩ := h1.cells
        have f5 := h1.frozen 5
        obtain ⟨h2, hbu2⟩ := h1.setSent (r.sent + 1)
        rw [show ((r.sent + 1 : Nat) : Int) = (r.sent : Int) + 1 by push_cast; rfl] at h2 hbu2
        go_upto_region 8 with fail
        generalize w1.setCell ⟨rb, 5, none⟩ (.int .i64 ((r.sent : Int) + 1)) = W2 at *
        clear p0 p1 p2 p3 p4 p5 f5
        obtain ⟨p0, _⟩ := h2.cells
        have p0' : W2.cell? ⟨rb, 0, none⟩ = some (.int .i64 (s.K : Int)) := by rw [p0]; show some (Value.int .i64 (r.K : Int)) = _; rw [HSIM.out.K]
        clear p0
        obtain ⟨qq, hqq⟩ : ∃ x : Nat, x = k / s.K := ⟨_, rfl⟩
        obtain ⟨rr, hrr⟩ : ∃ x : Nat, x = k % s.K := ⟨_, rfl⟩
        have hdiv : (k : Int) / (s.K : Int) = (qq : Int) := by rw [hqq]; push_cast; rfl
        have hmod : (k : Int) % (s.K : Int) = (rr : Int) := by rw [hrr]; push_cast; rfl
        have htd : (k : Int).tdiv (s.K : Int) = (qq : Int) := by rw [Int.tdiv_eq_ediv_of_nonneg (by omega)]; exact hdiv
        have htm : (k : Int).tmod (s.K : Int) = (rr : Int) := by rw [Int.tmod_eq_emod_of_nonneg (by omega)]; exact hmod
        have hqX0 : qq < partsN T s.K := by rw [hqq]; exact div_parts k1 hk
        have hrX0 : rr < 256 := by rw [hrr]; exact Nat.lt_of_lt_of_le (Nat.mod_lt _ (by omega)) (by omega)
        have hqb : qq ≤ 256 := by have := partsN_le (a := T) k1; omega
        have hwq : IntKind.i64.wrap (qq : Int) = (qq : Int) := by rw [IntKind.wrap_i64]; omega
        have hK0 : ¬ s.K = 0 := by omega
        have HKNS : Hid (k = s.ns) := by
          show _ = _
          have := HSENT.out
          subst hea; omega
        have HPK : Hid ((r.went (r.sent + 1)).pkt a qq rr = s.pkt s.no (s.ns / s.K) (s.ns % s.K)) := by
          show r.pkt a qq rr = _
          rw [HSIM.out.pkt hlt, hqq, hrr, HKNS.out, hea]
        have HPC : Hid (∀ W, RAt W B rb (r.went (r.sent + 1)) → Calls Tryz.prog 90 #[.pointer (some ⟨rb, 0, none⟩), .int .i64 (a : Int), .int .i64 (qq : Int), .int .i64 (rr : Int)] W fun e w' =>
            ∃ g cap, e = .returned (.slice (some ⟨g, 0, none⟩) (6 + s.S) cap) ∧ w'.ownsRow W.heap.size 5 1 (.slice (some ⟨g, 0, none⟩) (6 + s.S) cap) (6 + s.S) (encL (s.pkt s.no (s.ns / s.K) (s.ns % s.K))) ∧ Below W.heap.size W w') := fun W hW => by
          have hsi := HSIM.out
          have hx := rpacket_any (i := a) (q := qq) rr hW (by show Cfg r.K r.N r.S; rw [hsi.K, hsi.N, hsi.S]; exact HOK.out.cfg) (by show a < r.os.length; omega) (by show r.os.length ≤ 16; omega) (by show (oat r.os a).l.length ≤ 255; rw [hsi.l a hlt]; exact HOK.out.len a hlt) (by show qq < partsN (symN r.S (oat r.os a).l.length) r.K; rw [hsi.l a hlt, hsi.K, hsi.S]; have := hTn; unfold Snd.T at this; rw [this]; exact hqX0) hrX0
          rw [HPK.out] at hx
          have e : (r.went (r.sent + 1)).S = s.S := hsi.S
          rw [e] at hx
          exact hx
        have h2d : RAt W2.drew B rb (r.went (r.sent + 1)) := h2.kept (fun _ _ => rfl)
        have hnoL : s.no < s.os.length := by omega
        clear hqq hrr hqX0 hea hsum hTn hlen hk1 hk
        go_region_held3 (fun w' => w'.cell? ⟨rb, 0, none⟩ = some (.int .i64 (s.K : Int))) (first | go_keep | exact hk9) (first
          | (go_at_call 90; refine (HPC.out _ h2d).mono ?_; rintro e w5 ⟨g5, cap5, rfl, hown5, hb5⟩; (have hk9 : w5.cell? ⟨rb, 0, none⟩ = some (.int .i64 (s.K : Int)) := by rw [hb5.cell (lt_of_cell p0')]; exact p0')))
        all_goals go_wp2_with fail
        all_goals go_ret2
        have hb5' := Below.undraw hb5
        have hbW2 : But (r.foot rb) w W2 := (Below.but hbw1 (r.foot rb) (fun x hx q => absurd hx q)).trans (hbu2.wide (fun x _ q => .inl q))
        refine .inl ⟨g5, cap5, _, _, r.went (r.sent + 1), rfl, own_base2 hown5 hbW2.size, .source hnoL, h2.above hb5', HSIM.out.step.more (by omega), hbW2.below hb5' (fun x hx q => absurd (Nat.lt_of_lt_of_le hx hbW2.size) q), fun b => Iff.rfl⟩
      · have hk1 : ¬ (k : Int) < (T : Int) := by omega
        have hea : ¬ a = s.no := fun e => hk (HTK.out.2 e)
        go_wp2_with fail
        go_roundw
        case rel => exact ⟨a + 1, k - T, by omega, by omega, by go_num, by go_num, by rw [HTS.out]; omega, hbw1⟩
        case measure => simp [intOf]; omega
    · have hlt1 : ¬ (a : Int) < (s.os.length : Int) := by omega
      have hno : s.no = s.os.length := by omega
      have hno2 : a = s.os.length := by omega
      clear hano hsum
      obtain ⟨wA, hwA⟩ : ∃ x, x = wr := ⟨wr, rfl⟩
      subst hwA
      go_wp2_with fail
      clear y0 y1 y2 y3 y4 hr
      go_loopw [7] (fun t wr => ∃ a : Nat, a ≤ s.os.length ∧ t = .int .i64 (a : Int) ∧ Below w.heap.size w wr ∧ Hid (∀ j q, j < a → ¬ s.owes j q)) (fun t _ => s.os.length - (intOf t).toNat)
      case atStart => exact ⟨0, by omega, rfl, hbr, fun j q hj => by omega⟩
      case round =>
        clear hbr hlt hlt1 hno2 hale
        obtain ⟨n, hnle, rfl, hbr, hno1⟩ := hrel
        have hr := h.above hbr
        obtain ⟨y0, y1, y2, y3, y4⟩ := HCS.out wr hr
        by_cases hlt : n < s.os.length
        · have hlt1 : (n : Int) < (s.os.length : Int) := by omega
          have hlt0 : (0 : Int) ≤ (n : Int) := by omega
          have hl255 := HOK.out.len n hlt
          have hTa := HT.out n hlt
          have hQl := partsN_le (a := s.T n) k1
          obtain ⟨Q, hQ⟩ : ∃ x, x = s.Q n := ⟨_, rfl⟩
          have hQ2 : Q ≤ 256 := by rw [hQ]; unfold Snd.Q; omega
          have HQ : Hid (Q = s.Q n) := hQ
          obtain ⟨dg, hdg⟩ : ∃ x, x = (oat r.os n).dg := ⟨_, rfl⟩
          have HDG : Hid (dg = (oat r.os n).dg) := hdg
          clear hQ hdg hQl
          obtain ⟨wB, hwB⟩ : ∃ x, x = wr := ⟨wr, rfl⟩
          subst hwB
          go_wp2_with fail
          clear y0 y1 y2 y3 y4 hr
          go_loopw [8] (fun t wq => ∃ b : Nat, b ≤ Q ∧ t = .int .i64 (b : Int) ∧ Below w.heap.size w wq ∧ Hid (∀ q, q < b → ¬ s.owes n q)) (fun t _ => Q - (intOf t).toNat)
          case atStart => exact ⟨0, by omega, rfl, hbr, fun q hq => by omega⟩
          case round =>
            obtain ⟨b, hble, rfl, hbq, hno2⟩ := hrel
            have hq := h.above hbq
            obtain ⟨y0, y1, y2, y3, y4⟩ := HCS.out wr hq
            obtain ⟨gb, rfl, z4⟩ := HLB.out wr hq n hlt
            rw [← HQ.out, ← HDG.out] at z4
            by_cases hltb : b < Q
            · have hltb1 : (b : Int) < (Q : Int) := by omega
              have hltb0 : (0 : Int) ≤ (b : Int) := by omega
              have hbQ : b < s.Q n := by rw [← HQ.out]; exact hltb
              have hnr : n < r.os.length := by omega
              have hbd : b < (oat r.os n).ds.length := by rw [HSIM.out.dl n hlt]; exact hbQ
              obtain ⟨e0, e1⟩ := hq.debt hnr hbd
              obtain ⟨sd1, sd2, sd3⟩ := HSIM.out.d n b hlt hbQ
              have hod8 := (HOK.out.debt n b hlt hbQ).1
              have htr := (HOK.out.debt n b hlt hbQ).2
              rw [← sd1] at hod8
              rw [← sd2] at htr
              have HOW : Hid (s.owes n b ↔ 1 ≤ (dat (oat r.os n).ds b).1) := by
                show _ ↔ _
                rw [sd1]
                exact ⟨fun ho => ho.2.2, fun ho => ⟨hlt, hbQ, ho⟩⟩
              have HTN : Hid (∀ W, RAt W B rb r → Hid (∀ x : Nat, RAt (W.setCell ⟨dg, b * 2 + 1, none⟩ (.int .i64 (x : Int))) B rb (r.setD n b ((dat (oat r.os n).ds b).1, x)) ∧ But (fun k => k = dg) W (W.setCell ⟨dg, b * 2 + 1, none⟩ (.int .i64 ((x : Nat) : Int))))) := fun W hW x => by
                have := hW.turn hnr hbd x
                rw [← HDG.out] at this
                exact this
              have HON : Hid (∀ W d, RAt W B rb (r.setD n b d) → Hid (∀ x : Nat, RAt (W.setCell ⟨dg, b * 2, none⟩ (.int .i64 (x : Int))) B rb (r.setD n b (x, d.2)) ∧ But (fun k => k = dg) W (W.setCell ⟨dg, b * 2, none⟩ (.int .i64 ((x : Nat) : Int))) ∧ W.cell? ⟨dg, b * 2, none⟩ = some (.int .i64 (d.1 : Int)) ∧ W.frozen? ⟨dg, b * 2, none⟩ = false)) := fun W d hW x => by
                have hn' : n < (r.setD n b d).os.length := by rw [r.setD_len]; exact hnr
                have hd' : b < (oat (r.setD n b d).os n).ds.length := by rw [(r.setD_keeps hnr b d n).2.2.2.2]; exact hbd
                have h1 := hW.owed hn' hd' x
                have h2 := (hW.debt hn' hd').1
                have h3 := hW.frozenD hn' (b * 2)
                rw [(r.setD_keeps hnr b d n).2.1, ← HDG.out] at h1 h2 h3
                rw [Rsn.dat_setD hnr hbd, Rsn.setD_setD hnr] at h1
                rw [Rsn.dat_setD hnr hbd] at h2
                exact ⟨h1.1, h1.2, h2, h3⟩
              have HSIM2 : Hid (s.owes n b → Sim (s.pay n b) (r.setD n b ((dat (oat r.os n).ds b).1 - 1, (dat (oat r.os n).ds b).2 + 1)) (c + 1)) := fun ho => HSIM.out.pay HOK.out ho
              have HPL : Hid (s.owedPkt n b = s.pkt n b (plcAt s.K s.N ((dat (oat r.os n).ds b).2 % s.R n b))) := by show _ = _; rw [sd2]; rfl
              rw [← HDG.out] at e0 e1
              have fz1 : wr.frozen? ⟨dg, b * 2 + 1, none⟩ = false := by rw [HDG.out]; exact hq.frozenD hnr _
              have hRe : s.R n b = s.N - s.K + srcN s.K (s.T n) b := rfl
              generalize (dat (oat r.os n).ds b).1 = od at *
              generalize (dat (oat r.os n).ds b).2 = sd at *
              have hc2 : sd ≤ 1000000000000 := by omega
              clear sd1 sd2 sd3 hbd
              by_cases how : 1 ≤ od
              · have how1 : (0 : Int) < (od : Int) := by omega
                obtain ⟨g, rfl, z0⟩ := HLA.out wr hq n hlt
                have hqK : b * s.K < s.T n := partsN_mul k1 hbQ
                have hm8 : srcN s.K (s.T n) b ≤ 8 := by unfold srcN; omega
                have hm1 : 1 ≤ srcN s.K (s.T n) b := by unfold srcN; omega
                obtain ⟨R, hR⟩ : ∃ x, x = s.N - s.K + srcN s.K (s.T n) b := ⟨_, rfl⟩
                have hR1 : 1 ≤ R := by omega
                have hR2 : R ≤ 24 := by omega
                obtain ⟨tm, htm⟩ : ∃ x : Nat, x = sd % R := ⟨_, rfl⟩
                have htR : tm < R := by rw [htm]; exact Nat.mod_lt _ hR1
                have hmod : (sd : Int) % (R : Int) = (tm : Int) := by rw [htm]; push_cast; rfl
                have htmd : (sd : Int).tmod (R : Int) = (tm : Int) := by rw [Int.tmod_eq_emod_of_nonneg (by omega)]; exact hmod
                have hwt : IntKind.i64.wrap (tm : Int) = (tm : Int) := by rw [IntKind.wrap_i64]; omega
                obtain ⟨pl, hpl⟩ : ∃ x, x = plcAt s.K s.N tm := ⟨_, rfl⟩
                have hpl2 : pl < 256 := by rw [hpl]; unfold plcAt; split <;> omega
                have HORD : Hid (∀ W, Calls Tryz.prog 91 #[.agg #[.int .i64 (s.K : Int), .int .i64 (s.N : Int), .int .i64 (s.S : Int)], .int .i64 ((oat s.os n).l.length : Int), .int .i64 (b : Int)] W fun e w' => ∃ g c, e = .returned (.slice (some ⟨g, 0, none⟩) R c) ∧ w'.cell? ⟨g, tm, none⟩ = some (.int .i64 (pl : Int)) ∧ Below W.heap.size W w') := fun W => by
                  refine (order_any s.K s.N s.S (oat s.os n).l.length b HOK.out.cfg (by omega) hqK W).mono ?_
                  rintro e w' ⟨go, co, rfl, hZ, hb⟩
                  refine ⟨go, co, by rw [hR]; rfl, ?_, hb⟩
                  have h1 := hZ tm (by rw [ordL_length]; show tm < s.N - s.K + srcN s.K (s.T n) b; rw [← hR]; exact htR)
                  rw [Nat.zero_add] at h1
                  rw [h1]
                  have h2 := ordL_at s.K s.N (srcN s.K (s.T n) b) tm (by rw [← hR]; exact htR)
                  show some (Value.int .i64 (zat (ordL s.K s.N (srcN s.K (s.T n) b)) tm)) = _
                  rw [h2, hpl]
                have HPK2 : Hid (s.owedPkt n b = s.pkt n b pl) := by show _ = _; rw [HPL.out, hpl, htm, hR]; rfl
                have HPC : Hid (∀ W d, RAt W B rb (r.setD n b d) → Calls Tryz.prog 90 #[.pointer (some ⟨rb, 0, none⟩), .int .i64 (n : Int), .int .i64 (b : Int), .int .i64 (pl : Int)] W fun e w' =>
                    ∃ g cap, e = .returned (.slice (some ⟨g, 0, none⟩) (6 + s.S) cap) ∧ w'.ownsRow W.heap.size 5 1 (.slice (some ⟨g, 0, none⟩) (6 + s.S) cap) (6 + s.S) (encL (s.owedPkt n b)) ∧ Below W.heap.size W w') := fun W d hW => by
                  have hsi := HSIM.out
                  have hkl := (r.setD_keeps hnr b d n).1
                  have hx := rpacket_any (i := n) (q := b) pl hW (by show Cfg r.K r.N r.S; rw [hsi.K, hsi.N, hsi.S]; exact HOK.out.cfg) (by rw [r.setD_len]; exact hnr) (by rw [r.setD_len]; omega) (by rw [hkl, hsi.l n hlt]; exact HOK.out.len n hlt) (by rw [hkl, hsi.l n hlt]; show b < partsN (symN r.S (oat s.os n).l.length) r.K; rw [hsi.K, hsi.S]; exact hbQ) hpl2
                  have e : (r.setD n b d).S = s.S := hsi.S
                  have e2 : (r.setD n b d).pkt n b pl = s.owedPkt n b := by
                    rw [HPK2.out, ← hsi.pkt hlt]
                    unfold Rsn.pkt
                    rw [hkl]; rfl
                  rw [e, e2] at hx
                  exact hx
                have hOwes : Hid (s.owes n b) := HOW.out.2 how
                clear hR htm hpl hRe hqK hm8 hm1 htr
                generalize (oat s.os n).l.length = len at *
                generalize (oat r.os n).a = oa at *
                generalize (oat r.os n).c = oc at *
                have hR0 : ¬ R = 0 := by omega
                clear hlen
                go_upto_region 18 with fail
                go_region_held3 (fun w' => w'.cell? ⟨rb, 0, none⟩ = some (.int .i64 (s.K : Int)) ∧ w'.cell? ⟨rb, 1, none⟩ = some (.int .i64 (s.N : Int)) ∧ w'.cell? ⟨rb, 2, none⟩ = some (.int .i64 (s.S : Int)) ∧ w'.cell? ⟨rb, 3, none⟩ = some (.slice (some ⟨g, 0, none⟩) s.os.length vc) ∧ w'.cell? ⟨g, n, none⟩ = some (.slice oa len oc)) (first | go_keep | exact hkeep) (first
                  | (go_at_call 91; refine (HORD.out _).mono ?_; rintro e w1 ⟨go, co, rfl, hgo, hb1⟩; have hkeep : w1.cell? ⟨rb, 0, none⟩ = some (.int .i64 (s.K : Int)) ∧ w1.cell? ⟨rb, 1, none⟩ = some (.int .i64 (s.N : Int)) ∧ w1.cell? ⟨rb, 2, none⟩ = some (.int .i64 (s.S : Int)) ∧ w1.cell? ⟨rb, 3, none⟩ = some (.slice (some ⟨g, 0, none⟩) s.os.length vc) ∧ w1.cell? ⟨g, n, none⟩ = some (.slice oa len oc) := ⟨by rw [hb1.cell (lt_of_cell y0)]; exact y0, by rw [hb1.cell (lt_of_cell y1)]; exact y1, by rw [hb1.cell (lt_of_cell y2)]; exact y2, by rw [hb1.cell (lt_of_cell y3)]; exact y3, by rw [hb1.cell (lt_of_cell z0)]; exact z0⟩))
                have hb1' := Below.undraw hb1
                have hbw1 : Below w.heap.size w w1 := hbq.trans (hb1'.mono hbq.size)
                have h1 := hq.above hb1'
                have e1' : w1.cell? ⟨dg, b * 2 + 1, none⟩ = some (.int .i64 (sd : Int)) := by rw [hb1'.cell (lt_of_cell e1)]; exact e1
                have fz1' : w1.frozen? ⟨dg, b * 2 + 1, none⟩ = false := by rw [HDG.out]; exact h1.frozenD hnr _
                clear y0 y1 y2 y3 y4 z0 z4 hkeep hb1 e0 e1 fz1 hq
                obtain ⟨h2, hbu2⟩ := (HTN.out w1 h1).out (sd + 1)
                rw [show ((sd + 1 : Nat) : Int) = (sd : Int) + 1 by push_cast; rfl] at h2 hbu2
                have htR1 : (tm : Int) < (R : Int) := by omega
                have htR0 : (0 : Int) ≤ (tm : Int) := by omega
                go_upto_region 21 with fail
                generalize w1.setCell ⟨dg, b * 2 + 1, none⟩ (.int .i64 ((sd : Int) + 1)) = W2 at *
                clear e1' fz1' hgo
                obtain ⟨h3, hbu3, e0, fz0⟩ := (HON.out W2 _ h2).out (od - 1)
                rw [show ((od - 1 : Nat) : Int) = (od : Int) - 1 by omega] at h3 hbu3
                go_upto_region 22 with fail
                generalize W2.setCell ⟨dg, b * 2, none⟩ (.int .i64 ((od : Int) - 1)) = W3 at *
                clear e0 fz0
                go_wp2_with fail
                refine (HPC.out W3 _ h3).mono ?_
                rintro e w5 ⟨g5, cap5, rfl, hown5, hb5⟩
                go_wp2_with fail
                go_ret2
                have hdgf : r.foot rb dg := .inr (.inr (.inr ⟨n, hnr, .inl HDG.out⟩))
                have hbW3 : But (r.foot rb) w W3 := ((Below.but hbw1 (r.foot rb) (fun x hx q => absurd hx q)).trans (hbu2.wide (fun x _ q => by rw [q]; exact hdgf))).trans (hbu3.wide (fun x _ q => by rw [q]; exact hdgf))
                refine .inl ⟨g5, cap5, _, _, _, rfl, own_base2 hown5 hbW3.size, .owed hno n b hOwes.out (fun j q hjq => ?_), h3.above hb5, HSIM2.out hOwes.out, hbW3.below hb5 (fun x hx q => absurd (Nat.lt_of_lt_of_le hx hbW3.size) q), fun x => Rsn.foot_setD hnr _ _ _ _⟩
                rcases hjq with hj | ⟨rfl, hr⟩
                · exact hno1.out j q hj
                · exact hno2.out q hr
              · have how1 : ¬ (0 : Int) < (od : Int) := by omega
                have hNot : Hid (¬ s.owes n b) := fun ho => how (HOW.out.1 ho)
                go_wp2_with fail
                go_roundw
                case rel => exact ⟨b + 1, by omega, by go_num, hbq, fun q hq' => by
                  by_cases e : q = b
                  · subst e; exact hNot.out
                  · exact hno2.out q (by omega)⟩
                case measure => simp [intOf]; omega
            · obtain rfl : b = Q := by omega
              have hltb1 : ¬ (b : Int) < (b : Int) := by omega
              go_wp2_with fail
              go_roundw
              case rel => exact ⟨n + 1, by omega, by go_num, hbq, fun j q hj => by
                by_cases e : j = n
                · subst e; exact fun ho => hno2.out q (by rw [HQ.out]; exact ho.2.1) ho
                · exact hno1.out j q (by omega)⟩
              case measure => simp [intOf]; omega
        · have hlt1 : ¬ (n : Int) < (s.os.length : Int) := by omega
          have hne : n = s.os.length := by omega
          go_wp2_with fail
          go_ret2
          exact .inr ⟨rfl, hno, fun i q ho => hno1.out i q (by have := ho.1; omega) ho, hbr⟩

end Go.Proofs.YtjabhnhejbhgjaaGreatDoor

/- The document's sender: NewSender. -/
namespace Go.Proofs.YtjabhnhejbhgjaaGreatDoor
open Go.RowKit

def rsn0 (K N S : Nat) : Rsn := ⟨K, N, S, [], .slice none 0 0, .slice none 0 0, 0⟩
theorem sim0 (K N S : Nat) : Sim (snd0 K N S) (rsn0 K N S) 0 :=
  ⟨rfl, rfl, rfl, rfl, fun i hi => by simp [snd0] at hi, fun i hi => by simp [snd0] at hi, fun i q hi => by simp [snd0] at hi, rfl⟩

theorem twoE {W : World} {g : Nat} {v0 v1 : Value} {t : TypeId} (h : W.heap[g]? = some (.cells #[v0, v1] t (0, 0))) : W.cell? ⟨g, 0, none⟩ = some v0 ∧ W.cell? ⟨g, 1, none⟩ = some v1 ∧ W.frozen? ⟨g, 0, none⟩ = false ∧ W.frozen? ⟨g, 1, none⟩ = false :=
  ⟨cell_of_row W _ 0 _ _ _ h, cell_of_row W _ 1 _ _ _ h, frozen_of_row W _ 0 _ _ h, frozen_of_row W _ 1 _ _ h⟩
theorem putE (W : World) (g : Nat) (v0 v1 u0 u1 : Value) (t : TypeId) (h : W.heap[g]? = some (.cells #[v0, v1] t (0, 0))) :
    ((W.setCell ⟨g, 0, none⟩ u0).setCell ⟨g, 1, none⟩ u1).heap[g]? = some (.cells #[u0, u1] t (0, 0)) ∧ But (fun b => b = g) W ((W.setCell ⟨g, 0, none⟩ u0).setCell ⟨g, 1, none⟩ u1) := by
  have h0 : (W.setCell ⟨g, 0, none⟩ u0).heap[g]? = some (.cells #[u0, v1] t (0, 0)) := heap_setCell_same _ g 0 _ _ u0 h
  have h1 : ((W.setCell ⟨g, 0, none⟩ u0).setCell ⟨g, 1, none⟩ u1).heap[g]? = some (.cells #[u0, u1] t (0, 0)) := heap_setCell_same _ g 1 _ _ u1 h0
  exact ⟨h1, But.setCell (But.setCell (S := fun b => b = g) (But.refl _ W) (p := ⟨g, 0, none⟩) (.inl rfl) u0) (p := ⟨g, 1, none⟩) (.inl rfl) u1⟩

set_option maxRecDepth 100000 in
set_option maxHeartbeats 1000000 in
theorem rnewSender_ok (K N S : Nat) (hcb : cfgB (K : Int) (N : Int) (S : Int) = true) (w : World) :
    Calls Tryz.prog 79 #[.agg #[.int .i64 (K : Int), .int .i64 (N : Int), .int .i64 (S : Int)]] w fun e w' =>
      ∃ rb, e = .returned (.tuple #[.pointer (some ⟨rb, 0, none⟩), .agg #[.int .i64 0, .int .i64 (-1)]]) ∧ RAt w' w.heap.size rb (rsn0 K N S) ∧ Below w.heap.size w w' := by
  have hic := fun W => right_any (K : Int) (N : Int) (S : Int) W
  rw [hcb] at hic
  have hC := CfgAt.start w K N S
  go_enter Tryz.func79, Tryz.ntmps79
  go_upto_region 1 with fail
  have hE0 := heap_alloc_new (w.alloc (.cells #[.int .i64 (K : Int), .int .i64 (N : Int), .int .i64 (S : Int)] 30)) (.cells #[.int .i64 0, .int .i64 0] 139)
  have hC0 := hC.then ((Below.refl _ _).alloc (Nat.le_refl _) (.cells #[.int .i64 0, .int .i64 0] 139))
  have esz : (w.alloc (.cells #[.int .i64 (K : Int), .int .i64 (N : Int), .int .i64 (S : Int)] 30)).heap.size = w.heap.size + 1 := by simp
  rw [esz] at hE0
  generalize (w.alloc (.cells #[.int .i64 (K : Int), .int .i64 (N : Int), .int .i64 (S : Int)] 30)).alloc (.cells #[.int .i64 0, .int .i64 0] 139) = W at *
  clear hC esz
  generalize hEq : w.heap.size + 1 = E at *
  have HEQ : Hid (E = w.heap.size + 1) := hEq.symm
  clear hEq
  obtain ⟨x0, x1, x2⟩ := hC0.cells
  go_wp2_with fail
  refine (hic _).mono ?_
  rintro e w1 ⟨rfl, hb1⟩
  have hC1 := hC0.then hb1
  have hE1 := (hb1.block _ (lt_of_block hE0)).trans hE0
  clear x0 x1 x2 hC0 hE0 hb1 hic
  obtain ⟨x0, x1, x2⟩ := hC1.cells
  go_upto_region 4 with fail
  have hn1 : ¬ w.heap.size = w1.heap.size := Nat.ne_of_lt hC1.lt
  have hn2 : ¬ E = w1.heap.size := Nat.ne_of_lt (lt_of_block hE1)
  have HFIN : Hid (∀ (W2 : World) (rb : Nat), Below w1.heap.size w1 W2 → W2.heap[rb]? = some (.cells #[.int .i64 (K : Int), .int .i64 (N : Int), .int .i64 (S : Int), .slice none 0 0, .slice none 0 0, .int .i64 0] 191 (0, 0)) → w1.heap.size ≤ rb →
      RAt ((W2.setCell ⟨E, 0, none⟩ (.int .i64 0)).setCell ⟨E, 1, none⟩ (.int .i64 (-1))) w.heap.size rb (rsn0 K N S) ∧ Below w.heap.size w ((W2.setCell ⟨E, 0, none⟩ (.int .i64 0)).setCell ⟨E, 1, none⟩ (.int .i64 (-1))) ∧ ((W2.setCell ⟨E, 0, none⟩ (.int .i64 0)).setCell ⟨E, 1, none⟩ (.int .i64 (-1))).heap[E]? = some (.cells #[.int .i64 0, .int .i64 (-1)] 139 (0, 0))) := fun W2 rb hb hrb hle => by
    have hE2 := (hb.block _ (lt_of_block hE1)).trans hE1
    obtain ⟨p1, p2⟩ := putE W2 (E) _ _ (.int .i64 0) (.int .i64 (-1)) _ hE2
    have hlow : Below w.heap.size w W2 := hC1.low.trans (hb.mono hC1.low.size)
    have h1 := lt_of_block hE1
    have h2 := hC1.low.size
    refine ⟨⟨by omega, ?_, World.ownsRow_nil .., World.ownsRow_nil .., fun i hi => by simp [rsn0] at hi, fun i hi => by simp [rsn0] at hi, fun i j hi => by simp [rsn0] at hi⟩, hlow.trans (p2.toBelow hlow.size (fun k hk q => by have := HEQ.out; omega)), p1⟩
    exact (p2.block rb (lt_of_block hrb) (by have := HEQ.out; omega)).trans hrb
  have hEl := lt_of_block hE1
  have HE : Hid (∀ W2, Below w1.heap.size w1 W2 → W2.heap[E]? = some (.cells #[.int .i64 0, .int .i64 0] 139 (0, 0))) := fun W2 hb => (hb.block _ hEl).trans hE1
  have HC : Hid (∀ W2, Below w1.heap.size w1 W2 → CfgAt w W2 K N S) := fun W2 hb => hC1.then hb
  obtain ⟨y0, y1, f0, f1⟩ := twoE hE1
  go_region_with (first
    | (go_at_call 93; refine (none_err _).mono ?_; rintro e w2 ⟨rfl, hb2⟩; (have hbX : Below w1.heap.size w1 w2 := by first | exact Below.undraw hb2 | exact (((Below.refl _ w1).alloc (Nat.le_refl _) _).drew).trans (hb2.mono (by simp)) | exact ((Below.refl _ w1).alloc (Nat.le_refl _) _).trans (hb2.mono (by simp))); have hk9 := (HC.out w2 hbX).cells; obtain ⟨y0', y1', f0', f1'⟩ := twoE (HE.out w2 hbX); have hn3 : ¬ w.heap.size = w2.heap.size := Nat.ne_of_lt (HC.out w2 hbX).lt; have hn4 : ¬ E = w2.heap.size := Nat.ne_of_lt (lt_of_block (HE.out w2 hbX)); obtain ⟨ya, yb, fa, fb⟩ := twoE ((Below.heap_alloc w2 (.cells #[.int .i64 (K : Int), .int .i64 (N : Int), .int .i64 (S : Int), .slice none 0 0, .slice none 0 0, .int .i64 0] 191) E (lt_of_block (HE.out w2 hbX))).trans (HE.out w2 hbX))))
  all_goals go_wp2_with fail
  all_goals first
    | (obtain ⟨hR, hB, hX⟩ := HFIN.out w2 w1.heap.size hbX ((hb2.block _ (by simp)).trans (heap_alloc_new w1 _)) (Nat.le_refl _); obtain ⟨q0, q1, _, _⟩ := twoE hX; exact bodyPost_ret (v := .tuple #[.pointer (some ⟨w1.heap.size, 0, none⟩), .agg #[.int .i64 0, .int .i64 (-1)]]) (by simp [results, Tryz.results79, go_sem, q0, q1]) rfl ⟨_, rfl, hR, hB⟩)
    | (obtain ⟨hR, hB, hX⟩ := HFIN.out (w2.alloc (.cells #[.int .i64 (K : Int), .int .i64 (N : Int), .int .i64 (S : Int), .slice none 0 0, .slice none 0 0, .int .i64 0] 191)) w2.heap.size (hbX.alloc hbX.size _) (heap_alloc_new w2 _) hbX.size; obtain ⟨q0, q1, _, _⟩ := twoE hX; exact bodyPost_ret (v := .tuple #[.pointer (some ⟨w2.heap.size, 0, none⟩), .agg #[.int .i64 0, .int .i64 (-1)]]) (by simp [results, Tryz.results79, go_sem, q0, q1]) rfl ⟨_, rfl, hR, hB⟩)

set_option maxRecDepth 100000 in
set_option maxHeartbeats 1000000 in
theorem rnewSender_no (K N S : Int) (hcb : cfgB K N S = false) (w : World) :
    Calls Tryz.prog 79 #[.agg #[.int .i64 K, .int .i64 N, .int .i64 S]] w fun e w' =>
      e = .returned (.tuple #[.pointer none, .agg #[.int .i64 1, .int .i64 (-1)]]) ∧ Below w.heap.size w w' := by
  have hic := fun W => right_any K N S W
  rw [hcb] at hic
  go_enter Tryz.func79, Tryz.ntmps79
  go_upto_region 1 with fail
  have hb0 : Below w.heap.size w ((w.alloc (.cells #[.int .i64 K, .int .i64 N, .int .i64 S] 30)).alloc (.cells #[.int .i64 0, .int .i64 0] 139)) := ((Below.refl _ _).alloc (Nat.le_refl _) _).alloc (by simp) _
  have hE0 := heap_alloc_new (w.alloc (.cells #[.int .i64 K, .int .i64 N, .int .i64 S] 30)) (.cells #[.int .i64 0, .int .i64 0] 139)
  have hC0 : ((w.alloc (.cells #[.int .i64 K, .int .i64 N, .int .i64 S] 30)).alloc (.cells #[.int .i64 0, .int .i64 0] 139)).heap[w.heap.size]? = some (.cells #[.int .i64 K, .int .i64 N, .int .i64 S] 30 (0, 0)) := (Below.heap_alloc _ _ _ (by simp)).trans (heap_alloc_new w _)
  have esz : (w.alloc (.cells #[.int .i64 K, .int .i64 N, .int .i64 S] 30)).heap.size = w.heap.size + 1 := by simp
  rw [esz] at hE0
  generalize (w.alloc (.cells #[.int .i64 K, .int .i64 N, .int .i64 S] 30)).alloc (.cells #[.int .i64 0, .int .i64 0] 139) = W at *
  clear esz
  generalize hEq : w.heap.size + 1 = E at *
  have HEQ : Hid (E = w.heap.size + 1) := hEq.symm
  clear hEq
  have x0 : W.cell? ⟨w.heap.size, 0, none⟩ = some (.int .i64 K) := cell_of_row W _ 0 _ _ _ hC0
  have x1 : W.cell? ⟨w.heap.size, 1, none⟩ = some (.int .i64 N) := cell_of_row W _ 1 _ _ _ hC0
  have x2 : W.cell? ⟨w.heap.size, 2, none⟩ = some (.int .i64 S) := cell_of_row W _ 2 _ _ _ hC0
  go_wp2_with fail
  refine (hic _).mono ?_
  rintro e w1 ⟨rfl, hb1⟩
  have hE1 := (hb1.block _ (lt_of_block hE0)).trans hE0
  have hbw1 : Below w.heap.size w w1 := hb0.trans (hb1.mono hb0.size)
  clear x0 x1 x2 hC0 hE0 hb1 hic hb0
  go_wp2_with fail
  refine (plain_err 1 _).mono ?_
  rintro e w2 ⟨rfl, hb2⟩
  have hE2 := (hb2.block _ (lt_of_block hE1)).trans hE1
  obtain ⟨y0, y1, f0, f1⟩ := twoE hE2
  obtain ⟨p1, p2⟩ := putE w2 E _ _ (.int .i64 1) (.int .i64 (-1)) _ hE2
  obtain ⟨q0, q1, _, _⟩ := twoE p1
  have hbw2 : Below w.heap.size w w2 := hbw1.trans (hb2.mono hbw1.size)
  have hfin : Below w.heap.size w _ := hbw2.trans (p2.toBelow hbw2.size (fun k hk q => by have := HEQ.out; omega))
  go_wp2_with fail
  exact bodyPost_ret (v := .tuple #[.pointer none, .agg #[.int .i64 1, .int .i64 (-1)]]) (by simp [results, Tryz.results79, go_sem, q0, q1]) rfl ⟨rfl, hfin⟩

end Go.Proofs.YtjabhnhejbhgjaaGreatDoor
