import Derived.Test.YtjabhnhejbhgjaaGreatDoorMany7
import Derived.Test.YtjabhnhejbhgjaaGreatDoorMany1
import Derived.BigQuiet
import Derived.Test.YtjabhnhejbhgjaaGreatDoorCutWalks
import Derived.Test.YtjabhnhejbhgjaaGreatDoorMany2
import Derived.Test.YtjabhnhejbhgjaaGreatDoorMany3
/- What is known of an object (package gather), in memory. -/
namespace Go.Proofs.YtjabhnhejbhgjaaGreatDoor
open Go.RowKit

/-- Some symbols of a block: their places and where those lie, the symbols' rows and where their list lies. -/
structure Pt where
  ps : List Gf.F
  pv : Value
  rs : List Row
  sv : Value
def pt0 : Pt := ⟨[], .slice none 0 0, [], .slice none 0 0⟩
def gpt (ts : List Pt) (i : Nat) : Pt := ts.getD i pt0
theorem gpt_some {ts : List Pt} {i : Nat} (h : i < ts.length) : ts[i]? = some (gpt ts i) := by simp [gpt, List.getD, h]
theorem gpt_set {ts : List Pt} {i : Nat} (hi : i < ts.length) (p : Pt) (j : Nat) : gpt (ts.set i p) j = if i = j then p else gpt ts j := by
  unfold gpt
  rw [List.getD_eq_getElem?_getD, List.getD_eq_getElem?_getD, List.getElem?_set]
  split
  · rename_i e; subst e; simp
  · rfl

/-- What is known: the object's length, the configuration, its blocks and where they lie. -/
structure Kn where
  len : Nat
  K : Nat
  N : Nat
  S : Nat
  ts : List Pt
  bg : Nat
def Kn.T (k : Kn) : Nat := symN k.S k.len
def ptVals (ts : List Pt) : List (Value × Value) := ts.map fun p => (p.pv, p.sv)

/-- What may be. -/
structure Kn.Ok (k : Kn) : Prop where
  cfg : Cfg k.K k.N k.S
  len : k.len ≤ 255
  blocks : k.ts.length = partsN k.T k.K
  few : ∀ i, i < k.ts.length → (gpt k.ts i).rs.length ≤ srcN k.K k.T i
  same : ∀ i, i < k.ts.length → (gpt k.ts i).ps.length = (gpt k.ts i).rs.length
  size : ∀ i, i < k.ts.length → ∀ r ∈ (gpt k.ts i).rs, r.l.length = k.S ∧ r.o = 0

def Kn.foot (k : Kn) (kb b : Nat) : Prop := b = kb ∨ b = k.bg ∨ ∃ i, i < k.ts.length ∧ ((gpt k.ts i).pv.ownBlock = some b ∨ (gpt k.ts i).sv.ownBlock = some b ∨ ∃ r ∈ (gpt k.ts i).rs, r.b = b)

structure KAt (w : World) (B kb : Nat) (k : Kn) : Prop where
  low : B ≤ kb
  blk : w.heap[kb]? = some (.cells #[.int .i64 (k.len : Int), .int .i64 (k.K : Int), .int .i64 (k.N : Int), .int .i64 (k.S : Int), .int .i64 (k.T : Int), .slice (some ⟨k.bg, 0, none⟩) k.ts.length k.ts.length] 155 (0, 0))
  low2 : B ≤ k.bg
  row : w.heap[k.bg]? = some (.cells (flat2 (ptVals k.ts)).toArray 174 (0, 0))
  places : ∀ i, i < k.ts.length → w.ownsRow B 5 1 (gpt k.ts i).pv (gpt k.ts i).ps.length (encL (gpt k.ts i).ps)
  syms : ∀ i, i < k.ts.length → w.ownsRow B 33 1 (gpt k.ts i).sv (gpt k.ts i).rs.length ((gpt k.ts i).rs.map Row.val)
  bytes : ∀ i, i < k.ts.length → ∀ r ∈ (gpt k.ts i).rs, B ≤ r.b ∧ w.ownsRow B 5 1 r.val r.l.length (encL r.l)
  apartP : ∀ i j, i < k.ts.length → j < k.ts.length → ∀ g, (gpt k.ts i).pv.ownBlock = some g → (gpt k.ts j).pv.ownBlock = some g → i = j
  apartS : ∀ i j, i < k.ts.length → j < k.ts.length → ∀ g, (gpt k.ts i).sv.ownBlock = some g → (gpt k.ts j).sv.ownBlock = some g → i = j
  apartR : ∀ i j, i < k.ts.length → j < k.ts.length → ∀ g, (gpt k.ts i).pv.ownBlock = some g → ∀ r ∈ (gpt k.ts j).rs, r.b ≠ g

theorem Row.own (r : Row) : r.val.ownBlock = some r.b ↔ True := by simp [Row.val, Value.ownBlock]

theorem KAt.foot_lt {w : World} {B kb : Nat} {k : Kn} (h : KAt w B kb k) {b : Nat} (hb : k.foot kb b) : B ≤ b ∧ b < w.heap.size := by
  rcases hb with rfl | rfl | ⟨i, hi, hb | hb | ⟨r, hr, rfl⟩⟩
  · exact ⟨h.low, lt_of_block h.blk⟩
  · exact ⟨h.low2, lt_of_block h.row⟩
  · exact (h.places i hi).lt b hb
  · exact (h.syms i hi).lt b hb
  · exact ⟨(h.bytes i hi r hr).1, ((h.bytes i hi r hr).2.lt r.b (r.own.2 trivial)).2⟩
theorem KAt.kept {w w' : World} {B kb : Nat} {k : Kn} (h : KAt w B kb k) (hk : ∀ b, k.foot kb b → w'.heap[b]? = w.heap[b]?) : KAt w' B kb k :=
  ⟨h.low, (hk kb (.inl rfl)).trans h.blk, h.low2, (hk _ (.inr (.inl rfl))).trans h.row,
   fun i hi => own_of_block (h.places i hi) (fun g hg => hk g (.inr (.inr ⟨i, hi, .inl hg⟩))), fun i hi => own_of_block (h.syms i hi) (fun g hg => hk g (.inr (.inr ⟨i, hi, .inr (.inl hg)⟩))),
   fun i hi r hr => ⟨(h.bytes i hi r hr).1, own_of_block (h.bytes i hi r hr).2 (fun g hg => hk g (.inr (.inr ⟨i, hi, .inr (.inr ⟨r, hr, by simpa [Row.val, Value.ownBlock] using hg⟩)⟩)))⟩, h.apartP, h.apartS, h.apartR⟩
theorem KAt.above {w w' : World} {B kb : Nat} {k : Kn} (h : KAt w B kb k) (hb : Below w.heap.size w w') : KAt w' B kb k := h.kept (fun b q => hb.block b (h.foot_lt q).2)
theorem KAt.cells {w : World} {B kb : Nat} {k : Kn} (h : KAt w B kb k) :
    w.cell? ⟨kb, 0, none⟩ = some (.int .i64 (k.len : Int)) ∧ w.cell? ⟨kb, 1, none⟩ = some (.int .i64 (k.K : Int)) ∧ w.cell? ⟨kb, 2, none⟩ = some (.int .i64 (k.N : Int)) ∧ w.cell? ⟨kb, 3, none⟩ = some (.int .i64 (k.S : Int)) ∧ w.cell? ⟨kb, 4, none⟩ = some (.int .i64 (k.T : Int)) ∧ w.cell? ⟨kb, 5, none⟩ = some (.slice (some ⟨k.bg, 0, none⟩) k.ts.length k.ts.length) :=
  ⟨cell_of_row w _ 0 _ _ _ h.blk, cell_of_row w _ 1 _ _ _ h.blk, cell_of_row w _ 2 _ _ _ h.blk, cell_of_row w _ 3 _ _ _ h.blk, cell_of_row w _ 4 _ _ _ h.blk, cell_of_row w _ 5 _ _ _ h.blk⟩
theorem KAt.part {w : World} {B kb : Nat} {k : Kn} (h : KAt w B kb k) {i : Nat} (hi : i < k.ts.length) : w.cell? ⟨k.bg, i * 2, none⟩ = some (gpt k.ts i).pv ∧ w.cell? ⟨k.bg, i * 2 + 1, none⟩ = some (gpt k.ts i).sv := by
  refine ⟨?_, ?_⟩
  · rw [cell_of_row w _ _ _ _ _ h.row, Nat.mul_comm i 2, List.getElem?_toArray, flat2_get0, ptVals, List.getElem?_map, gpt_some hi]; rfl
  · rw [cell_of_row w _ _ _ _ _ h.row, Nat.mul_comm i 2, List.getElem?_toArray, flat2_get1, ptVals, List.getElem?_map, gpt_some hi]; rfl

set_option maxRecDepth 100000 in
set_option maxHeartbeats 1000000 in
theorem glength_any {w : World} {B kb : Nat} {k : Kn} (h : KAt w B kb k) :
    Calls Tryz.prog 38 #[.pointer (some ⟨kb, 0, none⟩)] w fun e w' => e = .returned (.int .i64 (k.len : Int)) ∧ w' = w := by
  obtain ⟨c0, _⟩ := h.cells
  go_enter Tryz.func38, Tryz.ntmps38
  go_wp2_with fail
  go_ret
  exact ⟨rfl, rfl⟩

set_option maxRecDepth 100000 in
set_option maxHeartbeats 2000000 in
/-- How many symbols a block lacks. -/
theorem glack_any {w : World} {B kb i : Nat} {k : Kn} (h : KAt w B kb k) (ok : k.Ok) (hi : i < k.ts.length) :
    Calls Tryz.prog 64 #[.pointer (some ⟨kb, 0, none⟩), .int .i64 (i : Int)] w fun e w' => e = .returned (.int .i64 ((srcN k.K k.T i - (gpt k.ts i).rs.length : Nat) : Int)) ∧ Below w.heap.size w w' := by
  obtain ⟨c0, c1, c2, c3, c4, c5⟩ := h.cells
  obtain ⟨_, t1⟩ := h.part hi
  obtain ⟨k1, k8, kn, n16, s1, s8⟩ := ok.cfg
  have hTr := symN_range (S := k.S) (len := k.len) s1
  have hTe : k.T = symN k.S k.len := rfl
  have hlen := ok.len
  have hq : i < partsN k.T k.K := by rw [← ok.blocks]; exact hi
  have hiK : i * k.K < k.T := partsN_mul k1 hq
  have hQl := partsN_le (a := k.T) k1
  have hfew := ok.few i hi
  have hsr : srcN k.K k.T i ≤ 8 := by unfold srcN; omega
  obtain ⟨sa, sc, hsv, _⟩ := own_form2 (h.syms i hi)
  rw [hsv] at t1
  have HSC : Hid (∀ W, Calls Tryz.prog 74 #[.agg #[.int .i64 (k.K : Int), .int .i64 (k.N : Int), .int .i64 (k.S : Int), .int .i64 (k.T : Int)], .int .i64 (i : Int)] W fun e w' => e = .returned (.int .i64 (srcN k.K k.T i : Int)) ∧ Below W.heap.size W w') := fun W => sources_any k.K k.N k.S k.T i (by omega) hiK W
  have hbl := ok.blocks
  have hi2 : k.ts.length ≤ 1000 := by omega
  obtain ⟨m, hm⟩ : ∃ x, x = k.ts.length := ⟨_, rfl⟩
  rw [← hm] at c5 hi hi2
  generalize k.T = T at *
  generalize srcN k.K T i = sn at *
  generalize (gpt k.ts i).rs.length = rn at *
  have hsub : (sn : Int) - (rn : Int) = ((sn - rn : Nat) : Int) := by omega
  obtain ⟨df, hdf⟩ : ∃ x, x = sn - rn := ⟨_, rfl⟩
  rw [← hdf] at hsub ⊢
  have hdf2 : df ≤ 8 := by omega
  have hwr : IntKind.i64.wrap (df : Int) = (df : Int) := by rw [IntKind.wrap_i64]; omega
  have hlt1 : (0 : Int) ≤ (i : Int) := by omega
  have hlt2 : (i : Int) < (m : Int) := by omega
  clear hdf hm hbl hq hiK hQl hTe hsv hTr
  go_enter Tryz.func64, Tryz.ntmps64
  go_upto_region 1 with fail
  go_region_held3 (fun w' => w'.cell? ⟨kb, 1, none⟩ = some (.int .i64 (k.K : Int)) ∧ w'.cell? ⟨kb, 2, none⟩ = some (.int .i64 (k.N : Int)) ∧ w'.cell? ⟨kb, 3, none⟩ = some (.int .i64 (k.S : Int)) ∧ w'.cell? ⟨kb, 4, none⟩ = some (.int .i64 (T : Int)) ∧ w'.cell? ⟨kb, 5, none⟩ = some (.slice (some ⟨k.bg, 0, none⟩) m m) ∧ w'.cell? ⟨k.bg, i * 2 + 1, none⟩ = some (.slice sa rn sc)) (first | go_keep | exact hkeep) (first
    | (go_at_call 74; refine (HSC.out _).mono ?_; rintro e w1 ⟨rfl, hb1⟩; have hkeep : w1.cell? ⟨kb, 1, none⟩ = some (.int .i64 (k.K : Int)) ∧ w1.cell? ⟨kb, 2, none⟩ = some (.int .i64 (k.N : Int)) ∧ w1.cell? ⟨kb, 3, none⟩ = some (.int .i64 (k.S : Int)) ∧ w1.cell? ⟨kb, 4, none⟩ = some (.int .i64 (T : Int)) ∧ w1.cell? ⟨kb, 5, none⟩ = some (.slice (some ⟨k.bg, 0, none⟩) m m) ∧ w1.cell? ⟨k.bg, i * 2 + 1, none⟩ = some (.slice sa rn sc) := ⟨by rw [hb1.cell (lt_of_cell c1)]; exact c1, by rw [hb1.cell (lt_of_cell c2)]; exact c2, by rw [hb1.cell (lt_of_cell c3)]; exact c3, by rw [hb1.cell (lt_of_cell c4)]; exact c4, by rw [hb1.cell (lt_of_cell c5)]; exact c5, by rw [hb1.cell (lt_of_cell t1)]; exact t1⟩))
  all_goals go_wp2_with fail
  all_goals go_ret
  all_goals exact ⟨rfl, Below.undraw hb1⟩

/-- How many symbols the i-th block lacks. -/
def Kn.lk (k : Kn) (i : Nat) : Nat := srcN k.K k.T i - (gpt k.ts i).rs.length
/-- What the first n blocks lack. -/
def Kn.lks (k : Kn) : Nat → List (Nat × Nat)
  | 0 => []
  | n + 1 => if 0 < k.lk n then k.lks n ++ [(n, k.lk n)] else k.lks n
theorem Kn.lks_le (k : Kn) : ∀ n, (k.lks n).length ≤ n
  | 0 => Nat.le_refl _
  | n + 1 => by
    unfold Kn.lks
    have := k.lks_le n
    split
    · simp; omega
    · omega

theorem Tryz.info_lackZ : (Tryz.prog.info? 122).map (fun i => (i.zero, i.size, i.bytes)) = some (some (.agg #[.int .i64 0, .int .i64 0]), 2, 16) := by kernel_rfl
theorem Tryz.lackZ_parts : ∃ i, Tryz.prog.info? 122 = some i ∧ i.zero = some (.agg #[.int .i64 0, .int .i64 0]) ∧ i.size = 2 ∧ i.bytes = 16 := by
  obtain ⟨i, hi, h⟩ := Option.map_eq_some_iff.1 Tryz.info_lackZ
  simp only [Prod.mk.injEq] at h
  exact ⟨i, hi, h.1, h.2.1, h.2.2⟩
theorem cell_two_atZ (w : World) (u v : Value) (t : TypeId) (H : Nat) (hH : H = w.heap.size) : ∀ j x, [u, v][j]? = some x → (w.alloc (.cells #[u, v] t)).cell? ((⟨H, 0, none⟩ : Addr).add j) = some x := by
  intro j x hj
  subst hH
  have e : (⟨w.heap.size, 0, none⟩ : Addr).add j = ⟨w.heap.size, j, none⟩ := by unfold Addr.add; split <;> simp_all
  rw [e, cell_of_row _ _ j _ _ _ (heap_alloc_new w (.cells #[u, v] t)), List.getElem?_toArray]
  exact hj

set_option maxRecDepth 100000 in
set_option maxHeartbeats 2000000 in
/-- Lacks. -/
theorem glacks_any {w : World} {B kb : Nat} {k : Kn} (h : KAt w B kb k) (ok : k.Ok) :
    Calls Tryz.prog 39 #[.pointer (some ⟨kb, 0, none⟩)] w fun e w' =>
      ∃ v, e = .returned v ∧ w'.ownsRow w.heap.size 122 2 v (k.lks k.ts.length).length (flat2 (debtVals (k.lks k.ts.length))) ∧ Below w.heap.size w w' := by
  obtain ⟨_, _, _, _, _, c5⟩ := h.cells
  obtain ⟨k1, k8, kn, n16, s1, s8⟩ := ok.cfg
  have hTr := symN_range (S := k.S) (len := k.len) s1
  have hTe : k.T = symN k.S k.len := rfl
  have hlen := ok.len
  have hQl := partsN_le (a := k.T) k1
  have hbl := ok.blocks
  obtain ⟨iL, hiL, hiL0, hiL1, hiL2⟩ := Tryz.lackZ_parts
  obtain ⟨Q, hQ⟩ : ∃ x, x = k.ts.length := ⟨_, rfl⟩
  have hQ2 : Q ≤ 300 := by omega
  rw [← hQ] at c5 ⊢
  have HLK : Hid (∀ W i, i < Q → KAt W B kb k → Calls Tryz.prog 64 #[.pointer (some ⟨kb, 0, none⟩), .int .i64 (i : Int)] W fun e w' => e = .returned (.int .i64 (k.lk i : Int)) ∧ Below W.heap.size W w') := fun W i hi hK => glack_any hK ok (by omega)
  have HL8 : Hid (∀ i, i < Q → k.lk i ≤ 8) := fun i hi => by unfold Kn.lk srcN; omega
  have HLE : Hid (∀ n, (k.lks n).length ≤ n) := k.lks_le
  clear hQ hbl hQl hTe hTr
  go_enter Tryz.func39, Tryz.ntmps39
  go_wp2_with fail
  clear c5
  go_loopw [3, 4, 5, 11] (fun v _ _ t wr => ∃ i : Nat, i ≤ Q ∧ t = .int .i64 (i : Int) ∧ wr.ownsRow w.heap.size 122 2 v (k.lks i).length (flat2 (debtVals (k.lks i))) ∧ Below w.heap.size w wr) (fun _ _ _ t _ => Q - (intOf t).toNat)
  case atStart => exact ⟨0, by omega, rfl, World.ownsRow_nil .., Below.refl _ _⟩
  case round =>
    obtain ⟨i, hi, rfl, hown, hbr⟩ := hrel
    by_cases hlt : i < Q
    · have hlt1 : (i : Int) < (Q : Int) := by omega
      have hKr := h.above hbr
      have h8 := HL8.out i hlt
      have hle := HLE.out i
      have HC := HLK.out wr i hlt hKr
      have HLS : Hid (k.lks (i + 1) = if 0 < k.lk i then k.lks i ++ [(i, k.lk i)] else k.lks i) := rfl
      obtain ⟨d, hd⟩ : ∃ x, x = k.lk i := ⟨_, rfl⟩
      rw [← hd] at HC h8 HLS
      obtain ⟨X, hX⟩ : ∃ x, x = k.lks i := ⟨_, rfl⟩
      rw [← hX] at hown hle HLS
      clear hd hX
      obtain ⟨xa, xc, hxv, _⟩ := own_form2 hown
      obtain ⟨wA, hwA⟩ : ∃ x, x = wr := ⟨wr, rfl⟩
      subst hwA
      obtain rfl := hxv
      go_wp2_with fail
      refine HC.mono ?_
      rintro e w1 ⟨rfl, hb1⟩
      have hb01 := hbr.trans (hb1.mono hbr.size)
      have hs1 := hb01.size
      have hown1 : w1.ownsRow w.heap.size 122 2 (.slice xa X.length xc) X.length (flat2 (debtVals X)) := own_of_block hown (fun g hg => hb1.block g (hown.lt g hg).2)
      by_cases hpos : 0 < d
      · have hpos1 : (0 : Int) < (d : Int) := by omega
        have HMX : Hid (X.length + 1 ≤ maxLen) := by show _ ≤ _; unfold maxLen; omega
        have HNW : Hid (∀ u ∈ [Value.int .i64 (i : Int), .int .i64 (d : Int)], u.oneCell' = true) := fun u hu => by simp at hu; rcases hu with rfl | rfl <;> rfl
        go_wp2_with (at_builtin; refine wpList_append_lies _ rfl _ _ _ rfl w.heap.size 122 iL (.agg #[.int .i64 0, .int .i64 0]) 2 16 Tryz.underlying58 hiL hiL0 hiL1 hiL2 rfl (by omega) (.slice xa X.length xc) X.length (flat2 (debtVals X)) rfl (hown1.alloc _) ⟨w1.heap.size, 0, none⟩ 1 1 [.int .i64 (i : Int), .int .i64 (d : Int)] rfl rfl (cell_two_atZ w1 _ _ _ _ rfl) HNW.out (by omega) HMX.out (by omega) (by simp; omega) (w1.heap.size + 1) (by simp) ?_)
        intro g6 cap6 w6 hown6 hgr6 hlie6 hlt6
        go_wp2_with fail
        go_roundw
        case rel =>
          refine ⟨i + 1, by omega, by go_num, ?_, ((hb01.alloc hs1 _).grown hgr6 (by simp; omega) (fun t ht => (hown1.lt t ht).1))⟩
          rw [HLS.out, if_pos hpos]
          have e : flat2 (debtVals (X ++ [(i, d)])) = flat2 (debtVals X) ++ [.int .i64 (i : Int), .int .i64 (d : Int)] := by simp [debtVals, flat2_append]; rfl
          rw [e, List.length_append]
          exact hown6
        case measure => simp [intOf]; omega
      · have hpos1 : ¬ (0 : Int) < (d : Int) := by omega
        go_wp2_with fail
        go_roundw
        case rel =>
          refine ⟨i + 1, by omega, by go_num, ?_, hb01⟩
          rw [HLS.out, if_neg hpos]
          exact hown1
        case measure => simp [intOf]; omega
    · obtain rfl : i = Q := by omega
      have hlt1 : ¬ (i : Int) < (i : Int) := by omega
      go_wp2_with fail
      go_ret
      exact ⟨_, rfl, hown, hbr⟩

end Go.Proofs.YtjabhnhejbhgjaaGreatDoor

/- murmurref: right, symbols, blocks, sources, order, has, none, plain. -/
namespace Go.Proofs.YtjabhnhejbhgjaaGreatDoor
open Go.RowKit

theorem parts_split (a s : Nat) (hs : 1 ≤ s) : partsN a s = if 0 < a % s then a / s + 1 else a / s := by
  have h1 := Nat.div_add_mod a s
  have h2 := Nat.mod_lt a hs
  unfold partsN
  generalize a / s = q at *
  generalize a % s = r at *
  subst h1
  rw [show s * q + r + s - 1 = s * q + (r + s - 1) by omega, Nat.mul_add_div hs]
  split
  · rename_i h
    rw [show r + s - 1 = s + (r - 1) by omega, Nat.add_div_left _ hs, Nat.div_eq_of_lt (by omega)]
  · rename_i h
    have : r = 0 := by omega
    subst this
    rw [Nat.div_eq_of_lt (by omega)]
    omega
theorem symN_split (S len : Nat) (hs : 1 ≤ S) : symN S len = if 0 < len % S ∨ len = 0 then len / S + 1 else len / S := by
  unfold symN
  rw [parts_split len S hs]
  by_cases h0 : len = 0
  · subst h0; simp
  · by_cases h1 : 0 < len % S
    · rw [if_pos h1, if_pos (.inl h1)]; exact Nat.max_eq_right (Nat.succ_le_succ (Nat.zero_le _))
    · rw [if_neg h1, if_neg (by omega)]
      have h2 := Nat.div_add_mod len S
      have : 1 ≤ len / S := by
        rcases Nat.eq_zero_or_pos (len / S) with h | h
        · rw [h] at h2; omega
        · exact h
      omega

theorem cfg_low (K N S : Int) (w : World) : Below w.heap.size w (w.alloc (.cells #[.int .i64 K, .int .i64 N, .int .i64 S] 30)) := (Below.refl _ _).alloc (Nat.le_refl _) _

set_option maxRecDepth 100000 in
set_option maxHeartbeats 1000000 in
theorem right_any (K N S : Int) (w : World) :
    Calls Tryz.prog 119 #[.agg #[.int .i64 K, .int .i64 N, .int .i64 S]] w fun e w' => e = .returned (.bool (cfgB K N S)) ∧ Below w.heap.size w w' := by
  have HC : Hid (∀ b : Bool, (b = true ↔ 1 ≤ K ∧ K ≤ 8 ∧ K ≤ N ∧ N ≤ 16 ∧ 1 ≤ S ∧ S ≤ 8) → Ending.returned (.bool b) = Ending.returned (.bool (cfgB K N S))) := fun b h => by
    refine ret_bool ?_
    rw [Bool.eq_iff_iff, h]
    unfold cfgB
    simp only [Bool.and_eq_true, winB_iff]
    omega
  have HB : Hid (Below w.heap.size w (w.alloc (.cells #[.int .i64 K, .int .i64 N, .int .i64 S] 30))) := cfg_low K N S w
  by_cases h1 : 1 ≤ K
  · by_cases h2 : K ≤ 8
    · by_cases h3 : K ≤ N
      · by_cases h4 : N ≤ 16
        · by_cases h5 : 1 ≤ S
          · by_cases h6 : S ≤ 8
            all_goals
              go_enter Tryz.func119, Tryz.ntmps119
              go_wp2
              go_ret
              exact ⟨HC.out _ (by simp; omega), HB.out⟩
          · go_enter Tryz.func119, Tryz.ntmps119
            go_wp2
            go_ret
            exact ⟨HC.out _ (by simp; omega), HB.out⟩
        · go_enter Tryz.func119, Tryz.ntmps119
          go_wp2
          go_ret
          exact ⟨HC.out _ (by simp; omega), HB.out⟩
      · go_enter Tryz.func119, Tryz.ntmps119
        go_wp2
        go_ret
        exact ⟨HC.out _ (by simp; omega), HB.out⟩
    · go_enter Tryz.func119, Tryz.ntmps119
      go_wp2
      go_ret
      exact ⟨HC.out _ (by simp; omega), HB.out⟩
  · go_enter Tryz.func119, Tryz.ntmps119
    go_wp2
    go_ret
    exact ⟨HC.out _ (by simp; omega), HB.out⟩

set_option maxRecDepth 100000 in
set_option maxHeartbeats 1000000 in
theorem rsymbols_any (K N S len : Nat) (hs : 1 ≤ S) (hs8 : S ≤ 8) (hl : len ≤ 65535) (w : World) :
    Calls Tryz.prog 89 #[.agg #[.int .i64 (K : Int), .int .i64 (N : Int), .int .i64 (S : Int)], .int .i64 (len : Int)] w fun e w' => e = .returned (.int .i64 (symN S len : Int)) ∧ Below w.heap.size w w' := by
  have HQ : Hid (symN S len = if 0 < len % S ∨ len = 0 then len / S + 1 else len / S) := symN_split S len hs
  have HB : Hid (Below w.heap.size w (w.alloc (.cells #[.int .i64 (K : Int), .int .i64 (N : Int), .int .i64 (S : Int)] 30))) := cfg_low K N S w
  obtain ⟨q, hq⟩ : ∃ q : Nat, q = len / S := ⟨_, rfl⟩
  obtain ⟨r, hr⟩ : ∃ r : Nat, r = len % S := ⟨_, rfl⟩
  have e1 : (len : Int) / (S : Int) = (q : Int) := by rw [hq]; simp
  have e2 : (len : Int) % (S : Int) = (r : Int) := by rw [hr]; simp
  have e1' : (len : Int).tdiv (S : Int) = (q : Int) := by rw [Int.tdiv_eq_ediv_of_nonneg (by omega)]; exact e1
  have e2' : (len : Int).tmod (S : Int) = (r : Int) := by rw [Int.tmod_eq_emod_of_nonneg (by omega)]; exact e2
  have hql : q ≤ len := by rw [hq]; exact Nat.div_le_self _ _
  have hs0 : ¬ (S : Int) = 0 := by omega
  have HQ2 : Hid (symN S len = if 0 < r ∨ len = 0 then q + 1 else q) := by show _ = _; rw [hq, hr]; exact HQ.out
  clear HQ hq hr
  by_cases h1 : 0 < r
  · have h1' : (r : Int) > 0 := by omega
    go_enter Tryz.func89, Tryz.ntmps89
    go_wp2
    all_goals go_ret
    all_goals exact ⟨ret_int (by rw [HQ2.out, if_pos (.inl h1)]; omega), HB.out⟩
  · obtain rfl : r = 0 := by omega
    by_cases h2 : len = 0
    · have h2' : ((len : Int) == 0) = true := by simp; omega
      go_enter Tryz.func89, Tryz.ntmps89
      go_wp2
      all_goals go_ret
      all_goals exact ⟨ret_int (by rw [HQ2.out, if_pos (.inr h2)]; omega), HB.out⟩
    · have h2' : ((len : Int) == 0) = false := by simp; omega
      go_enter Tryz.func89, Tryz.ntmps89
      go_wp2
      all_goals go_ret
      all_goals exact ⟨ret_int (by rw [HQ2.out, if_neg (by omega)]), HB.out⟩

theorem Below.undrew {B : Nat} {w w' : World} (h : Below B w.drew w') : Below B w w' := ⟨h.os, h.tape, h.output, h.size, h.block⟩

/-- The configuration's block, new since w, in w1. -/
structure CfgAt (w w1 : World) (K N S : Nat) : Prop where
  low : Below w.heap.size w w1
  blk : w1.heap[w.heap.size]? = some (.cells #[.int .i64 (K : Int), .int .i64 (N : Int), .int .i64 (S : Int)] 30 (0, 0))
theorem CfgAt.start (w : World) (K N S : Nat) : CfgAt w (w.alloc (.cells #[.int .i64 (K : Int), .int .i64 (N : Int), .int .i64 (S : Int)] 30)) K N S := ⟨cfg_low K N S w, heap_alloc_new w _⟩
theorem CfgAt.lt {w w1 : World} {K N S : Nat} (h : CfgAt w w1 K N S) : w.heap.size < w1.heap.size := (Array.getElem?_eq_some_iff.1 h.blk).1
theorem CfgAt.then {w w1 w2 : World} {K N S : Nat} (h : CfgAt w w1 K N S) (hb : Below w1.heap.size w1 w2) : CfgAt w w2 K N S := ⟨h.low.trans (hb.mono h.low.size), by rw [hb.block _ h.lt]; exact h.blk⟩
theorem CfgAt.cells {w w1 : World} {K N S : Nat} (h : CfgAt w w1 K N S) : w1.cell? ⟨w.heap.size, 0, none⟩ = some (.int .i64 (K : Int)) ∧ w1.cell? ⟨w.heap.size, 1, none⟩ = some (.int .i64 (N : Int)) ∧ w1.cell? ⟨w.heap.size, 2, none⟩ = some (.int .i64 (S : Int)) :=
  ⟨cell_of_row w1 _ 0 _ _ _ h.blk, cell_of_row w1 _ 1 _ _ _ h.blk, cell_of_row w1 _ 2 _ _ _ h.blk⟩

set_option maxRecDepth 100000 in
set_option maxHeartbeats 1000000 in
theorem rblocks_any (K N S len : Nat) (hc : Cfg K N S) (hl : len ≤ 65535) (w : World) :
    Calls Tryz.prog 94 #[.agg #[.int .i64 (K : Int), .int .i64 (N : Int), .int .i64 (S : Int)], .int .i64 (len : Int)] w fun e w' => e = .returned (.int .i64 (partsN (symN S len) K : Int)) ∧ Below w.heap.size w w' := by
  obtain ⟨k1, k8, kn, n16, s1, s8⟩ := hc
  have hsy := fun w => rsymbols_any K N S len s1 s8 hl w
  have hr := symN_range (S := S) (len := len) s1
  generalize symN S len = T at *
  have HQ : Hid (partsN T K = if 0 < T % K then T / K + 1 else T / K) := parts_split T K k1
  have hst := CfgAt.start w K N S
  obtain ⟨q, hq⟩ : ∃ q : Nat, q = T / K := ⟨_, rfl⟩
  obtain ⟨r, hrr⟩ : ∃ r : Nat, r = T % K := ⟨_, rfl⟩
  have e1' : (T : Int).tdiv (K : Int) = (q : Int) := by rw [Int.tdiv_eq_ediv_of_nonneg (by omega), hq]; simp
  have e2' : (T : Int).tmod (K : Int) = (r : Int) := by rw [Int.tmod_eq_emod_of_nonneg (by omega), hrr]; simp
  have e1 : (T : Int) / (K : Int) = (q : Int) := by rw [hq]; simp
  have e2 : (T : Int) % (K : Int) = (r : Int) := by rw [hrr]; simp
  have hql : q ≤ T := by rw [hq]; exact Nat.div_le_self _ _
  have hs0 : ¬ (K : Int) = 0 := by omega
  have HQ2 : Hid (partsN T K = if 0 < r then q + 1 else q) := by show _ = _; rw [hq, hrr]; exact HQ.out
  clear HQ hq hrr
  go_enter Tryz.func94, Tryz.ntmps94
  go_wp2_with fail
  generalize (w.alloc (.cells #[.int .i64 (K : Int), .int .i64 (N : Int), .int .i64 (S : Int)] 30)) = W at *
  refine (hsy _).mono ?_
  rintro e w1 ⟨rfl, hb1⟩
  have hst1 := hst.then hb1
  obtain ⟨c0, c1, c2⟩ := hst1.cells
  have HB : Hid (Below w.heap.size w w1) := hst1.low
  clear hst hst1 hb1 hsy
  by_cases h1 : 0 < r
  · have h1' : (r : Int) > 0 := by omega
    go_wp2
    all_goals go_ret
    all_goals exact ⟨ret_int (by rw [HQ2.out, if_pos h1]; omega), HB.out⟩
  · obtain rfl : r = 0 := by omega
    go_wp2
    all_goals go_ret
    all_goals exact ⟨ret_int (by rw [HQ2.out, if_neg (by omega)]), HB.out⟩

set_option maxRecDepth 100000 in
set_option maxHeartbeats 1000000 in
theorem rsources_any (K N S len b : Nat) (hc : Cfg K N S) (hl : len ≤ 65535) (hb : b * K < symN S len) (w : World) :
    Calls Tryz.prog 96 #[.agg #[.int .i64 (K : Int), .int .i64 (N : Int), .int .i64 (S : Int)], .int .i64 (len : Int), .int .i64 (b : Int)] w fun e w' => e = .returned (.int .i64 (srcN K (symN S len) b : Int)) ∧ Below w.heap.size w w' := by
  obtain ⟨k1, k8, kn, n16, s1, s8⟩ := hc
  have hsy := fun w => rsymbols_any K N S len s1 s8 hl w
  have hr := symN_range (S := S) (len := len) s1
  generalize symN S len = T at *
  obtain ⟨m, hm⟩ : ∃ m : Nat, m = b * K := ⟨_, rfl⟩
  have hmi : (b : Int) * (K : Int) = (m : Int) := by rw [hm]; push_cast; rfl
  have hmT : m < T := by omega
  have HQ : Hid (srcN K T b = min K (T - m)) := by show _ = _; unfold srcN; rw [← hm]
  clear hm hb
  have hst := CfgAt.start w K N S
  obtain ⟨c0, c1, c2⟩ := hst.cells
  go_enter Tryz.func96, Tryz.ntmps96
  go_upto_region 1 with fail
  generalize (w.alloc (.cells #[.int .i64 (K : Int), .int .i64 (N : Int), .int .i64 (S : Int)] 30)) = W at *
  have hw1 : IntKind.i64.wrap (m : Int) = (m : Int) := by rw [IntKind.wrap_i64]; omega
  have hw2 : IntKind.i64.wrap ((T : Int) - (m : Int)) = (T : Int) - (m : Int) := by rw [IntKind.wrap_i64]; omega
  go_region_with (go_at_call 89; refine (hsy _).mono ?_; rintro e w1 ⟨rfl, hb1⟩; have d0 := (hst.then (Below.undrew hb1)).cells.1; have e0 := (hst.then (Below.undrew hb1)).low)
  all_goals (try simp only [hw1, hw2])
  all_goals go_wp2
  all_goals go_ret
  all_goals exact ⟨ret_int (by rw [HQ.out]; omega), by assumption⟩

set_option maxHeartbeats 400000 in
theorem none_err (w : World) : Calls Tryz.prog 93 #[] w fun e w' => e = .returned (.agg #[.int .i64 0, .int .i64 (-1)]) ∧ Below w.heap.size w w' := by
  go_enter Tryz.func93, Tryz.ntmps93
  go_wp2_with fail
  (try simp only [Exit.inBlock, Exit.then])
  exact bodyPost_ret (v := .agg #[.int .i64 0, .int .i64 (-1)]) (by simp [results, Tryz.results93, go_sem]) rfl ⟨rfl, (Below.refl _ _).alloc (Nat.le_refl _) _⟩

set_option maxHeartbeats 400000 in
theorem plain_err (z : Int) (w : World) : Calls Tryz.prog 92 #[.int .i64 z] w fun e w' => e = .returned (.agg #[.int .i64 z, .int .i64 (-1)]) ∧ Below w.heap.size w w' := by
  go_enter Tryz.func92, Tryz.ntmps92
  go_wp2_with fail
  (try simp only [Exit.inBlock, Exit.then])
  exact bodyPost_ret (v := .agg #[.int .i64 z, .int .i64 (-1)]) (by simp [results, Tryz.results92, go_sem]) rfl ⟨rfl, (Below.refl _ _).alloc (Nat.le_refl _) _⟩

set_option maxRecDepth 100000 in
set_option maxHeartbeats 1000000 in
theorem has_any (g c n : Nat) (l : List Int) (v : Int) (w : World) (hl : l.length = n) (hn : n ≤ 140737488355328) (hZ : Zs w g 0 l) :
    Calls Tryz.prog 136 #[.slice (some ⟨g, 0, none⟩) n c, .int .i64 v] w fun e w' => e = .returned (.bool (hasB l n v)) ∧ w' = w := by
  have HL : Hid (l.length = n) := hl
  have HZ : Hid (∀ i, i < n → w.cell? ⟨g, i, none⟩ = some (.int .i64 (zat l i))) := fun i hi => by have := hZ i (by omega); rwa [Nat.zero_add] at this
  clear hl hZ
  go_enter Tryz.func136, Tryz.ntmps136
  go_wp2_with fail
  go_loopw [5] (fun t wr => ∃ k : Nat, k ≤ n ∧ t = .int .i64 (k : Int) ∧ wr = w ∧ Hid (∀ i, i < k → zat l i ≠ v)) (fun t _ => n - (intOf t).toNat)
  case atStart => exact ⟨0, by omega, rfl, rfl, fun i hi => by omega⟩
  case round =>
    obtain ⟨k, hk, rfl, rfl, hno⟩ := hrel
    by_cases hlt : k < n
    · have hc := HZ.out k hlt
      by_cases hv : zat l k = v
      · have hv' : (zat l k == v) = true := by simp [hv]
        go_wp2_with fail
        go_ret
        exact ⟨ret_bool ((hasB_iff l n v).2 ⟨k, hlt, hv⟩).symm, rfl⟩
      · have hv' : (zat l k == v) = false := by simp [hv]
        go_wp2_with fail
        go_roundw
        case rel => exact ⟨k + 1, by omega, by go_num, trivial, fun i hi => by
          by_cases e : i = k
          · subst e; exact hv
          · exact hno.out i (by omega)⟩
        case measure => simp [intOf]; omega
    · obtain rfl : k = n := by omega
      go_wp2_with fail
      go_ret
      refine ⟨ret_bool ?_, rfl⟩
      cases h : hasB l k v
      · rfl
      · obtain ⟨i, hi, hv⟩ := (hasB_iff l k v).1 h
        exact absurd hv (hno.out i hi)

end Go.Proofs.YtjabhnhejbhgjaaGreatDoor

/- Package gather: Of, IsWhole; slices.Contains. -/
namespace Go.Proofs.YtjabhnhejbhgjaaGreatDoor
open Go.RowKit

set_option maxRecDepth 100000 in
set_option maxHeartbeats 1000000 in
theorem gwhole_any {w : World} {B kb : Nat} {k : Kn} (h : KAt w B kb k) (ok : k.Ok) :
    Calls Tryz.prog 47 #[.pointer (some ⟨kb, 0, none⟩)] w fun e w' => e = .returned (.bool (decide ((k.lks k.ts.length).length = 0))) ∧ Below w.heap.size w w' := by
  go_enter Tryz.func47, Tryz.ntmps47
  go_wp2_with fail
  refine (glacks_any h ok).mono ?_
  rintro e w1 ⟨v, rfl, hown, hb1⟩
  obtain ⟨xa, xc, hxv, _⟩ := own_form2 hown
  obtain rfl := hxv
  obtain ⟨m, hm0⟩ : ∃ x, x = (k.lks k.ts.length).length := ⟨_, rfl⟩
  rw [← hm0] at hown
  have HM0 : Hid (m = (k.lks k.ts.length).length) := hm0
  clear hm0
  by_cases hm : m = 0
  · have hm1 : (m : Int) = 0 := by omega
    go_wp2_with fail
    go_ret
    exact ⟨ret_bool (by rw [← HM0.out]; simp [hm]), hb1⟩
  · have hm1 : ¬ (m : Int) = 0 := by omega
    go_wp2_with fail
    go_ret
    exact ⟨ret_bool (by rw [← HM0.out]; simp [hm]), hb1⟩

/-- Nothing is known yet. -/
def kn0 (K N S len bg : Nat) : Kn := ⟨len, K, N, S, List.replicate (partsN (symN S len) K) pt0, bg⟩
theorem gpt0 (n i : Nat) : gpt (List.replicate n pt0) i = pt0 := by
  unfold gpt
  rw [List.getD_eq_getElem?_getD, List.getElem?_replicate]
  split <;> rfl
theorem kn0_ok {K N S len bg : Nat} (hc : Cfg K N S) (hl : len ≤ 255) : (kn0 K N S len bg).Ok :=
  ⟨hc, hl, by simp [kn0]; rfl, fun i hi => by unfold kn0; rw [gpt0]; exact Nat.zero_le _, fun i hi => by unfold kn0; rw [gpt0]; rfl, fun i hi r hr => by unfold kn0 at hr; rw [gpt0] at hr; simp [pt0] at hr⟩
theorem flatP0 : ∀ n, flat2 (ptVals (List.replicate n pt0)) = List.replicate (2 * n) (.slice none 0 0)
  | 0 => rfl
  | n + 1 => by
    have e : ptVals (List.replicate (n + 1) pt0) = (.slice none 0 0, .slice none 0 0) :: ptVals (List.replicate n pt0) := rfl
    rw [e, flat2_cons, flatP0 n, show 2 * (n + 1) = 2 * n + 1 + 1 by omega]
    rfl
theorem madeP (n : Nat) : madeCells #[.slice none 0 0, .slice none 0 0] (n * 2) = (flat2 (ptVals (List.replicate n pt0))).toArray := by
  apply Array.ext'
  rw [flatP0]
  apply List.ext_getElem
  · simp [madeCells]; omega
  · intro i h1 h2
    have h3 : i % 2 = 0 ∨ i % 2 = 1 := by omega
    simp only [madeCells, Array.toList_map, Array.toList_range, List.getElem_map, List.getElem_range, List.getElem_replicate]
    rcases h3 with h3 | h3
    · show (#[Value.slice none 0 0, Value.slice none 0 0])[i % 2]! = _
      rw [h3]; rfl
    · show (#[Value.slice none 0 0, Value.slice none 0 0])[i % 2]! = _
      rw [h3]; rfl
theorem Tryz.info_part : (Tryz.prog.info? 174).map (fun i => (i.zero, i.size, i.bytes)) = some (some (.agg #[.slice none 0 0, .slice none 0 0]), 2, 48) := by kernel_rfl
theorem make_parts (n : Nat) (hn : n ≤ 1000) (W : World) : (Instr.makeSlice 153 (.int .i64 (n : Int)) (.int .i64 (n : Int))).run Tryz.prog W = .ok (.slice (some ⟨W.heap.size, 0, none⟩) n n) (W.alloc (.cells (flat2 (ptVals (List.replicate n pt0))).toArray 174)) := by
  have h := Tryz.info_part
  cases hi : Tryz.prog.info? 174 with
  | none => rw [hi] at h; simp at h
  | some i =>
    rw [hi] at h
    simp at h
    obtain ⟨h1, h2, h3⟩ := h
    have := run_make (P := Tryz.prog) W 153 174 i (.agg #[.slice none 0 0, .slice none 0 0]) Tryz.underlying153 hi h1 .i64 .i64 (n : Int) (n : Int) (by omega) (by omega) (by rw [h3]; omega) (by omega)
    rw [h2] at this
    simp only [Int.toNat_natCast] at this
    rw [this]
    show Result.ok _ (W.alloc (.cells (madeCells #[.slice none 0 0, .slice none 0 0] (n * 2)) _)) = _
    rw [madeP]

theorem kn0_at {K N S len : Nat} {w w9 : World} (hb : Below w.heap.size w w9) :
    KAt ((w9.alloc (.cells (flat2 (ptVals (List.replicate (partsN (symN S len) K) pt0))).toArray 174)).alloc (.cells #[.int .i64 (len : Int), .int .i64 (K : Int), .int .i64 (N : Int), .int .i64 (S : Int), .int .i64 (symN S len : Int), .slice (some ⟨w9.heap.size, 0, none⟩) (partsN (symN S len) K) (partsN (symN S len) K)] 155)) w.heap.size (w9.heap.size + 1) (kn0 K N S len w9.heap.size) ∧ Below w.heap.size w ((w9.alloc (.cells (flat2 (ptVals (List.replicate (partsN (symN S len) K) pt0))).toArray 174)).alloc (.cells #[.int .i64 (len : Int), .int .i64 (K : Int), .int .i64 (N : Int), .int .i64 (S : Int), .int .i64 (symN S len : Int), .slice (some ⟨w9.heap.size, 0, none⟩) (partsN (symN S len) K) (partsN (symN S len) K)] 155)) := by
  have hs := hb.size
  have hl : (kn0 K N S len w9.heap.size).ts.length = partsN (symN S len) K := by simp [kn0]
  refine ⟨⟨by omega, ?_, hs, ?_, fun i hi => ?_, fun i hi => ?_, fun i hi r hr => ?_, fun i j hi hj g hg => ?_, fun i j hi hj g hg => ?_, fun i j hi hj g hg => ?_⟩, (hb.alloc hs _).alloc (by simp; omega) _⟩
  · have h := heap_alloc_new (w9.alloc (.cells (flat2 (ptVals (List.replicate (partsN (symN S len) K) pt0))).toArray 174)) (.cells #[.int .i64 (len : Int), .int .i64 (K : Int), .int .i64 (N : Int), .int .i64 (S : Int), .int .i64 (symN S len : Int), .slice (some ⟨w9.heap.size, 0, none⟩) (partsN (symN S len) K) (partsN (symN S len) K)] 155)
    rw [show (w9.alloc (.cells (flat2 (ptVals (List.replicate (partsN (symN S len) K) pt0))).toArray 174)).heap.size = w9.heap.size + 1 by simp] at h
    rw [hl]
    exact h
  · exact (Below.heap_alloc _ _ _ (by show w9.heap.size < _; simp)).trans (heap_alloc_new w9 _)
  · unfold kn0; rw [gpt0]; exact World.ownsRow_nil ..
  · unfold kn0; rw [gpt0]; exact World.ownsRow_nil ..
  · unfold kn0 at hr; rw [gpt0] at hr; simp [pt0] at hr
  · unfold kn0 at hg; rw [gpt0] at hg; simp [pt0, Value.ownBlock] at hg
  · unfold kn0 at hg; rw [gpt0] at hg; simp [pt0, Value.ownBlock] at hg
  · unfold kn0 at hg; rw [gpt0] at hg; simp [pt0, Value.ownBlock] at hg

set_option maxRecDepth 100000 in
set_option maxHeartbeats 2000000 in
theorem gof_any (K N S len : Nat) (hc : Cfg K N S) (hlen : len ≤ 255) (w : World) :
    Calls Tryz.prog 75 #[.agg #[.int .i64 (K : Int), .int .i64 (N : Int), .int .i64 (S : Int)], .int .i64 (len : Int)] w fun e w' =>
      ∃ kb bg, e = .returned (.pointer (some ⟨kb, 0, none⟩)) ∧ KAt w' w.heap.size kb (kn0 K N S len bg) ∧ Below w.heap.size w w' := by
  have hC := CfgAt.start w K N S
  obtain ⟨k1, k8, kn, n16, s1, s8⟩ := hc
  have hTr := symN_range (S := S) (len := len) s1
  have hQl := partsN_le (a := symN S len) k1
  have HOF : Hid (∀ W, Calls Tryz.prog 60 #[.agg #[.int .i64 (K : Int), .int .i64 (N : Int), .int .i64 (S : Int)], .int .i64 (len : Int)] W fun e w' => e = .returned (.agg #[.int .i64 (K : Int), .int .i64 (N : Int), .int .i64 (S : Int), .int .i64 (symN S len : Int)]) ∧ Below W.heap.size W w') := fun W => of_any K N S len ⟨k1, k8, kn, n16, s1, s8⟩ (by omega) W
  have HBK : Hid (∀ W, Calls Tryz.prog 61 #[.agg #[.int .i64 (K : Int), .int .i64 (N : Int), .int .i64 (S : Int), .int .i64 (symN S len : Int)]] W fun e w' => e = .returned (.int .i64 (partsN (symN S len) K : Int)) ∧ Below W.heap.size W w') := fun W => blocks_any K N S (symN S len) k1 k8 (by omega) W
  have HMK : Hid (∀ W : World, (Instr.makeSlice 153 (.int .i64 (partsN (symN S len) K : Int)) (.int .i64 (partsN (symN S len) K : Int))).run Tryz.prog W = .ok (.slice (some ⟨W.heap.size, 0, none⟩) (partsN (symN S len) K) (partsN (symN S len) K)) (W.alloc (.cells (flat2 (ptVals (List.replicate (partsN (symN S len) K) pt0))).toArray 174))) := fun W => make_parts _ (by omega) W
  have HAT : Hid (∀ w9, Below w.heap.size w w9 → _) := fun w9 hb => kn0_at (K := K) (N := N) (S := S) (len := len) hb
  have hQ9 : partsN (symN S len) K ≤ 1000 := by omega
  generalize partsN (symN S len) K = Q at *
  generalize symN S len = T at *
  go_enter Tryz.func75, Tryz.ntmps75
  go_upto_region 1 with fail
  generalize w.alloc (.cells #[.int .i64 (K : Int), .int .i64 (N : Int), .int .i64 (S : Int)] 30) = W0 at *
  obtain ⟨x0, x1, x2⟩ := hC.cells
  go_wp2_with fail
  refine (HOF.out _).mono ?_
  rintro e w1 ⟨rfl, hb1⟩
  have hbw1 : Below w.heap.size w w1 := hC.low.trans (hb1.mono hC.low.size)
  clear x0 x1 x2 hC
  go_upto_region 2 with fail
  have hX2 := heap_alloc_new w1 (.cells #[.int .i64 (K : Int), .int .i64 (N : Int), .int .i64 (S : Int), .int .i64 (T : Int)] 148)
  have hbw2 : Below w.heap.size w (w1.alloc (.cells #[.int .i64 (K : Int), .int .i64 (N : Int), .int .i64 (S : Int), .int .i64 (T : Int)] 148)) := hbw1.alloc hbw1.size _
  generalize w1.alloc (.cells #[.int .i64 (K : Int), .int .i64 (N : Int), .int .i64 (S : Int), .int .i64 (T : Int)] 148) = W2 at *
  obtain ⟨pb, hpb⟩ : ∃ x, x = w1.heap.size := ⟨_, rfl⟩
  rw [← hpb] at hX2 ⊢
  clear hpb hb1 hbw1
  have p0 : W2.cell? ⟨pb, 0, none⟩ = some (.int .i64 (K : Int)) := cell_of_row W2 _ 0 _ _ _ hX2
  have p1 : W2.cell? ⟨pb, 1, none⟩ = some (.int .i64 (N : Int)) := cell_of_row W2 _ 1 _ _ _ hX2
  have p2 : W2.cell? ⟨pb, 2, none⟩ = some (.int .i64 (S : Int)) := cell_of_row W2 _ 2 _ _ _ hX2
  have p3 : W2.cell? ⟨pb, 3, none⟩ = some (.int .i64 (T : Int)) := cell_of_row W2 _ 3 _ _ _ hX2
  have HK9 : Hid (∀ w9, Below W2.heap.size W2 w9 → (w9.cell? ⟨pb, 0, none⟩ = some (.int .i64 (K : Int)) ∧ w9.cell? ⟨pb, 1, none⟩ = some (.int .i64 (N : Int)) ∧ w9.cell? ⟨pb, 2, none⟩ = some (.int .i64 (S : Int)) ∧ w9.cell? ⟨pb, 3, none⟩ = some (.int .i64 (T : Int))) ∧ ¬ pb = w9.heap.size ∧ Below w.heap.size w w9 ∧ ∀ ob : Obj, (w9.alloc ob).cell? ⟨pb, 0, none⟩ = some (.int .i64 (K : Int)) ∧ (w9.alloc ob).cell? ⟨pb, 1, none⟩ = some (.int .i64 (N : Int)) ∧ (w9.alloc ob).cell? ⟨pb, 2, none⟩ = some (.int .i64 (S : Int)) ∧ (w9.alloc ob).cell? ⟨pb, 3, none⟩ = some (.int .i64 (T : Int))) := fun w9 hb9 => by
    have h1 := lt_of_block hX2
    have h2 := hb9.size
    exact ⟨⟨by rw [hb9.cell (lt_of_cell p0)]; exact p0, by rw [hb9.cell (lt_of_cell p1)]; exact p1, by rw [hb9.cell (lt_of_cell p2)]; exact p2, by rw [hb9.cell (lt_of_cell p3)]; exact p3⟩, by omega, hbw2.trans (hb9.mono hbw2.size), fun ob => ⟨by rw [((Below.refl w9.heap.size w9).alloc (Nat.le_refl _) ob).cell (p := ⟨pb, 0, none⟩) (by show pb < _; omega), hb9.cell (lt_of_cell p0)]; exact p0, by rw [((Below.refl w9.heap.size w9).alloc (Nat.le_refl _) ob).cell (p := ⟨pb, 1, none⟩) (by show pb < _; omega), hb9.cell (lt_of_cell p1)]; exact p1, by rw [((Below.refl w9.heap.size w9).alloc (Nat.le_refl _) ob).cell (p := ⟨pb, 2, none⟩) (by show pb < _; omega), hb9.cell (lt_of_cell p2)]; exact p2, by rw [((Below.refl w9.heap.size w9).alloc (Nat.le_refl _) ob).cell (p := ⟨pb, 3, none⟩) (by show pb < _; omega), hb9.cell (lt_of_cell p3)]; exact p3⟩⟩
  clear hX2 hbw2
  go_region_law ((first
    | (go_simp; go_at_call 61; refine (HBK.out _).mono ?_; rintro e w9 ⟨rfl, hb9⟩; (have hbX : Below W2.heap.size W2 w9 := by first | exact Below.undraw hb9 | exact hb9); obtain ⟨⟨d0, d1, d2, d3⟩, n9, hbw9, hal⟩ := HK9.out w9 hbX; obtain ⟨a0, a1, a2, a3⟩ := hal (.cells (flat2 (ptVals (List.replicate Q pt0))).toArray 174); have hmk := HMK.out w9)))
  all_goals go_wp2_with fail
  all_goals go_ret
  all_goals exact ⟨_, _, rfl, (HAT.out w9 hbw9).1, (HAT.out w9 hbw9).2⟩

/-- Contains. -/
theorem mem_take {l : List Gf.F} {x : Gf.F} {i : Nat} (hi : i < l.length) : x ∈ l.take (i + 1) ↔ (x ∈ l.take i ∨ at_ l i = x) := by
  have e : at_ l i = l[i] := by simp [at_, List.getD, hi]
  rw [List.take_succ_eq_append_getElem hi, List.mem_append, List.mem_singleton, e]
  exact ⟨fun h => h.elim .inl (fun q => .inr q.symm), fun h => h.elim .inl (fun q => .inr q.symm)⟩
theorem byte_eq {x y : Gf.F} : ((x.toNat : Int) = (y.toNat : Int)) ↔ x = y := ⟨fun h => BitVec.eq_of_toNat_eq (by omega), fun h => by rw [h]⟩

set_option maxRecDepth 100000 in
set_option maxHeartbeats 1000000 in
theorem sindex_any {w : World} {B n : Nat} {v : Value} {l : List Gf.F} {x : Gf.F} (h : w.ownsRow B 5 1 v n (encL l)) (hl : l.length = n) (hn : n ≤ 1000) :
    Calls Tryz.prog 118 #[v, .int .u8 (x.toNat : Int)] w fun e w' => ∃ z : Int, e = .returned (.int .i64 z) ∧ (0 ≤ z ↔ x ∈ l) ∧ Below w.heap.size w w' := by
  obtain ⟨a, c, rfl, hx⟩ := own_form h
  have HB : Hid (∀ i, i < n → ∃ g, a = some ⟨g, 0, none⟩ ∧ w.cell? ⟨g, i, none⟩ = some (.int .u8 ((at_ l i).toNat : Int))) := fun i hi => by
    obtain ⟨g, rfl, _⟩ := hx (by omega)
    have := own_bs h hl i (by omega)
    rw [Nat.zero_add] at this
    exact ⟨g, rfl, this⟩
  have HL : Hid (l.length = n) := hl
  clear h hl hx
  go_enter Tryz.func118, Tryz.ntmps118
  go_wp2_with fail
  go_loopw [5, 8] (fun _ t wr => ∃ i : Nat, i ≤ n ∧ t = .int .i64 (i : Int) ∧ ¬ x ∈ l.take i ∧ wr = w) (fun _ t _ => n - (intOf t).toNat)
  case atStart => exact ⟨0, by omega, rfl, by simp, rfl⟩
  case round =>
    obtain ⟨i, hi, rfl, hno, rfl⟩ := hrel
    by_cases hlt : i < n
    · have hlt1 : (i : Int) < (n : Int) := by omega
      have hlt0 : (0 : Int) ≤ (i : Int) := by omega
      obtain ⟨g, rfl, c0⟩ := HB.out i hlt
      have HM : Hid (x ∈ l.take (i + 1) ↔ (x ∈ l.take i ∨ at_ l i = x)) := mem_take (by rw [HL.out]; exact hlt)
      have HNO : Hid (¬ x ∈ l.take i) := hno
      have HIN : Hid (at_ l i = x → x ∈ l) := fun e => List.mem_of_mem_take (HM.out.2 (.inr e))
      have hbe : ((x.toNat : Int) = ((at_ l i).toNat : Int)) ↔ at_ l i = x := byte_eq.trans ⟨Eq.symm, Eq.symm⟩
      clear hno
      generalize at_ l i = y at *
      by_cases he : (x.toNat : Int) = (y.toNat : Int)
      · have hyx := hbe.1 he
        clear hbe
        go_wp2_with fail
        go_ret
        exact ⟨(i : Int), rfl, ⟨fun _ => HIN.out hyx, fun _ => by omega⟩, Below.refl _ _⟩
      · have hyx : ¬ y = x := fun q => he (hbe.2 q)
        clear hbe
        go_wp2_with fail
        go_roundw
        case rel => exact ⟨i + 1, by omega, by go_num, fun q => (HM.out.1 q).elim HNO.out hyx, by first | rfl | trivial⟩
        case measure => simp [intOf]; omega
    · obtain rfl : i = n := by omega
      have hlt1 : ¬ (i : Int) < (i : Int) := by omega
      have HNO : Hid (¬ x ∈ l) := by
        show ¬ _
        rw [List.take_of_length_le (by rw [HL.out]; exact Nat.le_refl _)] at hno
        exact hno
      clear hno
      go_wp2_with fail
      go_ret
      exact ⟨-1, rfl, ⟨fun q => by omega, fun q => absurd q HNO.out⟩, Below.refl _ _⟩

set_option maxRecDepth 100000 in
set_option maxHeartbeats 1000000 in
theorem scontains_any {w : World} {B n : Nat} {v : Value} {l : List Gf.F} {x : Gf.F} (h : w.ownsRow B 5 1 v n (encL l)) (hl : l.length = n) (hn : n ≤ 1000) :
    Calls Tryz.prog 76 #[v, .int .u8 (x.toNat : Int)] w fun e w' => e = .returned (.bool (decide (x ∈ l))) ∧ Below w.heap.size w w' := by
  have HX := sindex_any (x := x) h hl hn
  clear h hl
  go_enter Tryz.func76, Tryz.ntmps76
  go_wp2_with fail
  refine HX.mono ?_
  rintro e w1 ⟨z, rfl, hz, hb1⟩
  clear HX
  by_cases h0 : 0 ≤ z
  · have hm := hz.1 h0
    clear hz
    go_wp2_with fail
    go_ret
    exact ⟨ret_bool (by simp [hm]), hb1⟩
  · have hm : ¬ x ∈ l := fun q => h0 (hz.2 q)
    have h01 : z < 0 := by omega
    clear hz
    go_wp2_with fail
    go_ret
    exact ⟨ret_bool (by simp [hm]; omega), hb1⟩

end Go.Proofs.YtjabhnhejbhgjaaGreatDoor
