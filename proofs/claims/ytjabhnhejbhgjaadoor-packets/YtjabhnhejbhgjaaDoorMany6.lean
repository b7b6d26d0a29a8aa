import Derived.Test.YtjabhnhejbhgjaaDoorParseLack
import Derived.Test.YtjabhnhejbhgjaaDoorAsWalk
/- Package wire: parseAsks. -/
namespace Go.Proofs.YtjabhnhejbhgjaaDoor
open Go.RowKit

/-- What is wrong from the i-th lack on. -/
def asksFrom (K T : Nat) (m : List Gf.F) : Nat → Nat → Nat → Option (Nat × Nat)
  | 0, i, _ => if 1 + 2 * i < m.length then some (7, 1 + 2 * i) else none
  | r + 1, i, least => match lackB K T m (1 + 2 * i) least with | some e => some e | none => asksFrom K T m r (i + 1) (bt m (1 + 2 * i) + 1)
def asksB (K T : Nat) (m : List Gf.F) : Option (Nat × Nat) :=
  if m.length < 1 then some (4, m.length) else if manyB (partsN T K) (bt m 0) = false then some (6, 0) else asksFrom K T m (bt m 0) 0 0
def lackCells (m : List Gf.F) : Nat → List Value
  | 0 => []
  | i + 1 => lackCells m i ++ [.int .i64 (bt m (1 + 2 * i) : Int), .int .i64 (bt m (1 + 2 * i + 1) : Int)]
theorem lackCells_length (m : List Gf.F) : ∀ i, (lackCells m i).length = i * 2
  | 0 => rfl
  | i + 1 => by simp [lackCells, lackCells_length m i]; omega

def AsksGives (A : Nat → Addr) (K T rb : Nat) (m : List Gf.F) (w : World) (e : Ending) (w' : World) : Prop :=
  (match asksB K T m with
  | some (c, p) => ∃ (a : Option Addr) (n1 c1 : Nat) (v : Value), e = .returned (.tuple #[.slice a n1 c1, v]) ∧ Wr w w' v (p : Int) (E A c)
  | none => ∃ (a : Option Addr) (c1 : Nat), e = .returned (.tuple #[.slice a (bt m 0) c1, .nilIface]) ∧ w'.ownsRow w.heap.size 110 2 (.slice a (bt m 0) c1) (bt m 0) (lackCells m (bt m 0))) ∧ But (fun g => g = rb) w w'
theorem AsksGives.bad {A : Nat → Addr} {K T rb c p n1 c1 : Nat} {a : Option Addr} {m : List Gf.F} {w w' : World} {v : Value} (h : asksB K T m = some (c, p)) (hw : Wr w w' v (p : Int) (E A c)) (hb : But (fun g => g = rb) w w') :
    AsksGives A K T rb m w (.returned (.tuple #[.slice a n1 c1, v])) w' := by
  unfold AsksGives
  rw [h]
  exact ⟨⟨a, n1, c1, v, rfl, hw⟩, hb⟩

structure AskSt (w W : World) (K N S T rb : Nat) (v : Value) (k : Nat) : Prop where
  but : But (fun g => g = rb) w W
  plan : W.heap[w.heap.size]? = some (.cells #[.int .i64 (K : Int), .int .i64 (N : Int), .int .i64 (S : Int), .int .i64 (T : Int)] 121 (0, 0))
  rdr : Rdr W rb v k
  low : rb < w.heap.size
theorem AskSt.start {w : World} {K N S T rb k : Nat} {v : Value} (h : Rdr w rb v k) : AskSt w (w.alloc (.cells #[.int .i64 (K : Int), .int .i64 (N : Int), .int .i64 (S : Int), .int .i64 (T : Int)] 121)) K N S T rb v k :=
  ⟨(But.refl _ w).alloc _, heap_alloc_new w _, h.kept (Below.heap_alloc _ _ _ h.lt), h.lt⟩
theorem AskSt.next {w W W' : World} {K N S T rb k k' : Nat} {v : Value} (h : AskSt w W K N S T rb v k) (hb : But (fun g => g = rb) W W') (hr : Rdr W' rb v k') : AskSt w W' K N S T rb v k' :=
  ⟨h.but.trans hb, by rw [hb.block _ (lt_of_block h.plan) (by have := h.low; omega)]; exact h.plan, hr, h.low⟩
theorem AskSt.grow {w W W' : World} {K N S T rb k : Nat} {v : Value} (h : AskSt w W K N S T rb v k) (hb : Below W.heap.size W W') : AskSt w W' K N S T rb v k :=
  h.next (Below.but hb _ (fun _ hi h => absurd hi h)) (h.rdr.kept (hb.block _ h.rdr.lt))
theorem AskSt.above {w W W' : World} {K N S T rb k : Nat} {v : Value} (h : AskSt w W K N S T rb v k) (hb : Below (w.heap.size + 1) W W') : AskSt w W' K N S T rb v k :=
  ⟨h.but.below hb (fun i hi q => by omega), by rw [hb.block _ (by omega)]; exact h.plan, h.rdr.kept (hb.block _ (by have := h.low; omega)), h.low⟩
theorem AskSt.errs {A : Nat → Addr} {B0 : Nat} {w W : World} {K N S T rb k : Nat} {v : Value} (h : AskSt w W K N S T rb v k) (hE : Errs A B0 w) (hB : B0 ≤ rb) : Errs A B0 W := hE.below (h.but.toBelow hE.size (fun k hk q => by omega))
theorem AskSt.cells {w W : World} {K N S T rb k : Nat} {v : Value} (h : AskSt w W K N S T rb v k) : W.cell? ⟨w.heap.size, 0, none⟩ = some (.int .i64 (K : Int)) ∧ W.cell? ⟨w.heap.size, 1, none⟩ = some (.int .i64 (N : Int)) ∧ W.cell? ⟨w.heap.size, 2, none⟩ = some (.int .i64 (S : Int)) ∧ W.cell? ⟨w.heap.size, 3, none⟩ = some (.int .i64 (T : Int)) :=
  ⟨cell_of_row W _ 0 _ _ _ h.plan, cell_of_row W _ 1 _ _ _ h.plan, cell_of_row W _ 2 _ _ _ h.plan, cell_of_row W _ 3 _ _ _ h.plan⟩

set_option maxRecDepth 100000 in
set_option maxHeartbeats 1000000 in
theorem amany_any (pb K N S T x : Nat) (hk : 1 ≤ K) (hk8 : K ≤ 8) (hT : T ≤ 70000) (w : World) (hp : w.heap[pb]? = some (.cells #[.int .i64 (K : Int), .int .i64 (N : Int), .int .i64 (S : Int), .int .i64 (T : Int)] 121 (0, 0))) :
    Calls Tryd.prog 78 #[.int .i64 (x : Int), .pointer (some ⟨pb, 0, none⟩)] w fun e w' => e = .returned (.bool (manyB (partsN T K) x)) ∧ Below w.heap.size w w' := by
  have c0 : w.cell? ⟨pb, 0, none⟩ = some (.int .i64 (K : Int)) := cell_of_row w _ 0 _ _ _ hp
  have c1 : w.cell? ⟨pb, 1, none⟩ = some (.int .i64 (N : Int)) := cell_of_row w _ 1 _ _ _ hp
  have c2 : w.cell? ⟨pb, 2, none⟩ = some (.int .i64 (S : Int)) := cell_of_row w _ 2 _ _ _ hp
  have c3 : w.cell? ⟨pb, 3, none⟩ = some (.int .i64 (T : Int)) := cell_of_row w _ 3 _ _ _ hp
  have hP := fun w => blocks_any K N S T hk hk8 hT w
  generalize partsN T K = q at *
  clear hp
  by_cases h1 : 1 ≤ x
  · have h1' : (1 : Int) ≤ (x : Int) := by omega
    by_cases h2 : x ≤ q
    · have h2' : (x : Int) ≤ (q : Int) := by omega
      go_enter Tryd.func78, Tryd.ntmps78
      go_wp2_with fail
      refine (hP _).mono ?_
      rintro e w1 ⟨rfl, hb1⟩
      go_wp2_with fail
      go_ret
      exact ⟨ret_bool (manyB_yes ⟨h1, h2⟩).symm, hb1⟩
    · have h2' : ¬ (x : Int) ≤ (q : Int) := by omega
      go_enter Tryd.func78, Tryd.ntmps78
      go_wp2_with fail
      refine (hP _).mono ?_
      rintro e w1 ⟨rfl, hb1⟩
      go_wp2_with fail
      go_ret
      exact ⟨ret_bool (manyB_no (by omega)).symm, hb1⟩
  · have h1' : ¬ (1 : Int) ≤ (x : Int) := by omega
    go_enter Tryd.func78, Tryd.ntmps78
    go_wp2_with fail
    go_ret
    exact ⟨ret_bool (manyB_no (by omega)).symm, Below.refl _ _⟩
theorem calls_enters_amany (args : Array Value) (w : World) : (callFunc 78 args).run Tryd.prog w = .ok (.enter 78 args) w := enters_of Tryd.func78 (by kernel_rfl) rfl args w

theorem Tryd.info_lack : (Tryd.prog.info? 110).map (fun i => (i.zero, i.size, i.bytes)) = some (some (.agg #[.int .i64 0, .int .i64 0]), 2, 16) := by kernel_rfl
theorem Tryd.lack_parts : ∃ i, Tryd.prog.info? 110 = some i ∧ i.zero = some (.agg #[.int .i64 0, .int .i64 0]) ∧ i.size = 2 ∧ i.bytes = 16 := by
  have h := Tryd.info_lack
  cases hi : Tryd.prog.info? 110 with
  | none => rw [hi] at h; simp at h
  | some i => rw [hi] at h; simp at h; exact ⟨i, rfl, h.1, h.2.1, h.2.2⟩

theorem cell_two_at (w : World) (u v : Value) (t : TypeId) (H : Nat) (hH : H = w.heap.size) : ∀ j x, [u, v][j]? = some x → (w.alloc (.cells #[u, v] t)).cell? ((⟨H, 0, none⟩ : Addr).add j) = some x := by
  intro j x hj
  subst hH
  have e : (⟨w.heap.size, 0, none⟩ : Addr).add j = ⟨w.heap.size, j, none⟩ := by unfold Addr.add; split <;> simp_all
  rw [e, World.cell?_alloc_at _ _ _ _ rfl]
  match j, hj with
  | 0, h => simpa using h
  | 1, h => simpa using h

theorem own_form2 {w : World} {B sz : Nat} {e : TypeId} {n : Nat} {v : Value} {xs : List Value} (h : w.ownsRow B e sz v n xs) : ∃ a c, v = .slice a n c ∧ True := by
  obtain ⟨h1, h2⟩ := h
  rcases h2 with ⟨rfl, rfl⟩ | ⟨g, cap, cur, rfl, _⟩
  · exact ⟨none, 0, rfl, trivial⟩
  · exact ⟨_, _, rfl, trivial⟩
theorem own_base2 {w : World} {B B' n sz : Nat} {e : TypeId} {v : Value} {xs : List Value} (h : w.ownsRow B e sz v n xs) (hB : B' ≤ B) : w.ownsRow B' e sz v n xs := by
  obtain ⟨h1, h2⟩ := h
  refine ⟨h1, ?_⟩
  rcases h2 with h2 | ⟨g', cap, cur, h3, h4, h5⟩
  · exact .inl h2
  · exact .inr ⟨g', cap, cur, h3, Nat.le_trans hB h4, h5⟩

set_option maxRecDepth 100000 in
set_option maxHeartbeats 4000000 in
theorem asks_any (A : Nat → Addr) (B0 : Nat) (a : Option Addr) (b o n c rb K N S T : Nat) (m : List Gf.F) (w : World) (hE : Errs A B0 w) (hB0 : B0 ≤ rb) (hcfg : Cfg K N S) (hT : T ≤ 70000) (hR : Rdr w rb (.slice a n c) 0) (hm : m.length = n) (hn : n ≤ c) (hc : c ≤ 9223372036854775807) (hn2 : n ≤ 140737488355328) (ha : 0 < n → a = some ⟨b, o, none⟩) (hB : Bs w b o m) (hb : 0 < n → b ≠ rb ∧ b < w.heap.size) :
    Calls Tryd.prog 57 #[.agg #[.int .i64 (K : Int), .int .i64 (N : Int), .int .i64 (S : Int), .int .i64 (T : Int)], .pointer (some ⟨rb, 0, none⟩)] w (AsksGives A K T rb m w) := by
  have hmf : ∀ (fn : Fn) (first cap : Array Value) (w : World), (Instr.makeFunc fn first cap).run Tryd.prog w = .ok (.func fn first cap) w := fun _ _ _ _ => rfl
  have HK1 : Hid (1 ≤ K ∧ K ≤ 8) := ⟨hcfg.k1, hcfg.k8⟩
  have HCF : Hid (Cfg K N S) := hcfg
  clear hcfg
  obtain ⟨iL, hiL, hiL0, hiL1, hiL2⟩ := Tryd.lack_parts
  have hst := AskSt.start (K := K) (N := N) (S := S) (T := T) hR
  clear hR
  go_enter Tryd.func57, Tryd.ntmps57
  go_upto_region 1 with fail
  generalize w.alloc (.cells #[.int .i64 (K : Int), .int .i64 (N : Int), .int .i64 (S : Int), .int .i64 (T : Int)] 121) = W at *
  have hE0 := hst.errs hE hB0
  have s0 : W.cell? ⟨3, 0, none⟩ = some (.iface 164 (.pointer (some (A 3)))) := hE0.cell 3 (by omega)
  have g0 : W.cell? ⟨5, 0, none⟩ = some (.iface 164 (.pointer (some (A 5)))) := hE0.cell 5 (by omega)
  by_cases hq0 : n < 1
  · go_wp2_with fail
    refine (number_short a rb n c 0 1 _ _ _ _ _ W hst.rdr hn2 (by omega) (by omega) (by omega) s0).mono ?_
    rintro e X1 ⟨v, rfl, ⟨pb, rfl, hpb, hblk⟩, hbX⟩
    have hstX := hst.grow hbX
    go_wp2_with fail
    go_ret2
    exact AsksGives.bad (c := 4) (p := n) (by simp [asksB, hm, hq0]) ⟨pb, rfl, by have := hst.but.size; omega, hblk⟩ hstX.but
  · obtain rfl := ha (by omega)
    obtain ⟨hbr, hbl⟩ := hb (by omega)
    have hB1 : Bs W b o m := fun i hi => by rw [World.cell?_of_block (hst.but.block b hbl hbr)]; exact hB i hi
    go_wp2_with fail
    refine (number_all rb b o n c 0 1 m _ _ 78 #[] #[.pointer (some ⟨w.heap.size, 0, none⟩)] (manyB (partsN T K) (bt m 0)) W calls_enters_amany hst.rdr hm hn hc (by omega) (by omega) (by omega) hn2 hB1 hbr (fun V hV => by
      rw [numAt_one]
      have hl := hst.low
      exact amany_any w.heap.size K N S T (bt m 0) HK1.out.1 HK1.out.2 hT V (by rw [hV.block _ (lt_of_block hst.plan) (by omega)]; exact hst.plan))).mono ?_
    rintro e W1 ⟨he, hr1, hb1⟩
    have hst1 := hst.next hb1 hr1
    clear s0 g0 hB1
    cases hk0 : manyB (partsN T K) (bt m 0)
    · rw [hk0] at he
      simp only [Bool.false_eq_true, if_false] at he
      obtain ⟨v, rfl, ⟨pb, rfl, hpb, hblk⟩⟩ := he
      go_wp2_with fail
      go_ret2
      exact AsksGives.bad (c := 6) (p := 0) (by simp [asksB, hm, hq0, hk0]) ⟨pb, rfl, by have := hst.but.size; omega, hblk⟩ hst1.but
    · rw [hk0] at he
      simp only [if_true, numAt_one] at he
      subst he
      have HAB : Hid (asksB K T m = asksFrom K T m (bt m 0) 0 0) := by show _ = _; simp [asksB, hm, hq0, hk0]
      have hmany := bt_lt m 0
      have hmany1 : 1 ≤ bt m 0 := by
        rcases Nat.eq_zero_or_pos (bt m 0) with h | h
        · rw [h] at hk0; cases hk0
        · exact h
      have HMO : Hid (∀ i, bt m i < 256) := bt_lt m
      obtain ⟨M, hM⟩ : ∃ M, M = bt m 0 := ⟨_, rfl⟩
      rw [← hM] at HAB hmany hmany1 ⊢
      have HM : Hid (M = bt m 0) := hM
      clear hM hb1 hr1 hst hk0
      have hs1 := lt_of_block hst1.plan
      go_wp2_with (at_make; refine wpList_make_own _ rfl _ _ 55 rfl (w.heap.size + 1) 110 iL (.agg #[.int .i64 0, .int .i64 0]) 2 Tryd.underlying55 hiL hiL0 hiL1 _ _ _ M rfl rfl rfl ?b2 ?b3 (by omega) ?_)
      case b2 => rw [hiL2]; omega
      case b3 => unfold maxLen; omega
      intro w2 hown2 hgr2
      have hst2 := hst1.above (k := 1) ((Below.refl _ W1).grown hgr2 (by omega) (fun k h => by cases h))
      clear hgr2 hst1 hs1
      go_wp2_with fail
      go_loopw [8, 9, 25] (fun t8 t9 t25 wr => ∃ (i least : Nat), i ≤ M ∧ t25 = .int .i64 (i : Int) ∧ t9 = .int .i64 (least : Int) ∧ least ≤ 256 ∧ wr.ownsRow (w.heap.size + 1) 110 2 t8 i (lackCells m i) ∧ AskSt w wr K N S T rb (.slice (some ⟨b, o, none⟩) n c) (1 + 2 * i) ∧ Hid (asksB K T m = asksFrom K T m (M - i) i least) ∧ Hid (1 + 2 * i ≤ n)) (fun _ _ t _ => M - (intOf t).toNat)
      case atStart => exact ⟨0, 0, by omega, rfl, rfl, by omega, hown2, hst2, HAB, by show _ ≤ _; omega⟩
      case round =>
        clear hown2 hst2
        obtain ⟨i, least, hi, rfl, rfl, hle, hown, hst, HF, HN⟩ := hrel
        obtain ⟨c0, c1, c2, c3⟩ := hst.cells
        have hlp := lt_of_block hst.plan
        by_cases hlt : i < M
        · have hlt' : (i : Int) < (M : Int) := by omega
          have hB2 : Bs wr b o m := fun i hi => by rw [World.cell?_of_block (hst.but.block b hbl hbr)]; exact hB i hi
          have hE2 := hst.errs hE hB0
          have hl2 := hst.low
          go_wp2_with fail
          refine (lack_any A B0 b o n c rb K N S T (1 + 2 * i) least m wr hE2 hB0 HCF.out hT hst.rdr HN.out hm hn hc hn2 hB2 hbr (by have := hst.but.size; omega)).mono ?_
          intro e w1 hL
          obtain ⟨hL1, hL2⟩ := hL
          have hFs : asksFrom K T m (M - i) i least = match lackB K T m (1 + 2 * i) least with | some e => some e | none => asksFrom K T m (M - (i + 1)) (i + 1) (bt m (1 + 2 * i) + 1) := by
            rw [show M - i = (M - (i + 1)) + 1 by omega]
            rfl
          cases hlk : lackB K T m (1 + 2 * i) least with
          | some ep =>
            obtain ⟨ec, ep⟩ := ep
            rw [hlk] at hL1 hFs
            obtain ⟨v, rfl, ⟨pb, rfl, hpb, hblk⟩⟩ := hL1
            have hbut : But (fun g => g = rb) w (w1.alloc (.cells #[.int .i64 0, .int .i64 0] 110)) := (hst.but.trans hL2).alloc _
            have hblk2 : (w1.alloc (.cells #[.int .i64 0, .int .i64 0] 110)).heap[pb]? = _ := (Below.heap_alloc w1 _ pb (lt_of_block hblk)).trans hblk
            have hsz := hst.but.size
            have HBAD : Hid (asksB K T m = some (ec, ep)) := by show _ = _; rw [HF.out, hFs]
            clear hFs hlk hL2 hblk hown
            go_wp2_with fail
            go_ret2
            exact AsksGives.bad HBAD.out ⟨pb, rfl, by omega, hblk2⟩ hbut
          | none =>
            rw [hlk] at hL1 hFs
            obtain ⟨rfl, hr1⟩ := hL1
            have hst1 := hst.next hL2 hr1
            have hown1 := own_of_block hown (fun g hg => hL2.block g (hown.lt g hg).2 (by have := (hown.lt g hg).1; omega))
            have hlk2 : 1 + 2 * i + 2 ≤ n := by
              unfold lackB at hlk
              rw [hm] at hlk
              by_cases h1 : n < 1 + 2 * i + 1
              · rw [if_pos h1] at hlk; cases hlk
              · rw [if_neg h1] at hlk
                split at hlk
                · cases hlk
                · by_cases h2 : n < 1 + 2 * i + 2
                  · rw [if_pos h2] at hlk; cases hlk
                  · omega
            have hx := HMO.out (1 + 2 * i)
            have hy := HMO.out (1 + 2 * i + 1)
            have HF2 : Hid (asksB K T m = asksFrom K T m (M - (i + 1)) (i + 1) (bt m (1 + 2 * i) + 1)) := by show _ = _; rw [HF.out, hFs]
            have HLC : Hid (lackCells m (i + 1) = lackCells m i ++ [.int .i64 (bt m (1 + 2 * i) : Int), .int .i64 (bt m (1 + 2 * i + 1) : Int)]) := rfl
            have hl1 := lt_of_block hst1.plan
            obtain ⟨x, hxe⟩ : ∃ x, x = bt m (1 + 2 * i) := ⟨_, rfl⟩
            obtain ⟨y, hye⟩ : ∃ y, y = bt m (1 + 2 * i + 1) := ⟨_, rfl⟩
            rw [← hxe, ← hye] at HLC
            rw [← hxe] at HF2 hx
            rw [← hye] at hy
            rw [← hxe, ← hye]
            clear hFs hlk hL2 hr1 hst hown c0 c1 c2 c3 hxe hye
            go_wp2_with (at_builtin; refine wpList_append_lies _ rfl _ _ _ rfl (w.heap.size + 1) 110 iL (.agg #[.int .i64 0, .int .i64 0]) 2 16 Tryd.underlying55 hiL hiL0 hiL1 hiL2 rfl (by omega) u8 i (lackCells m i) rfl ((hown1.alloc _).alloc _) ⟨w1.heap.size + 1, 0, none⟩ 1 1 [.int .i64 (x : Int), .int .i64 (y : Int)] rfl rfl ?c1 ?c2 (by omega) ?c3 (by omega) ?c4 (w1.heap.size + 2) ?c5 ?_)
            case c1 => exact cell_two_at (w1.alloc _) _ _ _ _ (by simp)
            case c2 => intro u hu; simp at hu; rcases hu with rfl | rfl <;> rfl
            case c3 => unfold maxLen; omega
            case c4 => simp; omega
            case c5 => simp
            intro g6 cap6 w6 hown6 hgr6 hlie6 hlt6
            have hb6 : Below (w.heap.size + 1) w1 w6 := (((Below.refl _ w1).alloc (by omega) _).alloc (by simp; omega) _).grown hgr6 (by simp; omega) (fun t ht => (own_lt hown1 ht).1)
            have hst6 := hst1.above hb6
            have hcx : w6.cell? ⟨w1.heap.size, 0, none⟩ = some (.int .i64 (x : Int)) := by
              have h1 : w6.heap[w1.heap.size]? = some (.cells #[.int .i64 (x : Int), .int .i64 (y : Int)] 110 (0, 0)) := by
                rw [grown_block hgr6 (by simp; omega) (fun p => by have := (hown1.lt _ p).2; omega), Below.heap_alloc _ _ _ (by simp)]
                exact heap_alloc_new w1 _
              exact cell_of_row w6 _ 0 _ _ _ h1
            rw [← HLC.out] at hown6
            clear hgr6 hlie6 hb6 hst1 hown1
            go_wp2_with fail
            go_roundw
            case rel => exact ⟨i + 1, x + 1, by omega, by go_num, by go_num, by omega, hown6, hst6, HF2, by show _ ≤ _; omega⟩
            case measure => simp [intOf]; omega
        · obtain rfl : i = M := by omega
          have hii : ¬ (i : Int) < (i : Int) := by omega
          have hE2 := hst.errs hE hB0
          have l2 : wr.cell? ⟨6, 0, none⟩ = some (.iface 164 (.pointer (some (A 6)))) := hE2.cell 6 (by omega)
          have HF2 : Hid (asksB K T m = if 1 + 2 * i < n then some (7, 1 + 2 * i) else none) := by show _ = _; rw [HF.out, Nat.sub_self, ← hm]; rfl
          obtain ⟨a8, c8, rfl, _⟩ := own_form2 hown
          by_cases hq1 : 1 + 2 * i < n
          · go_wp2_with fail
            refine (end_long A B0 rb b o n c (1 + 2 * i) _ hE2 hst.rdr hq1 hn hc hn2).mono ?_
            rintro e Y2 ⟨v, rfl, ⟨pb, rfl, hpb, hblk⟩, hy2⟩
            have hst9 := hst.grow hy2
            go_wp2_with fail
            go_ret2
            exact AsksGives.bad (c := 7) (p := 1 + 2 * i) (by rw [HF2.out, if_pos hq1]) ⟨pb, rfl, by have := hst.but.size; omega, hblk⟩ hst9.but
          · obtain rfl : n = 1 + 2 * i := by have := HN.out; omega
            go_wp2_with fail
            refine (end_ok A B0 (some ⟨b, o, none⟩) rb (1 + 2 * i) c _ hE2 hst.rdr hn2).mono ?_
            rintro e Y2 ⟨rfl, hy2⟩
            have hst9 := hst.grow hy2
            have hown9 := own_of_block hown (fun g hg => hy2.block g (hown.lt g hg).2)
            go_wp2_with fail
            go_ret2
            refine ⟨?_, hst9.but⟩
            rw [HF2.out, if_neg hq1]
            rw [HM.out] at hown9 ⊢
            exact ⟨a8, c8, rfl, own_base2 hown9 (by omega)⟩

end Go.Proofs.YtjabhnhejbhgjaaDoor

/- Package wire: behind. -/
namespace Go.Proofs.YtjabhnhejbhgjaaDoor
open Go.RowKit

theorem ErrType.below {w w' : World} {B : Nat} (h : ErrType w) (hb : Below B w w') (hB : 8 < B) : ErrType w' := by
  unfold ErrType
  rw [hb.cell (p := ⟨8, 0, none⟩) hB]; exact h

set_option maxRecDepth 100000 in
set_option maxHeartbeats 2000000 in
theorem behind_any (pb z : Nat) (u : TypeId) (x : Value) (w : World) (hz : z ≤ 140737488355328) (hblk : w.heap[pb]? = some (.cells #[.int .i64 (z : Int), .iface u x] 28 (0, 0))) (hET : ErrType w) (hgl : 8 < w.heap.size) :
    Calls Tryd.prog 58 #[.int .i64 4, .iface 26 (.pointer (some ⟨pb, 0, none⟩))] w fun e w' => ∃ v, e = .returned v ∧ Wr w w' v ((z + 4 : Nat) : Int) (.iface u x) ∧ Below w.heap.size w w' := by
  have hpl := lt_of_block hblk
  have hb0 : Below w.heap.size w (w.alloc (.cells #[.pointer none] 26)) := (Below.refl _ _).alloc (Nat.le_refl _) _
  have hET1 : ErrType (w.alloc (.cells #[.pointer none] 26)) := hET.below hb0 hgl
  have ht0 : (w.alloc (.cells #[.pointer none] 26)).cell? ⟨w.heap.size, 0, none⟩ = some (.pointer none) := cell_of_row _ _ 0 _ _ _ (heap_alloc_new w _)
  have hf0 : (w.alloc (.cells #[.pointer none] 26)).frozen? ⟨w.heap.size, 0, none⟩ = false := frozen_of_row _ _ 0 _ _ (heap_alloc_new w _)
  have hsz : (w.alloc (.cells #[.pointer none] 26)).heap.size = w.heap.size + 1 := by simp
  have hnew := heap_alloc_new w (.cells #[.pointer none] 26)
  go_enter Tryd.func58, Tryd.ntmps58
  go_upto_region 2 with fail
  generalize w.alloc (.cells #[.pointer none] 26) = W at *
  go_wp2_with fail
  refine (as_bad ⟨pb, 0, none⟩ ⟨w.heap.size, 0, none⟩ _ W hET1 ht0 hf0 (by show w.heap.size < _; omega) (by omega)).mono ?_
  rintro e W1 ⟨rfl, hW1⟩
  obtain ⟨V, rfl, hV⟩ : ∃ V, W1 = V.setCell ⟨w.heap.size, 0, none⟩ (.pointer (some ⟨pb, 0, none⟩)) ∧ Below W.heap.size W V := ⟨_, hW1, ((((Below.refl _ W).alloc (Nat.le_refl _) _).alloc (by simp) _).alloc (by simp; omega) _).alloc (by simp; omega) _⟩
  have hVn : V.heap[w.heap.size]? = some (.cells #[.pointer none] 26 (0, 0)) := by rw [hV.block _ (by omega)]; exact hnew
  have hl1 : Below w.heap.size w (V.setCell ⟨w.heap.size, 0, none⟩ (.pointer (some ⟨pb, 0, none⟩))) := (hb0.trans (hV.mono (by omega))).setCell (p := ⟨w.heap.size, 0, none⟩) (Nat.le_refl _) _
  have hc1 : (V.setCell ⟨w.heap.size, 0, none⟩ (.pointer (some ⟨pb, 0, none⟩))).cell? ⟨w.heap.size, 0, none⟩ = some (.pointer (some ⟨pb, 0, none⟩)) := cell_of_row _ _ 0 #[.pointer (some ⟨pb, 0, none⟩)] _ _ (heap_setCell_same V w.heap.size 0 _ _ _ hVn)
  generalize V.setCell ⟨w.heap.size, 0, none⟩ (.pointer (some ⟨pb, 0, none⟩)) = W1 at *
  clear hV hVn
  have hblk1 : W1.heap[pb]? = some (.cells #[.int .i64 (z : Int), .iface u x] 28 (0, 0)) := by rw [hl1.block _ hpl]; exact hblk
  have d0 : W1.cell? ⟨pb, 0, none⟩ = some (.int .i64 (z : Int)) := cell_of_row W1 _ 0 _ _ _ hblk1
  have d1 : W1.cell? ⟨pb, 1, none⟩ = some (.iface u x) := cell_of_row W1 _ 1 _ _ _ hblk1
  have HL1 : Hid (Below w.heap.size w W1) := hl1
  clear hW1 hl1 hET1 ht0 hf0 hb0 hET hnew hblk hblk1
  have hwz : IntKind.i64.wrap (4 + (z : Int)) = ((z + 4 : Nat) : Int) := by rw [IntKind.wrap_i64]; omega
  go_upto_region 3 with fail
  go_region_with (go_at_call 82; refine (wrong_any _ _ _ _).mono ?_; rintro e w' ⟨rfl, rfl⟩)
  all_goals go_wp2_with fail
  all_goals go_ret
  all_goals
    have hs1 := HL1.out.size
    exact ⟨_, rfl, ⟨W1.heap.size, rfl, hs1, by rw [show ((z + 4 : Nat) : Int) = (z : Int) + 4 by omega]; exact heap_alloc_new W1 _⟩, (HL1.out.alloc hs1 _).drew⟩

end Go.Proofs.YtjabhnhejbhgjaaDoor
