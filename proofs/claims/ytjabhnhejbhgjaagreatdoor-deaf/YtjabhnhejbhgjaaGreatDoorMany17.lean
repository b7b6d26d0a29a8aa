import Derived.Test.YtjabhnhejbhgjaaGreatDoorNetMove
import Derived.Test.YtjabhnhejbhgjaaGreatDoorNetMoveH
import Derived.Test.YtjabhnhejbhgjaaGreatDoorNetMoveL
import Derived.Deep.RegionLaw
import Derived.Lib.SlBytesConst
/- The net: a move, whichever. -/
namespace Go.Proofs.YtjabhnhejbhgjaaGreatDoor
open Go.RowKit

theorem move_any {A : Nat → Addr} {B0 B nb : Nat} {own : Nat → Nat} {w : World} {st : Nt} {kd nn rr : Int} {s : ByteArray} (h : NI A B0 B own w nb st) (g : NG st) (ho : st.Open) (hlen : 0 < st.rs.length) (hk : In64 kd) (hn : In64 nn) (hr : In64 rr) :
    Calls Tryz.prog 14 #[.pointer (some ⟨nb, 0, none⟩), .agg #[.int .i64 kd, .int .i64 nn, .int .i64 rr, .string s]] w fun e w' => e = .returned (.bool true) ∧ NetTo A B0 B own w nb w' (MoveNet st) := by
  obtain ⟨kk, hkk, hkk2⟩ := pickN (c := kd) (n := 10) (by omega)
  have hc : kk = 0 ∨ kk = 1 ∨ kk = 2 ∨ kk = 3 ∨ kk = 4 ∨ kk = 5 ∨ kk = 6 ∨ kk = 7 ∨ kk = 8 ∨ kk = 9 := by omega
  rcases hc with e | e | e | e | e | e | e | e | e | e
  · exact move_enq h g ho hlen hk hn hr hkk e
  · exact move_next1 h g ho hlen hk hn hr hkk e
  · exact move_next2 h g ho hlen hk hn hr hkk e
  · exact move_next3 h g ho hlen hk hn hr hkk e
  · exact move_hear4 h g ho hlen hk hn hr hkk e
  · exact move_hear5 h g ho hlen hk hn hr hkk e
  · exact move_hear6 h g ho hlen hk hn hr hkk e
  · exact move_lose h g ho hlen hk hn hr hkk e
  · exact move_ask h g ho hlen hk hn hr hkk e
  · exact move_none h g ho hlen hk hn hr hkk e

end Go.Proofs.YtjabhnhejbhgjaaGreatDoor

/- The net: begin. -/
namespace Go.Proofs.YtjabhnhejbhgjaaGreatDoor
open Go.RowKit

section
variable {A : Nat → Addr} {B0 B : Nat} {own : Nat → Nat} {w w' : World} {nb : Nat} {st : Nt}

theorem NI.keepTo (h : NI A B0 B own w nb st) {S P : Nat → Prop} {own' : Nat → Nat} (ho : ∀ b, b < w.heap.size → own' b = own b) (hbu : But S w w') (hS : ∀ b, b < w.heap.size → S b → P (own b)) (h1 : ¬ P 1) : NK A B0 B own own' w w' nb st P := by
  have hn : ∀ b j, b < w.heap.size → own b = j → ¬ P j → ¬ S b := fun b j hb e hp q => hp (e ▸ hS b hb q)
  have hne1 : ∀ b, b < w.heap.size → S b → own b ≠ 1 := fun b hb q e => h1 (e ▸ hS b hb q)
  have hfr : Fr own w own' w' := ⟨hbu.os, hbu.tape, hbu.output, hbu.size, fun b hlt h1 => ⟨by rw [ho b hlt]; exact h1, hbu.block b hlt (fun q => hne1 b hlt q h1)⟩⟩
  have hlo : Below B w w' := hbu.toBelow h.leB (fun b hb q => hne1 b (Nat.lt_of_lt_of_le hb h.leB) q (h.oF b hb))
  have hrl : ∀ i b, i < st.rs.length → (rcat st.rs i).2.foot (rcat st.rs i).1 b → b < w.heap.size := fun i b hi q => ((h.rcv i hi).foot_lt q).2
  have htl : ∀ i, i < st.tks.length → (tkat st.tks i).1 < w.heap.size := fun i hi => lt_of_block (h.tblk i hi).1
  refine ⟨hfr, h.errs.below (hlo.mono h.low), h.typ.below hlo h.typLow, fun hp => hbu.block nb h.ltN (hn nb 0 h.ltN h.oN hp),
    fun hp => hbu.own h.rown (fun g hg => hn g 3 (h.rown.lt g hg).2 (h.oR g hg) hp), fun hp => hbu.own h.oown (fun g hg => hn g 4 (h.oown.lt g hg).2 (h.oO g hg) hp), fun hp => hbu.own h.aown (fun g hg => hn g 5 (h.aown.lt g hg).2 (h.oA g hg) hp), fun hp => hbu.own h.town (fun g hg => hn g 6 (h.town.lt g hg).2 (h.oT g hg) hp),
    fun i hi hp => ⟨(hbu.block _ (htl i hi) (hn _ _ (htl i hi) (h.oTb i hi) hp)).trans (h.tblk i hi).1, (h.tblk i hi).2⟩,
    fun hp => h.snd.kept (fun b q => hbu.block b (h.snd.foot_lt q).2 (hn b 2 (h.snd.foot_lt q).2 (h.oS b q) hp)),
    fun i hi hp => (h.rcv i hi).kept (fun b q => hbu.block b (hrl i b hi q) (hn b _ (hrl i b hi q) (h.oRc i b hi q) hp)),
    fun x hx => (h.obsAt x hx).fr hfr, fun x hx => (h.airAt x hx).fr hfr,
    fun b hb => by rw [ho _ (Nat.lt_of_lt_of_le hb h.leB)]; exact h.oF b hb, by rw [ho _ h.ltN]; exact h.oN, fun b hg => by rw [ho _ (h.rown.lt b hg).2]; exact h.oR b hg, fun b hg => by rw [ho _ (h.oown.lt b hg).2]; exact h.oO b hg, fun b hg => by rw [ho _ (h.aown.lt b hg).2]; exact h.oA b hg, fun b hg => by rw [ho _ (h.town.lt b hg).2]; exact h.oT b hg,
    fun i hi => by rw [ho _ (htl i hi)]; exact h.oTb i hi, fun b q => by rw [ho _ (h.snd.foot_lt q).2]; exact h.oS b q, fun i b hi q => by rw [ho _ (hrl i b hi q)]; exact h.oRc i b hi q⟩

/-- A receiver more. -/
theorem NI.pushR (h : NI A B0 B own w nb st) {rb tb : Nat} {r0 : Rcv} {vr' vt' : Value} {l0 : List Bool} (hbu : But (fun b => b = nb ∨ st.vr.ownBlock = some b ∨ st.vt.ownBlock = some b) w w')
    (hblk : w'.heap[nb]? = some (.cells #[.int .i64 (st.K : Int), .int .i64 (st.N : Int), .int .i64 (st.S : Int), .pointer (some ⟨st.sb, 0, none⟩), vr', st.vo, st.va, vt'] 43 (0, 0)))
    (hro : w'.ownsRow B 47 1 vr' (st.rs.length + 1) (rcVals (st.rs ++ [(rb, r0)]))) (hto : w'.ownsRow B 55 1 vt' (st.tks.length + 1) (tkVals (st.tks ++ [(tb, l0)])))
    (hR : RcAt w' B rb r0) (ok0 : r0.Ok) (hRn : ∀ b, r0.foot rb b → w.heap.size ≤ b) (hT : w'.heap[tb]? = some (.cells (boolCells l0) 4 (0, 0))) (hl0 : l0.length = 16) (htb : w.heap.size ≤ tb)
    (hg1 : ∀ b, vr'.ownBlock = some b → st.vr.ownBlock = some b ∨ w.heap.size ≤ b) (hg2 : ∀ b, vt'.ownBlock = some b → st.vt.ownBlock = some b ∨ w.heap.size ≤ b) (hnR : ∀ b, r0.foot rb b → vr'.ownBlock ≠ some b ∧ vt'.ownBlock ≠ some b ∧ b ≠ tb) :
    ∃ own', NI A B0 B own' w' nb { st with rs := st.rs ++ [(rb, r0)], vr := vr', tks := st.tks ++ [(tb, l0)], vt := vt' } ∧ Fr own w own' w' ∧ ∀ b, b < w.heap.size → own' b = own b := by
  have hvt : ∀ b, vr'.ownBlock = some b → vt'.ownBlock ≠ some b := own2_ne hro hto (by decide)
  have htr : vr'.ownBlock ≠ some tb := fun q => own_ne hro q hT (by decide) rfl
  have htt : vt'.ownBlock ≠ some tb := fun q => own_ne hto q hT (by decide) rfl
  let own' : Nat → Nat := fun b => if b < w.heap.size then own b else if vr'.ownBlock = some b then 3 else if vt'.ownBlock = some b then 6 else if b = tb then 10 + 2 * st.rs.length else 11 + 2 * st.rs.length
  have ho : ∀ b, b < w.heap.size → own' b = own b := fun b hb => if_pos hb
  have hk := h.keepTo (P := fun k => k = 0 ∨ k = 3 ∨ k = 6) ho hbu (fun b _ q => by
    rcases q with rfl | q | q
    · exact .inl h.oN
    · exact .inr (.inl (h.oR b q))
    · exact .inr (.inr (h.oT b q))) (by omega)
  have hla : ∀ i, i < st.rs.length → rcat (st.rs ++ [(rb, r0)]) i = rcat st.rs i := fun i hi => by simp [rcat, List.getD, List.getElem?_append_left hi]
  have hlb : rcat (st.rs ++ [(rb, r0)]) st.rs.length = (rb, r0) := by simp [rcat, List.getD]
  have hta : ∀ i, i < st.tks.length → tkat (st.tks ++ [(tb, l0)]) i = tkat st.tks i := fun i hi => by simp [tkat, List.getD, List.getElem?_append_left hi]
  have htc : tkat (st.tks ++ [(tb, l0)]) st.tks.length = (tb, l0) := by simp [tkat, List.getD]
  have hrl : (st.rs ++ [(rb, r0)]).length = st.rs.length + 1 := by simp
  have htl : (st.tks ++ [(tb, l0)]).length = st.tks.length + 1 := by simp
  have hlens := h.lens
  refine ⟨own', ⟨hk.errs, hk.typ, h.typLow, h.low, h.lowN, hblk, ?_, hk.oown (by omega), hk.aown (by omega), ?_, fun i hi => ?_, ?_, hk.snd (by omega), h.sok, fun i hi => ?_, fun i hi => ?_, hk.obsAt, hk.airAt, hk.oF, hk.oN, fun b q => ?_, hk.oO, hk.oA, fun b q => ?_, fun i hi => ?_, hk.oS, fun i b hi q => ?_⟩, hk.fr, ho⟩
  · show w'.ownsRow B _ 1 vr' (st.rs ++ [(rb, r0)]).length _
    rw [hrl]; exact hro
  · show w'.ownsRow B _ 1 vt' (st.tks ++ [(tb, l0)]).length _
    rw [htl]; exact hto
  · change i < (st.tks ++ [(tb, l0)]).length at hi
    rw [htl] at hi
    show w'.heap[(tkat (st.tks ++ [(tb, l0)]) i).1]? = some (.cells (boolCells (tkat (st.tks ++ [(tb, l0)]) i).2) _ _) ∧ (tkat (st.tks ++ [(tb, l0)]) i).2.length = 16
    by_cases e : i < st.tks.length
    · rw [hta i e]; exact hk.tblk i e (by omega)
    · obtain rfl : i = st.tks.length := by omega
      rw [htc]; exact ⟨hT, hl0⟩
  · show (st.tks ++ [(tb, l0)]).length = (st.rs ++ [(rb, r0)]).length
    rw [htl, hrl, hlens]
  · change i < (st.rs ++ [(rb, r0)]).length at hi
    rw [hrl] at hi
    show RcAt w' B (rcat (st.rs ++ [(rb, r0)]) i).1 (rcat (st.rs ++ [(rb, r0)]) i).2
    by_cases e : i < st.rs.length
    · rw [hla i e]; exact hk.rcv i e (by omega)
    · obtain rfl : i = st.rs.length := by omega
      rw [hlb]; exact hR
  · change i < (st.rs ++ [(rb, r0)]).length at hi
    rw [hrl] at hi
    show (rcat (st.rs ++ [(rb, r0)]) i).2.Ok
    by_cases e : i < st.rs.length
    · rw [hla i e]; exact h.rok i e
    · obtain rfl : i = st.rs.length := by omega
      rw [hlb]; exact ok0
  · rcases hg1 b q with z | z
    · exact hk.oR b z
    · show (if b < w.heap.size then own b else if vr'.ownBlock = some b then 3 else _) = 3
      rw [if_neg (by omega), if_pos q]
  · rcases hg2 b q with z | z
    · exact hk.oT b z
    · show (if b < w.heap.size then own b else if vr'.ownBlock = some b then 3 else if vt'.ownBlock = some b then 6 else _) = 6
      rw [if_neg (by omega), if_neg (fun y => hvt b y q), if_pos q]
  · change i < (st.tks ++ [(tb, l0)]).length at hi
    rw [htl] at hi
    show own' (tkat (st.tks ++ [(tb, l0)]) i).1 = 10 + 2 * i
    by_cases e : i < st.tks.length
    · rw [hta i e]; exact hk.oTb i e
    · obtain rfl : i = st.tks.length := by omega
      rw [htc]
      show (if tb < w.heap.size then own tb else if vr'.ownBlock = some tb then 3 else if vt'.ownBlock = some tb then 6 else if tb = tb then 10 + 2 * st.rs.length else _) = _
      rw [if_neg (by omega), if_neg htr, if_neg htt, if_pos rfl, hlens]
  · change i < (st.rs ++ [(rb, r0)]).length at hi
    rw [hrl] at hi
    change (rcat (st.rs ++ [(rb, r0)]) i).2.foot (rcat (st.rs ++ [(rb, r0)]) i).1 b at q
    by_cases e : i < st.rs.length
    · rw [hla i e] at q; exact hk.oRc i b e q
    · obtain rfl : i = st.rs.length := by omega
      rw [hlb] at q
      obtain ⟨q1, q2, q3⟩ := hnR b q
      have q4 := hRn b q
      show (if b < w.heap.size then own b else if vr'.ownBlock = some b then 3 else if vt'.ownBlock = some b then 6 else if b = tb then 10 + 2 * st.rs.length else 11 + 2 * st.rs.length) = _
      rw [if_neg (by omega), if_neg q1, if_neg q2, if_neg q3]

end

/-- A net without receivers. -/
def nt0 (K N S sb : Nat) : Nt := ⟨K, N, S, snd0 K N S, sb, [], .slice none 0 0, [], .slice none 0 0, [], .slice none 0 0, [], .slice none 0 0⟩
theorem nt0_ng (K N S sb : Nat) : NG (nt0 K N S sb) :=
  ⟨⟨rfl, rfl, rfl⟩, rfl, fun i hi => by simp [nt0, snd0] at hi, fun i q hi => by simp [nt0, snd0] at hi, fun i hi => by simp [nt0] at hi, fun i hi => by simp [nt0] at hi, fun i hi => by simp [nt0] at hi, fun x hx => by simp [nt0] at hx, by simp [nt0]⟩
theorem nt0_ni {A : Nat → Addr} {B0 : Nat} {w w' : World} {K N S sb nb : Nat} (hE : Errs A B0 w') (hT : ErrType w') (hTl : 8 < w.heap.size) (hB : B0 ≤ w.heap.size) (hc : Cfg K N S) (hS : SAt w' w.heap.size sb (snd0 K N S)) (hnb : w.heap.size ≤ nb)
    (hblk : w'.heap[nb]? = some (.cells #[.int .i64 (K : Int), .int .i64 (N : Int), .int .i64 (S : Int), .pointer (some ⟨sb, 0, none⟩), .slice none 0 0, .slice none 0 0, .slice none 0 0, .slice none 0 0] 43 (0, 0))) (hb : Below w.heap.size w w') :
    NI A B0 w.heap.size (fun b => if b = nb then 0 else if b = sb then 2 else 1) w' nb (nt0 K N S sb) ∧ Fr (fun _ => 1) w (fun b => if b = nb then 0 else if b = sb then 2 else 1) w' := by
  have hne : sb ≠ nb := fun q => by
    have := hS.blk
    rw [q, hblk] at this
    simp only [Option.some.injEq, Obj.cells.injEq] at this
    exact absurd this.2.1 (by decide)
  have hsl := hS.low
  refine ⟨⟨hE, hT, hTl, hB, hnb, hblk, World.ownsRow_nil .., World.ownsRow_nil .., World.ownsRow_nil .., World.ownsRow_nil .., fun i hi => by simp [nt0] at hi, rfl, hS, snd0_ok hc, fun i hi => by simp [nt0] at hi, fun i hi => by simp [nt0] at hi, fun x hx => by simp [nt0] at hx, fun x hx => by simp [nt0] at hx, fun b hb' => ?_, if_pos rfl, fun b q => by simp [nt0, Value.ownBlock] at q, fun b q => by simp [nt0, Value.ownBlock] at q, fun b q => by simp [nt0, Value.ownBlock] at q, fun b q => by simp [nt0, Value.ownBlock] at q, fun i hi => by simp [nt0] at hi, fun b q => ?_, fun i b hi => by simp [nt0] at hi⟩, ⟨hb.os, hb.tape, hb.output, hb.size, fun b hlt _ => ⟨?_, hb.block b hlt⟩⟩⟩
  · show (if b = nb then 0 else if b = sb then 2 else 1) = 1
    rw [if_neg (by omega), if_neg (by omega)]
  · show (if b = nb then 0 else if b = sb then 2 else 1) = 2
    rcases q with q | q | ⟨i, hi, _⟩
    · have q' : b = sb := q
      rw [if_neg (by rw [q']; exact hne), if_pos q']
    · simp [nt0, snd0, Value.ownBlock] at q
    · simp [nt0, snd0] at hi
  · show (if b = nb then 0 else if b = sb then 2 else 1) = 1
    rw [if_neg (by omega), if_neg (by omega)]

end Go.Proofs.YtjabhnhejbhgjaaGreatDoor

/- The net: begin. -/
namespace Go.Proofs.YtjabhnhejbhgjaaGreatDoor
open Go.RowKit

theorem Tryz.info_bool : (Tryz.prog.info? 4).map (fun i => (i.zero, i.size, i.bytes)) = some (some (.bool false), 1, 1) := by kernel_rfl
theorem Tryz.info_rptr : (Tryz.prog.info? 47).map (fun i => (i.zero, i.size, i.bytes)) = some (some (.pointer none), 1, 8) := by kernel_rfl
theorem Tryz.rptr_parts : ∃ i, Tryz.prog.info? 47 = some i ∧ i.zero = some (.pointer none) ∧ i.size = 1 ∧ i.bytes = 8 := by
  obtain ⟨i, hi, h⟩ := Option.map_eq_some_iff.1 Tryz.info_rptr
  simp only [Prod.mk.injEq] at h
  exact ⟨i, hi, h.1, h.2.1, h.2.2⟩
theorem Tryz.info_bools : (Tryz.prog.info? 55).map (fun i => (i.zero, i.size, i.bytes)) = some (some (.slice none 0 0), 1, 24) := by kernel_rfl
theorem Tryz.bools_parts : ∃ i, Tryz.prog.info? 55 = some i ∧ i.zero = some (.slice none 0 0) ∧ i.size = 1 ∧ i.bytes = 24 := by
  obtain ⟨i, hi, h⟩ := Option.map_eq_some_iff.1 Tryz.info_bools
  simp only [Prod.mk.injEq] at h
  exact ⟨i, hi, h.1, h.2.1, h.2.2⟩
theorem make_bools (W : World) : (Instr.makeSlice 55 (.int .i64 16) (.int .i64 16)).run Tryz.prog W = .ok (.slice (some ⟨W.heap.size, 0, none⟩) 16 16) (W.alloc (.cells (boolCells (List.replicate 16 false)) 4)) := by
  have h := run_make_row' (P := Tryz.prog) 55 4 (.bool false) 1 Tryz.underlying55 Tryz.info_bool rfl .i64 .i64 16 (by omega) (by omega) W
  rw [show madeCells #[Value.bool false] 16 = boolCells (List.replicate 16 false) by kernel_rfl] at h
  exact h

/-- A net as it begins. -/
structure BegunNet (K N S : Nat) (st : Nt) : Prop where
  cfg : st.K = K ∧ st.N = N ∧ st.S = S
  s : st.s = snd0 K N S
  obs : st.obs = []
  air : st.air = []
  rs : ∀ j, j < st.rs.length → ∃ d mb, (rcat st.rs j).2 = rcv0 K N S d mb

theorem cfgB_of {K N S : Nat} (h : Cfg K N S) : cfgB (K : Int) (N : Int) (S : Int) = true := by
  obtain ⟨k1, k8, kn, n16, s1, s8⟩ := h
  unfold cfgB
  rw [winB_yes (by omega) (by omega), winB_yes (by omega) (by omega), winB_yes (by omega) (by omega)]
  rfl

theorem BegunNet.push {K N S : Nat} {st : Nt} (h : BegunNet K N S st) {rb d mb tb : Nat} {vr vt : Value} {l0 : List Bool} : BegunNet K N S { st with rs := st.rs ++ [(rb, rcv0 K N S d mb)], vr := vr, tks := st.tks ++ [(tb, l0)], vt := vt } := by
  refine ⟨h.cfg, h.s, h.obs, h.air, fun j hj => ?_⟩
  change j < (st.rs ++ [(rb, rcv0 K N S d mb)]).length at hj
  show ∃ d' mb', (rcat (st.rs ++ [(rb, rcv0 K N S d mb)]) j).2 = _
  by_cases e : j < st.rs.length
  · rw [show rcat (st.rs ++ [(rb, rcv0 K N S d mb)]) j = rcat st.rs j by simp [rcat, List.getD, List.getElem?_append_left e]]
    exact h.rs j e
  · obtain rfl : j = st.rs.length := by simp at hj; omega
    exact ⟨d, mb, by simp [rcat, List.getD]⟩
theorem rcv0_gen {os : List Ob} {K N S d mb : Nat} : RGen os K N S (rcv0 K N S d mb) := by
  refine ⟨⟨rfl, rfl, rfl⟩, fun m kb k hm h => by simp [rcv0] at h, fun m hm => ?_⟩
  have e : (rcv0 K N S d mb).tk.getD m false = false := by
    show (List.replicate 16 false).getD m false = false
    rw [List.getD_eq_getElem?_getD, List.getElem?_replicate]
    split <;> rfl
  rw [e] at hm
  cases hm
theorem NG.push {K N S : Nat} {st : Nt} (g : NG st) (h : BegunNet K N S st) (hl : st.tks.length = st.rs.length) {rb d mb tb : Nat} {vr vt : Value} : NG { st with rs := st.rs ++ [(rb, rcv0 K N S d mb)], vr := vr, tks := st.tks ++ [(tb, List.replicate 16 false)], vt := vt } := by
  have hrl : (st.rs ++ [(rb, rcv0 K N S d mb)]).length = st.rs.length + 1 := by simp
  have hla : ∀ i, i < st.rs.length → rcat (st.rs ++ [(rb, rcv0 K N S d mb)]) i = rcat st.rs i := fun i hi => by simp [rcat, List.getD, List.getElem?_append_left hi]
  have hlb : rcat (st.rs ++ [(rb, rcv0 K N S d mb)]) st.rs.length = (rb, rcv0 K N S d mb) := by simp [rcat, List.getD]
  have hta : ∀ i, i < st.tks.length → tkat (st.tks ++ [(tb, List.replicate 16 false)]) i = tkat st.tks i := fun i hi => by simp only [tkat, List.getD, List.getElem?_append_left hi]
  have htc : tkat (st.tks ++ [(tb, List.replicate 16 false)]) st.tks.length = (tb, List.replicate 16 false) := by simp [tkat, List.getD]
  obtain ⟨c1, c2, c3⟩ := h.cfg
  refine ⟨g.cfg, g.olen, g.objs, g.owe, fun i hi => ?_, fun i hi => ?_, fun i hi => ?_, g.air, g.airn⟩
  · change i < (st.rs ++ [(rb, rcv0 K N S d mb)]).length at hi
    rw [hrl] at hi
    show RGen st.s.os st.K st.N st.S (rcat (st.rs ++ [(rb, rcv0 K N S d mb)]) i).2
    by_cases e : i < st.rs.length
    · rw [hla i e]; exact g.gen i e
    · obtain rfl : i = st.rs.length := by omega
      rw [hlb, c1, c2, c3]; exact rcv0_gen
  · change i < (st.rs ++ [(rb, rcv0 K N S d mb)]).length at hi
    rw [hrl] at hi
    show (rcat (st.rs ++ [(rb, rcv0 K N S d mb)]) i).2.un = []
    by_cases e : i < st.rs.length
    · rw [hla i e]; exact g.un i e
    · obtain rfl : i = st.rs.length := by omega
      rw [hlb]; rfl
  · change i < (st.rs ++ [(rb, rcv0 K N S d mb)]).length at hi
    rw [hrl] at hi
    show (tkat (st.tks ++ [(tb, List.replicate 16 false)]) i).2 = (rcat (st.rs ++ [(rb, rcv0 K N S d mb)]) i).2.tk
    by_cases e : i < st.rs.length
    · rw [hla i e, hta i (by omega)]; exact g.tk i e
    · obtain rfl : i = st.rs.length := by omega
      rw [hlb, ← hl, htc]; rfl

/-- In the middle of begin: the net, and the configuration's block. -/
def BegIn (A : Nat → Addr) (B0 : Nat) (w : World) (K N S nb cb i : Nat) (wr : World) : Prop :=
  ∃ own st, NI A B0 w.heap.size own wr nb st ∧ NG st ∧ Fr (fun _ => 1) w own wr ∧ BegunNet K N S st ∧ st.rs.length = i ∧ own cb = 1 ∧ wr.heap[cb]? = some (.cells #[.int .i64 (K : Int), .int .i64 (N : Int), .int .i64 (S : Int)] 30 (0, 0))

end Go.Proofs.YtjabhnhejbhgjaaGreatDoor

/- The net: begin, walked. -/
namespace Go.Proofs.YtjabhnhejbhgjaaGreatDoor
open Go.RowKit

theorem rcv0_foot {K N S d mb rb b : Nat} (h : (rcv0 K N S d mb).foot rb b) : b = rb ∨ b = d ∨ b = mb := by
  rcases h with h | h | h | h | ⟨u, hu, _⟩ | ⟨m, kb, k, hm, hk, _⟩
  · exact .inl h
  · exact .inr (.inl h)
  · exact .inr (.inr h)
  · simp [rcv0, Value.ownBlock] at h
  · simp [rcv0] at hu
  · simp [rcv0] at hk

theorem begin_push {A : Nat → Addr} {B0 K N S nb cb rb d mb tb : Nat} {w wr w2 w5 w9 : World} {own : Nat → Nat} {st : Nt} {vr' vt' : Value} (hc : Cfg K N S) (h : NI A B0 w.heap.size own wr nb st) (g : NG st) (hf : Fr (fun _ => 1) w own wr) (hbn : BegunNet K N S st) (hcb1 : own cb = 1) (hcb2 : wr.heap[cb]? = some (.cells #[.int .i64 (K : Int), .int .i64 (N : Int), .int .i64 (S : Int)] 30 (0, 0)))
    (hb2 : Below wr.heap.size wr w2) (hR2 : RcAt w2 wr.heap.size rb (rcv0 K N S d mb)) (hbu5 : But (fun b => b = nb ∨ st.vr.ownBlock = some b) w2 w5) (hro5 : w5.ownsRow w.heap.size 47 1 vr' (st.rs.length + 1) (rcVals st.rs ++ [.pointer (some ⟨rb, 0, none⟩)])) (hg5 : ∀ b, vr'.ownBlock = some b → st.vr.ownBlock = some b ∨ wr.heap.size ≤ b)
    (hbu9 : But (fun b => b = nb ∨ st.vt.ownBlock = some b) w5 w9) (hblk9 : w9.heap[nb]? = some (.cells #[.int .i64 (K : Int), .int .i64 (N : Int), .int .i64 (S : Int), .pointer (some ⟨st.sb, 0, none⟩), vr', st.vo, st.va, vt'] 43 (0, 0)))
    (hto9 : w9.ownsRow w.heap.size 55 1 vt' (st.tks.length + 1) (tkVals st.tks ++ [.slice (some ⟨tb, 0, none⟩) 16 16])) (hg9 : ∀ b, vt'.ownBlock = some b → st.vt.ownBlock = some b ∨ wr.heap.size ≤ b) (hT9 : w9.heap[tb]? = some (.cells (boolCells (List.replicate 16 false)) 4 (0, 0))) (htb : wr.heap.size ≤ tb) :
    BegIn A B0 w K N S nb cb (st.rs.length + 1) w9 := by
  obtain ⟨c1, c2, c3⟩ := hbn.cfg
  have hlt : ∀ b, st.vr.ownBlock = some b → b < wr.heap.size := fun b q => (h.rown.lt b q).2
  have hltT : ∀ b, st.vt.ownBlock = some b → b < wr.heap.size := fun b q => (h.town.lt b q).2
  have hs2 := hb2.size
  have hs5 := hbu5.size
  have hn := h.ltN
  have hbu : But (fun b => b = nb ∨ st.vr.ownBlock = some b ∨ st.vt.ownBlock = some b) wr w9 := by
    refine ⟨(hbu9.os.trans hbu5.os).trans hb2.os, (hbu9.tape.trans hbu5.tape).trans hb2.tape, (hbu9.output.trans hbu5.output).trans hb2.output, Nat.le_trans hs2 (Nat.le_trans hs5 hbu9.size), fun b hb hq => ?_⟩
    rw [hbu9.block b (by omega) (fun q => hq (q.elim .inl (fun z => .inr (.inr z)))), hbu5.block b (by omega) (fun q => hq (q.elim .inl (fun z => .inr (.inl z)))), hb2.block b hb]
  have hk : ∀ b, wr.heap.size ≤ b → b < w2.heap.size → w9.heap[b]? = w2.heap[b]? := fun b h1 h2 => by
    rw [hbu9.block b (by omega) (fun q => ?_), hbu5.block b h2 (fun q => ?_)]
    · rcases q with q | q
      · omega
      · have := hlt b q; omega
    · rcases q with q | q
      · omega
      · have := hltT b q; omega
  have hRl : ∀ b, (rcv0 K N S d mb).foot rb b → wr.heap.size ≤ b ∧ b < w2.heap.size := fun b q => hR2.foot_lt q
  have hR9 : RcAt w9 w.heap.size rb (rcv0 K N S d mb) := (hR2.kept (fun b q => hk b (hRl b q).1 (hRl b q).2)).lowerB h.leB
  have hro9 : w9.ownsRow w.heap.size 47 1 vr' (st.rs.length + 1) (rcVals (st.rs ++ [(rb, rcv0 K N S d mb)])) := by
    have e : rcVals (st.rs ++ [(rb, rcv0 K N S d mb)]) = rcVals st.rs ++ [.pointer (some ⟨rb, 0, none⟩)] := by simp [rcVals]
    rw [e]
    refine own_of_block hro5 (fun b q => hbu9.block b (hro5.lt b q).2 (fun z => ?_))
    rcases z with z | z
    · have h9 : w9.heap[nb]? = w9.heap[nb]? := rfl
      obtain ⟨cs, hcs⟩ := own_block hro5 q
      have hN5 : w5.heap[nb]? = some (.cells cs 47 (0, 0)) := by rw [← z]; exact hcs
      have := hbu9.size
      rcases hg5 b q with y | y
      · exact own_ne h.rown y h.blk (by decide) z
      · omega
    · rcases hg5 b q with y | y
      · exact own2_ne h.rown h.town (by decide) b y z
      · have := hltT b z; omega
  have hnR : ∀ b, (rcv0 K N S d mb).foot rb b → vr'.ownBlock ≠ some b ∧ vt'.ownBlock ≠ some b ∧ b ≠ tb := by
    intro b q
    refine ⟨fun z => ?_, fun z => ?_, fun z => ?_⟩
    · obtain ⟨cs, hcs⟩ := own_block hro9 z
      rcases rcv0_foot q with rfl | rfl | rfl
      · exact own_ne hro9 z hR9.blk (by decide) rfl
      · have := hR9.chan
        change w9.heap[b]? = _ at this
        rw [hcs] at this; cases this
      · obtain ⟨n, D, ⟨es, ck, hm, _⟩, _⟩ := hR9.map
        change w9.heap[b]? = _ at hm
        rw [hcs] at hm; cases hm
    · obtain ⟨cs, hcs⟩ := own_block hto9 z
      rcases rcv0_foot q with rfl | rfl | rfl
      · exact own_ne hto9 z hR9.blk (by decide) rfl
      · have := hR9.chan
        change w9.heap[b]? = _ at this
        rw [hcs] at this; cases this
      · obtain ⟨n, D, ⟨es, ck, hm, _⟩, _⟩ := hR9.map
        change w9.heap[b]? = _ at hm
        rw [hcs] at hm; cases hm
    · rw [← z] at hT9
      rcases rcv0_foot q with rfl | rfl | rfl
      · have := hR9.blk
        rw [hT9] at this
        simp only [Option.some.injEq, Obj.cells.injEq] at this
        exact absurd this.2.1 (by decide)
      · have := hR9.chan
        change w9.heap[b]? = _ at this
        rw [hT9] at this; cases this
      · obtain ⟨n, D, ⟨es, ck, hm, _⟩, _⟩ := hR9.map
        change w9.heap[b]? = _ at hm
        rw [hT9] at hm; cases hm
  obtain ⟨own', h9, hf9, ho9⟩ := h.pushR (rb := rb) (tb := tb) (r0 := rcv0 K N S d mb) (l0 := List.replicate 16 false) hbu (by rw [c1, c2, c3]; exact hblk9) hro9 (by
    have e : tkVals (st.tks ++ [(tb, List.replicate 16 false)]) = tkVals st.tks ++ [.slice (some ⟨tb, 0, none⟩) 16 16] := by simp [tkVals]
    rw [e]
    exact hto9) hR9 (rcv0_ok hc) (fun b q => (hRl b q).1) hT9 (by simp) htb hg5 hg9 hnR
  refine ⟨own', _, h9, g.push hbn h.lens, hf.trans hf9, hbn.push, by simp, ?_, ?_⟩
  · rw [ho9 cb (lt_of_block hcb2)]; exact hcb1
  · rw [(hf9.keep cb (lt_of_block hcb2) hcb1).2]; exact hcb2

set_option maxRecDepth 100000 in
set_option maxHeartbeats 4000000 in
theorem begin_any {A : Nat → Addr} {B0 K N S : Nat} {many : Int} {w : World} (hc : Cfg K N S) (hm : In64 many) (hE : Errs A B0 w) (hT : ErrType w) (hTl : 8 < w.heap.size) :
    Calls Tryz.prog 11 #[.agg #[.int .i64 (K : Int), .int .i64 (N : Int), .int .i64 (S : Int)], .int .i64 many] w fun e w' => ∃ nb cb i : Nat, e = .returned (.tuple #[.pointer (some ⟨nb, 0, none⟩), .bool true]) ∧ (i : Int) = 1 + pickI many 3 ∧ BegIn A B0 w K N S nb cb i w' := by
  have hcb := cfgB_of hc
  obtain ⟨pk, hpk, hpk2⟩ := pickN (c := many) (n := 3) (by omega)
  have HPK : Hid (∀ W, Calls Tryz.prog 33 #[.int .i64 many, .int .i64 3] W fun e w' => e = .returned (.int .i64 (pk : Int)) ∧ w' = W) := fun W => by rw [← hpk]; exact keepPick_any many 3 W (by omega) hm.1 hm.2
  have HPE : Hid (pickI many 3 = (pk : Int)) := hpk
  have HX := heap_alloc_new w (.cells #[.int .i64 (K : Int), .int .i64 (N : Int), .int .i64 (S : Int)] 30)
  have hbX := (Below.refl w.heap.size w).alloc (Nat.le_refl _) (.cells #[.int .i64 (K : Int), .int .i64 (N : Int), .int .i64 (S : Int)] 30)
  have HC : Hid (Cfg K N S) := hc
  have HCB : Hid (cfgB (K : Int) (N : Int) (S : Int) = true) := hcb
  obtain ⟨iR, hiR, hiR0, hiR1, hiR2⟩ := Tryz.rptr_parts
  obtain ⟨iT, hiT, hiT0, hiT1, hiT2⟩ := Tryz.bools_parts
  clear hc hm hpk hcb
  go_enter Tryz.func11, Tryz.ntmps11
  go_upto_region 1 with fail
  generalize w.alloc (.cells #[.int .i64 (K : Int), .int .i64 (N : Int), .int .i64 (S : Int)] 30) = W0 at *
  have HAW := awake_any W0
  go_wp2_with fail
  refine HAW.mono ?_
  rintro e W1 ⟨rfl, hb1⟩
  have HX1 := (hb1.block _ (lt_of_block HX)).trans HX
  have hb01 := hbX.trans (hb1.mono hbX.size)
  clear HAW HX hbX hb1
  have x0 : W1.cell? ⟨w.heap.size, 0, none⟩ = some (.int .i64 (K : Int)) := cell_of_row W1 _ 0 _ _ _ HX1
  have x1 : W1.cell? ⟨w.heap.size, 1, none⟩ = some (.int .i64 (N : Int)) := cell_of_row W1 _ 1 _ _ _ HX1
  have x2 : W1.cell? ⟨w.heap.size, 2, none⟩ = some (.int .i64 (S : Int)) := cell_of_row W1 _ 2 _ _ _ HX1
  have HNS := newSender_ok K N S HCB.out W1
  go_wp2_with fail
  refine HNS.mono ?_
  rintro e W2 ⟨sb, rfl, hS2, hb2⟩
  have HX2 := (hb2.block _ (lt_of_block HX1)).trans HX1
  have hb02 := hb01.trans (hb2.mono hb01.size)
  clear HNS x0 x1 x2
  have x0 : W2.cell? ⟨w.heap.size, 0, none⟩ = some (.int .i64 (K : Int)) := cell_of_row W2 _ 0 _ _ _ HX2
  have x1 : W2.cell? ⟨w.heap.size, 1, none⟩ = some (.int .i64 (N : Int)) := cell_of_row W2 _ 1 _ _ _ HX2
  have x2 : W2.cell? ⟨w.heap.size, 2, none⟩ = some (.int .i64 (S : Int)) := cell_of_row W2 _ 2 _ _ _ HX2
  have HS2 : Hid _ := hS2
  have HB2 : Hid _ := hb2
  go_upto_region 6 with fail
  have hN3 := heap_alloc_new W2 (.cells #[.int .i64 (K : Int), .int .i64 (N : Int), .int .i64 (S : Int), .pointer (some ⟨sb, 0, none⟩), .slice none 0 0, .slice none 0 0, .slice none 0 0, .slice none 0 0] 43)
  have hb3 := (Below.refl W2.heap.size W2).alloc (Nat.le_refl _) (.cells #[.int .i64 (K : Int), .int .i64 (N : Int), .int .i64 (S : Int), .pointer (some ⟨sb, 0, none⟩), .slice none 0 0, .slice none 0 0, .slice none 0 0, .slice none 0 0] 43)
  generalize W2.alloc (.cells #[.int .i64 (K : Int), .int .i64 (N : Int), .int .i64 (S : Int), .pointer (some ⟨sb, 0, none⟩), .slice none 0 0, .slice none 0 0, .slice none 0 0, .slice none 0 0] 43) = W3 at *
  have hbw3 := hb02.trans (hb3.mono hb02.size)
  obtain ⟨nb, hnb⟩ : ∃ x, x = W2.heap.size := ⟨_, rfl⟩
  rw [← hnb] at hN3 ⊢
  obtain ⟨cb, hcb⟩ : ∃ x, x = w.heap.size := ⟨_, rfl⟩
  rw [← hcb] at HX2 ⊢
  have HI : Hid (BegIn A B0 w K N S nb cb 0 W3) := by
    obtain ⟨h1, hf1⟩ := nt0_ni (w := w) (w' := W3) (hE.below (hbw3.mono hE.size)) (hT.below hbw3 hTl) hTl hE.size HC.out ((HS2.out.above hb3).lowerB hb01.size) (by rw [hnb]; exact hb02.size) hN3 hbw3
    refine ⟨_, _, h1, nt0_ng K N S sb, hf1, ⟨⟨rfl, rfl, rfl⟩, rfl, rfl, rfl, fun j hj => by simp [nt0] at hj⟩, rfl, ?_, (hb3.block cb (lt_of_block HX2)).trans HX2⟩
    have q1 := lt_of_block HX2
    have q2 := HS2.out.low
    have q3 := lt_of_block HX1
    show (if cb = nb then 0 else if cb = sb then 2 else 1) = 1
    rw [if_neg (by omega), if_neg (by omega)]
  have HBL : Hid (B0 ≤ w.heap.size) := hE.size
  clear hN3 hb3 hbw3 hnb hcb HX2 HX1 x0 x1 x2 hb01 hb02 hb2 hS2 HS2 HB2 hE hT hTl
  go_wp2_with fail
  go_loopw [10, 11, 12] (fun t _ _ wr => ∃ i : Nat, i ≤ pk + 1 ∧ t = .int .i64 (i : Int) ∧ Hid (BegIn A B0 w K N S nb cb i wr)) (fun t _ _ _ => pk + 1 - (intOf t).toNat)
  case atStart => exact ⟨0, by omega, rfl, HI⟩
  case round =>
    obtain ⟨i, hi, rfl, HJ⟩ := hrel
    by_cases hlt : i ≤ pk
    · have hlt1 : (i : Int) ≤ (pk : Int) := by omega
      obtain ⟨own1, st, h1, g1, hf1, hbn, hri, hcb1, hcb2⟩ := HJ.out
      have x0 : wr.cell? ⟨cb, 0, none⟩ = some (.int .i64 (K : Int)) := cell_of_row wr _ 0 _ _ _ hcb2
      have x1 : wr.cell? ⟨cb, 1, none⟩ = some (.int .i64 (N : Int)) := cell_of_row wr _ 1 _ _ _ hcb2
      have x2 : wr.cell? ⟨cb, 2, none⟩ = some (.int .i64 (S : Int)) := cell_of_row wr _ 2 _ _ _ hcb2
      have HNR := newReceiver_ok K N S HCB.out wr
      have HH1 : Hid (NI A B0 w.heap.size own1 wr nb st) := h1
      have HPU : Hid (∀ (w2 w5 w9 : World) (rb d mb tb : Nat) (vr' vt' : Value), Below wr.heap.size wr w2 → RcAt w2 wr.heap.size rb (rcv0 K N S d mb) → But (fun b => b = nb ∨ st.vr.ownBlock = some b) w2 w5 → w5.ownsRow w.heap.size 47 1 vr' (st.rs.length + 1) (rcVals st.rs ++ [.pointer (some ⟨rb, 0, none⟩)]) → (∀ b, vr'.ownBlock = some b → st.vr.ownBlock = some b ∨ wr.heap.size ≤ b) → But (fun b => b = nb ∨ st.vt.ownBlock = some b) w5 w9 → w9.heap[nb]? = some (.cells #[.int .i64 (K : Int), .int .i64 (N : Int), .int .i64 (S : Int), .pointer (some ⟨st.sb, 0, none⟩), vr', st.vo, st.va, vt'] 43 (0, 0)) → w9.ownsRow w.heap.size 55 1 vt' (st.tks.length + 1) (tkVals st.tks ++ [.slice (some ⟨tb, 0, none⟩) 16 16]) → (∀ b, vt'.ownBlock = some b → st.vt.ownBlock = some b ∨ wr.heap.size ≤ b) → w9.heap[tb]? = some (.cells (boolCells (List.replicate 16 false)) 4 (0, 0)) → wr.heap.size ≤ tb → BegIn A B0 w K N S nb cb (i + 1) w9) := by
        intro w2 w5 w9 rb d mb tb vr' vt' q1 q2 q3 q4 q5 q6 q7 q8 q9 q10 q11
        rw [← hri]
        exact begin_push HC.out h1 g1 hf1 hbn hcb1 hcb2 q1 q2 q3 q4 q5 q6 q7 q8 q9 q10 q11
      have hblk := h1.blk
      rw [hbn.cfg.1, hbn.cfg.2.1, hbn.cfg.2.2] at hblk
      have HBK : Hid (wr.heap[nb]? = _) := hblk
      obtain ⟨ra, rc, hrv, _⟩ := own_form2 h1.rown
      obtain ⟨ta, tc, htv, _⟩ := own_form2 h1.town
      have HRV : Hid (st.vr = .slice ra st.rs.length rc) := hrv
      have HTV : Hid (st.vt = .slice ta st.tks.length tc) := htv
      have HRL : Hid (st.rs.length = i) := hri
      have HTL : Hid (st.tks.length = i) := h1.lens.trans hri
      have hnl := h1.ltN
      clear h1 g1 hf1 hbn hri hcb1 hcb2 hblk hrv htv HJ
      go_wp2_with (go_at_call 33; refine (HPK.out _).mono ?_; rintro e w' ⟨rfl, hw⟩; rw [hw]; clear hw)
      refine HNR.mono ?_
      rintro e w2 ⟨rb, d, mb, rfl, hR2, hb2⟩
      have HR2 : Hid _ := hR2
      have HB2 : Hid _ := hb2
      have hblk2 := (hb2.block nb hnl).trans HBK.out
      have hown2 : w2.ownsRow w.heap.size 47 1 (.slice ra st.rs.length rc) st.rs.length (rcVals st.rs) := by rw [← HRV.out]; exact own_of_block HH1.out.rown (fun g hg => hb2.block g (HH1.out.rown.lt g hg).2)
      have htown2 : w2.ownsRow w.heap.size 55 1 (.slice ta st.tks.length tc) st.tks.length (tkVals st.tks) := by rw [← HTV.out]; exact own_of_block HH1.out.town (fun g hg => hb2.block g (HH1.out.town.lt g hg).2)
      have hs2 := hb2.size
      have hBle := HH1.out.leB
      have hnl2 : nb < w2.heap.size := by omega
      have hnn2 : ¬ nb = w2.heap.size := by omega
      have k4 : w2.cell? ⟨nb, 4, none⟩ = some (.slice ra st.rs.length rc) := by rw [cell_of_row w2 nb 4 _ _ _ hblk2, ← HRV.out]; rfl
      have hne2 : ¬ (Value.slice ra st.rs.length rc).ownBlock = some nb := fun q => own_ne hown2 q hblk2 (by decide) rfl
      have hneT : ∀ b, (Value.slice ra st.rs.length rc).ownBlock = some b → (Value.slice ta st.tks.length tc).ownBlock ≠ some b := own2_ne hown2 htown2 (by decide)
      have HBK2 : Hid (w2.heap[nb]? = _) := hblk2
      have HTO2 : Hid (w2.ownsRow w.heap.size 55 1 (.slice ta st.tks.length tc) st.tks.length (tkVals st.tks)) := htown2
      have HMX : Hid (st.rs.length + 1 ≤ maxLen ∧ (st.rs.length + 1) * 8 ≤ 140737488355328) := by show _ ∧ _; have := HRL.out; unfold maxLen; omega
      clear HNR hR2 hb2 x0 x1 x2 hblk2 htown2 HBK
      go_wp2_with (at_builtin; refine wpList_append_lies _ rfl _ _ _ rfl w.heap.size 47 iR (.pointer none) 1 8 Tryz.underlying39 hiR hiR0 hiR1 hiR2 rfl (by omega) (.slice ra st.rs.length rc) st.rs.length (rcVals st.rs) rfl (hown2.alloc _) ⟨w2.heap.size, 0, none⟩ 1 1 [.pointer (some ⟨rb, 0, none⟩)] rfl rfl (cell_one_at w2 _ _ _ rfl) (fun u hu => by simp at hu; subst hu; rfl) (by omega) HMX.out.1 HMX.out.2 (by simp; omega) (w2.heap.size + 1) (by simp) ?_)
      intro g4 cap4 w4 hown4 hgr4 hlie4 hlt4
      have hnb4 : w4.heap[nb]? = w2.heap[nb]? := (grown_block hgr4 (by simp; omega) hne2).trans (Below.heap_alloc w2 _ nb hnl2)
      have hblk4 := hnb4.trans HBK2.out
      have f4 : w4.frozen? ⟨nb, 4, none⟩ = false := frozen_of_row w4 nb 4 _ _ hblk4
      have j4 : w4.cell? ⟨nb, 4, none⟩ = some (.slice ra st.rs.length rc) := by rw [cell_of_row _ nb 4 _ _ _ hblk4, ← cell_of_row w2 nb 4 _ _ _ HBK2.out]; exact k4
      go_upto_region 13 with fail
      have h5 := heap_setCell_same w4 nb 4 _ _ (.slice (some ⟨g4, 0, none⟩) (st.rs.length + 1) cap4) hblk4
      have hbu5 : But (fun b => b = nb ∨ st.vr.ownBlock = some b) w2 (w4.setCell ⟨nb, 4, none⟩ (.slice (some ⟨g4, 0, none⟩) (st.rs.length + 1) cap4)) := (((But.refl _ w2).alloc _).grown hgr4 (fun k hk => .inl (.inr (by rw [HRV.out]; exact hk)))).setCell (p := ⟨nb, 4, none⟩) (.inl (.inl rfl)) _
      have hro5 : (w4.setCell ⟨nb, 4, none⟩ (.slice (some ⟨g4, 0, none⟩) (st.rs.length + 1) cap4)).ownsRow w.heap.size 47 1 (.slice (some ⟨g4, 0, none⟩) (st.rs.length + 1) cap4) (st.rs.length + 1) (rcVals st.rs ++ [.pointer (some ⟨rb, 0, none⟩)]) := own_of_block hown4 (fun z hz => heap_setCell_other w4 ⟨nb, 4, none⟩ z _ (fun q => own_ne hown4 hz hblk4 (by decide) q))
      have hg5 : ∀ b, (Value.slice (some ⟨g4, 0, none⟩) (st.rs.length + 1) cap4).ownBlock = some b → st.vr.ownBlock = some b ∨ wr.heap.size ≤ b := fun b hq => by
        simp only [Value.ownBlock, Option.some.injEq] at hq
        subst hq
        rcases hlie4 with q | q
        · exact .inl (by rw [HRV.out]; exact q)
        · exact .inr (by omega)
      have hto5 : (w4.setCell ⟨nb, 4, none⟩ (.slice (some ⟨g4, 0, none⟩) (st.rs.length + 1) cap4)).ownsRow w.heap.size 55 1 (.slice ta st.tks.length tc) st.tks.length (tkVals st.tks) := own_of_block HTO2.out (fun z hz => hbu5.block z (HTO2.out.lt z hz).2 (fun q => by
        rcases q with q | q
        · exact own_ne HTO2.out hz HBK2.out (by decide) q
        · exact hneT z (by rw [← HRV.out]; exact q) hz))
      generalize w4.setCell ⟨nb, 4, none⟩ (.slice (some ⟨g4, 0, none⟩) (st.rs.length + 1) cap4) = w5 at *
      have HBU5 : Hid _ := hbu5
      have HTO5 : Hid (∀ b, (Value.slice ta st.tks.length tc).ownBlock = some b → b < w5.heap.size) := fun b q => (hto5.lt b q).2
      have HRO5 : Hid (w5.ownsRow w.heap.size 47 1 (.slice (some ⟨g4, 0, none⟩) (st.rs.length + 1) cap4) (st.rs.length + 1) (rcVals st.rs ++ [.pointer (some ⟨rb, 0, none⟩)])) := hro5
      have HG5 : Hid _ := hg5
      have HB5 : Hid (w5.heap[nb]? = _) := h5
      have hnl5 : nb < w5.heap.size := lt_of_block h5
      have hs5 := hbu5.size
      have f5 : w5.frozen? ⟨nb, 7, none⟩ = false := frozen_of_row w5 nb 7 _ _ h5
      have k7 : w5.cell? ⟨nb, 7, none⟩ = some (.slice ta st.tks.length tc) := by rw [cell_of_row w5 nb 7 _ _ _ h5, ← HTV.out]; rfl
      have hne7 : (Value.slice ta st.tks.length tc).ownBlock ≠ some nb := fun q => own_ne hto5 q h5 (by decide) rfl
      have hnn5 : ¬ nb = w5.heap.size := by omega
      have hnn6 : ¬ nb = w5.heap.size + 1 := by omega
      obtain ⟨BC, hBC⟩ : ∃ x, x = boolCells (List.replicate 16 false) := ⟨_, rfl⟩
      have HMK := make_bools
      rw [← hBC] at HMK
      have HBC : Hid (BC = boolCells (List.replicate 16 false)) := hBC
      have HTA : Hid (∀ o o', ((w5.alloc o).alloc o').drew.ownsRow w.heap.size 55 1 (.slice ta st.tks.length tc) st.tks.length (tkVals st.tks)) := fun o o' => (hto5.alloc o).alloc o'
      have HM3 : Hid (∀ o o', w.heap.size ≤ ((w5.alloc o).alloc o').drew.heap.size) := fun o o' => by simp; omega
      have HK8 : Hid (∀ o o' w8, ((w5.alloc o).alloc o').drew.grownBy w8 (Value.slice ta st.tks.length tc).ownBlock → w8.heap[nb]? = w5.heap[nb]?) := fun o o' w8 hgr => (grown_block hgr (by simp; omega) hne7).trans ((Below.heap_alloc (w5.alloc o) o' nb (by simp; omega)).trans (Below.heap_alloc w5 o nb hnl5))
      have HMT : Hid (st.tks.length + 1 ≤ maxLen ∧ (st.tks.length + 1) * 24 ≤ 140737488355328) := by show _ ∧ _; have := HTL.out; unfold maxLen; omega
      have hmo : ∀ u ∈ [Value.slice (some ⟨w5.heap.size, 0, none⟩) 16 16], u.oneCell' = true := by intro u hu; simp at hu; subst hu; rfl
      clear hbu5 hro5 hg5 h5 hto5 hBC hown4 hgr4 hlie4 hlt4 hnb4 hblk4 f4 j4 k4 hown2 hneT
      go_region_law ((refine step_append_lies _ (by rfl) _ _ _ (by rfl) w.heap.size 55 iT (.slice none 0 0) 1 24 Tryz.underlying41 hiT hiT0 hiT1 hiT2 rfl (by omega) (.slice ta st.tks.length tc) st.tks.length (tkVals st.tks) (by rfl) (HTA.out _ _) ⟨w5.heap.size + 1, 0, none⟩ 1 1 [.slice (some ⟨w5.heap.size, 0, none⟩) 16 16] (by rfl) rfl (cell_one_at (w5.alloc _) _ _ (w5.heap.size + 1) (by simp)) hmo (by omega) HMT.out.1 HMT.out.2 (HM3.out _ _) (w5.heap.size + 2) (by simp) ?_; intro g8 cap8 w8 hown8 hgr8 hlie8 hlt8; have hblk8 := (HK8.out _ _ _ hgr8).trans HB5.out; have f8 : w8.frozen? ⟨nb, 7, none⟩ = false := frozen_of_row w8 nb 7 _ _ hblk8; have k8 : w8.cell? ⟨nb, 7, none⟩ = some (.slice ta st.tks.length tc) := by rw [cell_of_row w8 nb 7 _ _ _ hblk8, ← HTV.out]; rfl))
      all_goals
        have h9 := heap_setCell_same w8 nb 7 _ _ (.slice (some ⟨g8, 0, none⟩) (st.tks.length + 1) cap8) hblk8
        have HFIN : Hid (BegIn A B0 w K N S nb cb (i + 1) (w8.setCell ⟨nb, 7, none⟩ (.slice (some ⟨g8, 0, none⟩) (st.tks.length + 1) cap8))) := by
          have hb8 : But (fun b => b = nb ∨ st.vt.ownBlock = some b) w5 w8 := ((((But.refl _ w5).alloc _).alloc _).drew).grown hgr8 (fun k hk => .inl (.inr (by rw [HTV.out]; exact hk)))
          refine HPU.out w2 w5 _ rb d mb w5.heap.size (.slice (some ⟨g4, 0, none⟩) (st.rs.length + 1) cap4) (.slice (some ⟨g8, 0, none⟩) (st.tks.length + 1) cap8) HB2.out HR2.out HBU5.out HRO5.out HG5.out (hb8.setCell (p := ⟨nb, 7, none⟩) (.inl (.inl rfl)) _) h9 (own_of_block hown8 (fun z hz => heap_setCell_other w8 ⟨nb, 7, none⟩ z _ (fun q => own_ne hown8 hz hblk8 (by decide) q))) (fun b hq => ?_) ?_ (by omega)
          · simp only [Value.ownBlock, Option.some.injEq] at hq
            subst hq
            rcases hlie8 with q | q
            · exact .inl (by rw [HTV.out]; exact q)
            · exact .inr (by omega)
          · rw [heap_setCell_other w8 ⟨nb, 7, none⟩ w5.heap.size _ (by show w5.heap.size ≠ nb; omega), grown_block hgr8 (by simp; omega) (fun q => by have := (HTA.out (.cells #[] 0 (0, 0)) (.cells #[] 0 (0, 0))); have := HTO5.out _ q; omega)]
            rw [← HBC.out]
            exact (Below.heap_alloc (w5.alloc _) _ _ (by simp)).trans (heap_alloc_new w5 _)
        clear h9 hown8 hgr8 hlie8 hlt8 hblk8 f8 k8
        go_wp2_with fail
        go_roundw
        case rel => exact ⟨i + 1, by omega, by go_num, HFIN⟩
        case measure => simp [intOf]; omega
    · have hlt1 : ¬ (i : Int) ≤ (pk : Int) := by omega
      go_wp2_with (go_at_call 33; refine (HPK.out _).mono ?_; rintro e w' ⟨rfl, hw⟩; rw [hw]; clear hw)
      go_ret2
      exact ⟨nb, cb, i, rfl, by rw [HPE.out]; omega, HJ.out⟩

end Go.Proofs.YtjabhnhejbhgjaaGreatDoor

/- A script of moves in memory; the object that each net begins with. -/
namespace Go.Proofs.YtjabhnhejbhgjaaGreatDoor
open Go.RowKit

structure Mv where
  kd : Int
  nn : Int
  rr : Int
  s : ByteArray
def mvat (ms : List Mv) (i : Nat) : Mv := ms.getD i ⟨0, 0, 0, ByteArray.empty⟩
structure MovesAt (own : Nat → Nat) (w : World) (lb lo : Nat) (ms : List Mv) : Prop where
  cell : ∀ i, i < ms.length → w.cell? ⟨lb, lo + i * 4, none⟩ = some (.int .i64 (mvat ms i).kd) ∧ w.cell? ⟨lb, lo + i * 4 + 1, none⟩ = some (.int .i64 (mvat ms i).nn) ∧ w.cell? ⟨lb, lo + i * 4 + 2, none⟩ = some (.int .i64 (mvat ms i).rr) ∧ w.cell? ⟨lb, lo + i * 4 + 3, none⟩ = some (.string (mvat ms i).s)
  range : ∀ i, i < ms.length → In64 (mvat ms i).kd ∧ In64 (mvat ms i).nn ∧ In64 (mvat ms i).rr
  free : 0 < ms.length → lb < w.heap.size ∧ own lb = 1
theorem MovesAt.fr {own own' : Nat → Nat} {w w' : World} {lb lo : Nat} {ms : List Mv} (h : MovesAt own w lb lo ms) (hf : Fr own w own' w') : MovesAt own' w' lb lo ms := by
  have hk : 0 < ms.length → ∀ k, w'.cell? ⟨lb, k, none⟩ = w.cell? ⟨lb, k, none⟩ := fun h0 k => by
    obtain ⟨h1, h2⟩ := h.free h0
    exact World.cell?_of_block (w := w) (a := ⟨lb, k, none⟩) (hf.keep lb h1 h2).2
  refine ⟨fun i hi => ?_, h.range, fun h0 => ?_⟩
  · rw [hk (by omega), hk (by omega), hk (by omega), hk (by omega)]
    exact h.cell i hi
  · obtain ⟨h1, h2⟩ := h.free h0
    exact ⟨Nat.lt_of_lt_of_le h1 hf.size, (hf.keep lb h1 h2).1⟩

/-- The bytes of "murmur". -/
def murm : List Gf.F := [109, 117, 114, 109, 117, 114]
theorem murm_conv (w : World) : (convert 33 33 (.slice (some ⟨w.heap.size, 0, none⟩) 6 6)).run Tryz.prog (w.alloc (.cells #[.int .u8 109, .int .u8 117, .int .u8 114, .int .u8 109, .int .u8 117, .int .u8 114] 5)) = .ok (.slice (some ⟨w.heap.size, 0, none⟩) 6 6) (w.alloc (.cells #[.int .u8 109, .int .u8 117, .int .u8 114, .int .u8 109, .int .u8 117, .int .u8 114] 5 (6, 7))) :=
  Lib.run_convert_bytes_const (P := Tryz.prog) w 33 5 #[.int .u8 109, .int .u8 117, .int .u8 114, .int .u8 109, .int .u8 117, .int .u8 114] 6 6 Tryz.underlying33 Tryz.underlying5
def murmSl (b : Nat) : Sl := ⟨some ⟨b, 0, none⟩, b, 0, 6, murm⟩
theorem murm_at (w : World) (own : Nat → Nat) (ho : own w.heap.size = 1) : (murmSl w.heap.size).At own (w.alloc (.cells #[.int .u8 109, .int .u8 117, .int .u8 114, .int .u8 109, .int .u8 117, .int .u8 114] 5 (6, 7))) := by
  refine ⟨by show 6 ≤ 6; omega, by show 6 ≤ _; omega, by show 6 ≤ _; omega, .inl rfl, fun i hi => ?_, fun _ => ⟨by show w.heap.size < _; simp, ho⟩⟩
  have hi' : i < 6 := hi
  have hn := heap_alloc_new w (.cells #[.int .u8 109, .int .u8 117, .int .u8 114, .int .u8 109, .int .u8 117, .int .u8 114] 5 (6, 7))
  show (World.alloc _ _).cell? ⟨w.heap.size, 0 + i, none⟩ = some (.int .u8 ((at_ murm i).toNat : Int))
  rw [cell_of_row _ _ _ _ _ _ hn]
  have hc : i = 0 ∨ i = 1 ∨ i = 2 ∨ i = 3 ∨ i = 4 ∨ i = 5 := by omega
  rcases hc with rfl | rfl | rfl | rfl | rfl | rfl <;> rfl

/-- A net between two moves. -/
def NetIn (A : Nat → Addr) (B0 : Nat) (w : World) (nb n : Nat) (wr : World) (R : Nt → Prop) : Prop := ∃ own st, NI A B0 w.heap.size own wr nb st ∧ NG st ∧ st.Open ∧ st.rs.length = n ∧ Fr (fun _ => 1) w own wr ∧ R st

theorem begun_open {K N S : Nat} {st : Nt} (h : BegunNet K N S st) : st.Open := fun i hi => by
  obtain ⟨d, mb, e⟩ := h.rs i hi
  rw [e]
  rfl
theorem fr_of_below {w w' : World} (h : Below w.heap.size w w') : Fr (fun _ => 1) w (fun _ => 1) w' := ⟨h.os, h.tape, h.output, h.size, fun b hb _ => ⟨rfl, h.block b hb⟩⟩
theorem EnqNet.len {st st' : Nt} {x : Sl} (h : EnqNet st x st') (hf : st.s.os.length ≤ 16) : st'.rs = st.rs := by
  rcases Nat.lt_or_ge st.s.os.length 16 with q | q
  · obtain ⟨o, vo, vo', _, _, rfl⟩ := h.more q
    rfl
  · rw [h.full (by omega)]
theorem EnqNet.open {st st' : Nt} {x : Sl} (h : EnqNet st x st') (hf : st.s.os.length ≤ 16) (ho : st.Open) : st'.Open := by
  intro i hi
  rw [h.len hf] at hi ⊢
  exact ho i hi
theorem fr_below {own : Nat → Nat} {w w' : World} (h : Fr (fun _ => 1) w own w') : Below w.heap.size w w' := ⟨h.os, h.tape, h.output, h.size, fun b hb => (h.keep b hb rfl).2⟩

end Go.Proofs.YtjabhnhejbhgjaaGreatDoor
