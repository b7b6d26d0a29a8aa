/- Where nothing is lost: source symbols, one behind the other, make an object whole. -/
import Derived.Test.YtjabhnhejbhgjaaGreatDoorMany17
import Derived.Test.YtjabhnhejbhgjaaGreatDoorNetGot
namespace Go.Proofs.YtjabhnhejbhgjaaGreatDoor
open Go.RowKit

/-- So many objects are told and taken, and there is nothing more. -/
structure PlS (i : Nat) (st : Nt) : Prop where
  len : st.s.os.length = i
  idle : st.s.idle
  see : ∀ m, (rcat st.rs 0).2.vw.see m = none
  tk : ∀ m, m < 16 → (rcat st.rs 0).2.tk.getD m false = decide (m < i)

/-- Of the i-th object j symbols were told and heard. -/
structure PlI (i j T : Nat) (st : Nt) : Prop where
  len : st.s.os.length = i + 1
  Te : st.s.T i = T
  owes : ∀ a q, ¬ st.s.owes a q
  here : (j < T ∧ st.s.no = i ∧ st.s.ns = j ∧ PlainAt st.s.K T (rcat st.rs 0).2.vw i j ∧ ∀ m, m < 16 → (rcat st.rs 0).2.tk.getD m false = decide (m < i)) ∨ (j = T ∧ PlS (i + 1) st)

theorem pl_enq {st st' : Nt} {x : Sl} {i : Nat} (h : PlS i st) (hi : i < 16) (ok : st.s.Ok) (he : EnqNet st x st') : PlI i 0 (symN st.s.S x.l.length) st' ∧ st'.rs = st.rs ∧ st'.K = st.K ∧ st'.S = st.S := by
  obtain ⟨o, vo, vo', hl, hd, rfl⟩ := he.more (by rw [h.len]; exact hi)
  have hlen : (st.s.enq o vo).os.length = i + 1 := by show (st.s.os ++ [o]).length = _; simp [h.len]
  have hat : oat (st.s.enq o vo).os i = o := by rw [← h.len]; exact oat_enq_last
  have hT : (st.s.enq o vo).T i = symN st.s.S x.l.length := by unfold Snd.T; rw [hat, hl]; rfl
  have hTp := (symN_range (S := st.s.S) (len := x.l.length) ok.cfg.s1).1
  refine ⟨⟨hlen, hT, fun a q ⟨o1, o2, o3⟩ => ?_, .inl ⟨by omega, by show st.s.no = i; rw [h.idle.1, h.len], by show st.s.ns = 0; exact ok.done h.idle.1, ⟨?_, fun m _ => h.see m, fun _ => h.see i, fun z => by omega⟩, h.tk⟩⟩, rfl, rfl, rfl⟩
  · change a < (st.s.enq o vo).os.length at o1
    change q < (st.s.enq o vo).Q a at o2
    change 1 ≤ (dat (oat (st.s.enq o vo).os a).ds q).1 at o3
    by_cases e : a < st.s.os.length
    · have e1 := oat_enq (o := o) (vo := vo) e
      have e2 : (st.s.enq o vo).Q a = st.s.Q a := by unfold Snd.Q Snd.T; rw [e1]; rfl
      rw [e1] at o3
      rw [e2] at o2
      exact h.idle.2 a q ⟨e, o2, o3⟩
    · obtain rfl : a = i := by have := h.len; omega
      rw [hat, hd] at o3
      have : (dat (debts0 (partsN (symN st.s.S x.l.length) st.s.K)) q).1 = 0 := by
        unfold dat debts0
        rw [List.getD_eq_getElem?_getD, List.getElem?_replicate]
        split <;> rfl
      omega
  · have := h.tk i hi
    rw [decide_eq_false (by omega)] at this
    exact this

theorem step_owes {s : Snd} {a q : Nat} (h : s.step.owes a q) : s.owes a q := by
  have hsm := SameOs.step s
  obtain ⟨o1, o2, o3⟩ := h
  exact ⟨by rw [← hsm.len]; exact o1, by rw [← hsm.Q]; exact o2, by rw [← step_ds]; exact o3⟩

theorem pl_next {st st' : Nt} {i j T a q p : Nat} {s' : Snd} (h : PlI i j T st) (hj : j < T) (hi : i < 16) (ok : st.s.Ok) (hr : 0 < st.rs.length) (htl : (rcat st.rs 0).2.tk.length = 16) (hn : NextAt st.s a q p s') (hh : HearNet (st.withS s') 0 a q p st') : PlI i (j + 1) T st' := by
  rcases h.here with ⟨_, hno, hns, hP, htk⟩ | ⟨e, _⟩
  · obtain ⟨k1, k8, kn, n16, s1, s8⟩ := ok.cfg
    have hlt : st.s.no < st.s.os.length := by rw [hno, h.len]; omega
    have hlen := h.len
    cases hn using NextAt.ways with
    | owed h1 => omega
    | source h1 =>
      obtain ⟨r', rfl, hv, hs⟩ := hh
      have hsm := SameOs.step st.s
      have hat : (rcat ((st.withS st.s.step).withR 0 r').rs 0).2 = r' := by rw [withR_at (st := st.withS st.s.step) hr]
      have hv' : r'.vw = (rcat st.rs 0).2.vw.got st.s.K T i (j / st.s.K) (by8 (j % st.s.K)) := by
        rw [hv]
        show (rcat st.rs 0).2.vw.got st.s.step.K (st.s.step.T st.s.no) st.s.no (st.s.ns / st.s.K) (by8 (st.s.ns % st.s.K)) = _
        rw [hsm.K, hsm.T, hno, hns, h.Te]
      have hst : ∀ n2 s2, st.s.step.no = n2 → st.s.step.ns = s2 → ((st.withS st.s.step).withR 0 r').s.no = n2 ∧ ((st.withS st.s.step).withR 0 r').s.ns = s2 := fun n2 s2 e1 e2 => ⟨e1, e2⟩
      have hlen' : st.s.step.os.length = i + 1 := by rw [hsm.len]; exact h.len
      have how : ∀ a q, ¬ st.s.step.owes a q := fun a q z => h.owes a q (step_owes z)
      have hT' : st.s.step.T i = T := by rw [hsm.T]; exact h.Te
      have hTT : st.s.T st.s.no = T := by rw [hno]; exact h.Te
      refine ⟨hlen', hT', how, ?_⟩
      rcases hP.next k1 k8 hj with ⟨q1, q2, q3⟩ | ⟨q1, q2, q3⟩
      · left
        have e1 : st.s.step.no = i ∧ st.s.step.ns = j + 1 := by
          unfold Snd.step
          rw [if_neg (by rw [hTT, hns]; omega)]
          exact ⟨hno, by show st.s.ns + 1 = j + 1; rw [hns]⟩
        refine ⟨q1, e1.1, e1.2, ?_, fun m hm => ?_⟩
        · rw [hat, hv']
          show PlainAt st.s.step.K T _ i (j + 1)
          rw [hsm.K]
          exact q2
        · rw [hat]
          have e2 : r'.tk = (rcat st.rs 0).2.tk := by
            have : r'.vw.tk = (rcat st.rs 0).2.vw.tk := by rw [hv', q3]
            exact this
          rw [e2]
          exact htk m hm
      · right
        have e1 : st.s.step.no = i + 1 ∧ st.s.step.ns = 0 := by
          unfold Snd.step
          rw [if_pos (by rw [hTT, hns]; omega)]
          exact ⟨by show st.s.no + 1 = i + 1; rw [hno], rfl⟩
        refine ⟨q1, hlen', ⟨?_, how⟩, fun m => ?_, fun m hm => ?_⟩
        · show st.s.step.no = st.s.step.os.length
          rw [e1.1, hlen']
        · rw [hat, hv']
          exact q2 m
        · rw [hat]
          have e2 : r'.tk = (rcat st.rs 0).2.tk.set i true := by
            have : r'.vw.tk = (rcat st.rs 0).2.vw.tk.set i true := by rw [hv', q3]
            exact this
          rw [e2]
          by_cases z : m = i
          · subst z
            rw [List.getD_eq_getElem?_getD, List.getElem?_set, if_pos rfl, if_pos (by rw [htl]; exact hm), decide_eq_true (by omega)]
            rfl
          · rw [List.getD_eq_getElem?_getD, List.getElem?_set, if_neg (Ne.symm z), ← List.getD_eq_getElem?_getD, htk m hm]
            congr 1
            apply propext
            omega
  · omega

/-- It begins so. -/
theorem pl_begun {K N S : Nat} {st : Nt} (h : BegunNet K N S st) (hr : 0 < st.rs.length) : PlS 0 st := by
  obtain ⟨d, mb, e⟩ := h.rs 0 hr
  refine ⟨by rw [h.s]; rfl, ⟨by rw [h.s]; rfl, fun a q ⟨o1, _⟩ => by rw [h.s] at o1; simp [snd0] at o1⟩, fun m => by rw [e]; rfl, fun m hm => ?_⟩
  rw [e]
  show (List.replicate 16 false).getD m false = _
  rw [List.getD_eq_getElem?_getD, List.getElem?_replicate, if_pos hm, decide_eq_false (by omega)]
  rfl

/-- What the r-th receiver took, in memory. -/
theorem NI.tkRow {A : Nat → Addr} {B0 B : Nat} {own : Nat → Nat} {w : World} {nb n r : Nat} {st : Nt} (h : NI A B0 B own w nb st) (g : NG st) (hl : st.rs.length = n) (hr : r < n) : ∃ tg tc tb, w.cell? ⟨nb, 7, none⟩ = some (.slice (some ⟨tg, 0, none⟩) n tc) ∧ n ≤ tc ∧ w.cell? ⟨tg, r, none⟩ = some (.slice (some ⟨tb, 0, none⟩) 16 16) ∧ ∀ m, m < 16 → w.cell? ⟨tb, m, none⟩ = some (.bool ((rcat st.rs r).2.tk.getD m false)) := by
  have htl : r < st.tks.length := by rw [h.lens, hl]; exact hr
  obtain ⟨tg, tc, h1, h2, h3⟩ := h.tkPtr htl
  rw [h.lens, hl] at h1 h2
  refine ⟨tg, tc, _, by rw [← h1]; exact h.cells.2.2.2.2.2.2.2, h2, h3, fun m hm => ?_⟩
  rw [h.tkCell htl hm, g.tk r (by omega)]

/-- Strings in memory. -/
structure StrsAt (own : Nat → Nat) (w : World) (lb lo : Nat) (ss : List ByteArray) : Prop where
  cell : ∀ i, i < ss.length → w.cell? ⟨lb, lo + i, none⟩ = some (.string (ss.getD i ByteArray.empty))
  free : 0 < ss.length → lb < w.heap.size ∧ own lb = 1
theorem StrsAt.fr {own own' : Nat → Nat} {w w' : World} {lb lo : Nat} {ss : List ByteArray} (h : StrsAt own w lb lo ss) (hf : Fr own w own' w') : StrsAt own' w' lb lo ss := by
  refine ⟨fun i hi => ?_, fun h0 => ?_⟩
  · obtain ⟨h1, h2⟩ := h.free (by omega)
    rw [World.cell?_of_block (w := w) (a := ⟨lb, lo + i, none⟩) (hf.keep lb h1 h2).2]
    exact h.cell i hi
  · obtain ⟨h1, h2⟩ := h.free h0
    exact ⟨Nat.lt_of_lt_of_le h1 hf.size, (hf.keep lb h1 h2).1⟩

end Go.Proofs.YtjabhnhejbhgjaaGreatDoor
