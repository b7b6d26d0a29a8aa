/- The net: a receiver is closed; one that hears all of one object. -/
import Derived.Test.YtjabhnhejbhgjaaGreatDoorNetPlain
namespace Go.Proofs.YtjabhnhejbhgjaaGreatDoor
open Go.RowKit

theorem closed_gen {os : List Ob} {K N S : Nat} {r : Rcv} (h : RGen os K N S r) : RGen os K N S r.closed := by
  refine ⟨h.cfg, fun m kb k hm he => by simp [Rcv.closed] at he, fun m hm => ?_⟩
  have e : r.closed.tk.getD m false = false := by
    show (List.replicate 16 false).getD m false = false
    rw [List.getD_eq_getElem?_getD, List.getElem?_replicate]
    split <;> rfl
  rw [e] at hm
  cases hm

/-- What Close gives, for the net. -/
theorem netClose_any {A : Nat → Addr} {B0 B nb r : Nat} {own : Nat → Nat} {w : World} {st : Nt} (h : NI A B0 B own w nb st) (g : NG st) (hr : r < st.rs.length) (hs : (rcat st.rs r).2.shut = false) (ht : (rcat st.rs r).2.tk = List.replicate 16 false) :
    Calls Tryz.prog 23 #[.pointer (some ⟨(rcat st.rs r).1, 0, none⟩)] w fun e w' => e = .returned .nilIface ∧ ∃ own', NI A B0 B own' w' nb (st.withR r (rcat st.rs r).2.closed) ∧ NG (st.withR r (rcat st.rs r).2.closed) ∧ Fr own w own' w' := by
  refine (close_any (h.rcv r hr) (h.rok r hr) h.errs).mono ?_
  rintro e w' (⟨q, _⟩ | ⟨_, rfl, hR, hb⟩)
  · rw [hs] at q; cases q
  · obtain ⟨h1, hf⟩ := h.stepR hr (hb.wide (fun k _ q => by
      rcases q with q | q | q
      · exact .inl q
      · exact .inr (.inl q)
      · exact .inr (.inr (.inl q)))) hR (Rcv.closed_ok (h.rok r hr)) (fun b q => .inl (by
      rcases q with q | q | q | q | ⟨u, hu, _⟩ | ⟨m, kb, k, hm, hk, _⟩
      · exact .inl q
      · exact .inr (.inl q)
      · exact .inr (.inr (.inl q))
      · simp [Rcv.closed, Value.ownBlock] at q
      · simp [Rcv.closed] at hu
      · simp [Rcv.closed] at hk))
    refine ⟨rfl, _, ?_, g.withR hr h.lens (closed_gen (g.gen r hr)) rfl, hf⟩
    have e1 : st.tks.set r ((tkat st.tks r).1, (rcat st.rs r).2.closed.tk) = st.tks := by
      refine set_same ?_
      have : (rcat st.rs r).2.closed.tk = (tkat st.tks r).2 := by rw [g.tk r hr, ht]; rfl
      rw [this]
      exact tkat_some (by rw [h.lens]; exact hr)
    unfold Nt.withR
    rw [e1]
    exact h1

theorem NI.rcs {A : Nat → Addr} {B0 B : Nat} {own : Nat → Nat} {w : World} {nb : Nat} {st : Nt} (h : NI A B0 B own w nb st) (hl : st.rs.length = 2) : ∃ vg vc, w.cell? ⟨nb, 4, none⟩ = some (.slice (some ⟨vg, 0, none⟩) 2 vc) ∧ 2 ≤ vc ∧ w.cell? ⟨vg, 0, none⟩ = some (.pointer (some ⟨(rcat st.rs 0).1, 0, none⟩)) ∧ w.cell? ⟨vg, 1, none⟩ = some (.pointer (some ⟨(rcat st.rs 1).1, 0, none⟩)) := by
  obtain ⟨vg, vc, h1, h2, h3⟩ := h.rcPtr (r := 0) (by omega)
  obtain ⟨vg', vc', h1', _, h3'⟩ := h.rcPtr (r := 1) (by omega)
  rw [h1] at h1'
  simp only [Value.slice.injEq, Option.some.injEq, Addr.mk.injEq, and_true, true_and] at h1'
  rw [← h1'.1] at h3'
  refine ⟨vg, vc, ?_, by rw [← hl]; exact h2, h3, h3'⟩
  rw [h.cells.2.2.2.2.1, h1, hl]

/-- One object is told to one receiver, and heard whole. -/
structure ShS (s : Snd) (v : Vw) : Prop where
  len : s.os.length = 1
  owes : ∀ a q, ¬ s.owes a q
  here : (s.no = 0 ∧ PlainAt s.K (s.T 0) v 0 s.ns) ∨ (s.no = 1 ∧ v.tk.getD 0 false = true)
  tkl : v.tk.length = 16
theorem ShS.next {s s' : Snd} {v : Vw} {i q p : Nat} (h : ShS s v) (ok : s.Ok) (hn : NextAt s i q p s') : ShS s' (v.got s.K (s.T i) i q (by8 p)) := by
  have hlen := h.len
  obtain ⟨k1, k8, _⟩ := ok.cfg
  cases hn using NextAt.ways with
  | owed h1 _ _ ho => exact absurd ho (h.owes _ _)
  | source h1 =>
    have hno : s.no = 0 := by omega
    have hsm := SameOs.step s
    rcases h.here with ⟨_, hP⟩ | ⟨z, _⟩
    · have hT := ok.sym h1
      rw [hno] at hT
      have hvl : ∀ a b c d e, (v.got a b c d e).tk.length = v.tk.length := fun a b c d e => by
        unfold Vw.got
        split
        · rfl
        · have hp : ∀ ps, (v.put a b c ps).tk.length = v.tk.length := fun ps => by
            unfold Vw.put
            split
            · simp
            · rfl
          split
          · exact hp _
          · split
            · rfl
            · exact hp _
      refine ⟨by rw [hsm.len]; exact hlen, fun a q z => h.owes a q (step_owes z), ?_, by rw [hvl]; exact h.tkl⟩
      rw [hno]
      rcases hP.next k1 k8 hT with ⟨q1, q2, q3⟩ | ⟨q1, q2, q3⟩
      · left
        have e1 : s.step.no = 0 ∧ s.step.ns = s.ns + 1 := by
          unfold Snd.step
          rw [if_neg (by rw [hno]; omega)]
          exact ⟨hno, rfl⟩
        rw [e1.1, e1.2, hsm.K, hsm.T]
        exact ⟨rfl, q2⟩
      · right
        have e1 : s.step.no = 1 := by
          unfold Snd.step
          rw [if_pos (by rw [hno]; exact q1)]
          show s.no + 1 = 1
          omega
        refine ⟨e1, ?_⟩
        rw [q3, List.getD_eq_getElem?_getD, List.getElem?_set, if_pos rfl, if_pos (by rw [h.tkl]; omega)]
        rfl
    · omega
theorem ShS.drn {s s' : Snd} {v v' : Vw} (h : Drn s v s' v') (hs : ShS s v) (ok : s.Ok) : ShS s' v' ∧ s'.Ok := by
  induction h using Drn.ways with
  | refl => exact ⟨hs, ok⟩
  | snoc _ hn ih =>
    refine ⟨ih.1.next ih.2 hn, ?_⟩
    cases hn using NextAt.ways with
    | source h => exact Snd.step_ok ih.2 h
    | owed _ _ _ ho _ => exact Snd.pay_ok ih.2 ho
/-- It begins so. -/
theorem sh_begun {K N S : Nat} {st st' : Nt} {x : Sl} {d mb : Nat} (h : BegunNet K N S st) (he : EnqNet st x st') : ShS st'.s (rcv0 K N S d mb).vw ∧ st'.rs = st.rs ∧ st'.tks = st.tks := by
  obtain ⟨o, vo, vo', hl, hd, rfl⟩ := he.more (by rw [h.s]; simp [snd0])
  have hs := h.s
  have hlen : (st.s.enq o vo).os.length = 1 := by show (st.s.os ++ [o]).length = _; rw [hs]; simp [snd0]
  have hat : oat (st.s.enq o vo).os 0 = o := by
    have := oat_enq_last (s := st.s) (o := o) (vo := vo)
    rw [show st.s.os.length = 0 by rw [hs]; rfl] at this
    exact this
  have hno : (st.s.enq o vo).no = 0 := by show st.s.no = 0; rw [hs]; rfl
  have hns : (st.s.enq o vo).ns = 0 := by show st.s.ns = 0; rw [hs]; rfl
  have htk : ∀ m, (rcv0 K N S d mb).vw.tk.getD m false = false := fun m => by
    show (List.replicate 16 false).getD m false = false
    rw [List.getD_eq_getElem?_getD, List.getElem?_replicate]
    split <;> rfl
  refine ⟨⟨hlen, fun a q ⟨o1, o2, o3⟩ => ?_, .inl ⟨hno, ?_⟩, rfl⟩, rfl, rfl⟩
  · obtain rfl : a = 0 := by
      change a < (st.s.enq o vo).os.length at o1
      omega
    change 1 ≤ (dat (oat (st.s.enq o vo).os 0).ds q).1 at o3
    rw [hat, hd] at o3
    have : (dat (debts0 (partsN (symN st.s.S x.l.length) st.s.K)) q).1 = 0 := by
      unfold dat debts0
      rw [List.getD_eq_getElem?_getD, List.getElem?_replicate]
      split <;> rfl
    omega
  · show PlainAt _ _ _ 0 (st.s.enq o vo).ns
    rw [hns]
    exact ⟨htk 0, fun _ _ => rfl, fun _ => rfl, fun z => by omega⟩

end Go.Proofs.YtjabhnhejbhgjaaGreatDoor
