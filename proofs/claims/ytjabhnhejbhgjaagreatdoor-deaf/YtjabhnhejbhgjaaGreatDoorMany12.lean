import Derived.Test.YtjabhnhejbhgjaaGreatDoorMany11
import Derived.Test.YtjabhnhejbhgjaaGreatDoorMany9
/- A receiver of the program: take. -/
namespace Go.Proofs.YtjabhnhejbhgjaaGreatDoor
open Go.RowKit Go.Maps

theorem KAt.notTy {w : World} {B kb b : Nat} {k : Kn} {cs : Array Value} (h : KAt w B kb k) (hr : w.heap[b]? = some (.cells cs 136 (0, 0))) : ¬ k.foot kb b := by
  intro q
  rcases q with q | q | ⟨i, hi, q | q | ⟨r, hr', q⟩⟩
  · have hk := h.blk
    rw [← q, hr] at hk
    simp only [Option.some.injEq, Obj.cells.injEq] at hk
    exact absurd hk.2.1 (by decide)
  · have hk := h.row
    rw [← q, hr] at hk
    simp only [Option.some.injEq, Obj.cells.injEq] at hk
    exact absurd hk.2.1 (by decide)
  · exact own_ne (h.places i hi) q hr (by decide) rfl
  · exact own_ne (h.syms i hi) q hr (by decide) rfl
  · exact own_ne (h.bytes i hi r hr').2 (g := r.b) (r.own.2 trivial) hr (by decide) q

/-- An object is taken. -/
def Rcv.took (r : Rcv) (u : Un) (v : Value) : Rcv := { r with un := r.un ++ [u], uv := v, tk := r.tk.set u.n true }
theorem Rcv.took_cells (r : Rcv) (u : Un) (v : Value) (ht : r.tk.length = 16) (hn : u.n < 16) : (r.cells.set 21 v).set (5 + u.n) (.bool true) = (r.took u v).cells := by
  unfold Rcv.cells Rcv.took
  rw [List.set_append_right _ _ (by simp [ht]), List.set_append_left _ _ (by simp [ht]; omega), List.set_append_right _ _ (by simp)]
  simp [ht, List.map_set]

theorem RcAt.took {w w3 : World} {B rb : Nat} {r : Rcv} {u : Un} {v : Value} (h : RcAt w B rb r) (ht : r.tk.length = 16) (hn : u.n < 16)
    (hs : w.heap.size ≤ w3.heap.size) (hk : ∀ b, b < w.heap.size → ¬ r.uv.ownBlock = some b → w3.heap[b]? = w.heap[b]?)
    (hown : w3.ownsRow B 136 2 v (r.un.length + 1) (flat2 (unVals (r.un ++ [u]))))
    (hg : B ≤ u.g ∧ (∃ cs, w.heap[u.g]? = some (.cells cs 5 (0, 0))) ∧ Bs w u.g 0 u.l) (ha : ∀ m kb k, m < 16 → r.kf m = some (kb, k) → ¬ k.foot kb u.g) :
    RcAt ((w3.setCell ⟨rb, 21, none⟩ v).setCell ⟨rb, 5 + u.n, none⟩ (.bool true)) B rb (r.took u v) := by
  have hc : ∀ (b : Nat) cs t, w.heap[b]? = some (.cells cs t (0, 0)) → 136 ≠ t → w3.heap[b]? = w.heap[b]? := fun b cs t e hne => hk b (lt_of_block e) (fun q => own_ne h.own q e hne rfl)
  have h3 := (hc rb _ _ h.blk (by decide)).trans h.blk
  have h4 := heap_setCell_same w3 rb 21 _ _ v h3
  have h5 := heap_setCell_same _ rb (5 + u.n) _ _ (.bool true) h4
  rw [List.setIfInBounds_toArray, List.setIfInBounds_toArray, r.took_cells u v ht hn] at h5
  have hb := But.setCell (S := fun b => b = rb) (But.setCell (S := fun b => b = rb) (But.refl _ w3) (p := ⟨rb, 21, none⟩) (.inl rfl) v) (p := ⟨rb, 5 + u.n, none⟩) (.inl rfl) (.bool true)
  generalize (w3.setCell ⟨rb, 21, none⟩ v).setCell ⟨rb, 5 + u.n, none⟩ (.bool true) = W at *
  have hW : ∀ (b : Nat) cs t, w.heap[b]? = some (.cells cs t (0, 0)) → 136 ≠ t → 108 ≠ t → W.heap[b]? = w.heap[b]? := fun b cs t e hne hnr =>
    (hb.block b (Nat.lt_of_lt_of_le (lt_of_block e) hs) (fun q => by rw [q, h.blk] at e; simp only [Option.some.injEq, Obj.cells.injEq] at e; exact hnr e.2.1)).trans (hc b cs t e hne)
  have hO : ∀ (b : Nat) o, w.heap[b]? = some o → (∀ cs t fr, o ≠ .cells cs t fr) → W.heap[b]? = some o := fun b o e hne => by
    have hl := (Array.getElem?_eq_some_iff.1 e).1
    refine ((hb.block b (Nat.lt_of_lt_of_le hl hs) (fun q => ?_)).trans (hk b hl (fun q => ?_))).trans e
    · rw [q, h.blk] at e
      exact hne _ _ _ (Option.some.inj e).symm
    · obtain ⟨c, hcc⟩ := own_block h.own q
      rw [hcc] at e
      exact hne _ _ _ (Option.some.inj e).symm
  have hob : ∀ x : Un, (B ≤ x.g ∧ (∃ cs, w.heap[x.g]? = some (.cells cs 5 (0, 0))) ∧ Bs w x.g 0 x.l) → (B ≤ x.g ∧ (∃ cs, W.heap[x.g]? = some (.cells cs 5 (0, 0))) ∧ Bs W x.g 0 x.l) := fun x ⟨h1, ⟨cs, h2⟩, h3⟩ => by
    have he := hW x.g _ _ h2 (by decide) (by decide)
    refine ⟨h1, ⟨cs, he.trans h2⟩, fun i hi => ?_⟩
    have hcc : W.cell? ⟨x.g, 0 + i, none⟩ = w.cell? ⟨x.g, 0 + i, none⟩ := World.cell?_of_block (w := w) (a := ⟨x.g, 0 + i, none⟩) he
    rw [hcc]
    exact h3 i hi
  refine ⟨h.low, h5, hO _ _ h.chan (fun _ _ _ q => by cases q), ?_, ?_, fun x hx => ?_, fun m kb k hm he => (h.known m kb k hm he).kept (fun b q => ?_), h.apart, fun x hx m kb k hm he => ?_⟩
  · obtain ⟨n, D, ⟨es, clock, hm, hr⟩, hM⟩ := h.map
    exact ⟨n, D, ⟨es, clock, hO _ _ hm (fun _ _ _ q => by cases q), hr⟩, hM⟩
  · show W.ownsRow B _ 2 v (r.un ++ [u]).length (flat2 (unVals (r.un ++ [u])))
    rw [List.length_append]
    exact own_of_block hown (fun g hg => hb.block g (hown.lt g hg).2 (fun q => own_ne hown hg h3 (by decide) q))
  · rcases List.mem_append.1 hx with q | q
    · exact hob x (h.objs x q)
    · rw [List.mem_singleton.1 q]
      exact hob u hg
  · have hl := ((h.known m kb k hm he).foot_lt q).2
    refine (hb.block b (Nat.lt_of_lt_of_le hl hs) (fun e => (h.known m kb k hm he).notRcv h.blk (by rw [← e]; exact q))).trans (hk b hl (fun e => ?_))
    obtain ⟨c, hcc⟩ := own_block h.own e
    exact (h.known m kb k hm he).notTy hcc q
  · rcases List.mem_append.1 hx with q | q
    · exact h.apartU x q m kb k hm he
    · rw [List.mem_singleton.1 q]
      exact ha m kb k hm he

theorem Tryz.info_objZ : (Tryz.prog.info? 136).map (fun i => (i.zero, i.size, i.bytes)) = some (some (.agg #[.int .i64 0, .slice none 0 0]), 2, 32) := by kernel_rfl
theorem Tryz.objZ_parts : ∃ i, Tryz.prog.info? 136 = some i ∧ i.zero = some (.agg #[.int .i64 0, .slice none 0 0]) ∧ i.size = 2 ∧ i.bytes = 32 := by
  obtain ⟨i, hi, h⟩ := Option.map_eq_some_iff.1 Tryz.info_objZ
  simp only [Prod.mk.injEq] at h
  exact ⟨i, hi, h.1, h.2.1, h.2.2⟩

/-- It is taken, and no longer known. -/
def Rcv.done (r : Rcv) (u : Un) (v : Value) : Rcv := (r.took u v).strike u.n

set_option maxRecDepth 100000 in
set_option maxHeartbeats 2000000 in
theorem take_any {B rb : Nat} {r : Rcv} {u : Un} {w : World} (h : RcAt w B rb r) (ok : r.Ok) (hn : u.n < 16) (hun : r.un.length < 16)
    (hg : B ≤ u.g ∧ (∃ cs, w.heap[u.g]? = some (.cells cs 5 (0, 0))) ∧ Bs w u.g 0 u.l) (ha : ∀ m kb k, m < 16 → r.kf m = some (kb, k) → ¬ k.foot kb u.g) :
    Calls Tryz.prog 48 #[.pointer (some ⟨rb, 0, none⟩), .int .i64 (u.n : Int), .slice (some ⟨u.g, 0, none⟩) u.l.length u.l.length] w fun e w' =>
      e = .returned (.tuple #[]) ∧ (∃ v, RcAt w' B rb (r.done u v) ∧ ∀ b, v.ownBlock = some b → r.uv.ownBlock = some b ∨ w.heap.size ≤ b) ∧ But (fun b => b = rb ∨ b = r.mb ∨ r.uv.ownBlock = some b) w w' := by
  obtain ⟨iO, hiO, hiO0, hiO1, hiO2⟩ := Tryz.objZ_parts
  have c21 := h.last ok.tk
  obtain ⟨xa, xc, hxv, _⟩ := own_form2 h.own
  rw [hxv] at c21
  have hown : w.ownsRow B 136 2 (.slice xa r.un.length xc) r.un.length (flat2 (unVals r.un)) := hxv ▸ h.own
  have hB : B ≤ w.heap.size := Nat.le_trans h.low.1 (Nat.le_of_lt (lt_of_block h.blk))
  have HMX : Hid (r.un.length + 1 ≤ maxLen) := by show _ ≤ _; unfold maxLen; omega
  have HNW : Hid (∀ x ∈ [Value.int .i64 (u.n : Int), .slice (some ⟨u.g, 0, none⟩) u.l.length u.l.length], x.oneCell' = true) := fun x hu => by simp at hu; rcases hu with rfl | rfl <;> rfl
  have HH : Hid (RcAt w B rb r) := h
  have HG : Hid _ := hg
  have HA : Hid _ := ha
  clear h hg ha
  go_enter Tryz.func48, Tryz.ntmps48
  go_wp2_with (at_builtin; refine wpList_append_lies _ rfl _ _ _ rfl B 136 iO (.agg #[.int .i64 0, .slice none 0 0]) 2 32 Tryz.underlying65 hiO hiO0 hiO1 hiO2 rfl (by omega) (.slice xa r.un.length xc) r.un.length (flat2 (unVals r.un)) rfl (hown.alloc _) ⟨w.heap.size, 0, none⟩ 1 1 [.int .i64 (u.n : Int), .slice (some ⟨u.g, 0, none⟩) u.l.length u.l.length] rfl rfl (cell_two_atZ w _ _ _ _ rfl) HNW.out (by omega) HMX.out (by omega) (by simp; omega) (w.heap.size + 1) (by simp) ?_)
  intro g6 cap6 w6 hown6 hgr6 hlie6 hlt6
  have e6 : flat2 (unVals (r.un ++ [u])) = flat2 (unVals r.un) ++ [.int .i64 (u.n : Int), .slice (some ⟨u.g, 0, none⟩) u.l.length u.l.length] := by simp [unVals, flat2_append]; rfl
  rw [← e6] at hown6
  have hs6 : w.heap.size ≤ w6.heap.size := by have := hgr6.size; simp at this; omega
  have hk6 : ∀ b, b < w.heap.size → ¬ r.uv.ownBlock = some b → w6.heap[b]? = w.heap[b]? := fun b hb hne => (grown_block hgr6 (by simp; omega) (by rw [← hxv]; exact hne)).trans (Below.heap_alloc w _ b hb)
  have R6 := HH.out.took ok.tk hn hs6 hk6 hown6 HG.out HA.out
  obtain ⟨W9, HDEL, R9, B9⟩ := R6.strike hn
  have hrl := lt_of_block HH.out.blk
  have hrb6 := (hk6 rb hrl (fun q => own_ne HH.out.own q HH.out.blk (by decide) rfl)).trans HH.out.blk
  have d21 : w6.cell? ⟨rb, 21, none⟩ = some (.slice xa r.un.length xc) := by rw [cell_of_row _ rb 21 _ _ _ hrb6, ← cell_of_row w rb 21 _ _ _ HH.out.blk]; exact c21
  have f21 : w6.frozen? ⟨rb, 21, none⟩ = false := frozen_of_row w6 rb 21 _ _ hrb6
  have h7 := heap_setCell_same w6 rb 21 _ _ (.slice (some ⟨g6, 0, none⟩) (r.un.length + 1) cap6) hrb6
  have d5 : (w6.setCell ⟨rb, 21, none⟩ (.slice (some ⟨g6, 0, none⟩) (r.un.length + 1) cap6)).cell? ⟨rb, 5 + u.n, none⟩ = some (.bool (r.tk.getD u.n false)) := by
    rw [cell_of_row _ rb (5 + u.n) _ _ _ h7, List.setIfInBounds_toArray, List.getElem?_toArray, List.getElem?_set_ne (by omega), ← HH.out.cell]
    exact HH.out.taken (by rw [ok.tk]; exact hn)
  have f5 : (w6.setCell ⟨rb, 21, none⟩ (.slice (some ⟨g6, 0, none⟩) (r.un.length + 1) cap6)).frozen? ⟨rb, 5 + u.n, none⟩ = false := frozen_of_row _ rb (5 + u.n) _ _ h7
  have d4 := R6.head.2.2.2.2
  have HFIN : Hid (∃ v, RcAt W9 B rb (r.done u v) ∧ ∀ b, v.ownBlock = some b → r.uv.ownBlock = some b ∨ w.heap.size ≤ b) := ⟨_, R9, fun b hb => by
    simp only [Value.ownBlock, Option.some.injEq] at hb
    subst hb
    rcases hlie6 with q | q
    · exact .inl (by rw [hxv]; exact q)
    · exact .inr (by omega)⟩
  have HB9 : Hid (But (fun b => b = rb ∨ b = r.mb ∨ r.uv.ownBlock = some b) w W9) := by
    have bA : But (fun b => b = rb ∨ b = r.mb ∨ r.uv.ownBlock = some b) w w6 := ⟨hgr6.os, hgr6.tape, hgr6.output, hs6, fun b hb hne => hk6 b hb (fun q => hne (.inr (.inr q)))⟩
    have b8 := But.setCell (But.setCell bA (p := ⟨rb, 21, none⟩) (.inl (.inl rfl)) (.slice (some ⟨g6, 0, none⟩) (r.un.length + 1) cap6)) (p := ⟨rb, 5 + u.n, none⟩) (.inl (.inl rfl)) (.bool true)
    exact b8.trans ⟨B9.os, B9.tape, B9.output, B9.size, fun b hb hne => B9.block b hb (fun q => hne (.inr (.inl q)))⟩
  clear c21 hown6 hgr6 hlie6 hlt6 R6 R9 B9 hrb6 h7 hk6 e6 hown
  go_upto_region 1 with fail
  generalize w6.setCell ⟨rb, 21, none⟩ (.slice (some ⟨g6, 0, none⟩) (r.un.length + 1) cap6) = w7 at *
  go_upto_region 2 with fail
  generalize w7.setCell ⟨rb, 5 + u.n, none⟩ (.bool true) = w8 at *
  go_wp2_with fail
  go_end0
  exact ⟨rfl, HFIN.out, HB9.out⟩

end Go.Proofs.YtjabhnhejbhgjaaGreatDoor

/- A receiver of the program: a symbol more is known of an object. -/
namespace Go.Proofs.YtjabhnhejbhgjaaGreatDoor
open Go.RowKit Go.Maps

theorem MapIs.same {D : DataW Unit} {kf : Nat → Option (Nat × Kn)} (h : MapIs D kf) {m kb : Nat} {k : Kn} (k' : Kn) (hm : m < 16) (he : kf m = some (kb, k)) : MapIs D (updF kf m (some (kb, k'))) := by
  refine ⟨fun i hi => ?_, fun i hi => ?_, ?_⟩
  · by_cases e : i = m
    · subst e
      rw [h.has i hi, he, updF_same]
      rfl
    · rw [updF_other _ _ e, h.has i hi]
  · by_cases e : i = m
    · subst e
      rw [h.at_ i hi, he, updF_same]
      rfl
    · rw [updF_other _ _ e, h.at_ i hi]
  · rw [h.size]
    have := cnt_upd kf m (some (kb, k')) 16 hm
    rw [he] at this
    simp at this
    omega

/-- More is known of an object. -/
def Rcv.know (r : Rcv) (m kb : Nat) (k : Kn) : Rcv := { r with kf := updF r.kf m (some (kb, k)) }
theorem Rcv.know_ok {r : Rcv} (ok : r.Ok) {m kb : Nat} {k k' : Kn} (hm : m < 16) (he : r.kf m = some (kb, k)) (hk : k'.Ok ∧ k'.K = r.K ∧ k'.N = r.N ∧ k'.S = r.S) : (r.know m kb k').Ok := by
  refine ⟨ok.cfg, ok.tk, ok.un, fun i b q hi e => ?_, ?_⟩
  · unfold Rcv.know at e
    by_cases hi' : i = m
    · subst hi'
      simp only [updF_same, Option.some.injEq, Prod.mk.injEq] at e
      obtain ⟨rfl, rfl⟩ := e
      exact hk
    · simp only [updF_other _ _ hi'] at e
      exact ok.known i b q hi e
  · show cntF (updF r.kf m (some (kb, k'))) 16 ≤ 4
    have := cnt_upd r.kf m (some (kb, k')) 16 hm
    rw [he] at this
    simp at this
    have := ok.few
    omega

theorem RcAt.know {w w' : World} {B rb m kb : Nat} {r : Rcv} {k k' : Kn} (h : RcAt w B rb r) (hm : m < 16) (he : r.kf m = some (kb, k)) (hK : KAt w' B kb k') (hb : But (k.foot kb) w w') (hf : ∀ b, k'.foot kb b → k.foot kb b ∨ ¬ r.foot rb b) : RcAt w' B rb (r.know m kb k') := by
  have hk := h.known m kb k hm he
  have hcl : ∀ b, k.foot kb b → ∀ o, w.heap[b]? = some o → (∀ cs t fr, o ≠ .cells cs t fr) → False := fun b q o ho hne => by
    obtain ⟨cs, t, hc⟩ := hk.isCells q
    rw [hc] at ho
    exact hne _ _ _ (Option.some.inj ho).symm
  have hnot : ∀ i b q, i < 16 → i ≠ m → r.kf i = some (b, q) → ∀ x, q.foot b x → ¬ k'.foot kb x := fun i b q hi hne e x hx hx' => by
    rcases hf x hx' with hx2 | hx2
    · exact h.apart i m b q kb k hi hm hne e he x hx hx2
    · exact hx2 (.inr (.inr (.inr (.inr (.inr ⟨i, b, q, hi, e, hx⟩)))))
  refine ⟨h.low, (hb.block rb (lt_of_block h.blk) (hk.notRcv h.blk)).trans h.blk, (hb.block r.d (Array.getElem?_eq_some_iff.1 h.chan).1 (fun q => hcl _ q _ h.chan (fun _ _ _ e => by cases e))).trans h.chan, ?_, own_of_block h.own (fun g hg => hb.block g (h.own.lt g hg).2 (fun q => ?_)), fun u hu => ?_, fun i b q hi e => ?_, fun i i' b q b' q' hi hi' hne e e' => ?_, fun u hu i b q hi e => ?_⟩
  · obtain ⟨n, D, ⟨es, clock, hmb, hr⟩, hM⟩ := h.map
    exact ⟨n, D, ⟨es, clock, (hb.block r.mb (Array.getElem?_eq_some_iff.1 hmb).1 (fun q => hcl _ q _ hmb (fun _ _ _ e => by cases e))).trans hmb, hr⟩, hM.same k' hm he⟩
  · obtain ⟨c, hc⟩ := own_block h.own hg
    exact hk.notTy hc q
  · obtain ⟨h1, ⟨cs, h2⟩, h3⟩ := h.objs u hu
    have hx := hb.block u.g (lt_of_block h2) (h.apartU u hu m kb k hm he)
    refine ⟨h1, ⟨cs, hx.trans h2⟩, fun i hi => ?_⟩
    have hc : w'.cell? ⟨u.g, 0 + i, none⟩ = w.cell? ⟨u.g, 0 + i, none⟩ := World.cell?_of_block (w := w) (a := ⟨u.g, 0 + i, none⟩) hx
    rw [hc]
    exact h3 i hi
  · change updF r.kf m (some (kb, k')) i = some (b, q) at e
    by_cases hi' : i = m
    · subst hi'
      rw [updF_same] at e
      cases e
      exact hK
    · rw [updF_other _ _ hi'] at e
      have hq := h.known i b q hi e
      exact hq.kept (fun x hx => hb.block x (hq.foot_lt hx).2 (h.apart i m b q kb k hi hm hi' e he x hx))
  · change updF r.kf m (some (kb, k')) i = some (b, q) at e
    change updF r.kf m (some (kb, k')) i' = some (b', q') at e'
    by_cases h1 : i = m
    · subst h1
      rw [updF_same] at e
      cases e
      rw [updF_other _ _ (Ne.symm hne)] at e'
      exact fun x hx hx' => hnot i' b' q' hi' (Ne.symm hne) e' x hx' hx
    · rw [updF_other _ _ h1] at e
      by_cases h2 : i' = m
      · subst h2
        rw [updF_same] at e'
        cases e'
        exact hnot i b q hi hne e
      · rw [updF_other _ _ h2] at e'
        exact h.apart i i' b q b' q' hi hi' hne e e'
  · change updF r.kf m (some (kb, k')) i = some (b, q) at e
    by_cases h1 : i = m
    · subst h1
      rw [updF_same] at e
      cases e
      intro hx
      rcases hf _ hx with q | q
      · exact h.apartU u hu i kb k hi he q
      · exact q (.inr (.inr (.inr (.inr (.inl ⟨u, hu, rfl⟩)))))
    · rw [updF_other _ _ h1] at e
      exact h.apartU u hu i b q hi e

end Go.Proofs.YtjabhnhejbhgjaaGreatDoor

/- Senders of the program: Hear. -/
namespace Go.Proofs.YtjabhnhejbhgjaaGreatDoor
open Go.RowKit

theorem asks_valid {K T : Nat} {m : List Gf.F} : ∀ r i least, asksFrom K T m r i least = none → ∀ k, k < r → bt m (1 + 2 * (i + k)) < partsN T K ∧ 1 ≤ bt m (1 + 2 * (i + k) + 1) ∧ bt m (1 + 2 * (i + k) + 1) ≤ srcN K T (bt m (1 + 2 * (i + k)))
  | 0, _, _, _, k, hk => by omega
  | r + 1, i, least, h, k, hk => by
    unfold asksFrom at h
    cases hl : lackB K T m (1 + 2 * i) least with
    | some e => rw [hl] at h; cases h
    | none =>
      rw [hl] at h
      by_cases e : k = 0
      · subst e
        unfold lackB at hl
        split at hl
        · cases hl
        split at hl
        · cases hl
        split at hl
        · cases hl
        split at hl
        · cases hl
        rename_i h1 h2 h3 h4
        simp only [Bool.not_eq_false] at h2 h4
        have h2' := h2
        have h4' := h4
        simp [blkB] at h2'
        simp [manyB] at h4'
        have h5 := winB_iff.1 h2'.2
        rw [Nat.add_zero]
        exact ⟨by omega, h4'.1, h4'.2⟩
      · have := asks_valid r (i + 1) _ h (k - 1) (by omega)
        rw [show i + 1 + (k - 1) = i + k by omega] at this
        exact this

/-- The asks of a packet that is one. -/
theorem parse_asks {K N S : Nat} {l : List Gf.F} (h : parseE K N S l = none) (hk : ¬ bt l 0 = 1) : bt l 0 = 2 ∧ lenOf l ≤ 255 ∧ bt l 1 < 16 ∧ ∀ k, k < bt (l.drop 4) 0 → bt (l.drop 4) (1 + 2 * k) < partsN (symN S (lenOf l)) K ∧ 1 ≤ bt (l.drop 4) (1 + 2 * k + 1) ∧ bt (l.drop 4) (1 + 2 * k + 1) ≤ srcN K (symN S (lenOf l)) (bt (l.drop 4) (1 + 2 * k)) := by
  unfold parseE at h
  cases hh : headE l with
  | some e => rw [hh] at h; cases h
  | none =>
    rw [hh] at h
    simp only [if_neg hk, Option.map_eq_none_iff] at h
    unfold headE at hh
    split at hh
    · cases hh
    split at hh
    · cases hh
    split at hh
    · cases hh
    split at hh
    · cases hh
    split at hh
    · cases hh
    split at hh
    · cases hh
    rename_i _ h2 _ h4 _ h6
    simp [kindB] at h2
    simp [objB] at h4
    simp [lenB] at h6
    unfold asksB at h
    split at h
    · cases h
    split at h
    · cases h
    refine ⟨?_, h6, h4, fun k hk' => ?_⟩
    · exact h2 hk
    · have := asks_valid _ 0 0 h k hk'
      rw [Nat.zero_add] at this
      exact this

/-- What is owed behind k asks. -/
def Snd.askN (s : Snd) (i : Nat) (m : List Gf.F) : Nat → Snd
  | 0 => s
  | k + 1 => (s.askN i m k).setD i (bt m (1 + 2 * k)) (max (dat (oat (s.askN i m k).os i).ds (bt m (1 + 2 * k))).1 (bt m (1 + 2 * k + 1)), (dat (oat (s.askN i m k).os i).ds (bt m (1 + 2 * k))).2)

theorem askN_len (s : Snd) (i : Nat) (m : List Gf.F) : ∀ k, (s.askN i m k).os.length = s.os.length
  | 0 => rfl
  | k + 1 => by unfold Snd.askN; rw [Snd.setD_len]; exact askN_len s i m k
theorem askN_dg {s : Snd} {i : Nat} (hi : i < s.os.length) (m : List Gf.F) : ∀ k, (oat (s.askN i m k).os i).dg = (oat s.os i).dg
  | 0 => rfl
  | k + 1 => by unfold Snd.askN; rw [dg_setD (by rw [askN_len]; exact hi)]; exact askN_dg hi m k
theorem askN_dl {s : Snd} {i : Nat} (hi : i < s.os.length) (m : List Gf.F) : ∀ k, (oat (s.askN i m k).os i).ds.length = (oat s.os i).ds.length
  | 0 => rfl
  | k + 1 => by unfold Snd.askN; rw [len_setD (by rw [askN_len]; exact hi)]; exact askN_dl hi m k
theorem lackCells_get (m : List Gf.F) : ∀ k j, j < k → (lackCells m k)[j * 2]? = some (.int .i64 (bt m (1 + 2 * j) : Int)) ∧ (lackCells m k)[j * 2 + 1]? = some (.int .i64 (bt m (1 + 2 * j + 1) : Int))
  | 0, j, h => by omega
  | k + 1, j, h => by
    have hl := lackCells_length m k
    by_cases e : j < k
    · obtain ⟨h1, h2⟩ := lackCells_get m k j e
      exact ⟨by rw [lackCells, List.getElem?_append_left (by omega)]; exact h1, by rw [lackCells, List.getElem?_append_left (by omega)]; exact h2⟩
    · obtain rfl : j = k := by omega
      exact ⟨by rw [lackCells, List.getElem?_append_right (by omega), hl, Nat.sub_self]; rfl, by rw [lackCells, List.getElem?_append_right (by omega), hl, show j * 2 + 1 - j * 2 = 1 by omega]; rfl⟩
theorem askN_debt {s : Snd} (ok : s.Ok) {i : Nat} (hi : i < s.os.length) {m : List Gf.F} {M : Nat} (hv : ∀ k, k < M → bt m (1 + 2 * k) < s.Q i ∧ bt m (1 + 2 * k + 1) ≤ 8) : ∀ k, k ≤ M → ∀ q, q < s.Q i → (dat (oat (s.askN i m k).os i).ds q).1 ≤ 8 ∧ (dat (oat (s.askN i m k).os i).ds q).2 = (dat (oat s.os i).ds q).2
  | 0, _, q, hq => ⟨(ok.debt i q hi hq).1, rfl⟩
  | k + 1, hk, q, hq => by
    have ih := askN_debt ok hi hv k (by omega) q hq
    have h8 := hv k (by omega)
    have ih2 := askN_debt ok hi hv k (by omega) _ h8.1
    have hi' : i < (s.askN i m k).os.length := by rw [askN_len]; exact hi
    by_cases e : q = bt m (1 + 2 * k)
    · subst e
      unfold Snd.askN
      rw [dat_setD hi' (by rw [askN_dl hi, ok.blocks i hi]; exact hq)]
      exact ⟨by show max _ _ ≤ 8; omega, ih.2⟩
    · have h9 : dat (oat (s.askN i m (k + 1)).os i).ds q = dat (oat (s.askN i m k).os i).ds q := by
        show dat (oat ((s.askN i m k).setD i (bt m (1 + 2 * k)) _).os i).ds q = _
        rw [Snd.setD_at hi', if_pos rfl]
        simp [dat, Ob.setD, List.getD, Ne.symm e]
      rw [h9]
      exact ih

/-- What Hear gives. -/
def HearGives (A : Nat → Addr) (s : Snd) (l : List Gf.F) (B sb : Nat) (w : World) (e : Ending) (w' : World) : Prop :=
  match parseE s.K s.N s.S l with
  | some (c, k) => ∃ v, e = .returned v ∧ Wr w w' v (k : Int) (E A c) ∧ Below w.heap.size w w'
  | none =>
    if s.os.length ≤ bt l 1 then ∃ v, e = .returned v ∧ Wr w w' v 1 (E A 6) ∧ Below w.heap.size w w'
    else if lenOf l ≠ (oat s.os (bt l 1)).l.length then ∃ v, e = .returned v ∧ Wr w w' v 2 (E A 6) ∧ Below w.heap.size w w'
    else if bt l 0 = 1 then ∃ v, e = .returned v ∧ Wr w w' v 0 (E A 5) ∧ Below w.heap.size w w'
    else e = .returned .nilIface ∧ SAt w' B sb (s.askN (bt l 1) (l.drop 4) (bt (l.drop 4) 0)) ∧ But (s.foot sb) w w'

/-- A packet that is one. -/
theorem ParseGives.packet {A : Nat → Addr} {K N S : Nat} {l : List Gf.F} {w w' : World} {e : Ending} (h : ParseGives A K N S l w e w') (hp : parseE K N S l = none) :
    ∃ (x3 x4 M c6 n5 c5 : Nat) (a5 a6 : Option Addr), e = .returned (.tuple #[.agg #[.int .i64 (bt l 0 : Int), .int .i64 (bt l 1 : Int), .int .i64 (lenOf l : Int), .int .i64 (x3 : Int), .int .i64 (x4 : Int), .slice a5 n5 c5, .slice a6 M c6], .nilIface]) ∧
      (¬ bt l 0 = 1 → M = bt (l.drop 4) 0 ∧ w'.ownsRow w.heap.size 122 2 (.slice a6 M c6) M (lackCells (l.drop 4) M)) ∧ Below w.heap.size w w' := by
  obtain ⟨h1, hb⟩ := h
  rw [hp] at h1
  by_cases hk : bt l 0 = 1
  · simp only [if_pos hk] at h1
    obtain ⟨a, c1, he, _⟩ := h1
    exact ⟨_, _, 0, 0, _, _, a, none, he, fun h => absurd hk h, hb⟩
  · simp only [if_neg hk] at h1
    obtain ⟨a, c1, he, ho⟩ := h1
    exact ⟨0, 0, _, c1, 0, 0, none, a, he, fun _ => ⟨rfl, ho⟩, hb⟩

theorem parse_head {K N S : Nat} {l : List Gf.F} (h : parseE K N S l = none) : (bt l 0 = 1 ∨ bt l 0 = 2) ∧ lenOf l ≤ 255 ∧ bt l 1 < 16 := by
  unfold parseE at h
  cases hh : headE l with
  | some e => rw [hh] at h; cases h
  | none =>
    unfold headE at hh
    split at hh
    · cases hh
    split at hh
    · cases hh
    split at hh
    · cases hh
    split at hh
    · cases hh
    split at hh
    · cases hh
    split at hh
    · cases hh
    rename_i _ h2 _ h4 _ h6
    simp [kindB] at h2
    simp [objB] at h4
    simp [lenB] at h6
    exact ⟨by omega, h6, h4⟩

set_option maxRecDepth 100000 in
set_option maxHeartbeats 2000000 in
theorem hear_any {A : Nat → Addr} {B0 B sb b o n c : Nat} {a : Option Addr} {l : List Gf.F} {s : Snd} {w : World} (h : SAt w B sb s) (ok : s.Ok) (hE : Errs A B0 w) (hET : ErrType w) (hB9 : 8 < w.heap.size) (hl : l.length = n) (hn : n ≤ c) (hc : c ≤ 9223372036854775807) (hn2 : n ≤ 140737488355328) (ha : 0 < n → a = some ⟨b, o, none⟩) (hB : Bs w b o l) (hb : 0 < n → b < w.heap.size) :
    Calls Tryz.prog 16 #[.pointer (some ⟨sb, 0, none⟩), .slice a n c] w (HearGives A s l B sb w) := by
  obtain ⟨c0, c1, c2, _, _, _⟩ := h.cells
  have hP := parse_any A B0 a b o n c s.K s.N s.S l w hE hET hB9 ok.cfg hl hn hc hn2 ha hB hb
  cases hpe : parseE s.K s.N s.S l with
  | some ep =>
    obtain ⟨ec, ek⟩ := ep
    go_enter Tryz.func16, Tryz.ntmps16
    go_wp2_with fail
    refine hP.mono ?_
    intro e w1 hG
    obtain ⟨h1, hb1⟩ := hG
    rw [hpe] at h1
    obtain ⟨v, rfl, pb, rfl, hpb, hblk⟩ := h1
    clear hP c0 c1 c2
    go_wp2_with fail
    go_ret
    unfold HearGives
    rw [hpe]
    exact ⟨_, rfl, ⟨pb, rfl, hpb, (Below.heap_alloc w1 _ pb (lt_of_block hblk)).trans hblk⟩, hb1.alloc hb1.size _⟩
  | none =>
    obtain ⟨hkd, hle, hob⟩ := parse_head hpe
    go_enter Tryz.func16, Tryz.ntmps16
    go_wp2_with fail
    refine hP.mono ?_
    intro e w1 hG
    obtain ⟨x3, x4, M, c6, n5, c5, a5, a6, rfl, hask, hb1⟩ := hG.packet hpe
    clear hP c0 c1 c2 hG
    go_upto_region 4 with fail
    have hb2 : Below w.heap.size w (w1.alloc (.cells #[.int .i64 (bt l 0 : Int), .int .i64 (bt l 1 : Int), .int .i64 (lenOf l : Int), .int .i64 (x3 : Int), .int .i64 (x4 : Int), .slice a5 n5 c5, .slice a6 M c6] 60)) := hb1.alloc hb1.size _
    have hP2 := heap_alloc_new w1 (.cells #[.int .i64 (bt l 0 : Int), .int .i64 (bt l 1 : Int), .int .i64 (lenOf l : Int), .int .i64 (x3 : Int), .int .i64 (x4 : Int), .slice a5 n5 c5, .slice a6 M c6] 60)
    have hbA : Below w1.heap.size w1 (w1.alloc (.cells #[.int .i64 (bt l 0 : Int), .int .i64 (bt l 1 : Int), .int .i64 (lenOf l : Int), .int .i64 (x3 : Int), .int .i64 (x4 : Int), .slice a5 n5 c5, .slice a6 M c6] 60)) := (Below.refl _ _).alloc (Nat.le_refl _) _
    generalize w1.alloc (.cells #[.int .i64 (bt l 0 : Int), .int .i64 (bt l 1 : Int), .int .i64 (lenOf l : Int), .int .i64 (x3 : Int), .int .i64 (x4 : Int), .slice a5 n5 c5, .slice a6 M c6] 60) = W2 at *
    have h2 := h.above hb2
    have hs1 := hb1.size
    have hs2 := hb2.size
    have hE2 := hE.shrink _ hb2
    obtain ⟨y0, y1, y2, _, _, _, y6⟩ := pk7 hP2
    obtain ⟨_, _, _, c3, _, _⟩ := h2.cells
    obtain ⟨va, vc, hvo, _⟩ := own_form2 h2.own
    have HV : Hid (s.vo = .slice va s.os.length vc) := hvo
    rw [hvo] at c3
    have hfew := ok.few
    have g5 := hE2.cell 5 (by omega)
    have g4 := hE2.cell 4 (by omega)
    have g5' : W2.cell? ⟨2, 0, none⟩ = some (.iface 269 (.pointer (some (A 5)))) := g5
    have g4' : W2.cell? ⟨3, 0, none⟩ = some (.iface 269 (.pointer (some (A 4)))) := g4
    clear g5 g4 hvo
    have HG : Hid (∀ (e : Ending) (w' : World), HearGives A s l B sb w e w' = (if s.os.length ≤ bt l 1 then ∃ v, e = .returned v ∧ Wr w w' v 1 (E A 6) ∧ Below w.heap.size w w'
      else if lenOf l ≠ (oat s.os (bt l 1)).l.length then ∃ v, e = .returned v ∧ Wr w w' v 2 (E A 6) ∧ Below w.heap.size w w'
      else if bt l 0 = 1 then ∃ v, e = .returned v ∧ Wr w w' v 0 (E A 5) ∧ Below w.heap.size w w'
      else e = .returned .nilIface ∧ SAt w' B sb (s.askN (bt l 1) (l.drop 4) (bt (l.drop 4) 0)) ∧ But (s.foot sb) w w')) := fun e w' => by
      unfold HearGives; rw [hpe]
    have HWR : Hid (∀ (W : World) (z : Int) (k : Nat), Below w.heap.size w W → Wr w (W.alloc (.cells #[.int .i64 z, .iface 269 (.pointer (some (A k)))] 168)) (.iface 166 (.pointer (some ⟨W.heap.size, 0, none⟩))) z (E A (k + 1)) ∧ Below w.heap.size w (W.alloc (.cells #[.int .i64 z, .iface 269 (.pointer (some (A k)))] 168))) := fun W z k hW => ⟨⟨W.heap.size, rfl, hW.size, heap_alloc_new W _⟩, hW.alloc hW.size _⟩
    obtain ⟨kd, hkde⟩ : ∃ x, x = bt l 0 := ⟨_, rfl⟩
    obtain ⟨ob, hobe⟩ : ∃ x, x = bt l 1 := ⟨_, rfl⟩
    obtain ⟨ln, hlne⟩ : ∃ x, x = lenOf l := ⟨_, rfl⟩
    rw [← hkde] at y0 hkd hask HG ⊢
    rw [← hobe] at y1 hob HG ⊢
    rw [← hlne] at y2 hle HG ⊢
    have HKD : Hid (kd = bt l 0) := hkde
    have HOB : Hid (ob = bt l 1) := hobe
    have HLN : Hid (ln = lenOf l) := hlne
    have HVAL : Hid (¬ kd = 1 → ∀ k, k < bt (l.drop 4) 0 → bt (l.drop 4) (1 + 2 * k) < partsN (symN s.S ln) s.K ∧ 1 ≤ bt (l.drop 4) (1 + 2 * k + 1) ∧ bt (l.drop 4) (1 + 2 * k + 1) ≤ srcN s.K (symN s.S ln) (bt (l.drop 4) (1 + 2 * k))) := fun hk => by rw [hkde] at hk; rw [hlne]; exact (parse_asks hpe hk).2.2.2
    clear hkde hobe hlne hpe
    by_cases hA : s.os.length ≤ ob
    · have hA1 : (s.os.length : Int) ≤ (ob : Int) := by omega
      go_quiet (fail)
      go_wp2_with (go_at_call 41; refine (wrong_any _ _ _ _).mono ?_; rintro e w' ⟨rfl, rfl⟩)
      go_ret
      have hbq : Below w.heap.size w (W2.drewN nq) := hb2.trans ((below_drew (w := W2) (nq := nq) rfl).mono hs2)
      rw [HG.out, if_pos hA]
      exact ⟨_, rfl, (HWR.out _ 1 5 hbq).1, (HWR.out _ 1 5 hbq).2⟩
    · have hA1 : ¬ (s.os.length : Int) ≤ (ob : Int) := by omega
      have hobl : ob < s.os.length := by omega
      go_quiet (fail)
      go_upto_region 6 with fail
      obtain ⟨W3, hW3⟩ : ∃ x, x = W2.drewN nq := ⟨_, rfl⟩
      rw [← hW3]
      have hb23 : Below W2.heap.size W2 W3 := below_drew hW3
      have hb3 := hb2.trans (hb23.mono hs2)
      have h3 := h2.above hb23
      have hP3 := (hb23.block _ (lt_of_block hP2)).trans hP2
      have hE3 := hE2.shrink _ hb23
      have z5 : W3.cell? ⟨2, 0, none⟩ = some (.iface 269 (.pointer (some (A 5)))) := hE3.cell 5 (by omega)
      have z4 : W3.cell? ⟨3, 0, none⟩ = some (.iface 269 (.pointer (some (A 4)))) := hE3.cell 4 (by omega)
      clear hW3 y0 y1 y2 y6 c3 g5' g4'
      rw [← HKD.out, ← HOB.out, ← HLN.out] at hP3
      obtain ⟨y0, y1, y2, _, _, _, y6⟩ := pk7 hP3
      obtain ⟨_, _, _, c3, _, _⟩ := h3.cells
      obtain ⟨g, cp, hv, hcp, hl2⟩ := h3.list (by omega)
      obtain ⟨t0, t1⟩ := hl2 ob hobl
      rw [hv] at c3
      unfold Ob.bv at t0
      unfold Ob.dv at t1
      obtain ⟨oa, hoa⟩ : ∃ x, x = (oat s.os ob).a := ⟨_, rfl⟩
      obtain ⟨ol, hol⟩ : ∃ x, x = (oat s.os ob).l.length := ⟨_, rfl⟩
      obtain ⟨oc, hoc⟩ : ∃ x, x = (oat s.os ob).c := ⟨_, rfl⟩
      obtain ⟨dg, hdg⟩ : ∃ x, x = (oat s.os ob).dg := ⟨_, rfl⟩
      obtain ⟨dn, hdn⟩ : ∃ x, x = (oat s.os ob).ds.length := ⟨_, rfl⟩
      rw [← hoa, ← hol, ← hoc] at t0
      rw [← hdg, ← hdn] at t1
      have HOL : Hid (ol = (oat s.os ob).l.length) := hol
      have HDG : Hid (dg = (oat s.os ob).dg) := hdg
      have HDN : Hid (dn = (oat s.os ob).ds.length) := hdn
      have hol2 : ol ≤ 255 := by rw [hol]; exact ok.len ob hobl
      have hgl := lt_of_cell t0
      have hpl := lt_of_cell y1
      have hsl := lt_of_cell c3
      have hn1 : ¬ sb = W3.heap.size := Nat.ne_of_lt hsl
      have hn2' : ¬ g = W3.heap.size := Nat.ne_of_lt hgl
      have hn3 : ¬ w1.heap.size = W3.heap.size := Nat.ne_of_lt hpl
      have hlt1 : (0 : Int) ≤ (ob : Int) := by omega
      have hlt2 : (ob : Int) < (s.os.length : Int) := by omega
      clear hl2 hv hoa hol hoc hdg hdn HV
      go_cut [7] (fun t wx => ∃ tb, t = .pointer (some ⟨tb, 0, none⟩) ∧ wx.heap[tb]? = some (.cells #[.slice oa ol oc, .slice (some ⟨dg, 0, none⟩) dn dn] 120 (0, 0)) ∧ W3.heap.size ≤ tb ∧ Below W3.heap.size W3 wx)
      case first =>
        go_region_held3 (fun w' => w'.cell? ⟨sb, 3, none⟩ = some (.slice (some ⟨g, 0, none⟩) s.os.length cp) ∧ w'.cell? ⟨w1.heap.size, 1, none⟩ = some (.int .i64 (ob : Int)) ∧ w'.cell? ⟨g, ob * 2, none⟩ = some (.slice oa ol oc) ∧ w'.cell? ⟨g, ob * 2 + 1, none⟩ = some (.slice (some ⟨dg, 0, none⟩) dn dn)) (go_keep) (fail)
        all_goals go_wp2_with fail
        all_goals go_meet
        all_goals exact ⟨W3.heap.size, rfl, heap_alloc_new W3 _, Nat.le_refl _, ((Below.refl _ _).alloc (Nat.le_refl _) _).drew⟩
      case rest =>
        obtain ⟨tb, rfl, hT, htb, hbx⟩ := hcut
        have hs3 := hb3.size
        have hb4 := hb3.trans (hbx.mono hs3)
        have h4 := h3.above hbx
        have hP4 := (hbx.block _ (lt_of_block hP3)).trans hP3
        have hE4 := hE3.shrink _ hbx
        have z5' : wc.cell? ⟨2, 0, none⟩ = some (.iface 269 (.pointer (some (A 5)))) := hE4.cell 5 (by omega)
        have z4' : wc.cell? ⟨3, 0, none⟩ = some (.iface 269 (.pointer (some (A 4)))) := hE4.cell 4 (by omega)
        clear y0 y1 y2 y6 c3 t0 t1 z5 z4
        obtain ⟨y0, y1, y2, _, _, _, y6⟩ := pk7 hP4
        have u0 : wc.cell? ⟨tb, 0, none⟩ = some (.slice oa ol oc) := cell_of_row wc _ 0 _ _ _ hT
        have u1 : wc.cell? ⟨tb, 1, none⟩ = some (.slice (some ⟨dg, 0, none⟩) dn dn) := cell_of_row wc _ 1 _ _ _ hT
        by_cases hL : ln = ol
        · have hL1 : ¬ ((ln : Int) != (ol : Int)) = true := by simp [hL]
          have hL2 : (ln : Int) = (ol : Int) := by omega
          rcases hkd with hkd | hkd
          · have hk2 : ¬ (kd : Int) = 2 := by omega
            go_wp2_with (go_at_call 41; refine (wrong_any _ _ _ _).mono ?_; rintro e w' ⟨rfl, rfl⟩)
            go_ret
            rw [HG.out, if_neg (by omega), if_neg (by rw [← HOL.out]; omega), if_pos hkd]
            exact ⟨_, rfl, (HWR.out _ 0 4 hb4).1, (HWR.out _ 0 4 hb4).2⟩
          · have hk2 : (kd : Int) = 2 := by omega
            obtain ⟨hM, hrow⟩ := hask (by omega)
            have hrow4 : wc.ownsRow w.heap.size 122 2 (.slice a6 M c6) M (lackCells (l.drop 4) M) := own_of_block hrow (fun x hx => ((hbx.block _ (Nat.lt_of_lt_of_le (Nat.lt_of_lt_of_le (hrow.lt x hx).2 hbA.size) hb23.size)).trans (hb23.block _ (Nat.lt_of_lt_of_le (hrow.lt x hx).2 hbA.size))).trans (hbA.block _ (hrow.lt x hx).2))
            have hM2 : M < 256 := by rw [hM]; exact bt_lt _ _
            have HVA : Hid (∀ k, k < M → bt (l.drop 4) (1 + 2 * k) < s.Q ob ∧ bt (l.drop 4) (1 + 2 * k + 1) ≤ 8) := fun k hk => by
              have h9 := HVAL.out (by omega) k (by rw [← hM]; exact hk)
              have hT9 : symN s.S ln = s.T ob := by unfold Snd.T; rw [hL, HOL.out]
              rw [hT9] at h9
              obtain ⟨k1, k8, kn, n16, s1, s8⟩ := ok.cfg
              have : srcN s.K (s.T ob) (bt (l.drop 4) (1 + 2 * k)) ≤ 8 := by unfold srcN; omega
              exact ⟨h9.1, by omega⟩
            have HM : Hid (M = bt (l.drop 4) 0) := hM
            have HDQ : Hid (dn = s.Q ob) := by show _ = _; rw [HDN.out]; exact ok.blocks ob hobl
            generalize l.drop 4 = m at *
            clear hM hask hrow
            go_wp2_with fail
            go_loopw [57] (fun t wr => ∃ k : Nat, k ≤ M ∧ t = .int .i64 (k : Int) ∧ SAt wr B sb (s.askN ob m k) ∧ But (s.foot sb) w wr ∧ Hid (wr.heap[tb]? = some (.cells #[.slice oa ol oc, .slice (some ⟨dg, 0, none⟩) dn dn] 120 (0, 0))) ∧ Hid (wr.ownsRow w.heap.size 122 2 (.slice a6 M c6) M (lackCells m M))) (fun t _ => M - (intOf t).toNat)
            case atStart => exact ⟨0, by omega, rfl, h4, Below.but hb4 (s.foot sb) (fun k hk q => absurd hk q), hT, hrow4⟩
            case round =>
              obtain ⟨k, hkM, rfl, hSA, hBu, hTr, hRr⟩ := hrel
              by_cases hlt : k < M
              · have hi' : ob < (s.askN ob m k).os.length := by rw [askN_len]; exact hobl
                obtain ⟨hvq, hvy⟩ := HVA.out k hlt
                have hqd : bt m (1 + 2 * k) < (oat (s.askN ob m k).os ob).ds.length := by rw [askN_dl hobl, ← HDN.out, HDQ.out]; exact hvq
                obtain ⟨e0, _⟩ := hSA.debt hi' hqd
                have ho8 := (askN_debt ok hobl HVA.out k hkM _ hvq).1
                have hdgk : (oat (s.askN ob m k).os ob).dg = dg := by rw [askN_dg hobl, HDG.out]
                rw [hdgk] at e0
                have hqn : bt m (1 + 2 * k) < dn := by rw [HDQ.out]; exact hvq
                have hdn2 : dn ≤ 256 := by
                  obtain ⟨k1, k8, kn, n16, s1, s8⟩ := ok.cfg
                  have h7 := partsN_le (a := s.T ob) k1
                  have h8 := symN_range (S := s.S) (len := (oat s.os ob).l.length) s1
                  have h9 := ok.len ob hobl
                  rw [HDQ.out]
                  show partsN (s.T ob) s.K ≤ 256
                  have : s.T ob = symN s.S (oat s.os ob).l.length := rfl
                  omega
                obtain ⟨ga, ca, hv6, _, _⟩ := hRr.out.form (by omega)
                simp only [Value.slice.injEq] at hv6
                obtain ⟨rfl, -, -⟩ := hv6
                have eadd : ∀ j, (⟨ga, 0, none⟩ : Addr).add j = ⟨ga, j, none⟩ := fun j => by unfold Addr.add; split <;> simp_all
                have x0 := hRr.out.cells (g := ga) rfl (k * 2) _ (lackCells_get m M k hlt).1
                have x1 := hRr.out.cells (g := ga) rfl (k * 2 + 1) _ (lackCells_get m M k hlt).2
                rw [eadd] at x0 x1
                have u1r : wr.cell? ⟨tb, 1, none⟩ = some (.slice (some ⟨dg, 0, none⟩) dn dn) := cell_of_row wr _ 1 _ _ _ hTr.out
                have HSO : Hid (∀ W, SAt W B sb (s.askN ob m k) → SAt (W.setCell ⟨dg, bt m (1 + 2 * k) * 2, none⟩ (.int .i64 ((max (dat (oat (s.askN ob m k).os ob).ds (bt m (1 + 2 * k))).1 (bt m (1 + 2 * k + 1)) : Nat) : Int))) B sb (s.askN ob m (k + 1)) ∧ But (fun b => b = dg) W (W.setCell ⟨dg, bt m (1 + 2 * k) * 2, none⟩ (.int .i64 ((max (dat (oat (s.askN ob m k).os ob).ds (bt m (1 + 2 * k))).1 (bt m (1 + 2 * k + 1)) : Nat) : Int)))) := fun W hW => by
                  have := hW.owed hi' hqd (max (dat (oat (s.askN ob m k).os ob).ds (bt m (1 + 2 * k))).1 (bt m (1 + 2 * k + 1)))
                  rw [hdgk] at this
                  exact this
                have HFZ : Hid (∀ W, SAt W B sb (s.askN ob m k) → W.frozen? ⟨dg, bt m (1 + 2 * k) * 2, none⟩ = false) := fun W hW => by
                  have := hW.frozenD hi' (bt m (1 + 2 * k) * 2)
                  rw [hdgk] at this
                  exact this
                have hy256 := bt_lt m (1 + 2 * k + 1)
                obtain ⟨od, hod⟩ : ∃ x, x = (dat (oat (s.askN ob m k).os ob).ds (bt m (1 + 2 * k))).1 := ⟨_, rfl⟩
                rw [← hod] at e0 ho8 HSO
                obtain ⟨qb, hqb⟩ : ∃ x, x = bt m (1 + 2 * k) := ⟨_, rfl⟩
                obtain ⟨yb, hyb⟩ : ∃ x, x = bt m (1 + 2 * k + 1) := ⟨_, rfl⟩
                rw [← hqb] at e0 x0 hqn HSO HFZ
                rw [← hyb] at x1 hvy hy256 HSO
                clear hod hqb hyb hqd hdgk hvq eadd y0 y1 y2 y6 u0 u1
                have hlt3 : (0 : Int) ≤ (qb : Int) := by omega
                have hlt4 : (qb : Int) < (dn : Int) := by omega
                have na : ¬ tb = wr.heap.size := Nat.ne_of_lt (lt_of_cell u1r)
                have nb : ¬ dg = wr.heap.size := Nat.ne_of_lt (lt_of_cell e0)
                have nc : ¬ ga = wr.heap.size := Nat.ne_of_lt (lt_of_cell x0)
                go_upto_region 14 with fail
                have hb5 : Below wr.heap.size wr (wr.alloc (.cells #[.int .i64 (qb : Int), .int .i64 (yb : Int)] 122)) := (Below.refl _ _).alloc (Nat.le_refl _) _
                have hL5 := heap_alloc_new wr (.cells #[.int .i64 (qb : Int), .int .i64 (yb : Int)] 122)
                generalize wr.alloc (.cells #[.int .i64 (qb : Int), .int .i64 (yb : Int)] 122) = W5 at *
                have h5 := hSA.above hb5
                have l0 : W5.cell? ⟨wr.heap.size, 0, none⟩ = some (.int .i64 (qb : Int)) := cell_of_row W5 _ 0 _ _ _ hL5
                have l1 : W5.cell? ⟨wr.heap.size, 1, none⟩ = some (.int .i64 (yb : Int)) := cell_of_row W5 _ 1 _ _ _ hL5
                have u1s : W5.cell? ⟨tb, 1, none⟩ = some (.slice (some ⟨dg, 0, none⟩) dn dn) := by rw [hb5.cell (lt_of_cell u1r)]; exact u1r
                have e0s : W5.cell? ⟨dg, qb * 2, none⟩ = some (.int .i64 (od : Int)) := by rw [hb5.cell (lt_of_cell e0)]; exact e0
                have fzs := HFZ.out W5 h5
                have hd5 : SAt W5.drew B sb (s.askN ob m k) := h5.kept (fun _ _ => rfl)
                obtain ⟨hS6, hB6⟩ := HSO.out W5.drew hd5
                have hT5 : Hid (W5.heap[tb]? = some (.cells #[.slice oa ol oc, .slice (some ⟨dg, 0, none⟩) dn dn] 120 (0, 0))) := (hb5.block _ (lt_of_block hTr.out)).trans hTr.out
                have hR5 : Hid (W5.ownsRow w.heap.size 122 2 (.slice (some ⟨ga, 0, none⟩) M c6) M (lackCells m M)) := own_of_block hRr.out (fun x hx => hb5.block _ (hRr.out.lt x hx).2)
                clear x0 x1 u1r e0 na nb nc hRr hTr
                have hdgw : dg < w.heap.size := by rw [HDG.out]; exact lt_of_block (h.debts ob hobl).2
                have hB5 : But (s.foot sb) w W5.drew := (hBu.below hb5 (fun i hi q => absurd (Nat.lt_of_lt_of_le hi hBu.size) q)).drew
                have FIN : Hid (∀ W6, SAt W6 B sb (s.askN ob m (k + 1)) → But (fun b => b = dg) W5.drew W6 → SAt W6 B sb (s.askN ob m (k + 1)) ∧ But (s.foot sb) w W6 ∧ Hid (W6.heap[tb]? = some (.cells #[.slice oa ol oc, .slice (some ⟨dg, 0, none⟩) dn dn] 120 (0, 0))) ∧ Hid (W6.ownsRow w.heap.size 122 2 (.slice (some ⟨ga, 0, none⟩) M c6) M (lackCells m M))) := fun W6 hS hB =>
                  ⟨hS, hB5.trans (hB.wide (fun x _ q => .inr (.inr ⟨ob, hobl, .inl (q.trans HDG.out)⟩))), (hB.block tb (lt_of_block hT5.out) (by omega)).trans hT5.out, hB.own (show W5.drew.ownsRow _ _ _ _ _ _ from hR5.out) (fun x hx q => by have := (hR5.out.lt x hx).1; omega)⟩
                by_cases hmx : yb ≤ od
                · have hm1 : max od yb = od := by omega
                  have hm2 : ¬ (od : Int) < (yb : Int) := by omega
                  have hm3 : (yb : Int) ≤ (od : Int) := by omega
                  rw [hm1] at hS6 hB6
                  obtain ⟨f1, f2, f3, f4⟩ := FIN.out _ hS6 hB6
                  go_wp2_with fail
                  go_region
                  all_goals go_wp2_with fail
                  all_goals go_roundw
                  case rel =>
                    exact ⟨k + 1, by omega, by go_num, f1, f2, f3, f4⟩
                  case measure => simp [intOf]; omega
                · have hm1 : max od yb = yb := by omega
                  have hm2 : (od : Int) < (yb : Int) := by omega
                  have hm3 : ¬ (yb : Int) ≤ (od : Int) := by omega
                  rw [hm1] at hS6 hB6
                  obtain ⟨f1, f2, f3, f4⟩ := FIN.out _ hS6 hB6
                  go_wp2_with fail
                  go_region
                  all_goals go_wp2_with fail
                  all_goals go_roundw
                  case rel =>
                    exact ⟨k + 1, by omega, by go_num, f1, f2, f3, f4⟩
                  case measure => simp [intOf]; omega
              · obtain rfl : k = M := by omega
                go_wp2_with fail
                go_ret
                rw [HG.out, if_neg (by omega), if_neg (by rw [← HOL.out]; omega), if_neg (by omega)]
                refine ⟨rfl, ?_, hBu⟩
                rw [← HM.out]
                exact hSA
        · have hL2 : ¬ (ln : Int) = (ol : Int) := by omega
          go_wp2_with (go_at_call 41; refine (wrong_any _ _ _ _).mono ?_; rintro e w' ⟨rfl, rfl⟩)
          go_ret
          rw [HG.out, if_neg (by omega), if_pos (by rw [← HOL.out]; exact hL)]
          exact ⟨_, rfl, (HWR.out _ 2 5 hb4).1, (HWR.out _ 2 5 hb4).2⟩

end Go.Proofs.YtjabhnhejbhgjaaGreatDoor

/- A receiver of the program: Hear, arm by arm. -/
namespace Go.Proofs.YtjabhnhejbhgjaaGreatDoor
open Go.RowKit Go.Maps

theorem Kn.lks_whole {k : Kn} : ∀ n, (k.lks n).length = 0 ↔ ∀ i, i < n → k.lk i = 0
  | 0 => ⟨fun _ i hi => by omega, fun _ => rfl⟩
  | n + 1 => by
    unfold Kn.lks
    by_cases h : 0 < k.lk n
    · rw [if_pos h]
      refine ⟨fun q => by simp at q, fun q => ?_⟩
      have := q n (by omega)
      omega
    · rw [if_neg h, Kn.lks_whole n]
      refine ⟨fun q i hi => ?_, fun q i hi => q i (by omega)⟩
      by_cases e : i = n
      · subst e
        omega
      · exact q i (by omega)
theorem Kn.whole_iff {k : Kn} (ok : k.Ok) : (k.lks k.ts.length).length = 0 ↔ k.whole := by
  rw [Kn.lks_whole]
  refine ⟨fun h i hi => ?_, fun h i hi => ?_⟩
  · have := h i hi
    have := ok.few i hi
    unfold Kn.lk at *
    omega
  · have := h i hi
    unfold Kn.lk
    omega

theorem rcvHear_shut {A : Nat → Addr} {B0 B rb n c : Nat} {a : Option Addr} {r : Rcv} {w : World} (h : RcAt w B rb r) (hE : Errs A B0 w) (hs : r.shut = true) :
    Calls Tryz.prog 21 #[.pointer (some ⟨rb, 0, none⟩), .slice a n c] w fun e w' => e = .returned (E A 8) ∧ w' = w := by
  have HC := h.isClosed
  have g7 : w.cell? ⟨0, 0, none⟩ = some (.iface 269 (.pointer (some (A 7)))) := hE.cell 7 (by omega)
  rw [hs] at HC
  go_enter Tryz.func21, Tryz.ntmps21
  go_wp2_with fail
  refine HC.mono ?_
  rintro e w1 ⟨rfl, rfl⟩
  go_wp2_with fail
  go_ret
  exact ⟨rfl, rfl⟩

set_option maxRecDepth 100000 in
set_option maxHeartbeats 2000000 in
theorem rcvHear_bad {A : Nat → Addr} {B0 B rb b o n c ec ek : Nat} {a : Option Addr} {l : List Gf.F} {r : Rcv} {w : World} (h : RcAt w B rb r) (ok : r.Ok) (hE : Errs A B0 w) (hET : ErrType w) (hB9 : 8 < w.heap.size) (hl : l.length = n) (hn : n ≤ c) (hc : c ≤ 9223372036854775807) (hn2 : n ≤ 140737488355328) (ha : 0 < n → a = some ⟨b, o, none⟩) (hB : Bs w b o l) (hb : 0 < n → b < w.heap.size)
    (hs : r.shut = false) (hpe : parseE r.K r.N r.S l = some (ec, ek)) :
    Calls Tryz.prog 21 #[.pointer (some ⟨rb, 0, none⟩), .slice a n c] w fun e w' => ∃ v, e = .returned v ∧ Wr w w' v (ek : Int) (E A ec) ∧ Below w.heap.size w w' := by
  have HC := h.isClosed
  rw [hs] at HC
  obtain ⟨c0, c1, c2, _, _⟩ := h.head
  have hP := parse_any A B0 a b o n c r.K r.N r.S l w hE hET hB9 ok.cfg hl hn hc hn2 ha hB hb
  go_enter Tryz.func21, Tryz.ntmps21
  go_wp2_with fail
  refine HC.mono ?_
  rintro e w1 ⟨rfl, rfl⟩
  go_wp2_with fail
  refine hP.mono ?_
  intro e w2 hG
  obtain ⟨h1, hb1⟩ := hG
  rw [hpe] at h1
  obtain ⟨v, rfl, pb, rfl, hpb, hblk⟩ := h1
  clear hP HC c0 c1 c2
  go_wp2_with fail
  go_ret
  exact ⟨_, rfl, ⟨pb, rfl, hpb, (Below.heap_alloc w2 _ pb (lt_of_block hblk)).trans hblk⟩, hb1.alloc hb1.size _⟩

set_option maxRecDepth 100000 in
set_option maxHeartbeats 2000000 in
theorem rcvHear_skip {A : Nat → Addr} {B0 B rb b o n c : Nat} {a : Option Addr} {l : List Gf.F} {r : Rcv} {w : World} (h : RcAt w B rb r) (ok : r.Ok) (hE : Errs A B0 w) (hET : ErrType w) (hB9 : 8 < w.heap.size) (hl : l.length = n) (hn : n ≤ c) (hc : c ≤ 9223372036854775807) (hn2 : n ≤ 140737488355328) (ha : 0 < n → a = some ⟨b, o, none⟩) (hB : Bs w b o l) (hb : 0 < n → b < w.heap.size)
    (hs : r.shut = false) (hpe : parseE r.K r.N r.S l = none) (hsk : ¬ bt l 0 = 1 ∨ r.tk.getD (bt l 1) false = true) :
    Calls Tryz.prog 21 #[.pointer (some ⟨rb, 0, none⟩), .slice a n c] w fun e w' => e = .returned .nilIface ∧ Below w.heap.size w w' := by
  have HC := h.isClosed
  rw [hs] at HC
  obtain ⟨c0, c1, c2, _, _⟩ := h.head
  obtain ⟨hkd, hle, hob⟩ := parse_head hpe
  have hP := parse_any A B0 a b o n c r.K r.N r.S l w hE hET hB9 ok.cfg hl hn hc hn2 ha hB hb
  go_enter Tryz.func21, Tryz.ntmps21
  go_wp2_with fail
  refine HC.mono ?_
  rintro e w1 ⟨rfl, rfl⟩
  go_wp2_with fail
  refine hP.mono ?_
  intro e w2 hG
  obtain ⟨x3, x4, M, c6, n5, c5, a5, a6, rfl, _, hb1⟩ := hG.packet hpe
  clear hP HC c0 c1 c2 hG
  go_upto_region 6 with fail
  have hb2 := hb1.alloc hb1.size (.cells #[.int .i64 (bt l 0 : Int), .int .i64 (bt l 1 : Int), .int .i64 (lenOf l : Int), .int .i64 (x3 : Int), .int .i64 (x4 : Int), .slice a5 n5 c5, .slice a6 M c6] 60)
  have hP2 := heap_alloc_new w2 (.cells #[.int .i64 (bt l 0 : Int), .int .i64 (bt l 1 : Int), .int .i64 (lenOf l : Int), .int .i64 (x3 : Int), .int .i64 (x4 : Int), .slice a5 n5 c5, .slice a6 M c6] 60)
  generalize w2.alloc (.cells #[.int .i64 (bt l 0 : Int), .int .i64 (bt l 1 : Int), .int .i64 (lenOf l : Int), .int .i64 (x3 : Int), .int .i64 (x4 : Int), .slice a5 n5 c5, .slice a6 M c6] 60) = W at *
  obtain ⟨y0, y1, y2, _, _, _, _⟩ := pk7 hP2
  have h2 := h.above hb2
  have d5 := h2.taken (m := bt l 1) (by rw [ok.tk]; exact hob)
  have HB : Hid (Below w1.heap.size w1 W) := hb2
  generalize bt l 0 = kd at *
  generalize bt l 1 = ob at *
  generalize lenOf l = ln at *
  clear h h2 hE hET hB hb hb1 hb2 hP2 ha
  by_cases hk : kd = 1
  · subst hk
    have ht : r.tk.getD ob false = true := hsk.resolve_left (fun q => q rfl)
    rw [ht] at d5
    go_quiet (fail)
    go_wp2_with fail
    go_ret
    exact ⟨rfl, HB.out.trans ((below_drew rfl).mono HB.out.size)⟩
  · have hk1 : ¬ (kd : Int) = 1 := by omega
    go_quiet (fail)
    go_wp2_with fail
    go_ret
    exact ⟨rfl, HB.out.trans ((below_drew rfl).mono HB.out.size)⟩

end Go.Proofs.YtjabhnhejbhgjaaGreatDoor

/- A receiver of the program: Hear, a data packet. -/
namespace Go.Proofs.YtjabhnhejbhgjaaGreatDoor
open Go.RowKit Go.Maps

theorem parse_dataE {K N S : Nat} {l : List Gf.F} (h : parseE K N S l = none) (hk : bt l 0 = 1) : bt (l.drop 4) 0 < partsN (symN S (lenOf l)) K ∧ ((l.drop 4).drop 2).length = S := by
  unfold parseE at h
  cases hh : headE l with
  | some e => rw [hh] at h; cases h
  | none =>
    rw [hh] at h
    simp only [if_pos hk, Option.map_eq_none_iff] at h
    generalize l.drop 4 = m at *
    unfold dataB at h
    split at h
    · cases h
    split at h
    · cases h
    rename_i h2
    split at h
    · cases h
    split at h
    · cases h
    split at h
    · cases h
    split at h
    · cases h
    refine ⟨?_, by rw [List.length_drop]; omega⟩
    simp [winB] at h2
    omega

theorem ParseGives.data {A : Nat → Addr} {K N S : Nat} {l : List Gf.F} {w w' : World} {e : Ending} (h : ParseGives A K N S l w e w') (hp : parseE K N S l = none) (hk : bt l 0 = 1) (hS : 1 ≤ S) :
    ∃ q : Row, e = .returned (.tuple #[.agg #[.int .i64 1, .int .i64 (bt l 1 : Int), .int .i64 (lenOf l : Int), .int .i64 (bt (l.drop 4) 0 : Int), .int .i64 (bt (l.drop 4) 1 : Int), .slice (some ⟨q.b, q.o, none⟩) q.l.length q.c, .slice none 0 0], .nilIface]) ∧ q.l = (l.drop 4).drop 2 ∧ q.o = 0 ∧ w.heap.size ≤ q.b ∧ w'.ownsRow w.heap.size 5 1 q.val q.l.length (encL q.l) ∧ Below w.heap.size w w' := by
  obtain ⟨h1, hb⟩ := h
  rw [hp] at h1
  simp only [if_pos hk] at h1
  obtain ⟨a, c1, rfl, hown⟩ := h1
  obtain ⟨_, hl⟩ := parse_dataE hp hk
  obtain ⟨g, cap, hv, _⟩ := hown.form (by omega)
  rw [hv] at hown ⊢
  refine ⟨⟨g, 0, cap, (l.drop 4).drop 2⟩, ?_, rfl, rfl, (hown.lt g (by simp [Value.ownBlock])).1, ?_, hb⟩
  · simp only [hl, hk]
    rfl
  · simp only [Row.val, hl]
    exact hown

/-- What is known of the object from now on: as it was, or nothing yet. -/
def Begun (r : Rcv) (m len kb : Nat) (k : Kn) (r1 : Rcv) : Prop :=
  (r.kf m = some (kb, k) ∧ k.len = len ∧ r1 = r) ∨ (r.kf m = none ∧ cntF r.kf 16 < 4 ∧ (∃ bg, k = kn0 r.K r.N r.S len bg) ∧ r1 = r.put m kb k)

theorem put_foot {r : Rcv} {rb m kb bg K N S len H b : Nat} (hlo : H ≤ kb ∧ H ≤ bg) (h : (r.put m kb (kn0 K N S len bg)).foot rb b) : r.foot rb b ∨ H ≤ b := by
  rcases h with h | h | h | h | h | ⟨i, b', q, hi, he, h⟩
  · exact .inl (.inl h)
  · exact .inl (.inr (.inl h))
  · exact .inl (.inr (.inr (.inl h)))
  · exact .inl (.inr (.inr (.inr (.inl h))))
  · exact .inl (.inr (.inr (.inr (.inr (.inl h)))))
  · change updF r.kf m _ i = some (b', q) at he
    by_cases e : i = m
    · subst e
      rw [updF_same] at he
      cases he
      rcases h with h | h | ⟨j, hj, h⟩
      · exact .inr (by rw [h]; exact hlo.1)
      · exact .inr (by rw [h]; exact hlo.2)
      · unfold kn0 at h
        rw [gpt0] at h
        simp [pt0, Value.ownBlock] at h
    · rw [updF_other _ _ e] at he
      exact .inl (.inr (.inr (.inr (.inr (.inr ⟨i, b', q, hi, he, h⟩)))))

theorem ObjGives.three {A : Nat → Addr} {r : Rcv} {m len B rb : Nat} {w w' : World} {e : Ending} (h : ObjGives A r m len B rb w e w') (hR : RcAt w B rb r) (ok : r.Ok) (hm : m < 16) (hlen : len ≤ 255) :
    (∃ kb k v, r.kf m = some (kb, k) ∧ k.len ≠ len ∧ e = .returned (.tuple #[.pointer none, v]) ∧ Wr w w' v 2 (E A 6) ∧ Below w.heap.size w w') ∨
    (r.kf m = none ∧ cntF r.kf 16 = 4 ∧ e = .returned (.tuple #[.pointer none, E A 3]) ∧ Below w.heap.size w w') ∨
    (∃ kb k r1, e = .returned (.tuple #[.pointer (some ⟨kb, 0, none⟩), .nilIface]) ∧ Begun r m len kb k r1 ∧ RcAt w' B rb r1 ∧ r1.Ok ∧ r1.kf m = some (kb, k) ∧ But (fun b => b = r.mb) w w' ∧ ∀ b, r1.foot rb b → r.foot rb b ∨ w.heap.size ≤ b) := by
  rcases h with ⟨kb, k, he, hl, rfl, hb⟩ | h | h | ⟨hn, hc, kb, bg, rfl, hlo, hR', hb⟩
  · exact .inr (.inr ⟨kb, k, r, rfl, .inl ⟨he, hl, rfl⟩, hR.above hb, ok, he, Below.but hb _ (fun i h1 h2 => absurd h1 h2), fun b q => .inl q⟩)
  · exact .inl h
  · exact .inr (.inl h)
  · exact .inr (.inr ⟨kb, _, _, rfl, .inr ⟨hn, hc, ⟨bg, rfl⟩, rfl⟩, hR', Rcv.put_ok ok hm hn hc ⟨kn0_ok ok.cfg hlen, rfl, rfl, rfl⟩, updF_same _ _ _, hb, fun b q => put_foot hlo q⟩)

/-- The symbol is kept, if it is of use. -/
def Kept (k : Kn) (i : Nat) (x : Gf.F) (d : List Gf.F) (k' : Kn) : Prop := (¬ k.use i x ∧ k' = k) ∨ (k.use i x ∧ ∃ (q : Row) (pv sv : Value), q.l = d ∧ q.o = 0 ∧ k' = k.add i x q pv sv)

theorem Rcv.know_same {r : Rcv} {m kb : Nat} {k : Kn} (h : r.kf m = some (kb, k)) : r.know m kb k = r := by
  unfold Rcv.know
  have e : updF r.kf m (some (kb, k)) = r.kf := by
    funext i
    by_cases q : i = m
    · subst q
      rw [updF_same, h]
    · rw [updF_other _ _ q]
  rw [e]

theorem RcAt.lowB {w : World} {B rb : Nat} {r : Rcv} (h : RcAt w B rb r) : B ≤ w.heap.size := Nat.le_trans h.low.1 (Nat.le_of_lt (lt_of_block h.blk))

theorem AddGives.kept {w w' : World} {B rb ob kb bl : Nat} {k : Kn} {x : Gf.F} {q : Row} {d : List Gf.F} {r : Rcv} {e : Ending} (hA : AddGives k bl x q B kb w e w') (h : RcAt w B rb r) (ok : r.Ok) (hob : ob < 16) (he : r.kf ob = some (kb, k)) (hi : bl < k.ts.length)
    (hq : q.l = d ∧ q.o = 0) (hd : d.length = r.S) (hqn : ¬ r.foot rb q.b) :
    e = .returned (.tuple #[]) ∧ ∃ k', Kept k bl x d k' ∧ RcAt w' B rb (r.know ob kb k') ∧ (r.know ob kb k').Ok ∧ But (k.foot kb) w w' ∧ ∀ b, k'.foot kb b → k.foot kb b ∨ w.heap.size ≤ b ∨ b = q.b := by
  obtain ⟨rfl, hA⟩ := hA
  obtain ⟨o1, o2, o3, o4⟩ := ok.known ob kb k hob he
  refine ⟨rfl, ?_⟩
  rcases hA with ⟨hu, hb⟩ | ⟨hu, pv, sv, hK, hb, hf⟩
  · refine ⟨k, .inl ⟨hu, rfl⟩, ?_, ?_, Below.but hb _ (fun i h1 h2 => absurd h1 h2), fun _ z => .inl z⟩
    · rw [Rcv.know_same he]
      exact h.above hb
    · rw [Rcv.know_same he]
      exact ok
  · refine ⟨_, .inr ⟨hu, q, pv, sv, hq.1, hq.2, rfl⟩, h.know hob he hK hb (fun b hx => ?_), Rcv.know_ok ok hob he ⟨Kn.add_ok o1 hi hu.1 ⟨by rw [hq.1, hd, o4], hq.2⟩, o2, o3, o4⟩, hb, hf⟩
    rcases hf b hx with y | y | y
    · exact .inl y
    · exact .inr (fun z => by have := (h.foot_lt z).2; omega)
    · exact .inr (by rw [y]; exact hqn)

theorem Begun.facts {r r1 : Rcv} {m len kb : Nat} {k : Kn} (h : Begun r m len kb k r1) : k.len = len ∧ r1.K = r.K ∧ r1.N = r.N ∧ r1.S = r.S ∧ r1.un = r.un ∧ r1.mb = r.mb ∧ r1.uv = r.uv := by
  rcases h with ⟨_, hl, rfl⟩ | ⟨_, _, ⟨bg, rfl⟩, rfl⟩
  · exact ⟨hl, rfl, rfl, rfl, rfl, rfl, rfl⟩
  · exact ⟨rfl, rfl, rfl, rfl, rfl, rfl, rfl⟩

theorem cat_take {k : Kn} (ok : k.Ok) (_hw : k.whole) : ((k.cat k.ts.length).take k.len).length = k.len := by
  obtain ⟨k1, k8, kn, n16, s1, s8⟩ := ok.cfg
  have hTr := symN_range (S := k.S) (len := k.len) s1
  have hTe : k.T = symN k.S k.len := rfl
  have hbl := ok.blocks
  obtain ⟨Q, hQ⟩ : ∃ x, x = k.ts.length := ⟨_, rfl⟩
  rw [← hQ] at hbl ⊢
  have h1 := parts_cover k.T k1
  have h2 := parts_cover k.len s1
  have h3 : partsN k.len k.S ≤ k.T := by rw [hTe]; unfold symN; omega
  have h4 : Q * k.K ≤ k.T + k.K := by
    by_cases e : Q = 0
    · subst e; omega
    · obtain ⟨j, rfl⟩ : ∃ j, Q = j + 1 := ⟨Q - 1, by omega⟩
      have := partsN_mul k1 (show j < partsN k.T k.K by omega)
      rw [Nat.succ_mul]; omega
  have h5 : k.T ≤ Q * k.K := by rw [hbl]; exact h1
  rw [List.length_take, k.cat_len Q h4, Nat.min_eq_right h5]
  have h6 : partsN k.len k.S * k.S ≤ k.T * k.S := Nat.mul_le_mul_right _ h3
  omega

/-- What Hear gives for a data packet of an object that was not taken. -/
def DataHeard (A : Nat → Addr) (r : Rcv) (ob ln bl : Nat) (x : Gf.F) (d : List Gf.F) (B rb : Nat) (w : World) (e : Ending) (w' : World) : Prop :=
  (∃ kb k v, r.kf ob = some (kb, k) ∧ k.len ≠ ln ∧ e = .returned v ∧ Wr w w' v 2 (E A 6) ∧ Below w.heap.size w w') ∨
  (r.kf ob = none ∧ cntF r.kf 16 = 4 ∧ e = .returned (E A 3) ∧ Below w.heap.size w w') ∨
  (e = .returned .nilIface ∧ But (r.foot rb) w w' ∧ ∃ kb k r1 k', Begun r ob ln kb k r1 ∧ Kept k bl x d k' ∧
    ((¬ k'.whole ∧ RcAt w' B rb (r1.know ob kb k') ∧ ∀ b, (r1.know ob kb k').foot rb b → r.foot rb b ∨ w.heap.size ≤ b) ∨
     (k'.whole ∧ ∃ g v, RcAt w' B rb ((r1.know ob kb k').done ⟨ob, g, (k'.cat k'.ts.length).take k'.len⟩ v) ∧ ∀ b, ((r1.know ob kb k').done ⟨ob, g, (k'.cat k'.ts.length).take k'.len⟩ v).foot rb b → r.foot rb b ∨ w.heap.size ≤ b)))

theorem know_foot {r : Rcv} {rb m kb b : Nat} {k k' : Kn} {X : Nat → Prop} (hm : m < 16) (he : r.kf m = some (kb, k)) (hf : ∀ b, k'.foot kb b → k.foot kb b ∨ X b) (h : (r.know m kb k').foot rb b) : r.foot rb b ∨ X b := by
  rcases h with h | h | h | h | h | ⟨i, b', q, hi, e, h⟩
  · exact .inl (.inl h)
  · exact .inl (.inr (.inl h))
  · exact .inl (.inr (.inr (.inl h)))
  · exact .inl (.inr (.inr (.inr (.inl h))))
  · exact .inl (.inr (.inr (.inr (.inr (.inl h)))))
  · change updF r.kf m (some (kb, k')) i = some (b', q) at e
    by_cases hi' : i = m
    · subst hi'
      rw [updF_same] at e
      cases e
      exact (hf b h).imp (fun z => .inr (.inr (.inr (.inr (.inr ⟨i, kb, k, hm, he, z⟩))))) id
    · rw [updF_other _ _ hi'] at e
      exact .inl (.inr (.inr (.inr (.inr (.inr ⟨i, b', q, hi, e, h⟩)))))
theorem done_foot {r : Rcv} {rb b : Nat} {u : Un} {v : Value} (h : (r.done u v).foot rb b) : r.foot rb b ∨ v.ownBlock = some b ∨ b = u.g := by
  rcases h with h | h | h | h | ⟨x, hx, h⟩ | ⟨i, b', q, hi, e, h⟩
  · exact .inl (.inl h)
  · exact .inl (.inr (.inl h))
  · exact .inl (.inr (.inr (.inl h)))
  · exact .inr (.inl h)
  · change x ∈ r.un ++ [u] at hx
    rcases List.mem_append.1 hx with z | z
    · exact .inl (.inr (.inr (.inr (.inr (.inl ⟨x, z, h⟩)))))
    · rw [List.mem_singleton.1 z] at h
      exact .inr (.inr h)
  · change updF r.kf u.n none i = some (b', q) at e
    by_cases hi' : i = u.n
    · subst hi'
      rw [updF_same] at e
      cases e
    · rw [updF_other _ _ hi'] at e
      exact .inl (.inr (.inr (.inr (.inr (.inr ⟨i, b', q, hi, e, h⟩)))))

end Go.Proofs.YtjabhnhejbhgjaaGreatDoor
