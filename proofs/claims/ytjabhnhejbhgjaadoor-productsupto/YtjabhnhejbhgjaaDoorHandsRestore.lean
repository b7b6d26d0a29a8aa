/- Hands.restore. -/
import Derived.Test.YtjabhnhejbhgjaaDoorKeepListWalk
import Derived.Test.YtjabhnhejbhgjaaDoorSameWalk
namespace Go.Proofs.YtjabhnhejbhgjaaDoor
open Go.RowKit

/-- A list of numbers of the caller, made ahead of Hands. -/
structure CameZ (w : World) (hb : Nat) (az : Option Addr) (zb zo zn : Nat) (l : List Int) : Prop where
  len : l.length = zn
  few : zn ≤ 14073748835500
  adr : 0 < zn → az = some ⟨zb, zo, none⟩
  zs : Zs w zb zo l
  low : zb < hb

theorem Zs.but {w w' : World} {b o : Nat} {l : List Int} {S : Nat → Prop} (h : Zs w b o l) (hb : But S w w') (hn : ¬ S b) : Zs w' b o l :=
  fun i hi => by rw [World.cell?_of_block (hb.block b (lt_of_cell (h i hi)) hn)]; exact h i hi
theorem own_base_any {w : World} {B B' n sz : Nat} {e : TypeId} {v : Value} {xs : List Value} (h : w.ownsRow B e sz v n xs) (hB : B' ≤ B) : w.ownsRow B' e sz v n xs := by
  obtain ⟨h1, h2⟩ := h
  refine ⟨h1, ?_⟩
  rcases h2 with h2 | ⟨g', cap, cur, h3, h4, h5⟩
  · exact .inl h2
  · exact .inr ⟨g', cap, cur, h3, Nat.le_trans hB h4, h5⟩
theorem Lent.base {w : World} {B B' : Nat} {v : Value} {rs : List Raw} {gs : List Nat} {k : Nat} (h : Lent w B v rs gs k) (hB : B' ≤ B) : Lent w B' v rs gs k :=
  ⟨h.len, own_base_any h.own hB, fun i hi => Nat.le_trans hB (h.low i hi), h.blk, h.apart⟩

theorem CameZ.but {w w' : World} {hb zb zo zn : Nat} {az : Option Addr} {l : List Int} {S : Nat → Prop} (h : CameZ w hb az zb zo zn l) (hb' : But S w w') (hS : ∀ b, S b → hb ≤ b) : CameZ w' hb az zb zo zn l :=
  ⟨h.len, h.few, h.adr, h.zs.but hb' (fun q => by have := hS _ q; have := h.low; omega), h.low⟩

theorem markedZ_zs {w : World} {g : Nat} {l : List Int} (h : ZBlk w g (markedZ l)) : Zs w g 0 l := by
  have hz := h.zs
  intro i hi
  have := hz i (by unfold markedZ; simp; omega)
  unfold markedZ at this
  unfold zat at this ⊢
  rw [List.getD_eq_getElem?_getD, List.getElem?_append_left hi, ← List.getD_eq_getElem?_getD] at this
  exact this

set_option maxRecDepth 100000 in
set_option maxHeartbeats 2000000 in
theorem restoreH_any (A : Nat → Addr) (B0 hb N lb lo lc sn zb zo zc zn : Nat) (al az : Option Addr) (rs : List Raw) (l : List Int) (k : Int) (s : HS) (es : List Ent) (w : World) (hI : Inv A B0 w hb N s es []) (hC : Came w hb al lb lo sn rs) (hZ : CameZ w hb az zb zo zn l) (hN : N ≤ 100) (hes : es.length ≤ 1000) :
    Calls Tryd.prog 13 #[.pointer (some ⟨hb, 0, none⟩), .int .i64 k, .slice az zn zc, .slice al sn lc] w fun e w' =>
      e = .returned (.bool true) ∧ ∃ N' s' eo lo', Inv A B0 w' hb N' s' eo lo' ∧ N' ≤ N + 9 ∧ eo.length ≤ es.length + 32 ∧ lo'.length ≤ 4 ∧ Below hb w w' := by
  have hbl := hI.hands.lt
  go_enter Tryd.func13, Tryd.ntmps13
  go_wp2_with fail
  refine (numbers_any az hb zb zo zc zn s l w hZ.len hZ.few hZ.adr hZ.zs hI.hands hI.ints0 hI.want0).mono ?_
  rintro e w0 ⟨vi, vw, rfl, hQ⟩
  have hs0 := hQ.but.size
  have hC0 := hC.but hQ.but (fun b q => by omega)
  have hzlt := hQ.blk.lt
  go_wp2_with fail
  refine (list_any al hb lb lo lc sn { s with ints := vi, iwant := vw } rs w0 hC.len hC.few (fun i hi => by have := hC.small i hi; omega) hC.adr hC0.ws (by have := hC.lbLow; omega) (fun i hi h0 q => by have := hC.rowLow i hi h0 hb q; omega) hQ.hands hI.in0 hI.rows0).mono ?_
  rintro e w1 ⟨gs, v1, vr1, rfl, hL⟩
  have hbut1 : But (fun b => b = hb) w w1 := hQ.but.then hL.but (fun b _ q => q)
  have hE1 : Errs A B0 w1 := hI.errs.below (hbut1.toBelow hI.errs.size (fun k hk q => by have := hI.low; omega))
  have hgl : ∀ i, i < sn → gat gs i < w1.heap.size := fun i hi => (hL.lent.blk i hi).lt
  have hs1 := hL.but.size
  have hZb1 : ZBlk w1 w.heap.size (markedZ l) := hQ.blk.kept (hL.but.block _ hzlt (by omega))
  go_wp2_with fail
  refine (progRest A B0 w0.heap.size w.heap.size zn sn k l rs gs w1 hE1 hZ.len hC.len hZ.few hC.few hC.small (markedZ_zs hZb1) hL.rsIn hgl).mono ?_
  rintro e w2 ⟨va, us, rfl, hR, hRL, hb2⟩
  have hs2 := hb2.size
  go_wp2_with fail
  have hbut2 : But (fun b => b = hb) w w2 := hbut1.below hb2 (fun i hi h => absurd (Nat.lt_of_lt_of_le hi hbut1.size) h)
  have hC2 := hC.but hbut2 (fun b q => by omega)
  have hZ2 := hZ.but hbut2 (fun b q => by omega)
  refine (back_any hb w.heap.size w1.heap.size sn 1 1 w0.heap.size w.heap.size zn lb lo lc zb zo zc al az { s with ints := vi, iwant := vw, in_ := v1, rows := vr1 } rs gs l w2 hC.few hbl (hL.hands.kept (hb2.block hb (by omega))) ?b1 hgl ?b2 ?b3 ?b4).mono ?_
  case b1 =>
    have hl2 := hL.lent.kept (S := fun _ => False) (Below.but hb2 _ (fun i hi h => absurd hi h)) (fun _ _ q => q) (fun _ _ q => q)
    exact hl2.base hs0
  case b2 => exact fun i hi => ⟨(hC2.ws i (by rw [hC.len]; exact hi)).2, by have := hC.small i hi; omega, fun h0 g hg => by have := hC.rowLow i hi h0 g hg; omega⟩
  case b3 =>
    have hX : w2.heap[w0.heap.size]? = some (.cells (lendCells rs gs sn sn) 33 (0, 0)) := by rw [hb2.block _ (Array.getElem?_eq_some_iff.1 hL.list).1]; exact hL.list
    exact ⟨Nat.le_refl _, own_base (own_of_block hL.rows (fun g hg => hb2.block g (hL.rows.lt g hg).2)) hs0, fun _ => ⟨hX, hs0, (Array.getElem?_eq_some_iff.1 hL.list).1, by have := hC.lbLow; omega, hC.adr, fun i hi => (hC2.ws i (by rw [hC.len]; exact hi)).1⟩⟩
  case b4 =>
    have hi1 := hL.but.own hQ.ints (fun g hg q => own_ne hQ.ints hg hQ.hands (by decide) q)
    have hw1 := hL.but.own hQ.want (fun g hg q => own_ne hQ.want hg hQ.hands (by decide) q)
    exact ⟨Nat.le_refl _, own_of_block hi1 (fun g hg => hb2.block g (hi1.lt g hg).2), own_of_block hw1 (fun g hg => hb2.block g (hw1.lt g hg).2), fun _ => ⟨hZb1.kept (hb2.block _ hZb1.lt), Nat.le_refl _, hZb1.lt, hZ.len, hZ.few, by have := hZ.low; omega, hZ.adr, hZ2.zs⟩⟩
  rintro e w3 ⟨rfl, hH3, hb3⟩
  have e4 := HS.nil4 s hI.in0 hI.rows0 hI.ints0 hI.want0
  have hH3' : HAt w3 hb s := by rw [← e4]; exact hH3
  have hbut3 : But (fun b => b = hb) w w3 := hbut2.then hb3 (fun b hlt q => by rcases q with q | q; exact q; omega)
  have hs3 := hb3.size
  have hnot3 : ∀ {B : Nat} {t : TypeId} {n : Nat} {v : Value} {xs : List Value}, w2.ownsRow w1.heap.size t 1 v n xs → w3.ownsRow w1.heap.size t 1 v n xs := fun h => hb3.own h (fun g hg q => by have := (h.lt g hg).1; omega)
  have hR3 : OutRows w3 w1.heap.size va (restN l rs zn sn k) (wat rs 0).l.length us := ⟨hnot3 (B := 0) hR.own, fun i u hu => ⟨_, hnot3 (B := 0) (hRL i u hu)⟩, hR.apart⟩
  have hRL3 := fun i u (hu : us[i]? = some u) => hnot3 (B := 0) (hRL i u hu)
  have hC3 := hC.but hbut3 (fun b q => by omega)
  have hZ3 := hZ.but hbut3 (fun b q => by omega)
  clear hH3 e4 hnot3
  go_wp2_with fail
  refine (refRest az al zb zo zc zn lb lo lc sn k l rs w3 hZ.len hC.len hZ.few hC.few hC.small hZ.adr hC.adr hZ3.zs hC3.ws).mono ?_
  rintro e w4 ⟨vw', us', rfl, hW', hWL', hb4⟩
  have hs4 := hb4.size
  have hbut4 : But (fun b => b = hb) w w4 := hbut3.below hb4 (fun i hi h => absurd (Nat.lt_of_lt_of_le hi hbut3.size) h)
  have hkeep4 : ∀ {B : Nat} {t : TypeId} {n : Nat} {v : Value} {xs : List Value}, w3.ownsRow B t 1 v n xs → w4.ownsRow B t 1 v n xs := fun h => own_of_block h (fun g hg => hb4.block g (h.lt g hg).2)
  have hR4 : OutRows w4 w1.heap.size va (restN l rs zn sn k) (wat rs 0).l.length us := ⟨hkeep4 hR3.own, fun i u hu => ⟨_, hkeep4 (hRL3 i u hu)⟩, hR.apart⟩
  have hRL4 := fun i u (hu : us[i]? = some u) => hkeep4 (hRL3 i u hu)
  have hE4 : Errs A B0 w4 := hI.errs.below (hbut4.toBelow hI.errs.size (fun k hk q => by have := hI.low; omega))
  have hcode := restC_code l rs zn sn k
  have hn8 := @restN_le l rs zn sn k
  have hlen := fun i => symR_length l rs zn (BitVec.ofNat 8 i) (wat rs 0).l.length
  have hm : (wat rs 0).l.length ≤ 14073748835000 := by
    by_cases h0 : 0 < sn
    · exact hC.small 0 h0
    · have : rs = [] := by cases rs; rfl; have := hC.len; simp at this; omega
      subst this; simp [wat, List.getD, raw0]
  generalize hm0 : (wat rs 0).l.length = m at *
  generalize hLL : (fun i : Nat => symR l rs zn (BitVec.ofNat 8 i) m) = L at *
  have hRL5 : ∀ (i : Nat) (u : Value), us[i]? = some u → w4.ownsRow w1.heap.size 5 1 u m (encL (L i)) := fun i u hu => by rw [← hLL]; exact hRL4 i u hu
  have hWL5 : ∀ (i : Nat) (u : Value), us'[i]? = some u → w4.ownsRow w3.heap.size 5 1 u m (encL (L i)) := fun i u hu => by rw [← hLL]; exact hWL' i u hu
  have hlen5 : ∀ i, (L i).length = m := fun i => by rw [← hLL]; exact hlen i
  generalize hnn : restN l rs zn sn k = n at *
  generalize hcc : restC l rs zn sn k = c at *
  clear hLL hnn hcc hRL hRL3 hRL4 hWL' hR hR3 hkeep4 hlen
  obtain ⟨a1, c1, hv1⟩ := own_len hR4.own
  obtain ⟨a2, c2, hv2⟩ := own_len hW'
  have hul : us.length = n := by simpa using hR4.own.1
  have hul' : us'.length = n := by simpa using hW'.1
  have hS : Calls Tryd.prog 35 #[va, vw'] w4 fun e w' => e = .returned (.bool true) ∧ ∃ nq, w' = w4.drewN nq := by
    rw [hv1, hv2]
    by_cases h0 : 0 < n
    · obtain ⟨g1, d1, e1, _, _⟩ := hR4.own.form h0
      obtain ⟨g2, d2, e2, _, _⟩ := hW'.form h0
      rw [hv1] at e1
      rw [hv2] at e2
      simp only [Value.slice.injEq] at e1 e2
      obtain ⟨rfl, _, rfl⟩ := e1
      obtain ⟨rfl, _, rfl⟩ := e2
      have o1 := hR4.own
      have o2 := hW'
      rw [hv1] at o1
      rw [hv2] at o2
      exact sameList_any _ _ g1 0 c1 g2 0 c2 n (rawsOf us L) (rawsOf us' L) w4 (by rw [rawsOf_length, hul]) (by rw [rawsOf_length, hul']) (by omega) (fun _ => rfl) (fun _ => rfl) (own_ws o1 hRL5 hlen5) (own_ws o2 hWL5 hlen5) (fun i hi => by rw [rawsOf_at us L i (by omega), rawsOf_at us' L i (by omega)])
    · obtain rfl : n = 0 := by omega
      exact sameList_any a1 a2 0 0 c1 0 0 c2 0 [] [] w4 rfl rfl (by omega) (fun h => by omega) (fun h => by omega) (fun i hi => by simp at hi) (fun i hi => by simp at hi) (fun i hi => by omega)
  have HS : Hid (Calls Tryd.prog 35 #[va, vw'] w4 fun e w' => e = .returned (.bool true) ∧ ∃ nq, w' = w4.drewN nq) := hS
  clear hS hRL5 hWL5 hW' hv1 hv2 hul hul'
  go_wp2_with fail
  refine HS.out.mono ?_
  rintro e w4' ⟨rfl, nq, rfl⟩
  have hE5 : Errs A B0 (w4.drewN nq) := hE4.below ⟨rfl, rfl, rfl, Nat.le_refl _, fun _ _ => rfl⟩
  go_wp2_with fail
  refine (told_code A B0 c hcode _ hE5).mono ?_
  rintro e w5 ⟨rfl, hb5⟩
  have hs5 : w4.heap.size ≤ w5.heap.size := hb5.size
  go_wp2_with fail
  have hbut5 : But (fun b => b = hb) w w5 := (show But (fun b => b = hb) w (w4.drewN nq) from ⟨hbut4.os, hbut4.tape, hbut4.output, hbut4.size, hbut4.block⟩).below hb5 (fun i hi h => absurd (Nat.lt_of_lt_of_le hi hbut4.size) h)
  have hsz5 := hbut5.size
  have hsz1 := hbut1.size
  have hH5 : HAt w5 hb s := (hH3'.kept (hb4.block hb hH3'.lt)).kept (hb5.block hb (Nat.lt_of_lt_of_le hH3'.lt hs4))
  have hkeep5 : ∀ {B : Nat} {t : TypeId} {n : Nat} {v : Value} {xs : List Value}, w4.ownsRow B t 1 v n xs → w5.ownsRow B t 1 v n xs := fun h => own_of_block h (fun g hg => hb5.block g (h.lt g hg).2)
  have hR5 : OutRows w5 w1.heap.size va n m us := ⟨hkeep5 hR4.own, fun i u hu => by obtain ⟨xs, hx⟩ := hR4.each i u hu; exact ⟨xs, hkeep5 hx⟩, hR4.apart⟩
  have hI5 : Inv A B0 w5 hb N s es [] := ⟨hE5.below (hb5.mono (by have := hI.low; show B0 ≤ w4.heap.size; omega)), hI.low, hH5, hI.num, hI.in0, hI.rows0, hI.ints0, hI.want0, hI.outs.but hbut5 (fun g hg q => own_ne hI.outs.own hg hI.hands (by decide) q) (fun g hg q => own_ne hI.outs.marks hg hI.hands (by decide) q) (fun e he g hg q => (hI.outs.each e he).1.ne_hands hI.hands g hg q), hI.outers.but hbut5 (fun g hg q => own_ne hI.outers.own hg hI.hands (by decide) q) (fun g hg q => own_ne hI.outers.marks hg hI.hands (by decide) q) (fun e he => by simp at he) (fun g cs hc q => hI.hands.ne_block hc (by decide) q), hI.lacks0, hI.objs0, hI.apartM, hI.apartL⟩
  refine (keepList_any A B0 hb w1.heap.size N n m s es va us w5 hI5 hN hes hn8 hm hR5 (by omega) (by omega) (fun e he g hg => by have := ((hI.outs.each e he).1.lt hg).1; omega) (fun g hg => by have := (hI.outs.own.lt g hg).2; omega)).mono ?_
  rintro e w6 ⟨rfl, s', eo, lo', hI6, hel, hll, hb6⟩
  have hlow : Below hb w w6 := (hbut5.toBelow (by omega) (fun k hk q => by omega)).trans hb6
  go_wp2_with fail
  refine (holds_any hb hb _ eo lo' w6 hI6.hands hI6.outs hI6.outers (by omega) (by omega) hI6.lacks0 hI6.objs0).mono ?_
  rintro e w7 ⟨rfl, nq2, rfl⟩
  go_wp2_with fail
  go_ret
  exact ⟨rfl, _, _, eo, lo', hI6.drewN nq2, by omega, by omega, by omega, hlow.trans ⟨rfl, rfl, rfl, Nat.le_refl _, fun _ _ => rfl⟩⟩

end Go.Proofs.YtjabhnhejbhgjaaDoor
