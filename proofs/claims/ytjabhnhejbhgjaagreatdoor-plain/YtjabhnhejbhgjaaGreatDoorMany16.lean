import Derived.Test.YtjabhnhejbhgjaaGreatDoorMany15
/- The net: look. -/
namespace Go.Proofs.YtjabhnhejbhgjaaGreatDoor
open Go.RowKit

section
variable {A : Nat → Addr} {B0 B : Nat} {own : Nat → Nat} {w w' : World} {nb : Nat} {st : Nt}

theorem NI.rcPtr (h : NI A B0 B own w nb st) {r : Nat} (hr : r < st.rs.length) : ∃ g c, st.vr = .slice (some ⟨g, 0, none⟩) st.rs.length c ∧ st.rs.length ≤ c ∧ w.cell? ⟨g, r, none⟩ = some (.pointer (some ⟨(rcat st.rs r).1, 0, none⟩)) := by
  obtain ⟨g, c, h1, h2, h3⟩ := list_cellsK h.rown (by omega)
  refine ⟨g, c, h1, h2, h3 r _ ?_⟩
  unfold rcVals
  rw [List.getElem?_map, rcat_some hr]
  rfl
theorem NI.tkPtr (h : NI A B0 B own w nb st) {r : Nat} (hr : r < st.tks.length) : ∃ g c, st.vt = .slice (some ⟨g, 0, none⟩) st.tks.length c ∧ st.tks.length ≤ c ∧ w.cell? ⟨g, r, none⟩ = some (.slice (some ⟨(tkat st.tks r).1, 0, none⟩) 16 16) := by
  obtain ⟨g, c, h1, h2, h3⟩ := list_cellsK h.town (by omega)
  refine ⟨g, c, h1, h2, h3 r _ ?_⟩
  unfold tkVals
  rw [List.getElem?_map, tkat_some hr]
  rfl
theorem NI.obPtr (h : NI A B0 B own w nb st) {r : Nat} (hr : r < st.obs.length) : ∃ g c, st.vo = .slice (some ⟨g, 0, none⟩) st.obs.length c ∧ st.obs.length ≤ c ∧ w.cell? ⟨g, r, none⟩ = some (slat st.obs r).val := by
  obtain ⟨g, c, h1, h2, h3⟩ := list_cellsK h.oown (by omega)
  refine ⟨g, c, h1, h2, h3 r _ ?_⟩
  unfold slVals
  rw [List.getElem?_map, slat_some hr]
  rfl
theorem NI.arPtr (h : NI A B0 B own w nb st) {r : Nat} (hr : r < st.air.length) : ∃ g c, st.va = .slice (some ⟨g, 0, none⟩) st.air.length c ∧ st.air.length ≤ c ∧ w.cell? ⟨g, r, none⟩ = some (slat st.air r).val := by
  obtain ⟨g, c, h1, h2, h3⟩ := list_cellsK h.aown (by omega)
  refine ⟨g, c, h1, h2, h3 r _ ?_⟩
  unfold slVals
  rw [List.getElem?_map, slat_some hr]
  rfl
theorem NI.tkCell (h : NI A B0 B own w nb st) {r m : Nat} (hr : r < st.tks.length) (hm : m < 16) : w.cell? ⟨(tkat st.tks r).1, m, none⟩ = some (.bool ((tkat st.tks r).2.getD m false)) := by
  obtain ⟨h1, h2⟩ := h.tblk r hr
  rw [cell_of_row w _ m _ _ _ h1]
  unfold boolCells
  rw [List.getElem?_toArray, List.getElem?_map]
  have : m < (tkat st.tks r).2.length := by omega
  simp [List.getD, this]

/-- What was taken is told. -/
theorem NI.told (h : NI A B0 B own w nb st) {r : Nat} (hr : r < st.rs.length) (hR : RcAt w' B (rcat st.rs r).1 (rcat st.rs r).2.told) (hb : But (fun b => b = (rcat st.rs r).1) w w') : NI A B0 B (ownN own w.heap.size (11 + 2 * r)) w' nb { st with rs := st.rs.set r ((rcat st.rs r).1, (rcat st.rs r).2.told) } ∧ Fr own w (ownN own w.heap.size (11 + 2 * r)) w' := by
  have ok := h.rok r hr
  refine h.stepR hr (hb.wide (fun k _ q => .inl q)) hR ⟨ok.cfg, ok.tk, by simp [Rcv.told], ok.known, ok.few⟩ (fun b q => .inl ?_)
  rcases q with q | q | q | q | ⟨u, hu, _⟩ | q
  · exact .inl q
  · exact .inr (.inl q)
  · exact .inr (.inr (.inl q))
  · simp [Rcv.told, Value.ownBlock] at q
  · simp [Rcv.told] at hu
  · exact .inr (.inr (.inr (.inr (.inr q))))

end

set_option maxRecDepth 100000 in
set_option maxHeartbeats 2000000 in
/-- There is nothing to tell. -/
theorem netLook_none {A : Nat → Addr} {B0 B nb r : Nat} {own : Nat → Nat} {w : World} {st : Nt} (h : NI A B0 B own w nb st) (hr : r < st.rs.length) (hs : (rcat st.rs r).2.shut = false) (hu : (rcat st.rs r).2.un = []) :
    Calls Tryz.prog 44 #[.pointer (some ⟨nb, 0, none⟩), .int .i64 (r : Int)] w fun e w' => e = .returned (.bool true) ∧ ∃ own', NI A B0 B own' w' nb { st with rs := st.rs.set r ((rcat st.rs r).1, (rcat st.rs r).2.told) } ∧ Fr own w own' w' := by
  have HT := taken_any (h.rcv r hr) (h.rok r hr) h.errs
  obtain ⟨c0, c1, c2, c3, c4, c5, c6, c7⟩ := h.cells
  obtain ⟨vg, vc, hvr, hvc, hv⟩ := h.rcPtr hr
  obtain ⟨ua, uc, huv, _⟩ := own_form2 (h.rcv r hr).own
  rw [hu] at huv
  rw [hvr] at c4
  have HH : Hid (NI A B0 B own w nb st) := h
  have hlt1 : (0 : Int) ≤ (r : Int) := by omega
  have hlt2 : (r : Int) < (st.rs.length : Int) := by omega
  clear h c0 c1 c2 c3 c5 c6 c7 hvr
  go_enter Tryz.func44, Tryz.ntmps44
  go_wp2_with fail
  refine HT.mono ?_
  rintro e w1 (⟨hq, _⟩ | ⟨_, rfl, hR, hb⟩)
  · rw [hs] at hq; cases hq
  · obtain ⟨h1, hf1⟩ := HH.out.told hr hR hb
    rw [huv]
    have HF : Hid (∃ own', NI A B0 B own' w1 nb { st with rs := st.rs.set r ((rcat st.rs r).1, (rcat st.rs r).2.told) } ∧ Fr own w own' w1) := ⟨_, h1, hf1⟩
    clear h1 hf1 hR hb HT hv c4 huv HH
    simp only [List.length_nil]
    go_wp2_with fail
    go_loopw [7, 8] (fun t _ wr => t = .int .i64 0 ∧ wr = w1) (fun _ _ _ => 0)
    case atStart => exact ⟨rfl, rfl⟩
    case round =>
      obtain ⟨rfl, rfl⟩ := hrel
      go_wp2_with fail
      go_ret
      exact ⟨rfl, HF.out⟩

set_option maxRecDepth 100000 in
set_option maxHeartbeats 4000000 in
/-- An object is told. -/
theorem netLook_one {A : Nat → Addr} {B0 B nb r : Nat} {own : Nat → Nat} {w : World} {st : Nt} {u : Un} (h : NI A B0 B own w nb st) (hr : r < st.rs.length) (hs : (rcat st.rs r).2.shut = false) (hu : (rcat st.rs r).2.un = [u]) (hn : u.n < st.obs.length) (h16 : u.n < 16) (hl : u.l = (slat st.obs u.n).l) (ht : (tkat st.tks r).2.getD u.n false = false) :
    Calls Tryz.prog 44 #[.pointer (some ⟨nb, 0, none⟩), .int .i64 (r : Int)] w fun e w' => e = .returned (.bool true) ∧ ∃ own', NI A B0 B own' w' nb { st with rs := st.rs.set r ((rcat st.rs r).1, (rcat st.rs r).2.told), tks := st.tks.set r ((tkat st.tks r).1, (tkat st.tks r).2.set u.n true) } ∧ Fr own w own' w' := by
  have HT := taken_any (h.rcv r hr) (h.rok r hr) h.errs
  obtain ⟨c0, c1, c2, c3, c4, c5, c6, c7⟩ := h.cells
  obtain ⟨vg, vc, hvr, hvc, hv⟩ := h.rcPtr hr
  have hRo := (h.rcv r hr).own
  rw [hu] at hRo
  obtain ⟨ug, uc, huv, huc, hux⟩ : ∃ g c, (rcat st.rs r).2.uv = .slice (some ⟨g, 0, none⟩) 1 c ∧ 1 ≤ c ∧ True := by
    rcases hRo.2 with ⟨_, q⟩ | ⟨g, cap, cur, q1, _, _, q2, _⟩
    · simp at q
    · exact ⟨g, cap, q1, q2, trivial⟩
  rw [hvr] at c4
  have HH : Hid (NI A B0 B own w nb st) := h
  have hlt1 : (0 : Int) ≤ (r : Int) := by omega
  have hlt2 : (r : Int) < (st.rs.length : Int) := by omega
  have hrb := (h.rcv r hr).blk
  obtain ⟨_, ⟨ucs, hug⟩, huB⟩ := (h.rcv r hr).objs u (by rw [hu]; exact List.mem_singleton.2 rfl)
  have hgne : ug ≠ (rcat st.rs r).1 := own_ne hRo (by rw [huv]; rfl) hrb (by decide)
  have hune : u.g ≠ (rcat st.rs r).1 := fun q => by
    rw [q, hrb] at hug
    simp only [Option.some.injEq, Obj.cells.injEq] at hug
    exact absurd hug.2.1 (by decide)
  have eadd : ∀ j, (⟨ug, 0, none⟩ : Addr).add j = ⟨ug, j, none⟩ := fun j => by unfold Addr.add; split <;> simp_all
  have x0 := hRo.cells (g := ug) (by rw [huv]; rfl) 0 (.int .i64 (u.n : Int)) rfl
  have x1 := hRo.cells (g := ug) (by rw [huv]; rfl) 1 (.slice (some ⟨u.g, 0, none⟩) u.l.length u.l.length) rfl
  rw [eadd] at x0 x1
  have hugl := (hRo.lt ug (by rw [huv]; rfl)).2
  have hul := lt_of_block hug
  clear h c0 c1 c2 c3 c5 c6 c7 hvr hRo hug hrb hux
  go_enter Tryz.func44, Tryz.ntmps44
  go_wp2_with fail
  refine HT.mono ?_
  rintro e w1 (⟨hq, _⟩ | ⟨_, rfl, hR, hb⟩)
  · rw [hs] at hq; cases hq
  · obtain ⟨h1, hf1⟩ := HH.out.told hr hR hb
    rw [huv]
    have hk1 := hb.block ug hugl hgne
    have y0 : w1.cell? ⟨ug, 0, none⟩ = some (.int .i64 (u.n : Int)) := (World.cell?_of_block (w := w) (a := ⟨ug, 0, none⟩) hk1).trans x0
    have y1 : w1.cell? ⟨ug, 1, none⟩ = some (.slice (some ⟨u.g, 0, none⟩) u.l.length u.l.length) := (World.cell?_of_block (w := w) (a := ⟨ug, 1, none⟩) hk1).trans x1
    have yB : Bs w1 u.g 0 u.l := fun i hi => (World.cell?_of_block (w := w) (a := ⟨u.g, 0 + i, none⟩) (hb.block u.g hul hune)).trans (huB i hi)
    have htl : r < st.tks.length := by rw [HH.out.lens]; exact hr
    obtain ⟨d0, d1, d2, d3, d4, d5, d6, d7⟩ := h1.cells
    change w1.cell? ⟨nb, 5, none⟩ = some st.vo at d5
    change w1.cell? ⟨nb, 7, none⟩ = some st.vt at d7
    obtain ⟨og, oc, hvo, hoc, ho⟩ := h1.obPtr (r := u.n) hn
    change st.vo = .slice _ st.obs.length oc at hvo
    change st.obs.length ≤ oc at hoc
    change w1.cell? _ = some (slat st.obs u.n).val at ho
    obtain ⟨tg, tc, hvt, htc, htp⟩ := h1.tkPtr (r := r) htl
    change st.vt = .slice _ st.tks.length tc at hvt
    change st.tks.length ≤ tc at htc
    change w1.cell? _ = some (.slice (some ⟨(tkat st.tks r).1, 0, none⟩) 16 16) at htp
    have htcell := h1.tkCell (r := r) htl h16
    change w1.cell? ⟨(tkat st.tks r).1, u.n, none⟩ = some (.bool ((tkat st.tks r).2.getD u.n false)) at htcell
    rw [ht] at htcell
    have htblk := (h1.tblk r htl).1
    change w1.heap[(tkat st.tks r).1]? = some (.cells (boolCells (tkat st.tks r).2) 4 (0, 0)) at htblk
    have ht16 : (tkat st.tks r).2.length = 16 := (h1.tblk r htl).2
    have hoA := h1.obsAt (slat st.obs u.n) (slat_mem hn)
    rw [hvo] at d5
    rw [hvt] at d7
    have HH1 : Hid (NI A B0 B (ownN own w.heap.size (11 + 2 * r)) w1 nb { st with rs := st.rs.set r ((rcat st.rs r).1, (rcat st.rs r).2.told) }) := h1
    have HF1 : Hid (Fr own w (ownN own w.heap.size (11 + 2 * r)) w1) := hf1
    have hlt3 : (r : Int) < (st.tks.length : Int) := by omega
    have hlt4 : (0 : Int) ≤ (u.n : Int) := by omega
    have hlt5 : (u.n : Int) < (st.obs.length : Int) := by omega
    have hlt6 : (u.n : Int) < 16 := by omega
    have hlt7 : ¬ (u.n : Int) < 0 := by omega
    have hlt8 : ¬ (st.obs.length : Int) ≤ (u.n : Int) := by omega
    have hfz : ∀ nq, (w1.drewN nq).frozen? ⟨(tkat st.tks r).1, u.n, none⟩ = false := fun nq => frozen_of_row (w1.drewN nq) _ u.n _ _ htblk
    have HFIN : Hid (∀ nq, ∃ own', NI A B0 B own' ((w1.drewN nq).setCell ⟨(tkat st.tks r).1, u.n, none⟩ (.bool true)) nb { st with rs := st.rs.set r ((rcat st.rs r).1, (rcat st.rs r).2.told), tks := st.tks.set r ((tkat st.tks r).1, (tkat st.tks r).2.set u.n true) } ∧ Fr own w own' ((w1.drewN nq).setCell ⟨(tkat st.tks r).1, u.n, none⟩ (.bool true))) := fun nq => by
      obtain ⟨h2, hf2⟩ := HH1.out.above 1 (below_drew (w' := w1.drewN nq) rfl)
      have hT := heap_setCell_same (w1.drewN nq) (tkat st.tks r).1 u.n _ _ (.bool true) htblk
      have e : (boolCells (tkat st.tks r).2).setIfInBounds u.n (.bool true) = boolCells ((tkat st.tks r).2.set u.n true) := by
        unfold boolCells
        rw [List.setIfInBounds_toArray, List.map_set]
      rw [e] at hT
      obtain ⟨h3, hf3⟩ := h2.stepT (i := r) htl (l' := (tkat st.tks r).2.set u.n true) (But.setCell (S := fun b => b = (tkat st.tks r).1) (But.refl _ _) (p := ⟨(tkat st.tks r).1, u.n, none⟩) (.inl rfl) (.bool true)) hT (by rw [List.length_set]; exact ht16)
      exact ⟨_, h3, (HF1.out.trans hf2).trans hf3⟩
    obtain ⟨tb, htb⟩ : ∃ x, x = (tkat st.tks r).1 := ⟨_, rfl⟩
    have HTB : Hid (tb = (tkat st.tks r).1) := htb
    rw [← htb] at htcell hfz htp
    rw [← htb] at HFIN
    obtain ⟨L, hL⟩ : ∃ x, x = u.l := ⟨_, rfl⟩
    rw [← hL] at y1 yB
    have hoL : (slat st.obs u.n).l = L := by rw [hL, hl]
    have HC1 : ∀ nq, (convert 33 9 (.slice (some ⟨u.g, 0, none⟩) L.length L.length)).run Tryz.prog (w1.drewN nq) = .ok (.string (str L)) (w1.drewN nq) := fun nq => yB.convN L.length L.length rfl nq
    have HC2 : ∀ nq, (convert 33 9 (slat st.obs u.n).val).run Tryz.prog (w1.drewN nq) = .ok (.string (str L)) (w1.drewN nq) := fun nq => hoA.conv hoL nq
    obtain ⟨va, vl, vc2, hval⟩ : ∃ a l c, (slat st.obs u.n).val = .slice a l c := ⟨_, _, _, rfl⟩
    rw [hval] at ho HC2
    clear h1 hf1 hR hb HT hv c4 huv HH x0 x1 hk1 d0 d1 d2 d3 d4 d6 hvo hvt htblk hoA hval hoL hL htb yB huB HF1 HH1 hl hu hs ht
    go_wp2_with fail
    go_loopw [7, 8] (fun t _ wr => (t = .int .i64 0 ∧ wr = w1) ∨ (t = .int .i64 1 ∧ Hid (∃ own', NI A B0 B own' wr nb { st with rs := st.rs.set r ((rcat st.rs r).1, (rcat st.rs r).2.told), tks := st.tks.set r (tb, (tkat st.tks r).2.set u.n true) } ∧ Fr own w own' wr))) (fun t _ _ => 1 - (intOf t).toNat)
    case atStart => exact .inl ⟨rfl, rfl⟩
    case round =>
      rcases hrel with ⟨rfl, rfl⟩ | ⟨rfl, HE⟩
      · go_upto_region 6 with fail
        go_quiet (fail)
        go_wp2_with fail
        go_roundw
        case rel =>
          have HQ : Hid _ := HFIN.out nq
          exact .inr ⟨by go_num, HQ⟩
        case measure => simp [intOf]
      · go_wp2_with fail
        go_ret
        refine ⟨rfl, ?_⟩
        have HQ := HE.out
        rw [HTB.out] at HQ
        exact HQ

end Go.Proofs.YtjabhnhejbhgjaaGreatDoor

/- The net: hear. -/
namespace Go.Proofs.YtjabhnhejbhgjaaGreatDoor
open Go.RowKit

/-- The net with another r-th receiver. -/
def Nt.withR (st : Nt) (r : Nat) (r' : Rcv) : Nt := { st with rs := st.rs.set r ((rcat st.rs r).1, r'), tks := st.tks.set r ((tkat st.tks r).1, r'.tk) }

theorem set_same {α : Type} {l : List α} {i : Nat} {x : α} (h : l[i]? = some x) : l.set i x = l := by
  refine List.ext_getElem? (fun j => ?_)
  rw [List.getElem?_set]
  split
  · rename_i e
    subst e
    split
    · exact h.symm
    · rename_i q
      rw [List.getElem?_eq_none (by omega)]
  · rfl

theorem NG.withR {st : Nt} (g : NG st) {r : Nat} (hr : r < st.rs.length) (hl : st.tks.length = st.rs.length) {r' : Rcv} (hg : RGen st.s.os st.K st.N st.S r') (hu : r'.un = []) : NG (st.withR r r') := by
  have hlen : (st.withR r r').rs.length = st.rs.length := by simp [Nt.withR]
  have hat : ∀ j, rcat (st.withR r r').rs j = if r = j then ((rcat st.rs r).1, r') else rcat st.rs j := fun j => rcat_set hr _ j
  have htt : ∀ j, tkat (st.withR r r').tks j = if r = j then ((tkat st.tks r).1, r'.tk) else tkat st.tks j := fun j => tkat_set (by omega) _ j
  refine ⟨g.cfg, g.olen, g.objs, g.owe, fun j hj => ?_, fun j hj => ?_, fun j hj => ?_, g.air, g.airn⟩
  · rw [hlen] at hj
    rw [hat]
    split
    · exact hg
    · exact g.gen j hj
  · rw [hlen] at hj
    rw [hat]
    split
    · exact hu
    · exact g.un j hj
  · rw [hlen] at hj
    rw [hat, htt]
    split
    · rfl
    · exact g.tk j hj

/-- What hear makes of the net. -/
def HearNet (st : Nt) (r i q p : Nat) (st' : Nt) : Prop := ∃ r', st' = st.withR r r' ∧ r'.vw = (rcat st.rs r).2.vw.got st.s.K (st.s.T i) i q (by8 p) ∧ r'.shut = false

theorem told_gen {os : List Ob} {K N S : Nat} {r : Rcv} (h : RGen os K N S r) : RGen os K N S r.told := ⟨h.cfg, h.known, h.tk⟩

set_option maxRecDepth 100000 in
set_option maxHeartbeats 2000000 in
theorem netHear_any {A : Nat → Addr} {B0 B nb r i q p : Nat} {own : Nat → Nat} {w : World} {st : Nt} (h : NI A B0 B own w nb st) (g : NG st) (hr : r < st.rs.length) (hs : (rcat st.rs r).2.shut = false) {x : Sl} (hx : x.At own w) (hi : i < st.s.os.length) (hq : q < st.s.Q i) (hp : plcN st.s.K st.s.N (st.s.T i) q p = true) (hxl : x.l = st.s.pkt i q p) :
    Calls Tryz.prog 20 #[.pointer (some ⟨nb, 0, none⟩), .int .i64 (r : Int), x.val] w fun e w' => e = .returned (.bool true) ∧ NetTo A B0 B own w nb w' (HearNet st r i q p) := by
  obtain ⟨f1, f2, f3⟩ := g.cfg
  have hgen : RGen st.s.os st.s.K st.s.N st.s.S (rcat st.rs r).2 := by rw [f1, f2, f3]; exact g.gen r hr
  have hun := g.un r hr
  have HHE := rcvHear_any (h.rcv r hr) (h.rok r hr) h.errs h.typ (Nat.lt_of_lt_of_le h.typLow h.leB) (l := x.l) rfl hx.cap hx.max hx.few hx.at_ hx.bs (fun h0 => (hx.lt h0).1) (by rw [hun]; simp)
  have HRES : Hid (∀ e w1, RcvHears A (rcat st.rs r).2 x.l B (rcat st.rs r).1 w e w1 → ∃ r1, HeardIs A st.s i q p (rcat st.rs r).2 B (rcat st.rs r).1 w e w1 r1) := fun e w1 hq' => hears_gen (h.rcv r hr) (h.rok r hr) hgen h.sok.toOk0 hs hi hq hp hun (by rw [← hxl]; exact hq')
  obtain ⟨c0, c1, c2, c3, c4, c5, c6, c7⟩ := h.cells
  obtain ⟨vg, vc, hvr, hvc, hv⟩ := h.rcPtr hr
  rw [hvr] at c4
  have HH : Hid (NI A B0 B own w nb st) := h
  have HG : Hid (NG st) := g
  have hlt1 : (0 : Int) ≤ (r : Int) := by omega
  have hlt2 : (r : Int) < (st.rs.length : Int) := by omega
  have htl : r < st.tks.length := by rw [h.lens]; exact hr
  have HTK : Hid ((tkat st.tks r).2 = (rcat st.rs r).2.tk) := g.tk r hr
  have HCF : Hid (st.s.K = st.K ∧ st.s.N = st.N ∧ st.s.S = st.S) := ⟨f1, f2, f3⟩
  clear h g hx c0 c1 c2 c3 c5 c6 c7 hvr f1 f2 f3 hgen hun hxl hp hs hq
  unfold Sl.val
  go_enter Tryz.func20, Tryz.ntmps20
  go_wp2_with fail
  refine HHE.mono ?_
  intro e w1 hres
  obtain ⟨r1, hI⟩ := HRES.out e w1 hres
  obtain ⟨h1, hf1⟩ := HH.out.stepR hr hI.but hI.at_ hI.ok hI.foot
  have hr1 : r < (st.rs.set r ((rcat st.rs r).1, r1)).length := by simpa using hr
  have hrat : rcat (st.rs.set r ((rcat st.rs r).1, r1)) r = ((rcat st.rs r).1, r1) := by rw [rcat_set hr, if_pos rfl]
  obtain ⟨f1, f2, f3⟩ := HCF.out
  have HLOOK : Hid (Calls Tryz.prog 44 #[.pointer (some ⟨nb, 0, none⟩), .int .i64 (r : Int)] w1 fun e w' => e = .returned (.bool true) ∧ Hid (NetTo A B0 B own w nb w' (HearNet st r i q p))) := by
    show Calls _ _ _ _ _
    have hfin : ∀ w' own', NI A B0 B own' w' nb (st.withR r r1.told) → Fr (ownN own w.heap.size (11 + 2 * r)) w1 own' w' → NetTo A B0 B own w nb w' (HearNet st r i q p) := fun w' own' h2 hf2 =>
      ⟨own', _, h2, HG.out.withR hr HH.out.lens (by have := told_gen hI.gen; rw [f1, f2, f3] at this; exact this) rfl, hf1.trans hf2, r1.told, rfl, hI.vw, hI.shut⟩
    rcases hI.un with ⟨hu, htk⟩ | ⟨u, hu, hun', hul, htk0, htk⟩
    · refine (netLook_none h1 hr1 (by show (rcat (st.rs.set r _) r).2.shut = false; rw [hrat]; exact hI.shut) (by show (rcat (st.rs.set r _) r).2.un = []; rw [hrat]; exact hu)).mono ?_
      rintro e w' ⟨rfl, own', h2, hf2⟩
      refine ⟨rfl, hfin w' own' ?_ hf2⟩
      have e1 : st.tks.set r ((tkat st.tks r).1, r1.tk) = st.tks := by
        refine set_same ?_
        rw [htk, ← HTK.out]
        exact tkat_some htl
      simp only [hrat, List.set_set] at h2
      unfold Nt.withR
      show NI A B0 B own' w' nb { st with rs := _, tks := st.tks.set r ((tkat st.tks r).1, r1.tk) }
      rw [e1]
      exact h2
    · refine (netLook_one (u := u) h1 hr1 (by show (rcat (st.rs.set r _) r).2.shut = false; rw [hrat]; exact hI.shut) (by show (rcat (st.rs.set r _) r).2.un = [u]; rw [hrat]; exact hu) (by show u.n < st.obs.length; rw [HG.out.olen, hun']; exact hi) (by have := HH.out.sok.few; omega) (by show u.l = (slat st.obs u.n).l; rw [hul, hun', HG.out.objs i hi]) (by show (tkat st.tks r).2.getD u.n false = false; rw [HTK.out, hun']; exact htk0)).mono ?_
      rintro e w' ⟨rfl, own', h2, hf2⟩
      refine ⟨rfl, hfin w' own' ?_ hf2⟩
      simp only [hrat, List.set_set] at h2
      unfold Nt.withR
      show NI A B0 B own' w' nb { st with rs := _, tks := st.tks.set r ((tkat st.tks r).1, r1.tk) }
      rw [htk, ← HTK.out, ← hun']
      exact h2
  have htells := hI.tells
  have HE : Hid (Errs A B0 w1) := h1.errs
  have HLT : Hid (∀ w', NetTo A B0 B own w nb w' (HearNet st r i q p) → Errs A B0 w') := fun w' z => by
    obtain ⟨_, _, z1, _⟩ := z
    exact z1.errs
  clear HHE hres hI h1 hf1 hv c4 HRES f1 f2 f3 hrat hr1 hi
  rcases htells with rfl | rfl
  · go_wp2_with fail
    refine HLOOK.out.mono ?_
    rintro e w2 ⟨rfl, HN⟩
    clear HLOOK
    have g2 : w2.cell? ⟨1, 0, none⟩ = some (.iface 269 (.pointer (some (A 2)))) := (HLT.out _ HN.out).cell 2 (by omega)
    go_wp2_with fail
    go_ret
    exact ⟨rfl, HN.out⟩
  · rw [E_succ]
    go_wp2_with fail
    refine HLOOK.out.mono ?_
    rintro e w2 ⟨rfl, HN⟩
    clear HLOOK
    have HQ1 : (binOp .eql 45 (.iface 269 (.pointer (some (A 2)))) .nilIface).run Tryz.prog w2 = .ok (.bool false) w2 := (HLT.out _ HN.out).eql 3 0 (by omega) (by omega)
    have HQ2 : (binOp .eql 45 (.iface 269 (.pointer (some (A 2)))) (.iface 269 (.pointer (some (A 2))))).run Tryz.prog w2 = .ok (.bool true) w2 := (HLT.out _ HN.out).eql 3 3 (by omega) (by omega)
    have g2 : w2.cell? ⟨1, 0, none⟩ = some (.iface 269 (.pointer (some (A 2)))) := (HLT.out _ HN.out).cell 2 (by omega)
    go_wp2_with fail
    go_ret
    exact ⟨rfl, HN.out⟩

end Go.Proofs.YtjabhnhejbhgjaaGreatDoor

/- The net: Next of the sender; drain. -/
namespace Go.Proofs.YtjabhnhejbhgjaaGreatDoor
open Go.RowKit

def Nt.withS (st : Nt) (s' : Snd) : Nt := { st with s := s' }

theorem NG.withS {st : Nt} (g : NG st) {s' : Snd} (hs : SameOs st.s s') (ho : s'.Owe) : NG (st.withS s') := by
  obtain ⟨f1, f2, f3⟩ := g.cfg
  refine ⟨⟨hs.K.trans f1, hs.N.trans f2, hs.S.trans f3⟩, g.olen.trans hs.len.symm, fun i hi => ?_, ho, fun i hi => ?_, g.un, g.tk, fun x hx => ?_, g.airn⟩
  · change i < s'.os.length at hi
    show (slat st.obs i).l = (oat s'.os i).l
    rw [hs.l]
    exact g.objs i (by rw [← hs.len]; exact hi)
  · obtain ⟨g1, g2, g3⟩ := g.gen i hi
    refine ⟨g1, fun m kb k hm he => ?_, fun m hm => ?_⟩
    · obtain ⟨h1, h2, h3, h4⟩ := g2 m kb k hm he
      exact ⟨by show m < s'.os.length; rw [hs.len]; exact h1, by show k.Of (oat s'.os m).l; rw [hs.l]; exact h2, h3, h4⟩
    · show m < s'.os.length
      rw [hs.len]
      exact g3 m hm
  · obtain ⟨i, q, p, h1, h2, h3, h4⟩ := g.air x hx
    exact ⟨i, q, p, by show i < s'.os.length; rw [hs.len]; exact h1, by show q < s'.Q i; rw [hs.Q]; exact h2, by show plcN st.K st.N (s'.T i) q p = true; rw [hs.T]; exact h3, by show x.l = s'.pkt i q p; rw [hs.pkt]; exact h4⟩

/-- What Next gives, for the net. -/
def NextNet (A : Nat → Addr) (B0 B : Nat) (own : Nat → Nat) (w : World) (nb : Nat) (st : Nt) (e : Ending) (w' : World) : Prop :=
  (∃ (x : Sl) (own' : Nat → Nat) (i q p : Nat) (s' : Snd), e = .returned (.tuple #[x.val, .bool true]) ∧ NextAt st.s i q p s' ∧ NI A B0 B own' w' nb (st.withS s') ∧ NG (st.withS s') ∧ Fr own w own' w' ∧ x.At own' w' ∧ x.l = s'.pkt i q p ∧ 0 < x.l.length ∧ i < s'.os.length ∧ q < s'.Q i ∧ plcN s'.K s'.N (s'.T i) q p = true) ∨
  (e = .returned (.tuple #[.slice none 0 0, .bool false]) ∧ st.s.idle ∧ ∃ own', NI A B0 B own' w' nb st ∧ Fr own w own' w')

theorem netNext_any {A : Nat → Addr} {B0 B nb : Nat} {own : Nat → Nat} {w : World} {st : Nt} (h : NI A B0 B own w nb st) (g : NG st) :
    Calls Tryz.prog 19 #[.pointer (some ⟨st.sb, 0, none⟩)] w (NextNet A B0 B own w nb st) := by
  refine (next_any h.snd h.sok).mono ?_
  rintro e w' (⟨gb, cap, l, s', rfl, hown, hn, hS, hbu⟩ | ⟨rfl, h1, h2, hb⟩)
  · left
    have hok := hn.ok h.sok
    obtain ⟨h1, hf⟩ := h.stepS1 hbu hS hok (fun b q => (hn.foot st.sb b).1 q)
    obtain ⟨i, q, p, ha, hl⟩ := hn.triple
    obtain ⟨a1, a2, a3⟩ := ha.gen h.sok
    have hsm := ha.same
    have hlen : l.length = 6 + st.s.S := by
      rw [hl]
      unfold Snd.pkt dataOf
      simp [symPl_length]
      omega
    obtain ⟨x, hx1, hx2, hx3⟩ := Sl.of_own (own := ownN own w.heap.size 1) hown hlen (by have := h.sok.cfg.s8; omega) (fun b hb => ownN_new (hown.lt b hb).1)
    refine ⟨x, _, i, q, p, s', by rw [hx1], ha, h1, g.withS hsm (g.owe.next h.sok ha), hf, hx3, ?_, by rw [hx2]; omega, by rw [hsm.len]; exact a1, by rw [hsm.Q]; exact a2, by rw [hsm.K, hsm.N, hsm.T]; exact a3⟩
    rw [hx2, hl, hsm.pkt]
  · right
    obtain ⟨h3, hf⟩ := h.above 1 hb
    exact ⟨rfl, ⟨h1, h2⟩, _, h3, hf⟩

/-- Packets are sent, and one receiver hears them all. -/
def DrnN (s : Snd) (v : Vw) : Nat → Snd → Vw → Prop
  | 0, s', v' => s' = s ∧ v' = v
  | n + 1, s', v' => ∃ (s1 : Snd) (v1 : Vw) (i q p : Nat), DrnN s v n s1 v1 ∧ NextAt s1 i q p s' ∧ v' = v1.got s1.K (s1.T i) i q (by8 p)
def Drn (s : Snd) (v : Vw) (s' : Snd) (v' : Vw) : Prop := ∃ n, DrnN s v n s' v'
theorem Drn.refl {s : Snd} {v : Vw} : Drn s v s v := ⟨0, rfl, rfl⟩
theorem Drn.snoc {s : Snd} {v : Vw} {s1 s2 : Snd} {v1 : Vw} {i q p : Nat} (h : Drn s v s1 v1) (hn : NextAt s1 i q p s2) : Drn s v s2 (v1.got s1.K (s1.T i) i q (by8 p)) := by
  obtain ⟨n, h⟩ := h
  exact ⟨n + 1, s1, v1, i, q, p, h, hn, rfl⟩
theorem Drn.ways {s : Snd} {v : Vw} {motive : (s' : Snd) → (v' : Vw) → Drn s v s' v' → Prop} (refl : motive s v Drn.refl)
    (snoc : ∀ {s1 s2 : Snd} {v1 : Vw} {i q p : Nat} (h : Drn s v s1 v1) (hn : NextAt s1 i q p s2), motive s1 v1 h → motive s2 (v1.got s1.K (s1.T i) i q (by8 p)) (Drn.snoc h hn)) {s' : Snd} {v' : Vw} (h : Drn s v s' v') : motive s' v' h := by
  have key : ∀ n s' v' (h : DrnN s v n s' v'), motive s' v' ⟨n, h⟩ := by
    intro n
    induction n with
    | zero =>
      intro s' v' h
      obtain ⟨rfl, rfl⟩ := h
      exact refl
    | succ n ih =>
      intro s' v' h
      obtain ⟨s1, v1, i, q, p, h1, h2, rfl⟩ := h
      exact snoc ⟨n, h1⟩ h2 (ih s1 v1 h1)
  obtain ⟨n, h⟩ := h
  exact key n s' v' h
theorem Drn.same {s s' : Snd} {v v' : Vw} (h : Drn s v s' v') : SameOs s s' := by
  induction h using Drn.ways with
  | refl => exact .refl s
  | snoc h hn ih => exact ih.trans hn.same

def DrnNet (st : Nt) (r : Nat) (st' : Nt) : Prop := ∃ s' r', st' = (st.withS s').withR r r' ∧ Drn st.s (rcat st.rs r).2.vw s' r'.vw ∧ r'.shut = false

theorem withR_same {st : Nt} {r : Nat} (hr : r < st.rs.length) (hl : st.tks.length = st.rs.length) (ht : (tkat st.tks r).2 = (rcat st.rs r).2.tk) : st.withR r (rcat st.rs r).2 = st := by
  unfold Nt.withR
  rw [set_same (rcat_some hr), ← ht, set_same (tkat_some (by omega))]
theorem withR_at {st : Nt} {r : Nat} (hr : r < st.rs.length) (r' : Rcv) : rcat (st.withR r r').rs r = ((rcat st.rs r).1, r') := by
  show rcat (st.rs.set r _) r = _
  rw [rcat_set hr, if_pos rfl]
theorem withR_other {st : Nt} {r j : Nat} (hr : r < st.rs.length) (r' : Rcv) (hj : j ≠ r) : rcat (st.withR r r').rs j = rcat st.rs j := by
  show rcat (st.rs.set r _) j = _
  rw [rcat_set hr, if_neg (Ne.symm hj)]
theorem withR_len (st : Nt) (r : Nat) (r' : Rcv) : (st.withR r r').rs.length = st.rs.length := by simp [Nt.withR]
theorem withR_twice {st : Nt} {r : Nat} (hr : r < st.rs.length) (hl : st.tks.length = st.rs.length) (r1 r2 : Rcv) (s' : Snd) : ((st.withR r r1).withS s').withR r r2 = (st.withS s').withR r r2 := by
  have e1 : rcat (st.rs.set r ((rcat st.rs r).1, r1)) r = ((rcat st.rs r).1, r1) := by rw [rcat_set hr, if_pos rfl]
  have e2 : tkat (st.tks.set r ((tkat st.tks r).1, r1.tk)) r = ((tkat st.tks r).1, r1.tk) := by rw [tkat_set (by omega), if_pos rfl]
  unfold Nt.withR Nt.withS
  simp only [e1, e2, List.set_set]

set_option maxRecDepth 100000 in
set_option maxHeartbeats 2000000 in
theorem drain_any {A : Nat → Addr} {B0 B nb r : Nat} {own : Nat → Nat} {w : World} {st : Nt} (h : NI A B0 B own w nb st) (g : NG st) (hr : r < st.rs.length) (hs : (rcat st.rs r).2.shut = false) :
    Calls Tryz.prog 17 #[.pointer (some ⟨nb, 0, none⟩), .int .i64 (r : Int)] w fun e w' => e = .returned (.bool true) ∧ NetTo A B0 B own w nb w' (fun st' => DrnNet st r st' ∧ st'.s.idle) := by
  have HL : Hid (st.s.left < 20000) := left_few h.sok g.owe
  have HLN : Hid (st.tks.length = st.rs.length) := h.lens
  have HI : Hid (∃ own' st', NI A B0 B own' w nb st' ∧ NG st' ∧ Fr own w own' w ∧ DrnNet st r st' ∧ st'.s.left + 0 = st.s.left) := ⟨own, st, h, g, Fr.refl _ _, ⟨st.s, (rcat st.rs r).2, (withR_same hr h.lens (g.tk r hr)).symm, .refl, hs⟩, rfl⟩
  clear h g hs
  go_enter Tryz.func17, Tryz.ntmps17
  go_wp2_with fail
  go_loopw [5, 6, 7, 8] (fun t _ _ _ wr => ∃ i : Nat, i ≤ 20000 ∧ t = .int .i64 (i : Int) ∧ Hid (∃ own' st', NI A B0 B own' wr nb st' ∧ NG st' ∧ Fr own w own' wr ∧ DrnNet st r st' ∧ st'.s.left + i = st.s.left)) (fun t _ _ _ _ => 20000 - (intOf t).toNat)
  case atStart => exact ⟨0, by omega, rfl, HI⟩
  case round =>
    obtain ⟨i, hi, rfl, HJ⟩ := hrel
    obtain ⟨own1, st1, h1, g1, hf1, ⟨s1, r1, hst1, hd1, hs1⟩, hleft⟩ := HJ.out
    have hlt : i < 20000 := by have := HL.out; omega
    have hlt1 : (i : Int) < 20000 := by omega
    have hr1 : r < st1.rs.length := by rw [hst1, withR_len]; exact hr
    have hat1 : rcat st1.rs r = ((rcat st.rs r).1, r1) := by rw [hst1]; exact withR_at (st := st.withS s1) hr r1
    have hss : st1.s = s1 := by rw [hst1]; rfl
    have HN := netNext_any h1 g1
    obtain ⟨_, _, _, c3, _, _, _, _⟩ := h1.cells
    have HH1 : Hid _ := h1
    have HF1 : Hid _ := hf1
    have HST : Hid (st1 = (st.withS s1).withR r r1) := hst1
    have HD : Hid (Drn st.s (rcat st.rs r).2.vw s1 r1.vw) := hd1
    have HLE : Hid (st1.s.left + i = st.s.left) := hleft
    have HAT : Hid _ := hat1
    have HSS : Hid _ := hss
    have HS1 : Hid (r1.shut = false) := hs1
    clear HJ h1 hf1 hst1 hd1 hleft hat1 hss hs1
    go_upto_region 5 with fail
    refine HN.mono ?_
    rintro e w2 (⟨⟨xa, xb, xo, xc, xl⟩, own2, i2, q2, p2, s2, rfl, hna, h2, g2, hf2, hx2, hxl, hx0, hi2, hq2, hp2⟩ | ⟨rfl, hid, own2, h2, hf2⟩)
    · have HHR := netHear_any (x := ⟨xa, xb, xo, xc, xl⟩) h2 g2 (show r < (st1.withS s2).rs.length from hr1) (by show (rcat st1.rs r).2.shut = false; rw [HAT.out]; exact HS1.out) hx2 hi2 hq2 hp2 hxl
      unfold Sl.val at HHR ⊢
      have HN2 : Hid (∀ w', NetTo A B0 B own2 w2 nb w' (HearNet (st1.withS s2) r i2 q2 p2) → ∃ own' st', NI A B0 B own' w' nb st' ∧ NG st' ∧ Fr own w own' w' ∧ DrnNet st r st' ∧ st'.s.left + (i + 1) = st.s.left) := fun w' ⟨own3, st3, h3, g3, hf3, r3, hst3, hv3, hs3⟩ => by
        have hle := hna.left HH1.out.sok
        have hs3' : st3.s = s2 := by rw [hst3]; rfl
        refine ⟨own3, st3, h3, g3, (HF1.out.trans hf2).trans hf3, ⟨s2, r3, ?_, ?_, hs3⟩, ?_⟩
        · rw [hst3, HST.out]
          exact withR_twice (st := st.withS s1) hr HLN.out r1 r3 s2
        · have hv4 : r3.vw = r1.vw.got s1.K (s1.T i2) i2 q2 (by8 p2) := by
            rw [hv3]
            have e1 : (rcat (st1.withS s2).rs r).2 = r1 := by show (rcat st1.rs r).2 = r1; rw [HAT.out]
            rw [e1]
            show r1.vw.got s2.K (s2.T i2) i2 q2 (by8 p2) = _
            have hsm := hna.same
            rw [hsm.K, hsm.T, HSS.out]
          rw [hv4]
          refine .snoc HD.out ?_
          rw [← HSS.out]
          exact hna
        · rw [hs3']
          have := HLE.out
          omega
      clear HN c3 h2 g2 hf2 hx2 hna hxl hx0 hi2 hq2 hp2
      go_wp2_with fail
      refine HHR.mono ?_
      rintro e w3 ⟨rfl, hN3⟩
      have HJ3 : Hid _ := HN2.out w3 hN3
      clear HHR hN3 HN2
      go_wp2_with fail
      go_roundw
      case rel => exact ⟨i + 1, by omega, by go_num, HJ3⟩
      case measure => simp [intOf]; omega
    · have HFIN : Hid (NetTo A B0 B own w nb w2 (fun st' => DrnNet st r st' ∧ st'.s.idle)) := ⟨own2, st1, h2, g1, HF1.out.trans hf2, ⟨s1, r1, HST.out, HD.out, HS1.out⟩, hid⟩
      clear HN c3 h2 hf2 hid
      go_wp2_with fail
      go_ret
      exact ⟨rfl, HFIN.out⟩

end Go.Proofs.YtjabhnhejbhgjaaGreatDoor

/- The net: a receiver asks; the sender hears. -/
namespace Go.Proofs.YtjabhnhejbhgjaaGreatDoor
open Go.RowKit

/-- What a receiver asks for. -/
def askFor (r : Rcv) (l : List Gf.F) : Prop := ∃ m kb k, m < 16 ∧ (∀ j, j < m → r.kf j = none) ∧ r.kf m = some (kb, k) ∧ l = askOf m k.len (k.lks k.ts.length)

/-- What Ask gives, for the net. -/
def AskNet (A : Nat → Addr) (B0 B : Nat) (own : Nat → Nat) (w : World) (nb : Nat) (st : Nt) (r : Nat) (e : Ending) (w' : World) : Prop :=
  ∃ (x : Sl) (own' : Nat → Nat), e = .returned (.tuple #[x.val, .nilIface]) ∧ NI A B0 B own' w' nb st ∧ Fr own w own' w' ∧ x.At own' w' ∧
    ((x.l = [] ∧ ∀ j, j < 16 → (rcat st.rs r).2.kf j = none) ∨ (5 ≤ x.l.length ∧ askFor (rcat st.rs r).2 x.l))

theorem Kn.lks_few {k : Kn} (ok : k.Ok) : (k.lks k.ts.length).length ≤ 300 := by
  have h1 := k.lks_le k.ts.length
  have h2 := ok.blocks
  obtain ⟨k1, k8, kn, n16, s1, s8⟩ := ok.cfg
  have h3 := symN_range (S := k.S) (len := k.len) s1
  have h4 := partsN_le (a := k.T) k1
  have h5 : k.T = symN k.S k.len := rfl
  have h6 := ok.len
  omega

theorem netAsk_any {A : Nat → Addr} {B0 B nb r : Nat} {own : Nat → Nat} {w : World} {st : Nt} (h : NI A B0 B own w nb st) (hr : r < st.rs.length) (hs : (rcat st.rs r).2.shut = false) :
    Calls Tryz.prog 15 #[.pointer (some ⟨(rcat st.rs r).1, 0, none⟩)] w (AskNet A B0 B own w nb st r) := by
  refine (ask_any (h.rcv r hr) (h.rok r hr) h.errs).mono ?_
  rintro e w' ⟨hb, hq⟩
  obtain ⟨h1, hf⟩ := h.above 1 hb
  rcases hq with ⟨q, _⟩ | ⟨_, hno, rfl⟩ | ⟨_, m, kb, k, hm, hno, hk, g, cap, rfl, hown⟩
  · rw [hs] at q; cases q
  · exact ⟨⟨none, 0, 0, 0, []⟩, _, rfl, h1, hf, ⟨Nat.le_refl _, by show 0 ≤ _; omega, by show 0 ≤ _; omega, .inr ⟨rfl, rfl, rfl⟩, fun i hi => by simp at hi, fun h0 => by simp at h0⟩, .inl ⟨rfl, hno⟩⟩
  · have hl : (askOf m k.len (k.lks k.ts.length)).length = 5 + 2 * (k.lks k.ts.length).length := by
      show ([by8 2, by8 m, by8 (k.len / 256), by8 k.len] ++ [by8 (k.lks k.ts.length).length] ++ pairs (k.lks k.ts.length)).length = _
      simp [pairs_len]
      omega
    have hfew := Kn.lks_few ((h.rok r hr).known m kb k hm hk).1
    obtain ⟨x, hx1, hx2, hx3⟩ := Sl.of_own (own := ownN own w.heap.size 1) hown hl (by omega) (fun b hb => ownN_new (hown.lt b hb).1)
    exact ⟨x, _, by rw [hx1], h1, hf, hx3, .inr ⟨by rw [hx2]; omega, m, kb, k, hm, hno, hk, hx2⟩⟩

/-- An ask of one of its receivers is heard by the sender without an error. -/
theorem ask_told {s : Snd} {r : Rcv} {l : List Gf.F} (ok : r.Ok) (g : RGen s.os s.K s.N s.S r) (h : askFor r l) : hearZ s l = (0, -1) := by
  obtain ⟨m, kb, k, hm, _, hk, rfl⟩ := h
  obtain ⟨k1, k2, k3, k4⟩ := ok.known m kb k hm hk
  obtain ⟨g1, g2, g3, g4⟩ := g.known m kb k hm hk
  obtain ⟨c1, c2, c3⟩ := g.cfg
  obtain ⟨a1, a2, a3, a4, _⟩ := ask_reads k1 hm g3
  rw [k2, k3, k4, c1, c2, c3] at a1
  unfold hearZ
  rw [a1, a2, a3, a4]
  simp only
  rw [if_neg (by omega), if_neg (by simp [g2.len]), if_neg (by omega)]

/-- What the sender's Hear gives, for the net. -/
def TellNet (A : Nat → Addr) (B0 B : Nat) (own : Nat → Nat) (w : World) (nb : Nat) (st : Nt) (l : List Gf.F) (e : Ending) (w' : World) : Prop :=
  ∃ (v : Value) (own' : Nat → Nat), e = .returned v ∧ VSays A w' v (hearZ st.s l) ∧ NI A B0 B own' w' nb (st.withS (hearS st.s l)) ∧ NG (st.withS (hearS st.s l)) ∧ Fr own w own' w'

theorem netTell_any {A : Nat → Addr} {B0 B nb : Nat} {own : Nat → Nat} {w : World} {st : Nt} (h : NI A B0 B own w nb st) (g : NG st) {x : Sl} (hx : x.At own w) :
    Calls Tryz.prog 16 #[.pointer (some ⟨st.sb, 0, none⟩), x.val] w (TellNet A B0 B own w nb st x.l) := by
  refine (hear_any h.snd h.sok h.errs h.typ (Nat.lt_of_lt_of_le h.typLow h.leB) (l := x.l) rfl hx.cap hx.max hx.few hx.at_ hx.bs (fun h0 => (hx.lt h0).1)).mono ?_
  intro e w' hG
  obtain ⟨v, rfl, hv, hS, ok, hbu, hft⟩ := hG.one h.snd h.sok
  obtain ⟨h1, hf⟩ := h.stepS1 hbu hS ok (fun b q => (hft b).1 q)
  exact ⟨v, _, rfl, hv, h1, g.withS (SameOs.hearS _ _) (g.owe.hear h.sok _), hf⟩

theorem VSays.nil {A : Nat → Addr} {w : World} {v : Value} (h : VSays A w v (0, -1)) : v = .nilIface := by
  rcases h with ⟨_, h⟩ | ⟨i, hi, h, _⟩ | ⟨i, pb, hi, h, _⟩
  · exact h
  · simp only [Prod.mk.injEq] at h; omega
  · simp only at h; omega

end Go.Proofs.YtjabhnhejbhgjaaGreatDoor
