/- The law's World: sends, a sender that is there. -/
import Derived.Test.YtjabhnhejbhgjaaGreatDoorMany10
import Derived.Test.YtjabhnhejbhgjaaGreatDoorMany10
namespace Go.Proofs.YtjabhnhejbhgjaaGreatDoor
open Go.RowKit

/-- Which of n things c speaks of. -/
def pickN (c : Int) (n : Nat) : Nat := (if c < 0 then -(c + 1) else c).toNat % n
theorem pickN_lt (c : Int) {n : Nat} (h : 1 ≤ n) : pickN c n < n := Nat.mod_lt _ h

set_option maxRecDepth 100000 in
set_option maxHeartbeats 1000000 in
theorem pick_any (c : Int) (n : Nat) (hn : 1 ≤ n) (hn2 : n ≤ 1000000000) (hc : -9223372036854775808 ≤ c ∧ c ≤ 9223372036854775807) (w : World) :
    Calls Tryz.prog 80 #[.int .i64 c, .int .i64 (n : Int)] w fun e w' => e = .returned (.int .i64 (pickN c n : Int)) ∧ w' = w := by
  have hn0 : ¬ n = 0 := by omega
  have hn1 : ¬ (n : Int) = 0 := by omega
  by_cases h : c < 0
  · obtain ⟨m, rfl⟩ : ∃ m : Nat, c = -(m : Int) - 1 := ⟨(-(c + 1)).toNat, by omega⟩
    obtain ⟨r, hr⟩ : ∃ r : Nat, r = m % n := ⟨_, rfl⟩
    have hp : pickN (-(m : Int) - 1) n = r := by
      unfold pickN
      rw [if_pos h, show -(-(m : Int) - 1 + 1) = (m : Int) by omega, hr]; simp
    have ht : (m : Int).tmod (n : Int) = (r : Int) := by rw [Int.tmod_eq_emod_of_nonneg (by omega), hr]; push_cast; rfl
    have he : (m : Int) % (n : Int) = (r : Int) := by rw [hr]; push_cast; rfl
    have hlt2 : r < n := by rw [hr]; exact Nat.mod_lt _ hn
    have hq1 : -(m : Int) - 1 + 1 = -(m : Int) := by omega
    rw [hp]
    clear hp hr
    go_enter Tryz.func80, Tryz.ntmps80
    go_wp2
    go_ret
    exact ⟨rfl, rfl⟩
  · obtain ⟨m, rfl⟩ : ∃ m : Nat, c = (m : Int) := ⟨c.toNat, by omega⟩
    obtain ⟨r, hr⟩ : ∃ r : Nat, r = m % n := ⟨_, rfl⟩
    have hp : pickN (m : Int) n = r := by unfold pickN; rw [if_neg h, hr]; simp
    have ht : (m : Int).tmod (n : Int) = (r : Int) := by rw [Int.tmod_eq_emod_of_nonneg (by omega), hr]; push_cast; rfl
    have he : (m : Int) % (n : Int) = (r : Int) := by rw [hr]; push_cast; rfl
    have hlt2 : r < n := by rw [hr]; exact Nat.mod_lt _ hn
    rw [hp]
    clear hp hr
    go_enter Tryz.func80, Tryz.ntmps80
    go_wp2
    go_ret
    exact ⟨rfl, rfl⟩

/-- What Enqueue tells. -/
def enqZ (s : Snd) (l : List Gf.F) : Int × Int := if 255 < l.length then (2, -1) else if s.os.length = 16 then (3, -1) else (0, -1)
def enqM (s : Snd) (l : List Gf.F) : Int := if 255 < l.length then 0 else if s.os.length = 16 then 0 else (s.os.length : Int)
/-- What becomes of the sender. -/
def EnqTo (s : Snd) (l : List Gf.F) (s' : Snd) : Prop := ((255 < l.length ∨ s.os.length = 16) ∧ s' = s) ∨ (l.length ≤ 255 ∧ s.os.length < 16 ∧ ∃ o vo, o.l = l ∧ o.ds = debts0 (partsN (symN s.S l.length) s.K) ∧ s' = s.enq o vo)

theorem EnqGives.one {A : Nat → Addr} {s : Snd} {l : List Gf.F} {B sb : Nat} {w w' : World} {e : Ending} (h : EnqGives A s l B sb w e w') (hS : SAt w B sb s) (ok : s.Ok) :
    ∃ v s', e = .returned (.tuple #[.int .i64 (enqM s l), v]) ∧ VSays A w' v (enqZ s l) ∧ EnqTo s l s' ∧ SAt w' B sb s' ∧ s'.Ok ∧ But (s.foot sb) w w' ∧ ∀ b, s'.foot sb b → s.foot sb b ∨ w.heap.size ≤ b := by
  have hbb : ∀ {w' : World}, Below w.heap.size w w' → But (s.foot sb) w w' := fun hb => Below.but hb _ (fun i hi q => absurd hi q)
  unfold enqM enqZ
  rcases h with ⟨h1, rfl, hb⟩ | ⟨h1, h2, rfl, hb⟩ | ⟨h1, h2, rfl, o, vo, h3, h4, h5, h6, h7⟩
  · rw [if_pos h1, if_pos h1]
    exact ⟨_, s, rfl, .inr (.inl ⟨1, by omega, rfl, rfl⟩), .inl ⟨.inl h1, rfl⟩, hS.above hb, ok, hbb hb, fun b q => .inl q⟩
  · have hn : ¬ 255 < l.length := by omega
    simp only [if_neg hn, if_pos h2]
    exact ⟨_, s, rfl, .inr (.inl ⟨2, by omega, rfl, rfl⟩), .inl ⟨.inr h2, rfl⟩, hS.above hb, ok, hbb hb, fun b q => .inl q⟩
  · have hn : ¬ 255 < l.length := by omega
    have hn2 : ¬ s.os.length = 16 := by omega
    simp only [if_neg hn, if_neg hn2]
    exact ⟨_, _, rfl, .inl ⟨rfl, rfl⟩, .inr ⟨h1, h2, o, vo, h3, h4, rfl⟩, h5, s.enq_ok ok h2 (by rw [h3]; exact h1) (by rw [h4, h3]), h6, h7⟩

theorem REnqGives.one {s s' : Snd} {r : Rsn} {l : List Gf.F} {c B rb : Nat} {w w' : World} {e : Ending} (h : REnqGives r l B rb w e w') (hR : RAt w B rb r) (ok : s.Ok) (sim : Sim s r c) (hs : EnqTo s l s') :
    e = .returned (.tuple #[.int .i64 (enqM s l), .agg #[.int .i64 (enqZ s l).1, .int .i64 (enqZ s l).2]]) ∧ ∃ r', RAt w' B rb r' ∧ Sim s' r' c ∧ But (r.foot rb) w w' ∧ ∀ b, r'.foot rb b → r.foot rb b ∨ w.heap.size ≤ b := by
  have hbb : ∀ {w' : World}, Below w.heap.size w w' → But (r.foot rb) w w' := fun hb => Below.but hb _ (fun i hi q => absurd hi q)
  have hlen := sim.len
  unfold enqM enqZ
  rcases h with ⟨h1, rfl, hb⟩ | ⟨h1, h2, rfl, hb⟩ | ⟨h1, h2, rfl, o, va, vb, h3, h4, h5, h6, h7⟩
  · rw [if_pos h1, if_pos h1]
    rcases hs with ⟨_, rfl⟩ | ⟨g1, _⟩
    · exact ⟨rfl, r, hR.above hb, sim, hbb hb, fun b q => .inl q⟩
    · omega
  · have hn : ¬ 255 < l.length := by omega
    have hn2 : s.os.length = 16 := by omega
    rw [if_neg hn, if_pos hn2, if_neg hn, if_pos hn2]
    rcases hs with ⟨_, rfl⟩ | ⟨_, g1, _⟩
    · exact ⟨rfl, r, hR.above hb, sim, hbb hb, fun b q => .inl q⟩
    · omega
  · have hn : ¬ 255 < l.length := by omega
    have hn2 : ¬ s.os.length = 16 := by omega
    simp only [if_neg hn, if_neg hn2]
    rcases hs with ⟨g1, _⟩ | ⟨g1, g2, o1, vo, g3, g4, rfl⟩
    · rcases g1 with g1 | g1 <;> omega
    · refine ⟨by rw [hlen], _, h5, sim.enq ok (by rw [h3, g3]) ?_ (by rw [g4, g3]), h6, h7⟩
      rw [h4, g3, sim.S, sim.K]

section
variable {A : Nat → Addr} {B0 : Nat} {own0 : Nat → Nat} {W0 W W' : World} {hb t i : Nat} {hs : HS} {es : List Ent} {ps : List Pr} {a : Option Addr} {b o n c : Nat} {l : List Gf.F}

/-- The program's Enqueue of what is lent. -/
theorem wenq {G : Nat} {v1 : Value} (h : PhG A B0 own0 W0 hb hs es ps G v1 W) (hi : i < ps.length) (hO : OpB own0 W0 a b o n c l) (hL : Lent W G v1 [⟨.slice a n c, l⟩] [G] 1) :
    Calls Tryz.prog 35 #[.pointer (some ⟨(pat ps i).sb, 0, none⟩), .slice (some ⟨G, 0, none⟩) n (n + 2)] W fun e W' =>
      ∃ v s', e = .returned (.tuple #[.int .i64 (enqM (pat ps i).s l), v]) ∧ VSays A W' v (enqZ (pat ps i).s l) ∧ EnqTo (pat ps i).s l s' ∧ PhG A B0 own0 W0 hb hs es (ps.set i { pat ps i with s := s' }) G v1 W' ∧ Lent W' G v1 [⟨.slice a n c, l⟩] [G] 1 := by
  have h' := h
  obtain ⟨own, hJ, hF, hX⟩ := h'
  have hG : Blk W G (marked l) := hL.blk 0 (by omega)
  have hfew := hO.few
  refine (enqueue_any (hJ.snd i hi).1 (hJ.snd i hi).2 hJ.errs hO.len (by omega) (.inl rfl) (marked_bs9 hG)).mono ?_
  intro e W' hG'
  obtain ⟨v, s', rfl, hv, he, hS, hok, hbu, hft⟩ := hG'.one (hJ.snd i hi).1 (hJ.snd i hi).2
  obtain ⟨h1, h2⟩ := h.stepS hL hi hbu hS hok hft
  exact ⟨v, s', rfl, hv, he, h1, h2⟩

/-- The document's. -/
theorem wrenq {v : Value} {z : Int × Int} {s' : Snd} (h : PhB A B0 own0 W0 hb hs es (ps.set i { pat ps i with s := s' }) W) (hi : i < ps.length) (ok : (pat ps i).s.Ok) (sim : Sim (pat ps i).s (pat ps i).r t) (he : EnqTo (pat ps i).s l s') (hO : OpB own0 W0 a b o n c l) (hv : VSays A W v z) :
    Calls Tryz.prog 83 #[.pointer (some ⟨(pat ps i).rb, 0, none⟩), .slice a n c] W fun e W' =>
      e = .returned (.tuple #[.int .i64 (enqM (pat ps i).s l), .agg #[.int .i64 (enqZ (pat ps i).s l).1, .int .i64 (enqZ (pat ps i).s l).2]]) ∧ VSays A W' v z ∧ ∃ r', PhB A B0 own0 W0 hb hs es ((ps.set i { pat ps i with s := s' }).set i { pat (ps.set i { pat ps i with s := s' }) i with r := r' }) W' ∧ Sim s' r' t := by
  have h' := h
  obtain ⟨own, hJ, hF⟩ := h'
  have hOW := hO.fr hF
  have hfew := hO.few
  have hi1 : i < (ps.set i { pat ps i with s := s' }).length := by simpa using hi
  have hpr : pat (ps.set i { pat ps i with s := s' }) i = { pat ps i with s := s' } := by rw [pat_set hi, if_pos rfl]
  have hR : RAt W (hb + 1) (pat ps i).rb (pat ps i).r := by
    have := hJ.rsn i hi1
    rw [hpr] at this
    exact this
  have hlt := hJ.hands.lt
  refine (renqueue_any hR (by omega) (by rw [sim.K, sim.N, sim.S]; exact ok.cfg) (by rw [sim.len]; exact ok.few) hO.len (by omega) hO.adr hOW.bs).mono ?_
  intro e W' hG'
  obtain ⟨rfl, r', hR', hs', hbu, hft⟩ := hG'.one hR ok sim he
  refine ⟨rfl, hv.kept (fun pb cs hp => hbu.block pb (lt_of_block hp) (hR.neB hp)), r', ?_, hs'⟩
  exact h.stepR hi1 (by rw [hpr]; exact hbu) (by rw [hpr]; exact hR') (fun b q => by rw [hpr] at q ⊢; exact hft b q)
end

theorem WStep.from {A : Nat → Addr} {B0 : Nat} {own own1 : Nat → Nat} {w w1 w' : World} {hb t n : Nat} (h : WStep A B0 own1 w1 hb t n w') (hF : Fr own w own1 w1) : WStep A B0 own w hb t n w' := by
  obtain ⟨own', hs', es', ps', m1, m2, m3⟩ := h
  exact ⟨own', hs', es', ps', m1, m2, hF.trans m3⟩

theorem sender_cells {A : Nat → Addr} {B0 : Nat} {own : Nat → Nat} {w : World} {hb : Nat} {hs : HS} {es : List Ent} {ps : List Pr} (h : WJ A B0 own w hb hs es ps) (h0 : 0 < ps.length) :
    ∃ g c, hs.sv = .slice (some ⟨g, 0, none⟩) ps.length c ∧ ∀ j, j < ps.length → w.cell? ⟨g, j * 2, none⟩ = some (.pointer (some ⟨(pat ps j).sb, 0, none⟩)) ∧ w.cell? ⟨g, j * 2 + 1, none⟩ = some (.pointer (some ⟨(pat ps j).rb, 0, none⟩)) := by
  obtain ⟨g, c, hv, _, _⟩ := h.sown.form h0
  refine ⟨g, c, hv, fun j hj => ?_⟩
  have eadd : ∀ j, (⟨g, 0, none⟩ : Addr).add j = ⟨g, j, none⟩ := fun j => by unfold Addr.add; split <;> simp_all
  have hp : (prVals ps)[j]? = some (.pointer (some ⟨(pat ps j).sb, 0, none⟩), .pointer (some ⟨(pat ps j).rb, 0, none⟩)) := by unfold prVals; rw [List.getElem?_map, pat_some hj]; rfl
  have x0 := h.sown.cells (g := g) (by rw [hv]; rfl) (2 * j) _ (by rw [flat2_get0, hp]; rfl)
  have x1 := h.sown.cells (g := g) (by rw [hv]; rfl) (2 * j + 1) _ (by rw [flat2_get1, hp]; rfl)
  rw [eadd] at x0 x1
  rw [Nat.mul_comm j 2]
  exact ⟨x0, x1⟩

set_option maxRecDepth 100000 in
set_option maxHeartbeats 2000000 in
theorem wsends_old {A : Nat → Addr} {B0 : Nat} {own : Nat → Nat} {w : World} {hb t b o : Nat} {hs : HS} {es : List Ent} {ps : List Pr} {q : Opv} {l : List Gf.F} (hI : WI A B0 own w hb t hs es ps) (hk : ¬ q.kd = 1) (ht : t ≤ 20000000) (hon : -9223372036854775808 ≤ q.on ∧ q.on ≤ 9223372036854775807) (hOw : OpB own w q.p b o q.n q.c l) :
    Calls Tryz.prog 51 #[.pointer (some ⟨hb, 0, none⟩), .agg q.cells] w fun e w' => e = .returned (.bool true) ∧ WStep A B0 own w hb (t + 1) ps.length w' := by
  have hbe : Below w.heap.size w (w.alloc (.cells q.cells 83)) := (Below.refl _ _).alloc (Nat.le_refl _) _
  have hI0 := hI.above 1 hbe
  have hF0 : Fr own w (ownN own w.heap.size 1) _ := Fr.above 1 hbe
  have hO0 : ownN own w.heap.size 1 w.heap.size = 1 := ownN_new (Nat.le_refl _)
  have hX0 := heap_alloc_new w (.cells q.cells 83)
  obtain ⟨kd, on, tt, qa, K, N, S, p, n, c⟩ := q
  simp only [Opv.cells] at *
  have hfP := hI.fewP
  go_enter Tryz.func51, Tryz.ntmps51
  go_upto_region 1 with fail
  generalize w.alloc (.cells #[.int .i64 kd, .int .i64 on, .int .i64 tt, .int .i64 qa, .int .i64 K, .int .i64 N, .int .i64 S, .slice p n c] 83) = W0 at *
  generalize ownN own w.heap.size 1 = own0 at *
  have hOb := hOw.fr hF0
  obtain ⟨bx, hbx⟩ : ∃ x, x = w.heap.size := ⟨_, rfl⟩
  rw [← hbx] at hX0 hO0 ⊢
  have HF0 : Hid (Fr own w own0 W0) := hF0
  clear hbx hF0 hbe hI hOw
  have HCL : Hid (∀ (W : World) (own' : Nat → Nat), Fr own0 W0 own' W → W.cell? ⟨bx, 0, none⟩ = some (.int .i64 kd) ∧ W.cell? ⟨bx, 1, none⟩ = some (.int .i64 on) ∧ W.cell? ⟨bx, 7, none⟩ = some (.slice p n c)) := fun W own' hF => by
    have h := ((hF.keep bx (lt_of_block hX0) hO0).2).trans hX0
    exact ⟨cell_of_row W bx 0 _ _ _ h, cell_of_row W bx 1 _ _ _ h, cell_of_row W bx 7 _ _ _ h⟩
  obtain ⟨x0, x1, x7⟩ := HCL.out W0 own0 (Fr.refl _ _)
  obtain ⟨va, vc, hva, _⟩ := own_form2 hI0.sown
  have c0 : W0.cell? ⟨hb, 0, none⟩ = some (.slice va ps.length vc) := by rw [cell_of_row W0 hb 0 _ _ _ hI0.hands]; show some hs.sv = _; rw [hva]
  by_cases hz : ps.length = 0
  · have hz1 : (ps.length : Int) = 0 := by omega
    have HI0 : Hid (WI A B0 own0 W0 hb t hs es ps) := hI0
    clear hI0 hX0
    go_wp2_with fail
    go_ret
    exact ⟨rfl, _, _, _, _, HI0.out.more (by omega), rfl, HF0.out⟩
  · have hz1 : ¬ (ps.length : Int) = 0 := by omega
    obtain ⟨g, gc, hsv, hsc⟩ := sender_cells hI0.toWJ (by omega)
    rw [hva] at hsv
    simp only [Value.slice.injEq] at hsv
    obtain ⟨rfl, -, -⟩ := hsv
    obtain ⟨j, hj⟩ : ∃ x, x = pickN on ps.length := ⟨_, rfl⟩
    have hjl : j < ps.length := by rw [hj]; exact pickN_lt _ (by omega)
    obtain ⟨t0, t1⟩ := hsc j hjl
    have HPK : Hid (∀ W, Calls Tryz.prog 80 #[.int .i64 on, .int .i64 (ps.length : Int)] W fun e w' => e = .returned (.int .i64 (j : Int)) ∧ w' = W) := fun W => by rw [hj]; exact pick_any on ps.length (by omega) (by omega) hon W
    have HI0 : Hid (WI A B0 own0 W0 hb t hs es ps) := hI0
    have hgl := lt_of_cell t0
    have hbl := lt_of_cell x1
    have hhl := lt_of_cell c0
    have n1 : ¬ g = W0.heap.size := Nat.ne_of_lt hgl
    have n2 : ¬ bx = W0.heap.size := Nat.ne_of_lt hbl
    have n3 : ¬ hb = W0.heap.size := Nat.ne_of_lt hhl
    have hj1 : (0 : Int) ≤ (j : Int) := by omega
    have hj2 : (j : Int) < (ps.length : Int) := by omega
    obtain ⟨sb, hsb⟩ : ∃ x, x = (pat ps j).sb := ⟨_, rfl⟩
    obtain ⟨rb, hrb⟩ : ∃ x, x = (pat ps j).rb := ⟨_, rfl⟩
    rw [← hsb] at t0
    rw [← hrb] at t1
    have HSB : Hid (sb = (pat ps j).sb ∧ rb = (pat ps j).rb) := ⟨hsb, hrb⟩
    clear hj hsc hva hX0 hO0 hI0 hsb hrb
    go_upto_region 9 with fail
    go_cut [9] (fun v wx => ∃ X, v = .pointer (some ⟨X, 0, none⟩) ∧ wx.heap[X]? = some (.cells #[.pointer (some ⟨sb, 0, none⟩), .pointer (some ⟨rb, 0, none⟩)] 89 (0, 0)) ∧ W0.heap.size ≤ X ∧ Below W0.heap.size W0 wx)
    case first =>
      go_region_held3 (fun w' => w'.cell? ⟨hb, 0, none⟩ = some (.slice (some ⟨g, 0, none⟩) ps.length vc) ∧ w'.cell? ⟨bx, 1, none⟩ = some (.int .i64 on) ∧ w'.cell? ⟨g, j * 2, none⟩ = some (.pointer (some ⟨sb, 0, none⟩)) ∧ w'.cell? ⟨g, j * 2 + 1, none⟩ = some (.pointer (some ⟨rb, 0, none⟩))) (go_keep) (first
        | (go_at_call 80; refine (HPK.out _).mono ?_; rintro e w' ⟨rfl, rfl⟩))
      all_goals go_wp2_with fail
      all_goals go_meet
      all_goals exact ⟨W0.heap.size, rfl, heap_alloc_new W0 _, Nat.le_refl _, ((Below.refl _ _).alloc (Nat.le_refl _) _).drew⟩
    case rest =>
      obtain ⟨X, rfl, hX, hXl, hbx⟩ := hcut
      clear x0 x1 x7 t0 t1 c0 hgl hbl hhl n1 n2 n3
      generalize hWW : wc = W1 at *
      clear hWW
      have hI1 := HI0.out.above 1 hbx
      have hF1 : Fr own0 W0 (ownN own0 W0.heap.size 1) W1 := Fr.above 1 hbx
      have hOX : ownN own0 W0.heap.size 1 X = 1 := ownN_new hXl
      have hO1 := hOb.fr hF1
      have HF01 : Hid (Fr own w (ownN own0 W0.heap.size 1) W1) := HF0.out.trans hF1
      generalize ownN own0 W0.heap.size 1 = own1 at *
      have HC1 : Hid (∀ (W : World) (own' : Nat → Nat), Fr own1 W1 own' W → W.cell? ⟨bx, 0, none⟩ = some (.int .i64 kd) ∧ W.cell? ⟨bx, 7, none⟩ = some (.slice p n c) ∧ W.cell? ⟨X, 0, none⟩ = some (.pointer (some ⟨sb, 0, none⟩)) ∧ W.cell? ⟨X, 1, none⟩ = some (.pointer (some ⟨rb, 0, none⟩))) := fun W own' hF => by
        obtain ⟨z0, _, z7⟩ := HCL.out W own' (hF1.trans hF)
        obtain ⟨u0, u1, _, _⟩ := twoE (((hF.keep X (lt_of_block hX) hOX).2).trans hX)
        exact ⟨z0, z7, u0, u1⟩
      obtain ⟨x0, x7, y0, y1⟩ := HC1.out W1 own1 (Fr.refl _ _)
      have HI1 : Hid (WI A B0 own1 W1 hb t hs es ps) := hI1
      clear hX hXl hbx hF1 hOX HCL HF0 hI1
      by_cases hk3 : kd = 3
      · subst hk3
        have HNX : Hid (Calls Tryz.prog 28 #[.pointer (some ⟨hb, 0, none⟩), .agg #[.pointer (some ⟨sb, 0, none⟩), .pointer (some ⟨rb, 0, none⟩)]] W1 fun e w' => ∃ v, e = .returned (.tuple #[v, .bool true]) ∧ WStep A B0 own1 W1 hb (t + 1) ps.length w') := by
          show Calls _ _ _ _ _
          rw [HSB.out.1, HSB.out.2]; exact wnext_any HI1.out hjl ht
        go_wp2_with fail
        refine HNX.out.mono ?_
        rintro e w' ⟨v, rfl, hW⟩
        go_wp2_with fail
        go_ret
        exact ⟨rfl, hW.from HF01.out⟩
      · by_cases hk2 : kd = 2
        · subst hk2
          have hP0 : PhB A B0 own1 W1 hb hs es ps W1 := ⟨own1, HI1.out.toWJ, Fr.refl _ _⟩
          have hbl : hb < W1.heap.size := HI1.out.hands.lt
          have HBX : Hid (∀ (hs : HS) (ps' : List Pr) W, PhB A B0 own1 W1 hb hs es ps' W → W.cell? ⟨bx, 7, none⟩ = some (.slice p n c) ∧ W.cell? ⟨X, 0, none⟩ = some (.pointer (some ⟨sb, 0, none⟩)) ∧ W.cell? ⟨X, 1, none⟩ = some (.pointer (some ⟨rb, 0, none⟩))) := fun hs ps' W h => by
            obtain ⟨own', _, hF⟩ := h
            exact (HC1.out W own' hF).2
          have HBY : Hid (∀ W, PhB A B0 own1 W1 hb hs es ps W → Calls Tryz.prog 81 #[.pointer (some ⟨hb, 2, none⟩), .slice p n c] W fun e W' => ∃ G v1, e = .returned (.slice (some ⟨G, 0, none⟩) n (n + 2)) ∧ PhG A B0 own1 W1 hb hs es ps G v1 W' ∧ Lent W' G v1 [⟨.slice p n c, l⟩] [G] 1 ∧ W1.heap.size ≤ G ∧ LowH hs es G) := fun W h => wbytes h HI1.out.nil.in0 hO1
          have HHR : Hid (∀ W G v1, PhG A B0 own1 W1 hb hs es ps G v1 W → Lent W G v1 [⟨.slice p n c, l⟩] [G] 1 → Calls Tryz.prog 35 #[.pointer (some ⟨sb, 0, none⟩), .slice (some ⟨G, 0, none⟩) n (n + 2)] W fun e W' => ∃ v s', e = .returned (.tuple #[.int .i64 (enqM (pat ps j).s l), v]) ∧ VSays A W' v (enqZ (pat ps j).s l) ∧ EnqTo (pat ps j).s l s' ∧ PhG A B0 own1 W1 hb hs es (ps.set j { pat ps j with s := s' }) G v1 W' ∧ Lent W' G v1 [⟨.slice p n c, l⟩] [G] 1) := fun W G v1 h hL => by
            rw [HSB.out.1]; exact wenq h hjl hO1 hL
          have hP0d : PhB A B0 own1 W1 hb hs es ps W1.drew := hP0.above ((Below.refl _ _).drew)
          have HRH : Hid (∀ W v z s', PhB A B0 own1 W1 hb hs es (ps.set j { pat ps j with s := s' }) W → EnqTo (pat ps j).s l s' → VSays A W v z → Calls Tryz.prog 83 #[.pointer (some ⟨rb, 0, none⟩), .slice p n c] W fun e W' => e = .returned (.tuple #[.int .i64 (enqM (pat ps j).s l), .agg #[.int .i64 (enqZ (pat ps j).s l).1, .int .i64 (enqZ (pat ps j).s l).2]]) ∧ VSays A W' v z ∧ ∃ r', PhB A B0 own1 W1 hb hs es ((ps.set j { pat ps j with s := s' }).set j { pat (ps.set j { pat ps j with s := s' }) j with r := r' }) W' ∧ Sim s' r' t) := fun W v z s' h he hv => by
            rw [HSB.out.2]; exact wrenq h hjl (HI1.out.snd j hjl).2 (HI1.out.sim j hjl) he hO1 hv
          have HFIN : Hid (∀ s' r' W, PhB A B0 own1 W1 hb hs es ((ps.set j { pat ps j with s := s' }).set j { pat (ps.set j { pat ps j with s := s' }) j with r := r' }) W → Sim s' r' t → WStep A B0 own w hb (t + 1) ps.length W) := fun s' r' W h hs' => (HI1.out.phase hjl (Fr.refl _ _) h (hs'.more (by omega))).from HF01.out
          generalize enqM (pat ps j).s l = em at *
          generalize enqZ (pat ps j).s l = Z at *
          obtain ⟨z0, z1⟩ := Z
          simp only at HRH
          go_upto_region 12 with fail
          go_cut [10, 11] (fun m v wx => ∃ G v1 s', m = .int .i64 em ∧ VSays A wx v (z0, z1) ∧ EnqTo (pat ps j).s l s' ∧ PhG A B0 own1 W1 hb hs es (ps.set j { pat ps j with s := s' }) G v1 wx ∧ Lent wx G v1 [⟨.slice p n c, l⟩] [G] 1 ∧ W1.heap.size ≤ G ∧ LowH hs es G)
          case first =>
            go_region_with (first
              | (go_at_call 81; refine (HBY.out _ hP0d).mono ?_; rintro e w1 ⟨G, v1, rfl, hG1, hL1, hle1, hlow1⟩; obtain ⟨x7', y0', y1'⟩ := HBX.out _ _ _ hG1.b)
              | (go_at_call 35; refine (HHR.out _ _ _ hG1 hL1).mono ?_; rintro e w2 ⟨v, s', rfl, hv, he, hG2, hL2⟩))
            all_goals go_wp2_with fail
            all_goals go_meet
            all_goals exact ⟨G, v1, s', rfl, hv, he, hG2, hL2, hle1, hlow1⟩
          case rest =>
            obtain ⟨G, v1, s', rfl, hv, he, hG, hL, hle, hlow⟩ := hcut
            have HBK : Hid (Calls Tryz.prog 82 #[.pointer (some ⟨hb, 2, none⟩), .slice none 0 0] wc fun e W' => e = .returned (.bool true) ∧ PhB A B0 own1 W1 hb hs es (ps.set j { pat ps j with s := s' }) W' ∧ But (fun b => b = hb ∨ b = G) wc W') := wback _ hG HI1.out.nil hO1 hL hle hlow hbl
            clear x0 x7 y0 y1
            go_wp2_with fail
            refine HBK.out.mono ?_
            rintro e w3 ⟨rfl, hP3, hb3⟩
            have hv3 : VSays A w3 u11 (z0, z1) := hv.kept (fun pb cs hp => hb3.block pb (lt_of_block hp) (fun q => by
              obtain ⟨_, hJ, _⟩ := hG
              rcases q with q | q
              · exact ne_typ hp hJ.hands (by decide) q
              · exact ne_typ hp (hL.blk 0 (by omega)) (by decide) q))
            clear hv hG hL hle hlow HBK hb3
            obtain ⟨x7, y0, y1⟩ := HBX.out _ _ _ hP3
            go_wp2_with fail
            refine (HRH.out w3 u11 (z0, z1) s' hP3 he hv3).mono ?_
            rintro e w5 ⟨rfl, hv5, r', hP5, hs5⟩
            have hb6 : Below w5.heap.size w5 (w5.alloc (.cells #[.int .i64 z0, .int .i64 z1] 139)) := (Below.refl _ _).alloc (Nat.le_refl _) _
            have hE6 := heap_alloc_new w5 (.cells #[.int .i64 z0, .int .i64 z1] 139)
            clear x7 y0 y1
            go_upto_region 15 with fail
            generalize w5.alloc (.cells #[.int .i64 z0, .int .i64 z1] 139) = W6 at *
            have hP6 := hP5.above hb6
            have hv6 := hv5.below hb6
            obtain ⟨eb, heb⟩ : ∃ x, x = w5.heap.size := ⟨_, rfl⟩
            rw [← heb] at hE6 ⊢
            obtain ⟨e0, e1, _, _⟩ := twoE hE6
            have HE7 : Hid (∀ w7, Below W6.heap.size W6 w7 → w7.cell? ⟨eb, 0, none⟩ = some (.int .i64 z0) ∧ w7.cell? ⟨eb, 1, none⟩ = some (.int .i64 z1)) := fun w7 hb7 => ⟨by rw [hb7.cell (lt_of_cell e0)]; exact e0, by rw [hb7.cell (lt_of_cell e1)]; exact e1⟩
            have HTD : Hid (∀ W, Below W6.heap.size W6 W → Calls Tryz.prog 56 #[u11] W fun e w' => e = .returned (.agg #[.int .i64 z0, .int .i64 z1]) ∧ Below W.heap.size W w') := fun W hW => told_says (z := (z0, z1)) (hP6.above hW).errs (hv6.below hW)
            have hdr : Below W6.heap.size W6 W6.drew := (Below.refl _ _).drew
            clear heb hE6 hb6 hP5 hv5 hv3 hP3
            go_region_held3 (fun w' => w'.cell? ⟨eb, 0, none⟩ = some (.int .i64 z0) ∧ w'.cell? ⟨eb, 1, none⟩ = some (.int .i64 z1)) (first | go_keep | exact hkeep) (first
              | (go_at_call 56; refine (HTD.out _ hdr).mono ?_; rintro e w7 ⟨rfl, hb7⟩; (have hbX : Below W6.heap.size W6 w7 := by first | exact Below.undraw hb7 | exact hb7); have hkeep := HE7.out w7 hbX; obtain ⟨y0', y1'⟩ := hkeep))
            all_goals go_wp2_with fail
            all_goals go_ret
            all_goals exact ⟨rfl, HFIN.out _ _ _ (hP6.above hbX) hs5⟩
        · have HTL : Hid (Calls Tryz.prog 84 #[.pointer (some ⟨hb, 0, none⟩), .agg #[.pointer (some ⟨sb, 0, none⟩), .pointer (some ⟨rb, 0, none⟩)], .slice p n c] W1 fun e w' => e = .returned (.bool true) ∧ WStep A B0 own1 W1 hb (t + 1) ps.length w') := by
            show Calls _ _ _ _ _
            rw [HSB.out.1, HSB.out.2]; exact wtell_any HI1.out hjl hO1
          go_wp2_with fail
          refine HTL.out.mono ?_
          rintro e w' ⟨rfl, hW⟩
          go_wp2_with fail
          go_ret
          exact ⟨rfl, hW.from HF01.out⟩

end Go.Proofs.YtjabhnhejbhgjaaGreatDoor
