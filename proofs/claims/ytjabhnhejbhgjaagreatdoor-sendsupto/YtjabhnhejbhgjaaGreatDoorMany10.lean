import Derived.Test.YtjabhnhejbhgjaaGreatDoorMany9
import Derived.Test.YtjabhnhejbhgjaaGreatDoorMany7
import Derived.Test.YtjabhnhejbhgjaaGreatDoorMany3
/- The law's World: tell. -/
namespace Go.Proofs.YtjabhnhejbhgjaaGreatDoor
open Go.RowKit

theorem RAt.neB {w : World} {B rb E : Nat} {r : Rsn} {cs : Array Value} (h : RAt w B rb r) (hE : w.heap[E]? = some (.cells cs 168 (0, 0))) : ¬ r.foot rb E := by
  intro hb
  rcases hb with q | q | q | ⟨i, hi, q | q⟩
  · have hk := h.blk
    rw [← q, hE] at hk
    simp only [Option.some.injEq, Obj.cells.injEq] at hk
    exact absurd hk.2.1 (by decide)
  · exact own_ne h.own q hE (by decide) rfl
  · exact own_ne h.ownB q hE (by decide) rfl
  · have hk := (h.debts i hi).2
    rw [← q, hE] at hk
    simp only [Option.some.injEq, Obj.cells.injEq] at hk
    exact absurd hk.2.1 (by decide)
  · exact own_ne (h.bytes i hi) q hE (by decide) rfl

theorem marked_bs9 {w : World} {g : Nat} {l : List Gf.F} (h : Blk w g (marked l)) : Bs w g 0 l := by
  have := h.bsN l.length
  rwa [marked_take] at this

theorem ne_typ {w : World} {g k : Nat} {cs cs' : Array Value} {t t' : TypeId} {f f' : Nat × Nat} (h : w.heap[g]? = some (.cells cs t f)) (h' : w.heap[k]? = some (.cells cs' t' f')) (hne : t ≠ t') : ¬ g = k := by
  intro q
  rw [q, h'] at h
  simp only [Option.some.injEq, Obj.cells.injEq] at h
  exact hne h.2.1.symm

section
variable {A : Nat → Addr} {B0 : Nat} {own0 : Nat → Nat} {W0 W W' : World} {hb t i : Nat} {hs : HS} {es : List Ent} {ps : List Pr} {a : Option Addr} {b o n c : Nat} {l : List Gf.F}

theorem PhB.errs (h : PhB A B0 own0 W0 hb hs es ps W) : Errs A B0 W := by
  obtain ⟨own, hJ, _⟩ := h
  exact hJ.errs

/-- The program's Hear of what is lent. -/
theorem whear {G : Nat} {v1 : Value} (h : PhG A B0 own0 W0 hb hs es ps G v1 W) (hi : i < ps.length) (hO : OpB own0 W0 a b o n c l) (hL : Lent W G v1 [⟨.slice a n c, l⟩] [G] 1) :
    Calls Tryz.prog 16 #[.pointer (some ⟨(pat ps i).sb, 0, none⟩), .slice (some ⟨G, 0, none⟩) n (n + 2)] W fun e W' =>
      ∃ v, e = .returned v ∧ VSays A W' v (hearZ (pat ps i).s l) ∧ PhG A B0 own0 W0 hb hs es (ps.set i { pat ps i with s := hearS (pat ps i).s l }) G v1 W' ∧ Lent W' G v1 [⟨.slice a n c, l⟩] [G] 1 := by
  have h' := h
  obtain ⟨own, hJ, hF, hX⟩ := h'
  have hG : Blk W G (marked l) := hL.blk 0 (by omega)
  have hlt := hJ.hands.lt
  have htl := hJ.typLow
  have hfew := hO.few
  refine (hear_any (hJ.snd i hi).1 (hJ.snd i hi).2 hJ.errs hJ.typ (by omega) hO.len (by omega) (by omega) (by omega) (fun _ => rfl) (marked_bs9 hG) (fun _ => hG.lt)).mono ?_
  intro e W' hG'
  obtain ⟨v, rfl, hv, hS, hok, hbu, hft⟩ := hG'.one (hJ.snd i hi).1 (hJ.snd i hi).2
  obtain ⟨h1, h2⟩ := h.stepS hL hi hbu hS hok (fun b q => .inl ((hft b).1 q))
  exact ⟨v, rfl, hv, h1, h2⟩

/-- The document's. -/
theorem wrhear {v : Value} {z : Int × Int} (h : PhB A B0 own0 W0 hb hs es (ps.set i { pat ps i with s := hearS (pat ps i).s l }) W) (hi : i < ps.length) (ok : (pat ps i).s.Ok) (sim : Sim (pat ps i).s (pat ps i).r t) (hO : OpB own0 W0 a b o n c l) (hv : VSays A W v z) :
    Calls Tryz.prog 120 #[.pointer (some ⟨(pat ps i).rb, 0, none⟩), .slice a n c] W fun e W' =>
      e = .returned (.agg #[.int .i64 (hearZ (pat ps i).s l).1, .int .i64 (hearZ (pat ps i).s l).2]) ∧ VSays A W' v z ∧ ∃ r', PhB A B0 own0 W0 hb hs es ((ps.set i { pat ps i with s := hearS (pat ps i).s l }).set i { pat (ps.set i { pat ps i with s := hearS (pat ps i).s l }) i with r := r' }) W' ∧ Sim (hearS (pat ps i).s l) r' t := by
  have h' := h
  obtain ⟨own, hJ, hF⟩ := h'
  have hOW := hO.fr hF
  have hfew := hO.few
  have hi1 : i < (ps.set i { pat ps i with s := hearS (pat ps i).s l }).length := by simpa using hi
  have hpr : pat (ps.set i { pat ps i with s := hearS (pat ps i).s l }) i = { pat ps i with s := hearS (pat ps i).s l } := by rw [pat_set hi, if_pos rfl]
  have hR : RAt W (hb + 1) (pat ps i).rb (pat ps i).r := by
    have := hJ.rsn i hi1
    rw [hpr] at this
    exact this
  refine (rhear_any hR ok sim hO.len hO.cap (by omega) hO.adr hOW.bs (fun h0 => (hOW.free h0).1)).mono ?_
  intro e W' hG'
  obtain ⟨rfl, r', hR', hs', hbu, hft⟩ := hG'.one hR sim
  refine ⟨rfl, hv.kept (fun pb cs hp => hbu.block pb (lt_of_block hp) (hR.neB hp)), r', ?_, hs'⟩
  exact h.stepR hi1 (by rw [hpr]; exact hbu) (by rw [hpr]; exact hR') (fun b q => .inl (by rw [hpr] at q ⊢; exact (hft b).1 q))

/-- A step of the i-th pair is done. -/
theorem WI.phase {own : Nat → Nat} {w : World} {s' : Snd} {r' : Rsn} (hI : WI A B0 own w hb t hs es ps) (hi : i < ps.length) (hF0 : Fr own w own0 W0) (h : PhB A B0 own0 W0 hb hs es ((ps.set i { pat ps i with s := s' }).set i { pat (ps.set i { pat ps i with s := s' }) i with r := r' }) W) (sim : Sim s' r' (t + 1)) : WStep A B0 own w hb (t + 1) ps.length W := by
  obtain ⟨own', hJ, hF⟩ := h
  obtain ⟨N, h1, h2⟩ := hI.n
  exact ⟨own', hs, es, _, hI.pair hi hJ sim ⟨N, h1, by omega⟩ (by have := hI.fewE; omega) hI.nil, by simp, hF0.trans hF⟩
end

set_option maxRecDepth 100000 in
set_option maxHeartbeats 2000000 in
theorem wtell_any {A : Nat → Addr} {B0 : Nat} {own : Nat → Nat} {w : World} {hb t i : Nat} {hs : HS} {es : List Ent} {ps : List Pr} {a : Option Addr} {b o n c : Nat} {l : List Gf.F} (hI : WI A B0 own w hb t hs es ps) (hi : i < ps.length) (hOw : OpB own w a b o n c l) :
    Calls Tryz.prog 84 #[.pointer (some ⟨hb, 0, none⟩), .agg #[.pointer (some ⟨(pat ps i).sb, 0, none⟩), .pointer (some ⟨(pat ps i).rb, 0, none⟩)], .slice a n c] w fun e w' => e = .returned (.bool true) ∧ WStep A B0 own w hb (t + 1) ps.length w' := by
  have hbe : Below w.heap.size w (w.alloc (.cells #[.pointer (some ⟨(pat ps i).sb, 0, none⟩), .pointer (some ⟨(pat ps i).rb, 0, none⟩)] 89)) := (Below.refl _ _).alloc (Nat.le_refl _) _
  have hJ0 := hI.toWJ.above 1 hbe
  have hF0 : Fr own w (ownN own w.heap.size 1) _ := Fr.above 1 hbe
  have hX0 := heap_alloc_new w (.cells #[.pointer (some ⟨(pat ps i).sb, 0, none⟩), .pointer (some ⟨(pat ps i).rb, 0, none⟩)] 89)
  have hO0 : ownN own w.heap.size 1 w.heap.size = 1 := ownN_new (Nat.le_refl _)
  go_enter Tryz.func84, Tryz.ntmps84
  go_upto_region 1 with fail
  generalize w.alloc (.cells #[.pointer (some ⟨(pat ps i).sb, 0, none⟩), .pointer (some ⟨(pat ps i).rb, 0, none⟩)] 89) = W0 at *
  generalize ownN own w.heap.size 1 = own0 at *
  have hO := hOw.fr hF0
  have hP0 : PhB A B0 own0 W0 hb hs es ps W0 := ⟨own0, hJ0, Fr.refl _ _⟩
  have HI : Hid (WI A B0 own w hb t hs es ps) := hI
  have HF0 : Hid (Fr own w own0 W0) := hF0
  have hbl : hb < W0.heap.size := Nat.lt_of_lt_of_le hI.hands.lt hF0.size
  have HBX : Hid (∀ (hs : HS) (ps' : List Pr) W, PhB A B0 own0 W0 hb hs es ps' W → W.cell? ⟨w.heap.size, 0, none⟩ = some (.pointer (some ⟨(pat ps i).sb, 0, none⟩)) ∧ W.cell? ⟨w.heap.size, 1, none⟩ = some (.pointer (some ⟨(pat ps i).rb, 0, none⟩))) := fun hs ps' W h => by
    have := (h.block (lt_of_block hX0) hO0).trans hX0
    exact ⟨(twoE this).1, (twoE this).2.1⟩
  obtain ⟨x0, x1⟩ := HBX.out _ _ _ hP0
  have HBY : Hid (∀ W, PhB A B0 own0 W0 hb hs es ps W → Calls Tryz.prog 81 #[.pointer (some ⟨hb, 2, none⟩), .slice a n c] W fun e W' => ∃ G v1, e = .returned (.slice (some ⟨G, 0, none⟩) n (n + 2)) ∧ PhG A B0 own0 W0 hb hs es ps G v1 W' ∧ Lent W' G v1 [⟨.slice a n c, l⟩] [G] 1 ∧ W0.heap.size ≤ G ∧ LowH hs es G) := fun W h => wbytes h hI.nil.in0 hO
  have HHR : Hid (∀ W G v1, PhG A B0 own0 W0 hb hs es ps G v1 W → Lent W G v1 [⟨.slice a n c, l⟩] [G] 1 → Calls Tryz.prog 16 #[.pointer (some ⟨(pat ps i).sb, 0, none⟩), .slice (some ⟨G, 0, none⟩) n (n + 2)] W fun e W' => ∃ v, e = .returned v ∧ VSays A W' v (hearZ (pat ps i).s l) ∧ PhG A B0 own0 W0 hb hs es (ps.set i { pat ps i with s := hearS (pat ps i).s l }) G v1 W' ∧ Lent W' G v1 [⟨.slice a n c, l⟩] [G] 1) := fun W G v1 h hL => whear h hi hO hL
  have hP0d : PhB A B0 own0 W0 hb hs es ps W0.drew := hP0.above ((Below.refl _ _).drew)
  have hok := (hI.snd i hi).2
  have hsim := hI.sim i hi
  have HRH : Hid (∀ W v z, PhB A B0 own0 W0 hb hs es (ps.set i { pat ps i with s := hearS (pat ps i).s l }) W → VSays A W v z → Calls Tryz.prog 120 #[.pointer (some ⟨(pat ps i).rb, 0, none⟩), .slice a n c] W fun e W' => e = .returned (.agg #[.int .i64 (hearZ (pat ps i).s l).1, .int .i64 (hearZ (pat ps i).s l).2]) ∧ VSays A W' v z ∧ ∃ r', PhB A B0 own0 W0 hb hs es ((ps.set i { pat ps i with s := hearS (pat ps i).s l }).set i { pat (ps.set i { pat ps i with s := hearS (pat ps i).s l }) i with r := r' }) W' ∧ Sim (hearS (pat ps i).s l) r' t) := fun W v z h hv => wrhear h hi hok hsim hO hv
  clear hX0 hO0 hJ0 hI hbe hF0
  go_cut [7] (fun v wx => ∃ G v1, VSays A wx v (hearZ (pat ps i).s l) ∧ PhG A B0 own0 W0 hb hs es (ps.set i { pat ps i with s := hearS (pat ps i).s l }) G v1 wx ∧ Lent wx G v1 [⟨.slice a n c, l⟩] [G] 1 ∧ W0.heap.size ≤ G ∧ LowH hs es G)
  case first =>
    go_region_with (first
      | (go_at_call 81; refine (HBY.out _ hP0d).mono ?_; rintro e w1 ⟨G, v1, rfl, hG1, hL1, hle1, hlow1⟩; obtain ⟨x0', x1'⟩ := HBX.out _ _ _ hG1.b)
      | (go_at_call 16; refine (HHR.out _ _ _ hG1 hL1).mono ?_; rintro e w2 ⟨v, rfl, hv, hG2, hL2⟩))
    all_goals go_wp2_with fail
    all_goals go_meet
    all_goals exact ⟨G, v1, hv, hG2, hL2, hle1, hlow1⟩
  case rest =>
    obtain ⟨G, v1, hv, hG, hL, hle, hlow⟩ := hcut
    have HBK : Hid (Calls Tryz.prog 82 #[.pointer (some ⟨hb, 2, none⟩), .slice none 0 0] wc fun e W' => e = .returned (.bool true) ∧ PhB A B0 own0 W0 hb hs es (ps.set i { pat ps i with s := hearS (pat ps i).s l }) W' ∧ But (fun b => b = hb ∨ b = G) wc W') := wback _ hG HI.out.nil hO hL hle hlow hbl
    clear x0 x1
    go_wp2_with fail
    refine HBK.out.mono ?_
    rintro e w3 ⟨rfl, hP3, hb3⟩
    have hv3 : VSays A w3 u7 (hearZ (pat ps i).s l) := hv.kept (fun pb cs hp => hb3.block pb (lt_of_block hp) (fun q => by
      obtain ⟨_, hJ, _⟩ := hG
      rcases q with q | q
      · exact ne_typ hp hJ.hands (by decide) q
      · exact ne_typ hp (hL.blk 0 (by omega)) (by decide) q))
    have HTD : Hid (∀ W, VSays A W u7 (hearZ (pat ps i).s l) → Errs A B0 W → Calls Tryz.prog 56 #[u7] W fun e w' => e = .returned (.agg #[.int .i64 (hearZ (pat ps i).s l).1, .int .i64 (hearZ (pat ps i).s l).2]) ∧ Below W.heap.size W w') := fun W h1 h2 => told_says h2 h1
    have HFIN : Hid (∀ r' W, PhB A B0 own0 W0 hb hs es ((ps.set i { pat ps i with s := hearS (pat ps i).s l }).set i { pat (ps.set i { pat ps i with s := hearS (pat ps i).s l }) i with r := r' }) W → Sim (hearS (pat ps i).s l) r' t → WStep A B0 own w hb (t + 1) ps.length W) := fun r' W h hs' => HI.out.phase hi HF0.out h (hs'.more (by omega))
    clear hv hG hL hle hlow HBK hb3
    go_upto_region 3 with fail
    have hP3d : PhB A B0 own0 W0 hb hs es (ps.set i { pat ps i with s := hearS (pat ps i).s l }) w3.drew := hP3.above ((Below.refl _ _).drew)
    have hv3d : VSays A w3.drew u7 (hearZ (pat ps i).s l) := hv3.below ((Below.refl _ _).drew)
    obtain ⟨x0, x1⟩ := HBX.out _ _ _ hP3
    generalize hearZ (pat ps i).s l = Z at *
    obtain ⟨z0, z1⟩ := Z
    simp only at *
    go_region_with (first
      | (go_at_call 56; first
        | (refine (HTD.out _ hv5 hP5.errs).mono ?_; rintro e w6 ⟨rfl, hb6⟩)
        | (refine (HTD.out _ hv3d hP3d.errs).mono ?_; rintro e w4 ⟨rfl, hb4⟩; have hP4 := hP3d.above hb4; have hv4 := hv3d.below hb4; obtain ⟨x0', x1'⟩ := HBX.out _ _ _ hP4))
      | (go_at_call 120; first
        | (refine (HRH.out _ _ _ hP4 hv4).mono ?_; rintro e w5 ⟨rfl, hv5, r', hP5, hs5⟩)
        | (refine (HRH.out _ _ _ hP3d hv3d).mono ?_; rintro e w5 ⟨rfl, hv5, r', hP5, hs5⟩)))
    all_goals go_wp2_with fail
    all_goals go_ret
    all_goals first
      | exact ⟨rfl, HFIN.out _ _ (hP5.above hb6) hs5⟩
      | exact ⟨rfl, HFIN.out _ _ hP5 hs5⟩

end Go.Proofs.YtjabhnhejbhgjaaGreatDoor

/- The law's World: sends, a new sender. -/
namespace Go.Proofs.YtjabhnhejbhgjaaGreatDoor
open Go.RowKit

theorem HAt.setV {w : World} {hb : Nat} {s : HS} (h : HAt w hb s) (v : Value) : HAt (w.setCell ⟨hb, 0, none⟩ v) hb { s with sv := v } := by unfold HAt; rw [heap_setCell_same w hb 0 _ _ _ h]; rfl
theorem Tryz.info_sender : (Tryz.prog.info? 89).map (fun i => (i.zero, i.size, i.bytes)) = some (some (.agg #[.pointer none, .pointer none]), 2, 16) := by kernel_rfl
theorem Tryz.sender_parts : ∃ i, Tryz.prog.info? 89 = some i ∧ i.zero = some (.agg #[.pointer none, .pointer none]) ∧ i.size = 2 ∧ i.bytes = 16 := by
  obtain ⟨i, hi, h⟩ := Option.map_eq_some_iff.1 Tryz.info_sender
  simp only [Prod.mk.injEq] at h
  exact ⟨i, hi, h.1, h.2.1, h.2.2⟩

/-- A step of a script. -/
structure Opv where
  kd : Int
  on : Int
  tt : Int
  a : Int
  K : Int
  N : Int
  S : Int
  p : Option Addr
  n : Nat
  c : Nat
def Opv.cells (q : Opv) : Array Value := #[.int .i64 q.kd, .int .i64 q.on, .int .i64 q.tt, .int .i64 q.a, .int .i64 q.K, .int .i64 q.N, .int .i64 q.S, .slice q.p q.n q.c]

theorem op_cells {W : World} {g : Nat} {q : Opv} {f : Nat × Nat} (h : W.heap[g]? = some (.cells q.cells 83 f)) :
    W.cell? ⟨g, 0, none⟩ = some (.int .i64 q.kd) ∧ W.cell? ⟨g, 1, none⟩ = some (.int .i64 q.on) ∧ W.cell? ⟨g, 4, none⟩ = some (.int .i64 q.K) ∧ W.cell? ⟨g, 5, none⟩ = some (.int .i64 q.N) ∧ W.cell? ⟨g, 6, none⟩ = some (.int .i64 q.S) ∧ W.cell? ⟨g, 7, none⟩ = some (.slice q.p q.n q.c) :=
  ⟨cell_of_row W g 0 _ _ _ h, cell_of_row W g 1 _ _ _ h, cell_of_row W g 4 _ _ _ h, cell_of_row W g 5 _ _ _ h, cell_of_row W g 6 _ _ _ h, cell_of_row W g 7 _ _ _ h⟩

/-- Both are made. -/
theorem WI.made {A : Nat → Addr} {B0 : Nat} {own : Nat → Nat} {w w1 w2 w3 W : World} {hb t K N S sb rb g cap : Nat} {hs : HS} {es : List Ent} {ps : List Pr} {ob : Obj} (hI : WI A B0 own w hb t hs es ps) (hcf : Cfg K N S) (hb1 : Below w.heap.size w w1) (hS : SAt w1 w.heap.size sb (snd0 K N S)) (hb2 : Below w1.heap.size w1 w2) (hR : RAt w2 w1.heap.size rb (rsn0 K N S)) (hb3 : Below w2.heap.size w2 w3)
    (hg : (w3.alloc ob).grownBy W hs.sv.ownBlock) (hown : W.ownsRow (hb + 1) 89 2 (.slice (some ⟨g, 0, none⟩) (ps.length + 1) cap) (ps.length + 1) (flat2 (prVals ps) ++ [.pointer (some ⟨sb, 0, none⟩), .pointer (some ⟨rb, 0, none⟩)])) (hlie : hs.sv.ownBlock = some g ∨ g = w3.heap.size + 1) :
    ∃ own' ps', WI A B0 own' (W.setCell ⟨hb, 0, none⟩ (.slice (some ⟨g, 0, none⟩) (ps.length + 1) cap)) hb (t + 1) { hs with sv := .slice (some ⟨g, 0, none⟩) (ps.length + 1) cap } es ps' ∧ ps'.length = ps.length + 1 ∧ Fr own w own' (W.setCell ⟨hb, 0, none⟩ (.slice (some ⟨g, 0, none⟩) (ps.length + 1) cap)) ∧
      ∀ (k : Nat) (cs : Array Value) (t : TypeId), w3.heap[k]? = some (Obj.cells cs t (0, 0)) → t ≠ 89 → t ≠ 81 → (W.setCell ⟨hb, 0, none⟩ (.slice (some ⟨g, 0, none⟩) (ps.length + 1) cap)).heap[k]? = w3.heap[k]? := by
  have h1 := hI.toWJ.above (2 * ps.length + 2) hb1
  have h2 := h1.above (2 * ps.length + 3) hb2
  have h3 := h2.above 0 hb3
  have h4 := h3.above 0 ((Below.refl _ w3).alloc (Nat.le_refl _) ob)
  have f1 := Fr.above (own := own) (2 * ps.length + 2) hb1
  have f2 := Fr.above (own := ownN own w.heap.size (2 * ps.length + 2)) (2 * ps.length + 3) hb2
  have f3 := Fr.above (own := ownN (ownN own w.heap.size (2 * ps.length + 2)) w1.heap.size (2 * ps.length + 3)) 0 hb3
  have f4 := Fr.above (own := ownN (ownN (ownN own w.heap.size (2 * ps.length + 2)) w1.heap.size (2 * ps.length + 3)) w2.heap.size 0) 0 ((Below.refl _ w3).alloc (Nat.le_refl _) ob)
  have f5 := ((f1.trans f2).trans f3).trans f4
  have hlt := hI.hands.lt
  have e1 := hb1.size
  have e2 := hb2.size
  have e3 := hb3.size
  have hS2 : SAt w2 w.heap.size sb (snd0 K N S) := hS.above hb2
  have hS3 : SAt w3 w.heap.size sb (snd0 K N S) := hS2.above hb3
  have hS4 : SAt (w3.alloc ob) w.heap.size sb (snd0 K N S) := hS3.above ((Below.refl _ w3).alloc (Nat.le_refl _) ob)
  have hR3 : RAt w3 w1.heap.size rb (rsn0 K N S) := hR.above hb3
  have hR4 : RAt (w3.alloc ob) w1.heap.size rb (rsn0 K N S) := hR3.above ((Below.refl _ w3).alloc (Nat.le_refl _) ob)
  have hbu : But (fun b => b = hb ∨ hs.sv.ownBlock = some b) (w3.alloc ob) (W.setCell ⟨hb, 0, none⟩ (.slice (some ⟨g, 0, none⟩) (ps.length + 1) cap)) := ((But.refl _ (w3.alloc ob)).grown hg (fun k hk => .inl (.inr hk))).setCell (p := ⟨hb, 0, none⟩) (.inl (.inl rfl)) _
  have hHW : HAt W hb hs := h4.hands.kept (grown_block hg h4.hands.lt (fun q => own_ne h4.sown q h4.hands (by decide) rfl))
  have hO := But.setCell (S := fun b => b = hb) (But.refl _ W) (p := ⟨hb, 0, none⟩) (.inl rfl) (.slice (some ⟨g, 0, none⟩) (ps.length + 1) cap)
  have hJ := h4.push (p := ⟨snd0 K N S, sb, rsn0 K N S, rb⟩) hbu (fun b _ q => q) (hHW.setV _) (hO.own hown (fun k hk q => own_ne hown hk hHW (by decide) q)) (fun b hb' => by
      have hg' : g = b := by simpa [Value.ownBlock] using hb'
      subst hg'
      rcases hlie with q | q
      · exact .inl q
      · exact .inr (by simp; omega)) (hS4.lower (by omega)) (snd0_ok hcf) (hR4.lower (by omega)) (fun b q => ?_) (fun b q => ?_)
  · refine ⟨_, _, ⟨hJ, fun j hj => ?_, ?_, ?_, ?_, ⟨hI.nil.rv0, hI.nil.in0, hI.nil.rows0, hI.nil.ints0, hI.nil.want0, hI.nil.outer0, hI.nil.omarks0, hI.nil.lacks0, hI.nil.objs0⟩⟩, by simp, f5.trans (Fr.but hbu (fun b _ q => ?_)), fun k cs t hk n1 n2 => ?_⟩
    · by_cases e : j < ps.length
      · rw [pat_push ps _ j e]
        exact (hI.sim j e).more (by omega)
      · obtain rfl : j = ps.length := by simp at hj; omega
        rw [pat_last]
        exact (sim0 K N S).more (by omega)
    · obtain ⟨N', n1, n2⟩ := hI.n
      exact ⟨N', n1, by omega⟩
    · have := hI.fewE; omega
    · have := hI.fewP; simp; omega
    · rcases q with rfl | q
      · rw [h4.oH]; omega
      · rw [h4.oV b q]; omega
    · have hkl := lt_of_block hk
      rw [hbu.block k (by simp; omega) (fun q => ?_)]
      · exact Below.heap_alloc w3 ob k hkl
      · rcases q with q | q
        · exact ne_typ hk h3.hands n2 q
        · exact own_ne h3.sown q hk (fun e => n1 e.symm) rfl
  · have hlt4 := (hS.foot_lt q)
    rw [ownN_old (by omega), ownN_old (by omega), ownN_old hlt4.2, ownN_new hlt4.1]
  · have hlt4 := (hR.foot_lt q)
    rw [ownN_old (by omega), ownN_old hlt4.2, ownN_new hlt4.1]

set_option maxRecDepth 100000 in
set_option maxHeartbeats 2000000 in
theorem wsends_new {A : Nat → Addr} {B0 : Nat} {own : Nat → Nat} {w : World} {hb t : Nat} {hs : HS} {es : List Ent} {ps : List Pr} {q : Opv} (hI : WI A B0 own w hb t hs es ps) (hk : q.kd = 1) (ht : t ≤ 20000000) :
    Calls Tryz.prog 51 #[.pointer (some ⟨hb, 0, none⟩), .agg q.cells] w fun e w' => e = .returned (.bool true) ∧ WStep A B0 own w hb (t + 1) (if cfgB q.K q.N q.S = true then ps.length + 1 else ps.length) w' := by
  have hbe : Below w.heap.size w (w.alloc (.cells q.cells 83)) := (Below.refl _ _).alloc (Nat.le_refl _) _
  have hI0 := hI.above 1 hbe
  have hF0 : Fr own w (ownN own w.heap.size 1) _ := Fr.above 1 hbe
  have hX0 := heap_alloc_new w (.cells q.cells 83)
  obtain ⟨kd, on, tt, qa, K, N, S, p, n, c⟩ := q
  simp only [Opv.cells] at *
  obtain rfl := hk
  have hfP := hI.fewP
  go_enter Tryz.func51, Tryz.ntmps51
  go_upto_region 1 with fail
  generalize w.alloc (.cells #[.int .i64 1, .int .i64 on, .int .i64 tt, .int .i64 qa, .int .i64 K, .int .i64 N, .int .i64 S, .slice p n c] 83) = W0 at *
  generalize ownN own w.heap.size 1 = own0 at *
  obtain ⟨bx, hbx⟩ : ∃ x, x = w.heap.size := ⟨_, rfl⟩
  rw [← hbx] at hX0 ⊢
  have hcell : ∀ {W : World}, W.heap[bx]? = some (.cells #[.int .i64 1, .int .i64 on, .int .i64 tt, .int .i64 qa, .int .i64 K, .int .i64 N, .int .i64 S, .slice p n c] 83 (0, 0)) → W.cell? ⟨bx, 0, none⟩ = some (.int .i64 1) ∧ W.cell? ⟨bx, 4, none⟩ = some (.int .i64 K) ∧ W.cell? ⟨bx, 5, none⟩ = some (.int .i64 N) ∧ W.cell? ⟨bx, 6, none⟩ = some (.int .i64 S) := fun {W} h => ⟨cell_of_row W bx 0 _ _ _ h, cell_of_row W bx 4 _ _ _ h, cell_of_row W bx 5 _ _ _ h, cell_of_row W bx 6 _ _ _ h⟩
  have HCL : Hid _ := @hcell
  clear hcell hbx
  have HI0 : Hid (WI A B0 own0 W0 hb t hs es ps) := hI0
  have HF0 : Hid (Fr own w own0 W0) := hF0
  have hE := hI0.errs
  clear hI hF0 hbe hI0
  obtain ⟨x0, x4, x5, x6⟩ := HCL.out hX0
  cases hcb : cfgB K N S with
  | true =>
    obtain ⟨k, n', s, rfl, rfl, rfl, hcf⟩ := cfgB_cfg hcb
    go_wp2_with fail
    refine (newSender_ok k n' s hcb W0).mono ?_
    rintro e w1 ⟨sb, rfl, hS1, hb1⟩
    have hX1 := (hb1.block bx (lt_of_block hX0)).trans hX0
    clear x0 x4 x5 x6
    obtain ⟨x0, x4, x5, x6⟩ := HCL.out hX1
    go_wp2_with fail
    refine (rnewSender_ok k n' s hcb w1).mono ?_
    rintro e w2 ⟨rb, rfl, hR2, hb2⟩
    have hb12 : Below W0.heap.size W0 w2 := hb1.trans (hb2.mono hb1.size)
    have hE2 := heap_alloc_new w2 (.cells #[.int .i64 0, .int .i64 (-1)] 139)
    have hb3 : Below w2.heap.size w2 (w2.alloc (.cells #[.int .i64 0, .int .i64 (-1)] 139)) := (Below.refl _ _).alloc (Nat.le_refl _) _
    clear x0 x4 x5 x6
    go_upto_region 4 with fail
    generalize w2.alloc (.cells #[.int .i64 0, .int .i64 (-1)] 139) = w3 at *
    have hb13 : Below W0.heap.size W0 w3 := hb12.trans (hb3.mono hb12.size)
    have hJ3 := HI0.out.toWJ.above 0 hb13
    have hH3 := hJ3.hands
    have hl3 := hH3.lt
    obtain ⟨va, vc, hva, _⟩ := own_form2 hJ3.sown
    have HVA : Hid (hs.sv = .slice va ps.length vc) := hva
    have c0 : w3.cell? ⟨hb, 0, none⟩ = some (.slice va ps.length vc) := by rw [cell_of_row w3 hb 0 _ _ _ hH3]; show some hs.sv = _; rw [hva]
    obtain ⟨iS, hiS, hiS0, hiS1, hiS2⟩ := Tryz.sender_parts
    have HOW : Hid (∀ ob : Obj, (w3.alloc ob).ownsRow (hb + 1) 89 2 (.slice va ps.length vc) ps.length (flat2 (prVals ps))) := fun ob => by
      have := hJ3.sown
      rw [HVA.out] at this
      exact this.alloc ob
    have HMX : Hid (ps.length + 1 ≤ maxLen) := by show _ ≤ _; unfold maxLen; omega
    have HK5 : Hid (∀ ob w5, (w3.alloc ob).grownBy w5 (Value.slice va ps.length vc).ownBlock → w5.cell? ⟨hb, 0, none⟩ = some (.slice va ps.length vc) ∧ w5.frozen? ⟨hb, 0, none⟩ = false) := fun ob w5 hg => by
      have hk : w5.heap[hb]? = w3.heap[hb]? := (grown_block hg (by simp; omega) (fun q => by rw [← HVA.out] at q; exact own_ne hJ3.sown q hH3 (by decide) rfl)).trans (Below.heap_alloc w3 ob hb hl3)
      have hblk := hk.trans hH3
      exact ⟨by rw [cell_of_row w5 hb 0 _ _ _ hblk]; show some hs.sv = _; rw [HVA.out], frozen_of_row w5 hb 0 _ _ hblk⟩
    have HNW : Hid (∀ u ∈ [Value.pointer (some ⟨sb, 0, none⟩), .pointer (some ⟨rb, 0, none⟩)], u.oneCell' = true) := fun u hu => by simp at hu; rcases hu with rfl | rfl <;> rfl
    have hn3 : ¬ hb = w3.heap.size := Nat.ne_of_lt hl3
    obtain ⟨eb, heb⟩ : ∃ x, x = w2.heap.size := ⟨_, rfl⟩
    rw [← heb] at hE2 ⊢
    have HMAD : Hid (∀ (W : World) (g cap : Nat) (ob : Obj), (w3.alloc ob).grownBy W hs.sv.ownBlock → W.ownsRow (hb + 1) 89 2 (.slice (some ⟨g, 0, none⟩) (ps.length + 1) cap) (ps.length + 1) (flat2 (prVals ps) ++ [.pointer (some ⟨sb, 0, none⟩), .pointer (some ⟨rb, 0, none⟩)]) → (hs.sv.ownBlock = some g ∨ g = w3.heap.size + 1) → WStep A B0 own w hb (t + 1) (ps.length + 1) (W.setCell ⟨hb, 0, none⟩ (.slice (some ⟨g, 0, none⟩) (ps.length + 1) cap)) ∧ (W.setCell ⟨hb, 0, none⟩ (.slice (some ⟨g, 0, none⟩) (ps.length + 1) cap)).heap[eb]? = some (.cells #[.int .i64 0, .int .i64 (-1)] 139 (0, 0))) := fun W g cap ob h1 h2 h3 => by
      obtain ⟨own', ps', m1, m2, m3, m4⟩ := HI0.out.made hcf hb1 hS1 hb2 hR2 hb3 h1 h2 h3
      exact ⟨⟨own', _, es, ps', m1, m2, HF0.out.trans m3⟩, (m4 eb _ _ hE2 (by decide) (by decide)).trans hE2⟩
    clear hva hJ3 hH3 heb hE2 hX0 hX1
    go_wp2_with (at_builtin; refine wpList_append_lies _ rfl _ _ _ rfl (hb + 1) 89 iS (.agg #[.pointer none, .pointer none]) 2 16 Tryz.underlying70 hiS hiS0 hiS1 hiS2 rfl (by omega) (.slice va ps.length vc) ps.length (flat2 (prVals ps)) rfl (HOW.out _) ⟨w3.heap.size, 0, none⟩ 1 1 [.pointer (some ⟨sb, 0, none⟩), .pointer (some ⟨rb, 0, none⟩)] rfl rfl (cell_two_at w3 _ _ _ _ rfl) HNW.out (by omega) HMX.out (by omega) (by simp; omega) (w3.heap.size + 1) (by simp) ?_)
    intro g5 cap5 w5 hown5 hgr5 hlie5 hlt5
    obtain ⟨k5, f5⟩ := HK5.out _ _ hgr5
    go_upto_region 6 with fail
    obtain ⟨hW6, hE6⟩ := HMAD.out w5 g5 cap5 _ (by rw [HVA.out]; exact hgr5) hown5 (by rw [HVA.out]; exact hlie5)
    generalize w5.setCell ⟨hb, 0, none⟩ (.slice (some ⟨g5, 0, none⟩) (ps.length + 1) cap5) = W6 at *
    clear k5 f5 hown5 hgr5 hlie5 hlt5 c0 HOW HK5 HMAD hb1 hS1 hb2 hR2 hb12 hb13 hb3
    obtain ⟨y0, y1, _, _⟩ := twoE hE6
    have HE7 : Hid (∀ w7, Below W6.heap.size W6 w7 → w7.cell? ⟨eb, 0, none⟩ = some (.int .i64 0) ∧ w7.cell? ⟨eb, 1, none⟩ = some (.int .i64 (-1))) := fun w7 hb7 => ⟨by rw [hb7.cell (lt_of_cell y0)]; exact y0, by rw [hb7.cell (lt_of_cell y1)]; exact y1⟩
    have HFIN : Hid (∀ w7, Below W6.heap.size W6 w7 → WStep A B0 own w hb (t + 1) (ps.length + 1) w7) := fun w7 hb7 => by
      obtain ⟨own', hs', es', ps', m1, m2, m3⟩ := hW6
      exact ⟨_, _, _, _, m1.above 0 hb7, m2, m3.trans (Fr.above 0 hb7)⟩
    clear hW6 hE6
    go_region_held3 (fun w' => w'.cell? ⟨eb, 0, none⟩ = some (.int .i64 0) ∧ w'.cell? ⟨eb, 1, none⟩ = some (.int .i64 (-1))) (first | go_keep | exact hkeep) (first
      | (go_at_call 56; refine (told_nil _).mono ?_; rintro e w7 ⟨rfl, hb7⟩; (have hbX : Below W6.heap.size W6 w7 := by first | exact Below.undraw hb7 | exact hb7); have hkeep := HE7.out w7 hbX; obtain ⟨y0', y1'⟩ := hkeep))
    all_goals go_wp2_with fail
    all_goals go_ret
    all_goals exact ⟨rfl, HFIN.out _ hbX⟩
  | false =>
    go_wp2_with fail
    refine (newSender_no A B0 K N S hcb W0 hE).mono ?_
    rintro e w1 ⟨rfl, hb1⟩
    have hX1 := (hb1.block bx (lt_of_block hX0)).trans hX0
    have hE1 := hE.shrink _ hb1
    clear x0 x4 x5 x6
    obtain ⟨x0, x4, x5, x6⟩ := HCL.out hX1
    go_wp2_with fail
    refine (rnewSender_no K N S hcb w1).mono ?_
    rintro e w2 ⟨rfl, hb2⟩
    have hb12 : Below W0.heap.size W0 w2 := hb1.trans (hb2.mono hb1.size)
    have hE2 := heap_alloc_new w2 (.cells #[.int .i64 1, .int .i64 (-1)] 139)
    have hb3 : Below w2.heap.size w2 (w2.alloc (.cells #[.int .i64 1, .int .i64 (-1)] 139)) := (Below.refl _ _).alloc (Nat.le_refl _) _
    clear x0 x4 x5 x6
    go_upto_region 4 with fail
    generalize w2.alloc (.cells #[.int .i64 1, .int .i64 (-1)] 139) = W6 at *
    have hb16 : Below W0.heap.size W0 W6 := hb12.trans (hb3.mono hb12.size)
    have hEr6 := hE.shrink _ hb16
    obtain ⟨eb, heb⟩ : ∃ x, x = w2.heap.size := ⟨_, rfl⟩
    rw [← heb] at hE2 ⊢
    obtain ⟨y0, y1, _, _⟩ := twoE hE2
    have HE7 : Hid (∀ w7, Below W6.heap.size W6 w7 → w7.cell? ⟨eb, 0, none⟩ = some (.int .i64 1) ∧ w7.cell? ⟨eb, 1, none⟩ = some (.int .i64 (-1))) := fun w7 hb7 => ⟨by rw [hb7.cell (lt_of_cell y0)]; exact y0, by rw [hb7.cell (lt_of_cell y1)]; exact y1⟩
    have HFIN : Hid (∀ w7, Below W6.heap.size W6 w7 → WStep A B0 own w hb (t + 1) ps.length w7) := fun w7 hb7 => by
      have hb17 := hb16.trans (hb7.mono hb16.size)
      exact ⟨_, _, _, _, (HI0.out.above 0 hb17).more (by omega), rfl, HF0.out.trans (Fr.above 0 hb17)⟩
    have HTD : Hid (∀ W, Below W6.heap.size W6 W → Calls Tryz.prog 56 #[E A 1] W fun e w' => e = .returned (.agg #[.int .i64 1, .int .i64 (-1)]) ∧ Below W.heap.size W w') := fun W hW => told_err A B0 0 (by omega) W (hEr6.shrink _ hW)
    have hdr : Below W6.heap.size W6 W6.drew := (Below.refl _ _).drew
    clear heb hE2 hX0 hX1 hb1 hb2 hb12 hb3 hb16
    go_upto_region 6 with fail
    go_region_held3 (fun w' => w'.cell? ⟨eb, 0, none⟩ = some (.int .i64 1) ∧ w'.cell? ⟨eb, 1, none⟩ = some (.int .i64 (-1))) (first | go_keep | exact hkeep) (first
      | (go_at_call 56; refine (HTD.out _ hdr).mono ?_; rintro e w7 ⟨rfl, hb7⟩; (have hbX : Below W6.heap.size W6 w7 := by first | exact Below.undraw hb7 | exact hb7); have hkeep := HE7.out w7 hbX; obtain ⟨y0', y1'⟩ := hkeep))
    all_goals go_wp2_with fail
    all_goals go_ret
    all_goals exact ⟨rfl, HFIN.out _ hbX⟩

end Go.Proofs.YtjabhnhejbhgjaaGreatDoor

/- The law's World: next. -/
namespace Go.Proofs.YtjabhnhejbhgjaaGreatDoor
open Go.RowKit

theorem own_raw9 {w : World} {B n : Nat} {v : Value} {l : List Gf.F} (h : w.ownsRow B 5 1 v n (encL l)) (hl : l.length = n) : RawIn w ⟨v, l⟩ := by
  obtain ⟨a, c, hv⟩ := own_len h
  refine ⟨a, c, by rw [hl]; exact hv, fun h0 => ?_⟩
  obtain ⟨g, c', hv', _⟩ := h.form (by rw [← hl]; exact h0)
  rw [hv] at hv'
  simp only [Value.slice.injEq] at hv'
  refine ⟨g, 0, hv'.1, ?_⟩
  rw [hv, hv'.1] at h
  exact own_bs h hl

theorem NextIs.never {s s' : Snd} {l : List Gf.F} (h : NextIs s l s') (h1 : s.no = s.os.length) (h2 : ∀ i q, ¬ s.owes i q) : False := by
  rcases h with ⟨h, _, _⟩ | ⟨_, i, q, ho, _⟩
  · omega
  · exact h2 i q ho

/-- What keep does to the World. -/
theorem wkeep {A : Nat → Addr} {B0 : Nat} {own : Nat → Nat} {w : World} {hb t n Bv N : Nat} {hs : HS} {es : List Ent} {ps : List Pr} {v : Value} {xs : List Value} (hJ : WJ A B0 own w hb hs es ps) (hN : hs.n = (N : Int)) (hN2 : N ≤ t) (ht : t ≤ 20000000) (hes : es.length ≤ 4 * t) (hn : n ≤ 1000)
    (hv : w.ownsRow Bv 5 1 v n xs) (hBv : Bv ≤ w.heap.size) (hfar : ∀ e ∈ es, ∀ g, v.ownBlock = some g → e.v.ownBlock ≠ some g) (hv0 : ∀ b, v.ownBlock = some b → own b = 0) :
    Calls Tryz.prog 54 #[.pointer (some ⟨hb, 2, none⟩), v] w fun e w' =>
      e = .returned (.tuple #[]) ∧ ∃ es' vo vm, WJ A B0 (ownN own w.heap.size 0) w' hb { hs with n := (N : Int) + 1, out := vo, marks := vm } (es ++ es') ps ∧ es'.length = 4 ∧ Fr own w (ownN own w.heap.size 0) w' := by
  have hlt := hJ.hands.lt
  refine (keep_any hb (hb + 1) Bv N n hs es v xs w hN (by omega) hJ.hands hJ.outs (by omega) (by omega) (by omega) hv hBv hfar).mono ?_
  rintro e w' ⟨rfl, es', vo, vm, hK⟩
  exact ⟨rfl, es', vo, vm, hJ.stepK hK hv0 (fun b hb' q => own2_ne hv hJ.sown (by decide) b hb' q), hK.four, Fr.stepK hJ hK hv0⟩

set_option maxRecDepth 100000 in
set_option maxHeartbeats 2000000 in
theorem wnext_any {A : Nat → Addr} {B0 : Nat} {own : Nat → Nat} {w : World} {hb t i : Nat} {hs : HS} {es : List Ent} {ps : List Pr} (hI : WI A B0 own w hb t hs es ps) (hi : i < ps.length) (ht : t ≤ 20000000) :
    Calls Tryz.prog 28 #[.pointer (some ⟨hb, 0, none⟩), .agg #[.pointer (some ⟨(pat ps i).sb, 0, none⟩), .pointer (some ⟨(pat ps i).rb, 0, none⟩)]] w fun e w' => ∃ v, e = .returned (.tuple #[v, .bool true]) ∧ WStep A B0 own w hb (t + 1) ps.length w' := by
  have hbe : Below w.heap.size w (w.alloc (.cells #[.pointer (some ⟨(pat ps i).sb, 0, none⟩), .pointer (some ⟨(pat ps i).rb, 0, none⟩)] 89)) := (Below.refl _ _).alloc (Nat.le_refl _) _
  have hI0 := hI.above 1 hbe
  have hF0 : Fr own w (ownN own w.heap.size 1) _ := Fr.above 1 hbe
  have hX0 := heap_alloc_new w (.cells #[.pointer (some ⟨(pat ps i).sb, 0, none⟩), .pointer (some ⟨(pat ps i).rb, 0, none⟩)] 89)
  have hO0 : ownN own w.heap.size 1 w.heap.size = 1 := ownN_new (Nat.le_refl _)
  obtain ⟨N, hN, hN2⟩ := hI.n
  have hfE := hI.fewE
  have hlt := hI.hands.lt
  go_enter Tryz.func28, Tryz.ntmps28
  go_upto_region 1 with fail
  generalize w.alloc (.cells #[.pointer (some ⟨(pat ps i).sb, 0, none⟩), .pointer (some ⟨(pat ps i).rb, 0, none⟩)] 89) = W0 at *
  generalize ownN own w.heap.size 1 = own0 at *
  have HI : Hid (WI A B0 own w hb t hs es ps) := hI
  have HF0 : Hid (Fr own w own0 W0) := hF0
  clear hI hF0 hbe
  obtain ⟨x0, x1, _, _⟩ := twoE hX0
  have hS0 := (hI0.snd i hi).1
  have hok := (hI0.snd i hi).2
  have hsim := hI0.sim i hi
  have hsz0 := HF0.out.size
  obtain ⟨s, hs_⟩ : ∃ x, x = (pat ps i).s := ⟨_, rfl⟩
  have HNX : Hid (Calls Tryz.prog 19 #[.pointer (some ⟨(pat ps i).sb, 0, none⟩)] W0 (NextGives (pat ps i).s (hb + 1) (pat ps i).sb W0)) := next_any hS0 hok
  have hK0 := hX0
  go_wp2_with fail
  refine HNX.out.mono ?_
  intro e w1 hG
  clear HNX x0 x1
  rcases hG with ⟨g, cap, l, s', rfl, hown, hnx, hS1, hbu⟩ | ⟨rfl, hno, hnow, hbe1⟩
  · have hl0 : ∀ b, s'.foot (pat ps i).sb b → ownN own0 W0.heap.size 0 b = 2 * i + 2 := fun b q => by
      have q' := (hnx.foot _ b).1 q
      rw [ownN_old (hI0.ltS hi q')]; exact hI0.oS i b hi q'
    have hJ1 := hI0.toWJ.stepS hi hbu hS1 (hnx.ok hok) hl0
    have hF1 : Fr own0 W0 (ownN own0 W0.heap.size 0) w1 := Fr.but hbu (fun b _ q => by rw [hI0.oS i b hi q]; omega)
    have hX1 := ((hF1.keep w.heap.size (lt_of_block hX0) hO0).2).trans hX0
    obtain ⟨x0, x1, _, _⟩ := twoE hX1
    have hi1 : i < (ps.set i { pat ps i with s := s' }).length := by simpa using hi
    have hR1 : RAt w1 (hb + 1) (pat ps i).rb (pat ps i).r := by
      have := hJ1.rsn i hi1
      rw [pat_set hi, if_pos rfl] at this
      exact this
    have HRX : Hid (Calls Tryz.prog 53 #[.pointer (some ⟨(pat ps i).rb, 0, none⟩)] w1 (RNextGives (pat ps i).s (pat ps i).r t (hb + 1) (pat ps i).rb w1)) := rnext_any hR1 hok hsim (by omega)
    go_wp2_with fail
    refine HRX.out.mono ?_
    intro e w2 hG2
    clear HRX x0 x1
    rcases hG2 with ⟨g2, cap2, l2, s2, r', rfl, hown2, hnx2, hR2, hsim2, hbu2, hft2⟩ | ⟨rfl, hno, hnow, hbe2⟩
    · obtain ⟨rfl, rfl⟩ := hnx.det hnx2
      have hpr : pat (ps.set i { pat ps i with s := s' }) i = { pat ps i with s := s' } := by rw [pat_set hi, if_pos rfl]
      have hJ2 := hJ1.stepR (k := 0) hi1 (r' := r') (by rw [hpr]; exact hbu2) (by rw [hpr]; exact hR2) (fun b q => by
        rw [hpr] at q
        have q' := (hft2 b).1 q
        have q2 : (pat (ps.set i { pat ps i with s := s' }) i).r.foot (pat (ps.set i { pat ps i with s := s' }) i).rb b := by rw [hpr]; exact q'
        rw [ownN_old (hJ1.ltR hi1 q2)]; exact hJ1.oR i b hi1 q2)
      have hF2 : Fr (ownN own0 W0.heap.size 0) w1 (ownN (ownN own0 W0.heap.size 0) w1.heap.size 0) w2 := Fr.but hbu2 (fun b _ q => by
        have q2 : (pat (ps.set i { pat ps i with s := s' }) i).r.foot (pat (ps.set i { pat ps i with s := s' }) i).rb b := by rw [hpr]; exact q
        rw [hJ1.oR i b hi1 q2]; omega)
      have hg0 : W0.heap.size ≤ g := (hown.lt g rfl).1
      have hg1 : g < w1.heap.size := (hown.lt g rfl).2
      have hown' : w2.ownsRow W0.heap.size 5 1 (.slice (some ⟨g, 0, none⟩) (6 + (pat ps i).s.S) cap) (6 + (pat ps i).s.S) (encL l) := hbu2.own hown (fun k hk q => by
        have hk' : g = k := by simpa [Value.ownBlock] using hk
        subst hk'
        have q2 : (pat (ps.set i { pat ps i with s := s' }) i).r.foot (pat (ps.set i { pat ps i with s := s' }) i).rb g := by rw [hpr]; exact q
        have h5 := hJ1.oR i g hi1 q2
        rw [ownN_new hg0] at h5
        omega)
      have hs1 := hF1.size
      have hs2 := hF2.size
      have h8 := hok.cfg.s8
      have hll : l.length = 6 + (pat ps i).s.S := by have := hown.1; simpa [encL] using this
      have hq1 : (convert 33 9 (.slice (some ⟨g, 0, none⟩) (6 + (pat ps i).s.S) cap)).run Tryz.prog w2 = .ok (.string (str l)) w2 := (own_raw9 hown' hll).conv 0
      have hq2 : (convert 33 9 (.slice (some ⟨g2, 0, none⟩) (6 + (pat ps i).s.S) cap2)).run Tryz.prog w2 = .ok (.string (str l)) w2 := (own_raw9 hown2 hll).conv 0
      have HK : Hid (Calls Tryz.prog 54 #[.pointer (some ⟨hb, 2, none⟩), .slice (some ⟨g, 0, none⟩) (6 + (pat ps i).s.S) cap] w2 _) := wkeep hJ2 hN hN2 ht hfE (by omega) hown' (by omega) (fun e he k hk q => by
        have hk' : g = k := by simpa [Value.ownBlock] using hk
        subst hk'
        have := hI0.ltE he q
        omega) (fun b hb' => by
        have hk' : g = b := by simpa [Value.ownBlock] using hb'
        subst hk'
        rw [ownN_old hg1, ownN_new hg0])
      clear hX1 hX0 hK0
      go_wp2_with fail
      refine HK.out.mono ?_
      rintro e w3 ⟨rfl, es', vo, vm, hJ3, h4, hF3⟩
      go_wp2_with fail
      go_ret2
      exact ⟨_, rfl, _, _, _, _, HI.out.pair hi hJ3 hsim2 ⟨N + 1, by push_cast; rfl, by omega⟩ (by simp; omega) ⟨HI.out.nil.rv0, HI.out.nil.in0, HI.out.nil.rows0, HI.out.nil.ints0, HI.out.nil.want0, HI.out.nil.outer0, HI.out.nil.omarks0, HI.out.nil.lacks0, HI.out.nil.objs0⟩, by simp, ((HF0.out.trans hF1).trans hF2).trans hF3⟩
    · exact (hnx.never hno hnow).elim
  · have hW1 := hI0.above 0 hbe1
    have hF1 : Fr own0 W0 (ownN own0 W0.heap.size 0) w1 := Fr.above 0 hbe1
    have hX1 := ((hF1.keep w.heap.size (lt_of_block hX0) hO0).2).trans hX0
    obtain ⟨x0, x1, _, _⟩ := twoE hX1
    have HRX : Hid (Calls Tryz.prog 53 #[.pointer (some ⟨(pat ps i).rb, 0, none⟩)] w1 (RNextGives (pat ps i).s (pat ps i).r t (hb + 1) (pat ps i).rb w1)) := rnext_any (hW1.rsn i hi) hok hsim (by omega)
    go_wp2_with fail
    refine HRX.out.mono ?_
    intro e w2 hG2
    clear HRX x0 x1
    rcases hG2 with ⟨g2, cap2, l2, s2, r', rfl, hown2, hnx2, hR2, hsim2, hbu2, hft2⟩ | ⟨rfl, _, _, hbe2⟩
    · exact (hnx2.never hno hnow).elim
    · have hW2 := hW1.above 0 hbe2
      have hF2 : Fr (ownN own0 W0.heap.size 0) w1 (ownN (ownN own0 W0.heap.size 0) w1.heap.size 0) w2 := Fr.above 0 hbe2
      have hq1 : (convert 33 9 (.slice none 0 0)).run Tryz.prog w2 = .ok (.string (str [])) w2 := RawIn.conv (r := ⟨.slice none 0 0, []⟩) ⟨none, 0, rfl, fun h => absurd h (by simp)⟩ 0
      have HK : Hid (Calls Tryz.prog 54 #[.pointer (some ⟨hb, 2, none⟩), .slice none 0 0] w2 _) := wkeep (Bv := w2.heap.size) (xs := []) (n := 0) hW2.toWJ hN hN2 ht hfE (by omega) (World.ownsRow_nil ..) (Nat.le_refl _) (fun e he k hk => by simp [Value.ownBlock] at hk) (fun b hb' => by simp [Value.ownBlock] at hb')
      clear hX1 hX0 hK0
      go_wp2_with fail
      refine HK.out.mono ?_
      rintro e w3 ⟨rfl, es', vo, vm, hJ3, h4, hF3⟩
      go_wp2_with fail
      go_ret2
      exact ⟨_, rfl, _, _, _, _, ⟨hJ3, fun j hj => (hI0.sim j hj).more (by omega), ⟨N + 1, by push_cast; rfl, by omega⟩, by simp; omega, by have := HI.out.fewP; omega, ⟨HI.out.nil.rv0, HI.out.nil.in0, HI.out.nil.rows0, HI.out.nil.ints0, HI.out.nil.want0, HI.out.nil.outer0, HI.out.nil.omarks0, HI.out.nil.lacks0, HI.out.nil.objs0⟩⟩, rfl, ((HF0.out.trans hF1).trans hF2).trans hF3⟩

end Go.Proofs.YtjabhnhejbhgjaaGreatDoor
