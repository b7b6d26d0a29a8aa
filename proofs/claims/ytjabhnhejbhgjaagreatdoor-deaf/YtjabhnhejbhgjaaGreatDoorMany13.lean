import Derived.Test.YtjabhnhejbhgjaaGreatDoorMany12
import Derived.Test.YtjabhnhejbhgjaaGreatDoorMany7
/- A receiver of the program: Hear of a data packet, walked. -/
namespace Go.Proofs.YtjabhnhejbhgjaaGreatDoor
open Go.RowKit Go.Maps

set_option maxRecDepth 100000 in
set_option maxHeartbeats 4000000 in
theorem rcvHear_core {A : Nat → Addr} {B0 B rb ob ln bl n c : Nat} {a : Option Addr} {x : Gf.F} {d : List Gf.F} {r : Rcv} {w : World} (h : RcAt w B rb r) (ok : r.Ok) (hE : Errs A B0 w)
    (hs : r.shut = false) (hob : ob < 16) (hle : ln ≤ 255) (hblk : bl < partsN (symN r.S ln) r.K) (hd : d.length = r.S) (htk : r.tk.getD ob false = false) (hun : r.un.length < 16)
    (hP : Calls Tryz.prog 40 #[.agg #[.int .i64 (r.K : Int), .int .i64 (r.N : Int), .int .i64 (r.S : Int)], .slice a n c] w fun e w' => ∃ q : Row, e = .returned (.tuple #[.agg #[.int .i64 1, .int .i64 (ob : Int), .int .i64 (ln : Int), .int .i64 (bl : Int), .int .i64 (x.toNat : Int), .slice (some ⟨q.b, q.o, none⟩) q.l.length q.c, .slice none 0 0], .nilIface]) ∧
      Hid (q.l = d ∧ q.o = 0 ∧ w.heap.size ≤ q.b ∧ w'.ownsRow w.heap.size 5 1 q.val q.l.length (encL q.l)) ∧ Below w.heap.size w w') :
    Calls Tryz.prog 21 #[.pointer (some ⟨rb, 0, none⟩), .slice a n c] w (DataHeard A r ob ln bl x d B rb w) := by
  have HC := h.isClosed
  rw [hs] at HC
  obtain ⟨c0, c1, c2, _, _⟩ := h.head
  go_enter Tryz.func21, Tryz.ntmps21
  go_wp2_with fail
  refine HC.mono ?_
  rintro e w1 ⟨rfl, rfl⟩
  go_wp2_with fail
  refine hP.mono ?_
  rintro e w2 ⟨q, rfl, HQ, hb1⟩
  clear hP HC c0 c1 c2
  go_upto_region 6 with fail
  have hb2 := hb1.alloc hb1.size (.cells #[.int .i64 1, .int .i64 (ob : Int), .int .i64 (ln : Int), .int .i64 (bl : Int), .int .i64 (x.toNat : Int), .slice (some ⟨q.b, q.o, none⟩) q.l.length q.c, .slice none 0 0] 60)
  have hP2 := heap_alloc_new w2 (.cells #[.int .i64 1, .int .i64 (ob : Int), .int .i64 (ln : Int), .int .i64 (bl : Int), .int .i64 (x.toNat : Int), .slice (some ⟨q.b, q.o, none⟩) q.l.length q.c, .slice none 0 0] 60)
  have hbA := (Below.refl w2.heap.size w2).alloc (Nat.le_refl _) (.cells #[.int .i64 1, .int .i64 (ob : Int), .int .i64 (ln : Int), .int .i64 (bl : Int), .int .i64 (x.toNat : Int), .slice (some ⟨q.b, q.o, none⟩) q.l.length q.c, .slice none 0 0] 60)
  have hpl : w1.heap.size ≤ w2.heap.size := hb1.size
  generalize w2.alloc (.cells #[.int .i64 1, .int .i64 (ob : Int), .int .i64 (ln : Int), .int .i64 (bl : Int), .int .i64 (x.toNat : Int), .slice (some ⟨q.b, q.o, none⟩) q.l.length q.c, .slice none 0 0] 60) = W at *
  obtain ⟨pb, hpb⟩ : ∃ x, x = w2.heap.size := ⟨_, rfl⟩
  rw [← hpb] at hP2 hpl ⊢
  have HPB : Hid (w1.heap.size ≤ pb) := hpl
  clear hpb hpl
  obtain ⟨y0, y1, y2, y3, y4, y5, y6⟩ := pk7 hP2
  have h2 := h.above hb2
  have d5 := h2.taken (m := ob) (by rw [ok.tk]; exact hob)
  rw [htk] at d5
  go_quiet (fail)
  go_upto_region 8 with fail
  obtain ⟨W3, hW3⟩ : ∃ x, x = W.drewN nq := ⟨_, rfl⟩
  rw [← hW3]
  have hb3 := hb2.trans ((below_drew hW3).mono hb2.size)
  have h3 := h.above hb3
  have hP3 := ((below_drew hW3).block pb (lt_of_block hP2)).trans hP2
  have hE3 := hE.shrink W3 hb3
  have HQ3 : Hid (W3.ownsRow w1.heap.size 5 1 q.val q.l.length (encL q.l)) := own_of_block HQ.out.2.2.2 (fun g hg => ((below_drew hW3).block g (Nat.lt_of_lt_of_le (HQ.out.2.2.2.lt g hg).2 hbA.size)).trans (hbA.block g (HQ.out.2.2.2.lt g hg).2))
  clear y0 y1 y2 y3 y4 y5 y6 d5 h2 hW3
  obtain ⟨y0, y1, y2, y3, y4, y5, y6⟩ := pk7 hP3
  have HO := objectOf_any (kd := 1) (x3 := bl) (x4 := x.toNat) (v5 := .slice (some ⟨q.b, q.o, none⟩) q.l.length q.c) (v6 := .slice none 0 0) h3 ok hE3 hob hle
  rw [show ((1 : Nat) : Int) = 1 from rfl] at HO
  go_wp2_with fail
  refine HO.mono ?_
  intro e w4 hO
  have hb34 := hb3.size
  rcases hO.three h3 ok hob hle with ⟨kb, k, v, he, hne, rfl, ⟨pe, rfl, hpe, hbe⟩, hb4⟩ | ⟨he, hc4, rfl, hb4⟩ | ⟨kb, k, r1, rfl, hbg, h4, ok4, he4, hb4, hf4⟩
  · clear HO hO
    go_wp2_with fail
    go_ret
    exact .inl ⟨kb, k, _, he, hne, rfl, ⟨pe, rfl, Nat.le_trans hb34 hpe, hbe⟩, hb3.trans (hb4.mono hb34)⟩
  · clear HO hO
    have eE : E A 3 = .iface 269 (.pointer (some (A 2))) := rfl
    rw [eE]
    go_wp2_with fail
    go_ret
    exact .inr (.inl ⟨he, hc4, rfl, hb3.trans (hb4.mono hb34)⟩)
  · clear HO hO y0 y1 y2 y3 y4 y5 y6
    obtain ⟨e1, e2, e3, e4, e5, e6, e7⟩ := hbg.facts
    obtain ⟨o1, o2, o3, o4⟩ := ok4.known ob kb k hob he4
    obtain ⟨_, _, ⟨es, ck, hmb, _⟩, _⟩ := h3.map
    have nmb : ∀ {z cs t fr}, W3.heap[z]? = some (.cells cs t fr) → ¬ z = r.mb := fun e u => by rw [u, hmb] at e; cases e
    have hq4 : w4.ownsRow w1.heap.size 5 1 q.val q.l.length (encL q.l) := own_of_block HQ3.out (fun g hg => by
      obtain ⟨cs, hcs⟩ := own_block HQ3.out hg
      exact hb4.block g (HQ3.out.lt g hg).2 (nmb hcs))
    have hP4 := (hb4.block pb (lt_of_block hP3) (nmb hP3)).trans hP3
    have hqlt := (HQ3.out.lt q.b (q.own.2 trivial)).2
    have hplt := lt_of_block hP3
    have hlow : ∀ {z}, r1.foot rb z → z < w1.heap.size ∨ W3.heap.size ≤ z := fun u => (hf4 _ u).imp (fun v => (h.foot_lt v).2) id
    have hqn : ¬ r1.foot rb q.b := fun u => by have := hlow u; have := HQ.out.2.2.1; omega
    have hpn : ¬ r1.foot rb pb := fun u => by have := hlow u; have := HPB.out; omega
    have hi : bl < k.ts.length := by rw [o1.blocks]; unfold Kn.T; rw [e1, o2, o4, e2, e4]; exact hblk
    have HADD : Calls Tryz.prog 46 #[.pointer (some ⟨kb, 0, none⟩), .int .i64 (bl : Int), .int .i64 (x.toNat : Int), .slice (some ⟨q.b, q.o, none⟩) q.l.length q.c] w4 (AddGives k bl x q B kb w4) :=
      gadd_any (h4.known ob kb k hob he4) h4.lowB o1 hi ⟨Nat.le_trans h.lowB HQ.out.2.2.1, own_base2 hq4 h.lowB⟩ (fun j hj g hg u => hqn (by rw [u]; exact .inr (.inr (.inr (.inr (.inr ⟨ob, kb, k, hob, he4, .inr (.inr ⟨j, hj, .inl hg⟩)⟩))))))
    obtain ⟨y0, y1, y2, y3, y4, y5, y6⟩ := pk7 hP4
    go_wp2_with fail
    refine HADD.mono ?_
    intro e w5 hA
    obtain ⟨rfl, k', hkept, h5, ok5, hb5, hkf5⟩ := hA.kept h4 ok4 hob he4 hi ⟨HQ.out.1, HQ.out.2.1⟩ (by rw [hd, e4]) hqn
    clear HADD hA y0 y1 y2 y3 y4 y5 y6
    have he5 : (r1.know ob kb k').kf ob = some (kb, k') := updF_same _ _ _
    have HF5 : Hid (∀ b, (r1.know ob kb k').foot rb b → r.foot rb b ∨ w1.heap.size ≤ b) := fun b hx => by
      rcases know_foot (X := fun b => w1.heap.size ≤ b) hob he4 (fun z hz => by
        rcases hkf5 z hz with u | u | u
        · exact .inl u
        · exact .inr (Nat.le_trans (Nat.le_trans hb34 hb4.size) u)
        · exact .inr (by rw [u]; exact HQ.out.2.2.1)) hx with u | u
      · exact (hf4 b u).imp id (fun z => Nat.le_trans hb34 z)
      · exact .inr u
    have hP5 := (hb5.block pb (lt_of_block hP4) (fun u => hpn (.inr (.inr (.inr (.inr (.inr ⟨ob, kb, k, hob, he4, u⟩))))))).trans hP4
    have okk := (ok5.known ob kb k' hob he5).1
    have HWH := gwhole_any (h5.known ob kb k' hob he5) okk
    have hS : w1.heap.size ≤ w5.heap.size := Nat.le_trans hb34 (Nat.le_trans hb4.size hb5.size)
    have HBT : Hid (But (r.foot rb) w1 w5) := ⟨(hb5.os.trans hb4.os).trans hb3.os, (hb5.tape.trans hb4.tape).trans hb3.tape, (hb5.output.trans hb4.output).trans hb3.output, hS, fun z hz hn => by
      have hz3 : z < W3.heap.size := Nat.lt_of_lt_of_le hz hb34
      refine ((hb5.block z (Nat.lt_of_lt_of_le hz3 hb4.size) (fun u => ?_)).trans (hb4.block z hz3 (fun u => hn (.inr (.inr (.inl u)))))).trans (hb3.block z hz)
      rcases hf4 z (.inr (.inr (.inr (.inr (.inr ⟨ob, kb, k, hob, he4, u⟩))))) with v | v
      · exact hn v
      · omega⟩
    obtain ⟨y0, y1, y2, y3, y4, y5, y6⟩ := pk7 hP5
    by_cases hwh : k'.whole
    · have hd0 : decide ((k'.lks k'.ts.length).length = 0) = true := decide_eq_true ((Kn.whole_iff okk).2 hwh)
      rw [hd0] at HWH
      go_wp2_with fail
      refine HWH.mono ?_
      rintro e w6 ⟨rfl, hb6⟩
      clear HWH y0 y1 y2 y3 y4 y5 y6
      have h6 := h5.above hb6
      have hP6 := (hb6.block pb (lt_of_block hP5)).trans hP5
      have HBT6 : Hid (But (r.foot rb) w1 w6) := HBT.out.trans (Below.but hb6 _ (fun i h1 h2 => absurd h1 h2))
      have hln := cat_take okk hwh
      obtain ⟨L, hL⟩ : ∃ z, z = (k'.cat k'.ts.length).take k'.len := ⟨_, rfl⟩
      rw [← hL] at hln
      have HBY : Hid (∀ X, Below w6.heap.size w6 X → Calls Tryz.prog 49 #[.pointer (some ⟨kb, 0, none⟩)] X fun e w' => ∃ g cs, e = .returned (.slice (some ⟨g, 0, none⟩) L.length L.length) ∧ X.heap.size ≤ g ∧ w'.heap[g]? = some (.cells cs 5 (0, 0)) ∧ Bs w' g 0 L ∧ Below X.heap.size X w') := fun X hX => by
        have := gbytes_any ((h6.above hX).known ob kb k' hob he5) okk hwh
        rw [← hL, ← hln] at this
        exact this
      have HFIN : Hid (∀ g v w', RcAt w' B rb ((r1.know ob kb k').done ⟨ob, g, L⟩ v) → w1.heap.size ≤ g → (∀ b, v.ownBlock = some b → r.uv.ownBlock = some b ∨ w1.heap.size ≤ b) → But (r.foot rb) w1 w' → DataHeard A r ob ln bl x d B rb w1 (.returned .nilIface) w') := fun g v w' u1 u3 u4 u2 => .inr (.inr ⟨rfl, u2, kb, k, r1, k', hbg, hkept, .inr ⟨hwh, g, v, by rw [← hL]; exact u1, fun b hx => by
        rcases done_foot hx with z | z | z
        · exact HF5.out b z
        · exact (u4 b z).imp (fun y => .inr (.inr (.inr (.inl y)))) id
        · exact .inr (by rw [z]; exact u3)⟩⟩)
      have HTK : Hid (∀ X g cs, Below w6.heap.size w6 X → w6.heap.size ≤ g → X.heap[g]? = some (.cells cs 5 (0, 0)) → Bs X g 0 L → Calls Tryz.prog 48 #[.pointer (some ⟨rb, 0, none⟩), .int .i64 (ob : Int), .slice (some ⟨g, 0, none⟩) L.length L.length] X fun e w' => e = .returned (.tuple #[]) ∧ Hid (DataHeard A r ob ln bl x d B rb w1 (.returned .nilIface) w')) := fun X g cs hX hg hc hBs => by
        refine (take_any (u := ⟨ob, g, L⟩) (h6.above hX) ok5 hob (by show r1.un.length < 16; rw [e5]; exact hun) ⟨Nat.le_trans h6.lowB hg, ⟨cs, hc⟩, hBs⟩ (fun m kb' k2 hm he hf => ?_)).mono ?_
        · have := ((h6.known m kb' k2 hm he).foot_lt hf).2
          show False
          have : g < w6.heap.size := this
          omega
        · rintro e w' ⟨u1, ⟨v, u2, u4⟩, u3⟩
          refine ⟨u1, HFIN.out g v w' u2 (Nat.le_trans HBT6.out.size hg) (fun b hx => (u4 b hx).imp (fun y => by rw [← e7]; exact y) (fun y => Nat.le_trans (Nat.le_trans HBT6.out.size hX.size) y)) (HBT6.out.trans ((Below.but hX _ (fun i h1 h2 => absurd h1 h2)).trans ⟨u3.os, u3.tape, u3.output, u3.size, fun z hz hn => u3.block z hz (fun v => hn ?_)⟩))⟩
          rcases v with v | v | v
          · exact .inl v
          · exact .inr (.inr (.inl (by rw [v]; exact e6)))
          · exact .inr (.inr (.inr (.inl (by rw [← e7]; exact v))))
      have HP6 : Hid (w6.heap[pb]? = _) := hP6
      obtain ⟨y0, y1, y2, y3, y4, y5, y6⟩ := pk7 hP6
      clear h h3 h4 h5 h6 hb1 hb2 hb3 hb4 hb5 hb6 hP2 hP3 hP4 hP5 hP6 hL hln hbg hkept hlow hq4 hE hE3 nmb hmb hf4 hbA
      go_upto_region 13 with fail
      go_region_with (first
        | (go_at_call 49; refine (HBY.out _ (by first | exact Below.refl _ _ | exact (Below.refl _ _).drew)).mono ?_; rintro e w7 ⟨g, cs, rfl, hg, hcs, hBs, hb7⟩; have z1 := (pk7 ((hb7.block pb (lt_of_block HP6.out)).trans HP6.out)).2.1)
        | (go_at_call 48; refine (HTK.out _ g cs (by first | exact hb7 | exact Below.undraw hb7 | exact hb7.drew | exact (Below.undraw hb7).drew) hg hcs hBs).mono ?_; rintro e w8 ⟨rfl, HF8⟩))
      all_goals go_wp2_with fail
      all_goals go_ret
      all_goals exact HF8.out
    · have hd0 : decide ((k'.lks k'.ts.length).length = 0) = false := decide_eq_false (fun u => hwh ((Kn.whole_iff okk).1 u))
      rw [hd0] at HWH
      go_wp2_with fail
      refine HWH.mono ?_
      rintro e w6 ⟨rfl, hb6⟩
      clear HWH y0 y1 y2 y3 y4 y5 y6
      go_wp2_with fail
      go_ret
      exact .inr (.inr ⟨rfl, HBT.out.trans (Below.but hb6 _ (fun i h1 h2 => absurd h1 h2)), kb, k, r1, k', hbg, hkept, .inl ⟨hwh, h5.above hb6, HF5.out⟩⟩)

end Go.Proofs.YtjabhnhejbhgjaaGreatDoor

/- A receiver of the program: Hear, whole. -/
namespace Go.Proofs.YtjabhnhejbhgjaaGreatDoor
open Go.RowKit Go.Maps

/-- What Hear gives. -/
def RcvHears (A : Nat → Addr) (r : Rcv) (l : List Gf.F) (B rb : Nat) (w : World) (e : Ending) (w' : World) : Prop :=
  if r.shut = true then e = .returned (E A 8) ∧ w' = w else
  match parseE r.K r.N r.S l with
  | some (c, k) => ∃ v, e = .returned v ∧ Wr w w' v (k : Int) (E A c) ∧ Below w.heap.size w w'
  | none => if ¬ bt l 0 = 1 ∨ r.tk.getD (bt l 1) false = true then e = .returned .nilIface ∧ Below w.heap.size w w'
    else DataHeard A r (bt l 1) (lenOf l) (bt (l.drop 4) 0) (at_ (l.drop 4) 1) ((l.drop 4).drop 2) B rb w e w'

theorem rcvHear_any {A : Nat → Addr} {B0 B rb b o n c : Nat} {a : Option Addr} {l : List Gf.F} {r : Rcv} {w : World} (h : RcAt w B rb r) (ok : r.Ok) (hE : Errs A B0 w) (hET : ErrType w) (hB9 : 8 < w.heap.size) (hl : l.length = n) (hn : n ≤ c) (hc : c ≤ 9223372036854775807) (hn2 : n ≤ 140737488355328) (ha : 0 < n → a = some ⟨b, o, none⟩) (hB : Bs w b o l) (hb : 0 < n → b < w.heap.size)
    (hun : r.un.length < 16) :
    Calls Tryz.prog 21 #[.pointer (some ⟨rb, 0, none⟩), .slice a n c] w (RcvHears A r l B rb w) := by
  by_cases hs : r.shut = true
  · refine (rcvHear_shut h hE hs).mono ?_
    intro e w' q
    unfold RcvHears
    rw [if_pos hs]
    exact q
  · have hs' : r.shut = false := by simpa using hs
    cases hpe : parseE r.K r.N r.S l with
    | some p =>
      obtain ⟨ec, ek⟩ := p
      refine (rcvHear_bad h ok hE hET hB9 hl hn hc hn2 ha hB hb hs' hpe).mono ?_
      intro e w' q
      unfold RcvHears
      rw [if_neg hs, hpe]
      exact q
    | none =>
      by_cases hk : ¬ bt l 0 = 1 ∨ r.tk.getD (bt l 1) false = true
      · refine (rcvHear_skip h ok hE hET hB9 hl hn hc hn2 ha hB hb hs' hpe hk).mono ?_
        intro e w' q
        unfold RcvHears
        rw [if_neg hs, hpe]
        show if _ then _ else _
        rw [if_pos hk]
        exact q
      · have hk1 : bt l 0 = 1 := Classical.byContradiction fun q => hk (.inl q)
        have htk : r.tk.getD (bt l 1) false = false := by
          cases ht : r.tk.getD (bt l 1) false with
          | false => rfl
          | true => exact absurd (.inr ht) hk
        obtain ⟨_, hle, hob⟩ := parse_head hpe
        obtain ⟨hblk, hdl⟩ := parse_dataE hpe hk1
        obtain ⟨k1, k8, kn, n16, s1, s8⟩ := ok.cfg
        have hP := parse_any A B0 a b o n c r.K r.N r.S l w hE hET hB9 ok.cfg hl hn hc hn2 ha hB hb
        refine (rcvHear_core (x := at_ (l.drop 4) 1) h ok hE hs' hob hle hblk hdl htk hun (hP.mono ?_)).mono ?_
        · intro e w' hG
          obtain ⟨q, he, q1, q2, q3, q4, q5⟩ := hG.data hpe hk1 s1
          exact ⟨q, he, ⟨q1, q2, q3, q4⟩, q5⟩
        · intro e w' q
          unfold RcvHears
          rw [if_neg hs, hpe]
          show if _ then _ else _
          rw [if_neg hk]
          exact q

end Go.Proofs.YtjabhnhejbhgjaaGreatDoor

/- The program: an ask as bytes. -/
namespace Go.Proofs.YtjabhnhejbhgjaaGreatDoor
open Go.RowKit Go.Maps

theorem one_kept {W w1 : World} {X : World} {u : Value} {t : TypeId} (hb : Below X.heap.size X w1) (hX : X.heap[W.heap.size]? = some (.cells #[u] t (0, 0))) : ∀ j x, [u][j]? = some x → w1.cell? ((⟨W.heap.size, 0, none⟩ : Addr).add j) = some x := by
  intro j x hj
  have e : (⟨W.heap.size, 0, none⟩ : Addr).add j = ⟨W.heap.size, j, none⟩ := by unfold Addr.add; split <;> simp_all
  rw [e, cell_of_row w1 _ j _ _ _ ((hb.block _ (lt_of_block hX)).trans hX)]
  simpa using hj

set_option maxRecDepth 100000 in
set_option maxHeartbeats 2000000 in
theorem askBytes_any (obj len M c6 : Nat) (a6 : Option Addr) (ds : List (Nat × Nat)) (w : World) (ho : obj < 256) (hl : len < 65536) (hM : ds.length = M) (hM2 : M ≤ 300) (hown : w.ownsRow 0 122 2 (.slice a6 M c6) M (flat2 (debtVals ds))) :
    Calls Tryz.prog 37 #[.agg #[.int .i64 0, .int .i64 (obj : Int), .int .i64 (len : Int), .int .i64 0, .int .i64 0, .slice none 0 0, .slice a6 M c6]] w fun e w' =>
      ∃ g cap, e = .returned (.slice (some ⟨g, 0, none⟩) (5 + 2 * M) cap) ∧ w'.ownsRow w.heap.size 5 1 (.slice (some ⟨g, 0, none⟩) (5 + 2 * M) cap) (5 + 2 * M) (encL ([by8 2, by8 obj, by8 (len / 256), by8 len] ++ [by8 M] ++ ds.flatMap (fun d => [by8 d.1, by8 d.2]))) ∧ Below w.heap.size w w' := by
  obtain ⟨iU, hiU, hiU0, hiU1, hiU2⟩ := Tryz.u8_parts
  have hX := heap_alloc_new w (.cells #[.int .i64 0, .int .i64 (obj : Int), .int .i64 (len : Int), .int .i64 0, .int .i64 0, .slice none 0 0, .slice a6 M c6] 60)
  have hbW := (Below.refl w.heap.size w).alloc (Nat.le_refl _) (.cells #[.int .i64 0, .int .i64 (obj : Int), .int .i64 (len : Int), .int .i64 0, .int .i64 0, .slice none 0 0, .slice a6 M c6] 60)
  go_enter Tryz.func37, Tryz.ntmps37
  go_upto_region 1 with fail
  generalize w.alloc (.cells #[.int .i64 0, .int .i64 (obj : Int), .int .i64 (len : Int), .int .i64 0, .int .i64 0, .slice none 0 0, .slice a6 M c6] 60) = W at *
  have hXl := lt_of_block hX
  go_cut [3] (fun t wx => ∃ g cap, t = .slice (some ⟨g, 0, none⟩) 5 cap ∧ wx.ownsRow w.heap.size 5 1 (.slice (some ⟨g, 0, none⟩) 5 cap) 5 (encL ([by8 2, by8 obj, by8 (len / 256), by8 len] ++ [by8 M])) ∧ Below W.heap.size W wx)
  case first =>
    obtain ⟨k0, k1, k2, k3, k4, k5, k6⟩ := pk7 hX
    have hXn : ¬ w.heap.size = W.heap.size := Nat.ne_of_lt hXl
    have hX2 : (W.alloc (.cells #[.int .u8 (IntKind.u8.wrap (M : Int))] 5)).drew.heap[w.heap.size]? = some (.cells #[.int .i64 0, .int .i64 (obj : Int), .int .i64 (len : Int), .int .i64 0, .int .i64 0, .slice none 0 0, .slice a6 M c6] 60 (0, 0)) := (Below.heap_alloc W _ _ hXl).trans hX
    have hXl2 := lt_of_block hX2
    go_region_held3 (fun w' => w'.cell? ⟨w.heap.size, 0, none⟩ = some (.int .i64 0) ∧ w'.cell? ⟨w.heap.size, 1, none⟩ = some (.int .i64 (obj : Int)) ∧ w'.cell? ⟨w.heap.size, 2, none⟩ = some (.int .i64 (len : Int)) ∧ w'.cell? ⟨w.heap.size, 3, none⟩ = some (.int .i64 0) ∧ w'.cell? ⟨w.heap.size, 4, none⟩ = some (.int .i64 0) ∧ w'.cell? ⟨w.heap.size, 5, none⟩ = some (.slice none 0 0) ∧ w'.cell? ⟨w.heap.size, 6, none⟩ = some (.slice a6 M c6)) (first | go_keep) (first
      | (go_at_call 63; refine (headBytes_own 2 obj len 0 0 0 _ _ _ (by omega) ho hl).mono ?_; rintro e w1 ⟨g1, rfl, hown1, hb1⟩; (have hX1 : w1.heap[w.heap.size]? = some (.cells #[.int .i64 0, .int .i64 (obj : Int), .int .i64 (len : Int), .int .i64 0, .int .i64 0, .slice none 0 0, .slice a6 M c6] 60 (0, 0)) := by first | exact (hb1.block _ hXl).trans hX | exact (hb1.block _ hXl2).trans hX2); obtain ⟨m0, m1, m2, m3, m4, m5, m6⟩ := pk7 hX1; have hl1 := lt_of_block hX1; have hl2 : ¬ w.heap.size = w1.heap.size := Nat.ne_of_lt hl1; have hgn : ¬ (Value.slice (some ⟨g1, 0, none⟩) 4 4).ownBlock = some w.heap.size := (fun hqq => by have := (hown1.lt _ hqq).1; first | omega | (simp at this; omega)); (first | (have hnews := one_kept hb1 (heap_alloc_new W (.cells #[.int .u8 (IntKind.u8.wrap (M : Int))] 5)); have hwA : w.heap.size ≤ (W.alloc (.cells #[.int .u8 (IntKind.u8.wrap (M : Int))] 5)).drew.heap.size := Nat.le_of_lt hXl2) | skip))
      | (refine step_append_lies _ (by rfl) _ _ _ (by rfl) w.heap.size 5 iU (.int .u8 0) 1 1 Tryz.underlying33 hiU hiU0 hiU1 hiU2 rfl (by omega) (.slice (some ⟨g1, 0, none⟩) 4 4) 4 (encL [by8 2, by8 obj, by8 (len / 256), by8 len]) (by rfl) ((own_base2 hown1 (Nat.le_of_lt hXl)).alloc _) ⟨w1.heap.size, 0, none⟩ 1 1 [.int .u8 (IntKind.u8.wrap (M : Int))] (by rfl) rfl (cell_one_at w1 _ _ _ rfl) (by intro u hu; simp at hu; subst hu; rfl) (by omega) (by unfold maxLen; omega) (by omega) (by simp; omega) _ rfl ?_; intro g2 cap2 w3 hown3 hgr3 hlie3 hlt3; have hX3 : w3.heap[w.heap.size]? = some (.cells #[.int .i64 0, .int .i64 (obj : Int), .int .i64 (len : Int), .int .i64 0, .int .i64 0, .slice none 0 0, .slice a6 M c6] 60 (0, 0)) := (grown_block hgr3 (by simp; omega) hgn).trans ((Below.heap_alloc w1 _ _ hl1).trans hX1); obtain ⟨n0, n1, n2, n3, n4, n5, n6⟩ := pk7 hX3)
      | (refine step_append_lies _ (by rfl) _ _ _ (by rfl) w.heap.size 5 iU (.int .u8 0) 1 1 Tryz.underlying33 hiU hiU0 hiU1 hiU2 rfl (by omega) (.slice (some ⟨g1, 0, none⟩) 4 4) 4 (encL [by8 2, by8 obj, by8 (len / 256), by8 len]) (by rfl) (own_base2 hown1 hwA) ⟨W.heap.size, 0, none⟩ 1 1 [.int .u8 (IntKind.u8.wrap (M : Int))] (by rfl) rfl (hnews) (by intro u hu; simp at hu; subst hu; rfl) (by omega) (by unfold maxLen; omega) (by omega) (by omega) _ rfl ?_; intro g2 cap2 w3 hown3 hgr3 hlie3 hlt3; have hX3 : w3.heap[w.heap.size]? = some (.cells #[.int .i64 0, .int .i64 (obj : Int), .int .i64 (len : Int), .int .i64 0, .int .i64 0, .slice none 0 0, .slice a6 M c6] 60 (0, 0)) := (grown_block hgr3 (hl1) hgn).trans (hX1); obtain ⟨n0, n1, n2, n3, n4, n5, n6⟩ := pk7 hX3))
    all_goals go_wp2_with fail
    all_goals go_meet
    all_goals (have eL : encL [by8 2, by8 obj, by8 (len / 256), by8 len] ++ [Value.int .u8 (IntKind.u8.wrap (M : Int))] = encL ([by8 2, by8 obj, by8 (len / 256), by8 len] ++ [by8 M]) := by simp [encL, wrap_by8])
    all_goals rw [eL] at hown3
    all_goals first
      | exact ⟨g2, cap2, rfl, hown3, ((Below.undraw hb1).alloc (by have := hb1.size; exact this) _).grown hgr3 (by have := hb1.size; simp; exact Nat.le_succ_of_le this) (fun t ht => (hown1.lt t ht).1)⟩
      | exact ⟨g2, cap2, rfl, hown3, ((((Below.refl _ W).alloc (Nat.le_refl _) _).drew).trans (hb1.mono (by simp))).grown hgr3 (by have := hb1.size; simp at this; omega) (fun t ht => by have := (hown1.lt t ht).1; simp at this; omega)⟩
  case rest =>
    obtain ⟨g, cap, rfl, hown5, hbx⟩ := hcut
    have hXc := (hbx.block _ hXl).trans hX
    obtain ⟨k0, k1, k2, k3, k4, k5, k6⟩ := pk7 hXc
    have hBx := hbW.trans (hbx.mono hbW.size)
    have HWX : Hid (Below w.heap.size w wc) := hBx
    have HL : Hid (∀ X, Below w.heap.size w X → X.ownsRow 0 122 2 (.slice a6 M c6) M (flat2 (debtVals ds))) := fun X hx => own_of_block hown (fun z hz => hx.block z (hown.lt z hz).2)
    clear hX hbW hbx hXc hXl hown
    go_upto_region 3 with fail
    go_loopw [3, 5, 17] (fun v _ t wr => ∃ (i : Nat) (g : Nat) (cap : Nat), i ≤ M ∧ t = .int .i64 (i : Int) ∧ v = .slice (some ⟨g, 0, none⟩) (5 + 2 * i) cap ∧ wr.ownsRow w.heap.size 5 1 (.slice (some ⟨g, 0, none⟩) (5 + 2 * i) cap) (5 + 2 * i) (encL ([by8 2, by8 obj, by8 (len / 256), by8 len] ++ [by8 M] ++ (ds.take i).flatMap (fun d => [by8 d.1, by8 d.2]))) ∧ Hid (Below w.heap.size w wr)) (fun _ _ t _ => M - (intOf t).toNat)
    case atStart => exact ⟨0, g, cap, by omega, rfl, rfl, by simpa using hown5, HWX⟩
    case round =>
      obtain ⟨i, g, cap, hi, rfl, rfl, hown, hbr⟩ := hrel
      by_cases hlt : i < M
      · have hlt1 : (i : Int) < (M : Int) := by omega
        obtain ⟨p, hp⟩ : ∃ p, ds[i]? = some p := ⟨_, List.getElem?_eq_getElem (by omega)⟩
        obtain ⟨d1, d2⟩ := p
        have hR := HL.out wr hbr.out
        obtain ⟨ga, ca, hv6, _, _⟩ := hR.form (by omega)
        simp only [Value.slice.injEq] at hv6
        obtain ⟨rfl, -, -⟩ := hv6
        have eadd : ∀ j, (⟨ga, 0, none⟩ : Addr).add j = ⟨ga, j, none⟩ := fun j => by unfold Addr.add; split <;> simp_all
        have x0 := hR.cells (g := ga) rfl (i * 2) (.int .i64 (d1 : Int)) (by rw [Nat.mul_comm, flat2_get0]; simp [debtVals, hp])
        have x1 := hR.cells (g := ga) rfl (i * 2 + 1) (.int .i64 (d2 : Int)) (by rw [Nat.mul_comm, flat2_get1]; simp [debtVals, hp])
        rw [eadd] at x0 x1
        clear hR k0 k1 k2 k3 k4 k5 k6
        have hA := heap_alloc_new wr (.cells #[.int .i64 (d1 : Int), .int .i64 (d2 : Int)] 122)
        have HBA : Hid (Below w.heap.size w (wr.alloc (.cells #[.int .i64 (d1 : Int), .int .i64 (d2 : Int)] 122))) := hbr.out.alloc hbr.out.size _
        have hownA := hown.alloc (.cells #[.int .i64 (d1 : Int), .int .i64 (d2 : Int)] 122)
        have HEN : Hid (encL ([by8 2, by8 obj, by8 (len / 256), by8 len] ++ [by8 M] ++ (ds.take i).flatMap (fun d => [by8 d.1, by8 d.2])) ++ [Value.int .u8 (IntKind.u8.wrap (d1 : Int)), Value.int .u8 (IntKind.u8.wrap (d2 : Int))] = encL ([by8 2, by8 obj, by8 (len / 256), by8 len] ++ [by8 M] ++ (ds.take (i + 1)).flatMap (fun d => [by8 d.1, by8 d.2]))) := by
          show _ = _
          rw [List.take_add_one, hp]
          simp [encL, wrap_by8]
        generalize hE0 : encL ([by8 2, by8 obj, by8 (len / 256), by8 len] ++ [by8 M] ++ (ds.take i).flatMap (fun d => [by8 d.1, by8 d.2])) = E0 at hown hownA HEN
        go_upto_region 5 with fail
        generalize wr.alloc (.cells #[.int .i64 (d1 : Int), .int .i64 (d2 : Int)] 122) = wA at *
        have z0 : wA.cell? ⟨wr.heap.size, 0, none⟩ = some (.int .i64 (d1 : Int)) := cell_of_row wA _ 0 _ _ _ hA
        have z1 : wA.cell? ⟨wr.heap.size, 1, none⟩ = some (.int .i64 (d2 : Int)) := cell_of_row wA _ 1 _ _ _ hA
        have HMX : Hid (5 + 2 * i + 2 ≤ maxLen) := by show _ ≤ _; unfold maxLen; omega
        have hs0 := HBA.out.size
        generalize wr.heap.size = hz at *
        go_wp2_with (at_builtin; refine wpList_append_lies _ rfl _ _ _ rfl w.heap.size 5 iU (.int .u8 0) 1 1 Tryz.underlying33 hiU hiU0 hiU1 hiU2 rfl (by omega) (.slice (some ⟨g, 0, none⟩) (5 + 2 * i) cap) (5 + 2 * i) E0 rfl (hownA.alloc _) ⟨wA.heap.size, 0, none⟩ 2 2 [.int .u8 (IntKind.u8.wrap (d1 : Int)), .int .u8 (IntKind.u8.wrap (d2 : Int))] rfl rfl (cell_two_at wA _ _ _ _ rfl) (by intro u hu; simp at hu; rcases hu with rfl | rfl <;> rfl) (by omega) HMX.out (by omega) (by simp; omega) _ rfl ?_)
        intro g6 cap6 w6 hown6 hgr6 hlie6 hlt6
        go_wp2_with fail
        go_roundw
        case rel =>
          refine ⟨i + 1, g6, cap6, by omega, by go_num, by simp; omega, ?_, ((HBA.out.alloc hs0 _).grown hgr6 (by simp; omega) (fun t ht => (hownA.lt t ht).1))⟩
          rw [HEN.out] at hown6
          exact hown6
        case measure => simp [intOf]; omega
      · obtain rfl : i = M := by omega
        have hlt1 : ¬ (i : Int) < (i : Int) := by omega
        go_wp2_with fail
        go_ret
        refine ⟨g, cap, rfl, ?_, hbr.out⟩
        rw [List.take_of_length_le (by omega)] at hown
        exact hown

end Go.Proofs.YtjabhnhejbhgjaaGreatDoor

/- A receiver of the program: Ask. -/
namespace Go.Proofs.YtjabhnhejbhgjaaGreatDoor
open Go.RowKit Go.Maps

/-- An ask as bytes. -/
def askOf (obj len : Nat) (ds : List (Nat × Nat)) : List Gf.F := [by8 2, by8 obj, by8 (len / 256), by8 len] ++ [by8 ds.length] ++ ds.flatMap (fun d => [by8 d.1, by8 d.2])

/-- What Ask gives. -/
def AskTells (A : Nat → Addr) (r : Rcv) (w : World) (e : Ending) (w' : World) : Prop :=
  Below w.heap.size w w' ∧
  ((r.shut = true ∧ e = .returned (.tuple #[.slice none 0 0, E A 8])) ∨
   (r.shut = false ∧ (∀ j, j < 16 → r.kf j = none) ∧ e = .returned (.tuple #[.slice none 0 0, .nilIface])) ∨
   (r.shut = false ∧ ∃ m kb k, m < 16 ∧ (∀ j, j < m → r.kf j = none) ∧ r.kf m = some (kb, k) ∧ ∃ g cap, e = .returned (.tuple #[.slice (some ⟨g, 0, none⟩) (5 + 2 * (k.lks k.ts.length).length) cap, .nilIface]) ∧
     w'.ownsRow w.heap.size 5 1 (.slice (some ⟨g, 0, none⟩) (5 + 2 * (k.lks k.ts.length).length) cap) (5 + 2 * (k.lks k.ts.length).length) (encL (askOf m k.len (k.lks k.ts.length)))))

set_option maxRecDepth 100000 in
set_option maxHeartbeats 2000000 in
theorem ask_any {A : Nat → Addr} {B0 B rb : Nat} {r : Rcv} {w : World} (h : RcAt w B rb r) (ok : r.Ok) (hE : Errs A B0 w) :
    Calls Tryz.prog 15 #[.pointer (some ⟨rb, 0, none⟩)] w (AskTells A r w) := by
  have HC := h.isClosed
  have g7 : w.cell? ⟨0, 0, none⟩ = some (.iface 269 (.pointer (some (A 7)))) := hE.cell 7 (by omega)
  obtain ⟨_, _, _, _, c4⟩ := h.head
  have HH : Hid (RcAt w B rb r) := h
  clear h hE
  cases hs : r.shut with
  | true =>
    rw [hs] at HC
    go_enter Tryz.func15, Tryz.ntmps15
    go_wp2_with fail
    refine HC.mono ?_
    rintro e w1 ⟨rfl, rfl⟩
    go_wp2_with fail
    go_quiet (fail)
    go_wp2_with fail
    go_ret2
    exact ⟨below_drew rfl, .inl ⟨hs, rfl⟩⟩
  | false =>
    rw [hs] at HC
    go_enter Tryz.func15, Tryz.ntmps15
    go_wp2_with fail
    refine HC.mono ?_
    rintro e w1 ⟨rfl, rfl⟩
    clear HC
    go_upto_region 4 with fail
    go_loopw [4, 5, 6, 10] (fun _ _ _ t wr => ∃ i : Nat, i ≤ 16 ∧ t = .int .i64 (i : Int) ∧ Hid (∀ j, j < i → r.kf j = none) ∧ wr = w1) (fun _ _ _ t _ => 16 - (intOf t).toNat)
    case atStart => exact ⟨0, by omega, rfl, fun j hj => by omega, rfl⟩
    case round =>
      obtain ⟨i, hi, rfl, hno, rfl⟩ := hrel
      by_cases hlt : i < 16
      · have hlt1 : (i : Int) < 16 := by omega
        have HL := HH.out.look hlt
        cases hk : r.kf i with
        | none =>
          rw [hk] at HL
          have HL' : (Instr.lookup 105 (.map (some r.mb)) (.int .i64 (i : Int)) true).run Tryz.prog wr = .ok (.tuple #[.pointer none, .bool false]) wr := HL
          clear HL
          go_wp2_with fail
          go_roundw
          case rel =>
            have HNO : Hid (∀ j, j < i + 1 → r.kf j = none) := fun j hj => by
              by_cases e : j = i
              · rw [e]; exact hk
              · exact hno.out j (by omega)
            exact ⟨i + 1, by omega, by go_num, HNO, by first | trivial | rfl⟩
          case measure => simp [intOf]; omega
        | some x =>
          obtain ⟨kb, k⟩ := x
          rw [hk] at HL
          have HL' : (Instr.lookup 105 (.map (some r.mb)) (.int .i64 (i : Int)) true).run Tryz.prog wr = .ok (.tuple #[.pointer (some ⟨kb, 0, none⟩), .bool true]) wr := HL
          clear HL
          have hK := HH.out.known i kb k hlt hk
          have hko := (ok.known i kb k hlt hk).1
          have HLEN := glength_any hK
          have HLAC := glacks_any hK hko
          have hl255 := hko.len
          have HM : Hid ((k.lks k.ts.length).length ≤ 300) := by
            show _ ≤ _
            have h1 := k.lks_le k.ts.length
            have h2 := hko.blocks
            obtain ⟨k1, k8, kn, n16, s1, s8⟩ := hko.cfg
            have h3 := symN_range (S := k.S) (len := k.len) s1
            have h4 := partsN_le (a := k.T) k1
            have h5 : k.T = symN k.S k.len := rfl
            omega
          go_wp2_with fail
          refine HLEN.mono ?_
          rintro e w2 ⟨rfl, rfl⟩
          go_wp2_with fail
          refine HLAC.mono ?_
          rintro e w3 ⟨v, rfl, hown3, hb3⟩
          obtain ⟨xa, xc, rfl, _⟩ := own_form2 hown3
          have HAB := askBytes_any i k.len _ xc xa (k.lks k.ts.length) w3 (by omega) (by omega) rfl HM.out (own_base2 hown3 (Nat.zero_le _))
          clear HLEN HLAC
          go_wp2_with fail
          refine HAB.mono ?_
          rintro e w4 ⟨g, cap, rfl, hown4, hb4⟩
          clear HAB
          go_wp2_with fail
          go_ret2
          exact ⟨hb3.trans (hb4.mono hb3.size), .inr (.inr ⟨hs, i, kb, k, hlt, hno.out, hk, g, cap, rfl, own_base2 hown4 hb3.size⟩)⟩
      · obtain rfl : i = 16 := by omega
        go_wp2_with fail
        go_ret2
        exact ⟨Below.refl _ _, .inr (.inl ⟨hs, hno.out, rfl⟩)⟩

end Go.Proofs.YtjabhnhejbhgjaaGreatDoor
