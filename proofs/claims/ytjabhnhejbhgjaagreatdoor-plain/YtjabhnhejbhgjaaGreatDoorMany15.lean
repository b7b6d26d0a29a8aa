import Derived.Test.YtjabhnhejbhgjaaGreatDoorMany14
import Derived.Test.YtjabhnhejbhgjaaGreatDoorMany2
import Derived.Laws.IdiomStrings
/- The statements' own functions: config, object. -/
namespace Go.Proofs.YtjabhnhejbhgjaaGreatDoor
open Go.RowKit

/-- A number as it comes in. -/
def In64 (z : Int) : Prop := -9223372036854775808 ≤ z ∧ z ≤ 9223372036854775807

set_option maxRecDepth 100000 in
set_option maxHeartbeats 1000000 in
theorem config_any {k n s : Int} (hk : In64 k) (hn : In64 n) (hs : In64 s) (w : World) :
    Calls Tryz.prog 12 #[.int .i64 k, .int .i64 n, .int .i64 s] w fun e w' => ∃ K N S : Nat, e = .returned (.agg #[.int .i64 (K : Int), .int .i64 (N : Int), .int .i64 (S : Int)]) ∧ Cfg K N S ∧ Below w.heap.size w w' := by
  have hp1 := pickI_range k 8 (by omega)
  have hp2 := pickI_range s 8 (by omega)
  have HPK : Hid (∀ W, Calls Tryz.prog 33 #[.int .i64 k, .int .i64 8] W fun e w' => e = .returned (.int .i64 (pickI k 8)) ∧ w' = W) := fun W => keepPick_any k 8 W (by omega) hk.1 hk.2
  have HPS : Hid (∀ W, Calls Tryz.prog 33 #[.int .i64 s, .int .i64 8] W fun e w' => e = .returned (.int .i64 (pickI s 8)) ∧ w' = W) := fun W => keepPick_any s 8 W (by omega) hs.1 hs.2
  obtain ⟨a, ha⟩ : ∃ a : Int, pickI k 8 = a := ⟨_, rfl⟩
  obtain ⟨c, hc⟩ : ∃ a : Int, pickI s 8 = a := ⟨_, rfl⟩
  rw [ha] at hp1 HPK
  rw [hc] at hp2 HPS
  have hp3 := pickI_range n (16 - (1 + a) + 1) (by omega)
  have HPN : Hid (∀ W, Calls Tryz.prog 33 #[.int .i64 n, .int .i64 (16 - (1 + a) + 1)] W fun e w' => e = .returned (.int .i64 (pickI n (16 - (1 + a) + 1))) ∧ w' = W) := fun W => keepPick_any n (16 - (1 + a) + 1) W (by omega) hn.1 hn.2
  obtain ⟨b, hb⟩ : ∃ b : Int, pickI n (16 - (1 + a) + 1) = b := ⟨_, rfl⟩
  rw [hb] at hp3 HPN
  clear ha hb hc hk hn hs
  have hw1 : IntKind.i64.wrap (16 - (1 + a)) = 16 - (1 + a) := by rw [IntKind.wrap_i64]; omega
  have hw2 : IntKind.i64.wrap (16 - (1 + a) + 1) = 16 - (1 + a) + 1 := by rw [IntKind.wrap_i64]; omega
  have hw3 : IntKind.i64.wrap (1 + a + b) = 1 + a + b := by rw [IntKind.wrap_i64]; omega
  go_enter Tryz.func12, Tryz.ntmps12
  go_upto_region 2 with (first | (go_at_call 33; with_reducible refine (HPK.out _).mono ?_; rintro e w' ⟨rfl, rfl⟩) | (go_at_call 33; with_reducible refine (HPS.out _).mono ?_; rintro e w' ⟨rfl, rfl⟩))
  go_region_with (go_at_call 33; with_reducible refine (HPN.out _).mono ?_; rintro e w' ⟨rfl, rfl⟩)
  all_goals go_wp2_with fail
  all_goals exact bodyPost_ret (v := .agg #[.int .i64 (1 + a), .int .i64 (1 + a + b), .int .i64 (1 + c)]) (by simp [results, Tryz.results12, go_sem]) rfl ⟨(1 + a).toNat, (1 + a + b).toNat, (1 + c).toNat, by rw [Int.toNat_of_nonneg (by omega), Int.toNat_of_nonneg (by omega), Int.toNat_of_nonneg (by omega)], ⟨by omega, by omega, by omega, by omega, by omega, by omega⟩, (((Below.refl _ _).alloc (Nat.le_refl _) _).alloc (by simp) _).drew⟩

/-- The bytes of a string, made anew. -/
theorem conv_new (w : World) (s : ByteArray) (hs : s.size ≤ 140737488355328) : ∃ (x : Sl) (w' : World), (convert 9 33 (.string s)).run Tryz.prog w = .ok x.val w' ∧ x.l = bytesIn s ∧ Below w.heap.size w w' ∧ x.a = some ⟨w.heap.size, 0, none⟩ ∧ (∃ cs fr, w'.heap[w.heap.size]? = some (.cells cs 5 (fr, fr + 1)) ∧ cs.size = fr ∧ s.size ≤ fr) ∧ ∀ own : Nat → Nat, (∀ b, w.heap.size ≤ b → own b = 1) → x.At own w' := by
  have hr := run_bytes_of_string (P := Tryz.prog) w 9 33 5 s Tryz.underlying9 Tryz.underlying33 Tryz.underlying5
  have hl : (bytesIn s).length = s.size := by unfold bytesIn; rw [List.length_map, size_data]
  have h1 := grownCap_ge w s.size 0 5
  have h2 := grownCap_le_maxLen w s.size 0 5 (by unfold maxLen; omega)
  generalize grownCap w s.size 0 5 = cap at *
  have hnew : (w.drew.alloc (.cells (bytesRow s cap) 5 ((bytesRow s cap).size, (bytesRow s cap).size + 1))).heap[w.heap.size]? = some (.cells (bytesRow s cap) 5 ((bytesRow s cap).size, (bytesRow s cap).size + 1)) := heap_alloc_new w.drew _
  have hb : Below w.heap.size w (w.drew.alloc (.cells (bytesRow s cap) 5 ((bytesRow s cap).size, (bytesRow s cap).size + 1))) := ((Below.refl _ w).drew).alloc (Nat.le_refl _) _
  refine ⟨⟨some ⟨w.heap.size, 0, none⟩, w.heap.size, 0, cap, bytesIn s⟩, _, by unfold Sl.val; rw [hl]; exact hr, rfl, hb, rfl, ⟨_, _, hnew, rfl, ?_⟩, fun own ho => ⟨by show (bytesIn s).length ≤ cap; omega, by show cap ≤ _; unfold maxLen at h2; omega, by show (bytesIn s).length ≤ _; omega, .inl rfl, fun i hi => ?_, fun _ => ⟨lt_of_block hnew, ho _ (Nat.le_refl _)⟩⟩⟩
  · simp [bytesRow]
  · change i < (bytesIn s).length at hi
    have hi' : i < s.data.size := by rw [hl] at hi; exact hi
    show (World.alloc _ _).cell? ⟨w.heap.size, 0 + i, none⟩ = some (.int .u8 ((at_ (bytesIn s) i).toNat : Int))
    rw [cell_of_row _ _ _ _ _ _ hnew, Nat.zero_add, bytesRow_at s cap i hi']
    have e : at_ (bytesIn s) i = BitVec.ofNat 8 s.data[i].toNat := by
      have h3 : (bytesIn s)[i]? = some (BitVec.ofNat 8 s.data[i].toNat) := by
        unfold bytesIn
        rw [List.getElem?_map, Array.getElem?_toList, Array.getElem?_eq_getElem hi']
        rfl
      unfold at_
      rw [List.getD_eq_getElem?_getD, h3]
      rfl
    rw [e, BitVec.toNat_ofNat, Nat.mod_eq_of_lt (by have := s.data[i].toNat_lt; omega)]

/-- Bytes as a string. -/
theorem Sl.At.conv {x : Sl} {own : Nat → Nat} {w : World} (h : x.At own w) {l : List Gf.F} (hl : x.l = l) (nq : Nat) : (convert 33 9 x.val).run Tryz.prog (w.drewN nq) = .ok (.string (str l)) (w.drewN nq) := by
  subst hl
  unfold Sl.val
  rcases h.ptr with q | ⟨q1, q2, q3⟩
  · rw [q]
    exact h.bs.convN _ _ rfl nq
  · rw [q1, q2, List.length_eq_zero_iff.1 q2]
    exact run_convert_bytes_nil (P := Tryz.prog) (w := w.drewN nq) 33 5 Tryz.underlying33 Tryz.underlying5 0 x.c 9 Tryz.underlying9

/-- What object gives. -/
def ObjNew (w : World) (e : Ending) (w' : World) : Prop := ∃ x : Sl, e = .returned x.val ∧ x.l.length ≤ 255 ∧ Below w.heap.size w w' ∧ ∀ own : Nat → Nat, (∀ b, w.heap.size ≤ b → own b = 1) → x.At own w'

set_option maxRecDepth 100000 in
set_option maxHeartbeats 1000000 in
theorem object_any (s : ByteArray) (w : World) :
    Calls Tryz.prog 18 #[.string s] w (ObjNew w) := by
  by_cases h : 255 < s.size
  · have h1 : (255 : Int) < (s.size : Int) := by omega
    have h2 : (255 : Int) ≤ (s.size : Int) := by omega
    obtain ⟨t, ht⟩ : ∃ t, t = s.extract 0 255 := ⟨_, rfl⟩
    have hts : t.size = 255 := by rw [ht, ByteArray.size_extract]; omega
    obtain ⟨⟨xa, xb, xo, xc, xl⟩, w', hr, hl, hb, ha, _, ho⟩ := conv_new w t (by omega)
    change xa = some _ at ha
    subst ha
    have HX : Hid (ObjNew w (.returned (.slice (some ⟨w.heap.size, 0, none⟩) xl.length xc)) w') := ⟨⟨_, xb, xo, xc, xl⟩, rfl, by rw [hl]; unfold bytesIn; rw [List.length_map, size_data]; omega, hb, ho⟩
    rw [ht] at hr
    clear hl hb ho hts ht
    change (convert 9 33 (.string _)).run Tryz.prog w = .ok (.slice (some ⟨w.heap.size, 0, none⟩) xl.length xc) w' at hr
    go_enter Tryz.func18, Tryz.ntmps18
    go_wp2_with fail
    go_ret
    exact HX.out
  · have h1 : ¬ (255 : Int) < (s.size : Int) := by omega
    obtain ⟨⟨xa, xb, xo, xc, xl⟩, w', hr, hl, hb, ha, _, ho⟩ := conv_new w s (by omega)
    change xa = some _ at ha
    subst ha
    have HX : Hid (ObjNew w (.returned (.slice (some ⟨w.heap.size, 0, none⟩) xl.length xc)) w') := ⟨⟨_, xb, xo, xc, xl⟩, rfl, by rw [hl]; unfold bytesIn; rw [List.length_map, size_data]; omega, hb, ho⟩
    clear hl hb ho
    change (convert 9 33 (.string _)).run Tryz.prog w = .ok (.slice (some ⟨w.heap.size, 0, none⟩) xl.length xc) w' at hr
    go_enter Tryz.func18, Tryz.ntmps18
    go_wp2_with fail
    go_ret
    exact HX.out

end Go.Proofs.YtjabhnhejbhgjaaGreatDoor

/- The sender: what Next sends, by its numbers; how much there is to send. -/
namespace Go.Proofs.YtjabhnhejbhgjaaGreatDoor
open Go.RowKit

/-- The packet that Next sends: of which object, which block, which place. -/
def NextAt (s : Snd) (i q p : Nat) (s' : Snd) : Prop :=
  (s.no < s.os.length ∧ i = s.no ∧ q = s.ns / s.K ∧ p = s.ns % s.K ∧ s' = s.step) ∨
  (s.no = s.os.length ∧ s.owes i q ∧ (∀ j r, (j < i ∨ j = i ∧ r < q) → ¬ s.owes j r) ∧ p = plcAt s.K s.N (dat (oat s.os i).ds q).2 ∧ s' = s.pay i q)
theorem NextAt.source {s : Snd} (h : s.no < s.os.length) : NextAt s s.no (s.ns / s.K) (s.ns % s.K) s.step := Or.inl ⟨h, rfl, rfl, rfl, rfl⟩
theorem NextAt.owed {s : Snd} (h : s.no = s.os.length) (i q : Nat) (ho : s.owes i q) (hf : ∀ j r, (j < i ∨ j = i ∧ r < q) → ¬ s.owes j r) : NextAt s i q (plcAt s.K s.N (dat (oat s.os i).ds q).2) (s.pay i q) := Or.inr ⟨h, ho, hf, rfl, rfl⟩
theorem NextAt.ways {s : Snd} {motive : (i q p : Nat) → (s' : Snd) → NextAt s i q p s' → Prop} (source : ∀ h : s.no < s.os.length, motive s.no (s.ns / s.K) (s.ns % s.K) s.step (NextAt.source h))
    (owed : ∀ (h : s.no = s.os.length) (i q : Nat) (ho : s.owes i q) (hf : ∀ j r, (j < i ∨ j = i ∧ r < q) → ¬ s.owes j r), motive i q (plcAt s.K s.N (dat (oat s.os i).ds q).2) (s.pay i q) (NextAt.owed h i q ho hf)) {i q p : Nat} {s' : Snd} (h : NextAt s i q p s') : motive i q p s' h := by
  rcases h with ⟨h, rfl, rfl, rfl, rfl⟩ | ⟨h, ho, hf, rfl, rfl⟩
  · exact source h
  · exact owed h i q ho hf
theorem NextIs.triple {s s' : Snd} {l : List Gf.F} (h : NextIs s l s') : ∃ i q p, NextAt s i q p s' ∧ l = s.pkt i q p := by
  rcases h with ⟨h, rfl, rfl⟩ | ⟨h, i, q, ho, hf, rfl, rfl⟩
  · exact ⟨_, _, _, .source h, rfl⟩
  · exact ⟨_, _, _, .owed h i q ho hf, rfl⟩

theorem src_block {K T n : Nat} (hK : 1 ≤ K) (hn : n < T) : n / K < partsN T K ∧ n % K < srcN K T (n / K) := by
  have h1 := Nat.div_add_mod n K
  have h2 := Nat.mod_lt n (show 0 < K by omega)
  rw [Nat.mul_comm] at h1
  refine ⟨?_, by unfold srcN; omega⟩
  unfold partsN
  rw [Nat.lt_div_iff_mul_lt (by omega)]
  omega
theorem plc_src {K N T q p : Nat} (h : p < srcN K T q) : plcN K N T q p = true := decide_eq_true (.inl h)
theorem plc_turn {K N T q t : Nat} (ht : t < (N - K) + srcN K T q) : plcN K N T q (plcAt K N t) = true := by
  unfold plcAt
  split
  · exact decide_eq_true (.inr ⟨by omega, by omega⟩)
  · exact decide_eq_true (.inl (by omega))

theorem NextAt.gen {s s' : Snd} {i q p : Nat} (h : NextAt s i q p s') (ok : s.Ok) : i < s.os.length ∧ q < s.Q i ∧ plcN s.K s.N (s.T i) q p = true := by
  cases h using NextAt.ways with
  | source h =>
    obtain ⟨h1, h2⟩ := src_block ok.cfg.k1 (ok.sym h)
    exact ⟨h, h1, plc_src h2⟩
  | owed h i q ho hf => exact ⟨ho.1, ho.2.1, plc_turn (ok.debt i q ho.1 ho.2.1).2⟩

/-- The same objects, the same configuration. -/
structure SameOs (s s' : Snd) : Prop where
  K : s'.K = s.K
  N : s'.N = s.N
  S : s'.S = s.S
  len : s'.os.length = s.os.length
  l : ∀ j, (oat s'.os j).l = (oat s.os j).l
theorem SameOs.refl (s : Snd) : SameOs s s := ⟨rfl, rfl, rfl, rfl, fun _ => rfl⟩
theorem SameOs.trans {a b c : Snd} (h : SameOs a b) (k : SameOs b c) : SameOs a c := ⟨k.K.trans h.K, k.N.trans h.N, k.S.trans h.S, k.len.trans h.len, fun j => (k.l j).trans (h.l j)⟩
theorem SameOs.T {s s' : Snd} (h : SameOs s s') (i : Nat) : s'.T i = s.T i := by unfold Snd.T; rw [h.S, h.l]
theorem SameOs.Q {s s' : Snd} (h : SameOs s s') (i : Nat) : s'.Q i = s.Q i := by unfold Snd.Q; rw [h.T, h.K]
theorem SameOs.R {s s' : Snd} (h : SameOs s s') (i q : Nat) : s'.R i q = s.R i q := by unfold Snd.R; rw [h.T, h.K, h.N]
theorem SameOs.pkt {s s' : Snd} (h : SameOs s s') (i q p : Nat) : s'.pkt i q p = s.pkt i q p := by unfold Snd.pkt; rw [h.l, h.K, h.S]
theorem SameOs.setD {s : Snd} {i : Nat} (hi : i < s.os.length) (q : Nat) (d : Nat × Nat) : SameOs s (s.setD i q d) := ⟨rfl, rfl, rfl, s.setD_len i q d, fun j => Snd.setD_l hi q d j⟩
theorem SameOs.step (s : Snd) : SameOs s s.step := by
  unfold Snd.step
  split <;> exact ⟨rfl, rfl, rfl, rfl, fun _ => rfl⟩
theorem NextAt.same {s s' : Snd} {i q p : Nat} (h : NextAt s i q p s') : SameOs s s' := by
  cases h using NextAt.ways with
  | source h => exact .step s
  | owed h i q ho hf => exact .setD ho.1 _ _
theorem SameOs.askN {s : Snd} {i : Nat} (hi : i < s.os.length) (m : List Gf.F) : ∀ k, SameOs s (s.askN i m k)
  | 0 => .refl s
  | k + 1 => (SameOs.askN hi m k).trans (.setD (by rw [askN_len]; exact hi) _ _)
theorem SameOs.hearS (s : Snd) (l : List Gf.F) : SameOs s (hearS s l) := by
  unfold Go.Proofs.YtjabhnhejbhgjaaGreatDoor.hearS
  split
  · exact .refl s
  · split
    · exact .refl s
    · split
      · exact .refl s
      · split
        · exact .refl s
        · exact .askN (by omega) _ _

/-- Debts, by numbers. -/
theorem debt_setD {s : Snd} (ok : s.Ok) {i q : Nat} (hi : i < s.os.length) (hq : q < s.Q i) (d : Nat × Nat) (j r : Nat) (_hj : j < s.os.length) (_hr : r < s.Q j) : dat (oat (s.setD i q d).os j).ds r = if j = i ∧ r = q then d else dat (oat s.os j).ds r := by
  rw [Snd.setD_at hi]
  by_cases e : i = j
  · subst e
    rw [if_pos rfl]
    by_cases e2 : r = q
    · subst e2
      rw [if_pos ⟨rfl, rfl⟩]
      have hl := ok.blocks i hi
      simp [dat, Ob.setD, List.getD, hl, hq]
    · rw [if_neg (by omega)]
      simp [dat, Ob.setD, List.getD, Ne.symm e2]
  · rw [if_neg e, if_neg (by omega)]

theorem step_ds (s : Snd) (j : Nat) : (oat s.step.os j).ds = (oat s.os j).ds := by
  unfold Snd.step
  split <;> rfl

/-- No block is owed more than it has source symbols. -/
def Snd.Owe (s : Snd) : Prop := ∀ i q, i < s.os.length → q < s.Q i → (dat (oat s.os i).ds q).1 ≤ srcN s.K (s.T i) q
theorem Snd.Owe.setD {s : Snd} (h : s.Owe) (ok : s.Ok) {i q : Nat} (hi : i < s.os.length) (hq : q < s.Q i) {d : Nat × Nat} (hd : d.1 ≤ srcN s.K (s.T i) q) : (s.setD i q d).Owe := by
  have hsm := SameOs.setD hi q d
  intro j r hj hr
  rw [hsm.len] at hj
  rw [hsm.Q] at hr
  rw [debt_setD ok hi hq d j r hj hr, hsm.K, hsm.T]
  split
  · rename_i e
    obtain ⟨rfl, rfl⟩ := e
    exact hd
  · exact h j r hj hr
theorem Snd.Owe.next {s s' : Snd} {i q p : Nat} (h : s.Owe) (ok : s.Ok) (hn : NextAt s i q p s') : s'.Owe := by
  cases hn using NextAt.ways with
  | source h1 =>
    have hsm := SameOs.step s
    intro j r hj hr
    rw [hsm.len] at hj
    rw [hsm.Q] at hr
    rw [step_ds, hsm.K, hsm.T]
    exact h j r hj hr
  | owed h1 i q ho hf => exact h.setD ok ho.1 ho.2.1 (by have := h i q ho.1 ho.2.1; show _ - 1 ≤ _; omega)

theorem askN_owe {s : Snd} (ok : s.Ok) (h : s.Owe) {i : Nat} (hi : i < s.os.length) {m : List Gf.F} {M : Nat} (hv : ∀ k, k < M → bt m (1 + 2 * k) < s.Q i ∧ bt m (1 + 2 * k + 1) ≤ srcN s.K (s.T i) (bt m (1 + 2 * k))) : ∀ k, k ≤ M → (s.askN i m k).Owe
  | 0, _ => h
  | k + 1, hk => by
    have h8 : ∀ k, k < M → bt m (1 + 2 * k) < s.Q i ∧ bt m (1 + 2 * k + 1) ≤ 8 := fun k hk => by
      have := hv k hk
      have h8 := ok.cfg.k8
      refine ⟨this.1, ?_⟩
      have : srcN s.K (s.T i) (bt m (1 + 2 * k)) ≤ 8 := by unfold srcN; omega
      omega
    obtain ⟨ok', hQ⟩ := Snd.askN_ok ok hi h8 k (by omega)
    have ih := askN_owe ok h hi hv k (by omega)
    have hsm := SameOs.askN hi m k
    obtain ⟨v1, v2⟩ := hv k (by omega)
    refine Snd.Owe.setD ih ok' (by rw [hsm.len]; exact hi) (by rw [hQ]; exact v1) ?_
    have := ih i (bt m (1 + 2 * k)) (by rw [hsm.len]; exact hi) (by rw [hQ]; exact v1)
    show max _ _ ≤ _
    rw [hsm.K, hsm.T] at this ⊢
    omega
theorem Snd.Owe.hear {s : Snd} (ok : s.Ok) (h : s.Owe) (l : List Gf.F) : (hearS s l).Owe := by
  unfold hearS
  split
  · exact h
  · rename_i hp
    split
    · exact h
    · rename_i h1
      split
      · exact h
      · rename_i h2
        split
        · exact h
        · rename_i h3
          have hi : bt l 1 < s.os.length := by omega
          have h2 : lenOf l = (oat s.os (bt l 1)).l.length := by simpa using h2
          refine askN_owe ok h hi (fun k hk => ?_) _ (Nat.le_refl _)
          obtain ⟨_, _, _, h9⟩ := parse_asks hp h3
          have h9 := h9 k hk
          have hT9 : symN s.S (lenOf l) = s.T (bt l 1) := by unfold Snd.T; rw [h2]
          rw [hT9] at h9
          exact ⟨h9.1, h9.2.2⟩

/-- Sums. -/
def sumF (f : Nat → Nat) : Nat → Nat
  | 0 => 0
  | n + 1 => sumF f n + f n
theorem sumF_congr {f g : Nat → Nat} : ∀ n, (∀ i, i < n → f i = g i) → sumF f n = sumF g n
  | 0, _ => rfl
  | n + 1, h => by rw [sumF, sumF, sumF_congr n (fun i hi => h i (by omega)), h n (by omega)]
theorem sumF_le {f : Nat → Nat} {c : Nat} : ∀ n, (∀ i, i < n → f i ≤ c) → sumF f n ≤ n * c
  | 0, _ => by simp [sumF]
  | n + 1, h => by rw [sumF, Nat.succ_mul]; have := sumF_le n (fun i hi => h i (by omega)); have := h n (by omega); omega
theorem sumF_one {f g : Nat → Nat} {m : Nat} : ∀ n, m < n → (∀ i, i < n → i ≠ m → g i = f i) → sumF g n + f m = sumF f n + g m
  | 0, h, _ => by omega
  | n + 1, h, he => by
    rw [sumF, sumF]
    by_cases e : m = n
    · subst e
      rw [sumF_congr m (fun i hi => he i (by omega) (by omega))]
      omega
    · have := sumF_one n (by omega) (fun i hi hne => he i (by omega) hne)
      have := he n (by omega) (Ne.symm e)
      omega
theorem sumF_ge {f : Nat → Nat} {m : Nat} : ∀ n, m < n → f m ≤ sumF f n
  | 0, h => by omega
  | n + 1, h => by
    rw [sumF]
    by_cases e : m = n
    · subst e; omega
    · have := sumF_ge (f := f) n (show m < n by omega); omega

/-- How much there is to send. -/
def Snd.src (s : Snd) : Nat := sumF (fun i => if i < s.no then 0 else s.T i) s.os.length
def Snd.owedIn (s : Snd) (i : Nat) : Nat := sumF (fun q => (dat (oat s.os i).ds q).1) (s.Q i)
def Snd.owedAll (s : Snd) : Nat := sumF s.owedIn s.os.length
def Snd.left (s : Snd) : Nat := s.src - s.ns + s.owedAll

theorem NextAt.left {s s' : Snd} {i q p : Nat} (h : NextAt s i q p s') (ok : s.Ok) : s'.left + 1 = s.left := by
  cases h using NextAt.ways with
  | source h =>
    have hT := ok.sym h
    have hge : s.T s.no ≤ s.src := by
      have := sumF_ge (f := fun i => if i < s.no then 0 else s.T i) s.os.length h
      simp only [Nat.lt_irrefl, if_false] at this
      exact this
    have hsm := SameOs.step s
    have ho : s.step.owedAll = s.owedAll := by
      unfold Snd.owedAll
      rw [hsm.len]
      refine sumF_congr _ (fun i _ => ?_)
      unfold Snd.owedIn
      rw [hsm.Q, step_ds]
    unfold Snd.left
    rw [ho]
    unfold Snd.step
    split
    · rename_i he
      have h1 : (s.at (s.no + 1) 0).src + s.T s.no = s.src := by
        have := sumF_one (f := fun i => if i < s.no then 0 else s.T i) (g := fun i => if i < s.no + 1 then 0 else s.T i) s.os.length h (fun i _ hne => by
          by_cases e : i < s.no
          · rw [if_pos (by omega), if_pos e]
          · rw [if_neg (by omega), if_neg e])
        simp only [Nat.lt_irrefl, if_false, Nat.lt_succ_self, if_true, Nat.add_zero] at this
        exact this
      have h2 : (s.at (s.no + 1) 0).ns = 0 := rfl
      rw [h2]
      omega
    · rename_i he
      have h1 : (s.at s.no (s.ns + 1)).src = s.src := rfl
      have h2 : (s.at s.no (s.ns + 1)).ns = s.ns + 1 := rfl
      rw [h1, h2]
      omega
  | owed h i q ho hf =>
    have hsm := SameOs.setD ho.1 q ((dat (oat s.os i).ds q).1 - 1, ((dat (oat s.os i).ds q).2 + 1) % s.R i q)
    have hd := debt_setD ok ho.1 ho.2.1 ((dat (oat s.os i).ds q).1 - 1, ((dat (oat s.os i).ds q).2 + 1) % s.R i q)
    have hpay : s.pay i q = s.setD i q ((dat (oat s.os i).ds q).1 - 1, ((dat (oat s.os i).ds q).2 + 1) % s.R i q) := rfl
    rw [← hpay] at hsm hd
    have hsrc : (s.pay i q).src = s.src := by
      unfold Snd.src
      rw [hsm.len]
      refine sumF_congr _ (fun j _ => ?_)
      rw [hsm.T]
      rfl
    have hns : (s.pay i q).ns = s.ns := rfl
    have hin : (s.pay i q).owedIn i + 1 = s.owedIn i := by
      unfold Snd.owedIn
      rw [hsm.Q]
      have := sumF_one (f := fun r => (dat (oat s.os i).ds r).1) (g := fun r => (dat (oat (s.pay i q).os i).ds r).1) (s.Q i) ho.2.1 (fun r hr hne => by rw [hd i r ho.1 hr, if_neg (by omega)])
      have hq := hd i q ho.1 ho.2.1
      rw [if_pos ⟨rfl, rfl⟩] at hq
      simp only [hq] at this
      have := ho.2.2
      omega
    have hall : (s.pay i q).owedAll + 1 = s.owedAll := by
      unfold Snd.owedAll
      rw [hsm.len]
      have := sumF_one (f := s.owedIn) (g := (s.pay i q).owedIn) s.os.length ho.1 (fun j hj hne => by
        unfold Snd.owedIn
        rw [hsm.Q]
        exact sumF_congr _ (fun r hr => by rw [hd j r hj hr, if_neg (by omega)]))
      omega
    unfold Snd.left
    rw [hsrc, hns]
    omega

theorem left_few {s : Snd} (ok : s.Ok) (h : s.Owe) : s.left < 20000 := by
  obtain ⟨k1, k8, kn, n16, s1, s8⟩ := ok.cfg
  have hfew := ok.few
  have hT : ∀ i, i < s.os.length → s.T i ≤ 256 := fun i hi => by
    have := symN_range (S := s.S) (len := (oat s.os i).l.length) s1
    have := ok.len i hi
    unfold Snd.T
    omega
  have h1 : s.src ≤ s.os.length * 256 := sumF_le _ (fun i hi => by
    have := hT i hi
    split <;> omega)
  have h2 : s.owedAll ≤ s.os.length * 264 := sumF_le _ (fun i hi => by
    have h3 : s.owedIn i ≤ s.Q i * s.K := sumF_le _ (fun q hq => by
      have := h i q hi hq
      unfold srcN at this
      omega)
    have h4 : s.Q i * s.K ≤ s.T i + s.K - 1 := Nat.div_mul_le_self _ _
    have := hT i hi
    omega)
  have h3 : s.os.length * 256 ≤ 16 * 256 := Nat.mul_le_mul_right _ hfew
  have h4 : s.os.length * 264 ≤ 16 * 264 := Nat.mul_le_mul_right _ hfew
  unfold Snd.left
  omega

/-- There is nothing to send. -/
def Snd.idle (s : Snd) : Prop := s.no = s.os.length ∧ ∀ i q, ¬ s.owes i q

/-- An object more. -/
theorem Snd.Owe.enq {s : Snd} (h : s.Owe) {o : Ob} {vo : Value} (hd : o.ds = debts0 (partsN (symN s.S o.l.length) s.K)) : (s.enq o vo).Owe := by
  intro i q hi hq
  change i < (s.os ++ [o]).length at hi
  rw [List.length_append] at hi
  by_cases e : i < s.os.length
  · have e1 : oat (s.enq o vo).os i = oat s.os i := by
      show oat (s.os ++ [o]) i = _
      simp [oat, List.getD, List.getElem?_append_left e]
    have e2 : (s.enq o vo).T i = s.T i := by unfold Snd.T; rw [e1]; rfl
    have e3 : (s.enq o vo).Q i = s.Q i := by unfold Snd.Q; rw [e2]; rfl
    rw [e3] at hq
    rw [e1, e2]
    exact h i q e hq
  · obtain rfl : i = s.os.length := by simp at hi; omega
    have e1 : oat (s.enq o vo).os s.os.length = o := by
      show oat (s.os ++ [o]) s.os.length = _
      simp [oat, List.getD]
    rw [e1, hd]
    have : (dat (debts0 (partsN (symN s.S o.l.length) s.K)) q).1 = 0 := by
      unfold dat debts0
      rw [List.getD_eq_getElem?_getD, List.getElem?_replicate]
      split <;> rfl
    omega

end Go.Proofs.YtjabhnhejbhgjaaGreatDoor

/- The net: what holds of it between two calls; enqueue. -/
namespace Go.Proofs.YtjabhnhejbhgjaaGreatDoor
open Go.RowKit

/-- What holds of the net between two calls. -/
structure NG (st : Nt) : Prop where
  cfg : st.s.K = st.K ∧ st.s.N = st.N ∧ st.s.S = st.S
  olen : st.obs.length = st.s.os.length
  objs : ∀ i, i < st.s.os.length → (slat st.obs i).l = (oat st.s.os i).l
  owe : st.s.Owe
  gen : ∀ i, i < st.rs.length → RGen st.s.os st.K st.N st.S (rcat st.rs i).2
  un : ∀ i, i < st.rs.length → (rcat st.rs i).2.un = []
  tk : ∀ i, i < st.rs.length → (tkat st.tks i).2 = (rcat st.rs i).2.tk
  air : ∀ x ∈ st.air, ∃ i q p, i < st.s.os.length ∧ q < st.s.Q i ∧ plcN st.K st.N (st.s.T i) q p = true ∧ x.l = st.s.pkt i q p
  airn : st.air.length ≤ 60

/-- An object more. -/
structure EnqNet (st : Nt) (x : Sl) (st' : Nt) : Prop where
  full : st.s.os.length = 16 → st' = st
  more : st.s.os.length < 16 → ∃ o vo vo', o.l = x.l ∧ o.ds = debts0 (partsN (symN st.s.S x.l.length) st.s.K) ∧ st' = { st with s := st.s.enq o vo, obs := st.obs ++ [x], vo := vo' }

theorem oat_enq {s : Snd} {o : Ob} {vo : Value} {i : Nat} (h : i < s.os.length) : oat (s.enq o vo).os i = oat s.os i := by
  show oat (s.os ++ [o]) i = _
  simp [oat, List.getD, List.getElem?_append_left h]
theorem oat_enq_last {s : Snd} {o : Ob} {vo : Value} : oat (s.enq o vo).os s.os.length = o := by
  show oat (s.os ++ [o]) s.os.length = _
  simp [oat, List.getD]
theorem slat_push {xs : List Sl} {x : Sl} {i : Nat} (h : i < xs.length) : slat (xs ++ [x]) i = slat xs i := by simp [slat, List.getD, List.getElem?_append_left h]
theorem slat_last {xs : List Sl} {x : Sl} : slat (xs ++ [x]) xs.length = x := by simp [slat, List.getD]

theorem NG.enq {st : Nt} (g : NG st) {x : Sl} {o : Ob} {vo vo' : Value} (hl : o.l = x.l) (hd : o.ds = debts0 (partsN (symN st.s.S x.l.length) st.s.K)) : NG { st with s := st.s.enq o vo, obs := st.obs ++ [x], vo := vo' } := by
  have hlen : (st.s.enq o vo).os.length = st.s.os.length + 1 := by show (st.s.os ++ [o]).length = _; simp
  refine ⟨g.cfg, ?_, fun i hi => ?_, g.owe.enq (by rw [hl]; exact hd), fun i hi => ?_, g.un, g.tk, fun y hy => ?_, g.airn⟩
  · show (st.obs ++ [x]).length = (st.s.enq o vo).os.length
    rw [hlen, List.length_append, g.olen]
    rfl
  · change i < (st.s.enq o vo).os.length at hi
    rw [hlen] at hi
    show (slat (st.obs ++ [x]) i).l = (oat (st.s.enq o vo).os i).l
    by_cases e : i < st.s.os.length
    · rw [oat_enq e, slat_push (by rw [g.olen]; exact e)]
      exact g.objs i e
    · obtain rfl : i = st.s.os.length := by omega
      rw [oat_enq_last, ← g.olen, slat_last, hl]
  · obtain ⟨g1, g2, g3⟩ := g.gen i hi
    refine ⟨g1, fun m kb k hm he => ?_, fun m hm => ?_⟩
    · obtain ⟨h1, h2, h3, h4⟩ := g2 m kb k hm he
      show m < (st.s.enq o vo).os.length ∧ k.Of (oat (st.s.enq o vo).os m).l ∧ _
      rw [hlen, oat_enq h1]
      exact ⟨by omega, h2, h3, h4⟩
    · show m < (st.s.enq o vo).os.length
      rw [hlen]
      have := g3 m hm
      omega
  · obtain ⟨i, q, p, h1, h2, h3, h4⟩ := g.air y hy
    have e1 := oat_enq (o := o) (vo := vo) h1
    have e2 : (st.s.enq o vo).T i = st.s.T i := by unfold Snd.T; rw [e1]; rfl
    have e3 : (st.s.enq o vo).Q i = st.s.Q i := by unfold Snd.Q; rw [e2]; rfl
    have e4 : (st.s.enq o vo).pkt i q p = st.s.pkt i q p := by unfold Snd.pkt; rw [e1]; rfl
    refine ⟨i, q, p, ?_, ?_, ?_, ?_⟩
    · show i < (st.s.enq o vo).os.length; rw [hlen]; omega
    · show q < (st.s.enq o vo).Q i; rw [e3]; exact h2
    · show plcN st.K st.N ((st.s.enq o vo).T i) q p = true; rw [e2]; exact h3
    · show y.l = (st.s.enq o vo).pkt i q p; rw [e4]; exact h4

/-- What a call on the net gives: another net. -/
def NetTo (A : Nat → Addr) (B0 B : Nat) (own : Nat → Nat) (w : World) (nb : Nat) (w' : World) (R : Nt → Prop) : Prop := ∃ own' st', NI A B0 B own' w' nb st' ∧ NG st' ∧ Fr own w own' w' ∧ R st'

set_option maxRecDepth 100000 in
set_option maxHeartbeats 2000000 in
theorem netEnq_any {A : Nat → Addr} {B0 B nb : Nat} {own : Nat → Nat} {w : World} {st : Nt} (h : NI A B0 B own w nb st) (g : NG st) {x : Sl} (hx : x.At own w) (h255 : x.l.length ≤ 255) :
    Calls Tryz.prog 13 #[.pointer (some ⟨nb, 0, none⟩), x.val] w fun e w' => e = .returned (.bool true) ∧ NetTo A B0 B own w nb w' (EnqNet st x) := by
  have HENQ := enqueue_any (c := x.c) h.snd h.sok h.errs (l := x.l) rfl (by omega) hx.ptr hx.bs
  obtain ⟨c0, c1, c2, c3, c4, c5, c6, c7⟩ := h.cells
  obtain ⟨iB, hiB, hiB0, hiB1, hiB2⟩ := Tryz.bytes_parts
  have HH : Hid (NI A B0 B own w nb st) := h
  have HX : Hid (x.At own w) := hx
  have h16 := h.sok.few
  have hol := g.olen
  have HG : Hid (NG st) := g
  clear h hx g c0 c1 c2 c4 c5 c6 c7
  unfold Sl.val
  go_enter Tryz.func13, Tryz.ntmps13
  go_wp2_with fail
  refine HENQ.mono ?_
  intro e w1 hE
  clear HENQ c3
  rcases hE with ⟨hq, _⟩ | ⟨_, hq, rfl, hb⟩ | ⟨_, hq, rfl, o, vo, hl, hd, hS, hbu, hft⟩
  · omega
  · obtain ⟨h1, hf1⟩ := HH.out.above 1 hb
    obtain ⟨_, _, _, _, _, d5, _, _⟩ := h1.cells
    obtain ⟨oa, oc, hov, _⟩ := own_form2 h1.oown
    rw [hov, hol, hq] at d5
    have g2 : w1.cell? ⟨1, 0, none⟩ = some (.iface 269 (.pointer (some (A 2)))) := h1.errs.cell 2 (by omega)
    have HF : Hid (NetTo A B0 B own w nb w1 (EnqNet st x)) := ⟨_, st, h1, HG.out, hf1, fun _ => rfl, fun z => by omega⟩
    have HEQ : (binOp .eql 45 (.iface 269 (.pointer (some (A 2)))) (.iface 269 (.pointer (some (A 2))))).run Tryz.prog w1 = .ok (.bool true) w1 := h1.errs.eql 3 3 (by omega) (by omega)
    rw [E_succ]
    clear h1 hf1 hov hb HH HX
    go_wp2_with fail
    go_ret
    exact ⟨rfl, HF.out⟩
  · obtain ⟨h1, hf1⟩ := HH.out.stepS hbu hS (Snd.enq_ok HH.out.sok hq (by rw [hl]; exact h255) (by rw [hl]; exact hd)) hft
    obtain ⟨d0, d1, d2, d3, d4, d5, d6, d7⟩ := h1.cells
    change w1.cell? ⟨nb, 5, none⟩ = some st.vo at d5
    obtain ⟨oa, oc, hov, _⟩ := own_form2 h1.oown
    change st.vo = .slice oa st.obs.length oc at hov
    have hown1 := h1.oown
    change w1.ownsRow B 33 1 st.vo st.obs.length (slVals st.obs) at hown1
    rw [hov] at hown1
    rw [hov, hol] at d5
    rw [hol] at hown1
    have hne : ¬ ((st.s.os.length : Int) = 16) := by omega
    have hx1 := HX.out.fr hf1
    have HH1 : Hid (NI A B0 B (ownN own w.heap.size 2) w1 nb { st with s := st.s.enq o vo }) := h1
    have HF1 : Hid (Fr own w (ownN own w.heap.size 2) w1) := hf1
    have hfz : w1.frozen? ⟨nb, 5, none⟩ = false := frozen_of_row w1 nb 5 _ _ h1.blk
    have hBle := h1.leB
    have hlt1 := h1.ltN
    have hlt2 : ¬ nb = w1.heap.size := by omega
    generalize hown2 : ownN own w.heap.size 2 = own1 at *
    clear d0 d1 d2 d3 d4 d6 d7 h1 hf1 HH hbu hS hft hown2
    have HMX : Hid (st.s.os.length + 1 ≤ maxLen) := by show _ ≤ _; unfold maxLen; omega
    go_wp2_with (at_builtin; refine wpList_append_lies _ rfl _ _ _ rfl B 33 iB (.slice none 0 0) 1 24 Tryz.underlying40 hiB hiB0 hiB1 hiB2 rfl (by omega) (.slice oa st.s.os.length oc) st.s.os.length (slVals st.obs) rfl (hown1.alloc _) ⟨w1.heap.size, 0, none⟩ 1 1 [.slice x.a x.l.length x.c] rfl rfl (cell_one_at w1 _ _ _ rfl) (fun u hu => by simp at hu; subst hu; rfl) (by omega) HMX.out (by omega) (by simp; omega) (w1.heap.size + 1) (by simp) ?_)
    intro g6 cap6 w6 hown6 hgr6 hlie6 hlt6
    have hnb6 : w6.heap[nb]? = w1.heap[nb]? := (grown_block hgr6 (by simp; omega) (by rw [hol] at hov; rw [← hov]; exact fun q => own_ne HH1.out.oown q HH1.out.blk (by decide) rfl)).trans (Below.heap_alloc w1 _ nb hlt1)
    have hblk6 := hnb6.trans HH1.out.blk
    have f6 : w6.frozen? ⟨nb, 5, none⟩ = false := frozen_of_row w6 nb 5 _ _ hblk6
    have k6 : w6.cell? ⟨nb, 5, none⟩ = some (.slice oa st.s.os.length oc) := by rw [cell_of_row _ nb 5 _ _ _ hblk6, ← cell_of_row w1 nb 5 _ _ _ HH1.out.blk]; exact d5
    have h7 := heap_setCell_same w6 nb 5 _ _ (.slice (some ⟨g6, 0, none⟩) (st.s.os.length + 1) cap6) hblk6
    have HFIN : Hid (NetTo A B0 B own w nb (w6.setCell ⟨nb, 5, none⟩ (.slice (some ⟨g6, 0, none⟩) (st.s.os.length + 1) cap6)) (EnqNet st x)) := by
      have hbu6 : But (fun b => b = nb ∨ st.vo.ownBlock = some b) w1 w6 := ((But.refl _ w1).alloc _).grown hgr6 (fun k hk => .inl (.inr (by rw [hov, hol]; exact hk)))
      have hbu7 := hbu6.setCell (p := ⟨nb, 5, none⟩) (.inl (.inl rfl)) (.slice (some ⟨g6, 0, none⟩) (st.s.os.length + 1) cap6)
      have hsl : slVals (st.obs ++ [x]) = slVals st.obs ++ [.slice x.a x.l.length x.c] := by simp [slVals, Sl.val]
      have hlen : (st.obs ++ [x]).length = st.s.os.length + 1 := by simp [hol]
      obtain ⟨h8, hf8⟩ := HH1.out.stepO (obs' := st.obs ++ [x]) (vo' := .slice (some ⟨g6, 0, none⟩) (st.s.os.length + 1) cap6) hbu7 h7 (by
        rw [hsl, hlen]
        exact own_of_block hown6 (fun z hz => heap_setCell_other w6 ⟨nb, 5, none⟩ z _ (fun q => own_ne hown6 hz hblk6 (by decide) q))) (fun y hy => by
        rcases List.mem_append.1 hy with q | q
        · exact HH1.out.obsAt y q
        · rw [List.mem_singleton.1 q]; exact hx1) (fun b hg => by
        simp only [Value.ownBlock, Option.some.injEq] at hg
        subst hg
        rcases hlie6 with q | q
        · exact .inl (by show st.vo.ownBlock = _; rw [hov, hol]; exact q)
        · exact .inr (by omega))
      exact ⟨_, _, h8, HG.out.enq hl hd, HF1.out.trans hf8, fun z => by omega, fun _ => ⟨o, vo, _, hl, hd, rfl⟩⟩
    clear hown6 hgr6 hlie6 hlt6 hnb6 HH1 hown1 hov hx1
    go_wp2_with fail
    go_ret
    exact ⟨rfl, HFIN.out⟩

end Go.Proofs.YtjabhnhejbhgjaaGreatDoor
