/- That what was heard of comes to be whole: by N asks at most. -/
import Derived.Test.YtjabhnhejbhgjaaGreatDoorNetGot
namespace Go.Proofs.YtjabhnhejbhgjaaGreatDoor
open Go.RowKit

/-- The block is whole, or the symbols of the last h turns ahead of turn t are known, and h is less than a round. -/
def HdI (K N k t : Nat) (ps : List Gf.F) (h : Nat) : Prop := ps.length = k ∨ (h < (N - K) + k ∧ ∀ j, 1 ≤ j → j ≤ h → by8 (plcAt K N ((t + ((N - K) + k) - j) % ((N - K) + k))) ∈ ps)

theorem HdI.zero {K N k t : Nat} {ps : List Gf.F} (h : 0 < (N - K) + k) : HdI K N k t ps 0 := .inr ⟨h, fun j h1 h2 => by omega⟩
theorem HdI.less {K N k t h h' : Nat} {ps : List Gf.F} (H : HdI K N k t ps h) (hh : h' ≤ h) : HdI K N k t ps h' := by
  rcases H with H | ⟨H1, H2⟩
  · exact .inl H
  · exact .inr ⟨by omega, fun j h1 h2 => H2 j h1 (by omega)⟩
theorem HdI.more {K N k t h : Nat} {ps ps' : List Gf.F} (H : HdI K N k t ps h) (hs : ∀ x, x ∈ ps → x ∈ ps') (hl : ps.length = k → ps'.length = k) : HdI K N k t ps' h := by
  rcases H with H | ⟨H1, H2⟩
  · exact .inl (hl H)
  · exact .inr ⟨H1, fun j h1 h2 => hs _ (H2 j h1 h2)⟩

theorem plcAt_inj {K N k a b : Nat} (hk : k ≤ K) (ha : a < (N - K) + k) (hb : b < (N - K) + k) (h : plcAt K N a = plcAt K N b) : a = b := by
  unfold plcAt at h
  split at h <;> split at h <;> omega
theorem plcAt_lt {K N k a : Nat} (hk : k ≤ K) (hN : N ≤ 16) (hK : K ≤ 8) (ha : a < (N - K) + k) : plcAt K N a < 256 := by
  unfold plcAt
  split <;> omega

/-- All places of a round: the block is whole. -/
theorem round_full {K N k : Nat} {ps : List Gf.F} (hk : k ≤ K) (hN : N ≤ 16) (hK : K ≤ 8) (hf : ps.length ≤ k) (h : ∀ u, u < (N - K) + k → by8 (plcAt K N u) ∈ ps) : ps.length = k := by
  have hnd : ((List.range ((N - K) + k)).map fun u => by8 (plcAt K N u)).Nodup := by
    rw [List.nodup_iff_pairwise_ne, List.pairwise_map]
    refine List.Pairwise.imp_of_mem ?_ List.nodup_range
    intro a b ha hb hne e
    have ha := List.mem_range.1 ha
    have hb := List.mem_range.1 hb
    exact hne (plcAt_inj hk ha hb (ofNat_inj (plcAt_lt hk hN hK ha) (plcAt_lt hk hN hK hb) e))
  have := nodup_le _ ps hnd (fun x hx => by
    obtain ⟨u, hu, rfl⟩ := List.mem_map.1 hx
    exact h u (List.mem_range.1 hu))
  simp at this
  omega

theorem HdI.step {K N k t h : Nat} {ps ps' : List Gf.F} (H : HdI K N k t ps h) (hk : k ≤ K) (hN : N ≤ 16) (hK : K ≤ 8) (ht : t < (N - K) + k) (hs : ∀ x, x ∈ ps → x ∈ ps') (hl : ps.length = k → ps'.length = k) (hf : ps'.length ≤ k) (hn : by8 (plcAt K N t) ∈ ps' ∨ ps'.length = k) : HdI K N k ((t + 1) % ((N - K) + k)) ps' (h + 1) := by
  generalize hR : (N - K) + k = R at *
  rcases hn with hn | hn
  · rcases H with H | ⟨H1, H2⟩
    · exact .inl (hl H)
    · rw [hR] at H1 H2
      have hall : ∀ j, 1 ≤ j → j ≤ h + 1 → by8 (plcAt K N (((t + 1) % R + R - j) % R)) ∈ ps' := by
        intro j j1 j2
        by_cases e : j = 1
        · subst e
          have : ((t + 1) % R + R - 1) % R = t := by
            rcases Nat.lt_or_ge (t + 1) R with q | q
            · rw [Nat.mod_eq_of_lt q, show t + 1 + R - 1 = t + R by omega, Nat.add_mod_right, Nat.mod_eq_of_lt ht]
            · have e2 : t + 1 = R := by omega
              rw [e2, Nat.mod_self, Nat.zero_add, Nat.mod_eq_of_lt (by omega)]
              omega
          rw [this]
          exact hn
        · have := H2 (j - 1) (by omega) (by omega)
          have e3 : ((t + 1) % R + R - j) % R = (t + R - (j - 1)) % R := by
            rcases Nat.lt_or_ge (t + 1) R with q | q
            · rw [Nat.mod_eq_of_lt q]
              congr 1
              omega
            · have e2 : t + 1 = R := by omega
              rw [e2, Nat.mod_self, Nat.zero_add, show t + R - (j - 1) = (R - j) + R by omega, Nat.add_mod_right]
          rw [e3]
          exact hs _ this
      rcases Nat.lt_or_ge (h + 1) R with q | q
      · exact .inr ⟨by rw [hR]; exact q, by rw [hR]; exact hall⟩
      · left
        have he : h + 1 = R := by omega
        refine round_full hk hN hK hf (fun u hu => ?_)
        rw [hR] at hu
        have ht' : (t + 1) % R < R := Nat.mod_lt _ (by omega)
        generalize (t + 1) % R = t' at *
        rcases Nat.lt_or_ge u t' with z | z
        · have := hall (t' - u) (by omega) (by omega)
          rw [show t' + R - (t' - u) = u + R by omega, Nat.add_mod_right, Nat.mod_eq_of_lt (by omega)] at this
          exact this
        · have := hall (t' + R - u) (by omega) (by omega)
          rw [show t' + R - (t' + R - u) = u by omega, Nat.mod_eq_of_lt (by omega)] at this
          exact this
  · exact .inl hn

/-- The turn of a block. -/
def Snd.turn (s : Snd) (i q : Nat) : Nat := (dat (oat s.os i).ds q).2
/-- How many symbols a block has. -/
def Snd.k (s : Snd) (i q : Nat) : Nat := srcN s.K (s.T i) q

/-- What holds of the sender and a receiver while the receiver asks: cnt counts its asks for each object. -/
structure DI (s : Snd) (v : Vw) (cnt : Nat → Nat) : Prop where
  few : ∀ m ps, m < 16 → v.see m = some ps → m < s.os.length ∧ ps.length = s.Q m ∧ (∀ q, q < s.Q m → (lat ps q).length ≤ s.k m q) ∧ v.tk.getD m false = false
  hd : ∀ m ps q, m < 16 → v.see m = some ps → q < s.Q m → HdI s.K s.N (s.k m q) (s.turn m q) (lat ps q) (cnt m)
  cz : ∀ m, m < 16 → cnt m ≠ 0 → v.see m ≠ none ∨ v.tk.getD m false = true
  tkl : v.tk.length = 16

/-- Of one object that was asked for: each block has been sent one symbol more, or is owed one. -/
def D2 (s : Snd) (v : Vw) (m c : Nat) : Prop := (v.see m ≠ none ∨ v.tk.getD m false = true) ∧ ∀ ps q, v.see m = some ps → q < s.Q m → HdI s.K s.N (s.k m q) (s.turn m q) (lat ps q) (c + 1) ∨ (s.owes m q ∧ HdI s.K s.N (s.k m q) (s.turn m q) (lat ps q) c)

theorem addP_facts {K T q : Nat} {ps : List (List Gf.F)} {x : Gf.F} (hq : q < ps.length) (hf : ∀ r, r < ps.length → (lat ps r).length ≤ srcN K T r) (r : Nat) (hr : r < ps.length) :
    (∀ y, y ∈ lat ps r → y ∈ lat (addP K T ps q x) r) ∧ ((lat ps r).length = srcN K T r → (lat (addP K T ps q x) r).length = srcN K T r) ∧ (lat (addP K T ps q x) r).length ≤ srcN K T r ∧ (r = q → x ∈ lat (addP K T ps q x) r ∨ (lat (addP K T ps q x) r).length = srcN K T r) := by
  rw [addP_at hq]
  have hfr := hf r hr
  split
  · rename_i h
    obtain ⟨rfl, h2, h3⟩ := h
    refine ⟨fun y hy => List.mem_append_left _ hy, fun e => by omega, by simp; omega, fun _ => .inl (by simp)⟩
  · rename_i h
    refine ⟨fun y hy => hy, fun e => e, hfr, fun e => ?_⟩
    subst e
    by_cases z : x ∈ lat ps r
    · exact .inl z
    · right
      have : ¬ (lat ps r).length < srcN K T r := fun y => h ⟨rfl, y, z⟩
      omega

theorem lat_rep (n r : Nat) : lat (List.replicate n []) r = [] := by
  unfold lat
  rw [List.getD_eq_getElem?_getD, List.getElem?_replicate]
  split <;> rfl

theorem R_pos {s : Snd} (ok : s.Ok) {m q : Nat} (hq : q < s.Q m) : 0 < (s.N - s.K) + s.k m q := by
  have := partsN_mul ok.cfg.k1 hq
  have := ok.cfg.k1
  unfold Snd.k srcN
  omega

/-- What Next does to turns: nothing, or it goes on at one block. -/
theorem NextAt.turns {s s' : Snd} {i q p : Nat} (h : NextAt s i q p s') (ok : s.Ok) :
    (∀ m r, s'.turn m r = s.turn m r ∧ (s.owes m r → s'.owes m r)) ∨
    (p = plcAt s.K s.N (s.turn i q) ∧ s'.turn i q = (s.turn i q + 1) % s.R i q ∧ ∀ m r, m < s.os.length → r < s.Q m → ¬ (m = i ∧ r = q) → s'.turn m r = s.turn m r ∧ (s.owes m r → s'.owes m r)) := by
  cases h using NextAt.ways with
  | source h1 =>
    have hsm := SameOs.step s
    exact .inl fun a b => ⟨by unfold Snd.turn; rw [step_ds], fun ⟨o1, o2, o3⟩ => ⟨by rw [hsm.len]; exact o1, by rw [hsm.Q]; exact o2, by rw [step_ds]; exact o3⟩⟩
  | owed h1 i q ho hf =>
    have hd := debt_setD ok ho.1 ho.2.1 ((dat (oat s.os i).ds q).1 - 1, ((dat (oat s.os i).ds q).2 + 1) % s.R i q)
    have hsm := SameOs.setD ho.1 q ((dat (oat s.os i).ds q).1 - 1, ((dat (oat s.os i).ds q).2 + 1) % s.R i q)
    have hpay : s.pay i q = s.setD i q ((dat (oat s.os i).ds q).1 - 1, ((dat (oat s.os i).ds q).2 + 1) % s.R i q) := rfl
    rw [← hpay] at hd hsm
    refine .inr ⟨rfl, ?_, fun m r hm hr e => ?_⟩
    · have := hd i q ho.1 ho.2.1
      rw [if_pos ⟨rfl, rfl⟩] at this
      unfold Snd.turn
      rw [this]
    · have := hd m r hm hr
      rw [if_neg e] at this
      exact ⟨by unfold Snd.turn; rw [this], fun ⟨o1, o2, o3⟩ => ⟨by rw [hsm.len]; exact o1, by rw [hsm.Q]; exact o2, by rw [this]; exact o3⟩⟩

theorem got_len (K T : Nat) (v : Vw) (i q : Nat) (x : Gf.F) : (v.got K T i q x).tk.length = v.tk.length := by
  have hp : ∀ ps, (v.put K T i ps).tk.length = v.tk.length := fun ps => by
    unfold Vw.put
    split
    · simp
    · rfl
  unfold Vw.got
  split
  · rfl
  · split
    · exact hp _
    · split
      · rfl
      · exact hp _

/-- A packet is sent and heard. -/
theorem DI.next {s s' : Snd} {v : Vw} {cnt : Nat → Nat} {i q p : Nat} (h : DI s v cnt) (ok : s.Ok) (hn : NextAt s i q p s') :
    DI s' (v.got s.K (s.T i) i q (by8 p)) cnt ∧ ∀ m c, m < 16 → D2 s v m c → D2 s' (v.got s.K (s.T i) i q (by8 p)) m c := by
  obtain ⟨hi, hq, hp⟩ := hn.gen ok
  have hsm := hn.same
  obtain ⟨k1, k8, kn, n16, s1, s8⟩ := ok.cfg
  have hG := got_is (K := s.K) (T := s.T i) (v := v) (i := i) (q := q) (x := by8 p) (by rw [h.tkl]; have := ok.few; omega)
  have hvl := got_len s.K (s.T i) v i q (by8 p)
  generalize v.got s.K (s.T i) i q (by8 p) = v' at *
  have hk' : ∀ m r, s'.k m r = s.k m r := fun m r => by unfold Snd.k; rw [hsm.K, hsm.T]
  have hkK : ∀ m r, s.k m r ≤ s.K := fun m r => by unfold Snd.k srcN; omega
  have hRe : ∀ m r, s.R m r = (s.N - s.K) + s.k m r := fun m r => rfl
  -- what became of a block that is known now
  have hblk : ∀ m ps' r, m < 16 → v'.see m = some ps' → r < s.Q m → m < s.os.length ∧ ps'.length = s.Q m ∧ (lat ps' r).length ≤ s.k m r ∧ v'.tk.getD m false = false ∧
      ((∃ ps, v.see m = some ps ∧ (∀ x, x ∈ lat ps r → x ∈ lat ps' r) ∧ ((lat ps r).length = s.k m r → (lat ps' r).length = s.k m r)) ∨ (v.see m = none ∧ m = i ∧ v.tk.getD m false = false)) ∧ (m = i → r = q → by8 p ∈ lat ps' r ∨ (lat ps' r).length = s.k m r) := by
    intro m ps' r hm16 hs hr
    by_cases e : m = i
    · subst e
      cases ht : v.tk.getD m false with
      | true =>
        have := hG.tk ht
        subst this
        have := (h.few m ps' hm16 hs).2.2.2
        rw [ht] at this
        cases this
      | false =>
        rcases hG.see ht with ⟨h1, h2⟩ | ⟨h1, _⟩ | ⟨h1, ps, ps2, h2, h3, h4⟩
        · rw [h2, h1] at hs; cases hs
        · rw [h1] at hs; cases hs
        · rw [h2] at hs
          cases hs
          have hps : ps.length = s.Q m ∧ ∀ r, r < s.Q m → (lat ps r).length ≤ s.k m r := by
            rcases h3 with h3 | ⟨_, h3⟩
            · exact ⟨(h.few m ps hm16 h3).2.1, (h.few m ps hm16 h3).2.2.1⟩
            · subst h3
              exact ⟨by simp [Snd.Q], fun r _ => by rw [lat_rep]; simp⟩
          obtain ⟨f1, f2, f3, f4⟩ := addP_facts (K := s.K) (T := s.T m) (x := by8 p) (by rw [hps.1]; exact hq) (fun r hr => hps.2 r (by rw [← hps.1]; exact hr)) r (by rw [hps.1]; exact hr)
          subst h4
          refine ⟨hi, by rw [addP_len]; exact hps.1, f3, h1, ?_, fun _ e => f4 e⟩
          rcases h3 with h3 | ⟨h3, _⟩
          · exact .inl ⟨ps, h3, f1, f2⟩
          · exact .inr ⟨h3, rfl, by first | rfl | exact ht⟩
    · obtain ⟨h1, h2⟩ := hG.other m e
      rw [h1] at hs
      obtain ⟨f1, f2, f3, f4⟩ := h.few m ps' hm16 hs
      exact ⟨f1, f2, f3 r hr, by rw [h2]; exact f4, .inl ⟨ps', hs, fun _ z => z, id⟩, fun z => absurd z e⟩
  -- the main point, for any count
  have hpt : ∀ m ps' r c, m < 16 → v'.see m = some ps' → r < s.Q m → (∀ ps, v.see m = some ps → HdI s.K s.N (s.k m r) (s.turn m r) (lat ps r) c) → (v.see m = none → c = 0) →
      HdI s.K s.N (s.k m r) (s'.turn m r) (lat ps' r) c ∧ ((∃ ps, v.see m = some ps) → m = i → r = q → p = plcAt s.K s.N (s.turn i q) → s'.turn i q = (s.turn i q + 1) % s.R i q → HdI s.K s.N (s.k m r) (s'.turn m r) (lat ps' r) (c + 1)) := by
    intro m ps' r c hm16 hs hr hold hnone
    obtain ⟨b1, b2, b3, b4, b6, b7⟩ := hblk m ps' r hm16 hs hr
    have ht := (ok.debt m r b1 hr).2
    change s.turn m r < s.R m r at ht
    rw [hRe] at ht
    rcases b6 with ⟨ps, hps, hsub, hlen⟩ | ⟨hno, rfl, htf⟩
    · have H0 := hold ps hps
      have H1 := H0.more hsub hlen
      have hB : m = i → r = q → p = plcAt s.K s.N (s.turn i q) → s'.turn i q = (s.turn i q + 1) % s.R i q → HdI s.K s.N (s.k m r) (s'.turn m r) (lat ps' r) (c + 1) := by
        rintro rfl rfl hpp hT1
        rw [hT1, hRe]
        exact H0.step (hkK m r) n16 k8 ht hsub hlen b3 (by rw [← hpp]; exact b7 rfl rfl)
      refine ⟨?_, fun _ => hB⟩
      rcases hn.turns ok with hT | ⟨hpp, hT1, hT2⟩
      · rw [(hT m r).1]; exact H1
      · by_cases e : m = i ∧ r = q
        · exact (hB e.1 e.2 hpp hT1).less (by omega)
        · rw [(hT2 m r b1 hr e).1]; exact H1
    · rw [hnone hno]
      exact ⟨.zero (R_pos ok hr), fun ⟨ps, z⟩ => by rw [hno] at z; cases z⟩
  have hkt : ∀ m, (v.see m ≠ none ∨ v.tk.getD m false = true) → (v'.see m ≠ none ∨ v'.tk.getD m false = true) := by
    intro m hm
    by_cases e : m = i
    · subst e
      cases ht : v.tk.getD m false with
      | true => rw [hG.tk ht]; exact .inr ht
      | false =>
        rcases hm with hm | hm
        · rcases hG.see ht with ⟨h1, _⟩ | ⟨_, h1⟩ | ⟨_, ps, ps2, h2, _⟩
          · exact absurd h1 hm
          · exact .inr h1
          · exact .inl (by rw [h2]; simp)
        · rw [ht] at hm; cases hm
    · obtain ⟨h1, h2⟩ := hG.other m e
      rw [h1, h2]; exact hm
  have hcn : ∀ m, m < 16 → m = i → v.see m = none → v.tk.getD m false = false → cnt m = 0 := fun m hm16 _ h1 h2 => by
    rcases Nat.eq_zero_or_pos (cnt m) with z | z
    · exact z
    · rcases h.cz m hm16 (by omega) with y | y
      · exact absurd h1 y
      · rw [h2] at y; cases y
  refine ⟨⟨fun m ps' hm16 hs => ?_, fun m ps' r hm16 hs hr => ?_, fun m hm16 hc => hkt m (h.cz m hm16 hc), ?_⟩, fun m c hm16 ⟨hm, hD⟩ => ⟨hkt m hm, fun ps' r hs hr => ?_⟩⟩
  · have hQ : 0 < s.Q m := by
      have h1 : 1 ≤ s.T m := (symN_range (S := s.S) (len := (oat s.os m).l.length) s1).1
      have := parts_cover (s.T m) k1
      unfold Snd.Q
      rcases Nat.eq_zero_or_pos (partsN (s.T m) s.K) with z | z
      · rw [z] at this; omega
      · exact z
    obtain ⟨b1, b2, _, b4, _⟩ := hblk m ps' 0 hm16 hs hQ
    refine ⟨by rw [hsm.len]; exact b1, by rw [hsm.Q]; exact b2, fun r hr => ?_, b4⟩
    rw [hsm.Q] at hr
    rw [hk']
    exact (hblk m ps' r hm16 hs hr).2.2.1
  · rw [hsm.Q] at hr
    rw [hsm.K, hsm.N, hk']
    refine (hpt m ps' r (cnt m) hm16 hs hr (fun ps hps => h.hd m ps r hm16 hps hr) (fun hno => ?_)).1
    obtain ⟨_, _, _, _, b6, _⟩ := hblk m ps' r hm16 hs hr
    rcases b6 with ⟨ps, hps, _⟩ | ⟨_, e, htf⟩
    · rw [hno] at hps; cases hps
    · exact hcn m hm16 e hno htf
  · rw [hvl]; exact h.tkl
  · rw [hsm.Q] at hr
    rw [hsm.K, hsm.N, hk']
    obtain ⟨b1, _, _, _, b6, _⟩ := hblk m ps' r hm16 hs hr
    rcases b6 with ⟨ps, hps, _⟩ | ⟨hno, e, htf⟩
    · rcases hD ps r hps hr with z | ⟨z1, z2⟩
      · exact .inl (hpt m ps' r (c + 1) hm16 hs hr (fun ps2 h2 => by rw [hps] at h2; cases h2; exact z) (fun y => by rw [hps] at y; cases y)).1
      · obtain ⟨y1, y2⟩ := hpt m ps' r c hm16 hs hr (fun ps2 h2 => by rw [hps] at h2; cases h2; exact z2) (fun y => by rw [hps] at y; cases y)
        rcases hn.turns ok with hT | ⟨hpp, hT1, hT2⟩
        · exact .inr ⟨(hT m r).2 z1, y1⟩
        · by_cases e : m = i ∧ r = q
          · exact .inl (y2 ⟨ps, hps⟩ e.1 e.2 hpp hT1)
          · exact .inr ⟨(hT2 m r b1 hr e).2 z1, y1⟩
    · rcases hm with hm | hm
      · exact absurd hno hm
      · rw [htf] at hm; cases hm

/-- What asks do to turns and debts. -/
theorem askN_facts {s : Snd} (ok : s.Ok) {i : Nat} (hi : i < s.os.length) {m : List Gf.F} {M : Nat} (hv : ∀ k, k < M → bt m (1 + 2 * k) < s.Q i ∧ bt m (1 + 2 * k + 1) ≤ 8) :
    ∀ k, k ≤ M → (∀ j r, j < s.os.length → r < s.Q j → (s.askN i m k).turn j r = s.turn j r ∧ (dat (oat s.os j).ds r).1 ≤ (dat (oat (s.askN i m k).os j).ds r).1) ∧ ∀ k', k' < k → bt m (1 + 2 * k' + 1) ≤ (dat (oat (s.askN i m k).os i).ds (bt m (1 + 2 * k'))).1
  | 0, _ => ⟨fun j r _ _ => ⟨rfl, Nat.le_refl _⟩, fun k' h => by omega⟩
  | k + 1, hk => by
    obtain ⟨ih1, ih2⟩ := askN_facts ok hi hv k (by omega)
    obtain ⟨ok', hQ⟩ := Snd.askN_ok ok hi hv k (by omega)
    have hsm := SameOs.askN hi m k
    obtain ⟨v1, v2⟩ := hv k (by omega)
    have hd := debt_setD ok' (i := i) (q := bt m (1 + 2 * k)) (by rw [hsm.len]; exact hi) (by rw [hQ]; exact v1) (max (dat (oat (s.askN i m k).os i).ds (bt m (1 + 2 * k))).1 (bt m (1 + 2 * k + 1)), (dat (oat (s.askN i m k).os i).ds (bt m (1 + 2 * k))).2)
    have he : s.askN i m (k + 1) = (s.askN i m k).setD i (bt m (1 + 2 * k)) (max (dat (oat (s.askN i m k).os i).ds (bt m (1 + 2 * k))).1 (bt m (1 + 2 * k + 1)), (dat (oat (s.askN i m k).os i).ds (bt m (1 + 2 * k))).2) := rfl
    rw [← he] at hd
    refine ⟨fun j r hj hr => ?_, fun k' hk' => ?_⟩
    · have h1 := hd j r (by rw [hsm.len]; exact hj) (by rw [hQ]; exact hr)
      obtain ⟨t1, t2⟩ := ih1 j r hj hr
      unfold Snd.turn at t1 ⊢
      rw [h1]
      split
      · rename_i e
        obtain ⟨rfl, rfl⟩ := e
        exact ⟨t1, by show _ ≤ max _ _; omega⟩
      · exact ⟨t1, t2⟩
    · have hb := (hv k' (by omega)).1
      have h1 := hd i (bt m (1 + 2 * k')) (by rw [hsm.len]; exact hi) (by rw [hQ]; exact hb)
      rw [h1]
      by_cases e : k' = k
      · subst e
        rw [if_pos ⟨rfl, rfl⟩]
        show _ ≤ max _ _
        omega
      · have h2 := ih2 k' (by omega)
        split
        · rename_i e2
          rw [e2.2] at h2
          show _ ≤ max _ _
          omega
        · exact h2

/-- A receiver as it stands: nothing was asked yet. -/
theorem di_init {s : Snd} {r : Rcv} (okS : s.Ok) (ok : r.Ok) (g : RGen s.os s.K s.N s.S r) : DI s r.vw (fun _ => 0) := by
  have hk : ∀ m ps, m < 16 → r.vw.see m = some ps → ∃ kb k, r.kf m = some (kb, k) ∧ ps = k.ts.map Pt.ps ∧ k.Ok ∧ k.K = s.K ∧ k.T = s.T m ∧ m < s.os.length ∧ r.tk.getD m false = false := by
    intro m ps hm h
    unfold Rcv.vw at h
    obtain ⟨⟨kb, k⟩, h1, h2⟩ := Option.map_eq_some_iff.1 h
    obtain ⟨g1, g2, g3, g4⟩ := g.known m kb k hm h1
    obtain ⟨o1, o2, o3, o4⟩ := ok.known m kb k hm h1
    exact ⟨kb, k, h1, h2.symm, o1, o2.trans g.cfg.1, by unfold Kn.T Snd.T; rw [o4, g.cfg.2.2, g2.len], g1, g4⟩
  refine ⟨fun m ps hm h => ?_, fun m ps q hm h hq => .zero (R_pos okS hq), fun m _ h => absurd rfl h, ok.tk⟩
  obtain ⟨kb, k, _, rfl, h1, h2, h3, h4, h5⟩ := hk m ps hm h
  have hl : (k.ts.map Pt.ps).length = s.Q m := by rw [List.length_map, h1.blocks, h2, h3]; rfl
  refine ⟨h4, hl, fun q hq => ?_, h5⟩
  have hq' : q < k.ts.length := by rw [List.length_map] at hl; omega
  rw [lat_map, h1.same q hq']
  have := h1.few q hq'
  rw [h2, h3] at this
  exact this

/-- A receiver asks; the sender hears. -/
theorem DI.ask {s : Snd} {r : Rcv} {l : List Gf.F} {cnt : Nat → Nat} (okS : s.Ok) (ok : r.Ok) (g : RGen s.os s.K s.N s.S r) (h : DI s r.vw cnt) (ha : ∃ m kb k, m < 16 ∧ r.kf m = some (kb, k) ∧ l = askOf m k.len (k.lks k.ts.length)) :
    ∃ m, m < 16 ∧ bt l 1 = m ∧ cnt m < s.N ∧ DI (hearS s l) r.vw cnt ∧ D2 (hearS s l) r.vw m (cnt m) := by
  obtain ⟨m, kb, k, hm, hk, rfl⟩ := ha
  obtain ⟨k1, k2, k3, k4⟩ := ok.known m kb k hm hk
  obtain ⟨g1, g2, g3, g4⟩ := g.known m kb k hm hk
  obtain ⟨c1, c2, c3⟩ := g.cfg
  obtain ⟨a1, a2, a3, a4, a5, a6, a7⟩ := ask_reads k1 hm g3
  rw [k2, k3, k4, c1, c2, c3] at a1
  have hT : k.T = s.T m := by unfold Kn.T Snd.T; rw [k4, c3, g2.len]
  have hK : k.K = s.K := k2.trans c1
  have hsee : r.vw.see m = some (k.ts.map Pt.ps) := by unfold Rcv.vw; simp [hk]
  have hlen : k.ts.length = s.Q m := by rw [k1.blocks, hK, hT]; rfl
  -- what the sender is
  have hS : hearS s (askOf m k.len (k.lks k.ts.length)) = s.askN m (by8 (k.lks k.ts.length).length :: pairs (k.lks k.ts.length)) (k.lks k.ts.length).length := by
    unfold hearS
    rw [a1, a2, a3, a4, a6, a5]
    simp only
    rw [if_neg (by omega), if_neg (by simp [g2.len]), if_neg (by omega)]
  have hmem := k.lks_mem k.ts.length
  have hv : ∀ j, j < (k.lks k.ts.length).length → bt (by8 (k.lks k.ts.length).length :: pairs (k.lks k.ts.length)) (1 + 2 * j) < s.Q m ∧ bt (by8 (k.lks k.ts.length).length :: pairs (k.lks k.ts.length)) (1 + 2 * j + 1) ≤ 8 := fun j hj => by
    obtain ⟨b1, b2⟩ := body_bt (M := (k.lks k.ts.length).length) a7 hj
    obtain ⟨m1, m2, m3⟩ := (hmem _).1 (List.mem_of_getElem? (dat_some hj))
    rw [b1, b2, m2]
    refine ⟨by rw [← hlen]; exact m1, ?_⟩
    have := k1.cfg.k8
    unfold Kn.lk srcN
    omega
  obtain ⟨f1, f2⟩ := askN_facts okS g1 hv _ (Nat.le_refl _)
  have hsm := SameOs.askN (s := s) g1 (by8 (k.lks k.ts.length).length :: pairs (k.lks k.ts.length)) (k.lks k.ts.length).length
  refine ⟨m, hm, a3, ?_, ?_, ?_⟩
  · -- a block that lacks some was not sent a whole round
    have hex : ∃ q, q < k.ts.length ∧ (gpt k.ts q).rs.length ≠ srcN k.K k.T q := Classical.byContradiction fun z => g3 (fun q hq => Classical.byContradiction fun y => z ⟨q, hq, y⟩)
    obtain ⟨q, hq, hne⟩ := hex
    have H := h.hd m _ q hm hsee (by rw [← hlen]; exact hq)
    rw [lat_map] at H
    rcases H with H | ⟨H, _⟩
    · rw [k1.same q hq] at H
      rw [hK, hT] at hne
      exact absurd H hne
    · have h1 : s.k m q ≤ s.K := by unfold Snd.k srcN; omega
      have := okS.cfg.kn
      omega
  · rw [hS]
    refine ⟨fun m' ps hm' hs => ?_, fun m' ps q hm' hs hq => ?_, h.cz, h.tkl⟩
    · obtain ⟨x1, x2, x3, x4⟩ := h.few m' ps hm' hs
      refine ⟨by rw [hsm.len]; exact x1, by rw [hsm.Q]; exact x2, fun q hq => ?_, x4⟩
      rw [hsm.Q] at hq
      unfold Snd.k
      rw [hsm.K, hsm.T]
      exact x3 q hq
    · rw [hsm.Q] at hq
      obtain ⟨x1, _⟩ := h.few m' ps hm' hs
      unfold Snd.k
      rw [hsm.K, hsm.N, hsm.T, (f1 m' q x1 hq).1]
      exact h.hd m' ps q hm' hs hq
  · rw [hS]
    refine ⟨.inl (by rw [hsee]; simp), fun ps q hs hq => ?_⟩
    rw [hsee] at hs
    cases hs
    rw [hsm.Q] at hq
    have hq' : q < k.ts.length := by rw [hlen]; exact hq
    unfold Snd.k
    rw [hsm.K, hsm.N, hsm.T, (f1 m q g1 hq).1, lat_map]
    by_cases z : 0 < k.lk q
    · right
      have H := h.hd m _ q hm hsee hq
      rw [lat_map] at H
      refine ⟨⟨by rw [hsm.len]; exact g1, by rw [hsm.Q]; exact hq, ?_⟩, H⟩
      obtain ⟨j, hj⟩ := List.mem_iff_getElem?.1 ((hmem (q, k.lk q)).2 ⟨hq', rfl, z⟩)
      have hjl : j < (k.lks k.ts.length).length := by
        rcases Nat.lt_or_ge j (k.lks k.ts.length).length with y | y
        · exact y
        · rw [List.getElem?_eq_none y] at hj; cases hj
      have hdj : dat (k.lks k.ts.length) j = (q, k.lk q) := by simp [dat, List.getD, hj]
      obtain ⟨b1, b2⟩ := body_bt (M := (k.lks k.ts.length).length) a7 hjl
      have := f2 j hjl
      rw [b1, b2, hdj] at this
      simp only at this
      omega
    · left
      left
      rw [k1.same q hq']
      have := k1.few q hq'
      unfold Kn.lk at z
      rw [hK, hT] at z this
      omega

/-- There is nothing more to send: the ask counts. -/
theorem DI.count {s : Snd} {v : Vw} {cnt : Nat → Nat} {m : Nat} (h : DI s v cnt) (h2 : D2 s v m (cnt m)) (hid : s.idle) : DI s v (fun j => if j = m then cnt m + 1 else cnt j) := by
  refine ⟨h.few, fun m' ps q hm' hs hq => ?_, fun m' hm' hc => ?_, h.tkl⟩
  · show HdI _ _ _ _ _ (if m' = m then cnt m + 1 else cnt m')
    split
    · rename_i e
      subst e
      rcases h2.2 ps q hs hq with z | ⟨z, _⟩
      · exact z
      · exact absurd z (hid.2 m' q)
    · exact h.hd m' ps q hm' hs hq
  · by_cases e : m' = m
    · subst e; exact h2.1
    · rw [if_neg e] at hc
      exact h.cz m' hm' hc

end Go.Proofs.YtjabhnhejbhgjaaGreatDoor
