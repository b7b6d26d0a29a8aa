/- Two receivers that look alike ask alike; noise changes nothing. -/
import Derived.Test.YtjabhnhejbhgjaaGreatDoorNetShut
import Derived.Test.YtjabhnhejbhgjaaGreatDoorMurmurParse
namespace Go.Proofs.YtjabhnhejbhgjaaGreatDoor
open Go.RowKit

theorem lks_same {k k' : Kn} : ∀ n, (∀ i, i < n → k.lk i = k'.lk i) → k.lks n = k'.lks n
  | 0, _ => rfl
  | n + 1, h => by
    unfold Kn.lks
    rw [lks_same n (fun i hi => h i (by omega)), h n (by omega)]

/-- What is known of an object, by its places. -/
theorem see_known {s : Snd} {r : Rcv} {m : Nat} (hm : m < 16) (ok : r.Ok) (g : RGen s.os s.K s.N s.S r) {kb : Nat} {k : Kn} (hk : r.kf m = some (kb, k)) : r.vw.see m = some (k.ts.map Pt.ps) ∧ k.Ok ∧ k.K = s.K ∧ k.S = s.S ∧ k.len = (oat s.os m).l.length := by
  obtain ⟨g1, g2, g3, g4⟩ := g.known m kb k hm hk
  obtain ⟨o1, o2, o3, o4⟩ := ok.known m kb k hm hk
  exact ⟨by unfold Rcv.vw; simp [hk], o1, o2.trans g.cfg.1, o4.trans g.cfg.2.2, g2.len⟩

theorem ask_same {s : Snd} {r r' : Rcv} {l l' : List Gf.F} (ok : r.Ok) (ok' : r'.Ok) (g : RGen s.os s.K s.N s.S r) (g' : RGen s.os s.K s.N s.S r') (hv : r.vw = r'.vw)
    (h : (l = [] ∧ ∀ j, j < 16 → r.kf j = none) ∨ (5 ≤ l.length ∧ askFor r l)) (h' : (l' = [] ∧ ∀ j, j < 16 → r'.kf j = none) ∨ (5 ≤ l'.length ∧ askFor r' l')) : l = l' := by
  have hn : ∀ j, r.kf j = none ↔ r'.kf j = none := fun j => by
    have e : r.vw.see j = r'.vw.see j := by rw [hv]
    unfold Rcv.vw at e
    simp only at e
    constructor
    · intro z
      rw [z] at e
      exact Option.map_eq_none_iff.1 e.symm
    · intro z
      rw [z] at e
      exact Option.map_eq_none_iff.1 e
  rcases h with ⟨h1, h2⟩ | ⟨_, m, kb, k, h1, h2, h3, h4⟩
  · rcases h' with ⟨h1', _⟩ | ⟨_, m', kb', k', h1', h2', h3', h4'⟩
    · rw [h1, h1']
    · have := (hn m').1 (h2 m' h1')
      rw [h3'] at this
      cases this
  · rcases h' with ⟨_, h2'⟩ | ⟨_, m', kb', k', h1', h2', h3', h4'⟩
    · have := (hn m).2 (h2' m h1)
      rw [h3] at this
      cases this
    · have hmm : m = m' := by
        rcases Nat.lt_trichotomy m m' with z | z | z
        · have := (hn m).2 (h2' m z)
          rw [h3] at this
          cases this
        · exact z
        · have := (hn m').1 (h2 m' z)
          rw [h3'] at this
          cases this
      subst hmm
      obtain ⟨s1, o1, c1, c2, c3⟩ := see_known h1 ok g h3
      obtain ⟨s1', o1', c1', c2', c3'⟩ := see_known h1 ok' g' h3'
      have hps : k.ts.map Pt.ps = k'.ts.map Pt.ps := by
        rw [hv] at s1
        rw [s1'] at s1
        exact (Option.some.inj s1).symm
      have hlen : k.ts.length = k'.ts.length := by
        have := congrArg List.length hps
        simpa using this
      have hT : k.T = k'.T := by unfold Kn.T; rw [c2, c2', c3, c3']
      have hlk : ∀ i, i < k.ts.length → k.lk i = k'.lk i := fun i hi => by
        have e : lat (k.ts.map Pt.ps) i = lat (k'.ts.map Pt.ps) i := by rw [hps]
        rw [lat_map, lat_map] at e
        unfold Kn.lk
        rw [c1, c1', hT, ← o1.same i hi, ← o1'.same i (by omega), e]
      rw [h4, h4', c3, c3', ← hlen, lks_same _ hlk]

/-- What noise is heard as: nothing of an object. -/
def NoData (K N S : Nat) (l : List Gf.F) : Prop := parseE K N S l = none → ¬ bt l 0 = 1

theorem head_long {K N S : Nat} {l : List Gf.F} (h : parseE K N S l = none) : 2 ≤ l.length := by
  unfold parseE at h
  cases hh : headE l with
  | some e => rw [hh] at h; cases h
  | none =>
    unfold headE at hh
    split at hh
    · cases hh
    split at hh
    · cases hh
    split at hh
    · cases hh
    omega
theorem nodata_keep {K N S : Nat} {l : List Gf.F} (h : ¬ (1 < l.length ∧ bt l 0 = 1 ∧ bt l 1 < 16)) : NoData K N S l := by
  intro hp hb
  obtain ⟨_, _, h3⟩ := parse_head hp
  exact h ⟨head_long hp, hb, h3⟩
theorem nodata_poke {K N S : Nat} {l : List Gf.F} (h1 : 1 < l.length) (h2 : bt l 1 < 16) : NoData K N S (l.set 1 (by8 (bt l 1 + 16))) := by
  intro hp _
  obtain ⟨_, _, h3⟩ := parse_head hp
  have e : bt (l.set 1 (by8 (bt l 1 + 16))) 1 = bt l 1 + 16 := by
    unfold bt
    have e1 : at_ (l.set 1 (by8 ((at_ l 1).toNat + 16))) 1 = by8 ((at_ l 1).toNat + 16) := by simp [at_, List.getD, h1]
    rw [e1, by8_nat]
    unfold bt at h2
    omega
  omega
theorem poke_at {own : Nat → Nat} {w : World} {z zc : Nat} {l : List Gf.F} {v : Gf.F} (h : (⟨some ⟨z, 0, none⟩, z, 0, zc, l⟩ : Sl).At own w) (h1 : 1 < l.length) : (⟨some ⟨z, 0, none⟩, z, 0, zc, l.set 1 v⟩ : Sl).At own (w.setCell ⟨z, 1, none⟩ (.int .u8 (v.toNat : Int))) := by
  have hl : (l.set 1 v).length = l.length := by simp
  have hb := h.bs
  refine ⟨by show (l.set 1 v).length ≤ zc; rw [hl]; exact h.cap, h.max, by show (l.set 1 v).length ≤ _; rw [hl]; exact h.few, .inl rfl, fun i hi => ?_, fun h0 => ⟨?_, (h.lt (by show 0 < l.length; omega)).2⟩⟩
  · change i < (l.set 1 v).length at hi
    rw [hl] at hi
    show (w.setCell ⟨z, 1, none⟩ _).cell? ⟨z, 0 + i, none⟩ = some (.int .u8 ((at_ (l.set 1 v) i).toNat : Int))
    rw [Nat.zero_add]
    by_cases e : i = 1
    · subst e
      have hc := hb 1 (by show 1 < l.length; omega)
      change w.cell? ⟨z, 0 + 1, none⟩ = _ at hc
      rw [Nat.zero_add] at hc
      rw [World.cell?_setCell_same' w _ _ (by rw [hc]; rfl)]
      simp [at_, List.getD, h1]
    · have hc := hb i (by show i < l.length; omega)
      change w.cell? ⟨z, 0 + i, none⟩ = some (.int .u8 ((at_ l i).toNat : Int)) at hc
      rw [Nat.zero_add] at hc
      have hne : (⟨z, 1, none⟩ : Addr) ≠ ⟨z, i, none⟩ := fun q => e (congrArg Addr.off q).symm
      have hso := World.cell?_setCell_other (w := w) (a := ⟨z, 1, none⟩) (b := ⟨z, i, none⟩) (v := .int .u8 (v.toNat : Int)) hne
      rw [hso, hc]
      have : at_ (l.set 1 v) i = at_ l i := by simp [at_, List.getD, Ne.symm e]
      rw [this]
  · have := (h.lt (by show 0 < l.length; omega)).1
    change z < w.heap.size at this
    show z < (w.setCell _ _).heap.size
    simpa using this
theorem unfrozen_row {w : World} {z fr j : Nat} {cs : Array Value} {ty : TypeId} (h : w.heap[z]? = some (.cells cs ty (fr, fr + 1))) (hj : j < fr) : w.frozen? ⟨z, j, none⟩ = false := by
  simp [World.frozen?, h]
  omega

/-- A receiver hears noise. -/
theorem noise_rcv {A : Nat → Addr} {B0 B nb r : Nat} {own : Nat → Nat} {w : World} {st : Nt} (h : NI A B0 B own w nb st) (g : NG st) (hr : r < st.rs.length) (hs : (rcat st.rs r).2.shut = false) {x : Sl} (hx : x.At own w) (hn : NoData st.K st.N st.S x.l) :
    Calls Tryz.prog 21 #[.pointer (some ⟨(rcat st.rs r).1, 0, none⟩), x.val] w fun e w' => (∃ own', NI A B0 B own' w' nb st ∧ Fr own w own' w') ∧ ((parseE st.K st.N st.S x.l = none ∧ e = .returned .nilIface) ∨ (parseE st.K st.N st.S x.l ≠ none ∧ ∃ pb, e = .returned (.iface 166 (.pointer (some ⟨pb, 0, none⟩))))) := by
  refine (rcvHear_any (h.rcv r hr) (h.rok r hr) h.errs h.typ (Nat.lt_of_lt_of_le h.typLow h.leB) (l := x.l) rfl hx.cap hx.max hx.few hx.at_ hx.bs (fun h0 => (hx.lt h0).1) (by rw [g.un r hr]; simp)).mono ?_
  intro e w' q
  obtain ⟨c1, c2, c3⟩ := (g.gen r hr).cfg
  unfold RcvHears at q
  rw [hs, if_neg (by simp), c1, c2, c3] at q
  cases hp : parseE st.K st.N st.S x.l with
  | none =>
    rw [hp] at q
    simp only at q
    rw [if_pos (.inl (hn hp))] at q
    obtain ⟨rfl, hb⟩ := q
    obtain ⟨h1, hf⟩ := h.above 1 hb
    exact ⟨⟨_, h1, hf⟩, .inl ⟨rfl, rfl⟩⟩
  | some ep =>
    obtain ⟨c, k⟩ := ep
    rw [hp] at q
    obtain ⟨v, rfl, ⟨pb, rfl, _⟩, hb⟩ := q
    obtain ⟨h1, hf⟩ := h.above 1 hb
    exact ⟨⟨_, h1, hf⟩, .inr ⟨by simp, pb, rfl⟩⟩

/-- The sender hears it. -/
theorem noise_snd {A : Nat → Addr} {B0 B nb : Nat} {own : Nat → Nat} {w : World} {st : Nt} (h : NI A B0 B own w nb st) (g : NG st) {x : Sl} (hx : x.At own w) :
    Calls Tryz.prog 16 #[.pointer (some ⟨st.sb, 0, none⟩), x.val] w fun e w' => (∃ own', NI A B0 B own' w' nb (st.withS (hearS st.s x.l)) ∧ NG (st.withS (hearS st.s x.l)) ∧ Fr own w own' w') ∧ ∃ v, e = .returned v ∧ (parseE st.K st.N st.S x.l ≠ none → ∃ pb, v = .iface 166 (.pointer (some ⟨pb, 0, none⟩))) ∧ (v = .nilIface ∨ ∃ pb, v = .iface 166 (.pointer (some ⟨pb, 0, none⟩))) := by
  refine (netTell_any h g hx).mono ?_
  rintro e w' ⟨v, own', rfl, hv, h1, g1, hf⟩
  obtain ⟨f1, f2, f3⟩ := g.cfg
  refine ⟨⟨own', h1, g1, hf⟩, v, rfl, fun hp => ?_, ?_⟩
  · unfold hearZ at hv
    rw [f1, f2, f3] at hv
    cases hq : parseE st.K st.N st.S x.l with
    | none => exact absurd hq hp
    | some ep =>
      obtain ⟨c, k⟩ := ep
      rw [hq] at hv
      obtain ⟨i, hi, hc⟩ := parseE_code hq
      rcases hv with ⟨z, _⟩ | ⟨j, _, z, _⟩ | ⟨j, pb, _, _, z, _⟩
      · simp only [Prod.mk.injEq] at z; omega
      · simp only [Prod.mk.injEq] at z; omega
      · exact ⟨pb, z⟩
  · have hz : hearZ st.s x.l = (0, -1) ∨ 0 ≤ (hearZ st.s x.l).2 := by
      unfold hearZ
      split
      · exact .inr (by simp)
      · split
        · exact .inr (by simp)
        · split
          · exact .inr (by simp)
          · split
            · exact .inr (by simp)
            · exact .inl rfl
    rcases hv with ⟨_, z⟩ | ⟨j, _, z, _⟩ | ⟨j, pb, _, _, z, _⟩
    · exact .inl z
    · rw [z] at hz
      simp at hz
      omega
    · exact .inr ⟨pb, z⟩

/-- Parse of it. -/
theorem noise_parse {A : Nat → Addr} {B0 B nb : Nat} {own : Nat → Nat} {w : World} {st : Nt} (h : NI A B0 B own w nb st) {K N S : Nat} (hc : Cfg K N S) {x : Sl} (hx : x.At own w) :
    Calls Tryz.prog 22 #[.agg #[.int .i64 (K : Int), .int .i64 (N : Int), .int .i64 (S : Int)], x.val] w fun e w' => (∃ own', NI A B0 B own' w' nb st ∧ Fr own w own' w') ∧ ∃ (a0 a1 a2 a3 a4 : Int) (p5 p6 : Option Addr) (n5 c5 n6 c6 : Nat) (v : Value), e = .returned (.tuple #[.agg #[.int .i64 a0, .int .i64 a1, .int .i64 a2, .int .i64 a3, .int .i64 a4, .slice p5 n5 c5, .slice p6 n6 c6], v]) ∧
      ((parseE K N S x.l = none ∧ v = .nilIface) ∨ (parseE K N S x.l ≠ none ∧ ∃ pb, v = .iface 166 (.pointer (some ⟨pb, 0, none⟩)))) := by
  refine (mparse_ok A B0 x.a x.b x.o x.l.length x.c K N S x.l w h.errs h.typ (Nat.lt_of_lt_of_le h.typLow h.leB) hc (cfgB_of hc) rfl hx.cap hx.max hx.few hx.at_ hx.bs (fun h0 => (hx.lt h0).1)).mono ?_
  rintro e w' ⟨q, hb⟩
  obtain ⟨h1, hf⟩ := h.above 1 hb
  refine ⟨⟨_, h1, hf⟩, ?_⟩
  cases hp : parseE K N S x.l with
  | none =>
    rw [hp] at q
    simp only at q
    split at q
    · obtain ⟨a, c1, rfl, _⟩ := q
      exact ⟨_, _, _, _, _, _, _, _, _, _, _, _, rfl, .inl ⟨rfl, rfl⟩⟩
    · obtain ⟨a, c1, rfl, _⟩ := q
      exact ⟨_, _, _, 0, 0, _, _, _, _, _, _, _, rfl, .inl ⟨rfl, rfl⟩⟩
  | some ep =>
    obtain ⟨c, k⟩ := ep
    rw [hp] at q
    obtain ⟨v, rfl, ⟨pb, rfl, _⟩⟩ := q
    exact ⟨0, 0, 0, 0, 0, _, _, _, _, _, _, _, rfl, .inr ⟨by simp, pb, rfl⟩⟩

/-- Bad, held against nil. -/
theorem bad_nil (pb : Nat) (w : World) : (binOp .eql 45 (.iface 166 (.pointer (some ⟨pb, 0, none⟩))) .nilIface).run Tryz.prog w = .ok (.bool false) w := by
  have := run_eql_held_nil (P := Tryz.prog) w 45 166 (.pointer (some ⟨pb, 0, none⟩)) (by kernel_rfl)
  simpa using this

end Go.Proofs.YtjabhnhejbhgjaaGreatDoor
